import PyProof.Rows.All
import Wide.All
import OpenK.AllK
import Wide.FinOn
import Lean
import PyProof.EqAt
import PyProof.EqKinds
import PyProof.TupleCall
import PySem.Challenge.RW_boxnarrow_k66_whole_forged_books
theorem Vaa:type_of% @Nat.le_refl:=@Nat.le_refl
theorem Vab:type_of% @List.getElem?_eq_some_iff:=@List.getElem?_eq_some_iff
theorem Vac:type_of% @List.length_map:=@List.length_map
theorem Vad:type_of% @List.length_append:=@List.length_append
theorem Vae:type_of% @List.getElem?_eq_getElem:=@List.getElem?_eq_getElem
theorem Vaf:type_of% @List.mem_cons:=@List.mem_cons
theorem Vag:type_of% @List.getElem?_map:=@List.getElem?_map
theorem Vah:type_of% @List.getElem?_append_left:=@List.getElem?_append_left
theorem Vai:type_of% @List.append_nil:=@List.append_nil
theorem Vaj:type_of% @Int.toNat_natCast:=@Int.toNat_natCast
theorem Vak:type_of% @List.size_toArray:=@List.size_toArray
theorem Val:type_of% @List.mem_of_getElem?:=@List.mem_of_getElem?
theorem Vam:type_of% @Int.mul_le_mul_of_nonneg_right:=@Int.mul_le_mul_of_nonneg_right
theorem Van:type_of% @Nat.ne_of_lt:=@Nat.ne_of_lt
theorem Vao:type_of% @Bool.false_ne_true:=@Bool.false_ne_true
theorem Vap:type_of% @List.length_cons:=@List.length_cons
theorem Vaq:type_of% @List.getElem?_append_right:=@List.getElem?_append_right
theorem Var:type_of% @List.map_cons:=@List.map_cons
theorem Vas:type_of% @List.getD_eq_getElem?_getD:=@List.getD_eq_getElem?_getD
theorem Vat:type_of% @List.append_assoc:=@List.append_assoc
theorem Vau:type_of% @Nat.lt_of_lt_of_le:=@Nat.lt_of_lt_of_le
theorem Vav:type_of% @List.map_append:=@List.map_append
theorem Vaw:type_of% @List.length_take:=@List.length_take
theorem Vax:type_of% @List.lookup_cons:=@List.lookup_cons
theorem Vay:type_of% @List.not_mem_nil:=@List.not_mem_nil
theorem Vaz:type_of% @Nat.le_trans:=@Nat.le_trans
theorem VaA:type_of% @Nat.zero_le:=@Nat.zero_le
theorem VaB:type_of% @List.mem_append_right:=@List.mem_append_right
theorem VaC:type_of% @Nat.lt_irrefl:=@Nat.lt_irrefl
theorem VaD:type_of% @List.getElem?_set_self:=@List.getElem?_set_self
theorem VaE:type_of% @List.mem_singleton:=@List.mem_singleton
theorem VaF:type_of% @Option.map_eq_some_iff:=@Option.map_eq_some_iff
theorem VaG:type_of% @List.mem_cons_of_mem:=@List.mem_cons_of_mem
theorem VaH:type_of% @List.getElem?_set_ne:=@List.getElem?_set_ne
theorem VaI:type_of% @Int.pow_succ:=@Int.pow_succ
theorem VaJ:type_of% @List.getElem?_eq_none_iff:=@List.getElem?_eq_none_iff
theorem VaK:type_of% @List.length_set:=@List.length_set
theorem VaL:type_of% @Int.mul_nonneg:=@Int.mul_nonneg
theorem VaM:type_of% @List.length_nil:=@List.length_nil
theorem VaN:type_of% @List.mem_iff_getElem:=@List.mem_iff_getElem
theorem VaO:type_of% @Int.neg_mul:=@Int.neg_mul
theorem VaP:type_of% @Nat.sub_self:=@Nat.sub_self
theorem VaQ:type_of% @List.mem_append:=@List.mem_append
theorem VaR:type_of% @Int.le_refl:=@Int.le_refl
theorem VaS:type_of% @Int.pow_pos:=@Int.pow_pos
theorem VaT:type_of% @List.mem_cons_self:=@List.mem_cons_self
theorem VaU:type_of% @Nat.mul_le_mul:=@Nat.mul_le_mul
theorem VaV:type_of% @Int.le_trans:=@Int.le_trans
theorem VaW:type_of% @Nat.le_of_lt:=@Nat.le_of_lt
theorem VaX:type_of% @Option.isSome_iff_exists:=@Option.isSome_iff_exists
theorem VaY:type_of% @List.length_drop:=@List.length_drop
theorem VaZ:type_of% @List.find?_cons:=@List.find?_cons
theorem Va0:type_of% @Int.mul_comm:=@Int.mul_comm
theorem Va1:type_of% @List.take_of_length_le:=@List.take_of_length_le
theorem Va2:type_of% @Int.pow_zero:=@Int.pow_zero
theorem Va3:type_of% @Int.le_of_mul_le_mul_right:=@Int.le_of_mul_le_mul_right
theorem Va4:type_of% @List.mem_map:=@List.mem_map
theorem Va5:type_of% @Bool.eq_iff_iff:=@Bool.eq_iff_iff
theorem Va6:type_of% @List.getElem_mem:=@List.getElem_mem
theorem Va7:type_of% @Int.natAbs_mul:=@Int.natAbs_mul
theorem Va8:type_of% @List.take_succ:=@List.take_succ
theorem Va9:type_of% @Int.mul_pos:=@Int.mul_pos
theorem Vba:type_of% @List.length_range:=@List.length_range
set_option Elab.async false
set_option linter.all false
set_option maxRecDepth 100000
set_option genSizeOf false
set_option maxHeartbeats 40000000
namespace L2
open PySem PySem.Spec PyProof.Rows
def zaG (s:Stmt)(j:Nat):Stmt:=match s with
 | .ClassDef _ _ _ body _ _ _ _ _ _ _=>body.getD j (.Pass ⟨0,0,0,0⟩)
 | _=>.Pass ⟨0,0,0,0⟩
def zcP (s:Stmt):Arguments:=match s with
 | .FunctionDef _ a _ _ _ _ _ _ _ _=>a
 | _=>{ posonlyargs:=[],args:=[],vararg:=none,kwonlyargs:=[],kw_defaults:=[],kwarg:=none,defaults:=[] }
def zcv (s:Stmt):List Stmt:=match s with
 | .FunctionDef _ _ b _ _ _ _ _ _ _=>b
 | _=>[]
def zak (s:Stmt):Scope:=match s with
 | .FunctionDef _ _ _ _ _ _ sc _ _ _=>sc
 | _=>{ kind:=.function,names:=[],isGenerator:=false,isCoroutine:=false }
end L2
namespace L3
open PySem PySem.W PyProof.Rows PySem.Calls
theorem zmM {α β γ δ:Type}{f:α→Option β}{A:β→γ}{B:β→δ}{a:γ}{b:δ}(h1:(λx=>(f x).map A)=λ_=>some a)(h2:(λx=>(f x).map B)=λ_=>some b):(λx=>(f x).map λs=>(A s,B s))=λ_=>some (a,b):=by
 funext x
 have e1:=congrFun h1 x
 have e2:=congrFun h2 x
 cases h:f x with
 | none=>rw[h] at e1; cases e1
 | some s=>
  rw[h] at e1 e2
  exact congrArg some (Prod.ext (Option.some.inj e1) (Option.some.inj e2))
def goT (tb:String→Option Builtin)(p:Program)(w:World)(n₀:Nat)(ann:Option Value):Nat→SharedT→Thread→Option SharedT
 | 0,_,_=>none
 | k+1,s,t=>bif through t then some s else bif stepOk n₀ ann t then (stepT (denote tb) p w s t).bind (λr=>goT tb p w n₀ ann k r.1 r.2) else none
theorem zol {tb:String→Option Builtin}{p:Program}{w:World}{n₀:Nat}{ann:Option Value}:∀ {n:Nat} {s s':SharedT} {t:Thread},goT tb p w n₀ ann n s t=some s'→topRun tb p w n₀ ann n s.abs t=some s'.abs
 | 0,_,_,_,q=>nomatch q
 | n+1,s,s',t,q=>by
  unfold goT at q
  unfold topRun
  cases c1:through t
  ·rw[c1] at q
   cases c2:stepOk n₀ ann t
   ·rw[c2] at q
    exact nomatch q
   ·rw[c2] at q
    obtain⟨⟨s2,t2⟩,c3,q⟩:=Option.bind_eq_some_iff.mp q
    rw[stepT_spec c3]
    exact zol q
  ·rw[c1] at q
   cases q
   rfl
def zmP (os:Array Obj):Nat→Nat→Nat→BT
 | 0,_,_=>.nil
 | f+1,a,b=>match os[b]? with
  | some o=>.node o (zmP os f (2*a) (a+b)) (zmP os f (2*a) (2*a+b))
  | none=>.nil
noncomputable def bootT (P:Params):BT:=zmP (boot_heap P).objs 6 1 0
noncomputable abbrev ze3 (w:World)(os:OsState):SharedT:=⟨bootT w.params,11,(boot_heap w.params).life,Array.mk [],boot_drawn,boot_toks,os⟩
def zi9 (s:SharedT)(a:Addr):Option Obj:=if a<s.n then (match s.tree.get a with | some o=>alive o | none=>s.abs.heap.get? a) else none
theorem zu1 (s:SharedT)(a:Addr):s.abs.heap.get? a=zi9 s a:=by
 unfold zi9
 split
 ·rename_i h
  cases e:s.tree.get a with
  | none=>rfl
  | some o=>exact abs_get h e
 ·rename_i h
  exact abs_get_none h
theorem zpi (l:List Addr)(s:SharedT):l.map s.abs.heap.get?=l.map (zi9 s):=List.map_congr_left λa _=>zu1 s a
noncomputable abbrev seenT (p q:Program)(loose:List Str)(Xt:Shared→Bool){α:Type}(YT:SharedT→α)(g0:Bool)(w:World)(s:SharedT):=
 ((staticsOk (importedModules p.main.body) (boot_heap w.params) s.abs.heap&&namesBound p s.abs.heap&&gensDone s.abs&&laidKept (boot_heap w.params) s.abs.heap),openSeen q loose (importedModules p.main.body) Xt g0 s.abs,YT s)
noncomputable abbrev zlD (p:Program)(w:World)(s:SharedT):Bool:=staticsOk (importedModules p.main.body) (boot_heap w.params) s.abs.heap&&namesBound p s.abs.heap&&gensDone s.abs&&laidKept (boot_heap w.params) s.abs.heap
def goK (tb:String→Option Builtin)(p:Program)(w:World)(n₀:Nat)(ann:Option Value):Nat→SharedT→Thread→Option (SharedT×Thread)
 | 0,s,t=>some (s,t)
 | k+1,s,t=>bif through t then none else bif stepOk n₀ ann t then (stepT (denote tb) p w s t).bind (λr=>goK tb p w n₀ ann k r.1 r.2) else none
theorem zoo {tb:String→Option Builtin}{p:Program}{w:World}{n₀:Nat}{ann:Option Value}:∀ {n:Nat} {s s':SharedT} {t t':Thread},goK tb p w n₀ ann n s t=some (s',t')→topGo tb p w n₀ ann n s.abs t=some (s'.abs,t')
 | 0,_,_,_,_,q=>by cases q; rfl
 | n+1,s,s',t,t',q=>by
  unfold goK at q
  unfold topGo
  cases c1:through t
  ·rw[c1] at q
   cases c2:stepOk n₀ ann t
   ·rw[c2] at q
    exact nomatch q
   ·rw[c2] at q
    obtain⟨⟨s2,t2⟩,c3,q⟩:=Option.bind_eq_some_iff.mp q
    rw[stepT_spec c3]
    exact zoo q
  ·rw[c1] at q
   exact nomatch q
theorem zsr {p:Program}{w:World}{os:OsState}{ann:Option Value}{env:Env}{c:Code}{posa posb q:Pos}{n0 nb N2 N:Nat}{Sa Sb s':SharedT}(hc:c=Code.body (behindTheImports p) env)
  (pre:goK treeTable p w 11 ann n0 (ze3 w os) (topStub p)=some (Sa,⟨denote treeTable c,c,posa,[topFrame q]⟩))
  (block:segRunT treeTable p w 11 ann 1 nb Sa (blockOf (behindTheImports p) env c posa [topFrame q])=some (.next,Sb,c,posb))
  (e:n0+(nb+N2)=N)(r:topRun treeTable p w 11 ann N2 Sb.abs (restOf (behindTheImports p) env c posb [topFrame q])=some s'.abs):topRun treeTable p w 11 ann N (ze3 w os).abs (topStub p)=some s'.abs:=by
 subst e hc
 exact go_top (zoo pre) (piece_block (segRun_of block) r)
theorem zsm {p:Program}{w:World}{ann:Option Value}{env:Env}{c:Code}{pos1 pos2 q:Pos}{l:List Stmt}{n1 N2 m:Nat}{S1 S2 s':SharedT}
  (p1:segRunT treeTable p w 11 ann 1 n1 S1 (piecesOf (l.take m) env c pos1 [topFrame q])=some (.next,S2,c,pos2))
  (r:topRun treeTable p w 11 ann N2 S2.abs (restOf (l.drop m) env c pos2 [topFrame q])=some s'.abs):topRun treeTable p w 11 ann (n1+N2) S1.abs (restOf l env c pos1 [topFrame q])=some s'.abs:=by
 have z:=piece_app (segRun_of p1) r
 rw[List.take_append_drop] at z
 exact z
theorem zuR {p q:Program}{loose:List Str}{Xt:Shared→Bool}{α:Type}{Yf:Shared→α}{YT:SharedT→α}{Ya:World→α}{N:Nat}{g0:Bool}{ann:Option Value}{go:World→OsState→Option SharedT}(hY:∀s:SharedT,Yf s.abs=YT s)(e:opening p=plainProg p.main.scope.names)(hN:Nat.ble 600 N=true)(f:∀s,fenceModules? p s=some s)
  (size:∀w:World,((boot_heap w.params).isNs mainGlobals&&(Array.mk []:Array GenState).size==0,(boot_heap w.params).objs.size,(boot_heap w.params).nsMap mainGlobals "__annotations__")=(true,11,ann))
  (hgo:∀w os s',go w os=some s'→topRun treeTable p w 11 ann N (ze3 w os).abs (topStub p)=some s'.abs)
  (run:∀w:World,(λos=>(go w os).map λs=>seenT p q loose Xt YT g0 w s)=λ_=>some (true,openGood q loose,Ya w)):LeftO p q loose Xt Yf Ya N g0:=λw=>by
 obtain⟨⟨h,gs,d,k,os⟩,e1,e'⟩:=VaF.mp (boot_open e hN f w)
 obtain⟨rfl,rfl,rfl,rfl⟩:h=boot_heap w.params∧gs=Array.mk []∧d=boot_drawn∧k=boot_toks:=by simpa using e'
 obtain⟨y1,y2,y3⟩:_∧_∧_:=by simpa only [Prod.mk.injEq] using size w
 obtain⟨s',r1,r2⟩:=VaF.mp (congrFun (run w) os)
 obtain⟨l1,l2,l3⟩:_∧_∧_:=by simpa only [Prod.mk.injEq] using r2
 have r:topRun treeTable p w 11 ann N ⟨boot_heap w.params,Array.mk [],boot_drawn,boot_toks,os⟩ (topStub p)=some s'.abs:=hgo w os s' r1
 have t:topFrom treeTable p w N ⟨boot_heap w.params,Array.mk [],boot_drawn,boot_toks,os⟩=some s'.abs:=by
  unfold topFrom
  dsimp only
  rw[y1,y2,y3,r]
  show (match staticsOk (importedModules p.main.body) (boot_heap w.params) s'.abs.heap&&namesBound p s'.abs.heap&&gensDone s'.abs&&laidKept (boot_heap w.params) s'.abs.heap with | true=>_ | false=>_)=_
  rw[l1]
 unfold openEnds
 rw[e1]
 show Option.map _ (topFrom treeTable p w N _)=_
 rw[t]
 exact congrArg some (Prod.ext l2 ((hY s').trans l3))
theorem zvz {p q:Program}{loose:List Str}{Xt:Shared→Bool}{α:Type}{Yf:Shared→α}{YT:SharedT→α}{Ya:World→α}{N:Nat}{g0:Bool}{ann:Option Value}{go:World→OsState→Option SharedT}(hY:∀s:SharedT,Yf s.abs=YT s)(e:opening p=plainProg p.main.scope.names)(hN:Nat.ble 600 N=true)(f:∀s,fenceModules? p s=some s)
  (size:∀w:World,((boot_heap w.params).isNs mainGlobals&&(Array.mk []:Array GenState).size==0,(boot_heap w.params).objs.size,(boot_heap w.params).nsMap mainGlobals "__annotations__")=(true,11,ann))
  (hgo:∀w os s',go w os=some s'→topRun treeTable p w 11 ann N (ze3 w os).abs (topStub p)=some s'.abs)
  (ra:∀w:World,(λos=>(go w os).map λs=>(zlD p w s,(openSeen q loose (importedModules p.main.body) Xt g0 s.abs).1))=λ_=>some (true,(openGood q loose).1))
  (rb:∀w:World,(λos=>(go w os).map λs=>((openSeen q loose (importedModules p.main.body) Xt g0 s.abs).2.1,(openSeen q loose (importedModules p.main.body) Xt g0 s.abs).2.2.1))=λ_=>some ((openGood q loose).2.1,(openGood q loose).2.2.1))
  (rc:∀w:World,(λos=>(go w os).map λs=>(openSeen q loose (importedModules p.main.body) Xt g0 s.abs).2.2.2)=λ_=>some (openGood q loose).2.2.2)
  (objs:∀w:World,(λos=>(go w os).map YT)=λ_=>some (Ya w)):LeftO p q loose Xt Yf Ya N g0:=by
 refine zuR hY e hN f size hgo λw=>funext λos=>?_
 obtain⟨s1,a1,b1⟩:=VaF.mp (congrFun (ra w) os)
 obtain⟨s2,a2,b2⟩:=VaF.mp (congrFun (rb w) os)
 obtain⟨s3,a3,b3⟩:=VaF.mp (congrFun (rc w) os)
 obtain⟨s4,a4,b4⟩:=VaF.mp (congrFun (objs w) os)
 rw[a1] at a2 a3 a4
 cases a2
 cases a3
 cases a4
 obtain⟨l1,l2⟩:=Prod.mk.inj b1
 obtain⟨l3,l4⟩:=Prod.mk.inj b2
 have l5:openSeen q loose (importedModules p.main.body) Xt g0 s1.abs=openGood q loose:=Prod.ext l2 (Prod.ext l3 (Prod.ext l4 b3))
 rw[a1]
 show some (zlD p w s1,openSeen q loose (importedModules p.main.body) Xt g0 s1.abs,YT s1)=some (true,openGood q loose,Ya w)
 rw[l1,l5,b4]
def frc {α:Type}:BT→(BT→α)→α
 | .nil,k=>k .nil
 | .node o l r,k=>frc l λl'=>frc r λr'=>k (.node o l' r')
theorem zlO {α:Type}:∀(t:BT) (k:BT→α),frc t k=k t
 | .nil,_=>rfl
 | .node o l r,k=>by
  show frc l (λl'=>frc r λr'=>k (.node o l' r'))=_
  rw[zlO l,zlO r]
def odB:List Obj→List Obj
 | x::_::r=>x::odB r
 | l=>l
def evB:List Obj→List Obj
 | _::y::r=>y::evB r
 | _=>[]
def mkB:Nat→List Obj→BT
 | d+1,o::l=>.node o (mkB d (odB l)) (mkB d (evB l))
 | _,_=>.nil
abbrev tpO (l:List Value):Obj:=⟨.type "tuple",none,.seq ⟨l⟩ 0,#[]⟩
abbrev fdO (l:List Value):Obj:=⟨.none,none,.fields ⟨l⟩,#[]⟩
def nmO:Nat→List Str→List Value
 | _,[]=>[]
 | t,x::r=>.str x t::nmO (t+1) r
abbrev coO (n q:Str)(t j:Nat)(i k:Int)(a s:Nat)(y z:Value)(f:Nat):Obj:=⟨.type "code",none,.fields #[.str n t,.str q (t+1),.str "/claim/cut.py" (t+2),.int i 0,.int k 0,.int 0 0,.int 0 0,.int 3 0,.ref a,.bool Bool.true,.int 181 0,.ref s,.none,y,z,.ref f,.int j 0,.int i 0,.str "/claim/cut.py" (j+1)],#[]⟩
abbrev fuO (n q:Str)(st:Stmt)(m d:Value):Obj:=⟨.type "function",none,.func (PySem.W.fnOf n q (L2.zcP st) (L2.zcv st) (L2.zak st) .none .none .none m none d .none),#[]⟩
abbrev fnO (n q:Str)(st:Stmt):Obj:=⟨.none,none,.func { PySem.W.fnOf n q (L2.zcP st) (L2.zcv st) (L2.zak st) .none .none .none .none none .none .none with globals:=0 },#[]⟩
def df (n q:Str)(st:Stmt)(m:Value)(i k:Int)(a t:Nat)(vs:List Str):List Obj:=[tpO [],fdO [],tpO (nmO (t+3) vs),tpO [],fnO n q st,coO n q t (t+3+vs.length) i k a (a+1) (.ref (a+2)) (.ref (a+3)) (a+4),fuO n q st m (.ref (a+5))]
def dg (n q:Str)(st:Stmt)(m:Value)(i k:Int)(a t:Nat):List Obj:=[tpO [],fdO [],fnO n q st,coO n q t (t+3) i k a (a+1) .none .none (a+2),fuO n q st m (.ref (a+3))]
end L3
namespace Mine
open PySem PySem.Spec PyProof.Rows L2 L3
def top (i:Nat):Stmt:=PySem.Challenge.pw_boxnarrow_k66_whole_forged_books.main.body.getD i (.Pass ⟨0,0,0,0⟩)
theorem ws_eq:PySem.W.OpenLaw.wellSaid PySem.Challenge.rw_boxnarrow_k66_whole_forged_books=true:=by
 unfold PySem.W.OpenLaw.wellSaid
 repeat' (with_reducible refine PySem.W.look_both ?_ ?_)
 all_goals decide +kernel
def vw:Program:={ PySem.Challenge.pw_boxnarrow_k66_whole_forged_books with main:={ PySem.Challenge.pw_boxnarrow_k66_whole_forged_books.main with body:=[top 0,top 2,top 3,top 5,top 6,top 8,top 9,top 10,top 11,top 12,top 13,top 14,top 15,top 16,top 17,top 19,top 20,top 21,top 22,top 23,top 24,top 25,top 26,top 27,top 29,top 30,top 32,top 33,top 34,top 35,top 36,top 37,top 38,top 39,top 40,top 41,top 43,top 45,top 46,top 47,top 48,top 49,top 50,top 51,top 52,top 53,top 54,top 55,top 56,top 57,top 58,top 59,top 61,top 62,top 63,top 64,top 65,top 66,top 67,top 68,top 69,top 70,top 71,top 72,top 73,top 74,top 75,top 76,top 77,top 78,top 79,top 80,top 81,top 82,top 83,top 84,top 85,top 86,top 87,top 88] } }
noncomputable abbrev de (P:Params)(s:Str)(t:Tok)(v:Value):DictEntry:=⟨PySem.PyData.keyHash P s,.str s t,v⟩
abbrev co (n q:Str)(a b c d:Tok)(i k:Int)(r s:Addr)(y z:Value)(t:Addr)(j:Int):Obj:=⟨.type "code",none,.fields #[.str n a,.str q b,.str "/claim/cut.py" c,.int i 0,.int k 0,.int 0 0,.int 0 0,.int 3 0,.ref r,.bool Bool.true,.int 181 0,.ref s,.none,y,z,.ref t,.int j 0,.int i 0,.str "/claim/cut.py" d],#[]⟩
abbrev fo (n q:Str)(st:Stmt)(m:Value)(c:Addr):Obj:=⟨.type "function",none,.func (PySem.W.fnOf n q (zcP st) (zcv st) (zak st) .none .none .none m none (.ref c) .none),#[]⟩
noncomputable def kp:Params→PySem.W.Frag:=λP=>
 (nat_lit 3,(.mk (.type "dict") none (.dict #[(de P "__name__" 165 (.str "law_boxnarrow_k66_whole_forged_books" 1039)),(de P "__doc__" 166 .none),(de P "__package__" 167 .none),(de P "__loader__" 168 (.builtin "__main__.__loader__#opaque")),(de P "__spec__" 169 .none),(de P "__annotations__" 170 (.ref 6)),(de P "__builtins__" 171 (.ref 4)),(de P "__file__" 173 (.str "/claim/cut.py" 172)),(de P "__cached__" 174 .none),(de P "_wall" 193 (.ref 21)),(de P "BoxError" 213 (.ref 31)),(de P "NoSpan" 229 (.ref 44)),(de P "raised" 241 (.ref 53)),(de P "less" 249 (.ref 60)),(de P "rounded_up" 259 (.ref 67)),(de P "span_of" 268 (.ref 74)),(de P "add_spans" 276 (.ref 81)),(de P "take_spans" 284 (.ref 88)),(de P "mul_spans" 294 (.ref 95)),(de P "raise_span" 300 (.ref 100)),(de P "scale_span" 308 (.ref 107)),(de P "inside" 316 (.ref 114)),(de P "deep" 324 (.ref 121)),(de P "middle" 331 (.ref 128)),(de P "Node" 353 (.ref 138)),(de P "Number" 421 (.ref 187)),(de P "Unknown" 481 (.ref 232)),(de P "Pair" 524 (.ref 263)),(de P "Plus" 593 (.ref 310)),(de P "Minus" 662 (.ref 357)),(de P "Times" 731 (.ref 404)),(de P "Power" 793 (.ref 449)),(de P "kind_of" 800 (.ref 458)),(de P "bars" 810 (.ref 465)),(de P "sure" 818 (.ref 472)),(de P "equation_places" 826 (.ref 477)),(de P "picked" 832 (.ref 482)),(de P "middles" 838 (.ref 487)),(de P "box_of_middles" 844 (.ref 492)),(de P "sum_of_products" 856 (.ref 499)),(de P "lacking" 862 (.ref 504)),(de P "span_by" 868 (.ref 509)),(de P "step_by" 874 (.ref 514)),(de P "leasts_are_sure" 880 (.ref 519)),(de P "all_deep" 886 (.ref 524)),(de P "with_span" 897 (.ref 531)),(de P "all_inside" 905 (.ref 536)),(de P "all_as_long" 911 (.ref 541)),(de P "is_square" 919 (.ref 548)),(de P "right_spans" 925 (.ref 553)),(de P "right_slopes" 931 (.ref 558)),(de P "right_for_all" 941 (.ref 565)),(de P "right_out" 955 (.ref 572)),(de P "right_full" 961 (.ref 577)),(de P "right_near" 975 (.ref 584)),(de P "right_one" 987 (.ref 591)),(de P "right_cut" 1003 (.ref 598)),(de P "parts_of" 1013 (.ref 605)),(de P "is_whole_tree" 1019 (.ref 610)),(de P "right_entry" 1032 (.ref 617)),(de P "right_book" 1038 (.ref 622)),(de P "_law_free" 1047 (.ref 629)),(de P "_law_cell" 1058 (.ref 636)),(de P "_law_any" 1065 (.ref 643)),(de P "_law_lowest" 1075 (.ref 650)),(de P "_law_number" 1082 (.ref 657)),(de P "_law_put" 1092 (.ref 664)),(de P "_law_grow" 1109 (.ref 671)),(de P "_law_grid" 1116 (.ref 678)),(de P "_law_side" 1126 (.ref 685)),(de P "_law_often" 1136 (.ref 692)),(de P "_law_plus" 1144 (.ref 699)),(de P "_law_less" 1152 (.ref 706)),(de P "_law_product" 1162 (.ref 713)),(de P "_law_raised" 1173 (.ref 720)),(de P "_law_forth" 1186 (.ref 727)),(de P "_law_point" 1198 (.ref 734)),(de P "_law_at" 1206 (.ref 741)),(de P "_law_factors" 1219 (.ref 748)),(de P "_law_sum" 1229 (.ref 755)),(de P "_law_row" 1243 (.ref 762)),(de P "_law_forged" 1253 (.ref 769)),(de P "_law_last" 1264 (.ref 776)),(de P "_law_paper" 1281 (.ref 783)),(de P "_law_any_room" 1297 (.ref 790)),(de P "_law_copied" 1303 (.ref 795)),(de P "_law_tree" 1323 (.ref 802)),(de P "_law_others" 1334 (.ref 809)),(de P "law" 1340 (.ref 814))] 89) #[]))::
 (nat_lit 30,(.mk (.type "dict") none (.dict #[(de P "__module__" 203 (.str "boxnarrow.errors" 194)),(de P "__firstlineno__" 207 (.int 5 206)),(de P "__static_attributes__" 208 (.ref 29)),(de P "__weakref__" 210 (.ref 32)),(de P "__doc__" 211 .none)] 3) #[]))::
 (nat_lit 31,(.mk (.type "type") none (.cls (PySem.ClassData.mk "BoxError" [(.type "ValueError")] [(.ref 31),(.type "ValueError"),(.type "Exception"),(.type "BaseException"),(.type "object")] 30 "BoxError" Bool.true [] [(.ref 44)] Bool.false none Bool.false)) #[(some (.ref 22)),none,(some (.str "BoxError" 196)),(some (.str "BoxError" 204)),(some (.builtin "ValueError.__new__")),(some (.bool Bool.true))]))::
 (nat_lit 43,(.mk (.type "dict") none (.dict #[(de P "__module__" 221 (.str "boxnarrow.errors" 194)),(de P "__firstlineno__" 225 (.int 7 224)),(de P "__static_attributes__" 226 (.ref 42)),(de P "__doc__" 227 .none)] 2) #[]))::
 (nat_lit 44,(.mk (.type "type") none (.cls (PySem.ClassData.mk "NoSpan" [(.ref 31)] [(.ref 44),(.ref 31),(.type "ValueError"),(.type "Exception"),(.type "BaseException"),(.type "object")] 43 "NoSpan" Bool.true [] [] Bool.false none Bool.false)) #[(some (.ref 35)),none,(some (.str "NoSpan" 214)),(some (.str "NoSpan" 222)),(some (.builtin "ValueError.__new__")),(some (.bool Bool.true))]))::
 (nat_lit 52,co "raised" "raised" 232 233 234 240 10 2 47 48 (.ref 49) (.ref 50) 51 239)::
 (nat_lit 53,fo "raised" "raised" (top 5) (.str "boxnarrow.fractions" 230) 52)::
 (nat_lit 59,co "less" "less" 242 243 244 248 15 2 54 55 (.ref 56) (.ref 57) 58 247)::
 (nat_lit 60,fo "less" "less" (top 6) (.str "boxnarrow.fractions" 230) 59)::
 (nat_lit 66,co "rounded_up" "rounded_up" 252 253 254 258 18 2 61 62 (.ref 63) (.ref 64) 65 257)::
 (nat_lit 67,fo "rounded_up" "rounded_up" (top 8) (.str "boxnarrow.spans" 250) 66)::
 (nat_lit 73,co "span_of" "span_of" 260 261 262 267 20 3 68 69 (.ref 70) (.ref 71) 72 266)::
 (nat_lit 74,fo "span_of" "span_of" (top 9) (.str "boxnarrow.spans" 250) 73)::
 (nat_lit 80,co "add_spans" "add_spans" 269 270 271 275 24 2 75 76 (.ref 77) (.ref 78) 79 274)::
 (nat_lit 81,fo "add_spans" "add_spans" (top 10) (.str "boxnarrow.spans" 250) 80)::
 (nat_lit 87,co "take_spans" "take_spans" 277 278 279 283 26 2 82 83 (.ref 84) (.ref 85) 86 282)::
 (nat_lit 88,fo "take_spans" "take_spans" (top 11) (.str "boxnarrow.spans" 250) 87)::
 (nat_lit 94,co "mul_spans" "mul_spans" 285 286 287 293 28 3 89 90 (.ref 91) (.ref 92) 93 292)::
 (nat_lit 95,fo "mul_spans" "mul_spans" (top 12) (.str "boxnarrow.spans" 250) 94)::
 (nat_lit 99,co "raise_span" "raise_span" 295 296 297 299 31 3 96 97 .none .none 98 298)::
 (nat_lit 100,fo "raise_span" "raise_span" (top 13) (.str "boxnarrow.spans" 250) 99)::
 (nat_lit 113,co "inside" "inside" 309 310 311 315 40 2 108 109 (.ref 110) (.ref 111) 112 314)::
 (nat_lit 114,fo "inside" "inside" (top 15) (.str "boxnarrow.spans" 250) 113)::
 (nat_lit 120,co "deep" "deep" 317 318 319 323 42 2 115 116 (.ref 117) (.ref 118) 119 322)::
 (nat_lit 121,fo "deep" "deep" (top 16) (.str "boxnarrow.spans" 250) 120)::
 (nat_lit 137,(.mk (.type "dict") none (.dict #[(de P "__module__" 341 (.str "boxnarrow.kinds" 332)),(de P "__firstlineno__" 345 (.int 47 344)),(de P "__static_attributes__" 346 (.ref 136)),(de P "__dict__" 348 (.ref 139)),(de P "__weakref__" 350 (.ref 140)),(de P "__doc__" 351 .none)] 4) #[]))::
 (nat_lit 138,(.mk (.type "type") none (.cls (PySem.ClassData.mk "Node" [(.type "object")] [(.ref 138),(.type "object")] 137 "Node" Bool.true [] [(.ref 187),(.ref 232),(.ref 263),(.ref 449)] Bool.false none Bool.false)) #[none,none,(some (.str "Node" 334)),(some (.str "Node" 342)),(some (.builtin "object.__new__")),(some (.bool Bool.true))]))::
 (nat_lit 155,co "__init__" "Number.__init__" 366 367 368 373 51 3 150 151 (.ref 152) (.ref 153) 154 372)::
 (nat_lit 156,fo "__init__" "Number.__init__" (zaG (top 20) 0) (.str "boxnarrow.kinds" 332) 155)::
 (nat_lit 169,co "forth" "Number.forth" 384 385 386 393 58 4 164 165 (.ref 166) (.ref 167) 168 392)::
 (nat_lit 170,fo "forth" "Number.forth" (zaG (top 20) 2) (.str "boxnarrow.kinds" 332) 169)::
 (nat_lit 186,(.mk (.type "dict") none (.dict #[(de P "__module__" 361 (.str "boxnarrow.kinds" 332)),(de P "__firstlineno__" 365 (.int 49 364)),(de P "__init__" 374 (.ref 156)),(de P "exact" 383 (.ref 163)),(de P "forth" 394 (.ref 170)),(de P "back" 404 (.ref 177)),(de P "slope" 415 (.ref 184)),(de P "__static_attributes__" 418 (.ref 185)),(de P "__doc__" 419 .none)] 2) #[]))::
 (nat_lit 187,(.mk (.type "type") none (.cls (PySem.ClassData.mk "Number" [(.ref 138)] [(.ref 187),(.ref 138),(.type "object")] 186 "Number" Bool.true [] [] Bool.false none Bool.false)) #[(some (.ref 143)),none,(some (.str "Number" 354)),(some (.str "Number" 362)),(some (.builtin "object.__new__")),(some (.bool Bool.true))]))::
 (nat_lit 202,co "__init__" "Unknown.__init__" 434 435 436 440 69 2 197 198 (.ref 199) (.ref 200) 201 439)::
 (nat_lit 203,fo "__init__" "Unknown.__init__" (zaG (top 21) 0) (.str "boxnarrow.kinds" 332) 202)::
 (nat_lit 216,co "forth" "Unknown.forth" 451 452 453 459 75 4 211 212 (.ref 213) (.ref 214) 215 458)::
 (nat_lit 217,fo "forth" "Unknown.forth" (zaG (top 21) 2) (.str "boxnarrow.kinds" 332) 216)::
 (nat_lit 231,(.mk (.type "dict") none (.dict #[(de P "__module__" 429 (.str "boxnarrow.kinds" 332)),(de P "__firstlineno__" 433 (.int 67 432)),(de P "__init__" 441 (.ref 203)),(de P "exact" 450 (.ref 210)),(de P "forth" 460 (.ref 217)),(de P "back" 470 (.ref 224)),(de P "slope" 476 (.ref 229)),(de P "__static_attributes__" 478 (.ref 230)),(de P "__doc__" 479 .none)] 2) #[]))::
 (nat_lit 232,(.mk (.type "type") none (.cls (PySem.ClassData.mk "Unknown" [(.ref 138)] [(.ref 232),(.ref 138),(.type "object")] 231 "Unknown" Bool.true [] [] Bool.false none Bool.false)) #[(some (.ref 190)),none,(some (.str "Unknown" 422)),(some (.str "Unknown" 430)),(some (.builtin "object.__new__")),(some (.bool Bool.true))]))::
 (nat_lit 247,co "__init__" "Pair.__init__" 494 495 496 501 85 3 242 243 (.ref 244) (.ref 245) 246 500)::
 (nat_lit 248,fo "__init__" "Pair.__init__" (zaG (top 22) 0) (.str "boxnarrow.kinds" 332) 247)::
 (nat_lit 262,(.mk (.type "dict") none (.dict #[(de P "__module__" 489 (.str "boxnarrow.kinds" 332)),(de P "__firstlineno__" 493 (.int 83 492)),(de P "__init__" 502 (.ref 248)),(de P "back" 512 (.ref 255)),(de P "slope" 518 (.ref 260)),(de P "__static_attributes__" 521 (.ref 261)),(de P "__doc__" 522 .none)] 2) #[]))::
 (nat_lit 263,(.mk (.type "type") none (.cls (PySem.ClassData.mk "Pair" [(.ref 138)] [(.ref 263),(.ref 138),(.type "object")] 262 "Pair" Bool.true [] [(.ref 310),(.ref 357),(.ref 404)] Bool.false none Bool.false)) #[(some (.ref 235)),none,(some (.str "Pair" 482)),(some (.str "Pair" 490)),(some (.builtin "object.__new__")),(some (.bool Bool.true))]))::
 (nat_lit 285,co "forth" "Plus.forth" 546 547 548 554 101 4 280 281 (.ref 282) (.ref 283) 284 553)::
 (nat_lit 286,fo "forth" "Plus.forth" (zaG (top 23) 1) (.str "boxnarrow.kinds" 332) 285)::
 (nat_lit 309,(.mk (.type "dict") none (.dict #[(de P "__module__" 532 (.str "boxnarrow.kinds" 332)),(de P "__firstlineno__" 536 (.int 96 535)),(de P "exact" 545 (.ref 279)),(de P "forth" 555 (.ref 286)),(de P "first_left" 566 (.ref 293)),(de P "second_left" 577 (.ref 300)),(de P "slope_of_both" 589 (.ref 307)),(de P "__static_attributes__" 590 (.ref 308)),(de P "__doc__" 591 .none)] 2) #[]))::
 (nat_lit 310,(.mk (.type "type") none (.cls (PySem.ClassData.mk "Plus" [(.ref 263)] [(.ref 310),(.ref 263),(.ref 138),(.type "object")] 309 "Plus" Bool.true [] [] Bool.false none Bool.false)) #[(some (.ref 266)),none,(some (.str "Plus" 525)),(some (.str "Plus" 533)),(some (.builtin "object.__new__")),(some (.bool Bool.true))]))::
 (nat_lit 332,co "forth" "Minus.forth" 615 616 617 623 117 4 327 328 (.ref 329) (.ref 330) 331 622)::
 (nat_lit 333,fo "forth" "Minus.forth" (zaG (top 24) 1) (.str "boxnarrow.kinds" 332) 332)::
 (nat_lit 356,(.mk (.type "dict") none (.dict #[(de P "__module__" 601 (.str "boxnarrow.kinds" 332)),(de P "__firstlineno__" 605 (.int 112 604)),(de P "exact" 614 (.ref 326)),(de P "forth" 624 (.ref 333)),(de P "first_left" 635 (.ref 340)),(de P "second_left" 646 (.ref 347)),(de P "slope_of_both" 658 (.ref 354)),(de P "__static_attributes__" 659 (.ref 355)),(de P "__doc__" 660 .none)] 2) #[]))::
 (nat_lit 357,(.mk (.type "type") none (.cls (PySem.ClassData.mk "Minus" [(.ref 263)] [(.ref 357),(.ref 263),(.ref 138),(.type "object")] 356 "Minus" Bool.true [] [] Bool.false none Bool.false)) #[(some (.ref 313)),none,(some (.str "Minus" 594)),(some (.str "Minus" 602)),(some (.builtin "object.__new__")),(some (.bool Bool.true))]))::
 (nat_lit 379,co "forth" "Times.forth" 684 685 686 692 133 4 374 375 (.ref 376) (.ref 377) 378 691)::
 (nat_lit 380,fo "forth" "Times.forth" (zaG (top 25) 1) (.str "boxnarrow.kinds" 332) 379)::
 (nat_lit 403,(.mk (.type "dict") none (.dict #[(de P "__module__" 670 (.str "boxnarrow.kinds" 332)),(de P "__firstlineno__" 674 (.int 128 673)),(de P "exact" 683 (.ref 373)),(de P "forth" 693 (.ref 380)),(de P "first_left" 704 (.ref 387)),(de P "second_left" 715 (.ref 394)),(de P "slope_of_both" 727 (.ref 401)),(de P "__static_attributes__" 728 (.ref 402)),(de P "__doc__" 729 .none)] 2) #[]))::
 (nat_lit 404,(.mk (.type "type") none (.cls (PySem.ClassData.mk "Times" [(.ref 263)] [(.ref 404),(.ref 263),(.ref 138),(.type "object")] 403 "Times" Bool.true [] [] Bool.false none Bool.false)) #[(some (.ref 360)),none,(some (.str "Times" 663)),(some (.str "Times" 671)),(some (.builtin "object.__new__")),(some (.bool Bool.true))]))::
 (nat_lit 419,co "__init__" "Power.__init__" 744 745 746 751 146 3 414 415 (.ref 416) (.ref 417) 418 750)::
 (nat_lit 420,fo "__init__" "Power.__init__" (zaG (top 26) 0) (.str "boxnarrow.kinds" 332) 419)::
 (nat_lit 433,co "forth" "Power.forth" 762 763 764 770 153 4 428 429 (.ref 430) (.ref 431) 432 769)::
 (nat_lit 434,fo "forth" "Power.forth" (zaG (top 26) 2) (.str "boxnarrow.kinds" 332) 433)::
 (nat_lit 448,(.mk (.type "dict") none (.dict #[(de P "__module__" 739 (.str "boxnarrow.kinds" 332)),(de P "__firstlineno__" 743 (.int 144 742)),(de P "__init__" 752 (.ref 420)),(de P "exact" 761 (.ref 427)),(de P "forth" 771 (.ref 434)),(de P "back" 781 (.ref 441)),(de P "slope" 787 (.ref 446)),(de P "__static_attributes__" 790 (.ref 447)),(de P "__doc__" 791 .none)] 2) #[]))::
 (nat_lit 449,(.mk (.type "type") none (.cls (PySem.ClassData.mk "Power" [(.ref 138)] [(.ref 449),(.ref 138),(.type "object")] 448 "Power" Bool.true [] [] Bool.false none Bool.false)) #[(some (.ref 407)),none,(some (.str "Power" 732)),(some (.str "Power" 740)),(some (.builtin "object.__new__")),(some (.bool Bool.true))]))::
 (nat_lit 457,co "kind_of" "kind_of" 794 795 796 799 163 1 452 453 (.ref 454) (.ref 455) 456 798)::
 (nat_lit 458,fo "kind_of" "kind_of" (top 27) (.str "boxnarrow.kinds" 332) 457)::
 (nat_lit 464,co "bars" "bars" 803 804 805 809 176 2 459 460 (.ref 461) (.ref 462) 463 808)::
 (nat_lit 465,fo "bars" "bars" (top 29) (.str "boxnarrow.worths" 801) 464)::
 (nat_lit 471,co "sure" "sure" 811 812 813 817 180 2 466 467 (.ref 468) (.ref 469) 470 816)::
 (nat_lit 472,fo "sure" "sure" (top 30) (.str "boxnarrow.worths" 801) 471)::
 (nat_lit 530,co "with_span" "with_span" 889 890 891 896 216 3 525 526 (.ref 527) (.ref 528) 529 895)::
 (nat_lit 531,fo "with_span" "with_span" (top 43) (.str "boxnarrow.shaving" 887) 530)::
 (nat_lit 535,co "all_inside" "all_inside" 900 901 902 904 219 2 532 533 .none .none 534 903)::
 (nat_lit 536,fo "all_inside" "all_inside" (top 45) (.str "boxnarrow.looker" 898) 535)::
 (nat_lit 540,co "all_as_long" "all_as_long" 906 907 908 910 221 2 537 538 .none .none 539 909)::
 (nat_lit 541,fo "all_as_long" "all_as_long" (top 46) (.str "boxnarrow.looker" 898) 540)::
 (nat_lit 552,co "right_spans" "right_spans" 920 921 922 924 225 4 549 550 .none .none 551 923)::
 (nat_lit 553,fo "right_spans" "right_spans" (top 48) (.str "boxnarrow.looker" 898) 552)::
 (nat_lit 564,co "right_for_all" "right_for_all" 932 933 934 940 234 4 559 560 (.ref 561) (.ref 562) 563 939)::
 (nat_lit 565,fo "right_for_all" "right_for_all" (top 50) (.str "boxnarrow.looker" 898) 564)::
 (nat_lit 571,co "right_out" "right_out" 942 943 944 954 236 5 566 567 (.ref 568) (.ref 569) 570 953)::
 (nat_lit 572,fo "right_out" "right_out" (top 51) (.str "boxnarrow.looker" 898) 571)::
 (nat_lit 576,co "right_full" "right_full" 956 957 958 960 243 5 573 574 .none .none 575 959)::
 (nat_lit 577,fo "right_full" "right_full" (top 52) (.str "boxnarrow.looker" 898) 576)::
 (nat_lit 597,co "right_cut" "right_cut" 988 989 990 1002 261 2 592 593 (.ref 594) (.ref 595) 596 1001)::
 (nat_lit 598,fo "right_cut" "right_cut" (top 55) (.str "boxnarrow.looker" 898) 597)::
 (nat_lit 604,co "parts_of" "parts_of" 1004 1005 1006 1012 273 1 599 600 (.ref 601) (.ref 602) 603 1011)::
 (nat_lit 605,fo "parts_of" "parts_of" (top 56) (.str "boxnarrow.looker" 898) 604)::
 (nat_lit 609,co "is_whole_tree" "is_whole_tree" 1014 1015 1016 1018 281 2 606 607 .none .none 608 1017)::
 (nat_lit 610,fo "is_whole_tree" "is_whole_tree" (top 57) (.str "boxnarrow.looker" 898) 609)::
 (nat_lit 616,co "right_entry" "right_entry" 1020 1021 1022 1031 285 5 611 612 (.ref 613) (.ref 614) 615 1030)::
 (nat_lit 617,fo "right_entry" "right_entry" (top 58) (.str "boxnarrow.looker" 898) 616)::
 (nat_lit 621,co "right_book" "right_book" 1033 1034 1035 1037 297 5 618 619 .none .none 620 1036)::
 (nat_lit 622,fo "right_book" "right_book" (top 59) (.str "boxnarrow.looker" 898) 621)::
 (nat_lit 628,co "_law_free" "_law_free" 1041 1042 1043 1046 302 1 623 624 (.ref 625) (.ref 626) 627 1045)::
 (nat_lit 629,fo "_law_free" "_law_free" (top 61) (.str "law_boxnarrow_k66_whole_forged_books" 1039) 628)::
 (nat_lit 635,co "_law_cell" "_law_cell" 1048 1049 1050 1057 304 2 630 631 (.ref 632) (.ref 633) 634 1056)::
 (nat_lit 636,fo "_law_cell" "_law_cell" (top 62) (.str "law_boxnarrow_k66_whole_forged_books" 1039) 635)::
 (nat_lit 642,co "_law_any" "_law_any" 1059 1060 1061 1064 317 1 637 638 (.ref 639) (.ref 640) 641 1063)::
 (nat_lit 643,fo "_law_any" "_law_any" (top 63) (.str "law_boxnarrow_k66_whole_forged_books" 1039) 642)::
 (nat_lit 649,co "_law_lowest" "_law_lowest" 1066 1067 1068 1074 319 2 644 645 (.ref 646) (.ref 647) 648 1073)::
 (nat_lit 650,fo "_law_lowest" "_law_lowest" (top 64) (.str "law_boxnarrow_k66_whole_forged_books" 1039) 649)::
 (nat_lit 656,co "_law_number" "_law_number" 1076 1077 1078 1081 325 1 651 652 (.ref 653) (.ref 654) 655 1080)::
 (nat_lit 657,fo "_law_number" "_law_number" (top 65) (.str "law_boxnarrow_k66_whole_forged_books" 1039) 656)::
 (nat_lit 663,co "_law_put" "_law_put" 1083 1084 1085 1091 331 4 658 659 (.ref 660) (.ref 661) 662 1090)::
 (nat_lit 664,fo "_law_put" "_law_put" (top 66) (.str "law_boxnarrow_k66_whole_forged_books" 1039) 663)::
 (nat_lit 670,co "_law_grow" "_law_grow" 1093 1094 1095 1108 337 5 665 666 (.ref 667) (.ref 668) 669 1107)::
 (nat_lit 671,fo "_law_grow" "_law_grow" (top 67) (.str "law_boxnarrow_k66_whole_forged_books" 1039) 670)::
 (nat_lit 677,co "_law_grid" "_law_grid" 1110 1111 1112 1115 353 1 672 673 (.ref 674) (.ref 675) 676 1114)::
 (nat_lit 678,fo "_law_grid" "_law_grid" (top 68) (.str "law_boxnarrow_k66_whole_forged_books" 1039) 677)::
 (nat_lit 684,co "_law_side" "_law_side" 1117 1118 1119 1125 359 2 679 680 (.ref 681) (.ref 682) 683 1124)::
 (nat_lit 685,fo "_law_side" "_law_side" (top 69) (.str "law_boxnarrow_k66_whole_forged_books" 1039) 684)::
 (nat_lit 691,co "_law_often" "_law_often" 1127 1128 1129 1135 369 2 686 687 (.ref 688) (.ref 689) 690 1134)::
 (nat_lit 692,fo "_law_often" "_law_often" (top 70) (.str "law_boxnarrow_k66_whole_forged_books" 1039) 691)::
 (nat_lit 698,co "_law_plus" "_law_plus" 1137 1138 1139 1143 374 2 693 694 (.ref 695) (.ref 696) 697 1142)::
 (nat_lit 699,fo "_law_plus" "_law_plus" (top 71) (.str "law_boxnarrow_k66_whole_forged_books" 1039) 698)::
 (nat_lit 705,co "_law_less" "_law_less" 1145 1146 1147 1151 376 2 700 701 (.ref 702) (.ref 703) 704 1150)::
 (nat_lit 706,fo "_law_less" "_law_less" (top 72) (.str "law_boxnarrow_k66_whole_forged_books" 1039) 705)::
 (nat_lit 712,co "_law_product" "_law_product" 1153 1154 1155 1161 378 3 707 708 (.ref 709) (.ref 710) 711 1160)::
 (nat_lit 713,fo "_law_product" "_law_product" (top 73) (.str "law_boxnarrow_k66_whole_forged_books" 1039) 712)::
 (nat_lit 719,co "_law_raised" "_law_raised" 1163 1164 1165 1172 381 3 714 715 (.ref 716) (.ref 717) 718 1171)::
 (nat_lit 720,fo "_law_raised" "_law_raised" (top 74) (.str "law_boxnarrow_k66_whole_forged_books" 1039) 719)::
 (nat_lit 726,co "_law_forth" "_law_forth" 1174 1175 1176 1185 387 4 721 722 (.ref 723) (.ref 724) 725 1184)::
 (nat_lit 727,fo "_law_forth" "_law_forth" (top 75) (.str "law_boxnarrow_k66_whole_forged_books" 1039) 726)::
 (nat_lit 733,co "_law_point" "_law_point" 1187 1188 1189 1197 402 4 728 729 (.ref 730) (.ref 731) 732 1196)::
 (nat_lit 734,fo "_law_point" "_law_point" (top 76) (.str "law_boxnarrow_k66_whole_forged_books" 1039) 733)::
 (nat_lit 740,co "_law_at" "_law_at" 1199 1200 1201 1205 407 2 735 736 (.ref 737) (.ref 738) 739 1204)::
 (nat_lit 741,fo "_law_at" "_law_at" (top 77) (.str "law_boxnarrow_k66_whole_forged_books" 1039) 740)::
 (nat_lit 747,co "_law_factors" "_law_factors" 1207 1208 1209 1218 411 3 742 743 (.ref 744) (.ref 745) 746 1217)::
 (nat_lit 748,fo "_law_factors" "_law_factors" (top 78) (.str "law_boxnarrow_k66_whole_forged_books" 1039) 747)::
 (nat_lit 754,co "_law_sum" "_law_sum" 1220 1221 1222 1228 418 2 749 750 (.ref 751) (.ref 752) 753 1227)::
 (nat_lit 755,fo "_law_sum" "_law_sum" (top 79) (.str "law_boxnarrow_k66_whole_forged_books" 1039) 754)::
 (nat_lit 761,co "_law_row" "_law_row" 1230 1231 1232 1242 423 4 756 757 (.ref 758) (.ref 759) 760 1241)::
 (nat_lit 762,fo "_law_row" "_law_row" (top 80) (.str "law_boxnarrow_k66_whole_forged_books" 1039) 761)::
 (nat_lit 768,co "_law_forged" "_law_forged" 1244 1245 1246 1252 432 2 763 764 (.ref 765) (.ref 766) 767 1251)::
 (nat_lit 769,fo "_law_forged" "_law_forged" (top 81) (.str "law_boxnarrow_k66_whole_forged_books" 1039) 768)::
 (nat_lit 775,co "_law_last" "_law_last" 1254 1255 1256 1263 447 3 770 771 (.ref 772) (.ref 773) 774 1262)::
 (nat_lit 776,fo "_law_last" "_law_last" (top 82) (.str "law_boxnarrow_k66_whole_forged_books" 1039) 775)::
 (nat_lit 782,co "_law_paper" "_law_paper" 1265 1266 1267 1280 457 7 777 778 (.ref 779) (.ref 780) 781 1279)::
 (nat_lit 783,fo "_law_paper" "_law_paper" (top 83) (.str "law_boxnarrow_k66_whole_forged_books" 1039) 782)::
 (nat_lit 789,co "_law_any_room" "_law_any_room" 1282 1283 1284 1296 469 3 784 785 (.ref 786) (.ref 787) 788 1295)::
 (nat_lit 790,fo "_law_any_room" "_law_any_room" (top 84) (.str "law_boxnarrow_k66_whole_forged_books" 1039) 789)::
 (nat_lit 794,co "_law_copied" "_law_copied" 1298 1299 1300 1302 480 1 791 792 .none .none 793 1301)::
 (nat_lit 795,fo "_law_copied" "_law_copied" (top 85) (.str "law_boxnarrow_k66_whole_forged_books" 1039) 794)::
 (nat_lit 801,co "_law_tree" "_law_tree" 1304 1305 1306 1322 491 4 796 797 (.ref 798) (.ref 799) 800 1321)::
 (nat_lit 802,fo "_law_tree" "_law_tree" (top 86) (.str "law_boxnarrow_k66_whole_forged_books" 1039) 801)::
 (nat_lit 808,co "_law_others" "_law_others" 1324 1325 1326 1333 513 3 803 804 (.ref 805) (.ref 806) 807 1332)::
 (nat_lit 809,fo "_law_others" "_law_others" (top 87) (.str "law_boxnarrow_k66_whole_forged_books" 1039) 808)::
 (nat_lit 813,co "law" "law" 1335 1336 1337 1339 517 1 810 811 .none .none 812 1338)::
 (nat_lit 814,fo "law" "law" (top 88) (.str "law_boxnarrow_k66_whole_forged_books" 1039) 813)::[]
def ks:List Addr:=nat_lit 3::nat_lit 30::nat_lit 31::nat_lit 43::nat_lit 44::nat_lit 52::nat_lit 53::nat_lit 59::nat_lit 60::nat_lit 66::nat_lit 67::nat_lit 73::nat_lit 74::nat_lit 80::nat_lit 81::nat_lit 87::nat_lit 88::nat_lit 94::nat_lit 95::nat_lit 99::nat_lit 100::nat_lit 113::nat_lit 114::nat_lit 120::nat_lit 121::nat_lit 137::nat_lit 138::nat_lit 155::nat_lit 156::nat_lit 169::nat_lit 170::nat_lit 186::nat_lit 187::nat_lit 202::nat_lit 203::nat_lit 216::nat_lit 217::nat_lit 231::nat_lit 232::nat_lit 247::nat_lit 248::nat_lit 262::nat_lit 263::nat_lit 285::nat_lit 286::nat_lit 309::nat_lit 310::nat_lit 332::nat_lit 333::nat_lit 356::nat_lit 357::nat_lit 379::nat_lit 380::nat_lit 403::nat_lit 404::nat_lit 419::nat_lit 420::nat_lit 433::nat_lit 434::nat_lit 448::nat_lit 449::nat_lit 457::nat_lit 458::nat_lit 464::nat_lit 465::nat_lit 471::nat_lit 472::nat_lit 530::nat_lit 531::nat_lit 535::nat_lit 536::nat_lit 540::nat_lit 541::nat_lit 552::nat_lit 553::nat_lit 564::nat_lit 565::nat_lit 571::nat_lit 572::nat_lit 576::nat_lit 577::nat_lit 597::nat_lit 598::nat_lit 604::nat_lit 605::nat_lit 609::nat_lit 610::nat_lit 616::nat_lit 617::nat_lit 621::nat_lit 622::nat_lit 628::nat_lit 629::nat_lit 635::nat_lit 636::nat_lit 642::nat_lit 643::nat_lit 649::nat_lit 650::nat_lit 656::nat_lit 657::nat_lit 663::nat_lit 664::nat_lit 670::nat_lit 671::nat_lit 677::nat_lit 678::nat_lit 684::nat_lit 685::nat_lit 691::nat_lit 692::nat_lit 698::nat_lit 699::nat_lit 705::nat_lit 706::nat_lit 712::nat_lit 713::nat_lit 719::nat_lit 720::nat_lit 726::nat_lit 727::nat_lit 733::nat_lit 734::nat_lit 740::nat_lit 741::nat_lit 747::nat_lit 748::nat_lit 754::nat_lit 755::nat_lit 761::nat_lit 762::nat_lit 768::nat_lit 769::nat_lit 775::nat_lit 776::nat_lit 782::nat_lit 783::nat_lit 789::nat_lit 790::nat_lit 794::nat_lit 795::nat_lit 801::nat_lit 802::nat_lit 808::nat_lit 809::nat_lit 813::nat_lit 814::[]
theorem zez (P:Params):ks=(kp P).map (·.1):=by kernel_rfl
noncomputable abbrev hk:PySem.W.Hook:=PySem.W.kHook kp ks zez
abbrev xt (s:Shared):Bool:=PySem.W.xlAt vw [] s&&PySem.W.recOk (PySem.W.RowW.records (PySem.W.OpenRow.toRowW (PySem.W.OpenLaw.row PySem.Challenge.rw_boxnarrow_k66_whole_forged_books))) s
theorem zlA:PySem.W.opening PySem.Challenge.pw_boxnarrow_k66_whole_forged_books=PySem.W.plainProg PySem.Challenge.pw_boxnarrow_k66_whole_forged_books.main.scope.names:=by kernel_rfl
theorem fe_eq (s:Shared):PySem.fenceModules? PySem.Challenge.pw_boxnarrow_k66_whole_forged_books s=some s:=by kernel_rfl
theorem si_eq (w:World):((PySem.W.boot_heap w.params).isNs mainGlobals&&(Array.mk []:Array GenState).size==0,(PySem.W.boot_heap w.params).objs.size,(PySem.W.boot_heap w.params).nsMap mainGlobals "__annotations__")=(true,11,some (.ref 6)):=by kernel_rfl
open PySem.W PySem.Calls
def ev:Env:={ scope:=PySem.Challenge.pw_boxnarrow_k66_whole_forged_books.main.scope,locals:=mainNs,globals:=mainNs,cells:=[],code:=.ref 13,frame:=some 14 }
abbrev bI:List Stmt:=behindTheImports PySem.Challenge.pw_boxnarrow_k66_whole_forged_books
abbrev cE:Code:=Code.body bI ev
abbrev fT:List Frame:=[topFrame ⟨0,0,0,0⟩]
noncomputable abbrev mS (k:Nat)(l:Params→List Obj)(n t:Nat)(w:World)(os:OsState):SharedT:=⟨L3.mkB k (l w.params),n,(boot_heap w.params).life,Array.mk [],boot_drawn,t,os⟩
noncomputable def mO0 (P:Params):List Obj:=[boot_o_0 P,boot_o_1 P,boot_o_2 P,boot_o_3 P,boot_o_4 P,boot_o_5 P,boot_o_6 P,boot_o_7 P,boot_o_8 P,boot_o_9 P,boot_o_10 P]++[tpO [],fdO [],(.mk (.type "code") none (.fields #[(.str "<module>" 182),(.str "<module>" 183),(.str "/claim/cut.py" 184),(.int 1 0),(.int 0 0),(.int 0 0),(.int 0 0),(.int 0 0),(.ref 11),(.bool Bool.false),(.int 181 0),(.ref 12),.none,.none,.none,.none,(.int 185 0),(.int 1 0),(.str "/claim/cut.py" 186)]) #[]),(.mk (.type "frame") none .plain #[(some (.ref 13)),(some (.ref 3)),(some (.ref 3)),none,(some (.str "__main__" 164)),none,(some (.ref 0))])]
noncomputable def S0:=mS 5 mO0 15 187
theorem ztt (w:World):(λos=>L3.goK treeTable PySem.Challenge.pw_boxnarrow_k66_whole_forged_books w 11 (some (.ref 6)) 12 (L3.ze3 w os) (topStub PySem.Challenge.pw_boxnarrow_k66_whole_forged_books))=λos=>some (S0 w os,⟨denote treeTable cE,cE,⟨0,0,0,0⟩,fT⟩):=by kernel_rfl
theorem ztM (w:World):(λos=>segRunT treeTable PySem.Challenge.pw_boxnarrow_k66_whole_forged_books w 11 (some (.ref 6)) 1 1 (S0 w os) (blockOf bI ev cE ⟨0,0,0,0⟩ fT))=λos=>some (.next,S0 w os,cE,⟨0,0,0,0⟩):=by kernel_rfl
noncomputable def mO1 (P:Params):List Obj:=[boot_o_0 P,boot_o_1 P,boot_o_2 P,(.mk (.type "dict") none (.dict #[(de P "__name__" 165 (.str "boxnarrow.kinds" 332)),(de P "__doc__" 166 .none),(de P "__package__" 167 .none),(de P "__loader__" 168 (.builtin "__main__.__loader__#opaque")),(de P "__spec__" 169 .none),(de P "__annotations__" 170 (.ref 6)),(de P "__builtins__" 171 (.ref 4)),(de P "__file__" 173 (.str "/claim/cut.py" 172)),(de P "__cached__" 174 .none),(de P "_wall" 193 (.ref 21)),(de P "BoxError" 213 (.ref 31)),(de P "NoSpan" 229 (.ref 44)),(de P "raised" 241 (.ref 53)),(de P "less" 249 (.ref 60)),(de P "rounded_up" 259 (.ref 67)),(de P "span_of" 268 (.ref 74)),(de P "add_spans" 276 (.ref 81)),(de P "take_spans" 284 (.ref 88)),(de P "mul_spans" 294 (.ref 95)),(de P "raise_span" 300 (.ref 100)),(de P "scale_span" 308 (.ref 107)),(de P "inside" 316 (.ref 114)),(de P "deep" 324 (.ref 121)),(de P "middle" 331 (.ref 128)),(de P "Node" 353 (.ref 138)),(de P "Number" 421 (.ref 187)),(de P "Unknown" 481 (.ref 232)),(de P "Pair" 524 (.ref 263)),(de P "Plus" 593 (.ref 310)),(de P "Minus" 662 (.ref 357)),(de P "Times" 731 (.ref 404)),(de P "Power" 793 (.ref 449))] 32) #[]),boot_o_4 P,boot_o_5 P,boot_o_6 P,boot_o_7 P,boot_o_8 P,boot_o_9 P,boot_o_10 P]++[tpO [],fdO [(.int 1 0),(.int 0 0),(.ref 20),(.int 5 0),(.int 0 0),(.ref 27),(.int 7 0),(.int 0 0),(.ref 40),(.int 10 0),(.int 0 0),(.ref 52),(.int 15 0),(.int 0 0),(.ref 59),(.int 18 0),(.int 0 0),(.ref 66),(.int 20 0),(.int 0 0),(.ref 73),(.int 24 0),(.int 0 0),(.ref 80),(.int 26 0),(.int 0 0),(.ref 87),(.int 28 0),(.int 0 0),(.ref 94),(.int 31 0),(.int 0 0),(.ref 99),(.int 38 0),(.int 0 0),(.ref 106),(.int 40 0),(.int 0 0),(.ref 113),(.int 42 0),(.int 0 0),(.ref 120),(.int 44 0),(.int 0 0),(.ref 127),(.int 47 0),(.int 0 0),(.ref 134),(.int 49 0),(.int 0 0),(.ref 148),(.int 67 0),(.int 0 0),(.ref 195),(.int 83 0),(.int 0 0),(.ref 240),(.int 96 0),(.int 0 0),(.ref 271),(.int 112 0),(.int 0 0),(.ref 318),(.int 128 0),(.int 0 0),(.ref 365),(.int 144 0),(.int 0 0),(.ref 412)],(.mk (.type "code") none (.fields #[(.str "<module>" 182),(.str "<module>" 183),(.str "/claim/cut.py" 184),(.int 1 0),(.int 0 0),(.int 0 0),(.int 0 0),(.int 0 0),(.ref 11),(.bool Bool.false),(.int 181 0),(.ref 12),.none,.none,.none,.none,(.int 185 0),(.int 1 0),(.str "/claim/cut.py" 186)]) #[]),(.mk (.type "frame") none .plain #[(some (.ref 13)),(some (.ref 3)),(some (.ref 3)),none,(some (.str "__main__" 164)),none,(some (.ref 0))])]++
 df "_wall" "_wall" (top 0) (.str "__main__" 164) 1 1 15 187 ["k"]++
 [tpO [(.type "ValueError")],(.mk (.type "builtin_function_or_method") none (.fields #[(.builtin "type.__prepare__"),(.type "type")]) #[]),(.mk (.type "dict") none (.dict #[(de P "__module__" 203 (.str "boxnarrow.errors" 194)),(de P "__qualname__" 205 (.str "BoxError" 204)),(de P "__firstlineno__" 207 (.int 5 206)),(de P "__static_attributes__" 208 (.ref 29))] 4) #[]),tpO [],fdO [],(.mk (.type "code") none (.fields #[(.str "BoxError" 198),(.str "BoxError" 199),(.str "/claim/cut.py" 200),(.int 5 0),(.int 0 0),(.int 0 0),(.int 0 0),(.int 0 0),(.ref 25),(.bool Bool.false),(.int 181 0),(.ref 26),.none,.none,.none,.none,(.int 201 0),(.int 5 0),(.str "/claim/cut.py" 202)]) #[]),(.mk (.type "frame") none .plain #[(some (.ref 27)),(some (.ref 3)),(some (.ref 24)),none,(some (.str "boxnarrow.errors" 194)),none,(some (.ref 0))]),tpO [],(.mk (.type "dict") none (.dict #[(de P "__module__" 203 (.str "boxnarrow.errors" 194)),(de P "__firstlineno__" 207 (.int 5 206)),(de P "__static_attributes__" 208 (.ref 29)),(de P "__weakref__" 210 (.ref 32)),(de P "__doc__" 211 .none)] 3) #[]),(.mk (.type "type") none (.cls (PySem.ClassData.mk "BoxError" [(.type "ValueError")] [(.ref 31),(.type "ValueError"),(.type "Exception"),(.type "BaseException"),(.type "object")] 30 "BoxError" Bool.true [] [(.ref 44)] Bool.false none Bool.false)) #[(some (.ref 22)),none,(some (.str "BoxError" 196)),(some (.str "BoxError" 204)),(some (.builtin "ValueError.__new__")),(some (.bool Bool.true))]),(.mk (.type "getset_descriptor") none (.fields #[(.str "__weakref__" 209),(.ref 31),(.builtin "ExceptionGroup.__weakref__"),.none]) #[]),(.mk (.type "super") none (.fields #[(.ref 31),(.ref 31),(.ref 31)]) #[]),(.mk (.type "builtin_function_or_method") none (.fields #[(.builtin "object.__init_subclass__"),(.ref 31)]) #[]),tpO [(.ref 31)],(.mk (.type "builtin_function_or_method") none (.fields #[(.builtin "type.__prepare__"),(.type "type")]) #[]),(.mk (.type "dict") none (.dict #[(de P "__module__" 221 (.str "boxnarrow.errors" 194)),(de P "__qualname__" 223 (.str "NoSpan" 222)),(de P "__firstlineno__" 225 (.int 7 224)),(de P "__static_attributes__" 226 (.ref 42))] 4) #[]),tpO [],fdO [],(.mk (.type "code") none (.fields #[(.str "NoSpan" 216),(.str "NoSpan" 217),(.str "/claim/cut.py" 218),(.int 7 0),(.int 0 0),(.int 0 0),(.int 0 0),(.int 0 0),(.ref 38),(.bool Bool.false),(.int 181 0),(.ref 39),.none,.none,.none,.none,(.int 219 0),(.int 7 0),(.str "/claim/cut.py" 220)]) #[]),(.mk (.type "frame") none .plain #[(some (.ref 40)),(some (.ref 3)),(some (.ref 37)),none,(some (.str "boxnarrow.errors" 194)),none,(some (.ref 0))]),tpO [],(.mk (.type "dict") none (.dict #[(de P "__module__" 221 (.str "boxnarrow.errors" 194)),(de P "__firstlineno__" 225 (.int 7 224)),(de P "__static_attributes__" 226 (.ref 42)),(de P "__doc__" 227 .none)] 2) #[]),(.mk (.type "type") none (.cls (PySem.ClassData.mk "NoSpan" [(.ref 31)] [(.ref 44),(.ref 31),(.type "ValueError"),(.type "Exception"),(.type "BaseException"),(.type "object")] 43 "NoSpan" Bool.true [] [] Bool.false none Bool.false)) #[(some (.ref 35)),none,(some (.str "NoSpan" 214)),(some (.str "NoSpan" 222)),(some (.builtin "ValueError.__new__")),(some (.bool Bool.true))]),(.mk (.type "super") none (.fields #[(.ref 44),(.ref 44),(.ref 44)]) #[]),(.mk (.type "builtin_function_or_method") none (.fields #[(.builtin "object.__init_subclass__"),(.ref 44)]) #[])]++
 df "raised" "raised" (top 5) (.str "boxnarrow.fractions" 230) 10 2 47 232 ["number","many","worth","step"]++
 df "less" "less" (top 6) (.str "boxnarrow.fractions" 230) 15 2 54 242 ["a","b"]++
 df "rounded_up" "rounded_up" (top 8) (.str "boxnarrow.spans" 250) 18 2 61 252 ["top","bottom"]++
 df "span_of" "span_of" (top 9) (.str "boxnarrow.spans" 250) 20 3 68 260 ["low","high","grid"]++
 df "add_spans" "add_spans" (top 10) (.str "boxnarrow.spans" 250) 24 2 75 269 ["a","b"]++
 df "take_spans" "take_spans" (top 11) (.str "boxnarrow.spans" 250) 26 2 82 277 ["a","b"]++
 df "mul_spans" "mul_spans" (top 12) (.str "boxnarrow.spans" 250) 28 3 89 285 ["a","b","grid","products"]++
 dg "raise_span" "raise_span" (top 13) (.str "boxnarrow.spans" 250) 31 3 96 295++
 df "scale_span" "scale_span" (top 14) (.str "boxnarrow.spans" 250) 38 2 101 301 ["a","many"]++
 df "inside" "inside" (top 15) (.str "boxnarrow.spans" 250) 40 2 108 309 ["a","b"]++
 df "deep" "deep" (top 16) (.str "boxnarrow.spans" 250) 42 2 115 317 ["a","b"]++
 df "middle" "middle" (top 17) (.str "boxnarrow.spans" 250) 44 1 122 325 ["a"]++
 [tpO [],(.mk (.type "builtin_function_or_method") none (.fields #[(.builtin "type.__prepare__"),(.type "type")]) #[]),(.mk (.type "dict") none (.dict #[(de P "__module__" 341 (.str "boxnarrow.kinds" 332)),(de P "__qualname__" 343 (.str "Node" 342)),(de P "__firstlineno__" 345 (.int 47 344)),(de P "__static_attributes__" 346 (.ref 136))] 4) #[]),tpO [],fdO [],(.mk (.type "code") none (.fields #[(.str "Node" 336),(.str "Node" 337),(.str "/claim/cut.py" 338),(.int 47 0),(.int 0 0),(.int 0 0),(.int 0 0),(.int 0 0),(.ref 132),(.bool Bool.false),(.int 181 0),(.ref 133),.none,.none,.none,.none,(.int 339 0),(.int 47 0),(.str "/claim/cut.py" 340)]) #[]),(.mk (.type "frame") none .plain #[(some (.ref 134)),(some (.ref 3)),(some (.ref 131)),none,(some (.str "boxnarrow.kinds" 332)),none,(some (.ref 0))]),tpO [],(.mk (.type "dict") none (.dict #[(de P "__module__" 341 (.str "boxnarrow.kinds" 332)),(de P "__firstlineno__" 345 (.int 47 344)),(de P "__static_attributes__" 346 (.ref 136)),(de P "__dict__" 348 (.ref 139)),(de P "__weakref__" 350 (.ref 140)),(de P "__doc__" 351 .none)] 4) #[]),(.mk (.type "type") none (.cls (PySem.ClassData.mk "Node" [(.type "object")] [(.ref 138),(.type "object")] 137 "Node" Bool.true [] [(.ref 187),(.ref 232),(.ref 263),(.ref 449)] Bool.false none Bool.false)) #[none,none,(some (.str "Node" 334)),(some (.str "Node" 342)),(some (.builtin "object.__new__")),(some (.bool Bool.true))]),(.mk (.type "getset_descriptor") none (.fields #[(.str "__dict__" 347),(.ref 138),(.builtin "function.__dict__"),(.builtin "function.__dict__#set")]) #[]),(.mk (.type "getset_descriptor") none (.fields #[(.str "__weakref__" 349),(.ref 138),(.builtin "ExceptionGroup.__weakref__"),.none]) #[]),(.mk (.type "super") none (.fields #[(.ref 138),(.ref 138),(.ref 138)]) #[]),(.mk (.type "builtin_function_or_method") none (.fields #[(.builtin "object.__init_subclass__"),(.ref 138)]) #[]),tpO [(.ref 138)],(.mk (.type "builtin_function_or_method") none (.fields #[(.builtin "type.__prepare__"),(.type "type")]) #[]),(.mk (.type "dict") none (.dict #[(de P "__module__" 361 (.str "boxnarrow.kinds" 332)),(de P "__qualname__" 363 (.str "Number" 362)),(de P "__firstlineno__" 365 (.int 49 364)),(de P "__init__" 374 (.ref 156)),(de P "exact" 383 (.ref 163)),(de P "forth" 394 (.ref 170)),(de P "back" 404 (.ref 177)),(de P "slope" 415 (.ref 184)),(de P "__static_attributes__" 418 (.ref 185))] 9) #[]),tpO [],fdO [(.int 51 0),(.int 4 0),(.ref 155),(.int 55 0),(.int 4 0),(.ref 162),(.int 58 0),(.int 4 0),(.ref 169),(.int 62 0),(.int 4 0),(.ref 176),(.int 65 0),(.int 4 0),(.ref 183)],(.mk (.type "code") none (.fields #[(.str "Number" 356),(.str "Number" 357),(.str "/claim/cut.py" 358),(.int 49 0),(.int 0 0),(.int 0 0),(.int 0 0),(.int 0 0),(.ref 146),(.bool Bool.false),(.int 181 0),(.ref 147),.none,.none,.none,.none,(.int 359 0),(.int 49 0),(.str "/claim/cut.py" 360)]) #[]),(.mk (.type "frame") none .plain #[(some (.ref 148)),(some (.ref 3)),(some (.ref 145)),none,(some (.str "boxnarrow.kinds" 332)),none,(some (.ref 0))])]++
 df "__init__" "Number.__init__" (zaG (top 20) 0) (.str "boxnarrow.kinds" 332) 51 3 150 366 ["self","top","bottom"]++
 df "exact" "Number.exact" (zaG (top 20) 1) (.str "boxnarrow.kinds" 332) 55 3 157 375 ["self","worths","point"]++
 df "forth" "Number.forth" (zaG (top 20) 2) (.str "boxnarrow.kinds" 332) 58 4 164 384 ["self","spans","box","grid","number"]++
 df "back" "Number.back" (zaG (top 20) 3) (.str "boxnarrow.kinds" 332) 62 4 171 395 ["self","spans","here","grid"]++
 df "slope" "Number.slope" (zaG (top 20) 4) (.str "boxnarrow.kinds" 332) 65 5 178 405 ["self","spans","slants","unknowns","grid"]++
 [tpO [(.str "bottom" 416),(.str "top" 417)],(.mk (.type "dict") none (.dict #[(de P "__module__" 361 (.str "boxnarrow.kinds" 332)),(de P "__firstlineno__" 365 (.int 49 364)),(de P "__init__" 374 (.ref 156)),(de P "exact" 383 (.ref 163)),(de P "forth" 394 (.ref 170)),(de P "back" 404 (.ref 177)),(de P "slope" 415 (.ref 184)),(de P "__static_attributes__" 418 (.ref 185)),(de P "__doc__" 419 .none)] 2) #[]),(.mk (.type "type") none (.cls (PySem.ClassData.mk "Number" [(.ref 138)] [(.ref 187),(.ref 138),(.type "object")] 186 "Number" Bool.true [] [] Bool.false none Bool.false)) #[(some (.ref 143)),none,(some (.str "Number" 354)),(some (.str "Number" 362)),(some (.builtin "object.__new__")),(some (.bool Bool.true))]),(.mk (.type "super") none (.fields #[(.ref 187),(.ref 187),(.ref 187)]) #[]),(.mk (.type "builtin_function_or_method") none (.fields #[(.builtin "object.__init_subclass__"),(.ref 187)]) #[]),tpO [(.ref 138)],(.mk (.type "builtin_function_or_method") none (.fields #[(.builtin "type.__prepare__"),(.type "type")]) #[]),(.mk (.type "dict") none (.dict #[(de P "__module__" 429 (.str "boxnarrow.kinds" 332)),(de P "__qualname__" 431 (.str "Unknown" 430)),(de P "__firstlineno__" 433 (.int 67 432)),(de P "__init__" 441 (.ref 203)),(de P "exact" 450 (.ref 210)),(de P "forth" 460 (.ref 217)),(de P "back" 470 (.ref 224)),(de P "slope" 476 (.ref 229)),(de P "__static_attributes__" 478 (.ref 230))] 9) #[]),tpO [],fdO [(.int 69 0),(.int 4 0),(.ref 202),(.int 72 0),(.int 4 0),(.ref 209),(.int 75 0),(.int 4 0),(.ref 216),(.int 78 0),(.int 4 0),(.ref 223),(.int 81 0),(.int 4 0),(.ref 228)],(.mk (.type "code") none (.fields #[(.str "Unknown" 424),(.str "Unknown" 425),(.str "/claim/cut.py" 426),(.int 67 0),(.int 0 0),(.int 0 0),(.int 0 0),(.int 0 0),(.ref 193),(.bool Bool.false),(.int 181 0),(.ref 194),.none,.none,.none,.none,(.int 427 0),(.int 67 0),(.str "/claim/cut.py" 428)]) #[]),(.mk (.type "frame") none .plain #[(some (.ref 195)),(some (.ref 3)),(some (.ref 192)),none,(some (.str "boxnarrow.kinds" 332)),none,(some (.ref 0))])]++
 df "__init__" "Unknown.__init__" (zaG (top 21) 0) (.str "boxnarrow.kinds" 332) 69 2 197 434 ["self","place"]++
 df "exact" "Unknown.exact" (zaG (top 21) 1) (.str "boxnarrow.kinds" 332) 72 3 204 442 ["self","worths","point"]++
 df "forth" "Unknown.forth" (zaG (top 21) 2) (.str "boxnarrow.kinds" 332) 75 4 211 451 ["self","spans","box","grid"]++
 df "back" "Unknown.back" (zaG (top 21) 3) (.str "boxnarrow.kinds" 332) 78 4 218 461 ["self","spans","here","grid"]++
 dg "slope" "Unknown.slope" (zaG (top 21) 4) (.str "boxnarrow.kinds" 332) 81 5 225 471++
 [tpO [(.str "place" 477)],(.mk (.type "dict") none (.dict #[(de P "__module__" 429 (.str "boxnarrow.kinds" 332)),(de P "__firstlineno__" 433 (.int 67 432)),(de P "__init__" 441 (.ref 203)),(de P "exact" 450 (.ref 210)),(de P "forth" 460 (.ref 217)),(de P "back" 470 (.ref 224)),(de P "slope" 476 (.ref 229)),(de P "__static_attributes__" 478 (.ref 230)),(de P "__doc__" 479 .none)] 2) #[]),(.mk (.type "type") none (.cls (PySem.ClassData.mk "Unknown" [(.ref 138)] [(.ref 232),(.ref 138),(.type "object")] 231 "Unknown" Bool.true [] [] Bool.false none Bool.false)) #[(some (.ref 190)),none,(some (.str "Unknown" 422)),(some (.str "Unknown" 430)),(some (.builtin "object.__new__")),(some (.bool Bool.true))]),(.mk (.type "super") none (.fields #[(.ref 232),(.ref 232),(.ref 232)]) #[]),(.mk (.type "builtin_function_or_method") none (.fields #[(.builtin "object.__init_subclass__"),(.ref 232)]) #[]),tpO [(.ref 138)],(.mk (.type "builtin_function_or_method") none (.fields #[(.builtin "type.__prepare__"),(.type "type")]) #[]),(.mk (.type "dict") none (.dict #[(de P "__module__" 489 (.str "boxnarrow.kinds" 332)),(de P "__qualname__" 491 (.str "Pair" 490)),(de P "__firstlineno__" 493 (.int 83 492)),(de P "__init__" 502 (.ref 248)),(de P "back" 512 (.ref 255)),(de P "slope" 518 (.ref 260)),(de P "__static_attributes__" 521 (.ref 261))] 7) #[]),tpO [],fdO [(.int 85 0),(.int 4 0),(.ref 247),(.int 89 0),(.int 4 0),(.ref 254),(.int 92 0),(.int 4 0),(.ref 259)],(.mk (.type "code") none (.fields #[(.str "Pair" 484),(.str "Pair" 485),(.str "/claim/cut.py" 486),(.int 83 0),(.int 0 0),(.int 0 0),(.int 0 0),(.int 0 0),(.ref 238),(.bool Bool.false),(.int 181 0),(.ref 239),.none,.none,.none,.none,(.int 487 0),(.int 83 0),(.str "/claim/cut.py" 488)]) #[]),(.mk (.type "frame") none .plain #[(some (.ref 240)),(some (.ref 3)),(some (.ref 237)),none,(some (.str "boxnarrow.kinds" 332)),none,(some (.ref 0))])]++
 df "__init__" "Pair.__init__" (zaG (top 22) 0) (.str "boxnarrow.kinds" 332) 85 3 242 494 ["self","one","other"]++
 df "back" "Pair.back" (zaG (top 22) 1) (.str "boxnarrow.kinds" 332) 89 4 249 503 ["self","spans","here","grid"]++
 dg "slope" "Pair.slope" (zaG (top 22) 2) (.str "boxnarrow.kinds" 332) 92 5 256 513++
 [tpO [(.str "one" 519),(.str "other" 520)],(.mk (.type "dict") none (.dict #[(de P "__module__" 489 (.str "boxnarrow.kinds" 332)),(de P "__firstlineno__" 493 (.int 83 492)),(de P "__init__" 502 (.ref 248)),(de P "back" 512 (.ref 255)),(de P "slope" 518 (.ref 260)),(de P "__static_attributes__" 521 (.ref 261)),(de P "__doc__" 522 .none)] 2) #[]),(.mk (.type "type") none (.cls (PySem.ClassData.mk "Pair" [(.ref 138)] [(.ref 263),(.ref 138),(.type "object")] 262 "Pair" Bool.true [] [(.ref 310),(.ref 357),(.ref 404)] Bool.false none Bool.false)) #[(some (.ref 235)),none,(some (.str "Pair" 482)),(some (.str "Pair" 490)),(some (.builtin "object.__new__")),(some (.bool Bool.true))]),(.mk (.type "super") none (.fields #[(.ref 263),(.ref 263),(.ref 263)]) #[]),(.mk (.type "builtin_function_or_method") none (.fields #[(.builtin "object.__init_subclass__"),(.ref 263)]) #[]),tpO [(.ref 263)],(.mk (.type "builtin_function_or_method") none (.fields #[(.builtin "type.__prepare__"),(.type "type")]) #[]),(.mk (.type "dict") none (.dict #[(de P "__module__" 532 (.str "boxnarrow.kinds" 332)),(de P "__qualname__" 534 (.str "Plus" 533)),(de P "__firstlineno__" 536 (.int 96 535)),(de P "exact" 545 (.ref 279)),(de P "forth" 555 (.ref 286)),(de P "first_left" 566 (.ref 293)),(de P "second_left" 577 (.ref 300)),(de P "slope_of_both" 589 (.ref 307)),(de P "__static_attributes__" 590 (.ref 308))] 9) #[]),tpO [],fdO [(.int 98 0),(.int 4 0),(.ref 278),(.int 101 0),(.int 4 0),(.ref 285),(.int 104 0),(.int 4 0),(.ref 292),(.int 107 0),(.int 4 0),(.ref 299),(.int 110 0),(.int 4 0),(.ref 306)],(.mk (.type "code") none (.fields #[(.str "Plus" 527),(.str "Plus" 528),(.str "/claim/cut.py" 529),(.int 96 0),(.int 0 0),(.int 0 0),(.int 0 0),(.int 0 0),(.ref 269),(.bool Bool.false),(.int 181 0),(.ref 270),.none,.none,.none,.none,(.int 530 0),(.int 96 0),(.str "/claim/cut.py" 531)]) #[]),(.mk (.type "frame") none .plain #[(some (.ref 271)),(some (.ref 3)),(some (.ref 268)),none,(some (.str "boxnarrow.kinds" 332)),none,(some (.ref 0))])]++
 df "exact" "Plus.exact" (zaG (top 23) 0) (.str "boxnarrow.kinds" 332) 98 3 273 537 ["self","worths","point"]++
 df "forth" "Plus.forth" (zaG (top 23) 1) (.str "boxnarrow.kinds" 332) 101 4 280 546 ["self","spans","box","grid"]++
 df "first_left" "Plus.first_left" (zaG (top 23) 2) (.str "boxnarrow.kinds" 332) 104 5 287 556 ["self","here","x","y","grid"]++
 df "second_left" "Plus.second_left" (zaG (top 23) 3) (.str "boxnarrow.kinds" 332) 107 5 294 567 ["self","here","x","y","grid"]++
 df "slope_of_both" "Plus.slope_of_both" (zaG (top 23) 4) (.str "boxnarrow.kinds" 332) 110 6 301 578 ["self","x","y","a","b","grid"]++
 [tpO [],(.mk (.type "dict") none (.dict #[(de P "__module__" 532 (.str "boxnarrow.kinds" 332)),(de P "__firstlineno__" 536 (.int 96 535)),(de P "exact" 545 (.ref 279)),(de P "forth" 555 (.ref 286)),(de P "first_left" 566 (.ref 293)),(de P "second_left" 577 (.ref 300)),(de P "slope_of_both" 589 (.ref 307)),(de P "__static_attributes__" 590 (.ref 308)),(de P "__doc__" 591 .none)] 2) #[]),(.mk (.type "type") none (.cls (PySem.ClassData.mk "Plus" [(.ref 263)] [(.ref 310),(.ref 263),(.ref 138),(.type "object")] 309 "Plus" Bool.true [] [] Bool.false none Bool.false)) #[(some (.ref 266)),none,(some (.str "Plus" 525)),(some (.str "Plus" 533)),(some (.builtin "object.__new__")),(some (.bool Bool.true))]),(.mk (.type "super") none (.fields #[(.ref 310),(.ref 310),(.ref 310)]) #[]),(.mk (.type "builtin_function_or_method") none (.fields #[(.builtin "object.__init_subclass__"),(.ref 310)]) #[]),tpO [(.ref 263)],(.mk (.type "builtin_function_or_method") none (.fields #[(.builtin "type.__prepare__"),(.type "type")]) #[]),(.mk (.type "dict") none (.dict #[(de P "__module__" 601 (.str "boxnarrow.kinds" 332)),(de P "__qualname__" 603 (.str "Minus" 602)),(de P "__firstlineno__" 605 (.int 112 604)),(de P "exact" 614 (.ref 326)),(de P "forth" 624 (.ref 333)),(de P "first_left" 635 (.ref 340)),(de P "second_left" 646 (.ref 347)),(de P "slope_of_both" 658 (.ref 354)),(de P "__static_attributes__" 659 (.ref 355))] 9) #[]),tpO [],fdO [(.int 114 0),(.int 4 0),(.ref 325),(.int 117 0),(.int 4 0),(.ref 332),(.int 120 0),(.int 4 0),(.ref 339),(.int 123 0),(.int 4 0),(.ref 346),(.int 126 0),(.int 4 0),(.ref 353)],(.mk (.type "code") none (.fields #[(.str "Minus" 596),(.str "Minus" 597),(.str "/claim/cut.py" 598),(.int 112 0),(.int 0 0),(.int 0 0),(.int 0 0),(.int 0 0),(.ref 316),(.bool Bool.false),(.int 181 0),(.ref 317),.none,.none,.none,.none,(.int 599 0),(.int 112 0),(.str "/claim/cut.py" 600)]) #[]),(.mk (.type "frame") none .plain #[(some (.ref 318)),(some (.ref 3)),(some (.ref 315)),none,(some (.str "boxnarrow.kinds" 332)),none,(some (.ref 0))])]++
 df "exact" "Minus.exact" (zaG (top 24) 0) (.str "boxnarrow.kinds" 332) 114 3 320 606 ["self","worths","point"]++
 df "forth" "Minus.forth" (zaG (top 24) 1) (.str "boxnarrow.kinds" 332) 117 4 327 615 ["self","spans","box","grid"]++
 df "first_left" "Minus.first_left" (zaG (top 24) 2) (.str "boxnarrow.kinds" 332) 120 5 334 625 ["self","here","x","y","grid"]++
 df "second_left" "Minus.second_left" (zaG (top 24) 3) (.str "boxnarrow.kinds" 332) 123 5 341 636 ["self","here","x","y","grid"]++
 df "slope_of_both" "Minus.slope_of_both" (zaG (top 24) 4) (.str "boxnarrow.kinds" 332) 126 6 348 647 ["self","x","y","a","b","grid"]++
 [tpO [],(.mk (.type "dict") none (.dict #[(de P "__module__" 601 (.str "boxnarrow.kinds" 332)),(de P "__firstlineno__" 605 (.int 112 604)),(de P "exact" 614 (.ref 326)),(de P "forth" 624 (.ref 333)),(de P "first_left" 635 (.ref 340)),(de P "second_left" 646 (.ref 347)),(de P "slope_of_both" 658 (.ref 354)),(de P "__static_attributes__" 659 (.ref 355)),(de P "__doc__" 660 .none)] 2) #[]),(.mk (.type "type") none (.cls (PySem.ClassData.mk "Minus" [(.ref 263)] [(.ref 357),(.ref 263),(.ref 138),(.type "object")] 356 "Minus" Bool.true [] [] Bool.false none Bool.false)) #[(some (.ref 313)),none,(some (.str "Minus" 594)),(some (.str "Minus" 602)),(some (.builtin "object.__new__")),(some (.bool Bool.true))]),(.mk (.type "super") none (.fields #[(.ref 357),(.ref 357),(.ref 357)]) #[]),(.mk (.type "builtin_function_or_method") none (.fields #[(.builtin "object.__init_subclass__"),(.ref 357)]) #[]),tpO [(.ref 263)],(.mk (.type "builtin_function_or_method") none (.fields #[(.builtin "type.__prepare__"),(.type "type")]) #[]),(.mk (.type "dict") none (.dict #[(de P "__module__" 670 (.str "boxnarrow.kinds" 332)),(de P "__qualname__" 672 (.str "Times" 671)),(de P "__firstlineno__" 674 (.int 128 673)),(de P "exact" 683 (.ref 373)),(de P "forth" 693 (.ref 380)),(de P "first_left" 704 (.ref 387)),(de P "second_left" 715 (.ref 394)),(de P "slope_of_both" 727 (.ref 401)),(de P "__static_attributes__" 728 (.ref 402))] 9) #[]),tpO [],fdO [(.int 130 0),(.int 4 0),(.ref 372),(.int 133 0),(.int 4 0),(.ref 379),(.int 136 0),(.int 4 0),(.ref 386),(.int 139 0),(.int 4 0),(.ref 393),(.int 142 0),(.int 4 0),(.ref 400)],(.mk (.type "code") none (.fields #[(.str "Times" 665),(.str "Times" 666),(.str "/claim/cut.py" 667),(.int 128 0),(.int 0 0),(.int 0 0),(.int 0 0),(.int 0 0),(.ref 363),(.bool Bool.false),(.int 181 0),(.ref 364),.none,.none,.none,.none,(.int 668 0),(.int 128 0),(.str "/claim/cut.py" 669)]) #[]),(.mk (.type "frame") none .plain #[(some (.ref 365)),(some (.ref 3)),(some (.ref 362)),none,(some (.str "boxnarrow.kinds" 332)),none,(some (.ref 0))])]++
 df "exact" "Times.exact" (zaG (top 25) 0) (.str "boxnarrow.kinds" 332) 130 3 367 675 ["self","worths","point"]++
 df "forth" "Times.forth" (zaG (top 25) 1) (.str "boxnarrow.kinds" 332) 133 4 374 684 ["self","spans","box","grid"]++
 df "first_left" "Times.first_left" (zaG (top 25) 2) (.str "boxnarrow.kinds" 332) 136 5 381 694 ["self","here","x","y","grid"]++
 df "second_left" "Times.second_left" (zaG (top 25) 3) (.str "boxnarrow.kinds" 332) 139 5 388 705 ["self","here","x","y","grid"]++
 df "slope_of_both" "Times.slope_of_both" (zaG (top 25) 4) (.str "boxnarrow.kinds" 332) 142 6 395 716 ["self","x","y","a","b","grid"]++
 [tpO [],(.mk (.type "dict") none (.dict #[(de P "__module__" 670 (.str "boxnarrow.kinds" 332)),(de P "__firstlineno__" 674 (.int 128 673)),(de P "exact" 683 (.ref 373)),(de P "forth" 693 (.ref 380)),(de P "first_left" 704 (.ref 387)),(de P "second_left" 715 (.ref 394)),(de P "slope_of_both" 727 (.ref 401)),(de P "__static_attributes__" 728 (.ref 402)),(de P "__doc__" 729 .none)] 2) #[]),(.mk (.type "type") none (.cls (PySem.ClassData.mk "Times" [(.ref 263)] [(.ref 404),(.ref 263),(.ref 138),(.type "object")] 403 "Times" Bool.true [] [] Bool.false none Bool.false)) #[(some (.ref 360)),none,(some (.str "Times" 663)),(some (.str "Times" 671)),(some (.builtin "object.__new__")),(some (.bool Bool.true))]),(.mk (.type "super") none (.fields #[(.ref 404),(.ref 404),(.ref 404)]) #[]),(.mk (.type "builtin_function_or_method") none (.fields #[(.builtin "object.__init_subclass__"),(.ref 404)]) #[]),tpO [(.ref 138)],(.mk (.type "builtin_function_or_method") none (.fields #[(.builtin "type.__prepare__"),(.type "type")]) #[]),(.mk (.type "dict") none (.dict #[(de P "__module__" 739 (.str "boxnarrow.kinds" 332)),(de P "__qualname__" 741 (.str "Power" 740)),(de P "__firstlineno__" 743 (.int 144 742)),(de P "__init__" 752 (.ref 420)),(de P "exact" 761 (.ref 427)),(de P "forth" 771 (.ref 434)),(de P "back" 781 (.ref 441)),(de P "slope" 787 (.ref 446)),(de P "__static_attributes__" 790 (.ref 447))] 9) #[]),tpO [],fdO [(.int 146 0),(.int 4 0),(.ref 419),(.int 150 0),(.int 4 0),(.ref 426),(.int 153 0),(.int 4 0),(.ref 433),(.int 156 0),(.int 4 0),(.ref 440),(.int 159 0),(.int 4 0),(.ref 445)],(.mk (.type "code") none (.fields #[(.str "Power" 734),(.str "Power" 735),(.str "/claim/cut.py" 736),(.int 144 0),(.int 0 0),(.int 0 0),(.int 0 0),(.int 0 0),(.ref 410),(.bool Bool.false),(.int 181 0),(.ref 411),.none,.none,.none,.none,(.int 737 0),(.int 144 0),(.str "/claim/cut.py" 738)]) #[]),(.mk (.type "frame") none .plain #[(some (.ref 412)),(some (.ref 3)),(some (.ref 409)),none,(some (.str "boxnarrow.kinds" 332)),none,(some (.ref 0))])]++
 df "__init__" "Power.__init__" (zaG (top 26) 0) (.str "boxnarrow.kinds" 332) 146 3 414 744 ["self","one","many"]++
 df "exact" "Power.exact" (zaG (top 26) 1) (.str "boxnarrow.kinds" 332) 150 3 421 753 ["self","worths","point"]++
 df "forth" "Power.forth" (zaG (top 26) 2) (.str "boxnarrow.kinds" 332) 153 4 428 762 ["self","spans","box","grid"]++
 df "back" "Power.back" (zaG (top 26) 3) (.str "boxnarrow.kinds" 332) 156 4 435 772 ["self","spans","here","grid"]++
 dg "slope" "Power.slope" (zaG (top 26) 4) (.str "boxnarrow.kinds" 332) 159 5 442 782++
 [tpO [(.str "many" 788),(.str "one" 789)],(.mk (.type "dict") none (.dict #[(de P "__module__" 739 (.str "boxnarrow.kinds" 332)),(de P "__firstlineno__" 743 (.int 144 742)),(de P "__init__" 752 (.ref 420)),(de P "exact" 761 (.ref 427)),(de P "forth" 771 (.ref 434)),(de P "back" 781 (.ref 441)),(de P "slope" 787 (.ref 446)),(de P "__static_attributes__" 790 (.ref 447)),(de P "__doc__" 791 .none)] 2) #[]),(.mk (.type "type") none (.cls (PySem.ClassData.mk "Power" [(.ref 138)] [(.ref 449),(.ref 138),(.type "object")] 448 "Power" Bool.true [] [] Bool.false none Bool.false)) #[(some (.ref 407)),none,(some (.str "Power" 732)),(some (.str "Power" 740)),(some (.builtin "object.__new__")),(some (.bool Bool.true))]),(.mk (.type "super") none (.fields #[(.ref 449),(.ref 449),(.ref 449)]) #[]),(.mk (.type "builtin_function_or_method") none (.fields #[(.builtin "object.__init_subclass__"),(.ref 449)]) #[])]
noncomputable def S1:=mS 12 mO1 452 794
theorem p1_eq (w:World):(λos=>segRunT treeTable PySem.Challenge.pw_boxnarrow_k66_whole_forged_books w 11 (some (.ref 6)) 1 3655 (S0 w os) (piecesOf (bI.take 27) ev cE ⟨0,0,0,0⟩ fT))=λos=>some (.next,S1 w os,cE,⟨144,0,162,68⟩):=by kernel_rfl
theorem zuf (w:World):(λos=>(L3.frc (L3.mkB 12 (mO1 w.params)) λT=>L3.goT treeTable PySem.Challenge.pw_boxnarrow_k66_whole_forged_books w 11 (some (.ref 6)) 3726 ⟨T,452,(boot_heap w.params).life,Array.mk [],boot_drawn,794,os⟩ (restOf (bI.drop 27) ev cE ⟨144,0,162,68⟩ fT)).map λs=>(L3.zlD PySem.Challenge.pw_boxnarrow_k66_whole_forged_books w s))=λ_=>some (true):=by kernel_rfl
theorem zvn (w:World):(λos=>(L3.frc (L3.mkB 12 (mO1 w.params)) λT=>L3.goT treeTable PySem.Challenge.pw_boxnarrow_k66_whole_forged_books w 11 (some (.ref 6)) 3726 ⟨T,452,(boot_heap w.params).life,Array.mk [],boot_drawn,794,os⟩ (restOf (bI.drop 27) ev cE ⟨144,0,162,68⟩ fT)).map λs=>(seen ((recsOf vw).map (·.name)) (ownsOf vw) [] { s.abs with gens:=#[] }))=λ_=>some (expectedOf vw):=by kernel_rfl
theorem ztp (w:World):(λos=>(L3.frc (L3.mkB 12 (mO1 w.params)) λT=>L3.goT treeTable PySem.Challenge.pw_boxnarrow_k66_whole_forged_books w 11 (some (.ref 6)) 3726 ⟨T,452,(boot_heap w.params).life,Array.mk [],boot_drawn,794,os⟩ (restOf (bI.drop 27) ev cE ⟨144,0,162,68⟩ fT)).map λs=>(s.abs.heap.bltView))=λ_=>some (bltViewBooted):=by kernel_rfl
theorem zuC (w:World):(λos=>(L3.frc (L3.mkB 12 (mO1 w.params)) λT=>L3.goT treeTable PySem.Challenge.pw_boxnarrow_k66_whole_forged_books w 11 (some (.ref 6)) 3726 ⟨T,452,(boot_heap w.params).life,Array.mk [],boot_drawn,794,os⟩ (restOf (bI.drop 27) ev cE ⟨144,0,162,68⟩ fT)).map λs=>(s.abs.heap.keysOk (looseW vw []) ((recsOf vw).map (·.name)) ((litsOf vw).map (·.1)) ((clssOf vw (looseW vw [])).map (·.name))&&s.abs.heap.accountedOkI (importedModules PySem.Challenge.pw_boxnarrow_k66_whole_forged_books.main.body)&&s.abs.heap.isNs mainGlobals&&s.abs.heap.isNs builtinsNs&&tablesOk vw s.abs.heap&&xt s.abs&&(if true then s.abs.gens.size==0 else !leftWithCleanup s.abs.gens)))=λ_=>some (true):=by kernel_rfl
theorem zuE (w:World):(λos=>(L3.frc (L3.mkB 12 (mO1 w.params)) λT=>L3.goT treeTable PySem.Challenge.pw_boxnarrow_k66_whole_forged_books w 11 (some (.ref 6)) 3726 ⟨T,452,(boot_heap w.params).life,Array.mk [],boot_drawn,794,os⟩ (restOf (bI.drop 27) ev cE ⟨144,0,162,68⟩ fT)).map λs=>(tabsOk vw s.abs))=λ_=>some (true):=by kernel_rfl
theorem zrQ (w:World):(λos=>(L3.frc (L3.mkB 12 (mO1 w.params)) λT=>L3.goT treeTable PySem.Challenge.pw_boxnarrow_k66_whole_forged_books w 11 (some (.ref 6)) 3726 ⟨T,452,(boot_heap w.params).life,Array.mk [],boot_drawn,794,os⟩ (restOf (bI.drop 27) ev cE ⟨144,0,162,68⟩ fT)).map λs=>(pinSeenD vw (drecsOf vw) s.abs,plainSeenE vw (looseW vw []) s.abs,plainSeenD vw [] s.abs,wideSeen vw s.abs,clsSeenW vw [] s.abs))=λ_=>some (pinGoodD (drecsOf vw),plainGoodE vw (looseW vw []),plainGoodD vw [],wideGood vw,clsGoodW vw []):=by kernel_rfl
theorem ob_eq (w:World):(λos=>(L3.frc (L3.mkB 12 (mO1 w.params)) λT=>L3.goT treeTable PySem.Challenge.pw_boxnarrow_k66_whole_forged_books w 11 (some (.ref 6)) 3726 ⟨T,452,(boot_heap w.params).life,Array.mk [],boot_drawn,794,os⟩ (restOf (bI.drop 27) ev cE ⟨144,0,162,68⟩ fT)).map λs=>ks.map (L3.zi9 s))=λ_=>some (hk.val w):=by kernel_rfl
theorem left:LeftO PySem.Challenge.pw_boxnarrow_k66_whole_forged_books vw [] xt hk.obs hk.val 7394:=L3.zvz (L3.zpi ks) zlA (by decide) fe_eq si_eq (λw os _ r=>L3.zsr rfl (congrFun (ztt w) os) (congrFun (ztM w) os) (by decide) (L3.zsm (congrFun (p1_eq w) os) (L3.zol ((L3.zlO _ _).symm.trans r)))) (λw=>L3.zmM (zuf w) (zvn w)) (λw=>L3.zmM (ztp w) (zuC w)) (λw=>L3.zmM (zuE w) (zrQ w)) ob_eq
end Mine
set_option Elab.async false
set_option linter.all false
set_option maxRecDepth 100000
namespace L2
open PySem PySem.Spec PyProof.Rows
abbrev Key:=Sum Int Str
def zoE:Key→Value→Bool
 | .inl k,v=>Value.isInt k v
 | .inr x,v=>Value.isStrOf x v
def keyH (w:World):Key→Int
 | .inl k=>hashInt k
 | .inr x=>hashStr w x
theorem zcZ:∀ {k:Key} {v:Value},zoE k v=true→(∃i t,k=Sum.inl i∧v=Value.int i t)∨(∃x t,k=Sum.inr x∧v=Value.str x t)
 | .inl i,v,h=>by
  obtain⟨t,e⟩:=Value.isInt_shape (k:=i) (v:=v) h
  exact .inl ⟨i,t,rfl,e⟩
 | .inr x,v,h=>by
  obtain⟨t,e⟩:=Value.isStrOf_shape (x:=x) (v:=v) h
  exact .inr ⟨x,t,rfl,e⟩
theorem zq6 (a b:Int):decide ((Sum.inl a:Key)=Sum.inl b)=(a==b):=by
 by_cases e:a=b
 ·subst e; simp
 ·have h:¬ (Sum.inl a:Key)=Sum.inl b:=λq=>e (Sum.inl.inj q)
  rw[decide_eq_false h]
  exact(beq_eq_false_iff_ne.mpr e).symm
theorem zqD (a b:Str):decide ((Sum.inr a:Key)=Sum.inr b)=decide (a=b):=by
 by_cases e:a=b
 ·subst e; simp
 ·have h:¬ (Sum.inr a:Key)=Sum.inr b:=λq=>e (Sum.inr.inj q)
  rw[decide_eq_false h,decide_eq_false e]
theorem zp0 (a:Int)(b:Str):decide ((Sum.inl a:Key)=Sum.inr b)=false:=decide_eq_false (λq=>nomatch q)
theorem zpb (a:Str)(b:Int):decide ((Sum.inr a:Key)=Sum.inl b)=false:=decide_eq_false (λq=>nomatch q)
def zo3 (prog:Program)(w:World):PySem.KeyKind prog w Key where
 is:=zoE
 hash:=keyH w
 inj:=λv a b ha hb=>by
  rcases zcZ ha with ⟨i,t,rfl,rfl⟩ | ⟨x,t,rfl,rfl⟩
  ·rcases zcZ hb with ⟨j,u,rfl,e⟩ | ⟨y,u,rfl,e⟩
   ·injection e with e1 _; rw[e1]
   ·exact nomatch e
  ·rcases zcZ hb with ⟨j,u,rfl,e⟩ | ⟨y,u,rfl,e⟩
   ·exact nomatch e
   ·injection e with e1 _; rw[e1]
 byValue:=λk v h=>by
  rcases zcZ h with ⟨i,t,rfl,rfl⟩ | ⟨x,t,rfl,rfl⟩ <;> rfl
 pyHash:=λhv h=>by
  rcases zcZ hv with ⟨i,t,rfl,rfl⟩ | ⟨x,t,rfl,rfl⟩
  ·exact wpAny_pyHash_int h
  ·exact wpAny_pyHash_str h
 eqBool:=λhu hv h=>by
  rcases zcZ hu with ⟨i,t,rfl,rfl⟩ | ⟨x,t,rfl,rfl⟩
  ·rcases zcZ hv with ⟨j,u,rfl,rfl⟩ | ⟨y,u,rfl,rfl⟩
   ·rw[zq6] at h; exact wpAny_eqBool_int h
   ·rw[zp0] at h; exact SeqAt.EqAt.int_str i t y u _ _ _ _ h
  ·rcases zcZ hv with ⟨j,u,rfl,rfl⟩ | ⟨y,u,rfl,rfl⟩
   ·rw[zpb] at h; exact SeqAt.EqAt.str_int x t j u _ _ _ _ h
   ·rw[zqD] at h; exact wpAny_eqBool_str h
 «strs»:=λk x t v h=>by
  rcases zcZ h with ⟨i,u,rfl,e⟩ | ⟨y,u,rfl,e⟩
  ·exact nomatch e
  ·injection e with e1 _
   subst e1
   cases v <;> rfl
end L2
namespace L2
open PySem PySem.Spec PyProof.Rows
inductive V where
 | non | bl (b:Bool) | int (i:Int) | str (x:Str) | byt (b:Array UInt8) | flt (b:UInt64) | ref (a:Addr) | ty (n:String)
 deriving DecidableEq
def zan:V→Value→Prop
 | .non,u=>u=Value.none
 | .bl b,u=>u=Value.bool b
 | .int i,u=>∃t,u=Value.int i t
 | .str x,u=>∃t,u=Value.str x t
 | .byt b,u=>∃t,u=Value.bytes b t
 | .flt b,u=>∃t,u=Value.float b t
 | .ref a,u=>u=Value.ref a
 | .ty n,u=>u=Value.type n
abbrev zao:List V→List Value→Prop:=Paired zan
theorem zao.length {xs:List V}{us:List Value}(r:zao xs us):xs.length=us.length:=Paired.length r
theorem zao.get:∀ {xs:List V} {us:List Value} {i:Nat} {x:V},zao xs us→xs[i]?=some x→∃u,us[i]?=some u∧zan x u
 | _,_,_,_,.nil,e=>by simp at e
 | _,_,0,_,.cons r _,e=>by simp at e; subst e; exact⟨_,rfl,r⟩
 | _,_,i+1,x,.cons _ t,e=>by
  obtain⟨u,h1,h2⟩:=zao.get (i:=i) (x:=x) t (by simpa using e)
  exact⟨u,by simpa using h1,h2⟩
theorem zao.set {x:V}{u:Value}(r:zan x u):∀ {xs:List V} {us:List Value} (i:Nat),zao xs us→zao (xs.set i x) (us.set i u)
 | _,_,_,.nil=>.nil
 | _,_,0,.cons _ t=>.cons r t
 | _,_,i+1,.cons q t=>.cons q (zao.set r i t)
theorem zao.append:∀ {xs ys:List V} {us ws:List Value},zao xs us→zao ys ws→zao (xs++ys) (us++ws)
 | _,_,_,_,.nil,s=>s
 | _,_,_,_,.cons r t,s=>.cons r (zao.append t s)
theorem zao.take:∀ {xs:List V} {us:List Value} (n:Nat),zao xs us→zao (xs.take n) (us.take n)
 | _,_,0,_=>.nil
 | _,_,_+1,.nil=>.nil
 | _,_,n+1,.cons r t=>.cons r (zao.take n t)
theorem zao.drop:∀ {xs:List V} {us:List Value} (n:Nat),zao xs us→zao (xs.drop n) (us.drop n)
 | _,_,0,r=>r
 | _,_,_+1,.nil=>.nil
 | _,_,n+1,.cons _ t=>zao.drop n t
theorem zao.none_of:∀ {xs:List V} {us:List Value} {i:Nat},zao xs us→xs[i]?=none→us[i]?=none:=λ{xs us i} r e=>by
 have h1:=r.length
 have h2:xs.length≤i:=VaJ.mp e
 exact VaJ.mpr (by omega)
def zbz:Option V→Option Value→Prop
 | some v,some u=>zan v u
 | none,none=>True
 | _,_=>False
def KV {κ:Type}:List (κ×V)→List (κ×Value)→Prop:=Paired λ(p:κ×V) (q:κ×Value)=>p.1=q.1∧zan p.2 q.2
def kV:Key→V
 | .inl i=>.int i
 | .inr x=>.str x
inductive HO where
  | lst (xs:List V)
  | tup (xs:List V)
  | dK (kvs:List (Key×V)) | dT (kvs:List (List Key×V))
  | set (S:Int→Bool) (n:Nat)
  | ins (C dx:Addr) (fs:List (Str×V))
  | own (x:Addr)
  | xd (fs:List (Str×V))
  | met (f x:Addr)
  | rng (lo hi:Int)
  | frz (o:Obj) (u:HO)
  | tbl (ps:Array Value)
  | ext (φ:Heap→Prop)
abbrev Hp:=Addr→Option HO
def upd (H:Hp)(a:Addr)(o:HO):Hp:=λb=>if b=a then some o else H b
theorem zb5 {H:Hp}{a:Addr}{o:HO}:upd H a o a=some o:=by unfold upd; rw[if_pos rfl]
theorem za4 {H:Hp}{a b:Addr}{o:HO}(h:b≠a):upd H a o b=H b:=by unfold upd; rw[if_neg h]
theorem zlv {H:Hp}{a b:Addr}{o u:HO}(h:H a=some o)(h':H b=some u)(d:o≠u):a≠b:=by
 intro e; subst e; rw[h] at h'; exact d (Option.some.inj h')
theorem zdj {H:Hp}{a b:Addr}{o:HO}(h:H a=some o)(h':H b=none):a≠b:=by
 intro e; subst e; rw[h] at h'; cases h'
section
variable (P:Program)(w:World)
def zbm (H:Hp)(h:Heap)(a:Addr):HO→Prop
 | .lst xs=>xs.length≤sizeLine∧∃(its:List Value) (n:Nat),zao xs its∧h.get? a=some { cls:=.type "list",data:=.seq its.toArray n }
 | .tup xs=>xs.length≤sizeLine∧∃its:List Value,zao xs its∧IsTup h a its.toArray
 | .dK kvs=>kvs.length≤sizeLine∧(a==sysModules)=false∧∃vs,KV kvs vs∧h.DictOf (zo3 P w) a vs
 | .dT kvs=>kvs.length≤sizeLine∧(a==sysModules)=false∧∃xs:List (List Key×Addr×Value),
   Paired (λ(p:List Key×V) (q:List Key×Addr×Value)=>p.1=q.1∧H q.2.1=some (.tup (p.1.map kV))∧zan p.2 q.2.2) kvs xs∧
   ∃o es ep,h.get? a=some o∧o.ExactDict∧o.data=.dict es ep∧es.toList=xs.map (entryOfKey (tupleKind (zo3 P w)))∧(xs.map (·.1)).Nodup
 | .set S n=>h.SetOf (intKind P w) a S n
 | .ins C dx fs=>H dx=some (.own a)∧fs.length≤1000∧dx≠a∧h.get? a=some (PySem.W.instObj C dx)∧
   ∃mA,h.Ns1 dx mA∧(∀f,zbz (fs.lookup f) (mA f))∧PySem.Within mA (fs.map (·.1))
 | .own _=>∃o,h.get? a=some o
 | .xd fs=>∃mA,h.Ns1 a mA∧∀f,zbz (fs.lookup f) (mA f)
 | .rng lo hi=>∃t u v,h.get? a=some { cls:=.type "range",data:=.fields #[.int lo t,.int hi u,.int 1 v] }
 | .frz o u=>h.get? a=some o∧zbm H h a u
 | .tbl ps=>h.get? a=some { cls:=.none,data:=.fields ps }
 | .met f x=>h.get? a=some (PySem.W.methodObj (.ref f) (.ref x))
 | .ext φ=>φ h∧(∃o,h.get? a=some o)∧∀h1 h2:Heap,φ h1→(∀o,h1.get? a=some o→h2.get? a=some o)→φ h2
def HOk (H:Hp)(h:Heap):Prop:=∀a o,H a=some o→zbm P w H h a o
end
section
variable {P:Program}{w:World}{H H':Hp}{h h':Heap}{a:Addr}{o:HO}
theorem zbm.lt (x:zbm P w H h a o):a<h.objs.size:=by
 cases o with
 | lst xs=>obtain⟨_,_,_,_,e⟩:=x; exact Heap.lt_size e
 | tup xs=>obtain⟨_,_,_,p⟩:=x; exact p.lt
 | dK kvs=>obtain⟨_,_,_,_,o,_,_,e,_⟩:=x; exact Heap.lt_size e
 | dT kvs=>obtain⟨_,_,_,_,o,_,_,e,_⟩:=x; exact Heap.lt_size e
 | set S n=>obtain⟨o,_,_,_,e,_⟩:=x; exact Heap.lt_size e
 | ins C dx fs=>obtain⟨_,_,_,e,_⟩:=x; exact Heap.lt_size e
 | own y=>obtain⟨_,e⟩:=x; exact Heap.lt_size e
 | xd fs=>obtain⟨_,⟨_,_,_,e,_⟩,_⟩:=x; exact Heap.lt_size e
 | rng lo hi=>obtain⟨_,_,_,e⟩:=x; exact Heap.lt_size e
 | frz ob u=>obtain⟨e,_⟩:=x; exact Heap.lt_size e
 | tbl ps=>exact Heap.lt_size (show h.get? a=some _ from x)
 | met f y=>exact Heap.lt_size (show h.get? a=some _ from x)
 | ext φ=>obtain⟨_,⟨_,e⟩,_⟩:=x; exact Heap.lt_size e
theorem Paired.mapP {α β:Type}{F G:α→β→Prop}:∀ {l₁:List α} {l₂:List β},Paired F l₁ l₂→(∀a b,F a b→G a b)→Paired G l₁ l₂
 | _,_,.nil,_=>.nil
 | _,_,.cons r t,f=>.cons (f _ _ r) (Paired.mapP t f)
theorem zbm.stay (x:zbm P w H h a o)(k:∀b u,(b=a∨H b=some (.own a))→h.get? b=some u→h'.get? b=some u)
  (ho:∀b,H b=some (.own a)→H' b=some (.own a))(ht:∀b xs,H b=some (.tup xs)→H' b=some (.tup xs)):zbm P w H' h' a o:=by
 induction o with
 | lst xs=>obtain⟨z,its,n,r,e⟩:=x; exact⟨z,its,n,r,k _ _ (.inl rfl) e⟩
 | tup xs=>obtain⟨z,its,r,ob,e,c⟩:=x; exact⟨z,its,r,ob,k _ _ (.inl rfl) e,c⟩
 | dK kvs=>obtain⟨z,y,vs,r,ob,es,ep,e,c⟩:=x; exact⟨z,y,vs,r,ob,es,ep,k _ _ (.inl rfl) e,c⟩
 | dT kvs=>
  obtain⟨z,y,xs,r,ob,es,ep,e,c⟩:=x
  exact⟨z,y,xs,Paired.mapP r λp q z=>⟨z.1,ht _ _ z.2.1,z.2.2⟩,ob,es,ep,k _ _ (.inl rfl) e,c⟩
 | set S n=>obtain⟨ob,es,ep,t,e,c⟩:=x; exact⟨ob,es,ep,t,k _ _ (.inl rfl) e,c⟩
 | ins C dx fs=>
  obtain⟨d,z,ne,e,mA,⟨od,es,ep,e2,c⟩,r⟩:=x
  exact⟨ho _ d,z,ne,k _ _ (.inl rfl) e,mA,⟨od,es,ep,k _ _ (.inr d) e2,c⟩,r⟩
 | own y=>obtain⟨ob,e⟩:=x; exact⟨ob,k _ _ (.inl rfl) e⟩
 | xd fs=>obtain⟨mA,⟨od,es,ep,e,c⟩,r⟩:=x; exact⟨mA,⟨od,es,ep,k _ _ (.inl rfl) e,c⟩,r⟩
 | rng lo hi=>obtain⟨t,u,v,e⟩:=x; exact⟨t,u,v,k _ _ (.inl rfl) e⟩
 | frz ob u ih=>obtain⟨e,q⟩:=x; exact⟨k _ _ (.inl rfl) e,ih q⟩
 | tbl ps=>
  have e:h.get? a=some { cls:=.none,data:=.fields ps }:=x
  show h'.get? a=some { cls:=.none,data:=.fields ps }
  exact k a _ (.inl rfl) e
 | met f y=>
  have e:h.get? a=some (PySem.W.methodObj (.ref f) (.ref y)):=x
  show h'.get? a=some (PySem.W.methodObj (.ref f) (.ref y))
  exact k a _ (.inl rfl) e
 | ext φ=>obtain⟨p,⟨o,e⟩,st⟩:=x; exact⟨st _ _ p λo q=>k _ _ (.inl rfl) q,⟨o,k _ _ (.inl rfl) e⟩,st⟩
theorem HOk.lt (x:HOk P w H h)(e:H a=some o):a<h.objs.size:=(x a o e).lt
theorem HOk.fresh (x:HOk P w H h)(e:h.objs.size≤a):H a=none:=by
 cases q:H a with
 | none=>rfl
 | some u=>exact absurd (Vau (x.lt q) e) (VaC _)
theorem HOk.kept (x:HOk P w H h)(k:∀b u,h.get? b=some u→h'.get? b=some u):HOk P w H h':=λa o e=>
 (x a o e).stay (λb u _ q=>k b u q) (λ_ q=>q) λ_ _ q=>q
theorem HOk.laid (x:HOk P w H h)(k:∀b u,h.get? b=some u→h'.get? b=some u)(hp:h.objs.size≤a)(new:zbm P w (upd H a o) h' a o):HOk P w (upd H a o) h':=λb u e=>by
 have hn:=x.fresh hp
 by_cases hb:b=a
 ·subst hb; rw[zb5] at e; cases e; exact new
 ·rw[za4 hb] at e
  exact(x b u e).stay (λc v _ q=>k c v q) (λc q=>by rw[za4 (zdj q hn)]; exact q) λc xs q=>by rw[za4 (zdj q hn)]; exact q
end
def Rd (H:Hp)(a:Addr)(u:HO):Prop:=H a=some u∨∃o,H a=some (.frz o u)
theorem Rd.of {H:Hp}{a:Addr}{u:HO}(h:H a=some u):Rd H a u:=.inl h
theorem Rd.ok {P:Program}{w:World}{H:Hp}{h:Heap}{a:Addr}{u:HO}(r:Rd H a u)(x:HOk P w H h):zbm P w H h a u:=by
 rcases r with r | ⟨o,r⟩
 ·exact x a u r
 ·obtain⟨_,q⟩:=x a _ r
  exact q
def Mut:Option HO→Prop
 | some (.lst _)=>True
 | some (.dK _)=>True
 | some (.dT _)=>True
 | some (.set _ _)=>True
 | some (.ins _ _ _)=>True
 | some (.ext _)=>True
 | _=>False
section
variable {P:Program}{w:World}{H:Hp}{h h':Heap}{x e:Addr}{o':HO}
theorem HOk.write (ok:HOk P w H h)(mu:Mut (H x))(he:e=x∨H e=some (.own x))(k:∀b u,b≠e→h.get? b=some u→h'.get? b=some u)(heo:∃u,h'.get? e=some u)
  (new:zbm P w (upd H x o') h' x o'):HOk P w (upd H x o') h':=λb u q=>by
 have nown:∀c y,H c=some (.own y)→c≠x:=λc y r z=>by subst z; rw[r] at mu; exact mu
 have ntup:∀c xs,H c=some (.tup xs)→c≠x:=λc xs r z=>by subst z; rw[r] at mu; exact mu
 by_cases hb:b=x
 ·subst hb; rw[zb5] at q; cases q; exact new
 ·rw[za4 hb] at q
  by_cases hbe:b=e
  ·have q':H b=some (.own x):=by
    rcases he with z | z
    ·exact absurd (hbe.trans z) hb
    ·rw[hbe]; exact z
   rw[q] at q'; cases q'
   obtain⟨v,hv⟩:=heo
   exact⟨v,by rw[hbe]; exact hv⟩
  ·refine(ok b u q).stay (λc v hc r=>k c v ?_ r) (λc r=>by rw[za4 (nown c b r)]; exact r) λc xs r=>by rw[za4 (ntup c xs r)]; exact r
   rcases hc with rfl | hc
   ·exact hbe
   ·rintro rfl
    rcases he with z | z
    ·exact nown c b hc z
    ·rw[hc] at z; cases z; exact hb rfl
end
structure Un (fs ex:List Addr)(H H':Hp)(h h':Heap):Prop where
 keep:∀b o,h.get? b=some o→H b=none→b ∉ fs→b ∉ ex→h'.get? b=some o
 slot:∀b o,h.get? b=some o→H b=none→b∈fs→b ∉ ex→∃sl,h'.get? b=some { o with slots:=sl }
 free:∀b o,h.get? b=some o→H b=none→b ∉ ex→H' b=none
 there:∀b o,h.get? b=some o→b ∉ ex→∃o',h'.get? b=some o'
 tups:∀b xs,H b=some (.tup xs)→H' b=some (.tup xs)
 frzs:∀b o u,H b=some (.frz o u)→H' b=some (.frz o u)
 tbls:∀b ps,H b=some (.tbl ps)→∃more,H' b=some (.tbl (ps++more))
section
variable {fs fs' ex ex':List Addr}{H H1 H2:Hp}{h h1 h2 h':Heap}{a x e:Addr}{o:HO}
theorem Un.any (u:Un fs ex H H1 h h1){b:Addr}{ob:Obj}(q:h.get? b=some ob)(n:H b=none)(hx:b ∉ ex):∃sl,h1.get? b=some { ob with slots:=sl }:=by
 by_cases hb:b∈fs
 ·exact u.slot b ob q n hb hx
 ·exact⟨ob.slots,u.keep b ob q n hb hx⟩
theorem Un.trans (a:Un fs ex H H1 h h1)(b:Un fs ex H1 H2 h1 h2):Un fs ex H H2 h h2 where
 keep:=λc ob q n hc hx=>b.keep c ob (a.keep c ob q n hc hx) (a.free c ob q n hx) hc hx
 slot:=λc ob q n hc hx=>by
  obtain⟨sl,e1⟩:=a.slot c ob q n hc hx
  obtain⟨sl',e2⟩:=b.slot c _ e1 (a.free c ob q n hx) hc hx
  exact⟨sl',e2⟩
 free:=λc ob q n hx=>by
  obtain⟨o',e1⟩:=a.there c ob q hx
  exact b.free c o' e1 (a.free c ob q n hx) hx
 there:=λc ob q hx=>by
  obtain⟨o',e1⟩:=a.there c ob q hx
  exact b.there c o' e1 hx
 tups:=λc xs q=>b.tups c xs (a.tups c xs q)
 frzs:=λc ob xs q=>b.frzs c ob xs (a.frzs c ob xs q)
 tbls:=λc ps q=>by
  obtain⟨m1,e1⟩:=a.tbls c ps q
  obtain⟨m2,e2⟩:=b.tbls c _ e1
  exact⟨m1++m2,by rw[e2,Array.append_assoc]⟩
theorem Un.kept (k:∀b u,h.get? b=some u→h'.get? b=some u):Un fs ex H H h h':=
 ⟨λb ob q _ _ _=>k b ob q,λb ob q _ _ _=>⟨ob.slots,k b ob q⟩,λ_ _ _ n _=>n,λb ob q _=>⟨ob,k b ob q⟩,λ_ _ q=>q,λ_ _ _ q=>q,λ_ ps q=>⟨#[],by rw[q]; simp⟩⟩
theorem Un.refl:Un fs ex H H h h:=Un.kept λ_ _ q=>q
theorem Un.laid (k:∀b u,h.get? b=some u→h'.get? b=some u)(hp:h.objs.size≤a)(hn:H a=none):Un fs ex H (upd H a o) h h' where
 keep:=λb u q _ _ _=>k b u q
 slot:=λb u q _ _ _=>⟨u.slots,k b u q⟩
 free:=λb u q n _=>by rw[za4 (Van (Vau (Heap.lt_size q) hp))]; exact n
 there:=λb u q _=>⟨u,k b u q⟩
 tups:=λb xs q=>by rw[za4 (zdj q hn)]; exact q
 frzs:=λb u xs q=>by rw[za4 (zdj q hn)]; exact q
 tbls:=λb ps q=>⟨#[],by rw[za4 (zdj q hn),q]; simp⟩
theorem Un.write (mu:Mut (H x))(he:e=x∨H e=some (.own x))(k:∀b u,b≠e→h.get? b=some u→h'.get? b=some u)(heo:∃u,h'.get? e=some u):Un fs ex H (upd H x o) h h':=by
 have hx:∀b,H b=none→b≠x:=λb n z=>by subst z; rw[n] at mu; exact mu
 have hb:∀b,H b=none→b≠e:=λb n z=>by
  subst z
  rcases he with r | r
  ·exact hx b n r
  ·rw[n] at r; cases r
 have hm:∀b u,H b=some u→¬ Mut (some u)→b≠x:=λb u q nm z=>by subst z; rw[q] at mu; exact nm mu
 refine⟨λb u q n _ _=>k b u (hb b n) q,λb u q n _ _=>⟨u.slots,k b u (hb b n) q⟩,λb u q n _=>by rw[za4 (hx b n)]; exact n,λb u q _=>?_,
  λb xs q=>by rw[za4 (hm b _ q λz=>z)]; exact q,λb u xs q=>by rw[za4 (hm b _ q λz=>z)]; exact q,λb ps q=>⟨#[],by rw[za4 (hm b _ q λz=>z),q]; simp⟩⟩
 by_cases hbe:b=e
 ·subst hbe; exact heo
 ·exact⟨u,k b u hbe q⟩
theorem Un.mono (u:Un fs ex H H1 h h1)(hs:∀b∈fs,b∈fs')(hx:∀b∈ex,b∈ex'):Un fs' ex' H H1 h h1:=
 ⟨λb ob q n hb he=>u.keep b ob q n (λz=>hb (hs b z)) λz=>he (hx b z),λ_ _ q n _ he=>u.any q n λz=>he (hx _ z),λb ob q n he=>u.free b ob q n λz=>he (hx b z),λb ob q he=>u.there b ob q λz=>he (hx b z),u.tups,u.frzs,u.tbls⟩
end
def trk (h:Heap)(H:Hp):List Addr:=(List.range h.objs.size).filter λa=>(H a).isSome
def zcT (h:Heap)(H:Hp):Heap:=PySem.W.hideAll h (trk h H)
theorem zrf (h:Heap)(H:Hp):(zcT h H).objs.size=h.objs.size:=PySem.W.hideAll_size _ _
theorem zsa {h:Heap}{H:Hp}{b:Addr}{o:Obj}(e:h.get? b=some o)(n:H b=none):(zcT h H).get? b=some o:=
 PySem.W.hideAll_get _ e λhm=>by
  have q:(H b).isSome=true:=(List.mem_filter.mp hm).2
  rw[n] at q; simp at q
theorem zrG {h:Heap}{H:Hp}{b:Addr}{o:Obj}(e:(zcT h H).get? b=some o):h.get? b=some o∧H b=none:=by
 have e':h.get? b=some o:=PySem.W.of_hideAll (trk h H) e
 refine⟨e',?_⟩
 cases q:H b with
 | none=>rfl
 | some x=>
  have hm:b∈trk h H:=List.mem_filter.mpr ⟨List.mem_range.mpr (Heap.lt_size e'),by simp[q]⟩
  have z:(zcT h H).get? b=none:=PySem.W.hideAll_none (trk h H) hm
  rw[z] at e; cases e
def zqK (g h:Heap)(L:Addr):List (Addr×Obj):=(List.range h.objs.size).filterMap λa=>if a=L∨(g.get? a).isSome=true then none else (h.get? a).map λo=>(a,o)
def zbe (g h:Heap)(L d:Addr):List (Addr×Obj):=(zqK g h L).filter λp=>decide (p.1≠d)
end L2
namespace L2
open PySem PySem.Spec PyProof.Rows
structure Mod (K:PySem.W.Frag)(mg:Str→Option Value)(base:Heap):Prop where
 kin:K.In base
 glob:base.Ns mainGlobals mg
 blt:∃mb,base.Ns builtinsNs mb∧∀x:Str,x≠"__name__"→mb x=bootBuiltins x
 nolimit:base.NoLimit
structure Cx where
 prog:Program
 w:World
 K:PySem.W.Frag
 mg:Str→Option Value
 base:Heap
 A:Around
 N:List Str
 s₀:Shared
 H₀:Hp
 env:Env
 outer:List Env
 stack:List Env
 ex:List Addr
 fn:Str→Bool
 calm:Bool
 pn:List (Addr×Obj)
 xe:Value→Shared→Prop
def frs (l:List Env):List Addr:=l.filterMap (·.frame)
abbrev Cx.fs (X:Cx):List Addr:=frs X.outer
def Vis (sc:Scope)(x:Str):Prop:=sc.names.lookup x=some .local∨sc.names.lookup x=some .cell∨sc.names.lookup x=some .free
def Loc (sc:Scope)(x:Str):Prop:=sc.names.lookup x=some .local∨sc.names.lookup x=some .cell
def Look (env:Env)(h:Heap)(m:Str→Option Value)(x:Str)(u:Value):Prop:=
 (env.kindOf x=some .local∧m x=some u)∨((env.kindOf x=some .cell∨env.kindOf x=some .free)∧∃c,env.cells.lookup x=some c∧h.IsCell c (some u))
structure Cx.Ok (X:Cx):Prop where
 mod:Mod X.K X.mg X.base
 kind:X.env.scope.kind=.function
 glob:X.env.globals=mainGlobals
 blt:X.env.builtins=builtinsNs
 above:X.s₀.heap.objs.size≤X.env.locals
 inj:∀x y c,X.env.cells.lookup x=some c→X.env.cells.lookup y=some c→x=y
 has:∀x,(X.env.kindOf x=some .cell∨X.env.kindOf x=some .free)→∃c,X.env.cells.lookup x=some c
 cab:∀x c,X.fn x=true→X.env.cells.lookup x=some c→X.s₀.heap.objs.size≤c
 hd:X.calm=true→X.A.handled=none
 frames:X.A.frames=some X.stack
 stk:X.stack=X.outer∨(X.stack=X.env::X.outer∧X.env.frame=some X.env.locals)
 exf:∀b∈X.ex,b≠X.env.locals∧∀x c,X.env.cells.lookup x=some c→c≠b
 bs:∀b o,X.base.get? b=some o→X.s₀.heap.get? b=some o∧X.H₀ b=none
 bsz:X.base.objs.size≤X.s₀.heap.objs.size
 noex:∀b o,X.base.get? b=some o→b ∉ X.ex
 exfs:∀b∈X.ex,b ∉ X.fs
 funs:X.s₀.heap.FunFrames X.base X.outer
 frf:∀b∈X.fs,X.H₀ b=none
structure Inv (X:Cx)(pins:List (Addr×Obj))(σ:List (Option V))(H:Hp)(s:Shared):Prop where
 ok:X.Ok
 os:s.os=X.s₀.os
 bare:AllBare s.gens
 base:Un X.fs X.ex X.H₀ H X.s₀.heap s.heap
 loc:∃m,s.heap.Ns X.env.locals m∧∀(i:Nat) (x:Str) (v:V),X.N[i]?=some x→σ[i]?=some (some v)→Vis X.env.scope x→∃u,zan v u∧Look X.env s.heap m x u
 cell:∀x c,X.env.cells.lookup x=some c→∃v,s.heap.IsCell c v
 free:H X.env.locals=none
 freeC:∀x c,X.env.cells.lookup x=some c→H c=none
 pin:∀p∈X.pn++pins,s.heap.get? p.1=some p.2∧H p.1=none∧p.1≠X.env.locals∧p.1 ∉ X.fs∧∀v,p.2.data≠.cell v
 hok:HOk X.prog X.w H s.heap
 len:σ.length=X.N.length
section
variable {X:Cx}{pins:List (Addr×Obj)}{σ:List (Option V)}{H H':Hp}{s:Shared}{h':Heap}
theorem Cx.Ok.nofr (ok:X.Ok){b:Addr}{o:Obj}(e:X.base.get? b=some o):b ∉ X.fs:=λhb=>by
 have:=(ok.funs.mem hb).1
 rw[e] at this; cases this
theorem Inv.bs (I:Inv X pins σ H s):∀b o,X.base.get? b=some o→s.heap.get? b=some o∧H b=none:=λb o e=>
 ⟨I.base.keep b o (I.ok.bs b o e).1 (I.ok.bs b o e).2 (I.ok.nofr e) (I.ok.noex b o e),I.base.free b o (I.ok.bs b o e).1 (I.ok.bs b o e).2 (I.ok.noex b o e)⟩
theorem Inv.bk (I:Inv X pins σ H s):∀b o,X.base.get? b=some o→s.heap.get? b=some o:=λb o e=>(I.bs b o e).1
theorem Inv.mod (I:Inv X pins σ H s):Mod X.K X.mg X.base:=I.ok.mod
theorem Inv.kIn (I:Inv X pins σ H s):X.K.In s.heap:=I.ok.mod.kin.keeps I.bk
theorem Inv.nolimit (I:Inv X pins σ H s):s.heap.NoLimit:=I.ok.mod.nolimit.keeps I.bk
theorem Inv.fr (I:Inv X pins σ H s):∃m,Fr X.base X.env.locals s.heap m:=
 let ⟨m,hn,_⟩:=I.loc
 ⟨m,hn,I.bk,Vaz I.ok.bsz I.ok.above⟩
theorem Inv.lt (I:Inv X pins σ H s):X.env.locals<s.heap.objs.size:=let ⟨_,hn,_⟩:=I.loc; hn.lt
theorem Inv.sz (I:Inv X pins σ H s):X.s₀.heap.objs.size≤s.heap.objs.size:=Vaz I.ok.above (VaW I.lt)
theorem Inv.nofs (I:Inv X pins σ H s){a:Addr}(h:s.heap.objs.size≤a):a ∉ X.fs:=λhb=>by
 obtain⟨_,o,ho,_⟩:=I.ok.funs.mem hb
 exact absurd (Vau (Heap.lt_size ho) (Vaz I.sz h)) (VaC _)
theorem Inv.cne (I:Inv X pins σ H s):∀x c,X.env.cells.lookup x=some c→c≠X.env.locals:=λx c e z=>by
 obtain⟨v,o,ho,hd⟩:=I.cell x c e
 obtain⟨m,⟨o',es,ep,ho',hd',_⟩,_⟩:=I.loc
 rw[z,ho'] at ho; cases ho; rw[hd'] at hd; cases hd
theorem Inv.funs (I:Inv X pins σ H s):s.heap.FunFrames X.base X.outer:=by
 have all:∀(l:List Env),(∀b∈frs l,b∈X.fs)→X.s₀.heap.FunFrames X.base l→s.heap.FunFrames X.base l:=by
  intro l
  induction l with
  | nil=>intro _ _; trivial
  | cons env r ih=>
   intro hs hl
   obtain⟨hk,⟨L,o,hf,hn,ho,hd⟩,hr⟩:=hl
   have hL:L∈X.fs:=hs L (by unfold frs; rw[List.filterMap_cons,hf]; exact VaT)
   obtain⟨sl,e⟩:=I.base.slot L o ho (I.ok.frf L hL) hL λz=>I.ok.exfs L z hL
   exact⟨hk,⟨L,_,hf,hn,e,hd⟩,ih (λb hb=>hs b (by unfold frs; rw[List.filterMap_cons,hf]; exact VaG _ hb)) hr⟩
 exact all X.outer (λ_ hb=>hb) I.ok.funs
theorem Inv.stack (I:Inv X pins σ H s):s.heap.FunFrames X.base X.stack:=by
 rcases I.ok.stk with e | ⟨e,hf⟩
 ·rw[e]; exact I.funs
 ·rw[e]
  obtain⟨m,hn,_⟩:=I.loc
  refine .cons (by rw[I.ok.kind]; decide) hf hn ?_ I.funs
  exact Heap.get?_none_of_le (Vaz I.ok.bsz I.ok.above)
theorem Inv.stkSub (I:Inv X pins σ H s):∀b∈frs X.stack,b∈X.env.locals::X.fs:=λb hb=>by
 rcases I.ok.stk with e | ⟨e,hf⟩
 ·rw[e] at hb; exact VaG _ hb
 ·rw[e] at hb
  unfold frs at hb
  rw[List.filterMap_cons,hf] at hb
  exact hb
theorem Inv.stkFree (I:Inv X pins σ H s):∀b∈frs X.stack,H b=none:=λb hb=>by
 rcases Vaf.mp (I.stkSub b hb) with e | hb
 ·rw[e]; exact I.free
 ·obtain⟨_,o,ho,_⟩:=I.ok.funs.mem hb
  exact I.base.free b o ho (I.ok.frf b hb) λz=>I.ok.exfs b z hb
theorem Inv.step {g':Array GenState}{t':Nat}{d':Drawn}{ch:List Addr}(I:Inv X pins σ H s)
  (hch:∀b∈ch,(b∈X.ex∨X.s₀.heap.objs.size≤b)∧b≠X.env.locals∧(∀x c,X.env.cells.lookup x=some c→c≠b)∧∀p∈X.pn++pins,p.1≠b)
  (keep:∀b o,b≠X.env.locals→b ∉ X.fs→b ∉ ch→s.heap.get? b=some o→H b=none→h'.get? b=some o)
  (slot:∀b o,b≠X.env.locals→b∈X.fs→b ∉ ch→s.heap.get? b=some o→H b=none→∃sl,h'.get? b=some { o with slots:=sl })(free:∀b o,b ∉ ch→s.heap.get? b=some o→H b=none→H' b=none)
  (there:∀b o,b ∉ ch→s.heap.get? b=some o→∃o',h'.get? b=some o')
  (tups:∀b xs,H b=some (.tup xs)→H' b=some (.tup xs))(frzs:∀b o u,H b=some (.frz o u)→H' b=some (.frz o u))(tbls:∀b ps,H b=some (.tbl ps)→∃more,H' b=some (.tbl (ps++more)))
  (ns:∀m,s.heap.Ns X.env.locals m→h'.Ns X.env.locals m)(hok:HOk X.prog X.w H' h')(hg:AllBare g'):
  Inv X pins σ H' { s with heap:=h',gens:=g',drawn:=d',toks:=t' }:=by
 have neL:∀b o,X.s₀.heap.get? b=some o→b≠X.env.locals:=λb o e=>Van (Vau (Heap.lt_size e) I.ok.above)
 have neC:∀b o,X.s₀.heap.get? b=some o→b ∉ X.ex→b ∉ ch:=λb o e hx hb=>by
  rcases (hch b hb).1 with z | z
  ·exact hx z
  ·exact absurd (Vau (Heap.lt_size e) z) (VaC _)
 have cellK:∀x c,X.env.cells.lookup x=some c→∀v,s.heap.IsCell c v→h'.IsCell c v:=λx c e v ⟨o,ho,hd⟩=>by
  have nch:c ∉ ch:=λz=>(hch c z).2.2.1 x c e rfl
  by_cases hc:c∈X.fs
  ·obtain⟨sl,q⟩:=slot c o (I.cne x c e) hc nch ho (I.freeC x c e)
   exact⟨_,q,hd⟩
  ·exact⟨o,keep c o (I.cne x c e) hc nch ho (I.freeC x c e),hd⟩
 refine⟨I.ok,I.os,hg,⟨λb o e n hb hx=>?_,λb o e n hb hx=>?_,λb o e n hx=>?_,λb o e hx=>?_,λb xs e=>tups b xs (I.base.tups b xs e),λb o xs e=>frzs b o xs (I.base.frzs b o xs e),λb ps e=>?_⟩,?_,λx c e=>?_,?_,λx c e=>?_,λp hp=>?_,hok,I.len⟩
 ·exact keep b o (neL b o e) hb (neC b o e hx) (I.base.keep b o e n hb hx) (I.base.free b o e n hx)
 ·obtain⟨sl,e1⟩:=I.base.slot b o e n hb hx
  obtain⟨sl',e2⟩:=slot b _ (neL b o e) hb (neC b o e hx) e1 (I.base.free b o e n hx)
  exact⟨sl',e2⟩
 ·obtain⟨o',e1⟩:=I.base.there b o e hx
  exact free b o' (neC b o e hx) e1 (I.base.free b o e n hx)
 ·obtain⟨o',e1⟩:=I.base.there b o e hx
  exact there b o' (neC b o e hx) e1
 ·obtain⟨m1,e1⟩:=I.base.tbls b ps e
  obtain⟨m2,e2⟩:=tbls b _ e1
  exact⟨m1++m2,by rw[e2,Array.append_assoc]⟩
 ·obtain⟨m,hn,hl⟩:=I.loc
  refine⟨m,ns m hn,λi x v e1 e2 e3=>?_⟩
  obtain⟨u,r,l⟩:=hl i x v e1 e2 e3
  refine⟨u,r,?_⟩
  rcases l with l | ⟨k,c,e,z⟩
  ·exact .inl l
  ·exact .inr ⟨k,c,e,cellK x c e _ z⟩
 ·obtain⟨v,z⟩:=I.cell x c e
  exact⟨v,cellK x c e v z⟩
 ·obtain⟨m,⟨o,_,_,ho,_⟩,_⟩:=I.loc
  exact free _ o (λz=>(hch _ z).2.1 rfl) ho I.free
 ·obtain⟨v,o,ho,hd⟩:=I.cell x c e
  exact free c o (λz=>(hch c z).2.2.1 x c e rfl) ho (I.freeC x c e)
 ·obtain⟨e,n,ne,nf,d⟩:=I.pin p hp
  have nch:p.1 ∉ ch:=λz=>(hch p.1 z).2.2.2 p hp rfl
  exact⟨keep p.1 p.2 ne nf nch e n,free p.1 p.2 nch e n,ne,nf,d⟩
theorem Inv.un {t':Nat}(I:Inv X pins σ H s)(u:Un X.fs [] H H' s.heap h')(hok:HOk X.prog X.w H' h'):Inv X pins σ H' { s with heap:=h',toks:=t' }:=by
 obtain⟨m,⟨o,es,ep,ho,r⟩,_⟩:=id I.loc
 obtain⟨sl,hL⟩:=u.any ho I.free (by simp)
 exact I.step (g':=s.gens) (d':=s.drawn) (ch:=[]) (λ_ z=>nomatch z) (λb o _ hb _ e n=>u.keep b o e n hb (by simp)) (λb o _ hb _ e n=>u.slot b o e n hb (by simp)) (λb o _ e n=>u.free b o e n (by simp)) (λb o _ e=>u.there b o e (by simp)) u.tups u.frzs u.tbls (λm' hm=>by
  obtain⟨o',es',ep',ho',r'⟩:=hm
  rw[ho] at ho'; cases ho'
  exact⟨_,es',ep',hL,r'⟩) hok I.bare
theorem Inv.call {g':Array GenState}{t':Nat}{d':Drawn}{ch:List Addr}(I:Inv X pins σ H s)(u:Un (frs X.stack) ch H H' s.heap h')(hok:HOk X.prog X.w H' h')(hg:AllBare g')
  (hch:∀b∈ch,(b∈X.ex∨X.s₀.heap.objs.size≤b)∧b≠X.env.locals∧(∀x c,X.env.cells.lookup x=some c→c≠b)∧∀p∈X.pn++pins,p.1≠b):
  Inv X pins σ H' { s with heap:=h',gens:=g',drawn:=d',toks:=t' }:=by
 obtain⟨m,⟨o,es,ep,ho,r⟩,_⟩:=id I.loc
 obtain⟨sl,hL⟩:=u.any ho I.free λz=>(hch _ z).2.1 rfl
 exact I.step (ch:=ch) hch (λb o hL hb hc e n=>u.keep b o e n (λz=>(Vaf.mp (I.stkSub b z)).elim hL hb) hc) (λb o _ _ hc e n=>u.any e n hc) (λb o hc e n=>u.free b o e n hc) (λb o hc e=>u.there b o e hc) u.tups u.frzs u.tbls (λm' hm=>by
  obtain⟨o',es',ep',ho',r'⟩:=hm
  rw[ho] at ho'; cases ho'
  exact⟨_,es',ep',hL,r'⟩) hok hg
theorem Inv.turned {t':Nat}{it:Addr}(I:Inv X pins σ H s)(k:∀b o,b≠it→s.heap.get? b=some o→h'.get? b=some o)(hn:H it=none)(hL:it≠X.env.locals)
  (h1:it∈X.ex∨X.s₀.heap.objs.size≤it)(h2:∀x c,X.env.cells.lookup x=some c→c≠it)(h3:∀p∈X.pn++pins,p.1≠it):Inv X pins σ H { s with heap:=h',toks:=t' }:=by
 have nit:∀b u,H b=some u→b≠it:=λb u e z=>by rw[z,hn] at e; cases e
 refine I.step (g':=s.gens) (d':=s.drawn) (ch:=[it]) (λb hb=>?_) (λb o _ _ hc e _=>k b o (λz=>hc (by simp[z])) e) (λb o _ _ hc e _=>⟨o.slots,k b o (λz=>hc (by simp[z])) e⟩) (λ_ _ _ _ n=>n)
  (λb o hc e=>⟨o,k b o (λz=>hc (by simp[z])) e⟩) (λ_ _ e=>e) (λ_ _ _ e=>e) (λb ps e=>⟨#[],by rw[e]; simp⟩) (λm hm=>?_) (λb u e=>?_) I.bare
 ·have e:b=it:=by simpa using hb
  subst e
  exact⟨h1,hL,h2,h3⟩
 ·obtain⟨o,es,ep,ho,r⟩:=hm
  exact⟨o,es,ep,k _ o (Ne.symm hL) ho,r⟩
 ·refine(I.hok b u e).stay (λc v hc q=>k c v ?_ q) (λ_ q=>q) λ_ _ q=>q
  rcases hc with z | z
  ·rw[z]; exact nit b u e
  ·exact nit c _ z
theorem Inv.tok (I:Inv X pins σ H s)(t:Nat):Inv X pins σ H { s with toks:=t }:=I.un (h':=s.heap) (t':=t) Un.refl I.hok
theorem Inv.kept {t':Nat}(I:Inv X pins σ H s)(k:∀b u,s.heap.get? b=some u→h'.get? b=some u):Inv X pins σ H { s with heap:=h',toks:=t' }:=I.un (Un.kept k) (I.hok.kept k)
theorem Inv.laid {a:Addr}{o:HO}{t':Nat}(I:Inv X pins σ H s)(k:∀b u,s.heap.get? b=some u→h'.get? b=some u)(hp:s.heap.objs.size≤a)(new:zbm X.prog X.w (upd H a o) h' a o):
  Inv X pins σ (upd H a o) { s with heap:=h',toks:=t' }:=I.un (Un.laid k hp (I.hok.fresh hp)) (I.hok.laid k hp new)
theorem Inv.write {x e:Addr}{o:HO}{t':Nat}(I:Inv X pins σ H s)(mu:Mut (H x))(he:e=x∨H e=some (.own x))(k:∀b u,b≠e→s.heap.get? b=some u→h'.get? b=some u)(heo:∃u,h'.get? e=some u)
  (new:zbm X.prog X.w (upd H x o) h' x o):Inv X pins σ (upd H x o) { s with heap:=h',toks:=t' }:=I.un (Un.write mu he k heo) (I.hok.write mu he k heo new)
theorem Inv.pins_of {pins':List (Addr×Obj)}(I:Inv X pins σ H s)(h:∀p∈pins',s.heap.get? p.1=some p.2∧H p.1=none∧p.1≠X.env.locals∧p.1 ∉ X.fs∧∀v,p.2.data≠.cell v):Inv X pins' σ H s:=
 ⟨I.ok,I.os,I.bare,I.base,I.loc,I.cell,I.free,I.freeC,λp hp=>(VaQ.mp hp).elim (λz=>I.pin p (List.mem_append_left _ z)) (h p),I.hok,I.len⟩
theorem zoC {N:List Str}(hN:N.Nodup){i j:Nat}{x:Str}(a:N[i]?=some x)(b:N[j]?=some x):i=j:=by
 obtain⟨h1,e1⟩:=Vab.mp a
 obtain⟨h2,e2⟩:=Vab.mp b
 exact(List.getElem_inj hN).mp (e1.trans e2.symm)
theorem zoA {M:Model}{A:Around}{E:Value→Shared→Prop}{i:Nat}{x:Str}{v:V}{u:Value}{Q:Unit→Shared→Prop}(I:Inv X pins σ H s)(hN:X.N.Nodup)(hi:X.N[i]?=some x)(hx:Loc X.env.scope x)(r:zan v u)
  (h:∀s',Inv X pins (σ.set i (some v)) H s'→(∃a,Heap.SameBut a s.heap s'.heap∧(a=X.env.locals∨X.env.cells.lookup x=some a))→Q () s')(hf:X.fn x=true∨X.env.scope.names.lookup x=some .local:=by first | exact .inl rfl | exact .inr rfl | assumption):wpAny M A (storeName X.env x u) Q E s:=by
 obtain⟨m,hn,hl⟩:=id I.loc
 have hcls:(X.env.scope.kind==.class||(X.env.scope.kind==.module&&X.env.locals != X.env.globals))=false:=by rw[I.ok.kind]; rfl
 have hiσ:i<σ.length:=by rw[I.len]; exact(Vab.mp hi).1
 have cne:=I.cne
 have tracked:∀ {a:Addr} {h':Heap},(∃o,s.heap.get? a=some o∧H a=none)→Heap.SameBut a s.heap h'→HOk X.prog X.w H h':=λ{a h'} ha hs b ob e=>by
  obtain⟨_,_,hfree⟩:=ha
  refine(I.hok b ob e).stay (λc w' hc q=>(hs.2 c ?_).trans q) (λ_ q=>q) λ_ _ q=>q
  rintro rfl
  rcases hc with rfl | hc
  ·rw[hfree] at e; cases e
  ·rw[hfree] at hc; cases hc
 rcases hx with hk | hk
 ·refine wpAny_storeName_local hk hn (λh' hn' hs=>?_) hcls
  obtain⟨oL,_,_,hoL,_⟩:=id hn
  refine h _ ⟨I.ok,I.os,I.bare,⟨λb o e n hb hx=>?_,λb o e n hb hx=>?_,I.base.free,λb o e hx=>?_,I.base.tups,I.base.frzs,I.base.tbls⟩,⟨_,hn',λj y v' e1 e2 e3=>?_⟩,λy c e=>?_,I.free,I.freeC,λp hp=>?_,tracked ⟨oL,hoL,I.free⟩ hs,by simpa using I.len⟩ ⟨_,hs,.inl rfl⟩
  ·exact(hs.2 b (Van (Vau (Heap.lt_size e) I.ok.above))).trans (I.base.keep b o e n hb hx)
  ·obtain⟨sl,e1⟩:=I.base.slot b o e n hb hx
   exact⟨sl,(hs.2 b (Van (Vau (Heap.lt_size e) I.ok.above))).trans e1⟩
  ·obtain⟨o',e1⟩:=I.base.there b o e hx
   exact⟨o',(hs.2 b (Van (Vau (Heap.lt_size e) I.ok.above))).trans e1⟩
  ·by_cases hj:j=i
   ·subst hj
    rw[hi] at e1; cases e1
    rw[VaD hiσ] at e2
    cases e2
    exact⟨u,r,.inl ⟨hk,by simp⟩⟩
   ·rw[VaH (Ne.symm hj)] at e2
    obtain⟨u',r',q⟩:=hl j y v' e1 e2 e3
    refine⟨u',r',?_⟩
    rcases q with ⟨k,e⟩ | ⟨k,c,e,z⟩
    ·refine .inl ⟨k,?_⟩
     have:y≠x:=λe=>hj (zoC hN e1 (e ▸ hi))
     simp[this,e]
    ·exact .inr ⟨k,c,e,z.sameBut hs (cne y c e)⟩
  ·obtain⟨w',z⟩:=I.cell y c e
   exact⟨w',z.sameBut hs (cne y c e)⟩
  ·obtain⟨e,n,ne,nf,d⟩:=I.pin p hp
   exact⟨(hs.2 p.1 ne).trans e,n,ne,nf,d⟩
 ·have hfn:X.fn x=true:=by
   rcases hf with z | z
   ·exact z
   ·rw[z] at hk; cases hk
  obtain⟨c,hc⟩:=I.ok.has x (.inl hk)
  obtain⟨w',z⟩:=I.cell x c hc
  refine wpAny_storeName_cell I.ok.kind hk hc z (λh' hc' hs=>?_)
  obtain⟨oc,hoc,hocd⟩:=id z
  refine h { s with heap:=h' } ⟨I.ok,I.os,I.bare,⟨λb o e n hb hx=>?_,λb o e n hb hx=>?_,I.base.free,λb o e hx=>?_,I.base.tups,I.base.frzs,I.base.tbls⟩,⟨m,hn.sameBut hs (Ne.symm (cne x c hc)),λj y v' e1 e2 e3=>?_⟩,λy c' e=>?_,I.free,I.freeC,λp hp=>?_,tracked ⟨oc,hoc,I.freeC x c hc⟩ hs,by simpa using I.len⟩ ⟨c,hs,.inr hc⟩
  ·exact(hs.2 b (Van (Vau (Heap.lt_size e) (I.ok.cab x c hfn hc)))).trans (I.base.keep b o e n hb hx)
  ·obtain⟨sl,e1⟩:=I.base.slot b o e n hb hx
   exact⟨sl,(hs.2 b (Van (Vau (Heap.lt_size e) (I.ok.cab x c hfn hc)))).trans e1⟩
  ·obtain⟨o',e1⟩:=I.base.there b o e hx
   exact⟨o',(hs.2 b (Van (Vau (Heap.lt_size e) (I.ok.cab x c hfn hc)))).trans e1⟩
  ·by_cases hj:j=i
   ·subst hj
    rw[hi] at e1; cases e1
    rw[VaD hiσ] at e2
    cases e2
    exact⟨u,r,.inr ⟨.inl hk,c,hc,hc'⟩⟩
   ·rw[VaH (Ne.symm hj)] at e2
    obtain⟨u',r',q⟩:=hl j y v' e1 e2 e3
    refine⟨u',r',?_⟩
    rcases q with q | ⟨k,c',e,z'⟩
    ·exact .inl q
    ·refine .inr ⟨k,c',e,z'.sameBut hs ?_⟩
     rintro rfl
     exact hj (zoC hN e1 (I.ok.inj _ _ _ e hc ▸ hi))
  ·by_cases hcc:c'=c
   ·subst hcc; exact⟨_,hc'⟩
   ·obtain⟨w2,z2⟩:=I.cell y c' e
    exact⟨w2,z2.sameBut hs hcc⟩
  ·obtain⟨e,n,ne,nf,d⟩:=I.pin p hp
   refine⟨(hs.2 p.1 ?_).trans e,n,ne,nf,d⟩
   intro q
   rw[q,hoc] at e
   have q':oc=p.2:=Option.some.inj e
   exact d w' (by rw[← q']; exact hocd)
theorem zkU {M:Model}{A:Around}{E:Value→Shared→Prop}{i:Nat}{x:Str}{v:V}{u:Value}{Q:Unit→Shared→Prop}(I:Inv X pins σ H s)(hN:X.N.Nodup)(hi:X.N[i]?=some x)(hx:Loc X.env.scope x)(r:zan v u)
  (h:∀s',Inv X pins (σ.set i (some v)) H s'→Q () s')(hf:X.fn x=true∨X.env.scope.names.lookup x=some .local:=by first | exact .inl rfl | exact .inr rfl | assumption):wpAny M A (storeName X.env x u) Q E s:=
 zoA I hN hi hx r (λs' I' _=>h s' I') hf
theorem Inv.call' {s':Shared}{ch:List Addr}(I:Inv X pins σ H s)(ho:s'.os=s.os)(u:Un (frs X.stack) ch H H' s.heap s'.heap)(hok:HOk X.prog X.w H' s'.heap)(hg:AllBare s'.gens)
  (hch:∀b∈ch,(b∈X.ex∨X.s₀.heap.objs.size≤b)∧b≠X.env.locals∧(∀x c,X.env.cells.lookup x=some c→c≠b)∧∀p∈X.pn++pins,p.1≠b):Inv X pins σ H' s':=by
 obtain⟨h',g',d',t',o'⟩:=s'
 have e:o'=s.os:=ho
 subst e
 exact I.call (g':=g') (t':=t') (d':=d') u hok hg hch
end
abbrev XK:=Value→Option Addr→Hp→Prop
abbrev St:=List (Option V)
abbrev VK:=V→Hp→Prop
abbrev TE:=St→Hp→VK→Prop
abbrev TT:=St→Hp→(Bool→Hp→Prop)→Prop
abbrev TA:=St→Hp→(List V→Hp→Prop)→Prop
structure zc4 where
 nx:St→Hp→Prop
 rt:VK
 bk:St→Hp→Prop:=λ_ _=>False
 ct:St→Hp→Prop:=λ_ _=>False
abbrev TS:=zc4→St→Hp→Prop
def EP (X:Cx)(pins:List (Addr×Obj))(σ:St)(Q:VK)(u:Value)(s':Shared):Prop:=∃v H',Inv X pins σ H' s'∧zan v u∧Q v H'
def TP (X:Cx)(pins:List (Addr×Obj))(σ:St)(Q:Bool→Hp→Prop)(b:Bool)(s':Shared):Prop:=∃H',Inv X pins σ H' s'∧Q b H'
def AP (X:Cx)(pins:List (Addr×Obj))(σ:St)(Q:List V→Hp→Prop)(us:List Value)(s':Shared):Prop:=∃vs H',Inv X pins σ H' s'∧zao vs us∧Q vs H'
def SP (X:Cx)(pins:List (Addr×Obj))(D:zc4)(f:Flow)(s':Shared):Prop:=
 match f with
 | .next=>∃σ' H',Inv X pins σ' H' s'∧D.nx σ' H'
 | .brk=>∃σ' H',Inv X pins σ' H' s'∧D.bk σ' H'
 | .cont=>∃σ' H',Inv X pins σ' H' s'∧D.ct σ' H'
 | .ret u=>∃v σ' H',Inv X pins σ' H' s'∧zan v u∧D.rt v H'
def PE (X:Cx)(e:Expr)(t:TE):Prop:=
 ∀(pins:List (Addr×Obj)) (s:Shared) (σ:St) (H:Hp) (Q:VK),Inv X pins σ H s→t σ H Q→wpAny (model X.prog X.w) X.A (eval e X.env) (EP X pins σ Q) X.xe s
def PT (X:Cx)(e:Expr)(t:TT):Prop:=
 ∀(pins:List (Addr×Obj)) (s:Shared) (σ:St) (H:Hp) (Q:Bool→Hp→Prop),Inv X pins σ H s→t σ H Q→wpAny (model X.prog X.w) X.A (isTrue e X.env (eval e X.env)) (TP X pins σ Q) X.xe s
def PW (X:Cx)(e:Expr)(t:TT):Prop:=
 ∀(whole:Sem Value) (pins:List (Addr×Obj)) (s:Shared) (σ:St) (H:Hp) (Q:Bool→Hp→Prop),Inv X pins σ H s→t σ H Q→wpAny (model X.prog X.w) X.A (isTrue e X.env whole) (TP X pins σ Q) X.xe s
theorem PW.pt {X:Cx}{e:Expr}{t:TT}(h:PW X e t):PT X e t:=h _
def PA (X:Cx)(es:List Expr)(t:TA):Prop:=
 ∀(pos:Pos) (pins:List (Addr×Obj)) (s:Shared) (σ:St) (H:Hp) (Q:List V→Hp→Prop),Inv X pins σ H s→t σ H Q→wpAny (model X.prog X.w) X.A (spliced (backTo pos (starEach es X.env))) (AP X pins σ Q) X.xe s
def PS (X:Cx)(st:Stmt)(t:TS):Prop:=
 ∀(pins:List (Addr×Obj)) (s:Shared) (σ:St) (H:Hp) (D:zc4),Inv X pins σ H s→t D σ H→wpAny (model X.prog X.w) X.A (exec st X.env) (SP X pins D) X.xe s
def PSs (X:Cx)(st:List Stmt)(t:TS):Prop:=
 ∀(pins:List (Addr×Obj)) (s:Shared) (σ:St) (H:Hp) (D:zc4),Inv X pins σ H s→t D σ H→wpAny (model X.prog X.w) X.A (execs st X.env) (SP X pins D) X.xe s
theorem thn {α:Type}{t:Sem α}{Q Q':α→Shared→Prop}{M:Model}{A:Around}{E:Value→Shared→Prop}{s:Shared}(h:wpAny M A t Q E s)(hQ:∀a s,Q a s→Q' a s):wpAny M A t Q' E s:=wpAny_mono h hQ λ_ _ x=>x
end L2
namespace L2
open PySem PySem.Spec PyProof.Rows
section
variable {X:Cx}
def tVar (i:Nat):TE:=λσ H Q=>∃v,σ[i]?=some (some v)∧Q v H
def tC (v:V):TE:=λ_ H Q=>Q v H
theorem zoj {i:Nat}{x:Str}{pos:Pos}(hN:X.N[i]?=some x)(hv:Vis X.env.scope x)(hd:(x==("__debug__":Str))=false:=by decide)(hcd:(x==("__classdict__":Str))=false:=by decide):PE X (.Name x pos) (tVar i):=by
 intro pins s σ H Q I h
 obtain⟨v,e,h⟩:=h
 obtain⟨m,hn,hl⟩:=I.loc
 obtain⟨u,r,l⟩:=hl i x v hN e hv
 have fin:EP X pins σ Q u s:=⟨v,H,I,r,h⟩
 rcases l with ⟨hk,hm⟩ | ⟨hk,c,hc,hcell⟩
 ·exact wpAny_Name (wpAny_loadName_local I.ok.kind hk hn hm fin) hd
 ·rcases hk with hk | hk
  ·exact wpAny_Name (wpAny_loadName_cell I.ok.kind hk hc hcell fin) hd
  ·exact wpAny_Name (wpAny_loadName_free I.ok.kind hk hc hcell fin hcd) hd
theorem zr7 {i j pos}:PE X (.Constant (.int i) j pos) (tC (.int i)):=λ_ _ _ H _ I h=>wpAny_Constant_int ⟨.int i,H,I.tok _,⟨_,rfl⟩,h⟩
theorem pe_bl {b j pos}:PE X (.Constant (.bool b) j pos) (tC (.bl b)):=λ_ _ _ H _ I h=>Constant_bool ⟨.bl b,H,I,rfl,h⟩
theorem zrw {x j pos}:PE X (.Constant (.str x) j pos) (tC (.str x)):=λ_ _ _ H _ I h=>Calls.Constant_str ⟨.str x,H,I.tok _,⟨_,rfl⟩,h⟩
def Gl (X:Cx)(x:Str):Prop:=X.env.kindOf x=some .globalImplicit
theorem znF {E:Value→Shared→Prop}{pins:List (Addr×Obj)}{s:Shared}{σ:St}{H:Hp}{x:Str}{u:Value}{pos:Pos}{Q:Value→Shared→Prop}(I:Inv X pins σ H s)(hg:Gl X x)(hm:X.mg x=some u)(h:Q u s)
  (hd:(x==("__debug__":Str))=false:=by decide):wpAny (model X.prog X.w) X.A (eval (.Name x pos) X.env) Q E s:=
 Calls.Name_function_global I.ok.kind hg (Calls.loadGlobal_global (by rw[I.ok.glob]; exact I.mod.glob.keeps I.bk) hm h) hd
theorem zeJ {E:Value→Shared→Prop}{pins:List (Addr×Obj)}{s:Shared}{σ:St}{H:Hp}{x:Str}{u:Value}{pos:Pos}{Q:Value→Shared→Prop}(I:Inv X pins σ H s)(hg:Gl X x)(hm:X.mg x=none)(hv:bootBuiltins x=some u)(h:Q u s)
  (hn:x≠"__name__":=by decide)(hd:(x==("__debug__":Str))=false:=by decide):wpAny (model X.prog X.w) X.A (eval (.Name x pos) X.env) Q E s:=by
 obtain⟨mb,h1,h2⟩:=I.mod.blt
 exact Calls.Name_function_global I.ok.kind hg (Calls.loadGlobal_builtin (by rw[I.ok.glob]; exact I.mod.glob.keeps I.bk) hm (by rw[I.ok.blt]; exact h1.keeps I.bk) ((h2 x hn).trans hv) h) hd
theorem zpX {x:Str}{v:V}{u:Value}{pos:Pos}(hg:Gl X x)(hm:X.mg x=none)(hv:bootBuiltins x=some u)(r:zan v u)(hn:x≠"__name__":=by decide)(hd:(x==("__debug__":Str))=false:=by decide):PE X (.Name x pos) (tC v):=
 λ_ _ _ H _ I h=>zeJ I hg hm hv ⟨v,H,I,r,h⟩ hn hd
variable {a b:Expr}{ta tb:TE}{pos:Pos}
def tB (t:TE):TT:=λσ H Q=>t σ H λx H1=>∃c,x=.bl c∧Q c H1
theorem zvD {e:Expr}{t:TE}(h:PE X e t)(he:∀whole,isTrue e X.env whole=(do let v ← whole; standAt e.pos; holding [v] (truthy v)):=by intro _; rfl):PT X e (tB t):=by
 intro pins s σ H Q I hw
 refine isTrue_plain (thn (h pins s σ H _ I hw) λv s1 ⟨x,H1,I1,r1,q1⟩=>?_) (he _)
 obtain⟨d,rfl,q⟩:=q1
 cases r1
 exact wpAny_truthy_bool ⟨H1,I1,q⟩
variable {tA tB':TT}{zbe:List Expr}
def tAnd (t u:TT):TT:=λσ H Q=>t σ H λc H1=>if c=true then u σ H1 Q else Q false H1
def tOr (t u:TT):TT:=λσ H Q=>t σ H λc H1=>if c=true then Q true H1 else u σ H1 Q
def tNot (t:TT):TT:=λσ H Q=>t σ H λc H1=>Q (!c) H1
theorem zuW (ha:PT X a tA):PW X (.BoolOp .And [a] pos) tA:=by
 intro wh pins s σ H Q I h
 refine isTrue_and (thn (ha pins s σ H Q I h) λc s1 e=>?_)
 cases c with
 | true=>exact isTrue_and_nil e
 | false=>exact e
theorem zug (ha:PT X a tA):PW X (.BoolOp .Or [a] pos) tA:=by
 intro wh pins s σ H Q I h
 refine isTrue_or (thn (ha pins s σ H Q I h) λc s1 e=>?_)
 cases c with
 | false=>exact isTrue_or_nil e
 | true=>exact e
theorem ztA (ha:PT X a tA)(hb:PW X (.BoolOp .And (b::zbe) pos) tB'):PW X (.BoolOp .And (a::b::zbe) pos) (tAnd tA tB'):=by
 intro wh pins s σ H Q I h
 refine isTrue_and (thn (ha pins s σ H _ I h) λc s1 ⟨H1,I1,q1⟩=>?_)
 cases c with
 | true=>exact hb wh pins s1 σ H1 Q I1 q1
 | false=>exact⟨H1,I1,q1⟩
theorem pw_or (ha:PT X a tA)(hb:PW X (.BoolOp .Or (b::zbe) pos) tB'):PW X (.BoolOp .Or (a::b::zbe) pos) (tOr tA tB'):=by
 intro wh pins s σ H Q I h
 refine isTrue_or (thn (ha pins s σ H _ I h) λc s1 ⟨H1,I1,q1⟩=>?_)
 cases c with
 | true=>exact⟨H1,I1,q1⟩
 | false=>exact hb wh pins s1 σ H1 Q I1 q1
theorem ztH (ha:PT X a tA):PT X (.UnaryOp .Not a pos) (tNot tA):=by
 intro pins s σ H Q I h
 exact isTrue_not (ha pins s σ H (λc H1=>Q (!c) H1) I h)
def tAndV (ta tb:TE):TE:=λσ H Q=>ta σ H λx H1=>∃c,x=.bl c∧if c=true then tb σ H1 Q else Q (.bl false) H1
def tOrV (ta tb:TE):TE:=λσ H Q=>ta σ H λx H1=>∃c,x=.bl c∧if c=true then Q (.bl true) H1 else tb σ H1 Q
theorem zrq {op}{t:TE}(h:PE X a t):PE X (.BoolOp op [a] pos) t:=λpins s σ H Q I hw=>BoolOp_one (h pins s σ H Q I hw)
theorem zuz (ha:PE X a ta)(hb:PE X (.BoolOp .And (b::zbe) pos) tb):PE X (.BoolOp .And (a::b::zbe) pos) (tAndV ta tb):=by
 intro pins s σ H Q I h
 refine BoolOp_and (thn (ha pins s σ H _ I h) λv s1 ⟨x,H1,I1,r1,q1⟩=>?_)
 obtain⟨c,rfl,q1⟩:=q1
 cases r1
 refine wpAny_truthy_bool ?_
 cases c with
 | true=>exact hb pins s1 σ H1 Q I1 q1
 | false=>exact⟨.bl false,H1,I1,rfl,q1⟩
theorem pe_or (ha:PE X a ta)(hb:PE X (.BoolOp .Or (b::zbe) pos) tb):PE X (.BoolOp .Or (a::b::zbe) pos) (tOrV ta tb):=by
 intro pins s σ H Q I h
 refine BoolOp_or (thn (ha pins s σ H _ I h) λv s1 ⟨x,H1,I1,r1,q1⟩=>?_)
 obtain⟨c,rfl,q1⟩:=q1
 cases r1
 refine wpAny_truthy_bool ?_
 cases c with
 | false=>exact hb pins s1 σ H1 Q I1 q1
 | true=>exact⟨.bl true,H1,I1,rfl,q1⟩
def tIf (t:TT)(ta tb:TE):TE:=λσ H Q=>t σ H λc H1=>if c=true then ta σ H1 Q else tb σ H1 Q
theorem zq2 {c:Expr}(hc:PT X c tA)(ha:PE X a ta)(hb:PE X b tb):PE X (.IfExp c a b pos) (tIf tA ta tb):=by
 intro pins s σ H Q I h
 refine wpAny_IfExp (thn (hc pins s σ H _ I h) λd s1 ⟨H1,I1,q1⟩=>?_)
 cases d with
 | true=>exact ha pins s1 σ H1 Q I1 q1
 | false=>exact hb pins s1 σ H1 Q I1 q1
end
end L2
namespace L2
open PySem PySem.Spec PyProof.Rows
def SqL (K:PySem.W.Frag)(H:Hp)(a:Addr)(xs:List V):Prop:=
 Rd H a (.lst xs)∨
  ∃(o:Obj) (its:Array Value) (n:Nat),K.lookup a=some o∧o.cls=.type "list"∧o.dict=none∧o.data=.seq its n∧its.size≤sizeLine∧zao xs its.toList
def SqT (K:PySem.W.Frag)(H:Hp)(a:Addr)(xs:List V):Prop:=
 Rd H a (.tup xs)∨
  ∃(o:Obj) (its:Array Value) (n:Nat),K.lookup a=some o∧o.cls=.type "tuple"∧o.data=.seq its n∧its.size≤sizeLine∧zao xs its.toList
def absV:Value→Option V
 | .none=>some .non
 | .bool b=>some (.bl b)
 | .int i _=>some (.int i)
 | .str x _=>some (.str x)
 | .bytes b _=>some (.byt b)
 | .float b _=>some (.flt b)
 | .ref a=>some (.ref a)
 | .type n=>some (.ty n)
 | _=>none
theorem zan.abs {x:V}{u:Value}(r:zan x u):absV u=some x:=by
 cases x with
 | non=>cases r; rfl
 | bl _=>cases r; rfl
 | int _=>obtain⟨t,rfl⟩:=r; rfl
 | str _=>obtain⟨t,rfl⟩:=r; rfl
 | byt _=>obtain⟨t,rfl⟩:=r; rfl
 | flt _=>obtain⟨t,rfl⟩:=r; rfl
 | ref _=>cases r; rfl
 | ty _=>cases r; rfl
theorem zan.inj {x y:V}{u:Value}(r:zan x u)(q:zan y u):x=y:=Option.some.inj (r.abs.symm.trans q.abs)
theorem zao.inj:∀ {xs ys:List V} {us:List Value},zao xs us→zao ys us→xs=ys
 | _,_,_,.nil,.nil=>rfl
 | _,_,_,.cons r t,.cons r' t'=>by rw[r.inj r',zao.inj t t']
section
variable {X:Cx}{pins:List (Addr×Obj)}{σ:St}{H:Hp}{s:Shared}{a:Addr}{xs ys:List V}
theorem SqL.of {K:PySem.W.Frag}(h:H a=some (.lst xs)):SqL K H a xs:=.inl (.inl h)
theorem SqT.of {K:PySem.W.Frag}(h:H a=some (.tup xs)):SqT K H a xs:=.inl (.inl h)
theorem Inv.list (I:Inv X pins σ H s)(h:SqL X.K H a xs):∃its:List Value,zao xs its∧PlainL s.heap a its.toArray∧xs.length≤sizeLine:=by
 rcases h with h | ⟨o,its,n,hk,hc,hd,hs,hz,r⟩
 ·obtain⟨z,its,n,r,e⟩:=h.ok I.hok
  exact⟨its,r,⟨_,n,e,rfl,rfl,rfl⟩,z⟩
 ·refine⟨its.toList,r,⟨o,n,I.kIn a o hk,hc,hd,by simpa using hs⟩,?_⟩
  have e:=r.length
  simp only[Array.length_toList] at e
  omega
theorem Inv.tuple (I:Inv X pins σ H s)(h:SqT X.K H a xs):∃its:List Value,zao xs its∧IsTup s.heap a its.toArray∧xs.length≤sizeLine:=by
 rcases h with h | ⟨o,its,n,hk,hc,hs,hz,r⟩
 ·obtain⟨z,its,r,p⟩:=h.ok I.hok
  exact⟨its,r,p,z⟩
 ·refine⟨its.toList,r,⟨o,I.kIn a o hk,hc,n,by simpa using hs⟩,?_⟩
  have e:=r.length
  simp only[Array.length_toList] at e
  omega
theorem Inv.list_inj (I:Inv X pins σ H s)(h:SqL X.K H a xs)(h':SqL X.K H a ys):xs=ys:=by
 obtain⟨its,r,⟨o,n,e,_,_,d⟩,_⟩:=I.list h
 obtain⟨its',r',⟨o',n',e',_,_,d'⟩,_⟩:=I.list h'
 rw[e] at e'; cases e'
 rw[d] at d'
 injection d' with d1 _
 have:its=its':=by simpa using congrArg Array.toList d1
 subst this
 exact r.inj r'
theorem Inv.tuple_inj (I:Inv X pins σ H s)(h:SqT X.K H a xs)(h':SqT X.K H a ys):xs=ys:=by
 obtain⟨its,r,⟨o,e,_,n,d⟩,_⟩:=I.tuple h
 obtain⟨its',r',⟨o',e',_,n',d'⟩,_⟩:=I.tuple h'
 rw[e] at e'; cases e'
 rw[d] at d'
 injection d' with d1 _
 have:its=its':=by simpa using congrArg Array.toList d1
 subst this
 exact r.inj r'
end
abbrev Cx.wish (X:Cx)(E:Value→Shared→Prop):Cx:={ X with xe:=E }
abbrev Cx.nox (X:Cx):Cx:=X.wish λ_ _=>False
theorem Cx.Ok.wish {X:Cx}(ok:X.Ok)(E:Value→Shared→Prop):(X.wish E).Ok:=
 ⟨ok.mod,ok.kind,ok.glob,ok.blt,ok.above,ok.inj,ok.has,ok.cab,ok.hd,ok.frames,ok.stk,ok.exf,ok.bs,ok.bsz,ok.noex,ok.exfs,ok.funs,ok.frf⟩
theorem Cx.Ok.unwish {X:Cx}{E:Value→Shared→Prop}(ok:(X.wish E).Ok):X.Ok:=
 ⟨ok.mod,ok.kind,ok.glob,ok.blt,ok.above,ok.inj,ok.has,ok.cab,ok.hd,ok.frames,ok.stk,ok.exf,ok.bs,ok.bsz,ok.noex,ok.exfs,ok.funs,ok.frf⟩
section
variable {X:Cx}{pins:List (Addr×Obj)}{σ:St}{H:Hp}{s:Shared}{E:Value→Shared→Prop}
theorem Inv.wish (I:Inv X pins σ H s)(E:Value→Shared→Prop):Inv (X.wish E) pins σ H s:=⟨I.ok.wish E,I.os,I.bare,I.base,I.loc,I.cell,I.free,I.freeC,I.pin,I.hok,I.len⟩
theorem Inv.unwish (I:Inv (X.wish E) pins σ H s):Inv X pins σ H s:=⟨I.ok.unwish,I.os,I.bare,I.base,I.loc,I.cell,I.free,I.freeC,I.pin,I.hok,I.len⟩
theorem SP.unwish {D:zc4}{f:Flow}{s':Shared}(h:SP (X.wish E) pins D f s'):SP X pins D f s':=by
 cases f with
 | next=>obtain⟨σ',H',I,q⟩:=h; exact⟨σ',H',I.unwish,q⟩
 | brk=>obtain⟨σ',H',I,q⟩:=h; exact⟨σ',H',I.unwish,q⟩
 | cont=>obtain⟨σ',H',I,q⟩:=h; exact⟨σ',H',I.unwish,q⟩
 | ret u=>obtain⟨v,σ',H',I,r,q⟩:=h; exact⟨v,σ',H',I.unwish,r,q⟩
theorem PE.nox {e:Expr}{t:TE}(h:PE X.nox e t):PE X e t:=λpins s σ H Q I hw=>
 wpAny_mono (h pins s σ H Q (I.wish _) hw) (λ_ _ ⟨v,H',I',r,q⟩=>⟨v,H',I'.unwish,r,q⟩) λ_ _ z=>False.elim z
theorem PT.nox {e:Expr}{t:TT}(h:PT X.nox e t):PT X e t:=λpins s σ H Q I hw=>
 wpAny_mono (h pins s σ H Q (I.wish _) hw) (λ_ _ ⟨H',I',q⟩=>⟨H',I'.unwish,q⟩) λ_ _ z=>False.elim z
theorem PSs.nox {st:List Stmt}{t:TS}(h:PSs X.nox st t):PSs X st t:=λpins s σ H D I hw=>
 wpAny_mono (h pins s σ H D (I.wish _) hw) (λ_ _ q=>q.unwish) λ_ _ z=>False.elim z
end
section
variable {X:Cx}{st:Stmt}{zbe:List Stmt}{t u:TS}{e:Expr}{te:TE}{pos:Pos}
def tNext:TS:=λD σ H=>D.nx σ H
def tSeq (t u:TS):TS:=λD σ H=>t { D with nx:=u D } σ H
theorem zs0:PSs X [] tNext:=λ_ _ σ H _ I h=>wpAny_execs_nil ⟨σ,H,I,h⟩
theorem zsF (h1:PS X st t)(h2:PSs X zbe u):PSs X (st::zbe) (tSeq t u):=by
 intro pins s σ H D I h
 refine wpAny_execs_cons (thn (h1 pins s σ H { D with nx:=u D } I h) λf s1 q=>?_)
 cases f with
 | next=>
  obtain⟨σ',H',I',q⟩:=q
  exact h2 pins s1 σ' H' D I' q
 | ret v=>exact q
 | brk=>exact q
 | cont=>exact q
theorem zrt (h1:PS X st t):PSs X [st] t:=by
 intro pins s σ H D I h
 refine wpAny_execs_cons (thn (h1 pins s σ H D I h) λf s1 q=>?_)
 cases f with
 | next=>exact wpAny_execs_nil q
 | ret v=>exact q
 | brk=>exact q
 | cont=>exact q
def tCont:TS:=λD σ H=>D.ct σ H
theorem zt2:PS X (.Continue pos) tCont:=λ_ _ σ H _ I h=>wpAny_Continue ⟨σ,H,I,h⟩
theorem Inv.quiet {pins:List (Addr×Obj)}{σ:St}{H:Hp}{s:Shared}(I:Inv X pins σ H s):interactive X.env=false:=by simp[interactive,I.ok.kind]
def tDrop (te:TE):TS:=λD σ H=>te σ H λ_ H1=>D.nx σ H1
theorem zus (he:PE X e te)(hs:swapsWith e none pos.line X.env=pure false:=by rfl):PS X (.Expr e pos) (tDrop te):=by
 intro pins s σ H D I h
 exact wpAny_Expr_any (thn (he pins s σ H _ I h) λv s1 ⟨x,H1,I1,r1,q1⟩=>⟨σ,H1,I1,q1⟩) I.quiet hs
def tRet (te:TE):TS:=λD σ H=>te σ H D.rt
theorem zpT (he:PE X e te):PS X (.Return (some e) pos) (tRet te):=by
 intro pins s σ H D I h
 exact wpAny_Return_some (thn (he pins s σ H _ I h) λv s1 ⟨x,H1,I1,r1,q1⟩=>⟨x,σ,H1,I1,r1,q1⟩)
def tIfS (c:TT)(t u:TS):TS:=λD σ H=>c σ H λb H1=>if b=true then t D σ H1 else u D σ H1
theorem ps_if {c:Expr}{a b:List Stmt}{tc:TT}(hc:PT X c tc)(ha:PSs X a t)(hb:PSs X b u):PS X (.If c a b pos) (tIfS tc t u):=by
 intro pins s σ H D I h
 refine wpAny_If (thn (hc pins s σ H _ I h) λd s1 ⟨H1,I1,q1⟩=>?_)
 cases d with
 | true=>exact ha pins s1 σ H1 D I1 q1
 | false=>exact hb pins s1 σ H1 D I1 q1
def zvL:TS:=λ_ _ _=>False
theorem zrz:PS X st zvL:=λ_ _ _ _ _ _ h=>h.elim
end
abbrev TG:=V→St→Hp→(St→Hp→Prop)→Prop
abbrev TGs:=List V→St→Hp→(St→Hp→Prop)→Prop
def PG (X:Cx)(target:Expr)(t:TG):Prop:=
 ∀(pins:List (Addr×Obj)) (s:Shared) (σ:St) (H:Hp) (v:V) (u:Value) (Q:St→Hp→Prop),Inv X pins σ H s→zan v u→t v σ H Q→
  wpAny (model X.prog X.w) X.A (assign target X.env u) (λ_ s'=>∃σ' H',Inv X pins σ' H' s'∧Q σ' H') X.xe s
def PGs (X:Cx)(ts:List Expr)(t:TGs):Prop:=
 ∀(pins:List (Addr×Obj)) (s:Shared) (σ:St) (H:Hp) (vs:List V) (us:List Value) (Q:St→Hp→Prop),Inv X pins σ H s→zao vs us→t vs σ H Q→
  wpAny (model X.prog X.w) X.A (assignInOrder ((assignEach ts X.env).map (·.2)) us) (λ_ s'=>∃σ' H',Inv X pins σ' H' s'∧Q σ' H') X.xe s
abbrev TSet:=V→V→V→Hp→(Hp→Prop)→Prop
def PSet (X:Cx)(t:TSet):Prop:=
 ∀(pins:List (Addr×Obj)) (s:Shared) (σ:St) (H:Hp) (o i v:V) (ov iv u:Value) (Q:Hp→Prop),Inv X pins σ H s→zan o ov→zan i iv→zan v u→t o i v H Q→
  wpAny (model X.prog X.w) X.A (setItem ov iv u) (λ_ s'=>∃H',Inv X pins σ H' s'∧Q H') X.xe s
section
variable {X:Cx}{pos:Pos}
def zo0 (i:Nat):TG:=λv σ H Q=>Q (σ.set i (some v)) H
theorem zdS {i:Nat}{x:Str}(hN:X.N.Nodup)(hi:X.N[i]?=some x)(hx:Loc X.env.scope x)(hf:X.fn x=true∨X.env.scope.names.lookup x=some .local:=by first | exact .inl rfl | exact .inr rfl | assumption):PG X (.Name x pos) (zo0 i):=by
 intro pins s σ H v u Q I r h
 exact wpAny_assign_Name (zkU I hN hi hx r (λs' I'=>⟨_,H,I',h⟩) hf)
def gNil:TGs:=λvs σ H Q=>vs=[]∧Q σ H
def gCons (t:TG)(u:TGs):TGs:=λvs σ H Q=>∃v r,vs=v::r∧t v σ H λσ' H'=>u r σ' H' Q
theorem zvM:PGs X [] gNil:=by
 intro pins s σ H vs us Q I r h
 obtain⟨e,h⟩:=h
 subst e
 cases r
 exact assignInOrder_nil ⟨σ,H,I,h⟩
theorem zup {e:Expr}{es:List Expr}{t:TG}{u:TGs}(h1:PG X e t)(h2:PGs X es u)
  (hs:(assignEach (e::es) X.env).map (·.2)=assign e X.env::(assignEach es X.env).map (·.2):=by rfl):PGs X (e::es) (gCons t u):=by
 intro pins s σ H vs us Q I r h
 obtain⟨v,vr,e1,h⟩:=h
 subst e1
 cases r with
 | cons r rr=>
  rw[hs]
  refine assignInOrder_cons (thn (h1 pins s σ H _ _ _ I r h) λ_ s1 ⟨σ1,H1,I1,q1⟩=>?_)
  exact h2 pins s1 σ1 H1 _ _ Q I1 rr q1
def gTup (K:PySem.W.Frag)(n:Nat)(t:TGs):TG:=λv σ H Q=>∃a xs,v=.ref a∧SqT K H a xs∧xs.length=n∧t xs σ H Q
theorem zme {es:List Expr}{k:Nat}{t:TGs}{n:Nat}(hc:X.calm=true)(h:PGs X es t)
  (hn:(assignEach es X.env).length=n:=by rfl)(hst:(assignEach es X.env).findIdx? (·.1)=none:=by rfl):PG X (.Tuple es k pos) (gTup X.K n t):=by
 intro pins s σ H v u Q I r hw
 obtain⟨a,xs,e1,hq,hl,hw⟩:=hw
 subst e1
 cases r
 obtain⟨its,rv,ht,hz⟩:=I.tuple hq
 refine assign_Tuple_tuple (I.ok.hd hc) ht (by simp[hn,← hl,rv.length]) hst λh' hx=>?_
 have I1:Inv X pins σ H { s with heap:=h' }:=I.kept (t':=s.toks) λb o e=>hx b o (Van (Heap.lt_size e)) e
 exact h pins _ σ H xs _ Q I1 (by simpa using rv) hw
def gSub (to ti:TE)(t:TSet):TG:=λv σ H Q=>to σ H λo H1=>ti σ H1 λi H2=>t o i v H2 λH3=>Q σ H3
theorem zux {o i:Expr}{to ti:TE}{t:TSet}(ho:PE X o to)(hi:PE X i ti)(hs:PSet X t)
  (ha:∀v,assign (.Subscript o i pos) X.env v=(do
   let ov ← holding [v] (eval o X.env)
   let iv ← holding [v,ov] (eval i X.env)
   standAt pos
   holding [v,ov,iv] (setItem ov iv v)
   release [v,ov,iv] []):=by intro _; rfl):PG X (.Subscript o i pos) (gSub to ti t):=by
 intro pins s σ H v u Q I r h
 rw[ha]
 refine wpAny_bind (wpAny_holding (thn (ho pins s σ H _ I h) λov s1 ⟨x,H1,I1,r1,q1⟩=>?_))
 refine wpAny_bind (wpAny_holding (thn (hi pins s1 σ H1 _ I1 q1) λiv s2 ⟨y,H2,I2,r2,q2⟩=>?_))
 refine wpAny_bind (wpAny_standAt (wpAny_bind (wpAny_holding (thn (hs pins s2 σ H2 x y v ov iv u _ I2 r1 r2 r q2) λ_ s3 ⟨H3,I3,q3⟩=>?_))))
 exact wpAny_release ⟨σ,H3,I3,q3⟩
def tAsg (te:TE)(g:TG):TS:=λD σ H=>te σ H λx H1=>g x σ H1 D.nx
theorem znq {tg e:Expr}{te:TE}{g:TG}(he:PE X e te)(hg:PG X tg g)(hs:swapsWithSole [tg] e pos.line X.env=pure false:=by rfl)(hw:swappedStores [tg] e X.env=pure none:=by rfl)
  (h1:(assignEach [tg] X.env).map (·.2)=[assign tg X.env]:=by rfl):PS X (.Assign [tg] e pos) (tAsg te g):=by
 intro pins s σ H D I h
 refine wpAny_Assign_stores (thn (he pins s σ H _ I h) λv s1 ⟨x,H1,I1,r1,q1⟩=>?_) hs hw
 rw[h1]
 exact thn (hg pins s1 σ H1 x v _ I1 r1 q1) λ_ s2 q=>q
theorem zqn {i:Nat}{x:Str}{e:Expr}{te:TE}{pos':Pos}(hN:X.N.Nodup)(hi:X.N[i]?=some x)(hx:Loc X.env.scope x)(he:PE X e te)(hs:swapsWith e (some (.Name x pos')) pos.line X.env=pure false:=by rfl)(hf:X.fn x=true∨X.env.scope.names.lookup x=some .local:=by first | exact .inl rfl | exact .inr rfl | assumption):
  PS X (.Assign [.Name x pos'] e pos) (tAsg te (zo0 i)):=by
 intro pins s σ H D I h
 refine wpAny_Assign_Name (thn (he pins s σ H _ I h) λv s1 ⟨y,H1,I1,r1,q1⟩=>?_) hs
 exact zkU I1 hN hi hx r1 (λs2 I2=>⟨_,H1,I2,q1⟩) hf
def tPar (i j:Nat)(ta:TA):TS:=λD σ H=>ta σ H λvs H1=>∃v w,vs=[v,w]∧D.nx ((σ.set i (some v)).set j (some w)) H1
theorem zqr {i j:Nat}{x y:Str}{a b:Expr}{ta:TA}{px py pt:Pos}{kt k2 pt2}(hc:X.calm=true)(hN:X.N.Nodup)(hi:X.N[i]?=some x)(hj:X.N[j]?=some y)(hij:i≠j)
  (hx:X.env.scope.names.lookup x=some .local)(hy:X.env.scope.names.lookup y=some .local)(ha:PA X [a,b] ta)
  (hw:swappedStores [.Tuple [.Name x px,.Name y py] kt pt] (.Tuple [a,b] k2 pt2) X.env=pure (some [x,y]))
  (hs:swapsWithSole [.Tuple [.Name x px,.Name y py] kt pt] (.Tuple [a,b] k2 pt2) pos.line X.env=pure false:=by rfl):
  PS X (.Assign [.Tuple [.Name x px,.Name y py] kt pt] (.Tuple [a,b] k2 pt2) pos) (tPar i j ta):=by
 intro pins s σ H D I h
 rw[exec_Assign_arm]
 refine wpAny_bind (wpAny_standAt ?_)
 rw[hs]
 refine wpAny_bind (wpAny_pure ?_)
 rw[if_neg (by decide)]
 refine wpAny_bind (Tuple_ (thn (ha _ pins s σ H _ I h) λus s1 ⟨vs,H1,I1,r1,q1⟩=>?_))
 obtain⟨v,w,e1,q1⟩:=q1
 subst e1
 obtain⟨u1,u2,rfl,rv,rw'⟩:∃u1 u2,us=[u1,u2]∧zan v u1∧zan w u2:=by
  cases r1 with
  | cons p q=>
   cases q with
   | cons p' q'=>
    cases q'
    exact⟨_,_,rfl,p,p'⟩
 refine wpAny_newObj_type ?_ (by show 2≤sizeLine; decide)
 have I2:Inv X pins σ H1 { s1 with heap:=s1.heap.push { cls:=.type "tuple",data:=.seq [u1,u2].toArray } }:=I1.kept (t':=s1.toks) λb o e=>Heap.get?_push_of_some _ e
 rw[hw]
 refine wpAny_bind (wpAny_pure ?_)
 show wpAny (model X.prog X.w) X.A (do rule "assign.swapped-stores"; let items ← unpackItems (.ref s1.heap.objs.size) 2 none; assignInOrder [λv=>bindName X.env y v,λv=>bindName X.env x v] items.reverse; pure Flow.next) _ _ _
 refine wpAny_bind (wpAny_rule (wpAny_bind (unpackItems_tuple (items:=#[u1,u2]) (I.ok.hd hc) (IsTup.new s1.heap _) λh' hx'=>?_)))
 have I3:=I2.kept (h':=h') (t':=s1.toks) λb o e=>hx' b o (Van (Heap.lt_size e)) e
 show wpAny _ _ (assignInOrder [λv=>bindName X.env y v,λv=>bindName X.env x v] [u2,u1] >>= λ_=>pure Flow.next) _ _ _
 refine wpAny_bind (assignInOrder_cons (wpAny_bindName (zkU I3 hN hj (.inl hy) rw' (λs2 I4=>?_) (.inr hy))))
 refine assignInOrder_cons (wpAny_bindName (zkU I4 hN hi (.inl hx) rv (λs3 I5=>assignInOrder_nil (wpAny_pure ?_)) (.inr hx)))
 rw[List.set_comm _ _ (Ne.symm hij)] at I5
 exact⟨_,H1,I5,q1⟩
end
section
variable {X:Cx}{pos:Pos}
def zr1 (c:TT)(tb:TS):TS:=λD σ H=>∃W:Nat→St→Hp→Prop,(∃m,W m σ H)∧∀m σ H,W m σ H→
 c σ H λb H1=>if b=true then ∃N:St→Hp→Prop,(∀σ' H',N σ' H'→∃m',m'<m∧W m' σ' H')∧tb { D with nx:=N,ct:=N,bk:=D.nx } σ H1 else D.nx σ H1
theorem zqX {c:Expr}{body:List Stmt}{tc:TT}{tb:TS}(hp:PassesOwn (model X.prog X.w) X.A X.env X.xe)(hc:PT X c tc)(hb:PSs X body tb):PS X (.While c body [] pos) (zr1 tc tb):=by
 intro pins s σ H D I h
 obtain⟨W,⟨m0,w0⟩,turn⟩:=h
 refine wpAny_While (codeAny_whileLoop (λn s'=>∃σ' H',Inv X pins σ' H' s'∧W n σ' H') ?_ m0 ⟨σ,H,I,w0⟩)
 rintro n s1 ⟨σ1,H1,I1,w1⟩
 refine wpAny_passesOwn hp (thn (hc pins s1 σ1 H1 _ I1 (turn n σ1 H1 w1)) λb s2 ⟨H2,I2,q2⟩=>?_)
 cases b with
 | true=>
  obtain⟨N,hN,q2⟩:=q2
  rw[if_pos rfl]
  refine wpAny_passesOwn hp (thn (hb pins s2 σ1 H2 _ I2 q2) λf s3 q3=>?_)
  cases f with
  | next=>
   obtain⟨σ3,H3,I3,n3⟩:=q3
   obtain⟨m',hm,w3⟩:=hN σ3 H3 n3
   exact⟨m',hm,σ3,H3,I3,w3⟩
  | cont=>
   obtain⟨σ3,H3,I3,n3⟩:=q3
   obtain⟨m',hm,w3⟩:=hN σ3 H3 n3
   exact⟨m',hm,σ3,H3,I3,w3⟩
  | brk=>exact q3
  | ret v=>exact q3
 | false=>
  rw[if_neg Vao]
  exact wpAny_execs_nil ⟨σ1,H2,I2,q2⟩
end
structure It where
 go:Nat→Hp→Prop
 yld:Nat→Hp→V→Hp→Prop
 stop:Nat→Hp→Prop
def zbE (X:Cx)(pins:List (Addr×Obj))(H:Hp)(b:Addr):Prop:=
 H b=none∧b≠X.env.locals∧b ∉ X.fs∧(b∈X.ex∨X.s₀.heap.objs.size≤b)∧(∀x c,X.env.cells.lookup x=some c→c≠b)∧∀p∈X.pn++pins,p.1≠b
theorem Inv.fpOk {X:Cx}{pins:List (Addr×Obj)}{σ:St}{H H':Hp}{s:Shared}{b:Addr}(I:Inv X pins σ H s)(hb:s.heap.objs.size≤b)(hn:H' b=none):zbE X pins H' b:=by
 refine⟨hn,Nat.ne_of_gt (Vau I.lt hb),I.nofs hb,.inr (Vaz I.sz hb),λx c e z=>?_,λp hp z=>?_⟩
 ·obtain⟨v,q⟩:=I.cell x c e
  exact absurd (Vau q.lt (by rw[z]; exact hb)) (VaC _)
 ·exact absurd (Vau (Heap.lt_size (I.pin p hp).1) (by rw[z]; exact hb)) (VaC _)
structure zfB (P:Program)(w:World)(K:PySem.W.Frag)(tg:Expr)(J:It)(fp:List Addr)(it:Addr)(tn:Nat→Heap→Prop):Prop where
 mem:it∈fp
 obj:∀i h,tn i h→∀b∈fp,∃o,h.get? b=some o∧∀v,o.data≠.cell v
 keep:∀i h h',tn i h→(∀b∈fp,∀o,h.get? b=some o→h'.get? b=some o)→tn i h'
 item:∀(X:Cx),X.prog=P→X.w=w→X.K=K→X.calm=true→∀(i:Nat) (pins:List (Addr×Obj)) (s:Shared) (σ:St) (H:Hp) (E:Value→Shared→Prop),Inv X pins σ H s→(∀b∈fp,zbE X pins H b)→tn i s.heap→J.go i H→
  wpAny (model P w) X.A (pyNext (.ref it)) (λr s1=>∃u,r=some u∧
   wpAny (model P w) X.A (letOwnedTupleGo tg (.ref it) u) (λ_ s2=>∃x H',Inv X pins σ H' s2∧zan x u∧J.yld i H x H'∧tn (i+1) s2.heap∧∀b∈fp,H' b=none) E s1) E s
 done:∀(X:Cx),X.prog=P→X.w=w→X.K=K→X.calm=true→∀(i:Nat) (pins:List (Addr×Obj)) (s:Shared) (σ:St) (H:Hp) (E:Value→Shared→Prop),Inv X pins σ H s→(∀b∈fp,zbE X pins H b)→tn i s.heap→J.stop i H→
  wpAny (model P w) X.A (pyNext (.ref it)) (λr s1=>r=none∧Inv X pins σ H s1) E s
 self:∀(A:Around) (i:Nat) (s:Shared) (Q:Value→Shared→Prop) (E:Value→Shared→Prop),tn i s.heap→Q (.ref it) s→wpAny (model P w) A (pyIter (.ref it)) Q E s
abbrev TI:=St→Hp→(It→Hp→Prop)→Prop
def PIE (X:Cx)(pins:List (Addr×Obj))(σ:St)(tg:Expr)(R:It→Hp→Prop)(itv:Value)(s2:Shared):Prop:=
 ∃(it:Addr) (fp:List Addr) (tn:Nat→Heap→Prop) (J:It) (H':Hp),itv=.ref it∧Inv X pins σ H' s2∧zfB X.prog X.w X.K tg J fp it tn∧tn 0 s2.heap∧(∀b∈fp,zbE X pins H' b)∧R J H'
def PI (X:Cx)(tg iter:Expr)(wi:TI):Prop:=
 ∀(pins:List (Addr×Obj)) (s:Shared) (σ:St) (H:Hp) (R:It→Hp→Prop),Inv X pins σ H s→wi σ H R→
  wpAny (model X.prog X.w) X.A (eval iter X.env) (λv s1=>wpAny (model X.prog X.w) X.A (pyIter v) (PIE X pins σ tg R) X.xe s1) X.xe s
theorem zmw {M:Model}{A:Around}{E:Value→Shared→Prop}{s:Shared}{tg:Expr}{it:Addr}{u:Value}{o:Obj}{n:String}{vs:Array Value}{Q:Unit→Shared→Prop}(ho:s.heap.get? it=some o)(hc:o.cls=.type n)(hd:o.data=.fields vs)
    (hn:["enumerate","zip","dict_itemiterator","dict_reverseitemiterator","odict_iterator","itertools.zip_longest","itertools.pairwise"].contains n=false)(hQ:Q () s):wpAny M A (letOwnedTupleGo tg (.ref it) u) Q E s:=by
  unfold letOwnedTupleGo
  cases tg <;> first
    | exact wpAny_pure hQ
    | (cases u <;> first
        | exact wpAny_pure hQ
        | (refine wpAny_bind (wpAny_load ho ?_)
           rw[hc,hd]
           show wpAny M A (if (["enumerate","zip","dict_itemiterator","dict_reverseitemiterator","odict_iterator","itertools.zip_longest","itertools.pairwise"].contains n&&vs[0]?==some (rawInt _))=true then _ else _) Q E s
           rw[if_neg (by intro h; rw[hn,Bool.false_and] at h; cases h)]
           exact wpAny_pure hQ))
def Itl (K:PySem.W.Frag)(a:Addr):It:=
 ⟨λi H=>∃xs x,SqL K H a xs∧xs[i]?=some x,λi H x H'=>H'=H∧∀xs,SqL K H a xs→xs[i]?=some x,λi H=>∃xs,SqL K H a xs∧xs.length≤i⟩
def Itt (K:PySem.W.Frag)(a:Addr):It:=
 ⟨λi H=>∃xs x,SqT K H a xs∧xs[i]?=some x,λi H x H'=>H'=H∧∀xs,SqT K H a xs→xs[i]?=some x,λi H=>∃xs,SqT K H a xs∧xs.length≤i⟩
def Itr (lo:Int)(n:Nat):It:=⟨λi _=>i<n,λi H x H'=>H'=H∧x=.int (lo+i),λi _=>n≤i⟩
theorem ztK {P:Program}{w:World}{K:PySem.W.Frag}{tg:Expr}(a it:Addr):zfB P w K tg (Itl K a) [it] it (λi h=>h.IsListIter it a i) where
 mem:=by simp
 obj:=λi h st b hb=>by
  have e:b=it:=by simpa using hb
  subst e
  obtain⟨o,e,c,d⟩:=st
  exact⟨o,e,λv z=>by rw[d] at z; cases z⟩
 keep:=λi h h' st k=>st.at λo e=>k it (by simp) o e
 item:=by
  intro X hP hw hK hc i pins s σ H E I hf st hg
  subst hP hw hK
  obtain⟨xs,x,hq,hx⟩:=hg
  obtain⟨its,rv,p,hz⟩:=I.list hq
  obtain⟨u,hu,ru⟩:=rv.get hx
  obtain⟨f0,f1,f2,f3,f4,f5⟩:=hf it (by simp)
  refine wpAny_pyNext_list_item st p.isList (x:=u) (by simpa using hu) λh' st' sb=>?_
  have I1:Inv X pins σ H { s with heap:=h' }:=I.turned (t':=s.toks) (λb o hb e=>(sb.2 b hb).trans e) f0 f1 f3 f4 f5
  obtain⟨o,e,c,d⟩:=id st'
  exact⟨u,rfl,zmw (s:={ s with heap:=h' }) e c d (by decide) ⟨x,H,I1,ru,⟨rfl,λys hy=>by rw[I.list_inj hy hq]; exact hx⟩,st',λb hb=>(hf b hb).1⟩⟩
 done:=by
  intro X hP hw hK hc i pins s σ H E I hf st hg
  subst hP hw hK
  obtain⟨xs,hq,hx⟩:=hg
  obtain⟨its,rv,p,hz⟩:=I.list hq
  obtain⟨f0,f1,f2,f3,f4,f5⟩:=hf it (by simp)
  have hl:=rv.length
  exact wpAny_pyNext_list_end (I.ok.hd hc) st p.isList (by simp; omega) λh' eb=>⟨rfl,I.turned (t':=s.toks) (λb o hb e=>eb b o hb e) f0 f1 f3 f4 f5⟩
 self:=λ_ _ _ _ _ st h=>wpAny_pyIter_listiter st h
theorem zuj {P:Program}{w:World}{K:PySem.W.Frag}{tg:Expr}(a it:Addr):zfB P w K tg (Itt K a) [it] it (λi h=>h.IsTupleIter it a i) where
 mem:=by simp
 obj:=λi h st b hb=>by
  have e:b=it:=by simpa using hb
  subst e
  obtain⟨o,e,c,d⟩:=st
  exact⟨o,e,λv z=>by rw[d] at z; cases z⟩
 keep:=λi h h' st k=>st.at λo e=>k it (by simp) o e
 item:=by
  intro X hP hw hK hc i pins s σ H E I hf st hg
  subst hP hw hK
  obtain⟨xs,x,hq,hx⟩:=hg
  obtain⟨its,rv,p,hz⟩:=I.tuple hq
  obtain⟨u,hu,ru⟩:=rv.get hx
  obtain⟨f0,f1,f2,f3,f4,f5⟩:=hf it (by simp)
  refine wpAny_pyNext_tuple_item st (show s.heap.IsTuple a its.toArray from p) (x:=u) (by simpa using hu) λh' st' sb=>?_
  have I1:Inv X pins σ H { s with heap:=h' }:=I.turned (t':=s.toks) (λb o hb e=>(sb.2 b hb).trans e) f0 f1 f3 f4 f5
  obtain⟨o,e,c,d⟩:=id st'
  exact⟨u,rfl,zmw (s:={ s with heap:=h' }) e c d (by decide) ⟨x,H,I1,ru,⟨rfl,λys hy=>by rw[I.tuple_inj hy hq]; exact hx⟩,st',λb hb=>(hf b hb).1⟩⟩
 done:=by
  intro X hP hw hK hc i pins s σ H E I hf st hg
  subst hP hw hK
  obtain⟨xs,hq,hx⟩:=hg
  obtain⟨its,rv,p,hz⟩:=I.tuple hq
  obtain⟨f0,f1,f2,f3,f4,f5⟩:=hf it (by simp)
  have hl:=rv.length
  exact wpAny_pyNext_tuple_end (I.ok.hd hc) st (show s.heap.IsTuple a its.toArray from p) (by simp; omega) λh' eb=>⟨rfl,I.turned (t':=s.toks) (λb o hb e=>eb b o hb e) f0 f1 f3 f4 f5⟩
 self:=λ_ _ _ _ _ st h=>wpAny_pyIter_tupleiter st h
theorem zpa {P:Program}{w:World}{K:PySem.W.Frag}{tg:Expr}(it:Addr)(lo:Int)(n:Nat):zfB P w K tg (Itr lo n) [it] it (λi h=>IsRangeIter h it (lo+(i:Nat)*1) ((n:Int)-(i:Nat)) 1) where
 mem:=by simp
 obj:=λi h st b hb=>by
  have e:b=it:=by simpa using hb
  subst e
  exact⟨_,st,λv z=>by
   have z':Data.fields _=Data.cell v:=z
   cases z'⟩
 keep:=λi h h' st k=>k it (by simp) _ st
 item:=by
  intro X hP hw hK hc i pins s σ H E I hf st hg
  subst hP hw hK
  obtain⟨f0,f1,f2,f3,f4,f5⟩:=hf it (by simp)
  have W:=Walks.range (prog:=X.prog) (w:=X.w) (I.ok.hd hc) it lo 1 n
  refine W.item i s _ _ hg st λv h' tk hv st' kk=>?_
  obtain⟨t,rfl⟩:=hv
  have I1:Inv X pins σ H { s with heap:=h',toks:=tk }:=I.turned (λb o hb e=>kk b o (by simpa using hb) e) f0 f1 f3 f4 f5
  refine⟨_,rfl,zmw (s:={ s with heap:=h',toks:=tk }) (n:="range_iterator") st' rfl rfl (by decide) ⟨.int (lo+i),H,I1,⟨t,?_⟩,⟨rfl,rfl⟩,st',λb hb=>(hf b hb).1⟩⟩
  rw[Int.mul_one]
 done:=by
  intro X hP hw hK hc i pins s σ H E I hf st hg
  subst hP hw hK
  obtain⟨f0,f1,f2,f3,f4,f5⟩:=hf it (by simp)
  exact wpAny_pyNext_range_end (I.ok.hd hc) st (by have:n≤i:=hg; omega) λh' eb=>⟨rfl,I.turned (t':=s.toks) (λb o hb e=>eb b o hb e) f0 f1 f3 f4 f5⟩
 self:=λ_ _ _ _ _ st h=>wpAny_pyIter_rangeiter st h
end L2
namespace L2
open PySem PySem.Spec PyProof.Rows
section
variable {X:Cx}{tg:Expr}
def znU (K:PySem.W.Frag)(tl:TE):TI:=λσ H R=>tl σ H λx H1=>∃a,x=.ref a∧(∃xs,SqL K H1 a xs)∧R (Itl K a) H1
def iTup (K:PySem.W.Frag)(tl:TE):TI:=λσ H R=>tl σ H λx H1=>∃a,x=.ref a∧(∃xs,SqT K H1 a xs)∧R (Itt K a) H1
theorem ziw {l:Expr}{tl:TE}(hl:PE X l tl):PI X tg l (znU X.K tl):=by
 intro pins s σ H R I h
 refine thn (hl pins s σ H _ I h) λv s1 ⟨x,H1,I1,r1,q1⟩=>?_
 obtain⟨a,e,⟨xs,hq⟩,q⟩:=q1
 subst e
 cases r1
 obtain⟨its,rv,p,hz⟩:=I1.list hq
 refine wpAny_pyIter_list p.isList ?_
 refine⟨s1.heap.objs.size,[s1.heap.objs.size],_,_,H1,rfl,I1.kept (t':=s1.toks) λb o e=>Heap.get?_push_of_some _ e,ztK a _,⟨_,Heap.get?_push_size _ rfl,rfl,rfl⟩,λb hb=>?_,q⟩
 have e:b=s1.heap.objs.size:=by simpa using hb
 subst e
 exact I1.fpOk (Vaa _) (I1.hok.fresh (Vaa _))
theorem zvE {l:Expr}{tl:TE}(hl:PE X l tl):PI X tg l (iTup X.K tl):=by
 intro pins s σ H R I h
 refine thn (hl pins s σ H _ I h) λv s1 ⟨x,H1,I1,r1,q1⟩=>?_
 obtain⟨a,e,⟨xs,hq⟩,q⟩:=q1
 subst e
 cases r1
 obtain⟨its,rv,p,hz⟩:=I1.tuple hq
 refine wpAny_pyIter_tuple (show s1.heap.IsTuple a its.toArray from p) ?_
 refine⟨s1.heap.objs.size,[s1.heap.objs.size],_,_,H1,rfl,I1.kept (t':=s1.toks) λb o e=>Heap.get?_push_of_some _ e,zuj a _,⟨_,Heap.get?_push_size _ rfl,rfl,rfl⟩,λb hb=>?_,q⟩
 have e:b=s1.heap.objs.size:=by simpa using hb
 subst e
 exact I1.fpOk (Vaa _) (I1.hok.fresh (Vaa _))
theorem zo4 {pins:List (Addr×Obj)}{σ:St}{H:Hp}{s:Shared}{R:It→Hp→Prop}{E:Value→Shared→Prop}{lo hi:Int}{t u v:Tok}{tk:Nat}(I:Inv X pins σ H s)(h1:-(2^62)≤lo)(h2:lo<2^62)(h3:-(2^62)≤hi)(h4:hi<2^62)
  (q:R (Itr lo (hi-lo).toNat) H):wpAny (model X.prog X.w) X.A (pyIter (.ref s.heap.objs.size)) (PIE X pins σ tg R) E { s with heap:=s.heap.push { cls:=.type "range",data:=.fields #[.int lo t,.int hi u,.int 1 v] },toks:=tk }:=by
 refine wpAny_pyIter_range (IsRange.new ..) (small_one h1 h2 h3 h4) ?_
 have I1:Inv X pins σ H { s with heap:=s.heap.push { cls:=.type "range",data:=.fields #[.int lo t,.int hi u,.int 1 v] },toks:=tk }:=I.kept λb o e=>Heap.get?_push_of_some _ e
 refine⟨(s.heap.push { cls:=.type "range",data:=.fields #[.int lo t,.int hi u,.int 1 v] }).objs.size,[(s.heap.push { cls:=.type "range",data:=.fields #[.int lo t,.int hi u,.int 1 v] }).objs.size],_,_,H,rfl,
  I1.kept (t':=tk) λb o e=>Heap.get?_push_of_some _ e,zpa _ lo (hi-lo).toNat,?_,λb hb=>?_,q⟩
 ·have e1:lo+((0:Nat):Int)*1=lo:=by simp
  have e2:(((hi-lo).toNat:Nat):Int)-((0:Nat):Int)=Builtin.Range.rangeSize lo hi 1:=by rw[rangeSize_one]; split <;> omega
  show IsRangeIter _ _ (lo+((0:Nat):Int)*1) ((((hi-lo).toNat:Nat):Int)-((0:Nat):Int)) 1
  rw[e1,e2]
  exact Heap.get?_push_size _ rfl
 ·have e:b=(s.heap.push { cls:=.type "range",data:=.fields #[.int lo t,.int hi u,.int 1 v] }).objs.size:=by simpa using hb
  subst e
  exact I1.fpOk (Vaa _) (I1.hok.fresh (Vaa _))
def zo2 (ta:TA):TI:=λσ H R=>ta σ H λvs H1=>∃j:Int,vs=[.int j]∧-(2^62)≤j∧j<2^62∧R (Itr 0 j.toNat) H1
def iRng2 (ta:TA):TI:=λσ H R=>ta σ H λvs H1=>∃i j:Int,vs=[.int i,.int j]∧(-(2^62)≤i∧i<2^62∧-(2^62)≤j∧j<2^62)∧R (Itr i (j-i).toNat) H1
theorem zmO {a:Expr}{ta:TA}{p pos:Pos}(hg:Gl X "range")(hm:X.mg "range"=none)(ha:PA X [a] ta)(hs:starEach [a] X.env=[(false,eval a X.env)]:=by rfl):PI X tg (.Call (.Name "range" p) [a] [] pos) (zo2 ta):=by
 intro pins s σ H R I h
 refine Call_ (zeJ I hg hm boot_range (PyProof.Rows.callWith_type1 (thn (ha pos pins s σ H _ I h) λus s1 ⟨vs,H1,I1,r1,q1⟩=>?_) hs rfl))
 obtain⟨j,e,q1,q2,q⟩:=q1
 subst e
 cases r1 with
 | cons r rr=>
  cases rr
  obtain⟨t,rfl⟩:=r
  exact call_range_1 (zo4 I1 (by omega) (by omega) q1 q2 (by simpa using q))
theorem zs4 {a b:Expr}{ta:TA}{p pos:Pos}(hg:Gl X "range")(hm:X.mg "range"=none)(ha:PA X [a,b] ta)(hs:starEach [a,b] X.env=[(false,eval a X.env),(false,eval b X.env)]:=by rfl)(hs2:starEach [b] X.env=[(false,eval b X.env)]:=by rfl):
  PI X tg (.Call (.Name "range" p) [a,b] [] pos) (iRng2 ta):=by
 intro pins s σ H R I h
 refine Call_ (zeJ I hg hm boot_range (PyProof.Rows.callWith_type1 (thn (ha pos pins s σ H _ I h) λus s1 ⟨vs,H1,I1,r1,q1⟩=>?_) (by rw[hs,hs2]) (by rw[hs2]; rfl)))
 obtain⟨i,j,e,⟨q1,q2,q3,q4⟩,q⟩:=q1
 subst e
 cases r1 with
 | cons r rr=>
  cases rr with
  | cons r' rr=>
   cases rr
   obtain⟨t,rfl⟩:=r
   obtain⟨t',rfl⟩:=r'
   exact call_range_2 (zo4 I1 q1 q2 q3 q4 q)
def tFor (wi:TI)(g:TG)(tb:TS):TS:=λD σ H=>wi σ H λJ H1=>∃W:Nat→Nat→St→Hp→Prop,(∃m,W 0 m σ H1)∧∀i m σ H,W i m σ H→
 (J.stop i H∧D.nx σ H)∨(J.go i H∧∃N:St→Hp→Prop,(∀σ' H',N σ' H'→∃m',m'<m∧W (i+1) m' σ' H')∧∀x H',J.yld i H x H'→g x σ H' λσ2 H2=>tb { D with nx:=N,ct:=N,bk:=D.nx } σ2 H2)
def zd0 (fp:List Addr)(h:Heap):List (Addr×Obj):=fp.filterMap λb=>(h.get? b).map λo=>(b,o)
theorem zes {fp:List Addr}{h:Heap}{b:Addr}{o:Obj}(hb:b∈fp)(e:h.get? b=some o):(b,o)∈zd0 fp h:=List.mem_filterMap.mpr ⟨b,hb,by rw[e]; rfl⟩
theorem zqj {fp:List Addr}{h:Heap}{p:Addr×Obj}(hp:p∈zd0 fp h):p.1∈fp∧h.get? p.1=some p.2:=by
 obtain⟨b,hb,e⟩:=List.mem_filterMap.mp hp
 cases q:h.get? b with
 | none=>rw[q] at e; cases e
 | some o=>
  rw[q] at e
  have e':(b,o)=p:=Option.some.inj e
  subst e'
  exact⟨hb,q⟩
theorem Inv.pinned {pins:List (Addr×Obj)}{σ:St}{H:Hp}{s:Shared}{fp:List Addr}(I:Inv X pins σ H s)(hf:∀b∈fp,zbE X pins H b)(ho:∀b∈fp,∃o,s.heap.get? b=some o∧∀v,o.data≠.cell v):Inv X (pins++zd0 fp s.heap) σ H s:=
 I.pins_of λp hp=>(VaQ.mp hp).elim (λz=>I.pin p (VaB _ z)) λz=>by
  obtain⟨hb,e⟩:=zqj z
  obtain⟨f0,f1,f2,_⟩:=hf p.1 hb
  obtain⟨o,e',d⟩:=ho p.1 hb
  rw[e] at e'; cases e'
  exact⟨e,f0,f1,f2,d⟩
theorem Inv.unpinned {pins pl:List (Addr×Obj)}{σ:St}{H:Hp}{s:Shared}(I:Inv X (pins++pl) σ H s):Inv X pins σ H s:=I.pins_of λp hp=>I.pin p (VaB _ (List.mem_append_left _ hp))
theorem zgH {iter:Expr}{body:List Stmt}{wi:TI}{g:TG}{tb:TS}{pos:Pos}(hp:PassesOwn (model X.prog X.w) X.A X.env X.xe)(hc:X.calm=true)(hi:PI X tg iter wi)(hg:PG X tg g)(hb:PSs X body tb)
  (hs:∀x,foldedSetIterable iter X.env x=pure x:=by intro _; rfl):PS X (.For tg iter body [] pos) (tFor wi g tb):=by
 intro pins s σ H D I h
 refine wpAny_For (thn (hi pins s σ H _ I h) λv s1 h1=>thn h1 λitv s2 h2=>?_) hs
 obtain⟨it,fp,tn,J,H2,e,I2,T,st2,f2,W,⟨m0,w0⟩,turn⟩:=h2
 subst e
 have stat:∀ {H':Hp},(∀b∈fp,H' b=none)→∀b∈fp,zbE X pins H' b:=λhn b hb=>⟨hn b hb,(f2 b hb).2⟩
 refine codeAny_forLoop_any (λn s'=>∃i σ' H',Inv X pins σ' H' s'∧tn i s'.heap∧(∀b∈fp,H' b=none)∧W i n σ' H') ?_ m0 ⟨0,σ,H2,I2,st2,λb hb=>(f2 b hb).1,w0⟩
 rintro n s3 ⟨i,σ3,H3,I3,st3,fr3,w3⟩
 rcases turn i n σ3 H3 w3 with ⟨stop,qn⟩ | ⟨go,N,hN,step⟩
 ·refine wpAny_passesOwn hp (thn (T.done X rfl rfl rfl hc i pins s3 σ3 H3 X.xe I3 (stat fr3) st3 stop) λr s4 ⟨hr,I4⟩=>?_)
  subst hr
  exact wpAny_execs_nil ⟨σ3,H3,I4,qn⟩
 ·refine wpAny_passesOwn hp (thn (T.item X rfl rfl rfl hc i pins s3 σ3 H3 X.xe I3 (stat fr3) st3 go) λr s4 ⟨u,hr,h4⟩=>?_)
  subst hr
  refine wpAny_passesOwn hp (thn h4 λ_ s5 ⟨x,H5,I5,r5,y5,st5,fr5⟩=>?_)
  have I5':=I5.pinned (stat fr5) (T.obj _ _ st5)
  refine wpAny_passesOwn hp (thn (hg _ s5 σ3 H5 x u _ I5' r5 (step x H5 y5)) λ_ s6 ⟨σ6,H6,I6,q6⟩=>?_)
  refine wpAny_passesOwn hp (thn (hb _ s6 σ6 H6 _ I6 q6) λf s7 q7=>?_)
  have again:∀ {σ7:St} {H7:Hp},Inv X (pins++zd0 fp s5.heap) σ7 H7 s7→N σ7 H7→∃m,m<n∧∃i σ' H',Inv X pins σ' H' s7∧tn i s7.heap∧(∀b∈fp,H' b=none)∧W i m σ' H':=λ{σ7 H7} I7 n7=>by
   obtain⟨m',hm,w7⟩:=hN σ7 H7 n7
   refine⟨m',hm,i+1,σ7,H7,I7.unpinned,T.keep _ _ _ st5 λb hb o e=>(I7.pin (b,o) (VaB _ (VaB _ (zes hb e)))).1,λb hb=>?_,w7⟩
   obtain⟨o,e,d⟩:=T.obj _ _ st5 b hb
   exact(I7.pin (b,o) (VaB _ (VaB _ (zes hb e)))).2.1
  cases f with
  | next=>obtain⟨σ7,H7,I7,n7⟩:=q7; exact again I7 n7
  | cont=>obtain⟨σ7,H7,I7,n7⟩:=q7; exact again I7 n7
  | brk=>obtain⟨σ7,H7,I7,q7⟩:=q7; exact⟨σ7,H7,I7.unpinned,q7⟩
  | ret v=>obtain⟨x7,σ7,H7,I7,r7,q7⟩:=q7; exact⟨x7,σ7,H7,I7.unpinned,r7,q7⟩
end
end L2
namespace L2
open PySem PySem.Spec PyProof.Rows
abbrev R2:=V→V→Hp→VK→Prop
def OpR (X:Cx)(f:Value→Value→Sem Value)(r:R2):Prop:=
 ∀(pins:List (Addr×Obj)) (s:Shared) (σ:St) (H:Hp) (x y:V) (v u:Value) (Q:VK),Inv X pins σ H s→zan x v→zan y u→r x y H Q→
  wpAny (model X.prog X.w) X.A (f v u) (EP X pins σ Q) X.xe s
def UnR (X:Cx)(f:Value→Sem Value)(r:V→Hp→VK→Prop):Prop:=
 ∀(pins:List (Addr×Obj)) (s:Shared) (σ:St) (H:Hp) (x:V) (v:Value) (Q:VK),Inv X pins σ H s→zan x v→r x H Q→
  wpAny (model X.prog X.w) X.A (f v) (EP X pins σ Q) X.xe s
def za2 (X:Cx)(f:Value)(r:List V→Hp→VK→Prop):Prop:=
 ∀(pins:List (Addr×Obj)) (s:Shared) (σ:St) (H:Hp) (xs:List V) (us:List Value) (Q:VK),Inv X pins σ H s→zao xs us→r xs H Q→
  wpAny (model X.prog X.w) X.A (call f us) (EP X pins σ Q) X.xe s
def tOp (r:R2)(ta tb:TE):TE:=λσ H Q=>ta σ H λx H1=>tb σ H1 λy H2=>r x y H2 Q
def tUn (r:V→Hp→VK→Prop)(ta:TE):TE:=λσ H Q=>ta σ H λx H1=>r x H1 Q
def rI (C:Int→Int→Prop)(g:Int→Int→V):R2:=λx y H Q=>∃i j,x=.int i∧y=.int j∧C i j∧Q (g i j) H
def rI0 (g:Int→Int→V):R2:=λx y H Q=>∃i j,x=.int i∧y=.int j∧Q (g i j) H
def rU (g:Int→V):V→Hp→VK→Prop:=λx H Q=>∃i,x=.int i∧Q (g i) H
section
variable {X:Cx}{a b c:Expr}{ta tb tc:TE}{pos:Pos}
theorem binT (ha:PE X a ta)(hb:PE X b tb){pins:List (Addr×Obj)}{s:Shared}{σ:St}{H:Hp}{R:V→V→Hp→Prop}(I:Inv X pins σ H s)
  (h:ta σ H λx H1=>tb σ H1 λy H2=>R x y H2){Q:Value→Shared→Prop}{f:Value→Value→Sem Value}
  (hf:∀v u s2 x y H2,Inv X pins σ H2 s2→zan x v→zan y u→R x y H2→wpAny (model X.prog X.w) X.A (f v u) Q X.xe s2):
  wpAny (model X.prog X.w) X.A (eval a X.env) (λv s₁=>wpAny (model X.prog X.w) X.A (eval b X.env) (λu s₂=>wpAny (model X.prog X.w) X.A (f v u) Q X.xe s₂) X.xe s₁) X.xe s:=by
 refine thn (ha pins s σ H _ I h) λv s1 ⟨x,H1,I1,r1,q1⟩=>?_
 refine thn (hb pins s1 σ H1 _ I1 q1) λu s2 ⟨y,H2,I2,r2,q2⟩=>?_
 exact hf v u s2 x y H2 I2 r1 r2 q2
theorem pe_op {op:Operator}{r:R2}(ho:OpR X (binaryOp op) r)(ha:PE X a ta)(hb:PE X b tb):PE X (.BinOp a op b pos) (tOp r ta tb):=by
 intro pins s σ H Q I h
 exact wpAny_BinOp (binT ha hb I h λv u s2 x y H2 I2 rx ry q=>ho pins s2 σ H2 x y v u Q I2 rx ry q)
theorem pe_un {op:UnaryOp}{r:V→Hp→VK→Prop}(ho:UnR X (unaryOp op) r)(ha:PE X a ta):PE X (.UnaryOp op a pos) (tUn r ta):=by
 intro pins s σ H Q I h
 exact UnaryOp_ (thn (ha pins s σ H _ I h) λv s1 ⟨x,H1,I1,r1,q1⟩=>ho pins s1 σ H1 x v Q I1 r1 q1)
theorem opI {f:Value→Value→Sem Value}{C:Int→Int→Prop}{g:Int→Int→Int}
  (rule:∀(i j:Int) (t u:Tok) (s:Shared) (Q:Value→Shared→Prop) (E:Value→Shared→Prop),C i j→Q (.int (g i j) s.toks) { s with toks:=s.toks+1 }→wpAny (model X.prog X.w) X.A (f (.int i t) (.int j u)) Q E s):
  OpR X f (rI C λi j=>.int (g i j)):=by
 intro pins s σ H x y v u Q I rx ry h
 obtain⟨i,j,rfl,rfl,hc,q⟩:=h
 obtain⟨t,rfl⟩:=rx
 obtain⟨t',rfl⟩:=ry
 exact rule i j t t' s _ _ hc ⟨.int (g i j),H,I.tok _,⟨_,rfl⟩,q⟩
theorem opI0 {f:Value→Value→Sem Value}{g:Int→Int→Int}
  (rule:∀(i j:Int) (t u:Tok) (s:Shared) (Q:Value→Shared→Prop) (E:Value→Shared→Prop),Q (.int (g i j) s.toks) { s with toks:=s.toks+1 }→wpAny (model X.prog X.w) X.A (f (.int i t) (.int j u)) Q E s):
  OpR X f (rI0 λi j=>.int (g i j)):=by
 intro pins s σ H x y v u Q I rx ry h
 obtain⟨i,j,rfl,rfl,q⟩:=h
 obtain⟨t,rfl⟩:=rx
 obtain⟨t',rfl⟩:=ry
 exact rule i j t t' s _ _ ⟨.int (g i j),H,I.tok _,⟨_,rfl⟩,q⟩
theorem zim {f:Value→Value→Sem Value}{g:Int→Int→Bool}
  (rule:∀(i j:Int) (t u:Tok) (s:Shared) (Q:Value→Shared→Prop) (E:Value→Shared→Prop),Q (.bool (g i j)) s→wpAny (model X.prog X.w) X.A (f (.int i t) (.int j u)) Q E s):
  OpR X f (rI0 λi j=>.bl (g i j)):=by
 intro pins s σ H x y v u Q I rx ry h
 obtain⟨i,j,rfl,rfl,q⟩:=h
 obtain⟨t,rfl⟩:=rx
 obtain⟨t',rfl⟩:=ry
 exact rule i j t t' s _ _ ⟨.bl (g i j),H,I,rfl,q⟩
def CPow (i j:Int):Prop:=0≤j∧j≤1000000∧i.natAbs<2^64
def CMul (i j:Int):Prop:=(-(2^64)<i∧i<2^64)∨(-(2^64)<j∧j<2^64)
theorem CMul.ok {i j:Int}(h:CMul i j):IntMulOk i j:=by
 rcases h with ⟨h1,h2⟩ | ⟨h1,h2⟩
 ·exact .of_left (intBits_le_64 h1 h2)
 ·exact .of_right (intBits_le_64 h1 h2)
theorem zqE:OpR X (binaryOp .Add) (rI0 λi j=>.int (i+j)):=opI0 λ_ _ _ _ _ _ _ q=>add_int q
theorem ztz:OpR X (binaryOp .Sub) (rI0 λi j=>.int (i-j)):=opI0 λ_ _ _ _ _ _ _ q=>sub_int q
theorem zrP:OpR X (binaryOp .Mod) (rI (λ_ j=>0<j) λi j=>.int (i%j)):=opI λi j _ _ _ _ _ hc q=>by
 have h1:(0:Int)<j:=hc
 exact mod_int' (by omega) (by rw[Int.fmod_eq_emod_of_nonneg i (by omega)]; exact q)
theorem zsL:OpR X (binaryOp .Pow) (rI CPow λi j=>.int (i^j.toNat)):=opI λ_ _ _ _ _ _ _ hc q=>pow_int_small hc.1 hc.2.1 hc.2.2 q
theorem unI {f:Value→Sem Value}{g:Int→Int}
  (rule:∀(i:Int) (t:Tok) (s:Shared) (Q:Value→Shared→Prop) (E:Value→Shared→Prop),Q (.int (g i) s.toks) { s with toks:=s.toks+1 }→wpAny (model X.prog X.w) X.A (f (.int i t)) Q E s):
  UnR X f (rU λi=>.int (g i)):=by
 intro pins s σ H x v Q I rx h
 obtain⟨i,rfl,q⟩:=h
 obtain⟨t,rfl⟩:=rx
 exact rule i t s _ _ ⟨.int (g i),H,I.tok _,⟨_,rfl⟩,q⟩
theorem zvs:UnR X (unaryOp .USub) (rU λi=>.int (-i)):=unI λ_ _ _ _ _ q=>neg_int q
end
def zkC:V→V→Bool
 | .non,.non=>true | .non,.int _=>true | .int _,.non=>true | .non,.bl _=>true | .bl _,.non=>true | .non,.str _=>true | .str _,.non=>true
 | .int _,.int _=>true | .bl _,.bl _=>true | .str _,.str _=>true | .byt _,.byt _=>true
 | .int _,.str _=>true | .str _,.int _=>true | .bl _,.str _=>true | .str _,.bl _=>true
 | _,_=>false
def rEq:R2:=λx y H Q=>zkC x y=true∧Q (.bl (decide (x=y))) H
def rNe:R2:=λx y H Q=>zkC x y=true∧Q (.bl (!decide (x=y))) H
theorem znm {i j:Int}:decide (V.int i=V.int j)=(i==j):=by
 rw[Va5]
 simp
theorem znG {i j:Bool}:decide (V.bl i=V.bl j)=(i==j):=by
 rw[Va5]
 simp
theorem zm4 {i j:Str}:decide (V.str i=V.str j)=(i==j):=by
 rw[Va5]
 simp
theorem zn2 {i j:Array UInt8}:decide (V.byt i=V.byt j)=(i.toList==j.toList):=by
 rw[Va5]
 cases i
 cases j
 simp
section
variable {X:Cx}{a b c:Expr}{ta tb tc:TE}{pos:Pos}
theorem za3 {pins:List (Addr×Obj)}{σ:St}{H:Hp}{s:Shared}{Q:VK}{k k':Bool}(I:Inv X pins σ H s)(q:Q (.bl k) H)(e:k=k'):EP X pins σ Q (.bool k') s:=by
 subst e
 exact⟨.bl k,H,I,rfl,q⟩
theorem zlA:OpR X (compareOp .Eq) rEq:=by
 intro pins s σ H x y v u Q I rx ry h
 obtain⟨hs,q⟩:=h
 cases x with
 | non=>
  cases rx
  cases y with
  | non=>cases ry; exact PySem.EqNone.eq_none_none (za3 I q (by simp))
  | bl j=>cases ry; exact PySem.EqNone.eq_none_bool (za3 I q (by simp))
  | int j=>obtain⟨t',rfl⟩:=ry; exact PySem.EqNone.eq_none_int (za3 I q (by simp))
  | str j=>obtain⟨t',rfl⟩:=ry; exact PySem.EqNone.eq_none_str (za3 I q (by simp))
  | _=>exact absurd (show false=true from hs) Vao
 | bl i=>
  cases rx
  cases y with
  | non=>cases ry; exact PySem.EqNone.eq_bool_none (za3 I q (by simp))
  | bl j=>cases ry; exact eq_bool (za3 I q znG)
  | str j=>obtain⟨t',rfl⟩:=ry; exact PySem.EqMixed.eq_bool_str (za3 I q (by simp))
  | _=>exact absurd (show false=true from hs) Vao
 | int i=>
  obtain⟨t,rfl⟩:=rx
  cases y with
  | non=>cases ry; exact PySem.EqNone.eq_int_none (za3 I q (by simp))
  | int j=>obtain⟨t',rfl⟩:=ry; exact eq_int (za3 I q znm)
  | str j=>obtain⟨t',rfl⟩:=ry; exact PySem.EqMixed.eq_int_str (za3 I q (by simp))
  | _=>exact absurd (show false=true from hs) Vao
 | str i=>
  obtain⟨t,rfl⟩:=rx
  cases y with
  | non=>cases ry; exact PySem.EqNone.eq_str_none (za3 I q (by simp))
  | bl j=>cases ry; exact PySem.EqMixed.eq_str_bool (za3 I q (by simp))
  | int j=>obtain⟨t',rfl⟩:=ry; exact PySem.EqMixed.eq_str_int (za3 I q (by simp))
  | str j=>obtain⟨t',rfl⟩:=ry; exact eq_str (za3 I q zm4)
  | _=>exact absurd (show false=true from hs) Vao
 | byt i=>
  obtain⟨t,rfl⟩:=rx
  cases y with
  | byt j=>obtain⟨t',rfl⟩:=ry; exact PySem.W.eq_bytes (za3 I q zn2)
  | _=>exact absurd (show false=true from hs) Vao
 | _=>cases y <;> exact absurd (show false=true from hs) Vao
theorem op_ne:OpR X (compareOp .NotEq) rNe:=by
 intro pins s σ H x y v u Q I rx ry h
 obtain⟨hs,q⟩:=h
 cases x with
 | non=>
  cases rx
  cases y with
  | non=>cases ry; exact PySem.EqNone.ne_none_none (za3 I q (by simp))
  | bl j=>cases ry; exact PySem.EqNone.ne_none_bool (za3 I q (by simp))
  | int j=>obtain⟨t',rfl⟩:=ry; exact PySem.EqNone.ne_none_int (za3 I q (by simp))
  | str j=>obtain⟨t',rfl⟩:=ry; exact PySem.EqNone.ne_none_str (za3 I q (by simp))
  | _=>exact absurd (show false=true from hs) Vao
 | bl i=>
  cases rx
  cases y with
  | non=>cases ry; exact PySem.EqNone.ne_bool_none (za3 I q (by simp))
  | bl j=>cases ry; exact ne_bool (za3 I q (congrArg not znG))
  | str j=>obtain⟨t',rfl⟩:=ry; exact PySem.EqMixed.ne_bool_str (za3 I q (by simp))
  | _=>exact absurd (show false=true from hs) Vao
 | int i=>
  obtain⟨t,rfl⟩:=rx
  cases y with
  | non=>cases ry; exact PySem.EqNone.ne_int_none (za3 I q (by simp))
  | int j=>obtain⟨t',rfl⟩:=ry; exact ne_int (za3 I q (congrArg not znm))
  | str j=>obtain⟨t',rfl⟩:=ry; exact PySem.EqMixed.ne_int_str (za3 I q (by simp))
  | _=>exact absurd (show false=true from hs) Vao
 | str i=>
  obtain⟨t,rfl⟩:=rx
  cases y with
  | non=>cases ry; exact PySem.EqNone.ne_str_none (za3 I q (by simp))
  | bl j=>cases ry; exact PySem.EqMixed.ne_str_bool (za3 I q (by simp))
  | int j=>obtain⟨t',rfl⟩:=ry; exact PySem.EqMixed.ne_str_int (za3 I q (by simp))
  | str j=>obtain⟨t',rfl⟩:=ry; exact ne_str (za3 I q (congrArg not zm4))
  | _=>exact absurd (show false=true from hs) Vao
 | byt i=>
  obtain⟨t,rfl⟩:=rx
  cases y with
  | byt j=>obtain⟨t',rfl⟩:=ry; exact PySem.W.ne_bytes (za3 I q (congrArg not zn2))
  | _=>exact absurd (show false=true from hs) Vao
 | _=>cases y <;> exact absurd (show false=true from hs) Vao
theorem op_lt:OpR X (compareOp .Lt) (rI0 λi j=>.bl (decide (i<j))):=zim λ_ _ _ _ _ _ _ q=>lt_int q
theorem op_le:OpR X (compareOp .LtE) (rI0 λi j=>.bl (decide (i≤j))):=zim λ_ _ _ _ _ _ _ q=>le_int q
theorem op_gt:OpR X (compareOp .Gt) (rI0 λi j=>.bl (decide (j<i))):=zim λ_ _ _ _ _ _ _ q=>gt_int q
theorem op_ge:OpR X (compareOp .GtE) (rI0 λi j=>.bl (decide (j≤i))):=zim λ_ _ _ _ _ _ _ q=>ge_int q
theorem OpR.or {f:Value→Value→Sem Value}{r r':R2}(h:OpR X f r)(h':OpR X f r'):OpR X f (λx y H Q=>r x y H Q∨r' x y H Q):=by
 intro pins s σ H x y v u Q I rx ry q
 rcases q with q | q
 ·exact h pins s σ H x y v u Q I rx ry q
 ·exact h' pins s σ H x y v u Q I rx ry q
theorem zax (b:Expr){op:CmpOp}(h:op≠.In:=by decide)(h2:op≠.NotIn:=by decide):behindInMarks op b=false:=by
 have e1:(op==CmpOp.In)=false:=by cases op <;> first | rfl | exact absurd rfl h
 have e2:(op==CmpOp.NotIn)=false:=by cases op <;> first | rfl | exact absurd rfl h2
 cases b <;> simp[behindInMarks,e1,e2]
theorem zpu {op:CmpOp}{r:R2}(ho:OpR X (compareOp op) r)(ha:PE X a ta)(hb:PE X b tb)(hm:behindInMarks op b=false):PE X (.Compare a [op] [b] pos) (tOp r ta tb):=by
 intro pins s σ H Q I h
 exact wpAny_Compare1 (binT ha hb I h λv u s2 x y H2 I2 rx ry q=>ho pins s2 σ H2 x y v u Q I2 rx ry q) hm
def znH (t:TE):TT:=λσ H Q=>t σ H λx H'=>∃k,x=.bl k∧Q k H'
theorem zpN {op:CmpOp}{r:R2}(ho:OpR X (compareOp op) r)(ha:PE X a ta)(hb:PE X b tb)(hm:behindInMarks op b=false):PT X (.Compare a [op] [b] pos) (znH (tOp r ta tb)):=by
 intro pins s σ H Q I h
 refine wpAny_isTrue_Compare1 (thn (ha pins s σ H _ I h) λv s1 ⟨x,H1,I1,r1,q1⟩=>thn (hb pins s1 σ H1 _ I1 q1) λu s2 ⟨y,H2,I2,r2,q2⟩=>
  thn (ho pins s2 σ H2 x y v u _ I2 r1 r2 q2) λc s3 ⟨z,H3,I3,r3,k,e,q3⟩=>?_) hm
 subst e
 cases r3
 exact wpAny_truthy_bool ⟨H3,I3,q3⟩
def zoQ (r r':R2)(ta tb tc:TE):TE:=λσ H Q=>ta σ H λx H1=>tb σ H1 λy H2=>r x y H2 λz H3=>∃k,z=.bl k∧
 (if k=true then tc σ H3 λw' H4=>r' y w' H4 Q else Q (.bl false) H3)
theorem zrO {op op':CmpOp}{r r':R2}(ho:OpR X (compareOp op) r)(ho':OpR X (compareOp op') r')(ha:PE X a ta)(hb:PE X b tb)(hc:PE X c tc)
  (hm:lastMarks [op,op'] [b,c]=false:=by with_unfolding_all rfl):PT X (.Compare a [op,op'] [b,c] pos) (znH (zoQ r r' ta tb tc)):=by
 intro pins s σ H Q I h
 refine isTrue_chain (thn (ha pins s σ H _ I h) λv s1 ⟨x,H1,I1,r1,q1⟩=>test_link (thn (hb pins s1 σ H1 _ I1 q1) λu s2 ⟨y,H2,I2,r2,q2⟩=>
  thn (ho pins s2 σ H2 x y v u _ I2 r1 r2 q2) λd s3 ⟨z,H3,I3,r3,k,e,q3⟩=>?_)) hm
 subst e
 cases r3
 refine wpAny_truthy_bool ?_
 cases k with
 | false=>
  obtain⟨k',e',q'⟩:=q3
  cases e'
  exact ite_ff ⟨H3,I3,q'⟩
 | true=>
  refine ite_tt (test_last (thn (hc pins s3 σ H3 _ I3 q3) λw' s4 ⟨z',H4,I4,r4,q4⟩=>thn (ho' pins s4 σ H4 y z' u w' _ I4 r2 r4 q4) λd' s5 ⟨z2,H5,I5,r5,k2,e2,q5⟩=>?_))
  subst e2
  cases r5
  exact wpAny_truthy_bool ⟨H5,I5,q5⟩
theorem zfd:(sizeLine:Nat)<2^63:=by rw[sizeLine_eq]; decide
theorem zcx {x:V}{us:List Value}(r:zao [x] us):∃u,us=[u]∧zan x u:=by
 cases r with
 | cons r1 r2=>cases r2; exact⟨_,rfl,r1⟩
theorem ziQ {x y:V}{us:List Value}(r:zao [x,y] us):∃u w',us=[u,w']∧zan x u∧zan y w':=by
 cases r with
 | cons r1 r2=>
  cases r2 with
  | cons r3 r4=>cases r4; exact⟨_,_,rfl,r1,r3⟩
theorem zqx:za2 X (.builtin "abs") (λxs H Q=>∃i,xs=[.int i]∧Q (.int (if i<0 then -i else i)) H):=by
 intro pins s σ H xs us Q I r h
 obtain⟨i,rfl,q⟩:=h
 obtain⟨u,rfl,t,rfl⟩:=zcx r
 exact call_abs_int λu tk=>⟨.int (if i<0 then -i else i),H,I.tok _,⟨_,rfl⟩,q⟩
theorem zqh (hc:X.calm=true):za2 X (.builtin "max") (λxs H Q=>∃i j,xs=[.int i,.int j]∧Q (.int (if j > i then j else i)) H):=by
 intro pins s σ H xs us Q I r h
 obtain⟨i,j,rfl,q⟩:=h
 obtain⟨u,w',rfl,⟨t,rfl⟩,⟨t',rfl⟩⟩:=ziQ r
 refine max_two_ints (I.ok.hd hc) λh' tk k=>⟨_,H,I.kept k,?_,q⟩
 by_cases hj:j > i
 ·rw[if_pos hj,if_pos hj]; exact⟨_,rfl⟩
 ·rw[if_neg hj,if_neg hj]; exact⟨_,rfl⟩
theorem zvo (hc:X.calm=true):za2 X (.builtin "min") (λxs H Q=>∃i j,xs=[.int i,.int j]∧Q (.int (if j<i then j else i)) H):=by
 intro pins s σ H xs us Q I r h
 obtain⟨i,j,rfl,q⟩:=h
 obtain⟨u,w',rfl,⟨t,rfl⟩,⟨t',rfl⟩⟩:=ziQ r
 refine min_two_ints (I.ok.hd hc) λh' tk k=>⟨_,H,I.kept k,?_,q⟩
 by_cases hj:j<i
 ·rw[if_pos hj,if_pos hj]; exact⟨_,rfl⟩
 ·rw[if_neg hj,if_neg hj]; exact⟨_,rfl⟩
end
end L2
namespace L2
open PySem PySem.Spec PyProof.Rows
structure zdt (h:Heap)(x dx C:Addr)(mA:Str→Option Value):Prop where
 obj:h.get? x=some (PySem.W.instObj C dx)
 ns:h.Ns1 dx mA
 ne:dx≠x
theorem zuU {h:Heap}{dx:Addr}{mA:Str→Option Value}(n:h.Ns1 dx mA):∃od,h.get? dx=some od∧∀name,PySem.W.lookIn name od=some (mA name):=by
 obtain⟨o,es,ep,ho,hd,hk,_,hm⟩:=n
 refine⟨o,ho,λname=>?_⟩
 have e:=hm name
 unfold nsFind findBy at e
 rw[← Array.find?_toList] at e
 unfold PySem.W.lookIn
 rw[hd]
 dsimp only
 split
 ·rename_i y q
  rw[q] at e
  exact congrArg some e
 ·rename_i q
  rw[q] at e
  have a:es.toList.any (·.refKey)=false:=by
   rw[List.any_eq_false]
   intro y hy
   obtain⟨z,t,hkey⟩:=hk y (Array.mem_toList_iff.mp hy)
   simp[DictEntry.refKey,hkey]
  have a':¬ es.toList.any (·.refKey)=true:=by rw[a]; exact Vao
  rw[if_neg a']
  exact congrArg some e
theorem zdt.look {h:Heap}{x dx C:Addr}{mA:Str→Option Value}(I:zdt h x dx C mA):∃od,PySem.W.InstAt h x (PySem.W.instObj C dx) C (some od)∧∀name,PySem.W.lookIn name od=some (mA name):=
 let ⟨od,ho,hl⟩:=zuU I.ns
 ⟨od,⟨I.obj,rfl,rfl,ho⟩,hl⟩
section
variable {prog:Program}{w:World}{A:Around}{E:Value→Shared→Prop}{s:Shared}{K:PySem.W.Frag}{x dx C f:Addr}{mA:Str→Option Value}{name:Str}{v:Value}
theorem zpO {expr:Bool}{Q:Value→Shared→Prop}(X:K.In s.heap)(I:zdt s.heap x dx C mA)(hg:PySem.W.plainGet K C name=true)(hh:PySem.W.hasDictIn K C=true)
  (ha:PySem.W.findIn K (.ref C) name=some none)(hv:mA name=some v)(hv':PySem.W.handedIn v=true)(h:Q v { s with toks:=s.toks+1 }):
  wpAny (model prog w) A (getAttr (.ref x) name expr) Q E s:=by
 obtain⟨od,J,hl⟩:=I.look
 exact PySem.W.get_value X J (PySem.W.plainGet_of hg).1 (PySem.W.findObj_own hh ha rfl (by rw[hl,hv])) hv' h
theorem ztF {pl:Sem Bool}{Q:Value×List Value→Shared→Prop}(X:K.In s.heap)(I:zdt s.heap x dx C mA)(hg:PySem.W.plainGet K C name=true)
  (hf:PySem.W.findIn K (.ref C) name=some (some (.ref f)))(ht:PySem.W.isFn K (.ref f)=true)(hv:mA name=none)(h:Q (.ref f,[.ref x]) s):
  wpAny (model prog w) A (getMethod (.ref x) name pl) Q E s:=by
 obtain⟨od,J,hl⟩:=I.look
 exact PySem.W.method_fn X J (PySem.W.plainGet_of hg).1 (PySem.W.plainGet_of hg).2 hf (beq_iff_eq.mp ht) (by show (PySem.W.lookIn name od).map (·.isSome)=some false; rw[hl,hv]; rfl) h
theorem zp1 {ns:List Str}{Q:Unit→Shared→Prop}(X:K.In s.heap)(I:zdt s.heap x dx C mA)
  (hs:PySem.W.findIn K (.ref C) "__setattr__"=some (some (.builtin "object.__setattr__")))(hp:PySem.W.plainOver K C=true)(ht:PySem.W.takerIn K C name=some none)(hh:PySem.W.hasDictIn K C=true)
  (hw:PySem.Within mA ns)(hsz:ns.length≤sizeLine)
  (h:∀h',zdt h' x dx C (λy=>if y=name then some v else mA y)→Heap.SameBut dx s.heap h'→Q () { s with heap:=h',toks:=s.toks+2 }):
  wpAny (model prog w) A (setAttr (.ref x) name v) Q E s:=by
 obtain⟨od,J,hl⟩:=I.look
 refine PySem.W.set_plain X J hs (PySem.W.osa_open (s:={ s with toks:=s.toks+1 }) (r:=none) X J hp ht λb=>?_)
 obtain⟨cd,hc,hd'⟩:=PySem.W.any_some hh
 have hx:s.heap.get? x=some ⟨.ref C,some dx,.plain,#[]⟩:=I.obj
 refine wpAny_bind (wpAny_pure (wpAny_bind (wpAny_bind (wpAny_loadPart hx (wpAny_bind (PySem.W.Looks.here (s:={ s with toks:=s.toks+1 }) (PySem.W.looks_clsIn X hc) ?_))))))
 rw[hd']
 refine wpAny_pure (a:=some dx) (wpAny_bind (wpAny_pure (wpAny_bind ?_)))
 refine wpAny_nsSet1 (s:={ s with toks:=s.toks+1 }) I.ns λh' hn2 hs2=>?_
 obtain⟨oD,esD,epD,hoD,hdD,hcD⟩:=hn2.count (PySem.Within.cons name v hw)
 refine wpAny_bind (wpAny_lookBehind hoD (by rw[hdD]; exact pastItsLine_dict (Vaz hcD (by rw[Vap]; omega))) ?_)
 exact wpAny_pure (h _ ⟨(hs2.2 _ (Ne.symm I.ne)).trans I.obj,hn2,I.ne⟩ hs2)
theorem zpU {R:Result→Shared→Prop}{vs:List Value}{kw:List (Str×Value)}(X:K.In s.heap)(hm:PySem.W.makesIn K C=true)
  (hi:PySem.W.findIn K (.ref C) "__init__"=some (some (.ref f)))(hf:PySem.W.typeIn K (.ref f)=some (.type "function"))
  (h:codeAny (model prog w) (A.under (.builtin "type.__call__" ⟨.ref C::vs,kw⟩)) (.call (.ref f) ⟨.ref (s.heap.objs.size+1)::vs,kw⟩) (PySem.W.InitBack (s.heap.objs.size+1) R)
   { s with heap:=(s.heap.push PySem.W.emptyDict).push (PySem.W.instObj C s.heap.objs.size) }):
  codeAny (model prog w) A (.call (.ref C) ⟨vs,kw⟩) R s:=by
 obtain⟨hh,g,d,t,os⟩:=s
 exact PySem.W.make_core (PySem.W.makes_of X hm) (PySem.W.looks_findIn X hi) (λself=>PySem.W.bind_fn X self hf) (.inl rfl) h
end
def zbp (f:Str)(v:V):List (Str×V)→List (Str×V)
 | []=>[(f,v)]
 | (g,x)::r=>if g=f then (g,v)::r else (g,x)::zbp f v r
theorem znR (f g:Str)(v:V):∀fs:List (Str×V),(zbp f v fs).lookup g=if g=f then some v else fs.lookup g
 | []=>by
  show List.lookup g [(f,v)]=_
  by_cases h:g=f
  ·have hb:(g==f)=true:=beq_iff_eq.mpr h
   simp only[List.lookup,hb,if_pos h]
  ·have hb:(g==f)=false:=beq_eq_false_iff_ne.mpr h
   simp only[List.lookup,hb,if_neg h]
 | (k,x)::r=>by
  have ih:=znR f g v r
  rw[show zbp f v ((k,x)::r)=(if k=f then (k,v)::r else (k,x)::zbp f v r) from rfl]
  by_cases hk:k=f
  ·rw[if_pos hk]
   by_cases h:g=k
   ·have hb:(g==k)=true:=beq_iff_eq.mpr h
    simp only[List.lookup,hb,if_pos (h.trans hk)]
   ·have hb:(g==k)=false:=beq_eq_false_iff_ne.mpr h
    simp only[List.lookup,hb,if_neg (λe:g=f=>h (e.trans hk.symm))]
  ·rw[if_neg hk]
   by_cases h:g=k
   ·have hb:(g==k)=true:=beq_iff_eq.mpr h
    simp only[List.lookup,hb,if_neg (λe:g=f=>hk (h.symm.trans e))]
   ·have hb:(g==k)=false:=beq_eq_false_iff_ne.mpr h
    simp only[List.lookup,hb]
    exact ih
theorem zlG (f:Str)(v:V):∀fs:List (Str×V),f∈(zbp f v fs).map (·.1)∧∀g,g∈fs.map (·.1)→g∈(zbp f v fs).map (·.1)
 | []=>⟨by simp[zbp],λg h=>by simp at h⟩
 | (k,x)::r=>by
  obtain⟨i1,i2⟩:=zlG f v r
  rw[show zbp f v ((k,x)::r)=(if k=f then (k,v)::r else (k,x)::zbp f v r) from rfl]
  by_cases hk:k=f
  ·rw[if_pos hk]
   subst hk
   exact⟨by simp,λg h=>by simpa using h⟩
  ·rw[if_neg hk]
   refine⟨?_,λg h=>?_⟩
   ·rw[Var]
    exact VaG _ i1
   ·rw[Var] at h ⊢
    rcases Vaf.mp h with e | e
    ·exact Vaf.mpr (.inl e)
    ·exact VaG _ (i2 g e)
theorem zog (f:Str)(v:V):∀fs:List (Str×V),(zbp f v fs).length≤fs.length+1
 | []=>by simp[zbp]
 | (k,x)::r=>by
  have ih:=zog f v r
  rw[show zbp f v ((k,x)::r)=(if k=f then (k,v)::r else (k,x)::zbp f v r) from rfl]
  by_cases hk:k=f
  ·rw[if_pos hk,Vap,Vap]; omega
  ·rw[if_neg hk,Vap,Vap]; omega
theorem zbz.some_of {v:V}{o:Option Value}(r:zbz (some v) o):∃u,o=some u∧zan v u:=by
 cases o with
 | none=>exact(show False from r).elim
 | some u=>exact⟨u,rfl,r⟩
theorem zbz.none_of {o:Option Value}(r:zbz none o):o=none:=by
 cases o with
 | none=>rfl
 | some u=>exact(show False from r).elim
theorem ztC {v:V}{u:Value}(r:zan v u):PySem.W.handedIn u=true:=by
 cases v with
 | non=>cases (show u=Value.none from r); rfl
 | bl b=>cases (show u=Value.bool b from r); rfl
 | int i=>obtain⟨t,e⟩:=(show ∃t,u=Value.int i t from r); cases e; rfl
 | str x=>obtain⟨t,e⟩:=(show ∃t,u=Value.str x t from r); cases e; rfl
 | byt b=>obtain⟨t,e⟩:=(show ∃t,u=Value.bytes b t from r); cases e; rfl
 | flt b=>obtain⟨t,e⟩:=(show ∃t,u=Value.float b t from r); cases e; rfl
 | ref a=>cases (show u=Value.ref a from r); rfl
 | ty n=>cases (show u=Value.type n from r); rfl
section
variable {P:Program}{w:World}{H H':Hp}{h h':Heap}{a C dx:Addr}{fs fs':List (Str×V)}
theorem zjv (hok:HOk P w H h)(e:H a=some (.ins C dx fs)):∃mA,zdt h a dx C mA∧(∀f,zbz (fs.lookup f) (mA f))∧PySem.Within mA (fs.map (·.1))∧fs.length≤1000∧H dx=some (.own a):=by
 obtain⟨d,z,ne,ob,mA,n,r,q⟩:=(show zbm P w H h a (.ins C dx fs) from hok a _ e)
 exact⟨mA,⟨ob,n,ne⟩,r,q,z,d⟩
end
structure Cls (K:PySem.W.Frag)(C:Addr):Prop where
 pg:PySem.W.plainGet K C Str.empty=true
 hd:PySem.W.hasDictIn K C=true
 po:PySem.W.plainOver K C=true
 sa:PySem.W.findIn K (.ref C) "__setattr__"=some (some (.builtin "object.__setattr__"))
theorem Cls.get {K:PySem.W.Frag}{C:Addr}(c:Cls K C)(f:Str):PySem.W.plainGet K C f=true:=c.pg
def zbs (K:PySem.W.Frag)(C:Addr)(f:Str):Prop:=PySem.W.findIn K (.ref C) f=some none
theorem zbs.taker {K:PySem.W.Frag}{C:Addr}{f:Str}(n:zbs K C f):PySem.W.takerIn K C f=some none:=by
 unfold PySem.W.takerIn
 rw[show PySem.W.findIn K (.ref C) f=some none from n]
 rfl
structure Con (K:PySem.W.Frag)(C:Addr)(f:Str)(v:V)(u:Value):Prop where
 at_:PySem.W.findIn K (.ref C) f=some (some u)
 rel:zan v u
 get:PySem.W.specialIn K u "__get__"=some none
 cp:PySem.W.copiedNames.contains f=false
structure zhp (K:PySem.W.Frag)(C:Addr)(m:Str)(f:Addr):Prop where
 at_:PySem.W.findIn K (.ref C) m=some (some (.ref f))
 fn:PySem.W.isFn K (.ref f)=true
 kp:PySem.W.keepIn K (.ref f)=true
section
variable {X:Cx}{pins:List (Addr×Obj)}{σ:St}{H:Hp}{s:Shared}{a C dx:Addr}{fs:List (Str×V)}{f:Str}{v:V}{A:Around}{E:Value→Shared→Prop}
theorem zri {b:Bool}{Q:Value→Shared→Prop}(I:Inv X pins σ H s)(e:H a=some (.ins C dx fs))(c:Cls X.K C)(n:zbs X.K C f)(l:fs.lookup f=some v)
  (h:∀u s',Inv X pins σ H s'→zan v u→Q u s'):wpAny (model X.prog X.w) A (getAttr (.ref a) f b) Q E s:=by
 obtain⟨mA,O,r,_,_,_⟩:=zjv I.hok e
 obtain⟨u,hu,ru⟩:=zbz.some_of (v:=v) (o:=mA f) (by rw[← l]; exact r f)
 exact zpO I.kIn O (c.get f) c.hd n hu (ztC ru) (h u _ (I.tok _) ru)
theorem zvk {m:Str}{g:Addr}{pl:Sem Bool}{Q:Value×List Value→Shared→Prop}(I:Inv X pins σ H s)(e:H a=some (.ins C dx fs))(c:Cls X.K C)(k:zhp X.K C m g)(l:fs.lookup m=none)
  (h:Q (.ref g,[.ref a]) s):wpAny (model X.prog X.w) A (getMethod (.ref a) m pl) Q E s:=by
 obtain⟨mA,O,r,_,_,_⟩:=zjv I.hok e
 have hn:mA m=none:=zbz.none_of (by rw[← l]; exact r m)
 exact ztF I.kIn O (c.get m) k.at_ k.fn hn h
theorem zqw {y:V}{u:Value}{Q:Unit→Shared→Prop}(I:Inv X pins σ H s)(e:H a=some (.ins C dx fs))(c:Cls X.K C)(n:zbs X.K C f)(hl:fs.length<1000)(ry:zan y u)
  (h:∀s',Inv X pins σ (upd H a (.ins C dx (zbp f y fs))) s'→Q () s'):wpAny (model X.prog X.w) A (setAttr (.ref a) f u) Q E s:=by
 obtain⟨mA,O,r,wi,_,ho⟩:=zjv I.hok e
 have hz:(fs.map (·.1)).length≤sizeLine:=by rw[Vac,sizeLine_eq]; omega
 refine zp1 I.kIn O c.sa c.po n.taker c.hd wi hz λh' O' sb=>h _ ?_
 have hd:∃o,h'.get? dx=some o:=let ⟨o,_,_,e',_⟩:=O'.ns; ⟨o,e'⟩
 refine I.write (x:=a) (e:=dx) (by rw[e]; exact True.intro) (.inr ho) (λb q hb z=>(sb.2 b hb).trans z) hd ?_
 refine⟨by rw[za4 O.ne]; exact ho,?_,O.ne,O'.obj,_,O'.ns,λg=>?_,λg hg=>?_⟩
 ·have:=zog f y fs; omega
 ·show zbz ((zbp f y fs).lookup g) (if g=f then some u else mA g)
  rw[znR]
  by_cases q:g=f
  ·rw[if_pos q,if_pos q]; exact ry
  ·rw[if_neg q,if_neg q]; exact r g
 ·by_cases q:g=f
  ·rw[q]; exact(zlG f y fs).1
  ·refine(zlG f y fs).2 g (wi g λz=>hg ?_)
   show (if g=f then some u else mA g)=none
   rw[if_neg q]; exact z
theorem Inv.made (I:Inv X pins σ H s):Inv X pins σ (upd (upd H s.heap.objs.size (.own (s.heap.objs.size+1))) (s.heap.objs.size+1) (.ins C s.heap.objs.size []))
  { s with heap:=(s.heap.push PySem.W.emptyDict).push (PySem.W.instObj C s.heap.objs.size) }:=by
 have e1:(s.heap.push PySem.W.emptyDict).get? s.heap.objs.size=some PySem.W.emptyDict:=Heap.get?_push_size s.heap rfl
 have e2:((s.heap.push PySem.W.emptyDict).push (PySem.W.instObj C s.heap.objs.size)).get? (s.heap.objs.size+1)=some (PySem.W.instObj C s.heap.objs.size):=by
  have:=Heap.get?_push_size (s.heap.push PySem.W.emptyDict) (o:=PySem.W.instObj C s.heap.objs.size) rfl
  rwa [Heap.size_push] at this
 have e3:(s.heap.push PySem.W.emptyDict).Ns s.heap.objs.size (λ_=>none):=⟨PySem.W.emptyDict,#[],_,e1,rfl,(λe he=>absurd he (by simp)),λ_=>rfl⟩
 have I1:=I.laid (a:=s.heap.objs.size) (o:=.own (s.heap.objs.size+1)) (h':=s.heap.push PySem.W.emptyDict) (t':=s.toks) (λb u q=>Heap.get?_push_of_some _ q) (Vaa _) ⟨_,e1⟩
 refine I1.laid (a:=s.heap.objs.size+1) (o:=.ins C s.heap.objs.size []) (t':=s.toks) (λb u q=>Heap.get?_push_of_some _ q) (Nat.le_of_eq (Heap.size_push _ _)) ?_
 have ne:s.heap.objs.size≠s.heap.objs.size+1:=Van (Nat.lt_succ_self _)
 refine⟨by rw[za4 ne,zb5],VaA _,ne,e2,λ_=>none,(Heap.Ns1.of_empty e3).at λo q=>Heap.get?_push_of_some _ q,λ_=>True.intro,λy hy=>absurd rfl hy⟩
theorem zt6 {prog:Program}{w:World}{env:Env}{e:Expr}{f:Str}{pos:Pos}{s:Shared}{Q:Value→Shared→Prop}(hb:attributeBase e f env (eval e env)=eval e env)
  (h:wpAny (model prog w) A (eval e env) (λo s₁=>wpAny (model prog w) A (getAttr o f true) Q E s₁) E s):wpAny (model prog w) A (eval (.Attribute e f pos) env) Q E s:=
 Attribute_any_ h (by rw[arm_eval_Attribute,hb])
end
def tFld (K:PySem.W.Frag)(ta:TE)(f:Str):TE:=λσ H Q=>ta σ H λx H1=>∃a C dx fs v,x=.ref a∧H1 a=some (.ins C dx fs)∧Cls K C∧zbs K C f∧fs.lookup f=some v∧Q v H1
def sFld (K:PySem.W.Frag)(ta tv:TE)(f:Str):TS:=λD σ H=>tv σ H λy H1=>ta σ H1 λx H2=>∃a C dx fs,x=.ref a∧H2 a=some (.ins C dx fs)∧Cls K C∧zbs K C f∧fs.length<1000∧
 D.nx σ (upd H2 a (.ins C dx (zbp f y fs)))
section
variable {X:Cx}{o e value:Expr}{f:Str}{pos pos' tpos:Pos}{ta tv:TE}
theorem ztl (he:PE X e ta)(hb:attributeBase e f X.env (eval e X.env)=eval e X.env):PE X (.Attribute e f pos) (tFld X.K ta f):=by
 intro pins s σ H Q I h
 refine zt6 hb (thn (he pins s σ H _ I h) λu s1 ⟨x,H1,I1,rx,a,C,dx,fs,v,ex,ea,c,n,l,q⟩=>?_)
 subst ex
 obtain rfl:u=Value.ref a:=rx
 exact zri I1 ea c n l λu' s2 I2 ru=>⟨v,H1,I2,ru,q⟩
theorem zqv (ha:PE X o ta)(hv:PE X value tv)(hs:swapsWith value (some (.Attribute o f pos')) pos.line X.env=pure false):PS X (.Assign [.Attribute o f pos'] value pos) (sFld X.K ta tv f):=by
 intro pins s σ H D I h
 refine plainObj_wpAny_Assign_Attribute (thn (hv pins s σ H _ I h) λu s1 ⟨y,H1,I1,ry,q⟩=>thn (ha pins s1 σ H1 _ I1 q) λov s2 ⟨x,H2,I2,rx,a,C,dx,fs,ex,ea,c,n,l,q2⟩=>?_) hs
 subst ex
 obtain rfl:ov=Value.ref a:=rx
 exact zqw I2 ea c n l ry λs3 I3=>⟨σ,_,I3,q2⟩
end
section
variable {X:Cx}{pins:List (Addr×Obj)}{σ:St}{H:Hp}{s:Shared}{A:Around}{E:Value→Shared→Prop}{Q:Value→Shared→Prop}{c:Value}{b:Bool}
inductive zbT (K:PySem.W.Frag)(H:Hp):V→Value→Prop where
 | non:zbT K H .non (.type "NoneType")
 | bl (x:Bool):zbT K H (.bl x) (.type "bool")
 | int (i:Int):zbT K H (.int i) (.type "int")
 | str (x:Str):zbT K H (.str x) (.type "str")
 | flt (x:UInt64):zbT K H (.flt x) (.type "float")
 | lst {a:Addr} {xs:List V} (e:H a=some (.lst xs)):zbT K H (.ref a) (.type "list")
 | frz {a:Addr} {o:Obj} {xs:List V} (e:H a=some (.frz o (.lst xs))):zbT K H (.ref a) (.type "list")
 | tup {a:Addr} {xs:List V} (e:H a=some (.tup xs)):zbT K H (.ref a) (.type "tuple")
 | dK {a:Addr} {kvs:List (Key×V)} (e:H a=some (.dK kvs)):zbT K H (.ref a) (.type "dict")
 | dT {a:Addr} {kvs:List (List Key×V)} (e:H a=some (.dT kvs)):zbT K H (.ref a) (.type "dict")
 | ins {a C dx:Addr} {fs:List (Str×V)} (e:H a=some (.ins C dx fs)) (cl:Cls K C) (ha:PySem.W.findIn K (.ref C) "__class__"=some (some (.builtin "object.__class__")))
   (hn:PySem.W.specialIn K (.builtin "object.__class__") "__get__"=some (some (.builtin "getset_descriptor.__get__"))) (htk:PySem.W.takesIn K (.builtin "object.__class__")=some true)
   (hm:PySem.W.mroIn K C (.type "object")=some true):zbT K H (.ref a) (.ref C)
theorem zrh {x:V}{u t:Value}(I:Inv X pins σ H s)(rx:zan x u)(ty:zbT X.K H x t)(e:PySem.W.kitOne X.K t c=some b)(h:∀tk,Q (.bool b) { s with toks:=tk }):
  wpAny (model X.prog X.w) A (call (.builtin "isinstance") [u,c]) Q E s:=by
 cases ty with
 | non=>cases (show u=Value.none from rx); exact PySem.W.kia_one PySem.W.kitx_none I.kIn True.intro e (λz=>nomatch z) h
 | bl y=>cases (show u=Value.bool y from rx); exact PySem.W.kia_one PySem.W.kitx_bool I.kIn True.intro e (λz=>nomatch z) h
 | int i=>obtain⟨t,q⟩:=(show ∃t,u=Value.int i t from rx); cases q; exact PySem.W.kia_one PySem.W.kitx_int I.kIn True.intro e (λz=>nomatch z) h
 | str y=>obtain⟨t,q⟩:=(show ∃t,u=Value.str y t from rx); cases q; exact PySem.W.kia_one PySem.W.kitx_str I.kIn True.intro e (λz=>nomatch z) h
 | flt y=>obtain⟨t,q⟩:=(show ∃t,u=Value.float y t from rx); cases q; exact PySem.W.kia_one PySem.W.kitx_float I.kIn True.intro e (λz=>nomatch z) h
 | @lst a xs ea=>
  cases (show u=Value.ref a from rx)
  obtain⟨_,_,n,_,h1⟩:=(show zbm X.prog X.w H s.heap a (.lst xs) from I.hok a _ ea)
  exact PySem.W.kia_one PySem.W.kitx_list I.kIn ⟨_,h1,rfl⟩ e (λz=>nomatch z) h
 | @frz a ob xs ea=>
  cases (show u=Value.ref a from rx)
  obtain⟨_,_,_,n,_,h1⟩:=(show zbm X.prog X.w H s.heap a (.frz ob (.lst xs)) from I.hok a _ ea)
  exact PySem.W.kia_one PySem.W.kitx_list I.kIn ⟨_,h1,rfl⟩ e (λz=>nomatch z) h
 | @tup a xs ea=>
  cases (show u=Value.ref a from rx)
  obtain⟨_,_,_,p⟩:=(show zbm X.prog X.w H s.heap a (.tup xs) from I.hok a _ ea)
  obtain⟨o,h1,h2,_⟩:=p
  exact PySem.W.kia_one PySem.W.kitx_tuple I.kIn ⟨o,h1,h2⟩ e (λz=>nomatch z) h
 | @dK a kvs ea=>
  cases (show u=Value.ref a from rx)
  obtain⟨_,_,vs,_,p⟩:=(show zbm X.prog X.w H s.heap a (.dK kvs) from I.hok a _ ea)
  obtain⟨o,es,ep,h1,h2,_⟩:=p
  exact PySem.W.kia_one PySem.W.kitx_dict I.kIn ⟨o,h1,h2.1⟩ e (λz=>nomatch z) h
 | @dT a kvs ea=>
  cases (show u=Value.ref a from rx)
  obtain⟨_,_,xs,_,o,es,ep,h1,h2,_⟩:=(show zbm X.prog X.w H s.heap a (.dT kvs) from I.hok a _ ea)
  exact PySem.W.kia_one PySem.W.kitx_dict I.kIn ⟨o,h1,h2.1⟩ e (λz=>nomatch z) h
 | @ins a C dx fs ea cl ha hn htk hm=>
  cases (show u=Value.ref a from rx)
  obtain⟨mA,O,_⟩:=zjv I.hok ea
  obtain⟨od,J,_⟩:=O.look
  exact PySem.W.kia_one (PySem.W.kitx_own (cl.get _) cl.hd ha hn htk hm) I.kIn J e (λz=>nomatch z) h
end
end L2
namespace L2
open PySem PySem.Spec PyProof.Rows
structure zaQ (k:Nat)(A:Around):Prop where
 hd:A.handled=none
 dp:A.depth+3*k+5<recursionLimit
 un:A.units+16*k+200<cLine
theorem zaQ.mono {j k:Nat}{A:Around}(r:zaQ k A)(h:j≤k):zaQ j A:=⟨r.hd,by have:=r.dp; omega,by have:=r.un; omega⟩
theorem zaQ.deeper {k:Nat}{A:Around}(r:zaQ (k+1) A)(env:Env):zaQ k (A.deeper env):=
 ⟨r.hd,by have:=r.dp; show A.depth+1+3*k+5<_; omega,by have:=r.un; show A.units+3+16*k+200<_; omega⟩
theorem zaQ.in1 {k:Nat}{A:Around}(r:zaQ (k+1) A):zaQ k A.in1:=
 ⟨r.hd,by have:=r.dp; show A.depth+3*k+5<_; omega,by have:=r.un; show A.units+1+16*k+200<_; omega⟩
theorem zsx {A:Around}{C:Addr}{us:List Value}{kw:List (Str×Value)}:(A.under (.builtin "type.__call__" ⟨.ref C::us,kw⟩)).depth=A.depth+1:=by
 first | rfl | simp[Around.under,Code.weight,Code.isCreation,Code.isGuard,Code.isCaller,Code.frames,Code.isFrame,guardIds]
theorem zut {A:Around}{C:Addr}{us:List Value}{kw:List (Str×Value)}:(A.under (.builtin "type.__call__" ⟨.ref C::us,kw⟩)).units=A.units+1:=by
 first | rfl | simp[Around.under,Code.cUnits,Code.frames,Code.isFrame]
theorem zaQ.make {k:Nat}{A:Around}(r:zaQ (k+1) A)(C:Addr)(us:List Value)(kw:List (Str×Value)):zaQ k (A.under (.builtin "type.__call__" ⟨.ref C::us,kw⟩)):=
 ⟨r.hd,by have:=r.dp; rw[zsx]; omega,by have:=r.un; rw[zut]; omega⟩
theorem zaQ.depth {k:Nat}{A:Around}(r:zaQ k A):A.depth<recursionLimit:=by have:=r.dp; omega
theorem zaQ.units {k:Nat}{A:Around}(r:zaQ k A):A.units+64<cLine:=by have:=r.un; omega
def tNil:TA:=λ_ H Q=>Q [] H
def tCons (ta:TE)(tr:TA):TA:=λσ H Q=>ta σ H λx H1=>tr σ H1 λxs H2=>Q (x::xs) H2
section
variable {X:Cx}{e:Expr}{es:List Expr}{te:TE}{t:TA}{pos:Pos}
theorem zk3:PA X [] tNil:=λ_ _ _ _ H Q I h=>Calls.spliced_nil ⟨[],H,I,.nil,h⟩
theorem zgU (ha:PE X e te)(hr:PA X es t)(hs:starEach (e::es) X.env=(false,eval e X.env)::starEach es X.env:=by rfl):PA X (e::es) (tCons te t):=by
 intro pos pins s σ H Q I h
 rw[hs]
 show wpAny _ _ (spliced ((false,eval e X.env)::backTo pos (starEach es X.env))) _ _ s
 refine Calls.spliced_cons (thn (ha pins s σ H _ I h) λu s1 ⟨x,H1,I1,r1,q1⟩=>?_)
 exact thn (hr pos pins s1 σ H1 _ I1 q1) λus s2 ⟨xs,H2,I2,r2,q2⟩=>⟨x::xs,H2,I2,.cons r1 r2,q2⟩
def tTup (t:TA):TE:=λσ H Q=>t σ H λxs H1=>xs.length≤sizeLine∧∀p,H1 p=none→Q (.ref p) (upd H1 p (.tup xs))
def tLst (t:TA):TE:=λσ H Q=>t σ H λxs H1=>xs.length≤sizeLine∧∀p,H1 p=none→Q (.ref p) (upd H1 p (.lst xs))
theorem zt5 {x1}(h:PA X es t):PE X (.Tuple es x1 pos) (tTup t):=by
 intro pins s σ H Q I hq
 refine wpAny_Tuple_spliced (thn (h pos pins s σ H _ I hq) λus s1 ⟨xs,H1,I1,r,z,q⟩=>⟨by rw[← r.length]; exact z,?_⟩)
 have hf:H1 s1.heap.objs.size=none:=I1.hok.fresh (Vaa _)
 refine⟨.ref s1.heap.objs.size,upd H1 s1.heap.objs.size (.tup xs),I1.laid (t':=s1.toks) (λb u e=>Heap.get?_push_of_some _ e) (Vaa _) ?_,rfl,q _ hf⟩
 exact⟨z,us,r,⟨_,Heap.get?_push_size _ rfl,rfl,_,rfl⟩⟩
theorem zq9 (h:PA X es t):PE X (.List es pos) (tLst t):=by
 intro pins s σ H Q I hq
 refine wpAny_List_spliced (thn (h pos pins s σ H _ I hq) λus s1 ⟨xs,H1,I1,r,z,q⟩=>⟨by rw[← r.length]; exact z,?_⟩)
 have hf:H1 s1.heap.objs.size=none:=I1.hok.fresh (Vaa _)
 refine⟨.ref s1.heap.objs.size,upd H1 s1.heap.objs.size (.lst xs),I1.laid (t':=s1.toks) (λb u e=>Heap.get?_push_of_some _ e) (Vaa _) ?_,rfl,q _ hf⟩
 exact⟨z,us,0,r,Heap.get?_push_size _ rfl⟩
end
abbrev Sp:=List V→Hp→VK→XK→Prop
abbrev CXT:=List Env→Hp→Shared→XK→Value→Shared→Prop
structure zcr (P:Program)(w:World)(K:PySem.W.Frag)(mg:Str→Option Value)(base:Heap)(A:Around)(outer:List Env)(s:Shared)(H:Hp):Prop where
 frames:A.frames=some outer
 mod:Mod K mg base
 bs:∀b o,base.get? b=some o→s.heap.get? b=some o∧H b=none
 bsz:base.objs.size≤s.heap.objs.size
 funs:s.heap.FunFrames base outer
 frf:∀b∈frs outer,H b=none
 hok:HOk P w H s.heap
 bare:AllBare s.gens
def CE (outer:List Env)(P:Program)(w:World)(H:Hp)(s:Shared)(Q:VK)(u:Value)(s':Shared):Prop:=
 ∃v H',s'.os=s.os∧AllBare s'.gens∧Un (frs outer) [] H H' s.heap s'.heap∧HOk P w H' s'.heap∧zan v u∧Q v H'
def CR (CX:CXT)(outer:List Env)(P:Program)(w:World)(H:Hp)(s:Shared)(Q:VK)(E:XK)(r:Result)(s':Shared):Prop:=
 match r with
 | .ok (.ret u)=>CE outer P w H s Q u s'
 | .ok _=>False
 | .error e=>CX outer H s E e s'
structure zbb (P:Program)(w:World)(K:PySem.W.Frag)(mg:Str→Option Value)(base:Heap)(CX:CXT)(k:Nat)(f:Addr)(fd:FuncData)(ps:List Str)(sp:Sp):Prop where
 len:∀vs H Q E,sp vs H Q E→vs.length=ps.length
 run:∀(A:Around) (outer:List Env) (s:Shared) (H:Hp) (args:Args) (us:List Value) (vs:List V) (Q:VK) (E:XK),zaQ k A→zcr P w K mg base A outer s H→BindsTo s fd args (ps.zip us)→zao vs us→sp vs H Q E→
  codeAny (model P w) A (.call (.ref f) args) (CR CX outer P w H s Q E) s
theorem zbb.mono {P:Program}{w:World}{K:PySem.W.Frag}{mg:Str→Option Value}{base:Heap}{CX:CXT}{j k:Nat}{f:Addr}{fd:FuncData}{ps:List Str}{sp:Sp}(F:zbb P w K mg base CX j f fd ps sp)(h:j≤k):
  zbb P w K mg base CX k f fd ps sp:=⟨F.len,λA outer s H args us vs Q E hr=>F.run A outer s H args us vs Q E (hr.mono h)⟩
theorem zbb.imp {P:Program}{w:World}{K:PySem.W.Frag}{mg:Str→Option Value}{base:Heap}{CX:CXT}{k:Nat}{f:Addr}{fd:FuncData}{ps:List Str}{sp sp':Sp}(F:zbb P w K mg base CX k f fd ps sp)
  (h:∀vs H Q E,sp' vs H Q E→sp vs H Q E):zbb P w K mg base CX k f fd ps sp':=
 ⟨λvs H Q E q=>F.len vs H Q E (h _ _ _ _ q),λA outer s H args us vs Q E hr he hb hv hs=>F.run A outer s H args us vs Q E hr he hb hv (h _ _ _ _ hs)⟩
theorem zcr.make {P:Program}{w:World}{K:PySem.W.Frag}{mg:Str→Option Value}{base:Heap}{A:Around}{outer:List Env}{s:Shared}{H:Hp}(e:zcr P w K mg base A outer s H)(C:Addr)(us:List Value)(kw:List (Str×Value)):
  zcr P w K mg base (A.under (.builtin "type.__call__" ⟨.ref C::us,kw⟩)) outer s H:=⟨by first | exact e.frames | (simpa [Around.under,Code.envs,Code.isFrame,pushEnvs] using e.frames),e.mod,e.bs,e.bsz,e.funs,e.frf,e.hok,e.bare⟩
theorem zcr.in1 {P:Program}{w:World}{K:PySem.W.Frag}{mg:Str→Option Value}{base:Heap}{A:Around}{outer:List Env}{s:Shared}{H:Hp}(e:zcr P w K mg base A outer s H):
  zcr P w K mg base A.in1 outer s H:=⟨e.frames,e.mod,e.bs,e.bsz,e.funs,e.frf,e.hok,e.bare⟩
section
variable {X:Cx}{pins:List (Addr×Obj)}{σ:St}{H:Hp}{s s':Shared}
theorem Inv.env0 (I:Inv X pins σ H s):zcr X.prog X.w X.K X.mg X.base X.A X.stack s H:=
 ⟨I.ok.frames,I.ok.mod,I.bs,Vaz I.ok.bsz I.sz,I.stack,I.stkFree,I.hok,I.bare⟩
theorem Inv.after {Q:VK}{u:Value}(I:Inv X pins σ H s)(h:CE X.stack X.prog X.w H s Q u s'):EP X pins σ Q u s':=by
 obtain⟨v,H',os,bare,un,hok,r,q⟩:=h
 obtain⟨hh,g,d,t,os'⟩:=s'
 obtain rfl:os'=s.os:=os
 exact⟨v,H',I.call (h':=hh) (g':=g) (d':=d) (t':=t) (ch:=[]) un hok bare (λb z=>absurd z (by simp)),r,q⟩
end
def tMake (C:Addr)(sp:Sp)(dvs:List V)(E:XK)(t:TA):TE:=λσ H Q=>t σ H λvs H1=>∀x dx,H1 x=none→H1 dx=none→dx≠x→
 sp (.ref x::(vs++dvs)) (upd (upd H1 dx (.own x)) x (.ins C dx [])) (λv H2=>v=.non∧Q (.ref x) H2) E
def zbD (K:PySem.W.Frag)(fd:FuncData)(ps:List Str)(ds:List Value):Prop:=
 ∀(s:Shared) (us:List Value),K.In s.heap→(us++ds).length=ps.length→BindsTo s fd ⟨us,[]⟩ (ps.zip (us++ds))
theorem zbD.all {K:PySem.W.Frag}{fd:FuncData}{ps:List Str}(h:∀us:List Value,us.length=ps.length→bindArgs fd ⟨us,[]⟩=pure (ps.zip us)):zbD K fd ps []:=λs us _ hl=>by
 rw[Vai] at hl ⊢
 exact .of_eq (h us hl)
def ziT (CX:CXT)(X:Cx)(E:XK):Prop:=∀(pins:List (Addr×Obj)) (σ:St) (H:Hp) (s:Shared) (e:Value) (s':Shared),Inv X pins σ H s→CX X.stack H s E e s'→X.xe e s'
section
variable {X:Cx}{CX:CXT}{k:Nat}{f C:Addr}{fd:FuncData}{ps:List Str}{sp:Sp}{dvs:List V}{ds:List Value}{E:XK}{x m:Str}{p pos apos:Pos}{e o:Expr}{es:List Expr}{ta:TE}{t:TA}
structure Mk (K:PySem.W.Frag)(C f:Addr):Prop where
 makes:PySem.W.makesIn K C=true
 init:PySem.W.findIn K (.ref C) "__init__"=some (some (.ref f))
 fn:PySem.W.isFn K (.ref f)=true
 kp:PySem.W.keepIn K (.ref C)=true
theorem zsz {pins:List (Addr×Obj)}{σ:St}{H:Hp}{s:Shared}{Q:VK}{us:List Value}{vs:List V}(M:Mk X.K C f)(F:zbb X.prog X.w X.K X.mg X.base CX k f fd ps sp)(hr:zaQ (k+1) X.A)(hb:zbD X.K fd ps ds)(hd:zao dvs ds)
  (hx:ziT CX X E)(I:Inv X pins σ H s)(r:zao vs us)
  (h:∀x dx,H x=none→H dx=none→dx≠x→sp (.ref x::(vs++dvs)) (upd (upd H dx (.own x)) x (.ins C dx [])) (λv H2=>v=.non∧Q (.ref x) H2) E):
  wpAny (model X.prog X.w) X.A (call (.ref C) us) (EP X pins σ Q) X.xe s:=by
 have hq:=h (s.heap.objs.size+1) s.heap.objs.size (I.hok.fresh (Nat.le_succ _)) (I.hok.fresh (Vaa _)) (Van (Nat.lt_succ_self _))
 have I2:=Inv.made (C:=C) I
 have r2:zao (V.ref (s.heap.objs.size+1)::(vs++dvs)) (Value.ref (s.heap.objs.size+1)::(us++ds)):=.cons rfl (r.append hd)
 have hl:(Value.ref (s.heap.objs.size+1)::us++ds).length=ps.length:=by
  have e:=r2.length
  rw[F.len _ _ _ _ hq] at e
  exact e.symm
 refine wpAny_call (zpU (f:=f) I.kIn M.makes M.init (beq_iff_eq.mp M.fn) (codeAny_mono (F.run _ X.stack _ _ ⟨Value.ref (s.heap.objs.size+1)::us,[]⟩ (Value.ref (s.heap.objs.size+1)::(us++ds)) _ _ E (hr.make C us [])
  (I2.env0.make C us []) (hb _ (Value.ref (s.heap.objs.size+1)::us) I2.kIn hl) r2 hq) λr s' hq'=>?_))
 cases r with
 | error e=>exact hx pins σ _ _ e s' I2 hq'
 | ok fl=>
  cases fl with
  | ret u=>
   obtain⟨v,H',I3,rv,ev,q3⟩:=I2.after hq'
   subst ev
   exact⟨rv,⟨V.ref (s.heap.objs.size+1),H',I3,rfl,q3⟩⟩
  | next=>exact False.elim hq'
  | brk=>exact False.elim hq'
  | cont=>exact False.elim hq'
theorem zrR (M:Mk X.K C f)(F:zbb X.prog X.w X.K X.mg X.base CX k f fd ps sp)(hr:zaQ (k+1) X.A)(hg:Gl X x)(hm:X.mg x=some (.ref C))(hb:zbD X.K fd ps ds)(hd:zao dvs ds)(hx:ziT CX X E)
  (ha:PA X (e::es) t)(hdb:(x==("__debug__":Str))=false:=by decide)(he:starEach (e::es) X.env=(false,eval e X.env)::starEach es X.env:=by rfl)(hpl:(backTo pos (starEach es X.env)).any (·.1)=false:=by rfl):
  PE X (.Call (.Name x p) (e::es) [] pos) (tMake C sp dvs E t):=by
 intro pins s σ H Q I h
 refine wpAny_Call_Name_kw (znF I hg hm ?_ hdb)
 refine PySem.W.callWith_K (h₀:=X.base) I.ok.mod.kin M.kp (thn (ha pos pins s σ H _ I h) λus s1 ⟨vs,H1,I1,r,q⟩=>⟨I1.kIn,?_⟩) he hpl
 exact zsz M F hr hb hd hx I1 r q
end
section
variable {X:Cx}{CX:CXT}{k:Nat}{f C:Addr}{fd:FuncData}{ps ks:List Str}{sp:Sp}{E:XK}{x m:Str}{p pos apos kpos:Pos}{e o:Expr}{es:List Expr}{kws:List Keyword}{te ta:TE}{t tk:TA}{nm:Option Str}
structure KBinds (K:PySem.W.Frag)(fd:FuncData)(ps ks:List Str)(g:List Value→List Value→List Value)(gV:List V→List V→List V):Prop where
 to:∀(s:Shared) (us ws:List Value),K.In s.heap→(g us ws).length=ps.length→BindsTo s fd ⟨us,ks.zip ws⟩ (ps.zip (g us ws))
 rel:∀ {vs:List V} {us:List Value} {zs:List V} {ws:List Value},zao vs us→zao zs ws→zao (gV vs zs) (g us ws)
variable {g:List Value→List Value→List Value}{gV:List V→List V→List V}
end
structure zaA (N P:List Str)(sc:Scope):Prop where
 kind:sc.kind=.function
 co:sc.isCoroutine=false
 gen:sc.isGenerator=false
 nd:N.Nodup
 pre:N.take P.length=P
 par:∀x∈P,sc.names.lookup x=some .local∨sc.names.lookup x=some .cell
 nofree:∀y∈sc.names,y.2≠.free
theorem znT {kindOf:Str→Option NameKind}{x:Str}:∀ {binds:List (Str×Value)} {m:Str→Option Value},(∀v,(x,v) ∉ binds)→bindL kindOf binds m x=m x
 | [],_,_=>rfl
 | (n,v)::r,m,h=>by
  unfold bindL
  rw[znT λw hw=>h w (VaG _ hw)]
  split
  ·have:x≠n:=by rintro rfl; exact h v VaT
   simp[this]
  ·rfl
theorem znK {kindOf:Str→Option NameKind}{x:Str}:∀ {binds:List (Str×Value)} {m:Str→Option Value},(∀v,(x,v) ∉ binds)→bindC kindOf binds m x=m x
 | [],_,_=>rfl
 | (n,v)::r,m,h=>by
  unfold bindC
  rw[znK λw hw=>h w (VaG _ hw)]
  split
  ·rfl
  ·have:x≠n:=by rintro rfl; exact h v VaT
   simp[this]
theorem zoH {kindOf:Str→Option NameKind}{x:Str}{v:Value}:∀ {P:List Str} {vs:List Value} {i:Nat} {m:Str→Option Value},P.Nodup→P[i]?=some x→vs[i]?=some v→kindOf x=some .local→
  bindL kindOf (P.zip vs) m x=some v
 | [],_,_,_,_,h,_,_=>by simp at h
 | _::_,[],_,_,_,_,h,_=>by simp at h
 | p::P,w::vs,0,m,nd,h1,h2,hk=>by
  simp at h1 h2; subst h1; subst h2
  show bindL kindOf ((p,w)::P.zip vs) m p=_
  unfold bindL
  rw[znT λv hv=>(List.nodup_cons.mp nd).1 (List.of_mem_zip hv).1,if_pos hk]
  simp
 | p::P,w::vs,i+1,m,nd,h1,h2,hk=>by
  show bindL kindOf ((p,w)::P.zip vs) m x=_
  unfold bindL
  exact zoH (i:=i) (List.nodup_cons.mp nd).2 (by simpa using h1) (by simpa using h2) hk
theorem zoZ {kindOf:Str→Option NameKind}{x:Str}{v:Value}:∀ {P:List Str} {vs:List Value} {i:Nat} {m:Str→Option Value},P.Nodup→P[i]?=some x→vs[i]?=some v→kindOf x≠some .local→
  bindC kindOf (P.zip vs) m x=some v
 | [],_,_,_,_,h,_,_=>by simp at h
 | _::_,[],_,_,_,_,h,_=>by simp at h
 | p::P,w::vs,0,m,nd,h1,h2,hk=>by
  simp at h1 h2; subst h1; subst h2
  show bindC kindOf ((p,w)::P.zip vs) m p=_
  unfold bindC
  rw[znK λv hv=>(List.nodup_cons.mp nd).1 (List.of_mem_zip hv).1,if_neg hk]
  simp
 | p::P,w::vs,i+1,m,nd,h1,h2,hk=>by
  show bindC kindOf ((p,w)::P.zip vs) m x=_
  unfold bindC
  exact zoZ (i:=i) (List.nodup_cons.mp nd).2 (by simpa using h1) (by simpa using h2) hk
def zcw (N:List Str)(vs:List V):St:=vs.map some++List.replicate (N.length-vs.length) none
def zdF (CX:CXT)(P:Program)(w:World)(K:PySem.W.Frag)(mg:Str→Option Value)(base:Heap)(N:List Str)(qual:Str)(scope:Scope)(f:Addr)(cd:Value)(A:Around)(outer:List Env)(s:Shared)(H:Hp)(E:XK):Cx where
 prog:=P
 w:=w
 K:=K
 mg:=mg
 base:=base
 A:=A.deeper (envOfC qual scope s.heap.objs.size f cd)
 N:=N
 s₀:=s
 H₀:=H
 env:=envOfC qual scope s.heap.objs.size f cd
 outer:=outer
 stack:=envOfC qual scope s.heap.objs.size f cd::outer
 ex:=[]
 calm:=true
 fn:=λ_=>true
 pn:=[]
 xe:=λe s'=>wpAny (model P w) (A.deeper (envOfC qual scope s.heap.objs.size f cd)) (leaving (envOfC qual scope s.heap.objs.size f cd) e) (λ_ s''=>CX outer H s E e s'') (λe' s''=>CX outer H s E e' s'') s'
theorem zm7 {sc:Scope}{n:Nat}{x:Str}(h:sc.names.lookup x=some .cell):∃c,(cellsFrom n sc.names []).lookup x=some c:=by
 have q:=PySem.W.cellsFrom_some sc.names n [] (.inl h)
 exact VaX.mp q
theorem zuQ {CX:CXT}{P:Program}{w:World}{K:PySem.W.Frag}{mg:Str→Option Value}{base:Heap}{N ps:List Str}{qual:Str}{scope:Scope}{f:Addr}{cd:Value}{A:Around}{outer:List Env}{s s1:Shared}{H:Hp}{E:XK}{us:List Value}{vs:List V}
  (S:zaA N ps scope)(hd:A.handled=none)(e0:zcr P w K mg base A outer s H)(hl:vs.length=ps.length)(r:zao vs us)
  (x:InCallC s s.heap.objs.size (bindL (envOfC qual scope s.heap.objs.size f cd).kindOf (ps.zip us) λ_=>none) (cellsFrom (s.heap.objs.size+1) scope.names []) (bindC (envOfC qual scope s.heap.objs.size f cd).kindOf (ps.zip us) λ_=>none) s1):
  Inv (zdF CX P w K mg base N qual scope f cd A outer s H E) [] (zcw N vs) H s1:=by
 have hpl:ps.length≤N.length:=by have:=congrArg List.length S.pre; rw[Vaw] at this; omega
 obtain⟨h1,tk,rfl,hk⟩:=x.done
 have noA:∀b:Addr,b ∉ (zdF CX P w K mg base N qual scope f cd A outer s H E).ex:=λb z=>absurd (show b∈([]:List Addr) from z) (by simp)
 refine⟨⟨e0.mod,S.kind,rfl,rfl,Vaa _,λy z c h1 h2=>?_,λy hy=>?_,λy c _ h=>?_,λ_=>hd,Around.frames_deeper e0.frames,.inr ⟨rfl,rfl⟩,λb z=>absurd z (noA b),e0.bs,e0.bsz,λb _ _=>noA b,λb z=>absurd z (noA b),e0.funs,e0.frf⟩,
  rfl,e0.bare,Un.kept hk,⟨_,x.toInCall.ns,λi y v h1 h2 h3=>?_⟩,λy c h=>⟨_,x.cell y c h⟩,e0.hok.fresh (Vaa _),λy c h=>?_,λp hp=>absurd (show p∈([]:List (Addr×Obj)) from hp) (by simp),e0.hok.kept hk,?_⟩
 ·exact name_of_addr x.apart (PySem.mem_of_lookup h1) (PySem.mem_of_lookup h2)
 ·have hy:scope.names.lookup y=some .cell∨scope.names.lookup y=some .free:=hy
  rcases hy with hy | hy
  ·exact zm7 hy
  ·exact absurd rfl (S.nofree _ (PySem.mem_of_lookup hy))
 ·exact VaW (x.above y c (PySem.mem_of_lookup h))
 ·have hi:i<vs.length:=by
   unfold zcw at h2
   by_cases hi:i<vs.length
   ·exact hi
   ·rw[Vaq (by simpa using hi)] at h2
    rw[List.getElem?_replicate] at h2
    split at h2 <;> cases h2
  have ha:vs[i]?=some v:=by
   unfold zcw at h2
   rw[Vah (by simpa using hi),Vag] at h2
   cases e:vs[i]? with
   | none=>rw[e] at h2; cases h2
   | some a=>rw[e] at h2; cases h2; rfl
  obtain⟨u,hu,rv⟩:=r.get ha
  have hp:ps[i]?=some y:=by
   rw[← S.pre,List.getElem?_take_of_lt (by omega)]; exact h1
  have ndP:ps.Nodup:=by rw[← S.pre]; exact S.nd.sublist (List.take_sublist _ _)
  refine⟨u,rv,?_⟩
  rcases S.par y (Val hp) with k | k
  ·exact .inl ⟨k,zoH ndP hp hu k⟩
  ·obtain⟨c,e⟩:=zm7 (n:=s.heap.objs.size+1) k
   refine .inr ⟨.inl k,c,e,?_⟩
   have q:=x.cell y c e
   rw[zoZ ndP hp hu (by show scope.names.lookup y≠_; rw[k]; decide)] at q
   exact q
 ·exact e0.hok.fresh (VaW (x.above y c (PySem.mem_of_lookup h)))
 ·unfold zcw
  show _=N.length
  rw[Vad,Vac,List.length_replicate]
  omega
theorem zoY {CX:CXT}{P:Program}{w:World}{K:PySem.W.Frag}{mg:Str→Option Value}{base:Heap}{k:Nat}{f:Addr}{name qual:Str}{params:Arguments}{body:List Stmt}{scope:Scope}{dV kV doc pm cdv ct oc:Value}{an od:Option Addr}
  {osl:Array (Option Value)}{N ps:List Str}{sp:Sp}(lk:K.lookup f=some ⟨oc,od,.func (PySem.W.fnOf name qual params body scope dV kV doc pm an cdv ct),osl⟩)(hcd:PySem.W.codeIn K cdv qual=true)(S:zaA N ps scope)
  (len:∀vs H Q E,sp vs H Q E→vs.length=ps.length)
  (hbody:∀(A:Around) (outer:List Env) (s:Shared) (H:Hp) (vs:List V) (Q:VK) (E:XK),zaQ k (A.deeper (envOfC qual scope s.heap.objs.size f cdv))→sp vs H Q E→
   ∃t,PSs (zdF CX P w K mg base N qual scope f cdv A outer s H E) body t∧t { nx:=λ_ H'=>Q .non H',rt:=Q } (zcw N vs) H):
  zbb P w K mg base CX (k+1) f (PySem.W.fnOf name qual params body scope dV kV doc pm an cdv ct) ps sp:=by
 refine⟨len,λA outer s H args us vs Q E hr e0 hb r hsp=>?_⟩
 have hl:=len _ _ _ _ hsp
 have KX:K.In s.heap:=e0.mod.kin.keeps λb o e=>(e0.bs b o e).1
 have lim:s.heap.NoLimit:=e0.mod.nolimit.keeps λb o e=>(e0.bs b o e).1
 have hkind:∀y∈ps.zip us,scope.names.lookup y.1=some .local∨(scope.names.lookup y.1=some .cell∧((cellsFrom (s.heap.objs.size+1) scope.names []).lookup y.1).isSome=true):=λ⟨n,v⟩ hy=>by
  rcases S.par n (List.of_mem_zip hy).1 with q | q
  ·exact .inl q
  ·exact .inr ⟨q,PySem.W.cellsFrom_some _ _ _ (.inl q)⟩
 refine codeAny_call_function hr.depth (KX _ _ lk) rfl S.co S.gen rfl (PySem.W.codeRec_of KX hcd) (hb _ _ _ _ ?_)
 refine wpAny_newFunctionEnv_cells S.kind hkind λenv he s1 x=>?_
 subst he
 refine⟨lim.keeps x.toInCall.keep,codeAny_func ?_⟩
 obtain⟨t,ht,hq⟩:=hbody A outer s H vs Q E (hr.deeper _) hsp
 have I:Inv (zdF CX P w K mg base N qual scope f cdv A outer s H E) [] (zcw N vs) H s1:=zuQ S hr.hd e0 hl r x
 refine wpAny_mono (ht [] s1 (zcw N vs) H _ I hq) (λfl s' hs=>?_) λe s' hs=>hs
 have fin:∀ {σ':St} {H':Hp} {v:V} {u:Value},Inv (zdF CX P w K mg base N qual scope f cdv A outer s H E) [] σ' H' s'→zan v u→Q v H'→CE outer P w H s Q u s':=
  λ{σ' H' v u} J rv q=>⟨v,H',J.os,J.bare,J.base,J.hok,rv,q⟩
 cases fl with
 | ret u=>
  obtain⟨v,σ',H',J,rv,q⟩:=hs
  exact fin J rv q
 | next=>
  obtain⟨σ',H',J,q⟩:=hs
  exact fin (v:=V.non) (u:=Value.none) J rfl q
 | brk=>
  obtain⟨_,_,_,q⟩:=hs
  exact False.elim q
 | cont=>
  obtain⟨_,_,_,q⟩:=hs
  exact False.elim q
end L2
namespace L2
open PySem PySem.Spec PyProof.Rows
section
variable {X:Cx}{x:Str}{p pos:Pos}{e:Expr}{es:List Expr}{t:TA}{id T:String}{r:List V→Hp→VK→Prop}
def tCB (r:List V→Hp→VK→Prop)(t:TA):TE:=λσ H Q=>t σ H λvs H1=>r vs H1 Q
theorem znI (hc:za2 X (.builtin id) r)(hg:Gl X x)(hm:X.mg x=none)(hv:bootBuiltins x=some (.builtin id))(ha:PA X (e::es) t)(hn:x≠"__name__":=by decide)(hdb:(x==("__debug__":Str))=false:=by decide)
  (he:starEach (e::es) X.env=(false,eval e X.env)::starEach es X.env:=by rfl)(hpl:(backTo pos (starEach es X.env)).any (·.1)=false:=by rfl):PE X (.Call (.Name x p) (e::es) [] pos) (tCB r t):=by
 intro pins s σ H Q I h
 refine wpAny_Call_Name_kw (zeJ I hg hm hv ?_ hn hdb)
 exact PyProof.Rows.callWith_builtin1 (thn (ha pos pins s σ H _ I h) λus s1 ⟨vs,H1,I1,r1,q1⟩=>hc pins s1 σ H1 vs us Q I1 r1 q1) he hpl
theorem zmS (hc:za2 X (.type T) r)(hg:Gl X x)(hm:X.mg x=none)(hv:bootBuiltins x=some (.type T))(ha:PA X (e::es) t)(hn:x≠"__name__":=by decide)(hdb:(x==("__debug__":Str))=false:=by decide)
  (he:starEach (e::es) X.env=(false,eval e X.env)::starEach es X.env:=by rfl)(hpl:(backTo pos (starEach es X.env)).any (·.1)=false:=by rfl):PE X (.Call (.Name x p) (e::es) [] pos) (tCB r t):=by
 intro pins s σ H Q I h
 refine wpAny_Call_Name_kw (zeJ I hg hm hv ?_ hn hdb)
 exact PyProof.Rows.callWith_type1 (thn (ha pos pins s σ H _ I h) λus s1 ⟨vs,H1,I1,r1,q1⟩=>hc pins s1 σ H1 vs us Q I1 r1 q1) he hpl
end
end L2
namespace HT
open PySem PyProof.Rows
section
open PySem.SeqAt
open PySem.AutoSeq1 (wpAny_loadPart')
open PySem.MeetsSeq PySem.MeetsSeq2 PySem.MeetsSeq3
end
section
variable {prog:Program}{w:World}{A:Around}{E:Value→Shared→Prop}{s:Shared}
def sIx (n d:Nat):Option Int→Nat
 | none=>d
 | some v=>if v<0 then (v+(n:Int)).toNat else min v.toNat n
theorem sIx_none (n d:Nat):sIx n d none=d:=rfl
theorem sIx_nat (n d k:Nat):sIx n d (some (k:Int))=min k n:=by
 show (if (k:Int)<0 then ((k:Int)+(n:Int)).toNat else min (k:Int).toNat n)=min k n
 rw[if_neg (by omega),Vaj]
end
end HT
namespace L2
open PySem PySem.Spec PyProof.Rows
abbrev TO:=St→Hp→(Option Int→Hp→Prop)→Prop
def PO (X:Cx)(e:Option Expr)(t:TO):Prop:=
 ∀(pins:List (Addr×Obj)) (s:Shared) (σ:St) (H:Hp) (Q:Option Int→Hp→Prop),Inv X pins σ H s→t σ H Q→
  wpAny (model X.prog X.w) X.A (evalPart e X.env) (λu s'=>∃o H',Inv X pins σ H' s'∧IsPart u o∧Q o H') X.xe s
def ztn:TO:=λ_ H Q=>Q none H
def tPart (t:TE):TO:=λσ H Q=>t σ H λx H1=>∃i,x=.int i∧Q (some i) H1
section
variable {X:Cx}{e:Expr}{te:TE}{lo hi:Option Expr}{tl th:TO}{pos p2:Pos}
theorem zqf:PO X none ztn:=by
 intro pins s σ H Q I h
 rw[evalPart_none]
 exact wpAny_pure ⟨none,H,I,.none,h⟩
theorem zqq (h:PE X e te):PO X (some e) (tPart te):=by
 intro pins s σ H Q I hw
 rw[evalPart_some]
 refine thn (h pins s σ H _ I hw) λu s1 ⟨x,H1,I1,r1,q1⟩=>?_
 obtain⟨i,rfl,q⟩:=q1
 obtain⟨t,rfl⟩:=r1
 exact⟨some i,H1,I1,.int i t,q⟩
def SlR (X:Cx)(r:V→Option Int→Option Int→Hp→VK→Prop):Prop:=
 ∀(pins:List (Addr×Obj)) (s:Shared) (σ:St) (H:Hp) (x:V) (v vl vu:Value) (lo hi:Option Int) (sl:Addr) (Q:VK),Inv X pins σ H s→zan x v→s.heap.IsSliceOf sl vl vu .none→IsPart vl lo→IsPart vu hi→r x lo hi H Q→
  ∃T id,typeLookup (.type T) "__getitem__"=pure (some (.builtin id))∧s.TypeIs v T∧wpAny (model X.prog X.w) X.A (getItem v (.ref sl)) (EP X pins σ Q) X.xe s
theorem SlR.or {r r':V→Option Int→Option Int→Hp→VK→Prop}(h:SlR X r)(h':SlR X r'):SlR X (λx lo hi H Q=>r x lo hi H Q∨r' x lo hi H Q):=by
 intro pins s σ H x v vl vu lo hi sl Q I rx hs pl pu q
 rcases q with q | q
 ·exact h pins s σ H x v vl vu lo hi sl Q I rx hs pl pu q
 ·exact h' pins s σ H x v vl vu lo hi sl Q I rx hs pl pu q
def tSl (r:V→Option Int→Option Int→Hp→VK→Prop)(te:TE)(tl th:TO):TE:=λσ H Q=>te σ H λx H1=>tl σ H1 λl H2=>th σ H2 λu H3=>r x l u H3 Q
theorem zqJ {r:V→Option Int→Option Int→Hp→VK→Prop}(hr:SlR X r)(he:PE X e te)(hl:PO X lo tl)(hu:PO X hi th):PE X (.Subscript e (.Slice lo hi none p2) pos) (tSl r te tl th):=by
 intro pins s σ H Q I h
 refine Subscript_ (thn (he pins s σ H _ I h) λv s1 ⟨x,H1,I1,r1,q1⟩=>?_)
 refine wpAny_Slice (thn (hl pins s1 σ H1 _ I1 q1) λvl s2 ⟨l,H2,I2,pl,q2⟩=>thn (hu pins s2 σ H2 _ I2 q2) λvu s3 ⟨u,H3,I3,pu,q3⟩=>?_)
 rw[evalPart_none]
 refine wpAny_pure ?_
 have I4:Inv X pins σ H3 { s3 with heap:=s3.heap.push { cls:=.type "slice",data:=.fields #[vl,vu,.none] } }:=I3.kept (t':=s3.toks) λb ob q=>Heap.get?_push_of_some _ q
 obtain⟨T,id,hT,ht,hg⟩:=hr pins { s3 with heap:=s3.heap.push { cls:=.type "slice",data:=.fields #[vl,vu,.none] } } σ H3 x v vl vu l u s3.heap.objs.size Q I4 r1 (Heap.IsSliceOf.new ..) pl pu q3
 show wpAny (model X.prog X.w) X.A (subscriptTail e (.Slice lo hi none p2) v (.ref s3.heap.objs.size)) (EP X pins σ Q) X.xe { s3 with heap:=s3.heap.push { cls:=.type "slice",data:=.fields #[vl,vu,.none] } }
 exact tail_any (ops:=[.ref s3.heap.objs.size,v]) ht hT hg (by with_unfolding_all rfl)
def zdZ (xs:List V)(lo hi:Option Int):List V:=(xs.drop (HT.sIx xs.length 0 lo)).take (HT.sIx xs.length xs.length hi-HT.sIx xs.length 0 lo)
theorem zvu (xs:List V)(lo hi:Option Int):(zdZ xs lo hi).length≤xs.length:=by
 unfold zdZ
 rw[Vaw,VaY]
 omega
end
end L2
namespace L2
open PySem PySem.Spec PyProof.Rows
def ixN (n:Nat)(i:Int):Option Nat:=if 0≤i then (if i<n then some i.toNat else none) else if -(n:Int)≤i then some (i+n).toNat else none
def atI {α:Type}(xs:List α)(i:Int):Option α:=(ixN xs.length i).bind λj=>xs[j]?
theorem zn6 {n:Nat}{i:Int}{j:Nat}(h:ixN n i=some j):seqIndex? i n=some j∧j<n∧-(n:Int)≤i∧i<n:=by
 unfold ixN at h
 by_cases h0:0≤i
 ·rw[if_pos h0] at h
  by_cases h1:i<n
  ·rw[if_pos h1] at h
   have e:i.toNat=j:=Option.some.inj h
   exact⟨by rw[seqIndex_of h0 h1,e],by omega,by omega,h1⟩
  ·rw[if_neg h1] at h; cases h
 ·rw[if_neg h0] at h
  by_cases h1:-(n:Int)≤i
  ·rw[if_pos h1] at h
   have e:(i+n).toNat=j:=Option.some.inj h
   exact⟨by rw[seqIndex_neg (by omega) h1,e],by omega,h1,by omega⟩
  ·rw[if_neg h1] at h; cases h
theorem znO {α:Type}{xs:List α}{i:Int}{v:α}(h:atI xs i=some v):∃j,seqIndex? i xs.length=some j∧xs[j]?=some v∧j<xs.length∧-(xs.length:Int)≤i∧i<xs.length:=by
 unfold atI at h
 cases e:ixN xs.length i with
 | none=>rw[e] at h; cases h
 | some j=>
  rw[e] at h
  obtain⟨h1,h2,h3,h4⟩:=zn6 e
  exact⟨j,h1,h,h2,h3,h4⟩
theorem zcl {α:Type}{xs:List α}{j:Nat}{v:α}(h:xs[j]?=some v):atI xs (j:Int)=some v:=by
 have hj:j<xs.length:=(Vab.mp h).1
 have e:ixN xs.length (j:Int)=some j:=by
  unfold ixN
  rw[if_pos (by omega),if_pos (by omega)]; simp
 unfold atI; rw[e]; exact h
def zmC (b:Expr):Prop:=∀o i,subscripted b false o i=operate [o,i] (getItem o i)
def IxR (X:Cx)(r:R2):Prop:=
 ∀(value slice:Expr) (pins:List (Addr×Obj)) (s:Shared) (σ:St) (H:Hp) (x y:V) (v u:Value) (Q:VK),Inv X pins σ H s→zan x v→zan y u→r x y H Q→
  subscripted slice false v u=operate [v,u] (getItem v u)→wpAny (model X.prog X.w) X.A (subscriptTail value slice v u) (EP X pins σ Q) X.xe s
def MtR (X:Cx)(id:String)(r:V→List V→Hp→VK→Prop):Prop:=
 ∀(pins:List (Addr×Obj)) (s:Shared) (σ:St) (H:Hp) (x:V) (xs:List V) (v:Value) (us:List Value) (Q:VK),Inv X pins σ H s→zan x v→zao xs us→r x xs H Q→
  wpAny (model X.prog X.w) X.A (call (.builtin id) (v::us)) (EP X pins σ Q) X.xe s
section
variable {X:Cx}{a b:Expr}{ta tb:TE}{pos:Pos}
theorem IxR.or {r r':R2}(h:IxR X r)(h':IxR X r'):IxR X (λx y H Q=>r x y H Q∨r' x y H Q):=by
 intro value slice pins s σ H x y v u Q I rx ry q hs
 rcases q with q | q
 ·exact h value slice pins s σ H x y v u Q I rx ry q hs
 ·exact h' value slice pins s σ H x y v u Q I rx ry q hs
theorem MtR.or {id:String}{r r':V→List V→Hp→VK→Prop}(h:MtR X id r)(h':MtR X id r'):MtR X id (λx xs H Q=>r x xs H Q∨r' x xs H Q):=by
 intro pins s σ H x xs v us Q I rx rs q
 rcases q with q | q
 ·exact h pins s σ H x xs v us Q I rx rs q
 ·exact h' pins s σ H x xs v us Q I rx rs q
theorem pe_ix {r:R2}(hr:IxR X r)(ha:PE X a ta)(hb:PE X b tb)(hs:zmC b):PE X (.Subscript a b pos) (tOp r ta tb):=by
 intro pins s σ H Q I h
 exact Subscript_ (binT ha hb I h λv u s2 x y H2 I2 rx ry q=>hr a b pins s2 σ H2 x y v u Q I2 rx ry q (hs _ _))
def rIxL (K:PySem.W.Frag):R2:=λx y H Q=>∃p xs i v,x=.ref p∧y=.int i∧SqL K H p xs∧atI xs i=some v∧Q v H
def rIxT (K:PySem.W.Frag):R2:=λx y H Q=>∃p xs i v,x=.ref p∧y=.int i∧SqT K H p xs∧atI xs i=some v∧Q v H
theorem ztb:IxR X (rIxL X.K):=by
 intro value slice pins s σ H x y v u Q I rx ry h hs
 obtain⟨p,xs,i,z,rfl,rfl,hq,he,q⟩:=h
 cases rx
 obtain⟨t,rfl⟩:=ry
 obtain⟨its,r,pl,hz⟩:=I.list hq
 obtain⟨j,h1,h2,h3,h4,h5⟩:=znO he
 obtain⟨w,ew,rw'⟩:=r.get h2
 have hl:=r.length
 have hn:=zfd
 have fin:EP X pins σ Q w s:=⟨z,H,I,rw',q⟩
 by_cases h0:0≤i
 ·have hj:i.toNat=j:=by
   rw[seqIndex_of h0 h5] at h1
   exact Option.some.inj h1
  exact item_listR pl.isList h0 (by omega) (by rw[hj]; simpa using ew) fin hs
 ·have hj:(i+(its.toArray.size:Int)).toNat=j:=by
   rw[seqIndex_neg (by omega) h4] at h1
   rw[Vak,← hl]
   exact Option.some.inj h1
  exact subscriptTail_builtinR (x:=w) pl.isList.typeIs slot_list_getitem.lookup
   (wpAny_getItem_list_neg (Q:=λr s'=>r=w∧EP X pins σ Q r s') pl.isList (by omega) (by rw[Vak] <;> omega) (by omega) (by rw[hj]; simpa using ew) ⟨rfl,fin⟩) hs
theorem zrU:IxR X (rIxT X.K):=by
 intro value slice pins s σ H x y v u Q I rx ry h hs
 obtain⟨p,xs,i,z,rfl,rfl,hq,he,q⟩:=h
 cases rx
 obtain⟨t,rfl⟩:=ry
 obtain⟨its,r,pl,hz⟩:=I.tuple hq
 obtain⟨j,h1,h2,h3,h4,h5⟩:=znO he
 obtain⟨w,ew,rw'⟩:=r.get h2
 have hl:=r.length
 have hn:=zfd
 have fin:EP X pins σ Q w s:=⟨z,H,I,rw',q⟩
 exact subscriptTail_builtinR (x:=w) pl.typeIs slot_tuple_getitem.lookup
  (getItem_tuple (j:=j) (Q:=λr s'=>r=w∧EP X pins σ Q r s') pl (by omega) (by omega) (by rw[Vak,← hl]; exact h1) (by simpa using ew) ⟨rfl,fin⟩) hs
theorem zpP (its:List Value)(n j:Nat)(u:Value):Obj.mapSeq (·.setIfInBounds j u) { cls:=.type "list",data:=.seq its.toArray n }={ cls:=.type "list",data:=.seq (its.set j u).toArray n }:=by
 simp[Obj.mapSeq]
theorem Inv.lst {pins:List (Addr×Obj)}{σ:St}{H:Hp}{s:Shared}{p:Addr}{xs:List V}(I:Inv X pins σ H s)(h:H p=some (.lst xs)):
  ∃(its:List Value) (n:Nat),zao xs its∧s.heap.get? p=some { cls:=.type "list",data:=.seq its.toArray n }∧xs.length≤sizeLine:=by
 obtain⟨z,its,n,r,e⟩:=I.hok p _ h
 exact⟨its,n,r,e,z⟩
theorem Inv.lstUpd {pins:List (Addr×Obj)}{σ:St}{H:Hp}{s:Shared}{p:Addr}{xs ys:List V}{its its':List Value}{n n':Nat}{f:Obj→Obj}(I:Inv X pins σ H s)(h:H p=some (.lst xs))
  (ho:s.heap.get? p=some { cls:=.type "list",data:=.seq its.toArray n })(hf:f { cls:=.type "list",data:=.seq its.toArray n }={ cls:=.type "list",data:=.seq its'.toArray n' })(r:zao ys its')(hz:ys.length≤sizeLine)(t:Nat):
  Inv X pins σ (upd H p (.lst ys)) { s with heap:=s.heap.update p f,toks:=t }:=by
 have e:(s.heap.update p f).get? p=some { cls:=.type "list",data:=.seq its'.toArray n' }:=by
  rw[Heap.get?_update_self f ho (by rw[hf] <;> rfl),hf]
 refine I.write (x:=p) (e:=p) (by rw[h]; trivial) (.inl rfl) (λb u hb q=>(Heap.get?_update_other _ _ (Ne.symm hb)).trans q) ⟨_,e⟩ ?_
 exact⟨hz,its',n',r,e⟩
def rSetL:V→V→V→Hp→(Hp→Prop)→Prop:=λo i v H Q=>∃p xs k j,o=.ref p∧i=.int k∧H p=some (.lst xs)∧ixN xs.length k=some j∧Q (upd H p (.lst (xs.set j v)))
theorem zqW:PSet X rSetL:=by
 intro pins s σ H o i v ov iv u Q I ro ri rv h
 obtain⟨p,xs,k,j,rfl,rfl,hp,hj,q⟩:=h
 cases ro
 obtain⟨t,rfl⟩:=ri
 obtain⟨its,n,r,ho,hz⟩:=I.lst hp
 obtain⟨h1,h2,h3,h4⟩:=zn6 hj
 have hl:=r.length
 have hn:=zfd
 have I':Inv X pins σ (upd H p (.lst (xs.set j v))) { s with heap:=s.heap.update p (Obj.mapSeq (·.setIfInBounds j u)) }:=
  I.lstUpd hp ho (zpP its n j u) (r.set rv j) (by rw[VaK]; exact hz) s.toks
 by_cases h0:0≤k
 ·have hk:k.toNat=j:=by
   rw[seqIndex_of h0 h4] at h1
   exact Option.some.inj h1
  exact PySem.W.ki_setAt ho h0 (by omega) (by rw[Vak,← hl]; exact h4) (by rw[hk]; exact⟨_,I',q⟩)
 ·have hk:(k+(its.toArray.size:Int)).toNat=j:=by
   rw[seqIndex_neg (by omega) h3] at h1
   rw[Vak,← hl]
   exact Option.some.inj h1
  exact PySem.W.ki_setBack ho (by omega) (by rw[Vak,← hl]; exact h3) (by omega) (by rw[hk]; exact⟨_,I',q⟩)
theorem zql (lo hi:Option Int)(n:Nat):(sliceBounds lo hi none n).1=((HT.sIx n 0 lo:Nat):Int)∧(sliceBounds lo hi none n).2.1=((HT.sIx n n hi:Nat):Int)∧(sliceBounds lo hi none n).2.2=1:=by
 refine⟨?_,?_,rfl⟩
 ·cases lo with
  | none=>simp[sliceBounds,HT.sIx]
  | some i=>
   simp only[sliceBounds,HT.sIx,Option.getD_none,show (1:Int) > 0 by decide,if_true]
   by_cases h:i<0
   ·simp only[h,if_true] <;> omega
   ·simp only[h,if_false] <;> omega
 ·cases hi with
  | none=>simp[sliceBounds,HT.sIx]
  | some i=>
   simp only[sliceBounds,HT.sIx,Option.getD_none,show (1:Int) > 0 by decide,if_true]
   by_cases h:i<0
   ·simp only[h,if_true] <;> omega
   ·simp only[h,if_false] <;> omega
theorem zrS (its:List Value)(lo hi:Option Int):slicePick its.toArray lo hi none=((its.drop (HT.sIx its.length 0 lo)).take (HT.sIx its.length its.length hi-HT.sIx its.length 0 lo)).toArray:=by
 obtain⟨h1,h2,h3⟩:=zql lo hi its.toArray.size
 unfold slicePick
 rw[h1,h2,h3]
 simp only[sliceRange_one,pick_run,Vak] <;> rfl
def rSlL (K:PySem.W.Frag):V→Option Int→Option Int→Hp→VK→Prop:=λx lo hi H Q=>∃a xs,x=.ref a∧SqL K H a xs∧∀p,H p=none→Q (.ref p) (upd H p (.lst (zdZ xs lo hi)))
theorem zt8:SlR X (rSlL X.K):=by
 intro pins s σ H x v vl vu lo hi sl Q I rx hs pl pu h
 obtain⟨a,xs,rfl,hx,q⟩:=h
 cases rx
 obtain⟨its,r,ht,hz⟩:=I.list hx
 have hlen:=r.length
 refine⟨"list",_,slot_list_getitem.lookup,ht.isList.typeIs,?_⟩
 refine wpAny_getItem_list_slice ht.isList hs pl pu .none (by simp) ?_ (by rw[Vak] <;> omega)
 rw[zrS,← hlen]
 refine⟨.ref s.heap.objs.size,_,I.laid (t':=s.toks) (o:=.lst (zdZ xs lo hi)) (λb ob q=>Heap.get?_push_of_some _ q) (Vaa _) ?_,rfl,q _ (I.hok.fresh (Vaa _))⟩
 exact⟨Vaz (zvu xs lo hi) hz,_,0,(r.drop (HT.sIx xs.length 0 lo)).take (HT.sIx xs.length xs.length hi-HT.sIx xs.length 0 lo),Heap.get?_push_size _ rfl⟩
def zhT:V→Bool
 | .non=>true
 | .bl _=>true
 | .int _=>true
 | .str _=>true
 | _=>false
def eqV:V→V→Bool
 | .non,.non=>true
 | .bl a,.bl b=>a==b
 | .bl a,.int b=>(if a then 1 else 0)==b
 | .int a,.bl b=>a==(if b then 1 else 0)
 | .int a,.int b=>a==b
 | .str a,.str b=>a==b
 | _,_=>false
theorem zvg {A:Around}{s:Shared}{y x:V}{u v:Value}(ry:zan y u)(rx:zan x v)(fy:zhT y=true)(fx:zhT x=true):SeqAt.EqAt A s u v (eqV y x):=by
 cases y with
 | non=>
  cases ry
  cases x with
  | non=>cases rx; exact SeqAt.EqAt.same _
  | bl b=>cases rx; exact SeqAt.EqAt.none_bool b
  | int b=>obtain⟨t,rfl⟩:=rx; exact SeqAt.EqAt.none_int b t
  | str b=>obtain⟨t,rfl⟩:=rx; exact SeqAt.EqAt.none_str b t
  | _=>exact absurd (show false=true from fx) Vao
 | bl a=>
  cases ry
  cases x with
  | non=>cases rx; exact SeqAt.EqAt.bool_none a
  | bl b=>cases rx; exact SeqAt.EqAt.bool_bool a b
  | int b=>obtain⟨t,rfl⟩:=rx; exact SeqAt.EqAt.bool_int a b t
  | str b=>obtain⟨t,rfl⟩:=rx; exact SeqAt.EqAt.bool_str a b t
  | _=>exact absurd (show false=true from fx) Vao
 | int a=>
  obtain⟨t',rfl⟩:=ry
  cases x with
  | non=>cases rx; exact SeqAt.EqAt.int_none a t'
  | bl b=>cases rx; exact SeqAt.EqAt.int_bool a t' b
  | int b=>obtain⟨t,rfl⟩:=rx; exact SeqAt.EqAt.int_int a t' b t
  | str b=>obtain⟨t,rfl⟩:=rx; exact SeqAt.EqAt.int_str a t' b t
  | _=>exact absurd (show false=true from fx) Vao
 | str a=>
  obtain⟨t',rfl⟩:=ry
  cases x with
  | non=>cases rx; exact SeqAt.EqAt.str_none a t'
  | bl b=>cases rx; exact SeqAt.EqAt.str_bool a t' b
  | int b=>obtain⟨t,rfl⟩:=rx; exact SeqAt.EqAt.str_int a t' b t
  | str b=>obtain⟨t,rfl⟩:=rx; exact SeqAt.EqAt.str_str a t' b t
  | _=>exact absurd (show false=true from fx) Vao
 | _=>exact absurd (show false=true from fy) Vao
theorem zpY:za2 X (.builtin "len") (λxs H Q=>∃p ys,xs=[.ref p]∧(SqL X.K H p ys∨SqT X.K H p ys)∧Q (.int ys.length) H):=by
 intro pins s σ H xs us Q I r h
 obtain⟨p,ys,rfl,hq,q⟩:=h
 obtain⟨u,rfl,rx⟩:=zcx r
 cases rx
 have hn:=zfd
 rcases hq with hq | hq
 ·obtain⟨its,r',pl,hz⟩:=I.list hq
  have hlen:=r'.length
  exact Calls.call_len_list pl.isList (by simp only[Vak] <;> omega) ⟨.int ys.length,H,I.tok _,⟨s.toks+1,by rw[Vak,hlen]⟩,q⟩
 ·obtain⟨its,r',pl,hz⟩:=I.tuple hq
  have hlen:=r'.length
  exact len_tuple pl (by simp only[Vak] <;> omega) ⟨.int ys.length,H,I.tok _,⟨s.toks+1,by rw[Vak,hlen]⟩,q⟩
theorem za2.or {f:Value}{r r':List V→Hp→VK→Prop}(h:za2 X f r)(h':za2 X f r'):za2 X f (λxs H Q=>r xs H Q∨r' xs H Q):=by
 intro pins s σ H xs us Q I rs q
 rcases q with q | q
 ·exact h pins s σ H xs us Q I rs q
 ·exact h' pins s σ H xs us Q I rs q
theorem zq8:za2 X (.type "list") (λxs H Q=>∃p ys,xs=[.ref p]∧(SqL X.K H p ys∨SqT X.K H p ys)∧∀l,H l=none→Q (.ref l) (upd H l (.lst ys))):=by
 intro pins s σ H xs us Q I r h
 obtain⟨p,ys,rfl,hq,q⟩:=h
 obtain⟨u,rfl,rx⟩:=zcx r
 cases rx
 have fin:∀(its:List Value),zao ys its→ys.length≤sizeLine→∀(h':Heap) (c':Nat),(∀b o',s.heap.get? b=some o'→h'.get? b=some o')→
   h'.get? s.heap.objs.size=some { cls:=.type "list",dict:=none,data:=.seq its.toArray c',slots:=#[] }→EP X pins σ Q (.ref s.heap.objs.size) { s with heap:=h' }:=λits r' hz h' c' kp e=>
  ⟨.ref s.heap.objs.size,_,I.laid (t':=s.toks) kp (Vaa _) (show zbm X.prog X.w _ h' _ (.lst ys) from ⟨hz,its,c',r',e⟩),rfl,q _ (I.hok.fresh (Vaa _))⟩
 rcases hq with hq | hq
 ·obtain⟨its,r',pl,hz⟩:=I.list hq
  have hlen:=r'.length
  obtain⟨o,ho,hc,n,hd⟩:=pl.isList
  exact call_list_seq p (.inl rfl) ho hc hd (λh' c' kp e=>fin its r' hz h' c' kp e) (by simp only[Vak] <;> omega)
 ·obtain⟨its,r',pl,hz⟩:=I.tuple hq
  have hlen:=r'.length
  obtain⟨o,ho,hc,n,hd⟩:=pl
  exact call_list_seq p (.inr rfl) ho hc hd (λh' c' kp e=>fin its r' hz h' c' kp e) (by simp only[Vak] <;> omega)
theorem zpV:za2 X (.type "tuple") (λxs H Q=>∃p ys,xs=[.ref p]∧((SqL X.K H p ys∧∀l,H l=none→Q (.ref l) (upd H l (.tup ys)))∨(SqT X.K H p ys∧Q (.ref p) H))):=by
 intro pins s σ H xs us Q I r h
 obtain⟨p,ys,rfl,h⟩:=h
 obtain⟨u,rfl,rx⟩:=zcx r
 cases rx
 rcases h with ⟨hq,q⟩ | ⟨hq,q⟩
 ·obtain⟨its,r',pl,hz⟩:=I.list hq
  have hlen:=r'.length
  refine call_tuple_list pl.isList (λh' kp=>?_) (by simp only[Vak] <;> omega)
  have I1:Inv X pins σ H { s with heap:=h' }:=I.kept (t':=s.toks) kp
  have I2:Inv X pins σ (upd H h'.objs.size (.tup ys)) { s with heap:=h'.push { cls:=.type "tuple",data:=.seq its.toArray } }:=
   I1.laid (t':=s.toks) (λb o e=>Heap.get?_push_of_some _ e) (Vaa _) (show zbm X.prog X.w _ _ _ (.tup ys) from ⟨hz,its,r',IsTup.new _ _⟩)
  exact⟨.ref h'.objs.size,_,I2,rfl,q _ (I1.hok.fresh (Vaa _))⟩
 ·obtain⟨its,r',pl,hz⟩:=I.tuple hq
  exact call_tuple_same pl ⟨.ref p,H,I,rfl,q⟩
def tyV (K:PySem.W.Frag)(T:String)(x:V)(H:Hp):Prop:=match x with
 | .str _=>T="str"
 | .int _=>T="int"
 | .ref p=>(T="list"∧∃xs,SqL K H p xs)∨(T="tuple"∧∃o,K.lookup p=some o∧o.cls=.type "tuple"∧o.dict=none)∨
   (T="dict"∧((∃kvs,H p=some (.dK kvs))∨∃kvs,H p=some (.dT kvs)))∨(T="set"∧∃S n,H p=some (.set S n))
 | _=>False
theorem zvy {pins:List (Addr×Obj)}{σ:St}{H:Hp}{s:Shared}{T:String}{x:V}{v:Value}(I:Inv X pins σ H s)(r:zan x v)(ty:tyV X.K T x H):
  s.TypeIs v T∧∀a,v=.ref a→∃ob,s.heap.get? a=some ob∧ob.dict=none:=by
 cases x with
 | str z=>
  obtain⟨t,rfl⟩:=r
  cases (show T="str" from ty)
  exact⟨typeIs_str s z t,λ_ e=>nomatch e⟩
 | int i=>
  obtain⟨t,rfl⟩:=r
  cases (show T="int" from ty)
  exact⟨typeIs_int s i t,λ_ e=>nomatch e⟩
 | ref p=>
  cases r
  rcases ty with ⟨rfl,xs,hq⟩ | ⟨rfl,o,hk,hc,hd⟩ | ⟨rfl,hk⟩ | ⟨rfl,S,n,hk⟩
  ·obtain⟨its,_,pl,_⟩:=I.list hq
   refine⟨pl.isList.typeIs,λa e=>?_⟩
   cases e
   obtain⟨o,n,e,c,hd,_⟩:=pl
   exact⟨o,e,hd⟩
  ·refine⟨⟨o,I.kIn p o hk,hc⟩,λa e=>?_⟩
   cases e
   exact⟨o,I.kIn _ o hk,hd⟩
  ·have z:∃o,s.heap.get? p=some o∧o.ExactDict:=by
    rcases hk with ⟨kvs,hk⟩ | ⟨kvs,hk⟩
    ·obtain⟨_,_,_,_,o,_,_,e,ex,_⟩:=I.hok p _ hk
     exact⟨o,e,ex⟩
    ·obtain⟨_,_,_,_,o,_,_,e,ex,_⟩:=I.hok p _ hk
     exact⟨o,e,ex⟩
   obtain⟨o,e,ex⟩:=z
   refine⟨⟨o,e,ex.1⟩,λa e2=>?_⟩
   cases e2
   exact⟨o,e,ex.2.1⟩
  ·obtain⟨o,_,_,_,e,ex,_⟩:=I.hok p _ hk
   refine⟨⟨o,e,ex.1⟩,λa e2=>?_⟩
   cases e2
   exact⟨o,e,ex.2.1⟩
 | _=>exact False.elim ty
def tBM (K:PySem.W.Frag)(T:String)(r:V→List V→Hp→VK→Prop)(to:TE)(t:TA):TE:=λσ H Q=>to σ H λx H1=>tyV K T x H1∧t σ H1 λxs H2=>r x xs H2 Q
variable {o e:Expr}{es:List Expr}{to:TE}{t:TA}{name:Str}{apos cpos:Pos}{T id:String}{r:V→List V→Hp→VK→Prop}
theorem zmv (pa:PlainAttrs T)(slot:Slot T name id)(hty:typeOf (.builtin id)=pure (.type "method_descriptor"))(hm:MtR X id r)(ho:PE X o to)(ha:PA X (e::es) t)
  (hbase:attributeBase o name X.env (eval o X.env)=eval o X.env:=by rfl)
  (hfew:((backTo cpos (starEach (e::es) X.env)).all (λx=>!x.1)&&(backToKw cpos (keywordEach [] X.env)).all (λx=>x.1.isSome)
  &&decide ((e::es).length+([]:List Keyword).length+(if ([]:List Keyword).isEmpty then 0 else 1)<30))=true:=by rfl)
  (hline:(apos.endLine==cpos.line)=true:=by rfl)(hs:starEach (e::es) X.env=(false,eval e X.env)::starEach es X.env:=by rfl)(hplain:(backTo cpos (starEach es X.env)).any (·.1)=false:=by rfl):
  PE X (.Call (.Attribute o name apos) (e::es) [] cpos) (tBM X.K T r to t):=by
 intro pins s σ H Q I h
 refine wpAny_Call_method_late hbase hfew hline rfl (thn (ho pins s σ H _ I h) λv s1 ⟨x,H1,I1,r1,ty,q1⟩=>?_)
 obtain⟨h1,h2⟩:=zvy I1 r1 ty
 refine⟨T,id,pa,slot,hty,h1,h2,?_⟩
 have hA:=ha cpos pins s1 σ H1 _ I1 q1
 rw[hs] at hA ⊢
 refine Calls.callWith_builtin (by show (false||(backTo cpos (starEach es X.env)).any (·.1))=false; rw[hplain] <;> rfl) (Calls.evalArgs_plain ?_)
 exact thn hA λus s2 ⟨vs,H2,I2,r2,q2⟩=>hm pins s2 σ H2 x vs v us Q I2 r1 r2 q2
end
end L2
namespace L2
open PySem PySem.Spec PyProof.Rows
def MtM (X:Cx)(id:String)(r:V→List V→Hp→VK→Prop):Prop:=
 ∀(pins:List (Addr×Obj)) (s:Shared) (σ:St) (H:Hp) (x:V) (xs:List V) (v:Value) (us:List Value) (Q:VK),Inv X pins σ H s→zan x v→zao xs us→r x xs H Q→
  wpAny (model X.prog X.w) X.A (call (.builtin id) (v::us)) (EP X pins σ Q) X.xe s
theorem zao.one:∀ {x:V} {us:List Value},zao [x] us→∃u,us=[u]∧zan x u
 | _,_,.cons r .nil=>⟨_,rfl,r⟩
theorem zao.two:∀ {x y:V} {us:List Value},zao [x,y] us→∃u v,us=[u,v]∧zan x u∧zan y v
 | _,_,_,.cons r (.cons q .nil)=>⟨_,_,rfl,r,q⟩
theorem zao.zero:∀ {us:List Value},zao [] us→us=[]
 | _,.nil=>rfl
theorem zao.reverse {xs:List V}{us:List Value}(h:zao xs us):zao xs.reverse us.reverse:=by
 induction h with
 | nil=>exact .nil
 | cons r t ih=>rw[List.reverse_cons,List.reverse_cons]; exact zao.append ih (.cons r .nil)
section
variable {X:Cx}{pins:List (Addr×Obj)}{σ:St}{H:Hp}{s:Shared}{l b:Addr}{xs ys zs:List V}
theorem Inv.lset {its its':List Value}{n:Nat}{f:Array Value→Array Value}{t':Nat}(I:Inv X pins σ H s)(hH:H l=some (.lst xs))
  (e:s.heap.get? l=some { cls:=.type "list",data:=.seq its.toArray n })(hf:f its.toArray=its'.toArray)(hv:zao ys its')(hz:ys.length≤sizeLine):
  Inv X pins σ (upd H l (.lst ys)) { s with heap:=s.heap.update l (Obj.mapSeq f),toks:=t' }:=by
 have q:=PySem.IsL.update e f
 rw[hf] at q
 refine I.write (x:=l) (e:=l) (by rw[hH]; exact trivial) (.inl rfl) (λb' u hb hu=>(Heap.get?_update_other s.heap (Obj.mapSeq f) (Ne.symm hb)).trans hu) ⟨_,q⟩ ?_
 exact⟨hz,its',_,hv,q⟩
theorem Inv.lnew {its:List Value}{t':Nat}(I:Inv X pins σ H s)(hv:zao ys its)(hz:ys.length≤sizeLine):
  Inv X pins σ (upd H s.heap.objs.size (.lst ys)) { s with heap:=s.heap.push { cls:=.type "list",data:=.seq its.toArray },toks:=t' }:=
 I.laid (λ_ _ q=>Heap.get?_push_of_some _ q) (Vaa _) ⟨hz,its,0,hv,Heap.get?_push_size _ rfl⟩
theorem Inv.fresh (I:Inv X pins σ H s):H s.heap.objs.size=none:=I.hok.fresh (Vaa _)
theorem Inv.lstM (I:Inv X pins σ H s)(hH:H l=some (.lst xs)):xs.length≤sizeLine∧∃(its:List Value) (n:Nat),zao xs its∧xs.length=its.length∧s.heap.get? l=some { cls:=.type "list",data:=.seq its.toArray n }:=by
 obtain⟨z,its,n,r,e⟩:=I.hok l _ hH
 exact⟨z,its,n,r,r.length,e⟩
end
section
variable {X:Cx}
def zsK:V→List V→Hp→VK→Prop:=λx vs H Q=>∃l xs y,x=.ref l∧vs=[y]∧H l=some (.lst xs)∧xs.length<sizeLine∧Q .non (upd H l (.lst (xs++[y])))
theorem zma:MtM X "list.append" zsK:=by
 intro pins s σ H x vs v us Q I rx rv h
 obtain⟨l,xs,y,rfl,rfl,hH,hz,q⟩:=h
 cases rx
 obtain⟨u,rfl,ru⟩:=rv.one
 obtain⟨z,its,n,r,hl,e⟩:=I.lstM hH
 refine call_meets F.slot_list_append ⟨_,e,rfl⟩ F.entry_list_append (F.args_list_append_2 _ _) (PySem.list_append l its.toArray n u (by rw[Vak]; omega)) ⟨e,?_⟩
 refine⟨.non,_,I.lset (its':=its++[u]) hH e (by simp) (r.append (.cons ru .nil)) ?_,rfl,q⟩
 rw[Vad,List.length_singleton]
 omega
def rCat:R2:=λx y H Q=>∃l b xs zs,x=.ref l∧y=.ref b∧H l=some (.lst xs)∧H b=some (.lst zs)∧xs.length+zs.length≤sizeLine∧∀p,H p=none→Q (.ref p) (upd H p (.lst (xs++zs)))
theorem zvF:OpR X (binaryOp .Add) rCat:=by
 intro pins s σ H x y v u Q I rx ry h
 obtain⟨l,b,xs,zs,rfl,rfl,hH,hB,hz,q⟩:=h
 cases rx
 cases ry
 obtain⟨z,its,n,r,hl,e⟩:=I.lstM hH
 obtain⟨z2,its2,n2,r2,hl2,e2⟩:=I.lstM hB
 refine PySem.P.add_list e e2 ?_ (by rw[Vak,Vak]; omega)
 have ea:its.toArray++its2.toArray=(its++its2).toArray:=by simp
 rw[ea]
 exact⟨.ref _,_,I.lnew (t':=s.toks) (r.append r2) (by rw[Vad]; omega),rfl,q _ I.fresh⟩
end
section
variable {prog:Program}{w:World}{A:Around}{E:Value→Shared→Prop}{s:Shared}
set_option maxRecDepth 100000 in
end
section
variable {X:Cx}
end
end L2
namespace Att
open PySem PySem.W PySem.Calls PyProof.Rows
theorem zuF {P:Params}{h:Heap}:∀(ns:List Int) (vs:List Value),WellAll P h vs (ns.map WData.int)→IntsAre vs ns:=by
 intro ns
 induction ns with
 | nil=>
  intro vs w
  rw[List.map_nil] at w
  cases w
  exact .nil
 | cons n ns ih=>
  intro vs w
  rw[Var] at w
  cases w with
  | cons a b=>
   cases a
   exact .cons _ _ (ih _ b)
theorem zrg {l:OpenLaw}{n:Nat}(hn:l.most=some n){P:Params}{h:Heap}{args:List WData}{vals:List Value}
  (hpre:l.row.toRowW.claim.pre args=true)(hwl:WellAll P h vals args):
  ∃a vs ns,vals=[Value.ref a]∧args=[WData.list (ns.map WData.int)]∧h.get? a=some { cls:=.type "list",data:=.seq vs.toArray }∧IntsAre vs ns∧ns.length≤n:=by
 have hsh:WShape.hasAll [] args [.list .int]=true:=(pre_splitW hpre).1
 have hc:l.pre.holds [] { args:=args }=true:=(pre_splitW hpre).2
 obtain⟨d,r,rfl,h1,h2⟩:=hasAllW_cons hsh
 obtain rfl:=hasAllW_nil h2
 obtain⟨xs,rfl,h3⟩:=hasW_list h1
 obtain⟨ns,rfl⟩:=items_int h3
 have hlen:ns.length≤n:=by
  unfold OpenLaw.pre at hc
  have h4:(WTm.not (.lt (.lit (.int (n:Int))) (.len (.arg 0)))).holds [] { args:=[.list (ns.map .int)] }=true:=by
   have h4:=(holds_andW hc).1
   rw[hn] at h4
   exact h4
  have h5:=condW_of h4 (w_not (w_lt w_lit (w_len_list (w_arg rfl))))
  rw[Vac] at h5
  refine Nat.le_of_not_lt λq=>?_
  have q':(n:Int)<((ns.length:Nat):Int):=by omega
  first
   | (rw[decide_eq_true q'] at h5; exact absurd h5 (by decide))
   | (simp at h5; omega)
 cases hwl with
 | cons w1 w2=>
  cases w2
  cases w1 with
  | list ho hall=>exact⟨_,_,ns,rfl,rfl,ho,zuF ns _ hall,hlen⟩
theorem zt4 (l:OpenLaw)(args:List WData):l.row.toRowW.claim.post args (.bool true) args=true:=
 postW_of (r:=l.row.toRowW) (X:=(true==true))
  (show WShape.has [] (.bool true) .bool=true by first | rfl | decide | simp[WShape.has,WShape.arms,WShape.armsAll])
  (show (WTm.eq .res (.lit (.bool true))).value [] { args:=args,res:=some (.bool true),after:=args }=some (.bool (true==true)) from w_eq_bool (w_res rfl) w_lit) rfl
theorem attach_call {l:OpenLaw}{n:Nat}{q:Program}{loose:List Str}{XP:(Str→Option Value)→Heap→Prop}{YP:World→Heap→Prop}{d:DefRec}
  (hn:l.most=some n)(hdf:d.params.defaults=[])
  (call:∀(w:World) (s₀ s₁:Shared) (mg mb:Str→Option Value) (fa:Addr) (o:Obj) (pm cd doc:Value) (a:Addr) (vs:List Value) (ns:List Int),
   Ground q loose [] XP w s₀ mg mb s₁.heap→YP w s₁.heap→
   s₁.heap.get? fa=some o→o.data=.func (docDef d.name d.params d.body d.scope pm cd doc)→s₁.heap.CodeRec cd d.name→mg d.name=some (.ref fa)→
   s₁.heap.get? a=some { cls:=.type "list",data:=.seq vs.toArray }→IntsAre vs ns→ns.length≤n→s₁.gens=#[]→
   codeAny (model l.prog w) callerA (.call (.ref fa) ⟨[.ref a],[]⟩) (λr s'=>r=.ok (.ret (.bool true))∧OldK s₁.heap s'.heap∧s'.os=s₁.os∧AllBare s'.gens) s₁):
  WalkO q loose XP YP l.row.toRowW d [] (λf vs=>PySem.call f vs):=by
 intro w s₀ s₁ mg mb G Y fa o pm cd doc dV kV ho hd hcd hD hmg hg args vals as hpre hlay hrd hwl hlo
 obtain rfl:dV=.none:=Dflts.none hD hdf
 obtain rfl:kV=.none:=Dflts.noKw hD
 obtain⟨a,vs,ns,rfl,rfl,hobj,hints,hlen⟩:=zrg hn hpre hwl
 refine enter_call (codeAny_mono (call w s₀ s₁ mg mb fa o pm cd doc a vs ns G Y ho (fd_plain hd) hcd hmg hobj hints hlen hg) λr s' hq=>?_)
 obtain⟨rfl,h2,h3,h4⟩:=hq
 exact⟨.inl ⟨.bool true,.bool true,[],rfl,λ_=>rfl,.bool true,zt4 l _,λ_=>⟨List.Pairwise.nil,λ_ hm=>(nomatch hm)⟩⟩,h2,h3,h4⟩
section
variable {prog:Program}{w:World}{A:Around}{E:Value→Shared→Prop}{s:Shared}{K:Frag}
def ledger (h:Heap)(L d:Addr):List (Addr×Obj):=(List.range h.objs.size).filterMap λa=>if a=L∨a=d then none else (h.get? a).map λo=>(a,o)
end
end Att
namespace L2
open PySem PySem.Spec PyProof.Rows
theorem zfe:∀ {vs:List Value} {ns:List Int},IntsAre vs ns→zao (ns.map V.int) vs
 | _,_,.nil=>.nil
 | _,_,.cons n t h=>.cons ⟨t,rfl⟩ (zfe h)
def zeO (H:Hp):Prop:=∀b,H b=none∨∃o xs,H b=some (.frz o (.lst xs))
theorem zs1 {P:Program}{w:World}{K:PySem.W.Frag}{mg mb:Str→Option Value}{CX:CXT}{k:Nat}{fa a:Addr}{fd:FuncData}{x:Str}{sp:Sp}{s₁:Shared}{vs:List Value}{ns:List Int}
  (KX:K.In s₁.heap)(hns:s₁.heap.Ns mainGlobals mg)(hb:s₁.heap.Ns builtinsNs mb)(hbb:∀x:Str,x≠"__name__"→mb x=bootBuiltins x)(hlim:s₁.heap.NoLimit)(hg:s₁.gens=#[])
  (ha:s₁.heap.get? a=some { cls:=.type "list",data:=.seq vs.toArray })(hi:IntsAre vs ns)(hl:ns.length≤sizeLine)(hr:zaQ k callerA)
  (F:∀base:Heap,K.In base→base.Ns mainGlobals mg→zbb P w K mg base CX k fa fd [x] sp)(hbind:∀(s:Shared) (u:Value),BindsTo s fd ⟨[u],[]⟩ [(x,u)])
  (hsp:∀H:Hp,zeO H→SqL K H a (ns.map V.int)→sp [.ref a] H (λv _=>v=.bl true) λ_ _ _=>False)
  (hCX:∀H e s',CX [] H s₁ (λ_ _ _=>False) e s'→False):
  codeAny (model P w) callerA (.call (.ref fa) ⟨[.ref a],[]⟩) (λr s'=>r=.ok (.ret (.bool true))∧OldK s₁.heap s'.heap∧s'.os=s₁.os∧AllBare s'.gens) s₁:=by
 have rv:=zfe hi
 have lenV:=hi.length
 have core:∀H:Hp,zeO H→SqL K H a (ns.map V.int)→HOk P w H s₁.heap→(∀b,H b≠none→b=a)→(H a≠none→K.lookup a=none)→
   codeAny (model P w) callerA (.call (.ref fa) ⟨[.ref a],[]⟩) (λr s'=>r=.ok (.ret (.bool true))∧OldK s₁.heap s'.heap∧s'.os=s₁.os∧AllBare s'.gens) s₁:=by
  intro H hO hS hok hA hK
  have base_of:∀ {b:Addr} {o:Obj},s₁.heap.get? b=some o→H b=none→(zcT s₁.heap H).get? b=some o:=λe n=>zsa e n
  have noA:∀ {b:Addr} {o:Obj} {es:Array DictEntry} {ep:Nat},s₁.heap.get? b=some o→o.data=.dict es ep→H b=none:=λ{b o es ep} e d=>by
   cases q:H b with
   | none=>rfl
   | some u=>
    have e':b=a:=hA b (by rw[q]; simp)
    subst e'
    rw[ha] at e; cases e
    have d':Data.seq vs.toArray _=Data.dict es ep:=d
    cases d'
  have nsK:∀ {b:Addr} {m:Str→Option Value},s₁.heap.Ns b m→(zcT s₁.heap H).Ns b m:=λ{b m} ⟨o,es,ep,e,d,r⟩=>⟨o,es,ep,base_of e (noA e d),d,r⟩
  have hKb:K.In (zcT s₁.heap H):=λb o e=>base_of (KX b o e) (by
   cases q:H b with
   | none=>rfl
   | some u=>
    have e':b=a:=hA b (by rw[q]; simp)
    subst e'
    rw[hK (by rw[q]; simp)] at e; cases e)
  have hM:Mod K mg (zcT s₁.heap H):=⟨hKb,nsK hns,⟨mb,nsK hb,hbb⟩,let ⟨mc,h1,h2⟩:=hlim; ⟨mc,nsK h1,h2⟩⟩
  have e0:zcr P w K mg (zcT s₁.heap H) callerA [] s₁ H:=⟨rfl,hM,λb o e=>zrG e,Nat.le_of_eq (zrf _ _),trivial,λb hb=>absurd (show b∈([]:List Addr) from hb) (by simp),hok,.of_eq hg⟩
  refine codeAny_mono ((F _ hKb (nsK hns)).run callerA [] s₁ H ⟨[.ref a],[]⟩ [.ref a] [.ref a] _ _ hr e0 (hbind s₁ (.ref a)) (.cons rfl .nil) (hsp H hO hS)) λr s' h=>?_
  cases r with
  | error e=>exact(hCX H e s' h).elim
  | ok fl=>
   cases fl with
   | next=>exact False.elim h
   | brk=>exact False.elim h
   | cont=>exact False.elim h
   | ret u=>
    obtain⟨v,H',os,bare,un,hok',r',q⟩:=h
    have q':v=.bl true:=q
    subst q'
    obtain rfl:u=Value.bool true:=r'
    refine⟨rfl,OldK.of_keep λb o e=>?_,os,bare⟩
    cases q:H b with
    | none=>exact un.keep b o e q (by intro z; exact absurd (show b∈([]:List Addr) from z) (by simp)) (by simp)
    | some u=>
     rcases hO b with z | ⟨ob,xs,z⟩
     ·rw[q] at z; cases z
     ·have z2:=un.frzs b ob _ z
      obtain⟨e1,_⟩:=hok b _ z
      obtain⟨e2,_⟩:=hok' b _ z2
      rw[e] at e1; cases e1
      exact e2
 cases hk:K.lookup a with
 | some o=>
  have e:=KX a o hk
  rw[ha] at e
  cases e
  refine core (λ_=>none) (λ_=>.inl rfl) (.inr ⟨_,vs.toArray,_,hk,rfl,rfl,rfl,by rw[Vak,lenV]; exact hl,by simpa using rv⟩) (λb u z=>by have z':(none:Option HO)=some u:=z; cases z') (λb z=>absurd rfl z) λz=>absurd rfl z
 | none=>
  refine core (λb=>if b=a then some (.frz { cls:=.type "list",data:=.seq vs.toArray } (.lst (ns.map V.int))) else none) (λb=>?_) (.inl (.inr ⟨{ cls:=.type "list",data:=.seq vs.toArray },if_pos rfl⟩)) (λb u z=>?_) (λb z=>?_) λ_=>hk
  ·by_cases hb:b=a
   ·exact .inr ⟨_,_,if_pos hb⟩
   ·exact .inl (if_neg hb)
  ·by_cases hb:b=a
   ·have z':=(if_pos hb).symm.trans z
    cases z'
    subst hb
    exact⟨ha,by rw[Vac]; exact hl,vs,_,rv,ha⟩
   ·have z':=(if_neg hb).symm.trans z
    cases z'
  ·by_cases hb:b=a
   ·exact hb
   ·exact absurd (if_neg hb) z
end L2
namespace L2
open PySem PySem.Spec PyProof.Rows
theorem zpG {l:PySem.W.OpenLaw}{n k:Nat}{q:Program}{loose:List Str}{XP:(Str→Option Value)→Heap→Prop}{YP:World→Heap→Prop}{d:DefRec}{K:Params→PySem.W.Frag}{CX:World→CXT}{sp:World→Sp}{x:Str}
  (hn:l.most=some n)(hn2:n≤sizeLine)(hdf:d.params.defaults=[])(hr:zaQ k callerA)
  (hY:∀(w:World) (h:Heap),YP w h→(K w.params).In h)
  (F:∀(w:World) (mg:Str→Option Value) (fa:Addr) (h:Heap),(K w.params).In h→h.Ns mainGlobals mg→mg d.name=some (.ref fa)→
   ∃fd:FuncData,(∀(s:Shared) (u:Value),BindsTo s fd ⟨[u],[]⟩ [(x,u)])∧
    ∀base:Heap,(K w.params).In base→base.Ns mainGlobals mg→zbb l.prog w (K w.params) mg base (CX w) k fa fd [x] (sp w))
  (hsp:∀(w:World) (H:Hp) (a:Addr) (ns:List Int),ns.length≤n→zeO H→SqL (K w.params) H a (ns.map V.int)→sp w [.ref a] H (λv _=>v=.bl true) λ_ _ _=>False)
  (hCX:∀(w:World) (H:Hp) (s:Shared) (e:Value) (s':Shared),CX w [] H s (λ_ _ _=>False) e s'→False):
  PySem.W.WalkO q loose XP YP l.row.toRowW d [] (λf vs=>PySem.call f vs):=by
 refine Att.attach_call hn hdf λw s₀ s₁ mg mb fa o pm cd doc a vs ns G Y ho hd hcd hmg hobj hints hlen hg=>?_
 have KX:=hY w _ Y
 obtain⟨fd,hb,hF⟩:=F w mg fa _ KX G.T.g hmg
 exact zs1 KX G.T.g G.T.b G.T.builtins G.T.nolimit hg hobj hints (Vaz hlen hn2) hr hF hb (λH hO hS=>hsp w H a ns hlen hO hS) λH e s'=>hCX w H s₁ e s'
end L2
namespace L2
open PySem PySem.Spec PyProof.Rows
abbrev CX0:CXT:=λ_ _ _ _ _ _=>False
structure Fun (K:PySem.W.Frag)(x qual:Str)(st:Stmt)(f:Addr)(fd:FuncData):Prop where
 ex:∃(oc:Value) (od:Option Addr) (kV doc pm:Value) (an:Option Addr) (cdv ct:Value) (osl:Array (Option Value)),
  fd=PySem.W.fnOf x qual (zcP st) (zcv st) (zak st) .none kV doc pm an cdv ct∧K.lookup f=some ⟨oc,od,.func fd,osl⟩∧PySem.W.codeIn K cdv qual=true
 kp:PySem.W.keepIn K (.ref f)=true
section
variable {P:Program}{w:World}{K:PySem.W.Frag}{mg:Str→Option Value}{base:Heap}
theorem Fun.ok {x qual:Str}{st:Stmt}{f:Addr}{fd:FuncData}{N ps:List Str}{k:Nat}{sp:Sp}(F:Fun K x qual st f fd)(S:zaA N ps (zak st))(len:∀vs H Q E,sp vs H Q E→vs.length=ps.length)
  (hbody:∀(cdv:Value) (A:Around) (outer:List Env) (s:Shared) (H:Hp) (vs:List V) (Q:VK) (E:XK),zaQ k (A.deeper (envOfC qual (zak st) s.heap.objs.size f cdv))→sp vs H Q E→
   ∃t,PSs (zdF CX0 P w K mg base N qual (zak st) f cdv A outer s H E).nox (zcv st) t∧t { nx:=λ_ H'=>Q .non H',rt:=Q } (zcw N vs) H):zbb P w K mg base CX0 (k+1) f fd ps sp:=by
 obtain⟨oc,od,kV,doc,pm,an,cdv,ct,osl,rfl,lk,hcd⟩:=F.ex
 refine zoY lk hcd S len λA outer s H vs Q E hr hsp=>?_
 obtain⟨t,h,q⟩:=hbody cdv A outer s H vs Q E hr hsp
 exact⟨t,h.nox,q⟩
theorem Fun.binds {x qual:Str}{st:Stmt}{f:Addr}{fd:FuncData}{ps:List Str}(F:Fun K x qual st f fd)
  (h:∀(kV doc pm:Value) (an:Option Addr) (cdv ct:Value) (us:List Value),us.length=ps.length→bindArgs (PySem.W.fnOf x qual (zcP st) (zcv st) (zak st) .none kV doc pm an cdv ct) ⟨us,[]⟩=pure (ps.zip us)):zbD K fd ps []:=by
 obtain⟨oc,od,kV,doc,pm,an,cdv,ct,osl,rfl,lk,hcd⟩:=F.ex
 exact .all (h kV doc pm an cdv ct)
theorem zkr {x qual:Str}{st:Stmt}{f:Addr}{oc:Value}{od an:Option Addr}{osl:Array (Option Value)}{kV doc pm cdv ct:Value}(l:K.lookup f=some ⟨oc,od,.func (PySem.W.fnOf x qual (zcP st) (zcv st) (zak st) .none kV doc pm an cdv ct),osl⟩)
  (c:PySem.W.codeIn K cdv qual=true)(k:PySem.W.keepIn K (.ref f)=true):Fun K x qual st f (PySem.W.fnOf x qual (zcP st) (zcv st) (zak st) .none kV doc pm an cdv ct):=⟨⟨oc,od,kV,doc,pm,an,cdv,ct,osl,rfl,l,c⟩,k⟩
end
theorem zjf {n:Nat}(h:n≤1000):n<sizeLine:=Nat.lt_of_le_of_lt h (by decide)
section
variable {X:Cx}
theorem pv (i:Nat){x:Str}{pos:Pos}(hN:X.N[i]?=some x:=by rfl)(hv:Vis X.env.scope x:=by first | exact Or.inl rfl | exact Or.inr (Or.inl rfl) | exact Or.inr (Or.inr rfl))(hd:(x==("__debug__":Str))=false:=by decide)
  (hcd:(x==("__classdict__":Str))=false:=by decide):PE X (.Name x pos) (tVar i):=zoj hN hv hd hcd
end
theorem zbH {A B:Prop}(h:B):if false=true then A else B:=by
 rw[if_neg Vao]
 exact h
theorem zbJ {A B:Prop}(h:A):if true=true then A else B:=by
 rw[if_pos rfl]
 exact h
theorem zcK {c A B:Prop} [Decidable c] (h1:c→A)(h2:¬ c→B):if c then A else B:=by
 by_cases h:c
 ·rw[if_pos h]
  exact h1 h
 ·rw[if_neg h]
  exact h2 h
def zcC (H H':Hp):Prop:=∀b o,H b=some o→H' b=some o
theorem zcC.refl (H:Hp):zcC H H:=λ_ _ h=>h
theorem zcC.trans {H H1 H2:Hp}(a:zcC H H1)(b:zcC H1 H2):zcC H H2:=λc o h=>b c o (a c o h)
theorem zcC.free {H H':Hp}(e:zcC H H'){l:Addr}(h:H' l=Option.none):H l=Option.none:=by
 cases q:H l with
 | none=>rfl
 | some o=>
  rw[e l o q] at h
  cases h
theorem zcC.seq {K:PySem.W.Frag}{H H':Hp}{a:Addr}{xs:List V}(e:zcC H H')(h:SqL K H a xs):SqL K H' a xs:=by
 rcases h with (h | ⟨o,h⟩) | h
 ·exact .inl (.inl (e _ _ h))
 ·exact .inl (.inr ⟨o,e _ _ h⟩)
 ·exact .inr h
end L2
namespace L2
open PySem PySem.Spec PyProof.Rows
section
variable {κ:Type} [DecidableEq κ]
def zbQ (kvs:List (κ×V))(k:κ):Option V:=(kvs.find? λkv=>decide (kv.1=k)).map (·.2)
def putK (kvs:List (κ×V))(k:κ)(v:V):List (κ×V):=
 if (kvs.any λkv=>decide (kv.1=k))=true then kvs.map (λkv=>if kv.1=k then (kv.1,v) else kv) else kvs++[(k,v)]
def znE (kvs:List (κ×V))(k:κ):List (κ×V):=kvs.filter λkv=>decide (kv.1≠k)
theorem zi7 {p:κ×V}{r:List (κ×V)}{k:κ}(e:p.1=k):zbQ (p::r) k=some p.2:=by simp[zbQ,VaZ,e]
theorem ziU {p:κ×V}{r:List (κ×V)}{k:κ}(e:¬ p.1=k):zbQ (p::r) k=zbQ r k:=by simp[zbQ,VaZ,e]
theorem zn5 (k:κ):∀kvs:List (κ×V),(kvs.any λkv=>decide (kv.1=k))=(zbQ kvs k).isSome
 | []=>rfl
 | p::r=>by
  rw[List.any_cons]
  by_cases e:p.1=k
  ·simp only[zi7 e,decide_eq_true e,Bool.true_or,Option.isSome_some]
  ·rw[ziU e,decide_eq_false e,Bool.false_or]; exact zn5 k r
theorem zbz.isSome_eq {o:Option V}{u:Option Value}(r:zbz o u):o.isSome=u.isSome:=by
 cases o with
 | none=>cases u with
  | none=>rfl
  | some _=>exact(show False from r).elim
 | some _=>cases u with
  | none=>exact(show False from r).elim
  | some _=>rfl
theorem zbz.getD {o:Option V}{u:Option Value}{d:V}{d':Value}(r:zbz o u)(rd:zan d d'):zan (o.getD d) (u.getD d'):=by
 cases o with
 | none=>cases u with
  | none=>exact rd
  | some _=>exact(show False from r).elim
 | some _=>cases u with
  | none=>exact(show False from r).elim
  | some _=>exact r
theorem KV.val {kvs:List (κ×V)}{vs:List (κ×Value)}(r:KV kvs vs)(k:κ):zbz (zbQ kvs k) (valueAt vs k):=by
 unfold KV at r
 induction r with
 | nil=>exact True.intro
 | @cons p q ps qs h t ih=>
  obtain⟨h1,h2⟩:=h
  by_cases e:p.1=k
  ·have e':q.1=k:=h1.symm.trans e
   have b:valueAt (q::qs) k=some q.2:=by simp[valueAt,VaZ,e']
   rw[zi7 e,b]; exact h2
  ·have e':¬ q.1=k:=λz=>e (h1.trans z)
   have b:valueAt (q::qs) k=valueAt qs k:=by simp[valueAt,VaZ,e']
   rw[ziU e,b]; exact ih
theorem KV.any {kvs:List (κ×V)}{vs:List (κ×Value)}(r:KV kvs vs)(k:κ):(kvs.any λkv=>decide (kv.1=k))=vs.any λkv=>decide (kv.1=k):=by
 unfold KV at r
 induction r with
 | nil=>rfl
 | cons h t ih=>rw[List.any_cons,List.any_cons,ih,h.1]
theorem KV.repl {kvs:List (κ×V)}{vs:List (κ×Value)}(r:KV kvs vs)(k:κ){y:V}{u:Value}(ry:zan y u):
  KV (kvs.map λkv=>if kv.1=k then (kv.1,y) else kv) (vs.map λkv=>if kv.1=k then (kv.1,u) else kv):=by
 unfold KV at r ⊢
 induction r with
 | nil=>exact .nil
 | @cons p q ps qs h t ih=>
  rw[Var,Var]
  refine .cons ?_ ih
  obtain⟨h1,h2⟩:=h
  by_cases e:p.1=k
  ·rw[if_pos e,if_pos (h1.symm.trans e)]; exact⟨h1,ry⟩
  ·rw[if_neg e,if_neg (λz=>e (h1.trans z))]; exact⟨h1,h2⟩
theorem KV.put {kvs:List (κ×V)}{vs:List (κ×Value)}(r:KV kvs vs)(k:κ){y:V}{u:Value}(ry:zan y u):KV (putK kvs k y) (stored vs k u):=by
 unfold putK stored
 rw[r.any k]
 by_cases e:(vs.any λkv=>decide (kv.1=k))=true
 ·rw[if_pos e,if_pos e]; exact r.repl k ry
 ·rw[if_neg e,if_neg e]; exact Paired.snoc r ⟨rfl,ry⟩
theorem KV.drop {kvs:List (κ×V)}{vs:List (κ×Value)}(r:KV kvs vs)(k:κ):KV (znE kvs k) (without vs k):=by
 unfold KV at r ⊢
 unfold znE without
 induction r with
 | nil=>exact .nil
 | @cons p q ps qs h t ih=>
  obtain⟨h1,h2⟩:=h
  rw[List.filter_cons,List.filter_cons]
  by_cases e:p.1=k
  ·have a:¬ decide (p.1≠k)=true:=by simp[e]
   have b:¬ decide (q.1≠k)=true:=by simp[h1.symm.trans e]
   rw[if_neg a,if_neg b]; exact ih
  ·have e':¬ q.1=k:=λz=>e (h1.trans z)
   have a:decide (p.1≠k)=true:=by simp[e]
   have b:decide (q.1≠k)=true:=by simp[e']
   rw[if_pos a,if_pos b]; exact .cons ⟨h1,h2⟩ ih
theorem KV.keys {kvs:List (κ×V)}{vs:List (κ×Value)}(r:KV kvs vs):kvs.map (·.1)=vs.map (·.1):=by
 unfold KV at r
 induction r with
 | nil=>rfl
 | cons h t ih=>rw[Var,Var,ih,h.1]
theorem KV.length {kvs:List (κ×V)}{vs:List (κ×Value)}(r:KV kvs vs):kvs.length=vs.length:=Paired.length r
end
abbrev KT (H:Hp):List (List Key×V)→List (List Key×Addr×Value)→Prop:=Paired λp q=>p.1=q.1∧H q.2.1=some (.tup (p.1.map kV))∧zan p.2 q.2.2
theorem KT.val {H:Hp}{kvs:List (List Key×V)}{xs:List (List Key×Addr×Value)}(r:KT H kvs xs)(k:List Key):zbz (zbQ kvs k) ((atKey xs k).map (·.2)):=by
 induction r with
 | nil=>exact True.intro
 | @cons p q ps qs h t ih=>
  obtain⟨h1,_,h2⟩:=h
  by_cases e:p.1=k
  ·have e':q.1=k:=h1.symm.trans e
   have b:atKey (q::qs) k=some q.2:=by simp[atKey,VaZ,e']
   rw[zi7 e,b]; exact h2
  ·have e':¬ q.1=k:=λz=>e (h1.trans z)
   have b:atKey (q::qs) k=atKey qs k:=by simp[atKey,VaZ,e']
   rw[ziU e,b]; exact ih
theorem KT.repl {H:Hp}{kvs:List (List Key×V)}{xs:List (List Key×Addr×Value)}(r:KT H kvs xs)(k:List Key){y:V}{u:Value}(ry:zan y u):
  KT H (kvs.map λkv=>if kv.1=k then (kv.1,y) else kv) (xs.map (putAt k u)):=by
 induction r with
 | nil=>exact .nil
 | @cons p q ps qs h t ih=>
  rw[Var,Var]
  refine .cons ?_ ih
  obtain⟨h1,h2,h3⟩:=h
  unfold putAt
  by_cases e:p.1=k
  ·rw[if_pos e,if_pos (h1.symm.trans e)]; exact⟨h1,h2,ry⟩
  ·rw[if_neg e,if_neg (λz=>e (h1.trans z))]; exact⟨h1,h2,h3⟩
theorem KT.put {H:Hp}{kvs:List (List Key×V)}{xs:List (List Key×Addr×Value)}(r:KT H kvs xs)(k:List Key){b:Addr}{y:V}{u:Value}(hb:H b=some (.tup (k.map kV)))(ry:zan y u):
  KT H (putK kvs k y) (storedH xs k b u):=by
 have e:(kvs.any λkv=>decide (kv.1=k))=(atKey xs k).isSome:=by
  rw[zn5,(r.val k).isSome_eq,Option.isSome_map]
 unfold putK storedH
 rw[e]
 by_cases q:(atKey xs k).isSome=true
 ·rw[if_pos q,if_pos q]; exact r.repl k ry
 ·rw[if_neg q,if_neg q]; exact Paired.snoc r ⟨rfl,hb,ry⟩
theorem KT.keeps {H H':Hp}{kvs:List (List Key×V)}{xs:List (List Key×Addr×Value)}(r:KT H kvs xs)(ht:∀b ys,H b=some (.tup ys)→H' b=some (.tup ys)):KT H' kvs xs:=
 Paired.mapP r λ_ _ z=>⟨z.1,ht _ _ z.2.1,z.2.2⟩
section
variable {P:Program}{w:World}{H:Hp}{h:Heap}{a:Addr}
end
def zkJ (H:Hp)(a:Addr)(y:V)(r:Option V):Prop:=
 (∃kvs k,Rd H a (.dK kvs)∧y=kV k∧r=zbQ kvs k)∨∃kvs k b,Rd H a (.dT kvs)∧y=.ref b∧H b=some (.tup (k.map kV))∧r=zbQ kvs k
def zjz (H:Hp)(a:Addr)(y v:V)(H':Hp):Prop:=
 (∃kvs k,H a=some (.dK kvs)∧y=kV k∧kvs.length<sizeLine∧H'=upd H a (.dK (putK kvs k v)))∨
 ∃kvs k b,H a=some (.dT kvs)∧y=.ref b∧H b=some (.tup (k.map kV))∧kvs.length<sizeLine∧H'=upd H a (.dT (putK kvs k v))
theorem zkJ.k {H:Hp}{a:Addr}{kvs:List (Key×V)}{k:Key}(e:H a=some (.dK kvs)):zkJ H a (kV k) (zbQ kvs k):=.inl ⟨kvs,k,.inl e,rfl,rfl⟩
theorem zkJ.t {H:Hp}{a b:Addr}{kvs:List (List Key×V)}{k:List Key}(e:H a=some (.dT kvs))(eb:H b=some (.tup (k.map kV))):zkJ H a (.ref b) (zbQ kvs k):=.inr ⟨kvs,k,b,.inl e,rfl,eb,rfl⟩
theorem zjz.k {H:Hp}{a:Addr}{kvs:List (Key×V)}{k:Key}{v:V}(e:H a=some (.dK kvs))(hl:kvs.length<sizeLine):zjz H a (kV k) v (upd H a (.dK (putK kvs k v))):=.inl ⟨kvs,k,e,rfl,hl,rfl⟩
theorem zjz.t {H:Hp}{a b:Addr}{kvs:List (List Key×V)}{k:List Key}{v:V}(e:H a=some (.dT kvs))(eb:H b=some (.tup (k.map kV)))(hl:kvs.length<sizeLine):
  zjz H a (.ref b) v (upd H a (.dT (putK kvs k v))):=.inr ⟨kvs,k,b,e,rfl,eb,hl,rfl⟩
section
variable {X:Cx}{pins:List (Addr×Obj)}{σ:St}{H:Hp}{s:Shared}{a:Addr}{y v:V}{u r:Value}{o:Option V}{A:Around}{E:Value→Shared→Prop}
theorem Inv.big (I:Inv X pins σ H s):sysModules<s.heap.objs.size:=by
 have h:mainGlobals<s.heap.objs.size:=(I.mod.glob.keeps I.bk).lt
 exact Nat.lt_trans (by decide) h
end
section
variable {X:Cx}{pins:List (Addr×Obj)}{σ:St}{H:Hp}{s:Shared}{a:Addr}{kvs:List (Key×V)}{k:Key}{u:Value}{A:Around}{E:Value→Shared→Prop}
end
section
variable {X:Cx}{o i e value:Expr}{pos pos' tpos:Pos}{td ty tv:TE}
end
section
variable {X:Cx}{pos:Pos}
end
structure M1 (X:Cx)(o:Expr)(m:Str)(apos:Pos)(e:Expr)(cpos:Pos):Prop where
 base:attributeBase o m X.env (eval o X.env)=eval o X.env
 few:((backTo cpos (starEach [e] X.env)).all (λx=>!x.1)&&(backToKw cpos (keywordEach [] X.env)).all (λx=>x.1.isSome)
 &&decide (([e]:List Expr).length+([]:List Keyword).length+(if ([]:List Keyword).isEmpty then 0 else 1)<30))=true
 line:(apos.endLine==cpos.line)=true
 trees:backTo cpos (starEach [e] X.env)=[(false,eval e X.env)]
structure M2 (X:Cx)(o:Expr)(m:Str)(apos:Pos)(e f:Expr)(cpos:Pos):Prop where
 base:attributeBase o m X.env (eval o X.env)=eval o X.env
 few:((backTo cpos (starEach [e,f] X.env)).all (λx=>!x.1)&&(backToKw cpos (keywordEach [] X.env)).all (λx=>x.1.isSome)
 &&decide (([e,f]:List Expr).length+([]:List Keyword).length+(if ([]:List Keyword).isEmpty then 0 else 1)<30))=true
 line:(apos.endLine==cpos.line)=true
 trees:backTo cpos (starEach [e,f] X.env)=[(false,eval e X.env),(false,eval f X.env)]
section
variable {X:Cx}{pins:List (Addr×Obj)}{σ:St}{H:Hp}{s:Shared}{a:Addr}{y d:V}{u r:Value}{o:Option V}{A:Around}{E:Value→Shared→Prop}
end
section
variable {X:Cx}{o e f:Expr}{apos cpos:Pos}{td ty tx:TE}
end
section
variable {X:Cx}{pins:List (Addr×Obj)}{σ:St}{H:Hp}{s:Shared}{a:Addr}{kvs:List (Key×V)}{A:Around}{E:Value→Shared→Prop}
end
section
variable {X:Cx}{pins:List (Addr×Obj)}{σ:St}{H:Hp}{s:Shared}{a:Addr}{y:V}{u:Value}{A:Around}{E:Value→Shared→Prop}
end
end L2
namespace L3
open PySem PySem.Spec PyProof.Rows L2
abbrev St:=L2.St
inductive D where
 | non | bl (b:Bool) | int (i:Int) | str (x:Str) | tup (xs:List D) | ref (n:Nat) | exc (c:Addr)
inductive Ob where
 | lst (xs:List D) | frz (xs:List D)
  | ins (C:Addr) (fs:List (Str×D))
  | dct (kvs:List (List Key×D))
  | tpl (ws:List Str)
  | dck (kvs:List (Key×D))
abbrev Sto:=List Ob
abbrev Ev:=List (Option D)
abbrev DK:=D→Sto→Prop
abbrev TDE:=Ev→Sto→DK→Prop
abbrev TDT:=Ev→Sto→(Bool→Sto→Prop)→Prop
abbrev TDA:=Ev→Sto→(List D→Sto→Prop)→Prop
structure zbX where
 nx:Ev→Sto→Prop
 rt:DK
 bk:Ev→Sto→Prop:=λ_ _=>False
 ct:Ev→Sto→Prop:=λ_ _=>False
abbrev TDS:=zbX→Ev→Sto→Prop
def isX (a c:Addr):HO:=.ext λh=>∃o,h.get? a=some o∧o.cls=.ref c
inductive Rp (r:List Addr)(H:Hp):D→V→Prop
 | non:Rp r H .non .non
 | bl (b:Bool):Rp r H (.bl b) (.bl b)
 | int (i:Int):Rp r H (.int i) (.int i)
 | str (x:Str):Rp r H (.str x) (.str x)
 | tup {ds:List D} {xs:List V} {a:Addr}:H a=some (.tup xs)→ds.length=xs.length→(∀(i:Nat) (d:D) (v:V),ds[i]?=some d→xs[i]?=some v→Rp r H d v)→Rp r H (.tup ds) (.ref a)
 | ref {n:Nat} {a:Addr}:r[n]?=some a→Rp r H (.ref n) (.ref a)
 | exc {c a:Addr}:H a=some (isX a c)→Rp r H (.exc c) (.ref a)
def Rps (r:List Addr)(H:Hp)(ds:List D)(vs:List V):Prop:=ds.length=vs.length∧∀(i:Nat) (d:D) (v:V),ds[i]?=some d→vs[i]?=some v→Rp r H d v
structure Ext (r r':List Addr)(H H':Hp):Prop where
 adr:∀(n:Nat) (a:Addr),r[n]?=some a→r'[n]?=some a
 tup:∀a xs,H a=some (.tup xs)→H' a=some (.tup xs)
 xc:∀a c,H a=some (isX a c)→H' a=some (isX a c)
section
variable {r r' r2:List Addr}{H H' H2:Hp}{d:D}{v:V}{ds:List D}{vs:List V}
theorem Ext.refl:Ext r r H H:=⟨λ_ _ h=>h,λ_ _ h=>h,λ_ _ h=>h⟩
theorem Ext.trans (a:Ext r r' H H')(b:Ext r' r2 H' H2):Ext r r2 H H2:=⟨λn x h=>b.adr n x (a.adr n x h),λx y h=>b.tup x y (a.tup x y h),λx y h=>b.xc x y (a.xc x y h)⟩
theorem Rp.ext (h:Rp r H d v)(e:Ext r r' H H'):Rp r' H' d v:=by
 induction h with
 | non=>exact .non
 | bl b=>exact .bl b
 | int i=>exact .int i
 | str x=>exact .str x
 | tup h l _ ih=>exact .tup (e.tup _ _ h) l ih
 | ref h=>exact .ref (e.adr _ _ h)
 | exc h=>exact .exc (e.xc _ _ h)
theorem Rps.ext (h:Rps r H ds vs)(e:Ext r r' H H'):Rps r' H' ds vs:=⟨h.1,λi d v h1 h2=>(h.2 i d v h1 h2).ext e⟩
theorem Rps.nil:Rps r H [] []:=⟨rfl,λi d v h=>by simp at h⟩
theorem Rps.cons (h:Rp r H d v)(t:Rps r H ds vs):Rps r H (d::ds) (v::vs):=by
 refine⟨by simp[t.1],λi x y h1 h2=>?_⟩
 cases i with
 | zero=>
  simp at h1 h2
  subst h1; subst h2
  exact h
 | succ i=>exact t.2 i x y (by simpa using h1) (by simpa using h2)
theorem Rps.tail {y:V}(h:Rps r H (d::ds) (y::vs)):Rp r H d y∧Rps r H ds vs:=
 ⟨h.2 0 d y rfl rfl,by simpa using h.1,λi a b h1 h2=>h.2 (i+1) a b (by simpa using h1) (by simpa using h2)⟩
theorem Rps.uncons (h:Rps r H (d::ds) vs):∃v vs',vs=v::vs'∧Rp r H d v∧Rps r H ds vs':=by
 cases vs with
 | nil=>exact absurd h.1 (by simp)
 | cons v vs'=>exact⟨v,vs',rfl,h.tail⟩
theorem Rps.unnil (h:Rps r H [] vs):vs=[]:=by
 cases vs with
 | nil=>rfl
 | cons v vs'=>exact absurd h.1 (by simp)
theorem Rps.get {i:Nat}(h:Rps r H ds vs)(e:ds[i]?=some d):∃v,vs[i]?=some v∧Rp r H d v:=by
 have hi:i<ds.length:=(Vab.mp e).1
 have hv:i<vs.length:=by rw[← h.1]; exact hi
 exact⟨vs[i],by simp[hv],h.2 i d vs[i] e (by simp[hv])⟩
theorem Rps.get' {i:Nat}(h:Rps r H ds vs)(e:vs[i]?=some v):∃d,ds[i]?=some d∧Rp r H d v:=by
 have hv:i<vs.length:=(Vab.mp e).1
 have hi:i<ds.length:=by rw[h.1]; exact hv
 exact⟨ds[i],by simp[hi],h.2 i ds[i] v (by simp[hi]) e⟩
theorem Rps.snoc (h:Rps r H ds vs)(t:Rp r H d v):Rps r H (ds++[d]) (vs++[v]):=by
 refine⟨by simp[h.1],λi x y h1 h2=>?_⟩
 by_cases hi:i<ds.length
 ·rw[Vah hi] at h1
  rw[Vah (by rw[← h.1]; exact hi)] at h2
  exact h.2 i x y h1 h2
 ·have hl:i<(ds++[d]).length:=(Vab.mp h1).1
  have e:i=ds.length:=by simp at hl; omega
  subst e
  rw[Vaq (Vaa _)] at h1
  rw[h.1,Vaq (Vaa _)] at h2
  simp at h1 h2
  subst h1; subst h2
  exact t
theorem Rps.tupR {a:Addr}(h:Rps r H ds vs)(e:H a=some (.tup vs)):Rp r H (.tup ds) (.ref a):=.tup e h.1 h.2
theorem Rp.untup {vs:V}(h:Rp r H (.tup ds) vs):∃a xs,vs=.ref a∧H a=some (.tup xs)∧Rps r H ds xs:=by
 cases h with
 | tup e l f=>exact⟨_,_,rfl,e,l,f⟩
end
def SqF (K:PySem.W.Frag)(H:Hp)(a:Addr)(xs:List V):Prop:=
 (∃o,H a=some (.frz o (.lst xs)))∨
  ∃(o:Obj) (its:Array Value) (n:Nat),K.lookup a=some o∧o.cls=.type "list"∧o.dict=none∧o.data=.seq its n∧its.size≤sizeLine∧zao xs its.toList
theorem SqF.sql {K:PySem.W.Frag}{H:Hp}{a:Addr}{xs:List V}(h:SqF K H a xs):SqL K H a xs:=by
 rcases h with ⟨o,h⟩ | h
 ·exact .inl (.inr ⟨o,h⟩)
 ·exact .inr h
def FR {α:Type}(r:List Addr)(H:Hp)(fs:List (α×D))(fs':List (α×V)):Prop:=fs.map (·.1)=fs'.map (·.1)∧Rps r H (fs.map (·.2)) (fs'.map (·.2))
theorem FR.ext {α:Type}{r r':List Addr}{H H':Hp}{fs:List (α×D)}{fs':List (α×V)}(h:FR r H fs fs')(e:Ext r r' H H'):FR r' H' fs fs':=⟨h.1,h.2.ext e⟩
theorem FR.nil {α:Type}{r:List Addr}{H:Hp}:FR (α:=α) r H [] []:=⟨rfl,Rps.nil⟩
def ObR (K:PySem.W.Frag)(r:List Addr)(H:Hp)(a:Addr):Ob→Prop
 | .lst ds=>∃xs,H a=some (.lst xs)∧Rps r H ds xs
 | .frz ds=>∃xs,SqF K H a xs∧Rps r H ds xs
 | .ins C fs=>∃dx fs',H a=some (.ins C dx fs')∧FR r H fs fs'
 | .dct kvs=>∃kvs',H a=some (.dT kvs')∧FR r H kvs kvs'
 | .dck kvs=>∃kvs',H a=some (.dK kvs')∧FR r H kvs kvs'
 | .tpl ws=>∃(o:Obj) (its:Array Value) (n:Nat),K.lookup a=some o∧o.cls=.type "tuple"∧o.data=.seq its n∧its.size≤sizeLine∧zao (ws.map V.str) its.toList
def zc3:Ob→Bool
 | .frz _=>false
 | .tpl _=>false
 | _=>true
structure zaX (K:PySem.W.Frag)(r:List Addr)(S:Sto)(H:Hp):Prop where
 len:r.length=S.length
 ob:∀(n:Nat) (a:Addr) (o:Ob),r[n]?=some a→S[n]?=some o→ObR K r H a o
 nd:∀(n m:Nat) (a:Addr) (o u:Ob),r[n]?=some a→r[m]?=some a→S[n]?=some o→S[m]?=some u→zc3 o=true→zc3 u=true→n=m
def zaj:Ob→List D
 | .lst ds=>ds
 | .frz ds=>ds
 | _=>[.exc 0]
def zbN:Ob→Option Ob
 | .lst ds=>some (.lst ds)
 | .frz ds=>some (.frz ds)
 | _=>none
def lAt (S:Sto)(n:Nat):Option Ob:=(S[n]?).bind zbN
theorem zul {o u:Ob}(h:zbN o=some u):u=o:=by
 cases o <;> simp[zbN] at h <;> exact h.symm
theorem zbo {S:Sto}{n:Nat}{o:Ob}(h:lAt S n=some o):S[n]?=some o∧zbN o=some o:=by
  unfold lAt at h
  cases q:S[n]? with
  | none=>
   rw[q] at h
   cases h
  | some u=>
    rw[q] at h
    have h':zbN u=some o:=h
    have e:=zul h'
    subst e
    exact⟨rfl,h'⟩
theorem zaU {S:Sto}{n:Nat}{o:Ob}(h:S[n]?=some o)(hL:zbN o=some o):lAt S n=some o:=by
 unfold lAt
 rw[h]
 exact hL
section
variable {K:PySem.W.Frag}{r r':List Addr}{S:Sto}{H H':Hp}{n:Nat}{a p:Addr}
theorem zaX.at {o:Ob}(h:zaX K r S H)(e:S[n]?=some o):∃a,r[n]?=some a∧ObR K r H a o:=by
 have hn:n<S.length:=(Vab.mp e).1
 have hr:n<r.length:=by rw[h.len]; exact hn
 exact⟨r[n],by simp[hr],h.ob n r[n] o (by simp[hr]) e⟩
theorem ObR.list {o:Ob}(h:ObR K r H a o)(hL:zbN o=some o):∃xs,SqL K H a xs∧Rps r H (zaj o) xs:=by
 cases o with
 | lst ds=>obtain⟨xs,e,q⟩:=h; exact⟨xs,SqL.of e,q⟩
 | frz ds=>obtain⟨xs,e,q⟩:=h; exact⟨xs,e.sql,q⟩
 | ins C fs=>cases hL
 | dct kvs=>cases hL
 | dck kvs=>cases hL
 | tpl ws=>cases hL
theorem ObR.keep {o:Ob}(q:ObR K r H a o)(x:Ext r r' H H')(ha:∀u,H a=some u→H' a=some u):ObR K r' H' a o:=by
 cases o with
 | lst ds=>obtain⟨xs,h3,h4⟩:=q; exact⟨xs,ha _ h3,h4.ext x⟩
 | frz ds=>
  obtain⟨xs,h3,h4⟩:=q
  refine⟨xs,?_,h4.ext x⟩
  rcases h3 with ⟨o,h3⟩ | h3
  ·exact .inl ⟨o,ha _ h3⟩
  ·exact .inr h3
 | ins C fs=>obtain⟨dx,fs',h3,h4⟩:=q; exact⟨dx,fs',ha _ h3,h4.ext x⟩
 | dct kvs=>obtain⟨ks,h3,h4⟩:=q; exact⟨ks,ha _ h3,h4.ext x⟩
 | dck kvs=>obtain⟨ks,h3,h4⟩:=q; exact⟨ks,ha _ h3,h4.ext x⟩
 | tpl ws=>exact q
theorem ObR.own {o:Ob}(q:ObR K r H a o)(h:zc3 o=true):∃u,H a=some u∧(∀xs,u≠HO.tup xs)∧(∀b c,u≠isX b c)∧∀z y,u≠HO.frz z y:=by
 cases o with
 | lst ds=>obtain⟨xs,h3,h4⟩:=q; exact⟨_,h3,(λ_ z=>by cases z),(λ_ _ z=>by cases z),(λ_ _ z=>by cases z)⟩
 | frz ds=>cases h
 | tpl ws=>cases h
 | ins C fs=>obtain⟨dx,fs',h3,h4⟩:=q; exact⟨_,h3,(λ_ z=>by cases z),(λ_ _ z=>by cases z),(λ_ _ z=>by cases z)⟩
 | dct kvs=>obtain⟨ks,h3,h4⟩:=q; exact⟨_,h3,(λ_ z=>by cases z),(λ_ _ z=>by cases z),(λ_ _ z=>by cases z)⟩
 | dck kvs=>obtain⟨ks,h3,h4⟩:=q; exact⟨_,h3,(λ_ z=>by cases z),(λ_ _ z=>by cases z),(λ_ _ z=>by cases z)⟩
theorem zaX.same (h:zaX K r S H)(e:∀b o,H b=some o→H' b=some o):zaX K r S H':=
 ⟨h.len,λn a o h1 h2=>(h.ob n a o h1 h2).keep ⟨λ_ _ q=>q,λa xs q=>e _ _ q,λa c q=>e _ _ q⟩ (e a),h.nd⟩
theorem zb8 {o:HO}(h:H p=none):∀b u,H b=some u→(upd H p o) b=some u:=λb u q=>by rw[za4 (zdj q h)]; exact q
theorem zke {n:Nat}{b:Addr}(e:(r++[p])[n]?=some b):(n<r.length∧r[n]?=some b)∨(n=r.length∧b=p):=by
 by_cases hn:n<r.length
 ·rw[Vah hn] at e; exact .inl ⟨hn,e⟩
 ·have hl:n<(r++[p]).length:=(Vab.mp e).1
  have en:n=r.length:=by simp at hl; omega
  subst en
  rw[Vaq (Vaa _)] at e
  simp at e
  exact .inr ⟨rfl,e.symm⟩
theorem zaX.pushO {o:Ob}(h:zaX K r S H)(hp:H p=none)(keep:∀b u,H b=some u→H' b=some u)(q:Ext r (r++[p]) H H'→ObR K (r++[p]) H' p o):zaX K (r++[p]) (S++[o]) H'∧Ext r (r++[p]) H H':=by
 have x:Ext r (r++[p]) H H':=⟨λn a e=>by
  have hn:n<r.length:=(Vab.mp e).1
  rw[Vah hn]; exact e,λa ys e=>keep _ _ e,λa c e=>keep _ _ e⟩
 have sS:∀ {n:Nat} {u:Ob},n<r.length→(S++[o])[n]?=some u→S[n]?=some u:=λ{n u} hn e=>by
  rw[Vah (by rw[← h.len]; exact hn)] at e; exact e
 refine⟨⟨by simp[h.len],λn a u h1 h2=>?_,λn m a u w h1 h2 h3 h4 o1 o2=>?_⟩,x⟩
 ·rcases zke h1 with ⟨hn,e⟩ | ⟨rfl,rfl⟩
  ·exact(h.ob n a u e (sS hn h2)).keep x (keep a)
  ·rw[h.len,Vaq (Vaa _)] at h2
   simp at h2
   subst h2
   exact q x
 ·rcases zke h1 with ⟨hn,e⟩ | ⟨rfl,rfl⟩
  ·rcases zke h2 with ⟨hm,e'⟩ | ⟨rfl,rfl⟩
   ·exact h.nd n m a u w e e' (sS hn h3) (sS hm h4) o1 o2
   ·obtain⟨zs,h5,_⟩:=(h.ob n _ _ e (sS hn h3)).own o1
    rw[hp] at h5; cases h5
  ·rcases zke h2 with ⟨hm,e'⟩ | ⟨rfl,_⟩
   ·obtain⟨zs,h5,_⟩:=(h.ob m _ _ e' (sS hm h4)).own o2
    rw[hp] at h5; cases h5
   ·rfl
theorem zaX.push {ds:List D}{xs:List V}(h:zaX K r S H)(hp:H p=none)(q:Rps r H ds xs):zaX K (r++[p]) (S++[.lst ds]) (upd H p (.lst xs))∧Ext r (r++[p]) H (upd H p (.lst xs)):=
 h.pushO hp (zb8 hp) λx=>⟨xs,zb5,q.ext x⟩
theorem zaX.setO {o o':Ob}{u:HO}(h:zaX K r S H)(hn:r[n]?=some a)(hS:S[n]?=some o)(ho:zc3 o=true)(ho':zc3 o'=true)(q:Ext r r H (upd H a u)→ObR K r (upd H a u) a o'):zaX K r (S.set n o') (upd H a u)∧Ext r r H (upd H a u):=by
 obtain⟨u0,h0,t1,t2,t3⟩:=(h.ob n a _ hn hS).own ho
 have x:Ext r r H (upd H a u):=⟨λ_ _ e=>e,λb zs e=>by
  rw[za4 (zlv e h0 (λz=>t1 zs z.symm))]; exact e,λb c e=>by
  rw[za4 (zlv e h0 (λz=>t2 b c z.symm))]; exact e⟩
 have hlt:n<S.length:=(Vab.mp hS).1
 have off:∀ {m:Nat} {w:Ob},m≠n→(S.set n o')[m]?=some w→S[m]?=some w:=λ{m w} hm e=>by
  rw[VaH (Ne.symm hm)] at e; exact e
 refine⟨⟨by simp[h.len],λm b w h1 h2=>?_,λm k b w y h1 h2 h3 h4 o1 o2=>?_⟩,x⟩
 ·by_cases hm:m=n
  ·subst hm
   rw[hn] at h1; cases h1
   rw[VaD hlt] at h2
   cases h2
   exact q x
  ·have h2':=off hm h2
   have q':=h.ob m b w h1 h2'
   by_cases hw:zc3 w=true
   ·have hb:b≠a:=λz=>hm (by subst z; exact h.nd m n b w o h1 hn h2' hS hw ho)
    exact q'.keep x λz e=>by rw[za4 hb]; exact e
   ·cases w with
    | frz es=>
     obtain⟨zs,h3,h4⟩:=q'
     refine⟨zs,?_,h4.ext x⟩
     rcases h3 with ⟨z,h3⟩ | h3
     ·exact .inl ⟨z,by rw[za4 (zlv h3 h0 (λy=>t3 _ _ y.symm))]; exact h3⟩
     ·exact .inr h3
    | tpl ws=>exact q'
    | _=>exact absurd rfl hw
 ·have back:∀ {j:Nat} {w:Ob},(S.set n o')[j]?=some w→zc3 w=true→∃y,S[j]?=some y∧zc3 y=true:=λ{j w} e ow=>by
   by_cases hj:j=n
   ·subst hj; exact⟨o,hS,ho⟩
   ·exact⟨w,off hj e,ow⟩
  obtain⟨us',h3',q3⟩:=back h3 o1
  obtain⟨ws',h4',q4⟩:=back h4 o2
  exact h.nd m k b us' ws' h1 h2 h3' h4' q3 q4
theorem zaX.set {ds ds':List D}{xs:List V}(h:zaX K r S H)(hn:r[n]?=some a)(hS:S[n]?=some (.lst ds))(q:Rps r H ds' xs):zaX K r (S.set n (.lst ds')) (upd H a (.lst xs))∧Ext r r H (upd H a (.lst xs)):=
 h.setO hn hS rfl rfl λx=>⟨xs,zb5,q.ext x⟩
end
def Rs (r:List Addr)(H:Hp)(dl:Ev)(σ:St):Prop:=dl.length=σ.length∧∀(i:Nat) (d:D),dl[i]?=some (some d)→∃v,σ[i]?=some (some v)∧Rp r H d v
theorem Rs.ext {r r':List Addr}{H H':Hp}{dl:Ev}{σ:St}(h:Rs r H dl σ)(e:Ext r r' H H'):Rs r' H' dl σ:=⟨h.1,λi d q=>by
 obtain⟨v,h1,h2⟩:=h.2 i d q
 exact⟨v,h1,h2.ext e⟩⟩
theorem Rs.set {r:List Addr}{H:Hp}{dl:Ev}{σ:St}{d:D}{v:V}(i:Nat)(h:Rs r H dl σ)(q:Rp r H d v):Rs r H (dl.set i (some d)) (σ.set i (some v)):=by
 refine⟨by simp[h.1],λj e hj=>?_⟩
 by_cases hij:i=j
 ·subst hij
  have hl:i<dl.length:=by
   have:=(Vab.mp hj).1
   simpa using this
  rw[VaD hl] at hj
  cases hj
  exact⟨v,by rw[VaD (by rw[← h.1]; exact hl)],q⟩
 ·rw[VaH hij] at hj
  obtain⟨v',h1,h2⟩:=h.2 j e hj
  exact⟨v',by rw[VaH hij]; exact h1,h2⟩
structure Zx where
 ex:Ev→Addr→Sto→Prop
 w:St→XK
abbrev Zc (ex:Addr→Sto→Prop)(E:XK):Zx:=⟨λ_=>ex,λ_=>E⟩
def zdy (K:PySem.W.Frag)(Z:Zx)(r:List Addr)(H:Hp):Prop:=∀(dl:Ev) (σ:St) (c:Addr) (H':Hp) (r':List Addr) (S':Sto),Ext r r' H H'→Rs r' H' dl σ→zaX K r' S' H'→Z.ex dl c S'→Z.w σ (.ref c) none H'
theorem zdy.ext {K:PySem.W.Frag}{Z:Zx}{r r':List Addr}{H H':Hp}(h:zdy K Z r H)(e:Ext r r' H H'):zdy K Z r' H':=λdl σ c H2 r2 S2 x=>h dl σ c H2 r2 S2 (e.trans x)
structure Rel (K:PySem.W.Frag)(Z:Zx)(r:List Addr)(S:Sto)(H:Hp):Prop where
 b:zaX K r S H
 xw:zdy K Z r H
section
variable {K:PySem.W.Frag}{Z:Zx}{r r':List Addr}{S:Sto}{H H':Hp}{n:Nat}{a p:Addr}
theorem Rel.len (h:Rel K Z r S H):r.length=S.length:=h.b.len
theorem Rel.at {o:Ob}(h:Rel K Z r S H)(e:S[n]?=some o):∃a,r[n]?=some a∧ObR K r H a o:=h.b.at e
theorem Rel.same (h:Rel K Z r S H)(e:∀b o,H b=some o→H' b=some o):Rel K Z r S H':=⟨h.b.same e,h.xw.ext ⟨λ_ _ q=>q,λa xs q=>e _ _ q,λa c q=>e _ _ q⟩⟩
theorem Rel.push {ds:List D}{xs:List V}(h:Rel K Z r S H)(hp:H p=none)(q:Rps r H ds xs):Rel K Z (r++[p]) (S++[.lst ds]) (upd H p (.lst xs))∧Ext r (r++[p]) H (upd H p (.lst xs)):=by
 obtain⟨h1,h2⟩:=h.b.push hp q
 exact⟨⟨h1,h.xw.ext h2⟩,h2⟩
theorem Rel.set {ds ds':List D}{xs:List V}(h:Rel K Z r S H)(hn:r[n]?=some a)(hS:S[n]?=some (.lst ds))(q:Rps r H ds' xs):Rel K Z r (S.set n (.lst ds')) (upd H a (.lst xs))∧Ext r r H (upd H a (.lst xs)):=by
 obtain⟨h1,h2⟩:=h.b.set hn hS q
 exact⟨⟨h1,h.xw.ext h2⟩,h2⟩
end
def Ret (K:PySem.W.Frag)(Z:Zx)(r:List Addr)(H:Hp)(Q:DK)(Qv:VK):Prop:=∀v H' r' d S',Ext r r' H H'→Rel K Z r' S' H'→Rp r' H' d v→Q d S'→Qv v H'
theorem Ret.ext {K:PySem.W.Frag}{Z:Zx}{r r':List Addr}{H H':Hp}{Q:DK}{Qv:VK}(h:Ret K Z r H Q Qv)(e:Ext r r' H H'):Ret K Z r' H' Q Qv:=λv H2 r2 d S2 x=>h v H2 r2 d S2 (e.trans x)
def up (K:PySem.W.Frag)(Z:Zx)(t:TDE):TE:=λσ H Qv=>∃r dl S Q,Rs r H dl σ∧Rel K Z r S H∧t dl S Q∧Ret K Z r H Q Qv
def upT (K:PySem.W.Frag)(Z:Zx)(t:TDT):TT:=λσ H Qb=>∃r dl S Q,Rs r H dl σ∧Rel K Z r S H∧t dl S Q∧∀b H' r' S',Ext r r' H H'→Rel K Z r' S' H'→Q b S'→Qb b H'
def upA (K:PySem.W.Frag)(Z:Zx)(t:TDA):TA:=λσ H Qv=>∃r dl S Q,Rs r H dl σ∧Rel K Z r S H∧t dl S Q∧∀vs H' r' ds S',Ext r r' H H'→Rel K Z r' S' H'→Rps r' H' ds vs→Q ds S'→Qv vs H'
structure zkW (K:PySem.W.Frag)(Z:Zx)(r:List Addr)(H:Hp)(E:zbX)(F:zc4):Prop where
 nx:∀σ' H' r' dl' S',Ext r r' H H'→Rs r' H' dl' σ'→Rel K Z r' S' H'→E.nx dl' S'→F.nx σ' H'
 bk:∀σ' H' r' dl' S',Ext r r' H H'→Rs r' H' dl' σ'→Rel K Z r' S' H'→E.bk dl' S'→F.bk σ' H'
 ct:∀σ' H' r' dl' S',Ext r r' H H'→Rs r' H' dl' σ'→Rel K Z r' S' H'→E.ct dl' S'→F.ct σ' H'
 rt:Ret K Z r H E.rt F.rt
theorem zkW.ext {K:PySem.W.Frag}{Z:Zx}{r r':List Addr}{H H':Hp}{E:zbX}{F:zc4}(h:zkW K Z r H E F)(e:Ext r r' H H'):zkW K Z r' H' E F:=
 ⟨λa b c d f x=>h.nx a b c d f (e.trans x),λa b c d f x=>h.bk a b c d f (e.trans x),λa b c d f x=>h.ct a b c d f (e.trans x),h.rt.ext e⟩
def upS (K:PySem.W.Frag)(Z:Zx)(t:TDS):TS:=λF σ H=>∃r dl S E,Rs r H dl σ∧Rel K Z r S H∧t E dl S∧zkW K Z r H E F
def PD (X:Cx)(Z:Zx)(e:Expr)(t:TDE):Prop:=PE X e (up X.K Z t)
def PDT (X:Cx)(Z:Zx)(e:Expr)(t:TDT):Prop:=PT X e (upT X.K Z t)
def PDW (X:Cx)(Z:Zx)(e:Expr)(t:TDT):Prop:=PW X e (upT X.K Z t)
def PDA (X:Cx)(Z:Zx)(es:List Expr)(t:TDA):Prop:=PA X es (upA X.K Z t)
def PDS (X:Cx)(Z:Zx)(st:Stmt)(t:TDS):Prop:=PS X st (upS X.K Z t)
def zbU (X:Cx)(Z:Zx)(st:List Stmt)(t:TDS):Prop:=PSs X st (upS X.K Z t)
section
variable {X:Cx}{Z:Zx}
theorem zbc {e:Expr}{t t':TE}(h:PE X e t)(f:∀σ H Q,t' σ H Q→t σ H Q):PE X e t':=λpins s σ H Q I q=>h pins s σ H Q I (f σ H Q q)
theorem zjU {e:Expr}{t t':TT}(h:PT X e t)(f:∀σ H Q,t' σ H Q→t σ H Q):PT X e t':=λpins s σ H Q I q=>h pins s σ H Q I (f σ H Q q)
theorem znr {e:Expr}{t t':TT}(h:PW X e t)(f:∀σ H Q,t' σ H Q→t σ H Q):PW X e t':=λwh pins s σ H Q I q=>h wh pins s σ H Q I (f σ H Q q)
theorem zoy {e:List Expr}{t t':TA}(h:PA X e t)(f:∀σ H Q,t' σ H Q→t σ H Q):PA X e t':=λpos pins s σ H Q I q=>h pos pins s σ H Q I (f σ H Q q)
theorem zbt {e:Stmt}{t t':TS}(h:PS X e t)(f:∀F σ H,t' F σ H→t F σ H):PS X e t':=λpins s σ H F I q=>h pins s σ H F I (f F σ H q)
theorem znc {e:List Stmt}{t t':TS}(h:PSs X e t)(f:∀F σ H,t' F σ H→t F σ H):PSs X e t':=λpins s σ H F I q=>h pins s σ H F I (f F σ H q)
theorem PDW.pt {e:Expr}{t:TDT}(h:PDW X Z e t):PDT X Z e t:=PW.pt h
def dVar (i:Nat):TDE:=λdl S Q=>match dl[i]? with
 | some (some d)=>Q d S
 | _=>False
def dC (d:D):TDE:=λ_ S Q=>Q d S
theorem zuO {e:Expr}{i:Nat}(h:PE X e (tVar i)):PD X Z e (dVar i):=zbc h λσ H Qv ⟨r,dl,S,Q,rs,rel,q,ret⟩=>by
 unfold dVar at q
 split at q
 ·rename_i d e
  obtain⟨v,h1,h2⟩:=rs.2 i d e
  exact⟨v,h1,ret v H r d S Ext.refl rel h2 q⟩
 ·exact q.elim
theorem dv (i:Nat){x:Str}{pos:Pos}(hN:X.N[i]?=some x:=by rfl)(hv:Vis X.env.scope x:=by first | exact Or.inl rfl | exact Or.inr (Or.inl rfl) | exact Or.inr (Or.inr rfl))(hd:(x==("__debug__":Str))=false:=by decide)
  (hcd:(x==("__classdict__":Str))=false:=by decide):PD X Z (.Name x pos) (dVar i):=zuO (zoj hN hv hd hcd)
theorem zl7 {e:Expr}{d:D}{v:V}(h:PE X e (tC v))(q:∀r H,Rp r H d v):PD X Z e (dC d):=zbc h λσ H Qv ⟨r,dl,S,Q,rs,rel,h,ret⟩=>ret v H r d S Ext.refl rel (q r H) h
theorem zab {i j pos}:PD X Z (.Constant (.int i) j pos) (dC (.int i)):=zl7 zr7 λ_ _=>.int i
theorem zcW {b j pos}:PD X Z (.Constant (.bool b) j pos) (dC (.bl b)):=zl7 pe_bl λ_ _=>.bl b
theorem zaR {x j pos}:PD X Z (.Constant (.str x) j pos) (dC (.str x)):=zl7 zrw λ_ _=>.str x
abbrev W2:=D→D→Sto→DK→Prop
abbrev W1:=D→Sto→DK→Prop
def upO (K:PySem.W.Frag)(Z:Zx)(w:W2):R2:=λx y H Qv=>∃r S dx dy Q,Rel K Z r S H∧Rp r H dx x∧Rp r H dy y∧w dx dy S Q∧Ret K Z r H Q Qv
def upU (K:PySem.W.Frag)(Z:Zx)(w:W1):V→Hp→VK→Prop:=λx H Qv=>∃r S dx Q,Rel K Z r S H∧Rp r H dx x∧w dx S Q∧Ret K Z r H Q Qv
def dOp (w:W2)(ta tb:TDE):TDE:=λdl S Q=>ta dl S λx S1=>tb dl S1 λy S2=>w x y S2 Q
def dUn (w:W1)(ta:TDE):TDE:=λdl S Q=>ta dl S λx S1=>w x S1 Q
variable {a b c:Expr}{ta tb tc:TDE}{pos:Pos}
theorem zhP {w:W2}{σ:St}{H:Hp}{Qv:VK}(h:up X.K Z (dOp w ta tb) σ H Qv):tOp (upO X.K Z w) (up X.K Z ta) (up X.K Z tb) σ H Qv:=by
 obtain⟨r,dl,S,Q,rs,rel,h,ret⟩:=h
 exact⟨r,dl,S,_,rs,rel,h,λv H1 r1 dx S1 e1 rel1 p1 h1=>⟨r1,dl,S1,_,rs.ext e1,rel1,h1,λv2 H2 r2 dy S2 e2 rel2 p2 h2=>⟨r2,S2,dx,dy,Q,rel2,p1.ext e2,p2,h2,ret.ext (e1.trans e2)⟩⟩⟩
theorem zac {op:Operator}{w:W2}(ho:OpR X (binaryOp op) (upO X.K Z w))(ha:PD X Z a ta)(hb:PD X Z b tb):PD X Z (.BinOp a op b pos) (dOp w ta tb):=zbc (pe_op ho ha hb) λ_ _ _ h=>zhP h
theorem zb2 {op:UnaryOp}{w:W1}(ho:UnR X (unaryOp op) (upU X.K Z w))(ha:PD X Z a ta):PD X Z (.UnaryOp op a pos) (dUn w ta):=zbc (pe_un ho ha) λσ H Qv ⟨r,dl,S,Q,rs,rel,h,ret⟩=>
 ⟨r,dl,S,_,rs,rel,h,λv H1 r1 dx S1 e1 rel1 p1 h1=>⟨r1,S1,dx,Q,rel1,p1,h1,ret.ext e1⟩⟩
theorem zbf {op:CmpOp}{w:W2}(ho:OpR X (compareOp op) (upO X.K Z w))(ha:PD X Z a ta)(hb:PD X Z b tb)(hm:behindInMarks op b=false):PD X Z (.Compare a [op] [b] pos) (dOp w ta tb):=zbc (zpu ho ha hb hm) λ_ _ _ h=>zhP h
theorem ziI {f:Value→Value→Sem Value}{r r':R2}(h:OpR X f r)(g:∀x y H Q,r' x y H Q→r x y H Q):OpR X f r':=λpins s σ H x y v u Q I rx ry q=>h pins s σ H x y v u Q I rx ry (g x y H Q q)
theorem zuq {f:Value→Sem Value}{r r':V→Hp→VK→Prop}(h:UnR X f r)(g:∀x H Q,r' x H Q→r x H Q):UnR X f r':=λpins s σ H x v Q I rx q=>h pins s σ H x v Q I rx (g x H Q q)
theorem zjt {f:Value}{r r':List V→Hp→VK→Prop}(h:za2 X f r)(g:∀x H Q,r' x H Q→r x H Q):za2 X f r':=λpins s σ H xs us Q I rx q=>h pins s σ H xs us Q I rx (g xs H Q q)
def wI (C:Int→Int→Prop)(g:Int→Int→D):W2:=λx y S Q=>match x,y with
 | .int i,.int j=>C i j∧Q (g i j) S
 | _,_=>False
def wI0 (g:Int→Int→D):W2:=λx y S Q=>match x,y with
 | .int i,.int j=>Q (g i j) S
 | _,_=>False
theorem opD {f:Value→Value→Sem Value}{C:Int→Int→Prop}{g:Int→Int→V}{g':Int→Int→D}(h:OpR X f (rI C g))(hg:∀r H i j,Rp r H (g' i j) (g i j)):OpR X f (upO X.K Z (wI C g')):=
 ziI h λx y H Qv ⟨r,S,dx,dy,Q,rel,px,py,q,ret⟩=>by
  cases px <;> cases py <;> first
   | exact⟨_,_,rfl,rfl,q.1,ret _ _ _ _ _ Ext.refl rel (hg _ _ _ _) q.2⟩
   | exact(show False from q).elim
theorem zdP {f:Value→Value→Sem Value}{g:Int→Int→V}{g':Int→Int→D}(h:OpR X f (rI0 g))(hg:∀r H i j,Rp r H (g' i j) (g i j)):OpR X f (upO X.K Z (wI0 g')):=
 ziI h λx y H Qv ⟨r,S,dx,dy,Q,rel,px,py,q,ret⟩=>by
  cases px <;> cases py <;> first
   | exact⟨_,_,rfl,rfl,ret _ _ _ _ _ Ext.refl rel (hg _ _ _ _) q⟩
   | exact(show False from q).elim
abbrev wAdd:W2:=wI0 λi j=>.int (i+j)
abbrev wSub:W2:=wI0 λi j=>.int (i-j)
abbrev wMul:W2:=wI IntMulOk λi j=>.int (i*j)
def CFd (_ j:Int):Prop:=0<j∧j.natAbs.log2<9000
abbrev wFdiv:W2:=wI CFd λi j=>.int (i/j)
abbrev wMod:W2:=wI (λ_ j=>0<j) λi j=>.int (i%j)
abbrev wPow:W2:=wI CPow λi j=>.int (i^j.toNat)
theorem zaH:OpR X (binaryOp .Add) (upO X.K Z wAdd):=zdP zqE λ_ _ _ _=>.int _
theorem za0:OpR X (binaryOp .Sub) (upO X.K Z wSub):=zdP ztz λ_ _ _ _=>.int _
theorem zaS:OpR X (binaryOp .Mult) (upO X.K Z wMul):=opD (opI λ_ _ _ _ _ _ _ hc q=>mul_int q hc) λ_ _ _ _=>.int _
theorem zbr:OpR X (binaryOp .FloorDiv) (upO X.K Z wFdiv):=opD (opI λi j _ _ _ _ _ hc q=>floordiv_int (by have h:0<j:=hc.1; omega) (by have h:0<j:=hc.1; rw[Int.fdiv_eq_ediv_of_nonneg i (by omega)]; exact q) (.inl (PyProof.noPylong_of_log2 hc.2))) λ_ _ _ _=>.int _
theorem zbk:OpR X (binaryOp .Mod) (upO X.K Z wMod):=opD zrP λ_ _ _ _=>.int _
theorem zs3:OpR X (binaryOp .Pow) (upO X.K Z wPow):=opD zsL λ_ _ _ _=>.int _
abbrev wLt:W2:=wI0 λi j=>.bl (decide (i<j))
abbrev wLe:W2:=wI0 λi j=>.bl (decide (i≤j))
abbrev wGt:W2:=wI0 λi j=>.bl (decide (j<i))
abbrev wGe:W2:=wI0 λi j=>.bl (decide (j≤i))
theorem zbR:OpR X (compareOp .Lt) (upO X.K Z wLt):=zdP op_lt λ_ _ _ _=>.bl _
theorem zdB:OpR X (compareOp .LtE) (upO X.K Z wLe):=zdP op_le λ_ _ _ _=>.bl _
theorem zgk:OpR X (compareOp .Gt) (upO X.K Z wGt):=zdP op_gt λ_ _ _ _=>.bl _
theorem do_ge:OpR X (compareOp .GtE) (upO X.K Z wGe):=zdP op_ge λ_ _ _ _=>.bl _
def wNeg:W1:=λx S Q=>match x with
 | .int i=>Q (.int (-i)) S
 | _=>False
theorem zca:UnR X (unaryOp .USub) (upU X.K Z wNeg):=zuq zvs λx H Qv ⟨r,S,dx,Q,rel,px,q,ret⟩=>by
 cases px <;> first
  | exact⟨_,rfl,ret _ _ _ _ _ Ext.refl rel (.int _) q⟩
  | exact(show False from q).elim
end
def eqF:D→D→Option Bool
 | .non,.non=>some true
 | .bl i,.bl j=>some (i==j)
 | .int i,.int j=>some (decide (i=j))
 | .str i,.str j=>some (decide (i=j))
 | .non,.int _=>some false | .int _,.non=>some false | .non,.bl _=>some false | .bl _,.non=>some false | .non,.str _=>some false | .str _,.non=>some false
 | .int _,.str _=>some false | .str _,.int _=>some false | .bl _,.str _=>some false | .str _,.bl _=>some false
 | _,_=>none
def eqL (f:D→D→Option Bool):List D→List D→Option Bool
 | [],[]=>some true
 | x::xs,y::ys=>match f x y,eqL f xs ys with
  | some b,some c=>some (b&&c)
  | _,_=>none
 | _,_=>some false
def eqT (f:D→D→Option Bool):D→D→Option Bool
 | .tup xs,.tup ys=>eqL f xs ys
 | x,y=>eqF x y
abbrev eq1:D→D→Option Bool:=eqT eqF
abbrev eq2:D→D→Option Bool:=eqT eq1
def zdn (n:Nat)(f:D→D→Option Bool):Prop:=∀(X:Cx) (pins:List (Addr×Obj)) (σ:St) (H:Hp) (s:Shared) (r:List Addr) (A:Around) (dx dy:D) (x y:V) (u v:Value) (b:Bool),
 Inv X pins σ H s→A.units+n<cLine→Rp r H dx x→Rp r H dy y→zan x u→zan y v→f dx dy=some b→SeqAt.EqAt A s u v b
def zei (f:D→D→Option Bool):Prop:=∀(r:List Addr) (H:Hp) (dx dy:D) (x:V) (b:Bool),Rp r H dx x→Rp r H dy x→f dx dy=some b→b=true
theorem zd4:zei eqF:=by
 intro r H dx dy x b px py e
 cases px <;> cases py <;> simp[eqF] at e <;> first | exact e.symm | exact e
theorem zox {f:D→D→Option Bool}(hf:zei f){r:List Addr}{H:Hp}:∀ {xs ys:List D} {vs:List V} {b:Bool},Rps r H xs vs→Rps r H ys vs→eqL f xs ys=some b→b=true
 | [],[],_,b,_,_,e=>by simp[eqL] at e; exact e
 | [],y::ys,vs,b,p,q,e=>by
  have h1:=p.unnil
  subst h1
  exact absurd q.1 (by simp)
 | x::xs,[],vs,b,p,q,e=>by
  have h1:=q.unnil
  subst h1
  exact absurd p.1 (by simp)
 | x::xs,y::ys,vs,b,p,q,e=>by
  obtain⟨v,vs',rfl,p1,p2⟩:=p.uncons
  obtain⟨q1,q2⟩:=q.tail
  unfold eqL at e
  split at e
  ·rename_i b1 c1 e1 e2
   have h1:=hf r H x y v b1 p1 q1 e1
   have h2:=zox hf p2 q2 e2
   subst h1; subst h2
   simp at e
   exact e
  ·cases e
theorem znx {f:D→D→Option Bool}(hf:zei f):zei (eqT f):=by
 intro r H dx dy x b px py e
 cases px with
 | tup e1 l1 f1=>
  cases py with
  | tup e2 l2 f2=>
   rw[e1] at e2; cases e2
   exact zox hf ⟨l1,f1⟩ ⟨l2,f2⟩ e
  | ref h=>simp[eqT,eqF] at e
  | exc h=>simp[eqT,eqF] at e
 | non=>exact zd4 r H _ _ _ b .non py (by cases py <;> exact e)
 | bl i=>exact zd4 r H _ _ _ b (.bl i) py (by cases py <;> exact e)
 | int i=>exact zd4 r H _ _ _ b (.int i) py (by cases py <;> exact e)
 | str i=>exact zd4 r H _ _ _ b (.str i) py (by cases py <;> exact e)
 | ref h=>cases py <;> simp[eqT,eqF] at e
 | exc h=>cases py <;> simp[eqT,eqF] at e
theorem zi3 (n:Nat):zdn n eqF:=by
 intro X pins σ H s r A dx dy x y u v b I hu px py rx ry e
 have fin:∀ {x y:V},zan x u→zan y v→zhT x=true→zhT y=true→eqV x y=b→SeqAt.EqAt A s u v b:=λrx ry fx fy e'=>by
  subst e'; exact zvg rx ry fx fy
 cases px <;> cases py <;> simp[eqF] at e <;> refine fin rx ry rfl rfl ?_ <;> simp[eqV,e] <;> first | exact e | (subst e; simp) | skip
theorem zem {X:Cx}{pins:List (Addr×Obj)}{σ:St}{H:Hp}{s:Shared}{a:Addr}{xs:List V}(I:Inv X pins σ H s)(h:H a=some (.tup xs)):∃its:List Value,zao xs its∧IsTup s.heap a its.toArray∧xs.length≤sizeLine:=I.tuple (SqT.of h)
def zbZ (f:D→D→Option Bool)(xs ys:List D)(j:Nat):Bool:=match xs[j]?,ys[j]? with
 | some x,some y=>(f x y).getD false
 | _,_=>false
theorem zoL {f:D→D→Option Bool}:∀ {xs ys:List D} {b:Bool},eqL f xs ys=some b→(∀(j:Nat) (x y:D),xs[j]?=some x→ys[j]?=some y→∃c,f x y=some c)∧((List.range (min xs.length ys.length)).all (zbZ f xs ys)&&xs.length==ys.length)=b
 | [],[],b,e=>by simp[eqL] at e; subst e; simp
 | [],y::ys,b,e=>by simp[eqL] at e; subst e; simp
 | x::xs,[],b,e=>by simp[eqL] at e; subst e; simp
 | x::xs,y::ys,b,e=>by
  unfold eqL at e
  split at e
  ·rename_i b1 c1 e1 e2
   obtain⟨h1,h2⟩:=zoL e2
   refine⟨λj p q hp hq=>?_,?_⟩
   ·cases j with
    | zero=>simp at hp hq; subst hp; subst hq; exact⟨b1,e1⟩
    | succ j=>exact h1 j p q (by simpa using hp) (by simpa using hq)
   ·have z:min (x::xs).length (y::ys).length=min xs.length ys.length+1:=by simp[Nat.succ_min_succ]
    rw[z,List.range_succ_eq_map,List.all_cons,List.all_map]
    have e0:zbZ f (x::xs) (y::ys) 0=b1:=by simp[zbZ,e1]
    have es:(zbZ f (x::xs) (y::ys) ∘ Nat.succ)=zbZ f xs ys:=by funext j; simp[zbZ]
    rw[e0,es]
    have e3:((x::xs).length==(y::ys).length)=(xs.length==ys.length):=by simp
    rw[e3,Bool.and_assoc,h2]
    simp at e
    exact e
  ·cases e
theorem zgF {n:Nat}{f:D→D→Option Bool}(hf:zdn n f){X:Cx}{pins:List (Addr×Obj)}{σ:St}{H:Hp}{s:Shared}{r:List Addr}{A:Around}{xs ys:List D}{us vs:List V}{is js:List Value}{b:Bool}
  (I:Inv X pins σ H s)(hu:A.units+n<cLine)(p:Rps r H xs us)(q:Rps r H ys vs)(ri:zao us is)(rj:zao vs js)(e:eqL f xs ys=some b):
  (∀j (h1:j<is.toArray.size) (h2:j<js.toArray.size),SeqAt.EqAt A s is.toArray[j] js.toArray[j] (zbZ f xs ys j))∧((List.range (min is.toArray.size js.toArray.size)).all (zbZ f xs ys)&&is.toArray.size==js.toArray.size)=b:=by
 obtain⟨h1,h2⟩:=zoL e
 have l1:is.toArray.size=xs.length:=by rw[Vak,← ri.length,p.1]
 have l2:js.toArray.size=ys.length:=by rw[Vak,← rj.length,q.1]
 refine⟨λj hj1 hj2=>?_,by rw[l1,l2]; exact h2⟩
 have k1:j<xs.length:=by omega
 have k2:j<ys.length:=by omega
 have g1:xs[j]?=some xs[j]:=by simp[k1]
 have g2:ys[j]?=some ys[j]:=by simp[k2]
 obtain⟨x,gx,px⟩:=p.get g1
 obtain⟨y,gy,py⟩:=q.get g2
 obtain⟨u,gu,ru⟩:=ri.get gx
 obtain⟨v,gv,rv⟩:=rj.get gy
 obtain⟨c,hc⟩:=h1 j _ _ g1 g2
 have eu:is.toArray[j]=u:=by
  have z:=Vab.mp gu
  simpa using z.2
 have ev:js.toArray[j]=v:=by
  have z:=Vab.mp gv
  simpa using z.2
 have ec:zbZ f xs ys j=c:=by simp[zbZ,g1,g2,hc]
 rw[eu,ev,ec]
 exact hf X pins σ H s r A _ _ x y u v c I hu px py ru rv hc
theorem zod {n:Nat}{f:D→D→Option Bool}(hf:zdn n f)(hs:zei f):zdn (n+1) (eqT f):=by
 intro X pins σ H s r A dx dy x y u v b I hu px py rx ry e
 have zaT:∀ {dx dy:D} {x y:V},Rp r H dx x→Rp r H dy y→zan x u→zan y v→eqF dx dy=some b→SeqAt.EqAt A s u v b:=λpx py rx ry e=>zi3 (n+1) X pins σ H s r A _ _ _ _ u v b I hu px py rx ry e
 cases px with
 | @tup ds xs a e1 l1 f1=>
  cases py with
  | @tup es ys a' e2 l2 f2=>
   cases rx
   cases ry
   by_cases z:a=a'
   ·subst z
    have hb:=znx hs r H _ _ _ b (.tup e1 l1 f1) (.tup e2 l2 f2) e
    subst hb
    exact SeqAt.EqAt.same _
   ·obtain⟨is,ri,ti,_⟩:=zem I e1
    obtain⟨js,rj,tj,_⟩:=zem I e2
    obtain⟨g1,g2⟩:=zgF (A:=A.in1) hf I (by show A.units+1+n<_; omega) ⟨l1,f1⟩ ⟨l2,f2⟩ ri rj e
    have q:=SeqAt.RcAt.tuples (A:=A) ti tj (by omega) g1
    rw[g2] at q
    exact SeqAt.EqAt.of_refs z q
  | ref h=>simp[eqT,eqF] at e
  | _=>simp[eqT,eqF] at e
 | non=>exact zaT .non py rx ry (by cases py <;> exact e)
 | bl i=>exact zaT (.bl i) py rx ry (by cases py <;> exact e)
 | int i=>exact zaT (.int i) py rx ry (by cases py <;> exact e)
 | str i=>exact zaT (.str i) py rx ry (by cases py <;> exact e)
 | ref h=>cases py <;> simp[eqT,eqF] at e
 | exc h=>cases py <;> simp[eqT,eqF] at e
theorem zm6 (n:Nat):zdn (n+1) eq1:=zod (zi3 n) zd4
def wEq (f:D→D→Option Bool):W2:=λx y S Q=>match f x y with
 | some b=>Q (.bl b) S
 | none=>False
def wNe (f:D→D→Option Bool):W2:=λx y S Q=>match f x y with
 | some b=>Q (.bl (!b)) S
 | none=>False
section
variable {X:Cx}{Z:Zx}
theorem znZ {r:List Addr}{H:Hp}{dx dy:D}{x y:V}{b:Bool}(px:Rp r H dx x)(py:Rp r H dy y)(e:eqF dx dy=some b):zkC x y=true∧decide (x=y)=b:=by
 cases px <;> cases py <;> simp[eqF] at e <;> simp[zkC] <;> first | exact e | (subst e; simp) | skip
theorem zns {n:Nat}{f:D→D→Option Bool}(hf:zdn n f)(hu:X.A.units+1+n<cLine):OpR X (compareOp .Eq) (upO X.K Z (wEq (eqT f))):=by
 intro pins s σ H x y v u Qv I rx ry h
 obtain⟨r,S,dx,dy,Q,rel,px,py,q,ret⟩:=h
 unfold wEq at q
 split at q
 ·rename_i b e
  have zaT:∀ {dx dy:D} {x y:V},Rp r H dx x→Rp r H dy y→zan x v→zan y u→eqF dx dy=some b→wpAny (model X.prog X.w) X.A (compareOp .Eq v u) (EP X pins σ Qv) X.xe s:=λpx py rx ry e=>by
   obtain⟨h1,h2⟩:=znZ px py e
   refine zlA pins s σ H _ _ v u Qv I rx ry ⟨h1,?_⟩
   rw[h2]
   exact ret _ _ _ _ _ Ext.refl rel (.bl b) q
  cases px with
  | @tup ds xs a e1 l1 f1=>
   cases py with
   | @tup es ys a' e2 l2 f2=>
    cases rx
    cases ry
    obtain⟨is,ri,ti,_⟩:=zem I e1
    obtain⟨js,rj,tj,_⟩:=zem I e2
    obtain⟨g1,g2⟩:=zgF (A:=X.A.in1) hf I (by show X.A.units+1+n<_; omega) ⟨l1,f1⟩ ⟨l2,f2⟩ ri rj e
    refine SeqAt.eq_tupleAt (A:=X.A) ti tj (by omega) g1 ?_
    rw[g2]
    exact⟨.bl b,H,I,rfl,ret _ _ _ _ _ Ext.refl rel (.bl b) q⟩
   | _=>simp[eqT,eqF] at e
  | non=>exact zaT .non py rx ry (by cases py <;> exact e)
  | bl i=>exact zaT (.bl i) py rx ry (by cases py <;> exact e)
  | int i=>exact zaT (.int i) py rx ry (by cases py <;> exact e)
  | str i=>exact zaT (.str i) py rx ry (by cases py <;> exact e)
  | ref h=>cases py <;> simp[eqT,eqF] at e
  | exc h=>cases py <;> simp[eqT,eqF] at e
 ·exact q.elim
theorem znX {n:Nat}{f:D→D→Option Bool}(hf:zdn n f)(hu:X.A.units+1+n<cLine):OpR X (compareOp .NotEq) (upO X.K Z (wNe (eqT f))):=by
 intro pins s σ H x y v u Qv I rx ry h
 obtain⟨r,S,dx,dy,Q,rel,px,py,q,ret⟩:=h
 unfold wNe at q
 split at q
 ·rename_i b e
  have zaT:∀ {dx dy:D} {x y:V},Rp r H dx x→Rp r H dy y→zan x v→zan y u→eqF dx dy=some b→wpAny (model X.prog X.w) X.A (compareOp .NotEq v u) (EP X pins σ Qv) X.xe s:=λpx py rx ry e=>by
   obtain⟨h1,h2⟩:=znZ px py e
   refine op_ne pins s σ H _ _ v u Qv I rx ry ⟨h1,?_⟩
   rw[h2]
   exact ret _ _ _ _ _ Ext.refl rel (.bl (!b)) q
  cases px with
  | @tup ds xs a e1 l1 f1=>
   cases py with
   | @tup es ys a' e2 l2 f2=>
    cases rx
    cases ry
    obtain⟨is,ri,ti,_⟩:=zem I e1
    obtain⟨js,rj,tj,_⟩:=zem I e2
    obtain⟨g1,g2⟩:=zgF (A:=X.A.in1) hf I (by show X.A.units+1+n<_; omega) ⟨l1,f1⟩ ⟨l2,f2⟩ ri rj e
    refine SeqAt.RcNeAt.tuples (A:=X.A) ti tj (by omega) g1 X.prog X.w _ _ ?_
    rw[g2]
    exact⟨.bl (!b),H,I,rfl,ret _ _ _ _ _ Ext.refl rel (.bl (!b)) q⟩
   | _=>simp[eqT,eqF] at e
  | non=>exact zaT .non py rx ry (by cases py <;> exact e)
  | bl i=>exact zaT (.bl i) py rx ry (by cases py <;> exact e)
  | int i=>exact zaT (.int i) py rx ry (by cases py <;> exact e)
  | str i=>exact zaT (.str i) py rx ry (by cases py <;> exact e)
  | ref h=>cases py <;> simp[eqT,eqF] at e
  | exc h=>cases py <;> simp[eqT,eqF] at e
 ·exact q.elim
theorem zaP {k:Nat}(hr:zaQ k X.A):OpR X (compareOp .Eq) (upO X.K Z (wEq eq2)):=zns (zm6 0) (by have:=hr.un; omega)
theorem zom {k:Nat}(hr:zaQ k X.A):OpR X (compareOp .NotEq) (upO X.K Z (wNe eq2)):=znX (zm6 0) (by have:=hr.un; omega)
end
section
variable {X:Cx}{Z:Zx}{a b c:Expr}{ta tb tc:TDE}{pos:Pos}{zbe:List Expr}
def zl4 (t:TDE):TDT:=λdl S Q=>t dl S λd S'=>match d with
 | .bl k=>Q k S'
 | _=>False
theorem zmo {K:PySem.W.Frag}{Z:Zx}{r:List Addr}{H:Hp}{Q:Bool→Sto→Prop}{Qb:Bool→Hp→Prop}(h:∀b H' r' S',Ext r r' H H'→Rel K Z r' S' H'→Q b S'→Qb b H'):
  Ret K Z r H (λd S'=>match d with | .bl k=>Q k S' | _=>False) (λx H'=>∃k,x=.bl k∧Qb k H'):=λv H' r' d S' e rel p q=>by
 cases p with
 | bl k=>exact⟨k,rfl,h k H' r' S' e rel q⟩
 | _=>exact(show False from q).elim
theorem zaJ {op:CmpOp}{w:W2}(ho:OpR X (compareOp op) (upO X.K Z w))(ha:PD X Z a ta)(hb:PD X Z b tb)(hm:behindInMarks op b=false):PDT X Z (.Compare a [op] [b] pos) (zl4 (dOp w ta tb)):=
 zjU (zpN ho ha hb hm) λσ H Qb ⟨r,dl,S,Q,rs,rel,h,ret⟩=>zhP ⟨r,dl,S,_,rs,rel,h,zmo ret⟩
theorem zbI {e:Expr}{t:TDE}(h:PD X Z e t)(he:∀whole,isTrue e X.env whole=(do let v ← whole; standAt e.pos; holding [v] (truthy v)):=by intro _; rfl):PDT X Z e (zl4 t):=
 zjU (zvD h he) λσ H Qb ⟨r,dl,S,Q,rs,rel,h,ret⟩=>⟨r,dl,S,_,rs,rel,h,zmo ret⟩
def dNot (t:TDT):TDT:=λdl S Q=>t dl S λk S'=>Q (!k) S'
theorem zcQ {t:TDT}(ha:PDT X Z a t):PDT X Z (.UnaryOp .Not a pos) (dNot t):=
 zjU (ztH ha) λσ H Qb ⟨r,dl,S,Q,rs,rel,h,ret⟩=>⟨r,dl,S,_,rs,rel,h,λk H' r' S' e rel' q=>ret (!k) H' r' S' e rel' q⟩
def dAnd (t u:TDT):TDT:=λdl S Q=>t dl S λk S1=>if k=true then u dl S1 Q else Q false S1
def dOr (t u:TDT):TDT:=λdl S Q=>t dl S λk S1=>if k=true then Q true S1 else u dl S1 Q
theorem zkj {t:TDT}(ha:PDT X Z a t):PDW X Z (.BoolOp .And [a] pos) t:=zuW ha
theorem znz {t:TDT}(ha:PDT X Z a t):PDW X Z (.BoolOp .Or [a] pos) t:=zug ha
theorem zkf {t u:TDT}(ha:PDT X Z a t)(hb:PDW X Z (.BoolOp .And (b::zbe) pos) u):PDW X Z (.BoolOp .And (a::b::zbe) pos) (dAnd t u):=
 znr (ztA ha hb) λσ H Qb ⟨r,dl,S,Q,rs,rel,h,ret⟩=>⟨r,dl,S,_,rs,rel,h,λk H1 r1 S1 e1 rel1 q1=>by
  cases k with
  | true=>exact zbJ ⟨r1,dl,S1,Q,rs.ext e1,rel1,(by simpa using q1),λk' H2 r2 S2 e2=>ret k' H2 r2 S2 (e1.trans e2)⟩
  | false=>exact zbH (ret false H1 r1 S1 e1 rel1 (by simpa using q1))⟩
theorem zko {t u:TDT}(ha:PDT X Z a t)(hb:PDW X Z (.BoolOp .Or (b::zbe) pos) u):PDW X Z (.BoolOp .Or (a::b::zbe) pos) (dOr t u):=
 znr (pw_or ha hb) λσ H Qb ⟨r,dl,S,Q,rs,rel,h,ret⟩=>⟨r,dl,S,_,rs,rel,h,λk H1 r1 S1 e1 rel1 q1=>by
  cases k with
  | true=>exact zbJ (ret true H1 r1 S1 e1 rel1 (by simpa using q1))
  | false=>exact zbH ⟨r1,dl,S1,Q,rs.ext e1,rel1,(by simpa using q1),λk' H2 r2 S2 e2=>ret k' H2 r2 S2 (e1.trans e2)⟩⟩
def dAndV (ta tb:TDE):TDE:=λdl S Q=>ta dl S λx S1=>match x with
 | .bl k=>if k=true then tb dl S1 Q else Q (.bl false) S1
 | _=>False
def dOrV (ta tb:TDE):TDE:=λdl S Q=>ta dl S λx S1=>match x with
 | .bl k=>if k=true then Q (.bl true) S1 else tb dl S1 Q
 | _=>False
theorem zcG {op}{t:TDE}(h:PD X Z a t):PD X Z (.BoolOp op [a] pos) t:=zrq h
theorem zcs (ha:PD X Z a ta)(hb:PD X Z (.BoolOp .And (b::zbe) pos) tb):PD X Z (.BoolOp .And (a::b::zbe) pos) (dAndV ta tb):=
 zbc (zuz ha hb) λσ H Qv ⟨r,dl,S,Q,rs,rel,h,ret⟩=>⟨r,dl,S,_,rs,rel,h,λv H1 r1 d S1 e1 rel1 p q1=>by
  cases p with
  | bl k=>
   refine⟨k,rfl,?_⟩
   cases k with
   | true=>exact zbJ ⟨r1,dl,S1,Q,rs.ext e1,rel1,(by simpa using q1),ret.ext e1⟩
   | false=>exact zbH (ret _ H1 r1 (.bl false) S1 e1 rel1 (.bl false) (by simpa using q1))
  | _=>exact(show False from q1).elim⟩
theorem pd_or (ha:PD X Z a ta)(hb:PD X Z (.BoolOp .Or (b::zbe) pos) tb):PD X Z (.BoolOp .Or (a::b::zbe) pos) (dOrV ta tb):=
 zbc (pe_or ha hb) λσ H Qv ⟨r,dl,S,Q,rs,rel,h,ret⟩=>⟨r,dl,S,_,rs,rel,h,λv H1 r1 d S1 e1 rel1 p q1=>by
  cases p with
  | bl k=>
   refine⟨k,rfl,?_⟩
   cases k with
   | true=>exact zbJ (ret _ H1 r1 (.bl true) S1 e1 rel1 (.bl true) (by simpa using q1))
   | false=>exact zbH ⟨r1,dl,S1,Q,rs.ext e1,rel1,(by simpa using q1),ret.ext e1⟩
  | _=>exact(show False from q1).elim⟩
def dIfE (t:TDT)(ta tb:TDE):TDE:=λdl S Q=>t dl S λk S1=>if k=true then ta dl S1 Q else tb dl S1 Q
theorem zte {t:TDT}(hc:PDT X Z c t)(ha:PD X Z a ta)(hb:PD X Z b tb):PD X Z (.IfExp c a b pos) (dIfE t ta tb):=
 zbc (zq2 hc ha hb) λσ H Qv ⟨r,dl,S,Q,rs,rel,h,ret⟩=>⟨r,dl,S,_,rs,rel,h,λk H1 r1 S1 e1 rel1 q1=>by
  cases k with
  | true=>exact zbJ ⟨r1,dl,S1,Q,rs.ext e1,rel1,(by simpa using q1),ret.ext e1⟩
  | false=>exact zbH ⟨r1,dl,S1,Q,rs.ext e1,rel1,(by simpa using q1),ret.ext e1⟩⟩
def zoW (w w':W2)(ta tb tc:TDE):TDE:=λdl S Q=>ta dl S λx S1=>tb dl S1 λy S2=>w x y S2 λz S3=>match z with
 | .bl k=>if k=true then tc dl S3 λu S4=>w' y u S4 Q else Q (.bl false) S3
 | _=>False
theorem zs5 {w w':W2}{σ:St}{H:Hp}{Qv:VK}(h:up X.K Z (zoW w w' ta tb tc) σ H Qv):zoQ (upO X.K Z w) (upO X.K Z w') (up X.K Z ta) (up X.K Z tb) (up X.K Z tc) σ H Qv:=by
 obtain⟨r,dl,S,Q,rs,rel,h,ret⟩:=h
 refine⟨r,dl,S,_,rs,rel,h,λv H1 r1 dx S1 e1 rel1 p1 h1=>⟨r1,dl,S1,_,rs.ext e1,rel1,h1,λv2 H2 r2 dy S2 e2 rel2 p2 h2=>⟨r2,S2,dx,dy,_,rel2,p1.ext e2,p2,h2,λv3 H3 r3 dz S3 e3 rel3 p3 h3=>?_⟩⟩⟩
 cases p3 with
 | bl k=>
  refine⟨k,rfl,?_⟩
  cases k with
  | true=>exact zbJ ⟨r3,dl,S3,_,rs.ext (e1.trans (e2.trans e3)),rel3,(by simpa using h3),λv4 H4 r4 du S4 e4 rel4 p4 h4=>⟨r4,S4,dy,du,Q,rel4,(p2.ext e3).ext e4,p4,h4,ret.ext (e1.trans (e2.trans (e3.trans e4)))⟩⟩
  | false=>exact zbH (ret _ H3 r3 (.bl false) S3 (e1.trans (e2.trans e3)) rel3 (.bl false) (by simpa using h3))
 | _=>exact(show False from h3).elim
theorem zkQ {op op':CmpOp}{w w':W2}(ho:OpR X (compareOp op) (upO X.K Z w))(ho':OpR X (compareOp op') (upO X.K Z w'))(ha:PD X Z a ta)(hb:PD X Z b tb)(hc:PD X Z c tc)
  (hm:lastMarks [op,op'] [b,c]=false:=by with_unfolding_all rfl):PDT X Z (.Compare a [op,op'] [b,c] pos) (zl4 (zoW w w' ta tb tc)):=
 zjU (zrO ho ho' ha hb hc hm) λσ H Qb ⟨r,dl,S,Q,rs,rel,h,ret⟩=>zs5 ⟨r,dl,S,_,rs,rel,h,zmo ret⟩
variable {e:Expr}{es:List Expr}
def dNil:TDA:=λ_ S Q=>Q [] S
def dCons (ta:TDE)(tr:TDA):TDA:=λdl S Q=>ta dl S λx S1=>tr dl S1 λxs S2=>Q (x::xs) S2
theorem zad:PDA X Z [] dNil:=zoy zk3 λσ H Qv ⟨r,dl,S,Q,rs,rel,h,ret⟩=>ret [] H r [] S Ext.refl rel Rps.nil h
theorem zaa {te:TDE}{t:TDA}(ha:PD X Z e te)(hr:PDA X Z es t)(hs:starEach (e::es) X.env=(false,eval e X.env)::starEach es X.env:=by rfl):PDA X Z (e::es) (dCons te t):=
 zoy (zgU ha hr hs) λσ H Qv ⟨r,dl,S,Q,rs,rel,h,ret⟩=>⟨r,dl,S,_,rs,rel,h,λv H1 r1 d S1 e1 rel1 p1 h1=>⟨r1,dl,S1,_,rs.ext e1,rel1,h1,λvs H2 r2 ds S2 e2 rel2 p2 h2=>
  ret (v::vs) H2 r2 (d::ds) S2 (e1.trans e2) rel2 (Rps.cons (p1.ext e2) p2) h2⟩⟩
def dTup (t:TDA):TDE:=λdl S Q=>t dl S λds S1=>if ds.length≤1000 then Q (.tup ds) S1 else False
def dLst (t:TDA):TDE:=λdl S Q=>t dl S λds S1=>if ds.length≤1000 then Q (.ref S1.length) (S1++[.lst ds]) else False
theorem zks {A:Prop}{p:Prop} [Decidable p] (h:if p then A else False):p∧A:=by
 split at h
 ·exact⟨by assumption,h⟩
 ·exact h.elim
theorem zdK {n:Nat}(h:n≤1000):n≤sizeLine:=VaW (zjf h)
theorem zaE {x1}{t:TDA}(h:PDA X Z es t):PD X Z (.Tuple es x1 pos) (dTup t):=
 zbc (zt5 h) λσ H Qv ⟨r,dl,S,Q,rs,rel,h,ret⟩=>⟨r,dl,S,_,rs,rel,h,λvs H1 r1 ds S1 e1 rel1 p1 h1=>by
  obtain⟨hl,h1⟩:=zks h1
  refine⟨by rw[← p1.1]; exact zdK hl,λp hp=>?_⟩
  have x:Ext r1 r1 H1 (upd H1 p (.tup vs)):=⟨λ_ _ q=>q,λa xs q=>zb8 hp _ _ q,λa c q=>zb8 hp _ _ q⟩
  exact ret _ _ r1 (.tup ds) S1 (e1.trans x) (rel1.same (zb8 hp)) ((p1.ext x).tupR zb5) h1⟩
theorem zc2 {r:List Addr}{p:Addr}{H:Hp}{n:Nat}(h:r.length=n):Rp (r++[p]) H (.ref n) (.ref p):=.ref (by subst h; simp)
theorem zbl {t:TDA}(h:PDA X Z es t):PD X Z (.List es pos) (dLst t):=
 zbc (zq9 h) λσ H Qv ⟨r,dl,S,Q,rs,rel,h,ret⟩=>⟨r,dl,S,_,rs,rel,h,λvs H1 r1 ds S1 e1 rel1 p1 h1=>by
  obtain⟨hl,h1⟩:=zks h1
  refine⟨by rw[← p1.1]; exact zdK hl,λp hp=>?_⟩
  obtain⟨rel2,x⟩:=rel1.push hp p1
  exact ret _ _ _ (.ref S1.length) _ (e1.trans x) rel2 (zc2 rel1.len) h1⟩
def wIx:W2:=λx y S Q=>match x,y with
 | .tup xs,.int i=>match atI xs i with
  | some d=>Q d S
  | none=>False
 | .ref n,.int i=>match lAt S n with
  | some o=>match atI (zaj o) i with
   | some d=>Q d S
   | none=>False
  | none=>False
 | _,_=>False
theorem znD {r:List Addr}{H:Hp}{ds:List D}{vs:List V}{i:Int}{d:D}(h:Rps r H ds vs)(e:atI ds i=some d):∃v,atI vs i=some v∧Rp r H d v:=by
  unfold atI at e ⊢
  rw[← h.1]
  cases q:ixN ds.length i with
  | none=>
   rw[q] at e
   cases e
  | some j=>
    rw[q] at e
    exact h.get e
theorem do_ix:IxR X (upO X.K Z wIx):=by
 intro value slice pins s σ H x y v u Qv I rx ry h hs
 obtain⟨r,S,dx,dy,Q,rel,px,py,q,ret⟩:=h
 cases px with
 | @tup ds xs a e1 l1 f1=>
  cases py with
  | int i=>
   have q':(match atI ds i with | some d=>Q d S | none=>False):=q
   split at q'
   ·rename_i d e
    obtain⟨w,hw,pw⟩:=znD ⟨l1,f1⟩ e
    exact zrU value slice pins s σ H _ _ v u Qv I rx ry ⟨a,xs,i,w,rfl,rfl,SqT.of e1,hw,ret w H r d S Ext.refl rel pw q'⟩ hs
   ·exact q'.elim
  | _=>exact(show False from q).elim
 | @ref n a e1=>
  cases py with
  | int i=>
   have q':(match lAt S n with | some o=>(match atI (zaj o) i with | some d=>Q d S | none=>False) | none=>False):=q
   split at q'
   ·rename_i o eo
    obtain⟨eo,eL⟩:=zbo eo
    obtain⟨a',ha,ob⟩:=rel.at eo
    rw[e1] at ha; cases ha
    obtain⟨xs,sq,pr⟩:=ob.list eL
    split at q'
    ·rename_i d e
     obtain⟨w,hw,pw⟩:=znD pr e
     exact ztb value slice pins s σ H _ _ v u Qv I rx ry ⟨a,xs,i,w,rfl,rfl,sq,hw,ret w H r d S Ext.refl rel pw q'⟩ hs
    ·exact q'.elim
   ·exact q'.elim
  | _=>exact(show False from q).elim
 | _=>exact(show False from q).elim
theorem zaf (ha:PD X Z a ta)(hb:PD X Z b tb)(hs:zmC b):PD X Z (.Subscript a b pos) (dOp wIx ta tb):=zbc (pe_ix do_ix ha hb hs) λ_ _ _ h=>zhP h
end
structure Bk (fs:List Addr)(H H':Hp)(B h:Heap)(ea:Addr):Prop where
 trk:∀b u,H' b=some u→∃o,B.get? b=some o
 old:∀b o,h.get? b=some o→H b=none→b ∉ fs→B.get? b=some o
 all:∀b o,h.get? b=some o→b ∉ fs→∃o',B.get? b=some o'
 new:H' ea=none
def CXE (P:Program)(w:World):CXT:=λouter H s E e s'=>∃(ea c:Addr) (a0:Value) (B:Heap) (H':Hp),e=.ref ea∧s'.os=s.os∧AllBare s'.gens∧Un (frs outer) [] H H' s.heap s'.heap∧HOk P w H' s'.heap∧
 Heap.FlyingW B outer ea (.ref c) a0 s'.heap∧Bk (frs outer) H H' B s.heap ea∧E (.ref c) none H'
section
variable {X:Cx}{pins:List (Addr×Obj)}{σ:St}{H:Hp}{s:Shared}
end
section
variable {P:Program}{w:World}{K:PySem.W.Frag}{mg:Str→Option Value}{base:Heap}{N:List Str}{qual:Str}{scope:Scope}{f:Addr}{cdv:Value}{A:Around}{outer:List Env}{s0:Shared}{H0:Hp}{E:XK}
end
structure Xc (K:PySem.W.Frag)(mg:Str→Option Value)(x:Str)(C:Addr)(bm:List Value)(nid:String):Prop where
 bound:mg x=some (.ref C)
 ex:PySem.W.excIn K C bm nid=true
abbrev WC:=List D→Sto→DK→Prop
abbrev Sd:=List D→Sto→DK→(Addr→Sto→Prop)→Prop
def upC (K:PySem.W.Frag)(Z:Zx)(w:WC):List V→Hp→VK→Prop:=λxs H Qv=>∃r S ds Q,Rel K Z r S H∧Rps r H ds xs∧w ds S Q∧Ret K Z r H Q Qv
def upF (K:PySem.W.Frag)(sd:Sd):Sp:=λvs H Qv E=>∃ex:Addr→Sto→Prop,upC K (Zc ex E) (λds S Q=>sd ds S Q ex) vs H Qv
def zmq (w:WC)(t:TDA):TDE:=λdl S Q=>t dl S λds S1=>w ds S1 Q
def zms (ex:Ev→Addr→Sto→Prop)(sd:Sd)(t:TDA):TDE:=λdl S Q=>t dl S λds S1=>sd ds S1 Q (ex dl)
def zdu (X:Cx)(W:St→XK):Prop:=∀(pins:List (Addr×Obj)) (σ:St) (H:Hp) (s:Shared) (e:Value) (s':Shared),Inv X pins σ H s→CXE X.prog X.w X.stack H s (W σ) e s'→X.xe e s'
section
variable {X:Cx}{k:Nat}{f:Addr}{fd:FuncData}{ps:List Str}{sp:Sp}{W:St→XK}{x:Str}{p pos:Pos}{e:Expr}{es:List Expr}{t:TA}
theorem zoh {pins:List (Addr×Obj)}{σ:St}{H:Hp}{s:Shared}{Q:VK}{us:List Value}{vs:List V}(F:zbb X.prog X.w X.K X.mg X.base (CXE X.prog X.w) k f fd ps sp)(hr:zaQ k X.A)(hb:zbD X.K fd ps [])(hx:zdu X W)
  (I:Inv X pins σ H s)(r:zao vs us)(h:sp vs H Q (W σ)):wpAny (model X.prog X.w) X.A (call (.ref f) us) (EP X pins σ Q) X.xe s:=by
 have hl:us.length=ps.length:=by rw[← r.length]; exact F.len _ _ _ _ h
 have hb':=hb s us I.kIn (by rw[Vai]; exact hl)
 rw[Vai] at hb'
 refine wpAny_call (codeAny_mono (F.run X.A X.stack s H ⟨us,[]⟩ us vs Q (W σ) hr I.env0 hb' r h) λz s' hq=>?_)
 cases z with
 | error ev=>exact hx pins σ H s ev s' I hq
 | ok fl=>
  cases fl with
  | ret u=>exact I.after hq
  | _=>exact False.elim hq
theorem zse (F:zbb X.prog X.w X.K X.mg X.base (CXE X.prog X.w) k f fd ps sp)(hr:zaQ k X.A)(hg:Gl X x)(hm:X.mg x=some (.ref f))(hk:PySem.W.keepIn X.K (.ref f)=true)(hb:zbD X.K fd ps [])(hx:zdu X W)
  (ha:PA X (e::es) t)(hdb:(x==("__debug__":Str))=false)(he:starEach (e::es) X.env=(false,eval e X.env)::starEach es X.env)(hpl:(backTo pos (starEach es X.env)).any (·.1)=false):
  PE X (.Call (.Name x p) (e::es) [] pos) (λσ H Q=>t σ H λvs H1=>sp vs H1 Q (W σ)):=by
 intro pins s σ H Q I h
 refine wpAny_Call_Name_kw (znF I hg hm ?_ hdb)
 exact PySem.W.callWith_K (h₀:=X.base) I.ok.mod.kin hk (thn (ha pos pins s σ H _ I h) λus s1 ⟨vs,H1,I1,r,q⟩=>⟨I1.kIn,zoh F hr hb hx I1 r q⟩) he hpl
end
section
variable {X:Cx}{Z:Zx}{x:Str}{p pos:Pos}{e:Expr}{es:List Expr}{t:TDA}{id T:String}{w:WC}
theorem zok {σ:St}{H:Hp}{Qv:VK}(h:up X.K Z (zmq w t) σ H Qv):upA X.K Z t σ H λvs H1=>upC X.K Z w vs H1 Qv:=by
 obtain⟨r,dl,S,Q,rs,rel,h,ret⟩:=h
 exact⟨r,dl,S,_,rs,rel,h,λvs H1 r1 ds S1 e1 rel1 p1 h1=>⟨r1,S1,ds,Q,rel1,p1,h1,ret.ext e1⟩⟩
theorem zaM (hc:za2 X (.builtin id) (upC X.K Z w))(hg:Gl X x)(hm:X.mg x=none)(hv:bootBuiltins x=some (.builtin id))(ha:PDA X Z (e::es) t)(hn:x≠"__name__":=by decide)(hdb:(x==("__debug__":Str))=false:=by decide)
  (he:starEach (e::es) X.env=(false,eval e X.env)::starEach es X.env:=by rfl)(hpl:(backTo pos (starEach es X.env)).any (·.1)=false:=by rfl):PD X Z (.Call (.Name x p) (e::es) [] pos) (zmq w t):=
 zbc (znI hc hg hm hv ha hn hdb he hpl) λ_ _ _ h=>zok h
theorem zcN (hc:za2 X (.type T) (upC X.K Z w))(hg:Gl X x)(hm:X.mg x=none)(hv:bootBuiltins x=some (.type T))(ha:PDA X Z (e::es) t)(hn:x≠"__name__":=by decide)(hdb:(x==("__debug__":Str))=false:=by decide)
  (he:starEach (e::es) X.env=(false,eval e X.env)::starEach es X.env:=by rfl)(hpl:(backTo pos (starEach es X.env)).any (·.1)=false:=by rfl):PD X Z (.Call (.Name x p) (e::es) [] pos) (zmq w t):=
 zbc (zmS hc hg hm hv ha hn hdb he hpl) λ_ _ _ h=>zok h
theorem znL {sd:Sd}{r:List Addr}{S:Sto}{H:Hp}{dl:Ev}{σ:St}{ds:List D}{vs:List V}{Q:DK}{Qv:VK}(rs:Rs r H dl σ)(rel:Rel X.K Z r S H)(p:Rps r H ds vs)(h:sd ds S Q (Z.ex dl))(ret:Ret X.K Z r H Q Qv):upF X.K sd vs H Qv (Z.w σ):=
 ⟨Z.ex dl,r,S,ds,Q,⟨rel.b,λ_ _ c H' r' S' x _ rb q=>rel.xw dl σ c H' r' S' x (rs.ext x) rb q⟩,p,h,λv H' r' d S' x rel' pv q=>ret v H' r' d S' x ⟨rel'.b,rel.xw.ext x⟩ pv q⟩
theorem zsC {k:Nat}{f:Addr}{fd:FuncData}{ps:List Str}{sd:Sd}(F:zbb X.prog X.w X.K X.mg X.base (CXE X.prog X.w) k f fd ps (upF X.K sd))(hr:zaQ k X.A)(hg:Gl X x)(hm:X.mg x=some (.ref f))(hk:PySem.W.keepIn X.K (.ref f)=true)
  {ex:Ev→Addr→Sto→Prop}{W:St→XK}(hb:zbD X.K fd ps [])(hx:zdu X W)(ha:PDA X ⟨ex,W⟩ (e::es) t)(hdb:(x==("__debug__":Str))=false:=by decide)(he:starEach (e::es) X.env=(false,eval e X.env)::starEach es X.env:=by rfl)
  (hpl:(backTo pos (starEach es X.env)).any (·.1)=false:=by rfl):PD X ⟨ex,W⟩ (.Call (.Name x p) (e::es) [] pos) (zms ex sd t):=
 zbc (zse F hr hg hm hk hb hx ha hdb he hpl) λσ H Qv ⟨r,dl,S,Q,rs,rel,h,ret⟩=>⟨r,dl,S,_,rs,rel,h,λvs H1 r1 ds S1 e1 rel1 p1 h1=>znL (Z:=⟨ex,W⟩) (rs.ext e1) rel1 p1 h1 (ret.ext e1)⟩
def wAbs:WC:=λds S Q=>match ds with
 | [.int i]=>Q (.int (if i<0 then -i else i)) S
 | _=>False
theorem zrm:za2 X (.builtin "abs") (upC X.K Z wAbs):=zjt zqx λxs H Qv ⟨r,S,ds,Q,rel,ps,q,ret⟩=>by
 unfold wAbs at q
 split at q
 ·rename_i i
  obtain⟨v,vs,rfl,p1,p2⟩:=ps.uncons
  have z:=p2.unnil
  subst z
  cases p1
  exact⟨i,rfl,ret _ _ _ _ _ Ext.refl rel (.int _) q⟩
 ·exact q.elim
def zb9:List D→Option (List Int)
 | []=>some []
 | .int i::r=>(zb9 r).map (i::·)
 | _::_=>none
def zdW (le:Int→Int→Prop)(two:Int→Int→Int):WC:=λds S Q=>match ds with
 | [.int i,.int j]=>Q (.int (two i j)) S
 | [.ref n]=>match lAt S n with
  | some o=>match zb9 (zaj o) with
   | some xs=>xs≠[]∧∀m,m∈xs→(∀y∈xs,le y m)→Q (.int m) S
   | none=>False
  | none=>False
 | _=>False
abbrev wMax:WC:=zdW (λy m=>y≤m) λi j=>if j > i then j else i
abbrev wMin:WC:=zdW (λy m=>m≤y) λi j=>if j<i then j else i
theorem zi4 {r:List Addr}{H:Hp}:∀ {ds:List D} {ns:List Int} {vs:List V} {us:List Value},zb9 ds=some ns→Rps r H ds vs→zao vs us→∃xs:List (Int×Tok),us.toArray=intItems xs.toArray∧xs.map (·.1)=ns
 | [],ns,vs,us,e,p,q=>by
  have z:=p.unnil
  subst z
  cases q
  simp[zb9] at e
  subst e
  exact⟨[],by simp[intItems],rfl⟩
 | d::ds,ns,vs,us,e,p,q=>by
  obtain⟨v,vs',rfl,p1,p2⟩:=p.uncons
  cases d with
  | int i=>
   cases p1
   cases q with
   | cons q1 q2=>
    obtain⟨t,rfl⟩:=q1
    simp only[zb9,VaF] at e
    obtain⟨ms,e1,rfl⟩:=e
    obtain⟨xs,h1,h2⟩:=zi4 e1 p2 q2
    refine⟨(i,t)::xs,?_,by simp[h2]⟩
    simp[intItems] at h1 ⊢
    exact h1
  | _=>simp[zb9] at e
theorem znV (f:Nat→Int):∀k j,j≤k→f j≤f (argBest (λi j=>decide (f i > f j)) k)
 | 0,j,h=>by
  have z:j=0:=by omega
  subst z
  exact VaR _
 | k+1,j,h=>by
  have ih:=znV f k
  unfold argBest
  split
  ·rename_i hb
   have hb':f (k+1) > f (argBest (λi j=>decide (f i > f j)) k):=of_decide_eq_true hb
   by_cases z:j=k+1
   ·subst z; exact VaR _
   ·have:=ih j (by omega); omega
  ·rename_i hb
   have hb':¬ f (k+1) > f (argBest (λi j=>decide (f i > f j)) k):=λq=>hb (decide_eq_true q)
   by_cases z:j=k+1
   ·subst z; omega
   ·exact ih j (by omega)
theorem zng (f:Nat→Int):∀k j,j≤k→f (argBest (λi j=>decide (f i<f j)) k)≤f j
 | 0,j,h=>by
  have z:j=0:=by omega
  subst z
  exact VaR _
 | k+1,j,h=>by
  have ih:=zng f k
  unfold argBest
  split
  ·rename_i hb
   have hb':f (k+1)<f (argBest (λi j=>decide (f i<f j)) k):=of_decide_eq_true hb
   by_cases z:j=k+1
   ·subst z; exact VaR _
   ·have:=ih j (by omega); omega
  ·rename_i hb
   have hb':¬ f (k+1)<f (argBest (λi j=>decide (f i<f j)) k):=λq=>hb (decide_eq_true q)
   by_cases z:j=k+1
   ·subst z; omega
   ·exact ih j (by omega)
theorem zlN (bt:Nat→Nat→Bool):∀k,argBest bt k≤k
 | 0=>Vaa _
 | k+1=>by
  unfold argBest
  split
  ·exact Vaa _
  ·exact Nat.le_succ_of_le (zlN bt k)
theorem zmf {xs:List (Int×Tok)}{ns:List Int}(h:xs.map (·.1)=ns){j:Nat}{y:Int}(e:ns[j]?=some y):numAt xs.toArray j=y:=by
  subst h
  unfold numAt
  rw[Vag] at e
  simp only[List.getElem?_toArray]
  cases q:xs[j]? with
  | none=>
   rw[q] at e
   cases e
  | some z=>rw[q] at e; simpa using e
theorem zoJ {xs:List (Int×Tok)}{ns:List Int}(h:xs.map (·.1)=ns){j:Nat}(hj:j<ns.length):numAt xs.toArray j∈ns:=by
 have e:ns[j]?=some ns[j]:=by simp[hj]
 rw[zmf h e]
 exact Va6 hj
theorem zlz (hc:X.calm=true):za2 X (.builtin "max") (upC X.K Z wMax):=by
 intro pins s σ H xs us Qv I rv h
 obtain⟨r,S,ds,Q,rel,ps,q,ret⟩:=h
 unfold wMax zdW at q
 split at q
 ·rename_i i j
  obtain⟨v,vs,rfl,p1,p2⟩:=ps.uncons
  obtain⟨v2,vs2,rfl,p3,p4⟩:=p2.uncons
  have z:=p4.unnil
  subst z
  cases p1
  cases p3
  exact zqh hc pins s σ H _ us Qv I rv ⟨i,j,rfl,ret _ _ _ _ _ Ext.refl rel (.int _) q⟩
 ·rename_i n
  obtain⟨v,vs,rfl,p1,p2⟩:=ps.uncons
  have z:=p2.unnil
  subst z
  split at q
  ·rename_i o eo
   split at q
   ·rename_i ns en
    obtain⟨hne,q⟩:=q
    obtain⟨eo,eL⟩:=zbo eo
    obtain⟨a,ha,ob⟩:=rel.at eo
    cases p1 with
    | ref h1=>
     rw[h1] at ha; cases ha
     obtain⟨ys,sq,pr⟩:=ob.list eL
     obtain⟨u,rfl,ru⟩:=zcx rv
     cases ru
     obtain⟨its,ri,pl,hz⟩:=I.list sq
     obtain⟨zs,hz1,hz2⟩:=zi4 en pr ri
     have hl:zs.length=ns.length:=by rw[← hz2,Vac]
     have hpos:0<ns.length:=List.length_pos_iff.mpr hne
     have isl:=pl.isList
     rw[hz1] at isl
     refine max_intList (I.ok.hd hc) isl (by simp; omega) λv h' tk hv hk=>?_
     have hvi:=intItems_at hv
     obtain⟨t,rfl⟩:=hvi
     have hb:=zlN (λi j=>decide (numAt zs.toArray i > numAt zs.toArray j)) (zs.toArray.size-1)
     have hsz:zs.toArray.size=ns.length:=by simp[hl]
     refine⟨.int _,H,I.kept hk,⟨_,rfl⟩,ret _ _ _ _ _ Ext.refl rel (.int _) (q _ (zoJ hz2 (by omega)) λy hy=>?_)⟩
     obtain⟨j,hj,ej⟩:=VaN.mp hy
     have e1:=zmf hz2 (show ns[j]?=some y by simp[hj,ej])
     rw[← e1]
     exact znV _ _ j (by omega)
   ·exact q.elim
  ·exact q.elim
 ·exact q.elim
theorem zhI (hc:X.calm=true):za2 X (.builtin "min") (upC X.K Z wMin):=by
 intro pins s σ H xs us Qv I rv h
 obtain⟨r,S,ds,Q,rel,ps,q,ret⟩:=h
 unfold wMin zdW at q
 split at q
 ·rename_i i j
  obtain⟨v,vs,rfl,p1,p2⟩:=ps.uncons
  obtain⟨v2,vs2,rfl,p3,p4⟩:=p2.uncons
  have z:=p4.unnil
  subst z
  cases p1
  cases p3
  exact zvo hc pins s σ H _ us Qv I rv ⟨i,j,rfl,ret _ _ _ _ _ Ext.refl rel (.int _) q⟩
 ·rename_i n
  obtain⟨v,vs,rfl,p1,p2⟩:=ps.uncons
  have z:=p2.unnil
  subst z
  split at q
  ·rename_i o eo
   split at q
   ·rename_i ns en
    obtain⟨hne,q⟩:=q
    obtain⟨eo,eL⟩:=zbo eo
    obtain⟨a,ha,ob⟩:=rel.at eo
    cases p1 with
    | ref h1=>
     rw[h1] at ha; cases ha
     obtain⟨ys,sq,pr⟩:=ob.list eL
     obtain⟨u,rfl,ru⟩:=zcx rv
     cases ru
     obtain⟨its,ri,pl,hz⟩:=I.list sq
     obtain⟨zs,hz1,hz2⟩:=zi4 en pr ri
     have hl:zs.length=ns.length:=by rw[← hz2,Vac]
     have hpos:0<ns.length:=List.length_pos_iff.mpr hne
     have isl:=pl.isList
     rw[hz1] at isl
     refine min_intList (I.ok.hd hc) isl (by simp; omega) λv h' tk hv hk=>?_
     have hvi:=intItems_at hv
     obtain⟨t,rfl⟩:=hvi
     have hb:=zlN (λi j=>decide (numAt zs.toArray i<numAt zs.toArray j)) (zs.toArray.size-1)
     have hsz:zs.toArray.size=ns.length:=by simp[hl]
     refine⟨.int _,H,I.kept hk,⟨_,rfl⟩,ret _ _ _ _ _ Ext.refl rel (.int _) (q _ (zoJ hz2 (by omega)) λy hy=>?_)⟩
     obtain⟨j,hj,ej⟩:=VaN.mp hy
     have e1:=zmf hz2 (show ns[j]?=some y by simp[hj,ej])
     rw[← e1]
     exact zng _ _ j (by omega)
   ·exact q.elim
  ·exact q.elim
 ·exact q.elim
def zeb:WC:=λds S Q=>match ds with
 | [.tup xs]=>Q (.int xs.length) S
 | [.ref n]=>match lAt S n with
  | some o=>Q (.int (zaj o).length) S
  | none=>False
 | _=>False
theorem za1:za2 X (.builtin "len") (upC X.K Z zeb):=zjt zpY λxs H Qv ⟨r,S,ds,Q,rel,ps,q,ret⟩=>by
 unfold zeb at q
 split at q
 ·rename_i ys
  obtain⟨v,vs,rfl,p1,p2⟩:=ps.uncons
  have z:=p2.unnil
  subst z
  obtain⟨a,zs,rfl,h1,h2⟩:=p1.untup
  exact⟨a,zs,rfl,.inr (SqT.of h1),by rw[← h2.1]; exact ret _ _ _ _ _ Ext.refl rel (.int _) q⟩
 ·rename_i n
  obtain⟨v,vs,rfl,p1,p2⟩:=ps.uncons
  have z:=p2.unnil
  subst z
  split at q
  ·rename_i o eo
   obtain⟨eo,eL⟩:=zbo eo
   obtain⟨a,ha,ob⟩:=rel.at eo
   cases p1 with
   | ref h1=>
    rw[h1] at ha; cases ha
    obtain⟨ys,sq,pr⟩:=ob.list eL
    exact⟨_,ys,rfl,.inl sq,by rw[← pr.1]; exact ret _ _ _ _ _ Ext.refl rel (.int _) q⟩
  ·exact q.elim
 ·exact q.elim
def zb3 (t T:String):Bool:=t==T||(t == "bool"&&T == "int")
def rInst (K:PySem.W.Frag):List V→Hp→VK→Prop:=λxs H Qv=>∃x T t b,xs=[x,.ty T]∧zbT K H x t∧PySem.W.kitOne K t (.type T)=some b∧Qv (.bl b) H
theorem zsv:za2 X (.builtin "isinstance") (rInst X.K):=by
 intro pins s σ H xs us Q I r h
 obtain⟨x,T,t,b,rfl,ty,e,q⟩:=h
 obtain⟨u,w',rfl,r1,r2⟩:=ziQ r
 cases r2
 exact zrh I r1 ty e λtk=>⟨.bl b,H,I.tok tk,rfl,q⟩
end
section
variable {X:Cx}{Z:Zx}{st:Stmt}{zbe:List Stmt}{t u:TDS}{e:Expr}{te:TDE}{pos:Pos}
def znS:TDS:=λE dl S=>E.nx dl S
def zbY (t u:TDS):TDS:=λE dl S=>t { nx:=λdl' S'=>u E dl' S',rt:=E.rt,bk:=E.bk,ct:=E.ct } dl S
theorem zaF:zbU X Z [] znS:=znc zs0 λF σ H ⟨r,dl,S,E,rs,rel,h,ret⟩=>ret.nx σ H r dl S Ext.refl rs rel h
theorem zae (h1:PDS X Z st t)(h2:zbU X Z zbe u):zbU X Z (st::zbe) (zbY t u):=
 znc (zsF h1 h2) λF σ H ⟨r,dl,S,E,rs,rel,h,ret⟩=>⟨r,dl,S,_,rs,rel,h,λσ' H' r' dl' S' x rs' rel' q=>⟨r',dl',S',E,rs',rel',q,ret.ext x⟩,ret.bk,ret.ct,ret.rt⟩
theorem zag (h1:PDS X Z st t):zbU X Z [st] t:=zrt h1
def dCont:TDS:=λE dl S=>E.ct dl S
theorem zuI:PDS X Z (.Continue pos) dCont:=zbt zt2 λF σ H ⟨r,dl,S,E,rs,rel,h,ret⟩=>ret.ct σ H r dl S Ext.refl rs rel h
def dDrop (te:TDE):TDS:=λE dl S=>te dl S λ_ S1=>E.nx dl S1
theorem zbh (he:PD X Z e te)(hs:swapsWith e none pos.line X.env=pure false:=by rfl):PDS X Z (.Expr e pos) (dDrop te):=
 zbt (zus he hs) λF σ H ⟨r,dl,S,E,rs,rel,h,ret⟩=>⟨r,dl,S,_,rs,rel,h,λv H1 r1 d S1 x rel1 p q=>ret.nx σ H1 r1 dl S1 x (rs.ext x) rel1 q⟩
def dRet (te:TDE):TDS:=λE dl S=>te dl S E.rt
theorem zai (he:PD X Z e te):PDS X Z (.Return (some e) pos) (dRet te):=
 zbt (zpT he) λF σ H ⟨r,dl,S,E,rs,rel,h,ret⟩=>⟨r,dl,S,_,rs,rel,h,ret.rt⟩
def dIf (c:TDT)(t u:TDS):TDS:=λE dl S=>c dl S λk S1=>if k=true then t E dl S1 else u E dl S1
theorem zaD {c:Expr}{a b:List Stmt}{tc:TDT}(hc:PDT X Z c tc)(ha:zbU X Z a t)(hb:zbU X Z b u):PDS X Z (.If c a b pos) (dIf tc t u):=
 zbt (ps_if hc ha hb) λF σ H ⟨r,dl,S,E,rs,rel,h,ret⟩=>⟨r,dl,S,_,rs,rel,h,λk H1 r1 S1 x rel1 q=>by
  cases k with
  | true=>exact zbJ ⟨r1,dl,S1,E,rs.ext x,rel1,(by simpa using q),ret.ext x⟩
  | false=>exact zbH ⟨r1,dl,S1,E,rs.ext x,rel1,(by simpa using q),ret.ext x⟩⟩
def dSet (i:Nat)(te:TDE):TDS:=λE dl S=>te dl S λd S1=>E.nx (dl.set i (some d)) S1
theorem zah {i:Nat}{x:Str}{pos':Pos}(hN:X.N.Nodup)(hi:X.N[i]?=some x)(hx:Loc X.env.scope x)(he:PD X Z e te)(hs:swapsWith e (some (.Name x pos')) pos.line X.env=pure false:=by rfl)
  (hf:X.fn x=true∨X.env.scope.names.lookup x=some .local:=by first | exact .inl rfl | exact .inr rfl | assumption):PDS X Z (.Assign [.Name x pos'] e pos) (dSet i te):=
 zbt (zqn hN hi hx he hs hf) λF σ H ⟨r,dl,S,E,rs,rel,h,ret⟩=>⟨r,dl,S,_,rs,rel,h,λv H1 r1 d S1 x rel1 p q=>ret.nx _ H1 r1 _ S1 x ((rs.ext x).set i p) rel1 q⟩
def zuV (c:TDT)(tb:TDS):TDS:=λE dl S=>∃W:Nat→Ev→Sto→Prop,(∃m,W m dl S)∧∀m dl S,W m dl S→
 c dl S λk S1=>if k=true then tb { nx:=λdl' S'=>∃m',m'<m∧W m' dl' S',rt:=E.rt,bk:=E.nx,ct:=λdl' S'=>∃m',m'<m∧W m' dl' S' } dl S1 else E.nx dl S1
theorem zuA {c:Expr}{body:List Stmt}{tc:TDT}{tb:TDS}(hp:PassesOwn (model X.prog X.w) X.A X.env X.xe)(hc:PDT X Z c tc)(hb:zbU X Z body tb):PDS X Z (.While c body [] pos) (zuV tc tb):=
 zbt (zqX hp hc hb) λF σ H ⟨r,dl,S,E,rs,rel,⟨W,⟨m0,w0⟩,turn⟩,ret⟩=>by
  refine⟨λm σ' H'=>∃r' dl' S',Ext r r' H H'∧Rs r' H' dl' σ'∧Rel X.K Z r' S' H'∧W m dl' S',⟨m0,r,dl,S,Ext.refl,rs,rel,w0⟩,?_⟩
  rintro m σ1 H1 ⟨r1,dl1,S1,x1,rs1,rel1,w1⟩
  refine⟨r1,dl1,S1,_,rs1,rel1,turn m dl1 S1 w1,λk H2 r2 S2 x2 rel2 q2=>?_⟩
  cases k with
  | true=>
   refine zbJ ⟨λσ' H'=>∃m',m'<m∧∃r' dl' S',Ext r r' H H'∧Rs r' H' dl' σ'∧Rel X.K Z r' S' H'∧W m' dl' S',λ_ _ z=>z,r2,dl1,S2,_,rs1.ext x2,rel2,(by simpa using q2),?_⟩
   have go:∀σ' H' r' dl' S',Ext r2 r' H2 H'→Rs r' H' dl' σ'→Rel X.K Z r' S' H'→(∃m',m'<m∧W m' dl' S')→∃m',m'<m∧∃r' dl' S',Ext r r' H H'∧Rs r' H' dl' σ'∧Rel X.K Z r' S' H'∧W m' dl' S':=
    λσ' H' r' dl' S' x rs' rel' ⟨m',hm,w'⟩=>⟨m',hm,r',dl',S',x1.trans (x2.trans x),rs',rel',w'⟩
   exact⟨go,λσ' H' r' dl' S' x rs' rel' q=>ret.nx σ' H' r' dl' S' (x1.trans (x2.trans x)) rs' rel' q,go,ret.rt.ext (x1.trans x2)⟩
  | false=>exact zbH (ret.nx σ1 H2 r2 dl1 S2 (x1.trans x2) (rs1.ext x2) rel2 (by simpa using q2))
def dFor (i:Nat)(tl:TDE)(tb:TDS):TDS:=λE dl S=>tl dl S λd S1=>match d with
 | .ref n=>(lAt S1 n).isSome=true∧∃W:Nat→Nat→Ev→Sto→Prop,(∃m,W 0 m dl S1)∧∀k m dl S,W k m dl S→match lAt S n with
  | some o=>match (zaj o)[k]? with
   | some x=>tb { nx:=λdl' S'=>∃m',m'<m∧W (k+1) m' dl' S',rt:=E.rt,bk:=E.nx,ct:=λdl' S'=>∃m',m'<m∧W (k+1) m' dl' S' } (dl.set i (some x)) S
   | none=>E.nx dl S
  | none=>False
 | _=>False
theorem zoP {i:Nat}{x:Str}{pos':Pos}{iter:Expr}{body:List Stmt}{tl:TDE}{tb:TDS}(hp:PassesOwn (model X.prog X.w) X.A X.env X.xe)(hc:X.calm=true)(hN:X.N.Nodup)(hi:X.N[i]?=some x)(hx:Loc X.env.scope x)
  (hl:PD X Z iter tl)(hb:zbU X Z body tb)(hf:X.fn x=true∨X.env.scope.names.lookup x=some .local:=by first | exact .inl rfl | exact .inr rfl | assumption)
  (hs:∀y,foldedSetIterable iter X.env y=pure y:=by intro _; rfl):PDS X Z (.For (.Name x pos') iter body [] pos) (dFor i tl tb):=
 zbt (zgH hp hc (ziw hl) (zdS hN hi hx hf) hb hs) λF σ H ⟨r,dl,S,E,rs,rel,h,ret⟩=>by
  refine⟨r,dl,S,_,rs,rel,h,λv H1 r1 d S1 x1 rel1 p1 q1=>?_⟩
  cases p1 with
  | @ref n a hn=>
   obtain⟨hsome,W,⟨m0,w0⟩,turn⟩:=q1
   have sql:∀ {r':List Addr} {S':Sto} {H':Hp} {o:Ob},Ext r1 r' H1 H'→Rel X.K Z r' S' H'→lAt S' n=some o→∃xs,SqL X.K H' a xs∧Rps r' H' (zaj o) xs:=λ{r' S' H' o} x' rel' eo=>by
    obtain⟨eo,eL⟩:=zbo eo
    obtain⟨a',ha,ob⟩:=rel'.at eo
    rw[x'.adr n a hn] at ha; cases ha
    exact ob.list eL
   obtain⟨o1,eo1⟩:=VaX.mp hsome
   obtain⟨xs1,sq1,_⟩:=sql Ext.refl rel1 eo1
   refine⟨a,rfl,⟨xs1,sq1⟩,λk m σ' H'=>∃r' dl' S',Ext r1 r' H1 H'∧Rs r' H' dl' σ'∧Rel X.K Z r' S' H'∧W k m dl' S',⟨m0,r1,dl,S1,Ext.refl,rs.ext x1,rel1,w0⟩,?_⟩
   rintro k m σ2 H2 ⟨r2,dl2,S2,x2,rs2,rel2,w2⟩
   have q:=turn k m dl2 S2 w2
   split at q
   ·rename_i o eo
    obtain⟨xs,sq,pr⟩:=sql x2 rel2 eo
    split at q
    ·rename_i y ey
     obtain⟨v,hv,pv⟩:=pr.get ey
     have go:∀ {r3:List Addr} {H3:Hp},Ext r2 r3 H2 H3→∀σ' H' r' dl' S',Ext r3 r' H3 H'→Rs r' H' dl' σ'→Rel X.K Z r' S' H'→(∃m',m'<m∧W (k+1) m' dl' S')→∃m',m'<m∧∃r' dl' S',Ext r1 r' H1 H'∧Rs r' H' dl' σ'∧Rel X.K Z r' S' H'∧W (k+1) m' dl' S':=
      λ{r3 H3} x3 σ' H' r' dl' S' x rs' rel' ⟨m',hm,w'⟩=>⟨m',hm,r',dl',S',x2.trans (x3.trans x),rs',rel',w'⟩
     refine .inr ⟨⟨xs,v,sq,hv⟩,λσ' H'=>∃m',m'<m∧∃r' dl' S',Ext r1 r' H1 H'∧Rs r' H' dl' σ'∧Rel X.K Z r' S' H'∧W (k+1) m' dl' S',λ_ _ z=>z,λv' H' y'=>?_⟩
     obtain⟨eH,y'⟩:=y'
     subst eH
     have ev:v'=v:=by
      have z:=y' xs sq
      rw[hv] at z; exact(Option.some.inj z).symm
     subst ev
     exact⟨r2,_,S2,_,rs2.set i pv,rel2,q,go Ext.refl,λσ' H' r' dl' S' x rs' rel' z=>ret.nx σ' H' r' dl' S' (x1.trans (x2.trans x)) rs' rel' z,go Ext.refl,ret.rt.ext (x1.trans x2)⟩
    ·rename_i ey
     have hlen:(zaj o).length≤k:=VaJ.mp ey
     exact .inl ⟨⟨xs,sq,by rw[← pr.1]; exact hlen⟩,ret.nx σ2 H2 r2 dl2 S2 (x1.trans x2) rs2 rel2 q⟩
   ·exact q.elim
  | _=>exact(show False from q1).elim
def dForR (i:Nat)(ta:TDA)(tb:TDS):TDS:=λE dl S=>ta dl S λds S1=>match ds with
 | [.int j]=>(-(2^62)≤j∧j<2^62)∧∃W:Nat→Ev→Sto→Prop,W 0 dl S1∧∀k dl S,W k dl S→
   if k<j.toNat then tb { nx:=λdl' S'=>W (k+1) dl' S',rt:=E.rt,bk:=E.nx,ct:=λdl' S'=>W (k+1) dl' S' } (dl.set i (some (.int k))) S else E.nx dl S
 | _=>False
theorem zcR {i:Nat}{x:Str}{pos2 pos' p:Pos}{a:Expr}{body:List Stmt}{ta:TDA}{tb:TDS}(hp:PassesOwn (model X.prog X.w) X.A X.env X.xe)(hc:X.calm=true)(hN:X.N.Nodup)(hi:X.N[i]?=some x)(hx:Loc X.env.scope x)
  (hg:Gl X "range")(hm:X.mg "range"=none)(ha:PDA X Z [a] ta)(hb:zbU X Z body tb)(hf:X.fn x=true∨X.env.scope.names.lookup x=some .local:=by first | exact .inl rfl | exact .inr rfl | assumption)
  (hs:∀y,foldedSetIterable (.Call (.Name "range" p) [a] [] pos) X.env y=pure y:=by intro _; rfl)(hst:starEach [a] X.env=[(false,eval a X.env)]:=by rfl):
  PDS X Z (.For (.Name x pos') (.Call (.Name "range" p) [a] [] pos) body [] pos2) (dForR i ta tb):=
 zbt (zgH hp hc (zmO hg hm ha hst) (zdS hN hi hx hf) hb hs) λF σ H ⟨r,dl,S,E,rs,rel,h,ret⟩=>by
  refine⟨r,dl,S,_,rs,rel,h,λvs H1 r1 ds S1 x1 rel1 p1 q1=>?_⟩
  split at q1
  ·rename_i j
   obtain⟨v,vs',rfl,p2,p3⟩:=p1.uncons
   have z:=p3.unnil
   subst z
   cases p2
   obtain⟨⟨b1,b2⟩,W,w0,turn⟩:=q1
   refine⟨j,rfl,b1,b2,λk m σ' H'=>m=j.toNat-k∧∃r' dl' S',Ext r1 r' H1 H'∧Rs r' H' dl' σ'∧Rel X.K Z r' S' H'∧W k dl' S',⟨j.toNat,by simp,r1,dl,S1,Ext.refl,rs.ext x1,rel1,w0⟩,?_⟩
   rintro k m σ2 H2 ⟨em,r2,dl2,S2,x2,rs2,rel2,w2⟩
   have q:=turn k dl2 S2 w2
   split at q
   ·rename_i hk
    have go:∀σ' H' r' dl' S',Ext r2 r' H2 H'→Rs r' H' dl' σ'→Rel X.K Z r' S' H'→W (k+1) dl' S'→∃r' dl' S',Ext r1 r' H1 H'∧Rs r' H' dl' σ'∧Rel X.K Z r' S' H'∧W (k+1) dl' S':=
     λσ' H' r' dl' S' x rs' rel' w'=>⟨r',dl',S',x2.trans x,rs',rel',w'⟩
    have pk:Rp r2 H2 (.int (k:Int)) (.int (0+(k:Int))):=by rw[Int.zero_add]; exact .int _
    refine .inr ⟨hk,λσ' H'=>∃r' dl' S',Ext r1 r' H1 H'∧Rs r' H' dl' σ'∧Rel X.K Z r' S' H'∧W (k+1) dl' S',λσ' H' z=>⟨j.toNat-(k+1),by omega,rfl,z⟩,λv' H' y'=>?_⟩
    obtain⟨eH,y'⟩:=y'
    subst eH
    subst y'
    exact⟨r2,_,S2,_,rs2.set i pk,rel2,q,go,λσ' H' r' dl' S' x rs' rel' z=>ret.nx σ' H' r' dl' S' (x1.trans (x2.trans x)) rs' rel' z,go,ret.rt.ext (x1.trans x2)⟩
   ·rename_i hk
    exact .inl ⟨by show j.toNat≤k; omega,ret.nx σ2 H2 r2 dl2 S2 (x1.trans x2) rs2 rel2 q⟩
  ·exact q1.elim
end
def zg4 (N:List Str)(ds:List D):Ev:=ds.map some++List.replicate (N.length-ds.length) none
theorem zsO {r:List Addr}{H:Hp}{N:List Str}{ds:List D}{vs:List V}(h:Rps r H ds vs):Rs r H (zg4 N ds) (L2.zcw N vs):=by
  refine⟨by simp[zg4,L2.zcw,h.1],λi d e=>?_⟩
  unfold zg4 at e
  by_cases hi:i<ds.length
  · rw[Vah (by simpa using hi),Vag] at e
    cases q:ds[i]? with
    | none=>
   rw[q] at e
   cases e
    | some z=>
      rw[q] at e
      cases e
      obtain⟨v,hv,pv⟩:=h.get q
      refine⟨v,?_,pv⟩
      unfold L2.zcw
      rw[Vah (by simpa [h.1] using hi),Vag,hv]
      rfl
  · rw[Vaq (by simpa using hi),List.getElem?_replicate] at e
    split at e <;> cases e
section
variable {P:Program}{w:World}{K:PySem.W.Frag}{mg:Str→Option Value}{base:Heap}
abbrev Z0:Zx:=Zc (λ_ _=>False) (λ_ _ _=>False)
theorem znY {X:Cx}:zdu X Z0.w:=λ_ _ _ _ _ _ _ h=>by
 obtain⟨_,_,_,_,_,_,_,_,_,_,_,_,q⟩:=h
 exact q.elim
theorem zaC {x qual:Str}{st:Stmt}{f:Addr}{fd:FuncData}{N ps:List Str}{k:Nat}{sd:Sd}(F:Fun K x qual st f fd)(Sc:zaA N ps (zak st))(len:∀ds S Q ex,sd ds S Q ex→ds.length=ps.length)
  (hbody:∀(cdv:Value) (A:Around) (outer:List Env) (s:Shared) (H:Hp) (E:XK),zaQ k (A.deeper (envOfC qual (zak st) s.heap.objs.size f cdv))→
   ∃t,zbU (zdF (CXE P w) P w K mg base N qual (zak st) f cdv A outer s H E).nox Z0 (zcv st) t∧∀ds S Q ex,sd ds S Q ex→t { nx:=λ_ S'=>Q .non S',rt:=Q } (zg4 N ds) S):zbb P w K mg base (CXE P w) (k+1) f fd ps (upF K sd):=by
 obtain⟨oc,od,kV,doc,pm,an,cdv,ct,osl,rfl,lk,hcd⟩:=F.ex
 refine zoY lk hcd Sc (λvs H Q E h=>?_) λA outer s H vs Q E hr h=>?_
 ·obtain⟨ex,r,S,ds,Q',rel,p,q,ret⟩:=h
  rw[← p.1]
  exact len ds S Q' ex q
 ·obtain⟨ex,r,S,ds,Q',rel,p,q,ret⟩:=h
  obtain⟨t,ht,hq⟩:=hbody cdv A outer s H E hr
  have back:∀ {H':Hp} {r':List Addr} {S':Sto},Ext r r' H H'→Rel K Z0 r' S' H'→Rel K (Zc ex E) r' S' H':=λx rel'=>⟨rel'.b,rel.xw.ext x⟩
  refine⟨upS K Z0 t,ht.nox,r,zg4 N ds,S,_,zsO p,⟨rel.b,λ_ _ _ _ _ _ _ _ _ z=>z.elim⟩,hq ds S Q' ex q,?_,?_,?_,?_⟩
  ·intro σ' H' r' dl' S' x _ rel' z
   exact ret .non H' r' .non S' x (back x rel') .non z
  ·intro σ' H' r' dl' S' x _ rel' z
   exact z
  ·intro σ' H' r' dl' S' x _ rel' z
   exact z
  ·intro v H' r' d S' x rel' p' z
   exact ret v H' r' d S' x (back x rel') p' z
end
open PySem
def Sz (n:Nat)(i:Int):Prop:=i.natAbs<2^n
theorem Sz.mono {m n:Nat}{i:Int}(h:Sz m i)(hn:m≤n):Sz n i:=Vau h (Nat.pow_le_pow_right (by decide) hn)
theorem Sz.bits {n:Nat}{i:Int}(h:Sz n i):Builtin.Int.intBits i≤n:=by
 unfold Builtin.Int.intBits
 split
 ·exact VaA _
 ·rename_i hz
  have hp:i.natAbs≠0:=by
   intro z
   have z2:i=0:=by omega
   simp[z2] at hz
  have:=(Nat.log2_lt hp).mpr h
  omega
theorem zaY {m n:Nat}{i j:Int}(hi:Sz m i)(hj:Sz n j)(hm:m≤1048576:=by decide)(hn:n≤1048576:=by decide):IntMulOk i j:=by
 have e20:(2:Nat)^20=1048576:=by decide
 exact IntMulOk.of_bits (Vaz hi.bits (by omega)) (Vaz hj.bits (by omega))
theorem Sz.of {n:Nat}{i:Int}(m:Nat)(h:i.natAbs≤m)(hm:m<2^n:=by decide):Sz n i:=Nat.lt_of_le_of_lt h hm
theorem Sz.mul {m n:Nat}{i j:Int}(hi:Sz m i)(hj:Sz n j):Sz (m+n) (i*j):=by
 unfold Sz at *
 rw[Nat.pow_add,Va7]
 exact Nat.mul_lt_mul'' hi hj
theorem Sz.add {m n:Nat}{i j:Int}(hi:Sz m i)(hj:Sz n j):Sz (max m n+1) (i+j):=by
 have h1:Sz (max m n) i:=hi.mono (Nat.le_max_left _ _)
 have h2:Sz (max m n) j:=hj.mono (Nat.le_max_right _ _)
 unfold Sz at *
 have e:(2:Nat)^(max m n+1)=2^max m n+2^max m n:=by rw[Nat.pow_succ]; omega
 rw[e]
 have:=Int.natAbs_add_le i j
 omega
theorem Sz.neg {m:Nat}{i:Int}(hi:Sz m i):Sz m (-i):=by
 unfold Sz at *
 rw[Int.natAbs_neg]; exact hi
theorem Sz.sub {m n:Nat}{i j:Int}(hi:Sz m i)(hj:Sz n j):Sz (max m n+1) (i-j):=by
 rw[Int.sub_eq_add_neg]; exact hi.add hj.neg
theorem Sz.log {n:Nat}{i:Int}(h:Sz n i)(hi:i≠0)(hn:n≤9000:=by decide):i.natAbs.log2<9000:=by
 have:=(Nat.log2_lt (by omega:i.natAbs≠0)).mpr h
 omega
theorem Sz.fd {n:Nat}{i:Int}(h:Sz n i)(hi:0<i)(hn:n≤9000:=by decide):0<i∧i.natAbs.log2<9000:=⟨hi,h.log (by omega) hn⟩
theorem zaZ {a b:Int}(hb:0<b):0≤a%b∧a%b<b:=⟨Int.emod_nonneg _ (by omega),Int.emod_lt_of_pos _ hb⟩
example (x:Int):-(10^40)≤x%(2*10^40+1)-10^40:=by omega
example (x:Int):x%(2*10^40+1)-10^40≤10^40:=by omega
example (x:Int) (h:-(10^40)≤x) (h2:x≤2*10^41):Sz 140 x:=Sz.of (2*10^41) (by omega)
theorem zqd (a b:Int):Int.gcd b (a%b)=Int.gcd a b:=by
 rw[Int.emod_def,show a-b*(a/b)=a-(a/b)*b by rw[Va0],Int.gcd_sub_mul_right_right,Int.gcd_comm]
def zcJ (i:Int):Int:=if i<0 then -i else i
theorem zpA (i:Int):0≤zcJ i:=by unfold zcJ; split <;> omega
theorem zpr (a b:Int):Int.gcd (zcJ a) (zcJ b)=Int.gcd a b:=by
 have h:∀i:Int,(zcJ i).natAbs=i.natAbs:=λi=>by unfold zcJ; split <;> omega
 unfold Int.gcd
 rw[h,h]
theorem zt0 {T B d:Int}(hB:B≠0)(hd:d=(if B<0 then -((Int.gcd T B:Nat):Int) else ((Int.gcd T B:Nat):Int))):
  d≠0∧T.fdiv d*d=T∧B.fdiv d*d=B∧1≤B.fdiv d∧Int.gcd (T.fdiv d) (B.fdiv d)=1∧T.fdiv d*B=T*B.fdiv d:=by
 have g0:0<Int.gcd T B:=Nat.pos_of_ne_zero λz=>hB (Int.gcd_eq_zero_iff.mp z).2
 have dT:((Int.gcd T B:Nat):Int) ∣ T:=Int.gcd_dvd_left T B
 have dB:((Int.gcd T B:Nat):Int) ∣ B:=Int.gcd_dvd_right T B
 have hne:d≠0:=by
  rw[hd]; split <;> omega
 have eT:d ∣ T:=by rw[hd]; split <;> first | exact Int.neg_dvd.mpr dT | exact dT
 have eB:d ∣ B:=by rw[hd]; split <;> first | exact Int.neg_dvd.mpr dB | exact dB
 have fT:T.fdiv d=T/d:=Int.fdiv_eq_ediv_of_dvd eT
 have fB:B.fdiv d=B/d:=Int.fdiv_eq_ediv_of_dvd eB
 have mT:T.fdiv d*d=T:=by rw[fT]; exact Int.ediv_mul_cancel eT
 have mB:B.fdiv d*d=B:=by rw[fB]; exact Int.ediv_mul_cancel eB
 have gg:Int.gcd (T.fdiv d) (B.fdiv d)=1:=by
  have z:=Int.gcd_ediv_gcd_ediv_gcd g0
  rw[fT,fB,hd]
  split
  ·rw[Int.ediv_neg,Int.ediv_neg,Int.neg_gcd,Int.gcd_neg]; exact z
  ·exact z
 have pos:1≤B.fdiv d:=by
  by_cases hb:B<0
  ·have dn:d<0:=by rw[hd,if_pos hb]; omega
   by_cases q:B.fdiv d≤0
   ·have:=Int.mul_nonneg_of_nonpos_of_nonpos q (Int.le_of_lt dn)
    omega
   ·omega
  ·have dp:0<d:=by rw[hd,if_neg hb]; omega
   by_cases q:B.fdiv d≤0
   ·have:=VaL (show 0≤-(B.fdiv d) by omega) (Int.le_of_lt dp)
    rw[VaO] at this
    omega
   ·omega
 refine⟨hne,mT,mB,pos,gg,?_⟩
 calc T.fdiv d*B=T.fdiv d*(B.fdiv d*d):=by rw[mB]
  _=T.fdiv d*d*B.fdiv d:=by grind
  _=T*B.fdiv d:=by rw[mT]
theorem znb {T d:Int}(hne:d≠0)(mT:T.fdiv d*d=T):(T.fdiv d).natAbs≤T.natAbs:=by
 have h:(T.fdiv d).natAbs*d.natAbs=T.natAbs:=by rw[← Va7,mT]
 have hd:1≤d.natAbs:=by omega
 calc (T.fdiv d).natAbs=(T.fdiv d).natAbs*1:=by omega
  _≤(T.fdiv d).natAbs*d.natAbs:=Nat.mul_le_mul_left _ hd
  _=T.natAbs:=h
theorem zd8 (m:Int){g:Int}(hg:0<g):m/g*g≤m∧m<(m/g+1)*g:=by
 have h1:=Int.emod_add_mul_ediv m g
 have h2:=Int.emod_nonneg m (show g≠0 by omega)
 have h3:=Int.emod_lt_of_pos m hg
 have e:(m/g+1)*g=g*(m/g)+g:=by grind
 have e2:m/g*g=g*(m/g):=Va0 _ _
 omega
theorem zlj (m:Int){g:Int}(hg:0<g):m≤-(-m/g)*g∧(-(-m/g)-1)*g<m:=by
 obtain⟨h1,h2⟩:=zd8 (-m) hg
 have e1:-(-m/g)*g=-(-m/g*g):=by rw[VaO]
 have e2:(-(-m/g)-1)*g=-((-m/g+1)*g):=by grind
 omega
section
variable {X:Cx}{Z:Zx}
def wIf (C:Int→Int→Bool)(g:Int→Int→D):W2:=λx y S Q=>match x,y with
 | .int i,.int j=>if C i j=true then Q (g i j) S else False
 | _,_=>False
theorem opIf {f:Value→Value→Sem Value}{C:Int→Int→Prop}{C':Int→Int→Bool}{g:Int→Int→D}(h:OpR X f (upO X.K Z (wI C g)))(hc:∀i j,C' i j=true→C i j):OpR X f (upO X.K Z (wIf C' g)):=
 ziI h λx y H Qv ⟨r,S,dx,dy,Q,rel,px,py,q,ret⟩=>⟨r,S,dx,dy,Q,rel,px,py,by
  unfold wIf at q
  split at q
  ·obtain⟨h1,h2⟩:=zks q
   exact⟨hc _ _ h1,h2⟩
  ·exact q.elim,ret⟩
def zia (_ j:Int):Bool:=decide (0<j)&&decide (j<1073741824)
abbrev zp7:W2:=wIf zia λi j=>.int (i/j)
abbrev wModL:W2:=wIf zia λi j=>.int (i%j)
def powB (i j:Int):Bool:=decide (0≤j)&&decide (j≤1000)&&decide (-1000<i)&&decide (i<1000)
abbrev wPowL:W2:=wIf powB λi j=>.int (i^j.toNat)
theorem zof {i j:Int}(h:zia i j=true):0<j∧j<1073741824:=by
 unfold zia at h
 simpa using h
theorem zaW:OpR X (binaryOp .FloorDiv) (upO X.K Z zp7):=opIf zbr λi j h=>by
 obtain⟨h1,h2⟩:=zof h
 refine⟨h1,?_⟩
 have:j.natAbs.log2<30:=(Nat.log2_lt (by omega)).mpr (by omega)
 omega
theorem zaK:OpR X (binaryOp .Mod) (upO X.K Z wModL):=opIf zbk λi j h=>(zof h).1
theorem zcg:OpR X (binaryOp .Pow) (upO X.K Z wPowL):=opIf zs3 λi j h=>by
 unfold powB at h
 simp at h
 refine⟨h.1.1.1,by have:=h.1.1.2; omega,?_⟩
 have h3:=h.1.2
 have h4:=h.2
 have big:(18446744073709551616:Nat)=2^64:=by decide
 omega
structure Df (K:PySem.W.Frag)(mg:Str→Option Value)(x:Str)(st:Stmt)(ps:List Str) where
 f:Addr
 fd:FuncData
 F:Fun K x x st f fd
 m:mg x=some (.ref f)
 b:zbD K fd ps []
structure Fk (P:Program)(w:World)(K:PySem.W.Frag)(mg:Str→Option Value)(base:Heap)(k:Nat)(x:Str)(ps:List Str)(sd:Sd) where
 f:Addr
 fd:FuncData
 ok:zbb P w K mg base (CXE P w) k f fd ps (upF K sd)
 m:mg x=some (.ref f)
 kp:PySem.W.keepIn K (.ref f)=true
 b:zbD K fd ps []
def Df.mk' {P:Program}{w:World}{K:PySem.W.Frag}{mg:Str→Option Value}{base:Heap}{k:Nat}{x:Str}{st:Stmt}{ps:List Str}{sd:Sd}(d:Df K mg x st ps)(h:zbb P w K mg base (CXE P w) k d.f d.fd ps (upF K sd)):Fk P w K mg base k x ps sd:=
 ⟨d.f,d.fd,h,d.m,d.F.kp,d.b⟩
theorem zo9 {x:Str}{p pos:Pos}{e:Expr}{es:List Expr}{t:TDA}{k:Nat}{ps:List Str}{sd:Sd}{ex:Ev→Addr→Sto→Prop}{W:St→XK}(G:Fk X.prog X.w X.K X.mg X.base k x ps sd)(hr:zaQ k X.A)(hx:zdu X W)(hg:Gl X x)(ha:PDA X ⟨ex,W⟩ (e::es) t)
  (hdb:(x==("__debug__":Str))=false:=by decide)(he:starEach (e::es) X.env=(false,eval e X.env)::starEach es X.env:=by rfl)(hpl:(backTo pos (starEach es X.env)).any (·.1)=false:=by rfl):
  PD X ⟨ex,W⟩ (.Call (.Name x p) (e::es) [] pos) (zms ex sd t):=zsC G.ok hr hg G.m G.kp G.b hx ha hdb he hpl
theorem zqg {st:Stmt}:PDS X Z st (λ_ _ _=>False):=zbt zrz λF σ H ⟨_,_,_,_,_,_,h,_⟩=>h
end
def zej:Sd:=λds S Q _=>∃ns:List Int,ds=[.ref 0]∧S=[.frz (ns.map D.int)]∧ns.length≤63∧∀S',Q (.bl true) S'
theorem zqc:∀ds S Q ex,zej ds S Q ex→ds.length=1:=λds S Q ex h=>by
 obtain⟨ns,rfl,_⟩:=h
 rfl
theorem zsP {K:PySem.W.Frag}{H:Hp}{a:Addr}{xs:List V}(hO:zeO H)(h:SqL K H a xs):SqF K H a xs:=by
 rcases h with (h | ⟨o,h⟩) | h
 ·rcases hO a with z | ⟨o,ys,z⟩
  ·rw[h] at z; cases z
  ·rw[h] at z; cases z
 ·exact .inl ⟨o,h⟩
 ·exact .inr h
theorem zou {r:List Addr}{H:Hp}(ns:List Int):Rps r H (ns.map D.int) (ns.map V.int):=by
 refine⟨by simp,λi d v h1 h2=>?_⟩
 rw[Vag] at h1 h2
 cases q:ns[i]? with
 | none=>rw[q] at h1; cases h1
 | some z=>
  rw[q] at h1 h2
  cases h1
  cases h2
  exact .int z
theorem zr0 {K:PySem.W.Frag}{H:Hp}{a:Addr}{ns:List Int}(hl:ns.length≤63)(hO:zeO H)(hS:SqL K H a (ns.map V.int)):upF K zej [.ref a] H (λv _=>v=.bl true) λ_ _ _=>False:=by
 refine⟨λ_ _=>False,[a],[.frz (ns.map D.int)],[.ref 0],λd _=>d=.bl true,⟨⟨rfl,λn b o h1 h2=>?_,λn m b xs ys h1 h2 h3 h4 o1 o2=>?_⟩,λ_ _ _ _ _ _ _ _ _ z=>z.elim⟩,Rps.cons (.ref rfl) Rps.nil,⟨ns,rfl,rfl,hl,λ_=>rfl⟩,λv H' r' d S' e rel p q=>?_⟩
 ·cases n with
  | zero=>
   simp at h1 h2
   subst h1; subst h2
   exact⟨_,zsP hO hS,zou ns⟩
  | succ n=>simp at h1
 ·cases n with
  | zero=>
   simp at h3
   subst h3
   cases o1
  | succ n=>simp at h1
 ·subst q
  cases p
  rfl
theorem ztX {l:PySem.W.OpenLaw}{q:Program}{loose:List Str}{XP:(Str→Option Value)→Heap→Prop}{YP:World→Heap→Prop}{d:DefRec}{K:Params→PySem.W.Frag}{x:Str}(k:Nat)(hn:l.most=some 63)(hdf:d.params.defaults=[])(hr:zaQ k callerA)
  (hY:∀(w:World) (h:Heap),YP w h→(K w.params).In h)
  (F:∀(w:World) (mg:Str→Option Value) (fa:Addr) (h:Heap),(K w.params).In h→h.Ns mainGlobals mg→mg d.name=some (.ref fa)→
   ∃fd:FuncData,(∀(s:Shared) (u:Value),BindsTo s fd ⟨[u],[]⟩ [(x,u)])∧∀base:Heap,(K w.params).In base→base.Ns mainGlobals mg→zbb l.prog w (K w.params) mg base (CXE l.prog w) k fa fd [x] (upF (K w.params) zej)):
  PySem.W.WalkO q loose XP YP l.row.toRowW d [] (λf vs=>PySem.call f vs):=
 L2.zpG (n:=63) (k:=k) (x:=x) (CX:=λw=>CXE l.prog w) (sp:=λw=>upF (K w.params) zej) hn (by decide) hdf hr hY F (λ_ _ a ns hl hO hS=>zr0 hl hO hS) λ_ _ _ _ _ ⟨_,_,_,_,_,_,_,_,_,_,_,_,z⟩=>z
end L3
namespace L3
open PySem PySem.Spec PyProof.Rows L2
theorem ifF {c:Bool}{A B:Prop}(h:c=false)(b:B):if c=true then A else B:=by rw[h]; exact zbH b
theorem ifP {c A B:Prop} [Decidable c] (h:c)(a:A):if c then A else B:=by rw[if_pos h]; exact a
theorem ifD {c:Prop} [Decidable c] {A B:Prop}(h1:c→A)(h2:¬ c→B):if decide c=true then A else B:=by
 by_cases h:c
 ·rw[decide_eq_true h]; exact zbJ (h1 h)
 ·rw[decide_eq_false h]; exact zbH (h2 h)
open PySem L2
open PySem L2
theorem Sz.pow {n:Nat}{i:Int}(h:Sz n i)(k:Nat):Sz (n*k+1) (i^k):=by
 unfold Sz at *
 rw[Int.natAbs_pow,Nat.pow_succ,Nat.pow_mul]
 have h1:i.natAbs^k≤(2^n)^k:=Nat.pow_le_pow_left (VaW h) k
 have h2:0<(2^n)^k:=Nat.pow_pos (Nat.pow_pos (by decide))
 omega
theorem ifN {c:Prop} [Decidable c] {A B:Prop}(h1:¬ c→A)(h2:c→B):if (!decide c)=true then A else B:=by
 by_cases h:c
 ·rw[decide_eq_true h]; exact L2.zbH (h2 h)
 ·rw[decide_eq_false h]; exact L2.zbJ (h1 h)
section
variable {X:Cx}{Z:Zx}
abbrev Cx.held (X:Cx)(pins:List (Addr×Obj))(E:Value→Shared→Prop):Cx:={ X with pn:=X.pn++pins,xe:=E }
end
structure zdG (k:Nat)(A:Around):Prop where
 dp:A.depth+3*k+5<recursionLimit
 un:A.units+16*k+200<cLine
theorem zdG.mono {j k:Nat}{A:Around}(r:zdG k A)(h:j≤k):zdG j A:=⟨by have:=r.dp; omega,by have:=r.un; omega⟩
theorem zdG.deeper {k:Nat}{A:Around}(r:zdG (k+1) A)(env:Env):zdG k (A.deeper env):=
 ⟨by have:=r.dp; show A.depth+1+3*k+5<_; omega,by have:=r.un; show A.units+3+16*k+200<_; omega⟩
structure FnOkN (P:Program)(w:World)(K:PySem.W.Frag)(mg:Str→Option Value)(base:Heap)(k:Nat)(f:Addr)(fd:FuncData)(ps:List Str)(sp:Sp):Prop where
 len:∀vs H Q E,sp vs H Q E→vs.length=ps.length
 run:∀(A:Around) (outer:List Env) (s:Shared) (H:Hp) (args:Args) (us:List Value) (vs:List V) (Q:VK) (E:XK),zdG k A→zcr P w K mg base A outer s H→BindsTo s fd args (ps.zip us)→zao vs us→sp vs H Q E→
  codeAny (model P w) A (.call (.ref f) args) (CR (CXE P w) outer P w H s Q E) s
section
variable {X:Cx}{k:Nat}{f:Addr}{fd:FuncData}{ps:List Str}{sp:Sp}{W:St→XK}{x:Str}{p pos:Pos}{e:Expr}{es:List Expr}{t:TA}
end
section
variable {X:Cx}{Z:Zx}{x:Str}{p pos:Pos}{e:Expr}{es:List Expr}{t:TDA}
end
section
variable {P:Program}{w:World}{K:PySem.W.Frag}{mg:Str→Option Value}{base:Heap}
end
structure FkN (P:Program)(w:World)(K:PySem.W.Frag)(mg:Str→Option Value)(base:Heap)(k:Nat)(x:Str)(ps:List Str)(sd:Sd) where
 f:Addr
 fd:FuncData
 ok:FnOkN P w K mg base k f fd ps (upF K sd)
 m:mg x=some (.ref f)
 kp:PySem.W.keepIn K (.ref f)=true
 b:zbD K fd ps []
section
variable {X:Cx}{Z:Zx}
theorem znC {r:List Addr}{H:Hp}{a:Addr}{o:HO}(h:H a=none):Ext r r H (upd H a o):=⟨λ_ _ q=>q,λ_ _ q=>zb8 h _ _ q,λ_ _ q=>zb8 h _ _ q⟩
open PySem.W in
end
abbrev VE:List Value:=[.type "ValueError",.type "Exception",.type "BaseException",.type "object"]
structure Ec (K:PySem.W.Frag)(mg:Str→Option Value)(x:Str) where
 c:Addr
 xc:Xc K mg x c VE "ValueError.__new__"
theorem Sz.div {n:Nat}{i j:Int}(h:Sz n i)(hj:1≤j):Sz n (i/j):=by
 refine Nat.lt_of_le_of_lt ?_ h
 obtain⟨h1,h2⟩:=zd8 i (show 0<j by omega)
 by_cases q:0≤i/j
 ·have:=Int.mul_le_mul_of_nonneg_left hj q
  omega
 ·have:=Int.mul_le_mul_of_nonneg_left hj (show 0≤-(i/j+1) by omega)
  have e:-(i/j+1)*j=-((i/j+1)*j):=VaO _ _
  omega
inductive Sco (n:Nat):D→Prop
 | non:Sco n .non
 | bl (b:Bool):Sco n (.bl b)
 | int (i:Int):Sco n (.int i)
 | str (x:Str):Sco n (.str x)
 | tup {ds:List D}:(∀d∈ds,Sco n d)→Sco n (.tup ds)
 | ref {m:Nat}:m<n→Sco n (.ref m)
 | exc (c:Addr):Sco n (.exc c)
theorem Rp.sco {r:List Addr}{H:Hp}{d:D}{v:V}(h:Rp r H d v):Sco r.length d:=by
 induction h with
 | non=>exact .non
 | bl b=>exact .bl b
 | int i=>exact .int i
 | str x=>exact .str x
 | @tup ds xs a _ l _ ih=>
  refine .tup λd hd=>?_
  obtain⟨i,hi,e⟩:=VaN.mp hd
  exact ih i d xs[i] (by simp[hi,e]) (by simp[l ▸ hi])
 | ref h=>exact .ref (Vab.mp h).1
 | exc _=>exact .exc _
theorem Rp.low {r r':List Addr}{H:Hp}{d:D}{v:V}(h:Rp r' H d v)(low:∀m a,m<r.length→r'[m]?=some a→r[m]?=some a)(s:Sco r.length d):Rp r H d v:=by
 induction h with
 | non=>exact .non
 | bl b=>exact .bl b
 | int i=>exact .int i
 | str x=>exact .str x
 | tup e l f ih=>
  cases s with
  | tup s=>exact .tup e l λi d v h1 h2=>ih i d v h1 h2 (s d (Val h1))
 | ref h=>
  cases s with
  | ref s=>exact .ref (low _ _ s h)
 | exc h=>exact .exc h
def Pre (S S':Sto):Prop:=∀(n:Nat) (o:Ob),S[n]?=some o→S'[n]?=some o
theorem Pre.refl {S:Sto}:Pre S S:=λ_ _ h=>h
theorem Pre.push {S S':Sto}{o:Ob}(h:Pre S S'):Pre S (S'++[o]):=λn u e=>by
 have z:=h n u e
 rw[Vah (Vab.mp z).1]; exact z
theorem Pre.trans {S S' S2:Sto}(h:Pre S S')(k:Pre S' S2):Pre S S2:=λn o e=>k n o (h n o e)
theorem zo1 {r r':List Addr}{H H':Hp}(e:Ext r r' H H'):∀m a,m<r.length→r'[m]?=some a→r[m]?=some a:=λm a hm h=>by
 have z:r[m]?=some r[m]:=by simp[hm]
 rw[e.adr _ _ z] at h
 rw[z]; exact h
theorem zaX.low {K:PySem.W.Frag}{r r':List Addr}{S S':Sto}{H H':Hp}(h:zaX K r S H)(e:Ext r r' H H')(h':zaX K r' S' H')(p:Pre S S'):zaX K r S H':=by
 have rl:∀ {ds:List D} {xs ys:List V},Rps r H ds xs→Rps r' H' ds ys→Rps r H' ds ys:=λ{ds xs ys} a b=>⟨b.1,λi d v h1 h2=>by
  obtain⟨v0,_,q⟩:=a.get h1
  exact(b.2 i d v h1 h2).low (zo1 e) q.sco⟩
 refine⟨h.len,λn a o h1 h2=>?_,λn m a xs ys h1 h2 h3 h4 o1 o2=>h'.nd n m a xs ys (e.adr _ _ h1) (e.adr _ _ h2) (p _ _ h3) (p _ _ h4) o1 o2⟩
 have q:=h.ob n a o h1 h2
 have q':=h'.ob n a o (e.adr _ _ h1) (p _ _ h2)
 cases o with
 | lst ds=>
  obtain⟨xs,_,a1⟩:=q
  obtain⟨ys,b0,b1⟩:=q'
  exact⟨ys,b0,rl a1 b1⟩
 | frz ds=>
  obtain⟨xs,_,a1⟩:=q
  obtain⟨ys,b0,b1⟩:=q'
  exact⟨ys,b0,rl a1 b1⟩
 | ins C fs=>
  obtain⟨_,_,_,a1⟩:=q
  obtain⟨dx,fs',b0,b1⟩:=q'
  exact⟨dx,fs',b0,b1.1,rl a1.2 b1.2⟩
 | dct kvs=>
  obtain⟨_,_,a1⟩:=q
  obtain⟨ks,b0,b1⟩:=q'
  exact⟨ks,b0,b1.1,rl a1.2 b1.2⟩
 | dck kvs=>
  obtain⟨_,_,a1⟩:=q
  obtain⟨ks,b0,b1⟩:=q'
  exact⟨ks,b0,b1.1,rl a1.2 b1.2⟩
 | tpl ws=>exact q'
def Gc (S:Sto)(Q:DK):DK:=λd S'=>Pre S S'∧Sco S.length d∧Q d S
def GcX (S:Sto)(ex:Addr→Sto→Prop):Addr→Sto→Prop:=λc S'=>Pre S S'∧ex c S
theorem Ret.gc {K:PySem.W.Frag}{Z Z':Zx}{r:List Addr}{S:Sto}{H:Hp}{Q:DK}{Qv:VK}(h:Ret K Z r H Q Qv)(rel:Rel K Z r S H):Ret K Z' r H (Gc S Q) Qv:=λv H' r' d S' e rel' p q=>by
 obtain⟨pre,sc,q⟩:=q
 have e':Ext r r H H':=⟨λ_ _ z=>z,e.tup,e.xc⟩
 rw[← rel.len] at sc
 exact h v H' r d S e' ⟨rel.b.low e rel'.b pre,rel.xw.ext e'⟩ (p.low (zo1 e) sc) q
theorem zdy.gc {K:PySem.W.Frag}{ex:Addr→Sto→Prop}{E:XK}{r:List Addr}{S:Sto}{H:Hp}(rel:Rel K (Zc ex E) r S H):zdy K (Zc (GcX S ex) E) r H:=λdl σ c H' r' S' e _ rb q=>by
 obtain⟨pre,q⟩:=q
 have e':Ext r r H H':=⟨λ_ _ z=>z,e.tup,e.xc⟩
 exact rel.xw [] [] c H' r S e' ⟨rfl,λi d z=>by simp at z⟩ (rel.b.low e rb pre) q
section
variable {P:Program}{w:World}{K:PySem.W.Frag}{mg:Str→Option Value}{base:Heap}
def gcS (sd:Sd):Sd:=λds S Q ex=>∃Q0 ex0,Q=Gc S Q0∧ex=GcX S ex0∧sd ds S Q0 ex0
theorem zdH {CX:CXT}{k:Nat}{f:Addr}{fd:FuncData}{ps:List Str}{sd:Sd}(h:zbb P w K mg base CX k f fd ps (upF K (gcS sd))):zbb P w K mg base CX k f fd ps (upF K sd):=by
 have imp:∀vs H Q E,upF K sd vs H Q E→upF K (gcS sd) vs H Q E:=λvs H Qv E ⟨ex,r,S,ds,Q,rel,p,q,ret⟩=>
  ⟨GcX S ex,r,S,ds,Gc S Q,⟨rel.b,zdy.gc rel⟩,p,⟨Q,ex,rfl,rfl,q⟩,ret.gc rel⟩
 obtain⟨h1,h2⟩:=h
 exact⟨λvs H Q E q=>h1 vs H Q E (imp vs H Q E q),λA outer s H args us vs Q E hr e0 hb rv q=>h2 A outer s H args us vs Q E hr e0 hb rv (imp vs H Q E q)⟩
end
theorem zdz {sd:Sd}{n:Nat}(len:∀ds S Q ex,sd ds S Q ex→ds.length=n):∀ds S Q ex,gcS sd ds S Q ex→ds.length=n:=λds S Q ex h=>by
 obtain⟨Q0,ex0,_,_,h⟩:=h
 exact len _ _ _ _ h
structure zc1 (sc around:Scope)(x:Str)(caps:List Str):Prop where
 kind:sc.kind=.function
 nocell:∀y∈sc.names,y.2≠.cell
 own:∀y∈sc.names,y.2=.local→sc.names.lookup y.1=some .local
 loc:sc.names.lookup x=some .local
 cap:∀y∈caps,sc.names.lookup y=some .free
 out:∀y∈sc.names,y.2=.free→around.names.lookup y.1=some .cell
theorem zg0 {α:Type}{y:Str}{v:α}:∀ {l:List (Str×α)},l.lookup y=some v→(y,v)∈l
 | [],h=>by simp at h
 | (n,k)::r,h=>by
  cases e:y==n with
  | true=>
   rw[Vax,e] at h
   have z:k=v:=Option.some.inj h
   have z2:y=n:=by simpa using e
   rw[z,z2]; exact VaT
  | false=>
   rw[Vax,e] at h
   exact VaG _ (zg0 h)
theorem zmD {env:Env}:∀(l:List (Str×NameKind)) (acc:List (Str×Addr)),(∀y∈l,y.2=.free→∃c,env.cells.lookup y.1=some c)→(∀x c,acc.lookup x=some c→env.cells.lookup x=some c)→
  ∃cl,(forIn l acc λx r=>(if (x.2==NameKind.free)=true then do let a ← cellOf env x.1; pure (ForInStep.yield ((x.1,a)::r)) else pure (ForInStep.yield r):Sem (ForInStep (List (Str×Addr)))))=pure cl∧
   (∀x c,cl.lookup x=some c→env.cells.lookup x=some c)∧(∀y∈l,y.2=.free→cl.lookup y.1=env.cells.lookup y.1)∧∀x c,acc.lookup x=some c→∃c',cl.lookup x=some c'
 | [],acc,_,ha=>⟨acc,by simp,ha,λy hy=>(by cases hy),λx c e=>⟨c,e⟩⟩
 | (n,k)::r,acc,h,ha=>by
  cases hk:(k==NameKind.free) with
  | false=>
   obtain⟨cl,h1,h2,h3,h4⟩:=zmD r acc (λy hy=>h y (VaG _ hy)) ha
   refine⟨cl,?_,h2,λy hy hf=>?_,h4⟩
   ·rw[List.forIn_cons]; simp[hk]; simpa using h1
   ·have hy':=Vaf.mp hy
    rcases hy' with rfl | hy
    ·rw[show k=NameKind.free from hf] at hk; exact absurd hk (by decide)
    ·exact h3 y hy hf
  | true=>
   have hf:k=NameKind.free:=by simpa using hk
   obtain⟨c,hc⟩:=h (n,k) VaT hf
   obtain⟨cl,h1,h2,h3,h4⟩:=zmD r ((n,c)::acc) (λy hy=>h y (VaG _ hy)) (λx c' e=>by
    cases q:x==n with
    | true=>
     rw[Vax,q] at e
     have z:x=n:=by simpa using q
     rw[z,hc]; exact e
    | false=>
     rw[Vax,q] at e
     exact ha x c' e)
   refine⟨cl,?_,h2,λy hy hf=>?_,λx c' e=>?_⟩
   ·have ec:cellOf env n=pure c:=by unfold cellOf; rw[hc]
    rw[List.forIn_cons]; simp[hk,ec]; simpa using h1
   ·have hy':=Vaf.mp hy
    rcases hy' with rfl | hy
    ·obtain⟨c',e⟩:=h4 n c (by simp)
     rw[e]; exact(h2 _ _ e).symm
    ·exact h3 y hy hf
   ·refine h4 x (if x==n then c else c') ?_
    cases q:x==n with
    | true=>simp[Vax,q]
    | false=>simp[Vax,q,e]
theorem znu {sc:Scope}{env:Env}(h:∀y∈sc.names,y.2=.free→∃c,env.cells.lookup y.1=some c):
  ∃cl,closureFor sc env=pure cl∧(∀x c,cl.lookup x=some c→env.cells.lookup x=some c)∧∀y∈sc.names,y.2=.free→cl.lookup y.1=env.cells.lookup y.1:=by
 obtain⟨cl,h1,h2,h3,_⟩:=zmD sc.names [] h (λx c e=>by simp at e)
 refine⟨cl,?_,h2,h3⟩
 unfold closureFor
 simp only[bind_pure]
 exact h1
theorem zmK {env:Env}:∀ {names:List (Str×NameKind)} {x:Str},names.lookup x=some .free→
  (names.map λ(n,k)=>if (k==NameKind.free&&env.scope.kind==.function&&env.kindOf n==some .cell) then (n,NameKind.cell) else (n,k)).lookup x=some .cell∨
  (names.map λ(n,k)=>if (k==NameKind.free&&env.scope.kind==.function&&env.kindOf n==some .cell) then (n,NameKind.cell) else (n,k)).lookup x=some .free
 | [],_,h=>by simp at h
 | (n,k)::r,x,h=>by
  have ih:=@zmK env r x
  rw[Var]
  cases hx:x==n with
  | true=>
   rw[Vax,hx] at h
   have hk:k=.free:=Option.some.inj h
   subst hk
   dsimp only
   split
   ·left; simp[Vax,hx]
   ·right; simp[Vax,hx]
  | false=>
   rw[Vax,hx] at h
   dsimp only
   split
   ·simp only[Vax,hx]; exact ih h
   ·simp only[Vax,hx]; exact ih h
theorem zlT {env:Env}:∀ {names:List (Str×NameKind)} {x:Str},(∀y∈names,y.2≠.cell)→
  ((names.map λ(n,k)=>if (k==NameKind.free&&env.scope.kind==.function&&env.kindOf n==some .cell) then (n,NameKind.cell) else (n,k)).lookup x=some .cell∨
  (names.map λ(n,k)=>if (k==NameKind.free&&env.scope.kind==.function&&env.kindOf n==some .cell) then (n,NameKind.cell) else (n,k)).lookup x=some .free)→names.lookup x=some .free
 | [],_,_,h=>by simp at h
 | (n,k)::r,x,hc,h=>by
  have ih:=@zlT env r x λy hy=>hc y (VaG _ hy)
  rw[Var] at h
  cases hx:x==n with
  | true=>
   rw[Vax,hx]
   dsimp only at h
   split at h
   ·rename_i q
    simp only[Bool.and_eq_true] at q
    have hk:k=.free:=by simpa using q.1.1
    rw[hk]
   ·simp only[Vax,hx] at h
    rcases h with h | h
    ·exact absurd (Option.some.inj h) (hc (n,k) VaT)
    ·exact h
  | false=>
   rw[Vax,hx]
   dsimp only at h
   split at h
   ·simp only[Vax,hx] at h; exact ih h
   ·simp only[Vax,hx] at h; exact ih h
abbrev Cx.comp (X:Cx)(sc:Scope)(N:List Str)(cl:List (Str×Addr))(C:Addr)(s0:Shared)(H0:Hp)(fp:List Addr)(pn:List (Addr×Obj)):Cx:=
 { X with N:=N,env:=compEnvC sc cl C X.env,s₀:=s0,H₀:=H0,outer:=X.stack,stack:=X.stack,ex:=fp,fn:=λ_=>false,pn:=pn,xe:=λ_ _=>False }
def zbd (caps:List Nat)(σ:St):St:=caps.map λj=>(σ[j]?).join
def zbS (caps:List Nat)(dl:Ev):Ev:=caps.map λj=>(dl[j]?).join
def zf8 (caps:List Nat)(wi:TI)(tc:TT)(te:TE):TE:=λσ H Q=>wi σ H λJ H1=>∀D,H1 D=none→∃W:Nat→Nat→Hp→Prop,(∃m,W 0 m (upd H1 D (.lst [])))∧∀i m H,W i m H→
 (J.stop i H∧Q (.ref D) H)∨(J.go i H∧∀x H',J.yld i H x H'→tc (some x::zbd caps σ) H' λb H2=>if b=true then te (some x::zbd caps σ) H2 λy H3=>∃ys,H3 D=some (.lst ys)∧ys.length<sizeLine∧∃m',m'<m∧W (i+1) m' (upd H3 D (.lst (ys++[y])))
  else ∃m',m'<m∧W (i+1) m' H2)
def PTs (Y:Cx)(ifs:List Expr)(tc:TT):Prop:=∀(pins:List (Addr×Obj)) (s:Shared) (σ:St) (H:Hp) (Q:Bool→Hp→Prop),Inv Y pins σ H s→tc σ H Q→
 wpAny (model Y.prog Y.w) Y.A (forIn ifs true λc r=>if r=true then do let ok ← isTrue c Y.env (eval c Y.env); pure (ForInStep.yield ok) else pure (ForInStep.yield r)) (TP Y pins σ Q) Y.xe s
theorem zpL {Y:Cx}:PTs Y [] (λ_ H Q=>Q true H):=λ_ _ _ H _ I h=>wpAny_tests_nil ⟨H,I,h⟩
section
variable {X:Cx}{pins:List (Addr×Obj)}{σ:St}{H:Hp}{s:Shared}
theorem zuu {sc:Scope}{x:Str}{N:List Str}{caps:List Nat}{cl:List (Str×Addr)}{fp:List Addr}{h1:Heap}{m:Str→Option Value}{tk:Nat}(I:Inv X pins σ H s)(cs:zc1 sc X.env.scope x N)
  (hN:∀(j:Nat) (y:Str),N[j]?=some y→∃i,caps[j]?=some i∧X.N[i]?=some y)(hlen:caps.length=N.length)
  (c1:∀x c,cl.lookup x=some c→X.env.cells.lookup x=some c)(c2:∀y∈sc.names,y.2=.free→cl.lookup y.1=X.env.cells.lookup y.1)
  (hf:∀b∈fp,zbE X pins H b)(hfo:∀b∈fp,b<s.heap.objs.size)(hns:h1.Ns s.heap.objs.size m)(hk:∀b o,s.heap.get? b=some o→h1.get? b=some o):
  Inv (Cx.comp X sc (x::N) cl s.heap.objs.size s H fp (X.pn++pins)) [] (none::zbd caps σ) H { s with heap:=h1,toks:=tk }:=by
 have stk:∀b∈frs X.stack,b=X.env.locals∨b∈X.fs:=λb hb=>Vaf.mp (I.stkSub b hb)
 refine⟨⟨I.ok.mod,cs.kind,I.ok.glob,I.ok.blt,Vaa _,λa b c h1 h2=>I.ok.inj a b c (c1 _ _ h1) (c1 _ _ h2),λy hy=>?_,λ_ _ z=>Bool.noConfusion z,I.ok.hd,I.ok.frames,.inl rfl,λb hb=>⟨Van (hfo b hb),λy c e=>(hf b hb).2.2.2.2.1 y c (c1 _ _ e)⟩,
  I.bs,Vaz I.ok.bsz I.sz,λb o e hb=>?_,λb hb z=>?_,I.stack,I.stkFree⟩,rfl,I.bare,Un.kept hk,⟨m,hns,λi y v e1 e2 e3=>?_⟩,λy c e=>?_,I.hok.fresh (Vaa _),λy c e=>I.freeC y c (c1 _ _ e),λp hp=>?_,I.hok.kept hk,?_⟩
 ·have hfr:sc.names.lookup y=some .free:=zlT cs.nocell hy
  have hm:=zg0 hfr
  obtain⟨c,e⟩:=I.ok.has y (.inl (cs.out _ hm rfl))
  exact⟨c,(c2 _ hm rfl).trans e⟩
 ·rcases (hf b hb).2.2.2.1 with z | z
  ·exact I.ok.noex b o e z
  ·exact absurd (Vau (Heap.lt_size (I.ok.bs b o e).1) z) (VaC _)
 ·rcases stk b z with z | z
  ·exact(hf b hb).2.1 z
  ·exact(hf b hb).2.2.1 z
 ·cases i with
  | zero=>simp at e2
  | succ i=>
   have e1':N[i]?=some y:=by simpa using e1
   obtain⟨j,hj,hy⟩:=hN i y e1'
   have e2':σ[j]?=some (some v):=by
    simp only[List.getElem?_cons_succ,zbd,Vag,hj,Option.map_some,Option.some.injEq] at e2
    cases q:σ[j]? with
    | none=>rw[q] at e2; cases e2
    | some o=>rw[q] at e2; simp at e2; rw[e2]
   have hfr:sc.names.lookup y=some .free:=cs.cap y (Val e1')
   have hm:=zg0 hfr
   have hce:X.env.scope.names.lookup y=some .cell:=cs.out _ hm rfl
   obtain⟨m0,_,hl⟩:=I.loc
   obtain⟨u,r,l⟩:=hl j y v hy e2' (.inr (.inl hce))
   refine⟨u,r,.inr ⟨zmK hfr,?_⟩⟩
   rcases l with ⟨k,_⟩ | ⟨_,c,ec,hcell⟩
   ·rw[show X.env.kindOf y=some .cell from hce] at k; cases k
   ·exact⟨c,(c2 _ hm rfl).trans ec,hcell.keeps hk⟩
 ·obtain⟨v,z⟩:=I.cell y c (c1 _ _ e)
  exact⟨v,z.keeps hk⟩
 ·have hp':p∈X.pn++pins:=by simpa using hp
  obtain⟨p1,p2,p3,p4,p5⟩:=I.pin p hp'
  refine⟨hk _ _ p1,p2,Van (Heap.lt_size p1),λz=>?_,p5⟩
  rcases stk _ z with z | z
  ·exact p3 z
  ·exact p4 z
 ·simp[zbd,hlen]
end
section
variable {X:Cx}{elt iter:Expr}{x:Str}{px pos:Pos}{ifs:List Expr}{sc:Scope}{N:List Str}{caps:List Nat}{wi:TI}{tc:TT}{te:TE}
structure zn3 (X:Cx)(pins:List (Addr×Obj))(σ:St)(C:Addr)(Q:VK)(D:Addr)(s':Shared):Prop where
 q:∃H',Inv X pins σ H' s'∧Q (.ref D) H'∧H' C=none
 ns:∃m,s'.heap.Ns C m
 loc:C≠X.env.locals
 old:X.s₀.heap.objs.size≤C
 cell:∀x c,X.env.cells.lookup x=some c→c≠C
 pin:∀p∈X.pn++pins,p.1≠C
theorem zn0 {use:Option (Value→Sem Unit)}{Qr:Value→Shared→Prop}(hc:X.calm=true)(cs:zc1 sc X.env.scope x N)(hN:∀(j:Nat) (y:Str),N[j]?=some y→∃i,caps[j]?=some i∧X.N[i]?=some y)(hlen:caps.length=N.length)(hnd:(x::N).Nodup)
  (hi:PI X (.Name x px) iter wi)(ht:∀cl C s0 H0 fp pn,PTs (Cx.comp X sc (x::N) cl C s0 H0 fp pn) ifs tc)(he:∀cl C s0 H0 fp pn,PE (Cx.comp X sc (x::N) cl C s0 H0 fp pn) elt te)
  (hs:∀y,foldedSetIterable iter X.env y=pure y)
  {pins:List (Addr×Obj)}{s:Shared}{σ:St}{H:Hp}{Q:VK}{p2:Pos}(I:Inv X pins σ H s)(h:zf8 caps wi tc te σ H Q)
  (fin:∀D C s',zn3 X pins σ C Q D s'→compPost (model X.prog X.w) X.A X.xe use Qr (.ref D) C (.ok .next) s'):
  wpAny (model X.prog X.w) X.A (comprehension (.ListComp elt [⟨.Name x px,iter,ifs,0⟩] sc pos) sc X.env p2 (newList []) false (eval iter X.env) use) Qr X.xe s:=by
 obtain⟨cl,k1,k2,k3⟩:=znu (sc:=sc) (env:=X.env) λy hy hf=>I.ok.has y.1 (.inl (cs.out y hy hf))
 refine wpAny_comprehension_free rfl hs k1 cs.kind cs.own (thn (hi pins s σ H _ I h) λv s1 h1=>thn h1 λitv s2 h2=>?_)
 obtain⟨it,fp,tn,J,H2,e,I2,T,st2,f2,body⟩:=h2
 subst e
 have hfo:∀b∈fp,b<s2.heap.objs.size:=λb hb=>by
  obtain⟨o,e,_⟩:=T.obj _ _ st2 b hb
  exact Heap.lt_size e
 have hD:H2 s2.heap.objs.size=none:=I2.hok.fresh (Vaa _)
 obtain⟨W,⟨m0,w0⟩,turn⟩:=body _ hD
 refine wpAny_newObj_type ?_
 have I3:Inv X pins σ (upd H2 s2.heap.objs.size (.lst [])) { s2 with heap:=s2.heap.push { cls:=.type "list",dict:=none,data:=.seq ([]:List Value).toArray },toks:=s2.toks }:=
  I2.laid (t':=s2.toks) (λb u e=>Heap.get?_push_of_some _ e) (Vaa _) ⟨VaA _,[],0,.nil,Heap.get?_push_size _ rfl⟩
 generalize hs3:({ s2 with heap:=s2.heap.push { cls:=.type "list",dict:=none,data:=.seq ([]:List Value).toArray },toks:=s2.toks }:Shared)=s3 at I3
 have es3:({ s2 with heap:=s2.heap.push { cls:=.type "list",dict:=none,data:=.seq ([]:List Value).toArray } }:Shared)=s3:=hs3
 try rw[es3]
 have f3:∀b∈fp,zbE X pins (upd H2 s2.heap.objs.size (.lst [])) b:=λb hb=>⟨by rw[za4 (Van (hfo b hb))]; exact(f2 b hb).1,(f2 b hb).2⟩
 have up3:∀b o,s2.heap.get? b=some o→s3.heap.get? b=some o:=λb o e=>by rw[← hs3]; exact Heap.get?_push_of_some _ e
 have st3:tn 0 s3.heap:=T.keep _ _ _ st2 λb _ o e=>up3 b o e
 have hfo3:∀b∈fp,b<s3.heap.objs.size:=λb hb=>by
  obtain⟨o,e,_⟩:=T.obj _ _ st3 b hb
  exact Heap.lt_size e
 refine wpAny_newFunctionEnv cs.nocell (λy hy=>by simp at hy) (λh4 ns4 sb4=>?_) cs.kind
 have hk4:∀b o,s3.heap.get? b=some o→h4.get? b=some o:=λb o e=>(sb4.2 b (Van (Heap.lt_size e))).trans (Heap.get?_push_of_some _ e)
 have I4:=zuu (tk:=s3.toks+([]:List (Str×Value)).length) I3 cs hN hlen k2 k3 f3 hfo3 ns4 hk4
 generalize hs4:({ s3 with heap:=h4,toks:=s3.toks+([]:List (Str×Value)).length }:Shared)=s4 at I4 ⊢
 have eh4:s4.heap=h4:=by rw[← hs4]
 have st4:tn 0 s4.heap:=by rw[eh4]; exact T.keep _ _ _ st3 λb _ o e=>hk4 b o e
 have fY:∀ {H':Hp},(∀b∈fp,H' b=none)→∀b∈fp,zbE (Cx.comp X sc (x::N) cl s3.heap.objs.size s3 (upd H2 s2.heap.objs.size (.lst [])) fp (X.pn++pins)) [] H' b:=λhn b hb=>by
  obtain⟨_,z2,z3,z4,z5,z6⟩:=f3 b hb
  refine⟨hn b hb,Van (hfo3 b hb),λz=>?_,.inl hb,λy c e=>z5 y c (k2 _ _ e),λp hp=>z6 p (by simpa using hp)⟩
  rcases Vaf.mp (I3.stkSub b z) with z | z
  ·exact z2 z
  ·exact z3 z
 have locY:(Cx.comp X sc (x::N) cl s3.heap.objs.size s3 (upd H2 s2.heap.objs.size (.lst [])) fp (X.pn++pins)).env.scope.names.lookup x=some .local:=lookup_relabel_local cs.loc
 have loop:codeAny (model X.prog X.w) X.A (.compLoop (.ListComp elt [⟨.Name x px,iter,ifs,0⟩] sc pos) 0 (.ref it) (.ref s2.heap.objs.size) (compEnvC sc cl s3.heap.objs.size X.env))
   (compPost (model X.prog X.w) X.A X.xe use Qr (.ref s2.heap.objs.size) s3.heap.objs.size) s4:=by
  refine codeAny_compLoop_tests (λn s'=>∃i o H',Inv (Cx.comp X sc (x::N) cl s3.heap.objs.size s3 (upd H2 s2.heap.objs.size (.lst [])) fp (X.pn++pins)) [] (o::zbd caps σ) H' s'∧tn i s'.heap∧(∀b∈fp,H' b=none)∧W i n H') ?_ m0
   ⟨0,none,_,I4,st4,λb hb=>(f3 b hb).1,w0⟩
  rintro n s5 ⟨i,o,H5,I5,st5,fr5,w5⟩
  rcases turn i n H5 w5 with ⟨stop,q⟩ | ⟨go,step⟩
  ·refine thn (T.done (Cx.comp X sc (x::N) cl s3.heap.objs.size s3 (upd H2 s2.heap.objs.size (.lst [])) fp (X.pn++pins)) rfl rfl rfl hc i [] s5 _ H5 _ I5 (fY fr5) st5 stop) λr s6 ⟨hr,I6⟩=>?_
   subst hr
   refine fin _ _ _ ⟨⟨H5,I3.call' I6.os I6.base I6.hok I6.bare (λb hb=>?_),q,I6.free⟩,?_,Nat.ne_of_gt I3.lt,I3.sz,λy c e z=>?_,λp hp z=>?_⟩
   ·obtain⟨_,z2,z3,z4,z5,z6⟩:=f3 b hb
    exact⟨z4,z2,z5,z6⟩
   ·obtain⟨m,hm,_⟩:=I6.loc
    exact⟨m,hm⟩
   ·obtain⟨v,hv⟩:=I3.cell y c e
    exact absurd (z ▸ hv.lt) (VaC _)
   ·exact absurd (z ▸ Heap.lt_size (I3.pin p hp).1) (VaC _)
  ·refine thn (T.item (Cx.comp X sc (x::N) cl s3.heap.objs.size s3 (upd H2 s2.heap.objs.size (.lst [])) fp (X.pn++pins)) rfl rfl rfl hc i [] s5 _ H5 _ I5 (fY fr5) st5 go) λr s6 ⟨u,hr,h6⟩=>?_
   subst hr
   show wpAny _ _ (letOwnedTupleGo (.Name x px) (.ref it) u >>= λ_=>assign (.Name x px) (compEnvC sc cl s3.heap.objs.size X.env) u) _ _ s6
   refine wpAny_bind (thn h6 λ_ s7 ⟨y,H7,I7,r7,y7,st7,fr7⟩=>?_)
   have I7':=I7.pinned (fY fr7) (T.obj _ _ st7)
   refine wpAny_mono (zdS (X:=Cx.comp X sc (x::N) cl s3.heap.objs.size s3 (upd H2 s2.heap.objs.size (.lst [])) fp (X.pn++pins)) (pos:=px) hnd (i:=0) rfl (.inl locY) (.inr locY) _ s7 _ H7 y u (λσ8 H8=>σ8=some y::zbd caps σ∧H8=H7) I7' r7 ⟨rfl,rfl⟩) (λ_ s8 ⟨σ8,H8,I8,e8,e8'⟩=>?_) λ_ _ z=>z.elim
   subst e8
   subst e8'
   have stay:∀ {H':Hp} {s':Shared},Inv (Cx.comp X sc (x::N) cl s3.heap.objs.size s3 (upd H2 s2.heap.objs.size (.lst [])) fp (X.pn++pins)) ([]++zd0 fp s7.heap) (some y::zbd caps σ) H' s'→∀m',m'<n→W (i+1) m' H'→
     ∃m,m<n∧∃i o H',Inv (Cx.comp X sc (x::N) cl s3.heap.objs.size s3 (upd H2 s2.heap.objs.size (.lst [])) fp (X.pn++pins)) [] (o::zbd caps σ) H' s'∧tn i s'.heap∧(∀b∈fp,H' b=none)∧W i m H':=λ{H' s'} J m' hm w'=>by
    refine⟨m',hm,i+1,some y,H',J.unpinned,T.keep _ _ _ st7 λb hb o e=>(J.pin (b,o) (VaB _ (VaB _ (zes hb e)))).1,λb hb=>?_,w'⟩
    obtain⟨o,e,d⟩:=T.obj _ _ st7 b hb
    exact(J.pin (b,o) (VaB _ (VaB _ (zes hb e)))).2.1
   refine wpAny_mono (ht _ _ _ _ _ _ _ s8 _ H8 _ I8 (step y H8 y7)) (λb s9 ⟨H9,I9,q9⟩=>?_) λ_ _ z=>z.elim
   cases b with
   | false=>
    rw[if_neg Vao] at q9 ⊢
    obtain⟨m',hm,w9⟩:=q9
    exact stay I9 m' hm w9
   | true=>
    rw[if_pos rfl] at q9 ⊢
    refine wpAny_mono (he _ _ _ _ _ _ _ s9 _ H9 _ I9 q9) (λu2 s10 ⟨z,H10,I10,r10,q10⟩=>?_) λ_ _ z=>z.elim
    obtain⟨ys,hD10,hlt,m',hm,w10⟩:=q10
    refine wpAny_mono (zma (X:=(Cx.comp X sc (x::N) cl s3.heap.objs.size s3 (upd H2 s2.heap.objs.size (.lst [])) fp (X.pn++pins))) _ s10 _ H10 (.ref s2.heap.objs.size) [z] (.ref s2.heap.objs.size) [u2] (λ_ H'=>H'=upd H10 s2.heap.objs.size (.lst (ys++[z]))) I10 rfl (.cons r10 .nil) ⟨_,ys,z,rfl,rfl,hD10,hlt,rfl⟩) (λ_ s11 ⟨_,H11,I11,_,e11⟩=>?_) λ_ _ z=>z.elim
    subst e11
    exact stay I11 m' hm w10
 exact codeAny_compStart_list loop (T.self _ 0 s4 _ _ st4 loop)
theorem zed {X:Cx}{caps:List Nat}{N:List Str}(h:caps.map (λi=>X.N[i]?)=N.map some):(∀(j:Nat) (y:Str),N[j]?=some y→∃i,caps[j]?=some i∧X.N[i]?=some y)∧caps.length=N.length:=by
 refine⟨λj y e=>?_,by simpa using congrArg List.length h⟩
 have z:(caps.map (λi=>X.N[i]?))[j]?=some (some y):=by rw[h,Vag,e]; rfl
 rw[Vag] at z
 cases q:caps[j]? with
 | none=>rw[q] at z; cases z
 | some i=>rw[q] at z; exact⟨i,rfl,by simpa using z⟩
theorem zoU (hc:X.calm=true)(cs:zc1 sc X.env.scope x N)(hN:caps.map (λi=>X.N[i]?)=N.map some)(hnd:(x::N).Nodup)
  (hi:PI X (.Name x px) iter wi)(ht:∀cl C s0 H0 fp pn,PTs (Cx.comp X sc (x::N) cl C s0 H0 fp pn) ifs tc)(he:∀cl C s0 H0 fp pn,PE (Cx.comp X sc (x::N) cl C s0 H0 fp pn) elt te)
  (hs:∀y,foldedSetIterable iter X.env y=pure y:=by intro _; rfl):PE X (.ListComp elt [⟨.Name x px,iter,ifs,0⟩] sc pos) (zf8 caps wi tc te):=by
 intro pins s σ H Q I h
 rw[eval_ListComp]
 refine zn0 (use:=none) hc cs (zed hN).1 (zed hN).2 hnd hi ht he hs I h λD C s' f=>?_
 obtain⟨⟨H',I',q,hC⟩,⟨m,ns⟩,l,o,c,p⟩:=f
 exact⟨m,ns,λh' sb=>⟨.ref D,H',I'.turned (t':=s'.toks) (λb ob hb e=>(sb.2 b hb).trans e) hC l (.inr o) c p,rfl,q⟩⟩
theorem zop {i:Nat}{y:Str}{py spos:Pos}(hc:X.calm=true)(cs:zc1 sc X.env.scope x N)(hN:caps.map (λi=>X.N[i]?)=N.map some)(hnd:(x::N).Nodup)
  (hi:PI X (.Name x px) iter wi)(ht:∀cl C s0 H0 fp pn,PTs (Cx.comp X sc (x::N) cl C s0 H0 fp pn) ifs tc)(he:∀cl C s0 H0 fp pn,PE (Cx.comp X sc (x::N) cl C s0 H0 fp pn) elt te)
  (hNd:X.N.Nodup)(hy:X.N[i]?=some y)(hl:X.env.scope.names.lookup y=some .local)
  (hsw:swapsWith (.ListComp elt [⟨.Name x px,iter,ifs,0⟩] sc pos) (some (.Name y py)) spos.line X.env=pure true)
  (hs:∀y,foldedSetIterable iter X.env y=pure y:=by intro _; rfl):PS X (.Assign [.Name y py] (.ListComp elt [⟨.Name x px,iter,ifs,0⟩] sc pos) spos) (λE σ H=>zf8 caps wi tc te σ H λv H1=>E.nx (σ.set i (some v)) H1):=by
 intro pins s σ H E I h
 rw[exec_Assign_Name_used (hs:=hsw)]
 refine wpAny_bind (wpAny_standAt ?_); refine wpAny_bind ?_; show wpAny _ _ (comprehension _ sc X.env _ (newList []) false (eval iter X.env) (some (assign (.Name y py) X.env)) >>= λ_=>pure ()) _ _ s
 refine wpAny_bind (thn (zn0 (use:=some (assign (.Name y py) X.env)) (Qr:=λ_ s'=>SP X pins E .next s') hc cs (zed hN).1 (zed hN).2 hnd hi ht he hs I h λD C s' f=>?_) λ_ s' hq=>wpAny_pure (wpAny_pure hq))
 obtain⟨⟨H',I',q,hC⟩,⟨m,ns⟩,l,o,c,p⟩:=f
 refine wpAny_assign_Name (zoA (v:=.ref D) I' hNd hy (.inl hl) rfl (λs'' I'' ⟨a,sb,ha⟩=>⟨m,ns.sameBut sb ?_,λh' sb'=>⟨_,H',I''.turned (t':=s''.toks) (λb ob hb e=>(sb'.2 b hb).trans e) hC l (.inr o) c p,q⟩⟩) (.inr hl))
 rcases ha with rfl | ha
 ·exact l
 ·exact Ne.symm (c _ _ ha)
end
section
variable {X:Cx}{Z:Zx}{elt iter:Expr}{x:Str}{px pos:Pos}{ifs:List Expr}{sc ar:Scope}{N:List Str}{caps:List Nat}
theorem zn7 {r:List Addr}{H:Hp}{dl:Ev}{σ:St}{d:D}{v:V}(h:Rs r H dl σ)(p:Rp r H d v):Rs r H (some d::zbS caps dl) (some v::zbd caps σ):=by
 refine⟨by simp[zbS,zbd],λi e hi=>?_⟩
 cases i with
 | zero=>simp at hi; subst hi; exact⟨v,rfl,p⟩
 | succ i=>
  simp only[List.getElem?_cons_succ,zbS,Vag] at hi
  cases q:caps[i]? with
  | none=>rw[q] at hi; cases hi
  | some j=>
   rw[q] at hi
   simp only[Option.map_some,Option.some.injEq] at hi
   have hj:dl[j]?=some (some e):=by
    cases q2:dl[j]? with
    | none=>rw[q2] at hi; cases hi
    | some o=>rw[q2] at hi; simp at hi; rw[hi]
   obtain⟨w,h1,h2⟩:=h.2 j e hj
   refine⟨w,?_,h2⟩
   simp only[List.getElem?_cons_succ,zbd,Vag,q,Option.map_some,h1,Option.join_some]
def zgg (Y:Cx)(ifs:List Expr)(t:TDT):Prop:=PTs Y ifs (upT Y.K Z0 t)
def zcj:TDT:=λ_ S Q=>Q true S
theorem zcu {Y:Cx}:zgg Y [] zcj:=λpins s σ H Qb I ⟨r,dl,S,Q,rs,rel,q,ret⟩=>zpL pins s σ H Qb I (ret true H r S Ext.refl rel q)
def zdm (caps:List Nat)(tc:TDT)(te:TDE)(k:Nat)(dl:Ev)(d:D)(S:Sto)(nx:Sto→Prop):Prop:=
 tc (some d::zbS caps dl) S λb S1=>if b=true then te (some d::zbS caps dl) S1 λy S2=>match S2[k]? with
  | some (.lst ys)=>ys.length<1000∧nx (S2.set k (.lst (ys++[y])))
  | _=>False
 else nx S1
@[irreducible] def zdl (caps:List Nat)(tl:TDE)(tc:TDT)(te:TDE):TDE:=λdl S Q=>tl dl S λd S1=>match d with
 | .ref n=>(lAt S1 n).isSome=true∧∃W:Nat→Nat→Sto→Prop,(∃m,W 0 m (S1++[.lst []]))∧∀k m S2,W k m S2→match lAt S2 n with
  | some o=>match (zaj o)[k]? with
   | some y=>zdm caps tc te S1.length dl y S2 λS3=>∃m',m'<m∧W (k+1) m' S3
   | none=>Q (.ref S1.length) S2
  | none=>False
 | _=>False
@[irreducible] def zcy (caps:List Nat)(ta:TDA)(tc:TDT)(te:TDE):TDE:=λdl S Q=>ta dl S λds S1=>match ds with
 | [.int j]=>(-(2^62)≤j∧j<2^62)∧∃W:Nat→Sto→Prop,W 0 (S1++[.lst []])∧∀k S2,W k S2→
   if k<j.toNat then zdm caps tc te S1.length dl (.int k) S2 λS3=>W (k+1) S3 else Q (.ref S1.length) S2
 | _=>False
theorem zoq {tc:TDT}{te:TDE}{r2:List Addr}{H2:Hp}{S1 S2:Sto}{dl:Ev}{σ:St}{D0:Addr}{d:D}{v:V}{nx:Sto→Prop}{Nx:Hp→Prop}(rs:Rs r2 H2 dl σ)(ha:r2[S1.length]?=some D0)(rb:zaX X.K r2 S2 H2)(p:Rp r2 H2 d v)
  (h:zdm caps tc te S1.length dl d S2 nx)(hn:∀r' S' H',Ext r2 r' H2 H'→zaX X.K r' S' H'→nx S'→Nx H'):
  upT X.K Z0 tc (some v::zbd caps σ) H2 λb H3=>if b=true then up X.K Z0 te (some v::zbd caps σ) H3 λy H4=>∃ys,H4 D0=some (.lst ys)∧ys.length<sizeLine∧Nx (upd H4 D0 (.lst (ys++[y]))) else Nx H3:=by
 have rsY:Rs r2 H2 (some d::zbS caps dl) (some v::zbd caps σ):=zn7 rs p
 refine⟨r2,_,S2,_,rsY,⟨rb,λ_ _ _ _ _ _ _ _ _ z=>z.elim⟩,h,λb H3 r3 S3 x3 rel3 q3=>?_⟩
 cases b with
 | false=>rw[if_neg Vao] at q3 ⊢; exact hn r3 S3 H3 x3 rel3.b q3
 | true=>
  rw[if_pos rfl] at q3 ⊢
  refine⟨r3,_,S3,_,rsY.ext x3,rel3,q3,λz H4 r4 dz S4 x4 rel4 p4 q4=>?_⟩
  split at q4
  ·rename_i ys eys
   obtain⟨hl,q4⟩:=q4
   have ha4:r4[S1.length]?=some D0:=x4.adr _ _ (x3.adr _ _ ha)
   obtain⟨zs,hD4,pz⟩:=rel4.b.ob _ _ _ ha4 eys
   obtain⟨rel5,x5⟩:=rel4.b.set ha4 eys (pz.snoc p4)
   exact⟨zs,hD4,by rw[← pz.1]; exact zjf (VaW hl),hn r4 _ _ (x3.trans (x4.trans x5)) rel5 q4⟩
  ·exact q4.elim
theorem zkO {r:List Addr}{D0:Addr}{n:Nat}(h:r.length=n):(r++[D0])[n]?=some D0:=by subst h; simp
theorem znW {tl:TDE}{tc:TDT}{te:TDE}{σ:St}{H:Hp}{Qv:VK}(h:up X.K Z (zdl caps tl tc te) σ H Qv):zf8 caps (znU X.K (up X.K Z tl)) (upT X.K Z0 tc) (up X.K Z0 te) σ H Qv:=by
 obtain⟨r,dl,S,Q,rs,rel,h,ret⟩:=h
 unfold zdl at h
 refine⟨r,dl,S,_,rs,rel,h,λv H1 r1 d S1 x1 rel1 p1 q1=>?_⟩
 cases p1 with
 | @ref n a hn=>
  obtain⟨hsome,W,⟨m0,w0⟩,turn⟩:=q1
  have sql:∀ {r':List Addr} {S':Sto} {H':Hp} {o:Ob},Ext r1 r' H1 H'→zaX X.K r' S' H'→lAt S' n=some o→∃xs,SqL X.K H' a xs∧Rps r' H' (zaj o) xs:=λ{r' S' H' o} x' rel' eo=>by
   obtain⟨eo,eL⟩:=zbo eo
   obtain⟨a',ha,ob⟩:=rel'.at eo
   rw[x'.adr n a hn] at ha; cases ha
   exact ob.list eL
  obtain⟨o1,eo1⟩:=VaX.mp hsome
  obtain⟨xs1,sq1,_⟩:=sql Ext.refl rel1.b eo1
  refine⟨a,rfl,⟨xs1,sq1⟩,λD0 hD=>?_⟩
  obtain⟨rel2,x2⟩:=rel1.b.push (ds:=[]) (xs:=[]) hD Rps.nil
  refine⟨λk m H'=>∃r' S',Ext (r1++[D0]) r' (upd H1 D0 (.lst [])) H'∧zaX X.K r' S' H'∧W k m S',⟨m0,_,_,Ext.refl,rel2,w0⟩,?_⟩
  rintro k m H2 ⟨r2,S2,x3,rb2,w2⟩
  have ha2:r2[S1.length]?=some D0:=x3.adr _ _ (zkO rel1.len)
  have q:=turn k m S2 w2
  split at q
  ·rename_i o eo
   obtain⟨xs,sq,pr⟩:=sql (x2.trans x3) rb2 eo
   split at q
   ·rename_i y ey
    obtain⟨v,hv,pv⟩:=pr.get ey
    refine .inr ⟨⟨xs,v,sq,hv⟩,λv' H' y'=>?_⟩
    obtain⟨eH,y'⟩:=y'
    subst eH
    have ev:v'=v:=by
     have z:=y' xs sq
     rw[hv] at z; exact(Option.some.inj z).symm
    subst ev
    have z:=zoq (Nx:=λH'=>∃m',m'<m∧∃r' S',Ext (r1++[D0]) r' (upd H1 D0 (.lst [])) H'∧zaX X.K r' S' H'∧W (k+1) m' S') (rs.ext (x1.trans (x2.trans x3))) ha2 rb2 pv q λr' S' H' x' rb' ⟨m',hm,w'⟩=>⟨m',hm,r',S',x3.trans x',rb',w'⟩
    exact z
   ·rename_i ey
    have hlen:(zaj o).length≤k:=VaJ.mp ey
    exact .inl ⟨⟨xs,sq,by rw[← pr.1]; exact hlen⟩,ret _ H2 r2 _ S2 (x1.trans (x2.trans x3)) ⟨rb2,rel.xw.ext (x1.trans (x2.trans x3))⟩ (.ref ha2) q⟩
  ·exact q.elim
 | _=>exact(show False from q1).elim
theorem zni {ta:TDA}{tc:TDT}{te:TDE}{σ:St}{H:Hp}{Qv:VK}(h:up X.K Z (zcy caps ta tc te) σ H Qv):zf8 caps (zo2 (upA X.K Z ta)) (upT X.K Z0 tc) (up X.K Z0 te) σ H Qv:=by
 obtain⟨r,dl,S,Q,rs,rel,h,ret⟩:=h
 unfold zcy at h
 refine⟨r,dl,S,_,rs,rel,h,λvs H1 r1 ds S1 x1 rel1 p1 q1=>?_⟩
 split at q1
 ·rename_i j
  obtain⟨v,vs',rfl,p2,p3⟩:=p1.uncons
  have z:=p3.unnil
  subst z
  cases p2
  obtain⟨⟨b1,b2⟩,W,w0,turn⟩:=q1
  refine⟨j,rfl,b1,b2,λD0 hD=>?_⟩
  obtain⟨rel2,x2⟩:=rel1.b.push (ds:=[]) (xs:=[]) hD Rps.nil
  refine⟨λk m H'=>m=j.toNat-k∧∃r' S',Ext (r1++[D0]) r' (upd H1 D0 (.lst [])) H'∧zaX X.K r' S' H'∧W k S',⟨j.toNat,by simp,_,_,Ext.refl,rel2,w0⟩,?_⟩
  rintro k m H2 ⟨em,r2,S2,x3,rb2,w2⟩
  have ha2:r2[S1.length]?=some D0:=x3.adr _ _ (zkO rel1.len)
  have q:=turn k S2 w2
  split at q
  ·rename_i hk
   refine .inr ⟨hk,λv' H' y'=>?_⟩
   obtain⟨eH,y'⟩:=y'
   subst eH
   subst y'
   have pk:Rp r2 H' (.int (k:Int)) (.int (0+(k:Int))):=by rw[Int.zero_add]; exact .int _
   have z:=zoq (Nx:=λH'=>∃m',m'<m∧m'=j.toNat-(k+1)∧∃r' S',Ext (r1++[D0]) r' (upd H1 D0 (.lst [])) H'∧zaX X.K r' S' H'∧W (k+1) S') (rs.ext (x1.trans (x2.trans x3))) ha2 rb2 pk q
    λr' S' H' x' rb' w'=>⟨j.toNat-(k+1),by omega,rfl,r',S',x3.trans x',rb',w'⟩
   exact z
  ·rename_i hk
   exact .inl ⟨by show j.toNat≤k; omega,ret _ H2 r2 _ S2 (x1.trans (x2.trans x3)) ⟨rb2,rel.xw.ext (x1.trans (x2.trans x3))⟩ (.ref ha2) q⟩
 ·exact q1.elim
theorem ziy {tl:TDE}{tc:TDT}{te:TDE}(har:X.env.scope=ar)(hc:X.calm=true)(cs:zc1 sc ar x N)(hN:caps.map (λi=>X.N[i]?)=N.map some)(hnd:(x::N).Nodup)(hl:PD X Z iter tl)
  (ht:∀cl C s0 H0 fp pn,zgg (Cx.comp X sc (x::N) cl C s0 H0 fp pn) ifs tc)(he:∀cl C s0 H0 fp pn,PD (Cx.comp X sc (x::N) cl C s0 H0 fp pn) Z0 elt te)
  (hs:∀y,foldedSetIterable iter X.env y=pure y:=by intro _; rfl):PD X Z (.ListComp elt [⟨.Name x px,iter,ifs,0⟩] sc pos) (zdl caps tl tc te):=by
 subst har
 exact zbc (zoU hc cs hN hnd (tc:=upT X.K Z0 tc) (te:=up X.K Z0 te) (ziw hl) ht he hs) λ_ _ _ h=>znW h
theorem zmz {ta:TDA}{tc:TDT}{te:TDE}{a:Expr}{p pos2:Pos}(har:X.env.scope=ar)(hc:X.calm=true)(cs:zc1 sc ar x N)(hN:caps.map (λi=>X.N[i]?)=N.map some)(hnd:(x::N).Nodup)(hg:Gl X "range")(hm:X.mg "range"=none)(ha:PDA X Z [a] ta)
  (ht:∀cl C s0 H0 fp pn,zgg (Cx.comp X sc (x::N) cl C s0 H0 fp pn) ifs tc)(he:∀cl C s0 H0 fp pn,PD (Cx.comp X sc (x::N) cl C s0 H0 fp pn) Z0 elt te)
  (hs:∀y,foldedSetIterable (.Call (.Name "range" p) [a] [] pos2) X.env y=pure y:=by intro _; rfl)(hst:starEach [a] X.env=[(false,eval a X.env)]:=by rfl):
  PD X Z (.ListComp elt [⟨.Name x px,.Call (.Name "range" p) [a] [] pos2,ifs,0⟩] sc pos) (zcy caps ta tc te):=by
 subst har
 exact zbc (zoU hc cs hN hnd (tc:=upT X.K Z0 tc) (te:=up X.K Z0 te) (zmO hg hm ha hst) ht he hs) λ_ _ _ h=>zni h
theorem zob {t:TE}{td:TDE}{i:Nat}{F:zc4}{σ:St}{H:Hp}(imp:∀Qv,up X.K Z td σ H Qv→t σ H Qv)(h:upS X.K Z (λE dl S=>td dl S λd S1=>E.nx (dl.set i (some d)) S1) F σ H):t σ H λv H1=>F.nx (σ.set i (some v)) H1:=by
 obtain⟨r,dl,S,E,rs,rel,h,ret⟩:=h
 exact imp _ ⟨r,dl,S,_,rs,rel,h,λv H1 r1 d S1 x rel1 p q=>ret.nx _ H1 r1 _ S1 x ((rs.ext x).set i p) rel1 q⟩
theorem zoV {tl:TDE}{tc:TDT}{te:TDE}{i:Nat}{y:Str}{py spos:Pos}(har:X.env.scope=ar)(hc:X.calm=true)(cs:zc1 sc ar x N)(hN:caps.map (λi=>X.N[i]?)=N.map some)(hnd:(x::N).Nodup)(hNd:X.N.Nodup)(hy:X.N[i]?=some y)(hlo:ar.names.lookup y=some .local)
  (hl:PD X Z iter tl)(ht:∀cl C s0 H0 fp pn,zgg (Cx.comp X sc (x::N) cl C s0 H0 fp pn) ifs tc)(he:∀cl C s0 H0 fp pn,PD (Cx.comp X sc (x::N) cl C s0 H0 fp pn) Z0 elt te)
  (hsw:swapsWith (.ListComp elt [⟨.Name x px,iter,ifs,0⟩] sc pos) (some (.Name y py)) spos.line X.env=pure true:=by rfl)
  (hs:∀y,foldedSetIterable iter X.env y=pure y:=by intro _; rfl):PDS X Z (.Assign [.Name y py] (.ListComp elt [⟨.Name x px,iter,ifs,0⟩] sc pos) spos) (dSet i (zdl caps tl tc te)):=by
 subst har
 exact zbt (zop hc cs hN hnd (tc:=upT X.K Z0 tc) (te:=up X.K Z0 te) (ziw hl) ht he hNd hy hlo hsw hs) λF σ H h=>zob (λ_ h=>znW h) h
theorem znt {ta:TDA}{tc:TDT}{te:TDE}{a:Expr}{p pos2:Pos}{i:Nat}{y:Str}{py spos:Pos}(har:X.env.scope=ar)(hc:X.calm=true)(cs:zc1 sc ar x N)(hN:caps.map (λi=>X.N[i]?)=N.map some)(hnd:(x::N).Nodup)(hNd:X.N.Nodup)(hy:X.N[i]?=some y)
  (hlo:ar.names.lookup y=some .local)(hg:Gl X "range")(hm:X.mg "range"=none)(ha:PDA X Z [a] ta)
  (ht:∀cl C s0 H0 fp pn,zgg (Cx.comp X sc (x::N) cl C s0 H0 fp pn) ifs tc)(he:∀cl C s0 H0 fp pn,PD (Cx.comp X sc (x::N) cl C s0 H0 fp pn) Z0 elt te)
  (hsw:swapsWith (.ListComp elt [⟨.Name x px,.Call (.Name "range" p) [a] [] pos2,ifs,0⟩] sc pos) (some (.Name y py)) spos.line X.env=pure true:=by rfl)
  (hs:∀y,foldedSetIterable (.Call (.Name "range" p) [a] [] pos2) X.env y=pure y:=by intro _; rfl)(hst:starEach [a] X.env=[(false,eval a X.env)]:=by rfl):
  PDS X Z (.Assign [.Name y py] (.ListComp elt [⟨.Name x px,.Call (.Name "range" p) [a] [] pos2,ifs,0⟩] sc pos) spos) (dSet i (zcy caps ta tc te)):=by
 subst har
 exact zbt (zop hc cs hN hnd (tc:=upT X.K Z0 tc) (te:=up X.K Z0 te) (zmO hg hm ha hst) ht he hNd hy hlo hsw hs) λF σ H h=>zob (λ_ h=>zni h) h
@[irreducible] def zew (to te:TDE):TDE:=λdl S Q=>to dl S λx S1=>match x with
 | .ref n=>match S1[n]? with
  | some (.lst _)=>te dl S1 λy S2=>match S2[n]? with
   | some (.lst xs)=>if xs.length<1000 then Q .non (S2.set n (.lst (xs++[y]))) else False
   | _=>False
  | _=>False
 | _=>False
theorem zbx {o e:Expr}{to te:TDE}{apos cpos:Pos}(ho:PD X Z o to)(he:PD X Z e te)(hbase:attributeBase o "append" X.env (eval o X.env)=eval o X.env:=by rfl)
  (hfew:((backTo cpos (starEach [e] X.env)).all (λx=>!x.1)&&(backToKw cpos (keywordEach [] X.env)).all (λx=>x.1.isSome)
  &&decide (([e]:List Expr).length+([]:List Keyword).length+(if ([]:List Keyword).isEmpty then 0 else 1)<30))=true:=by rfl)
  (hline:(apos.endLine==cpos.line)=true:=by rfl)(hst:starEach [e] X.env=[(false,eval e X.env)]:=by rfl):
  PD X Z (.Call (.Attribute o "append" apos) [e] [] cpos) (zew to te):=
 zbc (zmv PySem.F.plainAttrs_list PySem.F.slot_list_append PySem.F.type_list_append zma ho (zgU he zk3 hst) hbase hfew hline hst rfl) λσ H Qv h=>by
  obtain⟨r,dl,S,Q,rs,rel,h,ret⟩:=h
  unfold zew at h
  refine⟨r,dl,S,_,rs,rel,h,λv H1 r1 d S1 x1 rel1 p1 h1=>?_⟩
  cases p1 with
  | @ref n a hn=>
   dsimp only at h1
   split at h1
   ·rename_i xs0 e0
    obtain⟨a',ha,ob⟩:=rel1.at e0
    rw[hn] at ha; cases ha
    obtain⟨ys,hH,_⟩:=ob
    refine⟨.inl ⟨rfl,ys,SqL.of hH⟩,r1,dl,S1,_,rs.ext x1,rel1,h1,λv2 H2 r2 d2 S2 x2 rel2 p2 h2=>?_⟩
    split at h2
    ·rename_i xs1 e1
     obtain⟨hlt,h2⟩:=zks h2
     have ha2:=x2.adr n a hn
     obtain⟨zs,hH2,pz⟩:=rel2.b.ob n a _ ha2 e1
     obtain⟨rel3,x3⟩:=rel2.set ha2 e1 (pz.snoc p2)
     exact⟨a,zs,v2,rfl,rfl,hH2,by rw[← pz.1]; exact zjf (VaW hlt),ret .non _ r2 .non _ (x1.trans (x2.trans x3)) rel3 .non h2⟩
    ·exact h2.elim
   ·exact h1.elim
  | _=>exact(show False from h1).elim
def ziW:WC:=λds S Q=>match ds with
 | [.tup xs]=>Q (.ref S.length) (S++[.lst xs])
 | [.ref n]=>match lAt S n with
  | some o=>Q (.ref S.length) (S++[.lst (zaj o)])
  | none=>False
 | _=>False
theorem zdh:za2 X (.type "list") (upC X.K Z ziW):=zjt zq8 λxs H Qv ⟨r,S,ds,Q,rel,ps,q,ret⟩=>by
 unfold ziW at q
 split at q
 ·rename_i ys
  obtain⟨v,vs,rfl,p1,p2⟩:=ps.uncons
  have z:=p2.unnil
  subst z
  obtain⟨a,zs,rfl,h1,h2⟩:=p1.untup
  refine⟨a,zs,rfl,.inr (SqT.of h1),λl hl=>?_⟩
  obtain⟨rel2,x⟩:=rel.push hl h2
  exact ret _ _ _ (.ref S.length) _ x rel2 (zc2 rel.len) q
 ·rename_i n
  obtain⟨v,vs,rfl,p1,p2⟩:=ps.uncons
  have z:=p2.unnil
  subst z
  split at q
  ·rename_i o eo
   obtain⟨eo,eL⟩:=zbo eo
   obtain⟨a,ha,ob⟩:=rel.at eo
   cases p1 with
   | ref h1=>
    rw[h1] at ha; cases ha
    obtain⟨ys,sq,pr⟩:=ob.list eL
    refine⟨_,ys,rfl,.inl sq,λl hl=>?_⟩
    obtain⟨rel2,x⟩:=rel.push hl pr
    exact ret _ _ _ (.ref S.length) _ x rel2 (zc2 rel.len) q
  ·exact q.elim
 ·exact q.elim
def zbG:List D→Option (List Bool)
 | []=>some []
 | .bl b::r=>(zbG r).map (b::·)
 | _::_=>none
def zeW (g:List Bool→Bool):WC:=λds S Q=>match ds with
 | [.ref n]=>match lAt S n with
  | some o=>match zbG (zaj o) with
   | some bs=>Q (.bl (g bs)) S
   | none=>False
  | none=>False
 | _=>False
theorem zoN {r:List Addr}{H:Hp}:∀ {ds:List D} {bs:List Bool} {vs:List V} {us:List Value},zbG ds=some bs→Rps r H ds vs→zao vs us→us=bs.map Value.bool
 | [],bs,vs,us,e,p,q=>by
  have z:=p.unnil
  subst z
  cases q
  simp[zbG] at e
  subst e
  rfl
 | d::ds,bs,vs,us,e,p,q=>by
  obtain⟨v,vs',rfl,p1,p2⟩:=p.uncons
  cases d with
  | bl b=>
   cases p1
   cases q with
   | cons q1 q2=>
    have q1':_=Value.bool b:=q1
    subst q1'
    simp only[zbG,VaF] at e
    obtain⟨ms,e1,rfl⟩:=e
    rw[zoN e1 p2 q2]
    rfl
  | _=>simp[zbG] at e
theorem ztW {bs:List Bool}:(List.range bs.length).all (λi=>bs.getD i false)=bs.all id:=by
 rw[Va5]
 rw[List.all_eq_true,List.all_eq_true]
 refine⟨λh b hb=>?_,λh i hi=>?_⟩
 ·obtain⟨i,hi,e⟩:=VaN.mp hb
  have hb':=h i (List.mem_range.mpr hi)
  simpa [hi,e] using hb'
 ·have hi':i<bs.length:=List.mem_range.mp hi
  have:=h bs[i] (Va6 hi')
  simpa [hi'] using this
theorem zsJ {prog:Program}{w:World}{A:Around}{bs:List Bool}:TruthOf prog w A (λi v=>(bs.map Value.bool).toArray[i]?=some v) λi=>bs.getD i false:=λi v s Q E hP hQ=>by
  have e:(bs.map Value.bool)[i]?=some v:=by simpa using hP
  rw[Vag] at e
  cases q:bs[i]? with
  | none=>
   rw[q] at e
   cases e
  | some b=>
    rw[q] at e
    have z:Value.bool b=v:=by simpa using e
    subst z
    have z2:bs.getD i false=b:=by simp[Vas,q]
    have hQ':Q (bs.getD i false) s:=hQ
    rw[z2] at hQ'
    exact wpAny_truthy_bool hQ'
theorem ztu {n:Nat}{a:Addr}{o:Ob}{bs:List Bool}{pins:List (Addr×Obj)}{σ:St}{H:Hp}{s:Shared}{r:List Addr}{S:Sto}{Q:DK}{Qv:VK}{E:Value→Shared→Prop}{g:List Bool→Bool}(G:List Nat→(Nat→Bool)→Bool)
  (hG:G (List.range bs.length) (λi=>bs.getD i false)=g bs)(hc:X.calm=true)(I:Inv X pins σ H s)(rel:Rel X.K Z r S H)(hn:r[n]?=some a)(eo:lAt S n=some o)(eb:zbG (zaj o)=some bs)(q:Q (.bl (g bs)) S)(ret:Ret X.K Z r H Q Qv):
  wpAny (model X.prog X.w) X.A.in1 (pyIter (.ref a)) (λit s₂=>∃I fp wr n P' St tr,it=.ref I∧Walks X.prog X.w X.A.in1 I fp wr n P' St∧St 0 s₂.heap∧TruthOf X.prog X.w X.A.in1 P' tr∧
   ∀h' tk,(∀b o,b ∉ wr→s₂.heap.get? b=some o→h'.get? b=some o)→EP X pins σ Qv (.bool (G (List.range n) tr)) { s₂ with heap:=h',toks:=tk }) E s:=by
 obtain⟨eo,eL⟩:=zbo eo
 obtain⟨a',ha,ob⟩:=rel.at eo
 rw[hn] at ha; cases ha
 obtain⟨ys,sq,pr⟩:=ob.list eL
 obtain⟨its,ri,pl,hz⟩:=I.list sq
 have eits:=zoN eb pr ri
 subst eits
 refine wpAny_pyIter_list pl.isList ?_
 have hne:a≠s.heap.objs.size:=Van (by
  obtain⟨ob,e,_⟩:=pl.isList
  exact Heap.lt_size e)
 refine⟨s.heap.objs.size,_,_,_,_,_,λi=>bs.getD i false,rfl,Walks.list (show X.A.in1.handled=none from I.ok.hd hc) _ a hne (bs.map Value.bool).toArray,⟨⟨_,Heap.get?_push_size _ rfl,rfl,rfl⟩,pl.isList.at λo e=>Heap.get?_push_of_some _ e⟩,zsJ,λh' tk hk=>?_⟩
 have ez:(bs.map Value.bool).toArray.size=bs.length:=by simp
 rw[ez,hG]
 refine⟨.bl (g bs),H,I.kept λb o e=>hk b o (λz=>?_) (Heap.get?_push_of_some _ e),rfl,ret _ _ _ _ _ Ext.refl rel (.bl _) q⟩
 have z':b=s.heap.objs.size:=by simpa using z
 exact absurd (z' ▸ Heap.lt_size e) (VaC _)
theorem zvG {id:String}{g:List Bool→Bool}(rule:∀(pins:List (Addr×Obj)) (σ:St) (H:Hp) (s:Shared) (r:List Addr) (S:Sto) (Q:DK) (Qv:VK) (n:Nat) (a:Addr) (o:Ob) (bs:List Bool),Inv X pins σ H s→Rel X.K Z r S H→r[n]?=some a→lAt S n=some o→zbG (zaj o)=some bs→
   Q (.bl (g bs)) S→Ret X.K Z r H Q Qv→wpAny (model X.prog X.w) X.A (call (.builtin id) [.ref a]) (EP X pins σ Qv) X.xe s):za2 X (.builtin id) (upC X.K Z (zeW g)):=by
 intro pins s σ H xs us Qv I rv h
 obtain⟨r,S,ds,Q,rel,ps,q,ret⟩:=h
 unfold zeW at q
 split at q
 ·rename_i n
  obtain⟨v,vs,rfl,p1,p2⟩:=ps.uncons
  have z:=p2.unnil
  subst z
  split at q
  ·rename_i o eo
   split at q
   ·rename_i bs eb
    cases p1 with
    | ref h1=>
     obtain⟨u,rfl,ru⟩:=zcx rv
     cases ru
     exact rule pins σ H s r S Q Qv n _ o bs I rel h1 eo eb q ret
   ·exact q.elim
  ·exact q.elim
 ·exact q.elim
theorem zjm (hc:X.calm=true):za2 X (.builtin "all") (upC X.K Z (zeW λbs=>bs.all id)):=
 zvG λ_ _ _ _ _ _ _ _ _ _ _ _ I rel h1 eo eb q ret=>call_all_walk (ztu (g:=λbs=>bs.all id) (λl f=>l.all f) ztW hc I rel h1 eo eb q ret)
@[irreducible] def irr (w:WC):WC:=w
@[irreducible] def zbA (w:W2):W2:=w
theorem zdp (w:WC):irr w=w:=by unfold irr; rfl
theorem zb6 (w:W2):zbA w=w:=by unfold zbA; rfl
theorem zaI {f:Value}{w:WC}(h:za2 X f (upC X.K Z w)):za2 X f (upC X.K Z (irr w)):=by rw[zdp]; exact h
theorem zaB {a b:Expr}{ta tb:TDE}(ha:PD X Z a ta)(hb:PD X Z b tb)(hs:zmC b):PD X Z (.Subscript a b pos) (dOp (zbA wIx) ta tb):=by rw[zb6]; exact zaf ha hb hs
theorem zaw (S:Sto)(o:Ob):(S++[o])[S.length]?=some o:=by simp
theorem zfk {S:Sto}{o u:Ob}{n:Nat}(h:S[n]?=some o):(S++[u])[n]?=some o:=by
 rw[Vah (Vab.mp h).1]; exact h
theorem zeL {tl te:TDE}{dl:Ev}{S S1:Sto}{Q:DK}{n:Nat}{o:Ob}(g:D→D)(htl:∀K:DK,K (.ref n) S1→tl dl S K)(h1:S1[n]?=some o)(hl:(zaj o).length≤1000)
  (ht:∀x∈zaj o,∀(S2:Sto) (K:DK),Pre S1 S2→K (g x) S2→te (some x::zbS caps dl) S2 K)(hq:Q (.ref S1.length) (S1++[.lst ((zaj o).map g)]))(hL:zbN o=some o:=by rfl):zdl caps tl zcj te dl S Q:=by
 unfold zdl
 refine htl _ ⟨by rw[zaU h1 hL]; rfl,λk m S2=>S2=S1++[.lst (((zaj o).take k).map g)]∧m+k=(zaj o).length,⟨(zaj o).length,by simp,by omega⟩,?_⟩
 rintro k m S2 ⟨rfl,hm⟩
 rw[zaU (zfk h1) hL]
 dsimp only
 split
 ·rename_i x hx
  have hk:k<(zaj o).length:=(Vab.mp hx).1
  unfold zdm zcj
  simp only[if_true]
  refine ht x (Val hx) _ _ Pre.refl.push ?_
  rw[zaw]
  refine⟨by simp; omega,m-1,by omega,?_,by omega⟩
  have e:(zaj o).take (k+1)=(zaj o).take k++[x]:=by rw[Va8,hx]; rfl
  rw[e,Vav,List.set_append_right _ _ (Vaa _)]
  simp
 ·rename_i hx
  have hk:(zaj o).length≤k:=VaJ.mp hx
  rw[Va1 hk]
  exact hq
theorem zuw {o:Ob}{bs:List Bool}(h:zbG (zaj o)=some bs):zbN o=some o:=by
 cases o <;> first | rfl | cases h
theorem zqk {o:Ob}{xs:List Int}(h:zb9 (zaj o)=some xs):zbN o=some o:=by
 cases o <;> first | rfl | cases h
theorem zmh {g:List Bool→Bool}{n:Nat}{S:Sto}{o:Ob}{bs:List Bool}{Q:DK}(h:S[n]?=some o)(hb:zbG (zaj o)=some bs)(hq:Q (.bl (g bs)) S):irr (zeW g) [.ref n] S Q:=by
 rw[zdp]
 unfold zeW
 simp only[zaU h (zuw hb),hb]
 exact hq
theorem zc8 {le:Int→Int→Prop}{two:Int→Int→Int}{n:Nat}{S:Sto}{o:Ob}{xs:List Int}{Q:DK}(h:S[n]?=some o)(hb:zb9 (zaj o)=some xs)(hne:xs≠[])(hq:∀m,m∈xs→(∀y∈xs,le y m)→Q (.int m) S):irr (zdW le two) [.ref n] S Q:=by
 rw[zdp]
 unfold zdW
 simp only[zaU h (zqk hb),hb]
 exact⟨hne,hq⟩
theorem zdO {n:Nat}{S:Sto}{o:Ob}{Q:DK}(h:lAt S n=some o)(hq:Q (.ref S.length) (S++[.lst (zaj o)])):irr ziW [.ref n] S Q:=by
 rw[zdp]
 unfold ziW
 simp only[h]
 exact hq
theorem zb1 {to te:TDE}{dl:Ev}{S S1:Sto}{Q:DK}{n:Nat}{xs:List D}{y:D}(hto:∀K:DK,K (.ref n) S1→to dl S K)(h:S1[n]?=some (.lst xs))(hte:∀K:DK,K y S1→te dl S1 K)(hl:xs.length<1000)(hq:Q .non (S1.set n (.lst (xs++[y])))):zew to te dl S Q:=by
 unfold zew
 refine hto _ ?_
 simp only[h]
 refine hte _ ?_
 simp only[h]
 exact ifP hl hq
end
theorem zel {n:Nat}{x y:Int}:Sco n (.tup [.int x,.int y]):=.tup λd hd=>by
 have z:d=.int x∨d=.int y:=by simpa using hd
 rcases z with rfl | rfl <;> exact .int _
open PySem PySem.Spec PyProof.Rows L2 PySem.W Builtin Builtin.ObjectAttr Builtin.Getset_descriptor
structure Nx (K:Frag)(D:Addr):Prop where
 ga:findIn K (.ref D) "__getattribute__"=some (some (.builtin "BaseException.__getattribute__"))
 hk:findIn K (.ref D) "__getattr__"=some none
 ha:findIn K (.ref D) "__class__"=some (some (.builtin "object.__class__"))
 hn:specialIn K (.builtin "object.__class__") "__get__"=some (some (.builtin "getset_descriptor.__get__"))
 ht:takesIn K (.builtin "object.__class__")=some true
 hm:mroIn K D (.type "object")=some true
 hb:mroIn K D (.type "BaseException")=some true
section
variable {X:Cx}{Z:Zx}
end
def eqN:Nat→D→D→Option Bool
 | 0=>eqF
 | k+1=>eqT (eqN k)
theorem zn8:∀k,zei (eqN k)
 | 0=>zd4
 | k+1=>znx (zn8 k)
theorem zdJ:∀k,zdn k (eqN k)
 | 0=>zi3 0
 | k+1=>zod (zdJ k) (zn8 k)
def zdc (k:Nat)(S:Sto):D→D→Option Bool
 | .ref n,.ref m=>match lAt S n,lAt S m with
  | some o,some o'=>eqL (eqN k) (zaj o) (zaj o')
  | _,_=>none
 | x,y=>eqN (k+1) x y
def zdD (k:Nat):W2:=λx y S Q=>match zdc k S x y with
 | some b=>Q (.bl b) S
 | none=>False
def zdE (k:Nat):W2:=λx y S Q=>match zdc k S x y with
 | some b=>Q (.bl (!b)) S
 | none=>False
section
variable {X:Cx}{Z:Zx}
theorem zro {k n m:Nat}{a a':Addr}{o o':Ob}{b:Bool}{pins:List (Addr×Obj)}{σ:St}{H:Hp}{s:Shared}{r:List Addr}{S:Sto}(I:Inv X pins σ H s)(rel:Rel X.K Z r S H)(hn:r[n]?=some a)(hm:r[m]?=some a')(eo:lAt S n=some o)(eo':lAt S m=some o')
  (e:eqL (eqN k) (zaj o) (zaj o')=some b)(hu:X.A.units+1+k<cLine):SeqAt.RcAt X.A s (.ref a) (.ref a') b:=by
 obtain⟨eo,eL⟩:=zbo eo
 obtain⟨eo',eL'⟩:=zbo eo'
 obtain⟨z,hz,ob⟩:=rel.at eo
 rw[hn] at hz; cases hz
 obtain⟨z,hz,ob'⟩:=rel.at eo'
 rw[hm] at hz; cases hz
 obtain⟨xs,sq,pr⟩:=ob.list eL
 obtain⟨ys,sq',pr'⟩:=ob'.list eL'
 obtain⟨is,ri,pl,_⟩:=I.list sq
 obtain⟨js,rj,pl',_⟩:=I.list sq'
 obtain⟨g1,g2⟩:=zgF (A:=X.A.in1) (zdJ k) I (by show X.A.units+1+k<_; omega) pr pr' ri rj e
 by_cases hs:is.toArray.size=js.toArray.size
 ·have q:=SeqAt.RcAt.lists (A:=X.A) pl.isList pl'.isList hs (by omega) g1
  have e2:(List.range is.toArray.size).all (zbZ (eqN k) (zaj o) (zaj o'))=b:=by
   rw[← g2,← hs,Nat.min_self]; simp
  rw[e2] at q
  exact q
 ·have q:=SeqAt.RcAt.lists_lengths (A:=X.A) pl.isList pl'.isList (by simpa using hs) (by omega)
  have e2:b=false:=by
   rw[← g2,show (is.toArray.size==js.toArray.size)=false by simpa using hs,Bool.and_false]
  rw[e2]
  exact q
theorem zpZ (k:Nat){j:Nat}(hr:zaQ j X.A)(hu:X.A.units+1+k<cLine):OpR X (compareOp .Eq) (upO X.K Z (zdD k)):=by
 intro pins s σ H x y v u Qv I rx ry h
 obtain⟨r,S,dx,dy,Q,rel,px,py,q,ret⟩:=h
 have zaT:∀ {dx dy:D} {x y:V},Rp r H dx x→Rp r H dy y→zan x v→zan y u→zdc k S dx dy=eqN (k+1) dx dy→zdD k dx dy S Q→wpAny (model X.prog X.w) X.A (compareOp .Eq v u) (EP X pins σ Qv) X.xe s:=λpx py rx ry e q=>by
  refine zns (Z:=Z) (zdJ k) hu pins s σ H _ _ v u Qv I rx ry ⟨r,S,_,_,Q,rel,px,py,?_,ret⟩
  unfold zdD at q
  rw[e] at q
  exact q
 cases px with
 | @ref n a hn=>
  cases py with
  | @ref m a' hm=>
   cases rx
   cases ry
   unfold zdD zdc at q
   dsimp only at q
   split at q
   ·rename_i b e
    split at e
    ·rename_i o o' eo eo'
     exact zro I rel hn hm eo eo' e hu X.prog X.w X.xe _ ⟨.bl b,H,I,rfl,ret _ _ _ _ _ Ext.refl rel (.bl b) q⟩
    ·cases e
   ·exact q.elim
  | non=>exact zaT (.ref hn) .non rx ry rfl q
  | bl i=>exact zaT (.ref hn) (.bl i) rx ry rfl q
  | int i=>exact zaT (.ref hn) (.int i) rx ry rfl q
  | str i=>exact zaT (.ref hn) (.str i) rx ry rfl q
  | tup a b c=>exact zaT (.ref hn) (.tup a b c) rx ry rfl q
  | exc a=>exact zaT (.ref hn) (.exc a) rx ry rfl q
 | non=>exact zaT .non py rx ry rfl q
 | bl i=>exact zaT (.bl i) py rx ry rfl q
 | int i=>exact zaT (.int i) py rx ry rfl q
 | str i=>exact zaT (.str i) py rx ry rfl q
 | tup a b c=>exact zaT (.tup a b c) py rx ry rfl q
 | exc a=>exact zaT (.exc a) py rx ry rfl q
def zbC (f:D→D→Option Bool):List D→D→Option Bool
 | [],_=>some false
 | y::ys,x=>match f y x,zbC f ys x with
  | some b,some c=>some (b||c)
  | _,_=>none
def wIn (k:Nat)(neg:Bool):W2:=λx y S Q=>match y with
 | .ref n=>match lAt S n with
  | some o=>match zbC (eqN k) (zaj o) x with
   | some b=>Q (.bl (if neg then !b else b)) S
   | none=>False
  | none=>False
 | _=>False
theorem zn1 {v v':V}{u:Value}(h:zan v u)(h':zan v' u):v=v':=by
 cases v <;> cases v' <;> simp[L2.zan] at h h' <;> first
  | rfl
  | (subst h; simp at h'; subst h'; rfl)
  | (obtain⟨t,rfl⟩:=h; simp at h'; subst h'; rfl)
  | (obtain⟨t,rfl⟩:=h; simp at h')
  | (subst h; simp at h')
  | skip
theorem zgI {r:List Addr}{H:Hp}{d d' x:D}{v:V}{b b':Bool}(p:Rp r H d v)(p':Rp r H d' v)(e:eqF d x=some b)(e':eqF d' x=some b'):b=b':=by
 have z:d=d':=by
  cases p <;> cases p' <;> first
   | rfl
   | (cases x <;> simp[eqF] at e)
   | (cases x <;> simp[eqF] at e')
 subst z
 rw[e] at e'
 exact Option.some.inj e'
theorem zoS {f:D→D→Option Bool}{r:List Addr}{H:Hp}(hf:∀(d d' x:D) (v:V) (b b':Bool),Rp r H d v→Rp r H d' v→f d x=some b→f d' x=some b'→b=b'):
  ∀ {ds ds' zs:List D} {vs:List V} {b b':Bool},Rps r H ds vs→Rps r H ds' vs→eqL f ds zs=some b→eqL f ds' zs=some b'→b=b'
 | [],ds',zs,vs,b,b',p,p',e,e'=>by
  have z:=p.unnil
  subst z
  cases ds' with
  | nil=>rw[e] at e'; exact Option.some.inj e'
  | cons y ys=>exact absurd p'.1 (by simp)
 | d::ds,ds',zs,vs,b,b',p,p',e,e'=>by
  obtain⟨v,vs',rfl,p1,p2⟩:=p.uncons
  cases ds' with
  | nil=>exact absurd p'.1 (by simp)
  | cons d' ds'=>
   obtain⟨q1,q2⟩:=p'.tail
   cases zs with
   | nil=>
    simp only[eqL,Option.some.injEq] at e e'
    exact e.symm.trans e'
   | cons z zs=>
    unfold eqL at e e'
    split at e
    ·rename_i b1 c1 a1 a2
     split at e'
     ·rename_i b2 c2 a3 a4
      have h1:=hf d d' z v b1 b2 p1 q1 a1 a3
      have h2:=zoS hf p2 q2 a2 a4
      subst h1 h2
      simp only[Option.some.injEq] at e e'
      exact e.symm.trans e'
     ·cases e'
    ·cases e
theorem zlk:∀(k:Nat) {r:List Addr} {H:Hp} (d d' x:D) (v:V) (b b':Bool),Rp r H d v→Rp r H d' v→eqN k d x=some b→eqN k d' x=some b'→b=b'
 | 0,r,H,d,d',x,v,b,b',p,p',e,e'=>zgI p p' e e'
 | k+1,r,H,d,d',x,v,b,b',p,p',e,e'=>by
  cases p with
  | tup h1 l1 f1=>
   cases p' with
   | tup h2 l2 f2=>
    rw[h1] at h2; cases h2
    cases x with
    | tup zs=>exact zoS (λd d' x v b b'=>zlk k d d' x v b b') ⟨l1,f1⟩ ⟨l2,f2⟩ e e'
    | _=>simp[eqN,eqT,eqF] at e
   | ref h=>cases x <;> simp[eqN,eqT,eqF] at e'
   | exc h=>cases x <;> simp[eqN,eqT,eqF] at e'
  | non=>exact zgI (x:=x) .non p' (by cases x <;> exact e) (by cases p' <;> cases x <;> exact e')
  | bl i=>exact zgI (x:=x) (.bl i) p' (by cases x <;> exact e) (by cases p' <;> cases x <;> exact e')
  | int i=>exact zgI (x:=x) (.int i) p' (by cases x <;> exact e) (by cases p' <;> cases x <;> exact e')
  | str i=>exact zgI (x:=x) (.str i) p' (by cases x <;> exact e) (by cases p' <;> cases x <;> exact e')
  | ref h=>cases x <;> simp[eqN,eqT,eqF] at e
  | exc h=>cases x <;> simp[eqN,eqT,eqF] at e
theorem zoO {f:D→D→Option Bool}{x:D}:∀ {ys:List D} {b:Bool},zbC f ys x=some b→(∀y∈ys,∃c,f y x=some c)∧(b=true↔∃y∈ys,f y x=some true)
 | [],b,e=>by
  simp only[zbC,Option.some.injEq] at e
  subst e
  simp
 | y::ys,b,e=>by
  unfold zbC at e
  split at e
  ·rename_i b1 c1 e1 e2
   obtain⟨h1,h2⟩:=zoO e2
   simp only[Option.some.injEq] at e
   subst e
   refine⟨λz hz=>?_,?_⟩
   ·rcases Vaf.mp hz with rfl | hz'
    ·exact⟨b1,e1⟩
    ·exact h1 z hz'
   ·rw[Bool.or_eq_true,h2]
    refine⟨λq=>?_,λ⟨z,hz,q⟩=>?_⟩
    ·rcases q with q | ⟨z,hz,q⟩
     ·exact⟨y,VaT,by rw[e1,q]⟩
     ·exact⟨z,VaG _ hz,q⟩
    ·rcases Vaf.mp hz with rfl | hz'
     ·left
      rw[e1] at q
      exact Option.some.inj q
     ·exact .inr ⟨z,hz',q⟩
  ·cases e
theorem zoi {k:Nat}{pins:List (Addr×Obj)}{σ:St}{H:Hp}{s:Shared}{r:List Addr}{A:Around}{ds:List D}{vs:List V}{us:List Value}{dx:D}{x:V}{u:Value}{b:Bool}(I:Inv X pins σ H s)(hu:A.units+k<cLine)
  (p:Rps r H ds vs)(rv:zao vs us)(px:Rp r H dx x)(rx:zan x u)(e:zbC (eqN k) ds dx=some b):∃g:Value→Bool,(∀y,y∈us.toArray→SeqAt.EqAt A s y u (g y))∧us.toArray.any g=b:=by
 obtain⟨h1,h2⟩:=zoO e
 have at_:∀y∈us,∃d v,d∈ds∧Rp r H d v∧zan v y:=λy hy=>by
  obtain⟨j,hj,ej⟩:=VaN.mp hy
  have hv:j<vs.length:=by rw[rv.length]; exact hj
  have gv:vs[j]?=some vs[j]:=by simp[hv]
  obtain⟨w,gw,rw'⟩:=rv.get gv
  obtain⟨d,gd,pd⟩:=p.get' gv
  have ew:w=y:=by
   rw[Vae hj,ej] at gw
   exact(Option.some.inj gw).symm
  subst ew
  exact⟨d,_,Val gd,pd,rw'⟩
 classical
 refine⟨λy=>decide (∃d v,d∈ds∧Rp r H d v∧zan v y∧eqN k d dx=some true),λy hy=>?_,?_⟩
 ·obtain⟨d,v,hd,pd,rd⟩:=at_ y (by simpa using hy)
  obtain⟨c,hc⟩:=h1 d hd
  have same:decide (∃d v,d∈ds∧Rp r H d v∧zan v y∧eqN k d dx=some true)=c:=by
   cases c with
   | true=>exact decide_eq_true ⟨d,v,hd,pd,rd,hc⟩
   | false=>
    refine decide_eq_false λ⟨d',v',_,pd',rd',hc'⟩=>?_
    have ev:=zn1 rd rd'
    subst ev
    exact absurd (zlk k d d' dx v false true pd pd' hc hc') (by decide)
  show SeqAt.EqAt A s y u (decide _)
  rw[same]
  exact zdJ k X pins σ H s r A d dx v x y u c I hu pd px rd rx hc
 ·rw[Va5,h2,List.any_toArray,List.any_eq_true]
  refine⟨λ⟨y,hy,q⟩=>?_,λ⟨d,hd,q⟩=>?_⟩
  ·obtain⟨d,v,hd,_,_,q'⟩:=of_decide_eq_true q
   exact⟨d,hd,q'⟩
  ·obtain⟨j,hj,ej⟩:=VaN.mp hd
   have gd:ds[j]?=some d:=by simp[hj,ej]
   obtain⟨v,gv,pv⟩:=p.get gd
   obtain⟨w,gw,rw'⟩:=rv.get gv
   exact⟨w,Val gw,decide_eq_true ⟨d,v,hd,pv,rw',q⟩⟩
theorem do_in (k:Nat)(hu:X.A.units+1+k<cLine):OpR X (compareOp .In) (upO X.K Z (wIn k false)):=by
 intro pins s σ H x y v u Qv I rx ry h
 obtain⟨r,S,dx,dy,Q,rel,px,py,q,ret⟩:=h
 cases py with
 | @ref n a hn=>
  unfold wIn at q
  dsimp only at q
  split at q
  ·rename_i o eo
   split at q
   ·rename_i b eb
    cases ry
    obtain⟨eo,eL⟩:=zbo eo
    obtain⟨a',ha,ob⟩:=rel.at eo
    rw[hn] at ha; cases ha
    obtain⟨ys,sq,pr⟩:=ob.list eL
    obtain⟨us,ru,pl,_⟩:=I.list sq
    obtain⟨g,g1,g2⟩:=zoi (A:=X.A.in1) I (by show X.A.units+1+k<_; omega) pr ru px rx eb
    refine SeqAt.in_listAt g pl.isList g1 ?_
    rw[g2]
    exact⟨.bl b,H,I,rfl,ret _ _ _ _ _ Ext.refl rel (.bl b) q⟩
   ·exact q.elim
  ·exact q.elim
 | _=>exact(show False from q).elim
theorem zvN (k:Nat)(hu:X.A.units+1+k<cLine):OpR X (compareOp .NotIn) (upO X.K Z (wIn k true)):=by
 intro pins s σ H x y v u Qv I rx ry h
 obtain⟨r,S,dx,dy,Q,rel,px,py,q,ret⟩:=h
 cases py with
 | @ref n a hn=>
  unfold wIn at q
  dsimp only at q
  split at q
  ·rename_i o eo
   split at q
   ·rename_i b eb
    cases ry
    obtain⟨eo,eL⟩:=zbo eo
    obtain⟨a',ha,ob⟩:=rel.at eo
    rw[hn] at ha; cases ha
    obtain⟨ys,sq,pr⟩:=ob.list eL
    obtain⟨us,ru,pl,_⟩:=I.list sq
    obtain⟨g,g1,g2⟩:=zoi (A:=X.A.in1) I (by show X.A.units+1+k<_; omega) pr ru px rx eb
    refine SeqAt.notIn_listAt g pl.isList g1 ?_
    rw[g2]
    exact⟨.bl (!b),H,I,rfl,ret _ _ _ _ _ Ext.refl rel (.bl (!b)) q⟩
   ·exact q.elim
  ·exact q.elim
 | _=>exact(show False from q).elim
end
section
variable {X:Cx}{Z:Zx}{pos:Pos}
def dForT (i:Nat)(tl:TDE)(tb:TDS):TDS:=λE dl S=>tl dl S λd S1=>match d with
 | .tup xs=>∃W:Nat→Ev→Sto→Prop,W 0 dl S1∧∀k dl S,W k dl S→match xs[k]? with
  | some x=>tb { nx:=λdl' S'=>W (k+1) dl' S',rt:=E.rt,bk:=E.nx,ct:=λdl' S'=>W (k+1) dl' S' } (dl.set i (some x)) S
  | none=>E.nx dl S
 | _=>False
theorem zqU {i:Nat}{x:Str}{pos':Pos}{iter:Expr}{body:List Stmt}{tl:TDE}{tb:TDS}(hp:PassesOwn (model X.prog X.w) X.A X.env X.xe)(hc:X.calm=true)(hN:X.N.Nodup)(hi:X.N[i]?=some x)(hx:Loc X.env.scope x)
  (hl:PD X Z iter tl)(hb:zbU X Z body tb)(hf:X.fn x=true∨X.env.scope.names.lookup x=some .local:=by first | exact .inl rfl | exact .inr rfl | assumption)
  (hs:∀y,foldedSetIterable iter X.env y=pure y:=by intro _; rfl):PDS X Z (.For (.Name x pos') iter body [] pos) (dForT i tl tb):=
 zbt (zgH hp hc (zvE hl) (zdS hN hi hx hf) hb hs) λF σ H ⟨r,dl,S,E,rs,rel,h,ret⟩=>by
  refine⟨r,dl,S,_,rs,rel,h,λv H1 r1 d S1 x1 rel1 p1 q1=>?_⟩
  cases p1 with
  | @tup ds xs a e1 l1 f1=>
   obtain⟨W,w0,turn⟩:=q1
   have sq:∀ {r':List Addr} {H':Hp},Ext r1 r' H1 H'→SqT X.K H' a xs:=λ{r' H'} x'=>SqT.of (x'.tup _ _ e1)
   refine⟨a,rfl,⟨xs,sq Ext.refl⟩,λk m σ' H'=>m+k=xs.length∧∃r' dl' S',Ext r1 r' H1 H'∧Rs r' H' dl' σ'∧Rel X.K Z r' S' H'∧W k dl' S',⟨xs.length,by omega,r1,dl,S1,Ext.refl,rs.ext x1,rel1,w0⟩,?_⟩
   rintro k m σ2 H2 ⟨em,r2,dl2,S2,x2,rs2,rel2,w2⟩
   have q:=turn k dl2 S2 w2
   split at q
   ·rename_i y ey
    have hk:k<ds.length:=(Vab.mp ey).1
    have hkx:k<xs.length:=by rw[← l1]; exact hk
    have pv:Rp r2 H2 y xs[k]:=(f1 k y xs[k] ey (by simp[hkx])).ext x2
    have go:∀σ' H' r' dl' S',Ext r2 r' H2 H'→Rs r' H' dl' σ'→Rel X.K Z r' S' H'→W (k+1) dl' S'→∃r' dl' S',Ext r1 r' H1 H'∧Rs r' H' dl' σ'∧Rel X.K Z r' S' H'∧W (k+1) dl' S':=
     λσ' H' r' dl' S' x rs' rel' w'=>⟨r',dl',S',x2.trans x,rs',rel',w'⟩
    refine .inr ⟨⟨xs,xs[k],sq x2,by simp[hkx]⟩,λσ' H'=>∃r' dl' S',Ext r1 r' H1 H'∧Rs r' H' dl' σ'∧Rel X.K Z r' S' H'∧W (k+1) dl' S',λσ' H' z=>⟨m-1,by omega,by omega,z⟩,λv' H' y'=>?_⟩
    obtain⟨eH,y'⟩:=y'
    subst eH
    have ev:v'=xs[k]:=by
     have z:=y' xs (sq x2)
     rw[Vae hkx] at z; exact(Option.some.inj z).symm
    subst ev
    exact⟨r2,_,S2,_,rs2.set i pv,rel2,q,go,λσ' H' r' dl' S' x rs' rel' z=>ret.nx σ' H' r' dl' S' (x1.trans (x2.trans x)) rs' rel' z,go,ret.rt.ext (x1.trans x2)⟩
   ·rename_i ey
    have hlen:ds.length≤k:=VaJ.mp ey
    exact .inl ⟨⟨xs,sq x2,by rw[← l1]; exact hlen⟩,ret.nx σ2 H2 r2 dl2 S2 (x1.trans x2) rs2 rel2 q⟩
  | _=>exact(show False from q1).elim
def zd6:List Nat→List D→Ev→Ev
 | i::is,d::ds,dl=>zd6 is ds (dl.set i (some d))
 | _,_,dl=>dl
def zi1:List Nat→List V→St→St
 | i::is,v::vs,σ=>zi1 is vs (σ.set i (some v))
 | _,_,σ=>σ
theorem zlp {r:List Addr}{H:Hp}:∀ {is:List Nat} {ds:List D} {vs:List V} {dl:Ev} {σ:St},Rs r H dl σ→Rps r H ds vs→Rs r H (zd6 is ds dl) (zi1 is vs σ)
 | [],ds,vs,dl,σ,h,p=>by cases ds <;> cases vs <;> exact h
 | i::is,[],vs,dl,σ,h,p=>by
  have z:=p.unnil
  subst z
  exact h
 | i::is,d::ds,vs,dl,σ,h,p=>by
  obtain⟨v,vs',rfl,p1,p2⟩:=p.uncons
  show Rs r H (zd6 is ds (dl.set i (some d))) (zi1 is vs' (σ.set i (some v)))
  exact zlp (Rs.set i h p1) p2
inductive Nms (X:Cx):List Expr→List Nat→Prop
 | nil:Nms X [] []
 | cons {x:Str} {p:Pos} {i:Nat} {es:List Expr} {is:List Nat}:X.N[i]?=some x→Loc X.env.scope x→(X.fn x=true∨X.env.scope.names.lookup x=some .local)→Nms X es is→Nms X (.Name x p::es) (i::is)
def gAll (is:List Nat):TGs:=λvs σ H Q=>vs.length=is.length∧Q (zi1 is vs σ) H
theorem zjo (hN:X.N.Nodup):∀ {es:List Expr} {is:List Nat},Nms X es is→PGs X es (gAll is)
 | _,_,.nil=>λpins s σ H vs us Q I r h=>by
  obtain⟨e,h⟩:=h
  have z:vs=[]:=by simpa using e
  subst z
  exact zvM pins s σ H [] us Q I r ⟨rfl,h⟩
 | _,_,.cons (x:=x) (p:=p) (es:=es) (is:=is) h1 h2 h3 t=>λpins s σ H vs us Q I r h=>by
  obtain⟨e,h⟩:=h
  cases vs with
  | nil=>simp at e
  | cons v vs=>exact zup (zdS hN h1 h2 h3) (zjo hN t) rfl pins s σ H (v::vs) us Q I r ⟨v,vs,rfl,by simpa using e,h⟩
def dSetT (is:List Nat)(te:TDE):TDS:=λE dl S=>te dl S λd S1=>match d with
 | .tup xs=>xs.length=is.length∧E.nx (zd6 is xs dl) S1
 | _=>False
theorem zmI {es:List Expr}{e:Expr}{te:TDE}{k:Nat}{p:Pos}{is:List Nat}(hc:X.calm=true)(hN:X.N.Nodup)(hn:Nms X es is)(he:PD X Z e te)(hlen:(assignEach es X.env).length=is.length:=by rfl)(hst:(assignEach es X.env).findIdx? (·.1)=none:=by rfl)
  (hs:swapsWithSole [.Tuple es k p] e pos.line X.env=pure false:=by rfl)(hw:swappedStores [.Tuple es k p] e X.env=pure none:=by rfl)
  (h1:(assignEach [.Tuple es k p] X.env).map (·.2)=[assign (.Tuple es k p) X.env]:=by rfl):PDS X Z (.Assign [.Tuple es k p] e pos) (dSetT is te):=
 zbt (znq he (zme hc (zjo hN hn) hlen hst) hs hw h1) λF σ H ⟨r,dl,S,E,rs,rel,h,ret⟩=>by
  refine⟨r,dl,S,_,rs,rel,h,λv H1 r1 d S1 x1 rel1 p1 q1=>?_⟩
  cases p1 with
  | @tup ds xs a e1 l1 f1=>
   obtain⟨hl,q⟩:=q1
   exact⟨a,xs,rfl,SqT.of e1,by rw[← l1]; exact hl,by rw[← l1]; exact hl,ret.nx _ H1 r1 _ S1 x1 (zlp (rs.ext x1) ⟨l1,f1⟩) rel1 q⟩
  | _=>exact(show False from q1).elim
end
open PySem L2
theorem zdf (S:Sto)(o u:Ob):(S++[o]).set S.length u=S++[u]:=by simp
section
variable {X:Cx}{Z:Zx}
end
def zrK:Sd:=λ_ _ _ _=>False
def Df.never {P:Program}{w:World}{K:PySem.W.Frag}{mg:Str→Option Value}{base:Heap}{x:Str}{st:Stmt}{ps:List Str}(k:Nat)(d:Df K mg x st ps):Fk P w K mg base k x ps zrK:=
 ⟨d.f,d.fd,⟨λ_ _ _ _ ⟨_,_,_,_,_,_,_,z,_⟩=>z.elim,λ_ _ _ _ _ _ _ _ _ _ _ _ _ ⟨_,_,_,_,_,_,_,z,_⟩=>z.elim⟩,d.m,d.F.kp,d.b⟩
section
variable {X:Cx}{Z:Zx}{pos:Pos}
end
section
variable {X:Cx}{Z:Zx}{elt iter:Expr}{x:Str}{px pos:Pos}{ifs:List Expr}{sc ar:Scope}{N:List Str}{caps:List Nat}
theorem zqQ {ta:TDA}{te:TDE}{dl:Ev}{S S1:Sto}{Q:DK}{j:Int}(g:Nat→D)(hta:∀K:List D→Sto→Prop,K [.int j] S1→ta dl S K)(hj:0≤j∧j≤1000)
  (ht:∀k:Nat,k<j.toNat→∀(S2:Sto) (K:DK),Pre S1 S2→K (g k) S2→te (some (.int k)::zbS caps dl) S2 K)(hq:Q (.ref S1.length) (S1++[.lst ((List.range j.toNat).map g)])):zcy caps ta zcj te dl S Q:=by
 unfold zcy
 refine hta _ ⟨⟨by omega,by omega⟩,λk S2=>S2=S1++[.lst ((List.range k).map g)]∧k≤j.toNat,⟨by simp,by omega⟩,?_⟩
 rintro k S2 ⟨rfl,hk⟩
 split
 ·rename_i hk'
  unfold zdm zcj
  simp only[if_true]
  refine ht k hk' _ _ Pre.refl.push ?_
  rw[zaw]
  refine⟨by simp; omega,?_,by omega⟩
  rw[List.range_succ,Vav,List.set_append_right _ _ (Vaa _)]
  simp
 ·have e:k=j.toNat:=by omega
  subst e
  exact hq
end
section
variable {X:Cx}{Z:Zx}{pos:Pos}
def zaT (zs:List Str):Str:=⟨(zs.flatMap λz=>z.cps.toList).toArray⟩
abbrev TDO:=Ev→Sto→(Option Int→Sto→Prop)→Prop
def upP (K:PySem.W.Frag)(Z:Zx)(t:TDO):TO:=λσ H Q=>∃(r:List Addr) (dl:Ev) (S:Sto) (Q':Option Int→Sto→Prop),Rs r H dl σ∧Rel K Z r S H∧t dl S Q'∧∀o H' r' S',Ext r r' H H'→Rel K Z r' S' H'→Q' o S'→Q o H'
def PDO (X:Cx)(Z:Zx)(e:Option Expr)(t:TDO):Prop:=PO X e (upP X.K Z t)
def ztD:TDO:=λ_ S Q=>Q none S
def dPart (t:TDE):TDO:=λdl S Q=>t dl S λd S1=>match d with
 | .int i=>Q (some i) S1
 | _=>False
theorem zot {e:Option Expr}{t t':TO}(h:PO X e t)(g:∀σ H Q,t' σ H Q→t σ H Q):PO X e t':=λpins s σ H Q I q=>h pins s σ H Q I (g σ H Q q)
theorem zmJ:PDO X Z none ztD:=zot zqf λσ H Q ⟨r,dl,S,Q',rs,rel,h,ret⟩=>ret none H r S Ext.refl rel h
theorem zmj {e:Expr}{t:TDE}(he:PD X Z e t):PDO X Z (some e) (dPart t):=zot (zqq he) λσ H Q ⟨r,dl,S,Q',rs,rel,h,ret⟩=>⟨r,dl,S,_,rs,rel,h,λv H1 r1 d S1 e1 rel1 p1 q1=>by
 cases p1 with
 | int i=>exact⟨i,rfl,ret (some i) H1 r1 S1 e1 rel1 q1⟩
 | _=>exact(show False from q1).elim⟩
end
section
variable {X:Cx}{Z:Zx}
end
section
variable {X:Cx}{Z:Zx}
end
theorem zlM {α:Type}(f:α→Bool):∀l:List α,zbG (l.map λc=>D.bl (f c))=some (l.map f)
 | []=>rfl
 | a::r=>by
  rw[Var,Var,zbG,zlM f r]
  rfl
theorem zaz {n:Nat}{S:Sto}{o:Ob}{Q:DK}{i:Int}{d:D}(ho:S[n]?=some o)(hd:atI (zaj o) i=some d)(hq:Q d S)(hL:zbN o=some o:=by rfl):zbA wIx (.ref n) (.int i) S Q:=by
 rw[zb6]
 unfold wIx
 simp only[zaU ho hL,hd]
 exact hq
def zef (f:Str)(v:D):List (Str×D)→List (Str×D)
 | []=>[(f,v)]
 | p::r=>if p.1=f then (f,v)::r else p::zef f v r
theorem FR.lookup {r:List Addr}{H:Hp}{f:Str}:∀ {fs:List (Str×D)} {fs':List (Str×V)},FR r H fs fs'→(∀d,fs.lookup f=some d→∃v,fs'.lookup f=some v∧Rp r H d v)∧(fs.lookup f=none→fs'.lookup f=none)
 | [],fs',h=>by
  have e:fs'=[]:=by
   have:=h.1
   simpa using this.symm
  subst e
  exact⟨λd z=>by simp at z,λ_=>rfl⟩
 | p::fs,[],h=>by
  have:=h.1
  simp at this
 | p::fs,q::fs',h=>by
  obtain⟨h1,h2⟩:=h
  simp only[Var,List.cons.injEq] at h1
  obtain⟨p1,p2⟩:=h2.tail
  obtain⟨i1,i2⟩:=FR.lookup (f:=f) (fs:=fs) (fs':=fs') ⟨h1.2,p2⟩
  obtain⟨pk,pv⟩:=p
  obtain⟨qk,qv⟩:=q
  have ek:pk=qk:=h1.1
  subst ek
  by_cases z:f=pk
  ·subst z
   simp only[List.lookup_cons_self]
   exact⟨λd hd=>⟨qv,rfl,by cases hd; exact p1⟩,λhd=>by cases hd⟩
  ·have zb:(f==pk)=false:=by simpa using z
   simp only[Vax,zb]
   exact⟨i1,i2⟩
theorem FR.put {r:List Addr}{H:Hp}{f:Str}{d:D}{v:V}(q:Rp r H d v):∀ {fs:List (Str×D)} {fs':List (Str×V)},FR r H fs fs'→FR r H (zef f d fs) (zbp f v fs')
 | [],fs',h=>by
  have e:fs'=[]:=by
   have:=h.1
   simpa using this.symm
  subst e
  exact⟨rfl,Rps.cons q Rps.nil⟩
 | p::fs,[],h=>by
  have:=h.1
  simp at this
 | p::fs,p'::fs',h=>by
  obtain⟨h1,h2⟩:=h
  simp only[Var,List.cons.injEq] at h1
  obtain⟨p1,p2⟩:=h2.tail
  have ih:=FR.put (f:=f) q (fs:=fs) (fs':=fs') ⟨h1.2,p2⟩
  obtain⟨pk,pv⟩:=p
  obtain⟨qk,qv⟩:=p'
  have ek:pk=qk:=h1.1
  subst ek
  unfold zef zbp
  by_cases z:pk=f
  ·rw[if_pos z,if_pos z]
   exact⟨by simp[h1.2,z],Rps.cons q p2⟩
  ·rw[if_neg z,if_neg z]
   exact⟨by simp[ih.1],Rps.cons p1 ih.2⟩
section
variable {X:Cx}{Z:Zx}{pos:Pos}
def zde (C:Addr)(S:Sto):D→Option (Nat×List (Str×D))
 | .ref n=>match S[n]? with
  | some (.ins C' fs)=>if C'=C then some (n,fs) else none
  | _=>none
 | _=>none
theorem zmR {C:Addr}{S:Sto}{d:D}{n:Nat}{fs:List (Str×D)}(h:zde C S d=some (n,fs)):d=.ref n∧S[n]?=some (.ins C fs):=by
 unfold zde at h
 split at h
 ·split at h
  ·rename_i m _ C' fs' e
   split at h
   ·rename_i ec
    subst ec
    simp only[Option.some.injEq,Prod.mk.injEq] at h
    obtain⟨rfl,rfl⟩:=h
    exact⟨rfl,e⟩
   ·cases h
  ·cases h
 ·cases h
@[irreducible] def zjj (C:Addr)(f:Str)(to:TDE):TDE:=λdl S Q=>to dl S λd S1=>match zde C S1 d with
 | some (_,fs)=>match fs.lookup f with
  | some v=>Q v S1
  | none=>False
 | none=>False
theorem zch {C:Addr}{f:Str}{o:Expr}{to:TDE}(c:Cls X.K C)(n:zbs X.K C f)(ho:PD X Z o to)(hb:attributeBase o f X.env (eval o X.env)=eval o X.env:=by rfl):PD X Z (.Attribute o f pos) (zjj C f to):=
 zbc (ztl ho hb) λσ H Qv ⟨r,dl,S,Q,rs,rel,h,ret⟩=>by unfold zjj at h; exact⟨r,dl,S,_,rs,rel,h,λv H1 r1 d S1 e1 rel1 p1 q1=>by
  split at q1
  ·rename_i m fs ei
   obtain⟨rfl,eS⟩:=zmR ei
   split at q1
   ·rename_i w ew
    obtain⟨a,ha,ob⟩:=rel1.at eS
    obtain⟨dx,fs',eH,fr⟩:=ob
    cases p1 with
    | ref hr=>
     rw[hr] at ha; cases ha
     obtain⟨u,hu,pu⟩:=fr.lookup.1 w ew
     exact⟨a,C,dx,fs',u,rfl,eH,c,n,hu,ret u H1 r1 w S1 e1 rel1 pu q1⟩
   ·exact q1.elim
  ·exact q1.elim⟩
@[irreducible] def zhF (C:Addr)(f:Str)(to te:TDE):TDS:=λE dl S=>te dl S λv S1=>to dl S1 λd S2=>match zde C S2 d with
 | some (n,fs)=>fs.length<1000∧E.nx dl (S2.set n (.ins C (zef f v fs)))
 | none=>False
theorem zce {C:Addr}{f:Str}{o e:Expr}{to te:TDE}{p2:Pos}(c:Cls X.K C)(n:zbs X.K C f)(ho:PD X Z o to)(he:PD X Z e te)
  (hs:swapsWith e (some (.Attribute o f p2)) pos.line X.env=pure false:=by rfl):PDS X Z (.Assign [.Attribute o f p2] e pos) (zhF C f to te):=
 zbt (zqv ho he hs) λF σ H ⟨r,dl,S,E,rs,rel,h,ret⟩=>by unfold zhF at h; exact⟨r,dl,S,_,rs,rel,h,λv H1 r1 dv S1 e1 rel1 p1 q1=>⟨r1,dl,S1,_,rs.ext e1,rel1,q1,λw H2 r2 d S2 e2 rel2 p2' q2=>by
  split at q2
  ·rename_i m fs ei
   obtain⟨rfl,eS⟩:=zmR ei
   obtain⟨hl,q2⟩:=q2
   obtain⟨a,ha,ob⟩:=rel2.at eS
   obtain⟨dx,fs',eH,fr⟩:=id ob
   cases p2' with
   | ref hr=>
    rw[hr] at ha; cases ha
    have hlen:fs'.length=fs.length:=by
     have:=congrArg List.length fr.1
     simpa using this.symm
    obtain⟨rb,x⟩:=rel2.b.setO (o':=.ins C (zef f dv fs)) (u:=.ins C dx (zbp f v fs')) hr eS rfl rfl λx=>⟨dx,_,zb5,(fr.put (p1.ext e2)).ext x⟩
    exact⟨a,C,dx,fs',rfl,eH,c,n,by omega,ret.nx _ _ r2 _ _ (e1.trans (e2.trans x)) (rs.ext (e1.trans (e2.trans x))) ⟨rb,rel2.xw.ext x⟩ q2⟩
  ·exact q2.elim⟩⟩
theorem zuH {C:Addr}{r:List Addr}{S:Sto}{H:Hp}{d:D}{v:V}{n:Nat}{fs:List (Str×D)}(rel:zaX X.K r S H)(p:Rp r H d v)(h:zde C S d=some (n,fs)):∃a dx fs',v=.ref a∧r[n]?=some a∧H a=some (.ins C dx fs')∧FR r H fs fs':=by
 obtain⟨rfl,eS⟩:=zmR h
 obtain⟨a,ha,dx,fs',eH,fr⟩:=rel.at eS
 cases p with
 | ref hr=>
  rw[hr] at ha; cases ha
  exact⟨a,dx,fs',rfl,hr,eH,fr⟩
def dMake (C:Addr)(ex:Addr→Sto→Prop)(sd:Sd)(t:TDA):TDE:=λdl S Q=>t dl S λds S1=>sd (.ref S1.length::ds) (S1++[.ins C []]) (λd S2=>d=.non∧Q (.ref S1.length) S2) ex
theorem zu7 {C x dx:Addr}{r:List Addr}{S:Sto}{H:Hp}(rel:Rel X.K Z r S H)(h1:H x=none)(h2:H dx=none)(h3:dx≠x):
  Rel X.K Z (r++[x]) (S++[.ins C []]) (upd (upd H dx (.own x)) x (.ins C dx []))∧Ext r (r++[x]) H (upd (upd H dx (.own x)) x (.ins C dx [])):=by
 obtain⟨rb,e⟩:=rel.b.pushO (o:=.ins C []) (H':=upd (upd H dx (.own x)) x (.ins C dx [])) h1 (λb u q=>by rw[za4 (zdj q h1),za4 (zdj q h2)]; exact q) λ_=>⟨dx,[],zb5,FR.nil⟩
 exact⟨⟨rb,rel.xw.ext e⟩,e⟩
theorem zrM {C x:Addr}{r r':List Addr}{n:Nat}{H H':Hp}{Z:Zx}{K:PySem.W.Frag}{Q:DK}{Qv:VK}(ret:Ret K Z r H Q Qv)(e:Ext r r' H H')(hx:r'[n]?=some x):
  Ret K Z r' H' (λd S2=>d=.non∧Q (.ref n) S2) (λv H2=>v=.non∧Qv (.ref x) H2):=λv H2 r2 d S2 e2 rel2 p2 q2=>by
 obtain⟨rfl,q2⟩:=q2
 cases p2
 exact⟨rfl,ret _ H2 r2 (.ref n) S2 (e.trans e2) rel2 (.ref (e2.adr _ _ hx)) q2⟩
theorem zdU {C f:Addr}{fd:FuncData}{k:Nat}{ps:List Str}{sd:Sd}{ex:Addr→Sto→Prop}{W:XK}{x:Str}{p:Pos}{e:Expr}{es:List Expr}{t:TDA}(M:Mk X.K C f)
  (F:zbb X.prog X.w X.K X.mg X.base (CXE X.prog X.w) k f fd ps (upF X.K sd))(hr:zaQ (k+1) X.A)(hg:Gl X x)(hm:X.mg x=some (.ref C))(hb:zbD X.K fd ps [])(hx:ziT (CXE X.prog X.w) X W)(ha:PDA X (Zc ex W) (e::es) t)
  (hdb:(x==("__debug__":Str))=false:=by decide)(he:starEach (e::es) X.env=(false,eval e X.env)::starEach es X.env:=by rfl)(hpl:(backTo pos (starEach es X.env)).any (·.1)=false:=by rfl):
  PD X (Zc ex W) (.Call (.Name x p) (e::es) [] pos) (dMake C ex sd t):=
 zbc (zrR M F hr hg hm hb .nil hx ha hdb he hpl) λσ H Qv ⟨r,dl,S,Q,rs,rel,h,ret⟩=>⟨r,dl,S,_,rs,rel,h,λvs H1 r1 ds S1 e1 rel1 p1 q1=>λx dx n1 n2 n3=>by
  obtain⟨rel2,e2⟩:=zu7 (C:=C) rel1 n1 n2 n3
  show upF X.K sd (.ref x::(vs++[])) _ _ W
  rw[Vai]
  exact⟨ex,_,_,.ref S1.length::ds,_,rel2,Rps.cons (zc2 rel1.len) (p1.ext e2),q1,zrM (C:=C) ret (e1.trans e2) (zkO rel1.len)⟩⟩
end
section
variable {κ:Type} [DecidableEq κ]
def zdx (kvs:List (κ×D))(k:κ):Option D:=(kvs.find? λkv=>decide (kv.1=k)).map (·.2)
def znP (kvs:List (κ×D))(k:κ)(v:D):List (κ×D):=
 if (kvs.any λkv=>decide (kv.1=k))=true then kvs.map (λkv=>if kv.1=k then (kv.1,v) else kv) else kvs++[(k,v)]
theorem FR.split {r:List Addr}{H:Hp}{p:κ×D}{fs:List (κ×D)}{gs:List (κ×V)}(h:FR r H (p::fs) gs):∃q gs',gs=q::gs'∧p.1=q.1∧Rp r H p.2 q.2∧FR r H fs gs':=by
 cases gs with
 | nil=>
  have:=h.1
  simp at this
 | cons q gs'=>
  obtain⟨h1,h2⟩:=h
  simp only[Var,List.cons.injEq] at h1
  obtain⟨p1,p2⟩:=h2.tail
  exact⟨q,gs',rfl,h1.1,p1,h1.2,p2⟩
theorem FR.unnil {r:List Addr}{H:Hp}{gs:List (κ×V)}(h:FR r H ([]:List (κ×D)) gs):gs=[]:=by
 have:=h.1
 simpa using this.symm
theorem FR.cons {r:List Addr}{H:Hp}{k:κ}{d:D}{v:V}{fs:List (κ×D)}{gs:List (κ×V)}(p:Rp r H d v)(h:FR r H fs gs):FR r H ((k,d)::fs) ((k,v)::gs):=⟨by simp[h.1],Rps.cons p h.2⟩
theorem FR.val {r:List Addr}{H:Hp}{k:κ}:∀ {fs:List (κ×D)} {gs:List (κ×V)},FR r H fs gs→(∀d,zdx fs k=some d→∃v,zbQ gs k=some v∧Rp r H d v)∧(zdx fs k=none→zbQ gs k=none)
 | [],gs,h=>by
  have z:=h.unnil
  subst z
  exact⟨(λd e=>by cases e),λ_=>rfl⟩
 | p::fs,gs,h=>by
  obtain⟨q,gs',rfl,e,pr,t⟩:=h.split
  obtain⟨i1,i2⟩:=FR.val (k:=k) t
  by_cases z:p.1=k
  ·have z':q.1=k:=e.symm.trans z
   rw[zi7 z']
   have zd:zdx (p::fs) k=some p.2:=by simp[zdx,VaZ,z]
   rw[zd]
   exact⟨λd hd=>⟨q.2,rfl,by cases hd; exact pr⟩,λhd=>by cases hd⟩
  ·have z':¬ q.1=k:=λy=>z (e.trans y)
   rw[ziU z']
   have zd:zdx (p::fs) k=zdx fs k:=by simp[zdx,VaZ,z]
   rw[zd]
   exact⟨i1,i2⟩
theorem FR.putK {r:List Addr}{H:Hp}{k:κ}{d:D}{v:V}{fs:List (κ×D)}{gs:List (κ×V)}(p:Rp r H d v)(h:FR r H fs gs):FR r H (znP fs k d) (putK gs k v):=by
 have any:∀ {fs:List (κ×D)} {gs:List (κ×V)},FR r H fs gs→(fs.any λkv=>decide (kv.1=k))=(gs.any λkv=>decide (kv.1=k)):=by
  intro fs
  induction fs with
  | nil=>intro gs h; have z:=h.unnil; subst z; rfl
  | cons q fs ih=>
   intro gs h
   obtain⟨q',gs',rfl,e,_,t⟩:=h.split
   rw[List.any_cons,List.any_cons,ih t,e]
 have mp:∀ {fs:List (κ×D)} {gs:List (κ×V)},FR r H fs gs→FR r H (fs.map λkv=>if kv.1=k then (kv.1,d) else kv) (gs.map λkv=>if kv.1=k then (kv.1,v) else kv):=by
  intro fs
  induction fs with
  | nil=>intro gs h; have z:=h.unnil; subst z; exact FR.nil
  | cons q fs ih=>
   intro gs h
   obtain⟨q',gs',rfl,e,pr,t⟩:=h.split
   rw[Var,Var]
   obtain⟨qk,qd⟩:=q
   obtain⟨qk',qv⟩:=q'
   have e':qk=qk':=e
   subst e'
   by_cases z:qk=k
   ·rw[if_pos z,if_pos z]; exact FR.cons p (ih t)
   ·rw[if_neg z,if_neg z]; exact FR.cons pr (ih t)
 have ap:∀ {fs:List (κ×D)} {gs:List (κ×V)},FR r H fs gs→FR r H (fs++[(k,d)]) (gs++[(k,v)]):=by
  intro fs
  induction fs with
  | nil=>intro gs h; have z:=h.unnil; subst z; exact FR.cons p FR.nil
  | cons q fs ih=>
   intro gs h
   obtain⟨q',gs',rfl,e,pr,t⟩:=h.split
   obtain⟨qk,qd⟩:=q
   obtain⟨qk',qv⟩:=q'
   have e':qk=qk':=e
   subst e'
   exact FR.cons pr (ih t)
 unfold znP L2.putK
 rw[any h]
 split
 ·exact mp h
 ·exact ap h
end
section
variable {X:Cx}{Z:Zx}{pos:Pos}
end
section
variable {X:Cx}{Z:Zx}{pos:Pos}
theorem zq1 {st:Stmt}:PDS X Z st (λ_ _ _=>False):=zbt (t:=λ_ _ _=>False) (λ_ _ _ _ _ _ h=>h.elim) λF σ H ⟨r,dl,S,E,rs,rel,h,ret⟩=>h.elim
end
section
variable {X:Cx}{Z:Zx}{pos:Pos}
def za8 (xs:List D)(lo hi:Option Int):List D:=(xs.drop (HT.sIx xs.length 0 lo)).take (HT.sIx xs.length xs.length hi-HT.sIx xs.length 0 lo)
theorem Rps.drop {r:List Addr}{H:Hp}{ds:List D}{vs:List V}(h:Rps r H ds vs)(k:Nat):Rps r H (ds.drop k) (vs.drop k):=
 ⟨by simp[h.1],λi d v h1 h2=>h.2 (k+i) d v (by simpa using h1) (by simpa using h2)⟩
theorem Rps.take {r:List Addr}{H:Hp}{ds:List D}{vs:List V}(h:Rps r H ds vs)(k:Nat):Rps r H (ds.take k) (vs.take k):=by
 refine⟨by simp[h.1],λi d v h1 h2=>?_⟩
 rw[List.getElem?_take] at h1 h2
 split at h1
 ·rw[if_pos (by assumption)] at h2
  exact h.2 i d v h1 h2
 ·cases h1
theorem Rps.cut {r:List Addr}{H:Hp}{ds:List D}{vs:List V}(h:Rps r H ds vs)(lo hi:Option Int):Rps r H (za8 ds lo hi) (zdZ vs lo hi):=by
 unfold za8 zdZ
 rw[h.1]
 exact(h.drop _).take _
@[irreducible] def zjk (te:TDE)(tl th:TDO):TDE:=λdl S Q=>te dl S λd S1=>tl dl S1 λl S2=>th dl S2 λu S3=>match d with
 | .ref n=>match lAt S3 n with
  | some o=>Q (.ref S3.length) (S3++[.lst (za8 (zaj o) l u)])
  | none=>False
 | _=>False
theorem zmX {e:Expr}{te:TDE}{lo hi:Option Expr}{tl th:TDO}{p2:Pos}(he:PD X Z e te)(hl:PDO X Z lo tl)(hu:PDO X Z hi th):PD X Z (.Subscript e (.Slice lo hi none p2) pos) (zjk te tl th):=
 zbc (zqJ zt8 he hl hu) λσ H Qv ⟨r,dl,S,Q,rs,rel,h,ret⟩=>by
  unfold zjk at h
  refine⟨r,dl,S,_,rs,rel,h,λv H1 r1 d S1 e1 rel1 p1 q1=>⟨r1,dl,S1,_,rs.ext e1,rel1,q1,λl H2 r2 S2 e2 rel2 q2=>⟨r2,dl,S2,_,rs.ext (e1.trans e2),rel2,q2,λu H3 r3 S3 e3 rel3 q3=>?_⟩⟩⟩
  cases p1 with
  | @ref n a hn=>
   dsimp only at q3
   split at q3
   ·rename_i o eo
    obtain⟨eo,eL⟩:=zbo eo
    obtain⟨a',ha,ob⟩:=rel3.at eo
    rw[e3.adr _ _ (e2.adr _ _ hn)] at ha; cases ha
    obtain⟨xs,sq,pr⟩:=ob.list eL
    refine⟨a,xs,rfl,sq,λp hp=>?_⟩
    obtain⟨rel4,x⟩:=rel3.push hp (pr.cut l u)
    exact ret _ _ _ (.ref S3.length) _ (e1.trans (e2.trans (e3.trans x))) rel4 (zc2 rel3.len) q3
   ·exact q3.elim
  | _=>exact(show False from q3).elim
theorem zls {te:TDE}{tl th:TDO}{dl:Ev}{S S3:Sto}{Q:DK}{n:Nat}{o:Ob}{lo hi:Option Int}(h:∀K:DK,K (.ref n) S3→te dl S K)(hl:∀K:Option Int→Sto→Prop,K lo S3→tl dl S3 K)(hh:∀K:Option Int→Sto→Prop,K hi S3→th dl S3 K)(ho:S3[n]?=some o)
  (hq:Q (.ref S3.length) (S3++[.lst (za8 (zaj o) lo hi)]))(hL:zbN o=some o:=by rfl):zjk te tl th dl S Q:=by
 unfold zjk
 refine h _ (hl _ (hh _ ?_))
 simp only[zaU ho hL]
 exact hq
end
section
variable {X:Cx}{Z:Zx}{pos:Pos}
theorem Rps.put {r:List Addr}{H:Hp}{ds:List D}{vs:List V}{d:D}{v:V}(h:Rps r H ds vs)(p:Rp r H d v)(j:Nat):Rps r H (ds.set j d) (vs.set j v):=by
 refine⟨by simp[h.1],λi x y h1 h2=>?_⟩
 by_cases z:j=i
 ·subst z
  have hl:j<ds.length:=by
   have:=(Vab.mp h1).1
   simpa using this
  rw[VaD hl] at h1
  rw[VaD (by rw[← h.1]; exact hl)] at h2
  cases h1
  cases h2
  exact p
 ·rw[VaH z] at h1 h2
  exact h.2 i x y h1 h2
@[irreducible] def zdg (to ti te:TDE):TDS:=λE dl S=>te dl S λv S1=>to dl S1 λd S2=>ti dl S2 λi S3=>match d,i with
 | .ref n,.int k=>match S3[n]? with
  | some (.lst xs)=>match ixN xs.length k with
   | some j=>E.nx dl (S3.set n (.lst (xs.set j v)))
   | none=>False
  | _=>False
 | _,_=>False
theorem zeH {o i e:Expr}{to ti te:TDE}{p2:Pos}(ho:PD X Z o to)(hi:PD X Z i ti)(he:PD X Z e te)
  (hs:swapsWithSole [.Subscript o i p2] e pos.line X.env=pure false:=by rfl)(hw:swappedStores [.Subscript o i p2] e X.env=pure none:=by rfl)(h1:(assignEach [.Subscript o i p2] X.env).map (·.2)=[assign (.Subscript o i p2) X.env]:=by rfl)
  (ha:∀v,assign (.Subscript o i p2) X.env v=(do let ov ← holding [v] (eval o X.env); let iv ← holding [v,ov] (eval i X.env); standAt p2; holding [v,ov,iv] (setItem ov iv v); release [v,ov,iv] []):=by intro _; rfl):PDS X Z (.Assign [.Subscript o i p2] e pos) (zdg to ti te):=
 zbt (znq he (zux ho hi zqW ha) hs hw h1) λF σ H ⟨r,dl,S,E,rs,rel,h,ret⟩=>by
  unfold zdg at h
  refine⟨r,dl,S,_,rs,rel,h,λv H1 r1 dv S1 e1 rel1 p1 q1=>⟨r1,dl,S1,_,rs.ext e1,rel1,q1,λx H2 r2 d S2 e2 rel2 pd q2=>⟨r2,dl,S2,_,rs.ext (e1.trans e2),rel2,q2,λy H3 r3 di S3 e3 rel3 pi q3=>?_⟩⟩⟩
  cases pd with
  | @ref n a hn=>
   cases pi with
   | int k=>
    dsimp only at q3
    split at q3
    ·rename_i xs eS
     split at q3
     ·rename_i j ej
      have hn3:=e3.adr _ _ hn
      obtain⟨ys,eH,pr⟩:=rel3.b.ob n a _ hn3 eS
      obtain⟨rel4,x4⟩:=rel3.set hn3 eS (pr.put (p1.ext (e2.trans e3)) j)
      exact⟨a,ys,k,j,rfl,rfl,eH,by rw[← pr.1]; exact ej,ret.nx _ _ r3 _ _ (e1.trans (e2.trans (e3.trans x4))) (rs.ext (e1.trans (e2.trans (e3.trans x4)))) rel4 q3⟩
     ·exact q3.elim
    ·exact q3.elim
   | _=>exact(show False from q3).elim
  | _=>exact(show False from q3).elim
def zbO (f:D→D→Option Bool):List D→D→Option (Option Nat)
 | [],_=>some none
 | y::ys,x=>match f y x,zbO f ys x with
  | some true,some _=>some (some 0)
  | some false,some o=>some (o.map (·+1))
  | _,_=>none
theorem zl3 {f:D→D→Option Bool}{x:D}:∀ {ys:List D} {o:Option Nat},zbO f ys x=some o→(∀y∈ys,∃c,f y x=some c)∧∀j,o=some j→(∃y,ys[j]?=some y∧f y x=some true)∧∀m y,m<j→ys[m]?=some y→f y x=some false
 | [],o,e=>by
  have h:=Option.some.inj e
  subst h
  exact⟨(λy hy=>by cases hy),λj z=>by cases z⟩
 | y::ys,o,e=>by
  unfold zbO at e
  split at e
  ·rename_i o1 e1 e2
   have h:=Option.some.inj e
   subst h
   obtain⟨h1,_⟩:=zl3 e2
   refine⟨λz hz=>?_,λj hj=>?_⟩
   ·rcases Vaf.mp hz with rfl | hz
    ·exact⟨true,e1⟩
    ·exact h1 z hz
   ·cases hj
    exact⟨⟨y,rfl,e1⟩,λm z hm=>by omega⟩
  ·rename_i o1 e1 e2
   have h:=Option.some.inj e
   subst h
   obtain⟨h1,h2⟩:=zl3 e2
   refine⟨λz hz=>?_,λj hj=>?_⟩
   ·rcases Vaf.mp hz with rfl | hz
    ·exact⟨false,e1⟩
    ·exact h1 z hz
   ·obtain⟨k,rfl,rfl⟩:=VaF.mp hj
    obtain⟨⟨z,hz1,hz2⟩,h3⟩:=h2 k rfl
    refine⟨⟨z,by simpa using hz1,hz2⟩,λm w hm hw=>?_⟩
    cases m with
    | zero=>
     have:w=y:=by simpa using hw.symm
     rw[this]; exact e1
    | succ m=>exact h3 m w (by omega) (by simpa using hw)
  ·cases e
theorem zvI {k:Nat}{pins:List (Addr×Obj)}{σ:St}{H:Hp}{s:Shared}{r:List Addr}{A:Around}{ds:List D}{vs:List V}{us:List Value}{dx:D}{x:V}{u:Value}{j:Nat}(I:Inv X pins σ H s)(hu:A.units+k<cLine)
  (p:Rps r H ds vs)(rv:zao vs us)(px:Rp r H dx x)(rx:zan x u)(e:zbO (eqN k) ds dx=some (some j)):
  ∃g:Value→Bool,(∀y,y∈us.toArray→SeqAt.EqAt A s y u (g y))∧∃hj:j<us.toArray.size,g us.toArray[j]=true∧∀m (hm:m<us.toArray.size),m<j→g us.toArray[m]=false:=by
 obtain⟨h1,h2⟩:=zl3 e
 obtain⟨⟨yj,hyj,htj⟩,hno⟩:=h2 j rfl
 classical
 have at_:∀(m:Nat) (hm:m<us.length),∃d v,ds[m]?=some d∧Rp r H d v∧zan v us[m]:=λm hm=>by
  have hv:m<vs.length:=by rw[rv.length]; exact hm
  have gv:vs[m]?=some vs[m]:=by simp[hv]
  obtain⟨w,gw,rw'⟩:=rv.get gv
  obtain⟨d,gd,pd⟩:=p.get' gv
  have ew:w=us[m]:=by
   rw[Vae hm] at gw
   exact(Option.some.inj gw).symm
  subst ew
  exact⟨d,_,gd,pd,rw'⟩
 have val:∀(m:Nat) (hm:m<us.length) (d:D) (c:Bool),ds[m]?=some d→eqN k d dx=some c→decide (∃d v,d∈ds∧Rp r H d v∧zan v us[m]∧eqN k d dx=some true)=c:=λm hm d c hd hc=>by
  obtain⟨d',v',gd,pd,rd⟩:=at_ m hm
  rw[hd] at gd; cases gd
  cases c with
  | true=>exact decide_eq_true ⟨d,v',Val hd,pd,rd,hc⟩
  | false=>
   refine decide_eq_false λ⟨d2,v2,_,pd2,rd2,hc2⟩=>?_
   have ev:=zn1 rd rd2
   subst ev
   exact absurd (zlk k d d2 dx v' false true pd pd2 hc hc2) (by decide)
 refine⟨λy=>decide (∃d v,d∈ds∧Rp r H d v∧zan v y∧eqN k d dx=some true),λy hy=>?_,?_⟩
 ·have hy':y∈us:=by simpa using hy
  obtain⟨m,hm,rfl⟩:=VaN.mp hy'
  obtain⟨d,v,gd,pd,rd⟩:=at_ m hm
  obtain⟨c,hc⟩:=h1 d (Val gd)
  show SeqAt.EqAt A s us[m] u (decide _)
  rw[val m hm d c gd hc]
  exact zdJ k X pins σ H s r A d dx v x _ u c I hu pd px rd rx hc
 ·have hjl:j<us.length:=by
   have:=(Vab.mp hyj).1
   rw[p.1,rv.length] at this
   exact this
  refine⟨by simpa using hjl,?_,λm hm hmj=>?_⟩
  ·have z:=val j hjl yj true hyj htj
   simpa using z
  ·have hm':m<us.length:=by simpa using hm
   obtain⟨d,v,gd,pd,rd⟩:=at_ m hm'
   have z:=val m hm' d false gd (hno m d hmj gd)
   simpa using z
def zfT (k:Nat)(d y:D)(S:Sto)(Q:DK):Prop:=match d with
 | .ref n=>match lAt S n with
  | some o=>match zbO (eqN k) (zaj o) y with
   | some (some j)=>Q (.int (j:Int)) S
   | _=>False
  | none=>False
 | _=>False
@[irreducible] def zen (k:Nat)(to:TDE)(t:TDA):TDE:=λdl S Q=>to dl S λd S1=>(match d with
 | .ref n=>(lAt S1 n).isSome=true∧t dl S1 λds S2=>match ds with
  | [y]=>zfT k d y S2 Q
  | _=>False
 | _=>False)
theorem zrE {k j:Nat}(hr:zaQ j X.A)(hk:k≤3):MtR X "list.index" (λx xs H Qv=>∃(r:List Addr) (S:Sto) (d y:D) (v:V) (Q:DK),Rel X.K Z r S H∧Rp r H d x∧xs=[v]∧Rp r H y v∧zfT k d y S Q∧Ret X.K Z r H Q Qv):=by
 intro pins s σ H x xs v us Qv I rx rv h
 obtain⟨r,S,d,y,v1,Q,rel,pd,rfl,py,q,ret⟩:=h
 obtain⟨u,rfl,ru⟩:=zcx rv
 unfold zfT at q
 split at q
 ·rename_i n
  split at q
  ·rename_i o eo
   obtain⟨eo,eL⟩:=zbo eo
   split at q
   ·rename_i i ei
    cases pd with
    | @ref n a hn=>
     cases rx
     obtain⟨a',ha,ob⟩:=rel.at eo
     rw[hn] at ha; cases ha
     obtain⟨ys,sq,pr⟩:=ob.list eL
     obtain⟨its,ri,pl,hz⟩:=I.list sq
     have hun:=hr.un
     obtain⟨g,g1,hj,g2,g3⟩:=zvI (A:=X.A.in1) I (by show X.A.units+1+k<_; omega) pr ri py ru ei
     obtain⟨ob2,m,e,c,hd,hdat⟩:=pl
     obtain⟨oc,od,odat,osl⟩:=ob2
     have c':oc=.type "list":=c
     have hdat':odat=.seq its.toArray m:=hdat
     subst c' hdat'
     refine call_meets PySem.F.slot_list_index ⟨_,e,rfl⟩ PySem.F.entry_list_index (PySem.F.args_list_index_2 _ _) (PySem.SeqAt.list_indexAt a its.toArray m od osl u g i hj (by
      have:its.toArray.size≤sizeLine:=by rw[Vak,← ri.length]; exact hz
      have h2:=zfd
      omega) g2 λm hm h2=>g3 m hm h2) ⟨e,g1,?_⟩
     exact⟨.int (i:Int),H,I.tok _,⟨_,rfl⟩,ret _ H r (.int _) S Ext.refl rel (.int _) q⟩
   ·exact q.elim
  ·exact q.elim
 ·exact q.elim
theorem zlS {k j:Nat}{o e:Expr}{to:TDE}{t:TDA}{apos cpos:Pos}(hr:zaQ j X.A)(hk:k≤3)(ho:PD X Z o to)(ha:PDA X Z [e] t)(hbase:attributeBase o "index" X.env (eval o X.env)=eval o X.env:=by rfl)
  (hfew:((backTo cpos (starEach [e] X.env)).all (λx=>!x.1)&&(backToKw cpos (keywordEach [] X.env)).all (λx=>x.1.isSome)
  &&decide ([e].length+([]:List Keyword).length+(if ([]:List Keyword).isEmpty then 0 else 1)<30))=true:=by rfl)
  (hline:(apos.endLine==cpos.line)=true:=by rfl)(hs:starEach [e] X.env=(false,eval e X.env)::starEach [] X.env:=by rfl)(hplain:(backTo cpos (starEach [] X.env)).any (·.1)=false:=by rfl):
  PD X Z (.Call (.Attribute o "index" apos) [e] [] cpos) (zen k to t):=
 zbc (zmv (T:="list") PySem.F.plainAttrs_list PySem.F.slot_list_index PySem.F.type_list_index (zrE (Z:=Z) hr hk) ho ha hbase hfew hline hs hplain) λσ H Qv ⟨r,dl,S,Q,rs,rel,h,ret⟩=>by
  unfold zen at h
  refine⟨r,dl,S,_,rs,rel,h,λv H1 r1 d S1 e1 rel1 p1 q1=>?_⟩
  cases p1 with
  | @ref n a hn=>
   obtain⟨hsome,q1⟩:=q1
   obtain⟨o1,eo⟩:=VaX.mp hsome
   obtain⟨eo,eL⟩:=zbo eo
   obtain⟨a',ha',ob⟩:=rel1.at eo
   rw[hn] at ha'; cases ha'
   obtain⟨xs,sq,_⟩:=ob.list eL
   refine⟨.inl ⟨rfl,xs,sq⟩,r1,dl,S1,_,rs.ext e1,rel1,q1,λvs H2 r2 ds S2 e2 rel2 p2 q2=>?_⟩
   split at q2
   ·rename_i y
    obtain⟨v2,vs',rfl,p3,p4⟩:=p2.uncons
    have z:=p4.unnil
    subst z
    exact⟨r2,S2,.ref n,y,v2,Q,rel2,.ref (e2.adr _ _ hn),rfl,p3,q2,ret.ext (e1.trans e2)⟩
   ·exact q2.elim
  | _=>exact(show False from q1).elim
end
section
variable {X:Cx}{pins:List (Addr×Obj)}{σ:St}{H:Hp}{s:Shared}{h':Heap}
theorem zt9 {t':Nat}{ch:List Addr}{T:Addr}{xs:List V}{vals:Array Value}(I:Inv X pins σ H s)(k:∀b o,b ∉ ch→s.heap.get? b=some o→h'.get? b=some o)(hch:∀b∈ch,zbE X pins H b)
  (hT:s.heap.objs.size≤T)(ht:h'.IsTuple T vals)(rv:zao xs vals.toList)(hl:xs.length≤sizeLine):Inv X pins σ (upd H T (.tup xs)) { s with heap:=h',toks:=t' }:=by
 have hTn:H T=none:=I.hok.fresh hT
 have old:∀ {b:Addr} {o:Obj},s.heap.get? b=some o→b≠T:=λ{b o} e z=>absurd (Vau (Heap.lt_size e) hT) (by rw[z]; exact VaC _)
 have trk:∀b u,H b=some u→b ∉ ch:=λb u e z=>by
  rw[(hch b z).1] at e; cases e
 have up:∀b u,H b=some u→(upd H T (.tup xs)) b=some u:=zb8 hTn
 refine I.step (g':=s.gens) (d':=s.drawn) (ch:=ch) (λb hb=>?_) (λb o _ _ hc e _=>k b o hc e) (λb o _ _ hc e _=>⟨o.slots,k b o hc e⟩) (λb o _ e n=>by rw[za4 (old e)]; exact n)
  (λb o hc e=>⟨o,k b o hc e⟩) (λb ys e=>up _ _ e) (λb o u e=>up _ _ e) (λb ps e=>⟨#[],by rw[up _ _ e]; simp⟩) (λm hm=>?_) (λb u e=>?_) I.bare
 ·obtain⟨_,f1,_,f3,f4,f5⟩:=hch b hb
  exact⟨f3,f1,f4,f5⟩
 ·obtain⟨o,es,ep,ho,r⟩:=hm
  exact⟨o,es,ep,k _ o (λz=>(hch _ z).2.1 rfl) ho,r⟩
 ·by_cases hb:b=T
  ·subst hb
   rw[zb5] at e
   cases e
   exact⟨hl,vals.toList,rv,by rw[Array.toArray_toList]; exact ht⟩
  ·rw[za4 hb] at e
   refine(I.hok b u e).stay (λc v hc q=>k c v ?_ q) (λd z=>up _ _ z) λd ys z=>up _ _ z
   rcases hc with z | z
   ·rw[z]; exact trk b u e
   ·exact trk c _ z
theorem zna {t':Nat}{ch:List Addr}(I:Inv X pins σ H s)(k:∀b o,b ∉ ch→s.heap.get? b=some o→h'.get? b=some o)(hch:∀b∈ch,zbE X pins H b):Inv X pins σ H { s with heap:=h',toks:=t' }:=by
 have trk:∀b u,H b=some u→b ∉ ch:=λb u e z=>by
  rw[(hch b z).1] at e; cases e
 refine I.step (g':=s.gens) (d':=s.drawn) (ch:=ch) (λb hb=>?_) (λb o _ _ hc e _=>k b o hc e) (λb o _ _ hc e _=>⟨o.slots,k b o hc e⟩) (λb o _ e n=>n)
  (λb o hc e=>⟨o,k b o hc e⟩) (λb ys e=>e) (λb o u e=>e) (λb ps e=>⟨#[],by rw[e]; simp⟩) (λm hm=>?_) (λb u e=>?_) I.bare
 ·obtain⟨_,f1,_,f3,f4,f5⟩:=hch b hb
  exact⟨f3,f1,f4,f5⟩
 ·obtain⟨o,es,ep,ho,r⟩:=hm
  exact⟨o,es,ep,k _ o (λz=>(hch _ z).2.1 rfl) ho,r⟩
 ·refine(I.hok b u e).stay (λc v hc q=>k c v ?_ q) (λd z=>z) λd ys z=>z
  rcases hc with z | z
  ·rw[z]; exact trk b u e
  ·exact trk c _ z
end
section
variable {X:Cx}
end
def Itz (K:PySem.W.Frag)(a b:Addr):It:=
  ⟨λi H=>∃xs ys x y,SqL K H a xs∧SqL K H b ys∧xs[i]?=some x∧ys[i]?=some y,
   λi H x H'=>∃T v u,x=.ref T∧H T=none∧H'=upd H T (.tup [v,u])∧(∀xs,SqL K H a xs→xs[i]?=some v)∧∀ys,SqL K H b ys→ys[i]?=some u,
   λi H=>∃xs ys,SqL K H a xs∧SqL K H b ys∧min xs.length ys.length=i⟩
theorem zpq {P:Program}{w:World}{K:PySem.W.Frag}{elts:List Expr}{kk:Nat}{tp:Pos}(a b z TI TO i1 i2:Addr)(D:ZipApart z TI TO i1 i2 a b):
  zfB P w K (.Tuple elts kk tp) (Itz K a b) [z,TI,TO,i1,i2] z (λi h=>IsZip h z TI TO .none∧IsPair h TI (.ref i1) (.ref i2)∧(∃p q,IsPair h TO p q)∧h.IsListIter i1 a i∧h.IsListIter i2 b i) where
 mem:=by simp
 obj:=λi h st c hc=>by
  obtain⟨hz,hTI,⟨p,q,hTO⟩,⟨o1,e1,c1,d1⟩,o2,e2,c2,d2⟩:=st
  have hc':c=z∨c=TI∨c=TO∨c=i1∨c=i2:=by simpa using hc
  rcases hc' with rfl | rfl | rfl | rfl | rfl
  ·exact⟨_,hz,λv y=>by cases y⟩
  ·exact⟨_,hTI,λv y=>by cases y⟩
  ·exact⟨_,hTO,λv y=>by cases y⟩
  ·exact⟨o1,e1,λv y=>by rw[d1] at y; cases y⟩
  ·exact⟨o2,e2,λv y=>by rw[d2] at y; cases y⟩
 keep:=λi h h' st k=>by
  obtain⟨hz,hTI,⟨p,q,hTO⟩,h1,h2⟩:=st
  exact⟨k z (by simp) _ hz,k TI (by simp) _ hTI,⟨p,q,k TO (by simp) _ hTO⟩,h1.at λo x=>k i1 (by simp) o x,h2.at λo x=>k i2 (by simp) o x⟩
 item:=by
  intro X hP hw hK hc i pins s σ H E I hf st hg
  subst hP hw hK
  obtain⟨xs,ys,x,y,hq,hq2,hx,hy⟩:=hg
  obtain⟨its,rv,p,_⟩:=I.list hq
  obtain⟨jts,rv2,p2,_⟩:=I.list hq2
  obtain⟨u,hu,ru⟩:=rv.get hx
  obtain⟨u2,hu2,ru2⟩:=rv2.get hy
  have hi:i<min its.toArray.size jts.toArray.size:=by
   have z1:=(Vab.mp hu).1
   have z2:=(Vab.mp hu2).1
   have sizes:its.toArray.size=its.length∧jts.toArray.size=jts.length:=⟨by simp,by simp⟩
   omega
  have W:=WalksT.zip2 (prog:=X.prog) (w:=X.w) (A:=X.A) (I.ok.hd hc) z TI TO i1 i2 a b D its.toArray jts.toArray
  obtain⟨s1,s2,s3,s4,s5⟩:=st
  refine W.item i s _ _ hi ⟨s1,s2,s3,s4,s5,p.isList,p2.isList⟩ λT vals h' tk hP hT ht mid k1=>?_
  obtain⟨v1,v2,hv1,hv2,rfl⟩:=hP
  have e1:v1=u:=by
   have z:its[i]?=some v1:=by simpa using hv1
   rw[hu] at z; exact(Option.some.inj z).symm
  have e2:v2=u2:=by
   have z:jts[i]?=some v2:=by simpa using hv2
   rw[hu2] at z; exact(Option.some.inj z).symm
  subst e1 e2
  have sub:∀c∈[z,TO,i1,i2],c∈[z,TI,TO,i1,i2]:=λc hc=>by
   have hc':c=z∨c=TO∨c=i1∨c=i2:=by simpa using hc
   rcases hc' with rfl | rfl | rfl | rfl <;> simp
  have I1:Inv X pins σ (upd H T (.tup [x,y])) { s with heap:=h',toks:=tk }:=zt9 I k1 (λc hc=>hf c (sub c hc)) hT ht (.cons ru (.cons ru2 .nil)) (show 2≤sizeLine from zdK (by decide))
  have tiT:TI≠T:=λq=>by
   have hl:TI<s.heap.objs.size:=Heap.lt_size s2
   rw[q] at hl
   exact absurd (Vau hl hT) (VaC _)
  have neT:∀c∈[z,TI,TO,i1,i2],c≠T:=λc hc q=>by
   have hc':c=TI∨c∈[z,TO,i1,i2]:=by
    have hc2:c=z∨c=TI∨c=TO∨c=i1∨c=i2:=by simpa using hc
    rcases hc2 with rfl | rfl | rfl | rfl | rfl <;> simp
   rcases hc' with rfl | hc'
   ·exact tiT q
   ·exact W.apart i T h' mid (q ▸ hc')
  have hf1:∀c∈[z,TI,TO,i1,i2],zbE X pins (upd H T (.tup [x,y])) c:=λc hc=>⟨by rw[za4 (neT c hc)]; exact(hf c hc).1,(hf c hc).2⟩
  refine⟨.ref T,rfl,W.go elts kk tp i T _ _ _ mid λh2 st2 k2=>?_⟩
  have I2:Inv X pins σ (upd H T (.tup [x,y])) { s with heap:=h2,toks:=tk }:=zna (s:={ s with heap:=h',toks:=tk }) (t':=tk) I1 k2 λc hc=>hf1 c (sub c hc)
  obtain⟨t1,t2,t3,t4,t5,_,_⟩:=st2
  exact⟨.ref T,_,I2,rfl,⟨T,x,y,rfl,I.hok.fresh hT,rfl,λzs hz=>by rw[I.list_inj hz hq]; exact hx,λzs hz=>by rw[I.list_inj hz hq2]; exact hy⟩,⟨t1,t2,t3,t4,t5⟩,λc hc=>(hf1 c hc).1⟩
 done:=by
  intro X hP hw hK hc i pins s σ H E I hf st hg
  subst hP hw hK
  obtain⟨xs,ys,hq,hq2,hx⟩:=hg
  obtain⟨its,rv,p,_⟩:=I.list hq
  obtain⟨jts,rv2,p2,_⟩:=I.list hq2
  have W:=WalksT.zip2 (prog:=X.prog) (w:=X.w) (A:=X.A) (I.ok.hd hc) z TI TO i1 i2 a b D its.toArray jts.toArray
  have hi:i=min its.toArray.size jts.toArray.size:=by rw[Vak,Vak,← rv.length,← rv2.length]; exact hx.symm
  subst hi
  have sub:∀c∈[z,TO,i1,i2],c∈[z,TI,TO,i1,i2]:=λc hc=>by
   have hc':c=z∨c=TO∨c=i1∨c=i2:=by simpa using hc
   rcases hc' with rfl | rfl | rfl | rfl <;> simp
  obtain⟨s1,s2,s3,s4,s5⟩:=st
  exact W.done s _ _ ⟨s1,s2,s3,s4,s5,p.isList,p2.isList⟩ λh' tk k1=>⟨rfl,zna (t':=tk) I k1 λc hc=>hf c (sub c hc)⟩
 self:=λA i s Q E st h=>wpAny_pyIter_zip st.1 h
section
variable {X:Cx}
theorem zsQ {n l m:Nat}(h1:l<n)(h2:m<n):ZipApart (n+4) (n+2) (n+3) n (n+1) l m:=by
 have ne:∀ {i j:Nat},i<j∨j<i→i≠j:=λ{i j} h z=>by omega
 exact⟨ne (by omega),ne (by omega),ne (by omega),ne (by omega),ne (by omega),ne (by omega),ne (by omega),ne (by omega),ne (by omega),ne (by omega),ne (by omega),ne (by omega),ne (by omega),ne (by omega),ne (by omega),ne (by omega),ne (by omega),ne (by omega)⟩
def iZip (K:PySem.W.Frag)(ta:TA):TI:=λσ H R=>ta σ H λvs H1=>∃a b,vs=[.ref a,.ref b]∧(∃xs,SqL K H1 a xs)∧(∃ys,SqL K H1 b ys)∧R (Itz K a b) H1
theorem zo5 {a b:Expr}{ta:TA}{p pos tp:Pos}{elts:List Expr}{kk:Nat}(hg:Gl X "zip")(hm:X.mg "zip"=none)(hv:bootBuiltins "zip"=some (.type "zip"))(ha:PA X [a,b] ta)
  (hs:starEach [a,b] X.env=[(false,eval a X.env),(false,eval b X.env)]:=by rfl)(hs2:starEach [b] X.env=[(false,eval b X.env)]:=by rfl):PI X (.Tuple elts kk tp) (.Call (.Name "zip" p) [a,b] [] pos) (iZip X.K ta):=by
 intro pins s σ H R I h
 refine Call_ (zeJ I hg hm hv (PyProof.Rows.callWith_type1 (thn (ha pos pins s σ H _ I h) λus s1 ⟨vs,H1,I1,r1,q1⟩=>?_) (by rw[hs,hs2]) (by rw[hs2]; rfl)))
 obtain⟨l,m,e,⟨xs,hq⟩,⟨ys,hq2⟩,q⟩:=q1
 subst e
 cases r1 with
 | cons r rr=>
  cases rr with
  | cons r2 rr=>
   cases rr
   cases r
   cases r2
   obtain⟨its,rv,pl,_⟩:=I1.list hq
   obtain⟨jts,rv2,pl2,_⟩:=I1.list hq2
   have h1:l<s1.heap.objs.size:=by
    obtain⟨o,e,_⟩:=pl.isList
    exact Heap.lt_size e
   have h2:m<s1.heap.objs.size:=by
    obtain⟨o,e,_⟩:=pl2.isList
    exact Heap.lt_size e
   refine call_zip_2 pl.isList pl2.isList λh' hz hTI hTO hi1 hi2 hsz hk=>?_
   have I2:Inv X pins σ H1 { s1 with heap:=h' }:=I1.kept (t':=s1.toks) hk
   have D:=zsQ h1 h2
   refine wpAny_pyIter_zip hz ⟨s1.heap.objs.size+4,[s1.heap.objs.size+4,s1.heap.objs.size+2,s1.heap.objs.size+3,s1.heap.objs.size,s1.heap.objs.size+1],_,_,H1,rfl,I2,zpq l m _ _ _ _ _ D,⟨hz,hTI,⟨_,_,hTO⟩,hi1,hi2⟩,λc hc=>?_,q⟩
   have hge:s1.heap.objs.size≤c:=by
    have hc':c=s1.heap.objs.size+4∨c=s1.heap.objs.size+2∨c=s1.heap.objs.size+3∨c=s1.heap.objs.size∨c=s1.heap.objs.size+1:=by simpa using hc
    rcases hc' with rfl | rfl | rfl | rfl | rfl
    ·exact Nat.le_add_right _ _
    ·exact Nat.le_add_right _ _
    ·exact Nat.le_add_right _ _
    ·exact Vaa _
    ·exact Nat.le_add_right _ _
   exact I1.fpOk hge (I1.hok.fresh hge)
end
section
variable {X:Cx}{Z:Zx}{pos:Pos}
theorem zeo {r r':List Addr}{S':Sto}{H':Hp}{n:Nat}{a:Addr}{o:Ob}(hn:r'[n]?=some a)(rel:zaX X.K r' S' H')(eo:lAt S' n=some o):∃xs,SqL X.K H' a xs∧Rps r' H' (zaj o) xs:=by
 obtain⟨eo,eL⟩:=zbo eo
 obtain⟨a',ha,ob⟩:=rel.at eo
 rw[hn] at ha; cases ha
 exact ob.list eL
end
section
variable {X:Cx}{Z:Zx}{pos:Pos}
end
structure Dm (K:PySem.W.Frag)(C:Addr)(m qual:Str)(st:Stmt)(ps:List Str) where
 f:Addr
 fd:FuncData
 F:Fun K m qual st f fd
 m:zhp K C m f
 b:zbD K fd ps []
structure Fm (P:Program)(w:World)(K:PySem.W.Frag)(mg:Str→Option Value)(base:Heap)(k:Nat)(C:Addr)(x:Str)(ps:List Str)(sd:Sd) where
 f:Addr
 fd:FuncData
 ok:zbb P w K mg base (CXE P w) k f fd ps (upF K sd)
 m:zhp K C x f
 b:zbD K fd ps []
def Dm.mk' {P:Program}{w:World}{K:PySem.W.Frag}{mg:Str→Option Value}{base:Heap}{k:Nat}{C:Addr}{x qual:Str}{st:Stmt}{ps:List Str}{sd:Sd}(d:Dm K C x qual st ps)(h:zbb P w K mg base (CXE P w) k d.f d.fd ps (upF K sd)):Fm P w K mg base k C x ps sd:=
 ⟨d.f,d.fd,h,d.m,d.b⟩
theorem zea {P:Program}{w:World}{X:Cx}:ziT (CXE P w) X (λ_ _ _=>False):=λ_ _ _ _ _ _ _ h=>by
 obtain⟨_,_,_,_,_,_,_,_,_,_,_,_,q⟩:=h
 exact q.elim
section
variable {X:Cx}{Z:Zx}
theorem zso {k:Nat}(hr:zaQ k X.A):OpR X (compareOp .In) (upO X.K Z (zbA (wIn 1 false))):=by rw[zb6]; exact do_in 1 (by have:=hr.un; omega)
theorem zrb {k:Nat}(hr:zaQ k X.A):OpR X (compareOp .NotIn) (upO X.K Z (zbA (wIn 1 true))):=by rw[zb6]; exact zvN 1 (by have:=hr.un; omega)
theorem zmg {k:Nat}(hr:zaQ k X.A):OpR X (compareOp .Eq) (upO X.K Z (zbA (zdD 1))):=by rw[zb6]; exact zpZ 1 hr (by have:=hr.un; omega)
end
section
variable {X:Cx}{Z:Zx}{pos:Pos}
theorem zti {k n m:Nat}{a a':Addr}{o o':Ob}{b:Bool}{pins:List (Addr×Obj)}{σ:St}{H:Hp}{s:Shared}{r:List Addr}{S:Sto}(I:Inv X pins σ H s)(rel:Rel X.K Z r S H)(hn:r[n]?=some a)(hm:r[m]?=some a')(eo:lAt S n=some o)(eo':lAt S m=some o')
  (e:eqL (eqN k) (zaj o) (zaj o')=some b)(hu:X.A.units+1+k<cLine):SeqAt.RcNeAt X.A s (.ref a) (.ref a') (!b):=by
 obtain⟨eo,eL⟩:=zbo eo
 obtain⟨eo',eL'⟩:=zbo eo'
 obtain⟨z,hz,ob⟩:=rel.at eo
 rw[hn] at hz; cases hz
 obtain⟨z,hz,ob'⟩:=rel.at eo'
 rw[hm] at hz; cases hz
 obtain⟨xs,sq,pr⟩:=ob.list eL
 obtain⟨ys,sq',pr'⟩:=ob'.list eL'
 obtain⟨is,ri,pl,_⟩:=I.list sq
 obtain⟨js,rj,pl',_⟩:=I.list sq'
 obtain⟨g1,g2⟩:=zgF (A:=X.A.in1) (zdJ k) I (by show X.A.units+1+k<_; omega) pr pr' ri rj e
 by_cases hs:is.toArray.size=js.toArray.size
 ·have q:=SeqAt.RcNeAt.lists (A:=X.A) pl.isList pl'.isList hs (by omega) g1
  have e2:(List.range is.toArray.size).all (zbZ (eqN k) (zaj o) (zaj o'))=b:=by
   rw[← g2,← hs,Nat.min_self]; simp
  rw[e2] at q
  exact q
 ·have q:=SeqAt.RcNeAt.lists_lengths (A:=X.A) pl.isList pl'.isList (by simpa using hs) (by omega)
  have e2:b=false:=by
   rw[← g2,show (is.toArray.size==js.toArray.size)=false by simpa using hs,Bool.and_false]
  rw[e2]
  exact q
theorem zuy (k:Nat){j:Nat}(hr:zaQ j X.A)(hu:X.A.units+1+k<cLine):OpR X (compareOp .NotEq) (upO X.K Z (zdE k)):=by
 intro pins s σ H x y v u Qv I rx ry h
 obtain⟨r,S,dx,dy,Q,rel,px,py,q,ret⟩:=h
 have zaT:∀ {dx dy:D} {x y:V},Rp r H dx x→Rp r H dy y→zan x v→zan y u→zdc k S dx dy=eqN (k+1) dx dy→zdE k dx dy S Q→wpAny (model X.prog X.w) X.A (compareOp .NotEq v u) (EP X pins σ Qv) X.xe s:=λpx py rx ry e q=>by
  refine znX (Z:=Z) (zdJ k) hu pins s σ H _ _ v u Qv I rx ry ⟨r,S,_,_,Q,rel,px,py,?_,ret⟩
  unfold zdE at q
  rw[e] at q
  exact q
 cases px with
 | @ref n a hn=>
  cases py with
  | @ref m a' hm=>
   cases rx
   cases ry
   unfold zdE zdc at q
   dsimp only at q
   split at q
   ·rename_i b e
    split at e
    ·rename_i o o' eo eo'
     exact zti I rel hn hm eo eo' e hu X.prog X.w X.xe _ ⟨.bl (!b),H,I,rfl,ret _ _ _ _ _ Ext.refl rel (.bl (!b)) q⟩
    ·cases e
   ·exact q.elim
  | non=>exact zaT (.ref hn) .non rx ry rfl q
  | bl i=>exact zaT (.ref hn) (.bl i) rx ry rfl q
  | int i=>exact zaT (.ref hn) (.int i) rx ry rfl q
  | str i=>exact zaT (.ref hn) (.str i) rx ry rfl q
  | tup a b c=>exact zaT (.ref hn) (.tup a b c) rx ry rfl q
  | exc a=>exact zaT (.ref hn) (.exc a) rx ry rfl q
 | non=>exact zaT .non py rx ry rfl q
 | bl i=>exact zaT (.bl i) py rx ry rfl q
 | int i=>exact zaT (.int i) py rx ry rfl q
 | str i=>exact zaT (.str i) py rx ry rfl q
 | tup a b c=>exact zaT (.tup a b c) py rx ry rfl q
 | exc a=>exact zaT (.exc a) py rx ry rfl q
theorem zrN {k:Nat}(hr:zaQ k X.A):OpR X (compareOp .NotEq) (upO X.K Z (zbA (zdE 1))):=by rw[zb6]; exact zuy 1 hr (by have:=hr.un; omega)
def zif:W2:=λx y S Q=>match x,y with
 | .ref n,.ref m=>match S[n]?,S[m]? with
  | some (.lst xs),some (.lst ys)=>xs.length+ys.length≤1000∧Q (.ref S.length) (S++[.lst (xs++ys)])
  | _,_=>False
 | _,_=>False
theorem Rps.app {r:List Addr}{H:Hp}:∀ {ds es:List D} {xs ys:List V},Rps r H ds xs→Rps r H es ys→Rps r H (ds++es) (xs++ys)
 | [],es,xs,ys,p,q=>by
  have z:=p.unnil
  subst z
  exact q
 | d::ds,es,xs,ys,p,q=>by
  obtain⟨v,vs,rfl,p1,p2⟩:=p.uncons
  exact Rps.cons p1 (p2.app q)
theorem zoM:OpR X (binaryOp .Add) (upO X.K Z (zbA zif)):=by
 rw[zb6]
 exact ziI zvF λx y H Qv ⟨r,S,dx,dy,Q,rel,px,py,q,ret⟩=>by
  unfold zif at q
  split at q
  ·rename_i n m
   split at q
   ·rename_i xs ys e1 e2
    obtain⟨hl,q⟩:=q
    cases px with
    | @ref _ a hn=>
     cases py with
     | @ref _ a' hm=>
      obtain⟨z,hz,ob⟩:=rel.at e1
      rw[hn] at hz; cases hz
      obtain⟨z,hz,ob'⟩:=rel.at e2
      rw[hm] at hz; cases hz
      obtain⟨us,h1,p1⟩:=ob
      obtain⟨vs,h2,p2⟩:=ob'
      refine⟨a,a',us,vs,rfl,rfl,h1,h2,?_,λp hp=>?_⟩
      ·rw[← p1.1,← p2.1]; exact zdK hl
      ·obtain⟨rel4,x⟩:=rel.push hp (p1.app p2)
       exact ret _ _ _ (.ref S.length) _ x rel4 (zc2 rel.len) q
   ·exact q.elim
  ·exact q.elim
theorem zor {n m:Nat}{S:Sto}{Q:DK}{xs ys:List D}(h1:S[n]?=some (.lst xs))(h2:S[m]?=some (.lst ys))(hl:xs.length+ys.length≤1000)(hq:Q (.ref S.length) (S++[.lst (xs++ys)])):zbA zif (.ref n) (.ref m) S Q:=by
 rw[zb6]
 unfold zif
 simp only[h1,h2]
 exact⟨hl,hq⟩
def MT (X:Cx)(m:Str)(tbl:List (Addr×Sd)):Prop:=∀C sd,(C,sd)∈tbl→Cls X.K C∧∃(f:Addr) (fd:FuncData) (k:Nat) (ps:List Str),zhp X.K C m f∧zbb X.prog X.w X.K X.mg X.base (CXE X.prog X.w) k f fd ps (upF X.K sd)∧zaQ k X.A∧zbD X.K fd ps []
theorem zty {m:Str}:MT X m []:=λ_ _ h=>by cases h
theorem zdQ {C:Addr}{m:Str}{k:Nat}{ps:List Str}{sd:Sd}{tbl:List (Addr×Sd)}(c:Cls X.K C)(G:Fm X.prog X.w X.K X.mg X.base k C m ps sd)(hr:zaQ k X.A)(h:MT X m tbl):MT X m ((C,sd)::tbl):=λC' sd' hm=>by
 rcases Vaf.mp hm with e | e
 ·cases e
  exact⟨c,G.f,G.fd,k,ps,G.m,G.ok,hr,G.b⟩
 ·exact h C' sd' e
theorem zrp {m:Str}{W:St→XK}{o e:Expr}{es:List Expr}{ta:TE}{t:TA}{apos:Pos}{pl:Sem Bool}{tbl:List (Addr×Sd)}(he:PE X o ta)(M:MT X m tbl)(hx:zdu X W)(ha:PA X (e::es) t)(hst:starEach (e::es) X.env=(false,eval e X.env)::starEach es X.env)(hpl:(backTo pos (starEach es X.env)).any (·.1)=false)
  (ht:eval (.Call (.Attribute o m apos) (e::es) [] pos) X.env=(do
   let ov ← eval o X.env
   standAt apos.atName
   let (f,first) ← holding [ov] (getMethod ov m pl)
   callWith pos f first (backTo pos (starEach (e::es) X.env)) (backToKw pos (keywordEach [] X.env)))):
  PE X (.Call (.Attribute o m apos) (e::es) [] pos) (λσ H Q=>ta σ H λx H1=>∃a C dx fs sd,x=.ref a∧H1 a=some (.ins C dx fs)∧(C,sd)∈tbl∧fs.lookup m=none∧t σ H1 λvs H2=>upF X.K sd (x::vs) H2 Q (W σ)):=by
 intro pins s σ H Q I h
 refine PySem.W.methodCall_KW (pl:=pl) (thn (he pins s σ H _ I h) λu s1 ⟨x,H1,I1,rx,a,C,dx,fs,sd,ex,ea,hm',l,q⟩=>?_) ht
 subst ex
 obtain rfl:u=Value.ref a:=rx
 obtain⟨c,f,fd,k,ps,hm,F,hr,hb⟩:=M C sd hm'
 refine zvk I1 ea c hm l ?_
 exact PySem.W.callWith_K (first:=[.ref a]) (h₀:=X.base) I.ok.mod.kin hm.kp (thn (ha pos pins s1 σ H1 _ I1 q) λus s2 ⟨vs,H2,I2,r,q2⟩=>⟨I2.kIn,zoh (us:=.ref a::us) (vs:=.ref a::vs) F hr hb hx I2 (.cons rfl r) q2⟩) hst hpl
@[irreducible] def zkN (tbl:List (Addr×Sd))(m:Str)(ex:Ev→Addr→Sto→Prop)(to:TDE)(t:TDA):TDE:=λdl S Q=>to dl S λd S1=>∃n C fs sd,d=.ref n∧S1[n]?=some (.ins C fs)∧(C,sd)∈tbl∧fs.lookup m=none∧t dl S1 λds S2=>sd (d::ds) S2 Q (ex dl)
theorem zsp {m:Str}{o e:Expr}{es:List Expr}{to:TDE}{t:TDA}{apos:Pos}{pl:Sem Bool}{ex:Ev→Addr→Sto→Prop}{W:St→XK}{tbl:List (Addr×Sd)}(ho:PD X ⟨ex,W⟩ o to)(M:MT X m tbl)(hx:zdu X W)(ha:PDA X ⟨ex,W⟩ (e::es) t)
  (hst:starEach (e::es) X.env=(false,eval e X.env)::starEach es X.env:=by rfl)(hpl:(backTo pos (starEach es X.env)).any (·.1)=false:=by rfl)
  (ht:eval (.Call (.Attribute o m apos) (e::es) [] pos) X.env=(do
   let ov ← eval o X.env
   standAt apos.atName
   let (f,first) ← holding [ov] (getMethod ov m pl)
   callWith pos f first (backTo pos (starEach (e::es) X.env)) (backToKw pos (keywordEach [] X.env))):=by rfl):PD X ⟨ex,W⟩ (.Call (.Attribute o m apos) (e::es) [] pos) (zkN tbl m ex to t):=
 zbc (zrp ho M hx ha hst hpl ht) λσ H Qv ⟨r,dl,S,Q,rs,rel,h,ret⟩=>by
  unfold zkN at h
  refine⟨r,dl,S,_,rs,rel,h,λv H1 r1 d S1 e1 rel1 p1 q1=>?_⟩
  obtain⟨n,C,fs,sd,rfl,eS,hm,hl,q1⟩:=q1
  obtain⟨a,dx,fs',rfl,hr1,eH,fr⟩:=zuH (C:=C) (n:=n) (fs:=fs) rel1.b p1 (by simp only[zde,eS,if_pos])
  exact⟨a,C,dx,fs',sd,rfl,eH,hm,fr.lookup.2 hl,r1,dl,S1,_,rs.ext e1,rel1,q1,λvs H2 r2 ds S2 e2 rel2 p2 q2=>znL (Z:=⟨ex,W⟩) (rs.ext (e1.trans e2)) rel2 (Rps.cons (p1.ext e2) p2) q2 (ret.ext (e1.trans e2))⟩
theorem zu2 {tbl:List (Addr×Sd)}{C:Addr}{m:Str}{ex:Ev→Addr→Sto→Prop}{sd:Sd}{to:TDE}{t:TDA}{dl:Ev}{S S1:Sto}{Q:DK}{n:Nat}{fs:List (Str×D)}(hto:∀K:DK,K (.ref n) S1→to dl S K)(h:S1[n]?=some (.ins C fs))(hm:(C,sd)∈tbl)(hf:fs.lookup m=none)(hq:t dl S1 λds S2=>sd (.ref n::ds) S2 Q (ex dl)):zkN tbl m ex to t dl S Q:=by
 unfold zkN
 exact hto _ ⟨n,C,fs,sd,rfl,h,hm,hf,hq⟩
structure Kx (K:PySem.W.Frag)(C:Addr):Prop where
 cl:Cls K C
 ha:PySem.W.findIn K (.ref C) "__class__"=some (some (.builtin "object.__class__"))
 hn:PySem.W.specialIn K (.builtin "object.__class__") "__get__"=some (some (.builtin "getset_descriptor.__get__"))
 ht:PySem.W.takesIn K (.builtin "object.__class__")=some true
 hm:PySem.W.mroIn K C (.type "object")=some true
def KT (K:PySem.W.Frag)(cv:Value)(ans:List (Addr×Bool)):Prop:=∀C b,(C,b)∈ans→PySem.W.kitOne K (.ref C) cv=some b∧Kx K C
end
section
variable {X:Cx}{Z:Zx}
end
section
variable {n:Nat}{I:Addr}{fp wr:List Addr}{P:Nat→Value→Prop}{St:Nat→Shared→Prop}{prog:Program}{w:World}{A:Around}{s:Shared}{E:Value→Shared→Prop}{G:Array GenState→Array GenState→Prop}
end
section
variable {X:Cx}{Z:Zx}
end
structure zgW (sc around:Scope)(own caps:List Str):Prop where
 kind:sc.kind=.function
 nocell:∀y∈sc.names,y.2≠.cell
 own:∀y∈sc.names,y.2=.local→sc.names.lookup y.1=some .local
 cap:∀y∈caps,sc.names.lookup y=some .free
 out:∀y∈sc.names,y.2=.free→around.names.lookup y.1=some .cell
def zlV (k:Nat)(caps:List Nat)(wi:TI)(gt:TG)(te:TE):TE:=λσ H Q=>wi σ H λJ H1=>∀D,H1 D=none→∃W:Nat→Nat→Hp→Prop,(∃m,W 0 m (upd H1 D (.lst [])))∧∀i m H,W i m H→
 (J.stop i H∧Q (.ref D) H)∨(J.go i H∧∀x H',J.yld i H x H'→∀o:St,o.length=k→gt x (o++zbd caps σ) H' λσ8 H8=>(∃o8:St,o8.length=k∧σ8=o8++zbd caps σ)∧
  te σ8 H8 λy H3=>∃ys,H3 D=some (.lst ys)∧ys.length<sizeLine∧∃m',m'<m∧W (i+1) m' (upd H3 D (.lst (ys++[y]))))
section
variable {X:Cx}{pins:List (Addr×Obj)}{σ:St}{H:Hp}{s:Shared}
theorem zsy {sc:Scope}{own N:List Str}{caps:List Nat}{cl:List (Str×Addr)}{fp:List Addr}{h1:Heap}{m:Str→Option Value}{tk:Nat}(I:Inv X pins σ H s)(cs:zgW sc X.env.scope own N)
  (hN:∀(j:Nat) (y:Str),N[j]?=some y→∃i,caps[j]?=some i∧X.N[i]?=some y)(hlen:caps.length=N.length)
  (c1:∀x c,cl.lookup x=some c→X.env.cells.lookup x=some c)(c2:∀y∈sc.names,y.2=.free→cl.lookup y.1=X.env.cells.lookup y.1)
  (hf:∀b∈fp,zbE X pins H b)(hfo:∀b∈fp,b<s.heap.objs.size)(hns:h1.Ns s.heap.objs.size m)(hk:∀b o,s.heap.get? b=some o→h1.get? b=some o):
  Inv (Cx.comp X sc (own++N) cl s.heap.objs.size s H fp (X.pn++pins)) [] (List.replicate own.length none++zbd caps σ) H { s with heap:=h1,toks:=tk }:=by
 have stk:∀b∈frs X.stack,b=X.env.locals∨b∈X.fs:=λb hb=>Vaf.mp (I.stkSub b hb)
 refine⟨⟨I.ok.mod,cs.kind,I.ok.glob,I.ok.blt,Vaa _,λa b c h1 h2=>I.ok.inj a b c (c1 _ _ h1) (c1 _ _ h2),λy hy=>?_,λ_ _ z=>Bool.noConfusion z,I.ok.hd,I.ok.frames,.inl rfl,λb hb=>⟨Van (hfo b hb),λy c e=>(hf b hb).2.2.2.2.1 y c (c1 _ _ e)⟩,
  I.bs,Vaz I.ok.bsz I.sz,λb o e hb=>?_,λb hb z=>?_,I.stack,I.stkFree⟩,rfl,I.bare,Un.kept hk,⟨m,hns,λi y v e1 e2 e3=>?_⟩,λy c e=>?_,I.hok.fresh (Vaa _),λy c e=>I.freeC y c (c1 _ _ e),λp hp=>?_,I.hok.kept hk,?_⟩
 ·have hfr:sc.names.lookup y=some .free:=zlT cs.nocell hy
  have hm:=zg0 hfr
  obtain⟨c,e⟩:=I.ok.has y (.inl (cs.out _ hm rfl))
  exact⟨c,(c2 _ hm rfl).trans e⟩
 ·rcases (hf b hb).2.2.2.1 with z | z
  ·exact I.ok.noex b o e z
  ·exact absurd (Vau (Heap.lt_size (I.ok.bs b o e).1) z) (VaC _)
 ·rcases stk b z with z | z
  ·exact(hf b hb).2.1 z
  ·exact(hf b hb).2.2.1 z
 ·rcases Nat.lt_or_ge i own.length with hi | hi
  ·rw[Vah (by simpa using hi),List.getElem?_replicate] at e2
   simp[hi] at e2
  ·obtain⟨i,rfl⟩:∃k,i=own.length+k:=⟨i-own.length,by omega⟩
   have e1':N[i]?=some y:=by
    rw[Vaq hi] at e1
    simpa using e1
   have e2:(zbd caps σ)[i]?=some (some v):=by
    rw[Vaq (by simp)] at e2
    simpa using e2
   obtain⟨j,hj,hy⟩:=hN i y e1'
   have e2':σ[j]?=some (some v):=by
    simp only[zbd,Vag,hj,Option.map_some,Option.some.injEq] at e2
    cases q:σ[j]? with
    | none=>rw[q] at e2; cases e2
    | some o=>rw[q] at e2; simp at e2; rw[e2]
   have hfr:sc.names.lookup y=some .free:=cs.cap y (Val e1')
   have hm:=zg0 hfr
   have hce:X.env.scope.names.lookup y=some .cell:=cs.out _ hm rfl
   obtain⟨m0,_,hl⟩:=I.loc
   obtain⟨u,r,l⟩:=hl j y v hy e2' (.inr (.inl hce))
   refine⟨u,r,.inr ⟨zmK hfr,?_⟩⟩
   rcases l with ⟨k,_⟩ | ⟨_,c,ec,hcell⟩
   ·rw[show X.env.kindOf y=some .cell from hce] at k; cases k
   ·exact⟨c,(c2 _ hm rfl).trans ec,hcell.keeps hk⟩
 ·obtain⟨v,z⟩:=I.cell y c (c1 _ _ e)
  exact⟨v,z.keeps hk⟩
 ·have hp':p∈X.pn++pins:=by simpa using hp
  obtain⟨p1,p2,p3,p4,p5⟩:=I.pin p hp'
  refine⟨hk _ _ p1,p2,Van (Heap.lt_size p1),λz=>?_,p5⟩
  rcases stk _ z with z | z
  ·exact p3 z
  ·exact p4 z
 ·simp[zbd,hlen]
end
section
variable {X:Cx}{elt iter:Expr}{elts:List Expr}{kk:Nat}{tp:Pos}{pos:Pos}{sc:Scope}{own N:List Str}{caps:List Nat}{wi:TI}{gt:TG}{te:TE}
theorem zrC {use:Option (Value→Sem Unit)}{Qr:Value→Shared→Prop}(hc:X.calm=true)(cs:zgW sc X.env.scope own N)(hN:∀(j:Nat) (y:Str),N[j]?=some y→∃i,caps[j]?=some i∧X.N[i]?=some y)(hlen:caps.length=N.length)
  (hi:PI X (.Tuple elts kk tp) iter wi)(hg:∀cl C s0 H0 fp pn,PG (Cx.comp X sc (own++N) cl C s0 H0 fp pn) (.Tuple elts kk tp) gt)(he:∀cl C s0 H0 fp pn,PE (Cx.comp X sc (own++N) cl C s0 H0 fp pn) elt te)
  (hs:∀y,foldedSetIterable iter X.env y=pure y)
  {pins:List (Addr×Obj)}{s:Shared}{σ:St}{H:Hp}{Q:VK}{p2:Pos}(I:Inv X pins σ H s)(h:zlV own.length caps wi gt te σ H Q)
  (fin:∀D C s',zn3 X pins σ C Q D s'→compPost (model X.prog X.w) X.A X.xe use Qr (.ref D) C (.ok .next) s'):
  wpAny (model X.prog X.w) X.A (comprehension (.ListComp elt [⟨.Tuple elts kk tp,iter,[],0⟩] sc pos) sc X.env p2 (newList []) false (eval iter X.env) use) Qr X.xe s:=by
 obtain⟨cl,k1,k2,k3⟩:=znu (sc:=sc) (env:=X.env) λy hy hf=>I.ok.has y.1 (.inl (cs.out y hy hf))
 refine wpAny_comprehension_free rfl hs k1 cs.kind cs.own (thn (hi pins s σ H _ I h) λv s1 h1=>thn h1 λitv s2 h2=>?_)
 obtain⟨it,fp,tn,J,H2,e,I2,T,st2,f2,body⟩:=h2
 subst e
 have hfo:∀b∈fp,b<s2.heap.objs.size:=λb hb=>by
  obtain⟨o,e,_⟩:=T.obj _ _ st2 b hb
  exact Heap.lt_size e
 have hD:H2 s2.heap.objs.size=none:=I2.hok.fresh (Vaa _)
 obtain⟨W,⟨m0,w0⟩,turn⟩:=body _ hD
 refine wpAny_newObj_type ?_
 have I3:Inv X pins σ (upd H2 s2.heap.objs.size (.lst [])) { s2 with heap:=s2.heap.push { cls:=.type "list",dict:=none,data:=.seq ([]:List Value).toArray },toks:=s2.toks }:=
  I2.laid (t':=s2.toks) (λb u e=>Heap.get?_push_of_some _ e) (Vaa _) ⟨VaA _,[],0,.nil,Heap.get?_push_size _ rfl⟩
 generalize hs3:({ s2 with heap:=s2.heap.push { cls:=.type "list",dict:=none,data:=.seq ([]:List Value).toArray },toks:=s2.toks }:Shared)=s3 at I3
 have es3:({ s2 with heap:=s2.heap.push { cls:=.type "list",dict:=none,data:=.seq ([]:List Value).toArray } }:Shared)=s3:=hs3
 try rw[es3]
 have f3:∀b∈fp,zbE X pins (upd H2 s2.heap.objs.size (.lst [])) b:=λb hb=>⟨by rw[za4 (Van (hfo b hb))]; exact(f2 b hb).1,(f2 b hb).2⟩
 have up3:∀b o,s2.heap.get? b=some o→s3.heap.get? b=some o:=λb o e=>by rw[← hs3]; exact Heap.get?_push_of_some _ e
 have st3:tn 0 s3.heap:=T.keep _ _ _ st2 λb _ o e=>up3 b o e
 have hfo3:∀b∈fp,b<s3.heap.objs.size:=λb hb=>by
  obtain⟨o,e,_⟩:=T.obj _ _ st3 b hb
  exact Heap.lt_size e
 refine wpAny_newFunctionEnv cs.nocell (λy hy=>by simp at hy) (λh4 ns4 sb4=>?_) cs.kind
 have hk4:∀b o,s3.heap.get? b=some o→h4.get? b=some o:=λb o e=>(sb4.2 b (Van (Heap.lt_size e))).trans (Heap.get?_push_of_some _ e)
 have I4:=zsy (tk:=s3.toks+([]:List (Str×Value)).length) I3 cs hN hlen k2 k3 f3 hfo3 ns4 hk4
 generalize hs4:({ s3 with heap:=h4,toks:=s3.toks+([]:List (Str×Value)).length }:Shared)=s4 at I4 ⊢
 have eh4:s4.heap=h4:=by rw[← hs4]
 have st4:tn 0 s4.heap:=by rw[eh4]; exact T.keep _ _ _ st3 λb _ o e=>hk4 b o e
 have fY:∀ {H':Hp},(∀b∈fp,H' b=none)→∀b∈fp,zbE (Cx.comp X sc (own++N) cl s3.heap.objs.size s3 (upd H2 s2.heap.objs.size (.lst [])) fp (X.pn++pins)) [] H' b:=λhn b hb=>by
  obtain⟨_,z2,z3,z4,z5,z6⟩:=f3 b hb
  refine⟨hn b hb,Van (hfo3 b hb),λz=>?_,.inl hb,λy c e=>z5 y c (k2 _ _ e),λp hp=>z6 p (by simpa using hp)⟩
  rcases Vaf.mp (I3.stkSub b z) with z | z
  ·exact z2 z
  ·exact z3 z
 have loop:codeAny (model X.prog X.w) X.A (.compLoop (.ListComp elt [⟨.Tuple elts kk tp,iter,[],0⟩] sc pos) 0 (.ref it) (.ref s2.heap.objs.size) (compEnvC sc cl s3.heap.objs.size X.env))
   (compPost (model X.prog X.w) X.A X.xe use Qr (.ref s2.heap.objs.size) s3.heap.objs.size) s4:=by
  refine LCp.codeAny_compLoop_pair (λn s'=>∃i o H',o.length=own.length∧Inv (Cx.comp X sc (own++N) cl s3.heap.objs.size s3 (upd H2 s2.heap.objs.size (.lst [])) fp (X.pn++pins)) [] (o++zbd caps σ) H' s'∧tn i s'.heap∧(∀b∈fp,H' b=none)∧W i n H') ?_ m0
   ⟨0,_,_,List.length_replicate,I4,st4,λb hb=>(f3 b hb).1,w0⟩
  rintro n s5 ⟨i,o,H5,ho,I5,st5,fr5,w5⟩
  rcases turn i n H5 w5 with ⟨stop,q⟩ | ⟨go,step⟩
  ·refine thn (T.done (Cx.comp X sc (own++N) cl s3.heap.objs.size s3 (upd H2 s2.heap.objs.size (.lst [])) fp (X.pn++pins)) rfl rfl rfl hc i [] s5 _ H5 _ I5 (fY fr5) st5 stop) λr s6 ⟨hr,I6⟩=>?_
   subst hr
   refine fin _ _ _ ⟨⟨H5,I3.call' I6.os I6.base I6.hok I6.bare (λb hb=>?_),q,I6.free⟩,?_,Nat.ne_of_gt I3.lt,I3.sz,λy c e z=>?_,λp hp z=>?_⟩
   ·obtain⟨_,z2,z3,z4,z5,z6⟩:=f3 b hb
    exact⟨z4,z2,z5,z6⟩
   ·obtain⟨m,hm,_⟩:=I6.loc
    exact⟨m,hm⟩
   ·obtain⟨v,hv⟩:=I3.cell y c e
    exact absurd (z ▸ hv.lt) (VaC _)
   ·exact absurd (z ▸ Heap.lt_size (I3.pin p hp).1) (VaC _)
  ·refine thn (T.item (Cx.comp X sc (own++N) cl s3.heap.objs.size s3 (upd H2 s2.heap.objs.size (.lst [])) fp (X.pn++pins)) rfl rfl rfl hc i [] s5 _ H5 _ I5 (fY fr5) st5 go) λr s6 ⟨u,hr,h6⟩=>?_
   subst hr
   refine wpAny_mono h6 (λ_ s7 ⟨y,H7,I7,r7,y7,st7,fr7⟩=>?_) λ_ _ z=>z
   have I7':=I7.pinned (fY fr7) (T.obj _ _ st7)
   refine wpAny_mono (hg _ _ _ _ _ _ _ s7 _ H7 y u _ I7' r7 (step y H7 y7 o ho)) (λ_ s8 ⟨σ8,H8,I8,⟨o8,ho8,e8⟩,q8⟩=>?_) λ_ _ z=>z.elim
   subst e8
   have stay:∀ {H':Hp} {s':Shared},Inv (Cx.comp X sc (own++N) cl s3.heap.objs.size s3 (upd H2 s2.heap.objs.size (.lst [])) fp (X.pn++pins)) ([]++zd0 fp s7.heap) (o8++zbd caps σ) H' s'→∀m',m'<n→W (i+1) m' H'→
     ∃m,m<n∧∃i o H',o.length=own.length∧Inv (Cx.comp X sc (own++N) cl s3.heap.objs.size s3 (upd H2 s2.heap.objs.size (.lst [])) fp (X.pn++pins)) [] (o++zbd caps σ) H' s'∧tn i s'.heap∧(∀b∈fp,H' b=none)∧W i m H':=λ{H' s'} J m' hm w'=>by
    refine⟨m',hm,i+1,o8,H',ho8,J.unpinned,T.keep _ _ _ st7 λb hb o e=>(J.pin (b,o) (VaB _ (VaB _ (zes hb e)))).1,λb hb=>?_,w'⟩
    obtain⟨o,e,d⟩:=T.obj _ _ st7 b hb
    exact(J.pin (b,o) (VaB _ (VaB _ (zes hb e)))).2.1
   refine wpAny_mono (he _ _ _ _ _ _ _ s8 _ H8 _ I8 q8) (λu2 s10 ⟨z,H10,I10,r10,q10⟩=>?_) λ_ _ z=>z.elim
   obtain⟨ys,hD10,hlt,m',hm,w10⟩:=q10
   refine wpAny_mono (zma (X:=(Cx.comp X sc (own++N) cl s3.heap.objs.size s3 (upd H2 s2.heap.objs.size (.lst [])) fp (X.pn++pins))) _ s10 _ H10 (.ref s2.heap.objs.size) [z] (.ref s2.heap.objs.size) [u2] (λ_ H'=>H'=upd H10 s2.heap.objs.size (.lst (ys++[z]))) I10 rfl (.cons r10 .nil) ⟨_,ys,z,rfl,rfl,hD10,hlt,rfl⟩) (λ_ s11 ⟨_,H11,I11,_,e11⟩=>?_) λ_ _ z=>z.elim
   subst e11
   exact stay I11 m' hm w10
 exact codeAny_compStart_list loop (T.self _ 0 s4 _ _ st4 loop)
theorem ztV (hc:X.calm=true)(cs:zgW sc X.env.scope own N)(hN:caps.map (λi=>X.N[i]?)=N.map some)
  (hi:PI X (.Tuple elts kk tp) iter wi)(hg:∀cl C s0 H0 fp pn,PG (Cx.comp X sc (own++N) cl C s0 H0 fp pn) (.Tuple elts kk tp) gt)(he:∀cl C s0 H0 fp pn,PE (Cx.comp X sc (own++N) cl C s0 H0 fp pn) elt te)
  (hs:∀y,foldedSetIterable iter X.env y=pure y:=by intro _; rfl):PE X (.ListComp elt [⟨.Tuple elts kk tp,iter,[],0⟩] sc pos) (zlV own.length caps wi gt te):=by
 intro pins s σ H Q I h
 rw[eval_ListComp]
 refine zrC (use:=none) hc cs (zed hN).1 (zed hN).2 hi hg he hs I h λD C s' f=>?_
 obtain⟨⟨H',I',q,hC⟩,⟨m,ns⟩,l,o,c,p⟩:=f
 exact⟨m,ns,λh' sb=>⟨.ref D,H',I'.turned (t':=s'.toks) (λb ob hb e=>(sb.2 b hb).trans e) hC l (.inr o) c p,rfl,q⟩⟩
end
section
variable {X:Cx}{Z:Zx}{elt:Expr}{pos:Pos}{sc ar:Scope}{N:List Str}{caps:List Nat}
def zm3 (caps:List Nat)(te:TDE)(k:Nat)(dl:Ev)(d1 d2:D)(S:Sto)(nx:Sto→Prop):Prop:=
 te (some d1::some d2::zbS caps dl) S λy S2=>match S2[k]? with
  | some (.lst ys)=>ys.length<1000∧nx (S2.set k (.lst (ys++[y])))
  | _=>False
theorem zrx {r:List Addr}{H:Hp}{dl:Ev}{σ:St}{d1 d2:D}{v1 v2:V}(h:Rs r H dl σ)(p1:Rp r H d1 v1)(p2:Rp r H d2 v2):Rs r H (some d1::some d2::zbS caps dl) (some v1::some v2::zbd caps σ):=by
 have z:=zn7 (caps:=caps) h p2
 refine⟨by have:=z.1; simp only[Vap] at this ⊢; omega,λi e hi=>?_⟩
 cases i with
 | zero=>simp at hi; subst hi; exact⟨v1,rfl,p1⟩
 | succ i=>exact z.2 i e (by simpa using hi)
end
section
variable {X:Cx}{Z:Zx}{pos:Pos}
@[irreducible] def zkG (is:List Nat)(tl:TDE)(tb:TDS):TDS:=λE dl S=>tl dl S λd S1=>match d with
 | .ref n=>(lAt S1 n).isSome=true∧∃W:Nat→Nat→Ev→Sto→Prop,(∃m,W 0 m dl S1)∧∀k m dl S,W k m dl S→match lAt S n with
  | some o=>match (zaj o)[k]? with
   | some (.tup xs)=>xs.length=is.length∧tb { nx:=λdl' S'=>∃m',m'<m∧W (k+1) m' dl' S',rt:=E.rt,bk:=E.nx,ct:=λdl' S'=>∃m',m'<m∧W (k+1) m' dl' S' } (zd6 is xs dl) S
   | some _=>False
   | none=>E.nx dl S
  | none=>False
 | _=>False
theorem zpM {es:List Expr}{kk:Nat}{tp:Pos}{iter:Expr}{body:List Stmt}{is:List Nat}{tl:TDE}{tb:TDS}(hp:PassesOwn (model X.prog X.w) X.A X.env X.xe)(hc:X.calm=true)(hN:X.N.Nodup)(hn:Nms X es is)
  (hl:PD X Z iter tl)(hb:zbU X Z body tb)(hlen:(assignEach es X.env).length=is.length:=by rfl)(hst:(assignEach es X.env).findIdx? (·.1)=none:=by rfl)
  (hs:∀y,foldedSetIterable iter X.env y=pure y:=by intro _; rfl):PDS X Z (.For (.Tuple es kk tp) iter body [] pos) (zkG is tl tb):=
 zbt (zgH hp hc (ziw hl) (zme hc (zjo hN hn) hlen hst) hb hs) λF σ H ⟨r,dl,S,E,rs,rel,h,ret⟩=>by
  unfold zkG at h
  refine⟨r,dl,S,_,rs,rel,h,λv H1 r1 d S1 x1 rel1 p1 q1=>?_⟩
  cases p1 with
  | @ref n a hn=>
   obtain⟨hsome,W,⟨m0,w0⟩,turn⟩:=q1
   obtain⟨o1,eo1⟩:=VaX.mp hsome
   obtain⟨xs1,sq1,_⟩:=zeo (r:=r1) hn rel1.b eo1
   refine⟨a,rfl,⟨xs1,sq1⟩,λk m σ' H'=>∃r' dl' S',Ext r1 r' H1 H'∧Rs r' H' dl' σ'∧Rel X.K Z r' S' H'∧W k m dl' S',⟨m0,r1,dl,S1,Ext.refl,rs.ext x1,rel1,w0⟩,?_⟩
   rintro k m σ2 H2 ⟨r2,dl2,S2,x2,rs2,rel2,w2⟩
   have q:=turn k m dl2 S2 w2
   split at q
   ·rename_i o eo
    obtain⟨xs,sq,pr⟩:=zeo (r:=r2) (x2.adr _ _ hn) rel2.b eo
    split at q
    ·rename_i ys ey
     obtain⟨v,hv,pv⟩:=pr.get ey
     have go:∀σ' H' r' dl' S',Ext r2 r' H2 H'→Rs r' H' dl' σ'→Rel X.K Z r' S' H'→(∃m',m'<m∧W (k+1) m' dl' S')→∃m',m'<m∧∃r' dl' S',Ext r1 r' H1 H'∧Rs r' H' dl' σ'∧Rel X.K Z r' S' H'∧W (k+1) m' dl' S':=
      λσ' H' r' dl' S' x rs' rel' ⟨m',hm,w'⟩=>⟨m',hm,r',dl',S',x2.trans x,rs',rel',w'⟩
     refine .inr ⟨⟨xs,v,sq,hv⟩,λσ' H'=>∃m',m'<m∧∃r' dl' S',Ext r1 r' H1 H'∧Rs r' H' dl' σ'∧Rel X.K Z r' S' H'∧W (k+1) m' dl' S',λ_ _ z=>z,λv' H' y'=>?_⟩
     obtain⟨eH,y'⟩:=y'
     subst eH
     have ev:v'=v:=by
      have z:=y' xs sq
      rw[hv] at z; exact(Option.some.inj z).symm
     subst ev
     obtain⟨q1,q⟩:=q
     obtain⟨T,vs,rfl,eT,ps⟩:=pv.untup
     exact⟨T,vs,rfl,SqT.of eT,by rw[← ps.1]; exact q1,by rw[← ps.1]; exact q1,r2,_,S2,_,zlp rs2 ps,rel2,q,⟨go,λσ' H' r' dl' S' x rs' rel' z=>ret.nx σ' H' r' dl' S' (x1.trans (x2.trans x)) rs' rel' z,go,ret.rt.ext (x1.trans x2)⟩⟩
    ·exact q.elim
    ·rename_i ey
     have hlen:(zaj o).length≤k:=VaJ.mp ey
     exact .inl ⟨⟨xs,sq,by rw[← pr.1]; exact hlen⟩,ret.nx σ2 H2 r2 dl2 S2 (x1.trans x2) rs2 rel2 q⟩
   ·exact q.elim
  | _=>exact(show False from q1).elim
end
section
variable {X:Cx}{Z:Zx}
end
section
variable {X:Cx}{Z:Zx}{pos:Pos}
def ziu:WC:=λds S Q=>match ds with
 | [.ref n]=>match lAt S n with
  | some o=>match zb9 (zaj o) with
   | some ns=>ns.length<64∧∀ms:List Int,ms.Perm ns→ms.Pairwise (·≤·)→Q (.ref S.length) (S++[.lst (ms.map D.int)])
   | none=>False
  | none=>False
 | _=>False
theorem zfe:∀ {us:List Value} {ms:List Int},IntsAre us ms→zao (ms.map V.int) us
 | _,_,.nil=>.nil
 | _,_,.cons n t h=>.cons ⟨t,rfl⟩ (zfe h)
theorem zsh {us:List Value}:∀ {zs:List (Int×Tok)},us=zs.map (λp=>Value.int p.1 p.2)→IntsAre us (zs.map (·.1)):=by
 intro zs e
 subst e
 induction zs with
 | nil=>exact .nil
 | cons z zs ih=>exact .cons z.1 z.2 ih
theorem zl2:za2 X (.builtin "sorted") (upC X.K Z ziu):=by
 intro pins s σ H xs us Qv I rv h
 obtain⟨r,S,ds,Q,rel,ps,q,ret⟩:=h
 unfold ziu at q
 split at q
 ·rename_i n
  obtain⟨v,vs,rfl,p1,p2⟩:=ps.uncons
  have z:=p2.unnil
  subst z
  split at q
  ·rename_i o eo
   split at q
   ·rename_i ns en
    obtain⟨hl,q⟩:=q
    cases p1 with
    | ref h1=>
     obtain⟨eo,eL⟩:=zbo eo
     obtain⟨a,ha,ob⟩:=rel.at eo
     rw[h1] at ha; cases ha
     obtain⟨ys,sq,pr⟩:=ob.list eL
     obtain⟨u,rfl,ru⟩:=zcx rv
     cases ru
     obtain⟨its,ri,pl,hz⟩:=I.list sq
     obtain⟨zs,hz1,hz2⟩:=zi4 en pr ri
     have ei:its=zs.map (λp=>Value.int p.1 p.2):=by
      have z:=congrArg Array.toList hz1
      simpa [intItems] using z
     have ia:IntsAre its ns:=by
      have z:=zsh ei
      rwa [hz2] at z
     have ll:its.length=ns.length:=by rw[ei,Vac,← hz2,Vac]
     refine sorted_ints pl.isList ia (by omega) λout ms a1 a2 a3=>?_
     obtain⟨e,he⟩:=sortedAll_at s.heap its out
     have hf:H (s.heap.objs.size+1)=none:=I.hok.fresh (Nat.le_succ _)
     obtain⟨rel2,x⟩:=rel.push (ds:=ms.map D.int) (xs:=ms.map V.int) hf (zou ms)
     refine⟨.ref (s.heap.objs.size+1),_,I.laid (t':=s.toks) (λb o e=>sortedAll_old e) (Nat.le_succ _) (show zbm X.prog X.w _ _ _ (.lst (ms.map V.int)) from ⟨?_,out.toList,e,zfe a1,by rw[Array.toArray_toList]; exact he⟩),rfl,ret _ _ _ (.ref S.length) _ x rel2 (zc2 rel.len) (q ms a2 a3)⟩
     rw[Vac,a2.length_eq]
     exact zdK (by omega)
   ·exact q.elim
  ·exact q.elim
 ·exact q.elim
theorem zlJ {n:Nat}{S:Sto}{Q:DK}{o:Ob}{ns:List Int}(h:lAt S n=some o)(e:zb9 (zaj o)=some ns)(hl:ns.length<64)(hq:∀ms:List Int,ms.Perm ns→ms.Pairwise (·≤·)→Q (.ref S.length) (S++[.lst (ms.map D.int)])):irr ziu [.ref n] S Q:=by
 rw[zdp]
 unfold ziu
 simp only[h,e]
 exact⟨hl,hq⟩
def wIsB:W2:=λx y S Q=>match x,y with
 | .bl a,.bl b=>Q (.bl (a==b)) S
 | _,_=>False
theorem zqm:OpR X (compareOp .Is) (upO X.K Z wIsB):=by
 intro pins s σ H x y v u Qv I rx ry h
 obtain⟨r,S,dx,dy,Q,rel,px,py,q,ret⟩:=h
 unfold wIsB at q
 split at q
 ·rename_i a b
  cases px
  cases py
  cases rx
  cases ry
  exact is_bool ⟨.bl _,H,I,rfl,ret _ _ _ _ _ Ext.refl rel (.bl _) q⟩
 ·exact q.elim
end
section
variable {X:Cx}{Z:Zx}{elt:Expr}{pos:Pos}{sc ar:Scope}{N:List Str}{caps:List Nat}
@[irreducible] def zgj (caps:List Nat)(ta:TDA)(te:TDE):TDE:=λdl S Q=>ta dl S λds S1=>match ds with
 | [.ref n,.ref n']=>((lAt S1 n).isSome=true∧(lAt S1 n').isSome=true)∧∃W:Nat→Nat→Sto→Prop,(∃m,W 0 m (S1++[.lst []]))∧∀k m S2,W k m S2→match lAt S2 n,lAt S2 n' with
  | some o,some o'=>match (zaj o)[k]?,(zaj o')[k]? with
   | some x,some y=>zm3 caps te S1.length dl x y S2 λS3=>∃m',m'<m∧W (k+1) m' S3
   | _,_=>k=min (zaj o).length (zaj o').length∧Q (.ref S1.length) S2
  | _,_=>False
 | _=>False
theorem zsM {ta:TDA}{te:TDE}{σ:St}{H:Hp}{Qv:VK}(h:up X.K Z (zgj caps ta te) σ H Qv):
  zlV 2 caps (iZip X.K (upA X.K Z ta)) (gTup X.K 2 (gAll [0,1])) (up X.K Z0 te) σ H Qv:=by
 obtain⟨r,dl,S,Q,rs,rel,h,ret⟩:=h
 unfold zgj at h
 refine⟨r,dl,S,_,rs,rel,h,λvs H1 r1 ds S1 x1 rel1 p1 q1=>?_⟩
 split at q1
 ·rename_i n n'
  obtain⟨v,vs',rfl,p2,p3⟩:=p1.uncons
  obtain⟨v',vs2,rfl,p4,p5⟩:=p3.uncons
  have z:=p5.unnil
  subst z
  cases p2 with
  | @ref n a hr=>
   cases p4 with
   | @ref n' a' hr'=>
    obtain⟨⟨hsome,hsome'⟩,W,⟨m0,w0⟩,turn⟩:=q1
    obtain⟨o1,eo1⟩:=VaX.mp hsome
    obtain⟨o2,eo2⟩:=VaX.mp hsome'
    obtain⟨xs1,sq1,_⟩:=zeo (r:=r1) hr rel1.b eo1
    obtain⟨ys1,sq2,_⟩:=zeo (r:=r1) hr' rel1.b eo2
    refine⟨a,a',rfl,⟨xs1,sq1⟩,⟨ys1,sq2⟩,λD0 hD=>?_⟩
    obtain⟨rel2,x2⟩:=rel1.b.push (ds:=[]) (xs:=[]) hD Rps.nil
    refine⟨λk m H'=>∃r' S',Ext (r1++[D0]) r' (upd H1 D0 (.lst [])) H'∧zaX X.K r' S' H'∧W k m S',⟨m0,_,_,Ext.refl,rel2,w0⟩,?_⟩
    rintro k m H2 ⟨r2,S2,x3,rb2,w2⟩
    have ha2:r2[S1.length]?=some D0:=x3.adr _ _ (zkO rel1.len)
    have hr2:r2[n]?=some a:=(x2.trans x3).adr _ _ hr
    have hr2':r2[n']?=some a':=(x2.trans x3).adr _ _ hr'
    have q:=turn k m S2 w2
    split at q
    ·rename_i o o' eo eo'
     obtain⟨xs,sq,pr⟩:=zeo (r:=r2) hr2 rb2 eo
     obtain⟨ys,sq',pr'⟩:=zeo (r:=r2) hr2' rb2 eo'
     split at q
     ·rename_i y y2 ey ey2
      obtain⟨v,hv,pv⟩:=pr.get ey
      obtain⟨u,hvu,pu⟩:=pr'.get ey2
      refine .inr ⟨⟨xs,ys,v,u,sq,sq',hv,hvu⟩,λv' H' y' o8 ho8=>?_⟩
      obtain⟨T,w,w2',rfl,hT,rfl,hw,hw2⟩:=y'
      have ew:w=v:=by
       have z:=hw xs sq
       rw[hv] at z; exact(Option.some.inj z).symm
      have ew2:w2'=u:=by
       have z:=hw2 ys sq'
       rw[hvu] at z; exact(Option.some.inj z).symm
      subst ew ew2
      obtain⟨c1,c2,rfl⟩:∃c1 c2,o8=[c1,c2]:=by
       match o8,ho8 with
       | [c1,c2],_=>exact⟨c1,c2,rfl⟩
      have x4:Ext r2 r2 H2 (upd H2 T (.tup [w,w2'])):=znC hT
      have rb3:=rb2.same (zb8 (o:=.tup [w,w2']) hT)
      have rs3:=rs.ext (x1.trans (x2.trans (x3.trans x4)))
      refine⟨T,[w,w2'],rfl,SqT.of zb5,rfl,rfl,⟨[some w,some w2'],rfl,rfl⟩,?_⟩
      have rsY:=zrx (caps:=caps) rs3 (pv.ext x4) (pu.ext x4)
      refine⟨r2,_,S2,_,rsY,⟨rb3,λ_ _ _ _ _ _ _ _ _ z=>z.elim⟩,q,λz H4 r4 dz S4 x6 rel4 p4 q4=>?_⟩
      split at q4
      ·rename_i ys eys
       obtain⟨hl,m',hm,q4⟩:=q4
       have ha4:r4[S1.length]?=some D0:=x6.adr _ _ ha2
       obtain⟨zs,hD4,pz⟩:=rel4.b.ob _ _ _ ha4 eys
       obtain⟨rel5,x7⟩:=rel4.b.set ha4 eys (pz.snoc p4)
       exact⟨zs,hD4,by rw[← pz.1]; exact zjf (VaW hl),m',hm,r4,_,x3.trans (x4.trans (x6.trans x7)),rel5,q4⟩
      ·exact q4.elim
     ·obtain⟨hk,q⟩:=q
      exact .inl ⟨⟨xs,ys,sq,sq',by rw[← pr.1,← pr'.1]; exact hk.symm⟩,ret _ H2 r2 _ S2 (x1.trans (x2.trans x3)) ⟨rb2,rel.xw.ext (x1.trans (x2.trans x3))⟩ (.ref ha2) q⟩
    ·exact q.elim
 ·exact q1.elim
theorem zqa {ta:TDA}{te:TDE}{x1 x2:Str}{p1 p2 p pos2 tp:Pos}{kk:Nat}{a b:Expr}(har:X.env.scope=ar)(hc:X.calm=true)(cs:zgW sc ar [x1,x2] N)(hl1:sc.names.lookup x1=some .local)(hl2:sc.names.lookup x2=some .local)
  (hN:caps.map (λi=>X.N[i]?)=N.map some)(hnd:([x1,x2]++N).Nodup)(hg:Gl X "zip")(hm:X.mg "zip"=none)(hv:bootBuiltins "zip"=some (.type "zip"))(ha:PDA X Z [a,b] ta)
  (he:∀cl C s0 H0 fp pn,PD (Cx.comp X sc ([x1,x2]++N) cl C s0 H0 fp pn) Z0 elt te)
  (hse:starEach [a,b] X.env=[(false,eval a X.env),(false,eval b X.env)]:=by rfl)(hse2:starEach [b] X.env=[(false,eval b X.env)]:=by rfl)(hs:∀y,foldedSetIterable (.Call (.Name "zip" p) [a,b] [] pos2) X.env y=pure y:=by intro _; rfl):
  PD X Z (.ListComp elt [⟨.Tuple [.Name x1 p1,.Name x2 p2] kk tp,.Call (.Name "zip" p) [a,b] [] pos2,[],0⟩] sc pos) (zgj caps ta te):=by
 subst har
 refine zbc (ztV hc cs hN (gt:=gTup X.K 2 (gAll [0,1])) (te:=up X.K Z0 te) (zo5 hg hm hv ha hse hse2) (λcl C s0 H0 fp pn=>?_) he hs) λ_ _ _ h=>zsM h
 have l1:(Cx.comp X sc ([x1,x2]++N) cl C s0 H0 fp pn).env.scope.names.lookup x1=some .local:=lookup_relabel_local hl1
 have l2:(Cx.comp X sc ([x1,x2]++N) cl C s0 H0 fp pn).env.scope.names.lookup x2=some .local:=lookup_relabel_local hl2
 exact zme hc (zjo hnd (.cons rfl (.inl l1) (.inr l1) (.cons rfl (.inl l2) (.inr l2) .nil))) rfl rfl
end
section
variable {X:Cx}{Z:Zx}{pos:Pos}
def dPar (i j:Nat)(ta:TDA):TDS:=λE dl S=>ta dl S λds S1=>match ds with
 | [v,w]=>E.nx ((dl.set i (some v)).set j (some w)) S1
 | _=>False
theorem zsw {i j:Nat}{x y:Str}{a b:Expr}{ta:TDA}{px py pt:Pos}{kt k2 pt2}(hc:X.calm=true)(hN:X.N.Nodup)(hi:X.N[i]?=some x)(hj:X.N[j]?=some y)(hij:i≠j)
  (hx:X.env.scope.names.lookup x=some .local)(hy:X.env.scope.names.lookup y=some .local)(ha:PDA X Z [a,b] ta)
  (hw:swappedStores [.Tuple [.Name x px,.Name y py] kt pt] (.Tuple [a,b] k2 pt2) X.env=pure (some [x,y]):=by rfl)
  (hs:swapsWithSole [.Tuple [.Name x px,.Name y py] kt pt] (.Tuple [a,b] k2 pt2) pos.line X.env=pure false:=by rfl):
  PDS X Z (.Assign [.Tuple [.Name x px,.Name y py] kt pt] (.Tuple [a,b] k2 pt2) pos) (dPar i j ta):=
 zbt (zqr hc hN hi hj hij hx hy ha hw hs) λF σ H ⟨r,dl,S,E,rs,rel,h,ret⟩=>by
  refine⟨r,dl,S,_,rs,rel,h,λvs H1 r1 ds S1 x1 rel1 p1 q1=>?_⟩
  split at q1
  ·rename_i v w
   obtain⟨v1,vs1,rfl,p2,p3⟩:=p1.uncons
   obtain⟨v2,vs2,rfl,p4,p5⟩:=p3.uncons
   have z:=p5.unnil
   subst z
   exact⟨v1,v2,rfl,ret.nx _ H1 r1 _ S1 x1 (((rs.ext x1).set i p2).set j p4) rel1 q1⟩
  ·exact q1.elim
end
section
variable {n:Nat}{I:Addr}{fp wr:List Addr}{P:Nat→Value→Prop}{St:Nat→Shared→Prop}{prog:Program}{w:World}{A:Around}{s:Shared}{E:Value→Shared→Prop}{G:Array GenState→Array GenState→Prop}
end
section
variable {X:Cx}{Z:Zx}{pos:Pos}
end
section
variable {X:Cx}{Z:Zx}{pos:Pos}
theorem Rps.ins {r:List Addr}{H:Hp}{y:D}{w:V}(hy:Rp r H y w):∀ {ds:List D} {xs:List V} (k:Nat),Rps r H ds xs→Rps r H (ds.take k++y::ds.drop k) (xs.take k++w::xs.drop k)
 | [],xs,k,h=>by
  have z:=h.unnil
  subst z
  simpa using Rps.cons hy h
 | d::ds,xs,0,h=>Rps.cons hy h
 | d::ds,xs,k+1,h=>by
  obtain⟨v,vs,rfl,p1,p2⟩:=h.uncons
  exact Rps.cons p1 (Rps.ins hy k p2)
theorem zs2:MtM X "list.insert" (λx vs H Q=>∃l xs i y,x=.ref l∧vs=[.int i,y]∧H l=some (.lst xs)∧0≤i∧i≤xs.length∧xs.length<1000∧Q .non (upd H l (.lst (xs.take i.toNat++y::xs.drop i.toNat)))):=by
 intro pins s σ H x vs v us Q I rx rv h
 obtain⟨l,xs,i,y,rfl,rfl,hH,h0,h1,h2,q⟩:=h
 cases rx
 obtain⟨t,u,rfl,ru⟩:∃t u,us=[Value.int i t,u]∧zan y u:=by
  cases rv with
  | cons p q=>
   obtain⟨t,rfl⟩:=p
   cases q with
   | cons p' q'=>
    cases q'
    exact⟨t,_,rfl,p'⟩
 obtain⟨z,its,n,r,hl,e⟩:=I.lstM hH
 have fit:Builtin.List.listFitsIndex i=true:=fitsIndex_both (by omega) (by omega)
 refine call_meets PySem.F.slot_list_insert ⟨_,e,rfl⟩ PySem.F.entry_list_insert (PySem.F.args_list_insert_3 _ _ _) (PySem.AutoSeq1.list_insert_list_int_val_1 l its.toArray n i t u (by simp[fit]) (by rw[Vak]; omega)) ⟨e,?_⟩
 refine⟨.non,_,I.lset (t':=s.toks) (ys:=xs.take i.toNat++y::xs.drop i.toNat) (its':=its.take i.toNat++u::its.drop i.toNat) hH e ?_ ((r.take _).append (.cons ru (r.drop _))) ?_,rfl,q⟩
 ·have k1:(if i<0 then (i+(its.toArray.size:Int)).toNat else min i.toNat its.toArray.size)=i.toNat:=by
   rw[if_neg (by omega),Vak]
   omega
  show (its.toArray.extract 0 (if i<0 then (i+(its.toArray.size:Int)).toNat else min i.toNat its.toArray.size)).push u++its.toArray.extract (if i<0 then (i+(its.toArray.size:Int)).toNat else min i.toNat its.toArray.size)=_
  rw[k1]
  apply Array.toList_inj.mp
  simp
  refine Va1 (?_:_≤_)
  simp
 ·rw[Vad,Vap,Vaw,VaY]
  exact zdK (by omega)
@[irreducible] def zkF (to:TDE)(t:TDA):TDE:=λdl S Q=>to dl S λd S1=>match d with
 | .ref n=>(lAt S1 n).isSome=true∧t dl S1 λds S2=>match ds with
  | [.int i,y]=>match S2[n]? with
   | some (.lst xs)=>(0≤i∧i≤xs.length∧xs.length<1000)∧Q .non (S2.set n (.lst (xs.take i.toNat++y::xs.drop i.toNat)))
   | _=>False
  | _=>False
 | _=>False
theorem zsA {to:TDE}{t:TDA}{dl:Ev}{S S1 S2:Sto}{Q:DK}{n:Nat}{i:Int}{y:D}{xs ys:List D}(hto:∀K:DK,K (.ref n) S1→to dl S K)(h:S1[n]?=some (.lst ys))(ht:∀K:List D→Sto→Prop,K [.int i,y] S2→t dl S1 K)(h2:S2[n]?=some (.lst xs))(hi:0≤i∧i≤xs.length∧xs.length<1000)(hq:Q .non (S2.set n (.lst (xs.take i.toNat++y::xs.drop i.toNat)))):zkF to t dl S Q:=by
 unfold zkF
 refine hto _ ⟨by rw[zaU h rfl]; rfl,ht _ ?_⟩
 simp only[h2]
 exact⟨hi,hq⟩
theorem zr4 {o e e2:Expr}{to:TDE}{t:TDA}{apos cpos:Pos}(ho:PD X Z o to)(ha:PDA X Z [e,e2] t)(hbase:attributeBase o "insert" X.env (eval o X.env)=eval o X.env:=by rfl)
  (hfew:((backTo cpos (starEach [e,e2] X.env)).all (λx=>!x.1)&&(backToKw cpos (keywordEach [] X.env)).all (λx=>x.1.isSome)
  &&decide ([e,e2].length+([]:List Keyword).length+(if ([]:List Keyword).isEmpty then 0 else 1)<30))=true:=by rfl)
  (hline:(apos.endLine==cpos.line)=true:=by rfl)(hs:starEach [e,e2] X.env=(false,eval e X.env)::starEach [e2] X.env:=by rfl)(hplain:(backTo cpos (starEach [e2] X.env)).any (·.1)=false:=by rfl):
  PD X Z (.Call (.Attribute o "insert" apos) [e,e2] [] cpos) (zkF to t):=
 zbc (zmv (T:="list") PySem.F.plainAttrs_list PySem.F.slot_list_insert PySem.F.type_list_insert zs2 ho ha hbase hfew hline hs hplain) λσ H Qv ⟨r,dl,S,Q,rs,rel,h,ret⟩=>by
  unfold zkF at h
  refine⟨r,dl,S,_,rs,rel,h,λv H1 r1 d S1 e1 rel1 p1 q1=>?_⟩
  cases p1 with
  | @ref n a hn=>
   obtain⟨hsome,q1⟩:=q1
   obtain⟨o1,eo⟩:=VaX.mp hsome
   obtain⟨eo,eL⟩:=zbo eo
   obtain⟨a',ha',ob⟩:=rel1.at eo
   rw[hn] at ha'; cases ha'
   obtain⟨xs,sq,_⟩:=ob.list eL
   refine⟨.inl ⟨rfl,xs,sq⟩,r1,dl,S1,_,rs.ext e1,rel1,q1,λvs H2 r2 ds S2 e2 rel2 p2 q2=>?_⟩
   split at q2
   ·rename_i i y
    obtain⟨v2,vs',rfl,p3,p4⟩:=p2.uncons
    obtain⟨v3,vs3,rfl,p5,p6⟩:=p4.uncons
    have z:=p6.unnil
    subst z
    cases p3
    split at q2
    ·rename_i zs ez
     obtain⟨⟨h0,h1,h2⟩,q⟩:=q2
     have hn2:=e2.adr _ _ hn
     obtain⟨ys,hH,pr⟩:=rel2.b.ob n a _ hn2 ez
     obtain⟨rel3,x3⟩:=rel2.set hn2 ez (Rps.ins p5 i.toNat pr)
     exact⟨a,ys,i,v3,rfl,rfl,hH,h0,by rw[← pr.1]; exact h1,by rw[← pr.1]; exact h2,ret .non _ r2 .non _ (e1.trans (e2.trans x3)) rel3 .non q⟩
    ·exact q2.elim
   ·exact q2.elim
  | _=>exact(show False from q1).elim
theorem zoI {P:Sto→D→D→Prop}{A:Around}{H:Hp}{s:Shared}{r:List Addr}{S:Sto}{ds es:List D}{xs ys:List V}{is js:List Value}(f:∀ {d e:D} {v1 v2:V} {u1 u2:Value},P S d e→Rp r H d v1→Rp r H e v2→zan v1 u1→zan v2 u2→SeqAt.EqAt A s u1 u2 true)(pr:Rps r H ds xs)(pr':Rps r H es ys)(ri:zao xs is)(rj:zao ys js)(hall:∀(k:Nat) (d e:D),ds[k]?=some d→es[k]?=some e→P S d e):
  ∀(k:Nat) (h1:k<is.toArray.size) (h2:k<js.toArray.size),SeqAt.EqAt A s is.toArray[k] js.toArray[k] true:=λk h1 h2=>by
 have l3:=ri.length
 have l4:=rj.length
 have k1:k<is.length:=by simpa using h1
 have k2:k<js.length:=by simpa using h2
 obtain⟨d,hd,pd⟩:=pr.get' (Vae (l:=xs) (i:=k) (by omega))
 obtain⟨e,he,pe⟩:=pr'.get' (Vae (l:=ys) (i:=k) (by omega))
 obtain⟨u1,hu1,ru1⟩:=ri.get (Vae (l:=xs) (i:=k) (by omega))
 obtain⟨u2,hu2,ru2⟩:=rj.get (Vae (l:=ys) (i:=k) (by omega))
 have z1:is.toArray[k]=u1:=by
  rw[Vae k1] at hu1
  simpa using Option.some.inj hu1
 have z2:js.toArray[k]=u2:=by
  rw[Vae k2] at hu2
  simpa using Option.some.inj hu2
 rw[z1,z2]
 exact f (hall k d e hd he) pd pe ru1 ru2
end
section
variable {X:Cx}{Z:Zx}{elt iter:Expr}{elts:List Expr}{kk:Nat}{tp pos:Pos}{sc ar:Scope}{own N:List Str}{caps:List Nat}{wi:TI}{gt:TG}
end
section
variable {X:Cx}{Z:Zx}
def zne:WC:=λds S Q=>match ds with
 | [.bl b]=>Q (.int (if b then 1 else 0)) S
 | _=>False
theorem zvt:za2 X (.type "int") (upC X.K Z zne):=by
 intro pins s σ H xs us Qv I rv h
 obtain⟨r,S,ds,Q,rel,ps,q,ret⟩:=h
 unfold zne at q
 split at q
 ·rename_i b
  obtain⟨v,vs,rfl,p1,p2⟩:=ps.uncons
  have z:=p2.unnil
  subst z
  cases p1
  obtain⟨u,rfl,ru⟩:=zcx rv
  cases ru
  exact call_int_bool ⟨.int _,H,I.tok _,⟨_,rfl⟩,ret _ _ _ _ _ Ext.refl rel (.int _) q⟩
 ·exact q.elim
end
section
variable {X:Cx}{Z:Zx}{pos:Pos}
def zpD (i:Nat)(ta:TDA)(tb:TDS):TDS:=λE dl S=>ta dl S λds S1=>match ds with
 | [.int lo,.int hi]=>(-(2^62)≤lo∧lo<2^62∧-(2^62)≤hi∧hi<2^62)∧∃W:Nat→Ev→Sto→Prop,W 0 dl S1∧∀k dl S,W k dl S→
   if k<(hi-lo).toNat then tb { nx:=λdl' S'=>W (k+1) dl' S',rt:=E.rt,bk:=E.nx,ct:=λdl' S'=>W (k+1) dl' S' } (dl.set i (some (.int (lo+k)))) S else E.nx dl S
 | _=>False
theorem zpm {i:Nat}{x:Str}{pos2 pos' p:Pos}{a b:Expr}{body:List Stmt}{ta:TDA}{tb:TDS}(hp:PassesOwn (model X.prog X.w) X.A X.env X.xe)(hc:X.calm=true)(hN:X.N.Nodup)(hi:X.N[i]?=some x)(hx:Loc X.env.scope x)
  (hg:Gl X "range")(hm:X.mg "range"=none)(ha:PDA X Z [a,b] ta)(hb:zbU X Z body tb)(hf:X.fn x=true∨X.env.scope.names.lookup x=some .local:=by first | exact .inl rfl | exact .inr rfl | assumption)
  (hs:∀y,foldedSetIterable (.Call (.Name "range" p) [a,b] [] pos) X.env y=pure y:=by intro _; rfl)(hst:starEach [a,b] X.env=[(false,eval a X.env),(false,eval b X.env)]:=by rfl)(hst2:starEach [b] X.env=[(false,eval b X.env)]:=by rfl):
  PDS X Z (.For (.Name x pos') (.Call (.Name "range" p) [a,b] [] pos) body [] pos2) (zpD i ta tb):=
 zbt (zgH hp hc (zs4 hg hm ha hst hst2) (zdS hN hi hx hf) hb hs) λF σ H ⟨r,dl,S,E,rs,rel,h,ret⟩=>by
  refine⟨r,dl,S,_,rs,rel,h,λvs H1 r1 ds S1 x1 rel1 p1 q1=>?_⟩
  split at q1
  ·rename_i lo hi
   obtain⟨v,vs',rfl,p2,p3⟩:=p1.uncons
   obtain⟨v2,vs2,rfl,p4,p5⟩:=p3.uncons
   have z:=p5.unnil
   subst z
   cases p2
   cases p4
   obtain⟨bds,W,w0,turn⟩:=q1
   refine⟨lo,hi,rfl,bds,λk m σ' H'=>m=(hi-lo).toNat-k∧∃r' dl' S',Ext r1 r' H1 H'∧Rs r' H' dl' σ'∧Rel X.K Z r' S' H'∧W k dl' S',⟨(hi-lo).toNat,by simp,r1,dl,S1,Ext.refl,rs.ext x1,rel1,w0⟩,?_⟩
   rintro k m σ2 H2 ⟨em,r2,dl2,S2,x2,rs2,rel2,w2⟩
   have q:=turn k dl2 S2 w2
   split at q
   ·rename_i hk
    have go:∀σ' H' r' dl' S',Ext r2 r' H2 H'→Rs r' H' dl' σ'→Rel X.K Z r' S' H'→W (k+1) dl' S'→∃r' dl' S',Ext r1 r' H1 H'∧Rs r' H' dl' σ'∧Rel X.K Z r' S' H'∧W (k+1) dl' S':=
     λσ' H' r' dl' S' x rs' rel' w'=>⟨r',dl',S',x2.trans x,rs',rel',w'⟩
    have pk:Rp r2 H2 (.int (lo+(k:Int))) (.int (lo+(k:Int))):=.int _
    refine .inr ⟨hk,λσ' H'=>∃r' dl' S',Ext r1 r' H1 H'∧Rs r' H' dl' σ'∧Rel X.K Z r' S' H'∧W (k+1) dl' S',λσ' H' z=>⟨(hi-lo).toNat-(k+1),by omega,rfl,z⟩,λv' H' y'=>?_⟩
    obtain⟨eH,y'⟩:=y'
    subst eH
    subst y'
    exact⟨r2,_,S2,_,rs2.set i pk,rel2,q,go,λσ' H' r' dl' S' x rs' rel' z=>ret.nx σ' H' r' dl' S' (x1.trans (x2.trans x)) rs' rel' z,go,ret.rt.ext (x1.trans x2)⟩
   ·rename_i hk
    exact .inl ⟨by show (hi-lo).toNat≤k; omega,ret.nx σ2 H2 r2 dl2 S2 (x1.trans x2) rs2 rel2 q⟩
  ·exact q1.elim
end
end L3
namespace L2
open PySem PySem.Spec PyProof.Rows
section
variable {X:Cx}{tg:Expr}
end
end L2
namespace L3
open PySem PySem.Spec PyProof.Rows L2
section
variable {X:Cx}{Z:Zx}{pos:Pos}
end
end L3
set_option Elab.async false
set_option linter.all false
set_option maxRecDepth 100000
set_option maxHeartbeats 40000000
namespace Mine
open PySem PySem.Spec PyProof.Rows L2 L3
theorem fsc {N P:List Str}{sc:Scope}(a:sc.kind=.function:=by rfl)(b:sc.isCoroutine=false:=by rfl)(c:sc.isGenerator=false:=by rfl)(d:N.Nodup:=by decide +kernel)(e:N.take P.length=P:=by rfl)(f:∀x∈P,sc.names.lookup x=some .local∨sc.names.lookup x=some .cell:=by decide +kernel)(g:∀y∈sc.names,y.2≠.free:=by decide +kernel):zaA N P sc:=⟨a,b,c,d,e,f,g⟩
theorem csc {sc ar:Scope}{x:Str}{caps:List Str}(a:sc.kind=.function:=by rfl)(b:∀y∈sc.names,y.2≠.cell:=by decide +kernel)(c:∀y∈sc.names,y.2=.local→sc.names.lookup y.1=some .local:=by decide +kernel)(d:sc.names.lookup x=some .local:=by rfl)(e:∀y∈caps,sc.names.lookup y=some .free:=by decide +kernel)(f:∀y∈sc.names,y.2=.free→ar.names.lookup y.1=some .cell:=by decide +kernel):zc1 sc ar x caps:=⟨a,b,c,d,e,f⟩
theorem cscG {sc ar:Scope}{own caps:List Str}(a:sc.kind=.function:=by rfl)(b:∀y∈sc.names,y.2≠.cell:=by decide +kernel)(c:∀y∈sc.names,y.2=.local→sc.names.lookup y.1=some .local:=by decide +kernel)(e:∀y∈caps,sc.names.lookup y=some .free:=by decide +kernel)(f:∀y∈sc.names,y.2=.free→ar.names.lookup y.1=some .cell:=by decide +kernel):zgW sc ar own caps:=⟨a,b,c,e,f⟩
abbrev Ln (sp:Sd)(n:Nat):Prop:=∀ds S Q ex,sp ds S Q ex→ds.length=n
theorem zam {X:Cx}{x:Str}{p pos:Pos}{e:Expr}{es:List Expr}{t:TDA}{k j:Nat}{ps:List Str}{sd:Sd}{ex:Ev→Addr→Sto→Prop}(G:Fk X.prog X.w X.K X.mg X.base k x ps sd)(hr:zaQ j X.A)(ha:PDA X ⟨ex,Z0.w⟩ (e::es) t)(hk:k≤j:=by decide)(hg:Gl X x:=by rfl)
  (hdb:(x==("__debug__":Str))=false:=by decide)(he:starEach (e::es) X.env=(false,eval e X.env)::starEach es X.env:=by rfl)(hpl:(backTo pos (starEach es X.env)).any (·.1)=false:=by rfl):PD X ⟨ex,Z0.w⟩ (.Call (.Name x p) (e::es) [] pos) (zms ex sd t):=zo9 G (hr.mono hk) znY hg ha hdb he hpl
abbrev zhJ:Stmt:=top 61
abbrev zdT:List Str:=["_law_script"]
theorem zvp:zaA ["_law_script"] zdT (zak zhJ):=fsc
abbrev ziP:Stmt:=top 62
abbrev zcU:List Str:=["_law_script","_law_k"]
theorem zgX:zaA ["_law_script","_law_k","_law_cell_here","_law_first","_law_second"] zcU (zak ziP):=fsc
abbrev zj5:Stmt:=top 68
abbrev zgh:List Str:=["_law_cell_here"]
theorem ztL:zaA ["_law_cell_here"] zgh (zak zj5):=fsc
abbrev zhk:Stmt:=top 69
abbrev ze9:List Str:=["_law_cell_here","_law_other"]
theorem zeu:zaA ["_law_cell_here","_law_other","_law_low","_law_wide"] ze9 (zak zhk):=fsc
abbrev zkB:Stmt:=top 76
abbrev zf4:List Str:=["_law_box","_law_parts","_law_whole","_law_grid_here"]
theorem zmb:zaA ["_law_box","_law_parts","_law_whole","_law_grid_here","_law_point_here","_law_k"] zf4 (zak zkB):=fsc
abbrev zj4:Stmt:=top 84
abbrev zg9:List Str:=["_law_script","_law_size","_law_grid_here"]
theorem zc6:zaA ["_law_script","_law_size","_law_grid_here","_law_box","_law_point_here","_law_k","_law_cell_here","_law_top","_law_bottom","_law_low"] zg9 (zak zj4):=fsc
abbrev zhy:Stmt:=top 64
abbrev zds:List Str:=["_law_top","_law_bottom"]
theorem zkD:zaA ["_law_top","_law_bottom","_law_a","_law_b"] zds (zak zhy):=fsc
abbrev zho:Stmt:=top 77
abbrev zdL:List Str:=["_law_nodes","_law_node"]
theorem zpw:zaA ["_law_nodes","_law_node"] zdL (zak zho):=fsc
abbrev zhN:Stmt:=top 78
abbrev zgG:List Str:=["_law_nodes","_law_point_here","_law_grid_here"]
theorem zgR:zaA ["_law_nodes","_law_point_here","_law_grid_here","_law_made","_law_k","_law_place","_law_number_here"] zgG (zak zhN):=fsc
abbrev zhz:Stmt:=top 65
abbrev zfm:List Str:=["_law_cell_here"]
theorem zsl:zaA ["_law_cell_here"] zfm (zak zhz):=fsc
abbrev zhx:Stmt:=top 63
abbrev zft:List Str:=["_law_cell_here"]
theorem zq4:zaA ["_law_cell_here"] zft (zak zhx):=fsc
abbrev ziE:Stmt:=top 66
abbrev zfr:List Str:=["_law_nodes","_law_heavy","_law_node","_law_weight"]
theorem zrZ:zaA ["_law_nodes","_law_heavy","_law_node","_law_weight"] zfr (zak ziE):=fsc
abbrev zka:Stmt:=top 67
abbrev zfy:List Str:=["_law_nodes","_law_heavy","_law_cell_here","_law_most","_law_free_here"]
theorem zdq:zaA ["_law_nodes","_law_heavy","_law_cell_here","_law_most","_law_free_here","_law_one","_law_other","_law_weight","_law_a","_law_many","_law_word"] zfy (zak zka):=fsc
abbrev zjh:Stmt:=top 79
abbrev zfZ:List Str:=["_law_nodes","_law_parts"]
theorem zhB:zaA ["_law_nodes","_law_parts","_law_total","_law_part"] zfZ (zak zjh):=fsc
abbrev zk7:Stmt:=top 80
abbrev zfz:List Str:=["_law_script","_law_nodes","_law_factors_here","_law_fits"]
theorem zer:zaA ["_law_script","_law_nodes","_law_factors_here","_law_fits","_law_many","_law_parts","_law_k","_law_at_here"] zfz (zak zk7):=fsc
abbrev zh6:Stmt:=top 87
abbrev zfa:List Str:=["_law_script","_law_rows","_law_many"]
theorem zlQ:zaA ["_law_script","_law_rows","_law_many","_law_k","_law_cell_here"] zfa (zak zh6):=fsc
abbrev zjq:Stmt:=top 86
abbrev zgT:List Str:=["_law_box","_law_point_here","_law_cell_here","_law_grid_here"]
theorem zbW:zaA ["_law_box","_law_point_here","_law_cell_here","_law_grid_here","_law_book","_law_holder","_law_turn","_law_here","_law_k","_law_low","_law_high","_law_place","_law_one","_law_other"] zgT (zak zjq):=fsc
abbrev zgi:Stmt:=top 46
abbrev zf1:List Str:=["lists","many"]
theorem zqL:zaA ["lists","many"] zf1 (zak zgi):=fsc
abbrev zh3:Stmt:=top 56
abbrev zf7:List Str:=["book"]
theorem zk6:zaA ["book","found","entry","fate"] zf7 (zak zh3):=fsc
abbrev zgl:Stmt:=top 57
abbrev zg8:List Str:=["box","book"]
theorem zu9:zaA ["box","book"] zg8 (zak zgl):=fsc
abbrev zkZ:Stmt:=top 16
abbrev zgb:List Str:=["a","b"]
theorem ztr:zaA ["a","b"] zgb (zak zkZ):=fsc
abbrev zj6:Stmt:=top 43
abbrev zfb:List Str:=["box","k","span"]
theorem zp4:zaA ["box","k","span"] zfb (zak zj6):=fsc
abbrev zjW:Stmt:=top 55
abbrev zgC:List Str:=["book","number"]
theorem zcO:zaA ["book","number","box","fate","k","place","a","b","below","above"] zgC (zak zjW):=fsc
abbrev zji:Stmt:=top 15
abbrev zfP:List Str:=["a","b"]
theorem zuc:zaA ["a","b"] zfP (zak zji):=fsc
abbrev ze7:Stmt:=top 45
abbrev zfJ:List Str:=["ones","others"]
theorem zsR:zaA ["ones","others"] zfJ (zak ze7):=fsc
abbrev zkk:Stmt:=top 6
abbrev zgw:List Str:=["a","b"]
theorem zpz:zaA ["a","b"] zgw (zak zkk):=fsc
abbrev ziX:Stmt:=top 8
abbrev zdv:List Str:=["top","bottom"]
theorem ztx:zaA ["top","bottom"] zdv (zak ziX):=fsc
abbrev zld:Stmt:=top 9
abbrev zeQ:List Str:=["low","high","grid"]
theorem zsq:zaA ["low","high","grid"] zeQ (zak zld):=fsc
abbrev zjE:Stmt:=zaG (top 20) 2
abbrev zf2:List Str:=["self","spans","box","grid"]
theorem zon:zaA ["self","spans","box","grid","number"] zf2 (zak zjE):=fsc
abbrev zle:Stmt:=zaG (top 21) 2
abbrev zfs:List Str:=["self","spans","box","grid"]
theorem zqB:zaA ["self","spans","box","grid"] zfs (zak zle):=fsc
abbrev zhM:Stmt:=top 10
abbrev zeN:List Str:=["a","b"]
theorem zsE:zaA ["a","b"] zeN (zak zhM):=fsc
abbrev zib:Stmt:=zaG (top 23) 1
abbrev zfX:List Str:=["self","spans","box","grid"]
theorem zu4:zaA ["self","spans","box","grid"] zfX (zak zib):=fsc
abbrev ziY:Stmt:=top 11
abbrev zfK:List Str:=["a","b"]
theorem zqI:zaA ["a","b"] zfK (zak ziY):=fsc
abbrev zkI:Stmt:=zaG (top 24) 1
abbrev zgN:List Str:=["self","spans","box","grid"]
theorem zvb:zaA ["self","spans","box","grid"] zgN (zak zkI):=fsc
abbrev zkE:Stmt:=top 12
abbrev zfj:List Str:=["a","b","grid"]
theorem zov:zaA ["a","b","grid","products"] zfj (zak zkE):=fsc
abbrev zhg:Stmt:=zaG (top 25) 1
abbrev zfS:List Str:=["self","spans","box","grid"]
theorem zr8:zaA ["self","spans","box","grid"] zfS (zak zhg):=fsc
abbrev zkv:Stmt:=top 5
abbrev zgy:List Str:=["number","many"]
theorem zk8:zaA ["number","many","worth","step"] zgy (zak zkv):=fsc
abbrev zfF:Stmt:=top 13
abbrev zf9:List Str:=["a","many","grid"]
theorem zio:zaA ["a","many","grid","places","powers","bottom"] zf9 (zak zfF):=fsc
abbrev zhr:Stmt:=zaG (top 26) 2
abbrev zfV:List Str:=["self","spans","box","grid"]
theorem zvh:zaA ["self","spans","box","grid"] zfV (zak zhr):=fsc
abbrev zhS:Stmt:=zaG (top 20) 0
abbrev zgq:List Str:=["self","top","bottom"]
theorem zvr:zaA ["self","top","bottom"] zgq (zak zhS):=fsc
abbrev zjY:Stmt:=zaG (top 21) 0
abbrev zfQ:List Str:=["self","place"]
theorem zvi:zaA ["self","place"] zfQ (zak zjY):=fsc
abbrev zhC:Stmt:=zaG (top 22) 0
abbrev zgr:List Str:=["self","one","other"]
theorem zrJ:zaA ["self","one","other"] zgr (zak zhC):=fsc
abbrev zjp:Stmt:=zaG (top 22) 0
abbrev zeY:List Str:=["self","one","other"]
theorem zur:zaA ["self","one","other"] zeY (zak zjp):=fsc
abbrev zkM:Stmt:=zaG (top 22) 0
abbrev zgO:List Str:=["self","one","other"]
theorem zqZ:zaA ["self","one","other"] zgO (zak zkM):=fsc
abbrev zhH:Stmt:=zaG (top 26) 0
abbrev zfq:List Str:=["self","one","many"]
theorem zvw:zaA ["self","one","many"] zfq (zak zhH):=fsc
abbrev zhe:Stmt:=top 27
abbrev zgn:List Str:=["node"]
theorem zr2:zaA ["node"] zgn (zak zhe):=fsc
abbrev zgP:Stmt:=top 48
abbrev zdV:List Str:=["nodes","box","grid","spans"]
theorem zvx:zaA ["nodes","box","grid","spans"] zdV (zak zgP):=fsc
abbrev zje:Stmt:=top 29
abbrev zgf:List Str:=["word","span"]
theorem zqY:zaA ["word","span"] zgf (zak zje):=fsc
abbrev zkS:Stmt:=top 51
abbrev zgx:List Str:=["nodes","rows","box","grid","fate"]
theorem ziD:zaA ["nodes","rows","box","grid","fate","r","spans","at"] zgx (zak zkS):=fsc
abbrev zj3:Stmt:=top 50
abbrev zeS:List Str:=["nodes","box","grid","spans"]
theorem zpt:zaA ["nodes","box","grid","spans"] zeS (zak zj3):=fsc
abbrev zjZ:Stmt:=top 30
abbrev ze6:List Str:=["word","span"]
theorem zrH:zaA ["word","span"] ze6 (zak zjZ):=fsc
abbrev zg3:Stmt:=top 52
abbrev zga:List Str:=["nodes","rows","box","grid","fate"]
theorem zm5:zaA ["nodes","rows","box","grid","fate","spans"] zga (zak zg3):=fsc
abbrev zku:Stmt:=top 58
abbrev zg7:List Str:=["nodes","rows","grid","book","number"]
theorem zmA:zaA ["nodes","rows","grid","book","number","box","fate"] zg7 (zak zku):=fsc
abbrev zf5:Stmt:=top 59
abbrev ze8:List Str:=["nodes","rows","box","grid","book"]
theorem zsS:zaA ["nodes","rows","box","grid","book"] ze8 (zak zf5):=fsc
abbrev zgY:Stmt:=top 85
abbrev zgo:List Str:=["_law_book"]
theorem zfc:zaA ["_law_book","_law_made","_law_box","_law_fate","_law_parts","_law_part"] zgo (zak zgY):=fsc
abbrev ziC:Stmt:=top 70
abbrev zgs:List Str:=["_law_a","_law_many"]
theorem ziR:zaA ["_law_a","_law_many","_law_found","_law_turn"] zgs (zak ziC):=fsc
abbrev zhq:Stmt:=top 74
abbrev zf6:List Str:=["_law_a","_law_many","_law_grid_here"]
theorem zmU:zaA ["_law_a","_law_many","_law_grid_here","_law_ends","_law_share"] zf6 (zak zhq):=fsc
abbrev zhR:Stmt:=top 71
abbrev zfw:List Str:=["_law_a","_law_b"]
theorem zry:zaA ["_law_a","_law_b"] zfw (zak zhR):=fsc
abbrev zkx:Stmt:=top 72
abbrev zeT:List Str:=["_law_a","_law_b"]
theorem zqH:zaA ["_law_a","_law_b"] zeT (zak zkx):=fsc
abbrev zhU:Stmt:=top 73
abbrev zeP:List Str:=["_law_a","_law_b","_law_grid_here"]
theorem zoF:zaA ["_law_a","_law_b","_law_grid_here","_law_four"] zeP (zak zhU):=fsc
abbrev zhn:Stmt:=top 75
abbrev ze0:List Str:=["_law_node","_law_spans","_law_box","_law_grid_here"]
theorem ziz:zaA ["_law_node","_law_spans","_law_box","_law_grid_here","_law_word","_law_one","_law_other"] ze0 (zak zhn):=fsc
abbrev zkA:Stmt:=top 81
abbrev zfx:List Str:=["_law_span","_law_cell_here"]
theorem zi0:zaA ["_law_span","_law_cell_here","_law_kind","_law_low"] zfx (zak zkA):=fsc
abbrev zhi:Stmt:=top 82
abbrev zgu:List Str:=["_law_word","_law_fits","_law_cell_here"]
theorem zmt:zaA ["_law_word","_law_fits","_law_cell_here","_law_much","_law_wide"] zgu (zak zhi):=fsc
abbrev zjl:Stmt:=top 83
abbrev zfD:List Str:=["_law_script","_law_nodes","_law_rows","_law_at_here","_law_fits","_law_box","_law_grid_here"]
theorem zeG:zaA ["_law_script","_law_nodes","_law_rows","_law_at_here","_law_fits","_law_box","_law_grid_here","_law_spans","_law_last_here","_law_k","_law_due"] zfD (zak zjl):=fsc
abbrev zct:Stmt:=top 88
abbrev zkl:List Str:=["_law_script"]
theorem zbq:zaA ["_law_script","_law_size","_law_grid_here","_law_box","_law_share","_law_point_here","_law_nodes","_law_factors_here","_law_heavy","_law_k","_law_fits","_law_row_here","_law_rows","_law_book","_law_holder","_law_handed","_law_fate","_law_sent","_law_found"] zkl (zak zct):=fsc
theorem kfo {K:PySem.W.Frag}{f c:Addr}{m:Value}{n q:Str}{st:Stmt}(l:K.lookup f=some (fo n q st m c)):PySem.W.keepIn K (.ref f)=true:=by
 unfold PySem.W.keepIn
 simp only[l]
theorem ifo {K:PySem.W.Frag}{f c:Addr}{m:Value}{n q:Str}{st:Stmt}(l:K.lookup f=some (fo n q st m c)):PySem.W.isFn K (.ref f)=true:=by
 unfold PySem.W.isFn PySem.W.typeIn
 simp only[l]
 rfl
theorem ln1 {P:List Value→Prop}(h:∀a,P [a]):∀us:List Value,us.length=1→P us
 | [a],_=>h a
theorem ln2 {P:List Value→Prop}(h:∀a b,P [a,b]):∀us:List Value,us.length=2→P us
 | [a,b],_=>h a b
theorem ln3 {P:List Value→Prop}(h:∀a b c,P [a,b,c]):∀us:List Value,us.length=3→P us
 | [a,b,c],_=>h a b c
theorem ln4 {P:List Value→Prop}(h:∀a b c d,P [a,b,c,d]):∀us:List Value,us.length=4→P us
 | [a,b,c,d],_=>h a b c d
theorem ln5 {P:List Value→Prop}(h:∀a b c d e,P [a,b,c,d,e]):∀us:List Value,us.length=5→P us
 | [a,b,c,d,e],_=>h a b c d e
theorem ln7 {P:List Value→Prop}(h:∀a b c d e f g,P [a,b,c,d,e,f,g]):∀us:List Value,us.length=7→P us
 | [a,b,c,d,e,f,g],_=>h a b c d e f g
abbrev Bn (n q:Str)(st:Stmt)(ps:List Str):Prop:=∀(kV doc pm:Value) (an:Option Addr) (cdv ct:Value) (us:List Value),us.length=ps.length→bindArgs (PySem.W.fnOf n q (zcP st) (zcv st) (zak st) .none kV doc pm an cdv ct) ⟨us,[]⟩=pure (ps.zip us)
def dfo {K:PySem.W.Frag}{mg:Str→Option Value}{h:Heap}(X:K.In h)(G:h.Ns mainGlobals mg){n:Str}{st:Stmt}{f c:Addr}{m:Value}{ps:List Str}(a:PySem.W.nsIn K mainGlobals n=some (some (.ref f)))(l:K.lookup f=some (fo n n st m c))(e:PySem.W.codeIn K (.ref c) n=true)(b:Bn n n st ps):Df K mg n st ps:=⟨_,_,zkr (st:=st) l e (kfo l),PySem.W.mg_of X G a,(zkr (st:=st) l e (kfo l)).binds b⟩
def dmo {K:PySem.W.Frag}{C:Addr}{n q:Str}{st:Stmt}{f c:Addr}{m:Value}{ps:List Str}(a:PySem.W.findIn K (.ref C) n=some (some (.ref f)))(l:K.lookup f=some (fo n q st m c))(e:PySem.W.codeIn K (.ref c) q=true)(b:Bn n q st ps):Dm K C n q st ps:=⟨_,_,zkr (st:=st) l e (kfo l),⟨a,ifo l,kfo l⟩,(zkr (st:=st) l e (kfo l)).binds b⟩
abbrev nsA (K:PySem.W.Frag)(n:Str)(f:Addr):Prop:=PySem.W.nsIn K mainGlobals n=some (some (.ref f))
abbrev fdA (K:PySem.W.Frag)(C:Addr)(n:Str)(f:Addr):Prop:=PySem.W.findIn K (.ref C) n=some (some (.ref f))
abbrev lkA (K:PySem.W.Frag)(f:Addr)(n q:Str)(st:Stmt)(m:Value)(c:Addr):Prop:=K.lookup f=some (fo n q st m c)
abbrev cdA (K:PySem.W.Frag)(c:Addr)(q:Str):Prop:=PySem.W.codeIn K (.ref c) q=true
theorem zcq {C:Addr}{f:Str}{to:TDE}{dl:Ev}{S S1:Sto}{Q:DK}{n:Nat}{fs:List (Str×D)}{v:D}(hto:∀K:DK,K (.ref n) S1→to dl S K)(h:S1[n]?=some (.ins C fs))(hf:fs.lookup f=some v)(hq:Q v S1):zjj C f to dl S Q:=by
 unfold zjj
 refine hto _ ?_
 simp only[zde,h,if_pos,hf]
 exact hq
theorem zcf {C:Addr}{f:Str}{to te:TDE}{dl:Ev}{S S1 S2:Sto}{E:zbX}{n:Nat}{fs:List (Str×D)}{v:D}(hte:∀K:DK,K v S1→te dl S K)(hto:∀K:DK,K (.ref n) S2→to dl S1 K)(h:S2[n]?=some (.ins C fs))(hl:fs.length<1000)(hq:E.nx dl (S2.set n (.ins C (zef f v fs)))):zhF C f to te E dl S:=by
 unfold zhF
 refine hte _ (hto _ ?_)
 simp only[zde,h,if_pos]
 exact⟨hl,hq⟩
theorem ztP {to ti te:TDE}{dl:Ev}{S:Sto}{E:zbX}{n j:Nat}{k:Int}{xs:List D}{v:D}(hte:∀K:DK,K v S→te dl S K)(hto:∀K:DK,K (.ref n) S→to dl S K)(hti:∀K:DK,K (.int k) S→ti dl S K)(h:S[n]?=some (.lst xs))(hj:ixN xs.length k=some j)(hq:E.nx dl (S.set n (.lst (xs.set j v)))):zdg to ti te E dl S:=by
 unfold zdg
 refine hte _ (hto _ (hti _ ?_))
 simp only[h,hj]
 exact hq
theorem za7 {n:Nat}{S:Sto}{Q:DK}{xs:List D}(h:S[n]?=some (.lst xs))(hq:Q (.int (xs.length:Nat)) S):irr zeb [.ref n] S Q:=by
 rw[zdp]
 unfold zeb
 simp only[zaU h rfl]
 exact hq
theorem za5 {S:Sto}{n a:Nat}{o u:Ob}(h:S[n]?=some o)(hn:a≠n):(S.set a u)[n]?=some o:=by rw[VaH hn]; exact h
theorem zbj {S:Sto}{n:Nat}{o u:Ob}(h:S[n]?=some o):(S.set n u)[n]?=some u:=by
 have hk:=(Vab.mp h).1
 simp[hk]
theorem zal {S:Sto}{n:Nat}{o:Ob}{T:Sto}(h:S[n]?=some o):(S++T)[n]?=some o:=by
 have hk:=(Vab.mp h).1
 rw[Vah hk]
 exact h
theorem zcp (T R:Sto)(u:Ob):(T++u::R)[T.length]?=some u:=by simp
theorem zcn (T R:Sto)(u v:Ob):(T++u::R).set T.length v=T++v::R:=by simp
theorem zaV {S:Sto}{n:Nat}{o:Ob}(h:S[n]?=some o):n<S.length:=(Vab.mp h).1
theorem zlX {n m:Nat}{S:Sto}{Q:DK}{xs ys:List D}{b:Bool}(h1:S[n]?=some (.lst xs))(h2:S[m]?=some (.lst ys))(e:eqL (eqN 1) xs ys=some b)(hq:Q (.bl b) S):zbA (zdD 1) (.ref n) (.ref m) S Q:=by
 rw[zb6]
 unfold zdD
 simp only[zdc,zaU h1 rfl,zaU h2 rfl,zaj,e]
 exact hq
theorem zoc {i n:Nat}{tb:TDS}{E:zbX}{dl:Ev}{S:Sto}{o:Ob}(W:Nat→Ev→Sto→Prop)(h0:W 0 dl S)(hk:∀k dl' S',W k dl' S'→S'[n]?=some o)
  (ht:∀(k:Nat) (x:D) (dl':Ev) (S':Sto) (nx ct:Ev→Sto→Prop),(zaj o)[k]?=some x→W k dl' S'→(∀dl2 S2,W (k+1) dl2 S2→nx dl2 S2)→tb { nx:=nx,rt:=E.rt,bk:=E.nx,ct:=ct } (dl'.set i (some x)) S')(he:∀dl' S',W (zaj o).length dl' S'→E.nx dl' S')(hL:zbN o=some o:=by rfl):
  (lAt S n).isSome=true∧∃W:Nat→Nat→Ev→Sto→Prop,(∃m,W 0 m dl S)∧∀k m dl S,W k m dl S→match lAt S n with
  | some o=>match (zaj o)[k]? with
   | some x=>tb { nx:=λdl' S'=>∃m',m'<m∧W (k+1) m' dl' S',rt:=E.rt,bk:=E.nx,ct:=λdl' S'=>∃m',m'<m∧W (k+1) m' dl' S' } (dl.set i (some x)) S
   | none=>E.nx dl S
  | none=>False:=by
 refine⟨by rw[zaU (hk _ _ _ h0) hL]; rfl,λk m dl' S'=>m+k=(zaj o).length∧W k dl' S',⟨(zaj o).length,by omega,h0⟩,?_⟩
 rintro k m dl' S' ⟨hm,w⟩
 rw[zaU (hk _ _ _ w) hL]
 show (match (zaj o)[k]? with
   | some x=>tb { nx:=λdl' S''=>∃m',m'<m∧(m'+(k+1)=(zaj o).length∧W (k+1) dl' S''),rt:=E.rt,bk:=E.nx,ct:=λdl' S''=>∃m',m'<m∧(m'+(k+1)=(zaj o).length∧W (k+1) dl' S'') } (dl'.set i (some x)) S'
   | none=>E.nx dl' S')
 split
 ·rename_i x hx
  have hk:k<(zaj o).length:=(Vab.mp hx).1
  exact ht k x dl' S' _ _ hx w λdl2 S2 w2=>⟨m-1,by omega,by omega,w2⟩
 ·rename_i hx
  have hk:k=(zaj o).length:=by
   have:=VaJ.mp hx
   omega
  exact he dl' S' (hk ▸ w)
inductive Nd where
 | number (t b:Int) | unknown (k:Int) | plus (i j:Int) | minus (i j:Int) | times (i j:Int) | power (i n:Int)
def Nd.d:Nd→D
 | .number t b=>.tup [.str "number",.int t,.int b]
 | .unknown k=>.tup [.str "unknown",.int k]
 | .plus i j=>.tup [.str "plus",.int i,.int j]
 | .minus i j=>.tup [.str "minus",.int i,.int j]
 | .times i j=>.tup [.str "times",.int i,.int j]
 | .power i n=>.tup [.str "power",.int i,.int n]
def Nd.ob (cN cU cP cM cT cW:Addr):Nd→Ob
 | .number t b=>.ins cN [("top",.int t),("bottom",.int b)]
 | .unknown k=>.ins cU [("place",.int k)]
 | .plus i j=>.ins cP [("one",.int i),("other",.int j)]
 | .minus i j=>.ins cM [("one",.int i),("other",.int j)]
 | .times i j=>.ins cT [("one",.int i),("other",.int j)]
 | .power i n=>.ins cW [("one",.int i),("many",.int n)]
def inR (m i:Int):Prop:=0≤i∧i<m
def Nd.ok (m q:Int):Nd→Prop
 | .number t b=>(1≤b∧b≤10^9)∧Int.gcd t b=1∧t.natAbs≤10^9
 | .unknown k=>inR q k
 | .plus i j=>inR m i∧inR m j
 | .minus i j=>inR m i∧inR m j
 | .times i j=>inR m i∧inR m j
 | .power i n=>inR m i∧2≤n∧n≤6
def frD (p:Int×Int):D:=.tup [.int p.1,.int p.2]
abbrev gt (vs:List (Int×Int))(i:Int):Int×Int:=vs.getD i.toNat (0,1)
theorem zfW {vs:List (Int×Int)}{i:Int}(h:inR vs.length i):gt vs i∈vs:=by
 obtain⟨h0,h1⟩:=h
 have hk:i.toNat<vs.length:=by omega
 have e:gt vs i=vs[i.toNat]:=by simp[gt,hk]
 rw[e]
 exact Va6 hk
theorem zbn {vs:List (Int×Int)}{i:Int}(h:inR vs.length i):atI (vs.map frD) i=some (frD (gt vs i)):=by
 obtain⟨h0,h1⟩:=h
 have hk:i.toNat<vs.length:=by omega
 have z:=zcl (xs:=vs.map frD) (j:=i.toNat) (v:=frD (gt vs i)) (by rw[Vag,Vae hk]; simp[gt,hk])
 rw[show ((i.toNat:Nat):Int)=i by omega] at z
 exact z
theorem znp {G:Int×Int→Prop}:∀xs:List D,(∀(k:Nat) (d:D),xs[k]?=some d→∃p,d=frD p∧G p)→∃vs:List (Int×Int),xs=vs.map frD∧∀p∈vs,G p
 | [],_=>⟨[],rfl,λp h=>by cases h⟩
 | x::xs,h=>by
  obtain⟨p,rfl,hp⟩:=h 0 x rfl
  obtain⟨vs,rfl,hv⟩:=znp xs λk d hd=>h (k+1) d hd
  exact⟨p::vs,rfl,λq hq=>by
   rcases Vaf.mp hq with e | e
   ·subst e; exact hp
   ·exact hv q e⟩
theorem znJ {xs:List D}{d e:D}{i:Nat}{P:Nat→D→Prop}(h:(xs++[d])[i]?=some e)(hp:∀i d,xs[i]?=some d→P i d)(hd:P xs.length d):P i e:=by
 by_cases hi:i<xs.length
 ·rw[Vah hi] at h
  exact hp i e h
 ·have hk:=(Vab.mp h).1
  simp only[Vad,Vap,VaM] at hk
  have e1:i=xs.length:=by omega
  subst e1
  simp at h
  subst h
  exact hd
theorem zos {caps:List Nat}{ta:TDA}{te:TDE}{dl:Ev}{S S1:Sto}{Q:DK}{j:Int}(P:Nat→D→Prop)(hta:∀K:List D→Sto→Prop,K [.int j] S1→ta dl S K)(hj:0≤j∧j≤1000)
  (ht:∀k:Nat,k<j.toNat→∀(S2:Sto) (K:DK),Pre S1 S2→(∀d,P k d→K d S2)→te (some (.int k)::zbS caps dl) S2 K)(hq:∀xs:List D,xs.length=j.toNat→(∀k d,xs[k]?=some d→P k d)→Q (.ref S1.length) (S1++[.lst xs])):zcy caps ta zcj te dl S Q:=by
 unfold zcy
 refine hta _ ⟨⟨by omega,by omega⟩,λk S2=>(∃xs:List D,S2=S1++[.lst xs]∧xs.length=k∧∀i d,xs[i]?=some d→P i d)∧k≤j.toNat,⟨⟨[],rfl,rfl,λi d h=>by simp at h⟩,by omega⟩,?_⟩
 rintro k S2 ⟨⟨xs,rfl,hx,hp⟩,hk⟩
 split
 ·rename_i hk'
  unfold zdm zcj
  simp only[if_true]
  refine ht k hk' _ _ Pre.refl.push λd hd=>?_
  rw[zaw]
  refine⟨by omega,⟨xs++[d],zdf _ _ _,by simp[hx],λi e he=>znJ he hp (hx ▸ hd)⟩,by omega⟩
 ·have e:k=j.toNat:=by omega
  subst e
  exact hq xs hx hp
theorem znQ {caps:List Nat}{tl te:TDE}{dl:Ev}{S S1:Sto}{Q:DK}{n:Nat}{o:Ob}(P:Nat→D→Prop)(htl:∀K:DK,K (.ref n) S1→tl dl S K)(h1:S1[n]?=some o)(hl:(zaj o).length≤1000)
  (ht:∀(k:Nat) (x:D),(zaj o)[k]?=some x→∀(S2:Sto) (K:DK),Pre S1 S2→(∀d,P k d→K d S2)→te (some x::zbS caps dl) S2 K)(hq:∀xs:List D,xs.length=(zaj o).length→(∀k d,xs[k]?=some d→P k d)→Q (.ref S1.length) (S1++[.lst xs]))(hL:zbN o=some o:=by rfl):zdl caps tl zcj te dl S Q:=by
 unfold zdl
 refine htl _ ⟨by rw[zaU h1 hL]; rfl,λk m S2=>(∃xs:List D,S2=S1++[.lst xs]∧xs.length=k∧∀i d,xs[i]?=some d→P i d)∧m+k=(zaj o).length,⟨(zaj o).length,⟨[],rfl,rfl,λi d h=>by simp at h⟩,by omega⟩,?_⟩
 rintro k m S2 ⟨⟨xs,rfl,hx,hp⟩,hm⟩
 rw[zaU (zfk h1) hL]
 dsimp only
 split
 ·rename_i x hk
  have hk':k<(zaj o).length:=(Vab.mp hk).1
  unfold zdm zcj
  simp only[if_true]
  refine ht k x hk _ _ Pre.refl.push λd hd=>?_
  rw[zaw]
  refine⟨by omega,m-1,by omega,⟨xs++[d],zdf _ _ _,by simp[hx],λi e he=>znJ he hp (hx ▸ hd)⟩,by omega⟩
 ·rename_i hk
  have hk':=VaJ.mp hk
  exact hq xs (by omega) hp
theorem zoB {α:Type}{xs:List D}{lo hi:Option Int}:(za8 xs lo hi).length≤xs.length:=by
 unfold L3.za8
 rw[Vaw,VaY]
 omega
theorem zml {S T:Sto}(h:Pre S T){n:Nat}{o:Ob}(e:S[n]?=some o):T[n]?=some o:=h n o e
structure zeC (a b c d mn mx:Int):Prop where
 lo:mn=a*c∨mn=a*d∨mn=b*c∨mn=b*d
 l1:mn≤a*c
 l2:mn≤a*d
 l3:mn≤b*c
 l4:mn≤b*d
 hi:mx=a*c∨mx=a*d∨mx=b*c∨mx=b*d
 h1:a*c≤mx
 h2:a*d≤mx
 h3:b*c≤mx
 h4:b*d≤mx
theorem zeC.of {a b c d mn mx:Int}(m1:mn∈[a*c,a*d,b*c,b*d])(m2:∀y∈[a*c,a*d,b*c,b*d],mn≤y)(x1:mx∈[a*c,a*d,b*c,b*d])(x2:∀y∈[a*c,a*d,b*c,b*d],y≤mx):zeC a b c d mn mx:=by
 simp only[Vaf,Vay,or_false] at m1 x1
 exact⟨m1,m2 _ (by simp),m2 _ (by simp),m2 _ (by simp),m2 _ (by simp),x1,x2 _ (by simp),x2 _ (by simp),x2 _ (by simp),x2 _ (by simp)⟩
structure zda (a b:Int)(n:Nat)(m M:Int):Prop where
 lo:m=a^n∨m=b^n∨(a<0∧0<b∧m=0)
 l1:m≤a^n
 l2:m≤b^n
 l3:a<0→0<b→m≤0
 hi:M=a^n∨M=b^n
 h1:a^n≤M
 h2:b^n≤M
theorem ze1 {n:Nat}(h:1≤n):(0:Int)^n=0:=by
 cases n with
 | zero=>omega
 | succ k=>rw[VaI,Int.mul_zero]
theorem zoX (n:Nat):(∀x:Int,(-x)^n=x^n)∨(∀x:Int,(-x)^n=-(x^n)):=by
 induction n with
 | zero=>left; intro x; rw[Va2,Va2]
 | succ k ih=>
  rcases ih with e | e
  ·right; intro x; rw[VaI,VaI,e,Int.mul_neg]
  ·left; intro x; rw[VaI,VaI,e,Int.neg_mul_neg]
theorem zek {x y:Int}(h0:0≤x)(h:x≤y)(n:Nat):x^n≤y^n:=by
 induction n with
 | zero=>rw[Va2,Va2]; exact VaR _
 | succ k ih=>
  rw[VaI,VaI]
  exact Int.mul_le_mul ih h h0 (Int.pow_nonneg (by omega))
theorem ztc {y z x m M:Int}{n:Nat}(hn:1≤n)(h1:y≤x)(h2:x≤z)(m1:m≤y^n)(m2:m≤z^n)(m3:y<0→0<z→m≤0)(M1:y^n≤M)(M2:z^n≤M):m≤x^n∧x^n≤M:=by
 by_cases hy:0≤y
 ·have e1:=zek hy h1 n
  have e2:=zek (show 0≤x by omega) h2 n
  omega
 ·by_cases hz:z≤0
  ·have e1:=zek (show 0≤-z by omega) (show -z≤-x by omega) n
   have e2:=zek (show 0≤-x by omega) (show -x≤-y by omega) n
   rcases zoX n with p | p <;> rw[p,p] at e1 e2 <;> omega
  ·have m3':=m3 (by omega) (by omega)
   have z0:(0:Int)≤z^n:=Int.pow_nonneg (by omega)
   by_cases hx:0≤x
   ·have e1:(0:Int)≤x^n:=Int.pow_nonneg hx
    have e2:=zek hx h2 n
    omega
   ·have e1:(0:Int)≤(-x)^n:=Int.pow_nonneg (by omega)
    have e2:=zek (show 0≤-x by omega) (show -x≤-y by omega) n
    rcases zoX n with p | p
    ·rw[p] at e1
     rw[p,p] at e2
     omega
    ·rw[p] at e1
     rw[p,p] at e2
     omega
theorem zda.of {a b g mn mx:Int}{n:Nat}(hg:1≤g){l:List Int}(hl:l=[a^n*g,b^n*g]∧¬ (a<0∧0<b)∨l=[a^n*g,b^n*g,0^n*g]∧a<0∧0<b)(hn:1≤n)(m1:mn∈l)(m2:∀y∈l,mn≤y)(x1:mx∈l)(x2:∀y∈l,y≤mx):
  ∃m M,zda a b n m M∧mn=m*g∧mx=M*g:=by
 have can:∀ {x y:Int},x*g≤y*g→x≤y:=λ{x y} h=>Va3 h (by omega)
 rcases hl with ⟨rfl,hz⟩ | ⟨rfl,hz1,hz2⟩
 ·simp only[Vaf,Vay,or_false] at m1 x1
  have a1:=m2 (a^n*g) (by simp)
  have a2:=m2 (b^n*g) (by simp)
  have b1:=x2 (a^n*g) (by simp)
  have b2:=x2 (b^n*g) (by simp)
  obtain⟨m,hm,em⟩:∃m,(m=a^n∨m=b^n)∧mn=m*g:=by
   rcases m1 with e | e
   ·exact⟨_,.inl rfl,e⟩
   ·exact⟨_,.inr rfl,e⟩
  obtain⟨M,hM,eM⟩:∃m,(m=a^n∨m=b^n)∧mx=m*g:=by
   rcases x1 with e | e
   ·exact⟨_,.inl rfl,e⟩
   ·exact⟨_,.inr rfl,e⟩
  subst em eM
  exact⟨m,M,⟨hm.elim .inl λe=>.inr (.inl e),can a1,can a2,λc1 c2=>absurd ⟨c1,c2⟩ hz,hM,can b1,can b2⟩,rfl,rfl⟩
 ·rw[ze1 hn,Int.zero_mul] at m1 m2 x1 x2
  simp only[Vaf,Vay,or_false] at m1 x1
  have a1:=m2 (a^n*g) (by simp)
  have a2:=m2 (b^n*g) (by simp)
  have a3:=m2 0 (by simp)
  have b1:=x2 (a^n*g) (by simp)
  have b2:=x2 (b^n*g) (by simp)
  have b3:=x2 0 (by simp)
  obtain⟨m,hm,em⟩:∃m,(m=a^n∨m=b^n∨m=0)∧mn=m*g:=by
   rcases m1 with e | e | e
   ·exact⟨_,.inl rfl,e⟩
   ·exact⟨_,.inr (.inl rfl),e⟩
   ·exact⟨0,.inr (.inr rfl),by rw[e,Int.zero_mul]⟩
  have bp:(0:Int)≤b^n:=Int.pow_nonneg (by omega)
  have bg:=VaL bp (show 0≤g by omega)
  obtain⟨M,hM,eM⟩:∃m,(m=a^n∨m=b^n)∧mx=m*g:=by
   rcases x1 with e | e | e
   ·exact⟨_,.inl rfl,e⟩
   ·exact⟨_,.inr rfl,e⟩
   ·exact⟨_,.inr rfl,by omega⟩
  subst em eM
  refine⟨m,M,⟨?_,can a1,can a2,λ_ _=>can (by rw[Int.zero_mul]; exact a3),hM,can b1,can b2⟩,rfl,rfl⟩
  rcases hm with e | e | e
  ·exact .inl e
  ·exact .inr (.inl e)
  ·exact .inr (.inr ⟨hz1,hz2,e⟩)
theorem zdY {m g:Int}{n:Nat}(hg:1≤g)(hn:1≤n):m*g/g^n=m/g^(n-1):=by
 obtain⟨k,rfl⟩:∃k,n=k+1:=⟨n-1,by omega⟩
 rw[VaI,Nat.add_sub_cancel,Int.mul_ediv_mul_of_pos_left _ _ (by omega)]
def mn4 (a b c d:Int):Int:=min (min (a*c) (a*d)) (min (b*c) (b*d))
def mx4 (a b c d:Int):Int:=max (max (a*c) (a*d)) (max (b*c) (b*d))
theorem zeC.eq {a b c d mn mx:Int}(h:zeC a b c d mn mx):mn=mn4 a b c d∧mx=mx4 a b c d:=by
 obtain⟨h0,h1,h2,h3,h4,h5,h6,h7,h8,h9⟩:=h
 unfold mn4 mx4
 omega
def zbi (a b:Int)(n:Nat):Int:=if n%2=0∧a≤0∧0≤b then 0 else min (a^n) (b^n)
def zci (a b:Int)(n:Nat):Int:=max (a^n) (b^n)
theorem zdo {n:Nat}(h:n%2=0)(x:Int):0≤x^n:=by
 obtain⟨k,rfl⟩:∃k,n=k+k:=⟨n/2,by omega⟩
 rw[Int.pow_add]
 by_cases c:0≤x^k
 ·exact VaL c c
 ·have:=VaL (show 0≤-(x^k) by omega) (show 0≤-(x^k) by omega)
  rw[Int.neg_mul_neg] at this
  exact this
theorem zny {n:Nat}(h:n%2=1){x:Int}(hx:x<0):x^n<0:=by
 obtain⟨k,rfl⟩:∃k,n=k+1:=⟨n-1,by omega⟩
 have z:=zdo (n:=k) (by omega) x
 have nz:∀k:Nat,x^k≠0:=λk=>by
  induction k with
  | zero=>rw[Va2]; decide
  | succ k ih=>rw[VaI]; exact Int.mul_ne_zero ih (by omega)
 have nz:=nz k
 have:=Va9 (show 0<x^k by omega) (show 0 < -x by omega)
 rw[Int.mul_neg] at this
 rw[VaI]
 omega
theorem zda.eq {a b m M:Int}{n:Nat}(h:zda a b n m M)(hn:1≤n):m=zbi a b n∧M=zci a b n:=by
 obtain⟨h0,h1,h2,h3,h4,h5,h6⟩:=h
 refine⟨?_,by unfold zci; omega⟩
 unfold zbi
 split
 ·rename_i c
  obtain⟨c1,c2,c3⟩:=c
  have e1:=zdo c1 a
  have e2:=zdo c1 b
  by_cases z:a<0∧0<b
  ·have:=h3 z.1 z.2
   omega
  ·have z':a=0∨b=0:=by omega
   rcases z' with rfl | rfl
   ·rw[ze1 hn] at h1
    omega
   ·rw[ze1 hn] at h2
    omega
 ·rename_i c
  have hz:a<0→0<b→m≠0:=λa1 b1 e=>by
   by_cases p:n%2=0
   ·exact c ⟨p,by omega,by omega⟩
   ·have:=zny (n:=n) (by omega) a1
    omega
  omega
def Nd.fw (vs bs:List (Int×Int))(g:Int):Nd→Int×Int
 | .number t b=>(t*g/b,-(-(t*g)/b))
 | .unknown k=>gt bs k
 | .plus i j=>((gt vs i).1+(gt vs j).1,(gt vs i).2+(gt vs j).2)
 | .minus i j=>((gt vs i).1-(gt vs j).2,(gt vs i).2-(gt vs j).1)
 | .times i j=>(mn4 (gt vs i).1 (gt vs i).2 (gt vs j).1 (gt vs j).2/g,-(-mx4 (gt vs i).1 (gt vs i).2 (gt vs j).1 (gt vs j).2/g))
 | .power i n=>(zbi (gt vs i).1 (gt vs i).2 n.toNat/g^(n.toNat-1),-(-zci (gt vs i).1 (gt vs i).2 n.toNat/g^(n.toNat-1)))
def Spn (B:Nat)(vs:List (Int×Int)):Prop:=∀p∈vs,p.1≤p.2∧Sz B p.1∧Sz B p.2
theorem Spn.at {B:Nat}{vs:List (Int×Int)}(h:Spn B vs){i:Int}(hi:inR vs.length i):(gt vs i).1≤(gt vs i).2∧Sz B (gt vs i).1∧Sz B (gt vs i).2:=h _ (zfW hi)
theorem Spn.mono {B C:Nat}{vs:List (Int×Int)}(h:Spn B vs)(hc:B≤C):Spn C vs:=λp hp=>⟨(h p hp).1,(h p hp).2.1.mono hc,(h p hp).2.2.mono hc⟩
theorem zlC {m M g:Int}(hg:1≤g)(h:m≤M):m/g≤-(-M/g):=by
 have h1:=Int.ediv_mul_le m (show g≠0 by omega)
 have h2:=Int.ediv_mul_le (-M) (show g≠0 by omega)
 have:m/g*g≤-(-M/g)*g:=by rw[VaO]; omega
 exact Va3 this (by omega)
theorem zpn (a b:Int)(n:Nat):zbi a b n≤zci a b n:=by
 unfold zbi zci
 split
 ·rename_i c
  have:=zdo c.1 a
  omega
 ·omega
theorem zpK (a b c d:Int):mn4 a b c d≤mx4 a b c d:=by unfold mn4 mx4; omega
theorem Nd.fw_le {vs bs:List (Int×Int)}{g:Int}{B:Nat}(h1:Spn B vs)(h2:Spn B bs)(hg:1≤g):∀v:Nd,v.ok vs.length bs.length→(v.fw vs bs g).1≤(v.fw vs bs g).2
 | .number t b,ok=>zlC ok.1.1 (VaR _)
 | .unknown k,ok=>(h2.at ok).1
 | .plus i j,ok=>by
  have a:=(h1.at ok.1).1
  have b:=(h1.at ok.2).1
  show (gt vs i).1+(gt vs j).1≤(gt vs i).2+(gt vs j).2
  omega
 | .minus i j,ok=>by
  have a:=(h1.at ok.1).1
  have b:=(h1.at ok.2).1
  show (gt vs i).1-(gt vs j).2≤(gt vs i).2-(gt vs j).1
  omega
 | .times i j,ok=>zlC hg (zpK _ _ _ _)
 | .power i n,ok=>zlC (VaS (by omega)) (zpn _ _ _)
theorem zpF {a b c:TDS}{E:zbX}{dl:Ev}{S:Sto}(W:Ev→Sto→Prop)(ha:∀nx:Ev→Sto→Prop,(∀dl' S',W dl' S'→nx dl' S')→zbY a b { nx:=nx,rt:=E.rt,bk:=E.bk,ct:=E.ct } dl S)(hb:∀dl' S',W dl' S'→c E dl' S'):zbY a (zbY b c) E dl S:=ha _ hb
theorem zl5 {n:Nat}{m g:Int}(h:Sz n m)(hg:1≤g):Sz n (-(-m/g)):=(h.neg.div hg).neg
theorem zie {n:Nat}{a b:Int}(ha:Sz n a)(hb:Sz n b):Sz n (min a b):=by unfold Sz at *; omega
theorem zhf {n:Nat}{a b:Int}(ha:Sz n a)(hb:Sz n b):Sz n (max a b):=by unfold Sz at *; omega
theorem Spn.set {B:Nat}{vs:List (Int×Int)}(h:Spn B vs){k:Nat}{u:Int}(hu:Sz B u):Spn B (vs.set k (u,u)):=λp hp=>by
 rcases List.mem_or_eq_of_mem_set hp with e | e
 ·exact h p e
 ·subst e; exact⟨VaR _,hu,hu⟩
theorem zh2 {n:Nat}{i:Int}(h:inR n i):ixN n i=some i.toNat:=by
 obtain⟨h0,h1⟩:=h
 unfold ixN
 split <;> first | omega | rfl | (split <;> first | omega | rfl)
def Nd.wt (ws:List Nat):Nd→Nat
 | .number _ _=>1
 | .unknown _=>1
 | .plus i j=>ws.getD i.toNat 0+ws.getD j.toNat 0
 | .minus i j=>ws.getD i.toNat 0+ws.getD j.toNat 0
 | .times i j=>ws.getD i.toNat 0+ws.getD j.toNat 0
 | .power i n=>n.toNat*ws.getD i.toNat 0
structure zaL (q:Int)(ns:List Nd)(ws:List Nat):Prop where
 len:ws.length=ns.length
 ok:∀(k:Nat) (v:Nd),ns[k]?=some v→v.ok k q∧ws.getD k 0=v.wt ws∧1≤v.wt ws∧v.wt ws≤16
theorem zaL.nil (q:Int):zaL q [] []:=⟨rfl,λk v h=>by simp at h⟩
theorem zaL.w1 {q:Int}{ns:List Nd}{ws:List Nat}(h:zaL q ns ws){i:Int}(hi:inR ns.length i):1≤ws.getD i.toNat 0∧ws.getD i.toNat 0≤16:=by
 obtain⟨h0,h1⟩:=hi
 have hk:i.toNat<ns.length:=(by omega)
 obtain⟨_,e,a,b⟩:=h.ok i.toNat _ (Vae hk)
 omega
theorem zaL.w2 {q:Int}{ns:List Nd}{ws:List Nat}(h:zaL q ns ws):∀v:Nd,v.ok ns.length q→1≤v.wt ws∧v.wt ws≤96
 | .number _ _,_=>⟨Vaa 1,show 1≤96 by decide⟩
 | .unknown _,_=>⟨Vaa 1,show 1≤96 by decide⟩
 | .plus i j,ok=>by have a:=h.w1 ok.1; have b:=h.w1 ok.2; simp only[Nd.wt]; omega
 | .minus i j,ok=>by have a:=h.w1 ok.1; have b:=h.w1 ok.2; simp only[Nd.wt]; omega
 | .times i j,ok=>by have a:=h.w1 ok.1; have b:=h.w1 ok.2; simp only[Nd.wt]; omega
 | .power i n,ok=>by
  have a:=h.w1 ok.1
  have n2:=ok.2.1
  have n6:=ok.2.2
  have m1:=VaU (show 1≤n.toNat by omega) a.1
  have m2:=VaU (show n.toNat≤6 by omega) a.2
  simp only[Nd.wt]
  omega
theorem zoa {ws:List Nat}{w:Nat}{k:Nat}(h:k<ws.length):(ws++[w]).getD k 0=ws.getD k 0:=by
 rw[Vas,Vas,Vah h]
theorem zn4 {ws:List Nat}{w:Nat}{q:Int}{k:Nat}(hk:k≤ws.length):∀v:Nd,v.ok k q→v.wt (ws++[w])=v.wt ws:=by
 have e:∀i:Int,inR k i→(ws++[w]).getD i.toNat 0=ws.getD i.toNat 0:=λi hi=>zoa (by have a:=hi.1; have b:=hi.2; omega)
 intro v ok
 cases v with
 | number _ _=>rfl
 | unknown _=>rfl
 | plus i j=>show _+_=_+_; rw[e i ok.1,e j ok.2]
 | minus i j=>show _+_=_+_; rw[e i ok.1,e j ok.2]
 | times i j=>show _+_=_+_; rw[e i ok.1,e j ok.2]
 | power i n=>show _*_=_*_; rw[e i ok.1]
theorem zaL.snoc {q:Int}{ns:List Nd}{ws:List Nat}(h:zaL q ns ws){v:Nd}(ok:v.ok ns.length q)(h16:v.wt ws≤16):zaL q (ns++[v]) (ws++[v.wt ws]):=by
 refine⟨by simp[h.len],λk u hu=>?_⟩
 by_cases hk:k<ns.length
 ·rw[Vah hk] at hu
  obtain⟨a,b,c,d⟩:=h.ok k u hu
  have e:=zn4 (w:=v.wt ws) (q:=q) (k:=k) (by rw[h.len]; omega) u a
  rw[e,zoa (by rw[h.len]; exact hk)]
  exact⟨a,b,c,d⟩
 ·have hl:=(Vab.mp hu).1
  simp only[Vad,Vap,VaM] at hl
  have ek:k=ns.length:=by omega
  subst ek
  simp at hu
  subst hu
  have e:=zn4 (w:=v.wt ws) (q:=q) (k:=ns.length) (by rw[h.len]; omega) v ok
  rw[e]
  refine⟨ok,?_,(h.w2 v ok).1,h16⟩
  rw[← h.len]
  simp
theorem zaL.take {q:Int}{ns:List Nd}{ws:List Nat}(h:zaL q ns ws)(n:Nat):zaL q (ns.take n) (ws.take n):=by
 have e:∀k:Nat,k<n→(ws.take n).getD k 0=ws.getD k 0:=λk hk=>by
  rw[Vas,Vas,List.getElem?_take_of_lt hk]
 refine⟨by simp[h.len],λk u hu=>?_⟩
 have hl:=(Vab.mp hu).1
 rw[Vaw] at hl
 have hk:k<n:=by omega
 rw[List.getElem?_take_of_lt hk] at hu
 obtain⟨a,b,c,d⟩:=h.ok k u hu
 have e2:u.wt (ws.take n)=u.wt ws:=by
  have f:∀i:Int,inR k i→(ws.take n).getD i.toNat 0=ws.getD i.toNat 0:=λi hi=>e _ (by have:=hi.1; have:=hi.2; omega)
  cases u with
  | number _ _=>rfl
  | unknown _=>rfl
  | plus i j=>show _+_=_+_; rw[f i a.1,f j a.2]
  | minus i j=>show _+_=_+_; rw[f i a.1,f j a.2]
  | times i j=>show _+_=_+_; rw[f i a.1,f j a.2]
  | power i m=>show _*_=_*_; rw[f i a.1]
 rw[e2,e k hk]
 exact⟨a,b,c,d⟩
theorem zc9 {α:Type}{xs:List α}{k:Nat}{x:α}(h:xs[k]?=some x):xs.take (k+1)=xs.take k++[x]:=by rw[Va8,h]; rfl
def SzW (ws:List Nat)(vs:List (Int×Int)):Prop:=∀(k:Nat) (p:Int×Int),vs[k]?=some p→p.1≤p.2∧Sz (60*ws.getD k 0-1) p.1∧Sz (60*ws.getD k 0-1) p.2
theorem SzW.at {ws:List Nat}{vs:List (Int×Int)}(h:SzW ws vs){i:Int}(hi:inR vs.length i):(gt vs i).1≤(gt vs i).2∧Sz (60*ws.getD i.toNat 0-1) (gt vs i).1∧Sz (60*ws.getD i.toNat 0-1) (gt vs i).2:=by
 obtain⟨h0,h1⟩:=hi
 have hk:i.toNat<vs.length:=by omega
 have e:gt vs i=vs[i.toNat]:=by simp[gt,hk]
 rw[e]
 exact h _ _ (Vae hk)
theorem Spn.of_w {ws:List Nat}{vs:List (Int×Int)}(h:SzW ws vs)(hw:∀k:Nat,k<vs.length→ws.getD k 0≤16):Spn 1000 vs:=λp hp=>by
 obtain⟨k,hk,e⟩:=VaN.mp hp
 obtain⟨a,b,c⟩:=h k p (by rw[Vae hk,e])
 have:=hw k hk
 exact⟨a,b.mono (by omega),c.mono (by omega)⟩
theorem zlt {S T:Sto}{n:Nat}{o:Ob}(h:Pre S T)(hn:S.length≤n):Pre S (T.set n o):=λk u e=>by
 have hk:=(Vab.mp e).1
 rw[VaH (by omega)]
 exact h k u e
theorem zeR {S T:Sto}(h:Pre S T)(U:Sto):Pre S (T++U):=λk u e=>zal (h k u e)
theorem zlE (u v:Nd):∃b,eqN 1 u.d v.d=some b:=by cases u <;> cases v <;> exact⟨_,rfl⟩
theorem zq3 (u:Nd):eqN 1 u.d u.d=some true:=by cases u <;> simp[Nd.d,eqN,L3.eqT,eqL,eqF]
theorem zmn (v:Nd):∀ns:List Nd,∃b,zbC (eqN 1) (ns.map Nd.d) v.d=some b
 | []=>⟨false,rfl⟩
 | u::us=>by
  obtain⟨b,e⟩:=zlE u v
  obtain⟨c,e2⟩:=zmn v us
  refine⟨b||c,?_⟩
  show (match eqN 1 u.d v.d,zbC (eqN 1) (us.map Nd.d) v.d with | some b,some c=>some (b||c) | _,_=>none)=_
  rw[e,e2]
def wtD (w:Nat):D:=.int (w:Int)
theorem zir {ws:List Nat}{i:Int}(h:inR ws.length i):atI (ws.map wtD) i=some (.int ((ws.getD i.toNat 0:Nat):Int)):=by
 obtain⟨h0,h1⟩:=h
 have hk:i.toNat<ws.length:=by omega
 have z:=zcl (xs:=ws.map wtD) (j:=i.toNat) (v:=wtD (ws.getD i.toNat 0)) (by rw[Vag,Vae hk]; simp[hk])
 rw[show ((i.toNat:Nat):Int)=i by omega] at z
 exact z
theorem zpH (q:Nat):zaL q ((List.range q).map λ(k:Nat)=>Nd.unknown (k:Int)) ((List.range q).map λ_=>1):=by
 refine⟨by simp,λk v hv=>?_⟩
 have hl:=(Vab.mp hv).1
 simp only[Vac,Vba] at hl
 rw[Vag,List.getElem?_range hl] at hv
 cases hv
 refine⟨⟨by omega,by omega⟩,?_,Vaa _,show 1≤16 by decide⟩
 simp[Nd.wt,hl]
theorem zqR {u v:Nd}(h:eqN 1 u.d v.d=some true):u=v:=by
 cases u <;> cases v <;> simp[Nd.d,eqN,L3.eqT,eqL,eqF] at h
 all_goals first | (obtain⟨rfl,rfl⟩:=h; rfl) | (subst h; rfl) | exact absurd h.1 (by decide)
theorem ziK (v:Nd):∀ns:List Nd,∃o:Option Nat,zbO (eqN 1) (ns.map Nd.d) v.d=some o∧zbC (eqN 1) (ns.map Nd.d) v.d=some o.isSome∧∀j,o=some j→ns[j]?=some v
 | []=>⟨none,rfl,rfl,λj h=>by cases h⟩
 | u::us=>by
  obtain⟨b,e⟩:=zlE u v
  obtain⟨o,h1,h2,h3⟩:=ziK v us
  have f1:zbO (eqN 1) ((u::us).map Nd.d) v.d=(match eqN 1 u.d v.d,zbO (eqN 1) (us.map Nd.d) v.d with | some true,some _=>some (some 0) | some false,some o=>some (o.map (·+1)) | _,_=>none):=rfl
  have f2:zbC (eqN 1) ((u::us).map Nd.d) v.d=(match eqN 1 u.d v.d,zbC (eqN 1) (us.map Nd.d) v.d with | some b,some c=>some (b||c) | _,_=>none):=rfl
  rw[f1,f2,e,h1,h2]
  cases b with
  | true=>exact⟨some 0,rfl,rfl,λj hj=>by
    cases hj
    rw[zqR e]
    rfl⟩
  | false=>exact⟨o.map (·+1),rfl,by cases o <;> rfl,λj hj=>by
    cases o with
    | none=>cases hj
    | some i=>
     cases hj
     exact h3 i rfl⟩
theorem zvB {v:Nd}{ns:List Nd}{n:Nat}{S:Sto}{Q:DK}{o:Option Nat}(h:S[n]?=some (.lst (ns.map Nd.d)))(e:zbC (eqN 1) (ns.map Nd.d) v.d=some o.isSome)(hq:Q (.bl o.isSome) S):zbA (wIn 1 false) v.d (.ref n) S Q:=by
 rw[zb6]
 unfold wIn
 simp only[zaU h rfl,zaj,e]
 exact hq
theorem zm2 {v:Nd}{ns:List Nd}{n j:Nat}{to:TDE}{t:TDA}{dl:Ev}{S:Sto}{Q:DK}(hto:∀K:DK,K (.ref n) S→to dl S K)(ht:∀K:List D→Sto→Prop,K [v.d] S→t dl S K)(h:S[n]?=some (.lst (ns.map Nd.d)))(e:zbO (eqN 1) (ns.map Nd.d) v.d=some (some j))(hq:Q (.int (j:Int)) S):zen 1 to t dl S Q:=by
 unfold zen
 refine hto _ ⟨by rw[zaU h rfl]; rfl,ht _ ?_⟩
 unfold zfT
 simp only[zaU h rfl,zaj,e]
 exact hq
theorem sort2 {ms:List Int}{x y:Int}(p:ms.Perm [x,y])(o:ms.Pairwise (·≤·)):ms=[min x y,max x y]:=by
 have hl:=p.length_eq
 match ms,hl,p,o with
 | [a,b],_,p,o=>
  have h1:=p.mem_iff (a:=a)
  have h2:=p.mem_iff (a:=b)
  have h3:=p.mem_iff (a:=x)
  have h4:=p.mem_iff (a:=y)
  simp only[Vaf,Vay,or_false,true_or,or_true,true_iff,iff_true] at h1 h2 h3 h4
  have ab:a≤b:=by simpa using o
  have e1:a=min x y:=by omega
  have e2:b=max x y:=by omega
  rw[e1,e2]
theorem zeE (x y:Int):(min x y=x∨min x y=y)∧min x y≤x∧min x y≤y:=⟨by rw[Int.min_def]; split <;> simp,Int.min_le_left ..,Int.min_le_right ..⟩
theorem zeB (x y:Int):(max x y=x∨max x y=y)∧x≤max x y∧y≤max x y:=⟨by rw[Int.max_def]; split <;> simp,Int.le_max_left ..,Int.le_max_right ..⟩
theorem sort4 {ms:List Int}{a b c d:Int}(p:ms.Perm [a*c,a*d,b*c,b*d])(o:ms.Pairwise (·≤·)):∃x y,ms=[mn4 a b c d,x,y,mx4 a b c d]:=by
 have hl:=p.length_eq
 match ms,hl,p,o with
 | [s,t,u,v],_,p,o=>
  simp only[List.pairwise_cons,Vaf,Vay,or_false,forall_eq_or_imp,forall_eq,false_implies,implies_true,and_true,List.Pairwise.nil] at o
  obtain⟨⟨o1,o2,o3⟩,⟨o4,o5⟩,o6⟩:=o
  have hs:∀x∈[s,t,u,v],s≤x∧x≤v:=λx hx=>by
   simp only[Vaf,Vay,or_false] at hx
   rcases hx with rfl | rfl | rfl | rfl
   ·exact⟨VaR _,o3⟩
   ·exact⟨o1,o5⟩
   ·exact⟨o2,o6⟩
   ·exact⟨o3,VaR _⟩
  have hb:∀x,x∈[a*c,a*d,b*c,b*d]→mn4 a b c d≤x∧x≤mx4 a b c d:=λx hx=>by
   simp only[Vaf,Vay,or_false] at hx
   have n1:=zeE (a*c) (a*d)
   have n2:=zeE (b*c) (b*d)
   have n3:=zeE (min (a*c) (a*d)) (min (b*c) (b*d))
   have x1:=zeB (a*c) (a*d)
   have x2:=zeB (b*c) (b*d)
   have x3:=zeB (max (a*c) (a*d)) (max (b*c) (b*d))
   rcases hx with rfl | rfl | rfl | rfl
   ·exact⟨VaV n3.2.1 n1.2.1,VaV x1.2.1 x3.2.1⟩
   ·exact⟨VaV n3.2.1 n1.2.2,VaV x1.2.2 x3.2.1⟩
   ·exact⟨VaV n3.2.2 n2.2.1,VaV x2.2.1 x3.2.2⟩
   ·exact⟨VaV n3.2.2 n2.2.2,VaV x2.2.2 x3.2.2⟩
  have mm:mn4 a b c d∈[a*c,a*d,b*c,b*d]:=by
   simp only[Vaf,Vay,or_false]
   rcases (zeE (min (a*c) (a*d)) (min (b*c) (b*d))).1 with e | e
   ·rcases (zeE (a*c) (a*d)).1 with f | f
    ·exact .inl (e.trans f)
    ·exact .inr (.inl (e.trans f))
   ·rcases (zeE (b*c) (b*d)).1 with f | f
    ·exact .inr (.inr (.inl (e.trans f)))
    ·exact .inr (.inr (.inr (e.trans f)))
  have mx:mx4 a b c d∈[a*c,a*d,b*c,b*d]:=by
   simp only[Vaf,Vay,or_false]
   rcases (zeB (max (a*c) (a*d)) (max (b*c) (b*d))).1 with e | e
   ·rcases (zeB (a*c) (a*d)).1 with f | f
    ·exact .inl (e.trans f)
    ·exact .inr (.inl (e.trans f))
   ·rcases (zeB (b*c) (b*d)).1 with f | f
    ·exact .inr (.inr (.inl (e.trans f)))
    ·exact .inr (.inr (.inr (e.trans f)))
  have e1:s=mn4 a b c d:=Int.le_antisymm (hs _ (p.mem_iff.mpr mm)).1 (hb s (p.mem_iff.mp (VaT ..))).1
  have e2:v=mx4 a b c d:=Int.le_antisymm (hb v (p.mem_iff.mp (by simp))).2 (hs _ (p.mem_iff.mpr mx)).2
  exact⟨t,u,by rw[e1,e2]⟩
theorem zp8 {caps:List Nat}{ta:TDA}{te:TDE}{dl:Ev}{S S1:Sto}{Q:DK}{n n':Nat}{xs ys:List D}(g:D→D→D)(hta:∀K:List D→Sto→Prop,K [.ref n,.ref n'] S1→ta dl S K)(h1:S1[n]?=some (.lst xs))(h2:S1[n']?=some (.lst ys))(hl:xs.length≤1000)
  (ht:∀(k:Nat) (x y:D),xs[k]?=some x→ys[k]?=some y→∀(S2:Sto) (K:DK),Pre S1 S2→K (g x y) S2→te (some x::some y::zbS caps dl) S2 K)(hq:Q (.ref S1.length) (S1++[.lst (List.zipWith g xs ys)])):zgj caps ta te dl S Q:=by
 unfold zgj
 refine hta _ ⟨⟨by rw[zaU h1 rfl]; rfl,by rw[zaU h2 rfl]; rfl⟩,λk m S2=>S2=S1++[.lst (List.zipWith g (xs.take k) (ys.take k))]∧m+k=min xs.length ys.length,⟨min xs.length ys.length,by simp,by omega⟩,?_⟩
 rintro k m S2 ⟨rfl,hm⟩
 rw[zaU (zfk h1) rfl,zaU (zfk h2) rfl]
 dsimp only[zaj]
 split
 ·rename_i x y hx hy
  have hk:k<xs.length:=(Vab.mp hx).1
  have hk':k<ys.length:=(Vab.mp hy).1
  unfold zm3
  refine ht k x y hx hy _ _ Pre.refl.push ?_
  rw[zaw]
  refine⟨by simp; omega,m-1,by omega,?_,by omega⟩
  have e:xs.take (k+1)=xs.take k++[x]:=by rw[Va8,hx]; rfl
  have e':ys.take (k+1)=ys.take k++[y]:=by rw[Va8,hy]; rfl
  rw[e,e',List.zipWith_append (by rw[Vaw,Vaw]; omega),zdf]
  rfl
 ·rename_i no
  have hk:min xs.length ys.length≤k:=by
   by_cases l:k<min xs.length ys.length
   ·exact absurd (Vae (l:=ys) (i:=k) (by omega)) (no _ _ (Vae (l:=xs) (i:=k) (by omega)))
   ·omega
  refine⟨by omega,?_⟩
  have e:List.zipWith g (xs.take k) (ys.take k)=List.zipWith g xs ys:=by
   rw[← List.take_zipWith,Va1 (by rw[List.length_zipWith]; exact hk)]
  rw[e]
  exact hq
def zey (p q:Int×Int):Bool:=decide (q.1≤p.1)&&decide (p.2≤q.2)
def zbL (us vs:List (Int×Int)):Bool:=(List.zipWith zey us vs).all id
theorem zu3 {us vs:List (Int×Int)}:zbL us vs=true↔∀(k:Nat) (p q:Int×Int),us[k]?=some p→vs[k]?=some q→q.1≤p.1∧p.2≤q.2:=by
 unfold zbL
 rw[List.all_eq_true]
 refine⟨λh k p q hp hq=>?_,λh b hb=>?_⟩
 ·have z:=h (zey p q) (Val (i:=k) (by rw[List.getElem?_zipWith,hp,hq]))
  simpa [zey] using z
 ·obtain⟨k,hk⟩:=List.mem_iff_getElem?.mp hb
  rw[List.getElem?_zipWith] at hk
  cases e1:us[k]? with
  | none=>rw[e1] at hk; cases hk
  | some p=>
   cases e2:vs[k]? with
   | none=>rw[e1,e2] at hk; cases hk
   | some q=>
    rw[e1,e2] at hk
    obtain⟨a,b⟩:=h k p q e1 e2
    have z:=Option.some.inj hk
    subst z
    simp[zey,a,b]
theorem ztY (us vs:List (Int×Int)):zbG (List.zipWith (λx y=>match x,y with | .tup [.int a,.int b],.tup [.int c,.int d]=>.bl (decide (c≤a)&&decide (b≤d)) | _,_=>.non) (us.map frD) (vs.map frD))=some (List.zipWith zey us vs):=by
 induction us generalizing vs with
 | nil=>rfl
 | cons u us ih=>
  cases vs with
  | nil=>rfl
  | cons v vs=>
   show (zbG (List.zipWith _ (us.map frD) (vs.map frD))).map _=_
   rw[ih]
   rfl
theorem zsI {k m q:Int}(h:k≤m):∀ {v:Nd},v.ok k q→v.ok m q:=λ{v} ok=>by
 have z:∀i:Int,inR k i→inR m i:=λi hi=>⟨hi.1,by have:=hi.2; omega⟩
 cases v with
 | number _ _=>exact ok
 | unknown _=>exact ok
 | plus i j=>exact⟨z _ ok.1,z _ ok.2⟩
 | minus i j=>exact⟨z _ ok.1,z _ ok.2⟩
 | times i j=>exact⟨z _ ok.1,z _ ok.2⟩
 | power i n=>exact⟨z _ ok.1,ok.2⟩
theorem zue {vs us:List (Int×Int)}{k:Nat}{i:Int}(h:inR k i)(hk:k≤vs.length):gt (vs++us) i=gt vs i:=by
 have:=h.1
 have:=h.2
 unfold gt
 rw[Vas,Vas,Vah (by omega)]
theorem znv {vs:List (Int×Int)}{k:Nat}{p:Int×Int}(h:vs[k]?=some p):gt vs (k:Int)=p:=by
 unfold gt
 rw[Vas,Vaj,h]
 rfl
theorem Sz.pow' {n:Nat}{i:Int}(h:Sz n i){k:Nat}(hk:1≤k):Sz (n*k) (i^k):=by
 unfold Sz at *
 rw[Int.natAbs_pow,Nat.pow_mul]
 exact Nat.pow_lt_pow_left h (by omega)
theorem SzW.spn {ws:List Nat}{vs:List (Int×Int)}(h:SzW ws vs)(hw:∀k:Nat,k<vs.length→ws.getD k 0≤16):Spn 1000 vs:=Spn.of_w h hw
theorem SzW.snoc {ws:List Nat}{vs:List (Int×Int)}{p:Int×Int}(h:SzW ws vs)(h1:p.1≤p.2)(h2:Sz (60*ws.getD vs.length 0-1) p.1)(h3:Sz (60*ws.getD vs.length 0-1) p.2):SzW ws (vs++[p]):=λk q hq=>by
 by_cases hk:k<vs.length
 ·rw[Vah hk] at hq
  exact h k q hq
 ·have hl:=(Vab.mp hq).1
  simp only[Vad,Vap,VaM] at hl
  have ek:k=vs.length:=by omega
  subst ek
  simp at hq
  subst hq
  exact⟨h1,h2,h3⟩
theorem znl {caps:List Nat}{ta:TDA}{te:TDE}{dl:Ev}{S S1:Sto}{Q:DK}{j:Int}(W:Nat→List D→Sto→Prop)(hta:∀K:List D→Sto→Prop,K [.int j] S1→ta dl S K)(hj:0≤j∧j≤1000)(hw:∀k ys S2,W k ys S2→S2[S1.length]?=some (.lst ys)∧ys.length=k)(h0:W 0 [] (S1++[.lst []]))
  (ht:∀(k:Nat) (ys:List D) (S2:Sto) (K:DK),k<j.toNat→W k ys S2→(∀y S3,S3[S1.length]?=some (.lst ys)→W (k+1) (ys++[y]) (S3.set S1.length (.lst (ys++[y])))→K y S3)→te (some (.int (k:Int))::zbS caps dl) S2 K)
  (hq:∀ys S2,W j.toNat ys S2→Q (.ref S1.length) S2):zcy caps ta zcj te dl S Q:=by
 unfold zcy
 refine hta _ ⟨⟨by omega,by omega⟩,λk S2=>k≤j.toNat∧∃ys,W k ys S2,⟨VaA _,_,h0⟩,?_⟩
 rintro k S2 ⟨hk,ys,w⟩
 obtain⟨w2,w3⟩:=hw _ _ _ w
 split
 ·rename_i c
  unfold zdm zcj
  simp only[if_true]
  refine ht k ys S2 _ c w λy S3 e3 w4=>?_
  rw[e3]
  exact⟨by omega,by omega,_,w4⟩
 ·rename_i c
  have hk:k=j.toNat:=by omega
  exact hq ys S2 (hk ▸ w)
theorem zoe {vs:List Nd}{k:Nat}{v:Nd}(h:vs[k]?=some v):atI (vs.map Nd.d) (k:Int)=some v.d:=zcl (by rw[Vag,h]; rfl)
theorem zeK {to te:TDE}{dl:Ev}{S:Sto}{Q:DK}{n:Nat}{xs:List D}(hto:∀K:DK,K (.ref n) S→to dl S K)(h:S[n]?=some (.lst xs))(hte:∀K:DK,(∀(y:D) (S2:Sto),S2[n]?=some (.lst xs)→Q .non (S2.set n (.lst (xs++[y])))→K y S2)→te dl S K)(hl:xs.length<1000):zew to te dl S Q:=by
 unfold zew
 refine hto _ ?_
 simp only[h]
 refine hte _ λy S2 h2 q=>?_
 simp only[h2,if_pos hl]
 exact q
def zbu (S:Sto)(lo:Nat)(ds:List D)(R:List (List (Int×Int))):Prop:=ds.length=R.length∧∀(k:Nat) (d:D) (r:List (Int×Int)),ds[k]?=some d→R[k]?=some r→∃a,d=.ref a∧lo≤a∧S[a]?=some (.lst (r.map frD))
theorem zbu.nil {S:Sto}{lo:Nat}:zbu S lo [] []:=⟨rfl,λk d r h=>by simp at h⟩
theorem zbu.pre {S T:Sto}{lo:Nat}{ds:List D}{R:List (List (Int×Int))}(h:zbu S lo ds R)(p:Pre S T):zbu T lo ds R:=⟨h.1,λk d r hd hr=>by
 obtain⟨a,e,l,s⟩:=h.2 k d r hd hr
 exact⟨a,e,l,p _ _ s⟩⟩
theorem zbu.low {S:Sto}{lo lo':Nat}{ds:List D}{R:List (List (Int×Int))}(h:zbu S lo ds R)(l:lo'≤lo):zbu S lo' ds R:=⟨h.1,λk d r hd hr=>by
 obtain⟨a,e,l,s⟩:=h.2 k d r hd hr
 exact⟨a,e,by omega,s⟩⟩
theorem zbu.keep {S T:Sto}{lo:Nat}{ds:List D}{R:List (List (Int×Int))}(h:zbu S lo ds R)(p:∀(x:Nat) (o:Ob),lo≤x→S[x]?=some o→T[x]?=some o):zbu T lo ds R:=⟨h.1,λk d r hd hr=>by
 obtain⟨a,e,l,s⟩:=h.2 k d r hd hr
 exact⟨a,e,l,p _ _ l s⟩⟩
theorem zbu.at {S:Sto}{lo:Nat}{ds:List D}{R:List (List (Int×Int))}(h:zbu S lo ds R){i:Int}(hi:inR R.length i):∃a,atI ds i=some (.ref a)∧lo≤a∧S[a]?=some (.lst ((R.getD i.toNat []).map frD)):=by
 obtain⟨h0,h1⟩:=hi
 have hk:i.toNat<R.length:=by omega
 have hk':i.toNat<ds.length:=by rw[h.1]; exact hk
 obtain⟨a,e,l,s⟩:=h.2 i.toNat _ _ (Vae hk') (Vae hk)
 refine⟨a,?_,l,?_⟩
 ·have z:=zcl (xs:=ds) (j:=i.toNat) (v:=.ref a) (by rw[Vae hk',e])
  rw[show ((i.toNat:Nat):Int)=i by omega] at z
  exact z
 ·rw[s]
  simp[hk]
theorem zbu.snoc {S:Sto}{lo:Nat}{ds:List D}{R:List (List (Int×Int))}{a:Nat}{r:List (Int×Int)}(h:zbu S lo ds R)(hl:lo≤a)(hs:S[a]?=some (.lst (r.map frD))):zbu S lo (ds++[.ref a]) (R++[r]):=⟨by rw[Vad,Vad,h.1]; rfl,λk d r' hd hr=>by
 by_cases hk:k<ds.length
 ·rw[Vah hk] at hd
  rw[Vah (by rw[← h.1]; exact hk)] at hr
  exact h.2 k d r' hd hr
 ·have l:=(Vab.mp hd).1
  simp only[Vad,Vap,VaM] at l
  have ek:k=ds.length:=by omega
  subst ek
  rw[Vaq (Vaa _),VaP] at hd
  rw[h.1,Vaq (Vaa _),VaP] at hr
  cases hd
  cases hr
  exact⟨a,rfl,hl,hs⟩⟩
abbrev gs (sl:List (List (Int×Int)))(i:Int)(l:Nat):Int×Int:=(sl.getD i.toNat []).getD l (0,0)
def zev (p q:Int×Int)(g:Int):Int×Int:=(mn4 p.1 p.2 q.1 q.2/g,-(-mx4 p.1 p.2 q.1 q.2/g))
def facS (p:Int×Int)(n g:Int):Int×Int:=(zbi p.1 p.2 (n-1).toNat/g^((n-1).toNat-1)*n,-(-zci p.1 p.2 (n-1).toNat/g^((n-1).toNat-1))*n)
def Nd.sl (vs:List (Int×Int))(sl:List (List (Int×Int)))(g:Int)(l:Nat):Nd→Int×Int
 | .number _ _=>(0,0)
 | .unknown k=>if (l:Int)=k then (g,g) else (0,0)
 | .plus i j=>((gs sl i l).1+(gs sl j l).1,(gs sl i l).2+(gs sl j l).2)
 | .minus i j=>((gs sl i l).1-(gs sl j l).2,(gs sl i l).2-(gs sl j l).1)
 | .times i j=>((zev (gt vs i) (gs sl j l) g).1+(zev (gt vs j) (gs sl i l) g).1,(zev (gt vs i) (gs sl j l) g).2+(zev (gt vs j) (gs sl i l) g).2)
 | .power i n=>zev (facS (gt vs i) n g) (gs sl i l) g
def SlW (q:Nat)(ws:List Nat)(sl:List (List (Int×Int))):Prop:=∀(k:Nat) (r:List (Int×Int)),sl[k]?=some r→r.length=q∧∀p∈r,p.1≤p.2∧Sz (64*ws.getD k 0-1) p.1∧Sz (64*ws.getD k 0-1) p.2
theorem SlW.at {q:Nat}{ws:List Nat}{sl:List (List (Int×Int))}(h:SlW q ws sl){i:Int}(hi:inR sl.length i):(sl.getD i.toNat []).length=q∧∀l,l<q→(gs sl i l).1≤(gs sl i l).2∧Sz (64*ws.getD i.toNat 0-1) (gs sl i l).1∧Sz (64*ws.getD i.toNat 0-1) (gs sl i l).2:=by
 obtain⟨h0,h1⟩:=hi
 have hk:i.toNat<sl.length:=by omega
 obtain⟨a,b⟩:=h i.toNat _ (Vae hk)
 have e:sl.getD i.toNat []=sl[i.toNat]:=by simp[hk]
 refine⟨by rw[e]; exact a,λl hl=>?_⟩
 have e2:gs sl i l=sl[i.toNat][l]'(by rw[a]; exact hl):=by
  unfold gs
  rw[e]
  simp[show l<sl[i.toNat].length by rw[a]; exact hl]
 rw[e2]
 exact b _ (Va6 _)
theorem SlW.snoc {q:Nat}{ws:List Nat}{sl:List (List (Int×Int))}{r:List (Int×Int)}(h:SlW q ws sl)(hr:r.length=q)(hp:∀p∈r,p.1≤p.2∧Sz (64*ws.getD sl.length 0-1) p.1∧Sz (64*ws.getD sl.length 0-1) p.2):SlW q ws (sl++[r]):=λk u hu=>by
 by_cases hk:k<sl.length
 ·rw[Vah hk] at hu
  exact h k u hu
 ·have l:=(Vab.mp hu).1
  simp only[Vad,Vap,VaM] at l
  have ek:k=sl.length:=by omega
  subst ek
  rw[Vaq (Vaa _),VaP] at hu
  cases hu
  exact⟨hr,hp⟩
theorem SlW.spn {q:Nat}{ws:List Nat}{sl:List (List (Int×Int))}(h:SlW q ws sl)(hw:∀k:Nat,k<sl.length→ws.getD k 0≤16):∀i:Int,inR sl.length i→(sl.getD i.toNat []).length=q∧∀l,l<q→(gs sl i l).1≤(gs sl i l).2∧Sz 1100 (gs sl i l).1∧Sz 1100 (gs sl i l).2:=λi hi=>by
 obtain⟨a,b⟩:=h.at hi
 refine⟨a,λl hl=>?_⟩
 obtain⟨c,d,e⟩:=b l hl
 have:=hw i.toNat (by have:=hi.1; have:=hi.2; omega)
 exact⟨c,d.mono (by omega),e.mono (by omega)⟩
def addS (p q:Int×Int):Int×Int:=(p.1+q.1,p.2+q.2)
def takeS (p q:Int×Int):Int×Int:=(p.1-q.2,p.2-q.1)
def rwD (r:Bool×Nat):D:=.tup [.str (if r.1 then "zero" else "least"),.int (r.2:Int)]
def zmr (S:Sto)(ds:List D)(M:List (List Int)):Prop:=ds.length=M.length∧∀(k:Nat) (d:D) (r:List Int),ds[k]?=some d→M[k]?=some r→∃a,d=.ref a∧S[a]?=some (.lst (r.map D.int))
theorem zmr.pre {S T:Sto}{ds:List D}{M:List (List Int)}(h:zmr S ds M)(p:Pre S T):zmr T ds M:=⟨h.1,λk d r hd hr=>by
 obtain⟨a,e,s⟩:=h.2 k d r hd hr
 exact⟨a,e,p _ _ s⟩⟩
theorem zmE {A B x:Int}(y:Int)(h1:A≤x)(h2:x≤B):min (A*y) (B*y)≤x*y∧x*y≤max (A*y) (B*y):=by
 rcases Int.le_total 0 y with h | h
 ·have a:=Vam h1 h
  have b:=Vam h2 h
  omega
 ·have a:=Vam h1 (show 0≤-y by omega)
  have b:=Vam h2 (show 0≤-y by omega)
  simp only[Int.mul_neg] at a b
  omega
theorem zpx {A B C D x y:Int}(h1:A≤x)(h2:x≤B)(h3:C≤y)(h4:y≤D):mn4 A B C D≤x*y∧x*y≤mx4 A B C D:=by
 have a:=zmE y h1 h2
 have b:=zmE A h3 h4
 have c:=zmE B h3 h4
 rw[Va0 C A,Va0 D A,Va0 y A] at b
 rw[Va0 C B,Va0 D B,Va0 y B] at c
 unfold mn4 mx4
 omega
theorem zjP {vs:List (Int×Int)}{p:Int×Int}{i:Int}(h:inR vs.length i):gt (vs++[p]) i=gt vs i:=by
 have hk:i.toNat<vs.length:=by
  have:=h.1
  have:=h.2
  omega
 simp only[gt,Vas,Vah hk]
theorem zjC {vs:List (Int×Int)}{p:Int×Int}{k:Nat}(h:vs.length=k):gt (vs++[p]) (k:Int)=p:=by
 subst h
 simp[gt]
def Gd (B:Nat)(vs:List (Int×Int)):Prop:=∀p∈vs,1≤p.2∧Int.gcd p.1 p.2=1∧Sz B p.1∧Sz B p.2
theorem Gd.at {B:Nat}{vs:List (Int×Int)}(h:Gd B vs){i:Int}(hi:inR vs.length i):1≤(gt vs i).2∧Int.gcd (gt vs i).1 (gt vs i).2=1∧Sz B (gt vs i).1∧Sz B (gt vs i).2:=h _ (zfW hi)
theorem Gd.mono {B C:Nat}{vs:List (Int×Int)}(h:Gd B vs)(hc:B≤C):Gd C vs:=λp hp=>⟨(h p hp).1,(h p hp).2.1,(h p hp).2.2.1.mono hc,(h p hp).2.2.2.mono hc⟩
def Pz (B:Nat)(vs:List (Int×Int)):Prop:=∀p∈vs,1≤p.2∧Sz B p.1∧Sz B p.2
theorem Pz.at {B:Nat}{vs:List (Int×Int)}(h:Pz B vs){i:Int}(hi:inR vs.length i):1≤(gt vs i).2∧Sz B (gt vs i).1∧Sz B (gt vs i).2:=h _ (zfW hi)
def Nd.due (vs ps:List (Int×Int)):Nd→Int×Int
 | .number t b=>(t,b)
 | .unknown k=>gt ps k
 | .plus i j=>((gt vs i).1*(gt vs j).2+(gt vs j).1*(gt vs i).2,(gt vs i).2*(gt vs j).2)
 | .minus i j=>((gt vs i).1*(gt vs j).2-(gt vs j).1*(gt vs i).2,(gt vs i).2*(gt vs j).2)
 | .times i j=>((gt vs i).1*(gt vs j).1,(gt vs i).2*(gt vs j).2)
 | .power i n=>((gt vs i).1^n.toNat,(gt vs i).2^n.toNat)
def PzW (ws:List Nat)(vs:List (Int×Int)):Prop:=∀(k:Nat) (p:Int×Int),vs[k]?=some p→1≤p.2∧Sz (112*ws.getD k 0-2) p.1∧Sz (112*ws.getD k 0-2) p.2
theorem PzW.at {ws:List Nat}{vs:List (Int×Int)}(h:PzW ws vs){i:Int}(hi:inR vs.length i):1≤(gt vs i).2∧Sz (112*ws.getD i.toNat 0-2) (gt vs i).1∧Sz (112*ws.getD i.toNat 0-2) (gt vs i).2:=by
 obtain⟨h0,h1⟩:=hi
 have hk:i.toNat<vs.length:=by omega
 have e:gt vs i=vs[i.toNat]:=by simp[gt,hk]
 rw[e]
 exact h _ _ (Vae hk)
theorem due_w {ws:List Nat}{vs ps:List (Int×Int)}(hs:PzW ws vs)(hp:Pz 110 ps)(hw:∀i:Int,inR vs.length i→1≤ws.getD i.toNat 0):∀v:Nd,v.ok vs.length ps.length→1≤(v.due vs ps).2∧Sz (112*v.wt ws-2) (v.due vs ps).1∧Sz (112*v.wt ws-2) (v.due vs ps).2
 | .number t b,ok=>⟨ok.1.1,(Sz.of (n:=31) (10^9) ok.2.2).mono (show 31≤112*1-2 by decide),(Sz.of (n:=31) (10^9) (by have:=ok.1; show b.natAbs≤_; omega)).mono (show 31≤112*1-2 by decide)⟩
 | .unknown k,ok=>⟨(hp.at ok).1,(hp.at ok).2.1.mono (show 110≤112*1-2 by decide),(hp.at ok).2.2.mono (show 110≤112*1-2 by decide)⟩
 | .plus i j,ok=>by
  have a:=hs.at ok.1
  have b:=hs.at ok.2
  have p:=hw i ok.1
  have q:=hw j ok.2
  exact⟨Va9 (show 0<_ by omega) (show 0<_ by omega),((a.2.1.mul b.2.2).add (b.2.1.mul a.2.2)).mono (by simp only[Nd.wt]; omega),(a.2.2.mul b.2.2).mono (by simp only[Nd.wt]; omega)⟩
 | .minus i j,ok=>by
  have a:=hs.at ok.1
  have b:=hs.at ok.2
  have p:=hw i ok.1
  have q:=hw j ok.2
  exact⟨Va9 (show 0<_ by omega) (show 0<_ by omega),((a.2.1.mul b.2.2).sub (b.2.1.mul a.2.2)).mono (by simp only[Nd.wt]; omega),(a.2.2.mul b.2.2).mono (by simp only[Nd.wt]; omega)⟩
 | .times i j,ok=>by
  have a:=hs.at ok.1
  have b:=hs.at ok.2
  have p:=hw i ok.1
  have q:=hw j ok.2
  exact⟨Va9 (show 0<_ by omega) (show 0<_ by omega),(a.2.1.mul b.2.1).mono (by simp only[Nd.wt]; omega),(a.2.2.mul b.2.2).mono (by simp only[Nd.wt]; omega)⟩
 | .power i n,ok=>by
  have a:=hs.at ok.1
  have p:=hw i ok.1
  have n2:=ok.2.1
  have hn:(112*ws.getD i.toNat 0-2)*n.toNat+1≤112*Nd.wt ws (.power i n)-2:=by
   simp only[Nd.wt]
   rw[Nat.sub_mul]
   have e:112*ws.getD i.toNat 0*n.toNat=112*(n.toNat*ws.getD i.toNat 0):=by rw[Nat.mul_assoc,Nat.mul_comm (ws.getD i.toNat 0)]
   have m1:=VaU (Vaa n.toNat) p
   omega
  exact⟨VaS (show 0<_ by omega),(a.2.1.pow _).mono hn,(a.2.2.pow _).mono hn⟩
def zap (ps:List (Int×Int))(ns:List Nd):List (Int×Int):=ns.foldl (λacc v=>acc++[v.due acc ps]) []
theorem zdd (ps:List (Int×Int))(ns:List Nd)(v:Nd):zap ps (ns++[v])=zap ps ns++[v.due (zap ps ns) ps]:=by
 unfold zap
 rw[List.foldl_append]
 rfl
theorem zcH (ps:List (Int×Int))(ns:List Nd):(zap ps ns).length=ns.length:=by
 have z:∀k,k≤ns.length→(zap ps (ns.take k)).length=k:=λk=>by
  induction k with
  | zero=>intro _; rfl
  | succ k ih=>
   intro hk
   rw[zc9 (Vae (show k<ns.length by omega)),zdd]
   simp[ih (by omega)]
 have y:=z ns.length (Vaa _)
 rwa [List.take_length] at y
theorem zpd {ws:List Nat}{vs:List (Int×Int)}{p:Int×Int}{k:Nat}(h:PzW ws vs)(lk:vs.length=k)(hp:1≤p.2∧Sz (112*ws.getD k 0-2) p.1∧Sz (112*ws.getD k 0-2) p.2):PzW ws (vs++[p]):=λi q hq=>by
 by_cases hi:i<k
 ·rw[Vah (by omega)] at hq
  exact h i q hq
 ·have hl:=(Vab.mp hq).1
  simp only[Vad,Vap,VaM,lk] at hl
  have ei:i=k:=by omega
  subst ei
  rw[Vaq (by omega),lk,VaP] at hq
  simp at hq
  subst hq
  exact hp
theorem ztd {q:Int}{ns:List Nd}{ws:List Nat}(h:zaL q ns ws){k:Nat}{vs:List (Int×Int)}(hk:k≤ns.length)(lv:vs.length=k):∀i:Int,inR vs.length i→1≤ws.getD i.toNat 0:=λi hi=>(h.w1 (i:=i) ⟨hi.1,by have:=hi.2; omega⟩).1
theorem zgm {q:Int}{ns:List Nd}{ws:List Nat}{ps:List (Int×Int)}(h:zaL q ns ws)(hq:q=ps.length)(hp:Pz 110 ps):∀k,k≤ns.length→PzW ws (zap ps (ns.take k)):=by
 intro k
 induction k with
 | zero=>intro _ i p hp; simp[zap] at hp
 | succ k ih=>
  intro hk
  have hv:=Vae (show k<ns.length by omega)
  have s:=ih (by omega)
  have ln:(zap ps (ns.take k)).length=k:=by rw[zcH,Vaw]; omega
  obtain⟨ok,e,_,_⟩:=h.ok k _ hv
  rw[zc9 hv,zdd]
  refine zpd s ln ?_
  rw[e]
  exact due_w s hp (ztd h (by omega) ln) _ (by rw[ln,← hq]; exact ok)
theorem Pz.of_w {ws:List Nat}{vs:List (Int×Int)}(h:PzW ws vs)(hw:∀k:Nat,k<vs.length→ws.getD k 0≤16):Pz 1800 vs:=λp hp=>by
 obtain⟨k,hk,e⟩:=VaN.mp hp
 obtain⟨a,b,c⟩:=h k p (by rw[Vae hk,e])
 have:=hw k hk
 exact⟨a,b.mono (by omega),c.mono (by omega)⟩
theorem zeI {p q k:Int}(h:0≤k):min (p*k) (q*k)=min p q*k∧max (p*k) (q*k)=max p q*k:=by
 rcases Int.le_total p q with c | c
 ·have:=Vam c h
  rw[Int.min_eq_left c,Int.max_eq_right c]
  omega
 ·have:=Vam c h
  rw[Int.min_eq_right c,Int.max_eq_left c]
  omega
theorem zoD {a b c d p q:Int}(h:0≤p*q):mn4 (a*p) (b*p) (c*q) (d*q)=mn4 a b c d*(p*q)∧mx4 (a*p) (b*p) (c*q) (d*q)=mx4 a b c d*(p*q):=by
 have e:∀x y:Int,x*p*(y*q)=x*y*(p*q):=λx y=>by grind
 unfold mn4 mx4
 rw[e,e,e,e]
 refine⟨?_,?_⟩
 ·rw[(zeI h).1,(zeI h).1,(zeI h).1]
 ·rw[(zeI h).2,(zeI h).2,(zeI h).2]
theorem ztg {a b p x:Int}{n:Nat}(hn:1≤n)(hp:1≤p)(h1:a*p≤x)(h2:x≤b*p):zbi a b n*p^n≤x^n∧x^n≤zci a b n*p^n:=by
 have pp:0<p^n:=VaS (by omega)
 have lo1:zbi a b n≤a^n:=by
  unfold zbi
  split
  ·rename_i c; exact zdo c.1 a
  ·omega
 have lo2:zbi a b n≤b^n:=by
  unfold zbi
  split
  ·rename_i c; exact zdo c.1 b
  ·omega
 refine ztc hn h1 h2 ?_ ?_ (λha hb=>?_) ?_ ?_
 ·rw[Int.mul_pow]; exact Vam lo1 (by omega)
 ·rw[Int.mul_pow]; exact Vam lo2 (by omega)
 ·have a0:a<0:=by
   by_cases c:a<0
   ·exact c
   ·have:=VaL (show 0≤a by omega) (show 0≤p by omega)
    omega
  have b0:0<b:=by
   by_cases c:0<b
   ·exact c
   ·have:=VaL (show 0≤-b by omega) (show 0≤p by omega)
    rw[VaO] at this
    omega
  have z:zbi a b n≤0:=by
   unfold zbi
   split
   ·exact VaR _
   ·rename_i c
    have:=zny (n:=n) (by omega) a0
    omega
  have:=VaL (show 0≤-zbi a b n by omega) (show 0≤p^n by omega)
  rw[VaO] at this
  omega
 ·rw[Int.mul_pow]; exact Vam (by unfold zci; omega) (by omega)
 ·rw[Int.mul_pow]; exact Vam (by unfold zci; omega) (by omega)
theorem zno {m M G X B:Int}(hG:1≤G)(hB:0≤B)(h1:m*B≤X*G)(h2:X*G≤M*B):m/G*B≤X∧X≤-(-M/G)*B:=by
 have a:=Vam (zd8 m (show 0<G by omega)).1 hB
 have b:=Vam (zlj M (show 0<G by omega)).1 hB
 have e1:m/G*G*B=m/G*B*G:=by grind
 have e2:-(-M/G)*G*B=-(-M/G)*B*G:=by grind
 rw[e1] at a
 rw[e2] at b
 exact⟨Va3 (a:=G) (by omega) (by omega),Va3 (a:=G) (by omega) (by omega)⟩
theorem zsd {lo hi w p g t b:Int}(h:lo≤hi)(hw:1≤w)(hg:1≤g)(p0:0≤p)(p1:p≤w)(hb:1≤b)(e:t*(g*w)=(lo*w+(hi-lo)*p)*b):lo*b≤t*g∧t*g≤hi*b:=by
 have a1:=VaL (show 0≤hi-lo by omega) p0
 have a2:=Int.mul_le_mul_of_nonneg_left p1 (show 0≤hi-lo by omega)
 have b1:=Vam (show lo*w≤lo*w+(hi-lo)*p by omega) (show 0≤b by omega)
 have e2:(hi-lo)*w=hi*w-lo*w:=by grind
 have b2:=Vam (show lo*w+(hi-lo)*p≤hi*w by omega) (show 0≤b by omega)
 rw[← e] at b1 b2
 have c1:lo*w*b=lo*b*w:=by grind
 have c2:hi*w*b=hi*b*w:=by grind
 have c3:t*(g*w)=t*g*w:=by grind
 rw[c1,c3] at b1
 rw[c2,c3] at b2
 exact⟨Va3 b1 (by omega),Va3 b2 (by omega)⟩
theorem zuG {lo hi w p:Int}(h:lo≤hi)(s1:Sz 51 lo)(s2:Sz 51 hi)(hw:1≤w∧w≤1000000000)(p0:0≤p)(p1:p≤w):IntMulOk lo w∧IntMulOk (hi-lo) p∧Sz 84 (lo*w+(hi-lo)*p):=by
 have sw:Sz 30 w:=Sz.of 1000000000 (by omega)
 have sp:Sz 30 p:=Sz.of 1000000000 (by omega)
 have sd:Sz 52 (hi-lo):=s2.sub s1
 exact⟨zaY s1 sw,zaY sd sp,((s1.mul sw).add (sd.mul sp)).mono (by decide)⟩
def InW (g:Int)(vs ds:List (Int×Int)):Prop:=∀i:Int,inR ds.length i→(gt vs i).1*(gt ds i).2≤(gt ds i).1*g∧(gt ds i).1*g≤(gt vs i).2*(gt ds i).2
theorem zqp {vs bs ds ps:List (Int×Int)}{g:Int}{B:Nat}(hg:1≤g)(h:InW g vs ds)(hp:InW g bs ps)(pd:Pz B ds)(pp:Pz B ps):∀v:Nd,v.ok ds.length ps.length→(v.fw vs bs g).1*(v.due ds ps).2≤(v.due ds ps).1*g∧(v.due ds ps).1*g≤(v.fw vs bs g).2*(v.due ds ps).2
 | .number t b,ok=>⟨(zd8 (t*g) (show 0<b by have:=ok.1.1; omega)).1,(zlj (t*g) (show 0<b by have:=ok.1.1; omega)).1⟩
 | .unknown k,ok=>hp k ok
 | .plus i j,ok=>by
  have a:=h i ok.1
  have b:=h j ok.2
  have p1:=(pd.at ok.1).1
  have p2:=(pd.at ok.2).1
  simp only[Nd.fw,Nd.due]
  have a1:=Vam a.1 (show 0≤(gt ds j).2 by omega)
  have a2:=Vam a.2 (show 0≤(gt ds j).2 by omega)
  have b1:=Vam b.1 (show 0≤(gt ds i).2 by omega)
  have b2:=Vam b.2 (show 0≤(gt ds i).2 by omega)
  grind
 | .minus i j,ok=>by
  have a:=h i ok.1
  have b:=h j ok.2
  have p1:=(pd.at ok.1).1
  have p2:=(pd.at ok.2).1
  simp only[Nd.fw,Nd.due]
  have a1:=Vam a.1 (show 0≤(gt ds j).2 by omega)
  have a2:=Vam a.2 (show 0≤(gt ds j).2 by omega)
  have b1:=Vam b.1 (show 0≤(gt ds i).2 by omega)
  have b2:=Vam b.2 (show 0≤(gt ds i).2 by omega)
  grind
 | .times i j,ok=>by
  have a:=h i ok.1
  have b:=h j ok.2
  have p1:=(pd.at ok.1).1
  have p2:=(pd.at ok.2).1
  have pq:0≤(gt ds i).2*(gt ds j).2:=VaL (by omega) (by omega)
  have z:=zpx a.1 a.2 b.1 b.2
  rw[(zoD pq).1,(zoD pq).2] at z
  have e:(gt ds i).1*g*((gt ds j).1*g)=(gt ds i).1*(gt ds j).1*g*g:=by grind
  rw[e] at z
  exact zno hg pq z.1 z.2
 | .power i n,ok=>by
  have a:=h i ok.1
  have p1:=(pd.at ok.1).1
  have n2:=ok.2.1
  obtain⟨k,hk⟩:∃k,n.toNat=k+1:=⟨n.toNat-1,by omega⟩
  have z:=ztg (n:=n.toNat) (by omega) p1 a.1 a.2
  have e:((gt ds i).1*g)^n.toNat=(gt ds i).1^n.toNat*g*g^(n.toNat-1):=by
   rw[Int.mul_pow,hk,Nat.add_sub_cancel,VaI g k]
   grind
  rw[e] at z
  exact zno (VaS (by omega)) (Int.le_of_lt (VaS (by omega))) z.1 z.2
def hs:Nat→Int→Int→Int
 | 0,_,_=>0
 | k+1,x,y=>x*hs k x y+y^k
def In (p:Int×Int)(x:Rat):Prop:=(p.1:Rat)≤x∧x≤(p.2:Rat)
theorem zm9 {a b g:Rat}(hg:0<g)(h:g*a≤g*b):a≤b:=by
 by_cases c:a≤b
 ·exact c
 ·have d:b<a:=Rat.not_le.mp c
  have z:=Rat.mul_pos hg (show 0<a-b by grind)
  grind
theorem zlb {a b:Int}(h:a≤b):(a:Rat)≤(b:Rat):=Rat.intCast_le_intCast.mpr h
theorem In.add {p q:Int×Int}{x y:Rat}(h1:In p x)(h2:In q y):In (addS p q) (x+y):=by
 obtain⟨a,b⟩:=h1
 obtain⟨c,d⟩:=h2
 refine⟨?_,?_⟩
 ·show ((p.1+q.1:Int):Rat)≤_
  rw[Rat.intCast_add]; grind
 ·show _≤((p.2+q.2:Int):Rat)
  rw[Rat.intCast_add]; grind
theorem In.take {p q:Int×Int}{x y:Rat}(h1:In p x)(h2:In q y):In (takeS p q) (x-y):=by
 obtain⟨a,b⟩:=h1
 obtain⟨c,d⟩:=h2
 refine⟨?_,?_⟩
 ·show ((p.1-q.2:Int):Rat)≤_
  rw[Rat.intCast_sub]; grind
 ·show _≤((p.2-q.1:Int):Rat)
  rw[Rat.intCast_sub]; grind
theorem zsT {A B C D x y:Rat}(h1:A≤x)(h2:x≤B)(h3:C≤y)(h4:y≤D):(A*C≤x*y∨A*D≤x*y∨B*C≤x*y∨B*D≤x*y)∧(x*y≤A*C∨x*y≤A*D∨x*y≤B*C∨x*y≤B*D):=by
 have m:∀ {u v:Rat},0≤u→0≤v→0≤u*v:=λa b=>Rat.mul_nonneg a b
 rcases Rat.le_total (a:=0) (b:=y) with hy | hy
 ·have a1:=m (show 0≤x-A by grind) hy
  have a2:=m (show 0≤B-x by grind) hy
  refine⟨?_,?_⟩
  ·rcases Rat.le_total (a:=0) (b:=A) with hA | hA
   ·have:=m hA (show 0≤y-C by grind)
    exact .inl (by grind)
   ·have:=m (show 0≤-A by grind) (show 0≤D-y by grind)
    exact .inr (.inl (by grind))
  ·rcases Rat.le_total (a:=0) (b:=B) with hB | hB
   ·have:=m hB (show 0≤D-y by grind)
    exact .inr (.inr (.inr (by grind)))
   ·have:=m (show 0≤-B by grind) (show 0≤y-C by grind)
    exact .inr (.inr (.inl (by grind)))
 ·have a1:=m (show 0≤x-A by grind) (show 0≤-y by grind)
  have a2:=m (show 0≤B-x by grind) (show 0≤-y by grind)
  refine⟨?_,?_⟩
  ·rcases Rat.le_total (a:=0) (b:=B) with hB | hB
   ·have:=m hB (show 0≤y-C by grind)
    exact .inr (.inr (.inl (by grind)))
   ·have:=m (show 0≤-B by grind) (show 0≤D-y by grind)
    exact .inr (.inr (.inr (by grind)))
  ·rcases Rat.le_total (a:=0) (b:=A) with hA | hA
   ·have:=m hA (show 0≤D-y by grind)
    exact .inr (.inl (by grind))
   ·have:=m (show 0≤-A by grind) (show 0≤y-C by grind)
    exact .inl (by grind)
theorem In.mul {p q:Int×Int}{x y:Rat}{g:Int}(hg:1≤g)(h1:In p x)(h2:In q y):In (zev p q g) (x*y/(g:Rat)):=by
 have gp:(0:Rat)<(g:Rat):=Rat.intCast_pos.mpr (by omega)
 have ge:(g:Rat)*(x*y/(g:Rat))=x*y:=by grind
 have c:=zsT h1.1 h1.2 h2.1 h2.2
 have lo:((mn4 p.1 p.2 q.1 q.2:Int):Rat)≤x*y:=by
  have t:∀u:Int,mn4 p.1 p.2 q.1 q.2≤u→((mn4 p.1 p.2 q.1 q.2:Int):Rat)≤(u:Rat):=λu h=>zlb h
  have e1:=t (p.1*q.1) (by unfold mn4; omega)
  have e2:=t (p.1*q.2) (by unfold mn4; omega)
  have e3:=t (p.2*q.1) (by unfold mn4; omega)
  have e4:=t (p.2*q.2) (by unfold mn4; omega)
  rw[Rat.intCast_mul] at e1 e2 e3 e4
  rcases c.1 with z | z | z | z <;> grind
 have hi:x*y≤((mx4 p.1 p.2 q.1 q.2:Int):Rat):=by
  have t:∀u:Int,u≤mx4 p.1 p.2 q.1 q.2→(u:Rat)≤((mx4 p.1 p.2 q.1 q.2:Int):Rat):=λu h=>zlb h
  have e1:=t (p.1*q.1) (by unfold mx4; omega)
  have e2:=t (p.1*q.2) (by unfold mx4; omega)
  have e3:=t (p.2*q.1) (by unfold mx4; omega)
  have e4:=t (p.2*q.2) (by unfold mx4; omega)
  rw[Rat.intCast_mul] at e1 e2 e3 e4
  rcases c.2 with z | z | z | z <;> grind
 refine⟨zm9 gp ?_,zm9 gp ?_⟩
 ·have z:=zlb (zd8 (mn4 p.1 p.2 q.1 q.2) (show 0<g by omega)).1
  rw[Rat.intCast_mul] at z
  rw[ge]
  show (g:Rat)*((mn4 p.1 p.2 q.1 q.2/g:Int):Rat)≤_
  grind
 ·have z:=zlb (zlj (mx4 p.1 p.2 q.1 q.2) (show 0<g by omega)).1
  rw[Rat.intCast_mul] at z
  rw[ge]
  show _≤(g:Rat)*((-(-mx4 p.1 p.2 q.1 q.2/g):Int):Rat)
  grind
theorem znk {G:Int→Prop}:∀xs:List D,(∀(k:Nat) (d:D),xs[k]?=some d→∃t,d=.int t∧G t)→∃ts:List Int,xs=ts.map D.int∧∀t∈ts,G t
 | [],_=>⟨[],rfl,λp h=>by cases h⟩
 | x::xs,h=>by
  obtain⟨p,rfl,hp⟩:=h 0 x rfl
  obtain⟨vs,rfl,hv⟩:=znk xs λk d hd=>h (k+1) d hd
  exact⟨p::vs,rfl,λq hq=>by
   rcases Vaf.mp hq with e | e
   ·subst e; exact hp
   ·exact hv q e⟩
theorem zoT {ts:List Int}{k:Nat}(h:k<ts.length):atI (ts.map D.int) (k:Int)=some (.int (ts.getD k 0)):=zcl (by rw[Vag,Vae h]; simp[h])
def zdC (bs:List (Int×Int))(ts:List Int)(W g:Int)(k:Nat):Int×Int:=((gt bs k).1*W+((gt bs k).2-(gt bs k).1)*ts.getD k 0,g*W)
def pts (bs:List (Int×Int))(ts:List Int)(W g:Int)(n:Nat):List (Int×Int):=(List.range n).map λk=>zdC bs ts W g k
theorem zmL (bs:List (Int×Int))(ts:List Int)(W g:Int)(n:Nat):(pts bs ts W g n).length=n:=by simp[pts]
theorem zqs (bs:List (Int×Int))(ts:List Int)(W g:Int)(n:Nat):pts bs ts W g (n+1)=pts bs ts W g n++[zdC bs ts W g n]:=by simp[pts,List.range_succ]
theorem zsH {bs:List (Int×Int)}{ts:List Int}{W g:Int}{n:Nat}{i:Int}(h:inR n i):gt (pts bs ts W g n) i=zdC bs ts W g i.toNat:=by
 have:=h.1
 have:=h.2
 unfold gt pts
 rw[Vas,Vag,List.getElem?_range (by omega)]
 rfl
theorem zlo {bs:List (Int×Int)}{ts:List Int}{W g:Int}{k:Nat}(sb:Spn 51 bs)(hw:1≤W∧W≤60)(ht:∀t∈ts,0≤t∧t≤W)(hg:1≤g∧g≤1000000)(hk:k<bs.length)(hl:bs.length=ts.length):
  (0≤ts.getD k 0∧ts.getD k 0≤W)∧(gt bs k).1≤(gt bs k).2∧IntMulOk (gt bs k).1 W∧IntMulOk ((gt bs k).2-(gt bs k).1) (ts.getD k 0)∧1≤g*W∧Sz 110 (zdC bs ts W g k).1∧Sz 110 (g*W):=by
 have hk':k<ts.length:=by omega
 have m:ts.getD k 0∈ts:=by
  have e:ts.getD k 0=ts[k]:=by simp[hk']
  rw[e]
  exact Va6 hk'
 have t:=ht _ m
 have b:=sb.at (i:=(k:Int)) ⟨by omega,by omega⟩
 have z:=zuG b.1 b.2.1 b.2.2 ⟨hw.1,by omega⟩ t.1 t.2
 refine⟨t,b.1,z.1,z.2.1,Va9 (by omega) (by omega),z.2.2.mono (by decide),?_⟩
 exact((Sz.of (n:=21) 1000000 (show g.natAbs≤_ by omega)).mul (Sz.of (n:=7) 60 (show W.natAbs≤_ by omega))).mono (by decide)
theorem zqb {bs:List (Int×Int)}{ts:List Int}{W g:Int}(sb:Spn 51 bs)(hw:1≤W∧W≤60)(ht:∀t∈ts,0≤t∧t≤W)(hg:1≤g∧g≤1000000)(hl:bs.length=ts.length):InW g bs (pts bs ts W g bs.length):=λi hi=>by
 rw[zmL] at hi
 rw[zsH hi]
 have h0:=hi.1
 have h1:=hi.2
 have e:((i.toNat:Nat):Int)=i:=by omega
 obtain⟨t,b,_,_,a,_,_⟩:=zlo (k:=i.toNat) sb hw ht hg (by omega) hl
 rw[e] at b
 have z:=zsd (lo:=(gt bs i).1) (hi:=(gt bs i).2) (w:=W) (p:=ts.getD i.toNat 0) (g:=g) (t:=(zdC bs ts W g i.toNat).1) (b:=g*W) b hw.1 hg.1 t.1 t.2 a (by unfold zdC; rw[e])
 exact z
theorem ztO {v:Nd}{ns:List Nd}{n:Nat}{S:Sto}{Q:DK}{o:Option Nat}(h:S[n]?=some (.lst (ns.map Nd.d)))(e:zbC (eqN 1) (ns.map Nd.d) v.d=some o.isSome)(hq:Q (.bl (!o.isSome)) S):zbA (wIn 1 true) v.d (.ref n) S Q:=by
 rw[zb6]
 unfold wIn
 simp only[zaU h rfl,zaj,e]
 exact hq
theorem any_some {v:Nd}:∀ {ns:List Nd} {k:Nat},ns[k]?=some v→zbC (eqN 1) (ns.map Nd.d) v.d≠some (none:Option Nat).isSome
 | [],k,h=>by simp at h
 | u::us,0,h=>by
  have e:u=v:=by simpa using h
  subst e
  show (match eqN 1 u.d u.d,zbC (eqN 1) (us.map Nd.d) u.d with | some b,some c=>some (b||c) | _,_=>none)≠_
  obtain⟨c,hc⟩:=zmn u us
  rw[zq3,hc]
  simp
 | u::us,k+1,h=>by
  have ih:=any_some (ns:=us) (k:=k) (by simpa using h)
  show (match eqN 1 u.d v.d,zbC (eqN 1) (us.map Nd.d) v.d with | some b,some c=>some (b||c) | _,_=>none)≠_
  obtain⟨b,hb⟩:=zlE u v
  obtain⟨c,hc⟩:=zmn v us
  rw[hc] at ih
  rw[hb,hc]
  cases c
  ·exact absurd rfl ih
  ·simp
theorem zrr {vs us ps:List (Int×Int)}{k:Nat}{q:Int}(h:∀i:Int,inR k i→gt vs i=gt us i):∀v:Nd,v.ok k q→v.due vs ps=v.due us ps
 | .number _ _,_=>rfl
 | .unknown _,_=>rfl
 | .plus i j,ok=>by simp only[Nd.due,h i ok.1,h j ok.2]
 | .minus i j,ok=>by simp only[Nd.due,h i ok.1,h j ok.2]
 | .times i j,ok=>by simp only[Nd.due,h i ok.1,h j ok.2]
 | .power i n,ok=>by simp only[Nd.due,h i ok.1]
theorem zn9 (P:List (Int×Int))(ns:List Nd):∀ms:List Nd,∃r,zap P (ns++ms)=zap P ns++r
 | []=>⟨[],by rw[Vai,Vai]⟩
 | v::ms=>by
  obtain⟨r,e⟩:=zn9 P (ns++[v]) ms
  rw[Vat] at e
  refine⟨v.due (zap P ns) P::r,?_⟩
  rw[show ns++v::ms=ns++([v]++ms) from rfl,e,zdd,Vat]
  rfl
theorem zbB {P:List (Int×Int)}{ns ms:List Nd}{i:Int}(h:inR ns.length i):gt (zap P (ns++ms)) i=gt (zap P ns) i:=by
 obtain⟨r,e⟩:=zn9 P ns ms
 rw[e]
 exact zue (k:=ns.length) h (by rw[zcH]; exact Vaa _)
theorem zdA {P:List (Int×Int)}{ns:List Nd}{ws:List Nat}{q:Int}{j:Nat}{v:Nd}(net:zaL q ns ws)(h:ns[j]?=some v):gt (zap P ns) (j:Int)=v.due (zap P ns) P:=by
 have hj:=(Vab.mp h).1
 have e:ns=ns.take (j+1)++ns.drop (j+1):=(List.take_append_drop _ _).symm
 have e2:ns=ns.take j++ns.drop j:=(List.take_append_drop _ _).symm
 have l:(ns.take (j+1)).length=j+1:=by rw[Vaw]; omega
 have lj:(ns.take j).length=j:=by rw[Vaw]; omega
 have g1:gt (zap P ns) (j:Int)=gt (zap P (ns.take (j+1))) (j:Int):=by
  have z:=zbB (P:=P) (ns:=ns.take (j+1)) (ms:=ns.drop (j+1)) (i:=(j:Int)) ⟨by omega,by rw[l]; omega⟩
  rw[← e] at z
  exact z
 rw[g1,zc9 h,zdd,zjC (by rw[zcH,lj])]
 refine zrr (k:=j) (q:=q) (λi hi=>?_) v (net.ok j v h).1
 have z:=zbB (P:=P) (ns:=ns.take j) (ms:=ns.drop j) (i:=i) (by rw[lj]; exact hi)
 rw[← e2] at z
 exact z.symm
theorem zbF {ws us:List Nat}{i:Nat}(h:i<ws.length):(ws++us).getD i 0=ws.getD i 0:=by rw[Vas,Vas,Vah h]
def Nd.hv:Nd→Nat
 | .minus _ _=>2
 | _=>1
theorem znf {q:Nat}{ns ms:List Nd}{ws us:List Nat}{v:Nd}(net:zaL q ns ws)(n2:zaL q (ns++ms) (ws++us))(hv:∀(i:Nat) (u:Nd),ns[i]?=some u→ws.getD i 0=u.hv)(al:∀u∈ms,u=v)(w:v.wt (ws++us)=v.hv):∀(i:Nat) (u:Nd),(ns++ms)[i]?=some u→(ws++us).getD i 0=u.hv:=λi u hi=>by
 by_cases ci:i<ns.length
 ·rw[Vah ci] at hi
  rw[zbF (by rw[net.len]; exact ci)]
  exact hv i u hi
 ·have e:=(n2.ok i u hi).2.1
  rw[Vaq (by omega)] at hi
  rw[al u (Val hi)] at e ⊢
  rw[e]
  exact w
theorem zth (xs:List D):za8 xs (some 1) none=xs.drop 1:=by
 unfold L3.za8
 have e:HT.sIx xs.length 0 (some 1)=min 1 xs.length:=by
  have z:=HT.sIx_nat xs.length 0 1
  exact z
 rw[HT.sIx_none]
 rw[e]
 by_cases c:1≤xs.length
 ·rw[Nat.min_eq_left c]
  exact Va1 (by rw[VaY]; exact Vaa _)
 ·have z:xs=[]:=List.eq_nil_of_length_eq_zero (by omega)
  subst z
  rfl
theorem zkR {n:Nat}{S:Sto}{Q:DK}{xs:List D}(h:S[n]?=some (.frz xs))(hq:Q (.int (xs.length:Nat)) S):irr zeb [.ref n] S Q:=by
 rw[zdp]
 unfold zeb
 simp only[zaU h rfl]
 exact hq
def frS (cs:List Int):Bool:=decide (0<cs.length)&&decide (cs.getD 0 0%2=1)
theorem zh9 {cs:List Int}{k:Int}(h0:0≤k)(h1:k<cs.length):atI (cs.map D.int) k=some (.int (cs.getD k.toNat 0)):=by
 have z:=zoT (ts:=cs) (k:=k.toNat) (by omega)
 rw[show ((k.toNat:Nat):Int)=k by omega] at z
 exact z
theorem zvj {xs:List D}{n:Int}(h0:0≤n)(h1:n≤xs.length):za8 xs none (some n)=xs.take n.toNat:=by
 unfold L3.za8
 have e:HT.sIx xs.length xs.length (some n)=n.toNat:=by
  have z:=HT.sIx_nat xs.length xs.length n.toNat
  rw[Int.toNat_of_nonneg h0] at z
  rw[z]
  omega
 rw[e,HT.sIx_none,List.drop_zero,Nat.sub_zero]
theorem zt3 {α:Type}{bs:List (Int×Int)}{k:Nat}{p:Int×Int}(h:k<bs.length):za8 (bs.map frD) none (some (k:Int))++[frD p]++za8 (bs.map frD) (some ((k:Int)+1)) none=(bs.set k p).map frD:=by
 rw[zvj (by omega) (by rw[Vac]; omega),Vaj]
 have e:za8 (bs.map frD) (some ((k:Int)+1)) none=(bs.map frD).drop (k+1):=by
  unfold L3.za8
  have z:=HT.sIx_nat (bs.map frD).length 0 (k+1)
  rw[show (((k+1:Nat):Int))=(k:Int)+1 by omega] at z
  rw[z,HT.sIx_none,Va1 (by rw[VaY]; omega),Nat.min_eq_left (by rw[Vac]; omega)]
 rw[e,List.set_eq_take_append_cons_drop,if_pos h,Vav,Var,List.map_take,List.map_drop,Vat]
 rfl
section
variable {s:Shared}{A:Around}{w:World}{prog:Program}
end
section
variable {X:Cx}{elt iter:Expr}{elts:List Expr}{kk:Nat}{tp:Pos}{pos:Pos}{sc:Scope}{own N:List Str}{caps:List Nat}{wi:TI}{gt:TG}{te:TE}
end
section
variable {X:Cx}{Z:Zx}{elt:Expr}{pos:Pos}{sc ar:Scope}{N:List Str}{caps:List Nat}
end
section
variable {X:Cx}{Z:Zx}{pos:Pos}
def zkY:WC:=λds S Q=>match ds with
 | [.ref n]=>match lAt S n with
  | some o=>Q (.tup (zaj o)) S
  | none=>False
 | _=>False
theorem zrA:za2 X (.type "tuple") (upC X.K Z zkY):=zjt zpV λxs H Qv ⟨r,S,ds,Q,rel,ps,q,ret⟩=>by
 unfold zkY at q
 split at q
 ·rename_i n
  obtain⟨v,vs,rfl,p1,p2⟩:=ps.uncons
  have z:=p2.unnil
  subst z
  split at q
  ·rename_i o eo
   obtain⟨eo,eL⟩:=zbo eo
   obtain⟨a,ha,ob⟩:=rel.at eo
   cases p1 with
   | ref h1=>
    rw[h1] at ha; cases ha
    obtain⟨ys,sq,pr⟩:=ob.list eL
    refine⟨_,ys,rfl,.inl ⟨sq,λl hl=>?_⟩⟩
    have x:Ext r r H (upd H l (.tup ys)):=⟨λ_ _ q=>q,λa xs q=>zb8 hl _ _ q,λa c q=>zb8 hl _ _ q⟩
    exact ret _ _ r (.tup (zaj o)) S x (rel.same (zb8 hl)) ((pr.ext x).tupR zb5) q
  ·exact q.elim
 ·exact q.elim
def Alk (S:Sto):Nat→D→D→Prop
 | 0,d,e=>eqF d e=some true
 | n+1,d,e=>Alk S n d e∨(∃xs ys,d=.tup xs∧e=.tup ys∧xs.length=ys.length∧∀(k:Nat) (x y:D),xs[k]?=some x→ys[k]?=some y→Alk S n x y)∨
  ∃a b xs ys,d=.ref a∧e=.ref b∧S[a]?=some (.lst xs)∧S[b]?=some (.lst ys)∧xs.length=ys.length∧∀(k:Nat) (x y:D),xs[k]?=some x→ys[k]?=some y→Alk S n x y
theorem zm8 (n:Nat):(List.range n).all (λ_=>true)=true:=by simp
theorem znn {n:Nat}{A:Around}{pins:List (Addr×Obj)}{σ:L3.St}{H:Hp}{s:Shared}{r:List Addr}{S:Sto}(I:Inv X pins σ H s)(rel:Rel X.K Z r S H){a b:Nat}{xs ys:List D}{p p':Addr}(hp:r[a]?=some p)(hp':r[b]?=some p')(s1:S[a]?=some (.lst xs))(s2:S[b]?=some (.lst ys))(l:xs.length=ys.length)(hu:A.units<cLine)
  (f:∀ {d e:D} {v1 v2:V} {u1 u2:Value},Alk S n d e→Rp r H d v1→Rp r H e v2→zan v1 u1→zan v2 u2→SeqAt.EqAt A.in1 s u1 u2 true)(al:∀(k:Nat) (x y:D),xs[k]?=some x→ys[k]?=some y→Alk S n x y):SeqAt.RcAt A s (.ref p) (.ref p') true:=by
 obtain⟨z,hz,ob⟩:=rel.at s1
 rw[hp] at hz; cases hz
 obtain⟨z,hz,ob'⟩:=rel.at s2
 rw[hp'] at hz; cases hz
 obtain⟨vs,sq,pr⟩:=ob.list rfl
 obtain⟨ws,sq',pr'⟩:=ob'.list rfl
 obtain⟨is,ri,pl,_⟩:=I.list sq
 obtain⟨js,rj,pl',_⟩:=I.list sq'
 have g1:=zoI (P:=λS=>Alk S n) (S:=S) f pr pr' ri rj al
 have hs:is.toArray.size=js.toArray.size:=by
  have a1:=ri.length
  have a2:=rj.length
  have a3:=pr.1
  have a4:=pr'.1
  simp only[Vak]
  show is.length=js.length
  have a3:xs.length=vs.length:=a3
  have a4:ys.length=ws.length:=a4
  omega
 have q:=SeqAt.RcAt.lists (A:=A) (e:=λ_=>true) pl.isList pl'.isList hs hu g1
 rw[zm8] at q
 exact q
theorem zj1:∀(n:Nat) {A:Around} {pins:List (Addr×Obj)} {σ:L3.St} {H:Hp} {s:Shared} {r:List Addr} {S:Sto} {d e:D} {v1 v2:V} {u1 u2:Value},Inv X pins σ H s→Rel X.K Z r S H→Alk S n d e→Rp r H d v1→Rp r H e v2→zan v1 u1→zan v2 u2→A.units+n<cLine→SeqAt.EqAt A s u1 u2 true
 | 0,A,pins,σ,H,s,r,S,d,e,v1,v2,u1,u2,I,rel,h,pd,pe,ru1,ru2,hu=>zi3 0 X pins σ H s r A d e v1 v2 u1 u2 true I hu pd pe ru1 ru2 h
 | n+1,A,pins,σ,H,s,r,S,d,e,v1,v2,u1,u2,I,rel,h,pd,pe,ru1,ru2,hu=>by
  rcases h with h | ⟨xs,ys,rfl,rfl,l,al⟩ | ⟨a,b,xs,ys,rfl,rfl,s1,s2,l,al⟩
  ·exact zj1 n I rel h pd pe ru1 ru2 (by omega)
  ·cases pd with
   | @tup _ vs a h1 l1 f1=>
    cases pe with
    | @tup _ ws b h2 l2 f2=>
     cases ru1
     cases ru2
     by_cases hne:a=b
     ·subst hne
      exact SeqAt.EqAt.same _
     ·obtain⟨is,ri,pl,_⟩:=I.tuple (SqT.of h1)
      obtain⟨js,rj,pl',_⟩:=I.tuple (SqT.of h2)
      have g1:=zoI (P:=λS=>Alk S n) (S:=S) (A:=A.in1) (λh p q r1 r2=>zj1 n I rel h p q r1 r2 (by show A.units+1+n<_; omega)) ⟨l1,f1⟩ ⟨l2,f2⟩ ri rj al
      have q:=SeqAt.RcAt.tuples (A:=A) (e:=λ_=>true) pl pl' (by omega) g1
      have hs:(is.toArray.size==js.toArray.size)=true:=by
       have a1:=ri.length
       have a2:=rj.length
       simp only[Vak,beq_iff_eq]
       show is.length=js.length
       omega
      rw[zm8,hs] at q
      exact SeqAt.EqAt.of_refs hne q
  ·cases pd with
   | @ref _ p hp=>
    cases pe with
    | @ref _ p' hp'=>
     cases ru1
     cases ru2
     by_cases hne:p=p'
     ·subst hne
      exact SeqAt.EqAt.same _
     ·exact SeqAt.EqAt.of_refs hne (znn I rel hp hp' s1 s2 l (by omega) (λh p q r1 r2=>zj1 n I rel h p q r1 r2 (by show A.units+1+n<_; omega)) al)
def wEqK:W2:=λx y S Q=>match x,y with
 | .ref a,.ref b=>(∃xs ys,S[a]?=some (.lst xs)∧S[b]?=some (.lst ys)∧xs.length=ys.length∧∀(k:Nat) (x y:D),xs[k]?=some x→ys[k]?=some y→Alk S 5 x y)∧Q (.bl true) S
 | _,_=>False
theorem znw {j:Nat}(hr:zaQ j X.A):OpR X (compareOp .Eq) (upO X.K Z wEqK):=by
 have hu:=hr.un
 intro pins s σ H x y v u Qv I rx ry h
 obtain⟨r,S,dx,dy,Q,rel,px,py,q,ret⟩:=h
 cases px with
 | @ref n a hn=>
  cases py with
  | @ref m a' hm=>
   cases rx
   cases ry
   obtain⟨⟨xs,ys,s1,s2,l,al⟩,q⟩:=(show (∃xs ys,_)∧_ from q)
   exact znn I rel hn hm s1 s2 l (by omega) (λh p q r1 r2=>zj1 5 I rel h p q r1 r2 (by show X.A.units+1+5<_; omega)) al X.prog X.w X.xe _ ⟨.bl true,H,I,rfl,ret _ _ _ _ _ Ext.refl rel (.bl true) q⟩
  | _=>exact(show False from q).elim
 | _=>exact(show False from q).elim
end
section
variable {X:Cx}{Z:Zx}{pos:Pos}
@[irreducible] def zcA (T:String)(te:TDE):TDE:=λdl S Q=>te dl S λd S1=>match d with
 | .ref n=>match S1[n]? with
  | some (.lst _)=>Q (.bl (zb3 "list" T)) S1
  | _=>False
 | .exc _=>False
 | .non=>Q (.bl (zb3 "NoneType" T)) S1
 | .bl _=>Q (.bl (zb3 "bool" T)) S1
 | .int _=>Q (.bl (zb3 "int" T)) S1
 | .str _=>Q (.bl (zb3 "str" T)) S1
 | .tup _=>Q (.bl (zb3 "tuple" T)) S1
theorem zow (K:PySem.W.Frag)(T:String)(hT:T∈["list","tuple","int","str"]):∀t∈["NoneType","bool","int","str","tuple","list"],PySem.W.kitOne K (.type t) (.type T)=some (zb3 t T):=by
 simp only[Vaf,Vay,or_false] at hT
 intro t ht
 simp only[Vaf,Vay,or_false] at ht
 rcases hT with rfl | rfl | rfl | rfl <;> rcases ht with rfl | rfl | rfl | rfl | rfl | rfl <;> kernel_rfl
theorem zoz {T:String}{e:Expr}{te:TDE}{y:Str}{p p2:Pos}(KT:∀t∈["NoneType","bool","int","str","tuple","list"],PySem.W.kitOne X.K (.type t) (.type T)=some (zb3 t T))(hg:Gl X "isinstance")(hm:X.mg "isinstance"=none)(hg2:Gl X y)(hm2:X.mg y=none)(hv2:bootBuiltins y=some (.type T))(ha:PD X Z e te)
  (hv:bootBuiltins "isinstance"=some (.builtin "isinstance"):=by exact PyProof.Rows.Boot.«isinstance»)
  (hn2:y≠"__name__":=by decide)(hd2:(y==("__debug__":Str))=false:=by decide)(he2:starEach [e,.Name y p2] X.env=(false,eval e X.env)::starEach [.Name y p2] X.env:=by rfl)
  (he3:starEach [.Name y p2] X.env=(false,eval (.Name y p2) X.env)::starEach [] X.env:=by rfl)(hpl:(backTo pos (starEach [.Name y p2] X.env)).any (·.1)=false:=by rfl):
  PD X Z (.Call (.Name "isinstance" p) [e,.Name y p2] [] pos) (zcA T te):=
 zbc (znI zsv hg hm hv (zgU ha (zgU (zpX (v:=.ty T) hg2 hm2 hv2 rfl hn2 hd2) zk3 he3) he2) (by decide) (by decide) he2 hpl) λσ H Qv ⟨r,dl,S,Q,rs,rel,h,ret⟩=>by
  unfold zcA at h
  refine⟨r,dl,S,_,rs,rel,h,λv H1 r1 d S1 e1 rel1 p1 h1=>?_⟩
  cases p1 with
  | non=>exact⟨_,T,_,_,rfl,.non,KT _ (by simp),ret _ _ _ _ _ e1 rel1 (.bl _) h1⟩
  | bl b=>exact⟨_,T,_,_,rfl,.bl b,KT _ (by simp),ret _ _ _ _ _ e1 rel1 (.bl _) h1⟩
  | int b=>exact⟨_,T,_,_,rfl,.int b,KT _ (by simp),ret _ _ _ _ _ e1 rel1 (.bl _) h1⟩
  | str b=>exact⟨_,T,_,_,rfl,.str b,KT _ (by simp),ret _ _ _ _ _ e1 rel1 (.bl _) h1⟩
  | tup e2 _ _=>exact⟨_,T,_,_,rfl,.tup e2,KT _ (by simp),ret _ _ _ _ _ e1 rel1 (.bl _) h1⟩
  | exc _=>exact(show False from h1).elim
  | @ref n a hr=>
   dsimp only at h1
   split at h1
   ·rename_i xs eS
    obtain⟨ys,eH,_⟩:=rel1.b.ob n a _ hr eS
    exact⟨_,T,_,_,rfl,.lst eH,KT _ (by simp),ret _ _ _ _ _ e1 rel1 (.bl _) h1⟩
   ·exact h1.elim
theorem zsi {T:String}{te:TDE}{dl:Ev}{S S1:Sto}{Q:DK}{n:Nat}{xs:List D}(ht:∀K:DK,K (.ref n) S1→te dl S K)(h:S1[n]?=some (.lst xs))(hq:Q (.bl (zb3 "list" T)) S1):zcA T te dl S Q:=by
 unfold zcA
 refine ht _ ?_
 simp only[h]
 exact hq
theorem zpQ {T:String}{te:TDE}{dl:Ev}{S S1:Sto}{Q:DK}{xs:List D}(ht:∀K:DK,K (.tup xs) S1→te dl S K)(hq:Q (.bl (zb3 "tuple" T)) S1):zcA T te dl S Q:=by
 unfold zcA
 exact ht _ hq
theorem zo8 {T:String}{te:TDE}{dl:Ev}{S S1:Sto}{Q:DK}{i:Int}(ht:∀K:DK,K (.int i) S1→te dl S K)(hq:Q (.bl (zb3 "int" T)) S1):zcA T te dl S Q:=by
 unfold zcA
 exact ht _ hq
theorem zqi {T:String}{te:TDE}{dl:Ev}{S S1:Sto}{Q:DK}{w:Str}(ht:∀K:DK,K (.str w) S1→te dl S K)(hq:Q (.bl (zb3 "str" T)) S1):zcA T te dl S Q:=by
 unfold zcA
 exact ht _ hq
end
def SzX (ws:List Nat)(vs:List (Int×Int)):Prop:=∀(k:Nat) (p:Int×Int),vs[k]?=some p→p.1≤p.2∧Sz (80*ws.getD k 0-1) p.1∧Sz (80*ws.getD k 0-1) p.2
theorem SzX.at {ws:List Nat}{vs:List (Int×Int)}(h:SzX ws vs){i:Int}(hi:inR vs.length i):(gt vs i).1≤(gt vs i).2∧Sz (80*ws.getD i.toNat 0-1) (gt vs i).1∧Sz (80*ws.getD i.toNat 0-1) (gt vs i).2:=by
 obtain⟨h0,h1⟩:=hi
 have hk:i.toNat<vs.length:=by omega
 have e:gt vs i=vs[i.toNat]:=by simp[gt,hk]
 rw[e]
 exact h _ _ (Vae hk)
theorem SzX.spn0 {ws:List Nat}{vs:List (Int×Int)}(h:SzX ws vs)(hw:∀k:Nat,k<vs.length→ws.getD k 0≤16):Spn 1400 vs:=λp hp=>by
 obtain⟨k,hk,e⟩:=VaN.mp hp
 obtain⟨a,b,c⟩:=h k p (by rw[Vae hk,e])
 have:=hw k hk
 exact⟨a,b.mono (by omega),c.mono (by omega)⟩
theorem fw_x2 {ws:List Nat}{vs bs:List (Int×Int)}{g:Int}(hs:SzX ws vs)(hb:Spn 51 bs)(hg:1≤g∧g≤1000000)(hw:∀i:Int,inR vs.length i→1≤ws.getD i.toNat 0):∀v:Nd,v.ok vs.length bs.length→Sz (80*v.wt ws-2) (v.fw vs bs g).1∧Sz (80*v.wt ws-2) (v.fw vs bs g).2
 | .number t b,ok=>by
  have z:Sz 52 (t*g):=(Sz.of (n:=31) (10^9) ok.2.2).mul (Sz.of (n:=21) (10^6) (show g.natAbs≤_ by omega))
  exact⟨(z.div ok.1.1).mono (show 52≤80*1-2 by decide),(zl5 z ok.1.1).mono (show 52≤80*1-2 by decide)⟩
 | .unknown k,ok=>⟨(hb.at ok).2.1.mono (show 51≤80*1-2 by decide),(hb.at ok).2.2.mono (show 51≤80*1-2 by decide)⟩
 | .plus i j,ok=>by
  have a:=hs.at ok.1
  have b:=hs.at ok.2
  have p:=hw i ok.1
  have q:=hw j ok.2
  exact⟨(a.2.1.add b.2.1).mono (by simp only[Nd.wt]; omega),(a.2.2.add b.2.2).mono (by simp only[Nd.wt]; omega)⟩
 | .minus i j,ok=>by
  have a:=hs.at ok.1
  have b:=hs.at ok.2
  have p:=hw i ok.1
  have q:=hw j ok.2
  exact⟨(a.2.1.sub b.2.2).mono (by simp only[Nd.wt]; omega),(a.2.2.sub b.2.1).mono (by simp only[Nd.wt]; omega)⟩
 | .times i j,ok=>by
  have a:=hs.at ok.1
  have b:=hs.at ok.2
  have p:=hw i ok.1
  have q:=hw j ok.2
  have le:∀ {x y:Int},Sz (80*ws.getD i.toNat 0-1) x→Sz (80*ws.getD j.toNat 0-1) y→Sz (80*Nd.wt ws (.times i j)-2) (x*y):=λh1 h2=>(h1.mul h2).mono (by simp only[Nd.wt]; omega)
  have l:=zie (zie (le a.2.1 b.2.1) (le a.2.1 b.2.2)) (zie (le a.2.2 b.2.1) (le a.2.2 b.2.2))
  have u:=zhf (zhf (le a.2.1 b.2.1) (le a.2.1 b.2.2)) (zhf (le a.2.2 b.2.1) (le a.2.2 b.2.2))
  exact⟨l.div hg.1,zl5 u hg.1⟩
 | .power i n,ok=>by
  have a:=hs.at ok.1
  have p:=hw i ok.1
  have n2:=ok.2.1
  have gp:(1:Int)≤g^(n.toNat-1):=VaS (by omega)
  have hn:(80*ws.getD i.toNat 0-1)*n.toNat≤80*Nd.wt ws (.power i n)-2:=by
   simp only[Nd.wt]
   rw[Nat.sub_mul,Nat.one_mul]
   have e:80*ws.getD i.toNat 0*n.toNat=80*(n.toNat*ws.getD i.toNat 0):=by rw[Nat.mul_assoc,Nat.mul_comm (ws.getD i.toNat 0)]
   have m1:=VaU (Vaa n.toNat) p
   omega
  have p1:Sz (80*Nd.wt ws (.power i n)-2) ((gt vs i).1^n.toNat):=(Sz.pow' a.2.1 (by omega)).mono hn
  have p2:Sz (80*Nd.wt ws (.power i n)-2) ((gt vs i).2^n.toNat):=(Sz.pow' a.2.2 (by omega)).mono hn
  have l:Sz (80*Nd.wt ws (.power i n)-2) (zbi (gt vs i).1 (gt vs i).2 n.toNat):=by
   unfold zbi
   split
   ·exact(Sz.of (n:=1) 0 (by decide)).mono (by have:=VaU (show 1≤n.toNat by omega) p; simp only[Nd.wt]; omega)
   ·exact zie p1 p2
  exact⟨l.div gp,zl5 (zhf p1 p2) gp⟩
theorem SzX.spn {ws:List Nat}{vs:List (Int×Int)}(h:SzX ws vs)(hw:∀k:Nat,k<vs.length→ws.getD k 0≤16):Spn 1400 vs:=SzX.spn0 h hw
theorem SzX.snoc {ws:List Nat}{vs:List (Int×Int)}{p:Int×Int}(h:SzX ws vs)(h1:p.1≤p.2)(h2:Sz (80*ws.getD vs.length 0-1) p.1)(h3:Sz (80*ws.getD vs.length 0-1) p.2):SzX ws (vs++[p]):=λk q hq=>by
 by_cases hk:k<vs.length
 ·rw[Vah hk] at hq
  exact h k q hq
 ·have hl:=(Vab.mp hq).1
  simp only[Vad,Vap,VaM] at hl
  have ek:k=vs.length:=by omega
  subst ek
  simp at hq
  subst hq
  exact⟨h1,h2,h3⟩
section
variable {X:Cx}{Z:Zx}{pos:Pos}
theorem zr9:za2 X (.type "range") (λxs H Q=>∃i j:Int,xs=[.int i,.int j]∧∀p,H p=none→Q (.ref p) (upd H p (.rng i j))):=by
 intro pins s σ H xs us Q I rv h
 obtain⟨i,j,rfl,q⟩:=h
 obtain⟨u,u2,rfl,ru,ru2⟩:=ziQ rv
 obtain⟨t,rfl⟩:=ru
 obtain⟨t2,rfl⟩:=ru2
 refine call_range_2 ?_
 exact⟨.ref s.heap.objs.size,_,I.laid (o:=.rng i j) (λb o e=>Heap.get?_push_of_some _ e) (Vaa _) ⟨_,_,_,Heap.get?_push_size _ rfl⟩,rfl,q _ (I.hok.fresh (Vaa _))⟩
theorem zts {acc:Array Value}{n:Nat}{lo:Int}(h:ItemsOf (λi v=>∃t,v=Value.int (lo+(i:Int)*1) t) acc n):zao ((List.range n).map λ(k:Nat)=>V.int (lo+(k:Int))) acc.toList:=by
 have main:∀(us:List Value) (a:Nat),(∀(j:Nat) (v:Value),us[j]?=some v→∃t,v=Value.int (lo+((a+j:Nat):Int)) t)→zao ((List.range' a us.length).map λ(k:Nat)=>V.int (lo+(k:Int))) us:=λus=>by
  induction us with
  | nil=>exact λ_ _=>.nil
  | cons u us ih=>
   intro a hu
   rw[Vap,List.range'_succ,Var]
   refine .cons ?_ (ih (a+1) λj v hv=>?_)
   ·obtain⟨t,e⟩:=hu 0 u rfl
    exact⟨t,by rw[e]; rfl⟩
   ·obtain⟨t,e⟩:=hu (j+1) v hv
    exact⟨t,by rw[e]; congr 2; omega⟩
 have z:=main acc.toList 0 λj v hv=>by
  obtain⟨t,e⟩:=h.2 j v (by simpa using hv)
  exact⟨t,by rw[e,show ((0+j:Nat):Int)=(j:Int)*1 by omega]⟩
 rw[Array.length_toList,h.1,← List.range_eq_range'] at z
 exact z
theorem zsg (hc:X.calm=true):za2 X (.type "list") (λxs H Q=>∃p i j,xs=[.ref p]∧H p=some (.rng i j)∧(0≤i∧i≤j∧j≤1000)∧∀a,H a=none→Q (.ref a) (upd H a (.lst ((List.range (j-i).toNat).map λ(k:Nat)=>V.int (i+(k:Int)))))):=by
 intro pins s σ H xs us Q I rv h
 obtain⟨p,i,j,rfl,hp,hj,q⟩:=h
 obtain⟨u,rfl,ru⟩:=zcx rv
 cases ru
 obtain⟨t,u,v,hr⟩:=(I.hok p _ hp:∃t u v,s.heap.get? p=some { cls:=.type "range",data:=.fields #[.int i t,.int j u,.int 1 v] })
 refine call_list_range (n:=(j-i).toNat) (I.ok.hd hc) hr (small_one (by omega) (by omega) (by omega) (by omega)) (by rw[rangeSize_one]; split <;> omega) (by omega) λh' tk acc c keep new items=>?_
 refine⟨.ref s.heap.objs.size,_,I.laid (t':=tk) (o:=.lst ((List.range (j-i).toNat).map λ(k:Nat)=>V.int (i+(k:Int)))) keep (Vaa _) ⟨?_,acc.toList,c,zts items,by rw[Array.toArray_toList]; exact new⟩,rfl,q _ (I.hok.fresh (Vaa _))⟩
 rw[Vac,Vba]
 exact zdK (by omega)
@[irreducible] def zkq (ta:TDA):TDE:=λdl S Q=>ta dl S λds S1=>match ds with
 | [.int i,.int j]=>(0≤i∧i≤j∧j≤1000)∧Q (.ref S1.length) (S1++[.lst ((List.range (j-i).toNat).map λ(k:Nat)=>D.int (i+(k:Int)))])
 | _=>False
theorem zqP {ta:TDA}{dl:Ev}{S S1:Sto}{Q:DK}{i j:Int}(hta:∀K:List D→Sto→Prop,K [.int i,.int j] S1→ta dl S K)(hj:0≤i∧i≤j∧j≤1000)(hq:Q (.ref S1.length) (S1++[.lst ((List.range (j-i).toNat).map λ(k:Nat)=>D.int (i+(k:Int)))])):zkq ta dl S Q:=by
 unfold zkq
 exact hta _ ⟨hj,hq⟩
theorem zp9 {e f:Expr}{ta:TDA}{p p2 pos2:Pos}(hc:X.calm=true)(hgl:Gl X "list")(hml:X.mg "list"=none)(hvl:bootBuiltins "list"=some (.type "list"))(hg:Gl X "range")(hm:X.mg "range"=none)(he:PDA X Z [e,f] ta)
  (hs:starEach [.Call (.Name "range" p) [e,f] [] pos2] X.env=(false,eval (.Call (.Name "range" p) [e,f] [] pos2) X.env)::starEach [] X.env:=by rfl)(hpl:(backTo pos (starEach [] X.env)).any (·.1)=false:=by rfl)
  (hs2:starEach [e,f] X.env=(false,eval e X.env)::starEach [f] X.env:=by rfl)(hpl2:(backTo pos2 (starEach [f] X.env)).any (·.1)=false:=by rfl):
  PD X Z (.Call (.Name "list" p2) [.Call (.Name "range" p) [e,f] [] pos2] [] pos) (zkq ta):=
 zbc (zmS (zsg hc) hgl hml hvl (zgU (zmS zr9 hg hm boot_range he (by decide) (by decide) hs2 hpl2) zk3 hs) (by decide) (by decide) hs hpl) λσ H Qv ⟨r,dl,S,Q,rs,rel,h,ret⟩=>by
  unfold zkq at h
  refine⟨r,dl,S,_,rs,rel,h,λvs H1 r1 ds S1 e1 rel1 p1 q1=>?_⟩
  split at q1
  ·rename_i i j
   obtain⟨v,vs',rfl,p2,p3⟩:=p1.uncons
   obtain⟨v2,vs2,rfl,p4,p5⟩:=p3.uncons
   have z:=p5.unnil
   subst z
   cases p2
   cases p4
   obtain⟨hj,q1⟩:=q1
   refine⟨i,j,rfl,λb hb=>?_⟩
   refine⟨b,i,j,rfl,zb5,hj,λc hc'=>?_⟩
   have x1:Ext r1 r1 H1 (upd H1 b (.rng i j)):=znC hb
   have rel2:=rel1.same (zb8 (o:=.rng i j) hb)
   obtain⟨rel3,x⟩:=rel2.push (ds:=(List.range (j-i).toNat).map λ(k:Nat)=>D.int (i+(k:Int))) (xs:=(List.range (j-i).toNat).map λ(k:Nat)=>V.int (i+(k:Int))) hc' ⟨by simp,λi' d v hd hv=>by
    rw[Vag] at hd hv
    obtain⟨k,hk,rfl⟩:=VaF.mp hd
    rw[hk] at hv
    cases hv
    exact .int _⟩
   exact ret _ _ _ (.ref S1.length) _ (e1.trans (x1.trans x)) rel3 (zc2 rel1.len) q1
  ·exact q1.elim
end
inductive Fa where
 | cut (k p:Int) (a b:Nat)
 | out (r:Int) (vs:List (Int×Int))
 | full (vs:List (Int×Int))
 | waits
abbrev En:=List (Int×Int)×Fa
def zcm (S:Sto)(d:D):Fa→Prop
 | .cut k p a b=>d=.tup [.str "cut",.int k,.int p,.int (a:Int),.int (b:Int)]
 | .out r vs=>∃m,d=.tup [.str "out",.int r,.ref m]∧S[m]?=some (.lst (vs.map frD))
 | .full vs=>∃m,d=.tup [.str "full",.ref m]∧S[m]?=some (.lst (vs.map frD))
 | .waits=>d=.tup [.str "waits"]
def zcS (S:Sto)(d:D)(e:En):Prop:=∃(m:Nat) (f:D),d=.tup [.ref m,f]∧S[m]?=some (.lst (e.1.map frD))∧zcm S f e.2
def zba (S:Sto)(ds:List D)(es:List En):Prop:=ds.length=es.length∧∀(k:Nat) (d:D) (e:En),ds[k]?=some d→es[k]?=some e→zcS S d e
def zbV (S:Sto)(b:Nat)(es:List En):Prop:=∃ds,S[b]?=some (.lst ds)∧zba S ds es
theorem zcm.pre {S T:Sto}{d:D}{f:Fa}(h:zcm S d f)(p:Pre S T):zcm T d f:=by
 cases f with
 | cut k p a b=>exact h
 | out r vs=>obtain⟨m,e,s⟩:=h; exact⟨m,e,p _ _ s⟩
 | full vs=>obtain⟨m,e,s⟩:=h; exact⟨m,e,p _ _ s⟩
 | waits=>exact h
theorem zcS.pre {S T:Sto}{d:D}{e:En}(h:zcS S d e)(p:Pre S T):zcS T d e:=by
 obtain⟨m,f,a,b,c⟩:=h
 exact⟨m,f,a,p _ _ b,c.pre p⟩
theorem zba.pre {S T:Sto}{ds:List D}{es:List En}(h:zba S ds es)(p:Pre S T):zba T ds es:=⟨h.1,λk d e a b=>(h.2 k d e a b).pre p⟩
theorem zbV.pre {S T:Sto}{b:Nat}{es:List En}(h:zbV S b es)(p:Pre S T):zbV T b es:=by
 obtain⟨ds,a,c⟩:=h
 exact⟨ds,p _ _ a,c.pre p⟩
theorem zba.get {S:Sto}{ds:List D}{es:List En}(h:zba S ds es){k:Nat}{e:En}(he:es[k]?=some e):∃d,ds[k]?=some d∧zcS S d e:=by
 have hk:=(Vab.mp he).1
 have hd:k<ds.length:=by rw[h.1]; exact hk
 exact⟨ds[k],Vae hd,h.2 k _ e (Vae hd) he⟩
def zaO:List En→List Nat
 | []=>[]
 | (_,.cut _ _ a b)::es=>a::b::zaO es
 | _::es=>zaO es
theorem znj:∀(es:List En) (e:En),zaO (es++[e])=zaO es++(match e.2 with | .cut _ _ a b=>[a,b] | _=>[])
 | [],(_,f)=>by cases f <;> rfl
 | (x,f)::es,e=>by
  have i:=znj es e
  cases f <;> simp only[List.cons_append,zaO,i]
structure zd5 (es:List En)(n:Nat)(bs:List (Int×Int))(k p:Int)(a b:Nat):Prop where
 hk:inR bs.length k
 hl:bs.length≤4
 lo:(gt bs k).1<p
 hi:p<(gt bs k).2
 na:n<a
 nb:n<b
 ea:∃f,es[a]?=some (bs.set k.toNat ((gt bs k).1,p),f)
 eb:∃f,es[b]?=some (bs.set k.toNat (p,(gt bs k).2),f)
theorem zhj:∀ps:List (Int×Int),eqL (eqN 1) (ps.map frD) (ps.map frD)=some true
 | []=>rfl
 | p::ps=>by
  have i:=zhj ps
  show (match eqN 1 (frD p) (frD p),eqL (eqN 1) (ps.map frD) (ps.map frD) with | some a,some b=>some (a&&b) | _,_=>none)=_
  rw[i,show eqN 1 (frD p) (frD p)=some true by simp[eqN,frD,eqL,eqF,L3.eqT]]
  rfl
theorem zrT {n m:Nat}{S:Sto}{Q:DK}{xs ys:List D}{b:Bool}(h1:S[n]?=some (.lst xs))(h2:S[m]?=some (.lst ys))(e:eqL (eqN 1) xs ys=some b)(hq:Q (.bl (!b)) S):zbA (zdE 1) (.ref n) (.ref m) S Q:=by
 rw[zb6]
 unfold zdE
 simp only[zdc,zaU h1 rfl,zaU h2 rfl,zaj,e]
 exact hq
theorem znh:∀l:List Nat,eqL (eqN 1) (l.map wtD) (l.map wtD)=some true
 | []=>rfl
 | p::ps=>by
  have i:=znh ps
  show (match eqN 1 (wtD p) (wtD p),eqL (eqN 1) (ps.map wtD) (ps.map wtD) with | some a,some b=>some (a&&b) | _,_=>none)=_
  rw[i,show eqN 1 (wtD p) (wtD p)=some true by simp[eqN,wtD,eqL,eqF,L3.eqT]]
  rfl
theorem zuY {a b:List Int}(p:a.Perm b)(h1:a.Pairwise (·≤·))(h2:b.Pairwise (·≤·)):a=b:=p.eq_of_pairwise (λx y _ _ h h'=>by omega) h1 h2
theorem zpp (l:List Nat):zb9 (l.map wtD)=some (l.map λ(n:Nat)=>(n:Int)):=by
 induction l with
 | nil=>rfl
 | cons x l ih=>
  show (zb9 (l.map wtD)).map (_::·)=_
  rw[ih]
  rfl
theorem zcM {ds:List D}{k:Nat}{d:D}(h:ds[k]?=some d):atI ds (k:Int)=some d:=zcl h
def zj8:D→D
 | .tup (x::_)=>x
 | _=>.non
theorem zba.rows {S:Sto}{ds:List D}{es:List En}(h:zba S ds es):zbu S 0 (ds.map zj8) (es.map (·.1)):=⟨by rw[Vac,Vac,h.1],λk d r hd hr=>by
 rw[Vag] at hd hr
 cases e1:ds[k]? with
 | none=>rw[e1] at hd; cases hd
 | some x=>
  cases e2:es[k]? with
  | none=>rw[e2] at hr; cases hr
  | some e=>
   rw[e1] at hd
   rw[e2] at hr
   cases hd
   cases hr
   obtain⟨m,f,rfl,hm,_⟩:=h.2 k x e e1 e2
   exact⟨m,rfl,VaA _,hm⟩⟩
def zck (es:List En)(n:Nat)(e:En):Prop:=match e.2 with
 | .waits=>True
 | .cut k p a b=>zd5 es n e.1 k p a b
 | _=>False
def zhW (ns:List Nd)(rows:List (Bool×Nat))(g:Int)(e:En):Prop:=match e.2 with
 | .out r vs=>inR rows.length r∧vs.length=(rows.getD r.toNat (false,0)).2+1∧vs.length≤ns.length∧Spn 1400 vs∧zbL ((ns.take vs.length).map λv=>v.fw vs e.1 g) vs=false
 | .full vs=>vs.length=ns.length∧Spn 1400 vs∧zbL ((ns.take vs.length).map λv=>v.fw vs e.1 g) vs=false
 | _=>False
theorem rw_at {rows:List (Bool×Nat)}{r:Int}(h:inR rows.length r):atI (rows.map rwD) r=some (rwD (rows.getD r.toNat (false,0))):=by
 obtain⟨h0,h1⟩:=h
 have hk:r.toNat<rows.length:=by omega
 have z:=zcl (xs:=rows.map rwD) (j:=r.toNat) (v:=rwD (rows.getD r.toNat (false,0))) (by rw[Vag,Vas,Vae hk]; rfl)
 rw[show ((r.toNat:Nat):Int)=r by omega] at z
 exact z
theorem za9 {a b:TDS}{E:zbX}{dl:Ev}{S:Sto}(W:Ev→Sto→Prop)(ha:∀nx:Ev→Sto→Prop,(∀dl' S',W dl' S'→nx dl' S')→a { nx:=nx,rt:=E.rt,bk:=E.bk,ct:=E.ct } dl S)(hb:∀dl' S',W dl' S'→b E dl' S'):zbY a b E dl S:=ha _ hb
theorem zbK {S:Sto}(o:Ob):Pre S (S++[o]):=λ_ _ e=>zal e
theorem zeq {S T:Sto}{o:Ob}(h:Pre S T):Pre S (T++[o]):=λk u e=>zal (h k u e)
theorem zdf {S:Sto}{o p:Ob}:(S++[o]).set S.length p=S++[p]:=by
 rw[List.set_append_right _ _ (Vaa _),VaP]
 rfl
theorem ztT {i:Int}{S:Sto}{Q:DK}(hq:Q (.bl true) S):wEq eq2 (.int i) (.int i) S Q:=by
 unfold wEq
 have ee:eq2 (.int i) (.int i)=some true:=by simp[eq2,eqF,L3.eqT]
 rw[ee]
 exact hq
theorem zd7 {bs:List (Int×Int)}{k:Int}(h:inR bs.length k):atI (bs.map frD) k=some (frD (gt bs k)):=by
 obtain⟨h0,h1⟩:=h
 have hk:k.toNat<bs.length:=by omega
 have z:=zcl (xs:=bs.map frD) (j:=k.toNat) (v:=frD (gt bs k)) (by rw[Vag,Vae hk]; show some (frD _)=some (frD (bs.getD k.toNat _)); rw[Vas,Vae hk]; rfl)
 rw[show ((k.toNat:Nat):Int)=k by omega] at z
 exact z
theorem ifNA {P R:Prop} [Decidable P] [Decidable R] {A B:Prop}(hp:P)(hr:R)(h:B):if (!(decide P&&decide R))=true then A else B:=by
 rw[decide_eq_true hp,decide_eq_true hr]
 exact zbH h
theorem zrX:∀l:List Bool,zbG (l.map D.bl)=some l:=λl=>by
 have z:=zlM (λb:Bool=>b) l
 rw[List.map_id'] at z
 exact z
theorem zoR {q:Int}{ns:List Nd}{ws:List Nat}{bs ps vs:List (Int×Int)}{g:Int}(h:zaL q ns ws)(hq:q=bs.length)(hqp:q=ps.length)(hg:1≤g)(hp:InW g bs ps)(pp:Pz 110 ps)(hl:vs.length≤ns.length)(hi:zbL ((ns.take vs.length).map λv=>v.fw vs bs g) vs=true):∀k,k≤vs.length→InW g vs (zap ps (ns.take k)):=by
 intro k
 induction k with
 | zero=>intro _ i hi; exact absurd hi.2 (by have:=hi.1; simp[zap]; omega)
 | succ k ih=>
  intro hk i hi'
  have hv:ns[k]?=some ns[k]:=Vae (by omega)
  have hvs:vs[k]?=some vs[k]:=Vae (by omega)
  obtain⟨ok,_⟩:=h.ok k _ hv
  have lN:(zap ps (ns.take k)).length=k:=by rw[zcH,Vaw]; omega
  rw[zc9 hv,zdd] at hi'
  rw[zc9 hv,zdd]
  have hi2:i<k+1:=by have:=hi'.2; simp only[Vad,Vap,VaM,lN] at this; omega
  by_cases c:i<k
  ·rw[zjP (by rw[lN]; exact⟨hi'.1,c⟩)]
   exact ih (by omega) i (by rw[lN]; exact⟨hi'.1,c⟩)
  ·have e:i=k:=by have:=hi'.1; omega
   subst e
   rw[zjC lN,znv hvs]
   have pz:Pz 1792 (zap ps (ns.take k)):=λp hp=>by
    obtain⟨j,hj,e⟩:=VaN.mp hp
    have hj':j<k:=by rw[lN] at hj; exact hj
    obtain⟨a,b,c⟩:=zgm h hqp pp k (by omega) j p (by rw[Vae hj,e])
    have w:=(h.w1 (i:=(j:Int)) ⟨by omega,by omega⟩).2
    rw[Vaj] at w
    exact⟨a,b.mono (by omega),c.mono (by omega)⟩
   have pz':Pz 1792 ps:=λp hp=>⟨(pp p hp).1,(pp p hp).2.1.mono (by decide),(pp p hp).2.2.mono (by decide)⟩
   have z:=zqp hg (ih (by omega)) hp pz pz' ns[k] (by rw[lN,← hqp]; exact ok)
   have ins:=zu3.mp hi k (ns[k].fw vs bs g) vs[k] (by rw[Vag,List.getElem?_take_of_lt (by omega),hv]; rfl) hvs
   have dp:1≤(ns[k].due (zap ps (ns.take k)) ps).2:=by
    have x:=zgm h hqp pp (k+1) (by omega) k (ns[k].due (zap ps (ns.take k)) ps) (by rw[zc9 hv,zdd,Vaq (by omega),lN,VaP]; rfl)
    exact x.1
   have m1:=Vam ins.1 (show 0≤(ns[k].due (zap ps (ns.take k)) ps).2 by omega)
   have m2:=Vam ins.2 (show 0≤(ns[k].due (zap ps (ns.take k)) ps).2 by omega)
   exact⟨by omega,by omega⟩
theorem znM {ps:List (Int×Int)}{ns:List Nd}{k:Nat}{j:Nat}(hj:j<k)(hk:k≤ns.length):gt (zap ps (ns.take k)) (j:Int)=gt (zap ps ns) (j:Int):=by
 have z:∀m,k≤m→m≤ns.length→gt (zap ps (ns.take m)) (j:Int)=gt (zap ps (ns.take k)) (j:Int):=λm=>by
  induction m with
  | zero=>intro a _; omega
  | succ m ih=>
   intro a b
   by_cases c:k=m+1
   ·rw[c]
   ·have hv:ns[m]?=some ns[m]:=Vae (by omega)
    rw[zc9 hv,zdd,zjP (by rw[zcH,Vaw]; exact⟨by omega,by omega⟩)]
    exact ih (by omega) (by omega)
 have y:=z ns.length hk (Vaa _)
 rw[List.take_length] at y
 exact y.symm
def zdi (z:Bool)(p:Int×Int):Prop:=if z then 0<p.1∨p.2<0 else p.2<0
def zdb (z:Bool)(p:Int×Int):Prop:=if z then p.1=0∧p.2=0 else 0≤p.1
theorem zuh {q:Int}{ns:List Nd}{ws:List Nat}{bs ps vs:List (Int×Int)}{g:Int}{j:Nat}{z:Bool}(h:zaL q ns ws)(hq:q=bs.length)(hqp:q=ps.length)(hg:1≤g)(hp:InW g bs ps)(pp:Pz 110 ps)(hl:vs.length=j+1)(hj:j<ns.length)(h0:(gt (zap ps ns) (j:Int)).1=0)(hb:zdi z (gt vs (j:Int))):zbL ((ns.take vs.length).map λv=>v.fw vs bs g) vs=false:=by
 cases c:zbL ((ns.take vs.length).map λv=>v.fw vs bs g) vs with
 | false=>rfl
 | true=>
  have i:=zoR h hq hqp hg hp pp (by omega) c vs.length (Vaa _) (j:Int) (by rw[zcH,Vaw]; exact⟨by omega,by omega⟩)
  rw[znM (by omega) (by omega),h0] at i
  have d:1≤(gt (zap ps ns) (j:Int)).2:=by
   have x:=zgm h hqp pp ns.length (Vaa _)
   rw[List.take_length] at x
   exact(x.at ⟨by omega,by rw[zcH]; omega⟩).1
  generalize (gt (zap ps ns) (j:Int)).2=dd at i d
  generalize gt vs (j:Int)=p at i hb
  exfalso
  rw[Int.zero_mul] at i
  have l1:p.1≤0:=by
   refine Int.not_lt.mp λhh=>?_
   have:=Va9 hh (show 0<dd by omega)
   omega
  have l2:0≤p.2:=by
   refine Int.not_lt.mp λhh=>?_
   have:=Int.mul_neg_of_neg_of_pos hh (show 0<dd by omega)
   omega
  unfold zdi at hb
  cases z <;> simp at hb <;> omega
theorem zuN {q:Int}{ns:List Nd}{ws:List Nat}{bs ps vs:List (Int×Int)}{g:Int}{j:Nat}{z:Bool}(h:zaL q ns ws)(hq:q=bs.length)(hqp:q=ps.length)(hg:1≤g)(hp:InW g bs ps)(pp:Pz 110 ps)(hl:vs.length=ns.length)(hj:j<ns.length)(h0:(gt (zap ps ns) (j:Int)).1<0)(hb:zdb z (gt vs (j:Int))):zbL ((ns.take vs.length).map λv=>v.fw vs bs g) vs=false:=by
 cases c:zbL ((ns.take vs.length).map λv=>v.fw vs bs g) vs with
 | false=>rfl
 | true=>
  have i:=zoR h hq hqp hg hp pp (by omega) c vs.length (Vaa _) (j:Int) (by rw[zcH,Vaw]; exact⟨by omega,by omega⟩)
  rw[znM (by omega) (by omega)] at i
  have d:1≤(gt (zap ps ns) (j:Int)).2:=by
   have x:=zgm h hqp pp ns.length (Vaa _)
   rw[List.take_length] at x
   exact(x.at ⟨by omega,by rw[zcH]; omega⟩).1
  generalize gt (zap ps ns) (j:Int)=dd at i d h0
  generalize gt vs (j:Int)=p at i hb
  exfalso
  have l1:p.1<0:=by
   refine Int.not_le.mp λhh=>?_
   have m1:=VaL hh (show 0≤dd.2 by omega)
   have m2:=Int.mul_neg_of_neg_of_pos h0 (show 0<g by omega)
   omega
  unfold zdb at hb
  cases z <;> simp at hb <;> omega
theorem znA {n:Nat}{a b x:Int}(ha:Sz n a)(hb:Sz n b)(hn:69≤n)(h:x.natAbs≤max a.natAbs b.natAbs+3*10^20):Sz (n+1) x:=by
 unfold Sz at *
 have p:(2:Nat)^69≤2^n:=Nat.pow_le_pow_right (by decide) hn
 have e:(2:Nat)^(n+1)=2*2^n:=by rw[Nat.pow_succ,Nat.mul_comm]
 have q:3*10^20<(2:Nat)^69:=by decide
 omega
theorem zpj {t b g u v:Int}(tb:t.natAbs≤10^8)(bb:1≤b)(hg:1≤g∧g≤1000000)(hu:0≤u∧u<8*10^14)(hv:0≤v∧v<8*10^14):(t*g/b-u≤-(-t*g/b)+v∧Sz 51 (t*g/b-u)∧Sz 51 (-(-t*g/b)+v))∧((t*g/b-u)*b≤t*g∧t*g≤(-(-t*g/b)+v)*b):=by
 have l:=zd8 (t*g) (show 0<b by omega)
 have h:=zlj (t*g) (show 0<b by omega)
 rw[VaO]
 have tg:(t*g).natAbs≤10^14:=by
  rw[Va7]
  exact Vaz (VaU tb (show g.natAbs≤10^6 by omega)) (by decide)
 generalize t*g=x at *
 have le:x/b≤-(-x/b):=by
  have:=Va3 (VaV l.1 h.1) (show 0<b by omega)
  exact this
 have a1:(x/b).natAbs<2^47:=(Sz.of (n:=47) (10^14) tg).div bb
 have a2:(-x/b).natAbs<2^47:=(Sz.of (n:=47) (i:=-x) (10^14) (by omega)).div bb
 have m1:=VaL hu.1 (show 0≤b by omega)
 have m2:=VaL hv.1 (show 0≤b by omega)
 refine⟨⟨by omega,Sz.of (10^15) (by omega),Sz.of (10^15) (by omega)⟩,?_,?_⟩
 ·rw[Int.sub_mul]
  have:=l.1
  omega
 ·rw[Int.add_mul]
  have:=h.1
  omega
theorem zvl {is:List Nat}{n:Nat}{tl:TDE}{tb:TDS}{E:zbX}{dl:Ev}{S:Sto}{xs:List D}(W:Nat→Ev→Sto→Prop)(htl:∀K:DK,K (.ref n) S→tl dl S K)(h0:W 0 dl S)(hk:∀k dl' S',W k dl' S'→S'[n]?=some (.lst xs))(hall:∀(k:Nat) (d:D),xs[k]?=some d→∃ys,d=.tup ys∧ys.length=is.length)
  (ht:∀(k:Nat) (ys:List D) (dl':Ev) (S':Sto) (nx ct:Ev→Sto→Prop),xs[k]?=some (.tup ys)→W k dl' S'→(∀dl2 S2,W (k+1) dl2 S2→nx dl2 S2)→tb { nx:=nx,rt:=E.rt,bk:=E.nx,ct:=ct } (zd6 is ys dl') S')(he:∀dl' S',W xs.length dl' S'→E.nx dl' S'):zkG is tl tb E dl S:=by
 unfold zkG
 refine htl _ ⟨by rw[zaU (hk _ _ _ h0) rfl]; rfl,λk m dl' S'=>m+k=xs.length∧W k dl' S',⟨xs.length,by omega,h0⟩,?_⟩
 rintro k m dl' S' ⟨hm,w⟩
 rw[zaU (hk _ _ _ w) rfl]
 dsimp only[zaj]
 split
 ·rename_i ys hx
  have l:k<xs.length:=(Vab.mp hx).1
  obtain⟨zs,e1,e2⟩:=hall k _ hx
  cases e1
  exact⟨e2,ht k ys dl' S' _ _ hx w λdl2 S2 w2=>⟨m-1,by omega,by omega,w2⟩⟩
 ·rename_i d hn hx
  obtain⟨zs,e1,_⟩:=hall k _ hx
  exact absurd e1 (hn zs)
 ·rename_i hx
  have l:k=xs.length:=by
   have:=VaJ.mp hx
   omega
  exact he dl' S' (l ▸ w)
theorem zqT {n:Nat}{S:Sto}{Q:DK}{xs:List D}(h:S[n]?=some (.lst xs))(hq:Q (.tup xs) S):irr zkY [.ref n] S Q:=by
 rw[zdp]
 unfold zkY
 simp only[zaU h rfl,zaj]
 exact hq
theorem zba.keep {S T:Sto}{ds:List D}{es:List En}{m:Nat}(hd:S[m]?=some (.lst ds))(h:zba S ds es)(k:∀(x:Nat) (o:Ob),x≠m→S[x]?=some o→T[x]?=some o):zba T ds es:=⟨h.1,λi d e a b=>by
 obtain⟨p,f,rfl,hp,hf⟩:=h.2 i d e a b
 have ne:∀(x:Nat) (vs:List (Int×Int)),S[x]?=some (.lst (vs.map frD))→x≠m:=λx vs hx ex=>by
  subst ex
  rw[hd] at hx
  have ev:ds=vs.map frD:=by injection hx with e; injection e
  rw[ev,Vag] at a
  cases c:vs[i]? with
  | none=>rw[c] at a; cases a
  | some q=>rw[c] at a; cases a
 refine⟨p,f,rfl,k _ _ (ne _ _ hp) hp,?_⟩
 obtain⟨bx,fa⟩:=e
 cases fa with
 | cut k p a b=>exact hf
 | out r vs=>obtain⟨m2,e2,s⟩:=hf; exact⟨m2,e2,k _ _ (ne _ _ s) s⟩
 | full vs=>obtain⟨m2,e2,s⟩:=hf; exact⟨m2,e2,k _ _ (ne _ _ s) s⟩
 | waits=>exact hf⟩
def Cpy (lo:Nat)(S T:Sto)(x y:D):Prop:=(x=y∧((∃i,x=.int i)∨∃w,x=.str w))∨∃(m m':Nat) (vs:List (Int×Int)),x=.ref m∧y=.ref m'∧S[m]?=some (.lst (vs.map frD))∧T[m']?=some (.lst (vs.map frD))∧lo<m'
theorem Cpy.keep {lo:Nat}{S T U:Sto}{x y:D}(h:Cpy lo S T x y)(k:∀(a:Nat) (o:Ob),lo<a→T[a]?=some o→U[a]?=some o):Cpy lo S U x y:=by
 rcases h with h | ⟨m,m',vs,a,b,c,d,e⟩
 ·exact .inl h
 ·exact .inr ⟨m,m',vs,a,b,c,k _ _ e d,e⟩
def Part (S:Sto)(x:D):Prop:=(∃i,x=.int i)∨(∃w,x=.str w)∨∃(m:Nat) (vs:List (Int×Int)),x=.ref m∧S[m]?=some (.lst (vs.map frD))∧vs.length≤900
def Fa.few:Fa→Prop
 | .out _ vs=>vs.length≤900
 | .full vs=>vs.length≤900
 | _=>True
theorem zq5 {S:Sto}{f:D}{fa:Fa}(h:zcm S f fa)(l:fa.few):∃xs,f=.tup xs∧xs.length≤5∧∀x∈xs,Part S x:=by
 cases fa with
 | cut k p a b=>exact⟨_,h,by simp,λx hx=>by
   simp only[Vaf,Vay,or_false] at hx
   rcases hx with rfl | rfl | rfl | rfl | rfl
   ·exact .inr (.inl ⟨_,rfl⟩)
   all_goals exact .inl ⟨_,rfl⟩⟩
 | out r vs=>
  obtain⟨m,rfl,s⟩:=h
  exact⟨_,rfl,by simp,λx hx=>by
   simp only[Vaf,Vay,or_false] at hx
   rcases hx with rfl | rfl | rfl
   ·exact .inr (.inl ⟨_,rfl⟩)
   ·exact .inl ⟨_,rfl⟩
   ·exact .inr (.inr ⟨m,vs,rfl,s,l⟩)⟩
 | full vs=>
  obtain⟨m,rfl,s⟩:=h
  exact⟨_,rfl,by simp,λx hx=>by
   simp only[Vaf,Vay,or_false] at hx
   rcases hx with rfl | rfl
   ·exact .inr (.inl ⟨_,rfl⟩)
   ·exact .inr (.inr ⟨m,vs,rfl,s,l⟩)⟩
 | waits=>exact⟨_,h,by simp,λx hx=>by
   rw[VaE.mp hx]
   exact .inr (.inl ⟨_,rfl⟩)⟩
theorem zcV {lo:Nat}{S T:Sto}{x y:D}(h:Cpy lo S T x y)(n:∀m,x≠.ref m):y=x:=by
 rcases h with h | ⟨m,_,_,e,_⟩
 ·exact h.1.symm
 ·exact absurd e (n m)
theorem zpW {lo:Nat}{S T:Sto}{xs ys:List D}{fa:Fa}(h:zcm S (.tup xs) fa)(l:ys.length=xs.length)(c:∀(i:Nat) (x y:D),xs[i]?=some x→ys[i]?=some y→Cpy lo S T x y):zcm T (.tup ys) fa:=by
 cases fa with
 | cut k p a b=>
  have e:xs=[.str "cut",.int k,.int p,.int (a:Int),.int (b:Int)]:=D.tup.inj h
  subst e
  match ys,l with
  | [y0,y1,y2,y3,y4],_=>
   have e0:=zcV (c 0 _ _ rfl rfl) (λm e=>nomatch e)
   have e1:=zcV (c 1 _ _ rfl rfl) (λm e=>nomatch e)
   have e2:=zcV (c 2 _ _ rfl rfl) (λm e=>nomatch e)
   have e3:=zcV (c 3 _ _ rfl rfl) (λm e=>nomatch e)
   have e4:=zcV (c 4 _ _ rfl rfl) (λm e=>nomatch e)
   subst e0 e1 e2 e3 e4
   exact rfl
 | out r vs=>
  obtain⟨m,e,s⟩:=h
  have e:xs=[.str "out",.int r,.ref m]:=D.tup.inj e
  subst e
  match ys,l with
  | [y0,y1,y2],_=>
   have e0:=zcV (c 0 _ _ rfl rfl) (λm e=>nomatch e)
   have e1:=zcV (c 1 _ _ rfl rfl) (λm e=>nomatch e)
   subst e0 e1
   rcases c 2 _ _ rfl rfl with ⟨_,⟨_,e⟩ | ⟨_,e⟩⟩ | ⟨m1,m2,vs',e1,rfl,s1,s2,_⟩
   ·cases e
   ·cases e
   ·cases e1
    rw[s] at s1
    have ev:vs.map frD=vs'.map frD:=by injection s1 with e; injection e
    exact⟨m2,rfl,by rw[s2,ev]⟩
 | full vs=>
  obtain⟨m,e,s⟩:=h
  have e:xs=[.str "full",.ref m]:=D.tup.inj e
  subst e
  match ys,l with
  | [y0,y1],_=>
   have e0:=zcV (c 0 _ _ rfl rfl) (λm e=>nomatch e)
   subst e0
   rcases c 1 _ _ rfl rfl with ⟨_,⟨_,e⟩ | ⟨_,e⟩⟩ | ⟨m1,m2,vs',e1,rfl,s1,s2,_⟩
   ·cases e
   ·cases e
   ·cases e1
    rw[s] at s1
    have ev:vs.map frD=vs'.map frD:=by injection s1 with e; injection e
    exact⟨m2,rfl,by rw[s2,ev]⟩
 | waits=>
  have e:xs=[.str "waits"]:=D.tup.inj h
  subst e
  match ys,l with
  | [y0],_=>
   have e0:=zcV (c 0 _ _ rfl rfl) (λm e=>nomatch e)
   subst e0
   exact rfl
theorem zge:∀a b:List En,zaO (a++b)=zaO a++zaO b
 | [],_=>rfl
 | (x,f)::a,b=>by
  have i:=zge a b
  cases f <;> simp only[List.cons_append,zaO,i]
theorem zmB:∀l:List En,(∀e∈l,e.2=.waits)→zaO l=[]
 | [],_=>rfl
 | (x,f)::l,h=>by
  have e:f=.waits:=h (x,f) (VaT ..)
  subst e
  exact zmB l λe he=>h e (VaG _ he)
theorem zd5.mono {es es':List En}{n:Nat}{bs:List (Int×Int)}{k p:Int}{a b:Nat}(h:zd5 es n bs k p a b)(m:∀(a:Nat) (bx:List (Int×Int)) (f:Fa),es[a]?=some (bx,f)→∃f',es'[a]?=some (bx,f')):zd5 es' n bs k p a b:=by
 obtain⟨f,ea⟩:=h.ea
 obtain⟨f',eb⟩:=h.eb
 exact⟨h.hk,h.hl,h.lo,h.hi,h.na,h.nb,m _ _ _ ea,m _ _ _ eb⟩
theorem zck.mono {es es':List En}{n:Nat}{e:En}(h:zck es n e)(m:∀(a:Nat) (bx:List (Int×Int)) (f:Fa),es[a]?=some (bx,f)→∃f',es'[a]?=some (bx,f')):zck es' n e:=by
 obtain⟨bx,f⟩:=e
 cases f with
 | cut k p a b=>exact zd5.mono h m
 | out r vs=>exact h
 | full vs=>exact h
 | waits=>exact h
structure TrI (bs:List (Int×Int))(es:List En)(hn:Nat)(hb:List (Int×Int)):Prop where
 z:∃f,es[0]?=some (bs,f)
 all:∀e∈es,e.1.length=bs.length
 prt:zaO es=(List.range (es.length-1)).map (·+1)
 good:∀(k:Nat) (e:En),es[k]?=some e→zck es k e
 hold:es[hn]?=some (hb,.waits)
 aft:∀e∈es.drop (hn+1),e.2=.waits
theorem zsU (bs:List (Int×Int)):TrI bs [(bs,.waits)] 0 bs:=by
 refine⟨⟨_,rfl⟩,λe he=>by rw[VaE.mp he],rfl,λk e he=>?_,rfl,λe he=>by cases he⟩
 cases k with
 | zero=>cases he; trivial
 | succ k=>cases he
theorem TrI.step {bs:List (Int×Int)}{es:List En}{hn:Nat}{hb:List (Int×Int)}(h:TrI bs es hn hb){k p:Int}(hk:inR hb.length k)(l4:hb.length≤4)(lo:(gt hb k).1<p)(hi:p<(gt hb k).2):let es':=es.set hn (hb,.cut k p es.length (es.length+1))++[(hb.set k.toNat ((gt hb k).1,p),.waits)]++[(hb.set k.toNat (p,(gt hb k).2),.waits)]
  TrI bs es' es.length (hb.set k.toNat ((gt hb k).1,p))∧TrI bs es' (es.length+1) (hb.set k.toNat (p,(gt hb k).2)):=by
 intro es'
 have hln:=(Vab.mp h.hold).1
 have le:es'.length=es.length+2:=by simp[es']
 have gs:∀i:Nat,i<es.length→es'[i]?=(es.set hn (hb,.cut k p es.length (es.length+1)))[i]?:=λi hi=>by
  show (es.set hn _++[_]++[_])[i]?=_
  rw[Vah (by simp; omega),Vah (by simp; omega)]
 have g1:es'[es.length]?=some (hb.set k.toNat ((gt hb k).1,p),.waits):=by
  show (es.set hn _++[_]++[_])[es.length]?=_
  rw[Vah (by simp),Vaq (by simp)]
  simp
 have g2:es'[es.length+1]?=some (hb.set k.toNat (p,(gt hb k).2),.waits):=by
  show (es.set hn _++[_]++[_])[es.length+1]?=_
  rw[Vaq (by simp)]
  simp
 have gh:es'[hn]?=some (hb,.cut k p es.length (es.length+1)):=by
  rw[gs hn hln,VaD hln]
 have go:∀i:Nat,i<es.length→i≠hn→es'[i]?=es[i]?:=λi hi ne=>by rw[gs i hi,VaH (Ne.symm ne)]
 have mono:∀(a:Nat) (bx:List (Int×Int)) (f:Fa),es[a]?=some (bx,f)→∃f',es'[a]?=some (bx,f'):=λa bx f ha=>by
  have la:=(Vab.mp ha).1
  by_cases c:a=hn
  ·subst c
   rw[h.hold] at ha
   cases ha
   exact⟨_,gh⟩
  ·exact⟨f,by rw[go a la c,ha]⟩
 obtain⟨f0,z0⟩:=h.z
 have len:=h.all (hb,.waits) (Val h.hold)
 have all:∀e∈es',e.1.length=bs.length:=λe he=>by
  rcases VaQ.1 he with he | he
  ·rcases VaQ.1 he with he | he
   ·rcases List.mem_or_eq_of_mem_set he with he | he
    ·exact h.all e he
    ·rw[he]; exact len
   ·rw[VaE.mp he]
    show (hb.set _ _).length=_
    rw[VaK]; exact len
  ·rw[VaE.mp he]
   show (hb.set _ _).length=_
   rw[VaK]; exact len
 have es0:es=es.take hn++(hb,.waits)::es.drop (hn+1):=by
  have e:=Vab.mp h.hold
  rw[← e.2,← List.drop_eq_getElem_cons e.1,List.take_append_drop]
 have p0:zaO es=zaO (es.take hn):=by
  have e:zaO es=zaO (es.take hn)++zaO ((hb,Fa.waits)::es.drop (hn+1)):=by rw[← zge,← es0]
  rw[e,show zaO ((hb,Fa.waits)::es.drop (hn+1))=zaO (es.drop (hn+1)) from rfl,zmB _ h.aft,Vai]
 have prt:zaO es'=(List.range (es'.length-1)).map (·+1):=by
  show zaO (es.set hn (hb,.cut k p es.length (es.length+1))++[(hb.set k.toNat ((gt hb k).1,p),.waits)]++[(hb.set k.toNat (p,(gt hb k).2),.waits)])=_
  rw[zge,zge,List.set_eq_take_append_cons_drop,if_pos hln,zge,← p0,le]
  rw[show zaO ((hb,Fa.cut k p es.length (es.length+1))::es.drop (hn+1))=es.length::(es.length+1)::zaO (es.drop (hn+1)) from rfl,zmB _ h.aft,h.prt]
  obtain⟨n,en⟩:∃n,es.length=n+1:=⟨es.length-1,by omega⟩
  rw[en,show n+1+2-1=n+1+1 by omega,List.range_succ,List.range_succ,Vav,Vav]
  simp[zaO]
 have good:∀(i:Nat) (e:En),es'[i]?=some e→zck es' i e:=λi e he=>by
  have li:=(Vab.mp he).1
  by_cases c:i<es.length
  ·by_cases c2:i=hn
   ·subst c2
    rw[gh] at he
    cases he
    exact⟨hk,l4,lo,hi,by omega,by omega,⟨_,g1⟩,⟨_,g2⟩⟩
   ·rw[go i c c2] at he
    exact(h.good i e he).mono mono
  ·by_cases c2:i=es.length
   ·subst c2
    rw[g1] at he
    cases he
    trivial
   ·have:i=es.length+1:=by omega
    subst this
    rw[g2] at he
    cases he
    trivial
 have z':∃f,es'[0]?=some (bs,f):=mono 0 bs f0 z0
 refine⟨⟨z',all,prt,good,g1,λe he=>?_⟩,⟨z',all,prt,good,g2,λe he=>?_⟩⟩
 ·have ed:es'.drop (es.length+1)=[(hb.set k.toNat (p,(gt hb k).2),.waits)]:=by
   show (es.set hn _++[_]++[_]).drop (es.length+1)=_
   rw[List.drop_append_of_le_length (by simp),List.drop_eq_nil_of_le (by simp)]
   rfl
  rw[ed] at he
  rw[VaE.mp he]
 ·rw[List.drop_eq_nil_of_le (by omega)] at he
  cases he
theorem zba.set {S:Sto}{ds:List D}{es:List En}{n:Nat}{d:D}{e:En}(h:zba S ds es)(he:zcS S d e):zba S (ds.set n d) (es.set n e):=⟨by rw[VaK,VaK,h.1],λk d' e' a b=>by
 by_cases c:k=n
 ·subst c
  have la:=(Vab.mp a).1
  have lb:=(Vab.mp b).1
  rw[VaK] at la lb
  rw[VaD la] at a
  rw[VaD lb] at b
  cases a
  cases b
  exact he
 ·rw[VaH (Ne.symm c)] at a b
  exact h.2 k d' e' a b⟩
theorem zba.snoc {S:Sto}{ds:List D}{es:List En}{d:D}{e:En}(h:zba S ds es)(he:zcS S d e):zba S (ds++[d]) (es++[e]):=⟨by rw[Vad,Vad,h.1]; rfl,λk d' e' a b=>by
 have l:=h.1
 by_cases c:k<ds.length
 ·rw[Vah c] at a
  rw[Vah (by omega)] at b
  exact h.2 k d' e' a b
 ·have l1:=(Vab.mp a).1
  simp only[Vad,Vap,VaM] at l1
  have ee:k=ds.length:=by omega
  subst ee
  rw[Vaq (Vaa _),VaP] at a
  rw[Vaq (by omega),l,VaP] at b
  cases a
  cases b
  exact he⟩
theorem zj0 {to ti te:TDE}{dl:Ev}{S S1:Sto}{E:zbX}{n j:Nat}{k:Int}{xs:List D}{v:D}(hte:∀K:DK,K v S1→te dl S K)(hto:∀K:DK,K (.ref n) S1→to dl S1 K)(hti:∀K:DK,K (.int k) S1→ti dl S1 K)(h:S1[n]?=some (.lst xs))(hj:ixN xs.length k=some j)(hq:E.nx dl (S1.set n (.lst (xs.set j v)))):zdg to ti te E dl S:=by
 unfold zdg
 refine hte _ (hto _ (hti _ ?_))
 simp only[h,hj]
 exact hq
theorem zrn {bs:List (Int×Int)}{k i:Int}{q:Int×Int}(hk:inR bs.length k)(hi:inR bs.length i):gt (bs.set k.toNat q) i=if i=k then q else gt bs i:=by
 obtain⟨k0,k1⟩:=hk
 obtain⟨i0,i1⟩:=hi
 have e:∀l:List (Int×Int),gt l i=(l[i.toNat]?).getD (gt l (-1:Int) |> λ_=>(l.getD i.toNat (gt [] 0))):=λl=>by
  show l.getD i.toNat _=_
  rw[Vas]
  cases h:l[i.toNat]? with
  | none=>simp[gt,Vas,h]
  | some x=>rfl
 by_cases c:i=k
 ·subst c
  rw[if_pos rfl]
  have z:(bs.set i.toNat q)[i.toNat]?=some q:=VaD (by omega)
  exact by rw[e,z]; rfl
 ·rw[if_neg c]
  have z:(bs.set k.toNat q)[i.toNat]?=bs[i.toNat]?:=VaH (by omega)
  have y:bs[i.toNat]?=some bs[i.toNat]:=Vae (by omega)
  rw[e,e,z,y]
  rfl
theorem InW.set {g:Int}{hb P:List (Int×Int)}{k:Int}{q:Int×Int}(h:InW g hb P)(hl:hb.length=P.length)(hk:inR hb.length k)(hq:q.1*(gt P k).2≤(gt P k).1*g∧(gt P k).1*g≤q.2*(gt P k).2):InW g (hb.set k.toNat q) P:=λi hi=>by
 rw[zrn hk (by rw[hl]; exact hi)]
 split
 ·rename_i e
  rw[e]
  exact hq
 ·exact h i hi
theorem Spn.set1 {B:Nat}{hb:List (Int×Int)}{k:Nat}{q:Int×Int}(h:Spn B hb)(hq:q.1≤q.2∧Sz B q.1∧Sz B q.2):Spn B (hb.set k q):=λp hp=>by
 rcases List.mem_or_eq_of_mem_set hp with hp | hp
 ·exact h p hp
 ·rw[hp]; exact hq
theorem zuM {n:Nat}{a b x:Int}(ha:Sz n a)(hb:Sz n b)(h1:a≤x)(h2:x≤b):Sz n x:=by
 unfold Sz at *
 omega
theorem zlF {a b d:TDS}{E:zbX}{dl:Ev}{S:Sto}(W:Ev→Sto→Prop)(ha:∀nx:Ev→Sto→Prop,(∀dl' S',W dl' S'→nx dl' S')→zbY a b { nx:=nx,rt:=E.rt,bk:=E.bk,ct:=E.ct } dl S)(hb:∀dl' S',W dl' S'→d E dl' S'):zbY a (zbY b d) E dl S:=ha _ hb
theorem zu0 {S T:Sto}(h:Pre S T):S.length≤T.length:=by
 cases c:S.length with
 | zero=>omega
 | succ k=>
  have e:S[k]?=some S[k]:=Vae (by omega)
  have:=zaV (h k _ e)
  omega
theorem zrB {to ti te:TDE}{dl:Ev}{S:Sto}{E:zbX}{n j:Nat}{k:Int}{xs:List D}(P:D→Prop)(hte:∀K:DK,(∀v,P v→K v S)→te dl S K)(hto:∀K:DK,K (.ref n) S→to dl S K)(hti:∀K:DK,K (.int k) S→ti dl S K)(h:S[n]?=some (.lst xs))(hj:ixN xs.length k=some j)(hq:∀v,P v→E.nx dl (S.set n (.lst (xs.set j v)))):zdg to ti te E dl S:=by
 unfold zdg
 refine hte _ λv pv=>hto _ (hti _ ?_)
 simp only[h,hj]
 exact hq v pv
theorem seqV3 {a b c d:TDS}{E:zbX}{dl:Ev}{S:Sto}(W:Ev→Sto→Prop)(ha:∀nx:Ev→Sto→Prop,(∀dl' S',W dl' S'→nx dl' S')→zbY a (zbY b c) { nx:=nx,rt:=E.rt,bk:=E.bk,ct:=E.ct } dl S)(hb:∀dl' S',W dl' S'→d E dl' S'):zbY a (zbY b (zbY c d)) E dl S:=ha _ hb
section
variable {X:Cx}{Z:Zx}
def zoG:W2:=λx y S Q=>match x,y with
 | .bl a,.bl b=>Q (.bl (!(a==b))) S
 | _,_=>False
theorem zpg:OpR X (compareOp .IsNot) (upO X.K Z zoG):=by
 intro pins s σ H x y v u Qv I rx ry h
 obtain⟨r,S,dx,dy,Q,rel,px,py,q,ret⟩:=h
 unfold zoG at q
 split at q
 ·rename_i a b
  cases px
  cases py
  cases rx
  cases ry
  cases a <;> cases b <;> exact wpAny_isNot_plain rfl ⟨.bl _,H,I,rfl,ret _ _ _ _ _ Ext.refl rel (.bl _) q⟩
 ·exact q.elim
end
theorem rw_q (a b:Bool×Nat):eqN 1 (rwD a) (rwD b)=some (decide (a=b)):=by
 obtain⟨x,n⟩:=a
 obtain⟨y,m⟩:=b
 cases x <;> cases y <;> simp[eqN,rwD,eqL,eqF,L3.eqT] <;> first | omega | exact λh=>absurd h (by decide)
theorem znB (x:Bool×Nat):∀rows:List (Bool×Nat),∃o,zbO (eqN 1) (rows.map rwD) (rwD x)=some o
 | []=>⟨none,rfl⟩
 | y::ys=>by
  obtain⟨o,e⟩:=znB x ys
  show ∃o,(match eqN 1 (rwD y) (rwD x),zbO (eqN 1) (ys.map rwD) (rwD x) with | some true,some _=>some (some 0) | some false,some o=>some (o.map (·+1)) | _,_=>none)=some o
  rw[rw_q,e]
  cases decide (y=x)
  ·exact⟨_,rfl⟩
  ·exact⟨_,rfl⟩
theorem znd {x:Bool×Nat}:∀ {rows:List (Bool×Nat)},x∈rows→∃i:Nat,zbO (eqN 1) (rows.map rwD) (rwD x)=some (some i)∧rows[i]?=some x
 | [],h=>by cases h
 | y::ys,h=>by
  obtain⟨o,e⟩:=znB x ys
  show ∃i:Nat,(match eqN 1 (rwD y) (rwD x),zbO (eqN 1) (ys.map rwD) (rwD x) with | some true,some _=>some (some 0) | some false,some o=>some (o.map (·+1)) | _,_=>none)=some (some i)∧_
  rw[rw_q]
  by_cases c:y=x
  ·subst c
   rw[decide_eq_true rfl,e]
   exact⟨0,rfl,rfl⟩
  ·rw[decide_eq_false c]
   rcases Vaf.1 h with h | h
   ·exact absurd h.symm c
   ·obtain⟨i,e1,e2⟩:=znd h
    rw[e1]
    exact⟨i+1,rfl,by simpa using e2⟩
theorem zva {x:Bool×Nat}{rows:List (Bool×Nat)}{n j:Nat}{to:TDE}{t:TDA}{dl:Ev}{S:Sto}{Q:DK}(hto:∀K:DK,K (.ref n) S→to dl S K)(ht:∀K:List D→Sto→Prop,K [rwD x] S→t dl S K)(h:S[n]?=some (.lst (rows.map rwD)))(e:zbO (eqN 1) (rows.map rwD) (rwD x)=some (some j))(hq:Q (.int (j:Int)) S):zen 1 to t dl S Q:=by
 unfold zen
 refine hto _ ?_
 refine⟨by rw[zaU h rfl]; rfl,?_⟩
 refine ht _ ?_
 unfold zfT
 simp only[zaU h rfl,zaj,e]
 exact hq
theorem zeZ {S:Sto}{n:Nat}{xs:List D}(h:∀x∈xs,eqF x x=some true):Alk S (n+1) (.tup xs) (.tup xs):=.inr (.inl ⟨xs,xs,rfl,rfl,rfl,λk x y hx hy=>by
 rw[hx] at hy
 cases hy
 have e:=h x (Val hx)
 have z:∀n:Nat,Alk S n x x:=λn=>by
  induction n with
  | zero=>exact e
  | succ n ih=>exact .inl ih
 exact z n⟩)
theorem zjH {S:Sto}{x:D}(e:eqF x x=some true):∀n:Nat,Alk S n x x
 | 0=>e
 | n+1=>.inl (zjH e n)
theorem zky {S:Sto}{n:Nat}(p:Int×Int):Alk S (n+1) (frD p) (frD p):=zeZ λx hx=>by
 simp only[Vaf,Vay,or_false] at hx
 rcases hx with rfl | rfl <;> simp[eqF]
theorem ztm {S:Sto}{n:Nat}(v:Nd):Alk S (n+1) v.d v.d:=by
 cases v <;> exact zeZ λx hx=>by
  simp only[Vaf,Vay,or_false] at hx
  first
   | (rcases hx with rfl | rfl | rfl <;> simp[eqF])
   | (rcases hx with rfl | rfl <;> simp[eqF])
theorem ztI {S:Sto}{n:Nat}(p:Bool×Nat):Alk S (n+1) (rwD p) (rwD p):=zeZ λx hx=>by
 simp only[Vaf,Vay,or_false] at hx
 rcases hx with rfl | rfl <;> simp[eqF]
theorem zex {S:Sto}{n a b:Nat}{α:Type}{f:α→D}{xs:List α}(hf:∀x,Alk S n (f x) (f x))(h1:S[a]?=some (.lst (xs.map f)))(h2:S[b]?=some (.lst (xs.map f))):Alk S (n+1) (.ref a) (.ref b):=.inr (.inr ⟨a,b,_,_,rfl,rfl,h1,h2,rfl,λk x y hx hy=>by
 rw[hx] at hy
 cases hy
 obtain⟨q,_,rfl⟩:=Va4.mp (Val hx)
 exact hf q⟩)
theorem zpe {S:Sto}{d e:D}{fa:Fa}(h1:zcm S d fa)(h2:zcm S e fa):Alk S 3 d e:=by
 cases fa with
 | cut k p a b=>
  have e1:d=.tup [.str "cut",.int k,.int p,.int (a:Int),.int (b:Int)]:=h1
  have e2:e=.tup [.str "cut",.int k,.int p,.int (a:Int),.int (b:Int)]:=h2
  subst e1 e2
  exact zeZ λx hx=>by
   simp only[Vaf,Vay,or_false] at hx
   rcases hx with rfl | rfl | rfl | rfl | rfl <;> simp[eqF]
 | out r vs=>
  obtain⟨m,rfl,s⟩:=h1
  obtain⟨m',rfl,s'⟩:=h2
  refine .inr (.inl ⟨_,_,rfl,rfl,rfl,λk x y hx hy=>?_⟩)
  match k,hx,hy with
  | 0,hx,hy=>cases hx; cases hy; exact zjH (by simp[eqF]) _
  | 1,hx,hy=>cases hx; cases hy; exact zjH (by simp[eqF]) _
  | 2,hx,hy=>cases hx; cases hy; exact zex (λp=>zky p) s s'
  | k+3,hx,hy=>cases hx
 | full vs=>
  obtain⟨m,rfl,s⟩:=h1
  obtain⟨m',rfl,s'⟩:=h2
  refine .inr (.inl ⟨_,_,rfl,rfl,rfl,λk x y hx hy=>?_⟩)
  match k,hx,hy with
  | 0,hx,hy=>cases hx; cases hy; exact zjH (by simp[eqF]) _
  | 1,hx,hy=>cases hx; cases hy; exact zex (λp=>zky p) s s'
  | k+2,hx,hy=>cases hx
 | waits=>
  have e1:d=.tup [.str "waits"]:=h1
  have e2:e=.tup [.str "waits"]:=h2
  subst e1 e2
  exact zeZ λx hx=>by
   rw[VaE.mp hx]
   simp[eqF]
theorem zt1 {S:Sto}{d e:D}{en:En}(h1:zcS S d en)(h2:zcS S e en):Alk S 4 d e:=by
 obtain⟨m,f,rfl,a,b⟩:=h1
 obtain⟨m',f',rfl,a',b'⟩:=h2
 refine .inr (.inl ⟨_,_,rfl,rfl,rfl,λk x y hx hy=>?_⟩)
 match k,hx,hy with
 | 0,hx,hy=>cases hx; cases hy; exact .inl (zex (λp=>zky p) a a')
 | 1,hx,hy=>cases hx; cases hy; exact zpe b b'
 | k+2,hx,hy=>cases hx
theorem zba.keep2 {S T:Sto}{ds ds0:List D}{es:List En}{m:Nat}(hd:S[m]?=some (.lst ds0))(hx:∃(i:Nat) (x f:D),ds0[i]?=some (.tup [x,f])∧∀a,x≠.int a)(h:zba S ds es)(k:∀(x:Nat) (o:Ob),x≠m→S[x]?=some o→T[x]?=some o):zba T ds es:=⟨h.1,λi d e a b=>by
 obtain⟨p,f,rfl,hp,hf⟩:=h.2 i d e a b
 obtain⟨i0,x0,f0,a0,n0⟩:=hx
 have ne:∀(x:Nat) (vs:List (Int×Int)),S[x]?=some (.lst (vs.map frD))→x≠m:=λx vs hx ex=>by
  subst ex
  rw[hd] at hx
  have ev:ds0=vs.map frD:=by injection hx with e; injection e
  rw[ev,Vag] at a0
  cases c:vs[i0]? with
  | none=>rw[c] at a0; cases a0
  | some q=>rw[c] at a0; cases a0; exact n0 _ rfl
 refine⟨p,f,rfl,k _ _ (ne _ _ hp) hp,?_⟩
 obtain⟨bx,fa⟩:=e
 cases fa with
 | cut k p a b=>exact hf
 | out r vs=>obtain⟨m2,e2,s⟩:=hf; exact⟨m2,e2,k _ _ (ne _ _ s) s⟩
 | full vs=>obtain⟨m2,e2,s⟩:=hf; exact⟨m2,e2,k _ _ (ne _ _ s) s⟩
 | waits=>exact hf⟩
theorem zq7 {es:List En}{k:Nat}{e:En}(h:zck es k e):e.2.few:=by
 obtain⟨bx,f⟩:=e
 cases f with
 | cut k p a b=>exact trivial
 | out r vs=>exact h.elim
 | full vs=>exact h.elim
 | waits=>exact trivial
def zbw (ft:Bool)(i:Nat)(vs:List (Int×Int)):Fa:=if ft then .out (i:Int) vs else .full vs
theorem zoK:∀(es:List En) (n:Nat) (hb:List (Int×Int)) (ft:Bool) (i:Nat) (vs:List (Int×Int)),es[n]?=some (hb,.waits)→zaO (es.set n (hb,zbw ft i vs))=zaO es
 | [],_,_,_,_,_,h=>by cases h
 | e::es,0,hb,ft,i,vs,h=>by
  cases h
  cases ft <;> rfl
 | (x,f)::es,n+1,hb,ft,i,vs,h=>by
  have z:=zoK es n hb ft i vs h
  show zaO ((x,f)::es.set n (hb,zbw ft i vs))=_
  cases f <;> simp only[zaO,z]
theorem znN {es:List En}{n:Nat}{hb:List (Int×Int)}{f0 f1:Fa}(h:es[n]?=some (hb,f0)):∀(a:Nat) (bx:List (Int×Int)) (f:Fa),es[a]?=some (bx,f)→∃f',(es.set n (hb,f1))[a]?=some (bx,f'):=λa bx f e=>by
 by_cases c:a=n
 ·subst c
  rw[h] at e
  cases e
  exact⟨_,VaD (Vab.mp h).1⟩
 ·exact⟨f,by rw[VaH (Ne.symm c)]; exact e⟩
theorem zsu {es:List En}{n:Nat}{hb:List (Int×Int)}{f0 f1:Fa}{k:Nat}(h:es[n]?=some (hb,f0))(al:∀e∈es,e.1.length=k):∀e∈es.set n (hb,f1),e.1.length=k:=λe he=>by
 rcases List.mem_or_eq_of_mem_set he with he | he
 ·exact al e he
 ·rw[he]
  exact al (hb,f0) (Val h)
theorem zs9 {ft z:Bool}{ns:List Nd}{ws:List Nat}{rows:List (Bool×Nat)}{g:Int}{q:Nat}{i j:Nat}{hb ps vs:List (Int×Int)}(net:zaL q ns ws)(hq:hb.length=q)(hp:ps.length=q)(hg:1≤g)(iw:InW g hb ps)(pp:Pz 110 ps)(er:rows[i]?=some (z,j))(hj:j<ns.length)(lv:vs.length=(if ft then j+1 else ns.length))(sv:Spn 1400 vs)(d1:ft=true→(gt (zap ps ns) (j:Int)).1=0)(d2:ft=false→(gt (zap ps ns) (j:Int)).1<0)(b1:ft=true→zdi z (gt vs (j:Int)))(b2:ft=false→zdb z (gt vs (j:Int))):zhW ns rows g (hb,zbw ft i vs):=by
 have hir:=(Vab.mp er).1
 cases ft with
 | true=>
  have lv':vs.length=j+1:=lv
  refine⟨⟨by omega,by omega⟩,?_,by omega,sv,zuh net (by rw[hq]) (by rw[hp]) hg iw pp lv' hj (d1 rfl) (b1 rfl)⟩
  rw[Vaj,Vas,er]
  exact lv'
 | false=>
  exact⟨lv,sv,zuN net (by rw[hq]) (by rw[hp]) hg iw pp lv hj (d2 rfl) (b2 rfl)⟩
structure zcI (K:PySem.W.Frag)(mg:Str→Option Value) where
 C:Addr
 m:mg "Number"=some (.ref C)
 cl:Cls K C
 n_bottom:zbs K C "bottom"
 n_top:zbs K C "top"
 makes:PySem.W.makesIn K C=true
 kp:PySem.W.keepIn K (.ref C)=true
structure zcF (K:PySem.W.Frag)(mg:Str→Option Value) where
 C:Addr
 m:mg "Unknown"=some (.ref C)
 cl:Cls K C
 n_place:zbs K C "place"
 makes:PySem.W.makesIn K C=true
 kp:PySem.W.keepIn K (.ref C)=true
structure zcB (K:PySem.W.Frag)(mg:Str→Option Value) where
 C:Addr
 m:mg "Plus"=some (.ref C)
 cl:Cls K C
 n_other:zbs K C "other"
 n_one:zbs K C "one"
 makes:PySem.W.makesIn K C=true
 kp:PySem.W.keepIn K (.ref C)=true
structure zcE (K:PySem.W.Frag)(mg:Str→Option Value) where
 C:Addr
 m:mg "Minus"=some (.ref C)
 cl:Cls K C
 n_other:zbs K C "other"
 n_one:zbs K C "one"
 makes:PySem.W.makesIn K C=true
 kp:PySem.W.keepIn K (.ref C)=true
structure zcD (K:PySem.W.Frag)(mg:Str→Option Value) where
 C:Addr
 m:mg "Times"=some (.ref C)
 cl:Cls K C
 n_other:zbs K C "other"
 n_one:zbs K C "one"
 makes:PySem.W.makesIn K C=true
 kp:PySem.W.keepIn K (.ref C)=true
structure zcL (K:PySem.W.Frag)(mg:Str→Option Value) where
 C:Addr
 m:mg "Power"=some (.ref C)
 cl:Cls K C
 n_many:zbs K C "many"
 n_one:zbs K C "one"
 makes:PySem.W.makesIn K C=true
 kp:PySem.W.keepIn K (.ref C)=true
def zeA:Sd:=λds S Q ex=>match ds with
 | [.ref sc]=>∃cs:List Int,S[sc]?=some (.frz (cs.map D.int))∧Q (.bl (frS cs)) S
 | _=>False
theorem zrD:Ln (zeA) 1:=λds S Q ex h=>by unfold zeA at h; split at h <;> first | rfl | exact h.elim
def zc0:Sd:=λds S Q ex=>match ds with
 | [.ref sc,.int k]=>∃cs:List Int,S[sc]?=some (.frz (cs.map D.int))∧(0≤k∧k≤1000)∧∀v:Int,Q (.int v) S
 | _=>False
theorem zsB:Ln (zc0) 2:=λds S Q ex h=>by unfold zc0 at h; split at h <;> first | rfl | exact h.elim
def zfG:Sd:=λds S Q ex=>match ds with
 | [.int _]=>∀g:Int,1≤g→g≤1000000→Q (.int g) S
 | _=>False
theorem zs6:Ln (zfG) 1:=λds S Q ex h=>by unfold zfG at h; split at h <;> first | rfl | exact h.elim
def zgK:Sd:=λds S Q ex=>match ds with
 | [.int _,.int _]=>∀lo hi:Int,lo≤hi→lo.natAbs≤2000000→hi.natAbs≤2000000→Q (.tup [.int lo,.int hi]) S
 | _=>False
theorem zra:Ln (zgK) 2:=λds S Q ex h=>by unfold zgK at h; split at h <;> first | rfl | exact h.elim
def zgD:Sd:=λds S Q ex=>match ds with
 | [.ref b,.ref pa,.int W,.int g]=>∃(bs:List (Int×Int)) (ts:List Int),S[b]?=some (.lst (bs.map frD))∧S[pa]?=some (.lst (ts.map D.int))∧bs.length=ts.length∧bs.length≤900∧Spn 51 bs∧(1≤W∧W≤60)∧(∀t∈ts,0≤t∧t≤W)∧(1≤g∧g≤1000000)∧∀(T:Sto) (m:Nat),Pre S T→S.length≤m→T[m]?=some (.lst ((pts bs ts W g bs.length).map frD))→Q (.ref m) T
 | _=>False
theorem ztf:Ln (zgD) 4:=λds S Q ex h=>by unfold zgD at h; split at h <;> first | rfl | exact h.elim
def zgE:Sd:=λds S Q ex=>match ds with
 | [.ref sc,.int qi,.int g]=>∃(cs:List Int) (q:Nat),S[sc]?=some (.frz (cs.map D.int))∧(qi=(q:Int)∧q≤4)∧(1≤g∧g≤1000000)∧∀(T:Sto) (m1 m2:Nat) (B P:List (Int×Int)),Pre S T→S.length≤m1→S.length≤m2→m1≠m2→T[m1]?=some (.lst (B.map frD))→T[m2]?=some (.lst (P.map frD))→B.length=q→P.length=q→Spn 51 B→InW g B P→(∀p∈P,1≤p.2∧p.2≤10^9∧p.1.natAbs≤10^9)→Q (.tup [.ref m1,.ref m2]) T
 | _=>False
theorem zqV:Ln (zgE) 3:=λds S Q ex h=>by unfold zgE at h; split at h <;> first | rfl | exact h.elim
def zdM:Sd:=λds S Q ex=>match ds with
 | [.int T,.int B]=>(0<B∧Sz 4000 B)∧∀t b:Int,1≤b→Int.gcd t b=1→t*B=T*b→t.natAbs≤T.natAbs→b≤B→Q (.tup [.int t,.int b]) S
 | _=>False
theorem zui:Ln (zdM) 2:=λds S Q ex h=>by unfold zdM at h; split at h <;> first | rfl | exact h.elim
def zdw:Sd:=λds S Q ex=>match ds with
 | [.ref a,d]=>∃(q:Nat) (v:Nd) (ns:List Nd) (ws:List Nat),d=v.d∧S[a]?=some (.lst (ns.map Nd.d))∧ns.length<900∧zaL q ns ws∧v.ok ns.length q∧v.wt ws≤16∧∀(T:Sto) (j:Nat) (ms:List Nd) (us:List Nat),zaL q (ns++ms) (ws++us)→ms.length≤1→(∀u∈ms,u=v)→(ns++ms)[j]?=some v→T[a]?=some (.lst ((ns++ms).map Nd.d))→S.length=T.length→(∀(x:Nat) (o:Ob),x≠a→S[x]?=some o→T[x]?=some o)→Q (.int (j:Int)) T
 | _=>False
theorem zrd:Ln (zdw) 2:=λds S Q ex h=>by unfold zdw at h; split at h <;> first | rfl | exact h.elim
def zfo:Sd:=λds S Q ex=>match ds with
 | [.ref a,.ref p,.int _]=>∃(q:Nat) (P:List (Int×Int)) (ns:List Nd) (ws:List Nat),S[a]?=some (.lst (ns.map Nd.d))∧S[p]?=some (.lst (P.map frD))∧a≠p∧zaL q ns ws∧q=P.length∧q≤4∧ns.length<700∧(∀k:Nat,k<q→ns[k]?=some (.unknown (k:Int)))∧(∀(i:Nat) (v:Nd),ns[i]?=some v→ws.getD i 0=v.hv)∧(∀p∈P,1≤p.2∧p.2≤10^9∧p.1.natAbs≤10^9)∧∀(T:Sto) (m:Nat) (ms:List Nd) (us fs:List Nat),zaL q (ns++ms) (ws++us)→ms.length≤8→T[a]?=some (.lst ((ns++ms).map Nd.d))→T[m]?=some (.lst (fs.map wtD))→fs.length=q→(∀f∈fs,f<(ns++ms).length∧(ws++us).getD f 0=2∧(gt (zap P (ns++ms)) (f:Int)).1=0)→(∀(i:Nat) (v:Nd),(ns++ms)[i]?=some v→(ws++us).getD i 0=v.hv)→S.length≤m→(∀(x:Nat) (o:Ob),x≠a→S[x]?=some o→T[x]?=some o)→Q (.ref m) T
 | _=>False
theorem zqz:Ln (zfo) 3:=λds S Q ex h=>by unfold zfo at h; split at h <;> first | rfl | exact h.elim
def zg6:Sd:=λds S Q ex=>match ds with
 | [.int _]=>∀t b:Int,(1≤b∧b≤10^9)→Int.gcd t b=1→t.natAbs≤10^9→Q (.tup [.int t,.int b]) S
 | _=>False
theorem zvd:Ln (zg6) 1:=λds S Q ex h=>by unfold zg6 at h; split at h <;> first | rfl | exact h.elim
def zfL:Sd:=λds S Q ex=>match ds with
 | [.int _]=>∀t b:Int,(1≤b∧b≤10^9)→Int.gcd t b=1→t.natAbs≤10^9→Q (.tup [.int t,.int b]) S
 | _=>False
theorem zuT:Ln (zfL) 1:=λds S Q ex h=>by unfold zfL at h; split at h <;> first | rfl | exact h.elim
def ze5:Sd:=λds S Q ex=>match ds with
 | [.ref a,.ref b,d,.int w]=>∃(v:Nd) (ns:List Nd) (ws:List Nat),d=v.d∧S[a]?=some (.lst (ns.map Nd.d))∧S[b]?=some (.lst (ws.map wtD))∧a≠b∧w=(v.wt ws:Nat)∧ns.length<900∧ws.length<900∧(∀j:Nat,ns[j]?=some v→Q (.int (j:Int)) S)∧∀i:Int,i=(ns.length:Nat)→Q (.int i) ((S.set a (.lst ((ns++[v]).map Nd.d))).set b (.lst ((ws++[v.wt ws]).map wtD)))
 | _=>False
theorem zt7:Ln (ze5) 4:=λds S Q ex h=>by unfold ze5 at h; split at h <;> first | rfl | exact h.elim
def zgJ:Sd:=λds S Q ex=>match ds with
 | [.ref a,.ref b,.int c,.int most,.bl fr]=>∃(qn:Nat) (ns:List Nd) (ws:List Nat),S[a]?=some (.lst (ns.map Nd.d))∧S[b]?=some (.lst (ws.map wtD))∧a≠b∧zaL qn ns ws∧1≤ns.length∧ns.length<900∧most≤16∧∀(T:Sto) (ms:List Nd) (us:List Nat),zaL qn (ns++ms) us→(∃u2:List Nat,us=ws++u2∧∀w∈u2,w=1∨((w:Nat):Int)≤most)→ms.length≤1→T[a]?=some (.lst ((ns++ms).map Nd.d))→T[b]?=some (.lst (us.map wtD))→S.length≤T.length→(∀(x:Nat) (o:Ob),x≠a→x≠b→S[x]?=some o→T[x]?=some o)→Q .non T
 | _=>False
theorem zsb:Ln (zgJ) 5:=λds S Q ex h=>by unfold zgJ at h; split at h <;> first | rfl | exact h.elim
def zg2:Sd:=λds S Q ex=>match ds with
 | [.ref a,.ref p]=>∃(q B:Nat) (P:List (Int×Int)) (ns:List Nd) (ws is:List Nat),S[a]?=some (.lst (ns.map Nd.d))∧S[p]?=some (.lst (is.map wtD))∧a≠p∧zaL q ns ws∧(1≤is.length∧is.length≤4)∧is.length*B≤16∧ns.length<800∧(∀i∈is,i<ns.length∧ws.getD i 0≤B∧(gt (zap P ns) (i:Int)).1=0)∧∀(T:Sto) (j:Nat) (ms:List Nd) (us:List Nat),zaL q (ns++ms) (ws++us)→ms.length≤4→T[a]?=some (.lst ((ns++ms).map Nd.d))→j<(ns++ms).length→(ws++us).getD j 0≤is.length*B→(gt (zap P (ns++ms)) (j:Int)).1=0→S.length≤T.length→(∀(x:Nat) (o:Ob),x≠a→S[x]?=some o→T[x]?=some o)→Q (.int (j:Int)) T
 | _=>False
theorem zsV:Ln (zg2) 2:=λds S Q ex h=>by unfold zg2 at h; split at h <;> first | rfl | exact h.elim
def zeM:Sd:=λds S Q ex=>match ds with
 | [.ref sc,.ref a,.ref f,.bl ft]=>∃(cs:List Int) (q M:Nat) (P:List (Int×Int)) (ns:List Nd) (ws fs:List Nat),S[sc]?=some (.frz (cs.map D.int))∧S[a]?=some (.lst (ns.map Nd.d))∧S[f]?=some (.lst (fs.map wtD))∧a≠f∧zaL q ns ws∧(1≤fs.length∧fs.length≤4)∧fs.length*(M+2)≤15∧ns.length≤100∧P.length=q∧Pz 110 P∧(∀i:Nat,i<ns.length→ws.getD i 0≤M)∧(∀i∈fs,i<ns.length∧ws.getD i 0=2∧(gt (zap P ns) (i:Int)).1=0)∧∀(T:Sto) (z:Bool) (j:Nat) (ms:List Nd) (us:List Nat),zaL q (ns++ms) (ws++us)→ms.length≤20→T[a]?=some (.lst ((ns++ms).map Nd.d))→j<(ns++ms).length→(ft=true→(gt (zap P (ns++ms)) (j:Int)).1=0)→(ft=false→(gt (zap P (ns++ms)) (j:Int)).1<0)→S.length≤T.length→(∀(x:Nat) (o:Ob),x≠a→S[x]?=some o→T[x]?=some o)→Q (rwD (z,j)) T
 | _=>False
theorem ztk:Ln (zeM) 4:=λds S Q ex h=>by unfold zeM at h; split at h <;> first | rfl | exact h.elim
def zgV:Sd:=λds S Q ex=>match ds with
 | [.ref sc,.ref r,.int many]=>∃(cs:List Int) (rows:List (Bool×Nat)) (mn:Nat),S[sc]?=some (.frz (cs.map D.int))∧S[r]?=some (.lst (rows.map rwD))∧many=(mn:Int)∧1≤mn∧mn≤900∧rows.length≤3∧(∀x∈rows,x.2<mn)∧∀(T:Sto) (rows':List (Bool×Nat)),(∀x∈rows',x.2<mn)→(∀x∈rows,x∈rows')→rows'.length≤rows.length+2→T[r]?=some (.lst (rows'.map rwD))→S.length≤T.length→(∀(x:Nat) (o:Ob),x≠r→S[x]?=some o→T[x]?=some o)→Q .non T
 | _=>False
theorem zrF:Ln (zgV) 3:=λds S Q ex h=>by unfold zgV at h; split at h <;> first | rfl | exact h.elim
def zeU:Sd:=λds S Q ex=>match ds with
 | [.ref bx,.ref pt,.int c,.int g]=>∃bs P:List (Int×Int),S[bx]?=some (.lst (bs.map frD))∧S[pt]?=some (.lst (P.map frD))∧bs.length=P.length∧(1≤bs.length∧bs.length≤4)∧Spn 51 bs∧InW g bs P∧(1≤g∧g≤1000000)∧Pz 110 P∧∀(T:Sto) (m:Nat) (es:List En) (hn:Nat) (hb:List (Int×Int)),Pre S T→S.length≤m→zbV T m es→TrI bs es hn hb→es.length≤5→Spn 51 hb→InW g hb P→Q (.tup [.ref m,.int (hn:Int)]) T
 | _=>False
theorem zqo:Ln (zeU) 4:=λds S Q ex h=>by unfold zeU at h; split at h <;> first | rfl | exact h.elim
def zfp:Sd:=λds S Q ex=>match ds with
 | [.ref l,.int m]=>∃(R:List (List (Int×Int))) (ds:List D),S[l]?=some (.lst ds)∧zbu S 0 ds R∧R.length≤900∧Q (.bl ((R.map λr=>decide (((r.length:Nat):Int)=m)).all id)) S
 | _=>False
theorem zuS:Ln (zfp) 2:=λds S Q ex h=>by unfold zfp at h; split at h <;> first | rfl | exact h.elim
def zg1:Sd:=λds S Q ex=>match ds with
 | [.ref b]=>∃es:List En,zbV S b es∧es.length≤100∧Q (.ref S.length) (S++[.lst ((zaO es).map wtD)])
 | _=>False
theorem zsj:Ln (zg1) 1:=λds S Q ex h=>by unfold zg1 at h; split at h <;> first | rfl | exact h.elim
def zeX:Sd:=λds S Q ex=>match ds with
 | [.ref bx,.ref b]=>∃(bs:List (Int×Int)) (es:List En),S[bx]?=some (.lst (bs.map frD))∧zbV S b es∧(1≤es.length∧es.length≤30)∧(∃f,es[0]?=some (bs,f))∧(∀e∈es,e.1.length=bs.length)∧zaO es=(List.range (es.length-1)).map (·+1)∧∀T,Pre S T→Q (.bl true) T
 | _=>False
theorem zpc:Ln (zeX) 2:=λds S Q ex h=>by unfold zeX at h; split at h <;> first | rfl | exact h.elim
def zeV:Sd:=λds S Q ex=>match ds with
 | [.tup [.int a,.int b],.tup [.int c,.int d]]=>Q (.bl (decide (c<a)&&decide (b<d))) S
 | _=>False
theorem zvJ:Ln (zeV) 2:=λds S Q ex h=>by unfold zeV at h; split at h <;> first | rfl | exact h.elim
def zfH:Sd:=λds S Q ex=>match ds with
 | [.ref b,.int k,d]=>∃(bs:List (Int×Int)) (p:Int×Int),S[b]?=some (.lst (bs.map frD))∧inR bs.length k∧bs.length≤4∧d=frD p∧∀(T:Sto) (m:Nat),Pre S T→S.length≤m→T[m]?=some (.lst ((bs.set k.toNat p).map frD))→Q (.ref m) T
 | _=>False
theorem zqy:Ln (zfH) 3:=λds S Q ex h=>by unfold zfH at h; split at h <;> first | rfl | exact h.elim
def zgA:Sd:=λds S Q ex=>match ds with
 | [.ref b,.int n]=>∃(es:List En) (nn:Nat) (bs:List (Int×Int)) (k p:Int) (a c:Nat),zbV S b es∧n=(nn:Int)∧es[nn]?=some (bs,.cut k p a c)∧zd5 es nn bs k p a c∧∀T,Pre S T→Q (.bl true) T
 | _=>False
theorem zu8:Ln (zgA) 2:=λds S Q ex h=>by unfold zgA at h; split at h <;> first | rfl | exact h.elim
def zgv:Sd:=λds S Q ex=>match ds with
 | [.tup [.int a,.int b],.tup [.int c,.int d]]=>Q (.bl (decide (c≤a)&&decide (b≤d))) S
 | _=>False
theorem zpS:Ln (zgv) 2:=λds S Q ex h=>by unfold zgv at h; split at h <;> first | rfl | exact h.elim
def zfO:Sd:=λds S Q ex=>match ds with
 | [.ref m,.ref n]=>∃us vs:List (Int×Int),S[m]?=some (.lst (us.map frD))∧S[n]?=some (.lst (vs.map frD))∧us.length≤1000∧Q (.bl (zbL us vs)) S
 | _=>False
theorem zvH:Ln (zfO) 2:=λds S Q ex h=>by unfold zfO at h; split at h <;> first | rfl | exact h.elim
def zhb:Sd:=λds S Q ex=>match ds with
 | [.tup [.int a,.int b],.tup [.int c,.int d]]=>(IntMulOk a d∧IntMulOk c b)∧Q (.bl (decide (a*d<c*b))) S
 | _=>False
theorem zqF:Ln (zhb) 2:=λds S Q ex h=>by unfold zhb at h; split at h <;> first | rfl | exact h.elim
def zdI:Sd:=λds S Q ex=>match ds with
 | [.int t,.int b]=>CFd 0 b∧Q (.int (-(-t/b))) S
 | _=>False
theorem zrl:Ln (zdI) 2:=λds S Q ex h=>by unfold zdI at h; split at h <;> first | rfl | exact h.elim
def zfi:Sd:=λds S Q ex=>match ds with
 | [.tup [.int a,.int b],.tup [.int c,.int d],.int g]=>((IntMulOk c b∧IntMulOk a d)∧¬ c*b<a*d∧IntMulOk a g∧IntMulOk c g∧CFd 0 b∧CFd 0 d)∧Q (.tup [.int (a*g/b),.int (-(-(c*g)/d))]) S
 | _=>False
theorem zum:Ln (zfi) 3:=λds S Q ex h=>by unfold zfi at h; split at h <;> first | rfl | exact h.elim
def zdX (cNumber:Addr)(cUnknown:Addr)(cPlus:Addr)(cMinus:Addr)(cTimes:Addr)(cPower:Addr):Sd:=λds S Q ex=>match ds with
 | [.ref n,.ref w,.ref p,.int g]=>∃(x y:Int) (vs bs:List (Int×Int)),S[n]?=some (Nd.ob cNumber cUnknown cPlus cMinus cTimes cPower (Nd.number x y))∧S[w]?=some (.lst (vs.map frD))∧S[p]?=some (.lst (bs.map frD))∧Nd.ok vs.length bs.length (Nd.number x y)∧Spn 1400 vs∧(1≤g∧g≤1000000)∧Q (frD (Nd.fw vs bs g (Nd.number x y))) S
 | _=>False
theorem zpy (cNumber:Addr)(cUnknown:Addr)(cPlus:Addr)(cMinus:Addr)(cTimes:Addr)(cPower:Addr):Ln (zdX cNumber cUnknown cPlus cMinus cTimes cPower) 4:=λds S Q ex h=>by unfold zdX at h; split at h <;> first | rfl | exact h.elim
def zeg (cNumber:Addr)(cUnknown:Addr)(cPlus:Addr)(cMinus:Addr)(cTimes:Addr)(cPower:Addr):Sd:=λds S Q ex=>match ds with
 | [.ref n,.ref w,.ref p,.int g]=>∃(k:Int) (vs bs:List (Int×Int)),S[n]?=some (Nd.ob cNumber cUnknown cPlus cMinus cTimes cPower (Nd.unknown k))∧S[w]?=some (.lst (vs.map frD))∧S[p]?=some (.lst (bs.map frD))∧Nd.ok vs.length bs.length (Nd.unknown k)∧Spn 1400 vs∧(1≤g∧g≤1000000)∧Q (frD (Nd.fw vs bs g (Nd.unknown k))) S
 | _=>False
theorem zst (cNumber:Addr)(cUnknown:Addr)(cPlus:Addr)(cMinus:Addr)(cTimes:Addr)(cPower:Addr):Ln (zeg cNumber cUnknown cPlus cMinus cTimes cPower) 4:=λds S Q ex h=>by unfold zeg at h; split at h <;> first | rfl | exact h.elim
def zg5:Sd:=λds S Q ex=>match ds with
 | [.tup [.int a,.int b],.tup [.int c,.int d]]=>Q (.tup [.int (a+c),.int (b+d)]) S
 | _=>False
theorem zre:Ln (zg5) 2:=λds S Q ex h=>by unfold zg5 at h; split at h <;> first | rfl | exact h.elim
def zee (cNumber:Addr)(cUnknown:Addr)(cPlus:Addr)(cMinus:Addr)(cTimes:Addr)(cPower:Addr):Sd:=λds S Q ex=>match ds with
 | [.ref n,.ref w,.ref p,.int g]=>∃(i j:Int) (vs bs:List (Int×Int)),S[n]?=some (Nd.ob cNumber cUnknown cPlus cMinus cTimes cPower (Nd.plus i j))∧S[w]?=some (.lst (vs.map frD))∧S[p]?=some (.lst (bs.map frD))∧Nd.ok vs.length bs.length (Nd.plus i j)∧Spn 1400 vs∧(1≤g∧g≤1000000)∧Q (frD (Nd.fw vs bs g (Nd.plus i j))) S
 | _=>False
theorem zuv (cNumber:Addr)(cUnknown:Addr)(cPlus:Addr)(cMinus:Addr)(cTimes:Addr)(cPower:Addr):Ln (zee cNumber cUnknown cPlus cMinus cTimes cPower) 4:=λds S Q ex h=>by unfold zee at h; split at h <;> first | rfl | exact h.elim
def zf0:Sd:=λds S Q ex=>match ds with
 | [.tup [.int a,.int b],.tup [.int c,.int d]]=>Q (.tup [.int (a-d),.int (b-c)]) S
 | _=>False
theorem ztw:Ln (zf0) 2:=λds S Q ex h=>by unfold zf0 at h; split at h <;> first | rfl | exact h.elim
def zd2 (cNumber:Addr)(cUnknown:Addr)(cPlus:Addr)(cMinus:Addr)(cTimes:Addr)(cPower:Addr):Sd:=λds S Q ex=>match ds with
 | [.ref n,.ref w,.ref p,.int g]=>∃(i j:Int) (vs bs:List (Int×Int)),S[n]?=some (Nd.ob cNumber cUnknown cPlus cMinus cTimes cPower (Nd.minus i j))∧S[w]?=some (.lst (vs.map frD))∧S[p]?=some (.lst (bs.map frD))∧Nd.ok vs.length bs.length (Nd.minus i j)∧Spn 1400 vs∧(1≤g∧g≤1000000)∧Q (frD (Nd.fw vs bs g (Nd.minus i j))) S
 | _=>False
theorem zvK (cNumber:Addr)(cUnknown:Addr)(cPlus:Addr)(cMinus:Addr)(cTimes:Addr)(cPower:Addr):Ln (zd2 cNumber cUnknown cPlus cMinus cTimes cPower) 4:=λds S Q ex h=>by unfold zd2 at h; split at h <;> first | rfl | exact h.elim
def zfC:Sd:=λds S Q ex=>match ds with
 | [.tup [.int a,.int b],.tup [.int c,.int d],.int g]=>((IntMulOk a c∧IntMulOk a d∧IntMulOk b c∧IntMulOk b d)∧CFd 0 g)∧∀mn mx:Int,zeC a b c d mn mx→Q (.tup [.int (mn/g),.int (-(-mx/g))]) S
 | _=>False
theorem zs7:Ln (zfC) 3:=λds S Q ex h=>by unfold zfC at h; split at h <;> first | rfl | exact h.elim
def zd1 (cNumber:Addr)(cUnknown:Addr)(cPlus:Addr)(cMinus:Addr)(cTimes:Addr)(cPower:Addr):Sd:=λds S Q ex=>match ds with
 | [.ref n,.ref w,.ref p,.int g]=>∃(i j:Int) (vs bs:List (Int×Int)),S[n]?=some (Nd.ob cNumber cUnknown cPlus cMinus cTimes cPower (Nd.times i j))∧S[w]?=some (.lst (vs.map frD))∧S[p]?=some (.lst (bs.map frD))∧Nd.ok vs.length bs.length (Nd.times i j)∧Spn 1400 vs∧(1≤g∧g≤1000000)∧Q (frD (Nd.fw vs bs g (Nd.times i j))) S
 | _=>False
theorem zvv (cNumber:Addr)(cUnknown:Addr)(cPlus:Addr)(cMinus:Addr)(cTimes:Addr)(cPower:Addr):Ln (zd1 cNumber cUnknown cPlus cMinus cTimes cPower) 4:=λds S Q ex h=>by unfold zd1 at h; split at h <;> first | rfl | exact h.elim
def zfl:Sd:=λds S Q ex=>match ds with
 | [.int x,.int n]=>(0≤n∧n≤6∧Sz 2000 x)∧Q (.int (x^n.toNat)) S
 | _=>False
theorem zo6:Ln (zfl) 2:=λds S Q ex h=>by unfold zfl at h; split at h <;> first | rfl | exact h.elim
def ze2:Sd:=λds S Q ex=>match ds with
 | [.tup [.int a,.int b],.int n,.int g]=>(2≤n∧n≤6∧Sz 1400 a∧Sz 1400 b∧1≤g∧Sz 1400 g)∧∀m M:Int,zda a b n.toNat m M→Q (.tup [.int (m/g^(n.toNat-1)),.int (-(-M/g^(n.toNat-1)))]) S
 | _=>False
theorem zuP:Ln (ze2) 3:=λds S Q ex h=>by unfold ze2 at h; split at h <;> first | rfl | exact h.elim
def zep (cNumber:Addr)(cUnknown:Addr)(cPlus:Addr)(cMinus:Addr)(cTimes:Addr)(cPower:Addr):Sd:=λds S Q ex=>match ds with
 | [.ref n,.ref w,.ref p,.int g]=>∃(i m:Int) (vs bs:List (Int×Int)),S[n]?=some (Nd.ob cNumber cUnknown cPlus cMinus cTimes cPower (Nd.power i m))∧S[w]?=some (.lst (vs.map frD))∧S[p]?=some (.lst (bs.map frD))∧Nd.ok vs.length bs.length (Nd.power i m)∧Spn 1400 vs∧(1≤g∧g≤1000000)∧Q (frD (Nd.fw vs bs g (Nd.power i m))) S
 | _=>False
theorem zsY (cNumber:Addr)(cUnknown:Addr)(cPlus:Addr)(cMinus:Addr)(cTimes:Addr)(cPower:Addr):Ln (zep cNumber cUnknown cPlus cMinus cTimes cPower) 4:=λds S Q ex h=>by unfold zep at h; split at h <;> first | rfl | exact h.elim
def ze4 (cNumber:Addr):Sd:=λds S Q ex=>match ds with
 | [.ref n,x,y]=>∃T:Sto,S=T++[.ins cNumber []]∧n=T.length∧Q .non (T++[.ins cNumber [("top",x),("bottom",y)]])
 | _=>False
theorem zrI (cNumber:Addr):Ln (ze4 cNumber) 3:=λds S Q ex h=>by unfold ze4 at h; split at h <;> first | rfl | exact h.elim
def zgQ (cUnknown:Addr):Sd:=λds S Q ex=>match ds with
 | [.ref n,x]=>∃T:Sto,S=T++[.ins cUnknown []]∧n=T.length∧Q .non (T++[.ins cUnknown [("place",x)]])
 | _=>False
theorem zsc (cUnknown:Addr):Ln (zgQ cUnknown) 2:=λds S Q ex h=>by unfold zgQ at h; split at h <;> first | rfl | exact h.elim
def zff (cPlus:Addr):Sd:=λds S Q ex=>match ds with
 | [.ref n,x,y]=>∃T:Sto,S=T++[.ins cPlus []]∧n=T.length∧Q .non (T++[.ins cPlus [("one",x),("other",y)]])
 | _=>False
theorem zsW (cPlus:Addr):Ln (zff cPlus) 3:=λds S Q ex h=>by unfold zff at h; split at h <;> first | rfl | exact h.elim
def zfR (cMinus:Addr):Sd:=λds S Q ex=>match ds with
 | [.ref n,x,y]=>∃T:Sto,S=T++[.ins cMinus []]∧n=T.length∧Q .non (T++[.ins cMinus [("one",x),("other",y)]])
 | _=>False
theorem zrv (cMinus:Addr):Ln (zfR cMinus) 3:=λds S Q ex h=>by unfold zfR at h; split at h <;> first | rfl | exact h.elim
def zfu (cTimes:Addr):Sd:=λds S Q ex=>match ds with
 | [.ref n,x,y]=>∃T:Sto,S=T++[.ins cTimes []]∧n=T.length∧Q .non (T++[.ins cTimes [("one",x),("other",y)]])
 | _=>False
theorem zuX (cTimes:Addr):Ln (zfu cTimes) 3:=λds S Q ex h=>by unfold zfu at h; split at h <;> first | rfl | exact h.elim
def zfU (cPower:Addr):Sd:=λds S Q ex=>match ds with
 | [.ref n,x,y]=>∃T:Sto,S=T++[.ins cPower []]∧n=T.length∧Q .non (T++[.ins cPower [("one",x),("many",y)]])
 | _=>False
theorem zu5 (cPower:Addr):Ln (zfU cPower) 3:=λds S Q ex h=>by unfold zfU at h; split at h <;> first | rfl | exact h.elim
def zgS (cNumber:Addr)(cUnknown:Addr)(cPlus:Addr)(cMinus:Addr)(cTimes:Addr)(cPower:Addr):Sd:=λds S Q ex=>match ds with
 | [d]=>∃v:Nd,d=v.d∧Q (.ref S.length) (S++[v.ob cNumber cUnknown cPlus cMinus cTimes cPower])
 | _=>False
theorem zq0 (cNumber:Addr)(cUnknown:Addr)(cPlus:Addr)(cMinus:Addr)(cTimes:Addr)(cPower:Addr):Ln (zgS cNumber cUnknown cPlus cMinus cTimes cPower) 1:=λds S Q ex h=>by unfold zgS at h; split at h <;> first | rfl | exact h.elim
def zd9:Sd:=λds S Q ex=>match ds with
 | [.ref a,.ref b,.int g,.ref c]=>∃(ns:List Nd) (ws:List Nat) (bs vs:List (Int×Int)),S[a]?=some (.lst (ns.map Nd.d))∧S[b]?=some (.lst (bs.map frD))∧S[c]?=some (.lst (vs.map frD))∧zaL bs.length ns ws∧vs.length≤ns.length∧ns.length≤900∧Spn 1400 vs∧(1≤g∧g≤1000000)∧Q (.bl (zbL ((ns.take vs.length).map λv=>v.fw vs bs g) vs)) S
 | _=>False
theorem zsZ:Ln (zd9) 4:=λds S Q ex h=>by unfold zd9 at h; split at h <;> first | rfl | exact h.elim
def zfg:Sd:=λds S Q ex=>match ds with
 | [.str w,.tup [.int a,.int b]]=>(w="zero"∧Q (.bl (decide (0<a)||decide (b<0))) S)∨(w="least"∧Q (.bl (decide (b<0))) S)
 | _=>False
theorem zsN:Ln (zfg) 2:=λds S Q ex h=>by unfold zfg at h; split at h <;> first | rfl | exact h.elim
def zfh:Sd:=λds S Q ex=>match ds with
 | [.ref nd,.ref rw,.ref bx,.int g,d]=>∃(ns:List Nd) (ws:List Nat) (rows:List (Bool×Nat)) (bs vs:List (Int×Int)) (r:Int) (m:Nat),d=.tup [.str "out",.int r,.ref m]∧S[nd]?=some (.lst (ns.map Nd.d))∧S[bx]?=some (.lst (bs.map frD))∧S[m]?=some (.lst (vs.map frD))∧zaL bs.length ns ws∧ns.length≤900∧Spn 1400 vs∧(1≤g∧g≤1000000)∧S[rw]?=some (.lst (rows.map rwD))∧inR rows.length r∧vs.length=(rows.getD r.toNat (false,0)).2+1∧vs.length≤ns.length∧zbL ((ns.take vs.length).map λv=>v.fw vs bs g) vs=false∧Q (.bl false) S
 | _=>False
theorem zve:Ln (zfh) 5:=λds S Q ex h=>by unfold zfh at h; split at h <;> first | rfl | exact h.elim
def zfI:Sd:=λds S Q ex=>match ds with
 | [.ref nd,.ref bx,.int g,.ref m]=>∃(ns:List Nd) (ws:List Nat) (bs vs:List (Int×Int)),S[nd]?=some (.lst (ns.map Nd.d))∧S[bx]?=some (.lst (bs.map frD))∧S[m]?=some (.lst (vs.map frD))∧zaL bs.length ns ws∧ns.length≤900∧Spn 1400 vs∧(1≤g∧g≤1000000)∧vs.length=ns.length∧Q (.bl (zbL ((ns.take vs.length).map λv=>v.fw vs bs g) vs)) S
 | _=>False
theorem zpR:Ln (zfI) 4:=λds S Q ex h=>by unfold zfI at h; split at h <;> first | rfl | exact h.elim
def zgd:Sd:=λds S Q ex=>match ds with
 | [.str w,.tup [.int a,.int b]]=>(w="zero"∧Q (.bl (decide (a=0)&&decide (b=0))) S)∨(w="least"∧Q (.bl (decide (0≤a))) S)
 | _=>False
theorem zrY:Ln (zgd) 2:=λds S Q ex h=>by unfold zgd at h; split at h <;> first | rfl | exact h.elim
def zgZ:Sd:=λds S Q ex=>match ds with
 | [.ref nd,.ref rw,.ref bx,.int g,d]=>∃(ns:List Nd) (ws:List Nat) (bs vs:List (Int×Int)) (m:Nat),d=.tup [.str "full",.ref m]∧S[nd]?=some (.lst (ns.map Nd.d))∧S[bx]?=some (.lst (bs.map frD))∧S[m]?=some (.lst (vs.map frD))∧zaL bs.length ns ws∧ns.length≤900∧Spn 1400 vs∧(1≤g∧g≤1000000)∧vs.length=ns.length∧zbL ((ns.take vs.length).map λv=>v.fw vs bs g) vs=false∧Q (.bl false) S
 | _=>False
theorem zr3:Ln (zgZ) 5:=λds S Q ex h=>by unfold zgZ at h; split at h <;> first | rfl | exact h.elim
def zfY:Sd:=λds S Q ex=>match ds with
 | [.ref nd,.ref rw,.int g,.ref b,.int n]=>∃(ns:List Nd) (ws:List Nat) (rows:List (Bool×Nat)) (es:List En) (q nn:Nat) (e:En),S[nd]?=some (.lst (ns.map Nd.d))∧S[rw]?=some (.lst (rows.map rwD))∧zbV S b es∧zaL q ns ws∧(∀e∈es,e.1.length=q)∧ns.length≤900∧(1≤g∧g≤1000000)∧n=(nn:Int)∧es[nn]?=some e∧((zck es nn e∧∀T,Pre S T→Q (.bl true) T)∨(zhW ns rows g e∧Q (.bl false) S))
 | _=>False
theorem zrc:Ln (zfY) 5:=λds S Q ex h=>by unfold zfY at h; split at h <;> first | rfl | exact h.elim
def zgB:Sd:=λds S Q ex=>match ds with
 | [.ref nd,.ref rw,.ref bx,.int g,.ref b]=>∃(ns:List Nd) (ws:List Nat) (rows:List (Bool×Nat)) (bs:List (Int×Int)) (es:List En),S[bx]?=some (.lst (bs.map frD))∧zbV S b es∧(1≤es.length∧es.length≤30)∧(∃f,es[0]?=some (bs,f))∧(∀e∈es,e.1.length=bs.length)∧zaO es=(List.range (es.length-1)).map (·+1)∧S[nd]?=some (.lst (ns.map Nd.d))∧S[rw]?=some (.lst (rows.map rwD))∧zaL bs.length ns ws∧ns.length≤900∧(1≤g∧g≤1000000)∧(((∀(k:Nat) (e:En),es[k]?=some e→zck es k e)∧∀T,Pre S T→Q (.bl true) T)∨((∃(k:Nat) (e:En),es[k]?=some e∧zhW ns rows g e∧∀(j:Nat) (e:En),es[j]?=some e→j≠k→zck es j e)∧∀T,Pre S T→Q (.bl false) T))
 | _=>False
theorem zrW:Ln (zgB) 5:=λds S Q ex h=>by unfold zgB at h; split at h <;> first | rfl | exact h.elim
def zgM:Sd:=λds S Q ex=>match ds with
 | [.ref b]=>∃es:List En,zbV S b es∧es.length≤30∧(∀e∈es,e.1.length≤900∧e.2.few)∧∀(T:Sto) (m:Nat),Pre S T→S.length≤m→zbV T m es→Q (.ref m) T
 | _=>False
theorem zqC:Ln (zgM) 1:=λds S Q ex h=>by unfold zgM at h; split at h <;> first | rfl | exact h.elim
def zfM:Sd:=λds S Q ex=>match ds with
 | [.int x,.int n]=>(0≤n∧n≤6∧Sz 2000 x)∧Q (.int (x^n.toNat)) S
 | _=>False
theorem ztQ:Ln (zfM) 2:=λds S Q ex h=>by unfold zfM at h; split at h <;> first | rfl | exact h.elim
def zfE:Sd:=λds S Q ex=>match ds with
 | [.tup [.int a,.int b],.int n,.int g]=>(1≤n∧n≤6∧Sz 1400 a∧Sz 1400 b∧1≤g∧g≤1000000)∧Q (.tup [.int (zbi a b n.toNat/g^(n.toNat-1)),.int (-(-zci a b n.toNat/g^(n.toNat-1)))]) S
 | _=>False
theorem zpo:Ln (zfE) 3:=λds S Q ex h=>by unfold zfE at h; split at h <;> first | rfl | exact h.elim
def zgc:Sd:=λds S Q ex=>match ds with
 | [.tup [.int a,.int b],.tup [.int c,.int d]]=>Q (.tup [.int (a+c),.int (b+d)]) S
 | _=>False
theorem zps:Ln (zgc) 2:=λds S Q ex h=>by unfold zgc at h; split at h <;> first | rfl | exact h.elim
def zgL:Sd:=λds S Q ex=>match ds with
 | [.tup [.int a,.int b],.tup [.int c,.int d]]=>Q (.tup [.int (a-d),.int (b-c)]) S
 | _=>False
theorem zuL:Ln (zgL) 2:=λds S Q ex h=>by unfold zgL at h; split at h <;> first | rfl | exact h.elim
def zha:Sd:=λds S Q ex=>match ds with
 | [.tup [.int a,.int b],.tup [.int c,.int d],.int g]=>(Sz 2600 a∧Sz 2600 b∧Sz 2600 c∧Sz 2600 d∧1≤g∧g≤1000000)∧Q (.tup [.int (mn4 a b c d/g),.int (-(-mx4 a b c d/g))]) S
 | _=>False
theorem zp2:Ln (zha) 3:=λds S Q ex h=>by unfold zha at h; split at h <;> first | rfl | exact h.elim
def zgt:Sd:=λds S Q ex=>match ds with
 | [d,.ref w,.ref p,.int g]=>∃(v:Nd) (vs bs:List (Int×Int)),d=v.d∧S[w]?=some (.lst (vs.map frD))∧S[p]?=some (.lst (bs.map frD))∧v.ok vs.length bs.length∧Spn 1400 vs∧(1≤g∧g≤1000000)∧Q (frD (v.fw vs bs g)) S
 | _=>False
theorem zub:Ln (zgt) 4:=λds S Q ex h=>by unfold zgt at h; split at h <;> first | rfl | exact h.elim
def zfv:Sd:=λds S Q ex=>match ds with
 | [.tup [.int a,.int b],.int _]=>a≤b∧∀x y:Int,x≤y→x.natAbs≤max a.natAbs b.natAbs+3*10^20→y.natAbs≤max a.natAbs b.natAbs+3*10^20→Q (.tup [.int x,.int y]) S
 | _=>False
theorem zvC:Ln (zfv) 2:=λds S Q ex h=>by unfold zfv at h; split at h <;> first | rfl | exact h.elim
def zfN:Sd:=λds S Q ex=>match ds with
 | [.str w,.bl f,.int _]=>∃z:Bool,w=(if z then "zero" else "least")∧∀p:Int×Int,p.1≤p.2→p.1.natAbs≤3*10^20→p.2.natAbs≤3*10^20→(f=true→zdi z p)→(f=false→zdb z p)→Q (frD p) S
 | _=>False
theorem zpl:Ln (zfN) 3:=λds S Q ex h=>by unfold zfN at h; split at h <;> first | rfl | exact h.elim
def zfA:Sd:=λds S Q ex=>match ds with
 | [.ref sc,.ref nd,.ref rw,.int at_,.bl ft,.ref bx,.int g]=>∃(cs:List Int) (ns:List Nd) (ws:List Nat) (rows:List (Bool×Nat)) (bs:List (Int×Int)) (ai:Nat) (z:Bool) (j:Nat),S[sc]?=some (.frz (cs.map D.int))∧S[nd]?=some (.lst (ns.map Nd.d))∧S[rw]?=some (.lst (rows.map rwD))∧S[bx]?=some (.lst (bs.map frD))∧zaL bs.length ns ws∧ns.length≤200∧Spn 51 bs∧(1≤g∧g≤1000000)∧at_=(ai:Int)∧rows[ai]?=some (z,j)∧j<ns.length∧∀(T:Sto) (d:D) (vs:List (Int×Int)),Pre S T→zcm T d (if ft then .out (ai:Int) vs else .full vs)→vs.length=(if ft then j+1 else ns.length)→Spn 1400 vs→(ft=true→zdi z (gt vs (j:Int)))→(ft=false→zdb z (gt vs (j:Int)))→Q d T
 | _=>False
theorem zqM:Ln (zfA) 7:=λds S Q ex h=>by unfold zfA at h; split at h <;> first | rfl | exact h.elim
section
variable {P:Program}{w:World}{K:PySem.W.Frag}{mg:Str→Option Value}{base:Heap}
def zvf  (zkn:Df K mg "_law_free" zhJ zdT)(zav:mg "len"=none):Fk P w K mg base 1 "_law_free" zdT zeA:=
 zkn.mk' (zaC (k:=0) zkn.F zvp (zrD) λcdv A outer s H E hr=>⟨_,(zag (zai (zcs (zbf zgk (zaM (zaI za1) rfl zav Boot.«len» (zaa (dv 0) zad)) zab (zax _)) (zcG (zbf (zaP hr) (zac zaK (zaB (dv 0) zab (λ_ _=>rfl)) zab) zab (zax _)))))),λds S Q ex h=>by
  unfold zeA at h
  split at h
  ·rename_i sc
   obtain⟨cs,hs,h⟩:=h
   refine zkR hs ?_
   rw[Vac]
   unfold frS at h
   refine ifD (λc=>?_) (λc=>?_)
   ·have c':0<cs.length:=by omega
    refine zaz (o:=.frz (cs.map D.int)) hs (zh9 (by decide) (by omega)) ?_
    rw[decide_eq_true c',Bool.true_and] at h
    exact h
   ·rw[decide_eq_false (show ¬ 0<cs.length by omega),Bool.false_and] at h
    exact h
  ·exact h.elim⟩)
def ztG  (zjI:Df K mg "_law_cell" ziP zcU)(zdN:Fk P w K mg base 1 "_law_free" zdT zeA)(zav:mg "len"=none):Fk P w K mg base 2 "_law_cell" zcU zc0:=
 zjI.mk' (zaC (k:=1) zjI.F zgX (zsB) λcdv A outer s H E hr=>⟨_,(zae (zaD (zbI (zam zdN hr (zaa (dv 0) zad))) (zae (zaD (zaJ (zaP hr) (dv 1) zab (zax _)) (zag (zai (zac zaW (zaB (dv 0) zab (λ_ _=>rfl)) zab))) zaF) (zae (zaD (zaJ zbR (dv 1) (zaM (zaI za1) rfl zav Boot.«len» (zaa (dv 0) zad)) (zax _)) (zag (zai (zaB (dv 0) (dv 1) (λ_ _=>rfl)))) zaF) (zag (zai zab)))) zaF) (zae (zah (i:=2) zgX.nd rfl (Or.inl rfl) zab) (zae (zaD (zaJ zgk (zaM (zaI za1) rfl zav Boot.«len» (zaa (dv 0) zad)) zab (zax _)) (zag (zah (i:=2) zgX.nd rfl (Or.inl rfl) (zac zbk (zaB (dv 0) (zac zbk (dv 1) (zaM (zaI za1) rfl zav Boot.«len» (zaa (dv 0) zad))) (λ_ _=>rfl)) (zac zcg zab zab)))) zaF) (zae (zah (i:=3) zgX.nd rfl (Or.inl rfl) (zac zbk (zac zaS (zac zaH (zac zaH (zac zaH (dv 2) (zac zaS (zac zaS zab (dv 1)) (dv 1))) (zac zaS zab (dv 1))) zab) zab) zab)) (zae (zah (i:=4) zgX.nd rfl (Or.inl rfl) (zac zbk (zac zaH (zac zaS (dv 3) (dv 3)) (dv 1)) zab)) (zag (zai (zac zbk (zac zaH (zac zaS (dv 4) zab) (dv 3)) zab)))))))),λds S Q ex h=>by
  unfold zc0 at h
  split at h
  ·rename_i sc k
   obtain⟨cs,hs,⟨k0,k1⟩,h⟩:=h
   refine⟨cs,hs,?_⟩
   cases ef:frS cs
   ·refine zbH ?_
    try dsimp only[znS]
    refine zpF (λdl2 S2=>S=S2∧∃c:Int,dl2=[some (.ref sc),some (.int k),some (.int c),none,none]) (λnx hn=>?_) ?_
    ·refine zkR hs ?_
     rw[Vac]
     refine ifD (λc=>?_) (λc=>?_)
     ·refine zkR hs ?_
      rw[Vac]
      have r:=zaZ (a:=k) c
      refine⟨c,?_⟩
      refine zaz (o:=.frz (cs.map D.int)) hs (zh9 r.1 r.2) ?_
      exact⟨show (0:Int)<10^Int.toNat 18 by decide,hn _ _ ⟨rfl,_,rfl⟩⟩
     ·exact hn _ _ ⟨rfl,_,rfl⟩
    ·rintro dl2 S2 ⟨rfl,c,rfl⟩
     have sk:Sz 10 k:=Sz.of 1000 (by omega)
     have s7:Sz 14 (7*k):=Sz.of 10000 (by omega)
     have r1:=zaZ (a:=(c+7*k*k+13*k+5)*48271) (b:=2147483647) (by decide)
     have sf:Sz 32 ((c+7*k*k+13*k+5)*48271%2147483647):=Sz.of 2147483647 (by omega)
     refine⟨IntMulOk.of_left (by decide),zaY s7 sk,IntMulOk.of_left (by decide),IntMulOk.of_right (by decide),show (0:Int)<2147483647 by decide,?_⟩
     refine⟨zaY sf sf,show (0:Int)<1000000007 by decide,?_⟩
     refine⟨IntMulOk.of_right (by decide),show (0:Int)<2147483629 by decide,?_⟩
     exact h _
   ·refine zbJ ?_
    have hc:0<cs.length:=by
     unfold frS at ef
     simp only[Bool.and_eq_true,decide_eq_true_eq] at ef
     exact ef.1
    refine ifD (λc=>?_) (λc=>?_)
    ·refine zaz (o:=.frz (cs.map D.int)) hs (zh9 (by decide) (by omega)) ?_
     exact h _
    ·refine zkR hs ?_
     rw[Vac]
     refine ifD (λc2=>?_) (λc2=>?_)
     ·refine zaz (o:=.frz (cs.map D.int)) hs (zh9 k0 c2) ?_
      exact h _
     ·exact h _
  ·exact h.elim⟩)
def zrk  (zjn:Df K mg "_law_grid" zj5 zgh):Fk P w K mg base 1 "_law_grid" zgh zfG:=
 zjn.mk' (zaC (k:=0) zjn.F ztL (zs6) λcdv A outer s H E hr=>⟨_,(zae (zaD (zaJ (zaP hr) (zac zaK (dv 0) zab) zab (zax _)) (zag (zai (zac zaH zab (zac zaK (zac zaW (dv 0) zab) zab)))) zaF) (zae (zaD (zaJ (zaP hr) (zac zaK (dv 0) zab) zab (zax _)) (zag (zai (zac zaH zab (zac zaK (zac zaW (dv 0) zab) zab)))) zaF) (zag (zai zab)))),λds S Q ex h=>by
  unfold zfG at h
  split at h
  ·rename_i c
   refine ifD (λe=>?_) (λe=>?_)
   ·exact h _ (by omega) (by omega)
   ·refine ifD (λe=>?_) (λe=>?_)
    ·exact h _ (by omega) (by omega)
    ·exact h _ (by decide) (by decide)
  ·exact h.elim⟩)
def ztR  (zht:Df K mg "_law_side" zhk ze9):Fk P w K mg base 1 "_law_side" ze9 zgK:=
 zht.mk' (zaC (k:=0) zht.F zeu (zra) λcdv A outer s H E hr=>⟨_,(zae (zah (i:=2) zeu.nd rfl (Or.inl rfl) (zac za0 (zac zaK (zac zaW (dv 0) zab) zab) zab)) (zae (zaD (zaJ (zaP hr) (zac zaK (dv 0) zab) zab (zax _)) (zag (zah (i:=2) zeu.nd rfl (Or.inl rfl) (zac za0 (zac zaK (zac zaW (dv 0) zab) zab) zab))) zaF) (zae (zah (i:=3) zeu.nd rfl (Or.inl rfl) (zac zaK (zac zaW (dv 1) zab) zab)) (zae (zaD (zaJ (zaP hr) (zac zaK (dv 1) zab) zab (zax _)) (zag (zah (i:=3) zeu.nd rfl (Or.inl rfl) (zac zaK (zac zaW (dv 1) zab) zab))) zaF) (zae (zaD (zaJ (zaP hr) (zac zaK (dv 1) zab) zab (zax _)) (zag (zah (i:=3) zeu.nd rfl (Or.inl rfl) (zac zaK (zac zaW (dv 1) zab) zab))) zaF) (zag (zai (zaE (zaa (dv 2) (zaa (zac zaH (dv 2) (dv 3)) zad)))))))))),λds S Q ex h=>by
  unfold zgK at h
  split at h
  ·rename_i c d
   refine ifD (λe=>?_) (λe=>?_)
   ·refine ifD (λe1=>?_) (λe1=>?_)
    ·refine ifD (λe2=>absurd (e1.symm.trans e2) (by decide)) (λe2=>?_)
     exact h _ _ (by omega) (by omega) (by omega)
    ·refine ifD (λe2=>?_) (λe2=>?_)
     ·exact h _ _ (by omega) (by omega) (by omega)
     ·exact h _ _ (by omega) (by omega) (by omega)
   ·refine ifD (λe1=>?_) (λe1=>?_)
    ·refine ifD (λe2=>absurd (e1.symm.trans e2) (by decide)) (λe2=>?_)
     exact h _ _ (by omega) (by omega) (by omega)
    ·refine ifD (λe2=>?_) (λe2=>?_)
     ·exact h _ _ (by omega) (by omega) (by omega)
     ·exact h _ _ (by omega) (by omega) (by omega)
  ·exact h.elim⟩)
def zpB  (zjS:Df K mg "_law_point" zkB zf4)(zaN:mg "range"=none)(zav:mg "len"=none):Fk P w K mg base 1 "_law_point" zf4 zgD:=
 zjS.mk' (zaC (k:=0) zjS.F zmb (ztf) λcdv A outer s H E hr=>⟨_,(zae (zah (i:=4) zmb.nd rfl (Or.inl rfl) (zbl zad)) (zae (zcR (i:=5) PassesOwn.never rfl zmb.nd rfl (Or.inl rfl) rfl zaN (zaa (zaM (zaI za1) rfl zav Boot.«len» (zaa (dv 0) zad)) zad) (zag (zbh (zbx (dv 4) (zaE (zaa (zac zaH (zac zaS (zaf (zaB (dv 0) (dv 5) (λ_ _=>rfl)) zab (λ_ _=>rfl)) (dv 2)) (zac zaS (zac za0 (zaf (zaB (dv 0) (dv 5) (λ_ _=>rfl)) zab (λ_ _=>rfl)) (zaf (zaB (dv 0) (dv 5) (λ_ _=>rfl)) zab (λ_ _=>rfl))) (zaB (dv 1) (dv 5) (λ_ _=>rfl)))) (zaa (zac zaS (dv 3) (dv 2)) zad))))))) (zag (zai (dv 4))))),λds S Q ex h=>by
  unfold zgD at h
  split at h
  ·rename_i b pa W g
   obtain⟨bs,ts,hb,hp,hl,h9,sb,hw,ht,hg,h⟩:=h
   have sg:Sz 21 g:=Sz.of 1000000 (by omega)
   have sw:Sz 7 W:=Sz.of 60 (by omega)
   refine za7 (zal hb) ?_
   rw[Vac]
   refine⟨⟨by omega,by omega⟩,λk dl' S'=>k≤bs.length∧Pre S S'∧S'[S.length]?=some (.lst ((pts bs ts W g k).map frD))∧∃u:Option D,dl'=[some (.ref b),some (.ref pa),some (.int W),some (.int g),some (.ref S.length),u],⟨VaA _,Pre.refl.push,zaw _ _,_,rfl⟩,?_⟩
   rintro k dl' S' ⟨hk,pr,hs,u,rfl⟩
   rw[Vaj]
   refine zcK (λc=>?_) (λc=>?_)
   ·have kb:inR ((bs.length:Nat):Int) (k:Int):=⟨by omega,by omega⟩
    obtain⟨t,_,m1,m2,_⟩:=zlo (k:=k) sb hw ht hg c hl
    refine zb1 (n:=S.length) (S1:=S') (xs:=(pts bs ts W g k).map frD) (y:=frD (zdC bs ts W g k)) (λK hK=>by exact hK) hs (λK hK=>?_) (by rw[Vac,zmL]; omega) ?_
    ·refine zaz (o:=.lst (bs.map frD)) (pr _ _ hb) (zbn kb) ?_
     refine⟨m1,?_⟩
     refine zaz (o:=.lst (bs.map frD)) (pr _ _ hb) (zbn kb) ?_
     refine zaz (o:=.lst (bs.map frD)) (pr _ _ hb) (zbn kb) ?_
     refine zaz (o:=.lst (ts.map D.int)) (pr _ _ hp) (zoT (by omega)) ?_
     exact⟨m2,zaY sg sw,hK⟩
    ·refine⟨by omega,zlt pr (Vaa _),?_,_,rfl⟩
     rw[zqs,Vav]
     exact zbj hs
   ·have e:k=bs.length:=by omega
    subst e
    exact h _ _ pr (Vaa _) hs
  ·exact h.elim⟩)
def zvA  (zhA:Df K mg "_law_any_room" zj4 zg9)(za6:Fk P w K mg base 2 "_law_cell" zcU zc0)(zaN:mg "range"=none):Fk P w K mg base 3 "_law_any_room" zg9 zgE:=
 zhA.mk' (zaC (k:=2) zhA.F zc6 (zqV) λcdv A outer s H E hr=>⟨_,(zae (zah (i:=3) zc6.nd rfl (Or.inl rfl) (zbl zad)) (zae (zah (i:=4) zc6.nd rfl (Or.inl rfl) (zbl zad)) (zae (zcR (i:=5) PassesOwn.never rfl zc6.nd rfl (Or.inl rfl) rfl zaN (zaa (dv 1) zad) (zae (zah (i:=6) zc6.nd rfl (Or.inl rfl) (zam za6 hr (zaa (dv 0) (zaa (zac zaH zab (dv 5)) zad)))) (zae (zah (i:=7) zc6.nd rfl (Or.inl rfl) (zac za0 (zac zaK (dv 6) zab) zab)) (zae (zah (i:=8) zc6.nd rfl (Or.inl rfl) (zac zaH zab (zac zaK (zac zaW (dv 6) zab) zab))) (zae (zah (i:=9) zc6.nd rfl (Or.inl rfl) (zac za0 (zac zbr (zac zaS (dv 7) (dv 2)) (dv 8)) (zac zbk (zam za6 hr (zaa (dv 0) (zaa (zac zaH zab (dv 5)) zad))) (zac zaS zab (zac zcg zab zab))))) (zae (zbh (zbx (dv 3) (zaE (zaa (dv 9) (zaa (zac zaH (zb2 zca (zac zbr (zac zaS (zb2 zca (dv 7)) (dv 2)) (dv 8))) (zac zbk (zam za6 hr (zaa (dv 0) (zaa (zac zaH zab (dv 5)) zad))) (zac zaS zab (zac zcg zab zab)))) zad))))) (zag (zbh (zbx (dv 4) (zaE (zaa (dv 7) (zaa (dv 8) zad)))))))))))) (zag (zai (zaE (zaa (dv 3) (zaa (dv 4) zad)))))))),λds S Q ex h=>by
  unfold zgE at h
  split at h
  ·rename_i sc qi g
   obtain⟨cs,q,hs,⟨rfl,q4⟩,hg,h⟩:=h
   refine⟨⟨by omega,by omega⟩,λk dl' S'=>k≤q∧(∃B P:List (Int×Int),Pre S S'∧S'[S.length]?=some (.lst (B.map frD))∧S'[S.length+1]?=some (.lst (P.map frD))∧B.length=k∧P.length=k∧Spn 51 B∧InW g B P∧∀p∈P,1≤p.2∧p.2≤10^9∧p.1.natAbs≤10^9)∧∃o5 o6 o7 o8 o9:Option D,dl'=[some (.ref sc),some (.int (q:Int)),some (.int g),some (.ref S.length),some (.ref (S.length+1)),o5,o6,o7,o8,o9],⟨VaA _,⟨[],[],zeq (zbK _),zal (zaw _ _),by have z:=zaw (S++[Ob.lst []]) (Ob.lst []); rw[Vad] at z; exact z,rfl,rfl,λp hp=>by simp at hp,λi hi=>absurd hi.2 (by have:=hi.1; simp; omega),λp hp=>by simp at hp⟩,_,_,_,_,_,by rw[Vad]; rfl⟩,?_⟩
   rintro k dl' S' ⟨hk,⟨B,P,pr,hB,hP,lB,lP,sB,iw,bp⟩,o5,o6,o7,o8,o9,rfl⟩
   rw[Vaj]
   refine zcK (λc=>?_) (λc=>?_)
   ·have hs':=pr _ _ hs
    refine⟨cs,hs',⟨by omega,by omega⟩,λx=>?_⟩
    have r1:=zaZ (a:=x) (b:=199999999) (by decide)
    have r2:=zaZ (a:=x/199999999) (b:=999999999) (by decide)
    obtain⟨t,et⟩:∃t,x%199999999-99999999=t:=⟨_,rfl⟩
    obtain⟨b,eb⟩:∃b,1+x/199999999%999999999=b:=⟨_,rfl⟩
    have tb:t.natAbs≤10^8:=by omega
    have bb:1≤b∧b≤10^9:=by omega
    have m8:IntMulOk 8 (10^Int.toNat 14):=zaY (m:=10) (n:=100) (Sz.of 10 (by decide)) (Sz.of (10^14) (by decide))
    have sg:Sz 21 g:=Sz.of (10^6) (by omega)
    have st:Sz 40 t:=Sz.of (10^8) tb
    have st':Sz 40 (-t):=Sz.of (10^8) (by omega)
    have sb:Sz 40 b:=Sz.of (10^9) (by omega)
    have fd:=sb.fd (show 0<b by omega)
    refine⟨by rw[et]; exact zaY (m:=40) (n:=21) st sg,by rw[eb]; exact fd,?_⟩
    refine⟨cs,hs',⟨by omega,by omega⟩,λy=>?_⟩
    refine⟨m8,by show (0:Int)<8*10^14; decide,?_⟩
    have ry:=zaZ (a:=y) (b:=8*10^14) (by decide)
    have lt1:=zaV hP
    refine zeK (n:=S.length) (xs:=B.map frD) (λK hK=>by exact hK) hB (λK hK=>?_) (by rw[Vac]; omega)
    refine⟨by rw[et]; exact zaY (m:=40) (n:=21) st' sg,by rw[eb]; exact fd,?_⟩
    refine⟨cs,hs',⟨by omega,by omega⟩,λz=>?_⟩
    refine⟨m8,by show (0:Int)<8*10^14; decide,?_⟩
    have rz:=zaZ (a:=z) (b:=8*10^14) (by decide)
    have fin:∀u v:Int,0≤u∧u<8*10^14→0≤v∧v<8*10^14→∃p:Int×Int,p=(t*g/b-u,-(-t*g/b)+v)∧Spn 51 (B++[p])∧InW g (B++[p]) (P++[(t,b)]):=λu v hu hv=>by
     obtain⟨r1,r2⟩:=zpj tb bb.1 hg hu hv
     refine⟨_,rfl,λp hp=>?_,λi hi=>?_⟩
     ·rcases VaQ.1 hp with hp | hp
      ·exact sB p hp
      ·rw[VaE.mp hp]; exact r1
     ·have hi2:=hi.2
      simp only[Vad,Vap,VaM] at hi2
      by_cases ci:i<k
      ·rw[zjP (by rw[lB]; exact⟨hi.1,ci⟩),zjP (by rw[lP]; exact⟨hi.1,ci⟩)]
       exact iw i (by rw[lP]; exact⟨hi.1,ci⟩)
      ·have e:i=k:=by have:=hi.1; omega
       subst e
       rw[zjC lB,zjC lP]
       exact r2
    subst et eb
    have go:∀u v:Int,0≤u∧u<8*10^14→0≤v∧v<8*10^14→(∀p:Int×Int,p=((x%199999999-99999999)*g/(1+x/199999999%999999999)-u,-(-(x%199999999-99999999)*g/(1+x/199999999%999999999))+v)→Spn 51 (B++[p])→InW g (B++[p]) (P++[(x%199999999-99999999,1+x/199999999%999999999)])→K (frD p) S')→K (.tup [.int ((x%199999999-99999999)*g/(1+x/199999999%999999999)-u),.int (-(-(x%199999999-99999999)*g/(1+x/199999999%999999999))+v)]) S':=λu v hu hv hh=>by
     obtain⟨p,ep,f1,f2⟩:=fin u v hu hv
     have z:=hh p ep f1 f2
     rw[ep] at z
     exact z
    refine go _ _ ry rz λp _ f1 f2=>?_
    refine hK (frD p) S' hB ?_
    have hP1:(S'.set S.length (.lst (B.map frD++[frD p])))[S.length+1]?=some (.lst (P.map frD)):=za5 hP (by omega)
    refine zb1 (n:=S.length+1) (S1:=S'.set S.length (.lst (B.map frD++[frD p]))) (xs:=P.map frD) (y:=frD (x%199999999-99999999,1+x/199999999%999999999)) (λK hK=>by exact hK) hP1 (λK hK=>by exact hK) (by rw[Vac]; omega) ?_
    refine⟨by omega,⟨B++[p],P++[(x%199999999-99999999,1+x/199999999%999999999)],λx o e=>?_,?_,?_,by rw[Vad,lB]; rfl,by rw[Vad,lP]; rfl,f1,f2,λr hr=>?_⟩,_,_,_,_,_,rfl⟩
    ·have:=zaV e
     exact za5 (za5 (pr x o e) (by omega)) (by omega)
    ·rw[Vav]
     exact za5 (zbj hB) (by omega)
    ·rw[Vav]
     exact zbj hP1
    ·rcases VaQ.1 hr with hr | hr
     ·exact bp r hr
     ·rw[VaE.mp hr]
      exact⟨bb.1,bb.2,by show (x%199999999-99999999).natAbs≤_; omega⟩
   ·have e:k=q:=by omega
    subst e
    exact h _ _ _ B P pr (Vaa _) (by omega) (by omega) hB hP lB lP sB iw bp
  ·exact h.elim⟩)
def zsf  (zkz:Df K mg "_law_lowest" zhy zds)(zc7:mg "abs"=none):Fk P w K mg base 1 "_law_lowest" zds zdM:=
 zkz.mk' (zaC (k:=0) zkz.F zkD (zui) λcdv A outer s H E hr=>⟨_,(zae (zah (i:=2) zkD.nd rfl (Or.inl rfl) (zaM zrm rfl zc7 Boot.«abs» (zaa (dv 0) zad))) (zae (zah (i:=3) zkD.nd rfl (Or.inl rfl) (dv 1)) (zae (zuA PassesOwn.never (zaJ (zom hr) (dv 3) zab (zax _)) (zag (zsw (i:=2) (j:=3) rfl zkD.nd rfl rfl (by decide) rfl rfl (zaa (dv 3) (zaa (zac zbk (dv 2) (dv 3)) zad))))) (zag (zai (zaE (zaa (zac zbr (dv 0) (dv 2)) (zaa (zac zbr (dv 1) (dv 2)) zad)))))))),λds S Q ex h=>by
  unfold zdM at h
  split at h
  ·rename_i T B
   obtain⟨⟨hB,sB⟩,h⟩:=h
   have f:=zt0 (T:=T) (B:=B) (d:=((Int.gcd T B:Nat):Int)) (by omega) (by rw[if_neg (by omega)])
   obtain⟨f1,f2,f3,f4,f5,f6⟩:=f
   have gp:(0:Int)<((Int.gcd T B:Nat):Int):=by omega
   have gle:((Int.gcd T B:Nat):Int)≤B:=Int.le_of_dvd hB (Int.gcd_dvd_right T B)
   have sg:Sz 4000 ((Int.gcd T B:Nat):Int):=by
    unfold Sz at sB ⊢
    omega
   have eg:Int.gcd (zcJ T) B=Int.gcd T B:=by
    have z:=zpr T B
    rw[show zcJ B=B by unfold zcJ; split <;> omega] at z
    exact z
   refine⟨λm dl' S'=>S'=S∧∃(x y:Int),dl'=[some (.int T),some (.int B),some (.int x),some (.int y)]∧0≤x∧0≤y∧Int.gcd x y=Int.gcd T B∧m=y.toNat,⟨B.toNat,rfl,zcJ T,B,rfl,zpA T,by omega,eg,rfl⟩,?_⟩
   rintro m dl' S' ⟨rfl,x,y,rfl,hx,hy,hg,rfl⟩
   refine ifN (λc=>?_) (λc=>?_)
   ·have c':0<y:=by omega
    exact⟨c',⟨(x%y).toNat,by have:=zaZ (a:=x) c'; omega,rfl,y,x%y,rfl,hy,(zaZ (a:=x) c').1,(zqd x y).trans hg,rfl⟩⟩
   ·subst c
    have e:((Int.gcd T B:Nat):Int)=x:=by rw[← hg,Int.gcd_zero_right]; omega
    have e1:T/((Int.gcd T B:Nat):Int)=T.fdiv ((Int.gcd T B:Nat):Int):=(Int.fdiv_eq_ediv_of_nonneg _ (by omega)).symm
    have e2:B/((Int.gcd T B:Nat):Int)=B.fdiv ((Int.gcd T B:Nat):Int):=(Int.fdiv_eq_ediv_of_nonneg _ (by omega)).symm
    have q:=h _ _ f4 f5 f6 (znb f1 f2) (by have:=znb f1 f3; omega)
    rw[← e1,← e2] at q
    rw[e] at q sg gp
    exact⟨sg.fd gp,sg.fd gp,q⟩
  ·exact h.elim⟩)
def ztj  (zhG:Df K mg "_law_at" zho zdL):Fk P w K mg base 1 "_law_at" zdL zdw:=
 zhG.mk' (zaC (k:=0) zhG.F zpw (zrd) λcdv A outer s H E hr=>⟨_,(zae (zaD (zaJ (zrb hr) (dv 1) (dv 0) rfl) (zag (zbh (zbx (dv 0) (dv 1)))) zaF) (zag (zai (zlS (k:=1) hr (by decide) (dv 0) (zaa (dv 1) zad))))),λds S Q ex h=>by
  unfold zdw at h
  split at h
  ·rename_i a d
   obtain⟨q,v,ns,ws,rfl,ha,l9,net,ok,h16,h⟩:=h
   obtain⟨o,e1,e2,e3⟩:=ziK v ns
   refine ztO (o:=o) ha e2 ?_
   cases o with
   | some j=>
    refine zbH ?_
    refine zm2 (n:=a) (v:=v) (ns:=ns) (λK hK=>by exact hK) (λK hK=>by exact hK) ha e1 ?_
    exact h S j [] [] (by rw[Vai,Vai]; exact net) (by simp) (λu hu=>by simp at hu) (by rw[Vai]; exact e3 j rfl) (by rw[Vai]; exact ha) rfl λx o _ e=>e
   | none=>
    refine zbJ ?_
    refine zb1 (n:=a) (S1:=S) (xs:=ns.map Nd.d) (y:=v.d) (λK hK=>by exact hK) ha (λK hK=>by exact hK) (by rw[Vac]; omega) ?_
    have hm:(S.set a (.lst (ns.map Nd.d++[v.d])))[a]?=some (.lst ((ns++[v]).map Nd.d)):=by
     rw[Vav]
     exact zbj ha
    obtain⟨o2,f1,f2,f3⟩:=ziK v (ns++[v])
    cases o2 with
    | none=>
     obtain⟨k,hk⟩:∃k,(ns++[v])[k]?=some v:=⟨ns.length,by simp⟩
     exact absurd f2 (any_some hk)
    | some j=>
     refine zm2 (n:=a) (v:=v) (ns:=ns++[v]) (λK hK=>by exact hK) (λK hK=>by exact hK) hm f1 ?_
     exact h _ j [v] [v.wt ws] (net.snoc ok h16) (by simp) (λu hu=>VaE.mp hu) (f3 j rfl) hm (by simp) λx o hx e=>za5 e (Ne.symm hx)
  ·exact h.elim⟩)
def ztJ  (ziH:Df K mg "_law_factors" zhN zgG)(zb0:Fk P w K mg base 1 "_law_at" zdL zdw)(zcz:Fk P w K mg base 1 "_law_lowest" zds zdM)(zaN:mg "range"=none)(zav:mg "len"=none):Fk P w K mg base 2 "_law_factors" zgG zfo:=
 ziH.mk' (zaC (k:=1) ziH.F zgR (zqz) λcdv A outer s H E hr=>⟨_,(zae (zah (i:=3) zgR.nd rfl (Or.inl rfl) (zbl zad)) (zae (zcR (i:=4) PassesOwn.never rfl zgR.nd rfl (Or.inl rfl) rfl zaN (zaa (zaM (zaI za1) rfl zav Boot.«len» (zaa (dv 1) zad)) zad) (zae (zah (i:=5) zgR.nd rfl (Or.inl rfl) (zam zcz hr (zaa (zaf (zaB (dv 1) (dv 4) (λ_ _=>rfl)) zab (λ_ _=>rfl)) (zaa (zaf (zaB (dv 1) (dv 4) (λ_ _=>rfl)) zab (λ_ _=>rfl)) zad)))) (zae (zah (i:=6) zgR.nd rfl (Or.inl rfl) (zam zb0 hr (zaa (dv 0) (zaa (zaE (zaa zaR (zaa (zaf (dv 5) zab (λ_ _=>rfl)) (zaa (zaf (dv 5) zab (λ_ _=>rfl)) zad)))) zad)))) (zag (zbh (zbx (dv 3) (zam zb0 hr (zaa (dv 0) (zaa (zaE (zaa zaR (zaa (dv 4) (zaa (dv 6) zad)))) zad))))))))) (zag (zai (dv 3))))),λds S Q ex h=>by
  unfold zfo at h
  split at h
  ·rename_i a p g
   obtain⟨q,P,ns,ws,ha,hp,ap,net,hq,q4,l7,unk,hv,zP,h⟩:=h
   have la:=zaV ha
   refine za7 (zal hp) ?_
   rw[Vac]
   refine⟨⟨by omega,by omega⟩,λk dl' S'=>k≤P.length∧(∃(ms:List Nd) (us fs:List Nat),zaL q (ns++ms) (ws++us)∧ms.length≤2*k∧S'[a]?=some (.lst ((ns++ms).map Nd.d))∧S'[S.length]?=some (.lst (fs.map wtD))∧fs.length=k∧(∀f∈fs,f<(ns++ms).length∧(ws++us).getD f 0=2∧(gt (zap P (ns++ms)) (f:Int)).1=0)∧(∀(i:Nat) (v:Nd),(ns++ms)[i]?=some v→(ws++us).getD i 0=v.hv)∧(∀(x:Nat) (o:Ob),x≠a→S[x]?=some o→S'[x]?=some o))∧∃u4 u5 u6:Option D,dl'=[some (.ref a),some (.ref p),some (.int g),some (.ref S.length),u4,u5,u6],⟨VaA _,⟨[],[],[],by rw[Vai,Vai]; exact net,by simp,by rw[Vai]; exact zal ha,zaw _ _,rfl,λf hf=>by simp at hf,by rw[Vai,Vai]; exact hv,λx o _ e=>zal e⟩,_,_,_,rfl⟩,?_⟩
   rintro k dl' S' ⟨hk,⟨ms,us,fs,net',lm,hS,hF,lf,zf,hv',kp⟩,u4,u5,u6,rfl⟩
   rw[Vaj]
   refine zcK (λc=>?_) (λc=>?_)
   ·have kr:inR ((P.length:Nat):Int) (k:Int):=⟨by omega,by omega⟩
    have hp':=kp _ _ (Ne.symm ap) hp
    have zk:=zP _ (zfW kr)
    refine zaz (o:=.lst (P.map frD)) hp' (zbn kr) ?_
    refine zaz (o:=.lst (P.map frD)) hp' (zbn kr) ?_
    refine⟨⟨by omega,Sz.of (n:=4000) (10^10) (by omega)⟩,λt b b1 tg te tt tb=>?_⟩
    have ln:ns.length≤(ns++ms).length:=by rw[Vad]; omega
    have lnm:(ns++ms).length<710:=by rw[Vad]; omega
    refine⟨q,.number t b,ns++ms,ws++us,rfl,hS,by omega,net',⟨⟨b1,by omega⟩,tg,by omega⟩,show 1≤16 by decide,λT j m2 u2 n2 l2 al hj hT lT kT=>?_⟩
    have hjl:=(Vab.mp hj).1
    have hvT:=znf net' n2 hv' al rfl
    have hkn:k<ns.length:=(Vab.mp (unk k (by omega))).1
    have unkT:(ns++ms++m2)[k]?=some (.unknown (k:Int)):=by
     rw[Vah (by omega),Vah hkn]
     exact unk k (by omega)
    have wk:(ws++us++u2).getD k 0=1:=hvT k _ unkT
    have wj:(ws++us++u2).getD j 0=1:=hvT j _ hj
    have lk:=(Vab.mp unkT).1
    have sl:=zaV hF
    refine zeK (n:=S.length) (xs:=fs.map wtD) (λK hK=>by exact hK) (kT _ _ (by omega) hF) (λK hK=>?_) (by rw[Vac]; omega)
    refine⟨q,.minus k j,ns++ms++m2,ws++us++u2,rfl,hT,by rw[Vad]; omega,n2,⟨⟨by omega,by omega⟩,⟨by omega,by omega⟩⟩,?_,λT2 j2 m3 u3 n3 l3 al3 hj2 hT2 lT2 kT2=>?_⟩
    ·show (ws++us++u2).getD ((k:Nat):Int).toNat 0+(ws++us++u2).getD ((j:Nat):Int).toNat 0≤16
     rw[Vaj,Vaj,wk,wj]
     decide
    ·have hF2:=kT2 _ _ (show S.length≠a by omega) (kT _ _ (by omega) hF)
     have w3:Nd.wt (ws++us++u2++u3) (.minus (k:Int) (j:Int))=Nd.hv (.minus (k:Int) (j:Int)):=by
      show (ws++us++u2++u3).getD ((k:Nat):Int).toNat 0+(ws++us++u2++u3).getD ((j:Nat):Int).toNat 0=2
      rw[Vaj,Vaj,zbF (ws:=ws++us++u2) (us:=u3) (by rw[n2.len]; omega),zbF (ws:=ws++us++u2) (us:=u3) (by rw[n2.len]; omega),wk,wj]
     have hv3:=znf n2 n3 hvT al3 w3
     have l3':=(Vab.mp hj2).1
     have zj2:(gt (zap P (ns++ms++m2++m3)) (j2:Int)).1=0:=by
      rw[zdA (P:=P) n3 hj2]
      have a1:gt (zap P (ns++ms++m2++m3)) (k:Int)=gt P (k:Int):=by
       rw[zbB ⟨by omega,by omega⟩,zdA (P:=P) n2 unkT]
       rfl
      have a2:gt (zap P (ns++ms++m2++m3)) (j:Int)=(t,b):=by
       rw[zbB ⟨by omega,by omega⟩,zdA (P:=P) n2 hj]
       rfl
      show (gt (zap P (ns++ms++m2++m3)) (k:Int)).1*(gt (zap P (ns++ms++m2++m3)) (j:Int)).2-(gt (zap P (ns++ms++m2++m3)) (j:Int)).1*(gt (zap P (ns++ms++m2++m3)) (k:Int)).2=0
      rw[a1,a2]
      show (gt P (k:Int)).1*b-t*(gt P (k:Int)).2=0
      omega
     have eN:ns++ms++m2++m3=ns++(ms++(m2++m3)):=by simp
     have eW:ws++us++u2++u3=ws++(us++(u2++u3)):=by simp
     have zf3:∀f∈fs++[j2],f<(ns++ms++m2++m3).length∧(ws++us++u2++u3).getD f 0=2∧(gt (zap P (ns++ms++m2++m3)) (f:Int)).1=0:=by
      intro f hf
      rcases VaQ.mp hf with w | w
      ·obtain⟨z1,z2,z3⟩:=zf f w
       have g1:f<(ns++ms++m2).length:=by rw[Vad]; omega
       refine⟨by rw[Vad]; omega,?_,?_⟩
       ·rw[zbF (ws:=ws++us++u2) (us:=u3) (by rw[n2.len]; exact g1),zbF (ws:=ws++us) (us:=u2) (by rw[net'.len]; exact z1)]
        exact z2
       ·rw[zbB ⟨by omega,by omega⟩,zbB ⟨by omega,by omega⟩]
        exact z3
      ·rw[VaE.mp w]
       exact⟨l3',by rw[hv3 j2 _ hj2]; rfl,zj2⟩
     rw[eN,eW] at n3 zf3 hv3
     rw[eN] at hT2
     refine hK _ _ hF2 ⟨by omega,⟨ms++(m2++m3),us++(u2++u3),fs++[j2],n3,by rw[Vad,Vad]; omega,za5 hT2 (by omega),by rw[Vav]; exact zbj hF2,by rw[Vad,lf]; rfl,zf3,hv3,λx o hx e=>?_⟩,_,_,_,rfl⟩
     have:=zaV e
     exact za5 (kT2 x o hx (kT x o hx (kp x o hx e))) (by omega)
   ·have e:k=P.length:=by omega
    exact h _ _ ms us fs net' (by omega) hS hF (by omega) zf hv' (Vaa _) kp
  ·exact h.elim⟩)
def zqO  (ziL:Df K mg "_law_number" zhz zfm)(zcz:Fk P w K mg base 1 "_law_lowest" zds zdM):Fk P w K mg base 2 "_law_number" zfm zg6:=
 ziL.mk' (zaC (k:=1) ziL.F zsl (zvd) λcdv A outer s H E hr=>⟨_,(zae (zaD (zaJ (zaP hr) (zac zaK (dv 0) zab) zab (zax _)) (zag (zai (zam zcz hr (zaa (zac za0 (zac zbk (zac zaW (dv 0) zab) zab) zab) (zaa (zac zaH zab (zac zaK (zac zaS (dv 0) zab) zab)) zad))))) zaF) (zae (zaD (zaJ (zaP hr) (zac zaK (dv 0) zab) zab (zax _)) (zag (zai (zaE (zaa (zac za0 (zac zaK (zac zaW (dv 0) zab) zab) zab) (zaa zab zad))))) zaF) (zag (zai (zam zcz hr (zaa (zac za0 (zac zaK (zac zaW (dv 0) zab) zab) zab) (zaa (zac zaH zab (zac zaK (zac zaW (dv 0) zab) zab)) zad))))))),λds S Q ex h=>by
  unfold zg6 at h
  split at h
  ·rename_i c
   refine ifD (λe=>?_) (λe=>?_)
   ·have r1:=zaZ (a:=c/3) (b:=1999999999) (by decide)
    have r2:=zaZ (a:=c*48271) (b:=999999937) (by decide)
    refine⟨show (0:Int)<1999999999 by decide,IntMulOk.of_right (by decide),?_⟩
    refine⟨⟨show 0<1+c*48271%999999937 by omega,Sz.of (10^10) (by show (1+c*48271%999999937).natAbs≤_; omega)⟩,λt b h1 h2 _ h4 h5=>?_⟩
    exact h t b ⟨h1,by omega⟩ h2 (by omega)
   ·refine ifD (λe=>?_) (λe=>?_)
    ·have r1:=zaZ (a:=c/3) (b:=9) (by decide)
     exact h _ _ ⟨by decide,by decide⟩ (Int.gcd_one_right _) (by omega)
    ·have r1:=zaZ (a:=c/3) (b:=41) (by decide)
     have r2:=zaZ (a:=c/123) (b:=9) (by decide)
     refine⟨⟨show 0<1+c/123%9 by omega,Sz.of (10^10) (by show (1+c/123%9).natAbs≤_; omega)⟩,λt b h1 h2 _ h4 h5=>?_⟩
     exact h t b ⟨h1,by omega⟩ h2 (by omega)
  ·exact h.elim⟩)
def zss  (zhw:Df K mg "_law_any" zhx zft)(zcz:Fk P w K mg base 1 "_law_lowest" zds zdM):Fk P w K mg base 2 "_law_any" zft zfL:=
 zhw.mk' (zaC (k:=1) zhw.F zq4 (zuT) λcdv A outer s H E hr=>⟨_,(zag (zai (zam zcz hr (zaa (zac za0 (zac zbk (dv 0) zab) zab) (zaa (zac zaH zab (zac zaK (zac zbr (dv 0) zab) zab)) zad))))),λds S Q ex h=>by
  unfold zfL at h
  split at h
  ·rename_i c
   have r1:=zaZ (a:=c) (b:=1999999999) (by decide)
   have r2:=zaZ (a:=c/1999999999) (b:=999999999) (by decide)
   refine⟨show (0:Int)<1999999999 by decide,?_⟩
   refine⟨⟨by decide,by decide⟩,?_⟩
   refine⟨⟨show 0<1+c/1999999999%999999999 by omega,Sz.of (10^10) (by show (1+c/1999999999%999999999).natAbs≤_; omega)⟩,λt b h1 h2 _ h4 h5=>?_⟩
   exact h t b ⟨h1,by omega⟩ h2 (by omega)
  ·exact h.elim⟩)
def zqe  (ziN:Df K mg "_law_put" ziE zfr)(zav:mg "len"=none):Fk P w K mg base 1 "_law_put" zfr ze5:=
 ziN.mk' (zaC (k:=0) ziN.F zrZ (zt7) λcdv A outer s H E hr=>⟨_,(zae (zaD (zaJ (zso hr) (dv 2) (dv 0) rfl) (zag (zai (zlS (k:=1) hr (by decide) (dv 0) (zaa (dv 2) zad)))) zaF) (zae (zbh (zbx (dv 0) (dv 2))) (zae (zbh (zbx (dv 1) (dv 3))) (zag (zai (zac za0 (zaM (zaI za1) rfl zav Boot.«len» (zaa (dv 0) zad)) zab)))))),λds S Q ex h=>by
  unfold ze5 at h
  split at h
  ·rename_i a b d w
   obtain⟨v,ns,ws,rfl,ha,hb,ne,rfl,l1,l2,h1,h2⟩:=h
   obtain⟨o,e1,e2,e3⟩:=ziK v ns
   refine zvB (o:=o) ha e2 ?_
   cases o with
   | some j=>
    refine zbJ ?_
    exact zm2 (n:=a) (v:=v) (ns:=ns) (λK hK=>by exact hK) (λK hK=>by exact hK) ha e1 (h1 j (e3 j rfl))
   | none=>
    refine zbH ?_
    refine zb1 (n:=a) (S1:=S) (xs:=ns.map Nd.d) (y:=v.d) (λK hK=>by exact hK) ha (λK hK=>by exact hK) (by rw[Vac]; omega) ?_
    refine zb1 (n:=b) (S1:=S.set a (.lst (ns.map Nd.d++[v.d]))) (xs:=ws.map wtD) (y:=wtD (v.wt ws)) (λK hK=>by exact hK) (za5 hb ne) (λK hK=>by exact hK) (by rw[Vac]; omega) ?_
    refine za7 (xs:=ns.map Nd.d++[v.d]) (za5 (zbj ha) (Ne.symm ne)) ?_
    have q:=h2 (((ns.map Nd.d++[v.d]).length:Nat)-1) (by simp)
    rw[Vav,Vav] at q
    exact q
  ·exact h.elim⟩)
def zuk  (zjw:Df K mg "_law_grow" zka zfy)(zfn:Fk P w K mg base 1 "_law_put" zfr ze5)(zmQ:Fk P w K mg base 2 "_law_any" zft zfL)(zmG:Fk P w K mg base 2 "_law_number" zfm zg6)(zav:mg "len"=none):Fk P w K mg base 3 "_law_grow" zfy zgJ:=
 zjw.mk' (zaC (k:=2) zjw.F zdq (zsb) λcdv A outer s H E hr=>⟨_,(zae (zah (i:=5) zdq.nd rfl (Or.inl rfl) (zac zbk (zac zaK (zac zaW (dv 2) zab) zab) (zaM (zaI za1) rfl zav Boot.«len» (zaa (dv 0) zad)))) (zae (zah (i:=6) zdq.nd rfl (Or.inl rfl) (zac zbk (zac zaK (zac zaW (dv 2) zab) zab) (zaM (zaI za1) rfl zav Boot.«len» (zaa (dv 0) zad)))) (zae (zah (i:=7) zdq.nd rfl (Or.inl rfl) (zac zaH (zaB (dv 1) (dv 5) (λ_ _=>rfl)) (zaB (dv 1) (dv 6) (λ_ _=>rfl)))) (zag (zaD (zaJ (zaP hr) (zac zaK (dv 2) zab) zab (zax _)) (zae (zah (i:=8) zdq.nd rfl (Or.inl rfl) (zam zmG hr (zaa (zac zaW (dv 2) zab) zad))) (zae (zaD (zbI (dv 4)) (zag (zah (i:=8) zdq.nd rfl (Or.inl rfl) (zam zmQ hr (zaa (zac zaW (dv 2) zab) zad)))) zaF) (zag (zbh (zam zfn hr (zaa (dv 0) (zaa (dv 1) (zaa (zaE (zaa zaR (zaa (zaf (dv 8) zab (λ_ _=>rfl)) (zaa (zaf (dv 8) zab (λ_ _=>rfl)) zad)))) (zaa zab zad))))))))) (zag (zaD (zaJ (zaP hr) (zac zaK (dv 2) zab) zab (zax _)) (zae (zah (i:=9) zdq.nd rfl (Or.inl rfl) (zac zaH zab (zac zaK (zac zaW (dv 2) zab) zab))) (zag (zaD (zaJ zdB (zac zaS (dv 9) (zaB (dv 1) (dv 5) (λ_ _=>rfl))) (dv 3) (zax _)) (zag (zbh (zam zfn hr (zaa (dv 0) (zaa (dv 1) (zaa (zaE (zaa zaR (zaa (dv 5) (zaa (dv 9) zad)))) (zaa (zac zaS (dv 9) (zaB (dv 1) (dv 5) (λ_ _=>rfl))) zad))))))) zaF))) (zag (zaD (zaJ zdB (dv 7) (dv 3) (zax _)) (zae (zah (i:=10) zdq.nd rfl (Or.inl rfl) (zaB (zbl (zaa zaR (zaa zaR (zaa zaR zad)))) (zac zaK (zac zaK (dv 2) zab) zab) (λ_ _=>rfl))) (zag (zbh (zam zfn hr (zaa (dv 0) (zaa (dv 1) (zaa (zaE (zaa (dv 10) (zaa (dv 5) (zaa (dv 6) zad)))) (zaa (dv 7) zad)))))))) zaF))))))))),λds S Q ex h=>by
  unfold zgJ at h
  split at h
  ·rename_i a b c most fr
   obtain⟨qn,ns,ws,ha,hb,ne,net,l1,l9,hm,h⟩:=h
   have lw:=net.len
   have pos:(0:Int)<((ns.length:Nat):Int):=by omega
   have ro:=zaZ (a:=c/6%64) pos
   have rj:=zaZ (a:=c/384%64) pos
   have ho:inR ((ns.length:Nat):Int) (c/6%64%((ns.length:Nat):Int)):=ro
   have hj:inR ((ns.length:Nat):Int) (c/384%64%((ns.length:Nat):Int)):=rj
   have ho':inR ((ws.length:Nat):Int) (c/6%64%((ns.length:Nat):Int)):=by rw[lw]; exact ho
   have hj':inR ((ws.length:Nat):Int) (c/384%64%((ns.length:Nat):Int)):=by rw[lw]; exact hj
   have wo:=net.w1 ho
   have wj:=net.w1 hj
   have on:∀(T:Sto),(∀(x:Nat) (o:Ob),S[x]?=some o→T[x]?=some o)→S.length≤T.length→Q .non T:=λT k l=>h T [] ws (by rw[Vai]; exact net) ⟨[],by simp,λw hw=>by simp at hw⟩ (by simp) (by rw[Vai]; exact k _ _ ha) (k _ _ hb) l λx o _ _ e=>k x o e
   have put:∀(v:Nd) (T:Sto),(∀(x:Nat) (o:Ob),S[x]?=some o→T[x]?=some o)→S.length≤T.length→v.ok ((ns.length:Nat):Int) ((qn:Nat):Int)→v.wt ws≤16→(v.wt ws=1∨((v.wt ws:Nat):Int)≤most)→Q .non ((T.set a (.lst ((ns++[v]).map Nd.d))).set b (.lst ((ws++[v.wt ws]).map wtD))):=λv T k l ok h16 hmo=>
    h _ [v] _ (net.snoc ok h16) ⟨[v.wt ws],rfl,λw hw=>by rw[VaE.mp hw]; exact hmo⟩ (by simp) (za5 (zbj (k _ _ ha)) (Ne.symm ne)) (zbj (za5 (k _ _ hb) ne)) (by simpa using l) λx o h1 h2 e=>za5 (za5 (k x o e) (Ne.symm h1)) (Ne.symm h2)
   refine za7 ha ?_
   rw[Vac]
   refine⟨pos,?_⟩
   refine za7 ha ?_
   rw[Vac]
   refine⟨pos,?_⟩
   refine zaz (o:=.lst (ws.map wtD)) hb (zir ho') ?_
   refine zaz (o:=.lst (ws.map wtD)) hb (zir hj') ?_
   refine ifD (λe4=>?_) (λe4=>?_)
   ·refine λt d h1 h2 h3=>?_
    cases fr
    ·refine⟨.number t d,ns,ws,rfl,ha,hb,ne,rfl,by omega,by omega,λj _=>on S (λ_ _ e=>e) (Vaa _),λi _=>?_⟩
     exact put (.number t d) S (λ_ _ e=>e) (Vaa _) ⟨h1,h2,h3⟩ (show 1≤16 by decide) (Or.inl rfl)
    ·refine λt d h1 h2 h3=>⟨.number t d,ns,ws,rfl,ha,hb,ne,rfl,by omega,by omega,λj _=>on S (λ_ _ e=>e) (Vaa _),λi _=>?_⟩
     exact put (.number t d) S (λ_ _ e=>e) (Vaa _) ⟨h1,h2,h3⟩ (show 1≤16 by decide) (Or.inl rfl)
   ·refine ifD (λe3=>?_) (λe3=>?_)
    ·have r5:=zaZ (a:=c/24576) (b:=5) (by decide)
     refine zaz (o:=.lst (ws.map wtD)) hb (zir ho') ?_
     have mo:IntMulOk (2+c/24576%5) ((ws.getD (c/6%64%((ns.length:Nat):Int)).toNat 0:Nat):Int):=zaY (m:=400) (n:=400) (Sz.of (10^20) (by omega)) (Sz.of (10^20) (by omega))
     have ew:(2+c/24576%5)*((ws.getD (c/6%64%((ns.length:Nat):Int)).toNat 0:Nat):Int)=((Nd.wt ws (.power (c/6%64%((ns.length:Nat):Int)) (2+c/24576%5)):Nat):Int):=by
      simp only[Nd.wt]
      rw[Int.natCast_mul]
      rw[Int.toNat_of_nonneg (by omega)]
     refine⟨mo,?_⟩
     refine ifD (λe5=>?_) (λe5=>on S (λ_ _ e=>e) (Vaa _))
     refine zaz (o:=.lst (ws.map wtD)) hb (zir ho') ?_
     refine⟨mo,?_⟩
     refine⟨.power (c/6%64%((ns.length:Nat):Int)) (2+c/24576%5),ns,ws,rfl,ha,hb,ne,ew,by omega,by omega,λj _=>on S (λ_ _ e=>e) (Vaa _),λi _=>?_⟩
     exact put (.power (c/6%64%((ns.length:Nat):Int)) (2+c/24576%5)) S (λ_ _ e=>e) (Vaa _) ⟨ho,by omega,by omega⟩ (by rw[ew] at e5; omega) (Or.inr (by rw[ew] at e5; exact e5))
    ·refine ifD (λe5=>?_) (λe5=>on S (λ_ _ e=>e) (Vaa _))
     have go:∀(v:Nd) (T:Sto),T=S++[.lst [.str "plus",.str "minus",.str "times"]]→v.ok ((ns.length:Nat):Int) ((qn:Nat):Int)→v.wt ws=ws.getD (c/6%64%((ns.length:Nat):Int)).toNat 0+ws.getD (c/384%64%((ns.length:Nat):Int)).toNat 0→∃(v':Nd) (ns':List Nd) (ws':List Nat),v.d=v'.d∧T[a]?=some (.lst (ns'.map Nd.d))∧T[b]?=some (.lst (ws'.map wtD))∧a≠b∧((ws.getD (c/6%64%((ns.length:Nat):Int)).toNat 0:Nat):Int)+((ws.getD (c/384%64%((ns.length:Nat):Int)).toNat 0:Nat):Int)=(v'.wt ws':Nat)∧ns'.length<900∧ws'.length<900∧(∀j:Nat,ns'[j]?=some v'→Q .non T)∧∀i:Int,i=(ns'.length:Nat)→Q .non ((T.set a (.lst ((ns'++[v']).map Nd.d))).set b (.lst ((ws'++[v'.wt ws']).map wtD))):=λv T e ok ew=>by
      subst e
      refine⟨v,ns,ws,rfl,zal ha,zal hb,ne,by rw[ew]; omega,by omega,by omega,λj _=>on _ (λ_ _ e=>zal e) (by simp),λi _=>?_⟩
      exact put v _ (λ_ _ e=>zal e) (by simp) ok (by rw[ew]; omega) (Or.inr (by rw[ew]; omega))
     have three:∀i:Int,inR 3 i→i=0∨i=1∨i=2:=λi hi=>by have:=hi.1; have:=hi.2; omega
     rcases three (c%6%3) (zaZ (by decide)) with e6 | e6 | e6
     ·refine zaz (o:=.lst [.str "plus",.str "minus",.str "times"]) (zaw _ _) (d:=.str "plus") (by rw[e6]; rfl) ?_
      exact go (.plus _ _) _ rfl ⟨ho,hj⟩ rfl
     ·refine zaz (o:=.lst [.str "plus",.str "minus",.str "times"]) (zaw _ _) (d:=.str "minus") (by rw[e6]; rfl) ?_
      exact go (.minus _ _) _ rfl ⟨ho,hj⟩ rfl
     ·refine zaz (o:=.lst [.str "plus",.str "minus",.str "times"]) (zaw _ _) (d:=.str "times") (by rw[e6]; rfl) ?_
      exact go (.times _ _) _ rfl ⟨ho,hj⟩ rfl
  ·exact h.elim⟩)
def zud  (zlh:Df K mg "_law_sum" zjh zfZ)(zb0:Fk P w K mg base 1 "_law_at" zdL zdw):Fk P w K mg base 2 "_law_sum" zfZ zg2:=
 zlh.mk' (zaC (k:=1) zlh.F zhB (zsV) λcdv A outer s H E hr=>⟨_,(zae (zah (i:=2) zhB.nd rfl (Or.inl rfl) (zaB (dv 1) zab (λ_ _=>rfl))) (zae (zoP (i:=3) PassesOwn.never rfl zhB.nd rfl (Or.inl rfl) (zmX (dv 1) (zmj zab) zmJ) (zag (zah (i:=2) zhB.nd rfl (Or.inl rfl) (zam zb0 hr (zaa (dv 0) (zaa (zaE (zaa zaR (zaa (dv 2) (zaa (dv 3) zad)))) zad)))))) (zag (zai (dv 2))))),λds S Q ex h=>by
  unfold zg2 at h
  split at h
  ·rename_i a p
   obtain⟨q,B,P,ns,ws,is,ha,hp,ap,net,⟨i1,i4⟩,b16,l8,his,h⟩:=h
   have h0:is[0]?=some is[0]:=Vae (by omega)
   generalize is[0]=j0 at h0
   have z0:=his j0 (Val h0)
   refine zaz (o:=.lst (is.map wtD)) hp (d:=.int (j0:Int)) (zcl (j:=0) (by show (is.map wtD)[0]?=_; rw[Vag,h0]; rfl)) ?_
   have la:=zaV ha
   refine zls (n:=p) (o:=.lst (is.map wtD)) (lo:=some 1) (hi:=none) (S3:=S) (λK hK=>by exact hK) (λK hK=>by exact hK) (λK hK=>by exact hK) hp ?_
   have ec:za8 (is.map wtD) (some 1) none=(is.drop 1).map wtD:=by rw[zth,List.map_drop]
   have ecut:(zaj (Ob.lst (za8 (is.map wtD) (some 1) none))).length=is.length-1:=by
    show (za8 (is.map wtD) (some 1) none).length=_
    rw[ec,Vac,VaY]
   refine zoc (n:=S.length) (o:=.lst (za8 (is.map wtD) (some 1) none)) (λk dl' S'=>∃(j:Nat) (ms:List Nd) (us:List Nat),zaL q (ns++ms) (ws++us)∧ms.length≤k∧j<(ns++ms).length∧(ws++us).getD j 0≤(k+1)*B∧(gt (zap P (ns++ms)) (j:Int)).1=0∧S'[a]?=some (.lst ((ns++ms).map Nd.d))∧S'.length=S.length+1∧(∀(x:Nat) (o:Ob),x≠a→S[x]?=some o→S'[x]?=some o)∧S'[S.length]?=some (.lst (za8 (is.map wtD) (some 1) none))∧∃u:Option D,dl'=[some (.ref a),some (.ref p),some (.int (j:Int)),u]) ⟨j0,[],[],by rw[Vai,Vai]; exact net,by simp,by simp[z0.1],by rw[Vai]; have:=z0.2.1; omega,by rw[Vai]; exact z0.2.2,by rw[Vai]; exact zal ha,by simp,λx o _ e=>zal e,zaw _ _,_,rfl⟩ (λk dl' S' ⟨_,_,_,_,_,_,_,_,_,_,_,e,_⟩=>e) ?_ ?_
   ·rintro k x dl' S' nx ct ex' ⟨j,ms,us,net',lm,hj,wj,zj,hS,lS,kp,e4,u,rfl⟩ hn
    have hx:(za8 (is.map wtD) (some 1) none)[k]?=some x:=ex'
    have hk:=(Vab.mp hx).1
    rw[ec] at hx
    rw[ec,Vac,VaY] at hk
    rw[Vag] at hx
    obtain⟨i,hi,rfl⟩:=VaF.mp hx
    have him:=his i (List.mem_of_mem_drop (Val hi))
    have lni:ns.length≤(ns++ms).length:=by rw[Vad]; omega
    have wi:(ws++us).getD i 0=ws.getD i 0:=zbF (by rw[net.len]; exact him.1)
    have zi:(gt (zap P (ns++ms)) (i:Int)).1=0:=by rw[zbB ⟨by omega,by omega⟩]; exact him.2.2
    have okv:(Nd.plus (j:Int) (i:Int)).ok ((ns++ms).length:Nat) q:=⟨⟨by omega,by omega⟩,⟨by omega,by omega⟩⟩
    have wv:Nd.wt (ws++us) (.plus (j:Int) (i:Int))≤(k+1+1)*B:=by
     show (ws++us).getD ((j:Nat):Int).toNat 0+(ws++us).getD ((i:Nat):Int).toNat 0≤_
     rw[Vaj,Vaj,wi]
     have e:(k+1+1)*B=(k+1)*B+B:=Nat.succ_mul (k+1) B
     have:=him.2.1
     omega
    have hB:(k+1+1)*B≤16:=Vaz (Nat.mul_le_mul_right B (show k+1+1≤is.length by omega)) b16
    refine⟨q,.plus j i,ns++ms,ws++us,rfl,hS,by rw[Vad]; omega,net',okv,by omega,λT j2 ms2 us2 net2 l2 _ hj2 hT lT kT=>?_⟩
    rw[Vat,Vat] at net2
    rw[Vat] at hj2 hT
    have hlt:=(Vab.mp hj2).1
    refine hn _ _ ⟨j2,ms++ms2,us++us2,net2,by rw[Vad]; omega,hlt,?_,?_,hT,by omega,λx o hx e=>kT x o hx (kp x o hx e),kT _ _ (by omega) e4,_,rfl⟩
    ·have w2:=(net2.ok j2 _ hj2).2.1
     rw[w2]
     have e:Nd.wt (ws++(us++us2)) (.plus (j:Int) (i:Int))=Nd.wt (ws++us) (.plus (j:Int) (i:Int)):=by
      rw[← Vat]
      show ((ws++us)++us2).getD ((j:Nat):Int).toNat 0+((ws++us)++us2).getD ((i:Nat):Int).toNat 0=(ws++us).getD ((j:Nat):Int).toNat 0+(ws++us).getD ((i:Nat):Int).toNat 0
      rw[Vaj,Vaj,zbF (ws:=ws++us) (us:=us2) (by rw[net'.len]; exact hj),zbF (ws:=ws++us) (us:=us2) (by rw[net'.len]; omega)]
     rw[e]
     exact wv
    ·have d:=zdA (P:=P) net2 hj2
     rw[d]
     have a1:gt (zap P (ns++(ms++ms2))) (j:Int)=gt (zap P (ns++ms)) (j:Int):=by rw[← Vat]; exact zbB ⟨by omega,by omega⟩
     have a2:gt (zap P (ns++(ms++ms2))) (i:Int)=gt (zap P (ns++ms)) (i:Int):=by rw[← Vat]; exact zbB ⟨by omega,by omega⟩
     show (gt (zap P (ns++(ms++ms2))) (j:Int)).1*(gt (zap P (ns++(ms++ms2))) (i:Int)).2+(gt (zap P (ns++(ms++ms2))) (i:Int)).1*(gt (zap P (ns++(ms++ms2))) (j:Int)).2=0
     rw[a1,a2,zj,zi]
     omega
   ·rintro dl' S' ⟨j,ms,us,net',lm,hj,wj,zj,hS,lS,kp,e4,u,rfl⟩
    rw[ecut] at lm wj
    rw[show is.length-1+1=is.length by omega] at wj
    exact h _ j ms us net' (by omega) hS hj wj zj (by omega) kp
  ·exact h.elim⟩)
def zto  (zkg:Df K mg "_law_row" zk7 zfz)(za6:Fk P w K mg base 2 "_law_cell" zcU zc0)(zb0:Fk P w K mg base 1 "_law_at" zdL zdw)(zmZ:Fk P w K mg base 2 "_law_sum" zfZ zg2)(zaN:mg "range"=none)(zav:mg "len"=none):Fk P w K mg base 3 "_law_row" zfz zeM:=
 zkg.mk' (zaC (k:=2) zkg.F zer (ztk) λcdv A outer s H E hr=>⟨_,(zae (zah (i:=4) zer.nd rfl (Or.inl rfl) (zaM (zaI za1) rfl zav Boot.«len» (zaa (dv 1) zad))) (zae (zah (i:=5) zer.nd rfl (Or.inl rfl) (zbl zad)) (zae (zcR (i:=6) PassesOwn.never rfl zer.nd rfl (Or.inl rfl) rfl zaN (zaa (zaM (zaI za1) rfl zav Boot.«len» (zaa (dv 2) zad)) zad) (zag (zbh (zbx (dv 5) (zam zb0 hr (zaa (dv 1) (zaa (zaE (zaa zaR (zaa (zac zbk (zam za6 hr (zaa (dv 0) (zaa (zac zaH zab (dv 6)) zad))) (dv 4)) (zaa (zaB (dv 2) (dv 6) (λ_ _=>rfl)) zad)))) zad))))))) (zae (zah (i:=7) zer.nd rfl (Or.inl rfl) (zam zmZ hr (zaa (dv 1) (zaa (dv 5) zad)))) (zae (zaD (zcQ (zbI (dv 3))) (zag (zah (i:=7) zer.nd rfl (Or.inl rfl) (zam zb0 hr (zaa (dv 1) (zaa (zaE (zaa zaR (zaa (dv 7) (zaa (zam zb0 hr (zaa (dv 1) (zaa (zaE (zaa zaR (zaa zab (zaa zab zad)))) zad))) zad)))) zad))))) zaF) (zag (zai (zaE (zaa (zaB (zbl (zaa zaR (zaa zaR zad))) (zac zaK (zac zaW (zam za6 hr (zaa (dv 0) (zaa zab zad))) zab) zab) (λ_ _=>rfl)) (zaa (dv 7) zad)))))))))),λds S Q ex h=>by
  unfold zeM at h
  split at h
  ·rename_i sc a f ft
   obtain⟨cs,q,M,P,ns,ws,fs,hsc,ha,hf,af,net,⟨f1,f4⟩,b15,l1,lP,pP,wM,zf,h⟩:=h
   have la:=zaV ha
   have asc:sc≠a:=λe=>by rw[e,ha] at hsc; cases hsc
   have n1:1≤ns.length:=by
    have z:=zf fs[0] (Va6 (by omega))
    omega
   refine za7 ha ?_
   rw[Vac]
   refine za7 (zal hf) ?_
   rw[Vac]
   refine⟨⟨by omega,by omega⟩,λl dl2 S2=>l≤fs.length∧(∃(m2:List Nd) (u2 ps:List Nat),zaL q (ns++m2) (ws++u2)∧m2.length≤l∧S2[a]?=some (.lst ((ns++m2).map Nd.d))∧S2[S.length]?=some (.lst (ps.map wtD))∧ps.length=l∧(∀i∈ps,i<(ns++m2).length∧(ws++u2).getD i 0≤M+2∧(gt (zap P (ns++m2)) (i:Int)).1=0)∧S.length≤S2.length∧(∀(x:Nat) (o:Ob),x≠a→S[x]?=some o→S2[x]?=some o))∧∃u6 u7:Option D,dl2=[some (.ref sc),some (.ref a),some (.ref f),some (.bl ft),some (.int (ns.length:Nat)),some (.ref S.length),u6,u7],⟨VaA _,⟨[],[],[],by rw[Vai,Vai]; exact net,by simp,by rw[Vai]; exact zal ha,zaw _ _,rfl,λi hi=>by simp at hi,by simp,λx o _ e=>zal e⟩,_,_,rfl⟩,?_⟩
   rintro l dl2 S2 ⟨hl,⟨m2,u2,ps,n2,l2,hS2,hP2,lp,zp,lS2,kp2⟩,v6,v7,rfl⟩
   have ln2:(ns++m2).length=ns.length+m2.length:=Vad
   rw[Vaj]
   refine zcK (λc2=>?_) (λc2=>?_)
   ·refine zeK (n:=S.length) (xs:=ps.map wtD) (λK hK=>by exact hK) hP2 (λK hK=>?_) (by rw[Vac]; omega)
    refine⟨cs,kp2 _ _ asc hsc,⟨by omega,by omega⟩,λx=>?_⟩
    have np:(0:Int)<(ns.length:Nat):=by omega
    have xr:=zaZ (a:=x) np
    refine⟨np,?_⟩
    obtain⟨w,hw⟩:∃w:Nat,x%((ns.length:Nat):Int)=(w:Int):=⟨(x%((ns.length:Nat):Int)).toNat,by omega⟩
    have wl:w<ns.length:=by omega
    have ltp:=zaV hP2
    have h0:fs[l]?=some fs[l]:=Vae (by omega)
    generalize fs[l]=fl at h0
    have z0:=zf fl (Val h0)
    refine zaz (o:=.lst (fs.map wtD)) (kp2 _ _ (Ne.symm af) hf) (d:=.int (fl:Int)) (zcl (j:=l) (by show (fs.map wtD)[l]?=_; rw[Vag,h0]; rfl)) ?_
    have gw:∀i:Nat,i<ns.length→(ws++u2).getD i 0=ws.getD i 0:=λi hi=>zbF (ws:=ws) (us:=u2) (by rw[net.len]; exact hi)
    have gd:∀ {m3:List Nd} (i:Nat),i<ns.length→gt (zap P (ns++m2++m3)) (i:Int)=gt (zap P ns) (i:Int):=λ{m3} i hi=>by
     rw[zbB ⟨by omega,by omega⟩,zbB ⟨by omega,by omega⟩]
    have M16:M+2≤15:=Vaz (Nat.le_mul_of_pos_left (M+2) f1) b15
    have wv:Nd.wt (ws++u2) (.times (w:Int) (fl:Int))≤M+2:=by
     show (ws++u2).getD ((w:Nat):Int).toNat 0+(ws++u2).getD ((fl:Nat):Int).toNat 0≤M+2
     rw[Vaj,Vaj,gw w wl,gw fl z0.1,z0.2.1]
     have:=wM w wl
     omega
    refine⟨q,.times w fl,ns++m2,ws++u2,congrArg (λz:Int=>D.tup [.str "times",.int z,.int (fl:Int)]) hw,hS2,by omega,n2,⟨⟨by omega,by omega⟩,⟨by omega,by omega⟩⟩,by omega,λT j m3 u3 n3 l3 al hj hT lT kT=>?_⟩
    have hP3:=kT _ _ (show S.length≠a by omega) hP2
    have lj:=(Vab.mp hj).1
    have wj:(ws++u2++u3).getD j 0≤M+2:=by
     rw[(n3.ok j _ hj).2.1]
     have e:Nd.wt (ws++u2++u3) (.times (w:Int) (fl:Int))=Nd.wt (ws++u2) (.times (w:Int) (fl:Int)):=by
      show (ws++u2++u3).getD ((w:Nat):Int).toNat 0+(ws++u2++u3).getD ((fl:Nat):Int).toNat 0=(ws++u2).getD ((w:Nat):Int).toNat 0+(ws++u2).getD ((fl:Nat):Int).toNat 0
      rw[Vaj,Vaj,zbF (ws:=ws++u2) (us:=u3) (by rw[n2.len]; omega),zbF (ws:=ws++u2) (us:=u3) (by rw[n2.len]; omega)]
     rw[e]
     exact wv
    have zj:(gt (zap P (ns++m2++m3)) (j:Int)).1=0:=by
     rw[zdA (P:=P) n3 hj]
     show (gt (zap P (ns++m2++m3)) (w:Int)).1*(gt (zap P (ns++m2++m3)) (fl:Int)).1=0
     rw[gd fl z0.1,z0.2.2,Int.mul_zero]
    have zp3:∀i∈ps++[j],i<(ns++m2++m3).length∧(ws++u2++u3).getD i 0≤M+2∧(gt (zap P (ns++m2++m3)) (i:Int)).1=0:=by
     intro i hi
     rcases VaQ.mp hi with y | y
     ·obtain⟨z1,z2,z3⟩:=zp i y
      refine⟨by rw[Vad]; omega,?_,?_⟩
      ·rw[zbF (ws:=ws++u2) (us:=u3) (by rw[n2.len]; exact z1)]
       exact z2
      ·rw[zbB ⟨by omega,by omega⟩]
       exact z3
     ·rw[VaE.mp y]
      exact⟨lj,wj,zj⟩
    have eN:ns++m2++m3=ns++(m2++m3):=by simp
    have eW:ws++u2++u3=ws++(u2++u3):=by simp
    rw[eN,eW] at n3 zp3
    rw[eN] at hT
    refine hK _ _ hP3 ⟨by omega,⟨m2++m3,u2++u3,ps++[j],n3,by rw[Vad]; omega,za5 hT (by omega),by rw[Vav]; exact zbj hP3,by rw[Vad,lp]; rfl,zp3,by rw[VaK]; omega,λx o hx e=>?_⟩,_,_,rfl⟩
    have:=zaV e
    exact za5 (kT x o hx (kp2 x o hx e)) (by omega)
   ·have e:l=fs.length:=by omega
    subst e
    have ltp:=zaV hP2
    refine⟨q,M+2,P,ns++m2,ws++u2,ps,hS2,hP2,by omega,n2,⟨by omega,by omega⟩,by rw[lp]; omega,by omega,zp,λT j m3 u3 n3 l3 hT lj wj zj lT kT=>?_⟩
    rw[lp] at wj
    rw[Vat] at n3 hT lj zj
    rw[Vat] at n3 wj
    have hz:∀v:Int,∃z:Bool,atI [D.str "zero",D.str "least"] (v/2%2)=some (.str (if z then "zero" else "least")):=λv=>by
     have c:v/2%2=0∨v/2%2=1:=by omega
     rcases c with c | c
     ·exact⟨true,by rw[c]; rfl⟩
     ·exact⟨false,by rw[c]; rfl⟩
    have kT1:∀(x:Nat) (o:Ob),x≠a→S[x]?=some o→T[x]?=some o:=λx o hx e=>kT x o hx (kp2 x o hx e)
    have lm3:(m2++m3).length≤8:=by rw[Vad]; omega
    have lnn:(ns++(m2++m3)).length=ns.length+(m2++m3).length:=Vad
    generalize m2++m3=mm at n3 hT lj zj lm3 lnn
    generalize u2++u3=uu at n3 wj
    cases ft
    ·refine⟨q,.number 1 1,ns++mm,ws++uu,rfl,hT,by omega,n3,⟨by decide,by decide,by decide⟩,by show 1≤16; decide,λT2 jn m4 u4 n4 l4 _ hjn hT2 lT2 kT2=>?_⟩
     have ljn:=(Vab.mp hjn).1
     have wn:(ws++uu++u4).getD jn 0=1:=(n4.ok jn _ hjn).2.1
     have wj4:(ws++uu++u4).getD j 0≤15:=by
      rw[zbF (ws:=ws++uu) (us:=u4) (by rw[n3.len]; exact lj)]
      omega
     have ln4:(ns++mm++m4).length=ns.length+mm.length+m4.length:=by rw[Vad,lnn]
     refine⟨q,.minus (j:Int) (jn:Int),ns++mm++m4,ws++uu++u4,rfl,hT2,by omega,n4,⟨⟨by omega,by omega⟩,⟨by omega,by omega⟩⟩,by
      show (ws++uu++u4).getD ((j:Nat):Int).toNat 0+(ws++uu++u4).getD ((jn:Nat):Int).toNat 0≤16
      rw[Vaj,Vaj,wn]
      omega,λT3 j3 m5 u5 n5 l5 _ hj3 hT3 lT3 kT3=>?_⟩
     have lj3:=(Vab.mp hj3).1
     have d3:(gt (zap P (ns++mm++m4++m5)) (j3:Int)).1<0:=by
      rw[zdA (P:=P) n5 hj3]
      show (gt (zap P (ns++mm++m4++m5)) (j:Int)).1*(gt (zap P (ns++mm++m4++m5)) (jn:Int)).2-(gt (zap P (ns++mm++m4++m5)) (jn:Int)).1*(gt (zap P (ns++mm++m4++m5)) (j:Int)).2<0
      have a1:gt (zap P (ns++mm++m4++m5)) (j:Int)=gt (zap P (ns++mm)) (j:Int):=by rw[zbB ⟨by omega,by omega⟩,zbB ⟨by omega,by omega⟩]
      have a2:gt (zap P (ns++mm++m4++m5)) (jn:Int)=(1,1):=by
       rw[zbB ⟨by omega,by omega⟩,zdA (P:=P) n4 hjn]
       rfl
      have dp:1≤(gt (zap P (ns++mm)) (j:Int)).2:=by
       have x:=zgm n3 (by rw[lP]) pP (ns++mm).length (Vaa _)
       rw[List.take_length] at x
       exact(x.at ⟨by omega,by rw[zcH]; omega⟩).1
      rw[a1,a2,zj]
      dsimp only
      omega
     have kT4:∀(x:Nat) (o:Ob),x≠a→S[x]?=some o→T3[x]?=some o:=λx o hx e=>kT3 x o hx (kT2 x o hx (kT1 x o hx e))
     refine⟨cs,zal (kT4 _ _ asc hsc),⟨by decide,by decide⟩,λv=>?_⟩
     obtain⟨z,hz⟩:=hz v
     refine zaz (o:=.lst [.str "zero",.str "least"]) (zaw _ _) hz ?_
     rw[Vat,Vat] at n5 hT3 lj3 d3
     rw[Vat,Vat] at n5
     exact h _ z j3 (mm++(m4++m5)) (uu++(u4++u5)) n5 (by rw[Vad,Vad]; omega) (zal hT3) lj3 (λe=>nomatch e) (λ_=>d3) (by rw[Vad]; omega) (λx o hx e=>zal (kT4 x o hx e))
    ·refine⟨cs,zal (kT1 _ _ asc hsc),⟨by decide,by decide⟩,λv=>?_⟩
     obtain⟨z,hz⟩:=hz v
     refine zaz (o:=.lst [.str "zero",.str "least"]) (zaw _ _) hz ?_
     exact h _ z j mm uu n3 (by omega) (zal hT) lj (λ_=>zj) (λe=>nomatch e) (by rw[Vad]; omega) (λx o hx e=>zal (kT1 x o hx e))
  ·exact h.elim⟩)
def zuK  (zkT:Df K mg "_law_others" zh6 zfa)(za6:Fk P w K mg base 2 "_law_cell" zcU zc0)(zaN:mg "range"=none)(zav:mg "len"=none):Fk P w K mg base 3 "_law_others" zfa zgV:=
 zkT.mk' (zaC (k:=2) zkT.F zlQ (zrF) λcdv A outer s H E hr=>⟨_,(zag (zcR (i:=3) PassesOwn.never rfl zlQ.nd rfl (Or.inl rfl) rfl zaN (zaa (zac zaK (zam za6 hr (zaa (dv 0) (zaa zab zad))) zab) zad) (zae (zah (i:=4) zlQ.nd rfl (Or.inl rfl) (zam za6 hr (zaa (dv 0) (zaa (zac zaH zab (dv 3)) zad)))) (zag (zbh (zr4 (dv 1) (zaa (zac zaS (zac zaK (dv 4) zab) (zaM (zaI za1) rfl zav Boot.«len» (zaa (dv 1) zad))) (zaa (zaE (zaa (zaB (zbl (zaa zaR (zaa zaR zad))) (zac zaK (zac zaW (dv 4) zab) zab) (λ_ _=>rfl)) (zaa (zac zbk (zac zaW (dv 4) zab) (dv 2)) zad))) zad)))))))),λds S Q ex h=>by
  unfold zgV at h
  split at h
  ·rename_i sc r many
   obtain⟨cs,rows,mn,hs,hr,rfl,m1,m9,l3,hx,h⟩:=h
   have ne:sc≠r:=λe=>by rw[e,hr] at hs; cases hs
   refine⟨cs,hs,⟨by decide,by decide⟩,λv=>?_⟩
   have rv:=zaZ (a:=v) (b:=3) (by decide)
   refine⟨⟨by omega,by omega⟩,λc0 dl' S'=>c0≤2∧∃(rows':List (Bool×Nat)) (o3 o4:Option D),dl'=[some (.ref sc),some (.ref r),some (.int (mn:Int)),o3,o4]∧S'[r]?=some (.lst (rows'.map rwD))∧(∀x∈rows',x.2<mn)∧(∀x∈rows,x∈rows')∧rows'.length≤rows.length+c0∧S.length≤S'.length∧(∀(x:Nat) (o:Ob),x≠r→S[x]?=some o→S'[x]?=some o),⟨by decide,rows,none,none,rfl,hr,hx,λx hx=>hx,Vaa _,Vaa _,λx o _ e=>e⟩,?_⟩
   rintro c0 dl' S' ⟨c2,rows',o3,o4,rfl,hr',hx',hi',l',ls,kp⟩
   refine zcK (λc1=>?_) (λc1=>?_)
   ·refine⟨cs,kp _ _ ne hs,⟨by omega,by omega⟩,λu=>?_⟩
    have r2:=zaZ (a:=u) (b:=2) (by decide)
    have rz:=zaZ (a:=u/2) (b:=2) (by decide)
    have rm:=zaZ (a:=u/4) (b:=(mn:Int)) (by omega)
    have hz:∃z:Bool,atI [D.str "zero",D.str "least"] (u/2%2)=some (.str (if z then "zero" else "least")):=by
     have c:u/2%2=0∨u/2%2=1:=by omega
     rcases c with c | c
     ·exact⟨true,by rw[c]; rfl⟩
     ·exact⟨false,by rw[c]; rfl⟩
    obtain⟨z,hz⟩:=hz
    have ii:0≤u%2*((rows'.length:Nat):Int)∧u%2*((rows'.length:Nat):Int)≤rows'.length:=by
     have c:u%2=0∨u%2=1:=by omega
     rcases c with c | c <;> rw[c] <;> omega
    have yk:D.tup [.str (if z then "zero" else "least"),.int (u/4%(mn:Int))]=rwD (z,(u/4%(mn:Int)).toNat):=by
     show _=D.tup [.str (if z then "zero" else "least"),.int (((u/4%(mn:Int)).toNat:Nat):Int)]
     rw[Int.toNat_of_nonneg rm.1]
    refine zsA (n:=r) (S1:=S') (S2:=S'++[.lst [.str "zero",.str "least"]]) (i:=u%2*((rows'.length:Nat):Int)) (y:=rwD (z,(u/4%(mn:Int)).toNat)) (xs:=rows'.map rwD) (ys:=rows'.map rwD) (λK hK=>by exact hK) hr' (λK hK=>?_) (zal hr') ⟨ii.1,by rw[Vac]; exact ii.2,by rw[Vac]; omega⟩ ?_
    ·refine za7 hr' ?_
     rw[Vac]
     refine⟨zaY (m:=10) (n:=30) (Sz.of 10 (by omega)) (Sz.of 1000 (by omega)),?_⟩
     refine zaz (o:=.lst [.str "zero",.str "least"]) (zaw _ _) hz ?_
     refine⟨by show (0:Int)<(mn:Int); omega,?_⟩
     rw[← yk] at hK
     exact hK
    ·generalize (u%2*((rows'.length:Nat):Int)).toNat=ni
     have em:(rows'.map rwD).take ni++rwD (z,(u/4%(mn:Int)).toNat)::(rows'.map rwD).drop ni=(rows'.take ni++(z,(u/4%(mn:Int)).toNat)::rows'.drop ni).map rwD:=by
      rw[Vav,Var,List.map_take,List.map_drop]
     rw[em]
     refine⟨by omega,_,_,_,rfl,zbj (zal hr'),λx hx=>?_,λx hx=>?_,?_,by simp; omega,λx o nx e=>za5 (zal (kp x o nx e)) (Ne.symm nx)⟩
     ·rcases VaQ.1 hx with hx | hx
      ·exact hx' x (List.mem_of_mem_take hx)
      ·rcases Vaf.1 hx with rfl | hx
       ·show (u/4%(mn:Int)).toNat<mn
        omega
       ·exact hx' x (List.mem_of_mem_drop hx)
     ·have q:=hi' x hx
      rw[← List.take_append_drop ni rows'] at q
      rcases VaQ.1 q with q | q
      ·exact List.mem_append_left _ q
      ·exact VaB _ (VaG _ q)
     ·simp only[Vad,Vap,Vaw,VaY]
      omega
   ·exact h _ rows' hx' hi' (by omega) hr' ls kp
  ·exact h.elim⟩)
def zqG  (zhm:Df K mg "_law_tree" zjq zgT)(zaN:mg "range"=none)(zav:mg "len"=none)(zbg:mg "list"=none):Fk P w K mg base 1 "_law_tree" zgT zeU:=
 zhm.mk' (zaC (k:=0) zhm.F zbW (zqo) λcdv A outer s H E hr=>⟨_,(zae (zah (i:=4) zbW.nd rfl (Or.inl rfl) (zbl (zaa (zaE (zaa (zcN (zaI zdh) rfl zbg Boot.«list» (zaa (dv 0) zad)) (zaa (zaE (zaa zaR zad)) zad))) zad))) (zae (zah (i:=5) zbW.nd rfl (Or.inl rfl) zab) (zae (zcR (i:=6) PassesOwn.never rfl zbW.nd rfl (Or.inl rfl) rfl zaN (zaa (zaB (zbl (zaa zab (zaa zab (zaa zab (zaa zab zad))))) (zac zaK (dv 2) zab) (λ_ _=>rfl)) zad) (zae (zah (i:=7) zbW.nd rfl (Or.inl rfl) (zaf (zaB (dv 4) (dv 5) (λ_ _=>rfl)) zab (λ_ _=>rfl))) (zae (zah (i:=8) zbW.nd rfl (Or.inl rfl) (zac zbk (zac zaW (dv 2) zab) (zaM (zaI za1) rfl zav Boot.«len» (zaa (dv 0) zad)))) (zae (zmI (is:=[9,10]) rfl zbW.nd (Nms.cons (i:=9) rfl (Or.inl rfl) (by first | exact .inl rfl | exact .inr rfl) (Nms.cons (i:=10) rfl (Or.inl rfl) (by first | exact .inl rfl | exact .inr rfl) Nms.nil)) (zaB (dv 7) (dv 8) (λ_ _=>rfl))) (zae (zaD (zaJ zbR (zac za0 (dv 10) (dv 9)) zab (zax _)) (zag zuI) zaF) (zae (zah (i:=11) zbW.nd rfl (Or.inl rfl) (zac zaH (zac zaH (dv 9) zab) (zac zbk (zac zaW (dv 2) zab) (zac za0 (zac za0 (dv 10) (dv 9)) zab)))) (zae (zah (i:=12) zbW.nd rfl (Or.inl rfl) (zcN (zaI zdh) rfl zbg Boot.«list» (zaa (dv 7) zad))) (zae (zeH (dv 12) (dv 8) (zaE (zaa (dv 9) (zaa (dv 11) zad)))) (zae (zah (i:=13) zbW.nd rfl (Or.inl rfl) (zcN (zaI zdh) rfl zbg Boot.«list» (zaa (dv 7) zad))) (zae (zeH (dv 13) (dv 8) (zaE (zaa (dv 11) (zaa (dv 10) zad)))) (zae (zeH (dv 4) (dv 5) (zaE (zaa (dv 7) (zaa (zaE (zaa zaR (zaa (dv 8) (zaa (dv 11) (zaa (zaM (zaI za1) rfl zav Boot.«len» (zaa (dv 4) zad)) (zaa (zac zaH (zaM (zaI za1) rfl zav Boot.«len» (zaa (dv 4) zad)) zab) zad)))))) zad)))) (zae (zbh (zbx (dv 4) (zaE (zaa (dv 12) (zaa (zaE (zaa zaR zad)) zad))))) (zae (zbh (zbx (dv 4) (zaE (zaa (dv 13) (zaa (zaE (zaa zaR zad)) zad))))) (zae (zah (i:=5) zbW.nd rfl (Or.inl rfl) (zac za0 (zaM (zaI za1) rfl zav Boot.«len» (zaa (dv 4) zad)) zab)) (zae (zaD (zaJ zgk (zac zaS (zaf (zaB (dv 1) (dv 8) (λ_ _=>rfl)) zab (λ_ _=>rfl)) (dv 3)) (zac zaS (dv 11) (zaf (zaB (dv 1) (dv 8) (λ_ _=>rfl)) zab (λ_ _=>rfl))) (zax _)) (zag (zah (i:=5) zbW.nd rfl (Or.inl rfl) (zac za0 (zaM (zaI za1) rfl zav Boot.«len» (zaa (dv 4) zad)) zab))) zaF) (zag (zah (i:=2) zbW.nd rfl (Or.inl rfl) (zac zaW (dv 2) zab)))))))))))))))))) (zag (zai (zaE (zaa (dv 4) (zaa (dv 5) zad)))))))),λds S Q ex h=>by
  unfold zeU at h
  split at h
  ·rename_i bx pt c g
   obtain⟨bs,P,hb0,hpt,lbp,⟨l1,l4⟩,sb,iw,hg,pz,h⟩:=h
   refine zdO (o:=.lst (bs.map frD)) (zaU hb0 rfl) ?_
   have sl:(S++[Ob.lst (bs.map frD)]).length=S.length+1:=by simp
   have c4:c%4=0∨c%4=1∨c%4=2∨c%4=3:=by omega
   have many:∃mt:Nat,mt≤2∧atI [D.int 0,D.int 1,D.int 1,D.int 2] (c%4)=some (.int (mt:Int)):=by
    rcases c4 with e | e | e | e
    ·exact⟨0,by decide,by rw[e]; rfl⟩
    ·exact⟨1,by decide,by rw[e]; rfl⟩
    ·exact⟨1,by decide,by rw[e]; rfl⟩
    ·exact⟨2,by decide,by rw[e]; rfl⟩
   obtain⟨mt,m2,hmt⟩:=many
   refine zaz (o:=.lst [.int 0,.int 1,.int 1,.int 2]) (zaw _ _) hmt ?_
   refine⟨⟨by omega,by omega⟩,λt dl' S'=>t≤2∧∃(es:List En) (hn:Nat) (hb:List (Int×Int)) (ds:List D) (c':Int),Pre S S'∧S'[(S++[Ob.lst (bs.map frD)]).length]?=some (.lst ds)∧zba S' ds es∧TrI bs es hn hb∧es.length≤1+2*t∧Spn 51 hb∧InW g hb P∧∃o6 o7 o8 o9 o10 o11 o12 o13:Option D,dl'=[some (.ref bx),some (.ref pt),some (.int c'),some (.int g),some (.ref (S++[Ob.lst (bs.map frD)]).length),some (.int (hn:Int)),o6,o7,o8,o9,o10,o11,o12,o13],⟨by decide,[(bs,.waits)],0,bs,[.tup [.ref S.length,.tup [.str "waits"]]],c,zeq (zeq (zbK _)),zal (zaw _ _),⟨rfl,λk d e a b=>?_⟩,zsU bs,Vaa _,sb,iw,_,_,_,_,_,_,_,_,rfl⟩,?_⟩
   ·cases k with
    | zero=>
     cases a
     cases b
     exact⟨S.length,_,rfl,zal (zal (zaw _ _)),rfl⟩
    | succ k=>exact nomatch a
   rintro t dl' S' ⟨t2,es,hn,hb,ds,c',pr,hM,en,tr,le,sh,ih,o6,o7,o8,o9,o10,o11,o12,o13,rfl⟩
   rw[Vaj]
   refine zcK (λct=>?_) (λct=>?_)
   ·obtain⟨d,ed,m,f,rfl,hm,hf⟩:=en.get tr.hold
    have hf':f=.tup [.str "waits"]:=hf
    subst hf'
    have lhb:hb.length=bs.length:=tr.all (hb,.waits) (Val tr.hold)
    refine zaz (o:=.lst ds) hM (zcM ed) ?_
    refine za7 (pr _ _ hb0) ?_
    rw[Vac]
    refine⟨by omega,?_⟩
    have rk:=zaZ (a:=c'/4) (b:=((bs.length:Nat):Int)) (by omega)
    obtain⟨k,ek⟩:∃k,c'/4%((bs.length:Nat):Int)=k:=⟨_,rfl⟩
    rw[ek] at rk
    have ik:inR hb.length k:=by rw[lhb]; exact rk
    have e7:=ih k (by rw[← lbp]; exact rk)
    have pk:=pz.at (i:=k) (by rw[← lbp]; exact rk)
    have sk:=sh.at ik
    have ltM:=zaV hM
    have ltm:=zaV hm
    have nmM:m≠(S++[Ob.lst (bs.map frD)]).length:=λe=>by
     subst e
     rw[hM] at hm
     have ev:ds=hb.map frD:=by injection hm with e; injection e
     rw[ev,Vag] at ed
     cases c:hb[hn]? with
     | none=>rw[c] at ed; cases ed
     | some q=>rw[c] at ed; cases ed
    refine zaz (o:=.lst (hb.map frD)) hm (d:=frD (gt hb k)) (by rw[← ek] at ik ⊢; exact zd7 ik) ?_
    refine⟨rfl,?_⟩
    refine ifD (λcw=>?_) (λcw=>?_)
    ·exact⟨by omega,es,hn,hb,ds,c',pr,hM,en,tr,by omega,sh,ih,_,_,_,_,_,_,_,_,rfl⟩
    have cw':¬ ((gt hb k).2-(gt hb k).1<2):=cw
    obtain⟨o6,eo6⟩:∃o6:Option D,o6=some (.int ((t:Nat):Int)):=⟨_,rfl⟩
    refine za9 (λdl' S''=>S''=S'∧dl'=[some (.ref bx),some (.ref pt),some (.int c'),some (.int g),some (.ref (S++[Ob.lst (bs.map frD)]).length),some (.int (hn:Int)),o6,some (.ref m),some (.int k),some (.int (gt hb k).1),some (.int (gt hb k).2),o11,o12,o13]) (λnx hx=>hx _ _ ⟨rfl,by rw[eo6,← ek]; rfl⟩) ?_
    rintro dl' S'' ⟨rfl,rfl⟩
    have rp:=zaZ (a:=c'/8) (b:=(gt hb k).2-(gt hb k).1-1) (by omega)
    obtain⟨p,ep⟩:∃p,(gt hb k).1+1+c'/8%((gt hb k).2-(gt hb k).1-1)=p:=⟨_,rfl⟩
    refine za9 (λdl' S2=>S2=S''∧dl'=[some (.ref bx),some (.ref pt),some (.int c'),some (.int g),some (.ref (S++[Ob.lst (bs.map frD)]).length),some (.int (hn:Int)),o6,some (.ref m),some (.int k),some (.int (gt hb k).1),some (.int (gt hb k).2),some (.int p),o12,o13]) (λnx hx=>⟨show (0:Int)<_ by omega,hx _ _ ⟨rfl,by rw[← ep]; rfl⟩⟩) ?_
    rintro dl' S2 ⟨rfl,rfl⟩
    have plo:(gt hb k).1<p:=by omega
    have phi:p<(gt hb k).2:=by omega
    have ix:ixN (hb.map frD).length k=some k.toNat:=by rw[Vac]; exact zh2 ik
    have ixh:ixN ds.length (hn:Int)=some hn:=by
     have:=(Vab.mp ed).1
     have z:=zh2 (n:=ds.length) (i:=(hn:Int)) ⟨by omega,by omega⟩
     rw[Vaj] at z
     exact z
    obtain⟨mb,emb⟩:∃mb,(S++[Ob.lst (bs.map frD)]).length=mb:=⟨_,rfl⟩
    rw[emb] at hM nmM ltM
    have lmb:S.length≤mb:=by rw[← emb,sl]; omega
    rw[emb]
    refine zlF (λdl' T=>∃n1:Nat,Pre S2 T∧S2.length≤n1∧T[n1]?=some (.lst ((hb.set k.toNat ((gt hb k).1,p)).map frD))∧dl'=[some (.ref bx),some (.ref pt),some (.int c'),some (.int g),some (.ref mb),some (.int (hn:Int)),o6,some (.ref m),some (.int k),some (.int (gt hb k).1),some (.int (gt hb k).2),some (.int p),some (.ref n1),o13]) (λnx hx=>?_) ?_
    ·refine zdO (o:=.lst (hb.map frD)) (zaU hm rfl) ?_
     refine zj0 (S1:=S2++[.lst (hb.map frD)]) (n:=S2.length) (k:=k) (v:=frD ((gt hb k).1,p)) (xs:=hb.map frD) (λK hK=>by exact hK) (λK hK=>by exact hK) (λK hK=>by exact hK) (zaw _ _) ix ?_
     rw[zdf,← List.map_set]
     exact hx _ _ ⟨S2.length,zbK _,Vaa _,zaw _ _,rfl⟩
    rintro dl' T1 ⟨n1,p1,ln1,u1,rfl⟩
    refine zlF (λdl' T=>∃n2:Nat,Pre T1 T∧T1.length≤n2∧T[n2]?=some (.lst ((hb.set k.toNat (p,(gt hb k).2)).map frD))∧dl'=[some (.ref bx),some (.ref pt),some (.int c'),some (.int g),some (.ref mb),some (.int (hn:Int)),o6,some (.ref m),some (.int k),some (.int (gt hb k).1),some (.int (gt hb k).2),some (.int p),some (.ref n1),some (.ref n2)]) (λnx hx=>?_) ?_
    ·refine zdO (o:=.lst (hb.map frD)) (zaU (p1 _ _ hm) rfl) ?_
     refine zj0 (S1:=T1++[.lst (hb.map frD)]) (n:=T1.length) (k:=k) (v:=frD (p,(gt hb k).2)) (xs:=hb.map frD) (λK hK=>by exact hK) (λK hK=>by exact hK) (λK hK=>by exact hK) (zaw _ _) ix ?_
     rw[zdf,← List.map_set]
     exact hx _ _ ⟨T1.length,zbK _,Vaa _,zaw _ _,rfl⟩
    rintro dl' T2 ⟨n2,p2',ln2,u2,rfl⟩
    have p2:Pre S2 T2:=λx o e=>p2' x o (p1 x o e)
    have u1:=p2' _ _ u1
    have hM2:=p2 _ _ hM
    have hm2:=p2 _ _ hm
    have lde:ds.length=es.length:=en.1
    obtain⟨s1,s2⟩:=tr.step ik (by omega) plo phi
    obtain⟨es',ees⟩:∃es',es.set hn (hb,.cut k p es.length (es.length+1))++[(hb.set k.toNat ((gt hb k).1,p),.waits)]++[(hb.set k.toNat (p,(gt hb k).2),.waits)]=es':=⟨_,rfl⟩
    have les:es'.length=es.length+2:=by rw[← ees]; simp
    have lm1:(S2:Sto).length≤T1.length:=by
     have:=zaV (p1 _ _ hM)
     have:=zaV u1
     exact zu0 p1
    refine za9 (λdl' T=>T=T2.set mb (.lst (ds.set hn (.tup [.ref m,.tup [.str "cut",.int k,.int p,.int ((es.length:Nat):Int),.int ((es.length+1:Nat):Int)]])))∧dl'=[some (.ref bx),some (.ref pt),some (.int c'),some (.int g),some (.ref mb),some (.int (hn:Int)),o6,some (.ref m),some (.int k),some (.int (gt hb k).1),some (.int (gt hb k).2),some (.int p),some (.ref n1),some (.ref n2)]) (λnx hx=>?_) ?_
    ·refine zj0 (S1:=T2) (n:=mb) (k:=(hn:Int)) (v:=D.tup [.ref m,.tup [.str "cut",.int k,.int p,.int ((es.length:Nat):Int),.int ((es.length+1:Nat):Int)]]) (xs:=ds) (λK hK=>?_) (λK hK=>by exact hK) (λK hK=>by exact hK) hM2 ixh ?_
     ·refine za7 hM2 ?_
      refine za7 hM2 ?_
      rw[lde]
      exact hK
     ·exact hx _ _ ⟨rfl,rfl⟩
    rintro dl' T3 ⟨rfl,rfl⟩
    refine zlF (λdl' T=>(∃ds':List D,T[mb]?=some (.lst ds')∧zba T ds' es')∧Pre S T∧dl'=[some (.ref bx),some (.ref pt),some (.int c'),some (.int g),some (.ref mb),some (.int (hn:Int)),o6,some (.ref m),some (.int k),some (.int (gt hb k).1),some (.int (gt hb k).2),some (.int p),some (.ref n1),some (.ref n2)]) (λnx hx=>?_) ?_
    ·refine zb1 (n:=mb) (S1:=T2.set mb (.lst (ds.set hn (.tup [.ref m,.tup [.str "cut",.int k,.int p,.int ((es.length:Nat):Int),.int ((es.length+1:Nat):Int)]])))) (xs:=ds.set hn (.tup [.ref m,.tup [.str "cut",.int k,.int p,.int ((es.length:Nat):Int),.int ((es.length+1:Nat):Int)]])) (y:=.tup [.ref n1,.tup [.str "waits"]]) (λK hK=>by exact hK) (zbj hM2) (λK hK=>by exact hK) (by rw[VaK]; omega) ?_
     refine zb1 (n:=mb) (xs:=ds.set hn (.tup [.ref m,.tup [.str "cut",.int k,.int p,.int ((es.length:Nat):Int),.int ((es.length+1:Nat):Int)]])++[.tup [.ref n1,.tup [.str "waits"]]]) (y:=.tup [.ref n2,.tup [.str "waits"]]) (λK hK=>by exact hK) (zbj (zbj hM2)) (λK hK=>by exact hK) (by rw[Vad,VaK]; show _+1<1000; omega) ?_
     rw[List.set_set,List.set_set]
     have kp:∀(x:Nat) (o:Ob),x≠mb→S2[x]?=some o→(T2.set mb (.lst (ds.set hn (.tup [.ref m,.tup [.str "cut",.int k,.int p,.int ((es.length:Nat):Int),.int ((es.length+1:Nat):Int)]])++[.tup [.ref n1,.tup [.str "waits"]]]++[.tup [.ref n2,.tup [.str "waits"]]])))[x]?=some o:=λx o nx e=>za5 (p2 x o e) (Ne.symm nx)
     have e1:=zba.keep hM en kp
     refine hx _ _ ⟨⟨_,zbj hM2,?_⟩,λx o e=>kp x o (by have:=zaV e; omega) (pr x o e),rfl⟩
     rw[← ees]
     refine((e1.set (n:=hn) (e:=(hb,.cut k p es.length (es.length+1))) ⟨m,_,rfl,kp _ _ nmM hm,rfl⟩).snoc (e:=(hb.set k.toNat ((gt hb k).1,p),.waits)) ⟨n1,_,rfl,za5 u1 (by omega),rfl⟩).snoc (e:=(hb.set k.toNat (p,(gt hb k).2),.waits)) ⟨n2,_,rfl,za5 u2 (by omega),rfl⟩
    rintro dl' T4 ⟨⟨ds',h4,en4⟩,pr4,rfl⟩
    rw[ees] at s1 s2
    have ld4:ds'.length=es.length+2:=by rw[en4.1,les]
    refine za9 (λdl' T=>T=T4∧dl'=[some (.ref bx),some (.ref pt),some (.int c'),some (.int g),some (.ref mb),some (.int ((es.length:Nat):Int)),o6,some (.ref m),some (.int k),some (.int (gt hb k).1),some (.int (gt hb k).2),some (.int p),some (.ref n1),some (.ref n2)]) (λnx hx=>?_) ?_
    ·refine za7 h4 ?_
     rw[ld4]
     exact hx _ _ ⟨rfl,by rw[show ((es.length:Nat):Int)=((es.length+2:Nat):Int)-2 by omega]; rfl⟩
    rintro dl' T5 ⟨rfl,rfl⟩
    have kP:inR P.length k:=by rw[← lbp]; exact rk
    have sP:Sz 51 p:=zuM sk.2.1 sk.2.2 (by omega) (by omega)
    have sg:Sz 21 g:=Sz.of (10^6) (by omega)
    have lhP:hb.length=P.length:=by omega
    refine zaz (o:=.lst (P.map frD)) (pr4 _ _ hpt) (zd7 kP) ?_
    refine⟨zaY (m:=110) (n:=21) pk.2.1 sg,?_⟩
    refine zaz (o:=.lst (P.map frD)) (pr4 _ _ hpt) (zd7 kP) ?_
    refine⟨zaY (m:=51) (n:=110) sP pk.2.2,?_⟩
    refine ifD (λcg=>?_) (λcg=>?_)
    ·refine za7 h4 ?_
     rw[ld4]
     exact⟨by omega,es',es.length+1,_,ds',_,pr4,h4,en4,s2,by omega,sh.set1 ⟨by dsimp only; omega,sP,sk.2.2⟩,ih.set lhP ik ⟨by dsimp only; omega,e7.2⟩,_,_,_,_,_,_,_,_,by rw[show ((es.length+1:Nat):Int)=((es.length+2:Nat):Int)-1 by omega]; rfl⟩
    ·exact⟨by omega,es',es.length,_,ds',_,pr4,h4,en4,s1,by omega,sh.set1 ⟨by dsimp only; omega,sk.2.1,sP⟩,ih.set lhP ik ⟨e7.1,by dsimp only; omega⟩,_,_,_,_,_,_,_,_,rfl⟩
   ·have em:t≤2:=t2
    exact h _ _ es hn hb pr (by rw[sl]; omega) ⟨ds,hM,en⟩ tr (by omega) sh ih
  ·exact h.elim⟩)
def zp6  (zi8:Df K mg "all_as_long" zgi zf1)(zbv:mg "all"=none)(zav:mg "len"=none):Fk P w K mg base 1 "all_as_long" zf1 zfp:=
 zi8.mk' (zdH (zaC (k:=0) zi8.F zqL (zdz (zuS)) λcdv A outer s H E hr=>⟨_,(zag (zai (zaM (zaI (zjm rfl)) rfl zbv Boot.«all» (zaa (ziy (x:="each") (N:=["many"]) (caps:=[1]) (ar:=zak zgi) rfl rfl csc rfl (by decide) (dv 0) (λ_ _ _ _ _ _=>zcu) (λ_ _ _ _ _ _=>(zbf (zaP hr) (zaM (zaI za1) rfl zav Boot.«len» (zaa (dv 0) zad)) (dv 1) (zax _)))) zad)))),λds S Q ex h=>by
  obtain⟨Q0,ex0,rfl,rfl,h⟩:=h
  unfold zfp at h
  split at h
  ·rename_i l m
   obtain⟨R,ds,hd,rows,l9,h⟩:=h
   refine znQ (n:=l) (S1:=S) (o:=.lst ds) (λk d=>∃r,R[k]?=some r∧d=.bl (decide (((r.length:Nat):Int)=m))) (λK hK=>by exact hK) hd (by show ds.length≤1000; rw[rows.1]; omega) (λk x hx S2 K pr hK=>?_) (λxs lx hx=>?_)
   ·have hx':ds[k]?=some x:=hx
    have hk:k<R.length:=by
     have:=(Vab.mp hx').1
     rw[rows.1] at this
     exact this
    obtain⟨a,rfl,_,ha⟩:=rows.2 k x _ hx' (Vae hk)
    refine za7 (pr _ _ ha) ?_
    rw[Vac]
    exact hK _ ⟨_,Vae hk,rfl⟩
   ·have lx':xs.length=R.length:=by rw[lx]; exact rows.1
    have e:xs=(R.map λr=>decide (((r.length:Nat):Int)=m)).map D.bl:=by
     refine List.ext_getElem? λk=>?_
     by_cases hk:k<xs.length
     ·obtain⟨r,hr,e⟩:=hx k _ (Vae hk)
      rw[Vae hk,Vag,Vag,hr,e]
      rfl
     ·rw[List.getElem?_eq_none (by omega),List.getElem?_eq_none (by simp; omega)]
    subst e
    refine zmh (n:=S.length) (o:=.lst _) (zaw _ _) (zrX _) ?_
    exact⟨Pre.refl.push,.bl _,h⟩
  ·exact h.elim⟩))
def zsD  (zjM:Df K mg "parts_of" zh3 zf7):Fk P w K mg base 1 "parts_of" zf7 zg1:=
 zjM.mk' (zaC (k:=0) zjM.F zk6 (zsj) λcdv A outer s H E hr=>⟨_,(zae (zah (i:=1) zk6.nd rfl (Or.inl rfl) (zbl zad)) (zae (zoP (i:=2) PassesOwn.never rfl zk6.nd rfl (Or.inl rfl) (dv 0) (zae (zah (i:=3) zk6.nd rfl (Or.inl rfl) (zaf (dv 2) zab (λ_ _=>rfl))) (zag (zaD (zaJ (zaP hr) (zaf (dv 3) zab (λ_ _=>rfl)) zaR (zax _)) (zae (zbh (zbx (dv 1) (zaf (dv 3) zab (λ_ _=>rfl)))) (zag (zbh (zbx (dv 1) (zaf (dv 3) zab (λ_ _=>rfl)))))) zaF)))) (zag (zai (dv 1))))),λds S Q ex h=>by
  unfold zg1 at h
  split at h
  ·rename_i b
   obtain⟨es,⟨ds,hd,en⟩,l,h⟩:=h
   have pl:∀es:List En,(zaO es).length≤2*es.length:=λes=>by
    induction es with
    | nil=>exact Vaa _
    | cons e es ih=>
     obtain⟨x,f⟩:=e
     cases f <;> simp only[zaO,Vap] <;> omega
   refine zoc (n:=b) (o:=.lst ds) (λk dl' S'=>S'=S++[.lst ((zaO (es.take k)).map wtD)]∧∃o2 o3:Option D,dl'=[some (.ref b),some (.ref S.length),o2,o3]) ⟨rfl,_,_,rfl⟩ (λk dl' S' w=>by rw[w.1]; exact zal hd) ?_ ?_
   ·rintro k x dl' S' nx ct hx ⟨rfl,o2,o3,rfl⟩ hn
    have hx':ds[k]?=some x:=hx
    have hk:k<es.length:=by rw[← en.1]; exact(Vab.mp hx').1
    have he:=Vae hk
    obtain⟨m,f,rfl,hm,hf⟩:=en.2 k x _ hx' he
    have tk:es.take (k+1)=es.take k++[es[k]]:=by rw[Va8,he]; rfl
    have pe:=znj (es.take k) es[k]
    rw[← tk] at pe
    have lp:=pl (es.take k)
    rw[Vaw] at lp
    generalize es[k]=e at hf pe
    obtain⟨bx,fa⟩:=e
    cases fa with
    | cut k' p a c=>
     have hf':f=.tup [.str "cut",.int k',.int p,.int (a:Int),.int (c:Int)]:=hf
     subst hf'
     refine zb1 (n:=S.length) (S1:=S++[.lst ((zaO (es.take k)).map wtD)]) (xs:=(zaO (es.take k)).map wtD) (y:=wtD a) (λK hK=>by exact hK) (zaw _ _) (λK hK=>by exact hK) (by rw[Vac]; omega) ?_
     rw[zdf]
     refine zb1 (n:=S.length) (S1:=S++[.lst ((zaO (es.take k)).map wtD++[wtD a])]) (xs:=(zaO (es.take k)).map wtD++[wtD a]) (y:=wtD c) (λK hK=>by exact hK) (zaw _ _) (λK hK=>by exact hK) (by rw[Vad,Vac]; show _+1<1000; omega) ?_
     rw[zdf]
     refine hn _ _ ⟨?_,_,_,rfl⟩
     rw[pe,Vav,Vat]
     rfl
    | out r vs=>
     obtain⟨m2,rfl,_⟩:=(hf:∃m,f=.tup [.str "out",.int r,.ref m]∧_)
     refine hn _ _ ⟨?_,_,_,rfl⟩
     rw[pe,Vai]
    | full vs=>
     obtain⟨m2,rfl,_⟩:=(hf:∃m,f=.tup [.str "full",.ref m]∧_)
     refine hn _ _ ⟨?_,_,_,rfl⟩
     rw[pe,Vai]
    | waits=>
     have hf':f=.tup [.str "waits"]:=hf
     subst hf'
     refine hn _ _ ⟨?_,_,_,rfl⟩
     rw[pe,Vai]
   ·rintro dl' S' ⟨rfl,o2,o3,rfl⟩
    have e:es.take (zaj (.lst ds)).length=es:=Va1 (by show es.length≤ds.length; rw[en.1]; exact Vaa _)
    rw[e]
    exact h
  ·exact h.elim⟩)
def zrL  (zh1:Df K mg "is_whole_tree" zgl zg8)(zmc:Fk P w K mg base 1 "parts_of" zf7 zg1)(zlK:Fk P w K mg base 1 "all_as_long" zf1 zfp)(zbP:mg "sorted"=none)(zbg:mg "list"=none)(zaN:mg "range"=none)(zav:mg "len"=none):Fk P w K mg base 2 "is_whole_tree" zg8 zeX:=
 zh1.mk' (zaC (k:=1) zh1.F zu9 (zpc) λcdv A outer s H E hr=>⟨_,(zae (zaD (PDW.pt (zko (zaJ (zaP hr) (zaM (zaI za1) rfl zav Boot.«len» (zaa (dv 1) zad)) zab (zax _)) (zko (zaJ (zrN hr) (zaf (zaB (dv 1) zab (λ_ _=>rfl)) zab (λ_ _=>rfl)) (dv 0) (zax _)) (znz (zcQ (zbI (zam zlK hr (zaa (ziy (x:="entry") (N:=[]) (caps:=[]) (ar:=zak zgl) rfl rfl csc rfl (by decide) (dv 1) (λ_ _ _ _ _ _=>zcu) (λ_ _ _ _ _ _=>(zaf (dv 0) zab (λ_ _=>rfl)))) (zaa (zaM (zaI za1) rfl zav Boot.«len» (zaa (dv 0) zad)) zad))))))))) (zag (zai zcW)) zaF) (zag (zai (zbf (zmg hr) (zaM (zaI zl2) rfl zbP Boot.«sorted» (zaa (zam zmc hr (zaa (dv 1) zad)) zad)) (zp9 rfl rfl zbg Boot.«list» rfl zaN (zaa zab (zaa (zaM (zaI za1) rfl zav Boot.«len» (zaa (dv 1) zad)) zad))) (zax _))))),λds S Q ex h=>by
  unfold zeX at h
  split at h
  ·rename_i bx b
   obtain⟨bs,es,hb,bk,⟨l1,l30⟩,⟨f0,h0⟩,hl,hp,h⟩:=h
   obtain⟨ds,hd,en⟩:=id bk
   have ld:ds.length=es.length:=en.1
   refine za7 hd ?_
   refine ifD (λe=>absurd e (by omega)) (λ_=>?_)
   obtain⟨d0,e0,m0,f,rfl,hm,_⟩:=en.get h0
   refine zaz (o:=.lst ds) hd (d:=.tup [.ref m0,f]) (zcM e0) ?_
   refine zrT (xs:=bs.map frD) (ys:=bs.map frD) hm hb (b:=true) (zhj _) ?_
   refine zeL (n:=b) (S1:=S) (o:=.lst ds) zj8 (λK hK=>by exact hK) hd (by show ds.length≤1000; omega) (λx hx S2 K p2 hK=>?_) ?_
   ·obtain⟨k,hk,ek⟩:=List.getElem_of_mem (show x∈ds from hx)
    have hk':k<es.length:=by omega
    obtain⟨m,f,rfl,_⟩:=en.2 k x _ (by rw[Vae hk,ek]) (Vae hk')
    exact hK
   refine za7 (zal hb) ?_
   rw[Vac]
   refine⟨es.map (·.1),ds.map zj8,zaw _ _,en.rows.pre (zbK _),by rw[Vac]; omega,?_⟩
   have ea:((es.map (·.1)).map λr=>decide (((r.length:Nat):Int)=((bs.length:Nat):Int))).all id=true:=by
    rw[List.all_eq_true]
    intro x hx
    obtain⟨r,hr,rfl⟩:=Va4.mp hx
    obtain⟨e,he,rfl⟩:=Va4.mp hr
    exact decide_eq_true (by rw[hl e he])
   rw[ea]
   refine⟨es,bk.pre (zbK _),by omega,?_⟩
   refine zlJ (o:=.lst ((zaO es).map wtD)) (ns:=(zaO es).map λ(n:Nat)=>(n:Int)) (zaU (zaw _ _) rfl) (zpp _) (by rw[Vac,hp,Vac,Vba]; omega) λms pm sm=>?_
   have em:ms=(zaO es).map λ(n:Nat)=>(n:Int):=zuY pm sm (by
    rw[hp,List.map_map,List.pairwise_map]
    refine List.Pairwise.imp ?_ List.pairwise_lt_range
    intro a c hac
    show ((a+1:Nat):Int)≤((c+1:Nat):Int)
    omega)
   subst em
   refine zqP (i:=1) (j:=((es.length:Nat):Int)) (S1:=S++[.lst (ds.map zj8)]++[.lst ((zaO es).map wtD)]++[.lst (((zaO es).map λ(n:Nat)=>(n:Int)).map D.int)]) (λK hK=>?_) ⟨by decide,by omega,by omega⟩ ?_
   ·refine za7 (zal (zal (zal hd))) ?_
    rw[ld]
    exact hK
   refine zlX (xs:=(zaO es).map wtD) (ys:=(zaO es).map wtD) (zal ?_) ?_ (b:=true) (znh _) ?_
   ·rw[List.map_map]
    exact zaw _ _
   ·have e2:((List.range (((es.length:Nat):Int)-1).toNat).map λ(k:Nat)=>D.int (1+(k:Int)))=(zaO es).map wtD:=by
     rw[hp,List.map_map,show (((es.length:Nat):Int)-1).toNat=es.length-1 by omega]
     refine List.map_congr_left λk _=>?_
     show D.int (1+(k:Int))=D.int ((k+1:Nat):Int)
     congr 1
     omega
    rw[e2]
    exact zaw _ _
   ·exact h _ (zeq (zeq (zeq (zbK _))))
  ·exact h.elim⟩)
def zqt  (zjO:Df K mg "deep" zkZ zgb):Fk P w K mg base 1 "deep" zgb zeV:=
 zjO.mk' (zaC (k:=0) zjO.F ztr (zvJ) λcdv A outer s H E hr=>⟨_,(zag (zai (zcs (zbf zbR (zaf (dv 1) zab (λ_ _=>rfl)) (zaf (dv 0) zab (λ_ _=>rfl)) (zax _)) (zcG (zbf zbR (zaf (dv 0) zab (λ_ _=>rfl)) (zaf (dv 1) zab (λ_ _=>rfl)) (zax _)))))),λds S Q ex h=>by
  unfold zeV at h
  split at h
  ·refine ifD (λe=>?_) (λe=>?_)
   ·rw[decide_eq_true e,Bool.true_and] at h
    exact h
   ·rw[decide_eq_false e,Bool.false_and] at h
    exact h
  ·exact h.elim⟩)
def zuZ  (zkw:Df K mg "with_span" zj6 zfb):Fk P w K mg base 1 "with_span" zfb zfH:=
 zkw.mk' (zaC (k:=0) zkw.F zp4 (zqy) λcdv A outer s H E hr=>⟨_,(zag (zai (zac zoM (zac zoM (zmX (dv 0) zmJ (zmj (dv 1))) (zbl (zaa (dv 2) zad))) (zmX (dv 0) (zmj (zac zaH (dv 1) zab)) zmJ)))),λds S Q ex h=>by
  unfold zfH at h
  split at h
  ·rename_i b k d
   obtain⟨bs,p,hb,⟨k0,k1⟩,l4,rfl,h⟩:=h
   obtain⟨kn,rfl⟩:∃kn:Nat,k=(kn:Int):=⟨k.toNat,by omega⟩
   rw[Vaj] at h
   have c1:=zoB (α:=Nat) (xs:=bs.map frD) (lo:=none) (hi:=some (kn:Int))
   have c2:=zoB (α:=Nat) (xs:=bs.map frD) (lo:=some ((kn:Int)+1)) (hi:=none)
   rw[Vac] at c1 c2
   refine zls (n:=b) (o:=.lst (bs.map frD)) (lo:=none) (hi:=some (kn:Int)) (S3:=S) (λK hK=>by exact hK) (λK hK=>by exact hK) (λK hK=>by exact hK) hb ?_
   rw[show zaj (Ob.lst (bs.map frD))=bs.map frD from rfl]
   refine zor (n:=S.length) (m:=(S++[Ob.lst (za8 (bs.map frD) none (some (kn:Int)))]).length) (xs:=za8 (bs.map frD) none (some (kn:Int))) (ys:=[frD p]) (zal (zaw _ _)) (zaw _ _) (by show (za8 (bs.map frD) none (some (kn:Int))).length+1≤1000; omega) ?_
   refine zls (n:=b) (o:=.lst (bs.map frD)) (lo:=some ((kn:Int)+1)) (hi:=none) (S3:=S++[Ob.lst (za8 (bs.map frD) none (some (kn:Int)))]++[Ob.lst [frD p]]++[Ob.lst (za8 (bs.map frD) none (some (kn:Int))++[frD p])]) (λK hK=>by exact hK) (λK hK=>by exact hK) (λK hK=>by exact hK) (zal (zal (zal hb))) ?_
   rw[show zaj (Ob.lst (bs.map frD))=bs.map frD from rfl]
   refine zor (xs:=za8 (bs.map frD) none (some (kn:Int))++[frD p]) (ys:=za8 (bs.map frD) (some ((kn:Int)+1)) none) (zal (zaw _ _)) (zaw _ _) (by rw[Vad]; show (za8 (bs.map frD) none (some (kn:Int))).length+1+_≤1000; omega) ?_
   rw[zt3 (α:=Nat) (by omega)]
   refine h _ _ ?_ ?_ (zaw _ _)
   ·exact λn o e=>zal (zal (zal (zal (zal e))))
   ·simp only[Vad]
    omega
  ·exact h.elim⟩)
def zrs  (zjK:Df K mg "right_cut" zjW zgC)(zju:Fk P w K mg base 1 "with_span" zfb zfH)(zmm:Fk P w K mg base 1 "deep" zgb zeV)(zby:mg "min"=none)(zav:mg "len"=none):Fk P w K mg base 2 "right_cut" zgC zgA:=
 zjK.mk' (zaC (k:=1) zjK.F zcO (zu8) λcdv A outer s H E hr=>⟨_,(zae (zah (i:=2) zcO.nd rfl (Or.inl rfl) (zaf (zaB (dv 0) (dv 1) (λ_ _=>rfl)) zab (λ_ _=>rfl))) (zae (zah (i:=3) zcO.nd rfl (Or.inl rfl) (zaf (zaB (dv 0) (dv 1) (λ_ _=>rfl)) zab (λ_ _=>rfl))) (zae (zah (i:=4) zcO.nd rfl (Or.inl rfl) (zaf (dv 3) zab (λ_ _=>rfl))) (zae (zah (i:=5) zcO.nd rfl (Or.inl rfl) (zaf (dv 3) zab (λ_ _=>rfl))) (zae (zah (i:=6) zcO.nd rfl (Or.inl rfl) (zaf (dv 3) zab (λ_ _=>rfl))) (zae (zah (i:=7) zcO.nd rfl (Or.inl rfl) (zaf (dv 3) zab (λ_ _=>rfl))) (zae (zaD (PDW.pt (zko (zcQ (zkQ zdB zbR zab (dv 4) (zaM (zaI za1) rfl zav Boot.«len» (zaa (dv 2) zad)))) (zko (zcQ (zbI (zam zmm hr (zaa (zaE (zaa (dv 5) (zaa (dv 5) zad))) (zaa (zaB (dv 2) (dv 4) (λ_ _=>rfl)) zad))))) (znz (zaJ zdB (zaM (zhI rfl) rfl zby Boot.«min» (zaa (dv 6) (zaa (dv 7) zad))) (dv 1) (zax _)))))) (zag (zai zcW)) zaF) (zae (zah (i:=8) zcO.nd rfl (Or.inl rfl) (zam zju hr (zaa (dv 2) (zaa (dv 4) (zaa (zaE (zaa (zaf (zaB (dv 2) (dv 4) (λ_ _=>rfl)) zab (λ_ _=>rfl)) (zaa (dv 5) zad))) zad))))) (zae (zah (i:=9) zcO.nd rfl (Or.inl rfl) (zam zju hr (zaa (dv 2) (zaa (dv 4) (zaa (zaE (zaa (dv 5) (zaa (zaf (zaB (dv 2) (dv 4) (λ_ _=>rfl)) zab (λ_ _=>rfl)) zad))) zad))))) (zag (zai (zcs (zbf (zmg hr) (zaf (zaB (dv 0) (dv 6) (λ_ _=>rfl)) zab (λ_ _=>rfl)) (dv 8) (zax _)) (zcG (zbf (zmg hr) (zaf (zaB (dv 0) (dv 7) (λ_ _=>rfl)) zab (λ_ _=>rfl)) (dv 9) (zax _))))))))))))))),λds S Q ex h=>by
  unfold zgA at h
  split at h
  ·rename_i b n
   obtain⟨es,nn,bs,k,p,a,c,bk,rfl,he,ck,h⟩:=h
   obtain⟨ds,hd,en⟩:=id bk
   obtain⟨d,ed,m,f,rfl,hm,hf⟩:=en.get he
   have hf':f=.tup [.str "cut",.int k,.int p,.int (a:Int),.int (c:Int)]:=hf
   subst hf'
   have hi:=ck.hk
   have hlo:=ck.lo
   have hhi:=ck.hi
   have na:=ck.na
   have nb:=ck.nb
   refine zaz (o:=.lst ds) hd (d:=.tup [.ref m,.tup [.str "cut",.int k,.int p,.int (a:Int),.int (c:Int)]]) (zcM ed) ?_
   refine zaz (o:=.lst ds) hd (d:=.tup [.ref m,.tup [.str "cut",.int k,.int p,.int (a:Int),.int (c:Int)]]) (zcM ed) ?_
   refine ifD (λ_=>?_) (λe=>absurd hi.1 e)
   refine za7 hm ?_
   rw[Vac]
   refine ifN (λe=>absurd hi.2 e) (λ_=>?_)
   refine zaz (o:=.lst (bs.map frD)) hm (zd7 hi) ?_
   refine ifNA hlo hhi ?_
   refine ifD (λe=>absurd e (show ¬ ((if (c:Int)<(a:Int) then (c:Int) else (a:Int))≤(nn:Int)) by split <;> omega)) (λ_=>?_)
   refine zaz (o:=.lst (bs.map frD)) hm (zd7 hi) ?_
   refine⟨bs,((gt bs k).1,p),hm,hi,ck.hl,rfl,λT1 m1 p1 l1 e1=>?_⟩
   refine zaz (o:=.lst (bs.map frD)) (p1 _ _ hm) (zd7 hi) ?_
   refine⟨bs,(p,(gt bs k).2),p1 _ _ hm,hi,ck.hl,rfl,λT2 m2 p2 l2 e2=>?_⟩
   obtain⟨fa,ea⟩:=ck.ea
   obtain⟨fb,eb⟩:=ck.eb
   obtain⟨da,ha,ma,ffa,rfl,hma,_⟩:=en.get ea
   obtain⟨db,hb,mb,ffb,rfl,hmb,_⟩:=en.get eb
   refine zaz (o:=.lst ds) (p2 _ _ (p1 _ _ hd)) (zcM ha) ?_
   refine zlX (xs:=(bs.set k.toNat ((gt bs k).1,p)).map frD) (ys:=(bs.set k.toNat ((gt bs k).1,p)).map frD) (p2 _ _ (p1 _ _ hma)) (p2 _ _ e1) (b:=true) (zhj _) ?_
   refine zaz (o:=.lst ds) (p2 _ _ (p1 _ _ hd)) (zcM hb) ?_
   refine zlX (xs:=(bs.set k.toNat (p,(gt bs k).2)).map frD) (ys:=(bs.set k.toNat (p,(gt bs k).2)).map frD) (p2 _ _ (p1 _ _ hmb)) e2 (b:=true) (zhj _) ?_
   exact h _ (λx o e=>p2 x o (p1 x o e))
  ·exact h.elim⟩)
def zqN  (zjG:Df K mg "inside" zji zfP):Fk P w K mg base 1 "inside" zfP zgv:=
 zjG.mk' (zaC (k:=0) zjG.F zuc (zpS) λcdv A outer s H E hr=>⟨_,(zag (zai (zcs (zbf zdB (zaf (dv 1) zab (λ_ _=>rfl)) (zaf (dv 0) zab (λ_ _=>rfl)) (zax _)) (zcG (zbf zdB (zaf (dv 0) zab (λ_ _=>rfl)) (zaf (dv 1) zab (λ_ _=>rfl)) (zax _)))))),λds S Q ex h=>by
  unfold zgv at h
  split at h
  ·refine ifD (λe=>?_) (λe=>?_)
   ·rw[decide_eq_true e,Bool.true_and] at h
    exact h
   ·rw[decide_eq_false e,Bool.false_and] at h
    exact h
  ·exact h.elim⟩)
def zpC  (zhL:Df K mg "all_inside" ze7 zfJ)(zlB:Fk P w K mg base 1 "inside" zfP zgv)(zbv:mg "all"=none)(zdk:mg "zip"=none):Fk P w K mg base 2 "all_inside" zfJ zfO:=
 zhL.mk' (zdH (zaC (k:=1) zhL.F zsR (zdz (zvH)) λcdv A outer s H E hr=>⟨_,(zag (zai (zaM (zaI (zjm rfl)) rfl zbv Boot.«all» (zaa (zqa (x1:="one") (x2:="other") (N:=[]) (caps:=[]) (ar:=zak ze7) rfl rfl cscG rfl rfl rfl (by decide) rfl zdk Boot.«zip» (zaa (dv 0) (zaa (dv 1) zad)) (λ_ _ _ _ _ _=>(zam zlB hr (zaa (dv 0) (zaa (dv 1) zad))))) zad)))),λds S Q ex h=>by
  obtain⟨Q0,ex0,rfl,rfl,h⟩:=h
  unfold zfO at h
  split at h
  ·rename_i m n
   obtain⟨us,vs,h1,h2,hl,h⟩:=h
   refine zp8 (n:=m) (n':=n) (S1:=S) (xs:=us.map frD) (ys:=vs.map frD) (λx y=>match x,y with | .tup [.int a,.int b],.tup [.int c,.int d]=>.bl (decide (c≤a)&&decide (b≤d)) | _,_=>.non) (λK hK=>by exact hK) h1 h2 (by rw[Vac]; exact hl) (λk x y hx hy S2 K pr hK=>?_) ?_
   ·obtain⟨p,_,rfl⟩:=Va4.mp (Val hx)
    obtain⟨q,_,rfl⟩:=Va4.mp (Val hy)
    exact hK
   ·refine zmh (n:=S.length) (o:=.lst _) (bs:=List.zipWith zey us vs) (zaw _ _) (ztY us vs) ?_
    exact⟨Pre.refl.push,.bl _,h⟩
  ·exact h.elim⟩))
def zpE  (zkK:Df K mg "less" zkk zgw):Fk P w K mg base 1 "less" zgw zhb:=
 zkK.mk' (zaC (k:=0) zkK.F zpz (zqF) λcdv A outer s H E hr=>⟨_,(zag (zai (zbf zbR (zac zaS (zaf (dv 0) zab (λ_ _=>rfl)) (zaf (dv 1) zab (λ_ _=>rfl))) (zac zaS (zaf (dv 1) zab (λ_ _=>rfl)) (zaf (dv 0) zab (λ_ _=>rfl))) (zax _)))),λds S Q ex h=>by
  unfold zhb at h
  split at h
  ·obtain⟨⟨h1,h2⟩,h⟩:=h
   exact⟨h1,h2,h⟩
  ·exact h.elim⟩)
def ztq  (zid:Df K mg "rounded_up" ziX zdv):Fk P w K mg base 1 "rounded_up" zdv zdI:=
 zid.mk' (zaC (k:=0) zid.F ztx (zrl) λcdv A outer s H E hr=>⟨_,(zag (zai (zb2 zca (zac zbr (zb2 zca (dv 0)) (dv 1))))),λds S Q ex h=>by
  unfold zdI at h
  split at h
  ·exact h
  ·exact h.elim⟩)
def zvq  (zjD:Df K mg "span_of" zld zeQ)(zcY:Fk P w K mg base 1 "rounded_up" zdv zdI)(zmW:Fk P w K mg base 1 "less" zgw zhb):Fk P w K mg base 2 "span_of" zeQ zfi:=
 zjD.mk' (zaC (k:=1) zjD.F zsq (zum) λcdv A outer s H E hr=>⟨_,(zae (zaD (zbI (zam zmW hr (zaa (dv 1) (zaa (dv 0) zad)))) (zag zqg) zaF) (zag (zai (zaE (zaa (zac zbr (zac zaS (zaf (dv 0) zab (λ_ _=>rfl)) (dv 2)) (zaf (dv 0) zab (λ_ _=>rfl))) (zaa (zam zcY hr (zaa (zac zaS (zaf (dv 1) zab (λ_ _=>rfl)) (dv 2)) (zaa (zaf (dv 1) zab (λ_ _=>rfl)) zad))) zad)))))),λds S Q ex h=>by
  unfold zfi at h
  split at h
  ·obtain⟨⟨⟨m1,m2⟩,nl,m3,m4,f1,f2⟩,h⟩:=h
   refine⟨⟨m1,m2⟩,ifF (decide_eq_false nl) ?_⟩
   exact⟨m3,f1,m4,f2,h⟩
  ·exact h.elim⟩)
def zp5  (zat:zcI K mg)(zay:zcF K mg)(zar:zcB K mg)(zaq:zcE K mg)(zau:zcD K mg)(zas:zcL K mg)(zjV:Dm K zat.C "forth" "Number.forth" zjE zf2)(zll:Fk P w K mg base 2 "span_of" zeQ zfi):Fm P w K mg base 3 zat.C "forth" zf2 (zdX zat.C zay.C zar.C zaq.C zau.C zas.C):=
 zjV.mk' (zaC (k:=2) zjV.F zon (zpy zat.C zay.C zar.C zaq.C zau.C zas.C) λcdv A outer s H E hr=>⟨_,(zae (zah (i:=4) zon.nd rfl (Or.inl rfl) (zaE (zaa (zch zat.cl zat.n_top (dv 0)) (zaa (zch zat.cl zat.n_bottom (dv 0)) zad)))) (zag (zai (zam zll hr (zaa (dv 4) (zaa (dv 4) (zaa (dv 3) zad))))))),λds S Q ex h=>by
  unfold zdX at h
  split at h
  ·rename_i n w p g
   obtain⟨x,y,vs,bs,hn,hw,hp,ok,s1,hg,h⟩:=h
   have sg:Sz 21 g:=Sz.of 1000000 (by omega)
   have sx:Sz 31 x:=Sz.of (10^9) ok.2.2
   have sy:Sz 31 y:=Sz.of (10^9) (by have:=ok.1; omega)
   refine zcq (n:=n) (λK hK=>by exact hK) hn rfl ?_
   refine zcq (n:=n) (λK hK=>by exact hK) hn rfl ?_
   exact⟨⟨⟨zaY sx sy,zaY sx sy⟩,by omega,zaY sx sg,zaY sx sg,sy.fd (by have:=ok.1; omega),sy.fd (by have:=ok.1; omega)⟩,h⟩
  ·exact h.elim⟩)
def zqS  (zay:zcF K mg)(zat:zcI K mg)(zar:zcB K mg)(zaq:zcE K mg)(zau:zcD K mg)(zas:zcL K mg)(zja:Dm K zay.C "forth" "Unknown.forth" zle zfs):Fm P w K mg base 1 zay.C "forth" zfs (zeg zat.C zay.C zar.C zaq.C zau.C zas.C):=
 zja.mk' (zaC (k:=0) zja.F zqB (zst zat.C zay.C zar.C zaq.C zau.C zas.C) λcdv A outer s H E hr=>⟨_,(zag (zai (zaB (dv 2) (zch zay.cl zay.n_place (dv 0)) (λ_ _=>rfl)))),λds S Q ex h=>by
  unfold zeg at h
  split at h
  ·rename_i n w p g
   obtain⟨k,vs,bs,hn,hw,hp,ok,s1,hg,h⟩:=h
   refine zcq (n:=n) (λK hK=>by exact hK) hn rfl ?_
   exact zaz (o:=.lst (bs.map frD)) hp (zbn ok) h
  ·exact h.elim⟩)
def zvc  (zig:Df K mg "add_spans" zhM zeN):Fk P w K mg base 1 "add_spans" zeN zg5:=
 zig.mk' (zaC (k:=0) zig.F zsE (zre) λcdv A outer s H E hr=>⟨_,(zag (zai (zaE (zaa (zac zaH (zaf (dv 0) zab (λ_ _=>rfl)) (zaf (dv 1) zab (λ_ _=>rfl))) (zaa (zac zaH (zaf (dv 0) zab (λ_ _=>rfl)) (zaf (dv 1) zab (λ_ _=>rfl))) zad))))),λds S Q ex h=>by
  unfold zg5 at h
  split at h
  ·exact h
  ·exact h.elim⟩)
def ztZ  (zar:zcB K mg)(zat:zcI K mg)(zay:zcF K mg)(zaq:zcE K mg)(zau:zcD K mg)(zas:zcL K mg)(ziV:Dm K zar.C "forth" "Plus.forth" zib zfX)(zmu:Fk P w K mg base 1 "add_spans" zeN zg5):Fm P w K mg base 2 zar.C "forth" zfX (zee zat.C zay.C zar.C zaq.C zau.C zas.C):=
 ziV.mk' (zaC (k:=1) ziV.F zu4 (zuv zat.C zay.C zar.C zaq.C zau.C zas.C) λcdv A outer s H E hr=>⟨_,(zag (zai (zam zmu hr (zaa (zaB (dv 1) (zch zar.cl zar.n_one (dv 0)) (λ_ _=>rfl)) (zaa (zaB (dv 1) (zch zar.cl zar.n_other (dv 0)) (λ_ _=>rfl)) zad))))),λds S Q ex h=>by
  unfold zee at h
  split at h
  ·rename_i n w p g
   obtain⟨i,j,vs,bs,hn,hw,hp,ok,s1,hg,h⟩:=h
   refine zcq (n:=n) (λK hK=>by exact hK) hn rfl ?_
   refine zaz (o:=.lst (vs.map frD)) hw (zbn ok.1) ?_
   refine zcq (n:=n) (λK hK=>by exact hK) hn rfl ?_
   refine zaz (o:=.lst (vs.map frD)) hw (zbn ok.2) ?_
   exact h
  ·exact h.elim⟩)
def zru  (zk4:Df K mg "take_spans" ziY zfK):Fk P w K mg base 1 "take_spans" zfK zf0:=
 zk4.mk' (zaC (k:=0) zk4.F zqI (ztw) λcdv A outer s H E hr=>⟨_,(zag (zai (zaE (zaa (zac za0 (zaf (dv 0) zab (λ_ _=>rfl)) (zaf (dv 1) zab (λ_ _=>rfl))) (zaa (zac za0 (zaf (dv 0) zab (λ_ _=>rfl)) (zaf (dv 1) zab (λ_ _=>rfl))) zad))))),λds S Q ex h=>by
  unfold zf0 at h
  split at h
  ·exact h
  ·exact h.elim⟩)
def ztU  (zaq:zcE K mg)(zat:zcI K mg)(zay:zcF K mg)(zar:zcB K mg)(zau:zcD K mg)(zas:zcL K mg)(zkH:Dm K zaq.C "forth" "Minus.forth" zkI zgN)(zmY:Fk P w K mg base 1 "take_spans" zfK zf0):Fm P w K mg base 2 zaq.C "forth" zgN (zd2 zat.C zay.C zar.C zaq.C zau.C zas.C):=
 zkH.mk' (zaC (k:=1) zkH.F zvb (zvK zat.C zay.C zar.C zaq.C zau.C zas.C) λcdv A outer s H E hr=>⟨_,(zag (zai (zam zmY hr (zaa (zaB (dv 1) (zch zaq.cl zaq.n_one (dv 0)) (λ_ _=>rfl)) (zaa (zaB (dv 1) (zch zaq.cl zaq.n_other (dv 0)) (λ_ _=>rfl)) zad))))),λds S Q ex h=>by
  unfold zd2 at h
  split at h
  ·rename_i n w p g
   obtain⟨i,j,vs,bs,hn,hw,hp,ok,s1,hg,h⟩:=h
   refine zcq (n:=n) (λK hK=>by exact hK) hn rfl ?_
   refine zaz (o:=.lst (vs.map frD)) hw (zbn ok.1) ?_
   refine zcq (n:=n) (λK hK=>by exact hK) hn rfl ?_
   refine zaz (o:=.lst (vs.map frD)) hw (zbn ok.2) ?_
   exact h
  ·exact h.elim⟩)
def zr5  (zjb:Df K mg "mul_spans" zkE zfj)(zcY:Fk P w K mg base 1 "rounded_up" zdv zdI)(zbM:mg "max"=none)(zby:mg "min"=none):Fk P w K mg base 2 "mul_spans" zfj zfC:=
 zjb.mk' (zdH (zaC (k:=1) zjb.F zov (zdz (zs7)) λcdv A outer s H E hr=>⟨_,(zae (zah (i:=3) zov.nd rfl (Or.inl rfl) (zbl (zaa (zac zaS (zaf (dv 0) zab (λ_ _=>rfl)) (zaf (dv 1) zab (λ_ _=>rfl))) (zaa (zac zaS (zaf (dv 0) zab (λ_ _=>rfl)) (zaf (dv 1) zab (λ_ _=>rfl))) (zaa (zac zaS (zaf (dv 0) zab (λ_ _=>rfl)) (zaf (dv 1) zab (λ_ _=>rfl))) (zaa (zac zaS (zaf (dv 0) zab (λ_ _=>rfl)) (zaf (dv 1) zab (λ_ _=>rfl))) zad)))))) (zag (zai (zaE (zaa (zac zbr (zaM (zaI (zhI rfl)) rfl zby Boot.«min» (zaa (dv 3) zad)) (dv 2)) (zaa (zam zcY hr (zaa (zaM (zaI (zlz rfl)) rfl zbM Boot.«max» (zaa (dv 3) zad)) (zaa (dv 2) zad))) zad)))))),λds S Q ex h=>by
  obtain⟨Q0,ex0,rfl,rfl,h⟩:=h
  unfold zfC at h
  split at h
  ·rename_i a b c d g
   obtain⟨⟨⟨m1,m2,m3,m4⟩,hg⟩,h⟩:=h
   refine⟨m1,m2,m3,m4,?_⟩
   apply zc8
   ·exact zaw _ _
   ·rfl
   ·simp
   intro mn n1 n2
   refine⟨hg,?_⟩
   apply zc8
   ·exact zaw _ _
   ·rfl
   ·simp
   intro mx x1 x2
   refine⟨hg,?_⟩
   exact⟨Pre.refl.push,zel,h mn mx (zeC.of n1 n2 x1 x2)⟩
  ·exact h.elim⟩))
def zrj  (zau:zcD K mg)(zat:zcI K mg)(zay:zcF K mg)(zar:zcB K mg)(zaq:zcE K mg)(zas:zcL K mg)(zjT:Dm K zau.C "forth" "Times.forth" zhg zfS)(zlr:Fk P w K mg base 2 "mul_spans" zfj zfC):Fm P w K mg base 3 zau.C "forth" zfS (zd1 zat.C zay.C zar.C zaq.C zau.C zas.C):=
 zjT.mk' (zaC (k:=2) zjT.F zr8 (zvv zat.C zay.C zar.C zaq.C zau.C zas.C) λcdv A outer s H E hr=>⟨_,(zag (zai (zam zlr hr (zaa (zaB (dv 1) (zch zau.cl zau.n_one (dv 0)) (λ_ _=>rfl)) (zaa (zaB (dv 1) (zch zau.cl zau.n_other (dv 0)) (λ_ _=>rfl)) (zaa (dv 3) zad)))))),λds S Q ex h=>by
  unfold zd1 at h
  split at h
  ·rename_i n w p g
   obtain⟨i,j,vs,bs,hn,hw,hp,ok,s1,hg,h⟩:=h
   refine zcq (n:=n) (λK hK=>by exact hK) hn rfl ?_
   refine zaz (o:=.lst (vs.map frD)) hw (zbn ok.1) ?_
   refine zcq (n:=n) (λK hK=>by exact hK) hn rfl ?_
   refine zaz (o:=.lst (vs.map frD)) hw (zbn ok.2) ?_
   have a:=s1.at ok.1
   have b:=s1.at ok.2
   have sg:Sz 21 g:=Sz.of 1000000 (by omega)
   refine⟨⟨⟨zaY a.2.1 b.2.1,zaY a.2.1 b.2.2,zaY a.2.2 b.2.1,zaY a.2.2 b.2.2⟩,sg.fd (by omega)⟩,λmn mx hc=>?_⟩
   obtain⟨rfl,rfl⟩:=hc.eq
   exact h
  ·exact h.elim⟩)
def zpf  (zic:Df K mg "raised" zkv zgy)(zaN:mg "range"=none):Fk P w K mg base 1 "raised" zgy zfl:=
 zic.mk' (zaC (k:=0) zic.F zk8 (zo6) λcdv A outer s H E hr=>⟨_,(zae (zah (i:=2) zk8.nd rfl (Or.inl rfl) zab) (zae (zcR (i:=3) PassesOwn.never rfl zk8.nd rfl (Or.inl rfl) rfl zaN (zaa (dv 1) zad) (zag (zah (i:=2) zk8.nd rfl (Or.inl rfl) (zac zaS (dv 2) (dv 0))))) (zag (zai (dv 2))))),λds S Q ex h=>by
  unfold zfl at h
  split at h
  ·rename_i x n
   obtain⟨⟨h0,h6,sx⟩,h⟩:=h
   refine⟨⟨by omega,by omega⟩,λk dl' S'=>S'=S∧k≤n.toNat∧∃(z:Int) (o:Option D),z=x^k∧dl'=[some (.int x),some (.int n),some (.int z),o],⟨rfl,VaA _,1,none,(Va2 x).symm,rfl⟩,?_⟩
   rintro k dl' S' ⟨rfl,hk,z,o,rfl,rfl⟩
   refine zcK (λc=>?_) (λc=>?_)
   ·exact⟨zaY (m:=12001) (n:=2000) ((sx.pow k).mono (by omega)) sx,rfl,by omega,_,_,(VaI x k).symm,rfl⟩
   ·have e:k=n.toNat:=by omega
    subst e
    exact h
  ·exact h.elim⟩)
def zuJ  (zjd:Df K mg "raise_span" zfF zf9)(zcY:Fk P w K mg base 1 "rounded_up" zdv zdI)(zjB:Fk P w K mg base 1 "raised" zgy zfl)(zbM:mg "max"=none)(zby:mg "min"=none):Fk P w K mg base 2 "raise_span" zf9 ze2:=
 zjd.mk' (zdH (zaC (k:=1) zjd.F zio (zdz (zuP)) λcdv A outer s H E hr=>⟨_,(zae (zah (i:=3) zio.nd rfl (Or.inl rfl) (zbl (zaa (zaf (dv 0) zab (λ_ _=>rfl)) (zaa (zaf (dv 0) zab (λ_ _=>rfl)) zad)))) (zae (zaD (zkQ zbR zbR (zaf (dv 0) zab (λ_ _=>rfl)) zab (zaf (dv 0) zab (λ_ _=>rfl))) (zag (zbh (zbx (dv 3) zab))) zaF) (zae (zoV (x:="place") (N:=["grid","many"]) (caps:=[2,1]) (ar:=zak zfF) rfl rfl csc rfl (by decide) (i:=4) zio.nd rfl rfl (dv 3) (λ_ _ _ _ _ _=>zcu) (λ_ _ _ _ _ _=>(zac zaS (zam zjB hr (zaa (dv 0) (zaa (dv 2) zad))) (dv 1)))) (zae (zah (i:=5) zio.nd rfl (Or.inl rfl) (zam zjB hr (zaa (dv 2) (zaa (dv 1) zad)))) (zag (zai (zaE (zaa (zac zbr (zaM (zaI (zhI rfl)) rfl zby Boot.«min» (zaa (dv 4) zad)) (dv 5)) (zaa (zam zcY hr (zaa (zaM (zaI (zlz rfl)) rfl zbM Boot.«max» (zaa (dv 4) zad)) (zaa (dv 5) zad))) zad))))))))),λds S Q ex h=>by
  obtain⟨Q0,ex0,rfl,rfl,h⟩:=h
  unfold ze2 at h
  split at h
  ·rename_i a b n g
   obtain⟨⟨n2,n6,za,zb,hg,zg⟩,h⟩:=h
   refine ifD (λc1=>?_) (λc1=>?_)
   ·refine ifD (λc2=>?_) (λc2=>?_)
    ·refine zb1 (n:=S.length) (λK hK=>hK) (zaw _ _) (λK hK=>hK) (by simp) ?_
     refine zeL (n:=S.length) (o:=.lst [.int a,.int b,.int 0]) (λd=>match d with | .int v=>.int (v^n.toNat*g) | _=>.non) (λK hK=>hK) (by simp) (by simp[zaj]) (λx hx S2 K _ hK=>?_) ?_
     ·have hx':x=.int a∨x=.int b∨x=.int 0:=by simpa [zaj] using hx
      rcases hx' with rfl | rfl | rfl
      all_goals exact⟨⟨by omega,n6,by first | exact za.mono (by decide) | exact zb.mono (by decide) | exact Sz.of (n:=2000) 0 (by decide)⟩,zaY (m:=12001) (n:=1400) (((Sz.mono (n:=2000) (by first | exact za | exact zb | exact Sz.of (n:=1400) 0 (by decide)) (by decide)).pow _).mono (by omega)) zg,hK⟩
     refine⟨⟨by omega,n6,zg.mono (by decide)⟩,?_⟩
     have gp:(0:Int)<g^n.toNat:=VaS (by omega)
     have zgp:Sz 8401 (g^n.toNat):=(zg.pow _).mono (by omega)
     apply zc8
     ·exact zaw _ _
     ·rfl
     ·simp
     intro mn q1 q2
     refine⟨zgp.fd gp,?_⟩
     apply zc8
     ·exact zaw _ _
     ·rfl
     ·simp
     intro mx x1 x2
     refine⟨zgp.fd gp,?_⟩
     obtain⟨m,M,hP,rfl,rfl⟩:=zda.of (n:=n.toNat) hg (.inr ⟨rfl,c1,c2⟩) (by omega) q1 q2 x1 x2
     have r:=h m M hP
     rw[← zdY hg (by omega),← zdY hg (by omega),VaO] at r
     exact⟨(λi o e=>zfk (by rw[List.set_append_right _ _ (Vaa _),Vah (Vab.mp e).1]; exact e)),zel,r⟩
    ·skip
     refine zeL (n:=S.length) (o:=.lst [.int a,.int b]) (λd=>match d with | .int v=>.int (v^n.toNat*g) | _=>.non) (λK hK=>hK) (zaw _ _) (by simp[zaj]) (λx hx S2 K _ hK=>?_) ?_
     ·have hx':x=.int a∨x=.int b:=by simpa [zaj] using hx
      rcases hx' with rfl | rfl
      all_goals exact⟨⟨by omega,n6,by first | exact za.mono (by decide) | exact zb.mono (by decide) | exact Sz.of (n:=2000) 0 (by decide)⟩,zaY (m:=12001) (n:=1400) (((Sz.mono (n:=2000) (by first | exact za | exact zb | exact Sz.of (n:=1400) 0 (by decide)) (by decide)).pow _).mono (by omega)) zg,hK⟩
     refine⟨⟨by omega,n6,zg.mono (by decide)⟩,?_⟩
     have gp:(0:Int)<g^n.toNat:=VaS (by omega)
     have zgp:Sz 8401 (g^n.toNat):=(zg.pow _).mono (by omega)
     apply zc8
     ·exact zaw _ _
     ·rfl
     ·simp
     intro mn q1 q2
     refine⟨zgp.fd gp,?_⟩
     apply zc8
     ·exact zaw _ _
     ·rfl
     ·simp
     intro mx x1 x2
     refine⟨zgp.fd gp,?_⟩
     obtain⟨m,M,hP,rfl,rfl⟩:=zda.of (n:=n.toNat) hg (.inl ⟨rfl,λc=>c2 c.2⟩) (by omega) q1 q2 x1 x2
     have r:=h m M hP
     rw[← zdY hg (by omega),← zdY hg (by omega),VaO] at r
     exact⟨Pre.refl.push.push,zel,r⟩
   ·skip
    refine zeL (n:=S.length) (o:=.lst [.int a,.int b]) (λd=>match d with | .int v=>.int (v^n.toNat*g) | _=>.non) (λK hK=>hK) (zaw _ _) (by simp[zaj]) (λx hx S2 K _ hK=>?_) ?_
    ·have hx':x=.int a∨x=.int b:=by simpa [zaj] using hx
     rcases hx' with rfl | rfl
     all_goals exact⟨⟨by omega,n6,by first | exact za.mono (by decide) | exact zb.mono (by decide) | exact Sz.of (n:=2000) 0 (by decide)⟩,zaY (m:=12001) (n:=1400) (((Sz.mono (n:=2000) (by first | exact za | exact zb | exact Sz.of (n:=1400) 0 (by decide)) (by decide)).pow _).mono (by omega)) zg,hK⟩
    refine⟨⟨by omega,n6,zg.mono (by decide)⟩,?_⟩
    have gp:(0:Int)<g^n.toNat:=VaS (by omega)
    have zgp:Sz 8401 (g^n.toNat):=(zg.pow _).mono (by omega)
    apply zc8
    ·exact zaw _ _
    ·rfl
    ·simp
    intro mn q1 q2
    refine⟨zgp.fd gp,?_⟩
    apply zc8
    ·exact zaw _ _
    ·rfl
    ·simp
    intro mx x1 x2
    refine⟨zgp.fd gp,?_⟩
    obtain⟨m,M,hP,rfl,rfl⟩:=zda.of (n:=n.toNat) hg (.inl ⟨rfl,λc=>c1 c.1⟩) (by omega) q1 q2 x1 x2
    have r:=h m M hP
    rw[← zdY hg (by omega),← zdY hg (by omega),VaO] at r
    exact⟨Pre.refl.push.push,zel,r⟩
  ·exact h.elim⟩))
def zvm  (zas:zcL K mg)(zat:zcI K mg)(zay:zcF K mg)(zar:zcB K mg)(zaq:zcE K mg)(zau:zcD K mg)(zhV:Dm K zas.C "forth" "Power.forth" zhr zfV)(zmH:Fk P w K mg base 2 "raise_span" zf9 ze2):Fm P w K mg base 3 zas.C "forth" zfV (zep zat.C zay.C zar.C zaq.C zau.C zas.C):=
 zhV.mk' (zaC (k:=2) zhV.F zvh (zsY zat.C zay.C zar.C zaq.C zau.C zas.C) λcdv A outer s H E hr=>⟨_,(zag (zai (zam zmH hr (zaa (zaB (dv 1) (zch zas.cl zas.n_one (dv 0)) (λ_ _=>rfl)) (zaa (zch zas.cl zas.n_many (dv 0)) (zaa (dv 3) zad)))))),λds S Q ex h=>by
  unfold zep at h
  split at h
  ·rename_i n w p g
   obtain⟨i,m,vs,bs,hn,hw,hp,ok,s1,hg,h⟩:=h
   refine zcq (n:=n) (λK hK=>by exact hK) hn rfl ?_
   refine zaz (o:=.lst (vs.map frD)) hw (zbn ok.1) ?_
   refine zcq (n:=n) (λK hK=>by exact hK) hn rfl ?_
   have a:=s1.at ok.1
   have sg:Sz 21 g:=Sz.of 1000000 (by omega)
   refine⟨⟨ok.2.1,ok.2.2,a.2.1,a.2.2,hg.1,sg.mono (by decide)⟩,λm' M' hP=>?_⟩
   obtain⟨rfl,rfl⟩:=hP.eq (by have:=ok.2.1; omega)
   exact h
  ·exact h.elim⟩)
def zuD  (zat:zcI K mg)(zh0:Dm K zat.C "__init__" "Number.__init__" zhS zgq):Fm P w K mg base 1 zat.C "__init__" zgq (ze4 zat.C):=
 zh0.mk' (zaC (k:=0) zh0.F zvr (zrI zat.C) λcdv A outer s H E hr=>⟨_,(zae (zce zat.cl zat.n_top (dv 0) (dv 1)) (zag (zce zat.cl zat.n_bottom (dv 0) (dv 2)))),λds S Q ex h=>by
  unfold ze4 at h
  split at h
  ·rename_i n x y
   obtain⟨T,rfl,rfl,h⟩:=h
   refine zcf (v:=x) (S1:=T++[Ob.ins zat.C []]) (S2:=T++[Ob.ins zat.C []]) (n:=T.length) (fs:=[]) (λK hK=>by exact hK) (λK hK=>by exact hK) (zcp ..) (by simp) ?_
   rw[zcn]
   refine zcf (v:=y) (S1:=T++[Ob.ins zat.C [("top",x)]]) (S2:=T++[Ob.ins zat.C [("top",x)]]) (n:=T.length) (fs:=[("top",x)]) (λK hK=>by exact hK) (λK hK=>by exact hK) (zcp ..) (by simp) ?_
   rw[zcn]
   exact h
  ·exact h.elim⟩)
def zo7  (zay:zcF K mg)(ziA:Dm K zay.C "__init__" "Unknown.__init__" zjY zfQ):Fm P w K mg base 1 zay.C "__init__" zfQ (zgQ zay.C):=
 ziA.mk' (zaC (k:=0) ziA.F zvi (zsc zay.C) λcdv A outer s H E hr=>⟨_,(zag (zce zay.cl zay.n_place (dv 0) (dv 1))),λds S Q ex h=>by
  unfold zgQ at h
  split at h
  ·rename_i n x
   obtain⟨T,rfl,rfl,h⟩:=h
   refine zcf (v:=x) (S1:=T++[Ob.ins zay.C []]) (S2:=T++[Ob.ins zay.C []]) (n:=T.length) (fs:=[]) (λK hK=>by exact hK) (λK hK=>by exact hK) (zcp ..) (by simp) ?_
   rw[zcn]
   exact h
  ·exact h.elim⟩)
def ztB  (zar:zcB K mg)(zhQ:Dm K zar.C "__init__" "Pair.__init__" zhC zgr):Fm P w K mg base 1 zar.C "__init__" zgr (zff zar.C):=
 zhQ.mk' (zaC (k:=0) zhQ.F zrJ (zsW zar.C) λcdv A outer s H E hr=>⟨_,(zae (zce zar.cl zar.n_one (dv 0) (dv 1)) (zag (zce zar.cl zar.n_other (dv 0) (dv 2)))),λds S Q ex h=>by
  unfold zff at h
  split at h
  ·rename_i n x y
   obtain⟨T,rfl,rfl,h⟩:=h
   refine zcf (v:=x) (S1:=T++[Ob.ins zar.C []]) (S2:=T++[Ob.ins zar.C []]) (n:=T.length) (fs:=[]) (λK hK=>by exact hK) (λK hK=>by exact hK) (zcp ..) (by simp) ?_
   rw[zcn]
   refine zcf (v:=y) (S1:=T++[Ob.ins zar.C [("one",x)]]) (S2:=T++[Ob.ins zar.C [("one",x)]]) (n:=T.length) (fs:=[("one",x)]) (λK hK=>by exact hK) (λK hK=>by exact hK) (zcp ..) (by simp) ?_
   rw[zcn]
   exact h
  ·exact h.elim⟩)
def zsG  (zaq:zcE K mg)(ziG:Dm K zaq.C "__init__" "Pair.__init__" zjp zeY):Fm P w K mg base 1 zaq.C "__init__" zeY (zfR zaq.C):=
 ziG.mk' (zaC (k:=0) ziG.F zur (zrv zaq.C) λcdv A outer s H E hr=>⟨_,(zae (zce zaq.cl zaq.n_one (dv 0) (dv 1)) (zag (zce zaq.cl zaq.n_other (dv 0) (dv 2)))),λds S Q ex h=>by
  unfold zfR at h
  split at h
  ·rename_i n x y
   obtain⟨T,rfl,rfl,h⟩:=h
   refine zcf (v:=x) (S1:=T++[Ob.ins zaq.C []]) (S2:=T++[Ob.ins zaq.C []]) (n:=T.length) (fs:=[]) (λK hK=>by exact hK) (λK hK=>by exact hK) (zcp ..) (by simp) ?_
   rw[zcn]
   refine zcf (v:=y) (S1:=T++[Ob.ins zaq.C [("one",x)]]) (S2:=T++[Ob.ins zaq.C [("one",x)]]) (n:=T.length) (fs:=[("one",x)]) (λK hK=>by exact hK) (λK hK=>by exact hK) (zcp ..) (by simp) ?_
   rw[zcn]
   exact h
  ·exact h.elim⟩)
def zun  (zau:zcD K mg)(zi6:Dm K zau.C "__init__" "Pair.__init__" zkM zgO):Fm P w K mg base 1 zau.C "__init__" zgO (zfu zau.C):=
 zi6.mk' (zaC (k:=0) zi6.F zqZ (zuX zau.C) λcdv A outer s H E hr=>⟨_,(zae (zce zau.cl zau.n_one (dv 0) (dv 1)) (zag (zce zau.cl zau.n_other (dv 0) (dv 2)))),λds S Q ex h=>by
  unfold zfu at h
  split at h
  ·rename_i n x y
   obtain⟨T,rfl,rfl,h⟩:=h
   refine zcf (v:=x) (S1:=T++[Ob.ins zau.C []]) (S2:=T++[Ob.ins zau.C []]) (n:=T.length) (fs:=[]) (λK hK=>by exact hK) (λK hK=>by exact hK) (zcp ..) (by simp) ?_
   rw[zcn]
   refine zcf (v:=y) (S1:=T++[Ob.ins zau.C [("one",x)]]) (S2:=T++[Ob.ins zau.C [("one",x)]]) (n:=T.length) (fs:=[("one",x)]) (λK hK=>by exact hK) (λK hK=>by exact hK) (zcp ..) (by simp) ?_
   rw[zcn]
   exact h
  ·exact h.elim⟩)
def zta  (zas:zcL K mg)(zhl:Dm K zas.C "__init__" "Power.__init__" zhH zfq):Fm P w K mg base 1 zas.C "__init__" zfq (zfU zas.C):=
 zhl.mk' (zaC (k:=0) zhl.F zvw (zu5 zas.C) λcdv A outer s H E hr=>⟨_,(zae (zce zas.cl zas.n_one (dv 0) (dv 1)) (zag (zce zas.cl zas.n_many (dv 0) (dv 2)))),λds S Q ex h=>by
  unfold zfU at h
  split at h
  ·rename_i n x y
   obtain⟨T,rfl,rfl,h⟩:=h
   refine zcf (v:=x) (S1:=T++[Ob.ins zas.C []]) (S2:=T++[Ob.ins zas.C []]) (n:=T.length) (fs:=[]) (λK hK=>by exact hK) (λK hK=>by exact hK) (zcp ..) (by simp) ?_
   rw[zcn]
   refine zcf (v:=y) (S1:=T++[Ob.ins zas.C [("one",x)]]) (S2:=T++[Ob.ins zas.C [("one",x)]]) (n:=T.length) (fs:=[("one",x)]) (λK hK=>by exact hK) (λK hK=>by exact hK) (zcp ..) (by simp) ?_
   rw[zcn]
   exact h
  ·exact h.elim⟩)
def zsn  (zas:zcL K mg)(zau:zcD K mg)(zaq:zcE K mg)(zar:zcB K mg)(zay:zcF K mg)(zat:zcI K mg)(zh7:Df K mg "kind_of" zhe zgn)(zeF:Fm P w K mg base 1 zas.C "__init__" zfq (zfU zas.C))(zec:Fm P w K mg base 1 zau.C "__init__" zgO (zfu zau.C))(zet:Fm P w K mg base 1 zaq.C "__init__" zeY (zfR zaq.C))(zd3:Fm P w K mg base 1 zar.C "__init__" zgr (zff zar.C))(zeD:Fm P w K mg base 1 zay.C "__init__" zfQ (zgQ zay.C))(zdR:Fm P w K mg base 1 zat.C "__init__" zgq (ze4 zat.C)):Fk P w K mg base 3 "kind_of" zgn (zgS zat.C zay.C zar.C zaq.C zau.C zas.C):=
 zh7.mk' (zaC (k:=2) zh7.F zr2 (zq0 zat.C zay.C zar.C zaq.C zau.C zas.C) λcdv A outer s H E hr=>⟨_,(zae (zaD (zaJ (zaP hr) (zaf (dv 0) zab (λ_ _=>rfl)) zaR (zax _)) (zag (zai (zdU ⟨zat.makes,zdR.m.at_,zdR.m.fn,zat.kp⟩ zdR.ok (hr.mono (by decide)) rfl zat.m zdR.b zea (zaa (zaf (dv 0) zab (λ_ _=>rfl)) (zaa (zaf (dv 0) zab (λ_ _=>rfl)) zad))))) zaF) (zae (zaD (zaJ (zaP hr) (zaf (dv 0) zab (λ_ _=>rfl)) zaR (zax _)) (zag (zai (zdU ⟨zay.makes,zeD.m.at_,zeD.m.fn,zay.kp⟩ zeD.ok (hr.mono (by decide)) rfl zay.m zeD.b zea (zaa (zaf (dv 0) zab (λ_ _=>rfl)) zad)))) zaF) (zae (zaD (zaJ (zaP hr) (zaf (dv 0) zab (λ_ _=>rfl)) zaR (zax _)) (zag (zai (zdU ⟨zar.makes,zd3.m.at_,zd3.m.fn,zar.kp⟩ zd3.ok (hr.mono (by decide)) rfl zar.m zd3.b zea (zaa (zaf (dv 0) zab (λ_ _=>rfl)) (zaa (zaf (dv 0) zab (λ_ _=>rfl)) zad))))) zaF) (zae (zaD (zaJ (zaP hr) (zaf (dv 0) zab (λ_ _=>rfl)) zaR (zax _)) (zag (zai (zdU ⟨zaq.makes,zet.m.at_,zet.m.fn,zaq.kp⟩ zet.ok (hr.mono (by decide)) rfl zaq.m zet.b zea (zaa (zaf (dv 0) zab (λ_ _=>rfl)) (zaa (zaf (dv 0) zab (λ_ _=>rfl)) zad))))) zaF) (zae (zaD (zaJ (zaP hr) (zaf (dv 0) zab (λ_ _=>rfl)) zaR (zax _)) (zag (zai (zdU ⟨zau.makes,zec.m.at_,zec.m.fn,zau.kp⟩ zec.ok (hr.mono (by decide)) rfl zau.m zec.b zea (zaa (zaf (dv 0) zab (λ_ _=>rfl)) (zaa (zaf (dv 0) zab (λ_ _=>rfl)) zad))))) zaF) (zag (zai (zdU ⟨zas.makes,zeF.m.at_,zeF.m.fn,zas.kp⟩ zeF.ok (hr.mono (by decide)) rfl zas.m zeF.b zea (zaa (zaf (dv 0) zab (λ_ _=>rfl)) (zaa (zaf (dv 0) zab (λ_ _=>rfl)) zad)))))))))),λds S Q ex h=>by
  unfold zgS at h
  split at h
  ·obtain⟨v,rfl,h⟩:=h
   cases v <;> exact⟨S,rfl,rfl,rfl,h⟩
  ·exact h.elim⟩)
def zr6  (zas:zcL K mg)(zau:zcD K mg)(zaq:zcE K mg)(zar:zcB K mg)(zay:zcF K mg)(zat:zcI K mg)(zlf:Df K mg "right_spans" zgP zdV)(zmy:Fk P w K mg base 2 "all_inside" zfJ zfO)(zmx:Fm P w K mg base 3 zas.C "forth" zfV (zep zat.C zay.C zar.C zaq.C zau.C zas.C))(zlL:Fm P w K mg base 3 zau.C "forth" zfS (zd1 zat.C zay.C zar.C zaq.C zau.C zas.C))(zlY:Fm P w K mg base 2 zaq.C "forth" zgN (zd2 zat.C zay.C zar.C zaq.C zau.C zas.C))(zlZ:Fm P w K mg base 2 zar.C "forth" zfX (zee zat.C zay.C zar.C zaq.C zau.C zas.C))(zlq:Fm P w K mg base 1 zay.C "forth" zfs (zeg zat.C zay.C zar.C zaq.C zau.C zas.C))(zlu:Fm P w K mg base 3 zat.C "forth" zf2 (zdX zat.C zay.C zar.C zaq.C zau.C zas.C))(zln:Fk P w K mg base 3 "kind_of" zgn (zgS zat.C zay.C zar.C zaq.C zau.C zas.C))(zaN:mg "range"=none)(zav:mg "len"=none):Fk P w K mg base 4 "right_spans" zdV zd9:=
 zlf.mk' (zdH (zaC (k:=3) zlf.F zvx (zdz (zsZ)) λcdv A outer s H E hr=>⟨_,(zae (zaD (zaJ zgk (zaM (zaI za1) rfl zav Boot.«len» (zaa (dv 3) zad)) (zaM (zaI za1) rfl zav Boot.«len» (zaa (dv 0) zad)) (zax _)) (zag (zai zcW)) zaF) (zag (zai (zam zmy hr (zaa (zmz (x:="number") (N:=["spans","box","grid","nodes"]) (caps:=[3,1,2,0]) (ar:=zak zgP) rfl rfl csc rfl (by decide) rfl zaN (zaa (zaM (zaI za1) rfl zav Boot.«len» (zaa (dv 3) zad)) zad) (λ_ _ _ _ _ _=>zcu) (λ_ _ _ _ _ _=>(zsp (zam zln hr (zaa (zaB (dv 4) (dv 0) (λ_ _=>rfl)) zad)) (zdQ zat.cl zlu (hr.mono (by decide)) (zdQ zay.cl zlq (hr.mono (by decide)) (zdQ zar.cl zlZ (hr.mono (by decide)) (zdQ zaq.cl zlY (hr.mono (by decide)) (zdQ zau.cl zlL (hr.mono (by decide)) (zdQ zas.cl zmx (hr.mono (by decide)) zty)))))) znY (zaa (dv 1) (zaa (dv 2) (zaa (dv 3) zad)))))) (zaa (dv 3) zad)))))),λds S Q ex h=>by
  obtain⟨Q0,ex0,rfl,rfl,h⟩:=h
  unfold zd9 at h
  split at h
  ·rename_i a b g c
   obtain⟨ns,ws,bs,vs,ha,hb,hc,net,hl,h9,sp,hg,h⟩:=h
   have disp:∀v:Nd,∃C fs sd,v.ob zat.C zay.C zar.C zaq.C zau.C zas.C=.ins C fs∧(C,sd)∈[(zat.C,zdX zat.C zay.C zar.C zaq.C zau.C zas.C),(zay.C,zeg zat.C zay.C zar.C zaq.C zau.C zas.C),(zar.C,zee zat.C zay.C zar.C zaq.C zau.C zas.C),(zaq.C,zd2 zat.C zay.C zar.C zaq.C zau.C zas.C),(zau.C,zd1 zat.C zay.C zar.C zaq.C zau.C zas.C),(zas.C,zep zat.C zay.C zar.C zaq.C zau.C zas.C)]∧fs.lookup ("forth":Str)=none∧∀(n w p:Nat) (g:Int) (S:Sto) (Q:DK) (ex:Addr→Sto→Prop) (vs bs:List (Int×Int)),S[n]?=some (v.ob zat.C zay.C zar.C zaq.C zau.C zas.C)→S[w]?=some (.lst (vs.map frD))→S[p]?=some (.lst (bs.map frD))→v.ok vs.length bs.length→Spn 1400 vs→(1≤g∧g≤1000000)→Q (frD (v.fw vs bs g)) S→sd [.ref n,.ref w,.ref p,.int g] S Q ex:=by
    intro v
    cases v with
    | number x y=>exact⟨_,_,_,rfl,(.head _),rfl,λn w p g S Q ex vs bs a1 a2 a3 a4 a5 a6 q=>⟨x,y,vs,bs,a1,a2,a3,a4,a5,a6,q⟩⟩
    | unknown k=>exact⟨_,_,_,rfl,(.tail _ (.head _)),rfl,λn w p g S Q ex vs bs a1 a2 a3 a4 a5 a6 q=>⟨k,vs,bs,a1,a2,a3,a4,a5,a6,q⟩⟩
    | plus i j=>exact⟨_,_,_,rfl,(.tail _ (.tail _ (.head _))),rfl,λn w p g S Q ex vs bs a1 a2 a3 a4 a5 a6 q=>⟨i,j,vs,bs,a1,a2,a3,a4,a5,a6,q⟩⟩
    | minus i j=>exact⟨_,_,_,rfl,(.tail _ (.tail _ (.tail _ (.head _)))),rfl,λn w p g S Q ex vs bs a1 a2 a3 a4 a5 a6 q=>⟨i,j,vs,bs,a1,a2,a3,a4,a5,a6,q⟩⟩
    | times i j=>exact⟨_,_,_,rfl,(.tail _ (.tail _ (.tail _ (.tail _ (.head _))))),rfl,λn w p g S Q ex vs bs a1 a2 a3 a4 a5 a6 q=>⟨i,j,vs,bs,a1,a2,a3,a4,a5,a6,q⟩⟩
    | power i m=>exact⟨_,_,_,rfl,(.tail _ (.tail _ (.tail _ (.tail _ (.tail _ (.head _)))))),rfl,λn w p g S Q ex vs bs a1 a2 a3 a4 a5 a6 q=>⟨i,m,vs,bs,a1,a2,a3,a4,a5,a6,q⟩⟩
   refine za7 hc ?_
   refine za7 ha ?_
   rw[Vac,Vac]
   refine ifD (λe=>absurd e (by omega)) (λ_=>?_)
   refine znl (S1:=S) (j:=((vs.length:Nat):Int)) (λk ys S2=>Pre S S2∧S2[S.length]?=some (.lst ys)∧ys.length=k∧ys=((ns.take k).map λv=>v.fw vs bs g).map frD) (λK hK=>by
    refine za7 hc ?_
    rw[Vac]
    exact hK) ⟨by omega,by omega⟩ (λk ys S2 w=>⟨w.2.1,w.2.2.1⟩) ⟨Pre.refl.push,zaw _ _,rfl,by simp⟩ (λk ys S2 K hk w hK=>?_) (λys S2 w=>?_)
   ·obtain⟨w1,w2,w3,w4⟩:=w
    have hk':k<ns.length:=by omega
    have hv:=Vae hk'
    generalize ns[k]=v at hv
    obtain⟨C,fs,sd,eo,hm,hf2,go⟩:=disp v
    have N1:=zaw S2 (v.ob zat.C zay.C zar.C zaq.C zau.C zas.C)
    have okv:v.ok vs.length bs.length:=zsI (by omega) (net.ok k v hv).1
    refine zu2 (n:=S2.length) (C:=C) (sd:=sd) (fs:=fs) (S1:=S2++[v.ob zat.C zay.C zar.C zaq.C zau.C zas.C]) (λK hK=>by
     refine zaz (o:=.lst (ns.map Nd.d)) (w1 _ _ ha) (zoe hv) ?_
     exact⟨v,rfl,hK⟩) (by rw[← eo]; exact N1) hm hf2 ?_
    refine go _ _ _ _ _ _ _ vs bs N1 (zal (w1 _ _ hc)) (zal (w1 _ _ hb)) okv sp hg ?_
    have lt:=zaV w2
    refine hK _ _ (zal w2) ⟨zlt (zeR w1 _) (Vaa _),zbj (zal w2),by simp[w3],?_⟩
    rw[w4,zc9 hv,Vav,Vav]
    rfl
   ·obtain⟨w1,w2,w3,w4⟩:=w
    rw[Vaj] at w3 w4
    subst w4
    refine⟨(ns.take vs.length).map λv=>v.fw vs bs g,vs,w2,w1 _ _ hc,by rw[Vac,Vaw]; omega,?_⟩
    exact⟨w1,.bl _,h⟩
  ·exact h.elim⟩))
def zs8  (zhh:Df K mg "bars" zje zgf):Fk P w K mg base 1 "bars" zgf zfg:=
 zhh.mk' (zaC (k:=0) zhh.F zqY (zsN) λcdv A outer s H E hr=>⟨_,(zae (zaD (zaJ (zaP hr) (dv 0) zaR (zax _)) (zag (zai (pd_or (zbf zgk (zaf (dv 1) zab (λ_ _=>rfl)) zab (zax _)) (zcG (zbf zbR (zaf (dv 1) zab (λ_ _=>rfl)) zab (zax _)))))) zaF) (zag (zai (zbf zbR (zaf (dv 1) zab (λ_ _=>rfl)) zab (zax _))))),λds S Q ex h=>by
  unfold zfg at h
  split at h
  ·rcases h with ⟨rfl,h⟩ | ⟨rfl,h⟩
   ·refine ifD (λc=>?_) (λc=>?_)
    ·rw[decide_eq_true c,Bool.true_or] at h
     exact h
    ·rw[decide_eq_false c,Bool.false_or] at h
     exact h
   ·exact h
  ·exact h.elim⟩)
def ztN  (zhX:Df K mg "right_out" zkS zgx)(zlw:Fk P w K mg base 1 "bars" zgf zfg)(zeh:Fk P w K mg base 4 "right_spans" zdV zd9)(zav:mg "len"=none):Fk P w K mg base 5 "right_out" zgx zfh:=
 zhX.mk' (zaC (k:=4) zhX.F ziD (zve) λcdv A outer s H E hr=>⟨_,(zae (zah (i:=5) ziD.nd rfl (Or.inl rfl) (zaf (dv 4) zab (λ_ _=>rfl))) (zae (zah (i:=6) ziD.nd rfl (Or.inl rfl) (zaf (dv 4) zab (λ_ _=>rfl))) (zae (zaD (zcQ (zkQ zdB zbR zab (dv 5) (zaM (zaI za1) rfl zav Boot.«len» (zaa (dv 1) zad)))) (zag (zai zcW)) zaF) (zae (zah (i:=7) ziD.nd rfl (Or.inl rfl) (zaf (zaB (dv 1) (dv 5) (λ_ _=>rfl)) zab (λ_ _=>rfl))) (zag (zai (zcs (zbf (zaP hr) (zaM (zaI za1) rfl zav Boot.«len» (zaa (dv 6) zad)) (zac zaH (dv 7) zab) (zax _)) (zcs (zam zeh hr (zaa (dv 0) (zaa (dv 2) (zaa (dv 3) (zaa (dv 6) zad))))) (zcG (zam zlw hr (zaa (zaf (zaB (dv 1) (dv 5) (λ_ _=>rfl)) zab (λ_ _=>rfl)) (zaa (zaB (dv 6) (dv 7) (λ_ _=>rfl)) zad)))))))))))),λds S Q ex h=>by
  unfold zfh at h
  split at h
  ·rename_i nd rw bx g d
   obtain⟨ns,ws,rows,bs,vs,r,m,rfl,h1,h2,h3,net,l9,sp,hg,hr,hi,hl,ln,hf,h⟩:=h
   have i0:=hi.1
   have i1:=hi.2
   refine ifD (λ_=>?_) (λe=>absurd i0 e)
   refine za7 hr ?_
   rw[Vac]
   refine ifN (λe=>absurd i1 e) (λ_=>?_)
   refine zaz (o:=.lst (rows.map rwD)) hr (rw_at hi) ?_
   refine za7 h3 ?_
   rw[Vac,hl]
   refine ifD (λ_=>?_) (λe=>absurd (show (((rows.getD r.toNat (false,0)).2+1:Nat):Int)=((rows.getD r.toNat (false,0)).2:Int)+1 by omega) e)
   refine⟨ns,ws,bs,vs,h1,h2,h3,net,by omega,l9,sp,hg,?_⟩
   rw[hf]
   exact h
  ·exact h.elim⟩)
def zqu  (zkt:Df K mg "right_for_all" zj3 zeS)(zeh:Fk P w K mg base 4 "right_spans" zdV zd9)(zav:mg "len"=none):Fk P w K mg base 5 "right_for_all" zeS zfI:=
 zkt.mk' (zaC (k:=4) zkt.F zpt (zpR) λcdv A outer s H E hr=>⟨_,(zag (zai (zcs (zbf (zaP hr) (zaM (zaI za1) rfl zav Boot.«len» (zaa (dv 3) zad)) (zaM (zaI za1) rfl zav Boot.«len» (zaa (dv 0) zad)) (zax _)) (zcG (zam zeh hr (zaa (dv 0) (zaa (dv 1) (zaa (dv 2) (zaa (dv 3) zad))))))))),λds S Q ex h=>by
  unfold zfI at h
  split at h
  ·rename_i nd bx g m
   obtain⟨ns,ws,bs,vs,h1,h2,h3,net,l9,sp,hg,hl,h⟩:=h
   refine za7 h3 ?_
   refine za7 h1 ?_
   rw[Vac,Vac,hl]
   refine ztT ?_
   refine zbJ ?_
   rw[hl] at h
   exact⟨ns,ws,bs,vs,h1,h2,h3,net,by omega,l9,sp,hg,by rw[hl]; exact h⟩
  ·exact h.elim⟩)
def zrV  (zk2:Df K mg "sure" zjZ ze6):Fk P w K mg base 1 "sure" ze6 zgd:=
 zk2.mk' (zaC (k:=0) zk2.F zrH (zrY) λcdv A outer s H E hr=>⟨_,(zae (zaD (zaJ (zaP hr) (dv 0) zaR (zax _)) (zag (zai (zcs (zbf (zaP hr) (zaf (dv 1) zab (λ_ _=>rfl)) zab (zax _)) (zcG (zbf (zaP hr) (zaf (dv 1) zab (λ_ _=>rfl)) zab (zax _)))))) zaF) (zag (zai (zbf do_ge (zaf (dv 1) zab (λ_ _=>rfl)) zab (zax _))))),λds S Q ex h=>by
  unfold zgd at h
  split at h
  ·rcases h with ⟨rfl,h⟩ | ⟨rfl,h⟩
   ·refine ifD (λc=>?_) (λc=>?_)
    ·rw[decide_eq_true c,Bool.true_and] at h
     exact h
    ·rw[decide_eq_false c,Bool.false_and] at h
     exact h
   ·exact h
  ·exact h.elim⟩)
def zpI  (zii:Df K mg "right_full" zg3 zga)(zmF:Fk P w K mg base 1 "sure" ze6 zgd)(zlH:Fk P w K mg base 5 "right_for_all" zeS zfI)(zbv:mg "all"=none):Fk P w K mg base 6 "right_full" zga zgZ:=
 zii.mk' (zaC (k:=5) zii.F zm5 (zr3) λcdv A outer s H E hr=>⟨_,(zae (zah (i:=5) zm5.nd rfl (Or.inr rfl) (zaf (dv 4) zab (λ_ _=>rfl))) (zag (zai (zcs (zam zlH hr (zaa (dv 0) (zaa (dv 2) (zaa (dv 3) (zaa (dv 5) zad))))) (zcG (zaM (zaI (zjm rfl)) rfl zbv Boot.«all» (zaa (ziy (x:="row") (N:=["spans"]) (caps:=[5]) (ar:=zak zg3) rfl rfl csc rfl (by decide) (dv 1) (λ_ _ _ _ _ _=>zcu) (λ_ _ _ _ _ _=>(zam zmF hr (zaa (zaf (dv 0) zab (λ_ _=>rfl)) (zaa (zaB (dv 1) (zaf (dv 0) zab (λ_ _=>rfl)) (λ_ _=>rfl)) zad))))) zad))))))),λds S Q ex h=>by
  unfold zgZ at h
  split at h
  ·rename_i nd rw bx g d
   obtain⟨ns,ws,bs,vs,m,rfl,h1,h2,h3,net,l9,sp,hg,hl,hf,h⟩:=h
   refine⟨ns,ws,bs,vs,h1,h2,h3,net,l9,sp,hg,hl,?_⟩
   rw[hf]
   exact h
  ·exact h.elim⟩)
def zua  (zih:Df K mg "right_entry" zku zg7)(zmV:Fk P w K mg base 6 "right_full" zga zgZ)(zlI:Fk P w K mg base 5 "right_out" zgx zfh)(zmk:Fk P w K mg base 2 "right_cut" zgC zgA):Fk P w K mg base 7 "right_entry" zg7 zfY:=
 zih.mk' (zaC (k:=6) zih.F zmA (zrc) λcdv A outer s H E hr=>⟨_,(zae (zah (i:=5) zmA.nd rfl (Or.inl rfl) (zaf (zaB (dv 3) (dv 4) (λ_ _=>rfl)) zab (λ_ _=>rfl))) (zae (zah (i:=6) zmA.nd rfl (Or.inl rfl) (zaf (zaB (dv 3) (dv 4) (λ_ _=>rfl)) zab (λ_ _=>rfl))) (zae (zaD (zaJ (zaP hr) (zaf (dv 6) zab (λ_ _=>rfl)) zaR (zax _)) (zag (zai (zam zmk hr (zaa (dv 3) (zaa (dv 4) zad))))) zaF) (zae (zaD (zaJ (zaP hr) (zaf (dv 6) zab (λ_ _=>rfl)) zaR (zax _)) (zag (zai (zam zlI hr (zaa (dv 0) (zaa (dv 1) (zaa (dv 5) (zaa (dv 2) (zaa (dv 6) zad)))))))) zaF) (zae (zaD (zaJ (zaP hr) (zaf (dv 6) zab (λ_ _=>rfl)) zaR (zax _)) (zag (zai (zam zmV hr (zaa (dv 0) (zaa (dv 1) (zaa (dv 5) (zaa (dv 2) (zaa (dv 6) zad)))))))) zaF) (zae (zaD (zaJ (zaP hr) (zaf (dv 6) zab (λ_ _=>rfl)) zaR (zax _)) (zag zq1) zaF) (zag (zai zcW)))))))),λds S Q ex h=>by
  unfold zfY at h
  split at h
  ·rename_i nd rw g b n
   obtain⟨ns,ws,rows,es,q,nn,e,h1,h2,bk,net,hq,l9,hg,rfl,he,h⟩:=h
   obtain⟨ds,hd,en⟩:=id bk
   obtain⟨d,ed,m,f,rfl,hm,hf⟩:=en.get he
   have eq:=hq e (Val he)
   refine zaz (o:=.lst ds) hd (zcM ed) ?_
   refine zaz (o:=.lst ds) hd (zcM ed) ?_
   obtain⟨bx,fa⟩:=e
   have net':zaL bx.length ns ws:=by rw[show bx.length=q from eq]; exact net
   cases fa with
   | cut k p a c=>
    have hf':f=.tup [.str "cut",.int k,.int p,.int (a:Int),.int (c:Int)]:=hf
    subst hf'
    rcases h with ⟨gd,h⟩ | ⟨bd,_⟩
    ·exact⟨es,nn,bx,k,p,a,c,bk,rfl,he,gd,h⟩
    ·exact absurd bd id
   | out r vs=>
    obtain⟨m2,rfl,hm2⟩:=(hf:∃m,f=.tup [.str "out",.int r,.ref m]∧S[m]?=some (.lst (vs.map frD)))
    rcases h with ⟨gd,_⟩ | ⟨bd,h⟩
    ·exact absurd gd id
    ·obtain⟨b1,b2,b3,b4,b5⟩:=bd
     exact⟨ns,ws,rows,bx,vs,r,m2,rfl,h1,hm,hm2,net',l9,b4,hg,h2,b1,b2,b3,b5,h⟩
   | full vs=>
    obtain⟨m2,rfl,hm2⟩:=(hf:∃m,f=.tup [.str "full",.ref m]∧S[m]?=some (.lst (vs.map frD)))
    rcases h with ⟨gd,_⟩ | ⟨bd,h⟩
    ·exact absurd gd id
    ·obtain⟨b1,b2,b3⟩:=bd
     exact⟨ns,ws,bx,vs,m2,rfl,h1,hm,hm2,net',l9,b2,hg,b1,b3,h⟩
   | waits=>
    have hf':f=.tup [.str "waits"]:=hf
    subst hf'
    rcases h with ⟨_,h⟩ | ⟨bd,_⟩
    ·exact h _ (λ_ _ e=>e)
    ·exact absurd bd id
  ·exact h.elim⟩)
def zu6  (ziB:Df K mg "right_book" zf5 ze8)(zmp:Fk P w K mg base 7 "right_entry" zg7 zfY)(zlU:Fk P w K mg base 2 "is_whole_tree" zg8 zeX)(zbv:mg "all"=none)(zaN:mg "range"=none)(zav:mg "len"=none):Fk P w K mg base 8 "right_book" ze8 zgB:=
 ziB.mk' (zaC (k:=7) ziB.F zsS (zrW) λcdv A outer s H E hr=>⟨_,(zae (zaD (zcQ (zbI (zam zlU hr (zaa (dv 2) (zaa (dv 4) zad))))) (zag (zai zcW)) zaF) (zag (zai (zaM (zaI (zjm rfl)) rfl zbv Boot.«all» (zaa (zmz (x:="number") (N:=["nodes","rows","grid","book"]) (caps:=[0,1,3,4]) (ar:=zak zf5) rfl rfl csc rfl (by decide) rfl zaN (zaa (zaM (zaI za1) rfl zav Boot.«len» (zaa (dv 4) zad)) zad) (λ_ _ _ _ _ _=>zcu) (λ_ _ _ _ _ _=>(zam zmp hr (zaa (dv 1) (zaa (dv 2) (zaa (dv 3) (zaa (dv 4) (zaa (dv 0) zad)))))))) zad))))),λds S Q ex h=>by
  unfold zgB at h
  split at h
  ·rename_i nd rw bx g b
   obtain⟨ns,ws,rows,bs,es,hb,bk,hl,h0,hq,hp,h1,h2,net,l9,hg,h⟩:=h
   refine⟨bs,es,hb,bk,hl,h0,hq,hp,λT pT=>?_⟩
   obtain⟨ds,hd,en⟩:=id bk
   have each:∃bl:Nat→Bool,(∀(k:Nat) (e:En),es[k]?=some e→(bl k=true∧zck es k e)∨(bl k=false∧zhW ns rows g e))∧∀U,Pre S U→Q (.bl ((List.range es.length).all bl)) U:=by
    rcases h with ⟨gd,h⟩ | ⟨⟨k,e,he,bd,gd⟩,h⟩
    ·refine⟨λ_=>true,λk e he=>.inl ⟨rfl,gd k e he⟩,λU pU=>?_⟩
     rw[show (List.range es.length).all (λ_=>true)=true by rw[List.all_eq_true]; intros; rfl]
     exact h U pU
    ·refine⟨λj=>decide (j≠k),λj e' he'=>?_,λU pU=>?_⟩
     ·by_cases c:j=k
      ·subst c
       rw[he] at he'
       cases he'
       exact .inr ⟨by simp,bd⟩
      ·exact .inl ⟨by simp[c],gd j e' he' c⟩
     ·rw[show (List.range es.length).all (λj=>decide (j≠k))=false by
       rw[List.all_eq_false]
       exact⟨k,List.mem_range.mpr (Vab.mp he).1,by simp⟩]
      exact h U pU
   obtain⟨bl,hbl,fin⟩:=each
   refine znl (j:=((es.length:Nat):Int)) (S1:=T) (λk ys S2=>Pre T S2∧ys=(List.range k).map (λi=>D.bl (bl i))∧S2[T.length]?=some (.lst ys)) (λK hK=>?_) (by omega) (λk ys S2 w=>⟨w.2.2,by rw[w.2.1,Vac,Vba]⟩) ⟨zbK _,rfl,zaw _ _⟩ (λk ys S2 K hk w hK=>?_) (λys S2 w=>?_)
   ·refine za7 (pT _ _ hd) ?_
    rw[en.1]
    exact hK
   ·obtain⟨p2,rfl,h3⟩:=w
    have hk':k<es.length:=by omega
    have he:=Vae hk'
    have pp:Pre S S2:=λx o e=>p2 x o (pT x o e)
    refine⟨ns,ws,rows,es,bs.length,k,es[k],pp _ _ h1,pp _ _ h2,bk.pre pp,net,hq,l9,hg,rfl,he,?_⟩
    have on:∀(c:Bool) (U:Sto),bl k=c→Pre S2 U→K (.bl c) U:=λc U ec pU=>hK _ U (pU _ _ h3) ⟨λx o e=>by
      have:=zaV e
      exact za5 (pU x o (p2 x o e)) (by omega),by rw[List.range_succ,Vav,← ec]; rfl,zbj (pU _ _ h3)⟩
    rcases hbl k _ he with ⟨e1,gd⟩ | ⟨e1,bd⟩
    ·exact .inl ⟨gd,λU pU=>on true U e1 pU⟩
    ·exact .inr ⟨bd,on false S2 e1 (λ_ _ e=>e)⟩
   ·obtain⟨p2,rfl,h3⟩:=w
    rw[Vaj] at h3
    refine zmh (n:=T.length) (o:=.lst _) h3 (bs:=(List.range es.length).map bl) (zlM bl (List.range es.length)) ?_
    have z:=fin S2 (λx o e=>p2 x o (pT x o e))
    rw[show ((List.range es.length).map bl).all id=(List.range es.length).all bl by rw[List.all_map]; rfl]
    exact z
  ·exact h.elim⟩)
def zsk  (zk0:Df K mg "_law_copied" zgY zgo)(zc5:mg "tuple"=none)(zbg:mg "list"=none)(zcX:mg "isinstance"=none):Fk P w K mg base 1 "_law_copied" zgo zgM:=
 zk0.mk' (zaC (k:=0) zk0.F zfc (zqC) λcdv A outer s H E hr=>⟨_,(zae (zah (i:=1) zfc.nd rfl (Or.inl rfl) (zbl zad)) (zae (zpM (is:=[2,3]) PassesOwn.never rfl zfc.nd (Nms.cons (i:=2) rfl (Or.inl rfl) (by first | exact .inl rfl | exact .inr rfl) (Nms.cons (i:=3) rfl (Or.inl rfl) (by first | exact .inl rfl | exact .inr rfl) Nms.nil)) (dv 0) (zae (zah (i:=4) zfc.nd rfl (Or.inl rfl) (zbl zad)) (zae (zqU (i:=5) PassesOwn.never rfl zfc.nd rfl (Or.inl rfl) (dv 3) (zag (zaD (zbI (zoz (zow _ _ (by simp)) rfl zcX rfl zbg Boot.«list» (dv 5))) (zag (zbh (zbx (dv 4) (ziy (x:="_law_row_here") (N:=[]) (caps:=[]) (ar:=zak zgY) rfl rfl csc rfl (by decide) (dv 5) (λ_ _ _ _ _ _=>zcu) (λ_ _ _ _ _ _=>(zte (zbI (zoz (zow _ _ (by simp)) rfl zcX rfl zbg Boot.«list» (dv 0))) (zcN (zaI zdh) rfl zbg Boot.«list» (zaa (dv 0) zad)) (dv 0))))))) (zag (zbh (zbx (dv 4) (dv 5))))))) (zag (zbh (zbx (dv 1) (zaE (zaa (zcN (zaI zdh) rfl zbg Boot.«list» (zaa (dv 2) zad)) (zaa (zcN (zaI zrA) rfl zc5 Boot.«tuple» (zaa (dv 4) zad)) zad))))))))) (zag (zai (dv 1))))),λds S Q ex h=>by
  unfold zgM at h
  split at h
  ·rename_i b
   obtain⟨es,⟨ds,hd,en⟩,l30,few,h⟩:=h
   refine zvl (n:=b) (xs:=ds) (S:=S++[.lst []]) (λk dl' S'=>∃ds':List D,Pre S S'∧S'[S.length]?=some (.lst ds')∧zba S' ds' (es.take k)∧∃o2 o3 o4 o5:Option D,dl'=[some (.ref b),some (.ref S.length),o2,o3,o4,o5]) (λK hK=>by exact hK) ⟨[],zbK _,zaw _ _,⟨rfl,λi d e a=>by cases a⟩,_,_,_,_,rfl⟩ (λk dl' S' ⟨_,pr,_⟩=>pr _ _ hd) (λk d hx=>?_) ?_ ?_
   ·have hk:k<es.length:=by rw[← en.1]; exact(Vab.mp hx).1
    obtain⟨m,f,rfl,_⟩:=en.2 k d _ hx (Vae hk)
    exact⟨_,rfl,rfl⟩
   ·rintro k ys dl' S' nx ct hx ⟨ds',pr,hM,en',o2,o3,o4,o5,rfl⟩ hn
    have hk:k<es.length:=by rw[← en.1]; exact(Vab.mp hx).1
    have he:=Vae hk
    obtain⟨m,f,ey,hm,hf⟩:=en.2 k _ _ hx he
    have tk:es.take (k+1)=es.take k++[es[k]]:=by rw[Va8,he]; rfl
    obtain⟨lb,lf⟩:=few es[k] (Val he)
    generalize es[k]=e at hm hf tk lb lf
    have ey:ys=[.ref m,f]:=D.tup.inj ey
    subst ey
    obtain⟨xs,rfl,l5,px⟩:=zq5 hf lf
    have ltM:=zaV hM
    refine⟨λi dl2 S2=>i≤xs.length∧(∃qs:List D,Pre S' S2∧S2[S'.length]?=some (.lst qs)∧qs.length=i∧∀(j:Nat) (x y:D),xs[j]?=some x→qs[j]?=some y→Cpy S'.length S S2 x y)∧∃o5:Option D,dl2=[some (.ref b),some (.ref S.length),some (.ref m),some (.tup xs),some (.ref S'.length),o5],⟨VaA _,⟨[],zbK _,zaw _ _,rfl,λj x y _ hy=>by cases hy⟩,_,rfl⟩,?_⟩
    rintro i dl2 S2 ⟨hi,⟨qs,p2,hq,lq,cp⟩,v5,rfl⟩
    have ltq:=zaV hq
    cases hxi:xs[i]? with
    | none=>
     have ei:i=xs.length:=by
      have:=VaJ.mp hxi
      omega
     subst ei
     refine zeK (n:=S.length) (xs:=ds') (λK hK=>by exact hK) (p2 _ _ hM) (λK hK=>?_) (by rw[en'.1,Vaw]; omega)
     refine zdO (o:=.lst (e.1.map frD)) (zaU (p2 _ _ (pr _ _ hm)) rfl) ?_
     refine zqT (zal hq) ?_
     refine hK (.tup [.ref S2.length,.tup qs]) (S2++[.lst (e.1.map frD)]) (zal (p2 _ _ hM)) ?_
     have st:∀(x:Nat) (o:Ob),x≠S.length→S'[x]?=some o→((S2++[Ob.lst (e.1.map frD)]).set S.length (.lst (ds'++[.tup [.ref S2.length,.tup qs]])))[x]?=some o:=λx o nx e=>za5 (zal (p2 x o e)) (Ne.symm nx)
     refine hn _ _ ⟨ds'++[.tup [.ref S2.length,.tup qs]],λx o e=>st x o (by have:=zaV e; omega) (pr x o e),zbj (zal (p2 _ _ hM)),?_,_,_,_,_,rfl⟩
     have en2:=zba.keep hM en' st
     rw[tk]
     refine⟨by rw[Vad,Vad,en'.1]; rfl,λi' d' e' a' b'=>?_⟩
     have le':ds'.length=(es.take k).length:=en'.1
     by_cases ci:i'<ds'.length
     ·rw[Vah ci] at a'
      rw[Vah (by omega)] at b'
      exact en2.2 i' d' e' a' b'
     ·have l1:=(Vab.mp a').1
      simp only[Vad,Vap,VaM] at l1
      have ee:i'=ds'.length:=by omega
      subst ee
      rw[Vaq (Vaa _),VaP] at a'
      rw[Vaq (by omega),le',VaP] at b'
      cases a'
      cases b'
      refine⟨S2.length,.tup qs,rfl,za5 (zaw _ _) (by omega),?_⟩
      refine zpW hf lq λj x y hx hy=>(cp j x y hx hy).keep λa o la ea=>za5 (zal ea) (by omega)
    | some x=>
     have li:i<xs.length:=(Vab.mp hxi).1
     have fin:∀(y:D) (S3:Sto),Pre S2 S3→Cpy S'.length S S3 x y→∃qs2:List D,Pre S' (S3.set S'.length (.lst (qs++[y])))∧(S3.set S'.length (.lst (qs++[y])))[S'.length]?=some (.lst qs2)∧qs2.length=i+1∧∀(j:Nat) (x' y':D),xs[j]?=some x'→qs2[j]?=some y'→Cpy S'.length S (S3.set S'.length (.lst (qs++[y]))) x' y':=λy S3 p3 cy=>by
      have up:∀(a:Nat) (o:Ob),S'.length<a→S3[a]?=some o→(S3.set S'.length (.lst (qs++[y])))[a]?=some o:=λa o la e=>za5 e (by omega)
      refine⟨qs++[y],λa o e=>za5 (p3 a o (p2 a o e)) (by have:=zaV e; omega),zbj (p3 _ _ hq),by rw[Vad,lq]; rfl,λj x' y' hx' hy'=>?_⟩
      by_cases cj:j<qs.length
      ·rw[Vah cj] at hy'
       exact((cp j x' y' hx' hy').keep λa o _ e=>p3 a o e).keep up
      ·have l1:=(Vab.mp hy').1
       simp only[Vad,Vap,VaM] at l1
       have ee:j=qs.length:=by omega
       subst ee
       rw[Vaq (Vaa _),VaP] at hy'
       cases hy'
       rw[lq,hxi] at hx'
       cases hx'
       exact cy.keep up
     rcases px x (Val hxi) with ⟨n,rfl⟩ | ⟨w,rfl⟩ | ⟨mr,vs,rfl,hr,lv⟩
     ·refine zo8 (S1:=S2) (i:=n) (λK hK=>by exact hK) ?_
      refine zb1 (n:=S'.length) (S1:=S2) (xs:=qs) (y:=.int n) (λK hK=>by exact hK) hq (λK hK=>by exact hK) (by omega) ?_
      exact⟨by omega,fin _ S2 (λ_ _ e=>e) (.inl ⟨rfl,.inl ⟨_,rfl⟩⟩),_,rfl⟩
     ·refine zqi (S1:=S2) (w:=w) (λK hK=>by exact hK) ?_
      refine zb1 (n:=S'.length) (S1:=S2) (xs:=qs) (y:=.str w) (λK hK=>by exact hK) hq (λK hK=>by exact hK) (by omega) ?_
      exact⟨by omega,fin _ S2 (λ_ _ e=>e) (.inl ⟨rfl,.inr ⟨_,rfl⟩⟩),_,rfl⟩
     ·have hr2:=p2 _ _ (pr _ _ hr)
      refine zsi (S1:=S2) (n:=mr) (λK hK=>by exact hK) hr2 ?_
      refine zeK (n:=S'.length) (xs:=qs) (λK hK=>by exact hK) hq (λK hK=>?_) (by omega)
      refine zeL (n:=mr) (S1:=S2) (o:=.lst (vs.map frD)) (λd=>d) (λK hK=>by exact hK) hr2 (by show (vs.map frD).length≤1000; rw[Vac]; omega) (λx hx S3 K3 p3 hK3=>?_) ?_
      ·obtain⟨v,_,rfl⟩:=Va4.mp (show x∈vs.map frD from hx)
       refine zpQ (S1:=S3) (xs:=[.int v.1,.int v.2]) (λK hK=>by exact hK) ?_
       exact hK3
      ·have ei:(zaj (Ob.lst (vs.map frD))).map (λd=>d)=vs.map frD:=List.map_id' _
       rw[ei]
       refine hK (.ref S2.length) (S2++[.lst (vs.map frD)]) (zal hq) ?_
       exact⟨by omega,fin _ _ (zbK _) (.inr ⟨mr,S2.length,vs,rfl,rfl,hr,zaw _ _,by omega⟩),_,rfl⟩
   ·rintro dl' S' ⟨ds',pr,hM,en',o2,o3,o4,o5,rfl⟩
    have e:es.take ds.length=es:=Va1 (by rw[en.1]; exact Vaa _)
    rw[e] at en'
    exact h _ _ pr (Vaa _) ⟨ds',hM,en'⟩
  ·exact h.elim⟩)
def zpJ  (zjr:Df K mg "_law_often" ziC zgs)(zaN:mg "range"=none):Fk P w K mg base 1 "_law_often" zgs zfM:=
 zjr.mk' (zaC (k:=0) zjr.F ziR (ztQ) λcdv A outer s H E hr=>⟨_,(zae (zah (i:=2) ziR.nd rfl (Or.inl rfl) zab) (zae (zcR (i:=3) PassesOwn.never rfl ziR.nd rfl (Or.inl rfl) rfl zaN (zaa (dv 1) zad) (zag (zah (i:=2) ziR.nd rfl (Or.inl rfl) (zac zaS (dv 2) (dv 0))))) (zag (zai (dv 2))))),λds S Q ex h=>by
  unfold zfM at h
  split at h
  ·rename_i x n
   obtain⟨⟨h0,h6,sx⟩,h⟩:=h
   refine⟨⟨by omega,by omega⟩,λk dl' S'=>S'=S∧k≤n.toNat∧∃(z:Int) (o:Option D),z=x^k∧dl'=[some (.int x),some (.int n),some (.int z),o],⟨rfl,VaA _,1,none,(Va2 x).symm,rfl⟩,?_⟩
   rintro k dl' S' ⟨rfl,hk,z,o,rfl,rfl⟩
   refine zcK (λc=>?_) (λc=>?_)
   ·exact⟨zaY (m:=12001) (n:=2000) ((sx.pow k).mono (by omega)) sx,rfl,by omega,_,_,(VaI x k).symm,rfl⟩
   ·have e:k=n.toNat:=by omega
    subst e
    exact h
  ·exact h.elim⟩)
def zqA  (zhE:Df K mg "_law_raised" zhq zf6)(zgz:Fk P w K mg base 1 "_law_often" zgs zfM)(zbP:mg "sorted"=none):Fk P w K mg base 2 "_law_raised" zf6 zfE:=
 zhE.mk' (zdH (zaC (k:=1) zhE.F zmU (zdz (zpo)) λcdv A outer s H E hr=>⟨_,(zae (zah (i:=3) zmU.nd rfl (Or.inl rfl) (zaM (zaI zl2) rfl zbP Boot.«sorted» (zaa (zbl (zaa (zam zgz hr (zaa (zaf (dv 0) zab (λ_ _=>rfl)) (zaa (dv 1) zad))) (zaa (zam zgz hr (zaa (zaf (dv 0) zab (λ_ _=>rfl)) (zaa (dv 1) zad))) zad))) zad))) (zae (zaD (PDW.pt (zkf (zaJ (zaP hr) (zac zaK (dv 1) zab) zab (zax _)) (zkj (zkQ zbR zbR (zaf (dv 0) zab (λ_ _=>rfl)) zab (zaf (dv 0) zab (λ_ _=>rfl)))))) (zag (zeH (dv 3) zab zab)) zaF) (zae (zah (i:=4) zmU.nd rfl (Or.inl rfl) (zam zgz hr (zaa (dv 2) (zaa (zac za0 (dv 1) zab) zad)))) (zag (zai (zaE (zaa (zac zbr (zaB (dv 3) zab (λ_ _=>rfl)) (dv 4)) (zaa (zb2 zca (zac zbr (zb2 zca (zaB (dv 3) zab (λ_ _=>rfl))) (dv 4))) zad)))))))),λds S Q ex h=>by
  obtain⟨Q0,ex0,rfl,rfl,h⟩:=h
  unfold zfE at h
  split at h
  ·rename_i a b n g
   obtain⟨⟨n1,n6,sa,sb,g1,g2⟩,h⟩:=h
   have sg:Sz 21 g:=Sz.of 1000000 (by omega)
   have gp:(0:Int)<g^(n.toNat-1):=VaS (by omega)
   have egs:(n-1).toNat=n.toNat-1:=by omega
   have zs:Sz 200 (g^(n.toNat-1)):=(sg.pow _).mono (by omega)
   have zf:CFd 0 (g^(n-1).toNat):=by rw[egs]; exact zs.fd gp
   refine⟨⟨by omega,n6,sa.mono (by decide)⟩,⟨by omega,n6,sb.mono (by decide)⟩,?_⟩
   refine zlJ (n:=S.length) (o:=.lst [.int (a^n.toNat),.int (b^n.toNat)]) (ns:=[a^n.toNat,b^n.toNat]) (zaU (zaw _ _) rfl) rfl (by simp) λms p o=>?_
   have em:=sort2 p o
   subst em
   have fin:∀(lo hi:Int) (T:Sto),Pre S T→lo=zbi a b n.toNat→hi=zci a b n.toNat→Gc S Q0 (.tup [.int (lo/g^(n-1).toNat),.int (-(-hi/g^(n-1).toNat))]) T:=λlo hi T pr e1 e2=>by
    subst e1 e2
    rw[egs]
    exact⟨pr,zel,h⟩
   have low:¬ (n%2=0∧a<0∧0<b)→min (a^n.toNat) (b^n.toNat)=zbi a b n.toNat:=λno=>by
    unfold zbi
    split
    ·rename_i c
     obtain⟨c1,c2,c3⟩:=c
     have z1:=zdo c1 a
     have z2:=zdo c1 b
     have z0:a=0∨b=0:=by omega
     rcases z0 with rfl | rfl
     ·rw[ze1 (show 1≤n.toNat by omega)] at z1 ⊢
      omega
     ·rw[ze1 (show 1≤n.toNat by omega)] at z2 ⊢
      omega
    ·rfl
   have zbe:∀lo:Int,lo=zbi a b n.toNat→∀T:Sto,Pre S T→T[S.length+1]?=some (.lst [.int lo,.int (max (a^n.toNat) (b^n.toNat))])→True:=λ_ _ _ _ _=>trivial
   have tail:∀(lo:Int) (T:Sto),lo=zbi a b n.toNat→Pre S T→T[(S++[Ob.lst [.int (a^n.toNat),.int (b^n.toNat)]]).length]?=some (.lst [.int lo,.int (max (a^n.toNat) (b^n.toNat))])→((0≤n-1∧n-1≤6∧Sz 2000 g)∧zbA wIx (.ref (S++[Ob.lst [.int (a^n.toNat),.int (b^n.toNat)]]).length) (.int 0) T λx T1=>wI CFd (λi j=>.int (i/j)) x (.int (g^(n-1).toNat)) T1 λy T2=>zbA wIx (.ref (S++[Ob.lst [.int (a^n.toNat),.int (b^n.toNat)]]).length) (.int 1) T2 λu T3=>wNeg u T3 λu' T4=>wI CFd (λi j=>.int (i/j)) u' (.int (g^(n-1).toNat)) T4 λz T5=>wNeg z T5 λz' T6=>Gc S Q0 (.tup [y,z']) T6):=λlo T e1 pr hT=>by
    refine⟨⟨by omega,by omega,sg.mono (by decide)⟩,?_⟩
    refine zaz (o:=.lst [.int lo,.int (max (a^n.toNat) (b^n.toNat))]) hT (d:=.int lo) rfl ?_
    refine⟨zf,?_⟩
    refine zaz (o:=.lst [.int lo,.int (max (a^n.toNat) (b^n.toNat))]) hT (d:=.int (max (a^n.toNat) (b^n.toNat))) rfl ?_
    exact⟨zf,fin _ _ _ pr e1 rfl⟩
   have T0:Pre S ((S++[Ob.lst [.int (a^n.toNat),.int (b^n.toNat)]])++[Ob.lst ([min (a^n.toNat) (b^n.toNat),max (a^n.toNat) (b^n.toNat)].map D.int)]):=Pre.refl.push.push
   refine ifD (λe=>?_) (λe=>?_)
   ·refine ifD (λc1=>?_) (λc1=>?_)
    ·refine ifD (λc2=>?_) (λc2=>?_)
     ·refine ztP (n:=(S++[Ob.lst [.int (a^n.toNat),.int (b^n.toNat)]]).length) (k:=0) (j:=0) (v:=.int 0) (λK hK=>by exact hK) (λK hK=>by exact hK) (λK hK=>by exact hK) (zaw _ _) rfl ?_
      refine tail 0 _ ?_ (zlt T0 (by simp)) (zbj (zaw _ _))
      unfold zbi
      rw[if_pos ⟨by omega,by omega,by omega⟩]
     ·exact tail _ _ (low λz=>c2 z.2.2) T0 (zaw _ _)
    ·exact tail _ _ (low λz=>c1 z.2.1) T0 (zaw _ _)
   ·exact tail _ _ (low λz=>e z.1) T0 (zaw _ _)
  ·exact h.elim⟩))
def ztS  (zhY:Df K mg "_law_plus" zhR zfw):Fk P w K mg base 1 "_law_plus" zfw zgc:=
 zhY.mk' (zaC (k:=0) zhY.F zry (zps) λcdv A outer s H E hr=>⟨_,(zag (zai (zaE (zaa (zac zaH (zaf (dv 0) zab (λ_ _=>rfl)) (zaf (dv 1) zab (λ_ _=>rfl))) (zaa (zac zaH (zaf (dv 0) zab (λ_ _=>rfl)) (zaf (dv 1) zab (λ_ _=>rfl))) zad))))),λds S Q ex h=>by
  unfold zgc at h
  split at h
  ·exact h
  ·exact h.elim⟩)
def ztv  (ziJ:Df K mg "_law_less" zkx zeT):Fk P w K mg base 1 "_law_less" zeT zgL:=
 ziJ.mk' (zaC (k:=0) ziJ.F zqH (zuL) λcdv A outer s H E hr=>⟨_,(zag (zai (zaE (zaa (zac za0 (zaf (dv 0) zab (λ_ _=>rfl)) (zaf (dv 1) zab (λ_ _=>rfl))) (zaa (zac za0 (zaf (dv 0) zab (λ_ _=>rfl)) (zaf (dv 1) zab (λ_ _=>rfl))) zad))))),λds S Q ex h=>by
  unfold zgL at h
  split at h
  ·exact h
  ·exact h.elim⟩)
def zsX  (zhZ:Df K mg "_law_product" zhU zeP)(zbP:mg "sorted"=none):Fk P w K mg base 1 "_law_product" zeP zha:=
 zhZ.mk' (zdH (zaC (k:=0) zhZ.F zoF (zdz (zp2)) λcdv A outer s H E hr=>⟨_,(zae (zah (i:=3) zoF.nd rfl (Or.inl rfl) (zaM (zaI zl2) rfl zbP Boot.«sorted» (zaa (zbl (zaa (zac zaS (zaf (dv 0) zab (λ_ _=>rfl)) (zaf (dv 1) zab (λ_ _=>rfl))) (zaa (zac zaS (zaf (dv 0) zab (λ_ _=>rfl)) (zaf (dv 1) zab (λ_ _=>rfl))) (zaa (zac zaS (zaf (dv 0) zab (λ_ _=>rfl)) (zaf (dv 1) zab (λ_ _=>rfl))) (zaa (zac zaS (zaf (dv 0) zab (λ_ _=>rfl)) (zaf (dv 1) zab (λ_ _=>rfl))) zad))))) zad))) (zag (zai (zaE (zaa (zac zbr (zaB (dv 3) zab (λ_ _=>rfl)) (dv 2)) (zaa (zb2 zca (zac zbr (zb2 zca (zaB (dv 3) zab (λ_ _=>rfl))) (dv 2))) zad)))))),λds S Q ex h=>by
  obtain⟨Q0,ex0,rfl,rfl,h⟩:=h
  unfold zha at h
  split at h
  ·rename_i a b c d g
   obtain⟨⟨sa,sb,sc,sd,g1,g2⟩,h⟩:=h
   have sg:Sz 21 g:=Sz.of 1000000 (by omega)
   refine⟨zaY sa sc,zaY sa sd,zaY sb sc,zaY sb sd,?_⟩
   refine zlJ (n:=S.length) (o:=.lst [.int (a*c),.int (a*d),.int (b*c),.int (b*d)]) (ns:=[a*c,a*d,b*c,b*d]) (zaU (zaw _ _) rfl) rfl (by simp) λms p o=>?_
   obtain⟨x,y,rfl⟩:=sort4 p o
   refine zaz (o:=.lst ([mn4 a b c d,x,y,mx4 a b c d].map D.int)) (zaw _ _) (d:=.int (mn4 a b c d)) rfl ?_
   refine⟨sg.fd (by omega),?_⟩
   refine zaz (o:=.lst ([mn4 a b c d,x,y,mx4 a b c d].map D.int)) (zaw _ _) (d:=.int (mx4 a b c d)) rfl ?_
   exact⟨sg.fd (by omega),Pre.refl.push.push,zel,h⟩
  ·exact h.elim⟩))
def zpv  (zj9:Df K mg "_law_forth" zhn ze0)(zmN:Fk P w K mg base 1 "_law_product" zeP zha)(zlP:Fk P w K mg base 1 "_law_less" zeT zgL)(zm1:Fk P w K mg base 1 "_law_plus" zfw zgc)(zl1:Fk P w K mg base 2 "_law_raised" zf6 zfE):Fk P w K mg base 3 "_law_forth" ze0 zgt:=
 zj9.mk' (zaC (k:=2) zj9.F ziz (zub) λcdv A outer s H E hr=>⟨_,(zae (zah (i:=4) ziz.nd rfl (Or.inl rfl) (zaf (dv 0) zab (λ_ _=>rfl))) (zae (zaD (zaJ (zaP hr) (dv 4) zaR (zax _)) (zag (zai (zaE (zaa (zac zbr (zac zaS (zaf (dv 0) zab (λ_ _=>rfl)) (dv 3)) (zaf (dv 0) zab (λ_ _=>rfl))) (zaa (zb2 zca (zac zbr (zac zaS (zb2 zca (zaf (dv 0) zab (λ_ _=>rfl))) (dv 3)) (zaf (dv 0) zab (λ_ _=>rfl)))) zad))))) zaF) (zae (zaD (zaJ (zaP hr) (dv 4) zaR (zax _)) (zag (zai (zaB (dv 2) (zaf (dv 0) zab (λ_ _=>rfl)) (λ_ _=>rfl)))) zaF) (zae (zah (i:=5) ziz.nd rfl (Or.inl rfl) (zaB (dv 1) (zaf (dv 0) zab (λ_ _=>rfl)) (λ_ _=>rfl))) (zae (zaD (zaJ (zaP hr) (dv 4) zaR (zax _)) (zag (zai (zam zl1 hr (zaa (dv 5) (zaa (zaf (dv 0) zab (λ_ _=>rfl)) (zaa (dv 3) zad)))))) zaF) (zae (zah (i:=6) ziz.nd rfl (Or.inl rfl) (zaB (dv 1) (zaf (dv 0) zab (λ_ _=>rfl)) (λ_ _=>rfl))) (zae (zaD (zaJ (zaP hr) (dv 4) zaR (zax _)) (zag (zai (zam zm1 hr (zaa (dv 5) (zaa (dv 6) zad))))) zaF) (zae (zaD (zaJ (zaP hr) (dv 4) zaR (zax _)) (zag (zai (zam zlP hr (zaa (dv 5) (zaa (dv 6) zad))))) zaF) (zag (zai (zam zmN hr (zaa (dv 5) (zaa (dv 6) (zaa (dv 3) zad)))))))))))))),λds S Q ex h=>by
  unfold zgt at h
  split at h
  ·rename_i d w p g
   obtain⟨v,vs,bs,rfl,hw,hp,ok,s1,hg,h⟩:=h
   have sg:Sz 21 g:=Sz.of 1000000 (by omega)
   cases v with
   | number x y=>
    have sx:Sz 31 x:=Sz.of (10^9) ok.2.2
    have sy:Sz 31 y:=Sz.of (10^9) (by have:=ok.1; omega)
    refine⟨zaY sx sg,sy.fd (by have:=ok.1; omega),zaY sx.neg sg,sy.fd (by have:=ok.1; omega),?_⟩
    have e:-x*g=-(x*g):=VaO _ _
    show Q (.tup [.int (x*g/y),.int (-(-x*g/y))]) S
    rw[e]
    exact h
   | unknown k=>exact zaz (o:=.lst (bs.map frD)) hp (zbn ok) h
   | power i m=>
    have a:=s1.at ok.1
    obtain⟨ok1,m2,m6⟩:=ok
    refine zaz (o:=.lst (vs.map frD)) hw (zbn ok1) ?_
    exact⟨⟨by omega,m6,a.2.1,a.2.2,hg.1,hg.2⟩,h⟩
   | times i j=>
    have a:=s1.at ok.1
    have b:=s1.at ok.2
    refine zaz (o:=.lst (vs.map frD)) hw (zbn ok.1) ?_
    refine zaz (o:=.lst (vs.map frD)) hw (zbn ok.2) ?_
    exact⟨⟨a.2.1.mono (by decide),a.2.2.mono (by decide),b.2.1.mono (by decide),b.2.2.mono (by decide),hg.1,hg.2⟩,h⟩
   | plus i j=>
    refine zaz (o:=.lst (vs.map frD)) hw (zbn ok.1) ?_
    exact zaz (o:=.lst (vs.map frD)) hw (zbn ok.2) h
   | minus i j=>
    refine zaz (o:=.lst (vs.map frD)) hw (zbn ok.1) ?_
    exact zaz (o:=.lst (vs.map frD)) hw (zbn ok.2) h
  ·exact h.elim⟩)
def ztE  (zjs:Df K mg "_law_forged" zkA zfx)(zby:mg "min"=none)(zbM:mg "max"=none):Fk P w K mg base 1 "_law_forged" zfx zfv:=
 zjs.mk' (zaC (k:=0) zjs.F zi0 (zvC) λcdv A outer s H E hr=>⟨_,(zae (zah (i:=2) zi0.nd rfl (Or.inl rfl) (zac zaK (dv 1) zab)) (zae (zaD (zaJ (zaP hr) (dv 2) zab (zax _)) (zag (zai (zaE (zaa (zac za0 (zaf (dv 0) zab (λ_ _=>rfl)) (zac zaK (zac zaW (dv 1) zab) zab)) (zaa (zac zaH (zaf (dv 0) zab (λ_ _=>rfl)) (zac zaK (zac zaW (dv 1) zab) zab)) zad))))) zaF) (zae (zaD (zaJ (zaP hr) (dv 2) zab (zax _)) (zag (zai (zaE (zaa (zac zaH (zac zaH (zaf (dv 0) zab (λ_ _=>rfl)) zab) (zac zaK (zac zaW (dv 1) zab) zab)) (zaa (zaM (zlz rfl) rfl zbM Boot.«max» (zaa (zaf (dv 0) zab (λ_ _=>rfl)) (zaa (zac zaH (zac zaH (zaf (dv 0) zab (λ_ _=>rfl)) zab) (zac zaK (zac zaW (dv 1) zab) zab)) zad))) zad))))) zaF) (zae (zaD (zaJ (zaP hr) (dv 2) zab (zax _)) (zag (zai (zaE (zaa (zaM (zhI rfl) rfl zby Boot.«min» (zaa (zaf (dv 0) zab (λ_ _=>rfl)) (zaa (zac za0 (zac za0 (zaf (dv 0) zab (λ_ _=>rfl)) zab) (zac zaK (zac zaW (dv 1) zab) zab)) zad))) (zaa (zac za0 (zac za0 (zaf (dv 0) zab (λ_ _=>rfl)) zab) (zac zaK (zac zaW (dv 1) zab) zab)) zad))))) zaF) (zae (zaD (PDW.pt (zkf (zaJ (zaP hr) (dv 2) zab (zax _)) (zkj (zaJ zbR (zac zaW (dv 1) zab) (zac zcg zab zab) (zax _))))) (zae (zah (i:=3) zi0.nd rfl (Or.inl rfl) (zac za0 (zac zaK (zac zaW (dv 1) zab) zab) zab)) (zag (zai (zaE (zaa (dv 3) (zaa (zac zaH (dv 3) (zac zaK (zac zaW (dv 1) zab) zab)) zad)))))) zaF) (zae (zaD (zaJ (zaP hr) (dv 2) zab (zax _)) (zae (zah (i:=3) zi0.nd rfl (Or.inl rfl) (zac za0 (zac zbk (zac zaW (dv 1) zab) (zac zaH (zac zaS zab (zac zcg zab zab)) zab)) (zac zcg zab zab))) (zag (zai (zaE (zaa (dv 3) (zaa (zac zaH (dv 3) (zac zbk (zac zbr (zac zaW (dv 1) zab) (zac zaH (zac zaS zab (zac zcg zab zab)) zab)) (zac zcg zab zab))) zad)))))) zaF) (zag (zai (dv 0))))))))),λds S Q ex h=>by
  unfold zfv at h
  split at h
  ·rename_i a b c
   obtain⟨ab,h⟩:=h
   refine ifD (λe0=>?_) (λe0=>?_)
   ·exact h _ _ (by omega) (by omega) (by omega)
   refine ifD (λe1=>?_) (λe1=>?_)
   ·exact h _ _ (by dsimp only; split <;> omega) (by omega) (by dsimp only; split <;> omega)
   refine ifD (λe2=>?_) (λe2=>?_)
   ·exact h _ _ (by dsimp only; split <;> omega) (by dsimp only; split <;> omega) (by omega)
   have mo:IntMulOk 2 (10^Int.toNat 20):=zaY (m:=10) (n:=100) (Sz.of 10 (by decide)) (Sz.of (10^20) (by decide))
   refine ifD (λe3=>?_) (λe3=>?_)
   ·refine ifD (λe4=>?_) (λe4=>?_)
    ·exact h _ _ (by omega) (by omega) (by omega)
    ·refine ifD (λ_=>?_) (λe=>absurd e3 e)
     have r1:=zaZ (a:=c/5) (b:=2*10^20+1) (by decide)
     have r2:=zaZ (a:=c/5/(2*10^20+1)) (b:=10^20) (by decide)
     refine⟨mo,?_⟩
     refine⟨by show (0:Int)<2*10^20+1; decide,?_⟩
     refine⟨mo,?_⟩
     refine⟨⟨by show (0:Int)<2*10^20+1; decide,by show (2*10^20+1:Int).natAbs.log2<9000; decide⟩,?_⟩
     refine⟨by show (0:Int)<10^20; decide,?_⟩
     have k1:∀u1 u2:Int,(0≤u1∧u1<2*10^20+1)→(0≤u2∧u2<10^20)→Q (.tup [.int (u1-10^Int.toNat 20),.int (u1-10^Int.toNat 20+u2)]) S:=λu1 u2 x y=>h (u1-10^20) (u1-10^20+u2) (by omega) (by omega) (by omega)
     exact k1 _ _ r1 r2
   ·refine ifD (λe=>absurd e e3) (λ_=>?_)
    exact h a b ab (by omega) (by omega)
  ·exact h.elim⟩)
def zuo  (zi5:Df K mg "_law_last" zhi zgu):Fk P w K mg base 1 "_law_last" zgu zfN:=
 zi5.mk' (zaC (k:=0) zi5.F zmt (zpl) λcdv A outer s H E hr=>⟨_,(zae (zah (i:=3) zmt.nd rfl (Or.inl rfl) (zac zbk (zac zaW (dv 2) zab) (zac zcg zab zab))) (zae (zah (i:=4) zmt.nd rfl (Or.inl rfl) (zac zaH (zac zbk (zac zbr (zac zaW (dv 2) zab) (zac zcg zab zab)) (zac zcg zab zab)) (zac zaS (zac zaK (zac zaW (dv 2) zab) zab) zab))) (zae (zaD (PDW.pt (zkf (zcQ (zbI (dv 1))) (zkj (zaJ (zaP hr) (dv 0) zaR (zax _))))) (zag (zai (zaE (zaa zab (zaa zab zad))))) zaF) (zae (zaD (zcQ (zbI (dv 1))) (zag (zai (zaE (zaa (dv 3) (zaa (zac zaH (dv 3) (dv 4)) zad))))) zaF) (zae (zaD (PDW.pt (zkf (zaJ (zaP hr) (dv 0) zaR (zax _)) (zkj (zaJ (zaP hr) (zac zaK (dv 2) zab) zab (zax _))))) (zag (zai (zaE (zaa (zac zaH zab (dv 3)) (zaa (zac zaH (zac zaH zab (dv 3)) (dv 4)) zad))))) zaF) (zag (zai (zaE (zaa (zac za0 (zac za0 (zb2 zca zab) (dv 3)) (dv 4)) (zaa (zac za0 (zb2 zca zab) (dv 3)) zad)))))))))),λds S Q ex h=>by
  unfold zfN at h
  split at h
  ·rename_i w f c
   obtain⟨z,rfl,h⟩:=h
   have r1:=zaZ (a:=c/4) (b:=10^20) (by decide)
   have r2:=zaZ (a:=c/4/10^20) (b:=10^20) (by decide)
   have r3:=zaZ (a:=c/2) (b:=2) (by decide)
   refine⟨by show (0:Int)<10^20; decide,?_⟩
   refine⟨⟨by show (0:Int)<10^20; decide,by show (10^20:Int).natAbs.log2<9000; decide⟩,?_⟩
   refine⟨by show (0:Int)<10^20; decide,?_⟩
   refine⟨zaY (m:=10) (n:=10) (Sz.of 10 (by omega)) (Sz.of 100 (by decide)),?_⟩
   cases f <;> cases z
   ·have k1:∀u1 u2 w:Int,(0≤u1∧u1<10^20)→(0≤u2∧u2<10^20)→(0≤w∧w<2)→Q (.tup [.int u1,.int (u1+(u2+w*50))]) S:=λu1 u2 w x y t=>h (u1,u1+(u2+w*50)) (by dsimp only; omega) (by dsimp only; omega) (by dsimp only; omega) (λe=>nomatch e) (λ_=>by show (0:Int)≤u1; omega)
    exact k1 _ _ _ r1 r2 r3
   ·exact h (0,0) (by decide) (by decide) (by decide) (λe=>nomatch e) (λ_=>⟨rfl,rfl⟩)
   ·have k1:∀u1 u2 w:Int,(0≤u1∧u1<10^20)→(0≤u2∧u2<10^20)→(0≤w∧w<2)→Q (.tup [.int (-1-u1-(u2+w*50)),.int (-1-u1)]) S:=λu1 u2 w x y t=>h (-1-u1-(u2+w*50),-1-u1) (by dsimp only; omega) (by dsimp only; omega) (by dsimp only; omega) (λ_=>by show -1-u1<0; omega) (λe=>nomatch e)
    exact k1 _ _ _ r1 r2 r3
   ·have k1:∀u1 u2 w:Int,(0≤u1∧u1<10^20)→(0≤u2∧u2<10^20)→(0≤w∧w<2)→Q (.tup [.int (-1-u1-(u2+w*50)),.int (-1-u1)]) S:=λu1 u2 w x y t=>h (-1-u1-(u2+w*50),-1-u1) (by dsimp only; omega) (by dsimp only; omega) (by dsimp only; omega) (λ_=>.inr (by show -1-u1<0; omega)) (λe=>nomatch e)
    have k2:∀u1 u2 w:Int,(0≤u1∧u1<10^20)→(0≤u2∧u2<10^20)→(0≤w∧w<2)→Q (.tup [.int (1+u1),.int (1+u1+(u2+w*50))]) S:=λu1 u2 w x y t=>h (1+u1,1+u1+(u2+w*50)) (by dsimp only; omega) (by dsimp only; omega) (by dsimp only; omega) (λ_=>.inl (by show 0<1+u1; omega)) (λe=>nomatch e)
    refine ifD (λe=>?_) (λe=>?_)
    ·exact k2 _ _ _ r1 r2 r3
    ·exact k1 _ _ _ r1 r2 r3
  ·exact h.elim⟩)
def zpk  (zjJ:Df K mg "_law_paper" zjl zfD)(zlW:Fk P w K mg base 1 "_law_last" zgu zfN)(za6:Fk P w K mg base 2 "_law_cell" zcU zc0)(zmi:Fk P w K mg base 1 "_law_forged" zfx zfv)(zl9:Fk P w K mg base 3 "_law_forth" ze0 zgt)(zaN:mg "range"=none)(zav:mg "len"=none):Fk P w K mg base 4 "_law_paper" zfD zfA:=
 zjJ.mk' (zaC (k:=3) zjJ.F zeG (zqM) λcdv A outer s H E hr=>⟨_,(zae (zah (i:=7) zeG.nd rfl (Or.inl rfl) (zbl zad)) (zae (zah (i:=8) zeG.nd rfl (Or.inl rfl) (zaf (zaB (dv 2) (dv 3) (λ_ _=>rfl)) zab (λ_ _=>rfl))) (zae (zaD (zcQ (zbI (dv 4))) (zag (zah (i:=8) zeG.nd rfl (Or.inl rfl) (zac za0 (zaM (zaI za1) rfl zav Boot.«len» (zaa (dv 1) zad)) zab))) zaF) (zae (zcR (i:=9) PassesOwn.never rfl zeG.nd rfl (Or.inl rfl) rfl zaN (zaa (zac zaH (dv 8) zab) zad) (zae (zah (i:=10) zeG.nd rfl (Or.inl rfl) (zam zl9 hr (zaa (zaB (dv 1) (dv 9) (λ_ _=>rfl)) (zaa (dv 7) (zaa (dv 5) (zaa (dv 6) zad)))))) (zag (zbh (zbx (dv 7) (zam zmi hr (zaa (dv 10) (zaa (zam za6 hr (zaa (dv 0) (zaa (zac zaH zab (dv 9)) zad))) zad)))))))) (zae (zeH (dv 7) (zaf (zaB (dv 2) (dv 3) (λ_ _=>rfl)) zab (λ_ _=>rfl)) (zam zlW hr (zaa (zaf (zaB (dv 2) (dv 3) (λ_ _=>rfl)) zab (λ_ _=>rfl)) (zaa (dv 4) (zaa (zam za6 hr (zaa (dv 0) (zaa zab zad))) zad))))) (zae (zaD (zbI (dv 4)) (zag (zai (zaE (zaa zaR (zaa (dv 3) (zaa (dv 7) zad)))))) zaF) (zag (zai (zaE (zaa zaR (zaa (dv 7) zad))))))))))),λds S Q ex h=>by
  unfold zfA at h
  split at h
  ·rename_i sc nd rw at_ ft bx g
   obtain⟨cs,ns,ws,rows,bs,ai,z,j,hs,hnd,hrw,hbx,net,l2,sb,hg,rfl,hr,hj,h⟩:=h
   have hra:atI (rows.map rwD) (ai:Int)=some (rwD (z,j)):=zcl (by rw[Vag,hr]; rfl)
   obtain⟨L,eL⟩:∃L:Nat,(if ft then j+1 else ns.length)=L:=⟨_,rfl⟩
   rw[eL] at h
   have lL:j<L∧L≤ns.length:=by
    cases ft <;> simp at eL <;> omega
   refine seqV3 (λdl' S'=>S'=S++[.lst []]∧dl'=[some (.ref sc),some (.ref nd),some (.ref rw),some (.int (ai:Int)),some (.bl ft),some (.ref bx),some (.int g),some (.ref S.length),some (.int ((L:Int)-1)),none,none]) (λnx hx=>?_) ?_
   ·refine zaz (o:=.lst (rows.map rwD)) (zal hrw) hra ?_
    cases ft
    ·refine za7 (zal hnd) ?_
     rw[Vac]
     have e:ns.length=L:=eL
     exact hx _ _ ⟨rfl,by rw[← e]; rfl⟩
    ·have e:j+1=L:=eL
     exact hx _ _ ⟨rfl,by rw[← e,show ((j+1:Nat):Int)-1=(j:Int) by omega]; rfl⟩
   rintro dl' S' ⟨rfl,rfl⟩
   have w1:∀us:List (Int×Int),us.length≤ns.length→∀i:Int,inR us.length i→1≤ws.getD i.toNat 0:=λus hu i hi=>(net.w1 (i:=i) ⟨hi.1,by have:=hi.2; omega⟩).1
   have w16:∀us:List (Int×Int),us.length≤ns.length→∀k:Nat,k<us.length→ws.getD k 0≤16:=λus hu k hk=>by
    have z:=(net.w1 (i:=(k:Int)) ⟨by omega,by omega⟩).2
    rwa [Vaj] at z
   refine za9 (λdl' T=>∃us:List (Int×Int),Pre S T∧T[S.length]?=some (.lst (us.map frD))∧us.length=L∧SzX ws us∧∃o9 o10:Option D,dl'=[some (.ref sc),some (.ref nd),some (.ref rw),some (.int (ai:Int)),some (.bl ft),some (.ref bx),some (.int g),some (.ref S.length),some (.int ((L:Int)-1)),o9,o10]) (λnx hx=>?_) ?_
   ·refine⟨⟨by omega,by omega⟩,λk dl' T=>k≤L∧∃us:List (Int×Int),Pre S T∧T[S.length]?=some (.lst (us.map frD))∧us.length=k∧SzX ws us∧∃o9 o10:Option D,dl'=[some (.ref sc),some (.ref nd),some (.ref rw),some (.int (ai:Int)),some (.bl ft),some (.ref bx),some (.int g),some (.ref S.length),some (.int ((L:Int)-1)),o9,o10],⟨VaA _,[],zbK _,zaw _ _,rfl,λk p hp=>by simp at hp,_,_,rfl⟩,?_⟩
    rintro k dl' T ⟨hk,us,pr,hu,lu,sw,o9,o10,rfl⟩
    rw[show ((L:Int)-1+1).toNat=L by omega]
    refine zcK (λc=>?_) (λc=>?_)
    ·have hkv:k<ns.length:=by omega
     have hv:=Vae hkv
     generalize ns[k]=v at hv
     have okv:v.ok us.length bs.length:=by rw[lu]; exact(net.ok k v hv).1
     have sp:=sw.spn (w16 us (by omega))
     refine zaz (o:=.lst (ns.map Nd.d)) (pr _ _ hnd) (zoe hv) ?_
     refine⟨v,us,bs,rfl,hu,pr _ _ hbx,okv,sp,hg,?_⟩
     have zz:=fw_x2 sw sb hg (w1 us (by omega)) v okv
     have le:=Nd.fw_le (sp.mono (by decide:1400≤6000)) (sb.mono (by decide)) hg.1 v okv
     have ew:ws.getD us.length 0=v.wt ws:=by rw[lu]; exact(net.ok k v hv).2.1
     have wp:=(net.ok k v hv).2.2.1
     refine zeK (n:=S.length) (xs:=us.map frD) (λK hK=>by exact hK) hu (λK hK=>?_) (by rw[Vac]; omega)
     refine⟨cs,pr _ _ hs,⟨by omega,by omega⟩,λx=>?_⟩
     refine⟨le,λa b ab sa sb'=>?_⟩
     have s1:Sz (80*v.wt ws-1) a:=by
      have q:=znA zz.1 zz.2 (by omega) sa
      rwa [show 80*v.wt ws-2+1=80*v.wt ws-1 by omega] at q
     have s2:Sz (80*v.wt ws-1) b:=by
      have q:=znA zz.1 zz.2 (by omega) sb'
      rwa [show 80*v.wt ws-2+1=80*v.wt ws-1 by omega] at q
     refine hK (frD (a,b)) T hu ?_
     refine⟨by omega,us++[(a,b)],λx o e=>za5 (pr x o e) (by have:=zaV e; omega),by rw[Vav]; exact zbj hu,by rw[Vad,lu]; rfl,sw.snoc ab (by rw[ew]; exact s1) (by rw[ew]; exact s2),_,_,rfl⟩
    ·have e:k=L:=by omega
     subst e
     exact hx _ _ ⟨us,pr,hu,lu,sw,_,_,rfl⟩
   rintro dl' T ⟨us,pr,hu,lu,sw,o9,o10,rfl⟩
   have spu:=sw.spn (w16 us (by omega))
   have ixj:ixN (us.map frD).length (j:Int)=some j:=by
    rw[Vac]
    have q:=zh2 (n:=us.length) (i:=(j:Int)) ⟨by omega,by omega⟩
    rw[Vaj] at q
    exact q
   refine za9 (λdl' U=>∃p:Int×Int,U=T.set S.length (.lst ((us.set j p).map frD))∧p.1≤p.2∧p.1.natAbs≤3*10^20∧p.2.natAbs≤3*10^20∧(ft=true→zdi z p)∧(ft=false→zdb z p)∧dl'=[some (.ref sc),some (.ref nd),some (.ref rw),some (.int (ai:Int)),some (.bl ft),some (.ref bx),some (.int g),some (.ref S.length),some (.int ((L:Int)-1)),o9,o10]) (λnx hx=>?_) ?_
   ·refine zrB (S:=T) (n:=S.length) (j:=j) (k:=(j:Int)) (xs:=us.map frD) (λd=>∃p:Int×Int,d=frD p∧p.1≤p.2∧p.1.natAbs≤3*10^20∧p.2.natAbs≤3*10^20∧(ft=true→zdi z p)∧(ft=false→zdb z p)) (λK hK=>?_) (λK hK=>by exact hK) (λK hK=>?_) hu ixj ?_
    ·refine zaz (o:=.lst (rows.map rwD)) (pr _ _ hrw) hra ?_
     refine⟨cs,pr _ _ hs,⟨by decide,by decide⟩,λx=>?_⟩
     exact⟨z,by cases z <;> rfl,λp p1 p2 p3 p4 p5=>hK _ ⟨p,rfl,p1,p2,p3,p4,p5⟩⟩
    ·refine zaz (o:=.lst (rows.map rwD)) (pr _ _ hrw) hra ?_
     exact hK
    ·rintro d ⟨p,rfl,p1,p2,p3,p4,p5⟩
     rw[← List.map_set]
     exact hx _ _ ⟨p,rfl,p1,p2,p3,p4,p5,rfl⟩
   rintro dl' U ⟨p,rfl,p1,p2,p3,p4,p5,rfl⟩
   have prU:Pre S (T.set S.length (.lst ((us.set j p).map frD))):=λx o e=>za5 (pr x o e) (by have:=zaV e; omega)
   have hU:(T.set S.length (.lst ((us.set j p).map frD)))[S.length]?=some (.lst ((us.set j p).map frD)):=zbj hu
   have lv:(us.set j p).length=L:=by rw[VaK]; exact lu
   have gj:gt (us.set j p) (j:Int)=p:=znv (VaD (by omega))
   have sz:∀x:Int,x.natAbs≤3*10^20→Sz 1400 x:=λx hx=>(Sz.of (n:=69) (3*10^20) hx).mono (by decide)
   have spv:Spn 1400 (us.set j p):=spu.set1 ⟨p1,sz _ p2,sz _ p3⟩
   rw[← gj] at p4 p5
   cases ft
   ·exact h _ _ (us.set j p) prU ⟨S.length,rfl,hU⟩ lv spv p4 p5
   ·exact h _ _ (us.set j p) prU ⟨S.length,rfl,hU⟩ lv spv p4 p5
  ·exact h.elim⟩)
def zuB  (zil:Df K mg "law" zct zkl)(zk5:Fk P w K mg base 8 "right_book" ze8 zgB)(zjF:Fk P w K mg base 1 "_law_copied" zgo zgM)(zlR:Fk P w K mg base 4 "_law_paper" zfD zfA)(zmd:Fk P w K mg base 1 "_law_tree" zgT zeU)(za6:Fk P w K mg base 2 "_law_cell" zcU zc0)(zlm:Fk P w K mg base 3 "_law_others" zfa zgV)(zlx:Fk P w K mg base 3 "_law_row" zfz zeM)(zm0:Fk P w K mg base 3 "_law_grow" zfy zgJ)(zdN:Fk P w K mg base 1 "_law_free" zdT zeA)(zly:Fk P w K mg base 2 "_law_factors" zgG zfo)(zmT:Fk P w K mg base 3 "_law_any_room" zg9 zgE)(zl0:Fk P w K mg base 1 "_law_point" zf4 zgD)(zl8:Fk P w K mg base 1 "_law_side" ze9 zgK)(zl6:Fk P w K mg base 1 "_law_grid" zgh zfG)(zbg:mg "list"=none)(zav:mg "len"=none)(zaN:mg "range"=none)(zdr:mg "int"=none):Fk P w K mg base 9 "law" zkl zej:=
 zil.mk' (zaC (k:=8) zil.F zbq zqc λcdv A outer s H E hr=>⟨_,(zae (zah (i:=1) zbq.nd rfl (Or.inl rfl) (zac zaH zab (zac zaK (zam za6 hr (zaa (dv 0) (zaa zab zad))) zab))) (zae (zah (i:=2) zbq.nd rfl (Or.inl rfl) (zam zl6 hr (zaa (zam za6 hr (zaa (dv 0) (zaa zab zad))) zad))) (zae (znt (x:="_law_k") (N:=["_law_script"]) (caps:=[0]) (ar:=zak zct) rfl rfl csc rfl (by decide) (i:=3) zbq.nd rfl rfl rfl zaN (zaa (dv 1) zad) (λ_ _ _ _ _ _=>zcu) (λ_ _ _ _ _ _=>(zam zl8 hr (zaa (zam za6 hr (zaa (dv 1) (zaa (zac zaH zab (zac zaS zab (dv 0))) zad))) (zaa (zam za6 hr (zaa (dv 1) (zaa (zac zaH zab (zac zaS zab (dv 0))) zad))) zad))))) (zae (zah (i:=4) zbq.nd rfl (Or.inr rfl) (zac zaH zab (zac zaK (zam za6 hr (zaa (dv 0) (zaa zab zad))) zab))) (zae (zah (i:=5) zbq.nd rfl (Or.inl rfl) (zam zl0 hr (zaa (dv 3) (zaa (zmz (x:="_law_k") (N:=["_law_script","_law_share"]) (caps:=[0,4]) (ar:=zak zct) rfl rfl csc rfl (by decide) rfl zaN (zaa (dv 1) zad) (λ_ _ _ _ _ _=>zcu) (λ_ _ _ _ _ _=>(zac zbk (zam za6 hr (zaa (dv 1) (zaa (zac zaH zab (dv 0)) zad))) (zac zaH (dv 2) zab)))) (zaa (dv 4) (zaa (dv 2) zad)))))) (zae (zaD (zbI (zam zdN hr (zaa (dv 0) zad))) (zag (zmI (is:=[3,5]) rfl zbq.nd (Nms.cons (i:=3) rfl (Or.inl rfl) (by first | exact .inl rfl | exact .inr rfl) (Nms.cons (i:=5) rfl (Or.inl rfl) (by first | exact .inl rfl | exact .inr rfl) Nms.nil)) (zam zmT hr (zaa (dv 0) (zaa (dv 1) (zaa (dv 2) zad)))))) zaF) (zae (znt (x:="_law_k") (N:=[]) (caps:=[]) (ar:=zak zct) rfl rfl csc rfl (by decide) (i:=6) zbq.nd rfl rfl rfl zaN (zaa (dv 1) zad) (λ_ _ _ _ _ _=>zcu) (λ_ _ _ _ _ _=>(zaE (zaa zaR (zaa (dv 0) zad))))) (zae (zah (i:=7) zbq.nd rfl (Or.inl rfl) (zam zly hr (zaa (dv 6) (zaa (dv 5) (zaa (dv 2) zad))))) (zae (zoV (x:="_law_node") (N:=[]) (caps:=[]) (ar:=zak zct) rfl rfl csc rfl (by decide) (i:=8) zbq.nd rfl rfl (dv 6) (λ_ _ _ _ _ _=>zcu) (λ_ _ _ _ _ _=>(zac zaH zab (zcN zvt rfl zdr Boot.«int» (zaa (zbf (zaP hr) (zaf (dv 0) zab (λ_ _=>rfl)) zaR (zax _)) zad))))) (zae (zpm (i:=9) PassesOwn.never rfl zbq.nd rfl (Or.inl rfl) rfl zaN (zaa zab (zaa zab zad)) (zag (zbh (zam zm0 hr (zaa (dv 6) (zaa (dv 8) (zaa (zam za6 hr (zaa (dv 0) (zaa (dv 9) zad))) (zaa (zac za0 (zac zbr zab (dv 1)) zab) (zaa (zam zdN hr (zaa (dv 0) zad)) zad))))))))) (zae (zah (i:=10) zbq.nd rfl (Or.inl rfl) (zbf (zom hr) (zac zaK (zac zaW (zam za6 hr (zaa (dv 0) (zaa zab zad))) zab) zab) zab (zax _))) (zae (zah (i:=11) zbq.nd rfl (Or.inl rfl) (zam zlx hr (zaa (dv 0) (zaa (dv 6) (zaa (dv 7) (zaa (dv 10) zad)))))) (zae (zah (i:=12) zbq.nd rfl (Or.inl rfl) (zbl (zaa (dv 11) zad))) (zae (zbh (zam zlm hr (zaa (dv 0) (zaa (dv 12) (zaa (zaM (zaI za1) rfl zav Boot.«len» (zaa (dv 6) zad)) zad))))) (zae (zmI (is:=[13,14]) rfl zbq.nd (Nms.cons (i:=13) rfl (Or.inl rfl) (by first | exact .inl rfl | exact .inr rfl) (Nms.cons (i:=14) rfl (Or.inl rfl) (by first | exact .inl rfl | exact .inr rfl) Nms.nil)) (zam zmd hr (zaa (dv 3) (zaa (dv 5) (zaa (zam za6 hr (zaa (dv 0) (zaa zab zad))) (zaa (dv 2) zad)))))) (zae (zah (i:=15) zbq.nd rfl (Or.inl rfl) (zbl (zaa (zcN (zaI zdh) rfl zbg Boot.«list» (zaa (dv 6) zad)) (zaa (zcN (zaI zdh) rfl zbg Boot.«list» (zaa (dv 12) zad)) (zaa (zcN (zaI zdh) rfl zbg Boot.«list» (zaa (dv 3) zad)) zad))))) (zae (zaD (zaJ zpg (zam zk5 hr (zaa (zaB (dv 15) zab (λ_ _=>rfl)) (zaa (zaB (dv 15) zab (λ_ _=>rfl)) (zaa (zaB (dv 15) zab (λ_ _=>rfl)) (zaa (dv 2) (zaa (zam zjF hr (zaa (dv 13) zad)) zad)))))) zcW (zax _)) (zag (zai zcW)) zaF) (zae (zah (i:=16) zbq.nd rfl (Or.inl rfl) (zam zlR hr (zaa (dv 0) (zaa (dv 6) (zaa (dv 12) (zaa (zlS (k:=1) hr (by decide) (dv 12) (zaa (dv 11) zad)) (zaa (dv 10) (zaa (zaf (zaB (dv 13) (dv 14) (λ_ _=>rfl)) zab (λ_ _=>rfl)) (zaa (dv 2) zad))))))))) (zae (zeH (dv 13) (dv 14) (zaE (zaa (zaf (zaB (dv 13) (dv 14) (λ_ _=>rfl)) zab (λ_ _=>rfl)) (zaa (dv 16) zad)))) (zae (zah (i:=17) zbq.nd rfl (Or.inl rfl) (zam zjF hr (zaa (dv 13) zad))) (zae (zah (i:=18) zbq.nd rfl (Or.inl rfl) (zam zk5 hr (zaa (zaB (dv 15) zab (λ_ _=>rfl)) (zaa (zaB (dv 15) zab (λ_ _=>rfl)) (zaa (zaB (dv 15) zab (λ_ _=>rfl)) (zaa (dv 2) (zaa (dv 17) zad))))))) (zag (zai (zcs (zbf zqm (dv 18) zcW (zax _)) (zcs (zbf (znw hr) (dv 15) (zbl (zaa (dv 6) (zaa (dv 12) (zaa (dv 3) zad)))) (zax _)) (zcG (zbf (znw hr) (dv 17) (dv 13) (zax _)))))))))))))))))))))))))))),λds S Q ex h=>by
  obtain⟨cs,rfl,rfl,hl,h⟩:=h
  refine za9 (λdl' S'=>S'=[.frz (cs.map D.int)]∧∃q:Nat,(1≤q∧q≤2)∧dl'=[some (.ref 0),some (.int (q:Int)),none,none,none,none,none,none,none,none,none,none,none,none,none,none,none,none,none]) (λnx hx=>?_) ?_
  ·refine⟨cs,rfl,⟨by decide,by decide⟩,λv0=>?_⟩
   obtain⟨q,eq,q1,q2⟩:∃q:Nat,(1:Int)+v0%2=(q:Int)∧1≤q∧q≤2:=⟨(1+v0%2).toNat,by omega,by omega,by omega⟩
   exact hx _ _ ⟨rfl,q,⟨q1,q2⟩,by rw[← eq]; rfl⟩
  rintro dl' S' ⟨rfl,q,⟨q1,q2⟩,rfl⟩
  refine za9 (λdl' S'=>S'=[.frz (cs.map D.int)]∧∃g:Int,(1≤g∧g≤1000000)∧dl'=[some (.ref 0),some (.int (q:Int)),some (.int g),none,none,none,none,none,none,none,none,none,none,none,none,none,none,none,none]) (λnx hx=>?_) ?_
  ·refine⟨cs,rfl,⟨by decide,by decide⟩,λv1=>?_⟩
   intro g hg g2
   exact hx _ _ ⟨rfl,g,⟨hg,g2⟩,rfl⟩
  rintro dl' S' ⟨rfl,g,hg,rfl⟩
  refine za9 (λdl' S'=>∃ps:List (Int×Int),S'=[.frz (cs.map D.int),.lst (ps.map frD)]∧ps.length=q∧(∀p∈ps,p.1≤p.2∧p.1.natAbs≤2000000∧p.2.natAbs≤2000000)∧dl'=[some (.ref 0),some (.int (q:Int)),some (.int g),some (.ref 1),none,none,none,none,none,none,none,none,none,none,none,none,none,none,none]) (λnx hx=>?_) ?_
  ·have m2:∀k:Int,IntMulOk 2 k:=λk=>IntMulOk.of_left (by decide)
   refine zos (j:=(q:Nat)) (S1:=[.frz (cs.map D.int)]) (λ_ d=>∃p,d=frD p∧(p.1≤p.2∧p.1.natAbs≤2000000∧p.2.natAbs≤2000000)) (λK hK=>by exact hK) ⟨by omega,by omega⟩ (λk hk S2 K pr hK=>?_) (λxs lx hx'=>?_)
   ·refine⟨m2 _,cs,zml pr rfl,⟨by omega,by omega⟩,λa=>?_⟩
    refine⟨m2 _,cs,zml pr rfl,⟨by omega,by omega⟩,λb=>?_⟩
    exact λt b h1 h2 h3=>hK _ ⟨(t,b),rfl,h1,h2,h3⟩
   obtain⟨ps,rfl,gp⟩:=znp xs hx'
   rw[Vac] at lx
   exact hx _ _ ⟨ps,rfl,by omega,gp,rfl⟩
  rintro dl' S' ⟨ps,rfl,lps,gp,rfl⟩
  refine za9 (λdl' S'=>S'=[.frz (cs.map D.int),.lst (ps.map frD)]∧∃W:Int,(1≤W∧W≤60)∧dl'=[some (.ref 0),some (.int (q:Int)),some (.int g),some (.ref 1),some (.int W),none,none,none,none,none,none,none,none,none,none,none,none,none,none]) (λnx hx=>?_) ?_
  ·refine⟨cs,rfl,⟨by decide,by decide⟩,λv2=>?_⟩
   exact hx _ _ ⟨rfl,1+v2%60,by omega,rfl⟩
  rintro dl' S' ⟨rfl,W,hW,rfl⟩
  have sb:Spn 51 ps:=λp hp=>⟨(gp p hp).1,Sz.of (n:=51) (10^15) (by have:=(gp p hp).2.1; omega),Sz.of (n:=51) (10^15) (by have:=(gp p hp).2.2; omega)⟩
  refine za9 (λdl' S'=>∃(mp:Nat) (P:List (Int×Int)),S'[0]?=some (.frz (cs.map D.int))∧S'[1]?=some (.lst (ps.map frD))∧S'[mp]?=some (.lst (P.map frD))∧1≠mp∧P.length=q∧InW g ps P∧(∀p∈P,1≤p.2∧p.2≤10^9∧p.1.natAbs≤10^9)∧dl'=[some (.ref 0),some (.int (q:Int)),some (.int g),some (.ref 1),some (.int W),some (.ref mp),none,none,none,none,none,none,none,none,none,none,none,none,none]) (λnx hx=>?_) ?_
  ·refine zos (j:=(q:Nat)) (S1:=[.frz (cs.map D.int),.lst (ps.map frD)]) (λ_ d=>∃t:Int,d=.int t∧(0≤t∧t≤W)) (λK hK=>by exact hK) ⟨by omega,by omega⟩ (λk hk S2 K pr hK=>?_) (λxs lx hx'=>?_)
   ·refine⟨cs,zml pr rfl,⟨by omega,by omega⟩,λa=>?_⟩
    have rz:=zaZ (a:=a) (b:=W+1) (by omega)
    exact⟨show (0:Int)<W+1 by omega,hK _ ⟨_,rfl,rz.1,by omega⟩⟩
   obtain⟨ts,rfl,gts⟩:=znk xs hx'
   rw[Vac] at lx
   have lts:ps.length=ts.length:=by omega
   refine⟨ps,ts,rfl,rfl,lts,by omega,sb,hW,gts,hg,λT m pr lm hP=>?_⟩
   refine hx _ _ ⟨m,pts ps ts W g ps.length,pr _ _ rfl,pr _ _ rfl,hP,by have:3≤m:=lm; omega,by rw[zmL]; exact lps,zqb sb hW gts hg lts,λp hp=>?_,rfl⟩
   obtain⟨k,hk,rfl⟩:=Va4.mp hp
   have hk':=List.mem_range.mp hk
   obtain⟨t,b,_,_,a,_,_⟩:=zlo sb hW gts hg hk' lts
   have z:=gp _ (zfW (i:=(k:Int)) ⟨by omega,by omega⟩)
   have a1:((gt ps k).1*W).natAbs≤2000000*60:=by rw[Va7]; exact VaU z.2.1 (by omega)
   have a2:(((gt ps k).2-(gt ps k).1)*ts.getD k 0).natAbs≤4000000*60:=by rw[Va7]; exact VaU (by omega) (by omega)
   have a3:(g*W).natAbs≤1000000*60:=by rw[Va7]; exact VaU (by omega) (by omega)
   refine⟨a,?_,?_⟩
   ·show g*W≤10^9
    omega
   ·show ((gt ps k).1*W+((gt ps k).2-(gt ps k).1)*ts.getD k 0).natAbs≤10^9
    omega
  rintro dl' S' ⟨mp,P,h0,hB,hP,nbp,lP,iw,bp,rfl⟩
  refine za9 (λdl' S'=>∃(mb mp:Nat) (B P:List (Int×Int)) (o4:Option D),S'[0]?=some (.frz (cs.map D.int))∧S'[mb]?=some (.lst (B.map frD))∧S'[mp]?=some (.lst (P.map frD))∧mb≠mp∧B.length=q∧P.length=q∧Spn 51 B∧InW g B P∧(∀p∈P,1≤p.2∧p.2≤10^9∧p.1.natAbs≤10^9)∧dl'=[some (.ref 0),some (.int (q:Int)),some (.int g),some (.ref mb),o4,some (.ref mp),none,none,none,none,none,none,none,none,none,none,none,none,none]) (λnx hx=>?_) ?_
  ·refine⟨cs,h0,?_⟩
   cases frS cs
   ·exact hx _ _ ⟨1,mp,ps,P,_,h0,hB,hP,nbp,lps,lP,sb,iw,bp,rfl⟩
   ·refine⟨cs,q,h0,⟨rfl,by omega⟩,hg,λT m1 m2 B2 P2 pr _ _ ne hB2 hP2 l1 l2 sB2 iw2 bp2=>?_⟩
    exact⟨rfl,hx _ _ ⟨m1,m2,B2,P2,_,pr _ _ h0,hB2,hP2,ne,l1,l2,sB2,iw2,bp2,rfl⟩⟩
  clear h0 hB hP nbp lP iw bp sb hW gp lps
  clear mp P ps W
  rintro dl' S' ⟨mb,mp,B,P,o4,h0,hB,hP,nbp,lB,lP,sb,iw,bp,rfl⟩
  refine za9 (λdl' S2=>S2=S'++[.lst (((List.range q).map λ(k:Nat)=>Nd.unknown (k:Int)).map Nd.d)]∧dl'=[some (.ref 0),some (.int (q:Int)),some (.int g),some (.ref mb),o4,some (.ref mp),some (.ref S'.length),none,none,none,none,none,none,none,none,none,none,none,none]) (λnx hx=>?_) ?_
  ·refine zqQ (j:=(q:Nat)) (S1:=S') (λk=>.tup [.str "unknown",.int (k:Int)]) (λK hK=>by exact hK) ⟨by omega,by omega⟩ (λk hk S2 K pr hK=>by exact hK) ?_
   have eN:((List.range ((q:Nat):Int).toNat).map λ(k:Nat)=>D.tup [.str "unknown",.int (k:Int)])=((List.range q).map λ(k:Nat)=>Nd.unknown (k:Int)).map Nd.d:=by
    rw[List.map_map,Vaj]
    rfl
   rw[eN]
   exact hx _ _ ⟨rfl,rfl⟩
  rintro dl' S2 ⟨rfl,rfl⟩
  refine za9 (λdl' S2=>∃(mf:Nat) (vs:List Nd) (ws fs:List Nat),S2[0]?=some (.frz (cs.map D.int))∧S2[mb]?=some (.lst (B.map frD))∧S2[mp]?=some (.lst (P.map frD))∧S2[S'.length]?=some (.lst (vs.map Nd.d))∧S2[mf]?=some (.lst (fs.map wtD))∧S'.length<mf∧zaL q vs ws∧(1≤vs.length∧vs.length≤10)∧fs.length=q∧(∀f∈fs,f<vs.length∧ws.getD f 0=2∧(gt (zap P vs) (f:Int)).1=0)∧(∀(i:Nat) (v:Nd),vs[i]?=some v→ws.getD i 0=v.hv)∧dl'=[some (.ref 0),some (.int (q:Int)),some (.int g),some (.ref mb),o4,some (.ref mp),some (.ref S'.length),some (.ref mf),none,none,none,none,none,none,none,none,none,none,none]) (λnx hx=>?_) ?_
  ·have net0:=zpH q
   have hun:∀(i:Nat) (v:Nd),((List.range q).map λ(k:Nat)=>Nd.unknown (k:Int))[i]?=some v→v=.unknown i:=λi v hi=>by
    rw[Vag] at hi
    obtain⟨j,hj,rfl⟩:=VaF.mp hi
    obtain⟨_,e⟩:=Vab.mp hj
    rw[List.getElem_range] at e
    rw[e]
   have l0:=zaV h0
   have l1:=zaV hB
   have l2:=zaV hP
   refine⟨q,P,(List.range q).map λ(k:Nat)=>Nd.unknown (k:Int),(List.range q).map λ_=>1,zaw _ _,zal hP,by omega,net0,by omega,by omega,by rw[Vac,Vba]; omega,λk hk=>by rw[Vag,List.getElem?_range hk]; rfl,λi v hi=>?_,bp,λT2 mf ms us fs net2 l8 hN hF lf zf hv lmf kp=>?_⟩
   ·rw[hun i v hi,(net0.ok i v hi).2.1,hun i v hi]
    rfl
   have lmf':S'.length+1≤mf:=by simpa using lmf
   exact hx _ _ ⟨mf,_,_,fs,kp _ _ (by omega) (zal h0),kp _ _ (by omega) (zal hB),kp _ _ (by omega) (zal hP),hN,hF,by omega,net2,by rw[Vad,Vac,Vba]; omega,lf,zf,hv,rfl⟩
  have l1:=zaV hB
  have l2:=zaV hP
  have l0:=zaV h0
  clear h0 hB hP
  generalize S'.length=mn at l0 l1 l2 ⊢
  rintro dl' S2 ⟨mf,vs,ws,fs,h0,hB,hP,hN,hF,lmf,net,lv,lf,zf,hv,rfl⟩
  have lw:=net.len
  refine za9 (λdl' S3=>S3=S2++[.lst (ws.map wtD)]∧dl'=[some (.ref 0),some (.int (q:Int)),some (.int g),some (.ref mb),o4,some (.ref mp),some (.ref mn),some (.ref mf),some (.ref S2.length),none,none,none,none,none,none,none,none,none,none]) (λnx hx=>?_) ?_
  ·refine znQ (n:=mn) (o:=.lst (vs.map Nd.d)) (S1:=S2) (λk d=>d=wtD (ws.getD k 0)) (λK hK=>by exact hK) hN (by show (vs.map Nd.d).length≤1000; rw[Vac]; omega) (λk x hk S3 K pr hK=>?_) (λys ly hy=>?_)
   ·have hx':(vs.map Nd.d)[k]?=some x:=hk
    rw[Vag] at hx'
    obtain⟨v,ev,rfl⟩:=VaF.mp hx'
    have e:=hv k v ev
    have z:=hK _ rfl
    rw[e] at z
    cases v <;> exact z
   ·have ly':ys.length=vs.length:=by
     rw[ly]
     show (vs.map Nd.d).length=_
     rw[Vac]
    have ey:ys=ws.map wtD:=List.ext_getElem? λi=>by
     cases c:ys[i]? with
     | none=>
      have:=VaJ.mp c
      rw[Vag,List.getElem?_eq_none (by omega)]
      rfl
     | some d=>
      have:=(Vab.mp c).1
      rw[hy i d c,Vag,Vas,Vae (by omega)]
      rfl
    rw[ey]
    exact hx _ _ ⟨rfl,rfl⟩
  rintro dl' S3 ⟨rfl,rfl⟩
  obtain⟨M,eM,M2,M15⟩:∃M:Nat,(15:Int)/((q:Nat):Int)-2=(M:Int)∧2≤M∧q*(M+2)≤15:=by
   have e:q=1∨q=2:=by omega
   rcases e with e | e <;> rw[e]
   ·exact⟨13,rfl,by decide,by decide⟩
   ·exact⟨5,rfl,by decide,by decide⟩
  have wM:∀i:Nat,ws.getD i 0≤M:=λi=>by
   by_cases ci:i<vs.length
   ·have e:=hv i _ (Vae ci)
    have:vs[i].hv≤2:=by cases vs[i] <;> simp[Nd.hv]
    omega
   ·rw[Vas,List.getElem?_eq_none (by omega)]
    exact VaA _
  have lnN:=zaV hN
  have lnF:=zaV hF
  have W1:(S2++[Ob.lst (ws.map wtD)])[0]?=some (.frz (cs.map D.int)):=zal h0
  have W2:(S2++[Ob.lst (ws.map wtD)])[mb]?=some (.lst (B.map frD)):=zal hB
  have W3:(S2++[Ob.lst (ws.map wtD)])[mp]?=some (.lst (P.map frD)):=zal hP
  have W4:(S2++[Ob.lst (ws.map wtD)])[mf]?=some (.lst (fs.map wtD)):=zal hF
  have W5:(S2++[Ob.lst (ws.map wtD)])[mn]?=some (.lst (vs.map Nd.d)):=zal hN
  have W6:(S2++[Ob.lst (ws.map wtD)])[S2.length]?=some (.lst (ws.map wtD)):=zaw _ _
  clear h0 hB hP hF hN hv
  generalize S2++[Ob.lst (ws.map wtD)]=S3 at W1 W2 W3 W4 W5 W6 ⊢
  generalize S2.length=mh at W6 lnN lnF ⊢
  refine za9 (λdl' S4=>∃(xs:List Nd) (wx:List Nat) (o9:Option D),S4[0]?=some (.frz (cs.map D.int))∧S4[mb]?=some (.lst (B.map frD))∧S4[mp]?=some (.lst (P.map frD))∧S4[mf]?=some (.lst (fs.map wtD))∧S4[mn]?=some (.lst (xs.map Nd.d))∧zaL q xs wx∧(1≤xs.length∧xs.length≤18)∧(∀i:Nat,wx.getD i 0≤M)∧(∀f∈fs,f<xs.length∧wx.getD f 0=2∧(gt (zap P xs) (f:Int)).1=0)∧dl'=[some (.ref 0),some (.int (q:Int)),some (.int g),some (.ref mb),o4,some (.ref mp),some (.ref mn),some (.ref mf),some (.ref mh),o9,none,none,none,none,none,none,none,none,none]) (λnx hx=>?_) ?_
  ·refine⟨⟨by decide,by decide,by decide,by decide⟩,λk dl' S4=>k≤8∧∃(ms:List Nd) (us:List Nat) (o9:Option D),S4[0]?=some (.frz (cs.map D.int))∧S4[mb]?=some (.lst (B.map frD))∧S4[mp]?=some (.lst (P.map frD))∧S4[mf]?=some (.lst (fs.map wtD))∧S4[mn]?=some (.lst ((vs++ms).map Nd.d))∧S4[mh]?=some (.lst ((ws++us).map wtD))∧zaL q (vs++ms) (ws++us)∧ms.length≤k∧(∀i:Nat,(ws++us).getD i 0≤M)∧dl'=[some (.ref 0),some (.int (q:Int)),some (.int g),some (.ref mb),o4,some (.ref mp),some (.ref mn),some (.ref mf),some (.ref mh),o9,none,none,none,none,none,none,none,none,none],⟨by decide,[],[],none,W1,W2,W3,W4,by rw[Vai]; exact W5,by rw[Vai]; exact W6,by rw[Vai,Vai]; exact net,Vaa _,by rw[Vai]; exact wM,rfl⟩,?_⟩
   rintro k dl' S4 ⟨k8,ms,us,o9,Y1,Y2,Y3,Y4,Y5,Y6,net',lm',wM',rfl⟩
   refine zcK (λc=>?_) (λc=>?_)
   ·have c':k<8:=c
    refine⟨cs,Y1,⟨by omega,by omega⟩,λx=>?_⟩
    refine⟨(Sz.of (n:=30) 1000 (show ((q:Nat):Int).natAbs≤1000 by omega)).fd (by omega),cs,Y1,?_⟩
    refine⟨q,vs++ms,ws++us,Y5,Y6,by omega,net',by rw[Vad]; omega,by rw[Vad]; omega,show (15:Int)/((q:Nat):Int)-2≤16 by rw[eM]; have:M+2≤15:=Vaz (Nat.le_mul_of_pos_left (M+2) q1) M15; omega,λT3 m3 u3 n3 hu l3 t1 t2 lT kT=>?_⟩
    obtain⟨u4,rfl,hu⟩:=hu
    rw[Vat] at t1 t2
    rw[Vat,Vat] at n3
    have w3:∀i:Nat,(ws++(us++u4)).getD i 0≤M:=λi=>by
     rw[← Vat]
     by_cases ci:i<(ws++us).length
     ·rw[zbF ci]
      exact wM' i
     ·rw[Vas,Vaq (by omega)]
      cases ew:u4[i-(ws++us).length]? with
      | none=>exact VaA _
      | some w=>
       have z:=hu w (Val ew)
       have z':w=1∨(w:Int)≤(15:Int)/((q:Nat):Int)-2:=z
       rw[eM] at z'
       show w≤M
       omega
    exact⟨by omega,ms++m3,us++u4,_,kT _ _ (by omega) (by omega) Y1,kT _ _ (by omega) (by omega) Y2,kT _ _ (by omega) (by omega) Y3,kT _ _ (by omega) (by omega) Y4,t1,t2,n3,by rw[Vad]; omega,w3,rfl⟩
   ·refine hx _ _ ⟨vs++ms,ws++us,o9,Y1,Y2,Y3,Y4,Y5,net',by rw[Vad]; omega,wM',λf hf=>?_,rfl⟩
    obtain⟨z1,z2,z3⟩:=zf f hf
    refine⟨by rw[Vad]; omega,?_,?_⟩
    ·rw[zbF (by omega)]
     exact z2
    ·rw[zbB ⟨by omega,by omega⟩]
     exact z3
  clear W1 W2 W3 W4 W5 W6 wM zf net lw lv
  clear vs ws
  rintro dl' S4 ⟨xs,wx,o9,h0,hB,hP,hF,hN,net,lx,wM,zf,rfl⟩
  have pz:Pz 110 P:=λp hp=>⟨(bp p hp).1,Sz.of (n:=110) (10^9) (by have:=bp p hp; omega),Sz.of (n:=110) (10^9) (by have:=bp p hp; omega)⟩
  refine za9 (λdl' S5=>S5=S4∧∃ft:Bool,dl'=[some (.ref 0),some (.int (q:Int)),some (.int g),some (.ref mb),o4,some (.ref mp),some (.ref mn),some (.ref mf),some (.ref mh),o9,some (.bl ft),none,none,none,none,none,none,none,none]) (λnx hx=>?_) ?_
  ·refine⟨cs,h0,⟨by decide,by decide⟩,λv=>?_⟩
   exact hx _ _ ⟨rfl,_,rfl⟩
  rintro dl' S5 ⟨rfl,ft,rfl⟩
  have lnN:=zaV hN
  refine za9 (λdl' S6=>∃(z:Bool) (j:Nat) (ys:List Nd) (wy:List Nat),S6[0]?=some (.frz (cs.map D.int))∧S6[mb]?=some (.lst (B.map frD))∧S6[mp]?=some (.lst (P.map frD))∧S6[mn]?=some (.lst (ys.map Nd.d))∧zaL q ys wy∧ys.length≤40∧j<ys.length∧(ft=true→(gt (zap P ys) (j:Int)).1=0)∧(ft=false→(gt (zap P ys) (j:Int)).1<0)∧dl'=[some (.ref 0),some (.int (q:Int)),some (.int g),some (.ref mb),o4,some (.ref mp),some (.ref mn),some (.ref mf),some (.ref mh),o9,some (.bl ft),some (rwD (z,j)),none,none,none,none,none,none,none]) (λnx hx=>?_) ?_
  ·refine⟨cs,q,M,P,xs,wx,fs,h0,hN,hF,by omega,net,⟨by omega,by omega⟩,by rw[lf]; exact M15,by omega,lP,pz,λi _=>wM i,zf,λT z j ms us n1 l1' t1 hj d1 d2 lT kT=>?_⟩
   exact hx _ _ ⟨z,j,xs++ms,wx++us,kT _ _ (by omega) h0,kT _ _ (by omega) hB,kT _ _ (by omega) hP,t1,n1,by rw[Vad]; omega,hj,d1,d2,rfl⟩
  clear h0 hB hP hF hN net lx wM zf lnN
  clear xs wx
  rintro dl' S6 ⟨z,j,ys,wy,h0,hB,hP,hN,net,ly,hj,d1,d2,rfl⟩
  refine za9 (λdl' S7=>S7=S6++[.lst ([(z,j)].map rwD)]∧dl'=[some (.ref 0),some (.int (q:Int)),some (.int g),some (.ref mb),o4,some (.ref mp),some (.ref mn),some (.ref mf),some (.ref mh),o9,some (.bl ft),some (rwD (z,j)),some (.ref S6.length),none,none,none,none,none,none]) (λnx hx=>hx _ _ ⟨rfl,rfl⟩) ?_
  rintro dl' S7 ⟨rfl,rfl⟩
  have n0:=zaV h0
  have n1:=zaV hB
  have n2:=zaV hP
  have n3:=zaV hN
  refine za9 (λdl' S7=>∃rows:List (Bool×Nat),S7[0]?=some (.frz (cs.map D.int))∧S7[mb]?=some (.lst (B.map frD))∧S7[mp]?=some (.lst (P.map frD))∧S7[mn]?=some (.lst (ys.map Nd.d))∧S7[S6.length]?=some (.lst (rows.map rwD))∧(z,j)∈rows∧rows.length≤3∧dl'=[some (.ref 0),some (.int (q:Int)),some (.int g),some (.ref mb),o4,some (.ref mp),some (.ref mn),some (.ref mf),some (.ref mh),o9,some (.bl ft),some (rwD (z,j)),some (.ref S6.length),none,none,none,none,none,none]) (λnx hx=>?_) ?_
  ·refine za7 (zal hN) ?_
   rw[Vac]
   refine⟨cs,[(z,j)],ys.length,zal h0,zaw _ _,rfl,by omega,by omega,by simp,λx hx=>by rw[VaE.mp hx]; exact hj,λT rows r1 r2 r3 t1 lT kT=>?_⟩
   exact hx _ _ ⟨rows,kT _ _ (by omega) (zal h0),kT _ _ (by omega) (zal hB),kT _ _ (by omega) (zal hP),kT _ _ (by omega) (zal hN),t1,r2 _ (VaE.mpr rfl),r3,rfl⟩
  clear h0 hB hP hN
  generalize S6.length=mr at n0 n1 n2 n3 ⊢
  rintro dl' S7 ⟨rows,h0,hB,hP,hN,hR,hzr,lr,rfl⟩
  refine za9 (λdl' S8=>∃(mk hn:Nat) (es:List En) (hb:List (Int×Int)),S8[0]?=some (.frz (cs.map D.int))∧S8[mb]?=some (.lst (B.map frD))∧S8[mn]?=some (.lst (ys.map Nd.d))∧S8[mr]?=some (.lst (rows.map rwD))∧mr<mk∧zbV S8 mk es∧TrI B es hn hb∧es.length≤5∧Spn 51 hb∧InW g hb P∧dl'=[some (.ref 0),some (.int (q:Int)),some (.int g),some (.ref mb),o4,some (.ref mp),some (.ref mn),some (.ref mf),some (.ref mh),o9,some (.bl ft),some (rwD (z,j)),some (.ref mr),some (.ref mk),some (.int (hn:Int)),none,none,none,none]) (λnx hx=>?_) ?_
  ·refine⟨cs,h0,⟨by decide,by decide⟩,λc=>?_⟩
   refine⟨B,P,hB,hP,by omega,⟨by omega,by omega⟩,sb,iw,hg,pz,λT m es hn hb pr lm bk tr le5 sh ih=>?_⟩
   have:=zaV hR
   exact⟨rfl,hx _ _ ⟨m,hn,es,hb,pr _ _ h0,pr _ _ hB,pr _ _ hN,pr _ _ hR,by omega,bk,tr,le5,sh,ih,rfl⟩⟩
  clear h0 hB hP hN hR
  rintro dl' S8 ⟨mk,hn,es,hb,h0,hB,hN,hR,lmk,bk,tr,le5,sh,ih,rfl⟩
  obtain⟨ds,hK,en⟩:=bk
  have nK:=zaV hK
  refine za9 (λdl' S9=>∃i1 i2 i3 md:Nat,Pre S8 S9∧S9[i1]?=some (.lst (ys.map Nd.d))∧S9[i2]?=some (.lst (rows.map rwD))∧S9[i3]?=some (.lst (B.map frD))∧S9[md]?=some (.lst [.ref i1,.ref i2,.ref i3])∧mk<i1∧mk<i2∧mk<i3∧mk<md∧dl'=[some (.ref 0),some (.int (q:Int)),some (.int g),some (.ref mb),o4,some (.ref mp),some (.ref mn),some (.ref mf),some (.ref mh),o9,some (.bl ft),some (rwD (z,j)),some (.ref mr),some (.ref mk),some (.int (hn:Int)),some (.ref md),none,none,none]) (λnx hx=>?_) ?_
  ·refine zdO (zaU hN rfl) ?_
   refine zdO (zaU (zal hR) rfl) ?_
   refine zdO (zaU (zal (zal hB)) rfl) ?_
   dsimp only[zaj]
   refine hx _ _ ⟨_,_,_,_,zeR (zeR (zeR (zeR Pre.refl _) _) _) _,zal (zal (zal (zaw _ _))),zal (zal (zaw _ _)),zal (zaw _ _),zaw _ _,by omega,by simp; omega,by simp; omega,by simp; omega,rfl⟩
  rintro dl' S9 ⟨i1,i2,i3,md,p9,A1,A2,A3,AD,m1,m2,m3,m4,rfl⟩
  replace h0:=p9 _ _ h0
  replace hB:=p9 _ _ hB
  replace hN:=p9 _ _ hN
  replace hR:=p9 _ _ hR
  replace hK:=p9 _ _ hK
  replace en:=en.pre p9
  clear p9
  have les:1≤es.length:=by
   obtain⟨f,e⟩:=tr.z
   have:=(Vab.mp e).1
   omega
  have fewE:∀e∈es,e.2.few:=λe he=>by
   obtain⟨k,ek⟩:=List.mem_iff_getElem?.mp he
   exact zq7 (tr.good k e ek)
  have netB:zaL B.length ys wy:=by rw[lB]; exact net
  refine za9 (λdl' S10=>Pre S9 S10∧dl'=[some (.ref 0),some (.int (q:Int)),some (.int g),some (.ref mb),o4,some (.ref mp),some (.ref mn),some (.ref mf),some (.ref mh),o9,some (.bl ft),some (rwD (z,j)),some (.ref mr),some (.ref mk),some (.int (hn:Int)),some (.ref md),none,none,none]) (λnx hx=>?_) ?_
  ·refine zaz (i:=0) (o:=.lst [.ref i1,.ref i2,.ref i3]) AD (d:=.ref i1) rfl ?_
   refine zaz (i:=1) (o:=.lst [.ref i1,.ref i2,.ref i3]) AD (d:=.ref i2) rfl ?_
   refine zaz (i:=2) (o:=.lst [.ref i1,.ref i2,.ref i3]) AD (d:=.ref i3) rfl ?_
   refine⟨es,⟨ds,hK,en⟩,by omega,λe he=>⟨by rw[tr.all e he]; omega,fewE e he⟩,λT m pr lm bkT=>?_⟩
   refine⟨ys,wy,rows,B,es,pr _ _ A3,bkT,⟨les,by omega⟩,tr.z,tr.all,tr.prt,pr _ _ A1,pr _ _ A2,netB,by omega,hg,.inl ⟨tr.good,λT2 p2=>?_⟩⟩
   exact hx _ _ ⟨λx o e=>p2 _ _ (pr _ _ e),rfl⟩
  rintro dl' S10 ⟨p10,rfl⟩
  replace h0:=p10 _ _ h0
  replace hB:=p10 _ _ hB
  replace hN:=p10 _ _ hN
  replace hR:=p10 _ _ hR
  replace hK:=p10 _ _ hK
  replace en:=en.pre p10
  replace A1:=p10 _ _ A1
  replace A2:=p10 _ _ A2
  replace A3:=p10 _ _ A3
  replace AD:=p10 _ _ AD
  clear p10
  obtain⟨d0,ed,m,f,rfl,hm,hf⟩:=en.get tr.hold
  obtain⟨i,ei,er⟩:=znd hzr
  have lhb:hb.length=B.length:=tr.all (hb,.waits) (Val tr.hold)
  have hm':S10[m]?=some (.lst (hb.map frD)):=hm
  refine za9 (λdl' S11=>∃(d:D) (vs:List (Int×Int)),Pre S10 S11∧zcm S11 d (zbw ft i vs)∧vs.length=(if ft then j+1 else ys.length)∧Spn 1400 vs∧(ft=true→zdi z (gt vs (j:Int)))∧(ft=false→zdb z (gt vs (j:Int)))∧dl'=[some (.ref 0),some (.int (q:Int)),some (.int g),some (.ref mb),o4,some (.ref mp),some (.ref mn),some (.ref mf),some (.ref mh),o9,some (.bl ft),some (rwD (z,j)),some (.ref mr),some (.ref mk),some (.int (hn:Int)),some (.ref md),some d,none,none]) (λnx hx=>?_) ?_
  ·refine zva (x:=(z,j)) (rows:=rows) (n:=mr) (λK hK=>by exact hK) (λK hK=>by exact hK) hR ei ?_
   refine zaz (o:=.lst ds) hK (zcM ed) ?_
   refine⟨cs,ys,wy,rows,hb,i,z,j,h0,hN,hR,hm',by rw[lhb]; exact netB,by omega,sh,hg,rfl,er,hj,λT d vs pr fa lv sv b1 b2=>?_⟩
   exact hx _ _ ⟨d,vs,pr,fa,lv,sv,b1,b2,rfl⟩
  rintro dl' S11 ⟨d,vs,p11,fa,lv,sv,b1,b2,rfl⟩
  replace h0:=p11 _ _ h0
  replace hB:=p11 _ _ hB
  replace hN:=p11 _ _ hN
  replace hR:=p11 _ _ hR
  replace hK:=p11 _ _ hK
  replace en:=en.pre p11
  replace A1:=p11 _ _ A1
  replace A2:=p11 _ _ A2
  replace A3:=p11 _ _ A3
  replace AD:=p11 _ _ AD
  replace hm':=p11 _ _ hm'
  clear p11 hf hm
  have lhn:=(Vab.mp ed).1
  refine za9 (λdl' S12=>S12=S11.set mk (.lst (ds.set hn (.tup [.ref m,d])))∧dl'=[some (.ref 0),some (.int (q:Int)),some (.int g),some (.ref mb),o4,some (.ref mp),some (.ref mn),some (.ref mf),some (.ref mh),o9,some (.bl ft),some (rwD (z,j)),some (.ref mr),some (.ref mk),some (.int (hn:Int)),some (.ref md),some d,none,none]) (λnx hx=>?_) ?_
  ·refine zj0 (S1:=S11) (n:=mk) (j:=hn) (k:=(hn:Int)) (xs:=ds) (v:=.tup [.ref m,d]) (λK kk=>?_) (λK kk=>by exact kk) (λK kk=>by exact kk) hK ?_ ?_
   ·refine zaz (o:=.lst ds) hK (zcM ed) ?_
    exact kk
   ·have q:=zh2 (n:=ds.length) (i:=(hn:Int)) ⟨by omega,by omega⟩
    rw[Vaj] at q
    exact q
   ·exact hx _ _ ⟨rfl,rfl⟩
  rintro dl' S12 ⟨rfl,rfl⟩
  have kp:∀(x:Nat) (o:Ob),x≠mk→S11[x]?=some o→(S11.set mk (.lst (ds.set hn (.tup [.ref m,d]))))[x]?=some o:=λx o ne e=>za5 e (Ne.symm ne)
  have en2:zba (S11.set mk (.lst (ds.set hn (.tup [.ref m,d])))) (ds.set hn (.tup [.ref m,d])) (es.set hn (hb,zbw ft i vs)):=(en.set (n:=hn) (d:=.tup [.ref m,d]) (e:=(hb,zbw ft i vs)) ⟨m,d,rfl,hm',fa⟩).keep2 hK ⟨hn,.ref m,f,ed,λa e=>by cases e⟩ kp
  have K2:(S11.set mk (.lst (ds.set hn (.tup [.ref m,d]))))[mk]?=some (.lst (ds.set hn (.tup [.ref m,d]))):=zbj hK
  replace hB:=kp _ _ (by omega) hB
  replace hN:=kp _ _ (by omega) hN
  replace hR:=kp _ _ (by omega) hR
  replace A1:=kp _ _ (by omega) A1
  replace A2:=kp _ _ (by omega) A2
  replace A3:=kp _ _ (by omega) A3
  replace AD:=kp _ _ (by omega) AD
  clear kp h0 hm' hK en
  generalize S11.set mk (.lst (ds.set hn (.tup [.ref m,d])))=S12 at en2 K2 hB hN hR A1 A2 A3 AD ⊢
  generalize ds.set hn (.tup [.ref m,d])=ds2 at en2 K2
  have lv9:vs.length≤900:=by
   rw[lv]
   cases ft <;> simp <;> omega
  have few2:∀e∈es.set hn (hb,zbw ft i vs),e.2.few:=λe he=>by
   rcases List.mem_or_eq_of_mem_set he with he | he
   ·exact fewE e he
   ·rw[he]
    cases ft <;> exact lv9
  have all2:=zsu (f1:=zbw ft i vs) tr.hold tr.all
  have bad:=zs9 (ft:=ft) (i:=i) (vs:=vs) (rows:=rows) net (by omega) lP hg.1 ih pz er hj lv sv d1 d2 b1 b2
  have at2:(es.set hn (hb,zbw ft i vs))[hn]?=some (hb,zbw ft i vs):=VaD (Vab.mp tr.hold).1
  have oth:∀(k:Nat) (e:En),(es.set hn (hb,zbw ft i vs))[k]?=some e→k≠hn→zck (es.set hn (hb,zbw ft i vs)) k e:=λk e he ne=>by
   rw[VaH (Ne.symm ne)] at he
   exact(tr.good k e he).mono (znN tr.hold)
  have z2:∃f,(es.set hn (hb,zbw ft i vs))[0]?=some (B,f):=by
   obtain⟨f,e⟩:=tr.z
   exact znN tr.hold 0 B f e
  have prt2:zaO (es.set hn (hb,zbw ft i vs))=(List.range ((es.set hn (hb,zbw ft i vs)).length-1)).map (·+1):=by
   rw[zoK _ _ _ _ _ _ tr.hold,VaK]
   exact tr.prt
  have len2:(es.set hn (hb,zbw ft i vs)).length=es.length:=VaK
  generalize es.set hn (hb,zbw ft i vs)=es2 at en2 few2 all2 at2 oth z2 prt2 len2
  refine za9 (λdl' S13=>∃ms:Nat,Pre S12 S13∧zbV S13 ms es2∧dl'=[some (.ref 0),some (.int (q:Int)),some (.int g),some (.ref mb),o4,some (.ref mp),some (.ref mn),some (.ref mf),some (.ref mh),o9,some (.bl ft),some (rwD (z,j)),some (.ref mr),some (.ref mk),some (.int (hn:Int)),some (.ref md),some d,some (.ref ms),none]) (λnx hx=>?_) ?_
  ·refine⟨es2,⟨ds2,K2,en2⟩,by omega,λe he=>⟨by rw[all2 e he]; omega,few2 e he⟩,λT m pr lm bkT=>?_⟩
   exact hx _ _ ⟨m,pr,bkT,rfl⟩
  rintro dl' S13 ⟨ms,p13,bk3,rfl⟩
  refine za9 (λdl' S14=>Pre S13 S14∧dl'=[some (.ref 0),some (.int (q:Int)),some (.int g),some (.ref mb),o4,some (.ref mp),some (.ref mn),some (.ref mf),some (.ref mh),o9,some (.bl ft),some (rwD (z,j)),some (.ref mr),some (.ref mk),some (.int (hn:Int)),some (.ref md),some d,some (.ref ms),some (.bl false)]) (λnx hx=>?_) ?_
  ·refine zaz (i:=0) (o:=.lst [.ref i1,.ref i2,.ref i3]) (p13 _ _ AD) (d:=.ref i1) rfl ?_
   refine zaz (i:=1) (o:=.lst [.ref i1,.ref i2,.ref i3]) (p13 _ _ AD) (d:=.ref i2) rfl ?_
   refine zaz (i:=2) (o:=.lst [.ref i1,.ref i2,.ref i3]) (p13 _ _ AD) (d:=.ref i3) rfl ?_
   refine⟨ys,wy,rows,B,es2,p13 _ _ A3,bk3,⟨by omega,by omega⟩,z2,all2,prt2,p13 _ _ A1,p13 _ _ A2,netB,by omega,hg,.inr ⟨⟨hn,_,at2,bad,oth⟩,λT2 p2=>?_⟩⟩
   exact hx _ _ ⟨p2,rfl⟩
  rintro dl' S14 ⟨p14,rfl⟩
  have pE:Pre S12 S14:=λx o e=>p14 _ _ (p13 _ _ e)
  obtain⟨ds3,K3,en3⟩:=bk3.pre p14
  have K4:=pE _ _ K2
  have en4:=en2.pre pE
  refine⟨⟨_,_,zal (pE _ _ AD),zaw _ _,rfl,λk x y hx hy=>?_⟩,?_⟩
  ·match k,hx,hy with
   | 0,hx,hy=>cases hx; cases hy; exact zex (λp=>ztm p) (zal (pE _ _ A1)) (zal (pE _ _ hN))
   | 1,hx,hy=>cases hx; cases hy; exact zex (λp=>ztI p) (zal (pE _ _ A2)) (zal (pE _ _ hR))
   | 2,hx,hy=>cases hx; cases hy; exact zex (λp=>zky p) (zal (pE _ _ A3)) (zal (pE _ _ hB))
   | k+3,hx,hy=>cases hx
  refine⟨⟨_,_,zal K3,zal K4,by rw[en3.1,en4.1],λk x y hx hy=>?_⟩,?_⟩
  ·have hk:=(Vab.mp hx).1
   rw[en3.1] at hk
   have e:=Vae hk
   exact .inl (zt1 ((en3.pre (zbK _)).2 k _ _ hx e) ((en4.pre (zbK _)).2 k _ _ hy e))
  exact h _⟩)
end
theorem zph {l:PySem.W.OpenLaw}{w:World}{K:PySem.W.Frag}{h:Heap}{mg:Str→Option Value}{fa:Addr}(X:K.In h)(G:h.Ns mainGlobals mg)(hfa:mg "law"=some (.ref fa))
  {zb7:Addr}(zjX:PySem.W.nsIn K mainGlobals "Number"=some (some (.ref zb7)))(zh5:PySem.W.plainGet K zb7 Str.empty=true)(zlc:PySem.W.hasDictIn K zb7=true)(zjA:PySem.W.plainOver K zb7=true)(ziM:PySem.W.findIn K (.ref zb7) "__setattr__"=some (some (.builtin "object.__setattr__")))(zjy:PySem.W.makesIn K zb7=true)(zk9:PySem.W.keepIn K (.ref zb7)=true)
  (zjN:PySem.W.findIn K (.ref zb7) "bottom"=some none)
  (zhs:PySem.W.findIn K (.ref zb7) "top"=some none)
  {zco:Addr}(ziv:PySem.W.nsIn K mainGlobals "Unknown"=some (some (.ref zco)))(zit:PySem.W.plainGet K zco Str.empty=true)(zjR:PySem.W.hasDictIn K zco=true)(zla:PySem.W.plainOver K zco=true)(zkV:PySem.W.findIn K (.ref zco) "__setattr__"=some (some (.builtin "object.__setattr__")))(zhD:PySem.W.makesIn K zco=true)(zhv:PySem.W.keepIn K (.ref zco)=true)
  (ziS:PySem.W.findIn K (.ref zco) "place"=some none)
  {zcb:Addr}(zhK:PySem.W.nsIn K mainGlobals "Plus"=some (some (.ref zcb)))(zi2:PySem.W.plainGet K zcb Str.empty=true)(zki:PySem.W.hasDictIn K zcb=true)(zis:PySem.W.plainOver K zcb=true)(zkm:PySem.W.findIn K (.ref zcb) "__setattr__"=some (some (.builtin "object.__setattr__")))(zj7:PySem.W.makesIn K zcb=true)(zjc:PySem.W.keepIn K (.ref zcb)=true)
  (zin:PySem.W.findIn K (.ref zcb) "other"=some none)
  (zij:PySem.W.findIn K (.ref zcb) "one"=some none)
  {zb4:Addr}(zkc:PySem.W.nsIn K mainGlobals "Minus"=some (some (.ref zb4)))(zkL:PySem.W.plainGet K zb4 Str.empty=true)(zlg:PySem.W.hasDictIn K zb4=true)(ziO:PySem.W.plainOver K zb4=true)(ziF:PySem.W.findIn K (.ref zb4) "__setattr__"=some (some (.builtin "object.__setattr__")))(zh4:PySem.W.makesIn K zb4=true)(zli:PySem.W.keepIn K (.ref zb4)=true)
  (zkd:PySem.W.findIn K (.ref zb4) "other"=some none)
  (zix:PySem.W.findIn K (.ref zb4) "one"=some none)
  {zcd:Addr}(zjQ:PySem.W.nsIn K mainGlobals "Times"=some (some (.ref zcd)))(zhc:PySem.W.plainGet K zcd Str.empty=true)(zjg:PySem.W.hasDictIn K zcd=true)(zjL:PySem.W.plainOver K zcd=true)(zkP:PySem.W.findIn K (.ref zcd) "__setattr__"=some (some (.builtin "object.__setattr__")))(zhO:PySem.W.makesIn K zcd=true)(zjx:PySem.W.keepIn K (.ref zcd)=true)
  (zkX:PySem.W.findIn K (.ref zcd) "other"=some none)
  (zhd:PySem.W.findIn K (.ref zcd) "one"=some none)
  {zcc:Addr}(ziq:PySem.W.nsIn K mainGlobals "Power"=some (some (.ref zcc)))(ziZ:PySem.W.plainGet K zcc Str.empty=true)(zkh:PySem.W.hasDictIn K zcc=true)(zk1:PySem.W.plainOver K zcc=true)(zh8:PySem.W.findIn K (.ref zcc) "__setattr__"=some (some (.builtin "object.__setattr__")))(zkp:PySem.W.makesIn K zcc=true)(zkb:PySem.W.keepIn K (.ref zcc)=true)
  (zik:PySem.W.findIn K (.ref zcc) "many"=some none)
  (zhu:PySem.W.findIn K (.ref zcc) "one"=some none)
  {f0 h0:Addr}{m0:Value}(a0:nsA K "_law_free" f0)(l0:lkA K f0 "_law_free" "_law_free" zhJ m0 h0)(c0:cdA K h0 "_law_free")
  {f1 h1:Addr}{m1:Value}(a1:nsA K "_law_cell" f1)(l1:lkA K f1 "_law_cell" "_law_cell" ziP m1 h1)(c1:cdA K h1 "_law_cell")
  {f2 h2:Addr}{m2:Value}(a2:nsA K "_law_grid" f2)(l2:lkA K f2 "_law_grid" "_law_grid" zj5 m2 h2)(c2:cdA K h2 "_law_grid")
  {f3 h3:Addr}{m3:Value}(a3:nsA K "_law_side" f3)(l3:lkA K f3 "_law_side" "_law_side" zhk m3 h3)(c3:cdA K h3 "_law_side")
  {f4 h4:Addr}{m4:Value}(a4:nsA K "_law_point" f4)(l4:lkA K f4 "_law_point" "_law_point" zkB m4 h4)(c4:cdA K h4 "_law_point")
  {f5 h5:Addr}{m5:Value}(a5:nsA K "_law_any_room" f5)(l5:lkA K f5 "_law_any_room" "_law_any_room" zj4 m5 h5)(c5:cdA K h5 "_law_any_room")
  {f6 h6:Addr}{m6:Value}(a6:nsA K "_law_lowest" f6)(l6:lkA K f6 "_law_lowest" "_law_lowest" zhy m6 h6)(c6:cdA K h6 "_law_lowest")
  {f7 h7:Addr}{m7:Value}(a7:nsA K "_law_at" f7)(l7:lkA K f7 "_law_at" "_law_at" zho m7 h7)(c7:cdA K h7 "_law_at")
  {f8 h8:Addr}{m8:Value}(a8:nsA K "_law_factors" f8)(l8:lkA K f8 "_law_factors" "_law_factors" zhN m8 h8)(c8:cdA K h8 "_law_factors")
  {f9 h9:Addr}{m9:Value}(a9:nsA K "_law_number" f9)(l9:lkA K f9 "_law_number" "_law_number" zhz m9 h9)(c9:cdA K h9 "_law_number")
  {f10 h10:Addr}{m10:Value}(a10:nsA K "_law_any" f10)(l10:lkA K f10 "_law_any" "_law_any" zhx m10 h10)(c10:cdA K h10 "_law_any")
  {f11 h11:Addr}{m11:Value}(a11:nsA K "_law_put" f11)(l11:lkA K f11 "_law_put" "_law_put" ziE m11 h11)(c11:cdA K h11 "_law_put")
  {f12 h12:Addr}{m12:Value}(a12:nsA K "_law_grow" f12)(l12:lkA K f12 "_law_grow" "_law_grow" zka m12 h12)(c12:cdA K h12 "_law_grow")
  {f13 h13:Addr}{m13:Value}(a13:nsA K "_law_sum" f13)(l13:lkA K f13 "_law_sum" "_law_sum" zjh m13 h13)(c13:cdA K h13 "_law_sum")
  {f14 h14:Addr}{m14:Value}(a14:nsA K "_law_row" f14)(l14:lkA K f14 "_law_row" "_law_row" zk7 m14 h14)(c14:cdA K h14 "_law_row")
  {f15 h15:Addr}{m15:Value}(a15:nsA K "_law_others" f15)(l15:lkA K f15 "_law_others" "_law_others" zh6 m15 h15)(c15:cdA K h15 "_law_others")
  {f16 h16:Addr}{m16:Value}(a16:nsA K "_law_tree" f16)(l16:lkA K f16 "_law_tree" "_law_tree" zjq m16 h16)(c16:cdA K h16 "_law_tree")
  {f17 h17:Addr}{m17:Value}(a17:nsA K "all_as_long" f17)(l17:lkA K f17 "all_as_long" "all_as_long" zgi m17 h17)(c17:cdA K h17 "all_as_long")
  {f18 h18:Addr}{m18:Value}(a18:nsA K "parts_of" f18)(l18:lkA K f18 "parts_of" "parts_of" zh3 m18 h18)(c18:cdA K h18 "parts_of")
  {f19 h19:Addr}{m19:Value}(a19:nsA K "is_whole_tree" f19)(l19:lkA K f19 "is_whole_tree" "is_whole_tree" zgl m19 h19)(c19:cdA K h19 "is_whole_tree")
  {f20 h20:Addr}{m20:Value}(a20:nsA K "deep" f20)(l20:lkA K f20 "deep" "deep" zkZ m20 h20)(c20:cdA K h20 "deep")
  {f21 h21:Addr}{m21:Value}(a21:nsA K "with_span" f21)(l21:lkA K f21 "with_span" "with_span" zj6 m21 h21)(c21:cdA K h21 "with_span")
  {f22 h22:Addr}{m22:Value}(a22:nsA K "right_cut" f22)(l22:lkA K f22 "right_cut" "right_cut" zjW m22 h22)(c22:cdA K h22 "right_cut")
  {f23 h23:Addr}{m23:Value}(a23:nsA K "inside" f23)(l23:lkA K f23 "inside" "inside" zji m23 h23)(c23:cdA K h23 "inside")
  {f24 h24:Addr}{m24:Value}(a24:nsA K "all_inside" f24)(l24:lkA K f24 "all_inside" "all_inside" ze7 m24 h24)(c24:cdA K h24 "all_inside")
  {f25 h25:Addr}{m25:Value}(a25:nsA K "less" f25)(l25:lkA K f25 "less" "less" zkk m25 h25)(c25:cdA K h25 "less")
  {f26 h26:Addr}{m26:Value}(a26:nsA K "rounded_up" f26)(l26:lkA K f26 "rounded_up" "rounded_up" ziX m26 h26)(c26:cdA K h26 "rounded_up")
  {f27 h27:Addr}{m27:Value}(a27:nsA K "span_of" f27)(l27:lkA K f27 "span_of" "span_of" zld m27 h27)(c27:cdA K h27 "span_of")
  {f28 h28:Addr}{m28:Value}(a28:fdA K zb7 "forth" f28)(l28:lkA K f28 "forth" "Number.forth" zjE m28 h28)(c28:cdA K h28 "Number.forth")
  {f29 h29:Addr}{m29:Value}(a29:fdA K zco "forth" f29)(l29:lkA K f29 "forth" "Unknown.forth" zle m29 h29)(c29:cdA K h29 "Unknown.forth")
  {f30 h30:Addr}{m30:Value}(a30:nsA K "add_spans" f30)(l30:lkA K f30 "add_spans" "add_spans" zhM m30 h30)(c30:cdA K h30 "add_spans")
  {f31 h31:Addr}{m31:Value}(a31:fdA K zcb "forth" f31)(l31:lkA K f31 "forth" "Plus.forth" zib m31 h31)(c31:cdA K h31 "Plus.forth")
  {f32 h32:Addr}{m32:Value}(a32:nsA K "take_spans" f32)(l32:lkA K f32 "take_spans" "take_spans" ziY m32 h32)(c32:cdA K h32 "take_spans")
  {f33 h33:Addr}{m33:Value}(a33:fdA K zb4 "forth" f33)(l33:lkA K f33 "forth" "Minus.forth" zkI m33 h33)(c33:cdA K h33 "Minus.forth")
  {f34 h34:Addr}{m34:Value}(a34:nsA K "mul_spans" f34)(l34:lkA K f34 "mul_spans" "mul_spans" zkE m34 h34)(c34:cdA K h34 "mul_spans")
  {f35 h35:Addr}{m35:Value}(a35:fdA K zcd "forth" f35)(l35:lkA K f35 "forth" "Times.forth" zhg m35 h35)(c35:cdA K h35 "Times.forth")
  {f36 h36:Addr}{m36:Value}(a36:nsA K "raised" f36)(l36:lkA K f36 "raised" "raised" zkv m36 h36)(c36:cdA K h36 "raised")
  {f37 h37:Addr}{m37:Value}(a37:nsA K "raise_span" f37)(l37:lkA K f37 "raise_span" "raise_span" zfF m37 h37)(c37:cdA K h37 "raise_span")
  {f38 h38:Addr}{m38:Value}(a38:fdA K zcc "forth" f38)(l38:lkA K f38 "forth" "Power.forth" zhr m38 h38)(c38:cdA K h38 "Power.forth")
  {f39 h39:Addr}{m39:Value}(a39:fdA K zb7 "__init__" f39)(l39:lkA K f39 "__init__" "Number.__init__" zhS m39 h39)(c39:cdA K h39 "Number.__init__")
  {f40 h40:Addr}{m40:Value}(a40:fdA K zco "__init__" f40)(l40:lkA K f40 "__init__" "Unknown.__init__" zjY m40 h40)(c40:cdA K h40 "Unknown.__init__")
  {f41 h41:Addr}{m41:Value}(a41:fdA K zcb "__init__" f41)(l41:lkA K f41 "__init__" "Pair.__init__" zhC m41 h41)(c41:cdA K h41 "Pair.__init__")
  {f42 h42:Addr}{m42:Value}(a42:fdA K zb4 "__init__" f42)(l42:lkA K f42 "__init__" "Pair.__init__" zjp m42 h42)(c42:cdA K h42 "Pair.__init__")
  {f43 h43:Addr}{m43:Value}(a43:fdA K zcd "__init__" f43)(l43:lkA K f43 "__init__" "Pair.__init__" zkM m43 h43)(c43:cdA K h43 "Pair.__init__")
  {f44 h44:Addr}{m44:Value}(a44:fdA K zcc "__init__" f44)(l44:lkA K f44 "__init__" "Power.__init__" zhH m44 h44)(c44:cdA K h44 "Power.__init__")
  {f45 h45:Addr}{m45:Value}(a45:nsA K "kind_of" f45)(l45:lkA K f45 "kind_of" "kind_of" zhe m45 h45)(c45:cdA K h45 "kind_of")
  {f46 h46:Addr}{m46:Value}(a46:nsA K "right_spans" f46)(l46:lkA K f46 "right_spans" "right_spans" zgP m46 h46)(c46:cdA K h46 "right_spans")
  {f47 h47:Addr}{m47:Value}(a47:nsA K "bars" f47)(l47:lkA K f47 "bars" "bars" zje m47 h47)(c47:cdA K h47 "bars")
  {f48 h48:Addr}{m48:Value}(a48:nsA K "right_out" f48)(l48:lkA K f48 "right_out" "right_out" zkS m48 h48)(c48:cdA K h48 "right_out")
  {f49 h49:Addr}{m49:Value}(a49:nsA K "right_for_all" f49)(l49:lkA K f49 "right_for_all" "right_for_all" zj3 m49 h49)(c49:cdA K h49 "right_for_all")
  {f50 h50:Addr}{m50:Value}(a50:nsA K "sure" f50)(l50:lkA K f50 "sure" "sure" zjZ m50 h50)(c50:cdA K h50 "sure")
  {f51 h51:Addr}{m51:Value}(a51:nsA K "right_full" f51)(l51:lkA K f51 "right_full" "right_full" zg3 m51 h51)(c51:cdA K h51 "right_full")
  {f52 h52:Addr}{m52:Value}(a52:nsA K "right_entry" f52)(l52:lkA K f52 "right_entry" "right_entry" zku m52 h52)(c52:cdA K h52 "right_entry")
  {f53 h53:Addr}{m53:Value}(a53:nsA K "right_book" f53)(l53:lkA K f53 "right_book" "right_book" zf5 m53 h53)(c53:cdA K h53 "right_book")
  {f54 h54:Addr}{m54:Value}(a54:nsA K "_law_copied" f54)(l54:lkA K f54 "_law_copied" "_law_copied" zgY m54 h54)(c54:cdA K h54 "_law_copied")
  {f55 h55:Addr}{m55:Value}(a55:nsA K "_law_often" f55)(l55:lkA K f55 "_law_often" "_law_often" ziC m55 h55)(c55:cdA K h55 "_law_often")
  {f56 h56:Addr}{m56:Value}(a56:nsA K "_law_raised" f56)(l56:lkA K f56 "_law_raised" "_law_raised" zhq m56 h56)(c56:cdA K h56 "_law_raised")
  {f57 h57:Addr}{m57:Value}(a57:nsA K "_law_plus" f57)(l57:lkA K f57 "_law_plus" "_law_plus" zhR m57 h57)(c57:cdA K h57 "_law_plus")
  {f58 h58:Addr}{m58:Value}(a58:nsA K "_law_less" f58)(l58:lkA K f58 "_law_less" "_law_less" zkx m58 h58)(c58:cdA K h58 "_law_less")
  {f59 h59:Addr}{m59:Value}(a59:nsA K "_law_product" f59)(l59:lkA K f59 "_law_product" "_law_product" zhU m59 h59)(c59:cdA K h59 "_law_product")
  {f60 h60:Addr}{m60:Value}(a60:nsA K "_law_forth" f60)(l60:lkA K f60 "_law_forth" "_law_forth" zhn m60 h60)(c60:cdA K h60 "_law_forth")
  {f61 h61:Addr}{m61:Value}(a61:nsA K "_law_forged" f61)(l61:lkA K f61 "_law_forged" "_law_forged" zkA m61 h61)(c61:cdA K h61 "_law_forged")
  {f62 h62:Addr}{m62:Value}(a62:nsA K "_law_last" f62)(l62:lkA K f62 "_law_last" "_law_last" zhi m62 h62)(c62:cdA K h62 "_law_last")
  {f63 h63:Addr}{m63:Value}(a63:nsA K "_law_paper" f63)(l63:lkA K f63 "_law_paper" "_law_paper" zjl m63 h63)(c63:cdA K h63 "_law_paper")
  {f64 h64:Addr}{m64:Value}(a64:nsA K "law" f64)(l64:lkA K f64 "law" "law" zct m64 h64)(c64:cdA K h64 "law")
  (zav:PySem.W.nsIn K mainGlobals "len"=some none)
  (zaN:PySem.W.nsIn K mainGlobals "range"=some none)
  (zc7:PySem.W.nsIn K mainGlobals "abs"=some none)
  (zbg:PySem.W.nsIn K mainGlobals "list"=some none)
  (zbv:PySem.W.nsIn K mainGlobals "all"=some none)
  (zbP:PySem.W.nsIn K mainGlobals "sorted"=some none)
  (zby:PySem.W.nsIn K mainGlobals "min"=some none)
  (zdk:PySem.W.nsIn K mainGlobals "zip"=some none)
  (zbM:PySem.W.nsIn K mainGlobals "max"=some none)
  (zc5:PySem.W.nsIn K mainGlobals "tuple"=some none)
  (zcX:PySem.W.nsIn K mainGlobals "isinstance"=some none)
  (zdr:PySem.W.nsIn K mainGlobals "int"=some none)
  :∃fd:FuncData,(∀(s:Shared) (v:Value),BindsTo s fd ⟨[v],[]⟩ [("_law_script",v)])∧∀base:Heap,K.In base→base.Ns mainGlobals mg→zbb l.prog w K mg base (CXE l.prog w) 9 fa fd ["_law_script"] (upF K zej):=by
 have e:=hfa.symm.trans (PySem.W.mg_of X G a64)
 cases e
 let zat:zcI K mg:=⟨zb7,PySem.W.mg_of X G zjX,⟨zh5,zlc,zjA,ziM⟩,zjN,zhs,zjy,zk9⟩
 let zay:zcF K mg:=⟨zco,PySem.W.mg_of X G ziv,⟨zit,zjR,zla,zkV⟩,ziS,zhD,zhv⟩
 let zar:zcB K mg:=⟨zcb,PySem.W.mg_of X G zhK,⟨zi2,zki,zis,zkm⟩,zin,zij,zj7,zjc⟩
 let zaq:zcE K mg:=⟨zb4,PySem.W.mg_of X G zkc,⟨zkL,zlg,ziO,ziF⟩,zkd,zix,zh4,zli⟩
 let zau:zcD K mg:=⟨zcd,PySem.W.mg_of X G zjQ,⟨zhc,zjg,zjL,zkP⟩,zkX,zhd,zhO,zjx⟩
 let zas:zcL K mg:=⟨zcc,PySem.W.mg_of X G ziq,⟨ziZ,zkh,zk1,zh8⟩,zik,zhu,zkp,zkb⟩
 let zkn:Df K mg "_law_free" zhJ zdT:=dfo X G a0 l0 c0 λ_ _ _ _ _ _=>ln1 λ_=>rfl
 let zjI:Df K mg "_law_cell" ziP zcU:=dfo X G a1 l1 c1 λ_ _ _ _ _ _=>ln2 λ_ _=>rfl
 let zjn:Df K mg "_law_grid" zj5 zgh:=dfo X G a2 l2 c2 λ_ _ _ _ _ _=>ln1 λ_=>rfl
 let zht:Df K mg "_law_side" zhk ze9:=dfo X G a3 l3 c3 λ_ _ _ _ _ _=>ln2 λ_ _=>rfl
 let zjS:Df K mg "_law_point" zkB zf4:=dfo X G a4 l4 c4 λ_ _ _ _ _ _=>ln4 λ_ _ _ _=>rfl
 let zhA:Df K mg "_law_any_room" zj4 zg9:=dfo X G a5 l5 c5 λ_ _ _ _ _ _=>ln3 λ_ _ _=>rfl
 let zkz:Df K mg "_law_lowest" zhy zds:=dfo X G a6 l6 c6 λ_ _ _ _ _ _=>ln2 λ_ _=>rfl
 let zhG:Df K mg "_law_at" zho zdL:=dfo X G a7 l7 c7 λ_ _ _ _ _ _=>ln2 λ_ _=>rfl
 let ziH:Df K mg "_law_factors" zhN zgG:=dfo X G a8 l8 c8 λ_ _ _ _ _ _=>ln3 λ_ _ _=>rfl
 let ziL:Df K mg "_law_number" zhz zfm:=dfo X G a9 l9 c9 λ_ _ _ _ _ _=>ln1 λ_=>rfl
 let zhw:Df K mg "_law_any" zhx zft:=dfo X G a10 l10 c10 λ_ _ _ _ _ _=>ln1 λ_=>rfl
 let ziN:Df K mg "_law_put" ziE zfr:=dfo X G a11 l11 c11 λ_ _ _ _ _ _=>ln4 λ_ _ _ _=>rfl
 let zjw:Df K mg "_law_grow" zka zfy:=dfo X G a12 l12 c12 λ_ _ _ _ _ _=>ln5 λ_ _ _ _ _=>rfl
 let zlh:Df K mg "_law_sum" zjh zfZ:=dfo X G a13 l13 c13 λ_ _ _ _ _ _=>ln2 λ_ _=>rfl
 let zkg:Df K mg "_law_row" zk7 zfz:=dfo X G a14 l14 c14 λ_ _ _ _ _ _=>ln4 λ_ _ _ _=>rfl
 let zkT:Df K mg "_law_others" zh6 zfa:=dfo X G a15 l15 c15 λ_ _ _ _ _ _=>ln3 λ_ _ _=>rfl
 let zhm:Df K mg "_law_tree" zjq zgT:=dfo X G a16 l16 c16 λ_ _ _ _ _ _=>ln4 λ_ _ _ _=>rfl
 let zi8:Df K mg "all_as_long" zgi zf1:=dfo X G a17 l17 c17 λ_ _ _ _ _ _=>ln2 λ_ _=>rfl
 let zjM:Df K mg "parts_of" zh3 zf7:=dfo X G a18 l18 c18 λ_ _ _ _ _ _=>ln1 λ_=>rfl
 let zh1:Df K mg "is_whole_tree" zgl zg8:=dfo X G a19 l19 c19 λ_ _ _ _ _ _=>ln2 λ_ _=>rfl
 let zjO:Df K mg "deep" zkZ zgb:=dfo X G a20 l20 c20 λ_ _ _ _ _ _=>ln2 λ_ _=>rfl
 let zkw:Df K mg "with_span" zj6 zfb:=dfo X G a21 l21 c21 λ_ _ _ _ _ _=>ln3 λ_ _ _=>rfl
 let zjK:Df K mg "right_cut" zjW zgC:=dfo X G a22 l22 c22 λ_ _ _ _ _ _=>ln2 λ_ _=>rfl
 let zjG:Df K mg "inside" zji zfP:=dfo X G a23 l23 c23 λ_ _ _ _ _ _=>ln2 λ_ _=>rfl
 let zhL:Df K mg "all_inside" ze7 zfJ:=dfo X G a24 l24 c24 λ_ _ _ _ _ _=>ln2 λ_ _=>rfl
 let zkK:Df K mg "less" zkk zgw:=dfo X G a25 l25 c25 λ_ _ _ _ _ _=>ln2 λ_ _=>rfl
 let zid:Df K mg "rounded_up" ziX zdv:=dfo X G a26 l26 c26 λ_ _ _ _ _ _=>ln2 λ_ _=>rfl
 let zjD:Df K mg "span_of" zld zeQ:=dfo X G a27 l27 c27 λ_ _ _ _ _ _=>ln3 λ_ _ _=>rfl
 let zjV:Dm K zat.C "forth" "Number.forth" zjE zf2:=dmo a28 l28 c28 λ_ _ _ _ _ _=>ln4 λ_ _ _ _=>rfl
 let zja:Dm K zay.C "forth" "Unknown.forth" zle zfs:=dmo a29 l29 c29 λ_ _ _ _ _ _=>ln4 λ_ _ _ _=>rfl
 let zig:Df K mg "add_spans" zhM zeN:=dfo X G a30 l30 c30 λ_ _ _ _ _ _=>ln2 λ_ _=>rfl
 let ziV:Dm K zar.C "forth" "Plus.forth" zib zfX:=dmo a31 l31 c31 λ_ _ _ _ _ _=>ln4 λ_ _ _ _=>rfl
 let zk4:Df K mg "take_spans" ziY zfK:=dfo X G a32 l32 c32 λ_ _ _ _ _ _=>ln2 λ_ _=>rfl
 let zkH:Dm K zaq.C "forth" "Minus.forth" zkI zgN:=dmo a33 l33 c33 λ_ _ _ _ _ _=>ln4 λ_ _ _ _=>rfl
 let zjb:Df K mg "mul_spans" zkE zfj:=dfo X G a34 l34 c34 λ_ _ _ _ _ _=>ln3 λ_ _ _=>rfl
 let zjT:Dm K zau.C "forth" "Times.forth" zhg zfS:=dmo a35 l35 c35 λ_ _ _ _ _ _=>ln4 λ_ _ _ _=>rfl
 let zic:Df K mg "raised" zkv zgy:=dfo X G a36 l36 c36 λ_ _ _ _ _ _=>ln2 λ_ _=>rfl
 let zjd:Df K mg "raise_span" zfF zf9:=dfo X G a37 l37 c37 λ_ _ _ _ _ _=>ln3 λ_ _ _=>rfl
 let zhV:Dm K zas.C "forth" "Power.forth" zhr zfV:=dmo a38 l38 c38 λ_ _ _ _ _ _=>ln4 λ_ _ _ _=>rfl
 let zh0:Dm K zat.C "__init__" "Number.__init__" zhS zgq:=dmo a39 l39 c39 λ_ _ _ _ _ _=>ln3 λ_ _ _=>rfl
 let ziA:Dm K zay.C "__init__" "Unknown.__init__" zjY zfQ:=dmo a40 l40 c40 λ_ _ _ _ _ _=>ln2 λ_ _=>rfl
 let zhQ:Dm K zar.C "__init__" "Pair.__init__" zhC zgr:=dmo a41 l41 c41 λ_ _ _ _ _ _=>ln3 λ_ _ _=>rfl
 let ziG:Dm K zaq.C "__init__" "Pair.__init__" zjp zeY:=dmo a42 l42 c42 λ_ _ _ _ _ _=>ln3 λ_ _ _=>rfl
 let zi6:Dm K zau.C "__init__" "Pair.__init__" zkM zgO:=dmo a43 l43 c43 λ_ _ _ _ _ _=>ln3 λ_ _ _=>rfl
 let zhl:Dm K zas.C "__init__" "Power.__init__" zhH zfq:=dmo a44 l44 c44 λ_ _ _ _ _ _=>ln3 λ_ _ _=>rfl
 let zh7:Df K mg "kind_of" zhe zgn:=dfo X G a45 l45 c45 λ_ _ _ _ _ _=>ln1 λ_=>rfl
 let zlf:Df K mg "right_spans" zgP zdV:=dfo X G a46 l46 c46 λ_ _ _ _ _ _=>ln4 λ_ _ _ _=>rfl
 let zhh:Df K mg "bars" zje zgf:=dfo X G a47 l47 c47 λ_ _ _ _ _ _=>ln2 λ_ _=>rfl
 let zhX:Df K mg "right_out" zkS zgx:=dfo X G a48 l48 c48 λ_ _ _ _ _ _=>ln5 λ_ _ _ _ _=>rfl
 let zkt:Df K mg "right_for_all" zj3 zeS:=dfo X G a49 l49 c49 λ_ _ _ _ _ _=>ln4 λ_ _ _ _=>rfl
 let zk2:Df K mg "sure" zjZ ze6:=dfo X G a50 l50 c50 λ_ _ _ _ _ _=>ln2 λ_ _=>rfl
 let zii:Df K mg "right_full" zg3 zga:=dfo X G a51 l51 c51 λ_ _ _ _ _ _=>ln5 λ_ _ _ _ _=>rfl
 let zih:Df K mg "right_entry" zku zg7:=dfo X G a52 l52 c52 λ_ _ _ _ _ _=>ln5 λ_ _ _ _ _=>rfl
 let ziB:Df K mg "right_book" zf5 ze8:=dfo X G a53 l53 c53 λ_ _ _ _ _ _=>ln5 λ_ _ _ _ _=>rfl
 let zk0:Df K mg "_law_copied" zgY zgo:=dfo X G a54 l54 c54 λ_ _ _ _ _ _=>ln1 λ_=>rfl
 let zjr:Df K mg "_law_often" ziC zgs:=dfo X G a55 l55 c55 λ_ _ _ _ _ _=>ln2 λ_ _=>rfl
 let zhE:Df K mg "_law_raised" zhq zf6:=dfo X G a56 l56 c56 λ_ _ _ _ _ _=>ln3 λ_ _ _=>rfl
 let zhY:Df K mg "_law_plus" zhR zfw:=dfo X G a57 l57 c57 λ_ _ _ _ _ _=>ln2 λ_ _=>rfl
 let ziJ:Df K mg "_law_less" zkx zeT:=dfo X G a58 l58 c58 λ_ _ _ _ _ _=>ln2 λ_ _=>rfl
 let zhZ:Df K mg "_law_product" zhU zeP:=dfo X G a59 l59 c59 λ_ _ _ _ _ _=>ln3 λ_ _ _=>rfl
 let zj9:Df K mg "_law_forth" zhn ze0:=dfo X G a60 l60 c60 λ_ _ _ _ _ _=>ln4 λ_ _ _ _=>rfl
 let zjs:Df K mg "_law_forged" zkA zfx:=dfo X G a61 l61 c61 λ_ _ _ _ _ _=>ln2 λ_ _=>rfl
 let zi5:Df K mg "_law_last" zhi zgu:=dfo X G a62 l62 c62 λ_ _ _ _ _ _=>ln3 λ_ _ _=>rfl
 let zjJ:Df K mg "_law_paper" zjl zfD:=dfo X G a63 l63 c63 λ_ _ _ _ _ _=>ln7 λ_ _ _ _ _ _ _=>rfl
 let zil:Df K mg "law" zct zkl:=dfo X G a64 l64 c64 λ_ _ _ _ _ _=>ln1 λ_=>rfl
 have zav:=PySem.W.mg_none_of X G zav
 have zaN:=PySem.W.mg_none_of X G zaN
 have zc7:=PySem.W.mg_none_of X G zc7
 have zbg:=PySem.W.mg_none_of X G zbg
 have zbv:=PySem.W.mg_none_of X G zbv
 have zbP:=PySem.W.mg_none_of X G zbP
 have zby:=PySem.W.mg_none_of X G zby
 have zdk:=PySem.W.mg_none_of X G zdk
 have zbM:=PySem.W.mg_none_of X G zbM
 have zc5:=PySem.W.mg_none_of X G zc5
 have zcX:=PySem.W.mg_none_of X G zcX
 have zdr:=PySem.W.mg_none_of X G zdr
 refine⟨PySem.W.fnOf "law" "law" (zcP zct) (zcv zct) (zak zct) .none .none .none m64 none (.ref h64) .none,λs v=>.of_eq rfl,λbase _ _=>?_⟩
 let zdN:=zvf (P:=l.prog) (w:=w) (base:=base) zkn zav
 let za6:=ztG (P:=l.prog) (w:=w) (base:=base) zjI zdN zav
 let zl6:=zrk (P:=l.prog) (w:=w) (base:=base) zjn
 let zl8:=ztR (P:=l.prog) (w:=w) (base:=base) zht
 let zl0:=zpB (P:=l.prog) (w:=w) (base:=base) zjS zaN zav
 let zmT:=zvA (P:=l.prog) (w:=w) (base:=base) zhA za6 zaN
 let zcz:=zsf (P:=l.prog) (w:=w) (base:=base) zkz zc7
 let zb0:=ztj (P:=l.prog) (w:=w) (base:=base) zhG
 let zly:=ztJ (P:=l.prog) (w:=w) (base:=base) ziH zb0 zcz zaN zav
 let zmG:=zqO (P:=l.prog) (w:=w) (base:=base) ziL zcz
 let zmQ:=zss (P:=l.prog) (w:=w) (base:=base) zhw zcz
 let zfn:=zqe (P:=l.prog) (w:=w) (base:=base) ziN zav
 let zm0:=zuk (P:=l.prog) (w:=w) (base:=base) zjw zfn zmQ zmG zav
 let zmZ:=zud (P:=l.prog) (w:=w) (base:=base) zlh zb0
 let zlx:=zto (P:=l.prog) (w:=w) (base:=base) zkg za6 zb0 zmZ zaN zav
 let zlm:=zuK (P:=l.prog) (w:=w) (base:=base) zkT za6 zaN zav
 let zmd:=zqG (P:=l.prog) (w:=w) (base:=base) zhm zaN zav zbg
 let zlK:=zp6 (P:=l.prog) (w:=w) (base:=base) zi8 zbv zav
 let zmc:=zsD (P:=l.prog) (w:=w) (base:=base) zjM
 let zlU:=zrL (P:=l.prog) (w:=w) (base:=base) zh1 zmc zlK zbP zbg zaN zav
 let zmm:=zqt (P:=l.prog) (w:=w) (base:=base) zjO
 let zju:=zuZ (P:=l.prog) (w:=w) (base:=base) zkw
 let zmk:=zrs (P:=l.prog) (w:=w) (base:=base) zjK zju zmm zby zav
 let zlB:=zqN (P:=l.prog) (w:=w) (base:=base) zjG
 let zmy:=zpC (P:=l.prog) (w:=w) (base:=base) zhL zlB zbv zdk
 let zmW:=zpE (P:=l.prog) (w:=w) (base:=base) zkK
 let zcY:=ztq (P:=l.prog) (w:=w) (base:=base) zid
 let zll:=zvq (P:=l.prog) (w:=w) (base:=base) zjD zcY zmW
 let zlu:=zp5 (P:=l.prog) (w:=w) (base:=base) zat zay zar zaq zau zas zjV zll
 let zlq:=zqS (P:=l.prog) (w:=w) (base:=base) zay zat zar zaq zau zas zja
 let zmu:=zvc (P:=l.prog) (w:=w) (base:=base) zig
 let zlZ:=ztZ (P:=l.prog) (w:=w) (base:=base) zar zat zay zaq zau zas ziV zmu
 let zmY:=zru (P:=l.prog) (w:=w) (base:=base) zk4
 let zlY:=ztU (P:=l.prog) (w:=w) (base:=base) zaq zat zay zar zau zas zkH zmY
 let zlr:=zr5 (P:=l.prog) (w:=w) (base:=base) zjb zcY zbM zby
 let zlL:=zrj (P:=l.prog) (w:=w) (base:=base) zau zat zay zar zaq zas zjT zlr
 let zjB:=zpf (P:=l.prog) (w:=w) (base:=base) zic zaN
 let zmH:=zuJ (P:=l.prog) (w:=w) (base:=base) zjd zcY zjB zbM zby
 let zmx:=zvm (P:=l.prog) (w:=w) (base:=base) zas zat zay zar zaq zau zhV zmH
 let zdR:=zuD (P:=l.prog) (w:=w) (base:=base) zat zh0
 let zeD:=zo7 (P:=l.prog) (w:=w) (base:=base) zay ziA
 let zd3:=ztB (P:=l.prog) (w:=w) (base:=base) zar zhQ
 let zet:=zsG (P:=l.prog) (w:=w) (base:=base) zaq ziG
 let zec:=zun (P:=l.prog) (w:=w) (base:=base) zau zi6
 let zeF:=zta (P:=l.prog) (w:=w) (base:=base) zas zhl
 let zln:=zsn (P:=l.prog) (w:=w) (base:=base) zas zau zaq zar zay zat zh7 zeF zec zet zd3 zeD zdR
 let zeh:=zr6 (P:=l.prog) (w:=w) (base:=base) zas zau zaq zar zay zat zlf zmy zmx zlL zlY zlZ zlq zlu zln zaN zav
 let zlw:=zs8 (P:=l.prog) (w:=w) (base:=base) zhh
 let zlI:=ztN (P:=l.prog) (w:=w) (base:=base) zhX zlw zeh zav
 let zlH:=zqu (P:=l.prog) (w:=w) (base:=base) zkt zeh zav
 let zmF:=zrV (P:=l.prog) (w:=w) (base:=base) zk2
 let zmV:=zpI (P:=l.prog) (w:=w) (base:=base) zii zmF zlH zbv
 let zmp:=zua (P:=l.prog) (w:=w) (base:=base) zih zmV zlI zmk
 let zk5:=zu6 (P:=l.prog) (w:=w) (base:=base) ziB zmp zlU zbv zaN zav
 let zjF:=zsk (P:=l.prog) (w:=w) (base:=base) zk0 zc5 zbg zcX
 let zgz:=zpJ (P:=l.prog) (w:=w) (base:=base) zjr zaN
 let zl1:=zqA (P:=l.prog) (w:=w) (base:=base) zhE zgz zbP
 let zm1:=ztS (P:=l.prog) (w:=w) (base:=base) zhY
 let zlP:=ztv (P:=l.prog) (w:=w) (base:=base) ziJ
 let zmN:=zsX (P:=l.prog) (w:=w) (base:=base) zhZ zbP
 let zl9:=zpv (P:=l.prog) (w:=w) (base:=base) zj9 zmN zlP zm1 zl1
 let zmi:=ztE (P:=l.prog) (w:=w) (base:=base) zjs zby zbM
 let zlW:=zuo (P:=l.prog) (w:=w) (base:=base) zi5
 let zlR:=zpk (P:=l.prog) (w:=w) (base:=base) zjJ zlW za6 zmi zl9 zaN zav
 let G_law:=zuB (P:=l.prog) (w:=w) (base:=base) zil zk5 zjF zlR zmd za6 zlm zlx zm0 zdN zly zmT zl0 zl8 zl6 zbg zav zaN zdr
 exact G_law.ok
end Mine
open PySem PySem.W PyProof.Rows
set_option maxRecDepth 100003 in
set_option maxHeartbeats 0 in
theorem PySem.Challenge.cw_boxnarrow_k66_whole_forged_books_holds : PySem.Challenge.rw_boxnarrow_k66_whole_forged_books.Holds := by
 w_on; refine PySem.W.holds_law Mine.ws_eq λsaid=>?_
 refine PySem.W.holds_open (q:=Mine.vw) (loose:=[]) (Xt:=Mine.xt) (XP:=XL Mine.vw []) (Yf:=Hook.obs (kHook Mine.kp Mine.ks Mine.zez)) (Ya:=Hook.val (kHook Mine.kp Mine.ks Mine.zez))
  (YP:=Hook.says (kHook Mine.kp Mine.ks Mine.zez)) (N:=7394) Mine.left (Hook.of (kHook Mine.kp Mine.ks Mine.zez)) (Hook.keeps (kHook Mine.kp Mine.ks Mine.zez)) (λs e=>xl_of s (Bool.and_eq_true_iff.mp e).1) XL.keeps
  (by rfl) (by rfl) (by rfl) (λs e=>recFacts_of (Bool.and_eq_true_iff.mp e).2) (by rfl) (by first | assumption | decide +kernel)
  (by decide +kernel) ⟨rfl,rfl,rfl,rfl,rfl,by decide +kernel⟩ ?hw ?hc
 (case hw=>w_witness2)
 k_fill
 refine L3.ztX (l:=PySem.Challenge.rw_boxnarrow_k66_whole_forged_books) (x:="_law_script") 9 rfl rfl ⟨rfl,by decide,by decide⟩ (λw h Y=>PySem.W.kIn_of Y) ?F
 case F=>
  intro w mg fa h KX G hmg
  refine' Mine.zph KX G hmg (zjX:=?zjX) (zh5:=?zh5) (zlc:=?zlc) (zjA:=?zjA) (ziM:=?ziM) (zjy:=?zjy) (zk9:=?zk9) (zjN:=?zjN) (zhs:=?zhs) (ziv:=?ziv) (zit:=?zit) (zjR:=?zjR) (zla:=?zla) (zkV:=?zkV) (zhD:=?zhD) (zhv:=?zhv) (ziS:=?ziS) (zhK:=?zhK) (zi2:=?zi2) (zki:=?zki) (zis:=?zis) (zkm:=?zkm) (zj7:=?zj7) (zjc:=?zjc) (zin:=?zin) (zij:=?zij) (zkc:=?zkc) (zkL:=?zkL) (zlg:=?zlg) (ziO:=?ziO) (ziF:=?ziF) (zh4:=?zh4) (zli:=?zli) (zkd:=?zkd) (zix:=?zix) (zjQ:=?zjQ) (zhc:=?zhc) (zjg:=?zjg) (zjL:=?zjL) (zkP:=?zkP) (zhO:=?zhO) (zjx:=?zjx) (zkX:=?zkX) (zhd:=?zhd) (ziq:=?ziq) (ziZ:=?ziZ) (zkh:=?zkh) (zk1:=?zk1) (zh8:=?zh8) (zkp:=?zkp) (zkb:=?zkb) (zik:=?zik) (zhu:=?zhu) (a0:=?a0) (l0:=?l0) (c0:=?c0) (a1:=?a1) (l1:=?l1) (c1:=?c1) (a2:=?a2) (l2:=?l2) (c2:=?c2) (a3:=?a3) (l3:=?l3) (c3:=?c3) (a4:=?a4) (l4:=?l4) (c4:=?c4) (a5:=?a5) (l5:=?l5) (c5:=?c5) (a6:=?a6) (l6:=?l6) (c6:=?c6) (a7:=?a7) (l7:=?l7) (c7:=?c7) (a8:=?a8) (l8:=?l8) (c8:=?c8) (a9:=?a9) (l9:=?l9) (c9:=?c9) (a10:=?a10) (l10:=?l10) (c10:=?c10) (a11:=?a11) (l11:=?l11) (c11:=?c11) (a12:=?a12) (l12:=?l12) (c12:=?c12) (a13:=?a13) (l13:=?l13) (c13:=?c13) (a14:=?a14) (l14:=?l14) (c14:=?c14) (a15:=?a15) (l15:=?l15) (c15:=?c15) (a16:=?a16) (l16:=?l16) (c16:=?c16) (a17:=?a17) (l17:=?l17) (c17:=?c17) (a18:=?a18) (l18:=?l18) (c18:=?c18) (a19:=?a19) (l19:=?l19) (c19:=?c19) (a20:=?a20) (l20:=?l20) (c20:=?c20) (a21:=?a21) (l21:=?l21) (c21:=?c21) (a22:=?a22) (l22:=?l22) (c22:=?c22) (a23:=?a23) (l23:=?l23) (c23:=?c23) (a24:=?a24) (l24:=?l24) (c24:=?c24) (a25:=?a25) (l25:=?l25) (c25:=?c25) (a26:=?a26) (l26:=?l26) (c26:=?c26) (a27:=?a27) (l27:=?l27) (c27:=?c27) (a28:=?a28) (l28:=?l28) (c28:=?c28) (a29:=?a29) (l29:=?l29) (c29:=?c29) (a30:=?a30) (l30:=?l30) (c30:=?c30) (a31:=?a31) (l31:=?l31) (c31:=?c31) (a32:=?a32) (l32:=?l32) (c32:=?c32) (a33:=?a33) (l33:=?l33) (c33:=?c33) (a34:=?a34) (l34:=?l34) (c34:=?c34) (a35:=?a35) (l35:=?l35) (c35:=?c35) (a36:=?a36) (l36:=?l36) (c36:=?c36) (a37:=?a37) (l37:=?l37) (c37:=?c37) (a38:=?a38) (l38:=?l38) (c38:=?c38) (a39:=?a39) (l39:=?l39) (c39:=?c39) (a40:=?a40) (l40:=?l40) (c40:=?c40) (a41:=?a41) (l41:=?l41) (c41:=?c41) (a42:=?a42) (l42:=?l42) (c42:=?c42) (a43:=?a43) (l43:=?l43) (c43:=?c43) (a44:=?a44) (l44:=?l44) (c44:=?c44) (a45:=?a45) (l45:=?l45) (c45:=?c45) (a46:=?a46) (l46:=?l46) (c46:=?c46) (a47:=?a47) (l47:=?l47) (c47:=?c47) (a48:=?a48) (l48:=?l48) (c48:=?c48) (a49:=?a49) (l49:=?l49) (c49:=?c49) (a50:=?a50) (l50:=?l50) (c50:=?c50) (a51:=?a51) (l51:=?l51) (c51:=?c51) (a52:=?a52) (l52:=?l52) (c52:=?c52) (a53:=?a53) (l53:=?l53) (c53:=?c53) (a54:=?a54) (l54:=?l54) (c54:=?c54) (a55:=?a55) (l55:=?l55) (c55:=?c55) (a56:=?a56) (l56:=?l56) (c56:=?c56) (a57:=?a57) (l57:=?l57) (c57:=?c57) (a58:=?a58) (l58:=?l58) (c58:=?c58) (a59:=?a59) (l59:=?l59) (c59:=?c59) (a60:=?a60) (l60:=?l60) (c60:=?c60) (a61:=?a61) (l61:=?l61) (c61:=?c61) (a62:=?a62) (l62:=?l62) (c62:=?c62) (a63:=?a63) (l63:=?l63) (c63:=?c63) (a64:=?a64) (l64:=?l64) (c64:=?c64) (zav:=?zav) (zaN:=?zaN) (zc7:=?zc7) (zbg:=?zbg) (zbv:=?zbv) (zbP:=?zbP) (zby:=?zby) (zdk:=?zdk) (zbM:=?zbM) (zc5:=?zc5) (zcX:=?zcX) (zdr:=?zdr)
  (case zjX | zh5 | zlc | zjA | ziM | zjy | zk9 | zjN | zhs | ziv | zit | zjR | zla | zkV | zhD | zhv | ziS | zhK | zi2 | zki | zis | zkm | zj7 | zjc | zin | zij | zkc | zkL | zlg | ziO | ziF | zh4 | zli | zkd | zix | zjQ | zhc | zjg | zjL | zkP | zhO | zjx | zkX | zhd | ziq | ziZ | zkh | zk1 | zh8 | zkp | zkb | zik | zhu | zav | zaN | zc7 | zbg | zbv | zbP | zby | zdk | zbM | zc5 | zcX | zdr=>k_is)
  (case a0 | a1 | a2 | a3 | a4 | a5 | a6 | a7 | a8 | a9 | a10 | a11 | a12 | a13 | a14 | a15 | a16 | a17 | a18 | a19 | a20 | a21 | a22 | a23 | a24 | a25 | a26 | a27 | a30 | a32 | a34 | a36 | a37 | a45 | a46 | a47 | a48 | a49 | a50 | a51 | a52 | a53 | a54 | a55 | a56 | a57 | a58 | a59 | a60 | a61 | a62 | a63 | a64=>delta Mine.nsA; k_is)
  (case a28 | a29 | a31 | a33 | a35 | a38 | a39 | a40 | a41 | a42 | a43 | a44=>delta Mine.fdA; k_is)
  (case l0 | l1 | l2 | l3 | l4 | l5 | l6 | l7 | l8 | l9 | l10 | l11 | l12 | l13 | l14 | l15 | l16 | l17 | l18 | l19 | l20 | l21 | l22 | l23 | l24 | l25 | l26 | l27 | l28 | l29 | l30 | l31 | l32 | l33 | l34 | l35 | l36 | l37 | l38 | l39 | l40 | l41 | l42 | l43 | l44 | l45 | l46 | l47 | l48 | l49 | l50 | l51 | l52 | l53 | l54 | l55 | l56 | l57 | l58 | l59 | l60 | l61 | l62 | l63 | l64=>delta Mine.lkA; k_is)
  (case c0 | c1 | c2 | c3 | c4 | c5 | c6 | c7 | c8 | c9 | c10 | c11 | c12 | c13 | c14 | c15 | c16 | c17 | c18 | c19 | c20 | c21 | c22 | c23 | c24 | c25 | c26 | c27 | c28 | c29 | c30 | c31 | c32 | c33 | c34 | c35 | c36 | c37 | c38 | c39 | c40 | c41 | c42 | c43 | c44 | c45 | c46 | c47 | c48 | c49 | c50 | c51 | c52 | c53 | c54 | c55 | c56 | c57 | c58 | c59 | c60 | c61 | c62 | c63 | c64=>delta Mine.cdA; k_is)
