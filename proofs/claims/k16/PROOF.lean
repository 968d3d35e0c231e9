import PyProof.Rows.All
import Wide.All
import OpenK.AllK
import Wide.FinOn
import Lean
import PyProof.EqAt
import PyProof.EqKinds
import PyProof.TupleCall
import PySem.Challenge.RW_boxnarrow_k16_lines_told
def zA:=@Nat.le_refl
def zB:=@List.mem_cons
def zC:=@List.length_map
def zD:=@List.getElem?_eq_getElem
def zE:=@List.getElem?_eq_some_iff
def zF:=@List.length_append
def zG:=@List.not_mem_nil
def zH:=@List.mem_append
def zI:=@Nat.ne_of_lt
def zJ:=@List.lookup_cons
def zK:=@Nat.lt_of_lt_of_le
def zL:=@List.map_cons
def zM:=@List.size_toArray
def zN:=@List.map_append
def zO:=@List.mem_cons_of_mem
def zP:=@List.length_cons
def zQ:=@Bool.false_ne_true
def zR:=@List.getElem?_map
def zS:=@Nat.zero_le
def zT:=@List.mem_of_getElem?
def zU:=@List.mem_singleton
def zV:=@List.mem_cons_self
def zW:=@Nat.le_trans
def zX:=@List.mem_append_right
def zY:=@List.getElem?_append_left
def zZ:=@Bool.and_eq_true
def yA:=@Option.map_eq_some_iff
def yB:=@Nat.lt_irrefl
def yC:=@List.getElem?_append_right
def yD:=@List.getElem?_set_ne
def yE:=@List.append_nil
def yF:=@Nat.le_of_lt
def yG:=@List.append_assoc
def yH:=@List.mem_append_left
def yI:=@List.getElem?_set_self
def yJ:=@List.nodup_cons
def yK:=@Int.toNat_natCast
def yL:=@List.find?_cons
def yM:=@List.mem_map
def yN:=@List.any_cons
def yO:=@List.range_succ
def yP:=@Bool.eq_iff_iff
def yQ:=@List.nodup_nil
def yR:=@List.getElem?_eq_none_iff
def yS:=@Nat.pow_succ
def yT:=@List.length_range
def yU:=@Bool.false_and
def yV:=@Option.isSome_iff_exists
def yW:=@List.mem_iff_getElem
def yX:=@Int.natAbs_dvd_natAbs
def yY:=@List.drop_of_length_le
def yZ:=@Int.mul_le_mul_of_nonneg_left
def xA:=@List.drop_eq_getElem_cons
def xB:=@List.length_drop
def xC:=@List.all_cons
def xD:=@Nat.pow_le_pow_right
def xE:=@List.getElem_mem
def xF:=@List.cons_append
def xG:=@List.filterMap_cons
def xH:=@List.any_eq_false
def xI:=@Nat.le_succ
def xJ:=@List.length_take
def xK:=@List.length_singleton
def xM:=@Nat.log2_lt
def xN:=@Option.map_some
def xO:=@Bool.and_false
def xP:=@List.take_of_length_le
def xQ:=@Nat.mod_lt
def xR:=@Nat.mul_assoc
def xU:=@Int.natAbs_natCast
def xV:=@List.take_append_of_le_length
def xW:=@List.take_length
def xX:=@Nat.add_sub_cancel_left
def xY:=@List.map_map
def xZ:=@Int.ofNat_lt
def wA:=@List.mem_range
def wB:=@Nat.ne_of_gt
def wC:=@List.mem_filterMap
def wD:=@Nat.le_of_eq
def wF:=@List.of_mem_zip
def wG:=@List.getElem?_replicate
def wH:=@List.length_replicate
def wJ:=@List.map_nil
def wK:=@Nat.lt_of_le_of_lt
def wL:=@Option.isSome_map
def wM:=@Int.mul_comm
def wN:=@Int.gcd_dvd_left
def wO:=@Int.gcd_dvd_right
def wQ:=@Int.natAbs_mul
def wR:=@List.getElem?_cons_succ
def wU:=@List.all_eq_true
def wV:=@List.getD_eq_getElem?_getD
def wW:=@Bool.and_eq_true_iff
def wX:=@List.flatMap_cons
def wY:=@List.map_eq_nil_iff
def wZ:=@List.flatten_cons
def vA:=@Nat.mul_le_mul
def vC:=@List.take_left
def vD:=@Nat.sub_self
def vE:=@List.singleton_append
def vG:=@Bool.true_and
def vH:=@Option.bind_eq_some_iff
def vI:=@List.mem_filter
def vJ:=@Nat.lt_succ_self
def vK:=@List.length_set
def vL:=@Option.getD_none
def vM:=@List.length_nil
def vN:=@Int.fdiv_eq_ediv_of_dvd
def vO:=@Int.ediv_mul_cancel
def vP:=@List.forIn_cons
def vQ:=@List.any_eq_true
def vR:=@List.set_append_right
def vS:=@List.foldl_cons
def vT:=@Bool.not_eq_true'
def vU:=@List.getElem?_eq_none
def vV:=@Nat.toDigits_of_lt_base
def vW:=@Int.dvd_mul_left
def vX:=@Nat.mul_le_mul_right
def vY:=@Nat.min_eq_left
def vZ:=@Int.dvd_mul_of_dvd_left
def uA:=@Option.map_eq_none_iff
def uB:=@List.find?_eq_none
def uC:=@List.nodup_append
def uD:=@List.nil_append
def uE:=@List.reverse_append
def uF:=@List.reverse_singleton
set_option Elab.async false
set_option linter.all false
local macro_rules|`(())=>`(by first|lia|omega)
local macro_rules|`(⋯)=>`(by decide)
set_option maxRecDepth 100000
set_option genSizeOf false
set_option bootstrap.genMatcherCode false
set_option compiler.extract_closed false
set_option maxHeartbeats 40000000
abbrev LA:=List (PySem.Addr×PySem.Obj)
abbrev QW:=PySem.Challenge.pw_boxnarrow_k16_lines_told
abbrev Fg:=PySem.W.Frag
namespace L2
open PySem PySem.Spec PyProof.Rows
def ZS (s:Stmt)(j:Nat):Stmt:=match s with
 | .ClassDef _ _ _ body _ _ _ _ _ _ _=>body.getD j (.Pass ⟨0,0,0,0⟩)
 | _=>.Pass ⟨0,0,0,0⟩
def UN (s:Stmt):Arguments:=match s with
 | .FunctionDef _ a _ _ _ _ _ _ _ _=>a
 | _=>{ posonlyargs:=[],args:=[],vararg:=none,kwonlyargs:=[],kw_defaults:=[],kwarg:=none,defaults:=[] }
def WN (s:Stmt):List Stmt:=match s with
 | .FunctionDef _ _ b _ _ _ _ _ _ _=>b
 | _=>[]
def Zr (s:Stmt):Scope:=match s with
 | .FunctionDef _ _ _ _ _ _ sc _ _ _=>sc
 | _=>{ kind:=.function,names:=[],isGenerator:=false,isCoroutine:=false }
end L2
namespace L3
open PySem PySem.W PyProof.Rows PySem.Calls
def goT (tb:String->Option Builtin)(p:Program)(w:World)(n₀:Nat)(ann:Option Value):Nat->SharedT->Thread->Option SharedT
 | 0,_,_=>none
 | k+1,s,t=>bif through t then some s else bif stepOk n₀ ann t then (stepT (denote tb) p w s t).bind (λr=>goT tb p w n₀ ann k r.1 r.2) else none
theorem GG:∀ {n:Nat} {s s':SharedT} {t:Thread},goT tb p w n₀ ann n s t=some s'->topRun tb p w n₀ ann n s.abs t=some s'.abs
 | 0,_,_,_,q=>nomatch q
 | n+1,s,s',t,q=>by
  unfold goT at q;unfold topRun;cases c1:through t
  .rw[c1] at q;cases c2:stepOk n₀ ann t
   .rw[c2] at q;exact nomatch q
   .rw[c2] at q;obtain⟨⟨s2,t2⟩,c3,q⟩:=vH.mp q;rw[stepT_spec c3];exact GG q
  .rw[c1] at q;cases q;rfl
def Jw (os:Array Obj):Nat->Nat->Nat->BT
 | 0,_,_=>.nil
 | f+1,a,b=>match os[b]? with
  | some o=>.node o (Jw os f (2*a) (a+b)) (Jw os f (2*a) (2*a+b))
  | none=>.nil
noncomputable def bootT (P:Params):BT:=Jw (boot_heap P).objs 6 1 0
noncomputable abbrev Sx (w:World)(os:OsState):SharedT:=⟨bootT w.params,11,(boot_heap w.params).life,Array.mk [],boot_drawn,boot_toks,os⟩
def OX (s:SharedT)(a:Addr):Option Obj:=if a<s.n then (match s.tree.get a with|some o=>alive o|none=>s.abs.heap.get? a) else none
theorem zan (s:SharedT)(a:Addr):s.abs.heap.get? a=OX s a:=by
 unfold OX;split
 .rename_i h;cases e:s.tree.get a with
  | none=>rfl
  | some o=>exact abs_get h e
 .rename_i h;exact abs_get_none h
theorem CJ (l:List Addr)(s:SharedT):l.map s.abs.heap.get?=l.map (OX s):=List.map_congr_left λa _=>zan s a
noncomputable abbrev seenT (p q:Program)(aF:List Str)(Xt:Shared->Bool){α:Type}(YT:SharedT->α)(g0:Bool)(w:World)(s:SharedT):=
 ((staticsOk (importedModules p.main.body) (boot_heap w.params) s.abs.heap&&namesBound p s.abs.heap&&gensDone s.abs&&laidKept (boot_heap w.params) s.abs.heap),openSeen q aF (importedModules p.main.body) Xt g0 s.abs,YT s)
theorem zb3 (hY:∀s:SharedT,Yf s.abs=YT s)(e:opening p=plainProg p.main.scope.names)(hN:Nat.ble 600 N=true)(f:∀s,fenceModules? p s=some s)(size:∀w:World,((boot_heap w.params).isNs mainGlobals&&(Array.mk []:Array GenState).size==0,(boot_heap w.params).objs.size,(boot_heap w.params).nsMap mainGlobals "__annotations__")=(true,11,ann))(run:∀w:World,(λos=>(goT treeTable p w 11 ann N (Sx w os) (topStub p)).map λs=>seenT p q aF Xt YT g0 w s)=λ_=>some (true,openGood q aF,Ya w)):LeftO p q aF Xt Yf Ya N g0:=λw=>by
 obtain⟨⟨h,gs,d,k,os⟩,e1,e'⟩:=yA.mp (boot_open e hN f w);obtain⟨rfl,rfl,rfl,rfl⟩:h=boot_heap w.params/\gs=Array.mk []/\d=boot_drawn/\k=boot_toks:=by simpa using e'
 obtain⟨y1,y2,y3⟩:_/\_/\_:=by simpa only [Prod.mk.injEq] using size w
 obtain⟨s',r1,r2⟩:=yA.mp (congrFun (run w) os);obtain⟨l1,l2,l3⟩:_/\_/\_:=by simpa only [Prod.mk.injEq] using r2
 have r:topRun treeTable p w 11 ann N ⟨boot_heap w.params,Array.mk [],boot_drawn,boot_toks,os⟩ (topStub p)=some s'.abs:=by
  have z:=GG r1;exact z
 have t:topFrom treeTable p w N ⟨boot_heap w.params,Array.mk [],boot_drawn,boot_toks,os⟩=some s'.abs:=by
  unfold topFrom;dsimp only;rw[y1,y2,y3,r];show (match staticsOk (importedModules p.main.body) (boot_heap w.params) s'.abs.heap&&namesBound p s'.abs.heap&&gensDone s'.abs&&laidKept (boot_heap w.params) s'.abs.heap with|true=>_|false=>_)=_;rw[l1]
 unfold openEnds;rw[e1];show Option.map _ (topFrom treeTable p w N _)=_;rw[t];exact congrArg some (Prod.ext l2 ((hY s').trans l3))
noncomputable abbrev LX (p:Program)(w:World)(s:SharedT):Bool:=staticsOk (importedModules p.main.body) (boot_heap w.params) s.abs.heap&&namesBound p s.abs.heap&&gensDone s.abs&&laidKept (boot_heap w.params) s.abs.heap
theorem zav (hY:∀s:SharedT,Yf s.abs=YT s)(e:opening p=plainProg p.main.scope.names)(hN:Nat.ble 600 N=true)(f:∀s,fenceModules? p s=some s)(size:∀w:World,((boot_heap w.params).isNs mainGlobals&&(Array.mk []:Array GenState).size==0,(boot_heap w.params).objs.size,(boot_heap w.params).nsMap mainGlobals "__annotations__")=(true,11,ann))(ra:∀w:World,(λos=>(goT treeTable p w 11 ann N (Sx w os) (topStub p)).map λs=>(LX p w s,(openSeen q aF (importedModules p.main.body) Xt g0 s.abs).1))=λ_=>some (true,(openGood q aF).1))(rb:∀w:World,(λos=>(goT treeTable p w 11 ann N (Sx w os) (topStub p)).map λs=>((openSeen q aF (importedModules p.main.body) Xt g0 s.abs).2.1,(openSeen q aF (importedModules p.main.body) Xt g0 s.abs).2.2.1))=λ_=>some ((openGood q aF).2.1,(openGood q aF).2.2.1))(rc:∀w:World,(λos=>(goT treeTable p w 11 ann N (Sx w os) (topStub p)).map λs=>(openSeen q aF (importedModules p.main.body) Xt g0 s.abs).2.2.2)=λ_=>some (openGood q aF).2.2.2)(objs:∀w:World,(λos=>(goT treeTable p w 11 ann N (Sx w os) (topStub p)).map YT)=λ_=>some (Ya w)):LeftO p q aF Xt Yf Ya N g0:=by
 refine zb3 hY e hN f size λw=>funext λos=>?_
 obtain⟨s1,a1,b1⟩:=yA.mp (congrFun (ra w) os);obtain⟨s2,a2,b2⟩:=yA.mp (congrFun (rb w) os);obtain⟨s3,a3,b3⟩:=yA.mp (congrFun (rc w) os);obtain⟨s4,a4,b4⟩:=yA.mp (congrFun (objs w) os);rw[a1] at a2 a3 a4;cases a2;cases a3;cases a4;obtain⟨l1,l2⟩:=Prod.mk.inj b1;obtain⟨l3,l4⟩:=Prod.mk.inj b2;have l5:openSeen q aF (importedModules p.main.body) Xt g0 s1.abs=openGood q aF:=Prod.ext l2 (Prod.ext l3 (Prod.ext l4 b3));rw[a1];show some (LX p w s1,openSeen q aF (importedModules p.main.body) Xt g0 s1.abs,YT s1)=some (true,openGood q aF,Ya w);rw[l1,l5,b4]
end L3
namespace Mine
open PySem PySem.Spec PyProof.Rows L2 L3
def top (i:Nat):Stmt:=QW.main.body.getD i (.Pass ⟨0,0,0,0⟩)
theorem ws_eq:W.OpenLaw.wellSaid PySem.Challenge.rw_boxnarrow_k16_lines_told=true:=by
 unfold W.OpenLaw.wellSaid
 repeat' (with_reducible refine W.look_both ?_ ?_)
 all_goals decide +kernel
def vw:Program:={ QW with main:={ QW.main with body:=[top 0,top 2,top 3,top 4,top 5,top 6,top 8,top 9,top 10,top 11,top 13,top 14,top 15,top 16,top 17,top 18,top 19,top 20,top 21,top 22,top 24,top 25,top 26,top 27,top 28,top 29,top 31,top 32,top 33,top 34,top 36,top 37,top 38,top 39,top 40,top 41,top 42,top 43,top 44,top 45,top 47,top 48,top 49,top 50,top 51,top 52,top 53,top 54,top 55,top 56,top 57,top 58,top 59,top 60,top 61,top 62,top 63,top 64,top 65,top 66,top 67] } }
noncomputable abbrev de (P:Params)(s:Str)(t:Tok)(v:Value):DictEntry:=⟨PySem.PyData.keyHash P s,.str s t,v⟩
abbrev co (n q:Str)(a b c d:Tok)(i k:Int)(r s:Addr)(y z:Value)(t:Addr)(j:Int):Obj:=⟨.type "code",none,.fields #[.str n a,.str q b,.str "/claim/cut.py" c,.int i 0,.int k 0,.int 0 0,.int 0 0,.int 3 0,.ref r,.bool Bool.true,.int 181 0,.ref s,.none,y,z,.ref t,.int j 0,.int i 0,.str "/claim/cut.py" d],#[]⟩
abbrev fo (n q:Str)(st:Stmt)(m:Value)(c:Addr):Obj:=⟨.type "function",none,.func (W.fnOf n q (UN st) (WN st) (Zr st) .none .none .none m none (.ref c) .none),#[]⟩
abbrev q0:Str:="law_boxnarrow_k16_lines_told"
abbrev q1:Str:="_law_alike"
abbrev q2:Str:="boxnarrow.tasks"
abbrev q3:Str:="__init__"
abbrev q4:Str:="_law_state_here"
abbrev q5:Str:="greatest_divisor"
abbrev q6:Str:="_law_put_tree"
abbrev q7:Str:="boxnarrow.grammar"
abbrev q8:Str:="_law_whole"
abbrev q9:Str:="place_of_sign"
abbrev q10:Str:="__static_attributes__"
abbrev q11:Str:="_law_cell_at"
abbrev q12:Str:="_law_number"
abbrev q13:Str:="_law_unknown"
abbrev q14:Str:="_law_words"
abbrev q15:Str:="figures_of"
abbrev q16:Str:="_law_level"
abbrev q17:Str:="_law_state"
abbrev q18:Str:="_law_looks"
abbrev q19:Str:="_law_spoil"
abbrev q20:Str:="number_of"
abbrev q21:Str:="put_tree"
abbrev q22:Str:="_law_mix"
abbrev q23:Str:="is_name"
abbrev q24:Str:="weight_of"
abbrev q25:Str:="_law_atom"
abbrev q26:Str:="_law_tree"
abbrev q27:Str:="_law_name"
abbrev q28:Str:="_law_twin"
abbrev q29:Str:="_law_text"
abbrev q30:Str:="_law_line"
abbrev q31:Str:="_law_told"
abbrev q32:Str:="NoNumber"
abbrev q33:Str:="_law_put"
abbrev q34:Str:="nodes"
abbrev q35:Str:="__firstlineno__"
abbrev q36:Str:="words"
abbrev q37:Str:="isinstance"
abbrev q38:Str:="is_whole"
abbrev q39:Str:="fraction"
abbrev q40:Str:="words_of"
abbrev q41:Str:="check_known"
abbrev q42:Str:="_law_tree_here"
abbrev q43:Str:="made_of"
abbrev q44:Str:="tree_of"
abbrev q45:Str:="copy_of"
abbrev q46:Str:="tell_unknown"
abbrev q47:Str:="_law_cell"
abbrev q48:Str:="expression"
abbrev q49:Str:="written"
abbrev q50:Str:="ends_of"
abbrev q51:Str:="Reader.expression"
abbrev q52:Str:="Task.tell_unknown"
abbrev q53:Str:="check_new"
abbrev q54:Str:="TooMuch"
abbrev q55:Str:="Task.check_known"
abbrev q56:Str:="NoRow"
abbrev q57:Str:="Reader.__init__"
abbrev q58:String:="ValueError.__new__"
abbrev q59:Str:="tell_part"
abbrev q60:Str:="__module__"
abbrev q61:String:="object"
abbrev q62:Str:="Reader.bracket"
abbrev q63:Str:="Task.tell_part"
abbrev q64:Str:="Task.check_new"
abbrev q65:Str:="boxnarrow.errors"
abbrev q66:String:="BaseException"
abbrev q67:Str:="Reader.at_end"
abbrev q68:Str:="Reader.factor"
abbrev q69:Str:="Task.__init__"
abbrev q70:Str:="tell_row"
abbrev q71:Str:="Task.tell_row"
abbrev q72:Str:="_law_number_here"
abbrev q73:Str:="at_end"
abbrev q74:Str:="boxnarrow.words"
abbrev q75:Str:="abcdefghijklmnopqrstuvwxyz"
abbrev q76:Str:="boxnarrow.fractions"
abbrev q77:Str:="Net.__init__"
abbrev q78:Str:="__doc__"
abbrev q79:Str:="bracket"
abbrev q80:Str:="boxnarrow.nets"
abbrev q81:Str:="_law_name_here"
abbrev q82:Str:="Reader.sees"
abbrev q83:Str:="Reader.take"
abbrev q84:Str:="Reader.term"
abbrev q85:Str:="Reader.atom"
abbrev q86:Str:="_law_script"
abbrev q87:Str:="_law_task"
abbrev q88:String:="ValueError"
abbrev q89:Str:="factor"
abbrev q90:Str:="Task.names"
abbrev q91:Str:="Task.nodes"
abbrev q92:Str:="_law_found"
abbrev q93:Str:="names"
abbrev q94:Str:="Net.nodes"
abbrev q95:Str:="Task.tell"
abbrev q96:Str:="Task.ends"
abbrev q97:Str:="Task.rows"
abbrev q98:Str:="_law_k"
abbrev q99:Str:="_law_line_here"
abbrev q100:String:="object.__setattr__"
abbrev R4:Str:="ROW_WORDS"
abbrev RU:String:="Exception"
abbrev q103:String:="object.__class__"
abbrev Na:Str:="__weakref__"
abbrev OM:Str:="_law_bottom"
abbrev r (n:Addr):Value:=.ref n
abbrev sr (n:Addr):Option Value:=some (.ref n)
noncomputable abbrev dr (P:Params)(s:Str)(t:Tok)(n:Addr):DictEntry:=de P s t (.ref n)
noncomputable abbrev dn (P:Params)(s:Str)(t:Tok):DictEntry:=de P s t .none
abbrev dO (l:Array DictEntry)(n:Nat):Obj:=.mk (.type "dict") none (.dict l n) #[]
abbrev bO (s:String)(v:Value):Obj:=.mk (.type "builtin_function_or_method") none (.fields #[.builtin s,v]) #[]
abbrev cO (a:Str)(t1:Tok)(b:Str)(t2 t3:Tok)(l:Int)(x:Addr)(m:Int)(y:Addr)(k l2:Int)(t4:Tok):Obj:=.mk (.type "code") none (.fields #[.str a t1,.str b t2,.str "/claim/cut.py" t3,.int l 0,.int 0 0,.int 0 0,.int 0 0,.int 0 0,.ref x,.bool Bool.false,.int m 0,.ref y,.none,.none,.none,.none,.int k 0,.int l2 0,.str "/claim/cut.py" t4]) #[]
abbrev gO (a b c:Addr)(s:Value)(d:Addr):Obj:=.mk (.type "frame") none .plain #[some (.ref a),some (.ref b),some (.ref c),none,some s,none,some (.ref d)]
abbrev cp (n q:Str)(t:Tok)(i k:Int)(a:Addr)(j:Tok):Obj:=co n q t (t+1) (t+2) (j+1) i k a (a+1) (.ref (a+2)) (.ref (a+3)) (a+4) j
abbrev fp (n q:Str)(k:Nat)(m:Str)(t:Tok)(c:Addr):Obj:=fo n q (top k) (.str m t) c
abbrev tyO (nw:String)(n:Str)(bs ms:List Value)(d:Addr)(ss:List Value)(b:Addr)(t1 t2:Tok):Obj:=.mk (.type "type") none (.cls (PySem.ClassData.mk n bs ms d n Bool.true [] ss Bool.false none Bool.false)) #[some (.ref b),none,some (.str n t1),some (.str n t2),some (.builtin nw),some (.bool Bool.true)]
abbrev uO (a:Addr):Obj:=.mk (.type "super") none (.fields #[.ref a,.ref a,.ref a]) #[]
noncomputable def kp:Params->PySem.W.Frag:=λP=>
 (nat_lit 3,(dO #[(de P "__name__" 165 (.str q0 765)),(dn P q78 166),(dn P "__package__" 167),(de P "__loader__" 168 (.builtin "__main__.__loader__#opaque")),(dn P "__spec__" 169),(dr P "__annotations__" 170 6),(dr P "__builtins__" 171 4),(de P "__file__" 173 (.str "/claim/cut.py" 172)),(dn P "__cached__" 174),(dr P "_wall" 193 21),(dr P "BoxError" 213 31),(dr P q32 229 44),(dr P q56 245 56),(dr P q54 261 68),(dr P "NoName" 286 87),(dr P q38 295 96),(dr P q5 304 103),(dr P q39 313 110),(dr P "less" 321 117),(de P "FIGURES" 325 (.str "0123456789" 324)),(de P "LETTERS" 327 (.str q75 326)),(de P "MOST_FIGURES" 329 (.int 9 328)),(de P "MOST_LETTERS" 331 (.int 8 330)),(dr P "KEPT_WORDS" 342 118),(dr P q43 348 123),(dr P q15 357 130),(dr P q49 365 137),(dr P q20 377 144),(dr P q23 384 151),(de P "MOST_WORDS" 388 (.int 120 387)),(de P "MOST_BRACKETS" 390 (.int 16 389)),(dr P "SUMS" 397 152),(dr P "POWERS" 403 153),(dr P "Reader" 499 226),(dr P q44 508 237),(de P "MOST_NODES" 512 (.int 60 511)),(de P "MOST_WEIGHT" 514 (.int 16 513)),(dr P q24 522 244),(dr P "Net" 577 282),(de P "MOST_UNKNOWNS" 581 (.int 4 580)),(de P "MOST_ROWS" 583 (.int 12 582)),(dr P R4 590 287),(dr P q40 598 294),(dr P q50 607 301),(dr P q9 616 308),(dr P q21 627 315),(dr P q45 636 322),(dr P "Task" 755 409),(dr P "read" 764 420),(dr P q11 774 427),(dr P q22 782 434),(dr P q8 789 441),(dr P q1 795 446),(dr P q25 804 453),(dr P q26 816 460),(dr P q12 824 467),(dr P q16 831 474),(dr P q14 840 481),(dr P q33 849 488),(dr P q6 859 495),(dr P q27 870 502),(dr P q17 876 509),(dr P q28 885 516),(dr P q29 894 523),(dr P q13 908 530),(dr P q30 921 537),(dr P q31 931 544),(dr P q18 937 549),(dr P q19 946 556),(dr P "law" 952 561)] 70))::
 (nat_lit 30,(dO #[(de P q60 203 (.str q65 194)),(de P q35 207 (.int 5 206)),(dr P q10 208 29),(dr P Na 210 32),(dn P q78 211)] 3))::
 (nat_lit 31,(tyO q58 "BoxError" [(.type q88)] [(r 31),(.type q88),(.type RU),(.type q66),(.type q61)] 30 [(r 44),(r 56),(r 68),(r 87)] 22 196 204))::
 (nat_lit 43,(dO #[(de P q60 221 (.str q65 194)),(de P q35 225 (.int 7 224)),(dr P q10 226 42),(dn P q78 227)] 2))::
 (nat_lit 44,(tyO q58 q32 [(r 31)] [(r 44),(r 31),(.type q88),(.type RU),(.type q66),(.type q61)] 43 [] 35 214 222))::
 (nat_lit 55,(dO #[(de P q60 237 (.str q65 194)),(de P q35 241 (.int 9 240)),(dr P q10 242 54),(dn P q78 243)] 2))::
 (nat_lit 56,(tyO q58 q56 [(r 31)] [(r 56),(r 31),(.type q88),(.type RU),(.type q66),(.type q61)] 55 [] 47 230 238))::
 (nat_lit 67,(dO #[(de P q60 253 (.str q65 194)),(de P q35 257 (.int 11 256)),(dr P q10 258 66),(dn P q78 259)] 2))::
 (nat_lit 68,(tyO q58 q54 [(r 31)] [(r 68),(r 31),(.type q88),(.type RU),(.type q66),(.type q61)] 67 [] 59 246 254))::
 (nat_lit 86,(dO #[(de P q60 269 (.str q65 194)),(de P q35 273 (.int 13 272)),(dr P q3 281 84),(dr P q10 283 85),(dn P q78 284)] 2))::
 (nat_lit 87,(tyO q58 "NoName" [(r 31)] [(r 87),(r 31),(.type q88),(.type RU),(.type q66),(.type q61)] 86 [] 71 262 270))::
 (nat_lit 95,cp q38 q38 289 18 1 90 293)::
 (nat_lit 96,fp q38 q38 8 q76 287 95)::
 (nat_lit 102,cp q5 q5 296 20 2 97 302)::
 (nat_lit 103,fp q5 q5 9 q76 287 102)::
 (nat_lit 109,cp q39 q39 305 26 2 104 311)::
 (nat_lit 110,fp q39 q39 10 q76 287 109)::
 (nat_lit 116,cp "less" "less" 314 33 2 111 319)::
 (nat_lit 117,fp "less" "less" 11 q76 287 116)::
 (nat_lit 118,(.mk (.type "tuple") none (.seq #[(.str "let" 332),(.str "in" 333),(.str "grid" 334),(.str "fine" 335),(.str "looks" 336),(.str "solve" 337),(.str "boxes" 338),(.str "point" 339),(.str "right" 340),(.str "islands" 341)] 0) #[]))::
 (nat_lit 122,co q43 q43 343 344 345 347 41 3 119 120 .none .none 121 346)::
 (nat_lit 123,fp q43 q43 18 q74 322 122)::
 (nat_lit 129,cp q15 q15 349 43 1 124 355)::
 (nat_lit 130,fp q15 q15 19 q74 322 129)::
 (nat_lit 136,cp q49 q49 358 51 1 131 363)::
 (nat_lit 137,fp q49 q49 20 q74 322 136)::
 (nat_lit 143,cp q20 q20 366 58 1 138 375)::
 (nat_lit 144,fp q20 q20 21 q74 322 143)::
 (nat_lit 150,cp q23 q23 378 71 1 145 382)::
 (nat_lit 151,fp q23 q23 22 q74 322 150)::
 (nat_lit 152,(dO #[(de P "+" 391 (.str "plus" 392)),(de P "-" 393 (.str "minus" 394))] 2))::
 (nat_lit 153,(.mk (.type "tuple") none (.seq #[(.str "2" 398),(.str "3" 399),(.str "4" 400),(.str "5" 401),(.str "6" 402)] 0) #[]))::
 (nat_lit 166,cp q3 q57 416 80 2 161 421)::
 (nat_lit 167,fo q3 q57 (ZS (top 28) 0) (.str q7 385) 166)::
 (nat_lit 173,cp q73 q67 424 85 1 168 428)::
 (nat_lit 174,fo q73 q67 (ZS (top 28) 1) (.str q7 385) 173)::
 (nat_lit 180,cp "sees" q82 431 88 2 175 436)::
 (nat_lit 181,fo "sees" q82 (ZS (top 28) 2) (.str q7 385) 180)::
 (nat_lit 187,cp "take" q83 439 91 1 182 444)::
 (nat_lit 188,fo "take" q83 (ZS (top 28) 3) (.str q7 385) 187)::
 (nat_lit 194,cp q48 q51 447 98 1 189 453)::
 (nat_lit 195,fo q48 q51 (ZS (top 28) 4) (.str q7 385) 194)::
 (nat_lit 201,cp "term" q84 456 105 1 196 461)::
 (nat_lit 202,fo "term" q84 (ZS (top 28) 5) (.str q7 385) 201)::
 (nat_lit 208,cp q89 q68 464 112 1 203 469)::
 (nat_lit 209,fo q89 q68 (ZS (top 28) 6) (.str q7 385) 208)::
 (nat_lit 215,cp "atom" q85 472 121 1 210 478)::
 (nat_lit 216,fo "atom" q85 (ZS (top 28) 7) (.str q7 385) 215)::
 (nat_lit 222,cp q79 q62 481 130 1 217 486)::
 (nat_lit 223,fo q79 q62 (ZS (top 28) 8) (.str q7 385) 222)::
 (nat_lit 225,(dO #[(de P q60 411 (.str q7 385)),(de P q35 415 (.int 78 414)),(dr P q3 423 167),(dr P q73 430 174),(dr P "sees" 438 181),(dr P "take" 446 188),(dr P q48 455 195),(dr P "term" 463 202),(dr P q89 471 209),(dr P "atom" 480 216),(dr P q79 488 223),(dr P q10 492 224),(dr P "__dict__" 494 227),(dr P Na 496 228),(dn P q78 497)] 4))::
 (nat_lit 226,(.mk (.type "type") none (.cls (PySem.ClassData.mk "Reader" [(.type q61)] [(r 226),(.type q61)] 225 "Reader" Bool.true [] [] Bool.false none Bool.false)) #[none,none,(some (.str "Reader" 404)),(some (.str "Reader" 412)),(some (.builtin "object.__new__")),(some (.bool Bool.true))]))::
 (nat_lit 236,cp q44 q44 500 139 1 231 506)::
 (nat_lit 237,fp q44 q44 29 q7 385 236)::
 (nat_lit 243,cp q24 q24 515 150 2 238 520)::
 (nat_lit 244,fp q24 q24 33 q80 509 243)::
 (nat_lit 257,cp q3 q77 535 158 1 252 539)::
 (nat_lit 258,fo q3 q77 (ZS (top 34) 0) (.str q80 509) 257)::
 (nat_lit 264,cp "put" "Net.put" 542 163 2 259 549)::
 (nat_lit 265,fo "put" "Net.put" (ZS (top 34) 1) (.str q80 509) 264)::
 (nat_lit 271,cp q34 q94 552 177 1 266 556)::
 (nat_lit 272,fo q34 q94 (ZS (top 34) 2) (.str q80 509) 271)::
 (nat_lit 281,(dO #[(de P q60 530 (.str q80 509)),(de P q35 534 (.int 156 533)),(dr P q3 541 258),(dr P "put" 551 265),(dr P q34 558 272),(dr P "weight" 566 279),(dr P q10 570 280),(dr P "__dict__" 572 283),(dr P Na 574 284),(dn P q78 575)] 4))::
 (nat_lit 282,(.mk (.type "type") none (.cls (PySem.ClassData.mk "Net" [(.type q61)] [(r 282),(.type q61)] 281 "Net" Bool.true [] [] Bool.false none Bool.false)) #[none,none,(some (.str "Net" 523)),(some (.str "Net" 531)),(some (.builtin "object.__new__")),(some (.bool Bool.true))]))::
 (nat_lit 287,(dO #[(de P "=" 584 (.str "zero" 585)),(de P ">=" 586 (.str "least" 587))] 2))::
 (nat_lit 293,cp q40 q40 591 186 1 288 596)::
 (nat_lit 294,fp q40 q40 39 q2 578 293)::
 (nat_lit 300,cp q50 q50 599 193 1 295 605)::
 (nat_lit 301,fp q50 q50 40 q2 578 300)::
 (nat_lit 307,cp q9 q9 608 201 1 302 614)::
 (nat_lit 308,fp q9 q9 41 q2 578 307)::
 (nat_lit 314,cp q21 q21 617 206 3 309 625)::
 (nat_lit 315,fp q21 q21 42 q2 578 314)::
 (nat_lit 321,cp q45 q45 628 216 1 316 634)::
 (nat_lit 322,fp q45 q45 43 q2 578 321)::
 (nat_lit 335,cp q3 q69 649 223 1 330 653)::
 (nat_lit 336,fo q3 q69 (ZS (top 44) 0) (.str q2 578) 335)::
 (nat_lit 342,cp "tell" q95 656 230 2 337 662)::
 (nat_lit 343,fo "tell" q95 (ZS (top 44) 1) (.str q2 578) 342)::
 (nat_lit 349,cp q46 q52 665 238 2 344 672)::
 (nat_lit 350,fo q46 q52 (ZS (top 44) 2) (.str q2 578) 349)::
 (nat_lit 356,cp q59 q63 675 249 2 351 682)::
 (nat_lit 357,fo q59 q63 (ZS (top 44) 3) (.str q2 578) 356)::
 (nat_lit 363,cp q70 q71 685 260 2 358 695)::
 (nat_lit 364,fo q70 q71 (ZS (top 44) 4) (.str q2 578) 363)::
 (nat_lit 370,cp q53 q64 698 273 2 365 703)::
 (nat_lit 371,fo q53 q64 (ZS (top 44) 5) (.str q2 578) 370)::
 (nat_lit 377,cp q41 q55 706 277 2 372 712)::
 (nat_lit 378,fo q41 q55 (ZS (top 44) 6) (.str q2 578) 377)::
 (nat_lit 384,cp q93 q90 715 282 1 379 719)::
 (nat_lit 385,fo q93 q90 (ZS (top 44) 7) (.str q2 578) 384)::
 (nat_lit 391,cp "ends" q96 722 285 1 386 726)::
 (nat_lit 392,fo "ends" q96 (ZS (top 44) 8) (.str q2 578) 391)::
 (nat_lit 398,cp q34 q91 729 288 1 393 733)::
 (nat_lit 399,fo q34 q91 (ZS (top 44) 9) (.str q2 578) 398)::
 (nat_lit 405,cp "rows" q97 736 291 1 400 740)::
 (nat_lit 406,fo "rows" q97 (ZS (top 44) 10) (.str q2 578) 405)::
 (nat_lit 408,(dO #[(de P q60 644 (.str q2 578)),(de P q35 648 (.int 221 647)),(dr P q3 655 336),(dr P "tell" 664 343),(dr P q46 674 350),(dr P q59 684 357),(dr P q70 697 364),(dr P q53 705 371),(dr P q41 714 378),(dr P q93 721 385),(dr P "ends" 728 392),(dr P q34 735 399),(dr P "rows" 742 406),(dr P q10 748 407),(dr P "__dict__" 750 410),(dr P Na 752 411),(dn P q78 753)] 4))::
 (nat_lit 409,(.mk (.type "type") none (.cls (PySem.ClassData.mk "Task" [(.type q61)] [(r 409),(.type q61)] 408 "Task" Bool.true [] [] Bool.false none Bool.false)) #[none,none,(some (.str "Task" 637)),(some (.str "Task" 645)),(some (.builtin "object.__new__")),(some (.bool Bool.true))]))::
 (nat_lit 419,cp "read" "read" 756 293 1 414 762)::
 (nat_lit 420,fp "read" "read" 45 q2 578 419)::
 (nat_lit 426,cp q11 q11 767 299 2 421 772)::
 (nat_lit 427,fp q11 q11 47 q0 765 426)::
 (nat_lit 433,cp q22 q22 775 303 2 428 780)::
 (nat_lit 434,fp q22 q22 48 q0 765 433)::
 (nat_lit 440,cp q8 q8 783 305 1 435 787)::
 (nat_lit 441,fp q8 q8 49 q0 765 440)::
 (nat_lit 445,co q1 q1 790 791 792 794 307 2 442 443 .none .none 444 793)::
 (nat_lit 446,fp q1 q1 50 q0 765 445)::
 (nat_lit 452,cp q25 q25 796 317 2 447 802)::
 (nat_lit 453,fp q25 q25 51 q0 765 452)::
 (nat_lit 459,cp q26 q26 805 324 2 454 814)::
 (nat_lit 460,fp q26 q26 52 q0 765 459)::
 (nat_lit 466,cp q12 q12 817 344 2 461 822)::
 (nat_lit 467,fp q12 q12 53 q0 765 466)::
 (nat_lit 473,cp q16 q16 825 348 1 468 829)::
 (nat_lit 474,fp q16 q16 54 q0 765 473)::
 (nat_lit 480,cp q14 q14 832 356 2 475 838)::
 (nat_lit 481,fp q14 q14 55 q0 765 480)::
 (nat_lit 487,cp q33 q33 841 372 3 482 847)::
 (nat_lit 488,fp q33 q33 56 q0 765 487)::
 (nat_lit 494,cp q6 q6 850 380 2 489 857)::
 (nat_lit 495,fp q6 q6 57 q0 765 494)::
 (nat_lit 501,cp q27 q27 860 394 2 496 868)::
 (nat_lit 502,fp q27 q27 58 q0 765 501)::
 (nat_lit 508,cp q17 q17 871 399 0 503 874)::
 (nat_lit 509,fp q17 q17 59 q0 765 508)::
 (nat_lit 515,cp q28 q28 877 401 1 510 883)::
 (nat_lit 516,fp q28 q28 60 q0 765 515)::
 (nat_lit 522,cp q29 q29 886 407 2 517 892)::
 (nat_lit 523,fp q29 q29 61 q0 765 522)::
 (nat_lit 529,cp q13 q13 895 410 3 524 906)::
 (nat_lit 530,fp q13 q13 62 q0 765 529)::
 (nat_lit 536,cp q30 q30 909 420 3 531 919)::
 (nat_lit 537,fp q30 q30 63 q0 765 536)::
 (nat_lit 543,cp q31 q31 922 435 2 538 929)::
 (nat_lit 544,fp q31 q31 64 q0 765 543)::
 (nat_lit 548,co q18 q18 932 933 934 936 443 2 545 546 .none .none 547 935)::
 (nat_lit 549,fp q18 q18 65 q0 765 548)::
 (nat_lit 555,cp q19 q19 938 447 2 550 944)::
 (nat_lit 556,fp q19 q19 66 q0 765 555)::
 (nat_lit 560,co "law" "law" 947 948 949 951 451 1 557 558 .none .none 559 950)::
 (nat_lit 561,fp "law" "law" 67 q0 765 560)::[]
def ks:List Addr:=3::30::31::43::44::55::56::67::68::86::87::95::96::102::103::109::110::116::117::118::122::123::129::130::136::137::143::144::150::151::152::153::166::167::173::174::180::181::187::188::194::195::201::202::208::209::215::216::222::223::225::226::236::237::243::244::257::258::264::265::271::272::281::282::287::293::294::300::301::307::308::314::315::321::322::335::336::342::343::349::350::356::357::363::364::370::371::377::378::384::385::391::392::398::399::405::406::408::409::419::420::426::427::433::434::440::441::445::446::452::453::459::460::466::467::473::474::480::481::487::488::494::495::501::502::508::509::515::516::522::523::529::530::536::537::543::544::548::549::555::556::560::561::[]
theorem Sw (P:Params):ks=(kp P).map (·.1):=by kernel_rfl
noncomputable abbrev hk:W.Hook:=W.kHook kp ks Sw
abbrev xt (s:Shared):Bool:=W.xlAt vw [] s&&W.recOk (W.RowW.records (W.OpenRow.toRowW (W.OpenLaw.row PySem.Challenge.rw_boxnarrow_k16_lines_told))) s
theorem MO:W.opening QW=W.plainProg QW.main.scope.names:=by kernel_rfl
theorem fe_eq (s:Shared):PySem.fenceModules? QW s=some s:=by kernel_rfl
theorem si_eq (w:World):((W.boot_heap w.params).isNs mainGlobals&&(Array.mk []:Array GenState).size==0,(W.boot_heap w.params).objs.size,(W.boot_heap w.params).nsMap mainGlobals "__annotations__")=(true,11,some (.ref 6)):=by kernel_rfl
noncomputable abbrev gT {α:Type}(w:World)(f:W.SharedT->α):=λos=>(L3.goT PySem.treeTable QW w 11 (some (.ref 6)) 7888 (L3.Sx w os) (W.topStub QW)).map f
theorem foB {p:World->Prop}(a:∀w:World,p (w.withFollow "special-get-raises" Bool.false))(b:∀w:World,p (w.withFollow "special-get-raises" Bool.true))(w:World):p w:=by
 have z:p (w.withFollow "special-get-raises" (w.params.followText "special-get-raises")):=match w.params.followText "special-get-raises" with|.false=>a w|.true=>b w
 rwa [PySem.World.withFollow_self] at z
open PySem.W PySem.Calls in
abbrev RZ (w:World):Prop:=gT w (λs=>(L3.LX QW w s,seen ((recsOf vw).map (·.name)) (ownsOf vw) [] { s.abs with gens:=#[] }))=λ_=>some (true,expectedOf vw)
theorem Co (w:World):RZ (w.withFollow "special-get-raises" Bool.false):=by delta RZ;kernel_rfl
theorem zdJ (w:World):RZ (w.withFollow "special-get-raises" Bool.true):=by delta RZ;kernel_rfl
open PySem.W PySem.Calls in
abbrev RR (w:World):Prop:=gT w (λs=>(s.abs.heap.bltView,s.abs.heap.keysOk (looseW vw [PySem.Str.ofString "SUMS",PySem.Str.ofString "ROW_WORDS"]) ((recsOf vw).map (·.name)) ((litsOf vw).map (·.1)) ((clssOf vw (looseW vw [PySem.Str.ofString "SUMS",PySem.Str.ofString "ROW_WORDS"])).map (·.name))&&s.abs.heap.accountedOkI (importedModules QW.main.body)&&s.abs.heap.isNs mainGlobals&&s.abs.heap.isNs builtinsNs&&tablesOk vw s.abs.heap&&xt s.abs&&(if true then s.abs.gens.size==0 else !leftWithCleanup s.abs.gens)))=λ_=>some (bltViewBooted,true)
theorem zar (w:World):RR (w.withFollow "special-get-raises" Bool.false):=by delta RR;kernel_rfl
theorem C8 (w:World):RR (w.withFollow "special-get-raises" Bool.true):=by delta RR;kernel_rfl
open PySem.W PySem.Calls in
abbrev Rm (w:World):Prop:=gT w (λs=>(tabsOk vw s.abs,pinSeenD vw (drecsOf vw) s.abs,plainSeenE vw (looseW vw [PySem.Str.ofString "SUMS",PySem.Str.ofString "ROW_WORDS"]) s.abs,plainSeenD vw [PySem.Str.ofString "SUMS",PySem.Str.ofString "ROW_WORDS"] s.abs,wideSeen vw s.abs,clsSeenW vw [PySem.Str.ofString "SUMS",PySem.Str.ofString "ROW_WORDS"] s.abs))=λ_=>some (true,pinGoodD (drecsOf vw),plainGoodE vw (looseW vw [PySem.Str.ofString "SUMS",PySem.Str.ofString "ROW_WORDS"]),plainGoodD vw [PySem.Str.ofString "SUMS",PySem.Str.ofString "ROW_WORDS"],wideGood vw,clsGoodW vw [PySem.Str.ofString "SUMS",PySem.Str.ofString "ROW_WORDS"])
theorem zdI (w:World):Rm (w.withFollow "special-get-raises" Bool.false):=by delta Rm;kernel_rfl
theorem Bl (w:World):Rm (w.withFollow "special-get-raises" Bool.true):=by delta Rm;kernel_rfl
open PySem.W PySem.Calls in
abbrev QP (w:World):Prop:=gT w (λs=>ks.map (L3.OX s))=λ_=>some (hk.val w)
theorem Ab (w:World):QP (w.withFollow "special-get-raises" Bool.false):=by delta QP;kernel_rfl
theorem Ao (w:World):QP (w.withFollow "special-get-raises" Bool.true):=by delta QP;kernel_rfl
theorem left:W.LeftO QW vw [PySem.Str.ofString "SUMS",PySem.Str.ofString "ROW_WORDS"] xt hk.obs hk.val 7888:=L3.zav (L3.CJ ks) MO ⋯ fe_eq si_eq (foB (p:=RZ) Co zdJ) (foB (p:=RR) zar C8) (foB (p:=Rm) zdI Bl) (foB (p:=QP) Ab Ao)
end Mine
namespace L2
open PySem PySem.Spec PyProof.Rows
abbrev Key:=Sum Int Str
def Sn:Key->Value->Bool
 | .inl k,v=>Value.isInt k v
 | .inr x,v=>Value.isStrOf x v
def U4 (w:World):Key->Int
 | .inl k=>hashInt k
 | .inr x=>hashStr w x
theorem Vc:∀ {k:Key} {v:Value},Sn k v=true->(∃i t,k=Sum.inl i/\v=Value.int i t)\/(∃x t,k=Sum.inr x/\v=Value.str x t)
 | .inl i,v,h=>by
  obtain⟨t,e⟩:=Value.isInt_shape (k:=i) (v:=v) h;exact .inl ⟨i,t,rfl,e⟩
 | .inr x,v,h=>by
  obtain⟨t,e⟩:=Value.isStrOf_shape (x:=x) (v:=v) h;exact .inr ⟨x,t,rfl,e⟩
theorem zdi (i:Int)(t:Tok):Sn (.inl i) (.int i t)=true:=by simp[Sn,Value.isInt]
theorem zcA (x:Str)(t:Tok):Sn (.inr x) (.str x t)=true:=by simp[Sn,Value.isStrOf]
theorem zei (a b:Int):decide ((Sum.inl a:Key)=Sum.inl b)=(a==b):=by
 by_cases e:a=b
 .subst e;simp
 .have h:¬ (Sum.inl a:Key)=Sum.inl b:=λq=>e (Sum.inl.inj q)
  rw[decide_eq_false h];exact(beq_eq_false_iff_ne.mpr e).symm
theorem zag (a b:Str):decide ((Sum.inr a:Key)=Sum.inr b)=decide (a=b):=by
 by_cases e:a=b
 .subst e;simp
 .have h:¬ (Sum.inr a:Key)=Sum.inr b:=λq=>e (Sum.inr.inj q)
  rw[decide_eq_false h,decide_eq_false e]
theorem E2 (a:Int)(b:Str):decide ((Sum.inl a:Key)=Sum.inr b)=false:=decide_eq_false (λq=>nomatch q)
theorem CL (a:Str)(b:Int):decide ((Sum.inr a:Key)=Sum.inl b)=false:=decide_eq_false (λq=>nomatch q)
def Y8 (prog:Program)(w:World):PySem.KeyKind prog w Key where
 is:=Sn
 hash:=U4 w
 inj:=λv a b ha hb=>by
  rcases Vc ha with ⟨i,t,rfl,rfl⟩|⟨x,t,rfl,rfl⟩
  .rcases Vc hb with ⟨j,u,rfl,e⟩|⟨y,u,rfl,e⟩
   .injection e with e1 _;rw[e1]
   .exact nomatch e
  .rcases Vc hb with ⟨j,u,rfl,e⟩|⟨y,u,rfl,e⟩
   .exact nomatch e
   .injection e with e1 _;rw[e1]
 byValue:=λk v h=>by
  rcases Vc h with ⟨i,t,rfl,rfl⟩|⟨x,t,rfl,rfl⟩<;>rfl
 pyHash:=λhv h=>by
  rcases Vc hv with ⟨i,t,rfl,rfl⟩|⟨x,t,rfl,rfl⟩
  .exact wpAny_pyHash_int h
  .exact wpAny_pyHash_str h
 eqBool:=λhu hv h=>by
  rcases Vc hu with ⟨i,t,rfl,rfl⟩|⟨x,t,rfl,rfl⟩
  .rcases Vc hv with ⟨j,u,rfl,rfl⟩|⟨y,u,rfl,rfl⟩
   .rw[zei] at h;exact wpAny_eqBool_int h
   .rw[E2] at h;exact SeqAt.EqAt.int_str i t y u _ _ _ _ h
  .rcases Vc hv with ⟨j,u,rfl,rfl⟩|⟨y,u,rfl,rfl⟩
   .rw[CL] at h;exact SeqAt.EqAt.str_int x t j u _ _ _ _ h
   .rw[zag] at h;exact wpAny_eqBool_str h
 «strs»:=λk x t v h=>by
  rcases Vc h with ⟨i,u,rfl,e⟩|⟨y,u,rfl,e⟩
  .exact nomatch e
  .injection e with e1 _
   subst e1;cases v<;>rfl
theorem zah (prog:Program)(w:World)(i:Int)(t:Tok):(Y8 prog w).is (.inl i) (.int i t)=true:=zdi i t
theorem Qg (prog:Program)(w:World)(x:Str)(t:Tok):(Y8 prog w).is (.inr x) (.str x t)=true:=zcA x t
inductive V where
 | non|bl (b:Bool)|int (i:Int)|str (x:Str)|byt (b:Array UInt8)|flt (b:UInt64)|ref (a:Addr)|ty (n:String)
 deriving DecidableEq
def Zm:V->Value->Prop
 | .non,u=>u=Value.none
 | .bl b,u=>u=Value.bool b
 | .int i,u=>∃t,u=Value.int i t
 | .str x,u=>∃t,u=Value.str x t
 | .byt b,u=>∃t,u=Value.bytes b t
 | .flt b,u=>∃t,u=Value.float b t
 | .ref a,u=>u=Value.ref a
 | .ty n,u=>u=Value.type n
abbrev Zt:List V->List Value->Prop:=Paired Zm
theorem Zt.length {xs:List V}{us:List Value}(r:Zt xs us):xs.length=us.length:=Paired.length r
theorem Zt.get:∀ {xs:List V} {us:List Value} {i:Nat} {x:V},Zt xs us->xs[i]?=some x->∃u,us[i]?=some u/\Zm x u
 | _,_,_,_,.nil,e=>by simp at e
 | _,_,0,_,.cons r _,e=>by simp at e;subst e;exact⟨_,rfl,r⟩
 | _,_,i+1,x,.cons _ t,e=>by
  obtain⟨u,h1,h2⟩:=Zt.get (i:=i) (x:=x) t (by simpa using e);exact⟨u,by simpa using h1,h2⟩
theorem Zt.set {x:V}{u:Value}(r:Zm x u):∀ {xs:List V} {us:List Value} (i:Nat),Zt xs us->Zt (xs.set i x) (us.set i u)
 | _,_,_,.nil=>.nil
 | _,_,0,.cons _ t=>.cons r t
 | _,_,i+1,.cons q t=>.cons q (Zt.set r i t)
theorem Zt.append:∀ {xs ys:List V} {us ws:List Value},Zt xs us->Zt ys ws->Zt (xs++ys) (us++ws)
 | _,_,_,_,.nil,s=>s
 | _,_,_,_,.cons r t,s=>.cons r (Zt.append t s)
theorem Zt.take:∀ {xs:List V} {us:List Value} (n:Nat),Zt xs us->Zt (xs.take n) (us.take n)
 | _,_,0,_=>.nil
 | _,_,_+1,.nil=>.nil
 | _,_,n+1,.cons r t=>.cons r (Zt.take n t)
theorem Zt.drop:∀ {xs:List V} {us:List Value} (n:Nat),Zt xs us->Zt (xs.drop n) (us.drop n)
 | _,_,0,r=>r
 | _,_,_+1,.nil=>.nil
 | _,_,n+1,.cons _ t=>Zt.drop n t
def Xz:Option V->Option Value->Prop
 | some v,some u=>Zm v u
 | none,none=>True
 | _,_=>False
def KV {κ:Type}:List (κ×V)->List (κ×Value)->Prop:=Paired λ(p:κ×V)(q:κ×Value)=>p.1=q.1/\Zm p.2 q.2
def kV:Key->V
 | .inl i=>.int i
 | .inr x=>.str x
inductive HO where
  | lst (xs:List V)
  | tup (xs:List V)
  | dK (kvs:List (Key×V))|dT (kvs:List (List Key×V))
  | set (S:Int->Bool) (n:Nat)
  | ins (C dx:Addr) (fs:List (Str×V))
  | own (x:Addr)
  | xd (fs:List (Str×V))
  | met (f x:Addr)
  | rng (lo hi:Int)
  | frz (o:Obj) (u:HO)
  | tbl (ps:Array Value)
  | ext (φ:Heap->Prop)
abbrev Hp:=Addr->Option HO
def upd (H:Hp)(a:Addr)(o:HO):Hp:=λb=>if b=a then some o else H b
theorem Y1 {H:Hp}{a:Addr}{o:HO}:upd H a o a=some o:=by unfold upd;rw[if_pos rfl]
theorem Z1 {H:Hp}{a b:Addr}{o:HO}(h:b≠a):upd H a o b=H b:=by unfold upd;rw[if_neg h]
theorem Pt {H:Hp}{a b:Addr}{o u:HO}(h:H a=some o)(h':H b=some u)(d:o≠u):a≠b:=by
 intro e;subst e;rw[h] at h';exact d (Option.some.inj h')
theorem X2 {H:Hp}{a b:Addr}{o:HO}(h:H a=some o)(h':H b=none):a≠b:=by
 intro e;subst e;rw[h] at h';cases h'
section
variable (P:Program)(w:World)
def Yw (H:Hp)(h:Heap)(a:Addr):HO->Prop
 | .lst xs=>xs.length<=sizeLine/\∃(aQ:List Value)(n:Nat),Zt xs aQ/\h.get? a=some { cls:=.type "list",data:=.seq aQ.toArray n }
 | .tup xs=>xs.length<=sizeLine/\∃aQ:List Value,Zt xs aQ/\IsTup h a aQ.toArray
 | .dK kvs=>kvs.length<=sizeLine/\(a==sysModules)=false/\∃vs,KV kvs vs/\h.DictOf (Y8 P w) a vs
 | .dT kvs=>kvs.length<=sizeLine/\(a==sysModules)=false/\∃xs:List (List Key×Addr×Value),
   Paired (λ(p:List Key×V)(q:List Key×Addr×Value)=>p.1=q.1/\H q.2.1=some (.tup (p.1.map kV))/\Zm p.2 q.2.2) kvs xs/\
   ∃o es ep,h.get? a=some o/\o.ExactDict/\o.data=.dict es ep/\es.toList=xs.map (entryOfKey (tupleKind (Y8 P w)))/\(xs.map (·.1)).Nodup
 | .set S n=>h.SetOf (intKind P w) a S n
 | .ins C dx fs=>H dx=some (.own a)/\fs.length<=1000/\dx≠a/\h.get? a=some (W.instObj C dx)/\
   ∃mA,h.Ns1 dx mA/\(∀f,Xz (fs.lookup f) (mA f))/\PySem.Within mA (fs.map (·.1))
 | .own _=>∃o,h.get? a=some o
 | .xd fs=>∃mA,h.Ns1 a mA/\∀f,Xz (fs.lookup f) (mA f)
 | .rng lo hi=>∃t u v,h.get? a=some { cls:=.type "range",data:=.fields #[.int lo t,.int hi u,.int 1 v] }
 | .frz o u=>h.get? a=some o/\Yw H h a u
 | .tbl ps=>h.get? a=some { cls:=.none,data:=.fields ps }
 | .met f x=>h.get? a=some (W.methodObj (.ref f) (.ref x))
 | .ext φ=>φ h/\(∃o,h.get? a=some o)/\∀h1 h2:Heap,φ h1->(∀o,h1.get? a=some o->h2.get? a=some o)->φ h2
def HOk (H:Hp)(h:Heap):Prop:=∀a o,H a=some o->Yw P w H h a o
end
section
variable {P:Program}{w:World}{H H':Hp}{h h':Heap}{a:Addr}{o:HO}
theorem Yw.lt (x:Yw P w H h a o):a<h.objs.size:=by
 cases o with
 | lst xs=>obtain⟨_,_,_,_,e⟩:=x;exact Heap.lt_size e
 | tup xs=>obtain⟨_,_,_,p⟩:=x;exact p.lt
 | dK kvs=>obtain⟨_,_,_,_,o,_,_,e,_⟩:=x;exact Heap.lt_size e
 | dT kvs=>obtain⟨_,_,_,_,o,_,_,e,_⟩:=x;exact Heap.lt_size e
 | set S n=>obtain⟨o,_,_,_,e,_⟩:=x;exact Heap.lt_size e
 | ins C dx fs=>obtain⟨_,_,_,e,_⟩:=x;exact Heap.lt_size e
 | own y=>obtain⟨_,e⟩:=x;exact Heap.lt_size e
 | xd fs=>obtain⟨_,⟨_,_,_,e,_⟩,_⟩:=x;exact Heap.lt_size e
 | rng lo hi=>obtain⟨_,_,_,e⟩:=x;exact Heap.lt_size e
 | frz ob u=>obtain⟨e,_⟩:=x;exact Heap.lt_size e
 | tbl ps=>exact Heap.lt_size (show h.get? a=some _ from x)
 | met f y=>exact Heap.lt_size (show h.get? a=some _ from x)
 | ext φ=>obtain⟨_,⟨_,e⟩,_⟩:=x;exact Heap.lt_size e
theorem Paired.mapP:∀ {l₁:List α} {l₂:List β},Paired F l₁ l₂->(∀a b,F a b->G a b)->Paired G l₁ l₂
 | _,_,.nil,_=>.nil
 | _,_,.cons r t,f=>.cons (f _ _ r) (Paired.mapP t f)
theorem Yw.stay (x:Yw P w H h a o)(k:∀b u,(b=a\/H b=some (.own a))->h.get? b=some u->h'.get? b=some u)
  (ho:∀b,H b=some (.own a)->H' b=some (.own a))(ht:∀b xs,H b=some (.tup xs)->H' b=some (.tup xs)):Yw P w H' h' a o:=by
 induction o with
 | lst xs=>obtain⟨z,aQ,n,r,e⟩:=x;exact⟨z,aQ,n,r,k _ _ (.inl rfl) e⟩
 | tup xs=>obtain⟨z,aQ,r,ob,e,c⟩:=x;exact⟨z,aQ,r,ob,k _ _ (.inl rfl) e,c⟩
 | dK kvs=>obtain⟨z,y,vs,r,ob,es,ep,e,c⟩:=x;exact⟨z,y,vs,r,ob,es,ep,k _ _ (.inl rfl) e,c⟩
 | dT kvs=>
  obtain⟨z,y,xs,r,ob,es,ep,e,c⟩:=x;exact⟨z,y,xs,Paired.mapP r λp q z=>⟨z.1,ht _ _ z.2.1,z.2.2⟩,ob,es,ep,k _ _ (.inl rfl) e,c⟩
 | set S n=>obtain⟨ob,es,ep,t,e,c⟩:=x;exact⟨ob,es,ep,t,k _ _ (.inl rfl) e,c⟩
 | ins C dx fs=>
  obtain⟨d,z,ne,e,mA,⟨od,es,ep,e2,c⟩,r⟩:=x;exact⟨ho _ d,z,ne,k _ _ (.inl rfl) e,mA,⟨od,es,ep,k _ _ (.inr d) e2,c⟩,r⟩
 | own y=>obtain⟨ob,e⟩:=x;exact⟨ob,k _ _ (.inl rfl) e⟩
 | xd fs=>obtain⟨mA,⟨od,es,ep,e,c⟩,r⟩:=x;exact⟨mA,⟨od,es,ep,k _ _ (.inl rfl) e,c⟩,r⟩
 | rng lo hi=>obtain⟨t,u,v,e⟩:=x;exact⟨t,u,v,k _ _ (.inl rfl) e⟩
 | frz ob u ih=>obtain⟨e,q⟩:=x;exact⟨k _ _ (.inl rfl) e,ih q⟩
 | tbl ps=>
  have e:h.get? a=some { cls:=.none,data:=.fields ps }:=x
  show h'.get? a=some { cls:=.none,data:=.fields ps };exact k a _ (.inl rfl) e
 | met f y=>
  have e:h.get? a=some (W.methodObj (.ref f) (.ref y)):=x
  show h'.get? a=some (W.methodObj (.ref f) (.ref y));exact k a _ (.inl rfl) e
 | ext φ=>obtain⟨p,⟨o,e⟩,st⟩:=x;exact⟨st _ _ p λo q=>k _ _ (.inl rfl) q,⟨o,k _ _ (.inl rfl) e⟩,st⟩
theorem HOk.lt (x:HOk P w H h)(e:H a=some o):a<h.objs.size:=(x a o e).lt
theorem HOk.fresh (x:HOk P w H h)(e:h.objs.size<=a):H a=none:=by
 cases q:H a with
 | none=>rfl
 | some u=>exact absurd (zK (x.lt q) e) (yB _)
theorem HOk.kept (x:HOk P w H h)(k:∀b u,h.get? b=some u->h'.get? b=some u):HOk P w H h':=λa o e=>
 (x a o e).stay (λb u _ q=>k b u q) (λ_ q=>q) λ_ _ q=>q
theorem HOk.laid (x:HOk P w H h)(k:∀b u,h.get? b=some u->h'.get? b=some u)(hp:h.objs.size<=a)(new:Yw P w (upd H a o) h' a o):HOk P w (upd H a o) h':=λb u e=>by
 have hn:=x.fresh hp;by_cases hb:b=a
 .subst hb;rw[Y1] at e;cases e;exact new
 .rw[Z1 hb] at e;exact(x b u e).stay (λc v _ q=>k c v q) (λc q=>by rw[Z1 (X2 q hn)];exact q) λc xs q=>by rw[Z1 (X2 q hn)];exact q
end
def Rd (H:Hp)(a:Addr)(u:HO):Prop:=H a=some u\/∃o,H a=some (.frz o u)
theorem Rd.of {H:Hp}{a:Addr}{u:HO}(h:H a=some u):Rd H a u:=.inl h
theorem Rd.ok {P:Program}{w:World}{H:Hp}{h:Heap}{a:Addr}{u:HO}(r:Rd H a u)(x:HOk P w H h):Yw P w H h a u:=by
 rcases r with r|⟨o,r⟩
 .exact x a u r
 .obtain⟨_,q⟩:=x a _ r;exact q
def Mut:Option HO->Prop
 | some (.lst _)=>True
 | some (.dK _)=>True
 | some (.dT _)=>True
 | some (.set _ _)=>True
 | some (.ins _ _ _)=>True
 | some (.ext _)=>True
 | _=>False
section
variable {P:Program}{w:World}{H:Hp}{h h':Heap}{x e:Addr}{o':HO}
theorem HOk.write (ok:HOk P w H h)(mu:Mut (H x))(he:e=x\/H e=some (.own x))(k:∀b u,b≠e->h.get? b=some u->h'.get? b=some u)(heo:∃u,h'.get? e=some u)
  (new:Yw P w (upd H x o') h' x o'):HOk P w (upd H x o') h':=λb u q=>by
 have nown:∀c y,H c=some (.own y)->c≠x:=λc y r z=>by subst z;rw[r] at mu;exact mu
 have ntup:∀c xs,H c=some (.tup xs)->c≠x:=λc xs r z=>by subst z;rw[r] at mu;exact mu
 by_cases hb:b=x
 .subst hb;rw[Y1] at q;cases q;exact new
 .rw[Z1 hb] at q;by_cases hbe:b=e
  .have q':H b=some (.own x):=by
    rcases he with z|z
    .exact absurd (hbe.trans z) hb
    .rw[hbe];exact z
   rw[q] at q';cases q'
   obtain⟨v,hv⟩:=heo;exact⟨v,by rw[hbe];exact hv⟩
  .refine(ok b u q).stay (λc v hc r=>k c v ?_ r) (λc r=>by rw[Z1 (nown c b r)];exact r) λc xs r=>by rw[Z1 (ntup c xs r)];exact r
   rcases hc with rfl|hc
   .exact hbe
   .rintro rfl;rcases he with z|z
    .exact nown c b hc z
    .rw[hc] at z;cases z;exact hb rfl
end
structure Un (fs ex:List Addr)(H H':Hp)(h h':Heap):Prop where
 keep:∀b o,h.get? b=some o->H b=none->b ∉ fs->b ∉ ex->h'.get? b=some o
 slot:∀b o,h.get? b=some o->H b=none->b∈fs->b ∉ ex->∃sl,h'.get? b=some { o with slots:=sl }
 free:∀b o,h.get? b=some o->H b=none->b ∉ ex->H' b=none
 there:∀b o,h.get? b=some o->b ∉ ex->∃o',h'.get? b=some o'
 tups:∀b xs,H b=some (.tup xs)->H' b=some (.tup xs)
 frzs:∀b o u,H b=some (.frz o u)->H' b=some (.frz o u)
 tbls:∀b ps,H b=some (.tbl ps)->∃more,H' b=some (.tbl (ps++more))
section
variable {fs fs' ex ex':List Addr}{H H1 H2:Hp}{h h1 h2 h':Heap}{a x e:Addr}{o:HO}
theorem Un.any (u:Un fs ex H H1 h h1){b:Addr}{ob:Obj}(q:h.get? b=some ob)(n:H b=none)(hx:b ∉ ex):∃sl,h1.get? b=some { ob with slots:=sl }:=by
 by_cases hb:b∈fs
 .exact u.slot b ob q n hb hx
 .exact⟨ob.slots,u.keep b ob q n hb hx⟩
theorem Un.trans (a:Un fs ex H H1 h h1)(b:Un fs ex H1 H2 h1 h2):Un fs ex H H2 h h2 where
 keep:=λc ob q n hc hx=>b.keep c ob (a.keep c ob q n hc hx) (a.free c ob q n hx) hc hx
 slot:=λc ob q n hc hx=>by
  obtain⟨sl,e1⟩:=a.slot c ob q n hc hx;obtain⟨sl',e2⟩:=b.slot c _ e1 (a.free c ob q n hx) hc hx;exact⟨sl',e2⟩
 free:=λc ob q n hx=>by
  obtain⟨o',e1⟩:=a.there c ob q hx;exact b.free c o' e1 (a.free c ob q n hx) hx
 there:=λc ob q hx=>by
  obtain⟨o',e1⟩:=a.there c ob q hx;exact b.there c o' e1 hx
 tups:=λc xs q=>b.tups c xs (a.tups c xs q)
 frzs:=λc ob xs q=>b.frzs c ob xs (a.frzs c ob xs q)
 tbls:=λc ps q=>by
  obtain⟨m1,e1⟩:=a.tbls c ps q;obtain⟨m2,e2⟩:=b.tbls c _ e1;exact⟨m1++m2,by rw[e2,Array.append_assoc]⟩
theorem Un.kept (k:∀b u,h.get? b=some u->h'.get? b=some u):Un fs ex H H h h':=
 ⟨λb ob q _ _ _=>k b ob q,λb ob q _ _ _=>⟨ob.slots,k b ob q⟩,λ_ _ _ n _=>n,λb ob q _=>⟨ob,k b ob q⟩,λ_ _ q=>q,λ_ _ _ q=>q,λ_ ps q=>⟨#[],by rw[q];simp⟩⟩
theorem Un.refl:Un fs ex H H h h:=Un.kept λ_ _ q=>q
theorem Un.laid (k:∀b u,h.get? b=some u->h'.get? b=some u)(hp:h.objs.size<=a)(hn:H a=none):Un fs ex H (upd H a o) h h' where
 keep:=λb u q _ _ _=>k b u q
 slot:=λb u q _ _ _=>⟨u.slots,k b u q⟩
 free:=λb u q n _=>by rw[Z1 (zI (zK (Heap.lt_size q) hp))];exact n
 there:=λb u q _=>⟨u,k b u q⟩
 tups:=λb xs q=>by rw[Z1 (X2 q hn)];exact q
 frzs:=λb u xs q=>by rw[Z1 (X2 q hn)];exact q
 tbls:=λb ps q=>⟨#[],by rw[Z1 (X2 q hn),q];simp⟩
theorem Un.write (mu:Mut (H x))(he:e=x\/H e=some (.own x))(k:∀b u,b≠e->h.get? b=some u->h'.get? b=some u)(heo:∃u,h'.get? e=some u):Un fs ex H (upd H x o) h h':=by
 have hx:∀b,H b=none->b≠x:=λb n z=>by subst z;rw[n] at mu;exact mu
 have hb:∀b,H b=none->b≠e:=λb n z=>by
  subst z;rcases he with r|r
  .exact hx b n r
  .rw[n] at r;cases r
 have hm:∀b u,H b=some u->¬ Mut (some u)->b≠x:=λb u q nm z=>by subst z;rw[q] at mu;exact nm mu
 refine⟨λb u q n _ _=>k b u (hb b n) q,λb u q n _ _=>⟨u.slots,k b u (hb b n) q⟩,λb u q n _=>by rw[Z1 (hx b n)];exact n,λb u q _=>?_,
  λb xs q=>by rw[Z1 (hm b _ q λz=>z)];exact q,λb u xs q=>by rw[Z1 (hm b _ q λz=>z)];exact q,λb ps q=>⟨#[],by rw[Z1 (hm b _ q λz=>z),q];simp⟩⟩
 by_cases hbe:b=e
 .subst hbe;exact heo
 .exact⟨u,k b u hbe q⟩
theorem Un.mono (u:Un fs ex H H1 h h1)(hs:∀b∈fs,b∈fs')(hx:∀b∈ex,b∈ex'):Un fs' ex' H H1 h h1:=
 ⟨λb ob q n hb he=>u.keep b ob q n (λz=>hb (hs b z)) λz=>he (hx b z),λ_ _ q n _ he=>u.any q n λz=>he (hx _ z),λb ob q n he=>u.free b ob q n λz=>he (hx b z),λb ob q he=>u.there b ob q λz=>he (hx b z),u.tups,u.frzs,u.tbls⟩
end
def trk (h:Heap)(H:Hp):List Addr:=(List.range h.objs.size).filter λa=>(H a).isSome
def VO (h:Heap)(H:Hp):Heap:=W.hideAll h (trk h H)
theorem zes (h:Heap)(H:Hp):(VO h H).objs.size=h.objs.size:=W.hideAll_size _ _
theorem zcn {h:Heap}{H:Hp}{b:Addr}{o:Obj}(e:h.get? b=some o)(n:H b=none):(VO h H).get? b=some o:=
 W.hideAll_get _ e λhm=>by
  have q:(H b).isSome=true:=(vI.mp hm).2;rw[n] at q;simp at q
theorem Cn {h:Heap}{H:Hp}{b:Addr}{o:Obj}(e:(VO h H).get? b=some o):h.get? b=some o/\H b=none:=by
 have e':h.get? b=some o:=W.of_hideAll (trk h H) e;refine⟨e',?_⟩;cases q:H b with
 | none=>rfl
 | some x=>
  have hm:b∈trk h H:=vI.mpr ⟨wA.mpr (Heap.lt_size e'),by simp[q]⟩
  have z:(VO h H).get? b=none:=W.hideAll_none (trk h H) hm;rw[z] at e;cases e
def CV (g h:Heap)(L:Addr):LA:=(List.range h.objs.size).filterMap λa=>if a=L\/(g.get? a).isSome=true then none else (h.get? a).map λo=>(a,o)
def YK (g h:Heap)(L d:Addr):LA:=(CV g h L).filter λp=>decide (p.1≠d)
structure Mod (K:Fg)(mg:Str->Option Value)(base:Heap):Prop where
 kin:K.In base
 glob:base.Ns mainGlobals mg
 blt:∃mb,base.Ns builtinsNs mb/\∀x:Str,x≠"__name__"->mb x=bootBuiltins x
 nolimit:base.NoLimit
structure Cx where
 prog:Program
 w:World
 K:Fg
 mg:Str->Option Value
 base:Heap
 A:Around
 N:List Str
 s₀:Shared
 H₀:Hp
 env:Env
 outer:List Env
 stack:List Env
 ex:List Addr
 fn:Str->Bool
 calm:Bool
 pn:LA
 xe:Value->Shared->Prop
abbrev mX (X:Cx):=model X.prog X.w
abbrev Hf (X:Cx)(x:Str):Prop:=X.fn x=true\/X.env.scope.names.lookup x=some .local
abbrev He (X:Cx)(e:Expr)(es:List Expr):Prop:=starEach (e::es) X.env=(false,eval e X.env)::starEach es X.env
abbrev Hn (X:Cx)(caps:List Nat)(N:List Str):Prop:=caps.map (λi=>X.N[i]?)=N.map some
abbrev Hp1 (X:Cx)(pos:Pos)(es:List Expr):Prop:=(backTo pos (starEach es X.env)).any (·.1)=false
def frs (l:List Env):List Addr:=l.filterMap (·.frame)
abbrev Cx.fs (X:Cx):List Addr:=frs X.outer
def Vis (sc:Scope)(x:Str):Prop:=sc.names.lookup x=some .local\/sc.names.lookup x=some .cell\/sc.names.lookup x=some .free
def Loc (sc:Scope)(x:Str):Prop:=sc.names.lookup x=some .local\/sc.names.lookup x=some .cell
def Look (env:Env)(h:Heap)(m:Str->Option Value)(x:Str)(u:Value):Prop:=
 (env.kindOf x=some .local/\m x=some u)\/((env.kindOf x=some .cell\/env.kindOf x=some .free)/\∃c,env.cells.lookup x=some c/\h.IsCell c (some u))
structure Cx.Ok (X:Cx):Prop where
 mod:Mod X.K X.mg X.base
 kind:X.env.scope.kind=.function
 glob:X.env.globals=mainGlobals
 blt:X.env.builtins=builtinsNs
 above:X.s₀.heap.objs.size<=X.env.locals
 inj:∀x y c,X.env.cells.lookup x=some c->X.env.cells.lookup y=some c->x=y
 has:∀x,(X.env.kindOf x=some .cell\/X.env.kindOf x=some .free)->∃c,X.env.cells.lookup x=some c
 cab:∀x c,X.fn x=true->X.env.cells.lookup x=some c->X.s₀.heap.objs.size<=c
 hd:X.calm=true->X.A.handled=none
 frames:X.A.frames=some X.stack
 stk:X.stack=X.outer\/(X.stack=X.env::X.outer/\X.env.frame=some X.env.locals)
 exf:∀b∈X.ex,b≠X.env.locals/\∀x c,X.env.cells.lookup x=some c->c≠b
 bs:∀b o,X.base.get? b=some o->X.s₀.heap.get? b=some o/\X.H₀ b=none
 bsz:X.base.objs.size<=X.s₀.heap.objs.size
 noex:∀b o,X.base.get? b=some o->b ∉ X.ex
 exfs:∀b∈X.ex,b ∉ X.fs
 funs:X.s₀.heap.FunFrames X.base X.outer
 frf:∀b∈X.fs,X.H₀ b=none
structure Inv (X:Cx)(aA:LA)(σ:List (Option V))(H:Hp)(s:Shared):Prop where
 ok:X.Ok
 os:s.os=X.s₀.os
 bare:AllBare s.gens
 base:Un X.fs X.ex X.H₀ H X.s₀.heap s.heap
 loc:∃m,s.heap.Ns X.env.locals m/\∀(i:Nat)(x:Str)(v:V),X.N[i]?=some x->σ[i]?=some (some v)->Vis X.env.scope x->∃u,Zm v u/\Look X.env s.heap m x u
 cell:∀x c,X.env.cells.lookup x=some c->∃v,s.heap.IsCell c v
 free:H X.env.locals=none
 freeC:∀x c,X.env.cells.lookup x=some c->H c=none
 pin:∀p∈X.pn++aA,s.heap.get? p.1=some p.2/\H p.1=none/\p.1≠X.env.locals/\p.1 ∉ X.fs/\∀v,p.2.data≠.cell v
 hok:HOk X.prog X.w H s.heap
 len:σ.length=X.N.length
section
variable {X:Cx}{aA:LA}{σ:List (Option V)}{H H':Hp}{s:Shared}{h':Heap}
theorem Cx.Ok.nofr (ok:X.Ok)(e:X.base.get? b=some o):b ∉ X.fs:=λhb=>by
 have:=(ok.funs.mem hb).1;rw[e] at this;cases this
theorem Inv.bs (I:Inv X aA σ H s):∀b o,X.base.get? b=some o->s.heap.get? b=some o/\H b=none:=λb o e=>
 ⟨I.base.keep b o (I.ok.bs b o e).1 (I.ok.bs b o e).2 (I.ok.nofr e) (I.ok.noex b o e),I.base.free b o (I.ok.bs b o e).1 (I.ok.bs b o e).2 (I.ok.noex b o e)⟩
theorem Inv.bk (I:Inv X aA σ H s):∀b o,X.base.get? b=some o->s.heap.get? b=some o:=λb o e=>(I.bs b o e).1
theorem Inv.mod (I:Inv X aA σ H s):Mod X.K X.mg X.base:=I.ok.mod
theorem Inv.kIn (I:Inv X aA σ H s):X.K.In s.heap:=I.ok.mod.kin.keeps I.bk
theorem Inv.nolimit (I:Inv X aA σ H s):s.heap.NoLimit:=I.ok.mod.nolimit.keeps I.bk
theorem Inv.lt (I:Inv X aA σ H s):X.env.locals<s.heap.objs.size:=let ⟨_,hn,_⟩:=I.loc;hn.lt
theorem Inv.sz (I:Inv X aA σ H s):X.s₀.heap.objs.size<=s.heap.objs.size:=zW I.ok.above (yF I.lt)
theorem Inv.nofs (I:Inv X aA σ H s)(h:s.heap.objs.size<=a):a ∉ X.fs:=λhb=>by
 obtain⟨_,o,ho,_⟩:=I.ok.funs.mem hb;exact absurd (zK (Heap.lt_size ho) (zW I.sz h)) (yB _)
theorem Inv.cne (I:Inv X aA σ H s):∀x c,X.env.cells.lookup x=some c->c≠X.env.locals:=λx c e z=>by
 obtain⟨v,o,ho,hd⟩:=I.cell x c e;obtain⟨m,⟨o',es,ep,ho',hd',_⟩,_⟩:=I.loc;rw[z,ho'] at ho;cases ho;rw[hd'] at hd;cases hd
theorem Inv.funs (I:Inv X aA σ H s):s.heap.FunFrames X.base X.outer:=by
 have all:∀(l:List Env),(∀b∈frs l,b∈X.fs)->X.s₀.heap.FunFrames X.base l->s.heap.FunFrames X.base l:=by
  intro l
  induction l with
  | nil=>intro _ _;trivial
  | cons env r ih=>
   intro hs hl;obtain⟨hk,⟨L,o,hf,hn,ho,hd⟩,hr⟩:=hl;have hL:L∈X.fs:=hs L (by unfold frs;rw[xG,hf];exact zV);obtain⟨sl,e⟩:=I.base.slot L o ho (I.ok.frf L hL) hL λz=>I.ok.exfs L z hL
   exact⟨hk,⟨L,_,hf,hn,e,hd⟩,ih (λb hb=>hs b (by unfold frs;rw[xG,hf];exact zO _ hb)) hr⟩
 exact all X.outer (λ_ hb=>hb) I.ok.funs
theorem Inv.stack (I:Inv X aA σ H s):s.heap.FunFrames X.base X.stack:=by
 rcases I.ok.stk with e|⟨e,hf⟩
 .rw[e];exact I.funs
 .rw[e];obtain⟨m,hn,_⟩:=I.loc;refine .cons (by rw[I.ok.kind];decide) hf hn ?_ I.funs;exact Heap.get?_none_of_le (zW I.ok.bsz I.ok.above)
theorem Inv.stkSub (I:Inv X aA σ H s):∀b∈frs X.stack,b∈X.env.locals::X.fs:=λb hb=>by
 rcases I.ok.stk with e|⟨e,hf⟩
 .rw[e] at hb;exact zO _ hb
 .rw[e] at hb;unfold frs at hb;rw[xG,hf] at hb;exact hb
theorem Inv.stkFree (I:Inv X aA σ H s):∀b∈frs X.stack,H b=none:=λb hb=>by
 rcases zB.mp (I.stkSub b hb) with e|hb
 .rw[e];exact I.free
 .obtain⟨_,o,ho,_⟩:=I.ok.funs.mem hb;exact I.base.free b o ho (I.ok.frf b hb) λz=>I.ok.exfs b z hb
theorem Inv.step {g':Array GenState}{t':Nat}{d':Drawn}{ch:List Addr}(I:Inv X aA σ H s)
  (hch:∀b∈ch,(b∈X.ex\/X.s₀.heap.objs.size<=b)/\b≠X.env.locals/\(∀x c,X.env.cells.lookup x=some c->c≠b)/\∀p∈X.pn++aA,p.1≠b)
  (keep:∀b o,b≠X.env.locals->b ∉ X.fs->b ∉ ch->s.heap.get? b=some o->H b=none->h'.get? b=some o)
  (slot:∀b o,b≠X.env.locals->b∈X.fs->b ∉ ch->s.heap.get? b=some o->H b=none->∃sl,h'.get? b=some { o with slots:=sl })(free:∀b o,b ∉ ch->s.heap.get? b=some o->H b=none->H' b=none)
  (there:∀b o,b ∉ ch->s.heap.get? b=some o->∃o',h'.get? b=some o')
  (tups:∀b xs,H b=some (.tup xs)->H' b=some (.tup xs))(frzs:∀b o u,H b=some (.frz o u)->H' b=some (.frz o u))(tbls:∀b ps,H b=some (.tbl ps)->∃more,H' b=some (.tbl (ps++more)))
  (ns:∀m,s.heap.Ns X.env.locals m->h'.Ns X.env.locals m)(hok:HOk X.prog X.w H' h')(hg:AllBare g'):
  Inv X aA σ H' { s with heap:=h',gens:=g',drawn:=d',toks:=t' }:=by
 have neL:∀b o,X.s₀.heap.get? b=some o->b≠X.env.locals:=λb o e=>zI (zK (Heap.lt_size e) I.ok.above)
 have neC:∀b o,X.s₀.heap.get? b=some o->b ∉ X.ex->b ∉ ch:=λb o e hx hb=>by
  rcases (hch b hb).1 with z|z
  .exact hx z
  .exact absurd (zK (Heap.lt_size e) z) (yB _)
 have cellK:∀x c,X.env.cells.lookup x=some c->∀v,s.heap.IsCell c v->h'.IsCell c v:=λx c e v ⟨o,ho,hd⟩=>by
  have nch:c ∉ ch:=λz=>(hch c z).2.2.1 x c e rfl
  by_cases hc:c∈X.fs
  .obtain⟨sl,q⟩:=slot c o (I.cne x c e) hc nch ho (I.freeC x c e);exact⟨_,q,hd⟩
  .exact⟨o,keep c o (I.cne x c e) hc nch ho (I.freeC x c e),hd⟩
 refine⟨I.ok,I.os,hg,⟨λb o e n hb hx=>?_,λb o e n hb hx=>?_,λb o e n hx=>?_,λb o e hx=>?_,λb xs e=>tups b xs (I.base.tups b xs e),λb o xs e=>frzs b o xs (I.base.frzs b o xs e),λb ps e=>?_⟩,?_,λx c e=>?_,?_,λx c e=>?_,λp hp=>?_,hok,I.len⟩
 .exact keep b o (neL b o e) hb (neC b o e hx) (I.base.keep b o e n hb hx) (I.base.free b o e n hx)
 .obtain⟨sl,e1⟩:=I.base.slot b o e n hb hx;obtain⟨sl',e2⟩:=slot b _ (neL b o e) hb (neC b o e hx) e1 (I.base.free b o e n hx);exact⟨sl',e2⟩
 .obtain⟨o',e1⟩:=I.base.there b o e hx;exact free b o' (neC b o e hx) e1 (I.base.free b o e n hx)
 .obtain⟨o',e1⟩:=I.base.there b o e hx;exact there b o' (neC b o e hx) e1
 .obtain⟨m1,e1⟩:=I.base.tbls b ps e;obtain⟨m2,e2⟩:=tbls b _ e1;exact⟨m1++m2,by rw[e2,Array.append_assoc]⟩
 .obtain⟨m,hn,hl⟩:=I.loc;refine⟨m,ns m hn,λi x v e1 e2 e3=>?_⟩;obtain⟨u,r,l⟩:=hl i x v e1 e2 e3;refine⟨u,r,?_⟩;rcases l with l|⟨k,c,e,z⟩
  .exact .inl l
  .exact .inr ⟨k,c,e,cellK x c e _ z⟩
 .obtain⟨v,z⟩:=I.cell x c e;exact⟨v,cellK x c e v z⟩
 .obtain⟨m,⟨o,_,_,ho,_⟩,_⟩:=I.loc;exact free _ o (λz=>(hch _ z).2.1 rfl) ho I.free
 .obtain⟨v,o,ho,hd⟩:=I.cell x c e;exact free c o (λz=>(hch c z).2.2.1 x c e rfl) ho (I.freeC x c e)
 .obtain⟨e,n,ne,nf,d⟩:=I.pin p hp;have nch:p.1 ∉ ch:=λz=>(hch p.1 z).2.2.2 p hp rfl
  exact⟨keep p.1 p.2 ne nf nch e n,free p.1 p.2 nch e n,ne,nf,d⟩
theorem Inv.un {t':Nat}(I:Inv X aA σ H s)(u:Un X.fs [] H H' s.heap h')(hok:HOk X.prog X.w H' h'):Inv X aA σ H' { s with heap:=h',toks:=t' }:=by
 obtain⟨m,⟨o,es,ep,ho,r⟩,_⟩:=id I.loc;obtain⟨sl,hL⟩:=u.any ho I.free (by simp);exact I.step (g':=s.gens) (d':=s.drawn) (ch:=[]) (λ_ z=>nomatch z) (λb o _ hb _ e n=>u.keep b o e n hb (by simp)) (λb o _ hb _ e n=>u.slot b o e n hb (by simp)) (λb o _ e n=>u.free b o e n (by simp)) (λb o _ e=>u.there b o e (by simp)) u.tups u.frzs u.tbls (λm' hm=>by
  obtain⟨o',es',ep',ho',r'⟩:=hm;rw[ho] at ho';cases ho'
  exact⟨_,es',ep',hL,r'⟩) hok I.bare
theorem Inv.call {g':Array GenState}{t':Nat}{d':Drawn}{ch:List Addr}(I:Inv X aA σ H s)(u:Un (frs X.stack) ch H H' s.heap h')(hok:HOk X.prog X.w H' h')(hg:AllBare g')
  (hch:∀b∈ch,(b∈X.ex\/X.s₀.heap.objs.size<=b)/\b≠X.env.locals/\(∀x c,X.env.cells.lookup x=some c->c≠b)/\∀p∈X.pn++aA,p.1≠b):
  Inv X aA σ H' { s with heap:=h',gens:=g',drawn:=d',toks:=t' }:=by
 obtain⟨m,⟨o,es,ep,ho,r⟩,_⟩:=id I.loc;obtain⟨sl,hL⟩:=u.any ho I.free λz=>(hch _ z).2.1 rfl
 exact I.step (ch:=ch) hch (λb o hL hb hc e n=>u.keep b o e n (λz=>(zB.mp (I.stkSub b z)).elim hL hb) hc) (λb o _ _ hc e n=>u.any e n hc) (λb o hc e n=>u.free b o e n hc) (λb o hc e=>u.there b o e hc) u.tups u.frzs u.tbls (λm' hm=>by
  obtain⟨o',es',ep',ho',r'⟩:=hm;rw[ho] at ho';cases ho'
  exact⟨_,es',ep',hL,r'⟩) hok hg
theorem Inv.turned {t':Nat}{it:Addr}(I:Inv X aA σ H s)(k:∀b o,b≠it->s.heap.get? b=some o->h'.get? b=some o)(hn:H it=none)(hL:it≠X.env.locals)
  (h1:it∈X.ex\/X.s₀.heap.objs.size<=it)(h2:∀x c,X.env.cells.lookup x=some c->c≠it)(h3:∀p∈X.pn++aA,p.1≠it):Inv X aA σ H { s with heap:=h',toks:=t' }:=by
 have nit:∀b u,H b=some u->b≠it:=λb u e z=>by rw[z,hn] at e;cases e
 refine I.step (g':=s.gens) (d':=s.drawn) (ch:=[it]) (λb hb=>?_) (λb o _ _ hc e _=>k b o (λz=>hc (by simp[z])) e) (λb o _ _ hc e _=>⟨o.slots,k b o (λz=>hc (by simp[z])) e⟩) (λ_ _ _ _ n=>n)
  (λb o hc e=>⟨o,k b o (λz=>hc (by simp[z])) e⟩) (λ_ _ e=>e) (λ_ _ _ e=>e) (λb ps e=>⟨#[],by rw[e];simp⟩) (λm hm=>?_) (λb u e=>?_) I.bare
 .have e:b=it:=by simpa using hb
  subst e;exact⟨h1,hL,h2,h3⟩
 .obtain⟨o,es,ep,ho,r⟩:=hm;exact⟨o,es,ep,k _ o (Ne.symm hL) ho,r⟩
 .refine(I.hok b u e).stay (λc v hc q=>k c v ?_ q) (λ_ q=>q) λ_ _ q=>q
  rcases hc with z|z
  .rw[z];exact nit b u e
  .exact nit c _ z
theorem Inv.tok (I:Inv X aA σ H s)(t:Nat):Inv X aA σ H { s with toks:=t }:=I.un (h':=s.heap) (t':=t) Un.refl I.hok
theorem Inv.kept {t':Nat}(I:Inv X aA σ H s)(k:∀b u,s.heap.get? b=some u->h'.get? b=some u):Inv X aA σ H { s with heap:=h',toks:=t' }:=I.un (Un.kept k) (I.hok.kept k)
theorem Inv.laid (I:Inv X aA σ H s)(k:∀b u,s.heap.get? b=some u->h'.get? b=some u)(hp:s.heap.objs.size<=a)(new:Yw X.prog X.w (upd H a o) h' a o):
  Inv X aA σ (upd H a o) { s with heap:=h',toks:=t' }:=I.un (Un.laid k hp (I.hok.fresh hp)) (I.hok.laid k hp new)
theorem Inv.write (I:Inv X aA σ H s)(mu:Mut (H x))(he:e=x\/H e=some (.own x))(k:∀b u,b≠e->s.heap.get? b=some u->h'.get? b=some u)(heo:∃u,h'.get? e=some u)(new:Yw X.prog X.w (upd H x o) h' x o):Inv X aA σ (upd H x o) { s with heap:=h',toks:=t' }:=I.un (Un.write mu he k heo) (I.hok.write mu he k heo new)
theorem Inv.pins_of (I:Inv X aA σ H s)(h:∀p∈pins',s.heap.get? p.1=some p.2/\H p.1=none/\p.1≠X.env.locals/\p.1 ∉ X.fs/\∀v,p.2.data≠.cell v):Inv X pins' σ H s:=
 ⟨I.ok,I.os,I.bare,I.base,I.loc,I.cell,I.free,I.freeC,λp hp=>(zH.mp hp).elim (λz=>I.pin p (yH _ z)) (h p),I.hok,I.len⟩
theorem Kk {N:List Str}(hN:N.Nodup){i j:Nat}{x:Str}(a:N[i]?=some x)(b:N[j]?=some x):i=j:=by
 obtain⟨h1,e1⟩:=zE.mp a;obtain⟨h2,e2⟩:=zE.mp b;exact(List.getElem_inj hN).mp (e1.trans e2.symm)
theorem zeE {M:Model}{A:Around}{E:Value->Shared->Prop}{i:Nat}{x:Str}{v:V}{u:Value}{Q:Unit->Shared->Prop}(I:Inv X aA σ H s)(hN:X.N.Nodup)(hi:X.N[i]?=some x)(hx:Loc X.env.scope x)(r:Zm v u)
  (h:∀s',Inv X aA (σ.set i (some v)) H s'->(∃a,Heap.SameBut a s.heap s'.heap/\(a=X.env.locals\/X.env.cells.lookup x=some a))->Q Unit.unit s')(hf:Hf X x:=by first|exact .inl rfl|exact .inr rfl|assumption):wpAny M A (storeName X.env x u) Q E s:=by
 obtain⟨m,hn,hl⟩:=id I.loc;have hcls:(X.env.scope.kind==.class||(X.env.scope.kind==.module&&X.env.locals != X.env.globals))=false:=by rw[I.ok.kind];rfl
 have hiσ:i<σ.length:=by rw[I.len];exact(zE.mp hi).1
 have cne:=I.cne
 have tracked:∀ {a:Addr} {h':Heap},(∃o,s.heap.get? a=some o/\H a=none)->Heap.SameBut a s.heap h'->HOk X.prog X.w H h':=λ{a h'} ha hs b ob e=>by
  obtain⟨_,_,hfree⟩:=ha;refine(I.hok b ob e).stay (λc w' hc q=>(hs.2 c ?_).trans q) (λ_ q=>q) λ_ _ q=>q
  rintro rfl;rcases hc with rfl|hc
  .rw[hfree] at e;cases e
  .rw[hfree] at hc;cases hc
 rcases hx with hk|hk
 .refine wpAny_storeName_local hk hn (λh' hn' hs=>?_) hcls;obtain⟨oL,_,_,hoL,_⟩:=id hn;refine h _ ⟨I.ok,I.os,I.bare,⟨λb o e n hb hx=>?_,λb o e n hb hx=>?_,I.base.free,λb o e hx=>?_,I.base.tups,I.base.frzs,I.base.tbls⟩,⟨_,hn',λj y v' e1 e2 e3=>?_⟩,λy c e=>?_,I.free,I.freeC,λp hp=>?_,tracked ⟨oL,hoL,I.free⟩ hs,by simpa using I.len⟩ ⟨_,hs,.inl rfl⟩
  .exact(hs.2 b (zI (zK (Heap.lt_size e) I.ok.above))).trans (I.base.keep b o e n hb hx)
  .obtain⟨sl,e1⟩:=I.base.slot b o e n hb hx;exact⟨sl,(hs.2 b (zI (zK (Heap.lt_size e) I.ok.above))).trans e1⟩
  .obtain⟨o',e1⟩:=I.base.there b o e hx;exact⟨o',(hs.2 b (zI (zK (Heap.lt_size e) I.ok.above))).trans e1⟩
  .by_cases hj:j=i
   .subst hj;rw[hi] at e1;cases e1
    rw[yI hiσ] at e2;cases e2;exact⟨u,r,.inl ⟨hk,by simp⟩⟩
   .rw[yD (Ne.symm hj)] at e2;obtain⟨u',r',q⟩:=hl j y v' e1 e2 e3;refine⟨u',r',?_⟩;rcases q with ⟨k,e⟩|⟨k,c,e,z⟩
    .refine .inl ⟨k,?_⟩;have:y≠x:=λe=>hj (Kk hN e1 (e ▸ hi))
     simp[this,e]
    .exact .inr ⟨k,c,e,z.sameBut hs (cne y c e)⟩
  .obtain⟨w',z⟩:=I.cell y c e;exact⟨w',z.sameBut hs (cne y c e)⟩
  .obtain⟨e,n,ne,nf,d⟩:=I.pin p hp;exact⟨(hs.2 p.1 ne).trans e,n,ne,nf,d⟩
 .have hfn:X.fn x=true:=by
   rcases hf with z|z
   .exact z
   .rw[z] at hk;cases hk
  obtain⟨c,hc⟩:=I.ok.has x (.inl hk);obtain⟨w',z⟩:=I.cell x c hc;refine wpAny_storeName_cell I.ok.kind hk hc z (λh' hc' hs=>?_);obtain⟨oc,hoc,hocd⟩:=id z;refine h { s with heap:=h' } ⟨I.ok,I.os,I.bare,⟨λb o e n hb hx=>?_,λb o e n hb hx=>?_,I.base.free,λb o e hx=>?_,I.base.tups,I.base.frzs,I.base.tbls⟩,⟨m,hn.sameBut hs (Ne.symm (cne x c hc)),λj y v' e1 e2 e3=>?_⟩,λy c' e=>?_,I.free,I.freeC,λp hp=>?_,tracked ⟨oc,hoc,I.freeC x c hc⟩ hs,by simpa using I.len⟩ ⟨c,hs,.inr hc⟩
  .exact(hs.2 b (zI (zK (Heap.lt_size e) (I.ok.cab x c hfn hc)))).trans (I.base.keep b o e n hb hx)
  .obtain⟨sl,e1⟩:=I.base.slot b o e n hb hx;exact⟨sl,(hs.2 b (zI (zK (Heap.lt_size e) (I.ok.cab x c hfn hc)))).trans e1⟩
  .obtain⟨o',e1⟩:=I.base.there b o e hx;exact⟨o',(hs.2 b (zI (zK (Heap.lt_size e) (I.ok.cab x c hfn hc)))).trans e1⟩
  .by_cases hj:j=i
   .subst hj;rw[hi] at e1;cases e1
    rw[yI hiσ] at e2;cases e2;exact⟨u,r,.inr ⟨.inl hk,c,hc,hc'⟩⟩
   .rw[yD (Ne.symm hj)] at e2;obtain⟨u',r',q⟩:=hl j y v' e1 e2 e3;refine⟨u',r',?_⟩;rcases q with q|⟨k,c',e,z'⟩
    .exact .inl q
    .refine .inr ⟨k,c',e,z'.sameBut hs ?_⟩;rintro rfl;exact hj (Kk hN e1 (I.ok.inj _ _ _ e hc ▸ hi))
  .by_cases hcc:c'=c
   .subst hcc;exact⟨_,hc'⟩
   .obtain⟨w2,z2⟩:=I.cell y c' e;exact⟨w2,z2.sameBut hs hcc⟩
  .obtain⟨e,n,ne,nf,d⟩:=I.pin p hp;refine⟨(hs.2 p.1 ?_).trans e,n,ne,nf,d⟩;intro q;rw[q,hoc] at e;have q':oc=p.2:=Option.some.inj e;exact d w' (by rw[<- q'];exact hocd)
theorem KY (I:Inv X aA σ H s)(hN:X.N.Nodup)(hi:X.N[i]?=some x)(hx:Loc X.env.scope x)(r:Zm v u)(h:∀s',Inv X aA (σ.set i (some v)) H s'->Q Unit.unit s')(hf:Hf X x:=by first|exact .inl rfl|exact .inr rfl|assumption):wpAny M A (storeName X.env x u) Q E s:=
 zeE I hN hi hx r (λs' I' _=>h s' I') hf
theorem Inv.call' (I:Inv X aA σ H s)(ho:s'.os=s.os)(u:Un (frs X.stack) ch H H' s.heap s'.heap)(hok:HOk X.prog X.w H' s'.heap)(hg:AllBare s'.gens)(hch:∀b∈ch,(b∈X.ex\/X.s₀.heap.objs.size<=b)/\b≠X.env.locals/\(∀x c,X.env.cells.lookup x=some c->c≠b)/\∀p∈X.pn++aA,p.1≠b):Inv X aA σ H' s':=by
 obtain⟨h',g',d',t',o'⟩:=s';have e:o'=s.os:=ho;subst e;exact I.call (g':=g') (t':=t') (d':=d') u hok hg hch
end
abbrev XK:=Value->Option Addr->Hp->Prop
abbrev St:=List (Option V)
abbrev VK:=V->Hp->Prop
abbrev TE:=St->Hp->VK->Prop
abbrev TT:=St->Hp->(Bool->Hp->Prop)->Prop
abbrev TA:=St->Hp->(List V->Hp->Prop)->Prop
structure Va where
 nx:St->Hp->Prop
 rt:VK
 bk:St->Hp->Prop:=λ_ _=>False
 ct:St->Hp->Prop:=λ_ _=>False
abbrev TS:=Va->St->Hp->Prop
def EP (X:Cx)(aA:LA)(σ:St)(Q:VK)(u:Value)(s':Shared):Prop:=∃v H',Inv X aA σ H' s'/\Zm v u/\Q v H'
def TP (X:Cx)(aA:LA)(σ:St)(Q:Bool->Hp->Prop)(b:Bool)(s':Shared):Prop:=∃H',Inv X aA σ H' s'/\Q b H'
def AP (X:Cx)(aA:LA)(σ:St)(Q:List V->Hp->Prop)(us:List Value)(s':Shared):Prop:=∃vs H',Inv X aA σ H' s'/\Zt vs us/\Q vs H'
def SP (X:Cx)(aA:LA)(D:Va)(f:Flow)(s':Shared):Prop:=
 match f with
 | .next=>∃σ' H',Inv X aA σ' H' s'/\D.nx σ' H'
 | .brk=>∃σ' H',Inv X aA σ' H' s'/\D.bk σ' H'
 | .cont=>∃σ' H',Inv X aA σ' H' s'/\D.ct σ' H'
 | .ret u=>∃v σ' H',Inv X aA σ' H' s'/\Zm v u/\D.rt v H'
def PE (X:Cx)(e:Expr)(t:TE):Prop:=
 ∀(aA:LA)(s:Shared)(σ:St)(H:Hp)(Q:VK),Inv X aA σ H s->t σ H Q->wpAny (mX X) X.A (eval e X.env) (EP X aA σ Q) X.xe s
def PT (X:Cx)(e:Expr)(t:TT):Prop:=
 ∀(aA:LA)(s:Shared)(σ:St)(H:Hp)(Q:Bool->Hp->Prop),Inv X aA σ H s->t σ H Q->wpAny (mX X) X.A (isTrue e X.env (eval e X.env)) (TP X aA σ Q) X.xe s
def PW (X:Cx)(e:Expr)(t:TT):Prop:=
 ∀(aM:Sem Value)(aA:LA)(s:Shared)(σ:St)(H:Hp)(Q:Bool->Hp->Prop),Inv X aA σ H s->t σ H Q->wpAny (mX X) X.A (isTrue e X.env aM) (TP X aA σ Q) X.xe s
theorem PW.pt (h:PW X e t):PT X e t:=h _
def PA (X:Cx)(es:List Expr)(t:TA):Prop:=
 ∀(pos:Pos)(aA:LA)(s:Shared)(σ:St)(H:Hp)(Q:List V->Hp->Prop),Inv X aA σ H s->t σ H Q->wpAny (mX X) X.A (spliced (backTo pos (starEach es X.env))) (AP X aA σ Q) X.xe s
def PS (X:Cx)(st:Stmt)(t:TS):Prop:=
 ∀(aA:LA)(s:Shared)(σ:St)(H:Hp)(D:Va),Inv X aA σ H s->t D σ H->wpAny (mX X) X.A (exec st X.env) (SP X aA D) X.xe s
def PSs (X:Cx)(st:List Stmt)(t:TS):Prop:=
 ∀(aA:LA)(s:Shared)(σ:St)(H:Hp)(D:Va),Inv X aA σ H s->t D σ H->wpAny (mX X) X.A (execs st X.env) (SP X aA D) X.xe s
theorem thn {α:Type}{t:Sem α}{Q Q':α->Shared->Prop}{M:Model}{A:Around}{E:Value->Shared->Prop}{s:Shared}(h:wpAny M A t Q E s)(hQ:∀a s,Q a s->Q' a s):wpAny M A t Q' E s:=wpAny_mono h hQ λ_ _ x=>x
section
variable {X:Cx}
def tVar (i:Nat):TE:=λσ H Q=>∃v,σ[i]?=some (some v)/\Q v H
def tC (v:V):TE:=λ_ H Q=>Q v H
theorem EA (hN:X.N[i]?=some x)(hv:Vis X.env.scope x)(hd:(x==("__debug__":Str))=false:=by decide)(hcd:(x==("__classdict__":Str))=false:=by decide):PE X (.Name x pos) (tVar i):=by
 intro aA s σ H Q I h;obtain⟨v,e,h⟩:=h;obtain⟨m,hn,hl⟩:=I.loc;obtain⟨u,r,l⟩:=hl i x v hN e hv;have aR:EP X aA σ Q u s:=⟨v,H,I,r,h⟩;rcases l with ⟨hk,hm⟩|⟨hk,c,hc,hcell⟩
 .exact wpAny_Name (wpAny_loadName_local I.ok.kind hk hn hm aR) hd
 .rcases hk with hk|hk
  .exact wpAny_Name (wpAny_loadName_cell I.ok.kind hk hc hcell aR) hd
  .exact wpAny_Name (wpAny_loadName_free I.ok.kind hk hc hcell aR hcd) hd
theorem zcW {i j pos}:PE X (.Constant (.int i) j pos) (tC (.int i)):=λ_ _ _ H _ I h=>wpAny_Constant_int ⟨.int i,H,I.tok _,⟨_,rfl⟩,h⟩
theorem pe_bl {b j pos}:PE X (.Constant (.bool b) j pos) (tC (.bl b)):=λ_ _ _ H _ I h=>Constant_bool ⟨.bl b,H,I,rfl,h⟩
theorem FA {x j pos}:PE X (.Constant (.str x) j pos) (tC (.str x)):=λ_ _ _ H _ I h=>Calls.Constant_str ⟨.str x,H,I.tok _,⟨_,rfl⟩,h⟩
def Gl (X:Cx)(x:Str):Prop:=X.env.kindOf x=some .globalImplicit
theorem UM (I:Inv X aA σ H s)(hg:Gl X x)(hm:X.mg x=some u)(h:Q u s)(hd:(x==("__debug__":Str))=false:=by decide):wpAny (mX X) X.A (eval (.Name x pos) X.env) Q E s:=
 Calls.Name_function_global I.ok.kind hg (Calls.loadGlobal_global (by rw[I.ok.glob];exact I.mod.glob.keeps I.bk) hm h) hd
theorem TC (I:Inv X aA σ H s)(hg:Gl X x)(hm:X.mg x=none)(hv:bootBuiltins x=some u)(h:Q u s)(hn:x≠"__name__":=by decide)(hd:(x==("__debug__":Str))=false:=by decide):wpAny (mX X) X.A (eval (.Name x pos) X.env) Q E s:=by
 obtain⟨mb,h1,h2⟩:=I.mod.blt;exact Calls.Name_function_global I.ok.kind hg (Calls.loadGlobal_builtin (by rw[I.ok.glob];exact I.mod.glob.keeps I.bk) hm (by rw[I.ok.blt];exact h1.keeps I.bk) ((h2 x hn).trans hv) h) hd
theorem Th (hg:Gl X x)(hm:X.mg x=some u)(r:Zm v u)(hd:(x==("__debug__":Str))=false:=by decide):PE X (.Name x pos) (tC v):=
 λ_ _ _ H _ I h=>UM I hg hm ⟨v,H,I,r,h⟩ hd
theorem F1 (hg:Gl X x)(hm:X.mg x=none)(hv:bootBuiltins x=some u)(r:Zm v u)(hn:x≠"__name__":=by decide)(hd:(x==("__debug__":Str))=false:=by decide):PE X (.Name x pos) (tC v):=
 λ_ _ _ H _ I h=>TC I hg hm hv ⟨v,H,I,r,h⟩ hn hd
variable {a b:Expr}{ta tb:TE}{pos:Pos}
def PC (X:Cx)(op:CmpOp)(a b:Expr)(t:TE):Prop:=
 ∀(aA:LA)(s:Shared)(σ:St)(H:Hp)(Q:VK),Inv X aA σ H s->t σ H Q->
  wpAny (mX X) X.A (eval a X.env) (λv s₁=>wpAny (mX X) X.A (eval b X.env) (λu s₂=>wpAny (mX X) X.A (compareOp op v u) (EP X aA σ Q) X.xe s₂) X.xe s₁) X.xe s
def tB (t:TE):TT:=λσ H Q=>t σ H λx H1=>∃c,x=.bl c/\Q c H1
theorem P9 (h:PC X op a b t)(h1:behindInMarks op b=false:=by first|exact nobehind _ ⋯ ⋯|rfl):PT X (.Compare a [op] [b] pos) (tB t):=by
 intro aA s σ H Q I hw;refine wpAny_isTrue_Compare1 (thn (h aA s σ H _ I hw) λv s1 h1=>thn h1 λu s2 h2=>thn h2 λc s3 ⟨x,H1,I1,r1,q1⟩=>?_) h1;obtain⟨d,rfl,q⟩:=q1;cases r1;exact wpAny_truthy_bool ⟨H1,I1,q⟩
theorem zaB (h:PE X e t)(he:∀aM,isTrue e X.env aM=(do let v <- aM;standAt e.pos;holding [v] (truthy v)):=by intro _;rfl):PT X e (tB t):=by
 intro aA s σ H Q I hw;refine isTrue_plain (thn (h aA s σ H _ I hw) λv s1 ⟨x,H1,I1,r1,q1⟩=>?_) (he _);obtain⟨d,rfl,q⟩:=q1;cases r1;exact wpAny_truthy_bool ⟨H1,I1,q⟩
variable {tA tB':TT}{YK:List Expr}
def tAnd (t u:TT):TT:=λσ H Q=>t σ H λc H1=>if c=true then u σ H1 Q else Q false H1
def tOr (t u:TT):TT:=λσ H Q=>t σ H λc H1=>if c=true then Q true H1 else u σ H1 Q
def tNot (t:TT):TT:=λσ H Q=>t σ H λc H1=>Q (!c) H1
theorem Az (ha:PT X a tA):PW X (.BoolOp .And [a] pos) tA:=by
 intro wh aA s σ H Q I h;refine isTrue_and (thn (ha aA s σ H Q I h) λc s1 e=>?_);cases c with
 | true=>exact isTrue_and_nil e
 | false=>exact e
theorem zcz (ha:PT X a tA):PW X (.BoolOp .Or [a] pos) tA:=by
 intro wh aA s σ H Q I h;refine isTrue_or (thn (ha aA s σ H Q I h) λc s1 e=>?_);cases c with
 | false=>exact isTrue_or_nil e
 | true=>exact e
theorem zaE (ha:PT X a tA)(hb:PW X (.BoolOp .And (b::YK) pos) tB'):PW X (.BoolOp .And (a::b::YK) pos) (tAnd tA tB'):=by
 intro wh aA s σ H Q I h;refine isTrue_and (thn (ha aA s σ H _ I h) λc s1 ⟨H1,I1,q1⟩=>?_);cases c with
 | true=>exact hb wh aA s1 σ H1 Q I1 q1
 | false=>exact⟨H1,I1,q1⟩
theorem pw_or (ha:PT X a tA)(hb:PW X (.BoolOp .Or (b::YK) pos) tB'):PW X (.BoolOp .Or (a::b::YK) pos) (tOr tA tB'):=by
 intro wh aA s σ H Q I h;refine isTrue_or (thn (ha aA s σ H _ I h) λc s1 ⟨H1,I1,q1⟩=>?_);cases c with
 | true=>exact⟨H1,I1,q1⟩
 | false=>exact hb wh aA s1 σ H1 Q I1 q1
theorem zcw (ha:PT X a tA):PT X (.UnaryOp .Not a pos) (tNot tA):=by
 intro aA s σ H Q I h;exact isTrue_not (ha aA s σ H (λc H1=>Q (!c) H1) I h)
def tAndV (ta tb:TE):TE:=λσ H Q=>ta σ H λx H1=>∃c,x=.bl c/\if c=true then tb σ H1 Q else Q (.bl false) H1
def tNotV (ta:TE):TE:=λσ H Q=>ta σ H λx H1=>∃c,x=.bl c/\Q (.bl (!c)) H1
theorem zbz {op}(h:PE X a t):PE X (.BoolOp op [a] pos) t:=λaA s σ H Q I hw=>BoolOp_one (h aA s σ H Q I hw)
theorem zbW (ha:PE X a ta)(hb:PE X (.BoolOp .And (b::YK) pos) tb):PE X (.BoolOp .And (a::b::YK) pos) (tAndV ta tb):=by
 intro aA s σ H Q I h;refine BoolOp_and (thn (ha aA s σ H _ I h) λv s1 ⟨x,H1,I1,r1,q1⟩=>?_);obtain⟨c,rfl,q1⟩:=q1;cases r1;refine wpAny_truthy_bool ?_;cases c with
 | true=>exact hb aA s1 σ H1 Q I1 q1
 | false=>exact⟨.bl false,H1,I1,rfl,q1⟩
theorem EW (ha:PE X a ta):PE X (.UnaryOp .Not a pos) (tNotV ta):=by
 intro aA s σ H Q I h;refine UnaryOp_ (thn (ha aA s σ H _ I h) λv s1 ⟨x,H1,I1,r1,q1⟩=>?_);obtain⟨c,rfl,q1⟩:=q1;cases r1;exact not_of (wpAny_truthy_bool ⟨.bl (!c),H1,I1,rfl,q1⟩)
def tIf (t:TT)(ta tb:TE):TE:=λσ H Q=>t σ H λc H1=>if c=true then ta σ H1 Q else tb σ H1 Q
theorem DE (hc:PT X c tA)(ha:PE X a ta)(hb:PE X b tb):PE X (.IfExp c a b pos) (tIf tA ta tb):=by
 intro aA s σ H Q I h;refine wpAny_IfExp (thn (hc aA s σ H _ I h) λd s1 ⟨H1,I1,q1⟩=>?_);cases d with
 | true=>exact ha aA s1 σ H1 Q I1 q1
 | false=>exact hb aA s1 σ H1 Q I1 q1
end
def SqL (K:Fg)(H:Hp)(a:Addr)(xs:List V):Prop:=
 Rd H a (.lst xs)\/
  ∃(o:Obj)(aQ:Array Value)(n:Nat),K.lookup a=some o/\o.cls=.type "list"/\o.dict=none/\o.data=.seq aQ n/\aQ.size<=sizeLine/\Zt xs aQ.toList
def SqT (K:Fg)(H:Hp)(a:Addr)(xs:List V):Prop:=
 Rd H a (.tup xs)\/
  ∃(o:Obj)(aQ:Array Value)(n:Nat),K.lookup a=some o/\o.cls=.type "tuple"/\o.data=.seq aQ n/\aQ.size<=sizeLine/\Zt xs aQ.toList
def absV:Value->Option V
 | .none=>some .non
 | .bool b=>some (.bl b)
 | .int i _=>some (.int i)
 | .str x _=>some (.str x)
 | .bytes b _=>some (.byt b)
 | .float b _=>some (.flt b)
 | .ref a=>some (.ref a)
 | .type n=>some (.ty n)
 | _=>none
theorem Zm.abs (r:Zm x u):absV u=some x:=by
 cases x with
 | non=>cases r;rfl
 | bl _=>cases r;rfl
 | int _=>obtain⟨t,rfl⟩:=r;rfl
 | str _=>obtain⟨t,rfl⟩:=r;rfl
 | byt _=>obtain⟨t,rfl⟩:=r;rfl
 | flt _=>obtain⟨t,rfl⟩:=r;rfl
 | ref _=>cases r;rfl
 | ty _=>cases r;rfl
theorem Zm.inj (r:Zm x u)(q:Zm y u):x=y:=Option.some.inj (r.abs.symm.trans q.abs)
theorem Zt.inj:∀ {xs ys:List V} {us:List Value},Zt xs us->Zt ys us->xs=ys
 | _,_,_,.nil,.nil=>rfl
 | _,_,_,.cons r t,.cons r' t'=>by rw[r.inj r',Zt.inj t t']
section
variable {X:Cx}{aA:LA}{σ:St}{H:Hp}{s:Shared}{a:Addr}{xs ys:List V}
theorem SqL.of {K:Fg}(h:H a=some (.lst xs)):SqL K H a xs:=.inl (.inl h)
theorem SqT.of {K:Fg}(h:H a=some (.tup xs)):SqT K H a xs:=.inl (.inl h)
theorem Inv.list (I:Inv X aA σ H s)(h:SqL X.K H a xs):∃aQ:List Value,Zt xs aQ/\PlainL s.heap a aQ.toArray/\xs.length<=sizeLine:=by
 rcases h with h|⟨o,aQ,n,hk,hc,hd,hs,hz,r⟩
 .obtain⟨z,aQ,n,r,e⟩:=h.ok I.hok;exact⟨aQ,r,⟨_,n,e,rfl,rfl,rfl⟩,z⟩
 .refine⟨aQ.toList,r,⟨o,n,I.kIn a o hk,hc,hd,by simpa using hs⟩,?_⟩;have e:=r.length;simp only[Array.length_toList] at e;lia
theorem Inv.tuple (I:Inv X aA σ H s)(h:SqT X.K H a xs):∃aQ:List Value,Zt xs aQ/\IsTup s.heap a aQ.toArray/\xs.length<=sizeLine:=by
 rcases h with h|⟨o,aQ,n,hk,hc,hs,hz,r⟩
 .obtain⟨z,aQ,r,p⟩:=h.ok I.hok;exact⟨aQ,r,p,z⟩
 .refine⟨aQ.toList,r,⟨o,I.kIn a o hk,hc,n,by simpa using hs⟩,?_⟩;have e:=r.length;simp only[Array.length_toList] at e;lia
theorem Inv.list_inj (I:Inv X aA σ H s)(h:SqL X.K H a xs)(h':SqL X.K H a ys):xs=ys:=by
 obtain⟨aQ,r,⟨o,n,e,_,_,d⟩,_⟩:=I.list h;obtain⟨its',r',⟨o',n',e',_,_,d'⟩,_⟩:=I.list h';rw[e] at e';cases e'
 rw[d] at d';injection d' with d1 _
 have:aQ=its':=by simpa using congrArg Array.toList d1
 subst this;exact r.inj r'
end
abbrev Cx.wish (X:Cx)(E:Value->Shared->Prop):Cx:={ X with xe:=E }
abbrev Cx.nox (X:Cx):Cx:=X.wish λ_ _=>False
theorem Cx.Ok.wish {X:Cx}(ok:X.Ok)(E:Value->Shared->Prop):(X.wish E).Ok:=
 ⟨ok.mod,ok.kind,ok.glob,ok.blt,ok.above,ok.inj,ok.has,ok.cab,ok.hd,ok.frames,ok.stk,ok.exf,ok.bs,ok.bsz,ok.noex,ok.exfs,ok.funs,ok.frf⟩
theorem Cx.Ok.unwish {X:Cx}{E:Value->Shared->Prop}(ok:(X.wish E).Ok):X.Ok:=
 ⟨ok.mod,ok.kind,ok.glob,ok.blt,ok.above,ok.inj,ok.has,ok.cab,ok.hd,ok.frames,ok.stk,ok.exf,ok.bs,ok.bsz,ok.noex,ok.exfs,ok.funs,ok.frf⟩
section
variable {X:Cx}{aA:LA}{σ:St}{H:Hp}{s:Shared}{E:Value->Shared->Prop}
theorem Inv.wish (I:Inv X aA σ H s)(E:Value->Shared->Prop):Inv (X.wish E) aA σ H s:=⟨I.ok.wish E,I.os,I.bare,I.base,I.loc,I.cell,I.free,I.freeC,I.pin,I.hok,I.len⟩
theorem Inv.unwish (I:Inv (X.wish E) aA σ H s):Inv X aA σ H s:=⟨I.ok.unwish,I.os,I.bare,I.base,I.loc,I.cell,I.free,I.freeC,I.pin,I.hok,I.len⟩
theorem SP.unwish (h:SP (X.wish E) aA D f s'):SP X aA D f s':=by
 cases f with
 | next=>obtain⟨σ',H',I,q⟩:=h;exact⟨σ',H',I.unwish,q⟩
 | brk=>obtain⟨σ',H',I,q⟩:=h;exact⟨σ',H',I.unwish,q⟩
 | cont=>obtain⟨σ',H',I,q⟩:=h;exact⟨σ',H',I.unwish,q⟩
 | ret u=>obtain⟨v,σ',H',I,r,q⟩:=h;exact⟨v,σ',H',I.unwish,r,q⟩
theorem PE.nox {e:Expr}{t:TE}(h:PE X.nox e t):PE X e t:=λaA s σ H Q I hw=>
 wpAny_mono (h aA s σ H Q (I.wish _) hw) (λ_ _ ⟨v,H',I',r,q⟩=>⟨v,H',I'.unwish,r,q⟩) λ_ _ z=>False.elim z
theorem PSs.nox {st:List Stmt}{t:TS}(h:PSs X.nox st t):PSs X st t:=λaA s σ H D I hw=>
 wpAny_mono (h aA s σ H D (I.wish _) hw) (λ_ _ q=>q.unwish) λ_ _ z=>False.elim z
end
section
variable {X:Cx}{st:Stmt}{YK:List Stmt}{t u:TS}{e:Expr}{te:TE}{pos:Pos}
def tNext:TS:=λD σ H=>D.nx σ H
def tSeq (t u:TS):TS:=λD σ H=>t { D with nx:=u D } σ H
theorem EU:PSs X [] tNext:=λ_ _ σ H _ I h=>wpAny_execs_nil ⟨σ,H,I,h⟩
theorem zbX (h1:PS X st t)(h2:PSs X YK u):PSs X (st::YK) (tSeq t u):=by
 intro aA s σ H D I h;refine wpAny_execs_cons (thn (h1 aA s σ H { D with nx:=u D } I h) λf s1 q=>?_);cases f with
 | next=>
  obtain⟨σ',H',I',q⟩:=q;exact h2 aA s1 σ' H' D I' q
 | ret v=>exact q
 | brk=>exact q
 | cont=>exact q
theorem BB (h1:PS X st t):PSs X [st] t:=by
 intro aA s σ H D I h;refine wpAny_execs_cons (thn (h1 aA s σ H D I h) λf s1 q=>?_);cases f with
 | next=>exact wpAny_execs_nil q
 | ret v=>exact q
 | brk=>exact q
 | cont=>exact q
theorem Inv.quiet (I:Inv X aA σ H s):interactive X.env=false:=by simp[interactive,I.ok.kind]
def tDrop (te:TE):TS:=λD σ H=>te σ H λ_ H1=>D.nx σ H1
theorem Dc (he:PE X e te)(hs:swapsWith e none pos.line X.env=pure false:=by rfl):PS X (.Expr e pos) (tDrop te):=by
 intro aA s σ H D I h;exact wpAny_Expr_any (thn (he aA s σ H _ I h) λv s1 ⟨x,H1,I1,r1,q1⟩=>⟨σ,H1,I1,q1⟩) I.quiet hs
def tRet (te:TE):TS:=λD σ H=>te σ H D.rt
theorem zdg (he:PE X e te):PS X (.Return (some e) pos) (tRet te):=by
 intro aA s σ H D I h;exact wpAny_Return_some (thn (he aA s σ H _ I h) λv s1 ⟨x,H1,I1,r1,q1⟩=>⟨x,σ,H1,I1,r1,q1⟩)
def tIfS (c:TT)(t u:TS):TS:=λD σ H=>c σ H λb H1=>if b=true then t D σ H1 else u D σ H1
theorem ps_if (hc:PT X c tc)(ha:PSs X a t)(hb:PSs X b u):PS X (.If c a b pos) (tIfS tc t u):=by
 intro aA s σ H D I h;refine wpAny_If (thn (hc aA s σ H _ I h) λd s1 ⟨H1,I1,q1⟩=>?_);cases d with
 | true=>exact ha aA s1 σ H1 D I1 q1
 | false=>exact hb aA s1 σ H1 D I1 q1
end
abbrev TG:=V->St->Hp->(St->Hp->Prop)->Prop
abbrev TGs:=List V->St->Hp->(St->Hp->Prop)->Prop
def PG (X:Cx)(target:Expr)(t:TG):Prop:=
 ∀(aA:LA)(s:Shared)(σ:St)(H:Hp)(v:V)(u:Value)(Q:St->Hp->Prop),Inv X aA σ H s->Zm v u->t v σ H Q->
  wpAny (mX X) X.A (assign target X.env u) (λ_ s'=>∃σ' H',Inv X aA σ' H' s'/\Q σ' H') X.xe s
def PGs (X:Cx)(ts:List Expr)(t:TGs):Prop:=
 ∀(aA:LA)(s:Shared)(σ:St)(H:Hp)(vs:List V)(us:List Value)(Q:St->Hp->Prop),Inv X aA σ H s->Zt vs us->t vs σ H Q->
  wpAny (mX X) X.A (assignInOrder ((assignEach ts X.env).map (·.2)) us) (λ_ s'=>∃σ' H',Inv X aA σ' H' s'/\Q σ' H') X.xe s
abbrev TSet:=V->V->V->Hp->(Hp->Prop)->Prop
def PSet (X:Cx)(t:TSet):Prop:=
 ∀(aA:LA)(s:Shared)(σ:St)(H:Hp)(o i v:V)(ov iv u:Value)(Q:Hp->Prop),Inv X aA σ H s->Zm o ov->Zm i iv->Zm v u->t o i v H Q->
  wpAny (mX X) X.A (setItem ov iv u) (λ_ s'=>∃H',Inv X aA σ H' s'/\Q H') X.xe s
section
variable {X:Cx}{pos:Pos}
def Ib (i:Nat):TG:=λv σ H Q=>Q (σ.set i (some v)) H
theorem Nk (hN:X.N.Nodup)(hi:X.N[i]?=some x)(hx:Loc X.env.scope x)(hf:Hf X x:=by first|exact .inl rfl|exact .inr rfl|assumption):PG X (.Name x pos) (Ib i):=by
 intro aA s σ H v u Q I r h;exact wpAny_assign_Name (KY I hN hi hx r (λs' I'=>⟨_,H,I',h⟩) hf)
def gNil:TGs:=λvs σ H Q=>vs=[]/\Q σ H
def gCons (t:TG)(u:TGs):TGs:=λvs σ H Q=>∃v r,vs=v::r/\t v σ H λσ' H'=>u r σ' H' Q
theorem AW:PGs X [] gNil:=by
 intro aA s σ H vs us Q I r h;obtain⟨e,h⟩:=h;subst e;cases r;exact assignInOrder_nil ⟨σ,H,I,h⟩
theorem zde (h1:PG X e t)(h2:PGs X es u)(hs:(assignEach (e::es) X.env).map (·.2)=assign e X.env::(assignEach es X.env).map (·.2):=by rfl):PGs X (e::es) (gCons t u):=by
 intro aA s σ H vs us Q I r h;obtain⟨v,vr,e1,h⟩:=h;subst e1;cases r with
 | cons r rr=>
  rw[hs];refine assignInOrder_cons (thn (h1 aA s σ H _ _ _ I r h) λ_ s1 ⟨σ1,H1,I1,q1⟩=>?_);exact h2 aA s1 σ1 H1 _ _ Q I1 rr q1
def gTup (K:Fg)(n:Nat)(t:TGs):TG:=λv σ H Q=>∃a xs,v=.ref a/\SqT K H a xs/\xs.length=n/\t xs σ H Q
theorem JA (hc:X.calm=true)(h:PGs X es t)(hn:(assignEach es X.env).length=n:=by rfl)(hst:(assignEach es X.env).findIdx? (·.1)=none:=by rfl):PG X (.Tuple es k pos) (gTup X.K n t):=by
 intro aA s σ H v u Q I r hw;obtain⟨a,xs,e1,hq,hl,hw⟩:=hw;subst e1;cases r;obtain⟨aQ,rv,ht,hz⟩:=I.tuple hq;refine assign_Tuple_tuple (I.ok.hd hc) ht (by simp[hn,<- hl,rv.length]) hst λh' hx=>?_
 have I1:Inv X aA σ H { s with heap:=h' }:=I.kept (t':=s.toks) λb o e=>hx b o (zI (Heap.lt_size e)) e
 exact h aA _ σ H xs _ Q I1 (by simpa using rv) hw
def gSub (to ti:TE)(t:TSet):TG:=λv σ H Q=>to σ H λo H1=>ti σ H1 λi H2=>t o i v H2 λH3=>Q σ H3
theorem zbD (ho:PE X o to)(hi:PE X i ti)(hs:PSet X t)(ha:∀v,assign (.Subscript o i pos) X.env v=(do
   let ov <- holding [v] (eval o X.env)
   let iv <- holding [v,ov] (eval i X.env)
   standAt pos
   holding [v,ov,iv] (setItem ov iv v)
   release [v,ov,iv] []):=by intro _;rfl):PG X (.Subscript o i pos) (gSub to ti t):=by
 intro aA s σ H v u Q I r h;rw[ha];refine wpAny_bind (wpAny_holding (thn (ho aA s σ H _ I h) λov s1 ⟨x,H1,I1,r1,q1⟩=>?_));refine wpAny_bind (wpAny_holding (thn (hi aA s1 σ H1 _ I1 q1) λiv s2 ⟨y,H2,I2,r2,q2⟩=>?_));refine wpAny_bind (wpAny_standAt (wpAny_bind (wpAny_holding (thn (hs aA s2 σ H2 x y v ov iv u _ I2 r1 r2 r q2) λ_ s3 ⟨H3,I3,q3⟩=>?_))));exact wpAny_release ⟨σ,H3,I3,q3⟩
def tAsg (te:TE)(g:TG):TS:=λD σ H=>te σ H λx H1=>g x σ H1 D.nx
theorem zdu (he:PE X e te)(hg:PG X tg g)(hs:swapsWithSole [tg] e pos.line X.env=pure false:=by rfl)(hw:swappedStores [tg] e X.env=pure none:=by rfl)(h1:(assignEach [tg] X.env).map (·.2)=[assign tg X.env]:=by rfl):PS X (.Assign [tg] e pos) (tAsg te g):=by
 intro aA s σ H D I h;refine wpAny_Assign_stores (thn (he aA s σ H _ I h) λv s1 ⟨x,H1,I1,r1,q1⟩=>?_) hs hw;rw[h1];exact thn (hg aA s1 σ H1 x v _ I1 r1 q1) λ_ s2 q=>q
theorem CA (hN:X.N.Nodup)(hi:X.N[i]?=some x)(hx:Loc X.env.scope x)(he:PE X e te)(hs:swapsWith e (some (.Name x pos')) pos.line X.env=pure false:=by rfl)(hf:Hf X x:=by first|exact .inl rfl|exact .inr rfl|assumption):
  PS X (.Assign [.Name x pos'] e pos) (tAsg te (Ib i)):=by
 intro aA s σ H D I h;refine wpAny_Assign_Name (thn (he aA s σ H _ I h) λv s1 ⟨y,H1,I1,r1,q1⟩=>?_) hs;exact KY I1 hN hi hx r1 (λs2 I2=>⟨_,H1,I2,q1⟩) hf
end
section
variable {X:Cx}{pos:Pos}
def zcc (c:TT)(tb:TS):TS:=λD σ H=>∃W:Nat->St->Hp->Prop,(∃m,W m σ H)/\∀m σ H,W m σ H->
 c σ H λb H1=>if b=true then ∃N:St->Hp->Prop,(∀σ' H',N σ' H'->∃m',m'<m/\W m' σ' H')/\tb { D with nx:=N,ct:=N,bk:=D.nx } σ H1 else D.nx σ H1
theorem zcu (hp:PassesOwn (mX X) X.A X.env X.xe)(hc:PT X c tc)(hb:PSs X body tb):PS X (.While c body [] pos) (zcc tc tb):=by
 intro aA s σ H D I h;obtain⟨W,⟨m0,w0⟩,turn⟩:=h;refine wpAny_While (codeAny_whileLoop (λn s'=>∃σ' H',Inv X aA σ' H' s'/\W n σ' H') ?_ m0 ⟨σ,H,I,w0⟩);rintro n s1 ⟨σ1,H1,I1,w1⟩;refine wpAny_passesOwn hp (thn (hc aA s1 σ1 H1 _ I1 (turn n σ1 H1 w1)) λb s2 ⟨H2,I2,q2⟩=>?_);cases b with
 | true=>
  obtain⟨N,hN,q2⟩:=q2;rw[if_pos rfl];refine wpAny_passesOwn hp (thn (hb aA s2 σ1 H2 _ I2 q2) λf s3 q3=>?_);cases f with
  | next=>
   obtain⟨σ3,H3,I3,n3⟩:=q3;obtain⟨m',hm,w3⟩:=hN σ3 H3 n3;exact⟨m',hm,σ3,H3,I3,w3⟩
  | cont=>
   obtain⟨σ3,H3,I3,n3⟩:=q3;obtain⟨m',hm,w3⟩:=hN σ3 H3 n3;exact⟨m',hm,σ3,H3,I3,w3⟩
  | brk=>exact q3
  | ret v=>exact q3
 | false=>
  rw[if_neg zQ];exact wpAny_execs_nil ⟨σ1,H2,I2,q2⟩
end
structure It where
 go:Nat->Hp->Prop
 yld:Nat->Hp->V->Hp->Prop
 stop:Nat->Hp->Prop
def Xo (X:Cx)(aA:LA)(H:Hp)(b:Addr):Prop:=
 H b=none/\b≠X.env.locals/\b ∉ X.fs/\(b∈X.ex\/X.s₀.heap.objs.size<=b)/\(∀x c,X.env.cells.lookup x=some c->c≠b)/\∀p∈X.pn++aA,p.1≠b
theorem Inv.fpOk {X:Cx}{aA:LA}{σ:St}{H H':Hp}{s:Shared}{b:Addr}(I:Inv X aA σ H s)(hb:s.heap.objs.size<=b)(hn:H' b=none):Xo X aA H' b:=by
 refine⟨hn,wB (zK I.lt hb),I.nofs hb,.inr (zW I.sz hb),λx c e z=>?_,λp hp z=>?_⟩
 .obtain⟨v,q⟩:=I.cell x c e;exact absurd (zK q.lt (by rw[z];exact hb)) (yB _)
 .exact absurd (zK (Heap.lt_size (I.pin p hp).1) (by rw[z];exact hb)) (yB _)
structure Qj (P:Program)(w:World)(K:Fg)(tg:Expr)(J:It)(fp:List Addr)(it:Addr)(tn:Nat->Heap->Prop):Prop where
 mem:it∈fp
 obj:∀i h,tn i h->∀b∈fp,∃o,h.get? b=some o/\∀v,o.data≠.cell v
 keep:∀i h h',tn i h->(∀b∈fp,∀o,h.get? b=some o->h'.get? b=some o)->tn i h'
 item:∀(X:Cx),X.prog=P->X.w=w->X.K=K->X.calm=true->∀(i:Nat)(aA:LA)(s:Shared)(σ:St)(H:Hp)(E:Value->Shared->Prop),Inv X aA σ H s->(∀b∈fp,Xo X aA H b)->tn i s.heap->J.go i H->
  wpAny (model P w) X.A (pyNext (.ref it)) (λr s1=>∃u,r=some u/\
   wpAny (model P w) X.A (letOwnedTupleGo tg (.ref it) u) (λ_ s2=>∃x H',Inv X aA σ H' s2/\Zm x u/\J.yld i H x H'/\tn (i+1) s2.heap/\∀b∈fp,H' b=none) E s1) E s
 done:∀(X:Cx),X.prog=P->X.w=w->X.K=K->X.calm=true->∀(i:Nat)(aA:LA)(s:Shared)(σ:St)(H:Hp)(E:Value->Shared->Prop),Inv X aA σ H s->(∀b∈fp,Xo X aA H b)->tn i s.heap->J.stop i H->
  wpAny (model P w) X.A (pyNext (.ref it)) (λr s1=>r=none/\Inv X aA σ H s1) E s
 self:∀(A:Around)(i:Nat)(s:Shared)(Q:Value->Shared->Prop)(E:Value->Shared->Prop),tn i s.heap->Q (.ref it) s->wpAny (model P w) A (pyIter (.ref it)) Q E s
abbrev TI:=St->Hp->(It->Hp->Prop)->Prop
def PIE (X:Cx)(aA:LA)(σ:St)(tg:Expr)(R:It->Hp->Prop)(itv:Value)(s2:Shared):Prop:=
 ∃(it:Addr)(fp:List Addr)(tn:Nat->Heap->Prop)(J:It)(H':Hp),itv=.ref it/\Inv X aA σ H' s2/\Qj X.prog X.w X.K tg J fp it tn/\tn 0 s2.heap/\(∀b∈fp,Xo X aA H' b)/\R J H'
def PI (X:Cx)(tg aO:Expr)(wi:TI):Prop:=
 ∀(aA:LA)(s:Shared)(σ:St)(H:Hp)(R:It->Hp->Prop),Inv X aA σ H s->wi σ H R->
  wpAny (mX X) X.A (eval aO X.env) (λv s1=>wpAny (mX X) X.A (pyIter v) (PIE X aA σ tg R) X.xe s1) X.xe s
theorem LC (ho:s.heap.get? it=some o)(hc:o.cls=.type n)(hd:o.data=.fields vs)(hn:["enumerate","zip","dict_itemiterator","dict_reverseitemiterator","odict_iterator","itertools.zip_longest","itertools.pairwise"].contains n=false)(hQ:Q Unit.unit s):wpAny M A (letOwnedTupleGo tg (.ref it) u) Q E s:=by
  unfold letOwnedTupleGo;cases tg<;>first
    | exact wpAny_pure hQ
    | (cases u<;>first
        | exact wpAny_pure hQ
        | (refine wpAny_bind (wpAny_load ho ?_)
           rw[hc,hd];show wpAny M A (if (["enumerate","zip","dict_itemiterator","dict_reverseitemiterator","odict_iterator","itertools.zip_longest","itertools.pairwise"].contains n&&vs[0]?==some (rawInt _))=true then _ else _) Q E s;rw[if_neg (by intro h;rw[hn,yU] at h;cases h)];exact wpAny_pure hQ))
def Itl (K:Fg)(a:Addr):It:=
 ⟨λi H=>∃xs x,SqL K H a xs/\xs[i]?=some x,λi H x H'=>H'=H/\∀xs,SqL K H a xs->xs[i]?=some x,λi H=>∃xs,SqL K H a xs/\xs.length<=i⟩
def Itr (lo:Int)(n:Nat):It:=⟨λi _=>i<n,λi H x H'=>H'=H/\x=.int (lo+i),λi _=>n<=i⟩
theorem BH {P:Program}{w:World}{K:Fg}{tg:Expr}(a it:Addr):Qj P w K tg (Itl K a) [it] it (λi h=>h.IsListIter it a i) where
 mem:=by simp
 obj:=λi h st b hb=>by
  have e:b=it:=by simpa using hb
  subst e;obtain⟨o,e,c,d⟩:=st;exact⟨o,e,λv z=>by rw[d] at z;cases z⟩
 keep:=λi h h' st k=>st.at λo e=>k it (by simp) o e
 item:=by
  intro X hP hw hK hc i aA s σ H E I hf st hg;subst hP hw hK;obtain⟨xs,x,hq,hx⟩:=hg;obtain⟨aQ,rv,p,hz⟩:=I.list hq;obtain⟨u,hu,ru⟩:=rv.get hx;obtain⟨f0,f1,f2,f3,f4,f5⟩:=hf it (by simp);refine wpAny_pyNext_list_item st p.isList (x:=u) (by simpa using hu) λh' st' sb=>?_
  have I1:Inv X aA σ H { s with heap:=h' }:=I.turned (t':=s.toks) (λb o hb e=>(sb.2 b hb).trans e) f0 f1 f3 f4 f5;obtain⟨o,e,c,d⟩:=id st';exact⟨u,rfl,LC (s:={ s with heap:=h' }) e c d ⋯ ⟨x,H,I1,ru,⟨rfl,λys hy=>by rw[I.list_inj hy hq];exact hx⟩,st',λb hb=>(hf b hb).1⟩⟩
 done:=by
  intro X hP hw hK hc i aA s σ H E I hf st hg;subst hP hw hK;obtain⟨xs,hq,hx⟩:=hg;obtain⟨aQ,rv,p,hz⟩:=I.list hq;obtain⟨f0,f1,f2,f3,f4,f5⟩:=hf it (by simp);have hl:=rv.length;exact wpAny_pyNext_list_end (I.ok.hd hc) st p.isList (by simp;lia) λh' eb=>⟨rfl,I.turned (t':=s.toks) (λb o hb e=>eb b o hb e) f0 f1 f3 f4 f5⟩
 self:=λ_ _ _ _ _ st h=>wpAny_pyIter_listiter st h
theorem Cp {P:Program}{w:World}{K:Fg}{tg:Expr}(it:Addr)(lo:Int)(n:Nat):Qj P w K tg (Itr lo n) [it] it (λi h=>IsRangeIter h it (lo+(i:Nat)*1) ((n:Int)-(i:Nat)) 1) where
 mem:=by simp
 obj:=λi h st b hb=>by
  have e:b=it:=by simpa using hb
  subst e;exact⟨_,st,λv z=>by
   have z':Data.fields _=Data.cell v:=z;cases z'⟩
 keep:=λi h h' st k=>k it (by simp) _ st
 item:=by
  intro X hP hw hK hc i aA s σ H E I hf st hg;subst hP hw hK;obtain⟨f0,f1,f2,f3,f4,f5⟩:=hf it (by simp);have W:=Walks.range (prog:=X.prog) (w:=X.w) (I.ok.hd hc) it lo 1 n;refine W.item i s _ _ hg st λv h' tk hv st' kk=>?_
  obtain⟨t,rfl⟩:=hv;have I1:Inv X aA σ H { s with heap:=h',toks:=tk }:=I.turned (λb o hb e=>kk b o (by simpa using hb) e) f0 f1 f3 f4 f5;refine⟨_,rfl,LC (s:={ s with heap:=h',toks:=tk }) (n:="range_iterator") st' rfl rfl ⋯ ⟨.int (lo+i),H,I1,⟨t,?_⟩,⟨rfl,rfl⟩,st',λb hb=>(hf b hb).1⟩⟩;rw[Int.mul_one]
 done:=by
  intro X hP hw hK hc i aA s σ H E I hf st hg;subst hP hw hK;obtain⟨f0,f1,f2,f3,f4,f5⟩:=hf it (by simp);exact wpAny_pyNext_range_end (I.ok.hd hc) st (by have:n<=i:=hg;lia) λh' eb=>⟨rfl,I.turned (t':=s.toks) (λb o hb e=>eb b o hb e) f0 f1 f3 f4 f5⟩
 self:=λ_ _ _ _ _ st h=>wpAny_pyIter_rangeiter st h
section
variable {X:Cx}{tg:Expr}
def ED (K:Fg)(tl:TE):TI:=λσ H R=>tl σ H λx H1=>∃a,x=.ref a/\(∃xs,SqL K H1 a xs)/\R (Itl K a) H1
theorem MR {l:Expr}{tl:TE}(hl:PE X l tl):PI X tg l (ED X.K tl):=by
 intro aA s σ H R I h;refine thn (hl aA s σ H _ I h) λv s1 ⟨x,H1,I1,r1,q1⟩=>?_
 obtain⟨a,e,⟨xs,hq⟩,q⟩:=q1;subst e;cases r1;obtain⟨aQ,rv,p,hz⟩:=I1.list hq;refine wpAny_pyIter_list p.isList ?_;refine⟨s1.heap.objs.size,[s1.heap.objs.size],_,_,H1,rfl,I1.kept (t':=s1.toks) λb o e=>Heap.get?_push_of_some _ e,BH a _,⟨_,Heap.get?_push_size _ rfl,rfl,rfl⟩,λb hb=>?_,q⟩;have e:b=s1.heap.objs.size:=by simpa using hb
 subst e;exact I1.fpOk (zA _) (I1.hok.fresh (zA _))
theorem HW {aA:LA}{σ:St}{H:Hp}{s:Shared}{R:It->Hp->Prop}{E:Value->Shared->Prop}{lo hi:Int}{t u v:Tok}{tk:Nat}(I:Inv X aA σ H s)(h1:-(2^62)<=lo)(h2:lo<2^62)(h3:-(2^62)<=hi)(h4:hi<2^62)
  (q:R (Itr lo (hi-lo).toNat) H):wpAny (mX X) X.A (pyIter (.ref s.heap.objs.size)) (PIE X aA σ tg R) E { s with heap:=s.heap.push { cls:=.type "range",data:=.fields #[.int lo t,.int hi u,.int 1 v] },toks:=tk }:=by
 refine wpAny_pyIter_range (IsRange.new ..) (small_one h1 h2 h3 h4) ?_;have I1:Inv X aA σ H { s with heap:=s.heap.push { cls:=.type "range",data:=.fields #[.int lo t,.int hi u,.int 1 v] },toks:=tk }:=I.kept λb o e=>Heap.get?_push_of_some _ e
 refine⟨(s.heap.push { cls:=.type "range",data:=.fields #[.int lo t,.int hi u,.int 1 v] }).objs.size,[(s.heap.push { cls:=.type "range",data:=.fields #[.int lo t,.int hi u,.int 1 v] }).objs.size],_,_,H,rfl,
  I1.kept (t':=tk) λb o e=>Heap.get?_push_of_some _ e,Cp _ lo (hi-lo).toNat,?_,λb hb=>?_,q⟩
 .have e1:lo+((0:Nat):Int)*1=lo:=by simp
  have e2:(((hi-lo).toNat:Nat):Int)-((0:Nat):Int)=Builtin.Range.rangeSize lo hi 1:=by rw[rangeSize_one];split<;>lia
  show IsRangeIter _ _ (lo+((0:Nat):Int)*1) ((((hi-lo).toNat:Nat):Int)-((0:Nat):Int)) 1;rw[e1,e2];exact Heap.get?_push_size _ rfl
 .have e:b=(s.heap.push { cls:=.type "range",data:=.fields #[.int lo t,.int hi u,.int 1 v] }).objs.size:=by simpa using hb
  subst e;exact I1.fpOk (zA _) (I1.hok.fresh (zA _))
def IG (ta:TA):TI:=λσ H R=>ta σ H λvs H1=>∃j:Int,vs=[.int j]/\-(2^62)<=j/\j<2^62/\R (Itr 0 j.toNat) H1
def iRng2 (ta:TA):TI:=λσ H R=>ta σ H λvs H1=>∃i j:Int,vs=[.int i,.int j]/\(-(2^62)<=i/\i<2^62/\-(2^62)<=j/\j<2^62)/\R (Itr i (j-i).toNat) H1
theorem Dy {a:Expr}{ta:TA}{p pos:Pos}(hg:Gl X "range")(hm:X.mg "range"=none)(ha:PA X [a] ta)(hs:starEach [a] X.env=[(false,eval a X.env)]:=by rfl):PI X tg (.Call (.Name "range" p) [a] [] pos) (IG ta):=by
 intro aA s σ H R I h;refine Call_ (TC I hg hm boot_range (PyProof.Rows.callWith_type1 (thn (ha pos aA s σ H _ I h) λus s1 ⟨vs,H1,I1,r1,q1⟩=>?_) hs rfl));obtain⟨j,e,q1,q2,q⟩:=q1;subst e;cases r1 with
 | cons r rr=>
  cases rr;obtain⟨t,rfl⟩:=r;exact call_range_1 (HW I1 () () q1 q2 (by simpa using q))
theorem BE (hg:Gl X "range")(hm:X.mg "range"=none)(ha:PA X [a,b] ta)(hs:starEach [a,b] X.env=[(false,eval a X.env),(false,eval b X.env)]:=by rfl)(hs2:starEach [b] X.env=[(false,eval b X.env)]:=by rfl):
  PI X tg (.Call (.Name "range" p) [a,b] [] pos) (iRng2 ta):=by
 intro aA s σ H R I h;refine Call_ (TC I hg hm boot_range (PyProof.Rows.callWith_type1 (thn (ha pos aA s σ H _ I h) λus s1 ⟨vs,H1,I1,r1,q1⟩=>?_) (by rw[hs,hs2]) (by rw[hs2];rfl)));obtain⟨i,j,e,⟨q1,q2,q3,q4⟩,q⟩:=q1;subst e;cases r1 with
 | cons r rr=>
  cases rr with
  | cons r' rr=>
   cases rr;obtain⟨t,rfl⟩:=r;obtain⟨t',rfl⟩:=r';exact call_range_2 (HW I1 q1 q2 q3 q4 q)
def tFor (wi:TI)(g:TG)(tb:TS):TS:=λD σ H=>wi σ H λJ H1=>∃W:Nat->Nat->St->Hp->Prop,(∃m,W 0 m σ H1)/\∀i m σ H,W i m σ H->
 (J.stop i H/\D.nx σ H)\/(J.go i H/\∃N:St->Hp->Prop,(∀σ' H',N σ' H'->∃m',m'<m/\W (i+1) m' σ' H')/\∀x H',J.yld i H x H'->g x σ H' λσ2 H2=>tb { D with nx:=N,ct:=N,bk:=D.nx } σ2 H2)
def SH (fp:List Addr)(h:Heap):LA:=fp.filterMap λb=>(h.get? b).map λo=>(b,o)
theorem SX {fp:List Addr}{h:Heap}{b:Addr}{o:Obj}(hb:b∈fp)(e:h.get? b=some o):(b,o)∈SH fp h:=wC.mpr ⟨b,hb,by rw[e];rfl⟩
theorem zbe {fp:List Addr}{h:Heap}{p:Addr×Obj}(hp:p∈SH fp h):p.1∈fp/\h.get? p.1=some p.2:=by
 obtain⟨b,hb,e⟩:=wC.mp hp;cases q:h.get? b with
 | none=>rw[q] at e;cases e
 | some o=>
  rw[q] at e;have e':(b,o)=p:=Option.some.inj e;subst e';exact⟨hb,q⟩
theorem Inv.pinned {aA:LA}{σ:St}{H:Hp}{s:Shared}{fp:List Addr}(I:Inv X aA σ H s)(hf:∀b∈fp,Xo X aA H b)(ho:∀b∈fp,∃o,s.heap.get? b=some o/\∀v,o.data≠.cell v):Inv X (aA++SH fp s.heap) σ H s:=
 I.pins_of λp hp=>(zH.mp hp).elim (λz=>I.pin p (zX _ z)) λz=>by
  obtain⟨hb,e⟩:=zbe z;obtain⟨f0,f1,f2,_⟩:=hf p.1 hb;obtain⟨o,e',d⟩:=ho p.1 hb;rw[e] at e';cases e'
  exact⟨e,f0,f1,f2,d⟩
theorem Inv.unpinned (I:Inv X (aA++pl) σ H s):Inv X aA σ H s:=I.pins_of λp hp=>I.pin p (zX _ (yH _ hp))
theorem PR (hp:PassesOwn (mX X) X.A X.env X.xe)(hc:X.calm=true)(hi:PI X tg aO wi)(hg:PG X tg g)(hb:PSs X body tb)(hs:∀x,foldedSetIterable aO X.env x=pure x:=by intro _;rfl):PS X (.For tg aO body [] pos) (tFor wi g tb):=by
 intro aA s σ H D I h;refine wpAny_For (thn (hi aA s σ H _ I h) λv s1 h1=>thn h1 λitv s2 h2=>?_) hs;obtain⟨it,fp,tn,J,H2,e,I2,T,st2,f2,W,⟨m0,w0⟩,turn⟩:=h2;subst e;have stat:∀ {H':Hp},(∀b∈fp,H' b=none)->∀b∈fp,Xo X aA H' b:=λhn b hb=>⟨hn b hb,(f2 b hb).2⟩
 refine codeAny_forLoop_any (λn s'=>∃i σ' H',Inv X aA σ' H' s'/\tn i s'.heap/\(∀b∈fp,H' b=none)/\W i n σ' H') ?_ m0 ⟨0,σ,H2,I2,st2,λb hb=>(f2 b hb).1,w0⟩;rintro n s3 ⟨i,σ3,H3,I3,st3,fr3,w3⟩;rcases turn i n σ3 H3 w3 with ⟨stop,qn⟩|⟨go,N,hN,step⟩
 .refine wpAny_passesOwn hp (thn (T.done X rfl rfl rfl hc i aA s3 σ3 H3 X.xe I3 (stat fr3) st3 stop) λr s4 ⟨hr,I4⟩=>?_);subst hr;exact wpAny_execs_nil ⟨σ3,H3,I4,qn⟩
 .refine wpAny_passesOwn hp (thn (T.item X rfl rfl rfl hc i aA s3 σ3 H3 X.xe I3 (stat fr3) st3 go) λr s4 ⟨u,hr,h4⟩=>?_);subst hr;refine wpAny_passesOwn hp (thn h4 λ_ s5 ⟨x,H5,I5,r5,y5,st5,fr5⟩=>?_);have I5':=I5.pinned (stat fr5) (T.obj _ _ st5);refine wpAny_passesOwn hp (thn (hg _ s5 σ3 H5 x u _ I5' r5 (step x H5 y5)) λ_ s6 ⟨σ6,H6,I6,q6⟩=>?_);refine wpAny_passesOwn hp (thn (hb _ s6 σ6 H6 _ I6 q6) λf s7 q7=>?_);have again:∀ {σ7:St} {H7:Hp},Inv X (aA++SH fp s5.heap) σ7 H7 s7->N σ7 H7->∃m,m<n/\∃i σ' H',Inv X aA σ' H' s7/\tn i s7.heap/\(∀b∈fp,H' b=none)/\W i m σ' H':=λ{σ7 H7} I7 n7=>by
   obtain⟨m',hm,w7⟩:=hN σ7 H7 n7;refine⟨m',hm,i+1,σ7,H7,I7.unpinned,T.keep _ _ _ st5 λb hb o e=>(I7.pin (b,o) (zX _ (zX _ (SX hb e)))).1,λb hb=>?_,w7⟩;obtain⟨o,e,d⟩:=T.obj _ _ st5 b hb;exact(I7.pin (b,o) (zX _ (zX _ (SX hb e)))).2.1
  cases f with
  | next=>obtain⟨σ7,H7,I7,n7⟩:=q7;exact again I7 n7
  | cont=>obtain⟨σ7,H7,I7,n7⟩:=q7;exact again I7 n7
  | brk=>obtain⟨σ7,H7,I7,q7⟩:=q7;exact⟨σ7,H7,I7.unpinned,q7⟩
  | ret v=>obtain⟨x7,σ7,H7,I7,r7,q7⟩:=q7;exact⟨x7,σ7,H7,I7.unpinned,r7,q7⟩
end
abbrev R2:=V->V->Hp->VK->Prop
def OpR (X:Cx)(f:Value->Value->Sem Value)(r:R2):Prop:=
 ∀(aA:LA)(s:Shared)(σ:St)(H:Hp)(x y:V)(v u:Value)(Q:VK),Inv X aA σ H s->Zm x v->Zm y u->r x y H Q->
  wpAny (mX X) X.A (f v u) (EP X aA σ Q) X.xe s
def UnR (X:Cx)(f:Value->Sem Value)(r:V->Hp->VK->Prop):Prop:=
 ∀(aA:LA)(s:Shared)(σ:St)(H:Hp)(x:V)(v:Value)(Q:VK),Inv X aA σ H s->Zm x v->r x H Q->
  wpAny (mX X) X.A (f v) (EP X aA σ Q) X.xe s
def YJ (X:Cx)(f:Value)(r:List V->Hp->VK->Prop):Prop:=
 ∀(aA:LA)(s:Shared)(σ:St)(H:Hp)(xs:List V)(us:List Value)(Q:VK),Inv X aA σ H s->Zt xs us->r xs H Q->
  wpAny (mX X) X.A (call f us) (EP X aA σ Q) X.xe s
def tOp (r:R2)(ta tb:TE):TE:=λσ H Q=>ta σ H λx H1=>tb σ H1 λy H2=>r x y H2 Q
def tUn (r:V->Hp->VK->Prop)(ta:TE):TE:=λσ H Q=>ta σ H λx H1=>r x H1 Q
def rI (C:Int->Int->Prop)(g:Int->Int->V):R2:=λx y H Q=>∃i j,x=.int i/\y=.int j/\C i j/\Q (g i j) H
def rI0 (g:Int->Int->V):R2:=λx y H Q=>∃i j,x=.int i/\y=.int j/\Q (g i j) H
def rU (g:Int->V):V->Hp->VK->Prop:=λx H Q=>∃i,x=.int i/\Q (g i) H
section
variable {X:Cx}{a b c:Expr}{ta tb tc:TE}{pos:Pos}
theorem Md (ha:PE X a ta)(hb:PE X b tb){aA:LA}{s:Shared}{σ:St}{H:Hp}{R:V->V->Hp->Prop}(I:Inv X aA σ H s)
  (h:ta σ H λx H1=>tb σ H1 λy H2=>R x y H2){Q:Value->Shared->Prop}{f:Value->Value->Sem Value}
  (hf:∀v u s2 x y H2,Inv X aA σ H2 s2->Zm x v->Zm y u->R x y H2->wpAny (mX X) X.A (f v u) Q X.xe s2):
  wpAny (mX X) X.A (eval a X.env) (λv s₁=>wpAny (mX X) X.A (eval b X.env) (λu s₂=>wpAny (mX X) X.A (f v u) Q X.xe s₂) X.xe s₁) X.xe s:=by
 refine thn (ha aA s σ H _ I h) λv s1 ⟨x,H1,I1,r1,q1⟩=>?_
 refine thn (hb aA s1 σ H1 _ I1 q1) λu s2 ⟨y,H2,I2,r2,q2⟩=>?_
 exact hf v u s2 x y H2 I2 r1 r2 q2
theorem pe_op {op:Operator}{r:R2}(ho:OpR X (binaryOp op) r)(ha:PE X a ta)(hb:PE X b tb):PE X (.BinOp a op b pos) (tOp r ta tb):=by
 intro aA s σ H Q I h;exact wpAny_BinOp (Md ha hb I h λv u s2 x y H2 I2 rx ry q=>ho aA s2 σ H2 x y v u Q I2 rx ry q)
theorem pe_un {op:UnaryOp}{r:V->Hp->VK->Prop}(ho:UnR X (unaryOp op) r)(ha:PE X a ta):PE X (.UnaryOp op a pos) (tUn r ta):=by
 intro aA s σ H Q I h;exact UnaryOp_ (thn (ha aA s σ H _ I h) λv s1 ⟨x,H1,I1,r1,q1⟩=>ho aA s1 σ H1 x v Q I1 r1 q1)
theorem opI {f:Value->Value->Sem Value}{C:Int->Int->Prop}{g:Int->Int->Int}
  (rule:∀(i j:Int)(t u:Tok)(s:Shared)(Q:Value->Shared->Prop)(E:Value->Shared->Prop),C i j->Q (.int (g i j) s.toks) { s with toks:=s.toks+1 }->wpAny (mX X) X.A (f (.int i t) (.int j u)) Q E s):
  OpR X f (rI C λi j=>.int (g i j)):=by
 intro aA s σ H x y v u Q I rx ry h;obtain⟨i,j,rfl,rfl,hc,q⟩:=h;obtain⟨t,rfl⟩:=rx;obtain⟨t',rfl⟩:=ry;exact rule i j t t' s _ _ hc ⟨.int (g i j),H,I.tok _,⟨_,rfl⟩,q⟩
theorem opI0 {f:Value->Value->Sem Value}{g:Int->Int->Int}
  (rule:∀(i j:Int)(t u:Tok)(s:Shared)(Q:Value->Shared->Prop)(E:Value->Shared->Prop),Q (.int (g i j) s.toks) { s with toks:=s.toks+1 }->wpAny (mX X) X.A (f (.int i t) (.int j u)) Q E s):
  OpR X f (rI0 λi j=>.int (g i j)):=by
 intro aA s σ H x y v u Q I rx ry h;obtain⟨i,j,rfl,rfl,q⟩:=h;obtain⟨t,rfl⟩:=rx;obtain⟨t',rfl⟩:=ry;exact rule i j t t' s _ _ ⟨.int (g i j),H,I.tok _,⟨_,rfl⟩,q⟩
theorem N5 {f:Value->Value->Sem Value}{g:Int->Int->Bool}
  (rule:∀(i j:Int)(t u:Tok)(s:Shared)(Q:Value->Shared->Prop)(E:Value->Shared->Prop),Q (.bool (g i j)) s->wpAny (mX X) X.A (f (.int i t) (.int j u)) Q E s):
  OpR X f (rI0 λi j=>.bl (g i j)):=by
 intro aA s σ H x y v u Q I rx ry h;obtain⟨i,j,rfl,rfl,q⟩:=h;obtain⟨t,rfl⟩:=rx;obtain⟨t',rfl⟩:=ry;exact rule i j t t' s _ _ ⟨.bl (g i j),H,I,rfl,q⟩
def CPow (i j:Int):Prop:=0<=j/\j<=1000000/\i.natAbs<2^64
theorem zdV:OpR X (binaryOp .Add) (rI0 λi j=>.int (i+j)):=opI0 λ_ _ _ _ _ _ _ q=>add_int q
theorem zbE:OpR X (binaryOp .Sub) (rI0 λi j=>.int (i-j)):=opI0 λ_ _ _ _ _ _ _ q=>sub_int q
theorem zca:OpR X (binaryOp .Mod) (rI (λ_ j=>0<j) λi j=>.int (i%j)):=opI λi j _ _ _ _ _ hc q=>by
 have h1:(0:Int)<j:=hc;exact mod_int' () (by rw[Int.fmod_eq_emod_of_nonneg i ()];exact q)
theorem DX:OpR X (binaryOp .Pow) (rI CPow λi j=>.int (i^j.toNat)):=opI λ_ _ _ _ _ _ _ hc q=>pow_int_small hc.1 hc.2.1 hc.2.2 q
theorem unI {f:Value->Sem Value}{g:Int->Int}
  (rule:∀(i:Int)(t:Tok)(s:Shared)(Q:Value->Shared->Prop)(E:Value->Shared->Prop),Q (.int (g i) s.toks) { s with toks:=s.toks+1 }->wpAny (mX X) X.A (f (.int i t)) Q E s):
  UnR X f (rU λi=>.int (g i)):=by
 intro aA s σ H x v Q I rx h;obtain⟨i,rfl,q⟩:=h;obtain⟨t,rfl⟩:=rx;exact rule i t s _ _ ⟨.int (g i),H,I.tok _,⟨_,rfl⟩,q⟩
theorem AZ:UnR X (unaryOp .USub) (rU λi=>.int (-i)):=unI λ_ _ _ _ _ q=>neg_int q
end
def Px:V->V->Bool
 | .non,.non=>true|.non,.int _=>true|.int _,.non=>true|.non,.bl _=>true|.bl _,.non=>true|.non,.str _=>true|.str _,.non=>true
 | .int _,.int _=>true|.bl _,.bl _=>true|.str _,.str _=>true|.byt _,.byt _=>true
 | .int _,.str _=>true|.str _,.int _=>true|.bl _,.str _=>true|.str _,.bl _=>true
 | _,_=>false
def rEq:R2:=λx y H Q=>Px x y=true/\Q (.bl (decide (x=y))) H
def rNe:R2:=λx y H Q=>Px x y=true/\Q (.bl (!decide (x=y))) H
theorem IZ:decide (V.int i=V.int j)=(i==j):=by
 rw[yP];simp
theorem EB:decide (V.bl i=V.bl j)=(i==j):=by
 rw[yP];simp
theorem GJ:decide (V.str i=V.str j)=(i==j):=by
 rw[yP];simp
theorem ID:decide (V.byt i=V.byt j)=(i.toList==j.toList):=by
 rw[yP];cases i;cases j;simp
section
variable {X:Cx}{a b c:Expr}{ta tb tc:TE}{pos:Pos}
theorem Yn (I:Inv X aA σ H s)(q:Q (.bl k) H)(e:k=k'):EP X aA σ Q (.bool k') s:=by
 subst e;exact⟨.bl k,H,I,rfl,q⟩
theorem MO:OpR X (compareOp .Eq) rEq:=by
 intro aA s σ H x y v u Q I rx ry h;obtain⟨hs,q⟩:=h;cases x with
 | non=>
  cases rx;cases y with
  | non=>cases ry;exact PySem.EqNone.eq_none_none (Yn I q (by simp))
  | bl j=>cases ry;exact PySem.EqNone.eq_none_bool (Yn I q (by simp))
  | int j=>obtain⟨t',rfl⟩:=ry;exact PySem.EqNone.eq_none_int (Yn I q (by simp))
  | str j=>obtain⟨t',rfl⟩:=ry;exact PySem.EqNone.eq_none_str (Yn I q (by simp))
  | _=>exact absurd (show false=true from hs) zQ
 | bl i=>
  cases rx;cases y with
  | non=>cases ry;exact PySem.EqNone.eq_bool_none (Yn I q (by simp))
  | bl j=>cases ry;exact eq_bool (Yn I q EB)
  | str j=>obtain⟨t',rfl⟩:=ry;exact PySem.EqMixed.eq_bool_str (Yn I q (by simp))
  | _=>exact absurd (show false=true from hs) zQ
 | int i=>
  obtain⟨t,rfl⟩:=rx;cases y with
  | non=>cases ry;exact PySem.EqNone.eq_int_none (Yn I q (by simp))
  | int j=>obtain⟨t',rfl⟩:=ry;exact eq_int (Yn I q IZ)
  | str j=>obtain⟨t',rfl⟩:=ry;exact PySem.EqMixed.eq_int_str (Yn I q (by simp))
  | _=>exact absurd (show false=true from hs) zQ
 | str i=>
  obtain⟨t,rfl⟩:=rx;cases y with
  | non=>cases ry;exact PySem.EqNone.eq_str_none (Yn I q (by simp))
  | bl j=>cases ry;exact PySem.EqMixed.eq_str_bool (Yn I q (by simp))
  | int j=>obtain⟨t',rfl⟩:=ry;exact PySem.EqMixed.eq_str_int (Yn I q (by simp))
  | str j=>obtain⟨t',rfl⟩:=ry;exact eq_str (Yn I q GJ)
  | _=>exact absurd (show false=true from hs) zQ
 | byt i=>
  obtain⟨t,rfl⟩:=rx;cases y with
  | byt j=>obtain⟨t',rfl⟩:=ry;exact W.eq_bytes (Yn I q ID)
  | _=>exact absurd (show false=true from hs) zQ
 | _=>cases y<;>exact absurd (show false=true from hs) zQ
theorem op_ne:OpR X (compareOp .NotEq) rNe:=by
 intro aA s σ H x y v u Q I rx ry h;obtain⟨hs,q⟩:=h;cases x with
 | non=>
  cases rx;cases y with
  | non=>cases ry;exact PySem.EqNone.ne_none_none (Yn I q (by simp))
  | bl j=>cases ry;exact PySem.EqNone.ne_none_bool (Yn I q (by simp))
  | int j=>obtain⟨t',rfl⟩:=ry;exact PySem.EqNone.ne_none_int (Yn I q (by simp))
  | str j=>obtain⟨t',rfl⟩:=ry;exact PySem.EqNone.ne_none_str (Yn I q (by simp))
  | _=>exact absurd (show false=true from hs) zQ
 | bl i=>
  cases rx;cases y with
  | non=>cases ry;exact PySem.EqNone.ne_bool_none (Yn I q (by simp))
  | bl j=>cases ry;exact ne_bool (Yn I q (congrArg not EB))
  | str j=>obtain⟨t',rfl⟩:=ry;exact PySem.EqMixed.ne_bool_str (Yn I q (by simp))
  | _=>exact absurd (show false=true from hs) zQ
 | int i=>
  obtain⟨t,rfl⟩:=rx;cases y with
  | non=>cases ry;exact PySem.EqNone.ne_int_none (Yn I q (by simp))
  | int j=>obtain⟨t',rfl⟩:=ry;exact ne_int (Yn I q (congrArg not IZ))
  | str j=>obtain⟨t',rfl⟩:=ry;exact PySem.EqMixed.ne_int_str (Yn I q (by simp))
  | _=>exact absurd (show false=true from hs) zQ
 | str i=>
  obtain⟨t,rfl⟩:=rx;cases y with
  | non=>cases ry;exact PySem.EqNone.ne_str_none (Yn I q (by simp))
  | bl j=>cases ry;exact PySem.EqMixed.ne_str_bool (Yn I q (by simp))
  | int j=>obtain⟨t',rfl⟩:=ry;exact PySem.EqMixed.ne_str_int (Yn I q (by simp))
  | str j=>obtain⟨t',rfl⟩:=ry;exact ne_str (Yn I q (congrArg not GJ))
  | _=>exact absurd (show false=true from hs) zQ
 | byt i=>
  obtain⟨t,rfl⟩:=rx;cases y with
  | byt j=>obtain⟨t',rfl⟩:=ry;exact W.ne_bytes (Yn I q (congrArg not ID))
  | _=>exact absurd (show false=true from hs) zQ
 | _=>cases y<;>exact absurd (show false=true from hs) zQ
theorem op_lt:OpR X (compareOp .Lt) (rI0 λi j=>.bl (decide (i<j))):=N5 λ_ _ _ _ _ _ _ q=>lt_int q
theorem op_le:OpR X (compareOp .LtE) (rI0 λi j=>.bl (decide (i<=j))):=N5 λ_ _ _ _ _ _ _ q=>le_int q
theorem op_gt:OpR X (compareOp .Gt) (rI0 λi j=>.bl (decide (j<i))):=N5 λ_ _ _ _ _ _ _ q=>gt_int q
theorem op_ge:OpR X (compareOp .GtE) (rI0 λi j=>.bl (decide (j<=i))):=N5 λ_ _ _ _ _ _ _ q=>ge_int q
theorem zaG:OpR X (compareOp .In) (λx y H Q=>∃i j,x=.str i/\y=.str j/\Q (.bl (!(Builtin.Str.occurrences j i 0 j.length 1).isEmpty)) H):=by
 intro aA s σ H x y v u Q I rx ry h;obtain⟨i,j,rfl,rfl,q⟩:=h;obtain⟨t,rfl⟩:=rx;obtain⟨t',rfl⟩:=ry;exact in_str (Yn I q rfl)
theorem Zp (b:Expr)(h:op≠.In:=by decide)(h2:op≠.NotIn:=by decide):behindInMarks op b=false:=by
 have e1:(op==CmpOp.In)=false:=by cases op<;>first|rfl|exact absurd rfl h
 have e2:(op==CmpOp.NotIn)=false:=by cases op<;>first|rfl|exact absurd rfl h2
 cases b<;>simp[behindInMarks,e1,e2]
theorem F6 {op:CmpOp}{r:R2}(ho:OpR X (compareOp op) r)(ha:PE X a ta)(hb:PE X b tb)(hm:behindInMarks op b=false):PE X (.Compare a [op] [b] pos) (tOp r ta tb):=by
 intro aA s σ H Q I h;exact wpAny_Compare1 (Md ha hb I h λv u s2 x y H2 I2 rx ry q=>ho aA s2 σ H2 x y v u Q I2 rx ry q) hm
def tTest (t:TE):TT:=λσ H Q=>t σ H λx H'=>∃k,x=.bl k/\Q k H'
theorem zbZ {op:CmpOp}{r:R2}(ho:OpR X (compareOp op) r)(ha:PE X a ta)(hb:PE X b tb)(hm:behindInMarks op b=false):PT X (.Compare a [op] [b] pos) (tTest (tOp r ta tb)):=by
 intro aA s σ H Q I h;refine wpAny_isTrue_Compare1 (thn (ha aA s σ H _ I h) λv s1 ⟨x,H1,I1,r1,q1⟩=>thn (hb aA s1 σ H1 _ I1 q1) λu s2 ⟨y,H2,I2,r2,q2⟩=>
  thn (ho aA s2 σ H2 x y v u _ I2 r1 r2 q2) λc s3 ⟨z,H3,I3,r3,k,e,q3⟩=>?_) hm
 subst e;cases r3;exact wpAny_truthy_bool ⟨H3,I3,q3⟩
def JW (r r':R2)(ta tb tc:TE):TE:=λσ H Q=>ta σ H λx H1=>tb σ H1 λy H2=>r x y H2 λz H3=>∃k,z=.bl k/\
 (if k=true then tc σ H3 λw' H4=>r' y w' H4 Q else Q (.bl false) H3)
theorem zbV {op op':CmpOp}{r r':R2}(ho:OpR X (compareOp op) r)(ho':OpR X (compareOp op') r')(ha:PE X a ta)(hb:PE X b tb)(hc:PE X c tc)
  (hm:lastMarks [op,op'] [b,c]=false:=by with_unfolding_all rfl):PE X (.Compare a [op,op'] [b,c] pos) (JW r r' ta tb tc):=by
 intro aA s σ H Q I h;refine Compare_chain (thn (ha aA s σ H _ I h) λv s1 ⟨x,H1,I1,r1,q1⟩=>chain_link (thn (hb aA s1 σ H1 _ I1 q1) λu s2 ⟨y,H2,I2,r2,q2⟩=>
  thn (ho aA s2 σ H2 x y v u _ I2 r1 r2 q2) λd s3 ⟨z,H3,I3,r3,k,e,q3⟩=>?_)) hm
 subst e;cases r3;refine wpAny_truthy_bool ?_;cases k with
 | false=>exact ite_ff ⟨.bl false,H3,I3,rfl,q3⟩
 | true=>exact ite_tt (chain_last (thn (hc aA s3 σ H3 _ I3 q3) λw' s4 ⟨z',H4,I4,r4,q4⟩=>ho' aA s4 σ H4 y z' u w' Q I4 r2 r4 q4))
theorem TJ:(sizeLine:Nat)<2^63:=by rw[sizeLine_eq];decide
theorem zcy:OpR X (binaryOp .Add) (λx y H Q=>∃i j,x=.str i/\y=.str j/\i.length+j.length<=sizeLine/\Q (.str (i++j)) H):=by
 intro aA s σ H x y v u Q I rx ry h;obtain⟨i,j,rfl,rfl,hz,q⟩:=h;obtain⟨t,rfl⟩:=rx;obtain⟨t',rfl⟩:=ry;exact add_str (λt' tk=>⟨.str (i++j),H,I.tok _,⟨_,rfl⟩,q⟩) hz
def Gj (b:Expr):Prop:=∀o i,subscripted b false o i=operate [o,i] (getItem o i)
theorem Cc (ha:PE X a ta)(hb:PE X b tb)(hs:Gj b):
  PE X (.Subscript a b pos) (tOp (λx y H Q=>∃z i c,x=.str z/\y=.int i/\0<=i/\i<2^63/\i<z.length/\z.cps[i.toNat]?=some c/\Q (.str ⟨#[c]⟩) H) ta tb):=by
 intro aA s σ H Q I h;refine Subscript_ (Md ha hb I h λv u s2 x y H2 I2 rx ry q=>?_);obtain⟨z,i,c,rfl,rfl,h0,h63,h1,hc,q⟩:=q;obtain⟨t,rfl⟩:=rx;obtain⟨t',rfl⟩:=ry;have e:seqIndex? i z.length=some i.toNat:=PySem.StrLaws.seqIndex_nonneg h0 h1;exact tail_any (typeIs_str s2 z t) slot_str_getitem.lookup (getItem_str (c:=c) (by
  have e1:decide (i < -(2^63:Int))=false:=decide_eq_false ()
  have e2:decide (i≥2^63)=false:=decide_eq_false ();rw[e1,e2]<;>rfl) (by rw[e];exact hc) ⟨.str ⟨#[c]⟩,H2,I2.tok _,⟨_,rfl⟩,q⟩) (hs _ _)
theorem Xw (r:Zt [x] us):∃u,us=[u]/\Zm x u:=by
 cases r with
 | cons r1 r2=>cases r2;exact⟨_,rfl,r1⟩
theorem Iz (r:Zt [x,y] us):∃u w',us=[u,w']/\Zm x u/\Zm y w':=by
 cases r with
 | cons r1 r2=>
  cases r2 with
  | cons r3 r4=>cases r4;exact⟨_,_,rfl,r1,r3⟩
theorem za6:YJ X (.builtin "abs") (λxs H Q=>∃i,xs=[.int i]/\Q (.int (if i<0 then -i else i)) H):=by
 intro aA s σ H xs us Q I r h;obtain⟨i,rfl,q⟩:=h;obtain⟨u,rfl,t,rfl⟩:=Xw r;exact call_abs_int λu tk=>⟨.int (if i<0 then -i else i),H,I.tok _,⟨_,rfl⟩,q⟩
end
structure UT (h:Heap)(x dx C:Addr)(mA:Str->Option Value):Prop where
 obj:h.get? x=some (W.instObj C dx)
 ns:h.Ns1 dx mA
 ne:dx≠x
theorem zbc {h:Heap}{dx:Addr}{mA:Str->Option Value}(n:h.Ns1 dx mA):∃od,h.get? dx=some od/\∀name,W.lookIn name od=some (mA name):=by
 obtain⟨o,es,ep,ho,hd,hk,_,hm⟩:=n;refine⟨o,ho,λname=>?_⟩;have e:=hm name;unfold nsFind findBy at e;rw[<- Array.find?_toList] at e;unfold W.lookIn;rw[hd];dsimp only;split
 .rename_i y q;rw[q] at e;exact congrArg some e
 .rename_i q;rw[q] at e;have a:es.toList.any (·.refKey)=false:=by
   rw[xH];intro y hy;obtain⟨z,t,hkey⟩:=hk y (Array.mem_toList_iff.mp hy);simp[DictEntry.refKey,hkey]
  have a':¬ es.toList.any (·.refKey)=true:=by rw[a];exact zQ
  rw[if_neg a'];exact congrArg some e
theorem UT.look (I:UT h x dx C mA):∃od,W.InstAt h x (W.instObj C dx) C (some od)/\∀name,W.lookIn name od=some (mA name):=
 let ⟨od,ho,hl⟩:=zbc I.ns
 ⟨od,⟨I.obj,rfl,rfl,ho⟩,hl⟩
section
variable {prog:Program}{w:World}{A:Around}{E:Value->Shared->Prop}{s:Shared}{K:Fg}{x dx C f:Addr}{mA:Str->Option Value}{name:Str}{v:Value}
theorem AN (X:K.In s.heap)(I:UT s.heap x dx C mA)(hg:W.plainGet K C name=true)(hh:W.hasDictIn K C=true)(ha:W.findIn K (.ref C) name=some none)(hv:mA name=some v)(hv':W.handedIn v=true)(h:Q v { s with toks:=s.toks+1 }):
  wpAny (model prog w) A (getAttr (.ref x) name expr) Q E s:=by
 obtain⟨od,J,hl⟩:=I.look;exact W.get_value X J (W.plainGet_of hg).1 (W.findObj_own hh ha rfl (by rw[hl,hv])) hv' h
theorem DP (X:K.In s.heap)(I:UT s.heap x dx C mA)(hg:W.plainGet K C name=true)(hf:W.findIn K (.ref C) name=some (some (.ref f)))(ht:W.isFn K (.ref f)=true)(hv:mA name=none)(h:Q (.ref f,[.ref x]) s):
  wpAny (model prog w) A (getMethod (.ref x) name pl) Q E s:=by
 obtain⟨od,J,hl⟩:=I.look;exact W.method_fn X J (W.plainGet_of hg).1 (W.plainGet_of hg).2 hf (beq_iff_eq.mp ht) (by show (W.lookIn name od).map (·.isSome)=some false;rw[hl,hv];rfl) h
theorem E4 (X:K.In s.heap)(I:UT s.heap x dx C mA)(hs:W.findIn K (.ref C) "__setattr__"=some (some (.builtin "object.__setattr__")))(hp:W.plainOver K C=true)(ht:W.takerIn K C name=some none)(hh:W.hasDictIn K C=true)(hw:PySem.Within mA ns)(hsz:ns.length<=sizeLine)(h:∀h',UT h' x dx C (λy=>if y=name then some v else mA y)->Heap.SameBut dx s.heap h'->Q Unit.unit { s with heap:=h',toks:=s.toks+2 }):
  wpAny (model prog w) A (setAttr (.ref x) name v) Q E s:=by
 obtain⟨od,J,hl⟩:=I.look;refine W.set_plain X J hs (W.osa_open (s:={ s with toks:=s.toks+1 }) (r:=none) X J hp ht λb=>?_);obtain⟨cd,hc,hd'⟩:=W.any_some hh;have hx:s.heap.get? x=some ⟨.ref C,some dx,.plain,#[]⟩:=I.obj;refine wpAny_bind (wpAny_pure (wpAny_bind (wpAny_bind (wpAny_loadPart hx (wpAny_bind (W.Looks.here (s:={ s with toks:=s.toks+1 }) (W.looks_clsIn X hc) ?_))))));rw[hd'];refine wpAny_pure (a:=some dx) (wpAny_bind (wpAny_pure (wpAny_bind ?_)));refine wpAny_nsSet1 (s:={ s with toks:=s.toks+1 }) I.ns λh' hn2 hs2=>?_
 obtain⟨oD,esD,epD,hoD,hdD,hcD⟩:=hn2.count (PySem.Within.cons name v hw);refine wpAny_bind (wpAny_lookBehind hoD (by rw[hdD];exact pastItsLine_dict (zW hcD (by rw[zP];lia))) ?_);exact wpAny_pure (h _ ⟨(hs2.2 _ (Ne.symm I.ne)).trans I.obj,hn2,I.ne⟩ hs2)
theorem zai (X:K.In s.heap)(hm:W.makesIn K C=true)(hi:W.findIn K (.ref C) "__init__"=some (some (.ref f)))(hf:W.typeIn K (.ref f)=some (.type "function"))(h:codeAny (model prog w) (A.under (.builtin "type.__call__" ⟨.ref C::vs,kw⟩)) (.call (.ref f) ⟨.ref (s.heap.objs.size+1)::vs,kw⟩) (W.InitBack (s.heap.objs.size+1) R)
   { s with heap:=(s.heap.push W.emptyDict).push (W.instObj C s.heap.objs.size) }):
  codeAny (model prog w) A (.call (.ref C) ⟨vs,kw⟩) R s:=by
 obtain⟨hh,g,d,t,os⟩:=s;exact W.make_core (W.makes_of X hm) (W.looks_findIn X hi) (λself=>W.bind_fn X self hf) (.inl rfl) h
end
def Y7 (f:Str)(v:V):List (Str×V)->List (Str×V)
 | []=>[(f,v)]
 | (g,x)::r=>if g=f then (g,v)::r else (g,x)::Y7 f v r
theorem J7 (f g:Str)(v:V):∀fs:List (Str×V),(Y7 f v fs).lookup g=if g=f then some v else fs.lookup g
 | []=>by
  show List.lookup g [(f,v)]=_;by_cases h:g=f
  .have hb:(g==f)=true:=beq_iff_eq.mpr h;simp only[List.lookup,hb,if_pos h]
  .have hb:(g==f)=false:=beq_eq_false_iff_ne.mpr h;simp only[List.lookup,hb,if_neg h]
 | (k,x)::r=>by
  have ih:=J7 f g v r;rw[show Y7 f v ((k,x)::r)=(if k=f then (k,v)::r else (k,x)::Y7 f v r) from rfl];by_cases hk:k=f
  .rw[if_pos hk];by_cases h:g=k
   .have hb:(g==k)=true:=beq_iff_eq.mpr h;simp only[List.lookup,hb,if_pos (h.trans hk)]
   .have hb:(g==k)=false:=beq_eq_false_iff_ne.mpr h;simp only[List.lookup,hb,if_neg (λe:g=f=>h (e.trans hk.symm))]
  .rw[if_neg hk];by_cases h:g=k
   .have hb:(g==k)=true:=beq_iff_eq.mpr h;simp only[List.lookup,hb,if_neg (λe:g=f=>hk (h.symm.trans e))]
   .have hb:(g==k)=false:=beq_eq_false_iff_ne.mpr h;simp only[List.lookup,hb];exact ih
theorem Js (f:Str)(v:V):∀fs:List (Str×V),f∈(Y7 f v fs).map (·.1)/\∀g,g∈fs.map (·.1)->g∈(Y7 f v fs).map (·.1)
 | []=>⟨by simp[Y7],λg h=>by simp at h⟩
 | (k,x)::r=>by
  obtain⟨i1,i2⟩:=Js f v r;rw[show Y7 f v ((k,x)::r)=(if k=f then (k,v)::r else (k,x)::Y7 f v r) from rfl];by_cases hk:k=f
  .rw[if_pos hk];subst hk;exact⟨by simp,λg h=>by simpa using h⟩
  .rw[if_neg hk];refine⟨?_,λg h=>?_⟩
   .rw[zL];exact zO _ i1
   .rw[zL] at h ⊢;rcases zB.mp h with e|e
    .exact zB.mpr (.inl e)
    .exact zO _ (i2 g e)
theorem Fi (f:Str)(v:V):∀fs:List (Str×V),(Y7 f v fs).length<=fs.length+1
 | []=>by simp[Y7]
 | (k,x)::r=>by
  have ih:=Fi f v r;rw[show Y7 f v ((k,x)::r)=(if k=f then (k,v)::r else (k,x)::Y7 f v r) from rfl];by_cases hk:k=f
  .rw[if_pos hk,zP,zP];lia
  .rw[if_neg hk,zP,zP];lia
theorem Xz.some_of (r:Xz (some v) o):∃u,o=some u/\Zm v u:=by
 cases o with
 | none=>exact(show False from r).elim
 | some u=>exact⟨u,rfl,r⟩
theorem Xz.none_of (r:Xz none o):o=none:=by
 cases o with
 | none=>rfl
 | some u=>exact(show False from r).elim
theorem Bf (r:Zm v u):W.handedIn u=true:=by
 cases v with
 | non=>cases (show u=Value.none from r);rfl
 | bl b=>cases (show u=Value.bool b from r);rfl
 | int i=>obtain⟨t,e⟩:=(show ∃t,u=Value.int i t from r);cases e;rfl
 | str x=>obtain⟨t,e⟩:=(show ∃t,u=Value.str x t from r);cases e;rfl
 | byt b=>obtain⟨t,e⟩:=(show ∃t,u=Value.bytes b t from r);cases e;rfl
 | flt b=>obtain⟨t,e⟩:=(show ∃t,u=Value.float b t from r);cases e;rfl
 | ref a=>cases (show u=Value.ref a from r);rfl
 | ty n=>cases (show u=Value.type n from r);rfl
section
variable {P:Program}{w:World}{H H':Hp}{h h':Heap}{a C dx:Addr}{fs fs':List (Str×V)}
theorem Ny (hok:HOk P w H h)(e:H a=some (.ins C dx fs)):∃mA,UT h a dx C mA/\(∀f,Xz (fs.lookup f) (mA f))/\PySem.Within mA (fs.map (·.1))/\fs.length<=1000/\H dx=some (.own a):=by
 obtain⟨d,z,ne,ob,mA,n,r,q⟩:=(show Yw P w H h a (.ins C dx fs) from hok a _ e);exact⟨mA,⟨ob,n,ne⟩,r,q,z,d⟩
end
structure Cls (K:Fg)(C:Addr):Prop where
 pg:W.plainGet K C Str.empty=true
 hd:W.hasDictIn K C=true
 po:W.plainOver K C=true
 sa:W.findIn K (.ref C) "__setattr__"=some (some (.builtin "object.__setattr__"))
theorem Cls.get {K:Fg}{C:Addr}(c:Cls K C)(f:Str):W.plainGet K C f=true:=c.pg
def YX (K:Fg)(C:Addr)(f:Str):Prop:=W.findIn K (.ref C) f=some none
theorem YX.taker {K:Fg}{C:Addr}{f:Str}(n:YX K C f):W.takerIn K C f=some none:=by
 unfold W.takerIn;rw[show W.findIn K (.ref C) f=some none from n];rfl
structure Con (K:Fg)(C:Addr)(f:Str)(v:V)(u:Value):Prop where
 at_:W.findIn K (.ref C) f=some (some u)
 aS:Zm v u
 get:W.specialIn K u "__get__"=some none
 cp:W.copiedNames.contains f=false
structure UK (K:Fg)(C:Addr)(m:Str)(f:Addr):Prop where
 at_:W.findIn K (.ref C) m=some (some (.ref f))
 fn:W.isFn K (.ref f)=true
 kp:W.keepIn K (.ref f)=true
section
variable {X:Cx}{aA:LA}{σ:St}{H:Hp}{s:Shared}{a C dx:Addr}{fs:List (Str×V)}{f:Str}{v:V}{A:Around}{E:Value->Shared->Prop}
theorem Eo (I:Inv X aA σ H s)(e:H a=some (.ins C dx fs))(c:Cls X.K C)(n:YX X.K C f)(l:fs.lookup f=some v)(h:∀u s',Inv X aA σ H s'->Zm v u->Q u s'):wpAny (mX X) A (getAttr (.ref a) f b) Q E s:=by
 obtain⟨mA,O,r,_,_,_⟩:=Ny I.hok e;obtain⟨u,hu,ru⟩:=Xz.some_of (v:=v) (o:=mA f) (by rw[<- l];exact r f);exact AN I.kIn O (c.get f) c.hd n hu (Bf ru) (h u _ (I.tok _) ru)
theorem HR (I:Inv X aA σ H s)(e:H a=some (.ins C dx fs))(c:Cls X.K C)(k:UK X.K C m g)(l:fs.lookup m=none)(h:Q (.ref g,[.ref a]) s):wpAny (mX X) A (getMethod (.ref a) m pl) Q E s:=by
 obtain⟨mA,O,r,_,_,_⟩:=Ny I.hok e;have hn:mA m=none:=Xz.none_of (by rw[<- l];exact r m);exact DP I.kIn O (c.get m) k.at_ k.fn hn h
theorem Eg (I:Inv X aA σ H s)(e:H a=some (.ins C dx fs))(c:Cls X.K C)(n:YX X.K C f)(hl:fs.length<1000)(ry:Zm y u)(h:∀s',Inv X aA σ (upd H a (.ins C dx (Y7 f y fs))) s'->Q Unit.unit s'):wpAny (mX X) A (setAttr (.ref a) f u) Q E s:=by
 obtain⟨mA,O,r,wi,_,ho⟩:=Ny I.hok e;have hz:(fs.map (·.1)).length<=sizeLine:=by rw[zC,sizeLine_eq];lia
 refine E4 I.kIn O c.sa c.po n.taker c.hd wi hz λh' O' sb=>h _ ?_
 have hd:∃o,h'.get? dx=some o:=let ⟨o,_,_,e',_⟩:=O'.ns;⟨o,e'⟩
 refine I.write (x:=a) (e:=dx) (by rw[e];exact True.intro) (.inr ho) (λb q hb z=>(sb.2 b hb).trans z) hd ?_;refine⟨by rw[Z1 O.ne];exact ho,?_,O.ne,O'.obj,_,O'.ns,λg=>?_,λg hg=>?_⟩
 .have:=Fi f y fs;lia
 .show Xz ((Y7 f y fs).lookup g) (if g=f then some u else mA g);rw[J7];by_cases q:g=f
  .rw[if_pos q,if_pos q];exact ry
  .rw[if_neg q,if_neg q];exact r g
 .by_cases q:g=f
  .rw[q];exact(Js f y fs).1
  .refine(Js f y fs).2 g (wi g λz=>hg ?_);show (if g=f then some u else mA g)=none;rw[if_neg q];exact z
theorem Inv.made (I:Inv X aA σ H s):Inv X aA σ (upd (upd H s.heap.objs.size (.own (s.heap.objs.size+1))) (s.heap.objs.size+1) (.ins C s.heap.objs.size []))
  { s with heap:=(s.heap.push W.emptyDict).push (W.instObj C s.heap.objs.size) }:=by
 have e1:(s.heap.push W.emptyDict).get? s.heap.objs.size=some W.emptyDict:=Heap.get?_push_size s.heap rfl
 have e2:((s.heap.push W.emptyDict).push (W.instObj C s.heap.objs.size)).get? (s.heap.objs.size+1)=some (W.instObj C s.heap.objs.size):=by
  have:=Heap.get?_push_size (s.heap.push W.emptyDict) (o:=W.instObj C s.heap.objs.size) rfl
  rwa [Heap.size_push] at this
 have e3:(s.heap.push W.emptyDict).Ns s.heap.objs.size (λ_=>none):=⟨W.emptyDict,#[],_,e1,rfl,(λe he=>absurd he (by simp)),λ_=>rfl⟩
 have I1:=I.laid (a:=s.heap.objs.size) (o:=.own (s.heap.objs.size+1)) (h':=s.heap.push W.emptyDict) (t':=s.toks) (λb u q=>Heap.get?_push_of_some _ q) (zA _) ⟨_,e1⟩;refine I1.laid (a:=s.heap.objs.size+1) (o:=.ins C s.heap.objs.size []) (t':=s.toks) (λb u q=>Heap.get?_push_of_some _ q) (wD (Heap.size_push _ _)) ?_;have ne:s.heap.objs.size≠s.heap.objs.size+1:=zI (vJ _);refine⟨by rw[Z1 ne,Y1],zS _,ne,e2,λ_=>none,(Heap.Ns1.of_empty e3).at λo q=>Heap.get?_push_of_some _ q,λ_=>True.intro,λy hy=>absurd rfl hy⟩
theorem zdw (hb:attributeBase e f env (eval e env)=eval e env)(h:wpAny (model prog w) A (eval e env) (λo s₁=>wpAny (model prog w) A (getAttr o f true) Q E s₁) E s):wpAny (model prog w) A (eval (.Attribute e f pos) env) Q E s:=
 Attribute_any_ h (by rw[arm_eval_Attribute,hb])
end
def tFld (K:Fg)(ta:TE)(f:Str):TE:=λσ H Q=>ta σ H λx H1=>∃a C dx fs v,x=.ref a/\H1 a=some (.ins C dx fs)/\Cls K C/\YX K C f/\fs.lookup f=some v/\Q v H1
def sFld (K:Fg)(ta tv:TE)(f:Str):TS:=λD σ H=>tv σ H λy H1=>ta σ H1 λx H2=>∃a C dx fs,x=.ref a/\H2 a=some (.ins C dx fs)/\Cls K C/\YX K C f/\fs.length<1000/\
 D.nx σ (upd H2 a (.ins C dx (Y7 f y fs)))
def OU (X:Cx)(op:Operator)(rd:V->V->Hp->VK->Prop):Prop:=
 ∀(aA:LA)(s:Shared)(σ:St)(H:Hp)(x y:V)(u v:Value)(Q:VK),Inv X aA σ H s->Zm x u->Zm y v->rd x y H Q->wpAny (mX X) X.A (inplaceOp op u v) (EP X aA σ Q) X.xe s
def zeh (K:Fg)(ta tv:TE)(rd:V->V->Hp->VK->Prop)(f:Str):TS:=λD σ H=>ta σ H λx H1=>∃a C dx fs v,x=.ref a/\H1 a=some (.ins C dx fs)/\Cls K C/\YX K C f/\fs.lookup f=some v/\
 tv σ H1 λy H2=>rd v y H2 λz H3=>∃dx' fs',H3 a=some (.ins C dx' fs')/\fs'.length<1000/\D.nx σ (upd H3 a (.ins C dx' (Y7 f z fs')))
section
variable {X:Cx}{o e value:Expr}{f:Str}{pos pos' tpos:Pos}{ta tv:TE}
theorem zdb (he:PE X e ta)(hb:attributeBase e f X.env (eval e X.env)=eval e X.env):PE X (.Attribute e f pos) (tFld X.K ta f):=by
 intro aA s σ H Q I h;refine zdw hb (thn (he aA s σ H _ I h) λu s1 ⟨x,H1,I1,rx,a,C,dx,fs,v,ex,ea,c,n,l,q⟩=>?_);subst ex;obtain rfl:u=Value.ref a:=rx;exact Eo I1 ea c n l λu' s2 I2 ru=>⟨v,H1,I2,ru,q⟩
theorem zae (ha:PE X o ta)(hv:PE X value tv)(hs:swapsWith value (some (.Attribute o f pos')) pos.line X.env=pure false):PS X (.Assign [.Attribute o f pos'] value pos) (sFld X.K ta tv f):=by
 intro aA s σ H D I h;refine plainObj_wpAny_Assign_Attribute (thn (hv aA s σ H _ I h) λu s1 ⟨y,H1,I1,ry,q⟩=>thn (ha aA s1 σ H1 _ I1 q) λov s2 ⟨x,H2,I2,rx,a,C,dx,fs,ex,ea,c,n,l,q2⟩=>?_) hs;subst ex;obtain rfl:ov=Value.ref a:=rx;exact Eg I2 ea c n l ry λs3 I3=>⟨σ,_,I3,q2⟩
theorem E6 (ha:PE X o ta)(hv:PE X value tv)(hop:OU X op rd):PS X (.AugAssign (.Attribute o f tpos) op value pos) (zeh X.K ta tv rd f):=by
 intro aA s σ H D I h;refine wpAny_AugAssign_AttributeAny (thn (ha aA s σ H _ I h) λov s1 ⟨x,H1,I1,rx,a,C,dx,fs,v,ex,ea,c,n,l,q⟩=>?_);subst ex;obtain rfl:ov=Value.ref a:=rx;refine Eo I1 ea c n l λu s2 I2 ru=>thn (hv aA s2 σ H1 _ I2 q) λw3 s3 ⟨y,H2,I3,ry,q3⟩=>thn (hop aA s3 σ H2 v y u w3 _ I3 ru ry q3) λw4 s4 ⟨z,H3,I4,rz,dx',fs',ea',l',q4⟩=>?_
 exact Eg I4 ea' c n l' rz λs5 I5=>⟨σ,_,I5,q4⟩
def rAdd:V->V->Hp->VK->Prop:=λx y H Q=>∃i j,x=.int i/\y=.int j/\Q (.int (i+j)) H
def rSub:V->V->Hp->VK->Prop:=λx y H Q=>∃i j,x=.int i/\y=.int j/\Q (.int (i-j)) H
theorem B4:OU X .Add rAdd:=by
 rintro aA s σ H x y u v Q I rx ry ⟨i,j,rfl,rfl,q⟩;obtain⟨t,rfl⟩:=(show ∃t,u=Value.int i t from rx);obtain⟨t',rfl⟩:=(show ∃t',v=Value.int j t' from ry);exact PyProof.Rows.iadd_int ⟨.int (i+j),H,I.tok _,⟨_,rfl⟩,q⟩
theorem CK:OU X .Sub rSub:=by
 rintro aA s σ H x y u v Q I rx ry ⟨i,j,rfl,rfl,q⟩;obtain⟨t,rfl⟩:=(show ∃t,u=Value.int i t from rx);obtain⟨t',rfl⟩:=(show ∃t',v=Value.int j t' from ry);exact PyProof.Rows.isub_int ⟨.int (i-j),H,I.tok _,⟨_,rfl⟩,q⟩
end
section
variable {X:Cx}{aA:LA}{σ:St}{H:Hp}{s:Shared}{A:Around}{E:Value->Shared->Prop}{Q:Value->Shared->Prop}{c:Value}{b:Bool}
inductive Wm (K:Fg)(H:Hp):V->Value->Prop where
 | non:Wm K H .non (.type "NoneType")
 | bl (x:Bool):Wm K H (.bl x) (.type "bool")
 | int (i:Int):Wm K H (.int i) (.type "int")
 | str (x:Str):Wm K H (.str x) (.type "str")
 | flt (x:UInt64):Wm K H (.flt x) (.type "float")
 | lst {a:Addr} {xs:List V} (e:H a=some (.lst xs)):Wm K H (.ref a) (.type "list")
 | frz {a:Addr} {o:Obj} {xs:List V} (e:H a=some (.frz o (.lst xs))):Wm K H (.ref a) (.type "list")
 | tup {a:Addr} {xs:List V} (e:H a=some (.tup xs)):Wm K H (.ref a) (.type "tuple")
 | dK {a:Addr} {kvs:List (Key×V)} (e:H a=some (.dK kvs)):Wm K H (.ref a) (.type "dict")
 | dT {a:Addr} {kvs:List (List Key×V)} (e:H a=some (.dT kvs)):Wm K H (.ref a) (.type "dict")
 | ins {a C dx:Addr} {fs:List (Str×V)} (e:H a=some (.ins C dx fs)) (cl:Cls K C) (ha:W.findIn K (.ref C) "__class__"=some (some (.builtin "object.__class__")))
   (hn:W.specialIn K (.builtin "object.__class__") "__get__"=some (some (.builtin "getset_descriptor.__get__"))) (htk:W.takesIn K (.builtin "object.__class__")=some true)
   (hm:W.mroIn K C (.type "object")=some true):Wm K H (.ref a) (.ref C)
theorem B6 (I:Inv X aA σ H s)(rx:Zm x u)(ty:Wm X.K H x t)(e:W.kitOne X.K t c=some b)(h:∀tk,Q (.bool b) { s with toks:=tk }):
  wpAny (mX X) A (call (.builtin "isinstance") [u,c]) Q E s:=by
 cases ty with
 | non=>cases (show u=Value.none from rx);exact W.kia_one W.kitx_none I.kIn True.intro e (λz=>nomatch z) h
 | bl y=>cases (show u=Value.bool y from rx);exact W.kia_one W.kitx_bool I.kIn True.intro e (λz=>nomatch z) h
 | int i=>obtain⟨t,q⟩:=(show ∃t,u=Value.int i t from rx);cases q;exact W.kia_one W.kitx_int I.kIn True.intro e (λz=>nomatch z) h
 | str y=>obtain⟨t,q⟩:=(show ∃t,u=Value.str y t from rx);cases q;exact W.kia_one W.kitx_str I.kIn True.intro e (λz=>nomatch z) h
 | flt y=>obtain⟨t,q⟩:=(show ∃t,u=Value.float y t from rx);cases q;exact W.kia_one W.kitx_float I.kIn True.intro e (λz=>nomatch z) h
 | @lst a xs ea=>
  cases (show u=Value.ref a from rx);obtain⟨_,_,n,_,h1⟩:=(show Yw X.prog X.w H s.heap a (.lst xs) from I.hok a _ ea);exact W.kia_one W.kitx_list I.kIn ⟨_,h1,rfl⟩ e (λz=>nomatch z) h
 | @frz a ob xs ea=>
  cases (show u=Value.ref a from rx);obtain⟨_,_,_,n,_,h1⟩:=(show Yw X.prog X.w H s.heap a (.frz ob (.lst xs)) from I.hok a _ ea);exact W.kia_one W.kitx_list I.kIn ⟨_,h1,rfl⟩ e (λz=>nomatch z) h
 | @tup a xs ea=>
  cases (show u=Value.ref a from rx);obtain⟨_,_,_,p⟩:=(show Yw X.prog X.w H s.heap a (.tup xs) from I.hok a _ ea);obtain⟨o,h1,h2,_⟩:=p;exact W.kia_one W.kitx_tuple I.kIn ⟨o,h1,h2⟩ e (λz=>nomatch z) h
 | @dK a kvs ea=>
  cases (show u=Value.ref a from rx);obtain⟨_,_,vs,_,p⟩:=(show Yw X.prog X.w H s.heap a (.dK kvs) from I.hok a _ ea);obtain⟨o,es,ep,h1,h2,_⟩:=p;exact W.kia_one W.kitx_dict I.kIn ⟨o,h1,h2.1⟩ e (λz=>nomatch z) h
 | @dT a kvs ea=>
  cases (show u=Value.ref a from rx);obtain⟨_,_,xs,_,o,es,ep,h1,h2,_⟩:=(show Yw X.prog X.w H s.heap a (.dT kvs) from I.hok a _ ea);exact W.kia_one W.kitx_dict I.kIn ⟨o,h1,h2.1⟩ e (λz=>nomatch z) h
 | @ins a C dx fs ea cl ha hn htk hm=>
  cases (show u=Value.ref a from rx);obtain⟨mA,O,_⟩:=Ny I.hok ea;obtain⟨od,J,_⟩:=O.look;exact W.kia_one (W.kitx_own (cl.get _) cl.hd ha hn htk hm) I.kIn J e (λz=>nomatch z) h
end
structure ZG (k:Nat)(A:Around):Prop where
 hd:A.handled=none
 dp:A.depth+3*k+5<recursionLimit
 un:A.units+16*k+200<cLine
theorem ZG.mono {j k:Nat}{A:Around}(r:ZG k A)(h:j<=k):ZG j A:=⟨r.hd,by have:=r.dp;lia,by have:=r.un;lia⟩
theorem ZG.deeper {k:Nat}{A:Around}(r:ZG (k+1) A)(env:Env):ZG k (A.deeper env):=
 ⟨r.hd,by have:=r.dp;show A.depth+1+3*k+5<_;lia,by have:=r.un;show A.units+3+16*k+200<_;lia⟩
theorem zbv {A:Around}{C:Addr}{us:List Value}{kw:List (Str×Value)}:(A.under (.builtin "type.__call__" ⟨.ref C::us,kw⟩)).depth=A.depth+1:=by
 first|rfl|simp[Around.under,Code.weight,Code.isCreation,Code.isGuard,Code.isCaller,Code.frames,Code.isFrame,guardIds]
theorem DI {A:Around}{C:Addr}{us:List Value}{kw:List (Str×Value)}:(A.under (.builtin "type.__call__" ⟨.ref C::us,kw⟩)).units=A.units+1:=by
 first|rfl|simp[Around.under,Code.cUnits,Code.frames,Code.isFrame]
theorem ZG.make {k:Nat}{A:Around}(r:ZG (k+1) A)(C:Addr)(us:List Value)(kw:List (Str×Value)):ZG k (A.under (.builtin "type.__call__" ⟨.ref C::us,kw⟩)):=
 ⟨r.hd,by have:=r.dp;rw[zbv];lia,by have:=r.un;rw[DI];lia⟩
theorem ZG.depth {k:Nat}{A:Around}(r:ZG k A):A.depth<recursionLimit:=by have:=r.dp;lia
theorem ZG.units (r:ZG k A):A.units+64<cLine:=by have:=r.un;lia
def tNil:TA:=λ_ H Q=>Q [] H
def tCons (ta:TE)(tr:TA):TA:=λσ H Q=>ta σ H λx H1=>tr σ H1 λxs H2=>Q (x::xs) H2
section
variable {X:Cx}{e:Expr}{es:List Expr}{te:TE}{t:TA}{pos:Pos}
theorem UB:PA X [] tNil:=λ_ _ _ _ H Q I h=>Calls.spliced_nil ⟨[],H,I,.nil,h⟩
theorem Vf (ha:PE X e te)(hr:PA X es t)(hs:starEach (e::es) X.env=(false,eval e X.env)::starEach es X.env:=by rfl):PA X (e::es) (tCons te t):=by
 intro pos aA s σ H Q I h;rw[hs];show wpAny _ _ (spliced ((false,eval e X.env)::backTo pos (starEach es X.env))) _ _ s;refine Calls.spliced_cons (thn (ha aA s σ H _ I h) λu s1 ⟨x,H1,I1,r1,q1⟩=>?_);exact thn (hr pos aA s1 σ H1 _ I1 q1) λus s2 ⟨xs,H2,I2,r2,q2⟩=>⟨x::xs,H2,I2,.cons r1 r2,q2⟩
def tTup (t:TA):TE:=λσ H Q=>t σ H λxs H1=>xs.length<=sizeLine/\∀p,H1 p=none->Q (.ref p) (upd H1 p (.tup xs))
def tLst (t:TA):TE:=λσ H Q=>t σ H λxs H1=>xs.length<=sizeLine/\∀p,H1 p=none->Q (.ref p) (upd H1 p (.lst xs))
theorem za5 {x1}(h:PA X es t):PE X (.Tuple es x1 pos) (tTup t):=by
 intro aA s σ H Q I hq;refine wpAny_Tuple_spliced (thn (h pos aA s σ H _ I hq) λus s1 ⟨xs,H1,I1,r,z,q⟩=>⟨by rw[<- r.length];exact z,?_⟩);have hf:H1 s1.heap.objs.size=none:=I1.hok.fresh (zA _);refine⟨.ref s1.heap.objs.size,upd H1 s1.heap.objs.size (.tup xs),I1.laid (t':=s1.toks) (λb u e=>Heap.get?_push_of_some _ e) (zA _) ?_,rfl,q _ hf⟩;exact⟨z,us,r,⟨_,Heap.get?_push_size _ rfl,rfl,_,rfl⟩⟩
theorem zdt (h:PA X es t):PE X (.List es pos) (tLst t):=by
 intro aA s σ H Q I hq;refine wpAny_List_spliced (thn (h pos aA s σ H _ I hq) λus s1 ⟨xs,H1,I1,r,z,q⟩=>⟨by rw[<- r.length];exact z,?_⟩);have hf:H1 s1.heap.objs.size=none:=I1.hok.fresh (zA _);refine⟨.ref s1.heap.objs.size,upd H1 s1.heap.objs.size (.lst xs),I1.laid (t':=s1.toks) (λb u e=>Heap.get?_push_of_some _ e) (zA _) ?_,rfl,q _ hf⟩;exact⟨z,us,0,r,Heap.get?_push_size _ rfl⟩
end
abbrev Sp:=List V->Hp->VK->XK->Prop
abbrev CXT:=List Env->Hp->Shared->XK->Value->Shared->Prop
structure VR (P:Program)(w:World)(K:Fg)(mg:Str->Option Value)(base:Heap)(A:Around)(outer:List Env)(s:Shared)(H:Hp):Prop where
 frames:A.frames=some outer
 mod:Mod K mg base
 bs:∀b o,base.get? b=some o->s.heap.get? b=some o/\H b=none
 bsz:base.objs.size<=s.heap.objs.size
 funs:s.heap.FunFrames base outer
 frf:∀b∈frs outer,H b=none
 hok:HOk P w H s.heap
 bare:AllBare s.gens
def CE (outer:List Env)(P:Program)(w:World)(H:Hp)(s:Shared)(Q:VK)(u:Value)(s':Shared):Prop:=
 ∃v H',s'.os=s.os/\AllBare s'.gens/\Un (frs outer) [] H H' s.heap s'.heap/\HOk P w H' s'.heap/\Zm v u/\Q v H'
def CR (CX:CXT)(outer:List Env)(P:Program)(w:World)(H:Hp)(s:Shared)(Q:VK)(E:XK)(r:Result)(s':Shared):Prop:=
 match r with
 | .ok (.ret u)=>CE outer P w H s Q u s'
 | .ok _=>False
 | .error e=>CX outer H s E e s'
structure Yj (P:Program)(w:World)(K:Fg)(mg:Str->Option Value)(base:Heap)(CX:CXT)(k:Nat)(f:Addr)(fd:FuncData)(ps:List Str)(sp:Sp):Prop where
 len:∀vs H Q E,sp vs H Q E->vs.length=ps.length
 run:∀(A:Around)(outer:List Env)(s:Shared)(H:Hp)(args:Args)(us:List Value)(vs:List V)(Q:VK)(E:XK),ZG k A->VR P w K mg base A outer s H->BindsTo s fd args (ps.zip us)->Zt vs us->sp vs H Q E->
  codeAny (model P w) A (.call (.ref f) args) (CR CX outer P w H s Q E) s
theorem Yj.mono {P:Program}{w:World}{K:Fg}{mg:Str->Option Value}{base:Heap}{CX:CXT}{j k:Nat}{f:Addr}{fd:FuncData}{ps:List Str}{sp:Sp}(F:Yj P w K mg base CX j f fd ps sp)(h:j<=k):
  Yj P w K mg base CX k f fd ps sp:=⟨F.len,λA outer s H args us vs Q E hr=>F.run A outer s H args us vs Q E (hr.mono h)⟩
theorem VR.make {P:Program}{w:World}{K:Fg}{mg:Str->Option Value}{base:Heap}{A:Around}{outer:List Env}{s:Shared}{H:Hp}(e:VR P w K mg base A outer s H)(C:Addr)(us:List Value)(kw:List (Str×Value)):
  VR P w K mg base (A.under (.builtin "type.__call__" ⟨.ref C::us,kw⟩)) outer s H:=⟨by first|exact e.frames|(simpa [Around.under,Code.envs,Code.isFrame,pushEnvs] using e.frames),e.mod,e.bs,e.bsz,e.funs,e.frf,e.hok,e.bare⟩
section
variable {X:Cx}{aA:LA}{σ:St}{H:Hp}{s s':Shared}
theorem Inv.env0 (I:Inv X aA σ H s):VR X.prog X.w X.K X.mg X.base X.A X.stack s H:=
 ⟨I.ok.frames,I.ok.mod,I.bs,zW I.ok.bsz I.sz,I.stack,I.stkFree,I.hok,I.bare⟩
theorem Inv.after (I:Inv X aA σ H s)(h:CE X.stack X.prog X.w H s Q u s'):EP X aA σ Q u s':=by
 obtain⟨v,H',os,bare,un,hok,r,q⟩:=h;obtain⟨hh,g,d,t,os'⟩:=s';obtain rfl:os'=s.os:=os;exact⟨v,H',I.call (h':=hh) (g':=g) (d':=d) (t':=t) (ch:=[]) un hok bare (λb z=>absurd z (by simp)),r,q⟩
end
def JP (C:Addr)(sp:Sp)(dvs:List V)(E:XK)(t:TA):TE:=λσ H Q=>t σ H λvs H1=>∀x dx,H1 x=none->H1 dx=none->dx≠x->
 sp (.ref x::(vs++dvs)) (upd (upd H1 dx (.own x)) x (.ins C dx [])) (λv H2=>v=.non/\Q (.ref x) H2) E
def Y5 (K:Fg)(fd:FuncData)(ps:List Str)(ds:List Value):Prop:=
 ∀(s:Shared)(us:List Value),K.In s.heap->(us++ds).length=ps.length->BindsTo s fd ⟨us,[]⟩ (ps.zip (us++ds))
theorem Y5.all {K:Fg}{fd:FuncData}{ps:List Str}(h:∀us:List Value,us.length=ps.length->bindArgs fd ⟨us,[]⟩=pure (ps.zip us)):Y5 K fd ps []:=λs us _ hl=>by
 rw[yE] at hl ⊢;exact .of_eq (h us hl)
def U2 (CX:CXT)(X:Cx)(E:XK):Prop:=∀(aA:LA)(σ:St)(H:Hp)(s:Shared)(e:Value)(s':Shared),Inv X aA σ H s->CX X.stack H s E e s'->X.xe e s'
section
variable {X:Cx}{CX:CXT}{k:Nat}{f C:Addr}{fd:FuncData}{ps:List Str}{sp:Sp}{dvs:List V}{ds:List Value}{E:XK}{x m:Str}{p pos aI:Pos}{e o:Expr}{es:List Expr}{ta:TE}{t:TA}
structure Mk (K:Fg)(C f:Addr):Prop where
 makes:W.makesIn K C=true
 init:W.findIn K (.ref C) "__init__"=some (some (.ref f))
 fn:W.isFn K (.ref f)=true
 kp:W.keepIn K (.ref C)=true
theorem Fq (M:Mk X.K C f)(F:Yj X.prog X.w X.K X.mg X.base CX k f fd ps sp)(hr:ZG (k+1) X.A)(hb:Y5 X.K fd ps ds)(hd:Zt dvs ds)(hx:U2 CX X E)(I:Inv X aA σ H s)(r:Zt vs us)(h:∀x dx,H x=none->H dx=none->dx≠x->sp (.ref x::(vs++dvs)) (upd (upd H dx (.own x)) x (.ins C dx [])) (λv H2=>v=.non/\Q (.ref x) H2) E):
  wpAny (mX X) X.A (call (.ref C) us) (EP X aA σ Q) X.xe s:=by
 have hq:=h (s.heap.objs.size+1) s.heap.objs.size (I.hok.fresh (xI _)) (I.hok.fresh (zA _)) (zI (vJ _))
 have I2:=Inv.made (C:=C) I
 have r2:Zt (V.ref (s.heap.objs.size+1)::(vs++dvs)) (Value.ref (s.heap.objs.size+1)::(us++ds)):=.cons rfl (r.append hd)
 have hl:(Value.ref (s.heap.objs.size+1)::us++ds).length=ps.length:=by
  have e:=r2.length;rw[F.len _ _ _ _ hq] at e;exact e.symm
 refine wpAny_call (zai (f:=f) I.kIn M.makes M.init (beq_iff_eq.mp M.fn) (codeAny_mono (F.run _ X.stack _ _ ⟨Value.ref (s.heap.objs.size+1)::us,[]⟩ (Value.ref (s.heap.objs.size+1)::(us++ds)) _ _ E (hr.make C us [])
  (I2.env0.make C us []) (hb _ (Value.ref (s.heap.objs.size+1)::us) I2.kIn hl) r2 hq) λr s' hq'=>?_))
 cases r with
 | error e=>exact hx aA σ _ _ e s' I2 hq'
 | ok fl=>
  cases fl with
  | ret u=>
   obtain⟨v,H',I3,rv,ev,q3⟩:=I2.after hq';subst ev;exact⟨rv,⟨V.ref (s.heap.objs.size+1),H',I3,rfl,q3⟩⟩
  | next=>exact False.elim hq'
  | brk=>exact False.elim hq'
  | cont=>exact False.elim hq'
theorem CB (M:Mk X.K C f)(F:Yj X.prog X.w X.K X.mg X.base CX k f fd ps sp)(hr:ZG (k+1) X.A)(hg:Gl X x)(hm:X.mg x=some (.ref C))(hb:Y5 X.K fd ps ds)(hd:Zt dvs ds)(hx:U2 CX X E)
  (ha:PA X (e::es) t)(hdb:(x==("__debug__":Str))=false:=by decide)(he:He X e es:=by rfl)(hpl:Hp1 X pos es:=by rfl):
  PE X (.Call (.Name x p) (e::es) [] pos) (JP C sp dvs E t):=by
 intro aA s σ H Q I h;refine wpAny_Call_Name_kw (UM I hg hm ?_ hdb);refine W.callWith_K (h₀:=X.base) I.ok.mod.kin M.kp (thn (ha pos aA s σ H _ I h) λus s1 ⟨vs,H1,I1,r,q⟩=>⟨I1.kIn,?_⟩) he hpl;exact Fq M F hr hb hd hx I1 r q
theorem zdX (M:Mk X.K C f)(F:Yj X.prog X.w X.K X.mg X.base CX k f fd ps sp)(hr:ZG (k+1) X.A)(hg:Gl X x)(hm:X.mg x=some (.ref C))(hb:Y5 X.K fd ps ds)(hd:Zt dvs ds)(hx:U2 CX X E)
  (hdb:(x==("__debug__":Str))=false:=by decide):PE X (.Call (.Name x p) [] [] pos) (JP C sp dvs E tNil):=by
 intro aA s σ H Q I h;refine wpAny_Call_Name_kw (UM I hg hm ?_ hdb);exact W.callWith_K0 I.kIn M.kp (Fq (us:=[]) M F hr hb hd hx I .nil h)
end
section
variable {X:Cx}{CX:CXT}{k:Nat}{f C:Addr}{fd:FuncData}{ps ks:List Str}{sp:Sp}{E:XK}{x m:Str}{p pos aI kpos:Pos}{e o:Expr}{es:List Expr}{kws:List Keyword}{te ta:TE}{t tk:TA}{nm:Option Str}
structure KBinds (K:Fg)(fd:FuncData)(ps ks:List Str)(g:List Value->List Value->List Value)(gV:List V->List V->List V):Prop where
 to:∀(s:Shared)(us ws:List Value),K.In s.heap->(g us ws).length=ps.length->BindsTo s fd ⟨us,ks.zip ws⟩ (ps.zip (g us ws))
 aS:∀ {vs:List V} {us:List Value} {zs:List V} {ws:List Value},Zt vs us->Zt zs ws->Zt (gV vs zs) (g us ws)
variable {g:List Value->List Value->List Value}{gV:List V->List V->List V}
end
structure ZE (N P:List Str)(sc:Scope):Prop where
 kind:sc.kind=.function
 co:sc.isCoroutine=false
 gen:sc.isGenerator=false
 nd:N.Nodup
 pre:N.take P.length=P
 par:∀x∈P,sc.names.lookup x=some .local\/sc.names.lookup x=some .cell
 nofree:∀y∈sc.names,y.2≠.free
theorem Ew {kindOf:Str->Option NameKind}{x:Str}:∀ {binds:List (Str×Value)} {m:Str->Option Value},(∀v,(x,v) ∉ binds)->bindL kindOf binds m x=m x
 | [],_,_=>rfl
 | (n,v)::r,m,h=>by
  unfold bindL;rw[Ew λw hw=>h w (zO _ hw)];split
  .have:x≠n:=by rintro rfl;exact h v zV
   simp[this]
  .rfl
theorem Ig {kindOf:Str->Option NameKind}{x:Str}:∀ {binds:List (Str×Value)} {m:Str->Option Value},(∀v,(x,v) ∉ binds)->bindC kindOf binds m x=m x
 | [],_,_=>rfl
 | (n,v)::r,m,h=>by
  unfold bindC;rw[Ig λw hw=>h w (zO _ hw)];split
  .rfl
  .have:x≠n:=by rintro rfl;exact h v zV
   simp[this]
theorem F8 {kindOf:Str->Option NameKind}{x:Str}{v:Value}:∀ {P:List Str} {vs:List Value} {i:Nat} {m:Str->Option Value},P.Nodup->P[i]?=some x->vs[i]?=some v->kindOf x=some .local->
  bindL kindOf (P.zip vs) m x=some v
 | [],_,_,_,_,h,_,_=>by simp at h
 | _::_,[],_,_,_,_,h,_=>by simp at h
 | p::P,w::vs,0,m,nd,h1,h2,hk=>by
  simp at h1 h2;subst h1;subst h2
  show bindL kindOf ((p,w)::P.zip vs) m p=_;unfold bindL;rw[Ew λv hv=>(yJ.mp nd).1 (wF hv).1,if_pos hk];simp
 | p::P,w::vs,i+1,m,nd,h1,h2,hk=>by
  show bindL kindOf ((p,w)::P.zip vs) m x=_;unfold bindL;exact F8 (i:=i) (yJ.mp nd).2 (by simpa using h1) (by simpa using h2) hk
theorem JS {kindOf:Str->Option NameKind}{x:Str}{v:Value}:∀ {P:List Str} {vs:List Value} {i:Nat} {m:Str->Option Value},P.Nodup->P[i]?=some x->vs[i]?=some v->kindOf x≠some .local->
  bindC kindOf (P.zip vs) m x=some v
 | [],_,_,_,_,h,_,_=>by simp at h
 | _::_,[],_,_,_,_,h,_=>by simp at h
 | p::P,w::vs,0,m,nd,h1,h2,hk=>by
  simp at h1 h2;subst h1;subst h2
  show bindC kindOf ((p,w)::P.zip vs) m p=_;unfold bindC;rw[Ig λv hv=>(yJ.mp nd).1 (wF hv).1,if_neg hk];simp
 | p::P,w::vs,i+1,m,nd,h1,h2,hk=>by
  show bindC kindOf ((p,w)::P.zip vs) m x=_;unfold bindC;exact JS (i:=i) (yJ.mp nd).2 (by simpa using h1) (by simpa using h2) hk
def WQ (N:List Str)(vs:List V):St:=vs.map some++List.replicate (N.length-vs.length) none
def YM (CX:CXT)(P:Program)(w:World)(K:Fg)(mg:Str->Option Value)(base:Heap)(N:List Str)(aG:Str)(scope:Scope)(f:Addr)(cd:Value)(A:Around)(outer:List Env)(s:Shared)(H:Hp)(E:XK):Cx where
 prog:=P
 w:=w
 K:=K
 mg:=mg
 base:=base
 A:=A.deeper (envOfC aG scope s.heap.objs.size f cd)
 N:=N
 s₀:=s
 H₀:=H
 env:=envOfC aG scope s.heap.objs.size f cd
 outer:=outer
 stack:=envOfC aG scope s.heap.objs.size f cd::outer
 ex:=[]
 calm:=true
 fn:=λ_=>true
 pn:=[]
 xe:=λe s'=>wpAny (model P w) (A.deeper (envOfC aG scope s.heap.objs.size f cd)) (leaving (envOfC aG scope s.heap.objs.size f cd) e) (λ_ s''=>CX outer H s E e s'') (λe' s''=>CX outer H s E e' s'') s'
theorem Ep {sc:Scope}{n:Nat}{x:Str}(h:sc.names.lookup x=some .cell):∃c,(cellsFrom n sc.names []).lookup x=some c:=by
 have q:=W.cellsFrom_some sc.names n [] (.inl h);exact yV.mp q
theorem Bg {CX:CXT}{P:Program}{w:World}{K:Fg}{mg:Str->Option Value}{base:Heap}{N ps:List Str}{aG:Str}{scope:Scope}{f:Addr}{cd:Value}{A:Around}{outer:List Env}{s s1:Shared}{H:Hp}{E:XK}{us:List Value}{vs:List V}
  (S:ZE N ps scope)(hd:A.handled=none)(e0:VR P w K mg base A outer s H)(hl:vs.length=ps.length)(r:Zt vs us)
  (x:InCallC s s.heap.objs.size (bindL (envOfC aG scope s.heap.objs.size f cd).kindOf (ps.zip us) λ_=>none) (cellsFrom (s.heap.objs.size+1) scope.names []) (bindC (envOfC aG scope s.heap.objs.size f cd).kindOf (ps.zip us) λ_=>none) s1):
  Inv (YM CX P w K mg base N aG scope f cd A outer s H E) [] (WQ N vs) H s1:=by
 have hpl:ps.length<=N.length:=by have:=congrArg List.length S.pre;rw[xJ] at this;lia
 obtain⟨h1,tk,rfl,hk⟩:=x.done;have noA:∀b:Addr,b ∉ (YM CX P w K mg base N aG scope f cd A outer s H E).ex:=λb z=>absurd (show b∈([]:List Addr) from z) (by simp)
 refine⟨⟨e0.mod,S.kind,rfl,rfl,zA _,λy z c h1 h2=>?_,λy hy=>?_,λy c _ h=>?_,λ_=>hd,Around.frames_deeper e0.frames,.inr ⟨rfl,rfl⟩,λb z=>absurd z (noA b),e0.bs,e0.bsz,λb _ _=>noA b,λb z=>absurd z (noA b),e0.funs,e0.frf⟩,
  rfl,e0.bare,Un.kept hk,⟨_,x.toInCall.ns,λi y v h1 h2 h3=>?_⟩,λy c h=>⟨_,x.cell y c h⟩,e0.hok.fresh (zA _),λy c h=>?_,λp hp=>absurd (show p∈([]:LA) from hp) (by simp),e0.hok.kept hk,?_⟩
 .exact name_of_addr x.apart (PySem.mem_of_lookup h1) (PySem.mem_of_lookup h2)
 .have hy:scope.names.lookup y=some .cell\/scope.names.lookup y=some .free:=hy;rcases hy with hy|hy
  .exact Ep hy
  .exact absurd rfl (S.nofree _ (PySem.mem_of_lookup hy))
 .exact yF (x.above y c (PySem.mem_of_lookup h))
 .have hi:i<vs.length:=by
   unfold WQ at h2;by_cases hi:i<vs.length
   .exact hi
   .rw[yC (by simpa using hi)] at h2;rw[wG] at h2;split at h2<;>cases h2
  have ha:vs[i]?=some v:=by
   unfold WQ at h2;rw[zY (by simpa using hi),zR] at h2;cases e:vs[i]? with
   | none=>rw[e] at h2;cases h2
   | some a=>rw[e] at h2;cases h2;rfl
  obtain⟨u,hu,rv⟩:=r.get ha;have hp:ps[i]?=some y:=by
   rw[<- S.pre,List.getElem?_take_of_lt ()];exact h1
  have ndP:ps.Nodup:=by rw[<- S.pre];exact S.nd.sublist (List.take_sublist _ _)
  refine⟨u,rv,?_⟩;rcases S.par y (zT hp) with k|k
  .exact .inl ⟨k,F8 ndP hp hu k⟩
  .obtain⟨c,e⟩:=Ep (n:=s.heap.objs.size+1) k;refine .inr ⟨.inl k,c,e,?_⟩;have q:=x.cell y c e;rw[JS ndP hp hu (by show scope.names.lookup y≠_;rw[k];decide)] at q;exact q
 .exact e0.hok.fresh (yF (x.above y c (PySem.mem_of_lookup h)))
 .unfold WQ;show _=N.length;rw[zF,zC,wH];lia
theorem Jj {CX:CXT}{P:Program}{w:World}{K:Fg}{mg:Str->Option Value}{base:Heap}{k:Nat}{f:Addr}{name aG:Str}{params:Arguments}{body:List Stmt}{scope:Scope}{dV kV doc pm cdv ct oc:Value}{an od:Option Addr}
  {osl:Array (Option Value)}{N ps:List Str}{sp:Sp}(lk:K.lookup f=some ⟨oc,od,.func (W.fnOf name aG params body scope dV kV doc pm an cdv ct),osl⟩)(hcd:W.codeIn K cdv aG=true)(S:ZE N ps scope)
  (len:∀vs H Q E,sp vs H Q E->vs.length=ps.length)
  (hbody:∀(A:Around)(outer:List Env)(s:Shared)(H:Hp)(vs:List V)(Q:VK)(E:XK),ZG k (A.deeper (envOfC aG scope s.heap.objs.size f cdv))->sp vs H Q E->
   ∃t,PSs (YM CX P w K mg base N aG scope f cdv A outer s H E) body t/\t { nx:=λ_ H'=>Q .non H',rt:=Q } (WQ N vs) H):
  Yj P w K mg base CX (k+1) f (W.fnOf name aG params body scope dV kV doc pm an cdv ct) ps sp:=by
 refine⟨len,λA outer s H args us vs Q E hr e0 hb r hsp=>?_⟩;have hl:=len _ _ _ _ hsp
 have KX:K.In s.heap:=e0.mod.kin.keeps λb o e=>(e0.bs b o e).1
 have lim:s.heap.NoLimit:=e0.mod.nolimit.keeps λb o e=>(e0.bs b o e).1
 have hkind:∀y∈ps.zip us,scope.names.lookup y.1=some .local\/(scope.names.lookup y.1=some .cell/\((cellsFrom (s.heap.objs.size+1) scope.names []).lookup y.1).isSome=true):=λ⟨n,v⟩ hy=>by
  rcases S.par n (wF hy).1 with q|q
  .exact .inl q
  .exact .inr ⟨q,W.cellsFrom_some _ _ _ (.inl q)⟩
 refine codeAny_call_function hr.depth (KX _ _ lk) rfl S.co S.gen rfl (W.codeRec_of KX hcd) (hb _ _ _ _ ?_);refine wpAny_newFunctionEnv_cells S.kind hkind λenv he s1 x=>?_
 subst he;refine⟨lim.keeps x.toInCall.keep,codeAny_func ?_⟩;obtain⟨t,ht,hq⟩:=hbody A outer s H vs Q E (hr.deeper _) hsp;have I:Inv (YM CX P w K mg base N aG scope f cdv A outer s H E) [] (WQ N vs) H s1:=Bg S hr.hd e0 hl r x;refine wpAny_mono (ht [] s1 (WQ N vs) H _ I hq) (λfl s' hs=>?_) λe s' hs=>hs
 have aR:∀ {σ':St} {H':Hp} {v:V} {u:Value},Inv (YM CX P w K mg base N aG scope f cdv A outer s H E) [] σ' H' s'->Zm v u->Q v H'->CE outer P w H s Q u s':=
  λ{σ' H' v u} J rv q=>⟨v,H',J.os,J.bare,J.base,J.hok,rv,q⟩
 cases fl with
 | ret u=>
  obtain⟨v,σ',H',J,rv,q⟩:=hs;exact aR J rv q
 | next=>
  obtain⟨σ',H',J,q⟩:=hs;exact aR (v:=V.non) (u:=Value.none) J rfl q
 | brk=>
  obtain⟨_,_,_,q⟩:=hs;exact False.elim q
 | cont=>
  obtain⟨_,_,_,q⟩:=hs;exact False.elim q
section
variable {X:Cx}{x:Str}{p pos:Pos}{e:Expr}{es:List Expr}{t:TA}{id T:String}{r:List V->Hp->VK->Prop}
def tCB (r:List V->Hp->VK->Prop)(t:TA):TE:=λσ H Q=>t σ H λvs H1=>r vs H1 Q
theorem PV (hc:YJ X (.builtin id) r)(hg:Gl X x)(hm:X.mg x=none)(hv:bootBuiltins x=some (.builtin id))(ha:PA X (e::es) t)(hn:x≠"__name__":=by decide)(hdb:(x==("__debug__":Str))=false:=by decide)
  (he:He X e es:=by rfl)(hpl:Hp1 X pos es:=by rfl):PE X (.Call (.Name x p) (e::es) [] pos) (tCB r t):=by
 intro aA s σ H Q I h;refine wpAny_Call_Name_kw (TC I hg hm hv ?_ hn hdb);exact PyProof.Rows.callWith_builtin1 (thn (ha pos aA s σ H _ I h) λus s1 ⟨vs,H1,I1,r1,q1⟩=>hc aA s1 σ H1 vs us Q I1 r1 q1) he hpl
theorem NC (hc:YJ X (.type T) r)(hg:Gl X x)(hm:X.mg x=none)(hv:bootBuiltins x=some (.type T))(ha:PA X (e::es) t)(hn:x≠"__name__":=by decide)(hdb:(x==("__debug__":Str))=false:=by decide)
  (he:He X e es:=by rfl)(hpl:Hp1 X pos es:=by rfl):PE X (.Call (.Name x p) (e::es) [] pos) (tCB r t):=by
 intro aA s σ H Q I h;refine wpAny_Call_Name_kw (TC I hg hm hv ?_ hn hdb);exact PyProof.Rows.callWith_type1 (thn (ha pos aA s σ H _ I h) λus s1 ⟨vs,H1,I1,r1,q1⟩=>hc aA s1 σ H1 vs us Q I1 r1 q1) he hpl
end
end L2
namespace HT
open PySem PyProof.Rows
section
open PySem.SeqAt
open PySem.AutoSeq1 (wpAny_loadPart')
open PySem.MeetsSeq PySem.MeetsSeq2 PySem.MeetsSeq3
end
section
variable {prog:Program}{w:World}{A:Around}{E:Value->Shared->Prop}{s:Shared}
def sIx (n d:Nat):Option Int->Nat
 | none=>d
 | some v=>if v<0 then (v+(n:Int)).toNat else min v.toNat n
theorem sIx_none (n d:Nat):sIx n d none=d:=rfl
theorem sIx_nat (n d k:Nat):sIx n d (some (k:Int))=min k n:=by
 show (if (k:Int)<0 then ((k:Int)+(n:Int)).toNat else min (k:Int).toNat n)=min k n;rw[if_neg (),yK]
end
end HT
namespace L2
open PySem PySem.Spec PyProof.Rows
abbrev TO:=St->Hp->(Option Int->Hp->Prop)->Prop
def PO (X:Cx)(e:Option Expr)(t:TO):Prop:=
 ∀(aA:LA)(s:Shared)(σ:St)(H:Hp)(Q:Option Int->Hp->Prop),Inv X aA σ H s->t σ H Q->
  wpAny (mX X) X.A (evalPart e X.env) (λu s'=>∃o H',Inv X aA σ H' s'/\IsPart u o/\Q o H') X.xe s
def zbM:TO:=λ_ H Q=>Q none H
def tPart (t:TE):TO:=λσ H Q=>t σ H λx H1=>∃i,x=.int i/\Q (some i) H1
section
variable {X:Cx}{e:Expr}{te:TE}{lo hi:Option Expr}{tl th:TO}{pos p2:Pos}
theorem zaH:PO X none zbM:=by
 intro aA s σ H Q I h;rw[evalPart_none];exact wpAny_pure ⟨none,H,I,.none,h⟩
theorem zeg (h:PE X e te):PO X (some e) (tPart te):=by
 intro aA s σ H Q I hw;rw[evalPart_some];refine thn (h aA s σ H _ I hw) λu s1 ⟨x,H1,I1,r1,q1⟩=>?_
 obtain⟨i,rfl,q⟩:=q1;obtain⟨t,rfl⟩:=r1;exact⟨some i,H1,I1,.int i t,q⟩
def SlR (X:Cx)(r:V->Option Int->Option Int->Hp->VK->Prop):Prop:=
 ∀(aA:LA)(s:Shared)(σ:St)(H:Hp)(x:V)(v vl vu:Value)(lo hi:Option Int)(sl:Addr)(Q:VK),Inv X aA σ H s->Zm x v->s.heap.IsSliceOf sl vl vu .none->IsPart vl lo->IsPart vu hi->r x lo hi H Q->
  ∃T id,typeLookup (.type T) "__getitem__"=pure (some (.builtin id))/\s.TypeIs v T/\wpAny (mX X) X.A (getItem v (.ref sl)) (EP X aA σ Q) X.xe s
def tSl (r:V->Option Int->Option Int->Hp->VK->Prop)(te:TE)(tl th:TO):TE:=λσ H Q=>te σ H λx H1=>tl σ H1 λl H2=>th σ H2 λu H3=>r x l u H3 Q
theorem I0 {r:V->Option Int->Option Int->Hp->VK->Prop}(hr:SlR X r)(he:PE X e te)(hl:PO X lo tl)(hu:PO X hi th):PE X (.Subscript e (.Slice lo hi none p2) pos) (tSl r te tl th):=by
 intro aA s σ H Q I h;refine Subscript_ (thn (he aA s σ H _ I h) λv s1 ⟨x,H1,I1,r1,q1⟩=>?_);refine wpAny_Slice (thn (hl aA s1 σ H1 _ I1 q1) λvl s2 ⟨l,H2,I2,pl,q2⟩=>thn (hu aA s2 σ H2 _ I2 q2) λvu s3 ⟨u,H3,I3,pu,q3⟩=>?_);rw[evalPart_none];refine wpAny_pure ?_;have I4:Inv X aA σ H3 { s3 with heap:=s3.heap.push { cls:=.type "slice",data:=.fields #[vl,vu,.none] } }:=I3.kept (t':=s3.toks) λb ob q=>Heap.get?_push_of_some _ q
 obtain⟨T,id,hT,ht,hg⟩:=hr aA { s3 with heap:=s3.heap.push { cls:=.type "slice",data:=.fields #[vl,vu,.none] } } σ H3 x v vl vu l u s3.heap.objs.size Q I4 r1 (Heap.IsSliceOf.new ..) pl pu q3;show wpAny (mX X) X.A (subscriptTail e (.Slice lo hi none p2) v (.ref s3.heap.objs.size)) (EP X aA σ Q) X.xe { s3 with heap:=s3.heap.push { cls:=.type "slice",data:=.fields #[vl,vu,.none] } };exact tail_any (ops:=[.ref s3.heap.objs.size,v]) ht hT hg (by with_unfolding_all rfl)
def Sg (xs:List V)(lo hi:Option Int):List V:=(xs.drop (HT.sIx xs.length 0 lo)).take (HT.sIx xs.length xs.length hi-HT.sIx xs.length 0 lo)
theorem Di (xs:List V)(lo hi:Option Int):(Sg xs lo hi).length<=xs.length:=by
 unfold Sg;rw[xJ,xB];lia
end
def ixN (n:Nat)(i:Int):Option Nat:=if 0<=i then (if i<n then some i.toNat else none) else if -(n:Int)<=i then some (i+n).toNat else none
def atI {α:Type}(xs:List α)(i:Int):Option α:=(ixN xs.length i).bind λj=>xs[j]?
theorem J9 (h:ixN n i=some j):seqIndex? i n=some j/\j<n/\-(n:Int)<=i/\i<n:=by
 unfold ixN at h;by_cases h0:0<=i
 .rw[if_pos h0] at h;by_cases h1:i<n
  .rw[if_pos h1] at h;have e:i.toNat=j:=Option.some.inj h;exact⟨by rw[seqIndex_of h0 h1,e],(),(),h1⟩
  .rw[if_neg h1] at h;cases h
 .rw[if_neg h0] at h;by_cases h1:-(n:Int)<=i
  .rw[if_pos h1] at h;have e:(i+n).toNat=j:=Option.some.inj h;exact⟨by rw[seqIndex_neg () h1,e],(),h1,()⟩
  .rw[if_neg h1] at h;cases h
theorem IF (h:atI xs i=some v):∃j,seqIndex? i xs.length=some j/\xs[j]?=some v/\j<xs.length/\-(xs.length:Int)<=i/\i<xs.length:=by
 unfold atI at h;cases e:ixN xs.length i with
 | none=>rw[e] at h;cases h
 | some j=>
  rw[e] at h;obtain⟨h1,h2,h3,h4⟩:=J9 e;exact⟨j,h1,h,h2,h3,h4⟩
theorem Wr {α:Type}{xs:List α}{j:Nat}{v:α}(h:xs[j]?=some v):atI xs (j:Int)=some v:=by
 have hj:j<xs.length:=(zE.mp h).1
 have e:ixN xs.length (j:Int)=some j:=by
  unfold ixN;rw[if_pos (),if_pos ()];simp
 unfold atI;rw[e];exact h
def K4 (b:Expr):Prop:=∀o i,subscripted b false o i=operate [o,i] (getItem o i)
def IxR (X:Cx)(r:R2):Prop:=
 ∀(value slice:Expr)(aA:LA)(s:Shared)(σ:St)(H:Hp)(x y:V)(v u:Value)(Q:VK),Inv X aA σ H s->Zm x v->Zm y u->r x y H Q->
  subscripted slice false v u=operate [v,u] (getItem v u)->wpAny (mX X) X.A (subscriptTail value slice v u) (EP X aA σ Q) X.xe s
def MtR (X:Cx)(id:String)(r:V->List V->Hp->VK->Prop):Prop:=
 ∀(aA:LA)(s:Shared)(σ:St)(H:Hp)(x:V)(xs:List V)(v:Value)(us:List Value)(Q:VK),Inv X aA σ H s->Zm x v->Zt xs us->r x xs H Q->
  wpAny (mX X) X.A (call (.builtin id) (v::us)) (EP X aA σ Q) X.xe s
section
variable {X:Cx}{a b:Expr}{ta tb:TE}{pos:Pos}
theorem pe_ix {r:R2}(hr:IxR X r)(ha:PE X a ta)(hb:PE X b tb)(hs:K4 b):PE X (.Subscript a b pos) (tOp r ta tb):=by
 intro aA s σ H Q I h;exact Subscript_ (Md ha hb I h λv u s2 x y H2 I2 rx ry q=>hr a b aA s2 σ H2 x y v u Q I2 rx ry q (hs _ _))
def rIxL (K:Fg):R2:=λx y H Q=>∃p xs i v,x=.ref p/\y=.int i/\SqL K H p xs/\atI xs i=some v/\Q v H
def rIxT (K:Fg):R2:=λx y H Q=>∃p xs i v,x=.ref p/\y=.int i/\SqT K H p xs/\atI xs i=some v/\Q v H
theorem zeb:IxR X (rIxL X.K):=by
 intro value slice aA s σ H x y v u Q I rx ry h hs;obtain⟨p,xs,i,z,rfl,rfl,hq,he,q⟩:=h;cases rx;obtain⟨t,rfl⟩:=ry;obtain⟨aQ,r,pl,hz⟩:=I.list hq;obtain⟨j,h1,h2,h3,h4,h5⟩:=IF he;obtain⟨w,ew,rw'⟩:=r.get h2;have hl:=r.length
 have hn:=TJ
 have aR:EP X aA σ Q w s:=⟨z,H,I,rw',q⟩;by_cases h0:0<=i
 .have hj:i.toNat=j:=by
   rw[seqIndex_of h0 h5] at h1;exact Option.some.inj h1
  exact item_listR pl.isList h0 () (by rw[hj];simpa using ew) aR hs
 .have hj:(i+(aQ.toArray.size:Int)).toNat=j:=by
   rw[seqIndex_neg () h4] at h1;rw[zM,<- hl];exact Option.some.inj h1
  exact subscriptTail_builtinR (x:=w) pl.isList.typeIs slot_list_getitem.lookup
   (wpAny_getItem_list_neg (Q:=λr s'=>r=w/\EP X aA σ Q r s') pl.isList () (by rw[zM]<;>lia) () (by rw[hj];simpa using ew) ⟨rfl,aR⟩) hs
theorem zdl:IxR X (rIxT X.K):=by
 intro value slice aA s σ H x y v u Q I rx ry h hs;obtain⟨p,xs,i,z,rfl,rfl,hq,he,q⟩:=h;cases rx;obtain⟨t,rfl⟩:=ry;obtain⟨aQ,r,pl,hz⟩:=I.tuple hq;obtain⟨j,h1,h2,h3,h4,h5⟩:=IF he;obtain⟨w,ew,rw'⟩:=r.get h2;have hl:=r.length
 have hn:=TJ
 have aR:EP X aA σ Q w s:=⟨z,H,I,rw',q⟩;exact subscriptTail_builtinR (x:=w) pl.typeIs slot_tuple_getitem.lookup
  (getItem_tuple (j:=j) (Q:=λr s'=>r=w/\EP X aA σ Q r s') pl () () (by rw[zM,<- hl];exact h1) (by simpa using ew) ⟨rfl,aR⟩) hs
theorem BK (aQ:List Value)(n j:Nat)(u:Value):Obj.mapSeq (·.setIfInBounds j u) { cls:=.type "list",data:=.seq aQ.toArray n }={ cls:=.type "list",data:=.seq (aQ.set j u).toArray n }:=by
 simp[Obj.mapSeq]
theorem Inv.lst {aA:LA}{σ:St}{H:Hp}{s:Shared}{p:Addr}{xs:List V}(I:Inv X aA σ H s)(h:H p=some (.lst xs)):
  ∃(aQ:List Value)(n:Nat),Zt xs aQ/\s.heap.get? p=some { cls:=.type "list",data:=.seq aQ.toArray n }/\xs.length<=sizeLine:=by
 obtain⟨z,aQ,n,r,e⟩:=I.hok p _ h;exact⟨aQ,n,r,e,z⟩
theorem Inv.lstUpd {aA:LA}{σ:St}{H:Hp}{s:Shared}{p:Addr}{xs ys:List V}{aQ its':List Value}{n n':Nat}{f:Obj->Obj}(I:Inv X aA σ H s)(h:H p=some (.lst xs))
  (ho:s.heap.get? p=some { cls:=.type "list",data:=.seq aQ.toArray n })(hf:f { cls:=.type "list",data:=.seq aQ.toArray n }={ cls:=.type "list",data:=.seq its'.toArray n' })(r:Zt ys its')(hz:ys.length<=sizeLine)(t:Nat):
  Inv X aA σ (upd H p (.lst ys)) { s with heap:=s.heap.update p f,toks:=t }:=by
 have e:(s.heap.update p f).get? p=some { cls:=.type "list",data:=.seq its'.toArray n' }:=by
  rw[Heap.get?_update_self f ho (by rw[hf]<;>rfl),hf]
 refine I.write (x:=p) (e:=p) (by rw[h];trivial) (.inl rfl) (λb u hb q=>(Heap.get?_update_other _ _ (Ne.symm hb)).trans q) ⟨_,e⟩ ?_;exact⟨hz,its',n',r,e⟩
def rSetL:V->V->V->Hp->(Hp->Prop)->Prop:=λo i v H Q=>∃p xs k j,o=.ref p/\i=.int k/\H p=some (.lst xs)/\ixN xs.length k=some j/\Q (upd H p (.lst (xs.set j v)))
theorem C7:PSet X rSetL:=by
 intro aA s σ H o i v ov iv u Q I ro ri rv h;obtain⟨p,xs,k,j,rfl,rfl,hp,hj,q⟩:=h;cases ro;obtain⟨t,rfl⟩:=ri;obtain⟨aQ,n,r,ho,hz⟩:=I.lst hp;obtain⟨h1,h2,h3,h4⟩:=J9 hj;have hl:=r.length
 have hn:=TJ
 have I':Inv X aA σ (upd H p (.lst (xs.set j v))) { s with heap:=s.heap.update p (Obj.mapSeq (·.setIfInBounds j u)) }:=
  I.lstUpd hp ho (BK aQ n j u) (r.set rv j) (by rw[vK];exact hz) s.toks
 by_cases h0:0<=k
 .have hk:k.toNat=j:=by
   rw[seqIndex_of h0 h4] at h1;exact Option.some.inj h1
  exact W.ki_setAt ho h0 () (by rw[zM,<- hl];exact h4) (by rw[hk];exact⟨_,I',q⟩)
 .have hk:(k+(aQ.toArray.size:Int)).toNat=j:=by
   rw[seqIndex_neg () h3] at h1;rw[zM,<- hl];exact Option.some.inj h1
  exact W.ki_setBack ho () (by rw[zM,<- hl];exact h3) () (by rw[hk];exact⟨_,I',q⟩)
theorem zeD (lo hi:Option Int)(n:Nat):(sliceBounds lo hi none n).1=((HT.sIx n 0 lo:Nat):Int)/\(sliceBounds lo hi none n).2.1=((HT.sIx n n hi:Nat):Int)/\(sliceBounds lo hi none n).2.2=1:=by
 refine⟨?_,?_,rfl⟩
 .cases lo with
  | none=>simp[sliceBounds,HT.sIx]
  | some i=>
   simp only[sliceBounds,HT.sIx,vL,show (1:Int) > 0 by decide,if_true];by_cases h:i<0
   .simp only[h,if_true]<;>lia
   .simp only[h,if_false]<;>lia
 .cases hi with
  | none=>simp[sliceBounds,HT.sIx]
  | some i=>
   simp only[sliceBounds,HT.sIx,vL,show (1:Int) > 0 by decide,if_true];by_cases h:i<0
   .simp only[h,if_true]<;>lia
   .simp only[h,if_false]<;>lia
theorem zdC (aQ:List Value)(lo hi:Option Int):slicePick aQ.toArray lo hi none=((aQ.drop (HT.sIx aQ.length 0 lo)).take (HT.sIx aQ.length aQ.length hi-HT.sIx aQ.length 0 lo)).toArray:=by
 obtain⟨h1,h2,h3⟩:=zeD lo hi aQ.toArray.size;unfold slicePick;rw[h1,h2,h3];simp only[sliceRange_one,pick_run,zM]<;>rfl
def rSlL (K:Fg):V->Option Int->Option Int->Hp->VK->Prop:=λx lo hi H Q=>∃a xs,x=.ref a/\SqL K H a xs/\∀p,H p=none->Q (.ref p) (upd H p (.lst (Sg xs lo hi)))
theorem zcS:SlR X (rSlL X.K):=by
 intro aA s σ H x v vl vu lo hi sl Q I rx hs pl pu h;obtain⟨a,xs,rfl,hx,q⟩:=h;cases rx;obtain⟨aQ,r,ht,hz⟩:=I.list hx;have aL:=r.length;refine⟨"list",_,slot_list_getitem.lookup,ht.isList.typeIs,?_⟩;refine wpAny_getItem_list_slice ht.isList hs pl pu .none (by simp) ?_ (by rw[zM]<;>lia);rw[zdC,<- aL];refine⟨.ref s.heap.objs.size,_,I.laid (t':=s.toks) (o:=.lst (Sg xs lo hi)) (λb ob q=>Heap.get?_push_of_some _ q) (zA _) ?_,rfl,q _ (I.hok.fresh (zA _))⟩;exact⟨zW (Di xs lo hi) hz,_,0,(r.drop (HT.sIx xs.length 0 lo)).take (HT.sIx xs.length xs.length hi-HT.sIx xs.length 0 lo),Heap.get?_push_size _ rfl⟩
def WT:V->Bool
 | .non=>true
 | .bl _=>true
 | .int _=>true
 | .str _=>true
 | _=>false
def eqV:V->V->Bool
 | .non,.non=>true
 | .bl a,.bl b=>a==b
 | .bl a,.int b=>(if a then 1 else 0)==b
 | .int a,.bl b=>a==(if b then 1 else 0)
 | .int a,.int b=>a==b
 | .str a,.str b=>a==b
 | _,_=>false
theorem Gs (ry:Zm y u)(rx:Zm x v)(fy:WT y=true)(fx:WT x=true):SeqAt.EqAt A s u v (eqV y x):=by
 cases y with
 | non=>
  cases ry;cases x with
  | non=>cases rx;exact SeqAt.EqAt.same _
  | bl b=>cases rx;exact SeqAt.EqAt.none_bool b
  | int b=>obtain⟨t,rfl⟩:=rx;exact SeqAt.EqAt.none_int b t
  | str b=>obtain⟨t,rfl⟩:=rx;exact SeqAt.EqAt.none_str b t
  | _=>exact absurd (show false=true from fx) zQ
 | bl a=>
  cases ry;cases x with
  | non=>cases rx;exact SeqAt.EqAt.bool_none a
  | bl b=>cases rx;exact SeqAt.EqAt.bool_bool a b
  | int b=>obtain⟨t,rfl⟩:=rx;exact SeqAt.EqAt.bool_int a b t
  | str b=>obtain⟨t,rfl⟩:=rx;exact SeqAt.EqAt.bool_str a b t
  | _=>exact absurd (show false=true from fx) zQ
 | int a=>
  obtain⟨t',rfl⟩:=ry;cases x with
  | non=>cases rx;exact SeqAt.EqAt.int_none a t'
  | bl b=>cases rx;exact SeqAt.EqAt.int_bool a t' b
  | int b=>obtain⟨t,rfl⟩:=rx;exact SeqAt.EqAt.int_int a t' b t
  | str b=>obtain⟨t,rfl⟩:=rx;exact SeqAt.EqAt.int_str a t' b t
  | _=>exact absurd (show false=true from fx) zQ
 | str a=>
  obtain⟨t',rfl⟩:=ry;cases x with
  | non=>cases rx;exact SeqAt.EqAt.str_none a t'
  | bl b=>cases rx;exact SeqAt.EqAt.str_bool a t' b
  | int b=>obtain⟨t,rfl⟩:=rx;exact SeqAt.EqAt.str_int a t' b t
  | str b=>obtain⟨t,rfl⟩:=rx;exact SeqAt.EqAt.str_str a t' b t
  | _=>exact absurd (show false=true from fx) zQ
 | _=>exact absurd (show false=true from fy) zQ
def eqU (x:V)(u:Value):Bool:=match u with
 | .none=>eqV .non x
 | .bool b=>eqV (.bl b) x
 | .int i _=>eqV (.int i) x
 | .str z _=>eqV (.str z) x
 | _=>false
theorem Hq (r:Zm y u)(f:WT y=true):eqU x u=eqV y x:=by
 cases y with
 | non=>cases r;rfl
 | bl b=>cases r;rfl
 | int i=>obtain⟨t,rfl⟩:=r;rfl
 | str z=>obtain⟨t,rfl⟩:=r;rfl
 | _=>exact absurd (show false=true from f) zQ
theorem Qy:∀ {xs:List V} {us:List Value},Zt xs us->xs.all WT=true->us.any (eqU x)=xs.any λy=>eqV y x
 | _,_,.nil,_=>rfl
 | y::xs,u::us,.cons r t,f=>by
  rw[xC,zZ] at f;rw[yN,yN,Hq r f.1,Qy t f.2]
theorem RC (rx:Zm x v)(fx:WT x=true):∀ {xs:List V} {us:List Value},Zt xs us->xs.all WT=true->∀u∈us,SeqAt.EqAt A s u v (eqU x u)
 | _,_,.nil,_=>λu hu=>by cases hu
 | y::xs,u::us,.cons r t,f=>λu' hu=>by
  rw[xC,zZ] at f;rcases zB.mp hu with rfl|hu
  .rw[Hq r f.1];exact Gs r rx f.1 fx
  .exact RC rx fx t f.2 u' hu
def inV (x:V)(xs:List V):Bool:=xs.any λy=>eqV y x
def rIn (K:Fg)(neg:Bool):R2:=λx y H Q=>∃p xs,y=.ref p/\(SqL K H p xs\/SqT K H p xs)/\WT x=true/\xs.all WT=true/\Q (.bl (if neg then !inV x xs else inV x xs)) H
theorem zds:OpR X (compareOp .In) (rIn X.K false):=by
 intro aA s σ H x y v u Q I rx ry h;obtain⟨p,xs,rfl,hq,fx,fs,q⟩:=h;cases ry;rcases hq with hq|hq
 .obtain⟨aQ,r,pl,hz⟩:=I.list hq;refine SeqAt.in_listAt (eqU x) pl.isList (λw hw=>RC rx fx r fs w (by simpa using hw)) ⟨.bl _,H,I,rfl,?_⟩;rw[show aQ.toArray.any (eqU x)=aQ.any (eqU x) by simp,Qy r fs];exact q
 .obtain⟨aQ,r,pl,hz⟩:=I.tuple hq;refine SeqAt.in_tupleAt (eqU x) pl (λw hw=>RC rx fx r fs w (by simpa using hw)) ⟨.bl _,H,I,rfl,?_⟩;rw[show aQ.toArray.any (eqU x)=aQ.any (eqU x) by simp,Qy r fs];exact q
theorem zc6:OpR X (compareOp .NotIn) (rIn X.K true):=by
 intro aA s σ H x y v u Q I rx ry h;obtain⟨p,xs,rfl,hq,fx,fs,q⟩:=h;cases ry;rcases hq with hq|hq
 .obtain⟨aQ,r,pl,hz⟩:=I.list hq;refine SeqAt.notIn_listAt (eqU x) pl.isList (λw hw=>RC rx fx r fs w (by simpa using hw)) ⟨.bl _,H,I,rfl,?_⟩;rw[show aQ.toArray.any (eqU x)=aQ.any (eqU x) by simp,Qy r fs];exact q
 .obtain⟨aQ,r,pl,hz⟩:=I.tuple hq;refine SeqAt.notIn_tupleAt (eqU x) pl (λw hw=>RC rx fx r fs w (by simpa using hw)) ⟨.bl _,H,I,rfl,?_⟩;rw[show aQ.toArray.any (eqU x)=aQ.any (eqU x) by simp,Qy r fs];exact q
theorem DZ:YJ X (.builtin "len") (λxs H Q=>∃p ys,xs=[.ref p]/\(SqL X.K H p ys\/SqT X.K H p ys)/\Q (.int ys.length) H):=by
 intro aA s σ H xs us Q I r h;obtain⟨p,ys,rfl,hq,q⟩:=h;obtain⟨u,rfl,rx⟩:=Xw r;cases rx;have hn:=TJ;rcases hq with hq|hq
 .obtain⟨aQ,r',pl,hz⟩:=I.list hq;have aL:=r'.length;exact Calls.call_len_list pl.isList (by simp only[zM]<;>lia) ⟨.int ys.length,H,I.tok _,⟨s.toks+1,by rw[zM,aL]⟩,q⟩
 .obtain⟨aQ,r',pl,hz⟩:=I.tuple hq;have aL:=r'.length;exact len_tuple pl (by simp only[zM]<;>lia) ⟨.int ys.length,H,I.tok _,⟨s.toks+1,by rw[zM,aL]⟩,q⟩
theorem CF:YJ X (.builtin "len") (λxs H Q=>∃z,xs=[.str z]/\z.length<=sizeLine/\Q (.int z.length) H):=by
 intro aA s σ H xs us Q I r h;obtain⟨z,rfl,hz,q⟩:=h;obtain⟨u,rfl,t,rfl⟩:=Xw r;have hn:=TJ;exact len_str () ⟨.int z.length,H,I.tok _,⟨_,rfl⟩,q⟩
theorem AK:YJ X (.type "list") (λxs H Q=>∃p ys,xs=[.ref p]/\(SqL X.K H p ys\/SqT X.K H p ys)/\∀l,H l=none->Q (.ref l) (upd H l (.lst ys))):=by
 intro aA s σ H xs us Q I r h;obtain⟨p,ys,rfl,hq,q⟩:=h;obtain⟨u,rfl,rx⟩:=Xw r;cases rx;have aR:∀(aQ:List Value),Zt ys aQ->ys.length<=sizeLine->∀(h':Heap)(c':Nat),(∀b o',s.heap.get? b=some o'->h'.get? b=some o')->
   h'.get? s.heap.objs.size=some { cls:=.type "list",dict:=none,data:=.seq aQ.toArray c',slots:=#[] }->EP X aA σ Q (.ref s.heap.objs.size) { s with heap:=h' }:=λaQ r' hz h' c' kp e=>
  ⟨.ref s.heap.objs.size,_,I.laid (t':=s.toks) kp (zA _) (show Yw X.prog X.w _ h' _ (.lst ys) from ⟨hz,aQ,c',r',e⟩),rfl,q _ (I.hok.fresh (zA _))⟩
 rcases hq with hq|hq
 .obtain⟨aQ,r',pl,hz⟩:=I.list hq;have aL:=r'.length;obtain⟨o,ho,hc,n,hd⟩:=pl.isList;exact call_list_seq p (.inl rfl) ho hc hd (λh' c' kp e=>aR aQ r' hz h' c' kp e) (by simp only[zM]<;>lia)
 .obtain⟨aQ,r',pl,hz⟩:=I.tuple hq;have aL:=r'.length;obtain⟨o,ho,hc,n,hd⟩:=pl;exact call_list_seq p (.inr rfl) ho hc hd (λh' c' kp e=>aR aQ r' hz h' c' kp e) (by simp only[zM]<;>lia)
def tyV (K:Fg)(T:String)(x:V)(H:Hp):Prop:=match x with
 | .str _=>T="str"
 | .int _=>T="int"
 | .ref p=>(T="list"/\∃xs,SqL K H p xs)\/(T="tuple"/\∃o,K.lookup p=some o/\o.cls=.type "tuple"/\o.dict=none)\/
   (T="dict"/\((∃kvs,H p=some (.dK kvs))\/∃kvs,H p=some (.dT kvs)))\/(T="set"/\∃S n,H p=some (.set S n))
 | _=>False
theorem zd7 (I:Inv X aA σ H s)(r:Zm x v)(ty:tyV X.K T x H):
  s.TypeIs v T/\∀a,v=.ref a->∃ob,s.heap.get? a=some ob/\ob.dict=none:=by
 cases x with
 | str z=>
  obtain⟨t,rfl⟩:=r;cases (show T="str" from ty);exact⟨typeIs_str s z t,λ_ e=>nomatch e⟩
 | int i=>
  obtain⟨t,rfl⟩:=r;cases (show T="int" from ty);exact⟨typeIs_int s i t,λ_ e=>nomatch e⟩
 | ref p=>
  cases r;rcases ty with ⟨rfl,xs,hq⟩|⟨rfl,o,hk,hc,hd⟩|⟨rfl,hk⟩|⟨rfl,S,n,hk⟩
  .obtain⟨aQ,_,pl,_⟩:=I.list hq;refine⟨pl.isList.typeIs,λa e=>?_⟩;cases e;obtain⟨o,n,e,c,hd,_⟩:=pl;exact⟨o,e,hd⟩
  .refine⟨⟨o,I.kIn p o hk,hc⟩,λa e=>?_⟩;cases e;exact⟨o,I.kIn _ o hk,hd⟩
  .have z:∃o,s.heap.get? p=some o/\o.ExactDict:=by
    rcases hk with ⟨kvs,hk⟩|⟨kvs,hk⟩
    .obtain⟨_,_,_,_,o,_,_,e,ex,_⟩:=I.hok p _ hk;exact⟨o,e,ex⟩
    .obtain⟨_,_,_,_,o,_,_,e,ex,_⟩:=I.hok p _ hk;exact⟨o,e,ex⟩
   obtain⟨o,e,ex⟩:=z;refine⟨⟨o,e,ex.1⟩,λa e2=>?_⟩;cases e2;exact⟨o,e,ex.2.1⟩
  .obtain⟨o,_,_,_,e,ex,_⟩:=I.hok p _ hk;refine⟨⟨o,e,ex.1⟩,λa e2=>?_⟩;cases e2;exact⟨o,e,ex.2.1⟩
 | _=>exact False.elim ty
def tBM (K:Fg)(T:String)(r:V->List V->Hp->VK->Prop)(to:TE)(t:TA):TE:=λσ H Q=>to σ H λx H1=>tyV K T x H1/\t σ H1 λxs H2=>r x xs H2 Q
variable {o e:Expr}{es:List Expr}{to:TE}{t:TA}{name:Str}{aI aH:Pos}{T id:String}{r:V->List V->Hp->VK->Prop}
theorem Ug (pa:PlainAttrs T)(slot:Slot T name id)(hty:typeOf (.builtin id)=pure (.type "method_descriptor"))(hm:MtR X id r)(ho:PE X o to)(ha:PA X (e::es) t)
  (hbase:attributeBase o name X.env (eval o X.env)=eval o X.env:=by rfl)
  (hfew:((backTo aH (starEach (e::es) X.env)).all (λx=>!x.1)&&(backToKw aH (keywordEach [] X.env)).all (λx=>x.1.isSome)
  &&decide ((e::es).length+([]:List Keyword).length+(if ([]:List Keyword).isEmpty then 0 else 1)<30))=true:=by rfl)
  (hline:(aI.endLine==aH.line)=true:=by rfl)(hs:starEach (e::es) X.env=(false,eval e X.env)::starEach es X.env:=by rfl)(hplain:(backTo aH (starEach es X.env)).any (·.1)=false:=by rfl):
  PE X (.Call (.Attribute o name aI) (e::es) [] aH) (tBM X.K T r to t):=by
 intro aA s σ H Q I h;refine wpAny_Call_method_late hbase hfew hline rfl (thn (ho aA s σ H _ I h) λv s1 ⟨x,H1,I1,r1,ty,q1⟩=>?_);obtain⟨h1,h2⟩:=zd7 I1 r1 ty;refine⟨T,id,pa,slot,hty,h1,h2,?_⟩;have hA:=ha aH aA s1 σ H1 _ I1 q1;rw[hs] at hA ⊢;refine Calls.callWith_builtin (by show (false||(backTo aH (starEach es X.env)).any (·.1))=false;rw[hplain]<;>rfl) (Calls.evalArgs_plain ?_);exact thn hA λus s2 ⟨vs,H2,I2,r2,q2⟩=>hm aA s2 σ H2 x vs v us Q I2 r1 r2 q2
end
def MtM (X:Cx)(id:String)(r:V->List V->Hp->VK->Prop):Prop:=
 ∀(aA:LA)(s:Shared)(σ:St)(H:Hp)(x:V)(xs:List V)(v:Value)(us:List Value)(Q:VK),Inv X aA σ H s->Zm x v->Zt xs us->r x xs H Q->
  wpAny (mX X) X.A (call (.builtin id) (v::us)) (EP X aA σ Q) X.xe s
theorem Zt.one:∀ {x:V} {us:List Value},Zt [x] us->∃u,us=[u]/\Zm x u
 | _,_,.cons r .nil=>⟨_,rfl,r⟩
section
variable {X:Cx}{aA:LA}{σ:St}{H:Hp}{s:Shared}{l b:Addr}{xs ys zs:List V}
theorem Inv.lset {aQ its':List Value}{n:Nat}{f:Array Value->Array Value}{t':Nat}(I:Inv X aA σ H s)(hH:H l=some (.lst xs))
  (e:s.heap.get? l=some { cls:=.type "list",data:=.seq aQ.toArray n })(hf:f aQ.toArray=its'.toArray)(hv:Zt ys its')(hz:ys.length<=sizeLine):
  Inv X aA σ (upd H l (.lst ys)) { s with heap:=s.heap.update l (Obj.mapSeq f),toks:=t' }:=by
 have q:=PySem.IsL.update e f;rw[hf] at q;refine I.write (x:=l) (e:=l) (by rw[hH];exact trivial) (.inl rfl) (λb' u hb hu=>(Heap.get?_update_other s.heap (Obj.mapSeq f) (Ne.symm hb)).trans hu) ⟨_,q⟩ ?_;exact⟨hz,its',_,hv,q⟩
theorem Inv.lnew (I:Inv X aA σ H s)(hv:Zt ys aQ)(hz:ys.length<=sizeLine):
  Inv X aA σ (upd H s.heap.objs.size (.lst ys)) { s with heap:=s.heap.push { cls:=.type "list",data:=.seq aQ.toArray },toks:=t' }:=
 I.laid (λ_ _ q=>Heap.get?_push_of_some _ q) (zA _) ⟨hz,aQ,0,hv,Heap.get?_push_size _ rfl⟩
theorem Inv.fresh (I:Inv X aA σ H s):H s.heap.objs.size=none:=I.hok.fresh (zA _)
theorem Inv.lstM (I:Inv X aA σ H s)(hH:H l=some (.lst xs)):xs.length<=sizeLine/\∃(aQ:List Value)(n:Nat),Zt xs aQ/\xs.length=aQ.length/\s.heap.get? l=some { cls:=.type "list",data:=.seq aQ.toArray n }:=by
 obtain⟨z,aQ,n,r,e⟩:=I.hok l _ hH;exact⟨z,aQ,n,r,r.length,e⟩
end
section
variable {X:Cx}
def Bq:V->List V->Hp->VK->Prop:=λx vs H Q=>∃l xs y,x=.ref l/\vs=[y]/\H l=some (.lst xs)/\xs.length<sizeLine/\Q .non (upd H l (.lst (xs++[y])))
theorem KA:MtM X "list.append" Bq:=by
 intro aA s σ H x vs v us Q I rx rv h;obtain⟨l,xs,y,rfl,rfl,hH,hz,q⟩:=h;cases rx;obtain⟨u,rfl,ru⟩:=rv.one;obtain⟨z,aQ,n,r,hl,e⟩:=I.lstM hH;refine call_meets F.slot_list_append ⟨_,e,rfl⟩ F.entry_list_append (F.args_list_append_2 _ _) (PySem.list_append l aQ.toArray n u (by rw[zM];lia)) ⟨e,?_⟩;refine⟨.non,_,I.lset (its':=aQ++[u]) hH e (by simp) (r.append (.cons ru .nil)) ?_,rfl,q⟩;rw[zF,xK];lia
def rCat:R2:=λx y H Q=>∃l b xs zs,x=.ref l/\y=.ref b/\H l=some (.lst xs)/\H b=some (.lst zs)/\xs.length+zs.length<=sizeLine/\∀p,H p=none->Q (.ref p) (upd H p (.lst (xs++zs)))
theorem zat:OpR X (binaryOp .Add) rCat:=by
 intro aA s σ H x y v u Q I rx ry h;obtain⟨l,b,xs,zs,rfl,rfl,hH,hB,hz,q⟩:=h;cases rx;cases ry;obtain⟨z,aQ,n,r,hl,e⟩:=I.lstM hH;obtain⟨z2,its2,n2,r2,hl2,e2⟩:=I.lstM hB;refine PySem.P.add_list e e2 ?_ (by rw[zM,zM];lia);have ea:aQ.toArray++its2.toArray=(aQ++its2).toArray:=by simp
 rw[ea];exact⟨.ref _,_,I.lnew (t':=s.toks) (r.append r2) (by rw[zF];lia),rfl,q _ I.fresh⟩
end
section
variable {prog:Program}{w:World}{A:Around}{E:Value->Shared->Prop}{s:Shared}
set_option maxRecDepth 100000 in
end
section
variable {X:Cx}
end
end L2
namespace Att
open PySem PySem.W PySem.Calls PyProof.Rows
theorem zdM {P:Params}{h:Heap}:∀(ns:List Int)(vs:List Value),WellAll P h vs (ns.map WData.int)->IntsAre vs ns:=by
 intro ns
 induction ns with
 | nil=>
  intro vs w;rw[wJ] at w;cases w;exact .nil
 | cons n ns ih=>
  intro vs w;rw[zL] at w;cases w with
  | cons a b=>
   cases a;exact .cons _ _ (ih _ b)
theorem zdY {l:OpenLaw}{n:Nat}(hn:l.most=some n){P:Params}{h:Heap}{args:List WData}{vals:List Value}
  (hpre:l.row.toRowW.claim.pre args=true)(hwl:WellAll P h vals args):
  ∃a vs ns,vals=[Value.ref a]/\args=[WData.list (ns.map WData.int)]/\h.get? a=some { cls:=.type "list",data:=.seq vs.toArray }/\IntsAre vs ns/\ns.length<=n:=by
 have hsh:WShape.hasAll [] args [.list .int]=true:=(pre_splitW hpre).1
 have hc:l.pre.holds [] { args:=args }=true:=(pre_splitW hpre).2;obtain⟨d,r,rfl,h1,h2⟩:=hasAllW_cons hsh;obtain rfl:=hasAllW_nil h2;obtain⟨xs,rfl,h3⟩:=hasW_list h1;obtain⟨ns,rfl⟩:=items_int h3;have aL:ns.length<=n:=by
  unfold OpenLaw.pre at hc;have h4:(WTm.not (.lt (.lit (.int (n:Int))) (.len (.arg 0)))).holds [] { args:=[.list (ns.map .int)] }=true:=by
   have h4:=(holds_andW hc).1;rw[hn] at h4;exact h4
  have h5:=condW_of h4 (w_not (w_lt w_lit (w_len_list (w_arg rfl))));rw[zC] at h5;refine Nat.le_of_not_lt λq=>?_
  have q':(n:Int)<((ns.length:Nat):Int):=by lia
  first
   | (rw[decide_eq_true q'] at h5;exact absurd h5 ⋯)
   | (simp at h5;lia)
 cases hwl with
 | cons w1 w2=>
  cases w2;cases w1 with
  | list ho hall=>exact⟨_,_,ns,rfl,rfl,ho,zdM ns _ hall,aL⟩
theorem zcJ (l:OpenLaw)(args:List WData):l.row.toRowW.claim.post args (.bool true) args=true:=
 postW_of (r:=l.row.toRowW) (X:=(true==true))
  (show WShape.has [] (.bool true) .bool=true by first|rfl|decide|simp[WShape.has,WShape.arms,WShape.armsAll])
  (show (WTm.eq .res (.lit (.bool true))).value [] { args:=args,res:=some (.bool true),after:=args }=some (.bool (true==true)) from w_eq_bool (w_res rfl) w_lit) rfl
theorem attach_call {l:OpenLaw}{n:Nat}{q:Program}{aF:List Str}{XP:(Str->Option Value)->Heap->Prop}{YP:World->Heap->Prop}{d:DefRec}
  (hn:l.most=some n)(hdf:d.params.defaults=[])
  (call:∀(w:World)(s₀ s₁:Shared)(mg mb:Str->Option Value)(fa:Addr)(o:Obj)(pm cd doc:Value)(a:Addr)(vs:List Value)(ns:List Int),
   Ground q aF [] XP w s₀ mg mb s₁.heap->YP w s₁.heap->
   s₁.heap.get? fa=some o->o.data=.func (docDef d.name d.params d.body d.scope pm cd doc)->s₁.heap.CodeRec cd d.name->mg d.name=some (.ref fa)->
   s₁.heap.get? a=some { cls:=.type "list",data:=.seq vs.toArray }->IntsAre vs ns->ns.length<=n->s₁.gens=#[]->
   codeAny (model l.prog w) callerA (.call (.ref fa) ⟨[.ref a],[]⟩) (λr s'=>r=.ok (.ret (.bool true))/\OldK s₁.heap s'.heap/\s'.os=s₁.os/\AllBare s'.gens) s₁):
  WalkO q aF XP YP l.row.toRowW d [] (λf vs=>PySem.call f vs):=by
 intro w s₀ s₁ mg mb G Y fa o pm cd doc dV kV ho hd hcd hD hmg hg args vals as hpre hlay hrd hwl hlo;obtain rfl:dV=.none:=Dflts.none hD hdf;obtain rfl:kV=.none:=Dflts.noKw hD;obtain⟨a,vs,ns,rfl,rfl,hobj,hints,aL⟩:=zdY hn hpre hwl;refine enter_call (codeAny_mono (call w s₀ s₁ mg mb fa o pm cd doc a vs ns G Y ho (fd_plain hd) hcd hmg hobj hints aL hg) λr s' hq=>?_);obtain⟨rfl,h2,h3,h4⟩:=hq;exact⟨.inl ⟨.bool true,.bool true,[],rfl,λ_=>rfl,.bool true,zcJ l _,λ_=>⟨List.Pairwise.nil,λ_ hm=>(nomatch hm)⟩⟩,h2,h3,h4⟩
section
variable {prog:Program}{w:World}{A:Around}{E:Value->Shared->Prop}{s:Shared}{K:Frag}
end
end Att
namespace L2
open PySem PySem.Spec PyProof.Rows
theorem PB:∀ {vs:List Value} {ns:List Int},IntsAre vs ns->Zt (ns.map V.int) vs
 | _,_,.nil=>.nil
 | _,_,.cons n t h=>.cons ⟨t,rfl⟩ (PB h)
def QZ (H:Hp):Prop:=∀b,H b=none\/∃o xs,H b=some (.frz o (.lst xs))
theorem E3 {P:Program}{w:World}{K:Fg}{mg mb:Str->Option Value}{CX:CXT}{k:Nat}{fa a:Addr}{fd:FuncData}{x:Str}{sp:Sp}{s₁:Shared}{vs:List Value}{ns:List Int}
  (KX:K.In s₁.heap)(hns:s₁.heap.Ns mainGlobals mg)(hb:s₁.heap.Ns builtinsNs mb)(hbb:∀x:Str,x≠"__name__"->mb x=bootBuiltins x)(hlim:s₁.heap.NoLimit)(hg:s₁.gens=#[])
  (ha:s₁.heap.get? a=some { cls:=.type "list",data:=.seq vs.toArray })(hi:IntsAre vs ns)(hl:ns.length<=sizeLine)(hr:ZG k callerA)
  (F:∀base:Heap,K.In base->base.Ns mainGlobals mg->Yj P w K mg base CX k fa fd [x] sp)(hbind:∀(s:Shared)(u:Value),BindsTo s fd ⟨[u],[]⟩ [(x,u)])
  (hsp:∀H:Hp,QZ H->SqL K H a (ns.map V.int)->sp [.ref a] H (λv _=>v=.bl true) λ_ _ _=>False)
  (hCX:∀H e s',CX [] H s₁ (λ_ _ _=>False) e s'->False):
  codeAny (model P w) callerA (.call (.ref fa) ⟨[.ref a],[]⟩) (λr s'=>r=.ok (.ret (.bool true))/\OldK s₁.heap s'.heap/\s'.os=s₁.os/\AllBare s'.gens) s₁:=by
 have rv:=PB hi
 have lenV:=hi.length
 have core:∀H:Hp,QZ H->SqL K H a (ns.map V.int)->HOk P w H s₁.heap->(∀b,H b≠none->b=a)->(H a≠none->K.lookup a=none)->
   codeAny (model P w) callerA (.call (.ref fa) ⟨[.ref a],[]⟩) (λr s'=>r=.ok (.ret (.bool true))/\OldK s₁.heap s'.heap/\s'.os=s₁.os/\AllBare s'.gens) s₁:=by
  intro H hO hS hok hA hK;have base_of:∀ {b:Addr} {o:Obj},s₁.heap.get? b=some o->H b=none->(VO s₁.heap H).get? b=some o:=λe n=>zcn e n
  have noA:∀ {b:Addr} {o:Obj} {es:Array DictEntry} {ep:Nat},s₁.heap.get? b=some o->o.data=.dict es ep->H b=none:=λ{b o es ep} e d=>by
   cases q:H b with
   | none=>rfl
   | some u=>
    have e':b=a:=hA b (by rw[q];simp);subst e';rw[ha] at e;cases e
    have d':Data.seq vs.toArray _=Data.dict es ep:=d;cases d'
  have nsK:∀ {b:Addr} {m:Str->Option Value},s₁.heap.Ns b m->(VO s₁.heap H).Ns b m:=λ{b m} ⟨o,es,ep,e,d,r⟩=>⟨o,es,ep,base_of e (noA e d),d,r⟩
  have hKb:K.In (VO s₁.heap H):=λb o e=>base_of (KX b o e) (by
   cases q:H b with
   | none=>rfl
   | some u=>
    have e':b=a:=hA b (by rw[q];simp);subst e';rw[hK (by rw[q];simp)] at e;cases e)
  have hM:Mod K mg (VO s₁.heap H):=⟨hKb,nsK hns,⟨mb,nsK hb,hbb⟩,let ⟨mc,h1,h2⟩:=hlim;⟨mc,nsK h1,h2⟩⟩
  have e0:VR P w K mg (VO s₁.heap H) callerA [] s₁ H:=⟨rfl,hM,λb o e=>Cn e,wD (zes _ _),trivial,λb hb=>absurd (show b∈([]:List Addr) from hb) (by simp),hok,.of_eq hg⟩;refine codeAny_mono ((F _ hKb (nsK hns)).run callerA [] s₁ H ⟨[.ref a],[]⟩ [.ref a] [.ref a] _ _ hr e0 (hbind s₁ (.ref a)) (.cons rfl .nil) (hsp H hO hS)) λr s' h=>?_
  cases r with
  | error e=>exact(hCX H e s' h).elim
  | ok fl=>
   cases fl with
   | next=>exact False.elim h
   | brk=>exact False.elim h
   | cont=>exact False.elim h
   | ret u=>
    obtain⟨v,H',os,bare,un,hok',r',q⟩:=h;have q':v=.bl true:=q;subst q';obtain rfl:u=Value.bool true:=r';refine⟨rfl,OldK.of_keep λb o e=>?_,os,bare⟩;cases q:H b with
    | none=>exact un.keep b o e q (by intro z;exact absurd (show b∈([]:List Addr) from z) (by simp)) (by simp)
    | some u=>
     rcases hO b with z|⟨ob,xs,z⟩
     .rw[q] at z;cases z
     .have z2:=un.frzs b ob _ z;obtain⟨e1,_⟩:=hok b _ z;obtain⟨e2,_⟩:=hok' b _ z2;rw[e] at e1;cases e1
      exact e2
 cases hk:K.lookup a with
 | some o=>
  have e:=KX a o hk;rw[ha] at e;cases e;refine core (λ_=>none) (λ_=>.inl rfl) (.inr ⟨_,vs.toArray,_,hk,rfl,rfl,rfl,by rw[zM,lenV];exact hl,by simpa using rv⟩) (λb u z=>by have z':(none:Option HO)=some u:=z;cases z') (λb z=>absurd rfl z) λz=>absurd rfl z
 | none=>
  refine core (λb=>if b=a then some (.frz { cls:=.type "list",data:=.seq vs.toArray } (.lst (ns.map V.int))) else none) (λb=>?_) (.inl (.inr ⟨{ cls:=.type "list",data:=.seq vs.toArray },if_pos rfl⟩)) (λb u z=>?_) (λb z=>?_) λ_=>hk
  .by_cases hb:b=a
   .exact .inr ⟨_,_,if_pos hb⟩
   .exact .inl (if_neg hb)
  .by_cases hb:b=a
   .have z':=(if_pos hb).symm.trans z;cases z';subst hb;exact⟨ha,by rw[zC];exact hl,vs,_,rv,ha⟩
   .have z':=(if_neg hb).symm.trans z;cases z'
  .by_cases hb:b=a
   .exact hb
   .exact absurd (if_neg hb) z
theorem C3 {l:W.OpenLaw}{n k:Nat}{q:Program}{aF:List Str}{XP:(Str->Option Value)->Heap->Prop}{YP:World->Heap->Prop}{d:DefRec}{K:Params->Fg}{CX:World->CXT}{sp:World->Sp}{x:Str}
  (hn:l.most=some n)(hn2:n<=sizeLine)(hdf:d.params.defaults=[])(hr:ZG k callerA)
  (hY:∀(w:World)(h:Heap),YP w h->(K w.params).In h)
  (F:∀(w:World)(mg:Str->Option Value)(fa:Addr)(h:Heap),(K w.params).In h->h.Ns mainGlobals mg->mg d.name=some (.ref fa)->
   ∃fd:FuncData,(∀(s:Shared)(u:Value),BindsTo s fd ⟨[u],[]⟩ [(x,u)])/\
    ∀base:Heap,(K w.params).In base->base.Ns mainGlobals mg->Yj l.prog w (K w.params) mg base (CX w) k fa fd [x] (sp w))
  (hsp:∀(w:World)(H:Hp)(a:Addr)(ns:List Int),ns.length<=n->QZ H->SqL (K w.params) H a (ns.map V.int)->sp w [.ref a] H (λv _=>v=.bl true) λ_ _ _=>False)
  (hCX:∀(w:World)(H:Hp)(s:Shared)(e:Value)(s':Shared),CX w [] H s (λ_ _ _=>False) e s'->False):
  W.WalkO q aF XP YP l.row.toRowW d [] (λf vs=>PySem.call f vs):=by
 refine Att.attach_call hn hdf λw s₀ s₁ mg mb fa o pm cd doc a vs ns G Y ho hd hcd hmg hobj hints aL hg=>?_
 have KX:=hY w _ Y;obtain⟨fd,hb,hF⟩:=F w mg fa _ KX G.T.g hmg;exact E3 KX G.T.g G.T.b G.T.builtins G.T.nolimit hg hobj hints (zW aL hn2) hr hF hb (λH hO hS=>hsp w H a ns aL hO hS) λH e s'=>hCX w H s₁ e s'
abbrev CX0:CXT:=λ_ _ _ _ _ _=>False
structure Fun (K:Fg)(x aG:Str)(st:Stmt)(f:Addr)(fd:FuncData):Prop where
 ex:∃(oc:Value)(od:Option Addr)(kV doc pm:Value)(an:Option Addr)(cdv ct:Value)(osl:Array (Option Value)),
  fd=W.fnOf x aG (UN st) (WN st) (Zr st) .none kV doc pm an cdv ct/\K.lookup f=some ⟨oc,od,.func fd,osl⟩/\W.codeIn K cdv aG=true
 kp:W.keepIn K (.ref f)=true
section
variable {P:Program}{w:World}{K:Fg}{mg:Str->Option Value}{base:Heap}
theorem Fun.ok {x aG:Str}{st:Stmt}{f:Addr}{fd:FuncData}{N ps:List Str}{k:Nat}{sp:Sp}(F:Fun K x aG st f fd)(S:ZE N ps (Zr st))(len:∀vs H Q E,sp vs H Q E->vs.length=ps.length)
  (hbody:∀(cdv:Value)(A:Around)(outer:List Env)(s:Shared)(H:Hp)(vs:List V)(Q:VK)(E:XK),ZG k (A.deeper (envOfC aG (Zr st) s.heap.objs.size f cdv))->sp vs H Q E->
   ∃t,PSs (YM CX0 P w K mg base N aG (Zr st) f cdv A outer s H E).nox (WN st) t/\t { nx:=λ_ H'=>Q .non H',rt:=Q } (WQ N vs) H):Yj P w K mg base CX0 (k+1) f fd ps sp:=by
 obtain⟨oc,od,kV,doc,pm,an,cdv,ct,osl,rfl,lk,hcd⟩:=F.ex;refine Jj lk hcd S len λA outer s H vs Q E hr hsp=>?_
 obtain⟨t,h,q⟩:=hbody cdv A outer s H vs Q E hr hsp;exact⟨t,h.nox,q⟩
theorem Fun.binds {x aG:Str}{st:Stmt}{f:Addr}{fd:FuncData}{ps:List Str}(F:Fun K x aG st f fd)
  (h:∀(kV doc pm:Value)(an:Option Addr)(cdv ct:Value)(us:List Value),us.length=ps.length->bindArgs (W.fnOf x aG (UN st) (WN st) (Zr st) .none kV doc pm an cdv ct) ⟨us,[]⟩=pure (ps.zip us)):Y5 K fd ps []:=by
 obtain⟨oc,od,kV,doc,pm,an,cdv,ct,osl,rfl,lk,hcd⟩:=F.ex;exact .all (h kV doc pm an cdv ct)
theorem OJ {x aG:Str}{st:Stmt}{f:Addr}{oc:Value}{od an:Option Addr}{osl:Array (Option Value)}{kV doc pm cdv ct:Value}(l:K.lookup f=some ⟨oc,od,.func (W.fnOf x aG (UN st) (WN st) (Zr st) .none kV doc pm an cdv ct),osl⟩)
  (c:W.codeIn K cdv aG=true)(k:W.keepIn K (.ref f)=true):Fun K x aG st f (W.fnOf x aG (UN st) (WN st) (Zr st) .none kV doc pm an cdv ct):=⟨⟨oc,od,kV,doc,pm,an,cdv,ct,osl,rfl,l,c⟩,k⟩
end
theorem Sr (h:n<=1000):n<sizeLine:=wK h ⋯
section
variable {X:Cx}
theorem pv (i:Nat)(hN:X.N[i]?=some x:=by rfl)(hv:Vis X.env.scope x:=by first|exact Or.inl rfl|exact Or.inr (Or.inl rfl)|exact Or.inr (Or.inr rfl))(hd:(x==("__debug__":Str))=false:=by decide)(hcd:(x==("__classdict__":Str))=false:=by decide):PE X (.Name x pos) (tVar i):=EA hN hv hd hcd
end
theorem ZH {A B:Prop}(h:B):if false=true then A else B:=by
 rw[if_neg zQ];exact h
theorem Yy {A B:Prop}(h:A):if true=true then A else B:=by
 rw[if_pos rfl];exact h
theorem ite2 {c A B:Prop} [Decidable c] (h1:c->A)(h2:¬ c->B):if c then A else B:=by
 by_cases h:c
 .rw[if_pos h];exact h1 h
 .rw[if_neg h];exact h2 h
section
variable {κ:Type} [DecidableEq κ]
def X5 (kvs:List (κ×V))(k:κ):Option V:=(kvs.find? λkv=>decide (kv.1=k)).map (·.2)
def putK (kvs:List (κ×V))(k:κ)(v:V):List (κ×V):=
 if (kvs.any λkv=>decide (kv.1=k))=true then kvs.map (λkv=>if kv.1=k then (kv.1,v) else kv) else kvs++[(k,v)]
theorem O3 {p:κ×V}{r:List (κ×V)}{k:κ}(e:p.1=k):X5 (p::r) k=some p.2:=by simp[X5,yL,e]
theorem Oz {p:κ×V}{r:List (κ×V)}{k:κ}(e:¬ p.1=k):X5 (p::r) k=X5 r k:=by simp[X5,yL,e]
theorem G6 (k:κ):∀kvs:List (κ×V),(kvs.any λkv=>decide (kv.1=k))=(X5 kvs k).isSome
 | []=>rfl
 | p::r=>by
  rw[yN];by_cases e:p.1=k
  .simp only[O3 e,decide_eq_true e,Bool.true_or,Option.isSome_some]
  .rw[Oz e,decide_eq_false e,Bool.false_or];exact G6 k r
theorem Kf (kvs:List (κ×V))(k:κ)(v:V):(putK kvs k v).length<=kvs.length+1:=by
 unfold putK;split
 .rw[zC];lia
 .rw[zF,zP,vM];lia
theorem Xz.isSome_eq (r:Xz o u):o.isSome=u.isSome:=by
 cases o with
 | none=>cases u with
  | none=>rfl
  | some _=>exact(show False from r).elim
 | some _=>cases u with
  | none=>exact(show False from r).elim
  | some _=>rfl
theorem KV.val {kvs:List (κ×V)}{vs:List (κ×Value)}(r:KV kvs vs)(k:κ):Xz (X5 kvs k) (valueAt vs k):=by
 unfold KV at r
 induction r with
 | nil=>exact True.intro
 | @cons p q ps qs h t ih=>
  obtain⟨h1,h2⟩:=h;by_cases e:p.1=k
  .have e':q.1=k:=h1.symm.trans e
   have b:valueAt (q::qs) k=some q.2:=by simp[valueAt,yL,e']
   rw[O3 e,b];exact h2
  .have e':¬ q.1=k:=λz=>e (h1.trans z)
   have b:valueAt (q::qs) k=valueAt qs k:=by simp[valueAt,yL,e']
   rw[Oz e,b];exact ih
theorem KV.any (r:KV kvs vs)(k:κ):(kvs.any λkv=>decide (kv.1=k))=vs.any λkv=>decide (kv.1=k):=by
 unfold KV at r
 induction r with
 | nil=>rfl
 | cons h t ih=>rw[yN,yN,ih,h.1]
theorem KV.repl (r:KV kvs vs)(k:κ)(ry:Zm y u):
  KV (kvs.map λkv=>if kv.1=k then (kv.1,y) else kv) (vs.map λkv=>if kv.1=k then (kv.1,u) else kv):=by
 unfold KV at r ⊢
 induction r with
 | nil=>exact .nil
 | @cons p q ps qs h t ih=>
  rw[zL,zL];refine .cons ?_ ih;obtain⟨h1,h2⟩:=h;by_cases e:p.1=k
  .rw[if_pos e,if_pos (h1.symm.trans e)];exact⟨h1,ry⟩
  .rw[if_neg e,if_neg (λz=>e (h1.trans z))];exact⟨h1,h2⟩
theorem KV.put (r:KV kvs vs)(k:κ)(ry:Zm y u):KV (putK kvs k y) (stored vs k u):=by
 unfold putK stored;rw[r.any k];by_cases e:(vs.any λkv=>decide (kv.1=k))=true
 .rw[if_pos e,if_pos e];exact r.repl k ry
 .rw[if_neg e,if_neg e];exact Paired.snoc r ⟨rfl,ry⟩
theorem KV.length (r:KV kvs vs):kvs.length=vs.length:=Paired.length r
end
theorem Ub (r:Zm (kV k) u):(Y8 P w).is k u=true:=by
 cases k with
 | inl i=>obtain⟨t,e⟩:=(show ∃t,u=Value.int i t from r);subst e;exact zah P w i t
 | inr x=>obtain⟨t,e⟩:=(show ∃t,u=Value.str x t from r);subst e;exact Qg P w x t
theorem Gy:∀ {ks:List Key} {us:List Value},Zt (ks.map kV) us->ItemsAre (Y8 P w) ks us
 | [],_,r=>by rw[wJ] at r;cases r;exact .nil
 | k::ks,_,r=>by
  rw[zL] at r;cases r with
  | cons h t=>exact .cons (Ub h) (Gy t)
abbrev KT (H:Hp):List (List Key×V)->List (List Key×Addr×Value)->Prop:=Paired λp q=>p.1=q.1/\H q.2.1=some (.tup (p.1.map kV))/\Zm p.2 q.2.2
theorem KT.val {H:Hp}{kvs:List (List Key×V)}{xs:List (List Key×Addr×Value)}(r:KT H kvs xs)(k:List Key):Xz (X5 kvs k) ((atKey xs k).map (·.2)):=by
 induction r with
 | nil=>exact True.intro
 | @cons p q ps qs h t ih=>
  obtain⟨h1,_,h2⟩:=h;by_cases e:p.1=k
  .have e':q.1=k:=h1.symm.trans e
   have b:atKey (q::qs) k=some q.2:=by simp[atKey,yL,e']
   rw[O3 e,b];exact h2
  .have e':¬ q.1=k:=λz=>e (h1.trans z)
   have b:atKey (q::qs) k=atKey qs k:=by simp[atKey,yL,e']
   rw[Oz e,b];exact ih
theorem KT.repl (r:KT H kvs xs)(k:List Key)(ry:Zm y u):
  KT H (kvs.map λkv=>if kv.1=k then (kv.1,y) else kv) (xs.map (putAt k u)):=by
 induction r with
 | nil=>exact .nil
 | @cons p q ps qs h t ih=>
  rw[zL,zL];refine .cons ?_ ih;obtain⟨h1,h2,h3⟩:=h;unfold putAt;by_cases e:p.1=k
  .rw[if_pos e,if_pos (h1.symm.trans e)];exact⟨h1,h2,ry⟩
  .rw[if_neg e,if_neg (λz=>e (h1.trans z))];exact⟨h1,h2,h3⟩
theorem KT.put (r:KT H kvs xs)(k:List Key)(hb:H b=some (.tup (k.map kV)))(ry:Zm y u):
  KT H (putK kvs k y) (storedH xs k b u):=by
 have e:(kvs.any λkv=>decide (kv.1=k))=(atKey xs k).isSome:=by
  rw[G6,(r.val k).isSome_eq,wL]
 unfold putK storedH;rw[e];by_cases q:(atKey xs k).isSome=true
 .rw[if_pos q,if_pos q];exact r.repl k ry
 .rw[if_neg q,if_neg q];exact Paired.snoc r ⟨rfl,hb,ry⟩
theorem KT.keeps (r:KT H kvs xs)(ht:∀b ys,H b=some (.tup ys)->H' b=some (.tup ys)):KT H' kvs xs:=
 Paired.mapP r λ_ _ z=>⟨z.1,ht _ _ z.2.1,z.2.2⟩
section
variable {P:Program}{w:World}{H:Hp}{h:Heap}{a:Addr}
theorem Hi (ok:HOk P w H h)(e:Rd H a u):Yw P w H h a u:=e.ok ok
theorem Ra (ok:HOk P w H h)(e:Rd H a (.dK kvs)):kvs.length<=sizeLine/\(a==sysModules)=false/\∃vs,KV kvs vs/\h.DictOf (Y8 P w) a vs:=
 show Yw P w H h a (.dK kvs) from Hi ok e
theorem Kq (ok:HOk P w H h)(e:H a=some (.dK kvs)):kvs.length<=sizeLine/\(a==sysModules)=false/\∃vs,KV kvs vs/\h.DictOf (Y8 P w) a vs:=Ra ok (.inl e)
theorem Ph {ks:List Key}(ok:HOk P w H h)(e:H a=some (.tup (ks.map kV))):(tupleKind (Y8 P w)).is h ks a:=by
 obtain⟨_,aQ,r,o,h1,h2,n,h3⟩:=(show Yw P w H h a (.tup (ks.map kV)) from ok a _ e);exact⟨o,aQ.toArray,n,h1,h2,h3,by simpa using Gy r⟩
theorem RT (ok:HOk P w H h)(e:Rd H a (.dT kvs)):kvs.length<=sizeLine/\(a==sysModules)=false/\
  ∃xs,KT H kvs xs/\h.DictOfH (tupleKind (Y8 P w)) a xs:=by
 obtain⟨z,y,xs,r,o,es,ep,h1,h2,h3,h4,h5⟩:=(show Yw P w H h a (.dT kvs) from Hi ok e);refine⟨z,y,xs,r,o,es,ep,h1,h2,h3,h4,λx hx=>?_,h5⟩;have all:∀ {l:List (List Key×V)} {m:List (List Key×Addr×Value)},KT H l m->∀x∈m,(tupleKind (Y8 P w)).is h x.1 x.2.1:=by
  intro l m q
  induction q with
  | nil=>intro x hx;exact nomatch hx
  | @cons p q ps qs hq t ih=>
   intro x hx;rcases zB.mp hx with e|hx
   .subst e;exact Ph ok (by rw[<- hq.1];exact hq.2.1)
   .exact ih x hx
 exact all r x hx
theorem dt_of (ok:HOk P w H h)(e:H a=some (.dT kvs)):kvs.length<=sizeLine/\(a==sysModules)=false/\
  ∃xs,KT H kvs xs/\h.DictOfH (tupleKind (Y8 P w)) a xs:=RT ok (.inl e)
end
def XS (H:Hp)(a:Addr)(y:V)(r:Option V):Prop:=
 (∃kvs k,Rd H a (.dK kvs)/\y=kV k/\r=X5 kvs k)\/∃kvs k b,Rd H a (.dT kvs)/\y=.ref b/\H b=some (.tup (k.map kV))/\r=X5 kvs k
def Ut (H:Hp)(a:Addr)(y v:V)(H':Hp):Prop:=
 (∃kvs k,H a=some (.dK kvs)/\y=kV k/\kvs.length<sizeLine/\H'=upd H a (.dK (putK kvs k v)))\/
 ∃kvs k b,H a=some (.dT kvs)/\y=.ref b/\H b=some (.tup (k.map kV))/\kvs.length<sizeLine/\H'=upd H a (.dT (putK kvs k v))
theorem XS.k {H:Hp}{a:Addr}{kvs:List (Key×V)}{k:Key}(e:H a=some (.dK kvs)):XS H a (kV k) (X5 kvs k):=.inl ⟨kvs,k,.inl e,rfl,rfl⟩
theorem XS.t {H:Hp}{a b:Addr}{kvs:List (List Key×V)}{k:List Key}(e:H a=some (.dT kvs))(eb:H b=some (.tup (k.map kV))):XS H a (.ref b) (X5 kvs k):=.inr ⟨kvs,k,b,.inl e,rfl,eb,rfl⟩
theorem Ut.k {H:Hp}{a:Addr}{kvs:List (Key×V)}{k:Key}{v:V}(e:H a=some (.dK kvs))(hl:kvs.length<sizeLine):Ut H a (kV k) v (upd H a (.dK (putK kvs k v))):=.inl ⟨kvs,k,e,rfl,hl,rfl⟩
theorem Ut.t {H:Hp}{a b:Addr}{kvs:List (List Key×V)}{k:List Key}{v:V}(e:H a=some (.dT kvs))(eb:H b=some (.tup (k.map kV)))(hl:kvs.length<sizeLine):
  Ut H a (.ref b) v (upd H a (.dT (putK kvs k v))):=.inr ⟨kvs,k,b,e,rfl,eb,hl,rfl⟩
section
variable {X:Cx}{aA:LA}{σ:St}{H:Hp}{s:Shared}{a:Addr}{y v:V}{u r:Value}{o:Option V}{A:Around}{E:Value->Shared->Prop}
theorem Inv.big (I:Inv X aA σ H s):sysModules<s.heap.objs.size:=by
 have h:mainGlobals<s.heap.objs.size:=(I.mod.glob.keeps I.bk).lt;exact Nat.lt_trans ⋯ h
theorem CH (hu:A.units+1<cLine)(I:Inv X aA σ H s)(g:XS H a y (some v))(ry:Zm y u)(h:∀w' s',Inv X aA σ H s'->Zm v w'->Q w' s'):
  wpAny (mX X) A (getItem (.ref a) u) Q E s:=by
 rcases g with ⟨kvs,k,e,ey,l⟩|⟨kvs,k,b,e,ey,eb,l⟩
 .subst ey;obtain⟨z,hd,vs,aS,dd⟩:=Ra I.hok e;obtain⟨w',hw,rw'⟩:=Xz.some_of (v:=v) (o:=valueAt vs k) (by rw[l];exact aS.val k);exact wpAny_getItem_of (Ub ry) dd.mapOf hw (h w' _ (I.tok _) rw')
 .subst ey;cases (show u=Value.ref b from ry);obtain⟨z,hd,xs,aS,dd⟩:=RT I.hok e;obtain⟨w',hw,rw'⟩:=Xz.some_of (v:=v) (o:=(atKey xs k).map (·.2)) (by rw[l];exact aS.val k);obtain⟨p,hp,hp2⟩:=yA.mp hw;refine wpAny_getItem_heap (tupleKind_room_in1 hu) (Ph I.hok eb) dd hp ?_;rw[hp2];exact h w' _ (I.tok _) rw'
theorem d_in (hu:A.units+1<cLine)(I:Inv X aA σ H s)(g:XS H a y o)(ry:Zm y u)(h:∀s',Inv X aA σ H s'->Q (.bool o.isSome) s'):
  wpAny (mX X) A (compareOp .In u (.ref a)) Q E s:=by
 rcases g with ⟨kvs,k,e,ey,l⟩|⟨kvs,k,b,e,ey,eb,l⟩
 .subst ey;obtain⟨z,hd,vs,aS,dd⟩:=Ra I.hok e;refine wpAny_in_of (Ub ry) hd dd.mapOf ?_;rw[<- (aS.val k).isSome_eq,<- l];exact h _ (I.tok _)
 .subst ey;cases (show u=Value.ref b from ry);obtain⟨z,hd,xs,aS,dd⟩:=RT I.hok e;refine wpAny_in_heap (tupleKind_room_in1 hu) (Ph I.hok eb) hd dd ?_;have q:=(aS.val k).isSome_eq;rw[wL] at q;rw[<- q,<- l];exact h _ (I.tok _)
theorem za0 (hu:A.units+1<cLine)(I:Inv X aA σ H s)(g:XS H a y o)(ry:Zm y u)(h:∀s',Inv X aA σ H s'->Q (.bool (!o.isSome)) s'):
  wpAny (mX X) A (compareOp .NotIn u (.ref a)) Q E s:=by
 rcases g with ⟨kvs,k,e,ey,l⟩|⟨kvs,k,b,e,ey,eb,l⟩
 .subst ey;obtain⟨z,hd,vs,aS,dd⟩:=Ra I.hok e;refine wpAny_notIn_of (Ub ry) hd dd.mapOf ?_;rw[<- (aS.val k).isSome_eq,<- l];exact h _ (I.tok _)
 .subst ey;cases (show u=Value.ref b from ry);obtain⟨z,hd,xs,aS,dd⟩:=RT I.hok e;refine wpAny_notIn_heap (tupleKind_room_in1 hu) (Ph I.hok eb) hd dd ?_;have q:=(aS.val k).isSome_eq;rw[wL] at q;rw[<- q,<- l];exact h _ (I.tok _)
theorem LM (I:Inv X aA σ H s)(mu:Mut (H a))(hs:Heap.SameBut a s.heap h')(he:∃q,h'.get? a=some q)(new:Yw X.prog X.w (upd H a ob) h' a ob):
  Inv X aA σ (upd H a ob) { s with heap:=h',toks:=t' }:=
 I.write (x:=a) (e:=a) mu (.inl rfl) (λb q hb z=>(hs.2 b hb).trans z) he new
theorem Lz (z:kvs.length<=sizeLine)(hd:(a==sysModules)=false)(aS:KV kvs vs)(dd:h'.DictOf (Y8 P w) a vs):
  Yw P w H' h' a (.dK kvs):=⟨z,hd,vs,aS,dd⟩
theorem BD (hu:A.units+1<cLine)(I:Inv X aA σ H s)(g:Ut H a y v H')(ry:Zm y u)(rv:Zm v r)(h:∀s',Inv X aA σ H' s'->Q Unit.unit s'):
  wpAny (mX X) A (setItem (.ref a) u r) Q E s:=by
 rcases g with ⟨kvs,k,e,ey,l,eH⟩|⟨kvs,k,b,e,ey,eb,l,eH⟩
 .subst ey eH;obtain⟨z,hd,vs,aS,dd⟩:=Kq I.hok e;have hz:vs.length<=sizeLine:=by rw[<- aS.length];exact z
  have hl:(putK kvs k v).length<=sizeLine:=by have:=Kf kvs k v;lia
  refine wpAny_setItem_pairs (hsz:=hz) (Ub ry) dd λh' dd' hs=>h _ ?_
  have he:∃q,h'.get? a=some q:=let ⟨q,_,_,hq,_⟩:=dd';⟨q,hq⟩
  exact LM I (by rw[e];exact True.intro) hs he (Lz hl hd (aS.put k rv) dd')
 .subst ey eH;cases (show u=Value.ref b from ry);obtain⟨z,hd,xs,aS,dd⟩:=dt_of I.hok e;have hz:xs.length<=sizeLine:=by rw[<- Paired.length aS];exact z
  have hl:(putK kvs k v).length<=sizeLine:=by have:=Kf kvs k v;lia
  refine wpAny_setItem_heap (hsz:=hz) (tupleKind_room_in1 hu) (Ph I.hok eb) dd λh' dd' hs=>h _ ?_
  obtain⟨q,es,ep,hq,h2,h3,h4,_,h5⟩:=dd';refine LM I (by rw[e];exact True.intro) hs ⟨q,hq⟩ ⟨hl,hd,_,(aS.put k eb rv).keeps λc ys ec=>?_,q,es,ep,hq,h2,h3,h4,h5⟩;rw[Z1 (Pt ec e (λz=>nomatch z))];exact ec
end
section
variable {X:Cx}{aA:LA}{σ:St}{H:Hp}{s:Shared}{a:Addr}{kvs:List (Key×V)}{k:Key}{u:Value}{A:Around}{E:Value->Shared->Prop}
end
def Tw (i:Expr):Prop:=∀ov iv,subscripted i false ov iv=operate [ov,iv] (getItem ov iv)
theorem G5 {prog:Program}{w:World}{A:Around}{E:Value->Shared->Prop}{s:Shared}{env:Env}{value slice:Expr}{pos:Pos}{T id:String}{Q:Value->Shared->Prop}
  (hl:typeLookup (.type T) "__getitem__"=pure (some (.builtin id)))(hs:Tw slice)
  (h:wpAny (model prog w) A (eval value env) (λo s₁=>wpAny (model prog w) A (eval slice env) (λi s₂=>s₂.TypeIs o T/\wpAny (model prog w) A (getItem o i) Q E s₂) E s₁) E s):
  wpAny (model prog w) A (eval (.Subscript value slice pos) env) Q E s:=by
 refine Subscript_ (wpAny_mono h (λo s₁ h₁=>wpAny_mono h₁ (λi s₂ h₂=>?_) λ_ _ x=>x) λ_ _ x=>x);obtain⟨hT,h₂⟩:=h₂;unfold subscriptTail;refine wpAny_bind ?_;rw[getitemInPython_of_ne hT.not_modules];refine wpAny_bind (wpAny_specialOf hT hl ?_);have aR:wpAny (model prog w) A (subscripted slice false o i) (λr s₃=>wpAny (model prog w) A (letTemporaryGo value o r >>= λ_=>pure r) Q E s₃) E s₂:=by
  rw[hs o i];exact wpAny_operating (wpAny_mono h₂ (λr s₃ h₃=>wpAny_bind (wpAny_letTemporaryGo (wpAny_pure h₃))) λ_ _ x=>x)
 first
  | exact wpAny_pure (wpAny_bind aR)
  | exact wpAny_bind (wpAny_pure (wpAny_bind aR))
  | exact wpAny_bind aR
theorem E5 (I:Inv X aA σ H s)(g:XS H a y o):s.TypeIs (.ref a) "dict":=by
 rcases g with ⟨kvs,k,e,_,_⟩|⟨kvs,k,b,e,_,_,_⟩
 .obtain⟨_,_,vs,_,dd⟩:=Ra I.hok e;exact dd.typeIs
 .obtain⟨_,_,xs,_,dd⟩:=RT I.hok e;exact dd.typeIs
def tDGet (td ty:TE):TE:=λσ H Q=>td σ H λx H1=>ty σ H1 λy H2=>∃a v,x=.ref a/\XS H2 a y (some v)/\Q v H2
def tDIn (ty td:TE):TE:=λσ H Q=>ty σ H λy H1=>td σ H1 λx H2=>∃a o,x=.ref a/\XS H2 a y o/\Q (.bl o.isSome) H2
def Em (ty td:TE):TE:=λσ H Q=>ty σ H λy H1=>td σ H1 λx H2=>∃a o,x=.ref a/\XS H2 a y o/\Q (.bl (!o.isSome)) H2
def sDPut (td ty tv:TE):TS:=λD σ H=>tv σ H λv H1=>td σ H1 λx H2=>ty σ H2 λy H3=>∃a H4,x=.ref a/\Ut H3 a y v H4/\D.nx σ H4
section
variable {X:Cx}{o i e value:Expr}{pos pos' tpos:Pos}{td ty tv:TE}
theorem F0 (hu:X.A.units+1<cLine)(ho:PE X o td)(hi:PE X i ty)(hs:Tw i):PE X (.Subscript o i pos) (tDGet td ty):=by
 intro aA s σ H Q I h;refine G5 PySem.F.slot_dict_getitem.lookup hs (thn (ho aA s σ H _ I h) λu s1 ⟨x,H1,I1,rx,q1⟩=>thn (hi aA s1 σ H1 _ I1 q1) λiv s2 ⟨y,H2,I2,ry,a,v,ex,g,q2⟩=>?_);subst ex;obtain rfl:u=Value.ref a:=rx;exact⟨E5 I2 g,CH hu I2 g ry λw' s3 I3 rw'=>⟨v,H2,I3,rw',q2⟩⟩
theorem JQ (hu:X.A.units+1<cLine)(hi:PE X i ty)(ho:PE X o td):PC X .In i o (tDIn ty td):=by
 intro aA s σ H Q I h;refine thn (hi aA s σ H _ I h) λiv s1 ⟨y,H1,I1,ry,q1⟩=>thn (ho aA s1 σ H1 _ I1 q1) λu s2 ⟨x,H2,I2,rx,a,ov,ex,g,q2⟩=>?_
 subst ex;obtain rfl:u=Value.ref a:=rx;exact d_in hu I2 g ry λs3 I3=>⟨.bl ov.isSome,H2,I3,rfl,q2⟩
theorem Cw (hu:X.A.units+1<cLine)(hi:PE X i ty)(ho:PE X o td):PC X .NotIn i o (Em ty td):=by
 intro aA s σ H Q I h;refine thn (hi aA s σ H _ I h) λiv s1 ⟨y,H1,I1,ry,q1⟩=>thn (ho aA s1 σ H1 _ I1 q1) λu s2 ⟨x,H2,I2,rx,a,ov,ex,g,q2⟩=>?_
 subst ex;obtain rfl:u=Value.ref a:=rx;exact za0 hu I2 g ry λs3 I3=>⟨.bl (!ov.isSome),H2,I3,rfl,q2⟩
theorem Ij (hu:X.A.units+1<cLine)(ho:PE X o td)(hi:PE X i ty)(hv:PE X value tv)(hs:swapsWith value (some (.Subscript o i pos')) pos.line X.env=pure false):
  PS X (.Assign [.Subscript o i pos'] value pos) (sDPut td ty tv):=by
 intro aA s σ H D I h;refine wpAny_Assign_Subscript (thn (hv aA s σ H _ I h) λr s1 ⟨v,H1,I1,rv,q1⟩=>thn (ho aA s1 σ H1 _ I1 q1) λu s2 ⟨x,H2,I2,rx,q2⟩=>thn (hi aA s2 σ H2 _ I2 q2) λiv s3 ⟨y,H3,I3,ry,a,H4,ex,g,q3⟩=>?_) hs;subst ex;obtain rfl:u=Value.ref a:=rx;exact BD hu I3 g ry rv λs4 I4=>⟨σ,H4,I4,q3⟩
end
theorem FY (h:Heap)(hb:sysModules<h.objs.size):Yw P w H (h.push { cls:=.type "dict",data:=.dict #[] }) h.objs.size (.dK []):=
 ⟨zS _,beq_eq_false_iff_ne.mpr (Ne.symm (zI hb)),[],.nil,Heap.DictOf.new h⟩
theorem zbQ (h:Heap)(hb:sysModules<h.objs.size):Yw P w H (h.push { cls:=.type "dict",data:=.dict #[] }) h.objs.size (.dT []):=
 ⟨zS _,beq_eq_false_iff_ne.mpr (Ne.symm (zI hb)),[],.nil,_,#[],0,Heap.get?_push_size _ rfl,⟨rfl,rfl,rfl⟩,rfl,rfl,yQ⟩
def zbS:TE:=λ_ H Q=>∀p,H p=none->Q (.ref p) (upd H p (.dK []))
def BZ:TE:=λ_ H Q=>∀p,H p=none->Q (.ref p) (upd H p (.dT []))
section
variable {X:Cx}{pos:Pos}
theorem zex:PE X (.Dict [] [] pos) zbS:=λaA s σ H Q I h=>
 wpAny_Dict_empty ⟨.ref s.heap.objs.size,_,I.laid (a:=s.heap.objs.size) (o:=.dK []) (t':=s.toks) (λ_ _ q=>Heap.get?_push_of_some _ q) (zA _) (FY s.heap I.big),rfl,h _ (I.hok.fresh (zA _))⟩
theorem DG:PE X (.Dict [] [] pos) BZ:=λaA s σ H Q I h=>
 wpAny_Dict_empty ⟨.ref s.heap.objs.size,_,I.laid (a:=s.heap.objs.size) (o:=.dT []) (t':=s.toks) (λ_ _ q=>Heap.get?_push_of_some _ q) (zA _) (zbQ s.heap I.big),rfl,h _ (I.hok.fresh (zA _))⟩
end
def Mo:List (TE×TE)->St->Hp->(List (V×V)->Hp->Prop)->Prop
 | [],_,H,Q=>Q [] H
 | (tk,tv)::r,σ,H,Q=>tk σ H λx H1=>tv σ H1 λy H2=>Mo r σ H2 λps H3=>Q ((x,y)::ps) H3
abbrev VV:List (V×V)->List (Value×Value)->Prop:=Paired λp q=>Zm p.1 q.1/\Zm p.2 q.2
def PPs (X:Cx)(pos:Pos)(keys:List (Option Expr))(values:List Expr)(trs:List (TE×TE)):Prop:=
 ∀(aA:LA)(s:Shared)(σ:St)(H:Hp)(Q:List (V×V)->Hp->Prop),Inv X aA σ H s->Mo trs σ H Q->
  wpAny (mX X) X.A (evalPairs (pairTrees keys values X.env pos)) (λvs s'=>∃ps H',Inv X aA σ H' s'/\VV ps vs/\Q ps H') X.xe s
theorem za7:PPs X pos [] [] []:=λaA s σ H Q I h=>pairTrees_nil_walk ⟨[],H,I,.nil,h⟩
theorem BP {X:Cx}{pos:Pos}{k v:Expr}{ks:List (Option Expr)}{vs:List Expr}{tk tv:TE}{trs:List (TE×TE)}(hk:PE X k tk)(hv:PE X v tv)(hr:PPs X pos ks vs trs):
  PPs X pos (some k::ks) (v::vs) ((tk,tv)::trs):=λaA s σ H Q I h=>
 pairTrees_cons_walk (thn (hk aA s σ H _ I h) λu s1 ⟨x,H1,I1,rx,q1⟩=>thn (hv aA s1 σ H1 _ I1 q1) λw2 s2 ⟨y,H2,I2,ry,q2⟩=>
  thn (hr aA s2 σ H2 _ I2 q2) λws s3 ⟨ps,H3,I3,aS,q3⟩=>⟨(x,y)::ps,H3,I3,.cons ⟨rx,ry⟩ aS,q3⟩)
def U0 (kvs more:List (Key×V)):List (Key×V):=more.foldl (λacc kv=>putK acc kv.1 kv.2) kvs
theorem KV.merge:∀ {more:List (Key×V)} {rs:List (Key×Value)} {kvs:List (Key×V)} {vs:List (Key×Value)},KV more rs->KV kvs vs->KV (U0 kvs more) (merged vs rs):=by
 intro more rs kvs vs r;unfold KV at r
 induction r generalizing kvs vs with
 | nil=>intro q;exact q
 | @cons p q ps qs h t ih=>
  intro r0;have e:KV (putK kvs p.1 p.2) (stored vs q.1 q.2):=by
   have:=r0.put p.1 h.2;rw[<- h.1];exact this
  exact ih e
theorem GA:∀(more kvs:List (Key×V)),(U0 kvs more).length<=kvs.length+more.length
 | [],kvs=>by show kvs.length<=kvs.length+0;lia
 | p::r,kvs=>by
  have h1:=GA r (putK kvs p.1 p.2)
  have h2:=Kf kvs p.1 p.2
  show (U0 (putK kvs p.1 p.2) r).length<=_;rw[zP];lia
theorem Ic:∀ {kvs:List (Key×V)} {ws:List (Value×Value)},VV (kvs.map λkv=>(kV kv.1,kv.2)) ws->∃rs,Carries (Y8 P w) ws rs/\KV kvs rs
 | [],_,r=>by rw[wJ] at r;cases r;exact⟨[],True.intro,.nil⟩
 | p::kvs,_,r=>by
  rw[zL] at r;cases r with
  | @cons a b as bs h t=>
   obtain⟨rs,c,q⟩:=Ic (P:=P) (w:=w) t;obtain⟨b1,b2⟩:=b;exact⟨(p.1,b2)::rs,⟨Ub h.1,rfl,c⟩,.cons ⟨rfl,h.2⟩ q⟩
def tDisp (trs:List (TE×TE)):TE:=λσ H Q=>∀p,H p=none->Mo trs σ (upd H p (.dK [])) λps H2=>H2 p=some (.dK [])/\∃kvs:List (Key×V),ps=kvs.map (λkv=>(kV kv.1,kv.2))/\kvs.length<=15/\Q (.ref p) (upd H2 p (.dK (U0 [] kvs)))
theorem zaa (h:PPs X pos keys values trs)(hall:keys.all (·.isSome)=true)(hl:keys.length=values.length)(h0:keys≠[])(h15:keys.length<=15):PE X (.Dict keys values pos) (tDisp trs):=by
 intro aA s σ H Q I q;have hn:=I.hok.fresh (zA s.heap.objs.size)
 have I1:=I.laid (a:=s.heap.objs.size) (o:=.dK []) (h':=s.heap.push { cls:=.type "dict",data:=.dict #[] }) (t':=s.toks) (λ_ _ q=>Heap.get?_push_of_some _ q) (zA _) (FY s.heap I.big);refine wpAny_Dict_walk (knd:=Y8 X.prog X.w) hall hl h0 h15 (thn (h aA _ σ _ _ I1 (q _ hn)) λws s2 ⟨ps,H2,I2,aS,e,kvs,ep,lk,q2⟩=>?_);subst ep;obtain⟨rs,c,rk⟩:=Ic (P:=X.prog) (w:=X.w) aS;obtain⟨z,hd,vs0,r0,dd⟩:=Kq I2.hok e;cases r0;refine⟨rs,c,dd,λh' dd' hs=>⟨.ref s.heap.objs.size,_,?_,rfl,q2⟩⟩;have hz:(U0 [] kvs).length<=sizeLine:=by
  have h1:=GA kvs [];rw[vM] at h1;rw[sizeLine_eq];lia
 have he:∃q,h'.get? s.heap.objs.size=some q:=let ⟨q,_,_,hq,_⟩:=dd';⟨q,hq⟩
 exact LM I2 (by rw[e];exact True.intro) hs he (Lz hz hd (rk.merge .nil) dd')
structure M1 (X:Cx)(o:Expr)(m:Str)(aI:Pos)(e:Expr)(aH:Pos):Prop where
 base:attributeBase o m X.env (eval o X.env)=eval o X.env
 few:((backTo aH (starEach [e] X.env)).all (λx=>!x.1)&&(backToKw aH (keywordEach [] X.env)).all (λx=>x.1.isSome)
 &&decide (([e]:List Expr).length+([]:List Keyword).length+(if ([]:List Keyword).isEmpty then 0 else 1)<30))=true
 line:(aI.endLine==aH.line)=true
 trees:backTo aH (starEach [e] X.env)=[(false,eval e X.env)]
structure M2 (X:Cx)(o:Expr)(m:Str)(aI:Pos)(e f:Expr)(aH:Pos):Prop where
 base:attributeBase o m X.env (eval o X.env)=eval o X.env
 few:((backTo aH (starEach [e,f] X.env)).all (λx=>!x.1)&&(backToKw aH (keywordEach [] X.env)).all (λx=>x.1.isSome)
 &&decide (([e,f]:List Expr).length+([]:List Keyword).length+(if ([]:List Keyword).isEmpty then 0 else 1)<30))=true
 line:(aI.endLine==aH.line)=true
 trees:backTo aH (starEach [e,f] X.env)=[(false,eval e X.env),(false,eval f X.env)]
section
variable {X:Cx}{aA:LA}{σ:St}{H:Hp}{s:Shared}{a:Addr}{y d:V}{u r:Value}{o:Option V}{A:Around}{E:Value->Shared->Prop}
end
section
variable {X:Cx}{o e f:Expr}{aI aH:Pos}{td ty tx:TE}
end
section
variable {X:Cx}{aA:LA}{σ:St}{H:Hp}{s:Shared}{a:Addr}{kvs:List (Key×V)}{A:Around}{E:Value->Shared->Prop}
theorem zcT (I:Inv X aA σ H s)(e:Rd H a (.dK kvs))(h:∀p s',H p=none->Inv X aA σ (upd H p (.dK kvs)) s'->Q (.ref p) s'):wpAny (mX X) A (call (.type "dict") [.ref a]) Q E s:=by
 obtain⟨z,hd,vs,aS,dd⟩:=Ra I.hok e;refine kt_call_dict hd dd (by rw[<- aS.length];exact z) λh' dd' hs=>?_
 refine h _ _ (I.hok.fresh (zA _)) (I.laid (a:=s.heap.objs.size) (o:=.dK kvs) (t':=s.toks) (λb q hq=>?_) (zA _) (Lz z (beq_eq_false_iff_ne.mpr (Ne.symm (zI I.big))) aS dd'));exact(hs.2 b (zI (Heap.lt_size hq))).trans (Heap.get?_push_of_some _ hq)
end
section
variable {X:Cx}{aA:LA}{σ:St}{H:Hp}{s:Shared}{a:Addr}{y:V}{u:Value}{A:Around}{E:Value->Shared->Prop}
end
end L2
namespace L3
open PySem PySem.Spec PyProof.Rows L2
abbrev St:=L2.St
inductive D where
 | non|bl (b:Bool)|int (i:Int)|str (x:Str)|tup (xs:List D)|ref (n:Nat)|exc (c:Addr)
inductive Ob where
 | lst (xs:List D)|frz (xs:List D)
  | ins (C:Addr) (fs:List (Str×D))
  | dct (kvs:List (List Key×D))
  | tpl (ws:List Str)
  | dck (kvs:List (Key×D))
  | cod (P:Addr) (pos:Pos) (q:Str)
abbrev Sto:=List Ob
abbrev Ev:=List (Option D)
abbrev DK:=D->Sto->Prop
abbrev TDE:=Ev->Sto->DK->Prop
abbrev TDT:=Ev->Sto->(Bool->Sto->Prop)->Prop
abbrev TDA:=Ev->Sto->(List D->Sto->Prop)->Prop
structure YS where
 nx:Ev->Sto->Prop
 rt:DK
 bk:Ev->Sto->Prop:=λ_ _=>False
 ct:Ev->Sto->Prop:=λ_ _=>False
abbrev TDS:=YS->Ev->Sto->Prop
def isX (a c:Addr):HO:=.ext λh=>∃o,h.get? a=some o/\o.cls=.ref c
inductive Rp (r:List Addr)(H:Hp):D->V->Prop
 | non:Rp r H .non .non
 | bl (b:Bool):Rp r H (.bl b) (.bl b)
 | int (i:Int):Rp r H (.int i) (.int i)
 | str (x:Str):Rp r H (.str x) (.str x)
 | tup {ds:List D} {xs:List V} {a:Addr}:H a=some (.tup xs)->ds.length=xs.length->(∀(i:Nat)(d:D)(v:V),ds[i]?=some d->xs[i]?=some v->Rp r H d v)->Rp r H (.tup ds) (.ref a)
 | ref {n:Nat} {a:Addr}:r[n]?=some a->Rp r H (.ref n) (.ref a)
 | exc {c a:Addr}:H a=some (isX a c)->Rp r H (.exc c) (.ref a)
def Rps (r:List Addr)(H:Hp)(ds:List D)(vs:List V):Prop:=ds.length=vs.length/\∀(i:Nat)(d:D)(v:V),ds[i]?=some d->vs[i]?=some v->Rp r H d v
structure Ext (r r':List Addr)(H H':Hp):Prop where
 adr:∀(n:Nat)(a:Addr),r[n]?=some a->r'[n]?=some a
 tup:∀a xs,H a=some (.tup xs)->H' a=some (.tup xs)
 xc:∀a φ,H a=some (.ext φ)->H' a=some (.ext φ)
section
variable {r r' r2:List Addr}{H H' H2:Hp}{d:D}{v:V}{ds:List D}{vs:List V}
theorem Ext.refl:Ext r r H H:=⟨λ_ _ h=>h,λ_ _ h=>h,λ_ _ h=>h⟩
theorem Ext.trans (a:Ext r r' H H')(b:Ext r' r2 H' H2):Ext r r2 H H2:=⟨λn x h=>b.adr n x (a.adr n x h),λx y h=>b.tup x y (a.tup x y h),λx y h=>b.xc x y (a.xc x y h)⟩
theorem Rp.ext (h:Rp r H d v)(e:Ext r r' H H'):Rp r' H' d v:=by
 induction h with
 | non=>exact .non
 | bl b=>exact .bl b
 | int i=>exact .int i
 | str x=>exact .str x
 | tup h l _ ih=>exact .tup (e.tup _ _ h) l ih
 | ref h=>exact .ref (e.adr _ _ h)
 | exc h=>exact .exc (e.xc _ _ h)
theorem Rps.ext (h:Rps r H ds vs)(e:Ext r r' H H'):Rps r' H' ds vs:=⟨h.1,λi d v h1 h2=>(h.2 i d v h1 h2).ext e⟩
theorem Rps.nil:Rps r H [] []:=⟨rfl,λi d v h=>by simp at h⟩
theorem Rps.cons (h:Rp r H d v)(t:Rps r H ds vs):Rps r H (d::ds) (v::vs):=by
 refine⟨by simp[t.1],λi x y h1 h2=>?_⟩;cases i with
 | zero=>
  simp at h1 h2;subst h1;subst h2
  exact h
 | succ i=>exact t.2 i x y (by simpa using h1) (by simpa using h2)
theorem Rps.tail (h:Rps r H (d::ds) (y::vs)):Rp r H d y/\Rps r H ds vs:=
 ⟨h.2 0 d y rfl rfl,by simpa using h.1,λi a b h1 h2=>h.2 (i+1) a b (by simpa using h1) (by simpa using h2)⟩
theorem Rps.uncons (h:Rps r H (d::ds) vs):∃v vs',vs=v::vs'/\Rp r H d v/\Rps r H ds vs':=by
 cases vs with
 | nil=>exact absurd h.1 (by simp)
 | cons v vs'=>exact⟨v,vs',rfl,h.tail⟩
theorem Rps.unnil (h:Rps r H [] vs):vs=[]:=by
 cases vs with
 | nil=>rfl
 | cons v vs'=>exact absurd h.1 (by simp)
theorem Rps.get {i:Nat}(h:Rps r H ds vs)(e:ds[i]?=some d):∃v,vs[i]?=some v/\Rp r H d v:=by
 have hi:i<ds.length:=(zE.mp e).1
 have hv:i<vs.length:=by rw[<- h.1];exact hi
 exact⟨vs[i],by simp[hv],h.2 i d vs[i] e (by simp[hv])⟩
theorem Rps.get' {i:Nat}(h:Rps r H ds vs)(e:vs[i]?=some v):∃d,ds[i]?=some d/\Rp r H d v:=by
 have hv:i<vs.length:=(zE.mp e).1
 have hi:i<ds.length:=by rw[h.1];exact hv
 exact⟨ds[i],by simp[hi],h.2 i ds[i] v (by simp[hi]) e⟩
theorem Rps.snoc (h:Rps r H ds vs)(t:Rp r H d v):Rps r H (ds++[d]) (vs++[v]):=by
 refine⟨by simp[h.1],λi x y h1 h2=>?_⟩;by_cases hi:i<ds.length
 .rw[zY hi] at h1;rw[zY (by rw[<- h.1];exact hi)] at h2;exact h.2 i x y h1 h2
 .have hl:i<(ds++[d]).length:=(zE.mp h1).1
  have e:i=ds.length:=by simp at hl;lia
  subst e;rw[yC (zA _)] at h1;rw[h.1,yC (zA _)] at h2;simp at h1 h2;subst h1;subst h2
  exact t
theorem Rps.tupR (h:Rps r H ds vs)(e:H a=some (.tup vs)):Rp r H (.tup ds) (.ref a):=.tup e h.1 h.2
theorem Rp.untup {vs:V}(h:Rp r H (.tup ds) vs):∃a xs,vs=.ref a/\H a=some (.tup xs)/\Rps r H ds xs:=by
 cases h with
 | tup e l f=>exact⟨_,_,rfl,e,l,f⟩
end
def SqF (K:Fg)(H:Hp)(a:Addr)(xs:List V):Prop:=
 (∃o,H a=some (.frz o (.lst xs)))\/
  ∃(o:Obj)(aQ:Array Value)(n:Nat),K.lookup a=some o/\o.cls=.type "list"/\o.dict=none/\o.data=.seq aQ n/\aQ.size<=sizeLine/\Zt xs aQ.toList
theorem SqF.sql {K:Fg}{H:Hp}{a:Addr}{xs:List V}(h:SqF K H a xs):SqL K H a xs:=by
 rcases h with ⟨o,h⟩|h
 .exact .inl (.inr ⟨o,h⟩)
 .exact .inr h
def FR {α:Type}(r:List Addr)(H:Hp)(fs:List (α×D))(fs':List (α×V)):Prop:=fs.map (·.1)=fs'.map (·.1)/\Rps r H (fs.map (·.2)) (fs'.map (·.2))
theorem FR.ext {α:Type}{r r':List Addr}{H H':Hp}{fs:List (α×D)}{fs':List (α×V)}(h:FR r H fs fs')(e:Ext r r' H H'):FR r' H' fs fs':=⟨h.1,h.2.ext e⟩
theorem FR.nil {α:Type}{r:List Addr}{H:Hp}:FR (α:=α) r H [] []:=⟨rfl,Rps.nil⟩
def Tab (pos:Pos)(q:Str)(H:Hp)(ps:Array Value):Prop:=TriplesOk ps.toList/\(codeAmong pos ps.toList=none\/∃c,codeAmong pos ps.toList=some (.ref c)/\H c=some (.ext λh=>h.CodeRec (.ref c) q))
theorem Tab.same {pos:Pos}{q:Str}{H H':Hp}{ps:Array Value}(h:Tab pos q H ps)(e:∀b φ,H b=some (.ext φ)->H' b=some (.ext φ)):Tab pos q H' ps:=⟨h.1,h.2.imp id λ⟨c,a,b⟩=>⟨c,a,e _ _ b⟩⟩
def ObR (K:Fg)(r:List Addr)(H:Hp)(a:Addr):Ob->Prop
 | .lst ds=>∃xs,H a=some (.lst xs)/\Rps r H ds xs
 | .frz ds=>∃xs,SqF K H a xs/\Rps r H ds xs
 | .ins C fs=>∃dx fs',H a=some (.ins C dx fs')/\FR r H fs fs'
 | .dct kvs=>∃kvs',H a=some (.dT kvs')/\FR r H kvs kvs'
 | .dck kvs=>∃kvs',H a=some (.dK kvs')/\FR r H kvs kvs'
 | .tpl ws=>∃(o:Obj)(aQ:Array Value)(n:Nat),K.lookup a=some o/\o.cls=.type "tuple"/\o.data=.seq aQ n/\aQ.size<=sizeLine/\Zt (ws.map V.str) aQ.toList
 | .cod P pos q=>a=P/\∃ps,H a=some (.tbl ps)/\Tab pos q H ps
def VA:Ob->Bool
 | .frz _=>false
 | .tpl _=>false
 | _=>true
structure Z5 (K:Fg)(r:List Addr)(S:Sto)(H:Hp):Prop where
 len:r.length=S.length
 ob:∀(n:Nat)(a:Addr)(o:Ob),r[n]?=some a->S[n]?=some o->ObR K r H a o
 nd:∀(n m:Nat)(a:Addr)(o u:Ob),r[n]?=some a->r[m]?=some a->S[n]?=some o->S[m]?=some u->VA o=true->VA u=true->n=m
def ZC:Ob->List D
 | .lst ds=>ds
 | .frz ds=>ds
 | _=>[.exc 0]
def Wl:Ob->Option Ob
 | .lst ds=>some (.lst ds)
 | .frz ds=>some (.frz ds)
 | _=>none
def lAt (S:Sto)(n:Nat):Option Ob:=(S[n]?).bind Wl
theorem zdq (h:Wl o=some u):u=o:=by
 cases o<;>simp[Wl] at h<;>exact h.symm
theorem XM {S:Sto}{n:Nat}{o:Ob}(h:lAt S n=some o):S[n]?=some o/\Wl o=some o:=by
  unfold lAt at h;cases q:S[n]? with
  | none=>
   rw[q] at h;cases h
  | some u=>
    rw[q] at h;have h':Wl u=some o:=h
    have e:=zdq h';subst e;exact⟨rfl,h'⟩
theorem Yo {S:Sto}{n:Nat}{o:Ob}(h:S[n]?=some o)(hL:Wl o=some o):lAt S n=some o:=by
 unfold lAt;rw[h];exact hL
section
variable {K:Fg}{r r':List Addr}{S:Sto}{H H':Hp}{n:Nat}{a p:Addr}
theorem Z5.at {o:Ob}(h:Z5 K r S H)(e:S[n]?=some o):∃a,r[n]?=some a/\ObR K r H a o:=by
 have hn:n<S.length:=(zE.mp e).1
 have hr:n<r.length:=by rw[h.len];exact hn
 exact⟨r[n],by simp[hr],h.ob n r[n] o (by simp[hr]) e⟩
theorem ObR.list {o:Ob}(h:ObR K r H a o)(hL:Wl o=some o):∃xs,SqL K H a xs/\Rps r H (ZC o) xs:=by
 cases o with
 | lst ds=>obtain⟨xs,e,q⟩:=h;exact⟨xs,SqL.of e,q⟩
 | frz ds=>obtain⟨xs,e,q⟩:=h;exact⟨xs,e.sql,q⟩
 | ins C fs=>cases hL
 | dct kvs=>cases hL
 | dck kvs=>cases hL
 | tpl ws=>cases hL
 | cod P pos q=>cases hL
theorem ObR.keep {o:Ob}(q:ObR K r H a o)(x:Ext r r' H H')(ha:∀u,H a=some u->H' a=some u):ObR K r' H' a o:=by
 cases o with
 | lst ds=>obtain⟨xs,h3,h4⟩:=q;exact⟨xs,ha _ h3,h4.ext x⟩
 | frz ds=>
  obtain⟨xs,h3,h4⟩:=q;refine⟨xs,?_,h4.ext x⟩;rcases h3 with ⟨o,h3⟩|h3
  .exact .inl ⟨o,ha _ h3⟩
  .exact .inr h3
 | ins C fs=>obtain⟨dx,fs',h3,h4⟩:=q;exact⟨dx,fs',ha _ h3,h4.ext x⟩
 | dct kvs=>obtain⟨ks,h3,h4⟩:=q;exact⟨ks,ha _ h3,h4.ext x⟩
 | dck kvs=>obtain⟨ks,h3,h4⟩:=q;exact⟨ks,ha _ h3,h4.ext x⟩
 | tpl ws=>exact q
 | cod P pos q'=>obtain⟨e,ps,h3,h4⟩:=q;exact⟨e,ps,ha _ h3,h4.same x.xc⟩
theorem ObR.own {o:Ob}(q:ObR K r H a o)(h:VA o=true):∃u,H a=some u/\(∀xs,u≠HO.tup xs)/\(∀φ,u≠HO.ext φ)/\∀z y,u≠HO.frz z y:=by
 cases o with
 | lst ds=>obtain⟨xs,h3,h4⟩:=q;exact⟨_,h3,(λ_ z=>by cases z),(λ_ z=>by cases z),(λ_ _ z=>by cases z)⟩
 | frz ds=>cases h
 | tpl ws=>cases h
 | ins C fs=>obtain⟨dx,fs',h3,h4⟩:=q;exact⟨_,h3,(λ_ z=>by cases z),(λ_ z=>by cases z),(λ_ _ z=>by cases z)⟩
 | dct kvs=>obtain⟨ks,h3,h4⟩:=q;exact⟨_,h3,(λ_ z=>by cases z),(λ_ z=>by cases z),(λ_ _ z=>by cases z)⟩
 | dck kvs=>obtain⟨ks,h3,h4⟩:=q;exact⟨_,h3,(λ_ z=>by cases z),(λ_ z=>by cases z),(λ_ _ z=>by cases z)⟩
 | cod P pos q'=>obtain⟨_,ps,h3,_⟩:=q;exact⟨_,h3,(λ_ z=>by cases z),(λ_ z=>by cases z),(λ_ _ z=>by cases z)⟩
theorem Z5.same (h:Z5 K r S H)(e:∀b o,H b=some o->H' b=some o):Z5 K r S H':=
 ⟨h.len,λn a o h1 h2=>(h.ob n a o h1 h2).keep ⟨λ_ _ q=>q,λa xs q=>e _ _ q,λa c q=>e _ _ q⟩ (e a),h.nd⟩
theorem X8 {o:HO}(h:H p=none):∀b u,H b=some u->(upd H p o) b=some u:=λb u q=>by rw[Z1 (X2 q h)];exact q
theorem Tg (e:(r++[p])[n]?=some b):(n<r.length/\r[n]?=some b)\/(n=r.length/\b=p):=by
 by_cases hn:n<r.length
 .rw[zY hn] at e;exact .inl ⟨hn,e⟩
 .have hl:n<(r++[p]).length:=(zE.mp e).1
  have en:n=r.length:=by simp at hl;lia
  subst en;rw[yC (zA _)] at e;simp at e;exact .inr ⟨rfl,e.symm⟩
theorem Z5.pushO (h:Z5 K r S H)(hp:H p=none)(keep:∀b u,H b=some u->H' b=some u)(q:Ext r (r++[p]) H H'->ObR K (r++[p]) H' p o):Z5 K (r++[p]) (S++[o]) H'/\Ext r (r++[p]) H H':=by
 have x:Ext r (r++[p]) H H':=⟨λn a e=>by
  have hn:n<r.length:=(zE.mp e).1;rw[zY hn];exact e,λa ys e=>keep _ _ e,λa c e=>keep _ _ e⟩
 have sS:∀ {n:Nat} {u:Ob},n<r.length->(S++[o])[n]?=some u->S[n]?=some u:=λ{n u} hn e=>by
  rw[zY (by rw[<- h.len];exact hn)] at e;exact e
 refine⟨⟨by simp[h.len],λn a u h1 h2=>?_,λn m a u w h1 h2 h3 h4 o1 o2=>?_⟩,x⟩
 .rcases Tg h1 with ⟨hn,e⟩|⟨rfl,rfl⟩
  .exact(h.ob n a u e (sS hn h2)).keep x (keep a)
  .rw[h.len,yC (zA _)] at h2;simp at h2;subst h2;exact q x
 .rcases Tg h1 with ⟨hn,e⟩|⟨rfl,rfl⟩
  .rcases Tg h2 with ⟨hm,e'⟩|⟨rfl,rfl⟩
   .exact h.nd n m a u w e e' (sS hn h3) (sS hm h4) o1 o2
   .obtain⟨zs,h5,_⟩:=(h.ob n _ _ e (sS hn h3)).own o1;rw[hp] at h5;cases h5
  .rcases Tg h2 with ⟨hm,e'⟩|⟨rfl,_⟩
   .obtain⟨zs,h5,_⟩:=(h.ob m _ _ e' (sS hm h4)).own o2;rw[hp] at h5;cases h5
   .rfl
theorem Z5.pushF (h:Z5 K r S H)(ho:VA o=false)(q:ObR K (r++[p]) H p o):Z5 K (r++[p]) (S++[o]) H/\Ext r (r++[p]) H H:=by
 have x:Ext r (r++[p]) H H:=⟨λn a e=>by
  have hn:n<r.length:=(zE.mp e).1;rw[zY hn];exact e,λa ys e=>e,λa c e=>e⟩
 have sS:∀ {n:Nat} {u:Ob},n<r.length->(S++[o])[n]?=some u->S[n]?=some u:=λ{n u} hn e=>by
  rw[zY (by rw[<- h.len];exact hn)] at e;exact e
 have sL:∀ {u:Ob},(S++[o])[r.length]?=some u->u=o:=λ{u} e=>by
  rw[h.len,yC (zA _)] at e;simp at e;exact e.symm
 refine⟨⟨by simp[h.len],λn a u h1 h2=>?_,λn m a u w h1 h2 h3 h4 o1 o2=>?_⟩,x⟩
 .rcases Tg h1 with ⟨hn,e⟩|⟨rfl,rfl⟩
  .exact(h.ob n a u e (sS hn h2)).keep x λ_ e=>e
  .rw[sL h2];exact q
 .rcases Tg h1 with ⟨hn,e⟩|⟨rfl,rfl⟩
  .rcases Tg h2 with ⟨hm,e'⟩|⟨rfl,rfl⟩
   .exact h.nd n m a u w e e' (sS hn h3) (sS hm h4) o1 o2
   .rw[sL h4,ho] at o2;cases o2
  .rw[sL h3,ho] at o1;cases o1
theorem Z5.push {ds:List D}{xs:List V}(h:Z5 K r S H)(hp:H p=none)(q:Rps r H ds xs):Z5 K (r++[p]) (S++[.lst ds]) (upd H p (.lst xs))/\Ext r (r++[p]) H (upd H p (.lst xs)):=
 h.pushO hp (X8 hp) λx=>⟨xs,Y1,q.ext x⟩
theorem Z5.setO (h:Z5 K r S H)(hn:r[n]?=some a)(hS:S[n]?=some o)(ho:VA o=true)(ho':VA o'=true)(q:Ext r r H (upd H a u)->ObR K r (upd H a u) a o'):Z5 K r (S.set n o') (upd H a u)/\Ext r r H (upd H a u):=by
 obtain⟨u0,h0,t1,t2,t3⟩:=(h.ob n a _ hn hS).own ho;have x:Ext r r H (upd H a u):=⟨λ_ _ e=>e,λb zs e=>by
  rw[Z1 (Pt e h0 (λz=>t1 zs z.symm))];exact e,λb c e=>by
  rw[Z1 (Pt e h0 (λz=>t2 c z.symm))];exact e⟩
 have hlt:n<S.length:=(zE.mp hS).1
 have off:∀ {m:Nat} {w:Ob},m≠n->(S.set n o')[m]?=some w->S[m]?=some w:=λ{m w} hm e=>by
  rw[yD (Ne.symm hm)] at e;exact e
 refine⟨⟨by simp[h.len],λm b w h1 h2=>?_,λm k b w y h1 h2 h3 h4 o1 o2=>?_⟩,x⟩
 .by_cases hm:m=n
  .subst hm;rw[hn] at h1;cases h1
   rw[yI hlt] at h2;cases h2;exact q x
  .have h2':=off hm h2
   have q':=h.ob m b w h1 h2';by_cases hw:VA w=true
   .have hb:b≠a:=λz=>hm (by subst z;exact h.nd m n b w o h1 hn h2' hS hw ho)
    exact q'.keep x λz e=>by rw[Z1 hb];exact e
   .cases w with
    | frz es=>
     obtain⟨zs,h3,h4⟩:=q';refine⟨zs,?_,h4.ext x⟩;rcases h3 with ⟨z,h3⟩|h3
     .exact .inl ⟨z,by rw[Z1 (Pt h3 h0 (λy=>t3 _ _ y.symm))];exact h3⟩
     .exact .inr h3
    | tpl ws=>exact q'
    | _=>exact absurd rfl hw
 .have back:∀ {j:Nat} {w:Ob},(S.set n o')[j]?=some w->VA w=true->∃y,S[j]?=some y/\VA y=true:=λ{j w} e ow=>by
   by_cases hj:j=n
   .subst hj;exact⟨o,hS,ho⟩
   .exact⟨w,off hj e,ow⟩
  obtain⟨us',h3',q3⟩:=back h3 o1;obtain⟨ws',h4',q4⟩:=back h4 o2;exact h.nd m k b us' ws' h1 h2 h3' h4' q3 q4
theorem Z5.set {ds ds':List D}{xs:List V}(h:Z5 K r S H)(hn:r[n]?=some a)(hS:S[n]?=some (.lst ds))(q:Rps r H ds' xs):Z5 K r (S.set n (.lst ds')) (upd H a (.lst xs))/\Ext r r H (upd H a (.lst xs)):=
 h.setO hn hS rfl rfl λx=>⟨xs,Y1,q.ext x⟩
end
def Rs (r:List Addr)(H:Hp)(dl:Ev)(σ:St):Prop:=dl.length=σ.length/\∀(i:Nat)(d:D),dl[i]?=some (some d)->∃v,σ[i]?=some (some v)/\Rp r H d v
theorem Rs.ext {r r':List Addr}{H H':Hp}{dl:Ev}{σ:St}(h:Rs r H dl σ)(e:Ext r r' H H'):Rs r' H' dl σ:=⟨h.1,λi d q=>by
 obtain⟨v,h1,h2⟩:=h.2 i d q;exact⟨v,h1,h2.ext e⟩⟩
theorem Rs.set {r:List Addr}{H:Hp}{dl:Ev}{σ:St}{d:D}{v:V}(i:Nat)(h:Rs r H dl σ)(q:Rp r H d v):Rs r H (dl.set i (some d)) (σ.set i (some v)):=by
 refine⟨by simp[h.1],λj e hj=>?_⟩;by_cases hij:i=j
 .subst hij;have hl:i<dl.length:=by
   have:=(zE.mp hj).1;simpa using this
  rw[yI hl] at hj;cases hj;exact⟨v,by rw[yI (by rw[<- h.1];exact hl)],q⟩
 .rw[yD hij] at hj;obtain⟨v',h1,h2⟩:=h.2 j e hj;exact⟨v',by rw[yD hij];exact h1,h2⟩
structure Zx where
 ex:Ev->Addr->Sto->Prop
 w:St->XK
abbrev Zc (ex:Addr->Sto->Prop)(E:XK):Zx:=⟨λ_=>ex,λ_=>E⟩
def UL (K:Fg)(Z:Zx)(r:List Addr)(H:Hp):Prop:=∀(dl:Ev)(σ:St)(c:Addr)(H':Hp)(r':List Addr)(S':Sto),Ext r r' H H'->Rs r' H' dl σ->Z5 K r' S' H'->Z.ex dl c S'->Z.w σ (.ref c) none H'
theorem UL.ext {K:Fg}{Z:Zx}{r r':List Addr}{H H':Hp}(h:UL K Z r H)(e:Ext r r' H H'):UL K Z r' H':=λdl σ c H2 r2 S2 x=>h dl σ c H2 r2 S2 (e.trans x)
structure Rel (K:Fg)(Z:Zx)(r:List Addr)(S:Sto)(H:Hp):Prop where
 b:Z5 K r S H
 xw:UL K Z r H
section
variable {K:Fg}{Z:Zx}{r r':List Addr}{S:Sto}{H H':Hp}{n:Nat}{a p:Addr}
theorem Rel.len (h:Rel K Z r S H):r.length=S.length:=h.b.len
theorem Rel.at {o:Ob}(h:Rel K Z r S H)(e:S[n]?=some o):∃a,r[n]?=some a/\ObR K r H a o:=h.b.at e
theorem Rel.same (h:Rel K Z r S H)(e:∀b o,H b=some o->H' b=some o):Rel K Z r S H':=⟨h.b.same e,h.xw.ext ⟨λ_ _ q=>q,λa xs q=>e _ _ q,λa c q=>e _ _ q⟩⟩
theorem Rel.push {ds:List D}{xs:List V}(h:Rel K Z r S H)(hp:H p=none)(q:Rps r H ds xs):Rel K Z (r++[p]) (S++[.lst ds]) (upd H p (.lst xs))/\Ext r (r++[p]) H (upd H p (.lst xs)):=by
 obtain⟨h1,h2⟩:=h.b.push hp q;exact⟨⟨h1,h.xw.ext h2⟩,h2⟩
theorem Rel.set {ds ds':List D}{xs:List V}(h:Rel K Z r S H)(hn:r[n]?=some a)(hS:S[n]?=some (.lst ds))(q:Rps r H ds' xs):Rel K Z r (S.set n (.lst ds')) (upd H a (.lst xs))/\Ext r r H (upd H a (.lst xs)):=by
 obtain⟨h1,h2⟩:=h.b.set hn hS q;exact⟨⟨h1,h.xw.ext h2⟩,h2⟩
end
def Ret (K:Fg)(Z:Zx)(r:List Addr)(H:Hp)(Q:DK)(Qv:VK):Prop:=∀v H' r' d S',Ext r r' H H'->Rel K Z r' S' H'->Rp r' H' d v->Q d S'->Qv v H'
theorem Ret.ext {K:Fg}{Z:Zx}{r r':List Addr}{H H':Hp}{Q:DK}{Qv:VK}(h:Ret K Z r H Q Qv)(e:Ext r r' H H'):Ret K Z r' H' Q Qv:=λv H2 r2 d S2 x=>h v H2 r2 d S2 (e.trans x)
def up (K:Fg)(Z:Zx)(t:TDE):TE:=λσ H Qv=>∃r dl S Q,Rs r H dl σ/\Rel K Z r S H/\t dl S Q/\Ret K Z r H Q Qv
def upT (K:Fg)(Z:Zx)(t:TDT):TT:=λσ H Qb=>∃r dl S Q,Rs r H dl σ/\Rel K Z r S H/\t dl S Q/\∀b H' r' S',Ext r r' H H'->Rel K Z r' S' H'->Q b S'->Qb b H'
def upA (K:Fg)(Z:Zx)(t:TDA):TA:=λσ H Qv=>∃r dl S Q,Rs r H dl σ/\Rel K Z r S H/\t dl S Q/\∀vs H' r' ds S',Ext r r' H H'->Rel K Z r' S' H'->Rps r' H' ds vs->Q ds S'->Qv vs H'
structure V2 (K:Fg)(Z:Zx)(r:List Addr)(H:Hp)(E:YS)(F:Va):Prop where
 nx:∀σ' H' r' dl' S',Ext r r' H H'->Rs r' H' dl' σ'->Rel K Z r' S' H'->E.nx dl' S'->F.nx σ' H'
 bk:∀σ' H' r' dl' S',Ext r r' H H'->Rs r' H' dl' σ'->Rel K Z r' S' H'->E.bk dl' S'->F.bk σ' H'
 ct:∀σ' H' r' dl' S',Ext r r' H H'->Rs r' H' dl' σ'->Rel K Z r' S' H'->E.ct dl' S'->F.ct σ' H'
 rt:Ret K Z r H E.rt F.rt
theorem V2.ext {K:Fg}{Z:Zx}{r r':List Addr}{H H':Hp}{E:YS}{F:Va}(h:V2 K Z r H E F)(e:Ext r r' H H'):V2 K Z r' H' E F:=
 ⟨λa b c d f x=>h.nx a b c d f (e.trans x),λa b c d f x=>h.bk a b c d f (e.trans x),λa b c d f x=>h.ct a b c d f (e.trans x),h.rt.ext e⟩
def upS (K:Fg)(Z:Zx)(t:TDS):TS:=λF σ H=>∃r dl S E,Rs r H dl σ/\Rel K Z r S H/\t E dl S/\V2 K Z r H E F
def PD (X:Cx)(Z:Zx)(e:Expr)(t:TDE):Prop:=PE X e (up X.K Z t)
def PDT (X:Cx)(Z:Zx)(e:Expr)(t:TDT):Prop:=PT X e (upT X.K Z t)
def PDW (X:Cx)(Z:Zx)(e:Expr)(t:TDT):Prop:=PW X e (upT X.K Z t)
def PDA (X:Cx)(Z:Zx)(es:List Expr)(t:TDA):Prop:=PA X es (upA X.K Z t)
def PDS (X:Cx)(Z:Zx)(st:Stmt)(t:TDS):Prop:=PS X st (upS X.K Z t)
def Xy (X:Cx)(Z:Zx)(st:List Stmt)(t:TDS):Prop:=PSs X st (upS X.K Z t)
section
variable {X:Cx}{Z:Zx}
theorem ZO (h:PE X e t)(f:∀σ H Q,t' σ H Q->t σ H Q):PE X e t':=λaA s σ H Q I q=>h aA s σ H Q I (f σ H Q q)
theorem U9 (h:PT X e t)(f:∀σ H Q,t' σ H Q->t σ H Q):PT X e t':=λaA s σ H Q I q=>h aA s σ H Q I (f σ H Q q)
theorem FD (h:PW X e t)(f:∀σ H Q,t' σ H Q->t σ H Q):PW X e t':=λwh aA s σ H Q I q=>h wh aA s σ H Q I (f σ H Q q)
theorem J3 (h:PA X e t)(f:∀σ H Q,t' σ H Q->t σ H Q):PA X e t':=λpos aA s σ H Q I q=>h pos aA s σ H Q I (f σ H Q q)
theorem XT {e:Stmt}{t t':TS}(h:PS X e t)(f:∀F σ H,t' F σ H->t F σ H):PS X e t':=λaA s σ H F I q=>h aA s σ H F I (f F σ H q)
theorem Gd (h:PSs X e t)(f:∀F σ H,t' F σ H->t F σ H):PSs X e t':=λaA s σ H F I q=>h aA s σ H F I (f F σ H q)
theorem PDW.pt (h:PDW X Z e t):PDT X Z e t:=PW.pt h
def Y9 (i:Nat):TDE:=λdl S Q=>match dl[i]? with
 | some (some d)=>Q d S
 | _=>False
def dC (d:D):TDE:=λ_ S Q=>Q d S
theorem zcK (h:PE X e (tVar i)):PD X Z e (Y9 i):=ZO h λσ H Qv ⟨r,dl,S,Q,rs,aS,q,ret⟩=>by
 unfold Y9 at q;split at q
 .rename_i d e;obtain⟨v,h1,h2⟩:=rs.2 i d e;exact⟨v,h1,ret v H r d S Ext.refl aS h2 q⟩
 .exact q.elim
theorem dv (i:Nat)(hN:X.N[i]?=some x:=by rfl)(hv:Vis X.env.scope x:=by first|exact Or.inl rfl|exact Or.inr (Or.inl rfl)|exact Or.inr (Or.inr rfl))(hd:(x==("__debug__":Str))=false:=by decide)(hcd:(x==("__classdict__":Str))=false:=by decide):PD X Z (.Name x pos) (Y9 i):=zcK (EA hN hv hd hcd)
theorem L4 (h:PE X e (tC v))(q:∀r H,Rp r H d v):PD X Z e (dC d):=ZO h λσ H Qv ⟨r,dl,S,Q,rs,aS,h,ret⟩=>ret v H r d S Ext.refl aS (q r H) h
theorem Ze {i j pos}:PD X Z (.Constant (.int i) j pos) (dC (.int i)):=L4 zcW λ_ _=>.int i
theorem XZ {b j pos}:PD X Z (.Constant (.bool b) j pos) (dC (.bl b)):=L4 pe_bl λ_ _=>.bl b
theorem Zj {x j pos}:PD X Z (.Constant (.str x) j pos) (dC (.str x)):=L4 FA λ_ _=>.str x
abbrev W2:=D->D->Sto->DK->Prop
abbrev W1:=D->Sto->DK->Prop
def upO (K:Fg)(Z:Zx)(w:W2):R2:=λx y H Qv=>∃r S dx dy Q,Rel K Z r S H/\Rp r H dx x/\Rp r H dy y/\w dx dy S Q/\Ret K Z r H Q Qv
def upU (K:Fg)(Z:Zx)(w:W1):V->Hp->VK->Prop:=λx H Qv=>∃r S dx Q,Rel K Z r S H/\Rp r H dx x/\w dx S Q/\Ret K Z r H Q Qv
def dOp (w:W2)(ta tb:TDE):TDE:=λdl S Q=>ta dl S λx S1=>tb dl S1 λy S2=>w x y S2 Q
def dUn (w:W1)(ta:TDE):TDE:=λdl S Q=>ta dl S λx S1=>w x S1 Q
variable {a b c:Expr}{ta tb tc:TDE}{pos:Pos}
theorem Ol (h:up X.K Z (dOp w ta tb) σ H Qv):tOp (upO X.K Z w) (up X.K Z ta) (up X.K Z tb) σ H Qv:=by
 obtain⟨r,dl,S,Q,rs,aS,h,ret⟩:=h;exact⟨r,dl,S,_,rs,aS,h,λv H1 r1 dx S1 e1 aB p1 h1=>⟨r1,dl,S1,_,rs.ext e1,aB,h1,λv2 H2 r2 dy S2 e2 aC p2 h2=>⟨r2,S2,dx,dy,Q,aC,p1.ext e2,p2,h2,ret.ext (e1.trans e2)⟩⟩⟩
theorem Zo (ho:OpR X (binaryOp op) (upO X.K Z w))(ha:PD X Z a ta)(hb:PD X Z b tb):PD X Z (.BinOp a op b pos) (dOp w ta tb):=ZO (pe_op ho ha hb) λ_ _ _ h=>Ol h
theorem NG (ho:UnR X (unaryOp op) (upU X.K Z w))(ha:PD X Z a ta):PD X Z (.UnaryOp op a pos) (dUn w ta):=ZO (pe_un ho ha) λσ H Qv ⟨r,dl,S,Q,rs,aS,h,ret⟩=>
 ⟨r,dl,S,_,rs,aS,h,λv H1 r1 dx S1 e1 aB p1 h1=>⟨r1,S1,dx,Q,aB,p1,h1,ret.ext e1⟩⟩
theorem XF (ho:OpR X (compareOp op) (upO X.K Z w))(ha:PD X Z a ta)(hb:PD X Z b tb)(hm:behindInMarks op b=false):PD X Z (.Compare a [op] [b] pos) (dOp w ta tb):=ZO (F6 ho ha hb hm) λ_ _ _ h=>Ol h
theorem SW {f:Value->Value->Sem Value}{r r':R2}(h:OpR X f r)(g:∀x y H Q,r' x y H Q->r x y H Q):OpR X f r':=λaA s σ H x y v u Q I rx ry q=>h aA s σ H x y v u Q I rx ry (g x y H Q q)
theorem A7 {f:Value->Sem Value}{r r':V->Hp->VK->Prop}(h:UnR X f r)(g:∀x H Q,r' x H Q->r x H Q):UnR X f r':=λaA s σ H x v Q I rx q=>h aA s σ H x v Q I rx (g x H Q q)
theorem SJ {f:Value}{r r':List V->Hp->VK->Prop}(h:YJ X f r)(g:∀x H Q,r' x H Q->r x H Q):YJ X f r':=λaA s σ H xs us Q I rx q=>h aA s σ H xs us Q I rx (g xs H Q q)
def wI (C:Int->Int->Prop)(g:Int->Int->D):W2:=λx y S Q=>match x,y with
 | .int i,.int j=>C i j/\Q (g i j) S
 | _,_=>False
def wI0 (g:Int->Int->D):W2:=λx y S Q=>match x,y with
 | .int i,.int j=>Q (g i j) S
 | _,_=>False
theorem opD (h:OpR X f (rI C g))(hg:∀r H i j,Rp r H (g' i j) (g i j)):OpR X f (upO X.K Z (wI C g')):=
 SW h λx y H Qv ⟨r,S,dx,dy,Q,aS,px,py,q,ret⟩=>by
  cases px<;>cases py<;>first
   | exact⟨_,_,rfl,rfl,q.1,ret _ _ _ _ _ Ext.refl aS (hg _ _ _ _) q.2⟩
   | exact(show False from q).elim
theorem Sf (h:OpR X f (rI0 g))(hg:∀r H i j,Rp r H (g' i j) (g i j)):OpR X f (upO X.K Z (wI0 g')):=
 SW h λx y H Qv ⟨r,S,dx,dy,Q,aS,px,py,q,ret⟩=>by
  cases px<;>cases py<;>first
   | exact⟨_,_,rfl,rfl,ret _ _ _ _ _ Ext.refl aS (hg _ _ _ _) q⟩
   | exact(show False from q).elim
abbrev wAdd:W2:=wI0 λi j=>.int (i+j)
abbrev wSub:W2:=wI0 λi j=>.int (i-j)
abbrev wMul:W2:=wI IntMulOk λi j=>.int (i*j)
def CFd (_ j:Int):Prop:=0<j/\j.natAbs.log2<9000
abbrev wFdiv:W2:=wI CFd λi j=>.int (i/j)
def CFn (_ j:Int):Prop:=j≠0/\j.natAbs.log2<9000
abbrev zbN:W2:=wI CFn λi j=>.int (i.fdiv j)
abbrev wMod:W2:=wI (λ_ j=>0<j) λi j=>.int (i%j)
abbrev wPow:W2:=wI CPow λi j=>.int (i^j.toNat)
theorem WX:OpR X (binaryOp .Add) (upO X.K Z wAdd):=Sf zdV λ_ _ _ _=>.int _
theorem S7:OpR X (binaryOp .Sub) (upO X.K Z wSub):=Sf zbE λ_ _ _ _=>.int _
theorem Wt:OpR X (binaryOp .Mult) (upO X.K Z wMul):=opD (opI λ_ _ _ _ _ _ _ hc q=>mul_int q hc) λ_ _ _ _=>.int _
theorem F3:OpR X (binaryOp .FloorDiv) (upO X.K Z wFdiv):=opD (opI λi j _ _ _ _ _ hc q=>floordiv_int (by have h:0<j:=hc.1;lia) (by have h:0<j:=hc.1;rw[Int.fdiv_eq_ediv_of_nonneg i ()];exact q) (.inl (PyProof.noPylong_of_log2 hc.2))) λ_ _ _ _=>.int _
theorem GW:OpR X (binaryOp .FloorDiv) (upO X.K Z zbN):=opD (opI λ_ _ _ _ _ _ _ hc q=>floordiv_int hc.1 q (.inl (PyProof.noPylong_of_log2 hc.2))) λ_ _ _ _=>.int _
theorem Pj:OpR X (binaryOp .Mod) (upO X.K Z wMod):=opD zca λ_ _ _ _=>.int _
theorem zbm:OpR X (binaryOp .Pow) (upO X.K Z wPow):=opD DX λ_ _ _ _=>.int _
abbrev wLt:W2:=wI0 λi j=>.bl (decide (i<j))
abbrev wLe:W2:=wI0 λi j=>.bl (decide (i<=j))
abbrev wGt:W2:=wI0 λi j=>.bl (decide (j<i))
abbrev wGe:W2:=wI0 λi j=>.bl (decide (j<=i))
theorem Wg:OpR X (compareOp .Lt) (upO X.K Z wLt):=Sf op_lt λ_ _ _ _=>.bl _
theorem JO:OpR X (compareOp .LtE) (upO X.K Z wLe):=Sf op_le λ_ _ _ _=>.bl _
theorem UE:OpR X (compareOp .Gt) (upO X.K Z wGt):=Sf op_gt λ_ _ _ _=>.bl _
theorem do_ge:OpR X (compareOp .GtE) (upO X.K Z wGe):=Sf op_ge λ_ _ _ _=>.bl _
def wNeg:W1:=λx S Q=>match x with
 | .int i=>Q (.int (-i)) S
 | _=>False
theorem NP:UnR X (unaryOp .USub) (upU X.K Z wNeg):=A7 AZ λx H Qv ⟨r,S,dx,Q,aS,px,q,ret⟩=>by
 cases px<;>first
  | exact⟨_,rfl,ret _ _ _ _ _ Ext.refl aS (.int _) q⟩
  | exact(show False from q).elim
end
def eqF:D->D->Option Bool
 | .non,.non=>some true
 | .bl i,.bl j=>some (i==j)
 | .int i,.int j=>some (decide (i=j))
 | .str i,.str j=>some (decide (i=j))
 | .non,.int _=>some false|.int _,.non=>some false|.non,.bl _=>some false|.bl _,.non=>some false|.non,.str _=>some false|.str _,.non=>some false
 | .int _,.str _=>some false|.str _,.int _=>some false|.bl _,.str _=>some false|.str _,.bl _=>some false
 | _,_=>none
def eqL (f:D->D->Option Bool):List D->List D->Option Bool
 | [],[]=>some true
 | x::xs,y::ys=>match f x y,eqL f xs ys with
  | some b,some c=>some (b&&c)
  | _,_=>none
 | _,_=>some false
def eqT (f:D->D->Option Bool):D->D->Option Bool
 | .tup xs,.tup ys=>eqL f xs ys
 | x,y=>eqF x y
abbrev eq1:D->D->Option Bool:=eqT eqF
abbrev eq2:D->D->Option Bool:=eqT eq1
def Uo (n:Nat)(f:D->D->Option Bool):Prop:=∀(X:Cx)(aA:LA)(σ:St)(H:Hp)(s:Shared)(r:List Addr)(A:Around)(dx dy:D)(x y:V)(u v:Value)(b:Bool),
 Inv X aA σ H s->A.units+n<cLine->Rp r H dx x->Rp r H dy y->Zm x u->Zm y v->f dx dy=some b->SeqAt.EqAt A s u v b
def TF (f:D->D->Option Bool):Prop:=∀(r:List Addr)(H:Hp)(dx dy:D)(x:V)(b:Bool),Rp r H dx x->Rp r H dy x->f dx dy=some b->b=true
theorem SE:TF eqF:=by
 intro r H dx dy x b px py e;cases px<;>cases py<;>simp[eqF] at e<;>first|exact e.symm|exact e
theorem IU {f:D->D->Option Bool}(hf:TF f){r:List Addr}{H:Hp}:∀ {xs ys:List D} {vs:List V} {b:Bool},Rps r H xs vs->Rps r H ys vs->eqL f xs ys=some b->b=true
 | [],[],_,b,_,_,e=>by simp[eqL] at e;exact e
 | [],y::ys,vs,b,p,q,e=>by
  have h1:=p.unnil;subst h1;exact absurd q.1 (by simp)
 | x::xs,[],vs,b,p,q,e=>by
  have h1:=q.unnil;subst h1;exact absurd p.1 (by simp)
 | x::xs,y::ys,vs,b,p,q,e=>by
  obtain⟨v,vs',rfl,p1,p2⟩:=p.uncons;obtain⟨q1,q2⟩:=q.tail;unfold eqL at e;split at e
  .rename_i b1 c1 e1 e2;have h1:=hf r H x y v b1 p1 q1 e1
   have h2:=IU hf p2 q2 e2;subst h1;subst h2
   simp at e;exact e
  .cases e
theorem FH (hf:TF f):TF (eqT f):=by
 intro r H dx dy x b px py e;cases px with
 | tup e1 l1 f1=>
  cases py with
  | tup e2 l2 f2=>
   rw[e1] at e2;cases e2
   exact IU hf ⟨l1,f1⟩ ⟨l2,f2⟩ e
  | ref h=>simp[eqT,eqF] at e
  | exc h=>simp[eqT,eqF] at e
 | non=>exact SE r H _ _ _ b .non py (by cases py<;>exact e)
 | bl i=>exact SE r H _ _ _ b (.bl i) py (by cases py<;>exact e)
 | int i=>exact SE r H _ _ _ b (.int i) py (by cases py<;>exact e)
 | str i=>exact SE r H _ _ _ b (.str i) py (by cases py<;>exact e)
 | ref h=>cases py<;>simp[eqT,eqF] at e
 | exc h=>cases py<;>simp[eqT,eqF] at e
theorem Mu (n:Nat):Uo n eqF:=by
 intro X aA σ H s r A dx dy x y u v b I hu px py rx ry e;have aR:∀ {x y:V},Zm x u->Zm y v->WT x=true->WT y=true->eqV x y=b->SeqAt.EqAt A s u v b:=λrx ry fx fy e'=>by
  subst e';exact Gs rx ry fx fy
 cases px<;>cases py<;>simp[eqF] at e<;>refine aR rx ry rfl rfl ?_<;>simp[eqV,e]<;>first|exact e|(subst e;simp)|skip
theorem UI (I:Inv X aA σ H s)(h:H a=some (.tup xs)):∃aQ:List Value,Zt xs aQ/\IsTup s.heap a aQ.toArray/\xs.length<=sizeLine:=I.tuple (SqT.of h)
def Ww (f:D->D->Option Bool)(xs ys:List D)(j:Nat):Bool:=match xs[j]?,ys[j]? with
 | some x,some y=>(f x y).getD false
 | _,_=>false
theorem F2:∀ {xs ys:List D} {b:Bool},eqL f xs ys=some b->(∀(j:Nat)(x y:D),xs[j]?=some x->ys[j]?=some y->∃c,f x y=some c)/\((List.range (min xs.length ys.length)).all (Ww f xs ys)&&xs.length==ys.length)=b
 | [],[],b,e=>by simp[eqL] at e;subst e;simp
 | [],y::ys,b,e=>by simp[eqL] at e;subst e;simp
 | x::xs,[],b,e=>by simp[eqL] at e;subst e;simp
 | x::xs,y::ys,b,e=>by
  unfold eqL at e;split at e
  .rename_i b1 c1 e1 e2;obtain⟨h1,h2⟩:=F2 e2;refine⟨λj p q hp hq=>?_,?_⟩
   .cases j with
    | zero=>simp at hp hq;subst hp;subst hq;exact⟨b1,e1⟩
    | succ j=>exact h1 j p q (by simpa using hp) (by simpa using hq)
   .have z:min (x::xs).length (y::ys).length=min xs.length ys.length+1:=by simp[Nat.succ_min_succ]
    rw[z,List.range_succ_eq_map,xC,List.all_map];have e0:Ww f (x::xs) (y::ys) 0=b1:=by simp[Ww,e1]
    have es:(Ww f (x::xs) (y::ys) ∘ Nat.succ)=Ww f xs ys:=by funext j;simp[Ww]
    rw[e0,es];have e3:((x::xs).length==(y::ys).length)=(xs.length==ys.length):=by simp
    rw[e3,Bool.and_assoc,h2];simp at e;exact e
  .cases e
theorem RA {n:Nat}{f:D->D->Option Bool}(hf:Uo n f){X:Cx}{aA:LA}{σ:St}{H:Hp}{s:Shared}{r:List Addr}{A:Around}{xs ys:List D}{us vs:List V}{is js:List Value}{b:Bool}
  (I:Inv X aA σ H s)(hu:A.units+n<cLine)(p:Rps r H xs us)(q:Rps r H ys vs)(ri:Zt us is)(rj:Zt vs js)(e:eqL f xs ys=some b):
  (∀j (h1:j<is.toArray.size) (h2:j<js.toArray.size),SeqAt.EqAt A s is.toArray[j] js.toArray[j] (Ww f xs ys j))/\((List.range (min is.toArray.size js.toArray.size)).all (Ww f xs ys)&&is.toArray.size==js.toArray.size)=b:=by
 obtain⟨h1,h2⟩:=F2 e;have l1:is.toArray.size=xs.length:=by rw[zM,<- ri.length,p.1]
 have l2:js.toArray.size=ys.length:=by rw[zM,<- rj.length,q.1]
 refine⟨λj hj1 hj2=>?_,by rw[l1,l2];exact h2⟩;have k1:j<xs.length:=by lia
 have k2:j<ys.length:=by lia
 have g1:xs[j]?=some xs[j]:=by simp[k1]
 have g2:ys[j]?=some ys[j]:=by simp[k2]
 obtain⟨x,gx,px⟩:=p.get g1;obtain⟨y,gy,py⟩:=q.get g2;obtain⟨u,gu,ru⟩:=ri.get gx;obtain⟨v,gv,rv⟩:=rj.get gy;obtain⟨c,hc⟩:=h1 j _ _ g1 g2;have eu:is.toArray[j]=u:=by
  have z:=zE.mp gu;simpa using z.2
 have ev:js.toArray[j]=v:=by
  have z:=zE.mp gv;simpa using z.2
 have ec:Ww f xs ys j=c:=by simp[Ww,g1,g2,hc]
 rw[eu,ev,ec];exact hf X aA σ H s r A _ _ x y u v c I hu px py ru rv hc
theorem Eh (hf:Uo n f)(hs:TF f):Uo (n+1) (eqT f):=by
 intro X aA σ H s r A dx dy x y u v b I hu px py rx ry e;have ZM:∀ {dx dy:D} {x y:V},Rp r H dx x->Rp r H dy y->Zm x u->Zm y v->eqF dx dy=some b->SeqAt.EqAt A s u v b:=λpx py rx ry e=>Mu (n+1) X aA σ H s r A _ _ _ _ u v b I hu px py rx ry e
 cases px with
 | @tup ds xs a e1 l1 f1=>
  cases py with
  | @tup es ys a' e2 l2 f2=>
   cases rx;cases ry;by_cases z:a=a'
   .subst z;have hb:=FH hs r H _ _ _ b (.tup e1 l1 f1) (.tup e2 l2 f2) e;subst hb;exact SeqAt.EqAt.same _
   .obtain⟨is,ri,ti,_⟩:=UI I e1;obtain⟨js,rj,tj,_⟩:=UI I e2;obtain⟨g1,g2⟩:=RA (A:=A.in1) hf I (by show A.units+1+n<_;lia) ⟨l1,f1⟩ ⟨l2,f2⟩ ri rj e;have q:=SeqAt.RcAt.tuples (A:=A) ti tj () g1;rw[g2] at q;exact SeqAt.EqAt.of_refs z q
  | ref h=>simp[eqT,eqF] at e
  | _=>simp[eqT,eqF] at e
 | non=>exact ZM .non py rx ry (by cases py<;>exact e)
 | bl i=>exact ZM (.bl i) py rx ry (by cases py<;>exact e)
 | int i=>exact ZM (.int i) py rx ry (by cases py<;>exact e)
 | str i=>exact ZM (.str i) py rx ry (by cases py<;>exact e)
 | ref h=>cases py<;>simp[eqT,eqF] at e
 | exc h=>cases py<;>simp[eqT,eqF] at e
theorem GF (n:Nat):Uo (n+1) eq1:=Eh (Mu n) SE
def wEq (f:D->D->Option Bool):W2:=λx y S Q=>match f x y with
 | some b=>Q (.bl b) S
 | none=>False
def wNe (f:D->D->Option Bool):W2:=λx y S Q=>match f x y with
 | some b=>Q (.bl (!b)) S
 | none=>False
section
variable {X:Cx}{Z:Zx}
theorem Ea {r:List Addr}{H:Hp}{dx dy:D}{x y:V}{b:Bool}(px:Rp r H dx x)(py:Rp r H dy y)(e:eqF dx dy=some b):Px x y=true/\decide (x=y)=b:=by
 cases px<;>cases py<;>simp[eqF] at e<;>simp[Px]<;>first|exact e|(subst e;simp)|skip
theorem IL (hf:Uo n f)(hu:X.A.units+1+n<cLine):OpR X (compareOp .Eq) (upO X.K Z (wEq (eqT f))):=by
 intro aA s σ H x y v u Qv I rx ry h;obtain⟨r,S,dx,dy,Q,aS,px,py,q,ret⟩:=h;unfold wEq at q;split at q
 .rename_i b e;have ZM:∀ {dx dy:D} {x y:V},Rp r H dx x->Rp r H dy y->Zm x v->Zm y u->eqF dx dy=some b->wpAny (mX X) X.A (compareOp .Eq v u) (EP X aA σ Qv) X.xe s:=λpx py rx ry e=>by
   obtain⟨h1,h2⟩:=Ea px py e;refine MO aA s σ H _ _ v u Qv I rx ry ⟨h1,?_⟩;rw[h2];exact ret _ _ _ _ _ Ext.refl aS (.bl b) q
  cases px with
  | @tup ds xs a e1 l1 f1=>
   cases py with
   | @tup es ys a' e2 l2 f2=>
    cases rx;cases ry;obtain⟨is,ri,ti,_⟩:=UI I e1;obtain⟨js,rj,tj,_⟩:=UI I e2;obtain⟨g1,g2⟩:=RA (A:=X.A.in1) hf I (by show X.A.units+1+n<_;lia) ⟨l1,f1⟩ ⟨l2,f2⟩ ri rj e;refine SeqAt.eq_tupleAt (A:=X.A) ti tj () g1 ?_;rw[g2];exact⟨.bl b,H,I,rfl,ret _ _ _ _ _ Ext.refl aS (.bl b) q⟩
   | _=>simp[eqT,eqF] at e
  | non=>exact ZM .non py rx ry (by cases py<;>exact e)
  | bl i=>exact ZM (.bl i) py rx ry (by cases py<;>exact e)
  | int i=>exact ZM (.int i) py rx ry (by cases py<;>exact e)
  | str i=>exact ZM (.str i) py rx ry (by cases py<;>exact e)
  | ref h=>cases py<;>simp[eqT,eqF] at e
  | exc h=>cases py<;>simp[eqT,eqF] at e
 .exact q.elim
theorem Gm (hf:Uo n f)(hu:X.A.units+1+n<cLine):OpR X (compareOp .NotEq) (upO X.K Z (wNe (eqT f))):=by
 intro aA s σ H x y v u Qv I rx ry h;obtain⟨r,S,dx,dy,Q,aS,px,py,q,ret⟩:=h;unfold wNe at q;split at q
 .rename_i b e;have ZM:∀ {dx dy:D} {x y:V},Rp r H dx x->Rp r H dy y->Zm x v->Zm y u->eqF dx dy=some b->wpAny (mX X) X.A (compareOp .NotEq v u) (EP X aA σ Qv) X.xe s:=λpx py rx ry e=>by
   obtain⟨h1,h2⟩:=Ea px py e;refine op_ne aA s σ H _ _ v u Qv I rx ry ⟨h1,?_⟩;rw[h2];exact ret _ _ _ _ _ Ext.refl aS (.bl (!b)) q
  cases px with
  | @tup ds xs a e1 l1 f1=>
   cases py with
   | @tup es ys a' e2 l2 f2=>
    cases rx;cases ry;obtain⟨is,ri,ti,_⟩:=UI I e1;obtain⟨js,rj,tj,_⟩:=UI I e2;obtain⟨g1,g2⟩:=RA (A:=X.A.in1) hf I (by show X.A.units+1+n<_;lia) ⟨l1,f1⟩ ⟨l2,f2⟩ ri rj e;refine SeqAt.RcNeAt.tuples (A:=X.A) ti tj () g1 X.prog X.w _ _ ?_;rw[g2];exact⟨.bl (!b),H,I,rfl,ret _ _ _ _ _ Ext.refl aS (.bl (!b)) q⟩
   | _=>simp[eqT,eqF] at e
  | non=>exact ZM .non py rx ry (by cases py<;>exact e)
  | bl i=>exact ZM (.bl i) py rx ry (by cases py<;>exact e)
  | int i=>exact ZM (.int i) py rx ry (by cases py<;>exact e)
  | str i=>exact ZM (.str i) py rx ry (by cases py<;>exact e)
  | ref h=>cases py<;>simp[eqT,eqF] at e
  | exc h=>cases py<;>simp[eqT,eqF] at e
 .exact q.elim
theorem ZV (hr:ZG k X.A):OpR X (compareOp .Eq) (upO X.K Z (wEq eq2)):=IL (GF 0) (by have:=hr.un;lia)
theorem Y3 (hr:ZG k X.A):OpR X (compareOp .NotEq) (upO X.K Z (wNe eq2)):=Gm (GF 0) (by have:=hr.un;lia)
end
section
variable {X:Cx}{Z:Zx}{a b c:Expr}{ta tb tc:TDE}{pos:Pos}{YK:List Expr}
def WL (t:TDE):TDT:=λdl S Q=>t dl S λd S'=>match d with
 | .bl k=>Q k S'
 | _=>False
theorem Si {K:Fg}{Z:Zx}{r:List Addr}{H:Hp}{Q:Bool->Sto->Prop}{Qb:Bool->Hp->Prop}(h:∀b H' r' S',Ext r r' H H'->Rel K Z r' S' H'->Q b S'->Qb b H'):
  Ret K Z r H (λd S'=>match d with|.bl k=>Q k S'|_=>False) (λx H'=>∃k,x=.bl k/\Qb k H'):=λv H' r' d S' e aS p q=>by
 cases p with
 | bl k=>exact⟨k,rfl,h k H' r' S' e aS q⟩
 | _=>exact(show False from q).elim
theorem Zs {op:CmpOp}{w:W2}(ho:OpR X (compareOp op) (upO X.K Z w))(ha:PD X Z a ta)(hb:PD X Z b tb)(hm:behindInMarks op b=false):PDT X Z (.Compare a [op] [b] pos) (WL (dOp w ta tb)):=
 U9 (zbZ ho ha hb hm) λσ H Qb ⟨r,dl,S,Q,rs,aS,h,ret⟩=>Ol ⟨r,dl,S,_,rs,aS,h,Si ret⟩
theorem Z9 {e:Expr}{t:TDE}(h:PD X Z e t)(he:∀aM,isTrue e X.env aM=(do let v <- aM;standAt e.pos;holding [v] (truthy v)):=by intro _;rfl):PDT X Z e (WL t):=
 U9 (zaB h he) λσ H Qb ⟨r,dl,S,Q,rs,aS,h,ret⟩=>⟨r,dl,S,_,rs,aS,h,Si ret⟩
def dNot (t:TDT):TDT:=λdl S Q=>t dl S λk S'=>Q (!k) S'
theorem Wn (ha:PDT X Z a t):PDT X Z (.UnaryOp .Not a pos) (dNot t):=
 U9 (zcw ha) λσ H Qb ⟨r,dl,S,Q,rs,aS,h,ret⟩=>⟨r,dl,S,_,rs,aS,h,λk H' r' S' e rel' q=>ret (!k) H' r' S' e rel' q⟩
def dAnd (t u:TDT):TDT:=λdl S Q=>t dl S λk S1=>if k=true then u dl S1 Q else Q false S1
def dOr (t u:TDT):TDT:=λdl S Q=>t dl S λk S1=>if k=true then Q true S1 else u dl S1 Q
theorem OB (ha:PDT X Z a t):PDW X Z (.BoolOp .And [a] pos) t:=Az ha
theorem Xk (ha:PDT X Z a t):PDW X Z (.BoolOp .Or [a] pos) t:=zcz ha
theorem ND (ha:PDT X Z a t)(hb:PDW X Z (.BoolOp .And (b::YK) pos) u):PDW X Z (.BoolOp .And (a::b::YK) pos) (dAnd t u):=
 FD (zaE ha hb) λσ H Qb ⟨r,dl,S,Q,rs,aS,h,ret⟩=>⟨r,dl,S,_,rs,aS,h,λk H1 r1 S1 e1 aB q1=>by
  cases k with
  | true=>exact Yy ⟨r1,dl,S1,Q,rs.ext e1,aB,(by simpa using q1),λk' H2 r2 S2 e2=>ret k' H2 r2 S2 (e1.trans e2)⟩
  | false=>exact ZH (ret false H1 r1 S1 e1 aB (by simpa using q1))⟩
theorem Y2 (ha:PDT X Z a t)(hb:PDW X Z (.BoolOp .Or (b::YK) pos) u):PDW X Z (.BoolOp .Or (a::b::YK) pos) (dOr t u):=
 FD (pw_or ha hb) λσ H Qb ⟨r,dl,S,Q,rs,aS,h,ret⟩=>⟨r,dl,S,_,rs,aS,h,λk H1 r1 S1 e1 aB q1=>by
  cases k with
  | true=>exact Yy (ret true H1 r1 S1 e1 aB (by simpa using q1))
  | false=>exact ZH ⟨r1,dl,S1,Q,rs.ext e1,aB,(by simpa using q1),λk' H2 r2 S2 e2=>ret k' H2 r2 S2 (e1.trans e2)⟩⟩
def dAndV (ta tb:TDE):TDE:=λdl S Q=>ta dl S λx S1=>match x with
 | .bl k=>if k=true then tb dl S1 Q else Q (.bl false) S1
 | _=>False
def dNotV (ta:TDE):TDE:=λdl S Q=>ta dl S λx S1=>match x with
 | .bl k=>Q (.bl (!k)) S1
 | _=>False
theorem XU {op}(h:PD X Z a t):PD X Z (.BoolOp op [a] pos) t:=zbz h
theorem XH (ha:PD X Z a ta)(hb:PD X Z (.BoolOp .And (b::YK) pos) tb):PD X Z (.BoolOp .And (a::b::YK) pos) (dAndV ta tb):=
 ZO (zbW ha hb) λσ H Qv ⟨r,dl,S,Q,rs,aS,h,ret⟩=>⟨r,dl,S,_,rs,aS,h,λv H1 r1 d S1 e1 aB p q1=>by
  cases p with
  | bl k=>
   refine⟨k,rfl,?_⟩;cases k with
   | true=>exact Yy ⟨r1,dl,S1,Q,rs.ext e1,aB,(by simpa using q1),ret.ext e1⟩
   | false=>exact ZH (ret _ H1 r1 (.bl false) S1 e1 aB (.bl false) (by simpa using q1))
  | _=>exact(show False from q1).elim⟩
theorem M9 (ha:PD X Z a ta):PD X Z (.UnaryOp .Not a pos) (dNotV ta):=
 ZO (EW ha) λσ H Qv ⟨r,dl,S,Q,rs,aS,h,ret⟩=>⟨r,dl,S,_,rs,aS,h,λv H1 r1 d S1 e1 aB p q1=>by
  cases p with
  | bl k=>exact⟨k,rfl,ret _ H1 r1 (.bl (!k)) S1 e1 aB (.bl (!k)) q1⟩
  | _=>exact(show False from q1).elim⟩
def dIfE (t:TDT)(ta tb:TDE):TDE:=λdl S Q=>t dl S λk S1=>if k=true then ta dl S1 Q else tb dl S1 Q
theorem IT (hc:PDT X Z c t)(ha:PD X Z a ta)(hb:PD X Z b tb):PD X Z (.IfExp c a b pos) (dIfE t ta tb):=
 ZO (DE hc ha hb) λσ H Qv ⟨r,dl,S,Q,rs,aS,h,ret⟩=>⟨r,dl,S,_,rs,aS,h,λk H1 r1 S1 e1 aB q1=>by
  cases k with
  | true=>exact Yy ⟨r1,dl,S1,Q,rs.ext e1,aB,(by simpa using q1),ret.ext e1⟩
  | false=>exact ZH ⟨r1,dl,S1,Q,rs.ext e1,aB,(by simpa using q1),ret.ext e1⟩⟩
def Ht (w w':W2)(ta tb tc:TDE):TDE:=λdl S Q=>ta dl S λx S1=>tb dl S1 λy S2=>w x y S2 λz S3=>match z with
 | .bl k=>if k=true then tc dl S3 λu S4=>w' y u S4 Q else Q (.bl false) S3
 | _=>False
theorem C2 (h:up X.K Z (Ht w w' ta tb tc) σ H Qv):JW (upO X.K Z w) (upO X.K Z w') (up X.K Z ta) (up X.K Z tb) (up X.K Z tc) σ H Qv:=by
 obtain⟨r,dl,S,Q,rs,aS,h,ret⟩:=h;refine⟨r,dl,S,_,rs,aS,h,λv H1 r1 dx S1 e1 aB p1 h1=>⟨r1,dl,S1,_,rs.ext e1,aB,h1,λv2 H2 r2 dy S2 e2 aC p2 h2=>⟨r2,S2,dx,dy,_,aC,p1.ext e2,p2,h2,λv3 H3 r3 dz S3 e3 aD p3 h3=>?_⟩⟩⟩;cases p3 with
 | bl k=>
  refine⟨k,rfl,?_⟩;cases k with
  | true=>exact Yy ⟨r3,dl,S3,_,rs.ext (e1.trans (e2.trans e3)),aD,(by simpa using h3),λv4 H4 r4 du S4 e4 aE p4 h4=>⟨r4,S4,dy,du,Q,aE,(p2.ext e3).ext e4,p4,h4,ret.ext (e1.trans (e2.trans (e3.trans e4)))⟩⟩
  | false=>exact ZH (ret _ H3 r3 (.bl false) S3 (e1.trans (e2.trans e3)) aD (.bl false) (by simpa using h3))
 | _=>exact(show False from h3).elim
theorem zef (ho:OpR X (compareOp op) (upO X.K Z w))(ho':OpR X (compareOp op') (upO X.K Z w'))(ha:PD X Z a ta)(hb:PD X Z b tb)(hc:PD X Z c tc)(hm:lastMarks [op,op'] [b,c]=false:=by with_unfolding_all rfl):PD X Z (.Compare a [op,op'] [b,c] pos) (Ht w w' ta tb tc):=ZO (zbV ho ho' ha hb hc hm) λ_ _ _ h=>C2 h
variable {e:Expr}{es:List Expr}
def X3:TDA:=λ_ S Q=>Q [] S
def Wc (ta:TDE)(tr:TDA):TDA:=λdl S Q=>ta dl S λx S1=>tr dl S1 λxs S2=>Q (x::xs) S2
theorem Zb:PDA X Z [] X3:=J3 UB λσ H Qv ⟨r,dl,S,Q,rs,aS,h,ret⟩=>ret [] H r [] S Ext.refl aS Rps.nil h
theorem Za (ha:PD X Z e te)(hr:PDA X Z es t)(hs:starEach (e::es) X.env=(false,eval e X.env)::starEach es X.env:=by rfl):PDA X Z (e::es) (Wc te t):=
 J3 (Vf ha hr hs) λσ H Qv ⟨r,dl,S,Q,rs,aS,h,ret⟩=>⟨r,dl,S,_,rs,aS,h,λv H1 r1 d S1 e1 aB p1 h1=>⟨r1,dl,S1,_,rs.ext e1,aB,h1,λvs H2 r2 ds S2 e2 aC p2 h2=>
  ret (v::vs) H2 r2 (d::ds) S2 (e1.trans e2) aC (Rps.cons (p1.ext e2) p2) h2⟩⟩
def dTup (t:TDA):TDE:=λdl S Q=>t dl S λds S1=>if ds.length<=1000 then Q (.tup ds) S1 else False
def dLst (t:TDA):TDE:=λdl S Q=>t dl S λds S1=>if ds.length<=1000 then Q (.ref S1.length) (S1++[.lst ds]) else False
theorem Q9 [Decidable p] (h:if p then A else False):p/\A:=by
 split at h
 .exact⟨by assumption,h⟩
 .exact h.elim
theorem XW (h:n<=1000):n<=sizeLine:=yF (Sr h)
theorem ZQ {x1}(h:PDA X Z es t):PD X Z (.Tuple es x1 pos) (dTup t):=
 ZO (za5 h) λσ H Qv ⟨r,dl,S,Q,rs,aS,h,ret⟩=>⟨r,dl,S,_,rs,aS,h,λvs H1 r1 ds S1 e1 aB p1 h1=>by
  obtain⟨hl,h1⟩:=Q9 h1;refine⟨by rw[<- p1.1];exact XW hl,λp hp=>?_⟩;have x:Ext r1 r1 H1 (upd H1 p (.tup vs)):=⟨λ_ _ q=>q,λa xs q=>X8 hp _ _ q,λa c q=>X8 hp _ _ q⟩;exact ret _ _ r1 (.tup ds) S1 (e1.trans x) (aB.same (X8 hp)) ((p1.ext x).tupR Y1) h1⟩
theorem Wo {r:List Addr}{p:Addr}{H:Hp}{n:Nat}(h:r.length=n):Rp (r++[p]) H (.ref n) (.ref p):=.ref (by subst h;simp)
theorem YC (h:PDA X Z es t):PD X Z (.List es pos) (dLst t):=
 ZO (zdt h) λσ H Qv ⟨r,dl,S,Q,rs,aS,h,ret⟩=>⟨r,dl,S,_,rs,aS,h,λvs H1 r1 ds S1 e1 aB p1 h1=>by
  obtain⟨hl,h1⟩:=Q9 h1;refine⟨by rw[<- p1.1];exact XW hl,λp hp=>?_⟩;obtain⟨aC,x⟩:=aB.push hp p1;exact ret _ _ _ (.ref S1.length) _ (e1.trans x) aC (Wo aB.len) h1⟩
def wIx:W2:=λx y S Q=>match x,y with
 | .tup xs,.int i=>match atI xs i with
  | some d=>Q d S
  | none=>False
 | .ref n,.int i=>match lAt S n with
  | some o=>match atI (ZC o) i with
   | some d=>Q d S
   | none=>False
  | none=>False
 | _,_=>False
theorem HF {r:List Addr}{H:Hp}{ds:List D}{vs:List V}{i:Int}{d:D}(h:Rps r H ds vs)(e:atI ds i=some d):∃v,atI vs i=some v/\Rp r H d v:=by
  unfold atI at e ⊢;rw[<- h.1];cases q:ixN ds.length i with
  | none=>
   rw[q] at e;cases e
  | some j=>
    rw[q] at e;exact h.get e
theorem do_ix:IxR X (upO X.K Z wIx):=by
 intro value slice aA s σ H x y v u Qv I rx ry h hs;obtain⟨r,S,dx,dy,Q,aS,px,py,q,ret⟩:=h;cases px with
 | @tup ds xs a e1 l1 f1=>
  cases py with
  | int i=>
   have q':(match atI ds i with|some d=>Q d S|none=>False):=q;split at q'
   .rename_i d e;obtain⟨w,hw,pw⟩:=HF ⟨l1,f1⟩ e;exact zdl value slice aA s σ H _ _ v u Qv I rx ry ⟨a,xs,i,w,rfl,rfl,SqT.of e1,hw,ret w H r d S Ext.refl aS pw q'⟩ hs
   .exact q'.elim
  | _=>exact(show False from q).elim
 | @ref n a e1=>
  cases py with
  | int i=>
   have q':(match lAt S n with|some o=>(match atI (ZC o) i with|some d=>Q d S|none=>False)|none=>False):=q;split at q'
   .rename_i o eo;obtain⟨eo,eL⟩:=XM eo;obtain⟨a',ha,ob⟩:=aS.at eo;rw[e1] at ha;cases ha
    obtain⟨xs,sq,pr⟩:=ob.list eL;split at q'
    .rename_i d e;obtain⟨w,hw,pw⟩:=HF pr e;exact zeb value slice aA s σ H _ _ v u Qv I rx ry ⟨a,xs,i,w,rfl,rfl,sq,hw,ret w H r d S Ext.refl aS pw q'⟩ hs
    .exact q'.elim
   .exact q'.elim
  | _=>exact(show False from q).elim
 | _=>exact(show False from q).elim
theorem Zy (ha:PD X Z a ta)(hb:PD X Z b tb)(hs:K4 b):PD X Z (.Subscript a b pos) (dOp wIx ta tb):=ZO (pe_ix do_ix ha hb hs) λ_ _ _ h=>Ol h
end
theorem JZ {P:Program}{w:World}{H:Hp}{h:Heap}{a:Addr}:∀ {o:HO},Yw P w H h a o->∃ob,h.get? a=some ob
 | .lst _,x=>by obtain⟨_,_,_,_,e⟩:=x;exact⟨_,e⟩
 | .tup _,x=>by obtain⟨_,_,_,ob,e,_⟩:=x;exact⟨ob,e⟩
 | .dK _,x=>by obtain⟨_,_,_,_,ob,_,_,e,_⟩:=x;exact⟨ob,e⟩
 | .dT _,x=>by obtain⟨_,_,_,_,ob,_,_,e,_⟩:=x;exact⟨ob,e⟩
 | .set _ _,x=>by obtain⟨ob,_,_,_,e,_⟩:=x;exact⟨ob,e⟩
 | .ins _ _ _,x=>by obtain⟨_,_,_,e,_⟩:=x;exact⟨_,e⟩
 | .own _,x=>x
 | .xd _,x=>by obtain⟨_,⟨ob,_,_,e,_⟩,_⟩:=x;exact⟨ob,e⟩
 | .rng _ _,x=>by obtain⟨_,_,_,e⟩:=x;exact⟨_,e⟩
 | .frz ob _,x=>⟨ob,x.1⟩
 | .tbl _,x=>⟨_,x⟩
 | .met _ _,x=>⟨_,x⟩
 | .ext _,x=>x.2.1
structure Bk (fs:List Addr)(H H':Hp)(B h:Heap)(ea:Addr):Prop where
 trk:∀b u,H' b=some u->∃o,B.get? b=some o
 old:∀b o,h.get? b=some o->H b=none->b ∉ fs->B.get? b=some o
 all:∀b o,h.get? b=some o->b ∉ fs->∃o',B.get? b=some o'
 new:H' ea=none
def CXE (P:Program)(w:World):CXT:=λouter H s E e s'=>∃(ea c:Addr)(a0:Value)(B:Heap)(H':Hp),e=.ref ea/\s'.os=s.os/\AllBare s'.gens/\Un (frs outer) [] H H' s.heap s'.heap/\HOk P w H' s'.heap/\
 Heap.FlyingW B outer ea (.ref c) a0 s'.heap/\Bk (frs outer) H H' B s.heap ea/\E (.ref c) none H'
theorem Kv {P:Program}{w:World}{H':Hp}{B h h':Heap}(ok:HOk P w H' h)(trk:∀b u,H' b=some u->∃o,B.get? b=some o)(s1:B.StaysIn h)(s2:B.StaysIn h'):HOk P w H' h':=λa o e=>
 (ok a o e).stay (λb u hb q=>by
  have ht:∃z,H' b=some z:=by
   rcases hb with rfl|hb
   .exact⟨o,e⟩
   .exact⟨_,hb⟩
  obtain⟨z,hz⟩:=ht;obtain⟨ob,eo⟩:=trk b z hz;have:=s1 b ob eo;rw[q] at this;cases this;exact s2 b u eo) (λ_ z=>z) λ_ _ z=>z
section
variable {X:Cx}{aA:LA}{σ:St}{H:Hp}{s:Shared}
theorem U7 {b:Addr}(I:Inv X aA σ H s)(hs:X.stack=X.env::X.outer)(hf:X.env.frame=some X.env.locals):b∈frs X.stack↔b=X.env.locals\/b∈X.fs:=by
 rw[hs];unfold frs;rw[xG,hf];exact zB
theorem J1 {H':Hp}{B h':Heap}{s':Shared}{ea c:Addr}{a0:Value}(I:Inv X aA σ H s)(hex:X.ex=[])(hs:X.stack=X.env::X.outer)(hf:X.env.frame=some X.env.locals)
  (un:Un (frs X.stack) [] H H' s.heap s'.heap)(fl:Heap.FlyingW B (X.env::X.outer) ea (.ref c) a0 s'.heap)(fl':Heap.FlyingW B X.outer ea (.ref c) a0 h')(up:s'.heap.UpToSlots h')(bk:Bk (frs X.stack) H H' B s.heap ea):
  Un X.fs [] X.H₀ H' X.s₀.heap h'/\Bk X.fs X.H₀ H' B X.s₀.heap ea:=by
 have nx:∀b:Addr,b ∉ X.ex:=λb z=>by rw[hex] at z;exact absurd z (by simp)
 have nL:∀ {b:Addr} {o:Obj},X.s₀.heap.get? b=some o->b≠X.env.locals:=λ{b o} e=>zI (zK (Heap.lt_size e) I.ok.above)
 have nS:∀ {b:Addr} {o:Obj},X.s₀.heap.get? b=some o->b ∉ X.fs->b ∉ frs X.stack:=λ{b o} e hb z=>by
  rcases (U7 I hs hf).mp z with z|z
  .exact nL e z
  .exact hb z
 have old:∀b o,X.s₀.heap.get? b=some o->X.H₀ b=none->b ∉ X.fs->B.get? b=some o:=λb o e n hb=>bk.old b o (I.base.keep b o e n hb (nx b)) (I.base.free b o e n (nx b)) (nS e hb)
 have slot:∀b o,X.s₀.heap.get? b=some o->X.H₀ b=none->b∈X.fs->∃sl,h'.get? b=some { o with slots:=sl }:=λb o e n hb=>by
  obtain⟨s1,e1⟩:=I.base.slot b o e n hb (nx b);have hm:b∈frs X.stack:=(U7 I hs hf).mpr (.inr hb);obtain⟨s2,e2⟩:=un.slot b _ e1 (I.base.free b o e n (nx b)) hm (by simp);obtain⟨_,o3,e3,d3⟩:=fl.2.2.1.mem (show b∈(X.env::X.outer).filterMap (·.frame) by rw[<- hs];exact hm);rw[e2] at e3;cases e3;obtain⟨sl,e4⟩:=up b _ e2 d3;exact⟨sl,e4⟩
 have all:∀b o,X.s₀.heap.get? b=some o->b ∉ X.fs->∃o',B.get? b=some o':=λb o e hb=>by
  obtain⟨o1,e1⟩:=I.base.there b o e (nx b);exact bk.all b o1 e1 (nS e hb)
 refine⟨⟨λb o e n hb _=>fl'.1 b o (old b o e n hb),λb o e n hb _=>slot b o e n hb,λb o e n _=>?_,λb o e _=>?_,λb xs e=>un.tups b xs (I.base.tups b xs e),λb ob u e=>un.frzs b ob u (I.base.frzs b ob u e),λb ps e=>?_⟩,⟨bk.trk,old,all,bk.new⟩⟩
 .obtain⟨o1,e1⟩:=I.base.there b o e (nx b);exact un.free b o1 e1 (I.base.free b o e n (nx b)) (by simp)
 .by_cases hb:b∈X.fs
  .obtain⟨sl,e1⟩:=slot b o e (I.ok.frf b hb) hb;exact⟨_,e1⟩
  .obtain⟨o',e'⟩:=all b o e hb;exact⟨o',fl'.1 _ _ e'⟩
 .obtain⟨m1,e1⟩:=I.base.tbls b ps e;obtain⟨m2,e2⟩:=un.tbls b _ e1;exact⟨m1++m2,by rw[e2,Array.append_assoc]⟩
end
section
variable {P:Program}{w:World}{K:Fg}{mg:Str->Option Value}{base:Heap}{N:List Str}{aG:Str}{scope:Scope}{f:Addr}{cdv:Value}{A:Around}{outer:List Env}{s0:Shared}{H0:Hp}{E:XK}
theorem zb6:U2 (CXE P w) (YM (CXE P w) P w K mg base N aG scope f cdv A outer s0 H0 E) E:=by
 intro aA σ H s e s' I hq;obtain⟨ea,c,a0,B,H',rfl,os,bare,un,hok,fl,bk,q⟩:=hq;refine wpAny_leaves_onW I.ok.frames rfl fl λh' fl' up=>?_
 obtain⟨h1,h2⟩:=J1 I rfl rfl rfl un fl fl' up bk;exact⟨ea,c,a0,B,H',rfl,os.trans I.os,bare,h1,Kv hok bk.trk fl.1 fl'.1,fl',h2,q⟩
def Ja (X:Cx)(W:St->XK):Prop:=∀(aA:LA)(σ:St)(H:Hp)(s:Shared)(h':Heap)(e c:Addr)(vs:List Value),Inv X aA σ H s->Heap.MadeExcOf s.heap h' e (.ref c) vs->W σ (.ref c) none H->X.xe (.ref e) { s with heap:=h' }
theorem Aq:Ja (YM (CXE P w) P w K mg base N aG scope f cdv A outer s0 H0 E) (λ_=>E):=by
 intro aA σ H s h' e c vs I hx q;have inB:∀ {b:Addr} {o:Obj},s.heap.get? b=some o->b ∉ frs (YM (CXE P w) P w K mg base N aG scope f cdv A outer s0 H0 E).stack->(W.hideAll s.heap (frs (YM (CXE P w) P w K mg base N aG scope f cdv A outer s0 H0 E).stack)).get? b=some o:=λe hb=>W.hideAll_get _ e hb
 have hfr:s.heap.FunFrames (W.hideAll s.heap (frs (YM (CXE P w) P w K mg base N aG scope f cdv A outer s0 H0 E).stack)) (YM (CXE P w) P w K mg base N aG scope f cdv A outer s0 H0 E).stack:=
  W.funFrames_hide I.stack λenv he a hf=>wC.mpr ⟨env,he,hf⟩
 have st:(W.hideAll s.heap (frs (YM (CXE P w) P w K mg base N aG scope f cdv A outer s0 H0 E).stack)).StaysIn s.heap:=λb o z=>W.of_hideAll _ z
 have trk:∀b u,H b=some u->∃o,(W.hideAll s.heap (frs (YM (CXE P w) P w K mg base N aG scope f cdv A outer s0 H0 E).stack)).get? b=some o:=λb u z=>by
  obtain⟨o,eo⟩:=JZ (I.hok b u z);exact⟨o,inB eo λhb=>by rw[I.stkFree b hb] at z;cases z⟩
 have he:H e=none:=by
  cases z:H e with
  | none=>rfl
  | some u=>
   obtain⟨o,eo⟩:=JZ (I.hok e u z);rw[hx.new] at eo;cases eo
 have bk:Bk (frs (YM (CXE P w) P w K mg base N aG scope f cdv A outer s0 H0 E).stack) H H (W.hideAll s.heap (frs (YM (CXE P w) P w K mg base N aG scope f cdv A outer s0 H0 E).stack)) s.heap e:=
  ⟨trk,λb o z _ hb=>inB z hb,λb o z hb=>⟨o,inB z hb⟩,he⟩
 refine wpAny_leaves_madeW I.ok.frames rfl st hfr hx λh2 t fl' _ _ up=>?_
 have un:Un (frs (YM (CXE P w) P w K mg base N aG scope f cdv A outer s0 H0 E).stack) [] H H s.heap s.heap:=Un.refl
 have up':s.heap.UpToSlots h2:=(Heap.UpToSlots.of_keeps hx.keeps).trans up
 have nL:∀ {b:Addr} {o:Obj},s0.heap.get? b=some o->b ∉ frs outer->b ∉ frs (YM (CXE P w) P w K mg base N aG scope f cdv A outer s0 H0 E).stack:=λ{b o} z hb y=>by
  rcases (U7 I rfl rfl).mp y with y|y
  .exact zI (zK (Heap.lt_size z) I.ok.above) y
  .exact hb y
 have old:∀b o,s0.heap.get? b=some o->H0 b=none->b ∉ frs outer->(W.hideAll s.heap (frs (YM (CXE P w) P w K mg base N aG scope f cdv A outer s0 H0 E).stack)).get? b=some o:=λb o z n hb=>inB (I.base.keep b o z n hb (by intro y;exact absurd (show b∈([]:List Addr) from y) (by simp))) (nL z hb)
 have all:∀b o,s0.heap.get? b=some o->b ∉ frs outer->∃o',(W.hideAll s.heap (frs (YM (CXE P w) P w K mg base N aG scope f cdv A outer s0 H0 E).stack)).get? b=some o':=λb o z hb=>by
  obtain⟨o1,e1⟩:=I.base.there b o z (by intro y;exact absurd (show b∈([]:List Addr) from y) (by simp));exact⟨o1,inB e1 (nL z hb)⟩
 have slot:∀b o,s0.heap.get? b=some o->H0 b=none->b∈frs outer->∃sl,h2.get? b=some { o with slots:=sl }:=λb o z n hb=>by
  obtain⟨s1,e1⟩:=I.base.slot b o z n hb (by intro y;exact absurd (show b∈([]:List Addr) from y) (by simp));obtain⟨_,o3,e3,d3⟩:=hfr.mem (show b∈(YM (CXE P w) P w K mg base N aG scope f cdv A outer s0 H0 E).stack.filterMap (·.frame) from (U7 I rfl rfl).mpr (.inr hb));rw[e1] at e3;cases e3;obtain⟨sl,e4⟩:=up' b _ e1 d3;exact⟨sl,e4⟩
 refine⟨e,c,.ref t,_,H,rfl,I.os,I.bare,⟨λb o z n hb _=>fl'.1 b o (old b o z n hb),λb o z n hb _=>slot b o z n hb,λb o z n _=>I.base.free b o z n (by intro y;exact absurd (show b∈([]:List Addr) from y) (by simp)),λb o z _=>?_,I.base.tups,I.base.frzs,I.base.tbls⟩,Kv I.hok trk st fl'.1,fl',⟨trk,old,all,he⟩,q⟩;by_cases hb:b∈frs outer
 .obtain⟨sl,e1⟩:=slot b o z (I.ok.frf b hb) hb;exact⟨_,e1⟩
 .obtain⟨o',e'⟩:=all b o z hb;exact⟨o',fl'.1 _ _ e'⟩
end
structure Xc (K:Fg)(mg:Str->Option Value)(x:Str)(C:Addr)(bm:List Value)(nid:String):Prop where
 bound:mg x=some (.ref C)
 ex:W.excIn K C bm nid=true
theorem B2 {K:Fg}{mg:Str->Option Value}{x:Str}{C:Addr}{bm:List Value}{nid:String}{h:Heap}(c:Xc K mg x C bm nid)(KX:K.In h):OwnCls x C bm nid mg h:=by
 obtain⟨b,q⟩:=c;constructor
 .exact b
 .revert q
  unfold W.excIn;intro q;split at q
  case h_2=>cases q
  case h_1 dd cd sl look=>
   split at q
   case h_2=>cases q
   case h_1 C1 YK z0 z1 z2 z3 nn z5 em es=>
    rw[zZ,zZ,zZ,zZ,zZ] at q;obtain⟨⟨⟨⟨⟨q1,q2⟩,q3⟩,q4⟩,q5⟩,q6⟩:=q;have r1:=beq_iff_eq.mp q1
    have r2:=beq_iff_eq.mp q2
    have r6:=beq_iff_eq.mp q6;cases cd with
    | mk a1 a2 a3 a4 a5 a6 a7 a8 a9 a10 a11=>
     have em':a3=Value.ref C1::YK:=em
     have r3:a11=false:=by simpa using q3
     have hsl:sl=#[z0,z1,z2,z3,some (Value.builtin nn),z5]:=by
      cases sl with
      | mk l=>exact congrArg Array.mk es
     subst r1 r2 em' r3 hsl;exact⟨YK,a4,a1,a5,a2,a6,a7,a8,a9,a10,dd,z0,z1,z2,z3,z5,_,KX _ _ look,Heap.Ns.of_isNs (W.isNs_of_in KX q5),W.nsMap_none_of_in KX q5 r6,W.tail_of_in KX q4⟩
abbrev WC:=List D->Sto->DK->Prop
abbrev Sd:=List D->Sto->DK->(Addr->Sto->Prop)->Prop
def upC (K:Fg)(Z:Zx)(w:WC):List V->Hp->VK->Prop:=λxs H Qv=>∃r S ds Q,Rel K Z r S H/\Rps r H ds xs/\w ds S Q/\Ret K Z r H Q Qv
def upF (K:Fg)(sd:Sd):Sp:=λvs H Qv E=>∃ex:Addr->Sto->Prop,upC K (Zc ex E) (λds S Q=>sd ds S Q ex) vs H Qv
def Kn (w:WC)(t:TDA):TDE:=λdl S Q=>t dl S λds S1=>w ds S1 Q
def Q8 (ex:Ev->Addr->Sto->Prop)(sd:Sd)(t:TDA):TDE:=λdl S Q=>t dl S λds S1=>sd ds S1 Q (ex dl)
def X9 (X:Cx)(W:St->XK):Prop:=∀(aA:LA)(σ:St)(H:Hp)(s:Shared)(e:Value)(s':Shared),Inv X aA σ H s->CXE X.prog X.w X.stack H s (W σ) e s'->X.xe e s'
section
variable {X:Cx}{k:Nat}{f:Addr}{fd:FuncData}{ps:List Str}{sp:Sp}{W:St->XK}{x:Str}{p pos:Pos}{e:Expr}{es:List Expr}{t:TA}
theorem Mc (F:Yj X.prog X.w X.K X.mg X.base (CXE X.prog X.w) k f fd ps sp)(hr:ZG k X.A)(hb:Y5 X.K fd ps [])(hx:X9 X W)(I:Inv X aA σ H s)(r:Zt vs us)(h:sp vs H Q (W σ)):wpAny (mX X) X.A (call (.ref f) us) (EP X aA σ Q) X.xe s:=by
 have hl:us.length=ps.length:=by rw[<- r.length];exact F.len _ _ _ _ h
 have hb':=hb s us I.kIn (by rw[yE];exact hl);rw[yE] at hb';refine wpAny_call (codeAny_mono (F.run X.A X.stack s H ⟨us,[]⟩ us vs Q (W σ) hr I.env0 hb' r h) λz s' hq=>?_);cases z with
 | error ev=>exact hx aA σ H s ev s' I hq
 | ok fl=>
  cases fl with
  | ret u=>exact I.after hq
  | _=>exact False.elim hq
theorem A9 (F:Yj X.prog X.w X.K X.mg X.base (CXE X.prog X.w) k f fd ps sp)(hr:ZG k X.A)(hg:Gl X x)(hm:X.mg x=some (.ref f))(hk:PySem.W.keepIn X.K (.ref f)=true)(hb:Y5 X.K fd ps [])(hx:X9 X W)
  (ha:PA X (e::es) t)(hdb:(x==("__debug__":Str))=false)(he:He X e es)(hpl:Hp1 X pos es):
  PE X (.Call (.Name x p) (e::es) [] pos) (λσ H Q=>t σ H λvs H1=>sp vs H1 Q (W σ)):=by
 intro aA s σ H Q I h;refine wpAny_Call_Name_kw (UM I hg hm ?_ hdb);exact PySem.W.callWith_K (h₀:=X.base) I.ok.mod.kin hk (thn (ha pos aA s σ H _ I h) λus s1 ⟨vs,H1,I1,r,q⟩=>⟨I1.kIn,Mc F hr hb hx I1 r q⟩) he hpl
theorem zbw (F:Yj X.prog X.w X.K X.mg X.base (CXE X.prog X.w) k f fd ps sp)(hr:ZG k X.A)(hg:Gl X x)(hm:X.mg x=some (.ref f))(hk:PySem.W.keepIn X.K (.ref f)=true)(hb:Y5 X.K fd ps [])(hx:X9 X W)
  (hdb:(x==("__debug__":Str))=false):PE X (.Call (.Name x p) [] [] pos) (λσ H Q=>sp [] H Q (W σ)):=by
 intro aA s σ H Q I h;refine wpAny_Call_Name_kw (UM I hg hm ?_ hdb);exact PySem.W.callWith_K0 I.kIn hk (Mc (us:=[]) F hr hb hx I .nil h)
end
section
variable {X:Cx}{Z:Zx}{x:Str}{p pos:Pos}{e:Expr}{es:List Expr}{t:TDA}{id T:String}{w:WC}
theorem FP (h:up X.K Z (Kn w t) σ H Qv):upA X.K Z t σ H λvs H1=>upC X.K Z w vs H1 Qv:=by
 obtain⟨r,dl,S,Q,rs,aS,h,ret⟩:=h;exact⟨r,dl,S,_,rs,aS,h,λvs H1 r1 ds S1 e1 aB p1 h1=>⟨r1,S1,ds,Q,aB,p1,h1,ret.ext e1⟩⟩
theorem ZX (hc:YJ X (.builtin id) (upC X.K Z w))(hg:Gl X x)(hm:X.mg x=none)(hv:bootBuiltins x=some (.builtin id))(ha:PDA X Z (e::es) t)(hn:x≠"__name__":=by decide)(hdb:(x==("__debug__":Str))=false:=by decide)
  (he:He X e es:=by rfl)(hpl:Hp1 X pos es:=by rfl):PD X Z (.Call (.Name x p) (e::es) [] pos) (Kn w t):=
 ZO (PV hc hg hm hv ha hn hdb he hpl) λ_ _ _ h=>FP h
theorem Xu (hc:YJ X (.type T) (upC X.K Z w))(hg:Gl X x)(hm:X.mg x=none)(hv:bootBuiltins x=some (.type T))(ha:PDA X Z (e::es) t)(hn:x≠"__name__":=by decide)(hdb:(x==("__debug__":Str))=false:=by decide)
  (he:He X e es:=by rfl)(hpl:Hp1 X pos es:=by rfl):PD X Z (.Call (.Name x p) (e::es) [] pos) (Kn w t):=
 ZO (NC hc hg hm hv ha hn hdb he hpl) λ_ _ _ h=>FP h
theorem OF {sd:Sd}{r:List Addr}{S:Sto}{H:Hp}{dl:Ev}{σ:St}{ds:List D}{vs:List V}{Q:DK}{Qv:VK}(rs:Rs r H dl σ)(aS:Rel X.K Z r S H)(p:Rps r H ds vs)(h:sd ds S Q (Z.ex dl))(ret:Ret X.K Z r H Q Qv):upF X.K sd vs H Qv (Z.w σ):=
 ⟨Z.ex dl,r,S,ds,Q,⟨aS.b,λ_ _ c H' r' S' x _ rb q=>aS.xw dl σ c H' r' S' x (rs.ext x) rb q⟩,p,h,λv H' r' d S' x rel' pv q=>ret v H' r' d S' x ⟨rel'.b,aS.xw.ext x⟩ pv q⟩
theorem zcq (F:Yj X.prog X.w X.K X.mg X.base (CXE X.prog X.w) k f fd ps (upF X.K sd))(hr:ZG k X.A)(hg:Gl X x)(hm:X.mg x=some (.ref f))(hk:PySem.W.keepIn X.K (.ref f)=true)(hb:Y5 X.K fd ps [])(hx:X9 X W)(ha:PDA X ⟨ex,W⟩ (e::es) t)(hdb:(x==("__debug__":Str))=false:=by decide)(he:He X e es:=by rfl)(hpl:Hp1 X pos es:=by rfl):PD X ⟨ex,W⟩ (.Call (.Name x p) (e::es) [] pos) (Q8 ex sd t):=
 ZO (A9 F hr hg hm hk hb hx ha hdb he hpl) λσ H Qv ⟨r,dl,S,Q,rs,aS,h,ret⟩=>⟨r,dl,S,_,rs,aS,h,λvs H1 r1 ds S1 e1 aB p1 h1=>OF (Z:=⟨ex,W⟩) (rs.ext e1) aB p1 h1 (ret.ext e1)⟩
def wAbs:WC:=λds S Q=>match ds with
 | [.int i]=>Q (.int (if i<0 then -i else i)) S
 | _=>False
theorem Li:YJ X (.builtin "abs") (upC X.K Z wAbs):=SJ za6 λxs H Qv ⟨r,S,ds,Q,aS,ps,q,ret⟩=>by
 unfold wAbs at q;split at q
 .rename_i i;obtain⟨v,vs,rfl,p1,p2⟩:=ps.uncons;have z:=p2.unnil;subst z;cases p1;exact⟨i,rfl,ret _ _ _ _ _ Ext.refl aS (.int _) q⟩
 .exact q.elim
def UX:WC:=λds S Q=>match ds with
 | [.tup xs]=>Q (.int xs.length) S
 | [.ref n]=>match lAt S n with
  | some o=>Q (.int (ZC o).length) S
  | none=>False
 | _=>False
theorem Yz:YJ X (.builtin "len") (upC X.K Z UX):=SJ DZ λxs H Qv ⟨r,S,ds,Q,aS,ps,q,ret⟩=>by
 unfold UX at q;split at q
 .rename_i ys;obtain⟨v,vs,rfl,p1,p2⟩:=ps.uncons;have z:=p2.unnil;subst z;obtain⟨a,zs,rfl,h1,h2⟩:=p1.untup;exact⟨a,zs,rfl,.inr (SqT.of h1),by rw[<- h2.1];exact ret _ _ _ _ _ Ext.refl aS (.int _) q⟩
 .rename_i n;obtain⟨v,vs,rfl,p1,p2⟩:=ps.uncons;have z:=p2.unnil;subst z;split at q
  .rename_i o eo;obtain⟨eo,eL⟩:=XM eo;obtain⟨a,ha,ob⟩:=aS.at eo;cases p1 with
   | ref h1=>
    rw[h1] at ha;cases ha
    obtain⟨ys,sq,pr⟩:=ob.list eL;exact⟨_,ys,rfl,.inl sq,by rw[<- pr.1];exact ret _ _ _ _ _ Ext.refl aS (.int _) q⟩
  .exact q.elim
 .exact q.elim
def Xm (t T:String):Bool:=t==T||(t == "bool"&&T == "int")
def dInst (T:String)(te:TDE):TDE:=λdl S Q=>te dl S λd S1=>match d with
 | .ref _=>False
 | .exc _=>False
 | .non=>Q (.bl (Xm "NoneType" T)) S1
 | .bl _=>Q (.bl (Xm "bool" T)) S1
 | .int _=>Q (.bl (Xm "int" T)) S1
 | .str _=>Q (.bl (Xm "str" T)) S1
 | .tup _=>Q (.bl (Xm "tuple" T)) S1
def Kit (K:Fg)(T:String):Prop:=∀t∈["NoneType","bool","int","str","tuple"],W.kitOne K (.type t) (.type T)=some (Xm t T)
def rInst (K:Fg):List V->Hp->VK->Prop:=λxs H Qv=>∃x T t b,xs=[x,.ty T]/\Wm K H x t/\W.kitOne K t (.type T)=some b/\Qv (.bl b) H
theorem Fc:YJ X (.builtin "isinstance") (rInst X.K):=by
 intro aA s σ H xs us Q I r h;obtain⟨x,T,t,b,rfl,ty,e,q⟩:=h;obtain⟨u,w',rfl,r1,r2⟩:=Iz r;cases r2;exact B6 I r1 ty e λtk=>⟨.bl b,H,I.tok tk,rfl,q⟩
theorem SM (KT:Kit X.K T)(hg:Gl X "isinstance")(hm:X.mg "isinstance"=none)(hg2:Gl X y)(hm2:X.mg y=none)(hv2:bootBuiltins y=some (.type T))(ha:PD X Z e te)(hv:bootBuiltins "isinstance"=some (.builtin "isinstance"):=by exact PyProof.Rows.Boot.«isinstance»)(hn2:y≠"__name__":=by decide)(hd2:(y==("__debug__":Str))=false:=by decide)(he2:starEach [e,.Name y p2] X.env=(false,eval e X.env)::starEach [.Name y p2] X.env:=by rfl)(he3:starEach [.Name y p2] X.env=(false,eval (.Name y p2) X.env)::starEach [] X.env:=by rfl)(hpl:(backTo pos (starEach [.Name y p2] X.env)).any (·.1)=false:=by rfl):
  PD X Z (.Call (.Name "isinstance" p) [e,.Name y p2] [] pos) (dInst T te):=
 ZO (PV Fc hg hm hv (Vf ha (Vf (F1 (v:=.ty T) hg2 hm2 hv2 rfl hn2 hd2) UB he3) he2) ⋯ ⋯ he2 hpl) λσ H Qv ⟨r,dl,S,Q,rs,aS,h,ret⟩=>
  ⟨r,dl,S,_,rs,aS,h,λv H1 r1 d S1 e1 aB p1 h1=>by
   cases p1 with
   | non=>exact⟨_,T,_,_,rfl,.non,KT _ (by simp),ret _ _ _ _ _ e1 aB (.bl _) h1⟩
   | bl b=>exact⟨_,T,_,_,rfl,.bl b,KT _ (by simp),ret _ _ _ _ _ e1 aB (.bl _) h1⟩
   | int b=>exact⟨_,T,_,_,rfl,.int b,KT _ (by simp),ret _ _ _ _ _ e1 aB (.bl _) h1⟩
   | str b=>exact⟨_,T,_,_,rfl,.str b,KT _ (by simp),ret _ _ _ _ _ e1 aB (.bl _) h1⟩
   | tup e2 _ _=>exact⟨_,T,_,_,rfl,.tup e2,KT _ (by simp),ret _ _ _ _ _ e1 aB (.bl _) h1⟩
   | ref _=>exact(show False from h1).elim
   | exc _=>exact(show False from h1).elim⟩
end
section
variable {X:Cx}{Z:Zx}{st:Stmt}{YK:List Stmt}{t u:TDS}{e:Expr}{te:TDE}{pos:Pos}
def Yx:TDS:=λE dl S=>E.nx dl S
def Yq (t u:TDS):TDS:=λE dl S=>t { nx:=λdl' S'=>u E dl' S',rt:=E.rt,bk:=E.bk,ct:=E.ct } dl S
theorem Zu:Xy X Z [] Yx:=Gd EU λF σ H ⟨r,dl,S,E,rs,aS,h,ret⟩=>ret.nx σ H r dl S Ext.refl rs aS h
theorem Zg (h1:PDS X Z st t)(h2:Xy X Z YK u):Xy X Z (st::YK) (Yq t u):=
 Gd (zbX h1 h2) λF σ H ⟨r,dl,S,E,rs,aS,h,ret⟩=>⟨r,dl,S,_,rs,aS,h,λσ' H' r' dl' S' x rs' rel' q=>⟨r',dl',S',E,rs',rel',q,ret.ext x⟩,ret.bk,ret.ct,ret.rt⟩
theorem Zi (h1:PDS X Z st t):Xy X Z [st] t:=BB h1
def dDrop (te:TDE):TDS:=λE dl S=>te dl S λ_ S1=>E.nx dl S1
theorem Y0 (he:PD X Z e te)(hs:swapsWith e none pos.line X.env=pure false:=by rfl):PDS X Z (.Expr e pos) (dDrop te):=
 XT (Dc he hs) λF σ H ⟨r,dl,S,E,rs,aS,h,ret⟩=>⟨r,dl,S,_,rs,aS,h,λv H1 r1 d S1 x aB p q=>ret.nx σ H1 r1 dl S1 x (rs.ext x) aB q⟩
def Q5 (te:TDE):TDS:=λE dl S=>te dl S E.rt
theorem Zl (he:PD X Z e te):PDS X Z (.Return (some e) pos) (Q5 te):=
 XT (zdg he) λF σ H ⟨r,dl,S,E,rs,aS,h,ret⟩=>⟨r,dl,S,_,rs,aS,h,ret.rt⟩
def dIf (c:TDT)(t u:TDS):TDS:=λE dl S=>c dl S λk S1=>if k=true then t E dl S1 else u E dl S1
theorem Zq (hc:PDT X Z c tc)(ha:Xy X Z a t)(hb:Xy X Z b u):PDS X Z (.If c a b pos) (dIf tc t u):=
 XT (ps_if hc ha hb) λF σ H ⟨r,dl,S,E,rs,aS,h,ret⟩=>⟨r,dl,S,_,rs,aS,h,λk H1 r1 S1 x aB q=>by
  cases k with
  | true=>exact Yy ⟨r1,dl,S1,E,rs.ext x,aB,(by simpa using q),ret.ext x⟩
  | false=>exact ZH ⟨r1,dl,S1,E,rs.ext x,aB,(by simpa using q),ret.ext x⟩⟩
def Ow (i:Nat)(te:TDE):TDS:=λE dl S=>te dl S λd S1=>E.nx (dl.set i (some d)) S1
theorem Zn (hN:X.N.Nodup)(hi:X.N[i]?=some x)(hx:Loc X.env.scope x)(he:PD X Z e te)(hs:swapsWith e (some (.Name x pos')) pos.line X.env=pure false:=by rfl)(hf:Hf X x:=by first|exact .inl rfl|exact .inr rfl|assumption):PDS X Z (.Assign [.Name x pos'] e pos) (Ow i te):=
 XT (CA hN hi hx he hs hf) λF σ H ⟨r,dl,S,E,rs,aS,h,ret⟩=>⟨r,dl,S,_,rs,aS,h,λv H1 r1 d S1 x aB p q=>ret.nx _ H1 r1 _ S1 x ((rs.ext x).set i p) aB q⟩
def Ca (c:TDT)(tb:TDS):TDS:=λE dl S=>∃W:Nat->Ev->Sto->Prop,(∃m,W m dl S)/\∀m dl S,W m dl S->
 c dl S λk S1=>if k=true then tb { nx:=λdl' S'=>∃m',m'<m/\W m' dl' S',rt:=E.rt,bk:=E.nx,ct:=λdl' S'=>∃m',m'<m/\W m' dl' S' } dl S1 else E.nx dl S1
theorem Oa (hp:PassesOwn (mX X) X.A X.env X.xe)(hc:PDT X Z c tc)(hb:Xy X Z body tb):PDS X Z (.While c body [] pos) (Ca tc tb):=
 XT (zcu hp hc hb) λF σ H ⟨r,dl,S,E,rs,aS,⟨W,⟨m0,w0⟩,turn⟩,ret⟩=>by
  refine⟨λm σ' H'=>∃r' dl' S',Ext r r' H H'/\Rs r' H' dl' σ'/\Rel X.K Z r' S' H'/\W m dl' S',⟨m0,r,dl,S,Ext.refl,rs,aS,w0⟩,?_⟩;rintro m σ1 H1 ⟨r1,dl1,S1,x1,rs1,aB,w1⟩;refine⟨r1,dl1,S1,_,rs1,aB,turn m dl1 S1 w1,λk H2 r2 S2 x2 aC q2=>?_⟩;cases k with
  | true=>
   refine Yy ⟨λσ' H'=>∃m',m'<m/\∃r' dl' S',Ext r r' H H'/\Rs r' H' dl' σ'/\Rel X.K Z r' S' H'/\W m' dl' S',λ_ _ z=>z,r2,dl1,S2,_,rs1.ext x2,aC,(by simpa using q2),?_⟩;have go:∀σ' H' r' dl' S',Ext r2 r' H2 H'->Rs r' H' dl' σ'->Rel X.K Z r' S' H'->(∃m',m'<m/\W m' dl' S')->∃m',m'<m/\∃r' dl' S',Ext r r' H H'/\Rs r' H' dl' σ'/\Rel X.K Z r' S' H'/\W m' dl' S':=
    λσ' H' r' dl' S' x rs' rel' ⟨m',hm,w'⟩=>⟨m',hm,r',dl',S',x1.trans (x2.trans x),rs',rel',w'⟩
   exact⟨go,λσ' H' r' dl' S' x rs' rel' q=>ret.nx σ' H' r' dl' S' (x1.trans (x2.trans x)) rs' rel' q,go,ret.rt.ext (x1.trans x2)⟩
  | false=>exact ZH (ret.nx σ1 H2 r2 dl1 S2 (x1.trans x2) (rs1.ext x2) aC (by simpa using q2))
def dFor (i:Nat)(tl:TDE)(tb:TDS):TDS:=λE dl S=>tl dl S λd S1=>match d with
 | .ref n=>(lAt S1 n).isSome=true/\∃W:Nat->Nat->Ev->Sto->Prop,(∃m,W 0 m dl S1)/\∀k m dl S,W k m dl S->match lAt S n with
  | some o=>match (ZC o)[k]? with
   | some x=>tb { nx:=λdl' S'=>∃m',m'<m/\W (k+1) m' dl' S',rt:=E.rt,bk:=E.nx,ct:=λdl' S'=>∃m',m'<m/\W (k+1) m' dl' S' } (dl.set i (some x)) S
   | none=>E.nx dl S
  | none=>False
 | _=>False
theorem Py (hp:PassesOwn (mX X) X.A X.env X.xe)(hc:X.calm=true)(hN:X.N.Nodup)(hi:X.N[i]?=some x)(hx:Loc X.env.scope x)(hl:PD X Z aO tl)(hb:Xy X Z body tb)(hf:Hf X x:=by first|exact .inl rfl|exact .inr rfl|assumption)(hs:∀y,foldedSetIterable aO X.env y=pure y:=by intro _;rfl):PDS X Z (.For (.Name x pos') aO body [] pos) (dFor i tl tb):=
 XT (PR hp hc (MR hl) (Nk hN hi hx hf) hb hs) λF σ H ⟨r,dl,S,E,rs,aS,h,ret⟩=>by
  refine⟨r,dl,S,_,rs,aS,h,λv H1 r1 d S1 x1 aB p1 q1=>?_⟩;cases p1 with
  | @ref n a hn=>
   obtain⟨aN,W,⟨m0,w0⟩,turn⟩:=q1;have sql:∀ {r':List Addr} {S':Sto} {H':Hp} {o:Ob},Ext r1 r' H1 H'->Rel X.K Z r' S' H'->lAt S' n=some o->∃xs,SqL X.K H' a xs/\Rps r' H' (ZC o) xs:=λ{r' S' H' o} x' rel' eo=>by
    obtain⟨eo,eL⟩:=XM eo;obtain⟨a',ha,ob⟩:=rel'.at eo;rw[x'.adr n a hn] at ha;cases ha
    exact ob.list eL
   obtain⟨o1,eo1⟩:=yV.mp aN;obtain⟨xs1,sq1,_⟩:=sql Ext.refl aB eo1;refine⟨a,rfl,⟨xs1,sq1⟩,λk m σ' H'=>∃r' dl' S',Ext r1 r' H1 H'/\Rs r' H' dl' σ'/\Rel X.K Z r' S' H'/\W k m dl' S',⟨m0,r1,dl,S1,Ext.refl,rs.ext x1,aB,w0⟩,?_⟩;rintro k m σ2 H2 ⟨r2,dl2,S2,x2,rs2,aC,w2⟩;have q:=turn k m dl2 S2 w2;split at q
   .rename_i o eo;obtain⟨xs,sq,pr⟩:=sql x2 aC eo;split at q
    .rename_i y ey;obtain⟨v,hv,pv⟩:=pr.get ey;have go:∀ {r3:List Addr} {H3:Hp},Ext r2 r3 H2 H3->∀σ' H' r' dl' S',Ext r3 r' H3 H'->Rs r' H' dl' σ'->Rel X.K Z r' S' H'->(∃m',m'<m/\W (k+1) m' dl' S')->∃m',m'<m/\∃r' dl' S',Ext r1 r' H1 H'/\Rs r' H' dl' σ'/\Rel X.K Z r' S' H'/\W (k+1) m' dl' S':=
      λ{r3 H3} x3 σ' H' r' dl' S' x rs' rel' ⟨m',hm,w'⟩=>⟨m',hm,r',dl',S',x2.trans (x3.trans x),rs',rel',w'⟩
     refine .inr ⟨⟨xs,v,sq,hv⟩,λσ' H'=>∃m',m'<m/\∃r' dl' S',Ext r1 r' H1 H'/\Rs r' H' dl' σ'/\Rel X.K Z r' S' H'/\W (k+1) m' dl' S',λ_ _ z=>z,λv' H' y'=>?_⟩;obtain⟨eH,y'⟩:=y';subst eH;have ev:v'=v:=by
      have z:=y' xs sq;rw[hv] at z;exact(Option.some.inj z).symm
     subst ev;exact⟨r2,_,S2,_,rs2.set i pv,aC,q,go Ext.refl,λσ' H' r' dl' S' x rs' rel' z=>ret.nx σ' H' r' dl' S' (x1.trans (x2.trans x)) rs' rel' z,go Ext.refl,ret.rt.ext (x1.trans x2)⟩
    .rename_i ey;have aL:(ZC o).length<=k:=yR.mp ey;exact .inl ⟨⟨xs,sq,by rw[<- pr.1];exact aL⟩,ret.nx σ2 H2 r2 dl2 S2 (x1.trans x2) rs2 aC q⟩
   .exact q.elim
  | _=>exact(show False from q1).elim
end
def Vu (N:List Str)(ds:List D):Ev:=ds.map some++List.replicate (N.length-ds.length) none
theorem Iv {r:List Addr}{H:Hp}{N:List Str}{ds:List D}{vs:List V}(h:Rps r H ds vs):Rs r H (Vu N ds) (L2.WQ N vs):=by
  refine⟨by simp[Vu,L2.WQ,h.1],λi d e=>?_⟩;unfold Vu at e;by_cases hi:i<ds.length
  · rw[zY (by simpa using hi),zR] at e
    cases q:ds[i]? with
    | none=>
   rw[q] at e;cases e
    | some z=>
      rw[q] at e;cases e;obtain⟨v,hv,pv⟩:=h.get q;refine⟨v,?_,pv⟩;unfold L2.WQ;rw[zY (by simpa [h.1] using hi),zR,hv];rfl
  · rw[yC (by simpa using hi),wG] at e
    split at e<;>cases e
section
variable {P:Program}{w:World}{K:Fg}{mg:Str->Option Value}{base:Heap}
abbrev Z0:Zx:=Zc (λ_ _=>False) (λ_ _ _=>False)
theorem Ye:X9 X Z0.w:=λ_ _ _ _ _ _ _ h=>by
 obtain⟨_,_,_,_,_,_,_,_,_,_,_,_,q⟩:=h;exact q.elim
theorem ZN {x aG:Str}{st:Stmt}{f:Addr}{fd:FuncData}{N ps:List Str}{k:Nat}{sd:Sd}(F:Fun K x aG st f fd)(Sc:ZE N ps (Zr st))(len:∀ds S Q ex,sd ds S Q ex->ds.length=ps.length)
  (hbody:∀(cdv:Value)(A:Around)(outer:List Env)(s:Shared)(H:Hp)(E:XK),ZG k (A.deeper (envOfC aG (Zr st) s.heap.objs.size f cdv))->
   ∃t,Xy (YM (CXE P w) P w K mg base N aG (Zr st) f cdv A outer s H E).nox Z0 (WN st) t/\∀ds S Q ex,sd ds S Q ex->t { nx:=λ_ S'=>Q .non S',rt:=Q } (Vu N ds) S):Yj P w K mg base (CXE P w) (k+1) f fd ps (upF K sd):=by
 obtain⟨oc,od,kV,doc,pm,an,cdv,ct,osl,rfl,lk,hcd⟩:=F.ex;refine Jj lk hcd Sc (λvs H Q E h=>?_) λA outer s H vs Q E hr h=>?_
 .obtain⟨ex,r,S,ds,Q',aS,p,q,ret⟩:=h;rw[<- p.1];exact len ds S Q' ex q
 .obtain⟨ex,r,S,ds,Q',aS,p,q,ret⟩:=h;obtain⟨t,ht,hq⟩:=hbody cdv A outer s H E hr;have back:∀ {H':Hp} {r':List Addr} {S':Sto},Ext r r' H H'->Rel K Z0 r' S' H'->Rel K (Zc ex E) r' S' H':=λx rel'=>⟨rel'.b,aS.xw.ext x⟩
  refine⟨upS K Z0 t,ht.nox,r,Vu N ds,S,_,Iv p,⟨aS.b,λ_ _ _ _ _ _ _ _ _ z=>z.elim⟩,hq ds S Q' ex q,?_,?_,?_,?_⟩
  .intro σ' H' r' dl' S' x _ rel' z;exact ret .non H' r' .non S' x (back x rel') .non z
  .intro σ' H' r' dl' S' x _ rel' z;exact z
  .intro σ' H' r' dl' S' x _ rel' z;exact z
  .intro v H' r' d S' x rel' p' z;exact ret v H' r' d S' x (back x rel') p' z
theorem XQ {x aG:Str}{st:Stmt}{f:Addr}{fd:FuncData}{N ps:List Str}{k:Nat}{sd:Sd}(F:Fun K x aG st f fd)(Sc:ZE N ps (Zr st))(len:∀ds S Q ex,sd ds S Q ex->ds.length=ps.length)
  (hbody:∀(cdv:Value)(A:Around)(outer:List Env)(s:Shared)(H:Hp)(E:XK)(ex:Addr->Sto->Prop),ZG k (A.deeper (envOfC aG (Zr st) s.heap.objs.size f cdv))->
   X9 (YM (CXE P w) P w K mg base N aG (Zr st) f cdv A outer s H E) (λ_=>E)->Ja (YM (CXE P w) P w K mg base N aG (Zr st) f cdv A outer s H E) (λ_=>E)->
   ∃t,Xy (YM (CXE P w) P w K mg base N aG (Zr st) f cdv A outer s H E) (Zc ex E) (WN st) t/\∀ds S Q,sd ds S Q ex->t { nx:=λ_ S'=>Q .non S',rt:=Q } (Vu N ds) S):Yj P w K mg base (CXE P w) (k+1) f fd ps (upF K sd):=by
 obtain⟨oc,od,kV,doc,pm,an,cdv,ct,osl,rfl,lk,hcd⟩:=F.ex;refine Jj lk hcd Sc (λvs H Q E h=>?_) λA outer s H vs Q E hr h=>?_
 .obtain⟨ex,r,S,ds,Q',aS,p,q,ret⟩:=h;rw[<- p.1];exact len ds S Q' ex q
 .obtain⟨ex,r,S,ds,Q',aS,p,q,ret⟩:=h;obtain⟨t,ht,hq⟩:=hbody cdv A outer s H E ex hr zb6 Aq;refine⟨upS K (Zc ex E) t,ht,r,Vu N ds,S,_,Iv p,aS,hq ds S Q' q,?_,?_,?_,ret⟩
  .intro σ' H' r' dl' S' x _ rel' z;exact ret .non H' r' .non S' x rel' .non z
  .intro σ' H' r' dl' S' x _ rel' z;exact z
  .intro σ' H' r' dl' S' x _ rel' z;exact z
end
open PySem
def Sz (n:Nat)(i:Int):Prop:=i.natAbs<2^n
theorem Sz.mono (h:Sz m i)(hn:m<=n):Sz n i:=zK h (xD ⋯ hn)
theorem Sz.bits (h:Sz n i):Builtin.Int.intBits i<=n:=by
 unfold Builtin.Int.intBits;split
 .exact zS _
 .rename_i hz;have hp:i.natAbs≠0:=by
   intro z;have z2:i=0:=by lia
   simp[z2] at hz
  have:=(xM hp).mpr h;lia
theorem SR (hi:Sz m i)(hj:Sz n j)(hm:m<=1048576:=by decide)(hn:n<=1048576:=by decide):IntMulOk i j:=by
 have e20:(2:Nat)^20=1048576:=by decide
 exact IntMulOk.of_bits (zW hi.bits ()) (zW hj.bits ())
theorem Sz.of {n:Nat}{i:Int}(m:Nat)(h:i.natAbs<=m)(hm:m<2^n:=by decide):Sz n i:=wK h hm
theorem Sz.neg (hi:Sz m i):Sz m (-i):=by
 unfold Sz at *
 rw[Int.natAbs_neg];exact hi
theorem Sz.log (h:Sz n i)(hi:i≠0)(hn:n<=9000:=by decide):i.natAbs.log2<9000:=by
 have:=(xM (by lia:i.natAbs≠0)).mpr h;lia
theorem Sz.fd {n:Nat}{i:Int}(h:Sz n i)(hi:0<i)(hn:n<=9000:=by decide):0<i/\i.natAbs.log2<9000:=⟨hi,h.log () hn⟩
theorem Pu {a b:Int}(hb:0<b):0<=a%b/\a%b<b:=⟨Int.emod_nonneg _ (),Int.emod_lt_of_pos _ hb⟩
example (x:Int):-(10^40)<=x%(2*10^40+1)-10^40:=by lia
example (x:Int):x%(2*10^40+1)-10^40<=10^40:=by lia
example (x:Int) (h:-(10^40)<=x) (h2:x<=2*10^41):Sz 140 x:=Sz.of (2*10^41) ()
theorem Dp (a b:Int):Int.gcd b (a%b)=Int.gcd a b:=by
 rw[Int.emod_def,show a-b*(a/b)=a-(a/b)*b by rw[wM],Int.gcd_sub_mul_right_right,Int.gcd_comm]
def XA (i:Int):Int:=if i<0 then -i else i
theorem KR (i:Int):0<=XA i:=by unfold XA;split<;>lia
theorem Cd (a b:Int):Int.gcd (XA a) (XA b)=Int.gcd a b:=by
 have h:∀i:Int,(XA i).natAbs=i.natAbs:=λi=>by unfold XA;split<;>lia
 unfold Int.gcd;rw[h,h]
theorem Hu (hB:B≠0)(hd:d=(if B<0 then -((Int.gcd T B:Nat):Int) else ((Int.gcd T B:Nat):Int))):
  d≠0/\T.fdiv d*d=T/\B.fdiv d*d=B/\1<=B.fdiv d/\Int.gcd (T.fdiv d) (B.fdiv d)=1/\T.fdiv d*B=T*B.fdiv d:=by
 have g0:0<Int.gcd T B:=Nat.pos_of_ne_zero λz=>hB (Int.gcd_eq_zero_iff.mp z).2
 have dT:((Int.gcd T B:Nat):Int) ∣ T:=wN T B
 have dB:((Int.gcd T B:Nat):Int) ∣ B:=wO T B
 have hne:d≠0:=by
  rw[hd];split<;>lia
 have eT:d ∣ T:=by rw[hd];split<;>first|exact Int.neg_dvd.mpr dT|exact dT
 have eB:d ∣ B:=by rw[hd];split<;>first|exact Int.neg_dvd.mpr dB|exact dB
 have fT:T.fdiv d=T/d:=vN eT
 have fB:B.fdiv d=B/d:=vN eB
 have mT:T.fdiv d*d=T:=by rw[fT];exact vO eT
 have mB:B.fdiv d*d=B:=by rw[fB];exact vO eB
 have gg:Int.gcd (T.fdiv d) (B.fdiv d)=1:=by
  have z:=Int.gcd_ediv_gcd_ediv_gcd g0;rw[fT,fB,hd];split
  .rw[Int.ediv_neg,Int.ediv_neg,Int.neg_gcd,Int.gcd_neg];exact z
  .exact z
 have pos:1<=B.fdiv d:=by
  by_cases hb:B<0
  .have dn:d<0:=by rw[hd,if_pos hb];lia
   by_cases q:B.fdiv d<=0
   .have:=Int.mul_nonneg_of_nonpos_of_nonpos q (Int.le_of_lt dn);lia
   .lia
  .have dp:0<d:=by rw[hd,if_neg hb];lia
   by_cases q:B.fdiv d<=0
   .have:=Int.mul_nonneg (show 0<=-(B.fdiv d) by lia) (Int.le_of_lt dp);rw[Int.neg_mul] at this;omega
   .lia
 refine⟨hne,mT,mB,pos,gg,?_⟩
 calc T.fdiv d*B=T.fdiv d*(B.fdiv d*d):=by rw[mB]
  _=T.fdiv d*d*B.fdiv d:=by grind
  _=T*B.fdiv d:=by rw[mT]
theorem Oy {T d:Int}(hne:d≠0)(mT:T.fdiv d*d=T):(T.fdiv d).natAbs<=T.natAbs:=by
 have h:(T.fdiv d).natAbs*d.natAbs=T.natAbs:=by rw[<- wQ,mT]
 have hd:1<=d.natAbs:=by lia
 calc (T.fdiv d).natAbs=(T.fdiv d).natAbs*1:=by lia
  _<=(T.fdiv d).natAbs*d.natAbs:=Nat.mul_le_mul_left _ hd
  _=T.natAbs:=h
section
variable {X:Cx}{Z:Zx}
def wIf (C:Int->Int->Bool)(g:Int->Int->D):W2:=λx y S Q=>match x,y with
 | .int i,.int j=>if C i j=true then Q (g i j) S else False
 | _,_=>False
theorem opIf (h:OpR X f (upO X.K Z (wI C g)))(hc:∀i j,C' i j=true->C i j):OpR X f (upO X.K Z (wIf C' g)):=
 SW h λx y H Qv ⟨r,S,dx,dy,Q,aS,px,py,q,ret⟩=>⟨r,S,dx,dy,Q,aS,px,py,by
  unfold wIf at q;split at q
  .obtain⟨h1,h2⟩:=Q9 q;exact⟨hc _ _ h1,h2⟩
  .exact q.elim,ret⟩
def NJ (_ j:Int):Bool:=decide (0<j)&&decide (j<1073741824)
abbrev Rg:W2:=wIf NJ λi j=>.int (i/j)
abbrev RX:W2:=wIf NJ λi j=>.int (i%j)
def powB (i j:Int):Bool:=decide (0<=j)&&decide (j<=1000)&&decide (-1000<i)&&decide (i<1000)
abbrev wPowL:W2:=wIf powB λi j=>.int (i^j.toNat)
theorem FI (h:NJ i j=true):0<j/\j<1073741824:=by
 unfold NJ at h;simpa using h
theorem Vy:OpR X (binaryOp .FloorDiv) (upO X.K Z Rg):=opIf F3 λi j h=>by
 obtain⟨h1,h2⟩:=FI h;refine⟨h1,?_⟩;have:j.natAbs.log2<30:=(xM ()).mpr ();lia
theorem YV:OpR X (binaryOp .Mod) (upO X.K Z RX):=opIf Pj λi j h=>(FI h).1
theorem Al:OpR X (binaryOp .Pow) (upO X.K Z wPowL):=opIf zbm λi j h=>by
 unfold powB at h;simp at h;refine⟨h.1.1.1,by have:=h.1.1.2;lia,?_⟩;have h3:=h.1.2
 have h4:=h.2
 have big:(18446744073709551616:Nat)=2^64:=by decide
 lia
structure Df (K:Fg)(mg:Str->Option Value)(x:Str)(st:Stmt)(ps:List Str) where
 f:Addr
 fd:FuncData
 F:Fun K x x st f fd
 m:mg x=some (.ref f)
 b:Y5 K fd ps []
structure Fk (P:Program)(w:World)(K:Fg)(mg:Str->Option Value)(base:Heap)(k:Nat)(x:Str)(ps:List Str)(sd:Sd) where
 f:Addr
 fd:FuncData
 ok:Yj P w K mg base (CXE P w) k f fd ps (upF K sd)
 m:mg x=some (.ref f)
 kp:W.keepIn K (.ref f)=true
 b:Y5 K fd ps []
noncomputable def Df.mk' {P:Program}{w:World}{K:Fg}{mg:Str->Option Value}{base:Heap}{k:Nat}{x:Str}{st:Stmt}{ps:List Str}{sd:Sd}(d:Df K mg x st ps)(h:Yj P w K mg base (CXE P w) k d.f d.fd ps (upF K sd)):Fk P w K mg base k x ps sd:=
 ⟨d.f,d.fd,h,d.m,d.F.kp,d.b⟩
theorem ZW (G:Fk X.prog X.w X.K X.mg X.base k x ps sd)(hr:ZG k X.A)(hx:X9 X W)(hg:Gl X x)(ha:PDA X ⟨ex,W⟩ (e::es) t)(hdb:(x==("__debug__":Str))=false:=by decide)(he:He X e es:=by rfl)(hpl:Hp1 X pos es:=by rfl):
  PD X ⟨ex,W⟩ (.Call (.Name x p) (e::es) [] pos) (Q8 ex sd t):=zcq G.ok hr hg G.m G.kp G.b hx ha hdb he hpl
end
def SY:Sd:=λds S Q _=>∃ns:List Int,ds=[.ref 0]/\S=[.frz (ns.map D.int)]/\ns.length<=63/\∀S',Q (.bl true) S'
theorem DM:∀ds S Q ex,SY ds S Q ex->ds.length=1:=λds S Q ex h=>by
 obtain⟨ns,rfl,_⟩:=h;rfl
theorem zea {K:Fg}{H:Hp}{a:Addr}{xs:List V}(hO:QZ H)(h:SqL K H a xs):SqF K H a xs:=by
 rcases h with (h|⟨o,h⟩)|h
 .rcases hO a with z|⟨o,ys,z⟩
  .rw[h] at z;cases z
  .rw[h] at z;cases z
 .exact .inl ⟨o,h⟩
 .exact .inr h
theorem zbC {r:List Addr}{H:Hp}(ns:List Int):Rps r H (ns.map D.int) (ns.map V.int):=by
 refine⟨by simp,λi d v h1 h2=>?_⟩;rw[zR] at h1 h2;cases q:ns[i]? with
 | none=>rw[q] at h1;cases h1
 | some z=>
  rw[q] at h1 h2;cases h1;cases h2;exact .int z
theorem Bb {K:Fg}{H:Hp}{a:Addr}{ns:List Int}(hl:ns.length<=63)(hO:QZ H)(hS:SqL K H a (ns.map V.int)):upF K SY [.ref a] H (λv _=>v=.bl true) λ_ _ _=>False:=by
 refine⟨λ_ _=>False,[a],[.frz (ns.map D.int)],[.ref 0],λd _=>d=.bl true,⟨⟨rfl,λn b o h1 h2=>?_,λn m b xs ys h1 h2 h3 h4 o1 o2=>?_⟩,λ_ _ _ _ _ _ _ _ _ z=>z.elim⟩,Rps.cons (.ref rfl) Rps.nil,⟨ns,rfl,rfl,hl,λ_=>rfl⟩,λv H' r' d S' e aS p q=>?_⟩
 .cases n with
  | zero=>
   simp at h1 h2;subst h1;subst h2
   exact⟨_,zea hO hS,zbC ns⟩
  | succ n=>simp at h1
 .cases n with
  | zero=>
   simp at h3;subst h3;cases o1
  | succ n=>simp at h1
 .subst q;cases p;rfl
theorem zaS {l:W.OpenLaw}{q:Program}{aF:List Str}{XP:(Str->Option Value)->Heap->Prop}{YP:World->Heap->Prop}{d:DefRec}{K:Params->Fg}{x:Str}(k:Nat)(hn:l.most=some 63)(hdf:d.params.defaults=[])(hr:ZG k callerA)
  (hY:∀(w:World)(h:Heap),YP w h->(K w.params).In h)
  (F:∀(w:World)(mg:Str->Option Value)(fa:Addr)(h:Heap),(K w.params).In h->h.Ns mainGlobals mg->mg d.name=some (.ref fa)->
   ∃fd:FuncData,(∀(s:Shared)(u:Value),BindsTo s fd ⟨[u],[]⟩ [(x,u)])/\∀base:Heap,(K w.params).In base->base.Ns mainGlobals mg->Yj l.prog w (K w.params) mg base (CXE l.prog w) k fa fd [x] (upF (K w.params) SY)):
  W.WalkO q aF XP YP l.row.toRowW d [] (λf vs=>PySem.call f vs):=
 L2.C3 (n:=63) (k:=k) (x:=x) (CX:=λw=>CXE l.prog w) (sp:=λw=>upF (K w.params) SY) hn ⋯ hdf hr hY F (λ_ _ a ns hl hO hS=>Bb hl hO hS) λ_ _ _ _ _ ⟨_,_,_,_,_,_,_,_,_,_,_,_,z⟩=>z
theorem Kr (K:Fg)(T:String)(h:T∈["int","bool","tuple","str"]):Kit K T:=by
 intro t ht;simp only[zB,zG,or_false] at h ht;rcases h with rfl|rfl|rfl|rfl<;>rcases ht with rfl|rfl|rfl|rfl|rfl<;>kernel_rfl
theorem ifT {c:Bool}{A B:Prop}(h:c=true)(a:A):if c=true then A else B:=by rw[if_pos h];exact a
theorem ifF {c:Bool}{A B:Prop}(h:c=false)(b:B):if c=true then A else B:=by rw[h];exact ZH b
theorem ifP {c A B:Prop} [Decidable c] (h:c)(a:A):if c then A else B:=by rw[if_pos h];exact a
theorem ifD {c:Prop} [Decidable c] {A B:Prop}(h1:c->A)(h2:¬ c->B):if decide c=true then A else B:=by
 by_cases h:c
 .rw[decide_eq_true h];exact Yy (h1 h)
 .rw[decide_eq_false h];exact ZH (h2 h)
theorem zaV {i n:Nat}{tb:TDS}{E:YS}{dl:Ev}{S:Sto}{o:Ob}(P:D->Prop)(hS:S[n]?=some o)(hi:i<dl.length)(hP:∀x∈ZC o,P x)
  (hb:∀(x:D)(nx ct:Ev->Sto->Prop),P x->nx (dl.set i (some x)) S->tb { nx:=nx,rt:=E.rt,bk:=E.nx,ct:=ct } (dl.set i (some x)) S)(he:∀v:Option D,E.nx (dl.set i v) S)(hL:Wl o=some o:=by rfl):
  (lAt S n).isSome=true/\∃W:Nat->Nat->Ev->Sto->Prop,(∃m,W 0 m dl S)/\∀k m dl S,W k m dl S->match lAt S n with
  | some o=>match (ZC o)[k]? with
   | some x=>tb { nx:=λdl' S'=>∃m',m'<m/\W (k+1) m' dl' S',rt:=E.rt,bk:=E.nx,ct:=λdl' S'=>∃m',m'<m/\W (k+1) m' dl' S' } (dl.set i (some x)) S
   | none=>E.nx dl S
  | none=>False:=by
 refine⟨by rw[Yo hS hL];rfl,λk m dl' S'=>S'=S/\m+k=(ZC o).length/\∃v,dl'=dl.set i v,⟨(ZC o).length,rfl,(),dl[i],by simp⟩,?_⟩;rintro k m dl' S' ⟨rfl,hm,v,rfl⟩;rw[Yo hS hL];show (match (ZC o)[k]? with
   | some x=>tb { nx:=λdl' S''=>∃m',m'<m/\(S''=S'/\m'+(k+1)=(ZC o).length/\∃v,dl'=dl.set i v),rt:=E.rt,bk:=E.nx,ct:=λdl' S''=>∃m',m'<m/\(S''=S'/\m'+(k+1)=(ZC o).length/\∃v,dl'=dl.set i v) } ((dl.set i v).set i (some x)) S'
   | none=>E.nx (dl.set i v) S')
 split
 .rename_i x hx;have hk:k<(ZC o).length:=(zE.mp hx).1;rw[List.set_set];exact hb x _ _ (hP x (zT hx)) ⟨m-1,(),rfl,(),some x,rfl⟩
 .exact he v
open PySem L2
open PySem L2
theorem ifN {c:Prop} [Decidable c] {A B:Prop}(h1:¬ c->A)(h2:c->B):if (!decide c)=true then A else B:=by
 by_cases h:c
 .rw[decide_eq_true h];exact L2.ZH (h2 h)
 .rw[decide_eq_false h];exact L2.Yy (h1 h)
section
variable {X:Cx}{Z:Zx}
def Dv (ex:Ev->Addr->Sto->Prop)(c:Addr)(t:TDA):TDS:=λ_ dl S=>t dl S λds S1=>if ds.length<=1000 then ex dl c S1 else False
theorem Wv (c:Xc X.K X.mg x C bm nid)(FB:ExcBaseFacts B nid inid bm)(hx:Ja X W)(hh:X.A.handled=none)(hg:Gl X x)(ha:PDA X ⟨ex,W⟩ (e::es) t)(he:He X e es:=by rfl)(hpl:(backTo aH (starEach es X.env)).any (·.1)=false:=by rfl)(hd:(x==("__debug__":Str))=false:=by decide):
  PDS X ⟨ex,W⟩ (.Raise (some (.Call (.Name x np) (e::es) [] aH)) none pos) (Dv ex C t):=by
 intro aA s σ H F I h;obtain⟨r,dl,S,E,rs,aS,h,ret⟩:=h;obtain⟨ml,Nn,cn,cq,cb,cdc,csn,csu,cab,cco,cdd,u0,u1,u2,u3,u5,mN,hC,hN,hni,T⟩:=(B2 c I.ok.mod.kin).obj;refine wpAny_Raise_call_subT (C:=C) (nm:=cn) (q:=cq) (N:=Nn) (bs:=cb) (bm:=ml) (hdct:=cdc) (sn:=csn) (sub:=csu) (ab:=cab) (col:=cco) (dd:=cdd) (k0:=u0) (k1:=u1) (k2:=u2) (k3:=u3) (k5:=u5)
  FB (mN:=mN) (T.hasType FB.hasBase) hh (by rw[he];show (false||(backTo aH (starEach es X.env)).any (·.1))=false;rw[hpl];rfl) hni (UM I hg c.bound ⟨rfl,?_⟩ hd)
 have ha':=ha aH aA s σ H (λvs H1=>vs.length<=sizeLine/\W σ (.ref C) none H1) I ⟨r,dl,S,_,rs,aS,h,λvs H1 r1 ds S1 e1 aB p1 h1=>by
  obtain⟨hl,h1⟩:=Q9 h1;exact⟨by rw[<- p1.1];exact XW hl,aB.xw dl σ C H1 r1 S1 Ext.refl (rs.ext e1) aB.b h1⟩⟩
 rw[he] at ha' ⊢;refine Calls.evalArgs_plain (wpAny_mono ha' (λus s2 h2=>?_) λ_ _ y=>y);obtain⟨vs,H1,I1,rv,hz,hw⟩:=h2;have keep:∀b o,X.base.get? b=some o->s2.heap.get? b=some o:=λb o z=>(I1.bs b o z).1
 refine⟨rfl,by rw[<- rv.length];exact hz,keep _ _ hC,hN.keeps keep,T.keeps keep,λh' ea hm=>?_⟩;exact hx aA σ H1 s2 h' ea C us I1 hm hw
abbrev Cx.mrk (X:Cx)(A:Around)(E:Value->Shared->Prop):Cx:={ X with A:=A,calm:=false,xe:=E }
theorem FG (ok:X.Ok){A:Around}{E:Value->Shared->Prop}(hf:A.frames=X.A.frames):(Cx.mrk X A E).Ok:=
 ⟨ok.mod,ok.kind,ok.glob,ok.blt,ok.above,ok.inj,ok.has,ok.cab,λz=>Bool.noConfusion z,hf.trans ok.frames,ok.stk,ok.exf,ok.bs,ok.bsz,ok.noex,ok.exfs,ok.funs,ok.frf⟩
theorem Ov (ok:X.Ok)(I:Inv (Cx.mrk X A E) aA σ H s):Inv X aA σ H s:=
 ⟨ok,I.os,I.bare,I.base,I.loc,I.cell,I.free,I.freeC,I.pin,I.hok,I.len⟩
theorem Ad {aA:LA}{D:Va}{f:Flow}{s':Shared}{A:Around}{E:Value->Shared->Prop}(ok:X.Ok)(h:SP (Cx.mrk X A E) aA D f s'):SP X aA D f s':=by
 cases f with
 | next=>obtain⟨σ',H',I,q⟩:=h;exact⟨σ',H',Ov ok I,q⟩
 | brk=>obtain⟨σ',H',I,q⟩:=h;exact⟨σ',H',Ov ok I,q⟩
 | cont=>obtain⟨σ',H',I,q⟩:=h;exact⟨σ',H',Ov ok I,q⟩
 | ret u=>obtain⟨v,σ',H',I,r,q⟩:=h;exact⟨v,σ',H',Ov ok I,r,q⟩
abbrev Cx.held (X:Cx)(aA:LA)(E:Value->Shared->Prop):Cx:={ X with pn:=X.pn++aA,xe:=E }
theorem zbJ (ok:X.Ok)(aA:LA)(E:Value->Shared->Prop):(Cx.held X aA E).Ok:=
 ⟨ok.mod,ok.kind,ok.glob,ok.blt,ok.above,ok.inj,ok.has,ok.cab,ok.hd,ok.frames,ok.stk,ok.exf,ok.bs,ok.bsz,ok.noex,ok.exfs,ok.funs,ok.frf⟩
theorem zbL (I:Inv X aA σ H s)(E:Value->Shared->Prop):Inv (Cx.held X aA E) [] σ H s:=
 ⟨zbJ I.ok aA E,I.os,I.bare,I.base,I.loc,I.cell,I.free,I.freeC,λp hp=>I.pin p (by simpa using hp),I.hok,I.len⟩
theorem OW (ok:X.Ok)(I:Inv (Cx.held X aA E) [] σ H s):Inv X aA σ H s:=
 ⟨ok,I.os,I.bare,I.base,I.loc,I.cell,I.free,I.freeC,λp hp=>I.pin p (by simpa using hp),I.hok,I.len⟩
theorem AG {aA:LA}{D:Va}{f:Flow}{s':Shared}{E:Value->Shared->Prop}(ok:X.Ok)(h:SP (Cx.held X aA E) [] D f s'):SP X aA D f s':=by
 cases f with
 | next=>obtain⟨σ',H',I,q⟩:=h;exact⟨σ',H',OW ok I,q⟩
 | brk=>obtain⟨σ',H',I,q⟩:=h;exact⟨σ',H',OW ok I,q⟩
 | cont=>obtain⟨σ',H',I,q⟩:=h;exact⟨σ',H',OW ok I,q⟩
 | ret u=>obtain⟨v,σ',H',I,r,q⟩:=h;exact⟨v,σ',H',OW ok I,r,q⟩
theorem F9 {aA pins':LA}{σ:St}{H H':Hp}{s s':Shared}{B h5:Heap}{ea c:Addr}{a0:Value}{E:Value->Shared->Prop}(hex:X.ex=[])(hs:X.stack=X.env::X.outer)(hf:X.env.frame=some X.env.locals)
  (hcl:∀x a,X.env.cells.lookup x=some a->False)(ok:X.Ok)(I:Inv (Cx.held X aA E) pins' σ H s)(os:s'.os=s.os)(bare:AllBare s'.gens)(un:Un (frs X.stack) [] H H' s.heap s'.heap)(hok:HOk X.prog X.w H' s'.heap)
  (fl:Heap.FlyingW B (X.env::X.outer) ea (.ref c) a0 s'.heap)(fl5:Heap.FlyingW B (X.env::X.outer) ea (.ref c) a0 h5)(up:s'.heap.UpToSlots h5)(bk:Bk (frs X.stack) H H' B s.heap ea):
  Inv X aA σ (upd H' ea (isX ea c)) { s' with heap:=h5 }:=by
 have nx:∀b:Addr,b ∉ X.ex:=λb z=>by rw[hex] at z;exact absurd z (by simp)
 obtain⟨oe,hoe,hce⟩:=fl5.there;have fl5':Heap.FlyingW B X.outer ea (.ref c) a0 h5:=by
  obtain⟨k1,k2,⟨_,_,k3⟩,k4⟩:=fl5;exact⟨k1,k2,k3,k4⟩
 have core:=J1 (X:=Cx.held X aA E) I hex hs hf un fl fl5' up bk;obtain⟨un5,bk5⟩:=core;have hok5:HOk X.prog X.w H' h5:=Kv hok bk.trk fl.1 fl5.1
 have hLm:X.env.locals∈frs X.stack:=(U7 I hs hf).mpr (.inl rfl)
 have hneL:X.env.locals≠ea:=λz=>by
  obtain⟨_,o3,e3,d3⟩:=fl5.2.2.1.mem (show X.env.locals∈(X.env::X.outer).filterMap (·.frame) by rw[<- hs];exact hLm);obtain⟨oe2,ws,e4,_,d4,_⟩:=fl5.first;rw[z,e4] at e3;cases e3;exact d3 _ d4
 have nf:∀b∈X.fs,b≠ea:=λb hb z=>by
  obtain⟨_,o3,e3,d3⟩:=fl5.2.2.1.mem (show b∈(X.env::X.outer).filterMap (·.frame) by rw[<- hs];exact(U7 I hs hf).mpr (.inr hb));obtain⟨oe2,ws,e4,_,d4,_⟩:=fl5.first;rw[z,e4] at e3;cases e3;exact d3 _ d4
 have oldne:∀ {b:Addr} {o:Obj},X.s₀.heap.get? b=some o->b≠ea:=λ{b o} e z=>by
  by_cases hb:b∈X.fs
  .exact nf b hb z
  .obtain⟨o',e'⟩:=bk5.all b o e hb;rw[z,fl5.2.1] at e';cases e'
 refine⟨ok,os.trans I.os,bare,?_,?_,λx a z=>(hcl x a z).elim,?_,λx a z=>(hcl x a z).elim,?_,?_,I.len⟩
 .refine⟨λb o e n hb hx=>un5.keep b o e n hb (by simp),λb o e n hb hx=>un5.slot b o e n hb (by simp),λb o e n hx=>by rw[Z1 (oldne e)];exact un5.free b o e n (by simp),λb o e hx=>un5.there b o e (by simp),?_,?_,?_⟩
  .intro b xs e;have z:=un5.tups b xs e;rw[Z1 (X2 z bk.new)];exact z
  .intro b ob u e;have z:=un5.frzs b ob u e;rw[Z1 (X2 z bk.new)];exact z
  .intro b ps e;obtain⟨more,z⟩:=un5.tbls b ps e;exact⟨more,by rw[Z1 (X2 z bk.new)];exact z⟩
 .obtain⟨m,hn,look⟩:=I.loc;obtain⟨o,es,ep,ho,hd,rr⟩:=hn;obtain⟨sl,e2⟩:=un.slot _ o ho I.free hLm (by simp);have hn2:s'.heap.Ns X.env.locals m:=⟨_,es,ep,e2,hd,rr⟩;refine⟨m,up.ns hn2,λi x v hx z vis=>?_⟩;obtain⟨u,ru,lk⟩:=look i x v hx z vis;rcases lk with lk|⟨_,c,hc,_⟩
  .exact⟨u,ru,.inl lk⟩
  .exact(hcl x c hc).elim
 .rw[Z1 hneL];obtain⟨m,⟨o,_,_,ho,_⟩,_⟩:=I.loc;exact un.free _ o ho I.free (by simp)
 .intro p hp;obtain⟨p1,p2,p3,p4,p5⟩:=I.pin p (yH _ hp);have hst:p.1 ∉ frs X.stack:=λz=>by
   rcases (U7 I hs hf).mp z with z|z
   .exact p3 z
   .exact p4 z
  have hB:=bk.old p.1 p.2 p1 p2 hst
  have hne:p.1≠ea:=λz=>by rw[z,fl5.2.1] at hB;cases hB
  exact⟨fl5.1 _ _ hB,by rw[Z1 hne];exact un.free _ _ p1 p2 (by simp),p3,p4,p5⟩
 .intro b u e;by_cases hb:b=ea
  .subst hb;rw[Y1] at e;cases e;exact⟨⟨oe,hoe,hce⟩,⟨oe,hoe⟩,λh1 h2 ⟨o,q1,q2⟩ k=>⟨o,k o q1,q2⟩⟩
  .rw[Z1 hb] at e;exact(hok5 b u e).stay (λ_ _ _ z=>z) (λd z=>by rw[Z1 (X2 z bk.new)];exact z) λd xs z=>by rw[Z1 (X2 z bk.new)];exact z
end
structure Ul (k:Nat)(A:Around):Prop where
 dp:A.depth+3*k+5<recursionLimit
 un:A.units+16*k+200<cLine
theorem Ul.mono (r:Ul k A)(h:j<=k):Ul j A:=⟨by have:=r.dp;lia,by have:=r.un;lia⟩
theorem Ul.deeper {k:Nat}{A:Around}(r:Ul (k+1) A)(env:Env):Ul k (A.deeper env):=
 ⟨by have:=r.dp;show A.depth+1+3*k+5<_;lia,by have:=r.un;show A.units+3+16*k+200<_;lia⟩
structure FnOkN (P:Program)(w:World)(K:Fg)(mg:Str->Option Value)(base:Heap)(k:Nat)(f:Addr)(fd:FuncData)(ps:List Str)(sp:Sp):Prop where
 len:∀vs H Q E,sp vs H Q E->vs.length=ps.length
 run:∀(A:Around)(outer:List Env)(s:Shared)(H:Hp)(args:Args)(us:List Value)(vs:List V)(Q:VK)(E:XK),Ul k A->VR P w K mg base A outer s H->BindsTo s fd args (ps.zip us)->Zt vs us->sp vs H Q E->
  codeAny (model P w) A (.call (.ref f) args) (CR (CXE P w) outer P w H s Q E) s
section
variable {X:Cx}{k:Nat}{f:Addr}{fd:FuncData}{ps:List Str}{sp:Sp}{W:St->XK}{x:Str}{p pos:Pos}{e:Expr}{es:List Expr}{t:TA}
end
section
variable {X:Cx}{Z:Zx}{x:Str}{p pos:Pos}{e:Expr}{es:List Expr}{t:TDA}
end
section
variable {P:Program}{w:World}{K:Fg}{mg:Str->Option Value}{base:Heap}
end
structure FkN (P:Program)(w:World)(K:Fg)(mg:Str->Option Value)(base:Heap)(k:Nat)(x:Str)(ps:List Str)(sd:Sd) where
 f:Addr
 fd:FuncData
 ok:FnOkN P w K mg base k f fd ps (upF K sd)
 m:mg x=some (.ref f)
 kp:W.keepIn K (.ref f)=true
 b:Y5 K fd ps []
section
variable {X:Cx}{Z:Zx}
theorem zcr {r r':List Addr}{H H':Hp}{S:Sto}{E:YS}{F:Va}(ret:V2 X.K Z r H E F)(aS:Rel X.K Z r S H)(x:Ext r r' H H'):V2 X.K Z0 r' H' E F:=by
 have back:∀ {H2:Hp} {r2:List Addr} {S2:Sto},Ext r' r2 H' H2->Rel X.K Z0 r2 S2 H2->Rel X.K Z r2 S2 H2:=λx2 aC=>⟨aC.b,aS.xw.ext (x.trans x2)⟩
 exact⟨λσ2 H2 r2 dl2 S2 x2 rs2 aC q=>ret.nx σ2 H2 r2 dl2 S2 (x.trans x2) rs2 (back x2 aC) q,λσ2 H2 r2 dl2 S2 x2 rs2 aC q=>ret.bk σ2 H2 r2 dl2 S2 (x.trans x2) rs2 (back x2 aC) q,
  λσ2 H2 r2 dl2 S2 x2 rs2 aC q=>ret.ct σ2 H2 r2 dl2 S2 (x.trans x2) rs2 (back x2 aC) q,λv H2 r2 d S2 x2 aC p q=>ret.rt v H2 r2 d S2 (x.trans x2) (back x2 aC) p q⟩
theorem Bj {Z':Zx}{r:List Addr}{H:Hp}{S:Sto}{E:YS}{F:Va}(ret:V2 X.K Z r H E F)(aS:Rel X.K Z r S H):V2 X.K Z' r H E F:=by
 have back:∀ {H2:Hp} {r2:List Addr} {S2:Sto},Ext r r2 H H2->Rel X.K Z' r2 S2 H2->Rel X.K Z r2 S2 H2:=λx2 aC=>⟨aC.b,aS.xw.ext x2⟩
 exact⟨λσ2 H2 r2 dl2 S2 x2 rs2 aC q=>ret.nx σ2 H2 r2 dl2 S2 x2 rs2 (back x2 aC) q,λσ2 H2 r2 dl2 S2 x2 rs2 aC q=>ret.bk σ2 H2 r2 dl2 S2 x2 rs2 (back x2 aC) q,
  λσ2 H2 r2 dl2 S2 x2 rs2 aC q=>ret.ct σ2 H2 r2 dl2 S2 x2 rs2 (back x2 aC) q,λv H2 r2 d S2 x2 aC p q=>ret.rt v H2 r2 d S2 x2 (back x2 aC) p q⟩
theorem Kg {r:List Addr}{H:Hp}{a:Addr}{o:HO}(h:H a=none):Ext r r H (upd H a o):=⟨λ_ _ q=>q,λ_ _ q=>X8 h _ _ q,λ_ _ q=>X8 h _ _ q⟩
def dTryA (n i:Nat)(tb:(Ev->Addr->Sto->Prop)->TDS)(hit:Addr->Bool)(ts:TDS):TDS:=λE dl S=>tb (λdl0 c S'=>hit c=true/\ts { nx:=λdl' S2=>E.nx (dl'.set i none) S2,rt:=E.rt,bk:=λdl' S2=>E.bk (dl'.set i none) S2,ct:=λdl' S2=>E.ct (dl'.set i none) S2 } (dl0.set i (some (.exc c))) S') E dl S
theorem Je {r:List Addr}{H:Hp}{dl:Ev}{σ:St}(i:Nat)(h:Rs r H dl σ):Rs r H (dl.set i none) (σ.set i none):=by
 refine⟨by simp[h.1],λj d e=>?_⟩;by_cases hij:i=j
 .subst hij;have hl:i<dl.length:=by
   have:=(zE.mp e).1;simpa using this
  rw[yI hl] at e;cases e
 .rw[yD hij] at e;obtain⟨v,h1,h2⟩:=h.2 j d e;exact⟨v,by rw[yD hij];exact h1,h2⟩
theorem MD (I:Inv X aA σ H s)(hN:X.N.Nodup)(hi:X.N[i]?=some n)(hl:X.env.scope.names.lookup n=some .local)(h:∀s',Inv X aA (σ.set i none) H s'->Q Unit.unit s'):wpAny (mX X) A (do bindName X.env n .none;unbindBehindTheSuite X.env n pos) Q E s:=by
 obtain⟨m,hn,hloc⟩:=I.loc;refine wpAny_nameGoes_keeps hl hn (by rw[I.ok.kind];rfl) λh' v hn' sb=>h _ ?_
 have nL:∀ {b:Addr} {o:Obj},X.s₀.heap.get? b=some o->b≠X.env.locals:=λ{b o} e=>zI (zK (Heap.lt_size e) I.ok.above)
 have hok':HOk X.prog X.w H h':=λb ob e=>(I.hok b ob e).stay (λc w' hc q=>(sb.2 c (by
  rintro rfl;rcases hc with rfl|hc
  .rw[I.free] at e;cases e
  .rw[I.free] at hc;cases hc)).trans q) (λ_ q=>q) λ_ _ q=>q
 refine⟨I.ok,I.os,I.bare,⟨λb o e n hb hx=>(sb.2 b (nL e)).trans (I.base.keep b o e n hb hx),λb o e n hb hx=>?_,I.base.free,λb o e hx=>?_,I.base.tups,I.base.frzs,I.base.tbls⟩,⟨_,hn',λj y v' e1 e2 e3=>?_⟩,λy c e=>?_,I.free,I.freeC,λp hp=>?_,hok',by simpa using I.len⟩
 .obtain⟨sl,e1⟩:=I.base.slot b o e n hb hx;exact⟨sl,(sb.2 b (nL e)).trans e1⟩
 .obtain⟨o',e1⟩:=I.base.there b o e hx;exact⟨o',(sb.2 b (nL e)).trans e1⟩
 .by_cases hj:j=i
  .subst hj;have hlt:j<σ.length:=by rw[I.len];exact(zE.mp hi).1
   rw[yI hlt] at e2;cases e2
  .rw[yD (Ne.symm hj)] at e2;obtain⟨u',r',q⟩:=hloc j y v' e1 e2 e3;refine⟨u',r',?_⟩;rcases q with ⟨k,e⟩|⟨k,c,e,z⟩
   .refine .inl ⟨k,?_⟩;have ne:y≠n:=λe=>hj (Kk hN e1 (e ▸ hi))
    simp[ne,e]
   .exact .inr ⟨k,c,e,z.sameBut sb (I.cne y c e)⟩
 .obtain⟨w',z⟩:=I.cell y c e;exact⟨w',z.sameBut sb (I.cne y c e)⟩
 .obtain⟨e,n1,ne,nf,d⟩:=I.pin p hp;exact⟨(sb.2 p.1 ne).trans e,n1,ne,nf,d⟩
theorem zeA {body:List Stmt}{b0:Stmt}{suite:List Stmt}{hx nm:Str}{np hp pos:Pos}{C:Addr}{n i:Nat}{tb:(Ev->Addr->Sto->Prop)->TDS}{hit:Addr->Bool}{ts:TDS}(hex:X.ex=[])(hs:X.stack=X.env::X.outer)(hf:X.env.frame=some X.env.locals)
  (hcl:∀x a,X.env.cells.lookup x=some a->False)(hn:X.N.length=n)(hN:X.N.Nodup)(hi:X.N[i]?=some nm)(hl:X.env.scope.names.lookup nm=some .local)(hm:X.mg hx=some (.ref C))(hg:Gl X hx)
  (hh:∀c,hit c=true->PySem.W.exmOne X.K (.ref c) (.ref C)=some true)
  (hb:∀(aA:LA)(xe:Value->Shared->Prop)(ex:Ev->Addr->Sto->Prop)(W:St->XK),X9 (Cx.held X aA xe) W->Xy (Cx.held X aA xe) ⟨ex,W⟩ body (tb ex))
  (hsu:∀(A:Around)(xe:Value->Shared->Prop),(∀k,ZG k X.A->Ul k A)->Xy (Cx.mrk X A xe) Z0 (b0::suite) ts)(hd:(hx==("__debug__":Str))=false:=by decide):
  PDS X Z (.Try body [.ExceptHandler (some (.Name hx np)) (some nm) (b0::suite) hp] [] [] pos) (dTryA n i tb hit ts):=by
 intro aA s σ H F I h;obtain⟨r,dl,S,E,rs,aS,h,ret⟩:=h;subst hn;have pass:X9 (Cx.held X aA (λe s1=>wpAny (mX X) X.A (noteFrame e X.env) (λ_ s2=>wpAny (mX X) X.A (setFlight e none) (λ_ s3=>wpAny (mX X) X.A (handleBy e X.env [.ExceptHandler (some (.Name hx np)) (some nm) (b0::suite) hp]) (SP X aA F) X.xe s3) X.xe s2) X.xe s1))
   (λσ' cls _ H'=>∃c r' S' dl',cls=.ref c/\Ext r r' H H'/\Z5 X.K r' S' H'/\Rs r' H' dl' σ'/\hit c=true/\ts { nx:=λdl' S2=>E.nx (dl'.set i none) S2,rt:=E.rt,bk:=λdl' S2=>E.bk (dl'.set i none) S2,ct:=λdl' S2=>E.ct (dl'.set i none) S2 } (dl'.set i (some (.exc c))) S'):=by
  intro pins' σ' H1 s1 e s2 I1 hq;obtain⟨ea,c,a0,B,H',rfl,os,bare,un,hok,fl,bk,c',r',S',dl',ec,x',rb',rs',hit',hts⟩:=hq;cases ec;have fl0:Heap.FlyingW B (X.env::X.outer) ea (.ref c) a0 s2.heap:=by rw[<- hs];exact fl
  refine wpAny_looks_onW (by rw[<- hs];exact I.ok.frames) hf fl0 λh4 held4 up4=>?_
  refine wpAny_landsW held4 λh5 fl5 up5=>?_
  have I5:=F9 hex hs hf hcl I.ok I1 os bare un hok fl0 fl5 (up4.trans up5) bk
  have LT:PySem.W.Looks (mX X) h5 (typeOf (.ref ea)) (.ref c):=by
   obtain⟨ob,hob,hc⟩:=fl5.there;rw[<- hc];exact(PySem.W.Looks.ld hob).andThen .now
  refine wpAny_handleBy_cons (codeAny_handlers_test ?_) (by intro q;cases q);have I5m:Inv (Cx.mrk X (X.A.mark (some (.ref ea))) X.xe) aA σ' (upd H' ea (isX ea c)) { s2 with heap:=h5 }:=⟨FG I.ok rfl,I5.os,I5.bare,I5.base,I5.loc,I5.cell,I5.free,I5.freeC,I5.pin,I5.hok,I5.len⟩;refine UM I5m hg hm ?_ hd;refine(PySem.W.exm_one (M:=model X.prog X.w) I5.kIn LT (hh c hit')).here ?_;refine codeAny_handlers_suite_as (lands_againW fl5 λh6 fl6 up6=>?_);have I6:=F9 hex hs hf hcl I.ok I1 os bare un hok fl0 fl6 ((up4.trans up5).trans up6) bk;refine KY (v:=.ref ea) I6 hN hi (.inl hl) rfl (λs7 I7=>?_) (.inr hl);have x6:Ext r' r' H' (upd H' ea (isX ea c)):=Kg bk.new
  have ret6:=zcr ret aS (x'.trans x6)
  have rs6:Rs r' (upd H' ea (isX ea c)) (dl'.set i (some (.exc c))) (σ'.set i (some (.ref ea))):=(rs'.ext x6).set i (.exc Y1);refine wpAny_mono (hsu (X.A.mark (some (.ref ea))) _ (λ_ q=>⟨q.dp,q.un⟩) aA s7 _ (upd H' ea (isX ea c))
   { nx:=λσ2 H2=>F.nx (σ2.set i none) H2,rt:=F.rt,bk:=λσ2 H2=>F.bk (σ2.set i none) H2,ct:=λσ2 H2=>F.ct (σ2.set i none) H2 } ⟨FG I.ok rfl,I7.os,I7.bare,I7.base,I7.loc,I7.cell,I7.free,I7.freeC,I7.pin,I7.hok,I7.len⟩
   ⟨r',_,S',_,rs6,⟨rb'.same (X8 bk.new),λ_ _ _ _ _ _ _ _ _ z=>z.elim⟩,hts,⟨λσ2 H2 r2 dl2 S2 x2 rs2 aC q=>ret6.nx _ H2 r2 _ S2 x2 (Je i rs2) aC q,λσ2 H2 r2 dl2 S2 x2 rs2 aC q=>ret6.bk _ H2 r2 _ S2 x2 (Je i rs2) aC q,
    λσ2 H2 r2 dl2 S2 x2 rs2 aC q=>ret6.ct _ H2 r2 _ S2 x2 (Je i rs2) aC q,ret6.rt⟩⟩) (λf s' q=>?_) λ_ _ q=>q
  have q':=Ad I.ok q;cases f with
  | next=>obtain⟨σ2,H2,I2,q2⟩:=q';exact MD I2 hN hi hl λs3 I3=>⟨_,H2,I3,q2⟩
  | brk=>obtain⟨σ2,H2,I2,q2⟩:=q';exact MD I2 hN hi hl λs3 I3=>⟨_,H2,I3,q2⟩
  | cont=>obtain⟨σ2,H2,I2,q2⟩:=q';exact MD I2 hN hi hl λs3 I3=>⟨_,H2,I3,q2⟩
  | ret u=>obtain⟨v2,σ2,H2,I2,rv2,q2⟩:=q';exact MD I2 hN hi hl λs3 I3=>⟨v2,_,H2,I3,rv2,q2⟩
 refine wpAny_Try_except (wpAny_mono (hb aA _ _ _ pass [] s σ H F (zbL I _)
  ⟨r,dl,S,E,rs,⟨aS.b,λdl' σ' c H' r' S' x rs' rb q=>⟨c,r',S',dl',rfl,x,rb,rs',q⟩⟩,h,Bj ret aS⟩) (λf s1 q=>?_) λ_ _ q=>q)
 have q':=AG I.ok q;cases f with
 | next=>exact wpAny_execs_nil q'
 | brk=>exact q'
 | cont=>exact q'
 | ret u=>exact q'
open PySem.W in
end
abbrev VE:List Value:=[.type "ValueError",.type "Exception",.type "BaseException",.type "object"]
structure Ec (K:Fg)(mg:Str->Option Value)(x:Str) where
 c:Addr
 xc:Xc K mg x c VE "ValueError.__new__"
def Lm (a:Addr):Addr->Bool:=λc=>decide (c=a)
theorem zcm {a:Addr}{P:Addr->Prop}(h:P a):∀c,Lm a c=true->P c:=λc e=>by
 have z:c=a:=of_decide_eq_true e;subst z;exact h
theorem BA (a:Addr):Lm a a=true:=decide_eq_true rfl
inductive Sco (n:Nat):D->Prop
 | non:Sco n .non
 | bl (b:Bool):Sco n (.bl b)
 | int (i:Int):Sco n (.int i)
 | str (x:Str):Sco n (.str x)
 | tup {ds:List D}:(∀d∈ds,Sco n d)->Sco n (.tup ds)
 | ref {m:Nat}:m<n->Sco n (.ref m)
 | exc (c:Addr):Sco n (.exc c)
theorem Rp.sco {r:List Addr}{H:Hp}{d:D}{v:V}(h:Rp r H d v):Sco r.length d:=by
 induction h with
 | non=>exact .non
 | bl b=>exact .bl b
 | int i=>exact .int i
 | str x=>exact .str x
 | @tup ds xs a _ l _ ih=>
  refine .tup λd hd=>?_
  obtain⟨i,hi,e⟩:=yW.mp hd;exact ih i d xs[i] (by simp[hi,e]) (by simp[l ▸ hi])
 | ref h=>exact .ref (zE.mp h).1
 | exc _=>exact .exc _
theorem Rp.low {r r':List Addr}{H:Hp}{d:D}{v:V}(h:Rp r' H d v)(low:∀m a,m<r.length->r'[m]?=some a->r[m]?=some a)(s:Sco r.length d):Rp r H d v:=by
 induction h with
 | non=>exact .non
 | bl b=>exact .bl b
 | int i=>exact .int i
 | str x=>exact .str x
 | tup e l f ih=>
  cases s with
  | tup s=>exact .tup e l λi d v h1 h2=>ih i d v h1 h2 (s d (zT h1))
 | ref h=>
  cases s with
  | ref s=>exact .ref (low _ _ s h)
 | exc h=>exact .exc h
def Pre (S S':Sto):Prop:=∀(n:Nat)(o:Ob),S[n]?=some o->S'[n]?=some o
theorem Pre.refl {S:Sto}:Pre S S:=λ_ _ h=>h
theorem Pre.push {S S':Sto}{o:Ob}(h:Pre S S'):Pre S (S'++[o]):=λn u e=>by
 have z:=h n u e;rw[zY (zE.mp z).1];exact z
theorem IK {r r':List Addr}{H H':Hp}(e:Ext r r' H H'):∀m a,m<r.length->r'[m]?=some a->r[m]?=some a:=λm a hm h=>by
 have z:r[m]?=some r[m]:=by simp[hm]
 rw[e.adr _ _ z] at h;rw[z];exact h
theorem Z5.low {K:Fg}{r r':List Addr}{S S':Sto}{H H':Hp}(h:Z5 K r S H)(e:Ext r r' H H')(h':Z5 K r' S' H')(p:Pre S S'):Z5 K r S H':=by
 have rl:∀ {ds:List D} {xs ys:List V},Rps r H ds xs->Rps r' H' ds ys->Rps r H' ds ys:=λ{ds xs ys} a b=>⟨b.1,λi d v h1 h2=>by
  obtain⟨v0,_,q⟩:=a.get h1;exact(b.2 i d v h1 h2).low (IK e) q.sco⟩
 refine⟨h.len,λn a o h1 h2=>?_,λn m a xs ys h1 h2 h3 h4 o1 o2=>h'.nd n m a xs ys (e.adr _ _ h1) (e.adr _ _ h2) (p _ _ h3) (p _ _ h4) o1 o2⟩;have q:=h.ob n a o h1 h2
 have q':=h'.ob n a o (e.adr _ _ h1) (p _ _ h2);cases o with
 | lst ds=>
  obtain⟨xs,_,a1⟩:=q;obtain⟨ys,b0,b1⟩:=q';exact⟨ys,b0,rl a1 b1⟩
 | frz ds=>
  obtain⟨xs,_,a1⟩:=q;obtain⟨ys,b0,b1⟩:=q';exact⟨ys,b0,rl a1 b1⟩
 | ins C fs=>
  obtain⟨_,_,_,a1⟩:=q;obtain⟨dx,fs',b0,b1⟩:=q';exact⟨dx,fs',b0,b1.1,rl a1.2 b1.2⟩
 | dct kvs=>
  obtain⟨_,_,a1⟩:=q;obtain⟨ks,b0,b1⟩:=q';exact⟨ks,b0,b1.1,rl a1.2 b1.2⟩
 | dck kvs=>
  obtain⟨_,_,a1⟩:=q;obtain⟨ks,b0,b1⟩:=q';exact⟨ks,b0,b1.1,rl a1.2 b1.2⟩
 | tpl ws=>exact q'
 | cod P pos q0=>exact q'
def Gc (S:Sto)(Q:DK):DK:=λd S'=>Pre S S'/\Sco S.length d/\Q d S
def GcX (S:Sto)(ex:Addr->Sto->Prop):Addr->Sto->Prop:=λc S'=>Pre S S'/\ex c S
theorem Ret.gc {K:Fg}{Z Z':Zx}{r:List Addr}{S:Sto}{H:Hp}{Q:DK}{Qv:VK}(h:Ret K Z r H Q Qv)(aS:Rel K Z r S H):Ret K Z' r H (Gc S Q) Qv:=λv H' r' d S' e rel' p q=>by
 obtain⟨pre,sc,q⟩:=q;have e':Ext r r H H':=⟨λ_ _ z=>z,e.tup,e.xc⟩;rw[<- aS.len] at sc;exact h v H' r d S e' ⟨aS.b.low e rel'.b pre,aS.xw.ext e'⟩ (p.low (IK e) sc) q
theorem UL.gc {K:Fg}{ex:Addr->Sto->Prop}{E:XK}{r:List Addr}{S:Sto}{H:Hp}(aS:Rel K (Zc ex E) r S H):UL K (Zc (GcX S ex) E) r H:=λdl σ c H' r' S' e _ rb q=>by
 obtain⟨pre,q⟩:=q;have e':Ext r r H H':=⟨λ_ _ z=>z,e.tup,e.xc⟩;exact aS.xw [] [] c H' r S e' ⟨rfl,λi d z=>by simp at z⟩ (aS.b.low e rb pre) q
section
variable {P:Program}{w:World}{K:Fg}{mg:Str->Option Value}{base:Heap}
def gcS (sd:Sd):Sd:=λds S Q ex=>∃Q0 ex0,Q=Gc S Q0/\ex=GcX S ex0/\sd ds S Q0 ex0
theorem IH (h:Yj P w K mg base CX k f fd ps (upF K (gcS sd))):Yj P w K mg base CX k f fd ps (upF K sd):=by
 have imp:∀vs H Q E,upF K sd vs H Q E->upF K (gcS sd) vs H Q E:=λvs H Qv E ⟨ex,r,S,ds,Q,aS,p,q,ret⟩=>
  ⟨GcX S ex,r,S,ds,Gc S Q,⟨aS.b,UL.gc aS⟩,p,⟨Q,ex,rfl,rfl,q⟩,ret.gc aS⟩
 obtain⟨h1,h2⟩:=h;exact⟨λvs H Q E q=>h1 vs H Q E (imp vs H Q E q),λA outer s H args us vs Q E hr e0 hb rv q=>h2 A outer s H args us vs Q E hr e0 hb rv (imp vs H Q E q)⟩
end
theorem Hj (len:∀ds S Q ex,sd ds S Q ex->ds.length=n):∀ds S Q ex,gcS sd ds S Q ex->ds.length=n:=λds S Q ex h=>by
 obtain⟨Q0,ex0,_,_,h⟩:=h;exact len _ _ _ _ h
structure Rc (sc around:Scope)(x:Str)(caps:List Str):Prop where
 kind:sc.kind=.function
 nocell:∀y∈sc.names,y.2≠.cell
 own:∀y∈sc.names,y.2=.local->sc.names.lookup y.1=some .local
 loc:sc.names.lookup x=some .local
 cap:∀y∈caps,sc.names.lookup y=some .free
 out:∀y∈sc.names,y.2=.free->around.names.lookup y.1=some .cell
theorem Qz {α:Type}{y:Str}{v:α}:∀ {l:List (Str×α)},l.lookup y=some v->(y,v)∈l
 | [],h=>by simp at h
 | (n,k)::r,h=>by
  cases e:y==n with
  | true=>
   rw[zJ,e] at h;have z:k=v:=Option.some.inj h
   have z2:y=n:=by simpa using e
   rw[z,z2];exact zV
  | false=>
   rw[zJ,e] at h;exact zO _ (Qz h)
theorem M5:∀(l:List (Str×NameKind))(acc:List (Str×Addr)),(∀y∈l,y.2=.free->∃c,env.cells.lookup y.1=some c)->(∀x c,acc.lookup x=some c->env.cells.lookup x=some c)->
  ∃cl,(forIn l acc λx r=>(if (x.2==NameKind.free)=true then do let a <- cellOf env x.1;pure (ForInStep.yield ((x.1,a)::r)) else pure (ForInStep.yield r):Sem (ForInStep (List (Str×Addr)))))=pure cl/\
   (∀x c,cl.lookup x=some c->env.cells.lookup x=some c)/\(∀y∈l,y.2=.free->cl.lookup y.1=env.cells.lookup y.1)/\∀x c,acc.lookup x=some c->∃c',cl.lookup x=some c'
 | [],acc,_,ha=>⟨acc,by simp,ha,λy hy=>(by cases hy),λx c e=>⟨c,e⟩⟩
 | (n,k)::r,acc,h,ha=>by
  cases hk:(k==NameKind.free) with
  | false=>
   obtain⟨cl,h1,h2,h3,h4⟩:=M5 r acc (λy hy=>h y (zO _ hy)) ha;refine⟨cl,?_,h2,λy hy hf=>?_,h4⟩
   .rw[vP];simp[hk];simpa using h1
   .have hy':=zB.mp hy;rcases hy' with rfl|hy
    .rw[show k=NameKind.free from hf] at hk;exact absurd hk ⋯
    .exact h3 y hy hf
  | true=>
   have hf:k=NameKind.free:=by simpa using hk
   obtain⟨c,hc⟩:=h (n,k) zV hf;obtain⟨cl,h1,h2,h3,h4⟩:=M5 r ((n,c)::acc) (λy hy=>h y (zO _ hy)) (λx c' e=>by
    cases q:x==n with
    | true=>
     rw[zJ,q] at e;have z:x=n:=by simpa using q
     rw[z,hc];exact e
    | false=>
     rw[zJ,q] at e;exact ha x c' e)
   refine⟨cl,?_,h2,λy hy hf=>?_,λx c' e=>?_⟩
   .have ec:cellOf env n=pure c:=by unfold cellOf;rw[hc]
    rw[vP];simp[hk,ec];simpa using h1
   .have hy':=zB.mp hy;rcases hy' with rfl|hy
    .obtain⟨c',e⟩:=h4 n c (by simp);rw[e];exact(h2 _ _ e).symm
    .exact h3 y hy hf
   .refine h4 x (if x==n then c else c') ?_;cases q:x==n with
    | true=>simp[zJ,q]
    | false=>simp[zJ,q,e]
theorem J0 (h:∀y∈sc.names,y.2=.free->∃c,env.cells.lookup y.1=some c):
  ∃cl,closureFor sc env=pure cl/\(∀x c,cl.lookup x=some c->env.cells.lookup x=some c)/\∀y∈sc.names,y.2=.free->cl.lookup y.1=env.cells.lookup y.1:=by
 obtain⟨cl,h1,h2,h3,_⟩:=M5 sc.names [] h (λx c e=>by simp at e);refine⟨cl,?_,h2,h3⟩;unfold closureFor;simp only[bind_pure];exact h1
theorem K1 {env:Env}:∀ {names:List (Str×NameKind)} {x:Str},names.lookup x=some .free->
  (names.map λ(n,k)=>if (k==NameKind.free&&env.scope.kind==.function&&env.kindOf n==some .cell) then (n,NameKind.cell) else (n,k)).lookup x=some .cell\/
  (names.map λ(n,k)=>if (k==NameKind.free&&env.scope.kind==.function&&env.kindOf n==some .cell) then (n,NameKind.cell) else (n,k)).lookup x=some .free
 | [],_,h=>by simp at h
 | (n,k)::r,x,h=>by
  have ih:=@K1 env r x;rw[zL];cases hx:x==n with
  | true=>
   rw[zJ,hx] at h;have hk:k=.free:=Option.some.inj h;subst hk;dsimp only;split
   .left;simp[zJ,hx]
   .right;simp[zJ,hx]
  | false=>
   rw[zJ,hx] at h;dsimp only;split
   .simp only[zJ,hx];exact ih h
   .simp only[zJ,hx];exact ih h
theorem Lv {env:Env}:∀ {names:List (Str×NameKind)} {x:Str},(∀y∈names,y.2≠.cell)->
  ((names.map λ(n,k)=>if (k==NameKind.free&&env.scope.kind==.function&&env.kindOf n==some .cell) then (n,NameKind.cell) else (n,k)).lookup x=some .cell\/
  (names.map λ(n,k)=>if (k==NameKind.free&&env.scope.kind==.function&&env.kindOf n==some .cell) then (n,NameKind.cell) else (n,k)).lookup x=some .free)->names.lookup x=some .free
 | [],_,_,h=>by simp at h
 | (n,k)::r,x,hc,h=>by
  have ih:=@Lv env r x λy hy=>hc y (zO _ hy)
  rw[zL] at h;cases hx:x==n with
  | true=>
   rw[zJ,hx];dsimp only at h;split at h
   .rename_i q;simp only[zZ] at q;have hk:k=.free:=by simpa using q.1.1
    rw[hk]
   .simp only[zJ,hx] at h;rcases h with h|h
    .exact absurd (Option.some.inj h) (hc (n,k) zV)
    .exact h
  | false=>
   rw[zJ,hx];dsimp only at h;split at h
   .simp only[zJ,hx] at h;exact ih h
   .simp only[zJ,hx] at h;exact ih h
abbrev Cx.comp (X:Cx)(sc:Scope)(N:List Str)(cl:List (Str×Addr))(C:Addr)(s0:Shared)(H0:Hp)(fp:List Addr)(pn:LA):Cx:=
 { X with N:=N,env:=compEnvC sc cl C X.env,s₀:=s0,H₀:=H0,outer:=X.stack,stack:=X.stack,ex:=fp,fn:=λ_=>false,pn:=pn,xe:=λ_ _=>False }
def YO (caps:List Nat)(σ:St):St:=caps.map λj=>(σ[j]?).join
def Wz (caps:List Nat)(dl:Ev):Ev:=caps.map λj=>(dl[j]?).join
def NI (caps:List Nat)(wi:TI)(tc:TT)(te:TE):TE:=λσ H Q=>wi σ H λJ H1=>∀D,H1 D=none->∃W:Nat->Nat->Hp->Prop,(∃m,W 0 m (upd H1 D (.lst [])))/\∀i m H,W i m H->
 (J.stop i H/\Q (.ref D) H)\/(J.go i H/\∀x H',J.yld i H x H'->tc (some x::YO caps σ) H' λb H2=>if b=true then te (some x::YO caps σ) H2 λy H3=>∃ys,H3 D=some (.lst ys)/\ys.length<sizeLine/\∃m',m'<m/\W (i+1) m' (upd H3 D (.lst (ys++[y])))
  else ∃m',m'<m/\W (i+1) m' H2)
def PTs (Y:Cx)(ifs:List Expr)(tc:TT):Prop:=∀(aA:LA)(s:Shared)(σ:St)(H:Hp)(Q:Bool->Hp->Prop),Inv Y aA σ H s->tc σ H Q->
 wpAny (model Y.prog Y.w) Y.A (forIn ifs true λc r=>if r=true then do let ok <- isTrue c Y.env (eval c Y.env);pure (ForInStep.yield ok) else pure (ForInStep.yield r)) (TP Y aA σ Q) Y.xe s
theorem zcZ:PTs Y [] (λ_ H Q=>Q true H):=λ_ _ _ H _ I h=>wpAny_tests_nil ⟨H,I,h⟩
section
variable {X:Cx}{aA:LA}{σ:St}{H:Hp}{s:Shared}
theorem zey {sc:Scope}{x:Str}{N:List Str}{caps:List Nat}{cl:List (Str×Addr)}{fp:List Addr}{h1:Heap}{m:Str->Option Value}{tk:Nat}(I:Inv X aA σ H s)(cs:Rc sc X.env.scope x N)
  (hN:∀(j:Nat)(y:Str),N[j]?=some y->∃i,caps[j]?=some i/\X.N[i]?=some y)(aL:caps.length=N.length)
  (c1:∀x c,cl.lookup x=some c->X.env.cells.lookup x=some c)(c2:∀y∈sc.names,y.2=.free->cl.lookup y.1=X.env.cells.lookup y.1)
  (hf:∀b∈fp,Xo X aA H b)(hfo:∀b∈fp,b<s.heap.objs.size)(hns:h1.Ns s.heap.objs.size m)(hk:∀b o,s.heap.get? b=some o->h1.get? b=some o):
  Inv (Cx.comp X sc (x::N) cl s.heap.objs.size s H fp (X.pn++aA)) [] (none::YO caps σ) H { s with heap:=h1,toks:=tk }:=by
 have stk:∀b∈frs X.stack,b=X.env.locals\/b∈X.fs:=λb hb=>zB.mp (I.stkSub b hb)
 refine⟨⟨I.ok.mod,cs.kind,I.ok.glob,I.ok.blt,zA _,λa b c h1 h2=>I.ok.inj a b c (c1 _ _ h1) (c1 _ _ h2),λy hy=>?_,λ_ _ z=>Bool.noConfusion z,I.ok.hd,I.ok.frames,.inl rfl,λb hb=>⟨zI (hfo b hb),λy c e=>(hf b hb).2.2.2.2.1 y c (c1 _ _ e)⟩,
  I.bs,zW I.ok.bsz I.sz,λb o e hb=>?_,λb hb z=>?_,I.stack,I.stkFree⟩,rfl,I.bare,Un.kept hk,⟨m,hns,λi y v e1 e2 e3=>?_⟩,λy c e=>?_,I.hok.fresh (zA _),λy c e=>I.freeC y c (c1 _ _ e),λp hp=>?_,I.hok.kept hk,?_⟩
 .have hfr:sc.names.lookup y=some .free:=Lv cs.nocell hy
  have hm:=Qz hfr;obtain⟨c,e⟩:=I.ok.has y (.inl (cs.out _ hm rfl));exact⟨c,(c2 _ hm rfl).trans e⟩
 .rcases (hf b hb).2.2.2.1 with z|z
  .exact I.ok.noex b o e z
  .exact absurd (zK (Heap.lt_size (I.ok.bs b o e).1) z) (yB _)
 .rcases stk b z with z|z
  .exact(hf b hb).2.1 z
  .exact(hf b hb).2.2.1 z
 .cases i with
  | zero=>simp at e2
  | succ i=>
   have e1':N[i]?=some y:=by simpa using e1
   obtain⟨j,hj,hy⟩:=hN i y e1';have e2':σ[j]?=some (some v):=by
    simp only[wR,YO,zR,hj,xN,Option.some.injEq] at e2;cases q:σ[j]? with
    | none=>rw[q] at e2;cases e2
    | some o=>rw[q] at e2;simp at e2;rw[e2]
   have hfr:sc.names.lookup y=some .free:=cs.cap y (zT e1')
   have hm:=Qz hfr
   have hce:X.env.scope.names.lookup y=some .cell:=cs.out _ hm rfl;obtain⟨m0,_,hl⟩:=I.loc;obtain⟨u,r,l⟩:=hl j y v hy e2' (.inr (.inl hce));refine⟨u,r,.inr ⟨K1 hfr,?_⟩⟩;rcases l with ⟨k,_⟩|⟨_,c,ec,hcell⟩
   .rw[show X.env.kindOf y=some .cell from hce] at k;cases k
   .exact⟨c,(c2 _ hm rfl).trans ec,hcell.keeps hk⟩
 .obtain⟨v,z⟩:=I.cell y c (c1 _ _ e);exact⟨v,z.keeps hk⟩
 .have hp':p∈X.pn++aA:=by simpa using hp
  obtain⟨p1,p2,p3,p4,p5⟩:=I.pin p hp';refine⟨hk _ _ p1,p2,zI (Heap.lt_size p1),λz=>?_,p5⟩;rcases stk _ z with z|z
  .exact p3 z
  .exact p4 z
 .simp[YO,aL]
end
section
variable {X:Cx}{aP aO:Expr}{x:Str}{px pos:Pos}{ifs:List Expr}{sc:Scope}{N:List Str}{caps:List Nat}{wi:TI}{tc:TT}{te:TE}
structure Ir (X:Cx)(aA:LA)(σ:St)(C:Addr)(Q:VK)(D:Addr)(s':Shared):Prop where
 q:∃H',Inv X aA σ H' s'/\Q (.ref D) H'/\H' C=none
 ns:∃m,s'.heap.Ns C m
 loc:C≠X.env.locals
 old:X.s₀.heap.objs.size<=C
 cell:∀x c,X.env.cells.lookup x=some c->c≠C
 pin:∀p∈X.pn++aA,p.1≠C
theorem Ag (hc:X.calm=true)(cs:Rc sc X.env.scope x N)(hN:∀(j:Nat)(y:Str),N[j]?=some y->∃i,caps[j]?=some i/\X.N[i]?=some y)(aL:caps.length=N.length)(hnd:(x::N).Nodup)(hi:PI X (.Name x px) aO wi)(ht:∀cl C s0 H0 fp pn,PTs (Cx.comp X sc (x::N) cl C s0 H0 fp pn) ifs tc)(he:∀cl C s0 H0 fp pn,PE (Cx.comp X sc (x::N) cl C s0 H0 fp pn) aP te)(hs:∀y,foldedSetIterable aO X.env y=pure y)(I:Inv X aA σ H s)(h:NI caps wi tc te σ H Q)(aR:∀D C s',Ir X aA σ C Q D s'->compPost (mX X) X.A X.xe use Qr (.ref D) C (.ok .next) s'):
  wpAny (mX X) X.A (comprehension (.ListComp aP [⟨.Name x px,aO,ifs,0⟩] sc pos) sc X.env p2 (newList []) false (eval aO X.env) use) Qr X.xe s:=by
 obtain⟨cl,k1,k2,k3⟩:=J0 (sc:=sc) (env:=X.env) λy hy hf=>I.ok.has y.1 (.inl (cs.out y hy hf))
 refine wpAny_comprehension_free rfl hs k1 cs.kind cs.own (thn (hi aA s σ H _ I h) λv s1 h1=>thn h1 λitv s2 h2=>?_);obtain⟨it,fp,tn,J,H2,e,I2,T,st2,f2,body⟩:=h2;subst e;have hfo:∀b∈fp,b<s2.heap.objs.size:=λb hb=>by
  obtain⟨o,e,_⟩:=T.obj _ _ st2 b hb;exact Heap.lt_size e
 have hD:H2 s2.heap.objs.size=none:=I2.hok.fresh (zA _);obtain⟨W,⟨m0,w0⟩,turn⟩:=body _ hD;refine wpAny_newObj_type ?_;have I3:Inv X aA σ (upd H2 s2.heap.objs.size (.lst [])) { s2 with heap:=s2.heap.push { cls:=.type "list",dict:=none,data:=.seq ([]:List Value).toArray },toks:=s2.toks }:=
  I2.laid (t':=s2.toks) (λb u e=>Heap.get?_push_of_some _ e) (zA _) ⟨zS _,[],0,.nil,Heap.get?_push_size _ rfl⟩
 generalize hs3:({ s2 with heap:=s2.heap.push { cls:=.type "list",dict:=none,data:=.seq ([]:List Value).toArray },toks:=s2.toks }:Shared)=s3 at I3;have es3:({ s2 with heap:=s2.heap.push { cls:=.type "list",dict:=none,data:=.seq ([]:List Value).toArray } }:Shared)=s3:=hs3
 try rw[es3]
 have f3:∀b∈fp,Xo X aA (upd H2 s2.heap.objs.size (.lst [])) b:=λb hb=>⟨by rw[Z1 (zI (hfo b hb))];exact(f2 b hb).1,(f2 b hb).2⟩
 have up3:∀b o,s2.heap.get? b=some o->s3.heap.get? b=some o:=λb o e=>by rw[<- hs3];exact Heap.get?_push_of_some _ e
 have st3:tn 0 s3.heap:=T.keep _ _ _ st2 λb _ o e=>up3 b o e
 have hfo3:∀b∈fp,b<s3.heap.objs.size:=λb hb=>by
  obtain⟨o,e,_⟩:=T.obj _ _ st3 b hb;exact Heap.lt_size e
 refine wpAny_newFunctionEnv cs.nocell (λy hy=>by simp at hy) (λh4 ns4 sb4=>?_) cs.kind;have hk4:∀b o,s3.heap.get? b=some o->h4.get? b=some o:=λb o e=>(sb4.2 b (zI (Heap.lt_size e))).trans (Heap.get?_push_of_some _ e)
 have I4:=zey (tk:=s3.toks+([]:List (Str×Value)).length) I3 cs hN aL k2 k3 f3 hfo3 ns4 hk4;generalize hs4:({ s3 with heap:=h4,toks:=s3.toks+([]:List (Str×Value)).length }:Shared)=s4 at I4 ⊢;have eh4:s4.heap=h4:=by rw[<- hs4]
 have st4:tn 0 s4.heap:=by rw[eh4];exact T.keep _ _ _ st3 λb _ o e=>hk4 b o e
 have fY:∀ {H':Hp},(∀b∈fp,H' b=none)->∀b∈fp,Xo (Cx.comp X sc (x::N) cl s3.heap.objs.size s3 (upd H2 s2.heap.objs.size (.lst [])) fp (X.pn++aA)) [] H' b:=λhn b hb=>by
  obtain⟨_,z2,z3,z4,z5,z6⟩:=f3 b hb;refine⟨hn b hb,zI (hfo3 b hb),λz=>?_,.inl hb,λy c e=>z5 y c (k2 _ _ e),λp hp=>z6 p (by simpa using hp)⟩;rcases zB.mp (I3.stkSub b z) with z|z
  .exact z2 z
  .exact z3 z
 have locY:(Cx.comp X sc (x::N) cl s3.heap.objs.size s3 (upd H2 s2.heap.objs.size (.lst [])) fp (X.pn++aA)).env.scope.names.lookup x=some .local:=lookup_relabel_local cs.loc
 have loop:codeAny (mX X) X.A (.compLoop (.ListComp aP [⟨.Name x px,aO,ifs,0⟩] sc pos) 0 (.ref it) (.ref s2.heap.objs.size) (compEnvC sc cl s3.heap.objs.size X.env))
   (compPost (mX X) X.A X.xe use Qr (.ref s2.heap.objs.size) s3.heap.objs.size) s4:=by
  refine codeAny_compLoop_tests (λn s'=>∃i o H',Inv (Cx.comp X sc (x::N) cl s3.heap.objs.size s3 (upd H2 s2.heap.objs.size (.lst [])) fp (X.pn++aA)) [] (o::YO caps σ) H' s'/\tn i s'.heap/\(∀b∈fp,H' b=none)/\W i n H') ?_ m0
   ⟨0,none,_,I4,st4,λb hb=>(f3 b hb).1,w0⟩
  rintro n s5 ⟨i,o,H5,I5,st5,fr5,w5⟩;rcases turn i n H5 w5 with ⟨stop,q⟩|⟨go,step⟩
  .refine thn (T.done (Cx.comp X sc (x::N) cl s3.heap.objs.size s3 (upd H2 s2.heap.objs.size (.lst [])) fp (X.pn++aA)) rfl rfl rfl hc i [] s5 _ H5 _ I5 (fY fr5) st5 stop) λr s6 ⟨hr,I6⟩=>?_
   subst hr;refine aR _ _ _ ⟨⟨H5,I3.call' I6.os I6.base I6.hok I6.bare (λb hb=>?_),q,I6.free⟩,?_,wB I3.lt,I3.sz,λy c e z=>?_,λp hp z=>?_⟩
   .obtain⟨_,z2,z3,z4,z5,z6⟩:=f3 b hb;exact⟨z4,z2,z5,z6⟩
   .obtain⟨m,hm,_⟩:=I6.loc;exact⟨m,hm⟩
   .obtain⟨v,hv⟩:=I3.cell y c e;exact absurd (z ▸ hv.lt) (yB _)
   .exact absurd (z ▸ Heap.lt_size (I3.pin p hp).1) (yB _)
  .refine thn (T.item (Cx.comp X sc (x::N) cl s3.heap.objs.size s3 (upd H2 s2.heap.objs.size (.lst [])) fp (X.pn++aA)) rfl rfl rfl hc i [] s5 _ H5 _ I5 (fY fr5) st5 go) λr s6 ⟨u,hr,h6⟩=>?_
   subst hr;show wpAny _ _ (letOwnedTupleGo (.Name x px) (.ref it) u >>= λ_=>assign (.Name x px) (compEnvC sc cl s3.heap.objs.size X.env) u) _ _ s6;refine wpAny_bind (thn h6 λ_ s7 ⟨y,H7,I7,r7,y7,st7,fr7⟩=>?_);have I7':=I7.pinned (fY fr7) (T.obj _ _ st7);refine wpAny_mono (Nk (X:=Cx.comp X sc (x::N) cl s3.heap.objs.size s3 (upd H2 s2.heap.objs.size (.lst [])) fp (X.pn++aA)) (pos:=px) hnd (i:=0) rfl (.inl locY) (.inr locY) _ s7 _ H7 y u (λσ8 H8=>σ8=some y::YO caps σ/\H8=H7) I7' r7 ⟨rfl,rfl⟩) (λ_ s8 ⟨σ8,H8,I8,e8,e8'⟩=>?_) λ_ _ z=>z.elim
   subst e8;subst e8';have stay:∀ {H':Hp} {s':Shared},Inv (Cx.comp X sc (x::N) cl s3.heap.objs.size s3 (upd H2 s2.heap.objs.size (.lst [])) fp (X.pn++aA)) ([]++SH fp s7.heap) (some y::YO caps σ) H' s'->∀m',m'<n->W (i+1) m' H'->
     ∃m,m<n/\∃i o H',Inv (Cx.comp X sc (x::N) cl s3.heap.objs.size s3 (upd H2 s2.heap.objs.size (.lst [])) fp (X.pn++aA)) [] (o::YO caps σ) H' s'/\tn i s'.heap/\(∀b∈fp,H' b=none)/\W i m H':=λ{H' s'} J m' hm w'=>by
    refine⟨m',hm,i+1,some y,H',J.unpinned,T.keep _ _ _ st7 λb hb o e=>(J.pin (b,o) (zX _ (zX _ (SX hb e)))).1,λb hb=>?_,w'⟩;obtain⟨o,e,d⟩:=T.obj _ _ st7 b hb;exact(J.pin (b,o) (zX _ (zX _ (SX hb e)))).2.1
   refine wpAny_mono (ht _ _ _ _ _ _ _ s8 _ H8 _ I8 (step y H8 y7)) (λb s9 ⟨H9,I9,q9⟩=>?_) λ_ _ z=>z.elim
   cases b with
   | false=>
    rw[if_neg zQ] at q9 ⊢;obtain⟨m',hm,w9⟩:=q9;exact stay I9 m' hm w9
   | true=>
    rw[if_pos rfl] at q9 ⊢;refine wpAny_mono (he _ _ _ _ _ _ _ s9 _ H9 _ I9 q9) (λu2 s10 ⟨z,H10,I10,r10,q10⟩=>?_) λ_ _ z=>z.elim
    obtain⟨ys,hD10,hlt,m',hm,w10⟩:=q10;refine wpAny_mono (KA (X:=(Cx.comp X sc (x::N) cl s3.heap.objs.size s3 (upd H2 s2.heap.objs.size (.lst [])) fp (X.pn++aA))) _ s10 _ H10 (.ref s2.heap.objs.size) [z] (.ref s2.heap.objs.size) [u2] (λ_ H'=>H'=upd H10 s2.heap.objs.size (.lst (ys++[z]))) I10 rfl (.cons r10 .nil) ⟨_,ys,z,rfl,rfl,hD10,hlt,rfl⟩) (λ_ s11 ⟨_,H11,I11,_,e11⟩=>?_) λ_ _ z=>z.elim
    subst e11;exact stay I11 m' hm w10
 exact codeAny_compStart_list loop (T.self _ 0 s4 _ _ st4 loop)
theorem Mt (h:caps.map (λi=>X.N[i]?)=N.map some):(∀(j:Nat)(y:Str),N[j]?=some y->∃i,caps[j]?=some i/\X.N[i]?=some y)/\caps.length=N.length:=by
 refine⟨λj y e=>?_,by simpa using congrArg List.length h⟩;have z:(caps.map (λi=>X.N[i]?))[j]?=some (some y):=by rw[h,zR,e];rfl
 rw[zR] at z;cases q:caps[j]? with
 | none=>rw[q] at z;cases z
 | some i=>rw[q] at z;exact⟨i,rfl,by simpa using z⟩
theorem Fo (hc:X.calm=true)(cs:Rc sc X.env.scope x N)(hN:Hn X caps N)(hnd:(x::N).Nodup)
  (hi:PI X (.Name x px) aO wi)(ht:∀cl C s0 H0 fp pn,PTs (Cx.comp X sc (x::N) cl C s0 H0 fp pn) ifs tc)(he:∀cl C s0 H0 fp pn,PE (Cx.comp X sc (x::N) cl C s0 H0 fp pn) aP te)
  (hs:∀y,foldedSetIterable aO X.env y=pure y:=by intro _;rfl):PE X (.ListComp aP [⟨.Name x px,aO,ifs,0⟩] sc pos) (NI caps wi tc te):=by
 intro aA s σ H Q I h;rw[eval_ListComp];refine Ag (use:=none) hc cs (Mt hN).1 (Mt hN).2 hnd hi ht he hs I h λD C s' f=>?_
 obtain⟨⟨H',I',q,hC⟩,⟨m,ns⟩,l,o,c,p⟩:=f;exact⟨m,ns,λh' sb=>⟨.ref D,H',I'.turned (t':=s'.toks) (λb ob hb e=>(sb.2 b hb).trans e) hC l (.inr o) c p,rfl,q⟩⟩
end
section
variable {X:Cx}{Z:Zx}{aP aO:Expr}{x:Str}{px pos:Pos}{ifs:List Expr}{sc ar:Scope}{N:List Str}{caps:List Nat}
theorem FN {r:List Addr}{H:Hp}{dl:Ev}{σ:St}{d:D}{v:V}(h:Rs r H dl σ)(p:Rp r H d v):Rs r H (some d::Wz caps dl) (some v::YO caps σ):=by
 refine⟨by simp[Wz,YO],λi e hi=>?_⟩;cases i with
 | zero=>simp at hi;subst hi;exact⟨v,rfl,p⟩
 | succ i=>
  simp only[wR,Wz,zR] at hi;cases q:caps[i]? with
  | none=>rw[q] at hi;cases hi
  | some j=>
   rw[q] at hi;simp only[xN,Option.some.injEq] at hi;have hj:dl[j]?=some (some e):=by
    cases q2:dl[j]? with
    | none=>rw[q2] at hi;cases hi
    | some o=>rw[q2] at hi;simp at hi;rw[hi]
   obtain⟨w,h1,h2⟩:=h.2 j e hj;refine⟨w,?_,h2⟩;simp only[wR,YO,zR,q,xN,h1,Option.join_some]
def PDTs (Y:Cx)(ifs:List Expr)(t:TDT):Prop:=PTs Y ifs (upT Y.K Z0 t)
def RQ:TDT:=λ_ S Q=>Q true S
theorem Tj:PDTs Y [] RQ:=λaA s σ H Qb I ⟨r,dl,S,Q,rs,aS,q,ret⟩=>zcZ aA s σ H Qb I (ret true H r S Ext.refl aS q)
def Ro (caps:List Nat)(tc:TDT)(te:TDE)(k:Nat)(dl:Ev)(d:D)(S:Sto)(nx:Sto->Prop):Prop:=
 tc (some d::Wz caps dl) S λb S1=>if b=true then te (some d::Wz caps dl) S1 λy S2=>match S2[k]? with
  | some (.lst ys)=>ys.length<1000/\nx (S2.set k (.lst (ys++[y])))
  | _=>False
 else nx S1
@[irreducible] def QE (caps:List Nat)(ta:TDA)(tc:TDT)(te:TDE):TDE:=λdl S Q=>ta dl S λds S1=>match ds with
 | [.int j]=>(-(2^62)<=j/\j<2^62)/\∃W:Nat->Sto->Prop,W 0 (S1++[.lst []])/\∀k S2,W k S2->
   if k<j.toNat then Ro caps tc te S1.length dl (.int k) S2 λS3=>W (k+1) S3 else Q (.ref S1.length) S2
 | _=>False
theorem FX {tc:TDT}{te:TDE}{r2:List Addr}{H2:Hp}{S1 S2:Sto}{dl:Ev}{σ:St}{D0:Addr}{d:D}{v:V}{nx:Sto->Prop}{Nx:Hp->Prop}(rs:Rs r2 H2 dl σ)(ha:r2[S1.length]?=some D0)(rb:Z5 X.K r2 S2 H2)(p:Rp r2 H2 d v)
  (h:Ro caps tc te S1.length dl d S2 nx)(hn:∀r' S' H',Ext r2 r' H2 H'->Z5 X.K r' S' H'->nx S'->Nx H'):
  upT X.K Z0 tc (some v::YO caps σ) H2 λb H3=>if b=true then up X.K Z0 te (some v::YO caps σ) H3 λy H4=>∃ys,H4 D0=some (.lst ys)/\ys.length<sizeLine/\Nx (upd H4 D0 (.lst (ys++[y]))) else Nx H3:=by
 have rsY:Rs r2 H2 (some d::Wz caps dl) (some v::YO caps σ):=FN rs p;refine⟨r2,_,S2,_,rsY,⟨rb,λ_ _ _ _ _ _ _ _ _ z=>z.elim⟩,h,λb H3 r3 S3 x3 aD q3=>?_⟩;cases b with
 | false=>rw[if_neg zQ] at q3 ⊢;exact hn r3 S3 H3 x3 aD.b q3
 | true=>
  rw[if_pos rfl] at q3 ⊢;refine⟨r3,_,S3,_,rsY.ext x3,aD,q3,λz H4 r4 dz S4 x4 aE p4 q4=>?_⟩;split at q4
  .rename_i ys eys;obtain⟨hl,q4⟩:=q4;have ha4:r4[S1.length]?=some D0:=x4.adr _ _ (x3.adr _ _ ha);obtain⟨zs,hD4,pz⟩:=aE.b.ob _ _ _ ha4 eys;obtain⟨rel5,x5⟩:=aE.b.set ha4 eys (pz.snoc p4);exact⟨zs,hD4,by rw[<- pz.1];exact Sr (yF hl),hn r4 _ _ (x3.trans (x4.trans x5)) rel5 q4⟩
  .exact q4.elim
theorem R7 {r:List Addr}{D0:Addr}{n:Nat}(h:r.length=n):(r++[D0])[n]?=some D0:=by subst h;simp
theorem CZ {ta:TDA}{tc:TDT}{te:TDE}{σ:St}{H:Hp}{Qv:VK}(h:up X.K Z (QE caps ta tc te) σ H Qv):NI caps (IG (upA X.K Z ta)) (upT X.K Z0 tc) (up X.K Z0 te) σ H Qv:=by
 obtain⟨r,dl,S,Q,rs,aS,h,ret⟩:=h;unfold QE at h;refine⟨r,dl,S,_,rs,aS,h,λvs H1 r1 ds S1 x1 aB p1 q1=>?_⟩;split at q1
 .rename_i j;obtain⟨v,vs',rfl,p2,p3⟩:=p1.uncons;have z:=p3.unnil;subst z;cases p2;obtain⟨⟨b1,b2⟩,W,w0,turn⟩:=q1;refine⟨j,rfl,b1,b2,λD0 hD=>?_⟩;obtain⟨aC,x2⟩:=aB.b.push (ds:=[]) (xs:=[]) hD Rps.nil;refine⟨λk m H'=>m=j.toNat-k/\∃r' S',Ext (r1++[D0]) r' (upd H1 D0 (.lst [])) H'/\Z5 X.K r' S' H'/\W k S',⟨j.toNat,by simp,_,_,Ext.refl,aC,w0⟩,?_⟩;rintro k m H2 ⟨em,r2,S2,x3,rb2,w2⟩;have ha2:r2[S1.length]?=some D0:=x3.adr _ _ (R7 aB.len)
  have q:=turn k S2 w2;split at q
  .rename_i hk;refine .inr ⟨hk,λv' H' y'=>?_⟩;obtain⟨eH,y'⟩:=y';subst eH;subst y';have pk:Rp r2 H' (.int (k:Int)) (.int (0+(k:Int))):=by rw[Int.zero_add];exact .int _
   have z:=FX (Nx:=λH'=>∃m',m'<m/\m'=j.toNat-(k+1)/\∃r' S',Ext (r1++[D0]) r' (upd H1 D0 (.lst [])) H'/\Z5 X.K r' S' H'/\W (k+1) S') (rs.ext (x1.trans (x2.trans x3))) ha2 rb2 pk q
    λr' S' H' x' rb' w'=>⟨j.toNat-(k+1),(),rfl,r',S',x3.trans x',rb',w'⟩
   exact z
  .rename_i hk;exact .inl ⟨by show j.toNat<=k;lia,ret _ H2 r2 _ S2 (x1.trans (x2.trans x3)) ⟨rb2,aS.xw.ext (x1.trans (x2.trans x3))⟩ (.ref ha2) q⟩
 .exact q1.elim
theorem QM (har:X.env.scope=ar)(hc:X.calm=true)(cs:Rc sc ar x N)(hN:Hn X caps N)(hnd:(x::N).Nodup)(hg:Gl X "range")(hm:X.mg "range"=none)(ha:PDA X Z [a] ta)(ht:∀cl C s0 H0 fp pn,PDTs (Cx.comp X sc (x::N) cl C s0 H0 fp pn) ifs tc)(he:∀cl C s0 H0 fp pn,PD (Cx.comp X sc (x::N) cl C s0 H0 fp pn) Z0 aP te)(hs:∀y,foldedSetIterable (.Call (.Name "range" p) [a] [] aJ) X.env y=pure y:=by intro _;rfl)(hst:starEach [a] X.env=[(false,eval a X.env)]:=by rfl):
  PD X Z (.ListComp aP [⟨.Name x px,.Call (.Name "range" p) [a] [] aJ,ifs,0⟩] sc pos) (QE caps ta tc te):=by
 subst har;exact ZO (Fo hc cs hN hnd (tc:=upT X.K Z0 tc) (te:=up X.K Z0 te) (Dy hg hm ha hst) ht he hs) λ_ _ _ h=>CZ h
@[irreducible] def UW (to te:TDE):TDE:=λdl S Q=>to dl S λx S1=>match x with
 | .ref n=>match S1[n]? with
  | some (.lst _)=>te dl S1 λy S2=>match S2[n]? with
   | some (.lst xs)=>if xs.length<1000 then Q .non (S2.set n (.lst (xs++[y]))) else False
   | _=>False
  | _=>False
 | _=>False
theorem X7 (ho:PD X Z o to)(he:PD X Z e te)(hbase:attributeBase o "append" X.env (eval o X.env)=eval o X.env:=by rfl)(hfew:((backTo aH (starEach [e] X.env)).all (λx=>!x.1)&&(backToKw aH (keywordEach [] X.env)).all (λx=>x.1.isSome)
  &&decide (([e]:List Expr).length+([]:List Keyword).length+(if ([]:List Keyword).isEmpty then 0 else 1)<30))=true:=by rfl)(hline:(aI.endLine==aH.line)=true:=by rfl)(hst:starEach [e] X.env=[(false,eval e X.env)]:=by rfl):
  PD X Z (.Call (.Attribute o "append" aI) [e] [] aH) (UW to te):=
 ZO (Ug PySem.F.plainAttrs_list PySem.F.slot_list_append PySem.F.type_list_append KA ho (Vf he UB hst) hbase hfew hline hst rfl) λσ H Qv h=>by
  obtain⟨r,dl,S,Q,rs,aS,h,ret⟩:=h;unfold UW at h;refine⟨r,dl,S,_,rs,aS,h,λv H1 r1 d S1 x1 aB p1 h1=>?_⟩;cases p1 with
  | @ref n a hn=>
   dsimp only at h1;split at h1
   .rename_i xs0 e0;obtain⟨a',ha,ob⟩:=aB.at e0;rw[hn] at ha;cases ha
    obtain⟨ys,hH,_⟩:=ob;refine⟨.inl ⟨rfl,ys,SqL.of hH⟩,r1,dl,S1,_,rs.ext x1,aB,h1,λv2 H2 r2 d2 S2 x2 aC p2 h2=>?_⟩;split at h2
    .rename_i xs1 e1;obtain⟨hlt,h2⟩:=Q9 h2;have ha2:=x2.adr n a hn;obtain⟨zs,hH2,pz⟩:=aC.b.ob n a _ ha2 e1;obtain⟨aD,x3⟩:=aC.set ha2 e1 (pz.snoc p2);exact⟨a,zs,v2,rfl,rfl,hH2,by rw[<- pz.1];exact Sr (yF hlt),ret .non _ r2 .non _ (x1.trans (x2.trans x3)) aD .non h2⟩
    .exact h2.elim
   .exact h1.elim
  | _=>exact(show False from h1).elim
def Ni:WC:=λds S Q=>match ds with
 | [.tup xs]=>Q (.ref S.length) (S++[.lst xs])
 | [.ref n]=>match lAt S n with
  | some o=>Q (.ref S.length) (S++[.lst (ZC o)])
  | none=>False
 | _=>False
theorem UC:YJ X (.type "list") (upC X.K Z Ni):=SJ AK λxs H Qv ⟨r,S,ds,Q,aS,ps,q,ret⟩=>by
 unfold Ni at q;split at q
 .rename_i ys;obtain⟨v,vs,rfl,p1,p2⟩:=ps.uncons;have z:=p2.unnil;subst z;obtain⟨a,zs,rfl,h1,h2⟩:=p1.untup;refine⟨a,zs,rfl,.inr (SqT.of h1),λl hl=>?_⟩;obtain⟨aC,x⟩:=aS.push hl h2;exact ret _ _ _ (.ref S.length) _ x aC (Wo aS.len) q
 .rename_i n;obtain⟨v,vs,rfl,p1,p2⟩:=ps.uncons;have z:=p2.unnil;subst z;split at q
  .rename_i o eo;obtain⟨eo,eL⟩:=XM eo;obtain⟨a,ha,ob⟩:=aS.at eo;cases p1 with
   | ref h1=>
    rw[h1] at ha;cases ha
    obtain⟨ys,sq,pr⟩:=ob.list eL;refine⟨_,ys,rfl,.inl sq,λl hl=>?_⟩;obtain⟨aC,x⟩:=aS.push hl pr;exact ret _ _ _ (.ref S.length) _ x aC (Wo aS.len) q
  .exact q.elim
 .exact q.elim
def X0:List D->Option (List Bool)
 | []=>some []
 | .bl b::r=>(X0 r).map (b::·)
 | _::_=>none
def QR (g:List Bool->Bool):WC:=λds S Q=>match ds with
 | [.ref n]=>match lAt S n with
  | some o=>match X0 (ZC o) with
   | some bs=>Q (.bl (g bs)) S
   | none=>False
  | none=>False
 | _=>False
theorem Ei {r:List Addr}{H:Hp}:∀ {ds:List D} {bs:List Bool} {vs:List V} {us:List Value},X0 ds=some bs->Rps r H ds vs->Zt vs us->us=bs.map Value.bool
 | [],bs,vs,us,e,p,q=>by
  have z:=p.unnil;subst z;cases q;simp[X0] at e;subst e;rfl
 | d::ds,bs,vs,us,e,p,q=>by
  obtain⟨v,vs',rfl,p1,p2⟩:=p.uncons;cases d with
  | bl b=>
   cases p1;cases q with
   | cons q1 q2=>
    have q1':_=Value.bool b:=q1;subst q1';simp only[X0,yA] at e;obtain⟨ms,e1,rfl⟩:=e;rw[Ei e1 p2 q2];rfl
  | _=>simp[X0] at e
theorem EJ {bs:List Bool}:(List.range bs.length).all (λi=>bs.getD i false)=bs.all id:=by
 rw[yP];rw[wU,wU];refine⟨λh b hb=>?_,λh i hi=>?_⟩
 .obtain⟨i,hi,e⟩:=yW.mp hb;have hb':=h i (wA.mpr hi);simpa [hi,e] using hb'
 .have hi':i<bs.length:=wA.mp hi
  have:=h bs[i] (xE hi');simpa [hi'] using this
theorem CC {prog:Program}{w:World}{A:Around}{bs:List Bool}:TruthOf prog w A (λi v=>(bs.map Value.bool).toArray[i]?=some v) λi=>bs.getD i false:=λi v s Q E hP hQ=>by
  have e:(bs.map Value.bool)[i]?=some v:=by simpa using hP
  rw[zR] at e;cases q:bs[i]? with
  | none=>
   rw[q] at e;cases e
  | some b=>
    rw[q] at e;have z:Value.bool b=v:=by simpa using e
    subst z;have z2:bs.getD i false=b:=by simp[wV,q]
    have hQ':Q (bs.getD i false) s:=hQ;rw[z2] at hQ';exact wpAny_truthy_bool hQ'
theorem zcv {n:Nat}{a:Addr}{o:Ob}{bs:List Bool}{aA:LA}{σ:St}{H:Hp}{s:Shared}{r:List Addr}{S:Sto}{Q:DK}{Qv:VK}{E:Value->Shared->Prop}{g:List Bool->Bool}(G:List Nat->(Nat->Bool)->Bool)
  (hG:G (List.range bs.length) (λi=>bs.getD i false)=g bs)(hc:X.calm=true)(I:Inv X aA σ H s)(aS:Rel X.K Z r S H)(hn:r[n]?=some a)(eo:lAt S n=some o)(eb:X0 (ZC o)=some bs)(q:Q (.bl (g bs)) S)(ret:Ret X.K Z r H Q Qv):
  wpAny (mX X) X.A.in1 (pyIter (.ref a)) (λit s₂=>∃I fp wr n P' St tr,it=.ref I/\Walks X.prog X.w X.A.in1 I fp wr n P' St/\St 0 s₂.heap/\TruthOf X.prog X.w X.A.in1 P' tr/\
   ∀h' tk,(∀b o,b ∉ wr->s₂.heap.get? b=some o->h'.get? b=some o)->EP X aA σ Qv (.bool (G (List.range n) tr)) { s₂ with heap:=h',toks:=tk }) E s:=by
 obtain⟨eo,eL⟩:=XM eo;obtain⟨a',ha,ob⟩:=aS.at eo;rw[hn] at ha;cases ha
 obtain⟨ys,sq,pr⟩:=ob.list eL;obtain⟨aQ,ri,pl,hz⟩:=I.list sq;have eits:=Ei eb pr ri;subst eits;refine wpAny_pyIter_list pl.isList ?_;have hne:a≠s.heap.objs.size:=zI (by
  obtain⟨ob,e,_⟩:=pl.isList;exact Heap.lt_size e)
 refine⟨s.heap.objs.size,_,_,_,_,_,λi=>bs.getD i false,rfl,Walks.list (show X.A.in1.handled=none from I.ok.hd hc) _ a hne (bs.map Value.bool).toArray,⟨⟨_,Heap.get?_push_size _ rfl,rfl,rfl⟩,pl.isList.at λo e=>Heap.get?_push_of_some _ e⟩,CC,λh' tk hk=>?_⟩;have ez:(bs.map Value.bool).toArray.size=bs.length:=by simp
 rw[ez,hG];refine⟨.bl (g bs),H,I.kept λb o e=>hk b o (λz=>?_) (Heap.get?_push_of_some _ e),rfl,ret _ _ _ _ _ Ext.refl aS (.bl _) q⟩;have z':b=s.heap.objs.size:=by simpa using z
 exact absurd (z' ▸ Heap.lt_size e) (yB _)
theorem BX {id:String}{g:List Bool->Bool}(rule:∀(aA:LA)(σ:St)(H:Hp)(s:Shared)(r:List Addr)(S:Sto)(Q:DK)(Qv:VK)(n:Nat)(a:Addr)(o:Ob)(bs:List Bool),Inv X aA σ H s->Rel X.K Z r S H->r[n]?=some a->lAt S n=some o->X0 (ZC o)=some bs->
   Q (.bl (g bs)) S->Ret X.K Z r H Q Qv->wpAny (mX X) X.A (call (.builtin id) [.ref a]) (EP X aA σ Qv) X.xe s):YJ X (.builtin id) (upC X.K Z (QR g)):=by
 intro aA s σ H xs us Qv I rv h;obtain⟨r,S,ds,Q,aS,ps,q,ret⟩:=h;unfold QR at q;split at q
 .rename_i n;obtain⟨v,vs,rfl,p1,p2⟩:=ps.uncons;have z:=p2.unnil;subst z;split at q
  .rename_i o eo;split at q
   .rename_i bs eb;cases p1 with
    | ref h1=>
     obtain⟨u,rfl,ru⟩:=Xw rv;cases ru;exact rule aA σ H s r S Q Qv n _ o bs I aS h1 eo eb q ret
   .exact q.elim
  .exact q.elim
 .exact q.elim
theorem Uh (hc:X.calm=true):YJ X (.builtin "all") (upC X.K Z (QR λbs=>bs.all id)):=
 BX λ_ _ _ _ _ _ _ _ _ _ _ _ I aS h1 eo eb q ret=>call_all_walk (zcv (g:=λbs=>bs.all id) (λl f=>l.all f) EJ hc I aS h1 eo eb q ret)
@[irreducible] def irr (w:WC):WC:=w
@[irreducible] def Xi (w:W2):W2:=w
theorem Us (w:WC):irr w=w:=by unfold irr;rfl
theorem Xs (w:W2):Xi w=w:=by unfold Xi;rfl
theorem ZK (h:YJ X f (upC X.K Z w)):YJ X f (upC X.K Z (irr w)):=by rw[Us];exact h
theorem Yb (ha:PD X Z a ta)(hb:PD X Z b tb)(hs:K4 b):PD X Z (.Subscript a b pos) (dOp (Xi wIx) ta tb):=by rw[Xs];exact Zy ha hb hs
theorem Zz (S:Sto)(o:Ob):(S++[o])[S.length]?=some o:=by simp
theorem zdR (h:X0 (ZC o)=some bs):Wl o=some o:=by
 cases o<;>first|rfl|cases h
theorem WM (h:S[n]?=some o)(hb:X0 (ZC o)=some bs)(hq:Q (.bl (g bs)) S):irr (QR g) [.ref n] S Q:=by
 rw[Us];unfold QR;simp only[Yo h (zdR hb),hb];exact hq
theorem UJ (h:lAt S n=some o)(hq:Q (.ref S.length) (S++[.lst (ZC o)])):irr Ni [.ref n] S Q:=by
 rw[Us];unfold Ni;simp only[h];exact hq
theorem Wy {to te:TDE}{dl:Ev}{S S1:Sto}{Q:DK}{n:Nat}{xs:List D}{y:D}(hto:∀K:DK,K (.ref n) S1->to dl S K)(h:S1[n]?=some (.lst xs))(hte:∀K:DK,K y S1->te dl S1 K)(hl:xs.length<1000)(hq:Q .non (S1.set n (.lst (xs++[y])))):UW to te dl S Q:=by
 unfold UW;refine hto _ ?_;simp only[h];refine hte _ ?_;simp only[h];exact ifP hl hq
end
end L3
namespace L3
open PySem PySem.Spec PyProof.Rows L2 PySem.W Builtin Builtin.ObjectAttr Builtin.Getset_descriptor
theorem EZ {K:Frag}{M:Model}{h:Heap}{x D:Addr}{name:Str}{a g:Value}(X:K.In h)(ha:findIn K (.ref D) name=some (some a))(hn:specialIn K a "__get__"=some (some g))(ht:takesIn K a=some true):Looks M h (find (.ref x) (.ref D) name) (.bind g a):=by
 have l1:=looks_findIn (M:=M) X ha
 have l2:Looks M h (getOf (some a)) (some g):=looks_specialIn X hn
 have l3:Looks M h (dataDescriptor? (some a) (some g)) (some (g,a)):=(looks_takesIn X ht).andThen .now;exact l1.andThen (l2.andThen (l3.andThen (Looks.tag .now)))
theorem AA {prog:Program}{w:World}{A:Around}{K:Frag}{x D:Addr}{tp:Value}{R:Result->Shared->Prop}{s:Shared}(X:K.In s.heap)(T:Looks (model prog w) s.heap (typeOf (.ref x)) (.ref D))(hm:mroIn K D (.type "object")=some true)
  (q:R (.ok (.ret (.ref D))) s):codeAny (model prog w) A (.call (.builtin "getset_descriptor.__get__") ⟨[.builtin "object.__class__",.ref x,tp],[]⟩) R s:=by
 obtain⟨h0,g0,d0,t0,o0⟩:=s;have l4:=looks_mroIn (M:=model prog w) X hm;refine codeAny_call_builtin KF.slot_gs.plain KF.entry_gs (KF.slot_gs.check _ _ _ _ _ _ _ _ KF.type_class (KF.args_gs _ _ _) ?_);unfold Builtin.«getset_descriptor.__get__» descrGet;rw[dga_obj];refine wpAny_bind (wpAny_pure ?_)
 unfold descrGetter descrCheckInstance descrNameAndClass isInstance;simp only[KF.owner_class];repeat lk
 refine⟨Code.quiet_builtin _ (by decide +kernel),codeAny_builtin KF.entry_class ?_⟩;unfold Builtin.«object.__class__» shownTypeOf
 repeat lk
 exact q
theorem zbf {prog:Program}{w:World}{A:Around}{E:Value->Shared->Prop}{K:Frag}{x D:Addr}{Q:Option Value->Shared->Prop}{s:Shared}(X:K.In s.heap)(T:Looks (model prog w) s.heap (typeOf (.ref x)) (.ref D))
  (hga:findIn K (.ref D) "__getattribute__"=some (some (.builtin "BaseException.__getattribute__")))(hk:findIn K (.ref D) "__getattr__"=some none)(ha:findIn K (.ref D) "__class__"=some (some (.builtin "object.__class__")))
  (hn:specialIn K (.builtin "object.__class__") "__get__"=some (some (.builtin "getset_descriptor.__get__")))(ht:takesIn K (.builtin "object.__class__")=some true)(hm:mroIn K D (.type "object")=some true)(hb:mroIn K D (.type "BaseException")=some true)
  (q:Q (some (.ref D)) { s with toks:=s.toks+1 }):wpAny (model prog w) A (getAttr? (.ref x) "__class__") Q E s:=by
 obtain⟨h0,g0,d0,t0,o0⟩:=s;have l1:=looks_findIn (M:=model prog w) X hga
 have l2:=looks_findIn (M:=model prog w) X hk
 have l3:=EZ (M:=model prog w) (x:=x) X ha hn ht
 have l5:=looks_mroIn (M:=model prog w) X hb
 have f3:=F.excAttr_ValueError.ga.bind (.ref x);unfold getAttr? getAttrBy?;unfold getAttrBy;refine wpAny_bind (wpAny_mkText (wpAny_bind (wpAny_attempt (wpAny_holding (wpAny_bind (T.at (wpAny_bind (l1.at ?_))))))));dsimp only;have other:("BaseException.__getattribute__" == "object.__getattribute__")=false:=by decide +kernel
 rw[if_neg (λz=>by
  have y:=(wW.mp z).2
  have y2:"BaseException.__getattribute__"="object.__getattribute__":=Value.builtin.inj (beq_iff_eq.mp y);rw[y2] at other;simp at other)]
 unfold getAttrByItsOwn hookBefore;refine wpAny_bind ?_
 lk
 lk
 refine wpAny_bind (wpAny_attempt ?_);refine wpAny_holding ?_;show wpAny _ _ (boundAndCalled _ _ _) _ _ _
 unfold boundAndCalled;refine wpAny_bind (wpAny_of_eq f3 ?_);refine wpAny_call (codeAny_call_builtin F.excAttr_ValueError.ga.plain F.entry_bexc_ga ?_);have k1:builtinKind "BaseException.__getattribute__"=some .slot:=by decide +kernel
 have k2:splitId "BaseException.__getattribute__"=some ("BaseException","__getattribute__"):=by decide +kernel
 have k3:=F.args_bexc_ga (.ref x) (.str "__class__" t0)
 have li:Looks (model prog w) h0 (isInstance (.ref x) (.type "BaseException")) true:=T.andThen l5;simp only[checkBuiltinCall,k1,k2];refine wpAny_bind (li.at ?_);rw[if_neg ⋯];have go:wpAny (model prog w) A.in1 («object.__getattribute__» ⟨[.ref x,.str "__class__" t0],[]⟩) (λaR s'=>aR=.done (.ret (.ref D))/\s'=⟨h0,g0,d0,t0+1,o0⟩) (λ_ _=>False) ⟨h0,g0,d0,t0+1,o0⟩:=by
  unfold «object.__getattribute__»;refine wpAny_bind (wpAny_pure (wpAny_bind (wpAny_pure (wpAny_bind (T.at ?_)))));refine wpAny_bind (l3.at ?_);show wpAny _ _ (holding [Value.builtin "object.__class__"] (call (.builtin "getset_descriptor.__get__") [.builtin "object.__class__",.ref x,.ref D]) >>= ret) _ _ _;exact wpAny_bind (wpAny_holding (wpAny_call (AA (s:=⟨h0,g0,d0,t0+1,o0⟩) X T hm (wpAny_pure ⟨rfl,rfl⟩))))
 have step:∀ {P:Unit->Shared->Prop} {E':Value->Shared->Prop},P Unit.unit ⟨h0,g0,d0,t0+1,o0⟩->wpAny (model prog w) A.in1 (match Manifest.signature? "BaseException.__getattribute__" with
   | some sig=>Bind.checkArgs "BaseException.__getattribute__" sig ⟨[.ref x]++[.str "__class__" t0],[]⟩
   | _=>pure Unit.unit) P E' ⟨h0,g0,d0,t0+1,o0⟩:=λ{P E'} hp=>by
  unfold argsOk at k3;split
  .rename_i sig hsig;simp only[hsig] at k3;exact wpAny_of_eq k3 hp
  .exact wpAny_pure hp
 refine step (wpAny_mono go (λaR s' z=>?_) λ_ _ z=>z.elim);obtain⟨e1,e2⟩:=z;subst e1 e2;exact handed_on rfl (wpAny_pure q)
structure Nx (K:Frag)(D:Addr):Prop where
 ga:findIn K (.ref D) "__getattribute__"=some (some (.builtin "BaseException.__getattribute__"))
 hk:findIn K (.ref D) "__getattr__"=some none
 ha:findIn K (.ref D) "__class__"=some (some (.builtin "object.__class__"))
 hn:specialIn K (.builtin "object.__class__") "__get__"=some (some (.builtin "getset_descriptor.__get__"))
 ht:takesIn K (.builtin "object.__class__")=some true
 hm:mroIn K D (.type "object")=some true
 hb:mroIn K D (.type "BaseException")=some true
theorem zdP {K:Frag}{x D:Addr}(n:Nx K D):KitX K (.ref x) (.ref D) (λh=>∃o,h.get? x=some o/\o.cls=.ref D):=by
 have ty:∀(M:Model)(h:Heap),K.In h->(∃o,h.get? x=some o/\o.cls=.ref D)->Looks M h (typeOf (.ref x)) (.ref D):=λM h _ p=>by
  obtain⟨o,h1,h2⟩:=p;rw[<- h2];exact(Looks.ld h1).andThen .now
 have cl:∃oc od cd sl,K.lookup D=some ⟨oc,od,.cls cd,sl⟩:=by
  obtain⟨cd,e,_⟩:=vH.mp n.hm;unfold clsIn at e;split at e
  .rename_i oc od cd' sl ho;exact⟨oc,od,cd',sl,ho⟩
  .cases e
 obtain⟨oc,od,cd,sl,ho⟩:=cl;refine⟨ty,λM h X _=>?_,λh tp dd aQ k sl' X htp=>?_,λ{prog w A E Q s} X p q=>zbf X (ty _ _ X p) n.ga n.hk n.ha n.hn n.ht n.hm n.hb q⟩
 .intro A' Q' E' s' k z;unfold isType loadHead;exact wpAny_bind (wpAny_loadPart (k _ _ (X _ _ ho)) (wpAny_pure z))
 .refine Bool.eq_false_iff.mpr λz=>?_
  have e:D=tp:=Value.ref.inj (beq_iff_eq.mp z);subst e;have y:=(X _ _ ho).symm.trans htp;cases y
section
variable {X:Cx}{Z:Zx}
@[irreducible] def Qo (ans:Addr->Option Bool)(te:TDE):TDE:=λdl S Q=>te dl S λd S1=>match d with
 | .exc c=>match ans c with
  | some b=>Q (.bl b) S1
  | none=>False
 | _=>False
def Hz (K:Fg)(vc:V)(cv:Value):List V->Hp->VK->Prop:=λxs H Qv=>∃a c b,xs=[.ref a,vc]/\H a=some (isX a c)/\W.kitOne K (.ref c) cv=some b/\Nx K c/\Qv (.bl b) H
theorem Cs (hv:∀u,Zm vc u->u=cv):YJ X (.builtin "isinstance") (Hz X.K vc cv):=by
 intro aA s σ H xs us Q I rv h;obtain⟨a,c,b,rfl,h1,h2,nx,q⟩:=h;obtain⟨u,w',rfl,r1,r2⟩:=Iz rv;cases r1;have e:=hv w' r2;subst e;have ob:∃o,s.heap.get? a=some o/\o.cls=.ref c:=(I.hok a _ h1).1;exact kia_one (zdP nx) I.kIn ob h2 (λz=>nomatch z) λtk=>⟨.bl b,H,I.tok tk,rfl,q⟩
theorem zcj (hy:∀c b,ans c=some b->W.kitOne X.K (.ref c) cv=some b/\Nx X.K c)(h:up X.K Z (Qo ans te) σ H Qv):
  up X.K Z te σ H λv H1=>Hz X.K vc cv [v,vc] H1 Qv:=by
 obtain⟨r,dl,S,Q,rs,aS,h,ret⟩:=h;unfold Qo at h;refine⟨r,dl,S,_,rs,aS,h,λv H1 r1 d S1 e1 aB p1 h1=>?_⟩;cases p1 with
 | @exc c a hx=>
  dsimp only at h1;split at h1
  .rename_i b eb;obtain⟨y1,y2⟩:=hy c b eb;exact⟨a,c,b,rfl,hx,y1,y2,ret _ _ _ _ _ e1 aB (.bl _) h1⟩
  .exact h1.elim
 | _=>exact(show False from h1).elim
theorem KG (hy:∀c b,ans c=some b->W.kitOne X.K (.ref c) (.ref C)=some b/\Nx X.K c)(hg:Gl X "isinstance")(hm:X.mg "isinstance"=none)(hg2:Gl X y)(hm2:X.mg y=some (.ref C))(ha:PD X Z e te)(hv:bootBuiltins "isinstance"=some (.builtin "isinstance"):=by exact PyProof.Rows.Boot.«isinstance»)(hd2:(y==("__debug__":Str))=false:=by decide)(he2:starEach [e,.Name y p2] X.env=(false,eval e X.env)::starEach [.Name y p2] X.env:=by rfl)(he3:starEach [.Name y p2] X.env=(false,eval (.Name y p2) X.env)::starEach [] X.env:=by rfl)(hpl:(backTo pos (starEach [.Name y p2] X.env)).any (·.1)=false:=by rfl):
  PD X Z (.Call (.Name "isinstance" p) [e,.Name y p2] [] pos) (Qo ans te):=
 ZO (PV (Cs (vc:=.ref C) (cv:=.ref C) λu r=>r) hg hm hv (Vf ha (Vf (Th (v:=.ref C) hg2 hm2 rfl hd2) UB he3) he2) ⋯ ⋯ he2 hpl) λσ H Qv h=>zcj hy h
end
def eqN:Nat->D->D->Option Bool
 | 0=>eqF
 | k+1=>eqT (eqN k)
theorem El:∀k,TF (eqN k)
 | 0=>SE
 | k+1=>FH (El k)
theorem UY:∀k,Uo k (eqN k)
 | 0=>Mu 0
 | k+1=>Eh (UY k) (El k)
def Vd (k:Nat)(S:Sto):D->D->Option Bool
 | .ref n,.ref m=>match lAt S n,lAt S m with
  | some o,some o'=>eqL (eqN k) (ZC o) (ZC o')
  | _,_=>none
 | x,y=>eqN (k+1) x y
def U8 (k:Nat):W2:=λx y S Q=>match Vd k S x y with
 | some b=>Q (.bl b) S
 | none=>False
def VC (k:Nat):W2:=λx y S Q=>match Vd k S x y with
 | some b=>Q (.bl (!b)) S
 | none=>False
section
variable {X:Cx}{Z:Zx}
theorem zaQ {k n m:Nat}{a a':Addr}{o o':Ob}{b:Bool}{aA:LA}{σ:St}{H:Hp}{s:Shared}{r:List Addr}{S:Sto}(I:Inv X aA σ H s)(aS:Rel X.K Z r S H)(hn:r[n]?=some a)(hm:r[m]?=some a')(eo:lAt S n=some o)(eo':lAt S m=some o')
  (e:eqL (eqN k) (ZC o) (ZC o')=some b)(hu:X.A.units+1+k<cLine):SeqAt.RcAt X.A s (.ref a) (.ref a') b:=by
 obtain⟨eo,eL⟩:=XM eo;obtain⟨eo',eL'⟩:=XM eo';obtain⟨z,hz,ob⟩:=aS.at eo;rw[hn] at hz;cases hz
 obtain⟨z,hz,ob'⟩:=aS.at eo';rw[hm] at hz;cases hz
 obtain⟨xs,sq,pr⟩:=ob.list eL;obtain⟨ys,sq',pr'⟩:=ob'.list eL';obtain⟨is,ri,pl,_⟩:=I.list sq;obtain⟨js,rj,pl',_⟩:=I.list sq';obtain⟨g1,g2⟩:=RA (A:=X.A.in1) (UY k) I (by show X.A.units+1+k<_;lia) pr pr' ri rj e;by_cases hs:is.toArray.size=js.toArray.size
 .have q:=SeqAt.RcAt.lists (A:=X.A) pl.isList pl'.isList hs () g1
  have e2:(List.range is.toArray.size).all (Ww (eqN k) (ZC o) (ZC o'))=b:=by
   rw[<- g2,<- hs,Nat.min_self];simp
  rw[e2] at q;exact q
 .have q:=SeqAt.RcAt.lists_lengths (A:=X.A) pl.isList pl'.isList (by simpa using hs) ()
  have e2:b=false:=by
   rw[<- g2,show (is.toArray.size==js.toArray.size)=false by simpa using hs,xO]
  rw[e2];exact q
theorem Av (k:Nat)(hr:ZG j X.A)(hu:X.A.units+1+k<cLine):OpR X (compareOp .Eq) (upO X.K Z (U8 k)):=by
 intro aA s σ H x y v u Qv I rx ry h;obtain⟨r,S,dx,dy,Q,aS,px,py,q,ret⟩:=h;have ZM:∀ {dx dy:D} {x y:V},Rp r H dx x->Rp r H dy y->Zm x v->Zm y u->Vd k S dx dy=eqN (k+1) dx dy->U8 k dx dy S Q->wpAny (mX X) X.A (compareOp .Eq v u) (EP X aA σ Qv) X.xe s:=λpx py rx ry e q=>by
  refine IL (Z:=Z) (UY k) hu aA s σ H _ _ v u Qv I rx ry ⟨r,S,_,_,Q,aS,px,py,?_,ret⟩;unfold U8 at q;rw[e] at q;exact q
 cases px with
 | @ref n a hn=>
  cases py with
  | @ref m a' hm=>
   cases rx;cases ry;unfold U8 Vd at q;dsimp only at q;split at q
   .rename_i b e;split at e
    .rename_i o o' eo eo';exact zaQ I aS hn hm eo eo' e hu X.prog X.w X.xe _ ⟨.bl b,H,I,rfl,ret _ _ _ _ _ Ext.refl aS (.bl b) q⟩
    .cases e
   .exact q.elim
  | non=>exact ZM (.ref hn) .non rx ry rfl q
  | bl i=>exact ZM (.ref hn) (.bl i) rx ry rfl q
  | int i=>exact ZM (.ref hn) (.int i) rx ry rfl q
  | str i=>exact ZM (.ref hn) (.str i) rx ry rfl q
  | tup a b c=>exact ZM (.ref hn) (.tup a b c) rx ry rfl q
  | exc a=>exact ZM (.ref hn) (.exc a) rx ry rfl q
 | non=>exact ZM .non py rx ry rfl q
 | bl i=>exact ZM (.bl i) py rx ry rfl q
 | int i=>exact ZM (.int i) py rx ry rfl q
 | str i=>exact ZM (.str i) py rx ry rfl q
 | tup a b c=>exact ZM (.tup a b c) py rx ry rfl q
 | exc a=>exact ZM (.exc a) py rx ry rfl q
def XI (f:D->D->Option Bool):List D->D->Option Bool
 | [],_=>some false
 | y::ys,x=>match f y x,XI f ys x with
  | some b,some c=>some (b||c)
  | _,_=>none
def wIn (k:Nat)(neg:Bool):W2:=λx y S Q=>match y with
 | .ref n=>match lAt S n with
  | some o=>match XI (eqN k) (ZC o) x with
   | some b=>Q (.bl (if neg then !b else b)) S
   | none=>False
  | none=>False
 | _=>False
theorem FV (h:Zm v u)(h':Zm v' u):v=v':=by
 cases v<;>cases v'<;>simp[L2.Zm] at h h'<;>first
  | rfl
  | (subst h;simp at h';subst h';rfl)
  | (obtain⟨t,rfl⟩:=h;simp at h';subst h';rfl)
  | (obtain⟨t,rfl⟩:=h;simp at h')
  | (subst h;simp at h')
  | skip
theorem RD {r:List Addr}{H:Hp}{d d' x:D}{v:V}{b b':Bool}(p:Rp r H d v)(p':Rp r H d' v)(e:eqF d x=some b)(e':eqF d' x=some b'):b=b':=by
 have z:d=d':=by
  cases p<;>cases p'<;>first
   | rfl
   | (cases x<;>simp[eqF] at e)
   | (cases x<;>simp[eqF] at e')
 subst z;rw[e] at e';exact Option.some.inj e'
theorem HZ {f:D->D->Option Bool}{r:List Addr}{H:Hp}(hf:∀(d d' x:D)(v:V)(b b':Bool),Rp r H d v->Rp r H d' v->f d x=some b->f d' x=some b'->b=b'):
  ∀ {ds ds' zs:List D} {vs:List V} {b b':Bool},Rps r H ds vs->Rps r H ds' vs->eqL f ds zs=some b->eqL f ds' zs=some b'->b=b'
 | [],ds',zs,vs,b,b',p,p',e,e'=>by
  have z:=p.unnil;subst z;cases ds' with
  | nil=>rw[e] at e';exact Option.some.inj e'
  | cons y ys=>exact absurd p'.1 (by simp)
 | d::ds,ds',zs,vs,b,b',p,p',e,e'=>by
  obtain⟨v,vs',rfl,p1,p2⟩:=p.uncons;cases ds' with
  | nil=>exact absurd p'.1 (by simp)
  | cons d' ds'=>
   obtain⟨q1,q2⟩:=p'.tail;cases zs with
   | nil=>
    simp only[eqL,Option.some.injEq] at e e';exact e.symm.trans e'
   | cons z zs=>
    unfold eqL at e e';split at e
    .rename_i b1 c1 a1 a2;split at e'
     .rename_i b2 c2 a3 a4;have h1:=hf d d' z v b1 b2 p1 q1 a1 a3
      have h2:=HZ hf p2 q2 a2 a4;subst h1 h2;simp only[Option.some.injEq] at e e';exact e.symm.trans e'
     .cases e'
    .cases e
theorem Kc:∀(k:Nat) {r:List Addr} {H:Hp} (d d' x:D) (v:V) (b b':Bool),Rp r H d v->Rp r H d' v->eqN k d x=some b->eqN k d' x=some b'->b=b'
 | 0,r,H,d,d',x,v,b,b',p,p',e,e'=>RD p p' e e'
 | k+1,r,H,d,d',x,v,b,b',p,p',e,e'=>by
  cases p with
  | tup h1 l1 f1=>
   cases p' with
   | tup h2 l2 f2=>
    rw[h1] at h2;cases h2
    cases x with
    | tup zs=>exact HZ (λd d' x v b b'=>Kc k d d' x v b b') ⟨l1,f1⟩ ⟨l2,f2⟩ e e'
    | _=>simp[eqN,eqT,eqF] at e
   | ref h=>cases x<;>simp[eqN,eqT,eqF] at e'
   | exc h=>cases x<;>simp[eqN,eqT,eqF] at e'
  | non=>exact RD (x:=x) .non p' (by cases x<;>exact e) (by cases p'<;>cases x<;>exact e')
  | bl i=>exact RD (x:=x) (.bl i) p' (by cases x<;>exact e) (by cases p'<;>cases x<;>exact e')
  | int i=>exact RD (x:=x) (.int i) p' (by cases x<;>exact e) (by cases p'<;>cases x<;>exact e')
  | str i=>exact RD (x:=x) (.str i) p' (by cases x<;>exact e) (by cases p'<;>cases x<;>exact e')
  | ref h=>cases x<;>simp[eqN,eqT,eqF] at e
  | exc h=>cases x<;>simp[eqN,eqT,eqF] at e
theorem Ie:∀ {ys:List D} {b:Bool},XI f ys x=some b->(∀y∈ys,∃c,f y x=some c)/\(b=true↔∃y∈ys,f y x=some true)
 | [],b,e=>by
  simp only[XI,Option.some.injEq] at e;subst e;simp
 | y::ys,b,e=>by
  unfold XI at e;split at e
  .rename_i b1 c1 e1 e2;obtain⟨h1,h2⟩:=Ie e2;simp only[Option.some.injEq] at e;subst e;refine⟨λz hz=>?_,?_⟩
   .rcases zB.mp hz with rfl|hz'
    .exact⟨b1,e1⟩
    .exact h1 z hz'
   .rw[Bool.or_eq_true,h2];refine⟨λq=>?_,λ⟨z,hz,q⟩=>?_⟩
    .rcases q with q|⟨z,hz,q⟩
     .exact⟨y,zV,by rw[e1,q]⟩
     .exact⟨z,zO _ hz,q⟩
    .rcases zB.mp hz with rfl|hz'
     .left
      rw[e1] at q;exact Option.some.inj q
     .exact .inr ⟨z,hz',q⟩
  .cases e
theorem GB {k:Nat}{aA:LA}{σ:St}{H:Hp}{s:Shared}{r:List Addr}{A:Around}{ds:List D}{vs:List V}{us:List Value}{dx:D}{x:V}{u:Value}{b:Bool}(I:Inv X aA σ H s)(hu:A.units+k<cLine)
  (p:Rps r H ds vs)(rv:Zt vs us)(px:Rp r H dx x)(rx:Zm x u)(e:XI (eqN k) ds dx=some b):∃g:Value->Bool,(∀y,y∈us.toArray->SeqAt.EqAt A s y u (g y))/\us.toArray.any g=b:=by
 obtain⟨h1,h2⟩:=Ie e;have at_:∀y∈us,∃d v,d∈ds/\Rp r H d v/\Zm v y:=λy hy=>by
  obtain⟨j,hj,ej⟩:=yW.mp hy;have hv:j<vs.length:=by rw[rv.length];exact hj
  have gv:vs[j]?=some vs[j]:=by simp[hv]
  obtain⟨w,gw,rw'⟩:=rv.get gv;obtain⟨d,gd,pd⟩:=p.get' gv;have ew:w=y:=by
   rw[zD hj,ej] at gw;exact(Option.some.inj gw).symm
  subst ew;exact⟨d,_,zT gd,pd,rw'⟩
 classical
 refine⟨λy=>decide (∃d v,d∈ds/\Rp r H d v/\Zm v y/\eqN k d dx=some true),λy hy=>?_,?_⟩
 .obtain⟨d,v,hd,pd,rd⟩:=at_ y (by simpa using hy);obtain⟨c,hc⟩:=h1 d hd;have same:decide (∃d v,d∈ds/\Rp r H d v/\Zm v y/\eqN k d dx=some true)=c:=by
   cases c with
   | true=>exact decide_eq_true ⟨d,v,hd,pd,rd,hc⟩
   | false=>
    refine decide_eq_false λ⟨d',v',_,pd',rd',hc'⟩=>?_
    have ev:=FV rd rd';subst ev;exact absurd (Kc k d d' dx v false true pd pd' hc hc') ⋯
  show SeqAt.EqAt A s y u (decide _);rw[same];exact UY k X aA σ H s r A d dx v x y u c I hu pd px rd rx hc
 .rw[yP,h2,List.any_toArray,vQ];refine⟨λ⟨y,hy,q⟩=>?_,λ⟨d,hd,q⟩=>?_⟩
  .obtain⟨d,v,hd,_,_,q'⟩:=of_decide_eq_true q;exact⟨d,hd,q'⟩
  .obtain⟨j,hj,ej⟩:=yW.mp hd;have gd:ds[j]?=some d:=by simp[hj,ej]
   obtain⟨v,gv,pv⟩:=p.get gd;obtain⟨w,gw,rw'⟩:=rv.get gv;exact⟨w,zT gw,decide_eq_true ⟨d,v,hd,pv,rw',q⟩⟩
theorem Fz (k:Nat)(hu:X.A.units+1+k<cLine):OpR X (compareOp .In) (upO X.K Z (wIn k false)):=by
 intro aA s σ H x y v u Qv I rx ry h;obtain⟨r,S,dx,dy,Q,aS,px,py,q,ret⟩:=h;cases py with
 | @ref n a hn=>
  unfold wIn at q;dsimp only at q;split at q
  .rename_i o eo;split at q
   .rename_i b eb;cases ry;obtain⟨eo,eL⟩:=XM eo;obtain⟨a',ha,ob⟩:=aS.at eo;rw[hn] at ha;cases ha
    obtain⟨ys,sq,pr⟩:=ob.list eL;obtain⟨us,ru,pl,_⟩:=I.list sq;obtain⟨g,g1,g2⟩:=GB (A:=X.A.in1) I (by show X.A.units+1+k<_;lia) pr ru px rx eb;refine SeqAt.in_listAt g pl.isList g1 ?_;rw[g2];exact⟨.bl b,H,I,rfl,ret _ _ _ _ _ Ext.refl aS (.bl b) q⟩
   .exact q.elim
  .exact q.elim
 | _=>exact(show False from q).elim
end
section
variable {X:Cx}{Z:Zx}{pos:Pos}
def UP:List Nat->List D->Ev->Ev
 | i::is,d::ds,dl=>UP is ds (dl.set i (some d))
 | _,_,dl=>dl
def Pz:List Nat->List V->St->St
 | i::is,v::vs,σ=>Pz is vs (σ.set i (some v))
 | _,_,σ=>σ
theorem Jb {r:List Addr}{H:Hp}:∀ {is:List Nat} {ds:List D} {vs:List V} {dl:Ev} {σ:St},Rs r H dl σ->Rps r H ds vs->Rs r H (UP is ds dl) (Pz is vs σ)
 | [],ds,vs,dl,σ,h,p=>by cases ds<;>cases vs<;>exact h
 | i::is,[],vs,dl,σ,h,p=>by
  have z:=p.unnil;subst z;exact h
 | i::is,d::ds,vs,dl,σ,h,p=>by
  obtain⟨v,vs',rfl,p1,p2⟩:=p.uncons;show Rs r H (UP is ds (dl.set i (some d))) (Pz is vs' (σ.set i (some v)));exact Jb (Rs.set i h p1) p2
inductive Nms (X:Cx):List Expr->List Nat->Prop
 | nil:Nms X [] []
 | cons {x:Str} {p:Pos} {i:Nat} {es:List Expr} {is:List Nat}:X.N[i]?=some x->Loc X.env.scope x->(X.fn x=true\/X.env.scope.names.lookup x=some .local)->Nms X es is->Nms X (.Name x p::es) (i::is)
def gAll (is:List Nat):TGs:=λvs σ H Q=>vs.length=is.length/\Q (Pz is vs σ) H
theorem Ms (hN:X.N.Nodup):∀ {es:List Expr} {is:List Nat},Nms X es is->PGs X es (gAll is)
 | _,_,.nil=>λaA s σ H vs us Q I r h=>by
  obtain⟨e,h⟩:=h;have z:vs=[]:=by simpa using e
  subst z;exact AW aA s σ H [] us Q I r ⟨rfl,h⟩
 | _,_,.cons (x:=x) (p:=p) (es:=es) (is:=is) h1 h2 h3 t=>λaA s σ H vs us Q I r h=>by
  obtain⟨e,h⟩:=h;cases vs with
  | nil=>simp at e
  | cons v vs=>exact zde (Nk hN h1 h2 h3) (Ms hN t) rfl aA s σ H (v::vs) us Q I r ⟨v,vs,rfl,by simpa using e,h⟩
def OR:W2:=λx y S Q=>match x,y with
 | .str i,.str j=>(i.length+j.length<=1000)/\Q (.str (i++j)) S
 | _,_=>False
theorem Xr:OpR X (binaryOp .Add) (upO X.K Z OR):=SW zcy λx y H Qv ⟨r,S,dx,dy,Q,aS,px,py,q,ret⟩=>by
 cases px<;>cases py<;>first
  | exact⟨_,_,rfl,rfl,XW q.1,ret _ _ _ _ _ Ext.refl aS (.str _) q.2⟩
  | exact(show False from q).elim
def wIxS:W2:=λx y S Q=>match x,y with
 | .str z,.int i=>∃c,(0<=i/\i<2^63/\i<z.length)/\z.cps[i.toNat]?=some c/\Q (.str ⟨#[c]⟩) S
 | _,_=>False
theorem IE (ha:PD X Z a ta)(hb:PD X Z b tb)(hs:Gj b):PD X Z (.Subscript a b pos) (dOp wIxS ta tb):=
 ZO (Cc ha hb hs) λσ H Qv h=>by
  obtain⟨r,dl,S,Q,rs,aS,h,ret⟩:=h;refine⟨r,dl,S,_,rs,aS,h,λv H1 r1 dx S1 e1 aB p1 h1=>⟨r1,dl,S1,_,rs.ext e1,aB,h1,λv2 H2 r2 dy S2 e2 aC p2 h2=>?_⟩⟩;cases p1 with
  | str z=>
   cases p2 with
   | int i=>
    obtain⟨c,⟨b1,b2,b3⟩,hc,q⟩:=h2;exact⟨z,i,c,rfl,rfl,b1,b2,b3,hc,ret _ _ _ _ _ (e1.trans e2) aC (.str _) q⟩
   | _=>exact(show False from h2).elim
  | _=>exact(show False from h2).elim
end
open PySem L2
theorem Ba (S:Sto)(o u:Ob):(S++[o]).set S.length u=S++[u]:=by simp
theorem JY {to te:TDE}{dl:Ev}{S T:Sto}{Q:DK}{xs:List D}{y:D}(hto:∀K:DK,K (.ref S.length) (S++[.lst xs])->to dl T K)(hte:∀K:DK,K y (S++[.lst xs])->te dl (S++[.lst xs]) K)(hl:xs.length<1000)(hq:Q .non (S++[.lst (xs++[y])])):UW to te dl T Q:=
 Wy hto (Zz _ _) hte hl (by rw[Ba];exact hq)
section
variable {X:Cx}{Z:Zx}
end
def GH:Sd:=λ_ _ _ _=>False
noncomputable def Df.never {P:Program}{w:World}{K:Fg}{mg:Str->Option Value}{base:Heap}{x:Str}{st:Stmt}{ps:List Str}(k:Nat)(d:Df K mg x st ps):Fk P w K mg base k x ps GH:=
 ⟨d.f,d.fd,⟨λ_ _ _ _ ⟨_,_,_,_,_,_,_,z,_⟩=>z.elim,λ_ _ _ _ _ _ _ _ _ _ _ _ _ ⟨_,_,_,_,_,_,_,z,_⟩=>z.elim⟩,d.m,d.F.kp,d.b⟩
section
variable {X:Cx}{Z:Zx}{pos:Pos}
def EE:WC:=λds S Q=>match ds with
 | [.str x]=>x.length<=1000/\Q (.int x.length) S
 | _=>False
theorem EM:YJ X (.builtin "len") (upC X.K Z EE):=SJ CF λxs H Qv ⟨r,S,ds,Q,aS,ps,q,ret⟩=>by
 unfold EE at q;split at q
 .obtain⟨v,vs,rfl,p1,p2⟩:=ps.uncons;have z:=p2.unnil;subst z;cases p1;exact⟨_,rfl,XW q.1,ret _ _ _ _ _ Ext.refl aS (.int _) q.2⟩
 .exact q.elim
def wInS:W2:=λx y S Q=>match x,y with
 | .str i,.str j=>∃c,i=⟨#[c]⟩/\Q (.bl (decide (c∈j.cps.toList))) S
 | _,_=>False
theorem zbt:OpR X (compareOp .In) (upO X.K Z wInS):=SW zaG λx y H Qv ⟨r,S,dx,dy,Q,aS,px,py,q,ret⟩=>by
  cases px<;>cases py<;>first
    | (obtain⟨c,rfl,q⟩:=q
       exact⟨_,_,rfl,rfl,by rw[StrLaws.found_one];exact ret _ _ _ _ _ Ext.refl aS (.bl _) q⟩)
    | exact(show False from q).elim
theorem MV (hm:X.mg x=some (.str z t))(hg:Gl X x)(hd:(x==("__debug__":Str))=false:=by decide):PD X Z (.Name x p) (dC (.str z)):=
 ZO (Th hg hm (v:=.str z) ⟨t,rfl⟩ hd) λσ H Qv ⟨r,dl,S,Q,rs,aS,h,ret⟩=>ret _ H r (.str z) S Ext.refl aS (.str z) h
theorem Vs (hm:X.mg x=some (.int i t))(hg:Gl X x)(hd:(x==("__debug__":Str))=false:=by decide):PD X Z (.Name x p) (dC (.int i)):=
 ZO (Th hg hm (v:=.int i) ⟨t,rfl⟩ hd) λσ H Qv ⟨r,dl,S,Q,rs,aS,h,ret⟩=>ret _ H r (.int i) S Ext.refl aS (.int i) h
def GT (K:Fg)(mg:Str->Option Value)(x:Str)(ws:List Str):Prop:=
 ∃(a:Addr)(o:Obj)(aQ:Array Value)(n:Nat),mg x=some (.ref a)/\K.lookup a=some o/\o.cls=.type "tuple"/\o.data=.seq aQ n/\aQ.size<=sizeLine/\Zt (ws.map V.str) aQ.toList
theorem LI (w:Str):∀ws:List Str,inV (.str w) (ws.map V.str)=ws.any (·==w)
 | []=>rfl
 | a::r=>by
  have ih:=LI w r;unfold inV at ih ⊢;rw[zL,yN,yN,ih];rfl
theorem Jy:∀ws:List Str,(ws.map V.str).all WT=true
 | []=>rfl
 | a::r=>by
  rw[zL,xC,Jy r];rfl
def zeI (ws:List Str)(ta:TDE):TDE:=λdl S Q=>ta dl S λd S1=>match d with
 | .str w=>Q (.bl (!ws.any (·==w))) S1
 | _=>False
theorem Bp (hG:GT X.K X.mg x ws)(hg:Gl X x)(ha:PD X Z a ta)(hd:(x==("__debug__":Str))=false:=by decide):PD X Z (.Compare a [.NotIn] [.Name x p] pos) (zeI ws ta):=by
 obtain⟨b,o,aQ,n,hm,hk,hc,hdt,hz,hv⟩:=hG;refine ZO (F6 zc6 ha (Th (v:=.ref b) hg hm rfl hd) rfl) λσ H Qv ⟨r,dl,S,Q,rs,aS,h,ret⟩=>⟨r,dl,S,_,rs,aS,h,λv H1 r1 d S1 e1 aB p1 q1=>?_⟩
 cases p1 with
 | str w=>
  refine⟨b,ws.map V.str,rfl,.inr (.inr ⟨o,aQ,n,hk,hc,hdt,hz,hv⟩),rfl,Jy ws,?_⟩;show Qv (.bl (!inV (.str w) (ws.map V.str))) H1;rw[LI];exact ret _ H1 r1 (.bl _) S1 e1 aB (.bl _) q1
 | _=>exact(show False from q1).elim
def Its (z:Str):It:=⟨λi _=>i<z.cps.size,λi H x H'=>H'=H/\∃c,z.cps[i]?=some c/\x=.str ⟨#[c]⟩,λi _=>i=z.cps.size⟩
theorem FZ {P:Program}{w:World}{K:Fg}{tg:Expr}{nm:String}{z:Str}{t:Tok}(it:Addr)
  (W:∀A':Around,A'.handled=none->Walks P w A' it [it] [it] z.cps.size (SignAt z) (λi h=>h.IsStrIter it nm z t i))
  (slf:∀(A:Around)(i:Nat)(s:Shared)(Q:Value->Shared->Prop)(E:Value->Shared->Prop),s.heap.IsStrIter it nm z t i->Q (.ref it) s->wpAny (model P w) A (pyIter (.ref it)) Q E s)
  (hn:["enumerate","zip","dict_itemiterator","dict_reverseitemiterator","odict_iterator","itertools.zip_longest","itertools.pairwise"].contains nm=false):
  Qj P w K tg (Its z) [it] it (λi h=>h.IsStrIter it nm z t i) where
 mem:=by simp
 obj:=λi h st b hb=>by
  have e:b=it:=by simpa using hb
  subst e;obtain⟨o,e,c,d⟩:=st;exact⟨o,e,λv y=>by rw[d] at y;cases y⟩
 keep:=λi h h' st k=>by
  obtain⟨o,e,c,d⟩:=st;exact⟨o,k it (by simp) o e,c,d⟩
 item:=by
  intro X hP hw hK hc i aA s σ H E I hf st hg;subst hP hw hK;obtain⟨f0,f1,f2,f3,f4,f5⟩:=hf it (by simp);refine(W X.A (I.ok.hd hc)).item i s _ _ hg st λv h' tk hv st' kk=>?_
  obtain⟨c,u,hcp,rfl⟩:=hv;have I1:Inv X aA σ H { s with heap:=h',toks:=tk }:=I.turned (λb o hb e=>kk b o (by simpa using hb) e) f0 f1 f3 f4 f5;obtain⟨o,e,c1,d⟩:=id st';exact⟨_,rfl,LC (s:={ s with heap:=h',toks:=tk }) e c1 d hn ⟨.str ⟨#[c]⟩,H,I1,⟨u,rfl⟩,⟨rfl,c,hcp,rfl⟩,st',λb hb=>(hf b hb).1⟩⟩
 done:=by
  intro X hP hw hK hc i aA s σ H E I hf st hg;subst hP hw hK;obtain⟨f0,f1,f2,f3,f4,f5⟩:=hf it (by simp);have hi:i=z.cps.size:=hg;subst hi;exact(W X.A (I.ok.hd hc)).done s _ _ st λh' tk kk=>⟨rfl,I.turned (t':=tk) (λb o hb e=>kk b o (by simpa using hb) e) f0 f1 f3 f4 f5⟩
 self:=λA i s Q E st h=>slf A i s Q E st h
def iStr (tl:TE):TI:=λσ H R=>tl σ H λx H1=>∃z,x=.str z/\R (Its z) H1
theorem zaX {tg l:Expr}{tl:TE}(hl:PE X l tl):PI X tg l (iStr tl):=by
 intro aA s σ H R I h;refine thn (hl aA s σ H _ I h) λv s1 ⟨x,H1,I1,r1,q1⟩=>?_
 obtain⟨z,e,q⟩:=q1;subst e;obtain⟨t,rfl⟩:=r1;have fp:∀b∈[s1.heap.objs.size],Xo X aA H1 b:=λb hb=>by
  have e:b=s1.heap.objs.size:=by simpa using hb
  subst e;exact I1.fpOk (zA _) (I1.hok.fresh (zA _))
 cases ha:z.cps.all (·<128)
 .exact wpAny_pyIter_wide ha ⟨s1.heap.objs.size,[s1.heap.objs.size],_,_,H1,rfl,I1.kept (t':=s1.toks) λb o e=>Heap.get?_push_of_some _ e,FZ _ (λA' hA=>Walks.strWide hA _ z t) (λA i s Q E st h=>wpAny_pyIter_striter_wide st h) ⋯,⟨_,Heap.get?_push_size _ rfl,rfl,rfl⟩,fp,q⟩
 .exact wpAny_pyIter_ascii ha ⟨s1.heap.objs.size,[s1.heap.objs.size],_,_,H1,rfl,I1.kept (t':=s1.toks) λb o e=>Heap.get?_push_of_some _ e,FZ _ (λA' hA=>Walks.strAscii hA _ z t) (λA i s Q E st h=>wpAny_pyIter_striter_ascii st h) ⋯,⟨_,Heap.get?_push_size _ rfl,rfl,rfl⟩,fp,q⟩
end
section
variable {X:Cx}{Z:Zx}{aP aO:Expr}{x:Str}{px pos:Pos}{ifs:List Expr}{sc ar:Scope}{N:List Str}{caps:List Nat}
@[irreducible] def QC (caps:List Nat)(tl:TDE)(tc:TDT)(te:TDE):TDE:=λdl S Q=>tl dl S λd S1=>match d with
 | .str z=>∃W:Nat->Sto->Prop,W 0 (S1++[.lst []])/\∀k S2,W k S2->match z.cps[k]? with
  | some c=>Ro caps tc te S1.length dl (.str ⟨#[c]⟩) S2 λS3=>W (k+1) S3
  | none=>k=z.cps.size/\Q (.ref S1.length) S2
 | _=>False
theorem Ax (h:up X.K Z (QC caps tl tc te) σ H Qv):NI caps (iStr (up X.K Z tl)) (upT X.K Z0 tc) (up X.K Z0 te) σ H Qv:=by
 obtain⟨r,dl,S,Q,rs,aS,h,ret⟩:=h;unfold QC at h;refine⟨r,dl,S,_,rs,aS,h,λv H1 r1 d S1 x1 aB p1 q1=>?_⟩;cases p1 with
 | str z=>
  obtain⟨W,w0,turn⟩:=q1;refine⟨z,rfl,λD0 hD=>?_⟩;obtain⟨aC,x2⟩:=aB.b.push (ds:=[]) (xs:=[]) hD Rps.nil;refine⟨λk m H'=>m=z.cps.size-k/\∃r' S',Ext (r1++[D0]) r' (upd H1 D0 (.lst [])) H'/\Z5 X.K r' S' H'/\W k S',⟨z.cps.size,by simp,_,_,Ext.refl,aC,w0⟩,?_⟩;rintro k m H2 ⟨em,r2,S2,x3,rb2,w2⟩;have ha2:r2[S1.length]?=some D0:=x3.adr _ _ (R7 aB.len)
  have q:=turn k S2 w2;split at q
  .rename_i c hc;have hk:k<z.cps.size:=by
    by_cases y:k<z.cps.size
    .exact y
    .rw[Array.getElem?_eq_none ()] at hc;cases hc
   refine .inr ⟨hk,λv' H' y'=>?_⟩;obtain⟨eH,c',hc',y'⟩:=y';subst eH;subst y';have ec:c'=c:=by rw[hc] at hc';exact(Option.some.inj hc').symm
   subst ec;have z:=FX (Nx:=λH'=>∃m',m'<m/\m'=z.cps.size-(k+1)/\∃r' S',Ext (r1++[D0]) r' (upd H1 D0 (.lst [])) H'/\Z5 X.K r' S' H'/\W (k+1) S') (rs.ext (x1.trans (x2.trans x3))) ha2 rb2 (.str ⟨#[c']⟩) q
    λr' S' H' x' rb' w'=>⟨z.cps.size-(k+1),(),rfl,r',S',x3.trans x',rb',w'⟩
   exact z
  .obtain⟨hk,q⟩:=q;exact .inl ⟨hk,ret _ H2 r2 _ S2 (x1.trans (x2.trans x3)) ⟨rb2,aS.xw.ext (x1.trans (x2.trans x3))⟩ (.ref ha2) q⟩
 | _=>exact(show False from q1).elim
theorem zdy (har:X.env.scope=ar)(hc:X.calm=true)(cs:Rc sc ar x N)(hN:Hn X caps N)(hnd:(x::N).Nodup)(hl:PD X Z aO tl)(ht:∀cl C s0 H0 fp pn,PDTs (Cx.comp X sc (x::N) cl C s0 H0 fp pn) ifs tc)(he:∀cl C s0 H0 fp pn,PD (Cx.comp X sc (x::N) cl C s0 H0 fp pn) Z0 aP te)(hs:∀y,foldedSetIterable aO X.env y=pure y:=by intro _;rfl):PD X Z (.ListComp aP [⟨.Name x px,aO,ifs,0⟩] sc pos) (QC caps tl tc te):=by
 subst har;exact ZO (Fo hc cs hN hnd (tc:=upT X.K Z0 tc) (te:=up X.K Z0 te) (zaX hl) ht he hs) λ_ _ _ h=>Ax h
theorem DO {tl te:TDE}{dl:Ev}{S S1:Sto}{Q:DK}{z:Str}(g:Nat->D)(htl:∀K:DK,K (.str z) S1->tl dl S K)(hl:z.cps.size<=1000)
  (ht:∀c∈z.cps.toList,∀(S2:Sto)(K:DK),Pre S1 S2->K (g c) S2->te (some (.str ⟨#[c]⟩)::Wz caps dl) S2 K)(hq:Q (.ref S1.length) (S1++[.lst (z.cps.toList.map g)])):QC caps tl RQ te dl S Q:=by
 unfold QC;refine htl _ ⟨λk S2=>S2=S1++[.lst ((z.cps.toList.take k).map g)]/\k<=z.cps.size,⟨by simp,()⟩,?_⟩;rintro k S2 ⟨rfl,hk⟩;split
 .rename_i c hc;have hk':k<z.cps.size:=by
   by_cases y:k<z.cps.size
   .exact y
   .rw[Array.getElem?_eq_none ()] at hc;cases hc
  have hl':z.cps.toList[k]?=some c:=by simpa using hc
  unfold Ro RQ;simp only[if_true];refine ht c (zT hl') _ _ Pre.refl.push ?_;rw[Zz];refine⟨by simp;lia,?_,()⟩;have e:z.cps.toList.take (k+1)=z.cps.toList.take k++[c]:=by rw[List.take_succ,hl'];rfl
  rw[e,zN,vR _ _ (zA _)];simp
 .rename_i hc;have hk':k=z.cps.size:=by
   by_cases y:k<z.cps.size
   .rw[Array.getElem?_eq_getElem y] at hc;cases hc
   .lia
  refine⟨hk',?_⟩;rw[hk',xP (by simp)];exact hq
end
section
variable {X:Cx}{Z:Zx}{pos:Pos}
def Wh:List D->Option (List Str)
 | []=>some []
 | .str x::r=>(Wh r).map (x::·)
 | _=>none
theorem LD {r:List Addr}{H:Hp}:∀ {ds:List D} {vs:List V} {us:List Value} {zs:List Str},Wh ds=some zs->Rps r H ds vs->Zt vs us->StrsAre us zs
 | [],vs,us,zs,e,p,q=>by
  have z:=p.unnil;subst z;cases q;simp only[Wh,Option.some.injEq] at e;subst e;exact .nil
 | d::ds,vs,us,zs,e,p,q=>by
  obtain⟨v,vs',rfl,p1,p2⟩:=p.uncons;cases p1 with
  | str x=>
   cases q with
   | cons q1 q2=>
    obtain⟨t,rfl⟩:=q1;simp only[Wh,yA] at e;obtain⟨ms,e1,rfl⟩:=e;exact .cons x t (LD e1 p2 q2)
  | _=>simp[Wh] at e
def ZM (zs:List Str):Str:=⟨(zs.flatMap λz=>z.cps.toList).toArray⟩
theorem Cu (sep:Str)(h:sep.length=0):∀zs:List Str,Txt.join sep zs=ZM zs:=by
 have e:sep.cps=#[]:=by
  unfold Str.length at h;exact Array.eq_empty_of_size_eq_zero h
 have key:∀(zs:List Str)(a:Array Nat),zs.foldl (λacc p=>acc++sep.cps++p.cps) a=a++(zs.flatMap λz=>z.cps.toList).toArray:=by
  intro zs
  induction zs with
  | nil=>intro a;simp
  | cons z zs ih=>
   intro a;rw[vS,ih,e,wX];exact Array.ext' (by simp)
 intro zs;show Builtin.Str.glued sep zs=ZM zs;unfold Builtin.Str.glued ZM;cases zs with
 | nil=>rfl
 | cons z zs=>
  rw[List.drop_one,List.tail_cons,List.headD_cons,key,wX];simp
abbrev TDO:=Ev->Sto->(Option Int->Sto->Prop)->Prop
def upP (K:Fg)(Z:Zx)(t:TDO):TO:=λσ H Q=>∃(r:List Addr)(dl:Ev)(S:Sto)(Q':Option Int->Sto->Prop),Rs r H dl σ/\Rel K Z r S H/\t dl S Q'/\∀o H' r' S',Ext r r' H H'->Rel K Z r' S' H'->Q' o S'->Q o H'
def PDO (X:Cx)(Z:Zx)(e:Option Expr)(t:TDO):Prop:=PO X e (upP X.K Z t)
def Hh:TDO:=λ_ S Q=>Q none S
def Fs (t:TDE):TDO:=λdl S Q=>t dl S λd S1=>match d with
 | .int i=>Q (some i) S1
 | _=>False
theorem Hd (h:PO X e t)(g:∀σ H Q,t' σ H Q->t σ H Q):PO X e t':=λaA s σ H Q I q=>h aA s σ H Q I (g σ H Q q)
theorem Ui:PDO X Z none Hh:=Hd zaH λσ H Q ⟨r,dl,S,Q',rs,aS,h,ret⟩=>ret none H r S Ext.refl aS h
theorem WD (he:PD X Z e t):PDO X Z (some e) (Fs t):=Hd (zeg he) λσ H Q ⟨r,dl,S,Q',rs,aS,h,ret⟩=>⟨r,dl,S,_,rs,aS,h,λv H1 r1 d S1 e1 aB p1 q1=>by
 cases p1 with
 | int i=>exact⟨i,rfl,ret (some i) H1 r1 S1 e1 aB q1⟩
 | _=>exact(show False from q1).elim⟩
def dSlS (te:TDE)(tl th:TDO):TDE:=λdl S Q=>te dl S λd S1=>tl dl S1 λl S2=>th dl S2 λu S3=>match d with
 | .str z=>z.length<=1000/\Q (.str (StrLaws.sliceText z l u)) S3
 | _=>False
theorem zdU:SlR X (λx lo hi H Q=>∃z,x=.str z/\z.length<=1000/\Q (.str (StrLaws.sliceText z lo hi)) H):=by
 intro aA s σ H x v vl vu lo hi sl Q I rx hs pl pu h;obtain⟨z,rfl,hz,q⟩:=h;obtain⟨t,rfl⟩:=rx;refine⟨"str",_,PySem.F.slot_str_getitem.lookup,typeIs_str s z t,?_⟩;have part:∀ {v:Value} {o:Option Int},IsPart v o->∃p:Option (Int×Tok),v=partValue p/\p.map (·.1)=o:=λ{v o} p=>by
  cases p with
  | none=>exact⟨none,rfl,rfl⟩
  | int i t=>exact⟨some (i,t),rfl,rfl⟩
 obtain⟨l,rfl,el⟩:=part pl;obtain⟨u,rfl,eu⟩:=part pu;refine wpAny_getItem_str_slice (l:=l) (u:=u) (st:=none) hs rfl ?_;have e:(sliceMade z t l u none).post (EP X aA σ Q) s:=by
  unfold StrLaws.sliceText at q;unfold sliceMade slicePicked;rw[el,eu];split
  .rename_i c;rw[if_pos (show ((1:Int)==1&&(Builtin.Str.strSliceIndices lo hi 1 z.length).length==z.length)=true from c)] at q;exact⟨.str z,H,I,⟨t,rfl⟩,q⟩
  .rename_i c;rw[if_neg (show ¬ ((1:Int)==1&&(Builtin.Str.strSliceIndices lo hi 1 z.length).length==z.length)=true from c)] at q;refine⟨?_,.str _,H,I.tok _,⟨_,rfl⟩,q⟩;have h1:=indices_len_le lo hi z.length
   have h2:=List.length_filterMap_le (λx=>z.cps[x]?) (Builtin.Str.strSliceIndices lo hi 1 z.length)
   have h3:z.length<=sizeLine:=XW hz
   show (List.filterMap (λx=>z.cps[x]?) (Builtin.Str.strSliceIndices lo hi 1 z.length)).toArray.size<=sizeLine;rw[zM];exact zW h2 (zW h1 h3)
 exact e
theorem Ml {e:Expr}{te:TDE}{lo hi:Option Expr}{tl th:TDO}{p2:Pos}(he:PD X Z e te)(hl:PDO X Z lo tl)(hu:PDO X Z hi th):PD X Z (.Subscript e (.Slice lo hi none p2) pos) (dSlS te tl th):=
 ZO (I0 zdU he hl hu) λσ H Qv ⟨r,dl,S,Q,rs,aS,h,ret⟩=>⟨r,dl,S,_,rs,aS,h,λv H1 r1 d S1 e1 aB p1 q1=>⟨r1,dl,S1,_,rs.ext e1,aB,q1,λl H2 r2 S2 e2 aC q2=>⟨r2,dl,S2,_,rs.ext (e1.trans e2),aC,q2,λu H3 r3 S3 e3 aD q3=>by
  cases p1 with
  | str z=>exact⟨z,rfl,q3.1,ret _ H3 r3 _ S3 (e1.trans (e2.trans e3)) aD (.str _) q3.2⟩
  | _=>exact(show False from q3).elim⟩⟩⟩
end
section
variable {X:Cx}{Z:Zx}
theorem zdG (G:Fk X.prog X.w X.K X.mg X.base k x ps sd)(hr:ZG k X.A)(hx:X9 X W)(hg:Gl X x)(hdb:(x==("__debug__":Str))=false:=by decide):PD X ⟨ex,W⟩ (.Call (.Name x p) [] [] pos) (Q8 ex sd X3):=
 ZO (zbw G.ok hr hg G.m G.kp G.b hx hdb) λσ H Qv ⟨r,dl,S,Q,rs,aS,h,ret⟩=>OF (Z:=⟨ex,W⟩) rs aS Rps.nil h ret
end
section
variable {X:Cx}{Z:Zx}
theorem E0 (hr:ZG k X.A):OpR X (compareOp .In) (upO X.K Z (Xi (wIn 0 false))):=by rw[Xs];exact Fz 0 (by have:=hr.un;lia)
end
theorem ifB {c:Bool}{A B:Prop}(h1:c=true->A)(h2:c=false->B):if c=true then A else B:=by
 cases c with
 | true=>exact Yy (h1 rfl)
 | false=>exact ZH (h2 rfl)
theorem Iu (f:α->Bool):∀l:List α,X0 (l.map λc=>D.bl (f c))=some (l.map f)
 | []=>rfl
 | a::r=>by
  rw[zL,zL,X0,Iu f r];rfl
theorem Ll (w:Str):∀ws:List Str,XI (eqN 0) (ws.map D.str) (.str w)=some (ws.any (·==w))
 | []=>rfl
 | a::r=>by
  have e:eqN 0 (.str a) (.str w)=some (a==w):=by
   show some (decide (a=w))=_;exact congrArg some (by rw[yP,decide_eq_true_iff,beq_iff_eq])
  rw[zL,XI,e,Ll w r];rfl
theorem Z4 (ho:S[n]?=some o)(hd:atI (ZC o) i=some d)(hq:Q d S)(hL:Wl o=some o:=by rfl):Xi wIx (.ref n) (.int i) S Q:=by
 rw[Xs];unfold wIx;simp only[Yo ho hL,hd];exact hq
def Z8 (f:Str)(v:D):List (Str×D)->List (Str×D)
 | []=>[(f,v)]
 | p::r=>if p.1=f then (f,v)::r else p::Z8 f v r
theorem FR.lookup {r:List Addr}{H:Hp}{f:Str}:∀ {fs:List (Str×D)} {fs':List (Str×V)},FR r H fs fs'->(∀d,fs.lookup f=some d->∃v,fs'.lookup f=some v/\Rp r H d v)/\(fs.lookup f=none->fs'.lookup f=none)
 | [],fs',h=>by
  have e:fs'=[]:=by
   have:=h.1;simpa using this.symm
  subst e;exact⟨λd z=>by simp at z,λ_=>rfl⟩
 | p::fs,[],h=>by
  have:=h.1;simp at this
 | p::fs,q::fs',h=>by
  obtain⟨h1,h2⟩:=h;simp only[zL,List.cons.injEq] at h1;obtain⟨p1,p2⟩:=h2.tail;obtain⟨i1,i2⟩:=FR.lookup (f:=f) (fs:=fs) (fs':=fs') ⟨h1.2,p2⟩;obtain⟨pk,pv⟩:=p;obtain⟨qk,qv⟩:=q;have ek:pk=qk:=h1.1;subst ek;by_cases z:f=pk
  .subst z;simp only[List.lookup_cons_self];exact⟨λd hd=>⟨qv,rfl,by cases hd;exact p1⟩,λhd=>by cases hd⟩
  .have zb:(f==pk)=false:=by simpa using z
   simp only[zJ,zb];exact⟨i1,i2⟩
theorem FR.put {r:List Addr}{H:Hp}{f:Str}{d:D}{v:V}(q:Rp r H d v):∀ {fs:List (Str×D)} {fs':List (Str×V)},FR r H fs fs'->FR r H (Z8 f d fs) (Y7 f v fs')
 | [],fs',h=>by
  have e:fs'=[]:=by
   have:=h.1;simpa using this.symm
  subst e;exact⟨rfl,Rps.cons q Rps.nil⟩
 | p::fs,[],h=>by
  have:=h.1;simp at this
 | p::fs,p'::fs',h=>by
  obtain⟨h1,h2⟩:=h;simp only[zL,List.cons.injEq] at h1;obtain⟨p1,p2⟩:=h2.tail;have ih:=FR.put (f:=f) q (fs:=fs) (fs':=fs') ⟨h1.2,p2⟩;obtain⟨pk,pv⟩:=p;obtain⟨qk,qv⟩:=p';have ek:pk=qk:=h1.1;subst ek;unfold Z8 Y7;by_cases z:pk=f
  .rw[if_pos z,if_pos z];exact⟨by simp[h1.2,z],Rps.cons q p2⟩
  .rw[if_neg z,if_neg z];exact⟨by simp[ih.1],Rps.cons p1 ih.2⟩
section
variable {X:Cx}{Z:Zx}{pos:Pos}
def XO (C:Addr)(S:Sto):D->Option (Nat×List (Str×D))
 | .ref n=>match S[n]? with
  | some (.ins C' fs)=>if C'=C then some (n,fs) else none
  | _=>none
 | _=>none
theorem R0 (h:XO C S d=some (n,fs)):d=.ref n/\S[n]?=some (.ins C fs):=by
 unfold XO at h;split at h
 .split at h
  .rename_i m _ C' fs' e;split at h
   .rename_i ec;subst ec;simp only[Option.some.injEq,Prod.mk.injEq] at h;obtain⟨rfl,rfl⟩:=h;exact⟨rfl,e⟩
   .cases h
  .cases h
 .cases h
@[irreducible] def Pm (C:Addr)(f:Str)(to:TDE):TDE:=λdl S Q=>to dl S λd S1=>match XO C S1 d with
 | some (_,fs)=>match fs.lookup f with
  | some v=>Q v S1
  | none=>False
 | none=>False
theorem Yh (c:Cls X.K C)(n:YX X.K C f)(ho:PD X Z o to)(hb:attributeBase o f X.env (eval o X.env)=eval o X.env:=by rfl):PD X Z (.Attribute o f pos) (Pm C f to):=
 ZO (zdb ho hb) λσ H Qv ⟨r,dl,S,Q,rs,aS,h,ret⟩=>by unfold Pm at h;exact⟨r,dl,S,_,rs,aS,h,λv H1 r1 d S1 e1 aB p1 q1=>by
  split at q1
  .rename_i m fs ei;obtain⟨rfl,eS⟩:=R0 ei;split at q1
   .rename_i w ew;obtain⟨a,ha,ob⟩:=aB.at eS;obtain⟨dx,fs',eH,fr⟩:=ob;cases p1 with
    | ref hr=>
     rw[hr] at ha;cases ha
     obtain⟨u,hu,pu⟩:=fr.lookup.1 w ew;exact⟨a,C,dx,fs',u,rfl,eH,c,n,hu,ret u H1 r1 w S1 e1 aB pu q1⟩
   .exact q1.elim
  .exact q1.elim⟩
@[irreducible] def S0 (C:Addr)(f:Str)(to te:TDE):TDS:=λE dl S=>te dl S λv S1=>to dl S1 λd S2=>match XO C S2 d with
 | some (n,fs)=>fs.length<1000/\E.nx dl (S2.set n (.ins C (Z8 f v fs)))
 | none=>False
theorem We (c:Cls X.K C)(n:YX X.K C f)(ho:PD X Z o to)(he:PD X Z e te)(hs:swapsWith e (some (.Attribute o f p2)) pos.line X.env=pure false:=by rfl):PDS X Z (.Assign [.Attribute o f p2] e pos) (S0 C f to te):=
 XT (zae ho he hs) λF σ H ⟨r,dl,S,E,rs,aS,h,ret⟩=>by unfold S0 at h;exact⟨r,dl,S,_,rs,aS,h,λv H1 r1 dv S1 e1 aB p1 q1=>⟨r1,dl,S1,_,rs.ext e1,aB,q1,λw H2 r2 d S2 e2 aC p2' q2=>by
  split at q2
  .rename_i m fs ei;obtain⟨rfl,eS⟩:=R0 ei;obtain⟨hl,q2⟩:=q2;obtain⟨a,ha,ob⟩:=aC.at eS;obtain⟨dx,fs',eH,fr⟩:=id ob;cases p2' with
   | ref hr=>
    rw[hr] at ha;cases ha
    have aL:fs'.length=fs.length:=by
     have:=congrArg List.length fr.1;simpa using this.symm
    obtain⟨rb,x⟩:=aC.b.setO (o':=.ins C (Z8 f dv fs)) (u:=.ins C dx (Y7 f v fs')) hr eS rfl rfl λx=>⟨dx,_,Y1,(fr.put (p1.ext e2)).ext x⟩
    exact⟨a,C,dx,fs',rfl,eH,c,n,(),ret.nx _ _ r2 _ _ (e1.trans (e2.trans x)) (rs.ext (e1.trans (e2.trans x))) ⟨rb,aC.xw.ext x⟩ q2⟩
  .exact q2.elim⟩⟩
@[irreducible] def Sh (C:Addr)(m:Str)(ex:Ev->Addr->Sto->Prop)(sd:Sd)(to:TDE)(t:TDA):TDE:=λdl S Q=>to dl S λd S1=>match XO C S1 d with
 | some (_,fs)=>fs.lookup m=none/\t dl S1 λds S2=>sd (d::ds) S2 Q (ex dl)
 | none=>False
theorem zak (he:PE X o ta)(c:Cls X.K C)(hm:UK X.K C m f)(F:Yj X.prog X.w X.K X.mg X.base (CXE X.prog X.w) k f fd ps sp)(hr:ZG k X.A)(hb:Y5 X.K fd ps [])(hx:X9 X W)(ha:PA X (e::es) t)(hst:starEach (e::es) X.env=(false,eval e X.env)::starEach es X.env)(hpl:Hp1 X pos es)(ht:eval (.Call (.Attribute o m aI) (e::es) [] pos) X.env=(do
   let ov <- eval o X.env
   standAt aI.atName
   let (f,first) <- holding [ov] (getMethod ov m pl)
   callWith pos f first (backTo pos (starEach (e::es) X.env)) (backToKw pos (keywordEach [] X.env)))):
  PE X (.Call (.Attribute o m aI) (e::es) [] pos) (λσ H Q=>ta σ H λx H1=>∃a dx fs,x=.ref a/\H1 a=some (.ins C dx fs)/\fs.lookup m=none/\t σ H1 λvs H2=>sp (x::vs) H2 Q (W σ)):=by
 intro aA s σ H Q I h;refine PySem.W.methodCall_KW (pl:=pl) (thn (he aA s σ H _ I h) λu s1 ⟨x,H1,I1,rx,a,dx,fs,ex,ea,l,q⟩=>?_) ht;subst ex;obtain rfl:u=Value.ref a:=rx;refine HR I1 ea c hm l ?_;exact PySem.W.callWith_K (first:=[.ref a]) (h₀:=X.base) I.ok.mod.kin hm.kp (thn (ha pos aA s1 σ H1 _ I1 q) λus s2 ⟨vs,H2,I2,r,q2⟩=>⟨I2.kIn,Mc (us:=.ref a::us) (vs:=.ref a::vs) F hr hb hx I2 (.cons rfl r) q2⟩) hst hpl
theorem DH (he:PE X o ta)(c:Cls X.K C)(hm:UK X.K C m f)(F:Yj X.prog X.w X.K X.mg X.base (CXE X.prog X.w) k f fd ps sp)(hr:ZG k X.A)(hb:Y5 X.K fd ps [])(hx:X9 X W)(ht:eval (.Call (.Attribute o m aI) [] [] pos) X.env=(do
   let ov <- eval o X.env
   standAt aI.atName
   let (f,first) <- holding [ov] (getMethod ov m pl)
   callWith pos f first (backTo pos (starEach [] X.env)) (backToKw pos (keywordEach [] X.env)))):
  PE X (.Call (.Attribute o m aI) [] [] pos) (λσ H Q=>ta σ H λx H1=>∃a dx fs,x=.ref a/\H1 a=some (.ins C dx fs)/\fs.lookup m=none/\sp [x] H1 Q (W σ)):=by
 intro aA s σ H Q I h;refine PySem.W.methodCall_KW (pl:=pl) (thn (he aA s σ H _ I h) λu s1 ⟨x,H1,I1,rx,a,dx,fs,ex,ea,l,q⟩=>?_) ht;subst ex;obtain rfl:u=Value.ref a:=rx;refine HR I1 ea c hm l ?_;exact PySem.W.callWith_K0 (first:=[.ref a]) I1.kIn hm.kp (Mc (us:=[.ref a]) (vs:=[.ref a]) F hr hb hx I1 (.cons rfl .nil) q)
theorem IC {C:Addr}{r:List Addr}{S:Sto}{H:Hp}{d:D}{v:V}{n:Nat}{fs:List (Str×D)}(aS:Z5 X.K r S H)(p:Rp r H d v)(h:XO C S d=some (n,fs)):∃a dx fs',v=.ref a/\r[n]?=some a/\H a=some (.ins C dx fs')/\FR r H fs fs':=by
 obtain⟨rfl,eS⟩:=R0 h;obtain⟨a,ha,dx,fs',eH,fr⟩:=aS.at eS;cases p with
 | ref hr=>
  rw[hr] at ha;cases ha
  exact⟨a,dx,fs',rfl,hr,eH,fr⟩
theorem Xn (ho:PD X ⟨ex,W⟩ o to)(c:Cls X.K C)(hm:UK X.K C m f)(F:Yj X.prog X.w X.K X.mg X.base (CXE X.prog X.w) k f fd ps (upF X.K sd))(hr:ZG k X.A)(hb:Y5 X.K fd ps [])(hx:X9 X W)(ha:PDA X ⟨ex,W⟩ (e::es) t)(hst:starEach (e::es) X.env=(false,eval e X.env)::starEach es X.env:=by rfl)(hpl:Hp1 X pos es:=by rfl)(ht:eval (.Call (.Attribute o m aI) (e::es) [] pos) X.env=(do
   let ov <- eval o X.env
   standAt aI.atName
   let (f,first) <- holding [ov] (getMethod ov m pl)
   callWith pos f first (backTo pos (starEach (e::es) X.env)) (backToKw pos (keywordEach [] X.env))):=by rfl):PD X ⟨ex,W⟩ (.Call (.Attribute o m aI) (e::es) [] pos) (Sh C m ex sd to t):=
 ZO (zak ho c hm F hr hb hx ha hst hpl ht) λσ H Qv ⟨r,dl,S,Q,rs,aS,h,ret⟩=>by unfold Sh at h;exact⟨r,dl,S,_,rs,aS,h,λv H1 r1 d S1 e1 aB p1 q1=>by
  split at q1
  .rename_i n fs ei;obtain⟨hl,q1⟩:=q1;obtain⟨a,dx,fs',rfl,hr1,eH,fr⟩:=IC aB.b p1 ei;exact⟨a,dx,fs',rfl,eH,fr.lookup.2 hl,r1,dl,S1,_,rs.ext e1,aB,q1,λvs H2 r2 ds S2 e2 aC p2 q2=>OF (Z:=⟨ex,W⟩) (rs.ext (e1.trans e2)) aC (Rps.cons (p1.ext e2) p2) q2 (ret.ext (e1.trans e2))⟩
  .exact q1.elim⟩
theorem YG (ho:PD X ⟨ex,W⟩ o to)(c:Cls X.K C)(hm:UK X.K C m f)(F:Yj X.prog X.w X.K X.mg X.base (CXE X.prog X.w) k f fd ps (upF X.K sd))(hr:ZG k X.A)(hb:Y5 X.K fd ps [])(hx:X9 X W)(ht:eval (.Call (.Attribute o m aI) [] [] pos) X.env=(do
   let ov <- eval o X.env
   standAt aI.atName
   let (f,first) <- holding [ov] (getMethod ov m pl)
   callWith pos f first (backTo pos (starEach [] X.env)) (backToKw pos (keywordEach [] X.env))):=by rfl):PD X ⟨ex,W⟩ (.Call (.Attribute o m aI) [] [] pos) (Sh C m ex sd to X3):=
 ZO (DH ho c hm F hr hb hx ht) λσ H Qv ⟨r,dl,S,Q,rs,aS,h,ret⟩=>by unfold Sh at h;exact⟨r,dl,S,_,rs,aS,h,λv H1 r1 d S1 e1 aB p1 q1=>by
  split at q1
  .rename_i n fs ei;obtain⟨hl,q1⟩:=q1;obtain⟨a,dx,fs',rfl,hr1,eH,fr⟩:=IC aB.b p1 ei;exact⟨a,dx,fs',rfl,eH,fr.lookup.2 hl,OF (Z:=⟨ex,W⟩) (rs.ext e1) aB (Rps.cons p1 Rps.nil) q1 (ret.ext e1)⟩
  .exact q1.elim⟩
def JK (C:Addr)(ex:Addr->Sto->Prop)(sd:Sd)(t:TDA):TDE:=λdl S Q=>t dl S λds S1=>sd (.ref S1.length::ds) (S1++[.ins C []]) (λd S2=>d=.non/\Q (.ref S1.length) S2) ex
theorem JH {C x dx:Addr}{r:List Addr}{S:Sto}{H:Hp}(aS:Rel X.K Z r S H)(h1:H x=none)(h2:H dx=none)(h3:dx≠x):
  Rel X.K Z (r++[x]) (S++[.ins C []]) (upd (upd H dx (.own x)) x (.ins C dx []))/\Ext r (r++[x]) H (upd (upd H dx (.own x)) x (.ins C dx [])):=by
 obtain⟨rb,e⟩:=aS.b.pushO (o:=.ins C []) (H':=upd (upd H dx (.own x)) x (.ins C dx [])) h1 (λb u q=>by rw[Z1 (X2 q h1),Z1 (X2 q h2)];exact q) λ_=>⟨dx,[],Y1,FR.nil⟩
 exact⟨⟨rb,aS.xw.ext e⟩,e⟩
theorem Gi {C x:Addr}{r r':List Addr}{n:Nat}{H H':Hp}{Z:Zx}{K:Fg}{Q:DK}{Qv:VK}(ret:Ret K Z r H Q Qv)(e:Ext r r' H H')(hx:r'[n]?=some x):
  Ret K Z r' H' (λd S2=>d=.non/\Q (.ref n) S2) (λv H2=>v=.non/\Qv (.ref x) H2):=λv H2 r2 d S2 e2 aC p2 q2=>by
 obtain⟨rfl,q2⟩:=q2;cases p2;exact⟨rfl,ret _ H2 r2 (.ref n) S2 (e.trans e2) aC (.ref (e2.adr _ _ hx)) q2⟩
theorem NB {C f:Addr}{fd:FuncData}{k:Nat}{ps:List Str}{sd:Sd}{ex:Addr->Sto->Prop}{W:XK}{x:Str}{p:Pos}(M:Mk X.K C f)
  (F:Yj X.prog X.w X.K X.mg X.base (CXE X.prog X.w) k f fd ps (upF X.K sd))(hr:ZG (k+1) X.A)(hg:Gl X x)(hm:X.mg x=some (.ref C))(hb:Y5 X.K fd ps [])(hx:U2 (CXE X.prog X.w) X W)
  (hdb:(x==("__debug__":Str))=false:=by decide):PD X (Zc ex W) (.Call (.Name x p) [] [] pos) (JK C ex sd X3):=
 ZO (zdX M F hr hg hm hb .nil hx hdb) λσ H Qv ⟨r,dl,S,Q,rs,aS,h,ret⟩=>λx dx n1 n2 n3=>by
  obtain⟨aC,e2⟩:=JH (C:=C) aS n1 n2 n3;exact⟨ex,_,_,[.ref S.length],_,aC,Rps.cons (Wo aS.len) Rps.nil,h,Gi (C:=C) ret e2 (R7 aS.len)⟩
theorem AS {C f:Addr}{fd:FuncData}{k:Nat}{ps:List Str}{sd:Sd}{ex:Addr->Sto->Prop}{W:XK}{x:Str}{p:Pos}{e:Expr}{es:List Expr}{t:TDA}(M:Mk X.K C f)
  (F:Yj X.prog X.w X.K X.mg X.base (CXE X.prog X.w) k f fd ps (upF X.K sd))(hr:ZG (k+1) X.A)(hg:Gl X x)(hm:X.mg x=some (.ref C))(hb:Y5 X.K fd ps [])(hx:U2 (CXE X.prog X.w) X W)(ha:PDA X (Zc ex W) (e::es) t)
  (hdb:(x==("__debug__":Str))=false:=by decide)(he:He X e es:=by rfl)(hpl:Hp1 X pos es:=by rfl):
  PD X (Zc ex W) (.Call (.Name x p) (e::es) [] pos) (JK C ex sd t):=
 ZO (CB M F hr hg hm hb .nil hx ha hdb he hpl) λσ H Qv ⟨r,dl,S,Q,rs,aS,h,ret⟩=>⟨r,dl,S,_,rs,aS,h,λvs H1 r1 ds S1 e1 aB p1 q1=>λx dx n1 n2 n3=>by
  obtain⟨aC,e2⟩:=JH (C:=C) aB n1 n2 n3;show upF X.K sd (.ref x::(vs++[])) _ _ W;rw[yE];exact⟨ex,_,_,.ref S1.length::ds,_,aC,Rps.cons (Wo aB.len) (p1.ext e2),q1,Gi (C:=C) ret (e1.trans e2) (R7 aB.len)⟩⟩
end
def VB:List D->Option (List Key)
 | []=>some []
 | .int i::r=>(VB r).map (.inl i::·)
 | .str x::r=>(VB r).map (.inr x::·)
 | _=>none
def V5:D->Option (List Key)
 | .tup ds=>VB ds
 | _=>none
theorem JE {r:List Addr}{H:Hp}:∀ {ds:List D} {xs:List V} {ks:List Key},VB ds=some ks->Rps r H ds xs->xs=ks.map kV
 | [],xs,ks,e,p=>by
  have z:=p.unnil;subst z;simp only[VB,Option.some.injEq] at e;subst e;rfl
 | d::ds,xs,ks,e,p=>by
  obtain⟨v,vs,rfl,p1,p2⟩:=p.uncons;cases p1 with
  | int i=>
   simp only[VB,yA] at e;obtain⟨ms,e1,rfl⟩:=e;rw[JE e1 p2];rfl
  | str x=>
   simp only[VB,yA] at e;obtain⟨ms,e1,rfl⟩:=e;rw[JE e1 p2];rfl
  | _=>simp[VB] at e
theorem Ef {r:List Addr}{H:Hp}{d:D}{v:V}{k:List Key}(p:Rp r H d v)(e:V5 d=some k):∃b,v=.ref b/\H b=some (.tup (k.map kV)):=by
 cases p with
 | tup h l f=>
  have z:=JE (show VB _=some k from e) ⟨l,f⟩;subst z;exact⟨_,rfl,h⟩
 | _=>simp[V5] at e
section
variable {κ:Type} [DecidableEq κ]
def Yl (kvs:List (κ×D))(k:κ):Option D:=(kvs.find? λkv=>decide (kv.1=k)).map (·.2)
def Xa (kvs:List (κ×D))(k:κ)(v:D):List (κ×D):=
 if (kvs.any λkv=>decide (kv.1=k))=true then kvs.map (λkv=>if kv.1=k then (kv.1,v) else kv) else kvs++[(k,v)]
theorem FR.split {r:List Addr}{H:Hp}{p:κ×D}{fs:List (κ×D)}{gs:List (κ×V)}(h:FR r H (p::fs) gs):∃q gs',gs=q::gs'/\p.1=q.1/\Rp r H p.2 q.2/\FR r H fs gs':=by
 cases gs with
 | nil=>
  have:=h.1;simp at this
 | cons q gs'=>
  obtain⟨h1,h2⟩:=h;simp only[zL,List.cons.injEq] at h1;obtain⟨p1,p2⟩:=h2.tail;exact⟨q,gs',rfl,h1.1,p1,h1.2,p2⟩
theorem FR.unnil {r:List Addr}{H:Hp}{gs:List (κ×V)}(h:FR r H ([]:List (κ×D)) gs):gs=[]:=by
 have:=h.1;simpa using this.symm
theorem FR.cons {r:List Addr}{H:Hp}{k:κ}{d:D}{v:V}{fs:List (κ×D)}{gs:List (κ×V)}(p:Rp r H d v)(h:FR r H fs gs):FR r H ((k,d)::fs) ((k,v)::gs):=⟨by simp[h.1],Rps.cons p h.2⟩
theorem FR.val {r:List Addr}{H:Hp}{k:κ}:∀ {fs:List (κ×D)} {gs:List (κ×V)},FR r H fs gs->(∀d,Yl fs k=some d->∃v,X5 gs k=some v/\Rp r H d v)/\(Yl fs k=none->X5 gs k=none)
 | [],gs,h=>by
  have z:=h.unnil;subst z;exact⟨(λd e=>by cases e),λ_=>rfl⟩
 | p::fs,gs,h=>by
  obtain⟨q,gs',rfl,e,pr,t⟩:=h.split;obtain⟨i1,i2⟩:=FR.val (k:=k) t;by_cases z:p.1=k
  .have z':q.1=k:=e.symm.trans z;rw[O3 z'];have zd:Yl (p::fs) k=some p.2:=by simp[Yl,yL,z]
   rw[zd];exact⟨λd hd=>⟨q.2,rfl,by cases hd;exact pr⟩,λhd=>by cases hd⟩
  .have z':¬ q.1=k:=λy=>z (e.trans y)
   rw[Oz z'];have zd:Yl (p::fs) k=Yl fs k:=by simp[Yl,yL,z]
   rw[zd];exact⟨i1,i2⟩
theorem FR.putK {r:List Addr}{H:Hp}{k:κ}{d:D}{v:V}{fs:List (κ×D)}{gs:List (κ×V)}(p:Rp r H d v)(h:FR r H fs gs):FR r H (Xa fs k d) (putK gs k v):=by
 have any:∀ {fs:List (κ×D)} {gs:List (κ×V)},FR r H fs gs->(fs.any λkv=>decide (kv.1=k))=(gs.any λkv=>decide (kv.1=k)):=by
  intro fs
  induction fs with
  | nil=>intro gs h;have z:=h.unnil;subst z;rfl
  | cons q fs ih=>
   intro gs h;obtain⟨q',gs',rfl,e,_,t⟩:=h.split;rw[yN,yN,ih t,e]
 have mp:∀ {fs:List (κ×D)} {gs:List (κ×V)},FR r H fs gs->FR r H (fs.map λkv=>if kv.1=k then (kv.1,d) else kv) (gs.map λkv=>if kv.1=k then (kv.1,v) else kv):=by
  intro fs
  induction fs with
  | nil=>intro gs h;have z:=h.unnil;subst z;exact FR.nil
  | cons q fs ih=>
   intro gs h;obtain⟨q',gs',rfl,e,pr,t⟩:=h.split;rw[zL,zL];obtain⟨qk,qd⟩:=q;obtain⟨qk',qv⟩:=q';have e':qk=qk':=e;subst e';by_cases z:qk=k
   .rw[if_pos z,if_pos z];exact FR.cons p (ih t)
   .rw[if_neg z,if_neg z];exact FR.cons pr (ih t)
 have ap:∀ {fs:List (κ×D)} {gs:List (κ×V)},FR r H fs gs->FR r H (fs++[(k,d)]) (gs++[(k,v)]):=by
  intro fs
  induction fs with
  | nil=>intro gs h;have z:=h.unnil;subst z;exact FR.cons p FR.nil
  | cons q fs ih=>
   intro gs h;obtain⟨q',gs',rfl,e,pr,t⟩:=h.split;obtain⟨qk,qd⟩:=q;obtain⟨qk',qv⟩:=q';have e':qk=qk':=e;subst e';exact FR.cons pr (ih t)
 unfold Xa L2.putK;rw[any h];split
 .exact mp h
 .exact ap h
end
section
variable {X:Cx}{Z:Zx}{pos:Pos}
def U6 (S:Sto):D->Option (Nat×List (List Key×D))
 | .ref n=>match S[n]? with
  | some (.dct kvs)=>some (n,kvs)
  | _=>none
 | _=>none
theorem Hw (h:U6 S d=some (n,kvs)):d=.ref n/\S[n]?=some (.dct kvs):=by
 unfold U6 at h;split at h
 .split at h
  .rename_i e;simp only[Option.some.injEq,Prod.mk.injEq] at h;obtain⟨rfl,rfl⟩:=h;exact⟨rfl,e⟩
  .cases h
 .cases h
def atD (S:Sto)(d y:D):Option (Option D):=match U6 S d,V5 y with
 | some (_,kvs),some k=>some (Yl kvs k)
 | _,_=>none
theorem Hv {r:List Addr}{S:Sto}{H:Hp}{d y:D}{x v:V}{o:Option D}(aS:Z5 X.K r S H)(pd:Rp r H d x)(py:Rp r H y v)(h:atD S d y=some o):
  ∃a o',x=.ref a/\XS H a v o'/\(∀z,o=some z->∃w,o'=some w/\Rp r H z w)/\(o=none->o'=none):=by
 unfold atD at h;split at h
 .rename_i n kvs k e1 e2;obtain⟨rfl,eS⟩:=Hw e1;obtain⟨a,ha,kvs',eH,fr⟩:=aS.at eS;obtain⟨b,rfl,eb⟩:=Ef py e2;cases pd with
  | ref hr=>
   rw[hr] at ha;cases ha
   have hv:=Option.some.inj h;subst hv;exact⟨a,_,rfl,XS.t eH eb,λz hz=>fr.val.1 z hz,λhz=>fr.val.2 hz⟩
 .cases h
@[irreducible] def O7 (td ty:TDE):TDE:=λdl S Q=>td dl S λd S1=>ty dl S1 λy S2=>match atD S2 d y with
 | some (some v)=>Q v S2
 | _=>False
theorem zdo (hu:ZG k X.A)(ho:PD X Z o td)(hi:PD X Z i ty)(hs:Tw i):PD X Z (.Subscript o i pos) (O7 td ty):=
 ZO (F0 (by have:=hu.un;lia) ho hi hs) λσ H Qv ⟨r,dl,S,Q,rs,aS,h,ret⟩=>by unfold O7 at h;exact⟨r,dl,S,_,rs,aS,h,λx H1 r1 d S1 e1 aB p1 q1=>⟨r1,dl,S1,_,rs.ext e1,aB,q1,λv H2 r2 y S2 e2 aC p2 q2=>by
  split at q2
  .rename_i w e;obtain⟨a,o',rfl,g,g1,_⟩:=Hv aC.b (p1.ext e2) p2 e;obtain⟨u,rfl,pu⟩:=g1 w rfl;exact⟨a,u,rfl,g,ret u H2 r2 w S2 (e1.trans e2) aC pu q2⟩
  .exact q2.elim⟩⟩
@[irreducible] def Rn (ty td:TDE):TDE:=λdl S Q=>ty dl S λy S1=>td dl S1 λd S2=>match atD S2 d y with
 | some o=>Q (.bl o.isSome) S2
 | none=>False
theorem zab (h:up X.K Z (Rn ty td) σ H Qv):tDIn (up X.K Z ty) (up X.K Z td) σ H Qv:=by
 obtain⟨r,dl,S,Q,rs,aS,h,ret⟩:=h;unfold Rn at h;refine⟨r,dl,S,_,rs,aS,h,λv H1 r1 y S1 e1 aB p1 q1=>⟨r1,dl,S1,_,rs.ext e1,aB,q1,λx H2 r2 d S2 e2 aC p2 q2=>?_⟩⟩;split at q2
 .rename_i o e;obtain⟨a,o',rfl,g,g1,g2⟩:=Hv aC.b p2 (p1.ext e2) e;have ei:o'.isSome=o.isSome:=by
   cases o with
   | none=>rw[g2 rfl];rfl
   | some z=>obtain⟨w,rfl,_⟩:=g1 z rfl;rfl
  exact⟨a,o',rfl,g,by rw[ei];exact ret _ H2 r2 (.bl _) S2 (e1.trans e2) aC (.bl _) q2⟩
 .exact q2.elim
theorem za3 (hu:ZG k X.A)(hi:PD X Z i ty)(ho:PD X Z o td)(hm:behindInMarks .In o=false:=by rfl):PDT X Z (.Compare i [.In] [o] pos) (WL (Rn ty td)):=
 U9 (P9 (JQ (by have:=hu.un;lia) hi ho) hm) λσ H Qb ⟨r,dl,S,Q,rs,aS,h,ret⟩=>zab ⟨r,dl,S,_,rs,aS,h,Si ret⟩
@[irreducible] def Oh (td ty tv:TDE):TDS:=λE dl S=>tv dl S λv S1=>td dl S1 λd S2=>ty dl S2 λy S3=>match U6 S3 d,V5 y with
 | some (n,kvs),some k=>kvs.length<1000/\E.nx dl (S3.set n (.dct (Xa kvs k v)))
 | _,_=>False
theorem AI {o i e:Expr}{td ty tv:TDE}{k:Nat}{p2:Pos}(hu:ZG k X.A)(ho:PD X Z o td)(hi:PD X Z i ty)(hv:PD X Z e tv)(hs:swapsWith e (some (.Subscript o i p2)) pos.line X.env=pure false:=by rfl):PDS X Z (.Assign [.Subscript o i p2] e pos) (Oh td ty tv):=
 XT (Ij (by have:=hu.un;lia) ho hi hv hs) λF σ H ⟨r,dl,S,E,rs,aS,h,ret⟩=>by unfold Oh at h;exact⟨r,dl,S,_,rs,aS,h,λv H1 r1 dv S1 e1 aB p1 q1=>⟨r1,dl,S1,_,rs.ext e1,aB,q1,λx H2 r2 d S2 e2 aC p2' q2=>
  ⟨r2,dl,S2,_,rs.ext (e1.trans e2),aC,q2,λy H3 r3 dy S3 e3 aD p3 q3=>by
   split at q3
   .rename_i n kvs k' c1 c2;obtain⟨hl,q3⟩:=q3;obtain⟨rfl,eS⟩:=Hw c1;obtain⟨a,ha,kvs',eH,fr⟩:=aD.at eS;obtain⟨b,rfl,eb⟩:=Ef p3 c2;cases p2' with
    | ref hr=>
     have hr3:=e3.adr _ _ hr;rw[hr3] at ha;cases ha
     have aL:kvs'.length=kvs.length:=by
      have:=congrArg List.length fr.1;simpa using this.symm
     obtain⟨rb,xx⟩:=aD.b.setO (o':=.dct (Xa kvs k' dv)) (u:=.dT (L2.putK kvs' k' v)) hr3 eS rfl rfl λxx=>⟨_,Y1,(fr.putK (p1.ext (e2.trans e3))).ext xx⟩
     exact⟨a,_,rfl,Ut.t eH eb (by rw[aL];exact Sr (yF hl)),ret.nx _ _ r3 _ _ (e1.trans (e2.trans (e3.trans xx))) (rs.ext (e1.trans (e2.trans (e3.trans xx)))) ⟨rb,aD.xw.ext xx⟩ q3⟩
   .exact q3.elim⟩⟩⟩
def GL:TDE:=λ_ S Q=>Q (.ref S.length) (S++[.dct []])
theorem zdF:PD X Z (.Dict [] [] pos) GL:=ZO DG λσ H Qv ⟨r,dl,S,Q,rs,aS,h,ret⟩=>λp hp=>by
 obtain⟨rb,e⟩:=aS.b.pushO (o:=.dct []) (H':=upd H p (.dT [])) hp (X8 hp) λ_=>⟨[],Y1,FR.nil⟩
 exact ret _ _ _ (.ref S.length) _ e ⟨rb,aS.xw.ext e⟩ (Wo aS.len) h
end
def Vb:D->Option Key
 | .int i=>some (.inl i)
 | .str x=>some (.inr x)
 | _=>none
theorem IX {r:List Addr}{H:Hp}{d:D}{v:V}{k:Key}(p:Rp r H d v)(e:Vb d=some k):v=kV k:=by
 cases p with
 | int i=>cases e;rfl
 | str x=>cases e;rfl
 | _=>cases e
section
variable {X:Cx}{Z:Zx}{pos:Pos}
def XR (S:Sto):D->Option (Nat×List (Key×D))
 | .ref n=>match S[n]? with
  | some (.dck kvs)=>some (n,kvs)
  | _=>none
 | _=>none
theorem Mm (h:XR S d=some (n,kvs)):d=.ref n/\S[n]?=some (.dck kvs):=by
 unfold XR at h;split at h
 .split at h
  .rename_i e;simp only[Option.some.injEq,Prod.mk.injEq] at h;obtain⟨rfl,rfl⟩:=h;exact⟨rfl,e⟩
  .cases h
 .cases h
def atK (S:Sto)(d y:D):Option (Option D):=match XR S d,Vb y with
 | some (_,kvs),some k=>some (Yl kvs k)
 | _,_=>none
theorem K8 {r:List Addr}{S:Sto}{H:Hp}{d y:D}{x v:V}{o:Option D}(aS:Z5 X.K r S H)(pd:Rp r H d x)(py:Rp r H y v)(h:atK S d y=some o):
  ∃a o',x=.ref a/\XS H a v o'/\(∀z,o=some z->∃w,o'=some w/\Rp r H z w)/\(o=none->o'=none):=by
 unfold atK at h;split at h
 .rename_i n kvs k e1 e2;obtain⟨rfl,eS⟩:=Mm e1;obtain⟨a,ha,kvs',eH,fr⟩:=aS.at eS;obtain rfl:=IX py e2;cases pd with
  | ref hr=>
   rw[hr] at ha;cases ha
   have hv:=Option.some.inj h;subst hv;exact⟨a,_,rfl,XS.k eH,λz hz=>fr.val.1 z hz,λhz=>fr.val.2 hz⟩
 .cases h
@[irreducible] def Pa (td ty:TDE):TDE:=λdl S Q=>td dl S λd S1=>ty dl S1 λy S2=>match atK S2 d y with
 | some (some v)=>Q v S2
 | _=>False
theorem YE (hu:ZG k X.A)(ho:PD X Z o td)(hi:PD X Z i ty)(hs:Tw i):PD X Z (.Subscript o i pos) (Pa td ty):=
 ZO (F0 (by have:=hu.un;lia) ho hi hs) λσ H Qv ⟨r,dl,S,Q,rs,aS,h,ret⟩=>by unfold Pa at h;exact⟨r,dl,S,_,rs,aS,h,λx H1 r1 d S1 e1 aB p1 q1=>⟨r1,dl,S1,_,rs.ext e1,aB,q1,λv H2 r2 y S2 e2 aC p2 q2=>by
  split at q2
  .rename_i w e;obtain⟨a,o',rfl,g,g1,_⟩:=K8 aC.b (p1.ext e2) p2 e;obtain⟨u,rfl,pu⟩:=g1 w rfl;exact⟨a,u,rfl,g,ret u H2 r2 w S2 (e1.trans e2) aC pu q2⟩
  .exact q2.elim⟩⟩
@[irreducible] def RG (ty td:TDE):TDE:=λdl S Q=>ty dl S λy S1=>td dl S1 λd S2=>match atK S2 d y with
 | some o=>Q (.bl o.isSome) S2
 | none=>False
theorem DW (h:up X.K Z (RG ty td) σ H Qv):tDIn (up X.K Z ty) (up X.K Z td) σ H Qv:=by
 obtain⟨r,dl,S,Q,rs,aS,h,ret⟩:=h;unfold RG at h;refine⟨r,dl,S,_,rs,aS,h,λv H1 r1 y S1 e1 aB p1 q1=>⟨r1,dl,S1,_,rs.ext e1,aB,q1,λx H2 r2 d S2 e2 aC p2 q2=>?_⟩⟩;split at q2
 .rename_i o e;obtain⟨a,o',rfl,g,g1,g2⟩:=K8 aC.b p2 (p1.ext e2) e;have ei:o'.isSome=o.isSome:=by
   cases o with
   | none=>rw[g2 rfl];rfl
   | some z=>obtain⟨w,rfl,_⟩:=g1 z rfl;rfl
  exact⟨a,o',rfl,g,by rw[ei];exact ret _ H2 r2 (.bl _) S2 (e1.trans e2) aC (.bl _) q2⟩
 .exact q2.elim
theorem D3 (hu:ZG k X.A)(hi:PD X Z i ty)(ho:PD X Z o td)(hm:behindInMarks .In o=false:=by rfl):PDT X Z (.Compare i [.In] [o] pos) (WL (RG ty td)):=
 U9 (P9 (JQ (by have:=hu.un;lia) hi ho) hm) λσ H Qb ⟨r,dl,S,Q,rs,aS,h,ret⟩=>DW ⟨r,dl,S,_,rs,aS,h,Si ret⟩
@[irreducible] def S8 (td ty tv:TDE):TDS:=λE dl S=>tv dl S λv S1=>td dl S1 λd S2=>ty dl S2 λy S3=>match XR S3 d,Vb y with
 | some (n,kvs),some k=>kvs.length<1000/\E.nx dl (S3.set n (.dck (Xa kvs k v)))
 | _,_=>False
theorem Ss {o i e:Expr}{td ty tv:TDE}{k:Nat}{p2:Pos}(hu:ZG k X.A)(ho:PD X Z o td)(hi:PD X Z i ty)(hv:PD X Z e tv)(hs:swapsWith e (some (.Subscript o i p2)) pos.line X.env=pure false:=by rfl):PDS X Z (.Assign [.Subscript o i p2] e pos) (S8 td ty tv):=
 XT (Ij (by have:=hu.un;lia) ho hi hv hs) λF σ H ⟨r,dl,S,E,rs,aS,h,ret⟩=>by unfold S8 at h;exact⟨r,dl,S,_,rs,aS,h,λv H1 r1 dv S1 e1 aB p1 q1=>⟨r1,dl,S1,_,rs.ext e1,aB,q1,λx H2 r2 d S2 e2 aC p2' q2=>
  ⟨r2,dl,S2,_,rs.ext (e1.trans e2),aC,q2,λy H3 r3 dy S3 e3 aD p3 q3=>by
   split at q3
   .rename_i n kvs k' c1 c2;obtain⟨hl,q3⟩:=q3;obtain⟨rfl,eS⟩:=Mm c1;obtain⟨a,ha,kvs',eH,fr⟩:=aD.at eS;obtain rfl:=IX p3 c2;cases p2' with
    | ref hr=>
     have hr3:=e3.adr _ _ hr;rw[hr3] at ha;cases ha
     have aL:kvs'.length=kvs.length:=by
      have:=congrArg List.length fr.1;simpa using this.symm
     obtain⟨rb,xx⟩:=aD.b.setO (o':=.dck (Xa kvs k' dv)) (u:=.dK (L2.putK kvs' k' v)) hr3 eS rfl rfl λxx=>⟨_,Y1,(fr.putK (p1.ext (e2.trans e3))).ext xx⟩
     exact⟨a,_,rfl,Ut.k eH (by rw[aL];exact Sr (yF hl)),ret.nx _ _ r3 _ _ (e1.trans (e2.trans (e3.trans xx))) (rs.ext (e1.trans (e2.trans (e3.trans xx)))) ⟨rb,aD.xw.ext xx⟩ q3⟩
   .exact q3.elim⟩⟩⟩
def Km:TDE:=λ_ S Q=>Q (.ref S.length) (S++[.dck []])
theorem GZ:PD X Z (.Dict [] [] pos) Km:=ZO zex λσ H Qv ⟨r,dl,S,Q,rs,aS,h,ret⟩=>λp hp=>by
 obtain⟨rb,e⟩:=aS.b.pushO (o:=.dck []) (H':=upd H p (.dK [])) hp (X8 hp) λ_=>⟨[],Y1,FR.nil⟩
 exact ret _ _ _ (.ref S.length) _ e ⟨rb,aS.xw.ext e⟩ (Wo aS.len) h
@[irreducible] def Pp (ty td:TDE):TDE:=λdl S Q=>ty dl S λy S1=>td dl S1 λd S2=>match atK S2 d y with
 | some o=>Q (.bl (!o.isSome)) S2
 | none=>False
theorem zbx (h:up X.K Z (Pp ty td) σ H Qv):Em (up X.K Z ty) (up X.K Z td) σ H Qv:=by
 obtain⟨r,dl,S,Q,rs,aS,h,ret⟩:=h;unfold Pp at h;refine⟨r,dl,S,_,rs,aS,h,λv H1 r1 y S1 e1 aB p1 q1=>⟨r1,dl,S1,_,rs.ext e1,aB,q1,λx H2 r2 d S2 e2 aC p2 q2=>?_⟩⟩;split at q2
 .rename_i o e;obtain⟨a,o',rfl,g,g1,g2⟩:=K8 aC.b p2 (p1.ext e2) e;have ei:o'.isSome=o.isSome:=by
   cases o with
   | none=>rw[g2 rfl];rfl
   | some z=>obtain⟨w,rfl,_⟩:=g1 z rfl;rfl
  exact⟨a,o',rfl,g,by rw[ei];exact ret _ H2 r2 (.bl _) S2 (e1.trans e2) aC (.bl _) q2⟩
 .exact q2.elim
theorem zaO (hu:ZG k X.A)(hi:PD X Z i ty)(ho:PD X Z o td)(hm:behindInMarks .NotIn o=false:=by rfl):PDT X Z (.Compare i [.NotIn] [o] pos) (WL (Pp ty td)):=
 U9 (P9 (Cw (by have:=hu.un;lia) hi ho) hm) λσ H Qb ⟨r,dl,S,Q,rs,aS,h,ret⟩=>zbx ⟨r,dl,S,_,rs,aS,h,Si ret⟩
theorem Vm {st:Stmt}:PDS X Z st (λ_ _ _=>False):=XT (t:=λ_ _ _=>False) (λ_ _ _ _ _ _ h=>h.elim) λF σ H ⟨r,dl,S,E,rs,aS,h,ret⟩=>h.elim
theorem Dq {ty td:TDE}{dl:Ev}{S S2:Sto}{Q:DK}{n:Nat}{kvs:List (Key×D)}{y:D}{k:Key}(hy:∀K:DK,K y S2->ty dl S K)(hd:∀K:DK,K (.ref n) S2->td dl S2 K)(h:S2[n]?=some (.dck kvs))(hk:Vb y=some k)(hq:Q (.bl (Yl kvs k).isSome) S2):RG ty td dl S Q:=by
 unfold RG;refine hy _ (hd _ ?_);simp only[atK,XR,h,hk];exact hq
theorem Dd {ty td:TDE}{dl:Ev}{S S2:Sto}{Q:DK}{n:Nat}{kvs:List (Key×D)}{y:D}{k:Key}(hy:∀K:DK,K y S2->ty dl S K)(hd:∀K:DK,K (.ref n) S2->td dl S2 K)(h:S2[n]?=some (.dck kvs))(hk:Vb y=some k)(hq:Q (.bl (!(Yl kvs k).isSome)) S2):Pp ty td dl S Q:=by
 unfold Pp;refine hy _ (hd _ ?_);simp only[atK,XR,h,hk];exact hq
theorem Oj {ty td:TDE}{dl:Ev}{S S2:Sto}{Q:DK}{n:Nat}{kvs:List (Key×D)}{y v:D}{k:Key}(hd:∀K:DK,K (.ref n) S2->td dl S K)(hy:∀K:DK,K y S2->ty dl S2 K)(h:S2[n]?=some (.dck kvs))(hk:Vb y=some k)(hv:Yl kvs k=some v)(hq:Q v S2):Pa td ty dl S Q:=by
 unfold Pa;refine hd _ (hy _ ?_);simp only[atK,XR,h,hk,hv];exact hq
theorem Qu {ty td tv:TDE}{dl:Ev}{S S1 S3:Sto}{E:YS}{n:Nat}{kvs:List (Key×D)}{y v:D}{k:Key}(hv:∀K:DK,K v S1->tv dl S K)(hd:∀K:DK,K (.ref n) S3->td dl S1 K)(hy:∀K:DK,K y S3->ty dl S3 K)(h:S3[n]?=some (.dck kvs))(hk:Vb y=some k)(hl:kvs.length<1000)(hq:E.nx dl (S3.set n (.dck (Xa kvs k v)))):S8 td ty tv E dl S:=by
 unfold S8;refine hv _ (hd _ (hy _ ?_));simp only[XR,h,hk];exact⟨hl,hq⟩
end
section
variable {X:Cx}{Z:Zx}{pos:Pos}
def Yv (xs:List D)(lo hi:Option Int):List D:=(xs.drop (HT.sIx xs.length 0 lo)).take (HT.sIx xs.length xs.length hi-HT.sIx xs.length 0 lo)
theorem Rps.drop {r:List Addr}{H:Hp}{ds:List D}{vs:List V}(h:Rps r H ds vs)(k:Nat):Rps r H (ds.drop k) (vs.drop k):=
 ⟨by simp[h.1],λi d v h1 h2=>h.2 (k+i) d v (by simpa using h1) (by simpa using h2)⟩
theorem Rps.take {r:List Addr}{H:Hp}{ds:List D}{vs:List V}(h:Rps r H ds vs)(k:Nat):Rps r H (ds.take k) (vs.take k):=by
 refine⟨by simp[h.1],λi d v h1 h2=>?_⟩;rw[List.getElem?_take] at h1 h2;split at h1
 .rw[if_pos (by assumption)] at h2;exact h.2 i d v h1 h2
 .cases h1
theorem Rps.cut {r:List Addr}{H:Hp}{ds:List D}{vs:List V}(h:Rps r H ds vs)(lo hi:Option Int):Rps r H (Yv ds lo hi) (Sg vs lo hi):=by
 unfold Yv Sg;rw[h.1];exact(h.drop _).take _
@[irreducible] def Nl (te:TDE)(tl th:TDO):TDE:=λdl S Q=>te dl S λd S1=>tl dl S1 λl S2=>th dl S2 λu S3=>match d with
 | .ref n=>match lAt S3 n with
  | some o=>Q (.ref S3.length) (S3++[.lst (Yv (ZC o) l u)])
  | none=>False
 | _=>False
theorem SV {e:Expr}{te:TDE}{lo hi:Option Expr}{tl th:TDO}{p2:Pos}(he:PD X Z e te)(hl:PDO X Z lo tl)(hu:PDO X Z hi th):PD X Z (.Subscript e (.Slice lo hi none p2) pos) (Nl te tl th):=
 ZO (I0 zcS he hl hu) λσ H Qv ⟨r,dl,S,Q,rs,aS,h,ret⟩=>by
  unfold Nl at h;refine⟨r,dl,S,_,rs,aS,h,λv H1 r1 d S1 e1 aB p1 q1=>⟨r1,dl,S1,_,rs.ext e1,aB,q1,λl H2 r2 S2 e2 aC q2=>⟨r2,dl,S2,_,rs.ext (e1.trans e2),aC,q2,λu H3 r3 S3 e3 aD q3=>?_⟩⟩⟩;cases p1 with
  | @ref n a hn=>
   dsimp only at q3;split at q3
   .rename_i o eo;obtain⟨eo,eL⟩:=XM eo;obtain⟨a',ha,ob⟩:=aD.at eo;rw[e3.adr _ _ (e2.adr _ _ hn)] at ha;cases ha
    obtain⟨xs,sq,pr⟩:=ob.list eL;refine⟨a,xs,rfl,sq,λp hp=>?_⟩;obtain⟨aE,x⟩:=aD.push hp (pr.cut l u);exact ret _ _ _ (.ref S3.length) _ (e1.trans (e2.trans (e3.trans x))) aE (Wo aD.len) q3
   .exact q3.elim
  | _=>exact(show False from q3).elim
theorem TY {te:TDE}{tl th:TDO}{dl:Ev}{S S3:Sto}{Q:DK}{n:Nat}{o:Ob}{lo hi:Option Int}(h:∀K:DK,K (.ref n) S3->te dl S K)(hl:∀K:Option Int->Sto->Prop,K lo S3->tl dl S3 K)(hh:∀K:Option Int->Sto->Prop,K hi S3->th dl S3 K)(ho:S3[n]?=some o)
  (hq:Q (.ref S3.length) (S3++[.lst (Yv (ZC o) lo hi)]))(hL:Wl o=some o:=by rfl):Nl te tl th dl S Q:=by
 unfold Nl;refine h _ (hl _ (hh _ ?_));simp only[Yo ho hL];exact hq
end
section
variable {X:Cx}{Z:Zx}{pos:Pos}
theorem Rps.put {r:List Addr}{H:Hp}{ds:List D}{vs:List V}{d:D}{v:V}(h:Rps r H ds vs)(p:Rp r H d v)(j:Nat):Rps r H (ds.set j d) (vs.set j v):=by
 refine⟨by simp[h.1],λi x y h1 h2=>?_⟩;by_cases z:j=i
 .subst z;have hl:j<ds.length:=by
   have:=(zE.mp h1).1;simpa using this
  rw[yI hl] at h1;rw[yI (by rw[<- h.1];exact hl)] at h2;cases h1;cases h2;exact p
 .rw[yD z] at h1 h2;exact h.2 i x y h1 h2
@[irreducible] def OH (to ti te:TDE):TDS:=λE dl S=>te dl S λv S1=>to dl S1 λd S2=>ti dl S2 λi S3=>match d,i with
 | .ref n,.int k=>match S3[n]? with
  | some (.lst xs)=>match ixN xs.length k with
   | some j=>E.nx dl (S3.set n (.lst (xs.set j v)))
   | none=>False
  | _=>False
 | _,_=>False
theorem Dk (ho:PD X Z o to)(hi:PD X Z i ti)(he:PD X Z e te)(hs:swapsWithSole [.Subscript o i p2] e pos.line X.env=pure false:=by rfl)(hw:swappedStores [.Subscript o i p2] e X.env=pure none:=by rfl)(h1:(assignEach [.Subscript o i p2] X.env).map (·.2)=[assign (.Subscript o i p2) X.env]:=by rfl)(ha:∀v,assign (.Subscript o i p2) X.env v=(do let ov <- holding [v] (eval o X.env);let iv <- holding [v,ov] (eval i X.env);standAt p2;holding [v,ov,iv] (setItem ov iv v);release [v,ov,iv] []):=by intro _;rfl):PDS X Z (.Assign [.Subscript o i p2] e pos) (OH to ti te):=
 XT (zdu he (zbD ho hi C7 ha) hs hw h1) λF σ H ⟨r,dl,S,E,rs,aS,h,ret⟩=>by
  unfold OH at h;refine⟨r,dl,S,_,rs,aS,h,λv H1 r1 dv S1 e1 aB p1 q1=>⟨r1,dl,S1,_,rs.ext e1,aB,q1,λx H2 r2 d S2 e2 aC pd q2=>⟨r2,dl,S2,_,rs.ext (e1.trans e2),aC,q2,λy H3 r3 di S3 e3 aD pi q3=>?_⟩⟩⟩;cases pd with
  | @ref n a hn=>
   cases pi with
   | int k=>
    dsimp only at q3;split at q3
    .rename_i xs eS;split at q3
     .rename_i j ej;have hn3:=e3.adr _ _ hn;obtain⟨ys,eH,pr⟩:=aD.b.ob n a _ hn3 eS;obtain⟨aE,x4⟩:=aD.set hn3 eS (pr.put (p1.ext (e2.trans e3)) j);exact⟨a,ys,k,j,rfl,rfl,eH,by rw[<- pr.1];exact ej,ret.nx _ _ r3 _ _ (e1.trans (e2.trans (e3.trans x4))) (rs.ext (e1.trans (e2.trans (e3.trans x4)))) aE q3⟩
     .exact q3.elim
    .exact q3.elim
   | _=>exact(show False from q3).elim
  | _=>exact(show False from q3).elim
def UO (f:D->D->Option Bool):List D->D->Option (Option Nat)
 | [],_=>some none
 | y::ys,x=>match f y x,UO f ys x with
  | some true,some _=>some (some 0)
  | some false,some o=>some (o.map (·+1))
  | _,_=>none
theorem Jv:∀ {ys:List D} {o:Option Nat},UO f ys x=some o->(∀y∈ys,∃c,f y x=some c)/\∀j,o=some j->(∃y,ys[j]?=some y/\f y x=some true)/\∀m y,m<j->ys[m]?=some y->f y x=some false
 | [],o,e=>by
  have h:=Option.some.inj e;subst h;exact⟨(λy hy=>by cases hy),λj z=>by cases z⟩
 | y::ys,o,e=>by
  unfold UO at e;split at e
  .rename_i o1 e1 e2;have h:=Option.some.inj e;subst h;obtain⟨h1,_⟩:=Jv e2;refine⟨λz hz=>?_,λj hj=>?_⟩
   .rcases zB.mp hz with rfl|hz
    .exact⟨true,e1⟩
    .exact h1 z hz
   .cases hj;exact⟨⟨y,rfl,e1⟩,λm z hm=>()⟩
  .rename_i o1 e1 e2;have h:=Option.some.inj e;subst h;obtain⟨h1,h2⟩:=Jv e2;refine⟨λz hz=>?_,λj hj=>?_⟩
   .rcases zB.mp hz with rfl|hz
    .exact⟨false,e1⟩
    .exact h1 z hz
   .obtain⟨k,rfl,rfl⟩:=yA.mp hj;obtain⟨⟨z,hz1,hz2⟩,h3⟩:=h2 k rfl;refine⟨⟨z,by simpa using hz1,hz2⟩,λm w hm hw=>?_⟩;cases m with
    | zero=>
     have:w=y:=by simpa using hw.symm
     rw[this];exact e1
    | succ m=>exact h3 m w () (by simpa using hw)
  .cases e
theorem zdB {k:Nat}{aA:LA}{σ:St}{H:Hp}{s:Shared}{r:List Addr}{A:Around}{ds:List D}{vs:List V}{us:List Value}{dx:D}{x:V}{u:Value}{j:Nat}(I:Inv X aA σ H s)(hu:A.units+k<cLine)
  (p:Rps r H ds vs)(rv:Zt vs us)(px:Rp r H dx x)(rx:Zm x u)(e:UO (eqN k) ds dx=some (some j)):
  ∃g:Value->Bool,(∀y,y∈us.toArray->SeqAt.EqAt A s y u (g y))/\∃hj:j<us.toArray.size,g us.toArray[j]=true/\∀m (hm:m<us.toArray.size),m<j->g us.toArray[m]=false:=by
 obtain⟨h1,h2⟩:=Jv e;obtain⟨⟨yj,hyj,htj⟩,hno⟩:=h2 j rfl
 classical
 have at_:∀(m:Nat)(hm:m<us.length),∃d v,ds[m]?=some d/\Rp r H d v/\Zm v us[m]:=λm hm=>by
  have hv:m<vs.length:=by rw[rv.length];exact hm
  have gv:vs[m]?=some vs[m]:=by simp[hv]
  obtain⟨w,gw,rw'⟩:=rv.get gv;obtain⟨d,gd,pd⟩:=p.get' gv;have ew:w=us[m]:=by
   rw[zD hm] at gw;exact(Option.some.inj gw).symm
  subst ew;exact⟨d,_,gd,pd,rw'⟩
 have val:∀(m:Nat)(hm:m<us.length)(d:D)(c:Bool),ds[m]?=some d->eqN k d dx=some c->decide (∃d v,d∈ds/\Rp r H d v/\Zm v us[m]/\eqN k d dx=some true)=c:=λm hm d c hd hc=>by
  obtain⟨d',v',gd,pd,rd⟩:=at_ m hm;rw[hd] at gd;cases gd
  cases c with
  | true=>exact decide_eq_true ⟨d,v',zT hd,pd,rd,hc⟩
  | false=>
   refine decide_eq_false λ⟨d2,v2,_,pd2,rd2,hc2⟩=>?_
   have ev:=FV rd rd2;subst ev;exact absurd (Kc k d d2 dx v' false true pd pd2 hc hc2) ⋯
 refine⟨λy=>decide (∃d v,d∈ds/\Rp r H d v/\Zm v y/\eqN k d dx=some true),λy hy=>?_,?_⟩
 .have hy':y∈us:=by simpa using hy
  obtain⟨m,hm,rfl⟩:=yW.mp hy';obtain⟨d,v,gd,pd,rd⟩:=at_ m hm;obtain⟨c,hc⟩:=h1 d (zT gd);show SeqAt.EqAt A s us[m] u (decide _);rw[val m hm d c gd hc];exact UY k X aA σ H s r A d dx v x _ u c I hu pd px rd rx hc
 .have hjl:j<us.length:=by
   have:=(zE.mp hyj).1;rw[p.1,rv.length] at this;exact this
  refine⟨by simpa using hjl,?_,λm hm hmj=>?_⟩
  .have z:=val j hjl yj true hyj htj;simpa using z
  .have hm':m<us.length:=by simpa using hm
   obtain⟨d,v,gd,pd,rd⟩:=at_ m hm';have z:=val m hm' d false gd (hno m d hmj gd);simpa using z
def Mj (k:Nat)(d y:D)(S:Sto)(Q:DK):Prop:=match d with
 | .ref n=>match lAt S n with
  | some o=>match UO (eqN k) (ZC o) y with
   | some (some j)=>Q (.int (j:Int)) S
   | _=>False
  | none=>False
 | _=>False
@[irreducible] def Om (k:Nat)(to:TDE)(t:TDA):TDE:=λdl S Q=>to dl S λd S1=>(match d with
 | .ref n=>(lAt S1 n).isSome=true/\t dl S1 λds S2=>match ds with
  | [y]=>Mj k d y S2 Q
  | _=>False
 | _=>False)
theorem Ak (hr:ZG j X.A)(hk:k<=3):MtR X "list.index" (λx xs H Qv=>∃(r:List Addr)(S:Sto)(d y:D)(v:V)(Q:DK),Rel X.K Z r S H/\Rp r H d x/\xs=[v]/\Rp r H y v/\Mj k d y S Q/\Ret X.K Z r H Q Qv):=by
 intro aA s σ H x xs v us Qv I rx rv h;obtain⟨r,S,d,y,v1,Q,aS,pd,rfl,py,q,ret⟩:=h;obtain⟨u,rfl,ru⟩:=Xw rv;unfold Mj at q;split at q
 .rename_i n;split at q
  .rename_i o eo;obtain⟨eo,eL⟩:=XM eo;split at q
   .rename_i i ei;cases pd with
    | @ref n a hn=>
     cases rx;obtain⟨a',ha,ob⟩:=aS.at eo;rw[hn] at ha;cases ha
     obtain⟨ys,sq,pr⟩:=ob.list eL;obtain⟨aQ,ri,pl,hz⟩:=I.list sq;have hun:=hr.un;obtain⟨g,g1,hj,g2,g3⟩:=zdB (A:=X.A.in1) I (by show X.A.units+1+k<_;lia) pr ri py ru ei;obtain⟨ob2,m,e,c,hd,hdat⟩:=pl;obtain⟨oc,od,odat,osl⟩:=ob2;have c':oc=.type "list":=c
     have hdat':odat=.seq aQ.toArray m:=hdat;subst c' hdat';refine call_meets PySem.F.slot_list_index ⟨_,e,rfl⟩ PySem.F.entry_list_index (PySem.F.args_list_index_2 _ _) (PySem.SeqAt.list_indexAt a aQ.toArray m od osl u g i hj (by
      have:aQ.toArray.size<=sizeLine:=by rw[zM,<- ri.length];exact hz
      have h2:=TJ;lia) g2 λm hm h2=>g3 m hm h2) ⟨e,g1,?_⟩
     exact⟨.int (i:Int),H,I.tok _,⟨_,rfl⟩,ret _ H r (.int _) S Ext.refl aS (.int _) q⟩
   .exact q.elim
  .exact q.elim
 .exact q.elim
theorem zd3 (hr:ZG j X.A)(hk:k<=3)(ho:PD X Z o to)(ha:PDA X Z [e] t)(hbase:attributeBase o "index" X.env (eval o X.env)=eval o X.env:=by rfl)(hfew:((backTo aH (starEach [e] X.env)).all (λx=>!x.1)&&(backToKw aH (keywordEach [] X.env)).all (λx=>x.1.isSome)
  &&decide ([e].length+([]:List Keyword).length+(if ([]:List Keyword).isEmpty then 0 else 1)<30))=true:=by rfl)(hline:(aI.endLine==aH.line)=true:=by rfl)(hs:starEach [e] X.env=(false,eval e X.env)::starEach [] X.env:=by rfl)(hplain:(backTo aH (starEach [] X.env)).any (·.1)=false:=by rfl):
  PD X Z (.Call (.Attribute o "index" aI) [e] [] aH) (Om k to t):=
 ZO (Ug (T:="list") PySem.F.plainAttrs_list PySem.F.slot_list_index PySem.F.type_list_index (Ak (Z:=Z) hr hk) ho ha hbase hfew hline hs hplain) λσ H Qv ⟨r,dl,S,Q,rs,aS,h,ret⟩=>by
  unfold Om at h;refine⟨r,dl,S,_,rs,aS,h,λv H1 r1 d S1 e1 aB p1 q1=>?_⟩;cases p1 with
  | @ref n a hn=>
   obtain⟨aN,q1⟩:=q1;obtain⟨o1,eo⟩:=yV.mp aN;obtain⟨eo,eL⟩:=XM eo;obtain⟨a',ha',ob⟩:=aB.at eo;rw[hn] at ha';cases ha'
   obtain⟨xs,sq,_⟩:=ob.list eL;refine⟨.inl ⟨rfl,xs,sq⟩,r1,dl,S1,_,rs.ext e1,aB,q1,λvs H2 r2 ds S2 e2 aC p2 q2=>?_⟩;split at q2
   .rename_i y;obtain⟨v2,vs',rfl,p3,p4⟩:=p2.uncons;have z:=p4.unnil;subst z;exact⟨r2,S2,.ref n,y,v2,Q,aC,.ref (e2.adr _ _ hn),rfl,p3,q2,ret.ext (e1.trans e2)⟩
   .exact q2.elim
  | _=>exact(show False from q1).elim
end
section
variable {X:Cx}{aA:LA}{σ:St}{H:Hp}{s:Shared}{h':Heap}
theorem CD {t':Nat}{ch:List Addr}{T:Addr}{xs:List V}{vals:Array Value}(I:Inv X aA σ H s)(k:∀b o,b ∉ ch->s.heap.get? b=some o->h'.get? b=some o)(hch:∀b∈ch,Xo X aA H b)
  (hT:s.heap.objs.size<=T)(ht:h'.IsTuple T vals)(rv:Zt xs vals.toList)(hl:xs.length<=sizeLine):Inv X aA σ (upd H T (.tup xs)) { s with heap:=h',toks:=t' }:=by
 have hTn:H T=none:=I.hok.fresh hT
 have old:∀ {b:Addr} {o:Obj},s.heap.get? b=some o->b≠T:=λ{b o} e z=>absurd (zK (Heap.lt_size e) hT) (by rw[z];exact yB _)
 have trk:∀b u,H b=some u->b ∉ ch:=λb u e z=>by
  rw[(hch b z).1] at e;cases e
 have up:∀b u,H b=some u->(upd H T (.tup xs)) b=some u:=X8 hTn;refine I.step (g':=s.gens) (d':=s.drawn) (ch:=ch) (λb hb=>?_) (λb o _ _ hc e _=>k b o hc e) (λb o _ _ hc e _=>⟨o.slots,k b o hc e⟩) (λb o _ e n=>by rw[Z1 (old e)];exact n)
  (λb o hc e=>⟨o,k b o hc e⟩) (λb ys e=>up _ _ e) (λb o u e=>up _ _ e) (λb ps e=>⟨#[],by rw[up _ _ e];simp⟩) (λm hm=>?_) (λb u e=>?_) I.bare
 .obtain⟨_,f1,_,f3,f4,f5⟩:=hch b hb;exact⟨f3,f1,f4,f5⟩
 .obtain⟨o,es,ep,ho,r⟩:=hm;exact⟨o,es,ep,k _ o (λz=>(hch _ z).2.1 rfl) ho,r⟩
 .by_cases hb:b=T
  .subst hb;rw[Y1] at e;cases e;exact⟨hl,vals.toList,rv,by rw[Array.toArray_toList];exact ht⟩
  .rw[Z1 hb] at e;refine(I.hok b u e).stay (λc v hc q=>k c v ?_ q) (λd z=>up _ _ z) λd ys z=>up _ _ z
   rcases hc with z|z
   .rw[z];exact trk b u e
   .exact trk c _ z
theorem FU {t':Nat}{ch:List Addr}(I:Inv X aA σ H s)(k:∀b o,b ∉ ch->s.heap.get? b=some o->h'.get? b=some o)(hch:∀b∈ch,Xo X aA H b):Inv X aA σ H { s with heap:=h',toks:=t' }:=by
 have trk:∀b u,H b=some u->b ∉ ch:=λb u e z=>by
  rw[(hch b z).1] at e;cases e
 refine I.step (g':=s.gens) (d':=s.drawn) (ch:=ch) (λb hb=>?_) (λb o _ _ hc e _=>k b o hc e) (λb o _ _ hc e _=>⟨o.slots,k b o hc e⟩) (λb o _ e n=>n)
  (λb o hc e=>⟨o,k b o hc e⟩) (λb ys e=>e) (λb o u e=>e) (λb ps e=>⟨#[],by rw[e];simp⟩) (λm hm=>?_) (λb u e=>?_) I.bare
 .obtain⟨_,f1,_,f3,f4,f5⟩:=hch b hb;exact⟨f3,f1,f4,f5⟩
 .obtain⟨o,es,ep,ho,r⟩:=hm;exact⟨o,es,ep,k _ o (λz=>(hch _ z).2.1 rfl) ho,r⟩
 .refine(I.hok b u e).stay (λc v hc q=>k c v ?_ q) (λd z=>z) λd ys z=>z
  rcases hc with z|z
  .rw[z];exact trk b u e
  .exact trk c _ z
end
def Ite (K:Fg)(a:Addr):It:=
 ⟨λi H=>∃xs x,SqL K H a xs/\xs[i]?=some x,λi H x H'=>∃T v,x=.ref T/\H T=none/\H'=upd H T (.tup [.int (i:Int),v])/\∀xs,SqL K H a xs->xs[i]?=some v,λi H=>∃xs,SqL K H a xs/\xs.length=i⟩
theorem za4 {P:Program}{w:World}{K:Fg}{aK:List Expr}{kk:Nat}{tp:Pos}(a e it:Addr)(hei:e≠it)(hae:a≠e)(hai:a≠it):
  Qj P w K (.Tuple aK kk tp) (Ite K a) [e,it] e (λi h=>(∃old,IsEnum h e it i old)/\h.IsListIter it a i) where
 mem:=by simp
 obj:=λi h st b hb=>by
  obtain⟨⟨old,he⟩,o,e1,c,d⟩:=st;have hb':b=e\/b=it:=by simpa using hb
  rcases hb' with rfl|rfl
  .exact⟨_,he,λv z=>by cases z⟩
  .exact⟨o,e1,λv z=>by rw[d] at z;cases z⟩
 keep:=λi h h' st k=>by
  obtain⟨⟨old,he⟩,hit⟩:=st;exact⟨⟨old,k e (by simp) _ he⟩,hit.at λo x=>k it (by simp) o x⟩
 item:=by
  intro X hP hw hK hc i aA s σ H E I hf st hg;subst hP hw hK;obtain⟨xs,x,hq,hx⟩:=hg;obtain⟨aQ,rv,p,hz⟩:=I.list hq;obtain⟨u,hu,ru⟩:=rv.get hx;have hi:i<aQ.toArray.size:=by
   have:=(zE.mp hu).1;simpa using this
  have W:=WalksT.enumerate (prog:=X.prog) (w:=X.w) (A:=X.A) (I.ok.hd hc) e it a hei hae hai aQ.toArray;refine W.item i s _ _ hi ⟨st.1,st.2,p.isList⟩ λT vals h' tk hP hT ht mid k1=>?_
  obtain⟨t,y,hy,rfl⟩:=hP;have ey:y=u:=by
   have z:aQ[i]?=some y:=by simpa using hy
   rw[hu] at z;exact(Option.some.inj z).symm
  subst ey;have hw:∀b∈[e,it],Xo X aA H b:=hf
  have I1:Inv X aA σ (upd H T (.tup [.int (i:Int),x])) { s with heap:=h',toks:=tk }:=CD I k1 hw hT ht (.cons ⟨t,rfl⟩ (.cons ru .nil)) (show 2<=sizeLine from XW ⋯)
  have neT:∀b∈[e,it],b≠T:=λb hb z=>W.apart i T h' mid (z ▸ hb)
  have hf1:∀b∈[e,it],Xo X aA (upd H T (.tup [.int (i:Int),x])) b:=λb hb=>⟨by rw[Z1 (neT b hb)];exact(hf b hb).1,(hf b hb).2⟩
  refine⟨.ref T,rfl,W.go aK kk tp i T _ _ _ mid λh2 st2 k2=>?_⟩;have I2:Inv X aA σ (upd H T (.tup [.int (i:Int),x])) { s with heap:=h2,toks:=tk }:=FU (s:={ s with heap:=h',toks:=tk }) (t':=tk) I1 k2 hf1;exact⟨.ref T,_,I2,rfl,⟨T,x,rfl,I.hok.fresh hT,rfl,λys hy=>by rw[I.list_inj hy hq];exact hx⟩,⟨st2.1,st2.2.1⟩,λb hb=>(hf1 b hb).1⟩
 done:=by
  intro X hP hw hK hc i aA s σ H E I hf st hg;subst hP hw hK;obtain⟨xs,hq,hx⟩:=hg;obtain⟨aQ,rv,p,hz⟩:=I.list hq;have W:=WalksT.enumerate (prog:=X.prog) (w:=X.w) (A:=X.A) (I.ok.hd hc) e it a hei hae hai aQ.toArray
  have hi:i=aQ.toArray.size:=by rw[zM,<- rv.length];exact hx.symm
  subst hi;exact W.done s _ _ ⟨st.1,st.2,p.isList⟩ λh' tk k1=>⟨rfl,FU (t':=tk) I k1 hf⟩
 self:=λA i s Q E st h=>by
  obtain⟨⟨old,he⟩,_⟩:=st;exact wpAny_pyIter_enum he h
section
variable {X:Cx}
def iEnum (K:Fg)(ta:TA):TI:=λσ H R=>ta σ H λvs H1=>∃a,vs=[.ref a]/\(∃xs,SqL K H1 a xs)/\R (Ite K a) H1
theorem zel {a:Expr}{ta:TA}{p pos tp:Pos}{aK:List Expr}{kk:Nat}(hg:Gl X "enumerate")(hm:X.mg "enumerate"=none)(hv:bootBuiltins "enumerate"=some (.type "enumerate"))(ha:PA X [a] ta)(hs:starEach [a] X.env=[(false,eval a X.env)]:=by rfl):
  PI X (.Tuple aK kk tp) (.Call (.Name "enumerate" p) [a] [] pos) (iEnum X.K ta):=by
 intro aA s σ H R I h;refine Call_ (TC I hg hm hv (PyProof.Rows.callWith_type1 (thn (ha pos aA s σ H _ I h) λus s1 ⟨vs,H1,I1,r1,q1⟩=>?_) hs rfl));obtain⟨l,e,⟨xs,hq⟩,q⟩:=q1;subst e;cases r1 with
 | cons r rr=>
  cases rr;cases r;obtain⟨aQ,rv,pl,hz⟩:=I1.list hq;have hll:l<s1.heap.objs.size:=by
   obtain⟨o,e,_⟩:=pl.isList;exact Heap.lt_size e
  refine call_enumerate_list pl.isList λh' he hit hsz hk=>?_
  have I2:Inv X aA σ H1 { s1 with heap:=h' }:=I1.kept (t':=s1.toks) hk;refine wpAny_pyIter_enum he ⟨s1.heap.objs.size+1,[s1.heap.objs.size+1,s1.heap.objs.size],_,_,H1,rfl,I2,za4 l _ _ (Nat.succ_ne_self _) (zI (Nat.lt_succ_of_lt hll)) (zI hll),⟨⟨_,he⟩,hit⟩,λb hb=>?_,q⟩;have hb':b=s1.heap.objs.size+1\/b=s1.heap.objs.size:=by simpa using hb
  rcases hb' with rfl|rfl
  .exact I1.fpOk (xI _) (I1.hok.fresh (xI _))
  .exact I1.fpOk (zA _) (I1.hok.fresh (zA _))
end
section
variable {X:Cx}
end
section
variable {X:Cx}{Z:Zx}{pos:Pos}
@[irreducible] def N8 (is:List Nat)(ta:TDA)(tb:TDS):TDS:=λE dl S=>ta dl S λds S1=>match ds with
 | [.ref n]=>(lAt S1 n).isSome=true/\∃W:Nat->Nat->Ev->Sto->Prop,(∃m,W 0 m dl S1)/\∀k m dl S,W k m dl S->match lAt S n with
  | some o=>match (ZC o)[k]? with
   | some x=>tb { nx:=λdl' S'=>∃m',m'<m/\W (k+1) m' dl' S',rt:=E.rt,bk:=E.nx,ct:=λdl' S'=>∃m',m'<m/\W (k+1) m' dl' S' } (UP is [.int (k:Int),x] dl) S
   | none=>k=(ZC o).length/\E.nx dl S
  | none=>False
 | _=>False
theorem TV {r r':List Addr}{S':Sto}{H':Hp}{n:Nat}{a:Addr}{o:Ob}(hn:r'[n]?=some a)(aS:Z5 X.K r' S' H')(eo:lAt S' n=some o):∃xs,SqL X.K H' a xs/\Rps r' H' (ZC o) xs:=by
 obtain⟨eo,eL⟩:=XM eo;obtain⟨a',ha,ob⟩:=aS.at eo;rw[hn] at ha;cases ha
 exact ob.list eL
theorem II {aO:Expr}{body:List Stmt}{es:List Expr}{kk:Nat}{tp p aJ:Pos}{is:List Nat}{ta:TDA}{tb:TDS}(hp:PassesOwn (mX X) X.A X.env X.xe)(hc:X.calm=true)(hN:X.N.Nodup)(hn:Nms X es is)(h2:is.length=2)
  (hg:Gl X "enumerate")(hm:X.mg "enumerate"=none)(hv:bootBuiltins "enumerate"=some (.type "enumerate"))(ha:PDA X Z [aO] ta)(hb:Xy X Z body tb)
  (aL:(assignEach es X.env).length=is.length:=by rfl)(hst:(assignEach es X.env).findIdx? (·.1)=none:=by rfl)(hse:starEach [aO] X.env=[(false,eval aO X.env)]:=by rfl)
  (hs:∀y,foldedSetIterable (.Call (.Name "enumerate" p) [aO] [] aJ) X.env y=pure y:=by intro _;rfl):PDS X Z (.For (.Tuple es kk tp) (.Call (.Name "enumerate" p) [aO] [] aJ) body [] pos) (N8 is ta tb):=
 XT (PR hp hc (zel hg hm hv ha hse) (JA hc (Ms hN hn) aL hst) hb hs) λF σ H ⟨r,dl,S,E,rs,aS,h,ret⟩=>by
  unfold N8 at h;refine⟨r,dl,S,_,rs,aS,h,λvs H1 r1 ds S1 x1 aB p1 q1=>?_⟩;split at q1
  .rename_i n;obtain⟨v,vs',rfl,p2,p3⟩:=p1.uncons;have z:=p3.unnil;subst z;cases p2 with
   | @ref n a hr=>
    obtain⟨aN,W,⟨m0,w0⟩,turn⟩:=q1;obtain⟨o1,eo1⟩:=yV.mp aN;obtain⟨xs1,sq1,_⟩:=TV (r:=r1) hr aB.b eo1;refine⟨a,rfl,⟨xs1,sq1⟩,λk m σ' H'=>∃r' dl' S',Ext r1 r' H1 H'/\Rs r' H' dl' σ'/\Rel X.K Z r' S' H'/\W k m dl' S',⟨m0,r1,dl,S1,Ext.refl,rs.ext x1,aB,w0⟩,?_⟩;rintro k m σ2 H2 ⟨r2,dl2,S2,x2,rs2,aC,w2⟩;have q:=turn k m dl2 S2 w2;split at q
    .rename_i o eo;obtain⟨xs,sq,pr⟩:=TV (r:=r2) (x2.adr _ _ hr) aC.b eo;split at q
     .rename_i y ey;obtain⟨v,hvv,pv⟩:=pr.get ey;refine .inr ⟨⟨xs,v,sq,hvv⟩,λσ' H'=>∃m',m'<m/\∃r' dl' S',Ext r1 r' H1 H'/\Rs r' H' dl' σ'/\Rel X.K Z r' S' H'/\W (k+1) m' dl' S',λ_ _ z=>z,λv' H' y'=>?_⟩;obtain⟨T,w,rfl,hT,rfl,hw⟩:=y';have ew:w=v:=by
       have z:=hw xs sq;rw[hvv] at z;exact(Option.some.inj z).symm
      subst ew;have x3:Ext r2 r2 H2 (upd H2 T (.tup [.int (k:Int),w])):=Kg hT
      have pp:Rps r2 (upd H2 T (.tup [.int (k:Int),w])) [.int (k:Int),y] [.int (k:Int),w]:=Rps.cons (.int _) (Rps.cons (pv.ext x3) Rps.nil)
      have aD:=aC.same (X8 (o:=.tup [.int (k:Int),w]) hT)
      have go:∀σ' H' r' dl' S',Ext r2 r' (upd H2 T (.tup [.int (k:Int),w])) H'->Rs r' H' dl' σ'->Rel X.K Z r' S' H'->(∃m',m'<m/\W (k+1) m' dl' S')->∃m',m'<m/\∃r' dl' S',Ext r1 r' H1 H'/\Rs r' H' dl' σ'/\Rel X.K Z r' S' H'/\W (k+1) m' dl' S':=
       λσ' H' r' dl' S' x rs' rel' ⟨m',hm,w'⟩=>⟨m',hm,r',dl',S',x2.trans (x3.trans x),rs',rel',w'⟩
      refine⟨T,[.int (k:Int),w],rfl,SqT.of Y1,by rw[h2];rfl,by rw[h2];rfl,r2,_,S2,_,Jb (rs2.ext x3) pp,aD,q,⟨go,λσ' H' r' dl' S' x rs' rel' z=>ret.nx σ' H' r' dl' S' (x1.trans (x2.trans (x3.trans x))) rs' rel' z,go,ret.rt.ext (x1.trans (x2.trans x3))⟩⟩
     .obtain⟨hk,q⟩:=q;exact .inl ⟨⟨xs,sq,by rw[<- pr.1];exact hk.symm⟩,ret.nx σ2 H2 r2 dl2 S2 (x1.trans x2) rs2 aC q⟩
    .exact q.elim
  .exact q1.elim
end
section
variable {X:Cx}{Z:Zx}{pos:Pos}
def wInT (k:Nat)(neg:Bool):W2:=λx y S Q=>match y with
 | .tup ys=>match XI (eqN k) ys x with
  | some b=>Q (.bl (if neg then !b else b)) S
  | none=>False
 | _=>False
theorem G4 (hr:ZG j X.A)(hk:k<=3):OpR X (compareOp .In) (upO X.K Z (wInT k false)):=by
 intro aA s σ H x y v u Qv I rx ry h;obtain⟨r,S,dx,dy,Q,aS,px,py,q,ret⟩:=h;have hun:=hr.un;cases py with
 | @tup ds xs a e1 l1 f1=>
  have q':(match XI (eqN k) ds dx with|some b=>Q (.bl b) S|none=>False):=q;split at q'
  .rename_i b eb;cases ry;obtain⟨is,ri,ti,_⟩:=UI I e1;obtain⟨g,g1,g2⟩:=GB (A:=X.A.in1) I (by show X.A.units+1+k<_;lia) ⟨l1,f1⟩ ri px rx eb;refine SeqAt.in_tupleAt g ti g1 ?_;rw[g2];exact⟨.bl b,H,I,rfl,ret _ _ _ _ _ Ext.refl aS (.bl b) q'⟩
  .exact q'.elim
 | _=>exact(show False from q).elim
end
structure Dm (K:Fg)(C:Addr)(m aG:Str)(st:Stmt)(ps:List Str) where
 f:Addr
 fd:FuncData
 F:Fun K m aG st f fd
 m:UK K C m f
 b:Y5 K fd ps []
structure Fm (P:Program)(w:World)(K:Fg)(mg:Str->Option Value)(base:Heap)(k:Nat)(C:Addr)(x:Str)(ps:List Str)(sd:Sd) where
 f:Addr
 fd:FuncData
 ok:Yj P w K mg base (CXE P w) k f fd ps (upF K sd)
 m:UK K C x f
 b:Y5 K fd ps []
noncomputable def Dm.mk' {P:Program}{w:World}{K:Fg}{mg:Str->Option Value}{base:Heap}{k:Nat}{C:Addr}{x aG:Str}{st:Stmt}{ps:List Str}{sd:Sd}(d:Dm K C x aG st ps)(h:Yj P w K mg base (CXE P w) k d.f d.fd ps (upF K sd)):Fm P w K mg base k C x ps sd:=
 ⟨d.f,d.fd,h,d.m,d.b⟩
theorem NY:U2 (CXE P w) X (λ_ _ _=>False):=λ_ _ _ _ _ _ _ h=>by
 obtain⟨_,_,_,_,_,_,_,_,_,_,_,_,q⟩:=h;exact q.elim
def Te (c:Addr)(b:Bool)(d:Addr):Option Bool:=if d=c then some b else none
theorem KP {K:Fg}{c C:Addr}{y:Bool}(h:W.kitOne K (.ref c) (.ref C)=some y)(n:Nx K c):∀d b,Te c y d=some b->W.kitOne K (.ref d) (.ref C)=some b/\Nx K d:=λd b e=>by
 unfold Te at e;split at e
 .rename_i z;subst z;cases e;exact⟨h,n⟩
 .cases e
section
variable {X:Cx}{Z:Zx}
theorem zao (hr:ZG k X.A):OpR X (compareOp .In) (upO X.K Z (Xi (wIn 1 false))):=by rw[Xs];exact Fz 1 (by have:=hr.un;lia)
theorem zbi (hr:ZG k X.A):OpR X (compareOp .Eq) (upO X.K Z (Xi (U8 1))):=by rw[Xs];exact Av 1 hr (by have:=hr.un;lia)
end
section
variable {X:Cx}{Z:Zx}{pos:Pos}
theorem DS {k n m:Nat}{a a':Addr}{o o':Ob}{b:Bool}{aA:LA}{σ:St}{H:Hp}{s:Shared}{r:List Addr}{S:Sto}(I:Inv X aA σ H s)(aS:Rel X.K Z r S H)(hn:r[n]?=some a)(hm:r[m]?=some a')(eo:lAt S n=some o)(eo':lAt S m=some o')
  (e:eqL (eqN k) (ZC o) (ZC o')=some b)(hu:X.A.units+1+k<cLine):SeqAt.RcNeAt X.A s (.ref a) (.ref a') (!b):=by
 obtain⟨eo,eL⟩:=XM eo;obtain⟨eo',eL'⟩:=XM eo';obtain⟨z,hz,ob⟩:=aS.at eo;rw[hn] at hz;cases hz
 obtain⟨z,hz,ob'⟩:=aS.at eo';rw[hm] at hz;cases hz
 obtain⟨xs,sq,pr⟩:=ob.list eL;obtain⟨ys,sq',pr'⟩:=ob'.list eL';obtain⟨is,ri,pl,_⟩:=I.list sq;obtain⟨js,rj,pl',_⟩:=I.list sq';obtain⟨g1,g2⟩:=RA (A:=X.A.in1) (UY k) I (by show X.A.units+1+k<_;lia) pr pr' ri rj e;by_cases hs:is.toArray.size=js.toArray.size
 .have q:=SeqAt.RcNeAt.lists (A:=X.A) pl.isList pl'.isList hs () g1
  have e2:(List.range is.toArray.size).all (Ww (eqN k) (ZC o) (ZC o'))=b:=by
   rw[<- g2,<- hs,Nat.min_self];simp
  rw[e2] at q;exact q
 .have q:=SeqAt.RcNeAt.lists_lengths (A:=X.A) pl.isList pl'.isList (by simpa using hs) ()
  have e2:b=false:=by
   rw[<- g2,show (is.toArray.size==js.toArray.size)=false by simpa using hs,xO]
  rw[e2];exact q
theorem zaN (k:Nat)(hr:ZG j X.A)(hu:X.A.units+1+k<cLine):OpR X (compareOp .NotEq) (upO X.K Z (VC k)):=by
 intro aA s σ H x y v u Qv I rx ry h;obtain⟨r,S,dx,dy,Q,aS,px,py,q,ret⟩:=h;have ZM:∀ {dx dy:D} {x y:V},Rp r H dx x->Rp r H dy y->Zm x v->Zm y u->Vd k S dx dy=eqN (k+1) dx dy->VC k dx dy S Q->wpAny (mX X) X.A (compareOp .NotEq v u) (EP X aA σ Qv) X.xe s:=λpx py rx ry e q=>by
  refine Gm (Z:=Z) (UY k) hu aA s σ H _ _ v u Qv I rx ry ⟨r,S,_,_,Q,aS,px,py,?_,ret⟩;unfold VC at q;rw[e] at q;exact q
 cases px with
 | @ref n a hn=>
  cases py with
  | @ref m a' hm=>
   cases rx;cases ry;unfold VC Vd at q;dsimp only at q;split at q
   .rename_i b e;split at e
    .rename_i o o' eo eo';exact DS I aS hn hm eo eo' e hu X.prog X.w X.xe _ ⟨.bl (!b),H,I,rfl,ret _ _ _ _ _ Ext.refl aS (.bl (!b)) q⟩
    .cases e
   .exact q.elim
  | non=>exact ZM (.ref hn) .non rx ry rfl q
  | bl i=>exact ZM (.ref hn) (.bl i) rx ry rfl q
  | int i=>exact ZM (.ref hn) (.int i) rx ry rfl q
  | str i=>exact ZM (.ref hn) (.str i) rx ry rfl q
  | tup a b c=>exact ZM (.ref hn) (.tup a b c) rx ry rfl q
  | exc a=>exact ZM (.ref hn) (.exc a) rx ry rfl q
 | non=>exact ZM .non py rx ry rfl q
 | bl i=>exact ZM (.bl i) py rx ry rfl q
 | int i=>exact ZM (.int i) py rx ry rfl q
 | str i=>exact ZM (.str i) py rx ry rfl q
 | tup a b c=>exact ZM (.tup a b c) py rx ry rfl q
 | exc a=>exact ZM (.exc a) py rx ry rfl q
theorem Ka (hr:ZG k X.A):OpR X (compareOp .NotEq) (upO X.K Z (Xi (VC 1))):=by rw[Xs];exact zaN 1 hr (by have:=hr.un;lia)
def OK:W2:=λx y S Q=>match x,y with
 | .ref n,.ref m=>match S[n]?,S[m]? with
  | some (.lst xs),some (.lst ys)=>xs.length+ys.length<=1000/\Q (.ref S.length) (S++[.lst (xs++ys)])
  | _,_=>False
 | _,_=>False
theorem Rps.app {r:List Addr}{H:Hp}:∀ {ds es:List D} {xs ys:List V},Rps r H ds xs->Rps r H es ys->Rps r H (ds++es) (xs++ys)
 | [],es,xs,ys,p,q=>by
  have z:=p.unnil;subst z;exact q
 | d::ds,es,xs,ys,p,q=>by
  obtain⟨v,vs,rfl,p1,p2⟩:=p.uncons;exact Rps.cons p1 (p2.app q)
theorem WY:OpR X (binaryOp .Add) (upO X.K Z (Xi OK)):=by
 rw[Xs];exact SW zat λx y H Qv ⟨r,S,dx,dy,Q,aS,px,py,q,ret⟩=>by
  unfold OK at q;split at q
  .rename_i n m;split at q
   .rename_i xs ys e1 e2;obtain⟨hl,q⟩:=q;cases px with
    | @ref _ a hn=>
     cases py with
     | @ref _ a' hm=>
      obtain⟨z,hz,ob⟩:=aS.at e1;rw[hn] at hz;cases hz
      obtain⟨z,hz,ob'⟩:=aS.at e2;rw[hm] at hz;cases hz
      obtain⟨us,h1,p1⟩:=ob;obtain⟨vs,h2,p2⟩:=ob';refine⟨a,a',us,vs,rfl,rfl,h1,h2,?_,λp hp=>?_⟩
      .rw[<- p1.1,<- p2.1];exact XW hl
      .obtain⟨aE,x⟩:=aS.push hp (p1.app p2);exact ret _ _ _ (.ref S.length) _ x aE (Wo aS.len) q
   .exact q.elim
  .exact q.elim
theorem WK (h1:S[n]?=some (.lst xs))(h2:S[m]?=some (.lst ys))(hl:xs.length+ys.length<=1000)(hq:Q (.ref S.length) (S++[.lst (xs++ys)])):Xi OK (.ref n) (.ref m) S Q:=by
 rw[Xs];unfold OK;simp only[h1,h2];exact⟨hl,hq⟩
structure Kx (K:Fg)(C:Addr):Prop where
 cl:Cls K C
 ha:W.findIn K (.ref C) "__class__"=some (some (.builtin "object.__class__"))
 hn:W.specialIn K (.builtin "object.__class__") "__get__"=some (some (.builtin "getset_descriptor.__get__"))
 ht:W.takesIn K (.builtin "object.__class__")=some true
 hm:W.mroIn K C (.type "object")=some true
end
section
variable {X:Cx}{Z:Zx}
def M4:WC:=λds S Q=>match ds with
 | [.int i]=>i.natAbs.log2<1920/\Q (.str (Str.ofString (toString i))) S
 | _=>False
theorem zcP:YJ X (.type "str") (λxs H Q=>∃i:Int,xs=[.int i]/\i.natAbs.log2<1920/\Q (.str (Str.ofString (toString i))) H):=by
 intro aA s σ H xs us Q I r h;obtain⟨i,rfl,hi,q⟩:=h;obtain⟨u,rfl,rx⟩:=Xw r;obtain⟨t,rfl⟩:=rx;exact PySem.P.str_of_int hi ⟨.str _,H,I.tok _,⟨_,rfl⟩,q⟩
theorem TN:YJ X (.type "str") (upC X.K Z M4):=SJ zcP λxs H Qv ⟨r,S,ds,Q,aS,ps,q,ret⟩=>by
 unfold M4 at q;split at q
 .rename_i i;obtain⟨v,vs,rfl,p1,p2⟩:=ps.uncons;have z:=p2.unnil;subst z;cases p1;exact⟨i,rfl,q.1,ret _ _ _ _ _ Ext.refl aS (.str _) q.2⟩
 .exact q.elim
theorem SS (h:i.natAbs.log2<1920)(hq:Q (.str (Str.ofString (toString i))) S):irr M4 [.int i] S Q:=by rw[Us];exact⟨h,hq⟩
def Jm:WC:=λds S Q=>match ds with
 | [.str x]=>∃n,PySem.intText? x=some n/\x.length<=640/\Q (.int n) S
 | _=>False
theorem zcY:YJ X (.type "int") (λxs H Q=>∃x n,xs=[.str x]/\PySem.intText? x=some n/\x.length<=640/\Q (.int n) H):=by
 intro aA s σ H xs us Q I r h;obtain⟨x,n,rfl,hn,hl,q⟩:=h;obtain⟨u,rfl,rx⟩:=Xw r;obtain⟨t,rfl⟩:=rx;exact W.KIN.call_text hn hl ⟨.int n,H,I.tok _,⟨_,rfl⟩,q⟩
theorem Od:YJ X (.type "int") (upC X.K Z Jm):=SJ zcY λxs H Qv ⟨r,S,ds,Q,aS,ps,q,ret⟩=>by
 unfold Jm at q;split at q
 .rename_i x;obtain⟨n,q1,q2,q3⟩:=q;obtain⟨v,vs,rfl,p1,p2⟩:=ps.uncons;have z:=p2.unnil;subst z;cases p1;exact⟨x,n,rfl,q1,q2,ret _ _ _ _ _ Ext.refl aS (.int _) q3⟩
 .exact q.elim
theorem NA (h:PySem.intText? x=some n)(hl:x.length<=640)(hq:Q (.int n) S):irr Jm [.str x] S Q:=by rw[Us];exact⟨n,h,hl,hq⟩
@[irreducible] def Wb (w:Str->D->Sto->DK->Prop)(to:TDE)(t:TDA):TDE:=λdl S Q=>to dl S λd S1=>match d with
 | .str x=>t dl S1 λds S2=>match ds with
  | [y]=>w x y S2 Q
  | _=>False
 | _=>False
def Im:Str->D->Sto->DK->Prop:=λx y S Q=>match y with
 | .int i=>(0<=i/\i<=1000)/\Q (.str (Txt.zfill x i)) S
 | _=>False
def MQ:Str->D->Sto->DK->Prop:=λx y S Q=>match y with
 | .str z=>Q (.bl (Txt.startswith x z)) S
 | _=>False
def J4:Str->D->Sto->DK->Prop:=λx y S Q=>match y with
 | .str z=>(z.length≠0/\x.length<=1000)/\Q (.tup [.str (Txt.partition x z).1,.str (Txt.partition x z).2.1,.str (Txt.partition x z).2.2]) S
 | _=>False
theorem Mw {w:Str->D->Sto->DK->Prop}{to:TDE}{t:TDA}{dl:Ev}{S S1 S2:Sto}{Q:DK}{x:Str}{y:D}(hto:∀K:DK,K (.str x) S1->to dl S K)(ht:∀K:List D->Sto->Prop,K [y] S2->t dl S1 K)(hq:w x y S2 Q):Wb w to t dl S Q:=by
 unfold Wb;exact hto _ (ht _ hq)
theorem zaA:MtR X "str.zfill" (λx xs H Q=>∃z i,x=.str z/\xs=[.int i]/\(0<=i/\i<=1000)/\Q (.str (Txt.zfill z i)) H):=by
 intro aA s σ H x xs v us Q I rx rv h;obtain⟨z,i,rfl,rfl,hi,q⟩:=h;obtain⟨t,rfl⟩:=rx;obtain⟨u,rfl,ru⟩:=Xw rv;obtain⟨t2,rfl⟩:=ru;refine W.KXw.zfill (y:=Txt.zfill z i) rfl ?_ λt' k=>⟨.str _,H,I.kept (t':=k) λb o e=>e,⟨t',rfl⟩,q⟩
 have l:i.toNat<=sizeLine:=XW ();unfold PadOk fitsSsize Builtin.Str.tooLong;rw[zZ,vT,vT,decide_eq_false (show ¬ i < -(2^63:Int) by lia),decide_eq_false (show ¬ i≥(2^63:Int) by lia),decide_eq_false ()];exact⟨rfl,rfl⟩
theorem Ds:MtR X "str.startswith" (λx xs H Q=>∃z y,x=.str z/\xs=[.str y]/\Q (.bl (Txt.startswith z y)) H):=by
 intro aA s σ H x xs v us Q I rx rv h;obtain⟨z,y,rfl,rfl,q⟩:=h;obtain⟨t,rfl⟩:=rx;obtain⟨u,rfl,ru⟩:=Xw rv;obtain⟨t2,rfl⟩:=ru;exact PySem.SC.startswith ⟨.bl _,H,I,rfl,q⟩
theorem zbA:MtR X "str.partition" (λx xs H Q=>∃z y,x=.str z/\xs=[.str y]/\(y.length≠0/\z.length<=1000)/\∀p,H p=none->Q (.ref p) (upd H p (.tup [.str (Txt.partition z y).1,.str (Txt.partition z y).2.1,.str (Txt.partition z y).2.2]))):=by
 intro aA s σ H x xs v us Q I rx rv h;obtain⟨z,y,rfl,rfl,⟨hy,hz⟩,q⟩:=h;obtain⟨t,rfl⟩:=rx;obtain⟨u,rfl,ru⟩:=Xw rv;obtain⟨t2,rfl⟩:=ru;refine call_meets PySem.F.slot_str_partition (typeIs_str _ _ _) PySem.F.entry_str_partition (PySem.F.args_str_partition_2 _ _) (meets_str_partition z y t t2 (by simpa using hy) (XW hz)) ?_;have q':=q;unfold Txt.partition at q'
 revert q'
 cases Builtin.Str.occurrences z y 0 z.length 1 with
 | nil=>
  intro q';refine⟨.ref s.heap.objs.size,_,I.laid (o:=.tup [.str z,.str Str.empty,.str Str.empty]) (λb ob e=>Heap.get?_push_of_some _ e) (zA _) ?_,rfl,q' _ (I.hok.fresh (zA _))⟩;exact⟨XW (by simp),_,.cons ⟨_,rfl⟩ (.cons ⟨_,rfl⟩ (.cons ⟨_,rfl⟩ .nil)),IsTup.new _ _⟩
 | cons i r=>
  intro q';refine⟨.ref s.heap.objs.size,_,I.laid (o:=.tup [.str (Builtin.Str.strSub z 0 i),.str y,.str (Builtin.Str.strSub z (i+y.length) z.length)]) (λb ob e=>Heap.get?_push_of_some _ e) (zA _) ?_,rfl,q' _ (I.hok.fresh (zA _))⟩;exact⟨XW (by simp),_,.cons ⟨_,rfl⟩ (.cons ⟨_,rfl⟩ (.cons ⟨_,rfl⟩ .nil)),IsTup.new _ _⟩
theorem zdL (ho:PD X Z o to)(ha:PDA X Z [e] t)(hbase:attributeBase o "zfill" X.env (eval o X.env)=eval o X.env:=by rfl)(hfew:((backTo aH (starEach [e] X.env)).all (λx=>!x.1)&&(backToKw aH (keywordEach [] X.env)).all (λx=>x.1.isSome)
  &&decide ([e].length+([]:List Keyword).length+(if ([]:List Keyword).isEmpty then 0 else 1)<30))=true:=by rfl)(hline:(aI.endLine==aH.line)=true:=by rfl)(hs:starEach [e] X.env=(false,eval e X.env)::starEach [] X.env:=by rfl)(hplain:(backTo aH (starEach [] X.env)).any (·.1)=false:=by rfl):
  PD X Z (.Call (.Attribute o "zfill" aI) [e] [] aH) (Wb Im to t):=
 ZO (Ug (T:="str") PySem.F.plainAttrs_str PySem.F.slot_str_zfill PySem.F.type_str_zfill zaA ho ha hbase hfew hline hs hplain) λσ H Qv ⟨r,dl,S,Q,rs,aS,h,ret⟩=>by
  unfold Wb at h;refine⟨r,dl,S,_,rs,aS,h,λv H1 r1 d S1 e1 aB p1 q1=>?_⟩;cases p1 with
  | str x=>
   refine⟨rfl,r1,dl,S1,_,rs.ext e1,aB,q1,λvs H2 r2 ds S2 e2 aC p2 q2=>?_⟩;split at q2
   .rename_i y;obtain⟨v2,vs',rfl,p3,p4⟩:=p2.uncons;have z:=p4.unnil;subst z;unfold Im at q2;split at q2
    .rename_i i;cases p3;exact⟨x,i,rfl,rfl,q2.1,ret _ H2 r2 _ S2 (e1.trans e2) aC (.str _) q2.2⟩
    .exact q2.elim
   .exact q2.elim
  | _=>exact(show False from q1).elim
theorem Ar (ho:PD X Z o to)(ha:PDA X Z [e] t)(hbase:attributeBase o "startswith" X.env (eval o X.env)=eval o X.env:=by rfl)(hfew:((backTo aH (starEach [e] X.env)).all (λx=>!x.1)&&(backToKw aH (keywordEach [] X.env)).all (λx=>x.1.isSome)
  &&decide ([e].length+([]:List Keyword).length+(if ([]:List Keyword).isEmpty then 0 else 1)<30))=true:=by rfl)(hline:(aI.endLine==aH.line)=true:=by rfl)(hs:starEach [e] X.env=(false,eval e X.env)::starEach [] X.env:=by rfl)(hplain:(backTo aH (starEach [] X.env)).any (·.1)=false:=by rfl):
  PD X Z (.Call (.Attribute o "startswith" aI) [e] [] aH) (Wb MQ to t):=
 ZO (Ug (T:="str") PySem.F.plainAttrs_str PySem.F.slot_str_startswith PySem.F.type_str_startswith Ds ho ha hbase hfew hline hs hplain) λσ H Qv ⟨r,dl,S,Q,rs,aS,h,ret⟩=>by
  unfold Wb at h;refine⟨r,dl,S,_,rs,aS,h,λv H1 r1 d S1 e1 aB p1 q1=>?_⟩;cases p1 with
  | str x=>
   refine⟨rfl,r1,dl,S1,_,rs.ext e1,aB,q1,λvs H2 r2 ds S2 e2 aC p2 q2=>?_⟩;split at q2
   .rename_i y;obtain⟨v2,vs',rfl,p3,p4⟩:=p2.uncons;have z:=p4.unnil;subst z;unfold MQ at q2;split at q2
    .rename_i i;cases p3;exact⟨x,i,rfl,rfl,ret _ H2 r2 _ S2 (e1.trans e2) aC (.bl _) q2⟩
    .exact q2.elim
   .exact q2.elim
  | _=>exact(show False from q1).elim
theorem AU (ho:PD X Z o to)(ha:PDA X Z [e] t)(hbase:attributeBase o "partition" X.env (eval o X.env)=eval o X.env:=by rfl)(hfew:((backTo aH (starEach [e] X.env)).all (λx=>!x.1)&&(backToKw aH (keywordEach [] X.env)).all (λx=>x.1.isSome)
  &&decide ([e].length+([]:List Keyword).length+(if ([]:List Keyword).isEmpty then 0 else 1)<30))=true:=by rfl)(hline:(aI.endLine==aH.line)=true:=by rfl)(hs:starEach [e] X.env=(false,eval e X.env)::starEach [] X.env:=by rfl)(hplain:(backTo aH (starEach [] X.env)).any (·.1)=false:=by rfl):
  PD X Z (.Call (.Attribute o "partition" aI) [e] [] aH) (Wb J4 to t):=
 ZO (Ug (T:="str") PySem.F.plainAttrs_str PySem.F.slot_str_partition PySem.F.type_str_partition zbA ho ha hbase hfew hline hs hplain) λσ H Qv ⟨r,dl,S,Q,rs,aS,h,ret⟩=>by
  unfold Wb at h;refine⟨r,dl,S,_,rs,aS,h,λv H1 r1 d S1 e1 aB p1 q1=>?_⟩;cases p1 with
  | str x=>
   refine⟨rfl,r1,dl,S1,_,rs.ext e1,aB,q1,λvs H2 r2 ds S2 e2 aC p2 q2=>?_⟩;split at q2
   .rename_i y;obtain⟨v2,vs',rfl,p3,p4⟩:=p2.uncons;have z:=p4.unnil;subst z;unfold J4 at q2;split at q2
    .rename_i i;cases p3;refine⟨x,i,rfl,rfl,q2.1,λp hp=>?_⟩;have x3:Ext r2 r2 H2 (upd H2 p (.tup [.str (Txt.partition x i).1,.str (Txt.partition x i).2.1,.str (Txt.partition x i).2.2])):=Kg hp
     have pp:Rps r2 (upd H2 p (.tup [.str (Txt.partition x i).1,.str (Txt.partition x i).2.1,.str (Txt.partition x i).2.2])) [.str (Txt.partition x i).1,.str (Txt.partition x i).2.1,.str (Txt.partition x i).2.2] [.str (Txt.partition x i).1,.str (Txt.partition x i).2.1,.str (Txt.partition x i).2.2]:=Rps.cons (.str _) (Rps.cons (.str _) (Rps.cons (.str _) Rps.nil));exact ret _ _ r2 _ S2 (e1.trans (e2.trans x3)) (aC.same (X8 hp)) (.tup Y1 pp.1 pp.2) q2.2
    .exact q2.elim
   .exact q2.elim
  | _=>exact(show False from q1).elim
end
theorem zac:typeLookup (.type "list_reverseiterator") "__len__"=pure none:=by rw[typeLookup_type,builtinLookup_eq_fast];kernel_rfl
theorem zaT:typeLookup (.type "list_reverseiterator") "__length_hint__"=pure (some (.builtin "list_reverseiterator.__length_hint__")):=by rw[typeLookup_type,builtinLookup_eq_fast];kernel_rfl
section
variable {n:Nat}{I:Addr}{fp wr:List Addr}{P:Nat->Value->Prop}{St:Nat->Shared->Prop}{prog:Program}{w:World}{A:Around}{s:Shared}{E:Value->Shared->Prop}{G:Array GenState->Array GenState->Prop}
theorem zcU (W:WalksS prog w A.in1 I fp wr G n P St)(hT:∀i s,St i s->s.TypeIs (.ref I) "list_reverseiterator")(hst:St 0 s)(hfp:∀b∈fp,b<s.heap.objs.size)(hI:I∈fp)(hQ:∀s' acc,Moved wr G s s'->s.heap.objs.size<=s'.heap.objs.size->ItemsOf P acc n->Q acc.toList s')(hn:n<=sizeLine):wpAny (model prog w) A (collect (.ref I)) Q E s:=by
 have off:s.heap.objs.size ∉ fp:=λz=>absurd (hfp _ z) (yB _)
 have offI:s.heap.objs.size≠I:=λz=>off (by rw[z];exact hI)
 have neS:Builtin.List.listSameRef (.ref s.heap.objs.size) (.ref I)=false:=by simp[Builtin.List.listSameRef,offI]
 unfold collect;refine wpAny_bind (wpAny_runValue (codeAny_builtin PySem.F.entry_proto_collect ?_))
 rewrite [Around.under_plainId PySem.F.plain_proto_collect _]
 refine wpAny_bind (wpAny_newObj_type ?_) (m:=newList []);refine wpAny_pure ⟨plainId_quiet PySem.F.plain_list_iadd _,codeAny_builtin PySem.F.entry_list_iadd ?_⟩
 rewrite [Around.under_plainId PySem.F.plain_list_iadd _]
 have st1:=W.frame 0 s (s.heap.push { cls:=.type "list",data:=.seq ([]:List Value).toArray }) s.toks hst (zA _) (λb _ o e=>Heap.get?_push_of_some _ e)
 have new1:(s.heap.push { cls:=.type "list",data:=.seq ([]:List Value).toArray }).get? s.heap.objs.size=some { cls:=.type "list",data:=.seq ([]:List Value).toArray }:=Heap.get?_push_size _ (by rfl)
 change wpAny _ A.in1 (Builtin.List.listExtendWith (.ref s.heap.objs.size) (.ref I) (.ref s.heap.objs.size)) _ _ _
 unfold Builtin.List.listExtendWith;refine wpAny_bind (wpAny_typeOf (hT 0 _ st1) ?_)
 rw[if_neg (by rw[neS];decide)];refine wpAny_bind (W.self 0 _ _ _ st1 (wpAny_bind (wpAny_holding ?_)));unfold Builtin.List.listLengthHint;refine wpAny_bind (wpAny_specialOf (hT 0 _ st1) zac ?_)
 change wpAny _ A.in1 (specialOf (Value.ref I) (Str.ofString "__length_hint__") >>= _) _ _ _
 refine wpAny_bind (wpAny_specialOf (hT 0 _ st1) zaT ?_);generalize hid:("list_reverseiterator.__length_hint__":String)=nm
 wp_delta
 have two:splitId nm=some ("list_reverseiterator","__length_hint__"):=by subst hid;decide +kernel
 rw[two];subst hid;refine wpAny_bind (wpAny_isInstance (T:="list_reverseiterator") (b:=true) (hT 0 _ st1) (by rw[isSubtype_type];kernel_rfl) ?_);refine wpAny_pure ?_;rw[if_neg ⋯];refine wpAny_pure ⟨plainId_quiet PySem.F.plain_extend_loop _,codeAny_extend_loopS W hn _ off _ n 0 _ _ _ rfl (zS _) st1 new1 (ItemsOf.nil P) λs' acc' c' hm hS' hacc=>?_⟩;refine wpAny_bind (m:=load s.heap.objs.size) (wpAny_load hS' ?_);exact wpAny_pure (hQ s' acc' (Moved.drop_new (o:={ cls:=.type "list",data:=.seq ([]:List Value).toArray }) (tk:=s.toks) hm (zA _)) (yF (Heap.lt_size hS')) hacc)
theorem B9 (W:WalksS prog w A.in1.in1 I fp wr G n P St)(hT:∀i s,St i s->s.TypeIs (.ref I) "list_reverseiterator")(hst:St 0 s)(hfp:∀b∈fp,b<s.heap.objs.size)(hI:I∈fp)(hstr:∀i v,P i v->∃y u,v=Value.str y u)(hq:∀s' (l:List (Str×Tok)),Moved wr G s s'->s.heap.objs.size<=s'.heap.objs.size->ItemsOf P (strValues l).toArray n->JoinOk x (l.map (·.1))=true/\∀t' k,Q (.str (Txt.join x (l.map (·.1))) t') { s' with toks:=k })(hsz:n<=sizeLine):wpAny (model prog w) A (call (.builtin "str.join") [.str x t,.ref I]) Q E s:=by
 refine wpAny_call (codeAny_call_builtin PySem.F.slot_str_join.plain PySem.F.entry_str_join (PySem.F.slot_str_join.check _ _ _ _ _ _ _ _ (typeIs_str _ _ _) (PySem.F.args_str_join_2 _ _) ?_));rw[join_tree_other];refine wpAny_bind (wpAny_typeOf (hT 0 s hst) ?_)
 show wpAny _ A.in1 ((pyIter (.ref I)).tryCatch _ >>= λit=>collect it >>= λxs=>joinTail x xs) _ _ s;refine wpAny_bind (wpAny_tryCatch (W.of_in1.self 0 s _ _ hst (wpAny_bind (zcU W hT hst hfp hI (λs' acc hm hm2 hacc=>?_) hsz))));obtain⟨l,hl⟩:=exists_strValues acc.toList λv0 hv0=>by
  obtain⟨k0,hk0,rfl⟩:=Array.mem_iff_getElem.mp (Array.mem_toList_iff.mp hv0);exact hstr k0 _ (hacc.2 k0 _ (Array.getElem?_eq_getElem hk0))
 rw[<- hl];obtain⟨hok,hpost⟩:=hq s' l hm hm2 (by rw[hl];simpa using hacc);have fits:Builtin.Str.tooLong ((l.map (·.1)).toArray.foldl (·+·.length+x.length) 0)=false:=by
  unfold JoinOk at hok;simpa using hok
 have gv:Gives (joinTail x (strValues l)) (joinMade x l):=by
  have z:=gives_joinTail x l fits;cases l with
  | nil=>exact z
  | cons p r=>
   cases r with
   | nil=>exact z
   | cons q r'=>exact z
 exact gv prog w A (wants Q E) s' (post_join l ⟨joinFit_length fits,hpost⟩)
end
def Mr (B:Nat)(p l:Addr)(n:Nat):HO:=.ext λh=>h.IsRevIter p l ((n:Int)-1)/\B<=p
def V8 (H:Hp)(p:Addr):Hp:=λa=>if a=p then none else H a
theorem Q2 (h:a≠p):V8 H p a=H a:=if_neg h
theorem zeG:V8 H p p=none:=if_pos rfl
section
variable {X:Cx}{Z:Zx}
theorem Bw:YJ X (.type "reversed") (λxs H Q=>∃l ys,xs=[.ref l]/\H l=some (.lst ys)/\∀p,H p=none->Q (.ref p) (upd H p (Mr X.s₀.heap.objs.size p l ys.length))):=by
 intro aA s σ H xs us Q I r h;obtain⟨l,ys,rfl,hH,q⟩:=h;obtain⟨u,rfl,rx⟩:=Xw r;cases rx;obtain⟨z,aQ,n,rv,hl,e⟩:=I.lstM hH;have il:s.heap.IsList l aQ.toArray:=⟨_,e,rfl,n,rfl⟩;refine call_reversed_list il ?_;have en:((aQ.toArray.size:Nat):Int)-1=((ys.length:Nat):Int)-1:=by rw[zM,rv.length]
 rw[en];refine⟨.ref s.heap.objs.size,_,I.laid (t':=s.toks) (o:=Mr X.s₀.heap.objs.size s.heap.objs.size l ys.length) (λb ob e=>Heap.get?_push_of_some _ e) (zA _) ?_,rfl,q _ (I.hok.fresh (zA _))⟩;exact⟨⟨⟨_,Heap.get?_push_size _ rfl,rfl,rfl⟩,I.sz⟩,⟨_,Heap.get?_push_size _ rfl⟩,λh1 h2 x k=>⟨x.1.at λo e=>k o e,x.2⟩⟩
theorem Dz (hc:X.calm=true):MtR X "str.join" (λx xs H Q=>∃sep p l ys zs,x=.str sep/\xs=[.ref p]/\H p=some (Mr X.s₀.heap.objs.size p l ys.length)/\H l=some (.lst ys)/\(∀us,Zt ys us->StrsAre us zs)/\sep.length=0/\(∀z∈zs,z.length<=200)/\zs.length<=5/\Q (.str (ZM zs.reverse)) (V8 H p)):=by
 intro aA s σ H x xs v us Q I rx rv h;obtain⟨sep,p,l,ys,zs,rfl,rfl,hp,hl,st,h0,hB,hn,q⟩:=h;obtain⟨t,rfl⟩:=rx;obtain⟨u,rfl,ru⟩:=Xw rv;cases ru;obtain⟨z,aQ,n,rv,hz,e⟩:=I.lstM hl;have sr:=st aQ rv
 have il:s.heap.IsList l aQ.toArray:=⟨_,e,rfl,n,rfl⟩
 have ok:Yw X.prog X.w H s.heap p (Mr X.s₀.heap.objs.size p l ys.length):=I.hok p _ hp;obtain⟨⟨ir,above⟩,⟨op,ep⟩,_⟩:=ok;have ne:l≠p:=Pt hl hp (by intro z;cases z)
 have ln:aQ.length=ys.length:=rv.length.symm
 have W:=(Walks.listRev (prog:=X.prog) (w:=X.w) (A:=X.A.in1.in1) (I.ok.hd hc) p l ne aQ.toArray).toS
 have s0:(0:Nat)<=aQ.toArray.size/\s.heap.IsRevIter p l ((aQ.toArray.size:Int)-1-((0:Nat):Int))/\s.heap.IsList l aQ.toArray:=⟨zS _,by
  have e2:((aQ.toArray.size:Nat):Int)-1-((0:Nat):Int)=((ys.length:Nat):Int)-1:=by rw[zM,ln];lia
  rw[e2];exact ir,il⟩
 refine B9 W (λi s st=>st.2.1.typeIs) s0 (λb hb=>?_) (by simp) (λi v hv=>?_) (λs' ls hm hm2 hi=>?_) (by rw[zM];lia)
 .have z:b=p\/b=l:=by simpa using hb
  rcases z with rfl|rfl
  .exact Heap.lt_size ep
  .exact Heap.lt_size e
 .have hv':aQ[aQ.length-1-i]?=some v:=by simpa using hv
  obtain⟨y,u,rfl,_⟩:=sr.item _ _ hv';exact⟨y,u,rfl⟩
 .have lz:zs.length=aQ.length:=sr.len_eq.symm
  have ll:ls.length=aQ.length:=by
   have z:=hi.1;simpa [strValues] using z
  have em:ls.map (·.1)=zs.reverse:=by
   refine List.ext_getElem? λj=>?_
   by_cases hj:j<ls.length
   .have e1:=zD hj
    have e2:(strValues ls).toArray[j]?=some (.str ls[j].1 ls[j].2):=by simp[strValues,hj]
    have e3:=hi.2 j _ e2
    have e4:aQ[aQ.length-1-j]?=some (.str ls[j].1 ls[j].2):=by simpa using e3
    obtain⟨y,u,ey,e5⟩:=sr.item _ _ e4;cases ey;rw[zR,e1,List.getElem?_reverse (),lz,e5];rfl
   .rw[vU (by simp;lia),vU (by simp;lia)]
  rw[em];refine⟨?_,λt' k=>?_⟩
  .have sum:∀(ws:List Str)(a:Nat),(∀z∈ws,z.length<=200)->ws.foldl (λn z=>n+z.length+sep.length) a<=a+200*ws.length:=λws=>by
    induction ws with
    | nil=>intro a _;simp
    | cons z ws ih=>
     intro a hw;have h1:=hw z (by simp)
     have h2:=ih (a+z.length+sep.length) (λy hy=>hw y (by simp[hy]));simp only[zP,vS];lia
   have b:=sum zs.reverse 0 (λz hz=>hB z (by simpa using hz));unfold JoinOk Builtin.Str.tooLong;rw[List.foldl_toArray,decide_eq_false (Nat.not_lt.mpr (zW b (XW (by rw[List.length_reverse];lia))))];rfl
  .rw[Cu sep h0];obtain⟨h',g',d',k',o'⟩:=s';obtain⟨m1,m2,m3,m4,m5⟩:=hm;dsimp only at m2 m3 m4;subst m2 m3 m4;have np:∀b u,H b=some u->(∀φ,u≠HO.ext φ)->b≠p:=λb u e n z=>by
    subst z;rw[hp] at e;cases e;exact n _ rfl
   have I1:Inv X aA σ (V8 H p) { s with heap:=s.heap,toks:=s.toks }:=I.un ⟨λb o e _ _ _=>e,λb o e _ _ _=>⟨o.slots,e⟩,λb o _ n _=>by
     unfold V8;split
     .rfl
     .exact n,λb o e _=>⟨o,e⟩,λb xs e=>by rw[Q2 (np b _ e λφ=>by simp)];exact e,λb o u e=>by rw[Q2 (np b _ e λφ=>by simp)];exact e,λb qs e=>⟨#[],by rw[Q2 (np b _ e λφ=>by simp),e];simp⟩⟩ (λb u e=>by
     unfold V8 at e;split at e
     .cases e
     .rename_i hb;exact(I.hok b u e).stay (λ_ _ _ q=>q) (λc e2=>by rw[Q2 (np c _ e2 λφ=>by simp)];exact e2) (λc xs e2=>by rw[Q2 (np c _ e2 λφ=>by simp)];exact e2))
   have pl:p≠X.env.locals:=λz=>by
    have:=I.free;rw[<- z,hp] at this;cases this
   have I2:=I1.turned (it:=p) (h':=h') (t':=k) (λb o hb e=>m1 b o (by simpa using hb) e) zeG pl (.inr above) (λx c e z=>by
     have:=I.freeC x c e;rw[z,hp] at this;cases this) (λq hq z=>by
     have:=(I.pin q hq).2.1;rw[z,hp] at this;cases this)
   exact⟨.str (ZM zs.reverse),_,I2,⟨t',rfl⟩,q⟩
theorem zbF (h:H p=none):V8 (upd H p o) p=H:=by
 funext a;unfold V8;split
 .rename_i e;rw[e,h]
 .rename_i e;exact Z1 e
@[irreducible] def Ou (to te:TDE):TDE:=λdl S Q=>to dl S λd S1=>match d with
 | .str sep=>te dl S1 λx S2=>match x with
  | .ref n=>match S2[n]? with
   | some (.lst ds)=>∃zs,Wh ds=some zs/\sep.length=0/\(∀z∈zs,z.length<=200)/\zs.length<=5/\Q (.str (ZM zs.reverse)) S2
   | _=>False
  | _=>False
 | _=>False
theorem zb9 {to te:TDE}{dl:Ev}{S S1 S2:Sto}{Q:DK}{sep:Str}{n:Nat}{ds:List D}{zs:List Str}(hto:∀K:DK,K (.str sep) S1->to dl S K)(hte:∀K:DK,K (.ref n) S2->te dl S1 K)(h:S2[n]?=some (.lst ds))(hz:Wh ds=some zs)(h0:sep.length=0)(hB:∀z∈zs,z.length<=200)(hn:zs.length<=5)(hq:Q (.str (ZM zs.reverse)) S2):Ou to te dl S Q:=by
 unfold Ou;refine hto _ (hte _ ?_);simp only[h];exact⟨zs,hz,h0,hB,hn,hq⟩
theorem DJ (hc:X.calm=true)(hg:Gl X "reversed")(hm:X.mg "reversed"=none)(hv:bootBuiltins "reversed"=some (.type "reversed"))(ho:PD X Z o to)(he:PD X Z e te)(hbase:attributeBase o "join" X.env (eval o X.env)=eval o X.env:=by rfl)(hfew:((backTo aH (starEach [.Call (.Name "reversed" p) [e] [] aJ] X.env)).all (λx=>!x.1)&&(backToKw aH (keywordEach [] X.env)).all (λx=>x.1.isSome)
  &&decide (([.Call (.Name "reversed" p) [e] [] aJ]:List Expr).length+([]:List Keyword).length+(if ([]:List Keyword).isEmpty then 0 else 1)<30))=true:=by rfl)(hline:(aI.endLine==aH.line)=true:=by rfl)(hs:starEach [.Call (.Name "reversed" p) [e] [] aJ] X.env=(false,eval (.Call (.Name "reversed" p) [e] [] aJ) X.env)::starEach [] X.env:=by rfl)(hplain:(backTo aH (starEach [] X.env)).any (·.1)=false:=by rfl)(hs2:starEach [e] X.env=(false,eval e X.env)::starEach [] X.env:=by rfl)(hpl2:(backTo aJ (starEach [] X.env)).any (·.1)=false:=by rfl):
  PD X Z (.Call (.Attribute o "join" aI) [.Call (.Name "reversed" p) [e] [] aJ] [] aH) (Ou to te):=
 ZO (Ug (T:="str") PySem.F.plainAttrs_str PySem.F.slot_str_join PySem.F.type_str_join (Dz hc) ho (Vf (NC Bw hg hm hv (Vf he UB hs2) ⋯ ⋯ hs2 hpl2) UB hs) hbase hfew hline hs hplain) λσ H Qv ⟨r,dl,S,Q,rs,aS,h,ret⟩=>by
  unfold Ou at h;refine⟨r,dl,S,_,rs,aS,h,λv H1 r1 d S1 e1 aB p1 q1=>?_⟩;cases p1 with
  | str sep=>
   refine⟨rfl,r1,dl,S1,_,rs.ext e1,aB,q1,λv2 H2 r2 x S2 e2 aC p2 q2=>?_⟩;cases p2 with
   | @ref n a hn=>
    dsimp only at q2;split at q2
    .rename_i ds eS;obtain⟨zs,z1,z2,z3,z4,q⟩:=q2;obtain⟨ys,eH,pr⟩:=aC.b.ob n a _ hn eS;refine⟨a,ys,rfl,eH,λb hb=>?_⟩;have nb:a≠b:=X2 eH hb;refine⟨sep,b,a,ys,zs,rfl,rfl,Y1,by rw[Z1 nb];exact eH,λus ru=>LD z1 pr ru,z2,z3,z4,?_⟩;rw[zbF hb];exact ret _ H2 r2 _ S2 (e1.trans e2) aC (.str _) q
    .exact q2.elim
   | _=>exact(show False from q2).elim
  | _=>exact(show False from q1).elim
end
structure Qc (sc around:Scope)(own caps:List Str):Prop where
 kind:sc.kind=.function
 nocell:∀y∈sc.names,y.2≠.cell
 own:∀y∈sc.names,y.2=.local->sc.names.lookup y.1=some .local
 cap:∀y∈caps,sc.names.lookup y=some .free
 out:∀y∈sc.names,y.2=.free->around.names.lookup y.1=some .cell
def Ky (k:Nat)(caps:List Nat)(wi:TI)(gt:TG)(te:TE):TE:=λσ H Q=>wi σ H λJ H1=>∀D,H1 D=none->∃W:Nat->Nat->Hp->Prop,(∃m,W 0 m (upd H1 D (.lst [])))/\∀i m H,W i m H->
 (J.stop i H/\Q (.ref D) H)\/(J.go i H/\∀x H',J.yld i H x H'->∀o:St,o.length=k->gt x (o++YO caps σ) H' λσ8 H8=>(∃o8:St,o8.length=k/\σ8=o8++YO caps σ)/\
  te σ8 H8 λy H3=>∃ys,H3 D=some (.lst ys)/\ys.length<sizeLine/\∃m',m'<m/\W (i+1) m' (upd H3 D (.lst (ys++[y]))))
section
variable {X:Cx}{aA:LA}{σ:St}{H:Hp}{s:Shared}
theorem AQ {sc:Scope}{own N:List Str}{caps:List Nat}{cl:List (Str×Addr)}{fp:List Addr}{h1:Heap}{m:Str->Option Value}{tk:Nat}(I:Inv X aA σ H s)(cs:Qc sc X.env.scope own N)
  (hN:∀(j:Nat)(y:Str),N[j]?=some y->∃i,caps[j]?=some i/\X.N[i]?=some y)(aL:caps.length=N.length)
  (c1:∀x c,cl.lookup x=some c->X.env.cells.lookup x=some c)(c2:∀y∈sc.names,y.2=.free->cl.lookup y.1=X.env.cells.lookup y.1)
  (hf:∀b∈fp,Xo X aA H b)(hfo:∀b∈fp,b<s.heap.objs.size)(hns:h1.Ns s.heap.objs.size m)(hk:∀b o,s.heap.get? b=some o->h1.get? b=some o):
  Inv (Cx.comp X sc (own++N) cl s.heap.objs.size s H fp (X.pn++aA)) [] (List.replicate own.length none++YO caps σ) H { s with heap:=h1,toks:=tk }:=by
 have stk:∀b∈frs X.stack,b=X.env.locals\/b∈X.fs:=λb hb=>zB.mp (I.stkSub b hb)
 refine⟨⟨I.ok.mod,cs.kind,I.ok.glob,I.ok.blt,zA _,λa b c h1 h2=>I.ok.inj a b c (c1 _ _ h1) (c1 _ _ h2),λy hy=>?_,λ_ _ z=>Bool.noConfusion z,I.ok.hd,I.ok.frames,.inl rfl,λb hb=>⟨zI (hfo b hb),λy c e=>(hf b hb).2.2.2.2.1 y c (c1 _ _ e)⟩,
  I.bs,zW I.ok.bsz I.sz,λb o e hb=>?_,λb hb z=>?_,I.stack,I.stkFree⟩,rfl,I.bare,Un.kept hk,⟨m,hns,λi y v e1 e2 e3=>?_⟩,λy c e=>?_,I.hok.fresh (zA _),λy c e=>I.freeC y c (c1 _ _ e),λp hp=>?_,I.hok.kept hk,?_⟩
 .have hfr:sc.names.lookup y=some .free:=Lv cs.nocell hy
  have hm:=Qz hfr;obtain⟨c,e⟩:=I.ok.has y (.inl (cs.out _ hm rfl));exact⟨c,(c2 _ hm rfl).trans e⟩
 .rcases (hf b hb).2.2.2.1 with z|z
  .exact I.ok.noex b o e z
  .exact absurd (zK (Heap.lt_size (I.ok.bs b o e).1) z) (yB _)
 .rcases stk b z with z|z
  .exact(hf b hb).2.1 z
  .exact(hf b hb).2.2.1 z
 .rcases Nat.lt_or_ge i own.length with hi|hi
  .rw[zY (by simpa using hi),wG] at e2;simp[hi] at e2
  .obtain⟨i,rfl⟩:∃k,i=own.length+k:=⟨i-own.length,()⟩;have e1':N[i]?=some y:=by
    rw[yC hi] at e1;simpa using e1
   have e2:(YO caps σ)[i]?=some (some v):=by
    rw[yC (by simp)] at e2;simpa using e2
   obtain⟨j,hj,hy⟩:=hN i y e1';have e2':σ[j]?=some (some v):=by
    simp only[YO,zR,hj,xN,Option.some.injEq] at e2;cases q:σ[j]? with
    | none=>rw[q] at e2;cases e2
    | some o=>rw[q] at e2;simp at e2;rw[e2]
   have hfr:sc.names.lookup y=some .free:=cs.cap y (zT e1')
   have hm:=Qz hfr
   have hce:X.env.scope.names.lookup y=some .cell:=cs.out _ hm rfl;obtain⟨m0,_,hl⟩:=I.loc;obtain⟨u,r,l⟩:=hl j y v hy e2' (.inr (.inl hce));refine⟨u,r,.inr ⟨K1 hfr,?_⟩⟩;rcases l with ⟨k,_⟩|⟨_,c,ec,hcell⟩
   .rw[show X.env.kindOf y=some .cell from hce] at k;cases k
   .exact⟨c,(c2 _ hm rfl).trans ec,hcell.keeps hk⟩
 .obtain⟨v,z⟩:=I.cell y c (c1 _ _ e);exact⟨v,z.keeps hk⟩
 .have hp':p∈X.pn++aA:=by simpa using hp
  obtain⟨p1,p2,p3,p4,p5⟩:=I.pin p hp';refine⟨hk _ _ p1,p2,zI (Heap.lt_size p1),λz=>?_,p5⟩;rcases stk _ z with z|z
  .exact p3 z
  .exact p4 z
 .simp[YO,aL]
end
section
variable {X:Cx}{aP aO:Expr}{aK:List Expr}{kk:Nat}{tp:Pos}{pos:Pos}{sc:Scope}{own N:List Str}{caps:List Nat}{wi:TI}{gt:TG}{te:TE}
theorem zaJ (hc:X.calm=true)(cs:Qc sc X.env.scope own N)(hN:∀(j:Nat)(y:Str),N[j]?=some y->∃i,caps[j]?=some i/\X.N[i]?=some y)(aL:caps.length=N.length)(hi:PI X (.Tuple aK kk tp) aO wi)(hg:∀cl C s0 H0 fp pn,PG (Cx.comp X sc (own++N) cl C s0 H0 fp pn) (.Tuple aK kk tp) gt)(he:∀cl C s0 H0 fp pn,PE (Cx.comp X sc (own++N) cl C s0 H0 fp pn) aP te)(hs:∀y,foldedSetIterable aO X.env y=pure y)(I:Inv X aA σ H s)(h:Ky own.length caps wi gt te σ H Q)(aR:∀D C s',Ir X aA σ C Q D s'->compPost (mX X) X.A X.xe use Qr (.ref D) C (.ok .next) s'):
  wpAny (mX X) X.A (comprehension (.ListComp aP [⟨.Tuple aK kk tp,aO,[],0⟩] sc pos) sc X.env p2 (newList []) false (eval aO X.env) use) Qr X.xe s:=by
 obtain⟨cl,k1,k2,k3⟩:=J0 (sc:=sc) (env:=X.env) λy hy hf=>I.ok.has y.1 (.inl (cs.out y hy hf))
 refine wpAny_comprehension_free rfl hs k1 cs.kind cs.own (thn (hi aA s σ H _ I h) λv s1 h1=>thn h1 λitv s2 h2=>?_);obtain⟨it,fp,tn,J,H2,e,I2,T,st2,f2,body⟩:=h2;subst e;have hfo:∀b∈fp,b<s2.heap.objs.size:=λb hb=>by
  obtain⟨o,e,_⟩:=T.obj _ _ st2 b hb;exact Heap.lt_size e
 have hD:H2 s2.heap.objs.size=none:=I2.hok.fresh (zA _);obtain⟨W,⟨m0,w0⟩,turn⟩:=body _ hD;refine wpAny_newObj_type ?_;have I3:Inv X aA σ (upd H2 s2.heap.objs.size (.lst [])) { s2 with heap:=s2.heap.push { cls:=.type "list",dict:=none,data:=.seq ([]:List Value).toArray },toks:=s2.toks }:=
  I2.laid (t':=s2.toks) (λb u e=>Heap.get?_push_of_some _ e) (zA _) ⟨zS _,[],0,.nil,Heap.get?_push_size _ rfl⟩
 generalize hs3:({ s2 with heap:=s2.heap.push { cls:=.type "list",dict:=none,data:=.seq ([]:List Value).toArray },toks:=s2.toks }:Shared)=s3 at I3;have es3:({ s2 with heap:=s2.heap.push { cls:=.type "list",dict:=none,data:=.seq ([]:List Value).toArray } }:Shared)=s3:=hs3
 try rw[es3]
 have f3:∀b∈fp,Xo X aA (upd H2 s2.heap.objs.size (.lst [])) b:=λb hb=>⟨by rw[Z1 (zI (hfo b hb))];exact(f2 b hb).1,(f2 b hb).2⟩
 have up3:∀b o,s2.heap.get? b=some o->s3.heap.get? b=some o:=λb o e=>by rw[<- hs3];exact Heap.get?_push_of_some _ e
 have st3:tn 0 s3.heap:=T.keep _ _ _ st2 λb _ o e=>up3 b o e
 have hfo3:∀b∈fp,b<s3.heap.objs.size:=λb hb=>by
  obtain⟨o,e,_⟩:=T.obj _ _ st3 b hb;exact Heap.lt_size e
 refine wpAny_newFunctionEnv cs.nocell (λy hy=>by simp at hy) (λh4 ns4 sb4=>?_) cs.kind;have hk4:∀b o,s3.heap.get? b=some o->h4.get? b=some o:=λb o e=>(sb4.2 b (zI (Heap.lt_size e))).trans (Heap.get?_push_of_some _ e)
 have I4:=AQ (tk:=s3.toks+([]:List (Str×Value)).length) I3 cs hN aL k2 k3 f3 hfo3 ns4 hk4;generalize hs4:({ s3 with heap:=h4,toks:=s3.toks+([]:List (Str×Value)).length }:Shared)=s4 at I4 ⊢;have eh4:s4.heap=h4:=by rw[<- hs4]
 have st4:tn 0 s4.heap:=by rw[eh4];exact T.keep _ _ _ st3 λb _ o e=>hk4 b o e
 have fY:∀ {H':Hp},(∀b∈fp,H' b=none)->∀b∈fp,Xo (Cx.comp X sc (own++N) cl s3.heap.objs.size s3 (upd H2 s2.heap.objs.size (.lst [])) fp (X.pn++aA)) [] H' b:=λhn b hb=>by
  obtain⟨_,z2,z3,z4,z5,z6⟩:=f3 b hb;refine⟨hn b hb,zI (hfo3 b hb),λz=>?_,.inl hb,λy c e=>z5 y c (k2 _ _ e),λp hp=>z6 p (by simpa using hp)⟩;rcases zB.mp (I3.stkSub b z) with z|z
  .exact z2 z
  .exact z3 z
 have loop:codeAny (mX X) X.A (.compLoop (.ListComp aP [⟨.Tuple aK kk tp,aO,[],0⟩] sc pos) 0 (.ref it) (.ref s2.heap.objs.size) (compEnvC sc cl s3.heap.objs.size X.env))
   (compPost (mX X) X.A X.xe use Qr (.ref s2.heap.objs.size) s3.heap.objs.size) s4:=by
  refine LCp.codeAny_compLoop_pair (λn s'=>∃i o H',o.length=own.length/\Inv (Cx.comp X sc (own++N) cl s3.heap.objs.size s3 (upd H2 s2.heap.objs.size (.lst [])) fp (X.pn++aA)) [] (o++YO caps σ) H' s'/\tn i s'.heap/\(∀b∈fp,H' b=none)/\W i n H') ?_ m0
   ⟨0,_,_,wH,I4,st4,λb hb=>(f3 b hb).1,w0⟩
  rintro n s5 ⟨i,o,H5,ho,I5,st5,fr5,w5⟩;rcases turn i n H5 w5 with ⟨stop,q⟩|⟨go,step⟩
  .refine thn (T.done (Cx.comp X sc (own++N) cl s3.heap.objs.size s3 (upd H2 s2.heap.objs.size (.lst [])) fp (X.pn++aA)) rfl rfl rfl hc i [] s5 _ H5 _ I5 (fY fr5) st5 stop) λr s6 ⟨hr,I6⟩=>?_
   subst hr;refine aR _ _ _ ⟨⟨H5,I3.call' I6.os I6.base I6.hok I6.bare (λb hb=>?_),q,I6.free⟩,?_,wB I3.lt,I3.sz,λy c e z=>?_,λp hp z=>?_⟩
   .obtain⟨_,z2,z3,z4,z5,z6⟩:=f3 b hb;exact⟨z4,z2,z5,z6⟩
   .obtain⟨m,hm,_⟩:=I6.loc;exact⟨m,hm⟩
   .obtain⟨v,hv⟩:=I3.cell y c e;exact absurd (z ▸ hv.lt) (yB _)
   .exact absurd (z ▸ Heap.lt_size (I3.pin p hp).1) (yB _)
  .refine thn (T.item (Cx.comp X sc (own++N) cl s3.heap.objs.size s3 (upd H2 s2.heap.objs.size (.lst [])) fp (X.pn++aA)) rfl rfl rfl hc i [] s5 _ H5 _ I5 (fY fr5) st5 go) λr s6 ⟨u,hr,h6⟩=>?_
   subst hr;refine wpAny_mono h6 (λ_ s7 ⟨y,H7,I7,r7,y7,st7,fr7⟩=>?_) λ_ _ z=>z
   have I7':=I7.pinned (fY fr7) (T.obj _ _ st7);refine wpAny_mono (hg _ _ _ _ _ _ _ s7 _ H7 y u _ I7' r7 (step y H7 y7 o ho)) (λ_ s8 ⟨σ8,H8,I8,⟨o8,ho8,e8⟩,q8⟩=>?_) λ_ _ z=>z.elim
   subst e8;have stay:∀ {H':Hp} {s':Shared},Inv (Cx.comp X sc (own++N) cl s3.heap.objs.size s3 (upd H2 s2.heap.objs.size (.lst [])) fp (X.pn++aA)) ([]++SH fp s7.heap) (o8++YO caps σ) H' s'->∀m',m'<n->W (i+1) m' H'->
     ∃m,m<n/\∃i o H',o.length=own.length/\Inv (Cx.comp X sc (own++N) cl s3.heap.objs.size s3 (upd H2 s2.heap.objs.size (.lst [])) fp (X.pn++aA)) [] (o++YO caps σ) H' s'/\tn i s'.heap/\(∀b∈fp,H' b=none)/\W i m H':=λ{H' s'} J m' hm w'=>by
    refine⟨m',hm,i+1,o8,H',ho8,J.unpinned,T.keep _ _ _ st7 λb hb o e=>(J.pin (b,o) (zX _ (zX _ (SX hb e)))).1,λb hb=>?_,w'⟩;obtain⟨o,e,d⟩:=T.obj _ _ st7 b hb;exact(J.pin (b,o) (zX _ (zX _ (SX hb e)))).2.1
   refine wpAny_mono (he _ _ _ _ _ _ _ s8 _ H8 _ I8 q8) (λu2 s10 ⟨z,H10,I10,r10,q10⟩=>?_) λ_ _ z=>z.elim
   obtain⟨ys,hD10,hlt,m',hm,w10⟩:=q10;refine wpAny_mono (KA (X:=(Cx.comp X sc (own++N) cl s3.heap.objs.size s3 (upd H2 s2.heap.objs.size (.lst [])) fp (X.pn++aA))) _ s10 _ H10 (.ref s2.heap.objs.size) [z] (.ref s2.heap.objs.size) [u2] (λ_ H'=>H'=upd H10 s2.heap.objs.size (.lst (ys++[z]))) I10 rfl (.cons r10 .nil) ⟨_,ys,z,rfl,rfl,hD10,hlt,rfl⟩) (λ_ s11 ⟨_,H11,I11,_,e11⟩=>?_) λ_ _ z=>z.elim
   subst e11;exact stay I11 m' hm w10
 exact codeAny_compStart_list loop (T.self _ 0 s4 _ _ st4 loop)
theorem EX (hc:X.calm=true)(cs:Qc sc X.env.scope own N)(hN:Hn X caps N)
  (hi:PI X (.Tuple aK kk tp) aO wi)(hg:∀cl C s0 H0 fp pn,PG (Cx.comp X sc (own++N) cl C s0 H0 fp pn) (.Tuple aK kk tp) gt)(he:∀cl C s0 H0 fp pn,PE (Cx.comp X sc (own++N) cl C s0 H0 fp pn) aP te)
  (hs:∀y,foldedSetIterable aO X.env y=pure y:=by intro _;rfl):PE X (.ListComp aP [⟨.Tuple aK kk tp,aO,[],0⟩] sc pos) (Ky own.length caps wi gt te):=by
 intro aA s σ H Q I h;rw[eval_ListComp];refine zaJ (use:=none) hc cs (Mt hN).1 (Mt hN).2 hi hg he hs I h λD C s' f=>?_
 obtain⟨⟨H',I',q,hC⟩,⟨m,ns⟩,l,o,c,p⟩:=f;exact⟨m,ns,λh' sb=>⟨.ref D,H',I'.turned (t':=s'.toks) (λb ob hb e=>(sb.2 b hb).trans e) hC l (.inr o) c p,rfl,q⟩⟩
end
section
variable {X:Cx}{Z:Zx}{aP:Expr}{pos:Pos}{sc ar:Scope}{N:List Str}{caps:List Nat}
def Kw (caps:List Nat)(te:TDE)(k:Nat)(dl:Ev)(d1 d2:D)(S:Sto)(nx:Sto->Prop):Prop:=
 te (some d1::some d2::Wz caps dl) S λy S2=>match S2[k]? with
  | some (.lst ys)=>ys.length<1000/\nx (S2.set k (.lst (ys++[y])))
  | _=>False
theorem E1 {r:List Addr}{H:Hp}{dl:Ev}{σ:St}{d1 d2:D}{v1 v2:V}(h:Rs r H dl σ)(p1:Rp r H d1 v1)(p2:Rp r H d2 v2):Rs r H (some d1::some d2::Wz caps dl) (some v1::some v2::YO caps σ):=by
 have z:=FN (caps:=caps) h p2;refine⟨by have:=z.1;simp only[zP] at this ⊢;lia,λi e hi=>?_⟩;cases i with
 | zero=>simp at hi;subst hi;exact⟨v1,rfl,p1⟩
 | succ i=>exact z.2 i e (by simpa using hi)
end
section
variable {X:Cx}{Z:Zx}{pos:Pos}
@[irreducible] def OO (is:List Nat)(tl:TDE)(tb:TDS):TDS:=λE dl S=>tl dl S λd S1=>match d with
 | .ref n=>(lAt S1 n).isSome=true/\∃W:Nat->Nat->Ev->Sto->Prop,(∃m,W 0 m dl S1)/\∀k m dl S,W k m dl S->match lAt S n with
  | some o=>match (ZC o)[k]? with
   | some (.tup xs)=>xs.length=is.length/\tb { nx:=λdl' S'=>∃m',m'<m/\W (k+1) m' dl' S',rt:=E.rt,bk:=E.nx,ct:=λdl' S'=>∃m',m'<m/\W (k+1) m' dl' S' } (UP is xs dl) S
   | some _=>False
   | none=>E.nx dl S
  | none=>False
 | _=>False
theorem zaR {es:List Expr}{kk:Nat}{tp:Pos}{aO:Expr}{body:List Stmt}{is:List Nat}{tl:TDE}{tb:TDS}(hp:PassesOwn (mX X) X.A X.env X.xe)(hc:X.calm=true)(hN:X.N.Nodup)(hn:Nms X es is)
  (hl:PD X Z aO tl)(hb:Xy X Z body tb)(aL:(assignEach es X.env).length=is.length:=by rfl)(hst:(assignEach es X.env).findIdx? (·.1)=none:=by rfl)
  (hs:∀y,foldedSetIterable aO X.env y=pure y:=by intro _;rfl):PDS X Z (.For (.Tuple es kk tp) aO body [] pos) (OO is tl tb):=
 XT (PR hp hc (MR hl) (JA hc (Ms hN hn) aL hst) hb hs) λF σ H ⟨r,dl,S,E,rs,aS,h,ret⟩=>by
  unfold OO at h;refine⟨r,dl,S,_,rs,aS,h,λv H1 r1 d S1 x1 aB p1 q1=>?_⟩;cases p1 with
  | @ref n a hn=>
   obtain⟨aN,W,⟨m0,w0⟩,turn⟩:=q1;obtain⟨o1,eo1⟩:=yV.mp aN;obtain⟨xs1,sq1,_⟩:=TV (r:=r1) hn aB.b eo1;refine⟨a,rfl,⟨xs1,sq1⟩,λk m σ' H'=>∃r' dl' S',Ext r1 r' H1 H'/\Rs r' H' dl' σ'/\Rel X.K Z r' S' H'/\W k m dl' S',⟨m0,r1,dl,S1,Ext.refl,rs.ext x1,aB,w0⟩,?_⟩;rintro k m σ2 H2 ⟨r2,dl2,S2,x2,rs2,aC,w2⟩;have q:=turn k m dl2 S2 w2;split at q
   .rename_i o eo;obtain⟨xs,sq,pr⟩:=TV (r:=r2) (x2.adr _ _ hn) aC.b eo;split at q
    .rename_i ys ey;obtain⟨v,hv,pv⟩:=pr.get ey;have go:∀σ' H' r' dl' S',Ext r2 r' H2 H'->Rs r' H' dl' σ'->Rel X.K Z r' S' H'->(∃m',m'<m/\W (k+1) m' dl' S')->∃m',m'<m/\∃r' dl' S',Ext r1 r' H1 H'/\Rs r' H' dl' σ'/\Rel X.K Z r' S' H'/\W (k+1) m' dl' S':=
      λσ' H' r' dl' S' x rs' rel' ⟨m',hm,w'⟩=>⟨m',hm,r',dl',S',x2.trans x,rs',rel',w'⟩
     refine .inr ⟨⟨xs,v,sq,hv⟩,λσ' H'=>∃m',m'<m/\∃r' dl' S',Ext r1 r' H1 H'/\Rs r' H' dl' σ'/\Rel X.K Z r' S' H'/\W (k+1) m' dl' S',λ_ _ z=>z,λv' H' y'=>?_⟩;obtain⟨eH,y'⟩:=y';subst eH;have ev:v'=v:=by
      have z:=y' xs sq;rw[hv] at z;exact(Option.some.inj z).symm
     subst ev;obtain⟨q1,q⟩:=q;obtain⟨T,vs,rfl,eT,ps⟩:=pv.untup;exact⟨T,vs,rfl,SqT.of eT,by rw[<- ps.1];exact q1,by rw[<- ps.1];exact q1,r2,_,S2,_,Jb rs2 ps,aC,q,⟨go,λσ' H' r' dl' S' x rs' rel' z=>ret.nx σ' H' r' dl' S' (x1.trans (x2.trans x)) rs' rel' z,go,ret.rt.ext (x1.trans x2)⟩⟩
    .exact q.elim
    .rename_i ey;have aL:(ZC o).length<=k:=yR.mp ey;exact .inl ⟨⟨xs,sq,by rw[<- pr.1];exact aL⟩,ret.nx σ2 H2 r2 dl2 S2 (x1.trans x2) rs2 aC q⟩
   .exact q.elim
  | _=>exact(show False from q1).elim
end
section
variable {X:Cx}{Z:Zx}
end
section
variable {X:Cx}{Z:Zx}{pos:Pos}
theorem PB:∀ {us:List Value} {ms:List Int},IntsAre us ms->Zt (ms.map V.int) us
 | _,_,.nil=>.nil
 | _,_,.cons n t h=>.cons ⟨t,rfl⟩ (PB h)
end
section
variable {X:Cx}{Z:Zx}{aP:Expr}{pos:Pos}{sc ar:Scope}{N:List Str}{caps:List Nat}
end
section
variable {X:Cx}{Z:Zx}{pos:Pos}
end
section
variable {n:Nat}{I:Addr}{fp wr:List Addr}{P:Nat->Value->Prop}{St:Nat->Shared->Prop}{prog:Program}{w:World}{A:Around}{s:Shared}{E:Value->Shared->Prop}{G:Array GenState->Array GenState->Prop}
end
section
variable {X:Cx}{Z:Zx}{pos:Pos}
end
section
variable {X:Cx}{Z:Zx}{pos:Pos}
theorem Rps.ins {r:List Addr}{H:Hp}{y:D}{w:V}(hy:Rp r H y w):∀ {ds:List D} {xs:List V} (k:Nat),Rps r H ds xs->Rps r H (ds.take k++y::ds.drop k) (xs.take k++w::xs.drop k)
 | [],xs,k,h=>by
  have z:=h.unnil;subst z;simpa using Rps.cons hy h
 | d::ds,xs,0,h=>Rps.cons hy h
 | d::ds,xs,k+1,h=>by
  obtain⟨v,vs,rfl,p1,p2⟩:=h.uncons;exact Rps.cons p1 (Rps.ins hy k p2)
theorem JC {P:Sto->D->D->Prop}{A:Around}{H:Hp}{s:Shared}{r:List Addr}{S:Sto}{ds es:List D}{xs ys:List V}{is js:List Value}(f:∀ {d e:D} {v1 v2:V} {u1 u2:Value},P S d e->Rp r H d v1->Rp r H e v2->Zm v1 u1->Zm v2 u2->SeqAt.EqAt A s u1 u2 true)(pr:Rps r H ds xs)(pr':Rps r H es ys)(ri:Zt xs is)(rj:Zt ys js)(hall:∀(k:Nat)(d e:D),ds[k]?=some d->es[k]?=some e->P S d e):
  ∀(k:Nat)(h1:k<is.toArray.size)(h2:k<js.toArray.size),SeqAt.EqAt A s is.toArray[k] js.toArray[k] true:=λk h1 h2=>by
 have l3:=ri.length
 have l4:=rj.length
 have k1:k<is.length:=by simpa using h1
 have k2:k<js.length:=by simpa using h2
 obtain⟨d,hd,pd⟩:=pr.get' (zD (l:=xs) (i:=k) ());obtain⟨e,he,pe⟩:=pr'.get' (zD (l:=ys) (i:=k) ());obtain⟨u1,hu1,ru1⟩:=ri.get (zD (l:=xs) (i:=k) ());obtain⟨u2,hu2,ru2⟩:=rj.get (zD (l:=ys) (i:=k) ());have z1:is.toArray[k]=u1:=by
  rw[zD k1] at hu1;simpa using Option.some.inj hu1
 have z2:js.toArray[k]=u2:=by
  rw[zD k2] at hu2;simpa using Option.some.inj hu2
 rw[z1,z2];exact f (hall k d e hd he) pd pe ru1 ru2
end
section
variable {X:Cx}{Z:Zx}{aP aO:Expr}{aK:List Expr}{kk:Nat}{tp pos:Pos}{sc ar:Scope}{own N:List Str}{caps:List Nat}{wi:TI}{gt:TG}
end
section
variable {X:Cx}{Z:Zx}
end
section
variable {X:Cx}{Z:Zx}{pos:Pos}
def AY (i:Nat)(ta:TDA)(tb:TDS):TDS:=λE dl S=>ta dl S λds S1=>match ds with
 | [.int lo,.int hi]=>(-(2^62)<=lo/\lo<2^62/\-(2^62)<=hi/\hi<2^62)/\∃W:Nat->Ev->Sto->Prop,W 0 dl S1/\∀k dl S,W k dl S->
   if k<(hi-lo).toNat then tb { nx:=λdl' S'=>W (k+1) dl' S',rt:=E.rt,bk:=E.nx,ct:=λdl' S'=>W (k+1) dl' S' } (dl.set i (some (.int (lo+k)))) S else E.nx dl S
 | _=>False
theorem AB (hp:PassesOwn (mX X) X.A X.env X.xe)(hc:X.calm=true)(hN:X.N.Nodup)(hi:X.N[i]?=some x)(hx:Loc X.env.scope x)(hg:Gl X "range")(hm:X.mg "range"=none)(ha:PDA X Z [a,b] ta)(hb:Xy X Z body tb)(hf:Hf X x:=by first|exact .inl rfl|exact .inr rfl|assumption)(hs:∀y,foldedSetIterable (.Call (.Name "range" p) [a,b] [] pos) X.env y=pure y:=by intro _;rfl)(hst:starEach [a,b] X.env=[(false,eval a X.env),(false,eval b X.env)]:=by rfl)(hst2:starEach [b] X.env=[(false,eval b X.env)]:=by rfl):
  PDS X Z (.For (.Name x pos') (.Call (.Name "range" p) [a,b] [] pos) body [] aJ) (AY i ta tb):=
 XT (PR hp hc (BE hg hm ha hst hst2) (Nk hN hi hx hf) hb hs) λF σ H ⟨r,dl,S,E,rs,aS,h,ret⟩=>by
  refine⟨r,dl,S,_,rs,aS,h,λvs H1 r1 ds S1 x1 aB p1 q1=>?_⟩;split at q1
  .rename_i lo hi;obtain⟨v,vs',rfl,p2,p3⟩:=p1.uncons;obtain⟨v2,vs2,rfl,p4,p5⟩:=p3.uncons;have z:=p5.unnil;subst z;cases p2;cases p4;obtain⟨bds,W,w0,turn⟩:=q1;refine⟨lo,hi,rfl,bds,λk m σ' H'=>m=(hi-lo).toNat-k/\∃r' dl' S',Ext r1 r' H1 H'/\Rs r' H' dl' σ'/\Rel X.K Z r' S' H'/\W k dl' S',⟨(hi-lo).toNat,by simp,r1,dl,S1,Ext.refl,rs.ext x1,aB,w0⟩,?_⟩;rintro k m σ2 H2 ⟨em,r2,dl2,S2,x2,rs2,aC,w2⟩;have q:=turn k dl2 S2 w2;split at q
   .rename_i hk;have go:∀σ' H' r' dl' S',Ext r2 r' H2 H'->Rs r' H' dl' σ'->Rel X.K Z r' S' H'->W (k+1) dl' S'->∃r' dl' S',Ext r1 r' H1 H'/\Rs r' H' dl' σ'/\Rel X.K Z r' S' H'/\W (k+1) dl' S':=
     λσ' H' r' dl' S' x rs' rel' w'=>⟨r',dl',S',x2.trans x,rs',rel',w'⟩
    have pk:Rp r2 H2 (.int (lo+(k:Int))) (.int (lo+(k:Int))):=.int _;refine .inr ⟨hk,λσ' H'=>∃r' dl' S',Ext r1 r' H1 H'/\Rs r' H' dl' σ'/\Rel X.K Z r' S' H'/\W (k+1) dl' S',λσ' H' z=>⟨(hi-lo).toNat-(k+1),(),rfl,z⟩,λv' H' y'=>?_⟩;obtain⟨eH,y'⟩:=y';subst eH;subst y';exact⟨r2,_,S2,_,rs2.set i pk,aC,q,go,λσ' H' r' dl' S' x rs' rel' z=>ret.nx σ' H' r' dl' S' (x1.trans (x2.trans x)) rs' rel' z,go,ret.rt.ext (x1.trans x2)⟩
   .rename_i hk;exact .inl ⟨by show (hi-lo).toNat<=k;lia,ret.nx σ2 H2 r2 dl2 S2 (x1.trans x2) rs2 aC q⟩
  .exact q1.elim
end
end L3
namespace L2
open PySem PySem.Spec PyProof.Rows
section
variable {X:Cx}{tg:Expr}
end
end L2
namespace L3
open PySem PySem.Spec PyProof.Rows L2
section
variable {X:Cx}{Z:Zx}{pos:Pos}
end
end L3
namespace Mine
open PySem PySem.Spec PyProof.Rows L2 L3
theorem fsc {N P:List Str}{sc:Scope}(a:sc.kind=.function:=by rfl)(b:sc.isCoroutine=false:=by rfl)(c:sc.isGenerator=false:=by rfl)(d:N.Nodup:=by decide +kernel)(e:N.take P.length=P:=by rfl)(f:∀x∈P,sc.names.lookup x=some .local\/sc.names.lookup x=some .cell:=by decide +kernel)(g:∀y∈sc.names,y.2≠.free:=by decide +kernel):ZE N P sc:=⟨a,b,c,d,e,f,g⟩
theorem csc {sc ar:Scope}{x:Str}{caps:List Str}(a:sc.kind=.function:=by rfl)(b:∀y∈sc.names,y.2≠.cell:=by decide +kernel)(c:∀y∈sc.names,y.2=.local->sc.names.lookup y.1=some .local:=by decide +kernel)(d:sc.names.lookup x=some .local:=by rfl)(e:∀y∈caps,sc.names.lookup y=some .free:=by decide +kernel)(f:∀y∈sc.names,y.2=.free->ar.names.lookup y.1=some .cell:=by decide +kernel):Rc sc ar x caps:=⟨a,b,c,d,e,f⟩
theorem cscG {sc ar:Scope}{own caps:List Str}(a:sc.kind=.function:=by rfl)(b:∀y∈sc.names,y.2≠.cell:=by decide +kernel)(c:∀y∈sc.names,y.2=.local->sc.names.lookup y.1=some .local:=by decide +kernel)(e:∀y∈caps,sc.names.lookup y=some .free:=by decide +kernel)(f:∀y∈sc.names,y.2=.free->ar.names.lookup y.1=some .cell:=by decide +kernel):Qc sc ar own caps:=⟨a,b,c,e,f⟩
abbrev Ln (sp:Sd)(n:Nat):Prop:=∀ds S Q ex,sp ds S Q ex->ds.length=n
theorem ZT {X:Cx}{x:Str}{p pos:Pos}{e:Expr}{es:List Expr}{t:TDA}{k j:Nat}{ps:List Str}{sd:Sd}{ex:Ev->Addr->Sto->Prop}(G:Fk X.prog X.w X.K X.mg X.base k x ps sd)(hr:ZG j X.A)(ha:PDA X ⟨ex,Z0.w⟩ (e::es) t)(hk:k<=j:=by decide)(hg:Gl X x:=by rfl)
  (hdb:(x==("__debug__":Str))=false:=by decide)(he:He X e es:=by rfl)(hpl:Hp1 X pos es:=by rfl):PD X ⟨ex,Z0.w⟩ (.Call (.Name x p) (e::es) [] pos) (Q8 ex sd t):=ZW G (hr.mono hk) Ye hg ha hdb he hpl
abbrev Ji:Stmt:=ZS (top 34) 0
abbrev Qs:List Str:=["self"]
theorem za1:ZE ["self"] Qs (Zr Ji):=fsc
abbrev Lf:Stmt:=ZS (top 44) 0
abbrev Po:List Str:=["self"]
theorem zbK:ZE ["self"] Po (Zr Lf):=fsc
abbrev JF:Stmt:=top 59
abbrev PH:List Str:=[]
theorem zd6:ZE [] PH (Zr JF):=fsc
abbrev M7:Stmt:=top 47
abbrev OE:List Str:=[q86,q98]
theorem AF:ZE [q86,q98] OE (Zr M7):=fsc
abbrev Lk:Stmt:=ZS (top 44) 7
abbrev Qw:List Str:=["self"]
theorem DR:ZE ["self"] Qw (Zr Lk):=fsc
abbrev MW:Stmt:=ZS (top 44) 8
abbrev Rw:List Str:=["self"]
theorem As:ZE ["self"] Rw (Zr MW):=fsc
abbrev MU:Stmt:=ZS (top 34) 2
abbrev Q7:List Str:=["self"]
theorem zaw:ZE ["self"] Q7 (Zr MU):=fsc
abbrev LS:Stmt:=ZS (top 44) 9
abbrev Pf:List Str:=["self"]
theorem Ce:ZE ["self"] Pf (Zr LS):=fsc
abbrev KU:Stmt:=ZS (top 44) 10
abbrev Qa:List Str:=["self"]
theorem zd0:ZE ["self"] Qa (Zr KU):=fsc
abbrev PJ:Stmt:=top 65
abbrev MB:List Str:=[q87,q4]
theorem MK:ZE [q87,q4,"_law_looks_here"] MB (Zr PJ):=fsc
abbrev Jd:Stmt:=top 60
abbrev MI:List Str:=[q4]
theorem JB:ZE [q4,"_law_twin_here",q81] MI (Zr Jd):=fsc
abbrev Lu:Stmt:=top 48
abbrev T9:List Str:=[q47,q98]
theorem Ai:ZE [q47,q98] T9 (Zr Lu):=fsc
abbrev Ki:Stmt:=top 56
abbrev Su:List Str:=[q4,"_law_node","_law_weight"]
theorem zdf:ZE [q4,"_law_node","_law_weight"] Su (Zr Ki):=fsc
abbrev Ke:Stmt:=top 53
abbrev TM:List Str:=["_law_top",OM]
theorem za2:ZE ["_law_top",OM] TM (Zr Ke):=fsc
abbrev LG:Stmt:=top 62
abbrev Nc:List Str:=[q47,q4,q81]
theorem Sb:ZE [q47,q4,q81,OM,"_law_low","_law_high",q72,q99] Nc (Zr LG):=fsc
abbrev LZ:Stmt:=top 51
abbrev Mx:List Str:=[q72,"_law_names"]
theorem HH:ZE [q72,"_law_names",OM] Mx (Zr LZ):=fsc
abbrev KC:Stmt:=top 52
abbrev P0:List Str:=[q47,"_law_names"]
theorem Wq:ZE [q47,"_law_names",q42,q98,q72,"_law_other"] P0 (Zr KC):=fsc
abbrev K9:Stmt:=top 54
abbrev Qe:List Str:=[q42]
theorem zbk:ZE [q42] Qe (Zr K9):=fsc
abbrev RO:Stmt:=top 55
abbrev Uu:List Str:=[q42,"_law_least"]
theorem QN:ZE [q42,"_law_least","_law_words_here"] Uu (Zr RO):=fsc
abbrev LU:Stmt:=top 61
abbrev Mv:List Str:=[q47,q4]
theorem En:ZE [q47,q4,q42] Mv (Zr LU):=fsc
abbrev RS:Stmt:=top 57
abbrev Ue:List Str:=[q4,q42]
theorem MY:ZE [q4,q42,"_law_one","_law_other"] Ue (Zr RS):=fsc
abbrev Lj:Stmt:=top 63
abbrev Mp:List Str:=[q47,q4,q81]
theorem UA:ZE [q47,q4,q81,"_law_what","_law_left",q72,"_law_right"] Mp (Zr Lj):=fsc
abbrev LR:Stmt:=top 58
abbrev N9:List Str:=[q98,"_law_shape"]
theorem Oi:ZE [q98,"_law_shape","_law_code","_law_stem","_law_at"] N9 (Zr LR):=fsc
abbrev L6:Stmt:=top 39
abbrev NX:List Str:=["line"]
theorem HK:ZE ["line",q36] NX (Zr L6):=fsc
abbrev OI:Stmt:=top 18
abbrev RL:List Str:=["word","signs","most"]
theorem B7:ZE ["word","signs","most"] RL (Zr OI):=fsc
abbrev LN:Stmt:=top 22
abbrev VZ:List Str:=["word"]
theorem EO:ZE ["word"] VZ (Zr LN):=fsc
abbrev Jg:Stmt:=top 8
abbrev PQ:List Str:=["value"]
theorem zec:ZE ["value"] PQ (Zr Jg):=fsc
abbrev KW:Stmt:=top 9
abbrev Nq:List Str:=["one","other"]
theorem PY:ZE ["one","other","rest"] Nq (Zr KW):=fsc
abbrev KL:Stmt:=top 10
abbrev MF:List Str:=["top","bottom"]
theorem Ko:ZE ["top","bottom","divisor"] MF (Zr KL):=fsc
abbrev Lc:Stmt:=top 19
abbrev OL:List Str:=["number"]
theorem MH:ZE ["number","piece","texts"] OL (Zr Lc):=fsc
abbrev Kp:Stmt:=top 20
abbrev MA:List Str:=["a"]
theorem NZ:ZE ["a","text"] MA (Zr Kp):=fsc
abbrev L8:Stmt:=top 21
abbrev S9:List Str:=["word"]
theorem Sv:ZE ["word","parts","top","bottom","figures","number"] S9 (Zr L8):=fsc
abbrev M0:Stmt:=top 11
abbrev Ox:List Str:=["a","b"]
theorem zcx:ZE ["a","b"] Ox (Zr M0):=fsc
abbrev Lp:Stmt:=top 40
abbrev OZ:List Str:=[q36]
theorem KQ:ZE [q36,"low","high"] OZ (Zr Lp):=fsc
abbrev ML:Stmt:=ZS (top 44) 5
abbrev RE:List Str:=["self","name"]
theorem zbY:ZE ["self","name"] RE (Zr ML):=fsc
abbrev M3:Stmt:=top 33
abbrev Og:List Str:=["node","weights"]
theorem Dl:ZE ["node","weights"] Og (Zr M3):=fsc
abbrev Ly:Stmt:=ZS (top 34) 1
abbrev UR:List Str:=["self","node"]
theorem MS:ZE ["self","node","own_weight","number"] UR (Zr Ly):=fsc
abbrev Ju:Stmt:=ZS (top 44) 2
abbrev Mh:List Str:=["self",q36]
theorem K7:ZE ["self",q36,"own_ends","number"] Mh (Zr Ju):=fsc
abbrev Kh:Stmt:=ZS (top 28) 0
abbrev Np:List Str:=["self",q36]
theorem zdc:ZE ["self",q36] Np (Zr Kh):=fsc
abbrev MX:Stmt:=ZS (top 28) 1
abbrev Tp:List Str:=["self"]
theorem zdN:ZE ["self"] Tp (Zr MX):=fsc
abbrev Jh:Stmt:=ZS (top 28) 3
abbrev Vr:List Str:=["self"]
theorem Fb:ZE ["self","word"] Vr (Zr Jh):=fsc
abbrev Ru:Stmt:=ZS (top 28) 8
abbrev SO:List Str:=["self"]
theorem HA:ZE ["self","tree"] SO (Zr Ru):=fsc
abbrev QJ:Stmt:=ZS (top 28) 7
abbrev TH:List Str:=["self"]
theorem Kd:ZE ["self","word","number"] TH (Zr QJ):=fsc
abbrev MP:Stmt:=ZS (top 28) 2
abbrev Tf:List Str:=["self","choices"]
theorem Br:ZE ["self","choices"] Tf (Zr MP):=fsc
abbrev Q3:Stmt:=ZS (top 28) 6
abbrev T8:List Str:=["self"]
theorem IM:ZE ["self","tree"] T8 (Zr Q3):=fsc
abbrev Pe:Stmt:=ZS (top 28) 5
abbrev SI:List Str:=["self"]
theorem LW:ZE ["self","tree"] SI (Zr Pe):=fsc
abbrev QG:Stmt:=ZS (top 28) 4
abbrev Um:List Str:=["self"]
theorem O1:ZE ["self","tree","kind"] Um (Zr QG):=fsc
abbrev LQ:Stmt:=top 29
abbrev QD:List Str:=[q36]
theorem La:ZE [q36,"reader","tree"] QD (Zr LQ):=fsc
abbrev L1:Stmt:=ZS (top 44) 6
abbrev Qq:List Str:=["self",q36]
theorem JT:ZE ["self",q36,"word"] Qq (Zr L1):=fsc
abbrev KS:Stmt:=top 43
abbrev QT:List Str:=["net"]
theorem Lw:ZE ["net","fresh","node"] QT (Zr KS):=fsc
abbrev Qm:Stmt:=top 42
abbrev Vz:List Str:=["net","tree","meanings"]
theorem LP:ZE ["net","tree","meanings","first","second"] Vz (Zr Qm):=fsc
abbrev KO:Stmt:=ZS (top 44) 3
abbrev OV:List Str:=["self",q36]
theorem Ld:ZE ["self",q36,"tree","grown"] OV (Zr KO):=fsc
abbrev KD:Stmt:=top 41
abbrev Mg:List Str:=[q36]
theorem GX:ZE [q36,"place","word"] Mg (Zr KD):=fsc
abbrev KJ:Stmt:=ZS (top 44) 4
abbrev Of:List Str:=["self",q36]
theorem Tu:ZE ["self",q36,"place","left","right","grown","at"] Of (Zr KJ):=fsc
abbrev Jl:Stmt:=ZS (top 44) 1
abbrev Rf:List Str:=["self","line"]
theorem HY:ZE ["self","line",q36] Rf (Zr Jl):=fsc
abbrev LL:Stmt:=top 64
abbrev My:List Str:=[q87,q99]
theorem Qn:ZE [q87,q99,"_law_heard","e"] My (Zr LL):=fsc
abbrev Kb:Stmt:=top 66
abbrev Nf:List Str:=[q87,"_law_which"]
theorem EC:ZE [q87,"_law_which",q92] Nf (Zr Kb):=fsc
abbrev MJ:Stmt:=top 45
abbrev MC:List Str:=["lines"]
theorem Lx:ZE ["lines","task","line"] MC (Zr MJ):=fsc
abbrev LY:Stmt:=top 49
abbrev Uq:List Str:=[q92]
theorem ET:ZE [q92] Uq (Zr LY):=fsc
abbrev Wj:Stmt:=top 50
abbrev Xl:List Str:=[q92,"_law_due"]
theorem RP:ZE [q92,"_law_due"] Xl (Zr Wj):=fsc
abbrev Uj:Stmt:=top 67
abbrev JG:List Str:=[q86]
theorem XE:ZE [q86,q87,q4,"_law_shape","_law_held","_law_good",q98,q47,"_law_grown",q99,"_law_heard","_law_looks_here",q92,"_law_due","_law_again"] JG (Zr Uj):=fsc
theorem kfo {K:Fg}{f c:Addr}{m:Value}{n q:Str}{st:Stmt}(l:K.lookup f=some (fo n q st m c)):W.keepIn K (.ref f)=true:=by
 unfold W.keepIn;simp only[l]
theorem ifo {K:Fg}{f c:Addr}{m:Value}{n q:Str}{st:Stmt}(l:K.lookup f=some (fo n q st m c)):W.isFn K (.ref f)=true:=by
 unfold W.isFn W.typeIn;simp only[l];rfl
theorem ln0 {P:List Value->Prop}(h:P []):∀us:List Value,us.length=0->P us
 | [],_=>h
theorem ln1 {P:List Value->Prop}(h:∀a,P [a]):∀us:List Value,us.length=1->P us
 | [a],_=>h a
theorem ln2 {P:List Value->Prop}(h:∀a b,P [a,b]):∀us:List Value,us.length=2->P us
 | [a,b],_=>h a b
theorem ln3 {P:List Value->Prop}(h:∀a b c,P [a,b,c]):∀us:List Value,us.length=3->P us
 | [a,b,c],_=>h a b c
abbrev Bn (n q:Str)(st:Stmt)(ps:List Str):Prop:=∀(kV doc pm:Value)(an:Option Addr)(cdv ct:Value)(us:List Value),us.length=ps.length->bindArgs (W.fnOf n q (UN st) (WN st) (Zr st) .none kV doc pm an cdv ct) ⟨us,[]⟩=pure (ps.zip us)
def dfo {K:Fg}{mg:Str->Option Value}{h:Heap}(X:K.In h)(G:h.Ns mainGlobals mg){n:Str}{st:Stmt}{f c:Addr}{m:Value}{ps:List Str}(a:W.nsIn K mainGlobals n=some (some (.ref f)))(l:K.lookup f=some (fo n n st m c))(e:W.codeIn K (.ref c) n=true)(b:Bn n n st ps:=by first|exact λ_ _ _ _ _ _=>ln2 λ_ _=>rfl|exact λ_ _ _ _ _ _=>ln3 λ_ _ _=>rfl|exact λ_ _ _ _ _ _=>ln1 λ_=>rfl|exact λ_ _ _ _ _ _=>ln0 rfl):Df K mg n st ps:=⟨_,_,OJ (st:=st) l e (kfo l),W.mg_of X G a,(OJ (st:=st) l e (kfo l)).binds b⟩
def dmo {K:Fg}{C:Addr}{n q:Str}{st:Stmt}{f c:Addr}{m:Value}{ps:List Str}(a:W.findIn K (.ref C) n=some (some (.ref f)))(l:K.lookup f=some (fo n q st m c))(e:W.codeIn K (.ref c) q=true)(b:Bn n q st ps:=by first|exact λ_ _ _ _ _ _=>ln2 λ_ _=>rfl|exact λ_ _ _ _ _ _=>ln3 λ_ _ _=>rfl|exact λ_ _ _ _ _ _=>ln1 λ_=>rfl|exact λ_ _ _ _ _ _=>ln0 rfl):Dm K C n q st ps:=⟨_,_,OJ (st:=st) l e (kfo l),⟨a,ifo l,kfo l⟩,(OJ (st:=st) l e (kfo l)).binds b⟩
abbrev nsA (K:Fg)(n:Str)(f:Addr):Prop:=W.nsIn K mainGlobals n=some (some (.ref f))
abbrev fdA (K:Fg)(C:Addr)(n:Str)(f:Addr):Prop:=W.findIn K (.ref C) n=some (some (.ref f))
abbrev lkA (K:Fg)(f:Addr)(n q:Str)(st:Stmt)(m:Value)(c:Addr):Prop:=K.lookup f=some (fo n q st m c)
abbrev cdA (K:Fg)(c:Addr)(q:Str):Prop:=W.codeIn K (.ref c) q=true
theorem Yc {C:Addr}{f:Str}{to:TDE}{dl:Ev}{S S1:Sto}{Q:DK}{n:Nat}{fs:List (Str×D)}{v:D}(hto:∀K:DK,K (.ref n) S1->to dl S K)(h:S1[n]?=some (.ins C fs))(hf:fs.lookup f=some v)(hq:Q v S1):Pm C f to dl S Q:=by
 unfold Pm;refine hto _ ?_;simp only[XO,h,if_pos,hf];exact hq
theorem WG {C:Addr}{f:Str}{to te:TDE}{dl:Ev}{S S1 S2:Sto}{E:YS}{n:Nat}{fs:List (Str×D)}{v:D}(hte:∀K:DK,K v S1->te dl S K)(hto:∀K:DK,K (.ref n) S2->to dl S1 K)(h:S2[n]?=some (.ins C fs))(hl:fs.length<1000)(hq:E.nx dl (S2.set n (.ins C (Z8 f v fs)))):S0 C f to te E dl S:=by
 unfold S0;refine hte _ (hto _ ?_);simp only[XO,h,if_pos];exact⟨hl,hq⟩
theorem ZP {C:Addr}{m:Str}{ex:Ev->Addr->Sto->Prop}{sd:Sd}{to:TDE}{t:TDA}{dl:Ev}{S S1:Sto}{Q:DK}{n:Nat}{fs:List (Str×D)}(hto:∀K:DK,K (.ref n) S1->to dl S K)(h:S1[n]?=some (.ins C fs))(hf:fs.lookup m=none)(hq:t dl S1 λds S2=>sd (.ref n::ds) S2 Q (ex dl)):Sh C m ex sd to t dl S Q:=by
 unfold Sh;refine hto _ ?_;simp only[XO,h,if_pos];exact⟨hf,hq⟩
theorem Jk {c:Addr}{y:Bool}{te:TDE}{dl:Ev}{S:Sto}{Q:DK}(ht:∀K:DK,K (.exc c) S->te dl S K)(hq:Q (.bl y) S):Qo (Te c y) te dl S Q:=by
 unfold Qo;refine ht _ ?_;simp only[Te,if_pos];exact hq
theorem zcN {to ti te:TDE}{dl:Ev}{S:Sto}{E:YS}{n j:Nat}{k:Int}{xs:List D}{v:D}(hte:∀K:DK,K v S->te dl S K)(hto:∀K:DK,K (.ref n) S->to dl S K)(hti:∀K:DK,K (.int k) S->ti dl S K)(h:S[n]?=some (.lst xs))(hj:ixN xs.length k=some j)(hq:E.nx dl (S.set n (.lst (xs.set j v)))):OH to ti te E dl S:=by
 unfold OH;refine hte _ (hto _ (hti _ ?_));simp only[h,hj];exact hq
theorem YL (h:S[n]?=some (.lst xs))(hq:Q (.int (xs.length:Nat)) S):irr UX [.ref n] S Q:=by
 rw[Us];unfold UX;simp only[Yo h rfl];exact hq
theorem SQ {S:Sto}{n a:Nat}{o u:Ob}(h:S[n]?=some o)(hn:a≠n):(S.set a u)[n]?=some o:=by rw[yD hn];exact h
theorem Ym {S:Sto}{n:Nat}{o u:Ob}(h:S[n]?=some o):(S.set n u)[n]?=some u:=by
 have hk:=(zE.mp h).1;simp[hk]
theorem ZF {S:Sto}{n:Nat}{o:Ob}{T:Sto}(h:S[n]?=some o):(S++T)[n]?=some o:=by
 have hk:=(zE.mp h).1;rw[zY hk];exact h
theorem V0 (T R:Sto)(u:Ob):(T++u::R)[T.length]?=some u:=by simp
theorem VH (T R:Sto)(u v:Ob):(T++u::R).set T.length v=T++v::R:=by simp
theorem W7 {dl:Ev}{S:Sto}{Q:DK}{T:Sto}{m:Nat}(e:T=S++[.lst []])(em:m=S.length)(h:Q (.ref m) T):dLst X3 dl S Q:=by
 subst e em;exact h
theorem ZL {S:Sto}{n:Nat}{o:Ob}(h:S[n]?=some o):n<S.length:=(zE.mp h).1
theorem zda (h1:S[n]?=some (.lst xs))(h2:S[m]?=some (.lst ys))(e:eqL (eqN 1) xs ys=some b)(hq:Q (.bl b) S):Xi (U8 1) (.ref n) (.ref m) S Q:=by
 rw[Xs];unfold U8;simp only[Vd,Yo h1 rfl,Yo h2 rfl,ZC,e];exact hq
theorem DT {xs:List Int}{lo hi:Option Int}{k:Nat}{x:D}(h:(Yv (xs.map D.int) lo hi)[k]?=some x):∃c:Int,x=.int c:=by
 have m:=zT h;unfold L3.Yv at m;obtain⟨c,_,rfl⟩:=yM.mp (List.mem_of_mem_drop (List.mem_of_mem_take m));exact⟨c,rfl⟩
theorem Ku {i n:Nat}{tb:TDS}{E:YS}{dl:Ev}{S:Sto}{o:Ob}(W:Nat->Ev->Sto->Prop)(h0:W 0 dl S)(hk:∀k dl' S',W k dl' S'->S'[n]?=some o)
  (ht:∀(k:Nat)(x:D)(dl':Ev)(S':Sto)(nx ct:Ev->Sto->Prop),(ZC o)[k]?=some x->W k dl' S'->(∀dl2 S2,W (k+1) dl2 S2->nx dl2 S2)->tb { nx:=nx,rt:=E.rt,bk:=E.nx,ct:=ct } (dl'.set i (some x)) S')(he:∀dl' S',W (ZC o).length dl' S'->E.nx dl' S')(hL:Wl o=some o:=by rfl):
  (lAt S n).isSome=true/\∃W:Nat->Nat->Ev->Sto->Prop,(∃m,W 0 m dl S)/\∀k m dl S,W k m dl S->match lAt S n with
  | some o=>match (ZC o)[k]? with
   | some x=>tb { nx:=λdl' S'=>∃m',m'<m/\W (k+1) m' dl' S',rt:=E.rt,bk:=E.nx,ct:=λdl' S'=>∃m',m'<m/\W (k+1) m' dl' S' } (dl.set i (some x)) S
   | none=>E.nx dl S
  | none=>False:=by
 refine⟨by rw[Yo (hk _ _ _ h0) hL];rfl,λk m dl' S'=>m+k=(ZC o).length/\W k dl' S',⟨(ZC o).length,(),h0⟩,?_⟩;rintro k m dl' S' ⟨hm,w⟩;rw[Yo (hk _ _ _ w) hL];show (match (ZC o)[k]? with
   | some x=>tb { nx:=λdl' S''=>∃m',m'<m/\(m'+(k+1)=(ZC o).length/\W (k+1) dl' S''),rt:=E.rt,bk:=E.nx,ct:=λdl' S''=>∃m',m'<m/\(m'+(k+1)=(ZC o).length/\W (k+1) dl' S'') } (dl'.set i (some x)) S'
   | none=>E.nx dl' S')
 split
 .rename_i x hx;have hk:k<(ZC o).length:=(zE.mp hx).1;exact ht k x dl' S' _ _ hx w λdl2 S2 w2=>⟨m-1,(),(),w2⟩
 .rename_i hx;have hk:k=(ZC o).length:=by
   have:=yR.mp hx;lia
  exact he dl' S' (hk ▸ w)
open PySem.W.KIN PySem.NumText
abbrev cs (x:Str):List Nat:=x.cps.toList
theorem Wk {x y:Str}(h:cs x=cs y):x=y:=by
 cases x;cases y
 simp only[Str.mk.injEq];exact Array.toList_inj.mp h
theorem Vl (w:Str):w.length=(cs w).length:=by simp[Str.length]
theorem WA (a b:Str):cs (a++b)=cs a++cs b:=by show (a++b).cps.toList=_;rw[Str.cps_append];simp
def dec (m:Nat):List Nat:=(Nat.toDigits 10 m).map Char.toNat
theorem O4 (m:Nat):AllDigits (dec m):=λc hc=>by
 obtain⟨x,hx,e⟩:=yM.mp hc;have r:=digit_range (Nat.isDigit_of_mem_toDigits ⋯ ⋯ hx);rw[<- e];exact r
theorem RM (m:Nat):dec m≠[]:=λe=>by
 have l1:=toDigits_len_ge 10 m;rw[wY.mp e] at l1;exact absurd l1 ⋯
theorem SN (m:Nat):digitsVal (dec m)=m:=val_back m
theorem Hs (h:dec a=dec b):a=b:=by rw[<- SN a,<- SN b,h]
theorem RK (h:10<=m):dec m=dec (m/10)++[48+m%10]:=by
 have hm:m%10<10:=xQ m ⋯
 have two:Nat.toDigits 10 (m/10)++Nat.toDigits 10 (m%10)=Nat.toDigits 10 (10*(m/10)+m%10):=Nat.toDigits_append_toDigits ⋯ () hm;rw[Nat.div_add_mod] at two;unfold dec;rw[<- two,zN,vV hm];have e:∀d:Nat,d<10->(Nat.digitChar d).toNat=48+d:=by decide
 show _++[(Nat.digitChar (m%10)).toNat]=_;rw[e _ hm]
theorem R3 (h:m<10):dec m=[48+m]:=by
 unfold dec;rw[vV h];have e:∀d:Nat,d<10->(Nat.digitChar d).toNat=48+d:=by decide
 show [(Nat.digitChar m).toNat]=_;rw[e _ h]
theorem Ek (m:Nat):∀r,dec m=48::r->m=0/\r=[]:=by
 refine Nat.strongRecOn m λm ih=>?_
 .intro r e;by_cases h:m<10
  .rw[R3 h] at e;simp only[List.cons.injEq] at e;exact⟨(),e.2.symm⟩
  .rw[RK ()] at e;cases d:dec (m/10) with
   | nil=>exact absurd d (RM _)
   | cons c t=>
    rw[d] at e;simp only[xF,List.cons.injEq] at e;have:=ih (m/10) () t (by rw[d,e.1]);lia
theorem US {m k:Nat}(hk:1<=k)(h:m<10^k):(dec m).length<=k:=by
 induction k generalizing m with
 | zero=>lia
 | succ k ih=>
  by_cases hm:m<10
  .rw[R3 hm];simp
  .rw[RK ()];by_cases k0:k=0
   .subst k0;simp at h;lia
   .have:=ih (m:=m/10) () (by rw[yS] at h;lia);simp;exact this
theorem Fd (l:List Nat):AllDigits l->digitsVal l<10^l.length:=by
 induction l using PyProof.Rows.snocInd with
 | nil=>intro _;decide
 | snoc l c ih=>
  intro h;have h1:=ih (λd hd=>h d (yH _ hd))
  have h2:=h c (by simp);rw[digitsVal_snoc,zF,xK,yS];lia
def num (i:Int):List Nat:=if i<0 then 45::dec i.natAbs else dec i.natAbs
theorem Be (i:Int):cs (Str.ofString (toString i))=num i:=by
 unfold num;cases i with
 | ofNat m=>exact signs_num m
 | negSucc k=>
  rw[if_pos (Int.negSucc_lt_zero k)];show (Str.ofString (toString (Int.negSucc k))).cps.toList=_;rw[signs_ofString];show (("-":String)++Nat.repr (k+1)).toList.map Char.toNat=_;rw[String.toList_append,zN,Nat.toList_repr];rfl
theorem U5 {i:Int}(h:0<=i):num i=dec i.natAbs:=if_neg ()
theorem Lh {i:Int}(h:i<0):num i=45::dec i.natAbs:=if_pos h
theorem Jc (i:Int):num i≠[]:=by
 unfold num;split
 .exact λe=>by cases e
 .exact RM _
theorem Sa {i:Int}{c:Nat}(h:c∈num i):c=45\/48<=c/\c<=57:=by
 unfold num at h;split at h
 .rcases zB.mp h with e|e
  .exact .inl e
  .exact .inr (O4 _ c e)
 .exact .inr (O4 _ c h)
theorem Vt {m:Nat}{c:Nat}{r:List Nat}(h:dec m=c::r):48<=c/\c<=57:=O4 m c (by rw[h];exact zV ..)
theorem UD {a b:Int}(h:num a=num b):a=b:=by
 unfold num at h;split at h<;>split at h
 .have:=Hs (List.cons.inj h).2;lia
 .have:=Vt h.symm;lia
 .have:=Vt h;lia
 .have:=Hs h;lia
def Z3 (t b:Int):List Nat:=num t++(if b=1 then [] else 47::num b)
structure Yt (w:List Nat)(t b:Int):Prop where
 pos:1<=b
 low:Int.gcd t b=1
 top:t.natAbs<10^9
 bot:b<10^9
 eq:w=Z3 t b
theorem QY (i:Int):47 ∉ num i:=λh=>by
 have:=Sa h;lia
theorem Hg:∀ {X A Y B:List Nat},47 ∉ X->47 ∉ A->X++47::Y=A++47::B->X=A/\Y=B
 | [],[],Y,B,_,_,e=>⟨rfl,(List.cons.inj e).2⟩
 | [],a::A,Y,B,_,h,e=>absurd (show 47∈a::A by rw[show a=47 from ((List.cons.inj e).1).symm];exact zV ..) h
 | x::X,[],Y,B,h,_,e=>absurd (show 47∈x::X by rw[show x=47 from (List.cons.inj e).1];exact zV ..) h
 | x::X,a::A,Y,B,h1,h2,e=>by
  obtain⟨e1,e2⟩:=List.cons.inj e;obtain⟨r1,r2⟩:=Hg (λm=>h1 (zO _ m)) (λm=>h2 (zO _ m)) e2;exact⟨by rw[e1,r1],r2⟩
theorem Yt.split {A B:List Nat}{t b:Int}(h:Yt (A++47::B) t b)(hA:47 ∉ A):num t=A/\num b=B/\b≠1:=by
 have e:=h.eq;unfold Z3 at e;split at e
 .rw[yE] at e;exact absurd (show 47∈num t by rw[<- e];simp) (QY t)
 .rename_i hb;obtain⟨r1,r2⟩:=Hg hA (QY t) e;exact⟨r1.symm,r2.symm,hb⟩
theorem Yt.plain {w:List Nat}{t b:Int}(h:Yt w t b)(hw:47 ∉ w):num t=w/\b=1:=by
 have e:=h.eq;unfold Z3 at e;split at e
 .rename_i hb;rw[yE] at e;exact⟨e.symm,hb⟩
 .exact absurd (by rw[e];simp) hw
theorem Yt.mem (h:Yt w t b)(hc:c∈w):c=45\/c=47\/48<=c/\c<=57:=by
 rw[h.eq] at hc;unfold Z3 at hc;rcases zH.mp hc with e|e
 .rcases Sa e with z|z
  .exact .inl z
  .exact .inr (.inr z)
 .split at e
  .cases e
  .rcases zB.mp e with z|z
   .exact .inr (.inl z)
   .rcases Sa z with z|z
    .exact .inl z
    .exact .inr (.inr z)
def Bad (w:List Nat):Prop:=∀t b:Int,¬ Yt w t b
theorem X4 {w:List Nat}{c:Nat}(hc:c∈w)(h:c≠45/\c≠47/\¬ (48<=c/\c<=57)):Bad w:=λt b n=>by
 have:=n.mem hc;lia
theorem zej {A B:List Nat}(hA:47 ∉ A)(h:∀b:Int,1<b->num b≠B):Bad (A++47::B):=λ_ b n=>by
 obtain⟨_,e,hb⟩:=n.split hA;have:=n.pos;exact h b () e
theorem Tx {w:List Nat}(hw:47 ∉ w)(h:∀t:Int,t.natAbs<10^9->num t≠w):Bad w:=λt _ n=>h t n.top (n.plain hw).1
theorem A8 (t:Int):num t≠[]:=Jc t
theorem zbR (t:Int):num t≠[45]:=λe=>by
 unfold num at e;split at e
 .exact RM _ (List.cons.inj e).2
 .have:=Vt e;lia
theorem AJ {r:List Nat}(hr:r≠[])(t:Int):num t≠48::r:=λe=>by
 unfold num at e;split at e
 .have:=(List.cons.inj e).1;lia
 .exact hr (Ek _ _ e).2
theorem zd4 (r:List Nat)(t:Int):num t≠45::48::r:=λe=>by
 unfold num at e;split at e
 .rename_i h;have:=(Ek _ _ (List.cons.inj e).2).1;lia
 .have:=Vt e;lia
theorem zaI (r:List Nat)(t:Int):num t≠45::45::r:=λe=>by
 unfold num at e;split at e
 .have:=Vt (List.cons.inj e).2;lia
 .have:=Vt e;lia
theorem J2 {t0 b0 m:Int}(hm:2<=m)(hb:1<=b0):Bad (num (t0*m)++47::num (b0*m)):=λt b n=>by
 obtain⟨e1,e2,_⟩:=n.split (QY _);have e1:=UD e1
 have e2:=UD e2;subst e1 e2;have d1:(m.natAbs:Int) ∣ t0*m:=Int.natAbs_dvd.mpr (vW _ _)
 have d2:(m.natAbs:Int) ∣ b0*m:=Int.natAbs_dvd.mpr (vW _ _)
 have g:=Int.dvd_gcd d1 d2;rw[n.low] at g;have:=Nat.le_of_dvd ⋯ g;lia
def pad (k r:Nat):List Nat:=List.replicate (k-(dec r).length) 48++dec r
theorem Fj (hq:0<q):∀(k r:Nat),1<=k->r<10^k->dec (q*10^k+r)=dec q++pad k r
 | 0,_,h,_=>absurd h ⋯
 | 1,r,_,hr=>by
  have hr':r<10:=by simpa using hr
  rw[RK (),show (q*10^1+r)/10=q by lia,show (q*10^1+r)%10=r by lia];unfold pad;rw[R3 hr'];rfl
 | k+2,r,_,hr=>by
  have ih:=Fj hq (k+1) (r/10) () (by rw[yS] at hr;lia)
  have e1:(q*10^(k+2)+r)/10=q*10^(k+1)+r/10:=by rw[yS,<- xR];lia
  have e2:(q*10^(k+2)+r)%10=r%10:=by rw[yS,<- xR];lia
  have big:10<=q*10^(k+2)+r:=by
   have:1<=q*10^(k+1):=Nat.mul_pos hq (Nat.pow_pos ⋯);rw[yS,<- xR];lia
  rw[RK big,e1,e2,ih,yG];congr 1;unfold pad;by_cases h:r<10
  .rw[R3 h,show r/10=0 by lia,show r%10=r by lia,R3 ⋯];show List.replicate (k+1-1) 48++[48+0]++[48+r]=List.replicate (k+2-1) 48++[48+r];congr 1;rw[show k+2-1=(k+1-1)+1 by lia,List.replicate_succ']
  .rw[RK (show 10<=r by lia),yG,zF,xK];rw[show k+1+1-((dec (r/10)).length+1)=k+1-(dec (r/10)).length by lia]
theorem OT:("/":Str)=⟨#[47]⟩:=by decide
theorem GV:("-":Str)=⟨#[45]⟩:=by decide
theorem Bt (h:47 ∉ cs x):Txt.partition x "/"=(x,Str.empty,Str.empty):=by
 rw[OT];unfold Txt.partition;rcases StrLaws.occ_head x ⟨#[47]⟩ 1 (zA 1) with ⟨h0,_⟩|⟨i,r,h0,hi,hn⟩
 .rw[h0]
 .exact absurd (zT ((StrLaws.subAt_one x 47 i).mp hi)) h
theorem zem (e:cs x=A++47::B)(hA:47 ∉ A):Txt.partition x "/"=((⟨A.toArray⟩:Str),("/":Str),(⟨B.toArray⟩:Str)):=by
 rw[OT];unfold Txt.partition;have at47:(cs x)[A.length]?=some 47:=by rw[e];simp
 rcases StrLaws.occ_head x ⟨#[47]⟩ 1 (zA 1) with ⟨_,hn⟩|⟨i,r,h0,hi,hn⟩
 .exact absurd ((StrLaws.subAt_one x 47 A.length).mpr at47) (hn _)
 .rw[h0];have hi':=(StrLaws.subAt_one x 47 i).mp hi
  have ei:i=A.length:=by
   rcases Nat.lt_trichotomy i A.length with l|l|l
   .have z:(cs x)[i]?=A[i]?:=by rw[e,zY l]
    rw[z] at hi';exact absurd (zT hi') hA
   .exact l
   .exact absurd ((StrLaws.subAt_one x 47 A.length).mpr at47) (hn _ l)
  subst ei;have lx:x.length=A.length+1+B.length:=by rw[Vl,e];simp;lia
  have p1:Builtin.Str.strSub x 0 A.length=⟨A.toArray⟩:=Wk (by
   show (Builtin.Str.strSub x 0 A.length).cps.toList=A;rw[StrLaws.strSub_toList,show x.cps.toList=A++47::B from e];simp)
  have p2:Builtin.Str.strSub x (A.length+(⟨#[47]⟩:Str).length) x.length=⟨B.toArray⟩:=Wk (by
   show (Builtin.Str.strSub x (A.length+1) x.length).cps.toList=B;rw[StrLaws.strSub_toList,show x.cps.toList=A++47::B from e,lx];simp)
  show (Builtin.Str.strSub x 0 A.length,(⟨#[47]⟩:Str),Builtin.Str.strSub x (A.length+(⟨#[47]⟩:Str).length) x.length)=_;rw[p1,p2]
theorem zad (x:Str):Txt.startswith x "-"=decide ((cs x)[0]?=some 45):=by
 rw[GV];unfold Txt.startswith;have z:=StrLaws.subAt_one x 45 0;rw[yP,zZ,decide_eq_true_eq,decide_eq_true_eq];exact z
abbrev mk (l:List Nat):Str:=⟨l.toArray⟩
theorem YQ (l:List Nat):cs (mk l)=l:=by simp
theorem Ur (x:Str):mk (cs x)=x:=Wk (by simp)
theorem YZ (l:List Nat):(mk l).length=l.length:=by rw[Vl,YQ]
theorem VT (a b:List Nat):mk a++mk b=mk (a++b):=Wk (by rw[WA,YQ,YQ,YQ])
theorem SK (i:Int):Str.ofString (toString i)=mk (num i):=Wk (by rw[Be,YQ])
theorem zdT {x:Str}{r:List Nat}(h:cs x=45::r):StrLaws.sliceText x (some 1) none=mk r:=by
 have l:x.cps.toList.length=r.length+1:=by rw[show x.cps.toList=45::r from h];simp
 rw[StrLaws.sliceText_from (x:=x) (i:=1) ⟨⋯,()⟩];refine Wk ?_;rw[YQ];show (⟨_⟩:Str).cps.toList=r;rw[show x.cps.toList=45::r from h];simp
theorem VQ {i:Int}{k:Nat}(hk:1<=k)(h:i.natAbs<10^k):(num i).length<=k+1:=by
 have:=US hk h;unfold num;split
 .simp;lia
 .lia
theorem Am {r:Nat}(h:(dec r).length<=64):Txt.zfill (mk (dec r)) 64=mk (pad 64 r):=by
 unfold Txt.zfill;rw[YZ];split
 .rename_i c;have e:(dec r).length=64:=by lia
  unfold pad;rw[e];rfl
 .unfold zfilled;cases d:dec r with
  | nil=>exact absurd d (RM r)
  | cons c t=>
   have hc:=Vt d;rw[show (mk (c::t)).cps[0]?=some c by simp];split
   .rename_i z;cases z;lia
   .rename_i z;cases z;lia
   .refine Wk ?_;unfold pad Builtin.Str.padded;rw[d];simp
theorem zep (zs:List Str):cs (ZM zs)=zs.flatMap cs:=by simp[ZM]
theorem FK:∀ls:List (List Nat),Wh (ls.map λl=>D.str (mk l))=some (ls.map mk)
 | []=>rfl
 | l::ls=>by
  show (Wh (ls.map λl=>D.str (mk l))).map (mk l::·)=_;rw[FK ls];rfl
theorem DU (ls:List (List Nat)):ZM (ls.map mk)=mk ls.flatten:=Wk (by
 rw[zep,YQ,List.flatMap_map];have e:∀ks:List (List Nat),(ks.flatMap λa=>cs (mk a))=ks.flatten:=λks=>by
  induction ks with
  | nil=>rfl
  | cons k ks ih=>rw[wX,wZ,ih,YQ]
 exact e ls)
theorem Ry {i:Int}{k:Nat}(h:i.natAbs<10^k)(hk:k<=400):i.natAbs.log2<1920:=by
 by_cases z:i.natAbs=0
 .rw[z];decide
 .rw[xM z];refine zK h ?_;have h1:(10:Nat)^k<=16^k:=Nat.pow_le_pow_left ⋯ k
  have h2:(16:Nat)^k=2^(4*k):=by rw[Nat.pow_mul]
  rw[h2] at h1;exact zW h1 (xD ⋯ ())
theorem GU (h:AllDigits F)(h1:F≠[])(h2:F.length<=600):PySem.intText? (mk F)=some ((digitsVal F:Nat):Int)/\PySem.intText? (mk (45::F))=some (-((digitsVal F:Nat):Int)):=by
 refine⟨?_,?_⟩
 .have z:=intText_digits (x:=mk F) (by rw[show (mk F).cps.toList=F from YQ F];exact h) (by rw[show (mk F).cps.toList=F from YQ F];exact h1) (by rw[YZ];lia);rw[show (mk F).cps.toList=F from YQ F] at z;exact z
 .exact intText_neg (x:=mk (45::F)) (cs:=F) (YQ _) h h1 (by rw[YZ];simp;lia)
theorem Fy:∀w:List Nat,47∈w->∃A B,w=A++47::B/\47 ∉ A
 | [],h=>by cases h
 | c::w,h=>by
  by_cases e:c=47
  .subst e;exact⟨[],w,rfl,by simp⟩
  .have h':47∈w:=by
    rcases zB.mp h with z|z
    .exact absurd z.symm e
    .exact z
   obtain⟨A,B,e1,e2⟩:=Fy w h';exact⟨c::A,B,by rw[e1];rfl,by simp;exact⟨λz=>e z.symm,e2⟩⟩
structure Eb (K:Fg)(mg:Str->Option Value)(x:Str) where
 c:Addr
 bound:mg x=some (.ref c)
theorem all_map (f:Nat->Bool)(l:List Nat):(l.map f).all id=l.all f:=by rw[List.all_map];rfl
theorem D1 {a P B j:Nat}(h:a*P^j<B):a/P*P^(j+1)<B:=by
 rw[yS,Nat.mul_comm (P^j),<- xR];exact wK (vX _ (Nat.div_mul_le_self _ _)) h
theorem cut4 {s1 s2 s3 s4 t2:TDS}{E:YS}{dl:Ev}{S:Sto}{α:Type}(G:α->Ev)(P:α->Prop)(h:(∀a,P a->t2 E (G a) S)->Yq s1 (Yq s2 (Yq s3 (Yq s4 t2))) E dl S)(main:∀a,P a->t2 E (G a) S):Yq s1 (Yq s2 (Yq s3 (Yq s4 t2))) E dl S:=h main
abbrev FIG:Str:="0123456789"
theorem HN (c:Nat):c∈cs FIG↔48<=c/\c<=57:=by
 have e:cs FIG=[48,49,50,51,52,53,54,55,56,57]:=by decide
 rw[e];simp;omega
def Vp (w:Str):Bool:=(decide (1<=(w.length:Int))&&decide ((w.length:Int)<=9))&&w.cps.toList.all (λc=>decide (c∈FIG.cps.toList))
theorem LK (w:Str):Vp w=true↔(cs w≠[]/\(cs w).length<=9/\PySem.NumText.AllDigits (cs w)):=by
 unfold Vp;rw[zZ,zZ,decide_eq_true_eq,decide_eq_true_eq,wU];rw[Vl];constructor
 .rintro⟨⟨h1,h2⟩,h3⟩;refine⟨λz=>?_,(),λc hc=>(HN c).mp (of_decide_eq_true (h3 c hc))⟩;rw[z] at h1;simp at h1
 .rintro⟨h1,h2,h3⟩;have:0<(cs w).length:=List.length_pos_iff.mpr h1;exact⟨⟨(),()⟩,λc hc=>decide_eq_true ((HN c).mpr (h3 c hc))⟩
def ME (w T B:List Nat):Prop:=(w=T/\B=[49]\/w=T++47::B)/\47 ∉ T
def Sig (T F:List Nat):Prop:=T=45::F\/T=F/\T[0]?≠some 45
theorem Tq (n:Yt w t b)(sh:ME w T B)(sg:Sig T F):T=num t/\F=dec t.natAbs/\B=dec b.natAbs:=by
 obtain⟨sh,nT⟩:=sh;have e:T=num t/\B=dec b.natAbs:=by
  rcases sh with ⟨rfl,rfl⟩|rfl
  .obtain⟨e1,rfl⟩:=n.plain nT;exact⟨e1.symm,⋯⟩
  .obtain⟨e1,e2,_⟩:=n.split nT;rw[U5 (by have:=n.pos;lia)] at e2;exact⟨e1.symm,e2.symm⟩
 refine⟨e.1,?_,e.2⟩;have e1:=e.1;by_cases ht:t<0
 .rw[Lh ht] at e1;rcases sg with rfl|⟨rfl,z⟩
  .exact(List.cons.inj e1).2
  .rw[e1] at z;exact absurd rfl z
 .rw[U5 ()] at e1;rcases sg with rfl|⟨rfl,_⟩
  .have:=Vt e1.symm;lia
  .exact e1
theorem Ez (h:m<10^9):Vp (mk (dec m))=true:=by
 rw[LK,YQ];exact⟨RM m,US ⋯ h,O4 m⟩
theorem Ay (hb:1<=b)(hb':1<=b')(g:Int.gcd t b=1)(g':Int.gcd t' b'=1)(e:t*b'=t'*b):t=t'/\b=b':=by
 have d1:b ∣ b':=by
  have z:b ∣ t*b':=⟨t',by rw[e,wM]⟩
  have z':=yX.mpr z;rw[wQ] at z';exact yX.mp (Nat.Coprime.dvd_of_dvd_mul_left (show Nat.gcd b.natAbs t.natAbs=1 by rw[Nat.gcd_comm];exact g) z')
 have d2:b' ∣ b:=by
  have z:b' ∣ t'*b:=⟨t,by rw[<- e,wM]⟩
  have z':=yX.mpr z;rw[wQ] at z';exact yX.mp (Nat.Coprime.dvd_of_dvd_mul_left (show Nat.gcd b'.natAbs t'.natAbs=1 by rw[Nat.gcd_comm];exact g') z')
 have eb:b=b':=Int.le_antisymm (Int.le_of_dvd () d1) (Int.le_of_dvd () d2);subst eb;exact⟨Int.eq_of_mul_eq_mul_right () e,rfl⟩
theorem Yp (a b:Str):(a++b).length=a.length+b.length:=Str.length_append a b
theorem Yt.one {w:List Nat}{t b t' b':Int}(h:Yt w t b)(h':Yt w t' b'):t=t'/\b=b':=by
 have e':=h'.eq;unfold Z3 at e';split at e'
 .rename_i z;rw[yE] at e';have w47:47 ∉ w:=by rw[e'];exact QY _
  obtain⟨e1,e2⟩:=h.plain w47;exact⟨UD (e1.trans e'),by rw[e2,z]⟩
 .rw[e'] at h;obtain⟨e1,e2,_⟩:=h.split (QY _);exact⟨UD e1,UD e2⟩
abbrev LET:Str:="abcdefghijklmnopqrstuvwxyz"
abbrev KEPT:List Str:=["let","in","grid","fine","looks","solve","boxes","point","right","islands"]
def ZU (w:Str):Bool:=((decide (1<=(w.length:Int))&&decide ((w.length:Int)<=8))&&w.cps.toList.all (λc=>decide (c∈LET.cps.toList)))&&!KEPT.any (·==w)
theorem Dr {w:Str}{c:Nat}(hc:c∈w.cps.toList)(hn:c ∉ LET.cps.toList):ZU w=false:=by
 unfold ZU;have e:w.cps.toList.all (λc=>decide (c∈LET.cps.toList))=false:=by
  rw[List.all_eq_false];exact⟨c,hc,by simpa using hn⟩
 rw[e,xO,yU]
inductive Tr
 | nm (w:List Nat)|nb (t b:Int)|pw (t:Tr) (k:Int)|bi (kind:Nat) (l r:Tr)
inductive Wd
 | lp|rp|pl|mi|ti|ca|at
 deriving DecidableEq
section
variable {α:Type}(K:α->Wd)(av:α->Option Tr)(pv:α->Option Int)
abbrev Rd (α:Type):=List α->Option (Tr×List α)
def Xg (ex:Rd α):Rd α
 | []=>none
 | w::r=>if K w=.lp then (match ex r with
   | some (t,w2::r2)=>if K w2=.rp then some (t,r2) else none
   | _=>none) else (av w).map λt=>(t,r)
def Yr (ex:Rd α):Rd α:=λws=>match Xg K av ex ws with
 | none=>none
 | some (t,[])=>some (t,[])
 | some (t,w::r)=>if K w=.ca then (match r with
   | []=>none
   | p::r2=>(pv p).map λk=>(.pw t k,r2)) else some (t,w::r)
def Xh (ex:Rd α):Nat->Tr->Rd α
 | _,t,[]=>some (t,[])
 | 0,t,w::r=>some (t,w::r)
 | n+1,t,w::r=>if K w=.ti then (match Yr K av pv ex r with
   | none=>none
   | some (t2,r2)=>Xh ex n (.bi 2 t t2) r2) else some (t,w::r)
def YN (ex:Rd α):Rd α:=λws=>match Yr K av pv ex ws with
 | none=>none
 | some (t,r)=>Xh K av pv ex ws.length t r
def W3:Wd->Option Nat
 | .pl=>some 0
 | .mi=>some 1
 | _=>none
def Xp (ex:Rd α):Nat->Tr->Rd α
 | _,t,[]=>some (t,[])
 | 0,t,w::r=>some (t,w::r)
 | n+1,t,w::r=>match W3 (K w) with
  | none=>some (t,w::r)
  | some k=>match YN K av pv ex r with
   | none=>none
   | some (t2,r2)=>Xp ex n (.bi k t t2) r2
def XB (ex:Rd α):Rd α:=λws=>match YN K av pv ex ws with
 | none=>none
 | some (t,r)=>Xp K av pv ex ws.length t r
def V9:Nat->Rd α
 | 0=>XB K av pv λ_=>none
 | f+1=>XB K av pv (V9 f)
def Wa:Nat->Rd α
 | 0=>λ_=>none
 | f+1=>V9 K av pv f
theorem LF (f:Nat):V9 K av pv f=XB K av pv (Wa K av pv f):=by cases f<;>rfl
inductive Ex:Nat->Nat->List α->Tr->Prop
 | atom {w:α} {t:Tr}:K w=.at->av w=some t->Ex 3 0 [w] t
 | shut {a b:α} {l k:Nat} {c:List α} {t:Tr}:K a=.lp->K b=.rp->Ex l k c t->Ex 3 (k+1) (a::c++[b]) t
 | pow {a p:α} {k:Nat} {c:List α} {t:Tr} {n:Int}:K a=.ca->K p=.at->pv p=some n->Ex 3 k c t->Ex 2 k (c++[a,p]) (.pw t n)
 | tim {a:α} {l m k j:Nat} {c d:List α} {t s:Tr}:K a=.ti->1<=l->2<=m->Ex l k c t->Ex m j d s->Ex 1 (max k j) (c++a::d) (.bi 2 t s)
 | sum {a:α} {l m k j n:Nat} {c d:List α} {t s:Tr}:W3 (K a)=some n->1<=m->Ex l k c t->Ex m j d s->Ex 0 (max k j) (c++a::d) (.bi n t s)
variable {K av pv}
theorem GN {ex:Rd α}(hx:∀ws t r,ex ws=some (t,r)->r.length<ws.length){ws:List α}{t:Tr}{r:List α}(h:Xg K av ex ws=some (t,r)):r.length<ws.length:=by
 unfold Xg at h;split at h
 .cases h
 .rename_i w rr;split at h
  .split at h
   .rename_i t2 w2 r2 e;split at h
    .cases h;have:=hx _ _ _ e;simp at this ⊢;lia
    .cases h
   .cases h
  .cases e:av w with
   | none=>simp[e] at h
   | some t2=>
    rw[e] at h;cases h;simp
theorem O6 {ex:Rd α}(hx:∀ws t r,ex ws=some (t,r)->r.length<ws.length){ws:List α}{t:Tr}{r:List α}(h:Yr K av pv ex ws=some (t,r)):r.length<ws.length:=by
 unfold Yr at h;split at h
 .cases h
 .rename_i t2 e;cases h;exact GN hx e
 .rename_i t2 w r2 e;have z:=GN hx e;split at h
  .split at h
   .cases h
   .rename_i p r3;cases e2:pv p with
    | none=>rw[e2] at h;cases h
    | some k=>
     rw[e2] at h;cases h;simp at z ⊢;lia
  .cases h;exact z
theorem IP {ex:Rd α}(hx:∀ws t r,ex ws=some (t,r)->r.length<ws.length):∀(n:Nat) {ws:List α} {t0 t:Tr} {r:List α},Xh K av pv ex n t0 ws=some (t,r)->r.length<=ws.length
 | n,[],t0,t,r,h=>by cases n<;>(cases h;simp)
 | 0,w::ws,t0,t,r,h=>by cases h;simp
 | n+1,w::ws,t0,t,r,h=>by
  unfold Xh at h;split at h
  .split at h
   .cases h
   .rename_i t2 r2 e;have a:=O6 hx e
    have b:=IP hx n h;simp;lia
  .cases h;simp
theorem QO {ex:Rd α}(hx:∀ws t r,ex ws=some (t,r)->r.length<ws.length){ws:List α}{t:Tr}{r:List α}(h:YN K av pv ex ws=some (t,r)):r.length<ws.length:=by
 unfold YN at h;split at h
 .cases h
 .rename_i t2 r2 e;have a:=O6 hx e
  have b:=IP hx _ h;lia
theorem FW {ex:Rd α}(hx:∀ws t r,ex ws=some (t,r)->r.length<ws.length):∀(n:Nat) {ws:List α} {t0 t:Tr} {r:List α},Xp K av pv ex n t0 ws=some (t,r)->r.length<=ws.length
 | n,[],t0,t,r,h=>by cases n<;>(cases h;simp)
 | 0,w::ws,t0,t,r,h=>by cases h;simp
 | n+1,w::ws,t0,t,r,h=>by
  unfold Xp at h;split at h
  .cases h;simp
  .split at h
   .cases h
   .rename_i t2 r2 e;have a:=QO hx e
    have b:=FW hx n h;simp;lia
theorem G8 {ex:Rd α}(hx:∀ws t r,ex ws=some (t,r)->r.length<ws.length){ws:List α}{t:Tr}{r:List α}(h:XB K av pv ex ws=some (t,r)):r.length<ws.length:=by
 unfold XB at h;split at h
 .cases h
 .rename_i t2 r2 e;have a:=QO hx e
  have b:=FW hx _ h;lia
theorem Le:∀(f:Nat) {ws:List α} {t:Tr} {r:List α},V9 K av pv f ws=some (t,r)->r.length<ws.length
 | 0,_,_,_,h=>G8 (λ_ _ _ e=>by cases e) h
 | f+1,_,_,_,h=>G8 (λ_ _ _ e=>Le f e) h
def Sou (ex:Rd α)(l0:Nat):Prop:=∀ws t r,ex ws=some (t,r)->∃c l k,ws=c++r/\l0<=l/\Ex K av pv l k c t
variable (hav:∀w t,av w=some t->K w=.at)(hpv:∀w k,pv w=some k->K w=.at)
include hav in
theorem Kz {ex:Rd α}(hx:Sou (K:=K) (av:=av) (pv:=pv) ex 0):Sou (K:=K) (av:=av) (pv:=pv) (Xg K av ex) 3:=λws t r h=>by
 unfold Xg at h;split at h
 .cases h
 .rename_i w rr;split at h
  .rename_i ew;split at h
   .rename_i t2 w2 r2 e;split at h
    .rename_i ew2;cases h;obtain⟨c,l,k,e1,_,d⟩:=hx _ _ _ e;exact⟨w::c++[w2],3,k+1,by rw[e1];simp,zA _,.shut ew ew2 d⟩
    .cases h
   .cases h
  .cases e:av w with
   | none=>simp[e] at h
   | some t2=>
    rw[e] at h;cases h;exact⟨[w],3,0,rfl,zA _,.atom (hav _ _ e) e⟩
theorem FQ {l k:Nat}{c:List α}{t:Tr}(h:Ex K av pv l k c t):l<=3:=by cases h<;>lia
include hav hpv in
theorem NK {ex:Rd α}(hx:Sou (K:=K) (av:=av) (pv:=pv) ex 0):Sou (K:=K) (av:=av) (pv:=pv) (Yr K av pv ex) 2:=λws t r h=>by
 unfold Yr at h;split at h
 .cases h
 .rename_i t2 e;cases h;obtain⟨c,l,k,e1,l3,d⟩:=Kz hav hx _ _ _ e;exact⟨c,l,k,e1,(),d⟩
 .rename_i t2 w r2 e;obtain⟨c,l,k,e1,l3,d⟩:=Kz hav hx _ _ _ e;have el:l=3:=by have:=FQ d;lia
  subst el;split at h
  .rename_i ew;split at h
   .cases h
   .rename_i p r3;cases e2:pv p with
    | none=>rw[e2] at h;cases h
    | some n=>
     rw[e2] at h;cases h;exact⟨c++[w,p],2,k,by rw[e1];simp,zA _,.pow ew (hpv _ _ e2) e2 d⟩
  .cases h;exact⟨c,3,k,e1,(),d⟩
include hav hpv in
theorem Hr {ex:Rd α}(hx:Sou (K:=K) (av:=av) (pv:=pv) ex 0):∀(n:Nat)(ws:List α)(t0 t:Tr)(r c:List α)(l k:Nat),Xh K av pv ex n t0 ws=some (t,r)->1<=l->Ex K av pv l k c t0->∃d l' k',ws=d++r/\1<=l'/\Ex K av pv l' k' (c++d) t
 | n,[],t0,t,r,c,l,k,h,hl,d=>by cases n<;>(cases h;exact⟨[],l,k,rfl,hl,by simpa using d⟩)
 | 0,w::ws,t0,t,r,c,l,k,h,hl,d=>by cases h;exact⟨[],l,k,rfl,hl,by simpa using d⟩
 | n+1,w::ws,t0,t,r,c,l,k,h,hl,d=>by
  unfold Xh at h;split at h
  .rename_i ew;split at h
   .cases h
   .rename_i t2 r2 e;obtain⟨c2,l2,k2,e1,hl2,d2⟩:=NK hav hpv hx _ _ _ e;obtain⟨d3,l3,k3,e3,hl3,x3⟩:=Hr hx n r2 _ t r (c++w::c2) 1 _ h (zA _) (.tim ew hl hl2 d d2);exact⟨w::c2++d3,l3,k3,by rw[e1,e3];simp,hl3,by simpa using x3⟩
  .cases h;exact⟨[],l,k,rfl,hl,by simpa using d⟩
include hav hpv in
theorem RJ {ex:Rd α}(hx:Sou (K:=K) (av:=av) (pv:=pv) ex 0):Sou (K:=K) (av:=av) (pv:=pv) (YN K av pv ex) 1:=λws t r h=>by
 unfold YN at h;split at h
 .cases h
 .rename_i t2 r2 e;obtain⟨c,l,k,e1,l2,d⟩:=NK hav hpv hx _ _ _ e;obtain⟨d3,l3,k3,e3,hl3,x3⟩:=Hr hav hpv hx _ _ _ _ _ c l k h () d;exact⟨c++d3,l3,k3,by rw[e1,e3];simp,hl3,x3⟩
include hav hpv in
theorem IY {ex:Rd α}(hx:Sou (K:=K) (av:=av) (pv:=pv) ex 0):∀(n:Nat)(ws:List α)(t0 t:Tr)(r c:List α)(l k:Nat),Xp K av pv ex n t0 ws=some (t,r)->Ex K av pv l k c t0->∃d l' k',ws=d++r/\Ex K av pv l' k' (c++d) t
 | n,[],t0,t,r,c,l,k,h,d=>by cases n<;>(cases h;exact⟨[],l,k,rfl,by simpa using d⟩)
 | 0,w::ws,t0,t,r,c,l,k,h,d=>by cases h;exact⟨[],l,k,rfl,by simpa using d⟩
 | n+1,w::ws,t0,t,r,c,l,k,h,d=>by
  unfold Xp at h;split at h
  .cases h;exact⟨[],l,k,rfl,by simpa using d⟩
  .rename_i m ew;split at h
   .cases h
   .rename_i t2 r2 e;obtain⟨c2,l2,k2,e1,hl2,d2⟩:=RJ hav hpv hx _ _ _ e;obtain⟨d3,l3,k3,e3,x3⟩:=IY hx n r2 _ t r (c++w::c2) 0 _ h (.sum ew hl2 d d2);exact⟨w::c2++d3,l3,k3,by rw[e1,e3];simp,by simpa using x3⟩
include hav hpv in
theorem JN {ex:Rd α}(hx:Sou (K:=K) (av:=av) (pv:=pv) ex 0):Sou (K:=K) (av:=av) (pv:=pv) (XB K av pv ex) 0:=λws t r h=>by
 unfold XB at h;split at h
 .cases h
 .rename_i t2 r2 e;obtain⟨c,l,k,e1,l2,d⟩:=RJ hav hpv hx _ _ _ e;obtain⟨d3,l3,k3,e3,x3⟩:=IY hav hpv hx _ _ _ _ _ c l k h d;exact⟨c++d3,l3,k3,by rw[e1,e3];simp,zS _,x3⟩
include hav hpv in
theorem HC:∀f,Sou (K:=K) (av:=av) (pv:=pv) (V9 K av pv f) 0
 | 0=>JN hav hpv λ_ _ _ e=>by cases e
 | f+1=>JN hav hpv (HC f)
end
section
variable {α:Type}{K:α->Wd}{av:α->Option Tr}{pv:α->Option Int}
def Nst (K:α->Wd)(x:Wd)(r:List α):Prop:=∀w r',r=w::r'->K w≠x
theorem Nst.nil {x:Wd}:Nst K x []:=λ_ _ e=>by cases e
theorem Nst.cons {x:Wd}{w:α}{r:List α}(h:K w≠x):Nst K x (w::r):=λ_ _ e=>by cases e;exact h
theorem O8 {ex:Rd α}{t:Tr}{r:List α}(h:Nst K .ti r)(n:Nat):Xh K av pv ex n t r=some (t,r):=by
 cases r with
 | nil=>cases n<;>rfl
 | cons w r=>
  cases n with
  | zero=>rfl
  | succ n=>
   unfold Xh;rw[if_neg (h w r rfl)]
theorem ON {ex:Rd α}{t:Tr}{r:List α}(h:∀w r',r=w::r'->W3 (K w)=none)(n:Nat):Xp K av pv ex n t r=some (t,r):=by
 cases r with
 | nil=>cases n<;>rfl
 | cons w r=>
  cases n with
  | zero=>rfl
  | succ n=>
   unfold Xp;rw[h w r rfl]
theorem zci {ex:Rd α}{a w:α}{r r2:List α}{t:Tr}(ha:K a=.lp)(e:ex r=some (t,w::r2))(hb:K w=.rp):Xg K av ex (a::r)=some (t,r2):=by simp[Xg,ha,e,hb]
theorem Sq {ex:Rd α}{c:List α}{t:Tr}(h:∀r,Xg K av ex (c++r)=some (t,r)):∀r,Nst K .ca r->Yr K av pv ex (c++r)=some (t,r):=λr hr=>by
 unfold Yr;rw[h r];cases r with
 | nil=>rfl
 | cons w r=>
  show (if K w=.ca then _ else some (t,w::r))=_;rw[if_neg (hr w r rfl)]
theorem Rb {ex:Rd α}{c r:List α}{t:Tr}(h:Yr K av pv ex (c++r)=some (t,r)):∃n,r.length<=n/\YN K av pv ex (c++r)=Xh K av pv ex n t r:=by
 refine⟨(c++r).length,by simp,?_⟩;unfold YN;rw[h]
theorem Mf {ex:Rd α}{c r:List α}{t:Tr}(h:∃n,r.length<=n/\YN K av pv ex (c++r)=Xh K av pv ex n t r)(hr:Nst K .ti r):∃n,r.length<=n/\XB K av pv ex (c++r)=Xp K av pv ex n t r:=by
 obtain⟨n,_,e⟩:=h;refine⟨(c++r).length,by simp,?_⟩;unfold XB;rw[e,O8 hr]
theorem BJ {l k:Nat}{c:List α}{t:Tr}(h:Ex K av pv l k c t):∀f,k<=f->(l=3->∀r,Xg K av (Wa K av pv f) (c++r)=some (t,r))/\(2<=l->∀r,Nst K .ca r->Yr K av pv (Wa K av pv f) (c++r)=some (t,r))/\(1<=l->∀r,Nst K .ca r->∃n,r.length<=n/\YN K av pv (Wa K av pv f) (c++r)=Xh K av pv (Wa K av pv f) n t r)/\∀r,Nst K .ca r->Nst K .ti r->∃n,r.length<=n/\XB K av pv (Wa K av pv f) (c++r)=Xp K av pv (Wa K av pv f) n t r:=by
 induction h with
 | @atom w t hw ha=>
  intro f _;have A:∀r,Xg K av (Wa K av pv f) ([w]++r)=some (t,r):=λr=>by
   show (if K w=.lp then _ else (av w).map λt=>(t,r))=_;rw[if_neg (by rw[hw];decide),ha];rfl
  exact⟨λ_=>A,λ_=>Sq A,λ_ r hr=>Rb (Sq A r hr),λr hr ht=>Mf (Rb (Sq A r hr)) ht⟩
 | @shut a b l k c t ha hb _ ih=>
  intro f hf;obtain⟨f',rfl⟩:∃f',f=f'+1:=⟨f-1,()⟩;obtain⟨_,_,_,i4⟩:=ih f' ();have A:∀r,Xg K av (Wa K av pv (f'+1)) (a::c++[b]++r)=some (t,r):=λr=>by
   have e0:a::c++[b]++r=a::(c++b::r):=by simp
   rw[e0];obtain⟨n,_,e⟩:=i4 (b::r) (Nst.cons (by rw[hb];decide)) (Nst.cons (by rw[hb];decide));have e2:Wa K av pv (f'+1) (c++b::r)=some (t,b::r):=by
    show V9 K av pv f' (c++b::r)=_;rw[LF,e];exact ON (λw r' q=>by cases q;rw[hb];rfl) n
   exact zci ha e2 hb
  exact⟨λ_=>A,λ_=>Sq A,λ_ r hr=>Rb (Sq A r hr),λr hr ht=>Mf (Rb (Sq A r hr)) ht⟩
 | @pow a p k c t n ha hp hn _ ih=>
  intro f hf;obtain⟨i1,_⟩:=ih f hf;have F:∀r,Yr K av pv (Wa K av pv f) (c++[a,p]++r)=some (.pw t n,r):=λr=>by
   have e0:c++[a,p]++r=c++(a::p::r):=by simp
   rw[e0];unfold Yr;rw[i1 rfl];show (if K a=.ca then _ else _)=_;rw[if_pos ha];show (pv p).map _=_;rw[hn];rfl
  exact⟨λe=>(),λ_ r _=>F r,λ_ r _=>Rb (F r),λr _ ht=>Mf (Rb (F r)) ht⟩
 | @tim a l m k j c d t s ha hl hm _ _ ih1 ih2=>
  intro f hf;obtain⟨_,_,i3,_⟩:=ih1 f ();obtain⟨_,j2,_,_⟩:=ih2 f ();have T:∀r,Nst K .ca r->∃n,r.length<=n/\YN K av pv (Wa K av pv f) (c++a::d++r)=Xh K av pv (Wa K av pv f) n (.bi 2 t s) r:=λr hr=>by
   have e0:c++a::d++r=c++(a::(d++r)):=by simp
   rw[e0];obtain⟨n,hn,e⟩:=i3 hl (a::(d++r)) (Nst.cons (by rw[ha];decide));obtain⟨n',rfl⟩:∃n',n=n'+1:=⟨n-1,by simp at hn;lia⟩;refine⟨n',by simp at hn;lia,?_⟩;rw[e];show (if K a=.ti then _ else _)=_;rw[if_pos ha,j2 hm r hr]
  exact⟨λe=>(),λe=>(),λ_=>T,λr hr ht=>Mf (T r hr) ht⟩
 | @sum a l m k j x c d t s ha hm _ _ ih1 ih2=>
  intro f hf;obtain⟨_,_,_,i4⟩:=ih1 f ();obtain⟨_,_,j3,_⟩:=ih2 f ();have n1:K a≠.ca:=λe=>by rw[e] at ha;cases ha
  have n2:K a≠.ti:=λe=>by rw[e] at ha;cases ha
  refine⟨λe=>(),λe=>(),λe=>(),λr hr ht=>?_⟩;have e0:c++a::d++r=c++(a::(d++r)):=by simp
  rw[e0];obtain⟨n,hn,e⟩:=i4 (a::(d++r)) (Nst.cons n1) (Nst.cons n2);obtain⟨n',rfl⟩:∃n',n=n'+1:=⟨n-1,by simp at hn;lia⟩;refine⟨n',by simp at hn;lia,?_⟩;obtain⟨q,_,e2⟩:=j3 hm r hr;rw[e];show (match W3 (K a) with|none=>_|some k=>_)=_;rw[ha];dsimp only;rw[e2,O8 ht]
theorem Dx {l k f:Nat}{c:List α}{t:Tr}(h:Ex K av pv l k c t)(hf:k<=f):V9 K av pv f c=some (t,[]):=by
 obtain⟨_,_,_,i4⟩:=BJ h f hf;obtain⟨n,_,e⟩:=i4 [] Nst.nil Nst.nil;rw[yE] at e;rw[LF,e];exact ON (λw r' q=>by cases q) n
theorem zek {a:α}{n:Nat}(h:W3 (K a)=some n):K a=.pl\/K a=.mi:=by
 cases e:K a<;>rw[e] at h<;>first|exact .inl rfl|exact .inr rfl|cases h
end
section
variable {X:Cx}{Z:Zx}{pos:Pos}
@[irreducible] def SG (C:Addr)(f:Str)(sg:Int->Int->Int)(to te:TDE):TDS:=λE dl S=>to dl S λd S1=>match XO C S1 d with
 | some (_,fs)=>match fs.lookup f with
  | some (.int i)=>te dl S1 λy S2=>match y with
   | .int j=>match XO C S2 d with
    | some (n,fs2)=>fs2.length<1000/\E.nx dl (S2.set n (.ins C (Z8 f (.int (sg i j)) fs2)))
    | none=>False
   | _=>False
  | _=>False
 | none=>False
theorem Eu {op:Operator}{rd:V->V->Hp->VK->Prop}{sg:Int->Int->Int}{C:Addr}{f:Str}{o e:Expr}{to te:TDE}{p2:Pos}(c:Cls X.K C)(n:YX X.K C f)(hop:OU X op rd)(hrd:∀i j H Q,Q (.int (sg i j)) H->rd (.int i) (.int j) H Q)(ho:PD X Z o to)(he:PD X Z e te):
  PDS X Z (.AugAssign (.Attribute o f p2) op e pos) (SG C f sg to te):=
 XT (E6 ho he hop) λF σ H ⟨r,dl,S,E,rs,aS,h,ret⟩=>by
  unfold SG at h;refine⟨r,dl,S,_,rs,aS,h,λv H1 r1 d S1 e1 aB p1 q1=>?_⟩;split at q1
  .rename_i m fs ei;obtain⟨rfl,eS⟩:=R0 ei;split at q1
   .rename_i i ef;obtain⟨a,ha,ob⟩:=aB.at eS;obtain⟨dx,fs',eH,fr⟩:=id ob;cases p1 with
    | ref hr=>
     rw[hr] at ha;cases ha
     obtain⟨u,hu,pu⟩:=fr.lookup.1 _ ef;cases pu;refine⟨a,C,dx,fs',_,rfl,eH,c,n,hu,r1,dl,S1,_,rs.ext e1,aB,q1,λw H2 r2 y S2 e2 aC p2' q2=>?_⟩;split at q2
     .rename_i j;cases p2';split at q2
      .rename_i m2 fs2 ei2;obtain⟨em,eS2⟩:=R0 ei2;cases em;obtain⟨hl,q2⟩:=q2;obtain⟨a2,ha2,ob2⟩:=aC.at eS2;obtain⟨dx2,fs2',eH2,fr2⟩:=id ob2;have hr2:=e2.adr _ _ hr;rw[hr2] at ha2;cases ha2
       have aL:fs2'.length=fs2.length:=by
        have:=congrArg List.length fr2.1;simpa using this.symm
       refine hrd i j _ _ ?_;obtain⟨rb,x⟩:=aC.b.setO (o':=.ins C (Z8 f (.int (sg i j)) fs2)) (u:=.ins C dx2 (Y7 f (.int (sg i j)) fs2')) hr2 eS2 rfl rfl λx=>⟨dx2,_,Y1,(fr2.put (.int _)).ext x⟩
       exact⟨dx2,fs2',eH2,(),ret.nx _ _ r2 _ _ (e1.trans (e2.trans x)) (rs.ext (e1.trans (e2.trans x))) ⟨rb,aC.xw.ext x⟩ q2⟩
      .exact q2.elim
     .exact q2.elim
   .exact q1.elim
  .exact q1.elim
theorem GY {C:Addr}{f:Str}{o e:Expr}{to te:TDE}{p2:Pos}(c:Cls X.K C)(n:YX X.K C f)(ho:PD X Z o to)(he:PD X Z e te):PDS X Z (.AugAssign (.Attribute o f p2) .Add e pos) (SG C f (λi j=>i+j) to te):=Eu c n B4 (λi j H Q q=>⟨i,j,rfl,rfl,q⟩) ho he
theorem C0 {C:Addr}{f:Str}{o e:Expr}{to te:TDE}{p2:Pos}(c:Cls X.K C)(n:YX X.K C f)(ho:PD X Z o to)(he:PD X Z e te):PDS X Z (.AugAssign (.Attribute o f p2) .Sub e pos) (SG C f (λi j=>i-j) to te):=Eu c n CK (λi j H Q q=>⟨i,j,rfl,rfl,q⟩) ho he
end
def GD (P:Program)(w:World)(K:Fg)(mg:Str->Option Value)(x:Str)(kvs:List (Str×Str)):Prop:=
 ∃(a:Addr)(o:Obj)(vs:List (Key×Value)),mg x=some (.ref a)/\K.lookup a=some o/\(∀h:Heap,h.get? a=some o->h.DictOf (Y8 P w) a vs)/\(∀k v,kvs.lookup k=some v->∃t,valueAt vs (.inr k)=some (.str v t))/\(∀k,kvs.lookup k=none->valueAt vs (.inr k)=none)/\(a==sysModules)=false
section
variable {X:Cx}{Z:Zx}{pos:Pos}
def tGetS (kvs:List (Str×Str))(ty:TE):TE:=λσ H Q=>ty σ H λy H1=>∃k v,y=.str k/\kvs.lookup k=some v/\Q (.str v) H1
theorem EI {x:Str}{i:Expr}{ty:TE}{p:Pos}{kvs:List (Str×Str)}(g:GD X.prog X.w X.K X.mg x kvs)(hg:Gl X x)(hi:PE X i ty)(hs:Tw i)(hd:(x==("__debug__":Str))=false:=by decide):PE X (.Subscript (.Name x p) i pos) (tGetS kvs ty):=by
 intro aA s σ H Q I h;obtain⟨a,o,vs,hm,hk,hdo,hv,_,_⟩:=g;refine G5 (T:="dict") PySem.F.slot_dict_getitem.lookup hs (thn (Th hg hm (v:=.ref a) rfl hd aA s σ H (λx H1=>x=.ref a/\H1=H) I ⟨rfl,rfl⟩) λu s1 ⟨x1,H1,I1,rx,e1,e2⟩=>?_);subst e1;subst e2;obtain rfl:u=Value.ref a:=rx;refine thn (hi aA s1 σ H1 _ I1 h) λiv s2 ⟨y,H2,I2,ry,k,v,ey,el,q2⟩=>?_
 subst ey;have dd:=hdo s2.heap (I2.kIn a o hk);obtain⟨t,hw⟩:=hv k v el;exact⟨dd.typeIs,wpAny_getItem_of (Ub (k:=.inr k) ry) dd.mapOf hw ⟨.str v,H2,I2.tok _,⟨t,rfl⟩,q2⟩⟩
@[irreducible] def Nj (kvs:List (Str×Str))(te:TDE):TDE:=λdl S Q=>te dl S λd S1=>match d with
 | .str k=>match kvs.lookup k with
  | some v=>Q (.str v) S1
  | none=>False
 | _=>False
theorem HB {x:Str}{i:Expr}{te:TDE}{p:Pos}{kvs:List (Str×Str)}(g:GD X.prog X.w X.K X.mg x kvs)(hg:Gl X x)(hi:PD X Z i te)(hs:Tw i)(hd:(x==("__debug__":Str))=false:=by decide):PD X Z (.Subscript (.Name x p) i pos) (Nj kvs te):=
 ZO (EI g hg hi hs hd) λσ H Qv ⟨r,dl,S,Q,rs,aS,h,ret⟩=>by
  unfold Nj at h;refine⟨r,dl,S,_,rs,aS,h,λv H1 r1 d S1 e1 aB p1 q1=>?_⟩;split at q1
  .rename_i k;cases p1;split at q1
   .rename_i z ez;exact⟨k,z,rfl,ez,ret _ H1 r1 (.str z) S1 e1 aB (.str z) q1⟩
   .exact q1.elim
  .exact q1.elim
end
theorem Ed {P:Program}{w:World}{K:Fg}{mg:Str->Option Value}{x k1 k2 v1 v2:Str}{a:Addr}{o:Obj}{t1 t2 u1 u2:Tok}{ep:Nat}(hm:mg x=some (.ref a))(hk:K.lookup a=some o)(ho:o.ExactDict)(hd:o.data=.dict #[⟨U4 w (.inr k1),.str k1 t1,.str v1 u1⟩,⟨U4 w (.inr k2),.str k2 t2,.str v2 u2⟩] ep)(ne:k1≠k2)(hs:(a==sysModules)=false):GD P w K mg x [(k1,v1),(k2,v2)]:=by
 refine⟨a,o,[(.inr k1,.str v1 u1),(.inr k2,.str v2 u2)],hm,hk,λh e=>⟨o,_,ep,e,ho,hd,?_,?_,?_⟩,λk v hl=>?_,λk hl=>?_,hs⟩
 .intro e he;simp only[List.mem_toArray,zB,zG,or_false] at he;rcases he with rfl|rfl
  .exact⟨.inr k1,Qg P w k1 t1,rfl⟩
  .exact⟨.inr k2,Qg P w k2 t2,rfl⟩
 .exact .cons (Qg P w k1 t1) rfl (.cons (Qg P w k2 t2) rfl .nil)
 .simp[ne]
 .unfold valueAt;by_cases c1:k=k1
  .subst c1;simp at hl;subst hl;exact⟨u1,by simp⟩
  .by_cases c2:k=k2
   .subst c2;rw[zJ,show (k==k1)=false by simpa using c1,zJ] at hl;simp at hl;subst hl;exact⟨u2,by simp[ne]⟩
   .rw[zJ,show (k==k1)=false by simpa using c1,zJ,show (k==k2)=false by simpa using c2] at hl;cases hl
 .unfold valueAt;by_cases c1:k=k1
  .subst c1;simp at hl
  .by_cases c2:k=k2
   .subst c2;rw[zJ,show (k==k1)=false by simpa using c1,zJ] at hl;simp at hl
   .simp[Ne.symm c1,Ne.symm c2]
section
variable {X:Cx}{Z:Zx}{pos:Pos}
def tInS (kvs:List (Str×Str))(ty:TE):TE:=λσ H Q=>ty σ H λy H1=>∃k,y=.str k/\Q (.bl (kvs.lookup k).isSome) H1
theorem zbG {x:Str}{i:Expr}{ty:TE}{p:Pos}{kvs:List (Str×Str)}(g:GD X.prog X.w X.K X.mg x kvs)(hg:Gl X x)(hi:PE X i ty)(hd:(x==("__debug__":Str))=false:=by decide):PC X .In i (.Name x p) (tInS kvs ty):=by
 intro aA s σ H Q I h;obtain⟨a,o,vs,hm,hk,hdo,hv,hn,hs⟩:=g;refine thn (hi aA s σ H _ I h) λiv s1 ⟨y,H1,I1,ry,k,ey,q1⟩=>?_
 subst ey;refine thn (Th hg hm (v:=.ref a) rfl hd aA s1 σ H1 (λx H2=>x=.ref a/\H2=H1) I1 ⟨rfl,rfl⟩) λu s2 ⟨x1,H2,I2,rx,e1,e2⟩=>?_
 subst e1;subst e2;obtain rfl:u=Value.ref a:=rx;have dd:=hdo s2.heap (I2.kIn a o hk);refine wpAny_in_of (Ub (k:=.inr k) ry) hs dd.mapOf ?_;have e:(valueAt vs (.inr k)).isSome=(kvs.lookup k).isSome:=by
  cases c:kvs.lookup k with
  | none=>rw[hn k c];rfl
  | some v=>
   obtain⟨t,z⟩:=hv k v c;rw[z];rfl
 rw[e];exact⟨.bl (kvs.lookup k).isSome,H2,I2.tok _,rfl,q1⟩
@[irreducible] def Qh (kvs:List (Str×Str))(te:TDE):TDE:=λdl S Q=>te dl S λd S1=>match d with
 | .str k=>Q (.bl (kvs.lookup k).isSome) S1
 | _=>False
theorem zev {kvs:List (Str×Str)}{te:TDE}{σ:L3.St}{H:Hp}{Qv:VK}(h:up X.K Z (Qh kvs te) σ H Qv):tInS kvs (up X.K Z te) σ H Qv:=by
 obtain⟨r,dl,S,Q,rs,aS,h,ret⟩:=h;unfold Qh at h;refine⟨r,dl,S,_,rs,aS,h,λv H1 r1 d S1 e1 aB p1 q1=>?_⟩;split at q1
 .rename_i k;cases p1;exact⟨k,rfl,ret _ H1 r1 (.bl _) S1 e1 aB (.bl _) q1⟩
 .exact q1.elim
theorem DF {x:Str}{i:Expr}{te:TDE}{p:Pos}{kvs:List (Str×Str)}(g:GD X.prog X.w X.K X.mg x kvs)(hg:Gl X x)(hi:PD X Z i te)(hm:behindInMarks .In (.Name x p)=false:=by rfl)(hd:(x==("__debug__":Str))=false:=by decide):PDT X Z (.Compare i [.In] [.Name x p] pos) (WL (Qh kvs te)):=
 U9 (P9 (zbG g hg hi hd) hm) λσ H Qb ⟨r,dl,S,Q,rs,aS,h,ret⟩=>zev ⟨r,dl,S,_,rs,aS,h,Si ret⟩
theorem Fe {kvs:List (Str×Str)}{te:TDE}{dl:Ev}{S S1:Sto}{Q:DK}{k:Str}(hte:∀K:DK,K (.str k) S1->te dl S K)(hq:Q (.bl (kvs.lookup k).isSome) S1):Qh kvs te dl S Q:=by
 unfold Qh;exact hte _ hq
end
section
variable {X:Cx}{Z:Zx}{pos:Pos}
def dGlbT (ws:List Str):TDE:=λ_ S Q=>Q (.ref S.length) (S++[.tpl ws])
theorem zdD {x:Str}{ws:List Str}{p:Pos}(hG:GT X.K X.mg x ws)(hg:Gl X x)(hd:(x==("__debug__":Str))=false:=by decide):PD X Z (.Name x p) (dGlbT ws):=by
 obtain⟨b,o,aQ,n,hm,hk,hc,hdt,hz,hv⟩:=hG;refine ZO (Th (v:=.ref b) hg hm rfl hd) λσ H Qv ⟨r,dl,S,Q,rs,aS,h,ret⟩=>?_
 obtain⟨rb,x⟩:=aS.b.pushF (p:=b) (o:=.tpl ws) rfl ⟨o,aQ,n,hk,hc,hdt,hz,hv⟩;exact ret (.ref b) H (r++[b]) (.ref S.length) _ x ⟨rb,aS.xw.ext x⟩ (Wo aS.len) h
def TK:W2:=λx y S Q=>match y with
 | .tup ys=>match XI (eqN 0) ys x with
  | some b=>Q (.bl b) S
  | none=>False
 | .ref n=>match x with
  | .str w=>match S[n]? with
   | some (.tpl ws)=>Q (.bl (ws.any (·==w))) S
   | _=>False
  | _=>False
 | _=>False
theorem zeo {j:Nat}(hr:ZG j X.A):OpR X (compareOp .In) (upO X.K Z (Xi TK)):=by
 rw[Xs];intro aA s σ H x y v u Qv I rx ry h;obtain⟨r,S,dx,dy,Q,aS,px,py,q,ret⟩:=h;cases py with
 | tup e1 l1 f1=>exact G4 (k:=0) hr ⋯ aA s σ H x _ v u Qv I rx ry ⟨r,S,dx,_,Q,aS,px,.tup e1 l1 f1,q,ret⟩
 | @ref n a hn=>
  unfold TK at q;dsimp only at q;split at q
  .rename_i w;cases px;split at q
   .rename_i ws eS;obtain⟨a',ha',o,aQ,m,hk,hc,hdt,hz,hv⟩:=aS.at eS;rw[hn] at ha';cases ha'
    refine zds aA s σ H _ _ v u Qv I rx ry ⟨a,ws.map V.str,rfl,.inr (.inr ⟨o,aQ,m,hk,hc,hdt,hz,hv⟩),rfl,Jy ws,?_⟩;show Qv (.bl (inV (.str w) (ws.map V.str))) H;rw[LI];exact ret _ H r (.bl _) S Ext.refl aS (.bl _) q
   .exact q.elim
  .exact q.elim
 | _=>exact(show False from q).elim
theorem zdQ {S:Sto}{Q:DK}{ws:List Str}{w:Str}(h:Q (.bl (ws.any (·==w))) S):Xi TK (.str w) (.tup (ws.map D.str)) S Q:=by
 rw[Xs];unfold TK;dsimp only;have e:∀ws:List Str,XI (eqN 0) (ws.map D.str) (.str w)=some (ws.any (·==w)):=λws=>Ll ..
 rw[e];exact h
theorem DD {S:Sto}{Q:DK}{n:Nat}{ws:List Str}{w:Str}(hn:S[n]?=some (.tpl ws))(h:Q (.bl (ws.any (·==w))) S):Xi TK (.str w) (.ref n) S Q:=by
 rw[Xs];unfold TK;dsimp only;rw[hn];exact h
end
noncomputable def _root_.L3.Df.vac {P:Program}{w:World}{K:Fg}{mg:Str->Option Value}{base:Heap}{x:Str}{st:Stmt}{ps:List Str}{sd:Sd}(d:Df K mg x st ps)(k:Nat)(hv:∀ds S Q ex,sd ds S Q ex->False):Fk P w K mg base k x ps sd:=
 ⟨d.f,d.fd,⟨λ_ _ _ _ ⟨_,_,_,_,_,_,_,z,_⟩=>(hv _ _ _ _ z).elim,λ_ _ _ _ _ _ _ _ _ _ _ _ _ ⟨_,_,_,_,_,_,_,z,_⟩=>(hv _ _ _ _ z).elim⟩,d.m,d.F.kp,d.b⟩
noncomputable def _root_.L3.Dm.vac {P:Program}{w:World}{K:Fg}{mg:Str->Option Value}{base:Heap}{C:Addr}{x aG:Str}{st:Stmt}{ps:List Str}{sd:Sd}(d:Dm K C x aG st ps)(k:Nat)(hv:∀ds S Q ex,sd ds S Q ex->False):Fm P w K mg base k C x ps sd:=
 ⟨d.f,d.fd,⟨λ_ _ _ _ ⟨_,_,_,_,_,_,_,z,_⟩=>(hv _ _ _ _ z).elim,λ_ _ _ _ _ _ _ _ _ _ _ _ _ ⟨_,_,_,_,_,_,_,z,_⟩=>(hv _ _ _ _ z).elim⟩,d.m,d.b⟩
def trD:Tr->D
 | .nm w=>.tup [.str "name",.str (mk w)]
 | .nb t b=>.tup [.str "number",.int t,.int b]
 | .pw t k=>.tup [.str "power",trD t,.int k]
 | .bi 0 l r=>.tup [.str "plus",trD l,trD r]
 | .bi 1 l r=>.tup [.str "minus",trD l,trD r]
 | .bi _ l r=>.tup [.str "times",trD l,trD r]
def kS (w:Str):Wd:=if w="(" then .lp else if w=")" then .rp else if w="+" then .pl else if w="-" then .mi else if w="*" then .ti else if w="^" then .ca else .at
def POW:List Str:=["2","3","4","5","6"]
def pvS (w:Str):Option Int:=if w="2" then some 2 else if w="3" then some 3 else if w="4" then some 4 else if w="5" then some 5 else if w="6" then some 6 else none
open Classical in
noncomputable def avS (w:Str):Option Tr:=if ZU w=true then some (.nm (cs w)) else if h:∃t b:Int,Yt (cs w) t b then some (.nb h.choose h.choose_spec.choose) else none
noncomputable abbrev exS (f:Nat):Rd Str:=V9 kS avS pvS f
noncomputable abbrev inS (f:Nat):Rd Str:=Wa kS avS pvS f
def rdF (wm:Nat)(p d:Int):List (Str×D):=[("words",.ref wm),("place",.int p),("depth",.int d)]
structure YA (C:Addr)(S:Sto)(n wm:Nat)(ws:List Str)(p d:Nat):Prop where
 rd:S[n]?=some (.ins C (rdF wm (p:Int) (d:Int)))
 wd:S[wm]?=some (.lst (ws.map D.str))
 pl:p<=ws.length
 ln:ws.length<=900
 wl:∀w∈ws,w.length<=900
def Yd (n:Nat)(S T:Sto):Prop:=n<T.length/\∀(x:Nat)(o:Ob),x≠n->S[x]?=some o->T[x]?=some o
theorem Yd.refl {n:Nat}{S:Sto}(h:n<S.length):Yd n S S:=⟨h,λ_ _ _ e=>e⟩
theorem Yd.trans {n:Nat}{S T U:Sto}(a:Yd n S T)(b:Yd n T U):Yd n S U:=⟨b.1,λx o ne e=>b.2 x o ne (a.2 x o ne e)⟩
theorem Yd.set {n:Nat}{S T:Sto}(a:Yd n S T)(o:Ob):Yd n S (T.set n o):=⟨by rw[vK];exact a.1,λx u ne e=>by rw[yD (Ne.symm ne)];exact a.2 x u ne e⟩
theorem Yd.app {n:Nat}{S T:Sto}(a:Yd n S T)(U:Sto):Yd n S (T++U):=⟨by rw[zF];have:=a.1;lia,λx u ne e=>by
 have z:=a.2 x u ne e;rw[zY (zE.mp z).1];exact z⟩
theorem L0 {C:Addr}{f:Str}{sg:Int->Int->Int}{to te:TDE}{dl:Ev}{S S1 S2:Sto}{E:YS}{n:Nat}{fs fs2:List (Str×D)}{i j:Int}(hto:∀K:DK,K (.ref n) S1->to dl S K)(h1:S1[n]?=some (.ins C fs))(hf:fs.lookup f=some (.int i))(hte:∀K:DK,K (.int j) S2->te dl S1 K)(h2:S2[n]?=some (.ins C fs2))(hl:fs2.length<1000)(hq:E.nx dl (S2.set n (.ins C (Z8 f (.int (sg i j)) fs2)))):SG C f sg to te E dl S:=by
 unfold SG;refine hto _ ?_;simp only[XO,h1,if_pos,hf];refine hte _ ?_;simp only[h2,if_pos];exact⟨hl,hq⟩
theorem MN (T:Sto)(u v:Ob):(T++[u]).set T.length v=T++[v]:=by simp
theorem YA.ne {C:Addr}{S:Sto}{n wm p d:Nat}{ws:List Str}(h:YA C S n wm ws p d):wm≠n:=λe=>by
 have a:=h.wd;rw[e,h.rd] at a;cases a
theorem YA.lt {C:Addr}{S:Sto}{n wm p d:Nat}{ws:List Str}(h:YA C S n wm ws p d):n<S.length:=(zE.mp h.rd).1
theorem YA.put {C:Addr}{S:Sto}{n wm p d:Nat}{ws:List Str}(h:YA C S n wm ws p d){p' d':Nat}(pi di:Int)(hp:pi=(p':Int))(hd:di=(d':Int))(l:p'<=ws.length):YA C (S.set n (.ins C (rdF wm pi di))) n wm ws p' d'/\Yd n S (S.set n (.ins C (rdF wm pi di))):=by
 subst hp;subst hd;refine⟨⟨?_,?_,l,h.ln,h.wl⟩,(Yd.refl h.lt).set _⟩
 .rw[yI h.lt]
 .rw[yD (Ne.symm h.ne)];exact h.wd
theorem YA.app {C:Addr}{S:Sto}{n wm p d:Nat}{ws:List Str}(h:YA C S n wm ws p d)(U:Sto):YA C (S++U) n wm ws p d/\Yd n S (S++U):=by
 refine⟨⟨?_,?_,h.pl,h.ln,h.wl⟩,(Yd.refl h.lt).app U⟩
 .rw[zY h.lt];exact h.rd
 .rw[zY (zE.mp h.wd).1];exact h.wd
theorem WH {ws:List Str}{p:Nat}(lp:p<ws.length):atI (ws.map D.str) (p:Int)=some (.str ws[p]):=Wr (j:=p) (by rw[zR,zD lp];rfl)
theorem Vj (w:Str)(t:Tr)(h:avS w=some t):kS w=.at:=by
 have bad:∀x:Str,ZU x=false->Bad (cs x)->avS x=none:=λx a b=>by
  unfold avS;rw[if_neg (by rw[a];decide),dif_neg λ⟨t,q,z⟩=>b t q z]
 have no:∀x:Str,avS x=none->w≠x:=λx e z=>by rw[z,e] at h;cases h
 have b1:avS "("=none:=bad _ ⋯ (X4 (c:=40) ⋯ ⋯)
 have b2:avS ")"=none:=bad _ ⋯ (X4 (c:=41) ⋯ ⋯)
 have b3:avS "+"=none:=bad _ ⋯ (X4 (c:=43) ⋯ ⋯)
 have b4:avS "*"=none:=bad _ ⋯ (X4 (c:=42) ⋯ ⋯)
 have b5:avS "^"=none:=bad _ ⋯ (X4 (c:=94) ⋯ ⋯)
 have b6:avS "-"=none:=bad _ ⋯ (by
  rw[show cs ("-":Str)=[45] by decide];exact Tx ⋯ λt _=>zbR t)
 unfold kS;rw[if_neg (no _ b1),if_neg (no _ b2),if_neg (no _ b3),if_neg (no _ b6),if_neg (no _ b4),if_neg (no _ b5)]
theorem Ti (w:Str)(k:Int)(h:pvS w=some k):kS w=.at:=by
 unfold pvS at h;by_cases c2:w="2"
 .rw[c2];decide
 by_cases c3:w="3"
 .rw[c3];decide
 by_cases c4:w="4"
 .rw[c4];decide
 by_cases c5:w="5"
 .rw[c5];decide
 by_cases c6:w="6"
 .rw[c6];decide
 rw[if_neg c2,if_neg c3,if_neg c4,if_neg c5,if_neg c6] at h;cases h
theorem zdK {α:Type}(A r:List α):(A++r).drop ((A++r).length-r.length)=r/\r.length<=(A++r).length:=by
 rw[zF,Nat.add_sub_cancel];exact⟨List.drop_left,()⟩
theorem UU {ex:Rd Str}{l:Nat}(hx:Sou (K:=kS) (av:=avS) (pv:=pvS) ex l){ws:List Str}{p:Nat}{t:Tr}{r:List Str}(h:ex (ws.drop p)=some (t,r)):ws.drop (ws.length-r.length)=r/\r.length<=ws.length:=by
 obtain⟨c,_,_,e,_⟩:=hx _ _ _ h;have z:ws=(ws.take p++c)++r:=by
  rw[yG,<- e];exact(List.take_append_drop p ws).symm
 have y:=zdK (ws.take p++c) r;rw[<- z] at y;exact y
theorem Jr (f:Nat):Sou (K:=kS) (av:=avS) (pv:=pvS) (exS f) 0:=HC Vj Ti f
theorem Tn (f:Nat):Sou (K:=kS) (av:=avS) (pv:=pvS) (inS f) 0:=by
 cases f with
 | zero=>exact λ_ _ _ e=>by cases e
 | succ f=>exact Jr f
theorem IJ (w:Str):kS w=.lp↔w="(":=by
 unfold kS;constructor
 .intro h
  (repeat' split at h)<;>first|assumption|cases h
 .rintro rfl;decide
theorem Fn (w:Str):kS w=.rp↔w=")":=by
 unfold kS;constructor
 .intro h
  (repeat' split at h)<;>first|assumption|cases h
 .rintro rfl;decide
theorem Kl (w:Str):kS w=.ti↔w="*":=by
 unfold kS;constructor
 .intro h
  (repeat' split at h)<;>first|assumption|cases h
 .rintro rfl;decide
theorem L5 (w:Str):kS w=.ca↔w="^":=by
 unfold kS;constructor
 .intro h
  (repeat' split at h)<;>first|assumption|cases h
 .rintro rfl;decide
theorem Fu (w:Str):kS w=.pl↔w="+":=by
 unfold kS;constructor
 .intro h
  (repeat' split at h)<;>first|assumption|cases h
 .rintro rfl;decide
theorem Gg (w:Str):kS w=.mi↔w="-":=by
 unfold kS;constructor
 .intro h
  (repeat' split at h)<;>first|assumption|cases h
 .rintro rfl;decide
theorem txNe {a b:Str}{S:Sto}{Q:DK}(h:Q (.bl (!decide (a=b))) S):wNe eq2 (.str a) (.str b) S Q:=h
theorem txEq {a b:Str}{S:Sto}{Q:DK}(h:Q (.bl (decide (a=b))) S):wEq eq2 (.str a) (.str b) S Q:=h
noncomputable def brS (f:Nat)(r:List Str):Option (Tr×List Str):=match inS f r with
 | some (t,w2::r2)=>if kS w2=Wd.rp then some (t,r2) else none
 | _=>none
theorem zet {f:Nat}{w:Str}{r:List Str}(h:w="("):Xg kS avS (inS f) (w::r)=brS f r:=by
 show (if kS w=.lp then _ else _)=_;rw[if_pos ((IJ w).mpr h)];unfold brS;cases inS f r with
 | none=>rfl
 | some x=>
  obtain⟨t,l⟩:=x;cases l<;>rfl
theorem zdz {f:Nat}{w:Str}{r:List Str}(h:w≠"("):Xg kS avS (inS f) (w::r)=(avS w).map λt=>(t,r):=by
 show (if kS w=.lp then _ else _)=_;rw[if_neg λz=>h ((IJ w).mp z)]
theorem QB {w:Str}(h:ZU w=true):avS w=some (.nm (cs w)):=by
 unfold avS;rw[if_pos h]
theorem JV {w:Str}(h:ZU w=false){t b:Int}(hn:Yt (cs w) t b):avS w=some (.nb t b):=by
 unfold avS;have z:∃t b:Int,Yt (cs w) t b:=⟨t,b,hn⟩;rw[if_neg (by rw[h];decide),dif_pos z];obtain⟨e1,e2⟩:=Yt.one z.choose_spec.choose_spec hn;exact congrArg some (by rw[Tr.nb.injEq];exact⟨e1,e2⟩)
theorem PZ {w:Str}(h:ZU w=false)(hn:Bad (cs w)):avS w=none:=by
 unfold avS;rw[if_neg (by rw[h];decide),dif_neg λ⟨t,b,z⟩=>hn t b z]
theorem D5 {i:Nat}{a b:Str}{t u v:TDS}{E:YS}{dl:Ev}{S:Sto}(hv:dl[i]?=some (some (.str a)))(h1:a=b->Yq t v E dl S)(h2:a≠b->Yq u v E dl S):Yq (dIf (WL (dOp (wEq eq2) (Y9 i) (dC (.str b)))) t u) v E dl S:=by
 unfold Yq dIf WL dOp Y9 dC;rw[hv];dsimp only;refine txEq ?_;by_cases c:a=b
 .rw[decide_eq_true c];exact h1 c
 .rw[decide_eq_false c];exact h2 c
section
variable {ex:Rd Str}{ws r:List Str}{t:Tr}{w p:Str}
theorem zd8 (h:Xg kS avS ex ws=none):Yr kS avS pvS ex ws=none:=by simp[Yr,h]
theorem Dt (h:Xg kS avS ex ws=some (t,[])):Yr kS avS pvS ex ws=some (t,[]):=by simp[Yr,h]
theorem D9 (h:Xg kS avS ex ws=some (t,w::r))(c:w≠"^"):Yr kS avS pvS ex ws=some (t,w::r):=by simp[Yr,h,L5,c]
theorem Cb (h:Xg kS avS ex ws=some (t,[w]))(c:w="^"):Yr kS avS pvS ex ws=none:=by simp[Yr,h,L5,c]
theorem BU (h:Xg kS avS ex ws=some (t,w::p::r))(c:w="^"):Yr kS avS pvS ex ws=(pvS p).map λk=>(.pw t k,r):=by simp[Yr,h,L5,c]
end
theorem Bx (p:Str):(POW.any λx=>x==p)=(pvS p).isSome:=by
 unfold pvS POW;by_cases c2:p="2"
 .rw[c2];decide
 by_cases c3:p="3"
 .rw[c3];decide
 by_cases c4:p="4"
 .rw[c4];decide
 by_cases c5:p="5"
 .rw[c5];decide
 by_cases c6:p="6"
 .rw[c6];decide
 rw[if_neg c2,if_neg c3,if_neg c4,if_neg c5,if_neg c6];simp[Ne.symm c2,Ne.symm c3,Ne.symm c4,Ne.symm c5,Ne.symm c6]
theorem zaW {p:Str}{k:Int}(h:pvS p=some k):PySem.intText? p=some k/\p.length<=640:=by
 unfold pvS at h;by_cases c2:p="2"
 .rw[if_pos c2] at h;cases h;rw[c2];exact⟨by decide +kernel,⋯⟩
 rw[if_neg c2] at h;by_cases c3:p="3"
 .rw[if_pos c3] at h;cases h;rw[c3];exact⟨by decide +kernel,⋯⟩
 rw[if_neg c3] at h;by_cases c4:p="4"
 .rw[if_pos c4] at h;cases h;rw[c4];exact⟨by decide +kernel,⋯⟩
 rw[if_neg c4] at h;by_cases c5:p="5"
 .rw[if_pos c5] at h;cases h;rw[c5];exact⟨by decide +kernel,⋯⟩
 rw[if_neg c5] at h;by_cases c6:p="6"
 .rw[if_pos c6] at h;cases h;rw[c6];exact⟨by decide +kernel,⋯⟩
 rw[if_neg c6] at h;cases h
theorem Jp {ws r:List Str}{w:Str}(h:ws.drop (ws.length-(r.length+1))=w::r)(l:r.length+1<=ws.length):ws.drop (ws.length-r.length)=r:=by
 have z:=congrArg List.tail h;rw[List.tail_drop] at z;rw[show ws.length-r.length=ws.length-(r.length+1)+1 by lia];exact z
section
variable {ex:Rd Str}{ws r r2:List Str}{t t2:Tr}{w p:Str}{n k:Nat}
theorem Ae (h:Yr kS avS pvS ex ws=none):YN kS avS pvS ex ws=none:=by simp[YN,h]
theorem DQ (h:Yr kS avS pvS ex ws=some (t,r)):YN kS avS pvS ex ws=Xh kS avS pvS ex ws.length t r:=by simp[YN,h]
theorem zck (c:w="*")(h:Yr kS avS pvS ex r=none):Xh kS avS pvS ex (n+1) t (w::r)=none:=by simp[Xh,Kl,c,h]
theorem BL (c:w="*")(h:Yr kS avS pvS ex r=some (t2,r2)):Xh kS avS pvS ex (n+1) t (w::r)=Xh kS avS pvS ex n (.bi 2 t t2) r2:=by simp[Xh,Kl,c,h]
theorem AV (h:YN kS avS pvS ex ws=none):XB kS avS pvS ex ws=none:=by simp[XB,h]
theorem Cz (h:YN kS avS pvS ex ws=some (t,r)):XB kS avS pvS ex ws=Xp kS avS pvS ex ws.length t r:=by simp[XB,h]
theorem Gb (c:W3 (kS w)=some k)(h:YN kS avS pvS ex r=none):Xp kS avS pvS ex (n+1) t (w::r)=none:=by simp[Xp,c,h]
theorem Ik (c:W3 (kS w)=some k)(h:YN kS avS pvS ex r=some (t2,r2)):Xp kS avS pvS ex (n+1) t (w::r)=Xp kS avS pvS ex n (.bi k t t2) r2:=by simp[Xp,c,h]
end
theorem RY {f:Nat}{ws:List Str}{t:Tr}{r:List Str}(h:inS f ws=some (t,r)):r.length<ws.length:=by
 cases f with
 | zero=>cases h
 | succ f=>exact Le f h
theorem JD {kvs:List (Str×Str)}{te:TDE}{dl:Ev}{S:Sto}{Q:DK}(h:te dl S λd S1=>match d with|.str k=>(match kvs.lookup k with|some v=>Q (.str v) S1|none=>False)|_=>False):Nj kvs te dl S Q:=by
 unfold Nj;exact h
theorem zcg {w:Str}(h1:w≠"+")(h2:w≠"-"):W3 (kS w)=none:=by
 cases e:kS w with
 | pl=>exact absurd ((Fu w).mp e) h1
 | mi=>exact absurd ((Gg w).mp e) h2
 | _=>rfl
noncomputable def trS (ws:List Str):Option Tr:=if 120<ws.length then none else match exS 16 ws with
 | some (t,[])=>some t
 | _=>none
theorem A6 {ws:List Str}(l:¬ 120<ws.length)(e:exS 16 ws=none):trS ws=none:=by unfold trS;rw[if_neg l,e]
theorem Et {ws:List Str}{t:Tr}(l:¬ 120<ws.length)(e:exS 16 ws=some (t,[])):trS ws=some t:=by unfold trS;rw[if_neg l,e]
theorem Bm {ws:List Str}{t:Tr}{w:Str}{r:List Str}(l:¬ 120<ws.length)(e:exS 16 ws=some (t,w::r)):trS ws=none:=by unfold trS;rw[if_neg l,e]
abbrev exP (l k:Nat)(ws:List Str)(t:Tr):Prop:=Ex kS avS pvS l k ws t
structure Pc (S:Sto)(d:D)(t:Tr)(m:Nat)(ws:List Str)(l k:Nat):Prop where
 eq:d=.tup [trD t,.ref m,.int (l:Int),.int (k:Int)]
 at_:S[m]?=some (.lst (ws.map D.str))
 ex:exP l k ws t
 ln:ws.length<=400
 wl:∀w∈ws,w.length<=600
theorem YB {S T:Sto}(p:Pre S T)(U:Sto):Pre S (T++U):=λx o e=>ZF (p x o e)
theorem B1 {v:Int}(h:2<=v/\v<=6):pvS (mk (num v))=some v/\(mk (num v)).length<=600:=by
 have c:v=2\/v=3\/v=4\/v=5\/v=6:=by lia
 rcases c with rfl|rfl|rfl|rfl|rfl<;>exact⟨by decide +kernel,by decide +kernel⟩
theorem zb2 {v:Int}(h:2<=v/\v<=6):v.natAbs.log2<1920:=by
 have c:v=2\/v=3\/v=4\/v=5\/v=6:=by lia
 rcases c with rfl|rfl|rfl|rfl|rfl<;>decide +kernel
def Tr.dp:Tr->Nat
 | .nm _=>0
 | .nb _ _=>0
 | .pw t _=>t.dp+1
 | .bi _ l r=>max l.dp r.dp+1
def NOAT:List Str:=["grid","let","in","islands","abcdefghi","1234567890","2/4","-0","007","1/1","1/1234567890","x2","X","","0/3","--1"]
theorem D6 (w:Str)(h:w∈NOAT):avS w=none/\kS w=.at/\w.length<=20:=by
 have one:∀x:Str,ZU x=false->Bad (cs x)->kS x=.at->x.length<=20->w=x->avS w=none/\kS w=.at/\w.length<=20:=λx a b c d e=>by
  subst e;exact⟨PZ a b,c,d⟩
 unfold NOAT at h;simp only[zB,zG,or_false] at h;rcases h with h|h|h|h|h|h|h|h|h|h|h|h|h|h|h|h
 .exact one _ ⋯ (X4 (c:=103) ⋯ ⋯) ⋯ ⋯ h
 .exact one _ ⋯ (X4 (c:=108) ⋯ ⋯) ⋯ ⋯ h
 .exact one _ ⋯ (X4 (c:=105) ⋯ ⋯) ⋯ ⋯ h
 .exact one _ ⋯ (X4 (c:=105) ⋯ ⋯) ⋯ ⋯ h
 .exact one _ ⋯ (X4 (c:=97) ⋯ ⋯) ⋯ ⋯ h
 .refine one _ ⋯ ?_ ⋯ ⋯ h;refine Tx ⋯ λt ht e=>?_
  have hl:=congrArg List.length e;rw[show (cs ("1234567890":Str)).length=10 by decide] at hl;by_cases c:t<0
  .rw[Lh c] at e;rw[show cs ("1234567890":Str)=49::[50,51,52,53,54,55,56,57,48] by decide] at e;cases e
  .rw[U5 ()] at hl;have:=US (m:=t.natAbs) (k:=9) ⋯ ht;lia
 .refine one _ ⋯ ?_ ⋯ ⋯ h;rw[show cs ("2/4":Str)=num (1*2)++47::num (2*2) by decide +kernel];exact J2 ⋯ ⋯
 .refine one _ ⋯ ?_ ⋯ ⋯ h;exact Tx ⋯ λt _=>zd4 [] t
 .refine one _ ⋯ ?_ ⋯ ⋯ h;exact Tx ⋯ λt _=>AJ (r:=[48,55]) ⋯ t
 .refine one _ ⋯ ?_ ⋯ ⋯ h;rw[show cs ("1/1":Str)=[49]++47::[49] by decide];refine zej ⋯ λb hb e=>?_
  have z:b=1:=UD (e.trans (show ([49]:List Nat)=num 1 by decide +kernel));lia
 .refine one _ ⋯ ?_ ⋯ ⋯ h;rw[show cs ("1/1234567890":Str)=[49]++47::num 1234567890 by decide +kernel];intro t b n;obtain⟨_,e,_⟩:=n.split ⋯;have z:=UD e
  have y:=n.bot;lia
 .exact one _ ⋯ (X4 (c:=120) ⋯ ⋯) ⋯ ⋯ h
 .exact one _ ⋯ (X4 (c:=88) ⋯ ⋯) ⋯ ⋯ h
 .refine one _ ⋯ ?_ ⋯ ⋯ h;exact Tx ⋯ λt _=>A8 t
 .refine one _ ⋯ ?_ ⋯ ⋯ h;rw[show cs ("0/3":Str)=num (0*3)++47::num (1*3) by decide +kernel];exact J2 ⋯ ⋯
 .refine one _ ⋯ ?_ ⋯ ⋯ h;exact Tx ⋯ λt _=>zaI [49] t
theorem zaY {w:Str}(h:ZU w=true):exP 3 0 [w] (.nm (cs w)):=Ex.atom (Vj _ _ (QB h)) (QB h)
theorem LO {l k:Nat}{c:List Str}{t:Tr}(h:exP l k c t)(hk:k<=16)(hl:c.length<=120):trS c=some t:=Et () (Dx h hk)
theorem J5 {is:List Nat}{ta:TDA}{tb:TDS}{E:YS}{dl:Ev}{S S1:Sto}{n:Nat}{xs:List D}(W:Nat->Ev->Sto->Prop)(hta:∀K:List D->Sto->Prop,K [.ref n] S1->ta dl S K)(hk:∀k dl' S',W k dl' S'->S'[n]?=some (.lst xs))(h0:W 0 dl S1)
  (hb:∀(k:Nat)(x:D)(dl':Ev)(S':Sto)(nx ct:Ev->Sto->Prop),xs[k]?=some x->W k dl' S'->(∀dl2 S2,W (k+1) dl2 S2->nx dl2 S2)->tb { nx:=nx,rt:=E.rt,bk:=E.nx,ct:=ct } (UP is [.int (k:Int),x] dl') S')(he:∀dl' S',W xs.length dl' S'->E.nx dl' S'):N8 is ta tb E dl S:=by
 unfold N8;refine hta _ ⟨by rw[Yo (hk _ _ _ h0) rfl];rfl,λk m dl' S'=>W k dl' S'/\k+m=xs.length,⟨xs.length,h0,()⟩,?_⟩;rintro k m dl' S' ⟨w,hm⟩;rw[Yo (hk _ _ _ w) rfl];dsimp only[ZC];split
 .rename_i x e1;have l1:=(zE.mp e1).1;exact hb k x dl' S' _ _ e1 w (λdl2 S2 w2=>⟨m-1,(),w2,()⟩)
 .rename_i e1;have l1:=yR.mp e1
  have ek:k=xs.length:=by lia
  exact⟨ek,he _ _ (ek ▸ w)⟩
theorem VI {a b:TDS}{E:YS}{dl:Ev}{S:Sto}(W:Ev->Sto->Prop)(ha:∀nx:Ev->Sto->Prop,(∀dl' S',W dl' S'->nx dl' S')->a { nx:=nx,rt:=E.rt,bk:=E.bk,ct:=E.ct } dl S)(hb:∀dl' S',W dl' S'->b E dl' S'):Yq a b E dl S:=ha _ hb
theorem seqW3 {a b c d:TDS}{E:YS}{dl:Ev}{S:Sto}(W:Ev->Sto->Prop)(ha:∀nx:Ev->Sto->Prop,(∀dl' S',W dl' S'->nx dl' S')->Yq a (Yq b c) { nx:=nx,rt:=E.rt,bk:=E.bk,ct:=E.ct } dl S)(hb:∀dl' S',W dl' S'->d E dl' S'):Yq a (Yq b (Yq c d)) E dl S:=ha _ hb
theorem Cq (xs:List D)(c:Nat):Yv xs none (some (c:Int))=xs.take c:=by
 unfold L3.Yv;rw[HT.sIx_nat,HT.sIx_none,List.drop_zero,Nat.sub_zero];by_cases h:c<=xs.length
 .rw[vY h]
 .rw[Nat.min_eq_right (),xP (wD rfl),xP ()]
theorem zbb (xs:List D)(c:Nat):Yv xs (some (c:Int)) none=xs.drop c:=by
 unfold L3.Yv;rw[HT.sIx_nat,HT.sIx_none];by_cases h:c<=xs.length
 .rw[vY h];exact xP (by rw[xB];exact zA _)
 .rw[yY (),yY ()];simp
theorem Cy (xs:List D)(a b:Nat):(Yv xs (some (a:Int)) (some (b:Int))).length<=b-a:=by
 unfold L3.Yv;rw[HT.sIx_nat,HT.sIx_nat,xJ,xB];lia
theorem cw_to (ws:List Str)(a:Nat):Yv (ws.map D.str) none (some (a:Int))=(ws.take a).map D.str:=by rw[Cq,List.map_take]
theorem L7 (ws:List Str)(a:Nat):Yv (ws.map D.str) (some (a:Int)) none=(ws.drop a).map D.str:=by rw[zbb,List.map_drop]
theorem BC (ws:List Str)(a:Nat):Yv (ws.map D.str) (some ((a:Int)+1)) none=(ws.drop (a+1)).map D.str:=L7 ws (a+1)
theorem B3 {c:Nat}(h:c=45\/48<=c/\c<=57):c ∉ LET.cps.toList:=by
 have e:LET.cps.toList=[97,98,99,100,101,102,103,104,105,106,107,108,109,110,111,112,113,114,115,116,117,118,119,120,121,122]:=by decide
 rw[e];simp only[zB,zG,or_false];omega
theorem zdv (t:Int)(r:List Nat):ZU (mk (num t++r))=false:=by
 cases e:num t with
 | nil=>exact absurd e (Jc t)
 | cons c l=>
  have z:=Sa (i:=t) (c:=c) (by rw[e];exact zV ..);exact Dr (c:=c) (by show c∈cs (mk (c::l++r));rw[YQ];simp) (B3 z)
theorem FF {t b:Int}(h:Yt (Z3 t b) t b):exP 3 0 [mk (Z3 t b)] (.nb t b):=by
 have z:avS (mk (Z3 t b))=some (.nb t b):=JV (zdv t _) (by rw[YQ];exact h);exact Ex.atom (Vj _ _ z) z
theorem Ip {t:Int}(h:t.natAbs<10^9):Yt (Z3 t 1) t 1:=⟨⋯,Int.gcd_one_right t,h,⋯,rfl⟩
theorem BG {b q:Int}(hb:2<=b)(hb2:b<=998)(hq:-1000<=q/\q<=1000):Yt (Z3 (b*q+1) b) (b*q+1) b:=by
 have b1:b*q<=998*1000:=by
  have:=yZ hq.2 (show 0<=b by lia);lia
 have b2:-(998*1000)<=b*q:=by
  have:=yZ hq.1 (show 0<=b by lia);lia
 refine⟨(),?_,(),(),rfl⟩;have z:((Int.gcd (b*q+1) b:Nat):Int) ∣ 1:=by
  have d1:((Int.gcd (b*q+1) b:Nat):Int) ∣ b*q+1:=wN ..
  have d2:((Int.gcd (b*q+1) b:Nat):Int) ∣ b:=wO ..
  have d3:=Int.dvd_sub d1 (vZ (c:=q) d2);rw[show b*q+1-b*q=1 by lia] at d3;exact d3
 have y:Int.gcd (b*q+1) b ∣ 1:=by
  have:=yX.mpr z;rw[xU] at this;exact this
 exact Nat.dvd_one.mp y
structure PDq (X:Cx)(Z:Zx)(e:Expr)(t:TDE):Prop where
 h:PD X Z e t
structure PDAq (X:Cx)(Z:Zx)(es:List Expr)(t:TDA):Prop where
 h:PDA X Z es t
structure PDSq (X:Cx)(Z:Zx)(st:Stmt)(t:TDS):Prop where
 h:PDS X Z st t
structure FL (X:Cx)(Z:Zx)(st:List Stmt)(t:TDS):Prop where
 h:Xy X Z st t
section
variable {X:Cx}{Z:Zx}{pos:Pos}
theorem Pk:PDAq X Z [] X3:=⟨Zb⟩
theorem Rr {es:List Expr}{t:TDA}(h:PDAq X Z es t):PDq X Z (.List es pos) (dLst t):=⟨YC h.h⟩
theorem EY {st:Stmt}{t:TDS}(h1:PDSq X Z st t):FL X Z [st] t:=⟨Zi h1.h⟩
theorem zax {e:Expr}{te:TDE}(he:PDq X Z e te):PDSq X Z (.Return (some e) pos) (Q5 te):=⟨Zl he.h⟩
end
theorem zby {P:Program}{w:World}{K:Fg}{mg:Str->Option Value}{base:Heap}{x aG:Str}{st:Stmt}{f:Addr}{fd:FuncData}{N ps:List Str}{k:Nat}{sd:Sd}(F:Fun K x aG st f fd)(Sc:ZE N ps (Zr st))(len:∀ds S Q ex,sd ds S Q ex->ds.length=ps.length)
  (hbody:∀(cdv:Value)(A:Around)(outer:List Env)(s:Shared)(H:Hp)(E:XK),ZG k (A.deeper (envOfC aG (Zr st) s.heap.objs.size f cdv))->
   ∃t,FL (YM (CXE P w) P w K mg base N aG (Zr st) f cdv A outer s H E).nox Z0 (WN st) t/\∀ds S Q ex,sd ds S Q ex->t { nx:=λ_ S'=>Q .non S',rt:=Q } (Vu N ds) S):Yj P w K mg base (CXE P w) (k+1) f fd ps (upF K sd):=
 ZN F Sc len λc A o s H E hr=>by
  obtain⟨t,h1,h2⟩:=hbody c A o s H E hr;exact⟨t,h1.h,h2⟩
section
variable {X:Cx}{Z:Zx}{pos:Pos}
end
inductive Nd where
 | number (t b:Int)|unknown (k:Int)|power (i n:Int)|two (x:Str) (i j:Int)
def Nd.d:Nd->D
 | .number t b=>.tup [.str "number",.int t,.int b]
 | .unknown k=>.tup [.str "unknown",.int k]
 | .power i n=>.tup [.str "power",.int i,.int n]
 | .two x i j=>.tup [.str x,.int i,.int j]
def inL (hs:List Int)(i:Int):Prop:=0<=i/\i<hs.length
def Nd.ok (hs:List Int):Nd->Prop
 | .number _ _=>True
 | .unknown _=>True
 | .power i n=>inL hs i/\2<=n/\n<=6
 | .two x i j=>(x="plus"\/x="minus"\/x="times")/\inL hs i/\inL hs j
def Nd.w (hs:List Int):Nd->Int
 | .number _ _=>1
 | .unknown _=>1
 | .power i n=>n*hs.getD i.toNat 0
 | .two _ i j=>hs.getD i.toNat 0+hs.getD j.toNat 0
def small (hs:List Int):Prop:=∀x∈hs,1<=x/\x<=16
def Xj (a b c:Nat):List (Str×D):=[("kept",.ref a),("weights",.ref b),("numbers",.ref c)]
theorem zb1 {ty td:TDE}{dl:Ev}{S:Sto}{Q:DK}{n:Nat}{kvs:List (List Key×D)}{y:D}{k:List Key}(hy:∀K:DK,K y S->ty dl S K)(hd:∀K:DK,K (.ref n) S->td dl S K)(h:S[n]?=some (.dct kvs))(hk:V5 y=some k)(hq:Q (.bl (Yl kvs k).isSome) S):Rn ty td dl S Q:=by
 unfold Rn;refine hy _ (hd _ ?_);simp only[atD,U6,h,hk];exact hq
theorem zaP {ty td:TDE}{dl:Ev}{S:Sto}{Q:DK}{n:Nat}{kvs:List (List Key×D)}{y v:D}{k:List Key}(hd:∀K:DK,K (.ref n) S->td dl S K)(hy:∀K:DK,K y S->ty dl S K)(h:S[n]?=some (.dct kvs))(hk:V5 y=some k)(hv:Yl kvs k=some v)(hq:Q v S):O7 td ty dl S Q:=by
 unfold O7;refine hd _ (hy _ ?_);simp only[atD,U6,h,hk,hv];exact hq
theorem zc2 {ty td tv:TDE}{dl:Ev}{S:Sto}{E:YS}{n:Nat}{kvs:List (List Key×D)}{y v:D}{k:List Key}(hv:∀K:DK,K v S->tv dl S K)(hd:∀K:DK,K (.ref n) S->td dl S K)(hy:∀K:DK,K y S->ty dl S K)(h:S[n]?=some (.dct kvs))(hk:V5 y=some k)(hl:kvs.length<1000)(hq:E.nx dl (S.set n (.dct (Xa kvs k v)))):Oh td ty tv E dl S:=by
 unfold Oh;refine hv _ (hd _ (hy _ ?_));simp only[U6,h,hk];exact⟨hl,hq⟩
def kD:Key->D
 | .inl i=>.int i
 | .inr x=>.str x
def Nd.k:Nd->List Key
 | .number t b=>[.inr "number",.inl t,.inl b]
 | .unknown k=>[.inr "unknown",.inl k]
 | .power i n=>[.inr "power",.inl i,.inl n]
 | .two x i j=>[.inr x,.inl i,.inl j]
theorem Nd.dk (v:Nd):v.d=.tup (v.k.map kD):=by cases v<;>rfl
theorem Nd.key (v:Nd):V5 v.d=some v.k:=by cases v<;>rfl
def Wf (m:Nat):List Nd->List (List Key×D)
 | []=>[]
 | v::vs=>(v.k,.int (m:Nat))::Wf (m+1) vs
def idx (v:Nd):List Nd->Option Nat
 | []=>none
 | u::us=>if u.k=v.k then some 0 else (idx v us).map (·+1)
theorem OC (v:Nd):∀(m:Nat)(ns:List Nd),Yl (Wf m ns) v.k=(idx v ns).map λj=>D.int ((m+j:Nat):Int)
 | m,[]=>rfl
 | m,u::us=>by
  unfold Wf idx Yl;rw[yL];by_cases e:u.k=v.k
  .simp[e]
  .have z:=OC v (m+1) us;unfold Yl at z;simp only[e,decide_false,if_false];rw[z,Option.map_map];congr 1;funext j;show D.int ((m+1+j:Nat):Int)=D.int ((m+(j+1):Nat):Int);rw[show m+1+j=m+(j+1) by lia]
theorem Ho (v:Nd):∀(m:Nat)(ns:List Nd),Wf m ns++[(v.k,.int ((m+ns.length:Nat):Int))]=Wf m (ns++[v])
 | m,[]=>rfl
 | m,u::us=>by
  have z:=Ho v (m+1) us
  show (u.k,D.int (m:Nat))::(Wf (m+1) us++_)=(u.k,D.int (m:Nat))::Wf (m+1) (us++[v]);rw[<- z];rw[show m+(u::us).length=m+1+us.length by simp;lia]
theorem ES (m:Nat)(ns:List Nd):(Wf m ns).length=ns.length:=by
 induction ns generalizing m with
 | nil=>rfl
 | cons u us ih=>show (Wf (m+1) us).length+1=us.length+1;rw[ih]
theorem zb4 {kvs:List (List Key×D)}{k:List Key}(h:Yl kvs k=none):(kvs.any λkv=>decide (kv.1=k))=false:=by
 unfold Yl at h;rw[uA,uB] at h;rw[xH];exact h
structure YD (C:Addr)(S:Sto)(n a b c:Nat)(ns:List Nd)(hs:List Int):Prop where
 net:S[n]?=some (.ins C (Xj a b c))
 kept:S[a]?=some (.lst (ns.map Nd.d))
 weights:S[b]?=some (.lst (hs.map D.int))
 numbers:S[c]?=some (.dct (Wf 0 ns))
 ne:a≠b
 len:ns.length=hs.length
def QH (S:Sto)(a b c:Nat)(ns:List Nd)(hs:List Int)(v:Nd):Sto:=((S.set a (.lst (ns.map Nd.d++[v.d]))).set b (.lst (hs.map D.int++[.int (v.w hs)]))).set c (.dct (Wf 0 (ns++[v])))
theorem KN (a b c:Nat):(Xj a b c).lookup ("kept":Str)=some (D.ref a):=rfl
theorem Fh (a b c:Nat):(Xj a b c).lookup ("weights":Str)=some (D.ref b):=rfl
theorem HV (a b c:Nat):(Xj a b c).lookup ("numbers":Str)=some (D.ref c):=rfl
theorem TZ {hs:List Int}{i:Int}(h:inL hs i):atI (hs.map D.int) i=some (.int (hs.getD i.toNat 0)):=by
 obtain⟨h0,h1⟩:=h;have hk:i.toNat<hs.length:=by lia
 have z:=Wr (xs:=hs.map D.int) (j:=i.toNat) (v:=.int (hs.getD i.toNat 0)) (by rw[zR,zD hk];simp[hk]);rw[show ((i.toNat:Nat):Int)=i by lia] at z;exact z
theorem Pg {hs:List Int}{i:Int}(s:small hs)(h:inL hs i):1<=hs.getD i.toNat 0/\hs.getD i.toNat 0<=16:=by
 obtain⟨h0,h1⟩:=h;have hk:i.toNat<hs.length:=by lia
 have e:hs.getD i.toNat 0=hs[i.toNat]:=by simp[hk]
 rw[e];exact s _ (xE hk)
theorem DY {dl:Ev}{S:Sto}{Q:DK}{T:Sto}{m:Nat}(e:T=S++[.dct []])(em:m=S.length)(h:Q (.ref m) T):GL dl S Q:=by
 subst e em;exact h
theorem YD.app {C:Addr}{S:Sto}{n a b c:Nat}{ns:List Nd}{hs:List Int}(N:YD C S n a b c ns hs)(T:Sto):YD C (S++T) n a b c ns hs:=
 ⟨ZF N.net,ZF N.kept,ZF N.weights,ZF N.numbers,N.ne,N.len⟩
theorem zco (a b:Key):eqF (kD a) (kD b)=some (decide (a=b)):=by
 cases a with
 | inl i=>
  cases b with
  | inl j=>simp[kD,eqF]
  | inr y=>simp[kD,eqF]
 | inr x=>
  cases b with
  | inl j=>simp[kD,eqF]
  | inr y=>simp[kD,eqF]
theorem Ej:∀a b:List Key,eqL eqF (a.map kD) (b.map kD)=some (decide (a=b))
 | [],[]=>rfl
 | [],_::_=>rfl
 | _::_,[]=>rfl
 | x::xs,y::ys=>by
  show (match eqF (kD x) (kD y),eqL eqF (xs.map kD) (ys.map kD) with|some b,some c=>some (b&&c)|_,_=>none)=_;rw[zco,Ej];simp[Bool.decide_and]
theorem Ii (u v:Nd):eqN 1 u.d v.d=some (decide (u.k=v.k)):=by
 rw[Nd.dk,Nd.dk];exact Ej _ _
theorem HQ (v:Nd):∀ns:List Nd,XI (eqN 1) (ns.map Nd.d) v.d=some (idx v ns).isSome
 | []=>rfl
 | u::us=>by
  show (match eqN 1 u.d v.d,XI (eqN 1) (us.map Nd.d) v.d with|some b,some c=>some (b||c)|_,_=>none)=_;rw[Ii,HQ v us];show _=some (if u.k=v.k then some 0 else (idx v us).map (·+1)).isSome;by_cases e:u.k=v.k
  .simp[e]
  .simp[e]
theorem Gw (v:Nd):∀ns:List Nd,UO (eqN 1) (ns.map Nd.d) v.d=some (idx v ns)
 | []=>rfl
 | u::us=>by
  show (match eqN 1 u.d v.d,UO (eqN 1) (us.map Nd.d) v.d with|some true,some _=>some (some 0)|some false,some o=>some (o.map (·+1))|_,_=>none)=_;rw[Ii,Gw v us];show _=some (if u.k=v.k then some 0 else (idx v us).map (·+1));by_cases e:u.k=v.k
  .simp[e]
  .simp[e]
theorem DA {v:Nd}{ns:List Nd}{n:Nat}{S:Sto}{Q:DK}(h:S[n]?=some (.lst (ns.map Nd.d)))(hq:Q (.bl (idx v ns).isSome) S):Xi (wIn 1 false) v.d (.ref n) S Q:=by
 rw[Xs];unfold wIn;simp only[Yo h rfl,ZC,HQ];exact hq
theorem EN {v:Nd}{ns:List Nd}{n j:Nat}{to:TDE}{t:TDA}{dl:Ev}{S:Sto}{Q:DK}(hto:∀K:DK,K (.ref n) S->to dl S K)(ht:∀K:List D->Sto->Prop,K [v.d] S->t dl S K)(h:S[n]?=some (.lst (ns.map Nd.d)))(e:idx v ns=some j)(hq:Q (.int (j:Int)) S):Om 1 to t dl S Q:=by
 unfold Om;refine hto _ ⟨by rw[Yo h rfl];rfl,ht _ ?_⟩;unfold Mj;simp only[Yo h rfl,ZC,Gw,e];exact hq
section
variable {X:Cx}{Z:Zx}{pos:Pos}
theorem Ih:∀l:List (Str×Tok),Zt ((l.map (·.1)).map V.str) (strValues l)
 | []=>.nil
 | (_,t)::l=>.cons ⟨t,rfl⟩ (Ih l)
theorem zce:MtR X "str.split" (λx xs H Q=>∃z y,x=.str z/\xs=[.str y]/\(y.length≠0/\z.length<=1000)/\∀p,H p=none->Q (.ref p) (upd H p (.lst ((Txt.split z y).map V.str)))):=by
 intro aA s σ H x xs v us Q I rx rv h;obtain⟨z,y,rfl,rfl,⟨hy,hz⟩,q⟩:=h;obtain⟨t,rfl⟩:=rx;obtain⟨u,rfl,ru⟩:=Xw rv;obtain⟨t2,rfl⟩:=ru;have ly:(y.length==0)=false:=by simpa using hy
 have e1:=StrLaws.occ_length_le z y 0 z.length (z.length+1)
 have e2:=length_partsBetween z (Builtin.Str.occurrences z y 0 z.length (z.length+1)) y.length
 have hn:(Builtin.Str.partsBetween z (Builtin.Str.occurrences z y 0 z.length (z.length+1)) y.length).length<=1002:=by lia
 have sz:∀n:Nat,n<=1002->n<=sizeLine:=λn h=>by unfold sizeLine;lia
 have aR:∀(l:List (Str×Tok))(k:Tok),l.map (·.1)=Txt.split z y->l.length<=1002->EP X aA σ Q (.ref s.heap.objs.size) { s with heap:=s.heap.push { cls:=.type "list",data:=.seq (strValues l).toArray },toks:=k }:=λl k el ll=>by
  refine⟨.ref s.heap.objs.size,_,I.laid (o:=.lst ((Txt.split z y).map V.str)) (t':=k) (λb ob e=>Heap.get?_push_of_some _ e) (zA _) ?_,rfl,q _ (I.hok.fresh (zA _))⟩;rw[<- el];exact⟨sz _ (by rw[zC,zC];exact ll),_,0,Ih l,Heap.get?_push_size _ rfl⟩
 cases h1:(decide (z.length<y.length)||decide (Builtin.Str.strKind z<Builtin.Str.strKind y))
 .cases hf:(Builtin.Str.occurrences z y 0 z.length (z.length+1)).isEmpty
  .refine call_meets PySem.F.slot_str_split (typeIs_str _ _ _) PySem.F.entry_str_split (PySem.F.args_str_split_2 _ _) (meets_str_split_sep z y t t2 h1 ly hf (sz _ ()) (sz _ hn)) ?_;rw[strsFrom_eq];refine aR _ _ ((numbered_texts _ _).trans ((if_neg (ne_true_of_eq_false h1)).trans (if_neg (ne_true_of_eq_false hf))).symm) ?_;have:=congrArg List.length (numbered_texts s.toks (Builtin.Str.partsBetween z (Builtin.Str.occurrences z y 0 z.length (z.length+1)) y.length));rw[zC] at this;lia
  .exact call_meets PySem.F.slot_str_split (typeIs_str _ _ _) PySem.F.entry_str_split (PySem.F.args_str_split_2 _ _) (meets_str_split_not_found z y t t2 h1 ly hf) (aR [(z,t)] s.toks ((if_neg (ne_true_of_eq_false h1)).trans (if_pos hf)).symm (show 1<=1002 by decide))
 .exact call_meets PySem.F.slot_str_split (typeIs_str _ _ _) PySem.F.entry_str_split (PySem.F.args_str_split_2 _ _) (meets_str_split_cannot_occur z y t t2 h1) (aR [(z,t)] s.toks (if_pos h1).symm (show 1<=1002 by decide))
def K2:Str->D->Sto->DK->Prop:=λx y S Q=>match y with
 | .str y=>(y.length≠0/\x.length<=1000)/\Q (.ref S.length) (S++[.lst ((Txt.split x y).map D.str)])
 | _=>False
theorem IW {r:List Addr}{H:Hp}:∀ws:List Str,Rps r H (ws.map D.str) (ws.map V.str)
 | []=>Rps.nil
 | w::ws=>Rps.cons (.str w) (IW ws)
theorem Bi {o e:Expr}{to:TDE}{t:TDA}{aI aH:Pos}(ho:PD X Z o to)(ha:PDA X Z [e] t)(hbase:attributeBase o "split" X.env (eval o X.env)=eval o X.env:=by rfl)
  (hfew:((backTo aH (starEach [e] X.env)).all (λx=>!x.1)&&(backToKw aH (keywordEach [] X.env)).all (λx=>x.1.isSome)
  &&decide ([e].length+([]:List Keyword).length+(if ([]:List Keyword).isEmpty then 0 else 1)<30))=true:=by rfl)
  (hline:(aI.endLine==aH.line)=true:=by rfl)(hs:starEach [e] X.env=(false,eval e X.env)::starEach [] X.env:=by rfl)(hplain:(backTo aH (starEach [] X.env)).any (·.1)=false:=by rfl):
  PD X Z (.Call (.Attribute o "split" aI) [e] [] aH) (Wb K2 to t):=
 ZO (Ug (T:="str") PySem.F.plainAttrs_str PySem.F.slot_str_split PySem.F.type_str_split zce ho ha hbase hfew hline hs hplain) λσ H Qv ⟨r,dl,S,Q,rs,aS,h,ret⟩=>by
  unfold Wb at h;refine⟨r,dl,S,_,rs,aS,h,λv H1 r1 d S1 e1 aB p1 q1=>?_⟩;cases p1 with
  | str x=>
   refine⟨rfl,r1,dl,S1,_,rs.ext e1,aB,q1,λvs H2 r2 ds S2 e2 aC p2 q2=>?_⟩;split at q2
   .rename_i y;obtain⟨v2,vs',rfl,p3,p4⟩:=p2.uncons;have z:=p4.unnil;subst z;unfold K2 at q2;split at q2
    .rename_i i;cases p3;refine⟨x,i,rfl,rfl,q2.1,λp hp=>?_⟩;obtain⟨aD,x3⟩:=aC.push hp (IW (Txt.split x i));exact ret _ _ _ (.ref S2.length) _ (e1.trans (e2.trans x3)) aD (Wo aC.len) q2.2
    .exact q2.elim
   .exact q2.elim
  | _=>exact(show False from q1).elim
@[irreducible] def OS (to:TDE)(t:TDA):TDE:=λdl S Q=>to dl S λd S1=>match d with
 | .str sep=>t dl S1 λds S2=>match ds with
  | [.ref n]=>match lAt S2 n with
   | some o=>∃zs,Wh (ZC o)=some zs/\sep.length<=16/\(∀z∈zs,z.length<=1000)/\zs.length<=1000/\Q (.str (Txt.join sep zs)) S2
   | none=>False
  | _=>False
 | _=>False
theorem Gv:∀zs:List Str,(∀z∈zs,z.length<=1000)->(zs.map (·.length)).sum<=1000*zs.length
 | [],_=>by simp
 | z::zs,h=>by
  have i:=Gv zs λy hy=>h y (zO _ hy)
  have j:=h z (zV ..);rw[zL,List.sum_cons,zP];lia
theorem zcb:MtR X "str.join" (λx xs H Q=>∃sep p ys zs,x=.str sep/\xs=[.ref p]/\SqL X.K H p ys/\(∀us,Zt ys us->StrsAre us zs)/\sep.length<=16/\(∀z∈zs,z.length<=1000)/\zs.length<=1000/\Q (.str (Txt.join sep zs)) H):=by
 intro aA s σ H x xs v us Q I rx rv h;obtain⟨sep,p,ys,zs,rfl,rfl,sq,st,h0,hB,hn,q⟩:=h;obtain⟨t,rfl⟩:=rx;obtain⟨u,rfl,ru⟩:=Xw rv;cases ru;obtain⟨aQ,r,pl,_⟩:=I.list sq;have hs:=Gv zs hB
 have hm:zs.length*sep.length<=1000*16:=vA hn h0;refine join_list pl.isList (st aQ r) () λt' k=>?_
 exact⟨.str (Txt.join sep zs),H,I.kept (t':=k) λb o e=>e,⟨t',rfl⟩,q⟩
theorem zbs {o e:Expr}{to:TDE}{t:TDA}{aI aH:Pos}(ho:PD X Z o to)(ha:PDA X Z [e] t)(hbase:attributeBase o "join" X.env (eval o X.env)=eval o X.env:=by rfl)
  (hfew:((backTo aH (starEach [e] X.env)).all (λx=>!x.1)&&(backToKw aH (keywordEach [] X.env)).all (λx=>x.1.isSome)
  &&decide ([e].length+([]:List Keyword).length+(if ([]:List Keyword).isEmpty then 0 else 1)<30))=true:=by rfl)
  (hline:(aI.endLine==aH.line)=true:=by rfl)(hs:starEach [e] X.env=(false,eval e X.env)::starEach [] X.env:=by rfl)(hplain:(backTo aH (starEach [] X.env)).any (·.1)=false:=by rfl):
  PD X Z (.Call (.Attribute o "join" aI) [e] [] aH) (OS to t):=
 ZO (Ug (T:="str") PySem.F.plainAttrs_str PySem.F.slot_str_join PySem.F.type_str_join zcb ho ha hbase hfew hline hs hplain) λσ H Qv ⟨r,dl,S,Q,rs,aS,h,ret⟩=>by
  unfold OS at h;refine⟨r,dl,S,_,rs,aS,h,λv H1 r1 d S1 e1 aB p1 q1=>?_⟩;cases p1 with
  | str sep=>
   refine⟨rfl,r1,dl,S1,_,rs.ext e1,aB,q1,λvs H2 r2 ds S2 e2 aC p2 q2=>?_⟩;split at q2
   .rename_i n;obtain⟨v2,vs',rfl,p3,p4⟩:=p2.uncons;have z:=p4.unnil;subst z;split at q2
    .rename_i o eo;obtain⟨zs,z1,z2,z3,z4,q⟩:=q2;cases p3 with
     | @ref n a hn=>
      obtain⟨eo,eL⟩:=XM eo;obtain⟨a',ha',ob⟩:=aC.at eo;rw[hn] at ha';cases ha'
      obtain⟨ys,sq,pr⟩:=ob.list eL;exact⟨sep,a,ys,zs,rfl,rfl,sq,λus ru=>LD z1 pr ru,z2,z3,z4,ret _ H2 r2 _ S2 (e1.trans e2) aC (.str _) q⟩
    .exact q2.elim
   .exact q2.elim
  | _=>exact(show False from q1).elim
theorem zas {to:TDE}{t:TDA}{dl:Ev}{S S1:Sto}{Q:DK}{x y:Str}(hto:∀K:DK,K (.str x) S->to dl S K)(ht:∀K:List D->Sto->Prop,K [.str y] S1->t dl S K)(hy:y.length≠0)(hx:x.length<=1000)(hq:Q (.ref S1.length) (S1++[.lst ((Txt.split x y).map D.str)])):Wb K2 to t dl S Q:=by
 unfold Wb;exact hto _ (ht _ ⟨⟨hy,hx⟩,hq⟩)
end
def kdS:Nat->Str
 | 0=>"plus"
 | 1=>"minus"
 | _=>"times"
def YI (N:List Nd×List Int)(v:Nd):Option ((List Nd×List Int)×Nat):=match idx v N.1 with
 | some j=>some (N,j)
 | none=>if 16<v.w N.2\/N.1.length=60 then none else some ((N.1++[v],N.2++[v.w N.2]),N.1.length)
def ZR (ms:Str->Option Nat):Tr->List Nd×List Int->Option ((List Nd×List Int)×Nat)
 | .nm w,N=>(ms (mk w)).map λj=>(N,j)
 | .nb t b,N=>YI N (.number t b)
 | .pw t k,N=>match ZR ms t N with
  | some (N1,i)=>YI N1 (.power i k)
  | none=>none
 | .bi d l r,N=>match ZR ms l N with
  | some (N1,i)=>match ZR ms r N1 with
   | some (N2,j)=>YI N2 (.two (kdS d) i j)
   | none=>none
  | none=>none
inductive NOk:List Nd->List Int->Prop
 | nil:NOk [] []
 | snoc {ns:List Nd} {hs:List Int} {v:Nd}:NOk ns hs->v.ok hs->idx v ns=none->v.w hs<=16->ns.length<60->NOk (ns++[v]) (hs++[v.w hs])
theorem NOk.len {ns:List Nd}{hs:List Int}(h:NOk ns hs):ns.length=hs.length:=by
 induction h with
 | nil=>rfl
 | snoc _ _ _ _ _ ih=>simp[ih]
theorem w_pos {hs:List Int}{v:Nd}(s:small hs)(h:v.ok hs):1<=v.w hs:=by
 cases v with
 | number t b=>exact Int.le_refl _
 | unknown k=>exact Int.le_refl _
 | power i n=>
  obtain⟨hi,n2,n6⟩:=h;have b:=Pg s hi
  show 1<=n*hs.getD i.toNat 0
  have:=Int.mul_le_mul (show 1<=n by lia) b.1 ⋯ ();lia
 | two x i j=>
  obtain⟨_,hi,hj⟩:=h;have b:=Pg s hi
  have c:=Pg s hj
  show 1<=hs.getD i.toNat 0+hs.getD j.toNat 0;lia
theorem NOk.small {ns:List Nd}{hs:List Int}(h:NOk ns hs):small hs:=by
 induction h with
 | nil=>intro x hx;cases hx
 | snoc h0 ok _ w16 _ ih=>
  intro x hx;rcases zH.1 hx with hx|hx
  .exact ih x hx
  .rw[zU.mp hx];exact⟨w_pos ih ok,w16⟩
theorem NOk.sixty {ns:List Nd}{hs:List Int}(h:NOk ns hs):ns.length<=60:=by
 cases h with
 | nil=>decide
 | snoc _ _ _ _ l=>simp;lia
theorem GK {v:Nd}:∀ {ns:List Nd} {j:Nat},idx v ns=some j->∃u,ns[j]?=some u/\u.k=v.k
 | [],_,e=>by cases e
 | u::us,j,e=>by
  unfold idx at e;by_cases c:u.k=v.k
  .rw[if_pos c] at e;cases e;exact⟨u,rfl,c⟩
  .rw[if_neg c] at e;cases e2:idx v us with
   | none=>rw[e2] at e;cases e
   | some i=>
    rw[e2] at e;cases e;obtain⟨x,a,b⟩:=GK e2;exact⟨x,by simpa using a,b⟩
structure Put (ns:List Nd)(hs:List Int)(ns':List Nd)(hs':List Int)(j:Nat)(wt:Int)(c:Nat):Prop where
 ok:NOk ns' hs'
 ext:∃r,ns'=ns++r
 exh:∃r,hs'=hs++r
 lt:j<ns'.length
 wt:hs'.getD j 0=wt
 le:ns'.length<=ns.length+c
def Tr.nms:Tr->List Str
 | .nm w=>[mk w]
 | .nb _ _=>[]
 | .pw t _=>t.nms
 | .bi _ l r=>l.nms++r.nms
def Tr.good:Tr->Prop
 | .nm _=>True
 | .nb _ _=>True
 | .pw t k=>t.good/\2<=k/\k<=6
 | .bi d l r=>l.good/\r.good/\d<=2
theorem Hk {d:Nat}(h:d<=2):kdS d="plus"\/kdS d="minus"\/kdS d="times":=by
 match d,h with
 | 0,_=>exact .inl rfl
 | 1,_=>exact .inr (.inl rfl)
 | 2,_=>exact .inr (.inr rfl)
def Ng (ow:List Nat)(S T:Sto):Prop:=S.length<=T.length/\∀(x:Nat)(o:Ob),x ∉ ow->S[x]?=some o->T[x]?=some o
theorem Ng.refl {ow:List Nat}{S:Sto}:Ng ow S S:=⟨zA _,λ_ _ _ e=>e⟩
theorem Ng.trans {ow ow':List Nat}{S T U:Sto}(a:Ng ow S T)(b:Ng ow' T U)(h:∀x∈ow',x∈ow\/S.length<=x):Ng ow S U:=⟨zW a.1 b.1,λx o nx e=>b.2 x o (λhx=>by
 rcases h x hx with z|z
 .exact nx z
 .have:=ZL e;lia) (a.2 x o nx e)⟩
theorem Ng.app {ow:List Nat}{S:Sto}(U:Sto):Ng ow S (S++U):=⟨by simp,λ_ _ _ e=>ZF e⟩
theorem Ng.set {ow:List Nat}{S:Sto}{n:Nat}(h:n∈ow)(o:Ob):Ng ow S (S.set n o):=⟨by simp,λx u nx e=>by
 have ne:n≠x:=λz=>nx (by rw[<- z];exact h)
 rw[yD ne];exact e⟩
theorem Ng.pre {ow:List Nat}{S T:Sto}(h:Pre S T):S.length<=T.length->Ng ow S T:=λl=>⟨l,λx o _ e=>h x o e⟩
theorem Zk {S:Sto}{x n:Nat}{o u:Ob}(h:S[x]?=some o)(ne:x≠n):(S.set n u)[x]?=some o:=by
 rw[yD (Ne.symm ne)];exact h
theorem Ys {S:Sto}{x y:Nat}{o u:Ob}(h:S[x]?=some o)(h':S[y]?=some u)(ne:o≠u):x≠y:=λe=>by
 rw[e,h'] at h;exact ne (Option.some.inj h).symm
theorem YD.put {C:Addr}{S:Sto}{n a b c:Nat}{ns:List Nd}{hs:List Int}(N:YD C S n a b c ns hs)(v:Nd):YD C (QH S a b c ns hs v) n a b c (ns++[v]) (hs++[v.w hs])/\Ng [a,b,c] S (QH S a b c ns hs v):=by
 have ac:a≠c:=Ys N.kept N.numbers (by intro z;cases z)
 have bc:b≠c:=Ys N.weights N.numbers (by intro z;cases z)
 have na:n≠a:=Ys N.net N.kept (by intro z;cases z)
 have nb:n≠b:=Ys N.net N.weights (by intro z;cases z)
 have nc:n≠c:=Ys N.net N.numbers (by intro z;cases z);unfold QH;refine⟨⟨?_,?_,?_,?_,N.ne,by simp[N.len]⟩,?_⟩
 .exact Zk (Zk (Zk N.net na) nb) nc
 .rw[zN];exact Zk (Zk (Ym N.kept) N.ne) ac
 .rw[zN];exact Zk (Ym (Zk N.weights (Ne.symm N.ne))) bc
 .exact Ym (Zk (Zk N.numbers (Ne.symm ac)) (Ne.symm bc))
 .have m:∀y∈[a,b,c],y∈[a,b,c]\/S.length<=y:=λy hy=>.inl hy
  exact((Ng.set (by simp) _).trans (ow':=[a,b,c]) (Ng.set (by simp) _) m).trans (ow':=[a,b,c]) (Ng.set (by simp) _) m
theorem OD {C:Addr}{S:Sto}{n a b c:Nat}{ns:List Nd}{hs:List Int}{v:Nd}{Q:DK}{ex:Sto->Prop}(N:YD C S n a b c ns hs)(h:match YI (ns,hs) v with|none=>∀T:Sto,Ng [a,b,c] S T->ex T|some (M,j)=>∀T:Sto,Ng [a,b,c] S T->YD C T n a b c M.1 M.2->Q (.int (j:Int)) T):
  (∃j,idx v ns=some j/\Q (.int (j:Int)) S)\/(idx v ns=none/\(16<v.w hs\/ns.length=60)/\ex S)\/(idx v ns=none/\v.w hs<=16/\ns.length≠60/\Q (.int (ns.length:Int)) (QH S a b c ns hs v)):=by
 unfold YI at h;dsimp only at h;cases e:idx v ns with
 | some j=>
  rw[e] at h;exact .inl ⟨j,rfl,h S Ng.refl N⟩
 | none=>
  rw[e] at h;dsimp only at h;by_cases c:16<v.w hs\/ns.length=60
  .rw[if_pos c] at h;exact .inr (.inl ⟨rfl,c,h S Ng.refl⟩)
  .rw[if_neg c] at h;obtain⟨p,g⟩:=N.put v;exact .inr (.inr ⟨rfl,(),(),h _ g p⟩)
theorem QF {ns ns':List Nd}{hs hs':List Int}{v:Nd}{j:Nat}(h:NOk ns hs)(ok:v.ok hs)(e:YI (ns,hs) v=some ((ns',hs'),j)):NOk ns' hs'/\j<ns'.length/\(∃r,ns'=ns++r)/\∃r,hs'=hs++r:=by
 unfold YI at e;cases c:idx v ns with
 | some i=>
  simp only[c] at e;cases e;obtain⟨u,e1,_⟩:=GK c;exact⟨h,(zE.mp e1).1,⟨[],by simp⟩,⟨[],by simp⟩⟩
 | none=>
  simp only[c] at e;split at e
  .cases e
  .rename_i z;have l6:=h.sixty;cases e;exact⟨.snoc h ok c () (),by simp,⟨_,rfl⟩,⟨_,rfl⟩⟩
theorem Wx {ms:Str->Option Nat}:∀(t:Tr) {ns ns':List Nd} {hs hs':List Int} {j:Nat},NOk ns hs->(∀w j,ms w=some j->j<ns.length)->t.good->ZR ms t (ns,hs)=some ((ns',hs'),j)->NOk ns' hs'/\j<ns'.length/\(∃r,ns'=ns++r)/\∃r,hs'=hs++r
 | .nm w,ns,ns',hs,hs',j,h,hm,_,e=>by
  have e':(ms (mk w)).map (λj=>((ns,hs),j))=some ((ns',hs'),j):=e;cases c:ms (mk w) with
  | none=>rw[c] at e';cases e'
  | some i=>
   rw[c] at e';cases e';exact⟨h,hm _ _ c,⟨[],by simp⟩,⟨[],by simp⟩⟩
 | .nb t b,ns,ns',hs,hs',j,h,_,_,e=>QF (v:=.number t b) h trivial e
 | .pw t k,ns,ns',hs,hs',j,h,hm,g,e=>by
  have e':(match ZR ms t (ns,hs) with|some (N1,i)=>YI N1 (.power i k)|none=>none)=some ((ns',hs'),j):=e;cases c:ZR ms t (ns,hs) with
  | none=>rw[c] at e';cases e'
  | some x=>
   obtain⟨⟨n1,h1⟩,i⟩:=x;rw[c] at e';obtain⟨o1,l1,⟨r1,rfl⟩,⟨s1,rfl⟩⟩:=Wx t h hm g.1 c;obtain⟨o2,l2,⟨r2,rfl⟩,⟨s2,rfl⟩⟩:=QF o1 (v:=.power (i:Int) k) ⟨⟨(),by have:=o1.len;lia⟩,g.2⟩ e';exact⟨o2,l2,⟨r1++r2,by simp⟩,⟨s1++s2,by simp⟩⟩
 | .bi d tl tr,ns,ns',hs,hs',j,h,hm,g,e=>by
  have e':(match ZR ms tl (ns,hs) with|some (N1,i)=>(match ZR ms tr N1 with|some (N2,j)=>YI N2 (.two (kdS d) i j)|none=>none)|none=>none)=some ((ns',hs'),j):=e;cases c:ZR ms tl (ns,hs) with
  | none=>rw[c] at e';cases e'
  | some x=>
   obtain⟨⟨n1,h1⟩,i⟩:=x;rw[c] at e';dsimp only at e';cases c2:ZR ms tr (n1,h1) with
   | none=>rw[c2] at e';cases e'
   | some y=>
    obtain⟨⟨n2,h2⟩,i2⟩:=y;rw[c2] at e';obtain⟨o1,l1,⟨r1,rfl⟩,⟨s1,rfl⟩⟩:=Wx tl h hm g.1 c;obtain⟨o2,l2,⟨r2,rfl⟩,⟨s2,rfl⟩⟩:=Wx tr o1 (λw j q=>by have:=hm w j q;rw[zF];lia) g.2.1 c2;have z:=o2.len
    have l1':i<(ns++r1++r2).length:=by rw[zF];lia
    obtain⟨o3,l3,⟨r3,rfl⟩,⟨s3,rfl⟩⟩:=QF o2 (v:=.two (kdS d) (i:Int) (i2:Int)) ⟨Hk g.2.2,⟨(),()⟩,⟨(),()⟩⟩ e';exact⟨o3,l3,⟨r1++r2++r3,by simp⟩,⟨s1++s2++s3,by simp⟩⟩
def mlK (ml:List (Str×Nat)):List (Key×D):=ml.map λp=>(.inr p.1,.int (p.2:Int))
theorem Sk (w:Str):∀ml:List (Str×Nat),Yl (mlK ml) (.inr w)=(ml.lookup w).map λj=>D.int (j:Int)
 | []=>rfl
 | (k,v)::ml=>by
  have i:=Sk w ml;unfold Yl mlK at i ⊢;rw[zL,yL,zJ];by_cases c:w=k
  .subst c;simp
  .rw[show (w==k)=false by simpa using c];simp only[Sum.inr.injEq,show ¬ k=w from λz=>c z.symm,decide_false];exact i
theorem N6 {ml:List (Str×Nat)}{w:Str}(j:Nat)(h:ml.lookup w=none):Xa (mlK ml) (.inr w) (.int (j:Int))=mlK (ml++[(w,j)]):=by
 have e:Yl (mlK ml) (.inr w)=none:=by rw[Sk,h];rfl
 unfold Xa;have z:((mlK ml).any λkv=>decide (kv.1=Sum.inr w))=false:=by
  unfold Yl at e;rw[uA,uB] at e;rw[xH];exact e
 rw[z];show mlK ml++_=_;unfold mlK;rw[zN];rfl
theorem EV {ml:List (Str×Nat)}{w v:Str}{i:Nat}:(ml++[(v,i)]).lookup w=match ml.lookup w with|some j=>some j|none=>if w=v then some i else none:=by
 induction ml with
 | nil=>
  show (match w==v with|true=>some i|false=>none)=_;by_cases c:w=v
  .rw[if_pos c,c];simp
  .rw[if_neg c,show (w==v)=false by simpa using c];rfl
 | cons p ml ih=>
  obtain⟨k,x⟩:=p;rw[xF,zJ,zJ];cases w==k
  .exact ih
  .rfl
theorem NOk.front {ns:List Nd}{hs:List Int}(h:NOk ns hs):∀k<ns.length,∃v,ns[k]?=some v/\NOk (ns.take k) (hs.take k)/\v.ok (hs.take k)/\idx v (ns.take k)=none/\v.w (hs.take k)<=16/\ns.take (k+1)=ns.take k++[v]/\hs.take (k+1)=hs.take k++[v.w (hs.take k)]:=by
 induction h with
 | nil=>intro k hk;cases hk
 | @snoc ns hs v h0 ok ix w16 l6 ih=>
  intro k hk;have hl:=h0.len;by_cases c:k<ns.length
  .obtain⟨u,a1,a2,a3,a4,a5,a6,a7⟩:=ih k c;refine⟨u,by rw[zY c];exact a1,?_⟩;rw[xV (),xV (),xV (),xV ()];exact⟨a2,a3,a4,a5,a6,a7⟩
  .have e:k=ns.length:=by simp at hk;lia
   subst e;refine⟨v,by simp,?_⟩;rw[vC,show (ns.length+1)=(ns++[v]).length by simp,xW,hl,vC,show (ns++[v]).length=(hs++[v.w hs]).length by simp[hl],xW];exact⟨h0,ok,ix,w16,rfl,rfl⟩
theorem Ng.same {ow:List Nat}{S T U:Sto}(a:Ng ow S T)(b:Ng ow T U):Ng ow S U:=a.trans b λx h=>.inl h
theorem JI {C:Addr}{S T:Sto}{n a b c:Nat}{N:List Nd×List Int}{v:Nd}{Q:DK}{ex:Sto->Prop}(g:Ng [a,b,c] S T)(h:match YI N v with|none=>∀T:Sto,Ng [a,b,c] S T->ex T|some (M,j)=>∀T:Sto,Ng [a,b,c] S T->YD C T n a b c M.1 M.2->Q (.int (j:Int)) T):match YI N v with|none=>∀U:Sto,Ng [a,b,c] T U->ex U|some (M,j)=>∀U:Sto,Ng [a,b,c] T U->YD C U n a b c M.1 M.2->Q (.int (j:Int)) U:=by
 cases e:YI N v with
 | none=>rw[e] at h;exact λU u=>h U (g.same u)
 | some x=>rw[e] at h;exact λU u q=>h U (g.same u) q
def XY (N m u e r:Nat):List (Str×D):=[("net",.ref N),("meanings",.ref m),("unknown_names",.ref u),("unknown_ends",.ref e),("told_rows",.ref r)]
structure Tk where
 ns:List Nd
 hs:List Int
 ml:List (Str×Nat)
 un:List Str
 en:List D
 rw:List (Str×Nat)
def rwT (p:Str×Nat):D:=.tup [.str p.1,.int (p.2:Int)]
structure Xv (CT CN:Addr)(S:Sto)(n N a b c m u e r:Nat)(k:Tk):Prop where
 tsk:S[n]?=some (.ins CT (XY N m u e r))
 net:YD CN S N a b c k.ns k.hs
 mea:S[m]?=some (.dck (mlK k.ml))
 nam:S[u]?=some (.lst (k.un.map D.str))
 ends:S[e]?=some (.lst k.en)
 rows:S[r]?=some (.lst (k.rw.map rwT))
 nd:[a,b,u,e,r].Nodup
 nok:NOk k.ns k.hs
 mok:∀w j,k.ml.lookup w=some j->j<k.ns.length
def Z7 (n N a b c m u e r:Nat):List Nat:=[n,N,a,b,c,m,u,e,r]
theorem BR {C:Addr}{S:Sto}:YD C (S++[Ob.ins C (Xj (S.length+1) (S.length+2) (S.length+3)),.lst [],.lst [],.dct []]) S.length (S.length+1) (S.length+2) (S.length+3) [] []:=by
 have g:∀k:Nat,(S++[Ob.ins C (Xj (S.length+1) (S.length+2) (S.length+3)),.lst [],.lst [],.dct []])[S.length+k]?=[Ob.ins C (Xj (S.length+1) (S.length+2) (S.length+3)),.lst [],.lst [],.dct []][k]?:=λk=>by rw[yC (),xX]
 exact⟨g 0,g 1,g 2,g 3,(),rfl⟩
theorem Ap {n:Nat}{S:Sto}{o:Ob}{Q:DK}{ws:List Str}{w:Str}(ho:S[n]?=some o)(hw:ZC o=ws.map D.str)(hq:Q (.bl (ws.any (·==w))) S)(hL:Wl o=some o:=by rfl):Xi (wIn 0 false) (.str w) (.ref n) S Q:=by
 rw[Xs];unfold wIn;simp only[Yo ho hL,hw];have e:XI (eqN 0) (ws.map D.str) (.str w)=some (ws.any (·==w)):=Ll ..;rw[e];exact hq
theorem zb5 {ws:List Str}{w:Str}(h:w ∉ ws):ws.any (·==w)=false:=by
 rw[xH];intro x hx e;exact h (eq_of_beq e ▸ hx)
theorem pv_in {w:Str}{k:Int}(h:pvS w=some k):2<=k/\k<=6:=by
 unfold pvS at h
 (repeat' split at h)<;>first|(cases h;decide)|cases h
theorem Lb {l k:Nat}{c:List Str}{t:Tr}(h:exP l k c t):t.good/\∀w∈t.nms,w∈c/\ZU w=true:=by
 have g:∀ {l k:Nat} {c:List Str} {t:Tr},Ex kS avS pvS l k c t->t.good/\∀w∈t.nms,w∈c/\ZU w=true:=by
  intro l k c t h
  induction h with
  | @atom w t hw ha=>
   unfold avS at ha;split at ha
   .rename_i z;cases ha;refine⟨trivial,λx hx=>?_⟩;have e:x=w:=by rw[zU.mp hx,Ur]
    rw[e];exact⟨zU.mpr rfl,z⟩
   .split at ha
    .cases ha;exact⟨trivial,λx hx=>by cases hx⟩
    .cases ha
  | shut _ _ _ ih=>exact⟨ih.1,λx hx=>⟨by simp[(ih.2 x hx).1],(ih.2 x hx).2⟩⟩
  | pow _ _ hn _ ih=>exact⟨⟨ih.1,pv_in hn⟩,λx hx=>⟨by simp[(ih.2 x hx).1],(ih.2 x hx).2⟩⟩
  | tim _ _ _ _ _ i1 i2=>
   refine⟨⟨i1.1,i2.1,zA _⟩,λx hx=>?_⟩;rcases zH.1 hx with hx|hx
   .exact⟨by simp[(i1.2 x hx).1],(i1.2 x hx).2⟩
   .exact⟨by simp[(i2.2 x hx).1],(i2.2 x hx).2⟩
  | @sum a l m k j n c d t s ha _ _ _ i1 i2=>
   refine⟨⟨i1.1,i2.1,?_⟩,λx hx=>?_⟩
   .rcases zek ha with e|e<;>rw[e] at ha<;>cases ha<;>decide
   .rcases zH.1 hx with hx|hx
    .exact⟨by simp[(i1.2 x hx).1],(i1.2 x hx).2⟩
    .exact⟨by simp[(i2.2 x hx).1],(i2.2 x hx).2⟩
 exact g h
theorem Nt {l k:Nat}{c:List Str}{t:Tr}(h:exP l k c t):t.dp<c.length:=by
 have g:∀ {l k:Nat} {c:List Str} {t:Tr},Ex kS avS pvS l k c t->t.dp<c.length:=by
  intro l k c t h
  induction h with
  | @atom w t hw ha=>
   unfold avS at ha;split at ha
   .cases ha;exact Nat.one_pos
   .split at ha
    .cases ha;exact Nat.one_pos
    .cases ha
  | shut _ _ _ ih=>simp;lia
  | pow _ _ _ _ ih=>simp[Tr.dp];lia
  | tim _ _ _ _ _ i1 i2=>simp[Tr.dp];lia
  | sum _ _ _ _ i1 i2=>simp[Tr.dp];lia
 exact g h
theorem N7 {c:List Str}{t:Tr}(h:trS c=some t):c.length<=120/\∃l k,exP l k c t:=by
 unfold trS at h;split at h
 .cases h
 .rename_i hl;split at h
  .rename_i t' e;cases h;obtain⟨c',l,k,e1,_,d⟩:=Jr 16 c t [] e;rw[yE] at e1;subst e1;exact⟨(),l,k,d⟩
  .cases h
abbrev Tk.ms (k:Tk):Str->Option Nat:=λw=>k.ml.lookup w
def VS (k:Tk)(ws:List Str):Prop:=∀w∈ws,w.length<=900/\(ZU w=true->∃j,k.ml.lookup w=some j)
def enD (t1 b1 t2 b2:Int):D:=.tup [.tup [.int t1,.int b1],.tup [.int t2,.int b2]]
structure UnkC (k:Tk)(ws:List Str)(k':Tk):Prop where
 ex:∃(w0 lo hi:Str)(t1 b1 t2 b2:Int)(M:List Nd×List Int)(j:Nat),ws=[w0,"in",lo,hi]/\ZU w0=true/\lo.length<=900/\hi.length<=900/\Yt (cs lo) t1 b1/\Yt (cs hi) t2 b2/\¬ (t2*b1<t1*b2)/\k.ml.lookup w0=none/\k.ml.length<900/\k.un.length<4/\k.en.length<900/\YI (k.ns,k.hs) (.unknown (k.un.length:Int))=some (M,j)/\k'={ k with ns:=M.1,hs:=M.2,ml:=k.ml++[(w0,j)],un:=k.un++[w0],en:=k.en++[enD t1 b1 t2 b2] }
structure ParC (k:Tk)(ws:List Str)(k':Tk):Prop where
 ex:∃(nm:Str)(es:List Str)(t:Tr)(M:List Nd×List Int)(j:Nat),ws=("let":Str)::nm::("=":Str)::es/\ZU nm=true/\trS es=some t/\k.ml.lookup nm=none/\k.ml.length<900/\VS k es/\ZR k.ms t (k.ns,k.hs)=some (M,j)/\k'={ k with ns:=M.1,hs:=M.2,ml:=k.ml++[(nm,j)] }
def sgS (sg:Str):Str:=if sg="=" then "zero" else "least"
structure RowC (k:Tk)(ws:List Str)(k':Tk):Prop where
 ex:∃(L R:List Str)(sg:Str)(t s:Tr)(M:List Nd×List Int)(j:Nat),ws=L++sg::R/\(∀w∈L,w≠"="/\w≠">=")/\(sg="="\/sg=">=")/\trS L=some t/\trS R=some s/\VS k ws/\k.rw.length<12/\ZR k.ms (.bi 1 t s) (k.ns,k.hs)=some (M,j)/\k'={ k with ns:=M.1,hs:=M.2,rw:=k.rw++[(sgS sg,j)] }
def Yi (CT CN:Addr)(S:Sto)(n:Nat)(ow:List Nat)(k:Tk):Prop:=∃N a b c m u e r,ow=Z7 n N a b c m u e r/\Xv CT CN S n N a b c m u e r k
def Fr (ow ow':List Nat)(l:Nat):Prop:=∀x∈ow',x∈ow\/l<=x
structure Apart (n N a b c m u e r:Nat):Prop where
 nN:n≠N
 na:n≠a
 nb:n≠b
 nc:n≠c
 nm:n≠m
 nu:n≠u
 ne:n≠e
 nr:n≠r
 Nm:N≠m
 Nu:N≠u
 Ne:N≠e
 Nr:N≠r
 am:a≠m
 bm:b≠m
 cm:c≠m
 cu:c≠u
 ce:c≠e
 cr:c≠r
 mu:m≠u
 me:m≠e
 mr:m≠r
 au:a≠u
 ae:a≠e
 ar:a≠r
 bu:b≠u
 be:b≠e
 br:b≠r
 ue:u≠e
 ur:u≠r
 er:e≠r
theorem Xv.apart {CT CN:Addr}{S:Sto}{n N a b c m u e r:Nat}{k:Tk}(h:Xv CT CN S n N a b c m u e r k):Apart n N a b c m u e r:=by
 have nd:=h.nd;simp only[yJ,zB,zG,or_false,not_or,yQ,and_true,not_false_eq_true] at nd;obtain⟨⟨_,d2,d3,d4⟩,⟨d5,d6,d7⟩,⟨d8,d9⟩,d10⟩:=nd;have x:=h.net;exact⟨Ys h.tsk x.net (by intro z;simp[XY,Xj] at z),Ys h.tsk x.kept (by intro z;cases z),Ys h.tsk x.weights (by intro z;cases z),Ys h.tsk x.numbers (by intro z;cases z),Ys h.tsk h.mea (by intro z;cases z),Ys h.tsk h.nam (by intro z;cases z),Ys h.tsk h.ends (by intro z;cases z),Ys h.tsk h.rows (by intro z;cases z),
  Ys x.net h.mea (by intro z;cases z),Ys x.net h.nam (by intro z;cases z),Ys x.net h.ends (by intro z;cases z),Ys x.net h.rows (by intro z;cases z),Ys x.kept h.mea (by intro z;cases z),Ys x.weights h.mea (by intro z;cases z),Ys x.numbers h.mea (by intro z;cases z),Ys x.numbers h.nam (by intro z;cases z),Ys x.numbers h.ends (by intro z;cases z),Ys x.numbers h.rows (by intro z;cases z),
  Ys h.mea h.nam (by intro z;cases z),Ys h.mea h.ends (by intro z;cases z),Ys h.mea h.rows (by intro z;cases z),d2,d3,d4,d5,d6,d7,d8,d9,d10⟩
theorem OG {ml:List (Str×Nat)}{l j0:Nat}{w0:Str}(h:∀w j,ml.lookup w=some j->j<l)(h0:j0<l):∀w j,(ml++[(w0,j0)]).lookup w=some j->j<l:=λw j e=>by
 rw[EV] at e;cases c:ml.lookup w with
 | some i=>rw[c] at e;cases e;exact h w _ c
 | none=>
  rw[c] at e;dsimp only at e;split at e
  .cases e;exact h0
  .cases e
theorem Ks {w:Str}(h:ZU w=true):w.length<=8:=by
 unfold ZU at h;rw[zZ,zZ,zZ,decide_eq_true_eq,decide_eq_true_eq] at h;lia
theorem zeq {w:Str}(h1:w≠"=")(h2:w≠">="):[(("=":Str),("zero":Str)),(">=","least")].lookup w=none:=by
 rw[zJ,show (w==("=":Str))=false by simpa using h1,zJ,show (w==(">=":Str))=false by simpa using h2];rfl
theorem J6 {td ty tv:TDE}{E:YS}{dl:Ev}{S:Sto}(h:tv dl S λv S1=>td dl S1 λd S2=>ty dl S2 λy S3=>match XR S3 d,Vb y with
 | some (n,kvs),some k=>kvs.length<1000/\E.nx dl (S3.set n (.dck (Xa kvs k v)))
 | _,_=>False):S8 td ty tv E dl S:=by
 unfold S8;exact h
theorem GC {td ty:TDE}{E:YS}{dl:Ev}{S S2:Sto}{n:Nat}{kvs:List (Key×D)}{y v:D}{k:Key}(hd:∀K:DK,K (.ref n) S2->td dl S K)(hy:∀K:DK,K y S2->ty dl S2 K)(h:S2[n]?=some (.dck kvs))(hk:Vb y=some k)(hl:kvs.length<1000)(hq:E.nx dl (S2.set n (.dck (Xa kvs k v)))):td dl S λd S2=>ty dl S2 λy S3=>match XR S3 d,Vb y with
 | some (n,kvs),some k=>kvs.length<1000/\E.nx dl (S3.set n (.dck (Xa kvs k v)))
 | _,_=>False:=by
 refine hd _ (hy _ ?_);simp only[XR,h,hk];exact⟨hl,hq⟩
theorem Qt (ml:List (Str×Nat)):(mlK ml).length=ml.length:=by simp[mlK]
theorem Xv.unk {CT CN:Addr}{S T:Sto}{n N a b c m u e r:Nat}{k:Tk}{M:List Nd×List Int}{j:Nat}{w0:Str}{d:D}(h:Xv CT CN S n N a b c m u e r k)(g:Ng [a,b,c] S T)(hn:YD CN T N a b c M.1 M.2)(ok:NOk M.1 M.2)(lj:j<M.1.length)(lm:k.ns.length<=M.1.length):
  Xv CT CN (((T.set m (.dck (mlK (k.ml++[(w0,j)])))).set u (.lst (k.un.map D.str++[.str w0]))).set e (.lst (k.en++[d]))) n N a b c m u e r { k with ns:=M.1,hs:=M.2,ml:=k.ml++[(w0,j)],un:=k.un++[w0],en:=k.en++[d] }/\Ng (Z7 n N a b c m u e r) S (((T.set m (.dck (mlK (k.ml++[(w0,j)])))).set u (.lst (k.un.map D.str++[.str w0]))).set e (.lst (k.en++[d]))):=by
 have p:=h.apart
 have mv:∀ {x:Nat} {o:Ob},S[x]?=some o->x≠a->x≠b->x≠c->T[x]?=some o:=λhx n1 n2 n3=>g.2 _ _ (by simp[n1,n2,n3]) hx
 have t1:=mv h.tsk p.na p.nb p.nc
 have t2:=mv h.mea (Ne.symm p.am) (Ne.symm p.bm) (Ne.symm p.cm)
 have t3:=mv h.nam (Ne.symm p.au) (Ne.symm p.bu) (Ne.symm p.cu)
 have t4:=mv h.ends (Ne.symm p.ae) (Ne.symm p.be) (Ne.symm p.ce)
 have t5:=mv h.rows (Ne.symm p.ar) (Ne.symm p.br) (Ne.symm p.cr);refine⟨⟨?_,⟨?_,?_,?_,?_,hn.ne,hn.len⟩,?_,?_,?_,?_,h.nd,ok,OG (λw i q=>zK (h.mok w i q) lm) lj⟩,?_⟩
 .exact Zk (Zk (Zk t1 p.nm) p.nu) p.ne
 .exact Zk (Zk (Zk hn.net p.Nm) p.Nu) p.Ne
 .exact Zk (Zk (Zk hn.kept p.am) p.au) p.ae
 .exact Zk (Zk (Zk hn.weights p.bm) p.bu) p.be
 .exact Zk (Zk (Zk hn.numbers p.cm) p.cu) p.ce
 .exact Zk (Zk (Ym t2) p.mu) p.me
 .show _=some (Ob.lst ((k.un++[w0]).map D.str));rw[zN];exact Zk (Ym (Zk t3 (Ne.symm p.mu))) p.ue
 .exact Ym (Zk (Zk t4 (Ne.symm p.me)) (Ne.symm p.ue))
 .exact Zk (Zk (Zk t5 (Ne.symm p.mr)) (Ne.symm p.ur)) (Ne.symm p.er)
 .have g':Ng (Z7 n N a b c m u e r) S T:=⟨g.1,λx o nx e=>g.2 x o (λz=>nx (by simp only[zB,zG,or_false] at z;unfold Z7;simp only[zB];rcases z with z|z|z<;>simp[z])) e⟩;exact((g'.same (Ng.set (by simp[Z7]) _)).same (Ng.set (by simp[Z7]) _)).same (Ng.set (by simp[Z7]) _)
theorem zbd {S T:Sto}(h:Pre S T):S.length<=T.length:=by
 cases c:S.length with
 | zero=>lia
 | succ k=>
  have e:S[k]?=some S[k]:=zD ()
  have:=ZL (h k _ e);lia
theorem Ng.of {ow:List Nat}{S T:Sto}(h:Pre S T):Ng ow S T:=Ng.pre h (zbd h)
theorem Ng.nil {ow:List Nat}{S T:Sto}(h:Ng [] S T):Ng ow S T:=⟨h.1,λx o _ e=>h.2 x o (by simp) e⟩
theorem YD.up {C:Addr}{S T:Sto}{n a b c:Nat}{ns:List Nd}{hs:List Int}(N:YD C S n a b c ns hs)(g:Ng [] S T):YD C T n a b c ns hs:=⟨g.2 _ _ (by simp) N.net,g.2 _ _ (by simp) N.kept,g.2 _ _ (by simp) N.weights,g.2 _ _ (by simp) N.numbers,N.ne,N.len⟩
theorem Xv.up {CT CN:Addr}{S T:Sto}{n N a b c m u e r:Nat}{k:Tk}(h:Xv CT CN S n N a b c m u e r k)(g:Ng [] S T):Xv CT CN T n N a b c m u e r k:=⟨g.2 _ _ (by simp) h.tsk,h.net.up g,g.2 _ _ (by simp) h.mea,g.2 _ _ (by simp) h.nam,g.2 _ _ (by simp) h.ends,g.2 _ _ (by simp) h.rows,h.nd,h.nok,h.mok⟩
structure Vi (CN:Addr)(S T:Sto)(N a b c:Nat)(ns:List Nd)(hs:List Int):Prop where
 g:Ng [a,b,c] S T
 lN:S.length<=N
 la:S.length<=a
 lb:S.length<=b
 lc:S.length<=c
 net:YD CN T N a b c ns hs
theorem Vi.old {CN:Addr}{S T:Sto}{N a b c:Nat}{ns:List Nd}{hs:List Int}(h:Vi CN S T N a b c ns hs){x:Nat}{o:Ob}(e:S[x]?=some o):T[x]?=some o:=h.g.2 x o (λz=>by
 have:=ZL e
 have:=h.la
 have:=h.lb
 have:=h.lc;simp only[zB,zG,or_false] at z;lia) e
theorem Vi.of {CN:Addr}{S T U:Sto}{N a b c:Nat}{ns':List Nd}{hs':List Int}(g:Ng [] S T)(lN:S.length<=N)(la:S.length<=a)(lb:S.length<=b)(lc:S.length<=c)(g2:Ng [a,b,c] T U)(n:YD CN U N a b c ns' hs'):Vi CN S U N a b c ns' hs':=⟨(g.nil).trans g2 λx hx=>.inl hx,lN,la,lb,lc,n⟩
theorem Xv.par {CT CN:Addr}{S T:Sto}{n N a b c m u e r N2 a2 b2 c2:Nat}{k:Tk}{M:List Nd×List Int}{j:Nat}{nm:Str}(h:Xv CT CN S n N a b c m u e r k)(w:Vi CN S T N2 a2 b2 c2 M.1 M.2)(ok:NOk M.1 M.2)(lj:j<M.1.length)(lm:k.ns.length<=M.1.length):
  Xv CT CN ((T.set m (.dck (mlK (k.ml++[(nm,j)])))).set n (.ins CT (XY N2 m u e r))) n N2 a2 b2 c2 m u e r { k with ns:=M.1,hs:=M.2,ml:=k.ml++[(nm,j)] }/\Ng (Z7 n N a b c m u e r) S ((T.set m (.dck (mlK (k.ml++[(nm,j)])))).set n (.ins CT (XY N2 m u e r)))/\Fr (Z7 n N a b c m u e r) (Z7 n N2 a2 b2 c2 m u e r) S.length:=by
 have p:=h.apart
 have ln:=ZL h.tsk
 have lm':=ZL h.mea
 have lu:=ZL h.nam
 have le:=ZL h.ends
 have lr:=ZL h.rows
 have qN:=w.lN
 have qa:=w.la
 have qb:=w.lb
 have qc:=w.lc;refine⟨⟨?_,⟨?_,?_,?_,?_,w.net.ne,w.net.len⟩,?_,?_,?_,?_,?_,ok,OG (λw i q=>zK (h.mok w i q) lm) lj⟩,?_,?_⟩
 .exact Ym (Zk (w.old h.tsk) p.nm)
 .exact Zk (Zk w.net.net ()) ()
 .exact Zk (Zk w.net.kept ()) ()
 .exact Zk (Zk w.net.weights ()) ()
 .exact Zk (Zk w.net.numbers ()) ()
 .exact Zk (Ym (w.old h.mea)) (Ne.symm p.nm)
 .exact Zk (Zk (w.old h.nam) (Ne.symm p.mu)) (Ne.symm p.nu)
 .exact Zk (Zk (w.old h.ends) (Ne.symm p.me)) (Ne.symm p.ne)
 .exact Zk (Zk (w.old h.rows) (Ne.symm p.mr)) (Ne.symm p.nr)
 .have ab:=w.net.ne;simp only[yJ,zB,zG,or_false,not_or,yQ,and_true,not_false_eq_true];exact⟨⟨ab,(),(),()⟩,⟨(),(),()⟩,⟨p.ue,p.ur⟩,p.er⟩
 .have g':Ng (Z7 n N a b c m u e r) S T:=⟨w.g.1,λx o _ q=>w.old q⟩;exact(g'.same (Ng.set (by simp[Z7]) _)).same (Ng.set (by simp[Z7]) _)
 .intro x hx;simp only[Z7,zB,zG,or_false] at hx ⊢;lia
theorem Xv.row {CT CN:Addr}{S T:Sto}{n N a b c m u e r N2 a2 b2 c2:Nat}{k:Tk}{M:List Nd×List Int}{j:Nat}{sg:Str}(h:Xv CT CN S n N a b c m u e r k)(w:Vi CN S T N2 a2 b2 c2 M.1 M.2)(ok:NOk M.1 M.2)(lm:k.ns.length<=M.1.length):
  Xv CT CN ((T.set n (.ins CT (XY N2 m u e r))).set r (.lst (k.rw.map rwT++[rwT (sg,j)]))) n N2 a2 b2 c2 m u e r { k with ns:=M.1,hs:=M.2,rw:=k.rw++[(sg,j)] }/\Ng (Z7 n N a b c m u e r) S ((T.set n (.ins CT (XY N2 m u e r))).set r (.lst (k.rw.map rwT++[rwT (sg,j)])))/\Fr (Z7 n N a b c m u e r) (Z7 n N2 a2 b2 c2 m u e r) S.length:=by
 have p:=h.apart
 have ln:=ZL h.tsk
 have lm':=ZL h.mea
 have lu:=ZL h.nam
 have le:=ZL h.ends
 have lr:=ZL h.rows
 have qN:=w.lN
 have qa:=w.la
 have qb:=w.lb
 have qc:=w.lc;refine⟨⟨?_,⟨?_,?_,?_,?_,w.net.ne,w.net.len⟩,?_,?_,?_,?_,?_,ok,λw i q=>zK (h.mok w i q) lm⟩,?_,?_⟩
 .exact Zk (Ym (w.old h.tsk)) p.nr
 .exact Zk (Zk w.net.net ()) ()
 .exact Zk (Zk w.net.kept ()) ()
 .exact Zk (Zk w.net.weights ()) ()
 .exact Zk (Zk w.net.numbers ()) ()
 .exact Zk (Zk (w.old h.mea) (Ne.symm p.nm)) p.mr
 .exact Zk (Zk (w.old h.nam) (Ne.symm p.nu)) p.ur
 .exact Zk (Zk (w.old h.ends) (Ne.symm p.ne)) p.er
 .show _=some (Ob.lst ((k.rw++[(sg,j)]).map rwT));rw[zN];exact Ym (Zk (w.old h.rows) (Ne.symm p.nr))
 .have ab:=w.net.ne;simp only[yJ,zB,zG,or_false,not_or,yQ,and_true,not_false_eq_true];exact⟨⟨ab,(),(),()⟩,⟨(),(),()⟩,⟨p.ue,p.ur⟩,p.er⟩
 .have g':Ng (Z7 n N a b c m u e r) S T:=⟨w.g.1,λx o _ q=>w.old q⟩;exact(g'.same (Ng.set (by simp[Z7]) _)).same (Ng.set (by simp[Z7]) _)
 .intro x hx;simp only[Z7,zB,zG,or_false] at hx ⊢;lia
theorem args1 {te:TDE}{dl:Ev}{S S1:Sto}{Q:List D->Sto->Prop}{d:D}(h:∀K:DK,K d S1->te dl S K)(hq:Q [d] S1):Wc te X3 dl S Q:=h _ hq
theorem args3 {t1 t2 t3:TDE}{dl:Ev}{S S1 S2 S3:Sto}{Q:List D->Sto->Prop}{d1 d2 d3:D}(h1:∀K:DK,K d1 S1->t1 dl S K)(h2:∀K:DK,K d2 S2->t2 dl S1 K)(h3:∀K:DK,K d3 S3->t3 dl S2 K)(hq:Q [d1,d2,d3] S3):Wc t1 (Wc t2 (Wc t3 X3)) dl S Q:=h1 _ (h2 _ (h3 _ hq))
theorem zaZ {L R:List Str}{sg:Str}:(L++sg::R).drop (L.length+1)=R:=by
 rw[show L++sg::R=(L++[sg])++R by simp,show L.length+1=(L++[sg]).length by simp];exact List.drop_left
theorem Cr (L R:List Str)(sg:Str):atI ((L++sg::R).map D.str) (L.length:Int)=some (.str sg):=by
 have z:=WH (ws:=L++sg::R) (p:=L.length) (by simp);rw[show (L++sg::R)[L.length]=sg by simp] at z;exact z
theorem zdA {sg:Str}(h:sg="="\/sg=">="):[(("=":Str),("zero":Str)),(">=","least")].lookup sg=some (sgS sg):=by
 rcases h with rfl|rfl<;>decide
inductive TelC (k:Tk)(ws:List Str)(k':Tk):Str->Prop
 | unk:UnkC k ws k'->TelC k ws k' "unknown"
 | par:ParC k ws k'->TelC k ws k' "part"
 | row:RowC k ws k'->TelC k ws k' "row"
theorem Fl {l k:Nat}{c:List Str}{t:Tr}(h:exP l k c t):∀w∈c,kS w=.at->avS w≠none\/pvS w≠none:=by
 have g:∀ {l k:Nat} {c:List Str} {t:Tr},Ex kS avS pvS l k c t->∀w∈c,kS w=.at->avS w≠none\/pvS w≠none:=by
  intro l k c t h
  induction h with
  | @atom w t hw ha=>intro x hx _;rw[zU.mp hx];exact .inl (by rw[ha];simp)
  | @shut a b l k c t ha hb _ ih=>
   intro x hx hk;simp only[xF,zB,zH,zG,or_false] at hx;rcases hx with rfl|hx|rfl
   .rw[ha] at hk;cases hk
   .exact ih x hx hk
   .rw[hb] at hk;cases hk
  | @pow a p k c t n ha hp hn _ ih=>
   intro x hx hk;simp only[zH,zB,zG,or_false] at hx;rcases hx with hx|rfl|rfl
   .exact ih x hx hk
   .rw[ha] at hk;cases hk
   .exact .inr (by rw[hn];simp)
  | @tim a l m k j c d t s ha _ _ _ _ i1 i2=>
   intro x hx hk;simp only[zH,zB] at hx;rcases hx with hx|rfl|hx
   .exact i1 x hx hk
   .rw[ha] at hk;cases hk
   .exact i2 x hx hk
  | @sum a l m k j n c d t s ha _ _ _ i1 i2=>
   intro x hx hk;simp only[zH,zB] at hx;rcases hx with hx|rfl|hx
   .exact i1 x hx hk
   .rw[hk] at ha;cases ha
   .exact i2 x hx hk
 exact g h
theorem HS {l k:Nat}{c:List Str}{t:Tr}(h:exP l k c t){w:Str}(hw:w∈c):w≠"in"/\w≠"let":=by
 have no:∀x:Str,x∈NOAT->pvS x=none->w≠x:=λx hx hp e=>by
  obtain⟨a,b,_⟩:=D6 x hx;rcases Fl h w hw (by rw[e];exact b) with z|z
  .exact z (by rw[e];exact a)
  .exact z (by rw[e];exact hp)
 exact⟨no _ ⋯ ⋯,no _ ⋯ ⋯⟩
theorem OP {l k:Nat}{c:List Str}{t:Tr}(h:exP l k c t):c≠[]:=λe=>by
 have:=Nt h;rw[e] at this;simp at this
theorem AM {w:Str}(h:ZU w=true):w≠"in"/\w≠"let":=by
 constructor<;>intro e<;>rw[e] at h<;>revert h<;>decide
theorem in_eq (ws:List Str):eqL (eqN 1) (Yv (ws.map D.str) (some 1) (some 2)) [.str "in"]=some (decide (ws[1]?=some ("in":Str))):=by
 match ws with
 | []=>rfl
 | [a]=>rfl
 | a::b::r=>
  have e:Yv ((a::b::r).map D.str) (some 1) (some 2)=[.str b]:=by
   show Yv ((a::b::r).map D.str) (some ((1:Nat):Int)) (some ((2:Nat):Int))=_;unfold L3.Yv;rw[HT.sIx_nat,HT.sIx_nat];simp
  rw[e];show (match some (decide (b="in")),(some true:Option Bool) with|some x,some y=>some (x&&y)|_,_=>none)=_;simp
theorem Xv.lt {CT CN:Addr}{S:Sto}{n N a b c m u e r:Nat}{k:Tk}(h:Xv CT CN S n N a b c m u e r k):∀x∈Z7 n N a b c m u e r,x<S.length:=λx hx=>by
 simp only[Z7,zB,zG,or_false] at hx;rcases hx with rfl|rfl|rfl|rfl|rfl|rfl|rfl|rfl|rfl
 .exact ZL h.tsk
 .exact ZL h.net.net
 .exact ZL h.net.kept
 .exact ZL h.net.weights
 .exact ZL h.net.numbers
 .exact ZL h.mea
 .exact ZL h.nam
 .exact ZL h.ends
 .exact ZL h.rows
theorem Yi.up {CT CN:Addr}{S T:Sto}{n:Nat}{ow:List Nat}{k:Tk}(h:Yi CT CN S n ow k)(g:Ng [] S T):Yi CT CN T n ow k:=by
 obtain⟨N,a,b,c,m,u,e,r,rfl,tp⟩:=h;exact⟨N,a,b,c,m,u,e,r,rfl,tp.up g⟩
theorem Yi.lt {CT CN:Addr}{S:Sto}{n:Nat}{ow:List Nat}{k:Tk}(h:Yi CT CN S n ow k):∀x∈ow,x<S.length:=by
 obtain⟨N,a,b,c,m,u,e,r,rfl,tp⟩:=h;exact tp.lt
theorem Yi.tsk {CT CN:Addr}{S:Sto}{n:Nat}{ow:List Nat}{k:Tk}(h:Yi CT CN S n ow k):∃N m u e r,S[n]?=some (.ins CT (XY N m u e r)):=by
 obtain⟨N,a,b,c,m,u,e,r,rfl,tp⟩:=h;exact⟨N,m,u,e,r,tp.tsk⟩
theorem Fr.le {ow ow':List Nat}{l l':Nat}(h:Fr ow ow' l)(e:l'<=l):Fr ow ow' l':=λx hx=>by
 rcases h x hx with z|z
 .exact .inl z
 .exact .inr ()
theorem zaU {C:Addr}{f:Str}{to te:TDE}{E:YS}{dl:Ev}{S:Sto}(h:te dl S λv S1=>to dl S1 λd S2=>match XO C S2 d with|some (n,fs)=>fs.length<1000/\E.nx dl (S2.set n (.ins C (Z8 f v fs)))|none=>False):S0 C f to te E dl S:=by
 unfold S0;exact h
theorem zeB {C:Addr}{f:Str}{to:TDE}{E:YS}{dl:Ev}{S1 S2:Sto}{n:Nat}{fs:List (Str×D)}{v:D}(hto:∀K:DK,K (.ref n) S2->to dl S1 K)(h:S2[n]?=some (.ins C fs))(hl:fs.length<1000)(hq:E.nx dl (S2.set n (.ins C (Z8 f v fs)))):to dl S1 λd S2=>match XO C S2 d with|some (n,fs)=>fs.length<1000/\E.nx dl (S2.set n (.ins C (Z8 f v fs)))|none=>False:=by
 refine hto _ ?_;simp only[XO,h,if_pos];exact⟨hl,hq⟩
theorem zcf {dl:Ev}{S:Sto}{Q:List D->Sto->Prop}(h:Q [] S):X3 dl S Q:=h
theorem HM {dl:Ev}{S:Sto}{Q:DK}{T:Sto}{m:Nat}(e:T=S++[.dck []])(em:m=S.length)(h:Q (.ref m) T):Km dl S Q:=by
 subst e em;exact h
def Mn (CT CN:Addr)(l:Nat):Sto:=[.ins CT (XY (l+1) (l+5) (l+6) (l+7) (l+8)),.ins CN (Xj (l+2) (l+3) (l+4)),.lst [],.lst [],.dct [],.dck [],.lst [],.lst [],.lst []]
theorem Af {CT CN:Addr}(T:Sto):Yi CT CN (T++Mn CT CN T.length) T.length (Z7 T.length (T.length+1) (T.length+2) (T.length+3) (T.length+4) (T.length+5) (T.length+6) (T.length+7) (T.length+8)) ⟨[],[],[],[],[],[]⟩:=by
 have g:∀k:Nat,(T++Mn CT CN T.length)[T.length+k]?=(Mn CT CN T.length)[k]?:=λk=>by rw[yC (),xX]
 refine⟨_,_,_,_,_,_,_,_,rfl,⟨g 0,⟨g 1,g 2,g 3,g 4,(),rfl⟩,g 5,g 6,g 7,g 8,?_,.nil,λw j e=>by cases e⟩⟩;simp only[yJ,zB,zG,or_false,not_or,yQ,and_true,not_false_eq_true];lia
section
variable {X:Cx}{Z:Zx}{pos:Pos}
theorem zdS:YJ X (.type "dict") (λxs H Q=>∃p kvs,xs=[.ref p]/\H p=some (.dK kvs)/\∀a,H a=none->Q (.ref a) (upd H a (.dK kvs))):=by
 intro aA s σ H xs us Q I rv h;obtain⟨p,kvs,rfl,hp,q⟩:=h;obtain⟨u,rfl,ru⟩:=Xw rv;cases ru;exact zcT I (.inl hp) λa s' ha I'=>⟨.ref a,_,I',rfl,q a ha⟩
@[irreducible] def Oc (ta:TDA):TDE:=λdl S Q=>ta dl S λds S1=>match ds with
 | [d]=>match XR S1 d with
  | some (_,kvs)=>Q (.ref S1.length) (S1++[.dck kvs])
  | none=>False
 | _=>False
theorem HX {ta:TDA}{dl:Ev}{S S1:Sto}{Q:DK}{n:Nat}{kvs:List (Key×D)}(hta:∀K:List D->Sto->Prop,K [.ref n] S1->ta dl S K)(hn:S1[n]?=some (.dck kvs))(hq:Q (.ref S1.length) (S1++[.dck kvs])):Oc ta dl S Q:=by
 unfold Oc;refine hta _ ?_;simp only[XR,hn];exact hq
theorem Ff {e:Expr}{ta:TDA}{p:Pos}(hg:Gl X "dict")(hm:X.mg "dict"=none)(hv:bootBuiltins "dict"=some (.type "dict"))(he:PDA X Z [e] ta)
  (hs:starEach [e] X.env=(false,eval e X.env)::starEach [] X.env:=by rfl)(hpl:(backTo pos (starEach [] X.env)).any (·.1)=false:=by rfl):
  PD X Z (.Call (.Name "dict" p) [e] [] pos) (Oc ta):=
 ZO (NC zdS hg hm hv he ⋯ ⋯ hs hpl) λσ H Qv ⟨r,dl,S,Q,rs,aS,h,ret⟩=>by
  unfold Oc at h;refine⟨r,dl,S,_,rs,aS,h,λvs H1 r1 ds S1 e1 aB p1 q1=>?_⟩;split at q1
  .rename_i d;split at q1
   .rename_i n kvs c;obtain⟨v,vs',rfl,p2,p3⟩:=p1.uncons;have z:=p3.unnil;subst z;obtain⟨rfl,eS⟩:=Mm c;obtain⟨a,ha,kvs',eH,fr⟩:=aB.at eS;cases p2 with
    | ref hr=>
     rw[hr] at ha;cases ha
     refine⟨a,kvs',rfl,eH,λb hb=>?_⟩;obtain⟨rb,x⟩:=aB.b.pushO (o:=.dck kvs) (H':=upd H1 b (.dK kvs')) hb (X8 hb) λx=>⟨kvs',Y1,fr.ext x⟩
     exact ret _ _ _ (.ref S1.length) _ (e1.trans x) ⟨rb,aB.xw.ext x⟩ (Wo aB.len) q1
   .exact q1.elim
  .exact q1.elim
theorem is_kV {P:Program}{w:World}{k:Key}{v:Value}(h:(Y8 P w).is k v=true):Zm (kV k) v:=by
 rcases Vc (k:=k) (v:=v) h with ⟨i,t,rfl,rfl⟩|⟨x,t,rfl,rfl⟩
 .exact⟨t,rfl⟩
 .exact⟨t,rfl⟩
theorem Dg (hc:X.calm=true):YJ X (.type "list") (λxs H Q=>∃p kvs,xs=[.ref p]/\H p=some (.dK kvs)/\∀a,H a=none->Q (.ref a) (upd H a (.lst (kvs.map λkv=>kV kv.1)))):=by
 intro aA s σ H xs us Q I rv h;obtain⟨p,kvs,rfl,hp,q⟩:=h;obtain⟨u,rfl,ru⟩:=Xw rv;cases ru;obtain⟨z,hd,vs,aS,dd⟩:=Kq I.hok hp;obtain⟨ep,hat⟩:=dd.dictAt;refine W.kdl_call (W.kdl_dict (knd:=Y8 X.prog X.w) (kvs:=vs) (ep:=ep) hd) (I.ok.hd hc) hat (by rw[<- aS.length];exact z) λh' tk acc c keep new items=>?_
 refine⟨.ref s.heap.objs.size,_,I.laid (t':=tk) (o:=.lst (kvs.map λkv=>kV kv.1)) keep (zA _) ⟨by rw[zC];exact z,acc.toList,c,?_,by rw[Array.toArray_toList];exact new⟩,rfl,q _ (I.hok.fresh (zA _))⟩;have hl:acc.toList.length=vs.length:=by rw[Array.length_toList];exact items.1
 have hi:∀(j:Nat)(v:Value),acc.toList[j]?=some v->∃k x,vs[j]?=some (k,x)/\(Y8 X.prog X.w).is k v=true:=λj v e=>items.2 j v (by rw[<- Array.getElem?_toList];exact e)
 clear new items keep hat dd;generalize acc.toList=us at hl hi;have main:∀ {kvs:List (Key×V)} {vs:List (Key×Value)},KV kvs vs->∀us:List Value,us.length=vs.length->(∀(j:Nat)(v:Value),us[j]?=some v->∃k x,vs[j]?=some (k,x)/\(Y8 X.prog X.w).is k v=true)->Zt (kvs.map λkv=>kV kv.1) us:=by
  intro kvs vs r;unfold KV at r
  induction r with
  | nil=>intro us hl _;cases us with
   | nil=>exact .nil
   | cons _ _=>cases hl
  | @cons a b as bs h t ih=>
   intro us hl hi;cases us with
   | nil=>cases hl
   | cons u us=>
    rw[zL];refine .cons ?_ (ih us (by simpa using hl) λj v e=>hi (j+1) v e);obtain⟨k,x,e,hk⟩:=hi 0 u rfl;have e':b=(k,x):=Option.some.inj e;rw[h.1,e'];exact is_kV hk
 exact main aS us hl hi
def kyD:Key->D
 | .inl i=>.int i
 | .inr x=>.str x
@[irreducible] def Me (ta:TDA):TDE:=λdl S Q=>ta dl S λds S1=>match ds with
 | [d]=>match XR S1 d with
  | some (_,kvs)=>Q (.ref S1.length) (S1++[.lst (kvs.map λkv=>kyD kv.1)])
  | none=>False
 | _=>False
theorem zdW {ta:TDA}{dl:Ev}{S S1:Sto}{Q:DK}{n:Nat}{kvs:List (Key×D)}(hta:∀K:List D->Sto->Prop,K [.ref n] S1->ta dl S K)(hn:S1[n]?=some (.dck kvs))(hq:Q (.ref S1.length) (S1++[.lst (kvs.map λkv=>kyD kv.1)])):Me ta dl S Q:=by
 unfold Me;refine hta _ ?_;simp only[XR,hn];exact hq
theorem zam {e:Expr}{ta:TDA}{p:Pos}(hc:X.calm=true)(hg:Gl X "list")(hm:X.mg "list"=none)(hv:bootBuiltins "list"=some (.type "list"))(he:PDA X Z [e] ta)
  (hs:starEach [e] X.env=(false,eval e X.env)::starEach [] X.env:=by rfl)(hpl:(backTo pos (starEach [] X.env)).any (·.1)=false:=by rfl):
  PD X Z (.Call (.Name "list" p) [e] [] pos) (Me ta):=
 ZO (NC (Dg hc) hg hm hv he ⋯ ⋯ hs hpl) λσ H Qv ⟨r,dl,S,Q,rs,aS,h,ret⟩=>by
  unfold Me at h;refine⟨r,dl,S,_,rs,aS,h,λvs H1 r1 ds S1 e1 aB p1 q1=>?_⟩;split at q1
  .rename_i d;split at q1
   .rename_i n kvs c;obtain⟨v,vs',rfl,p2,p3⟩:=p1.uncons;have z:=p3.unnil;subst z;obtain⟨rfl,eS⟩:=Mm c;obtain⟨a,ha,kvs',eH,fr⟩:=aB.at eS;cases p2 with
    | ref hr=>
     rw[hr] at ha;cases ha
     refine⟨a,kvs',rfl,eH,λb hb=>?_⟩;have el:(kvs'.map λkv=>kV kv.1)=(kvs.map (·.1)).map kV:=by rw[fr.1,xY];rfl
     obtain⟨aD,x⟩:=aB.push (ds:=kvs.map λkv=>kyD kv.1) (xs:=kvs'.map λkv=>kV kv.1) hb (by
      rw[el];refine⟨by simp,λi d v hd hv=>?_⟩;rw[zR] at hd;rw[xY,zR] at hv;obtain⟨k,hk,rfl⟩:=yA.mp hd;rw[hk] at hv;cases hv;obtain⟨k,y⟩:=k;cases k with
      | inl i=>exact .int i
      | inr x=>exact .str x)
     exact ret _ _ _ (.ref S1.length) _ (e1.trans x) aD (Wo aB.len) q1
   .exact q1.elim
  .exact q1.elim
def P7:List (Str×TDE)->Ev->Sto->(List (Key×D)->Sto->Prop)->Prop
 | [],_,S,Q=>Q [] S
 | (k,tv)::r,dl,S,Q=>tv dl S λy S2=>P7 r dl S2 λps S3=>Q ((.inr k,y)::ps) S3
@[irreducible] def QK (trs:List (Str×TDE)):TDE:=λdl S Q=>P7 trs dl (S++[.dck []]) λps S2=>S2[S.length]?=some (.dck [])/\ps.length<=15/\(ps.map (·.1)).Nodup/\Q (.ref S.length) (S2.set S.length (.dck ps))
theorem zez {trs:List (Str×TDE)}{dl:Ev}{S:Sto}{Q:DK}(h:P7 trs dl (S++[.dck []]) λps S2=>S2[S.length]?=some (.dck [])/\ps.length<=15/\(ps.map (·.1)).Nodup/\Q (.ref S.length) (S2.set S.length (.dck ps))):QK trs dl S Q:=by
 unfold QK;exact h
def PDP (X:Cx)(Z:Zx)(pos:Pos)(keys:List (Option Expr))(values:List Expr)(trs:List (Str×TDE)):Prop:=∃ts:List (TE×TE),PPs X pos keys values ts/\∀(σ:L3.St)(H:Hp)(Qv:List (V×V)->Hp->Prop)(r:List Addr)(dl:Ev)(S:Sto)(Q:List (Key×D)->Sto->Prop),Rs r H dl σ->Rel X.K Z r S H->P7 trs dl S Q->
 (∀(kvs':List (Key×V)) H1 r1 kvs S1,Ext r r1 H H1->Rel X.K Z r1 S1 H1->FR r1 H1 kvs kvs'->Q kvs S1->Qv (kvs'.map λkv=>(kV kv.1,kv.2)) H1)->Mo ts σ H Qv
theorem CG:PDP X Z pos [] [] []:=⟨[],za7,λσ H Qv r dl S Q rs aS h ret=>ret [] H r [] S Ext.refl aS FR.nil h⟩
theorem zdk {k:Str}{j:Nat}{kp:Pos}{v:Expr}{ks:List (Option Expr)}{vs:List Expr}{tv:TDE}{trs:List (Str×TDE)}(hv:PD X Z v tv)(hr:PDP X Z pos ks vs trs):PDP X Z pos (some (.Constant (.str k) j kp)::ks) (v::vs) ((k,tv)::trs):=by
 obtain⟨ts,h1,h2⟩:=hr;refine⟨_::ts,BP FA hv h1,λσ H Qv r dl S Q rs aS h ret=>?_⟩;refine⟨r,dl,S,_,rs,aS,h,λy H2 r2 d S2 e2 aC p2 q2=>?_⟩;refine h2 σ H2 _ r2 dl S2 _ (rs.ext e2) aC q2 λkvs' H3 r3 kvs S3 e3 aD fr q3=>?_
 refine ret ((.inr k,y)::kvs') H3 r3 ((.inr k,d)::kvs) S3 (e2.trans e3) aD ⟨by simp[fr.1],?_⟩ q3;exact Rps.cons (p2.ext e3) fr.2
theorem Es:∀(kvs acc:List (Key×V)),((acc++kvs).map (·.1)).Nodup->U0 acc kvs=acc++kvs
 | [],acc,_=>by rw[yE];rfl
 | p::r,acc,h=>by
  have e:L2.putK acc p.1 p.2=acc++[p]:=by
   unfold L2.putK;rw[if_neg];intro z;rw[vQ] at z;obtain⟨q,hq,e⟩:=z;rw[decide_eq_true_eq] at e;rw[zN,uC] at h;exact h.2.2 q.1 (yM.mpr ⟨q,hq,rfl⟩) p.1 (by simp) e
  show U0 (L2.putK acc p.1 p.2) r=_;rw[e,Es r (acc++[p]) (by rw[yG];exact h),yG];rfl
theorem AR {keys:List (Option Expr)}{values:List Expr}{trs:List (Str×TDE)}(h:PDP X Z pos keys values trs)(hall:keys.all (·.isSome)=true:=by rfl)(hl:keys.length=values.length:=by rfl)(h0:keys≠[]:=by simp)(h15:keys.length<=15:=by decide):PD X Z (.Dict keys values pos) (QK trs):=by
 obtain⟨ts,h1,h2⟩:=h;refine ZO (zaa h1 hall hl h0 h15) λσ H Qv ⟨r,dl,S,Q,rs,aS,h,ret⟩=>?_
 unfold QK at h;intro p hp;obtain⟨rb,x0⟩:=aS.b.pushO (o:=.dck []) (H':=upd H p (.dK [])) hp (X8 hp) λ_=>⟨[],Y1,FR.nil⟩
 refine h2 σ _ _ _ dl _ _ (rs.ext x0) ⟨rb,aS.xw.ext x0⟩ h λkvs' H1 r1 kvs S1 e1 aB fr q1=>?_
 obtain⟨eS,l15,nd,q1⟩:=q1;obtain⟨a,ha,k0,eH,f0⟩:=aB.at eS;have hr:=e1.adr S.length p (by rw[<- aS.len];simp);rw[hr] at ha;cases ha
 have z0:k0=[]:=by
  have:=f0.1;simpa using this.symm
 subst z0;refine⟨eH,kvs',rfl,?_,?_⟩
 .have:=congrArg List.length fr.1;simp at this;lia
 .rw[Es kvs' [] (by rw[uD,<- fr.1];exact nd),uD];obtain⟨rb2,xx⟩:=aB.b.setO (o':=.dck kvs) (u:=.dK kvs') hr eS rfl rfl λxx=>⟨_,Y1,fr.ext xx⟩
  exact ret _ _ _ (.ref S.length) _ (x0.trans (e1.trans xx)) ⟨rb2,aB.xw.ext xx⟩ (.ref (xx.adr _ _ hr)) q1
structure OY (X:Cx)(Z:Zx)(pos:Pos)(keys:List (Option Expr))(values:List Expr)(trs:List (Str×TDE)):Prop where
 h:PDP X Z pos keys values trs
theorem zcd:OY X Z pos [] [] []:=⟨CG⟩
theorem Ts {k:Str}{j:Nat}{kp:Pos}{v:Expr}{ks:List (Option Expr)}{vs:List Expr}{tv:TDE}{trs:List (Str×TDE)}(hv:PDq X Z v tv)(hr:OY X Z pos ks vs trs):OY X Z pos (some (.Constant (.str k) j kp)::ks) (v::vs) ((k,tv)::trs):=⟨zdk hv.h hr.h⟩
theorem BO:PDq X Z (.Dict [] [] pos) Km:=⟨GZ⟩
theorem zcX {keys:List (Option Expr)}{values:List Expr}{trs:List (Str×TDE)}(h:OY X Z pos keys values trs)(hall:keys.all (·.isSome)=true:=by rfl)(hl:keys.length=values.length:=by rfl)(h0:keys≠[]:=by exact List.cons_ne_nil _ _)(h15:keys.length<=15:=by decide):PDq X Z (.Dict keys values pos) (QK trs):=⟨AR h.h hall hl h0 h15⟩
end
abbrev stA (sh:Int):List Nat:=[97,98,98,97,97,98].take (sh%7).toNat
def nmA (k sh:Int):Str:=mk (((stA sh).take (sh/7%7).toNat)++[97+(k/7%10).toNat,97+(k%7).toNat]++((stA sh).drop (sh/7%7).toNat))
theorem nmS1:∀c:Fin 7,StrLaws.sliceText "abbaab" none (some (c.val:Int))=mk ([97,98,98,97,97,98].take c.val):=by decide
theorem nmS2:∀c d:Fin 7,StrLaws.sliceText (mk ([97,98,98,97,97,98].take c.val)) none (some (d.val:Int))=mk (([97,98,98,97,97,98].take c.val).take d.val):=by decide
theorem nmS3:∀c d:Fin 7,StrLaws.sliceText (mk ([97,98,98,97,97,98].take c.val)) (some (d.val:Int)) none=mk (([97,98,98,97,97,98].take c.val).drop d.val):=by decide
theorem nmI1:∀a:Fin 10,("abcdefghij":Str).cps[a.val]?=some (97+a.val):=by decide
theorem nmI2:∀a:Fin 7,("abcdefg":Str).cps[a.val]?=some (97+a.val):=by decide
theorem PF {x:Int}{n:Nat}(h0:0<=x)(h1:x<n):∃c:Fin n,x=(c.val:Int)/\x.toNat=c.val:=⟨⟨x.toNat,()⟩,by show x=((x.toNat:Nat):Int);lia,rfl⟩
theorem nm_st (c:Fin 7):(mk ([97,98,98,97,97,98].take c.val)).length<=6:=by rw[YZ];simp;lia
theorem CW {w:Str}(h:ZU w=true):1<=w.length:=by
 unfold ZU at h;rw[zZ,zZ,zZ,decide_eq_true_eq,decide_eq_true_eq] at h;lia
def Tr.wl:Tr->Nat
 | .nm _=>3
 | .nb _ _=>3
 | .pw t _=>t.wl+4
 | .bi _ l r=>l.wl+r.wl+3
def jn:List (List Nat)->List Nat
 | []=>[]
 | [a]=>a
 | a::b::r=>a++32::jn (b::r)
theorem GR:∀ {X A Y B:List Nat},32 ∉ X->32 ∉ A->X++32::Y=A++32::B->X=A/\Y=B
 | [],[],_,_,_,_,e=>⟨rfl,(List.cons.inj e).2⟩
 | [],a::A,_,_,_,hA,e=>absurd (List.cons.inj e).1 (λz=>hA (by rw[<- z];exact zV ..))
 | x::X,[],_,_,hX,_,e=>absurd (List.cons.inj e).1 (λz=>hX (by rw[z];exact zV ..))
 | x::X,a::A,_,_,hX,hA,e=>by
  obtain⟨e1,e2⟩:=List.cons.inj e;obtain⟨i1,i2⟩:=GR (λz=>hX (zO _ z)) (λz=>hA (zO _ z)) e2;exact⟨by rw[e1,i1],i2⟩
theorem GO:∀(A B:List (List Nat)),A≠[]->B≠[]->(∀a∈A,32 ∉ a)->(∀b∈B,32 ∉ b)->jn A=jn B->A=B
 | [],_,h,_,_,_,_=>absurd rfl h
 | _,[],_,h,_,_,_=>absurd rfl h
 | [a],[b],_,_,_,_,e=>by rw[show a=b from e]
 | [a],b::b'::s,_,_,hA,_,e=>by
  have e':a=b++32::jn (b'::s):=e;exact absurd (by rw[e'];simp) (hA a (zU.mpr rfl))
 | a::a'::r,[b],_,_,_,hB,e=>by
  have e':a++32::jn (a'::r)=b:=e;exact absurd (by rw[<- e'];simp) (hB b (zU.mpr rfl))
 | a::a'::r,b::b'::s,_,_,hA,hB,e=>by
  obtain⟨e1,e2⟩:=GR (hA a (zV ..)) (hB b (zV ..)) (show a++32::jn (a'::r)=b++32::jn (b'::s) from e);rw[e1,GO (a'::r) (b'::s) (by simp) (by simp) (λx hx=>hA x (zO _ hx)) (λx hx=>hB x (zO _ hx)) e2]
theorem Vx:∀ws:List Str,cs (Str.join " " ws)=jn (ws.map cs)
 | []=>rfl
 | [a]=>rfl
 | a::b::r=>by
  show cs (a++" "++Str.join " " (b::r))=cs a++32::jn ((b::r).map cs);rw[WA,WA,Vx (b::r),yG];rfl
theorem Q1 (ws:List Str):Txt.join " " ws=Str.join " " ws:=StrLaws.glued_eq_join " " ws
theorem Lr {x:Str}{ws:List Str}(hx:x=Str.join " " ws)(hn:ws≠[])(h0:x.length≠0)(hb:∀w∈ws,32 ∉ cs w):Txt.split x " "=ws:=by
 have e:Str.join " " (Txt.split x " ")=x:=StrLaws.join_split x " "
 have f:∀p∈Txt.split x " ",32 ∉ cs p:=StrLaws.split_free x 32
 have ne:Txt.split x " "≠[]:=λz=>by
  rw[z] at e;rw[<- e] at h0;exact h0 rfl
 have z:(Txt.split x " ").map cs=ws.map cs:=by
  refine GO _ _ (λy=>ne (wY.mp y)) (λy=>hn (wY.mp y)) (λa ha=>?_) (λa ha=>?_) ?_
  .obtain⟨p,hp,rfl⟩:=yM.mp ha;exact f p hp
  .obtain⟨p,hp,rfl⟩:=yM.mp ha;exact hb p hp
  .rw[<- Vx,<- Vx,e,hx]
 have inj:∀ {A B:List Str},A.map cs=B.map cs->A=B:=by
  intro A
  induction A with
  | nil=>intro B h;cases B with
   | nil=>rfl
   | cons b B=>cases h
  | cons a A ih=>intro B h;cases B with
   | nil=>cases h
   | cons b B=>
    obtain⟨h1,h2⟩:=List.cons.inj h;rw[Wk h1,ih h2]
 exact inj z
theorem Cv (a b:Str)(r:List Str):Str.join " " (a::b::r)=a++" "++Str.join " " (b::r):=rfl
theorem MZ:∀(ws:List Str)(B:Nat),(∀w∈ws,w.length<=B)->(Str.join " " ws).length<=ws.length*(B+1)
 | [],_,_=>zS _
 | [a],B,h=>by
  show a.length<=1*(B+1)
  have:=h a (zU.mpr rfl);lia
 | a::b::r,B,h=>by
  have i:=MZ (b::r) B λw hw=>h w (zO _ hw)
  have j:=h a (zV ..);rw[Cv,Yp,Yp];have e:(a::b::r).length*(B+1)=(b::r).length*(B+1)+(B+1):=by rw[zP,Nat.add_mul,Nat.one_mul]
  rw[e,show (" ":Str).length=1 from rfl];lia
def Tr.lv:Tr->Nat
 | .nm _=>3
 | .nb _ _=>3
 | .pw _ _=>2
 | .bi 0 _ _=>0
 | .bi 1 _ _=>0
 | .bi _ _ _=>1
theorem Fw {n m:Nat}{S:Sto}{Q:DK}{xs ys:List D}{b:Bool}(h1:S[n]?=some (.lst xs))(h2:S[m]?=some (.lst ys))(e:eqL (eqN 1) xs ys=some b)(hq:Q (.bl (!b)) S):Xi (VC 1) (.ref n) (.ref m) S Q:=by
 rw[Xs];unfold VC;simp only[Vd,Yo h1 rfl,Yo h2 rfl,ZC,e];exact hq
theorem pow8 {i:Int}(h:0<=i/\i<8):∃p:Int,2<=p/\p<=6/\atI [D.int 2,.int 3,.int 2,.int 3,.int 4,.int 2,.int 5,.int 6] i=some (.int p):=by
 have c:i=0\/i=1\/i=2\/i=3\/i=4\/i=5\/i=6\/i=7:=by lia
 rcases c with rfl|rfl|rfl|rfl|rfl|rfl|rfl|rfl<;>exact⟨_,⋯,⋯,rfl⟩
theorem cutE {s1 s2 s3 t2:TDS}{E:YS}{dl:Ev}{S:Sto}{α:Type}(G:α->Ev)(T:α->Sto)(P:α->Prop)(h:(∀a,P a->t2 E (G a) (T a))->Yq s1 (Yq s2 (Yq s3 t2)) E dl S)(main:∀a,P a->t2 E (G a) (T a)):Yq s1 (Yq s2 (Yq s3 t2)) E dl S:=h main
def Tr.w1:Tr->Nat
 | .nm _=>1
 | .nb _ _=>1
 | .pw t _=>t.w1+4
 | .bi _ l r=>l.w1+r.w1+3
theorem TL:∀t:Tr,t.w1<=t.wl
 | .nm _=>by show 1<=3;decide
 | .nb _ _=>by show 1<=3;decide
 | .pw t _=>by have:=TL t;show t.w1+4<=t.wl+4;lia
 | .bi _ l r=>by have:=TL l;have:=TL r;show l.w1+r.w1+3<=l.wl+r.wl+3;lia
structure Yg (w:Str):Prop where
 le:w.length<=12
 ne:w.length≠0
 bl:32 ∉ cs w
theorem U3 {w:Str}(h:w∈[("(":Str),")","+","-","*","^","x","yy","2","3","4","5","6"]):Yg w:=by
 have z:∀w∈[("(":Str),")","+","-","*","^","x","yy","2","3","4","5","6"],w.length<=12/\w.length≠0/\32 ∉ cs w:=by decide
 obtain⟨a,b,c⟩:=z w h;exact⟨a,b,c⟩
theorem Kj {t b:Int}(h:(Z3 t b).length<=12):Yg (mk (Z3 t b)):=by
 refine⟨by rw[YZ];exact h,λz=>?_,λz=>?_⟩
 .rw[YZ] at z;have e:=List.eq_nil_of_length_eq_zero z;unfold Z3 at e;exact Jc t (List.append_eq_nil_iff.mp e).1
 .rw[YQ] at z;unfold Z3 at z;rcases zH.1 z with z|z
  .have:=Sa z;lia
  .split at z
   .cases z
   .rcases zB.mp z with z|z
    .lia
    .have:=Sa z;lia
theorem D7 {v:Int}(h:2<=v/\v<=6):Yg (mk (num v)):=by
 have c:v=2\/v=3\/v=4\/v=5\/v=6:=by lia
 rcases c with rfl|rfl|rfl|rfl|rfl<;>exact U3 (by decide +kernel)
structure WsAt (T:Sto)(m:Nat)(ws:List Str):Prop where
 at_:T[m]?=some (.lst (ws.map D.str))
 ok:∀w∈ws,Yg w
def AtT:Tr->Prop
 | .nm w=>ZU (mk w)=true/\Yg (mk w)
 | .nb t b=>Yt (Z3 t b) t b/\(Z3 t b).length<=12
 | _=>False
theorem AtT.name {w:List Nat}(h:AtT (.nm w)):ZU (mk w)=true/\Yg (mk w)/\cs (mk w)=w:=⟨h.1,h.2,YQ w⟩
def Tr.ats:Tr->Prop
 | .nm w=>AtT (.nm w)
 | .nb t b=>AtT (.nb t b)
 | .pw t _=>t.ats
 | .bi _ l r=>l.ats/\r.ats
def AtN (N:List Str)(t:Tr):Prop:=AtT t/\∀w∈t.nms,w∈N
inductive LT (N:List Str):Nat->Tr->Prop
 | atm {t:Tr} {n:Nat}:AtN N t->LT N n t
 | lf {n:Nat} {t s:Tr} {d:Nat}:LT N n t->AtN N s->d<=2->LT N (n+1) (.bi d t s)
 | rg {n:Nat} {t s:Tr} {d:Nat}:LT N n t->AtN N s->d<=2->LT N (n+1) (.bi d s t)
 | pw {n:Nat} {t:Tr} {k:Int}:LT N n t->2<=k->k<=6->LT N (n+1) (.pw t k)
 | sq {n:Nat} {t:Tr}:LT N n t->LT N (n+1) (.bi 2 t t)
theorem LT.up {N:List Str}{n m:Nat}{t:Tr}(h:LT N n t):n<=m->LT N m t:=by
 induction h generalizing m with
 | atm h=>exact λ_=>.atm h
 | lf _ hs hd ih=>intro hm;obtain⟨m',rfl⟩:∃m',m=m'+1:=⟨m-1,()⟩;exact .lf (ih ()) hs hd
 | rg _ hs hd ih=>intro hm;obtain⟨m',rfl⟩:∃m',m=m'+1:=⟨m-1,()⟩;exact .rg (ih ()) hs hd
 | pw _ h2 h6 ih=>intro hm;obtain⟨m',rfl⟩:∃m',m=m'+1:=⟨m-1,()⟩;exact .pw (ih ()) h2 h6
 | sq _ ih=>intro hm;obtain⟨m',rfl⟩:∃m',m=m'+1:=⟨m-1,()⟩;exact .sq (ih ())
theorem LV {N:List Str}{t:Tr}(h:AtN N t):t.good/\t.w1=1/\t.wl=3/\t.dp=0/\t.ats/\∀w∈t.nms,w∈N:=by
 match t,h with
 | .nm w,h=>exact⟨trivial,rfl,rfl,rfl,h.1,h.2⟩
 | .nb t b,h=>exact⟨trivial,rfl,rfl,rfl,h.1,h.2⟩
theorem MT {N:List Str}{n:Nat}{t:Tr}(h:LT N n t):t.good/\t.w1+3<=4*2^n/\t.wl+3<=6*2^n/\t.dp<=n/\t.ats/\∀w∈t.nms,w∈N:=by
 have q1:∀n:Nat,1<=2^n:=λn=>Nat.one_le_two_pow
 have p1:∀n:Nat,2^(n+1)=2*2^n:=λn=>by rw[yS,Nat.mul_comm]
 induction h with
 | @atm t n h=>
  obtain⟨a,b,c,d,e,f⟩:=LV h;have:=q1 n;exact⟨a,(),(),(),e,f⟩
 | @lf n t s d h hs hd ih=>
  obtain⟨a,b,c,e,f,g⟩:=ih;obtain⟨a',b',c',e',f',g'⟩:=LV hs;have p:=p1 n
  have q:=q1 n;refine⟨⟨a,a',hd⟩,?_,?_,?_,⟨f,f'⟩,λw hw=>?_⟩
  .show t.w1+s.w1+3+3<=_;lia
  .show t.wl+s.wl+3+3<=_;lia
  .show max t.dp s.dp+1<=_;lia
  .rcases zH.1 hw with hw|hw
   .exact g w hw
   .exact g' w hw
 | @rg n t s d h hs hd ih=>
  obtain⟨a,b,c,e,f,g⟩:=ih;obtain⟨a',b',c',e',f',g'⟩:=LV hs;have p:=p1 n
  have q:=q1 n;refine⟨⟨a',a,hd⟩,?_,?_,?_,⟨f',f⟩,λw hw=>?_⟩
  .show s.w1+t.w1+3+3<=_;lia
  .show s.wl+t.wl+3+3<=_;lia
  .show max s.dp t.dp+1<=_;lia
  .rcases zH.1 hw with hw|hw
   .exact g' w hw
   .exact g w hw
 | @pw n t k h h2 h6 ih=>
  obtain⟨a,b,c,e,f,g⟩:=ih;have p:=p1 n
  have q:=q1 n;exact⟨⟨a,h2,h6⟩,by show t.w1+4+3<=_;lia,by show t.wl+4+3<=_;lia,by show t.dp+1<=_;lia,f,g⟩
 | @sq n t h ih=>
  obtain⟨a,b,c,e,f,g⟩:=ih;have p:=p1 n;refine⟨⟨a,a,zA _⟩,?_,?_,?_,⟨f,f⟩,λw hw=>?_⟩
  .show t.w1+t.w1+3+3<=_;lia
  .show t.wl+t.wl+3+3<=_;lia
  .show max t.dp t.dp+1<=_;lia
  .rcases zH.1 hw with hw|hw
   .exact g w hw
   .exact g w hw
def stL (l:List Nat)(f:Nat):List (Key×D):=([("names":Str),"ends","rows","nodes","heavy"].zip l).map (λp=>(Sum.inr p.1,D.ref p.2))++[(.inr "seen",.ref f)]
def stV (k:Tk):List (List D):=[k.un.map D.str,k.en,k.rw.map rwT,k.ns.map Nd.d,k.hs.map D.int]
structure StP (S:Sto)(g a b c d e f:Nat)(k:Tk):Prop where
 st:S[g]?=some (.dck (stL [a,b,c,d,e] f))
 na:S[a]?=some (.lst (k.un.map D.str))
 en:S[b]?=some (.lst k.en)
 rw:S[c]?=some (.lst (k.rw.map rwT))
 nd:S[d]?=some (.lst (k.ns.map Nd.d))
 hv:S[e]?=some (.lst (k.hs.map D.int))
 se:S[f]?=some (.dck (mlK k.ml))
 nu:[a,b,c,d,e].Nodup
 gf:g≠f
abbrev owS (g a b c d e f:Nat):List Nat:=[g,a,b,c,d,e,f]
theorem StP.up {S T:Sto}{g a b c d e f:Nat}{k:Tk}(h:StP S g a b c d e f k)(n:Ng [] S T):StP T g a b c d e f k:=⟨n.2 _ _ (by simp) h.st,n.2 _ _ (by simp) h.na,n.2 _ _ (by simp) h.en,n.2 _ _ (by simp) h.rw,n.2 _ _ (by simp) h.nd,n.2 _ _ (by simp) h.hv,n.2 _ _ (by simp) h.se,h.nu,h.gf⟩
theorem StP.keep {S T:Sto}{g a b c d e f:Nat}{ow:List Nat}{k:Tk}(h:StP S g a b c d e f k)(n:Ng ow S T)(no:∀x∈owS g a b c d e f,x ∉ ow):StP T g a b c d e f k:=⟨n.2 _ _ (no _ (by simp)) h.st,n.2 _ _ (no _ (by simp)) h.na,n.2 _ _ (no _ (by simp)) h.en,n.2 _ _ (no _ (by simp)) h.rw,n.2 _ _ (no _ (by simp)) h.nd,n.2 _ _ (no _ (by simp)) h.hv,n.2 _ _ (no _ (by simp)) h.se,h.nu,h.gf⟩
theorem StP.lt {S:Sto}{g a b c d e f:Nat}{k:Tk}(h:StP S g a b c d e f k):∀x∈owS g a b c d e f,x<S.length:=λx hx=>by
 simp only[zB,zG,or_false] at hx;rcases hx with rfl|rfl|rfl|rfl|rfl|rfl|rfl
 .exact ZL h.st
 .exact ZL h.na
 .exact ZL h.en
 .exact ZL h.rw
 .exact ZL h.nd
 .exact ZL h.hv
 .exact ZL h.se
structure ApS (g a b c d e f:Nat):Prop where
 ga:g≠a
 gb:g≠b
 gc:g≠c
 gd:g≠d
 ge:g≠e
 gf:g≠f
 fa:f≠a
 fb:f≠b
 fc:f≠c
 fd:f≠d
 fe:f≠e
 ab:a≠b
 ac:a≠c
 ad:a≠d
 ae:a≠e
 bc:b≠c
 bd:b≠d
 be:b≠e
 cd:c≠d
 ce:c≠e
 de:d≠e
theorem StP.ap {S:Sto}{g a b c d e f:Nat}{k:Tk}(h:StP S g a b c d e f k):ApS g a b c d e f:=by
 have nd:=h.nu;simp only[yJ,zB,zG,or_false,not_or,yQ,and_true,not_false_eq_true] at nd;obtain⟨⟨d1,d2,d3,d4⟩,⟨d5,d6,d7⟩,⟨d8,d9⟩,d10⟩:=nd;have z:∀ {x y:Nat} {kv:List (Key×D)} {l:List D},S[x]?=some (.dck kv)->S[y]?=some (.lst l)->x≠y:=λp q=>Ys p q (by intro z;cases z)
 exact⟨z h.st h.na,z h.st h.en,z h.st h.rw,z h.st h.nd,z h.st h.hv,h.gf,z h.se h.na,z h.se h.en,z h.se h.rw,z h.se h.nd,z h.se h.hv,d1,d2,d3,d4,d5,d6,d7,d8,d9,d10⟩
theorem Up (l:List Nat)(f:Nat)(a b c d e:Nat)(h:l=[a,b,c,d,e]):Yl (stL l f) (.inr "names")=some (.ref a)/\Yl (stL l f) (.inr "ends")=some (.ref b)/\Yl (stL l f) (.inr "rows")=some (.ref c)/\Yl (stL l f) (.inr "nodes")=some (.ref d)/\Yl (stL l f) (.inr "heavy")=some (.ref e)/\Yl (stL l f) (.inr "seen")=some (.ref f):=by
 subst h;exact⟨rfl,rfl,rfl,rfl,rfl,rfl⟩
theorem StP.node {S:Sto}{g a b c d e f:Nat}{k:Tk}(h:StP S g a b c d e f k)(v:Nd)(w:Int):StP ((S.set d (.lst (k.ns.map Nd.d++[v.d]))).set e (.lst (k.hs.map D.int++[.int w]))) g a b c d e f { k with ns:=k.ns++[v],hs:=k.hs++[w] }/\Ng [d,e] S ((S.set d (.lst (k.ns.map Nd.d++[v.d]))).set e (.lst (k.hs.map D.int++[.int w]))):=by
 have p:=h.ap;refine⟨⟨?_,?_,?_,?_,?_,?_,?_,h.nu,h.gf⟩,?_⟩
 .exact Zk (Zk h.st p.gd) p.ge
 .exact Zk (Zk h.na p.ad) p.ae
 .exact Zk (Zk h.en p.bd) p.be
 .exact Zk (Zk h.rw p.cd) p.ce
 .show _=some (Ob.lst ((k.ns++[v]).map Nd.d));rw[zN];exact Zk (Ym h.nd) p.de
 .show _=some (Ob.lst ((k.hs++[w]).map D.int));rw[zN];exact Ym (Zk h.hv (Ne.symm p.de))
 .exact Zk (Zk h.se p.fd) p.fe
 .exact(Ng.set (by simp) _).same (Ng.set (by simp) _)
structure UnkX (k:Tk)(ws:List Str)(o:Option Tk):Prop where
 ex:∃(w0 lo hi:Str)(t1 b1 t2 b2:Int),ws=[w0,"in",lo,hi]/\ZU w0=true/\lo.length<=900/\hi.length<=900/\Yt (cs lo) t1 b1/\Yt (cs hi) t2 b2/\¬ (t2*b1<t1*b2)/\k.ml.lookup w0=none/\k.ml.length<900/\k.un.length<4/\k.en.length<900/\o=(YI (k.ns,k.hs) (.unknown (k.un.length:Int))).map λp=>{ k with ns:=p.1.1,hs:=p.1.2,ml:=k.ml++[(w0,p.2)],un:=k.un++[w0],en:=k.en++[enD t1 b1 t2 b2] }
structure ParX (k:Tk)(ws:List Str)(o:Option Tk):Prop where
 ex:∃(nm:Str)(es:List Str)(t:Tr),ws=("let":Str)::nm::("=":Str)::es/\ZU nm=true/\trS es=some t/\k.ml.lookup nm=none/\k.ml.length<900/\VS k es/\o=(ZR k.ms t (k.ns,k.hs)).map λp=>{ k with ns:=p.1.1,hs:=p.1.2,ml:=k.ml++[(nm,p.2)] }
structure RowX (k:Tk)(ws:List Str)(o:Option Tk):Prop where
 ex:∃(L R:List Str)(sg:Str)(t s:Tr),ws=L++sg::R/\(∀w∈L,w≠"="/\w≠">=")/\(sg="="\/sg=">=")/\trS L=some t/\trS R=some s/\VS k ws/\k.rw.length<12/\o=(ZR k.ms (.bi 1 t s) (k.ns,k.hs)).map λp=>{ k with ns:=p.1.1,hs:=p.1.2,rw:=k.rw++[(sgS sg,p.2)] }
inductive R6 (k:Tk)(ws:List Str)(o:Option Tk):Str->Prop
 | unk:UnkX k ws o->R6 k ws o "unknown"
 | par:ParX k ws o->R6 k ws o "part"
 | row:RowX k ws o->R6 k ws o "row"
def Uv (o:Option Tk)(S:Sto)(ow:List Nat)(n:Nat)(CT CN:Addr)(Q:Sto->Prop)(ex:Sto->Prop):Prop:=match o with
 | some k'=>∀(T:Sto)(ow':List Nat),Ng ow S T->Fr ow ow' S.length->Yi CT CN T n ow' k'->Q T
 | none=>∀T:Sto,Ng [] S T->ex T
theorem Uv.up {o:Option Tk}{S S3:Sto}{ow:List Nat}{n:Nat}{CT CN:Addr}{Q ex:Sto->Prop}(h:Uv o S ow n CT CN Q ex)(g:Ng [] S S3):Uv o S3 ow n CT CN Q ex:=by
 cases o with
 | none=>exact λT gT=>h T (g.same gT)
 | some k'=>exact λT ow' gT f t=>h T ow' ((g.nil).same gT) (f.le g.1) t
theorem Io:∀(A B:List (List Nat)),A≠[]->B≠[]->jn (A++B)=jn A++32::jn B
 | [],_,h,_=>absurd rfl h
 | [a],[],_,h=>absurd rfl h
 | [a],b::r,_,_=>rfl
 | a::a'::r,B,_,hB=>by
  have i:=Io (a'::r) B (by simp) hB
  show a++32::jn (a'::r++B)=(a++32::jn (a'::r))++32::jn B;rw[i];simp
theorem zdp {L R:List Str}{sg s2:Str}(h2:cs s2=32::cs sg++[32])(hs:Yg sg)(hL:L≠[])(hR:R≠[])(okL:∀w∈L,Yg w)(okR:∀w∈R,Yg w)(lL:L.length<=29)(lR:R.length<=29):
  Txt.split (Txt.join " " L++s2++Txt.join " " R) " "=L++sg::R/\(Txt.join " " L++s2++Txt.join " " R).length<=1000/\("":Str) ∉ L++sg::R/\(Txt.join " " L++s2).length<=600/\(Txt.join " " R).length<=390:=by
 have all:∀w∈L++sg::R,Yg w:=λw hw=>by
  rcases zH.1 hw with hw|hw
  .exact okL w hw
  .rcases zB.mp hw with rfl|hw
   .exact hs
   .exact okR w hw
 have e:Txt.join " " L++s2++Txt.join " " R=Str.join " " (L++sg::R):=by
  refine Wk ?_;rw[Q1,Q1,WA,WA,h2,Vx,Vx,Vx,zN,zL,Io _ _ (by simpa using hL) (by simp)];cases R with
  | nil=>exact absurd rfl hR
  | cons w r=>simp[jn]
 have lj:∀ {M:List Str},M.length<=29->(∀w∈M,Yg w)->(Txt.join " " M).length<=377:=λ{M} l ok=>by
  rw[Q1];have:=MZ M 12 λw hw=>(ok w hw).le
  have:M.length*(12+1)<=29*13:=vA l (zA _);lia
 have l2:s2.length<=14:=by
  have:=congrArg List.length h2;rw[<- Vl] at this;have:=hs.le;rw[Vl] at this;simp at *
  lia
 have a1:=lj lL okL
 have a2:=lj lR okR
 have ll:(Txt.join " " L++s2).length<=600:=by rw[Yp];lia
 have l1:(Txt.join " " L++s2++Txt.join " " R).length<=1000:=by rw[Yp];lia
 have l0:(Txt.join " " L++s2++Txt.join " " R).length≠0:=by
  rw[Yp,Yp];have:=congrArg List.length h2;rw[<- Vl] at this;simp at this;lia
 exact⟨Lr e (by simp) l0 λw hw=>(all w hw).bl,l1,λz=>(all _ z).ne rfl,ll,()⟩
theorem Cf {nm lo hi:Str}(hn:Yg nm)(hl:Yg lo)(hh:Yg hi):Txt.split (nm++(" in ":Str)++lo++(" ":Str)++hi) " "=[nm,"in",lo,hi]/\(nm++(" in ":Str)++lo++(" ":Str)++hi).length<=1000/\("":Str) ∉ [nm,("in":Str),lo,hi]:=by
 have all:∀w∈[nm,("in":Str),lo,hi],Yg w:=λw hw=>by
  simp only[zB,zG,or_false] at hw;rcases hw with rfl|rfl|rfl|rfl
  .exact hn
  .exact⟨⋯,⋯,⋯⟩
  .exact hl
  .exact hh
 have e:nm++(" in ":Str)++lo++(" ":Str)++hi=Str.join " " [nm,"in",lo,hi]:=by
  refine Wk ?_;rw[Vx,WA,WA,WA,WA];show cs nm++cs (" in ":Str)++cs lo++cs (" ":Str)++cs hi=cs nm++32::(cs "in"++32::(cs lo++32::cs hi));rw[show cs (" in ":Str)=[32,105,110,32] by decide,show cs (" ":Str)=[32] by decide,show cs ("in":Str)=[105,110] by decide];simp
 have l1:(nm++(" in ":Str)++lo++(" ":Str)++hi).length<=1000:=by
  rw[Yp,Yp,Yp,Yp];have:=hn.le
  have:=hl.le
  have:=hh.le
  show nm.length+4+lo.length+1+hi.length<=1000;lia
 have l0:(nm++(" in ":Str)++lo++(" ":Str)++hi).length≠0:=by
  rw[Yp,Yp,Yp,Yp];show nm.length+4+lo.length+1+hi.length≠0;lia
 exact⟨Lr e (by simp) l0 λw hw=>(all w hw).bl,l1,λz=>(all _ z).ne rfl⟩
def deA (l:List Nat)(sh:Nat):Nat:=(l.getD (min (sh/7%7) (sh%7)) 0-97)*7+(l.getD (min (sh/7%7) (sh%7)+1) 0-97)
theorem Jz:∀(k:Fin 24)(sh:Fin 49),ZU (nmA (k.val:Int) (sh.val:Int))=true/\deA (cs (nmA (k.val:Int) (sh.val:Int))) sh.val=k.val/\32 ∉ cs (nmA (k.val:Int) (sh.val:Int)):=by decide +kernel
theorem zaf {k sh:Nat}(hk:k<24)(hs:sh<49):ZU (nmA (k:Int) (sh:Int))=true/\Yg (nmA (k:Int) (sh:Int)):=by
 obtain⟨a,_,c⟩:=Jz ⟨k,hk⟩ ⟨sh,hs⟩;have a':ZU (nmA (k:Int) (sh:Int))=true:=a;refine⟨a,zW (Ks a') ⋯,λz=>?_,c⟩;have e:=CW a';rw[z] at e;exact absurd e ⋯
theorem zd5 {k j sh:Nat}(hk:k<24)(hj:j<24)(hs:sh<49)(h:nmA (k:Int) (sh:Int)=nmA (j:Int) (sh:Int)):k=j:=by
 have a:=(Jz ⟨k,hk⟩ ⟨sh,hs⟩).2.1
 have b:=(Jz ⟨j,hj⟩ ⟨sh,hs⟩).2.1
 have e:deA (cs (nmA (k:Int) (sh:Int))) sh=k:=a
 have e':deA (cs (nmA (j:Int) (sh:Int))) sh=j:=b;rw[h,e'] at e;exact e.symm
theorem zc5 {l k:Nat}{c:List Str}{t:Tr}(h:exP l k c t):∀w∈c,ZU w=true->w∈t.nms:=by
 have g:∀ {l k:Nat} {c:List Str} {t:Tr},Ex kS avS pvS l k c t->∀w∈c,ZU w=true->w∈t.nms:=by
  intro l k c t h;have ka:∀ {w:Str},ZU w=true->kS w=.at:=λhn=>Vj _ _ (QB hn)
  induction h with
  | @atom w t hw ha=>
   intro x hx hn;rw[zU.mp hx] at hn ⊢;rw[QB hn] at ha;cases ha;show w∈[mk (cs w)];rw[Ur];exact zU.mpr rfl
  | @shut a b l k c t ha hb _ ih=>
   intro x hx hn;simp only[xF,zB,zH,zG,or_false] at hx;rcases hx with rfl|hx|rfl
   .rw[ka hn] at ha;cases ha
   .exact ih x hx hn
   .rw[ka hn] at hb;cases hb
  | @pow a p k c t n ha hp hn' _ ih=>
   intro x hx hn;simp only[zH,zB,zG,or_false] at hx;rcases hx with hx|rfl|rfl
   .exact ih x hx hn
   .rw[ka hn] at ha;cases ha
   .exfalso;unfold pvS at hn'
    (repeat' split at hn')<;>first|(rename_i e;rw[e] at hn;revert hn;decide)|cases hn'
  | @tim a l m k j c d t s ha _ _ _ _ i1 i2=>
   intro x hx hn;simp only[zH,zB] at hx;rcases hx with hx|rfl|hx
   .exact yH _ (i1 x hx hn)
   .rw[ka hn] at ha;cases ha
   .exact zX _ (i2 x hx hn)
  | @sum a l m k j n c d t s ha _ _ _ i1 i2=>
   intro x hx hn;simp only[zH,zB] at hx;rcases hx with hx|rfl|hx
   .exact yH _ (i1 x hx hn)
   .rw[ka hn] at ha;cases ha
   .exact zX _ (i2 x hx hn)
 exact g h
theorem BS {pre nm:Str}{ws:List Str}(hp:cs pre=[108,101,116,32]++cs nm++[32,61,32])(hw:ws≠[])(hm:Yg nm)(ok:∀w∈ws,Yg w)(l:ws.length<=60):Txt.split (pre++Txt.join " " ws) " "=("let":Str)::nm::("=":Str)::ws/\(pre++Txt.join " " ws).length<=1000/\("":Str) ∉ ("let":Str)::nm::("=":Str)::ws/\(Txt.join " " ws).length<=800/\pre.length<=30:=by
 have all:∀w∈("let":Str)::nm::("=":Str)::ws,Yg w:=λw hw=>by
  rcases zB.mp hw with rfl|hw
  .exact⟨⋯,⋯,⋯⟩
  rcases zB.mp hw with rfl|hw
  .exact hm
  rcases zB.mp hw with rfl|hw
  .exact⟨⋯,⋯,⋯⟩
  .exact ok w hw
 have e:pre++Txt.join " " ws=Str.join " " (("let":Str)::nm::("=":Str)::ws):=by
  refine Wk ?_;rw[Q1,WA,hp,Vx,Vx];cases ws with
  | nil=>exact absurd rfl hw
  | cons w r=>
   show [108,101,116,32]++cs nm++[32,61,32]++jn ((w::r).map cs)=cs "let"++32::(cs nm++32::(cs "="++32::jn ((w::r).map cs)));rw[show cs ("let":Str)=[108,101,116] by decide,show cs ("=":Str)=[61] by decide];simp
 have lp:pre.length<=30:=by
  have:=congrArg List.length hp;rw[<- Vl] at this;have:=hm.le;rw[Vl] at this;simp at *
  lia
 have lj:(Txt.join " " ws).length<=800:=by
  rw[Q1];have:=MZ ws 12 λw hw=>(ok w hw).le
  have:ws.length*(12+1)<=60*13:=vA l (zA _);lia
 have ll:(pre++Txt.join " " ws).length<=1000:=by rw[Yp];lia
 have l0:(pre++Txt.join " " ws).length≠0:=by
  rw[Yp];have:=congrArg List.length hp;rw[<- Vl] at this;simp at this;lia
 exact⟨Lr e (by simp) l0 λw hw=>(all w hw).bl,ll,λz=>(all _ z).ne rfl,lj,lp⟩
theorem Ia {S:Sto}{ow ow':List Nat}{p:Nat}{o:Ob}(hp:S[p]?=some o)(n:p ∉ ow)(f:Fr ow ow' S.length):p ∉ ow':=λz=>by
 have:=ZL hp;rcases f p z with y|y
 .exact n y
 .lia
theorem zbP {n:Nat}{S:Sto}{Q:DK}{xs:List D}(h:S[n]?=some (.frz xs))(hq:Q (.int (xs.length:Nat)) S):irr UX [.ref n] S Q:=by
 rw[Us];unfold UX;simp only[Yo h rfl,ZC];exact hq
theorem Ey:∀ws:List Str,Wh (ws.map D.str)=some ws
 | []=>rfl
 | w::ws=>by
  show (Wh (ws.map D.str)).map (w::·)=_;rw[Ey ws];rfl
theorem zcH {to:TDE}{t:TDA}{dl:Ev}{S:Sto}{Q:DK}(h:to dl S λd S1=>match d with
 | .str sep=>t dl S1 λds S2=>match ds with
  | [.ref n]=>match lAt S2 n with
   | some o=>∃zs,Wh (ZC o)=some zs/\sep.length<=16/\(∀z∈zs,z.length<=1000)/\zs.length<=1000/\Q (.str (Txt.join sep zs)) S2
   | none=>False
  | _=>False
 | _=>False):OS to t dl S Q:=by
 unfold OS;exact h
theorem Iq:∀ {ml:List (Str×Nat)} {w:Str},w ∉ ml.map (·.1)->ml.lookup w=none
 | [],_,_=>rfl
 | (k,v)::ml,w,h=>by
  rw[zL,zB,not_or] at h;rw[zJ,show (w==k)=false by simpa using h.1];exact Iq h.2
theorem Tz {a b d:TDS}{E:YS}{dl:Ev}{S:Sto}(W:Ev->Sto->Prop)(ha:∀nx:Ev->Sto->Prop,(∀dl' S',W dl' S'->nx dl' S')->Yq a b { nx:=nx,rt:=E.rt,bk:=E.bk,ct:=E.ct } dl S)(hb:∀dl' S',W dl' S'->d E dl' S'):Yq a (Yq b d) E dl S:=ha _ hb
theorem WB {S:Sto}{Q:DK}{xs:List D}(hq:Q (.int (xs.length:Nat)) S):irr UX [.tup xs] S Q:=by
 rw[Us];exact hq
theorem V7 {caps:List Nat}{ta:TDA}{te:TDE}{dl:Ev}{S S1:Sto}{Q:DK}{j:Int}(W:Nat->List D->Sto->Prop)(hta:∀K:List D->Sto->Prop,K [.int j] S1->ta dl S K)(hj:0<=j/\j<=1000)(hw:∀k ys S2,W k ys S2->S2[S1.length]?=some (.lst ys)/\ys.length=k)(h0:W 0 [] (S1++[.lst []]))
  (ht:∀(k:Nat)(ys:List D)(S2:Sto)(K:DK),k<j.toNat->W k ys S2->(∀y S3,S3[S1.length]?=some (.lst ys)->W (k+1) (ys++[y]) (S3.set S1.length (.lst (ys++[y])))->K y S3)->te (some (.int (k:Int))::Wz caps dl) S2 K)
  (hq:∀ys S2,W j.toNat ys S2->Q (.ref S1.length) S2):QE caps ta RQ te dl S Q:=by
 unfold QE;refine hta _ ⟨⟨(),()⟩,λk S2=>k<=j.toNat/\∃ys,W k ys S2,⟨zS _,_,h0⟩,?_⟩;rintro k S2 ⟨hk,ys,w⟩;obtain⟨w2,w3⟩:=hw _ _ _ w;split
 .rename_i c;unfold Ro RQ;simp only[if_true];refine ht k ys S2 _ c w λy S3 e3 w4=>?_
  rw[e3];exact⟨(),(),_,w4⟩
 .rename_i c;have hk:k=j.toNat:=by lia
  exact hq ys S2 (hk ▸ w)
section
variable {X:Cx}{Z:Zx}{pos:Pos}
def Alk (S:Sto):Nat->D->D->Prop
 | 0,d,e=>eqF d e=some true
 | n+1,d,e=>Alk S n d e\/(∃xs ys,d=.tup xs/\e=.tup ys/\xs.length=ys.length/\∀(k:Nat)(x y:D),xs[k]?=some x->ys[k]?=some y->Alk S n x y)\/
  ∃a b xs ys,d=.ref a/\e=.ref b/\S[a]?=some (.lst xs)/\S[b]?=some (.lst ys)/\xs.length=ys.length/\∀(k:Nat)(x y:D),xs[k]?=some x->ys[k]?=some y->Alk S n x y
theorem G1 (n:Nat):(List.range n).all (λ_=>true)=true:=by simp
theorem Ga {n:Nat}{A:Around}{aA:LA}{σ:L3.St}{H:Hp}{s:Shared}{r:List Addr}{S:Sto}(I:Inv X aA σ H s)(aS:Rel X.K Z r S H){a b:Nat}{xs ys:List D}{p p':Addr}(hp:r[a]?=some p)(hp':r[b]?=some p')(s1:S[a]?=some (.lst xs))(s2:S[b]?=some (.lst ys))(l:xs.length=ys.length)(hu:A.units<cLine)
  (f:∀ {d e:D} {v1 v2:V} {u1 u2:Value},Alk S n d e->Rp r H d v1->Rp r H e v2->Zm v1 u1->Zm v2 u2->SeqAt.EqAt A.in1 s u1 u2 true)(al:∀(k:Nat)(x y:D),xs[k]?=some x->ys[k]?=some y->Alk S n x y):SeqAt.RcAt A s (.ref p) (.ref p') true:=by
 obtain⟨z,hz,ob⟩:=aS.at s1;rw[hp] at hz;cases hz
 obtain⟨z,hz,ob'⟩:=aS.at s2;rw[hp'] at hz;cases hz
 obtain⟨vs,sq,pr⟩:=ob.list rfl;obtain⟨ws,sq',pr'⟩:=ob'.list rfl;obtain⟨is,ri,pl,_⟩:=I.list sq;obtain⟨js,rj,pl',_⟩:=I.list sq';have g1:=JC (P:=λS=>Alk S n) (S:=S) f pr pr' ri rj al
 have hs:is.toArray.size=js.toArray.size:=by
  have a1:=ri.length
  have a2:=rj.length
  have a3:=pr.1
  have a4:=pr'.1;simp only[zM];show is.length=js.length
  have a3:xs.length=vs.length:=a3
  have a4:ys.length=ws.length:=a4;lia
 have q:=SeqAt.RcAt.lists (A:=A) (e:=λ_=>true) pl.isList pl'.isList hs hu g1;rw[G1] at q;exact q
theorem Pd:∀(n:Nat) {A:Around} {aA:LA} {σ:L3.St} {H:Hp} {s:Shared} {r:List Addr} {S:Sto} {d e:D} {v1 v2:V} {u1 u2:Value},Inv X aA σ H s->Rel X.K Z r S H->Alk S n d e->Rp r H d v1->Rp r H e v2->Zm v1 u1->Zm v2 u2->A.units+n<cLine->SeqAt.EqAt A s u1 u2 true
 | 0,A,aA,σ,H,s,r,S,d,e,v1,v2,u1,u2,I,aS,h,pd,pe,ru1,ru2,hu=>Mu 0 X aA σ H s r A d e v1 v2 u1 u2 true I hu pd pe ru1 ru2 h
 | n+1,A,aA,σ,H,s,r,S,d,e,v1,v2,u1,u2,I,aS,h,pd,pe,ru1,ru2,hu=>by
  rcases h with h|⟨xs,ys,rfl,rfl,l,al⟩|⟨a,b,xs,ys,rfl,rfl,s1,s2,l,al⟩
  .exact Pd n I aS h pd pe ru1 ru2 ()
  .cases pd with
   | @tup _ vs a h1 l1 f1=>
    cases pe with
    | @tup _ ws b h2 l2 f2=>
     cases ru1;cases ru2;by_cases hne:a=b
     .subst hne;exact SeqAt.EqAt.same _
     .obtain⟨is,ri,pl,_⟩:=I.tuple (SqT.of h1);obtain⟨js,rj,pl',_⟩:=I.tuple (SqT.of h2);have g1:=JC (P:=λS=>Alk S n) (S:=S) (A:=A.in1) (λh p q r1 r2=>Pd n I aS h p q r1 r2 (by show A.units+1+n<_;lia)) ⟨l1,f1⟩ ⟨l2,f2⟩ ri rj al
      have q:=SeqAt.RcAt.tuples (A:=A) (e:=λ_=>true) pl pl' () g1
      have hs:(is.toArray.size==js.toArray.size)=true:=by
       have a1:=ri.length
       have a2:=rj.length;simp only[zM,beq_iff_eq];show is.length=js.length;lia
      rw[G1,hs] at q;exact SeqAt.EqAt.of_refs hne q
  .cases pd with
   | @ref _ p hp=>
    cases pe with
    | @ref _ p' hp'=>
     cases ru1;cases ru2;by_cases hne:p=p'
     .subst hne;exact SeqAt.EqAt.same _
     .exact SeqAt.EqAt.of_refs hne (Ga I aS hp hp' s1 s2 l () (λh p q r1 r2=>Pd n I aS h p q r1 r2 (by show A.units+1+n<_;lia)) al)
def wEqK:W2:=λx y S Q=>match x,y with
 | .ref a,.ref b=>(∃xs ys,S[a]?=some (.lst xs)/\S[b]?=some (.lst ys)/\xs.length=ys.length/\∀(k:Nat)(x y:D),xs[k]?=some x->ys[k]?=some y->Alk S 5 x y)/\Q (.bl true) S
 | _,_=>False
theorem Bh {j:Nat}(hr:ZG j X.A):OpR X (compareOp .Eq) (upO X.K Z wEqK):=by
 have hu:=hr.un;intro aA s σ H x y v u Qv I rx ry h;obtain⟨r,S,dx,dy,Q,aS,px,py,q,ret⟩:=h;cases px with
 | @ref n a hn=>
  cases py with
  | @ref m a' hm=>
   cases rx;cases ry;obtain⟨⟨xs,ys,s1,s2,l,al⟩,q⟩:=(show (∃xs ys,_)/\_ from q);exact Ga I aS hn hm s1 s2 l () (λh p q r1 r2=>Pd 5 I aS h p q r1 r2 (by show X.A.units+1+5<_;lia)) al X.prog X.w X.xe _ ⟨.bl true,H,I,rfl,ret _ _ _ _ _ Ext.refl aS (.bl true) q⟩
  | _=>exact(show False from q).elim
 | _=>exact(show False from q).elim
end
section
variable {X:Cx}{Z:Zx}{pos:Pos}
@[irreducible] def WZ (T:String)(te:TDE):TDE:=λdl S Q=>te dl S λd S1=>match d with
 | .ref n=>match S1[n]? with
  | some (.lst _)=>Q (.bl (Xm "list" T)) S1
  | _=>False
 | .exc _=>False
 | .non=>Q (.bl (Xm "NoneType" T)) S1
 | .bl _=>Q (.bl (Xm "bool" T)) S1
 | .int _=>Q (.bl (Xm "int" T)) S1
 | .str _=>Q (.bl (Xm "str" T)) S1
 | .tup _=>Q (.bl (Xm "tuple" T)) S1
theorem ZZ (K:Fg)(T:String)(hT:T∈["list","tuple","int","str"]):∀t∈["NoneType","bool","int","str","tuple","list"],W.kitOne K (.type t) (.type T)=some (Xm t T):=by
 simp only[zB,zG,or_false] at hT;intro t ht;simp only[zB,zG,or_false] at ht;rcases hT with rfl|rfl|rfl|rfl<;>rcases ht with rfl|rfl|rfl|rfl|rfl|rfl<;>kernel_rfl
theorem Z2 {T:String}{e:Expr}{te:TDE}{y:Str}{p p2:Pos}(KT:∀t∈["NoneType","bool","int","str","tuple","list"],W.kitOne X.K (.type t) (.type T)=some (Xm t T))(hg:Gl X "isinstance")(hm:X.mg "isinstance"=none)(hg2:Gl X y)(hm2:X.mg y=none)(hv2:bootBuiltins y=some (.type T))(ha:PD X Z e te)
  (hv:bootBuiltins "isinstance"=some (.builtin "isinstance"):=by exact PyProof.Rows.Boot.«isinstance»)
  (hn2:y≠"__name__":=by decide)(hd2:(y==("__debug__":Str))=false:=by decide)(he2:starEach [e,.Name y p2] X.env=(false,eval e X.env)::starEach [.Name y p2] X.env:=by rfl)
  (he3:starEach [.Name y p2] X.env=(false,eval (.Name y p2) X.env)::starEach [] X.env:=by rfl)(hpl:(backTo pos (starEach [.Name y p2] X.env)).any (·.1)=false:=by rfl):
  PD X Z (.Call (.Name "isinstance" p) [e,.Name y p2] [] pos) (WZ T te):=
 ZO (PV Fc hg hm hv (Vf ha (Vf (F1 (v:=.ty T) hg2 hm2 hv2 rfl hn2 hd2) UB he3) he2) ⋯ ⋯ he2 hpl) λσ H Qv ⟨r,dl,S,Q,rs,aS,h,ret⟩=>by
  unfold WZ at h;refine⟨r,dl,S,_,rs,aS,h,λv H1 r1 d S1 e1 aB p1 h1=>?_⟩;cases p1 with
  | non=>exact⟨_,T,_,_,rfl,.non,KT _ (by simp),ret _ _ _ _ _ e1 aB (.bl _) h1⟩
  | bl b=>exact⟨_,T,_,_,rfl,.bl b,KT _ (by simp),ret _ _ _ _ _ e1 aB (.bl _) h1⟩
  | int b=>exact⟨_,T,_,_,rfl,.int b,KT _ (by simp),ret _ _ _ _ _ e1 aB (.bl _) h1⟩
  | str b=>exact⟨_,T,_,_,rfl,.str b,KT _ (by simp),ret _ _ _ _ _ e1 aB (.bl _) h1⟩
  | tup e2 _ _=>exact⟨_,T,_,_,rfl,.tup e2,KT _ (by simp),ret _ _ _ _ _ e1 aB (.bl _) h1⟩
  | exc _=>exact(show False from h1).elim
  | @ref n a hr=>
   dsimp only at h1;split at h1
   .rename_i xs eS;obtain⟨ys,eH,_⟩:=aB.b.ob n a _ hr eS;exact⟨_,T,_,_,rfl,.lst eH,KT _ (by simp),ret _ _ _ _ _ e1 aB (.bl _) h1⟩
   .exact h1.elim
theorem Xb {T:String}{te:TDE}{dl:Ev}{S S1:Sto}{Q:DK}{n:Nat}{xs:List D}(ht:∀K:DK,K (.ref n) S1->te dl S K)(h:S1[n]?=some (.lst xs))(hq:Q (.bl (Xm "list" T)) S1):WZ T te dl S Q:=by
 unfold WZ;refine ht _ ?_;simp only[h];exact hq
theorem YU {T:String}{te:TDE}{dl:Ev}{S S1:Sto}{Q:DK}{xs:List D}(ht:∀K:DK,K (.tup xs) S1->te dl S K)(hq:Q (.bl (Xm "tuple" T)) S1):WZ T te dl S Q:=by
 unfold WZ;exact ht _ hq
theorem XC {T:String}{te:TDE}{dl:Ev}{S S1:Sto}{Q:DK}{i:Int}(ht:∀K:DK,K (.int i) S1->te dl S K)(hq:Q (.bl (Xm "int" T)) S1):WZ T te dl S Q:=by
 unfold WZ;exact ht _ hq
theorem Xe {T:String}{te:TDE}{dl:Ev}{S S1:Sto}{Q:DK}{w:Str}(ht:∀K:DK,K (.str w) S1->te dl S K)(hq:Q (.bl (Xm "str" T)) S1):WZ T te dl S Q:=by
 unfold WZ;exact ht _ hq
end
section
variable {s:Shared}{E:Value->Shared->Prop}{A:Around}{M:Model}
end
structure CompScC (sc around:Scope)(x:Str)(caps:List Str):Prop where
 kind:sc.kind=.function
 one:sc.names.filter (λy=>y.2==NameKind.cell)=[(x,NameKind.cell)]
 own:∀y∈sc.names,y.2=.local->sc.names.lookup y.1=some .local
 loc:sc.names.lookup x=some .cell
 cap:∀y∈caps,sc.names.lookup y=some .free
 out:∀y∈sc.names,y.2=.free->around.names.lookup y.1=some .cell
section
variable {X:Cx}{aA:LA}{σ:L2.St}{H:Hp}{s:Shared}
end
section
variable {X:Cx}{aP aO:Expr}{x:Str}{px pos:Pos}{ifs:List Expr}{sc:Scope}{N:List Str}{caps:List Nat}{wi:TI}{tc:TT}{te:TE}
end
section
variable {X:Cx}{Z:Zx}{aP aO:Expr}{x:Str}{px pos:Pos}{ifs:List Expr}{sc ar:Scope}{N:List Str}{caps:List Nat}
end
theorem Vq {S T:Sto}{n:Nat}{o:Ob}(h:Pre S T)(hn:S.length<=n):Pre S (T.set n o):=λk u e=>by
 have:=ZL e;exact SQ (h k u e) ()
theorem Gz {to te:TDE}{dl:Ev}{S S1 S2:Sto}{Q:DK}{n:Nat}{xs ys:List D}{y:D}(hto:∀K:DK,K (.ref n) S1->to dl S K)(h0:S1[n]?=some (.lst ys))(hte:∀K:DK,K y S2->te dl S1 K)(h:S2[n]?=some (.lst xs))(hl:xs.length<1000)(hq:Q .non (S2.set n (.lst (xs++[y])))):UW to te dl S Q:=by
 unfold UW;refine hto _ ?_;simp only[h0];refine hte _ ?_;simp only[h];exact ifP hl hq
inductive TT where
 | i (n:Int)
 | s (w:Str)
 | t (xs:List TT)
 | l (xs:List TT)
inductive Den (S:Sto)(lo:Nat):Nat->TT->D->Prop
 | i {n:Nat} (k:Int):Den S lo n (.i k) (.int k)
 | s {n:Nat} (w:Str):Den S lo n (.s w) (.str w)
 | t {n:Nat} {xs:List TT} {ds:List D}:xs.length<=900->xs.length=ds.length->(∀(k:Nat)(x:TT)(y:D),xs[k]?=some x->ds[k]?=some y->Den S lo n x y)->Den S lo (n+1) (.t xs) (.tup ds)
 | l {n a:Nat} {xs:List TT} {ds:List D}:S[a]?=some (.lst ds)->lo<=a->xs.length<=900->xs.length=ds.length->(∀(k:Nat)(x:TT)(y:D),xs[k]?=some x->ds[k]?=some y->Den S lo n x y)->Den S lo (n+1) (.l xs) (.ref a)
theorem Den.keep {S S':Sto}{lo n:Nat}{t:TT}{d:D}(h:Den S lo n t d)(p:∀(x:Nat)(o:Ob),lo<=x->S[x]?=some o->S'[x]?=some o):Den S' lo n t d:=by
 induction h with
 | i k=>exact .i k
 | s w=>exact .s w
 | t z l _ ih=>exact .t z l ih
 | l h g z l _ ih=>exact .l (p _ _ g h) g z l ih
theorem Den.pre {S S':Sto}{lo n:Nat}{t:TT}{d:D}(h:Den S lo n t d)(p:Pre S S'):Den S' lo n t d:=h.keep λx o _ e=>p x o e
theorem Xx {b:Bool}{S:Sto}{Q:DK}(h:Q (.bl false) S):wNe eq2 (.bl b) (.bl b) S Q:=by
 cases b<;>exact h
theorem V6 {i j:Int}{S:Sto}{Q:DK}(e:i=j)(h:Q (.bl false) S):wNe eq2 (.int i) (.int j) S Q:=by
 show Q (.bl (!decide (i=j))) S;rw[decide_eq_true e];exact h
theorem WS:∀xs:List Nat,X0 (xs.map λ_=>D.bl true)=some (xs.map λ_=>true)
 | []=>rfl
 | x::xs=>by
  rw[zL,zL];show (X0 (xs.map λ_=>D.bl true)).map _=_;rw[WS xs];rfl
theorem WU:∀xs:List Nat,(xs.map λ_=>true).all id=true
 | []=>rfl
 | x::xs=>by rw[zL,xC,WU xs];rfl
theorem VX {xs:List D}{k:Nat}{d:D}{S:Sto}{Q:DK}(h:xs[k]?=some d)(hq:Q d S):Xi wIx (.tup xs) (.int (k:Int)) S Q:=by
 rw[Xs];show (match atI xs (k:Int) with|some d=>Q d S|none=>False);rw[Wr h];exact hq
section
variable {X:Cx}{Z:Zx}{aP:Expr}{pos:Pos}{sc ar:Scope}{N:List Str}{caps:List Nat}
@[irreducible] def VG (caps:List Nat)(tl:TDE)(te:TDE):TDE:=λdl S Q=>tl dl S λd S1=>match d with
 | .ref n=>(lAt S1 n).isSome=true/\∃W:Nat->Nat->Sto->Prop,(∃m,W 0 m (S1++[.lst []]))/\∀k m S2,W k m S2->match lAt S2 n with
  | some o=>match (ZC o)[k]? with
   | some (.tup [x,y])=>Kw caps te S1.length dl x y S2 λS3=>∃m',m'<m/\W (k+1) m' S3
   | some _=>False
   | none=>Q (.ref S1.length) S2
  | none=>False
 | _=>False
theorem AX {tl:TDE}{te:TDE}{σ:L3.St}{H:Hp}{Qv:VK}(h:up X.K Z (VG caps tl te) σ H Qv):
  Ky 2 caps (ED X.K (up X.K Z tl)) (gTup X.K 2 (gAll [0,1])) (up X.K Z0 te) σ H Qv:=by
 obtain⟨r,dl,S,Q,rs,aS,h,ret⟩:=h;unfold VG at h;refine⟨r,dl,S,_,rs,aS,h,λv H1 r1 d S1 x1 aB p1 q1=>?_⟩;cases p1 with
 | @ref n a hr=>
  obtain⟨aN,W,⟨m0,w0⟩,turn⟩:=q1;obtain⟨o1,eo1⟩:=yV.mp aN;obtain⟨xs1,sq1,_⟩:=TV (r:=r1) hr aB.b eo1;refine⟨a,rfl,⟨xs1,sq1⟩,λD0 hD=>?_⟩;obtain⟨aC,x2⟩:=aB.b.push (ds:=[]) (xs:=[]) hD Rps.nil;refine⟨λk m H'=>∃r' S',Ext (r1++[D0]) r' (upd H1 D0 (.lst [])) H'/\Z5 X.K r' S' H'/\W k m S',⟨m0,_,_,Ext.refl,aC,w0⟩,?_⟩;rintro k m H2 ⟨r2,S2,x3,rb2,w2⟩;have ha2:r2[S1.length]?=some D0:=x3.adr _ _ (R7 aB.len)
  have hr2:r2[n]?=some a:=(x2.trans x3).adr _ _ hr
  have q:=turn k m S2 w2;split at q
  .rename_i o eo;obtain⟨xs,sq,pr⟩:=TV (r:=r2) hr2 rb2 eo;split at q
   .rename_i y1 y2 ey;obtain⟨v,hv,pv⟩:=pr.get ey;refine .inr ⟨⟨xs,v,sq,hv⟩,λv' H' y' o8 ho8=>?_⟩;obtain⟨eH,y'⟩:=y';subst eH;have ev:v'=v:=by
     have z:=y' xs sq;rw[hv] at z;exact(Option.some.inj z).symm
    subst ev;obtain⟨c1,c2,rfl⟩:∃c1 c2,o8=[c1,c2]:=by
     match o8,ho8 with
     | [c1,c2],_=>exact⟨c1,c2,rfl⟩
    obtain⟨T,vs,rfl,eT,ps⟩:=pv.untup;obtain⟨w1,vs1,rfl,pw1,ps1⟩:=ps.uncons;obtain⟨w2,vs2,rfl,pw2,ps2⟩:=ps1.uncons;have z:=ps2.unnil;subst z;have rs3:=rs.ext (x1.trans (x2.trans x3));refine⟨T,[w1,w2],rfl,SqT.of eT,rfl,rfl,⟨[some w1,some w2],rfl,rfl⟩,?_⟩;have rsY:=E1 (caps:=caps) rs3 pw1 pw2;refine⟨r2,_,S2,_,rsY,⟨rb2,λ_ _ _ _ _ _ _ _ _ z=>z.elim⟩,q,λz H4 r4 dz S4 x6 aE p4 q4=>?_⟩;split at q4
    .rename_i ys eys;obtain⟨hl,m',hm,q4⟩:=q4;have ha4:r4[S1.length]?=some D0:=x6.adr _ _ ha2;obtain⟨zs,hD4,pz⟩:=aE.b.ob _ _ _ ha4 eys;obtain⟨rel5,x7⟩:=aE.b.set ha4 eys (pz.snoc p4);exact⟨zs,hD4,by rw[<- pz.1];exact Sr (yF hl),m',hm,r4,_,x3.trans (x6.trans x7),rel5,q4⟩
    .exact q4.elim
   .exact q.elim
   .rename_i ey;have aL:(ZC o).length<=k:=yR.mp ey;exact .inl ⟨⟨xs,sq,by rw[<- pr.1];exact aL⟩,ret _ H2 r2 _ S2 (x1.trans (x2.trans x3)) ⟨rb2,aS.xw.ext (x1.trans (x2.trans x3))⟩ (.ref ha2) q⟩
  .exact q.elim
 | _=>exact(show False from q1).elim
theorem LH {tl:TDE}{te:TDE}{x1 x2:Str}{p1 p2 tp:Pos}{kk:Nat}{a:Expr}(har:X.env.scope=ar)(hc:X.calm=true)(cs:Qc sc ar [x1,x2] N)(hl1:sc.names.lookup x1=some .local)(hl2:sc.names.lookup x2=some .local)
  (hN:Hn X caps N)(hnd:([x1,x2]++N).Nodup)(ha:PD X Z a tl)
  (he:∀cl C s0 H0 fp pn,PD (Cx.comp X sc ([x1,x2]++N) cl C s0 H0 fp pn) Z0 aP te)(hs:∀y,foldedSetIterable a X.env y=pure y:=by intro _;rfl):
  PD X Z (.ListComp aP [⟨.Tuple [.Name x1 p1,.Name x2 p2] kk tp,a,[],0⟩] sc pos) (VG caps tl te):=by
 subst har;refine ZO (EX hc cs hN (gt:=gTup X.K 2 (gAll [0,1])) (te:=up X.K Z0 te) (MR ha) (λcl C s0 H0 fp pn=>?_) he hs) λ_ _ _ h=>AX h
 have l1:(Cx.comp X sc ([x1,x2]++N) cl C s0 H0 fp pn).env.scope.names.lookup x1=some .local:=lookup_relabel_local hl1
 have l2:(Cx.comp X sc ([x1,x2]++N) cl C s0 H0 fp pn).env.scope.names.lookup x2=some .local:=lookup_relabel_local hl2;exact JA hc (Ms hnd (.cons rfl (.inl l1) (.inr l1) (.cons rfl (.inl l2) (.inr l2) .nil))) rfl rfl
end
theorem BM {is:List Nat}{n:Nat}{tl:TDE}{tb:TDS}{E:YS}{dl:Ev}{S:Sto}{xs:List D}(W:Nat->Ev->Sto->Prop)(htl:∀K:DK,K (.ref n) S->tl dl S K)(h0:W 0 dl S)(hk:∀k dl' S',W k dl' S'->S'[n]?=some (.lst xs))(hall:∀(k:Nat)(d:D),xs[k]?=some d->∃ys,d=.tup ys/\ys.length=is.length)
  (ht:∀(k:Nat)(ys:List D)(dl':Ev)(S':Sto)(nx ct:Ev->Sto->Prop),xs[k]?=some (.tup ys)->W k dl' S'->(∀dl2 S2,W (k+1) dl2 S2->nx dl2 S2)->tb { nx:=nx,rt:=E.rt,bk:=E.nx,ct:=ct } (UP is ys dl') S')(he:∀dl' S',W xs.length dl' S'->E.nx dl' S'):OO is tl tb E dl S:=by
 unfold OO;refine htl _ ⟨by rw[Yo (hk _ _ _ h0) rfl];rfl,λk m dl' S'=>m+k=xs.length/\W k dl' S',⟨xs.length,(),h0⟩,?_⟩;rintro k m dl' S' ⟨hm,w⟩;rw[Yo (hk _ _ _ w) rfl];dsimp only[ZC];split
 .rename_i ys hx;have l:k<xs.length:=(zE.mp hx).1;obtain⟨zs,e1,e2⟩:=hall k _ hx;cases e1;exact⟨e2,ht k ys dl' S' _ _ hx w λdl2 S2 w2=>⟨m-1,(),(),w2⟩⟩
 .rename_i d hn hx;obtain⟨zs,e1,_⟩:=hall k _ hx;exact absurd e1 (hn zs)
 .rename_i hx;have l:k=xs.length:=by
   have:=yR.mp hx;lia
  exact he dl' S' (l ▸ w)
theorem FC {caps:List Nat}{tl te:TDE}{dl:Ev}{S S1:Sto}{Q:DK}{n:Nat}{es:List D}(W:Nat->List D->Sto->Prop)(htl:∀K:DK,K (.ref n) S1->tl dl S K)(h1:S1[n]?=some (.lst es))(hw:∀k ys S2,W k ys S2->S2[n]?=some (.lst es)/\S2[S1.length]?=some (.lst ys)/\ys.length=k)(hl:es.length<=1000)(hall:∀(k:Nat)(d:D),es[k]?=some d->∃x y,d=.tup [x,y])(h0:W 0 [] (S1++[.lst []]))
  (ht:∀(k:Nat)(x y:D)(ys:List D)(S2:Sto)(K:DK),es[k]?=some (.tup [x,y])->W k ys S2->(∀y S3,S3[S1.length]?=some (.lst ys)->W (k+1) (ys++[y]) (S3.set S1.length (.lst (ys++[y])))->K y S3)->te (some x::some y::Wz caps dl) S2 K)
  (hq:∀ys S2,W es.length ys S2->Q (.ref S1.length) S2):VG caps tl te dl S Q:=by
 unfold VG;refine htl _ ⟨by rw[Yo h1 rfl];rfl,λk m S2=>(∃ys,W k ys S2)/\m+k=es.length,⟨es.length,⟨_,h0⟩,()⟩,?_⟩;rintro k m S2 ⟨⟨ys,w⟩,hm⟩;obtain⟨w1,w2,w3⟩:=hw _ _ _ w;rw[Yo w1 rfl];dsimp only[ZC];cases e:es[k]? with
 | none=>
  have hk:k=es.length:=by
   have:=yR.mp e;lia
  exact hq ys S2 (hk ▸ w)
 | some d=>
  obtain⟨x,y,rfl⟩:=hall k d e;have hk:=(zE.mp e).1
  show Kw caps te S1.length dl x y _ _;unfold Kw;refine ht k x y ys S2 _ e w λy S3 e3 w4=>?_
  dsimp only;rw[e3];exact⟨(),m-1,(),⟨_,w4⟩,()⟩
def wNeK:W2:=λx y S Q=>match x,y with
 | .ref a,.ref b=>(∃xs ys,S[a]?=some (.lst xs)/\S[b]?=some (.lst ys)/\xs.length=ys.length/\∀(k:Nat)(x y:D),xs[k]?=some x->ys[k]?=some y->Alk S 6 x y)/\Q (.bl false) S
 | _,_=>False
theorem za8 {X:Cx}{Z:Zx}{j:Nat}(hr:ZG j X.A):OpR X (compareOp .NotEq) (upO X.K Z wNeK):=by
 have hu:=hr.un;intro aA s σ H x y v u Qv I rx ry h;obtain⟨r,S,dx,dy,Q,aS,px,py,q,ret⟩:=h;cases px with
 | @ref n a hn=>
  cases py with
  | @ref m a' hm=>
   cases rx;cases ry;obtain⟨⟨ds,es,e1,e2,hl,hall⟩,q⟩:=(show (∃xs ys,_)/\_ from q);obtain⟨z,hz,ob⟩:=aS.at e1;rw[hn] at hz;cases hz
   obtain⟨z,hz,ob'⟩:=aS.at e2;rw[hm] at hz;cases hz
   obtain⟨xs,sq,pr⟩:=ob.list rfl;obtain⟨ys,sq',pr'⟩:=ob'.list rfl;obtain⟨is,ri,pl,_⟩:=I.list sq;obtain⟨js,rj,pl',_⟩:=I.list sq';have l1:ds.length=xs.length:=pr.1
   have l2:es.length=ys.length:=pr'.1
   have l3:=ri.length
   have l4:=rj.length
   have main:=JC (P:=λS=>Alk S 6) (S:=S) (A:=X.A.in1) (λh p1 p2 q1 q2=>Pd 6 I aS h p1 p2 q1 q2 (by show X.A.units+1+6<_;lia)) pr pr' ri rj hall
   have q2:=SeqAt.RcNeAt.lists (A:=X.A) (e:=λ_=>true) pl.isList pl'.isList (by simp;lia) () main
   have e3:(!(List.range is.toArray.size).all λ_=>true)=false:=by simp
   rw[e3] at q2;exact q2 X.prog X.w X.xe _ ⟨.bl false,H,I,rfl,ret _ _ _ _ _ Ext.refl aS (.bl false) q⟩
  | _=>exact(show False from q).elim
 | _=>exact(show False from q).elim
def Pl:Nat->D->Prop
 | 0,.int _=>True
 | 0,.str _=>True
 | _+1,.int _=>True
 | _+1,.str _=>True
 | n+1,.tup xs=>xs.length<=900/\∀x∈xs,Pl n x
 | _,_=>False
theorem Pl.den:∀(n:Nat)(d:D),Pl n d->∃t:TT,∀(S:Sto)(lo:Nat),Den S lo n t d
 | 0,.int i,_=>⟨.i i,λ_ _=>.i i⟩
 | 0,.str w,_=>⟨.s w,λ_ _=>.s w⟩
 | n+1,.int i,_=>⟨.i i,λ_ _=>.i i⟩
 | n+1,.str w,_=>⟨.s w,λ_ _=>.s w⟩
 | n+1,.tup xs,h=>by
  have all:∀l:List D,(∀x∈l,x∈xs)->∃ts:List TT,ts.length=l.length/\∀(k:Nat)(t:TT)(y:D),ts[k]?=some t->l[k]?=some y->∀(S:Sto)(lo:Nat),Den S lo n t y:=by
   intro l
   induction l with
   | nil=>exact λ_=>⟨[],rfl,λk t y h=>by cases h⟩
   | cons a l ih=>
    intro hm;obtain⟨ts,e,f⟩:=ih λx hx=>hm x (zO _ hx)
    obtain⟨t,ht⟩:=Pl.den n a (h.2 a (hm a (zV ..)));refine⟨t::ts,by simp[e],λk u y hu hy=>?_⟩;cases k with
    | zero=>cases hu;cases hy;exact ht
    | succ k=>exact f k u y hu hy
  obtain⟨ts,e,f⟩:=all xs λx hx=>hx
  exact⟨.t ts,λS lo=>.t (by rw[e];exact h.1) e λk x y hx hy=>f k x y hx hy S lo⟩
theorem Pl.eqF_ {d:D}(h:Pl 0 d):eqF d d=some true:=by
 match d,h with
 | .int i,_=>simp[eqF]
 | .str w,_=>simp[eqF]
theorem Pl.alk:∀(n:Nat)(d:D)(S:Sto),Pl n d->Alk S n d d
 | 0,d,S,h=>Pl.eqF_ h
 | n+1,.int i,S,_=>.inl (Pl.alk n (.int i) S (by cases n<;>trivial))
 | n+1,.str w,S,_=>.inl (Pl.alk n (.str w) S (by cases n<;>trivial))
 | n+1,.tup xs,S,h=>.inr (.inl ⟨xs,xs,rfl,rfl,rfl,λk x y hx hy=>by
   rw[hx] at hy;cases hy;exact Pl.alk n x S (h.2 x (zT hx))⟩)
theorem Alk.up {S:Sto}{d e:D}:∀ {n m:Nat},Alk S n d e->n<=m->Alk S m d e:=by
 intro n m h hm
 induction m with
 | zero=>cases Nat.le_zero.mp hm;exact h
 | succ m ih=>
  by_cases c:n=m+1
  .rw[<- c];exact h
  .exact .inl (ih ())
def PlS (X:List D):Prop:=X.length<=900/\∀x∈X,Pl 2 x
theorem Pl.up {d:D}:∀ {n:Nat},Pl n d->Pl (n+1) d
 | 0,h=>by
  match d,h with
  | .int i,_=>trivial
  | .str w,_=>trivial
 | n+1,h=>by
  match d,h with
  | .int i,_=>trivial
  | .str w,_=>trivial
  | .tup xs,h=>exact⟨h.1,λx hx=>Pl.up (h.2 x hx)⟩
theorem pl_nd (v:Nd):Pl 2 v.d:=by
 cases v<;>exact⟨by show _<=900;simp,λx hx=>by
  simp only[zB,zG,or_false] at hx;rcases hx with rfl|rfl|rfl<;>trivial⟩
structure TB (S:Sto)(lo:Nat)(d:D)(X:List D):Prop where
 ex:∃f g,d=.tup [.ref f,.ref g]/\lo<=f/\lo<=g/\S[f]?=some (.lst X)/\S[g]?=some (.lst X)
 pl:PlS X
theorem TB.den {S:Sto}{f g:Nat}{X:List D}(p:PlS X)(h1:S[f]?=some (.lst X))(h2:S[g]?=some (.lst X)):∃t:TT,Den S 0 4 t (.ref f)/\Den S 0 4 t (.ref g):=by
 have all:∀l:List D,(∀x∈l,Pl 2 x)->∃ts:List TT,ts.length=l.length/\∀(k:Nat)(t:TT)(y:D),ts[k]?=some t->l[k]?=some y->Den S 0 3 t y:=by
  intro l
  induction l with
  | nil=>exact λ_=>⟨[],rfl,λk t y h=>by cases h⟩
  | cons a l ih=>
   intro hm;obtain⟨ts,e,q⟩:=ih λx hx=>hm x (zO _ hx)
   obtain⟨t,ht⟩:=Pl.den 3 a (Pl.up (hm a (zV ..)));refine⟨t::ts,by simp[e],λk u y hu hy=>?_⟩;cases k with
   | zero=>cases hu;cases hy;exact ht S 0
   | succ k=>exact q k u y hu hy
 obtain⟨ts,e,q⟩:=all X p.2;exact⟨.l ts,.l h1 (zS _) (by rw[e];exact p.1) e q,.l h2 (zS _) (by rw[e];exact p.1) e q⟩
def viS (k:Tk):List (List D):=[k.un.map D.str,k.en,k.ns.map Nd.d,k.rw.map rwT]
structure GS (k:Tk):Prop where
 nok:NOk k.ns k.hs
 mok:∀w j,k.ml.lookup w=some j->j<k.ns.length
 nm:∀w∈k.ml.map (·.1),ZU w=true/\Yg w
 le:k.en.length=k.un.length
 lu:k.un.length<=4
 lr:k.rw.length<=12
 pe:∀x∈k.en,Pl 2 x
theorem GS.pl {k:Tk}(h:GS k):∀X∈viS k,PlS X:=λX hX=>by
 have h1:=h.nok.sixty
 have h2:=h.le
 have h3:=h.lu
 have h4:=h.lr;simp only[viS,zB,zG,or_false] at hX;rcases hX with rfl|rfl|rfl|rfl
 .refine⟨by rw[zC];lia,λx hx=>?_⟩;obtain⟨w,_,rfl⟩:=yM.mp hx;trivial
 .exact⟨(),h.pe⟩
 .refine⟨by rw[zC];lia,λx hx=>?_⟩;obtain⟨v,_,rfl⟩:=yM.mp hx;exact pl_nd v
 .refine⟨by rw[zC];lia,λx hx=>?_⟩;obtain⟨p,_,rfl⟩:=yM.mp hx;exact⟨by show 2<=900;decide,λy hy=>by
   simp only[zB,zG,or_false] at hy;rcases hy with rfl|rfl<;>trivial⟩
theorem RH:∀ {ml:List (Str×Nat)} {w:Str},w∈ml.map (·.1)->∃j,ml.lookup w=some j
 | [],_,h=>by cases h
 | (k,v)::ml,w,h=>by
  rw[zJ];by_cases c:w=k
  .subst c;exact⟨v,by simp⟩
  .rw[show (w==k)=false by simpa using c];rw[zL,zB] at h;exact RH (h.resolve_left c)
theorem F7:GS ⟨[],[],[],[],[],[]⟩:=⟨.nil,(λw j e=>nomatch e),(λw h=>nomatch h),rfl,⋯,⋯,(λx h=>nomatch h)⟩
theorem M6 {ml:List (Str×Nat)}{nm w:Str}{j:Nat}(h:w∈(ml++[(nm,j)]).map (·.1)):w∈ml.map (·.1)\/w=nm:=by
 rw[zN,zH] at h;exact h.imp id λz=>zU.mp z
structure LnX (k:Tk)(x:Str)(o:Option Tk)(an:Str):Prop where
 le:x.length<=1000
 no:("":Str) ∉ Txt.split x " "
 tel:R6 k (Txt.split x " ") o an
def LnR (T:Sto)(g a b c d e f:Nat)(nm:Str)(k:Tk)(o:Option Tk)(v:Int):Prop:=match o with
 | some k'=>StP T g a b c d e f k'/\GS k'/\0<=v/\(∀w∈k'.ml.map (·.1),w∈k.ml.map (·.1)\/w=nm)/\k'.ml.length<=k.ml.length+1
 | none=>v<0
theorem G7 {k:Tk}(G:GS k){t:Tr}{N:List Nd×List Int}{j:Nat}(gd:t.good)(e:ZR k.ms t (k.ns,k.hs)=some (N,j)):NOk N.1 N.2/\j<N.1.length/\k.ns.length<=N.1.length:=by
 obtain⟨o1,lj,⟨x1,y1⟩,_⟩:=Wx (ns':=N.1) (hs':=N.2) t G.nok G.mok gd e;exact⟨o1,lj,by rw[y1,zF];lia⟩
inductive Run:Tk->List Str->Tk->Prop
 | nil {k:Tk}:Run k [] k
 | cons {k k1 k2:Tk} {x an:Str} {r:List Str}:LnX k x (some k1) an->Run k1 r k2->Run k (x::r) k2
theorem Run.snoc {k k1 k2:Tk}{x an:Str}{r:List Str}(h:Run k r k1)(z:LnX k1 x (some k2) an):Run k (r++[x]) k2:=by
 induction h with
 | nil=>exact .cons z .nil
 | cons h _ ih=>exact .cons h (ih z)
theorem YH {td:TDE}{w:Str}{dl:Ev}{S S1:Sto}{Q:DK}{n:Nat}{kvs:List (Key×D)}{v:D}(hd:∀K:DK,K (.ref n) S1->td dl S K)(h:S1[n]?=some (.dck kvs))(hv:Yl kvs (.inr w)=some v)(hq:Q v S1):Pa td (dC (.str w)) dl S Q:=Oj (k:=.inr w) (S2:=S1) hd (λK hK=>by exact hK) h rfl hv hq
def V4 (R:Option ((List Nd×List Int)×Nat))(no:Prop)(yes:List Nd->List Int->Nat->Prop):Prop:=match R with
 | none=>no
 | some ((ns,hs),j)=>yes ns hs j
theorem V4.imp {R:Option ((List Nd×List Int)×Nat)}{no no':Prop}{yes yes':List Nd->List Int->Nat->Prop}(h:V4 R no yes)(h1:R=none->no->no')(h2:∀ns hs j,R=some ((ns,hs),j)->yes ns hs j->yes' ns hs j):V4 R no' yes':=by
 match R,h with
 | none,h=>exact h1 rfl h
 | some ((ns,hs),j),h=>exact h2 ns hs j rfl h
theorem getQ {Q:DK}{S:Sto}{a b:Int}(h:Q (.int a) S)(e:a=b):Q (.int b) S:=e ▸ h
theorem Bv {l:List Nat}{f i x:Nat}{w:Str}(hl:l.length=5)(hw:[("names":Str),"ends","rows","nodes","heavy"][i]?=some w):Xa (stL l f) (.inr w) (.ref x)=stL (l.set i x) f:=by
 match l,hl with
 | [a,b,c,d,e],_=>
  match i,hw with
  | 0,hw=>cases hw;rfl
  | 1,hw=>cases hw;rfl
  | 2,hw=>cases hw;rfl
  | 3,hw=>cases hw;rfl
  | 4,hw=>cases hw;rfl
theorem zbo {l:List Nat}{f x:Nat}(hl:l.length=5):Xa (stL l f) (.inr "seen") (.ref x)=stL l x:=by
 match l,hl with
 | [a,b,c,d,e],_=>rfl
theorem zcR {l:List Nat}{f i x:Nat}{w:Str}(hw:[("names":Str),"ends","rows","nodes","heavy"][i]?=some w)(hx:l[i]?=some x)(hl:l.length=5):Yl (stL l f) (.inr w)=some (.ref x):=by
 match l,hl with
 | [a,b,c,d,e],_=>
  match i,hw with
  | 0,hw=>cases hw;cases hx;rfl
  | 1,hw=>cases hw;cases hx;rfl
  | 2,hw=>cases hw;cases hx;rfl
  | 3,hw=>cases hw;cases hx;rfl
  | 4,hw=>cases hw;cases hx;rfl
theorem StP.all {S:Sto}{g a b c d e f:Nat}{k:Tk}(h:StP S g a b c d e f k):∀(i x:Nat)(X:List D),[a,b,c,d,e][i]?=some x->(stV k)[i]?=some X->S[x]?=some (.lst X):=λi x X hx hX=>by
 match i with
 | 0=>cases hx;cases hX;exact h.na
 | 1=>cases hx;cases hX;exact h.en
 | 2=>cases hx;cases hX;exact h.rw
 | 3=>cases hx;cases hX;exact h.nd
 | 4=>cases hx;cases hX;exact h.hv
 | i+5=>cases hx
theorem zb7 {i:Nat}{x:D}(h:([("names":Str),"ends","rows","nodes","heavy"].map D.str)[i]?=some x):i<5/\∃w,x=.str w/\[("names":Str),"ends","rows","nodes","heavy"][i]?=some w:=by
 rw[zR] at h;obtain⟨w,e,rfl⟩:=yA.mp h;exact⟨(zE.mp e).1,w,rfl,e⟩
theorem CP:([.inr "names",.inr "ends",.inr "rows",.inr "nodes",.inr "heavy",.inr "seen"]:List Key).Nodup:=by decide
theorem zbu {S S2:Sto}{a b c d e f:Nat}{Q:DK}(h1:S2[S.length]?=some (.dck []))(h:Q (.ref S.length) (S2.set S.length (.dck (stL [a,b,c,d,e] f)))):S2[S.length]?=some (.dck [])/\(stL [a,b,c,d,e] f).length<=15/\((stL [a,b,c,d,e] f).map (·.1)).Nodup/\Q (.ref S.length) (S2.set S.length (.dck (stL [a,b,c,d,e] f))):=⟨h1,by show 6<=15;decide,CP,h⟩
theorem Aa {α:Type}:∀(xs L:List α)(y:α),xs.length<L.length->(xs++L.drop xs.length).set xs.length y=xs++[y]++L.drop (xs.length+1):=λxs L y h=>by
 rw[vR _ _ (zA _),vD,xA h,List.set_cons_zero,yG];rfl
theorem zc0 (ml:List (Str×Nat)):(mlK ml).map (λkv=>kyD kv.1)=(ml.map (·.1)).map D.str:=by
 unfold mlK;rw[xY,xY];rfl
theorem Pb {S T U:Sto}{ow:List Nat}(g:Ng [] S T)(h:Ng ow T U)(hf:∀x∈ow,S.length<=x):Ng [] S U:=g.trans h λx hx=>.inr (hf x hx)
theorem zew {l l':Nat}{ow ow':List Nat}(h:∀x∈ow,l<=x)(f:Fr ow ow' l')(hl:l<=l'):∀x∈ow',l<=x:=λx hx=>by
 rcases f x hx with z|z
 .exact h x z
 .lia
theorem zdr (N:List Str):eqL (eqN 1) (N.map D.str) []=some (decide (N=[])):=by
 cases N<;>rfl
theorem CS {N:List Str}{w:Str}(hw:w∈N)(ok:ZU w=true/\Yg w):AtN N (.nm (cs w)):=by
 refine⟨⟨by rw[Ur];exact ok.1,by rw[Ur];exact ok.2⟩,λx hx=>?_⟩;rw[zU.mp hx,Ur];exact hw
theorem BV {S:Sto}{n:Nat}{X:List D}(h:S[n]?=some (.lst X)):S[n]?=some (.lst X):=h
theorem zdE (n:Nat):ixN (n+1) 0=some 0:=by
 unfold ixN;simp
theorem EH {b q:Int}(hb:1<=b/\b<=9)(hq:-1000<=q/\q<=1011):Yt (Z3 (b*q+1) b) (b*q+1) b/\(Z3 (b*q+1) b).length<=12/\(b*q+1).natAbs<10^9:=by
 have b1:=yZ hq.2 (show 0<=b by lia)
 have b2:=yZ hq.1 (show 0<=b by lia)
 have g:Int.gcd (b*q+1) b=1:=by
  have z:((Int.gcd (b*q+1) b:Nat):Int) ∣ 1:=by
   have d1:((Int.gcd (b*q+1) b:Nat):Int) ∣ b*q+1:=wN ..
   have d2:((Int.gcd (b*q+1) b:Nat):Int) ∣ b:=wO ..
   have d3:=Int.dvd_sub d1 (vZ (c:=q) d2);rw[show b*q+1-b*q=1 by lia] at d3;exact d3
  have y:Int.gcd (b*q+1) b ∣ 1:=by
   have:=yX.mpr z;rw[xU] at this;exact this
  exact Nat.dvd_one.mp y
 refine⟨⟨hb.1,g,(),(),rfl⟩,?_,()⟩;have l1:=VQ (i:=b*q+1) (k:=5) ⋯ ()
 have l2:=VQ (i:=b) (k:=1) ⋯ ();unfold Z3;rw[zF];split
 .show _+0<=12;lia
 .rw[zP];lia
theorem E7 {w:Str}(h:w="="\/w=">="):avS w=none/\kS w=.at/\pvS w=none:=by
 rcases h with rfl|rfl
 .exact⟨PZ ⋯ (X4 (c:=61) ⋯ ⋯),⋯,⋯⟩
 .exact⟨PZ ⋯ (X4 (c:=62) ⋯ ⋯),⋯,⋯⟩
theorem zaj {l k:Nat}{c:List Str}{t:Tr}(h:exP l k c t):∀w∈c,w≠"="/\w≠">=":=λw hw=>by
 have no:∀x:Str,(x="="\/x=">=")->w≠x:=λx hx e=>by
  obtain⟨a,b,p⟩:=E7 hx;rcases Fl h w hw (by rw[e];exact b) with z|z
  .exact z (by rw[e];exact a)
  .exact z (by rw[e];exact p)
 exact⟨no _ (.inl rfl),no _ (.inr rfl)⟩
theorem Ee:Yg "="/\Yg ">=":=⟨⟨⋯,⋯,⋯⟩,⋯,⋯,⋯⟩
theorem Jq {k:Tk}{l b:Nat}{ws:List Str}{t:Tr}(x:exP l b ws t)(nm:∀w∈t.nms,w∈k.ml.map (·.1))(ok:∀w∈ws,Yg w):VS k ws:=λw hw=>⟨by have:=(ok w hw).le;lia,λhn=>RH (nm w (zc5 x w hw hn))⟩
theorem zbH {k:Tk}{L R:List Str}{sg:Str}(h1:VS k L)(h2:VS k R)(hs:sg="="\/sg=">="):VS k (L++sg::R):=λw hw=>by
 rcases zH.1 hw with hw|hw
 .exact h1 w hw
 .rcases zB.mp hw with rfl|hw
  .rcases hs with rfl|rfl
   .exact⟨⋯,λz=>absurd z ⋯⟩
   .exact⟨⋯,λz=>absurd z ⋯⟩
  .exact h2 w hw
theorem GS.nm_snoc {k:Tk}(G:GS k){nm:Str}{j:Nat}(h:ZU nm=true/\Yg nm):∀w∈(k.ml++[(nm,j)]).map (·.1),ZU w=true/\Yg w:=λw hw=>by
 rcases M6 hw with z|z
 .exact G.nm w z
 .rw[z];exact h
theorem pl_en (t1 b1 t2 b2:Int):Pl 2 (enD t1 b1 t2 b2):=by
 refine⟨by show 2<=900;decide,λx hx=>?_⟩;simp only[zB,zG,or_false] at hx;rcases hx with rfl|rfl<;>exact⟨by show 2<=900;decide,λy hy=>by
  simp only[zB,zG,or_false] at hy;rcases hy with rfl|rfl<;>trivial⟩
theorem StP.seen {S:Sto}{g a b c d e f:Nat}{k:Tk}(h:StP S g a b c d e f k){ml:List (Str×Nat)}:StP (S.set f (.dck (mlK ml))) g a b c d e f { k with ml:=ml }:=by
 have p:=h.ap;exact⟨Zk h.st p.gf,Zk h.na (Ne.symm p.fa),Zk h.en (Ne.symm p.fb),Zk h.rw (Ne.symm p.fc),Zk h.nd (Ne.symm p.fd),Zk h.hv (Ne.symm p.fe),Ym h.se,h.nu,h.gf⟩
theorem StP.unk {S:Sto}{g a b c d e f:Nat}{k:Tk}(h:StP S g a b c d e f k)(nm:Str)(x:D):StP ((S.set a (.lst (k.un.map D.str++[.str nm]))).set b (.lst (k.en++[x]))) g a b c d e f { k with un:=k.un++[nm],en:=k.en++[x] }:=by
 have p:=h.ap;refine⟨Zk (Zk h.st p.ga) p.gb,?_,Ym (Zk h.en (Ne.symm p.ab)),Zk (Zk h.rw (Ne.symm p.ac)) (Ne.symm p.bc),Zk (Zk h.nd (Ne.symm p.ad)) (Ne.symm p.bd),Zk (Zk h.hv (Ne.symm p.ae)) (Ne.symm p.be),Zk (Zk h.se p.fa) p.fb,h.nu,h.gf⟩;show _=some (Ob.lst ((k.un++[nm]).map D.str));rw[zN];exact Zk (Ym h.na) p.ab
theorem StP.row {S:Sto}{g a b c d e f:Nat}{k:Tk}(h:StP S g a b c d e f k)(r:Str×Nat):StP (S.set c (.lst (k.rw.map rwT++[rwT r]))) g a b c d e f { k with rw:=k.rw++[r] }:=by
 have p:=h.ap;refine⟨Zk h.st p.gc,Zk h.na p.ac,Zk h.en p.bc,?_,Zk h.nd (Ne.symm p.cd),Zk h.hv (Ne.symm p.ce),Zk h.se p.fc,h.nu,h.gf⟩;show _=some (Ob.lst ((k.rw++[r]).map rwT));rw[zN];exact Ym h.rw
theorem Ta {S T:Sto}{g a b c d e f:Nat}(h:Ng [d,e] S T):Ng (owS g a b c d e f) S T:=⟨h.1,λx o nx z=>h.2 x o (λq=>nx (by simp only[zB,zG,or_false] at q ⊢;lia)) z⟩
theorem Yi.keep {CT CN:Addr}{S T:Sto}{n:Nat}{ow ow2:List Nat}{k:Tk}(h:Yi CT CN S n ow k)(g:Ng ow2 S T)(no:∀x∈ow,x ∉ ow2):Yi CT CN T n ow k:=by
 obtain⟨N,a,b,c,m,u,e,r,rfl,tp⟩:=h;have mv:∀ {x:Nat} {o:Ob},x∈Z7 n N a b c m u e r->S[x]?=some o->T[x]?=some o:=λhx z=>g.2 _ _ (no _ hx) z
 exact⟨N,a,b,c,m,u,e,r,rfl,mv (by simp[Z7]) tp.tsk,⟨mv (by simp[Z7]) tp.net.net,mv (by simp[Z7]) tp.net.kept,mv (by simp[Z7]) tp.net.weights,mv (by simp[Z7]) tp.net.numbers,tp.net.ne,tp.net.len⟩,mv (by simp[Z7]) tp.mea,mv (by simp[Z7]) tp.nam,mv (by simp[Z7]) tp.ends,mv (by simp[Z7]) tp.rows,tp.nd,tp.nok,tp.mok⟩
def Frz (ow:List Nat)(gm x:Nat):Prop:=x ∉ ow/\x≠gm
def Car (ow:List Nat)(gm:Nat)(S:Sto)(ow':List Nat)(T:Sto):Prop:=∀(x:Nat)(o:Ob),S[x]?=some o->Frz ow gm x->T[x]?=some o/\Frz ow' gm x
theorem Car.ng {ow:List Nat}{gm:Nat}{S T:Sto}(g:Ng [] S T):Car ow gm S ow T:=λx o h z=>⟨g.2 _ _ (by simp) h,z⟩
theorem Car.trans {ow ow' ow2:List Nat}{gm:Nat}{S T U:Sto}(a:Car ow gm S ow' T)(b:Car ow' gm T ow2 U):Car ow gm S ow2 U:=λx o h z=>b x o (a x o h z).1 (a x o h z).2
theorem Car.tell {ow ow':List Nat}{gm:Nat}{S T:Sto}(g:Ng ow S T)(f:Fr ow ow' S.length):Car ow gm S ow' T:=λx o h z=>⟨g.2 _ _ z.1 h,Ia h z.1 f,z.2⟩
theorem Car.set {ow:List Nat}{gm:Nat}{S:Sto}(u:Ob):Car ow gm S ow (S.set gm u):=λx o h z=>⟨Zk h z.2,z⟩
structure LkO (S:Sto)(ow:List Nat)(gm:Nat)(d:D):Prop where
 ex:∃(f g:Nat)(X:List D),d=.tup [.ref f,.ref g]/\Frz ow gm f/\Frz ow gm g/\S[f]?=some (.lst X)/\S[g]?=some (.lst X)/\PlS X
theorem LkO.car {S T:Sto}{ow ow':List Nat}{gm:Nat}{d:D}(h:LkO S ow gm d)(c:Car ow gm S ow' T):LkO T ow' gm d:=by
 obtain⟨f,g,X,e,zf,zg,h1,h2,p⟩:=h.ex;exact⟨f,g,X,e,(c f _ h1 zf).2,(c g _ h2 zg).2,(c f _ h1 zf).1,(c g _ h2 zg).1,p⟩
theorem TB.lko {S T:Sto}{lo gm:Nat}{ow:List Nat}{d:D}{X:List D}(h:TB T lo d X)(ho:∀x∈ow,x<lo)(hg:gm<lo):LkO T ow gm d:=by
 obtain⟨f,g,e,l1,l2,h1,h2⟩:=h.ex;exact⟨f,g,X,e,⟨λz=>by have:=ho f z;lia,()⟩,⟨λz=>by have:=ho g z;lia,()⟩,h1,h2,h.pl⟩
structure KI (CT CN:Addr)(S:Sto)(ow:List Nat)(k:Tk)(sm a b c d e f gm:Nat)(gl:List Str)(i sh:Nat):Prop where
 tk:Yi CT CN S 1 ow k
 st:StP S sm a b c d e f k
 gs:GS k
 ga:S[gm]?=some (.lst (gl.map D.str))
 run:Run ⟨[],[],[],[],[],[]⟩ gl k
 gn:gl.length<=i
 ml:k.ml.length<=i
 nms:∀w∈k.ml.map (·.1),∃j:Nat,j<i/\w=nmA (j:Int) (sh:Int)
 so:∀x∈owS sm a b c d e f,x ∉ ow/\x≠gm
 go:gm ∉ ow
theorem KI.up {CT CN:Addr}{S T:Sto}{ow:List Nat}{k:Tk}{sm a b c d e f gm:Nat}{gl:List Str}{i sh:Nat}(h:KI CT CN S ow k sm a b c d e f gm gl i sh)(g:Ng [] S T):KI CT CN T ow k sm a b c d e f gm gl i sh:=⟨h.tk.up g,h.st.up g,h.gs,g.2 _ _ (by simp) h.ga,h.run,h.gn,h.ml,h.nms,h.so,h.go⟩
theorem KI.more {CT CN:Addr}{S:Sto}{ow:List Nat}{k:Tk}{sm a b c d e f gm:Nat}{gl:List Str}{i sh:Nat}(h:KI CT CN S ow k sm a b c d e f gm gl i sh):KI CT CN S ow k sm a b c d e f gm gl (i+1) sh:=⟨h.tk,h.st,h.gs,h.ga,h.run,by have:=h.gn;lia,by have:=h.ml;lia,λw hw=>by
 obtain⟨j,hj,e⟩:=h.nms w hw;exact⟨j,(),e⟩,h.so,h.go⟩
theorem KI.tell {CT CN:Addr}{S T2 T3:Sto}{ow ow':List Nat}{k k':Tk}{sm a b c d e f gm g1 a1 b1 c1 d1 e1 f1:Nat}{gl:List Str}{i sh:Nat}{x an:Str}{v:Int}(h:KI CT CN S ow k sm a b c d e f gm gl i sh)(g02:Ng [] S T2)(g23:Ng ow T2 T3)(fr:Fr ow ow' T2.length)(t:Yi CT CN T3 1 ow' k')(fresh:∀y∈owS g1 a1 b1 c1 d1 e1 f1,S.length<=y)(lx:LnX k x (some k') an)(lr:LnR T2 g1 a1 b1 c1 d1 e1 f1 (nmA (i:Int) (sh:Int)) k (some k') v):KI CT CN (T3.set gm (.lst ((gl++[x]).map D.str))) ow' k' g1 a1 b1 c1 d1 e1 f1 gm (gl++[x]) (i+1) sh:=by
 obtain⟨P1,gs',_,nm',ml'⟩:=lr;have lg:=ZL h.ga
 have gm2:=g02.2 _ _ (by simp) h.ga
 have gm3:=g23.2 _ _ h.go gm2
 have go':gm ∉ ow':=Ia gm2 h.go fr
 have lt2:=P1.lt
 have no1:∀y∈owS g1 a1 b1 c1 d1 e1 f1,y ∉ ow/\y≠gm:=λy hy=>⟨λz=>by have:=h.tk.lt y z;have:=fresh y hy;lia,by have:=fresh y hy;lia⟩
 refine⟨t.keep (Ng.set (ow:=[gm]) (by simp) _) (λy hy=>by simp;intro z;exact go' (z ▸ hy)),(P1.keep g23 λy hy=>(no1 y hy).1).keep (Ng.set (ow:=[gm]) (by simp) _) (λy hy=>by simp;exact(no1 y hy).2),gs',Ym gm3,h.run.snoc lx,by rw[zF];have:=h.gn;simp;lia,by have:=h.ml;lia,λw hw=>?_,λy hy=>⟨λz=>?_,(no1 y hy).2⟩,go'⟩
 .rcases nm' w hw with z|z
  .obtain⟨j,hj,e⟩:=h.nms w z;exact⟨j,(),e⟩
  .exact⟨i,(),z⟩
 .rcases fr y z with q|q
  .exact(no1 y hy).1 q
  .have:=lt2 y hy;lia
theorem zbU {w:Str}{S:Sto}{Q:DK}(hq:Q (.bl false) S):Xi (VC 1) (.str w) (.str w) S Q:=by
 rw[Xs];unfold VC;have e:Vd 1 S (.str w) (.str w)=some true:=by simp[Vd,eqN,L3.eqT,eqF]
 rw[e];exact hq
theorem BF {caps:List Nat}{tl te:TDE}{dl:Ev}{S:Sto}{Q:DK}(h:tl dl S λd S1=>VG caps (λ_ T K=>K d T) te dl S1 Q):VG caps tl te dl S Q:=by
 unfold VG at h ⊢;exact h
theorem Gh {S:Sto}{X:List D}{n:Nat}(p:PlS X)(hn:2<=n):∀(k:Nat)(x y:D),X[k]?=some x->X[k]?=some y->Alk S n x y:=λk x y hx hy=>by
 rw[hx] at hy;cases hy;exact Alk.up (Pl.alk 2 x S (p.2 x (zT hx))) hn
theorem Ft {caps:List Nat}{tl te:TDE}{dl:Ev}{S S1:Sto}{Q:DK}{n:Nat}{es:List D}(htl:∀K:DK,K (.ref n) S1->tl dl S K)(h1:S1[n]?=some (.lst es))(hl:es.length<=900)(hall:∀(k:Nat)(d:D),es[k]?=some d->∃x y,d=.tup [x,y])
  (ht:∀(k:Nat)(x y:D)(S2:Sto)(K:DK),es[k]?=some (.tup [x,y])->Pre S1 S2->(∀S3,Pre S2 S3->K (.bl true) S3)->te (some x::some y::Wz caps dl) S2 K)
  (hq:∀S2,Pre S1 S2->S2[S1.length]?=some (.lst ((List.range es.length).map λ_=>D.bl true))->Q (.ref S1.length) S2):VG caps tl te dl S Q:=by
 have ln:=ZL h1;refine FC (n:=n) (S1:=S1) (es:=es) (λj ys U=>Pre S1 U/\U[S1.length]?=some (.lst ys)/\ys=(List.range j).map λ_=>D.bl true) htl h1 (λj ys U w=>⟨w.1 _ _ h1,w.2.1,by rw[w.2.2];simp⟩) () hall ⟨YB Pre.refl _,Zz _ _,rfl⟩ ?_ ?_
 .rintro j x y ys U K hx ⟨p,hU,rfl⟩ hK;refine ht j x y U K hx p λV pV=>hK _ V (pV _ _ hU) ⟨Vq (λz o e=>pV _ _ (p _ _ e)) (zA _),Ym (pV _ _ hU),?_⟩
  rw[yO,zN];rfl
 .rintro ys U ⟨p,hU,rfl⟩;exact hq U p hU
structure Xf (K:Fg)(mg:Str->Option Value) where
 C:Addr
 m:mg "Net"=some (.ref C)
 cl:Cls K C
 n_numbers:YX K C "numbers"
 n_weights:YX K C "weights"
 n_kept:YX K C "kept"
 makes:W.makesIn K C=true
 kp:W.keepIn K (.ref C)=true
structure Xq (K:Fg)(mg:Str->Option Value) where
 C:Addr
 m:mg "Task"=some (.ref C)
 cl:Cls K C
 n_told_rows:YX K C "told_rows"
 n_unknown_ends:YX K C "unknown_ends"
 n_unknown_names:YX K C "unknown_names"
 n_meanings:YX K C "meanings"
 n_net:YX K C "net"
 makes:W.makesIn K C=true
 kp:W.keepIn K (.ref C)=true
structure XX (K:Fg)(mg:Str->Option Value) where
 C:Addr
 m:mg "Reader"=some (.ref C)
 cl:Cls K C
 n_depth:YX K C "depth"
 n_place:YX K C "place"
 n_words:YX K C "words"
 makes:W.makesIn K C=true
 kp:W.keepIn K (.ref C)=true
def SD (cNet:Addr):Sd:=λds S Q ex=>match ds with
 | [.ref n]=>∃T:Sto,S=T++[.ins cNet []]/\n=T.length/\Q .non (T++[.ins cNet (Xj (T.length+1) (T.length+2) (T.length+3)),.lst [],.lst [],.dct []])
 | _=>False
theorem Bo (cNet:Addr):Ln (SD cNet) 1:=λds S Q ex h=>by unfold SD at h;split at h<;>first|rfl|exact h.elim
def Sl (cNet:Addr)(cTask:Addr):Sd:=λds S Q ex=>match ds with
 | [.ref n]=>∃T:Sto,S=T++[.ins cTask []]/\n=T.length/\∀(U:Sto)(ow:List Nat),Ng [] T U->(∀x∈ow,T.length<=x)->Yi cTask cNet U n ow ⟨[],[],[],[],[],[]⟩->Q .non U
 | _=>False
theorem Aj (cNet:Addr)(cTask:Addr):Ln (Sl cNet cTask) 1:=λds S Q ex h=>by unfold Sl at h;split at h<;>first|rfl|exact h.elim
def Pw:Sd:=λds S Q ex=>match ds with
 | []=>∀(T:Sto)(g a b c d e f:Nat),Ng [] S T->(∀x∈owS g a b c d e f,S.length<=x)->StP T g a b c d e f ⟨[],[],[],[],[],[]⟩->Q (.ref g) T
 | _=>False
theorem Bc:Ln (Pw) 0:=λds S Q ex h=>by unfold Pw at h;split at h<;>first|rfl|exact h.elim
def RN:Sd:=λds S Q ex=>match ds with
 | [.ref n,.int k]=>∃ns:List Int,S[n]?=some (.frz (ns.map D.int))/\0<=k/\Q (.int (ns.getD k.toNat 0)) S
 | _=>False
theorem Au:Ln (RN) 2:=λds S Q ex h=>by unfold RN at h;split at h<;>first|rfl|exact h.elim
def Sy (cNet:Addr)(cTask:Addr):Sd:=λds S Q ex=>match ds with
 | [.ref n]=>∃(ow:List Nat)(k:Tk),Yi cTask cNet S n ow k/\Q (.ref S.length) (S++[.lst (k.un.map D.str)])
 | _=>False
theorem EK (cNet:Addr)(cTask:Addr):Ln (Sy cNet cTask) 1:=λds S Q ex h=>by unfold Sy at h;split at h<;>first|rfl|exact h.elim
def To (cNet:Addr)(cTask:Addr):Sd:=λds S Q ex=>match ds with
 | [.ref n]=>∃(ow:List Nat)(k:Tk),Yi cTask cNet S n ow k/\Q (.ref S.length) (S++[.lst (k.en)])
 | _=>False
theorem za9 (cNet:Addr)(cTask:Addr):Ln (To cNet cTask) 1:=λds S Q ex h=>by unfold To at h;split at h<;>first|rfl|exact h.elim
def TR (cNet:Addr):Sd:=λds S Q ex=>match ds with
 | [.ref n]=>∃a b c xs,S[n]?=some (.ins cNet (Xj a b c))/\S[a]?=some (Ob.lst xs)/\Q (.ref S.length) (S++[Ob.lst xs])
 | _=>False
theorem Bz (cNet:Addr):Ln (TR cNet) 1:=λds S Q ex h=>by unfold TR at h;split at h<;>first|rfl|exact h.elim
def TQ (cNet:Addr)(cTask:Addr):Sd:=λds S Q ex=>match ds with
 | [.ref n]=>∃(ow:List Nat)(k:Tk),Yi cTask cNet S n ow k/\Q (.ref S.length) (S++[.lst (k.ns.map Nd.d)])
 | _=>False
theorem Ah (cNet:Addr)(cTask:Addr):Ln (TQ cNet cTask) 1:=λds S Q ex h=>by unfold TQ at h;split at h<;>first|rfl|exact h.elim
def Tt (cTask:Addr):Sd:=λds S Q ex=>match ds with
 | [.ref n]=>∃(N m u e r:Nat)(rs:List (Str×Nat)),S[n]?=some (.ins cTask (XY N m u e r))/\S[r]?=some (.lst (rs.map rwT))/\Q (.ref S.length) (S++[.lst (rs.map rwT)])
 | _=>False
theorem zbI (cTask:Addr):Ln (Tt cTask) 1:=λds S Q ex h=>by unfold Tt at h;split at h<;>first|rfl|exact h.elim
def Qd (cNet:Addr)(cTask:Addr):Sd:=λds S Q ex=>match ds with
 | [.ref n,.ref g]=>∃(ow:List Nat)(k:Tk)(a b c d e f:Nat),Yi cTask cNet S n ow k/\StP S g a b c d e f k/\GS k/\∀(T:Sto)(m:Nat)(ds:List D),Ng [] S T->S.length<=m->T[m]?=some (.lst ds)->ds.length=4->(∀x∈ds,∃X,TB T S.length x X)->Q (.ref m) T
 | _=>False
theorem zaC (cNet:Addr)(cTask:Addr):Ln (Qd cNet cTask) 2:=λds S Q ex h=>by unfold Qd at h;split at h<;>first|rfl|exact h.elim
def Pr:Sd:=λds S Q ex=>match ds with
 | [.ref g]=>∃(k:Tk)(a b c d e f:Nat),StP S g a b c d e f k/\∀(T:Sto)(g a b c d e f:Nat),Ng [] S T->(∀x∈owS g a b c d e f,S.length<=x)->StP T g a b c d e f k->Q (.ref g) T
 | _=>False
theorem zc4:Ln (Pr) 1:=λds S Q ex h=>by unfold Pr at h;split at h<;>first|rfl|exact h.elim
def Td:Sd:=λds S Q ex=>match ds with
 | [.int c,.int k]=>(0<=k/\k<=20)/\∀v:Int,0<=v->v<2147483647->Q (.int v) S
 | _=>False
theorem D8:Ln (Td) 2:=λds S Q ex h=>by unfold Td at h;split at h<;>first|rfl|exact h.elim
def Ux:Sd:=λds S Q ex=>match ds with
 | [.ref g,dv,.int wt]=>∃(v:Nd)(k:Tk)(a b c d e f:Nat),dv=v.d/\StP S g a b c d e f k/\wt=v.w k.hs/\NOk k.ns k.hs/\V4 (YI (k.ns,k.hs) v) (Q (.int (-1)) S) (λns hs j=>∀T:Sto,Ng [d,e] S T->StP T g a b c d e f { k with ns:=ns,hs:=hs }->Q (.int (j:Int)) T)
 | _=>False
theorem zbr:Ln (Ux) 3:=λds S Q ex h=>by unfold Ux at h;split at h<;>first|rfl|exact h.elim
def Uz:Sd:=λds S Q ex=>match ds with
 | [.int t,.int b]=>(t.natAbs<10^9/\1<=b/\b<10^9)/\Q (.str (mk (Z3 t b))) S
 | _=>False
theorem CY:Ln (Uz) 2:=λds S Q ex h=>by unfold Uz at h;split at h<;>first|rfl|exact h.elim
def Qk:Sd:=λds S Q ex=>match ds with
 | [.int cc,.ref g,.str nm]=>∃(k:Tk)(a b c d e f:Nat),StP S g a b c d e f k/\GS k/\k.ml.length<=800/\ZU nm=true/\Yg nm/\k.ml.lookup nm=none/\k.un.length<4/\∀(T:Sto)(x:Str)(o:Option Tk)(v:Int),Ng (owS g a b c d e f) S T->LnX k x o "unknown"->LnR T g a b c d e f nm k o v->Q (.tup [.str "unknown",.str x,.int v]) T
 | _=>False
theorem zbh:Ln (Qk) 3:=λds S Q ex h=>by unfold Qk at h;split at h<;>first|rfl|exact h.elim
def Rk:Sd:=λds S Q ex=>match ds with
 | [.int v,.ref nl]=>∃N:List Str,S[nl]?=some (.lst (N.map D.str))/\(∀w∈N,ZU w=true/\Yg w)/\0<=v/\∀(T:Sto)(t:Tr),Pre S T->AtN N t->Q (trD t) T
 | _=>False
theorem AO:Ln (Rk) 2:=λds S Q ex h=>by unfold Rk at h;split at h<;>first|rfl|exact h.elim
def RW:Sd:=λds S Q ex=>match ds with
 | [.int c,.ref nl]=>∃N:List Str,S[nl]?=some (.lst (N.map D.str))/\(∀w∈N,ZU w=true/\Yg w)/\∀(T:Sto)(t:Tr),Pre S T->LT N 3 t->Q (trD t) T
 | _=>False
theorem zau:Ln (RW) 2:=λds S Q ex h=>by unfold RW at h;split at h<;>first|rfl|exact h.elim
def SA:Sd:=λds S Q ex=>match ds with
 | [d]=>∃t:Tr,d=trD t/\Q (.int (t.lv:Int)) S
 | _=>False
theorem zdO:Ln (SA) 1:=λds S Q ex h=>by unfold SA at h;split at h<;>first|rfl|exact h.elim
def Uc (n:Nat):Sd:=λds S Q ex=>match ds with
 | [d,.int lv]=>∃(t:Tr)(v:Nat),d=trD t/\lv=(v:Int)/\v<=3/\t.dp<n/\t.good/\t.ats/\t.wl<=200/\∀(T:Sto)(m:Nat)(ws:List Str)(l k:Nat),Pre S T->WsAt T m ws->exP l k ws t->v<=l->k<=t.dp->ws.length<=t.w1->Q (.ref m) T
 | _=>False
theorem Ci (n:Nat):Ln (Uc n) 2:=λds S Q ex h=>by unfold Uc at h;split at h<;>first|rfl|exact h.elim
def QI:Sd:=λds S Q ex=>match ds with
 | [.int cc,.ref g]=>∃(k:Tk)(a b c d e f:Nat),StP S g a b c d e f k/\GS k/\∀(T:Sto)(t:Tr)(ws:List Str)(l b:Nat),Pre S T->LT (k.ml.map (·.1)) 3 t->exP l b ws t->b<=3->ws.length<=29->(∀w∈ws,Yg w)->Q (.tup [trD t,.str (Txt.join " " ws)]) T
 | _=>False
theorem Ck:Ln (QI) 2:=λds S Q ex h=>by unfold QI at h;split at h<;>first|rfl|exact h.elim
def Ua (n:Nat):Sd:=λds S Q ex=>match ds with
 | [.ref g,dt]=>∃(t:Tr)(k:Tk)(a b c d e f:Nat),dt=trD t/\t.dp<n/\StP S g a b c d e f k/\NOk k.ns k.hs/\(∀w j,k.ml.lookup w=some j->j<k.ns.length)/\t.good/\(∀w∈t.nms,∃j,k.ml.lookup w=some j)/\V4 (ZR k.ms t (k.ns,k.hs)) (∀T:Sto,Ng [d,e] S T->Q (.int (-1)) T) (λns hs j=>∀T:Sto,Ng [d,e] S T->StP T g a b c d e f { k with ns:=ns,hs:=hs }->Q (.int (j:Int)) T)
 | _=>False
theorem DV (n:Nat):Ln (Ua n) 2:=λds S Q ex h=>by unfold Ua at h;split at h<;>first|rfl|exact h.elim
def Rv:Sd:=λds S Q ex=>match ds with
 | [.int cc,.ref g,.str nm]=>∃(k:Tk)(a b c d e f:Nat),StP S g a b c d e f k/\GS k/\k.ml.length<=800/\ZU nm=true/\Yg nm/\k.ml.lookup nm=none/\∀(T:Sto)(x an:Str)(o:Option Tk)(v:Int),Ng (owS g a b c d e f) S T->LnX k x o an->LnR T g a b c d e f nm k o v->Q (.tup [.str an,.str x,.int v]) T
 | _=>False
theorem By:Ln (Rv) 3:=λds S Q ex h=>by unfold Rv at h;split at h<;>first|rfl|exact h.elim
def Rx:Sd:=λds S Q ex=>match ds with
 | [.int k,.int sh]=>0<=k/\k<70/\0<=sh/\sh<49/\Q (.str (nmA k sh)) S
 | _=>False
theorem zeC:Ln (Rx) 2:=λds S Q ex h=>by unfold Rx at h;split at h<;>first|rfl|exact h.elim
def Rl:Sd:=λds S Q ex=>match ds with
 | [.str x]=>(x.length<=1000/\("":Str) ∉ Txt.split x " ")/\Q (.ref S.length) (S++[.lst ((Txt.split x " ").map D.str)])
 | _=>False
theorem A0:Ln (Rl) 1:=λds S Q ex h=>by unfold Rl at h;split at h<;>first|rfl|exact h.elim
def TU:Sd:=λds S Q ex=>match ds with
 | [.str w,.str sg,.int m]=>w.length<=1000/\Q (.bl ((decide (1<=(w.length:Int))&&decide ((w.length:Int)<=m))&&w.cps.toList.all (λc=>decide (c∈sg.cps.toList)))) S
 | _=>False
theorem zc3:Ln (TU) 3:=λds S Q ex h=>by unfold TU at h;split at h<;>first|rfl|exact h.elim
def VD:Sd:=λds S Q ex=>match ds with
 | [.str w]=>w.length<=1000/\Q (.bl (ZU w)) S
 | _=>False
theorem zdm:Ln (VD) 1:=λds S Q ex h=>by unfold VD at h;split at h<;>first|rfl|exact h.elim
def QQ:Sd:=λds S Q ex=>match ds with
 | [.int _]=>Q (.bl true) S
 | _=>False
theorem zbn:Ln (QQ) 1:=λds S Q ex h=>by unfold QQ at h;split at h<;>first|rfl|exact h.elim
def Pq:Sd:=λds S Q ex=>match ds with
 | [.int a,.int b]=>(0<=a/\0<=b)/\Q (.int ((Int.gcd a b:Nat):Int)) S
 | _=>False
theorem Cj:Ln (Pq) 2:=λds S Q ex h=>by unfold Pq at h;split at h<;>first|rfl|exact h.elim
def QA (cNoNumber:Addr):Sd:=λds S Q ex=>match ds with
 | [.int T,.int B]=>(B=0/\ex cNoNumber S)\/((B≠0/\Sz 4000 B)/\∀t b:Int,1<=b->t*B=T*b->Int.gcd t b=1->t.natAbs<=T.natAbs->b.natAbs<=B.natAbs->Q (.tup [.int t,.int b]) S)
 | _=>False
theorem zbl (cNoNumber:Addr):Ln (QA cNoNumber) 2:=λds S Q ex h=>by unfold QA at h;split at h<;>first|rfl|exact h.elim
def Sm:Sd:=λds S Q ex=>match ds with
 | [.int n]=>(0<=n/\n.natAbs<10^200)/\Q (.str (mk (dec n.natAbs))) S
 | _=>False
theorem Cg:Ln (Sm) 1:=λds S Q ex h=>by unfold Sm at h;split at h<;>first|rfl|exact h.elim
def Q4:Sd:=λds S Q ex=>match ds with
 | [.tup [.int t,.int b]]=>(t.natAbs<10^200/\1<=b/\b.natAbs<10^200)/\Q (.str (mk (Z3 t b))) S
 | _=>False
theorem DC:Ln (Q4) 1:=λds S Q ex h=>by unfold Q4 at h;split at h<;>first|rfl|exact h.elim
def U1 (cNoRow:Addr)(cNoNumber:Addr):Sd:=λds S Q ex=>match ds with
 | [.str w]=>w.length<=900/\(∀t b:Int,Yt (cs w) t b->Q (.tup [.int t,.int b]) S)/\(Bad (cs w)->ex cNoRow S)
 | _=>False
theorem EL (cNoRow:Addr)(cNoNumber:Addr):Ln (U1 cNoRow cNoNumber) 1:=λds S Q ex h=>by unfold U1 at h;split at h<;>first|rfl|exact h.elim
def QL:Sd:=λds S Q ex=>match ds with
 | [.tup [.int a,.int b],.tup [.int c,.int d]]=>(IntMulOk a d/\IntMulOk c b)/\Q (.bl (decide (a*d<c*b))) S
 | _=>False
theorem zbg:Ln (QL) 2:=λds S Q ex h=>by unfold QL at h;split at h<;>first|rfl|exact h.elim
def R1:Sd:=λds S Q ex=>match ds with
 | [.ref wm]=>∃(w0 lo hi:Str)(t1 b1 t2 b2:Int),S[wm]?=some (.lst ([w0,"in",lo,hi].map D.str))/\ZU w0=true/\lo.length<=900/\hi.length<=900/\Yt (cs lo) t1 b1/\Yt (cs hi) t2 b2/\¬ (t2*b1<t1*b2)/\Q (enD t1 b1 t2 b2) S
 | _=>False
theorem B8:Ln (R1) 1:=λds S Q ex h=>by unfold R1 at h;split at h<;>first|rfl|exact h.elim
def T7 (cTask:Addr):Sd:=λds S Q ex=>match ds with
 | [.ref n,.str w]=>∃(N m u e r:Nat)(ml:List (Str×Nat)),S[n]?=some (.ins cTask (XY N m u e r))/\S[m]?=some (.dck (mlK ml))/\ml.lookup w=none/\Q .non S
 | _=>False
theorem AD (cTask:Addr):Ln (T7 cTask) 2:=λds S Q ex h=>by unfold T7 at h;split at h<;>first|rfl|exact h.elim
def Qf:Sd:=λds S Q ex=>match ds with
 | [d,.ref n]=>∃(v:Nd)(hs:List Int),d=v.d/\S[n]?=some (Ob.lst (hs.map D.int))/\v.ok hs/\small hs/\Q (.int (v.w hs)) S
 | _=>False
theorem Dn:Ln (Qf) 2:=λds S Q ex h=>by unfold Qf at h;split at h<;>first|rfl|exact h.elim
def VM (cNet:Addr)(cTooMuch:Addr):Sd:=λds S Q ex=>match ds with
 | [.ref n,d]=>∃(v:Nd)(ns:List Nd)(hs:List Int)(a b c:Nat),d=v.d/\YD cNet S n a b c ns hs/\v.ok hs/\small hs/\ns.length<=60/\((∃j,idx v ns=some j/\Q (.int (j:Int)) S)\/(idx v ns=none/\(16<v.w hs\/ns.length=60)/\ex cTooMuch S)\/(idx v ns=none/\v.w hs<=16/\ns.length≠60/\Q (.int (ns.length:Int)) (QH S a b c ns hs v)))
 | _=>False
theorem CO (cNet:Addr)(cTooMuch:Addr):Ln (VM cNet cTooMuch) 2:=λds S Q ex h=>by unfold VM at h;split at h<;>first|rfl|exact h.elim
def R5 (cNet:Addr)(cTask:Addr)(cTooMuch:Addr):Sd:=λds S Q ex=>match ds with
 | [.ref n,.ref wm]=>∃(ow:List Nat)(k:Tk)(o:Option Tk)(ws:List Str),Yi cTask cNet S n ow k/\S[wm]?=some (.lst (ws.map D.str))/\wm ∉ ow/\UnkX k ws o/\Uv o S ow n cTask cNet (Q (.str "unknown")) (ex cTooMuch)
 | _=>False
theorem DN (cNet:Addr)(cTask:Addr)(cTooMuch:Addr):Ln (R5 cNet cTask cTooMuch) 2:=λds S Q ex h=>by unfold R5 at h;split at h<;>first|rfl|exact h.elim
def RB (cReader:Addr):Sd:=λds S Q ex=>match ds with
 | [.ref n,.ref wm]=>∃T:Sto,S=T++[.ins cReader []]/\n=T.length/\Q .non (T++[.ins cReader (rdF wm 0 0)])
 | _=>False
theorem Cm (cReader:Addr):Ln (RB cReader) 2:=λds S Q ex h=>by unfold RB at h;split at h<;>first|rfl|exact h.elim
def Tc (cReader:Addr):Sd:=λds S Q ex=>match ds with
 | [.ref n]=>∃(wm:Nat)(ws:List Str)(p d:Nat),YA cReader S n wm ws p d/\Q (.bl (decide (p=ws.length))) S
 | _=>False
theorem Aw (cReader:Addr):Ln (Tc cReader) 1:=λds S Q ex h=>by unfold Tc at h;split at h<;>first|rfl|exact h.elim
def Vk (cReader:Addr)(cNoRow:Addr):Sd:=λds S Q ex=>match ds with
 | [.ref n]=>∃(wm:Nat)(ws:List Str)(p d:Nat),YA cReader S n wm ws p d/\match ws.drop p with|[]=>ex cNoRow S|w::_=>Q (.str w) (S.set n (.ins cReader (rdF wm ((p:Int)+1) (d:Int))))
 | _=>False
theorem CQ (cReader:Addr)(cNoRow:Addr):Ln (Vk cReader cNoRow) 1:=λds S Q ex h=>by unfold Vk at h;split at h<;>first|rfl|exact h.elim
def QX (n:Nat)(cReader:Addr)(cNoRow:Addr)(cNoNumber:Addr):Sd:=λds S Q ex=>match ds with
 | [.ref n0]=>∃(wm:Nat)(ws:List Str)(p d:Nat),YA cReader S n0 wm ws p d/\d<=16/\17<=d+n/\match brS (16-d) (ws.drop p) with|none=>∀T:Sto,Yd n0 S T->ex cNoRow T|some (t,r)=>∀T:Sto,Yd n0 S T->YA cReader T n0 wm ws (ws.length-r.length) d->Q (trD t) T
 | _=>False
theorem D4 (n:Nat)(cReader:Addr)(cNoRow:Addr)(cNoNumber:Addr):Ln (QX n cReader cNoRow cNoNumber) 1:=λds S Q ex h=>by unfold QX at h;split at h<;>first|rfl|exact h.elim
def RV (n:Nat)(cReader:Addr)(cNoRow:Addr)(cNoNumber:Addr):Sd:=λds S Q ex=>match ds with
 | [.ref n0]=>∃(wm:Nat)(ws:List Str)(p d:Nat),YA cReader S n0 wm ws p d/\d<=16/\17<=d+n/\match Xg kS avS (inS (16-d)) (ws.drop p) with|none=>∀T:Sto,Yd n0 S T->ex cNoRow T|some (t,r)=>∀T:Sto,Yd n0 S T->YA cReader T n0 wm ws (ws.length-r.length) d->Q (trD t) T
 | _=>False
theorem zdZ (n:Nat)(cReader:Addr)(cNoRow:Addr)(cNoNumber:Addr):Ln (RV n cReader cNoRow cNoNumber) 1:=λds S Q ex h=>by unfold RV at h;split at h<;>first|rfl|exact h.elim
def VP (cReader:Addr):Sd:=λds S Q ex=>match ds with
 | [.ref n,.tup es]=>∃cs:List Str,es=cs.map D.str/\∃(wm:Nat)(ws:List Str)(p d:Nat),YA cReader S n wm ws p d/\Q (.bl (match ws.drop p with|[]=>false|w::_=>cs.any (·==w))) S
 | [.ref n,.ref m]=>∃cs:List Str,S[m]?=some (.tpl cs)/\∃(wm:Nat)(ws:List Str)(p d:Nat),YA cReader S n wm ws p d/\Q (.bl (match ws.drop p with|[]=>false|w::_=>cs.any (·==w))) S
 | _=>False
theorem BQ (cReader:Addr):Ln (VP cReader) 2:=λds S Q ex h=>by unfold VP at h;split at h<;>first|rfl|exact h.elim
def QU (n:Nat)(cReader:Addr)(cNoRow:Addr)(cNoNumber:Addr):Sd:=λds S Q ex=>match ds with
 | [.ref n0]=>∃(wm:Nat)(ws:List Str)(p d:Nat),YA cReader S n0 wm ws p d/\d<=16/\17<=d+n/\match Yr kS avS pvS (inS (16-d)) (ws.drop p) with|none=>∀T:Sto,Yd n0 S T->ex cNoRow T|some (t,r)=>∀T:Sto,Yd n0 S T->YA cReader T n0 wm ws (ws.length-r.length) d->Q (trD t) T
 | _=>False
theorem zer (n:Nat)(cReader:Addr)(cNoRow:Addr)(cNoNumber:Addr):Ln (QU n cReader cNoRow cNoNumber) 1:=λds S Q ex h=>by unfold QU at h;split at h<;>first|rfl|exact h.elim
def RF (n:Nat)(cReader:Addr)(cNoRow:Addr)(cNoNumber:Addr):Sd:=λds S Q ex=>match ds with
 | [.ref n0]=>∃(wm:Nat)(ws:List Str)(p d:Nat),YA cReader S n0 wm ws p d/\d<=16/\17<=d+n/\match YN kS avS pvS (inS (16-d)) (ws.drop p) with|none=>∀T:Sto,Yd n0 S T->ex cNoRow T|some (t,r)=>∀T:Sto,Yd n0 S T->YA cReader T n0 wm ws (ws.length-r.length) d->Q (trD t) T
 | _=>False
theorem zen (n:Nat)(cReader:Addr)(cNoRow:Addr)(cNoNumber:Addr):Ln (RF n cReader cNoRow cNoNumber) 1:=λds S Q ex h=>by unfold RF at h;split at h<;>first|rfl|exact h.elim
def VY (n:Nat)(cReader:Addr)(cNoRow:Addr)(cNoNumber:Addr):Sd:=λds S Q ex=>match ds with
 | [.ref n0]=>∃(wm:Nat)(ws:List Str)(p d:Nat),YA cReader S n0 wm ws p d/\d<=16/\17<=d+n/\match exS (16-d) (ws.drop p) with|none=>∀T:Sto,Yd n0 S T->ex cNoRow T|some (t,r)=>∀T:Sto,Yd n0 S T->YA cReader T n0 wm ws (ws.length-r.length) d->Q (trD t) T
 | _=>False
theorem zb8 (n:Nat)(cReader:Addr)(cNoRow:Addr)(cNoNumber:Addr):Ln (VY n cReader cNoRow cNoNumber) 1:=λds S Q ex h=>by unfold VY at h;split at h<;>first|rfl|exact h.elim
def So (cReader:Addr)(cNoRow:Addr)(cNoNumber:Addr):Sd:=λds S Q ex=>match ds with
 | [.ref wm]=>∃ws:List Str,S[wm]?=some (.lst (ws.map D.str))/\ws.length<=900/\(∀w∈ws,w.length<=900)/\match trS ws with|none=>∀T:Sto,Pre S T->ex cNoRow T|some t=>∀T:Sto,Pre S T->Q (trD t) T
 | _=>False
theorem C9 (cReader:Addr)(cNoRow:Addr)(cNoNumber:Addr):Ln (So cReader cNoRow cNoNumber) 1:=λds S Q ex h=>by unfold So at h;split at h<;>first|rfl|exact h.elim
def Se (cTask:Addr):Sd:=λds S Q ex=>match ds with
 | [.ref n,.ref wm]=>∃(ws:List Str)(N m u e r:Nat)(ml:List (Str×Nat)),S[n]?=some (.ins cTask (XY N m u e r))/\S[m]?=some (.dck (mlK ml))/\S[wm]?=some (.lst (ws.map D.str))/\(∀w∈ws,w.length<=900/\(ZU w=true->∃j,ml.lookup w=some j))/\Q .non S
 | _=>False
theorem zcl (cTask:Addr):Ln (Se cTask) 2:=λds S Q ex h=>by unfold Se at h;split at h<;>first|rfl|exact h.elim
def Sj (cNet:Addr):Sd:=λds S Q ex=>match ds with
 | [.ref nn]=>∃(ns:List Nd)(hs:List Int)(a b c:Nat),YD cNet S nn a b c ns hs/\NOk ns hs/\∀(T:Sto)(n2 a2 b2 c2:Nat),Ng [] S T->S.length<=n2->S.length<=a2->S.length<=b2->S.length<=c2->YD cNet T n2 a2 b2 c2 ns hs->Q (.ref n2) T
 | _=>False
theorem CU (cNet:Addr):Ln (Sj cNet) 1:=λds S Q ex h=>by unfold Sj at h;split at h<;>first|rfl|exact h.elim
def WV (n:Nat)(cNet:Addr)(cTooMuch:Addr):Sd:=λds S Q ex=>match ds with
 | [.ref nn,d,.ref m]=>∃(t:Tr)(ns:List Nd)(hs:List Int)(a b c:Nat)(ml:List (Str×Nat)),d=trD t/\t.dp<n/\YD cNet S nn a b c ns hs/\NOk ns hs/\(∀w j,ml.lookup w=some j->j<ns.length)/\S[m]?=some (.dck (mlK ml))/\t.good/\(∀w∈t.nms,∃j,ml.lookup w=some j)/\match ZR (λw=>ml.lookup w) t (ns,hs) with|none=>∀T:Sto,Ng [a,b,c] S T->ex cTooMuch T|some (N,j)=>∀T:Sto,Ng [a,b,c] S T->YD cNet T nn a b c N.1 N.2->Q (.int (j:Int)) T
 | _=>False
theorem AL (n:Nat)(cNet:Addr)(cTooMuch:Addr):Ln (WV n cNet cTooMuch) 3:=λds S Q ex h=>by unfold WV at h;split at h<;>first|rfl|exact h.elim
def Rz (cNet:Addr)(cTask:Addr)(cTooMuch:Addr):Sd:=λds S Q ex=>match ds with
 | [.ref n,.ref wm]=>∃(ow:List Nat)(k:Tk)(o:Option Tk)(ws:List Str),Yi cTask cNet S n ow k/\S[wm]?=some (.lst (ws.map D.str))/\wm ∉ ow/\ParX k ws o/\Uv o S ow n cTask cNet (Q (.str "part")) (ex cTooMuch)
 | _=>False
theorem DB (cNet:Addr)(cTask:Addr)(cTooMuch:Addr):Ln (Rz cNet cTask cTooMuch) 2:=λds S Q ex h=>by unfold Rz at h;split at h<;>first|rfl|exact h.elim
def QV:Sd:=λds S Q ex=>match ds with
 | [.ref wm]=>∃(L R:List Str)(sg:Str),S[wm]?=some (.lst ((L++sg::R).map D.str))/\(∀w∈L,w≠"="/\w≠">=")/\(sg="="\/sg=">=")/\Q (.int (L.length:Int)) S
 | _=>False
theorem zb0:Ln (QV) 1:=λds S Q ex h=>by unfold QV at h;split at h<;>first|rfl|exact h.elim
def Rj (cNet:Addr)(cTask:Addr)(cTooMuch:Addr):Sd:=λds S Q ex=>match ds with
 | [.ref n,.ref wm]=>∃(ow:List Nat)(k:Tk)(o:Option Tk)(ws:List Str),Yi cTask cNet S n ow k/\S[wm]?=some (.lst (ws.map D.str))/\wm ∉ ow/\RowX k ws o/\Uv o S ow n cTask cNet (Q (.str "row")) (ex cTooMuch)
 | _=>False
theorem zcC (cNet:Addr)(cTask:Addr)(cTooMuch:Addr):Ln (Rj cNet cTask cTooMuch) 2:=λds S Q ex h=>by unfold Rj at h;split at h<;>first|rfl|exact h.elim
def SU (cNet:Addr)(cTask:Addr)(cTooMuch:Addr):Sd:=λds S Q ex=>match ds with
 | [.ref n,.str x]=>(x.length<=1000/\("":Str) ∉ Txt.split x " ")/\∃(ow:List Nat)(k:Tk)(o:Option Tk)(an:Str),Yi cTask cNet S n ow k/\R6 k (Txt.split x " ") o an/\Uv o S ow n cTask cNet (Q (.str an)) (ex cTooMuch)
 | _=>False
theorem zcs (cNet:Addr)(cTask:Addr)(cTooMuch:Addr):Ln (SU cNet cTask cTooMuch) 2:=λds S Q ex h=>by unfold SU at h;split at h<;>first|rfl|exact h.elim
def Qx (cNet:Addr)(cTask:Addr):Sd:=λds S Q ex=>match ds with
 | [.ref n,.str x]=>∃(ow:List Nat)(k:Tk)(o:Option Tk)(an:Str),Yi cTask cNet S n ow k/\LnX k x o an/\Uv o S ow n cTask cNet (Q (.str an)) (λT=>∀m:Nat,T[m]?=some (.lst [.str "refused"])->Q (.ref m) T)
 | _=>False
theorem zc7 (cNet:Addr)(cTask:Addr):Ln (Qx cNet cTask) 2:=λds S Q ex h=>by unfold Qx at h;split at h<;>first|rfl|exact h.elim
def R9 (cNet:Addr)(cTask:Addr):Sd:=λds S Q ex=>match ds with
 | [.ref n,.int w]=>∃(ow:List Nat)(k:Tk),Yi cTask cNet S n ow k/\(0<=w/\w<4)/\GS k/\∀T:Sto,Ng [] S T->Q .non T
 | _=>False
theorem zaz (cNet:Addr)(cTask:Addr):Ln (R9 cNet cTask) 2:=λds S Q ex h=>by unfold R9 at h;split at h<;>first|rfl|exact h.elim
def QS (cNet:Addr)(cTask:Addr):Sd:=λds S Q ex=>match ds with
 | [.ref p]=>∃(xs:List Str)(k:Tk),S[p]?=some (.lst (xs.map D.str))/\Run ⟨[],[],[],[],[],[]⟩ xs k/\xs.length<=900/\∀(T:Sto)(n:Nat)(ow:List Nat),Ng [] S T->(∀x∈ow,S.length<=x)->Yi cTask cNet T n ow k->Q (.ref n) T
 | _=>False
theorem DL (cNet:Addr)(cTask:Addr):Ln (QS cNet cTask) 1:=λds S Q ex h=>by unfold QS at h;split at h<;>first|rfl|exact h.elim
def VF:Sd:=λds S Q ex=>match ds with
 | [.int _]=>Q (.bl true) S
 | _=>False
theorem zcQ:Ln (VF) 1:=λds S Q ex h=>by unfold VF at h;split at h<;>first|rfl|exact h.elim
def Rt:Sd:=λds S Q ex=>match ds with
 | [x,y]=>(∃t:TT,Den S 0 0 t x/\Den S 0 0 t y)/\∀T:Sto,Pre S T->Q (.bl true) T
 | _=>False
theorem zbB:Ln (Rt) 2:=λds S Q ex h=>by unfold Rt at h;split at h<;>first|rfl|exact h.elim
def Ql:Sd:=λds S Q ex=>match ds with
 | [x,y]=>(∃t:TT,Den S 0 1 t x/\Den S 0 1 t y)/\∀T:Sto,Pre S T->Q (.bl true) T
 | _=>False
theorem BN:Ln (Ql) 2:=λds S Q ex h=>by unfold Ql at h;split at h<;>first|rfl|exact h.elim
def Qp:Sd:=λds S Q ex=>match ds with
 | [x,y]=>(∃t:TT,Den S 0 2 t x/\Den S 0 2 t y)/\∀T:Sto,Pre S T->Q (.bl true) T
 | _=>False
theorem zcB:Ln (Qp) 2:=λds S Q ex h=>by unfold Qp at h;split at h<;>first|rfl|exact h.elim
def Rh:Sd:=λds S Q ex=>match ds with
 | [x,y]=>(∃t:TT,Den S 0 3 t x/\Den S 0 3 t y)/\∀T:Sto,Pre S T->Q (.bl true) T
 | _=>False
theorem D2:Ln (Rh) 2:=λds S Q ex h=>by unfold Rh at h;split at h<;>first|rfl|exact h.elim
def Q6:Sd:=λds S Q ex=>match ds with
 | [x,y]=>(∃t:TT,Den S 0 4 t x/\Den S 0 4 t y)/\∀T:Sto,Pre S T->Q (.bl true) T
 | _=>False
theorem zbO:Ln (Q6) 2:=λds S Q ex h=>by unfold Q6 at h;split at h<;>first|rfl|exact h.elim
section
variable {P:Program}{w:World}{K:Fg}{mg:Str->Option Value}{base:Heap}
noncomputable def B5  (Zh:Xf K mg)(Iw:Dm K Zh.C q3 q77 Ji Qs):Fm P w K mg base 1 Zh.C q3 Qs (SD Zh.C):=
 Iw.mk' (ZN (k:=0) Iw.F za1 (Bo Zh.C) λ_ _ _ _ _ _ hr=>⟨_,(Zg (We Zh.cl Zh.n_kept (dv 0) (YC Zb)) (Zg (We Zh.cl Zh.n_weights (dv 0) (YC Zb)) (Zi (We Zh.cl Zh.n_numbers (dv 0) zdF)))),λds S Q ex h=>by
  unfold SD at h;split at h
  .rename_i n;obtain⟨T,rfl,rfl,h⟩:=h;refine WG (v:=.ref (T.length+1)) (S1:=T++[Ob.ins Zh.C [],.lst []]) (S2:=T++[Ob.ins Zh.C [],.lst []]) (n:=T.length) (fs:=[]) (λK hK=>by exact W7 (by simp) (by simp) hK) (λK hK=>by exact hK) (V0 ..) (by simp) ?_;rw[VH];refine WG (v:=.ref (T.length+2)) (S1:=T++[Ob.ins Zh.C [("kept",.ref (T.length+1))],.lst [],.lst []]) (S2:=T++[Ob.ins Zh.C [("kept",.ref (T.length+1))],.lst [],.lst []]) (n:=T.length) (fs:=[("kept",.ref (T.length+1))]) (λK hK=>by exact W7 (by simp[Z8]) (by simp) hK) (λK hK=>by exact hK) (V0 ..) (by simp) ?_;rw[VH];refine WG (v:=.ref (T.length+3)) (S1:=T++[Ob.ins Zh.C [("kept",.ref (T.length+1)),("weights",.ref (T.length+2))],.lst [],.lst [],.dct []]) (S2:=T++[Ob.ins Zh.C [("kept",.ref (T.length+1)),("weights",.ref (T.length+2))],.lst [],.lst [],.dct []]) (n:=T.length) (fs:=[("kept",.ref (T.length+1)),("weights",.ref (T.length+2))]) (λK hK=>by exact DY (by simp;rfl) (by simp) hK) (λK hK=>by exact hK) (V0 ..) (by simp) ?_;rw[VH];exact h
  .exact h.elim⟩)
noncomputable def ER  (Zd:Xq K mg)(Zh:Xf K mg)(JU:Dm K Zd.C q3 q69 Lf Po)(Wu:Fm P w K mg base 1 Zh.C q3 Qs (SD Zh.C)):Fm P w K mg base 3 Zd.C q3 Po (Sl Zh.C Zd.C):=
 JU.mk' (ZN (k:=2) JU.F zbK (Aj Zh.C Zd.C) λ_ _ _ _ _ _ hr=>⟨_,(Zg (We Zd.cl Zd.n_net (dv 0) (NB ⟨Zh.makes,Wu.m.at_,Wu.m.fn,Zh.kp⟩ Wu.ok (hr.mono ⋯) rfl Zh.m Wu.b NY)) (Zg (We Zd.cl Zd.n_meanings (dv 0) GZ) (Zg (We Zd.cl Zd.n_unknown_names (dv 0) (YC Zb)) (Zg (We Zd.cl Zd.n_unknown_ends (dv 0) (YC Zb)) (Zi (We Zd.cl Zd.n_told_rows (dv 0) (YC Zb))))))),λds S Q ex h=>by
  unfold Sl at h;split at h
  .rename_i n;obtain⟨T,rfl,rfl,h⟩:=h;refine zaU ?_;refine⟨T++[.ins Zd.C []],rfl,rfl,rfl,?_⟩;rw[show (T++[Ob.ins Zd.C []]).length=T.length+1 by simp,yG];refine zeB (n:=T.length) (S2:=T++([Ob.ins Zd.C []]++[Ob.ins Zh.C (Xj (T.length+1+1) (T.length+1+2) (T.length+1+3)),.lst [],.lst [],.dct []])) (fs:=[]) (v:=.ref (T.length+1)) (λK hK=>by exact hK) (V0 ..) ⋯ ?_;rw[vE,VH];refine WG (v:=.ref (T.length+5)) (S1:=T++Ob.ins Zd.C (Z8 "net" (.ref (T.length+1)) [])::[Ob.ins Zh.C (Xj (T.length+1+1) (T.length+1+2) (T.length+1+3)),.lst [],.lst [],.dct [],.dck []]) (n:=T.length) (fs:=Z8 "net" (.ref (T.length+1)) []) (λK hK=>by exact HM (by simp) (by simp) hK) (λK hK=>by exact hK) (V0 ..) (show 1<1000 by decide) ?_;rw[VH];refine WG (v:=.ref (T.length+6)) (S1:=T++Ob.ins Zd.C (Z8 "meanings" (.ref (T.length+5)) (Z8 "net" (.ref (T.length+1)) []))::[Ob.ins Zh.C (Xj (T.length+1+1) (T.length+1+2) (T.length+1+3)),.lst [],.lst [],.dct [],.dck [],.lst []]) (n:=T.length) (fs:=Z8 "meanings" (.ref (T.length+5)) (Z8 "net" (.ref (T.length+1)) [])) (λK hK=>by exact W7 (by simp) (by simp) hK) (λK hK=>by exact hK) (V0 ..) (show 2<1000 by decide) ?_;rw[VH];refine WG (v:=.ref (T.length+7)) (S1:=T++Ob.ins Zd.C (Z8 "unknown_names" (.ref (T.length+6)) (Z8 "meanings" (.ref (T.length+5)) (Z8 "net" (.ref (T.length+1)) [])))::[Ob.ins Zh.C (Xj (T.length+1+1) (T.length+1+2) (T.length+1+3)),.lst [],.lst [],.dct [],.dck [],.lst [],.lst []]) (n:=T.length) (fs:=Z8 "unknown_names" (.ref (T.length+6)) (Z8 "meanings" (.ref (T.length+5)) (Z8 "net" (.ref (T.length+1)) []))) (λK hK=>by exact W7 (by simp) (by simp) hK) (λK hK=>by exact hK) (V0 ..) (show 3<1000 by decide) ?_;rw[VH];refine WG (v:=.ref (T.length+8)) (S1:=T++Ob.ins Zd.C (Z8 "unknown_ends" (.ref (T.length+7)) (Z8 "unknown_names" (.ref (T.length+6)) (Z8 "meanings" (.ref (T.length+5)) (Z8 "net" (.ref (T.length+1)) []))))::[Ob.ins Zh.C (Xj (T.length+1+1) (T.length+1+2) (T.length+1+3)),.lst [],.lst [],.dct [],.dck [],.lst [],.lst [],.lst []]) (n:=T.length) (fs:=Z8 "unknown_ends" (.ref (T.length+7)) (Z8 "unknown_names" (.ref (T.length+6)) (Z8 "meanings" (.ref (T.length+5)) (Z8 "net" (.ref (T.length+1)) [])))) (λK hK=>by exact W7 (by simp) (by simp) hK) (λK hK=>by exact hK) (V0 ..) (show 4<1000 by decide) ?_;rw[VH];exact h _ _ (Ng.app (Mn Zd.C Zh.C T.length)) (λx hx=>by simp only[Z7,zB,zG,or_false] at hx;lia) (Af T)
  .exact h.elim⟩)
noncomputable def zcD  (JX:Df K mg q17 JF PH):Fk P w K mg base 1 q17 PH Pw:=
 JX.mk' (zby (k:=0) JX.F zd6 (Bc) λ_ _ _ _ _ _ hr=>⟨_,(EY (zax (zcX (Ts (Rr Pk) (Ts (Rr Pk) (Ts (Rr Pk) (Ts (Rr Pk) (Ts (Rr Pk) (Ts BO zcd))))))))),λds S Q ex h=>by
  unfold Pw at h;split at h
  .refine zez ?_;refine W7 (T:=S++[.dck [],.lst []]) (m:=S.length+1) (by simp) (by simp) ?_;refine W7 (T:=S++[.dck [],.lst [],.lst []]) (m:=S.length+2) (by simp) (by simp) ?_;refine W7 (T:=S++[.dck [],.lst [],.lst [],.lst []]) (m:=S.length+3) (by simp) (by simp) ?_;refine W7 (T:=S++[.dck [],.lst [],.lst [],.lst [],.lst []]) (m:=S.length+4) (by simp) (by simp) ?_;refine W7 (T:=S++[.dck [],.lst [],.lst [],.lst [],.lst [],.lst []]) (m:=S.length+5) (by simp) (by simp) ?_;refine HM (T:=S++[.dck [],.lst [],.lst [],.lst [],.lst [],.lst [],.dck []]) (m:=S.length+6) (by simp) (by simp) ?_;refine zbu (a:=S.length+1) (b:=S.length+2) (c:=S.length+3) (d:=S.length+4) (e:=S.length+5) (f:=S.length+6) (by simp) ?_;rw[VH];have G:∀(o:Ob)(L:Sto)(j:Nat),(S++o::L)[S.length+j]?=(o::L)[j]?:=λo L j=>by rw[yC (),xX]
   refine h _ S.length (S.length+1) (S.length+2) (S.length+3) (S.length+4) (S.length+5) (S.length+6) (Ng.app _) (λx hx=>by simp only[zB,zG,or_false] at hx;lia) ⟨G _ _ 0,G _ _ 1,G _ _ 2,G _ _ 3,G _ _ 4,G _ _ 5,G _ _ 6,?_,()⟩;simp only[yJ,zB,zG,or_false,not_or,yQ,and_true,not_false_eq_true];lia
  .exact h.elim⟩)
noncomputable def zbp  (HU:Df K mg q11 M7 OE)(ZA:mg "len"=none):Fk P w K mg base 1 q11 OE RN:=
 HU.mk' (ZN (k:=0) HU.F AF (Au) λ_ _ _ _ _ _ hr=>⟨_,(Zg (Zq (Zs Wg (dv 1) (ZX (ZK Yz) rfl ZA Boot.«len» (Za (dv 0) Zb)) (Zp _)) (Zi (Zl (Yb (dv 0) (dv 1) (λ_ _=>rfl)))) Zu) (Zi (Zl Ze))),λds S Q ex h=>by
  unfold RN at h;split at h
  .rename_i n k;obtain⟨ns,h1,h2,h3⟩:=h;refine zbP h1 ?_;rw[zC];obtain⟨j,rfl⟩:∃j:Nat,k=(j:Int):=⟨k.toNat,()⟩;rw[yK] at h3;refine ifD (λc=>?_) (λc=>?_)
   .have lj:j<ns.length:=by lia
    rw[wV,zD lj] at h3;exact Z4 (o:=.frz (ns.map D.int)) h1 (d:=.int ns[j]) (Wr (xs:=ns.map D.int) (j:=j) (v:=.int ns[j]) (by rw[zR,zD lj];rfl)) h3
   .rw[wV,yR.mpr ()] at h3;exact h3
  .exact h.elim⟩)
noncomputable def AH  (Zd:Xq K mg)(Zh:Xf K mg)(EF:Dm K Zd.C q93 q90 Lk Qw)(ZJ:mg "list"=none):Fm P w K mg base 1 Zd.C q93 Qw (Sy Zh.C Zd.C):=
 EF.mk' (ZN (k:=0) EF.F DR (EK Zh.C Zd.C) λ_ _ _ _ _ _ hr=>⟨_,(Zi (Zl (Xu (ZK UC) rfl ZJ Boot.«list» (Za (Yh Zd.cl Zd.n_unknown_names (dv 0)) Zb)))),λds S Q ex h=>by
  unfold Sy at h;split at h
  .rename_i n;obtain⟨ow,k,⟨N,a,b,c,m,u,e,r,rfl,tp⟩,h⟩:=h;refine Yc (S1:=S) (n:=n) (λK hK=>by exact hK) tp.tsk rfl ?_;exact UJ (o:=.lst (k.un.map D.str)) (Yo tp.nam rfl) h
  .exact h.elim⟩)
noncomputable def zc1  (Zd:Xq K mg)(Zh:Xf K mg)(Il:Dm K Zd.C "ends" q96 MW Rw)(ZJ:mg "list"=none):Fm P w K mg base 1 Zd.C "ends" Rw (To Zh.C Zd.C):=
 Il.mk' (ZN (k:=0) Il.F As (za9 Zh.C Zd.C) λ_ _ _ _ _ _ hr=>⟨_,(Zi (Zl (Xu (ZK UC) rfl ZJ Boot.«list» (Za (Yh Zd.cl Zd.n_unknown_ends (dv 0)) Zb)))),λds S Q ex h=>by
  unfold To at h;split at h
  .rename_i n;obtain⟨ow,k,⟨N,a,b,c,m,u,e,r,rfl,tp⟩,h⟩:=h;refine Yc (S1:=S) (n:=n) (λK hK=>by exact hK) tp.tsk rfl ?_;exact UJ (o:=.lst (k.en)) (Yo tp.ends rfl) h
  .exact h.elim⟩)
noncomputable def Du  (Zh:Xf K mg)(HL:Dm K Zh.C q34 q94 MU Q7)(ZJ:mg "list"=none):Fm P w K mg base 1 Zh.C q34 Q7 (TR Zh.C):=
 HL.mk' (ZN (k:=0) HL.F zaw (Bz Zh.C) λ_ _ _ _ _ _ hr=>⟨_,(Zi (Zl (Xu (ZK UC) rfl ZJ Boot.«list» (Za (Yh Zh.cl Zh.n_kept (dv 0)) Zb)))),λds S Q ex h=>by
  unfold TR at h;split at h
  .rename_i n;obtain⟨a,b,c,xs,h1,h2,h⟩:=h;refine Yc (to:=Y9 0) (n:=n) (λK hK=>by exact hK) h1 (KN a b c) ?_;exact UJ (o:=.lst xs) (Yo h2 rfl) h
  .exact h.elim⟩)
noncomputable def Dj  (Zh:Xf K mg)(Zd:Xq K mg)(FT:Dm K Zd.C q34 q91 LS Pf)(Vg:Fm P w K mg base 1 Zh.C q34 Q7 (TR Zh.C)):Fm P w K mg base 2 Zd.C q34 Pf (TQ Zh.C Zd.C):=
 FT.mk' (ZN (k:=1) FT.F Ce (Ah Zh.C Zd.C) λ_ _ _ _ _ _ hr=>⟨_,(Zi (Zl (YG (C:=Zh.C) (Yh Zd.cl Zd.n_net (dv 0)) Zh.cl Vg.m Vg.ok (hr.mono ⋯) Vg.b Ye))),λds S Q ex h=>by
  unfold TQ at h;split at h
  .rename_i n;obtain⟨ow,k,⟨N,a,b,c,m,u,e,r,rfl,tp⟩,h⟩:=h;refine ZP (S1:=S) (n:=N) (λK hK=>Yc (S1:=S) (n:=n) (λK hK=>by exact hK) tp.tsk rfl hK) tp.net.net rfl ?_;exact⟨a,b,c,k.ns.map Nd.d,tp.net.net,tp.net.kept,h⟩
  .exact h.elim⟩)
noncomputable def zay  (Zd:Xq K mg)(FJ:Dm K Zd.C "rows" q97 KU Qa)(ZJ:mg "list"=none):Fm P w K mg base 1 Zd.C "rows" Qa (Tt Zd.C):=
 FJ.mk' (ZN (k:=0) FJ.F zd0 (zbI Zd.C) λ_ _ _ _ _ _ hr=>⟨_,(Zi (Zl (Xu (ZK UC) rfl ZJ Boot.«list» (Za (Yh Zd.cl Zd.n_told_rows (dv 0)) Zb)))),λds S Q ex h=>by
  unfold Tt at h;split at h
  .rename_i n;obtain⟨N,m,u,e,r,rs,h1,h2,h⟩:=h;refine Yc (S1:=S) (n:=n) (λK hK=>by exact hK) h1 rfl ?_;exact UJ (o:=.lst (rs.map rwT)) (Yo h2 rfl) h
  .exact h.elim⟩)
noncomputable def zeJ  (Zd:Xq K mg)(Zh:Xf K mg)(HJ:Df K mg q18 PJ MB)(Vh:Fm P w K mg base 1 Zd.C "rows" Qa (Tt Zd.C))(W4:Fm P w K mg base 2 Zd.C q34 Pf (TQ Zh.C Zd.C))(W0:Fm P w K mg base 1 Zd.C "ends" Rw (To Zh.C Zd.C))(W6:Fm P w K mg base 1 Zd.C q93 Qw (Sy Zh.C Zd.C))(ZJ:mg "list"=none):Fk P w K mg base 3 q18 MB (Qd Zh.C Zd.C):=
 HJ.mk' (ZN (k:=2) HJ.F MK (zaC Zh.C Zd.C) λ_ _ _ _ _ _ hr=>⟨_,(Zg (Zn (i:=2) MK.nd rfl (Or.inl rfl) (YC (Za (ZQ (Za (YG (C:=Zd.C) (dv 0) Zd.cl W6.m W6.ok (hr.mono ⋯) W6.b Ye) (Za (YE hr (dv 1) Zj (λ_ _=>rfl)) Zb))) (Za (ZQ (Za (YG (C:=Zd.C) (dv 0) Zd.cl W0.m W0.ok (hr.mono ⋯) W0.b Ye) (Za (YE hr (dv 1) Zj (λ_ _=>rfl)) Zb))) Zb)))) (Zg (Zn (i:=2) MK.nd rfl (Or.inl rfl) (Zo WY (dv 2) (YC (Za (ZQ (Za (YG (C:=Zd.C) (dv 0) Zd.cl W4.m W4.ok (hr.mono ⋯) W4.b Ye) (Za (YE hr (dv 1) Zj (λ_ _=>rfl)) Zb))) (Za (ZQ (Za (YG (C:=Zd.C) (dv 0) Zd.cl Vh.m Vh.ok (hr.mono ⋯) Vh.b Ye) (Za (YE hr (dv 1) Zj (λ_ _=>rfl)) Zb))) Zb))))) (Zi (Zl (LH (x1:="_law_found") (x2:="_law_due") (N:=[]) (caps:=[]) (ar:=Zr PJ) rfl rfl cscG rfl rfl rfl ⋯ (dv 2) (λ_ _ _ _ _ _=>(ZQ (Za (dv 0) (Za (Xu (ZK UC) rfl ZJ Boot.«list» (Za (dv 1) Zb)) Zb))))))))),λds S Q ex h=>by
  unfold Qd at h;split at h
  .rename_i n g;obtain⟨ow,k,a,b,c,d,e,f,tk,P,G,h⟩:=h;obtain⟨s1,s2,s3,s4,s5,s6⟩:=Up [a,b,c,d,e] f a b c d e rfl;obtain⟨N,m,u,e0,r,ht⟩:=tk.tsk;obtain⟨N',a',b',c',m',u',e',r',_,tp⟩:=tk;have tk:Yi Zd.C Zh.C S n _ k:=⟨N',a',b',c',m',u',e',r',rfl,tp⟩
   have Gp:=G.pl;refine ZP (S1:=S) (n:=n) (λK hK=>by exact hK) ht rfl ?_;refine⟨_,k,tk,?_⟩;have g1:Ng [] S (S++[Ob.lst (k.un.map D.str)]):=Ng.app _
   have x1:(S++[Ob.lst (k.un.map D.str)])[S.length]?=some (.lst (k.un.map D.str)):=Zz _ _;generalize S++[Ob.lst (k.un.map D.str)]=S1 at g1 x1 ⊢;have P1:=P.up g1
   have tk1:=tk.up g1;refine YH (λK hK=>by exact hK) P1.st s1 ?_;refine ZP (S1:=S1) (n:=n) (λK hK=>by exact hK) (g1.2 _ _ (by simp) ht) rfl ?_;refine⟨_,k,tk1,?_⟩;have g2:Ng [] S (S1++[Ob.lst k.en]):=g1.same (Ng.app _)
   have x2:(S1++[Ob.lst k.en])[S1.length]?=some (.lst k.en):=Zz _ _
   have y1:=ZF (T:=[Ob.lst k.en]) x1;generalize S1++[Ob.lst k.en]=S2 at g2 x2 y1 ⊢;have P2:=P.up g2;refine YH (λK hK=>by exact hK) P2.st s2 ?_;have g3:Ng [] S (S2++[Ob.lst [.tup [.ref S.length,.ref a],.tup [.ref S1.length,.ref b]]]):=g2.same (Ng.app _)
   have x3:(S2++[Ob.lst [.tup [.ref S.length,.ref a],.tup [.ref S1.length,.ref b]]])[S2.length]?=some (.lst [.tup [.ref S.length,.ref a],.tup [.ref S1.length,.ref b]]):=Zz _ _;replace y1:=ZF (T:=[Ob.lst [.tup [.ref S.length,.ref a],.tup [.ref S1.length,.ref b]]]) y1;have y2:=ZF (T:=[Ob.lst [.tup [.ref S.length,.ref a],.tup [.ref S1.length,.ref b]]]) x2;refine ZP (S1:=S2++[Ob.lst [.tup [.ref S.length,.ref a],.tup [.ref S1.length,.ref b]]]) (n:=n) (λK hK=>by exact hK) (g3.2 _ _ (by simp) ht) rfl ?_;generalize S2++[Ob.lst [.tup [.ref S.length,.ref a],.tup [.ref S1.length,.ref b]]]=S3 at g3 x3 y1 y2 ⊢;have tk3:=tk.up g3;refine⟨_,k,tk3,?_⟩;have g4:Ng [] S (S3++[Ob.lst (k.ns.map Nd.d)]):=g3.same (Ng.app _)
   have x4:(S3++[Ob.lst (k.ns.map Nd.d)])[S3.length]?=some (.lst (k.ns.map Nd.d)):=Zz _ _;replace y1:=ZF (T:=[Ob.lst (k.ns.map Nd.d)]) y1;replace y2:=ZF (T:=[Ob.lst (k.ns.map Nd.d)]) y2;have y3:=ZF (T:=[Ob.lst (k.ns.map Nd.d)]) x3;generalize S3++[Ob.lst (k.ns.map Nd.d)]=S4 at g4 x4 y1 y2 y3 ⊢;have P4:=P.up g4;refine YH (λK hK=>by exact hK) P4.st s4 ?_;have tp4:=tp.up g4;refine ZP (S1:=S4) (n:=n) (λK hK=>by exact hK) tp4.tsk rfl ?_;refine⟨_,_,_,_,_,k.rw,tp4.tsk,tp4.rows,?_⟩;have g5:Ng [] S (S4++[Ob.lst (k.rw.map rwT)]):=g4.same (Ng.app _)
   have x5:(S4++[Ob.lst (k.rw.map rwT)])[S4.length]?=some (.lst (k.rw.map rwT)):=Zz _ _;replace y1:=ZF (T:=[Ob.lst (k.rw.map rwT)]) y1;replace y2:=ZF (T:=[Ob.lst (k.rw.map rwT)]) y2;replace y3:=ZF (T:=[Ob.lst (k.rw.map rwT)]) y3;have y4:=ZF (T:=[Ob.lst (k.rw.map rwT)]) x4;generalize S4++[Ob.lst (k.rw.map rwT)]=S5 at g5 x5 y1 y2 y3 y4 ⊢;have P5:=P.up g5;refine YH (λK hK=>by exact hK) P5.st s3 ?_;refine WK (xs:=[.tup [.ref S.length,.ref a],.tup [.ref S1.length,.ref b]]) (ys:=[.tup [.ref S3.length,.ref d],.tup [.ref S4.length,.ref c]]) (ZF y3) (Zz _ _) (by show 2+2<=1000;decide) ?_;have g6:Ng [] S5 (S5++[Ob.lst [.tup [.ref S3.length,.ref d],.tup [.ref S4.length,.ref c]]]++[Ob.lst ([.tup [.ref S.length,.ref a],.tup [.ref S1.length,.ref b]]++[.tup [.ref S3.length,.ref d],.tup [.ref S4.length,.ref c]])]):=(Ng.app _).same (Ng.app _)
   have x6:(S5++[Ob.lst [.tup [.ref S3.length,.ref d],.tup [.ref S4.length,.ref c]]]++[Ob.lst ([.tup [.ref S.length,.ref a],.tup [.ref S1.length,.ref b]]++[.tup [.ref S3.length,.ref d],.tup [.ref S4.length,.ref c]])])[(S5++[Ob.lst [.tup [.ref S3.length,.ref d],.tup [.ref S4.length,.ref c]]]).length]?=some (.lst [.tup [.ref S.length,.ref a],.tup [.ref S1.length,.ref b],.tup [.ref S3.length,.ref d],.tup [.ref S4.length,.ref c]]):=Zz _ _;generalize (S5++[Ob.lst [.tup [.ref S3.length,.ref d],.tup [.ref S4.length,.ref c]]]).length=q at x6 ⊢;generalize S5++[Ob.lst [.tup [.ref S3.length,.ref d],.tup [.ref S4.length,.ref c]]]++[Ob.lst ([.tup [.ref S.length,.ref a],.tup [.ref S1.length,.ref b]]++[.tup [.ref S3.length,.ref d],.tup [.ref S4.length,.ref c]])]=S6 at g6 x6 ⊢;have P6:=P5.up g6
   have HE:∀(i:Nat)(x y:D),[D.tup [.ref S.length,.ref a],.tup [.ref S1.length,.ref b],.tup [.ref S3.length,.ref d],.tup [.ref S4.length,.ref c]][i]?=some (.tup [x,y])->∃(f0 y0:Nat)(X:List D),x=.ref f0/\y=.ref y0/\S.length<=f0/\S6[f0]?=some (.lst X)/\S6[y0]?=some (.lst X)/\PlS X:=by
    intro i x y hi
    match i with
    | 0=>cases hi;exact⟨_,_,_,rfl,rfl,zA _,g6.2 _ _ (by simp) y1,P6.na,Gp _ (by simp[viS])⟩
    | 1=>cases hi;exact⟨_,_,_,rfl,rfl,g1.1,g6.2 _ _ (by simp) y2,P6.en,Gp _ (by simp[viS])⟩
    | 2=>cases hi;exact⟨_,_,_,rfl,rfl,g3.1,g6.2 _ _ (by simp) y4,P6.nd,Gp _ (by simp[viS])⟩
    | 3=>cases hi;exact⟨_,_,_,rfl,rfl,g4.1,g6.2 _ _ (by simp) x5,P6.rw,Gp _ (by simp[viS])⟩
    | i+4=>cases hi
   have g06:Ng [] S S6:=g5.same g6
   have lq:=ZL x6;refine FC (n:=q) (S1:=S6) (es:=[.tup [.ref S.length,.ref a],.tup [.ref S1.length,.ref b],.tup [.ref S3.length,.ref d],.tup [.ref S4.length,.ref c]]) (λj ys T=>Ng [S6.length] (S6++[.lst []]) T/\T[S6.length]?=some (.lst ys)/\ys.length=j/\∀y∈ys,∃(f0 y0:Nat)(X:List D),y=.tup [.ref f0,.ref y0]/\f0≠S6.length/\y0≠S6.length/\S.length<=f0/\S.length<=y0/\T[f0]?=some (.lst X)/\T[y0]?=some (.lst X)/\PlS X) (λK hK=>by exact hK) x6 (λj ys T w=>⟨w.1.2 _ _ (by simp;lia) (ZF x6),w.2.1,w.2.2.1⟩) (by show 4<=1000;decide) (λi x hx=>?_) ⟨Ng.refl,Zz _ _,rfl,λy hy=>nomatch hy⟩ ?_ ?_
   .match i with
    | 0=>cases hx;exact⟨_,_,rfl⟩
    | 1=>cases hx;exact⟨_,_,rfl⟩
    | 2=>cases hx;exact⟨_,_,rfl⟩
    | 3=>cases hx;exact⟨_,_,rfl⟩
    | i+4=>cases hx
   .rintro i x y ys T K hi ⟨gT,hT,lT,al⟩ hK;obtain⟨f0,y0,X,rfl,rfl,lo,hf,hy,pl⟩:=HE i x y hi;have lf:=ZL hf
    have ly:=ZL hy
    have hf':=gT.2 f0 _ (by simp;lia) (ZF (T:=[.lst []]) hf)
    have hy':=gT.2 y0 _ (by simp;lia) (ZF (T:=[.lst []]) hy)
    have lT2:S6.length<T.length:=ZL hT;refine UJ (o:=.lst X) (Yo hy' rfl) ?_;refine hK _ _ (ZF hT) ⟨(gT.same (Ng.app _)).same (Ng.set (by simp) _),Ym (ZF hT),by rw[zF,lT];rfl,λz hz=>?_⟩;rcases zH.1 hz with hz|hz
    .obtain⟨f1,y1,X1,e1,n1,n2,o1,o2,h1,h2,p1⟩:=al z hz;exact⟨f1,y1,X1,e1,n1,n2,o1,o2,Zk (ZF h1) n1,Zk (ZF h2) n2,p1⟩
    .rw[zU.mp hz];exact⟨f0,T.length,X,rfl,(),(),lo,by have:=g06.1;lia,Zk (ZF hf') (),Zk (BV (Zz _ _)) (),pl⟩
   .rintro ys T ⟨gT,hT,lT,al⟩;refine h T S6.length ys (Pb (ow:=[S6.length]) (g06.same (Ng.app _)) gT (λx hx=>by rw[zU.mp hx];exact g06.1)) g06.1 hT lT λy hy=>?_
    obtain⟨f1,y1,X1,e1,n1,n2,o1,o2,h1,h2,p1⟩:=al y hy;exact⟨X1,⟨f1,y1,e1,o1,o2,h1,h2⟩,p1⟩
  .exact h.elim⟩)
noncomputable def CI  (FO:Df K mg q28 Jd MI)(VJ:mg "dict"=none)(ZJ:mg "list"=none):Fk P w K mg base 1 q28 MI Pr:=
 FO.mk' (ZN (k:=0) FO.F JB (zc4) λ_ _ _ _ _ _ hr=>⟨_,(Zg (Zn (i:=1) JB.nd rfl (Or.inl rfl) (Ff rfl VJ Boot.«dict» (Za (dv 0) Zb))) (Zg (Py (i:=2) PassesOwn.never rfl JB.nd rfl (Or.inl rfl) (YC (Za Zj (Za Zj (Za Zj (Za Zj (Za Zj Zb)))))) (Zi (Ss hr (dv 1) (dv 2) (Xu (ZK UC) rfl ZJ Boot.«list» (Za (YE hr (dv 0) (dv 2) (λ_ _=>rfl)) Zb))))) (Zg (Ss hr (dv 1) Zj (Ff rfl VJ Boot.«dict» (Za (YE hr (dv 0) Zj (λ_ _=>rfl)) Zb))) (Zi (Zl (dv 1)))))),λds S Q ex h=>by
  unfold Pr at h;split at h
  .rename_i g;obtain⟨k,a,b,c,d,e,f,P,h⟩:=h;obtain⟨s1,s2,s3,s4,s5,s6⟩:=Up [a,b,c,d,e] f a b c d e rfl;refine HX (n:=g) (S1:=S) (λK hK=>by exact hK) P.st ?_;have g0:Ng [] S (S++[Ob.dck (stL [a,b,c,d,e] f)]++[Ob.lst ([("names":Str),"ends","rows","nodes","heavy"].map D.str)]):=(Ng.app _).same (Ng.app _)
   have d0:(S++[Ob.dck (stL [a,b,c,d,e] f)]++[Ob.lst ([("names":Str),"ends","rows","nodes","heavy"].map D.str)])[S.length]?=some (.dck (stL [a,b,c,d,e] f)):=ZF (Zz _ _)
   have n0:(S++[Ob.dck (stL [a,b,c,d,e] f)]++[Ob.lst ([("names":Str),"ends","rows","nodes","heavy"].map D.str)])[S.length+1]?=some (.lst ([("names":Str),"ends","rows","nodes","heavy"].map D.str)):=by rw[show S.length+1=(S++[Ob.dck (stL [a,b,c,d,e] f)]).length by simp];exact Zz _ _
   have l0:(S++[Ob.dck (stL [a,b,c,d,e] f)]++[Ob.lst ([("names":Str),"ends","rows","nodes","heavy"].map D.str)]).length=S.length+2:=by simp
   refine Ku (o:=.lst ([("names":Str),"ends","rows","nodes","heavy"].map D.str)) (λi dl' S'=>i<=5/\(∃ox:Option D,dl'=[some (.ref g),some (.ref S.length),ox])/\Ng [S.length] (S++[Ob.dck (stL [a,b,c,d,e] f)]++[Ob.lst ([("names":Str),"ends","rows","nodes","heavy"].map D.str)]) S'/\∃xs:List Nat,xs.length=i/\S'[S.length]?=some (.dck (stL (xs++[a,b,c,d,e].drop xs.length) f))/\xs.Nodup/\∀(j x:Nat)(X:List D),xs[j]?=some x->(stV k)[j]?=some X->S'[x]?=some (.lst X)/\S.length<x) ⟨⋯,⟨none,rfl⟩,Ng.refl,[],rfl,d0,yQ,λj x X hx=>nomatch hx⟩ (λi dl2 S2 w=>w.2.2.1.2 _ _ (by simp) (by simpa using n0)) ?_ ?_
   .rintro i x dl2 S2 nx2 ct2 hx ⟨i5,⟨ox,rfl⟩,g2,xs,lx,hd,nd,al⟩ hnx;obtain⟨h5,w,rfl,hw⟩:=zb7 hx;have gg:g<S.length:=ZL P.st
    have mv:∀ {y:Nat} {o:Ob},S[y]?=some o->S2[y]?=some o:=λ{y o} z=>g2.2 y o (by have:=ZL z;simp;lia) (g0.2 y o (by simp) z)
    obtain⟨y,hy⟩:∃y,[a,b,c,d,e][i]?=some y:=⟨_,zD (by simpa using h5)⟩;obtain⟨X,hX⟩:∃X,(stV k)[i]?=some X:=⟨_,zD (by simpa [stV] using h5)⟩;have l5:(xs++[a,b,c,d,e].drop xs.length).length=5:=by rw[zF,xB];show xs.length+(5-xs.length)=5;lia
    have len2:S.length+2<=S2.length:=by have:=g2.1;lia
    refine Qu (n:=S.length) (v:=.ref S2.length) (S1:=S2++[.lst X]) (S3:=S2++[.lst X]) (y:=.str w) (k:=.inr w) (λK hK=>Oj (n:=g) (S2:=S2) (y:=.str w) (k:=.inr w) (v:=.ref y) (λK hK=>by exact hK) (λK hK=>by exact hK) (mv P.st) rfl (zcR hw hy rfl) (UJ (o:=.lst X) (Yo (mv (P.all i y X hy hX)) rfl) hK)) (λK hK=>by exact hK) (λK hK=>by exact hK) (ZF hd) rfl (by unfold stL;simp;lia) ?_;rw[Bv l5 hw,show i=xs.length from lx.symm,Aa xs [a,b,c,d,e] S2.length (by show xs.length<5;lia)];refine hnx _ _ ⟨(),⟨_,rfl⟩,?_,xs++[S2.length],by rw[zF,lx];rfl,?_,?_,?_⟩
    .exact(g2.same (Ng.app _)).same (Ng.set (by simp) _)
    .rw[Ym (ZF hd),zF];rfl
    .rw[uC];refine⟨nd,by simp,λp hp q hq=>?_⟩;rw[zU.mp hq];obtain⟨j,hj,ej⟩:=yW.mp hp;obtain⟨Y,hY⟩:∃Y,(stV k)[j]?=some Y:=⟨_,zD (by show j<5;lia)⟩;have:=ZL (al j p Y (by rw[<- ej];exact zD hj) hY).1;lia
    .intro j p Y hp hY;by_cases cj:j<xs.length
     .rw[zY cj] at hp;obtain⟨z1,z2⟩:=al j p Y hp hY;exact⟨Zk (ZF z1) (),z2⟩
     .have ej:j=xs.length:=by
       have:=(zE.mp hp).1;rw[zF] at this;simp at this;lia
      subst ej;rw[yC (zA _),vD] at hp;cases hp;rw[lx,hX] at hY;cases hY;exact⟨Zk (Zz _ _) (),()⟩
   .rintro dl2 S2 ⟨i5,⟨ox,rfl⟩,g2,xs,lx,hd,nd,al⟩;have gg:g<S.length:=ZL P.st
    have mv:∀ {y:Nat} {o:Ob},S[y]?=some o->S2[y]?=some o:=λ{y o} z=>g2.2 y o (by have:=ZL z;simp;lia) (g0.2 y o (by simp) z)
    have lx5:xs.length=5:=lx
    match xs,lx5 with
    | [a',b',c',d',e'],_=>
     have A1:=al 0 a' _ rfl rfl
     have A2:=al 1 b' _ rfl rfl
     have A3:=al 2 c' _ rfl rfl
     have A4:=al 3 d' _ rfl rfl
     have A5:=al 4 e' _ rfl rfl
     have hd':S2[S.length]?=some (.dck (stL [a',b',c',d',e'] f)):=hd
     have len2:S.length+2<=S2.length:=by have:=g2.1;lia
     refine Qu (n:=S.length) (v:=.ref S2.length) (S1:=S2++[.dck (mlK k.ml)]) (S3:=S2++[.dck (mlK k.ml)]) (y:=.str "seen") (k:=.inr "seen") (λK hK=>HX (n:=f) (S1:=S2) (λK hK=>YH (λK hK=>by exact hK) (mv P.st) s6 hK) (mv P.se) hK) (λK hK=>by exact hK) (λK hK=>by exact hK) (ZF hd') rfl (by show 6<1000;decide) ?_;rw[zbo rfl];refine h _ S.length a' b' c' d' e' S2.length ?_ ?_ ⟨Ym (ZF hd'),Zk (ZF A1.1) (),Zk (ZF A2.1) (),Zk (ZF A3.1) (),Zk (ZF A4.1) (),Zk (ZF A5.1) (),Zk (Zz _ _) (),nd,()⟩
     .exact Pb (ow:=[S.length]) g0 ((g2.same (Ng.app _)).same (Ng.set (by simp) _)) (λx hx=>by rw[zU.mp hx];exact zA _)
     .intro x hx;simp only[zB,zG,or_false] at hx;lia
  .exact h.elim⟩)
noncomputable def zcL  (IA:Df K mg q22 Lu T9):Fk P w K mg base 1 q22 T9 Td:=
 IA.mk' (ZN (k:=0) IA.F Ai (D8) λ_ _ _ _ _ _ hr=>⟨_,(Zi (Zl (Zo Pj (Zo WX (Zo Wt (Zo Wt (dv 0) (Zo WX (Zo Wt Ze (dv 1)) Ze)) Ze) (Zo Wt (Zo Wt (dv 1) (dv 1)) Ze)) Ze))),λds S Q ex h=>by
  unfold Td at h;split at h
  .rename_i c k;obtain⟨⟨k0,k2⟩,h⟩:=h;have rr:=Pu (a:=c*(2*k+3)*48271+k*k*7919) (b:=2147483647) ⋯;exact⟨IntMulOk.of_left ⋯,IntMulOk.of_right (intBits_le_64 () ()),IntMulOk.of_right ⋯,IntMulOk.of_right (intBits_le_64 () ()),IntMulOk.of_right ⋯,show (0:Int)<2147483647 by decide,h _ rr.1 rr.2⟩
  .exact h.elim⟩)
noncomputable def zaK  (IB:Df K mg q33 Ki Su)(ZA:mg "len"=none):Fk P w K mg base 1 q33 Su Ux:=
 IB.mk' (ZN (k:=0) IB.F zdf (zbr) λ_ _ _ _ _ _ hr=>⟨_,(Zg (Zq (Zs (zao hr) (dv 1) (YE hr (dv 0) Zj (λ_ _=>rfl)) rfl) (Zi (Zl (zd3 (k:=1) hr ⋯ (YE hr (dv 0) Zj (λ_ _=>rfl)) (Za (dv 1) Zb)))) Zu) (Zg (Zq (PDW.pt (Y2 (Zs UE (dv 2) Ze (Zp _)) (Xk (Zs UE (ZX (ZK Yz) rfl ZA Boot.«len» (Za (YE hr (dv 0) Zj (λ_ _=>rfl)) Zb)) Ze (Zp _))))) (Zi (Zl (NG NP Ze))) Zu) (Zg (Y0 (X7 (YE hr (dv 0) Zj (λ_ _=>rfl)) (dv 1))) (Zg (Y0 (X7 (YE hr (dv 0) Zj (λ_ _=>rfl)) (dv 2))) (Zi (Zl (Zo S7 (ZX (ZK Yz) rfl ZA Boot.«len» (Za (YE hr (dv 0) Zj (λ_ _=>rfl)) Zb)) Ze))))))),λds S Q ex h=>by
  unfold Ux at h;split at h
  .rename_i g dv wt;obtain⟨v,k,a,b,c,d,e,f,rfl,P,rfl,nok,h⟩:=h;obtain⟨s1,s2,s3,s4,s5,s6⟩:=Up [a,b,c,d,e] f a b c d e rfl;have l6:=nok.sixty
   have p:=P.ap;refine YH (λK hK=>by exact hK) P.st s4 ?_;refine DA P.nd ?_;unfold YI at h;dsimp only at h;cases ei:idx v k.ns with
   | some j=>
    rw[ei] at h;refine Yy ?_;exact EN (n:=d) (v:=v) (ns:=k.ns) (λK hK=>YH (λK hK=>by exact hK) P.st s4 hK) (λK hK=>by exact hK) P.nd ei (h S Ng.refl P)
   | none=>
    rw[ei] at h;dsimp only at h;refine ZH ?_;by_cases big:16<v.w k.hs\/k.ns.length=60
    .rw[if_pos big] at h;refine ifD (λ_=>h) (λhw=>?_);refine YH (λK hK=>by exact hK) P.st s4 ?_;refine YL P.nd ?_;rw[zC];refine ifD (λ_=>h) (λhw2=>?_);lia
    .rw[if_neg big] at h;refine ifD (λhw=>absurd hw ()) (λhw=>?_);refine YH (λK hK=>by exact hK) P.st s4 ?_;refine YL P.nd ?_;rw[zC];refine ifD (λhw2=>absurd hw2 ()) (λhw2=>?_);obtain⟨P2,g2⟩:=P.node v (v.w k.hs);have hl:=nok.len;refine Wy (n:=d) (S1:=S) (xs:=k.ns.map Nd.d) (y:=v.d) (λK hK=>YH (λK hK=>by exact hK) P.st s4 hK) P.nd (λK hK=>by exact hK) (by rw[zC];lia) ?_;refine Wy (n:=e) (S1:=S.set d (.lst (k.ns.map Nd.d++[v.d]))) (xs:=k.hs.map D.int) (y:=.int (v.w k.hs)) (λK hK=>YH (λK hK=>by exact hK) (Zk P.st p.gd) s5 hK) (Zk P.hv (Ne.symm p.de)) (λK hK=>by exact hK) (by rw[zC];lia) ?_;refine YH (λK hK=>by exact hK) P2.st s4 ?_;refine YL P2.nd ?_;refine getQ (h _ g2 P2) ?_;rw[zC,zF];show ((k.ns.length:Nat):Int)=((k.ns.length+1:Nat):Int)-1;lia
  .exact h.elim⟩)
noncomputable def zdx  (GQ:Df K mg q12 Ke TM)(ZY:mg "str"=none):Fk P w K mg base 1 q12 TM Uz:=
 GQ.mk' (ZN (k:=0) GQ.F za2 (CY) λ_ _ _ _ _ _ hr=>⟨_,(Zg (Zq (Zs (ZV hr) (dv 1) Ze (Zp _)) (Zi (Zl (Xu (ZK TN) rfl ZY Boot.«str» (Za (dv 0) Zb)))) Zu) (Zi (Zl (Zo Xr (Zo Xr (Xu (ZK TN) rfl ZY Boot.«str» (Za (dv 0) Zb)) Zj) (Xu (ZK TN) rfl ZY Boot.«str» (Za (dv 1) Zb)))))),λds S Q ex h=>by
  unfold Uz at h;split at h
  .rename_i t b;obtain⟨⟨ht,b1,hb⟩,h⟩:=h;have lt:=VQ (k:=9) ⋯ ht
   have lb:=VQ (i:=b) (k:=9) ⋯ ();refine ifD (λe=>?_) (λe=>?_)
   .refine SS (Ry (k:=9) ht ⋯) ?_;rw[SK];have et:Z3 t b=num t:=by unfold Z3;rw[if_pos e,yE]
    rw[et] at h;exact h
   .refine SS (Ry (k:=9) ht ⋯) ?_;rw[SK];refine⟨by rw[YZ];show _+1<=1000;lia,?_⟩;refine SS (Ry (k:=9) () ⋯) ?_;rw[SK];have s1:mk (num t)++("/":Str)=mk (num t++[47]):=by rw[OT];exact VT (num t) [47]
    have et:mk (num t)++("/":Str)++mk (num b)=mk (Z3 t b):=by
     rw[s1,VT,yG];unfold Z3;rw[if_neg e];rfl
    refine⟨by rw[s1,YZ,YZ];simp;lia,?_⟩;show Q (.str (mk (num t)++("/":Str)++mk (num b))) S;rw[et];exact h
  .exact h.elim⟩)
noncomputable def zaL  (F5:Df K mg q13 LG Nc)(W9:Fk P w K mg base 1 q12 TM Uz)(WW:Fk P w K mg base 1 q33 Su Ux)(XG:Fk P w K mg base 1 q22 T9 Td)(ZA:mg "len"=none):Fk P w K mg base 2 q13 Nc Qk:=
 F5.mk' (ZN (k:=1) F5.F Sb (zbh) λ_ _ _ _ _ _ hr=>⟨_,(Zg (Zn (i:=3) Sb.nd rfl (Or.inl rfl) (Zo WX Ze (Zo YV (ZT XG hr (Za (dv 0) (Za Ze Zb))) Ze))) (Zg (Zn (i:=4) Sb.nd rfl (Or.inl rfl) (ZQ (Za (Zo WX (Zo Wt (dv 3) (Zo S7 (Zo YV (ZT XG hr (Za (dv 0) (Za Ze Zb))) Ze) Ze)) Ze) (Za (dv 3) Zb)))) (Zg (Zn (i:=5) Sb.nd rfl (Or.inl rfl) (ZQ (Za (Zo WX (Zy (dv 4) Ze (λ_ _=>rfl)) (Zo Wt (dv 3) (Zo YV (ZT XG hr (Za (dv 0) (Za Ze Zb))) Ze))) (Za (dv 3) Zb)))) (Zg (Zn (i:=6) Sb.nd rfl (Or.inl rfl) (ZT WW hr (Za (dv 1) (Za (ZQ (Za Zj (Za (ZX (ZK Yz) rfl ZA Boot.«len» (Za (YE hr (dv 1) Zj (λ_ _=>rfl)) Zb)) Zb))) (Za Ze Zb))))) (Zg (Y0 (X7 (YE hr (dv 1) Zj (λ_ _=>rfl)) (dv 2))) (Zg (Y0 (X7 (YE hr (dv 1) Zj (λ_ _=>rfl)) (ZQ (Za (dv 4) (Za (dv 5) Zb))))) (Zg (Ss hr (YE hr (dv 1) Zj (λ_ _=>rfl)) (dv 2) (dv 6)) (Zg (Zn (i:=7) Sb.nd rfl (Or.inl rfl) (Zo Xr (Zo Xr (Zo Xr (Zo Xr (dv 2) Zj) (ZT W9 hr (Za (Zy (dv 4) Ze (λ_ _=>rfl)) (Za (Zy (dv 4) Ze (λ_ _=>rfl)) Zb)))) Zj) (ZT W9 hr (Za (Zy (dv 5) Ze (λ_ _=>rfl)) (Za (Zy (dv 5) Ze (λ_ _=>rfl)) Zb))))) (Zi (Zl (ZQ (Za Zj (Za (dv 7) (Za (dv 6) Zb)))))))))))))),λds S Q ex h=>by
  unfold Qk at h;split at h
  .rename_i cc g nm;obtain⟨k,a,b,c,d,e,f,P,G,lm,n0,nw,nn,lu,h⟩:=h;obtain⟨s1,s2,s3,s4,s5,s6⟩:=Up [a,b,c,d,e] f a b c d e rfl;refine seqW3 (λdl' S'=>S'=S/\∃t1 t2 bb:Int,(1<=bb/\bb<=9)/\(Yt (Z3 t1 bb) t1 bb/\(Z3 t1 bb).length<=12/\t1.natAbs<10^9)/\(Yt (Z3 t2 bb) t2 bb/\(Z3 t2 bb).length<=12/\t2.natAbs<10^9)/\¬ (t2*bb<t1*bb)/\dl'=[some (.int cc),some (.ref g),some (.str nm),some (.int bb),some (.tup [.int t1,.int bb]),some (.tup [.int t2,.int bb]),none,none]) (λnx hn=>?_) ?_
   .refine⟨⟨⋯,⋯⟩,λv2 v20 _=>?_⟩;refine⟨⟨⋯,⋯⟩,λv3 v30 _=>?_⟩;have hb:1<=1+v2%9/\1+v2%9<=9:=by lia
    have hq:-1000<=v3%2001-1000/\v3%2001-1000<=1000:=by lia
    refine⟨SR (m:=20) (n:=20) (Sz.of 10000 ()) (Sz.of 10000 ()),?_⟩;refine⟨⟨⋯,⋯⟩,λv4 v40 _=>?_⟩;refine⟨SR (m:=20) (n:=20) (Sz.of 10000 ()) (Sz.of 10000 ()),?_⟩;have hm:0<=v4%12/\v4%12<=11:=by lia
    have eh:(1+v2%9)*(v3%2001-1000)+1+(1+v2%9)*(v4%12)=(1+v2%9)*(v3%2001-1000+v4%12)+1:=by rw[Int.mul_add];lia
    refine hn _ _ ⟨rfl,(1+v2%9)*(v3%2001-1000)+1,(1+v2%9)*(v3%2001-1000)+1+(1+v2%9)*(v4%12),1+v2%9,hb,EH hb ⟨hq.1,()⟩,?_,?_,rfl⟩
    .rw[eh];exact EH (b:=1+v2%9) (q:=v3%2001-1000+v4%12) hb ()
    .have:=Int.mul_nonneg (show 0<=1+v2%9 by lia) hm.1
     have:=Int.mul_le_mul_of_nonneg_right (show (1+v2%9)*(v3%2001-1000)+1<=(1+v2%9)*(v3%2001-1000)+1+(1+v2%9)*(v4%12) by lia) (show 0<=1+v2%9 by lia);lia
   rintro dl' S' ⟨rfl,t1,t2,bb,hb,⟨i1,l1,z1⟩,⟨i2,l2,z2⟩,nl,rfl⟩;refine VI (λdl' T=>Ng [d,e] S' T/\∃(k1:Tk)(v:Int),StP T g a b c d e f k1/\k1.un=k.un/\k1.en=k.en/\k1.ml=k.ml/\k1.rw=k.rw/\dl'=[some (.int cc),some (.ref g),some (.str nm),some (.int bb),some (.tup [.int t1,.int bb]),some (.tup [.int t2,.int bb]),some (.int v),none]/\((YI (k.ns,k.hs) (.unknown (k.un.length:Int))=none/\v<0)\/∃j:Nat,v=(j:Int)/\YI (k.ns,k.hs) (.unknown (k.un.length:Int))=some ((k1.ns,k1.hs),j))) (λnx hn=>?_) ?_
   .refine YH (λK hK=>by exact hK) P.st s1 ?_;refine YL P.na ?_;rw[zC];refine⟨.unknown (k.un.length:Int),k,a,b,c,d,e,f,rfl,P,rfl,G.nok,?_⟩;cases ep:YI (k.ns,k.hs) (.unknown (k.un.length:Int)) with
    | none=>exact hn _ _ ⟨Ng.refl,k,-1,P,rfl,rfl,rfl,rfl,rfl,.inl ⟨ep,⋯⟩⟩
    | some x=>
     obtain⟨⟨n1,h1⟩,j⟩:=x;intro T gT PT;exact hn _ _ ⟨gT,{ k with ns:=n1,hs:=h1 },(j:Int),PT,rfl,rfl,rfl,rfl,rfl,.inr ⟨j,rfl,ep⟩⟩
   .rintro dl' T ⟨gT,k1,v,PT,e1,e2,e3,e4,rfl,alt⟩;have p:=PT.ap
    have lu1:k1.un.length<4:=by rw[e1];exact lu
    have le1:k1.en.length<4:=by rw[e2,G.le];exact lu
    refine Wy (n:=a) (S1:=T) (xs:=k1.un.map D.str) (y:=.str nm) (λK hK=>YH (λK hK=>by exact hK) PT.st s1 hK) PT.na (λK hK=>by exact hK) (by rw[zC];lia) ?_;refine Wy (n:=b) (S1:=T.set a (.lst (k1.un.map D.str++[.str nm]))) (xs:=k1.en) (y:=enD t1 bb t2 bb) (λK hK=>YH (λK hK=>by exact hK) (Zk PT.st p.ga) s2 hK) (Zk PT.en (Ne.symm p.ab)) (λK hK=>by exact hK) () ?_;have PU:=PT.unk nm (enD t1 bb t2 bb)
    have gU:Ng (owS g a b c d e f) S' ((T.set a (.lst (k1.un.map D.str++[.str nm]))).set b (.lst (k1.en++[enD t1 bb t2 bb]))):=((Ta gT).same (Ng.set (by simp) _)).same (Ng.set (by simp) _);refine Qu (n:=f) (kvs:=mlK k1.ml) (v:=.int v) (y:=.str nm) (k:=.inr nm) (S1:=(T.set a (.lst (k1.un.map D.str++[.str nm]))).set b (.lst (k1.en++[enD t1 bb t2 bb]))) (S3:=(T.set a (.lst (k1.un.map D.str++[.str nm]))).set b (.lst (k1.en++[enD t1 bb t2 bb]))) (λK hK=>by exact hK) (λK hK=>YH (λK hK=>by exact hK) PU.st s6 hK) (λK hK=>by exact hK) PU.se rfl (by rw[Qt,e3];lia) ?_;have gV:Ng (owS g a b c d e f) S' (((T.set a (.lst (k1.un.map D.str++[.str nm]))).set b (.lst (k1.en++[enD t1 bb t2 bb]))).set f (.dck (Xa (mlK k1.ml) (.inr nm) (.int v)))):=gU.same (Ng.set (by simp) _)
    have eV:∀j:Nat,v=(j:Int)->StP (((T.set a (.lst (k1.un.map D.str++[.str nm]))).set b (.lst (k1.en++[enD t1 bb t2 bb]))).set f (.dck (Xa (mlK k1.ml) (.inr nm) (.int v)))) g a b c d e f { k1 with un:=k1.un++[nm],en:=k1.en++[enD t1 bb t2 bb],ml:=k1.ml++[(nm,j)] }:=λj ej=>by
     rw[ej,N6 j (by rw[e3];exact nn)];exact PU.seen
    generalize ((T.set a (.lst (k1.un.map D.str++[.str nm]))).set b (.lst (k1.en++[enD t1 bb t2 bb]))).set f (.dck (Xa (mlK k1.ml) (.inr nm) (.int v)))=V at gV eV ⊢;have w1:=Kj l1
    have w2:=Kj l2;obtain⟨u1,u2,u3⟩:=Cf nw w1 w2;have q1:=nw.le
    have q2:=w1.le
    have q3:=w2.le;refine⟨by show nm.length+4<=1000;lia,?_⟩;refine⟨⟨z1,(),()⟩,?_⟩;refine⟨by rw[Yp];show nm.length+4+_<=1000;lia,?_⟩;refine⟨by rw[Yp,Yp];show nm.length+4+_+1<=1000;lia,?_⟩;refine⟨⟨z2,(),()⟩,?_⟩;refine⟨by rw[Yp,Yp,Yp];show nm.length+4+_+1+_<=1000;lia,?_⟩;have ux:∀o:Option Tk,o=(YI (k.ns,k.hs) (.unknown (k.un.length:Int))).map (λp=>{ k with ns:=p.1.1,hs:=p.1.2,ml:=k.ml++[(nm,p.2)],un:=k.un++[nm],en:=k.en++[enD t1 bb t2 bb] })->LnX k (nm++(" in ":Str)++mk (Z3 t1 bb)++(" ":Str)++mk (Z3 t2 bb)) o "unknown":=λo ho=>⟨u2,by rw[u1];exact u3,by
     rw[u1];exact .unk ⟨⟨nm,_,_,t1,bb,t2,bb,rfl,n0,(),(),by rw[YQ];exact i1,by rw[YQ];exact i2,nl,nn,(),lu,by have:=G.le;lia,ho⟩⟩⟩
    rcases alt with ⟨ep,vn⟩|⟨j,ej,ep⟩
    .exact h V _ none v gV (ux none (by rw[ep];rfl)) vn
    .have pp:=QF G.nok (v:=.unknown (k.un.length:Int)) trivial ep;obtain⟨o1,lj,⟨r1,y1⟩,_⟩:=pp;refine h V _ (some { k with ns:=k1.ns,hs:=k1.hs,ml:=k.ml++[(nm,j)],un:=k.un++[nm],en:=k.en++[enD t1 bb t2 bb] }) v gV (ux _ (by rw[ep];rfl)) ⟨?_,⟨o1,?_,G.nm_snoc ⟨n0,nw⟩,by simp[G.le],by show (k.un++[nm]).length<=4;simp;lia,G.lr,λx hx=>?_⟩,(),λw hw=>M6 hw,by show (k.ml++[(nm,j)]).length<=_;simp⟩
     .have z:=eV j ej;rw[e1,e2,e3] at z;have ek:({ k1 with un:=k.un++[nm],en:=k.en++[enD t1 bb t2 bb],ml:=k.ml++[(nm,j)] }:Tk)={ k with ns:=k1.ns,hs:=k1.hs,ml:=k.ml++[(nm,j)],un:=k.un++[nm],en:=k.en++[enD t1 bb t2 bb] }:=by
       cases k1;cases k;simp only at e4 ⊢;rw[e4]
      rw[<- ek];exact z
     .exact OG (λw i q=>zK (G.mok w i q) (by show k.ns.length<=k1.ns.length;rw[y1,zF];lia)) lj
     .rcases zH.1 hx with hx|hx
      .exact G.pe x hx
      .rw[zU.mp hx];exact pl_en _ _ _ _
  .exact h.elim⟩)
noncomputable def Bs  (Gx:Df K mg q25 LZ Mx)(ZA:mg "len"=none):Fk P w K mg base 1 q25 Mx Rk:=
 Gx.mk' (ZN (k:=0) Gx.F HH (AO) λ_ _ _ _ _ _ hr=>⟨_,(Zg (Zq (PDW.pt (ND (Zs (Ka hr) (dv 1) (YC Zb) (Zp _)) (OB (Zs UE (Zo YV (dv 0) Ze) Ze (Zp _))))) (Zi (Zl (ZQ (Za Zj (Za (Yb (dv 1) (Zo Pj (Zo Vy (dv 0) Ze) (ZX (ZK Yz) rfl ZA Boot.«len» (Za (dv 1) Zb))) (λ_ _=>rfl)) Zb))))) Zu) (Zg (Zq (Zs (ZV hr) (Zo YV (Zo Vy (dv 0) Ze) Ze) Ze (Zp _)) (Zi (Zl (ZQ (Za Zj (Za (Zo S7 (Zo YV (Zo Vy (dv 0) Ze) Ze) Ze) (Za Ze Zb)))))) Zu) (Zg (Zn (i:=2) HH.nd rfl (Or.inl rfl) (Zo WX Ze (Zo YV (Zo Vy (dv 0) Ze) Ze))) (Zi (Zl (ZQ (Za Zj (Za (Zo WX (Zo Wt (dv 2) (Zo S7 (Zo YV (Zo Vy (dv 0) Ze) Ze) Ze)) Ze) (Za (dv 2) Zb))))))))),λds S Q ex h=>by
  unfold Rk at h;split at h
  .rename_i v nl;obtain⟨N,hn,ok,v0,h⟩:=h;have hn':=ZF (T:=[.lst []]) hn;refine Fw (xs:=N.map D.str) (ys:=[]) hn' (Zz _ _) (zdr N) ?_;have YK:∀(T:Sto),Pre S T->Yq (dIf (WL (dOp (wEq eq2) (dOp RX (dOp Rg (Y9 0) (dC (.int 3))) (dC (.int 2))) (dC (.int 0)))) (Q5 (dTup (Wc (dC (.str "number")) (Wc (dOp wSub (dOp RX (dOp Rg (Y9 0) (dC (.int 6))) (dC (.int 41))) (dC (.int 20))) (Wc (dC (.int 1)) X3))))) Yx) (Yq (Ow 2 (dOp wAdd (dC (.int 2)) (dOp RX (dOp Rg (Y9 0) (dC (.int 6))) (dC (.int 30))))) (Q5 (dTup (Wc (dC (.str "number")) (Wc (dOp wAdd (dOp wMul (Y9 2) (dOp wSub (dOp RX (dOp Rg (Y9 0) (dC (.int 180))) (dC (.int 21))) (dC (.int 10)))) (dC (.int 1))) (Wc (Y9 2) X3)))))) { nx:=λ_ S'=>Q .non S',rt:=Q } [some (.int v),some (.ref nl),none] T:=λT pT=>by
    refine ifD (λc1=>?_) (λc1=>?_)
    .have z:=Ip (t:=v/6%41-20) ();refine h T (.nb (v/6%41-20) 1) pT ⟨⟨z,?_⟩,λw hw=>nomatch hw⟩;unfold Z3;rw[if_pos rfl,yE];have:=VQ (i:=v/6%41-20) (k:=3) ⋯ ();lia
    .refine⟨SR (m:=20) (n:=20) (Sz.of 1000 ()) (Sz.of 1000 ()),?_⟩;have hb:2<=2+v/6%30/\2+v/6%30<=31:=by lia
     have hq:-10<=v/180%21-10/\v/180%21-10<=10:=by lia
     show Q (trD (.nb ((2+v/6%30)*(v/180%21-10)+1) (2+v/6%30))) T;generalize 2+v/6%30=b at hb ⊢;generalize v/180%21-10=q at hq ⊢;refine h T _ pT ⟨⟨BG hb.1 () (),?_⟩,λw hw=>nomatch hw⟩;have b1:=yZ hq.2 (show 0<=b by lia)
     have b2:=yZ hq.1 (show 0<=b by lia)
     have l1:=VQ (i:=b*q+1) (k:=4) ⋯ ()
     have l2:=VQ (i:=b) (k:=2) ⋯ ();unfold Z3;rw[zF];split
     .show _+0<=12;lia
     .rw[zP];lia
   cases N with
   | nil=>exact YK _ (YB Pre.refl _)
   | cons w0 N0=>
    rw[show decide (w0::N0=[])=false from rfl];refine ifD (λc1=>?_) (λc1=>?_)
    .refine YL hn' ?_;rw[zC];have hp:(0:Int)<((w0::N0).length:Nat):=by rw[zP];lia
     refine⟨hp,?_⟩;have r:=Pu (a:=v/3) hp;obtain⟨i,hi⟩:∃i:Nat,v/3%((w0::N0).length:Nat)=(i:Int):=⟨(v/3%((w0::N0).length:Nat)).toNat,()⟩;have li:i<(w0::N0).length:=by lia
     refine Z4 (o:=.lst ((w0::N0).map D.str)) hn' (d:=.str (w0::N0)[i]) (by show atI _ (v/3%((w0::N0).length:Nat))=_;rw[hi];exact WH (ws:=w0::N0) (p:=i) li) ?_;have hm:(w0::N0)[i]∈w0::N0:=xE li
     have z:=h (S++[.lst []]) (.nm (cs (w0::N0)[i])) (YB Pre.refl _) (CS hm (ok _ hm));rw[show trD (.nm (cs (w0::N0)[i]))=.tup [.str "name",.str (w0::N0)[i]] by show D.tup [.str "name",.str (mk (cs (w0::N0)[i]))]=_;rw[Ur]] at z;exact z
    .exact YK _ (YB Pre.refl _)
  .exact h.elim⟩)
noncomputable def De  (Gf:Df K mg q26 KC P0)(XG:Fk P w K mg base 1 q22 T9 Td)(PN:Fk P w K mg base 1 q25 Mx Rk)(YY:mg "range"=none):Fk P w K mg base 2 q26 P0 RW:=
 Gf.mk' (ZN (k:=1) Gf.F Wq (zau) λ_ _ _ _ _ _ hr=>⟨_,(Zg (Zn (i:=2) Wq.nd rfl (Or.inl rfl) (ZT PN hr (Za (ZT XG hr (Za (dv 0) (Za Ze Zb))) (Za (dv 1) Zb)))) (Zg (AB (i:=3) PassesOwn.never rfl Wq.nd rfl (Or.inl rfl) rfl YY (Za Ze (Za (Zo WX Ze (Zo YV (ZT XG hr (Za (dv 0) (Za Ze Zb))) Ze)) Zb)) (Zg (Zn (i:=4) Wq.nd rfl (Or.inl rfl) (ZT XG hr (Za (dv 0) (Za (dv 3) Zb)))) (Zg (Zn (i:=5) Wq.nd rfl (Or.inl rfl) (ZT PN hr (Za (Zo Vy (dv 4) Ze) (Za (dv 1) Zb)))) (Zi (Zq (Zs Wg (Zo YV (dv 4) Ze) Ze (Zp _)) (Zi (Zn (i:=2) Wq.nd rfl (Or.inl rfl) (ZQ (Za Zj (Za (dv 2) (Za (dv 5) Zb)))))) (Zi (Zq (Zs (ZV hr) (Zo YV (dv 4) Ze) Ze (Zp _)) (Zi (Zn (i:=2) Wq.nd rfl (Or.inl rfl) (ZQ (Za Zj (Za (dv 2) (Za (dv 5) Zb)))))) (Zi (Zq (Zs (ZV hr) (Zo YV (dv 4) Ze) Ze (Zp _)) (Zi (Zn (i:=2) Wq.nd rfl (Or.inl rfl) (ZQ (Za Zj (Za (dv 5) (Za (dv 2) Zb)))))) (Zi (Zq (Zs (ZV hr) (Zo YV (dv 4) Ze) Ze (Zp _)) (Zi (Zn (i:=2) Wq.nd rfl (Or.inl rfl) (ZQ (Za Zj (Za (dv 2) (Za (dv 5) Zb)))))) (Zi (Zq (Zs (ZV hr) (Zo YV (dv 4) Ze) Ze (Zp _)) (Zi (Zn (i:=2) Wq.nd rfl (Or.inl rfl) (ZQ (Za Zj (Za (dv 5) (Za (dv 2) Zb)))))) (Zi (Zq (Zs (ZV hr) (Zo YV (dv 4) Ze) Ze (Zp _)) (Zi (Zn (i:=2) Wq.nd rfl (Or.inl rfl) (ZQ (Za Zj (Za (dv 2) (Za (Yb (YC (Za Ze (Za Ze (Za Ze (Za Ze (Za Ze (Za Ze (Za Ze (Za Ze Zb))))))))) (Zo YV (Zo Vy (dv 4) Ze) Ze) (λ_ _=>rfl)) Zb)))))) (Zi (Zn (i:=2) Wq.nd rfl (Or.inl rfl) (ZQ (Za Zj (Za (dv 2) (Za (dv 2) Zb))))))))))))))))))))) (Zi (Zl (dv 2))))),λds S Q ex h=>by
  unfold RW at h;split at h
  .rename_i c nl;obtain⟨N,hn,ok,h⟩:=h;refine⟨⟨⋯,⋯⟩,λv v0 _=>?_⟩;refine⟨N,hn,ok,v0,λT t pT ht=>?_⟩;refine⟨⟨⋯,⋯⟩,λv9 v90 _=>?_⟩;refine⟨⟨⋯,⋯,(),()⟩,λk dl' S'=>Pre S S'/\∃(t:Tr)(o2 o3 o4:Option D),k<=3/\LT N k t/\dl'=[some (.int c),some (.ref nl),some (trD t),o2,o3,o4],⟨pT,t,none,none,none,⋯,.atm ht,rfl⟩,?_⟩;rintro k dl' S' ⟨pS,t,o2,o3,o4,k3,lt,rfl⟩;refine ite2 (λc1=>?_) (λc1=>?_)
   .have k2:k<=2:=by lia
    refine⟨⟨(),()⟩,λv v0 _=>?_⟩;refine⟨N,pS _ _ hn,ok,(),λT s pT hs=>?_⟩;have pp:Pre S T:=λx o e=>pT x o (pS x o e)
    refine ifD (λc2=>?_) (λc2=>?_)
    .exact⟨pp,.bi 0 t s,_,_,_,(),.lf lt hs ⋯,rfl⟩
    refine ifD (λc3=>?_) (λc3=>?_)
    .exact⟨pp,.bi 1 t s,_,_,_,(),.lf lt hs ⋯,rfl⟩
    refine ifD (λc4=>?_) (λc4=>?_)
    .exact⟨pp,.bi 1 s t,_,_,_,(),.rg lt hs ⋯,rfl⟩
    refine ifD (λc5=>?_) (λc5=>?_)
    .exact⟨pp,.bi 2 t s,_,_,_,(),.lf lt hs ⋯,rfl⟩
    refine ifD (λc6=>?_) (λc6=>?_)
    .exact⟨pp,.bi 2 s t,_,_,_,(),.rg lt hs ⋯,rfl⟩
    refine ifD (λc7=>?_) (λc7=>?_)
    .obtain⟨p,p2,p6,ea⟩:=pow8 (i:=v/8%8) ();refine Z4 (o:=.lst [D.int 2,.int 3,.int 2,.int 3,.int 4,.int 2,.int 5,.int 6]) (Zz _ _) (d:=.int p) ea ?_;exact⟨λx o e=>ZF (pp x o e),.pw t p,_,_,_,(),.pw lt p2 p6,rfl⟩
    .exact⟨pp,.bi 2 t t,_,_,_,(),.sq lt,rfl⟩
   .exact h S' t pS (lt.up k3)
  .exact h.elim⟩)
noncomputable def zd2  (FE:Df K mg q16 K9 Qe):Fk P w K mg base 1 q16 Qe SA:=
 FE.mk' (ZN (k:=0) FE.F zbk (zdO) λ_ _ _ _ _ _ hr=>⟨_,(Zg (Zq (PDW.pt (Y2 (Zs (ZV hr) (Zy (dv 0) Ze (λ_ _=>rfl)) Zj (Zp _)) (Xk (Zs (ZV hr) (Zy (dv 0) Ze (λ_ _=>rfl)) Zj (Zp _))))) (Zi (Zl Ze)) Zu) (Zg (Zq (Zs (ZV hr) (Zy (dv 0) Ze (λ_ _=>rfl)) Zj (Zp _)) (Zi (Zl Ze)) Zu) (Zg (Zq (Zs (ZV hr) (Zy (dv 0) Ze (λ_ _=>rfl)) Zj (Zp _)) (Zi (Zl Ze)) Zu) (Zi (Zl Ze))))),λds S Q ex h=>by
  unfold SA at h;split at h
  .obtain⟨t,rfl,h⟩:=h;cases t with
   | nm w=>exact h
   | nb t b=>exact h
   | pw t k=>exact h
   | bi d l r=>
    match d with
    | 0=>exact h
    | 1=>exact h
    | d+2=>exact h
  .exact h.elim⟩)
noncomputable def zdj  (n:Nat)(Uw:Df K mg q14 RO Uu)(Tv:Fk P w K mg base 1 q16 Qe SA)(Wi:Fk P w K mg base (1+1*n) q14 Uu (Uc n))(W9:Fk P w K mg base 1 q12 TM Uz)(ZY:mg "str"=none):Fk P w K mg base (1+1*n+1) q14 Uu (Uc (n+1)):=
 Uw.mk' (ZN (k:=(1+1*n+0)) Uw.F QN (Ci (n+1)) λ_ _ _ _ _ _ hr=>⟨_,(Zg (Zq (Zs (ZV hr) (Zy (dv 0) Ze (λ_ _=>rfl)) Zj (Zp _)) (Zi (Zl (YC (Za (Zy (dv 0) Ze (λ_ _=>rfl)) Zb)))) Zu) (Zg (Zq (Zs (ZV hr) (Zy (dv 0) Ze (λ_ _=>rfl)) Zj (Zp _)) (Zi (Zl (YC (Za (ZW W9 (hr.mono ()) Ye rfl (Za (Zy (dv 0) Ze (λ_ _=>rfl)) (Za (Zy (dv 0) Ze (λ_ _=>rfl)) Zb))) Zb)))) Zu) (Zg (Zq (Zs (ZV hr) (Zy (dv 0) Ze (λ_ _=>rfl)) Zj (Zp _)) (Zi (Zn (i:=2) QN.nd rfl (Or.inl rfl) (Zo WY (ZW Wi (hr.mono ()) Ye rfl (Za (Zy (dv 0) Ze (λ_ _=>rfl)) (Za Ze Zb))) (YC (Za Zj (Za (Xu (ZK TN) rfl ZY Boot.«str» (Za (Zy (dv 0) Ze (λ_ _=>rfl)) Zb)) Zb)))))) (Zi (Zq (Zs (ZV hr) (Zy (dv 0) Ze (λ_ _=>rfl)) Zj (Zp _)) (Zi (Zn (i:=2) QN.nd rfl (Or.inl rfl) (Zo WY (Zo WY (ZW Wi (hr.mono ()) Ye rfl (Za (Zy (dv 0) Ze (λ_ _=>rfl)) (Za Ze Zb))) (YC (Za Zj Zb))) (ZW Wi (hr.mono ()) Ye rfl (Za (Zy (dv 0) Ze (λ_ _=>rfl)) (Za Ze Zb)))))) (Zi (Zq (Zs (ZV hr) (Zy (dv 0) Ze (λ_ _=>rfl)) Zj (Zp _)) (Zi (Zn (i:=2) QN.nd rfl (Or.inl rfl) (Zo WY (Zo WY (ZW Wi (hr.mono ()) Ye rfl (Za (Zy (dv 0) Ze (λ_ _=>rfl)) (Za Ze Zb))) (YC (Za Zj Zb))) (ZW Wi (hr.mono ()) Ye rfl (Za (Zy (dv 0) Ze (λ_ _=>rfl)) (Za Ze Zb)))))) (Zi (Zn (i:=2) QN.nd rfl (Or.inl rfl) (Zo WY (Zo WY (ZW Wi (hr.mono ()) Ye rfl (Za (Zy (dv 0) Ze (λ_ _=>rfl)) (Za Ze Zb))) (YC (Za Zj Zb))) (ZW Wi (hr.mono ()) Ye rfl (Za (Zy (dv 0) Ze (λ_ _=>rfl)) (Za Ze Zb))))))))))) (Zg (Zq (Zs Wg (ZW Tv (hr.mono ()) Ye rfl (Za (dv 0) Zb)) (dv 1) (Zp _)) (Zi (Zl (Zo WY (Zo WY (YC (Za Zj Zb)) (dv 2)) (YC (Za Zj Zb))))) Zu) (Zi (Zl (dv 2))))))),λds S Q ex h=>by
  unfold Uc at h;split at h
  .rename_i d lv;obtain⟨t,v,rfl,rfl,v3,hd,gd,at_,l2,h⟩:=h;have w1l:=TL t;refine cutE (α:=Nat×List Str×Nat×Sto) (λa=>match a with|⟨m,_,_,_⟩=>[some (trD t),some (.int (v:Int)),some (.ref m)]) (λa=>match a with|⟨_,_,_,T⟩=>T) (λa=>match a with|⟨m,ws,k,T⟩=>Pre S T/\WsAt T m ws/\exP t.lv k ws t/\k+1<=t.dp/\ws.length+2<=t.w1) (λmain=>?_) ?_
   .cases t with
    | nm w=>
     obtain⟨n0,w0,ec⟩:=AtT.name at_;have x:=zaY n0;rw[ec] at x;exact h _ _ [mk w] 3 0 (YB Pre.refl _) ⟨Zz _ _,λy hy=>by rw[zU.mp hy];exact w0⟩ x v3 (zS _) (zA _)
    | nb t b=>
     obtain⟨n0,n1⟩:=at_;refine⟨⟨n0.top,n0.pos,n0.bot⟩,?_⟩;exact h _ _ [mk (Z3 t b)] 3 0 (YB Pre.refl _) ⟨Zz _ _,λy hy=>by rw[zU.mp hy];exact Kj n1⟩ (FF n0) v3 (zS _) (zA _)
    | pw t k=>
     have hd':t.dp+1<n+1:=hd
     have lw:t.wl+4<=200:=l2
     have lw1:t.w1+4<=t.wl+4:=w1l;refine⟨t,3,rfl,rfl,⋯,(),gd.1,at_,(),λT m1 w1 l1 k1 p1 a1 x1 v1 d1 n1=>?_⟩;have el:l1=3:=by have:=FQ x1;lia
     subst el;obtain⟨pv0,pl0⟩:=B1 gd.2;refine SS (zb2 gd.2) ?_;rw[SK];refine WK (xs:=w1.map D.str) (ys:=[.str "^",.str (mk (num k))]) (ZF a1.at_) (Zz _ _) (by rw[zC];show w1.length+2<=1000;lia) ?_;rw[show w1.map D.str++[.str "^",.str (mk (num k))]=(w1++[("^":Str),mk (num k)]).map D.str by simp];refine main (_,w1++[("^":Str),mk (num k)],k1,_) ⟨YB (YB p1 _) _,⟨Zz _ _,λw hw=>?_⟩,Ex.pow (a:=("^":Str)) ⋯ (Ti _ _ pv0) pv0 x1,by show k1+1<=t.dp+1;lia,by show (w1++[("^":Str),mk (num k)]).length+2<=t.w1+4;simp;lia⟩;simp only[zH,zB,zG,or_false] at hw;rcases hw with hw|rfl|rfl
     .exact a1.ok w hw
     .exact U3 ⋯
     .exact D7 gd.2
    | bi d l r=>
     have hd':max l.dp r.dp+1<n+1:=hd
     have lw:l.wl+r.wl+3<=200:=l2
     have lw1:=TL l
     have lw2:=TL r
     match d,gd with
     | 0,gd=>
     refine⟨l,0,rfl,rfl,⋯,(),gd.1,at_.1,(),λT m1 w1 l1 k1 p1 a1 x1 v1 d1 n1=>?_⟩;refine WK (xs:=w1.map D.str) (ys:=[.str "+"]) (ZF a1.at_) (Zz _ _) (by rw[zC];show w1.length+1<=1000;lia) ?_;have q1:Pre S (T++[Ob.lst [.str "+"]]++[Ob.lst (w1.map D.str++[.str "+"])]):=YB (YB p1 _) _
     have b1:(T++[Ob.lst [.str "+"]]++[Ob.lst (w1.map D.str++[.str "+"])])[(T++[Ob.lst [.str "+"]]).length]?=some (.lst (w1.map D.str++[.str "+"])):=Zz _ _;generalize (T++[Ob.lst [.str "+"]]).length=mm at b1 ⊢;generalize T++[Ob.lst [.str "+"]]++[Ob.lst (w1.map D.str++[.str "+"])]=T1 at q1 b1 ⊢;refine⟨r,1,rfl,rfl,⋯,(),gd.2.1,at_.2,(),λT2 m2 w2 l2 k2 p2 a2 x2 v2 d2 n2=>?_⟩;refine WK (xs:=w1.map D.str++[.str "+"]) (ys:=w2.map D.str) (p2 _ _ b1) a2.at_ (by rw[zF,zC,zC];show w1.length+1+w2.length<=1000;lia) ?_;rw[show w1.map D.str++[.str "+"]++w2.map D.str=(w1++("+":Str)::w2).map D.str by simp];refine main (_,w1++("+":Str)::w2,max k1 k2,_) ⟨YB (λx o e=>p2 x o (q1 x o e)) _,⟨Zz _ _,λw hw=>?_⟩,Ex.sum (a:=("+":Str)) (n:=0) ⋯ v2 x1 x2,by show max k1 k2+1<=max l.dp r.dp+1;lia,by show (w1++("+":Str)::w2).length+2<=l.w1+r.w1+3;simp;lia⟩;rcases zH.1 hw with hw|hw
     .exact a1.ok w hw
     .rcases zB.mp hw with rfl|hw
      .exact U3 ⋯
      .exact a2.ok w hw
     | 1,gd=>
     refine⟨l,0,rfl,rfl,⋯,(),gd.1,at_.1,(),λT m1 w1 l1 k1 p1 a1 x1 v1 d1 n1=>?_⟩;refine WK (xs:=w1.map D.str) (ys:=[.str "-"]) (ZF a1.at_) (Zz _ _) (by rw[zC];show w1.length+1<=1000;lia) ?_;have q1:Pre S (T++[Ob.lst [.str "-"]]++[Ob.lst (w1.map D.str++[.str "-"])]):=YB (YB p1 _) _
     have b1:(T++[Ob.lst [.str "-"]]++[Ob.lst (w1.map D.str++[.str "-"])])[(T++[Ob.lst [.str "-"]]).length]?=some (.lst (w1.map D.str++[.str "-"])):=Zz _ _;generalize (T++[Ob.lst [.str "-"]]).length=mm at b1 ⊢;generalize T++[Ob.lst [.str "-"]]++[Ob.lst (w1.map D.str++[.str "-"])]=T1 at q1 b1 ⊢;refine⟨r,1,rfl,rfl,⋯,(),gd.2.1,at_.2,(),λT2 m2 w2 l2 k2 p2 a2 x2 v2 d2 n2=>?_⟩;refine WK (xs:=w1.map D.str++[.str "-"]) (ys:=w2.map D.str) (p2 _ _ b1) a2.at_ (by rw[zF,zC,zC];show w1.length+1+w2.length<=1000;lia) ?_;rw[show w1.map D.str++[.str "-"]++w2.map D.str=(w1++("-":Str)::w2).map D.str by simp];refine main (_,w1++("-":Str)::w2,max k1 k2,_) ⟨YB (λx o e=>p2 x o (q1 x o e)) _,⟨Zz _ _,λw hw=>?_⟩,Ex.sum (a:=("-":Str)) (n:=1) ⋯ v2 x1 x2,by show max k1 k2+1<=max l.dp r.dp+1;lia,by show (w1++("-":Str)::w2).length+2<=l.w1+r.w1+3;simp;lia⟩;rcases zH.1 hw with hw|hw
     .exact a1.ok w hw
     .rcases zB.mp hw with rfl|hw
      .exact U3 ⋯
      .exact a2.ok w hw
     | 2,gd=>
     refine⟨l,1,rfl,rfl,⋯,(),gd.1,at_.1,(),λT m1 w1 l1 k1 p1 a1 x1 v1 d1 n1=>?_⟩;refine WK (xs:=w1.map D.str) (ys:=[.str "*"]) (ZF a1.at_) (Zz _ _) (by rw[zC];show w1.length+1<=1000;lia) ?_;have q1:Pre S (T++[Ob.lst [.str "*"]]++[Ob.lst (w1.map D.str++[.str "*"])]):=YB (YB p1 _) _
     have b1:(T++[Ob.lst [.str "*"]]++[Ob.lst (w1.map D.str++[.str "*"])])[(T++[Ob.lst [.str "*"]]).length]?=some (.lst (w1.map D.str++[.str "*"])):=Zz _ _;generalize (T++[Ob.lst [.str "*"]]).length=mm at b1 ⊢;generalize T++[Ob.lst [.str "*"]]++[Ob.lst (w1.map D.str++[.str "*"])]=T1 at q1 b1 ⊢;refine⟨r,2,rfl,rfl,⋯,(),gd.2.1,at_.2,(),λT2 m2 w2 l2 k2 p2 a2 x2 v2 d2 n2=>?_⟩;refine WK (xs:=w1.map D.str++[.str "*"]) (ys:=w2.map D.str) (p2 _ _ b1) a2.at_ (by rw[zF,zC,zC];show w1.length+1+w2.length<=1000;lia) ?_;rw[show w1.map D.str++[.str "*"]++w2.map D.str=(w1++("*":Str)::w2).map D.str by simp];refine main (_,w1++("*":Str)::w2,max k1 k2,_) ⟨YB (λx o e=>p2 x o (q1 x o e)) _,⟨Zz _ _,λw hw=>?_⟩,Ex.tim (a:=("*":Str)) ⋯ v1 v2 x1 x2,by show max k1 k2+1<=max l.dp r.dp+1;lia,by show (w1++("*":Str)::w2).length+2<=l.w1+r.w1+3;simp;lia⟩;rcases zH.1 hw with hw|hw
     .exact a1.ok w hw
     .rcases zB.mp hw with rfl|hw
      .exact U3 ⋯
      .exact a2.ok w hw
     | d+3,gd=>exact absurd gd.2.2 ()
   .rintro⟨m,ws,k,T⟩ ⟨pT,wa,x,kd,wn⟩;refine⟨t,rfl,?_⟩;refine ifD (λc1=>?_) (λc1=>?_)
    .refine WK (xs:=[.str "("]) (ys:=ws.map D.str) (Zz _ _) (ZF wa.at_) (by rw[zC];show 1+ws.length<=1000;lia) ?_;refine WK (xs:=[.str "("]++ws.map D.str) (ys:=[.str ")"]) (ZF (Zz _ _)) (Zz _ _) (by rw[zF,zC];show 1+ws.length+1<=1000;lia) ?_;refine h _ _ (("(":Str)::ws++[(")":Str)]) 3 (k+1) (YB (YB (YB (YB pT _) _) _) _) ⟨by rw[Zz];simp,λw hw=>?_⟩ (Ex.shut ⋯ ⋯ x) v3 kd (by simp;lia);simp only[xF,zB,zH,zG,or_false] at hw;rcases hw with rfl|hw|rfl
     .exact U3 ⋯
     .exact wa.ok w hw
     .exact U3 ⋯
    .exact h T m ws t.lv k pT wa x () () ()
  .exact h.elim⟩)
noncomputable def HI (Uw:Df K mg "_law_words" RO Uu)(Tv:Fk P w K mg base 1 "_law_level" Qe SA)(W9:Fk P w K mg base 1 "_law_number" TM Uz)(ZY:mg "str"=none):(n:Nat)->Fk P w K mg base (1+1*n) "_law_words" Uu (Uc n)
 | 0=>Uw.vac _ λds S Q ex h=>by
  unfold Uc at h;split at h
  .obtain⟨t,v,_,_,_,h1,_⟩:=h;lia
  .exact h.elim
 | n+1=>
  let Wi:=HI Uw Tv W9 ZY n
  zdj n Uw Tv Wi W9 ZY
noncomputable def zal  (Er:Df K mg q29 LU Mv)(Wi:Fk P w K mg base 13 q14 Uu (Uc 12))(Lq:Fk P w K mg base 2 q26 P0 RW)(ZJ:mg "list"=none):Fk P w K mg base 14 q29 Mv QI:=
 Er.mk' (ZN (k:=13) Er.F En (Ck) λ_ _ _ _ _ _ hr=>⟨_,(Zg (Zn (i:=2) En.nd rfl (Or.inl rfl) (ZT Lq hr (Za (dv 0) (Za (zam rfl rfl ZJ Boot.«list» (Za (YE hr (dv 1) Zj (λ_ _=>rfl)) Zb)) Zb)))) (Zi (Zl (ZQ (Za (dv 2) (Za (zbs Zj (Za (ZT Wi hr (Za (dv 2) (Za Ze Zb))) Zb)) Zb)))))),λds S Q ex h=>by
  unfold QI at h;split at h
  .rename_i cc g;obtain⟨k,a,b,c,d,e,f,P,G,h⟩:=h;obtain⟨s1,s2,s3,s4,s5,s6⟩:=Up [a,b,c,d,e] f a b c d e rfl;refine zdW (n:=f) (S1:=S) (kvs:=mlK k.ml) (λK hK=>YH (λK hK=>by exact hK) P.st s6 hK) P.se ?_;refine⟨k.ml.map (·.1),by rw[Zz,zc0],G.nm,λT t pT lt=>?_⟩;obtain⟨gd,w1,wl,dp,ats,_⟩:=MT lt;refine zcH ?_;refine⟨t,0,rfl,rfl,⋯,(),gd,ats,(),λT2 m2 ws l b2 pT2 wa x _ kd wn=>?_⟩;dsimp only[X3];rw[Yo wa.at_ rfl];refine⟨ws,Ey ws,⋯,λz hz=>by have:=(wa.ok z hz).le;lia,(),?_⟩;exact h T2 t ws l b2 (λy o e=>pT2 y o (pT y o (ZF e))) lt x () () wa.ok
  .exact h.elim⟩)
noncomputable def zcM  (n:Nat)(Ud:Df K mg q6 RS Ue)(WW:Fk P w K mg base 1 q33 Su Ux)(Vv:Fk P w K mg base (1+1*n) q6 Ue (Ua n)):Fk P w K mg base (1+1*n+1) q6 Ue (Ua (n+1)):=
 Ud.mk' (ZN (k:=(1+1*n+0)) Ud.F MY (DV (n+1)) λ_ _ _ _ _ _ hr=>⟨_,(Zg (Zq (Zs (ZV hr) (Zy (dv 1) Ze (λ_ _=>rfl)) Zj (Zp _)) (Zi (Zl (YE hr (YE hr (dv 0) Zj (λ_ _=>rfl)) (Zy (dv 1) Ze (λ_ _=>rfl)) (λ_ _=>rfl)))) Zu) (Zg (Zq (Zs (ZV hr) (Zy (dv 1) Ze (λ_ _=>rfl)) Zj (Zp _)) (Zi (Zl (ZW WW (hr.mono ()) Ye rfl (Za (dv 0) (Za (dv 1) (Za Ze Zb)))))) Zu) (Zg (Zn (i:=2) MY.nd rfl (Or.inl rfl) (ZW Vv (hr.mono ()) Ye rfl (Za (dv 0) (Za (Zy (dv 1) Ze (λ_ _=>rfl)) Zb)))) (Zg (Zq (Zs Wg (dv 2) Ze (Zp _)) (Zi (Zl (NG NP Ze))) Zu) (Zg (Zq (Zs (ZV hr) (Zy (dv 1) Ze (λ_ _=>rfl)) Zj (Zp _)) (Zi (Zl (ZW WW (hr.mono ()) Ye rfl (Za (dv 0) (Za (ZQ (Za Zj (Za (dv 2) (Za (Zy (dv 1) Ze (λ_ _=>rfl)) Zb)))) (Za (Zo Wt (Zy (dv 1) Ze (λ_ _=>rfl)) (Yb (YE hr (dv 0) Zj (λ_ _=>rfl)) (dv 2) (λ_ _=>rfl))) Zb)))))) Zu) (Zg (Zn (i:=3) MY.nd rfl (Or.inl rfl) (ZW Vv (hr.mono ()) Ye rfl (Za (dv 0) (Za (Zy (dv 1) Ze (λ_ _=>rfl)) Zb)))) (Zg (Zq (Zs Wg (dv 3) Ze (Zp _)) (Zi (Zl (NG NP Ze))) Zu) (Zi (Zl (ZW WW (hr.mono ()) Ye rfl (Za (dv 0) (Za (ZQ (Za (Zy (dv 1) Ze (λ_ _=>rfl)) (Za (dv 2) (Za (dv 3) Zb)))) (Za (Zo WX (Yb (YE hr (dv 0) Zj (λ_ _=>rfl)) (dv 2) (λ_ _=>rfl)) (Yb (YE hr (dv 0) Zj (λ_ _=>rfl)) (dv 3) (λ_ _=>rfl))) Zb))))))))))))),λds S Q ex h=>by
  unfold Ua at h;split at h
  .rename_i g dt;obtain⟨t,k,a,b,c,d,e,f,rfl,hd,P,nok,mok,gd,nms,h⟩:=h;obtain⟨s1,s2,s3,s4,s5,s6⟩:=Up [a,b,c,d,e] f a b c d e rfl;cases t with
   | nm w=>
    obtain⟨j,ej⟩:=nms (mk w) (zU.mpr rfl);refine Oj (n:=f) (kvs:=mlK k.ml) (y:=.str (mk w)) (k:=.inr (mk w)) (v:=.int (j:Int)) (λK hK=>YH (λK hK=>by exact hK) P.st s6 hK) (λK hK=>by exact hK) P.se rfl (by rw[Sk,ej];rfl) ?_;have e0:ZR k.ms (.nm w) (k.ns,k.hs)=some ((k.ns,k.hs),j):=by
     show (k.ml.lookup (mk w)).map _=_;rw[ej];rfl
    rw[e0] at h;exact h S Ng.refl P
   | nb t b0=>exact⟨.number t b0,k,a,b,c,d,e,f,rfl,P,rfl,nok,V4.imp h (λ_ z=>z S Ng.refl) λns hs j _ z=>z⟩
   | pw t k0=>
    have hd':t.dp+1<n+1:=hd;refine⟨t,k,a,b,c,d,e,f,rfl,(),P,nok,mok,gd.1,nms,?_⟩;have e0:ZR k.ms (.pw t k0) (k.ns,k.hs)=(match ZR k.ms t (k.ns,k.hs) with|some (N1,i)=>YI N1 (.power i k0)|none=>none):=rfl;rw[e0] at h;cases e1:ZR k.ms t (k.ns,k.hs) with
    | none=>
     rw[e1] at h;exact h
    | some x=>
     obtain⟨⟨n1,h1⟩,i⟩:=x;rw[e1] at h;obtain⟨o1,l1,_,_⟩:=Wx t nok mok gd.1 e1;have hl:=o1.len;intro T gT PT;have ii:inL h1 (i:Int):=⟨(),()⟩
     have sm:=Pg o1.small ii
     have g2:=gd.2;refine YH (λK hK=>by exact hK) PT.st s5 ?_;refine Z4 (o:=.lst (h1.map D.int)) PT.hv (TZ ii) ?_;refine⟨IntMulOk.of_left (intBits_le_64 () ()),?_⟩;refine⟨.power (i:Int) k0,{ k with ns:=n1,hs:=h1 },a,b,c,d,e,f,rfl,PT,rfl,o1,?_⟩;exact V4.imp h (λ_ z=>z T gT) λns hs j _ z T3 g3 P3=>z T3 (gT.same g3) P3
   | bi dd tl tr=>
    have hd':max tl.dp tr.dp+1<n+1:=hd
    have e0:ZR k.ms (.bi dd tl tr) (k.ns,k.hs)=(match ZR k.ms tl (k.ns,k.hs) with|some (N1,i)=>(match ZR k.ms tr N1 with|some (N2,j)=>YI N2 (.two (kdS dd) i j)|none=>none)|none=>none):=rfl;rw[e0] at h;have c3:dd=0\/dd=1\/dd=2:=by have:=gd.2.2;lia
    rcases c3 with rfl|rfl|rfl
    all_goals
     refine⟨tl,k,a,b,c,d,e,f,rfl,(),P,nok,mok,gd.1,λw hw=>nms w (yH _ hw),?_⟩;cases e1:ZR k.ms tl (k.ns,k.hs) with
     | none=>
      rw[e1] at h;exact h
     | some x=>
      obtain⟨⟨n1,h1⟩,i⟩:=x;rw[e1] at h;obtain⟨o1,l1,⟨r1,rfl⟩,⟨u1,rfl⟩⟩:=Wx tl nok mok gd.1 e1;dsimp only at h;intro T gT PT;refine⟨tr,{ k with ns:=k.ns++r1,hs:=k.hs++u1 },a,b,c,d,e,f,rfl,(),PT,o1,λw j q=>by have:=mok w j q;show j<(k.ns++r1).length;rw[zF];lia,gd.2.1,λw hw=>nms w (zX _ hw),?_⟩;cases e2:ZR k.ms tr (k.ns++r1,k.hs++u1) with
      | none=>
       rw[e2] at h;exact λU u=>h U (gT.same u)
      | some y=>
       obtain⟨⟨n2,h2⟩,i2⟩:=y;rw[e2] at h;obtain⟨o2,l2,⟨r2,rfl⟩,⟨u2,rfl⟩⟩:=Wx tr o1 (λw j q=>by have:=mok w j q;rw[zF];lia) gd.2.1 e2;have hl:=o2.len
       have l1':i<(k.ns++r1++r2).length:=by rw[zF];lia
       have li:inL (k.hs++u1++u2) (i:Int):=⟨(),by rw[<- hl];exact xZ.mpr l1'⟩
       have lj:inL (k.hs++u1++u2) (i2:Int):=⟨(),by rw[<- hl];exact xZ.mpr l2⟩;intro U gU PU;obtain⟨q1,q2,q3,q4,q5,q6⟩:=Up [a,b,c,d,e] f a b c d e rfl;refine YH (λK hK=>by exact hK) PU.st q5 ?_;refine Z4 (o:=.lst ((k.hs++u1++u2).map D.int)) PU.hv (TZ li) ?_;refine YH (λK hK=>by exact hK) PU.st q5 ?_;refine Z4 (o:=.lst ((k.hs++u1++u2).map D.int)) PU.hv (TZ lj) ?_;refine⟨.two _ (i:Int) (i2:Int),{ k with ns:=k.ns++r1++r2,hs:=k.hs++u1++u2 },a,b,c,d,e,f,rfl,PU,rfl,o2,?_⟩;exact V4.imp h (λ_ z=>z U (gT.same gU)) λns hs j _ z T3 g3 P3=>z T3 ((gT.same gU).same g3) P3
  .exact h.elim⟩)
noncomputable def HG (Ud:Df K mg "_law_put_tree" RS Ue)(WW:Fk P w K mg base 1 "_law_put" Su Ux):(n:Nat)->Fk P w K mg base (1+1*n) "_law_put_tree" Ue (Ua n)
 | 0=>Ud.vac _ λds S Q ex h=>by
  unfold Ua at h;split at h
  .obtain⟨t,_,_,_,_,_,_,_,_,h1,_⟩:=h;lia
  .exact h.elim
 | n+1=>
  let Vv:=HG Ud WW n
  zcM n Ud WW Vv
noncomputable def zbT  (Gr:Df K mg q30 Lj Mp)(Vv:Fk P w K mg base 13 q6 Ue (Ua 12))(O9:Fk P w K mg base 14 q29 Mv QI)(XG:Fk P w K mg base 1 q22 T9 Td)(MM:Fk P w K mg base 2 q13 Nc Qk)(ZA:mg "len"=none):Fk P w K mg base 15 q30 Mp Rv:=
 Gr.mk' (ZN (k:=14) Gr.F UA (By) λ_ _ _ _ _ _ hr=>⟨_,(Zg (Zn (i:=3) UA.nd rfl (Or.inl rfl) (Zo YV (ZT XG hr (Za (dv 0) (Za Ze Zb))) Ze)) (Zg (Zq (PDW.pt (ND (Zs Wg (dv 3) Ze (Zp _)) (OB (Zs Wg (ZX (ZK Yz) rfl ZA Boot.«len» (Za (YE hr (dv 1) Zj (λ_ _=>rfl)) Zb)) Ze (Zp _))))) (Zi (Zl (ZT MM hr (Za (dv 0) (Za (dv 1) (Za (dv 2) Zb)))))) Zu) (Zg (Zn (i:=4) UA.nd rfl (Or.inl rfl) (ZT O9 hr (Za (ZT XG hr (Za (dv 0) (Za Ze Zb))) (Za (dv 1) Zb)))) (Zg (Zq (PDW.pt (Y2 (Zs Wg (dv 3) Ze (Zp _)) (Xk (Zs UE (ZX (ZK Yz) rfl ZA Boot.«len» (Za (YE hr (dv 1) Zj (λ_ _=>rfl)) Zb)) Ze (Zp _))))) (Zg (Zn (i:=5) UA.nd rfl (Or.inl rfl) (ZT Vv hr (Za (dv 1) (Za (Zy (dv 4) Ze (λ_ _=>rfl)) Zb)))) (Zg (Ss hr (YE hr (dv 1) Zj (λ_ _=>rfl)) (dv 2) (dv 5)) (Zi (Zl (ZQ (Za Zj (Za (Zo Xr (Zo Xr (Zo Xr Zj (dv 2)) Zj) (Zy (dv 4) Ze (λ_ _=>rfl))) (Za (dv 5) Zb)))))))) Zu) (Zg (Zn (i:=6) UA.nd rfl (Or.inl rfl) (ZT O9 hr (Za (ZT XG hr (Za (dv 0) (Za Ze Zb))) (Za (dv 1) Zb)))) (Zg (Zq (PDW.pt (ND (Zs (ZV hr) (dv 3) Ze (Zp _)) (OB (Zs (ZV hr) (Zo YV (dv 0) Ze) Ze (Zp _))))) (Zi (Zn (i:=6) UA.nd rfl (Or.inl rfl) (ZQ (Za (ZQ (Za Zj (Za Ze (Za Ze Zb)))) (Za Zj Zb))))) Zu) (Zg (Zn (i:=5) UA.nd rfl (Or.inl rfl) (ZT Vv hr (Za (dv 1) (Za (ZQ (Za Zj (Za (Zy (dv 4) Ze (λ_ _=>rfl)) (Za (Zy (dv 6) Ze (λ_ _=>rfl)) Zb)))) Zb)))) (Zg (Y0 (X7 (YE hr (dv 1) Zj (λ_ _=>rfl)) (ZQ (Za (Yb (YC (Za Zj (Za Zj Zb))) (Zo S7 (dv 3) Ze) (λ_ _=>rfl)) (Za (dv 5) Zb))))) (Zi (Zl (ZQ (Za Zj (Za (Zo Xr (Zo Xr (Zy (dv 4) Ze (λ_ _=>rfl)) (Yb (YC (Za Zj (Za Zj Zb))) (Zo S7 (dv 3) Ze) (λ_ _=>rfl))) (Zy (dv 6) Ze (λ_ _=>rfl))) (Za (dv 5) Zb)))))))))))))),λds S Q ex h=>by
  unfold Rv at h;split at h
  .rename_i cc g nm;obtain⟨k,a,b,c,d,e,f,P,G,lm,n0,nw,nn,h⟩:=h;obtain⟨s1,s2,s3,s4,s5,s6⟩:=Up [a,b,c,d,e] f a b c d e rfl;refine Tz (λdl' T=>T=S/\∃wt:Int,(0<=wt/\wt<=6)/\dl'=[some (.int cc),some (.ref g),some (.str nm),some (.int wt),none,none,none]) (λnx hn=>?_) ?_
   .refine⟨⟨⋯,⋯⟩,λv v0 _=>?_⟩;refine ifD (λc1=>?_) (λc1=>?_)
    .refine YH (λK hK=>by exact hK) P.st s1 ?_;refine YL P.na ?_;rw[zC];refine ifD (λc2=>?_) (λc2=>?_)
     .exact⟨k,a,b,c,d,e,f,P,G,lm,n0,nw,nn,(),λT x o v gT lx lr=>h T x "unknown" o v gT lx lr⟩
     .exact hn _ _ ⟨rfl,v%7,(),rfl⟩
    .exact hn _ _ ⟨rfl,v%7,(),rfl⟩
   rintro dl' S' ⟨rfl,wt,w07,rfl⟩;refine VI (λdl' T=>Pre S' T/\∃(t:Tr)(ws:List Str)(l b0:Nat),LT (k.ml.map (·.1)) 3 t/\exP l b0 ws t/\b0<=3/\ws.length<=29/\(∀w∈ws,Yg w)/\dl'=[some (.int cc),some (.ref g),some (.str nm),some (.int wt),some (.tup [trD t,.str (Txt.join " " ws)]),none,none]) (λnx hn=>?_) ?_
   .refine⟨⟨⋯,⋯⟩,λv6 _ _=>?_⟩;exact⟨k,a,b,c,d,e,f,P,G,λT t ws l b0 pT lt x b3 l29 ok=>hn _ _ ⟨pT,t,ws,l,b0,lt,x,b3,l29,ok,rfl⟩⟩
   rintro dl' T ⟨pT,t,ws,l,b0,lt,x,b3,l29,ok,rfl⟩;obtain⟨gd,_,_,dp,ats,nmsN⟩:=MT lt;have PT:=P.up (Ng.of pT);refine VI (λdl' T'=>T'=T/\k.rw.length<=11/\5<=wt/\dl'=[some (.int cc),some (.ref g),some (.str nm),some (.int wt),some (.tup [trD t,.str (Txt.join " " ws)]),none,none]) (λnx hn=>?_) ?_
   .refine(λ(H:Unit->_)=>ifD (λc1=>H Unit.unit) (λc1=>?_)) (λ_=>?_)
    .refine YH (λK hK=>by exact hK) PT.st s3 ?_;refine YL PT.rw ?_;rw[zC];refine ifD (λc2=>H Unit.unit) (λc2=>?_);exact hn _ _ ⟨rfl,(),(),rfl⟩
    .skip
     have el:cs (("let ":Str)++nm++(" = ":Str))=[108,101,116,32]++cs nm++[32,61,32]:=by
      rw[WA,WA,show cs ("let ":Str)=[108,101,116,32] by decide,show cs (" = ":Str)=[32,61,32] by decide]
     obtain⟨u1,u2,u3,u4,u5⟩:=BS el (OP x) nw ok ();have px:∀o:Option Tk,o=(ZR k.ms t (k.ns,k.hs)).map (λp=>{ k with ns:=p.1.1,hs:=p.1.2,ml:=k.ml++[(nm,p.2)] })->LnX k (("let ":Str)++nm++(" = ":Str)++Txt.join " " ws) o "part":=λo ho=>⟨u2,by rw[u1];exact u3,by
      rw[u1];exact .par ⟨⟨nm,ws,t,rfl,n0,LO x () (),nn,(),Jq x nmsN ok,ho⟩⟩⟩
     have qn:=nw.le;refine⟨t,k,a,b,c,d,e,f,rfl,(),PT,G.nok,G.mok,gd,λw hw=>RH (nmsN w hw),?_⟩;cases ep:ZR k.ms t (k.ns,k.hs) with
     | none=>
      intro T2 g2;have hg2:=g2.2 _ _ (by simp[PT.ap.gd,PT.ap.ge]) PT.st
      have hf2:=g2.2 _ _ (by simp[PT.ap.fd,PT.ap.fe]) PT.se;refine Qu (n:=f) (kvs:=mlK k.ml) (v:=.int (-1)) (y:=.str nm) (k:=.inr nm) (S1:=T2) (S3:=T2) (λK hK=>by exact hK) (λK hK=>YH (λK hK=>by exact hK) hg2 s6 hK) (λK hK=>by exact hK) hf2 rfl (by rw[Qt];lia) ?_;refine⟨by show 4+nm.length<=1000;lia,by rw[Yp];show 4+nm.length+3<=1000;lia,by have z:=u2;rw[Yp] at z;exact z,?_⟩;exact h _ _ "part" none (-1) (((Ta (Ng.of pT)).same (Ta g2)).same (Ng.set (by simp) _)) (px none (by rw[ep];rfl)) (show (-1:Int)<0 by decide)
     | some y=>
      obtain⟨⟨n1,h1⟩,j⟩:=y;intro T2 g2 P2;refine Qu (n:=f) (kvs:=mlK k.ml) (v:=.int (j:Int)) (y:=.str nm) (k:=.inr nm) (S1:=T2) (S3:=T2) (λK hK=>by exact hK) (λK hK=>YH (λK hK=>by exact hK) P2.st s6 hK) (λK hK=>by exact hK) P2.se rfl (by rw[Qt];lia) ?_;rw[N6 j nn];refine⟨by show 4+nm.length<=1000;lia,by rw[Yp];show 4+nm.length+3<=1000;lia,by have z:=u2;rw[Yp] at z;exact z,?_⟩;obtain⟨o1,lj,lm2⟩:=G7 G gd ep;refine h _ _ "part" (some { k with ns:=n1,hs:=h1,ml:=k.ml++[(nm,j)] }) (j:Int) (((Ta (Ng.of pT)).same (Ta g2)).same (Ng.set (by simp) _)) (px _ (by rw[ep];rfl)) ⟨P2.seen,⟨o1,?_,G.nm_snoc ⟨n0,nw⟩,G.le,G.lu,G.lr,G.pe⟩,(),λw hw=>M6 hw,by show (k.ml++[(nm,j)]).length<=_;simp⟩;exact OG (λw i q=>zK (G.mok w i q) lm2) lj
   rintro dl' T' ⟨rfl,lr,w5,rfl⟩;refine Tz (λdl' U=>Pre T' U/\∃(t2:Tr)(w2:List Str)(l2 b2:Nat),(t2.good/\t2.dp<=3/\∀w∈t2.nms,w∈k.ml.map (·.1))/\exP l2 b2 w2 t2/\b2<=3/\w2.length<=29/\(∀w∈w2,Yg w)/\dl'=[some (.int cc),some (.ref g),some (.str nm),some (.int wt),some (.tup [trD t,.str (Txt.join " " ws)]),none,some (.tup [trD t2,.str (Txt.join " " w2)])]) (λnx hn=>?_) ?_
   .refine⟨⟨⋯,⋯⟩,λv7 _ _=>?_⟩;refine⟨k,a,b,c,d,e,f,PT,G,λU t2 w2 l2 b2 pU lt2 x2 b23 l229 ok2=>?_⟩;obtain⟨gd2,_,_,dp2,_,nms2⟩:=MT lt2;have go:=hn _ U ⟨pU,t2,w2,l2,b2,⟨gd2,dp2,nms2⟩,x2,b23,l229,ok2,rfl⟩;refine ifD (λc1=>?_) (λc1=>go);refine ifD (λc2=>?_) (λc2=>go);have x0:exP 3 0 [("0":Str)] (.nb 0 1):=by
     have z:=FF (Ip (t:=0) ⋯);rw[show mk (Z3 0 1)=("0":Str) by decide +kernel] at z;exact z
    refine hn _ U ⟨pU,.nb 0 1,["0"],3,0,⟨trivial,zS _,λw hw=>nomatch hw⟩,x0,⋯,⋯,λw hw=>by rw[zU.mp hw];exact⟨⋯,⋯,⋯⟩,rfl⟩
   rintro dl' U ⟨pU,t2,w2,l2,b2,⟨gd2,dp2,nms2⟩,x2,b23,l229,ok2,rfl⟩;have PU:=PT.up (Ng.of pU);obtain⟨sg,g2,zz,a1,a2,ez,hsg,ecs,wsg⟩:∃sg g2 zz:Str,atI [D.str "zero",.str "least"] (wt-5)=some (.str zz)/\atI [D.str " = ",.str " >= "] (wt-5)=some (.str g2)/\zz=sgS sg/\(sg="="\/sg=">=")/\cs g2=32::cs sg++[32]/\Yg sg:=by
    have c:wt=5\/wt=6:=by lia
    rcases c with rfl|rfl
    .exact⟨"="," = ","zero",rfl,rfl,⋯,.inl rfl,⋯,Ee.1⟩
    .exact⟨">="," >= ","least",rfl,rfl,⋯,.inr rfl,⋯,Ee.2⟩
   obtain⟨u1,u2,u3,u4,u5⟩:=zdp ecs wsg (OP x) (OP x2) ok ok2 l29 l229;have gdd:(Tr.bi 1 t t2).good:=⟨gd,gd2,⋯⟩
   have rx:∀o:Option Tk,o=(ZR k.ms (.bi 1 t t2) (k.ns,k.hs)).map (λp=>{ k with ns:=p.1.1,hs:=p.1.2,rw:=k.rw++[(sgS sg,p.2)] })->LnX k (Txt.join " " ws++g2++Txt.join " " w2) o "row":=λo ho=>⟨u2,by rw[u1];exact u3,by
    rw[u1];exact .row ⟨⟨ws,w2,sg,t,t2,rfl,zaj x,hsg,LO x () (),LO x2 () (),zbH (Jq x nmsN ok) (Jq x2 nms2 ok2) hsg,(),ho⟩⟩⟩
   have gU:Ng (owS g a b c d e f) S' U:=(Ng.of pT).same (Ng.of pU);refine⟨.bi 1 t t2,k,a,b,c,d,e,f,rfl,by show max t.dp t2.dp+1<12;lia,PU,G.nok,G.mok,gdd,λw hw=>?_,?_⟩
   .rcases zH.1 hw with hw|hw
    .exact RH (nmsN w hw)
    .exact RH (nms2 w hw)
   cases ep:ZR k.ms (.bi 1 t t2) (k.ns,k.hs) with
   | none=>
    intro T2 q2;have hg2:=q2.2 _ _ (by simp[PU.ap.gd,PU.ap.ge]) PU.st
    have hc2:=q2.2 _ _ (by simp[PU.ap.cd,PU.ap.ce]) PU.rw;refine Gz (n:=c) (S1:=T2) (S2:=T2++[.lst [.str "zero",.str "least"]]) (xs:=k.rw.map rwT) (ys:=k.rw.map rwT) (y:=.tup [.str zz,.int (-1)]) (λK hK=>YH (λK hK=>by exact hK) hg2 s3 hK) hc2 (λK hK=>Z4 (o:=.lst [.str "zero",.str "least"]) (d:=.str zz) (Zz _ _) a1 (by exact hK)) (ZF hc2) (by rw[zC];lia) ?_;refine Z4 (o:=.lst [.str " = ",.str " >= "]) (Zz _ _) a2 ?_;refine⟨by have z:=u4;rw[Yp] at z;lia,by have z:=u2;rw[Yp] at z;exact z,?_⟩;exact h _ _ "row" none (-1) ((((gU.same (Ta q2)).same (Ng.app _)).same (Ng.set (by simp) _)).same (Ng.app _)) (rx none (by rw[ep];rfl)) (show (-1:Int)<0 by decide)
   | some y=>
    obtain⟨⟨n1,h1⟩,j⟩:=y;intro T2 q2 P2;have P3:=(P2.up (Ng.app [Ob.lst [.str "zero",.str "least"]])).row (sgS sg,j);refine Gz (n:=c) (S1:=T2) (S2:=T2++[.lst [.str "zero",.str "least"]]) (xs:=k.rw.map rwT) (ys:=k.rw.map rwT) (y:=rwT (sgS sg,j)) (λK hK=>YH (λK hK=>by exact hK) P2.st s3 hK) P2.rw (λK hK=>Z4 (o:=.lst [.str "zero",.str "least"]) (d:=.str (sgS sg)) (Zz _ _) (by rw[<- ez];exact a1) (by exact hK)) (ZF P2.rw) (by rw[zC];lia) ?_;refine Z4 (o:=.lst [.str " = ",.str " >= "]) (Zz _ _) a2 ?_;refine⟨by have z:=u4;rw[Yp] at z;lia,by have z:=u2;rw[Yp] at z;exact z,?_⟩;obtain⟨o1,lj,lm2⟩:=G7 G gdd ep;exact h _ _ "row" (some { k with ns:=n1,hs:=h1,rw:=k.rw++[(sgS sg,j)] }) (j:Int) ((((gU.same (Ta q2)).same (Ng.app _)).same (Ng.set (by simp) _)).same (Ng.app _)) (rx _ (by rw[ep];rfl)) ⟨P3.up (Ng.app _),⟨o1,λw i q=>zK (G.mok w i q) lm2,G.nm,G.le,G.lu,by show (k.rw++[(sgS sg,j)]).length<=12;simp;lia,G.pe⟩,(),λw hw=>.inl hw,xI _⟩
  .exact h.elim⟩)
noncomputable def B0  (IS:Df K mg q27 LR N9):Fk P w K mg base 1 q27 N9 Rx:=
 IS.mk' (ZN (k:=0) IS.F Oi (zeC) λ_ _ _ _ _ _ hr=>⟨_,(Zg (Zn (i:=2) Oi.nd rfl (Or.inl rfl) (Zo Xr (IE Zj (Zo YV (Zo Vy (dv 0) Ze) Ze) (λ_ _=>rfl)) (IE Zj (Zo YV (dv 0) Ze) (λ_ _=>rfl)))) (Zg (Zn (i:=3) Oi.nd rfl (Or.inl rfl) (Ml Zj Ui (WD (Zo YV (dv 1) Ze)))) (Zg (Zn (i:=4) Oi.nd rfl (Or.inl rfl) (Zo YV (Zo Vy (dv 1) Ze) Ze)) (Zi (Zl (Zo Xr (Zo Xr (Ml (dv 3) Ui (WD (dv 4))) (dv 2)) (Ml (dv 3) (WD (dv 4)) Ui))))))),λds S Q ex h=>by
  unfold Rx at h;split at h
  .rename_i k sh;obtain⟨k0,k1,s0,s1,h⟩:=h;unfold nmA at h;obtain⟨a,ea,ea'⟩:=PF (x:=k/7%10) (n:=10) () ();obtain⟨b,eb,eb'⟩:=PF (x:=k%7) (n:=7) () ();obtain⟨c,ec,ec'⟩:=PF (x:=sh%7) (n:=7) () ();obtain⟨d,ed,ed'⟩:=PF (x:=sh/7%7) (n:=7) () ();unfold stA at h;rw[ea',eb',ec',ed'] at h;refine⟨97+a.val,⟨(),(),by show k/7%10<10;lia⟩,by rw[ea'];exact nmI1 a,97+b.val,⟨(),(),by show k%7<7;lia⟩,by rw[eb'];exact nmI2 b,by show (1:Nat)+1<=1000;decide,?_⟩;have lc:=nm_st c;refine⟨⋯,?_⟩;rw[ec,nmS1 c];refine⟨by show (mk ([97,98,98,97,97,98].take c.val)).length<=1000;lia,?_⟩;rw[ed,nmS2 c d];have l2:(([97,98,98,97,97,98].take c.val).take d.val).length<=6:=by simp;lia
   have l3:(([97,98,98,97,97,98].take c.val).drop d.val).length<=6:=by simp;lia
   have e2:(⟨#[97+a.val]⟩:Str)++⟨#[97+b.val]⟩=mk [97+a.val,97+b.val]:=VT [97+a.val] [97+b.val];refine⟨?_,?_,?_⟩
   .show _+(2:Nat)<=1000;rw[YZ];lia
   .show (mk ([97,98,98,97,97,98].take c.val)).length<=1000;lia
   .show OR (.str (mk (([97,98,98,97,97,98].take c.val).take d.val)++((⟨#[97+a.val]⟩:Str)++⟨#[97+b.val]⟩))) (.str (StrLaws.sliceText (mk ([97,98,98,97,97,98].take c.val)) (some (sh/7%7)) none)) S Q;rw[ed,nmS3 c d,e2,VT];refine⟨?_,?_⟩
    .rw[YZ,YZ,zF];show _+2+_<=1000;lia
    .show Q (.str (mk _++mk _)) S;rw[VT];exact h
  .exact h.elim⟩)
noncomputable def An  (G0:Df K mg q40 L6 NX)(Zv:mg q37=none)(ZY:mg "str"=none)(Vw:Kit K "str"):Fk P w K mg base 1 q40 NX Rl:=
 G0.mk' (ZN (k:=0) G0.F HK (A0) λ_ _ _ _ _ _ hr=>⟨_,(Zg (Zq (Wn (Z9 (SM Vw rfl Zv rfl ZY Boot.«str» (dv 0)))) (Zi Vm) Zu) (Zg (Zn (i:=1) HK.nd rfl (Or.inl rfl) (Bi (dv 0) (Za Zj Zb))) (Zg (Zq (Zs (E0 hr) Zj (dv 1) rfl) (Zi Vm) Zu) (Zi (Zl (dv 1)))))),λds S Q ex h=>by
  unfold Rl at h;split at h
  .rename_i x;obtain⟨⟨hx,hn⟩,h⟩:=h;refine zas (x:=x) (y:=" ") (S1:=S) (λK hK=>by exact hK) (λK hK=>by exact hK) ⋯ hx ?_;refine Ap (o:=.lst ((Txt.split x " ").map D.str)) (Zz _ _) rfl ?_;rw[zb5 hn];exact h
  .exact h.elim⟩)
noncomputable def zcO  (Gu:Df K mg q43 OI RL)(YF:mg "all"=none)(ZA:mg "len"=none):Fk P w K mg base 1 q43 RL TU:=
 Gu.mk' (IH (ZN (k:=0) Gu.F B7 (Hj (zc3)) λ_ _ _ _ _ _ hr=>⟨_,(Zi (Zl (XH (zef JO JO Ze (ZX EM rfl ZA Boot.«len» (Za (dv 0) Zb)) (dv 2)) (XU (ZX (ZK (Uh rfl)) rfl YF Boot.«all» (Za (zdy (x:="sign") (N:=["signs"]) (caps:=[1]) (ar:=Zr OI) rfl rfl csc rfl ⋯ (dv 0) (λ_ _ _ _ _ _=>Tj) (λ_ _ _ _ _ _=>(XF zbt (dv 0) (dv 1) rfl))) Zb)))))),λds S Q ex h=>by
  obtain⟨Q0,ex0,rfl,rfl,h⟩:=h;unfold TU at h;split at h
  .rename_i w sg m;obtain⟨hl,h⟩:=h;refine⟨hl,ifD (λe1=>?_) (λe1=>?_)⟩
   .refine ifD (λe2=>?_) (λe2=>?_)
    .refine DO (z:=w) (λc=>.bl (decide (c∈sg.cps.toList))) (λK hK=>hK) hl (λc hc S2 K _ hK=>⟨c,rfl,hK⟩) ?_;apply WM
     .exact Zz _ _
     .exact Iu _ _
     rw[decide_eq_true e1,decide_eq_true e2,vG,vG] at h;refine⟨Pre.refl.push,.bl _,?_⟩;rw[all_map];exact h
    .rw[decide_eq_false e2,xO,yU] at h;exact⟨Pre.refl,.bl _,h⟩
   .rw[decide_eq_false e1,yU,yU] at h;exact⟨Pre.refl,.bl _,h⟩
  .exact h.elim⟩))
noncomputable def zaM  {t_MOST_LETTERS:Tok}{t_LETTERS:Tok}(Hm:Df K mg q23 LN VZ)(UG:Fk P w K mg base 1 q43 RL TU)(g_KEPT_WORDS:GT K mg "KEPT_WORDS" ["let","in","grid","fine","looks","solve","boxes","point","right","islands"])(g_MOST_LETTERS:mg "MOST_LETTERS"=some (.int 8 t_MOST_LETTERS))(g_LETTERS:mg "LETTERS"=some (.str q75 t_LETTERS)):Fk P w K mg base 2 q23 VZ VD:=
 Hm.mk' (ZN (k:=1) Hm.F EO (zdm) λ_ _ _ _ _ _ hr=>⟨_,(Zi (Zl (XH (ZT UG hr (Za (dv 0) (Za (MV g_LETTERS rfl) (Za (Vs g_MOST_LETTERS rfl) Zb)))) (XU (Bp g_KEPT_WORDS rfl (dv 0)))))),λds S Q ex h=>by
  unfold VD at h;split at h
  .rename_i w;obtain⟨hl,h⟩:=h;unfold ZU at h;refine⟨hl,ifB (λe=>?_) (λe=>?_)⟩
   .rw[e,vG] at h;exact h
   .rw[e,yU] at h;exact h
  .exact h.elim⟩)
noncomputable def zed  (HP:Df K mg q38 Jg PQ)(Zv:mg q37=none)(WJ:mg "bool"=none)(Z6:mg "int"=none)(VN:Kit K "bool")(VL:Kit K "int"):Fk P w K mg base 1 q38 PQ QQ:=
 HP.mk' (ZN (k:=0) HP.F zec (zbn) λ_ _ _ _ _ _ hr=>⟨_,(Zi (Zl (XH (SM VL rfl Zv rfl Z6 Boot.«int» (dv 0)) (XU (M9 (SM VN rfl Zv rfl WJ Boot.«bool» (dv 0))))))),λds S Q ex h=>by
  unfold QQ at h;split at h
  .exact h
  .exact h.elim⟩)
noncomputable def E8  (IV:Df K mg q5 KW Nq):Fk P w K mg base 1 q5 Nq Pq:=
 IV.mk' (ZN (k:=0) IV.F PY (Cj) λ_ _ _ _ _ _ hr=>⟨_,(Zg (Oa PassesOwn.never (Zs (Y3 hr) (dv 1) Ze (Zp _)) (Zg (Zn (i:=2) PY.nd rfl (Or.inl rfl) (Zo Pj (dv 0) (dv 1))) (Zg (Zn (i:=0) PY.nd rfl (Or.inl rfl) (dv 1)) (Zi (Zn (i:=1) PY.nd rfl (Or.inl rfl) (dv 2)))))) (Zi (Zl (dv 0)))),λds S Q ex h=>by
  unfold Pq at h;split at h
  .rename_i a b;obtain⟨⟨ha,hb⟩,h⟩:=h;refine⟨λm dl' S'=>S'=S/\∃(x y:Int)(o:Option D),dl'=[some (.int x),some (.int y),o]/\0<=x/\0<=y/\Int.gcd x y=Int.gcd a b/\m=y.toNat,⟨b.toNat,rfl,a,b,none,rfl,ha,hb,rfl,rfl⟩,?_⟩;rintro m dl' S' ⟨rfl,x,y,o,rfl,hx,hy,hg,rfl⟩;refine ifN (λc=>?_) (λc=>?_)
   .have c':0<y:=by lia
    exact⟨c',⟨(x%y).toNat,by have:=Pu (a:=x) c';lia,rfl,y,x%y,_,rfl,hy,(Pu (a:=x) c').1,(Dp x y).trans hg,rfl⟩⟩
   .subst c;have e:((Int.gcd a b:Nat):Int)=x:=by rw[<- hg,Int.gcd_zero_right];lia
    rw[e] at h;exact h
  .exact h.elim⟩)
noncomputable def zdh  (IQ:Df K mg q39 KL MF)(ZI:Ec K mg q32)(KH:Fk P w K mg base 1 q5 Nq Pq)(NM:Fk P w K mg base 1 q38 PQ QQ)(Ws:mg "abs"=none):Fk P w K mg base 2 q39 MF (QA ZI.c):=
 IQ.mk' (XQ (k:=1) IQ.F Ko (zbl ZI.c) λcdv A outer s H E ex hr hpx hrx=>⟨_,(Zg (Zq (PDW.pt (Y2 (Wn (Z9 (ZW NM (hr.mono ⋯) hpx rfl (Za (dv 0) Zb)))) (Y2 (Wn (Z9 (ZW NM (hr.mono ⋯) hpx rfl (Za (dv 1) Zb)))) (Xk (Zs (ZV hr) (dv 1) Ze (Zp _)))))) (Zi (Wv ZI.xc PySem.F.excBase_ValueError hrx hr.hd rfl (Za Zj Zb))) Zu) (Zg (Zn (i:=2) Ko.nd rfl (Or.inl rfl) (ZW KH (hr.mono ⋯) hpx rfl (Za (ZX Li rfl Ws Boot.«abs» (Za (dv 0) Zb)) (Za (ZX Li rfl Ws Boot.«abs» (Za (dv 1) Zb)) Zb)))) (Zg (Zq (Zs Wg (dv 1) Ze (Zp _)) (Zi (Zn (i:=2) Ko.nd rfl (Or.inl rfl) (NG NP (dv 2)))) Zu) (Zi (Zl (ZQ (Za (Zo GW (dv 0) (dv 2)) (Za (Zo GW (dv 1) (dv 2)) Zb)))))))),λds S Q h=>by
  unfold QA at h;split at h
  .rename_i T B;rcases h with ⟨hB,h⟩|⟨⟨hB,sB⟩,h⟩
   .exact ifT (decide_eq_true hB) h
   .have e:((Int.gcd (XA T) (XA B):Nat):Int)=((Int.gcd T B:Nat):Int):=by rw[Cd]
    have sg:Sz 4000 ((Int.gcd T B:Nat):Int):=by
     have gle:Int.gcd T B<=B.natAbs:=Nat.le_of_dvd () (Int.gcd_dvd_natAbs_right T B);unfold Sz at sB ⊢;lia
    refine ifD (λc=>absurd c hB) (λc=>?_);refine⟨⟨KR T,KR B⟩,?_⟩;refine ifD (λc2=>?_) (λc2=>?_)
    .have f:=Hu (T:=T) (B:=B) (d:=-((Int.gcd (XA T) (XA B):Nat):Int)) hB (by rw[if_pos c2,e]);obtain⟨f1,f2,f3,f4,f5,f6⟩:=f;have s2:Sz 4000 (-((Int.gcd (XA T) (XA B):Nat):Int)):=by rw[e];exact sg.neg
     exact⟨⟨f1,s2.log f1⟩,⟨f1,s2.log f1⟩,h _ _ f4 f6 f5 (Oy f1 f2) (Oy f1 f3)⟩
    .have f:=Hu (T:=T) (B:=B) (d:=((Int.gcd (XA T) (XA B):Nat):Int)) hB (by rw[if_neg c2,e]);obtain⟨f1,f2,f3,f4,f5,f6⟩:=f;have s2:Sz 4000 ((Int.gcd (XA T) (XA B):Nat):Int):=by rw[e];exact sg
     exact⟨⟨f1,s2.log f1⟩,⟨f1,s2.log f1⟩,h _ _ f4 f6 f5 (Oy f1 f2) (Oy f1 f3)⟩
  .exact h.elim⟩)
noncomputable def BY  (Ge:Df K mg q15 Lc OL)(VW:mg "reversed"=none)(ZY:mg "str"=none):Fk P w K mg base 1 q15 OL Sm:=
 Ge.mk' (IH (ZN (k:=0) Ge.F MH (Hj (Cg)) λ_ _ _ _ _ _ hr=>⟨_,(Zg (Zn (i:=1) MH.nd rfl (Or.inl rfl) (Zo Al Ze Ze)) (Zg (Zn (i:=2) MH.nd rfl (Or.inl rfl) (YC Zb)) (Zg (Oa PassesOwn.never (Zs do_ge (dv 0) (dv 1) (Zp _)) (Zg (Y0 (X7 (dv 2) (zdL (Xu (ZK TN) rfl ZY Boot.«str» (Za (Zo Pj (dv 0) (dv 1)) Zb)) (Za Ze Zb)))) (Zi (Zn (i:=0) MH.nd rfl (Or.inl rfl) (Zo F3 (dv 0) (dv 1)))))) (Zg (Y0 (X7 (dv 2) (Xu (ZK TN) rfl ZY Boot.«str» (Za (dv 0) Zb)))) (Zi (Zl (DJ rfl rfl VW Boot.«reversed» Zj (dv 2)))))))),λds S Q ex h=>by
  obtain⟨Q0,ex0,rfl,rfl,h⟩:=h;unfold Sm at h;split at h
  .rename_i n;obtain⟨⟨n0,nb⟩,h⟩:=h;have eP:(10:Int)^Int.toNat 64=10^64:=rfl
   have sP:Sz 220 ((10:Int)^Int.toNat 64):=by unfold Sz;decide
   refine⟨λm dl' S'=>∃(k:Int)(ls:List (List Nat)),0<=k/\S'=S++[.lst (ls.map λl=>D.str (mk l))]/\dl'=[some (.int k),some (.int (10^Int.toNat 64)),some (.ref S.length)]/\dec n.natAbs=dec k.natAbs++ls.reverse.flatten/\(∀l∈ls,l.length=64)/\ls.length<=3/\k.natAbs*(10^64)^ls.length<10^200/\m=k.toNat,⟨n.toNat,n,[],n0,rfl,rfl,by simp,by simp,by simp,by simpa using nb,rfl⟩,?_⟩;rintro m dl' S' ⟨k,ls,k0,rfl,rfl,ed,el,l3,kb,rfl⟩;refine ifD (λc=>?_) (λc=>?_)
   .have c':(10:Int)^64<=k:=c
    have kn:10^64<=k.natAbs:=by lia
    have l2:ls.length<=2:=by
     by_cases z:ls.length=3
     .rw[z] at kb;have:=vX ((10^64)^3) kn
      have e:(10:Nat)^64*(10^64)^3=10^256:=by decide
      have e2:(10:Nat)^200<=10^256:=by decide
      lia
     .lia
    have rr:=Pu (a:=k) (b:=10^Int.toNat 64) ⋯
    have er:k%10^Int.toNat 64=((k.natAbs%10^64:Nat):Int):=by rw[eP];lia
    have eq':(k/10^Int.toNat 64).natAbs=k.natAbs/10^64:=by rw[eP];lia
    have lr:(dec (k.natAbs%10^64)).length<=64:=US ⋯ (xQ _ ⋯);refine JY (S:=S) (xs:=ls.map λl=>D.str (mk l)) (y:=.str (mk (pad 64 (k.natAbs%10^64)))) (λK hK=>by exact hK) (λK hK=>?_) (by rw[zC];lia) ?_
    .refine Mw (S1:=S++[.lst (ls.map λl=>D.str (mk l))]) (S2:=S++[.lst (ls.map λl=>D.str (mk l))]) (x:=mk (dec (k.natAbs%10^64))) (y:=.int 64) (λK hK=>?_) (λK hK=>by exact hK) ⟨⟨⋯,⋯⟩,?_⟩
     .refine⟨show (0:Int)<10^Int.toNat 64 by decide,?_⟩;refine SS (Ry (k:=64) (by show (k%10^Int.toNat 64).natAbs<_;rw[er,xU];exact xQ _ ⋯) ⋯) ?_;show K (.str (Str.ofString (toString (k%10^Int.toNat 64)))) _;rw[SK,U5 (),er,xU];exact hK
     .show K (.str (Txt.zfill (mk (dec (k.natAbs%10^64))) 64)) _;rw[Am lr];exact hK
    .refine⟨sP.fd ⋯,?_⟩;refine⟨(k/10^Int.toNat 64).toNat,?_,k/10^Int.toNat 64,ls++[pad 64 (k.natAbs%10^64)],?_,by rw[zN];rfl,rfl,?_,?_,by simp;lia,?_,rfl⟩
     .rw[eP];lia
     .rw[eP];lia
     .rw[ed,eq',uE,uF,vE,wZ,<- yG];congr 1;have z:=Fj (q:=k.natAbs/10^64) () 64 (k.natAbs%10^64) ⋯ (xQ _ ⋯);rw[Nat.div_add_mod' k.natAbs (10^64)] at z;exact z
     .intro l hl;rcases zH.mp hl with z|z
      .exact el l z
      .have e:l=pad 64 (k.natAbs%10^64):=by simpa using z
       rw[e];unfold pad;rw[zF,wH];lia
     .rw[eq',zF,xK];exact D1 kb
   .have c':¬ (10:Int)^64<=k:=c
    have lk:(dec k.natAbs).length<=64:=US ⋯ ();refine JY (S:=S) (xs:=ls.map λl=>D.str (mk l)) (y:=.str (mk (dec k.natAbs))) (λK hK=>by exact hK) (λK hK=>?_) (by rw[zC];lia) ?_
    .refine SS (Ry (k:=64) () ⋯) ?_;rw[SK,U5 k0];exact hK
    .have em:(ls.map λl=>D.str (mk l))++[D.str (mk (dec k.natAbs))]=(ls++[dec k.natAbs]).map λl=>D.str (mk l):=by rw[zN];rfl
     rw[em];refine zb9 (sep:="") (n:=S.length) (S1:=S++[.lst ((ls++[dec k.natAbs]).map λl=>D.str (mk l))]) (S2:=S++[.lst ((ls++[dec k.natAbs]).map λl=>D.str (mk l))]) (ds:=(ls++[dec k.natAbs]).map λl=>D.str (mk l)) (zs:=(ls++[dec k.natAbs]).map mk) (λK hK=>by exact hK) (λK hK=>by exact hK) (Zz _ _) (FK _) ⋯ (λz hz=>?_) (by simp;lia) ?_
     .obtain⟨l,hl,rfl⟩:=yM.mp hz;rw[YZ];rcases zH.mp hl with z|z
      .rw[el l z];decide
      .have e:l=dec k.natAbs:=by simpa using z
       rw[e];lia
     .rw[<- List.map_reverse,DU,uE,uF,vE,wZ,<- ed];exact⟨Pre.refl.push,.str _,h⟩
  .exact h.elim⟩))
noncomputable def BW  (G2:Df K mg q49 Kp MA)(NO:Fk P w K mg base 1 q15 OL Sm)(Ws:mg "abs"=none):Fk P w K mg base 2 q49 MA Q4:=
 G2.mk' (ZN (k:=1) G2.F NZ (DC) λ_ _ _ _ _ _ hr=>⟨_,(Zg (Zn (i:=1) NZ.nd rfl (Or.inl rfl) (ZT NO hr (Za (ZX Li rfl Ws Boot.«abs» (Za (Zy (dv 0) Ze (λ_ _=>rfl)) Zb)) Zb))) (Zg (Zq (Zs Wg (Zy (dv 0) Ze (λ_ _=>rfl)) Ze (Zp _)) (Zi (Zn (i:=1) NZ.nd rfl (Or.inl rfl) (Zo Xr Zj (dv 1)))) Zu) (Zg (Zq (Zs (Y3 hr) (Zy (dv 0) Ze (λ_ _=>rfl)) Ze (Zp _)) (Zi (Zn (i:=1) NZ.nd rfl (Or.inl rfl) (Zo Xr (Zo Xr (dv 1) Zj) (ZT NO hr (Za (Zy (dv 0) Ze (λ_ _=>rfl)) Zb))))) Zu) (Zi (Zl (dv 1)))))),λds S Q ex h=>by
  unfold Q4 at h;split at h
  .rename_i t b;obtain⟨⟨ht,b1,hb⟩,h⟩:=h;have l1:=VQ (k:=200) ⋯ ht
   have d1:=US (k:=200) ⋯ ht
   have d2:=US (k:=200) ⋯ hb
   have eabs:(if t<0 then -t else t).natAbs=t.natAbs:=by split<;>lia
   refine⟨⟨KR t,by show (if t<0 then -t else t).natAbs<_;rw[eabs];exact ht⟩,?_⟩;have aR:∀x:Str,x=mk (num t)->dIf (WL (dOp (wNe eq2) (dOp wIx (Y9 0) (dC (D.int 1))) (dC (D.int 1)))) (Ow 1 (dOp OR (dOp OR (Y9 1) (dC (D.str "/"))) (Q8 (λ_ _ _=>False) Sm (Wc (dOp wIx (Y9 0) (dC (D.int 1))) X3)))) Yx { nx:=λdl' S'=>Q5 (Y9 1) { nx:=λ_ S'=>Q .non S',rt:=Q } dl' S',rt:=Q } [some (.tup [.int t,.int b]),some (.str x)] S:=λx ex'=>by
    subst ex';refine ifN (λe=>?_) (λe=>?_)
    .have s1:mk (num t)++("/":Str)=mk (num t++[47]):=by rw[OT];exact VT (num t) [47]
     refine⟨by rw[YZ];show _+1<=1000;lia,?_⟩;refine⟨⟨(),hb⟩,?_⟩;refine⟨by rw[s1,YZ,YZ];simp;lia,?_⟩;have s2:mk (num t)++("/":Str)++mk (dec b.natAbs)=mk (Z3 t b):=by
      rw[s1,VT,yG];unfold Z3;rw[if_neg e,U5 (show 0<=b by lia)];rfl
     show Q (.str (mk (num t)++("/":Str)++mk (dec b.natAbs))) S;rw[s2];exact h
    .have s2:mk (num t)=mk (Z3 t b):=by
      unfold Z3;rw[if_pos e,yE]
     show Q (.str (mk (num t))) S;rw[s2];exact h
   refine ifD (λe=>?_) (λe=>?_)
   .refine⟨by show 1+(mk (dec _)).length<=1000;rw[YZ,eabs];lia,?_⟩;refine aR _ ?_;show ("-":Str)++mk (dec (if t<0 then -t else t).natAbs)=mk (num t);rw[eabs,GV,Lh e];exact VT [45] _
   .refine aR _ ?_;show mk (dec (if t<0 then -t else t).natAbs)=mk (num t);rw[eabs,U5 ()]
  .exact h.elim⟩)
noncomputable def zap  {t_MOST_FIGURES:Tok}{t_FIGURES:Tok}(JJ:Df K mg q20 L8 S9)(Zw:Ec K mg q56)(ZI:Ec K mg q32)(LJ:Fk P w K mg base 2 q49 MA Q4)(LB:Fk P w K mg base 2 q39 MF (QA ZI.c))(UG:Fk P w K mg base 1 q43 RL TU)(g_MOST_FIGURES:mg "MOST_FIGURES"=some (.int 9 t_MOST_FIGURES))(g_FIGURES:mg "FIGURES"=some (.str "0123456789" t_FIGURES))(Z6:mg "int"=none):Fk P w K mg base 3 q20 S9 (U1 Zw.c ZI.c):=
 JJ.mk' (XQ (k:=2) JJ.F Sv (EL Zw.c ZI.c) λcdv A outer s H E ex hr hpx hrx=>⟨_,(Zg (Zn (i:=1) Sv.nd rfl (Or.inl rfl) (AU (dv 0) (Za Zj Zb))) (Zg (Zn (i:=2) Sv.nd rfl (Or.inl rfl) (Zy (dv 1) Ze (λ_ _=>rfl))) (Zg (Zn (i:=3) Sv.nd rfl (Or.inl rfl) (IT (Zs (ZV hr) (Zy (dv 1) Ze (λ_ _=>rfl)) Zj (Zp _)) (Zy (dv 1) Ze (λ_ _=>rfl)) Zj)) (Zg (Zn (i:=4) Sv.nd rfl (Or.inl rfl) (IT (Z9 (Ar (dv 2) (Za Zj Zb))) (Ml (dv 2) (WD Ze) Ui) (dv 2))) (Zg (Zq (PDW.pt (Y2 (Wn (Z9 (ZW UG (hr.mono ⋯) hpx rfl (Za (dv 4) (Za (MV g_FIGURES rfl) (Za (Vs g_MOST_FIGURES rfl) Zb)))))) (Xk (Wn (Z9 (ZW UG (hr.mono ⋯) hpx rfl (Za (dv 3) (Za (MV g_FIGURES rfl) (Za (Vs g_MOST_FIGURES rfl) Zb))))))))) (Zi (Wv Zw.xc PySem.F.excBase_ValueError hrx hr.hd rfl (Za Zj Zb))) Zu) (Zg (Zq (Zs (ZV hr) (Xu (ZK Od) rfl Z6 Boot.«int» (Za (dv 3) Zb)) Ze (Zp _)) (Zi (Wv Zw.xc PySem.F.excBase_ValueError hrx hr.hd rfl (Za Zj Zb))) Zu) (Zg (Zn (i:=5) Sv.nd rfl (Or.inl rfl) (ZW LB (hr.mono ⋯) hpx rfl (Za (Xu (ZK Od) rfl Z6 Boot.«int» (Za (dv 2) Zb)) (Za (Xu (ZK Od) rfl Z6 Boot.«int» (Za (dv 3) Zb)) Zb)))) (Zg (Zq (Zs (Y3 hr) (ZW LJ (hr.mono ⋯) hpx rfl (Za (dv 5) Zb)) (dv 0) (Zp _)) (Zi (Wv Zw.xc PySem.F.excBase_ValueError hrx hr.hd rfl (Za Zj Zb))) Zu) (Zi (Zl (dv 5))))))))))),λds S Q h=>by
  unfold U1 at h;split at h
  .rename_i w;obtain⟨hl,h1,h2⟩:=h;have lw:=Vl w;refine cut4 (α:=D×List Nat×List Nat×List Nat) (λa=>match a with|⟨d,T,B,F⟩=>[some (.str w),some d,some (.str (mk T)),some (.str (mk B)),some (.str (mk F)),none]) (λa=>match a with|⟨_,T,B,F⟩=>ME (cs w) T B/\Sig T F) (λmain=>?_) ?_
   .have sig:∀(d:D)(T B:List Nat)(nx:Ev->Sto->Prop),ME (cs w) T B->T.length<=900->(∀F,Sig T F->nx [some (.str w),some d,some (.str (mk T)),some (.str (mk B)),some (.str (mk F)),none] S)->Ow 4 (dIfE (WL (Wb MQ (Y9 2) (Wc (dC (D.str "-")) X3))) (dSlS (Y9 2) (Fs (dC (D.int 1))) Hh) (Y9 2)) { nx:=nx,rt:=Q } [some (.str w),some d,some (.str (mk T)),some (.str (mk B)),none,none] S:=λd T B nx sh lT go=>by
     refine Mw (S1:=S) (S2:=S) (x:=mk T) (y:=.str "-") (λK hK=>by exact hK) (λK hK=>by exact hK) ?_;show if Txt.startswith (mk T) "-"=true then _ else _
     rw[zad,YQ];refine ifD (λc=>?_) (λc=>?_)
     .cases T with
      | nil=>cases c
      | cons x r=>
       have ex':x=45:=by simpa using c
       subst ex';refine⟨by rw[YZ];lia,?_⟩;have et:=zdT (x:=mk (45::r)) (r:=r) (YQ _)
       show nx (List.set _ 4 (some (.str (StrLaws.sliceText (mk (45::r)) (some 1) none)))) S;rw[et];exact go r (.inl rfl)
     .exact go T (.inr ⟨rfl,c⟩)
    by_cases h47:47∈cs w
    .obtain⟨A',B,e,nA⟩:=Fy _ h47;refine Mw (S1:=S) (S2:=S) (x:=w) (y:=.str "/") (λK hK=>by exact hK) (λK hK=>by exact hK) ⟨⟨⋯,()⟩,?_⟩;rw[zem e nA];have lA:A'.length<=900:=by
      have:(cs w).length=A'.length+(B.length+1):=by rw[e];simp
      lia
     exact sig _ A' B _ ⟨.inr e,nA⟩ lA (λF sg=>main (_,A',B,F) ⟨⟨.inr e,nA⟩,sg⟩)
    .refine Mw (S1:=S) (S2:=S) (x:=w) (y:=.str "/") (λK hK=>by exact hK) (λK hK=>by exact hK) ⟨⟨⋯,()⟩,?_⟩;rw[Bt h47];have sh:ME (cs w) (cs w) [49]:=⟨.inl ⟨rfl,rfl⟩,h47⟩
     have z:=sig (.tup [.str w,.str Str.empty,.str Str.empty]) (cs w) [49] _ sh () (λF sg=>main (_,cs w,[49],F) ⟨sh,sg⟩);rw[Ur] at z;exact z
   .rintro⟨d,T,B,F⟩ ⟨sh,sg⟩;have lens:T.length<=900/\B.length<=900/\F.length<=900:=by
     have lT:T.length<=900/\B.length<=900:=by
      rcases sh.1 with ⟨e,rfl⟩|e
      .rw[<- e];exact⟨(),⋯⟩
      .have:(cs w).length=T.length+(B.length+1):=by rw[e];simp
       lia
     refine⟨lT.1,lT.2,?_⟩;rcases sg with e|⟨e,_⟩
     .rw[e] at lT;simp at lT;lia
     .rw[<- e];exact lT.1
    refine⟨by rw[YZ];lia,?_⟩;by_cases fF:Vp (mk F)=true
    .refine ifF (c:=!Vp (mk F)) (by rw[fF];rfl) ?_;refine⟨by rw[YZ];lia,?_⟩;by_cases fB:Vp (mk B)=true
     .refine ifF (c:=!Vp (mk B)) (by rw[fB];rfl) ?_;have gF:=(LK _).mp fF
      have gB:=(LK _).mp fB;rw[YQ] at gF gB;obtain⟨rB,_⟩:=GU gB.2.2 gB.1 ();obtain⟨rF1,rF2⟩:=GU gF.2.2 gF.1 ();have vF:PySem.NumText.digitsVal F<10^9:=zK (Fd F gF.2.2) (xD ⋯ gF.2.1)
      have vB:PySem.NumText.digitsVal B<10^9:=zK (Fd B gB.2.2) (xD ⋯ gB.2.1);refine NA rB (by rw[YZ];lia) ?_;refine ifD (λe0=>?_) (λe0=>?_)
      .refine h2 λt b n=>?_
       obtain⟨_,_,eB⟩:=Tq n sh sg;rw[eB,SN] at e0;have:=n.pos;lia
      .obtain⟨tv,rT,av,own⟩:∃tv:Int,PySem.intText? (mk T)=some tv/\tv.natAbs<10^9/\∀t b,Yt (cs w) t b->tv=t:=by
        rcases id sg with e|⟨e,z⟩
        .refine⟨_,by rw[e];exact rF2,(),λt b n=>?_⟩;obtain⟨eT,eF,_⟩:=Tq n sh sg;rw[eF,SN];rw[e] at eT;unfold num at eT;split at eT
         .lia
         .have:=Vt eT.symm;lia
        .refine⟨_,by rw[e];exact rF1,(),λt b n=>?_⟩;obtain⟨eT,eF,_⟩:=Tq n sh sg;rw[eF,SN];unfold num at eT;split at eT
         .rw[eT] at z;exact absurd rfl z
         .lia
       have lT:T.length<=10:=by
        have:=gF.2.1;rcases sg with e|⟨e,_⟩
        .rw[e,zP];lia
        .rw[e];lia
       refine NA rT (by rw[YZ];lia) ?_;refine NA rB (by rw[YZ];lia) ?_;refine .inr ⟨⟨e0,(Sz.of (n:=40) (10^9) ()).mono ⋯⟩,λt b b1 ecr g st sb=>?_⟩;have big:(10:Nat)^9<=10^200:=xD ⋯ ⋯;refine⟨⟨(),b1,()⟩,?_⟩;refine ifN (λc=>?_) (λc=>?_)
       .refine h2 λt' b' n=>c ?_
        obtain⟨_,_,eB⟩:=Tq n sh sg;have et:=own t' b' n
        have eb:((PySem.NumText.digitsVal B:Nat):Int)=b':=by
         rw[eB,SN];have:=n.pos;lia
        rw[et,eb] at ecr;obtain⟨rfl,rfl⟩:=Ay b1 n.pos g n.low ecr;refine Wk ?_;rw[YQ];exact n.eq.symm
       .refine h1 t b ⟨b1,g,(),(),?_⟩;rw[<- c,YQ]
     .refine ifT (c:=!Vp (mk B)) (by simp[fB]) ?_;refine h2 λt b n=>fB ?_
      obtain⟨_,_,eB⟩:=Tq n sh sg;rw[eB];exact Ez (by have:=n.bot;have:=n.pos;lia)
    .refine ifT (c:=!Vp (mk F)) (by simp[fF]) ?_;refine h2 λt b n=>fF ?_
     obtain⟨_,eF,_⟩:=Tq n sh sg;rw[eF];exact Ez n.top
  .exact h.elim⟩)
noncomputable def zba  (F4:Df K mg "less" M0 Ox):Fk P w K mg base 1 "less" Ox QL:=
 F4.mk' (ZN (k:=0) F4.F zcx (zbg) λ_ _ _ _ _ _ hr=>⟨_,(Zi (Zl (XF Wg (Zo Wt (Zy (dv 0) Ze (λ_ _=>rfl)) (Zy (dv 1) Ze (λ_ _=>rfl))) (Zo Wt (Zy (dv 1) Ze (λ_ _=>rfl)) (Zy (dv 0) Ze (λ_ _=>rfl))) (Zp _)))),λds S Q ex h=>by
  unfold QL at h;split at h
  .obtain⟨⟨h1,h2⟩,h⟩:=h;exact⟨h1,h2,h⟩
  .exact h.elim⟩)
noncomputable def CM  (Fv:Df K mg q50 Lp OZ)(Zw:Ec K mg q56)(ZI:Ec K mg q32)(KZ:Fk P w K mg base 1 "less" Ox QL)(W8:Fk P w K mg base 3 q20 S9 (U1 Zw.c ZI.c))(XD:Fk P w K mg base 2 q23 VZ VD)(ZA:mg "len"=none):Fk P w K mg base 4 q50 OZ R1:=
 Fv.mk' (ZN (k:=3) Fv.F KQ (B8) λ_ _ _ _ _ _ hr=>⟨_,(Zg (Zq (PDW.pt (Y2 (Zs (Y3 hr) (ZX (ZK Yz) rfl ZA Boot.«len» (Za (dv 0) Zb)) Ze (Zp _)) (Xk (Wn (Z9 (ZT XD hr (Za (Yb (dv 0) Ze (λ_ _=>rfl)) Zb))))))) (Zi Vm) Zu) (Zg (Zn (i:=1) KQ.nd rfl (Or.inl rfl) (ZT W8 hr (Za (Yb (dv 0) Ze (λ_ _=>rfl)) Zb))) (Zg (Zn (i:=2) KQ.nd rfl (Or.inl rfl) (ZT W8 hr (Za (Yb (dv 0) Ze (λ_ _=>rfl)) Zb))) (Zg (Zq (Z9 (ZT KZ hr (Za (dv 2) (Za (dv 1) Zb)))) (Zi Vm) Zu) (Zi (Zl (ZQ (Za (dv 1) (Za (dv 2) Zb))))))))),λds S Q ex h=>by
  unfold R1 at h;split at h
  .rename_i wm;obtain⟨w0,lo,hi,t1,b1,t2,b2,hw,n0,l1,l2,i1,i2,nl,h⟩:=h;refine YL hw ?_;refine Z4 (o:=.lst ([w0,"in",lo,hi].map D.str)) hw (d:=.str w0) rfl ?_;refine⟨by have:=Ks n0;lia,?_⟩;rw[n0];refine Z4 (o:=.lst ([w0,"in",lo,hi].map D.str)) hw (d:=.str lo) rfl ?_;refine⟨l1,λt b n=>?_,λbad=>(bad _ _ i1).elim⟩;obtain⟨rfl,rfl⟩:=n.one i1;refine Z4 (o:=.lst ([w0,"in",lo,hi].map D.str)) hw (d:=.str hi) rfl ?_;refine⟨l2,λt' b' n'=>?_,λbad=>(bad _ _ i2).elim⟩;obtain⟨rfl,rfl⟩:=n'.one i2;have q1:=i1.top
   have q2:=i1.bot
   have q3:=i1.pos
   have q4:=i2.top
   have q5:=i2.bot
   have q6:=i2.pos;refine⟨⟨SR (m:=40) (n:=40) (Sz.of (10^9) ()) (Sz.of (10^9) ()),SR (m:=40) (n:=40) (Sz.of (10^9) ()) (Sz.of (10^9) ())⟩,?_⟩;refine ifD (λc=>absurd c nl) (λc=>?_);exact h
  .exact h.elim⟩)
noncomputable def zcG  (Zd:Xq K mg)(Gn:Dm K Zd.C q53 q64 ML RE):Fm P w K mg base 1 Zd.C q53 RE (T7 Zd.C):=
 Gn.mk' (ZN (k:=0) Gn.F zbY (AD Zd.C) λ_ _ _ _ _ _ hr=>⟨_,(Zi (Zq (D3 hr (dv 1) (Yh Zd.cl Zd.n_meanings (dv 0))) (Zi Vm) Zu)),λds S Q ex h=>by
  unfold T7 at h;split at h
  .rename_i n w;obtain⟨N,m,u,e,r,ml,h1,h2,h3,h⟩:=h;refine Dq (n:=m) (S2:=S) (y:=.str w) (k:=.inr w) (λK hK=>by exact hK) (λK hK=>Yc (S1:=S) (n:=n) (λK hK=>by exact hK) h1 rfl hK) h2 rfl ?_;rw[Sk,h3];exact h
  .exact h.elim⟩)
noncomputable def E9  (Hb:Df K mg q24 M3 Og):Fk P w K mg base 1 q24 Og Qf:=
 Hb.mk' (ZN (k:=0) Hb.F Dl (Dn) λ_ _ _ _ _ _ hr=>⟨_,(Zg (Zq (Zs (G4 (k:=0) hr ⋯) (Zy (dv 0) Ze (λ_ _=>rfl)) (ZQ (Za Zj (Za Zj Zb))) rfl) (Zi (Zl Ze)) Zu) (Zg (Zq (Zs (ZV hr) (Zy (dv 0) Ze (λ_ _=>rfl)) Zj (Zp _)) (Zi (Zl (Zo Wt (Zy (dv 0) Ze (λ_ _=>rfl)) (Yb (dv 1) (Zy (dv 0) Ze (λ_ _=>rfl)) (λ_ _=>rfl))))) Zu) (Zi (Zl (Zo WX (Yb (dv 1) (Zy (dv 0) Ze (λ_ _=>rfl)) (λ_ _=>rfl)) (Yb (dv 1) (Zy (dv 0) Ze (λ_ _=>rfl)) (λ_ _=>rfl))))))),λds S Q ex h=>by
  unfold Qf at h;split at h
  .rename_i d r;obtain⟨v,hs,rfl,hl,ok,sm,h⟩:=h;cases v with
   | number t b=>exact h
   | unknown k=>exact h
   | power i n=>
    obtain⟨hi,n2,n6⟩:=ok;have b:=Pg sm hi;refine Z4 (o:=.lst (hs.map D.int)) hl (TZ hi) ?_;exact⟨SR (m:=400) (n:=400) (Sz.of (10^20) ()) (Sz.of (10^20) ()),h⟩
   | two x i j=>
    obtain⟨hx,hi,hj⟩:=ok;rcases hx with rfl|rfl|rfl
    all_goals
     refine Z4 (o:=.lst (hs.map D.int)) hl (TZ hi) ?_;refine Z4 (o:=.lst (hs.map D.int)) hl (TZ hj) ?_;exact h
  .exact h.elim⟩)
noncomputable def zdH  {t_MOST_NODES:Tok}{t_MOST_WEIGHT:Tok}(Zh:Xf K mg)(Hc:Dm K Zh.C "put" "Net.put" Ly UR)(ZD:Ec K mg q54)(K6:Fk P w K mg base 1 q24 Og Qf)(g_MOST_NODES:mg "MOST_NODES"=some (.int 60 t_MOST_NODES))(g_MOST_WEIGHT:mg "MOST_WEIGHT"=some (.int 16 t_MOST_WEIGHT))(ZA:mg "len"=none):Fm P w K mg base 2 Zh.C "put" UR (VM Zh.C ZD.c):=
 Hc.mk' (XQ (k:=1) Hc.F MS (CO Zh.C ZD.c) λcdv A outer s H E ex hr hpx hrx=>⟨_,(Zg (Zq (za3 hr (dv 1) (Yh Zh.cl Zh.n_numbers (dv 0))) (Zi (Zl (zdo hr (Yh Zh.cl Zh.n_numbers (dv 0)) (dv 1) (λ_ _=>rfl)))) Zu) (Zg (Zn (i:=2) MS.nd rfl (Or.inl rfl) (ZW K6 (hr.mono ⋯) hpx rfl (Za (dv 1) (Za (Yh Zh.cl Zh.n_weights (dv 0)) Zb)))) (Zg (Zq (Zs UE (dv 2) (Vs g_MOST_WEIGHT rfl) (Zp _)) (Zi (Wv ZD.xc PySem.F.excBase_ValueError hrx hr.hd rfl (Za Zj Zb))) Zu) (Zg (Zn (i:=3) MS.nd rfl (Or.inl rfl) (ZX (ZK Yz) rfl ZA Boot.«len» (Za (Yh Zh.cl Zh.n_kept (dv 0)) Zb))) (Zg (Zq (Zs (ZV hr) (dv 3) (Vs g_MOST_NODES rfl) (Zp _)) (Zi (Wv ZD.xc PySem.F.excBase_ValueError hrx hr.hd rfl (Za Zj Zb))) Zu) (Zg (Y0 (X7 (Yh Zh.cl Zh.n_kept (dv 0)) (dv 1))) (Zg (Y0 (X7 (Yh Zh.cl Zh.n_weights (dv 0)) (dv 2))) (Zg (AI hr (Yh Zh.cl Zh.n_numbers (dv 0)) (dv 1) (dv 3)) (Zi (Zl (dv 3))))))))))),λds S Q h=>by
  unfold VM at h;split at h
  .rename_i n d;obtain⟨v,ns,hs,a,b,c,rfl,N,ok,sm,hl,h⟩:=h;have nk:∀K:DK,K (.ref c) S->Pm Zh.C "numbers" (Y9 0) (Vu ["self","node","own_weight","number"] [.ref n,v.d]) S K:=λK hK=>Yc (n:=n) (λK hK=>by exact hK) N.net (HV a b c) hK
   refine zb1 (n:=c) (k:=v.k) (λK hK=>by exact hK) nk N.numbers v.key ?_;rw[OC];cases e:idx v ns with
   | some j=>
    refine Yy ?_;rcases h with ⟨j',h1,h⟩|⟨h1,_⟩|⟨h1,_⟩
    .rw[e] at h1;cases h1;exact zaP (n:=c) (k:=v.k) (v:=.int (j:Int)) nk (λK hK=>by exact hK) N.numbers v.key (by rw[OC,e];simp) h
    .rw[e] at h1;cases h1
    .rw[e] at h1;cases h1
   | none=>
    refine ZH ?_;refine Yc (n:=n) (λK hK=>by exact hK) N.net (Fh a b c) ?_;refine⟨v,hs,rfl,N.weights,ok,sm,?_⟩;refine ifD (λhw=>?_) (λhw=>?_)
    .rcases h with ⟨j',h1,h⟩|⟨h1,_,h⟩|⟨h1,h2,_⟩
     .rw[e] at h1;cases h1
     .exact h
     .lia
    .refine Yc (n:=n) (λK hK=>by exact hK) N.net (KN a b c) ?_;refine YL N.kept ?_;rw[zC];refine ifD (λhw2=>?_) (λhw2=>?_)
     .rcases h with ⟨j',h1,h⟩|⟨h1,_,h⟩|⟨h1,h2,h3,_⟩
      .rw[e] at h1;cases h1
      .exact h
      .lia
     .rcases h with ⟨j',h1,h⟩|⟨h1,h2,h⟩|⟨h1,h2,h3,h⟩
      .rw[e] at h1;cases h1
      .lia
      .have nna:a≠n:=λz=>by have:=N.net;rw[<- z,N.kept] at this;cases this
       have nnb:b≠n:=λz=>by have:=N.net;rw[<- z,N.weights] at this;cases this
       have nac:a≠c:=λz=>by have:=N.numbers;rw[<- z,N.kept] at this;cases this
       have nbc:b≠c:=λz=>by have:=N.numbers;rw[<- z,N.weights] at this;cases this
       refine Wy (n:=a) (S1:=S) (xs:=ns.map Nd.d) (y:=v.d) (λK hK=>by exact Yc (n:=n) (λK hK=>by exact hK) N.net (KN a b c) hK) N.kept (λK hK=>by exact hK) (by rw[zC];lia) ?_;have n1:=SQ (u:=.lst (ns.map Nd.d++[v.d])) N.net nna
       have w1:=SQ (u:=.lst (ns.map Nd.d++[v.d])) N.weights N.ne
       have d1:=SQ (u:=.lst (ns.map Nd.d++[v.d])) N.numbers nac;refine Wy (n:=b) (S1:=S.set a (.lst (ns.map Nd.d++[v.d]))) (xs:=hs.map D.int) (y:=.int (v.w hs)) (λK hK=>by exact Yc (n:=n) (λK hK=>by exact hK) n1 (Fh a b c) hK) w1 (λK hK=>by exact hK) (by rw[zC,<- N.len];lia) ?_;have n2:=SQ (u:=.lst (hs.map D.int++[.int (v.w hs)])) n1 nnb
       have d2:=SQ (u:=.lst (hs.map D.int++[.int (v.w hs)])) d1 nbc;refine zc2 (n:=c) (k:=v.k) (y:=v.d) (v:=.int (ns.length:Nat)) (λK hK=>by exact hK) (λK hK=>by exact Yc (n:=n) (λK hK=>by exact hK) n2 (HV a b c) hK) (λK hK=>by exact hK) d2 v.key (by rw[ES];lia) ?_;have ek:Xa (Wf 0 ns) v.k (.int (ns.length:Nat))=Wf 0 (ns++[v]):=by
        rw[<- Ho v 0 ns,Nat.zero_add];unfold Xa;rw[zb4 (by rw[OC,e];rfl)];rfl
       rw[ek];exact h
  .exact h.elim⟩)
noncomputable def AE  {t_MOST_UNKNOWNS:Tok}(Zd:Xq K mg)(Zh:Xf K mg)(Iy:Dm K Zd.C q46 q52 Ju Mh)(ZD:Ec K mg q54)(YW:Fm P w K mg base 2 Zh.C "put" UR (VM Zh.C ZD.c))(W5:Fm P w K mg base 1 Zd.C q53 RE (T7 Zd.C))(Kt:Fk P w K mg base 4 q50 OZ R1)(g_MOST_UNKNOWNS:mg "MOST_UNKNOWNS"=some (.int 4 t_MOST_UNKNOWNS))(ZA:mg "len"=none):Fm P w K mg base 5 Zd.C q46 Mh (R5 Zh.C Zd.C ZD.c):=
 Iy.mk' (XQ (k:=4) Iy.F K7 (DN Zh.C Zd.C ZD.c) λcdv A outer s H E ex hr hpx hrx=>⟨_,(Zg (Zn (i:=2) K7.nd rfl (Or.inl rfl) (ZW Kt (hr.mono ⋯) hpx rfl (Za (dv 1) Zb))) (Zg (Y0 (Xn (C:=Zd.C) (dv 0) Zd.cl W5.m W5.ok (hr.mono ⋯) W5.b hpx (Za (Yb (dv 1) Ze (λ_ _=>rfl)) Zb))) (Zg (Zn (i:=3) K7.nd rfl (Or.inl rfl) (ZX (ZK Yz) rfl ZA Boot.«len» (Za (Yh Zd.cl Zd.n_unknown_names (dv 0)) Zb))) (Zg (Zq (Zs (ZV hr) (dv 3) (Vs g_MOST_UNKNOWNS rfl) (Zp _)) (Zi Vm) Zu) (Zg (Ss hr (Yh Zd.cl Zd.n_meanings (dv 0)) (Yb (dv 1) Ze (λ_ _=>rfl)) (Xn (C:=Zh.C) (Yh Zd.cl Zd.n_net (dv 0)) Zh.cl YW.m YW.ok (hr.mono ⋯) YW.b hpx (Za (ZQ (Za Zj (Za (dv 3) Zb))) Zb))) (Zg (Y0 (X7 (Yh Zd.cl Zd.n_unknown_names (dv 0)) (Yb (dv 1) Ze (λ_ _=>rfl)))) (Zg (Y0 (X7 (Yh Zd.cl Zd.n_unknown_ends (dv 0)) (dv 2))) (Zi (Zl Zj))))))))),λds S Q h=>by
  unfold R5 at h;split at h
  .rename_i n wm;obtain⟨ow,k,o,ws,⟨N,a,b,c,m,u,e,r,rfl,tp⟩,hw,nw,⟨w0,lo,hi,t1,b1,t2,b2,rfl,n0,l1,l2,i1,i2,nl,lk,lm,lu,le,rfl⟩,h⟩:=h;have ap:=tp.apart;refine⟨w0,lo,hi,t1,b1,t2,b2,hw,n0,l1,l2,i1,i2,nl,?_⟩;refine ZP (S1:=S) (n:=n) (λK hK=>by exact hK) tp.tsk rfl ?_;refine Z4 (o:=.lst ([w0,"in",lo,hi].map D.str)) hw (d:=.str w0) rfl ?_;refine⟨N,m,u,e,r,k.ml,tp.tsk,tp.mea,lk,?_⟩;refine Yc (S1:=S) (n:=n) (λK hK=>by exact hK) tp.tsk rfl ?_;refine YL tp.nam ?_;rw[zC];refine ifD (λc1=>absurd c1 ()) (λc1=>?_);refine J6 ?_;refine ZP (S1:=S) (n:=N) (λK hK=>Yc (S1:=S) (n:=n) (λK hK=>by exact hK) tp.tsk rfl hK) tp.net.net rfl ?_;refine args1 (d:=.tup [.str "unknown",.int (k.un.length:Int)]) (S1:=S) (λK hK=>by exact hK) ?_;cases ep:YI (k.ns,k.hs) (.unknown (k.un.length:Int)) with
   | none=>
    rw[ep] at h;have e0:idx (Nd.unknown (k.un.length:Int)) k.ns=none/\(16<(Nd.unknown (k.un.length:Int)).w k.hs\/k.ns.length=60):=by
     unfold YI at ep;cases ei:idx (Nd.unknown (k.un.length:Int)) k.ns with
     | some i=>simp only[ei] at ep;cases ep
     | none=>
      simp only[ei] at ep;split at ep
      .rename_i z;exact⟨rfl,z⟩
      .cases ep
    exact⟨.unknown (k.un.length:Int),k.ns,k.hs,a,b,c,rfl,tp.net,trivial,tp.nok.small,tp.nok.sixty,.inr (.inl ⟨e0.1,e0.2,h S Ng.refl⟩)⟩
   | some q=>
   obtain⟨M,j⟩:=q;rw[ep] at h;obtain⟨o1,lj,⟨x1,y1⟩,_⟩:=QF tp.nok (v:=.unknown (k.un.length:Int)) trivial ep;have np:∀(Q:DK)(ex:Addr->Sto->Prop),(match YI (k.ns,k.hs) (.unknown (k.un.length:Int)) with|none=>∀T:Sto,Ng [a,b,c] S T->ex ZD.c T|some (M,j)=>∀T:Sto,Ng [a,b,c] S T->YD Zh.C T N a b c M.1 M.2->Q (.int (j:Int)) T)->VM Zh.C ZD.c [.ref N,.tup [.str "unknown",.int (k.un.length:Int)]] S Q ex:=λQ ex h=>⟨.unknown (k.un.length:Int),k.ns,k.hs,a,b,c,rfl,tp.net,trivial,tp.nok.small,tp.nok.sixty,OD (ex:=λT=>ex ZD.c T) tp.net h⟩
   refine np _ _ ?_;rw[ep];intro T gT NT;obtain⟨tp2,g2⟩:=tp.unk (w0:=w0) (d:=enD t1 b1 t2 b2) gT NT o1 lj (by rw[y1,zF];lia);have mv:∀ {x:Nat} {o:Ob},S[x]?=some o->x≠a->x≠b->x≠c->T[x]?=some o:=λhx n1 n2 n3=>gT.2 _ _ (by simp[n1,n2,n3]) hx
   simp only[Z7,zB,zG,or_false,not_or] at nw;obtain⟨w1,w2,w3,w4,w5,w6,w7,w8,w9⟩:=nw;have tw:=mv hw w3 w4 w5
   have tt:=mv tp.tsk ap.na ap.nb ap.nc
   have tm:=mv tp.mea (Ne.symm ap.am) (Ne.symm ap.bm) (Ne.symm ap.cm)
   have tu:=mv tp.nam (Ne.symm ap.au) (Ne.symm ap.bu) (Ne.symm ap.cu)
   have te:=mv tp.ends (Ne.symm ap.ae) (Ne.symm ap.be) (Ne.symm ap.ce);refine GC (n:=m) (S2:=T) (y:=.str w0) (k:=.inr w0) (λK hK=>Yc (S1:=T) (n:=n) (λK hK=>by exact hK) tt rfl hK) (λK hK=>Z4 (o:=.lst ([w0,"in",lo,hi].map D.str)) tw (d:=.str w0) rfl hK) tm rfl (by rw[Qt];lia) ?_;rw[N6 j lk];refine Wy (S1:=T.set m (.dck (mlK (k.ml++[(w0,j)])))) (n:=u) (xs:=k.un.map D.str) (y:=.str w0) (λK hK=>Yc (n:=n) (λK hK=>by exact hK) (Zk tt ap.nm) rfl hK) (Zk tu (Ne.symm ap.mu)) (λK hK=>Z4 (o:=.lst ([w0,"in",lo,hi].map D.str)) (Zk tw w6) (d:=.str w0) rfl hK) (by rw[zC];lia) ?_;refine Wy (n:=e) (xs:=k.en) (y:=enD t1 b1 t2 b2) (λK hK=>Yc (n:=n) (λK hK=>by exact hK) (Zk (Zk tt ap.nm) ap.nu) rfl hK) (Zk (Zk te (Ne.symm ap.me)) (Ne.symm ap.ue)) (λK hK=>by exact hK) () ?_;exact h _ _ g2 (λx hx=>.inl hx) ⟨N,a,b,c,m,u,e,r,rfl,tp2⟩
  .exact h.elim⟩)
noncomputable def zdn  (Zf:XX K mg)(Fx:Dm K Zf.C q3 q57 Kh Np):Fm P w K mg base 1 Zf.C q3 Np (RB Zf.C):=
 Fx.mk' (ZN (k:=0) Fx.F zdc (Cm Zf.C) λ_ _ _ _ _ _ hr=>⟨_,(Zg (We Zf.cl Zf.n_words (dv 0) (dv 1)) (Zg (We Zf.cl Zf.n_place (dv 0) Ze) (Zi (We Zf.cl Zf.n_depth (dv 0) Ze)))),λds S Q ex h=>by
  unfold RB at h;split at h
  .rename_i n wm;obtain⟨T,rfl,rfl,h⟩:=h;refine WG (v:=.ref wm) (n:=T.length) (fs:=[]) (λK hK=>by exact hK) (λK hK=>by exact hK) (Zz _ _) ⋯ ?_;rw[MN];refine WG (v:=.int 0) (n:=T.length) (fs:=Z8 "words" (.ref wm) []) (λK hK=>by exact hK) (λK hK=>by exact hK) (Zz _ _) (show 1<1000 by decide) ?_;rw[MN];refine WG (v:=.int 0) (n:=T.length) (fs:=Z8 "place" (.int 0) (Z8 "words" (.ref wm) [])) (λK hK=>by exact hK) (λK hK=>by exact hK) (Zz _ _) (show 2<1000 by decide) ?_;rw[MN];exact h
  .exact h.elim⟩)
noncomputable def Dw  (Zf:XX K mg)(Hl:Dm K Zf.C q73 q67 MX Tp)(ZA:mg "len"=none):Fm P w K mg base 1 Zf.C q73 Tp (Tc Zf.C):=
 Hl.mk' (ZN (k:=0) Hl.F zdN (Aw Zf.C) λ_ _ _ _ _ _ hr=>⟨_,(Zi (Zl (XF (ZV hr) (Yh Zf.cl Zf.n_place (dv 0)) (ZX (ZK Yz) rfl ZA Boot.«len» (Za (Yh Zf.cl Zf.n_words (dv 0)) Zb)) (Zp _)))),λds S Q ex h=>by
  unfold Tc at h;split at h
  .rename_i n;obtain⟨wm,ws,p,d,rd,h⟩:=h;refine Yc (S1:=S) (λK hK=>by exact hK) rd.rd rfl ?_;refine Yc (S1:=S) (λK hK=>by exact hK) rd.rd rfl ?_;refine YL rd.wd ?_;rw[zC];have e:decide ((p:Int)=((ws.length:Nat):Int))=decide (p=ws.length):=decide_eq_decide.mpr ()
   show Q (.bl (decide ((p:Int)=((ws.length:Nat):Int)))) S;rw[e];exact h
  .exact h.elim⟩)
noncomputable def zc9  (Zf:XX K mg)(Gk:Dm K Zf.C "take" q83 Jh Vr)(Zw:Ec K mg q56)(XN:Fm P w K mg base 1 Zf.C q73 Tp (Tc Zf.C)):Fm P w K mg base 2 Zf.C "take" Vr (Vk Zf.C Zw.c):=
 Gk.mk' (XQ (k:=1) Gk.F Fb (CQ Zf.C Zw.c) λcdv A outer s H E ex hr hpx hrx=>⟨_,(Zg (Zq (Z9 (YG (C:=Zf.C) (dv 0) Zf.cl XN.m XN.ok (hr.mono ⋯) XN.b hpx)) (Zi (Wv Zw.xc PySem.F.excBase_ValueError hrx hr.hd rfl (Za Zj Zb))) Zu) (Zg (Zn (i:=1) Fb.nd rfl (Or.inl rfl) (Yb (Yh Zf.cl Zf.n_words (dv 0)) (Yh Zf.cl Zf.n_place (dv 0)) (λ_ _=>rfl))) (Zg (GY Zf.cl Zf.n_place (dv 0) Ze) (Zi (Zl (dv 1)))))),λds S Q h=>by
  unfold Vk at h;split at h
  .rename_i n;obtain⟨wm,ws,p,d,rd,h⟩:=h;refine ZP (S1:=S) (n:=n) (λK hK=>by exact hK) rd.rd rfl ?_;refine⟨wm,ws,p,d,rd,?_⟩;by_cases c:p=ws.length
   .rw[decide_eq_true c];rw[yY ()] at h;refine Yy ?_;exact h
   .rw[decide_eq_false c];have lp:p<ws.length:=by have:=rd.pl;lia
    rw[xA lp] at h;refine Yc (S1:=S) (λK hK=>by exact hK) rd.rd rfl ?_;refine Yc (S1:=S) (λK hK=>by exact hK) rd.rd rfl ?_;refine Z4 (o:=.lst (ws.map D.str)) rd.wd (WH lp) ?_;refine L0 (S1:=S) (S2:=S) (n:=n) (λK hK=>by exact hK) rd.rd rfl (λK hK=>by exact hK) rd.rd (show 3<1000 by decide) ?_;exact h
  .exact h.elim⟩)
noncomputable def zd9  (Zf:XX K mg)(J8:Dm K Zf.C "sees" q82 MP Tf)(XN:Fm P w K mg base 1 Zf.C q73 Tp (Tc Zf.C)):Fm P w K mg base 2 Zf.C "sees" Tf (VP Zf.C):=
 J8.mk' (ZN (k:=1) J8.F Br (BQ Zf.C) λ_ _ _ _ _ _ hr=>⟨_,(Zi (Zl (XH (M9 (YG (C:=Zf.C) (dv 0) Zf.cl XN.m XN.ok (hr.mono ⋯) XN.b Ye)) (XU (XF (zeo hr) (Yb (Yh Zf.cl Zf.n_words (dv 0)) (Yh Zf.cl Zf.n_place (dv 0)) (λ_ _=>rfl)) (dv 1) rfl))))),λds S Q ex h=>by
  unfold VP at h;split at h
  .rename_i n es;obtain⟨cs,rfl,wm,ws,p,d,rd,h⟩:=h;refine ZP (S1:=S) (n:=n) (λK hK=>by exact hK) rd.rd rfl ?_;refine⟨wm,ws,p,d,rd,?_⟩;by_cases c:p=ws.length
   .rw[decide_eq_true c];rw[yY ()] at h;exact h
   .rw[decide_eq_false c];have lp:p<ws.length:=by have:=rd.pl;lia
    rw[xA lp] at h;refine Yc (S1:=S) (λK hK=>by exact hK) rd.rd rfl ?_;refine Yc (S1:=S) (λK hK=>by exact hK) rd.rd rfl ?_;refine Z4 (o:=.lst (ws.map D.str)) rd.wd (WH lp) ?_;exact zdQ h
  .rename_i n m;obtain⟨cs,hm,wm,ws,p,d,rd,h⟩:=h;refine ZP (S1:=S) (n:=n) (λK hK=>by exact hK) rd.rd rfl ?_;refine⟨wm,ws,p,d,rd,?_⟩;by_cases c:p=ws.length
   .rw[decide_eq_true c];rw[yY ()] at h;exact h
   .rw[decide_eq_false c];have lp:p<ws.length:=by have:=rd.pl;lia
    rw[xA lp] at h;refine Yc (S1:=S) (λK hK=>by exact hK) rd.rd rfl ?_;refine Yc (S1:=S) (λK hK=>by exact hK) rd.rd rfl ?_;refine Z4 (o:=.lst (ws.map D.str)) rd.wd (WH lp) ?_;exact DD hm h
  .exact h.elim⟩)
noncomputable def zbj  {t_MOST_BRACKETS:Tok}(n:Nat)(Zf:XX K mg)(Tb:Dm K Zf.C q79 q62 Ru SO)(Zw:Ec K mg q56)(ZI:Ec K mg q32)(Yk:Fm P w K mg base 2 Zf.C "take" Vr (Vk Zf.C Zw.c))(WO:Fm P w K mg base (3+5*n) Zf.C q48 Um (VY n Zf.C Zw.c ZI.c))(g_MOST_BRACKETS:mg "MOST_BRACKETS"=some (.int 16 t_MOST_BRACKETS)):Fm P w K mg base (3+5*n+1) Zf.C q79 SO (QX (n+1) Zf.C Zw.c ZI.c):=
 Tb.mk' (XQ (k:=(3+5*n+0)) Tb.F HA (D4 (n+1) Zf.C Zw.c ZI.c) λcdv A outer s H E ex hr hpx hrx=>⟨_,(Zg (GY Zf.cl Zf.n_depth (dv 0) Ze) (Zg (Zq (Zs UE (Yh Zf.cl Zf.n_depth (dv 0)) (Vs g_MOST_BRACKETS rfl) (Zp _)) (Zi (Wv Zw.xc PySem.F.excBase_ValueError hrx hr.hd rfl (Za Zj Zb))) Zu) (Zg (Zn (i:=1) HA.nd rfl (Or.inl rfl) (YG (C:=Zf.C) (dv 0) Zf.cl WO.m WO.ok (hr.mono ()) WO.b hpx)) (Zg (Zq (Zs (Y3 hr) (YG (C:=Zf.C) (dv 0) Zf.cl Yk.m Yk.ok (hr.mono ()) Yk.b hpx) Zj (Zp _)) (Zi (Wv Zw.xc PySem.F.excBase_ValueError hrx hr.hd rfl (Za Zj Zb))) Zu) (Zg (C0 Zf.cl Zf.n_depth (dv 0) Ze) (Zi (Zl (dv 1)))))))),λds S Q h=>by
  unfold QX at h;split at h
  .rename_i n0;obtain⟨wm,ws,p,d,rd,d16,lv,h⟩:=h;unfold brS at h;refine L0 (S1:=S) (S2:=S) (n:=n0) (λK hK=>by exact hK) rd.rd rfl (λK hK=>by exact hK) rd.rd (show 3<1000 by decide) ?_;obtain⟨rd1,x1⟩:=rd.put (p':=p) (d':=d+1) (p:Int) ((d:Int)+1) rfl () rd.pl;rw[show Z8 "depth" (.int ((d:Int)+1)) (rdF wm (p:Int) (d:Int))=rdF wm (p:Int) ((d:Int)+1) from rfl];generalize S.set n0 (.ins Zf.C (rdF wm (p:Int) ((d:Int)+1)))=S1 at rd1 x1 ⊢;refine Yc (S1:=S1) (n:=n0) (λK hK=>by exact hK) rd1.rd rfl ?_;refine ifD (λc=>?_) (λc=>?_)
   .have e:d=16:=by lia
    subst e;exact h _ x1
   .have e:16-d=(16-(d+1))+1:=by lia
    have ei:inS (16-d) (ws.drop p)=exS (16-(d+1)) (ws.drop p):=by rw[e];rfl
    rw[ei] at h;refine ZP (S1:=S1) (n:=n0) (λK hK=>by exact hK) rd1.rd rfl ?_;refine⟨wm,ws,p,d+1,rd1,(),(),?_⟩;cases ee:exS (16-(d+1)) (ws.drop p) with
    | none=>
     rw[ee] at h;exact λT xT=>h T (x1.trans xT)
    | some tr=>
     obtain⟨t,r⟩:=tr;obtain⟨er,lr⟩:=UU (Jr _) ee;rw[ee] at h;intro T xT rdT;refine ZP (S1:=T) (n:=n0) (λK hK=>by exact hK) rdT.rd rfl ?_;refine⟨wm,ws,ws.length-r.length,d+1,rdT,?_⟩;rw[er];cases r with
     | nil=>exact h T (x1.trans xT)
     | cons w2 r2=>
      rw[zP] at lr rdT ⊢;obtain⟨rd2,x2⟩:=rdT.put (p':=ws.length-r2.length) (d':=d+1) (((ws.length-(r2.length+1):Nat):Int)+1) (((d+1:Nat)):Int) () rfl ();dsimp only[dC];refine txNe ?_;by_cases c2:w2=")"
      .rw[decide_eq_true c2];dsimp only at h;rw[if_pos ((Fn w2).mpr c2)] at h;generalize T.set n0 (.ins Zf.C (rdF wm (((ws.length-(r2.length+1):Nat):Int)+1) (((d+1:Nat)):Int)))=T2 at rd2 x2 ⊢;refine L0 (S1:=T2) (S2:=T2) (n:=n0) (λK hK=>by exact hK) rd2.rd rfl (λK hK=>by exact hK) rd2.rd (show 3<1000 by decide) ?_;obtain⟨rd3,x3⟩:=rd2.put (p':=ws.length-r2.length) (d':=d) ((ws.length-r2.length:Nat):Int) (((d+1:Nat):Int)-1) rfl () rd2.pl;exact h _ (x1.trans (xT.trans (x2.trans x3))) rd3
      .rw[decide_eq_false c2];dsimp only at h;rw[if_neg λz=>c2 ((Fn w2).mp z)] at h;exact h _ (x1.trans (xT.trans x2))
  .exact h.elim⟩)
noncomputable def zch  (n:Nat)(Zf:XX K mg)(Uy:Dm K Zf.C "atom" q85 QJ TH)(Zw:Ec K mg q56)(ZI:Ec K mg q32)(W8:Fk P w K mg base 3 q20 S9 (U1 Zw.c ZI.c))(XD:Fk P w K mg base 2 q23 VZ VD)(Pn:Fm P w K mg base (3+5*n+1) Zf.C q79 SO (QX (n+1) Zf.C Zw.c ZI.c))(Yk:Fm P w K mg base 2 Zf.C "take" Vr (Vk Zf.C Zw.c)):Fm P w K mg base (3+5*n+2) Zf.C "atom" TH (RV (n+1) Zf.C Zw.c ZI.c):=
 Uy.mk' (XQ (k:=(3+5*n+1)) Uy.F Kd (zdZ (n+1) Zf.C Zw.c ZI.c) λcdv A outer s H E ex hr hpx hrx=>⟨_,(Zg (Zn (i:=1) Kd.nd rfl (Or.inl rfl) (YG (C:=Zf.C) (dv 0) Zf.cl Yk.m Yk.ok (hr.mono ()) Yk.b hpx)) (Zg (Zq (Zs (ZV hr) (dv 1) Zj (Zp _)) (Zi (Zl (YG (C:=Zf.C) (dv 0) Zf.cl Pn.m Pn.ok (hr.mono ()) Pn.b hpx))) Zu) (Zg (Zq (Z9 (ZW XD (hr.mono ()) hpx rfl (Za (dv 1) Zb))) (Zi (Zl (ZQ (Za Zj (Za (dv 1) Zb))))) Zu) (Zg (Zn (i:=2) Kd.nd rfl (Or.inl rfl) (ZW W8 (hr.mono ()) hpx rfl (Za (dv 1) Zb))) (Zi (Zl (ZQ (Za Zj (Za (Zy (dv 2) Ze (λ_ _=>rfl)) (Za (Zy (dv 2) Ze (λ_ _=>rfl)) Zb)))))))))),λds S Q h=>by
  unfold RV at h;split at h
  .rename_i n0;obtain⟨wm,ws,p,d,rd,d16,lv,h⟩:=h;refine ZP (S1:=S) (n:=n0) (λK hK=>by exact hK) rd.rd rfl ?_;refine⟨wm,ws,p,d,rd,?_⟩;by_cases c:p=ws.length
   .rw[yY ()] at h ⊢;exact h S (Yd.refl rd.lt)
   have lp:p<ws.length:=by have:=rd.pl;lia
   have wl:=rd.wl ws[p] (xE lp);obtain⟨rd1,x1⟩:=rd.put (p':=p+1) (d':=d) ((p:Int)+1) (d:Int) () rfl lp;have ll:(ws.drop (p+1)).length=ws.length-(p+1):=xB ..;rw[xA lp] at h ⊢;generalize ws[p]=w at h wl ⊢;dsimp only;generalize S.set n0 (.ins Zf.C (rdF wm ((p:Int)+1) (d:Int)))=S1 at rd1 x1 ⊢;refine D5 (i:=1) (a:=w) rfl (λc1=>?_) (λc1=>?_)
   .rw[zet c1] at h;refine ZP (S1:=S1) (n:=n0) (λK hK=>by exact hK) rd1.rd rfl ?_;refine⟨wm,ws,p+1,d,rd1,d16,lv,?_⟩;cases eb:brS (16-d) (ws.drop (p+1)) with
    | none=>
     rw[eb] at h;exact λT xT=>h T (x1.trans xT)
    | some tr=>
     rw[eb] at h;exact λT xT rdT=>h T (x1.trans xT) rdT
   .rw[zdz c1] at h;refine⟨(),?_⟩;cases cn:ZU w with
    | true=>
     rw[QB cn] at h;have z:=h S1 x1 (by rw[ll,show ws.length-(ws.length-(p+1))=p+1 by lia];exact rd1)
     have e:trD (.nm (cs w))=.tup [.str "name",.str w]:=by
      show D.tup [.str "name",.str (mk (cs w))]=_;rw[Ur]
     rw[e] at z;exact z
    | false=>
     refine⟨(),λt b hn=>?_,λhb=>?_⟩
     .rw[JV cn hn] at h;exact h S1 x1 (by rw[ll,show ws.length-(ws.length-(p+1))=p+1 by lia];exact rd1)
     .rw[PZ cn hb] at h;exact h S1 x1
  .exact h.elim⟩)
noncomputable def Bu  (n:Nat)(Zf:XX K mg)(UH:Dm K Zf.C q89 q68 Q3 T8)(Zw:Ec K mg q56)(ZI:Ec K mg q32)(Yk:Fm P w K mg base 2 Zf.C "take" Vr (Vk Zf.C Zw.c))(Y6:Fm P w K mg base 2 Zf.C "sees" Tf (VP Zf.C))(R8:Fm P w K mg base (3+5*n+2) Zf.C "atom" TH (RV (n+1) Zf.C Zw.c ZI.c))(g_POWERS:GT K mg "POWERS" ["2","3","4","5","6"])(Z6:mg "int"=none):Fm P w K mg base (3+5*n+3) Zf.C q89 T8 (QU (n+1) Zf.C Zw.c ZI.c):=
 UH.mk' (XQ (k:=(3+5*n+2)) UH.F IM (zer (n+1) Zf.C Zw.c ZI.c) λcdv A outer s H E ex hr hpx hrx=>⟨_,(Zg (Zn (i:=1) IM.nd rfl (Or.inl rfl) (YG (C:=Zf.C) (dv 0) Zf.cl R8.m R8.ok (hr.mono ()) R8.b hpx)) (Zg (Zq (Wn (Z9 (Xn (C:=Zf.C) (dv 0) Zf.cl Y6.m Y6.ok (hr.mono ()) Y6.b hpx (Za (ZQ (Za Zj Zb)) Zb)))) (Zi (Zl (dv 1))) Zu) (Zg (Y0 (YG (C:=Zf.C) (dv 0) Zf.cl Yk.m Yk.ok (hr.mono ()) Yk.b hpx)) (Zg (Zq (Wn (Z9 (Xn (C:=Zf.C) (dv 0) Zf.cl Y6.m Y6.ok (hr.mono ()) Y6.b hpx (Za (zdD g_POWERS rfl) Zb)))) (Zi (Wv Zw.xc PySem.F.excBase_ValueError hrx hr.hd rfl (Za Zj Zb))) Zu) (Zi (Zl (ZQ (Za Zj (Za (dv 1) (Za (Xu (ZK Od) rfl Z6 Boot.«int» (Za (YG (C:=Zf.C) (dv 0) Zf.cl Yk.m Yk.ok (hr.mono ()) Yk.b hpx) Zb)) Zb)))))))))),λds S Q h=>by
  unfold QU at h;split at h
  .rename_i n0;obtain⟨wm,ws,p,d,rd,d16,lv,h⟩:=h;refine ZP (S1:=S) (n:=n0) (λK hK=>by exact hK) rd.rd rfl ?_;refine⟨wm,ws,p,d,rd,d16,lv,?_⟩;cases ea:Xg kS avS (inS (16-d)) (ws.drop p) with
   | none=>
    rw[zd8 ea] at h;exact h
   | some tr=>
    obtain⟨t,r⟩:=tr;obtain⟨er,lr⟩:=UU (Kz Vj (Tn _)) ea;intro T xT rdT;refine ZP (S1:=T) (n:=n0) (λK hK=>by exact hK) rdT.rd rfl ?_;refine⟨["^"],rfl,wm,ws,ws.length-r.length,d,rdT,?_⟩;rw[er];cases r with
    | nil=>
     rw[Dt ea] at h;exact h T xT rdT
    | cons w r2=>
     rw[zP] at lr rdT er;dsimp only;by_cases cw:w="^"
     .rw[show (List.any (["^"]:List Str) λx=>x==w)=true by rw[cw];decide];refine ZP (S1:=T) (n:=n0) (λK hK=>by exact hK) rdT.rd rfl ?_;refine⟨wm,ws,ws.length-(r2.length+1),d,rdT,?_⟩;rw[er];have er2:=Jp er lr;obtain⟨rd2,x2⟩:=rdT.put (p':=ws.length-r2.length) (d':=d) (((ws.length-(r2.length+1):Nat):Int)+1) (d:Int) () rfl ();dsimp only;generalize T.set n0 (.ins Zf.C (rdF wm (((ws.length-(r2.length+1):Nat):Int)+1) (d:Int)))=T2 at rd2 x2 ⊢;refine ZP (S1:=T2) (n:=n0) (λK hK=>by exact hK) rd2.rd rfl ?_;obtain⟨rd3,x3⟩:=rd2.app [.tpl POW];refine⟨POW,Zz _ _,wm,ws,ws.length-r2.length,d,rd3,?_⟩;rw[er2];cases r2 with
      | nil=>
       rw[Cb ea cw] at h;exact h _ (xT.trans (x2.trans x3))
      | cons q r3=>
       rw[zP] at lr rd3 er2;rw[BU ea cw] at h;dsimp only;rw[Bx];cases ep:pvS q with
       | none=>
        rw[ep] at h;exact h _ (xT.trans (x2.trans x3))
       | some k=>
        rw[ep] at h;obtain⟨i1,i2⟩:=zaW ep;rw[show (!(some k:Option Int).isSome)=false from rfl];refine ZH ?_;refine ZP (S1:=T2++[Ob.tpl POW]) (n:=n0) (λK hK=>by exact hK) rd3.rd rfl ?_;refine⟨wm,ws,ws.length-(r3.length+1),d,rd3,?_⟩;rw[er2];obtain⟨rd4,x4⟩:=rd3.put (p':=ws.length-r3.length) (d':=d) (((ws.length-(r3.length+1):Nat):Int)+1) (d:Int) () rfl ();refine NA i1 i2 ?_;exact h _ (xT.trans (x2.trans (x3.trans x4))) rd4
     .rw[show (List.any (["^"]:List Str) λx=>x==w)=false by simpa using Ne.symm cw];rw[D9 ea cw] at h;exact h T xT rdT
  .exact h.elim⟩)
noncomputable def zbq  (n:Nat)(Zf:XX K mg)(UQ:Dm K Zf.C "term" q84 Pe SI)(Zw:Ec K mg q56)(ZI:Ec K mg q32)(Y6:Fm P w K mg base 2 Zf.C "sees" Tf (VP Zf.C))(V1:Fm P w K mg base (3+5*n+3) Zf.C q89 T8 (QU (n+1) Zf.C Zw.c ZI.c))(Yk:Fm P w K mg base 2 Zf.C "take" Vr (Vk Zf.C Zw.c)):Fm P w K mg base (3+5*n+4) Zf.C "term" SI (RF (n+1) Zf.C Zw.c ZI.c):=
 UQ.mk' (XQ (k:=(3+5*n+3)) UQ.F LW (zen (n+1) Zf.C Zw.c ZI.c) λcdv A outer s H E ex hr hpx hrx=>⟨_,(Zg (Zn (i:=1) LW.nd rfl (Or.inl rfl) (YG (C:=Zf.C) (dv 0) Zf.cl V1.m V1.ok (hr.mono ()) V1.b hpx)) (Zg (Oa PassesOwn.leaving (Z9 (Xn (C:=Zf.C) (dv 0) Zf.cl Y6.m Y6.ok (hr.mono ()) Y6.b hpx (Za (ZQ (Za Zj Zb)) Zb))) (Zg (Y0 (YG (C:=Zf.C) (dv 0) Zf.cl Yk.m Yk.ok (hr.mono ()) Yk.b hpx)) (Zi (Zn (i:=1) LW.nd rfl (Or.inl rfl) (ZQ (Za Zj (Za (dv 1) (Za (YG (C:=Zf.C) (dv 0) Zf.cl V1.m V1.ok (hr.mono ()) V1.b hpx) Zb)))))))) (Zi (Zl (dv 1))))),λds S Q h=>by
  unfold RF at h;split at h
  .rename_i n0;obtain⟨wm,ws,p,d,rd,d16,lv,h⟩:=h;refine ZP (S1:=S) (n:=n0) (λK hK=>by exact hK) rd.rd rfl ?_;refine⟨wm,ws,p,d,rd,d16,lv,?_⟩;cases ea:Yr kS avS pvS (inS (16-d)) (ws.drop p) with
   | none=>
    rw[Ae ea] at h;exact h
   | some tr=>
    obtain⟨t,r⟩:=tr;obtain⟨er,lr⟩:=UU (NK Vj Ti (Tn _)) ea;have el:=yF (O6 (λ_ _ _ e=>RY e) ea);rw[DQ ea] at h;generalize (ws.drop p).length=N at h el;intro T xT rdT;refine⟨λm dl' S'=>∃(t:Tr)(r:List Str)(N:Nat),m=r.length/\r.length<=N/\ws.drop (ws.length-r.length)=r/\r.length<=ws.length/\Yd n0 S S'/\YA Zf.C S' n0 wm ws (ws.length-r.length) d/\dl'=[some (.ref n0),some (trD t)]/\match Xh kS avS pvS (inS (16-d)) N t r with|none=>∀T:Sto,Yd n0 S T->ex Zw.c T|some (t,r)=>∀T:Sto,Yd n0 S T->YA Zf.C T n0 wm ws (ws.length-r.length) d->Q (trD t) T,⟨r.length,t,r,N,rfl,el,er,lr,xT,rdT,rfl,h⟩,?_⟩;clear h el er lr xT rdT ea;rintro m dl' S' ⟨t,r,N,rfl,el,er,lr,xS,rdS,rfl,h⟩;refine ZP (S1:=S') (n:=n0) (λK hK=>by exact hK) rdS.rd rfl ?_;refine⟨["*"],rfl,wm,ws,ws.length-r.length,d,rdS,?_⟩;rw[er];cases r with
    | nil=>
     rw[O8 Nst.nil] at h;exact h S' xS rdS
    | cons w r2=>
     rw[zP] at lr rdS er el;dsimp only;by_cases cw:w="*"
     .rw[show (List.any (["*"]:List Str) λx=>x==w)=true by rw[cw];decide];obtain⟨N',rfl⟩:∃N',N=N'+1:=⟨N-1,()⟩;refine Yy ?_;refine ZP (S1:=S') (n:=n0) (λK hK=>by exact hK) rdS.rd rfl ?_;refine⟨wm,ws,ws.length-(r2.length+1),d,rdS,?_⟩;rw[er];have er2:=Jp er lr;obtain⟨rd2,x2⟩:=rdS.put (p':=ws.length-r2.length) (d':=d) (((ws.length-(r2.length+1):Nat):Int)+1) (d:Int) () rfl ();dsimp only;generalize S'.set n0 (.ins Zf.C (rdF wm (((ws.length-(r2.length+1):Nat):Int)+1) (d:Int)))=S2 at rd2 x2 ⊢;refine ZP (S1:=S2) (n:=n0) (λK hK=>by exact hK) rd2.rd rfl ?_;refine⟨wm,ws,ws.length-r2.length,d,rd2,d16,lv,?_⟩;rw[er2];cases ef:Yr kS avS pvS (inS (16-d)) r2 with
      | none=>
       rw[zck cw ef] at h;exact λT xT=>h T (xS.trans (x2.trans xT))
      | some tr=>
       obtain⟨t2,r3⟩:=tr;rw[BL cw ef] at h;have e2:Yr kS avS pvS (inS (16-d)) (ws.drop (ws.length-r2.length))=some (t2,r3):=by rw[er2];exact ef
       obtain⟨er3,lr3⟩:=UU (NK Vj Ti (Tn _)) e2;have l3:=O6 (λ_ _ _ e=>RY e) ef;intro T3 x3 rd3;exact⟨r3.length,by rw[zP];lia,.bi 2 t t2,r3,N',rfl,(),er3,lr3,xS.trans (x2.trans x3),rd3,rfl,h⟩
     .rw[show (List.any (["*"]:List Str) λx=>x==w)=false by simpa using Ne.symm cw];rw[O8 (Nst.cons λz=>cw ((Kl w).mp z))] at h;exact h S' xS rdS
  .exact h.elim⟩)
noncomputable def zcp  (n:Nat)(Zf:XX K mg)(VU:Dm K Zf.C q48 q51 QG Um)(Zw:Ec K mg q56)(ZI:Ec K mg q32)(Y6:Fm P w K mg base 2 Zf.C "sees" Tf (VP Zf.C))(V3:Fm P w K mg base (3+5*n+4) Zf.C "term" SI (RF (n+1) Zf.C Zw.c ZI.c))(Yk:Fm P w K mg base 2 Zf.C "take" Vr (Vk Zf.C Zw.c))(g_SUMS:GD P w K mg "SUMS" [("+","plus"),("-","minus")]):Fm P w K mg base (3+5*n+5) Zf.C q48 Um (VY (n+1) Zf.C Zw.c ZI.c):=
 VU.mk' (XQ (k:=(3+5*n+4)) VU.F O1 (zb8 (n+1) Zf.C Zw.c ZI.c) λcdv A outer s H E ex hr hpx hrx=>⟨_,(Zg (Zn (i:=1) O1.nd rfl (Or.inl rfl) (YG (C:=Zf.C) (dv 0) Zf.cl V3.m V3.ok (hr.mono ()) V3.b hpx)) (Zg (Oa PassesOwn.leaving (Z9 (Xn (C:=Zf.C) (dv 0) Zf.cl Y6.m Y6.ok (hr.mono ()) Y6.b hpx (Za (ZQ (Za Zj (Za Zj Zb))) Zb))) (Zg (Zn (i:=2) O1.nd rfl (Or.inl rfl) (HB g_SUMS rfl (YG (C:=Zf.C) (dv 0) Zf.cl Yk.m Yk.ok (hr.mono ()) Yk.b hpx) (λ_ _=>rfl))) (Zi (Zn (i:=1) O1.nd rfl (Or.inl rfl) (ZQ (Za (dv 2) (Za (dv 1) (Za (YG (C:=Zf.C) (dv 0) Zf.cl V3.m V3.ok (hr.mono ()) V3.b hpx) Zb)))))))) (Zi (Zl (dv 1))))),λds S Q h=>by
  unfold VY at h;split at h
  .rename_i n0;obtain⟨wm,ws,p,d,rd,d16,lv,h⟩:=h;rw[show exS (16-d) (ws.drop p)=XB kS avS pvS (inS (16-d)) (ws.drop p) from congrFun (LF kS avS pvS (16-d)) _] at h;refine ZP (S1:=S) (n:=n0) (λK hK=>by exact hK) rd.rd rfl ?_;refine⟨wm,ws,p,d,rd,d16,lv,?_⟩;cases ea:YN kS avS pvS (inS (16-d)) (ws.drop p) with
   | none=>
    rw[AV ea] at h;exact h
   | some tr=>
    obtain⟨t,r⟩:=tr;obtain⟨er,lr⟩:=UU (RJ Vj Ti (Tn _)) ea;have el:=yF (QO (λ_ _ _ e=>RY e) ea);rw[Cz ea] at h;generalize (ws.drop p).length=N at h el;intro T xT rdT;refine⟨λm dl' S'=>∃(t:Tr)(r:List Str)(N:Nat),m=r.length/\r.length<=N/\ws.drop (ws.length-r.length)=r/\r.length<=ws.length/\Yd n0 S S'/\YA Zf.C S' n0 wm ws (ws.length-r.length) d/\(∃u2:Option D,dl'=[some (.ref n0),some (trD t),u2])/\match Xp kS avS pvS (inS (16-d)) N t r with|none=>∀T:Sto,Yd n0 S T->ex Zw.c T|some (t,r)=>∀T:Sto,Yd n0 S T->YA Zf.C T n0 wm ws (ws.length-r.length) d->Q (trD t) T,⟨r.length,t,r,N,rfl,el,er,lr,xT,rdT,⟨_,rfl⟩,h⟩,?_⟩;clear h el er lr xT rdT ea;rintro m dl' S' ⟨t,r,N,rfl,el,er,lr,xS,rdS,⟨u2,rfl⟩,h⟩;refine ZP (S1:=S') (n:=n0) (λK hK=>by exact hK) rdS.rd rfl ?_;refine⟨["+","-"],rfl,wm,ws,ws.length-r.length,d,rdS,?_⟩;rw[er];cases r with
    | nil=>
     rw[ON (λ_ _ e=>by cases e)] at h;exact h S' xS rdS
    | cons w r2=>
     rw[zP] at lr rdS er el;dsimp only;have er2:=Jp er lr;obtain⟨rd2,x2⟩:=rdS.put (p':=ws.length-r2.length) (d':=d) (((ws.length-(r2.length+1):Nat):Int)+1) (d:Int) () rfl ();obtain⟨N',rfl⟩:∃N',N=N'+1:=⟨N-1,()⟩;by_cases c1:w="+"
     .rw[show (List.any (["+","-"]:List Str) λx=>x==w)=true by rw[c1];decide];refine Yy ?_;refine JD ?_;refine ZP (S1:=S') (n:=n0) (λK hK=>by exact hK) rdS.rd rfl ?_;refine⟨wm,ws,ws.length-(r2.length+1),d,rdS,?_⟩;rw[er];dsimp only;rw[show List.lookup w ([("+","plus"),("-","minus")]:List (Str×Str))=some "plus" by rw[c1];decide];generalize S'.set n0 (.ins Zf.C (rdF wm (((ws.length-(r2.length+1):Nat):Int)+1) (d:Int)))=S2 at rd2 x2 ⊢;refine ZP (S1:=S2) (n:=n0) (λK hK=>by exact hK) rd2.rd rfl ?_;refine⟨wm,ws,ws.length-r2.length,d,rd2,d16,lv,?_⟩;rw[er2];have ck:W3 (kS w)=some 0:=by rw[(Fu w).mpr c1];rfl
      cases ef:YN kS avS pvS (inS (16-d)) r2 with
      | none=>
       rw[Gb ck ef] at h;exact λT xT=>h T (xS.trans (x2.trans xT))
      | some tr=>
       obtain⟨t2,r3⟩:=tr;rw[Ik ck ef] at h;have e2:YN kS avS pvS (inS (16-d)) (ws.drop (ws.length-r2.length))=some (t2,r3):=by rw[er2];exact ef
       obtain⟨er3,lr3⟩:=UU (RJ Vj Ti (Tn _)) e2;have l3:=QO (λ_ _ _ e=>RY e) ef;intro T3 x3 rd3;exact⟨r3.length,by rw[zP];lia,.bi 0 t t2,r3,N',rfl,(),er3,lr3,xS.trans (x2.trans x3),rd3,⟨_,rfl⟩,h⟩
     by_cases c2:w="-"
     .rw[show (List.any (["+","-"]:List Str) λx=>x==w)=true by rw[c2];decide];refine Yy ?_;refine JD ?_;refine ZP (S1:=S') (n:=n0) (λK hK=>by exact hK) rdS.rd rfl ?_;refine⟨wm,ws,ws.length-(r2.length+1),d,rdS,?_⟩;rw[er];dsimp only;rw[show List.lookup w ([("+","plus"),("-","minus")]:List (Str×Str))=some "minus" by rw[c2];decide];generalize S'.set n0 (.ins Zf.C (rdF wm (((ws.length-(r2.length+1):Nat):Int)+1) (d:Int)))=S2 at rd2 x2 ⊢;refine ZP (S1:=S2) (n:=n0) (λK hK=>by exact hK) rd2.rd rfl ?_;refine⟨wm,ws,ws.length-r2.length,d,rd2,d16,lv,?_⟩;rw[er2];have ck:W3 (kS w)=some 1:=by rw[(Gg w).mpr c2];rfl
      cases ef:YN kS avS pvS (inS (16-d)) r2 with
      | none=>
       rw[Gb ck ef] at h;exact λT xT=>h T (xS.trans (x2.trans xT))
      | some tr=>
       obtain⟨t2,r3⟩:=tr;rw[Ik ck ef] at h;have e2:YN kS avS pvS (inS (16-d)) (ws.drop (ws.length-r2.length))=some (t2,r3):=by rw[er2];exact ef
       obtain⟨er3,lr3⟩:=UU (RJ Vj Ti (Tn _)) e2;have l3:=QO (λ_ _ _ e=>RY e) ef;intro T3 x3 rd3;exact⟨r3.length,by rw[zP];lia,.bi 1 t t2,r3,N',rfl,(),er3,lr3,xS.trans (x2.trans x3),rd3,⟨_,rfl⟩,h⟩
     .rw[show (List.any (["+","-"]:List Str) λx=>x==w)=false by simp[Ne.symm c1,Ne.symm c2]];rw[ON (λ_ _ e=>by cases e;exact zcg c1 c2)] at h;exact h S' xS rdS
  .exact h.elim⟩)
noncomputable def EG {t_MOST_BRACKETS:Tok}(Zf:XX K mg)(Zw:Ec K mg "NoRow")(ZI:Ec K mg "NoNumber")(Tb:Dm K Zf.C "bracket" "Reader.bracket" Ru SO)(Yk:Fm P w K mg base 2 Zf.C "take" Vr (Vk Zf.C Zw.c))(g_MOST_BRACKETS:mg "MOST_BRACKETS"=some (.int 16 t_MOST_BRACKETS))(Uy:Dm K Zf.C "atom" "Reader.atom" QJ TH)(W8:Fk P w K mg base 3 "number_of" S9 (U1 Zw.c ZI.c))(XD:Fk P w K mg base 2 "is_name" VZ VD)(UH:Dm K Zf.C "factor" "Reader.factor" Q3 T8)(Y6:Fm P w K mg base 2 Zf.C "sees" Tf (VP Zf.C))(g_POWERS:GT K mg "POWERS" ["2","3","4","5","6"])(Z6:mg "int"=none)(UQ:Dm K Zf.C "term" "Reader.term" Pe SI)(VU:Dm K Zf.C "expression" "Reader.expression" QG Um)(g_SUMS:GD P w K mg "SUMS" [("+","plus"),("-","minus")]):(n:Nat)->Fm P w K mg base (3+5*n) Zf.C "expression" Um (VY n Zf.C Zw.c ZI.c)
 | 0=>VU.vac _ λds S Q ex h=>by
  unfold VY at h;split at h
  .obtain⟨wm,ws,p,d,_,h1,h2,_⟩:=h;lia
  .exact h.elim
 | n+1=>
  let WO:=EG Zf Zw ZI Tb Yk g_MOST_BRACKETS Uy W8 XD UH Y6 g_POWERS Z6 UQ VU g_SUMS n
  let Pn:=zbj n Zf Tb Zw ZI Yk WO g_MOST_BRACKETS
  let R8:=zch n Zf Uy Zw ZI W8 XD Pn Yk
  let V1:=Bu n Zf UH Zw ZI Yk Y6 R8 g_POWERS Z6
  let V3:=zbq n Zf UQ Zw ZI Y6 V1 Yk
  zcp n Zf VU Zw ZI Y6 V3 Yk g_SUMS
noncomputable def zcI  {t_MOST_WORDS:Tok}(Zf:XX K mg)(GP:Df K mg q44 LQ QD)(Zw:Ec K mg q56)(ZI:Ec K mg q32)(XN:Fm P w K mg base 1 Zf.C q73 Tp (Tc Zf.C))(WO:Fm P w K mg base 88 Zf.C q48 Um (VY 17 Zf.C Zw.c ZI.c))(TX:Fm P w K mg base 1 Zf.C q3 Np (RB Zf.C))(g_MOST_WORDS:mg "MOST_WORDS"=some (.int 120 t_MOST_WORDS))(ZA:mg "len"=none):Fk P w K mg base 89 q44 QD (So Zf.C Zw.c ZI.c):=
 GP.mk' (XQ (k:=88) GP.F La (C9 Zf.C Zw.c ZI.c) λcdv A outer s H E ex hr hpx hrx=>⟨_,(Zg (Zq (Zs UE (ZX (ZK Yz) rfl ZA Boot.«len» (Za (dv 0) Zb)) (Vs g_MOST_WORDS rfl) (Zp _)) (Zi (Wv Zw.xc PySem.F.excBase_ValueError hrx hr.hd rfl (Za Zj Zb))) Zu) (Zg (Zn (i:=1) La.nd rfl (Or.inl rfl) (AS ⟨Zf.makes,TX.m.at_,TX.m.fn,Zf.kp⟩ TX.ok (hr.mono ⋯) rfl Zf.m TX.b hpx (Za (dv 0) Zb))) (Zg (Zn (i:=2) La.nd rfl (Or.inl rfl) (YG (C:=Zf.C) (dv 1) Zf.cl WO.m WO.ok (hr.mono ⋯) WO.b hpx)) (Zg (Zq (Wn (Z9 (YG (C:=Zf.C) (dv 1) Zf.cl XN.m XN.ok (hr.mono ⋯) XN.b hpx))) (Zi (Wv Zw.xc PySem.F.excBase_ValueError hrx hr.hd rfl (Za Zj Zb))) Zu) (Zi (Zl (dv 2))))))),λds S Q h=>by
  unfold So at h;split at h
  .rename_i wm;obtain⟨ws,hw,l9,wl,h⟩:=h;refine YL hw ?_;rw[zC];refine ifD (λc=>?_) (λc=>?_)
   .rw[show trS ws=none by unfold trS;rw[if_pos ()]] at h;exact h S Pre.refl
   .have lw:=ZL hw;refine⟨S,rfl,rfl,rfl,?_⟩;have rd:YA Zf.C (S++[.ins Zf.C (rdF wm 0 0)]) S.length wm ws 0 0:=⟨Zz _ _,ZF hw,zS _,l9,wl⟩
    have x0:∀T:Sto,Yd S.length (S++[.ins Zf.C (rdF wm 0 0)]) T->Pre S T:=λT x y o e=>x.2 y o (λz=>by have:=ZL e;lia) (ZF e)
    generalize S++[Ob.ins Zf.C (rdF wm 0 0)]=S1 at rd x0 ⊢;refine ZP (S1:=S1) (n:=S.length) (λK hK=>by exact hK) rd.rd rfl ?_;refine⟨wm,ws,0,0,rd,(),(),?_⟩;have l12:¬ 120<ws.length:=by lia
    rw[List.drop_zero];cases ee:exS (16-0) ws with
    | none=>
     rw[A6 l12 ee] at h;exact λT xT=>h T (x0 T xT)
    | some tr=>
     obtain⟨t,r⟩:=tr;intro T xT rdT;refine ZP (S1:=T) (n:=S.length) (λK hK=>by exact hK) rdT.rd rfl ?_;refine⟨wm,ws,ws.length-r.length,0,rdT,?_⟩;have lr:=Le 16 (show exS 16 ws=some (t,r) from ee);cases r with
     | nil=>
      rw[Et l12 ee] at h;rw[decide_eq_true (show ws.length-([]:List Str).length=ws.length from rfl)];exact h T (x0 T xT)
     | cons w r2=>
      rw[Bm l12 ee] at h;rw[decide_eq_false (by rw[zP] at lr ⊢;lia)];exact h T (x0 T xT)
  .exact h.elim⟩)
noncomputable def zee  (Zd:Xq K mg)(JR:Dm K Zd.C q41 q55 L1 Qq)(XD:Fk P w K mg base 2 q23 VZ VD):Fm P w K mg base 3 Zd.C q41 Qq (Se Zd.C):=
 JR.mk' (ZN (k:=2) JR.F JT (zcl Zd.C) λ_ _ _ _ _ _ hr=>⟨_,(Zi (Py (i:=2) PassesOwn.never rfl JT.nd rfl (Or.inl rfl) (dv 1) (Zi (Zq (PDW.pt (ND (Z9 (ZT XD hr (Za (dv 2) Zb))) (OB (zaO hr (dv 2) (Yh Zd.cl Zd.n_meanings (dv 0)))))) (Zi Vm) Zu)))),λds S Q ex h=>by
  unfold Se at h;split at h
  .rename_i n wm;obtain⟨ws,N,m,u,e,r,ml,h1,h2,hw,hk,h⟩:=h;refine zaV (n:=wm) (o:=.lst (ws.map D.str)) (λx=>∃w∈ws,x=.str w) hw (show 2<3 by decide) (λx hx=>?_) ?_ ?_
   .obtain⟨w,hw',rfl⟩:=yM.mp hx;exact⟨w,hw',rfl⟩
   .rintro x nx ct ⟨w,hw',rfl⟩ hnx;obtain⟨l9,kn⟩:=hk w hw';refine⟨(),?_⟩;cases c:ZU w with
    | false=>exact hnx
    | true=>
     obtain⟨j,ej⟩:=kn c;refine Dd (n:=m) (S2:=S) (y:=.str w) (k:=.inr w) (λK hK=>by exact hK) (λK hK=>Yc (S1:=S) (n:=n) (λK hK=>by exact hK) h1 rfl hK) h2 rfl ?_;rw[Sk,ej];exact hnx
   .intro v;exact h
  .exact h.elim⟩)
noncomputable def C5  (Zh:Xf K mg)(G3:Df K mg q45 KS QT)(ZD:Ec K mg q54)(Vg:Fm P w K mg base 1 Zh.C q34 Q7 (TR Zh.C))(YW:Fm P w K mg base 2 Zh.C "put" UR (VM Zh.C ZD.c))(Wu:Fm P w K mg base 1 Zh.C q3 Qs (SD Zh.C)):Fk P w K mg base 3 q45 QT (Sj Zh.C):=
 G3.mk' (ZN (k:=2) G3.F Lw (CU Zh.C) λ_ _ _ _ _ _ hr=>⟨_,(Zg (Zn (i:=1) Lw.nd rfl (Or.inl rfl) (NB ⟨Zh.makes,Wu.m.at_,Wu.m.fn,Zh.kp⟩ Wu.ok (hr.mono ⋯) rfl Zh.m Wu.b NY)) (Zg (Py (i:=2) PassesOwn.never rfl Lw.nd rfl (Or.inl rfl) (YG (C:=Zh.C) (dv 0) Zh.cl Vg.m Vg.ok (hr.mono ⋯) Vg.b Ye) (Zi (Y0 (Xn (C:=Zh.C) (dv 1) Zh.cl YW.m YW.ok (hr.mono ⋯) YW.b Ye (Za (dv 2) Zb))))) (Zi (Zl (dv 1))))),λds S Q ex h=>by
  unfold Sj at h;split at h
  .rename_i nn;obtain⟨ns,hs,a,b,c,N,nok,h⟩:=h;refine⟨S,rfl,rfl,rfl,?_⟩;have N1:YD Zh.C (S++[Ob.ins Zh.C (Xj (S.length+1) (S.length+2) (S.length+3)),.lst [],.lst [],.dct []]) S.length (S.length+1) (S.length+2) (S.length+3) [] []:=BR
   have g1:Ng [] S (S++[Ob.ins Zh.C (Xj (S.length+1) (S.length+2) (S.length+3)),.lst [],.lst [],.dct []]):=Ng.app _;generalize S++[Ob.ins Zh.C (Xj (S.length+1) (S.length+2) (S.length+3)),.lst [],.lst [],.dct []]=S1 at N1 g1 ⊢;refine ZP (S1:=S1) (n:=nn) (λK hK=>by exact hK) (g1.2 _ _ (by simp) N.net) rfl ?_;refine⟨a,b,c,ns.map Nd.d,g1.2 _ _ (by simp) N.net,g1.2 _ _ (by simp) N.kept,?_⟩;have hl:=nok.len;refine Ku (o:=.lst (ns.map Nd.d)) (λk dl' S'=>(∃ox:Option D,dl'=[some (.ref nn),some (.ref S.length),ox])/\YD Zh.C S' S.length (S.length+1) (S.length+2) (S.length+3) (ns.take k) (hs.take k)/\Ng [S.length+1,S.length+2,S.length+3] (S1++[Ob.lst (ns.map Nd.d)]) S') ⟨⟨none,rfl⟩,by rw[List.take_zero,List.take_zero];exact N1.app _,Ng.refl⟩ (λk dl2 S2 w=>w.2.2.2 _ _ (by have:=ZL N1.numbers;simp;lia) (Zz _ _)) ?_ ?_
   .rintro k x dl2 S2 nx2 ct2 hx ⟨⟨ox,rfl⟩,N2,g2⟩ hnx;have hk:k<ns.length:=by have:=(zE.mp hx).1;simpa [ZC] using this
    obtain⟨v,f1,f2,f3,f4,f5,f6,f7⟩:=nok.front k hk;have ex':x=v.d:=by
     have z:(ns.map Nd.d)[k]?=some x:=hx;rw[zR,f1] at z;exact(Option.some.inj z).symm
    subst ex';refine ZP (S1:=S2) (n:=S.length) (λK hK=>by exact hK) N2.net rfl ?_;obtain⟨N3,g3⟩:=N2.put v;have l6:=nok.sixty;refine⟨v,ns.take k,hs.take k,_,_,_,rfl,N2,f3,f2.small,f2.sixty,.inr (.inr ⟨f4,f5,by rw[xJ];lia,?_⟩)⟩;exact hnx _ _ ⟨⟨_,rfl⟩,by rw[f6,f7];exact N3,g2.same g3⟩
   .rintro dl2 S2 ⟨⟨ox,rfl⟩,N2,g2⟩;have ei:(ZC (.lst (ns.map Nd.d))).length=ns.length:=by show (ns.map Nd.d).length=_;rw[zC]
    rw[ei,xW,hl,xW] at N2;have lN:=ZL N1.numbers;refine h S2 S.length _ _ _ ?_ (zA _) () () () N2;exact(g1.trans (ow':=[]) (Ng.app _) (by simp)).trans g2 (by simp)
  .exact h.elim⟩)
noncomputable def zeu  (n:Nat)(Zh:Xf K mg)(Uk:Df K mg q21 Qm Vz)(ZD:Ec K mg q54)(YW:Fm P w K mg base 2 Zh.C "put" UR (VM Zh.C ZD.c))(WI:Fk P w K mg base (2+1*n) q21 Vz (WV n Zh.C ZD.c)):Fk P w K mg base (2+1*n+1) q21 Vz (WV (n+1) Zh.C ZD.c):=
 Uk.mk' (XQ (k:=(2+1*n+0)) Uk.F LP (AL (n+1) Zh.C ZD.c) λcdv A outer s H E ex hr hpx hrx=>⟨_,(Zg (Zq (Zs (ZV hr) (Zy (dv 1) Ze (λ_ _=>rfl)) Zj (Zp _)) (Zi (Zl (YE hr (dv 2) (Zy (dv 1) Ze (λ_ _=>rfl)) (λ_ _=>rfl)))) Zu) (Zg (Zq (Zs (ZV hr) (Zy (dv 1) Ze (λ_ _=>rfl)) Zj (Zp _)) (Zi (Zl (Xn (C:=Zh.C) (dv 0) Zh.cl YW.m YW.ok (hr.mono ()) YW.b hpx (Za (dv 1) Zb)))) Zu) (Zg (Zn (i:=3) LP.nd rfl (Or.inl rfl) (ZW WI (hr.mono ()) hpx rfl (Za (dv 0) (Za (Zy (dv 1) Ze (λ_ _=>rfl)) (Za (dv 2) Zb))))) (Zg (Zq (Zs (ZV hr) (Zy (dv 1) Ze (λ_ _=>rfl)) Zj (Zp _)) (Zi (Zl (Xn (C:=Zh.C) (dv 0) Zh.cl YW.m YW.ok (hr.mono ()) YW.b hpx (Za (ZQ (Za Zj (Za (dv 3) (Za (Zy (dv 1) Ze (λ_ _=>rfl)) Zb)))) Zb)))) Zu) (Zg (Zn (i:=4) LP.nd rfl (Or.inl rfl) (ZW WI (hr.mono ()) hpx rfl (Za (dv 0) (Za (Zy (dv 1) Ze (λ_ _=>rfl)) (Za (dv 2) Zb))))) (Zi (Zl (Xn (C:=Zh.C) (dv 0) Zh.cl YW.m YW.ok (hr.mono ()) YW.b hpx (Za (ZQ (Za (Zy (dv 1) Ze (λ_ _=>rfl)) (Za (dv 3) (Za (dv 4) Zb)))) Zb))))))))),λds S Q h=>by
  unfold WV at h;split at h
  .rename_i nn d m;obtain⟨t,ns,hs,a,b,c,ml,rfl,hd,N,nok,mok,hm,gd,nms,h⟩:=h;have own:∀ {T:Sto},Ng [a,b,c] S T->T[m]?=some (.dck (mlK ml)):=λg=>g.2 m _ (λz=>by
    simp only[zB,zG,or_false] at z;rcases z with z|z|z
    .exact Ys hm N.kept (by intro z;cases z) z
    .exact Ys hm N.weights (by intro z;cases z) z
    .exact Ys hm N.numbers (by intro z;cases z) z) hm
   cases t with
   | nm w=>
    obtain⟨j,ej⟩:=nms (mk w) (zU.mpr rfl);refine Oj (n:=m) (kvs:=mlK ml) (y:=.str (mk w)) (k:=.inr (mk w)) (v:=.int (j:Int)) (λK hK=>by exact hK) (λK hK=>by exact hK) hm rfl (by rw[Sk,ej];rfl) ?_;have e:ZR (λw=>ml.lookup w) (.nm w) (ns,hs)=some ((ns,hs),j):=by
     show (ml.lookup (mk w)).map _=_;rw[ej];rfl
    rw[e] at h;exact h S Ng.refl N
   | nb t b=>
    refine ZP (S1:=S) (n:=nn) (λK hK=>by exact hK) N.net rfl ?_;exact⟨.number t b,ns,hs,a,_,c,rfl,N,trivial,nok.small,nok.sixty,OD (ex:=λT=>ex ZD.c T) N h⟩
   | pw t k=>
    have hd':t.dp+1<n+1:=hd;refine⟨t,ns,hs,a,b,c,ml,rfl,(),N,nok,mok,hm,gd.1,nms,?_⟩;have e:ZR (λw=>ml.lookup w) (.pw t k) (ns,hs)=(match ZR (λw=>ml.lookup w) t (ns,hs) with|some (N1,i)=>YI N1 (.power i k)|none=>none):=rfl;rw[e] at h;cases e1:ZR (λw=>ml.lookup w) t (ns,hs) with
    | none=>rw[e1] at h;exact h
    | some x=>
     obtain⟨⟨n1,h1⟩,i⟩:=x;rw[e1] at h;obtain⟨o1,l1,_,_⟩:=Wx t nok mok gd.1 e1;have hl:=o1.len;intro T gT NT;refine ZP (S1:=T) (n:=nn) (λK hK=>by exact hK) NT.net rfl ?_;exact⟨.power (i:Int) k,n1,h1,a,b,c,rfl,NT,⟨⟨(),()⟩,gd.2⟩,o1.small,o1.sixty,OD (ex:=λT=>ex ZD.c T) NT (JI gT h)⟩
   | bi d tl tr=>
    have hd':max tl.dp tr.dp+1<n+1:=hd
    have e:ZR (λw=>ml.lookup w) (.bi d tl tr) (ns,hs)=(match ZR (λw=>ml.lookup w) tl (ns,hs) with|some (N1,i)=>(match ZR (λw=>ml.lookup w) tr N1 with|some (N2,j)=>YI N2 (.two (kdS d) i j)|none=>none)|none=>none):=rfl;rw[e] at h;have c3:d=0\/d=1\/d=2:=by have:=gd.2.2;lia
    rcases c3 with rfl|rfl|rfl
    all_goals
     refine⟨tl,ns,hs,a,b,c,ml,rfl,(),N,nok,mok,hm,gd.1,λw hw=>nms w (yH _ hw),?_⟩;cases e1:ZR (λw=>ml.lookup w) tl (ns,hs) with
     | none=>rw[e1] at h;exact h
     | some x=>
      obtain⟨⟨n1,h1⟩,i⟩:=x;rw[e1] at h;obtain⟨o1,l1,⟨r1,rfl⟩,⟨s1,rfl⟩⟩:=Wx tl nok mok gd.1 e1;intro T gT NT;refine⟨tr,ns++r1,hs++s1,a,b,c,ml,rfl,(),NT,o1,λw j q=>by have:=mok w j q;rw[zF];lia,own gT,gd.2.1,λw hw=>nms w (zX _ hw),?_⟩;dsimp only at h;cases e2:ZR (λw=>ml.lookup w) tr (ns++r1,hs++s1) with
      | none=>rw[e2] at h;exact λU u=>h U (gT.same u)
      | some y=>
       obtain⟨⟨n2,h2⟩,i2⟩:=y;rw[e2] at h;obtain⟨o2,l2,⟨r2,rfl⟩,⟨s2,rfl⟩⟩:=Wx tr o1 (λw j q=>by have:=mok w j q;rw[zF];lia) gd.2.1 e2;have hl:=o2.len
       have l1':i<(ns++r1++r2).length:=by rw[zF];lia
       have li:inL (hs++s1++s2) (i:Int):=⟨(),by rw[<- hl];exact xZ.mpr l1'⟩
       have lj:inL (hs++s1++s2) (i2:Int):=⟨(),by rw[<- hl];exact xZ.mpr l2⟩;intro U gU NU;refine ZP (S1:=U) (n:=nn) (λK hK=>by exact hK) NU.net rfl ?_;exact⟨.two _ (i:Int) (i2:Int),_,_,a,b,c,rfl,NU,⟨Hk gd.2.2,li,lj⟩,o2.small,o2.sixty,OD (ex:=λT=>ex ZD.c T) NU (JI (gT.same gU) h)⟩
  .exact h.elim⟩)
noncomputable def G9 (Zh:Xf K mg)(ZD:Ec K mg "TooMuch")(Uk:Df K mg "put_tree" Qm Vz)(YW:Fm P w K mg base 2 Zh.C "put" UR (VM Zh.C ZD.c)):(n:Nat)->Fk P w K mg base (2+1*n) "put_tree" Vz (WV n Zh.C ZD.c)
 | 0=>Uk.vac _ λds S Q ex h=>by
  unfold WV at h;split at h
  .obtain⟨t,_,_,_,_,_,_,_,h1,_⟩:=h;lia
  .exact h.elim
 | n+1=>
  let WI:=G9 Zh ZD Uk YW n
  zeu n Zh Uk ZD YW WI
noncomputable def zaD  (Zd:Xq K mg)(Zh:Xf K mg)(Zf:XX K mg)(Hx:Dm K Zd.C q59 q63 KO OV)(ZD:Ec K mg q54)(Zw:Ec K mg q56)(ZI:Ec K mg q32)(WI:Fk P w K mg base 132 q21 Vz (WV 130 Zh.C ZD.c))(SF:Fk P w K mg base 3 q45 QT (Sj Zh.C))(Ve:Fm P w K mg base 3 Zd.C q41 Qq (Se Zd.C))(W5:Fm P w K mg base 1 Zd.C q53 RE (T7 Zd.C))(UZ:Fk P w K mg base 89 q44 QD (So Zf.C Zw.c ZI.c))(XD:Fk P w K mg base 2 q23 VZ VD)(ZA:mg "len"=none):Fm P w K mg base 133 Zd.C q59 OV (Rz Zh.C Zd.C ZD.c):=
 Hx.mk' (XQ (k:=132) Hx.F Ld (DB Zh.C Zd.C ZD.c) λcdv A outer s H E ex hr hpx hrx=>⟨_,(Zg (Zq (PDW.pt (Y2 (Zs Wg (ZX (ZK Yz) rfl ZA Boot.«len» (Za (dv 1) Zb)) Ze (Zp _)) (Y2 (Wn (Z9 (ZW XD (hr.mono ⋯) hpx rfl (Za (Yb (dv 1) Ze (λ_ _=>rfl)) Zb)))) (Xk (Zs (Y3 hr) (Yb (dv 1) Ze (λ_ _=>rfl)) Zj (Zp _)))))) (Zi Vm) Zu) (Zg (Zn (i:=2) Ld.nd rfl (Or.inl rfl) (ZW UZ (hr.mono ⋯) hpx rfl (Za (SV (dv 1) (WD Ze) Ui) Zb))) (Zg (Y0 (Xn (C:=Zd.C) (dv 0) Zd.cl W5.m W5.ok (hr.mono ⋯) W5.b hpx (Za (Yb (dv 1) Ze (λ_ _=>rfl)) Zb))) (Zg (Y0 (Xn (C:=Zd.C) (dv 0) Zd.cl Ve.m Ve.ok (hr.mono ⋯) Ve.b hpx (Za (SV (dv 1) (WD Ze) Ui) Zb))) (Zg (Zn (i:=3) Ld.nd rfl (Or.inl rfl) (ZW SF (hr.mono ⋯) hpx rfl (Za (Yh Zd.cl Zd.n_net (dv 0)) Zb))) (Zg (Ss hr (Yh Zd.cl Zd.n_meanings (dv 0)) (Yb (dv 1) Ze (λ_ _=>rfl)) (ZW WI (hr.mono ⋯) hpx rfl (Za (dv 3) (Za (dv 2) (Za (Yh Zd.cl Zd.n_meanings (dv 0)) Zb))))) (Zg (We Zd.cl Zd.n_net (dv 0) (dv 3)) (Zi (Zl Zj))))))))),λds S Q h=>by
  unfold Rz at h;split at h
  .rename_i n wm;obtain⟨ow,k,o,ws,⟨N,a,b,c,m,u,e,r,rfl,tp⟩,hw,nw,⟨nm,es,t,rfl,n0,et,lk,lm,kn,rfl⟩,h⟩:=h;have io:ZC (.lst ((("let":Str)::nm::("=":Str)::es).map D.str))=(("let":Str)::nm::("=":Str)::es).map D.str:=rfl;obtain⟨le,xl,xk,xe⟩:=N7 et;obtain⟨gd,nms⟩:=Lb xe;have dp:=Nt xe;refine YL hw ?_;rw[zC];rw[show ((("let":Str)::nm::("=":Str)::es).length)=es.length+3 from rfl];refine Z4 (o:=.lst ((("let":Str)::nm::("=":Str)::es).map D.str)) hw (d:=.str nm) (WH (ws:=("let":Str)::nm::("=":Str)::es) (p:=1) (by simp)) ?_;refine⟨by have:=Ks n0;lia,?_⟩;rw[n0];refine Z4 (o:=.lst ((("let":Str)::nm::("=":Str)::es).map D.str)) hw (d:=.str "=") (WH (ws:=("let":Str)::nm::("=":Str)::es) (p:=2) (by simp)) ?_;refine TY (n:=wm) (o:=.lst ((("let":Str)::nm::("=":Str)::es).map D.str)) (S3:=S) (lo:=some 3) (hi:=none) (λK hK=>by exact hK) (λK hK=>by exact hK) (λK hK=>by exact hK) hw ?_;rw[io,show (some (3:Int))=some ((3:Nat):Int) from rfl,L7];refine⟨es,Zz _ _,(),λw hw=>(kn w hw).1,?_⟩;rw[et];intro T pT;have g1:Ng [] S T:=(Ng.app _).same (Ng.of pT)
   have tp1:=tp.up g1
   have hw1:=g1.2 _ _ (by simp) hw;refine ZP (S1:=T) (n:=n) (λK hK=>by exact hK) tp1.tsk rfl ?_;refine Z4 (o:=.lst ((("let":Str)::nm::("=":Str)::es).map D.str)) hw1 (d:=.str nm) (WH (ws:=("let":Str)::nm::("=":Str)::es) (p:=1) (by simp)) ?_;refine⟨N,m,u,e,r,k.ml,tp1.tsk,tp1.mea,lk,?_⟩;refine ZP (S1:=T) (n:=n) (λK hK=>by exact hK) tp1.tsk rfl ?_;refine TY (n:=wm) (o:=.lst ((("let":Str)::nm::("=":Str)::es).map D.str)) (S3:=T) (lo:=some 3) (hi:=none) (λK hK=>by exact hK) (λK hK=>by exact hK) (λK hK=>by exact hK) hw1 ?_;rw[io,show (some (3:Int))=some ((3:Nat):Int) from rfl,L7];have g2:Ng [] S (T++[Ob.lst ((((("let":Str)::nm::("=":Str)::es).drop 3)).map D.str)]):=g1.same (Ng.app _)
   have la:(T++[Ob.lst ((((("let":Str)::nm::("=":Str)::es).drop 3)).map D.str)])[T.length]?=some (.lst (es.map D.str)):=Zz _ _;generalize T++[Ob.lst ((((("let":Str)::nm::("=":Str)::es).drop 3)).map D.str)]=T2 at g2 la ⊢;have tp2:=tp.up g2
   have hw2:=g2.2 _ _ (by simp) hw;refine⟨es,N,m,u,e,r,k.ml,tp2.tsk,tp2.mea,la,kn,?_⟩;refine Yc (S1:=T2) (n:=n) (λK hK=>by exact hK) tp2.tsk rfl ?_;refine⟨k.ns,k.hs,a,b,c,tp2.net,tp2.nok,λT3 n2 a2 b2 c2 g3 q1 q2 q3 q4 N3=>?_⟩;have tp3:=tp2.up g3;refine J6 ?_;refine args3 (d1:=.ref n2) (d2:=trD t) (d3:=.ref m) (S1:=T3) (S2:=T3) (S3:=T3) (λK hK=>by exact hK) (λK hK=>by exact hK) (λK hK=>Yc (S1:=T3) (n:=n) (λK hK=>by exact hK) tp3.tsk rfl hK) ?_;have np:∀(Q:DK)(ex:Addr->Sto->Prop),(match ZR (λw=>k.ml.lookup w) t (k.ns,k.hs) with|none=>∀T:Sto,Ng [a2,b2,c2] T3 T->ex ZD.c T|some (N,j)=>∀T:Sto,Ng [a2,b2,c2] T3 T->YD Zh.C T n2 a2 b2 c2 N.1 N.2->Q (.int (j:Int)) T)->WV 130 Zh.C ZD.c [.ref n2,trD t,.ref m] T3 Q ex:=λQ ex h=>⟨t,k.ns,k.hs,a2,b2,c2,k.ml,rfl,(),N3,tp.nok,tp.mok,tp3.mea,gd,λw hw=>by
    obtain⟨z1,z2⟩:=nms w hw;exact(kn w z1).2 z2,h⟩
   refine np _ _ ?_;cases ep:ZR (λw=>k.ml.lookup w) t (k.ns,k.hs) with
   | none=>
    rw[show ZR k.ms t (k.ns,k.hs)=none from ep] at h;exact λT4 g4=>h T4 (((g2.same g3).trans g4 λx hx=>.inr (by
     have:=g2.1;simp only[zB,zG,or_false] at hx;lia)))
   | some q=>
   obtain⟨M,j⟩:=q;rw[show ZR k.ms t (k.ns,k.hs)=some (M,j) from ep] at h;intro T4 g4 N4;obtain⟨o1,lj,⟨x1,y1⟩,_⟩:=Wx t tp.nok tp.mok gd ep;have nw2:Vi Zh.C T2 T4 n2 a2 b2 c2 M.1 M.2:=Vi.of g3 q1 q2 q3 q4 g4 N4;obtain⟨tp5,g5,f5⟩:=tp2.par (nm:=nm) nw2 o1 lj (by rw[y1,zF];lia);refine GC (n:=m) (S2:=T4) (y:=.str nm) (k:=.inr nm) (λK hK=>Yc (S1:=T4) (n:=n) (λK hK=>by exact hK) (nw2.old tp2.tsk) rfl hK) (λK hK=>Z4 (o:=.lst ((("let":Str)::nm::("=":Str)::es).map D.str)) (nw2.old hw2) (d:=.str nm) (WH (ws:=("let":Str)::nm::("=":Str)::es) (p:=1) (by simp)) hK) (nw2.old tp2.mea) rfl (by rw[Qt];lia) ?_;rw[N6 j lk];refine WG (v:=.ref n2) (S1:=T4.set m (.dck (mlK (k.ml++[(nm,j)])))) (S2:=T4.set m (.dck (mlK (k.ml++[(nm,j)])))) (n:=n) (fs:=XY N m u e r) (λK hK=>by exact hK) (λK hK=>by exact hK) (Zk (nw2.old tp2.tsk) tp.apart.nm) (show 5<1000 by decide) ?_;exact h _ _ ((g2.nil).same g5) (λx hx=>by
    rcases f5 x hx with z|z
    .exact .inl z
    .exact .inr (zW g2.1 z)) ⟨n2,a2,b2,c2,m,u,e,r,rfl,tp5⟩
  .exact h.elim⟩)
noncomputable def Bd  (HD:Df K mg q9 KD Mg)(g_ROW_WORDS:GD P w K mg R4 [("=","zero"),(">=","least")])(WR:mg "enumerate"=none):Fk P w K mg base 1 q9 Mg QV:=
 HD.mk' (ZN (k:=0) HD.F GX (zb0) λ_ _ _ _ _ _ hr=>⟨_,(Zg (II (is:=[1,2]) PassesOwn.never rfl GX.nd (Nms.cons (i:=1) rfl (Or.inl rfl) (by first|exact .inl rfl|exact .inr rfl) (Nms.cons (i:=2) rfl (Or.inl rfl) (by first|exact .inl rfl|exact .inr rfl) Nms.nil)) rfl rfl WR Boot.«enumerate» (Za (dv 0) Zb) (Zi (Zq (DF g_ROW_WORDS rfl (dv 2)) (Zi (Zl (dv 1))) Zu))) (Zi Vm)),λds S Q ex h=>by
  unfold QV at h;split at h
  .rename_i wm;obtain⟨L,R,sg,hw,hL,hs,h⟩:=h;refine J5 (n:=wm) (xs:=(L++sg::R).map D.str) (S1:=S) (λk dl' S'=>S'=S/\k<=L.length/\∃o1 o2:Option D,dl'=[some (.ref wm),o1,o2]) (λK hK=>by exact hK) (λk dl' S' w=>by rw[w.1];exact hw) ⟨rfl,zS _,none,none,rfl⟩ ?_ ?_
   .rintro k x dl' S' nx ct hx ⟨rfl,hk,o1,o2,rfl⟩ hnx;by_cases c:k<L.length
    .have ex':x=.str L[k]:=by
      rw[zR,zY c,zD c] at hx;exact(Option.some.inj hx).symm
     subst ex';have z:=hL _ (xE c);refine Fe (k:=L[k]) (S1:=S') (λK hK=>by exact hK) ?_;rw[show ([(("=":Str),("zero":Str)),(">=","least")].lookup L[k])=none from zeq z.1 z.2];exact hnx _ _ ⟨rfl,c,_,_,rfl⟩
    .have ek:k=L.length:=by lia
     subst ek;have ex':x=.str sg:=by
      rw[zR,yC (zA _),vD] at hx;exact(Option.some.inj hx).symm
     subst ex';refine Fe (k:=sg) (S1:=S') (λK hK=>by exact hK) ?_;rw[show ([(("=":Str),("zero":Str)),(">=","least")].lookup sg).isSome=true by rcases hs with rfl|rfl<;>decide];exact h
   .rintro dl' S' ⟨_,hk,_⟩;simp at hk;lia
  .exact h.elim⟩)
noncomputable def zcF  {t_MOST_ROWS:Tok}(Zd:Xq K mg)(Zh:Xf K mg)(Zf:XX K mg)(JM:Dm K Zd.C q70 q71 KJ Of)(ZD:Ec K mg q54)(Zw:Ec K mg q56)(ZI:Ec K mg q32)(WI:Fk P w K mg base 132 q21 Vz (WV 130 Zh.C ZD.c))(SF:Fk P w K mg base 3 q45 QT (Sj Zh.C))(Ve:Fm P w K mg base 3 Zd.C q41 Qq (Se Zd.C))(UZ:Fk P w K mg base 89 q44 QD (So Zf.C Zw.c ZI.c))(Ls:Fk P w K mg base 1 q9 Mg QV)(g_ROW_WORDS:GD P w K mg R4 [("=","zero"),(">=","least")])(g_MOST_ROWS:mg "MOST_ROWS"=some (.int 12 t_MOST_ROWS))(ZA:mg "len"=none):Fm P w K mg base 133 Zd.C q70 Of (Rj Zh.C Zd.C ZD.c):=
 JM.mk' (XQ (k:=132) JM.F Tu (zcC Zh.C Zd.C ZD.c) λcdv A outer s H E ex hr hpx hrx=>⟨_,(Zg (Zn (i:=2) Tu.nd rfl (Or.inl rfl) (ZW Ls (hr.mono ⋯) hpx rfl (Za (dv 1) Zb))) (Zg (Zn (i:=3) Tu.nd rfl (Or.inl rfl) (ZW UZ (hr.mono ⋯) hpx rfl (Za (SV (dv 1) Ui (WD (dv 2))) Zb))) (Zg (Zn (i:=4) Tu.nd rfl (Or.inl rfl) (ZW UZ (hr.mono ⋯) hpx rfl (Za (SV (dv 1) (WD (Zo WX (dv 2) Ze)) Ui) Zb))) (Zg (Y0 (Xn (C:=Zd.C) (dv 0) Zd.cl Ve.m Ve.ok (hr.mono ⋯) Ve.b hpx (Za (dv 1) Zb))) (Zg (Zq (Zs (ZV hr) (ZX (ZK Yz) rfl ZA Boot.«len» (Za (Yh Zd.cl Zd.n_told_rows (dv 0)) Zb)) (Vs g_MOST_ROWS rfl) (Zp _)) (Zi Vm) Zu) (Zg (Zn (i:=5) Tu.nd rfl (Or.inl rfl) (ZW SF (hr.mono ⋯) hpx rfl (Za (Yh Zd.cl Zd.n_net (dv 0)) Zb))) (Zg (Zn (i:=6) Tu.nd rfl (Or.inl rfl) (ZW WI (hr.mono ⋯) hpx rfl (Za (dv 5) (Za (ZQ (Za Zj (Za (dv 3) (Za (dv 4) Zb)))) (Za (Yh Zd.cl Zd.n_meanings (dv 0)) Zb))))) (Zg (We Zd.cl Zd.n_net (dv 0) (dv 5)) (Zg (Y0 (X7 (Yh Zd.cl Zd.n_told_rows (dv 0)) (ZQ (Za (HB g_ROW_WORDS rfl (Yb (dv 1) (dv 2) (λ_ _=>rfl)) (λ_ _=>rfl)) (Za (dv 6) Zb))))) (Zi (Zl Zj))))))))))),λds S Q h=>by
  unfold Rj at h;split at h
  .rename_i n wm;obtain⟨ow,k,o,ws,⟨N,a,b,c,m,u,e,r,rfl,tp⟩,hw,nw,⟨L,R,sg,t,s1,rfl,hL,hs,et,es,kn,lr,rfl⟩,h⟩:=h;have io:ZC (.lst ((L++sg::R).map D.str))=(L++sg::R).map D.str:=rfl;obtain⟨le,xl,xk,xe⟩:=N7 et;obtain⟨gd,nms⟩:=Lb xe;have dp:=Nt xe;obtain⟨le',xl',xk',xe'⟩:=N7 es;obtain⟨gd',nms'⟩:=Lb xe';have dp':=Nt xe';refine⟨L,R,sg,hw,hL,hs,?_⟩;refine TY (n:=wm) (o:=.lst ((L++sg::R).map D.str)) (S3:=S) (lo:=none) (hi:=some (L.length:Int)) (λK hK=>by exact hK) (λK hK=>by exact hK) (λK hK=>by exact hK) hw ?_;rw[io,cw_to,vC];refine⟨L,Zz _ _,(),λw hw=>(kn w (yH _ hw)).1,?_⟩;rw[et];intro T pT;have g1:Ng [] S T:=(Ng.app _).same (Ng.of pT)
   have hw1:=g1.2 _ _ (by simp) hw;refine TY (n:=wm) (o:=.lst ((L++sg::R).map D.str)) (S3:=T) (lo:=some ((L.length:Int)+1)) (hi:=none) (λK hK=>by exact hK) (λK hK=>by exact hK) (λK hK=>by exact hK) hw1 ?_;rw[io,BC,zaZ];refine⟨R,Zz _ _,(),λw hw=>(kn w (zX _ (zO _ hw))).1,?_⟩;rw[es];intro T2 pT2;have g2:Ng [] S T2:=(g1.same (Ng.app _)).same (Ng.of pT2)
   have tp2:=tp.up g2
   have hw2:=g2.2 _ _ (by simp) hw;refine ZP (S1:=T2) (n:=n) (λK hK=>by exact hK) tp2.tsk rfl ?_;refine⟨L++sg::R,N,m,u,e,r,k.ml,tp2.tsk,tp2.mea,hw2,kn,?_⟩;refine Yc (S1:=T2) (n:=n) (λK hK=>by exact hK) tp2.tsk rfl ?_;refine YL tp2.rows ?_;rw[zC];refine ifD (λc1=>absurd c1 ()) (λc1=>?_);refine Yc (S1:=T2) (n:=n) (λK hK=>by exact hK) tp2.tsk rfl ?_;refine⟨k.ns,k.hs,a,b,c,tp2.net,tp2.nok,λT3 n2 a2 b2 c2 g3 q1 q2 q3 q4 N3=>?_⟩;have tp3:=tp2.up g3;refine Yc (S1:=T3) (n:=n) (λK hK=>by exact hK) tp3.tsk rfl ?_;refine zcf ?_;have np:∀(Q:DK)(ex:Addr->Sto->Prop),(match ZR (λw=>k.ml.lookup w) (.bi 1 t s1) (k.ns,k.hs) with|none=>∀T:Sto,Ng [a2,b2,c2] T3 T->ex ZD.c T|some (N,j)=>∀T:Sto,Ng [a2,b2,c2] T3 T->YD Zh.C T n2 a2 b2 c2 N.1 N.2->Q (.int (j:Int)) T)->WV 130 Zh.C ZD.c [.ref n2,trD (.bi 1 t s1),.ref m] T3 Q ex:=λQ ex h=>⟨.bi 1 t s1,k.ns,k.hs,a2,b2,c2,k.ml,rfl,by show max t.dp s1.dp+1<130;lia,N3,tp.nok,tp.mok,tp3.mea,⟨gd,gd',⋯⟩,λw hw=>by
    rcases zH.1 hw with hw|hw
    .obtain⟨z1,z2⟩:=nms w hw;exact(kn w (yH _ z1)).2 z2
    .obtain⟨z1,z2⟩:=nms' w hw;exact(kn w (zX _ (zO _ z1))).2 z2,h⟩
   refine np _ _ ?_;cases ep:ZR (λw=>k.ml.lookup w) (.bi 1 t s1) (k.ns,k.hs) with
   | none=>
    rw[show ZR k.ms (.bi 1 t s1) (k.ns,k.hs)=none from ep] at h;exact λT4 g4=>h T4 (((g2.same g3).trans g4 λx hx=>.inr (by
     have:=g2.1;simp only[zB,zG,or_false] at hx;lia)))
   | some q=>
   obtain⟨M,j⟩:=q;rw[show ZR k.ms (.bi 1 t s1) (k.ns,k.hs)=some (M,j) from ep] at h;intro T4 g4 N4;obtain⟨o1,lj,⟨x1,y1⟩,_⟩:=Wx (.bi 1 t s1) tp.nok tp.mok ⟨gd,gd',⋯⟩ ep;have nw2:Vi Zh.C T2 T4 n2 a2 b2 c2 M.1 M.2:=Vi.of g3 q1 q2 q3 q4 g4 N4;obtain⟨tp5,g5,f5⟩:=tp2.row (sg:=sgS sg) (j:=j) nw2 o1 (by rw[y1,zF];lia);refine WG (v:=.ref n2) (S1:=T4) (S2:=T4) (n:=n) (fs:=XY N m u e r) (λK hK=>by exact hK) (λK hK=>by exact hK) (nw2.old tp2.tsk) (show 5<1000 by decide) ?_;have ap:=tp.apart;simp only[Z7,zB,zG,or_false,not_or] at nw;refine Wy (S1:=T4.set n (.ins Zd.C (XY n2 m u e r))) (n:=r) (xs:=k.rw.map rwT) (y:=rwT (sgS sg,j)) (λK hK=>Yc (n:=n) (λK hK=>by exact hK) (Ym (nw2.old tp2.tsk)) rfl hK) (Zk (nw2.old tp2.rows) (Ne.symm ap.nr)) (λK hK=>?_) (by rw[zC];lia) ?_
   .refine JD ?_;refine Z4 (o:=.lst ((L++sg::R).map D.str)) (Zk (nw2.old hw2) nw.1) (d:=.str sg) (Cr L R sg) ?_;dsimp only;rw[zdA hs];exact hK
   .exact h _ _ ((g2.nil).same g5) (λx hx=>by
     rcases f5 x hx with z|z
     .exact .inl z
     .exact .inr (zW g2.1 z)) ⟨n2,a2,b2,c2,m,u,e,r,rfl,tp5⟩
  .exact h.elim⟩)
noncomputable def zeF  (Zd:Xq K mg)(Zh:Xf K mg)(JL:Dm K Zd.C "tell" q95 Jl Rf)(ZD:Ec K mg q54)(Qi:Fm P w K mg base 133 Zd.C q70 Of (Rj Zh.C Zd.C ZD.c))(RI:Fm P w K mg base 133 Zd.C q59 OV (Rz Zh.C Zd.C ZD.c))(Rq:Fm P w K mg base 5 Zd.C q46 Mh (R5 Zh.C Zd.C ZD.c))(M8:Fk P w K mg base 1 q40 NX Rl):Fm P w K mg base 134 Zd.C "tell" Rf (SU Zh.C Zd.C ZD.c):=
 JL.mk' (XQ (k:=133) JL.F HY (zcs Zh.C Zd.C ZD.c) λcdv A outer s H E ex hr hpx hrx=>⟨_,(Zg (Zn (i:=2) HY.nd rfl (Or.inl rfl) (ZW M8 (hr.mono ⋯) hpx rfl (Za (dv 1) Zb))) (Zg (Zq (Zs (zbi hr) (SV (dv 2) (WD Ze) (WD Ze)) (YC (Za Zj Zb)) (Zp _)) (Zi (Zl (Xn (C:=Zd.C) (dv 0) Zd.cl Rq.m Rq.ok (hr.mono ⋯) Rq.b hpx (Za (dv 2) Zb)))) Zu) (Zg (Zq (Zs (ZV hr) (Yb (dv 2) Ze (λ_ _=>rfl)) Zj (Zp _)) (Zi (Zl (Xn (C:=Zd.C) (dv 0) Zd.cl RI.m RI.ok (hr.mono ⋯) RI.b hpx (Za (dv 2) Zb)))) Zu) (Zi (Zl (Xn (C:=Zd.C) (dv 0) Zd.cl Qi.m Qi.ok (hr.mono ⋯) Qi.b hpx (Za (dv 2) Zb))))))),λds S Q h=>by
  unfold SU at h;split at h
  .rename_i n x;obtain⟨⟨lx,nx⟩,ow,k,o,an,tk,tc,h⟩:=h;refine⟨⟨lx,nx⟩,?_⟩;generalize hx:Txt.split x " "=ws at tc nx ⊢;refine TY (n:=S.length) (o:=.lst (ws.map D.str)) (S3:=S++[.lst (ws.map D.str)]) (lo:=some 1) (hi:=some 2) (λK hK=>by exact hK) (λK hK=>by exact hK) (λK hK=>by exact hK) (Zz _ _) ?_;rw[show ZC (Ob.lst (ws.map D.str))=ws.map D.str from rfl];refine zda (xs:=Yv (ws.map D.str) (some 1) (some 2)) (ys:=[.str "in"]) (ZF (Zz _ _)) (Zz _ _) (in_eq ws) ?_;have g1:Ng [] S (S++[Ob.lst (ws.map D.str)]++[Ob.lst (Yv (ws.map D.str) (some 1) (some 2))]++[Ob.lst [.str "in"]]):=((Ng.app _).same (Ng.app _)).same (Ng.app _)
   have hw:(S++[Ob.lst (ws.map D.str)]++[Ob.lst (Yv (ws.map D.str) (some 1) (some 2))]++[Ob.lst [.str "in"]])[S.length]?=some (.lst (ws.map D.str)):=ZF (ZF (Zz _ _))
   have ll:S.length<=(S++[Ob.lst (ws.map D.str)]++[Ob.lst (Yv (ws.map D.str) (some 1) (some 2))]++[Ob.lst [.str "in"]]).length:=g1.1;generalize S++[Ob.lst (ws.map D.str)]++[Ob.lst (Yv (ws.map D.str) (some 1) (some 2))]++[Ob.lst [.str "in"]]=S3 at g1 hw ll ⊢;have tk3:=tk.up g1
   have nw:S.length ∉ ow:=λz=>yB _ (tk.lt _ z)
   obtain⟨N,m,u,e,r,ht⟩:=tk3.tsk;have aR:=h.up g1;cases tc with
   | unk h0=>
    have e1:ws[1]?=some ("in":Str):=by
     obtain⟨w0,lo,hi,_,_,_,_,rfl,_⟩:=h0.ex;rfl
    rw[decide_eq_true e1];refine ZP (S1:=S3) (n:=n) (λK hK=>by exact hK) ht rfl ?_;exact⟨ow,k,o,ws,tk3,hw,nw,h0,aR⟩
   | par h0=>
    have e1:¬ ws[1]?=some ("in":Str)/\∃r,ws=("let":Str)::r:=by
     obtain⟨nm,es,_,rfl,n0,_⟩:=h0.ex;exact⟨λz=>(AM n0).1 (Option.some.inj z),_,rfl⟩
    rw[decide_eq_false e1.1];obtain⟨r0,er⟩:=e1.2;refine Z4 (o:=.lst (ws.map D.str)) hw (d:=.str "let") (by rw[er];exact WH (ws:=("let":Str)::r0) (p:=0) (by simp)) ?_;refine ZP (S1:=S3) (n:=n) (λK hK=>by exact hK) ht rfl ?_;exact⟨ow,k,o,ws,tk3,hw,nw,h0,aR⟩
   | row h0=>
    have e1:¬ ws[1]?=some ("in":Str)/\∃w0 r,ws=w0::r/\w0≠"let":=by
     obtain⟨L,R,sg,t,s1,rfl,hL,hs,et,_⟩:=h0.ex;obtain⟨_,xl,xk,xe⟩:=N7 et;have ne:=OP xe;cases L with
     | nil=>exact absurd rfl ne
     | cons w0 L=>
      refine⟨λz=>?_,w0,L++sg::R,rfl,(HS xe (zV ..)).2⟩;cases L with
      | nil=>
       have z':sg="in":=Option.some.inj z;rcases hs with rfl|rfl<;>revert z'<;>decide
      | cons w1 L=>exact(HS xe (zO _ (zV ..))).1 (Option.some.inj z)
    rw[decide_eq_false e1.1];obtain⟨w0,r0,er,nl⟩:=e1.2;refine Z4 (o:=.lst (ws.map D.str)) hw (d:=.str w0) (by rw[er];exact WH (ws:=w0::r0) (p:=0) (by simp)) ?_;refine ifD (λc=>absurd c nl) (λc=>?_);refine ZP (S1:=S3) (n:=n) (λK hK=>by exact hK) ht rfl ?_;exact⟨ow,k,o,ws,tk3,hw,nw,h0,aR⟩
  .exact h.elim⟩)
noncomputable def C4  (Zd:Xq K mg)(Zh:Xf K mg)(Hy:Df K mg q31 LL My)(ZD:Ec K mg q54)(Nw:Ec K mg "BoxError")(OA:Eb K mg "NoName")(Zw:Ec K mg q56)(Vn:Fm P w K mg base 134 Zd.C "tell" Rf (SU Zh.C Zd.C ZD.c))(Zv:mg q37=none)(nx_TooMuch:Nx K ZD.c)(iB_TooMuch_NoName:PySem.W.kitOne K (.ref ZD.c) (.ref OA.c)=some false)(iB_TooMuch_NoRow:PySem.W.kitOne K (.ref ZD.c) (.ref Zw.c)=some false)(iB_TooMuch_TooMuch:PySem.W.kitOne K (.ref ZD.c) (.ref ZD.c)=some true)(s_TooMuch_BoxError:PySem.W.exmOne K (.ref ZD.c) (.ref Nw.c)=some true):Fk P w K mg base 135 q31 My (Qx Zh.C Zd.C):=
 Hy.mk' (ZN (k:=134) Hy.F Qn (zc7 Zh.C Zd.C) λ_ _ _ _ _ _ hr=>⟨_,(Zg (Zn (i:=2) Qn.nd rfl (Or.inl rfl) (YC (Za Zj Zb))) (Zg (zeA (i:=3) (hit:=Lm ZD.c) rfl rfl rfl (λ_ _ z=>nomatch (show (Option.none:Option Addr)=some _ from z)) rfl Qn.nd rfl rfl Nw.xc.bound rfl (zcm s_TooMuch_BoxError) (λaA xe ex W hx'=>(Zi (Zn (i:=2) Qn.nd rfl (Or.inl rfl) (Xn (C:=Zd.C) (dv 0) Zd.cl Vn.m Vn.ok (hr.mono ⋯) Vn.b hx' (Za (dv 1) Zb))))) (λA' xe' hA=>have hr:=hA _ hr;(Zi (Zq (PDW.pt (Y2 (Wn (Z9 (KG (ans:=Te ZD.c true) (KP iB_TooMuch_TooMuch nx_TooMuch) rfl Zv rfl ZD.xc.bound (dv 3)))) (Y2 (Z9 (KG (ans:=Te ZD.c false) (KP iB_TooMuch_NoRow nx_TooMuch) rfl Zv rfl Zw.xc.bound (dv 3))) (Xk (Z9 (KG (ans:=Te ZD.c false) (KP iB_TooMuch_NoName nx_TooMuch) rfl Zv rfl OA.bound (dv 3))))))) (Zi (Zn (i:=2) Qn.nd rfl (Or.inl rfl) (YC (Za Zj Zb)))) Zu)))) (Zi (Zl (dv 2))))),λds S Q ex h=>by
  unfold Qx at h;split at h
  .rename_i n x;obtain⟨ow,k,o,an,tk,ln,h⟩:=h;have g1:Ng [] S (S++[.lst [.str "refused"]]):=Ng.app _
   have tk1:=tk.up g1;obtain⟨N,m,u,e,r,ht⟩:=tk1.tsk;refine ZP (n:=n) (λK hK=>by exact hK) ht rfl ?_;refine⟨⟨ln.le,ln.no⟩,ow,k,o,an,tk1,ln.tel,?_⟩;have h1:=h.up g1;cases o with
   | some k'=>exact h1
   | none=>
    intro T gT;refine⟨BA _,?_⟩;refine Jk (λK hK=>by exact hK) ?_;refine ZH ?_;refine Jk (λK hK=>by exact hK) ?_;refine ZH ?_;refine Jk (λK hK=>by exact hK) ?_;refine ZH ?_;exact h1 T gT S.length (gT.2 _ _ (by simp) (Zz _ _))
  .exact h.elim⟩)
noncomputable def zd1  (Zd:Xq K mg)(Zh:Xf K mg)(Gq:Df K mg q19 Kb Nf)(Vh:Fm P w K mg base 1 Zd.C "rows" Qa (Tt Zd.C))(W4:Fm P w K mg base 2 Zd.C q34 Pf (TQ Zh.C Zd.C))(W0:Fm P w K mg base 1 Zd.C "ends" Rw (To Zh.C Zd.C))(W6:Fm P w K mg base 1 Zd.C q93 Qw (Sy Zh.C Zd.C)):Fk P w K mg base 3 q19 Nf (R9 Zh.C Zd.C):=
 Gq.mk' (ZN (k:=2) Gq.F EC (zaz Zh.C Zd.C) λ_ _ _ _ _ _ hr=>⟨_,(Zg (Zn (i:=2) EC.nd rfl (Or.inl rfl) (Yb (YC (Za (YG (C:=Zd.C) (dv 0) Zd.cl W6.m W6.ok (hr.mono ⋯) W6.b Ye) (Za (YG (C:=Zd.C) (dv 0) Zd.cl W0.m W0.ok (hr.mono ⋯) W0.b Ye) (Za (YG (C:=Zd.C) (dv 0) Zd.cl W4.m W4.ok (hr.mono ⋯) W4.b Ye) (Za (YG (C:=Zd.C) (dv 0) Zd.cl Vh.m Vh.ok (hr.mono ⋯) Vh.b Ye) Zb))))) (dv 1) (λ_ _=>rfl))) (Zg (Y0 (X7 (dv 2) (ZQ (Za Zj (Za Ze Zb))))) (Zi (Dk (dv 2) Ze (ZQ (Za Zj (Za Ze (Za Ze Zb)))))))),λds S Q ex h=>by
  unfold R9 at h;split at h
  .rename_i n w;obtain⟨ow,k,tk,hw,G,h⟩:=h;obtain⟨N',a',b',c',m',u',e',r',_,tp⟩:=tk;have tk:Yi Zd.C Zh.C S n _ k:=⟨N',a',b',c',m',u',e',r',rfl,tp⟩
   have Gp:=G.pl
   have ll:∀X∈viS k,X.length<1000:=λX hX=>by have:=(Gp X hX).1;lia
   refine ZP (S1:=S) (n:=n) (λK hK=>by exact hK) tp.tsk rfl ?_;refine⟨_,k,tk,?_⟩;have g1:Ng [] S (S++[Ob.lst (k.un.map D.str)]):=Ng.app _;refine ZP (n:=n) (λK hK=>by exact hK) (ZF tp.tsk) rfl ?_;refine⟨_,k,tk.up g1,?_⟩;have g2:Ng [] S (S++[Ob.lst (k.un.map D.str)]++[Ob.lst k.en]):=g1.same (Ng.app _);refine ZP (n:=n) (λK hK=>by exact hK) (ZF (ZF tp.tsk)) rfl ?_;refine⟨_,k,tk.up g2,?_⟩;have g3:Ng [] S (S++[Ob.lst (k.un.map D.str)]++[Ob.lst k.en]++[Ob.lst (k.ns.map Nd.d)]):=g2.same (Ng.app _)
   have tp3:=tp.up g3;refine ZP (n:=n) (λK hK=>by exact hK) tp3.tsk rfl ?_;refine⟨_,_,_,_,_,k.rw,tp3.tsk,tp3.rows,?_⟩;have eS:S++[Ob.lst (k.un.map D.str)]++[Ob.lst k.en]++[Ob.lst (k.ns.map Nd.d)]++[Ob.lst (k.rw.map rwT)]=S++(viS k).map Ob.lst:=by simp[viS]
   have e1:(S++[Ob.lst (k.un.map D.str)]).length=S.length+1:=by simp
   have e2:(S++[Ob.lst (k.un.map D.str)]++[Ob.lst k.en]).length=S.length+2:=by simp
   have e3:(S++[Ob.lst (k.un.map D.str)]++[Ob.lst k.en]++[Ob.lst (k.ns.map Nd.d)]).length=S.length+3:=by simp
   rw[e1,e2,e3,eS];have g4:Ng [] S (S++(viS k).map Ob.lst++[Ob.lst [.ref S.length,.ref (S.length+1),.ref (S.length+2),.ref (S.length+3)]]):=(Ng.app _).same (Ng.app _);obtain⟨i,rfl⟩:∃i:Nat,w=(i:Int):=⟨w.toNat,()⟩;have i4:i<4:=by lia
   have aR:∀X:List D,(viS k)[i]?=some X->∀(nx:Ev->Sto->Prop),True:=λ_ _ _=>trivial
   obtain⟨X,hX⟩:∃X,(viS k)[i]?=some X:=⟨_,zD i4⟩;have lX:=ll X (zT hX)
   have at4:(S++(viS k).map Ob.lst++[Ob.lst [.ref S.length,.ref (S.length+1),.ref (S.length+2),.ref (S.length+3)]])[S.length+i]?=some (.lst X):=by
    refine ZF ?_;rw[yC (),xX,zR,hX];rfl
   refine Z4 (o:=.lst [.ref S.length,.ref (S.length+1),.ref (S.length+2),.ref (S.length+3)]) (Zz _ _) (d:=.ref (S.length+i)) (by
    match i,i4 with
    | 0,_=>rfl
    | 1,_=>rfl
    | 2,_=>rfl
    | 3,_=>rfl) ?_
   generalize S++(viS k).map Ob.lst++[Ob.lst [.ref S.length,.ref (S.length+1),.ref (S.length+2),.ref (S.length+3)]]=S5 at g4 at4 ⊢;refine Wy (n:=S.length+i) (S1:=S5) (xs:=X) (y:=.tup [.str "row",.int 7]) (λK hK=>by exact hK) at4 (λK hK=>by exact hK) () ?_;refine zcN (n:=S.length+i) (j:=0) (k:=0) (xs:=X++[.tup [.str "row",.int 7]]) (v:=.tup [.str "number",.int 5,.int 7]) (λK hK=>by exact hK) (λK hK=>by exact hK) (λK hK=>by exact hK) (Ym at4) (by rw[zF];exact zdE _) ?_;exact h _ (Pb (ow:=[S.length+i]) g4 ((Ng.set (by simp) _).same (Ng.set (by simp) _)) (λx hx=>by rw[zU.mp hx];lia))
  .exact h.elim⟩)
noncomputable def zaq  (Zd:Xq K mg)(Zh:Xf K mg)(Fp:Df K mg "read" MJ MC)(ZD:Ec K mg q54)(Vn:Fm P w K mg base 134 Zd.C "tell" Rf (SU Zh.C Zd.C ZD.c))(WE:Fm P w K mg base 3 Zd.C q3 Po (Sl Zh.C Zd.C)):Fk P w K mg base 135 "read" MC (QS Zh.C Zd.C):=
 Fp.mk' (ZN (k:=134) Fp.F Lx (DL Zh.C Zd.C) λ_ _ _ _ _ _ hr=>⟨_,(Zg (Zn (i:=1) Lx.nd rfl (Or.inl rfl) (NB ⟨Zd.makes,WE.m.at_,WE.m.fn,Zd.kp⟩ WE.ok (hr.mono ⋯) rfl Zd.m WE.b NY)) (Zg (Py (i:=2) PassesOwn.never rfl Lx.nd rfl (Or.inl rfl) (dv 0) (Zi (Y0 (Xn (C:=Zd.C) (dv 1) Zd.cl Vn.m Vn.ok (hr.mono ⋯) Vn.b Ye (Za (dv 2) Zb))))) (Zi (Zl (dv 1))))),λds S Q ex h=>by
  unfold QS at h;split at h
  .rename_i p;obtain⟨xs,k,hp,run,l9,h⟩:=h;refine⟨S,rfl,rfl,λU ow gU fr tk=>⟨rfl,?_⟩⟩;refine Ku (n:=p) (o:=.lst (xs.map D.str)) (λi dl' S'=>i<=xs.length/\(∃ox:Option D,dl'=[some (.ref p),some (.ref S.length),ox])/\Ng [] S S'/\∃(k1:Tk)(ow1:List Nat),Run k1 (xs.drop i) k/\(∀x∈ow1,S.length<=x)/\Yi Zd.C Zh.C S' S.length ow1 k1) ⟨zS _,⟨none,rfl⟩,gU,_,ow,run,fr,tk⟩ (λi dl2 S2 w=>w.2.2.1.2 _ _ (by simp) hp) ?_ ?_
   .rintro i x dl2 S2 nx2 ct2 hx ⟨i5,⟨ox,rfl⟩,g2,k1,ow1,run1,fr1,tk1⟩ hnx;have hx':(xs.map D.str)[i]?=some x:=hx;rw[zR] at hx';obtain⟨y,hy,rfl⟩:=yA.mp hx';obtain⟨li,ey⟩:=zE.mp hy;rw[xA li,ey] at run1;cases run1 with
    | cons ln run2=>
     obtain⟨N,m,u,e,r,ht⟩:=tk1.tsk;refine ZP (S1:=S2) (n:=S.length) (λK hK=>by exact hK) ht rfl ?_;refine⟨⟨ln.le,ln.no⟩,ow1,k1,some _,_,tk1,ln.tel,λT ow' gT f t=>?_⟩;exact hnx _ _ ⟨li,⟨_,rfl⟩,Pb g2 gT fr1,_,ow',run2,zew fr1 f g2.1,t⟩
   .rintro dl2 S2 ⟨i5,⟨ox,rfl⟩,g2,k1,ow1,run1,fr1,tk1⟩;have el:(ZC (.lst (xs.map D.str))).length=xs.length:=by show (xs.map D.str).length=_;rw[zC]
    rw[el,List.drop_length] at run1;cases run1;exact h S2 S.length ow1 g2 fr1 tk1
  .exact h.elim⟩)
noncomputable def zct  (Ha:Df K mg q8 LY Uq)(Zv:mg q37=none)(WJ:mg "bool"=none)(Z6:mg "int"=none)(VN:Kit K "bool")(VL:Kit K "int"):Fk P w K mg base 1 q8 Uq VF:=
 Ha.mk' (ZN (k:=0) Ha.F ET (zcQ) λ_ _ _ _ _ _ hr=>⟨_,(Zi (Zl (XH (SM VL rfl Zv rfl Z6 Boot.«int» (dv 0)) (XU (M9 (SM VN rfl Zv rfl WJ Boot.«bool» (dv 0))))))),λds S Q ex h=>by
  unfold VF at h;split at h
  .exact h
  .exact h.elim⟩)
noncomputable def zc8 (Y4:Df K mg q1 Wj Xl)(XJ:Fk P w K mg base 1 q8 Uq VF)(Zv:mg q37=none)(ZY:mg "str"=none)(Z6:mg "int"=none)(Yu:mg "tuple"=none)(ZJ:mg "list"=none)(YF:mg "all"=none)(YY:mg "range"=none)(ZA:mg "len"=none)(Vo:Fk P w K mg base 0 q1 Xl GH):Fk P w K mg base 2 q1 Xl Rt:=
 Y4.mk' (ZN (k:=1) Y4.F RP zbB λ_ _ _ _ _ _ hr=>⟨_,(Zg (Zq (PDW.pt (Y2 (Z9 (Z2 (ZZ _ _ (by simp)) rfl Zv rfl ZJ Boot.«list» (dv 1))) (Xk (Z9 (Z2 (ZZ _ _ (by simp)) rfl Zv rfl Yu Boot.«tuple» (dv 1)))))) (Zg (Zq (PDW.pt (Y2 (Zs (Y3 hr) (Z2 (ZZ _ _ (by simp)) rfl Zv rfl ZJ Boot.«list» (dv 1)) (Z2 (ZZ _ _ (by simp)) rfl Zv rfl ZJ Boot.«list» (dv 0)) (Zp _)) (Xk (Zs (Y3 hr) (Z2 (ZZ _ _ (by simp)) rfl Zv rfl Yu Boot.«tuple» (dv 1)) (Z2 (ZZ _ _ (by simp)) rfl Zv rfl Yu Boot.«tuple» (dv 0)) (Zp _))))) (Zi (Zl XZ)) Zu) (Zg (Zq (Zs (Y3 hr) (ZX (ZK Yz) rfl ZA Boot.«len» (Za (dv 0) Zb)) (ZX (ZK Yz) rfl ZA Boot.«len» (Za (dv 1) Zb)) (Zp _)) (Zi (Zl XZ)) Zu) (Zi (Zl (ZX (ZK (Uh rfl)) rfl YF Boot.«all» (Za (QM (x:="_law_k") (N:=["_law_found","_law_due"]) (caps:=[0,1]) (ar:=Zr Wj) rfl rfl csc rfl ⋯ rfl YY (Za (ZX (ZK Yz) rfl ZA Boot.«len» (Za (dv 1) Zb)) Zb) (λ_ _ _ _ _ _=>Tj) (λ_ _ _ _ _ _=>(ZW Vo (hr.mono ⋯) Ye rfl (Za (Yb (dv 1) (dv 0) (λ_ _=>rfl)) (Za (Yb (dv 2) (dv 0) (λ_ _=>rfl)) Zb))))) Zb)))))) Zu) (Zg (Zq (Z9 (Z2 (ZZ _ _ (by simp)) rfl Zv rfl Z6 Boot.«int» (dv 1))) (Zi (Zl (XH (ZT XJ hr (Za (dv 0) Zb)) (XU (XF (ZV hr) (dv 0) (dv 1) (Zp _)))))) Zu) (Zi (Zl (XH (Z2 (ZZ _ _ (by simp)) rfl Zv rfl ZY Boot.«str» (dv 0)) (XU (XF (ZV hr) (dv 0) (dv 1) (Zp _)))))))),λds S Q ex h=>by
  unfold Rt at h;split at h
  .rename_i x y;obtain⟨⟨t,hx,hy⟩,h⟩:=h;cases hx with
   | i k=>
    cases hy
    try dsimp only[Yx]
    refine XC (i:=k) (λK hK=>by exact hK) ?_;refine XC (i:=k) (λK hK=>by exact hK) ?_;refine ZH ?_;refine XC (i:=k) (λK hK=>by exact hK) ?_;refine Yy ?_;have h:=h S Pre.refl
    have e:decide (k=k)=true:=decide_eq_true rfl;rw[<- e] at h;exact h
   | s w=>
    cases hy
    try dsimp only[Yx]
    refine Xe (w:=w) (λK hK=>by exact hK) ?_;refine Xe (w:=w) (λK hK=>by exact hK) ?_;refine ZH ?_;refine Xe (w:=w) (λK hK=>by exact hK) ?_;refine ZH ?_;refine Xe (w:=w) (λK hK=>by exact hK) ?_;have h:=h S Pre.refl
    have e:decide (w=w)=true:=decide_eq_true rfl;rw[<- e] at h;exact h
  .exact h.elim⟩)
noncomputable def zaF (Y4:Df K mg q1 Wj Xl)(XJ:Fk P w K mg base 1 q8 Uq VF)(Zv:mg q37=none)(ZY:mg "str"=none)(Z6:mg "int"=none)(Yu:mg "tuple"=none)(ZJ:mg "list"=none)(YF:mg "all"=none)(YY:mg "range"=none)(ZA:mg "len"=none)(Vo:Fk P w K mg base 2 q1 Xl Rt):Fk P w K mg base 3 q1 Xl Ql:=
 Y4.mk' (ZN (k:=2) Y4.F RP BN λ_ _ _ _ _ _ hr=>⟨_,(Zg (Zq (PDW.pt (Y2 (Z9 (Z2 (ZZ _ _ (by simp)) rfl Zv rfl ZJ Boot.«list» (dv 1))) (Xk (Z9 (Z2 (ZZ _ _ (by simp)) rfl Zv rfl Yu Boot.«tuple» (dv 1)))))) (Zg (Zq (PDW.pt (Y2 (Zs (Y3 hr) (Z2 (ZZ _ _ (by simp)) rfl Zv rfl ZJ Boot.«list» (dv 1)) (Z2 (ZZ _ _ (by simp)) rfl Zv rfl ZJ Boot.«list» (dv 0)) (Zp _)) (Xk (Zs (Y3 hr) (Z2 (ZZ _ _ (by simp)) rfl Zv rfl Yu Boot.«tuple» (dv 1)) (Z2 (ZZ _ _ (by simp)) rfl Zv rfl Yu Boot.«tuple» (dv 0)) (Zp _))))) (Zi (Zl XZ)) Zu) (Zg (Zq (Zs (Y3 hr) (ZX (ZK Yz) rfl ZA Boot.«len» (Za (dv 0) Zb)) (ZX (ZK Yz) rfl ZA Boot.«len» (Za (dv 1) Zb)) (Zp _)) (Zi (Zl XZ)) Zu) (Zi (Zl (ZX (ZK (Uh rfl)) rfl YF Boot.«all» (Za (QM (x:="_law_k") (N:=["_law_found","_law_due"]) (caps:=[0,1]) (ar:=Zr Wj) rfl rfl csc rfl ⋯ rfl YY (Za (ZX (ZK Yz) rfl ZA Boot.«len» (Za (dv 1) Zb)) Zb) (λ_ _ _ _ _ _=>Tj) (λ_ _ _ _ _ _=>(ZW Vo (hr.mono ⋯) Ye rfl (Za (Yb (dv 1) (dv 0) (λ_ _=>rfl)) (Za (Yb (dv 2) (dv 0) (λ_ _=>rfl)) Zb))))) Zb)))))) Zu) (Zg (Zq (Z9 (Z2 (ZZ _ _ (by simp)) rfl Zv rfl Z6 Boot.«int» (dv 1))) (Zi (Zl (XH (ZT XJ hr (Za (dv 0) Zb)) (XU (XF (ZV hr) (dv 0) (dv 1) (Zp _)))))) Zu) (Zi (Zl (XH (Z2 (ZZ _ _ (by simp)) rfl Zv rfl ZY Boot.«str» (dv 0)) (XU (XF (ZV hr) (dv 0) (dv 1) (Zp _)))))))),λds S Q ex h=>by
  unfold Ql at h;split at h
  .rename_i x y;obtain⟨⟨t,hx,hy⟩,h⟩:=h;cases hx with
   | i k=>
    cases hy
    try dsimp only[Yx]
    refine XC (i:=k) (λK hK=>by exact hK) ?_;refine XC (i:=k) (λK hK=>by exact hK) ?_;refine ZH ?_;refine XC (i:=k) (λK hK=>by exact hK) ?_;refine Yy ?_;have h:=h S Pre.refl
    have e:decide (k=k)=true:=decide_eq_true rfl;rw[<- e] at h;exact h
   | s w=>
    cases hy
    try dsimp only[Yx]
    refine Xe (w:=w) (λK hK=>by exact hK) ?_;refine Xe (w:=w) (λK hK=>by exact hK) ?_;refine ZH ?_;refine Xe (w:=w) (λK hK=>by exact hK) ?_;refine ZH ?_;refine Xe (w:=w) (λK hK=>by exact hK) ?_;have h:=h S Pre.refl
    have e:decide (w=w)=true:=decide_eq_true rfl;rw[<- e] at h;exact h
   | @t _ xs ds z9 l f=>
    cases hy with
    | @t _ _ es _ l' f'=>
     try dsimp only[Yx]
     refine YU (xs:=es) (λK hK=>by exact hK) ?_;refine YU (xs:=es) (λK hK=>by exact hK) ?_;refine Yy ?_
     try dsimp only[Yx]
     refine YU (xs:=es) (λK hK=>by exact hK) ?_;refine YU (xs:=ds) (λK hK=>by exact hK) ?_;refine Xx ?_;refine ZH ?_;refine YU (xs:=es) (λK hK=>by exact hK) ?_;refine YU (xs:=ds) (λK hK=>by exact hK) ?_;refine Xx ?_;refine ZH ?_;refine WB ?_;refine WB ?_;refine V6 () ?_;refine ZH ?_;refine V7 (j:=(es.length:Nat)) (S1:=S) (λk ys S2=>Pre S S2/\S2[S.length]?=some (.lst ys)/\ys=(List.range k).map λ_=>D.bl true) (λK hK=>WB hK) ⟨(),()⟩ (λk ys S2 ⟨_,e,z⟩=>⟨e,by rw[z,zC,yT]⟩) ⟨YB Pre.refl _,Zz _ _,rfl⟩ (λk ys S2 K hk ⟨pr,ey,z⟩ hK=>?_) (λys S2 ⟨pr,ey,z⟩=>?_)
     .rw[yK] at hk;have e1:=zD (show k<ds.length by lia)
      have e2:=zD hk
      have e3:=zD (show k<xs.length by lia);refine VX e1 ?_;refine VX e2 ?_;refine⟨⟨xs[k],(f k _ _ e3 e1).pre pr,(f' k _ _ e3 e2).pre pr⟩,λT pT=>hK _ T (pT _ _ ey) ⟨Vq (λi o e=>pT _ _ (pr _ _ e)) (zA _),Ym (pT _ _ ey),?_⟩⟩;rw[z,yO,zN];rfl
     .refine WM (bs:=(List.range ((es.length:Nat):Int).toNat).map λ_=>true) ey (by rw[z];exact WS _) ?_;rw[WU];exact h _ pr
   | @l _ a xs ds ha _ z9 l f=>
    cases hy with
    | @l _ b _ es hb _ _ l' f'=>
     try dsimp only[Yx]
     refine Xb (n:=b) (λK hK=>by exact hK) hb ?_;refine Yy ?_
     try dsimp only[Yx]
     refine Xb (n:=b) (λK hK=>by exact hK) hb ?_;refine Xb (n:=a) (λK hK=>by exact hK) ha ?_;refine Xx ?_;refine ZH ?_;refine Xb (n:=b) (λK hK=>by exact hK) hb ?_;refine Xb (n:=a) (λK hK=>by exact hK) ha ?_;refine Xx ?_;refine ZH ?_;refine YL ha ?_;refine YL hb ?_;refine V6 () ?_;refine ZH ?_;refine V7 (j:=(es.length:Nat)) (S1:=S) (λk ys S2=>Pre S S2/\S2[S.length]?=some (.lst ys)/\ys=(List.range k).map λ_=>D.bl true) (λK hK=>YL hb hK) ⟨(),()⟩ (λk ys S2 ⟨_,e,z⟩=>⟨e,by rw[z,zC,yT]⟩) ⟨YB Pre.refl _,Zz _ _,rfl⟩ (λk ys S2 K hk ⟨pr,ey,z⟩ hK=>?_) (λys S2 ⟨pr,ey,z⟩=>?_)
     .rw[yK] at hk;have e1:=zD (show k<ds.length by lia)
      have e2:=zD hk
      have e3:=zD (show k<xs.length by lia);refine Z4 (o:=.lst ds) (pr _ _ ha) (Wr e1) ?_;refine Z4 (o:=.lst es) (pr _ _ hb) (Wr e2) ?_;refine⟨⟨xs[k],(f k _ _ e3 e1).pre pr,(f' k _ _ e3 e2).pre pr⟩,λT pT=>hK _ T (pT _ _ ey) ⟨Vq (λi o e=>pT _ _ (pr _ _ e)) (zA _),Ym (pT _ _ ey),?_⟩⟩;rw[z,yO,zN];rfl
     .refine WM (bs:=(List.range ((es.length:Nat):Int).toNat).map λ_=>true) ey (by rw[z];exact WS _) ?_;rw[WU];exact h _ pr
  .exact h.elim⟩)
noncomputable def zcV (Y4:Df K mg q1 Wj Xl)(XJ:Fk P w K mg base 1 q8 Uq VF)(Zv:mg q37=none)(ZY:mg "str"=none)(Z6:mg "int"=none)(Yu:mg "tuple"=none)(ZJ:mg "list"=none)(YF:mg "all"=none)(YY:mg "range"=none)(ZA:mg "len"=none)(Vo:Fk P w K mg base 3 q1 Xl Ql):Fk P w K mg base 4 q1 Xl Qp:=
 Y4.mk' (ZN (k:=3) Y4.F RP zcB λ_ _ _ _ _ _ hr=>⟨_,(Zg (Zq (PDW.pt (Y2 (Z9 (Z2 (ZZ _ _ (by simp)) rfl Zv rfl ZJ Boot.«list» (dv 1))) (Xk (Z9 (Z2 (ZZ _ _ (by simp)) rfl Zv rfl Yu Boot.«tuple» (dv 1)))))) (Zg (Zq (PDW.pt (Y2 (Zs (Y3 hr) (Z2 (ZZ _ _ (by simp)) rfl Zv rfl ZJ Boot.«list» (dv 1)) (Z2 (ZZ _ _ (by simp)) rfl Zv rfl ZJ Boot.«list» (dv 0)) (Zp _)) (Xk (Zs (Y3 hr) (Z2 (ZZ _ _ (by simp)) rfl Zv rfl Yu Boot.«tuple» (dv 1)) (Z2 (ZZ _ _ (by simp)) rfl Zv rfl Yu Boot.«tuple» (dv 0)) (Zp _))))) (Zi (Zl XZ)) Zu) (Zg (Zq (Zs (Y3 hr) (ZX (ZK Yz) rfl ZA Boot.«len» (Za (dv 0) Zb)) (ZX (ZK Yz) rfl ZA Boot.«len» (Za (dv 1) Zb)) (Zp _)) (Zi (Zl XZ)) Zu) (Zi (Zl (ZX (ZK (Uh rfl)) rfl YF Boot.«all» (Za (QM (x:="_law_k") (N:=["_law_found","_law_due"]) (caps:=[0,1]) (ar:=Zr Wj) rfl rfl csc rfl ⋯ rfl YY (Za (ZX (ZK Yz) rfl ZA Boot.«len» (Za (dv 1) Zb)) Zb) (λ_ _ _ _ _ _=>Tj) (λ_ _ _ _ _ _=>(ZW Vo (hr.mono ⋯) Ye rfl (Za (Yb (dv 1) (dv 0) (λ_ _=>rfl)) (Za (Yb (dv 2) (dv 0) (λ_ _=>rfl)) Zb))))) Zb)))))) Zu) (Zg (Zq (Z9 (Z2 (ZZ _ _ (by simp)) rfl Zv rfl Z6 Boot.«int» (dv 1))) (Zi (Zl (XH (ZT XJ hr (Za (dv 0) Zb)) (XU (XF (ZV hr) (dv 0) (dv 1) (Zp _)))))) Zu) (Zi (Zl (XH (Z2 (ZZ _ _ (by simp)) rfl Zv rfl ZY Boot.«str» (dv 0)) (XU (XF (ZV hr) (dv 0) (dv 1) (Zp _)))))))),λds S Q ex h=>by
  unfold Qp at h;split at h
  .rename_i x y;obtain⟨⟨t,hx,hy⟩,h⟩:=h;cases hx with
   | i k=>
    cases hy
    try dsimp only[Yx]
    refine XC (i:=k) (λK hK=>by exact hK) ?_;refine XC (i:=k) (λK hK=>by exact hK) ?_;refine ZH ?_;refine XC (i:=k) (λK hK=>by exact hK) ?_;refine Yy ?_;have h:=h S Pre.refl
    have e:decide (k=k)=true:=decide_eq_true rfl;rw[<- e] at h;exact h
   | s w=>
    cases hy
    try dsimp only[Yx]
    refine Xe (w:=w) (λK hK=>by exact hK) ?_;refine Xe (w:=w) (λK hK=>by exact hK) ?_;refine ZH ?_;refine Xe (w:=w) (λK hK=>by exact hK) ?_;refine ZH ?_;refine Xe (w:=w) (λK hK=>by exact hK) ?_;have h:=h S Pre.refl
    have e:decide (w=w)=true:=decide_eq_true rfl;rw[<- e] at h;exact h
   | @t _ xs ds z9 l f=>
    cases hy with
    | @t _ _ es _ l' f'=>
     try dsimp only[Yx]
     refine YU (xs:=es) (λK hK=>by exact hK) ?_;refine YU (xs:=es) (λK hK=>by exact hK) ?_;refine Yy ?_
     try dsimp only[Yx]
     refine YU (xs:=es) (λK hK=>by exact hK) ?_;refine YU (xs:=ds) (λK hK=>by exact hK) ?_;refine Xx ?_;refine ZH ?_;refine YU (xs:=es) (λK hK=>by exact hK) ?_;refine YU (xs:=ds) (λK hK=>by exact hK) ?_;refine Xx ?_;refine ZH ?_;refine WB ?_;refine WB ?_;refine V6 () ?_;refine ZH ?_;refine V7 (j:=(es.length:Nat)) (S1:=S) (λk ys S2=>Pre S S2/\S2[S.length]?=some (.lst ys)/\ys=(List.range k).map λ_=>D.bl true) (λK hK=>WB hK) ⟨(),()⟩ (λk ys S2 ⟨_,e,z⟩=>⟨e,by rw[z,zC,yT]⟩) ⟨YB Pre.refl _,Zz _ _,rfl⟩ (λk ys S2 K hk ⟨pr,ey,z⟩ hK=>?_) (λys S2 ⟨pr,ey,z⟩=>?_)
     .rw[yK] at hk;have e1:=zD (show k<ds.length by lia)
      have e2:=zD hk
      have e3:=zD (show k<xs.length by lia);refine VX e1 ?_;refine VX e2 ?_;refine⟨⟨xs[k],(f k _ _ e3 e1).pre pr,(f' k _ _ e3 e2).pre pr⟩,λT pT=>hK _ T (pT _ _ ey) ⟨Vq (λi o e=>pT _ _ (pr _ _ e)) (zA _),Ym (pT _ _ ey),?_⟩⟩;rw[z,yO,zN];rfl
     .refine WM (bs:=(List.range ((es.length:Nat):Int).toNat).map λ_=>true) ey (by rw[z];exact WS _) ?_;rw[WU];exact h _ pr
   | @l _ a xs ds ha _ z9 l f=>
    cases hy with
    | @l _ b _ es hb _ _ l' f'=>
     try dsimp only[Yx]
     refine Xb (n:=b) (λK hK=>by exact hK) hb ?_;refine Yy ?_
     try dsimp only[Yx]
     refine Xb (n:=b) (λK hK=>by exact hK) hb ?_;refine Xb (n:=a) (λK hK=>by exact hK) ha ?_;refine Xx ?_;refine ZH ?_;refine Xb (n:=b) (λK hK=>by exact hK) hb ?_;refine Xb (n:=a) (λK hK=>by exact hK) ha ?_;refine Xx ?_;refine ZH ?_;refine YL ha ?_;refine YL hb ?_;refine V6 () ?_;refine ZH ?_;refine V7 (j:=(es.length:Nat)) (S1:=S) (λk ys S2=>Pre S S2/\S2[S.length]?=some (.lst ys)/\ys=(List.range k).map λ_=>D.bl true) (λK hK=>YL hb hK) ⟨(),()⟩ (λk ys S2 ⟨_,e,z⟩=>⟨e,by rw[z,zC,yT]⟩) ⟨YB Pre.refl _,Zz _ _,rfl⟩ (λk ys S2 K hk ⟨pr,ey,z⟩ hK=>?_) (λys S2 ⟨pr,ey,z⟩=>?_)
     .rw[yK] at hk;have e1:=zD (show k<ds.length by lia)
      have e2:=zD hk
      have e3:=zD (show k<xs.length by lia);refine Z4 (o:=.lst ds) (pr _ _ ha) (Wr e1) ?_;refine Z4 (o:=.lst es) (pr _ _ hb) (Wr e2) ?_;refine⟨⟨xs[k],(f k _ _ e3 e1).pre pr,(f' k _ _ e3 e2).pre pr⟩,λT pT=>hK _ T (pT _ _ ey) ⟨Vq (λi o e=>pT _ _ (pr _ _ e)) (zA _),Ym (pT _ _ ey),?_⟩⟩;rw[z,yO,zN];rfl
     .refine WM (bs:=(List.range ((es.length:Nat):Int).toNat).map λ_=>true) ey (by rw[z];exact WS _) ?_;rw[WU];exact h _ pr
  .exact h.elim⟩)
noncomputable def zdd (Y4:Df K mg q1 Wj Xl)(XJ:Fk P w K mg base 1 q8 Uq VF)(Zv:mg q37=none)(ZY:mg "str"=none)(Z6:mg "int"=none)(Yu:mg "tuple"=none)(ZJ:mg "list"=none)(YF:mg "all"=none)(YY:mg "range"=none)(ZA:mg "len"=none)(Vo:Fk P w K mg base 4 q1 Xl Qp):Fk P w K mg base 5 q1 Xl Rh:=
 Y4.mk' (ZN (k:=4) Y4.F RP D2 λ_ _ _ _ _ _ hr=>⟨_,(Zg (Zq (PDW.pt (Y2 (Z9 (Z2 (ZZ _ _ (by simp)) rfl Zv rfl ZJ Boot.«list» (dv 1))) (Xk (Z9 (Z2 (ZZ _ _ (by simp)) rfl Zv rfl Yu Boot.«tuple» (dv 1)))))) (Zg (Zq (PDW.pt (Y2 (Zs (Y3 hr) (Z2 (ZZ _ _ (by simp)) rfl Zv rfl ZJ Boot.«list» (dv 1)) (Z2 (ZZ _ _ (by simp)) rfl Zv rfl ZJ Boot.«list» (dv 0)) (Zp _)) (Xk (Zs (Y3 hr) (Z2 (ZZ _ _ (by simp)) rfl Zv rfl Yu Boot.«tuple» (dv 1)) (Z2 (ZZ _ _ (by simp)) rfl Zv rfl Yu Boot.«tuple» (dv 0)) (Zp _))))) (Zi (Zl XZ)) Zu) (Zg (Zq (Zs (Y3 hr) (ZX (ZK Yz) rfl ZA Boot.«len» (Za (dv 0) Zb)) (ZX (ZK Yz) rfl ZA Boot.«len» (Za (dv 1) Zb)) (Zp _)) (Zi (Zl XZ)) Zu) (Zi (Zl (ZX (ZK (Uh rfl)) rfl YF Boot.«all» (Za (QM (x:="_law_k") (N:=["_law_found","_law_due"]) (caps:=[0,1]) (ar:=Zr Wj) rfl rfl csc rfl ⋯ rfl YY (Za (ZX (ZK Yz) rfl ZA Boot.«len» (Za (dv 1) Zb)) Zb) (λ_ _ _ _ _ _=>Tj) (λ_ _ _ _ _ _=>(ZW Vo (hr.mono ⋯) Ye rfl (Za (Yb (dv 1) (dv 0) (λ_ _=>rfl)) (Za (Yb (dv 2) (dv 0) (λ_ _=>rfl)) Zb))))) Zb)))))) Zu) (Zg (Zq (Z9 (Z2 (ZZ _ _ (by simp)) rfl Zv rfl Z6 Boot.«int» (dv 1))) (Zi (Zl (XH (ZT XJ hr (Za (dv 0) Zb)) (XU (XF (ZV hr) (dv 0) (dv 1) (Zp _)))))) Zu) (Zi (Zl (XH (Z2 (ZZ _ _ (by simp)) rfl Zv rfl ZY Boot.«str» (dv 0)) (XU (XF (ZV hr) (dv 0) (dv 1) (Zp _)))))))),λds S Q ex h=>by
  unfold Rh at h;split at h
  .rename_i x y;obtain⟨⟨t,hx,hy⟩,h⟩:=h;cases hx with
   | i k=>
    cases hy
    try dsimp only[Yx]
    refine XC (i:=k) (λK hK=>by exact hK) ?_;refine XC (i:=k) (λK hK=>by exact hK) ?_;refine ZH ?_;refine XC (i:=k) (λK hK=>by exact hK) ?_;refine Yy ?_;have h:=h S Pre.refl
    have e:decide (k=k)=true:=decide_eq_true rfl;rw[<- e] at h;exact h
   | s w=>
    cases hy
    try dsimp only[Yx]
    refine Xe (w:=w) (λK hK=>by exact hK) ?_;refine Xe (w:=w) (λK hK=>by exact hK) ?_;refine ZH ?_;refine Xe (w:=w) (λK hK=>by exact hK) ?_;refine ZH ?_;refine Xe (w:=w) (λK hK=>by exact hK) ?_;have h:=h S Pre.refl
    have e:decide (w=w)=true:=decide_eq_true rfl;rw[<- e] at h;exact h
   | @t _ xs ds z9 l f=>
    cases hy with
    | @t _ _ es _ l' f'=>
     try dsimp only[Yx]
     refine YU (xs:=es) (λK hK=>by exact hK) ?_;refine YU (xs:=es) (λK hK=>by exact hK) ?_;refine Yy ?_
     try dsimp only[Yx]
     refine YU (xs:=es) (λK hK=>by exact hK) ?_;refine YU (xs:=ds) (λK hK=>by exact hK) ?_;refine Xx ?_;refine ZH ?_;refine YU (xs:=es) (λK hK=>by exact hK) ?_;refine YU (xs:=ds) (λK hK=>by exact hK) ?_;refine Xx ?_;refine ZH ?_;refine WB ?_;refine WB ?_;refine V6 () ?_;refine ZH ?_;refine V7 (j:=(es.length:Nat)) (S1:=S) (λk ys S2=>Pre S S2/\S2[S.length]?=some (.lst ys)/\ys=(List.range k).map λ_=>D.bl true) (λK hK=>WB hK) ⟨(),()⟩ (λk ys S2 ⟨_,e,z⟩=>⟨e,by rw[z,zC,yT]⟩) ⟨YB Pre.refl _,Zz _ _,rfl⟩ (λk ys S2 K hk ⟨pr,ey,z⟩ hK=>?_) (λys S2 ⟨pr,ey,z⟩=>?_)
     .rw[yK] at hk;have e1:=zD (show k<ds.length by lia)
      have e2:=zD hk
      have e3:=zD (show k<xs.length by lia);refine VX e1 ?_;refine VX e2 ?_;refine⟨⟨xs[k],(f k _ _ e3 e1).pre pr,(f' k _ _ e3 e2).pre pr⟩,λT pT=>hK _ T (pT _ _ ey) ⟨Vq (λi o e=>pT _ _ (pr _ _ e)) (zA _),Ym (pT _ _ ey),?_⟩⟩;rw[z,yO,zN];rfl
     .refine WM (bs:=(List.range ((es.length:Nat):Int).toNat).map λ_=>true) ey (by rw[z];exact WS _) ?_;rw[WU];exact h _ pr
   | @l _ a xs ds ha _ z9 l f=>
    cases hy with
    | @l _ b _ es hb _ _ l' f'=>
     try dsimp only[Yx]
     refine Xb (n:=b) (λK hK=>by exact hK) hb ?_;refine Yy ?_
     try dsimp only[Yx]
     refine Xb (n:=b) (λK hK=>by exact hK) hb ?_;refine Xb (n:=a) (λK hK=>by exact hK) ha ?_;refine Xx ?_;refine ZH ?_;refine Xb (n:=b) (λK hK=>by exact hK) hb ?_;refine Xb (n:=a) (λK hK=>by exact hK) ha ?_;refine Xx ?_;refine ZH ?_;refine YL ha ?_;refine YL hb ?_;refine V6 () ?_;refine ZH ?_;refine V7 (j:=(es.length:Nat)) (S1:=S) (λk ys S2=>Pre S S2/\S2[S.length]?=some (.lst ys)/\ys=(List.range k).map λ_=>D.bl true) (λK hK=>YL hb hK) ⟨(),()⟩ (λk ys S2 ⟨_,e,z⟩=>⟨e,by rw[z,zC,yT]⟩) ⟨YB Pre.refl _,Zz _ _,rfl⟩ (λk ys S2 K hk ⟨pr,ey,z⟩ hK=>?_) (λys S2 ⟨pr,ey,z⟩=>?_)
     .rw[yK] at hk;have e1:=zD (show k<ds.length by lia)
      have e2:=zD hk
      have e3:=zD (show k<xs.length by lia);refine Z4 (o:=.lst ds) (pr _ _ ha) (Wr e1) ?_;refine Z4 (o:=.lst es) (pr _ _ hb) (Wr e2) ?_;refine⟨⟨xs[k],(f k _ _ e3 e1).pre pr,(f' k _ _ e3 e2).pre pr⟩,λT pT=>hK _ T (pT _ _ ey) ⟨Vq (λi o e=>pT _ _ (pr _ _ e)) (zA _),Ym (pT _ _ ey),?_⟩⟩;rw[z,yO,zN];rfl
     .refine WM (bs:=(List.range ((es.length:Nat):Int).toNat).map λ_=>true) ey (by rw[z];exact WS _) ?_;rw[WU];exact h _ pr
  .exact h.elim⟩)
noncomputable def zeH (Y4:Df K mg q1 Wj Xl)(XJ:Fk P w K mg base 1 q8 Uq VF)(Zv:mg q37=none)(ZY:mg "str"=none)(Z6:mg "int"=none)(Yu:mg "tuple"=none)(ZJ:mg "list"=none)(YF:mg "all"=none)(YY:mg "range"=none)(ZA:mg "len"=none)(Vo:Fk P w K mg base 5 q1 Xl Rh):Fk P w K mg base 6 q1 Xl Q6:=
 Y4.mk' (ZN (k:=5) Y4.F RP zbO λ_ _ _ _ _ _ hr=>⟨_,(Zg (Zq (PDW.pt (Y2 (Z9 (Z2 (ZZ _ _ (by simp)) rfl Zv rfl ZJ Boot.«list» (dv 1))) (Xk (Z9 (Z2 (ZZ _ _ (by simp)) rfl Zv rfl Yu Boot.«tuple» (dv 1)))))) (Zg (Zq (PDW.pt (Y2 (Zs (Y3 hr) (Z2 (ZZ _ _ (by simp)) rfl Zv rfl ZJ Boot.«list» (dv 1)) (Z2 (ZZ _ _ (by simp)) rfl Zv rfl ZJ Boot.«list» (dv 0)) (Zp _)) (Xk (Zs (Y3 hr) (Z2 (ZZ _ _ (by simp)) rfl Zv rfl Yu Boot.«tuple» (dv 1)) (Z2 (ZZ _ _ (by simp)) rfl Zv rfl Yu Boot.«tuple» (dv 0)) (Zp _))))) (Zi (Zl XZ)) Zu) (Zg (Zq (Zs (Y3 hr) (ZX (ZK Yz) rfl ZA Boot.«len» (Za (dv 0) Zb)) (ZX (ZK Yz) rfl ZA Boot.«len» (Za (dv 1) Zb)) (Zp _)) (Zi (Zl XZ)) Zu) (Zi (Zl (ZX (ZK (Uh rfl)) rfl YF Boot.«all» (Za (QM (x:="_law_k") (N:=["_law_found","_law_due"]) (caps:=[0,1]) (ar:=Zr Wj) rfl rfl csc rfl ⋯ rfl YY (Za (ZX (ZK Yz) rfl ZA Boot.«len» (Za (dv 1) Zb)) Zb) (λ_ _ _ _ _ _=>Tj) (λ_ _ _ _ _ _=>(ZW Vo (hr.mono ⋯) Ye rfl (Za (Yb (dv 1) (dv 0) (λ_ _=>rfl)) (Za (Yb (dv 2) (dv 0) (λ_ _=>rfl)) Zb))))) Zb)))))) Zu) (Zg (Zq (Z9 (Z2 (ZZ _ _ (by simp)) rfl Zv rfl Z6 Boot.«int» (dv 1))) (Zi (Zl (XH (ZT XJ hr (Za (dv 0) Zb)) (XU (XF (ZV hr) (dv 0) (dv 1) (Zp _)))))) Zu) (Zi (Zl (XH (Z2 (ZZ _ _ (by simp)) rfl Zv rfl ZY Boot.«str» (dv 0)) (XU (XF (ZV hr) (dv 0) (dv 1) (Zp _)))))))),λds S Q ex h=>by
  unfold Q6 at h;split at h
  .rename_i x y;obtain⟨⟨t,hx,hy⟩,h⟩:=h;cases hx with
   | i k=>
    cases hy
    try dsimp only[Yx]
    refine XC (i:=k) (λK hK=>by exact hK) ?_;refine XC (i:=k) (λK hK=>by exact hK) ?_;refine ZH ?_;refine XC (i:=k) (λK hK=>by exact hK) ?_;refine Yy ?_;have h:=h S Pre.refl
    have e:decide (k=k)=true:=decide_eq_true rfl;rw[<- e] at h;exact h
   | s w=>
    cases hy
    try dsimp only[Yx]
    refine Xe (w:=w) (λK hK=>by exact hK) ?_;refine Xe (w:=w) (λK hK=>by exact hK) ?_;refine ZH ?_;refine Xe (w:=w) (λK hK=>by exact hK) ?_;refine ZH ?_;refine Xe (w:=w) (λK hK=>by exact hK) ?_;have h:=h S Pre.refl
    have e:decide (w=w)=true:=decide_eq_true rfl;rw[<- e] at h;exact h
   | @t _ xs ds z9 l f=>
    cases hy with
    | @t _ _ es _ l' f'=>
     try dsimp only[Yx]
     refine YU (xs:=es) (λK hK=>by exact hK) ?_;refine YU (xs:=es) (λK hK=>by exact hK) ?_;refine Yy ?_
     try dsimp only[Yx]
     refine YU (xs:=es) (λK hK=>by exact hK) ?_;refine YU (xs:=ds) (λK hK=>by exact hK) ?_;refine Xx ?_;refine ZH ?_;refine YU (xs:=es) (λK hK=>by exact hK) ?_;refine YU (xs:=ds) (λK hK=>by exact hK) ?_;refine Xx ?_;refine ZH ?_;refine WB ?_;refine WB ?_;refine V6 () ?_;refine ZH ?_;refine V7 (j:=(es.length:Nat)) (S1:=S) (λk ys S2=>Pre S S2/\S2[S.length]?=some (.lst ys)/\ys=(List.range k).map λ_=>D.bl true) (λK hK=>WB hK) ⟨(),()⟩ (λk ys S2 ⟨_,e,z⟩=>⟨e,by rw[z,zC,yT]⟩) ⟨YB Pre.refl _,Zz _ _,rfl⟩ (λk ys S2 K hk ⟨pr,ey,z⟩ hK=>?_) (λys S2 ⟨pr,ey,z⟩=>?_)
     .rw[yK] at hk;have e1:=zD (show k<ds.length by lia)
      have e2:=zD hk
      have e3:=zD (show k<xs.length by lia);refine VX e1 ?_;refine VX e2 ?_;refine⟨⟨xs[k],(f k _ _ e3 e1).pre pr,(f' k _ _ e3 e2).pre pr⟩,λT pT=>hK _ T (pT _ _ ey) ⟨Vq (λi o e=>pT _ _ (pr _ _ e)) (zA _),Ym (pT _ _ ey),?_⟩⟩;rw[z,yO,zN];rfl
     .refine WM (bs:=(List.range ((es.length:Nat):Int).toNat).map λ_=>true) ey (by rw[z];exact WS _) ?_;rw[WU];exact h _ pr
   | @l _ a xs ds ha _ z9 l f=>
    cases hy with
    | @l _ b _ es hb _ _ l' f'=>
     try dsimp only[Yx]
     refine Xb (n:=b) (λK hK=>by exact hK) hb ?_;refine Yy ?_
     try dsimp only[Yx]
     refine Xb (n:=b) (λK hK=>by exact hK) hb ?_;refine Xb (n:=a) (λK hK=>by exact hK) ha ?_;refine Xx ?_;refine ZH ?_;refine Xb (n:=b) (λK hK=>by exact hK) hb ?_;refine Xb (n:=a) (λK hK=>by exact hK) ha ?_;refine Xx ?_;refine ZH ?_;refine YL ha ?_;refine YL hb ?_;refine V6 () ?_;refine ZH ?_;refine V7 (j:=(es.length:Nat)) (S1:=S) (λk ys S2=>Pre S S2/\S2[S.length]?=some (.lst ys)/\ys=(List.range k).map λ_=>D.bl true) (λK hK=>YL hb hK) ⟨(),()⟩ (λk ys S2 ⟨_,e,z⟩=>⟨e,by rw[z,zC,yT]⟩) ⟨YB Pre.refl _,Zz _ _,rfl⟩ (λk ys S2 K hk ⟨pr,ey,z⟩ hK=>?_) (λys S2 ⟨pr,ey,z⟩=>?_)
     .rw[yK] at hk;have e1:=zD (show k<ds.length by lia)
      have e2:=zD hk
      have e3:=zD (show k<xs.length by lia);refine Z4 (o:=.lst ds) (pr _ _ ha) (Wr e1) ?_;refine Z4 (o:=.lst es) (pr _ _ hb) (Wr e2) ?_;refine⟨⟨xs[k],(f k _ _ e3 e1).pre pr,(f' k _ _ e3 e2).pre pr⟩,λT pT=>hK _ T (pT _ _ ey) ⟨Vq (λi o e=>pT _ _ (pr _ _ e)) (zA _),Ym (pT _ _ ey),?_⟩⟩;rw[z,yO,zN];rfl
     .refine WM (bs:=(List.range ((es.length:Nat):Int).toNat).map λ_=>true) ey (by rw[z];exact WS _) ?_;rw[WU];exact h _ pr
  .exact h.elim⟩)
noncomputable def zcE  (Zd:Xq K mg)(Zh:Xf K mg)(GI:Df K mg "law" Uj JG)(Ri:Fk P w K mg base 3 q18 MB (Qd Zh.C Zd.C))(Jt:Fk P w K mg base 6 q1 Xl Q6)(Jx:Fk P w K mg base 135 "read" MC (QS Zh.C Zd.C))(Lo:Fk P w K mg base 3 q19 Nf (R9 Zh.C Zd.C))(K5:Fk P w K mg base 135 q31 My (Qx Zh.C Zd.C))(Jn:Fk P w K mg base 15 q30 Mp Rv)(L9:Fk P w K mg base 1 q27 N9 Rx)(Jf:Fk P w K mg base 1 q28 MI Pr)(Lg:Fk P w K mg base 1 q11 OE RN)(Jo:Fk P w K mg base 1 q17 PH Pw)(WE:Fm P w K mg base 3 Zd.C q3 Po (Sl Zh.C Zd.C))(YF:mg "all"=none)(ZJ:mg "list"=none)(WR:mg "enumerate"=none)(Zv:mg q37=none)(ZY:mg "str"=none)(Vw:Kit K "str"):Fk P w K mg base 136 "law" JG SY:=
 GI.mk' (ZN (k:=135) GI.F XE DM λ_ _ _ _ _ _ hr=>⟨_,(Zg (Zn (i:=1) XE.nd rfl (Or.inl rfl) (NB ⟨Zd.makes,WE.m.at_,WE.m.fn,Zd.kp⟩ WE.ok (hr.mono ⋯) rfl Zd.m WE.b NY)) (Zg (Zn (i:=2) XE.nd rfl (Or.inl rfl) (zdG Jo (hr.mono ⋯) Ye rfl)) (Zg (Zn (i:=3) XE.nd rfl (Or.inl rfl) (Zo YV (ZT Lg hr (Za (dv 0) (Za Ze Zb))) Ze)) (Zg (Zn (i:=4) XE.nd rfl (Or.inl rfl) (ZT Ri hr (Za (dv 1) (Za (dv 2) Zb)))) (Zg (Zn (i:=5) XE.nd rfl (Or.inl rfl) (YC Zb)) (Zg (II (is:=[6,7]) PassesOwn.never rfl XE.nd (Nms.cons (i:=6) rfl (Or.inl rfl) (by first|exact .inl rfl|exact .inr rfl) (Nms.cons (i:=7) rfl (Or.inl rfl) (by first|exact .inl rfl|exact .inr rfl) Nms.nil)) rfl rfl WR Boot.«enumerate» (Za (SV (dv 0) (WD Ze) (WD Ze)) Zb) (Zg (Zn (i:=8) XE.nd rfl (Or.inl rfl) (ZT Jf hr (Za (dv 2) Zb))) (Zg (Zn (i:=9) XE.nd rfl (Or.inl rfl) (ZT Jn hr (Za (dv 7) (Za (dv 8) (Za (ZT L9 hr (Za (dv 6) (Za (dv 3) Zb))) Zb))))) (Zg (Zn (i:=10) XE.nd rfl (Or.inl rfl) (ZT K5 hr (Za (dv 1) (Za (Zy (dv 9) Ze (λ_ _=>rfl)) Zb)))) (Zg (Zq (Zs Wg (Zy (dv 9) Ze (λ_ _=>rfl)) Ze (Zp _)) (Zi (Zq (Zs (Ka hr) (dv 10) (YC (Za Zj Zb)) (Zp _)) (Zi (Zl XZ)) Zu)) (Zg (Zq (PDW.pt (Y2 (Wn (Z9 (SM Vw rfl Zv rfl ZY Boot.«str» (dv 10)))) (Xk (Zs (Ka hr) (dv 10) (Zy (dv 9) Ze (λ_ _=>rfl)) (Zp _))))) (Zi (Zl XZ)) Zu) (Zg (Zn (i:=2) XE.nd rfl (Or.inl rfl) (dv 8)) (Zi (Y0 (X7 (dv 5) (Zy (dv 9) Ze (λ_ _=>rfl)))))))) (Zg (Y0 (ZT Lo hr (Za (dv 1) (Za (Zo YV (dv 7) Ze) Zb)))) (Zg (Zn (i:=11) XE.nd rfl (Or.inl rfl) (ZT Ri hr (Za (dv 1) (Za (dv 2) Zb)))) (Zg (Zq (Wn (Z9 (ZX (ZK (Uh rfl)) rfl YF Boot.«all» (Za (LH (x1:="_law_found") (x2:="_law_due") (N:=[]) (caps:=[]) (ar:=Zr Uj) rfl rfl cscG rfl rfl rfl ⋯ (dv 11) (λ_ _ _ _ _ _=>(XF (Bh hr) (dv 0) (dv 1) (Zp _)))) Zb)))) (Zi (Zl XZ)) Zu) (Zi (Zn (i:=4) XE.nd rfl (Or.inl rfl) (Zo WY (dv 4) (dv 11)))))))))))) (Zg (zaR (is:=[12,13]) PassesOwn.never rfl XE.nd (Nms.cons (i:=12) rfl (Or.inl rfl) (by first|exact .inl rfl|exact .inr rfl) (Nms.cons (i:=13) rfl (Or.inl rfl) (by first|exact .inl rfl|exact .inr rfl) Nms.nil)) (dv 4) (Zi (Zq (Zs (za8 hr) (dv 12) (dv 13) (Zp _)) (Zi (Zl XZ)) Zu))) (Zg (Zn (i:=14) XE.nd rfl (Or.inl rfl) (ZT Jx hr (Za (Xu (ZK UC) rfl ZJ Boot.«list» (Za (dv 5) Zb)) Zb))) (Zi (Zl (ZX (ZK (Uh rfl)) rfl YF Boot.«all» (Za (LH (x1:="_law_found") (x2:="_law_due") (N:=[]) (caps:=[]) (ar:=Zr Uj) rfl rfl cscG rfl rfl rfl ⋯ (ZT Ri hr (Za (dv 14) (Za (dv 2) Zb))) (λ_ _ _ _ _ _=>(ZT Jt hr (Za (dv 0) (Za (dv 1) Zb))))) Zb)))))))))))),λds S Q ex h=>by
  obtain⟨ns,rfl,rfl,hl,h⟩:=h;refine VI (λdl' S'=>∃ow:List Nat,dl'=[some (.ref 0),some (.ref 1),none,none,none,none,none,none,none,none,none,none,none,none,none]/\S'[0]?=some (.frz (ns.map D.int))/\0 ∉ ow/\Yi Zd.C Zh.C S' 1 ow ⟨[],[],[],[],[],[]⟩) (λnx hn=>?_) ?_
  .refine⟨[.frz (ns.map D.int)],rfl,rfl,λU ow g fr tk=>⟨rfl,?_⟩⟩;exact hn _ _ ⟨ow,rfl,g.2 0 _ (by simp) rfl,λz=>absurd (fr 0 z) (by show ¬ 1<=0;decide),tk⟩
  rintro dl' S' ⟨ow,rfl,z0,n0,tk⟩;refine VI (λdl' T=>∃sm a b c d e f:Nat,dl'=[some (.ref 0),some (.ref 1),some (.ref sm),none,none,none,none,none,none,none,none,none,none,none,none]/\T[0]?=some (.frz (ns.map D.int))/\Yi Zd.C Zh.C T 1 ow ⟨[],[],[],[],[],[]⟩/\StP T sm a b c d e f ⟨[],[],[],[],[],[]⟩/\(∀x∈owS sm a b c d e f,x ∉ ow)) (λnx hn=>?_) ?_
  .intro T g a b c d e f gT fr P;exact hn _ _ ⟨g,a,b,c,d,e,f,rfl,gT.2 _ _ (by simp) z0,tk.up gT,P,λx hx z=>by have:=fr x hx;have:=tk.lt x z;lia⟩
  clear tk z0;rintro dl' S' ⟨sm,a,b,c,d,e,f,rfl,z0,tk,P,so⟩;refine VI (λdl' T=>T=S'/\∃sh:Nat,sh<49/\dl'=[some (.ref 0),some (.ref 1),some (.ref sm),some (.int (sh:Int)),none,none,none,none,none,none,none,none,none,none,none]) (λnx hn=>?_) ?_
  .refine⟨ns,z0,⋯,?_⟩;exact hn _ _ ⟨rfl,(ns.getD 0 0%49).toNat,(),by rw[show (((ns.getD 0 0%49).toNat:Nat):Int)=ns.getD 0 0%49 by lia];rfl⟩
  rintro dl' T ⟨rfl,sh,s49,rfl⟩;refine Tz (λdl' U=>∃(hm gm:Nat)(hd:List D),dl'=[some (.ref 0),some (.ref 1),some (.ref sm),some (.int (sh:Int)),some (.ref hm),some (.ref gm),none,none,none,none,none,none,none,none,none]/\KI Zd.C Zh.C U ow ⟨[],[],[],[],[],[]⟩ sm a b c d e f gm [] 0 sh/\U[0]?=some (.frz (ns.map D.int))/\Frz ow gm 0/\U[hm]?=some (.lst hd)/\Frz ow gm hm/\hd.length=4/\∀x∈hd,LkO U ow gm x) (λnx hn=>?_) ?_
  .refine⟨ow,⟨[],[],[],[],[],[]⟩,a,b,c,d,e,f,tk,P,F7,λU m ds gU lm hm' l4 al=>?_⟩;have g2:Ng [] T (U++[.lst []]):=gU.same (Ng.app _)
   have lU:=gU.1
   have lt:=P.lt;refine hn _ _ ⟨m,U.length,ds,rfl,⟨tk.up g2,P.up g2,F7,Zz _ _,.nil,zS _,zS _,(λw hw=>nomatch hw),λx hx=>⟨so x hx,by have:=lt x hx;lia⟩,λz=>by have:=tk.lt _ z;lia⟩,g2.2 _ _ (by simp) z0,⟨n0,by have:=ZL z0;lia⟩,ZF hm',⟨λz=>by have:=tk.lt _ z;lia,by have:=ZL hm';lia⟩,l4,λx hx=>?_⟩;obtain⟨X,lk⟩:=al x hx;obtain⟨f0,g0,e0,o1,o2,h1,h2⟩:=lk.ex;exact⟨f0,g0,X,e0,⟨λz=>by have:=tk.lt _ z;lia,by have:=ZL h1;lia⟩,⟨λz=>by have:=tk.lt _ z;lia,by have:=ZL h2;lia⟩,ZF h1,ZF h2,lk.pl⟩
  clear tk z0 P so n0;rintro dl' T ⟨hm,gm,hd,rfl,K0,z0,f0,h0,fh,l4,lk⟩;refine VI (λdl' S'=>∃(ow:List Nat)(k:Tk)(sm a b c d e f hm:Nat)(gl:List Str)(hd:List D)(i:Nat)(o6 o7 o8 o9 o10 o11 o12 o13:Option D),dl'=[some (.ref 0),some (.ref 1),some (.ref sm),some (.int (sh:Int)),some (.ref hm),some (.ref gm),o6,o7,o8,o9,o10,o11,o12,o13,none]/\i<=24/\KI Zd.C Zh.C S' ow k sm a b c d e f gm gl i sh/\S'[hm]?=some (.lst hd)/\Frz ow gm hm/\hd.length<=4+4*i/\∀x∈hd,LkO S' ow gm x) (λnx hn=>?_) ?_
  .have cl:(Yv (ns.map D.int) (some 1) (some 25)).length<=24:=Cy (ns.map D.int) 1 25
   have g1:Ng [] T (T++[.lst (Yv (ns.map D.int) (some 1) (some 25))]):=Ng.app _
   have lT:=ZL K0.ga;refine J5 (n:=T.length) (xs:=Yv (ns.map D.int) (some 1) (some 25)) (S1:=T++[.lst (Yv (ns.map D.int) (some 1) (some 25))]) (λi dl' S'=>i<=(Yv (ns.map D.int) (some 1) (some 25)).length/\∃(ow:List Nat)(k:Tk)(sm a b c d e f hm:Nat)(gl:List Str)(hd:List D)(o6 o7 o8 o9 o10 o11 o12 o13:Option D),dl'=[some (.ref 0),some (.ref 1),some (.ref sm),some (.int (sh:Int)),some (.ref hm),some (.ref gm),o6,o7,o8,o9,o10,o11,o12,o13,none]/\KI Zd.C Zh.C S' ow k sm a b c d e f gm gl i sh/\S'[T.length]?=some (.lst (Yv (ns.map D.int) (some 1) (some 25)))/\Frz ow gm T.length/\S'[hm]?=some (.lst hd)/\Frz ow gm hm/\hd.length<=4+4*i/\∀x∈hd,LkO S' ow gm x) (λK hK=>TY (n:=0) (o:=.frz (ns.map D.int)) (S3:=T) (lo:=some 1) (hi:=some 25) (λK hK=>by exact hK) (λK hK=>by exact hK) (λK hK=>by exact hK) z0 (by exact hK)) (λi dl' S' w=>by obtain⟨_,_,_,_,_,_,_,_,_,_,_,_,_,_,_,_,_,_,_,_,_,_,_,w,_⟩:=w;exact w) ⟨zS _,ow,_,sm,a,b,c,d,e,f,hm,[],hd,none,none,none,none,none,none,none,none,rfl,K0.up g1,Zz _ _,⟨λz=>by have:=K0.tk.lt _ z;lia,()⟩,ZF h0,fh,(),λx hx=>(lk x hx).car (Car.ng g1)⟩ ?_ ?_
   .clear K0 lk h0 fh z0 f0 l4 g1;rintro i x dl' S' nx2 ct hx ⟨hi,ow,k,sm,a,b,c,d,e,f,hm,gl,hd,o6,o7,o8,o9,o10,o11,o12,o13,rfl,KK,hc,fc,hh,fh,lh,lk⟩ hnx;obtain⟨cc,rfl⟩:=DT hx;have hi':=(zE.mp hx).1
    have i24:i<24:=by lia
    refine Tz (λdl' U=>∃(g1 a1 b1 c1 d1 e1 f1:Nat)(xx an:Str)(o:Option Tk)(v:Int),dl'=[some (.ref 0),some (.ref 1),some (.ref sm),some (.int (sh:Int)),some (.ref hm),some (.ref gm),some (.int (i:Int)),some (.int cc),some (.ref g1),some (.tup [.str an,.str xx,.int v]),o10,o11,o12,o13,none]/\Ng [] S' U/\(∀y∈owS g1 a1 b1 c1 d1 e1 f1,S'.length<=y)/\LnX k xx o an/\LnR U g1 a1 b1 c1 d1 e1 f1 (nmA (i:Int) (sh:Int)) k o v) (λnx hn=>?_) ?_
    .refine⟨k,a,b,c,d,e,f,KK.st,λT1 g1 a1 b1 c1 d1 e1 f1 gT fr P1=>?_⟩;obtain⟨nA,nB⟩:=zaf i24 s49;refine⟨(),(),(),(),?_⟩;refine⟨k,a1,b1,c1,d1,e1,f1,P1,KK.gs,by have:=KK.ml;lia,nA,nB,Iq λz=>?_,λT2 x an o v g2 lx lr=>?_⟩
     .obtain⟨j,hj,e⟩:=KK.nms _ z;have:=zd5 i24 () s49 e;lia
     .exact hn _ _ ⟨g1,a1,b1,c1,d1,e1,f1,x,an,o,v,rfl,Pb gT g2 fr,fr,lx,lr⟩
    rintro dl' U ⟨g1,a1,b1,c1,d1,e1,f1,xx,an,o,v,rfl,gU,fr,lx,lr⟩;refine Tz (λdl' V=>∃(ow':List Nat)(k':Tk)(sm' a' b' c' d' e' f':Nat)(gl':List Str)(o8 o9 o10:Option D),dl'=[some (.ref 0),some (.ref 1),some (.ref sm'),some (.int (sh:Int)),some (.ref hm),some (.ref gm),some (.int (i:Int)),some (.int cc),o8,o9,o10,o11,o12,o13,none]/\KI Zd.C Zh.C V ow' k' sm' a' b' c' d' e' f' gm gl' (i+1) sh/\Car ow gm S' ow' V) (λnx hn=>?_) ?_
    .refine⟨ow,k,o,an,KK.tk.up gU,lx,?_⟩;cases o with
     | some k'=>
      intro T3 ow' g3 f3 t3;obtain⟨P1,gs',v0,nm',ml'⟩:=lr;have K3:=KK.tell gU g3 f3 t3 fr lx ⟨P1,gs',v0,nm',ml'⟩;refine ifD (λz=>absurd z ()) (λ_=>?_);refine zbU ?_;have gmU:=gU.2 _ _ (by simp) KK.ga
      have gm3:=g3.2 _ _ KK.go gmU;refine Wy (n:=gm) (S1:=T3) (xs:=gl.map D.str) (y:=.str xx) (λK hK=>by exact hK) gm3 (λK hK=>by exact hK) (by rw[zC];have:=KK.gn;lia) ?_;have em:gl.map D.str++[.str xx]=(gl++[xx]).map D.str:=by simp
      rw[em];exact hn _ _ ⟨ow',k',g1,a1,b1,c1,d1,e1,f1,gl++[xx],_,_,_,rfl,K3,((Car.ng gU).trans (Car.tell g3 f3)).trans (Car.set _)⟩
     | none=>
      intro T3 g3 m hm3;have vn:v<0:=lr;refine ifD (λ_=>?_) (λz=>absurd vn z);refine Fw (xs:=[.str "refused"]) (ys:=[.str "refused"]) (ZF hm3) (Zz _ _) (b:=true) (by simp[eqL,eqN,L3.eqT,eqF]) ?_;have g4:Ng [] S' (T3++[.lst [.str "refused"]]):=(gU.same g3).same (Ng.app _);exact hn _ _ ⟨ow,k,sm,a,b,c,d,e,f,gl,_,_,_,rfl,(KK.up g4).more,Car.ng g4⟩
    clear lx lr fr gU;rintro dl' V ⟨ow',k',sm',a',b',c',d',e',f',gl',p8,p9,p10,rfl,KV,car⟩;refine Tz (λdl' W=>∃(m:Nat)(ds:List D),dl'=[some (.ref 0),some (.ref 1),some (.ref sm'),some (.int (sh:Int)),some (.ref hm),some (.ref gm),some (.int (i:Int)),some (.int cc),p8,p9,p10,some (.ref m),o12,o13,none]/\Ng [] V W/\W[m]?=some (.lst ds)/\ds.length=4/\∀x∈ds,LkO W ow' gm x) (λnx hn=>?_) ?_
    .refine⟨ow',k',KV.tk,(),KV.gs,λT5 g5=>?_⟩;refine⟨ow',k',a',b',c',d',e',f',KV.tk.up g5,KV.st.up g5,KV.gs,λT6 m ds g6 lm h6 l6 al=>?_⟩;refine hn _ _ ⟨m,ds,rfl,g5.same g6,h6,l6,λx hx=>?_⟩;obtain⟨X,z⟩:=al x hx;have q5:=g5.1;exact TB.lko (S:=V) z (λy hy=>by have:=KV.tk.lt y hy;lia) (by have:=ZL KV.ga;lia)
    rintro dl' W ⟨m,ds,rfl,gW,hW,l6,lkW⟩;refine Ft (n:=m) (S1:=W) (es:=ds) (λK hK=>by exact hK) hW () (λj y hy=>?_) (λj x y S2 K hj pS hK=>?_) (λS2 pS hS=>?_)
    .obtain⟨f0,g0,X,e0,_⟩:=(lkW y (zT hy)).ex;exact⟨_,_,e0⟩
    .obtain⟨f0,g0,X,e0,_,_,h1,h2,pl⟩:=(lkW _ (zT hj)).ex;cases e0;exact⟨⟨X,X,pS _ _ h1,pS _ _ h2,rfl,Gh pl ⋯⟩,hK _ Pre.refl⟩
    .refine WM (bs:=(List.range ds.length).map λ_=>true) hS (WS _) ?_;rw[WU];have gS:Ng [] V S2:=gW.same (Ng.of pS);obtain⟨hV,fV⟩:=car _ _ hh fh;obtain⟨hcV,fcV⟩:=car _ _ hc fc;refine WK (xs:=hd) (ys:=ds) (gS.2 _ _ (by simp) hV) (pS _ _ hW) () ?_;have g7:Ng [] V (S2++[.lst (hd++ds)]):=gS.same (Ng.app _)
     have lV:=ZL KV.ga
     have lS2:=gS.1;refine hnx _ _ ⟨(),ow',k',sm',a',b',c',d',e',f',S2.length,gl',hd++ds,_,_,_,_,_,_,_,_,rfl,KV.up g7,g7.2 _ _ (by simp) hcV,fcV,Zz _ _,⟨λz=>by have:=KV.tk.lt _ z;lia,()⟩,by rw[zF];lia,λx hx=>?_⟩;rcases zH.1 hx with hx|hx
     .exact((lk x hx).car car).car (Car.ng g7)
     .exact(lkW x hx).car (Car.ng ((Ng.of pS).same (Ng.app _)))
   .rintro dl' S' ⟨hi,ow,k,sm,a,b,c,d,e,f,hm,gl,hd,o6,o7,o8,o9,o10,o11,o12,o13,rfl,KK,hc,fc,hh,fh,lh,lk⟩;exact hn _ _ ⟨ow,k,sm,a,b,c,d,e,f,hm,gl,hd,_,o6,o7,o8,o9,o10,o11,o12,o13,rfl,cl,KK,hh,fh,lh,lk⟩
  clear K0 lk h0 fh z0 f0 l4;rintro dl' S' ⟨ow,k,sm,a,b,c,d,e,f,hm,gl,hd,i,o6,o7,o8,o9,o10,o11,o12,o13,rfl,i24,KK,hh,fh,lh,lk⟩;refine VI (λdl' T=>T=S'/\∃p12 p13:Option D,dl'=[some (.ref 0),some (.ref 1),some (.ref sm),some (.int (sh:Int)),some (.ref hm),some (.ref gm),o6,o7,o8,o9,o10,o11,p12,p13,none]) (λnx hn=>?_) ?_
  .refine BM (n:=hm) (S:=S') (xs:=hd) (λj dl' T=>T=S'/\∃p12 p13:Option D,dl'=[some (.ref 0),some (.ref 1),some (.ref sm),some (.int (sh:Int)),some (.ref hm),some (.ref gm),o6,o7,o8,o9,o10,o11,p12,p13,none]) (λK hK=>by exact hK) ⟨rfl,_,_,rfl⟩ (λj dl' T w=>by rw[w.1];exact hh) (λj y hy=>?_) (λj ys dl' T nx2 ct hy w hnx=>?_) (λdl' T w=>hn _ _ w)
   .obtain⟨f0,g0,X,e0,_⟩:=(lk y (zT hy)).ex;exact⟨_,e0,rfl⟩
   .obtain⟨rfl,p12,p13,rfl⟩:=w;obtain⟨f0,g0,X,e0,_,_,h1,h2,pl⟩:=(lk _ (zT hy)).ex;cases e0;exact⟨⟨X,X,h1,h2,rfl,Gh pl ⋯⟩,hnx _ _ ⟨rfl,_,_,rfl⟩⟩
  rintro dl' T ⟨rfl,p12,p13,rfl⟩;refine VI (λdl' U=>∃(n2:Nat)(ow2:List Nat),dl'=[some (.ref 0),some (.ref 1),some (.ref sm),some (.int (sh:Int)),some (.ref hm),some (.ref gm),o6,o7,o8,o9,o10,o11,p12,p13,some (.ref n2)]/\Ng [] T U/\Yi Zd.C Zh.C U n2 ow2 k) (λnx hn=>?_) ?_
  .refine UJ (o:=.lst (gl.map D.str)) (Yo KK.ga rfl) ?_;refine⟨gl,k,Zz _ _,KK.run,by have:=KK.gn;lia,λU n2 ow2 gU fr2 tk2=>?_⟩;exact hn _ _ ⟨n2,ow2,rfl,(Ng.app _).same gU,tk2⟩
  rintro dl' U ⟨n2,ow2,rfl,gU,tk2⟩;refine BF ?_;refine⟨ow2,k,a,b,c,d,e,f,tk2,KK.st.up gU,KK.gs,λV m ds gV lm hV l4 al=>?_⟩;refine Ft (n:=m) (S1:=V) (es:=ds) (λK hK=>by exact hK) hV () (λj y hy=>?_) (λj x y S2 K hj pS hK=>?_) (λS2 pS hS=>?_)
  .obtain⟨X,z⟩:=al y (zT hy);obtain⟨f0,g0,e0,_⟩:=z.ex;exact⟨_,_,e0⟩
  .obtain⟨X,z⟩:=al _ (zT hj);obtain⟨f0,g0,e0,_,_,h1,h2⟩:=z.ex;cases e0;exact⟨TB.den z.pl (pS _ _ h1) (pS _ _ h2),λW pW=>hK W pW⟩
  .refine WM (bs:=(List.range ds.length).map λ_=>true) hS (WS _) ?_;rw[WU];exact h _⟩)
end
theorem BI {l:W.OpenLaw}{w:World}{K:Fg}{h:Heap}{mg:Str->Option Value}{fa:Addr}(X:K.In h)(G:h.Ns mainGlobals mg)(hfa:mg "law"=some (.ref fa))
  {X6:Addr}(OQ:W.nsIn K mainGlobals "Net"=some (some (.ref X6)))(NN:W.plainGet K X6 Str.empty=true)(NW:W.hasDictIn K X6=true)(NH:W.plainOver K X6=true)(Ma:W.findIn K (.ref X6) "__setattr__"=some (some (.builtin q100)))(NS:W.makesIn K X6=true)(PM:W.keepIn K (.ref X6)=true)
  (Oe:W.findIn K (.ref X6) "numbers"=some none)
  (Mq:W.findIn K (.ref X6) "weights"=some none)
  (Mb:W.findIn K (.ref X6) "kept"=some none)
  {YR:Addr}(NQ:W.nsIn K mainGlobals "Task"=some (some (.ref YR)))(Nv:W.plainGet K YR Str.empty=true)(NR:W.hasDictIn K YR=true)(O0:W.plainOver K YR=true)(O2:W.findIn K (.ref YR) "__setattr__"=some (some (.builtin q100)))(O5:W.makesIn K YR=true)(MG:W.keepIn K (.ref YR)=true)
  (PL:W.findIn K (.ref YR) "told_rows"=some none)
  (P8:W.findIn K (.ref YR) "unknown_ends"=some none)
  (PX:W.findIn K (.ref YR) "unknown_names"=some none)
  (NV:W.findIn K (.ref YR) "meanings"=some none)
  (Nh:W.findIn K (.ref YR) "net"=some none)
  {Xd:Addr}(PK:W.nsIn K mainGlobals "Reader"=some (some (.ref Xd)))(Nz:W.plainGet K Xd Str.empty=true)(Oo:W.hasDictIn K Xd=true)(Nb:W.plainOver K Xd=true)(NF:W.findIn K (.ref Xd) "__setattr__"=some (some (.builtin q100)))(Oq:W.makesIn K Xd=true)(Mi:W.keepIn K (.ref Xd)=true)
  (Mz:W.findIn K (.ref Xd) "depth"=some none)
  (NL:W.findIn K (.ref Xd) "place"=some none)
  (Ot:W.findIn K (.ref Xd) q36=some none)
  {f0 h0:Addr}{m0:Value}(a0:fdA K X6 q3 f0)(l0:lkA K f0 q3 q77 Ji m0 h0)(c0:cdA K h0 q77)
  {f1 h1:Addr}{m1:Value}(a1:fdA K YR q3 f1)(l1:lkA K f1 q3 q69 Lf m1 h1)(c1:cdA K h1 q69)
  {f2 h2:Addr}{m2:Value}(a2:nsA K q17 f2)(l2:lkA K f2 q17 q17 JF m2 h2)(c2:cdA K h2 q17)
  {f3 h3:Addr}{m3:Value}(a3:nsA K q11 f3)(l3:lkA K f3 q11 q11 M7 m3 h3)(c3:cdA K h3 q11)
  {f4 h4:Addr}{m4:Value}(a4:fdA K YR q93 f4)(l4:lkA K f4 q93 q90 Lk m4 h4)(c4:cdA K h4 q90)
  {f5 h5:Addr}{m5:Value}(a5:fdA K YR "ends" f5)(l5:lkA K f5 "ends" q96 MW m5 h5)(c5:cdA K h5 q96)
  {f6 h6:Addr}{m6:Value}(a6:fdA K X6 q34 f6)(l6:lkA K f6 q34 q94 MU m6 h6)(c6:cdA K h6 q94)
  {f7 h7:Addr}{m7:Value}(a7:fdA K YR q34 f7)(l7:lkA K f7 q34 q91 LS m7 h7)(c7:cdA K h7 q91)
  {f8 h8:Addr}{m8:Value}(a8:fdA K YR "rows" f8)(l8:lkA K f8 "rows" q97 KU m8 h8)(c8:cdA K h8 q97)
  {f9 h9:Addr}{m9:Value}(a9:nsA K q18 f9)(l9:lkA K f9 q18 q18 PJ m9 h9)(c9:cdA K h9 q18)
  {f10 h10:Addr}{m10:Value}(a10:nsA K q28 f10)(l10:lkA K f10 q28 q28 Jd m10 h10)(c10:cdA K h10 q28)
  {f11 h11:Addr}{m11:Value}(a11:nsA K q22 f11)(l11:lkA K f11 q22 q22 Lu m11 h11)(c11:cdA K h11 q22)
  {f12 h12:Addr}{m12:Value}(a12:nsA K q33 f12)(l12:lkA K f12 q33 q33 Ki m12 h12)(c12:cdA K h12 q33)
  {f13 h13:Addr}{m13:Value}(a13:nsA K q12 f13)(l13:lkA K f13 q12 q12 Ke m13 h13)(c13:cdA K h13 q12)
  {f14 h14:Addr}{m14:Value}(a14:nsA K q13 f14)(l14:lkA K f14 q13 q13 LG m14 h14)(c14:cdA K h14 q13)
  {f15 h15:Addr}{m15:Value}(a15:nsA K q25 f15)(l15:lkA K f15 q25 q25 LZ m15 h15)(c15:cdA K h15 q25)
  {f16 h16:Addr}{m16:Value}(a16:nsA K q26 f16)(l16:lkA K f16 q26 q26 KC m16 h16)(c16:cdA K h16 q26)
  {f17 h17:Addr}{m17:Value}(a17:nsA K q16 f17)(l17:lkA K f17 q16 q16 K9 m17 h17)(c17:cdA K h17 q16)
  {f18 h18:Addr}{m18:Value}(a18:nsA K q14 f18)(l18:lkA K f18 q14 q14 RO m18 h18)(c18:cdA K h18 q14)
  {f19 h19:Addr}{m19:Value}(a19:nsA K q29 f19)(l19:lkA K f19 q29 q29 LU m19 h19)(c19:cdA K h19 q29)
  {f20 h20:Addr}{m20:Value}(a20:nsA K q6 f20)(l20:lkA K f20 q6 q6 RS m20 h20)(c20:cdA K h20 q6)
  {f21 h21:Addr}{m21:Value}(a21:nsA K q30 f21)(l21:lkA K f21 q30 q30 Lj m21 h21)(c21:cdA K h21 q30)
  {f22 h22:Addr}{m22:Value}(a22:nsA K q27 f22)(l22:lkA K f22 q27 q27 LR m22 h22)(c22:cdA K h22 q27)
  {f23 h23:Addr}{m23:Value}(a23:nsA K q40 f23)(l23:lkA K f23 q40 q40 L6 m23 h23)(c23:cdA K h23 q40)
  {f24 h24:Addr}{m24:Value}(a24:nsA K q43 f24)(l24:lkA K f24 q43 q43 OI m24 h24)(c24:cdA K h24 q43)
  {f25 h25:Addr}{m25:Value}(a25:nsA K q23 f25)(l25:lkA K f25 q23 q23 LN m25 h25)(c25:cdA K h25 q23)
  {f26 h26:Addr}{m26:Value}(a26:nsA K q38 f26)(l26:lkA K f26 q38 q38 Jg m26 h26)(c26:cdA K h26 q38)
  {f27 h27:Addr}{m27:Value}(a27:nsA K q5 f27)(l27:lkA K f27 q5 q5 KW m27 h27)(c27:cdA K h27 q5)
  {f28 h28:Addr}{m28:Value}(a28:nsA K q39 f28)(l28:lkA K f28 q39 q39 KL m28 h28)(c28:cdA K h28 q39)
  {f29 h29:Addr}{m29:Value}(a29:nsA K q15 f29)(l29:lkA K f29 q15 q15 Lc m29 h29)(c29:cdA K h29 q15)
  {f30 h30:Addr}{m30:Value}(a30:nsA K q49 f30)(l30:lkA K f30 q49 q49 Kp m30 h30)(c30:cdA K h30 q49)
  {f31 h31:Addr}{m31:Value}(a31:nsA K q20 f31)(l31:lkA K f31 q20 q20 L8 m31 h31)(c31:cdA K h31 q20)
  {f32 h32:Addr}{m32:Value}(a32:nsA K "less" f32)(l32:lkA K f32 "less" "less" M0 m32 h32)(c32:cdA K h32 "less")
  {f33 h33:Addr}{m33:Value}(a33:nsA K q50 f33)(l33:lkA K f33 q50 q50 Lp m33 h33)(c33:cdA K h33 q50)
  {f34 h34:Addr}{m34:Value}(a34:fdA K YR q53 f34)(l34:lkA K f34 q53 q64 ML m34 h34)(c34:cdA K h34 q64)
  {f35 h35:Addr}{m35:Value}(a35:nsA K q24 f35)(l35:lkA K f35 q24 q24 M3 m35 h35)(c35:cdA K h35 q24)
  {f36 h36:Addr}{m36:Value}(a36:fdA K X6 "put" f36)(l36:lkA K f36 "put" "Net.put" Ly m36 h36)(c36:cdA K h36 "Net.put")
  {f37 h37:Addr}{m37:Value}(a37:fdA K YR q46 f37)(l37:lkA K f37 q46 q52 Ju m37 h37)(c37:cdA K h37 q52)
  {f38 h38:Addr}{m38:Value}(a38:fdA K Xd q3 f38)(l38:lkA K f38 q3 q57 Kh m38 h38)(c38:cdA K h38 q57)
  {f39 h39:Addr}{m39:Value}(a39:fdA K Xd q73 f39)(l39:lkA K f39 q73 q67 MX m39 h39)(c39:cdA K h39 q67)
  {f40 h40:Addr}{m40:Value}(a40:fdA K Xd "take" f40)(l40:lkA K f40 "take" q83 Jh m40 h40)(c40:cdA K h40 q83)
  {f41 h41:Addr}{m41:Value}(a41:fdA K Xd q79 f41)(l41:lkA K f41 q79 q62 Ru m41 h41)(c41:cdA K h41 q62)
  {f42 h42:Addr}{m42:Value}(a42:fdA K Xd "atom" f42)(l42:lkA K f42 "atom" q85 QJ m42 h42)(c42:cdA K h42 q85)
  {f43 h43:Addr}{m43:Value}(a43:fdA K Xd "sees" f43)(l43:lkA K f43 "sees" q82 MP m43 h43)(c43:cdA K h43 q82)
  {f44 h44:Addr}{m44:Value}(a44:fdA K Xd q89 f44)(l44:lkA K f44 q89 q68 Q3 m44 h44)(c44:cdA K h44 q68)
  {f45 h45:Addr}{m45:Value}(a45:fdA K Xd "term" f45)(l45:lkA K f45 "term" q84 Pe m45 h45)(c45:cdA K h45 q84)
  {f46 h46:Addr}{m46:Value}(a46:fdA K Xd q48 f46)(l46:lkA K f46 q48 q51 QG m46 h46)(c46:cdA K h46 q51)
  {f47 h47:Addr}{m47:Value}(a47:nsA K q44 f47)(l47:lkA K f47 q44 q44 LQ m47 h47)(c47:cdA K h47 q44)
  {f48 h48:Addr}{m48:Value}(a48:fdA K YR q41 f48)(l48:lkA K f48 q41 q55 L1 m48 h48)(c48:cdA K h48 q55)
  {f49 h49:Addr}{m49:Value}(a49:nsA K q45 f49)(l49:lkA K f49 q45 q45 KS m49 h49)(c49:cdA K h49 q45)
  {f50 h50:Addr}{m50:Value}(a50:nsA K q21 f50)(l50:lkA K f50 q21 q21 Qm m50 h50)(c50:cdA K h50 q21)
  {f51 h51:Addr}{m51:Value}(a51:fdA K YR q59 f51)(l51:lkA K f51 q59 q63 KO m51 h51)(c51:cdA K h51 q63)
  {f52 h52:Addr}{m52:Value}(a52:nsA K q9 f52)(l52:lkA K f52 q9 q9 KD m52 h52)(c52:cdA K h52 q9)
  {f53 h53:Addr}{m53:Value}(a53:fdA K YR q70 f53)(l53:lkA K f53 q70 q71 KJ m53 h53)(c53:cdA K h53 q71)
  {f54 h54:Addr}{m54:Value}(a54:fdA K YR "tell" f54)(l54:lkA K f54 "tell" q95 Jl m54 h54)(c54:cdA K h54 q95)
  {f55 h55:Addr}{m55:Value}(a55:nsA K q31 f55)(l55:lkA K f55 q31 q31 LL m55 h55)(c55:cdA K h55 q31)
  {f56 h56:Addr}{m56:Value}(a56:nsA K q19 f56)(l56:lkA K f56 q19 q19 Kb m56 h56)(c56:cdA K h56 q19)
  {f57 h57:Addr}{m57:Value}(a57:nsA K "read" f57)(l57:lkA K f57 "read" "read" MJ m57 h57)(c57:cdA K h57 "read")
  {f58 h58:Addr}{m58:Value}(a58:nsA K q8 f58)(l58:lkA K f58 q8 q8 LY m58 h58)(c58:cdA K h58 q8)
  {f59 h59:Addr}{m59:Value}(a59:nsA K q1 f59)(l59:lkA K f59 q1 q1 Wj m59 h59)(c59:cdA K h59 q1)
  {f60 h60:Addr}{m60:Value}(a60:nsA K "law" f60)(l60:lkA K f60 "law" "law" Uj m60 h60)(c60:cdA K h60 "law")
  {ga_KEPT_WORDS:Addr}{gn_KEPT_WORDS:Nat}{go_KEPT_WORDS:Option Addr}{gs_KEPT_WORDS:Array (Option Value)}{w0_KEPT_WORDS w1_KEPT_WORDS w2_KEPT_WORDS w3_KEPT_WORDS w4_KEPT_WORDS w5_KEPT_WORDS w6_KEPT_WORDS w7_KEPT_WORDS w8_KEPT_WORDS w9_KEPT_WORDS:Tok}(g_KEPT_WORDS:W.nsIn K mainGlobals "KEPT_WORDS"=some (some (.ref ga_KEPT_WORDS)))(gl_KEPT_WORDS:K.lookup ga_KEPT_WORDS=some ⟨.type "tuple",go_KEPT_WORDS,.seq #[.str "let" w0_KEPT_WORDS,.str "in" w1_KEPT_WORDS,.str "grid" w2_KEPT_WORDS,.str "fine" w3_KEPT_WORDS,.str "looks" w4_KEPT_WORDS,.str "solve" w5_KEPT_WORDS,.str "boxes" w6_KEPT_WORDS,.str "point" w7_KEPT_WORDS,.str "right" w8_KEPT_WORDS,.str "islands" w9_KEPT_WORDS] gn_KEPT_WORDS,gs_KEPT_WORDS⟩)
  {t_MOST_LETTERS:Tok}(g_MOST_LETTERS:W.nsIn K mainGlobals "MOST_LETTERS"=some (some (.int 8 t_MOST_LETTERS)))
  {t_LETTERS:Tok}(g_LETTERS:W.nsIn K mainGlobals "LETTERS"=some (some (.str q75 t_LETTERS)))
  {t_MOST_FIGURES:Tok}(g_MOST_FIGURES:W.nsIn K mainGlobals "MOST_FIGURES"=some (some (.int 9 t_MOST_FIGURES)))
  {t_FIGURES:Tok}(g_FIGURES:W.nsIn K mainGlobals "FIGURES"=some (some (.str "0123456789" t_FIGURES)))
  {t_MOST_NODES:Tok}(g_MOST_NODES:W.nsIn K mainGlobals "MOST_NODES"=some (some (.int 60 t_MOST_NODES)))
  {t_MOST_WEIGHT:Tok}(g_MOST_WEIGHT:W.nsIn K mainGlobals "MOST_WEIGHT"=some (some (.int 16 t_MOST_WEIGHT)))
  {t_MOST_UNKNOWNS:Tok}(g_MOST_UNKNOWNS:W.nsIn K mainGlobals "MOST_UNKNOWNS"=some (some (.int 4 t_MOST_UNKNOWNS)))
  {t_MOST_BRACKETS:Tok}(g_MOST_BRACKETS:W.nsIn K mainGlobals "MOST_BRACKETS"=some (some (.int 16 t_MOST_BRACKETS)))
  {ga_POWERS:Addr}{gn_POWERS:Nat}{go_POWERS:Option Addr}{gs_POWERS:Array (Option Value)}{w0_POWERS w1_POWERS w2_POWERS w3_POWERS w4_POWERS:Tok}(g_POWERS:W.nsIn K mainGlobals "POWERS"=some (some (.ref ga_POWERS)))(gl_POWERS:K.lookup ga_POWERS=some ⟨.type "tuple",go_POWERS,.seq #[.str "2" w0_POWERS,.str "3" w1_POWERS,.str "4" w2_POWERS,.str "5" w3_POWERS,.str "6" w4_POWERS] gn_POWERS,gs_POWERS⟩)
  {ga_SUMS:Addr}{gn_SUMS:Nat}{w0_SUMS v0_SUMS w1_SUMS v1_SUMS:Tok}(g_SUMS:W.nsIn K mainGlobals "SUMS"=some (some (.ref ga_SUMS)))(gl_SUMS:K.lookup ga_SUMS=some ⟨.type "dict",none,.dict #[⟨U4 w (.inr "+"),.str "+" w0_SUMS,.str "plus" v0_SUMS⟩,⟨U4 w (.inr "-"),.str "-" w1_SUMS,.str "minus" v1_SUMS⟩] gn_SUMS,#[]⟩)(gs_SUMS:(ga_SUMS==sysModules)=false)
  {t_MOST_WORDS:Tok}(g_MOST_WORDS:W.nsIn K mainGlobals "MOST_WORDS"=some (some (.int 120 t_MOST_WORDS)))
  {ga_ROW_WORDS:Addr}{gn_ROW_WORDS:Nat}{w0_ROW_WORDS v0_ROW_WORDS w1_ROW_WORDS v1_ROW_WORDS:Tok}(g_ROW_WORDS:W.nsIn K mainGlobals R4=some (some (.ref ga_ROW_WORDS)))(gl_ROW_WORDS:K.lookup ga_ROW_WORDS=some ⟨.type "dict",none,.dict #[⟨U4 w (.inr "="),.str "=" w0_ROW_WORDS,.str "zero" v0_ROW_WORDS⟩,⟨U4 w (.inr ">="),.str ">=" w1_ROW_WORDS,.str "least" v1_ROW_WORDS⟩] gn_ROW_WORDS,#[]⟩)(gs_ROW_WORDS:(ga_ROW_WORDS==sysModules)=false)
  {t_MOST_ROWS:Tok}(g_MOST_ROWS:W.nsIn K mainGlobals "MOST_ROWS"=some (some (.int 12 t_MOST_ROWS)))
  (ZA:W.nsIn K mainGlobals "len"=some none)
  (ZJ:W.nsIn K mainGlobals "list"=some none)
  (VJ:W.nsIn K mainGlobals "dict"=some none)
  (ZY:W.nsIn K mainGlobals "str"=some none)
  (YY:W.nsIn K mainGlobals "range"=some none)
  (Zv:W.nsIn K mainGlobals q37=some none)
  (YF:W.nsIn K mainGlobals "all"=some none)
  (WJ:W.nsIn K mainGlobals "bool"=some none)
  (Z6:W.nsIn K mainGlobals "int"=some none)
  (Ws:W.nsIn K mainGlobals "abs"=some none)
  (VW:W.nsIn K mainGlobals "reversed"=some none)
  (WR:W.nsIn K mainGlobals "enumerate"=some none)
  (Yu:W.nsIn K mainGlobals "tuple"=some none)
  (Vw:Kit K "str")
  (VN:Kit K "bool")
  (VL:Kit K "int")
  {e_NoNumber:Addr}(n_NoNumber:W.nsIn K mainGlobals "NoNumber"=some (some (.ref e_NoNumber)))(x_NoNumber:W.excIn K e_NoNumber VE "ValueError.__new__"=true)
  {e_NoRow:Addr}(n_NoRow:W.nsIn K mainGlobals "NoRow"=some (some (.ref e_NoRow)))(x_NoRow:W.excIn K e_NoRow VE "ValueError.__new__"=true)
  {e_TooMuch:Addr}(n_TooMuch:W.nsIn K mainGlobals "TooMuch"=some (some (.ref e_TooMuch)))(x_TooMuch:W.excIn K e_TooMuch VE "ValueError.__new__"=true)
  {e_BoxError:Addr}(n_BoxError:W.nsIn K mainGlobals "BoxError"=some (some (.ref e_BoxError)))(x_BoxError:W.excIn K e_BoxError VE "ValueError.__new__"=true)
  {e_NoName:Addr}(n_NoName:W.nsIn K mainGlobals "NoName"=some (some (.ref e_NoName)))
  (s_TooMuch_BoxError:W.exmOne K (.ref e_TooMuch) (.ref e_BoxError)=some true)
  (iB_TooMuch_NoName:W.kitOne K (.ref e_TooMuch) (.ref e_NoName)=some false)
  (iB_TooMuch_NoRow:W.kitOne K (.ref e_TooMuch) (.ref e_NoRow)=some false)
  (iB_TooMuch_TooMuch:W.kitOne K (.ref e_TooMuch) (.ref e_TooMuch)=some true)
  (nxga_TooMuch:W.findIn K (.ref e_TooMuch) "__getattribute__"=some (some (.builtin "BaseException.__getattribute__")))(nxhk_TooMuch:W.findIn K (.ref e_TooMuch) "__getattr__"=some none)(nxha_TooMuch:W.findIn K (.ref e_TooMuch) "__class__"=some (some (.builtin q103)))(nxhm_TooMuch:W.mroIn K e_TooMuch (.type q61)=some true)(nxhb_TooMuch:W.mroIn K e_TooMuch (.type q66)=some true)
  (nxhn:W.specialIn K (.builtin q103) "__get__"=some (some (.builtin "getset_descriptor.__get__")))(nxht:W.takesIn K (.builtin q103)=some true)
  :∃fd:FuncData,(∀(s:Shared)(v:Value),BindsTo s fd ⟨[v],[]⟩ [(q86,v)])/\∀base:Heap,K.In base->base.Ns mainGlobals mg->Yj l.prog w K mg base (CXE l.prog w) 136 fa fd [q86] (upF K SY):=by
 have e:=hfa.symm.trans (W.mg_of X G a60);cases e
 let Zh:Xf K mg:=⟨X6,W.mg_of X G OQ,⟨NN,NW,NH,Ma⟩,Oe,Mq,Mb,NS,PM⟩
 let Zd:Xq K mg:=⟨YR,W.mg_of X G NQ,⟨Nv,NR,O0,O2⟩,PL,P8,PX,NV,Nh,O5,MG⟩
 let Zf:XX K mg:=⟨Xd,W.mg_of X G PK,⟨Nz,Oo,Nb,NF⟩,Mz,NL,Ot,Oq,Mi⟩
 let Uw:Df K mg q14 RO Uu:=dfo X G a18 l18 c18
 let Ud:Df K mg q6 RS Ue:=dfo X G a20 l20 c20
 let Tb:Dm K Zf.C q79 q62 Ru SO:=dmo a41 l41 c41
 let Uy:Dm K Zf.C "atom" q85 QJ TH:=dmo a42 l42 c42
 let UH:Dm K Zf.C q89 q68 Q3 T8:=dmo a44 l44 c44
 let UQ:Dm K Zf.C "term" q84 Pe SI:=dmo a45 l45 c45
 let VU:Dm K Zf.C q48 q51 QG Um:=dmo a46 l46 c46
 let Uk:Df K mg q21 Qm Vz:=dfo X G a50 l50 c50
 let Y4:Df K mg q1 Wj Xl:=dfo X G a59 l59 c59
 have ZA:=W.mg_none_of X G ZA
 have ZJ:=W.mg_none_of X G ZJ
 have VJ:=W.mg_none_of X G VJ
 have ZY:=W.mg_none_of X G ZY
 have YY:=W.mg_none_of X G YY
 have Zv:=W.mg_none_of X G Zv
 have YF:=W.mg_none_of X G YF
 have WJ:=W.mg_none_of X G WJ
 have Z6:=W.mg_none_of X G Z6
 have Ws:=W.mg_none_of X G Ws
 have VW:=W.mg_none_of X G VW
 have WR:=W.mg_none_of X G WR
 have Yu:=W.mg_none_of X G Yu
 have g_KEPT_WORDS:GT K mg "KEPT_WORDS" ["let","in","grid","fine","looks","solve","boxes","point","right","islands"]:=⟨ga_KEPT_WORDS,_,_,_,W.mg_of X G g_KEPT_WORDS,gl_KEPT_WORDS,rfl,rfl,(show 10<=sizeLine from XW ⋯),(.cons ⟨_,rfl⟩ (.cons ⟨_,rfl⟩ (.cons ⟨_,rfl⟩ (.cons ⟨_,rfl⟩ (.cons ⟨_,rfl⟩ (.cons ⟨_,rfl⟩ (.cons ⟨_,rfl⟩ (.cons ⟨_,rfl⟩ (.cons ⟨_,rfl⟩ (.cons ⟨_,rfl⟩ .nil))))))))))⟩
 have g_MOST_LETTERS:=W.mg_of X G g_MOST_LETTERS
 have g_LETTERS:=W.mg_of X G g_LETTERS
 have g_MOST_FIGURES:=W.mg_of X G g_MOST_FIGURES
 have g_FIGURES:=W.mg_of X G g_FIGURES
 have g_MOST_NODES:=W.mg_of X G g_MOST_NODES
 have g_MOST_WEIGHT:=W.mg_of X G g_MOST_WEIGHT
 have g_MOST_UNKNOWNS:=W.mg_of X G g_MOST_UNKNOWNS
 have g_MOST_BRACKETS:=W.mg_of X G g_MOST_BRACKETS
 have g_POWERS:GT K mg "POWERS" ["2","3","4","5","6"]:=⟨ga_POWERS,_,_,_,W.mg_of X G g_POWERS,gl_POWERS,rfl,rfl,(show 5<=sizeLine from XW ⋯),(.cons ⟨_,rfl⟩ (.cons ⟨_,rfl⟩ (.cons ⟨_,rfl⟩ (.cons ⟨_,rfl⟩ (.cons ⟨_,rfl⟩ .nil)))))⟩
 have g_SUMS:GD l.prog w K mg "SUMS" _:=Ed (W.mg_of X G g_SUMS) gl_SUMS ⟨rfl,rfl,rfl⟩ rfl ⋯ gs_SUMS
 have g_MOST_WORDS:=W.mg_of X G g_MOST_WORDS
 have g_ROW_WORDS:GD l.prog w K mg R4 _:=Ed (W.mg_of X G g_ROW_WORDS) gl_ROW_WORDS ⟨rfl,rfl,rfl⟩ rfl ⋯ gs_ROW_WORDS
 have g_MOST_ROWS:=W.mg_of X G g_MOST_ROWS
 let ZI:Ec K mg q32:=⟨e_NoNumber,W.mg_of X G n_NoNumber,x_NoNumber⟩
 let Zw:Ec K mg q56:=⟨e_NoRow,W.mg_of X G n_NoRow,x_NoRow⟩
 let ZD:Ec K mg q54:=⟨e_TooMuch,W.mg_of X G n_TooMuch,x_TooMuch⟩
 let Nw:Ec K mg "BoxError":=⟨e_BoxError,W.mg_of X G n_BoxError,x_BoxError⟩
 let OA:Eb K mg "NoName":=⟨e_NoName,W.mg_of X G n_NoName⟩
 have nx_TooMuch:Nx K ZD.c:=⟨nxga_TooMuch,nxhk_TooMuch,nxha_TooMuch,nxhn,nxht,nxhm_TooMuch,nxhb_TooMuch⟩;refine⟨W.fnOf "law" "law" (UN Uj) (WN Uj) (Zr Uj) .none .none .none m60 none (.ref h60) .none,λs v=>.of_eq rfl,λbase _ _=>?_⟩
 let Wu:=B5 (P:=l.prog) (w:=w) (base:=base) Zh (dmo a0 l0 c0)
 let WE:=ER (P:=l.prog) (w:=w) (base:=base) Zd Zh (dmo a1 l1 c1) Wu
 let Jo:=zcD (P:=l.prog) (w:=w) (base:=base) (dfo X G a2 l2 c2)
 let Lg:=zbp (P:=l.prog) (w:=w) (base:=base) (dfo X G a3 l3 c3) ZA
 let W6:=AH (P:=l.prog) (w:=w) (base:=base) Zd Zh (dmo a4 l4 c4) ZJ
 let W0:=zc1 (P:=l.prog) (w:=w) (base:=base) Zd Zh (dmo a5 l5 c5) ZJ
 let Vg:=Du (P:=l.prog) (w:=w) (base:=base) Zh (dmo a6 l6 c6) ZJ
 let W4:=Dj (P:=l.prog) (w:=w) (base:=base) Zh Zd (dmo a7 l7 c7) Vg
 let Vh:=zay (P:=l.prog) (w:=w) (base:=base) Zd (dmo a8 l8 c8) ZJ
 let Ri:=zeJ (P:=l.prog) (w:=w) (base:=base) Zd Zh (dfo X G a9 l9 c9) Vh W4 W0 W6 ZJ
 let Jf:=CI (P:=l.prog) (w:=w) (base:=base) (dfo X G a10 l10 c10) VJ ZJ
 let XG:=zcL (P:=l.prog) (w:=w) (base:=base) (dfo X G a11 l11 c11)
 let WW:=zaK (P:=l.prog) (w:=w) (base:=base) (dfo X G a12 l12 c12) ZA
 let W9:=zdx (P:=l.prog) (w:=w) (base:=base) (dfo X G a13 l13 c13) ZY
 let MM:=zaL (P:=l.prog) (w:=w) (base:=base) (dfo X G a14 l14 c14) W9 WW XG ZA
 let PN:=Bs (P:=l.prog) (w:=w) (base:=base) (dfo X G a15 l15 c15) ZA
 let Lq:=De (P:=l.prog) (w:=w) (base:=base) (dfo X G a16 l16 c16) XG PN YY
 let Tv:=zd2 (P:=l.prog) (w:=w) (base:=base) (dfo X G a17 l17 c17)
 let Wi:=HI (P:=l.prog) (w:=w) (base:=base) Uw Tv W9 ZY 12
 let O9:=zal (P:=l.prog) (w:=w) (base:=base) (dfo X G a19 l19 c19) Wi Lq ZJ
 let Vv:=HG (P:=l.prog) (w:=w) (base:=base) Ud WW 12
 let Jn:=zbT (P:=l.prog) (w:=w) (base:=base) (dfo X G a21 l21 c21) Vv O9 XG MM ZA
 let L9:=B0 (P:=l.prog) (w:=w) (base:=base) (dfo X G a22 l22 c22)
 let M8:=An (P:=l.prog) (w:=w) (base:=base) (dfo X G a23 l23 c23) Zv ZY Vw
 let UG:=zcO (P:=l.prog) (w:=w) (base:=base) (dfo X G a24 l24 c24) YF ZA
 let XD:=zaM (P:=l.prog) (w:=w) (base:=base) (dfo X G a25 l25 c25) UG g_KEPT_WORDS g_MOST_LETTERS g_LETTERS
 let NM:=zed (P:=l.prog) (w:=w) (base:=base) (dfo X G a26 l26 c26) Zv WJ Z6 VN VL
 let KH:=E8 (P:=l.prog) (w:=w) (base:=base) (dfo X G a27 l27 c27)
 let LB:=zdh (P:=l.prog) (w:=w) (base:=base) (dfo X G a28 l28 c28) ZI KH NM Ws
 let NO:=BY (P:=l.prog) (w:=w) (base:=base) (dfo X G a29 l29 c29) VW ZY
 let LJ:=BW (P:=l.prog) (w:=w) (base:=base) (dfo X G a30 l30 c30) NO Ws
 let W8:=zap (P:=l.prog) (w:=w) (base:=base) (dfo X G a31 l31 c31) Zw ZI LJ LB UG g_MOST_FIGURES g_FIGURES Z6
 let KZ:=zba (P:=l.prog) (w:=w) (base:=base) (dfo X G a32 l32 c32)
 let Kt:=CM (P:=l.prog) (w:=w) (base:=base) (dfo X G a33 l33 c33) Zw ZI KZ W8 XD ZA
 let W5:=zcG (P:=l.prog) (w:=w) (base:=base) Zd (dmo a34 l34 c34)
 let K6:=E9 (P:=l.prog) (w:=w) (base:=base) (dfo X G a35 l35 c35)
 let YW:=zdH (P:=l.prog) (w:=w) (base:=base) Zh (dmo a36 l36 c36) ZD K6 g_MOST_NODES g_MOST_WEIGHT ZA
 let Rq:=AE (P:=l.prog) (w:=w) (base:=base) Zd Zh (dmo a37 l37 c37) ZD YW W5 Kt g_MOST_UNKNOWNS ZA
 let TX:=zdn (P:=l.prog) (w:=w) (base:=base) Zf (dmo a38 l38 c38)
 let XN:=Dw (P:=l.prog) (w:=w) (base:=base) Zf (dmo a39 l39 c39) ZA
 let Yk:=zc9 (P:=l.prog) (w:=w) (base:=base) Zf (dmo a40 l40 c40) Zw XN
 let Y6:=zd9 (P:=l.prog) (w:=w) (base:=base) Zf (dmo a43 l43 c43) XN
 let WO:=EG (P:=l.prog) (w:=w) (base:=base) Zf Zw ZI Tb Yk g_MOST_BRACKETS Uy W8 XD UH Y6 g_POWERS Z6 UQ VU g_SUMS 17
 let UZ:=zcI (P:=l.prog) (w:=w) (base:=base) Zf (dfo X G a47 l47 c47) Zw ZI XN WO TX g_MOST_WORDS ZA
 let Ve:=zee (P:=l.prog) (w:=w) (base:=base) Zd (dmo a48 l48 c48) XD
 let SF:=C5 (P:=l.prog) (w:=w) (base:=base) Zh (dfo X G a49 l49 c49) ZD Vg YW Wu
 let WI:=G9 (P:=l.prog) (w:=w) (base:=base) Zh ZD Uk YW 130
 let RI:=zaD (P:=l.prog) (w:=w) (base:=base) Zd Zh Zf (dmo a51 l51 c51) ZD Zw ZI WI SF Ve W5 UZ XD ZA
 let Ls:=Bd (P:=l.prog) (w:=w) (base:=base) (dfo X G a52 l52 c52) g_ROW_WORDS WR
 let Qi:=zcF (P:=l.prog) (w:=w) (base:=base) Zd Zh Zf (dmo a53 l53 c53) ZD Zw ZI WI SF Ve UZ Ls g_ROW_WORDS g_MOST_ROWS ZA
 let Vn:=zeF (P:=l.prog) (w:=w) (base:=base) Zd Zh (dmo a54 l54 c54) ZD Qi RI Rq M8
 let K5:=C4 (P:=l.prog) (w:=w) (base:=base) Zd Zh (dfo X G a55 l55 c55) ZD Nw OA Zw Vn Zv nx_TooMuch iB_TooMuch_NoName iB_TooMuch_NoRow iB_TooMuch_TooMuch s_TooMuch_BoxError
 let Lo:=zd1 (P:=l.prog) (w:=w) (base:=base) Zd Zh (dfo X G a56 l56 c56) Vh W4 W0 W6
 let Jx:=zaq (P:=l.prog) (w:=w) (base:=base) Zd Zh (dfo X G a57 l57 c57) ZD Vn WE
 let XJ:=zct (P:=l.prog) (w:=w) (base:=base) (dfo X G a58 l58 c58) Zv WJ Z6 VN VL
 let N_law_alike:=Df.never (P:=l.prog) (w:=w) (base:=base) 0 Y4
 let C6:=zc8 (P:=l.prog) (w:=w) (base:=base) Y4 XJ Zv ZY Z6 Yu ZJ YF YY ZA N_law_alike
 let Ct:=zaF (P:=l.prog) (w:=w) (base:=base) Y4 XJ Zv ZY Z6 Yu ZJ YF YY ZA C6
 let Dh:=zcV (P:=l.prog) (w:=w) (base:=base) Y4 XJ Zv ZY Z6 Yu ZJ YF YY ZA Ct
 let Ac:=zdd (P:=l.prog) (w:=w) (base:=base) Y4 XJ Zv ZY Z6 Yu ZJ YF YY ZA Dh
 let Jt:=zeH (P:=l.prog) (w:=w) (base:=base) Y4 XJ Zv ZY Z6 Yu ZJ YF YY ZA Ac
 let G_law:=zcE (P:=l.prog) (w:=w) (base:=base) Zd Zh (dfo X G a60 l60 c60) Ri Jt Jx Lo K5 Jn L9 Jf Lg Jo WE YF ZJ WR Zv ZY Vw
 exact G_law.ok
end Mine
open PySem PySem.W PyProof.Rows
set_option maxRecDepth 100003 in
set_option maxHeartbeats 0 in
theorem PySem.Challenge.cw_boxnarrow_k16_lines_told_holds : PySem.Challenge.rw_boxnarrow_k16_lines_told.Holds := by
 w_on;refine PySem.W.holds_law Mine.ws_eq λsaid=>?_
 refine PySem.W.holds_open (q:=Mine.vw) (loose:=[PySem.Str.ofString "SUMS",PySem.Str.ofString "ROW_WORDS"]) (Xt:=Mine.xt) (XP:=XL Mine.vw []) (Yf:=Hook.obs (kHook Mine.kp Mine.ks Mine.Sw)) (Ya:=Hook.val (kHook Mine.kp Mine.ks Mine.Sw))
  (YP:=Hook.says (kHook Mine.kp Mine.ks Mine.Sw)) (N:=7888) Mine.left (Hook.of (kHook Mine.kp Mine.ks Mine.Sw)) (Hook.keeps (kHook Mine.kp Mine.ks Mine.Sw)) (λs e=>xl_of s (wW.mp e).1) XL.keeps
  (by rfl) (by rfl) (by rfl) (λs e=>recFacts_of (wW.mp e).2) (by rfl) (by first|assumption|decide +kernel)
  (by decide +kernel) ⟨rfl,rfl,rfl,rfl,rfl,by decide +kernel⟩ ?hw ?hc
 (case hw=>w_witness2)
 k_fill
 refine L3.zaS (l:=PySem.Challenge.rw_boxnarrow_k16_lines_told) (x:="_law_script") 136 rfl rfl ⟨rfl,⋯,⋯⟩ (λw h Y=>PySem.W.kIn_of Y) ?F
 case F=>
  intro w mg fa h KX G hmg;refine' Mine.BI KX G hmg (OQ:=?OQ) (NN:=?NN) (NW:=?NW) (NH:=?NH) (Ma:=?Ma) (NS:=?NS) (PM:=?PM) (Oe:=?Oe) (Mq:=?Mq) (Mb:=?Mb) (NQ:=?NQ) (Nv:=?Nv) (NR:=?NR) (O0:=?O0) (O2:=?O2) (O5:=?O5) (MG:=?MG) (PL:=?PL) (P8:=?P8) (PX:=?PX) (NV:=?NV) (Nh:=?Nh) (PK:=?PK) (Nz:=?Nz) (Oo:=?Oo) (Nb:=?Nb) (NF:=?NF) (Oq:=?Oq) (Mi:=?Mi) (Mz:=?Mz) (NL:=?NL) (Ot:=?Ot) (a0:=?a0) (l0:=?l0) (c0:=?c0) (a1:=?a1) (l1:=?l1) (c1:=?c1) (a2:=?a2) (l2:=?l2) (c2:=?c2) (a3:=?a3) (l3:=?l3) (c3:=?c3) (a4:=?a4) (l4:=?l4) (c4:=?c4) (a5:=?a5) (l5:=?l5) (c5:=?c5) (a6:=?a6) (l6:=?l6) (c6:=?c6) (a7:=?a7) (l7:=?l7) (c7:=?c7) (a8:=?a8) (l8:=?l8) (c8:=?c8) (a9:=?a9) (l9:=?l9) (c9:=?c9) (a10:=?a10) (l10:=?l10) (c10:=?c10) (a11:=?a11) (l11:=?l11) (c11:=?c11) (a12:=?a12) (l12:=?l12) (c12:=?c12) (a13:=?a13) (l13:=?l13) (c13:=?c13) (a14:=?a14) (l14:=?l14) (c14:=?c14) (a15:=?a15) (l15:=?l15) (c15:=?c15) (a16:=?a16) (l16:=?l16) (c16:=?c16) (a17:=?a17) (l17:=?l17) (c17:=?c17) (a18:=?a18) (l18:=?l18) (c18:=?c18) (a19:=?a19) (l19:=?l19) (c19:=?c19) (a20:=?a20) (l20:=?l20) (c20:=?c20) (a21:=?a21) (l21:=?l21) (c21:=?c21) (a22:=?a22) (l22:=?l22) (c22:=?c22) (a23:=?a23) (l23:=?l23) (c23:=?c23) (a24:=?a24) (l24:=?l24) (c24:=?c24) (a25:=?a25) (l25:=?l25) (c25:=?c25) (a26:=?a26) (l26:=?l26) (c26:=?c26) (a27:=?a27) (l27:=?l27) (c27:=?c27) (a28:=?a28) (l28:=?l28) (c28:=?c28) (a29:=?a29) (l29:=?l29) (c29:=?c29) (a30:=?a30) (l30:=?l30) (c30:=?c30) (a31:=?a31) (l31:=?l31) (c31:=?c31) (a32:=?a32) (l32:=?l32) (c32:=?c32) (a33:=?a33) (l33:=?l33) (c33:=?c33) (a34:=?a34) (l34:=?l34) (c34:=?c34) (a35:=?a35) (l35:=?l35) (c35:=?c35) (a36:=?a36) (l36:=?l36) (c36:=?c36) (a37:=?a37) (l37:=?l37) (c37:=?c37) (a38:=?a38) (l38:=?l38) (c38:=?c38) (a39:=?a39) (l39:=?l39) (c39:=?c39) (a40:=?a40) (l40:=?l40) (c40:=?c40) (a41:=?a41) (l41:=?l41) (c41:=?c41) (a42:=?a42) (l42:=?l42) (c42:=?c42) (a43:=?a43) (l43:=?l43) (c43:=?c43) (a44:=?a44) (l44:=?l44) (c44:=?c44) (a45:=?a45) (l45:=?l45) (c45:=?c45) (a46:=?a46) (l46:=?l46) (c46:=?c46) (a47:=?a47) (l47:=?l47) (c47:=?c47) (a48:=?a48) (l48:=?l48) (c48:=?c48) (a49:=?a49) (l49:=?l49) (c49:=?c49) (a50:=?a50) (l50:=?l50) (c50:=?c50) (a51:=?a51) (l51:=?l51) (c51:=?c51) (a52:=?a52) (l52:=?l52) (c52:=?c52) (a53:=?a53) (l53:=?l53) (c53:=?c53) (a54:=?a54) (l54:=?l54) (c54:=?c54) (a55:=?a55) (l55:=?l55) (c55:=?c55) (a56:=?a56) (l56:=?l56) (c56:=?c56) (a57:=?a57) (l57:=?l57) (c57:=?c57) (a58:=?a58) (l58:=?l58) (c58:=?c58) (a59:=?a59) (l59:=?l59) (c59:=?c59) (a60:=?a60) (l60:=?l60) (c60:=?c60) (g_KEPT_WORDS:=?g_KEPT_WORDS) (gl_KEPT_WORDS:=?gl_KEPT_WORDS) (g_MOST_LETTERS:=?g_MOST_LETTERS) (g_LETTERS:=?g_LETTERS) (g_MOST_FIGURES:=?g_MOST_FIGURES) (g_FIGURES:=?g_FIGURES) (g_MOST_NODES:=?g_MOST_NODES) (g_MOST_WEIGHT:=?g_MOST_WEIGHT) (g_MOST_UNKNOWNS:=?g_MOST_UNKNOWNS) (g_MOST_BRACKETS:=?g_MOST_BRACKETS) (g_POWERS:=?g_POWERS) (gl_POWERS:=?gl_POWERS) (g_SUMS:=?g_SUMS) (gl_SUMS:=?gl_SUMS) (gs_SUMS:=?gs_SUMS) (g_MOST_WORDS:=?g_MOST_WORDS) (g_ROW_WORDS:=?g_ROW_WORDS) (gl_ROW_WORDS:=?gl_ROW_WORDS) (gs_ROW_WORDS:=?gs_ROW_WORDS) (g_MOST_ROWS:=?g_MOST_ROWS) (ZA:=?ZA) (ZJ:=?ZJ) (VJ:=?VJ) (ZY:=?ZY) (YY:=?YY) (Zv:=?Zv) (YF:=?YF) (WJ:=?WJ) (Z6:=?Z6) (Ws:=?Ws) (VW:=?VW) (WR:=?WR) (Yu:=?Yu) (n_NoNumber:=?n_NoNumber) (x_NoNumber:=?x_NoNumber) (n_NoRow:=?n_NoRow) (x_NoRow:=?x_NoRow) (n_TooMuch:=?n_TooMuch) (x_TooMuch:=?x_TooMuch) (n_BoxError:=?n_BoxError) (x_BoxError:=?x_BoxError) (n_NoName:=?n_NoName) (s_TooMuch_BoxError:=?s_TooMuch_BoxError) (iB_TooMuch_NoName:=?iB_TooMuch_NoName) (iB_TooMuch_NoRow:=?iB_TooMuch_NoRow) (iB_TooMuch_TooMuch:=?iB_TooMuch_TooMuch) (nxga_TooMuch:=?nxga_TooMuch) (nxhk_TooMuch:=?nxhk_TooMuch) (nxha_TooMuch:=?nxha_TooMuch) (nxhm_TooMuch:=?nxhm_TooMuch) (nxhb_TooMuch:=?nxhb_TooMuch) (nxhn:=?nxhn) (nxht:=?nxht) (Vw:=?Vw) (VN:=?VN) (VL:=?VL)
  (case OQ|NN|NW|NH|Ma|NS|PM|Oe|Mq|Mb|NQ|Nv|NR|O0|O2|O5|MG|PL|P8|PX|NV|Nh|PK|Nz|Oo|Nb|NF|Oq|Mi|Mz|NL|Ot|g_KEPT_WORDS|gl_KEPT_WORDS|g_MOST_LETTERS|g_LETTERS|g_MOST_FIGURES|g_FIGURES|g_MOST_NODES|g_MOST_WEIGHT|g_MOST_UNKNOWNS|g_MOST_BRACKETS|g_POWERS|gl_POWERS|g_SUMS|gl_SUMS=>k_is)
  (case gs_SUMS=>first|rfl|decide)
  (case g_MOST_WORDS|g_ROW_WORDS|gl_ROW_WORDS=>k_is)
  (case gs_ROW_WORDS=>first|rfl|decide)
  (case g_MOST_ROWS|ZA|ZJ|VJ|ZY|YY|Zv|YF|WJ|Z6|Ws|VW|WR|Yu|n_NoNumber=>k_is)
  (case x_NoNumber=>k_exc)
  (case n_NoRow=>k_is)
  (case x_NoRow=>k_exc)
  (case n_TooMuch=>k_is)
  (case x_TooMuch=>k_exc)
  (case n_BoxError=>k_is)
  (case x_BoxError=>k_exc)
  (case n_NoName=>k_is)
  (case s_TooMuch_BoxError=>kts_exm)
  (case iB_TooMuch_NoName|iB_TooMuch_NoRow|iB_TooMuch_TooMuch=>kit_is)
  (case nxga_TooMuch|nxhk_TooMuch|nxha_TooMuch|nxhm_TooMuch|nxhb_TooMuch|nxhn|nxht=>k_is)
  (case a2|a3|a9|a10|a11|a12|a13|a14|a15|a16|a17|a18|a19|a20|a21|a22|a23|a24|a25|a26|a27|a28|a29|a30|a31|a32|a33|a35|a47|a49|a50|a52|a55|a56|a57|a58|a59|a60=>delta Mine.nsA;k_is)
  (case a0|a1|a4|a5|a6|a7|a8|a34|a36|a37|a38|a39|a40|a41|a42|a43|a44|a45|a46|a48|a51|a53|a54=>delta Mine.fdA;k_is)
  (case l0|l1|l2|l3|l4|l5|l6|l7|l8|l9|l10|l11|l12|l13|l14|l15|l16|l17|l18|l19|l20|l21|l22|l23|l24|l25|l26|l27|l28|l29|l30|l31|l32|l33|l34|l35|l36|l37|l38|l39|l40|l41|l42|l43|l44|l45|l46|l47|l48|l49|l50|l51|l52|l53|l54|l55|l56|l57|l58|l59|l60=>delta Mine.lkA;k_is)
  (case c0|c1|c2|c3|c4|c5|c6|c7|c8|c9|c10|c11|c12|c13|c14|c15|c16|c17|c18|c19|c20|c21|c22|c23|c24|c25|c26|c27|c28|c29|c30|c31|c32|c33|c34|c35|c36|c37|c38|c39|c40|c41|c42|c43|c44|c45|c46|c47|c48|c49|c50|c51|c52|c53|c54|c55|c56|c57|c58|c59|c60=>delta Mine.cdA;k_is)
  (case Vw=>exact L3.Kr _ _ (by simp))
  (case VN=>exact L3.Kr _ _ (by simp))
  (case VL=>exact L3.Kr _ _ (by simp))
