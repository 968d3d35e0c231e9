import PyProof.Rows.All
import Wide.All
import OpenK.AllK
import Wide.FinOn
import Lean
import PyProof.EqAt
import PyProof.EqKinds
import PyProof.TupleCall
import PySem.Challenge.RW_boxnarrow_k72_islands
theorem Vaa:type_of% @Nat.le_refl:=@Nat.le_refl
theorem Vab:type_of% @List.getElem?_eq_getElem:=@List.getElem?_eq_getElem
theorem Vac:type_of% @List.length_map:=@List.length_map
theorem Vad:type_of% @List.getElem?_eq_some_iff:=@List.getElem?_eq_some_iff
theorem Vae:type_of% @List.getElem?_map:=@List.getElem?_map
theorem Vaf:type_of% @List.mem_map:=@List.mem_map
theorem Vag:type_of% @List.size_toArray:=@List.size_toArray
theorem Vah:type_of% @Nat.ne_of_lt:=@Nat.ne_of_lt
theorem Vai:type_of% @List.mem_cons:=@List.mem_cons
theorem Vaj:type_of% @Nat.zero_le:=@Nat.zero_le
theorem Vak:type_of% @List.map_cons:=@List.map_cons
theorem Val:type_of% @List.lookup_cons:=@List.lookup_cons
theorem Vam:type_of% @List.mem_of_getElem?:=@List.mem_of_getElem?
theorem Van:type_of% @Bool.false_ne_true:=@Bool.false_ne_true
theorem Vao:type_of% @List.getElem?_append_left:=@List.getElem?_append_left
theorem Vap:type_of% @List.getD_eq_getElem?_getD:=@List.getD_eq_getElem?_getD
theorem Vaq:type_of% @List.length_append:=@List.length_append
theorem Var:type_of% @Nat.lt_of_lt_of_le:=@Nat.lt_of_lt_of_le
theorem Vas:type_of% @Int.toNat_natCast:=@Int.toNat_natCast
theorem Vat:type_of% @List.map_append:=@List.map_append
theorem Vau:type_of% @Nat.le_trans:=@Nat.le_trans
theorem Vav:type_of% @List.length_range:=@List.length_range
theorem Vaw:type_of% @List.map_map:=@List.map_map
theorem Vax:type_of% @List.getElem?_append_right:=@List.getElem?_append_right
theorem Vay:type_of% @Nat.lt_irrefl:=@Nat.lt_irrefl
theorem Vaz:type_of% @List.mem_append_right:=@List.mem_append_right
theorem VaA:type_of% @List.range_succ:=@List.range_succ
theorem VaB:type_of% @List.mem_cons_of_mem:=@List.mem_cons_of_mem
theorem VaC:type_of% @List.getElem_mem:=@List.getElem_mem
theorem VaD:type_of% @List.filter_cons:=@List.filter_cons
theorem VaE:type_of% @List.mem_range:=@List.mem_range
theorem VaF:type_of% @List.filter_append:=@List.filter_append
theorem VaG:type_of% @List.map_congr_left:=@List.map_congr_left
theorem VaH:type_of% @Option.map_eq_some_iff:=@Option.map_eq_some_iff
theorem VaI:type_of% @List.mem_filter:=@List.mem_filter
theorem VaJ:type_of% @Nat.le_of_lt:=@Nat.le_of_lt
theorem VaK:type_of% @List.length_take:=@List.length_take
theorem VaL:type_of% @List.take_of_length_le:=@List.take_of_length_le
theorem VaM:type_of% @List.getElem?_set_ne:=@List.getElem?_set_ne
theorem VaN:type_of% @List.append_nil:=@List.append_nil
theorem VaO:type_of% @Option.isSome_iff_exists:=@Option.isSome_iff_exists
theorem VaP:type_of% @List.find?_cons:=@List.find?_cons
theorem VaQ:type_of% @List.getElem?_eq_none_iff:=@List.getElem?_eq_none_iff
theorem VaR:type_of% @List.length_cons:=@List.length_cons
theorem VaS:type_of% @Nat.sub_self:=@Nat.sub_self
theorem VaT:type_of% @List.mem_singleton:=@List.mem_singleton
theorem VaU:type_of% @List.filter_nil:=@List.filter_nil
theorem VaV:type_of% @List.mem_cons_self:=@List.mem_cons_self
theorem VaW:type_of% @List.getElem?_set_self:=@List.getElem?_set_self
theorem VaX:type_of% @Bool.eq_iff_iff:=@Bool.eq_iff_iff
theorem VaY:type_of% @Int.le_refl:=@Int.le_refl
theorem VaZ:type_of% @List.mem_iff_getElem:=@List.mem_iff_getElem
theorem Va0:type_of% @List.getElem?_eq_none:=@List.getElem?_eq_none
theorem Va1:type_of% @List.length_filter_le:=@List.length_filter_le
theorem Va2:type_of% @List.mem_append:=@List.mem_append
theorem Va3:type_of% @List.not_mem_nil:=@List.not_mem_nil
theorem Va4:type_of% @Nat.le_succ:=@Nat.le_succ
set_option Elab.async false
set_option linter.all false
set_option maxRecDepth 100000
set_option genSizeOf false
set_option maxHeartbeats 40000000
namespace L2
open PySem PySem.Spec PyProof.Rows
def zcR (s:Stmt):Arguments:=match s with
 | .FunctionDef _ a _ _ _ _ _ _ _ _=>a
 | _=>{ posonlyargs:=[],args:=[],vararg:=none,kwonlyargs:=[],kw_defaults:=[],kwarg:=none,defaults:=[] }
def zck (s:Stmt):List Stmt:=match s with
 | .FunctionDef _ _ b _ _ _ _ _ _ _=>b
 | _=>[]
def zak (s:Stmt):Scope:=match s with
 | .FunctionDef _ _ _ _ _ _ sc _ _ _=>sc
 | _=>{ kind:=.function,names:=[],isGenerator:=false,isCoroutine:=false }
end L2
namespace L3
open PySem PySem.W PyProof.Rows PySem.Calls
def goT (tb:String→Option Builtin)(p:Program)(w:World)(n₀:Nat)(ann:Option Value):Nat→SharedT→Thread→Option SharedT
 | 0,_,_=>none
 | k+1,s,t=>bif through t then some s else bif stepOk n₀ ann t then (stepT (denote tb) p w s t).bind (λr=>goT tb p w n₀ ann k r.1 r.2) else none
theorem zgW {tb:String→Option Builtin}{p:Program}{w:World}{n₀:Nat}{ann:Option Value}:∀ {n:Nat} {s s':SharedT} {t:Thread},goT tb p w n₀ ann n s t=some s'→topRun tb p w n₀ ann n s.abs t=some s'.abs
 | 0,_,_,_,q=>nomatch q
 | n+1,s,s',t,q=>by
  unfold goT at q
  unfold topRun
  cases c1:through t
  ·rw[c1] at q
   cases c2:stepOk n₀ ann t
   ·rw[c2] at q
    exact nomatch q
   ·rw[c2] at q
    obtain⟨⟨s2,t2⟩,c3,q⟩:=Option.bind_eq_some_iff.mp q
    rw[stepT_spec c3]
    exact zgW q
  ·rw[c1] at q
   cases q
   rfl
def zgA (os:Array Obj):Nat→Nat→Nat→BT
 | 0,_,_=>.nil
 | f+1,a,b=>match os[b]? with
  | some o=>.node o (zgA os f (2*a) (a+b)) (zgA os f (2*a) (2*a+b))
  | none=>.nil
noncomputable def bootT (P:Params):BT:=zgA (boot_heap P).objs 6 1 0
noncomputable abbrev zgE (w:World)(os:OsState):SharedT:=⟨bootT w.params,11,(boot_heap w.params).life,Array.mk [],boot_drawn,boot_toks,os⟩
def zfr (s:SharedT)(a:Addr):Option Obj:=if a<s.n then (match s.tree.get a with | some o=>alive o | none=>s.abs.heap.get? a) else none
theorem zly (s:SharedT)(a:Addr):s.abs.heap.get? a=zfr s a:=by
 unfold zfr
 split
 ·rename_i h
  cases e:s.tree.get a with
  | none=>rfl
  | some o=>exact abs_get h e
 ·rename_i h
  exact abs_get_none h
theorem zi7 (l:List Addr)(s:SharedT):l.map s.abs.heap.get?=l.map (zfr s):=VaG λa _=>zly s a
noncomputable abbrev ziC (p q:Program)(loose:List Str)(Xt:Shared→Bool){α:Type}(YT:SharedT→α)(g0:Bool)(w:World)(s:SharedT):=
 ((staticsOk (importedModules p.main.body) (boot_heap w.params) s.abs.heap&&namesBound p s.abs.heap&&gensDone s.abs&&laidKept (boot_heap w.params) s.abs.heap),openSeen q loose (importedModules p.main.body) Xt g0 s.abs,YT s)
theorem zlx {p q:Program}{loose:List Str}{Xt:Shared→Bool}{α:Type}{Yf:Shared→α}{YT:SharedT→α}{Ya:World→α}{N:Nat}{g0:Bool}{ann:Option Value}(hY:∀s:SharedT,Yf s.abs=YT s)(e:opening p=plainProg p.main.scope.names)(hN:Nat.ble 600 N=true)(f:∀s,fenceModules? p s=some s)
  (size:∀w:World,((boot_heap w.params).isNs mainGlobals&&(Array.mk []:Array GenState).size==0,(boot_heap w.params).objs.size,(boot_heap w.params).nsMap mainGlobals "__annotations__")=(true,11,ann))
  (run:∀w:World,(λos=>(goT treeTable p w 11 ann N (zgE w os) (topStub p)).map λs=>ziC p q loose Xt YT g0 w s)=λ_=>some (true,openGood q loose,Ya w)):LeftO p q loose Xt Yf Ya N g0:=λw=>by
 obtain⟨⟨h,gs,d,k,os⟩,e1,e'⟩:=VaH.mp (boot_open e hN f w)
 obtain⟨rfl,rfl,rfl,rfl⟩:h=boot_heap w.params∧gs=Array.mk []∧d=boot_drawn∧k=boot_toks:=by simpa using e'
 obtain⟨y1,y2,y3⟩:_∧_∧_:=by simpa only [Prod.mk.injEq] using size w
 obtain⟨s',r1,r2⟩:=VaH.mp (congrFun (run w) os)
 obtain⟨l1,l2,l3⟩:_∧_∧_:=by simpa only [Prod.mk.injEq] using r2
 have r:topRun treeTable p w 11 ann N ⟨boot_heap w.params,Array.mk [],boot_drawn,boot_toks,os⟩ (topStub p)=some s'.abs:=by
  have z:=zgW r1
  exact z
 have t:topFrom treeTable p w N ⟨boot_heap w.params,Array.mk [],boot_drawn,boot_toks,os⟩=some s'.abs:=by
  unfold topFrom
  dsimp only
  rw[y1,y2,y3,r]
  show (match staticsOk (importedModules p.main.body) (boot_heap w.params) s'.abs.heap&&namesBound p s'.abs.heap&&gensDone s'.abs&&laidKept (boot_heap w.params) s'.abs.heap with | true=>_ | false=>_)=_
  rw[l1]
 unfold openEnds
 rw[e1]
 show Option.map _ (topFrom treeTable p w N _)=_
 rw[t]
 exact congrArg some (Prod.ext l2 ((hY s').trans l3))
end L3
namespace Mine
open PySem PySem.Spec PyProof.Rows L2 L3
def top (i:Nat):Stmt:=PySem.Challenge.pw_boxnarrow_k72_islands.main.body.getD i (.Pass ⟨0,0,0,0⟩)
def vw:Program:={ PySem.Challenge.pw_boxnarrow_k72_islands with main:={ PySem.Challenge.pw_boxnarrow_k72_islands.main with body:=[top 1,top 2,top 4,top 5,top 6,top 7,top 8,top 10,top 11,top 12,top 13,top 14,top 15,top 16,top 17,top 18,top 19] } }
noncomputable abbrev de (P:Params)(s:Str)(t:Tok)(v:Value):DictEntry:=⟨PySem.PyData.keyHash P s,.str s t,v⟩
abbrev co (n q:Str)(a b c d:Tok)(i k:Int)(r s:Addr)(y z:Value)(t:Addr)(j:Int):Obj:=⟨.type "code",none,.fields #[.str n a,.str q b,.str "/claim/cut.py" c,.int i 0,.int k 0,.int 0 0,.int 0 0,.int 3 0,.ref r,.bool Bool.true,.int 181 0,.ref s,.none,y,z,.ref t,.int j 0,.int i 0,.str "/claim/cut.py" d],#[]⟩
abbrev fo (n q:Str)(st:Stmt)(m:Value)(c:Addr):Obj:=⟨.type "function",none,.func (PySem.W.fnOf n q (zcR st) (zck st) (zak st) .none .none .none m none (.ref c) .none),#[]⟩
noncomputable def kp:Params→PySem.W.Frag:=λP=>
 (nat_lit 3,(.mk (.type "dict") none (.dict #[(de P "__name__" 165 (.str "law_boxnarrow_k72_islands" 246)),(de P "__doc__" 166 .none),(de P "__package__" 167 .none),(de P "__loader__" 168 (.builtin "__main__.__loader__#opaque")),(de P "__spec__" 169 .none),(de P "__annotations__" 170 (.ref 6)),(de P "__builtins__" 171 (.ref 4)),(de P "__file__" 173 (.str "/claim/cut.py" 172)),(de P "__cached__" 174 .none),(de P "common" 198 (.ref 21)),(de P "hull" 206 (.ref 28)),(de P "touch" 214 (.ref 33)),(de P "touches_one" 220 (.ref 38)),(de P "groups_of" 233 (.ref 45)),(de P "hull_of" 239 (.ref 50)),(de P "islands" 245 (.ref 55)),(de P "_law_cell_at" 255 (.ref 62)),(de P "_law_mix" 263 (.ref 69)),(de P "_law_whole" 270 (.ref 76)),(de P "_law_alike" 276 (.ref 81)),(de P "_law_box" 288 (.ref 88)),(de P "_law_touch" 297 (.ref 95)),(de P "_law_marks" 303 (.ref 100)),(de P "_law_due" 309 (.ref 105)),(de P "_law_far" 315 (.ref 110)),(de P "law" 321 (.ref 115))] 26) #[]))::
 (nat_lit 6,(.mk (.type "dict") none (.dict #[] 0) #[]))::
 (nat_lit 20,co "common" "common" 189 190 191 197 2 2 15 16 (.ref 17) (.ref 18) 19 196)::
 (nat_lit 21,fo "common" "common" (top 1) (.str "boxnarrow.spans" 187) 20)::
 (nat_lit 27,co "hull" "hull" 199 200 201 205 8 2 22 23 (.ref 24) (.ref 25) 26 204)::
 (nat_lit 28,fo "hull" "hull" (top 2) (.str "boxnarrow.spans" 187) 27)::
 (nat_lit 32,co "touch" "touch" 209 210 211 213 11 2 29 30 .none .none 31 212)::
 (nat_lit 33,fo "touch" "touch" (top 4) (.str "boxnarrow.islands" 207) 32)::
 (nat_lit 37,co "touches_one" "touches_one" 215 216 217 219 13 3 34 35 .none .none 36 218)::
 (nat_lit 38,fo "touches_one" "touches_one" (top 5) (.str "boxnarrow.islands" 207) 37)::
 (nat_lit 44,co "groups_of" "groups_of" 221 222 223 232 15 1 39 40 (.ref 41) (.ref 42) 43 231)::
 (nat_lit 45,fo "groups_of" "groups_of" (top 6) (.str "boxnarrow.islands" 207) 44)::
 (nat_lit 49,co "hull_of" "hull_of" 234 235 236 238 27 1 46 47 .none .none 48 237)::
 (nat_lit 50,fo "hull_of" "hull_of" (top 7) (.str "boxnarrow.islands" 207) 49)::
 (nat_lit 54,co "islands" "islands" 240 241 242 244 32 1 51 52 .none .none 53 243)::
 (nat_lit 55,fo "islands" "islands" (top 8) (.str "boxnarrow.islands" 207) 54)::
 (nat_lit 61,co "_law_cell_at" "_law_cell_at" 248 249 250 254 35 2 56 57 (.ref 58) (.ref 59) 60 253)::
 (nat_lit 62,fo "_law_cell_at" "_law_cell_at" (top 10) (.str "law_boxnarrow_k72_islands" 246) 61)::
 (nat_lit 68,co "_law_mix" "_law_mix" 256 257 258 262 39 2 63 64 (.ref 65) (.ref 66) 67 261)::
 (nat_lit 69,fo "_law_mix" "_law_mix" (top 11) (.str "law_boxnarrow_k72_islands" 246) 68)::
 (nat_lit 75,co "_law_whole" "_law_whole" 264 265 266 269 41 1 70 71 (.ref 72) (.ref 73) 74 268)::
 (nat_lit 76,fo "_law_whole" "_law_whole" (top 12) (.str "law_boxnarrow_k72_islands" 246) 75)::
 (nat_lit 80,co "_law_alike" "_law_alike" 271 272 273 275 43 2 77 78 .none .none 79 274)::
 (nat_lit 81,fo "_law_alike" "_law_alike" (top 13) (.str "law_boxnarrow_k72_islands" 246) 80)::
 (nat_lit 87,co "_law_box" "_law_box" 277 278 279 287 53 3 82 83 (.ref 84) (.ref 85) 86 286)::
 (nat_lit 88,fo "_law_box" "_law_box" (top 14) (.str "law_boxnarrow_k72_islands" 246) 87)::
 (nat_lit 94,co "_law_touch" "_law_touch" 289 290 291 296 59 2 89 90 (.ref 91) (.ref 92) 93 295)::
 (nat_lit 95,fo "_law_touch" "_law_touch" (top 15) (.str "law_boxnarrow_k72_islands" 246) 94)::
 (nat_lit 99,co "_law_marks" "_law_marks" 298 299 300 302 64 1 96 97 .none .none 98 301)::
 (nat_lit 100,fo "_law_marks" "_law_marks" (top 16) (.str "law_boxnarrow_k72_islands" 246) 99)::
 (nat_lit 104,co "_law_due" "_law_due" 304 305 306 308 71 2 101 102 .none .none 103 307)::
 (nat_lit 105,fo "_law_due" "_law_due" (top 17) (.str "law_boxnarrow_k72_islands" 246) 104)::
 (nat_lit 109,co "_law_far" "_law_far" 310 311 312 314 83 3 106 107 .none .none 108 313)::
 (nat_lit 110,fo "_law_far" "_law_far" (top 18) (.str "law_boxnarrow_k72_islands" 246) 109)::
 (nat_lit 114,co "law" "law" 316 317 318 320 85 1 111 112 .none .none 113 319)::
 (nat_lit 115,fo "law" "law" (top 19) (.str "law_boxnarrow_k72_islands" 246) 114)::[]
def ks:List Addr:=nat_lit 3::nat_lit 6::nat_lit 20::nat_lit 21::nat_lit 27::nat_lit 28::nat_lit 32::nat_lit 33::nat_lit 37::nat_lit 38::nat_lit 44::nat_lit 45::nat_lit 49::nat_lit 50::nat_lit 54::nat_lit 55::nat_lit 61::nat_lit 62::nat_lit 68::nat_lit 69::nat_lit 75::nat_lit 76::nat_lit 80::nat_lit 81::nat_lit 87::nat_lit 88::nat_lit 94::nat_lit 95::nat_lit 99::nat_lit 100::nat_lit 104::nat_lit 105::nat_lit 109::nat_lit 110::nat_lit 114::nat_lit 115::[]
theorem zdb (P:Params):ks=(kp P).map (·.1):=by kernel_rfl
noncomputable abbrev hk:PySem.W.Hook:=PySem.W.kHook kp ks zdb
abbrev xt (s:Shared):Bool:=PySem.W.xlAt vw [] s&&PySem.W.recOk (PySem.W.RowW.records (PySem.W.OpenRow.toRowW (PySem.W.OpenLaw.row PySem.Challenge.rw_boxnarrow_k72_islands))) s
theorem zgi:PySem.W.opening PySem.Challenge.pw_boxnarrow_k72_islands=PySem.W.plainProg PySem.Challenge.pw_boxnarrow_k72_islands.main.scope.names:=by kernel_rfl
theorem fe_eq (s:Shared):PySem.fenceModules? PySem.Challenge.pw_boxnarrow_k72_islands s=some s:=by kernel_rfl
theorem si_eq (w:World):((PySem.W.boot_heap w.params).isNs mainGlobals&&(Array.mk []:Array GenState).size==0,(PySem.W.boot_heap w.params).objs.size,(PySem.W.boot_heap w.params).nsMap mainGlobals "__annotations__")=(true,11,some (.ref 6)):=by kernel_rfl
theorem zjF (w:World):(λos=>(L3.goT PySem.treeTable PySem.Challenge.pw_boxnarrow_k72_islands w 11 (some (.ref 6)) 1150 (L3.zgE w os) (PySem.W.topStub PySem.Challenge.pw_boxnarrow_k72_islands)).map λs=>L3.ziC PySem.Challenge.pw_boxnarrow_k72_islands vw [] xt (λs=>ks.map (L3.zfr s)) true w s)=λ_=>some (true,PySem.W.openGood vw [],hk.val w):=by kernel_rfl
theorem left:PySem.W.LeftO PySem.Challenge.pw_boxnarrow_k72_islands vw [] xt hk.obs hk.val 1150:=L3.zlx (L3.zi7 ks) zgi (by decide) fe_eq si_eq zjF
end Mine
set_option Elab.async false
set_option linter.all false
set_option maxRecDepth 100000
namespace L2
open PySem PySem.Spec PyProof.Rows
abbrev Key:=Sum Int Str
def zhX:Key→Value→Bool
 | .inl k,v=>Value.isInt k v
 | .inr x,v=>Value.isStrOf x v
def keyH (w:World):Key→Int
 | .inl k=>hashInt k
 | .inr x=>hashStr w x
theorem zcb:∀ {k:Key} {v:Value},zhX k v=true→(∃i t,k=Sum.inl i∧v=Value.int i t)∨(∃x t,k=Sum.inr x∧v=Value.str x t)
 | .inl i,v,h=>by
  obtain⟨t,e⟩:=Value.isInt_shape (k:=i) (v:=v) h
  exact .inl ⟨i,t,rfl,e⟩
 | .inr x,v,h=>by
  obtain⟨t,e⟩:=Value.isStrOf_shape (x:=x) (v:=v) h
  exact .inr ⟨x,t,rfl,e⟩
theorem zjK (a b:Int):decide ((Sum.inl a:Key)=Sum.inl b)=(a==b):=by
 by_cases e:a=b
 ·subst e; simp
 ·have h:¬ (Sum.inl a:Key)=Sum.inl b:=λq=>e (Sum.inl.inj q)
  rw[decide_eq_false h]
  exact(beq_eq_false_iff_ne.mpr e).symm
theorem zju (a b:Str):decide ((Sum.inr a:Key)=Sum.inr b)=decide (a=b):=by
 by_cases e:a=b
 ·subst e; simp
 ·have h:¬ (Sum.inr a:Key)=Sum.inr b:=λq=>e (Sum.inr.inj q)
  rw[decide_eq_false h,decide_eq_false e]
theorem zk0 (a:Int)(b:Str):decide ((Sum.inl a:Key)=Sum.inr b)=false:=decide_eq_false (λq=>nomatch q)
theorem zjo (a:Str)(b:Int):decide ((Sum.inr a:Key)=Sum.inl b)=false:=decide_eq_false (λq=>nomatch q)
def ziz (prog:Program)(w:World):PySem.KeyKind prog w Key where
 is:=zhX
 hash:=keyH w
 inj:=λv a b ha hb=>by
  rcases zcb ha with ⟨i,t,rfl,rfl⟩ | ⟨x,t,rfl,rfl⟩
  ·rcases zcb hb with ⟨j,u,rfl,e⟩ | ⟨y,u,rfl,e⟩
   ·injection e with e1 _; rw[e1]
   ·exact nomatch e
  ·rcases zcb hb with ⟨j,u,rfl,e⟩ | ⟨y,u,rfl,e⟩
   ·exact nomatch e
   ·injection e with e1 _; rw[e1]
 byValue:=λk v h=>by
  rcases zcb h with ⟨i,t,rfl,rfl⟩ | ⟨x,t,rfl,rfl⟩ <;> rfl
 pyHash:=λhv h=>by
  rcases zcb hv with ⟨i,t,rfl,rfl⟩ | ⟨x,t,rfl,rfl⟩
  ·exact wpAny_pyHash_int h
  ·exact wpAny_pyHash_str h
 eqBool:=λhu hv h=>by
  rcases zcb hu with ⟨i,t,rfl,rfl⟩ | ⟨x,t,rfl,rfl⟩
  ·rcases zcb hv with ⟨j,u,rfl,rfl⟩ | ⟨y,u,rfl,rfl⟩
   ·rw[zjK] at h; exact wpAny_eqBool_int h
   ·rw[zk0] at h; exact SeqAt.EqAt.int_str i t y u _ _ _ _ h
  ·rcases zcb hv with ⟨j,u,rfl,rfl⟩ | ⟨y,u,rfl,rfl⟩
   ·rw[zjo] at h; exact SeqAt.EqAt.str_int x t j u _ _ _ _ h
   ·rw[zju] at h; exact wpAny_eqBool_str h
 «strs»:=λk x t v h=>by
  rcases zcb h with ⟨i,u,rfl,e⟩ | ⟨y,u,rfl,e⟩
  ·exact nomatch e
  ·injection e with e1 _
   subst e1
   cases v <;> rfl
end L2
namespace L2
open PySem PySem.Spec PyProof.Rows
inductive V where
 | non | bl (b:Bool) | int (i:Int) | str (x:Str) | byt (b:Array UInt8) | flt (b:UInt64) | ref (a:Addr) | ty (n:String)
 deriving DecidableEq
def zae:V→Value→Prop
 | .non,u=>u=Value.none
 | .bl b,u=>u=Value.bool b
 | .int i,u=>∃t,u=Value.int i t
 | .str x,u=>∃t,u=Value.str x t
 | .byt b,u=>∃t,u=Value.bytes b t
 | .flt b,u=>∃t,u=Value.float b t
 | .ref a,u=>u=Value.ref a
 | .ty n,u=>u=Value.type n
abbrev zaf:List V→List Value→Prop:=Paired zae
theorem zaf.length {xs:List V}{us:List Value}(r:zaf xs us):xs.length=us.length:=Paired.length r
theorem zaf.get:∀ {xs:List V} {us:List Value} {i:Nat} {x:V},zaf xs us→xs[i]?=some x→∃u,us[i]?=some u∧zae x u
 | _,_,_,_,.nil,e=>by simp at e
 | _,_,0,_,.cons r _,e=>by simp at e; subst e; exact⟨_,rfl,r⟩
 | _,_,i+1,x,.cons _ t,e=>by
  obtain⟨u,h1,h2⟩:=zaf.get (i:=i) (x:=x) t (by simpa using e)
  exact⟨u,by simpa using h1,h2⟩
theorem zaf.set {x:V}{u:Value}(r:zae x u):∀ {xs:List V} {us:List Value} (i:Nat),zaf xs us→zaf (xs.set i x) (us.set i u)
 | _,_,_,.nil=>.nil
 | _,_,0,.cons _ t=>.cons r t
 | _,_,i+1,.cons q t=>.cons q (zaf.set r i t)
theorem zaf.append:∀ {xs ys:List V} {us ws:List Value},zaf xs us→zaf ys ws→zaf (xs++ys) (us++ws)
 | _,_,_,_,.nil,s=>s
 | _,_,_,_,.cons r t,s=>.cons r (zaf.append t s)
theorem zaf.take:∀ {xs:List V} {us:List Value} (n:Nat),zaf xs us→zaf (xs.take n) (us.take n)
 | _,_,0,_=>.nil
 | _,_,_+1,.nil=>.nil
 | _,_,n+1,.cons r t=>.cons r (zaf.take n t)
theorem zaf.drop:∀ {xs:List V} {us:List Value} (n:Nat),zaf xs us→zaf (xs.drop n) (us.drop n)
 | _,_,0,r=>r
 | _,_,_+1,.nil=>.nil
 | _,_,n+1,.cons _ t=>zaf.drop n t
def zcn:Option V→Option Value→Prop
 | some v,some u=>zae v u
 | none,none=>True
 | _,_=>False
def KV {κ:Type}:List (κ×V)→List (κ×Value)→Prop:=Paired λ(p:κ×V) (q:κ×Value)=>p.1=q.1∧zae p.2 q.2
def kV:Key→V
 | .inl i=>.int i
 | .inr x=>.str x
inductive HO where
  | lst (xs:List V)
  | tup (xs:List V)
  | dK (kvs:List (Key×V)) | dT (kvs:List (List Key×V))
  | set (S:Int→Bool) (n:Nat)
  | ins (C dx:Addr) (fs:List (Str×V))
  | own (x:Addr)
  | xd (fs:List (Str×V))
  | met (f x:Addr)
  | rng (lo hi:Int)
  | frz (o:Obj) (u:HO)
  | tbl (ps:Array Value)
  | ext (φ:Heap→Prop)
abbrev Hp:=Addr→Option HO
def upd (H:Hp)(a:Addr)(o:HO):Hp:=λb=>if b=a then some o else H b
theorem zb7 {H:Hp}{a:Addr}{o:HO}:upd H a o a=some o:=by unfold upd; rw[if_pos rfl]
theorem zaK {H:Hp}{a b:Addr}{o:HO}(h:b≠a):upd H a o b=H b:=by unfold upd; rw[if_neg h]
theorem zf8 {H:Hp}{a b:Addr}{o u:HO}(h:H a=some o)(h':H b=some u)(d:o≠u):a≠b:=by
 intro e; subst e; rw[h] at h'; exact d (Option.some.inj h')
theorem zdr {H:Hp}{a b:Addr}{o:HO}(h:H a=some o)(h':H b=none):a≠b:=by
 intro e; subst e; rw[h] at h'; cases h'
section
variable (P:Program)(w:World)
def zaZ (H:Hp)(h:Heap)(a:Addr):HO→Prop
 | .lst xs=>xs.length≤sizeLine∧∃(its:List Value) (n:Nat),zaf xs its∧h.get? a=some { cls:=.type "list",data:=.seq its.toArray n }
 | .tup xs=>xs.length≤sizeLine∧∃its:List Value,zaf xs its∧IsTup h a its.toArray
 | .dK kvs=>kvs.length≤sizeLine∧(a==sysModules)=false∧∃vs,KV kvs vs∧h.DictOf (ziz P w) a vs
 | .dT kvs=>kvs.length≤sizeLine∧(a==sysModules)=false∧∃xs:List (List Key×Addr×Value),
   Paired (λ(p:List Key×V) (q:List Key×Addr×Value)=>p.1=q.1∧H q.2.1=some (.tup (p.1.map kV))∧zae p.2 q.2.2) kvs xs∧
   ∃o es ep,h.get? a=some o∧o.ExactDict∧o.data=.dict es ep∧es.toList=xs.map (entryOfKey (tupleKind (ziz P w)))∧(xs.map (·.1)).Nodup
 | .set S n=>h.SetOf (intKind P w) a S n
 | .ins C dx fs=>H dx=some (.own a)∧fs.length≤1000∧dx≠a∧h.get? a=some (PySem.W.instObj C dx)∧
   ∃mA,h.Ns1 dx mA∧(∀f,zcn (fs.lookup f) (mA f))∧PySem.Within mA (fs.map (·.1))
 | .own _=>∃o,h.get? a=some o
 | .xd fs=>∃mA,h.Ns1 a mA∧∀f,zcn (fs.lookup f) (mA f)
 | .rng lo hi=>∃t u v,h.get? a=some { cls:=.type "range",data:=.fields #[.int lo t,.int hi u,.int 1 v] }
 | .frz o u=>h.get? a=some o∧zaZ H h a u
 | .tbl ps=>h.get? a=some { cls:=.none,data:=.fields ps }
 | .met f x=>h.get? a=some (PySem.W.methodObj (.ref f) (.ref x))
 | .ext φ=>φ h∧(∃o,h.get? a=some o)∧∀h1 h2:Heap,φ h1→(∀o,h1.get? a=some o→h2.get? a=some o)→φ h2
def HOk (H:Hp)(h:Heap):Prop:=∀a o,H a=some o→zaZ P w H h a o
end
section
variable {P:Program}{w:World}{H H':Hp}{h h':Heap}{a:Addr}{o:HO}
theorem zaZ.lt (x:zaZ P w H h a o):a<h.objs.size:=by
 cases o with
 | lst xs=>obtain⟨_,_,_,_,e⟩:=x; exact Heap.lt_size e
 | tup xs=>obtain⟨_,_,_,p⟩:=x; exact p.lt
 | dK kvs=>obtain⟨_,_,_,_,o,_,_,e,_⟩:=x; exact Heap.lt_size e
 | dT kvs=>obtain⟨_,_,_,_,o,_,_,e,_⟩:=x; exact Heap.lt_size e
 | set S n=>obtain⟨o,_,_,_,e,_⟩:=x; exact Heap.lt_size e
 | ins C dx fs=>obtain⟨_,_,_,e,_⟩:=x; exact Heap.lt_size e
 | own y=>obtain⟨_,e⟩:=x; exact Heap.lt_size e
 | xd fs=>obtain⟨_,⟨_,_,_,e,_⟩,_⟩:=x; exact Heap.lt_size e
 | rng lo hi=>obtain⟨_,_,_,e⟩:=x; exact Heap.lt_size e
 | frz ob u=>obtain⟨e,_⟩:=x; exact Heap.lt_size e
 | tbl ps=>exact Heap.lt_size (show h.get? a=some _ from x)
 | met f y=>exact Heap.lt_size (show h.get? a=some _ from x)
 | ext φ=>obtain⟨_,⟨_,e⟩,_⟩:=x; exact Heap.lt_size e
theorem Paired.mapP {α β:Type}{F G:α→β→Prop}:∀ {l₁:List α} {l₂:List β},Paired F l₁ l₂→(∀a b,F a b→G a b)→Paired G l₁ l₂
 | _,_,.nil,_=>.nil
 | _,_,.cons r t,f=>.cons (f _ _ r) (Paired.mapP t f)
theorem zaZ.stay (x:zaZ P w H h a o)(k:∀b u,(b=a∨H b=some (.own a))→h.get? b=some u→h'.get? b=some u)
  (ho:∀b,H b=some (.own a)→H' b=some (.own a))(ht:∀b xs,H b=some (.tup xs)→H' b=some (.tup xs)):zaZ P w H' h' a o:=by
 induction o with
 | lst xs=>obtain⟨z,its,n,r,e⟩:=x; exact⟨z,its,n,r,k _ _ (.inl rfl) e⟩
 | tup xs=>obtain⟨z,its,r,ob,e,c⟩:=x; exact⟨z,its,r,ob,k _ _ (.inl rfl) e,c⟩
 | dK kvs=>obtain⟨z,y,vs,r,ob,es,ep,e,c⟩:=x; exact⟨z,y,vs,r,ob,es,ep,k _ _ (.inl rfl) e,c⟩
 | dT kvs=>
  obtain⟨z,y,xs,r,ob,es,ep,e,c⟩:=x
  exact⟨z,y,xs,Paired.mapP r λp q z=>⟨z.1,ht _ _ z.2.1,z.2.2⟩,ob,es,ep,k _ _ (.inl rfl) e,c⟩
 | set S n=>obtain⟨ob,es,ep,t,e,c⟩:=x; exact⟨ob,es,ep,t,k _ _ (.inl rfl) e,c⟩
 | ins C dx fs=>
  obtain⟨d,z,ne,e,mA,⟨od,es,ep,e2,c⟩,r⟩:=x
  exact⟨ho _ d,z,ne,k _ _ (.inl rfl) e,mA,⟨od,es,ep,k _ _ (.inr d) e2,c⟩,r⟩
 | own y=>obtain⟨ob,e⟩:=x; exact⟨ob,k _ _ (.inl rfl) e⟩
 | xd fs=>obtain⟨mA,⟨od,es,ep,e,c⟩,r⟩:=x; exact⟨mA,⟨od,es,ep,k _ _ (.inl rfl) e,c⟩,r⟩
 | rng lo hi=>obtain⟨t,u,v,e⟩:=x; exact⟨t,u,v,k _ _ (.inl rfl) e⟩
 | frz ob u ih=>obtain⟨e,q⟩:=x; exact⟨k _ _ (.inl rfl) e,ih q⟩
 | tbl ps=>
  have e:h.get? a=some { cls:=.none,data:=.fields ps }:=x
  show h'.get? a=some { cls:=.none,data:=.fields ps }
  exact k a _ (.inl rfl) e
 | met f y=>
  have e:h.get? a=some (PySem.W.methodObj (.ref f) (.ref y)):=x
  show h'.get? a=some (PySem.W.methodObj (.ref f) (.ref y))
  exact k a _ (.inl rfl) e
 | ext φ=>obtain⟨p,⟨o,e⟩,st⟩:=x; exact⟨st _ _ p λo q=>k _ _ (.inl rfl) q,⟨o,k _ _ (.inl rfl) e⟩,st⟩
theorem HOk.lt (x:HOk P w H h)(e:H a=some o):a<h.objs.size:=(x a o e).lt
theorem HOk.fresh (x:HOk P w H h)(e:h.objs.size≤a):H a=none:=by
 cases q:H a with
 | none=>rfl
 | some u=>exact absurd (Var (x.lt q) e) (Vay _)
theorem HOk.kept (x:HOk P w H h)(k:∀b u,h.get? b=some u→h'.get? b=some u):HOk P w H h':=λa o e=>
 (x a o e).stay (λb u _ q=>k b u q) (λ_ q=>q) λ_ _ q=>q
theorem HOk.laid (x:HOk P w H h)(k:∀b u,h.get? b=some u→h'.get? b=some u)(hp:h.objs.size≤a)(new:zaZ P w (upd H a o) h' a o):HOk P w (upd H a o) h':=λb u e=>by
 have hn:=x.fresh hp
 by_cases hb:b=a
 ·subst hb; rw[zb7] at e; cases e; exact new
 ·rw[zaK hb] at e
  exact(x b u e).stay (λc v _ q=>k c v q) (λc q=>by rw[zaK (zdr q hn)]; exact q) λc xs q=>by rw[zaK (zdr q hn)]; exact q
end
def Rd (H:Hp)(a:Addr)(u:HO):Prop:=H a=some u∨∃o,H a=some (.frz o u)
theorem Rd.of {H:Hp}{a:Addr}{u:HO}(h:H a=some u):Rd H a u:=.inl h
theorem Rd.ok {P:Program}{w:World}{H:Hp}{h:Heap}{a:Addr}{u:HO}(r:Rd H a u)(x:HOk P w H h):zaZ P w H h a u:=by
 rcases r with r | ⟨o,r⟩
 ·exact x a u r
 ·obtain⟨_,q⟩:=x a _ r
  exact q
def Mut:Option HO→Prop
 | some (.lst _)=>True
 | some (.dK _)=>True
 | some (.dT _)=>True
 | some (.set _ _)=>True
 | some (.ins _ _ _)=>True
 | some (.ext _)=>True
 | _=>False
section
variable {P:Program}{w:World}{H:Hp}{h h':Heap}{x e:Addr}{o':HO}
theorem HOk.write (ok:HOk P w H h)(mu:Mut (H x))(he:e=x∨H e=some (.own x))(k:∀b u,b≠e→h.get? b=some u→h'.get? b=some u)(heo:∃u,h'.get? e=some u)
  (new:zaZ P w (upd H x o') h' x o'):HOk P w (upd H x o') h':=λb u q=>by
 have nown:∀c y,H c=some (.own y)→c≠x:=λc y r z=>by subst z; rw[r] at mu; exact mu
 have ntup:∀c xs,H c=some (.tup xs)→c≠x:=λc xs r z=>by subst z; rw[r] at mu; exact mu
 by_cases hb:b=x
 ·subst hb; rw[zb7] at q; cases q; exact new
 ·rw[zaK hb] at q
  by_cases hbe:b=e
  ·have q':H b=some (.own x):=by
    rcases he with z | z
    ·exact absurd (hbe.trans z) hb
    ·rw[hbe]; exact z
   rw[q] at q'; cases q'
   obtain⟨v,hv⟩:=heo
   exact⟨v,by rw[hbe]; exact hv⟩
  ·refine(ok b u q).stay (λc v hc r=>k c v ?_ r) (λc r=>by rw[zaK (nown c b r)]; exact r) λc xs r=>by rw[zaK (ntup c xs r)]; exact r
   rcases hc with rfl | hc
   ·exact hbe
   ·rintro rfl
    rcases he with z | z
    ·exact nown c b hc z
    ·rw[hc] at z; cases z; exact hb rfl
end
structure Un (fs ex:List Addr)(H H':Hp)(h h':Heap):Prop where
 keep:∀b o,h.get? b=some o→H b=none→b ∉ fs→b ∉ ex→h'.get? b=some o
 slot:∀b o,h.get? b=some o→H b=none→b∈fs→b ∉ ex→∃sl,h'.get? b=some { o with slots:=sl }
 free:∀b o,h.get? b=some o→H b=none→b ∉ ex→H' b=none
 there:∀b o,h.get? b=some o→b ∉ ex→∃o',h'.get? b=some o'
 tups:∀b xs,H b=some (.tup xs)→H' b=some (.tup xs)
 frzs:∀b o u,H b=some (.frz o u)→H' b=some (.frz o u)
 tbls:∀b ps,H b=some (.tbl ps)→∃more,H' b=some (.tbl (ps++more))
section
variable {fs fs' ex ex':List Addr}{H H1 H2:Hp}{h h1 h2 h':Heap}{a x e:Addr}{o:HO}
theorem Un.any (u:Un fs ex H H1 h h1){b:Addr}{ob:Obj}(q:h.get? b=some ob)(n:H b=none)(hx:b ∉ ex):∃sl,h1.get? b=some { ob with slots:=sl }:=by
 by_cases hb:b∈fs
 ·exact u.slot b ob q n hb hx
 ·exact⟨ob.slots,u.keep b ob q n hb hx⟩
theorem Un.trans (a:Un fs ex H H1 h h1)(b:Un fs ex H1 H2 h1 h2):Un fs ex H H2 h h2 where
 keep:=λc ob q n hc hx=>b.keep c ob (a.keep c ob q n hc hx) (a.free c ob q n hx) hc hx
 slot:=λc ob q n hc hx=>by
  obtain⟨sl,e1⟩:=a.slot c ob q n hc hx
  obtain⟨sl',e2⟩:=b.slot c _ e1 (a.free c ob q n hx) hc hx
  exact⟨sl',e2⟩
 free:=λc ob q n hx=>by
  obtain⟨o',e1⟩:=a.there c ob q hx
  exact b.free c o' e1 (a.free c ob q n hx) hx
 there:=λc ob q hx=>by
  obtain⟨o',e1⟩:=a.there c ob q hx
  exact b.there c o' e1 hx
 tups:=λc xs q=>b.tups c xs (a.tups c xs q)
 frzs:=λc ob xs q=>b.frzs c ob xs (a.frzs c ob xs q)
 tbls:=λc ps q=>by
  obtain⟨m1,e1⟩:=a.tbls c ps q
  obtain⟨m2,e2⟩:=b.tbls c _ e1
  exact⟨m1++m2,by rw[e2,Array.append_assoc]⟩
theorem Un.kept (k:∀b u,h.get? b=some u→h'.get? b=some u):Un fs ex H H h h':=
 ⟨λb ob q _ _ _=>k b ob q,λb ob q _ _ _=>⟨ob.slots,k b ob q⟩,λ_ _ _ n _=>n,λb ob q _=>⟨ob,k b ob q⟩,λ_ _ q=>q,λ_ _ _ q=>q,λ_ ps q=>⟨#[],by rw[q]; simp⟩⟩
theorem Un.refl:Un fs ex H H h h:=Un.kept λ_ _ q=>q
theorem Un.laid (k:∀b u,h.get? b=some u→h'.get? b=some u)(hp:h.objs.size≤a)(hn:H a=none):Un fs ex H (upd H a o) h h' where
 keep:=λb u q _ _ _=>k b u q
 slot:=λb u q _ _ _=>⟨u.slots,k b u q⟩
 free:=λb u q n _=>by rw[zaK (Vah (Var (Heap.lt_size q) hp))]; exact n
 there:=λb u q _=>⟨u,k b u q⟩
 tups:=λb xs q=>by rw[zaK (zdr q hn)]; exact q
 frzs:=λb u xs q=>by rw[zaK (zdr q hn)]; exact q
 tbls:=λb ps q=>⟨#[],by rw[zaK (zdr q hn),q]; simp⟩
theorem Un.write (mu:Mut (H x))(he:e=x∨H e=some (.own x))(k:∀b u,b≠e→h.get? b=some u→h'.get? b=some u)(heo:∃u,h'.get? e=some u):Un fs ex H (upd H x o) h h':=by
 have hx:∀b,H b=none→b≠x:=λb n z=>by subst z; rw[n] at mu; exact mu
 have hb:∀b,H b=none→b≠e:=λb n z=>by
  subst z
  rcases he with r | r
  ·exact hx b n r
  ·rw[n] at r; cases r
 have hm:∀b u,H b=some u→¬ Mut (some u)→b≠x:=λb u q nm z=>by subst z; rw[q] at mu; exact nm mu
 refine⟨λb u q n _ _=>k b u (hb b n) q,λb u q n _ _=>⟨u.slots,k b u (hb b n) q⟩,λb u q n _=>by rw[zaK (hx b n)]; exact n,λb u q _=>?_,
  λb xs q=>by rw[zaK (hm b _ q λz=>z)]; exact q,λb u xs q=>by rw[zaK (hm b _ q λz=>z)]; exact q,λb ps q=>⟨#[],by rw[zaK (hm b _ q λz=>z),q]; simp⟩⟩
 by_cases hbe:b=e
 ·subst hbe; exact heo
 ·exact⟨u,k b u hbe q⟩
theorem Un.mono (u:Un fs ex H H1 h h1)(hs:∀b∈fs,b∈fs')(hx:∀b∈ex,b∈ex'):Un fs' ex' H H1 h h1:=
 ⟨λb ob q n hb he=>u.keep b ob q n (λz=>hb (hs b z)) λz=>he (hx b z),λ_ _ q n _ he=>u.any q n λz=>he (hx _ z),λb ob q n he=>u.free b ob q n λz=>he (hx b z),λb ob q he=>u.there b ob q λz=>he (hx b z),u.tups,u.frzs,u.tbls⟩
end
def trk (h:Heap)(H:Hp):List Addr:=(List.range h.objs.size).filter λa=>(H a).isSome
def zcd (h:Heap)(H:Hp):Heap:=PySem.W.hideAll h (trk h H)
theorem zlv (h:Heap)(H:Hp):(zcd h H).objs.size=h.objs.size:=PySem.W.hideAll_size _ _
theorem zlW {h:Heap}{H:Hp}{b:Addr}{o:Obj}(e:h.get? b=some o)(n:H b=none):(zcd h H).get? b=some o:=
 PySem.W.hideAll_get _ e λhm=>by
  have q:(H b).isSome=true:=(VaI.mp hm).2
  rw[n] at q; simp at q
theorem zlf {h:Heap}{H:Hp}{b:Addr}{o:Obj}(e:(zcd h H).get? b=some o):h.get? b=some o∧H b=none:=by
 have e':h.get? b=some o:=PySem.W.of_hideAll (trk h H) e
 refine⟨e',?_⟩
 cases q:H b with
 | none=>rfl
 | some x=>
  have hm:b∈trk h H:=VaI.mpr ⟨VaE.mpr (Heap.lt_size e'),by simp[q]⟩
  have z:(zcd h H).get? b=none:=PySem.W.hideAll_none (trk h H) hm
  rw[z] at e; cases e
def zlK (g h:Heap)(L:Addr):List (Addr×Obj):=(List.range h.objs.size).filterMap λa=>if a=L∨(g.get? a).isSome=true then none else (h.get? a).map λo=>(a,o)
def zbj (g h:Heap)(L d:Addr):List (Addr×Obj):=(zlK g h L).filter λp=>decide (p.1≠d)
end L2
namespace L2
open PySem PySem.Spec PyProof.Rows
structure Mod (K:PySem.W.Frag)(mg:Str→Option Value)(base:Heap):Prop where
 kin:K.In base
 glob:base.Ns mainGlobals mg
 blt:∃mb,base.Ns builtinsNs mb∧∀x:Str,x≠"__name__"→mb x=bootBuiltins x
 nolimit:base.NoLimit
structure Cx where
 prog:Program
 w:World
 K:PySem.W.Frag
 mg:Str→Option Value
 base:Heap
 A:Around
 N:List Str
 s₀:Shared
 H₀:Hp
 env:Env
 outer:List Env
 stack:List Env
 ex:List Addr
 fn:Str→Bool
 calm:Bool
 pn:List (Addr×Obj)
 xe:Value→Shared→Prop
def frs (l:List Env):List Addr:=l.filterMap (·.frame)
abbrev Cx.fs (X:Cx):List Addr:=frs X.outer
def Vis (sc:Scope)(x:Str):Prop:=sc.names.lookup x=some .local∨sc.names.lookup x=some .cell∨sc.names.lookup x=some .free
def Loc (sc:Scope)(x:Str):Prop:=sc.names.lookup x=some .local∨sc.names.lookup x=some .cell
def Look (env:Env)(h:Heap)(m:Str→Option Value)(x:Str)(u:Value):Prop:=
 (env.kindOf x=some .local∧m x=some u)∨((env.kindOf x=some .cell∨env.kindOf x=some .free)∧∃c,env.cells.lookup x=some c∧h.IsCell c (some u))
structure Cx.Ok (X:Cx):Prop where
 mod:Mod X.K X.mg X.base
 kind:X.env.scope.kind=.function
 glob:X.env.globals=mainGlobals
 blt:X.env.builtins=builtinsNs
 above:X.s₀.heap.objs.size≤X.env.locals
 inj:∀x y c,X.env.cells.lookup x=some c→X.env.cells.lookup y=some c→x=y
 has:∀x,(X.env.kindOf x=some .cell∨X.env.kindOf x=some .free)→∃c,X.env.cells.lookup x=some c
 cab:∀x c,X.fn x=true→X.env.cells.lookup x=some c→X.s₀.heap.objs.size≤c
 hd:X.calm=true→X.A.handled=none
 frames:X.A.frames=some X.stack
 stk:X.stack=X.outer∨(X.stack=X.env::X.outer∧X.env.frame=some X.env.locals)
 exf:∀b∈X.ex,b≠X.env.locals∧∀x c,X.env.cells.lookup x=some c→c≠b
 bs:∀b o,X.base.get? b=some o→X.s₀.heap.get? b=some o∧X.H₀ b=none
 bsz:X.base.objs.size≤X.s₀.heap.objs.size
 noex:∀b o,X.base.get? b=some o→b ∉ X.ex
 exfs:∀b∈X.ex,b ∉ X.fs
 funs:X.s₀.heap.FunFrames X.base X.outer
 frf:∀b∈X.fs,X.H₀ b=none
structure Inv (X:Cx)(pins:List (Addr×Obj))(σ:List (Option V))(H:Hp)(s:Shared):Prop where
 ok:X.Ok
 os:s.os=X.s₀.os
 bare:AllBare s.gens
 base:Un X.fs X.ex X.H₀ H X.s₀.heap s.heap
 loc:∃m,s.heap.Ns X.env.locals m∧∀(i:Nat) (x:Str) (v:V),X.N[i]?=some x→σ[i]?=some (some v)→Vis X.env.scope x→∃u,zae v u∧Look X.env s.heap m x u
 cell:∀x c,X.env.cells.lookup x=some c→∃v,s.heap.IsCell c v
 free:H X.env.locals=none
 freeC:∀x c,X.env.cells.lookup x=some c→H c=none
 pin:∀p∈X.pn++pins,s.heap.get? p.1=some p.2∧H p.1=none∧p.1≠X.env.locals∧p.1 ∉ X.fs∧∀v,p.2.data≠.cell v
 hok:HOk X.prog X.w H s.heap
 len:σ.length=X.N.length
section
variable {X:Cx}{pins:List (Addr×Obj)}{σ:List (Option V)}{H H':Hp}{s:Shared}{h':Heap}
theorem Cx.Ok.nofr (ok:X.Ok){b:Addr}{o:Obj}(e:X.base.get? b=some o):b ∉ X.fs:=λhb=>by
 have:=(ok.funs.mem hb).1
 rw[e] at this; cases this
theorem Inv.bs (I:Inv X pins σ H s):∀b o,X.base.get? b=some o→s.heap.get? b=some o∧H b=none:=λb o e=>
 ⟨I.base.keep b o (I.ok.bs b o e).1 (I.ok.bs b o e).2 (I.ok.nofr e) (I.ok.noex b o e),I.base.free b o (I.ok.bs b o e).1 (I.ok.bs b o e).2 (I.ok.noex b o e)⟩
theorem Inv.bk (I:Inv X pins σ H s):∀b o,X.base.get? b=some o→s.heap.get? b=some o:=λb o e=>(I.bs b o e).1
theorem Inv.mod (I:Inv X pins σ H s):Mod X.K X.mg X.base:=I.ok.mod
theorem Inv.kIn (I:Inv X pins σ H s):X.K.In s.heap:=I.ok.mod.kin.keeps I.bk
theorem Inv.nolimit (I:Inv X pins σ H s):s.heap.NoLimit:=I.ok.mod.nolimit.keeps I.bk
theorem Inv.lt (I:Inv X pins σ H s):X.env.locals<s.heap.objs.size:=let ⟨_,hn,_⟩:=I.loc; hn.lt
theorem Inv.sz (I:Inv X pins σ H s):X.s₀.heap.objs.size≤s.heap.objs.size:=Vau I.ok.above (VaJ I.lt)
theorem Inv.nofs (I:Inv X pins σ H s){a:Addr}(h:s.heap.objs.size≤a):a ∉ X.fs:=λhb=>by
 obtain⟨_,o,ho,_⟩:=I.ok.funs.mem hb
 exact absurd (Var (Heap.lt_size ho) (Vau I.sz h)) (Vay _)
theorem Inv.cne (I:Inv X pins σ H s):∀x c,X.env.cells.lookup x=some c→c≠X.env.locals:=λx c e z=>by
 obtain⟨v,o,ho,hd⟩:=I.cell x c e
 obtain⟨m,⟨o',es,ep,ho',hd',_⟩,_⟩:=I.loc
 rw[z,ho'] at ho; cases ho; rw[hd'] at hd; cases hd
theorem Inv.funs (I:Inv X pins σ H s):s.heap.FunFrames X.base X.outer:=by
 have all:∀(l:List Env),(∀b∈frs l,b∈X.fs)→X.s₀.heap.FunFrames X.base l→s.heap.FunFrames X.base l:=by
  intro l
  induction l with
  | nil=>intro _ _; trivial
  | cons env r ih=>
   intro hs hl
   obtain⟨hk,⟨L,o,hf,hn,ho,hd⟩,hr⟩:=hl
   have hL:L∈X.fs:=hs L (by unfold frs; rw[List.filterMap_cons,hf]; exact VaV)
   obtain⟨sl,e⟩:=I.base.slot L o ho (I.ok.frf L hL) hL λz=>I.ok.exfs L z hL
   exact⟨hk,⟨L,_,hf,hn,e,hd⟩,ih (λb hb=>hs b (by unfold frs; rw[List.filterMap_cons,hf]; exact VaB _ hb)) hr⟩
 exact all X.outer (λ_ hb=>hb) I.ok.funs
theorem Inv.stack (I:Inv X pins σ H s):s.heap.FunFrames X.base X.stack:=by
 rcases I.ok.stk with e | ⟨e,hf⟩
 ·rw[e]; exact I.funs
 ·rw[e]
  obtain⟨m,hn,_⟩:=I.loc
  refine .cons (by rw[I.ok.kind]; decide) hf hn ?_ I.funs
  exact Heap.get?_none_of_le (Vau I.ok.bsz I.ok.above)
theorem Inv.stkSub (I:Inv X pins σ H s):∀b∈frs X.stack,b∈X.env.locals::X.fs:=λb hb=>by
 rcases I.ok.stk with e | ⟨e,hf⟩
 ·rw[e] at hb; exact VaB _ hb
 ·rw[e] at hb
  unfold frs at hb
  rw[List.filterMap_cons,hf] at hb
  exact hb
theorem Inv.stkFree (I:Inv X pins σ H s):∀b∈frs X.stack,H b=none:=λb hb=>by
 rcases Vai.mp (I.stkSub b hb) with e | hb
 ·rw[e]; exact I.free
 ·obtain⟨_,o,ho,_⟩:=I.ok.funs.mem hb
  exact I.base.free b o ho (I.ok.frf b hb) λz=>I.ok.exfs b z hb
theorem Inv.step {g':Array GenState}{t':Nat}{d':Drawn}{ch:List Addr}(I:Inv X pins σ H s)
  (hch:∀b∈ch,(b∈X.ex∨X.s₀.heap.objs.size≤b)∧b≠X.env.locals∧(∀x c,X.env.cells.lookup x=some c→c≠b)∧∀p∈X.pn++pins,p.1≠b)
  (keep:∀b o,b≠X.env.locals→b ∉ X.fs→b ∉ ch→s.heap.get? b=some o→H b=none→h'.get? b=some o)
  (slot:∀b o,b≠X.env.locals→b∈X.fs→b ∉ ch→s.heap.get? b=some o→H b=none→∃sl,h'.get? b=some { o with slots:=sl })(free:∀b o,b ∉ ch→s.heap.get? b=some o→H b=none→H' b=none)
  (there:∀b o,b ∉ ch→s.heap.get? b=some o→∃o',h'.get? b=some o')
  (tups:∀b xs,H b=some (.tup xs)→H' b=some (.tup xs))(frzs:∀b o u,H b=some (.frz o u)→H' b=some (.frz o u))(tbls:∀b ps,H b=some (.tbl ps)→∃more,H' b=some (.tbl (ps++more)))
  (ns:∀m,s.heap.Ns X.env.locals m→h'.Ns X.env.locals m)(hok:HOk X.prog X.w H' h')(hg:AllBare g'):
  Inv X pins σ H' { s with heap:=h',gens:=g',drawn:=d',toks:=t' }:=by
 have neL:∀b o,X.s₀.heap.get? b=some o→b≠X.env.locals:=λb o e=>Vah (Var (Heap.lt_size e) I.ok.above)
 have neC:∀b o,X.s₀.heap.get? b=some o→b ∉ X.ex→b ∉ ch:=λb o e hx hb=>by
  rcases (hch b hb).1 with z | z
  ·exact hx z
  ·exact absurd (Var (Heap.lt_size e) z) (Vay _)
 have cellK:∀x c,X.env.cells.lookup x=some c→∀v,s.heap.IsCell c v→h'.IsCell c v:=λx c e v ⟨o,ho,hd⟩=>by
  have nch:c ∉ ch:=λz=>(hch c z).2.2.1 x c e rfl
  by_cases hc:c∈X.fs
  ·obtain⟨sl,q⟩:=slot c o (I.cne x c e) hc nch ho (I.freeC x c e)
   exact⟨_,q,hd⟩
  ·exact⟨o,keep c o (I.cne x c e) hc nch ho (I.freeC x c e),hd⟩
 refine⟨I.ok,I.os,hg,⟨λb o e n hb hx=>?_,λb o e n hb hx=>?_,λb o e n hx=>?_,λb o e hx=>?_,λb xs e=>tups b xs (I.base.tups b xs e),λb o xs e=>frzs b o xs (I.base.frzs b o xs e),λb ps e=>?_⟩,?_,λx c e=>?_,?_,λx c e=>?_,λp hp=>?_,hok,I.len⟩
 ·exact keep b o (neL b o e) hb (neC b o e hx) (I.base.keep b o e n hb hx) (I.base.free b o e n hx)
 ·obtain⟨sl,e1⟩:=I.base.slot b o e n hb hx
  obtain⟨sl',e2⟩:=slot b _ (neL b o e) hb (neC b o e hx) e1 (I.base.free b o e n hx)
  exact⟨sl',e2⟩
 ·obtain⟨o',e1⟩:=I.base.there b o e hx
  exact free b o' (neC b o e hx) e1 (I.base.free b o e n hx)
 ·obtain⟨o',e1⟩:=I.base.there b o e hx
  exact there b o' (neC b o e hx) e1
 ·obtain⟨m1,e1⟩:=I.base.tbls b ps e
  obtain⟨m2,e2⟩:=tbls b _ e1
  exact⟨m1++m2,by rw[e2,Array.append_assoc]⟩
 ·obtain⟨m,hn,hl⟩:=I.loc
  refine⟨m,ns m hn,λi x v e1 e2 e3=>?_⟩
  obtain⟨u,r,l⟩:=hl i x v e1 e2 e3
  refine⟨u,r,?_⟩
  rcases l with l | ⟨k,c,e,z⟩
  ·exact .inl l
  ·exact .inr ⟨k,c,e,cellK x c e _ z⟩
 ·obtain⟨v,z⟩:=I.cell x c e
  exact⟨v,cellK x c e v z⟩
 ·obtain⟨m,⟨o,_,_,ho,_⟩,_⟩:=I.loc
  exact free _ o (λz=>(hch _ z).2.1 rfl) ho I.free
 ·obtain⟨v,o,ho,hd⟩:=I.cell x c e
  exact free c o (λz=>(hch c z).2.2.1 x c e rfl) ho (I.freeC x c e)
 ·obtain⟨e,n,ne,nf,d⟩:=I.pin p hp
  have nch:p.1 ∉ ch:=λz=>(hch p.1 z).2.2.2 p hp rfl
  exact⟨keep p.1 p.2 ne nf nch e n,free p.1 p.2 nch e n,ne,nf,d⟩
theorem Inv.un {t':Nat}(I:Inv X pins σ H s)(u:Un X.fs [] H H' s.heap h')(hok:HOk X.prog X.w H' h'):Inv X pins σ H' { s with heap:=h',toks:=t' }:=by
 obtain⟨m,⟨o,es,ep,ho,r⟩,_⟩:=id I.loc
 obtain⟨sl,hL⟩:=u.any ho I.free (by simp)
 exact I.step (g':=s.gens) (d':=s.drawn) (ch:=[]) (λ_ z=>nomatch z) (λb o _ hb _ e n=>u.keep b o e n hb (by simp)) (λb o _ hb _ e n=>u.slot b o e n hb (by simp)) (λb o _ e n=>u.free b o e n (by simp)) (λb o _ e=>u.there b o e (by simp)) u.tups u.frzs u.tbls (λm' hm=>by
  obtain⟨o',es',ep',ho',r'⟩:=hm
  rw[ho] at ho'; cases ho'
  exact⟨_,es',ep',hL,r'⟩) hok I.bare
theorem Inv.call {g':Array GenState}{t':Nat}{d':Drawn}{ch:List Addr}(I:Inv X pins σ H s)(u:Un (frs X.stack) ch H H' s.heap h')(hok:HOk X.prog X.w H' h')(hg:AllBare g')
  (hch:∀b∈ch,(b∈X.ex∨X.s₀.heap.objs.size≤b)∧b≠X.env.locals∧(∀x c,X.env.cells.lookup x=some c→c≠b)∧∀p∈X.pn++pins,p.1≠b):
  Inv X pins σ H' { s with heap:=h',gens:=g',drawn:=d',toks:=t' }:=by
 obtain⟨m,⟨o,es,ep,ho,r⟩,_⟩:=id I.loc
 obtain⟨sl,hL⟩:=u.any ho I.free λz=>(hch _ z).2.1 rfl
 exact I.step (ch:=ch) hch (λb o hL hb hc e n=>u.keep b o e n (λz=>(Vai.mp (I.stkSub b z)).elim hL hb) hc) (λb o _ _ hc e n=>u.any e n hc) (λb o hc e n=>u.free b o e n hc) (λb o hc e=>u.there b o e hc) u.tups u.frzs u.tbls (λm' hm=>by
  obtain⟨o',es',ep',ho',r'⟩:=hm
  rw[ho] at ho'; cases ho'
  exact⟨_,es',ep',hL,r'⟩) hok hg
theorem Inv.turned {t':Nat}{it:Addr}(I:Inv X pins σ H s)(k:∀b o,b≠it→s.heap.get? b=some o→h'.get? b=some o)(hn:H it=none)(hL:it≠X.env.locals)
  (h1:it∈X.ex∨X.s₀.heap.objs.size≤it)(h2:∀x c,X.env.cells.lookup x=some c→c≠it)(h3:∀p∈X.pn++pins,p.1≠it):Inv X pins σ H { s with heap:=h',toks:=t' }:=by
 have nit:∀b u,H b=some u→b≠it:=λb u e z=>by rw[z,hn] at e; cases e
 refine I.step (g':=s.gens) (d':=s.drawn) (ch:=[it]) (λb hb=>?_) (λb o _ _ hc e _=>k b o (λz=>hc (by simp[z])) e) (λb o _ _ hc e _=>⟨o.slots,k b o (λz=>hc (by simp[z])) e⟩) (λ_ _ _ _ n=>n)
  (λb o hc e=>⟨o,k b o (λz=>hc (by simp[z])) e⟩) (λ_ _ e=>e) (λ_ _ _ e=>e) (λb ps e=>⟨#[],by rw[e]; simp⟩) (λm hm=>?_) (λb u e=>?_) I.bare
 ·have e:b=it:=by simpa using hb
  subst e
  exact⟨h1,hL,h2,h3⟩
 ·obtain⟨o,es,ep,ho,r⟩:=hm
  exact⟨o,es,ep,k _ o (Ne.symm hL) ho,r⟩
 ·refine(I.hok b u e).stay (λc v hc q=>k c v ?_ q) (λ_ q=>q) λ_ _ q=>q
  rcases hc with z | z
  ·rw[z]; exact nit b u e
  ·exact nit c _ z
theorem Inv.tok (I:Inv X pins σ H s)(t:Nat):Inv X pins σ H { s with toks:=t }:=I.un (h':=s.heap) (t':=t) Un.refl I.hok
theorem Inv.kept {t':Nat}(I:Inv X pins σ H s)(k:∀b u,s.heap.get? b=some u→h'.get? b=some u):Inv X pins σ H { s with heap:=h',toks:=t' }:=I.un (Un.kept k) (I.hok.kept k)
theorem Inv.laid {a:Addr}{o:HO}{t':Nat}(I:Inv X pins σ H s)(k:∀b u,s.heap.get? b=some u→h'.get? b=some u)(hp:s.heap.objs.size≤a)(new:zaZ X.prog X.w (upd H a o) h' a o):
  Inv X pins σ (upd H a o) { s with heap:=h',toks:=t' }:=I.un (Un.laid k hp (I.hok.fresh hp)) (I.hok.laid k hp new)
theorem Inv.write {x e:Addr}{o:HO}{t':Nat}(I:Inv X pins σ H s)(mu:Mut (H x))(he:e=x∨H e=some (.own x))(k:∀b u,b≠e→s.heap.get? b=some u→h'.get? b=some u)(heo:∃u,h'.get? e=some u)
  (new:zaZ X.prog X.w (upd H x o) h' x o):Inv X pins σ (upd H x o) { s with heap:=h',toks:=t' }:=I.un (Un.write mu he k heo) (I.hok.write mu he k heo new)
theorem Inv.pins_of {pins':List (Addr×Obj)}(I:Inv X pins σ H s)(h:∀p∈pins',s.heap.get? p.1=some p.2∧H p.1=none∧p.1≠X.env.locals∧p.1 ∉ X.fs∧∀v,p.2.data≠.cell v):Inv X pins' σ H s:=
 ⟨I.ok,I.os,I.bare,I.base,I.loc,I.cell,I.free,I.freeC,λp hp=>(Va2.mp hp).elim (λz=>I.pin p (List.mem_append_left _ z)) (h p),I.hok,I.len⟩
theorem zg8 {N:List Str}(hN:N.Nodup){i j:Nat}{x:Str}(a:N[i]?=some x)(b:N[j]?=some x):i=j:=by
 obtain⟨h1,e1⟩:=Vad.mp a
 obtain⟨h2,e2⟩:=Vad.mp b
 exact(List.getElem_inj hN).mp (e1.trans e2.symm)
theorem zgg {M:Model}{A:Around}{E:Value→Shared→Prop}{i:Nat}{x:Str}{v:V}{u:Value}{Q:Unit→Shared→Prop}(I:Inv X pins σ H s)(hN:X.N.Nodup)(hi:X.N[i]?=some x)(hx:Loc X.env.scope x)(r:zae v u)
  (h:∀s',Inv X pins (σ.set i (some v)) H s'→(∃a,Heap.SameBut a s.heap s'.heap∧(a=X.env.locals∨X.env.cells.lookup x=some a))→Q () s')(hf:X.fn x=true∨X.env.scope.names.lookup x=some .local:=by first | exact .inl rfl | exact .inr rfl | assumption):wpAny M A (storeName X.env x u) Q E s:=by
 obtain⟨m,hn,hl⟩:=id I.loc
 have hcls:(X.env.scope.kind==.class||(X.env.scope.kind==.module&&X.env.locals != X.env.globals))=false:=by rw[I.ok.kind]; rfl
 have hiσ:i<σ.length:=by rw[I.len]; exact(Vad.mp hi).1
 have cne:=I.cne
 have tracked:∀ {a:Addr} {h':Heap},(∃o,s.heap.get? a=some o∧H a=none)→Heap.SameBut a s.heap h'→HOk X.prog X.w H h':=λ{a h'} ha hs b ob e=>by
  obtain⟨_,_,hfree⟩:=ha
  refine(I.hok b ob e).stay (λc w' hc q=>(hs.2 c ?_).trans q) (λ_ q=>q) λ_ _ q=>q
  rintro rfl
  rcases hc with rfl | hc
  ·rw[hfree] at e; cases e
  ·rw[hfree] at hc; cases hc
 rcases hx with hk | hk
 ·refine wpAny_storeName_local hk hn (λh' hn' hs=>?_) hcls
  obtain⟨oL,_,_,hoL,_⟩:=id hn
  refine h _ ⟨I.ok,I.os,I.bare,⟨λb o e n hb hx=>?_,λb o e n hb hx=>?_,I.base.free,λb o e hx=>?_,I.base.tups,I.base.frzs,I.base.tbls⟩,⟨_,hn',λj y v' e1 e2 e3=>?_⟩,λy c e=>?_,I.free,I.freeC,λp hp=>?_,tracked ⟨oL,hoL,I.free⟩ hs,by simpa using I.len⟩ ⟨_,hs,.inl rfl⟩
  ·exact(hs.2 b (Vah (Var (Heap.lt_size e) I.ok.above))).trans (I.base.keep b o e n hb hx)
  ·obtain⟨sl,e1⟩:=I.base.slot b o e n hb hx
   exact⟨sl,(hs.2 b (Vah (Var (Heap.lt_size e) I.ok.above))).trans e1⟩
  ·obtain⟨o',e1⟩:=I.base.there b o e hx
   exact⟨o',(hs.2 b (Vah (Var (Heap.lt_size e) I.ok.above))).trans e1⟩
  ·by_cases hj:j=i
   ·subst hj
    rw[hi] at e1; cases e1
    rw[VaW hiσ] at e2
    cases e2
    exact⟨u,r,.inl ⟨hk,by simp⟩⟩
   ·rw[VaM (Ne.symm hj)] at e2
    obtain⟨u',r',q⟩:=hl j y v' e1 e2 e3
    refine⟨u',r',?_⟩
    rcases q with ⟨k,e⟩ | ⟨k,c,e,z⟩
    ·refine .inl ⟨k,?_⟩
     have:y≠x:=λe=>hj (zg8 hN e1 (e ▸ hi))
     simp[this,e]
    ·exact .inr ⟨k,c,e,z.sameBut hs (cne y c e)⟩
  ·obtain⟨w',z⟩:=I.cell y c e
   exact⟨w',z.sameBut hs (cne y c e)⟩
  ·obtain⟨e,n,ne,nf,d⟩:=I.pin p hp
   exact⟨(hs.2 p.1 ne).trans e,n,ne,nf,d⟩
 ·have hfn:X.fn x=true:=by
   rcases hf with z | z
   ·exact z
   ·rw[z] at hk; cases hk
  obtain⟨c,hc⟩:=I.ok.has x (.inl hk)
  obtain⟨w',z⟩:=I.cell x c hc
  refine wpAny_storeName_cell I.ok.kind hk hc z (λh' hc' hs=>?_)
  obtain⟨oc,hoc,hocd⟩:=id z
  refine h { s with heap:=h' } ⟨I.ok,I.os,I.bare,⟨λb o e n hb hx=>?_,λb o e n hb hx=>?_,I.base.free,λb o e hx=>?_,I.base.tups,I.base.frzs,I.base.tbls⟩,⟨m,hn.sameBut hs (Ne.symm (cne x c hc)),λj y v' e1 e2 e3=>?_⟩,λy c' e=>?_,I.free,I.freeC,λp hp=>?_,tracked ⟨oc,hoc,I.freeC x c hc⟩ hs,by simpa using I.len⟩ ⟨c,hs,.inr hc⟩
  ·exact(hs.2 b (Vah (Var (Heap.lt_size e) (I.ok.cab x c hfn hc)))).trans (I.base.keep b o e n hb hx)
  ·obtain⟨sl,e1⟩:=I.base.slot b o e n hb hx
   exact⟨sl,(hs.2 b (Vah (Var (Heap.lt_size e) (I.ok.cab x c hfn hc)))).trans e1⟩
  ·obtain⟨o',e1⟩:=I.base.there b o e hx
   exact⟨o',(hs.2 b (Vah (Var (Heap.lt_size e) (I.ok.cab x c hfn hc)))).trans e1⟩
  ·by_cases hj:j=i
   ·subst hj
    rw[hi] at e1; cases e1
    rw[VaW hiσ] at e2
    cases e2
    exact⟨u,r,.inr ⟨.inl hk,c,hc,hc'⟩⟩
   ·rw[VaM (Ne.symm hj)] at e2
    obtain⟨u',r',q⟩:=hl j y v' e1 e2 e3
    refine⟨u',r',?_⟩
    rcases q with q | ⟨k,c',e,z'⟩
    ·exact .inl q
    ·refine .inr ⟨k,c',e,z'.sameBut hs ?_⟩
     rintro rfl
     exact hj (zg8 hN e1 (I.ok.inj _ _ _ e hc ▸ hi))
  ·by_cases hcc:c'=c
   ·subst hcc; exact⟨_,hc'⟩
   ·obtain⟨w2,z2⟩:=I.cell y c' e
    exact⟨w2,z2.sameBut hs hcc⟩
  ·obtain⟨e,n,ne,nf,d⟩:=I.pin p hp
   refine⟨(hs.2 p.1 ?_).trans e,n,ne,nf,d⟩
   intro q
   rw[q,hoc] at e
   have q':oc=p.2:=Option.some.inj e
   exact d w' (by rw[← q']; exact hocd)
theorem zg4 {M:Model}{A:Around}{E:Value→Shared→Prop}{i:Nat}{x:Str}{v:V}{u:Value}{Q:Unit→Shared→Prop}(I:Inv X pins σ H s)(hN:X.N.Nodup)(hi:X.N[i]?=some x)(hx:Loc X.env.scope x)(r:zae v u)
  (h:∀s',Inv X pins (σ.set i (some v)) H s'→Q () s')(hf:X.fn x=true∨X.env.scope.names.lookup x=some .local:=by first | exact .inl rfl | exact .inr rfl | assumption):wpAny M A (storeName X.env x u) Q E s:=
 zgg I hN hi hx r (λs' I' _=>h s' I') hf
theorem Inv.call' {s':Shared}{ch:List Addr}(I:Inv X pins σ H s)(ho:s'.os=s.os)(u:Un (frs X.stack) ch H H' s.heap s'.heap)(hok:HOk X.prog X.w H' s'.heap)(hg:AllBare s'.gens)
  (hch:∀b∈ch,(b∈X.ex∨X.s₀.heap.objs.size≤b)∧b≠X.env.locals∧(∀x c,X.env.cells.lookup x=some c→c≠b)∧∀p∈X.pn++pins,p.1≠b):Inv X pins σ H' s':=by
 obtain⟨h',g',d',t',o'⟩:=s'
 have e:o'=s.os:=ho
 subst e
 exact I.call (g':=g') (t':=t') (d':=d') u hok hg hch
end
abbrev XK:=Value→Option Addr→Hp→Prop
abbrev St:=List (Option V)
abbrev VK:=V→Hp→Prop
abbrev TE:=St→Hp→VK→Prop
abbrev TT:=St→Hp→(Bool→Hp→Prop)→Prop
abbrev TA:=St→Hp→(List V→Hp→Prop)→Prop
structure zcw where
 nx:St→Hp→Prop
 rt:VK
 bk:St→Hp→Prop:=λ_ _=>False
 ct:St→Hp→Prop:=λ_ _=>False
abbrev TS:=zcw→St→Hp→Prop
def EP (X:Cx)(pins:List (Addr×Obj))(σ:St)(Q:VK)(u:Value)(s':Shared):Prop:=∃v H',Inv X pins σ H' s'∧zae v u∧Q v H'
def TP (X:Cx)(pins:List (Addr×Obj))(σ:St)(Q:Bool→Hp→Prop)(b:Bool)(s':Shared):Prop:=∃H',Inv X pins σ H' s'∧Q b H'
def AP (X:Cx)(pins:List (Addr×Obj))(σ:St)(Q:List V→Hp→Prop)(us:List Value)(s':Shared):Prop:=∃vs H',Inv X pins σ H' s'∧zaf vs us∧Q vs H'
def SP (X:Cx)(pins:List (Addr×Obj))(D:zcw)(f:Flow)(s':Shared):Prop:=
 match f with
 | .next=>∃σ' H',Inv X pins σ' H' s'∧D.nx σ' H'
 | .brk=>∃σ' H',Inv X pins σ' H' s'∧D.bk σ' H'
 | .cont=>∃σ' H',Inv X pins σ' H' s'∧D.ct σ' H'
 | .ret u=>∃v σ' H',Inv X pins σ' H' s'∧zae v u∧D.rt v H'
def PE (X:Cx)(e:Expr)(t:TE):Prop:=
 ∀(pins:List (Addr×Obj)) (s:Shared) (σ:St) (H:Hp) (Q:VK),Inv X pins σ H s→t σ H Q→wpAny (model X.prog X.w) X.A (eval e X.env) (EP X pins σ Q) X.xe s
def PT (X:Cx)(e:Expr)(t:TT):Prop:=
 ∀(pins:List (Addr×Obj)) (s:Shared) (σ:St) (H:Hp) (Q:Bool→Hp→Prop),Inv X pins σ H s→t σ H Q→wpAny (model X.prog X.w) X.A (isTrue e X.env (eval e X.env)) (TP X pins σ Q) X.xe s
def PW (X:Cx)(e:Expr)(t:TT):Prop:=
 ∀(whole:Sem Value) (pins:List (Addr×Obj)) (s:Shared) (σ:St) (H:Hp) (Q:Bool→Hp→Prop),Inv X pins σ H s→t σ H Q→wpAny (model X.prog X.w) X.A (isTrue e X.env whole) (TP X pins σ Q) X.xe s
theorem PW.pt {X:Cx}{e:Expr}{t:TT}(h:PW X e t):PT X e t:=h _
def PA (X:Cx)(es:List Expr)(t:TA):Prop:=
 ∀(pos:Pos) (pins:List (Addr×Obj)) (s:Shared) (σ:St) (H:Hp) (Q:List V→Hp→Prop),Inv X pins σ H s→t σ H Q→wpAny (model X.prog X.w) X.A (spliced (backTo pos (starEach es X.env))) (AP X pins σ Q) X.xe s
def PS (X:Cx)(st:Stmt)(t:TS):Prop:=
 ∀(pins:List (Addr×Obj)) (s:Shared) (σ:St) (H:Hp) (D:zcw),Inv X pins σ H s→t D σ H→wpAny (model X.prog X.w) X.A (exec st X.env) (SP X pins D) X.xe s
def PSs (X:Cx)(st:List Stmt)(t:TS):Prop:=
 ∀(pins:List (Addr×Obj)) (s:Shared) (σ:St) (H:Hp) (D:zcw),Inv X pins σ H s→t D σ H→wpAny (model X.prog X.w) X.A (execs st X.env) (SP X pins D) X.xe s
theorem thn {α:Type}{t:Sem α}{Q Q':α→Shared→Prop}{M:Model}{A:Around}{E:Value→Shared→Prop}{s:Shared}(h:wpAny M A t Q E s)(hQ:∀a s,Q a s→Q' a s):wpAny M A t Q' E s:=wpAny_mono h hQ λ_ _ x=>x
end L2
namespace L2
open PySem PySem.Spec PyProof.Rows
section
variable {X:Cx}
def tVar (i:Nat):TE:=λσ H Q=>∃v,σ[i]?=some (some v)∧Q v H
def tC (v:V):TE:=λ_ H Q=>Q v H
theorem zhA {i:Nat}{x:Str}{pos:Pos}(hN:X.N[i]?=some x)(hv:Vis X.env.scope x)(hd:(x==("__debug__":Str))=false:=by decide)(hcd:(x==("__classdict__":Str))=false:=by decide):PE X (.Name x pos) (tVar i):=by
 intro pins s σ H Q I h
 obtain⟨v,e,h⟩:=h
 obtain⟨m,hn,hl⟩:=I.loc
 obtain⟨u,r,l⟩:=hl i x v hN e hv
 have fin:EP X pins σ Q u s:=⟨v,H,I,r,h⟩
 rcases l with ⟨hk,hm⟩ | ⟨hk,c,hc,hcell⟩
 ·exact wpAny_Name (wpAny_loadName_local I.ok.kind hk hn hm fin) hd
 ·rcases hk with hk | hk
  ·exact wpAny_Name (wpAny_loadName_cell I.ok.kind hk hc hcell fin) hd
  ·exact wpAny_Name (wpAny_loadName_free I.ok.kind hk hc hcell fin hcd) hd
theorem zlr {i j pos}:PE X (.Constant (.int i) j pos) (tC (.int i)):=λ_ _ _ H _ I h=>wpAny_Constant_int ⟨.int i,H,I.tok _,⟨_,rfl⟩,h⟩
theorem pe_bl {b j pos}:PE X (.Constant (.bool b) j pos) (tC (.bl b)):=λ_ _ _ H _ I h=>Constant_bool ⟨.bl b,H,I,rfl,h⟩
theorem zjW {j pos}:PE X (.Constant .none j pos) (tC .non):=λ_ _ _ H _ I h=>Constant_none ⟨.non,H,I,rfl,h⟩
def Gl (X:Cx)(x:Str):Prop:=X.env.kindOf x=some .globalImplicit
theorem zl5 {E:Value→Shared→Prop}{pins:List (Addr×Obj)}{s:Shared}{σ:St}{H:Hp}{x:Str}{u:Value}{pos:Pos}{Q:Value→Shared→Prop}(I:Inv X pins σ H s)(hg:Gl X x)(hm:X.mg x=some u)(h:Q u s)
  (hd:(x==("__debug__":Str))=false:=by decide):wpAny (model X.prog X.w) X.A (eval (.Name x pos) X.env) Q E s:=
 Calls.Name_function_global I.ok.kind hg (Calls.loadGlobal_global (by rw[I.ok.glob]; exact I.mod.glob.keeps I.bk) hm h) hd
theorem zc5 {E:Value→Shared→Prop}{pins:List (Addr×Obj)}{s:Shared}{σ:St}{H:Hp}{x:Str}{u:Value}{pos:Pos}{Q:Value→Shared→Prop}(I:Inv X pins σ H s)(hg:Gl X x)(hm:X.mg x=none)(hv:bootBuiltins x=some u)(h:Q u s)
  (hn:x≠"__name__":=by decide)(hd:(x==("__debug__":Str))=false:=by decide):wpAny (model X.prog X.w) X.A (eval (.Name x pos) X.env) Q E s:=by
 obtain⟨mb,h1,h2⟩:=I.mod.blt
 exact Calls.Name_function_global I.ok.kind hg (Calls.loadGlobal_builtin (by rw[I.ok.glob]; exact I.mod.glob.keeps I.bk) hm (by rw[I.ok.blt]; exact h1.keeps I.bk) ((h2 x hn).trans hv) h) hd
theorem zhN {x:Str}{v:V}{u:Value}{pos:Pos}(hg:Gl X x)(hm:X.mg x=none)(hv:bootBuiltins x=some u)(r:zae v u)(hn:x≠"__name__":=by decide)(hd:(x==("__debug__":Str))=false:=by decide):PE X (.Name x pos) (tC v):=
 λ_ _ _ H _ I h=>zc5 I hg hm hv ⟨v,H,I,r,h⟩ hn hd
variable {a b:Expr}{ta tb:TE}{pos:Pos}
def tB (t:TE):TT:=λσ H Q=>t σ H λx H1=>∃c,x=.bl c∧Q c H1
theorem zko {e:Expr}{t:TE}(h:PE X e t)(he:∀whole,isTrue e X.env whole=(do let v ← whole; standAt e.pos; holding [v] (truthy v)):=by intro _; rfl):PT X e (tB t):=by
 intro pins s σ H Q I hw
 refine isTrue_plain (thn (h pins s σ H _ I hw) λv s1 ⟨x,H1,I1,r1,q1⟩=>?_) (he _)
 obtain⟨d,rfl,q⟩:=q1
 cases r1
 exact wpAny_truthy_bool ⟨H1,I1,q⟩
variable {tA tB':TT}{zbj:List Expr}
def tOr (t u:TT):TT:=λσ H Q=>t σ H λc H1=>if c=true then Q true H1 else u σ H1 Q
theorem ziO (ha:PT X a tA):PW X (.BoolOp .Or [a] pos) tA:=by
 intro wh pins s σ H Q I h
 refine isTrue_or (thn (ha pins s σ H Q I h) λc s1 e=>?_)
 cases c with
 | false=>exact isTrue_or_nil e
 | true=>exact e
theorem pw_or (ha:PT X a tA)(hb:PW X (.BoolOp .Or (b::zbj) pos) tB'):PW X (.BoolOp .Or (a::b::zbj) pos) (tOr tA tB'):=by
 intro wh pins s σ H Q I h
 refine isTrue_or (thn (ha pins s σ H _ I h) λc s1 ⟨H1,I1,q1⟩=>?_)
 cases c with
 | true=>exact⟨H1,I1,q1⟩
 | false=>exact hb wh pins s1 σ H1 Q I1 q1
def tAndV (ta tb:TE):TE:=λσ H Q=>ta σ H λx H1=>∃c,x=.bl c∧if c=true then tb σ H1 Q else Q (.bl false) H1
def tNotV (ta:TE):TE:=λσ H Q=>ta σ H λx H1=>∃c,x=.bl c∧Q (.bl (!c)) H1
theorem zjM {op}{t:TE}(h:PE X a t):PE X (.BoolOp op [a] pos) t:=λpins s σ H Q I hw=>BoolOp_one (h pins s σ H Q I hw)
theorem zk6 (ha:PE X a ta)(hb:PE X (.BoolOp .And (b::zbj) pos) tb):PE X (.BoolOp .And (a::b::zbj) pos) (tAndV ta tb):=by
 intro pins s σ H Q I h
 refine BoolOp_and (thn (ha pins s σ H _ I h) λv s1 ⟨x,H1,I1,r1,q1⟩=>?_)
 obtain⟨c,rfl,q1⟩:=q1
 cases r1
 refine wpAny_truthy_bool ?_
 cases c with
 | true=>exact hb pins s1 σ H1 Q I1 q1
 | false=>exact⟨.bl false,H1,I1,rfl,q1⟩
theorem ziJ (ha:PE X a ta):PE X (.UnaryOp .Not a pos) (tNotV ta):=by
 intro pins s σ H Q I h
 refine UnaryOp_ (thn (ha pins s σ H _ I h) λv s1 ⟨x,H1,I1,r1,q1⟩=>?_)
 obtain⟨c,rfl,q1⟩:=q1
 cases r1
 exact not_of (wpAny_truthy_bool ⟨.bl (!c),H1,I1,rfl,q1⟩)
def tIf (t:TT)(ta tb:TE):TE:=λσ H Q=>t σ H λc H1=>if c=true then ta σ H1 Q else tb σ H1 Q
theorem zlu {c:Expr}(hc:PT X c tA)(ha:PE X a ta)(hb:PE X b tb):PE X (.IfExp c a b pos) (tIf tA ta tb):=by
 intro pins s σ H Q I h
 refine wpAny_IfExp (thn (hc pins s σ H _ I h) λd s1 ⟨H1,I1,q1⟩=>?_)
 cases d with
 | true=>exact ha pins s1 σ H1 Q I1 q1
 | false=>exact hb pins s1 σ H1 Q I1 q1
end
end L2
namespace L2
open PySem PySem.Spec PyProof.Rows
def SqL (K:PySem.W.Frag)(H:Hp)(a:Addr)(xs:List V):Prop:=
 Rd H a (.lst xs)∨
  ∃(o:Obj) (its:Array Value) (n:Nat),K.lookup a=some o∧o.cls=.type "list"∧o.dict=none∧o.data=.seq its n∧its.size≤sizeLine∧zaf xs its.toList
def SqT (K:PySem.W.Frag)(H:Hp)(a:Addr)(xs:List V):Prop:=
 Rd H a (.tup xs)∨
  ∃(o:Obj) (its:Array Value) (n:Nat),K.lookup a=some o∧o.cls=.type "tuple"∧o.data=.seq its n∧its.size≤sizeLine∧zaf xs its.toList
def absV:Value→Option V
 | .none=>some .non
 | .bool b=>some (.bl b)
 | .int i _=>some (.int i)
 | .str x _=>some (.str x)
 | .bytes b _=>some (.byt b)
 | .float b _=>some (.flt b)
 | .ref a=>some (.ref a)
 | .type n=>some (.ty n)
 | _=>none
theorem zae.abs {x:V}{u:Value}(r:zae x u):absV u=some x:=by
 cases x with
 | non=>cases r; rfl
 | bl _=>cases r; rfl
 | int _=>obtain⟨t,rfl⟩:=r; rfl
 | str _=>obtain⟨t,rfl⟩:=r; rfl
 | byt _=>obtain⟨t,rfl⟩:=r; rfl
 | flt _=>obtain⟨t,rfl⟩:=r; rfl
 | ref _=>cases r; rfl
 | ty _=>cases r; rfl
theorem zae.inj {x y:V}{u:Value}(r:zae x u)(q:zae y u):x=y:=Option.some.inj (r.abs.symm.trans q.abs)
theorem zaf.inj:∀ {xs ys:List V} {us:List Value},zaf xs us→zaf ys us→xs=ys
 | _,_,_,.nil,.nil=>rfl
 | _,_,_,.cons r t,.cons r' t'=>by rw[r.inj r',zaf.inj t t']
section
variable {X:Cx}{pins:List (Addr×Obj)}{σ:St}{H:Hp}{s:Shared}{a:Addr}{xs ys:List V}
theorem SqL.of {K:PySem.W.Frag}(h:H a=some (.lst xs)):SqL K H a xs:=.inl (.inl h)
theorem SqT.of {K:PySem.W.Frag}(h:H a=some (.tup xs)):SqT K H a xs:=.inl (.inl h)
theorem Inv.list (I:Inv X pins σ H s)(h:SqL X.K H a xs):∃its:List Value,zaf xs its∧PlainL s.heap a its.toArray∧xs.length≤sizeLine:=by
 rcases h with h | ⟨o,its,n,hk,hc,hd,hs,hz,r⟩
 ·obtain⟨z,its,n,r,e⟩:=h.ok I.hok
  exact⟨its,r,⟨_,n,e,rfl,rfl,rfl⟩,z⟩
 ·refine⟨its.toList,r,⟨o,n,I.kIn a o hk,hc,hd,by simpa using hs⟩,?_⟩
  have e:=r.length
  simp only[Array.length_toList] at e
  omega
theorem Inv.tuple (I:Inv X pins σ H s)(h:SqT X.K H a xs):∃its:List Value,zaf xs its∧IsTup s.heap a its.toArray∧xs.length≤sizeLine:=by
 rcases h with h | ⟨o,its,n,hk,hc,hs,hz,r⟩
 ·obtain⟨z,its,r,p⟩:=h.ok I.hok
  exact⟨its,r,p,z⟩
 ·refine⟨its.toList,r,⟨o,I.kIn a o hk,hc,n,by simpa using hs⟩,?_⟩
  have e:=r.length
  simp only[Array.length_toList] at e
  omega
theorem Inv.list_inj (I:Inv X pins σ H s)(h:SqL X.K H a xs)(h':SqL X.K H a ys):xs=ys:=by
 obtain⟨its,r,⟨o,n,e,_,_,d⟩,_⟩:=I.list h
 obtain⟨its',r',⟨o',n',e',_,_,d'⟩,_⟩:=I.list h'
 rw[e] at e'; cases e'
 rw[d] at d'
 injection d' with d1 _
 have:its=its':=by simpa using congrArg Array.toList d1
 subst this
 exact r.inj r'
end
abbrev Cx.wish (X:Cx)(E:Value→Shared→Prop):Cx:={ X with xe:=E }
abbrev Cx.nox (X:Cx):Cx:=X.wish λ_ _=>False
theorem Cx.Ok.wish {X:Cx}(ok:X.Ok)(E:Value→Shared→Prop):(X.wish E).Ok:=
 ⟨ok.mod,ok.kind,ok.glob,ok.blt,ok.above,ok.inj,ok.has,ok.cab,ok.hd,ok.frames,ok.stk,ok.exf,ok.bs,ok.bsz,ok.noex,ok.exfs,ok.funs,ok.frf⟩
theorem Cx.Ok.unwish {X:Cx}{E:Value→Shared→Prop}(ok:(X.wish E).Ok):X.Ok:=
 ⟨ok.mod,ok.kind,ok.glob,ok.blt,ok.above,ok.inj,ok.has,ok.cab,ok.hd,ok.frames,ok.stk,ok.exf,ok.bs,ok.bsz,ok.noex,ok.exfs,ok.funs,ok.frf⟩
section
variable {X:Cx}{pins:List (Addr×Obj)}{σ:St}{H:Hp}{s:Shared}{E:Value→Shared→Prop}
theorem Inv.wish (I:Inv X pins σ H s)(E:Value→Shared→Prop):Inv (X.wish E) pins σ H s:=⟨I.ok.wish E,I.os,I.bare,I.base,I.loc,I.cell,I.free,I.freeC,I.pin,I.hok,I.len⟩
theorem Inv.unwish (I:Inv (X.wish E) pins σ H s):Inv X pins σ H s:=⟨I.ok.unwish,I.os,I.bare,I.base,I.loc,I.cell,I.free,I.freeC,I.pin,I.hok,I.len⟩
theorem SP.unwish {D:zcw}{f:Flow}{s':Shared}(h:SP (X.wish E) pins D f s'):SP X pins D f s':=by
 cases f with
 | next=>obtain⟨σ',H',I,q⟩:=h; exact⟨σ',H',I.unwish,q⟩
 | brk=>obtain⟨σ',H',I,q⟩:=h; exact⟨σ',H',I.unwish,q⟩
 | cont=>obtain⟨σ',H',I,q⟩:=h; exact⟨σ',H',I.unwish,q⟩
 | ret u=>obtain⟨v,σ',H',I,r,q⟩:=h; exact⟨v,σ',H',I.unwish,r,q⟩
theorem PE.nox {e:Expr}{t:TE}(h:PE X.nox e t):PE X e t:=λpins s σ H Q I hw=>
 wpAny_mono (h pins s σ H Q (I.wish _) hw) (λ_ _ ⟨v,H',I',r,q⟩=>⟨v,H',I'.unwish,r,q⟩) λ_ _ z=>False.elim z
theorem PT.nox {e:Expr}{t:TT}(h:PT X.nox e t):PT X e t:=λpins s σ H Q I hw=>
 wpAny_mono (h pins s σ H Q (I.wish _) hw) (λ_ _ ⟨H',I',q⟩=>⟨H',I'.unwish,q⟩) λ_ _ z=>False.elim z
theorem PSs.nox {st:List Stmt}{t:TS}(h:PSs X.nox st t):PSs X st t:=λpins s σ H D I hw=>
 wpAny_mono (h pins s σ H D (I.wish _) hw) (λ_ _ q=>q.unwish) λ_ _ z=>False.elim z
end
section
variable {X:Cx}{st:Stmt}{zbj:List Stmt}{t u:TS}{e:Expr}{te:TE}{pos:Pos}
def tNext:TS:=λD σ H=>D.nx σ H
def tSeq (t u:TS):TS:=λD σ H=>t { D with nx:=u D } σ H
theorem zje:PSs X [] tNext:=λ_ _ σ H _ I h=>wpAny_execs_nil ⟨σ,H,I,h⟩
theorem zku (h1:PS X st t)(h2:PSs X zbj u):PSs X (st::zbj) (tSeq t u):=by
 intro pins s σ H D I h
 refine wpAny_execs_cons (thn (h1 pins s σ H { D with nx:=u D } I h) λf s1 q=>?_)
 cases f with
 | next=>
  obtain⟨σ',H',I',q⟩:=q
  exact h2 pins s1 σ' H' D I' q
 | ret v=>exact q
 | brk=>exact q
 | cont=>exact q
theorem zk2 (h1:PS X st t):PSs X [st] t:=by
 intro pins s σ H D I h
 refine wpAny_execs_cons (thn (h1 pins s σ H D I h) λf s1 q=>?_)
 cases f with
 | next=>exact wpAny_execs_nil q
 | ret v=>exact q
 | brk=>exact q
 | cont=>exact q
theorem Inv.quiet {pins:List (Addr×Obj)}{σ:St}{H:Hp}{s:Shared}(I:Inv X pins σ H s):interactive X.env=false:=by simp[interactive,I.ok.kind]
def tDrop (te:TE):TS:=λD σ H=>te σ H λ_ H1=>D.nx σ H1
theorem zkU (he:PE X e te)(hs:swapsWith e none pos.line X.env=pure false:=by rfl):PS X (.Expr e pos) (tDrop te):=by
 intro pins s σ H D I h
 exact wpAny_Expr_any (thn (he pins s σ H _ I h) λv s1 ⟨x,H1,I1,r1,q1⟩=>⟨σ,H1,I1,q1⟩) I.quiet hs
def tRet (te:TE):TS:=λD σ H=>te σ H D.rt
theorem zk1 (he:PE X e te):PS X (.Return (some e) pos) (tRet te):=by
 intro pins s σ H D I h
 exact wpAny_Return_some (thn (he pins s σ H _ I h) λv s1 ⟨x,H1,I1,r1,q1⟩=>⟨x,σ,H1,I1,r1,q1⟩)
def tIfS (c:TT)(t u:TS):TS:=λD σ H=>c σ H λb H1=>if b=true then t D σ H1 else u D σ H1
theorem ps_if {c:Expr}{a b:List Stmt}{tc:TT}(hc:PT X c tc)(ha:PSs X a t)(hb:PSs X b u):PS X (.If c a b pos) (tIfS tc t u):=by
 intro pins s σ H D I h
 refine wpAny_If (thn (hc pins s σ H _ I h) λd s1 ⟨H1,I1,q1⟩=>?_)
 cases d with
 | true=>exact ha pins s1 σ H1 D I1 q1
 | false=>exact hb pins s1 σ H1 D I1 q1
end
abbrev TG:=V→St→Hp→(St→Hp→Prop)→Prop
abbrev TGs:=List V→St→Hp→(St→Hp→Prop)→Prop
def PG (X:Cx)(target:Expr)(t:TG):Prop:=
 ∀(pins:List (Addr×Obj)) (s:Shared) (σ:St) (H:Hp) (v:V) (u:Value) (Q:St→Hp→Prop),Inv X pins σ H s→zae v u→t v σ H Q→
  wpAny (model X.prog X.w) X.A (assign target X.env u) (λ_ s'=>∃σ' H',Inv X pins σ' H' s'∧Q σ' H') X.xe s
def PGs (X:Cx)(ts:List Expr)(t:TGs):Prop:=
 ∀(pins:List (Addr×Obj)) (s:Shared) (σ:St) (H:Hp) (vs:List V) (us:List Value) (Q:St→Hp→Prop),Inv X pins σ H s→zaf vs us→t vs σ H Q→
  wpAny (model X.prog X.w) X.A (assignInOrder ((assignEach ts X.env).map (·.2)) us) (λ_ s'=>∃σ' H',Inv X pins σ' H' s'∧Q σ' H') X.xe s
section
variable {X:Cx}{pos:Pos}
def zgQ (i:Nat):TG:=λv σ H Q=>Q (σ.set i (some v)) H
theorem zfK {i:Nat}{x:Str}(hN:X.N.Nodup)(hi:X.N[i]?=some x)(hx:Loc X.env.scope x)(hf:X.fn x=true∨X.env.scope.names.lookup x=some .local:=by first | exact .inl rfl | exact .inr rfl | assumption):PG X (.Name x pos) (zgQ i):=by
 intro pins s σ H v u Q I r h
 exact wpAny_assign_Name (zg4 I hN hi hx r (λs' I'=>⟨_,H,I',h⟩) hf)
def gNil:TGs:=λvs σ H Q=>vs=[]∧Q σ H
def gCons (t:TG)(u:TGs):TGs:=λvs σ H Q=>∃v r,vs=v::r∧t v σ H λσ' H'=>u r σ' H' Q
theorem zk5:PGs X [] gNil:=by
 intro pins s σ H vs us Q I r h
 obtain⟨e,h⟩:=h
 subst e
 cases r
 exact assignInOrder_nil ⟨σ,H,I,h⟩
theorem ziH {e:Expr}{es:List Expr}{t:TG}{u:TGs}(h1:PG X e t)(h2:PGs X es u)
  (hs:(assignEach (e::es) X.env).map (·.2)=assign e X.env::(assignEach es X.env).map (·.2):=by rfl):PGs X (e::es) (gCons t u):=by
 intro pins s σ H vs us Q I r h
 obtain⟨v,vr,e1,h⟩:=h
 subst e1
 cases r with
 | cons r rr=>
  rw[hs]
  refine assignInOrder_cons (thn (h1 pins s σ H _ _ _ I r h) λ_ s1 ⟨σ1,H1,I1,q1⟩=>?_)
  exact h2 pins s1 σ1 H1 _ _ Q I1 rr q1
def zc9 (K:PySem.W.Frag)(n:Nat)(t:TGs):TG:=λv σ H Q=>∃a xs,v=.ref a∧SqT K H a xs∧xs.length=n∧t xs σ H Q
theorem zfx {es:List Expr}{k:Nat}{t:TGs}{n:Nat}(hc:X.calm=true)(h:PGs X es t)
  (hn:(assignEach es X.env).length=n:=by rfl)(hst:(assignEach es X.env).findIdx? (·.1)=none:=by rfl):PG X (.Tuple es k pos) (zc9 X.K n t):=by
 intro pins s σ H v u Q I r hw
 obtain⟨a,xs,e1,hq,hl,hw⟩:=hw
 subst e1
 cases r
 obtain⟨its,rv,ht,hz⟩:=I.tuple hq
 refine assign_Tuple_tuple (I.ok.hd hc) ht (by simp[hn,← hl,rv.length]) hst λh' hx=>?_
 have I1:Inv X pins σ H { s with heap:=h' }:=I.kept (t':=s.toks) λb o e=>hx b o (Vah (Heap.lt_size e)) e
 exact h pins _ σ H xs _ Q I1 (by simpa using rv) hw
def tAsg (te:TE)(g:TG):TS:=λD σ H=>te σ H λx H1=>g x σ H1 D.nx
theorem zkY {i:Nat}{x:Str}{e:Expr}{te:TE}{pos':Pos}(hN:X.N.Nodup)(hi:X.N[i]?=some x)(hx:Loc X.env.scope x)(he:PE X e te)(hs:swapsWith e (some (.Name x pos')) pos.line X.env=pure false:=by rfl)(hf:X.fn x=true∨X.env.scope.names.lookup x=some .local:=by first | exact .inl rfl | exact .inr rfl | assumption):
  PS X (.Assign [.Name x pos'] e pos) (tAsg te (zgQ i)):=by
 intro pins s σ H D I h
 refine wpAny_Assign_Name (thn (he pins s σ H _ I h) λv s1 ⟨y,H1,I1,r1,q1⟩=>?_) hs
 exact zg4 I1 hN hi hx r1 (λs2 I2=>⟨_,H1,I2,q1⟩) hf
end
section
variable {X:Cx}{pos:Pos}
end
structure It where
 go:Nat→Hp→Prop
 yld:Nat→Hp→V→Hp→Prop
 stop:Nat→Hp→Prop
def zbe (X:Cx)(pins:List (Addr×Obj))(H:Hp)(b:Addr):Prop:=
 H b=none∧b≠X.env.locals∧b ∉ X.fs∧(b∈X.ex∨X.s₀.heap.objs.size≤b)∧(∀x c,X.env.cells.lookup x=some c→c≠b)∧∀p∈X.pn++pins,p.1≠b
theorem Inv.fpOk {X:Cx}{pins:List (Addr×Obj)}{σ:St}{H H':Hp}{s:Shared}{b:Addr}(I:Inv X pins σ H s)(hb:s.heap.objs.size≤b)(hn:H' b=none):zbe X pins H' b:=by
 refine⟨hn,Nat.ne_of_gt (Var I.lt hb),I.nofs hb,.inr (Vau I.sz hb),λx c e z=>?_,λp hp z=>?_⟩
 ·obtain⟨v,q⟩:=I.cell x c e
  exact absurd (Var q.lt (by rw[z]; exact hb)) (Vay _)
 ·exact absurd (Var (Heap.lt_size (I.pin p hp).1) (by rw[z]; exact hb)) (Vay _)
structure zed (P:Program)(w:World)(K:PySem.W.Frag)(tg:Expr)(J:It)(fp:List Addr)(it:Addr)(tn:Nat→Heap→Prop):Prop where
 mem:it∈fp
 obj:∀i h,tn i h→∀b∈fp,∃o,h.get? b=some o∧∀v,o.data≠.cell v
 keep:∀i h h',tn i h→(∀b∈fp,∀o,h.get? b=some o→h'.get? b=some o)→tn i h'
 item:∀(X:Cx),X.prog=P→X.w=w→X.K=K→X.calm=true→∀(i:Nat) (pins:List (Addr×Obj)) (s:Shared) (σ:St) (H:Hp) (E:Value→Shared→Prop),Inv X pins σ H s→(∀b∈fp,zbe X pins H b)→tn i s.heap→J.go i H→
  wpAny (model P w) X.A (pyNext (.ref it)) (λr s1=>∃u,r=some u∧
   wpAny (model P w) X.A (letOwnedTupleGo tg (.ref it) u) (λ_ s2=>∃x H',Inv X pins σ H' s2∧zae x u∧J.yld i H x H'∧tn (i+1) s2.heap∧∀b∈fp,H' b=none) E s1) E s
 done:∀(X:Cx),X.prog=P→X.w=w→X.K=K→X.calm=true→∀(i:Nat) (pins:List (Addr×Obj)) (s:Shared) (σ:St) (H:Hp) (E:Value→Shared→Prop),Inv X pins σ H s→(∀b∈fp,zbe X pins H b)→tn i s.heap→J.stop i H→
  wpAny (model P w) X.A (pyNext (.ref it)) (λr s1=>r=none∧Inv X pins σ H s1) E s
 self:∀(A:Around) (i:Nat) (s:Shared) (Q:Value→Shared→Prop) (E:Value→Shared→Prop),tn i s.heap→Q (.ref it) s→wpAny (model P w) A (pyIter (.ref it)) Q E s
abbrev TI:=St→Hp→(It→Hp→Prop)→Prop
def PIE (X:Cx)(pins:List (Addr×Obj))(σ:St)(tg:Expr)(R:It→Hp→Prop)(itv:Value)(s2:Shared):Prop:=
 ∃(it:Addr) (fp:List Addr) (tn:Nat→Heap→Prop) (J:It) (H':Hp),itv=.ref it∧Inv X pins σ H' s2∧zed X.prog X.w X.K tg J fp it tn∧tn 0 s2.heap∧(∀b∈fp,zbe X pins H' b)∧R J H'
def PI (X:Cx)(tg iter:Expr)(wi:TI):Prop:=
 ∀(pins:List (Addr×Obj)) (s:Shared) (σ:St) (H:Hp) (R:It→Hp→Prop),Inv X pins σ H s→wi σ H R→
  wpAny (model X.prog X.w) X.A (eval iter X.env) (λv s1=>wpAny (model X.prog X.w) X.A (pyIter v) (PIE X pins σ tg R) X.xe s1) X.xe s
theorem ziu {M:Model}{A:Around}{E:Value→Shared→Prop}{s:Shared}{tg:Expr}{it:Addr}{u:Value}{o:Obj}{n:String}{vs:Array Value}{Q:Unit→Shared→Prop}(ho:s.heap.get? it=some o)(hc:o.cls=.type n)(hd:o.data=.fields vs)
    (hn:["enumerate","zip","dict_itemiterator","dict_reverseitemiterator","odict_iterator","itertools.zip_longest","itertools.pairwise"].contains n=false)(hQ:Q () s):wpAny M A (letOwnedTupleGo tg (.ref it) u) Q E s:=by
  unfold letOwnedTupleGo
  cases tg <;> first
    | exact wpAny_pure hQ
    | (cases u <;> first
        | exact wpAny_pure hQ
        | (refine wpAny_bind (wpAny_load ho ?_)
           rw[hc,hd]
           show wpAny M A (if (["enumerate","zip","dict_itemiterator","dict_reverseitemiterator","odict_iterator","itertools.zip_longest","itertools.pairwise"].contains n&&vs[0]?==some (rawInt _))=true then _ else _) Q E s
           rw[if_neg (by intro h; rw[hn,Bool.false_and] at h; cases h)]
           exact wpAny_pure hQ))
def Itl (K:PySem.W.Frag)(a:Addr):It:=
 ⟨λi H=>∃xs x,SqL K H a xs∧xs[i]?=some x,λi H x H'=>H'=H∧∀xs,SqL K H a xs→xs[i]?=some x,λi H=>∃xs,SqL K H a xs∧xs.length≤i⟩
def Itr (lo:Int)(n:Nat):It:=⟨λi _=>i<n,λi H x H'=>H'=H∧x=.int (lo+i),λi _=>n≤i⟩
theorem zlL {P:Program}{w:World}{K:PySem.W.Frag}{tg:Expr}(a it:Addr):zed P w K tg (Itl K a) [it] it (λi h=>h.IsListIter it a i) where
 mem:=by simp
 obj:=λi h st b hb=>by
  have e:b=it:=by simpa using hb
  subst e
  obtain⟨o,e,c,d⟩:=st
  exact⟨o,e,λv z=>by rw[d] at z; cases z⟩
 keep:=λi h h' st k=>st.at λo e=>k it (by simp) o e
 item:=by
  intro X hP hw hK hc i pins s σ H E I hf st hg
  subst hP hw hK
  obtain⟨xs,x,hq,hx⟩:=hg
  obtain⟨its,rv,p,hz⟩:=I.list hq
  obtain⟨u,hu,ru⟩:=rv.get hx
  obtain⟨f0,f1,f2,f3,f4,f5⟩:=hf it (by simp)
  refine wpAny_pyNext_list_item st p.isList (x:=u) (by simpa using hu) λh' st' sb=>?_
  have I1:Inv X pins σ H { s with heap:=h' }:=I.turned (t':=s.toks) (λb o hb e=>(sb.2 b hb).trans e) f0 f1 f3 f4 f5
  obtain⟨o,e,c,d⟩:=id st'
  exact⟨u,rfl,ziu (s:={ s with heap:=h' }) e c d (by decide) ⟨x,H,I1,ru,⟨rfl,λys hy=>by rw[I.list_inj hy hq]; exact hx⟩,st',λb hb=>(hf b hb).1⟩⟩
 done:=by
  intro X hP hw hK hc i pins s σ H E I hf st hg
  subst hP hw hK
  obtain⟨xs,hq,hx⟩:=hg
  obtain⟨its,rv,p,hz⟩:=I.list hq
  obtain⟨f0,f1,f2,f3,f4,f5⟩:=hf it (by simp)
  have hl:=rv.length
  exact wpAny_pyNext_list_end (I.ok.hd hc) st p.isList (by simp; omega) λh' eb=>⟨rfl,I.turned (t':=s.toks) (λb o hb e=>eb b o hb e) f0 f1 f3 f4 f5⟩
 self:=λ_ _ _ _ _ st h=>wpAny_pyIter_listiter st h
theorem ziZ {P:Program}{w:World}{K:PySem.W.Frag}{tg:Expr}(it:Addr)(lo:Int)(n:Nat):zed P w K tg (Itr lo n) [it] it (λi h=>IsRangeIter h it (lo+(i:Nat)*1) ((n:Int)-(i:Nat)) 1) where
 mem:=by simp
 obj:=λi h st b hb=>by
  have e:b=it:=by simpa using hb
  subst e
  exact⟨_,st,λv z=>by
   have z':Data.fields _=Data.cell v:=z
   cases z'⟩
 keep:=λi h h' st k=>k it (by simp) _ st
 item:=by
  intro X hP hw hK hc i pins s σ H E I hf st hg
  subst hP hw hK
  obtain⟨f0,f1,f2,f3,f4,f5⟩:=hf it (by simp)
  have W:=Walks.range (prog:=X.prog) (w:=X.w) (I.ok.hd hc) it lo 1 n
  refine W.item i s _ _ hg st λv h' tk hv st' kk=>?_
  obtain⟨t,rfl⟩:=hv
  have I1:Inv X pins σ H { s with heap:=h',toks:=tk }:=I.turned (λb o hb e=>kk b o (by simpa using hb) e) f0 f1 f3 f4 f5
  refine⟨_,rfl,ziu (s:={ s with heap:=h',toks:=tk }) (n:="range_iterator") st' rfl rfl (by decide) ⟨.int (lo+i),H,I1,⟨t,?_⟩,⟨rfl,rfl⟩,st',λb hb=>(hf b hb).1⟩⟩
  rw[Int.mul_one]
 done:=by
  intro X hP hw hK hc i pins s σ H E I hf st hg
  subst hP hw hK
  obtain⟨f0,f1,f2,f3,f4,f5⟩:=hf it (by simp)
  exact wpAny_pyNext_range_end (I.ok.hd hc) st (by have:n≤i:=hg; omega) λh' eb=>⟨rfl,I.turned (t':=s.toks) (λb o hb e=>eb b o hb e) f0 f1 f3 f4 f5⟩
 self:=λ_ _ _ _ _ st h=>wpAny_pyIter_rangeiter st h
end L2
namespace L2
open PySem PySem.Spec PyProof.Rows
section
variable {X:Cx}{tg:Expr}
def zfM (K:PySem.W.Frag)(tl:TE):TI:=λσ H R=>tl σ H λx H1=>∃a,x=.ref a∧(∃xs,SqL K H1 a xs)∧R (Itl K a) H1
theorem zfm {l:Expr}{tl:TE}(hl:PE X l tl):PI X tg l (zfM X.K tl):=by
 intro pins s σ H R I h
 refine thn (hl pins s σ H _ I h) λv s1 ⟨x,H1,I1,r1,q1⟩=>?_
 obtain⟨a,e,⟨xs,hq⟩,q⟩:=q1
 subst e
 cases r1
 obtain⟨its,rv,p,hz⟩:=I1.list hq
 refine wpAny_pyIter_list p.isList ?_
 refine⟨s1.heap.objs.size,[s1.heap.objs.size],_,_,H1,rfl,I1.kept (t':=s1.toks) λb o e=>Heap.get?_push_of_some _ e,zlL a _,⟨_,Heap.get?_push_size _ rfl,rfl,rfl⟩,λb hb=>?_,q⟩
 have e:b=s1.heap.objs.size:=by simpa using hb
 subst e
 exact I1.fpOk (Vaa _) (I1.hok.fresh (Vaa _))
theorem zkA {pins:List (Addr×Obj)}{σ:St}{H:Hp}{s:Shared}{R:It→Hp→Prop}{E:Value→Shared→Prop}{lo hi:Int}{t u v:Tok}{tk:Nat}(I:Inv X pins σ H s)(h1:-(2^62)≤lo)(h2:lo<2^62)(h3:-(2^62)≤hi)(h4:hi<2^62)
  (q:R (Itr lo (hi-lo).toNat) H):wpAny (model X.prog X.w) X.A (pyIter (.ref s.heap.objs.size)) (PIE X pins σ tg R) E { s with heap:=s.heap.push { cls:=.type "range",data:=.fields #[.int lo t,.int hi u,.int 1 v] },toks:=tk }:=by
 refine wpAny_pyIter_range (IsRange.new ..) (small_one h1 h2 h3 h4) ?_
 have I1:Inv X pins σ H { s with heap:=s.heap.push { cls:=.type "range",data:=.fields #[.int lo t,.int hi u,.int 1 v] },toks:=tk }:=I.kept λb o e=>Heap.get?_push_of_some _ e
 refine⟨(s.heap.push { cls:=.type "range",data:=.fields #[.int lo t,.int hi u,.int 1 v] }).objs.size,[(s.heap.push { cls:=.type "range",data:=.fields #[.int lo t,.int hi u,.int 1 v] }).objs.size],_,_,H,rfl,
  I1.kept (t':=tk) λb o e=>Heap.get?_push_of_some _ e,ziZ _ lo (hi-lo).toNat,?_,λb hb=>?_,q⟩
 ·have e1:lo+((0:Nat):Int)*1=lo:=by simp
  have e2:(((hi-lo).toNat:Nat):Int)-((0:Nat):Int)=Builtin.Range.rangeSize lo hi 1:=by rw[rangeSize_one]; split <;> omega
  show IsRangeIter _ _ (lo+((0:Nat):Int)*1) ((((hi-lo).toNat:Nat):Int)-((0:Nat):Int)) 1
  rw[e1,e2]
  exact Heap.get?_push_size _ rfl
 ·have e:b=(s.heap.push { cls:=.type "range",data:=.fields #[.int lo t,.int hi u,.int 1 v] }).objs.size:=by simpa using hb
  subst e
  exact I1.fpOk (Vaa _) (I1.hok.fresh (Vaa _))
def zhW (ta:TA):TI:=λσ H R=>ta σ H λvs H1=>∃j:Int,vs=[.int j]∧-(2^62)≤j∧j<2^62∧R (Itr 0 j.toNat) H1
theorem zgC {a:Expr}{ta:TA}{p pos:Pos}(hg:Gl X "range")(hm:X.mg "range"=none)(ha:PA X [a] ta)(hs:starEach [a] X.env=[(false,eval a X.env)]:=by rfl):PI X tg (.Call (.Name "range" p) [a] [] pos) (zhW ta):=by
 intro pins s σ H R I h
 refine Call_ (zc5 I hg hm boot_range (PyProof.Rows.callWith_type1 (thn (ha pos pins s σ H _ I h) λus s1 ⟨vs,H1,I1,r1,q1⟩=>?_) hs rfl))
 obtain⟨j,e,q1,q2,q⟩:=q1
 subst e
 cases r1 with
 | cons r rr=>
  cases rr
  obtain⟨t,rfl⟩:=r
  exact call_range_1 (zkA I1 (by omega) (by omega) q1 q2 (by simpa using q))
def tFor (wi:TI)(g:TG)(tb:TS):TS:=λD σ H=>wi σ H λJ H1=>∃W:Nat→Nat→St→Hp→Prop,(∃m,W 0 m σ H1)∧∀i m σ H,W i m σ H→
 (J.stop i H∧D.nx σ H)∨(J.go i H∧∃N:St→Hp→Prop,(∀σ' H',N σ' H'→∃m',m'<m∧W (i+1) m' σ' H')∧∀x H',J.yld i H x H'→g x σ H' λσ2 H2=>tb { D with nx:=N,ct:=N,bk:=D.nx } σ2 H2)
def zc7 (fp:List Addr)(h:Heap):List (Addr×Obj):=fp.filterMap λb=>(h.get? b).map λo=>(b,o)
theorem zdh {fp:List Addr}{h:Heap}{b:Addr}{o:Obj}(hb:b∈fp)(e:h.get? b=some o):(b,o)∈zc7 fp h:=List.mem_filterMap.mpr ⟨b,hb,by rw[e]; rfl⟩
theorem zjw {fp:List Addr}{h:Heap}{p:Addr×Obj}(hp:p∈zc7 fp h):p.1∈fp∧h.get? p.1=some p.2:=by
 obtain⟨b,hb,e⟩:=List.mem_filterMap.mp hp
 cases q:h.get? b with
 | none=>rw[q] at e; cases e
 | some o=>
  rw[q] at e
  have e':(b,o)=p:=Option.some.inj e
  subst e'
  exact⟨hb,q⟩
theorem Inv.pinned {pins:List (Addr×Obj)}{σ:St}{H:Hp}{s:Shared}{fp:List Addr}(I:Inv X pins σ H s)(hf:∀b∈fp,zbe X pins H b)(ho:∀b∈fp,∃o,s.heap.get? b=some o∧∀v,o.data≠.cell v):Inv X (pins++zc7 fp s.heap) σ H s:=
 I.pins_of λp hp=>(Va2.mp hp).elim (λz=>I.pin p (Vaz _ z)) λz=>by
  obtain⟨hb,e⟩:=zjw z
  obtain⟨f0,f1,f2,_⟩:=hf p.1 hb
  obtain⟨o,e',d⟩:=ho p.1 hb
  rw[e] at e'; cases e'
  exact⟨e,f0,f1,f2,d⟩
theorem Inv.unpinned {pins pl:List (Addr×Obj)}{σ:St}{H:Hp}{s:Shared}(I:Inv X (pins++pl) σ H s):Inv X pins σ H s:=I.pins_of λp hp=>I.pin p (Vaz _ (List.mem_append_left _ hp))
theorem zf9 {iter:Expr}{body:List Stmt}{wi:TI}{g:TG}{tb:TS}{pos:Pos}(hp:PassesOwn (model X.prog X.w) X.A X.env X.xe)(hc:X.calm=true)(hi:PI X tg iter wi)(hg:PG X tg g)(hb:PSs X body tb)
  (hs:∀x,foldedSetIterable iter X.env x=pure x:=by intro _; rfl):PS X (.For tg iter body [] pos) (tFor wi g tb):=by
 intro pins s σ H D I h
 refine wpAny_For (thn (hi pins s σ H _ I h) λv s1 h1=>thn h1 λitv s2 h2=>?_) hs
 obtain⟨it,fp,tn,J,H2,e,I2,T,st2,f2,W,⟨m0,w0⟩,turn⟩:=h2
 subst e
 have stat:∀ {H':Hp},(∀b∈fp,H' b=none)→∀b∈fp,zbe X pins H' b:=λhn b hb=>⟨hn b hb,(f2 b hb).2⟩
 refine codeAny_forLoop_any (λn s'=>∃i σ' H',Inv X pins σ' H' s'∧tn i s'.heap∧(∀b∈fp,H' b=none)∧W i n σ' H') ?_ m0 ⟨0,σ,H2,I2,st2,λb hb=>(f2 b hb).1,w0⟩
 rintro n s3 ⟨i,σ3,H3,I3,st3,fr3,w3⟩
 rcases turn i n σ3 H3 w3 with ⟨stop,qn⟩ | ⟨go,N,hN,step⟩
 ·refine wpAny_passesOwn hp (thn (T.done X rfl rfl rfl hc i pins s3 σ3 H3 X.xe I3 (stat fr3) st3 stop) λr s4 ⟨hr,I4⟩=>?_)
  subst hr
  exact wpAny_execs_nil ⟨σ3,H3,I4,qn⟩
 ·refine wpAny_passesOwn hp (thn (T.item X rfl rfl rfl hc i pins s3 σ3 H3 X.xe I3 (stat fr3) st3 go) λr s4 ⟨u,hr,h4⟩=>?_)
  subst hr
  refine wpAny_passesOwn hp (thn h4 λ_ s5 ⟨x,H5,I5,r5,y5,st5,fr5⟩=>?_)
  have I5':=I5.pinned (stat fr5) (T.obj _ _ st5)
  refine wpAny_passesOwn hp (thn (hg _ s5 σ3 H5 x u _ I5' r5 (step x H5 y5)) λ_ s6 ⟨σ6,H6,I6,q6⟩=>?_)
  refine wpAny_passesOwn hp (thn (hb _ s6 σ6 H6 _ I6 q6) λf s7 q7=>?_)
  have again:∀ {σ7:St} {H7:Hp},Inv X (pins++zc7 fp s5.heap) σ7 H7 s7→N σ7 H7→∃m,m<n∧∃i σ' H',Inv X pins σ' H' s7∧tn i s7.heap∧(∀b∈fp,H' b=none)∧W i m σ' H':=λ{σ7 H7} I7 n7=>by
   obtain⟨m',hm,w7⟩:=hN σ7 H7 n7
   refine⟨m',hm,i+1,σ7,H7,I7.unpinned,T.keep _ _ _ st5 λb hb o e=>(I7.pin (b,o) (Vaz _ (Vaz _ (zdh hb e)))).1,λb hb=>?_,w7⟩
   obtain⟨o,e,d⟩:=T.obj _ _ st5 b hb
   exact(I7.pin (b,o) (Vaz _ (Vaz _ (zdh hb e)))).2.1
  cases f with
  | next=>obtain⟨σ7,H7,I7,n7⟩:=q7; exact again I7 n7
  | cont=>obtain⟨σ7,H7,I7,n7⟩:=q7; exact again I7 n7
  | brk=>obtain⟨σ7,H7,I7,q7⟩:=q7; exact⟨σ7,H7,I7.unpinned,q7⟩
  | ret v=>obtain⟨x7,σ7,H7,I7,r7,q7⟩:=q7; exact⟨x7,σ7,H7,I7.unpinned,r7,q7⟩
end
end L2
namespace L2
open PySem PySem.Spec PyProof.Rows
abbrev R2:=V→V→Hp→VK→Prop
def OpR (X:Cx)(f:Value→Value→Sem Value)(r:R2):Prop:=
 ∀(pins:List (Addr×Obj)) (s:Shared) (σ:St) (H:Hp) (x y:V) (v u:Value) (Q:VK),Inv X pins σ H s→zae x v→zae y u→r x y H Q→
  wpAny (model X.prog X.w) X.A (f v u) (EP X pins σ Q) X.xe s
def zaI (X:Cx)(f:Value)(r:List V→Hp→VK→Prop):Prop:=
 ∀(pins:List (Addr×Obj)) (s:Shared) (σ:St) (H:Hp) (xs:List V) (us:List Value) (Q:VK),Inv X pins σ H s→zaf xs us→r xs H Q→
  wpAny (model X.prog X.w) X.A (call f us) (EP X pins σ Q) X.xe s
def tOp (r:R2)(ta tb:TE):TE:=λσ H Q=>ta σ H λx H1=>tb σ H1 λy H2=>r x y H2 Q
def rI (C:Int→Int→Prop)(g:Int→Int→V):R2:=λx y H Q=>∃i j,x=.int i∧y=.int j∧C i j∧Q (g i j) H
def rI0 (g:Int→Int→V):R2:=λx y H Q=>∃i j,x=.int i∧y=.int j∧Q (g i j) H
section
variable {X:Cx}{a b c:Expr}{ta tb tc:TE}{pos:Pos}
theorem binT (ha:PE X a ta)(hb:PE X b tb){pins:List (Addr×Obj)}{s:Shared}{σ:St}{H:Hp}{R:V→V→Hp→Prop}(I:Inv X pins σ H s)
  (h:ta σ H λx H1=>tb σ H1 λy H2=>R x y H2){Q:Value→Shared→Prop}{f:Value→Value→Sem Value}
  (hf:∀v u s2 x y H2,Inv X pins σ H2 s2→zae x v→zae y u→R x y H2→wpAny (model X.prog X.w) X.A (f v u) Q X.xe s2):
  wpAny (model X.prog X.w) X.A (eval a X.env) (λv s₁=>wpAny (model X.prog X.w) X.A (eval b X.env) (λu s₂=>wpAny (model X.prog X.w) X.A (f v u) Q X.xe s₂) X.xe s₁) X.xe s:=by
 refine thn (ha pins s σ H _ I h) λv s1 ⟨x,H1,I1,r1,q1⟩=>?_
 refine thn (hb pins s1 σ H1 _ I1 q1) λu s2 ⟨y,H2,I2,r2,q2⟩=>?_
 exact hf v u s2 x y H2 I2 r1 r2 q2
theorem pe_op {op:Operator}{r:R2}(ho:OpR X (binaryOp op) r)(ha:PE X a ta)(hb:PE X b tb):PE X (.BinOp a op b pos) (tOp r ta tb):=by
 intro pins s σ H Q I h
 exact wpAny_BinOp (binT ha hb I h λv u s2 x y H2 I2 rx ry q=>ho pins s2 σ H2 x y v u Q I2 rx ry q)
theorem opI {f:Value→Value→Sem Value}{C:Int→Int→Prop}{g:Int→Int→Int}
  (rule:∀(i j:Int) (t u:Tok) (s:Shared) (Q:Value→Shared→Prop) (E:Value→Shared→Prop),C i j→Q (.int (g i j) s.toks) { s with toks:=s.toks+1 }→wpAny (model X.prog X.w) X.A (f (.int i t) (.int j u)) Q E s):
  OpR X f (rI C λi j=>.int (g i j)):=by
 intro pins s σ H x y v u Q I rx ry h
 obtain⟨i,j,rfl,rfl,hc,q⟩:=h
 obtain⟨t,rfl⟩:=rx
 obtain⟨t',rfl⟩:=ry
 exact rule i j t t' s _ _ hc ⟨.int (g i j),H,I.tok _,⟨_,rfl⟩,q⟩
theorem opI0 {f:Value→Value→Sem Value}{g:Int→Int→Int}
  (rule:∀(i j:Int) (t u:Tok) (s:Shared) (Q:Value→Shared→Prop) (E:Value→Shared→Prop),Q (.int (g i j) s.toks) { s with toks:=s.toks+1 }→wpAny (model X.prog X.w) X.A (f (.int i t) (.int j u)) Q E s):
  OpR X f (rI0 λi j=>.int (g i j)):=by
 intro pins s σ H x y v u Q I rx ry h
 obtain⟨i,j,rfl,rfl,q⟩:=h
 obtain⟨t,rfl⟩:=rx
 obtain⟨t',rfl⟩:=ry
 exact rule i j t t' s _ _ ⟨.int (g i j),H,I.tok _,⟨_,rfl⟩,q⟩
theorem opB0 {f:Value→Value→Sem Value}{g:Int→Int→Bool}
  (rule:∀(i j:Int) (t u:Tok) (s:Shared) (Q:Value→Shared→Prop) (E:Value→Shared→Prop),Q (.bool (g i j)) s→wpAny (model X.prog X.w) X.A (f (.int i t) (.int j u)) Q E s):
  OpR X f (rI0 λi j=>.bl (g i j)):=by
 intro pins s σ H x y v u Q I rx ry h
 obtain⟨i,j,rfl,rfl,q⟩:=h
 obtain⟨t,rfl⟩:=rx
 obtain⟨t',rfl⟩:=ry
 exact rule i j t t' s _ _ ⟨.bl (g i j),H,I,rfl,q⟩
def CPow (i j:Int):Prop:=0≤j∧j≤1000000∧i.natAbs<2^64
def CMul (i j:Int):Prop:=(-(2^64)<i∧i<2^64)∨(-(2^64)<j∧j<2^64)
theorem CMul.ok {i j:Int}(h:CMul i j):IntMulOk i j:=by
 rcases h with ⟨h1,h2⟩ | ⟨h1,h2⟩
 ·exact .of_left (intBits_le_64 h1 h2)
 ·exact .of_right (intBits_le_64 h1 h2)
theorem zlb:OpR X (binaryOp .Add) (rI0 λi j=>.int (i+j)):=opI0 λ_ _ _ _ _ _ _ q=>add_int q
theorem ziS:OpR X (binaryOp .Sub) (rI0 λi j=>.int (i-j)):=opI0 λ_ _ _ _ _ _ _ q=>sub_int q
theorem zlZ:OpR X (binaryOp .Mod) (rI (λ_ j=>0<j) λi j=>.int (i%j)):=opI λi j _ _ _ _ _ hc q=>by
 have h1:(0:Int)<j:=hc
 exact mod_int' (by omega) (by rw[Int.fmod_eq_emod_of_nonneg i (by omega)]; exact q)
theorem zld:OpR X (binaryOp .Pow) (rI CPow λi j=>.int (i^j.toNat)):=opI λ_ _ _ _ _ _ _ hc q=>pow_int_small hc.1 hc.2.1 hc.2.2 q
end
def zeC:V→V→Bool
 | .non,.non=>true | .non,.int _=>true | .int _,.non=>true | .non,.bl _=>true | .bl _,.non=>true | .non,.str _=>true | .str _,.non=>true
 | .int _,.int _=>true | .bl _,.bl _=>true | .str _,.str _=>true | .byt _,.byt _=>true
 | .int _,.str _=>true | .str _,.int _=>true | .bl _,.str _=>true | .str _,.bl _=>true
 | _,_=>false
def rEq:R2:=λx y H Q=>zeC x y=true∧Q (.bl (decide (x=y))) H
def rNe:R2:=λx y H Q=>zeC x y=true∧Q (.bl (!decide (x=y))) H
theorem zhh {i j:Int}:decide (V.int i=V.int j)=(i==j):=by
 rw[VaX]
 simp
theorem ziy {i j:Bool}:decide (V.bl i=V.bl j)=(i==j):=by
 rw[VaX]
 simp
theorem zhv {i j:Str}:decide (V.str i=V.str j)=(i==j):=by
 rw[VaX]
 simp
theorem zgS {i j:Array UInt8}:decide (V.byt i=V.byt j)=(i.toList==j.toList):=by
 rw[VaX]
 cases i
 cases j
 simp
section
variable {X:Cx}{a b c:Expr}{ta tb tc:TE}{pos:Pos}
theorem zaA {pins:List (Addr×Obj)}{σ:St}{H:Hp}{s:Shared}{Q:VK}{k k':Bool}(I:Inv X pins σ H s)(q:Q (.bl k) H)(e:k=k'):EP X pins σ Q (.bool k') s:=by
 subst e
 exact⟨.bl k,H,I,rfl,q⟩
theorem zgi:OpR X (compareOp .Eq) rEq:=by
 intro pins s σ H x y v u Q I rx ry h
 obtain⟨hs,q⟩:=h
 cases x with
 | non=>
  cases rx
  cases y with
  | non=>cases ry; exact PySem.EqNone.eq_none_none (zaA I q (by simp))
  | bl j=>cases ry; exact PySem.EqNone.eq_none_bool (zaA I q (by simp))
  | int j=>obtain⟨t',rfl⟩:=ry; exact PySem.EqNone.eq_none_int (zaA I q (by simp))
  | str j=>obtain⟨t',rfl⟩:=ry; exact PySem.EqNone.eq_none_str (zaA I q (by simp))
  | _=>exact absurd (show false=true from hs) Van
 | bl i=>
  cases rx
  cases y with
  | non=>cases ry; exact PySem.EqNone.eq_bool_none (zaA I q (by simp))
  | bl j=>cases ry; exact eq_bool (zaA I q ziy)
  | str j=>obtain⟨t',rfl⟩:=ry; exact PySem.EqMixed.eq_bool_str (zaA I q (by simp))
  | _=>exact absurd (show false=true from hs) Van
 | int i=>
  obtain⟨t,rfl⟩:=rx
  cases y with
  | non=>cases ry; exact PySem.EqNone.eq_int_none (zaA I q (by simp))
  | int j=>obtain⟨t',rfl⟩:=ry; exact eq_int (zaA I q zhh)
  | str j=>obtain⟨t',rfl⟩:=ry; exact PySem.EqMixed.eq_int_str (zaA I q (by simp))
  | _=>exact absurd (show false=true from hs) Van
 | str i=>
  obtain⟨t,rfl⟩:=rx
  cases y with
  | non=>cases ry; exact PySem.EqNone.eq_str_none (zaA I q (by simp))
  | bl j=>cases ry; exact PySem.EqMixed.eq_str_bool (zaA I q (by simp))
  | int j=>obtain⟨t',rfl⟩:=ry; exact PySem.EqMixed.eq_str_int (zaA I q (by simp))
  | str j=>obtain⟨t',rfl⟩:=ry; exact eq_str (zaA I q zhv)
  | _=>exact absurd (show false=true from hs) Van
 | byt i=>
  obtain⟨t,rfl⟩:=rx
  cases y with
  | byt j=>obtain⟨t',rfl⟩:=ry; exact PySem.W.eq_bytes (zaA I q zgS)
  | _=>exact absurd (show false=true from hs) Van
 | _=>cases y <;> exact absurd (show false=true from hs) Van
theorem op_ne:OpR X (compareOp .NotEq) rNe:=by
 intro pins s σ H x y v u Q I rx ry h
 obtain⟨hs,q⟩:=h
 cases x with
 | non=>
  cases rx
  cases y with
  | non=>cases ry; exact PySem.EqNone.ne_none_none (zaA I q (by simp))
  | bl j=>cases ry; exact PySem.EqNone.ne_none_bool (zaA I q (by simp))
  | int j=>obtain⟨t',rfl⟩:=ry; exact PySem.EqNone.ne_none_int (zaA I q (by simp))
  | str j=>obtain⟨t',rfl⟩:=ry; exact PySem.EqNone.ne_none_str (zaA I q (by simp))
  | _=>exact absurd (show false=true from hs) Van
 | bl i=>
  cases rx
  cases y with
  | non=>cases ry; exact PySem.EqNone.ne_bool_none (zaA I q (by simp))
  | bl j=>cases ry; exact ne_bool (zaA I q (congrArg not ziy))
  | str j=>obtain⟨t',rfl⟩:=ry; exact PySem.EqMixed.ne_bool_str (zaA I q (by simp))
  | _=>exact absurd (show false=true from hs) Van
 | int i=>
  obtain⟨t,rfl⟩:=rx
  cases y with
  | non=>cases ry; exact PySem.EqNone.ne_int_none (zaA I q (by simp))
  | int j=>obtain⟨t',rfl⟩:=ry; exact ne_int (zaA I q (congrArg not zhh))
  | str j=>obtain⟨t',rfl⟩:=ry; exact PySem.EqMixed.ne_int_str (zaA I q (by simp))
  | _=>exact absurd (show false=true from hs) Van
 | str i=>
  obtain⟨t,rfl⟩:=rx
  cases y with
  | non=>cases ry; exact PySem.EqNone.ne_str_none (zaA I q (by simp))
  | bl j=>cases ry; exact PySem.EqMixed.ne_str_bool (zaA I q (by simp))
  | int j=>obtain⟨t',rfl⟩:=ry; exact PySem.EqMixed.ne_str_int (zaA I q (by simp))
  | str j=>obtain⟨t',rfl⟩:=ry; exact ne_str (zaA I q (congrArg not zhv))
  | _=>exact absurd (show false=true from hs) Van
 | byt i=>
  obtain⟨t,rfl⟩:=rx
  cases y with
  | byt j=>obtain⟨t',rfl⟩:=ry; exact PySem.W.ne_bytes (zaA I q (congrArg not zgS))
  | _=>exact absurd (show false=true from hs) Van
 | _=>cases y <;> exact absurd (show false=true from hs) Van
theorem op_lt:OpR X (compareOp .Lt) (rI0 λi j=>.bl (decide (i<j))):=opB0 λ_ _ _ _ _ _ _ q=>lt_int q
theorem op_gt:OpR X (compareOp .Gt) (rI0 λi j=>.bl (decide (j<i))):=opB0 λ_ _ _ _ _ _ _ q=>gt_int q
theorem zkC:OpR X (compareOp .IsNot) (λx y H Q=>y=.non∧Q (.bl (!decide (x=.non))) H):=by
 intro pins s σ H x y v u Q I rx ry h
 obtain⟨rfl,q⟩:=h
 cases ry
 refine isnot_none_gen (zaA I q ?_)
 cases x <;> first
  | (cases rx; rfl)
  | (obtain⟨t,rfl⟩:=rx; rfl)
theorem OpR.or {f:Value→Value→Sem Value}{r r':R2}(h:OpR X f r)(h':OpR X f r'):OpR X f (λx y H Q=>r x y H Q∨r' x y H Q):=by
 intro pins s σ H x y v u Q I rx ry q
 rcases q with q | q
 ·exact h pins s σ H x y v u Q I rx ry q
 ·exact h' pins s σ H x y v u Q I rx ry q
theorem zaw (b:Expr){op:CmpOp}(h:op≠.In:=by decide)(h2:op≠.NotIn:=by decide):behindInMarks op b=false:=by
 have e1:(op==CmpOp.In)=false:=by cases op <;> first | rfl | exact absurd rfl h
 have e2:(op==CmpOp.NotIn)=false:=by cases op <;> first | rfl | exact absurd rfl h2
 cases b <;> simp[behindInMarks,e1,e2]
theorem zl8 {op:CmpOp}{r:R2}(ho:OpR X (compareOp op) r)(ha:PE X a ta)(hb:PE X b tb)(hm:behindInMarks op b=false):PE X (.Compare a [op] [b] pos) (tOp r ta tb):=by
 intro pins s σ H Q I h
 exact wpAny_Compare1 (binT ha hb I h λv u s2 x y H2 I2 rx ry q=>ho pins s2 σ H2 x y v u Q I2 rx ry q) hm
def tTest (t:TE):TT:=λσ H Q=>t σ H λx H'=>∃k,x=.bl k∧Q k H'
theorem zkT {op:CmpOp}{r:R2}(ho:OpR X (compareOp op) r)(ha:PE X a ta)(hb:PE X b tb)(hm:behindInMarks op b=false):PT X (.Compare a [op] [b] pos) (tTest (tOp r ta tb)):=by
 intro pins s σ H Q I h
 refine wpAny_isTrue_Compare1 (thn (ha pins s σ H _ I h) λv s1 ⟨x,H1,I1,r1,q1⟩=>thn (hb pins s1 σ H1 _ I1 q1) λu s2 ⟨y,H2,I2,r2,q2⟩=>
  thn (ho pins s2 σ H2 x y v u _ I2 r1 r2 q2) λc s3 ⟨z,H3,I3,r3,k,e,q3⟩=>?_) hm
 subst e
 cases r3
 exact wpAny_truthy_bool ⟨H3,I3,q3⟩
theorem zf3:(sizeLine:Nat)<2^63:=by rw[sizeLine_eq]; decide
theorem zcr {x:V}{us:List Value}(r:zaf [x] us):∃u,us=[u]∧zae x u:=by
 cases r with
 | cons r1 r2=>cases r2; exact⟨_,rfl,r1⟩
theorem zgy {x y:V}{us:List Value}(r:zaf [x,y] us):∃u w',us=[u,w']∧zae x u∧zae y w':=by
 cases r with
 | cons r1 r2=>
  cases r2 with
  | cons r3 r4=>cases r4; exact⟨_,_,rfl,r1,r3⟩
theorem zjq (hc:X.calm=true):zaI X (.builtin "max") (λxs H Q=>∃i j,xs=[.int i,.int j]∧Q (.int (if j > i then j else i)) H):=by
 intro pins s σ H xs us Q I r h
 obtain⟨i,j,rfl,q⟩:=h
 obtain⟨u,w',rfl,⟨t,rfl⟩,⟨t',rfl⟩⟩:=zgy r
 refine max_two_ints (I.ok.hd hc) λh' tk k=>⟨_,H,I.kept k,?_,q⟩
 by_cases hj:j > i
 ·rw[if_pos hj,if_pos hj]; exact⟨_,rfl⟩
 ·rw[if_neg hj,if_neg hj]; exact⟨_,rfl⟩
theorem zlS (hc:X.calm=true):zaI X (.builtin "min") (λxs H Q=>∃i j,xs=[.int i,.int j]∧Q (.int (if j<i then j else i)) H):=by
 intro pins s σ H xs us Q I r h
 obtain⟨i,j,rfl,q⟩:=h
 obtain⟨u,w',rfl,⟨t,rfl⟩,⟨t',rfl⟩⟩:=zgy r
 refine min_two_ints (I.ok.hd hc) λh' tk k=>⟨_,H,I.kept k,?_,q⟩
 by_cases hj:j<i
 ·rw[if_pos hj,if_pos hj]; exact⟨_,rfl⟩
 ·rw[if_neg hj,if_neg hj]; exact⟨_,rfl⟩
end
end L2
namespace L2
open PySem PySem.Spec PyProof.Rows
structure ObjM (h:Heap)(x dx C:Addr)(mA:Str→Option Value):Prop where
 obj:h.get? x=some (PySem.W.instObj C dx)
 ns:h.Ns1 dx mA
 ne:dx≠x
theorem zk9 {h:Heap}{dx:Addr}{mA:Str→Option Value}(n:h.Ns1 dx mA):∃od,h.get? dx=some od∧∀name,PySem.W.lookIn name od=some (mA name):=by
 obtain⟨o,es,ep,ho,hd,hk,_,hm⟩:=n
 refine⟨o,ho,λname=>?_⟩
 have e:=hm name
 unfold nsFind findBy at e
 rw[← Array.find?_toList] at e
 unfold PySem.W.lookIn
 rw[hd]
 dsimp only
 split
 ·rename_i y q
  rw[q] at e
  exact congrArg some e
 ·rename_i q
  rw[q] at e
  have a:es.toList.any (·.refKey)=false:=by
   rw[List.any_eq_false]
   intro y hy
   obtain⟨z,t,hkey⟩:=hk y (Array.mem_toList_iff.mp hy)
   simp[DictEntry.refKey,hkey]
  have a':¬ es.toList.any (·.refKey)=true:=by rw[a]; exact Van
  rw[if_neg a']
  exact congrArg some e
theorem ObjM.look {h:Heap}{x dx C:Addr}{mA:Str→Option Value}(I:ObjM h x dx C mA):∃od,PySem.W.InstAt h x (PySem.W.instObj C dx) C (some od)∧∀name,PySem.W.lookIn name od=some (mA name):=
 let ⟨od,ho,hl⟩:=zk9 I.ns
 ⟨od,⟨I.obj,rfl,rfl,ho⟩,hl⟩
section
variable {prog:Program}{w:World}{A:Around}{E:Value→Shared→Prop}{s:Shared}{K:PySem.W.Frag}{x dx C f:Addr}{mA:Str→Option Value}{name:Str}{v:Value}
end
def putF (f:Str)(v:V):List (Str×V)→List (Str×V)
 | []=>[(f,v)]
 | (g,x)::r=>if g=f then (g,v)::r else (g,x)::putF f v r
section
variable {P:Program}{w:World}{H H':Hp}{h h':Heap}{a C dx:Addr}{fs fs':List (Str×V)}
theorem zkh (hok:HOk P w H h)(e:H a=some (.ins C dx fs)):∃mA,ObjM h a dx C mA∧(∀f,zcn (fs.lookup f) (mA f))∧PySem.Within mA (fs.map (·.1))∧fs.length≤1000∧H dx=some (.own a):=by
 obtain⟨d,z,ne,ob,mA,n,r,q⟩:=(show zaZ P w H h a (.ins C dx fs) from hok a _ e)
 exact⟨mA,⟨ob,n,ne⟩,r,q,z,d⟩
end
structure Cls (K:PySem.W.Frag)(C:Addr):Prop where
 pg:PySem.W.plainGet K C Str.empty=true
 hd:PySem.W.hasDictIn K C=true
 po:PySem.W.plainOver K C=true
 sa:PySem.W.findIn K (.ref C) "__setattr__"=some (some (.builtin "object.__setattr__"))
theorem Cls.get {K:PySem.W.Frag}{C:Addr}(c:Cls K C)(f:Str):PySem.W.plainGet K C f=true:=c.pg
structure Con (K:PySem.W.Frag)(C:Addr)(f:Str)(v:V)(u:Value):Prop where
 at_:PySem.W.findIn K (.ref C) f=some (some u)
 rel:zae v u
 get:PySem.W.specialIn K u "__get__"=some none
 cp:PySem.W.copiedNames.contains f=false
structure Meth (K:PySem.W.Frag)(C:Addr)(m:Str)(f:Addr):Prop where
 at_:PySem.W.findIn K (.ref C) m=some (some (.ref f))
 fn:PySem.W.isFn K (.ref f)=true
 kp:PySem.W.keepIn K (.ref f)=true
section
variable {X:Cx}{pins:List (Addr×Obj)}{σ:St}{H:Hp}{s:Shared}{a C dx:Addr}{fs:List (Str×V)}{f:Str}{v:V}{A:Around}{E:Value→Shared→Prop}
theorem Inv.made (I:Inv X pins σ H s):Inv X pins σ (upd (upd H s.heap.objs.size (.own (s.heap.objs.size+1))) (s.heap.objs.size+1) (.ins C s.heap.objs.size []))
  { s with heap:=(s.heap.push PySem.W.emptyDict).push (PySem.W.instObj C s.heap.objs.size) }:=by
 have e1:(s.heap.push PySem.W.emptyDict).get? s.heap.objs.size=some PySem.W.emptyDict:=Heap.get?_push_size s.heap rfl
 have e2:((s.heap.push PySem.W.emptyDict).push (PySem.W.instObj C s.heap.objs.size)).get? (s.heap.objs.size+1)=some (PySem.W.instObj C s.heap.objs.size):=by
  have:=Heap.get?_push_size (s.heap.push PySem.W.emptyDict) (o:=PySem.W.instObj C s.heap.objs.size) rfl
  rwa [Heap.size_push] at this
 have e3:(s.heap.push PySem.W.emptyDict).Ns s.heap.objs.size (λ_=>none):=⟨PySem.W.emptyDict,#[],_,e1,rfl,(λe he=>absurd he (by simp)),λ_=>rfl⟩
 have I1:=I.laid (a:=s.heap.objs.size) (o:=.own (s.heap.objs.size+1)) (h':=s.heap.push PySem.W.emptyDict) (t':=s.toks) (λb u q=>Heap.get?_push_of_some _ q) (Vaa _) ⟨_,e1⟩
 refine I1.laid (a:=s.heap.objs.size+1) (o:=.ins C s.heap.objs.size []) (t':=s.toks) (λb u q=>Heap.get?_push_of_some _ q) (Nat.le_of_eq (Heap.size_push _ _)) ?_
 have ne:s.heap.objs.size≠s.heap.objs.size+1:=Vah (Nat.lt_succ_self _)
 refine⟨by rw[zaK ne,zb7],Vaj _,ne,e2,λ_=>none,(Heap.Ns1.of_empty e3).at λo q=>Heap.get?_push_of_some _ q,λ_=>True.intro,λy hy=>absurd rfl hy⟩
end
section
variable {X:Cx}{o e value:Expr}{f:Str}{pos pos' tpos:Pos}{ta tv:TE}
end
section
variable {X:Cx}{pins:List (Addr×Obj)}{σ:St}{H:Hp}{s:Shared}{A:Around}{E:Value→Shared→Prop}{Q:Value→Shared→Prop}{c:Value}{b:Bool}
inductive zbF (K:PySem.W.Frag)(H:Hp):V→Value→Prop where
 | non:zbF K H .non (.type "NoneType")
 | bl (x:Bool):zbF K H (.bl x) (.type "bool")
 | int (i:Int):zbF K H (.int i) (.type "int")
 | str (x:Str):zbF K H (.str x) (.type "str")
 | flt (x:UInt64):zbF K H (.flt x) (.type "float")
 | lst {a:Addr} {xs:List V} (e:H a=some (.lst xs)):zbF K H (.ref a) (.type "list")
 | frz {a:Addr} {o:Obj} {xs:List V} (e:H a=some (.frz o (.lst xs))):zbF K H (.ref a) (.type "list")
 | tup {a:Addr} {xs:List V} (e:H a=some (.tup xs)):zbF K H (.ref a) (.type "tuple")
 | dK {a:Addr} {kvs:List (Key×V)} (e:H a=some (.dK kvs)):zbF K H (.ref a) (.type "dict")
 | dT {a:Addr} {kvs:List (List Key×V)} (e:H a=some (.dT kvs)):zbF K H (.ref a) (.type "dict")
 | ins {a C dx:Addr} {fs:List (Str×V)} (e:H a=some (.ins C dx fs)) (cl:Cls K C) (ha:PySem.W.findIn K (.ref C) "__class__"=some (some (.builtin "object.__class__")))
   (hn:PySem.W.specialIn K (.builtin "object.__class__") "__get__"=some (some (.builtin "getset_descriptor.__get__"))) (htk:PySem.W.takesIn K (.builtin "object.__class__")=some true)
   (hm:PySem.W.mroIn K C (.type "object")=some true):zbF K H (.ref a) (.ref C)
theorem zkn {x:V}{u t:Value}(I:Inv X pins σ H s)(rx:zae x u)(ty:zbF X.K H x t)(e:PySem.W.kitOne X.K t c=some b)(h:∀tk,Q (.bool b) { s with toks:=tk }):
  wpAny (model X.prog X.w) A (call (.builtin "isinstance") [u,c]) Q E s:=by
 cases ty with
 | non=>cases (show u=Value.none from rx); exact PySem.W.kia_one PySem.W.kitx_none I.kIn True.intro e (λz=>nomatch z) h
 | bl y=>cases (show u=Value.bool y from rx); exact PySem.W.kia_one PySem.W.kitx_bool I.kIn True.intro e (λz=>nomatch z) h
 | int i=>obtain⟨t,q⟩:=(show ∃t,u=Value.int i t from rx); cases q; exact PySem.W.kia_one PySem.W.kitx_int I.kIn True.intro e (λz=>nomatch z) h
 | str y=>obtain⟨t,q⟩:=(show ∃t,u=Value.str y t from rx); cases q; exact PySem.W.kia_one PySem.W.kitx_str I.kIn True.intro e (λz=>nomatch z) h
 | flt y=>obtain⟨t,q⟩:=(show ∃t,u=Value.float y t from rx); cases q; exact PySem.W.kia_one PySem.W.kitx_float I.kIn True.intro e (λz=>nomatch z) h
 | @lst a xs ea=>
  cases (show u=Value.ref a from rx)
  obtain⟨_,_,n,_,h1⟩:=(show zaZ X.prog X.w H s.heap a (.lst xs) from I.hok a _ ea)
  exact PySem.W.kia_one PySem.W.kitx_list I.kIn ⟨_,h1,rfl⟩ e (λz=>nomatch z) h
 | @frz a ob xs ea=>
  cases (show u=Value.ref a from rx)
  obtain⟨_,_,_,n,_,h1⟩:=(show zaZ X.prog X.w H s.heap a (.frz ob (.lst xs)) from I.hok a _ ea)
  exact PySem.W.kia_one PySem.W.kitx_list I.kIn ⟨_,h1,rfl⟩ e (λz=>nomatch z) h
 | @tup a xs ea=>
  cases (show u=Value.ref a from rx)
  obtain⟨_,_,_,p⟩:=(show zaZ X.prog X.w H s.heap a (.tup xs) from I.hok a _ ea)
  obtain⟨o,h1,h2,_⟩:=p
  exact PySem.W.kia_one PySem.W.kitx_tuple I.kIn ⟨o,h1,h2⟩ e (λz=>nomatch z) h
 | @dK a kvs ea=>
  cases (show u=Value.ref a from rx)
  obtain⟨_,_,vs,_,p⟩:=(show zaZ X.prog X.w H s.heap a (.dK kvs) from I.hok a _ ea)
  obtain⟨o,es,ep,h1,h2,_⟩:=p
  exact PySem.W.kia_one PySem.W.kitx_dict I.kIn ⟨o,h1,h2.1⟩ e (λz=>nomatch z) h
 | @dT a kvs ea=>
  cases (show u=Value.ref a from rx)
  obtain⟨_,_,xs,_,o,es,ep,h1,h2,_⟩:=(show zaZ X.prog X.w H s.heap a (.dT kvs) from I.hok a _ ea)
  exact PySem.W.kia_one PySem.W.kitx_dict I.kIn ⟨o,h1,h2.1⟩ e (λz=>nomatch z) h
 | @ins a C dx fs ea cl ha hn htk hm=>
  cases (show u=Value.ref a from rx)
  obtain⟨mA,O,_⟩:=zkh I.hok ea
  obtain⟨od,J,_⟩:=O.look
  exact PySem.W.kia_one (PySem.W.kitx_own (cl.get _) cl.hd ha hn htk hm) I.kIn J e (λz=>nomatch z) h
end
end L2
namespace L2
open PySem PySem.Spec PyProof.Rows
structure zaC (k:Nat)(A:Around):Prop where
 hd:A.handled=none
 dp:A.depth+3*k+5<recursionLimit
 un:A.units+16*k+200<cLine
theorem zaC.mono {j k:Nat}{A:Around}(r:zaC k A)(h:j≤k):zaC j A:=⟨r.hd,by have:=r.dp; omega,by have:=r.un; omega⟩
theorem zaC.deeper {k:Nat}{A:Around}(r:zaC (k+1) A)(env:Env):zaC k (A.deeper env):=
 ⟨r.hd,by have:=r.dp; show A.depth+1+3*k+5<_; omega,by have:=r.un; show A.units+3+16*k+200<_; omega⟩
theorem zaC.in1 {k:Nat}{A:Around}(r:zaC (k+1) A):zaC k A.in1:=
 ⟨r.hd,by have:=r.dp; show A.depth+3*k+5<_; omega,by have:=r.un; show A.units+1+16*k+200<_; omega⟩
theorem zaC.depth {k:Nat}{A:Around}(r:zaC k A):A.depth<recursionLimit:=by have:=r.dp; omega
theorem zaC.units {k:Nat}{A:Around}(r:zaC k A):A.units+64<cLine:=by have:=r.un; omega
def tNil:TA:=λ_ H Q=>Q [] H
def tCons (ta:TE)(tr:TA):TA:=λσ H Q=>ta σ H λx H1=>tr σ H1 λxs H2=>Q (x::xs) H2
section
variable {X:Cx}{e:Expr}{es:List Expr}{te:TE}{t:TA}{pos:Pos}
theorem zfp:PA X [] tNil:=λ_ _ _ _ H Q I h=>Calls.spliced_nil ⟨[],H,I,.nil,h⟩
theorem zc4 (ha:PE X e te)(hr:PA X es t)(hs:starEach (e::es) X.env=(false,eval e X.env)::starEach es X.env:=by rfl):PA X (e::es) (tCons te t):=by
 intro pos pins s σ H Q I h
 rw[hs]
 show wpAny _ _ (spliced ((false,eval e X.env)::backTo pos (starEach es X.env))) _ _ s
 refine Calls.spliced_cons (thn (ha pins s σ H _ I h) λu s1 ⟨x,H1,I1,r1,q1⟩=>?_)
 exact thn (hr pos pins s1 σ H1 _ I1 q1) λus s2 ⟨xs,H2,I2,r2,q2⟩=>⟨x::xs,H2,I2,.cons r1 r2,q2⟩
def tTup (t:TA):TE:=λσ H Q=>t σ H λxs H1=>xs.length≤sizeLine∧∀p,H1 p=none→Q (.ref p) (upd H1 p (.tup xs))
def tLst (t:TA):TE:=λσ H Q=>t σ H λxs H1=>xs.length≤sizeLine∧∀p,H1 p=none→Q (.ref p) (upd H1 p (.lst xs))
theorem zlO {x1}(h:PA X es t):PE X (.Tuple es x1 pos) (tTup t):=by
 intro pins s σ H Q I hq
 refine wpAny_Tuple_spliced (thn (h pos pins s σ H _ I hq) λus s1 ⟨xs,H1,I1,r,z,q⟩=>⟨by rw[← r.length]; exact z,?_⟩)
 have hf:H1 s1.heap.objs.size=none:=I1.hok.fresh (Vaa _)
 refine⟨.ref s1.heap.objs.size,upd H1 s1.heap.objs.size (.tup xs),I1.laid (t':=s1.toks) (λb u e=>Heap.get?_push_of_some _ e) (Vaa _) ?_,rfl,q _ hf⟩
 exact⟨z,us,r,⟨_,Heap.get?_push_size _ rfl,rfl,_,rfl⟩⟩
theorem zlC (h:PA X es t):PE X (.List es pos) (tLst t):=by
 intro pins s σ H Q I hq
 refine wpAny_List_spliced (thn (h pos pins s σ H _ I hq) λus s1 ⟨xs,H1,I1,r,z,q⟩=>⟨by rw[← r.length]; exact z,?_⟩)
 have hf:H1 s1.heap.objs.size=none:=I1.hok.fresh (Vaa _)
 refine⟨.ref s1.heap.objs.size,upd H1 s1.heap.objs.size (.lst xs),I1.laid (t':=s1.toks) (λb u e=>Heap.get?_push_of_some _ e) (Vaa _) ?_,rfl,q _ hf⟩
 exact⟨z,us,0,r,Heap.get?_push_size _ rfl⟩
end
abbrev Sp:=List V→Hp→VK→XK→Prop
abbrev CXT:=List Env→Hp→Shared→XK→Value→Shared→Prop
structure zcv (P:Program)(w:World)(K:PySem.W.Frag)(mg:Str→Option Value)(base:Heap)(A:Around)(outer:List Env)(s:Shared)(H:Hp):Prop where
 frames:A.frames=some outer
 mod:Mod K mg base
 bs:∀b o,base.get? b=some o→s.heap.get? b=some o∧H b=none
 bsz:base.objs.size≤s.heap.objs.size
 funs:s.heap.FunFrames base outer
 frf:∀b∈frs outer,H b=none
 hok:HOk P w H s.heap
 bare:AllBare s.gens
def CE (outer:List Env)(P:Program)(w:World)(H:Hp)(s:Shared)(Q:VK)(u:Value)(s':Shared):Prop:=
 ∃v H',s'.os=s.os∧AllBare s'.gens∧Un (frs outer) [] H H' s.heap s'.heap∧HOk P w H' s'.heap∧zae v u∧Q v H'
def CR (CX:CXT)(outer:List Env)(P:Program)(w:World)(H:Hp)(s:Shared)(Q:VK)(E:XK)(r:Result)(s':Shared):Prop:=
 match r with
 | .ok (.ret u)=>CE outer P w H s Q u s'
 | .ok _=>False
 | .error e=>CX outer H s E e s'
structure zaW (P:Program)(w:World)(K:PySem.W.Frag)(mg:Str→Option Value)(base:Heap)(CX:CXT)(k:Nat)(f:Addr)(fd:FuncData)(ps:List Str)(sp:Sp):Prop where
 len:∀vs H Q E,sp vs H Q E→vs.length=ps.length
 run:∀(A:Around) (outer:List Env) (s:Shared) (H:Hp) (args:Args) (us:List Value) (vs:List V) (Q:VK) (E:XK),zaC k A→zcv P w K mg base A outer s H→BindsTo s fd args (ps.zip us)→zaf vs us→sp vs H Q E→
  codeAny (model P w) A (.call (.ref f) args) (CR CX outer P w H s Q E) s
theorem zaW.mono {P:Program}{w:World}{K:PySem.W.Frag}{mg:Str→Option Value}{base:Heap}{CX:CXT}{j k:Nat}{f:Addr}{fd:FuncData}{ps:List Str}{sp:Sp}(F:zaW P w K mg base CX j f fd ps sp)(h:j≤k):
  zaW P w K mg base CX k f fd ps sp:=⟨F.len,λA outer s H args us vs Q E hr=>F.run A outer s H args us vs Q E (hr.mono h)⟩
theorem zaW.imp {P:Program}{w:World}{K:PySem.W.Frag}{mg:Str→Option Value}{base:Heap}{CX:CXT}{k:Nat}{f:Addr}{fd:FuncData}{ps:List Str}{sp sp':Sp}(F:zaW P w K mg base CX k f fd ps sp)
  (h:∀vs H Q E,sp' vs H Q E→sp vs H Q E):zaW P w K mg base CX k f fd ps sp':=
 ⟨λvs H Q E q=>F.len vs H Q E (h _ _ _ _ q),λA outer s H args us vs Q E hr he hb hv hs=>F.run A outer s H args us vs Q E hr he hb hv (h _ _ _ _ hs)⟩
theorem zcv.in1 {P:Program}{w:World}{K:PySem.W.Frag}{mg:Str→Option Value}{base:Heap}{A:Around}{outer:List Env}{s:Shared}{H:Hp}(e:zcv P w K mg base A outer s H):
  zcv P w K mg base A.in1 outer s H:=⟨e.frames,e.mod,e.bs,e.bsz,e.funs,e.frf,e.hok,e.bare⟩
section
variable {X:Cx}{pins:List (Addr×Obj)}{σ:St}{H:Hp}{s s':Shared}
theorem Inv.env0 (I:Inv X pins σ H s):zcv X.prog X.w X.K X.mg X.base X.A X.stack s H:=
 ⟨I.ok.frames,I.ok.mod,I.bs,Vau I.ok.bsz I.sz,I.stack,I.stkFree,I.hok,I.bare⟩
theorem Inv.after {Q:VK}{u:Value}(I:Inv X pins σ H s)(h:CE X.stack X.prog X.w H s Q u s'):EP X pins σ Q u s':=by
 obtain⟨v,H',os,bare,un,hok,r,q⟩:=h
 obtain⟨hh,g,d,t,os'⟩:=s'
 obtain rfl:os'=s.os:=os
 exact⟨v,H',I.call (h':=hh) (g':=g) (d':=d) (t':=t) (ch:=[]) un hok bare (λb z=>absurd z (by simp)),r,q⟩
end
def zbS (K:PySem.W.Frag)(fd:FuncData)(ps:List Str)(ds:List Value):Prop:=
 ∀(s:Shared) (us:List Value),K.In s.heap→(us++ds).length=ps.length→BindsTo s fd ⟨us,[]⟩ (ps.zip (us++ds))
theorem zbS.all {K:PySem.W.Frag}{fd:FuncData}{ps:List Str}(h:∀us:List Value,us.length=ps.length→bindArgs fd ⟨us,[]⟩=pure (ps.zip us)):zbS K fd ps []:=λs us _ hl=>by
 rw[VaN] at hl ⊢
 exact .of_eq (h us hl)
section
variable {X:Cx}{CX:CXT}{k:Nat}{f C:Addr}{fd:FuncData}{ps:List Str}{sp:Sp}{dvs:List V}{ds:List Value}{E:XK}{x m:Str}{p pos apos:Pos}{e o:Expr}{es:List Expr}{ta:TE}{t:TA}
structure Mk (K:PySem.W.Frag)(C f:Addr):Prop where
 makes:PySem.W.makesIn K C=true
 init:PySem.W.findIn K (.ref C) "__init__"=some (some (.ref f))
 fn:PySem.W.isFn K (.ref f)=true
 kp:PySem.W.keepIn K (.ref C)=true
end
section
variable {X:Cx}{CX:CXT}{k:Nat}{f C:Addr}{fd:FuncData}{ps ks:List Str}{sp:Sp}{E:XK}{x m:Str}{p pos apos kpos:Pos}{e o:Expr}{es:List Expr}{kws:List Keyword}{te ta:TE}{t tk:TA}{nm:Option Str}
structure KBinds (K:PySem.W.Frag)(fd:FuncData)(ps ks:List Str)(g:List Value→List Value→List Value)(gV:List V→List V→List V):Prop where
 to:∀(s:Shared) (us ws:List Value),K.In s.heap→(g us ws).length=ps.length→BindsTo s fd ⟨us,ks.zip ws⟩ (ps.zip (g us ws))
 rel:∀ {vs:List V} {us:List Value} {zs:List V} {ws:List Value},zaf vs us→zaf zs ws→zaf (gV vs zs) (g us ws)
variable {g:List Value→List Value→List Value}{gV:List V→List V→List V}
end
structure zaY (N P:List Str)(sc:Scope):Prop where
 kind:sc.kind=.function
 co:sc.isCoroutine=false
 gen:sc.isGenerator=false
 nd:N.Nodup
 pre:N.take P.length=P
 par:∀x∈P,sc.names.lookup x=some .local∨sc.names.lookup x=some .cell
 nofree:∀y∈sc.names,y.2≠.free
theorem zit {kindOf:Str→Option NameKind}{x:Str}:∀ {binds:List (Str×Value)} {m:Str→Option Value},(∀v,(x,v) ∉ binds)→bindL kindOf binds m x=m x
 | [],_,_=>rfl
 | (n,v)::r,m,h=>by
  unfold bindL
  rw[zit λw hw=>h w (VaB _ hw)]
  split
  ·have:x≠n:=by rintro rfl; exact h v VaV
   simp[this]
  ·rfl
theorem zgY {kindOf:Str→Option NameKind}{x:Str}:∀ {binds:List (Str×Value)} {m:Str→Option Value},(∀v,(x,v) ∉ binds)→bindC kindOf binds m x=m x
 | [],_,_=>rfl
 | (n,v)::r,m,h=>by
  unfold bindC
  rw[zgY λw hw=>h w (VaB _ hw)]
  split
  ·rfl
  ·have:x≠n:=by rintro rfl; exact h v VaV
   simp[this]
theorem zhm {kindOf:Str→Option NameKind}{x:Str}{v:Value}:∀ {P:List Str} {vs:List Value} {i:Nat} {m:Str→Option Value},P.Nodup→P[i]?=some x→vs[i]?=some v→kindOf x=some .local→
  bindL kindOf (P.zip vs) m x=some v
 | [],_,_,_,_,h,_,_=>by simp at h
 | _::_,[],_,_,_,_,h,_=>by simp at h
 | p::P,w::vs,0,m,nd,h1,h2,hk=>by
  simp at h1 h2; subst h1; subst h2
  show bindL kindOf ((p,w)::P.zip vs) m p=_
  unfold bindL
  rw[zit λv hv=>(List.nodup_cons.mp nd).1 (List.of_mem_zip hv).1,if_pos hk]
  simp
 | p::P,w::vs,i+1,m,nd,h1,h2,hk=>by
  show bindL kindOf ((p,w)::P.zip vs) m x=_
  unfold bindL
  exact zhm (i:=i) (List.nodup_cons.mp nd).2 (by simpa using h1) (by simpa using h2) hk
theorem zg0 {kindOf:Str→Option NameKind}{x:Str}{v:Value}:∀ {P:List Str} {vs:List Value} {i:Nat} {m:Str→Option Value},P.Nodup→P[i]?=some x→vs[i]?=some v→kindOf x≠some .local→
  bindC kindOf (P.zip vs) m x=some v
 | [],_,_,_,_,h,_,_=>by simp at h
 | _::_,[],_,_,_,_,h,_=>by simp at h
 | p::P,w::vs,0,m,nd,h1,h2,hk=>by
  simp at h1 h2; subst h1; subst h2
  show bindC kindOf ((p,w)::P.zip vs) m p=_
  unfold bindC
  rw[zgY λv hv=>(List.nodup_cons.mp nd).1 (List.of_mem_zip hv).1,if_neg hk]
  simp
 | p::P,w::vs,i+1,m,nd,h1,h2,hk=>by
  show bindC kindOf ((p,w)::P.zip vs) m x=_
  unfold bindC
  exact zg0 (i:=i) (List.nodup_cons.mp nd).2 (by simpa using h1) (by simpa using h2) hk
def zbQ (N:List Str)(vs:List V):St:=vs.map some++List.replicate (N.length-vs.length) none
def zcU (CX:CXT)(P:Program)(w:World)(K:PySem.W.Frag)(mg:Str→Option Value)(base:Heap)(N:List Str)(qual:Str)(scope:Scope)(f:Addr)(cd:Value)(A:Around)(outer:List Env)(s:Shared)(H:Hp)(E:XK):Cx where
 prog:=P
 w:=w
 K:=K
 mg:=mg
 base:=base
 A:=A.deeper (envOfC qual scope s.heap.objs.size f cd)
 N:=N
 s₀:=s
 H₀:=H
 env:=envOfC qual scope s.heap.objs.size f cd
 outer:=outer
 stack:=envOfC qual scope s.heap.objs.size f cd::outer
 ex:=[]
 calm:=true
 fn:=λ_=>true
 pn:=[]
 xe:=λe s'=>wpAny (model P w) (A.deeper (envOfC qual scope s.heap.objs.size f cd)) (leaving (envOfC qual scope s.heap.objs.size f cd) e) (λ_ s''=>CX outer H s E e s'') (λe' s''=>CX outer H s E e' s'') s'
theorem zie {sc:Scope}{n:Nat}{x:Str}(h:sc.names.lookup x=some .cell):∃c,(cellsFrom n sc.names []).lookup x=some c:=by
 have q:=PySem.W.cellsFrom_some sc.names n [] (.inl h)
 exact VaO.mp q
theorem zjN {CX:CXT}{P:Program}{w:World}{K:PySem.W.Frag}{mg:Str→Option Value}{base:Heap}{N ps:List Str}{qual:Str}{scope:Scope}{f:Addr}{cd:Value}{A:Around}{outer:List Env}{s s1:Shared}{H:Hp}{E:XK}{us:List Value}{vs:List V}
  (S:zaY N ps scope)(hd:A.handled=none)(e0:zcv P w K mg base A outer s H)(hl:vs.length=ps.length)(r:zaf vs us)
  (x:InCallC s s.heap.objs.size (bindL (envOfC qual scope s.heap.objs.size f cd).kindOf (ps.zip us) λ_=>none) (cellsFrom (s.heap.objs.size+1) scope.names []) (bindC (envOfC qual scope s.heap.objs.size f cd).kindOf (ps.zip us) λ_=>none) s1):
  Inv (zcU CX P w K mg base N qual scope f cd A outer s H E) [] (zbQ N vs) H s1:=by
 have hpl:ps.length≤N.length:=by have:=congrArg List.length S.pre; rw[VaK] at this; omega
 obtain⟨h1,tk,rfl,hk⟩:=x.done
 have noA:∀b:Addr,b ∉ (zcU CX P w K mg base N qual scope f cd A outer s H E).ex:=λb z=>absurd (show b∈([]:List Addr) from z) (by simp)
 refine⟨⟨e0.mod,S.kind,rfl,rfl,Vaa _,λy z c h1 h2=>?_,λy hy=>?_,λy c _ h=>?_,λ_=>hd,Around.frames_deeper e0.frames,.inr ⟨rfl,rfl⟩,λb z=>absurd z (noA b),e0.bs,e0.bsz,λb _ _=>noA b,λb z=>absurd z (noA b),e0.funs,e0.frf⟩,
  rfl,e0.bare,Un.kept hk,⟨_,x.toInCall.ns,λi y v h1 h2 h3=>?_⟩,λy c h=>⟨_,x.cell y c h⟩,e0.hok.fresh (Vaa _),λy c h=>?_,λp hp=>absurd (show p∈([]:List (Addr×Obj)) from hp) (by simp),e0.hok.kept hk,?_⟩
 ·exact name_of_addr x.apart (PySem.mem_of_lookup h1) (PySem.mem_of_lookup h2)
 ·have hy:scope.names.lookup y=some .cell∨scope.names.lookup y=some .free:=hy
  rcases hy with hy | hy
  ·exact zie hy
  ·exact absurd rfl (S.nofree _ (PySem.mem_of_lookup hy))
 ·exact VaJ (x.above y c (PySem.mem_of_lookup h))
 ·have hi:i<vs.length:=by
   unfold zbQ at h2
   by_cases hi:i<vs.length
   ·exact hi
   ·rw[Vax (by simpa using hi)] at h2
    rw[List.getElem?_replicate] at h2
    split at h2 <;> cases h2
  have ha:vs[i]?=some v:=by
   unfold zbQ at h2
   rw[Vao (by simpa using hi),Vae] at h2
   cases e:vs[i]? with
   | none=>rw[e] at h2; cases h2
   | some a=>rw[e] at h2; cases h2; rfl
  obtain⟨u,hu,rv⟩:=r.get ha
  have hp:ps[i]?=some y:=by
   rw[← S.pre,List.getElem?_take_of_lt (by omega)]; exact h1
  have ndP:ps.Nodup:=by rw[← S.pre]; exact S.nd.sublist (List.take_sublist _ _)
  refine⟨u,rv,?_⟩
  rcases S.par y (Vam hp) with k | k
  ·exact .inl ⟨k,zhm ndP hp hu k⟩
  ·obtain⟨c,e⟩:=zie (n:=s.heap.objs.size+1) k
   refine .inr ⟨.inl k,c,e,?_⟩
   have q:=x.cell y c e
   rw[zg0 ndP hp hu (by show scope.names.lookup y≠_; rw[k]; decide)] at q
   exact q
 ·exact e0.hok.fresh (VaJ (x.above y c (PySem.mem_of_lookup h)))
 ·unfold zbQ
  show _=N.length
  rw[Vaq,Vac,List.length_replicate]
  omega
theorem zhU {CX:CXT}{P:Program}{w:World}{K:PySem.W.Frag}{mg:Str→Option Value}{base:Heap}{k:Nat}{f:Addr}{name qual:Str}{params:Arguments}{body:List Stmt}{scope:Scope}{dV kV doc pm cdv ct oc:Value}{an od:Option Addr}
  {osl:Array (Option Value)}{N ps:List Str}{sp:Sp}(lk:K.lookup f=some ⟨oc,od,.func (PySem.W.fnOf name qual params body scope dV kV doc pm an cdv ct),osl⟩)(hcd:PySem.W.codeIn K cdv qual=true)(S:zaY N ps scope)
  (len:∀vs H Q E,sp vs H Q E→vs.length=ps.length)
  (hbody:∀(A:Around) (outer:List Env) (s:Shared) (H:Hp) (vs:List V) (Q:VK) (E:XK),zaC k (A.deeper (envOfC qual scope s.heap.objs.size f cdv))→sp vs H Q E→
   ∃t,PSs (zcU CX P w K mg base N qual scope f cdv A outer s H E) body t∧t { nx:=λ_ H'=>Q .non H',rt:=Q } (zbQ N vs) H):
  zaW P w K mg base CX (k+1) f (PySem.W.fnOf name qual params body scope dV kV doc pm an cdv ct) ps sp:=by
 refine⟨len,λA outer s H args us vs Q E hr e0 hb r hsp=>?_⟩
 have hl:=len _ _ _ _ hsp
 have KX:K.In s.heap:=e0.mod.kin.keeps λb o e=>(e0.bs b o e).1
 have lim:s.heap.NoLimit:=e0.mod.nolimit.keeps λb o e=>(e0.bs b o e).1
 have hkind:∀y∈ps.zip us,scope.names.lookup y.1=some .local∨(scope.names.lookup y.1=some .cell∧((cellsFrom (s.heap.objs.size+1) scope.names []).lookup y.1).isSome=true):=λ⟨n,v⟩ hy=>by
  rcases S.par n (List.of_mem_zip hy).1 with q | q
  ·exact .inl q
  ·exact .inr ⟨q,PySem.W.cellsFrom_some _ _ _ (.inl q)⟩
 refine codeAny_call_function hr.depth (KX _ _ lk) rfl S.co S.gen rfl (PySem.W.codeRec_of KX hcd) (hb _ _ _ _ ?_)
 refine wpAny_newFunctionEnv_cells S.kind hkind λenv he s1 x=>?_
 subst he
 refine⟨lim.keeps x.toInCall.keep,codeAny_func ?_⟩
 obtain⟨t,ht,hq⟩:=hbody A outer s H vs Q E (hr.deeper _) hsp
 have I:Inv (zcU CX P w K mg base N qual scope f cdv A outer s H E) [] (zbQ N vs) H s1:=zjN S hr.hd e0 hl r x
 refine wpAny_mono (ht [] s1 (zbQ N vs) H _ I hq) (λfl s' hs=>?_) λe s' hs=>hs
 have fin:∀ {σ':St} {H':Hp} {v:V} {u:Value},Inv (zcU CX P w K mg base N qual scope f cdv A outer s H E) [] σ' H' s'→zae v u→Q v H'→CE outer P w H s Q u s':=
  λ{σ' H' v u} J rv q=>⟨v,H',J.os,J.bare,J.base,J.hok,rv,q⟩
 cases fl with
 | ret u=>
  obtain⟨v,σ',H',J,rv,q⟩:=hs
  exact fin J rv q
 | next=>
  obtain⟨σ',H',J,q⟩:=hs
  exact fin (v:=V.non) (u:=Value.none) J rfl q
 | brk=>
  obtain⟨_,_,_,q⟩:=hs
  exact False.elim q
 | cont=>
  obtain⟨_,_,_,q⟩:=hs
  exact False.elim q
end L2
namespace L2
open PySem PySem.Spec PyProof.Rows
section
variable {X:Cx}{x:Str}{p pos:Pos}{e:Expr}{es:List Expr}{t:TA}{id T:String}{r:List V→Hp→VK→Prop}
def tCB (r:List V→Hp→VK→Prop)(t:TA):TE:=λσ H Q=>t σ H λvs H1=>r vs H1 Q
theorem zgn (hc:zaI X (.builtin id) r)(hg:Gl X x)(hm:X.mg x=none)(hv:bootBuiltins x=some (.builtin id))(ha:PA X (e::es) t)(hn:x≠"__name__":=by decide)(hdb:(x==("__debug__":Str))=false:=by decide)
  (he:starEach (e::es) X.env=(false,eval e X.env)::starEach es X.env:=by rfl)(hpl:(backTo pos (starEach es X.env)).any (·.1)=false:=by rfl):PE X (.Call (.Name x p) (e::es) [] pos) (tCB r t):=by
 intro pins s σ H Q I h
 refine wpAny_Call_Name_kw (zc5 I hg hm hv ?_ hn hdb)
 exact PyProof.Rows.callWith_builtin1 (thn (ha pos pins s σ H _ I h) λus s1 ⟨vs,H1,I1,r1,q1⟩=>hc pins s1 σ H1 vs us Q I1 r1 q1) he hpl
theorem ziV (hc:zaI X (.type T) r)(hg:Gl X x)(hm:X.mg x=none)(hv:bootBuiltins x=some (.type T))(ha:PA X (e::es) t)(hn:x≠"__name__":=by decide)(hdb:(x==("__debug__":Str))=false:=by decide)
  (he:starEach (e::es) X.env=(false,eval e X.env)::starEach es X.env:=by rfl)(hpl:(backTo pos (starEach es X.env)).any (·.1)=false:=by rfl):PE X (.Call (.Name x p) (e::es) [] pos) (tCB r t):=by
 intro pins s σ H Q I h
 refine wpAny_Call_Name_kw (zc5 I hg hm hv ?_ hn hdb)
 exact PyProof.Rows.callWith_type1 (thn (ha pos pins s σ H _ I h) λus s1 ⟨vs,H1,I1,r1,q1⟩=>hc pins s1 σ H1 vs us Q I1 r1 q1) he hpl
end
end L2
namespace HT
open PySem PyProof.Rows
section
open PySem.SeqAt
open PySem.AutoSeq1 (wpAny_loadPart')
open PySem.MeetsSeq PySem.MeetsSeq2 PySem.MeetsSeq3
end
section
variable {prog:Program}{w:World}{A:Around}{E:Value→Shared→Prop}{s:Shared}
def sIx (n d:Nat):Option Int→Nat
 | none=>d
 | some v=>if v<0 then (v+(n:Int)).toNat else min v.toNat n
theorem sIx_nat (n d k:Nat):sIx n d (some (k:Int))=min k n:=by
 show (if (k:Int)<0 then ((k:Int)+(n:Int)).toNat else min (k:Int).toNat n)=min k n
 rw[if_neg (by omega),Vas]
end
end HT
namespace L2
open PySem PySem.Spec PyProof.Rows
abbrev TO:=St→Hp→(Option Int→Hp→Prop)→Prop
def PO (X:Cx)(e:Option Expr)(t:TO):Prop:=
 ∀(pins:List (Addr×Obj)) (s:Shared) (σ:St) (H:Hp) (Q:Option Int→Hp→Prop),Inv X pins σ H s→t σ H Q→
  wpAny (model X.prog X.w) X.A (evalPart e X.env) (λu s'=>∃o H',Inv X pins σ H' s'∧IsPart u o∧Q o H') X.xe s
def tPart (t:TE):TO:=λσ H Q=>t σ H λx H1=>∃i,x=.int i∧Q (some i) H1
section
variable {X:Cx}{e:Expr}{te:TE}{lo hi:Option Expr}{tl th:TO}{pos p2:Pos}
theorem zi3 (h:PE X e te):PO X (some e) (tPart te):=by
 intro pins s σ H Q I hw
 rw[evalPart_some]
 refine thn (h pins s σ H _ I hw) λu s1 ⟨x,H1,I1,r1,q1⟩=>?_
 obtain⟨i,rfl,q⟩:=q1
 obtain⟨t,rfl⟩:=r1
 exact⟨some i,H1,I1,.int i t,q⟩
def SlR (X:Cx)(r:V→Option Int→Option Int→Hp→VK→Prop):Prop:=
 ∀(pins:List (Addr×Obj)) (s:Shared) (σ:St) (H:Hp) (x:V) (v vl vu:Value) (lo hi:Option Int) (sl:Addr) (Q:VK),Inv X pins σ H s→zae x v→s.heap.IsSliceOf sl vl vu .none→IsPart vl lo→IsPart vu hi→r x lo hi H Q→
  ∃T id,typeLookup (.type T) "__getitem__"=pure (some (.builtin id))∧s.TypeIs v T∧wpAny (model X.prog X.w) X.A (getItem v (.ref sl)) (EP X pins σ Q) X.xe s
theorem SlR.or {r r':V→Option Int→Option Int→Hp→VK→Prop}(h:SlR X r)(h':SlR X r'):SlR X (λx lo hi H Q=>r x lo hi H Q∨r' x lo hi H Q):=by
 intro pins s σ H x v vl vu lo hi sl Q I rx hs pl pu q
 rcases q with q | q
 ·exact h pins s σ H x v vl vu lo hi sl Q I rx hs pl pu q
 ·exact h' pins s σ H x v vl vu lo hi sl Q I rx hs pl pu q
def tSl (r:V→Option Int→Option Int→Hp→VK→Prop)(te:TE)(tl th:TO):TE:=λσ H Q=>te σ H λx H1=>tl σ H1 λl H2=>th σ H2 λu H3=>r x l u H3 Q
theorem zjS {r:V→Option Int→Option Int→Hp→VK→Prop}(hr:SlR X r)(he:PE X e te)(hl:PO X lo tl)(hu:PO X hi th):PE X (.Subscript e (.Slice lo hi none p2) pos) (tSl r te tl th):=by
 intro pins s σ H Q I h
 refine Subscript_ (thn (he pins s σ H _ I h) λv s1 ⟨x,H1,I1,r1,q1⟩=>?_)
 refine wpAny_Slice (thn (hl pins s1 σ H1 _ I1 q1) λvl s2 ⟨l,H2,I2,pl,q2⟩=>thn (hu pins s2 σ H2 _ I2 q2) λvu s3 ⟨u,H3,I3,pu,q3⟩=>?_)
 rw[evalPart_none]
 refine wpAny_pure ?_
 have I4:Inv X pins σ H3 { s3 with heap:=s3.heap.push { cls:=.type "slice",data:=.fields #[vl,vu,.none] } }:=I3.kept (t':=s3.toks) λb ob q=>Heap.get?_push_of_some _ q
 obtain⟨T,id,hT,ht,hg⟩:=hr pins { s3 with heap:=s3.heap.push { cls:=.type "slice",data:=.fields #[vl,vu,.none] } } σ H3 x v vl vu l u s3.heap.objs.size Q I4 r1 (Heap.IsSliceOf.new ..) pl pu q3
 show wpAny (model X.prog X.w) X.A (subscriptTail e (.Slice lo hi none p2) v (.ref s3.heap.objs.size)) (EP X pins σ Q) X.xe { s3 with heap:=s3.heap.push { cls:=.type "slice",data:=.fields #[vl,vu,.none] } }
 exact tail_any (ops:=[.ref s3.heap.objs.size,v]) ht hT hg (by with_unfolding_all rfl)
def zdo (xs:List V)(lo hi:Option Int):List V:=(xs.drop (HT.sIx xs.length 0 lo)).take (HT.sIx xs.length xs.length hi-HT.sIx xs.length 0 lo)
theorem zlV (xs:List V)(lo hi:Option Int):(zdo xs lo hi).length≤xs.length:=by
 unfold zdo
 rw[VaK,List.length_drop]
 omega
end
end L2
namespace L2
open PySem PySem.Spec PyProof.Rows
def ixN (n:Nat)(i:Int):Option Nat:=if 0≤i then (if i<n then some i.toNat else none) else if -(n:Int)≤i then some (i+n).toNat else none
def atI {α:Type}(xs:List α)(i:Int):Option α:=(ixN xs.length i).bind λj=>xs[j]?
theorem zl1 {n:Nat}{i:Int}{j:Nat}(h:ixN n i=some j):seqIndex? i n=some j∧j<n∧-(n:Int)≤i∧i<n:=by
 unfold ixN at h
 by_cases h0:0≤i
 ·rw[if_pos h0] at h
  by_cases h1:i<n
  ·rw[if_pos h1] at h
   have e:i.toNat=j:=Option.some.inj h
   exact⟨by rw[seqIndex_of h0 h1,e],by omega,by omega,h1⟩
  ·rw[if_neg h1] at h; cases h
 ·rw[if_neg h0] at h
  by_cases h1:-(n:Int)≤i
  ·rw[if_pos h1] at h
   have e:(i+n).toNat=j:=Option.some.inj h
   exact⟨by rw[seqIndex_neg (by omega) h1,e],by omega,h1,by omega⟩
  ·rw[if_neg h1] at h; cases h
theorem zgO {α:Type}{xs:List α}{i:Int}{v:α}(h:atI xs i=some v):∃j,seqIndex? i xs.length=some j∧xs[j]?=some v∧j<xs.length∧-(xs.length:Int)≤i∧i<xs.length:=by
 unfold atI at h
 cases e:ixN xs.length i with
 | none=>rw[e] at h; cases h
 | some j=>
  rw[e] at h
  obtain⟨h1,h2,h3,h4⟩:=zl1 e
  exact⟨j,h1,h,h2,h3,h4⟩
theorem za6 {α:Type}{xs:List α}{j:Nat}{v:α}(h:xs[j]?=some v):atI xs (j:Int)=some v:=by
 have hj:j<xs.length:=(Vad.mp h).1
 have e:ixN xs.length (j:Int)=some j:=by
  unfold ixN
  rw[if_pos (by omega),if_pos (by omega)]; simp
 unfold atI; rw[e]; exact h
def zgc (b:Expr):Prop:=∀o i,subscripted b false o i=operate [o,i] (getItem o i)
def IxR (X:Cx)(r:R2):Prop:=
 ∀(value slice:Expr) (pins:List (Addr×Obj)) (s:Shared) (σ:St) (H:Hp) (x y:V) (v u:Value) (Q:VK),Inv X pins σ H s→zae x v→zae y u→r x y H Q→
  subscripted slice false v u=operate [v,u] (getItem v u)→wpAny (model X.prog X.w) X.A (subscriptTail value slice v u) (EP X pins σ Q) X.xe s
def MtR (X:Cx)(id:String)(r:V→List V→Hp→VK→Prop):Prop:=
 ∀(pins:List (Addr×Obj)) (s:Shared) (σ:St) (H:Hp) (x:V) (xs:List V) (v:Value) (us:List Value) (Q:VK),Inv X pins σ H s→zae x v→zaf xs us→r x xs H Q→
  wpAny (model X.prog X.w) X.A (call (.builtin id) (v::us)) (EP X pins σ Q) X.xe s
section
variable {X:Cx}{a b:Expr}{ta tb:TE}{pos:Pos}
theorem IxR.or {r r':R2}(h:IxR X r)(h':IxR X r'):IxR X (λx y H Q=>r x y H Q∨r' x y H Q):=by
 intro value slice pins s σ H x y v u Q I rx ry q hs
 rcases q with q | q
 ·exact h value slice pins s σ H x y v u Q I rx ry q hs
 ·exact h' value slice pins s σ H x y v u Q I rx ry q hs
theorem MtR.or {id:String}{r r':V→List V→Hp→VK→Prop}(h:MtR X id r)(h':MtR X id r'):MtR X id (λx xs H Q=>r x xs H Q∨r' x xs H Q):=by
 intro pins s σ H x xs v us Q I rx rs q
 rcases q with q | q
 ·exact h pins s σ H x xs v us Q I rx rs q
 ·exact h' pins s σ H x xs v us Q I rx rs q
theorem pe_ix {r:R2}(hr:IxR X r)(ha:PE X a ta)(hb:PE X b tb)(hs:zgc b):PE X (.Subscript a b pos) (tOp r ta tb):=by
 intro pins s σ H Q I h
 exact Subscript_ (binT ha hb I h λv u s2 x y H2 I2 rx ry q=>hr a b pins s2 σ H2 x y v u Q I2 rx ry q (hs _ _))
def rIxL (K:PySem.W.Frag):R2:=λx y H Q=>∃p xs i v,x=.ref p∧y=.int i∧SqL K H p xs∧atI xs i=some v∧Q v H
def rIxT (K:PySem.W.Frag):R2:=λx y H Q=>∃p xs i v,x=.ref p∧y=.int i∧SqT K H p xs∧atI xs i=some v∧Q v H
theorem zj0:IxR X (rIxL X.K):=by
 intro value slice pins s σ H x y v u Q I rx ry h hs
 obtain⟨p,xs,i,z,rfl,rfl,hq,he,q⟩:=h
 cases rx
 obtain⟨t,rfl⟩:=ry
 obtain⟨its,r,pl,hz⟩:=I.list hq
 obtain⟨j,h1,h2,h3,h4,h5⟩:=zgO he
 obtain⟨w,ew,rw'⟩:=r.get h2
 have hl:=r.length
 have hn:=zf3
 have fin:EP X pins σ Q w s:=⟨z,H,I,rw',q⟩
 by_cases h0:0≤i
 ·have hj:i.toNat=j:=by
   rw[seqIndex_of h0 h5] at h1
   exact Option.some.inj h1
  exact item_listR pl.isList h0 (by omega) (by rw[hj]; simpa using ew) fin hs
 ·have hj:(i+(its.toArray.size:Int)).toNat=j:=by
   rw[seqIndex_neg (by omega) h4] at h1
   rw[Vag,← hl]
   exact Option.some.inj h1
  exact subscriptTail_builtinR (x:=w) pl.isList.typeIs slot_list_getitem.lookup
   (wpAny_getItem_list_neg (Q:=λr s'=>r=w∧EP X pins σ Q r s') pl.isList (by omega) (by rw[Vag] <;> omega) (by omega) (by rw[hj]; simpa using ew) ⟨rfl,fin⟩) hs
theorem zj8:IxR X (rIxT X.K):=by
 intro value slice pins s σ H x y v u Q I rx ry h hs
 obtain⟨p,xs,i,z,rfl,rfl,hq,he,q⟩:=h
 cases rx
 obtain⟨t,rfl⟩:=ry
 obtain⟨its,r,pl,hz⟩:=I.tuple hq
 obtain⟨j,h1,h2,h3,h4,h5⟩:=zgO he
 obtain⟨w,ew,rw'⟩:=r.get h2
 have hl:=r.length
 have hn:=zf3
 have fin:EP X pins σ Q w s:=⟨z,H,I,rw',q⟩
 exact subscriptTail_builtinR (x:=w) pl.typeIs slot_tuple_getitem.lookup
  (getItem_tuple (j:=j) (Q:=λr s'=>r=w∧EP X pins σ Q r s') pl (by omega) (by omega) (by rw[Vag,← hl]; exact h1) (by simpa using ew) ⟨rfl,fin⟩) hs
theorem Inv.lst {pins:List (Addr×Obj)}{σ:St}{H:Hp}{s:Shared}{p:Addr}{xs:List V}(I:Inv X pins σ H s)(h:H p=some (.lst xs)):
  ∃(its:List Value) (n:Nat),zaf xs its∧s.heap.get? p=some { cls:=.type "list",data:=.seq its.toArray n }∧xs.length≤sizeLine:=by
 obtain⟨z,its,n,r,e⟩:=I.hok p _ h
 exact⟨its,n,r,e,z⟩
theorem zj9 (lo hi:Option Int)(n:Nat):(sliceBounds lo hi none n).1=((HT.sIx n 0 lo:Nat):Int)∧(sliceBounds lo hi none n).2.1=((HT.sIx n n hi:Nat):Int)∧(sliceBounds lo hi none n).2.2=1:=by
 refine⟨?_,?_,rfl⟩
 ·cases lo with
  | none=>simp[sliceBounds,HT.sIx]
  | some i=>
   simp only[sliceBounds,HT.sIx,Option.getD_none,show (1:Int) > 0 by decide,if_true]
   by_cases h:i<0
   ·simp only[h,if_true] <;> omega
   ·simp only[h,if_false] <;> omega
 ·cases hi with
  | none=>simp[sliceBounds,HT.sIx]
  | some i=>
   simp only[sliceBounds,HT.sIx,Option.getD_none,show (1:Int) > 0 by decide,if_true]
   by_cases h:i<0
   ·simp only[h,if_true] <;> omega
   ·simp only[h,if_false] <;> omega
theorem zlI (its:List Value)(lo hi:Option Int):slicePick its.toArray lo hi none=((its.drop (HT.sIx its.length 0 lo)).take (HT.sIx its.length its.length hi-HT.sIx its.length 0 lo)).toArray:=by
 obtain⟨h1,h2,h3⟩:=zj9 lo hi its.toArray.size
 unfold slicePick
 rw[h1,h2,h3]
 simp only[sliceRange_one,pick_run,Vag] <;> rfl
def rSlL (K:PySem.W.Frag):V→Option Int→Option Int→Hp→VK→Prop:=λx lo hi H Q=>∃a xs,x=.ref a∧SqL K H a xs∧∀p,H p=none→Q (.ref p) (upd H p (.lst (zdo xs lo hi)))
theorem zka:SlR X (rSlL X.K):=by
 intro pins s σ H x v vl vu lo hi sl Q I rx hs pl pu h
 obtain⟨a,xs,rfl,hx,q⟩:=h
 cases rx
 obtain⟨its,r,ht,hz⟩:=I.list hx
 have hlen:=r.length
 refine⟨"list",_,slot_list_getitem.lookup,ht.isList.typeIs,?_⟩
 refine wpAny_getItem_list_slice ht.isList hs pl pu .none (by simp) ?_ (by rw[Vag] <;> omega)
 rw[zlI,← hlen]
 refine⟨.ref s.heap.objs.size,_,I.laid (t':=s.toks) (o:=.lst (zdo xs lo hi)) (λb ob q=>Heap.get?_push_of_some _ q) (Vaa _) ?_,rfl,q _ (I.hok.fresh (Vaa _))⟩
 exact⟨Vau (zlV xs lo hi) hz,_,0,(r.drop (HT.sIx xs.length 0 lo)).take (HT.sIx xs.length xs.length hi-HT.sIx xs.length 0 lo),Heap.get?_push_size _ rfl⟩
def zeY:V→Bool
 | .non=>true
 | .bl _=>true
 | .int _=>true
 | .str _=>true
 | _=>false
def eqV:V→V→Bool
 | .non,.non=>true
 | .bl a,.bl b=>a==b
 | .bl a,.int b=>(if a then 1 else 0)==b
 | .int a,.bl b=>a==(if b then 1 else 0)
 | .int a,.int b=>a==b
 | .str a,.str b=>a==b
 | _,_=>false
theorem zkc {A:Around}{s:Shared}{y x:V}{u v:Value}(ry:zae y u)(rx:zae x v)(fy:zeY y=true)(fx:zeY x=true):SeqAt.EqAt A s u v (eqV y x):=by
 cases y with
 | non=>
  cases ry
  cases x with
  | non=>cases rx; exact SeqAt.EqAt.same _
  | bl b=>cases rx; exact SeqAt.EqAt.none_bool b
  | int b=>obtain⟨t,rfl⟩:=rx; exact SeqAt.EqAt.none_int b t
  | str b=>obtain⟨t,rfl⟩:=rx; exact SeqAt.EqAt.none_str b t
  | _=>exact absurd (show false=true from fx) Van
 | bl a=>
  cases ry
  cases x with
  | non=>cases rx; exact SeqAt.EqAt.bool_none a
  | bl b=>cases rx; exact SeqAt.EqAt.bool_bool a b
  | int b=>obtain⟨t,rfl⟩:=rx; exact SeqAt.EqAt.bool_int a b t
  | str b=>obtain⟨t,rfl⟩:=rx; exact SeqAt.EqAt.bool_str a b t
  | _=>exact absurd (show false=true from fx) Van
 | int a=>
  obtain⟨t',rfl⟩:=ry
  cases x with
  | non=>cases rx; exact SeqAt.EqAt.int_none a t'
  | bl b=>cases rx; exact SeqAt.EqAt.int_bool a t' b
  | int b=>obtain⟨t,rfl⟩:=rx; exact SeqAt.EqAt.int_int a t' b t
  | str b=>obtain⟨t,rfl⟩:=rx; exact SeqAt.EqAt.int_str a t' b t
  | _=>exact absurd (show false=true from fx) Van
 | str a=>
  obtain⟨t',rfl⟩:=ry
  cases x with
  | non=>cases rx; exact SeqAt.EqAt.str_none a t'
  | bl b=>cases rx; exact SeqAt.EqAt.str_bool a t' b
  | int b=>obtain⟨t,rfl⟩:=rx; exact SeqAt.EqAt.str_int a t' b t
  | str b=>obtain⟨t,rfl⟩:=rx; exact SeqAt.EqAt.str_str a t' b t
  | _=>exact absurd (show false=true from fx) Van
 | _=>exact absurd (show false=true from fy) Van
theorem ziF:zaI X (.builtin "len") (λxs H Q=>∃p ys,xs=[.ref p]∧(SqL X.K H p ys∨SqT X.K H p ys)∧Q (.int ys.length) H):=by
 intro pins s σ H xs us Q I r h
 obtain⟨p,ys,rfl,hq,q⟩:=h
 obtain⟨u,rfl,rx⟩:=zcr r
 cases rx
 have hn:=zf3
 rcases hq with hq | hq
 ·obtain⟨its,r',pl,hz⟩:=I.list hq
  have hlen:=r'.length
  exact Calls.call_len_list pl.isList (by simp only[Vag] <;> omega) ⟨.int ys.length,H,I.tok _,⟨s.toks+1,by rw[Vag,hlen]⟩,q⟩
 ·obtain⟨its,r',pl,hz⟩:=I.tuple hq
  have hlen:=r'.length
  exact len_tuple pl (by simp only[Vag] <;> omega) ⟨.int ys.length,H,I.tok _,⟨s.toks+1,by rw[Vag,hlen]⟩,q⟩
theorem zaI.or {f:Value}{r r':List V→Hp→VK→Prop}(h:zaI X f r)(h':zaI X f r'):zaI X f (λxs H Q=>r xs H Q∨r' xs H Q):=by
 intro pins s σ H xs us Q I rs q
 rcases q with q | q
 ·exact h pins s σ H xs us Q I rs q
 ·exact h' pins s σ H xs us Q I rs q
theorem zlR:zaI X (.type "list") (λxs H Q=>∃p ys,xs=[.ref p]∧(SqL X.K H p ys∨SqT X.K H p ys)∧∀l,H l=none→Q (.ref l) (upd H l (.lst ys))):=by
 intro pins s σ H xs us Q I r h
 obtain⟨p,ys,rfl,hq,q⟩:=h
 obtain⟨u,rfl,rx⟩:=zcr r
 cases rx
 have fin:∀(its:List Value),zaf ys its→ys.length≤sizeLine→∀(h':Heap) (c':Nat),(∀b o',s.heap.get? b=some o'→h'.get? b=some o')→
   h'.get? s.heap.objs.size=some { cls:=.type "list",dict:=none,data:=.seq its.toArray c',slots:=#[] }→EP X pins σ Q (.ref s.heap.objs.size) { s with heap:=h' }:=λits r' hz h' c' kp e=>
  ⟨.ref s.heap.objs.size,_,I.laid (t':=s.toks) kp (Vaa _) (show zaZ X.prog X.w _ h' _ (.lst ys) from ⟨hz,its,c',r',e⟩),rfl,q _ (I.hok.fresh (Vaa _))⟩
 rcases hq with hq | hq
 ·obtain⟨its,r',pl,hz⟩:=I.list hq
  have hlen:=r'.length
  obtain⟨o,ho,hc,n,hd⟩:=pl.isList
  exact call_list_seq p (.inl rfl) ho hc hd (λh' c' kp e=>fin its r' hz h' c' kp e) (by simp only[Vag] <;> omega)
 ·obtain⟨its,r',pl,hz⟩:=I.tuple hq
  have hlen:=r'.length
  obtain⟨o,ho,hc,n,hd⟩:=pl
  exact call_list_seq p (.inr rfl) ho hc hd (λh' c' kp e=>fin its r' hz h' c' kp e) (by simp only[Vag] <;> omega)
def tyV (K:PySem.W.Frag)(T:String)(x:V)(H:Hp):Prop:=match x with
 | .str _=>T="str"
 | .int _=>T="int"
 | .ref p=>(T="list"∧∃xs,SqL K H p xs)∨(T="tuple"∧∃o,K.lookup p=some o∧o.cls=.type "tuple"∧o.dict=none)∨
   (T="dict"∧((∃kvs,H p=some (.dK kvs))∨∃kvs,H p=some (.dT kvs)))∨(T="set"∧∃S n,H p=some (.set S n))
 | _=>False
theorem zlG {pins:List (Addr×Obj)}{σ:St}{H:Hp}{s:Shared}{T:String}{x:V}{v:Value}(I:Inv X pins σ H s)(r:zae x v)(ty:tyV X.K T x H):
  s.TypeIs v T∧∀a,v=.ref a→∃ob,s.heap.get? a=some ob∧ob.dict=none:=by
 cases x with
 | str z=>
  obtain⟨t,rfl⟩:=r
  cases (show T="str" from ty)
  exact⟨typeIs_str s z t,λ_ e=>nomatch e⟩
 | int i=>
  obtain⟨t,rfl⟩:=r
  cases (show T="int" from ty)
  exact⟨typeIs_int s i t,λ_ e=>nomatch e⟩
 | ref p=>
  cases r
  rcases ty with ⟨rfl,xs,hq⟩ | ⟨rfl,o,hk,hc,hd⟩ | ⟨rfl,hk⟩ | ⟨rfl,S,n,hk⟩
  ·obtain⟨its,_,pl,_⟩:=I.list hq
   refine⟨pl.isList.typeIs,λa e=>?_⟩
   cases e
   obtain⟨o,n,e,c,hd,_⟩:=pl
   exact⟨o,e,hd⟩
  ·refine⟨⟨o,I.kIn p o hk,hc⟩,λa e=>?_⟩
   cases e
   exact⟨o,I.kIn _ o hk,hd⟩
  ·have z:∃o,s.heap.get? p=some o∧o.ExactDict:=by
    rcases hk with ⟨kvs,hk⟩ | ⟨kvs,hk⟩
    ·obtain⟨_,_,_,_,o,_,_,e,ex,_⟩:=I.hok p _ hk
     exact⟨o,e,ex⟩
    ·obtain⟨_,_,_,_,o,_,_,e,ex,_⟩:=I.hok p _ hk
     exact⟨o,e,ex⟩
   obtain⟨o,e,ex⟩:=z
   refine⟨⟨o,e,ex.1⟩,λa e2=>?_⟩
   cases e2
   exact⟨o,e,ex.2.1⟩
  ·obtain⟨o,_,_,_,e,ex,_⟩:=I.hok p _ hk
   refine⟨⟨o,e,ex.1⟩,λa e2=>?_⟩
   cases e2
   exact⟨o,e,ex.2.1⟩
 | _=>exact False.elim ty
def tBM (K:PySem.W.Frag)(T:String)(r:V→List V→Hp→VK→Prop)(to:TE)(t:TA):TE:=λσ H Q=>to σ H λx H1=>tyV K T x H1∧t σ H1 λxs H2=>r x xs H2 Q
variable {o e:Expr}{es:List Expr}{to:TE}{t:TA}{name:Str}{apos cpos:Pos}{T id:String}{r:V→List V→Hp→VK→Prop}
theorem zhu (pa:PlainAttrs T)(slot:Slot T name id)(hty:typeOf (.builtin id)=pure (.type "method_descriptor"))(hm:MtR X id r)(ho:PE X o to)(ha:PA X (e::es) t)
  (hbase:attributeBase o name X.env (eval o X.env)=eval o X.env:=by rfl)
  (hfew:((backTo cpos (starEach (e::es) X.env)).all (λx=>!x.1)&&(backToKw cpos (keywordEach [] X.env)).all (λx=>x.1.isSome)
  &&decide ((e::es).length+([]:List Keyword).length+(if ([]:List Keyword).isEmpty then 0 else 1)<30))=true:=by rfl)
  (hline:(apos.endLine==cpos.line)=true:=by rfl)(hs:starEach (e::es) X.env=(false,eval e X.env)::starEach es X.env:=by rfl)(hplain:(backTo cpos (starEach es X.env)).any (·.1)=false:=by rfl):
  PE X (.Call (.Attribute o name apos) (e::es) [] cpos) (tBM X.K T r to t):=by
 intro pins s σ H Q I h
 refine wpAny_Call_method_late hbase hfew hline rfl (thn (ho pins s σ H _ I h) λv s1 ⟨x,H1,I1,r1,ty,q1⟩=>?_)
 obtain⟨h1,h2⟩:=zlG I1 r1 ty
 refine⟨T,id,pa,slot,hty,h1,h2,?_⟩
 have hA:=ha cpos pins s1 σ H1 _ I1 q1
 rw[hs] at hA ⊢
 refine Calls.callWith_builtin (by show (false||(backTo cpos (starEach es X.env)).any (·.1))=false; rw[hplain] <;> rfl) (Calls.evalArgs_plain ?_)
 exact thn hA λus s2 ⟨vs,H2,I2,r2,q2⟩=>hm pins s2 σ H2 x vs v us Q I2 r1 r2 q2
end
end L2
namespace L2
open PySem PySem.Spec PyProof.Rows
def MtM (X:Cx)(id:String)(r:V→List V→Hp→VK→Prop):Prop:=
 ∀(pins:List (Addr×Obj)) (s:Shared) (σ:St) (H:Hp) (x:V) (xs:List V) (v:Value) (us:List Value) (Q:VK),Inv X pins σ H s→zae x v→zaf xs us→r x xs H Q→
  wpAny (model X.prog X.w) X.A (call (.builtin id) (v::us)) (EP X pins σ Q) X.xe s
theorem zaf.one:∀ {x:V} {us:List Value},zaf [x] us→∃u,us=[u]∧zae x u
 | _,_,.cons r .nil=>⟨_,rfl,r⟩
theorem zaf.two:∀ {x y:V} {us:List Value},zaf [x,y] us→∃u v,us=[u,v]∧zae x u∧zae y v
 | _,_,_,.cons r (.cons q .nil)=>⟨_,_,rfl,r,q⟩
theorem zaf.zero:∀ {us:List Value},zaf [] us→us=[]
 | _,.nil=>rfl
section
variable {X:Cx}{pins:List (Addr×Obj)}{σ:St}{H:Hp}{s:Shared}{l b:Addr}{xs ys zs:List V}
theorem Inv.lset {its its':List Value}{n:Nat}{f:Array Value→Array Value}{t':Nat}(I:Inv X pins σ H s)(hH:H l=some (.lst xs))
  (e:s.heap.get? l=some { cls:=.type "list",data:=.seq its.toArray n })(hf:f its.toArray=its'.toArray)(hv:zaf ys its')(hz:ys.length≤sizeLine):
  Inv X pins σ (upd H l (.lst ys)) { s with heap:=s.heap.update l (Obj.mapSeq f),toks:=t' }:=by
 have q:=PySem.IsL.update e f
 rw[hf] at q
 refine I.write (x:=l) (e:=l) (by rw[hH]; exact trivial) (.inl rfl) (λb' u hb hu=>(Heap.get?_update_other s.heap (Obj.mapSeq f) (Ne.symm hb)).trans hu) ⟨_,q⟩ ?_
 exact⟨hz,its',_,hv,q⟩
theorem Inv.lnew {its:List Value}{t':Nat}(I:Inv X pins σ H s)(hv:zaf ys its)(hz:ys.length≤sizeLine):
  Inv X pins σ (upd H s.heap.objs.size (.lst ys)) { s with heap:=s.heap.push { cls:=.type "list",data:=.seq its.toArray },toks:=t' }:=
 I.laid (λ_ _ q=>Heap.get?_push_of_some _ q) (Vaa _) ⟨hz,its,0,hv,Heap.get?_push_size _ rfl⟩
theorem Inv.fresh (I:Inv X pins σ H s):H s.heap.objs.size=none:=I.hok.fresh (Vaa _)
theorem Inv.lstM (I:Inv X pins σ H s)(hH:H l=some (.lst xs)):xs.length≤sizeLine∧∃(its:List Value) (n:Nat),zaf xs its∧xs.length=its.length∧s.heap.get? l=some { cls:=.type "list",data:=.seq its.toArray n }:=by
 obtain⟨z,its,n,r,e⟩:=I.hok l _ hH
 exact⟨z,its,n,r,r.length,e⟩
theorem zkH {n:Nat}(h:n≤sizeLine):Builtin.List.listTooLong n=false:=by
 unfold Builtin.List.listTooLong
 exact decide_eq_false (by omega)
end
section
variable {X:Cx}
def zjh:V→List V→Hp→VK→Prop:=λx vs H Q=>∃l xs y,x=.ref l∧vs=[y]∧H l=some (.lst xs)∧xs.length<sizeLine∧Q .non (upd H l (.lst (xs++[y])))
theorem zgr:MtM X "list.append" zjh:=by
 intro pins s σ H x vs v us Q I rx rv h
 obtain⟨l,xs,y,rfl,rfl,hH,hz,q⟩:=h
 cases rx
 obtain⟨u,rfl,ru⟩:=rv.one
 obtain⟨z,its,n,r,hl,e⟩:=I.lstM hH
 refine call_meets F.slot_list_append ⟨_,e,rfl⟩ F.entry_list_append (F.args_list_append_2 _ _) (PySem.list_append l its.toArray n u (by rw[Vag]; omega)) ⟨e,?_⟩
 refine⟨.non,_,I.lset (its':=its++[u]) hH e (by simp) (r.append (.cons ru .nil)) ?_,rfl,q⟩
 rw[Vaq,List.length_singleton]
 omega
def zlD:V→List V→Hp→VK→Prop:=λx vs H Q=>∃l b xs zs,x=.ref l∧vs=[.ref b]∧H l=some (.lst xs)∧H b=some (.lst zs)∧xs.length+zs.length≤sizeLine∧Q .non (upd H l (.lst (xs++zs)))
theorem ziE:MtM X "list.extend" zlD:=by
 intro pins s σ H x vs v us Q I rx rv h
 obtain⟨l,b,xs,zs,rfl,rfl,hH,hB,hz,q⟩:=h
 cases rx
 obtain⟨u,rfl,ru⟩:=rv.one
 cases ru
 obtain⟨z,its,n,r,hl,e⟩:=I.lstM hH
 obtain⟨z2,its2,n2,r2,hl2,e2⟩:=I.lstM hB
 have hsz:its.toArray.size+its2.toArray.size≤sizeLine:=by rw[Vag,Vag]; omega
 have hlong:¬ (!its.toArray.isEmpty&&Builtin.List.listTooLong (its.toArray.size+its2.toArray.size))=true:=by
  rw[zkH hsz,Bool.and_false]
  exact Van
 refine call_meets F.slot_list_extend ⟨_,e,rfl⟩ F.entry_list_extend (F.args_list_extend_2 _ _)
  (AutoSeq1.list_extend_list_list_0 l its.toArray n b its2.toArray n2 hlong (by rw[Vag]; omega) (by omega)) ⟨e,e2,?_⟩
 refine⟨.non,_,I.lset (its':=its++its2) hH e (by simp) (r.append r2) ?_,rfl,q⟩
 rw[Vaq]
 omega
def rCat:R2:=λx y H Q=>∃l b xs zs,x=.ref l∧y=.ref b∧H l=some (.lst xs)∧H b=some (.lst zs)∧xs.length+zs.length≤sizeLine∧∀p,H p=none→Q (.ref p) (upd H p (.lst (xs++zs)))
theorem zjb:OpR X (binaryOp .Add) rCat:=by
 intro pins s σ H x y v u Q I rx ry h
 obtain⟨l,b,xs,zs,rfl,rfl,hH,hB,hz,q⟩:=h
 cases rx
 cases ry
 obtain⟨z,its,n,r,hl,e⟩:=I.lstM hH
 obtain⟨z2,its2,n2,r2,hl2,e2⟩:=I.lstM hB
 refine PySem.P.add_list e e2 ?_ (by rw[Vag,Vag]; omega)
 have ea:its.toArray++its2.toArray=(its++its2).toArray:=by simp
 rw[ea]
 exact⟨.ref _,_,I.lnew (t':=s.toks) (r.append r2) (by rw[Vaq]; omega),rfl,q _ I.fresh⟩
end
section
variable {prog:Program}{w:World}{A:Around}{E:Value→Shared→Prop}{s:Shared}
set_option maxRecDepth 100000 in
end
section
variable {X:Cx}
end
end L2
namespace Att
open PySem PySem.W PySem.Calls PyProof.Rows
theorem zj6 {P:Params}{h:Heap}:∀(ns:List Int) (vs:List Value),WellAll P h vs (ns.map WData.int)→IntsAre vs ns:=by
 intro ns
 induction ns with
 | nil=>
  intro vs w
  rw[List.map_nil] at w
  cases w
  exact .nil
 | cons n ns ih=>
  intro vs w
  rw[Vak] at w
  cases w with
  | cons a b=>
   cases a
   exact .cons _ _ (ih _ b)
theorem zji {l:OpenLaw}{n:Nat}(hn:l.most=some n){P:Params}{h:Heap}{args:List WData}{vals:List Value}
  (hpre:l.row.toRowW.claim.pre args=true)(hwl:WellAll P h vals args):
  ∃a vs ns,vals=[Value.ref a]∧args=[WData.list (ns.map WData.int)]∧h.get? a=some { cls:=.type "list",data:=.seq vs.toArray }∧IntsAre vs ns∧ns.length≤n:=by
 have hsh:WShape.hasAll [] args [.list .int]=true:=(pre_splitW hpre).1
 have hc:l.pre.holds [] { args:=args }=true:=(pre_splitW hpre).2
 obtain⟨d,r,rfl,h1,h2⟩:=hasAllW_cons hsh
 obtain rfl:=hasAllW_nil h2
 obtain⟨xs,rfl,h3⟩:=hasW_list h1
 obtain⟨ns,rfl⟩:=items_int h3
 have hlen:ns.length≤n:=by
  unfold OpenLaw.pre at hc
  have h4:(WTm.not (.lt (.lit (.int (n:Int))) (.len (.arg 0)))).holds [] { args:=[.list (ns.map .int)] }=true:=by
   have h4:=(holds_andW hc).1
   rw[hn] at h4
   exact h4
  have h5:=condW_of h4 (w_not (w_lt w_lit (w_len_list (w_arg rfl))))
  rw[Vac] at h5
  refine Nat.le_of_not_lt λq=>?_
  have q':(n:Int)<((ns.length:Nat):Int):=by omega
  first
   | (rw[decide_eq_true q'] at h5; exact absurd h5 (by decide))
   | (simp at h5; omega)
 cases hwl with
 | cons w1 w2=>
  cases w2
  cases w1 with
  | list ho hall=>exact⟨_,_,ns,rfl,rfl,ho,zj6 ns _ hall,hlen⟩
theorem zkP (l:OpenLaw)(args:List WData):l.row.toRowW.claim.post args (.bool true) args=true:=
 postW_of (r:=l.row.toRowW) (X:=(true==true))
  (show WShape.has [] (.bool true) .bool=true by first | rfl | decide | simp[WShape.has,WShape.arms,WShape.armsAll])
  (show (WTm.eq .res (.lit (.bool true))).value [] { args:=args,res:=some (.bool true),after:=args }=some (.bool (true==true)) from w_eq_bool (w_res rfl) w_lit) rfl
theorem attach_call {l:OpenLaw}{n:Nat}{q:Program}{loose:List Str}{XP:(Str→Option Value)→Heap→Prop}{YP:World→Heap→Prop}{d:DefRec}
  (hn:l.most=some n)(hdf:d.params.defaults=[])
  (call:∀(w:World) (s₀ s₁:Shared) (mg mb:Str→Option Value) (fa:Addr) (o:Obj) (pm cd doc:Value) (a:Addr) (vs:List Value) (ns:List Int),
   Ground q loose [] XP w s₀ mg mb s₁.heap→YP w s₁.heap→
   s₁.heap.get? fa=some o→o.data=.func (docDef d.name d.params d.body d.scope pm cd doc)→s₁.heap.CodeRec cd d.name→mg d.name=some (.ref fa)→
   s₁.heap.get? a=some { cls:=.type "list",data:=.seq vs.toArray }→IntsAre vs ns→ns.length≤n→s₁.gens=#[]→
   codeAny (model l.prog w) callerA (.call (.ref fa) ⟨[.ref a],[]⟩) (λr s'=>r=.ok (.ret (.bool true))∧OldK s₁.heap s'.heap∧s'.os=s₁.os∧AllBare s'.gens) s₁):
  WalkO q loose XP YP l.row.toRowW d [] (λf vs=>PySem.call f vs):=by
 intro w s₀ s₁ mg mb G Y fa o pm cd doc dV kV ho hd hcd hD hmg hg args vals as hpre hlay hrd hwl hlo
 obtain rfl:dV=.none:=Dflts.none hD hdf
 obtain rfl:kV=.none:=Dflts.noKw hD
 obtain⟨a,vs,ns,rfl,rfl,hobj,hints,hlen⟩:=zji hn hpre hwl
 refine enter_call (codeAny_mono (call w s₀ s₁ mg mb fa o pm cd doc a vs ns G Y ho (fd_plain hd) hcd hmg hobj hints hlen hg) λr s' hq=>?_)
 obtain⟨rfl,h2,h3,h4⟩:=hq
 exact⟨.inl ⟨.bool true,.bool true,[],rfl,λ_=>rfl,.bool true,zkP l _,λ_=>⟨List.Pairwise.nil,λ_ hm=>(nomatch hm)⟩⟩,h2,h3,h4⟩
section
variable {prog:Program}{w:World}{A:Around}{E:Value→Shared→Prop}{s:Shared}{K:Frag}
def ledger (h:Heap)(L d:Addr):List (Addr×Obj):=(List.range h.objs.size).filterMap λa=>if a=L∨a=d then none else (h.get? a).map λo=>(a,o)
end
end Att
namespace L2
open PySem PySem.Spec PyProof.Rows
theorem zeg:∀ {vs:List Value} {ns:List Int},IntsAre vs ns→zaf (ns.map V.int) vs
 | _,_,.nil=>.nil
 | _,_,.cons n t h=>.cons ⟨t,rfl⟩ (zeg h)
def zdF (H:Hp):Prop:=∀b,H b=none∨∃o xs,H b=some (.frz o (.lst xs))
theorem zkq {P:Program}{w:World}{K:PySem.W.Frag}{mg mb:Str→Option Value}{CX:CXT}{k:Nat}{fa a:Addr}{fd:FuncData}{x:Str}{sp:Sp}{s₁:Shared}{vs:List Value}{ns:List Int}
  (KX:K.In s₁.heap)(hns:s₁.heap.Ns mainGlobals mg)(hb:s₁.heap.Ns builtinsNs mb)(hbb:∀x:Str,x≠"__name__"→mb x=bootBuiltins x)(hlim:s₁.heap.NoLimit)(hg:s₁.gens=#[])
  (ha:s₁.heap.get? a=some { cls:=.type "list",data:=.seq vs.toArray })(hi:IntsAre vs ns)(hl:ns.length≤sizeLine)(hr:zaC k callerA)
  (F:∀base:Heap,K.In base→base.Ns mainGlobals mg→zaW P w K mg base CX k fa fd [x] sp)(hbind:∀(s:Shared) (u:Value),BindsTo s fd ⟨[u],[]⟩ [(x,u)])
  (hsp:∀H:Hp,zdF H→SqL K H a (ns.map V.int)→sp [.ref a] H (λv _=>v=.bl true) λ_ _ _=>False)
  (hCX:∀H e s',CX [] H s₁ (λ_ _ _=>False) e s'→False):
  codeAny (model P w) callerA (.call (.ref fa) ⟨[.ref a],[]⟩) (λr s'=>r=.ok (.ret (.bool true))∧OldK s₁.heap s'.heap∧s'.os=s₁.os∧AllBare s'.gens) s₁:=by
 have rv:=zeg hi
 have lenV:=hi.length
 have core:∀H:Hp,zdF H→SqL K H a (ns.map V.int)→HOk P w H s₁.heap→(∀b,H b≠none→b=a)→(H a≠none→K.lookup a=none)→
   codeAny (model P w) callerA (.call (.ref fa) ⟨[.ref a],[]⟩) (λr s'=>r=.ok (.ret (.bool true))∧OldK s₁.heap s'.heap∧s'.os=s₁.os∧AllBare s'.gens) s₁:=by
  intro H hO hS hok hA hK
  have base_of:∀ {b:Addr} {o:Obj},s₁.heap.get? b=some o→H b=none→(zcd s₁.heap H).get? b=some o:=λe n=>zlW e n
  have noA:∀ {b:Addr} {o:Obj} {es:Array DictEntry} {ep:Nat},s₁.heap.get? b=some o→o.data=.dict es ep→H b=none:=λ{b o es ep} e d=>by
   cases q:H b with
   | none=>rfl
   | some u=>
    have e':b=a:=hA b (by rw[q]; simp)
    subst e'
    rw[ha] at e; cases e
    have d':Data.seq vs.toArray _=Data.dict es ep:=d
    cases d'
  have nsK:∀ {b:Addr} {m:Str→Option Value},s₁.heap.Ns b m→(zcd s₁.heap H).Ns b m:=λ{b m} ⟨o,es,ep,e,d,r⟩=>⟨o,es,ep,base_of e (noA e d),d,r⟩
  have hKb:K.In (zcd s₁.heap H):=λb o e=>base_of (KX b o e) (by
   cases q:H b with
   | none=>rfl
   | some u=>
    have e':b=a:=hA b (by rw[q]; simp)
    subst e'
    rw[hK (by rw[q]; simp)] at e; cases e)
  have hM:Mod K mg (zcd s₁.heap H):=⟨hKb,nsK hns,⟨mb,nsK hb,hbb⟩,let ⟨mc,h1,h2⟩:=hlim; ⟨mc,nsK h1,h2⟩⟩
  have e0:zcv P w K mg (zcd s₁.heap H) callerA [] s₁ H:=⟨rfl,hM,λb o e=>zlf e,Nat.le_of_eq (zlv _ _),trivial,λb hb=>absurd (show b∈([]:List Addr) from hb) (by simp),hok,.of_eq hg⟩
  refine codeAny_mono ((F _ hKb (nsK hns)).run callerA [] s₁ H ⟨[.ref a],[]⟩ [.ref a] [.ref a] _ _ hr e0 (hbind s₁ (.ref a)) (.cons rfl .nil) (hsp H hO hS)) λr s' h=>?_
  cases r with
  | error e=>exact(hCX H e s' h).elim
  | ok fl=>
   cases fl with
   | next=>exact False.elim h
   | brk=>exact False.elim h
   | cont=>exact False.elim h
   | ret u=>
    obtain⟨v,H',os,bare,un,hok',r',q⟩:=h
    have q':v=.bl true:=q
    subst q'
    obtain rfl:u=Value.bool true:=r'
    refine⟨rfl,OldK.of_keep λb o e=>?_,os,bare⟩
    cases q:H b with
    | none=>exact un.keep b o e q (by intro z; exact absurd (show b∈([]:List Addr) from z) (by simp)) (by simp)
    | some u=>
     rcases hO b with z | ⟨ob,xs,z⟩
     ·rw[q] at z; cases z
     ·have z2:=un.frzs b ob _ z
      obtain⟨e1,_⟩:=hok b _ z
      obtain⟨e2,_⟩:=hok' b _ z2
      rw[e] at e1; cases e1
      exact e2
 cases hk:K.lookup a with
 | some o=>
  have e:=KX a o hk
  rw[ha] at e
  cases e
  refine core (λ_=>none) (λ_=>.inl rfl) (.inr ⟨_,vs.toArray,_,hk,rfl,rfl,rfl,by rw[Vag,lenV]; exact hl,by simpa using rv⟩) (λb u z=>by have z':(none:Option HO)=some u:=z; cases z') (λb z=>absurd rfl z) λz=>absurd rfl z
 | none=>
  refine core (λb=>if b=a then some (.frz { cls:=.type "list",data:=.seq vs.toArray } (.lst (ns.map V.int))) else none) (λb=>?_) (.inl (.inr ⟨{ cls:=.type "list",data:=.seq vs.toArray },if_pos rfl⟩)) (λb u z=>?_) (λb z=>?_) λ_=>hk
  ·by_cases hb:b=a
   ·exact .inr ⟨_,_,if_pos hb⟩
   ·exact .inl (if_neg hb)
  ·by_cases hb:b=a
   ·have z':=(if_pos hb).symm.trans z
    cases z'
    subst hb
    exact⟨ha,by rw[Vac]; exact hl,vs,_,rv,ha⟩
   ·have z':=(if_neg hb).symm.trans z
    cases z'
  ·by_cases hb:b=a
   ·exact hb
   ·exact absurd (if_neg hb) z
end L2
namespace L2
open PySem PySem.Spec PyProof.Rows
theorem zkb {l:PySem.W.OpenLaw}{n k:Nat}{q:Program}{loose:List Str}{XP:(Str→Option Value)→Heap→Prop}{YP:World→Heap→Prop}{d:DefRec}{K:Params→PySem.W.Frag}{CX:World→CXT}{sp:World→Sp}{x:Str}
  (hn:l.most=some n)(hn2:n≤sizeLine)(hdf:d.params.defaults=[])(hr:zaC k callerA)
  (hY:∀(w:World) (h:Heap),YP w h→(K w.params).In h)
  (F:∀(w:World) (mg:Str→Option Value) (fa:Addr) (h:Heap),(K w.params).In h→h.Ns mainGlobals mg→mg d.name=some (.ref fa)→
   ∃fd:FuncData,(∀(s:Shared) (u:Value),BindsTo s fd ⟨[u],[]⟩ [(x,u)])∧
    ∀base:Heap,(K w.params).In base→base.Ns mainGlobals mg→zaW l.prog w (K w.params) mg base (CX w) k fa fd [x] (sp w))
  (hsp:∀(w:World) (H:Hp) (a:Addr) (ns:List Int),ns.length≤n→zdF H→SqL (K w.params) H a (ns.map V.int)→sp w [.ref a] H (λv _=>v=.bl true) λ_ _ _=>False)
  (hCX:∀(w:World) (H:Hp) (s:Shared) (e:Value) (s':Shared),CX w [] H s (λ_ _ _=>False) e s'→False):
  PySem.W.WalkO q loose XP YP l.row.toRowW d [] (λf vs=>PySem.call f vs):=by
 refine Att.attach_call hn hdf λw s₀ s₁ mg mb fa o pm cd doc a vs ns G Y ho hd hcd hmg hobj hints hlen hg=>?_
 have KX:=hY w _ Y
 obtain⟨fd,hb,hF⟩:=F w mg fa _ KX G.T.g hmg
 exact zkq KX G.T.g G.T.b G.T.builtins G.T.nolimit hg hobj hints (Vau hlen hn2) hr hF hb (λH hO hS=>hsp w H a ns hlen hO hS) λH e s'=>hCX w H s₁ e s'
end L2
namespace L2
open PySem PySem.Spec PyProof.Rows
abbrev CX0:CXT:=λ_ _ _ _ _ _=>False
structure Fun (K:PySem.W.Frag)(x qual:Str)(st:Stmt)(f:Addr)(fd:FuncData):Prop where
 ex:∃(oc:Value) (od:Option Addr) (kV doc pm:Value) (an:Option Addr) (cdv ct:Value) (osl:Array (Option Value)),
  fd=PySem.W.fnOf x qual (zcR st) (zck st) (zak st) .none kV doc pm an cdv ct∧K.lookup f=some ⟨oc,od,.func fd,osl⟩∧PySem.W.codeIn K cdv qual=true
 kp:PySem.W.keepIn K (.ref f)=true
section
variable {P:Program}{w:World}{K:PySem.W.Frag}{mg:Str→Option Value}{base:Heap}
theorem Fun.ok {x qual:Str}{st:Stmt}{f:Addr}{fd:FuncData}{N ps:List Str}{k:Nat}{sp:Sp}(F:Fun K x qual st f fd)(S:zaY N ps (zak st))(len:∀vs H Q E,sp vs H Q E→vs.length=ps.length)
  (hbody:∀(cdv:Value) (A:Around) (outer:List Env) (s:Shared) (H:Hp) (vs:List V) (Q:VK) (E:XK),zaC k (A.deeper (envOfC qual (zak st) s.heap.objs.size f cdv))→sp vs H Q E→
   ∃t,PSs (zcU CX0 P w K mg base N qual (zak st) f cdv A outer s H E).nox (zck st) t∧t { nx:=λ_ H'=>Q .non H',rt:=Q } (zbQ N vs) H):zaW P w K mg base CX0 (k+1) f fd ps sp:=by
 obtain⟨oc,od,kV,doc,pm,an,cdv,ct,osl,rfl,lk,hcd⟩:=F.ex
 refine zhU lk hcd S len λA outer s H vs Q E hr hsp=>?_
 obtain⟨t,h,q⟩:=hbody cdv A outer s H vs Q E hr hsp
 exact⟨t,h.nox,q⟩
theorem Fun.binds {x qual:Str}{st:Stmt}{f:Addr}{fd:FuncData}{ps:List Str}(F:Fun K x qual st f fd)
  (h:∀(kV doc pm:Value) (an:Option Addr) (cdv ct:Value) (us:List Value),us.length=ps.length→bindArgs (PySem.W.fnOf x qual (zcR st) (zck st) (zak st) .none kV doc pm an cdv ct) ⟨us,[]⟩=pure (ps.zip us)):zbS K fd ps []:=by
 obtain⟨oc,od,kV,doc,pm,an,cdv,ct,osl,rfl,lk,hcd⟩:=F.ex
 exact .all (h kV doc pm an cdv ct)
theorem zhj {x qual:Str}{st:Stmt}{f:Addr}{oc:Value}{od an:Option Addr}{osl:Array (Option Value)}{kV doc pm cdv ct:Value}(l:K.lookup f=some ⟨oc,od,.func (PySem.W.fnOf x qual (zcR st) (zck st) (zak st) .none kV doc pm an cdv ct),osl⟩)
  (c:PySem.W.codeIn K cdv qual=true)(k:PySem.W.keepIn K (.ref f)=true):Fun K x qual st f (PySem.W.fnOf x qual (zcR st) (zck st) (zak st) .none kV doc pm an cdv ct):=⟨⟨oc,od,kV,doc,pm,an,cdv,ct,osl,rfl,l,c⟩,k⟩
end
theorem zes {n:Nat}(h:n≤1000):n<sizeLine:=Nat.lt_of_le_of_lt h (by decide)
section
variable {X:Cx}
theorem pv (i:Nat){x:Str}{pos:Pos}(hN:X.N[i]?=some x:=by rfl)(hv:Vis X.env.scope x:=by first | exact Or.inl rfl | exact Or.inr (Or.inl rfl) | exact Or.inr (Or.inr rfl))(hd:(x==("__debug__":Str))=false:=by decide)
  (hcd:(x==("__classdict__":Str))=false:=by decide):PE X (.Name x pos) (tVar i):=zhA hN hv hd hcd
end
theorem zam {A B:Prop}(h:B):if false=true then A else B:=by
 rw[if_neg Van]
 exact h
theorem zba {A B:Prop}(h:A):if true=true then A else B:=by
 rw[if_pos rfl]
 exact h
theorem zdG {c A B:Prop} [Decidable c] (h1:c→A)(h2:¬ c→B):if c then A else B:=by
 by_cases h:c
 ·rw[if_pos h]
  exact h1 h
 ·rw[if_neg h]
  exact h2 h
def zb2 (H H':Hp):Prop:=∀b o,H b=some o→H' b=some o
theorem zb2.refl (H:Hp):zb2 H H:=λ_ _ h=>h
theorem zb2.trans {H H1 H2:Hp}(a:zb2 H H1)(b:zb2 H1 H2):zb2 H H2:=λc o h=>b c o (a c o h)
theorem zb2.free {H H':Hp}(e:zb2 H H'){l:Addr}(h:H' l=Option.none):H l=Option.none:=by
 cases q:H l with
 | none=>rfl
 | some o=>
  rw[e l o q] at h
  cases h
theorem zb2.seq {K:PySem.W.Frag}{H H':Hp}{a:Addr}{xs:List V}(e:zb2 H H')(h:SqL K H a xs):SqL K H' a xs:=by
 rcases h with (h | ⟨o,h⟩) | h
 ·exact .inl (.inl (e _ _ h))
 ·exact .inl (.inr ⟨o,e _ _ h⟩)
 ·exact .inr h
end L2
namespace L2
open PySem PySem.Spec PyProof.Rows
section
variable {κ:Type} [DecidableEq κ]
def zby (kvs:List (κ×V))(k:κ):Option V:=(kvs.find? λkv=>decide (kv.1=k)).map (·.2)
def putK (kvs:List (κ×V))(k:κ)(v:V):List (κ×V):=
 if (kvs.any λkv=>decide (kv.1=k))=true then kvs.map (λkv=>if kv.1=k then (kv.1,v) else kv) else kvs++[(k,v)]
def zhD (kvs:List (κ×V))(k:κ):List (κ×V):=kvs.filter λkv=>decide (kv.1≠k)
theorem zfn {p:κ×V}{r:List (κ×V)}{k:κ}(e:p.1=k):zby (p::r) k=some p.2:=by simp[zby,VaP,e]
theorem zfj {p:κ×V}{r:List (κ×V)}{k:κ}(e:¬ p.1=k):zby (p::r) k=zby r k:=by simp[zby,VaP,e]
theorem zij (k:κ):∀kvs:List (κ×V),(kvs.any λkv=>decide (kv.1=k))=(zby kvs k).isSome
 | []=>rfl
 | p::r=>by
  rw[List.any_cons]
  by_cases e:p.1=k
  ·simp only[zfn e,decide_eq_true e,Bool.true_or,Option.isSome_some]
  ·rw[zfj e,decide_eq_false e,Bool.false_or]; exact zij k r
theorem zcn.isSome_eq {o:Option V}{u:Option Value}(r:zcn o u):o.isSome=u.isSome:=by
 cases o with
 | none=>cases u with
  | none=>rfl
  | some _=>exact(show False from r).elim
 | some _=>cases u with
  | none=>exact(show False from r).elim
  | some _=>rfl
theorem zcn.getD {o:Option V}{u:Option Value}{d:V}{d':Value}(r:zcn o u)(rd:zae d d'):zae (o.getD d) (u.getD d'):=by
 cases o with
 | none=>cases u with
  | none=>exact rd
  | some _=>exact(show False from r).elim
 | some _=>cases u with
  | none=>exact(show False from r).elim
  | some _=>exact r
theorem KV.val {kvs:List (κ×V)}{vs:List (κ×Value)}(r:KV kvs vs)(k:κ):zcn (zby kvs k) (valueAt vs k):=by
 unfold KV at r
 induction r with
 | nil=>exact True.intro
 | @cons p q ps qs h t ih=>
  obtain⟨h1,h2⟩:=h
  by_cases e:p.1=k
  ·have e':q.1=k:=h1.symm.trans e
   have b:valueAt (q::qs) k=some q.2:=by simp[valueAt,VaP,e']
   rw[zfn e,b]; exact h2
  ·have e':¬ q.1=k:=λz=>e (h1.trans z)
   have b:valueAt (q::qs) k=valueAt qs k:=by simp[valueAt,VaP,e']
   rw[zfj e,b]; exact ih
theorem KV.any {kvs:List (κ×V)}{vs:List (κ×Value)}(r:KV kvs vs)(k:κ):(kvs.any λkv=>decide (kv.1=k))=vs.any λkv=>decide (kv.1=k):=by
 unfold KV at r
 induction r with
 | nil=>rfl
 | cons h t ih=>rw[List.any_cons,List.any_cons,ih,h.1]
theorem KV.repl {kvs:List (κ×V)}{vs:List (κ×Value)}(r:KV kvs vs)(k:κ){y:V}{u:Value}(ry:zae y u):
  KV (kvs.map λkv=>if kv.1=k then (kv.1,y) else kv) (vs.map λkv=>if kv.1=k then (kv.1,u) else kv):=by
 unfold KV at r ⊢
 induction r with
 | nil=>exact .nil
 | @cons p q ps qs h t ih=>
  rw[Vak,Vak]
  refine .cons ?_ ih
  obtain⟨h1,h2⟩:=h
  by_cases e:p.1=k
  ·rw[if_pos e,if_pos (h1.symm.trans e)]; exact⟨h1,ry⟩
  ·rw[if_neg e,if_neg (λz=>e (h1.trans z))]; exact⟨h1,h2⟩
theorem KV.put {kvs:List (κ×V)}{vs:List (κ×Value)}(r:KV kvs vs)(k:κ){y:V}{u:Value}(ry:zae y u):KV (putK kvs k y) (stored vs k u):=by
 unfold putK stored
 rw[r.any k]
 by_cases e:(vs.any λkv=>decide (kv.1=k))=true
 ·rw[if_pos e,if_pos e]; exact r.repl k ry
 ·rw[if_neg e,if_neg e]; exact Paired.snoc r ⟨rfl,ry⟩
theorem KV.drop {kvs:List (κ×V)}{vs:List (κ×Value)}(r:KV kvs vs)(k:κ):KV (zhD kvs k) (without vs k):=by
 unfold KV at r ⊢
 unfold zhD without
 induction r with
 | nil=>exact .nil
 | @cons p q ps qs h t ih=>
  obtain⟨h1,h2⟩:=h
  rw[VaD,VaD]
  by_cases e:p.1=k
  ·have a:¬ decide (p.1≠k)=true:=by simp[e]
   have b:¬ decide (q.1≠k)=true:=by simp[h1.symm.trans e]
   rw[if_neg a,if_neg b]; exact ih
  ·have e':¬ q.1=k:=λz=>e (h1.trans z)
   have a:decide (p.1≠k)=true:=by simp[e]
   have b:decide (q.1≠k)=true:=by simp[e']
   rw[if_pos a,if_pos b]; exact .cons ⟨h1,h2⟩ ih
theorem KV.keys {kvs:List (κ×V)}{vs:List (κ×Value)}(r:KV kvs vs):kvs.map (·.1)=vs.map (·.1):=by
 unfold KV at r
 induction r with
 | nil=>rfl
 | cons h t ih=>rw[Vak,Vak,ih,h.1]
theorem KV.length {kvs:List (κ×V)}{vs:List (κ×Value)}(r:KV kvs vs):kvs.length=vs.length:=Paired.length r
end
abbrev KT (H:Hp):List (List Key×V)→List (List Key×Addr×Value)→Prop:=Paired λp q=>p.1=q.1∧H q.2.1=some (.tup (p.1.map kV))∧zae p.2 q.2.2
theorem KT.val {H:Hp}{kvs:List (List Key×V)}{xs:List (List Key×Addr×Value)}(r:KT H kvs xs)(k:List Key):zcn (zby kvs k) ((atKey xs k).map (·.2)):=by
 induction r with
 | nil=>exact True.intro
 | @cons p q ps qs h t ih=>
  obtain⟨h1,_,h2⟩:=h
  by_cases e:p.1=k
  ·have e':q.1=k:=h1.symm.trans e
   have b:atKey (q::qs) k=some q.2:=by simp[atKey,VaP,e']
   rw[zfn e,b]; exact h2
  ·have e':¬ q.1=k:=λz=>e (h1.trans z)
   have b:atKey (q::qs) k=atKey qs k:=by simp[atKey,VaP,e']
   rw[zfj e,b]; exact ih
theorem KT.repl {H:Hp}{kvs:List (List Key×V)}{xs:List (List Key×Addr×Value)}(r:KT H kvs xs)(k:List Key){y:V}{u:Value}(ry:zae y u):
  KT H (kvs.map λkv=>if kv.1=k then (kv.1,y) else kv) (xs.map (putAt k u)):=by
 induction r with
 | nil=>exact .nil
 | @cons p q ps qs h t ih=>
  rw[Vak,Vak]
  refine .cons ?_ ih
  obtain⟨h1,h2,h3⟩:=h
  unfold putAt
  by_cases e:p.1=k
  ·rw[if_pos e,if_pos (h1.symm.trans e)]; exact⟨h1,h2,ry⟩
  ·rw[if_neg e,if_neg (λz=>e (h1.trans z))]; exact⟨h1,h2,h3⟩
theorem KT.put {H:Hp}{kvs:List (List Key×V)}{xs:List (List Key×Addr×Value)}(r:KT H kvs xs)(k:List Key){b:Addr}{y:V}{u:Value}(hb:H b=some (.tup (k.map kV)))(ry:zae y u):
  KT H (putK kvs k y) (storedH xs k b u):=by
 have e:(kvs.any λkv=>decide (kv.1=k))=(atKey xs k).isSome:=by
  rw[zij,(r.val k).isSome_eq,Option.isSome_map]
 unfold putK storedH
 rw[e]
 by_cases q:(atKey xs k).isSome=true
 ·rw[if_pos q,if_pos q]; exact r.repl k ry
 ·rw[if_neg q,if_neg q]; exact Paired.snoc r ⟨rfl,hb,ry⟩
theorem KT.keeps {H H':Hp}{kvs:List (List Key×V)}{xs:List (List Key×Addr×Value)}(r:KT H kvs xs)(ht:∀b ys,H b=some (.tup ys)→H' b=some (.tup ys)):KT H' kvs xs:=
 Paired.mapP r λ_ _ z=>⟨z.1,ht _ _ z.2.1,z.2.2⟩
section
variable {P:Program}{w:World}{H:Hp}{h:Heap}{a:Addr}
end
def zfI (H:Hp)(a:Addr)(y:V)(r:Option V):Prop:=
 (∃kvs k,Rd H a (.dK kvs)∧y=kV k∧r=zby kvs k)∨∃kvs k b,Rd H a (.dT kvs)∧y=.ref b∧H b=some (.tup (k.map kV))∧r=zby kvs k
def ze5 (H:Hp)(a:Addr)(y v:V)(H':Hp):Prop:=
 (∃kvs k,H a=some (.dK kvs)∧y=kV k∧kvs.length<sizeLine∧H'=upd H a (.dK (putK kvs k v)))∨
 ∃kvs k b,H a=some (.dT kvs)∧y=.ref b∧H b=some (.tup (k.map kV))∧kvs.length<sizeLine∧H'=upd H a (.dT (putK kvs k v))
theorem zfI.k {H:Hp}{a:Addr}{kvs:List (Key×V)}{k:Key}(e:H a=some (.dK kvs)):zfI H a (kV k) (zby kvs k):=.inl ⟨kvs,k,.inl e,rfl,rfl⟩
theorem zfI.t {H:Hp}{a b:Addr}{kvs:List (List Key×V)}{k:List Key}(e:H a=some (.dT kvs))(eb:H b=some (.tup (k.map kV))):zfI H a (.ref b) (zby kvs k):=.inr ⟨kvs,k,b,.inl e,rfl,eb,rfl⟩
theorem ze5.k {H:Hp}{a:Addr}{kvs:List (Key×V)}{k:Key}{v:V}(e:H a=some (.dK kvs))(hl:kvs.length<sizeLine):ze5 H a (kV k) v (upd H a (.dK (putK kvs k v))):=.inl ⟨kvs,k,e,rfl,hl,rfl⟩
theorem ze5.t {H:Hp}{a b:Addr}{kvs:List (List Key×V)}{k:List Key}{v:V}(e:H a=some (.dT kvs))(eb:H b=some (.tup (k.map kV)))(hl:kvs.length<sizeLine):
  ze5 H a (.ref b) v (upd H a (.dT (putK kvs k v))):=.inr ⟨kvs,k,b,e,rfl,eb,hl,rfl⟩
section
variable {X:Cx}{pins:List (Addr×Obj)}{σ:St}{H:Hp}{s:Shared}{a:Addr}{y v:V}{u r:Value}{o:Option V}{A:Around}{E:Value→Shared→Prop}
theorem Inv.big (I:Inv X pins σ H s):sysModules<s.heap.objs.size:=by
 have h:mainGlobals<s.heap.objs.size:=(I.mod.glob.keeps I.bk).lt
 exact Nat.lt_trans (by decide) h
end
section
variable {X:Cx}{pins:List (Addr×Obj)}{σ:St}{H:Hp}{s:Shared}{a:Addr}{kvs:List (Key×V)}{k:Key}{u:Value}{A:Around}{E:Value→Shared→Prop}
end
section
variable {X:Cx}{o i e value:Expr}{pos pos' tpos:Pos}{td ty tv:TE}
end
section
variable {X:Cx}{pos:Pos}
end
structure M1 (X:Cx)(o:Expr)(m:Str)(apos:Pos)(e:Expr)(cpos:Pos):Prop where
 base:attributeBase o m X.env (eval o X.env)=eval o X.env
 few:((backTo cpos (starEach [e] X.env)).all (λx=>!x.1)&&(backToKw cpos (keywordEach [] X.env)).all (λx=>x.1.isSome)
 &&decide (([e]:List Expr).length+([]:List Keyword).length+(if ([]:List Keyword).isEmpty then 0 else 1)<30))=true
 line:(apos.endLine==cpos.line)=true
 trees:backTo cpos (starEach [e] X.env)=[(false,eval e X.env)]
structure M2 (X:Cx)(o:Expr)(m:Str)(apos:Pos)(e f:Expr)(cpos:Pos):Prop where
 base:attributeBase o m X.env (eval o X.env)=eval o X.env
 few:((backTo cpos (starEach [e,f] X.env)).all (λx=>!x.1)&&(backToKw cpos (keywordEach [] X.env)).all (λx=>x.1.isSome)
 &&decide (([e,f]:List Expr).length+([]:List Keyword).length+(if ([]:List Keyword).isEmpty then 0 else 1)<30))=true
 line:(apos.endLine==cpos.line)=true
 trees:backTo cpos (starEach [e,f] X.env)=[(false,eval e X.env),(false,eval f X.env)]
section
variable {X:Cx}{pins:List (Addr×Obj)}{σ:St}{H:Hp}{s:Shared}{a:Addr}{y d:V}{u r:Value}{o:Option V}{A:Around}{E:Value→Shared→Prop}
end
section
variable {X:Cx}{o e f:Expr}{apos cpos:Pos}{td ty tx:TE}
end
section
variable {X:Cx}{pins:List (Addr×Obj)}{σ:St}{H:Hp}{s:Shared}{a:Addr}{kvs:List (Key×V)}{A:Around}{E:Value→Shared→Prop}
end
section
variable {X:Cx}{pins:List (Addr×Obj)}{σ:St}{H:Hp}{s:Shared}{a:Addr}{y:V}{u:Value}{A:Around}{E:Value→Shared→Prop}
end
end L2
namespace L3
open PySem PySem.Spec PyProof.Rows L2
abbrev St:=L2.St
inductive D where
 | non | bl (b:Bool) | int (i:Int) | str (x:Str) | tup (xs:List D) | ref (n:Nat) | exc (c:Addr)
inductive Ob where
 | lst (xs:List D) | frz (xs:List D)
  | ins (C:Addr) (fs:List (Str×D))
  | dct (kvs:List (List Key×D))
abbrev Sto:=List Ob
abbrev Ev:=List (Option D)
abbrev DK:=D→Sto→Prop
abbrev TDE:=Ev→Sto→DK→Prop
abbrev TDT:=Ev→Sto→(Bool→Sto→Prop)→Prop
abbrev TDA:=Ev→Sto→(List D→Sto→Prop)→Prop
structure zcA where
 nx:Ev→Sto→Prop
 rt:DK
 bk:Ev→Sto→Prop:=λ_ _=>False
 ct:Ev→Sto→Prop:=λ_ _=>False
abbrev TDS:=zcA→Ev→Sto→Prop
def isX (a c:Addr):HO:=.ext λh=>∃o,h.get? a=some o∧o.cls=.ref c
inductive Rp (r:List Addr)(H:Hp):D→V→Prop
 | non:Rp r H .non .non
 | bl (b:Bool):Rp r H (.bl b) (.bl b)
 | int (i:Int):Rp r H (.int i) (.int i)
 | str (x:Str):Rp r H (.str x) (.str x)
 | tup {ds:List D} {xs:List V} {a:Addr}:H a=some (.tup xs)→ds.length=xs.length→(∀(i:Nat) (d:D) (v:V),ds[i]?=some d→xs[i]?=some v→Rp r H d v)→Rp r H (.tup ds) (.ref a)
 | ref {n:Nat} {a:Addr}:r[n]?=some a→Rp r H (.ref n) (.ref a)
 | exc {c a:Addr}:H a=some (isX a c)→Rp r H (.exc c) (.ref a)
def Rps (r:List Addr)(H:Hp)(ds:List D)(vs:List V):Prop:=ds.length=vs.length∧∀(i:Nat) (d:D) (v:V),ds[i]?=some d→vs[i]?=some v→Rp r H d v
structure Ext (r r':List Addr)(H H':Hp):Prop where
 adr:∀(n:Nat) (a:Addr),r[n]?=some a→r'[n]?=some a
 tup:∀a xs,H a=some (.tup xs)→H' a=some (.tup xs)
 xc:∀a c,H a=some (isX a c)→H' a=some (isX a c)
section
variable {r r' r2:List Addr}{H H' H2:Hp}{d:D}{v:V}{ds:List D}{vs:List V}
theorem Ext.refl:Ext r r H H:=⟨λ_ _ h=>h,λ_ _ h=>h,λ_ _ h=>h⟩
theorem Ext.trans (a:Ext r r' H H')(b:Ext r' r2 H' H2):Ext r r2 H H2:=⟨λn x h=>b.adr n x (a.adr n x h),λx y h=>b.tup x y (a.tup x y h),λx y h=>b.xc x y (a.xc x y h)⟩
theorem Rp.ext (h:Rp r H d v)(e:Ext r r' H H'):Rp r' H' d v:=by
 induction h with
 | non=>exact .non
 | bl b=>exact .bl b
 | int i=>exact .int i
 | str x=>exact .str x
 | tup h l _ ih=>exact .tup (e.tup _ _ h) l ih
 | ref h=>exact .ref (e.adr _ _ h)
 | exc h=>exact .exc (e.xc _ _ h)
theorem Rps.ext (h:Rps r H ds vs)(e:Ext r r' H H'):Rps r' H' ds vs:=⟨h.1,λi d v h1 h2=>(h.2 i d v h1 h2).ext e⟩
theorem Rps.nil:Rps r H [] []:=⟨rfl,λi d v h=>by simp at h⟩
theorem Rps.cons (h:Rp r H d v)(t:Rps r H ds vs):Rps r H (d::ds) (v::vs):=by
 refine⟨by simp[t.1],λi x y h1 h2=>?_⟩
 cases i with
 | zero=>
  simp at h1 h2
  subst h1; subst h2
  exact h
 | succ i=>exact t.2 i x y (by simpa using h1) (by simpa using h2)
theorem Rps.tail {y:V}(h:Rps r H (d::ds) (y::vs)):Rp r H d y∧Rps r H ds vs:=
 ⟨h.2 0 d y rfl rfl,by simpa using h.1,λi a b h1 h2=>h.2 (i+1) a b (by simpa using h1) (by simpa using h2)⟩
theorem Rps.uncons (h:Rps r H (d::ds) vs):∃v vs',vs=v::vs'∧Rp r H d v∧Rps r H ds vs':=by
 cases vs with
 | nil=>exact absurd h.1 (by simp)
 | cons v vs'=>exact⟨v,vs',rfl,h.tail⟩
theorem Rps.unnil (h:Rps r H [] vs):vs=[]:=by
 cases vs with
 | nil=>rfl
 | cons v vs'=>exact absurd h.1 (by simp)
theorem Rps.get {i:Nat}(h:Rps r H ds vs)(e:ds[i]?=some d):∃v,vs[i]?=some v∧Rp r H d v:=by
 have hi:i<ds.length:=(Vad.mp e).1
 have hv:i<vs.length:=by rw[← h.1]; exact hi
 exact⟨vs[i],by simp[hv],h.2 i d vs[i] e (by simp[hv])⟩
theorem Rps.get' {i:Nat}(h:Rps r H ds vs)(e:vs[i]?=some v):∃d,ds[i]?=some d∧Rp r H d v:=by
 have hv:i<vs.length:=(Vad.mp e).1
 have hi:i<ds.length:=by rw[h.1]; exact hv
 exact⟨ds[i],by simp[hi],h.2 i ds[i] v (by simp[hi]) e⟩
theorem Rps.snoc (h:Rps r H ds vs)(t:Rp r H d v):Rps r H (ds++[d]) (vs++[v]):=by
 refine⟨by simp[h.1],λi x y h1 h2=>?_⟩
 by_cases hi:i<ds.length
 ·rw[Vao hi] at h1
  rw[Vao (by rw[← h.1]; exact hi)] at h2
  exact h.2 i x y h1 h2
 ·have hl:i<(ds++[d]).length:=(Vad.mp h1).1
  have e:i=ds.length:=by simp at hl; omega
  subst e
  rw[Vax (Vaa _)] at h1
  rw[h.1,Vax (Vaa _)] at h2
  simp at h1 h2
  subst h1; subst h2
  exact t
theorem Rps.tupR {a:Addr}(h:Rps r H ds vs)(e:H a=some (.tup vs)):Rp r H (.tup ds) (.ref a):=.tup e h.1 h.2
theorem Rp.untup {vs:V}(h:Rp r H (.tup ds) vs):∃a xs,vs=.ref a∧H a=some (.tup xs)∧Rps r H ds xs:=by
 cases h with
 | tup e l f=>exact⟨_,_,rfl,e,l,f⟩
end
def SqF (K:PySem.W.Frag)(H:Hp)(a:Addr)(xs:List V):Prop:=
 (∃o,H a=some (.frz o (.lst xs)))∨
  ∃(o:Obj) (its:Array Value) (n:Nat),K.lookup a=some o∧o.cls=.type "list"∧o.dict=none∧o.data=.seq its n∧its.size≤sizeLine∧zaf xs its.toList
theorem SqF.sql {K:PySem.W.Frag}{H:Hp}{a:Addr}{xs:List V}(h:SqF K H a xs):SqL K H a xs:=by
 rcases h with ⟨o,h⟩ | h
 ·exact .inl (.inr ⟨o,h⟩)
 ·exact .inr h
def FR {α:Type}(r:List Addr)(H:Hp)(fs:List (α×D))(fs':List (α×V)):Prop:=fs.map (·.1)=fs'.map (·.1)∧Rps r H (fs.map (·.2)) (fs'.map (·.2))
theorem FR.ext {α:Type}{r r':List Addr}{H H':Hp}{fs:List (α×D)}{fs':List (α×V)}(h:FR r H fs fs')(e:Ext r r' H H'):FR r' H' fs fs':=⟨h.1,h.2.ext e⟩
theorem FR.nil {α:Type}{r:List Addr}{H:Hp}:FR (α:=α) r H [] []:=⟨rfl,Rps.nil⟩
def ObR (K:PySem.W.Frag)(r:List Addr)(H:Hp)(a:Addr):Ob→Prop
 | .lst ds=>∃xs,H a=some (.lst xs)∧Rps r H ds xs
 | .frz ds=>∃xs,SqF K H a xs∧Rps r H ds xs
 | .ins C fs=>∃dx fs',H a=some (.ins C dx fs')∧FR r H fs fs'
 | .dct kvs=>∃kvs',H a=some (.dT kvs')∧FR r H kvs kvs'
def zcF:Ob→Bool
 | .frz _=>false
 | _=>true
structure zax (K:PySem.W.Frag)(r:List Addr)(S:Sto)(H:Hp):Prop where
 len:r.length=S.length
 ob:∀(n:Nat) (a:Addr) (o:Ob),r[n]?=some a→S[n]?=some o→ObR K r H a o
 nd:∀(n m:Nat) (a:Addr) (o u:Ob),r[n]?=some a→r[m]?=some a→S[n]?=some o→S[m]?=some u→zcF o=true→zcF u=true→n=m
def zad:Ob→List D
 | .lst ds=>ds
 | .frz ds=>ds
 | _=>[.exc 0]
def zbA:Ob→Option Ob
 | .lst ds=>some (.lst ds)
 | .frz ds=>some (.frz ds)
 | _=>none
def lAt (S:Sto)(n:Nat):Option Ob:=(S[n]?).bind zbA
theorem ziL {o u:Ob}(h:zbA o=some u):u=o:=by
 cases o <;> simp[zbA] at h <;> exact h.symm
theorem zbE {S:Sto}{n:Nat}{o:Ob}(h:lAt S n=some o):S[n]?=some o∧zbA o=some o:=by
  unfold lAt at h
  cases q:S[n]? with
  | none=>
   rw[q] at h
   cases h
  | some u=>
    rw[q] at h
    have h':zbA u=some o:=h
    have e:=ziL h'
    subst e
    exact⟨rfl,h'⟩
theorem zaQ {S:Sto}{n:Nat}{o:Ob}(h:S[n]?=some o)(hL:zbA o=some o):lAt S n=some o:=by
 unfold lAt
 rw[h]
 exact hL
section
variable {K:PySem.W.Frag}{r r':List Addr}{S:Sto}{H H':Hp}{n:Nat}{a p:Addr}
theorem zax.at {o:Ob}(h:zax K r S H)(e:S[n]?=some o):∃a,r[n]?=some a∧ObR K r H a o:=by
 have hn:n<S.length:=(Vad.mp e).1
 have hr:n<r.length:=by rw[h.len]; exact hn
 exact⟨r[n],by simp[hr],h.ob n r[n] o (by simp[hr]) e⟩
theorem ObR.list {o:Ob}(h:ObR K r H a o)(hL:zbA o=some o):∃xs,SqL K H a xs∧Rps r H (zad o) xs:=by
 cases o with
 | lst ds=>obtain⟨xs,e,q⟩:=h; exact⟨xs,SqL.of e,q⟩
 | frz ds=>obtain⟨xs,e,q⟩:=h; exact⟨xs,e.sql,q⟩
 | ins C fs=>cases hL
 | dct kvs=>cases hL
theorem ObR.keep {o:Ob}(q:ObR K r H a o)(x:Ext r r' H H')(ha:∀u,H a=some u→H' a=some u):ObR K r' H' a o:=by
 cases o with
 | lst ds=>obtain⟨xs,h3,h4⟩:=q; exact⟨xs,ha _ h3,h4.ext x⟩
 | frz ds=>
  obtain⟨xs,h3,h4⟩:=q
  refine⟨xs,?_,h4.ext x⟩
  rcases h3 with ⟨o,h3⟩ | h3
  ·exact .inl ⟨o,ha _ h3⟩
  ·exact .inr h3
 | ins C fs=>obtain⟨dx,fs',h3,h4⟩:=q; exact⟨dx,fs',ha _ h3,h4.ext x⟩
 | dct kvs=>obtain⟨ks,h3,h4⟩:=q; exact⟨ks,ha _ h3,h4.ext x⟩
theorem ObR.own {o:Ob}(q:ObR K r H a o)(h:zcF o=true):∃u,H a=some u∧(∀xs,u≠HO.tup xs)∧(∀b c,u≠isX b c)∧∀z y,u≠HO.frz z y:=by
 cases o with
 | lst ds=>obtain⟨xs,h3,h4⟩:=q; exact⟨_,h3,(λ_ z=>by cases z),(λ_ _ z=>by cases z),(λ_ _ z=>by cases z)⟩
 | frz ds=>cases h
 | ins C fs=>obtain⟨dx,fs',h3,h4⟩:=q; exact⟨_,h3,(λ_ z=>by cases z),(λ_ _ z=>by cases z),(λ_ _ z=>by cases z)⟩
 | dct kvs=>obtain⟨ks,h3,h4⟩:=q; exact⟨_,h3,(λ_ z=>by cases z),(λ_ _ z=>by cases z),(λ_ _ z=>by cases z)⟩
theorem zax.same (h:zax K r S H)(e:∀b o,H b=some o→H' b=some o):zax K r S H':=
 ⟨h.len,λn a o h1 h2=>(h.ob n a o h1 h2).keep ⟨λ_ _ q=>q,λa xs q=>e _ _ q,λa c q=>e _ _ q⟩ (e a),h.nd⟩
theorem zch {o:HO}(h:H p=none):∀b u,H b=some u→(upd H p o) b=some u:=λb u q=>by rw[zaK (zdr q h)]; exact q
theorem zfq {n:Nat}{b:Addr}(e:(r++[p])[n]?=some b):(n<r.length∧r[n]?=some b)∨(n=r.length∧b=p):=by
 by_cases hn:n<r.length
 ·rw[Vao hn] at e; exact .inl ⟨hn,e⟩
 ·have hl:n<(r++[p]).length:=(Vad.mp e).1
  have en:n=r.length:=by simp at hl; omega
  subst en
  rw[Vax (Vaa _)] at e
  simp at e
  exact .inr ⟨rfl,e.symm⟩
theorem zax.pushO {o:Ob}(h:zax K r S H)(hp:H p=none)(keep:∀b u,H b=some u→H' b=some u)(q:Ext r (r++[p]) H H'→ObR K (r++[p]) H' p o):zax K (r++[p]) (S++[o]) H'∧Ext r (r++[p]) H H':=by
 have x:Ext r (r++[p]) H H':=⟨λn a e=>by
  have hn:n<r.length:=(Vad.mp e).1
  rw[Vao hn]; exact e,λa ys e=>keep _ _ e,λa c e=>keep _ _ e⟩
 have sS:∀ {n:Nat} {u:Ob},n<r.length→(S++[o])[n]?=some u→S[n]?=some u:=λ{n u} hn e=>by
  rw[Vao (by rw[← h.len]; exact hn)] at e; exact e
 refine⟨⟨by simp[h.len],λn a u h1 h2=>?_,λn m a u w h1 h2 h3 h4 o1 o2=>?_⟩,x⟩
 ·rcases zfq h1 with ⟨hn,e⟩ | ⟨rfl,rfl⟩
  ·exact(h.ob n a u e (sS hn h2)).keep x (keep a)
  ·rw[h.len,Vax (Vaa _)] at h2
   simp at h2
   subst h2
   exact q x
 ·rcases zfq h1 with ⟨hn,e⟩ | ⟨rfl,rfl⟩
  ·rcases zfq h2 with ⟨hm,e'⟩ | ⟨rfl,rfl⟩
   ·exact h.nd n m a u w e e' (sS hn h3) (sS hm h4) o1 o2
   ·obtain⟨zs,h5,_⟩:=(h.ob n _ _ e (sS hn h3)).own o1
    rw[hp] at h5; cases h5
  ·rcases zfq h2 with ⟨hm,e'⟩ | ⟨rfl,_⟩
   ·obtain⟨zs,h5,_⟩:=(h.ob m _ _ e' (sS hm h4)).own o2
    rw[hp] at h5; cases h5
   ·rfl
theorem zax.push {ds:List D}{xs:List V}(h:zax K r S H)(hp:H p=none)(q:Rps r H ds xs):zax K (r++[p]) (S++[.lst ds]) (upd H p (.lst xs))∧Ext r (r++[p]) H (upd H p (.lst xs)):=
 h.pushO hp (zch hp) λx=>⟨xs,zb7,q.ext x⟩
theorem zax.setO {o o':Ob}{u:HO}(h:zax K r S H)(hn:r[n]?=some a)(hS:S[n]?=some o)(ho:zcF o=true)(ho':zcF o'=true)(q:Ext r r H (upd H a u)→ObR K r (upd H a u) a o'):zax K r (S.set n o') (upd H a u)∧Ext r r H (upd H a u):=by
 obtain⟨u0,h0,t1,t2,t3⟩:=(h.ob n a _ hn hS).own ho
 have x:Ext r r H (upd H a u):=⟨λ_ _ e=>e,λb zs e=>by
  rw[zaK (zf8 e h0 (λz=>t1 zs z.symm))]; exact e,λb c e=>by
  rw[zaK (zf8 e h0 (λz=>t2 b c z.symm))]; exact e⟩
 have hlt:n<S.length:=(Vad.mp hS).1
 have off:∀ {m:Nat} {w:Ob},m≠n→(S.set n o')[m]?=some w→S[m]?=some w:=λ{m w} hm e=>by
  rw[VaM (Ne.symm hm)] at e; exact e
 refine⟨⟨by simp[h.len],λm b w h1 h2=>?_,λm k b w y h1 h2 h3 h4 o1 o2=>?_⟩,x⟩
 ·by_cases hm:m=n
  ·subst hm
   rw[hn] at h1; cases h1
   rw[VaW hlt] at h2
   cases h2
   exact q x
  ·have h2':=off hm h2
   have q':=h.ob m b w h1 h2'
   by_cases hw:zcF w=true
   ·have hb:b≠a:=λz=>hm (by subst z; exact h.nd m n b w o h1 hn h2' hS hw ho)
    exact q'.keep x λz e=>by rw[zaK hb]; exact e
   ·cases w with
    | frz es=>
     obtain⟨zs,h3,h4⟩:=q'
     refine⟨zs,?_,h4.ext x⟩
     rcases h3 with ⟨z,h3⟩ | h3
     ·exact .inl ⟨z,by rw[zaK (zf8 h3 h0 (λy=>t3 _ _ y.symm))]; exact h3⟩
     ·exact .inr h3
    | _=>exact absurd rfl hw
 ·have back:∀ {j:Nat} {w:Ob},(S.set n o')[j]?=some w→zcF w=true→∃y,S[j]?=some y∧zcF y=true:=λ{j w} e ow=>by
   by_cases hj:j=n
   ·subst hj; exact⟨o,hS,ho⟩
   ·exact⟨w,off hj e,ow⟩
  obtain⟨us',h3',q3⟩:=back h3 o1
  obtain⟨ws',h4',q4⟩:=back h4 o2
  exact h.nd m k b us' ws' h1 h2 h3' h4' q3 q4
theorem zax.set {ds ds':List D}{xs:List V}(h:zax K r S H)(hn:r[n]?=some a)(hS:S[n]?=some (.lst ds))(q:Rps r H ds' xs):zax K r (S.set n (.lst ds')) (upd H a (.lst xs))∧Ext r r H (upd H a (.lst xs)):=
 h.setO hn hS rfl rfl λx=>⟨xs,zb7,q.ext x⟩
end
def Rs (r:List Addr)(H:Hp)(dl:Ev)(σ:St):Prop:=dl.length=σ.length∧∀(i:Nat) (d:D),dl[i]?=some (some d)→∃v,σ[i]?=some (some v)∧Rp r H d v
theorem Rs.ext {r r':List Addr}{H H':Hp}{dl:Ev}{σ:St}(h:Rs r H dl σ)(e:Ext r r' H H'):Rs r' H' dl σ:=⟨h.1,λi d q=>by
 obtain⟨v,h1,h2⟩:=h.2 i d q
 exact⟨v,h1,h2.ext e⟩⟩
theorem Rs.set {r:List Addr}{H:Hp}{dl:Ev}{σ:St}{d:D}{v:V}(i:Nat)(h:Rs r H dl σ)(q:Rp r H d v):Rs r H (dl.set i (some d)) (σ.set i (some v)):=by
 refine⟨by simp[h.1],λj e hj=>?_⟩
 by_cases hij:i=j
 ·subst hij
  have hl:i<dl.length:=by
   have:=(Vad.mp hj).1
   simpa using this
  rw[VaW hl] at hj
  cases hj
  exact⟨v,by rw[VaW (by rw[← h.1]; exact hl)],q⟩
 ·rw[VaM hij] at hj
  obtain⟨v',h1,h2⟩:=h.2 j e hj
  exact⟨v',by rw[VaM hij]; exact h1,h2⟩
structure Zx where
 ex:Ev→Addr→Sto→Prop
 w:St→XK
abbrev Zc (ex:Addr→Sto→Prop)(E:XK):Zx:=⟨λ_=>ex,λ_=>E⟩
def zcS (K:PySem.W.Frag)(Z:Zx)(r:List Addr)(H:Hp):Prop:=∀(dl:Ev) (σ:St) (c:Addr) (H':Hp) (r':List Addr) (S':Sto),Ext r r' H H'→Rs r' H' dl σ→zax K r' S' H'→Z.ex dl c S'→Z.w σ (.ref c) none H'
theorem zcS.ext {K:PySem.W.Frag}{Z:Zx}{r r':List Addr}{H H':Hp}(h:zcS K Z r H)(e:Ext r r' H H'):zcS K Z r' H':=λdl σ c H2 r2 S2 x=>h dl σ c H2 r2 S2 (e.trans x)
structure Rel (K:PySem.W.Frag)(Z:Zx)(r:List Addr)(S:Sto)(H:Hp):Prop where
 b:zax K r S H
 xw:zcS K Z r H
section
variable {K:PySem.W.Frag}{Z:Zx}{r r':List Addr}{S:Sto}{H H':Hp}{n:Nat}{a p:Addr}
theorem Rel.len (h:Rel K Z r S H):r.length=S.length:=h.b.len
theorem Rel.at {o:Ob}(h:Rel K Z r S H)(e:S[n]?=some o):∃a,r[n]?=some a∧ObR K r H a o:=h.b.at e
theorem Rel.same (h:Rel K Z r S H)(e:∀b o,H b=some o→H' b=some o):Rel K Z r S H':=⟨h.b.same e,h.xw.ext ⟨λ_ _ q=>q,λa xs q=>e _ _ q,λa c q=>e _ _ q⟩⟩
theorem Rel.push {ds:List D}{xs:List V}(h:Rel K Z r S H)(hp:H p=none)(q:Rps r H ds xs):Rel K Z (r++[p]) (S++[.lst ds]) (upd H p (.lst xs))∧Ext r (r++[p]) H (upd H p (.lst xs)):=by
 obtain⟨h1,h2⟩:=h.b.push hp q
 exact⟨⟨h1,h.xw.ext h2⟩,h2⟩
theorem Rel.set {ds ds':List D}{xs:List V}(h:Rel K Z r S H)(hn:r[n]?=some a)(hS:S[n]?=some (.lst ds))(q:Rps r H ds' xs):Rel K Z r (S.set n (.lst ds')) (upd H a (.lst xs))∧Ext r r H (upd H a (.lst xs)):=by
 obtain⟨h1,h2⟩:=h.b.set hn hS q
 exact⟨⟨h1,h.xw.ext h2⟩,h2⟩
end
def Ret (K:PySem.W.Frag)(Z:Zx)(r:List Addr)(H:Hp)(Q:DK)(Qv:VK):Prop:=∀v H' r' d S',Ext r r' H H'→Rel K Z r' S' H'→Rp r' H' d v→Q d S'→Qv v H'
theorem Ret.ext {K:PySem.W.Frag}{Z:Zx}{r r':List Addr}{H H':Hp}{Q:DK}{Qv:VK}(h:Ret K Z r H Q Qv)(e:Ext r r' H H'):Ret K Z r' H' Q Qv:=λv H2 r2 d S2 x=>h v H2 r2 d S2 (e.trans x)
def up (K:PySem.W.Frag)(Z:Zx)(t:TDE):TE:=λσ H Qv=>∃r dl S Q,Rs r H dl σ∧Rel K Z r S H∧t dl S Q∧Ret K Z r H Q Qv
def upT (K:PySem.W.Frag)(Z:Zx)(t:TDT):TT:=λσ H Qb=>∃r dl S Q,Rs r H dl σ∧Rel K Z r S H∧t dl S Q∧∀b H' r' S',Ext r r' H H'→Rel K Z r' S' H'→Q b S'→Qb b H'
def upA (K:PySem.W.Frag)(Z:Zx)(t:TDA):TA:=λσ H Qv=>∃r dl S Q,Rs r H dl σ∧Rel K Z r S H∧t dl S Q∧∀vs H' r' ds S',Ext r r' H H'→Rel K Z r' S' H'→Rps r' H' ds vs→Q ds S'→Qv vs H'
structure zeK (K:PySem.W.Frag)(Z:Zx)(r:List Addr)(H:Hp)(E:zcA)(F:zcw):Prop where
 nx:∀σ' H' r' dl' S',Ext r r' H H'→Rs r' H' dl' σ'→Rel K Z r' S' H'→E.nx dl' S'→F.nx σ' H'
 bk:∀σ' H' r' dl' S',Ext r r' H H'→Rs r' H' dl' σ'→Rel K Z r' S' H'→E.bk dl' S'→F.bk σ' H'
 ct:∀σ' H' r' dl' S',Ext r r' H H'→Rs r' H' dl' σ'→Rel K Z r' S' H'→E.ct dl' S'→F.ct σ' H'
 rt:Ret K Z r H E.rt F.rt
theorem zeK.ext {K:PySem.W.Frag}{Z:Zx}{r r':List Addr}{H H':Hp}{E:zcA}{F:zcw}(h:zeK K Z r H E F)(e:Ext r r' H H'):zeK K Z r' H' E F:=
 ⟨λa b c d f x=>h.nx a b c d f (e.trans x),λa b c d f x=>h.bk a b c d f (e.trans x),λa b c d f x=>h.ct a b c d f (e.trans x),h.rt.ext e⟩
def upS (K:PySem.W.Frag)(Z:Zx)(t:TDS):TS:=λF σ H=>∃r dl S E,Rs r H dl σ∧Rel K Z r S H∧t E dl S∧zeK K Z r H E F
def PD (X:Cx)(Z:Zx)(e:Expr)(t:TDE):Prop:=PE X e (up X.K Z t)
def PDT (X:Cx)(Z:Zx)(e:Expr)(t:TDT):Prop:=PT X e (upT X.K Z t)
def PDW (X:Cx)(Z:Zx)(e:Expr)(t:TDT):Prop:=PW X e (upT X.K Z t)
def PDA (X:Cx)(Z:Zx)(es:List Expr)(t:TDA):Prop:=PA X es (upA X.K Z t)
def PDS (X:Cx)(Z:Zx)(st:Stmt)(t:TDS):Prop:=PS X st (upS X.K Z t)
def zb1 (X:Cx)(Z:Zx)(st:List Stmt)(t:TDS):Prop:=PSs X st (upS X.K Z t)
section
variable {X:Cx}{Z:Zx}
theorem zaX {e:Expr}{t t':TE}(h:PE X e t)(f:∀σ H Q,t' σ H Q→t σ H Q):PE X e t':=λpins s σ H Q I q=>h pins s σ H Q I (f σ H Q q)
theorem zgU {e:Expr}{t t':TT}(h:PT X e t)(f:∀σ H Q,t' σ H Q→t σ H Q):PT X e t':=λpins s σ H Q I q=>h pins s σ H Q I (f σ H Q q)
theorem PWimp {e:Expr}{t t':TT}(h:PW X e t)(f:∀σ H Q,t' σ H Q→t σ H Q):PW X e t':=λwh pins s σ H Q I q=>h wh pins s σ H Q I (f σ H Q q)
theorem zil {e:List Expr}{t t':TA}(h:PA X e t)(f:∀σ H Q,t' σ H Q→t σ H Q):PA X e t':=λpos pins s σ H Q I q=>h pos pins s σ H Q I (f σ H Q q)
theorem zb5 {e:Stmt}{t t':TS}(h:PS X e t)(f:∀F σ H,t' F σ H→t F σ H):PS X e t':=λpins s σ H F I q=>h pins s σ H F I (f F σ H q)
theorem zhx {e:List Stmt}{t t':TS}(h:PSs X e t)(f:∀F σ H,t' F σ H→t F σ H):PSs X e t':=λpins s σ H F I q=>h pins s σ H F I (f F σ H q)
theorem PDW.pt {e:Expr}{t:TDT}(h:PDW X Z e t):PDT X Z e t:=PW.pt h
def zfk (i:Nat):TDE:=λdl S Q=>match dl[i]? with
 | some (some d)=>Q d S
 | _=>False
def dC (d:D):TDE:=λ_ S Q=>Q d S
theorem zkV {e:Expr}{i:Nat}(h:PE X e (tVar i)):PD X Z e (zfk i):=zaX h λσ H Qv ⟨r,dl,S,Q,rs,rel,q,ret⟩=>by
 unfold zfk at q
 split at q
 ·rename_i d e
  obtain⟨v,h1,h2⟩:=rs.2 i d e
  exact⟨v,h1,ret v H r d S Ext.refl rel h2 q⟩
 ·exact q.elim
theorem dv (i:Nat){x:Str}{pos:Pos}(hN:X.N[i]?=some x:=by rfl)(hv:Vis X.env.scope x:=by first | exact Or.inl rfl | exact Or.inr (Or.inl rfl) | exact Or.inr (Or.inr rfl))(hd:(x==("__debug__":Str))=false:=by decide)
  (hcd:(x==("__classdict__":Str))=false:=by decide):PD X Z (.Name x pos) (zfk i):=zkV (zhA hN hv hd hcd)
theorem zga {e:Expr}{d:D}{v:V}(h:PE X e (tC v))(q:∀r H,Rp r H d v):PD X Z e (dC d):=zaX h λσ H Qv ⟨r,dl,S,Q,rs,rel,h,ret⟩=>ret v H r d S Ext.refl rel (q r H) h
theorem zao {i j pos}:PD X Z (.Constant (.int i) j pos) (dC (.int i)):=zga zlr λ_ _=>.int i
theorem zbN {b j pos}:PD X Z (.Constant (.bool b) j pos) (dC (.bl b)):=zga pe_bl λ_ _=>.bl b
theorem zhz {j pos}:PD X Z (.Constant .none j pos) (dC .non):=zga zjW λ_ _=>.non
abbrev W2:=D→D→Sto→DK→Prop
abbrev W1:=D→Sto→DK→Prop
def upO (K:PySem.W.Frag)(Z:Zx)(w:W2):R2:=λx y H Qv=>∃r S dx dy Q,Rel K Z r S H∧Rp r H dx x∧Rp r H dy y∧w dx dy S Q∧Ret K Z r H Q Qv
def dOp (w:W2)(ta tb:TDE):TDE:=λdl S Q=>ta dl S λx S1=>tb dl S1 λy S2=>w x y S2 Q
def dUn (w:W1)(ta:TDE):TDE:=λdl S Q=>ta dl S λx S1=>w x S1 Q
variable {a b c:Expr}{ta tb tc:TDE}{pos:Pos}
theorem zeL {w:W2}{σ:St}{H:Hp}{Qv:VK}(h:up X.K Z (dOp w ta tb) σ H Qv):tOp (upO X.K Z w) (up X.K Z ta) (up X.K Z tb) σ H Qv:=by
 obtain⟨r,dl,S,Q,rs,rel,h,ret⟩:=h
 exact⟨r,dl,S,_,rs,rel,h,λv H1 r1 dx S1 e1 rel1 p1 h1=>⟨r1,dl,S1,_,rs.ext e1,rel1,h1,λv2 H2 r2 dy S2 e2 rel2 p2 h2=>⟨r2,S2,dx,dy,Q,rel2,p1.ext e2,p2,h2,ret.ext (e1.trans e2)⟩⟩⟩
theorem zaD {op:Operator}{w:W2}(ho:OpR X (binaryOp op) (upO X.K Z w))(ha:PD X Z a ta)(hb:PD X Z b tb):PD X Z (.BinOp a op b pos) (dOp w ta tb):=zaX (pe_op ho ha hb) λ_ _ _ h=>zeL h
theorem zbO {op:CmpOp}{w:W2}(ho:OpR X (compareOp op) (upO X.K Z w))(ha:PD X Z a ta)(hb:PD X Z b tb)(hm:behindInMarks op b=false):PD X Z (.Compare a [op] [b] pos) (dOp w ta tb):=zaX (zl8 ho ha hb hm) λ_ _ _ h=>zeL h
theorem zec {f:Value→Value→Sem Value}{r r':R2}(h:OpR X f r)(g:∀x y H Q,r' x y H Q→r x y H Q):OpR X f r':=λpins s σ H x y v u Q I rx ry q=>h pins s σ H x y v u Q I rx ry (g x y H Q q)
theorem zhw {f:Value}{r r':List V→Hp→VK→Prop}(h:zaI X f r)(g:∀x H Q,r' x H Q→r x H Q):zaI X f r':=λpins s σ H xs us Q I rx q=>h pins s σ H xs us Q I rx (g xs H Q q)
def wI (C:Int→Int→Prop)(g:Int→Int→D):W2:=λx y S Q=>match x,y with
 | .int i,.int j=>C i j∧Q (g i j) S
 | _,_=>False
def wI0 (g:Int→Int→D):W2:=λx y S Q=>match x,y with
 | .int i,.int j=>Q (g i j) S
 | _,_=>False
theorem opD {f:Value→Value→Sem Value}{C:Int→Int→Prop}{g:Int→Int→V}{g':Int→Int→D}(h:OpR X f (rI C g))(hg:∀r H i j,Rp r H (g' i j) (g i j)):OpR X f (upO X.K Z (wI C g')):=
 zec h λx y H Qv ⟨r,S,dx,dy,Q,rel,px,py,q,ret⟩=>by
  cases px <;> cases py <;> first
   | exact⟨_,_,rfl,rfl,q.1,ret _ _ _ _ _ Ext.refl rel (hg _ _ _ _) q.2⟩
   | exact(show False from q).elim
theorem zff {f:Value→Value→Sem Value}{g:Int→Int→V}{g':Int→Int→D}(h:OpR X f (rI0 g))(hg:∀r H i j,Rp r H (g' i j) (g i j)):OpR X f (upO X.K Z (wI0 g')):=
 zec h λx y H Qv ⟨r,S,dx,dy,Q,rel,px,py,q,ret⟩=>by
  cases px <;> cases py <;> first
   | exact⟨_,_,rfl,rfl,ret _ _ _ _ _ Ext.refl rel (hg _ _ _ _) q⟩
   | exact(show False from q).elim
abbrev wAdd:W2:=wI0 λi j=>.int (i+j)
abbrev wSub:W2:=wI0 λi j=>.int (i-j)
abbrev wMul:W2:=wI IntMulOk λi j=>.int (i*j)
def CFd (_ j:Int):Prop:=0<j∧j.natAbs.log2<9000
abbrev wFdiv:W2:=wI CFd λi j=>.int (i/j)
abbrev wMod:W2:=wI (λ_ j=>0<j) λi j=>.int (i%j)
abbrev wPow:W2:=wI CPow λi j=>.int (i^j.toNat)
theorem zee:OpR X (binaryOp .Add) (upO X.K Z wAdd):=zff zlb λ_ _ _ _=>.int _
theorem zid:OpR X (binaryOp .Sub) (upO X.K Z wSub):=zff ziS λ_ _ _ _=>.int _
theorem zcp:OpR X (binaryOp .Mult) (upO X.K Z wMul):=opD (opI λ_ _ _ _ _ _ _ hc q=>mul_int q hc) λ_ _ _ _=>.int _
theorem zkw:OpR X (binaryOp .FloorDiv) (upO X.K Z wFdiv):=opD (opI λi j _ _ _ _ _ hc q=>floordiv_int (by have h:0<j:=hc.1; omega) (by have h:0<j:=hc.1; rw[Int.fdiv_eq_ediv_of_nonneg i (by omega)]; exact q) (.inl (PyProof.noPylong_of_log2 hc.2))) λ_ _ _ _=>.int _
theorem zfo:OpR X (binaryOp .Mod) (upO X.K Z wMod):=opD zlZ λ_ _ _ _=>.int _
theorem zlm:OpR X (binaryOp .Pow) (upO X.K Z wPow):=opD zld λ_ _ _ _=>.int _
abbrev wLt:W2:=wI0 λi j=>.bl (decide (i<j))
abbrev wGt:W2:=wI0 λi j=>.bl (decide (j<i))
theorem zgs:OpR X (compareOp .Lt) (upO X.K Z wLt):=zff op_lt λ_ _ _ _=>.bl _
theorem do_gt:OpR X (compareOp .Gt) (upO X.K Z wGt):=zff op_gt λ_ _ _ _=>.bl _
def wNeg:W1:=λx S Q=>match x with
 | .int i=>Q (.int (-i)) S
 | _=>False
end
def eqF:D→D→Option Bool
 | .non,.non=>some true
 | .bl i,.bl j=>some (i==j)
 | .int i,.int j=>some (decide (i=j))
 | .str i,.str j=>some (decide (i=j))
 | .non,.int _=>some false | .int _,.non=>some false | .non,.bl _=>some false | .bl _,.non=>some false | .non,.str _=>some false | .str _,.non=>some false
 | .int _,.str _=>some false | .str _,.int _=>some false | .bl _,.str _=>some false | .str _,.bl _=>some false
 | _,_=>none
def eqL (f:D→D→Option Bool):List D→List D→Option Bool
 | [],[]=>some true
 | x::xs,y::ys=>match f x y,eqL f xs ys with
  | some b,some c=>some (b&&c)
  | _,_=>none
 | _,_=>some false
def eqT (f:D→D→Option Bool):D→D→Option Bool
 | .tup xs,.tup ys=>eqL f xs ys
 | x,y=>eqF x y
abbrev eq1:D→D→Option Bool:=eqT eqF
abbrev eq2:D→D→Option Bool:=eqT eq1
def zcB (n:Nat)(f:D→D→Option Bool):Prop:=∀(X:Cx) (pins:List (Addr×Obj)) (σ:St) (H:Hp) (s:Shared) (r:List Addr) (A:Around) (dx dy:D) (x y:V) (u v:Value) (b:Bool),
 Inv X pins σ H s→A.units+n<cLine→Rp r H dx x→Rp r H dy y→zae x u→zae y v→f dx dy=some b→SeqAt.EqAt A s u v b
def zds (f:D→D→Option Bool):Prop:=∀(r:List Addr) (H:Hp) (dx dy:D) (x:V) (b:Bool),Rp r H dx x→Rp r H dy x→f dx dy=some b→b=true
theorem zdp:zds eqF:=by
 intro r H dx dy x b px py e
 cases px <;> cases py <;> simp[eqF] at e <;> first | exact e.symm | exact e
theorem zhn {f:D→D→Option Bool}(hf:zds f){r:List Addr}{H:Hp}:∀ {xs ys:List D} {vs:List V} {b:Bool},Rps r H xs vs→Rps r H ys vs→eqL f xs ys=some b→b=true
 | [],[],_,b,_,_,e=>by simp[eqL] at e; exact e
 | [],y::ys,vs,b,p,q,e=>by
  have h1:=p.unnil
  subst h1
  exact absurd q.1 (by simp)
 | x::xs,[],vs,b,p,q,e=>by
  have h1:=q.unnil
  subst h1
  exact absurd p.1 (by simp)
 | x::xs,y::ys,vs,b,p,q,e=>by
  obtain⟨v,vs',rfl,p1,p2⟩:=p.uncons
  obtain⟨q1,q2⟩:=q.tail
  unfold eqL at e
  split at e
  ·rename_i b1 c1 e1 e2
   have h1:=hf r H x y v b1 p1 q1 e1
   have h2:=zhn hf p2 q2 e2
   subst h1; subst h2
   simp at e
   exact e
  ·cases e
theorem zgK {f:D→D→Option Bool}(hf:zds f):zds (eqT f):=by
 intro r H dx dy x b px py e
 cases px with
 | tup e1 l1 f1=>
  cases py with
  | tup e2 l2 f2=>
   rw[e1] at e2; cases e2
   exact zhn hf ⟨l1,f1⟩ ⟨l2,f2⟩ e
  | ref h=>simp[eqT,eqF] at e
  | exc h=>simp[eqT,eqF] at e
 | non=>exact zdp r H _ _ _ b .non py (by cases py <;> exact e)
 | bl i=>exact zdp r H _ _ _ b (.bl i) py (by cases py <;> exact e)
 | int i=>exact zdp r H _ _ _ b (.int i) py (by cases py <;> exact e)
 | str i=>exact zdp r H _ _ _ b (.str i) py (by cases py <;> exact e)
 | ref h=>cases py <;> simp[eqT,eqF] at e
 | exc h=>cases py <;> simp[eqT,eqF] at e
theorem zfD (n:Nat):zcB n eqF:=by
 intro X pins σ H s r A dx dy x y u v b I hu px py rx ry e
 have fin:∀ {x y:V},zae x u→zae y v→zeY x=true→zeY y=true→eqV x y=b→SeqAt.EqAt A s u v b:=λrx ry fx fy e'=>by
  subst e'; exact zkc rx ry fx fy
 cases px <;> cases py <;> simp[eqF] at e <;> refine fin rx ry rfl rfl ?_ <;> simp[eqV,e] <;> first | exact e | (subst e; simp) | skip
theorem zdA {X:Cx}{pins:List (Addr×Obj)}{σ:St}{H:Hp}{s:Shared}{a:Addr}{xs:List V}(I:Inv X pins σ H s)(h:H a=some (.tup xs)):∃its:List Value,zaf xs its∧IsTup s.heap a its.toArray∧xs.length≤sizeLine:=I.tuple (SqT.of h)
def zbZ (f:D→D→Option Bool)(xs ys:List D)(j:Nat):Bool:=match xs[j]?,ys[j]? with
 | some x,some y=>(f x y).getD false
 | _,_=>false
theorem ziq {f:D→D→Option Bool}:∀ {xs ys:List D} {b:Bool},eqL f xs ys=some b→(∀(j:Nat) (x y:D),xs[j]?=some x→ys[j]?=some y→∃c,f x y=some c)∧((List.range (min xs.length ys.length)).all (zbZ f xs ys)&&xs.length==ys.length)=b
 | [],[],b,e=>by simp[eqL] at e; subst e; simp
 | [],y::ys,b,e=>by simp[eqL] at e; subst e; simp
 | x::xs,[],b,e=>by simp[eqL] at e; subst e; simp
 | x::xs,y::ys,b,e=>by
  unfold eqL at e
  split at e
  ·rename_i b1 c1 e1 e2
   obtain⟨h1,h2⟩:=ziq e2
   refine⟨λj p q hp hq=>?_,?_⟩
   ·cases j with
    | zero=>simp at hp hq; subst hp; subst hq; exact⟨b1,e1⟩
    | succ j=>exact h1 j p q (by simpa using hp) (by simpa using hq)
   ·have z:min (x::xs).length (y::ys).length=min xs.length ys.length+1:=by simp[Nat.succ_min_succ]
    rw[z,List.range_succ_eq_map,List.all_cons,List.all_map]
    have e0:zbZ f (x::xs) (y::ys) 0=b1:=by simp[zbZ,e1]
    have es:(zbZ f (x::xs) (y::ys) ∘ Nat.succ)=zbZ f xs ys:=by funext j; simp[zbZ]
    rw[e0,es]
    have e3:((x::xs).length==(y::ys).length)=(xs.length==ys.length):=by simp
    rw[e3,Bool.and_assoc,h2]
    simp at e
    exact e
  ·cases e
theorem zf0 {n:Nat}{f:D→D→Option Bool}(hf:zcB n f){X:Cx}{pins:List (Addr×Obj)}{σ:St}{H:Hp}{s:Shared}{r:List Addr}{A:Around}{xs ys:List D}{us vs:List V}{is js:List Value}{b:Bool}
  (I:Inv X pins σ H s)(hu:A.units+n<cLine)(p:Rps r H xs us)(q:Rps r H ys vs)(ri:zaf us is)(rj:zaf vs js)(e:eqL f xs ys=some b):
  (∀j (h1:j<is.toArray.size) (h2:j<js.toArray.size),SeqAt.EqAt A s is.toArray[j] js.toArray[j] (zbZ f xs ys j))∧((List.range (min is.toArray.size js.toArray.size)).all (zbZ f xs ys)&&is.toArray.size==js.toArray.size)=b:=by
 obtain⟨h1,h2⟩:=ziq e
 have l1:is.toArray.size=xs.length:=by rw[Vag,← ri.length,p.1]
 have l2:js.toArray.size=ys.length:=by rw[Vag,← rj.length,q.1]
 refine⟨λj hj1 hj2=>?_,by rw[l1,l2]; exact h2⟩
 have k1:j<xs.length:=by omega
 have k2:j<ys.length:=by omega
 have g1:xs[j]?=some xs[j]:=by simp[k1]
 have g2:ys[j]?=some ys[j]:=by simp[k2]
 obtain⟨x,gx,px⟩:=p.get g1
 obtain⟨y,gy,py⟩:=q.get g2
 obtain⟨u,gu,ru⟩:=ri.get gx
 obtain⟨v,gv,rv⟩:=rj.get gy
 obtain⟨c,hc⟩:=h1 j _ _ g1 g2
 have eu:is.toArray[j]=u:=by
  have z:=Vad.mp gu
  simpa using z.2
 have ev:js.toArray[j]=v:=by
  have z:=Vad.mp gv
  simpa using z.2
 have ec:zbZ f xs ys j=c:=by simp[zbZ,g1,g2,hc]
 rw[eu,ev,ec]
 exact hf X pins σ H s r A _ _ x y u v c I hu px py ru rv hc
theorem zii {n:Nat}{f:D→D→Option Bool}(hf:zcB n f)(hs:zds f):zcB (n+1) (eqT f):=by
 intro X pins σ H s r A dx dy x y u v b I hu px py rx ry e
 have flat:∀ {dx dy:D} {x y:V},Rp r H dx x→Rp r H dy y→zae x u→zae y v→eqF dx dy=some b→SeqAt.EqAt A s u v b:=λpx py rx ry e=>zfD (n+1) X pins σ H s r A _ _ _ _ u v b I hu px py rx ry e
 cases px with
 | @tup ds xs a e1 l1 f1=>
  cases py with
  | @tup es ys a' e2 l2 f2=>
   cases rx
   cases ry
   by_cases z:a=a'
   ·subst z
    have hb:=zgK hs r H _ _ _ b (.tup e1 l1 f1) (.tup e2 l2 f2) e
    subst hb
    exact SeqAt.EqAt.same _
   ·obtain⟨is,ri,ti,_⟩:=zdA I e1
    obtain⟨js,rj,tj,_⟩:=zdA I e2
    obtain⟨g1,g2⟩:=zf0 (A:=A.in1) hf I (by show A.units+1+n<_; omega) ⟨l1,f1⟩ ⟨l2,f2⟩ ri rj e
    have q:=SeqAt.RcAt.tuples (A:=A) ti tj (by omega) g1
    rw[g2] at q
    exact SeqAt.EqAt.of_refs z q
  | ref h=>simp[eqT,eqF] at e
  | _=>simp[eqT,eqF] at e
 | non=>exact flat .non py rx ry (by cases py <;> exact e)
 | bl i=>exact flat (.bl i) py rx ry (by cases py <;> exact e)
 | int i=>exact flat (.int i) py rx ry (by cases py <;> exact e)
 | str i=>exact flat (.str i) py rx ry (by cases py <;> exact e)
 | ref h=>cases py <;> simp[eqT,eqF] at e
 | exc h=>cases py <;> simp[eqT,eqF] at e
theorem zib (n:Nat):zcB (n+1) eq1:=zii (zfD n) zdp
def wEq (f:D→D→Option Bool):W2:=λx y S Q=>match f x y with
 | some b=>Q (.bl b) S
 | none=>False
def wNe (f:D→D→Option Bool):W2:=λx y S Q=>match f x y with
 | some b=>Q (.bl (!b)) S
 | none=>False
section
variable {X:Cx}{Z:Zx}
theorem ziA {r:List Addr}{H:Hp}{dx dy:D}{x y:V}{b:Bool}(px:Rp r H dx x)(py:Rp r H dy y)(e:eqF dx dy=some b):zeC x y=true∧decide (x=y)=b:=by
 cases px <;> cases py <;> simp[eqF] at e <;> simp[zeC] <;> first | exact e | (subst e; simp) | skip
theorem zkd {n:Nat}{f:D→D→Option Bool}(hf:zcB n f)(hu:X.A.units+1+n<cLine):OpR X (compareOp .Eq) (upO X.K Z (wEq (eqT f))):=by
 intro pins s σ H x y v u Qv I rx ry h
 obtain⟨r,S,dx,dy,Q,rel,px,py,q,ret⟩:=h
 unfold wEq at q
 split at q
 ·rename_i b e
  have flat:∀ {dx dy:D} {x y:V},Rp r H dx x→Rp r H dy y→zae x v→zae y u→eqF dx dy=some b→wpAny (model X.prog X.w) X.A (compareOp .Eq v u) (EP X pins σ Qv) X.xe s:=λpx py rx ry e=>by
   obtain⟨h1,h2⟩:=ziA px py e
   refine zgi pins s σ H _ _ v u Qv I rx ry ⟨h1,?_⟩
   rw[h2]
   exact ret _ _ _ _ _ Ext.refl rel (.bl b) q
  cases px with
  | @tup ds xs a e1 l1 f1=>
   cases py with
   | @tup es ys a' e2 l2 f2=>
    cases rx
    cases ry
    obtain⟨is,ri,ti,_⟩:=zdA I e1
    obtain⟨js,rj,tj,_⟩:=zdA I e2
    obtain⟨g1,g2⟩:=zf0 (A:=X.A.in1) hf I (by show X.A.units+1+n<_; omega) ⟨l1,f1⟩ ⟨l2,f2⟩ ri rj e
    refine SeqAt.eq_tupleAt (A:=X.A) ti tj (by omega) g1 ?_
    rw[g2]
    exact⟨.bl b,H,I,rfl,ret _ _ _ _ _ Ext.refl rel (.bl b) q⟩
   | _=>simp[eqT,eqF] at e
  | non=>exact flat .non py rx ry (by cases py <;> exact e)
  | bl i=>exact flat (.bl i) py rx ry (by cases py <;> exact e)
  | int i=>exact flat (.int i) py rx ry (by cases py <;> exact e)
  | str i=>exact flat (.str i) py rx ry (by cases py <;> exact e)
  | ref h=>cases py <;> simp[eqT,eqF] at e
  | exc h=>cases py <;> simp[eqT,eqF] at e
 ·exact q.elim
theorem zma {n:Nat}{f:D→D→Option Bool}(hf:zcB n f)(hu:X.A.units+1+n<cLine):OpR X (compareOp .NotEq) (upO X.K Z (wNe (eqT f))):=by
 intro pins s σ H x y v u Qv I rx ry h
 obtain⟨r,S,dx,dy,Q,rel,px,py,q,ret⟩:=h
 unfold wNe at q
 split at q
 ·rename_i b e
  have flat:∀ {dx dy:D} {x y:V},Rp r H dx x→Rp r H dy y→zae x v→zae y u→eqF dx dy=some b→wpAny (model X.prog X.w) X.A (compareOp .NotEq v u) (EP X pins σ Qv) X.xe s:=λpx py rx ry e=>by
   obtain⟨h1,h2⟩:=ziA px py e
   refine op_ne pins s σ H _ _ v u Qv I rx ry ⟨h1,?_⟩
   rw[h2]
   exact ret _ _ _ _ _ Ext.refl rel (.bl (!b)) q
  cases px with
  | @tup ds xs a e1 l1 f1=>
   cases py with
   | @tup es ys a' e2 l2 f2=>
    cases rx
    cases ry
    obtain⟨is,ri,ti,_⟩:=zdA I e1
    obtain⟨js,rj,tj,_⟩:=zdA I e2
    obtain⟨g1,g2⟩:=zf0 (A:=X.A.in1) hf I (by show X.A.units+1+n<_; omega) ⟨l1,f1⟩ ⟨l2,f2⟩ ri rj e
    refine SeqAt.RcNeAt.tuples (A:=X.A) ti tj (by omega) g1 X.prog X.w _ _ ?_
    rw[g2]
    exact⟨.bl (!b),H,I,rfl,ret _ _ _ _ _ Ext.refl rel (.bl (!b)) q⟩
   | _=>simp[eqT,eqF] at e
  | non=>exact flat .non py rx ry (by cases py <;> exact e)
  | bl i=>exact flat (.bl i) py rx ry (by cases py <;> exact e)
  | int i=>exact flat (.int i) py rx ry (by cases py <;> exact e)
  | str i=>exact flat (.str i) py rx ry (by cases py <;> exact e)
  | ref h=>cases py <;> simp[eqT,eqF] at e
  | exc h=>cases py <;> simp[eqT,eqF] at e
 ·exact q.elim
theorem zbD {k:Nat}(hr:zaC k X.A):OpR X (compareOp .Eq) (upO X.K Z (wEq eq2)):=zkd (zib 0) (by have:=hr.un; omega)
theorem zbv {k:Nat}(hr:zaC k X.A):OpR X (compareOp .NotEq) (upO X.K Z (wNe eq2)):=zma (zib 0) (by have:=hr.un; omega)
end
section
variable {X:Cx}{Z:Zx}{a b c:Expr}{ta tb tc:TDE}{pos:Pos}{zbj:List Expr}
def zfX (t:TDE):TDT:=λdl S Q=>t dl S λd S'=>match d with
 | .bl k=>Q k S'
 | _=>False
theorem zih {K:PySem.W.Frag}{Z:Zx}{r:List Addr}{H:Hp}{Q:Bool→Sto→Prop}{Qb:Bool→Hp→Prop}(h:∀b H' r' S',Ext r r' H H'→Rel K Z r' S' H'→Q b S'→Qb b H'):
  Ret K Z r H (λd S'=>match d with | .bl k=>Q k S' | _=>False) (λx H'=>∃k,x=.bl k∧Qb k H'):=λv H' r' d S' e rel p q=>by
 cases p with
 | bl k=>exact⟨k,rfl,h k H' r' S' e rel q⟩
 | _=>exact(show False from q).elim
theorem zaT {op:CmpOp}{w:W2}(ho:OpR X (compareOp op) (upO X.K Z w))(ha:PD X Z a ta)(hb:PD X Z b tb)(hm:behindInMarks op b=false):PDT X Z (.Compare a [op] [b] pos) (zfX (dOp w ta tb)):=
 zgU (zkT ho ha hb hm) λσ H Qb ⟨r,dl,S,Q,rs,rel,h,ret⟩=>zeL ⟨r,dl,S,_,rs,rel,h,zih ret⟩
theorem zbg {e:Expr}{t:TDE}(h:PD X Z e t)(he:∀whole,isTrue e X.env whole=(do let v ← whole; standAt e.pos; holding [v] (truthy v)):=by intro _; rfl):PDT X Z e (zfX t):=
 zgU (zko h he) λσ H Qb ⟨r,dl,S,Q,rs,rel,h,ret⟩=>⟨r,dl,S,_,rs,rel,h,zih ret⟩
def dNot (t:TDT):TDT:=λdl S Q=>t dl S λk S'=>Q (!k) S'
def dAnd (t u:TDT):TDT:=λdl S Q=>t dl S λk S1=>if k=true then u dl S1 Q else Q false S1
def dOr (t u:TDT):TDT:=λdl S Q=>t dl S λk S1=>if k=true then Q true S1 else u dl S1 Q
theorem zbT {t:TDT}(ha:PDT X Z a t):PDW X Z (.BoolOp .Or [a] pos) t:=ziO ha
theorem zbP {t u:TDT}(ha:PDT X Z a t)(hb:PDW X Z (.BoolOp .Or (b::zbj) pos) u):PDW X Z (.BoolOp .Or (a::b::zbj) pos) (dOr t u):=
 PWimp (pw_or ha hb) λσ H Qb ⟨r,dl,S,Q,rs,rel,h,ret⟩=>⟨r,dl,S,_,rs,rel,h,λk H1 r1 S1 e1 rel1 q1=>by
  cases k with
  | true=>exact zba (ret true H1 r1 S1 e1 rel1 (by simpa using q1))
  | false=>exact zam ⟨r1,dl,S1,Q,rs.ext e1,rel1,(by simpa using q1),λk' H2 r2 S2 e2=>ret k' H2 r2 S2 (e1.trans e2)⟩⟩
def zh5 (ta tb:TDE):TDE:=λdl S Q=>ta dl S λx S1=>match x with
 | .bl k=>if k=true then tb dl S1 Q else Q (.bl false) S1
 | _=>False
def dOrV (ta tb:TDE):TDE:=λdl S Q=>ta dl S λx S1=>match x with
 | .bl k=>if k=true then Q (.bl true) S1 else tb dl S1 Q
 | _=>False
def zic (ta:TDE):TDE:=λdl S Q=>ta dl S λx S1=>match x with
 | .bl k=>Q (.bl (!k)) S1
 | _=>False
theorem zbH {op}{t:TDE}(h:PD X Z a t):PD X Z (.BoolOp op [a] pos) t:=zjM h
theorem zbM (ha:PD X Z a ta)(hb:PD X Z (.BoolOp .And (b::zbj) pos) tb):PD X Z (.BoolOp .And (a::b::zbj) pos) (zh5 ta tb):=
 zaX (zk6 ha hb) λσ H Qv ⟨r,dl,S,Q,rs,rel,h,ret⟩=>⟨r,dl,S,_,rs,rel,h,λv H1 r1 d S1 e1 rel1 p q1=>by
  cases p with
  | bl k=>
   refine⟨k,rfl,?_⟩
   cases k with
   | true=>exact zba ⟨r1,dl,S1,Q,rs.ext e1,rel1,(by simpa using q1),ret.ext e1⟩
   | false=>exact zam (ret _ H1 r1 (.bl false) S1 e1 rel1 (.bl false) (by simpa using q1))
  | _=>exact(show False from q1).elim⟩
theorem zjQ (ha:PD X Z a ta):PD X Z (.UnaryOp .Not a pos) (zic ta):=
 zaX (ziJ ha) λσ H Qv ⟨r,dl,S,Q,rs,rel,h,ret⟩=>⟨r,dl,S,_,rs,rel,h,λv H1 r1 d S1 e1 rel1 p q1=>by
  cases p with
  | bl k=>exact⟨k,rfl,ret _ H1 r1 (.bl (!k)) S1 e1 rel1 (.bl (!k)) q1⟩
  | _=>exact(show False from q1).elim⟩
def dIfE (t:TDT)(ta tb:TDE):TDE:=λdl S Q=>t dl S λk S1=>if k=true then ta dl S1 Q else tb dl S1 Q
theorem ziW {t:TDT}(hc:PDT X Z c t)(ha:PD X Z a ta)(hb:PD X Z b tb):PD X Z (.IfExp c a b pos) (dIfE t ta tb):=
 zaX (zlu hc ha hb) λσ H Qv ⟨r,dl,S,Q,rs,rel,h,ret⟩=>⟨r,dl,S,_,rs,rel,h,λk H1 r1 S1 e1 rel1 q1=>by
  cases k with
  | true=>exact zba ⟨r1,dl,S1,Q,rs.ext e1,rel1,(by simpa using q1),ret.ext e1⟩
  | false=>exact zam ⟨r1,dl,S1,Q,rs.ext e1,rel1,(by simpa using q1),ret.ext e1⟩⟩
def zkI (w w':W2)(ta tb tc:TDE):TDE:=λdl S Q=>ta dl S λx S1=>tb dl S1 λy S2=>w x y S2 λz S3=>match z with
 | .bl k=>if k=true then tc dl S3 λu S4=>w' y u S4 Q else Q (.bl false) S3
 | _=>False
def zeT:D→Bool
 | .non=>true
 | _=>false
def wIsN:W2:=λx y S Q=>match y with
 | .non=>Q (.bl (zeT x)) S
 | _=>False
def zh4:W2:=λx y S Q=>match y with
 | .non=>Q (.bl (!zeT x)) S
 | _=>False
theorem zjP {r:List Addr}{H:Hp}{d:D}{x:V}(p:Rp r H d x):decide (x=.non)=zeT d:=by
 cases p <;> simp[zeT]
theorem zkl:OpR X (compareOp .IsNot) (upO X.K Z zh4):=zec zkC λx y H Qv ⟨r,S,dx,dy,Q,rel,px,py,q,ret⟩=>by
 cases py with
 | non=>exact⟨rfl,by rw[zjP px]; exact ret _ _ _ _ _ Ext.refl rel (.bl _) q⟩
 | _=>exact(show False from q).elim
variable {e:Expr}{es:List Expr}
def dNil:TDA:=λ_ S Q=>Q [] S
def zig (ta:TDE)(tr:TDA):TDA:=λdl S Q=>ta dl S λx S1=>tr dl S1 λxs S2=>Q (x::xs) S2
theorem zab:PDA X Z [] dNil:=zil zfp λσ H Qv ⟨r,dl,S,Q,rs,rel,h,ret⟩=>ret [] H r [] S Ext.refl rel Rps.nil h
theorem zaa {te:TDE}{t:TDA}(ha:PD X Z e te)(hr:PDA X Z es t)(hs:starEach (e::es) X.env=(false,eval e X.env)::starEach es X.env:=by rfl):PDA X Z (e::es) (zig te t):=
 zil (zc4 ha hr hs) λσ H Qv ⟨r,dl,S,Q,rs,rel,h,ret⟩=>⟨r,dl,S,_,rs,rel,h,λv H1 r1 d S1 e1 rel1 p1 h1=>⟨r1,dl,S1,_,rs.ext e1,rel1,h1,λvs H2 r2 ds S2 e2 rel2 p2 h2=>
  ret (v::vs) H2 r2 (d::ds) S2 (e1.trans e2) rel2 (Rps.cons (p1.ext e2) p2) h2⟩⟩
def dTup (t:TDA):TDE:=λdl S Q=>t dl S λds S1=>if ds.length≤1000 then Q (.tup ds) S1 else False
def dLst (t:TDA):TDE:=λdl S Q=>t dl S λds S1=>if ds.length≤1000 then Q (.ref S1.length) (S1++[.lst ds]) else False
theorem ze2 {A:Prop}{p:Prop} [Decidable p] (h:if p then A else False):p∧A:=by
 split at h
 ·exact⟨by assumption,h⟩
 ·exact h.elim
theorem zb3 {n:Nat}(h:n≤1000):n≤sizeLine:=VaJ (zes h)
theorem zcO {x1}{t:TDA}(h:PDA X Z es t):PD X Z (.Tuple es x1 pos) (dTup t):=
 zaX (zlO h) λσ H Qv ⟨r,dl,S,Q,rs,rel,h,ret⟩=>⟨r,dl,S,_,rs,rel,h,λvs H1 r1 ds S1 e1 rel1 p1 h1=>by
  obtain⟨hl,h1⟩:=ze2 h1
  refine⟨by rw[← p1.1]; exact zb3 hl,λp hp=>?_⟩
  have x:Ext r1 r1 H1 (upd H1 p (.tup vs)):=⟨λ_ _ q=>q,λa xs q=>zch hp _ _ q,λa c q=>zch hp _ _ q⟩
  exact ret _ _ r1 (.tup ds) S1 (e1.trans x) (rel1.same (zch hp)) ((p1.ext x).tupR zb7) h1⟩
theorem zcX {r:List Addr}{p:Addr}{H:Hp}{n:Nat}(h:r.length=n):Rp (r++[p]) H (.ref n) (.ref p):=.ref (by subst h; simp)
theorem zbV {t:TDA}(h:PDA X Z es t):PD X Z (.List es pos) (dLst t):=
 zaX (zlC h) λσ H Qv ⟨r,dl,S,Q,rs,rel,h,ret⟩=>⟨r,dl,S,_,rs,rel,h,λvs H1 r1 ds S1 e1 rel1 p1 h1=>by
  obtain⟨hl,h1⟩:=ze2 h1
  refine⟨by rw[← p1.1]; exact zb3 hl,λp hp=>?_⟩
  obtain⟨rel2,x⟩:=rel1.push hp p1
  exact ret _ _ _ (.ref S1.length) _ (e1.trans x) rel2 (zcX rel1.len) h1⟩
def wIx:W2:=λx y S Q=>match x,y with
 | .tup xs,.int i=>match atI xs i with
  | some d=>Q d S
  | none=>False
 | .ref n,.int i=>match lAt S n with
  | some o=>match atI (zad o) i with
   | some d=>Q d S
   | none=>False
  | none=>False
 | _,_=>False
theorem zhd {r:List Addr}{H:Hp}{ds:List D}{vs:List V}{i:Int}{d:D}(h:Rps r H ds vs)(e:atI ds i=some d):∃v,atI vs i=some v∧Rp r H d v:=by
  unfold atI at e ⊢
  rw[← h.1]
  cases q:ixN ds.length i with
  | none=>
   rw[q] at e
   cases e
  | some j=>
    rw[q] at e
    exact h.get e
theorem do_ix:IxR X (upO X.K Z wIx):=by
 intro value slice pins s σ H x y v u Qv I rx ry h hs
 obtain⟨r,S,dx,dy,Q,rel,px,py,q,ret⟩:=h
 cases px with
 | @tup ds xs a e1 l1 f1=>
  cases py with
  | int i=>
   have q':(match atI ds i with | some d=>Q d S | none=>False):=q
   split at q'
   ·rename_i d e
    obtain⟨w,hw,pw⟩:=zhd ⟨l1,f1⟩ e
    exact zj8 value slice pins s σ H _ _ v u Qv I rx ry ⟨a,xs,i,w,rfl,rfl,SqT.of e1,hw,ret w H r d S Ext.refl rel pw q'⟩ hs
   ·exact q'.elim
  | _=>exact(show False from q).elim
 | @ref n a e1=>
  cases py with
  | int i=>
   have q':(match lAt S n with | some o=>(match atI (zad o) i with | some d=>Q d S | none=>False) | none=>False):=q
   split at q'
   ·rename_i o eo
    obtain⟨eo,eL⟩:=zbE eo
    obtain⟨a',ha,ob⟩:=rel.at eo
    rw[e1] at ha; cases ha
    obtain⟨xs,sq,pr⟩:=ob.list eL
    split at q'
    ·rename_i d e
     obtain⟨w,hw,pw⟩:=zhd pr e
     exact zj0 value slice pins s σ H _ _ v u Qv I rx ry ⟨a,xs,i,w,rfl,rfl,sq,hw,ret w H r d S Ext.refl rel pw q'⟩ hs
    ·exact q'.elim
   ·exact q'.elim
  | _=>exact(show False from q).elim
 | _=>exact(show False from q).elim
theorem zbk (ha:PD X Z a ta)(hb:PD X Z b tb)(hs:zgc b):PD X Z (.Subscript a b pos) (dOp wIx ta tb):=zaX (pe_ix do_ix ha hb hs) λ_ _ _ h=>zeL h
end
structure Bk (fs:List Addr)(H H':Hp)(B h:Heap)(ea:Addr):Prop where
 trk:∀b u,H' b=some u→∃o,B.get? b=some o
 old:∀b o,h.get? b=some o→H b=none→b ∉ fs→B.get? b=some o
 all:∀b o,h.get? b=some o→b ∉ fs→∃o',B.get? b=some o'
 new:H' ea=none
def CXE (P:Program)(w:World):CXT:=λouter H s E e s'=>∃(ea c:Addr) (a0:Value) (B:Heap) (H':Hp),e=.ref ea∧s'.os=s.os∧AllBare s'.gens∧Un (frs outer) [] H H' s.heap s'.heap∧HOk P w H' s'.heap∧
 Heap.FlyingW B outer ea (.ref c) a0 s'.heap∧Bk (frs outer) H H' B s.heap ea∧E (.ref c) none H'
section
variable {X:Cx}{pins:List (Addr×Obj)}{σ:St}{H:Hp}{s:Shared}
end
section
variable {P:Program}{w:World}{K:PySem.W.Frag}{mg:Str→Option Value}{base:Heap}{N:List Str}{qual:Str}{scope:Scope}{f:Addr}{cdv:Value}{A:Around}{outer:List Env}{s0:Shared}{H0:Hp}{E:XK}
end
structure Xc (K:PySem.W.Frag)(mg:Str→Option Value)(x:Str)(C:Addr)(bm:List Value)(nid:String):Prop where
 bound:mg x=some (.ref C)
 ex:PySem.W.excIn K C bm nid=true
abbrev WC:=List D→Sto→DK→Prop
abbrev Sd:=List D→Sto→DK→(Addr→Sto→Prop)→Prop
def upC (K:PySem.W.Frag)(Z:Zx)(w:WC):List V→Hp→VK→Prop:=λxs H Qv=>∃r S ds Q,Rel K Z r S H∧Rps r H ds xs∧w ds S Q∧Ret K Z r H Q Qv
def upF (K:PySem.W.Frag)(sd:Sd):Sp:=λvs H Qv E=>∃ex:Addr→Sto→Prop,upC K (Zc ex E) (λds S Q=>sd ds S Q ex) vs H Qv
def zfw (w:WC)(t:TDA):TDE:=λdl S Q=>t dl S λds S1=>w ds S1 Q
def zfG (ex:Ev→Addr→Sto→Prop)(sd:Sd)(t:TDA):TDE:=λdl S Q=>t dl S λds S1=>sd ds S1 Q (ex dl)
def zd6 (X:Cx)(W:St→XK):Prop:=∀(pins:List (Addr×Obj)) (σ:St) (H:Hp) (s:Shared) (e:Value) (s':Shared),Inv X pins σ H s→CXE X.prog X.w X.stack H s (W σ) e s'→X.xe e s'
section
variable {X:Cx}{k:Nat}{f:Addr}{fd:FuncData}{ps:List Str}{sp:Sp}{W:St→XK}{x:Str}{p pos:Pos}{e:Expr}{es:List Expr}{t:TA}
theorem zi8 {pins:List (Addr×Obj)}{σ:St}{H:Hp}{s:Shared}{Q:VK}{us:List Value}{vs:List V}(F:zaW X.prog X.w X.K X.mg X.base (CXE X.prog X.w) k f fd ps sp)(hr:zaC k X.A)(hb:zbS X.K fd ps [])(hx:zd6 X W)
  (I:Inv X pins σ H s)(r:zaf vs us)(h:sp vs H Q (W σ)):wpAny (model X.prog X.w) X.A (call (.ref f) us) (EP X pins σ Q) X.xe s:=by
 have hl:us.length=ps.length:=by rw[← r.length]; exact F.len _ _ _ _ h
 have hb':=hb s us I.kIn (by rw[VaN]; exact hl)
 rw[VaN] at hb'
 refine wpAny_call (codeAny_mono (F.run X.A X.stack s H ⟨us,[]⟩ us vs Q (W σ) hr I.env0 hb' r h) λz s' hq=>?_)
 cases z with
 | error ev=>exact hx pins σ H s ev s' I hq
 | ok fl=>
  cases fl with
  | ret u=>exact I.after hq
  | _=>exact False.elim hq
theorem ziX (F:zaW X.prog X.w X.K X.mg X.base (CXE X.prog X.w) k f fd ps sp)(hr:zaC k X.A)(hg:Gl X x)(hm:X.mg x=some (.ref f))(hk:PySem.W.keepIn X.K (.ref f)=true)(hb:zbS X.K fd ps [])(hx:zd6 X W)
  (ha:PA X (e::es) t)(hdb:(x==("__debug__":Str))=false)(he:starEach (e::es) X.env=(false,eval e X.env)::starEach es X.env)(hpl:(backTo pos (starEach es X.env)).any (·.1)=false):
  PE X (.Call (.Name x p) (e::es) [] pos) (λσ H Q=>t σ H λvs H1=>sp vs H1 Q (W σ)):=by
 intro pins s σ H Q I h
 refine wpAny_Call_Name_kw (zl5 I hg hm ?_ hdb)
 exact PySem.W.callWith_K (h₀:=X.base) I.ok.mod.kin hk (thn (ha pos pins s σ H _ I h) λus s1 ⟨vs,H1,I1,r,q⟩=>⟨I1.kIn,zi8 F hr hb hx I1 r q⟩) he hpl
end
section
variable {X:Cx}{Z:Zx}{x:Str}{p pos:Pos}{e:Expr}{es:List Expr}{t:TDA}{id T:String}{w:WC}
theorem ziB {σ:St}{H:Hp}{Qv:VK}(h:up X.K Z (zfw w t) σ H Qv):upA X.K Z t σ H λvs H1=>upC X.K Z w vs H1 Qv:=by
 obtain⟨r,dl,S,Q,rs,rel,h,ret⟩:=h
 exact⟨r,dl,S,_,rs,rel,h,λvs H1 r1 ds S1 e1 rel1 p1 h1=>⟨r1,S1,ds,Q,rel1,p1,h1,ret.ext e1⟩⟩
theorem zau (hc:zaI X (.builtin id) (upC X.K Z w))(hg:Gl X x)(hm:X.mg x=none)(hv:bootBuiltins x=some (.builtin id))(ha:PDA X Z (e::es) t)(hn:x≠"__name__":=by decide)(hdb:(x==("__debug__":Str))=false:=by decide)
  (he:starEach (e::es) X.env=(false,eval e X.env)::starEach es X.env:=by rfl)(hpl:(backTo pos (starEach es X.env)).any (·.1)=false:=by rfl):PD X Z (.Call (.Name x p) (e::es) [] pos) (zfw w t):=
 zaX (zgn hc hg hm hv ha hn hdb he hpl) λ_ _ _ h=>ziB h
theorem zkL (hc:zaI X (.type T) (upC X.K Z w))(hg:Gl X x)(hm:X.mg x=none)(hv:bootBuiltins x=some (.type T))(ha:PDA X Z (e::es) t)(hn:x≠"__name__":=by decide)(hdb:(x==("__debug__":Str))=false:=by decide)
  (he:starEach (e::es) X.env=(false,eval e X.env)::starEach es X.env:=by rfl)(hpl:(backTo pos (starEach es X.env)).any (·.1)=false:=by rfl):PD X Z (.Call (.Name x p) (e::es) [] pos) (zfw w t):=
 zaX (ziV hc hg hm hv ha hn hdb he hpl) λ_ _ _ h=>ziB h
theorem up_sd {sd:Sd}{r:List Addr}{S:Sto}{H:Hp}{dl:Ev}{σ:St}{ds:List D}{vs:List V}{Q:DK}{Qv:VK}(rs:Rs r H dl σ)(rel:Rel X.K Z r S H)(p:Rps r H ds vs)(h:sd ds S Q (Z.ex dl))(ret:Ret X.K Z r H Q Qv):upF X.K sd vs H Qv (Z.w σ):=
 ⟨Z.ex dl,r,S,ds,Q,⟨rel.b,λ_ _ c H' r' S' x _ rb q=>rel.xw dl σ c H' r' S' x (rs.ext x) rb q⟩,p,h,λv H' r' d S' x rel' pv q=>ret v H' r' d S' x ⟨rel'.b,rel.xw.ext x⟩ pv q⟩
theorem zlM {k:Nat}{f:Addr}{fd:FuncData}{ps:List Str}{sd:Sd}(F:zaW X.prog X.w X.K X.mg X.base (CXE X.prog X.w) k f fd ps (upF X.K sd))(hr:zaC k X.A)(hg:Gl X x)(hm:X.mg x=some (.ref f))(hk:PySem.W.keepIn X.K (.ref f)=true)
  {ex:Ev→Addr→Sto→Prop}{W:St→XK}(hb:zbS X.K fd ps [])(hx:zd6 X W)(ha:PDA X ⟨ex,W⟩ (e::es) t)(hdb:(x==("__debug__":Str))=false:=by decide)(he:starEach (e::es) X.env=(false,eval e X.env)::starEach es X.env:=by rfl)
  (hpl:(backTo pos (starEach es X.env)).any (·.1)=false:=by rfl):PD X ⟨ex,W⟩ (.Call (.Name x p) (e::es) [] pos) (zfG ex sd t):=
 zaX (ziX F hr hg hm hk hb hx ha hdb he hpl) λσ H Qv ⟨r,dl,S,Q,rs,rel,h,ret⟩=>⟨r,dl,S,_,rs,rel,h,λvs H1 r1 ds S1 e1 rel1 p1 h1=>up_sd (Z:=⟨ex,W⟩) (rs.ext e1) rel1 p1 h1 (ret.ext e1)⟩
def wAbs:WC:=λds S Q=>match ds with
 | [.int i]=>Q (.int (if i<0 then -i else i)) S
 | _=>False
def zbr:List D→Option (List Int)
 | []=>some []
 | .int i::r=>(zbr r).map (i::·)
 | _::_=>none
def zcV (le:Int→Int→Prop)(two:Int→Int→Int):WC:=λds S Q=>match ds with
 | [.int i,.int j]=>Q (.int (two i j)) S
 | [.ref n]=>match lAt S n with
  | some o=>match zbr (zad o) with
   | some xs=>xs≠[]∧∀m,m∈xs→(∀y∈xs,le y m)→Q (.int m) S
   | none=>False
  | none=>False
 | _=>False
abbrev wMax:WC:=zcV (λy m=>y≤m) λi j=>if j > i then j else i
abbrev wMin:WC:=zcV (λy m=>m≤y) λi j=>if j<i then j else i
theorem ze7 {r:List Addr}{H:Hp}:∀ {ds:List D} {ns:List Int} {vs:List V} {us:List Value},zbr ds=some ns→Rps r H ds vs→zaf vs us→∃xs:List (Int×Tok),us.toArray=intItems xs.toArray∧xs.map (·.1)=ns
 | [],ns,vs,us,e,p,q=>by
  have z:=p.unnil
  subst z
  cases q
  simp[zbr] at e
  subst e
  exact⟨[],by simp[intItems],rfl⟩
 | d::ds,ns,vs,us,e,p,q=>by
  obtain⟨v,vs',rfl,p1,p2⟩:=p.uncons
  cases d with
  | int i=>
   cases p1
   cases q with
   | cons q1 q2=>
    obtain⟨t,rfl⟩:=q1
    simp only[zbr,VaH] at e
    obtain⟨ms,e1,rfl⟩:=e
    obtain⟨xs,h1,h2⟩:=ze7 e1 p2 q2
    refine⟨(i,t)::xs,?_,by simp[h2]⟩
    simp[intItems] at h1 ⊢
    exact h1
  | _=>simp[zbr] at e
theorem ziv (f:Nat→Int):∀k j,j≤k→f j≤f (argBest (λi j=>decide (f i > f j)) k)
 | 0,j,h=>by
  have z:j=0:=by omega
  subst z
  exact VaY _
 | k+1,j,h=>by
  have ih:=ziv f k
  unfold argBest
  split
  ·rename_i hb
   have hb':f (k+1) > f (argBest (λi j=>decide (f i > f j)) k):=of_decide_eq_true hb
   by_cases z:j=k+1
   ·subst z; exact VaY _
   ·have:=ih j (by omega); omega
  ·rename_i hb
   have hb':¬ f (k+1) > f (argBest (λi j=>decide (f i > f j)) k):=λq=>hb (decide_eq_true q)
   by_cases z:j=k+1
   ·subst z; omega
   ·exact ih j (by omega)
theorem zhi (f:Nat→Int):∀k j,j≤k→f (argBest (λi j=>decide (f i<f j)) k)≤f j
 | 0,j,h=>by
  have z:j=0:=by omega
  subst z
  exact VaY _
 | k+1,j,h=>by
  have ih:=zhi f k
  unfold argBest
  split
  ·rename_i hb
   have hb':f (k+1)<f (argBest (λi j=>decide (f i<f j)) k):=of_decide_eq_true hb
   by_cases z:j=k+1
   ·subst z; exact VaY _
   ·have:=ih j (by omega); omega
  ·rename_i hb
   have hb':¬ f (k+1)<f (argBest (λi j=>decide (f i<f j)) k):=λq=>hb (decide_eq_true q)
   by_cases z:j=k+1
   ·subst z; omega
   ·exact ih j (by omega)
theorem zgd (bt:Nat→Nat→Bool):∀k,argBest bt k≤k
 | 0=>Vaa _
 | k+1=>by
  unfold argBest
  split
  ·exact Vaa _
  ·exact Nat.le_succ_of_le (zgd bt k)
theorem zgv {xs:List (Int×Tok)}{ns:List Int}(h:xs.map (·.1)=ns){j:Nat}{y:Int}(e:ns[j]?=some y):numAt xs.toArray j=y:=by
  subst h
  unfold numAt
  rw[Vae] at e
  simp only[List.getElem?_toArray]
  cases q:xs[j]? with
  | none=>
   rw[q] at e
   cases e
  | some z=>rw[q] at e; simpa using e
theorem zg7 {xs:List (Int×Tok)}{ns:List Int}(h:xs.map (·.1)=ns){j:Nat}(hj:j<ns.length):numAt xs.toArray j∈ns:=by
 have e:ns[j]?=some ns[j]:=by simp[hj]
 rw[zgv h e]
 exact VaC hj
theorem zgx (hc:X.calm=true):zaI X (.builtin "max") (upC X.K Z wMax):=by
 intro pins s σ H xs us Qv I rv h
 obtain⟨r,S,ds,Q,rel,ps,q,ret⟩:=h
 unfold wMax zcV at q
 split at q
 ·rename_i i j
  obtain⟨v,vs,rfl,p1,p2⟩:=ps.uncons
  obtain⟨v2,vs2,rfl,p3,p4⟩:=p2.uncons
  have z:=p4.unnil
  subst z
  cases p1
  cases p3
  exact zjq hc pins s σ H _ us Qv I rv ⟨i,j,rfl,ret _ _ _ _ _ Ext.refl rel (.int _) q⟩
 ·rename_i n
  obtain⟨v,vs,rfl,p1,p2⟩:=ps.uncons
  have z:=p2.unnil
  subst z
  split at q
  ·rename_i o eo
   split at q
   ·rename_i ns en
    obtain⟨hne,q⟩:=q
    obtain⟨eo,eL⟩:=zbE eo
    obtain⟨a,ha,ob⟩:=rel.at eo
    cases p1 with
    | ref h1=>
     rw[h1] at ha; cases ha
     obtain⟨ys,sq,pr⟩:=ob.list eL
     obtain⟨u,rfl,ru⟩:=zcr rv
     cases ru
     obtain⟨its,ri,pl,hz⟩:=I.list sq
     obtain⟨zs,hz1,hz2⟩:=ze7 en pr ri
     have hl:zs.length=ns.length:=by rw[← hz2,Vac]
     have hpos:0<ns.length:=List.length_pos_iff.mpr hne
     have isl:=pl.isList
     rw[hz1] at isl
     refine max_intList (I.ok.hd hc) isl (by simp; omega) λv h' tk hv hk=>?_
     have hvi:=intItems_at hv
     obtain⟨t,rfl⟩:=hvi
     have hb:=zgd (λi j=>decide (numAt zs.toArray i > numAt zs.toArray j)) (zs.toArray.size-1)
     have hsz:zs.toArray.size=ns.length:=by simp[hl]
     refine⟨.int _,H,I.kept hk,⟨_,rfl⟩,ret _ _ _ _ _ Ext.refl rel (.int _) (q _ (zg7 hz2 (by omega)) λy hy=>?_)⟩
     obtain⟨j,hj,ej⟩:=VaZ.mp hy
     have e1:=zgv hz2 (show ns[j]?=some y by simp[hj,ej])
     rw[← e1]
     exact ziv _ _ j (by omega)
   ·exact q.elim
  ·exact q.elim
 ·exact q.elim
theorem zeU (hc:X.calm=true):zaI X (.builtin "min") (upC X.K Z wMin):=by
 intro pins s σ H xs us Qv I rv h
 obtain⟨r,S,ds,Q,rel,ps,q,ret⟩:=h
 unfold wMin zcV at q
 split at q
 ·rename_i i j
  obtain⟨v,vs,rfl,p1,p2⟩:=ps.uncons
  obtain⟨v2,vs2,rfl,p3,p4⟩:=p2.uncons
  have z:=p4.unnil
  subst z
  cases p1
  cases p3
  exact zlS hc pins s σ H _ us Qv I rv ⟨i,j,rfl,ret _ _ _ _ _ Ext.refl rel (.int _) q⟩
 ·rename_i n
  obtain⟨v,vs,rfl,p1,p2⟩:=ps.uncons
  have z:=p2.unnil
  subst z
  split at q
  ·rename_i o eo
   split at q
   ·rename_i ns en
    obtain⟨hne,q⟩:=q
    obtain⟨eo,eL⟩:=zbE eo
    obtain⟨a,ha,ob⟩:=rel.at eo
    cases p1 with
    | ref h1=>
     rw[h1] at ha; cases ha
     obtain⟨ys,sq,pr⟩:=ob.list eL
     obtain⟨u,rfl,ru⟩:=zcr rv
     cases ru
     obtain⟨its,ri,pl,hz⟩:=I.list sq
     obtain⟨zs,hz1,hz2⟩:=ze7 en pr ri
     have hl:zs.length=ns.length:=by rw[← hz2,Vac]
     have hpos:0<ns.length:=List.length_pos_iff.mpr hne
     have isl:=pl.isList
     rw[hz1] at isl
     refine min_intList (I.ok.hd hc) isl (by simp; omega) λv h' tk hv hk=>?_
     have hvi:=intItems_at hv
     obtain⟨t,rfl⟩:=hvi
     have hb:=zgd (λi j=>decide (numAt zs.toArray i<numAt zs.toArray j)) (zs.toArray.size-1)
     have hsz:zs.toArray.size=ns.length:=by simp[hl]
     refine⟨.int _,H,I.kept hk,⟨_,rfl⟩,ret _ _ _ _ _ Ext.refl rel (.int _) (q _ (zg7 hz2 (by omega)) λy hy=>?_)⟩
     obtain⟨j,hj,ej⟩:=VaZ.mp hy
     have e1:=zgv hz2 (show ns[j]?=some y by simp[hj,ej])
     rw[← e1]
     exact zhi _ _ j (by omega)
   ·exact q.elim
  ·exact q.elim
 ·exact q.elim
def zdg:WC:=λds S Q=>match ds with
 | [.tup xs]=>Q (.int xs.length) S
 | [.ref n]=>match lAt S n with
  | some o=>Q (.int (zad o).length) S
  | none=>False
 | _=>False
theorem za8:zaI X (.builtin "len") (upC X.K Z zdg):=zhw ziF λxs H Qv ⟨r,S,ds,Q,rel,ps,q,ret⟩=>by
 unfold zdg at q
 split at q
 ·rename_i ys
  obtain⟨v,vs,rfl,p1,p2⟩:=ps.uncons
  have z:=p2.unnil
  subst z
  obtain⟨a,zs,rfl,h1,h2⟩:=p1.untup
  exact⟨a,zs,rfl,.inr (SqT.of h1),by rw[← h2.1]; exact ret _ _ _ _ _ Ext.refl rel (.int _) q⟩
 ·rename_i n
  obtain⟨v,vs,rfl,p1,p2⟩:=ps.uncons
  have z:=p2.unnil
  subst z
  split at q
  ·rename_i o eo
   obtain⟨eo,eL⟩:=zbE eo
   obtain⟨a,ha,ob⟩:=rel.at eo
   cases p1 with
   | ref h1=>
    rw[h1] at ha; cases ha
    obtain⟨ys,sq,pr⟩:=ob.list eL
    exact⟨_,ys,rfl,.inl sq,by rw[← pr.1]; exact ret _ _ _ _ _ Ext.refl rel (.int _) q⟩
  ·exact q.elim
 ·exact q.elim
def zbd (t T:String):Bool:=t==T||(t == "bool"&&T == "int")
def zim (T:String)(te:TDE):TDE:=λdl S Q=>te dl S λd S1=>match d with
 | .ref _=>False
 | .exc _=>False
 | .non=>Q (.bl (zbd "NoneType" T)) S1
 | .bl _=>Q (.bl (zbd "bool" T)) S1
 | .int _=>Q (.bl (zbd "int" T)) S1
 | .str _=>Q (.bl (zbd "str" T)) S1
 | .tup _=>Q (.bl (zbd "tuple" T)) S1
def Kit (K:PySem.W.Frag)(T:String):Prop:=∀t∈["NoneType","bool","int","str","tuple"],PySem.W.kitOne K (.type t) (.type T)=some (zbd t T)
def rInst (K:PySem.W.Frag):List V→Hp→VK→Prop:=λxs H Qv=>∃x T t b,xs=[x,.ty T]∧zbF K H x t∧PySem.W.kitOne K t (.type T)=some b∧Qv (.bl b) H
theorem zin:zaI X (.builtin "isinstance") (rInst X.K):=by
 intro pins s σ H xs us Q I r h
 obtain⟨x,T,t,b,rfl,ty,e,q⟩:=h
 obtain⟨u,w',rfl,r1,r2⟩:=zgy r
 cases r2
 exact zkn I r1 ty e λtk=>⟨.bl b,H,I.tok tk,rfl,q⟩
theorem zh1 {T:String}{te:TDE}{y:Str}{p2:Pos}(KT:Kit X.K T)(hg:Gl X "isinstance")(hm:X.mg "isinstance"=none)(hg2:Gl X y)(hm2:X.mg y=none)(hv2:bootBuiltins y=some (.type T))(ha:PD X Z e te)
  (hv:bootBuiltins "isinstance"=some (.builtin "isinstance"):=by exact PyProof.Rows.Boot.«isinstance»)
  (hn2:y≠"__name__":=by decide)(hd2:(y==("__debug__":Str))=false:=by decide)(he2:starEach [e,.Name y p2] X.env=(false,eval e X.env)::starEach [.Name y p2] X.env:=by rfl)
  (he3:starEach [.Name y p2] X.env=(false,eval (.Name y p2) X.env)::starEach [] X.env:=by rfl)(hpl:(backTo pos (starEach [.Name y p2] X.env)).any (·.1)=false:=by rfl):
  PD X Z (.Call (.Name "isinstance" p) [e,.Name y p2] [] pos) (zim T te):=
 zaX (zgn zin hg hm hv (zc4 ha (zc4 (zhN (v:=.ty T) hg2 hm2 hv2 rfl hn2 hd2) zfp he3) he2) (by decide) (by decide) he2 hpl) λσ H Qv ⟨r,dl,S,Q,rs,rel,h,ret⟩=>
  ⟨r,dl,S,_,rs,rel,h,λv H1 r1 d S1 e1 rel1 p1 h1=>by
   cases p1 with
   | non=>exact⟨_,T,_,_,rfl,.non,KT _ (by simp),ret _ _ _ _ _ e1 rel1 (.bl _) h1⟩
   | bl b=>exact⟨_,T,_,_,rfl,.bl b,KT _ (by simp),ret _ _ _ _ _ e1 rel1 (.bl _) h1⟩
   | int b=>exact⟨_,T,_,_,rfl,.int b,KT _ (by simp),ret _ _ _ _ _ e1 rel1 (.bl _) h1⟩
   | str b=>exact⟨_,T,_,_,rfl,.str b,KT _ (by simp),ret _ _ _ _ _ e1 rel1 (.bl _) h1⟩
   | tup e2 _ _=>exact⟨_,T,_,_,rfl,.tup e2,KT _ (by simp),ret _ _ _ _ _ e1 rel1 (.bl _) h1⟩
   | ref _=>exact(show False from h1).elim
   | exc _=>exact(show False from h1).elim⟩
end
section
variable {X:Cx}{Z:Zx}{st:Stmt}{zbj:List Stmt}{t u:TDS}{e:Expr}{te:TDE}{pos:Pos}
def zaE:TDS:=λE dl S=>E.nx dl S
def zbU (t u:TDS):TDS:=λE dl S=>t { nx:=λdl' S'=>u E dl' S',rt:=E.rt,bk:=E.bk,ct:=E.ct } dl S
theorem zaL:zb1 X Z [] zaE:=zhx zje λF σ H ⟨r,dl,S,E,rs,rel,h,ret⟩=>ret.nx σ H r dl S Ext.refl rs rel h
theorem zaj (h1:PDS X Z st t)(h2:zb1 X Z zbj u):zb1 X Z (st::zbj) (zbU t u):=
 zhx (zku h1 h2) λF σ H ⟨r,dl,S,E,rs,rel,h,ret⟩=>⟨r,dl,S,_,rs,rel,h,λσ' H' r' dl' S' x rs' rel' q=>⟨r',dl',S',E,rs',rel',q,ret.ext x⟩,ret.bk,ret.ct,ret.rt⟩
theorem zai (h1:PDS X Z st t):zb1 X Z [st] t:=zk2 h1
def zhl (te:TDE):TDS:=λE dl S=>te dl S λ_ S1=>E.nx dl S1
theorem zem (he:PD X Z e te)(hs:swapsWith e none pos.line X.env=pure false:=by rfl):PDS X Z (.Expr e pos) (zhl te):=
 zb5 (zkU he hs) λF σ H ⟨r,dl,S,E,rs,rel,h,ret⟩=>⟨r,dl,S,_,rs,rel,h,λv H1 r1 d S1 x rel1 p q=>ret.nx σ H1 r1 dl S1 x (rs.ext x) rel1 q⟩
def dRet (te:TDE):TDS:=λE dl S=>te dl S E.rt
theorem zap (he:PD X Z e te):PDS X Z (.Return (some e) pos) (dRet te):=
 zb5 (zk1 he) λF σ H ⟨r,dl,S,E,rs,rel,h,ret⟩=>⟨r,dl,S,_,rs,rel,h,ret.rt⟩
def dRetN:TDS:=λE _ S=>E.rt .non S
def dIf (c:TDT)(t u:TDS):TDS:=λE dl S=>c dl S λk S1=>if k=true then t E dl S1 else u E dl S1
theorem zaJ {c:Expr}{a b:List Stmt}{tc:TDT}(hc:PDT X Z c tc)(ha:zb1 X Z a t)(hb:zb1 X Z b u):PDS X Z (.If c a b pos) (dIf tc t u):=
 zb5 (ps_if hc ha hb) λF σ H ⟨r,dl,S,E,rs,rel,h,ret⟩=>⟨r,dl,S,_,rs,rel,h,λk H1 r1 S1 x rel1 q=>by
  cases k with
  | true=>exact zba ⟨r1,dl,S1,E,rs.ext x,rel1,(by simpa using q),ret.ext x⟩
  | false=>exact zam ⟨r1,dl,S1,E,rs.ext x,rel1,(by simpa using q),ret.ext x⟩⟩
def zdT (i:Nat)(te:TDE):TDS:=λE dl S=>te dl S λd S1=>E.nx (dl.set i (some d)) S1
theorem za0 {i:Nat}{x:Str}{pos':Pos}(hN:X.N.Nodup)(hi:X.N[i]?=some x)(hx:Loc X.env.scope x)(he:PD X Z e te)(hs:swapsWith e (some (.Name x pos')) pos.line X.env=pure false:=by rfl)
  (hf:X.fn x=true∨X.env.scope.names.lookup x=some .local:=by first | exact .inl rfl | exact .inr rfl | assumption):PDS X Z (.Assign [.Name x pos'] e pos) (zdT i te):=
 zb5 (zkY hN hi hx he hs hf) λF σ H ⟨r,dl,S,E,rs,rel,h,ret⟩=>⟨r,dl,S,_,rs,rel,h,λv H1 r1 d S1 x rel1 p q=>ret.nx _ H1 r1 _ S1 x ((rs.ext x).set i p) rel1 q⟩
def dFor (i:Nat)(tl:TDE)(tb:TDS):TDS:=λE dl S=>tl dl S λd S1=>match d with
 | .ref n=>(lAt S1 n).isSome=true∧∃W:Nat→Nat→Ev→Sto→Prop,(∃m,W 0 m dl S1)∧∀k m dl S,W k m dl S→match lAt S n with
  | some o=>match (zad o)[k]? with
   | some x=>tb { nx:=λdl' S'=>∃m',m'<m∧W (k+1) m' dl' S',rt:=E.rt,bk:=E.nx,ct:=λdl' S'=>∃m',m'<m∧W (k+1) m' dl' S' } (dl.set i (some x)) S
   | none=>E.nx dl S
  | none=>False
 | _=>False
theorem zhC {i:Nat}{x:Str}{pos':Pos}{iter:Expr}{body:List Stmt}{tl:TDE}{tb:TDS}(hp:PassesOwn (model X.prog X.w) X.A X.env X.xe)(hc:X.calm=true)(hN:X.N.Nodup)(hi:X.N[i]?=some x)(hx:Loc X.env.scope x)
  (hl:PD X Z iter tl)(hb:zb1 X Z body tb)(hf:X.fn x=true∨X.env.scope.names.lookup x=some .local:=by first | exact .inl rfl | exact .inr rfl | assumption)
  (hs:∀y,foldedSetIterable iter X.env y=pure y:=by intro _; rfl):PDS X Z (.For (.Name x pos') iter body [] pos) (dFor i tl tb):=
 zb5 (zf9 hp hc (zfm hl) (zfK hN hi hx hf) hb hs) λF σ H ⟨r,dl,S,E,rs,rel,h,ret⟩=>by
  refine⟨r,dl,S,_,rs,rel,h,λv H1 r1 d S1 x1 rel1 p1 q1=>?_⟩
  cases p1 with
  | @ref n a hn=>
   obtain⟨hsome,W,⟨m0,w0⟩,turn⟩:=q1
   have sql:∀ {r':List Addr} {S':Sto} {H':Hp} {o:Ob},Ext r1 r' H1 H'→Rel X.K Z r' S' H'→lAt S' n=some o→∃xs,SqL X.K H' a xs∧Rps r' H' (zad o) xs:=λ{r' S' H' o} x' rel' eo=>by
    obtain⟨eo,eL⟩:=zbE eo
    obtain⟨a',ha,ob⟩:=rel'.at eo
    rw[x'.adr n a hn] at ha; cases ha
    exact ob.list eL
   obtain⟨o1,eo1⟩:=VaO.mp hsome
   obtain⟨xs1,sq1,_⟩:=sql Ext.refl rel1 eo1
   refine⟨a,rfl,⟨xs1,sq1⟩,λk m σ' H'=>∃r' dl' S',Ext r1 r' H1 H'∧Rs r' H' dl' σ'∧Rel X.K Z r' S' H'∧W k m dl' S',⟨m0,r1,dl,S1,Ext.refl,rs.ext x1,rel1,w0⟩,?_⟩
   rintro k m σ2 H2 ⟨r2,dl2,S2,x2,rs2,rel2,w2⟩
   have q:=turn k m dl2 S2 w2
   split at q
   ·rename_i o eo
    obtain⟨xs,sq,pr⟩:=sql x2 rel2 eo
    split at q
    ·rename_i y ey
     obtain⟨v,hv,pv⟩:=pr.get ey
     have go:∀ {r3:List Addr} {H3:Hp},Ext r2 r3 H2 H3→∀σ' H' r' dl' S',Ext r3 r' H3 H'→Rs r' H' dl' σ'→Rel X.K Z r' S' H'→(∃m',m'<m∧W (k+1) m' dl' S')→∃m',m'<m∧∃r' dl' S',Ext r1 r' H1 H'∧Rs r' H' dl' σ'∧Rel X.K Z r' S' H'∧W (k+1) m' dl' S':=
      λ{r3 H3} x3 σ' H' r' dl' S' x rs' rel' ⟨m',hm,w'⟩=>⟨m',hm,r',dl',S',x2.trans (x3.trans x),rs',rel',w'⟩
     refine .inr ⟨⟨xs,v,sq,hv⟩,λσ' H'=>∃m',m'<m∧∃r' dl' S',Ext r1 r' H1 H'∧Rs r' H' dl' σ'∧Rel X.K Z r' S' H'∧W (k+1) m' dl' S',λ_ _ z=>z,λv' H' y'=>?_⟩
     obtain⟨eH,y'⟩:=y'
     subst eH
     have ev:v'=v:=by
      have z:=y' xs sq
      rw[hv] at z; exact(Option.some.inj z).symm
     subst ev
     exact⟨r2,_,S2,_,rs2.set i pv,rel2,q,go Ext.refl,λσ' H' r' dl' S' x rs' rel' z=>ret.nx σ' H' r' dl' S' (x1.trans (x2.trans x)) rs' rel' z,go Ext.refl,ret.rt.ext (x1.trans x2)⟩
    ·rename_i ey
     have hlen:(zad o).length≤k:=VaQ.mp ey
     exact .inl ⟨⟨xs,sq,by rw[← pr.1]; exact hlen⟩,ret.nx σ2 H2 r2 dl2 S2 (x1.trans x2) rs2 rel2 q⟩
   ·exact q.elim
  | _=>exact(show False from q1).elim
def dForR (i:Nat)(ta:TDA)(tb:TDS):TDS:=λE dl S=>ta dl S λds S1=>match ds with
 | [.int j]=>(-(2^62)≤j∧j<2^62)∧∃W:Nat→Ev→Sto→Prop,W 0 dl S1∧∀k dl S,W k dl S→
   if k<j.toNat then tb { nx:=λdl' S'=>W (k+1) dl' S',rt:=E.rt,bk:=E.nx,ct:=λdl' S'=>W (k+1) dl' S' } (dl.set i (some (.int k))) S else E.nx dl S
 | _=>False
theorem zeQ {i:Nat}{x:Str}{pos2 pos' p:Pos}{a:Expr}{body:List Stmt}{ta:TDA}{tb:TDS}(hp:PassesOwn (model X.prog X.w) X.A X.env X.xe)(hc:X.calm=true)(hN:X.N.Nodup)(hi:X.N[i]?=some x)(hx:Loc X.env.scope x)
  (hg:Gl X "range")(hm:X.mg "range"=none)(ha:PDA X Z [a] ta)(hb:zb1 X Z body tb)(hf:X.fn x=true∨X.env.scope.names.lookup x=some .local:=by first | exact .inl rfl | exact .inr rfl | assumption)
  (hs:∀y,foldedSetIterable (.Call (.Name "range" p) [a] [] pos) X.env y=pure y:=by intro _; rfl)(hst:starEach [a] X.env=[(false,eval a X.env)]:=by rfl):
  PDS X Z (.For (.Name x pos') (.Call (.Name "range" p) [a] [] pos) body [] pos2) (dForR i ta tb):=
 zb5 (zf9 hp hc (zgC hg hm ha hst) (zfK hN hi hx hf) hb hs) λF σ H ⟨r,dl,S,E,rs,rel,h,ret⟩=>by
  refine⟨r,dl,S,_,rs,rel,h,λvs H1 r1 ds S1 x1 rel1 p1 q1=>?_⟩
  split at q1
  ·rename_i j
   obtain⟨v,vs',rfl,p2,p3⟩:=p1.uncons
   have z:=p3.unnil
   subst z
   cases p2
   obtain⟨⟨b1,b2⟩,W,w0,turn⟩:=q1
   refine⟨j,rfl,b1,b2,λk m σ' H'=>m=j.toNat-k∧∃r' dl' S',Ext r1 r' H1 H'∧Rs r' H' dl' σ'∧Rel X.K Z r' S' H'∧W k dl' S',⟨j.toNat,by simp,r1,dl,S1,Ext.refl,rs.ext x1,rel1,w0⟩,?_⟩
   rintro k m σ2 H2 ⟨em,r2,dl2,S2,x2,rs2,rel2,w2⟩
   have q:=turn k dl2 S2 w2
   split at q
   ·rename_i hk
    have go:∀σ' H' r' dl' S',Ext r2 r' H2 H'→Rs r' H' dl' σ'→Rel X.K Z r' S' H'→W (k+1) dl' S'→∃r' dl' S',Ext r1 r' H1 H'∧Rs r' H' dl' σ'∧Rel X.K Z r' S' H'∧W (k+1) dl' S':=
     λσ' H' r' dl' S' x rs' rel' w'=>⟨r',dl',S',x2.trans x,rs',rel',w'⟩
    have pk:Rp r2 H2 (.int (k:Int)) (.int (0+(k:Int))):=by rw[Int.zero_add]; exact .int _
    refine .inr ⟨hk,λσ' H'=>∃r' dl' S',Ext r1 r' H1 H'∧Rs r' H' dl' σ'∧Rel X.K Z r' S' H'∧W (k+1) dl' S',λσ' H' z=>⟨j.toNat-(k+1),by omega,rfl,z⟩,λv' H' y'=>?_⟩
    obtain⟨eH,y'⟩:=y'
    subst eH
    subst y'
    exact⟨r2,_,S2,_,rs2.set i pk,rel2,q,go,λσ' H' r' dl' S' x rs' rel' z=>ret.nx σ' H' r' dl' S' (x1.trans (x2.trans x)) rs' rel' z,go,ret.rt.ext (x1.trans x2)⟩
   ·rename_i hk
    exact .inl ⟨by show j.toNat≤k; omega,ret.nx σ2 H2 r2 dl2 S2 (x1.trans x2) rs2 rel2 q⟩
  ·exact q1.elim
end
def zdm (N:List Str)(ds:List D):Ev:=ds.map some++List.replicate (N.length-ds.length) none
theorem zjf {r:List Addr}{H:Hp}{N:List Str}{ds:List D}{vs:List V}(h:Rps r H ds vs):Rs r H (zdm N ds) (L2.zbQ N vs):=by
  refine⟨by simp[zdm,L2.zbQ,h.1],λi d e=>?_⟩
  unfold zdm at e
  by_cases hi:i<ds.length
  · rw[Vao (by simpa using hi),Vae] at e
    cases q:ds[i]? with
    | none=>
   rw[q] at e
   cases e
    | some z=>
      rw[q] at e
      cases e
      obtain⟨v,hv,pv⟩:=h.get q
      refine⟨v,?_,pv⟩
      unfold L2.zbQ
      rw[Vao (by simpa [h.1] using hi),Vae,hv]
      rfl
  · rw[Vax (by simpa using hi),List.getElem?_replicate] at e
    split at e <;> cases e
section
variable {P:Program}{w:World}{K:PySem.W.Frag}{mg:Str→Option Value}{base:Heap}
abbrev Z0:Zx:=Zc (λ_ _=>False) (λ_ _ _=>False)
theorem zdn {X:Cx}:zd6 X Z0.w:=λ_ _ _ _ _ _ _ h=>by
 obtain⟨_,_,_,_,_,_,_,_,_,_,_,_,q⟩:=h
 exact q.elim
theorem za2 {x qual:Str}{st:Stmt}{f:Addr}{fd:FuncData}{N ps:List Str}{k:Nat}{sd:Sd}(F:Fun K x qual st f fd)(Sc:zaY N ps (zak st))(len:∀ds S Q ex,sd ds S Q ex→ds.length=ps.length)
  (hbody:∀(cdv:Value) (A:Around) (outer:List Env) (s:Shared) (H:Hp) (E:XK),zaC k (A.deeper (envOfC qual (zak st) s.heap.objs.size f cdv))→
   ∃t,zb1 (zcU (CXE P w) P w K mg base N qual (zak st) f cdv A outer s H E).nox Z0 (zck st) t∧∀ds S Q ex,sd ds S Q ex→t { nx:=λ_ S'=>Q .non S',rt:=Q } (zdm N ds) S):zaW P w K mg base (CXE P w) (k+1) f fd ps (upF K sd):=by
 obtain⟨oc,od,kV,doc,pm,an,cdv,ct,osl,rfl,lk,hcd⟩:=F.ex
 refine zhU lk hcd Sc (λvs H Q E h=>?_) λA outer s H vs Q E hr h=>?_
 ·obtain⟨ex,r,S,ds,Q',rel,p,q,ret⟩:=h
  rw[← p.1]
  exact len ds S Q' ex q
 ·obtain⟨ex,r,S,ds,Q',rel,p,q,ret⟩:=h
  obtain⟨t,ht,hq⟩:=hbody cdv A outer s H E hr
  have back:∀ {H':Hp} {r':List Addr} {S':Sto},Ext r r' H H'→Rel K Z0 r' S' H'→Rel K (Zc ex E) r' S' H':=λx rel'=>⟨rel'.b,rel.xw.ext x⟩
  refine⟨upS K Z0 t,ht.nox,r,zdm N ds,S,_,zjf p,⟨rel.b,λ_ _ _ _ _ _ _ _ _ z=>z.elim⟩,hq ds S Q' ex q,?_,?_,?_,?_⟩
  ·intro σ' H' r' dl' S' x _ rel' z
   exact ret .non H' r' .non S' x (back x rel') .non z
  ·intro σ' H' r' dl' S' x _ rel' z
   exact z
  ·intro σ' H' r' dl' S' x _ rel' z
   exact z
  ·intro v H' r' d S' x rel' p' z
   exact ret v H' r' d S' x (back x rel') p' z
end
open PySem
def Sz (n:Nat)(i:Int):Prop:=i.natAbs<2^n
theorem Sz.mono {m n:Nat}{i:Int}(h:Sz m i)(hn:m≤n):Sz n i:=Var h (Nat.pow_le_pow_right (by decide) hn)
theorem Sz.bits {n:Nat}{i:Int}(h:Sz n i):Builtin.Int.intBits i≤n:=by
 unfold Builtin.Int.intBits
 split
 ·exact Vaj _
 ·rename_i hz
  have hp:i.natAbs≠0:=by
   intro z
   have z2:i=0:=by omega
   simp[z2] at hz
  have:=(Nat.log2_lt hp).mpr h
  omega
theorem zh6 {m n:Nat}{i j:Int}(hi:Sz m i)(hj:Sz n j)(hm:m≤1048576:=by decide)(hn:n≤1048576:=by decide):IntMulOk i j:=by
 have e20:(2:Nat)^20=1048576:=by decide
 exact IntMulOk.of_bits (Vau hi.bits (by omega)) (Vau hj.bits (by omega))
theorem Sz.of {n:Nat}{i:Int}(m:Nat)(h:i.natAbs≤m)(hm:m<2^n:=by decide):Sz n i:=Nat.lt_of_le_of_lt h hm
theorem Sz.add {m n:Nat}{i j:Int}(hi:Sz m i)(hj:Sz n j):Sz (max m n+1) (i+j):=by
 have h1:Sz (max m n) i:=hi.mono (Nat.le_max_left _ _)
 have h2:Sz (max m n) j:=hj.mono (Nat.le_max_right _ _)
 unfold Sz at *
 have e:(2:Nat)^(max m n+1)=2^max m n+2^max m n:=by rw[Nat.pow_succ]; omega
 rw[e]
 have:=Int.natAbs_add_le i j
 omega
theorem Sz.neg {m:Nat}{i:Int}(hi:Sz m i):Sz m (-i):=by
 unfold Sz at *
 rw[Int.natAbs_neg]; exact hi
theorem Sz.sub {m n:Nat}{i j:Int}(hi:Sz m i)(hj:Sz n j):Sz (max m n+1) (i-j):=by
 rw[Int.sub_eq_add_neg]; exact hi.add hj.neg
theorem Sz.log {n:Nat}{i:Int}(h:Sz n i)(hi:i≠0)(hn:n≤9000:=by decide):i.natAbs.log2<9000:=by
 have:=(Nat.log2_lt (by omega:i.natAbs≠0)).mpr h
 omega
theorem Sz.fd {n:Nat}{i:Int}(h:Sz n i)(hi:0<i)(hn:n≤9000:=by decide):0<i∧i.natAbs.log2<9000:=⟨hi,h.log (by omega) hn⟩
theorem zhk {a b:Int}(hb:0<b):0≤a%b∧a%b<b:=⟨Int.emod_nonneg _ (by omega),Int.emod_lt_of_pos _ hb⟩
theorem p40:((10:Int)^(40:Int).toNat)=10^40:=rfl
theorem p41:((10:Int)^(41:Int).toNat)=10^41:=rfl
theorem p20:((10:Int)^(20:Int).toNat)=10^20:=rfl
example (x:Int):-(10^40)≤x%(2*10^40+1)-10^40:=by omega
example (x:Int):x%(2*10^40+1)-10^40≤10^40:=by omega
example (x:Int) (h:-(10^40)≤x) (h2:x≤2*10^41):Sz 140 x:=Sz.of (2*10^41) (by omega)
end L3
namespace L3
open PySem PySem.Spec PyProof.Rows L2
section
variable {X:Cx}{Z:Zx}
def wIf (C:Int→Int→Bool)(g:Int→Int→D):W2:=λx y S Q=>match x,y with
 | .int i,.int j=>if C i j=true then Q (g i j) S else False
 | _,_=>False
theorem opIf {f:Value→Value→Sem Value}{C:Int→Int→Prop}{C':Int→Int→Bool}{g:Int→Int→D}(h:OpR X f (upO X.K Z (wI C g)))(hc:∀i j,C' i j=true→C i j):OpR X f (upO X.K Z (wIf C' g)):=
 zec h λx y H Qv ⟨r,S,dx,dy,Q,rel,px,py,q,ret⟩=>⟨r,S,dx,dy,Q,rel,px,py,by
  unfold wIf at q
  split at q
  ·obtain⟨h1,h2⟩:=ze2 q
   exact⟨hc _ _ h1,h2⟩
  ·exact q.elim,ret⟩
def zdZ (_ j:Int):Bool:=decide (0<j)&&decide (j<1073741824)
abbrev zi5:W2:=wIf zdZ λi j=>.int (i/j)
abbrev wModL:W2:=wIf zdZ λi j=>.int (i%j)
def powB (i j:Int):Bool:=decide (0≤j)&&decide (j≤1000)&&decide (-1000<i)&&decide (i<1000)
abbrev wPowL:W2:=wIf powB λi j=>.int (i^j.toNat)
theorem zgN {i j:Int}(h:zdZ i j=true):0<j∧j<1073741824:=by
 unfold zdZ at h
 simpa using h
theorem zgR:OpR X (binaryOp .FloorDiv) (upO X.K Z zi5):=opIf zkw λi j h=>by
 obtain⟨h1,h2⟩:=zgN h
 refine⟨h1,?_⟩
 have:j.natAbs.log2<30:=(Nat.log2_lt (by omega)).mpr (by omega)
 omega
theorem zfc:OpR X (binaryOp .Mod) (upO X.K Z wModL):=opIf zfo λi j h=>(zgN h).1
theorem zgV:OpR X (binaryOp .Pow) (upO X.K Z wPowL):=opIf zlm λi j h=>by
 unfold powB at h
 simp at h
 refine⟨h.1.1.1,by have:=h.1.1.2; omega,?_⟩
 have h3:=h.1.2
 have h4:=h.2
 have big:(18446744073709551616:Nat)=2^64:=by decide
 omega
structure Df (K:PySem.W.Frag)(mg:Str→Option Value)(x:Str)(st:Stmt)(ps:List Str) where
 f:Addr
 fd:FuncData
 F:Fun K x x st f fd
 m:mg x=some (.ref f)
 b:zbS K fd ps []
structure Fk (P:Program)(w:World)(K:PySem.W.Frag)(mg:Str→Option Value)(base:Heap)(k:Nat)(x:Str)(ps:List Str)(sd:Sd) where
 f:Addr
 fd:FuncData
 ok:zaW P w K mg base (CXE P w) k f fd ps (upF K sd)
 m:mg x=some (.ref f)
 kp:PySem.W.keepIn K (.ref f)=true
 b:zbS K fd ps []
def Df.mk' {P:Program}{w:World}{K:PySem.W.Frag}{mg:Str→Option Value}{base:Heap}{k:Nat}{x:Str}{st:Stmt}{ps:List Str}{sd:Sd}(d:Df K mg x st ps)(h:zaW P w K mg base (CXE P w) k d.f d.fd ps (upF K sd)):Fk P w K mg base k x ps sd:=
 ⟨d.f,d.fd,h,d.m,d.F.kp,d.b⟩
theorem zc6 {x:Str}{p pos:Pos}{e:Expr}{es:List Expr}{t:TDA}{k:Nat}{ps:List Str}{sd:Sd}{ex:Ev→Addr→Sto→Prop}{W:St→XK}(G:Fk X.prog X.w X.K X.mg X.base k x ps sd)(hr:zaC k X.A)(hx:zd6 X W)(hg:Gl X x)(ha:PDA X ⟨ex,W⟩ (e::es) t)
  (hdb:(x==("__debug__":Str))=false:=by decide)(he:starEach (e::es) X.env=(false,eval e X.env)::starEach es X.env:=by rfl)(hpl:(backTo pos (starEach es X.env)).any (·.1)=false:=by rfl):
  PD X ⟨ex,W⟩ (.Call (.Name x p) (e::es) [] pos) (zfG ex sd t):=zlM G.ok hr hg G.m G.kp G.b hx ha hdb he hpl
end
def zc8:Sd:=λds S Q _=>∃ns:List Int,ds=[.ref 0]∧S=[.frz (ns.map D.int)]∧ns.length≤63∧∀S',Q (.bl true) S'
theorem zj7:∀ds S Q ex,zc8 ds S Q ex→ds.length=1:=λds S Q ex h=>by
 obtain⟨ns,rfl,_⟩:=h
 rfl
theorem ziR {K:PySem.W.Frag}{H:Hp}{a:Addr}{xs:List V}(hO:zdF H)(h:SqL K H a xs):SqF K H a xs:=by
 rcases h with (h | ⟨o,h⟩) | h
 ·rcases hO a with z | ⟨o,ys,z⟩
  ·rw[h] at z; cases z
  ·rw[h] at z; cases z
 ·exact .inl ⟨o,h⟩
 ·exact .inr h
theorem zhy {r:List Addr}{H:Hp}(ns:List Int):Rps r H (ns.map D.int) (ns.map V.int):=by
 refine⟨by simp,λi d v h1 h2=>?_⟩
 rw[Vae] at h1 h2
 cases q:ns[i]? with
 | none=>rw[q] at h1; cases h1
 | some z=>
  rw[q] at h1 h2
  cases h1
  cases h2
  exact .int z
theorem zlY {K:PySem.W.Frag}{H:Hp}{a:Addr}{ns:List Int}(hl:ns.length≤63)(hO:zdF H)(hS:SqL K H a (ns.map V.int)):upF K zc8 [.ref a] H (λv _=>v=.bl true) λ_ _ _=>False:=by
 refine⟨λ_ _=>False,[a],[.frz (ns.map D.int)],[.ref 0],λd _=>d=.bl true,⟨⟨rfl,λn b o h1 h2=>?_,λn m b xs ys h1 h2 h3 h4 o1 o2=>?_⟩,λ_ _ _ _ _ _ _ _ _ z=>z.elim⟩,Rps.cons (.ref rfl) Rps.nil,⟨ns,rfl,rfl,hl,λ_=>rfl⟩,λv H' r' d S' e rel p q=>?_⟩
 ·cases n with
  | zero=>
   simp at h1 h2
   subst h1; subst h2
   exact⟨_,ziR hO hS,zhy ns⟩
  | succ n=>simp at h1
 ·cases n with
  | zero=>
   simp at h3
   subst h3
   cases o1
  | succ n=>simp at h1
 ·subst q
  cases p
  rfl
theorem zk4 {l:PySem.W.OpenLaw}{q:Program}{loose:List Str}{XP:(Str→Option Value)→Heap→Prop}{YP:World→Heap→Prop}{d:DefRec}{K:Params→PySem.W.Frag}{x:Str}(k:Nat)(hn:l.most=some 63)(hdf:d.params.defaults=[])(hr:zaC k callerA)
  (hY:∀(w:World) (h:Heap),YP w h→(K w.params).In h)
  (F:∀(w:World) (mg:Str→Option Value) (fa:Addr) (h:Heap),(K w.params).In h→h.Ns mainGlobals mg→mg d.name=some (.ref fa)→
   ∃fd:FuncData,(∀(s:Shared) (u:Value),BindsTo s fd ⟨[u],[]⟩ [(x,u)])∧∀base:Heap,(K w.params).In base→base.Ns mainGlobals mg→zaW l.prog w (K w.params) mg base (CXE l.prog w) k fa fd [x] (upF (K w.params) zc8)):
  PySem.W.WalkO q loose XP YP l.row.toRowW d [] (λf vs=>PySem.call f vs):=
 L2.zkb (n:=63) (k:=k) (x:=x) (CX:=λw=>CXE l.prog w) (sp:=λw=>upF (K w.params) zc8) hn (by decide) hdf hr hY F (λ_ _ a ns hl hO hS=>zlY hl hO hS) λ_ _ _ _ _ ⟨_,_,_,_,_,_,_,_,_,_,_,_,z⟩=>z
theorem zhH (K:PySem.W.Frag)(T:String)(h:T∈["int","bool","tuple","str"]):Kit K T:=by
 intro t ht
 simp only[Vai,Va3,or_false] at h ht
 rcases h with rfl | rfl | rfl | rfl <;> rcases ht with rfl | rfl | rfl | rfl | rfl <;> kernel_rfl
theorem ifP {c A B:Prop} [Decidable c] (h:c)(a:A):if c then A else B:=by rw[if_pos h]; exact a
theorem ifD {c:Prop} [Decidable c] {A B:Prop}(h1:c→A)(h2:¬ c→B):if decide c=true then A else B:=by
 by_cases h:c
 ·rw[decide_eq_true h]; exact zba (h1 h)
 ·rw[decide_eq_false h]; exact zam (h2 h)
open PySem L2
open PySem L2
end L3
namespace L3
open PySem PySem.Spec PyProof.Rows L2
section
variable {X:Cx}{Z:Zx}
abbrev Cx.held (X:Cx)(pins:List (Addr×Obj))(E:Value→Shared→Prop):Cx:={ X with pn:=X.pn++pins,xe:=E }
end
structure zcW (k:Nat)(A:Around):Prop where
 dp:A.depth+3*k+5<recursionLimit
 un:A.units+16*k+200<cLine
theorem zcW.mono {j k:Nat}{A:Around}(r:zcW k A)(h:j≤k):zcW j A:=⟨by have:=r.dp; omega,by have:=r.un; omega⟩
theorem zcW.deeper {k:Nat}{A:Around}(r:zcW (k+1) A)(env:Env):zcW k (A.deeper env):=
 ⟨by have:=r.dp; show A.depth+1+3*k+5<_; omega,by have:=r.un; show A.units+3+16*k+200<_; omega⟩
structure FnOkN (P:Program)(w:World)(K:PySem.W.Frag)(mg:Str→Option Value)(base:Heap)(k:Nat)(f:Addr)(fd:FuncData)(ps:List Str)(sp:Sp):Prop where
 len:∀vs H Q E,sp vs H Q E→vs.length=ps.length
 run:∀(A:Around) (outer:List Env) (s:Shared) (H:Hp) (args:Args) (us:List Value) (vs:List V) (Q:VK) (E:XK),zcW k A→zcv P w K mg base A outer s H→BindsTo s fd args (ps.zip us)→zaf vs us→sp vs H Q E→
  codeAny (model P w) A (.call (.ref f) args) (CR (CXE P w) outer P w H s Q E) s
section
variable {X:Cx}{k:Nat}{f:Addr}{fd:FuncData}{ps:List Str}{sp:Sp}{W:St→XK}{x:Str}{p pos:Pos}{e:Expr}{es:List Expr}{t:TA}
end
section
variable {X:Cx}{Z:Zx}{x:Str}{p pos:Pos}{e:Expr}{es:List Expr}{t:TDA}
end
section
variable {P:Program}{w:World}{K:PySem.W.Frag}{mg:Str→Option Value}{base:Heap}
end
structure FkN (P:Program)(w:World)(K:PySem.W.Frag)(mg:Str→Option Value)(base:Heap)(k:Nat)(x:Str)(ps:List Str)(sd:Sd) where
 f:Addr
 fd:FuncData
 ok:FnOkN P w K mg base k f fd ps (upF K sd)
 m:mg x=some (.ref f)
 kp:PySem.W.keepIn K (.ref f)=true
 b:zbS K fd ps []
section
variable {X:Cx}{Z:Zx}
theorem zhY {r:List Addr}{H:Hp}{a:Addr}{o:HO}(h:H a=none):Ext r r H (upd H a o):=⟨λ_ _ q=>q,λ_ _ q=>zch h _ _ q,λ_ _ q=>zch h _ _ q⟩
open PySem.W in
end
abbrev VE:List Value:=[.type "ValueError",.type "Exception",.type "BaseException",.type "object"]
structure Ec (K:PySem.W.Frag)(mg:Str→Option Value)(x:Str) where
 c:Addr
 xc:Xc K mg x c VE "ValueError.__new__"
end L3
namespace L3
open PySem PySem.Spec PyProof.Rows L2
inductive Sco (n:Nat):D→Prop
 | non:Sco n .non
 | bl (b:Bool):Sco n (.bl b)
 | int (i:Int):Sco n (.int i)
 | str (x:Str):Sco n (.str x)
 | tup {ds:List D}:(∀d∈ds,Sco n d)→Sco n (.tup ds)
 | ref {m:Nat}:m<n→Sco n (.ref m)
 | exc (c:Addr):Sco n (.exc c)
theorem Rp.sco {r:List Addr}{H:Hp}{d:D}{v:V}(h:Rp r H d v):Sco r.length d:=by
 induction h with
 | non=>exact .non
 | bl b=>exact .bl b
 | int i=>exact .int i
 | str x=>exact .str x
 | @tup ds xs a _ l _ ih=>
  refine .tup λd hd=>?_
  obtain⟨i,hi,e⟩:=VaZ.mp hd
  exact ih i d xs[i] (by simp[hi,e]) (by simp[l ▸ hi])
 | ref h=>exact .ref (Vad.mp h).1
 | exc _=>exact .exc _
theorem Rp.low {r r':List Addr}{H:Hp}{d:D}{v:V}(h:Rp r' H d v)(low:∀m a,m<r.length→r'[m]?=some a→r[m]?=some a)(s:Sco r.length d):Rp r H d v:=by
 induction h with
 | non=>exact .non
 | bl b=>exact .bl b
 | int i=>exact .int i
 | str x=>exact .str x
 | tup e l f ih=>
  cases s with
  | tup s=>exact .tup e l λi d v h1 h2=>ih i d v h1 h2 (s d (Vam h1))
 | ref h=>
  cases s with
  | ref s=>exact .ref (low _ _ s h)
 | exc h=>exact .exc h
def Pre (S S':Sto):Prop:=∀(n:Nat) (o:Ob),S[n]?=some o→S'[n]?=some o
theorem Pre.refl {S:Sto}:Pre S S:=λ_ _ h=>h
theorem Pre.push {S S':Sto}{o:Ob}(h:Pre S S'):Pre S (S'++[o]):=λn u e=>by
 have z:=h n u e
 rw[Vao (Vad.mp z).1]; exact z
theorem Pre.trans {S S' S2:Sto}(h:Pre S S')(k:Pre S' S2):Pre S S2:=λn o e=>k n o (h n o e)
theorem zg1 {r r':List Addr}{H H':Hp}(e:Ext r r' H H'):∀m a,m<r.length→r'[m]?=some a→r[m]?=some a:=λm a hm h=>by
 have z:r[m]?=some r[m]:=by simp[hm]
 rw[e.adr _ _ z] at h
 rw[z]; exact h
theorem zax.low {K:PySem.W.Frag}{r r':List Addr}{S S':Sto}{H H':Hp}(h:zax K r S H)(e:Ext r r' H H')(h':zax K r' S' H')(p:Pre S S'):zax K r S H':=by
 have rl:∀ {ds:List D} {xs ys:List V},Rps r H ds xs→Rps r' H' ds ys→Rps r H' ds ys:=λ{ds xs ys} a b=>⟨b.1,λi d v h1 h2=>by
  obtain⟨v0,_,q⟩:=a.get h1
  exact(b.2 i d v h1 h2).low (zg1 e) q.sco⟩
 refine⟨h.len,λn a o h1 h2=>?_,λn m a xs ys h1 h2 h3 h4 o1 o2=>h'.nd n m a xs ys (e.adr _ _ h1) (e.adr _ _ h2) (p _ _ h3) (p _ _ h4) o1 o2⟩
 have q:=h.ob n a o h1 h2
 have q':=h'.ob n a o (e.adr _ _ h1) (p _ _ h2)
 cases o with
 | lst ds=>
  obtain⟨xs,_,a1⟩:=q
  obtain⟨ys,b0,b1⟩:=q'
  exact⟨ys,b0,rl a1 b1⟩
 | frz ds=>
  obtain⟨xs,_,a1⟩:=q
  obtain⟨ys,b0,b1⟩:=q'
  exact⟨ys,b0,rl a1 b1⟩
 | ins C fs=>
  obtain⟨_,_,_,a1⟩:=q
  obtain⟨dx,fs',b0,b1⟩:=q'
  exact⟨dx,fs',b0,b1.1,rl a1.2 b1.2⟩
 | dct kvs=>
  obtain⟨_,_,a1⟩:=q
  obtain⟨ks,b0,b1⟩:=q'
  exact⟨ks,b0,b1.1,rl a1.2 b1.2⟩
def Gc (S:Sto)(Q:DK):DK:=λd S'=>Pre S S'∧Sco S.length d∧Q d S
def GcX (S:Sto)(ex:Addr→Sto→Prop):Addr→Sto→Prop:=λc S'=>Pre S S'∧ex c S
theorem Ret.gc {K:PySem.W.Frag}{Z Z':Zx}{r:List Addr}{S:Sto}{H:Hp}{Q:DK}{Qv:VK}(h:Ret K Z r H Q Qv)(rel:Rel K Z r S H):Ret K Z' r H (Gc S Q) Qv:=λv H' r' d S' e rel' p q=>by
 obtain⟨pre,sc,q⟩:=q
 have e':Ext r r H H':=⟨λ_ _ z=>z,e.tup,e.xc⟩
 rw[← rel.len] at sc
 exact h v H' r d S e' ⟨rel.b.low e rel'.b pre,rel.xw.ext e'⟩ (p.low (zg1 e) sc) q
theorem zcS.gc {K:PySem.W.Frag}{ex:Addr→Sto→Prop}{E:XK}{r:List Addr}{S:Sto}{H:Hp}(rel:Rel K (Zc ex E) r S H):zcS K (Zc (GcX S ex) E) r H:=λdl σ c H' r' S' e _ rb q=>by
 obtain⟨pre,q⟩:=q
 have e':Ext r r H H':=⟨λ_ _ z=>z,e.tup,e.xc⟩
 exact rel.xw [] [] c H' r S e' ⟨rfl,λi d z=>by simp at z⟩ (rel.b.low e rb pre) q
section
variable {P:Program}{w:World}{K:PySem.W.Frag}{mg:Str→Option Value}{base:Heap}
def gcS (sd:Sd):Sd:=λds S Q ex=>∃Q0 ex0,Q=Gc S Q0∧ex=GcX S ex0∧sd ds S Q0 ex0
theorem zg5 {CX:CXT}{k:Nat}{f:Addr}{fd:FuncData}{ps:List Str}{sd:Sd}(h:zaW P w K mg base CX k f fd ps (upF K (gcS sd))):zaW P w K mg base CX k f fd ps (upF K sd):=by
 have imp:∀vs H Q E,upF K sd vs H Q E→upF K (gcS sd) vs H Q E:=λvs H Qv E ⟨ex,r,S,ds,Q,rel,p,q,ret⟩=>
  ⟨GcX S ex,r,S,ds,Gc S Q,⟨rel.b,zcS.gc rel⟩,p,⟨Q,ex,rfl,rfl,q⟩,ret.gc rel⟩
 obtain⟨h1,h2⟩:=h
 exact⟨λvs H Q E q=>h1 vs H Q E (imp vs H Q E q),λA outer s H args us vs Q E hr e0 hb rv q=>h2 A outer s H args us vs Q E hr e0 hb rv (imp vs H Q E q)⟩
end
theorem zhF {sd:Sd}{n:Nat}(len:∀ds S Q ex,sd ds S Q ex→ds.length=n):∀ds S Q ex,gcS sd ds S Q ex→ds.length=n:=λds S Q ex h=>by
 obtain⟨Q0,ex0,_,_,h⟩:=h
 exact len _ _ _ _ h
structure zb4 (sc around:Scope)(x:Str)(caps:List Str):Prop where
 kind:sc.kind=.function
 nocell:∀y∈sc.names,y.2≠.cell
 own:∀y∈sc.names,y.2=.local→sc.names.lookup y.1=some .local
 loc:sc.names.lookup x=some .local
 cap:∀y∈caps,sc.names.lookup y=some .free
 out:∀y∈sc.names,y.2=.free→around.names.lookup y.1=some .cell
theorem zdW {α:Type}{y:Str}{v:α}:∀ {l:List (Str×α)},l.lookup y=some v→(y,v)∈l
 | [],h=>by simp at h
 | (n,k)::r,h=>by
  cases e:y==n with
  | true=>
   rw[Val,e] at h
   have z:k=v:=Option.some.inj h
   have z2:y=n:=by simpa using e
   rw[z,z2]; exact VaV
  | false=>
   rw[Val,e] at h
   exact VaB _ (zdW h)
theorem zfW {env:Env}:∀(l:List (Str×NameKind)) (acc:List (Str×Addr)),(∀y∈l,y.2=.free→∃c,env.cells.lookup y.1=some c)→(∀x c,acc.lookup x=some c→env.cells.lookup x=some c)→
  ∃cl,(forIn l acc λx r=>(if (x.2==NameKind.free)=true then do let a ← cellOf env x.1; pure (ForInStep.yield ((x.1,a)::r)) else pure (ForInStep.yield r):Sem (ForInStep (List (Str×Addr)))))=pure cl∧
   (∀x c,cl.lookup x=some c→env.cells.lookup x=some c)∧(∀y∈l,y.2=.free→cl.lookup y.1=env.cells.lookup y.1)∧∀x c,acc.lookup x=some c→∃c',cl.lookup x=some c'
 | [],acc,_,ha=>⟨acc,by simp,ha,λy hy=>(by cases hy),λx c e=>⟨c,e⟩⟩
 | (n,k)::r,acc,h,ha=>by
  cases hk:(k==NameKind.free) with
  | false=>
   obtain⟨cl,h1,h2,h3,h4⟩:=zfW r acc (λy hy=>h y (VaB _ hy)) ha
   refine⟨cl,?_,h2,λy hy hf=>?_,h4⟩
   ·rw[List.forIn_cons]; simp[hk]; simpa using h1
   ·have hy':=Vai.mp hy
    rcases hy' with rfl | hy
    ·rw[show k=NameKind.free from hf] at hk; exact absurd hk (by decide)
    ·exact h3 y hy hf
  | true=>
   have hf:k=NameKind.free:=by simpa using hk
   obtain⟨c,hc⟩:=h (n,k) VaV hf
   obtain⟨cl,h1,h2,h3,h4⟩:=zfW r ((n,c)::acc) (λy hy=>h y (VaB _ hy)) (λx c' e=>by
    cases q:x==n with
    | true=>
     rw[Val,q] at e
     have z:x=n:=by simpa using q
     rw[z,hc]; exact e
    | false=>
     rw[Val,q] at e
     exact ha x c' e)
   refine⟨cl,?_,h2,λy hy hf=>?_,λx c' e=>?_⟩
   ·have ec:cellOf env n=pure c:=by unfold cellOf; rw[hc]
    rw[List.forIn_cons]; simp[hk,ec]; simpa using h1
   ·have hy':=Vai.mp hy
    rcases hy' with rfl | hy
    ·obtain⟨c',e⟩:=h4 n c (by simp)
     rw[e]; exact(h2 _ _ e).symm
    ·exact h3 y hy hf
   ·refine h4 x (if x==n then c else c') ?_
    cases q:x==n with
    | true=>simp[Val,q]
    | false=>simp[Val,q,e]
theorem zix {sc:Scope}{env:Env}(h:∀y∈sc.names,y.2=.free→∃c,env.cells.lookup y.1=some c):
  ∃cl,closureFor sc env=pure cl∧(∀x c,cl.lookup x=some c→env.cells.lookup x=some c)∧∀y∈sc.names,y.2=.free→cl.lookup y.1=env.cells.lookup y.1:=by
 obtain⟨cl,h1,h2,h3,_⟩:=zfW sc.names [] h (λx c e=>by simp at e)
 refine⟨cl,?_,h2,h3⟩
 unfold closureFor
 simp only[bind_pure]
 exact h1
theorem zgp {env:Env}:∀ {names:List (Str×NameKind)} {x:Str},names.lookup x=some .free→
  (names.map λ(n,k)=>if (k==NameKind.free&&env.scope.kind==.function&&env.kindOf n==some .cell) then (n,NameKind.cell) else (n,k)).lookup x=some .cell∨
  (names.map λ(n,k)=>if (k==NameKind.free&&env.scope.kind==.function&&env.kindOf n==some .cell) then (n,NameKind.cell) else (n,k)).lookup x=some .free
 | [],_,h=>by simp at h
 | (n,k)::r,x,h=>by
  have ih:=@zgp env r x
  rw[Vak]
  cases hx:x==n with
  | true=>
   rw[Val,hx] at h
   have hk:k=.free:=Option.some.inj h
   subst hk
   dsimp only
   split
   ·left; simp[Val,hx]
   ·right; simp[Val,hx]
  | false=>
   rw[Val,hx] at h
   dsimp only
   split
   ·simp only[Val,hx]; exact ih h
   ·simp only[Val,hx]; exact ih h
theorem zf2 {env:Env}:∀ {names:List (Str×NameKind)} {x:Str},(∀y∈names,y.2≠.cell)→
  ((names.map λ(n,k)=>if (k==NameKind.free&&env.scope.kind==.function&&env.kindOf n==some .cell) then (n,NameKind.cell) else (n,k)).lookup x=some .cell∨
  (names.map λ(n,k)=>if (k==NameKind.free&&env.scope.kind==.function&&env.kindOf n==some .cell) then (n,NameKind.cell) else (n,k)).lookup x=some .free)→names.lookup x=some .free
 | [],_,_,h=>by simp at h
 | (n,k)::r,x,hc,h=>by
  have ih:=@zf2 env r x λy hy=>hc y (VaB _ hy)
  rw[Vak] at h
  cases hx:x==n with
  | true=>
   rw[Val,hx]
   dsimp only at h
   split at h
   ·rename_i q
    simp only[Bool.and_eq_true] at q
    have hk:k=.free:=by simpa using q.1.1
    rw[hk]
   ·simp only[Val,hx] at h
    rcases h with h | h
    ·exact absurd (Option.some.inj h) (hc (n,k) VaV)
    ·exact h
  | false=>
   rw[Val,hx]
   dsimp only at h
   split at h
   ·simp only[Val,hx] at h; exact ih h
   ·simp only[Val,hx] at h; exact ih h
abbrev Cx.comp (X:Cx)(sc:Scope)(N:List Str)(cl:List (Str×Addr))(C:Addr)(s0:Shared)(H0:Hp)(fp:List Addr)(pn:List (Addr×Obj)):Cx:=
 { X with N:=N,env:=compEnvC sc cl C X.env,s₀:=s0,H₀:=H0,outer:=X.stack,stack:=X.stack,ex:=fp,fn:=λ_=>false,pn:=pn,xe:=λ_ _=>False }
def zaN (caps:List Nat)(σ:St):St:=caps.map λj=>(σ[j]?).join
def zbs (caps:List Nat)(dl:Ev):Ev:=caps.map λj=>(dl[j]?).join
def zey (caps:List Nat)(wi:TI)(tc:TT)(te:TE):TE:=λσ H Q=>wi σ H λJ H1=>∀D,H1 D=none→∃W:Nat→Nat→Hp→Prop,(∃m,W 0 m (upd H1 D (.lst [])))∧∀i m H,W i m H→
 (J.stop i H∧Q (.ref D) H)∨(J.go i H∧∀x H',J.yld i H x H'→tc (some x::zaN caps σ) H' λb H2=>if b=true then te (some x::zaN caps σ) H2 λy H3=>∃ys,H3 D=some (.lst ys)∧ys.length<sizeLine∧∃m',m'<m∧W (i+1) m' (upd H3 D (.lst (ys++[y])))
  else ∃m',m'<m∧W (i+1) m' H2)
def PTs (Y:Cx)(ifs:List Expr)(tc:TT):Prop:=∀(pins:List (Addr×Obj)) (s:Shared) (σ:St) (H:Hp) (Q:Bool→Hp→Prop),Inv Y pins σ H s→tc σ H Q→
 wpAny (model Y.prog Y.w) Y.A (forIn ifs true λc r=>if r=true then do let ok ← isTrue c Y.env (eval c Y.env); pure (ForInStep.yield ok) else pure (ForInStep.yield r)) (TP Y pins σ Q) Y.xe s
theorem zi9 {Y:Cx}:PTs Y [] (λ_ H Q=>Q true H):=λ_ _ _ H _ I h=>wpAny_tests_nil ⟨H,I,h⟩
theorem zjs {Y:Cx}{c:Expr}{tc:TT}(h:PT Y c tc):PTs Y [c] tc:=λpins s σ H Q I q=>wpAny_tests_one (h pins s σ H Q I q)
section
variable {X:Cx}{pins:List (Addr×Obj)}{σ:St}{H:Hp}{s:Shared}
theorem zlT {sc:Scope}{x:Str}{N:List Str}{caps:List Nat}{cl:List (Str×Addr)}{fp:List Addr}{h1:Heap}{m:Str→Option Value}{tk:Nat}(I:Inv X pins σ H s)(cs:zb4 sc X.env.scope x N)
  (hN:∀(j:Nat) (y:Str),N[j]?=some y→∃i,caps[j]?=some i∧X.N[i]?=some y)(hlen:caps.length=N.length)
  (c1:∀x c,cl.lookup x=some c→X.env.cells.lookup x=some c)(c2:∀y∈sc.names,y.2=.free→cl.lookup y.1=X.env.cells.lookup y.1)
  (hf:∀b∈fp,zbe X pins H b)(hfo:∀b∈fp,b<s.heap.objs.size)(hns:h1.Ns s.heap.objs.size m)(hk:∀b o,s.heap.get? b=some o→h1.get? b=some o):
  Inv (Cx.comp X sc (x::N) cl s.heap.objs.size s H fp (X.pn++pins)) [] (none::zaN caps σ) H { s with heap:=h1,toks:=tk }:=by
 have stk:∀b∈frs X.stack,b=X.env.locals∨b∈X.fs:=λb hb=>Vai.mp (I.stkSub b hb)
 refine⟨⟨I.ok.mod,cs.kind,I.ok.glob,I.ok.blt,Vaa _,λa b c h1 h2=>I.ok.inj a b c (c1 _ _ h1) (c1 _ _ h2),λy hy=>?_,λ_ _ z=>Bool.noConfusion z,I.ok.hd,I.ok.frames,.inl rfl,λb hb=>⟨Vah (hfo b hb),λy c e=>(hf b hb).2.2.2.2.1 y c (c1 _ _ e)⟩,
  I.bs,Vau I.ok.bsz I.sz,λb o e hb=>?_,λb hb z=>?_,I.stack,I.stkFree⟩,rfl,I.bare,Un.kept hk,⟨m,hns,λi y v e1 e2 e3=>?_⟩,λy c e=>?_,I.hok.fresh (Vaa _),λy c e=>I.freeC y c (c1 _ _ e),λp hp=>?_,I.hok.kept hk,?_⟩
 ·have hfr:sc.names.lookup y=some .free:=zf2 cs.nocell hy
  have hm:=zdW hfr
  obtain⟨c,e⟩:=I.ok.has y (.inl (cs.out _ hm rfl))
  exact⟨c,(c2 _ hm rfl).trans e⟩
 ·rcases (hf b hb).2.2.2.1 with z | z
  ·exact I.ok.noex b o e z
  ·exact absurd (Var (Heap.lt_size (I.ok.bs b o e).1) z) (Vay _)
 ·rcases stk b z with z | z
  ·exact(hf b hb).2.1 z
  ·exact(hf b hb).2.2.1 z
 ·cases i with
  | zero=>simp at e2
  | succ i=>
   have e1':N[i]?=some y:=by simpa using e1
   obtain⟨j,hj,hy⟩:=hN i y e1'
   have e2':σ[j]?=some (some v):=by
    simp only[List.getElem?_cons_succ,zaN,Vae,hj,Option.map_some,Option.some.injEq] at e2
    cases q:σ[j]? with
    | none=>rw[q] at e2; cases e2
    | some o=>rw[q] at e2; simp at e2; rw[e2]
   have hfr:sc.names.lookup y=some .free:=cs.cap y (Vam e1')
   have hm:=zdW hfr
   have hce:X.env.scope.names.lookup y=some .cell:=cs.out _ hm rfl
   obtain⟨m0,_,hl⟩:=I.loc
   obtain⟨u,r,l⟩:=hl j y v hy e2' (.inr (.inl hce))
   refine⟨u,r,.inr ⟨zgp hfr,?_⟩⟩
   rcases l with ⟨k,_⟩ | ⟨_,c,ec,hcell⟩
   ·rw[show X.env.kindOf y=some .cell from hce] at k; cases k
   ·exact⟨c,(c2 _ hm rfl).trans ec,hcell.keeps hk⟩
 ·obtain⟨v,z⟩:=I.cell y c (c1 _ _ e)
  exact⟨v,z.keeps hk⟩
 ·have hp':p∈X.pn++pins:=by simpa using hp
  obtain⟨p1,p2,p3,p4,p5⟩:=I.pin p hp'
  refine⟨hk _ _ p1,p2,Vah (Heap.lt_size p1),λz=>?_,p5⟩
  rcases stk _ z with z | z
  ·exact p3 z
  ·exact p4 z
 ·simp[zaN,hlen]
end
section
variable {X:Cx}{elt iter:Expr}{x:Str}{px pos:Pos}{ifs:List Expr}{sc:Scope}{N:List Str}{caps:List Nat}{wi:TI}{tc:TT}{te:TE}
structure zhR (X:Cx)(pins:List (Addr×Obj))(σ:St)(C:Addr)(Q:VK)(D:Addr)(s':Shared):Prop where
 q:∃H',Inv X pins σ H' s'∧Q (.ref D) H'∧H' C=none
 ns:∃m,s'.heap.Ns C m
 loc:C≠X.env.locals
 old:X.s₀.heap.objs.size≤C
 cell:∀x c,X.env.cells.lookup x=some c→c≠C
 pin:∀p∈X.pn++pins,p.1≠C
theorem zgX {use:Option (Value→Sem Unit)}{Qr:Value→Shared→Prop}(hc:X.calm=true)(cs:zb4 sc X.env.scope x N)(hN:∀(j:Nat) (y:Str),N[j]?=some y→∃i,caps[j]?=some i∧X.N[i]?=some y)(hlen:caps.length=N.length)(hnd:(x::N).Nodup)
  (hi:PI X (.Name x px) iter wi)(ht:∀cl C s0 H0 fp pn,PTs (Cx.comp X sc (x::N) cl C s0 H0 fp pn) ifs tc)(he:∀cl C s0 H0 fp pn,PE (Cx.comp X sc (x::N) cl C s0 H0 fp pn) elt te)
  (hs:∀y,foldedSetIterable iter X.env y=pure y)
  {pins:List (Addr×Obj)}{s:Shared}{σ:St}{H:Hp}{Q:VK}{p2:Pos}(I:Inv X pins σ H s)(h:zey caps wi tc te σ H Q)
  (fin:∀D C s',zhR X pins σ C Q D s'→compPost (model X.prog X.w) X.A X.xe use Qr (.ref D) C (.ok .next) s'):
  wpAny (model X.prog X.w) X.A (comprehension (.ListComp elt [⟨.Name x px,iter,ifs,0⟩] sc pos) sc X.env p2 (newList []) false (eval iter X.env) use) Qr X.xe s:=by
 obtain⟨cl,k1,k2,k3⟩:=zix (sc:=sc) (env:=X.env) λy hy hf=>I.ok.has y.1 (.inl (cs.out y hy hf))
 refine wpAny_comprehension_free rfl hs k1 cs.kind cs.own (thn (hi pins s σ H _ I h) λv s1 h1=>thn h1 λitv s2 h2=>?_)
 obtain⟨it,fp,tn,J,H2,e,I2,T,st2,f2,body⟩:=h2
 subst e
 have hfo:∀b∈fp,b<s2.heap.objs.size:=λb hb=>by
  obtain⟨o,e,_⟩:=T.obj _ _ st2 b hb
  exact Heap.lt_size e
 have hD:H2 s2.heap.objs.size=none:=I2.hok.fresh (Vaa _)
 obtain⟨W,⟨m0,w0⟩,turn⟩:=body _ hD
 refine wpAny_newObj_type ?_
 have I3:Inv X pins σ (upd H2 s2.heap.objs.size (.lst [])) { s2 with heap:=s2.heap.push { cls:=.type "list",dict:=none,data:=.seq ([]:List Value).toArray },toks:=s2.toks }:=
  I2.laid (t':=s2.toks) (λb u e=>Heap.get?_push_of_some _ e) (Vaa _) ⟨Vaj _,[],0,.nil,Heap.get?_push_size _ rfl⟩
 generalize hs3:({ s2 with heap:=s2.heap.push { cls:=.type "list",dict:=none,data:=.seq ([]:List Value).toArray },toks:=s2.toks }:Shared)=s3 at I3
 have es3:({ s2 with heap:=s2.heap.push { cls:=.type "list",dict:=none,data:=.seq ([]:List Value).toArray } }:Shared)=s3:=hs3
 try rw[es3]
 have f3:∀b∈fp,zbe X pins (upd H2 s2.heap.objs.size (.lst [])) b:=λb hb=>⟨by rw[zaK (Vah (hfo b hb))]; exact(f2 b hb).1,(f2 b hb).2⟩
 have up3:∀b o,s2.heap.get? b=some o→s3.heap.get? b=some o:=λb o e=>by rw[← hs3]; exact Heap.get?_push_of_some _ e
 have st3:tn 0 s3.heap:=T.keep _ _ _ st2 λb _ o e=>up3 b o e
 have hfo3:∀b∈fp,b<s3.heap.objs.size:=λb hb=>by
  obtain⟨o,e,_⟩:=T.obj _ _ st3 b hb
  exact Heap.lt_size e
 refine wpAny_newFunctionEnv cs.nocell (λy hy=>by simp at hy) (λh4 ns4 sb4=>?_) cs.kind
 have hk4:∀b o,s3.heap.get? b=some o→h4.get? b=some o:=λb o e=>(sb4.2 b (Vah (Heap.lt_size e))).trans (Heap.get?_push_of_some _ e)
 have I4:=zlT (tk:=s3.toks+([]:List (Str×Value)).length) I3 cs hN hlen k2 k3 f3 hfo3 ns4 hk4
 generalize hs4:({ s3 with heap:=h4,toks:=s3.toks+([]:List (Str×Value)).length }:Shared)=s4 at I4 ⊢
 have eh4:s4.heap=h4:=by rw[← hs4]
 have st4:tn 0 s4.heap:=by rw[eh4]; exact T.keep _ _ _ st3 λb _ o e=>hk4 b o e
 have fY:∀ {H':Hp},(∀b∈fp,H' b=none)→∀b∈fp,zbe (Cx.comp X sc (x::N) cl s3.heap.objs.size s3 (upd H2 s2.heap.objs.size (.lst [])) fp (X.pn++pins)) [] H' b:=λhn b hb=>by
  obtain⟨_,z2,z3,z4,z5,z6⟩:=f3 b hb
  refine⟨hn b hb,Vah (hfo3 b hb),λz=>?_,.inl hb,λy c e=>z5 y c (k2 _ _ e),λp hp=>z6 p (by simpa using hp)⟩
  rcases Vai.mp (I3.stkSub b z) with z | z
  ·exact z2 z
  ·exact z3 z
 have locY:(Cx.comp X sc (x::N) cl s3.heap.objs.size s3 (upd H2 s2.heap.objs.size (.lst [])) fp (X.pn++pins)).env.scope.names.lookup x=some .local:=lookup_relabel_local cs.loc
 have loop:codeAny (model X.prog X.w) X.A (.compLoop (.ListComp elt [⟨.Name x px,iter,ifs,0⟩] sc pos) 0 (.ref it) (.ref s2.heap.objs.size) (compEnvC sc cl s3.heap.objs.size X.env))
   (compPost (model X.prog X.w) X.A X.xe use Qr (.ref s2.heap.objs.size) s3.heap.objs.size) s4:=by
  refine codeAny_compLoop_tests (λn s'=>∃i o H',Inv (Cx.comp X sc (x::N) cl s3.heap.objs.size s3 (upd H2 s2.heap.objs.size (.lst [])) fp (X.pn++pins)) [] (o::zaN caps σ) H' s'∧tn i s'.heap∧(∀b∈fp,H' b=none)∧W i n H') ?_ m0
   ⟨0,none,_,I4,st4,λb hb=>(f3 b hb).1,w0⟩
  rintro n s5 ⟨i,o,H5,I5,st5,fr5,w5⟩
  rcases turn i n H5 w5 with ⟨stop,q⟩ | ⟨go,step⟩
  ·refine thn (T.done (Cx.comp X sc (x::N) cl s3.heap.objs.size s3 (upd H2 s2.heap.objs.size (.lst [])) fp (X.pn++pins)) rfl rfl rfl hc i [] s5 _ H5 _ I5 (fY fr5) st5 stop) λr s6 ⟨hr,I6⟩=>?_
   subst hr
   refine fin _ _ _ ⟨⟨H5,I3.call' I6.os I6.base I6.hok I6.bare (λb hb=>?_),q,I6.free⟩,?_,Nat.ne_of_gt I3.lt,I3.sz,λy c e z=>?_,λp hp z=>?_⟩
   ·obtain⟨_,z2,z3,z4,z5,z6⟩:=f3 b hb
    exact⟨z4,z2,z5,z6⟩
   ·obtain⟨m,hm,_⟩:=I6.loc
    exact⟨m,hm⟩
   ·obtain⟨v,hv⟩:=I3.cell y c e
    exact absurd (z ▸ hv.lt) (Vay _)
   ·exact absurd (z ▸ Heap.lt_size (I3.pin p hp).1) (Vay _)
  ·refine thn (T.item (Cx.comp X sc (x::N) cl s3.heap.objs.size s3 (upd H2 s2.heap.objs.size (.lst [])) fp (X.pn++pins)) rfl rfl rfl hc i [] s5 _ H5 _ I5 (fY fr5) st5 go) λr s6 ⟨u,hr,h6⟩=>?_
   subst hr
   show wpAny _ _ (letOwnedTupleGo (.Name x px) (.ref it) u >>= λ_=>assign (.Name x px) (compEnvC sc cl s3.heap.objs.size X.env) u) _ _ s6
   refine wpAny_bind (thn h6 λ_ s7 ⟨y,H7,I7,r7,y7,st7,fr7⟩=>?_)
   have I7':=I7.pinned (fY fr7) (T.obj _ _ st7)
   refine wpAny_mono (zfK (X:=Cx.comp X sc (x::N) cl s3.heap.objs.size s3 (upd H2 s2.heap.objs.size (.lst [])) fp (X.pn++pins)) (pos:=px) hnd (i:=0) rfl (.inl locY) (.inr locY) _ s7 _ H7 y u (λσ8 H8=>σ8=some y::zaN caps σ∧H8=H7) I7' r7 ⟨rfl,rfl⟩) (λ_ s8 ⟨σ8,H8,I8,e8,e8'⟩=>?_) λ_ _ z=>z.elim
   subst e8
   subst e8'
   have stay:∀ {H':Hp} {s':Shared},Inv (Cx.comp X sc (x::N) cl s3.heap.objs.size s3 (upd H2 s2.heap.objs.size (.lst [])) fp (X.pn++pins)) ([]++zc7 fp s7.heap) (some y::zaN caps σ) H' s'→∀m',m'<n→W (i+1) m' H'→
     ∃m,m<n∧∃i o H',Inv (Cx.comp X sc (x::N) cl s3.heap.objs.size s3 (upd H2 s2.heap.objs.size (.lst [])) fp (X.pn++pins)) [] (o::zaN caps σ) H' s'∧tn i s'.heap∧(∀b∈fp,H' b=none)∧W i m H':=λ{H' s'} J m' hm w'=>by
    refine⟨m',hm,i+1,some y,H',J.unpinned,T.keep _ _ _ st7 λb hb o e=>(J.pin (b,o) (Vaz _ (Vaz _ (zdh hb e)))).1,λb hb=>?_,w'⟩
    obtain⟨o,e,d⟩:=T.obj _ _ st7 b hb
    exact(J.pin (b,o) (Vaz _ (Vaz _ (zdh hb e)))).2.1
   refine wpAny_mono (ht _ _ _ _ _ _ _ s8 _ H8 _ I8 (step y H8 y7)) (λb s9 ⟨H9,I9,q9⟩=>?_) λ_ _ z=>z.elim
   cases b with
   | false=>
    rw[if_neg Van] at q9 ⊢
    obtain⟨m',hm,w9⟩:=q9
    exact stay I9 m' hm w9
   | true=>
    rw[if_pos rfl] at q9 ⊢
    refine wpAny_mono (he _ _ _ _ _ _ _ s9 _ H9 _ I9 q9) (λu2 s10 ⟨z,H10,I10,r10,q10⟩=>?_) λ_ _ z=>z.elim
    obtain⟨ys,hD10,hlt,m',hm,w10⟩:=q10
    refine wpAny_mono (zgr (X:=(Cx.comp X sc (x::N) cl s3.heap.objs.size s3 (upd H2 s2.heap.objs.size (.lst [])) fp (X.pn++pins))) _ s10 _ H10 (.ref s2.heap.objs.size) [z] (.ref s2.heap.objs.size) [u2] (λ_ H'=>H'=upd H10 s2.heap.objs.size (.lst (ys++[z]))) I10 rfl (.cons r10 .nil) ⟨_,ys,z,rfl,rfl,hD10,hlt,rfl⟩) (λ_ s11 ⟨_,H11,I11,_,e11⟩=>?_) λ_ _ z=>z.elim
    subst e11
    exact stay I11 m' hm w10
 exact codeAny_compStart_list loop (T.self _ 0 s4 _ _ st4 loop)
theorem zcJ {X:Cx}{caps:List Nat}{N:List Str}(h:caps.map (λi=>X.N[i]?)=N.map some):(∀(j:Nat) (y:Str),N[j]?=some y→∃i,caps[j]?=some i∧X.N[i]?=some y)∧caps.length=N.length:=by
 refine⟨λj y e=>?_,by simpa using congrArg List.length h⟩
 have z:(caps.map (λi=>X.N[i]?))[j]?=some (some y):=by rw[h,Vae,e]; rfl
 rw[Vae] at z
 cases q:caps[j]? with
 | none=>rw[q] at z; cases z
 | some i=>rw[q] at z; exact⟨i,rfl,by simpa using z⟩
theorem zho (hc:X.calm=true)(cs:zb4 sc X.env.scope x N)(hN:caps.map (λi=>X.N[i]?)=N.map some)(hnd:(x::N).Nodup)
  (hi:PI X (.Name x px) iter wi)(ht:∀cl C s0 H0 fp pn,PTs (Cx.comp X sc (x::N) cl C s0 H0 fp pn) ifs tc)(he:∀cl C s0 H0 fp pn,PE (Cx.comp X sc (x::N) cl C s0 H0 fp pn) elt te)
  (hs:∀y,foldedSetIterable iter X.env y=pure y:=by intro _; rfl):PE X (.ListComp elt [⟨.Name x px,iter,ifs,0⟩] sc pos) (zey caps wi tc te):=by
 intro pins s σ H Q I h
 rw[eval_ListComp]
 refine zgX (use:=none) hc cs (zcJ hN).1 (zcJ hN).2 hnd hi ht he hs I h λD C s' f=>?_
 obtain⟨⟨H',I',q,hC⟩,⟨m,ns⟩,l,o,c,p⟩:=f
 exact⟨m,ns,λh' sb=>⟨.ref D,H',I'.turned (t':=s'.toks) (λb ob hb e=>(sb.2 b hb).trans e) hC l (.inr o) c p,rfl,q⟩⟩
theorem zht {i:Nat}{y:Str}{py spos:Pos}(hc:X.calm=true)(cs:zb4 sc X.env.scope x N)(hN:caps.map (λi=>X.N[i]?)=N.map some)(hnd:(x::N).Nodup)
  (hi:PI X (.Name x px) iter wi)(ht:∀cl C s0 H0 fp pn,PTs (Cx.comp X sc (x::N) cl C s0 H0 fp pn) ifs tc)(he:∀cl C s0 H0 fp pn,PE (Cx.comp X sc (x::N) cl C s0 H0 fp pn) elt te)
  (hNd:X.N.Nodup)(hy:X.N[i]?=some y)(hl:X.env.scope.names.lookup y=some .local)
  (hsw:swapsWith (.ListComp elt [⟨.Name x px,iter,ifs,0⟩] sc pos) (some (.Name y py)) spos.line X.env=pure true)
  (hs:∀y,foldedSetIterable iter X.env y=pure y:=by intro _; rfl):PS X (.Assign [.Name y py] (.ListComp elt [⟨.Name x px,iter,ifs,0⟩] sc pos) spos) (λE σ H=>zey caps wi tc te σ H λv H1=>E.nx (σ.set i (some v)) H1):=by
 intro pins s σ H E I h
 rw[exec_Assign_Name_used (hs:=hsw)]
 refine wpAny_bind (wpAny_standAt ?_); refine wpAny_bind ?_; show wpAny _ _ (comprehension _ sc X.env _ (newList []) false (eval iter X.env) (some (assign (.Name y py) X.env)) >>= λ_=>pure ()) _ _ s
 refine wpAny_bind (thn (zgX (use:=some (assign (.Name y py) X.env)) (Qr:=λ_ s'=>SP X pins E .next s') hc cs (zcJ hN).1 (zcJ hN).2 hnd hi ht he hs I h λD C s' f=>?_) λ_ s' hq=>wpAny_pure (wpAny_pure hq))
 obtain⟨⟨H',I',q,hC⟩,⟨m,ns⟩,l,o,c,p⟩:=f
 refine wpAny_assign_Name (zgg (v:=.ref D) I' hNd hy (.inl hl) rfl (λs'' I'' ⟨a,sb,ha⟩=>⟨m,ns.sameBut sb ?_,λh' sb'=>⟨_,H',I''.turned (t':=s''.toks) (λb ob hb e=>(sb'.2 b hb).trans e) hC l (.inr o) c p,q⟩⟩) (.inr hl))
 rcases ha with rfl | ha
 ·exact l
 ·exact Ne.symm (c _ _ ha)
end
section
variable {X:Cx}{Z:Zx}{elt iter:Expr}{x:Str}{px pos:Pos}{ifs:List Expr}{sc ar:Scope}{N:List Str}{caps:List Nat}
theorem zgZ {r:List Addr}{H:Hp}{dl:Ev}{σ:St}{d:D}{v:V}(h:Rs r H dl σ)(p:Rp r H d v):Rs r H (some d::zbs caps dl) (some v::zaN caps σ):=by
 refine⟨by simp[zbs,zaN],λi e hi=>?_⟩
 cases i with
 | zero=>simp at hi; subst hi; exact⟨v,rfl,p⟩
 | succ i=>
  simp only[List.getElem?_cons_succ,zbs,Vae] at hi
  cases q:caps[i]? with
  | none=>rw[q] at hi; cases hi
  | some j=>
   rw[q] at hi
   simp only[Option.map_some,Option.some.injEq] at hi
   have hj:dl[j]?=some (some e):=by
    cases q2:dl[j]? with
    | none=>rw[q2] at hi; cases hi
    | some o=>rw[q2] at hi; simp at hi; rw[hi]
   obtain⟨w,h1,h2⟩:=h.2 j e hj
   refine⟨w,?_,h2⟩
   simp only[List.getElem?_cons_succ,zaN,Vae,q,Option.map_some,h1,Option.join_some]
def zdq (Y:Cx)(ifs:List Expr)(t:TDT):Prop:=PTs Y ifs (upT Y.K Z0 t)
def zcY:TDT:=λ_ S Q=>Q true S
theorem zbx {Y:Cx}:zdq Y [] zcY:=λpins s σ H Qb I ⟨r,dl,S,Q,rs,rel,q,ret⟩=>zi9 pins s σ H Qb I (ret true H r S Ext.refl rel q)
theorem zhL {Y:Cx}{c:Expr}{t:TDT}(h:PDT Y Z0 c t):zdq Y [c] t:=zjs h
def zcK (caps:List Nat)(tc:TDT)(te:TDE)(k:Nat)(dl:Ev)(d:D)(S:Sto)(nx:Sto→Prop):Prop:=
 tc (some d::zbs caps dl) S λb S1=>if b=true then te (some d::zbs caps dl) S1 λy S2=>match S2[k]? with
  | some (.lst ys)=>ys.length<1000∧nx (S2.set k (.lst (ys++[y])))
  | _=>False
 else nx S1
@[irreducible] def zbK (caps:List Nat)(tl:TDE)(tc:TDT)(te:TDE):TDE:=λdl S Q=>tl dl S λd S1=>match d with
 | .ref n=>(lAt S1 n).isSome=true∧∃W:Nat→Nat→Sto→Prop,(∃m,W 0 m (S1++[.lst []]))∧∀k m S2,W k m S2→match lAt S2 n with
  | some o=>match (zad o)[k]? with
   | some y=>zcK caps tc te S1.length dl y S2 λS3=>∃m',m'<m∧W (k+1) m' S3
   | none=>Q (.ref S1.length) S2
  | none=>False
 | _=>False
@[irreducible] def zcz (caps:List Nat)(ta:TDA)(tc:TDT)(te:TDE):TDE:=λdl S Q=>ta dl S λds S1=>match ds with
 | [.int j]=>(-(2^62)≤j∧j<2^62)∧∃W:Nat→Sto→Prop,W 0 (S1++[.lst []])∧∀k S2,W k S2→
   if k<j.toNat then zcK caps tc te S1.length dl (.int k) S2 λS3=>W (k+1) S3 else Q (.ref S1.length) S2
 | _=>False
theorem zhI {tc:TDT}{te:TDE}{r2:List Addr}{H2:Hp}{S1 S2:Sto}{dl:Ev}{σ:St}{D0:Addr}{d:D}{v:V}{nx:Sto→Prop}{Nx:Hp→Prop}(rs:Rs r2 H2 dl σ)(ha:r2[S1.length]?=some D0)(rb:zax X.K r2 S2 H2)(p:Rp r2 H2 d v)
  (h:zcK caps tc te S1.length dl d S2 nx)(hn:∀r' S' H',Ext r2 r' H2 H'→zax X.K r' S' H'→nx S'→Nx H'):
  upT X.K Z0 tc (some v::zaN caps σ) H2 λb H3=>if b=true then up X.K Z0 te (some v::zaN caps σ) H3 λy H4=>∃ys,H4 D0=some (.lst ys)∧ys.length<sizeLine∧Nx (upd H4 D0 (.lst (ys++[y]))) else Nx H3:=by
 have rsY:Rs r2 H2 (some d::zbs caps dl) (some v::zaN caps σ):=zgZ rs p
 refine⟨r2,_,S2,_,rsY,⟨rb,λ_ _ _ _ _ _ _ _ _ z=>z.elim⟩,h,λb H3 r3 S3 x3 rel3 q3=>?_⟩
 cases b with
 | false=>rw[if_neg Van] at q3 ⊢; exact hn r3 S3 H3 x3 rel3.b q3
 | true=>
  rw[if_pos rfl] at q3 ⊢
  refine⟨r3,_,S3,_,rsY.ext x3,rel3,q3,λz H4 r4 dz S4 x4 rel4 p4 q4=>?_⟩
  split at q4
  ·rename_i ys eys
   obtain⟨hl,q4⟩:=q4
   have ha4:r4[S1.length]?=some D0:=x4.adr _ _ (x3.adr _ _ ha)
   obtain⟨zs,hD4,pz⟩:=rel4.b.ob _ _ _ ha4 eys
   obtain⟨rel5,x5⟩:=rel4.b.set ha4 eys (pz.snoc p4)
   exact⟨zs,hD4,by rw[← pz.1]; exact zes (VaJ hl),hn r4 _ _ (x3.trans (x4.trans x5)) rel5 q4⟩
  ·exact q4.elim
theorem zfz {r:List Addr}{D0:Addr}{n:Nat}(h:r.length=n):(r++[D0])[n]?=some D0:=by subst h; simp
theorem zhp {tl:TDE}{tc:TDT}{te:TDE}{σ:St}{H:Hp}{Qv:VK}(h:up X.K Z (zbK caps tl tc te) σ H Qv):zey caps (zfM X.K (up X.K Z tl)) (upT X.K Z0 tc) (up X.K Z0 te) σ H Qv:=by
 obtain⟨r,dl,S,Q,rs,rel,h,ret⟩:=h
 unfold zbK at h
 refine⟨r,dl,S,_,rs,rel,h,λv H1 r1 d S1 x1 rel1 p1 q1=>?_⟩
 cases p1 with
 | @ref n a hn=>
  obtain⟨hsome,W,⟨m0,w0⟩,turn⟩:=q1
  have sql:∀ {r':List Addr} {S':Sto} {H':Hp} {o:Ob},Ext r1 r' H1 H'→zax X.K r' S' H'→lAt S' n=some o→∃xs,SqL X.K H' a xs∧Rps r' H' (zad o) xs:=λ{r' S' H' o} x' rel' eo=>by
   obtain⟨eo,eL⟩:=zbE eo
   obtain⟨a',ha,ob⟩:=rel'.at eo
   rw[x'.adr n a hn] at ha; cases ha
   exact ob.list eL
  obtain⟨o1,eo1⟩:=VaO.mp hsome
  obtain⟨xs1,sq1,_⟩:=sql Ext.refl rel1.b eo1
  refine⟨a,rfl,⟨xs1,sq1⟩,λD0 hD=>?_⟩
  obtain⟨rel2,x2⟩:=rel1.b.push (ds:=[]) (xs:=[]) hD Rps.nil
  refine⟨λk m H'=>∃r' S',Ext (r1++[D0]) r' (upd H1 D0 (.lst [])) H'∧zax X.K r' S' H'∧W k m S',⟨m0,_,_,Ext.refl,rel2,w0⟩,?_⟩
  rintro k m H2 ⟨r2,S2,x3,rb2,w2⟩
  have ha2:r2[S1.length]?=some D0:=x3.adr _ _ (zfz rel1.len)
  have q:=turn k m S2 w2
  split at q
  ·rename_i o eo
   obtain⟨xs,sq,pr⟩:=sql (x2.trans x3) rb2 eo
   split at q
   ·rename_i y ey
    obtain⟨v,hv,pv⟩:=pr.get ey
    refine .inr ⟨⟨xs,v,sq,hv⟩,λv' H' y'=>?_⟩
    obtain⟨eH,y'⟩:=y'
    subst eH
    have ev:v'=v:=by
     have z:=y' xs sq
     rw[hv] at z; exact(Option.some.inj z).symm
    subst ev
    have z:=zhI (Nx:=λH'=>∃m',m'<m∧∃r' S',Ext (r1++[D0]) r' (upd H1 D0 (.lst [])) H'∧zax X.K r' S' H'∧W (k+1) m' S') (rs.ext (x1.trans (x2.trans x3))) ha2 rb2 pv q λr' S' H' x' rb' ⟨m',hm,w'⟩=>⟨m',hm,r',S',x3.trans x',rb',w'⟩
    exact z
   ·rename_i ey
    have hlen:(zad o).length≤k:=VaQ.mp ey
    exact .inl ⟨⟨xs,sq,by rw[← pr.1]; exact hlen⟩,ret _ H2 r2 _ S2 (x1.trans (x2.trans x3)) ⟨rb2,rel.xw.ext (x1.trans (x2.trans x3))⟩ (.ref ha2) q⟩
  ·exact q.elim
 | _=>exact(show False from q1).elim
theorem zhO {ta:TDA}{tc:TDT}{te:TDE}{σ:St}{H:Hp}{Qv:VK}(h:up X.K Z (zcz caps ta tc te) σ H Qv):zey caps (zhW (upA X.K Z ta)) (upT X.K Z0 tc) (up X.K Z0 te) σ H Qv:=by
 obtain⟨r,dl,S,Q,rs,rel,h,ret⟩:=h
 unfold zcz at h
 refine⟨r,dl,S,_,rs,rel,h,λvs H1 r1 ds S1 x1 rel1 p1 q1=>?_⟩
 split at q1
 ·rename_i j
  obtain⟨v,vs',rfl,p2,p3⟩:=p1.uncons
  have z:=p3.unnil
  subst z
  cases p2
  obtain⟨⟨b1,b2⟩,W,w0,turn⟩:=q1
  refine⟨j,rfl,b1,b2,λD0 hD=>?_⟩
  obtain⟨rel2,x2⟩:=rel1.b.push (ds:=[]) (xs:=[]) hD Rps.nil
  refine⟨λk m H'=>m=j.toNat-k∧∃r' S',Ext (r1++[D0]) r' (upd H1 D0 (.lst [])) H'∧zax X.K r' S' H'∧W k S',⟨j.toNat,by simp,_,_,Ext.refl,rel2,w0⟩,?_⟩
  rintro k m H2 ⟨em,r2,S2,x3,rb2,w2⟩
  have ha2:r2[S1.length]?=some D0:=x3.adr _ _ (zfz rel1.len)
  have q:=turn k S2 w2
  split at q
  ·rename_i hk
   refine .inr ⟨hk,λv' H' y'=>?_⟩
   obtain⟨eH,y'⟩:=y'
   subst eH
   subst y'
   have pk:Rp r2 H' (.int (k:Int)) (.int (0+(k:Int))):=by rw[Int.zero_add]; exact .int _
   have z:=zhI (Nx:=λH'=>∃m',m'<m∧m'=j.toNat-(k+1)∧∃r' S',Ext (r1++[D0]) r' (upd H1 D0 (.lst [])) H'∧zax X.K r' S' H'∧W (k+1) S') (rs.ext (x1.trans (x2.trans x3))) ha2 rb2 pk q
    λr' S' H' x' rb' w'=>⟨j.toNat-(k+1),by omega,rfl,r',S',x3.trans x',rb',w'⟩
   exact z
  ·rename_i hk
   exact .inl ⟨by show j.toNat≤k; omega,ret _ H2 r2 _ S2 (x1.trans (x2.trans x3)) ⟨rb2,rel.xw.ext (x1.trans (x2.trans x3))⟩ (.ref ha2) q⟩
 ·exact q1.elim
theorem zdk {tl:TDE}{tc:TDT}{te:TDE}(har:X.env.scope=ar)(hc:X.calm=true)(cs:zb4 sc ar x N)(hN:caps.map (λi=>X.N[i]?)=N.map some)(hnd:(x::N).Nodup)(hl:PD X Z iter tl)
  (ht:∀cl C s0 H0 fp pn,zdq (Cx.comp X sc (x::N) cl C s0 H0 fp pn) ifs tc)(he:∀cl C s0 H0 fp pn,PD (Cx.comp X sc (x::N) cl C s0 H0 fp pn) Z0 elt te)
  (hs:∀y,foldedSetIterable iter X.env y=pure y:=by intro _; rfl):PD X Z (.ListComp elt [⟨.Name x px,iter,ifs,0⟩] sc pos) (zbK caps tl tc te):=by
 subst har
 exact zaX (zho hc cs hN hnd (tc:=upT X.K Z0 tc) (te:=up X.K Z0 te) (zfm hl) ht he hs) λ_ _ _ h=>zhp h
theorem zde {ta:TDA}{tc:TDT}{te:TDE}{a:Expr}{p pos2:Pos}(har:X.env.scope=ar)(hc:X.calm=true)(cs:zb4 sc ar x N)(hN:caps.map (λi=>X.N[i]?)=N.map some)(hnd:(x::N).Nodup)(hg:Gl X "range")(hm:X.mg "range"=none)(ha:PDA X Z [a] ta)
  (ht:∀cl C s0 H0 fp pn,zdq (Cx.comp X sc (x::N) cl C s0 H0 fp pn) ifs tc)(he:∀cl C s0 H0 fp pn,PD (Cx.comp X sc (x::N) cl C s0 H0 fp pn) Z0 elt te)
  (hs:∀y,foldedSetIterable (.Call (.Name "range" p) [a] [] pos2) X.env y=pure y:=by intro _; rfl)(hst:starEach [a] X.env=[(false,eval a X.env)]:=by rfl):
  PD X Z (.ListComp elt [⟨.Name x px,.Call (.Name "range" p) [a] [] pos2,ifs,0⟩] sc pos) (zcz caps ta tc te):=by
 subst har
 exact zaX (zho hc cs hN hnd (tc:=upT X.K Z0 tc) (te:=up X.K Z0 te) (zgC hg hm ha hst) ht he hs) λ_ _ _ h=>zhO h
theorem zfN {t:TE}{td:TDE}{i:Nat}{F:zcw}{σ:St}{H:Hp}(imp:∀Qv,up X.K Z td σ H Qv→t σ H Qv)(h:upS X.K Z (λE dl S=>td dl S λd S1=>E.nx (dl.set i (some d)) S1) F σ H):t σ H λv H1=>F.nx (σ.set i (some v)) H1:=by
 obtain⟨r,dl,S,E,rs,rel,h,ret⟩:=h
 exact imp _ ⟨r,dl,S,_,rs,rel,h,λv H1 r1 d S1 x rel1 p q=>ret.nx _ H1 r1 _ S1 x ((rs.ext x).set i p) rel1 q⟩
theorem zgk {tl:TDE}{tc:TDT}{te:TDE}{i:Nat}{y:Str}{py spos:Pos}(har:X.env.scope=ar)(hc:X.calm=true)(cs:zb4 sc ar x N)(hN:caps.map (λi=>X.N[i]?)=N.map some)(hnd:(x::N).Nodup)(hNd:X.N.Nodup)(hy:X.N[i]?=some y)(hlo:ar.names.lookup y=some .local)
  (hl:PD X Z iter tl)(ht:∀cl C s0 H0 fp pn,zdq (Cx.comp X sc (x::N) cl C s0 H0 fp pn) ifs tc)(he:∀cl C s0 H0 fp pn,PD (Cx.comp X sc (x::N) cl C s0 H0 fp pn) Z0 elt te)
  (hsw:swapsWith (.ListComp elt [⟨.Name x px,iter,ifs,0⟩] sc pos) (some (.Name y py)) spos.line X.env=pure true:=by rfl)
  (hs:∀y,foldedSetIterable iter X.env y=pure y:=by intro _; rfl):PDS X Z (.Assign [.Name y py] (.ListComp elt [⟨.Name x px,iter,ifs,0⟩] sc pos) spos) (zdT i (zbK caps tl tc te)):=by
 subst har
 exact zb5 (zht hc cs hN hnd (tc:=upT X.K Z0 tc) (te:=up X.K Z0 te) (zfm hl) ht he hNd hy hlo hsw hs) λF σ H h=>zfN (λ_ h=>zhp h) h
theorem zky {ta:TDA}{tc:TDT}{te:TDE}{a:Expr}{p pos2:Pos}{i:Nat}{y:Str}{py spos:Pos}(har:X.env.scope=ar)(hc:X.calm=true)(cs:zb4 sc ar x N)(hN:caps.map (λi=>X.N[i]?)=N.map some)(hnd:(x::N).Nodup)(hNd:X.N.Nodup)(hy:X.N[i]?=some y)
  (hlo:ar.names.lookup y=some .local)(hg:Gl X "range")(hm:X.mg "range"=none)(ha:PDA X Z [a] ta)
  (ht:∀cl C s0 H0 fp pn,zdq (Cx.comp X sc (x::N) cl C s0 H0 fp pn) ifs tc)(he:∀cl C s0 H0 fp pn,PD (Cx.comp X sc (x::N) cl C s0 H0 fp pn) Z0 elt te)
  (hsw:swapsWith (.ListComp elt [⟨.Name x px,.Call (.Name "range" p) [a] [] pos2,ifs,0⟩] sc pos) (some (.Name y py)) spos.line X.env=pure true:=by rfl)
  (hs:∀y,foldedSetIterable (.Call (.Name "range" p) [a] [] pos2) X.env y=pure y:=by intro _; rfl)(hst:starEach [a] X.env=[(false,eval a X.env)]:=by rfl):
  PDS X Z (.Assign [.Name y py] (.ListComp elt [⟨.Name x px,.Call (.Name "range" p) [a] [] pos2,ifs,0⟩] sc pos) spos) (zdT i (zcz caps ta tc te)):=by
 subst har
 exact zb5 (zht hc cs hN hnd (tc:=upT X.K Z0 tc) (te:=up X.K Z0 te) (zgC hg hm ha hst) ht he hNd hy hlo hsw hs) λF σ H h=>zfN (λ_ h=>zhO h) h
@[irreducible] def zdz (to te:TDE):TDE:=λdl S Q=>to dl S λx S1=>match x with
 | .ref n=>match S1[n]? with
  | some (.lst _)=>te dl S1 λy S2=>match S2[n]? with
   | some (.lst xs)=>if xs.length<1000 then Q .non (S2.set n (.lst (xs++[y]))) else False
   | _=>False
  | _=>False
 | _=>False
theorem zfH {o e:Expr}{to te:TDE}{apos cpos:Pos}(ho:PD X Z o to)(he:PD X Z e te)(hbase:attributeBase o "append" X.env (eval o X.env)=eval o X.env:=by rfl)
  (hfew:((backTo cpos (starEach [e] X.env)).all (λx=>!x.1)&&(backToKw cpos (keywordEach [] X.env)).all (λx=>x.1.isSome)
  &&decide (([e]:List Expr).length+([]:List Keyword).length+(if ([]:List Keyword).isEmpty then 0 else 1)<30))=true:=by rfl)
  (hline:(apos.endLine==cpos.line)=true:=by rfl)(hst:starEach [e] X.env=[(false,eval e X.env)]:=by rfl):
  PD X Z (.Call (.Attribute o "append" apos) [e] [] cpos) (zdz to te):=
 zaX (zhu PySem.F.plainAttrs_list PySem.F.slot_list_append PySem.F.type_list_append zgr ho (zc4 he zfp hst) hbase hfew hline hst rfl) λσ H Qv h=>by
  obtain⟨r,dl,S,Q,rs,rel,h,ret⟩:=h
  unfold zdz at h
  refine⟨r,dl,S,_,rs,rel,h,λv H1 r1 d S1 x1 rel1 p1 h1=>?_⟩
  cases p1 with
  | @ref n a hn=>
   dsimp only at h1
   split at h1
   ·rename_i xs0 e0
    obtain⟨a',ha,ob⟩:=rel1.at e0
    rw[hn] at ha; cases ha
    obtain⟨ys,hH,_⟩:=ob
    refine⟨.inl ⟨rfl,ys,SqL.of hH⟩,r1,dl,S1,_,rs.ext x1,rel1,h1,λv2 H2 r2 d2 S2 x2 rel2 p2 h2=>?_⟩
    split at h2
    ·rename_i xs1 e1
     obtain⟨hlt,h2⟩:=ze2 h2
     have ha2:=x2.adr n a hn
     obtain⟨zs,hH2,pz⟩:=rel2.b.ob n a _ ha2 e1
     obtain⟨rel3,x3⟩:=rel2.set ha2 e1 (pz.snoc p2)
     exact⟨a,zs,v2,rfl,rfl,hH2,by rw[← pz.1]; exact zes (VaJ hlt),ret .non _ r2 .non _ (x1.trans (x2.trans x3)) rel3 .non h2⟩
    ·exact h2.elim
   ·exact h1.elim
  | _=>exact(show False from h1).elim
def zfg:WC:=λds S Q=>match ds with
 | [.tup xs]=>Q (.ref S.length) (S++[.lst xs])
 | [.ref n]=>match lAt S n with
  | some o=>Q (.ref S.length) (S++[.lst (zad o)])
  | none=>False
 | _=>False
theorem zkO:zaI X (.type "list") (upC X.K Z zfg):=zhw zlR λxs H Qv ⟨r,S,ds,Q,rel,ps,q,ret⟩=>by
 unfold zfg at q
 split at q
 ·rename_i ys
  obtain⟨v,vs,rfl,p1,p2⟩:=ps.uncons
  have z:=p2.unnil
  subst z
  obtain⟨a,zs,rfl,h1,h2⟩:=p1.untup
  refine⟨a,zs,rfl,.inr (SqT.of h1),λl hl=>?_⟩
  obtain⟨rel2,x⟩:=rel.push hl h2
  exact ret _ _ _ (.ref S.length) _ x rel2 (zcX rel.len) q
 ·rename_i n
  obtain⟨v,vs,rfl,p1,p2⟩:=ps.uncons
  have z:=p2.unnil
  subst z
  split at q
  ·rename_i o eo
   obtain⟨eo,eL⟩:=zbE eo
   obtain⟨a,ha,ob⟩:=rel.at eo
   cases p1 with
   | ref h1=>
    rw[h1] at ha; cases ha
    obtain⟨ys,sq,pr⟩:=ob.list eL
    refine⟨_,ys,rfl,.inl sq,λl hl=>?_⟩
    obtain⟨rel2,x⟩:=rel.push hl pr
    exact ret _ _ _ (.ref S.length) _ x rel2 (zcX rel.len) q
  ·exact q.elim
 ·exact q.elim
def zbn:List D→Option (List Bool)
 | []=>some []
 | .bl b::r=>(zbn r).map (b::·)
 | _::_=>none
def zdf (g:List Bool→Bool):WC:=λds S Q=>match ds with
 | [.ref n]=>match lAt S n with
  | some o=>match zbn (zad o) with
   | some bs=>Q (.bl (g bs)) S
   | none=>False
  | none=>False
 | _=>False
theorem zhE {r:List Addr}{H:Hp}:∀ {ds:List D} {bs:List Bool} {vs:List V} {us:List Value},zbn ds=some bs→Rps r H ds vs→zaf vs us→us=bs.map Value.bool
 | [],bs,vs,us,e,p,q=>by
  have z:=p.unnil
  subst z
  cases q
  simp[zbn] at e
  subst e
  rfl
 | d::ds,bs,vs,us,e,p,q=>by
  obtain⟨v,vs',rfl,p1,p2⟩:=p.uncons
  cases d with
  | bl b=>
   cases p1
   cases q with
   | cons q1 q2=>
    have q1':_=Value.bool b:=q1
    subst q1'
    simp only[zbn,VaH] at e
    obtain⟨ms,e1,rfl⟩:=e
    rw[zhE e1 p2 q2]
    rfl
  | _=>simp[zbn] at e
theorem ziM {bs:List Bool}:(List.range bs.length).all (λi=>bs.getD i false)=bs.all id:=by
 rw[VaX]
 rw[List.all_eq_true,List.all_eq_true]
 refine⟨λh b hb=>?_,λh i hi=>?_⟩
 ·obtain⟨i,hi,e⟩:=VaZ.mp hb
  have hb':=h i (VaE.mpr hi)
  simpa [hi,e] using hb'
 ·have hi':i<bs.length:=VaE.mp hi
  have:=h bs[i] (VaC hi')
  simpa [hi'] using this
theorem zi0 {bs:List Bool}:(List.range bs.length).any (λi=>bs.getD i false)=bs.any id:=by
 rw[VaX]
 rw[List.any_eq_true,List.any_eq_true]
 refine⟨λ⟨i,hi,h⟩=>?_,λ⟨b,hb,h⟩=>?_⟩
 ·have hi':i<bs.length:=VaE.mp hi
  exact⟨bs[i],VaC hi',by simpa [hi'] using h⟩
 ·obtain⟨i,hi,e⟩:=VaZ.mp hb
  exact⟨i,VaE.mpr hi,by simpa [hi,e] using h⟩
theorem zkB {prog:Program}{w:World}{A:Around}{bs:List Bool}:TruthOf prog w A (λi v=>(bs.map Value.bool).toArray[i]?=some v) λi=>bs.getD i false:=λi v s Q E hP hQ=>by
  have e:(bs.map Value.bool)[i]?=some v:=by simpa using hP
  rw[Vae] at e
  cases q:bs[i]? with
  | none=>
   rw[q] at e
   cases e
  | some b=>
    rw[q] at e
    have z:Value.bool b=v:=by simpa using e
    subst z
    have z2:bs.getD i false=b:=by simp[Vap,q]
    have hQ':Q (bs.getD i false) s:=hQ
    rw[z2] at hQ'
    exact wpAny_truthy_bool hQ'
theorem zhJ {n:Nat}{a:Addr}{o:Ob}{bs:List Bool}{pins:List (Addr×Obj)}{σ:St}{H:Hp}{s:Shared}{r:List Addr}{S:Sto}{Q:DK}{Qv:VK}{E:Value→Shared→Prop}{g:List Bool→Bool}(G:List Nat→(Nat→Bool)→Bool)
  (hG:G (List.range bs.length) (λi=>bs.getD i false)=g bs)(hc:X.calm=true)(I:Inv X pins σ H s)(rel:Rel X.K Z r S H)(hn:r[n]?=some a)(eo:lAt S n=some o)(eb:zbn (zad o)=some bs)(q:Q (.bl (g bs)) S)(ret:Ret X.K Z r H Q Qv):
  wpAny (model X.prog X.w) X.A.in1 (pyIter (.ref a)) (λit s₂=>∃I fp wr n P' St tr,it=.ref I∧Walks X.prog X.w X.A.in1 I fp wr n P' St∧St 0 s₂.heap∧TruthOf X.prog X.w X.A.in1 P' tr∧
   ∀h' tk,(∀b o,b ∉ wr→s₂.heap.get? b=some o→h'.get? b=some o)→EP X pins σ Qv (.bool (G (List.range n) tr)) { s₂ with heap:=h',toks:=tk }) E s:=by
 obtain⟨eo,eL⟩:=zbE eo
 obtain⟨a',ha,ob⟩:=rel.at eo
 rw[hn] at ha; cases ha
 obtain⟨ys,sq,pr⟩:=ob.list eL
 obtain⟨its,ri,pl,hz⟩:=I.list sq
 have eits:=zhE eb pr ri
 subst eits
 refine wpAny_pyIter_list pl.isList ?_
 have hne:a≠s.heap.objs.size:=Vah (by
  obtain⟨ob,e,_⟩:=pl.isList
  exact Heap.lt_size e)
 refine⟨s.heap.objs.size,_,_,_,_,_,λi=>bs.getD i false,rfl,Walks.list (show X.A.in1.handled=none from I.ok.hd hc) _ a hne (bs.map Value.bool).toArray,⟨⟨_,Heap.get?_push_size _ rfl,rfl,rfl⟩,pl.isList.at λo e=>Heap.get?_push_of_some _ e⟩,zkB,λh' tk hk=>?_⟩
 have ez:(bs.map Value.bool).toArray.size=bs.length:=by simp
 rw[ez,hG]
 refine⟨.bl (g bs),H,I.kept λb o e=>hk b o (λz=>?_) (Heap.get?_push_of_some _ e),rfl,ret _ _ _ _ _ Ext.refl rel (.bl _) q⟩
 have z':b=s.heap.objs.size:=by simpa using z
 exact absurd (z' ▸ Heap.lt_size e) (Vay _)
theorem zhs {id:String}{g:List Bool→Bool}(rule:∀(pins:List (Addr×Obj)) (σ:St) (H:Hp) (s:Shared) (r:List Addr) (S:Sto) (Q:DK) (Qv:VK) (n:Nat) (a:Addr) (o:Ob) (bs:List Bool),Inv X pins σ H s→Rel X.K Z r S H→r[n]?=some a→lAt S n=some o→zbn (zad o)=some bs→
   Q (.bl (g bs)) S→Ret X.K Z r H Q Qv→wpAny (model X.prog X.w) X.A (call (.builtin id) [.ref a]) (EP X pins σ Qv) X.xe s):zaI X (.builtin id) (upC X.K Z (zdf g)):=by
 intro pins s σ H xs us Qv I rv h
 obtain⟨r,S,ds,Q,rel,ps,q,ret⟩:=h
 unfold zdf at q
 split at q
 ·rename_i n
  obtain⟨v,vs,rfl,p1,p2⟩:=ps.uncons
  have z:=p2.unnil
  subst z
  split at q
  ·rename_i o eo
   split at q
   ·rename_i bs eb
    cases p1 with
    | ref h1=>
     obtain⟨u,rfl,ru⟩:=zcr rv
     cases ru
     exact rule pins σ H s r S Q Qv n _ o bs I rel h1 eo eb q ret
   ·exact q.elim
  ·exact q.elim
 ·exact q.elim
theorem zdl (hc:X.calm=true):zaI X (.builtin "all") (upC X.K Z (zdf λbs=>bs.all id)):=
 zhs λ_ _ _ _ _ _ _ _ _ _ _ _ I rel h1 eo eb q ret=>call_all_walk (zhJ (g:=λbs=>bs.all id) (λl f=>l.all f) ziM hc I rel h1 eo eb q ret)
theorem zkr (hc:X.calm=true):zaI X (.builtin "any") (upC X.K Z (zdf λbs=>bs.any id)):=
 zhs λ_ _ _ _ _ _ _ _ _ _ _ _ I rel h1 eo eb q ret=>call_any_walk (zhJ (g:=λbs=>bs.any id) (λl f=>l.any f) zi0 hc I rel h1 eo eb q ret)
@[irreducible] def irr (w:WC):WC:=w
@[irreducible] def zcj (w:W2):W2:=w
theorem zcH (w:WC):irr w=w:=by unfold irr; rfl
theorem zc1 (w:W2):zcj w=w:=by unfold zcj; rfl
theorem zaz {f:Value}{w:WC}(h:zaI X f (upC X.K Z w)):zaI X f (upC X.K Z (irr w)):=by rw[zcH]; exact h
theorem zaH {a b:Expr}{ta tb:TDE}(ha:PD X Z a ta)(hb:PD X Z b tb)(hs:zgc b):PD X Z (.Subscript a b pos) (dOp (zcj wIx) ta tb):=by rw[zc1]; exact zbk ha hb hs
theorem zan (S:Sto)(o:Ob):(S++[o])[S.length]?=some o:=by simp
theorem zeB {S:Sto}{o u:Ob}{n:Nat}(h:S[n]?=some o):(S++[u])[n]?=some o:=by
 rw[Vao (Vad.mp h).1]; exact h
theorem zdB {tl te:TDE}{dl:Ev}{S S1:Sto}{Q:DK}{n:Nat}{o:Ob}(g:D→D)(htl:∀K:DK,K (.ref n) S1→tl dl S K)(h1:S1[n]?=some o)(hl:(zad o).length≤1000)
  (ht:∀x∈zad o,∀(S2:Sto) (K:DK),Pre S1 S2→K (g x) S2→te (some x::zbs caps dl) S2 K)(hq:Q (.ref S1.length) (S1++[.lst ((zad o).map g)]))(hL:zbA o=some o:=by rfl):zbK caps tl zcY te dl S Q:=by
 unfold zbK
 refine htl _ ⟨by rw[zaQ h1 hL]; rfl,λk m S2=>S2=S1++[.lst (((zad o).take k).map g)]∧m+k=(zad o).length,⟨(zad o).length,by simp,by omega⟩,?_⟩
 rintro k m S2 ⟨rfl,hm⟩
 rw[zaQ (zeB h1) hL]
 dsimp only
 split
 ·rename_i x hx
  have hk:k<(zad o).length:=(Vad.mp hx).1
  unfold zcK zcY
  simp only[if_true]
  refine ht x (Vam hx) _ _ Pre.refl.push ?_
  rw[zan]
  refine⟨by simp; omega,m-1,by omega,?_,by omega⟩
  have e:(zad o).take (k+1)=(zad o).take k++[x]:=by rw[List.take_succ,hx]; rfl
  rw[e,Vat,List.set_append_right _ _ (Vaa _)]
  simp
 ·rename_i hx
  have hk:(zad o).length≤k:=VaQ.mp hx
  rw[VaL hk]
  exact hq
theorem zlo {o:Ob}{bs:List Bool}(h:zbn (zad o)=some bs):zbA o=some o:=by
 cases o <;> first | rfl | cases h
theorem zjH {o:Ob}{xs:List Int}(h:zbr (zad o)=some xs):zbA o=some o:=by
 cases o <;> first | rfl | cases h
theorem zbY {g:List Bool→Bool}{n:Nat}{S:Sto}{o:Ob}{bs:List Bool}{Q:DK}(h:S[n]?=some o)(hb:zbn (zad o)=some bs)(hq:Q (.bl (g bs)) S):irr (zdf g) [.ref n] S Q:=by
 rw[zcH]
 unfold zdf
 simp only[zaQ h (zlo hb),hb]
 exact hq
theorem zgj {le:Int→Int→Prop}{two:Int→Int→Int}{n:Nat}{S:Sto}{o:Ob}{xs:List Int}{Q:DK}(h:S[n]?=some o)(hb:zbr (zad o)=some xs)(hne:xs≠[])(hq:∀m,m∈xs→(∀y∈xs,le y m)→Q (.int m) S):irr (zcV le two) [.ref n] S Q:=by
 rw[zcH]
 unfold zcV
 simp only[zaQ h (zjH hb),hb]
 exact⟨hne,hq⟩
theorem zjz {n:Nat}{S:Sto}{o:Ob}{Q:DK}(h:lAt S n=some o)(hq:Q (.ref S.length) (S++[.lst (zad o)])):irr zfg [.ref n] S Q:=by
 rw[zcH]
 unfold zfg
 simp only[h]
 exact hq
theorem zfR {to te:TDE}{dl:Ev}{S S1:Sto}{Q:DK}{n:Nat}{xs:List D}{y:D}(hto:∀K:DK,K (.ref n) S1→to dl S K)(h:S1[n]?=some (.lst xs))(hte:∀K:DK,K y S1→te dl S1 K)(hl:xs.length<1000)(hq:Q .non (S1.set n (.lst (xs++[y])))):zdz to te dl S Q:=by
 unfold zdz
 refine hto _ ?_
 simp only[h]
 refine hte _ ?_
 simp only[h]
 exact ifP hl hq
end
end L3
namespace L3
open PySem PySem.Spec PyProof.Rows L2 PySem.W Builtin Builtin.ObjectAttr Builtin.Getset_descriptor
structure Nx (K:Frag)(D:Addr):Prop where
 ga:findIn K (.ref D) "__getattribute__"=some (some (.builtin "BaseException.__getattribute__"))
 hk:findIn K (.ref D) "__getattr__"=some none
 ha:findIn K (.ref D) "__class__"=some (some (.builtin "object.__class__"))
 hn:specialIn K (.builtin "object.__class__") "__get__"=some (some (.builtin "getset_descriptor.__get__"))
 ht:takesIn K (.builtin "object.__class__")=some true
 hm:mroIn K D (.type "object")=some true
 hb:mroIn K D (.type "BaseException")=some true
section
variable {X:Cx}{Z:Zx}
end
def eqN:Nat→D→D→Option Bool
 | 0=>eqF
 | k+1=>eqT (eqN k)
theorem zhP:∀k,zds (eqN k)
 | 0=>zdp
 | k+1=>zgK (zhP k)
theorem ziw:∀k,zcB k (eqN k)
 | 0=>zfD 0
 | k+1=>zii (ziw k) (zhP k)
section
variable {X:Cx}{Z:Zx}
def zcs (f:D→D→Option Bool):List D→D→Option Bool
 | [],_=>some false
 | y::ys,x=>match f y x,zcs f ys x with
  | some b,some c=>some (b||c)
  | _,_=>none
def wIn (k:Nat)(neg:Bool):W2:=λx y S Q=>match y with
 | .ref n=>match lAt S n with
  | some o=>match zcs (eqN k) (zad o) x with
   | some b=>Q (.bl (if neg then !b else b)) S
   | none=>False
  | none=>False
 | _=>False
theorem zjV {v v':V}{u:Value}(h:zae v u)(h':zae v' u):v=v':=by
 cases v <;> cases v' <;> simp[L2.zae] at h h' <;> first
  | rfl
  | (subst h; simp at h'; subst h'; rfl)
  | (obtain⟨t,rfl⟩:=h; simp at h'; subst h'; rfl)
  | (obtain⟨t,rfl⟩:=h; simp at h')
  | (subst h; simp at h')
  | skip
theorem zd0 {r:List Addr}{H:Hp}{d d' x:D}{v:V}{b b':Bool}(p:Rp r H d v)(p':Rp r H d' v)(e:eqF d x=some b)(e':eqF d' x=some b'):b=b':=by
 have z:d=d':=by
  cases p <;> cases p' <;> first
   | rfl
   | (cases x <;> simp[eqF] at e)
   | (cases x <;> simp[eqF] at e')
 subst z
 rw[e] at e'
 exact Option.some.inj e'
theorem zhT {f:D→D→Option Bool}{r:List Addr}{H:Hp}(hf:∀(d d' x:D) (v:V) (b b':Bool),Rp r H d v→Rp r H d' v→f d x=some b→f d' x=some b'→b=b'):
  ∀ {ds ds' zs:List D} {vs:List V} {b b':Bool},Rps r H ds vs→Rps r H ds' vs→eqL f ds zs=some b→eqL f ds' zs=some b'→b=b'
 | [],ds',zs,vs,b,b',p,p',e,e'=>by
  have z:=p.unnil
  subst z
  cases ds' with
  | nil=>rw[e] at e'; exact Option.some.inj e'
  | cons y ys=>exact absurd p'.1 (by simp)
 | d::ds,ds',zs,vs,b,b',p,p',e,e'=>by
  obtain⟨v,vs',rfl,p1,p2⟩:=p.uncons
  cases ds' with
  | nil=>exact absurd p'.1 (by simp)
  | cons d' ds'=>
   obtain⟨q1,q2⟩:=p'.tail
   cases zs with
   | nil=>
    simp only[eqL,Option.some.injEq] at e e'
    exact e.symm.trans e'
   | cons z zs=>
    unfold eqL at e e'
    split at e
    ·rename_i b1 c1 a1 a2
     split at e'
     ·rename_i b2 c2 a3 a4
      have h1:=hf d d' z v b1 b2 p1 q1 a1 a3
      have h2:=zhT hf p2 q2 a2 a4
      subst h1 h2
      simp only[Option.some.injEq] at e e'
      exact e.symm.trans e'
     ·cases e'
    ·cases e
theorem zhM:∀(k:Nat) {r:List Addr} {H:Hp} (d d' x:D) (v:V) (b b':Bool),Rp r H d v→Rp r H d' v→eqN k d x=some b→eqN k d' x=some b'→b=b'
 | 0,r,H,d,d',x,v,b,b',p,p',e,e'=>zd0 p p' e e'
 | k+1,r,H,d,d',x,v,b,b',p,p',e,e'=>by
  cases p with
  | tup h1 l1 f1=>
   cases p' with
   | tup h2 l2 f2=>
    rw[h1] at h2; cases h2
    cases x with
    | tup zs=>exact zhT (λd d' x v b b'=>zhM k d d' x v b b') ⟨l1,f1⟩ ⟨l2,f2⟩ e e'
    | _=>simp[eqN,eqT,eqF] at e
   | ref h=>cases x <;> simp[eqN,eqT,eqF] at e'
   | exc h=>cases x <;> simp[eqN,eqT,eqF] at e'
  | non=>exact zd0 (x:=x) .non p' (by cases x <;> exact e) (by cases p' <;> cases x <;> exact e')
  | bl i=>exact zd0 (x:=x) (.bl i) p' (by cases x <;> exact e) (by cases p' <;> cases x <;> exact e')
  | int i=>exact zd0 (x:=x) (.int i) p' (by cases x <;> exact e) (by cases p' <;> cases x <;> exact e')
  | str i=>exact zd0 (x:=x) (.str i) p' (by cases x <;> exact e) (by cases p' <;> cases x <;> exact e')
  | ref h=>cases x <;> simp[eqN,eqT,eqF] at e
  | exc h=>cases x <;> simp[eqN,eqT,eqF] at e
theorem zg3 {f:D→D→Option Bool}{x:D}:∀ {ys:List D} {b:Bool},zcs f ys x=some b→(∀y∈ys,∃c,f y x=some c)∧(b=true↔∃y∈ys,f y x=some true)
 | [],b,e=>by
  simp only[zcs,Option.some.injEq] at e
  subst e
  simp
 | y::ys,b,e=>by
  unfold zcs at e
  split at e
  ·rename_i b1 c1 e1 e2
   obtain⟨h1,h2⟩:=zg3 e2
   simp only[Option.some.injEq] at e
   subst e
   refine⟨λz hz=>?_,?_⟩
   ·rcases Vai.mp hz with rfl | hz'
    ·exact⟨b1,e1⟩
    ·exact h1 z hz'
   ·rw[Bool.or_eq_true,h2]
    refine⟨λq=>?_,λ⟨z,hz,q⟩=>?_⟩
    ·rcases q with q | ⟨z,hz,q⟩
     ·exact⟨y,VaV,by rw[e1,q]⟩
     ·exact⟨z,VaB _ hz,q⟩
    ·rcases Vai.mp hz with rfl | hz'
     ·left
      rw[e1] at q
      exact Option.some.inj q
     ·exact .inr ⟨z,hz',q⟩
  ·cases e
theorem zlj {k:Nat}{pins:List (Addr×Obj)}{σ:St}{H:Hp}{s:Shared}{r:List Addr}{A:Around}{ds:List D}{vs:List V}{us:List Value}{dx:D}{x:V}{u:Value}{b:Bool}(I:Inv X pins σ H s)(hu:A.units+k<cLine)
  (p:Rps r H ds vs)(rv:zaf vs us)(px:Rp r H dx x)(rx:zae x u)(e:zcs (eqN k) ds dx=some b):∃g:Value→Bool,(∀y,y∈us.toArray→SeqAt.EqAt A s y u (g y))∧us.toArray.any g=b:=by
 obtain⟨h1,h2⟩:=zg3 e
 have at_:∀y∈us,∃d v,d∈ds∧Rp r H d v∧zae v y:=λy hy=>by
  obtain⟨j,hj,ej⟩:=VaZ.mp hy
  have hv:j<vs.length:=by rw[rv.length]; exact hj
  have gv:vs[j]?=some vs[j]:=by simp[hv]
  obtain⟨w,gw,rw'⟩:=rv.get gv
  obtain⟨d,gd,pd⟩:=p.get' gv
  have ew:w=y:=by
   rw[Vab hj,ej] at gw
   exact(Option.some.inj gw).symm
  subst ew
  exact⟨d,_,Vam gd,pd,rw'⟩
 classical
 refine⟨λy=>decide (∃d v,d∈ds∧Rp r H d v∧zae v y∧eqN k d dx=some true),λy hy=>?_,?_⟩
 ·obtain⟨d,v,hd,pd,rd⟩:=at_ y (by simpa using hy)
  obtain⟨c,hc⟩:=h1 d hd
  have same:decide (∃d v,d∈ds∧Rp r H d v∧zae v y∧eqN k d dx=some true)=c:=by
   cases c with
   | true=>exact decide_eq_true ⟨d,v,hd,pd,rd,hc⟩
   | false=>
    refine decide_eq_false λ⟨d',v',_,pd',rd',hc'⟩=>?_
    have ev:=zjV rd rd'
    subst ev
    exact absurd (zhM k d d' dx v false true pd pd' hc hc') (by decide)
  show SeqAt.EqAt A s y u (decide _)
  rw[same]
  exact ziw k X pins σ H s r A d dx v x y u c I hu pd px rd rx hc
 ·rw[VaX,h2,List.any_toArray,List.any_eq_true]
  refine⟨λ⟨y,hy,q⟩=>?_,λ⟨d,hd,q⟩=>?_⟩
  ·obtain⟨d,v,hd,_,_,q'⟩:=of_decide_eq_true q
   exact⟨d,hd,q'⟩
  ·obtain⟨j,hj,ej⟩:=VaZ.mp hd
   have gd:ds[j]?=some d:=by simp[hj,ej]
   obtain⟨v,gv,pv⟩:=p.get gd
   obtain⟨w,gw,rw'⟩:=rv.get gv
   exact⟨w,Vam gw,decide_eq_true ⟨d,v,hd,pv,rw',q⟩⟩
theorem do_in (k:Nat)(hu:X.A.units+1+k<cLine):OpR X (compareOp .In) (upO X.K Z (wIn k false)):=by
 intro pins s σ H x y v u Qv I rx ry h
 obtain⟨r,S,dx,dy,Q,rel,px,py,q,ret⟩:=h
 cases py with
 | @ref n a hn=>
  unfold wIn at q
  dsimp only at q
  split at q
  ·rename_i o eo
   split at q
   ·rename_i b eb
    cases ry
    obtain⟨eo,eL⟩:=zbE eo
    obtain⟨a',ha,ob⟩:=rel.at eo
    rw[hn] at ha; cases ha
    obtain⟨ys,sq,pr⟩:=ob.list eL
    obtain⟨us,ru,pl,_⟩:=I.list sq
    obtain⟨g,g1,g2⟩:=zlj (A:=X.A.in1) I (by show X.A.units+1+k<_; omega) pr ru px rx eb
    refine SeqAt.in_listAt g pl.isList g1 ?_
    rw[g2]
    exact⟨.bl b,H,I,rfl,ret _ _ _ _ _ Ext.refl rel (.bl b) q⟩
   ·exact q.elim
  ·exact q.elim
 | _=>exact(show False from q).elim
end
section
variable {X:Cx}{Z:Zx}{pos:Pos}
def zd2:List Nat→List D→Ev→Ev
 | i::is,d::ds,dl=>zd2 is ds (dl.set i (some d))
 | _,_,dl=>dl
def zeO:List Nat→List V→St→St
 | i::is,v::vs,σ=>zeO is vs (σ.set i (some v))
 | _,_,σ=>σ
theorem zgL {r:List Addr}{H:Hp}:∀ {is:List Nat} {ds:List D} {vs:List V} {dl:Ev} {σ:St},Rs r H dl σ→Rps r H ds vs→Rs r H (zd2 is ds dl) (zeO is vs σ)
 | [],ds,vs,dl,σ,h,p=>by cases ds <;> cases vs <;> exact h
 | i::is,[],vs,dl,σ,h,p=>by
  have z:=p.unnil
  subst z
  exact h
 | i::is,d::ds,vs,dl,σ,h,p=>by
  obtain⟨v,vs',rfl,p1,p2⟩:=p.uncons
  show Rs r H (zd2 is ds (dl.set i (some d))) (zeO is vs' (σ.set i (some v)))
  exact zgL (Rs.set i h p1) p2
inductive Nms (X:Cx):List Expr→List Nat→Prop
 | nil:Nms X [] []
 | cons {x:Str} {p:Pos} {i:Nat} {es:List Expr} {is:List Nat}:X.N[i]?=some x→Loc X.env.scope x→(X.fn x=true∨X.env.scope.names.lookup x=some .local)→Nms X es is→Nms X (.Name x p::es) (i::is)
def zdc (is:List Nat):TGs:=λvs σ H Q=>vs.length=is.length∧Q (zeO is vs σ) H
theorem zdV (hN:X.N.Nodup):∀ {es:List Expr} {is:List Nat},Nms X es is→PGs X es (zdc is)
 | _,_,.nil=>λpins s σ H vs us Q I r h=>by
  obtain⟨e,h⟩:=h
  have z:vs=[]:=by simpa using e
  subst z
  exact zk5 pins s σ H [] us Q I r ⟨rfl,h⟩
 | _,_,.cons (x:=x) (p:=p) (es:=es) (is:=is) h1 h2 h3 t=>λpins s σ H vs us Q I r h=>by
  obtain⟨e,h⟩:=h
  cases vs with
  | nil=>simp at e
  | cons v vs=>exact ziH (zfK hN h1 h2 h3) (zdV hN t) rfl pins s σ H (v::vs) us Q I r ⟨v,vs,rfl,by simpa using e,h⟩
end
open PySem L2
theorem zk7 (S:Sto)(o u:Ob):(S++[o]).set S.length u=S++[u]:=by simp
section
variable {X:Cx}{Z:Zx}
end
def zhq:Sd:=λ_ _ _ _=>False
def Df.never {P:Program}{w:World}{K:PySem.W.Frag}{mg:Str→Option Value}{base:Heap}{x:Str}{st:Stmt}{ps:List Str}(k:Nat)(d:Df K mg x st ps):Fk P w K mg base k x ps zhq:=
 ⟨d.f,d.fd,⟨λ_ _ _ _ ⟨_,_,_,_,_,_,_,z,_⟩=>z.elim,λ_ _ _ _ _ _ _ _ _ _ _ _ _ ⟨_,_,_,_,_,_,_,z,_⟩=>z.elim⟩,d.m,d.F.kp,d.b⟩
section
variable {X:Cx}{Z:Zx}{pos:Pos}
end
section
variable {X:Cx}{Z:Zx}{elt iter:Expr}{x:Str}{px pos:Pos}{ifs:List Expr}{sc ar:Scope}{N:List Str}{caps:List Nat}
end
section
variable {X:Cx}{Z:Zx}{pos:Pos}
def flat (zs:List Str):Str:=⟨(zs.flatMap λz=>z.cps.toList).toArray⟩
abbrev TDO:=Ev→Sto→(Option Int→Sto→Prop)→Prop
def upP (K:PySem.W.Frag)(Z:Zx)(t:TDO):TO:=λσ H Q=>∃(r:List Addr) (dl:Ev) (S:Sto) (Q':Option Int→Sto→Prop),Rs r H dl σ∧Rel K Z r S H∧t dl S Q'∧∀o H' r' S',Ext r r' H H'→Rel K Z r' S' H'→Q' o S'→Q o H'
def PDO (X:Cx)(Z:Zx)(e:Option Expr)(t:TDO):Prop:=PO X e (upP X.K Z t)
def dPart (t:TDE):TDO:=λdl S Q=>t dl S λd S1=>match d with
 | .int i=>Q (some i) S1
 | _=>False
theorem POimp {e:Option Expr}{t t':TO}(h:PO X e t)(g:∀σ H Q,t' σ H Q→t σ H Q):PO X e t':=λpins s σ H Q I q=>h pins s σ H Q I (g σ H Q q)
theorem zgJ {e:Expr}{t:TDE}(he:PD X Z e t):PDO X Z (some e) (dPart t):=POimp (zi3 he) λσ H Q ⟨r,dl,S,Q',rs,rel,h,ret⟩=>⟨r,dl,S,_,rs,rel,h,λv H1 r1 d S1 e1 rel1 p1 q1=>by
 cases p1 with
 | int i=>exact⟨i,rfl,ret (some i) H1 r1 S1 e1 rel1 q1⟩
 | _=>exact(show False from q1).elim⟩
end
section
variable {X:Cx}{Z:Zx}
end
section
variable {X:Cx}{Z:Zx}
theorem zlt {k:Nat}(hr:zaC k X.A):OpR X (compareOp .In) (upO X.K Z (zcj (wIn 0 false))):=by rw[zc1]; exact do_in 0 (by have:=hr.un; omega)
end
theorem zaO {n:Nat}{S:Sto}{o:Ob}{Q:DK}{i:Int}{d:D}(ho:S[n]?=some o)(hd:atI (zad o) i=some d)(hq:Q d S)(hL:zbA o=some o:=by rfl):zcj wIx (.ref n) (.int i) S Q:=by
 rw[zc1]
 unfold wIx
 simp only[zaQ ho hL,hd]
 exact hq
def putD (f:Str)(v:D):List (Str×D)→List (Str×D)
 | []=>[(f,v)]
 | p::r=>if p.1=f then (f,v)::r else p::putD f v r
theorem FR.lookup {r:List Addr}{H:Hp}{f:Str}:∀ {fs:List (Str×D)} {fs':List (Str×V)},FR r H fs fs'→(∀d,fs.lookup f=some d→∃v,fs'.lookup f=some v∧Rp r H d v)∧(fs.lookup f=none→fs'.lookup f=none)
 | [],fs',h=>by
  have e:fs'=[]:=by
   have:=h.1
   simpa using this.symm
  subst e
  exact⟨λd z=>by simp at z,λ_=>rfl⟩
 | p::fs,[],h=>by
  have:=h.1
  simp at this
 | p::fs,q::fs',h=>by
  obtain⟨h1,h2⟩:=h
  simp only[Vak,List.cons.injEq] at h1
  obtain⟨p1,p2⟩:=h2.tail
  obtain⟨i1,i2⟩:=FR.lookup (f:=f) (fs:=fs) (fs':=fs') ⟨h1.2,p2⟩
  obtain⟨pk,pv⟩:=p
  obtain⟨qk,qv⟩:=q
  have ek:pk=qk:=h1.1
  subst ek
  by_cases z:f=pk
  ·subst z
   simp only[List.lookup_cons_self]
   exact⟨λd hd=>⟨qv,rfl,by cases hd; exact p1⟩,λhd=>by cases hd⟩
  ·have zb:(f==pk)=false:=by simpa using z
   simp only[Val,zb]
   exact⟨i1,i2⟩
theorem FR.put {r:List Addr}{H:Hp}{f:Str}{d:D}{v:V}(q:Rp r H d v):∀ {fs:List (Str×D)} {fs':List (Str×V)},FR r H fs fs'→FR r H (putD f d fs) (putF f v fs')
 | [],fs',h=>by
  have e:fs'=[]:=by
   have:=h.1
   simpa using this.symm
  subst e
  exact⟨rfl,Rps.cons q Rps.nil⟩
 | p::fs,[],h=>by
  have:=h.1
  simp at this
 | p::fs,p'::fs',h=>by
  obtain⟨h1,h2⟩:=h
  simp only[Vak,List.cons.injEq] at h1
  obtain⟨p1,p2⟩:=h2.tail
  have ih:=FR.put (f:=f) q (fs:=fs) (fs':=fs') ⟨h1.2,p2⟩
  obtain⟨pk,pv⟩:=p
  obtain⟨qk,qv⟩:=p'
  have ek:pk=qk:=h1.1
  subst ek
  unfold putD putF
  by_cases z:pk=f
  ·rw[if_pos z,if_pos z]
   exact⟨by simp[h1.2,z],Rps.cons q p2⟩
  ·rw[if_neg z,if_neg z]
   exact⟨by simp[ih.1],Rps.cons p1 ih.2⟩
section
variable {X:Cx}{Z:Zx}{pos:Pos}
end
section
variable {κ:Type} [DecidableEq κ]
def zcT (kvs:List (κ×D))(k:κ):Option D:=(kvs.find? λkv=>decide (kv.1=k)).map (·.2)
def zhS (kvs:List (κ×D))(k:κ)(v:D):List (κ×D):=
 if (kvs.any λkv=>decide (kv.1=k))=true then kvs.map (λkv=>if kv.1=k then (kv.1,v) else kv) else kvs++[(k,v)]
theorem FR.split {r:List Addr}{H:Hp}{p:κ×D}{fs:List (κ×D)}{gs:List (κ×V)}(h:FR r H (p::fs) gs):∃q gs',gs=q::gs'∧p.1=q.1∧Rp r H p.2 q.2∧FR r H fs gs':=by
 cases gs with
 | nil=>
  have:=h.1
  simp at this
 | cons q gs'=>
  obtain⟨h1,h2⟩:=h
  simp only[Vak,List.cons.injEq] at h1
  obtain⟨p1,p2⟩:=h2.tail
  exact⟨q,gs',rfl,h1.1,p1,h1.2,p2⟩
theorem FR.unnil {r:List Addr}{H:Hp}{gs:List (κ×V)}(h:FR r H ([]:List (κ×D)) gs):gs=[]:=by
 have:=h.1
 simpa using this.symm
theorem FR.cons {r:List Addr}{H:Hp}{k:κ}{d:D}{v:V}{fs:List (κ×D)}{gs:List (κ×V)}(p:Rp r H d v)(h:FR r H fs gs):FR r H ((k,d)::fs) ((k,v)::gs):=⟨by simp[h.1],Rps.cons p h.2⟩
theorem FR.val {r:List Addr}{H:Hp}{k:κ}:∀ {fs:List (κ×D)} {gs:List (κ×V)},FR r H fs gs→(∀d,zcT fs k=some d→∃v,zby gs k=some v∧Rp r H d v)∧(zcT fs k=none→zby gs k=none)
 | [],gs,h=>by
  have z:=h.unnil
  subst z
  exact⟨(λd e=>by cases e),λ_=>rfl⟩
 | p::fs,gs,h=>by
  obtain⟨q,gs',rfl,e,pr,t⟩:=h.split
  obtain⟨i1,i2⟩:=FR.val (k:=k) t
  by_cases z:p.1=k
  ·have z':q.1=k:=e.symm.trans z
   rw[zfn z']
   have zd:zcT (p::fs) k=some p.2:=by simp[zcT,VaP,z]
   rw[zd]
   exact⟨λd hd=>⟨q.2,rfl,by cases hd; exact pr⟩,λhd=>by cases hd⟩
  ·have z':¬ q.1=k:=λy=>z (e.trans y)
   rw[zfj z']
   have zd:zcT (p::fs) k=zcT fs k:=by simp[zcT,VaP,z]
   rw[zd]
   exact⟨i1,i2⟩
theorem FR.putK {r:List Addr}{H:Hp}{k:κ}{d:D}{v:V}{fs:List (κ×D)}{gs:List (κ×V)}(p:Rp r H d v)(h:FR r H fs gs):FR r H (zhS fs k d) (putK gs k v):=by
 have any:∀ {fs:List (κ×D)} {gs:List (κ×V)},FR r H fs gs→(fs.any λkv=>decide (kv.1=k))=(gs.any λkv=>decide (kv.1=k)):=by
  intro fs
  induction fs with
  | nil=>intro gs h; have z:=h.unnil; subst z; rfl
  | cons q fs ih=>
   intro gs h
   obtain⟨q',gs',rfl,e,_,t⟩:=h.split
   rw[List.any_cons,List.any_cons,ih t,e]
 have mp:∀ {fs:List (κ×D)} {gs:List (κ×V)},FR r H fs gs→FR r H (fs.map λkv=>if kv.1=k then (kv.1,d) else kv) (gs.map λkv=>if kv.1=k then (kv.1,v) else kv):=by
  intro fs
  induction fs with
  | nil=>intro gs h; have z:=h.unnil; subst z; exact FR.nil
  | cons q fs ih=>
   intro gs h
   obtain⟨q',gs',rfl,e,pr,t⟩:=h.split
   rw[Vak,Vak]
   obtain⟨qk,qd⟩:=q
   obtain⟨qk',qv⟩:=q'
   have e':qk=qk':=e
   subst e'
   by_cases z:qk=k
   ·rw[if_pos z,if_pos z]; exact FR.cons p (ih t)
   ·rw[if_neg z,if_neg z]; exact FR.cons pr (ih t)
 have ap:∀ {fs:List (κ×D)} {gs:List (κ×V)},FR r H fs gs→FR r H (fs++[(k,d)]) (gs++[(k,v)]):=by
  intro fs
  induction fs with
  | nil=>intro gs h; have z:=h.unnil; subst z; exact FR.cons p FR.nil
  | cons q fs ih=>
   intro gs h
   obtain⟨q',gs',rfl,e,pr,t⟩:=h.split
   obtain⟨qk,qd⟩:=q
   obtain⟨qk',qv⟩:=q'
   have e':qk=qk':=e
   subst e'
   exact FR.cons pr (ih t)
 unfold zhS L2.putK
 rw[any h]
 split
 ·exact mp h
 ·exact ap h
end
section
variable {X:Cx}{Z:Zx}{pos:Pos}
end
section
variable {X:Cx}{Z:Zx}{pos:Pos}
def za9 (xs:List D)(lo hi:Option Int):List D:=(xs.drop (HT.sIx xs.length 0 lo)).take (HT.sIx xs.length xs.length hi-HT.sIx xs.length 0 lo)
theorem Rps.drop {r:List Addr}{H:Hp}{ds:List D}{vs:List V}(h:Rps r H ds vs)(k:Nat):Rps r H (ds.drop k) (vs.drop k):=
 ⟨by simp[h.1],λi d v h1 h2=>h.2 (k+i) d v (by simpa using h1) (by simpa using h2)⟩
theorem Rps.take {r:List Addr}{H:Hp}{ds:List D}{vs:List V}(h:Rps r H ds vs)(k:Nat):Rps r H (ds.take k) (vs.take k):=by
 refine⟨by simp[h.1],λi d v h1 h2=>?_⟩
 rw[List.getElem?_take] at h1 h2
 split at h1
 ·rw[if_pos (by assumption)] at h2
  exact h.2 i d v h1 h2
 ·cases h1
theorem Rps.cut {r:List Addr}{H:Hp}{ds:List D}{vs:List V}(h:Rps r H ds vs)(lo hi:Option Int):Rps r H (za9 ds lo hi) (zdo vs lo hi):=by
 unfold za9 zdo
 rw[h.1]
 exact(h.drop _).take _
@[irreducible] def zeH (te:TDE)(tl th:TDO):TDE:=λdl S Q=>te dl S λd S1=>tl dl S1 λl S2=>th dl S2 λu S3=>match d with
 | .ref n=>match lAt S3 n with
  | some o=>Q (.ref S3.length) (S3++[.lst (za9 (zad o) l u)])
  | none=>False
 | _=>False
theorem zlH {e:Expr}{te:TDE}{lo hi:Option Expr}{tl th:TDO}{p2:Pos}(he:PD X Z e te)(hl:PDO X Z lo tl)(hu:PDO X Z hi th):PD X Z (.Subscript e (.Slice lo hi none p2) pos) (zeH te tl th):=
 zaX (zjS zka he hl hu) λσ H Qv ⟨r,dl,S,Q,rs,rel,h,ret⟩=>by
  unfold zeH at h
  refine⟨r,dl,S,_,rs,rel,h,λv H1 r1 d S1 e1 rel1 p1 q1=>⟨r1,dl,S1,_,rs.ext e1,rel1,q1,λl H2 r2 S2 e2 rel2 q2=>⟨r2,dl,S2,_,rs.ext (e1.trans e2),rel2,q2,λu H3 r3 S3 e3 rel3 q3=>?_⟩⟩⟩
  cases p1 with
  | @ref n a hn=>
   dsimp only at q3
   split at q3
   ·rename_i o eo
    obtain⟨eo,eL⟩:=zbE eo
    obtain⟨a',ha,ob⟩:=rel3.at eo
    rw[e3.adr _ _ (e2.adr _ _ hn)] at ha; cases ha
    obtain⟨xs,sq,pr⟩:=ob.list eL
    refine⟨a,xs,rfl,sq,λp hp=>?_⟩
    obtain⟨rel4,x⟩:=rel3.push hp (pr.cut l u)
    exact ret _ _ _ (.ref S3.length) _ (e1.trans (e2.trans (e3.trans x))) rel4 (zcX rel3.len) q3
   ·exact q3.elim
  | _=>exact(show False from q3).elim
theorem zjX {te:TDE}{tl th:TDO}{dl:Ev}{S S3:Sto}{Q:DK}{n:Nat}{o:Ob}{lo hi:Option Int}(h:∀K:DK,K (.ref n) S3→te dl S K)(hl:∀K:Option Int→Sto→Prop,K lo S3→tl dl S3 K)(hh:∀K:Option Int→Sto→Prop,K hi S3→th dl S3 K)(ho:S3[n]?=some o)
  (hq:Q (.ref S3.length) (S3++[.lst (za9 (zad o) lo hi)]))(hL:zbA o=some o:=by rfl):zeH te tl th dl S Q:=by
 unfold zeH
 refine h _ (hl _ (hh _ ?_))
 simp only[zaQ ho hL]
 exact hq
end
section
variable {X:Cx}{Z:Zx}{pos:Pos}
theorem Rps.put {r:List Addr}{H:Hp}{ds:List D}{vs:List V}{d:D}{v:V}(h:Rps r H ds vs)(p:Rp r H d v)(j:Nat):Rps r H (ds.set j d) (vs.set j v):=by
 refine⟨by simp[h.1],λi x y h1 h2=>?_⟩
 by_cases z:j=i
 ·subst z
  have hl:j<ds.length:=by
   have:=(Vad.mp h1).1
   simpa using this
  rw[VaW hl] at h1
  rw[VaW (by rw[← h.1]; exact hl)] at h2
  cases h1
  cases h2
  exact p
 ·rw[VaM z] at h1 h2
  exact h.2 i x y h1 h2
end
section
variable {X:Cx}{pins:List (Addr×Obj)}{σ:St}{H:Hp}{s:Shared}{h':Heap}
theorem zhg {t':Nat}{ch:List Addr}{T:Addr}{xs:List V}{vals:Array Value}(I:Inv X pins σ H s)(k:∀b o,b ∉ ch→s.heap.get? b=some o→h'.get? b=some o)(hch:∀b∈ch,zbe X pins H b)
  (hT:s.heap.objs.size≤T)(ht:h'.IsTuple T vals)(rv:zaf xs vals.toList)(hl:xs.length≤sizeLine):Inv X pins σ (upd H T (.tup xs)) { s with heap:=h',toks:=t' }:=by
 have hTn:H T=none:=I.hok.fresh hT
 have old:∀ {b:Addr} {o:Obj},s.heap.get? b=some o→b≠T:=λ{b o} e z=>absurd (Var (Heap.lt_size e) hT) (by rw[z]; exact Vay _)
 have trk:∀b u,H b=some u→b ∉ ch:=λb u e z=>by
  rw[(hch b z).1] at e; cases e
 have up:∀b u,H b=some u→(upd H T (.tup xs)) b=some u:=zch hTn
 refine I.step (g':=s.gens) (d':=s.drawn) (ch:=ch) (λb hb=>?_) (λb o _ _ hc e _=>k b o hc e) (λb o _ _ hc e _=>⟨o.slots,k b o hc e⟩) (λb o _ e n=>by rw[zaK (old e)]; exact n)
  (λb o hc e=>⟨o,k b o hc e⟩) (λb ys e=>up _ _ e) (λb o u e=>up _ _ e) (λb ps e=>⟨#[],by rw[up _ _ e]; simp⟩) (λm hm=>?_) (λb u e=>?_) I.bare
 ·obtain⟨_,f1,_,f3,f4,f5⟩:=hch b hb
  exact⟨f3,f1,f4,f5⟩
 ·obtain⟨o,es,ep,ho,r⟩:=hm
  exact⟨o,es,ep,k _ o (λz=>(hch _ z).2.1 rfl) ho,r⟩
 ·by_cases hb:b=T
  ·subst hb
   rw[zb7] at e
   cases e
   exact⟨hl,vals.toList,rv,by rw[Array.toArray_toList]; exact ht⟩
  ·rw[zaK hb] at e
   refine(I.hok b u e).stay (λc v hc q=>k c v ?_ q) (λd z=>up _ _ z) λd ys z=>up _ _ z
   rcases hc with z | z
   ·rw[z]; exact trk b u e
   ·exact trk c _ z
theorem zfE {t':Nat}{ch:List Addr}(I:Inv X pins σ H s)(k:∀b o,b ∉ ch→s.heap.get? b=some o→h'.get? b=some o)(hch:∀b∈ch,zbe X pins H b):Inv X pins σ H { s with heap:=h',toks:=t' }:=by
 have trk:∀b u,H b=some u→b ∉ ch:=λb u e z=>by
  rw[(hch b z).1] at e; cases e
 refine I.step (g':=s.gens) (d':=s.drawn) (ch:=ch) (λb hb=>?_) (λb o _ _ hc e _=>k b o hc e) (λb o _ _ hc e _=>⟨o.slots,k b o hc e⟩) (λb o _ e n=>n)
  (λb o hc e=>⟨o,k b o hc e⟩) (λb ys e=>e) (λb o u e=>e) (λb ps e=>⟨#[],by rw[e]; simp⟩) (λm hm=>?_) (λb u e=>?_) I.bare
 ·obtain⟨_,f1,_,f3,f4,f5⟩:=hch b hb
  exact⟨f3,f1,f4,f5⟩
 ·obtain⟨o,es,ep,ho,r⟩:=hm
  exact⟨o,es,ep,k _ o (λz=>(hch _ z).2.1 rfl) ho,r⟩
 ·refine(I.hok b u e).stay (λc v hc q=>k c v ?_ q) (λd z=>z) λd ys z=>z
  rcases hc with z | z
  ·rw[z]; exact trk b u e
  ·exact trk c _ z
end
def Ite (K:PySem.W.Frag)(a:Addr):It:=
 ⟨λi H=>∃xs x,SqL K H a xs∧xs[i]?=some x,λi H x H'=>∃T v,x=.ref T∧H T=none∧H'=upd H T (.tup [.int (i:Int),v])∧∀xs,SqL K H a xs→xs[i]?=some v,λi H=>∃xs,SqL K H a xs∧xs.length=i⟩
theorem zi2 {P:Program}{w:World}{K:PySem.W.Frag}{elts:List Expr}{kk:Nat}{tp:Pos}(a e it:Addr)(hei:e≠it)(hae:a≠e)(hai:a≠it):
  zed P w K (.Tuple elts kk tp) (Ite K a) [e,it] e (λi h=>(∃old,IsEnum h e it i old)∧h.IsListIter it a i) where
 mem:=by simp
 obj:=λi h st b hb=>by
  obtain⟨⟨old,he⟩,o,e1,c,d⟩:=st
  have hb':b=e∨b=it:=by simpa using hb
  rcases hb' with rfl | rfl
  ·exact⟨_,he,λv z=>by cases z⟩
  ·exact⟨o,e1,λv z=>by rw[d] at z; cases z⟩
 keep:=λi h h' st k=>by
  obtain⟨⟨old,he⟩,hit⟩:=st
  exact⟨⟨old,k e (by simp) _ he⟩,hit.at λo x=>k it (by simp) o x⟩
 item:=by
  intro X hP hw hK hc i pins s σ H E I hf st hg
  subst hP hw hK
  obtain⟨xs,x,hq,hx⟩:=hg
  obtain⟨its,rv,p,hz⟩:=I.list hq
  obtain⟨u,hu,ru⟩:=rv.get hx
  have hi:i<its.toArray.size:=by
   have:=(Vad.mp hu).1
   simpa using this
  have W:=WalksT.enumerate (prog:=X.prog) (w:=X.w) (A:=X.A) (I.ok.hd hc) e it a hei hae hai its.toArray
  refine W.item i s _ _ hi ⟨st.1,st.2,p.isList⟩ λT vals h' tk hP hT ht mid k1=>?_
  obtain⟨t,y,hy,rfl⟩:=hP
  have ey:y=u:=by
   have z:its[i]?=some y:=by simpa using hy
   rw[hu] at z; exact(Option.some.inj z).symm
  subst ey
  have hw:∀b∈[e,it],zbe X pins H b:=hf
  have I1:Inv X pins σ (upd H T (.tup [.int (i:Int),x])) { s with heap:=h',toks:=tk }:=zhg I k1 hw hT ht (.cons ⟨t,rfl⟩ (.cons ru .nil)) (show 2≤sizeLine from zb3 (by decide))
  have neT:∀b∈[e,it],b≠T:=λb hb z=>W.apart i T h' mid (z ▸ hb)
  have hf1:∀b∈[e,it],zbe X pins (upd H T (.tup [.int (i:Int),x])) b:=λb hb=>⟨by rw[zaK (neT b hb)]; exact(hf b hb).1,(hf b hb).2⟩
  refine⟨.ref T,rfl,W.go elts kk tp i T _ _ _ mid λh2 st2 k2=>?_⟩
  have I2:Inv X pins σ (upd H T (.tup [.int (i:Int),x])) { s with heap:=h2,toks:=tk }:=zfE (s:={ s with heap:=h',toks:=tk }) (t':=tk) I1 k2 hf1
  exact⟨.ref T,_,I2,rfl,⟨T,x,rfl,I.hok.fresh hT,rfl,λys hy=>by rw[I.list_inj hy hq]; exact hx⟩,⟨st2.1,st2.2.1⟩,λb hb=>(hf1 b hb).1⟩
 done:=by
  intro X hP hw hK hc i pins s σ H E I hf st hg
  subst hP hw hK
  obtain⟨xs,hq,hx⟩:=hg
  obtain⟨its,rv,p,hz⟩:=I.list hq
  have W:=WalksT.enumerate (prog:=X.prog) (w:=X.w) (A:=X.A) (I.ok.hd hc) e it a hei hae hai its.toArray
  have hi:i=its.toArray.size:=by rw[Vag,← rv.length]; exact hx.symm
  subst hi
  exact W.done s _ _ ⟨st.1,st.2,p.isList⟩ λh' tk k1=>⟨rfl,zfE (t':=tk) I k1 hf⟩
 self:=λA i s Q E st h=>by
  obtain⟨⟨old,he⟩,_⟩:=st
  exact wpAny_pyIter_enum he h
section
variable {X:Cx}
def iEnum (K:PySem.W.Frag)(ta:TA):TI:=λσ H R=>ta σ H λvs H1=>∃a,vs=[.ref a]∧(∃xs,SqL K H1 a xs)∧R (Ite K a) H1
theorem zlJ {a:Expr}{ta:TA}{p pos tp:Pos}{elts:List Expr}{kk:Nat}(hg:Gl X "enumerate")(hm:X.mg "enumerate"=none)(hv:bootBuiltins "enumerate"=some (.type "enumerate"))(ha:PA X [a] ta)(hs:starEach [a] X.env=[(false,eval a X.env)]:=by rfl):
  PI X (.Tuple elts kk tp) (.Call (.Name "enumerate" p) [a] [] pos) (iEnum X.K ta):=by
 intro pins s σ H R I h
 refine Call_ (zc5 I hg hm hv (PyProof.Rows.callWith_type1 (thn (ha pos pins s σ H _ I h) λus s1 ⟨vs,H1,I1,r1,q1⟩=>?_) hs rfl))
 obtain⟨l,e,⟨xs,hq⟩,q⟩:=q1
 subst e
 cases r1 with
 | cons r rr=>
  cases rr
  cases r
  obtain⟨its,rv,pl,hz⟩:=I1.list hq
  have hll:l<s1.heap.objs.size:=by
   obtain⟨o,e,_⟩:=pl.isList
   exact Heap.lt_size e
  refine call_enumerate_list pl.isList λh' he hit hsz hk=>?_
  have I2:Inv X pins σ H1 { s1 with heap:=h' }:=I1.kept (t':=s1.toks) hk
  refine wpAny_pyIter_enum he ⟨s1.heap.objs.size+1,[s1.heap.objs.size+1,s1.heap.objs.size],_,_,H1,rfl,I2,zi2 l _ _ (Nat.succ_ne_self _) (Vah (Nat.lt_succ_of_lt hll)) (Vah hll),⟨⟨_,he⟩,hit⟩,λb hb=>?_,q⟩
  have hb':b=s1.heap.objs.size+1∨b=s1.heap.objs.size:=by simpa using hb
  rcases hb' with rfl | rfl
  ·exact I1.fpOk (Va4 _) (I1.hok.fresh (Va4 _))
  ·exact I1.fpOk (Vaa _) (I1.hok.fresh (Vaa _))
end
def Itz (K:PySem.W.Frag)(a b:Addr):It:=
  ⟨λi H=>∃xs ys x y,SqL K H a xs∧SqL K H b ys∧xs[i]?=some x∧ys[i]?=some y,
   λi H x H'=>∃T v u,x=.ref T∧H T=none∧H'=upd H T (.tup [v,u])∧(∀xs,SqL K H a xs→xs[i]?=some v)∧∀ys,SqL K H b ys→ys[i]?=some u,
   λi H=>∃xs ys,SqL K H a xs∧SqL K H b ys∧min xs.length ys.length=i⟩
theorem zja {P:Program}{w:World}{K:PySem.W.Frag}{elts:List Expr}{kk:Nat}{tp:Pos}(a b z TI TO i1 i2:Addr)(D:ZipApart z TI TO i1 i2 a b):
  zed P w K (.Tuple elts kk tp) (Itz K a b) [z,TI,TO,i1,i2] z (λi h=>IsZip h z TI TO .none∧IsPair h TI (.ref i1) (.ref i2)∧(∃p q,IsPair h TO p q)∧h.IsListIter i1 a i∧h.IsListIter i2 b i) where
 mem:=by simp
 obj:=λi h st c hc=>by
  obtain⟨hz,hTI,⟨p,q,hTO⟩,⟨o1,e1,c1,d1⟩,o2,e2,c2,d2⟩:=st
  have hc':c=z∨c=TI∨c=TO∨c=i1∨c=i2:=by simpa using hc
  rcases hc' with rfl | rfl | rfl | rfl | rfl
  ·exact⟨_,hz,λv y=>by cases y⟩
  ·exact⟨_,hTI,λv y=>by cases y⟩
  ·exact⟨_,hTO,λv y=>by cases y⟩
  ·exact⟨o1,e1,λv y=>by rw[d1] at y; cases y⟩
  ·exact⟨o2,e2,λv y=>by rw[d2] at y; cases y⟩
 keep:=λi h h' st k=>by
  obtain⟨hz,hTI,⟨p,q,hTO⟩,h1,h2⟩:=st
  exact⟨k z (by simp) _ hz,k TI (by simp) _ hTI,⟨p,q,k TO (by simp) _ hTO⟩,h1.at λo x=>k i1 (by simp) o x,h2.at λo x=>k i2 (by simp) o x⟩
 item:=by
  intro X hP hw hK hc i pins s σ H E I hf st hg
  subst hP hw hK
  obtain⟨xs,ys,x,y,hq,hq2,hx,hy⟩:=hg
  obtain⟨its,rv,p,_⟩:=I.list hq
  obtain⟨jts,rv2,p2,_⟩:=I.list hq2
  obtain⟨u,hu,ru⟩:=rv.get hx
  obtain⟨u2,hu2,ru2⟩:=rv2.get hy
  have hi:i<min its.toArray.size jts.toArray.size:=by
   have z1:=(Vad.mp hu).1
   have z2:=(Vad.mp hu2).1
   have sizes:its.toArray.size=its.length∧jts.toArray.size=jts.length:=⟨by simp,by simp⟩
   omega
  have W:=WalksT.zip2 (prog:=X.prog) (w:=X.w) (A:=X.A) (I.ok.hd hc) z TI TO i1 i2 a b D its.toArray jts.toArray
  obtain⟨s1,s2,s3,s4,s5⟩:=st
  refine W.item i s _ _ hi ⟨s1,s2,s3,s4,s5,p.isList,p2.isList⟩ λT vals h' tk hP hT ht mid k1=>?_
  obtain⟨v1,v2,hv1,hv2,rfl⟩:=hP
  have e1:v1=u:=by
   have z:its[i]?=some v1:=by simpa using hv1
   rw[hu] at z; exact(Option.some.inj z).symm
  have e2:v2=u2:=by
   have z:jts[i]?=some v2:=by simpa using hv2
   rw[hu2] at z; exact(Option.some.inj z).symm
  subst e1 e2
  have sub:∀c∈[z,TO,i1,i2],c∈[z,TI,TO,i1,i2]:=λc hc=>by
   have hc':c=z∨c=TO∨c=i1∨c=i2:=by simpa using hc
   rcases hc' with rfl | rfl | rfl | rfl <;> simp
  have I1:Inv X pins σ (upd H T (.tup [x,y])) { s with heap:=h',toks:=tk }:=zhg I k1 (λc hc=>hf c (sub c hc)) hT ht (.cons ru (.cons ru2 .nil)) (show 2≤sizeLine from zb3 (by decide))
  have tiT:TI≠T:=λq=>by
   have hl:TI<s.heap.objs.size:=Heap.lt_size s2
   rw[q] at hl
   exact absurd (Var hl hT) (Vay _)
  have neT:∀c∈[z,TI,TO,i1,i2],c≠T:=λc hc q=>by
   have hc':c=TI∨c∈[z,TO,i1,i2]:=by
    have hc2:c=z∨c=TI∨c=TO∨c=i1∨c=i2:=by simpa using hc
    rcases hc2 with rfl | rfl | rfl | rfl | rfl <;> simp
   rcases hc' with rfl | hc'
   ·exact tiT q
   ·exact W.apart i T h' mid (q ▸ hc')
  have hf1:∀c∈[z,TI,TO,i1,i2],zbe X pins (upd H T (.tup [x,y])) c:=λc hc=>⟨by rw[zaK (neT c hc)]; exact(hf c hc).1,(hf c hc).2⟩
  refine⟨.ref T,rfl,W.go elts kk tp i T _ _ _ mid λh2 st2 k2=>?_⟩
  have I2:Inv X pins σ (upd H T (.tup [x,y])) { s with heap:=h2,toks:=tk }:=zfE (s:={ s with heap:=h',toks:=tk }) (t':=tk) I1 k2 λc hc=>hf1 c (sub c hc)
  obtain⟨t1,t2,t3,t4,t5,_,_⟩:=st2
  exact⟨.ref T,_,I2,rfl,⟨T,x,y,rfl,I.hok.fresh hT,rfl,λzs hz=>by rw[I.list_inj hz hq]; exact hx,λzs hz=>by rw[I.list_inj hz hq2]; exact hy⟩,⟨t1,t2,t3,t4,t5⟩,λc hc=>(hf1 c hc).1⟩
 done:=by
  intro X hP hw hK hc i pins s σ H E I hf st hg
  subst hP hw hK
  obtain⟨xs,ys,hq,hq2,hx⟩:=hg
  obtain⟨its,rv,p,_⟩:=I.list hq
  obtain⟨jts,rv2,p2,_⟩:=I.list hq2
  have W:=WalksT.zip2 (prog:=X.prog) (w:=X.w) (A:=X.A) (I.ok.hd hc) z TI TO i1 i2 a b D its.toArray jts.toArray
  have hi:i=min its.toArray.size jts.toArray.size:=by rw[Vag,Vag,← rv.length,← rv2.length]; exact hx.symm
  subst hi
  have sub:∀c∈[z,TO,i1,i2],c∈[z,TI,TO,i1,i2]:=λc hc=>by
   have hc':c=z∨c=TO∨c=i1∨c=i2:=by simpa using hc
   rcases hc' with rfl | rfl | rfl | rfl <;> simp
  obtain⟨s1,s2,s3,s4,s5⟩:=st
  exact W.done s _ _ ⟨s1,s2,s3,s4,s5,p.isList,p2.isList⟩ λh' tk k1=>⟨rfl,zfE (t':=tk) I k1 λc hc=>hf c (sub c hc)⟩
 self:=λA i s Q E st h=>wpAny_pyIter_zip st.1 h
section
variable {X:Cx}
theorem zk3 {n l m:Nat}(h1:l<n)(h2:m<n):ZipApart (n+4) (n+2) (n+3) n (n+1) l m:=by
 have ne:∀ {i j:Nat},i<j∨j<i→i≠j:=λ{i j} h z=>by omega
 exact⟨ne (by omega),ne (by omega),ne (by omega),ne (by omega),ne (by omega),ne (by omega),ne (by omega),ne (by omega),ne (by omega),ne (by omega),ne (by omega),ne (by omega),ne (by omega),ne (by omega),ne (by omega),ne (by omega),ne (by omega),ne (by omega)⟩
def iZip (K:PySem.W.Frag)(ta:TA):TI:=λσ H R=>ta σ H λvs H1=>∃a b,vs=[.ref a,.ref b]∧(∃xs,SqL K H1 a xs)∧(∃ys,SqL K H1 b ys)∧R (Itz K a b) H1
theorem zgF {a b:Expr}{ta:TA}{p pos tp:Pos}{elts:List Expr}{kk:Nat}(hg:Gl X "zip")(hm:X.mg "zip"=none)(hv:bootBuiltins "zip"=some (.type "zip"))(ha:PA X [a,b] ta)
  (hs:starEach [a,b] X.env=[(false,eval a X.env),(false,eval b X.env)]:=by rfl)(hs2:starEach [b] X.env=[(false,eval b X.env)]:=by rfl):PI X (.Tuple elts kk tp) (.Call (.Name "zip" p) [a,b] [] pos) (iZip X.K ta):=by
 intro pins s σ H R I h
 refine Call_ (zc5 I hg hm hv (PyProof.Rows.callWith_type1 (thn (ha pos pins s σ H _ I h) λus s1 ⟨vs,H1,I1,r1,q1⟩=>?_) (by rw[hs,hs2]) (by rw[hs2]; rfl)))
 obtain⟨l,m,e,⟨xs,hq⟩,⟨ys,hq2⟩,q⟩:=q1
 subst e
 cases r1 with
 | cons r rr=>
  cases rr with
  | cons r2 rr=>
   cases rr
   cases r
   cases r2
   obtain⟨its,rv,pl,_⟩:=I1.list hq
   obtain⟨jts,rv2,pl2,_⟩:=I1.list hq2
   have h1:l<s1.heap.objs.size:=by
    obtain⟨o,e,_⟩:=pl.isList
    exact Heap.lt_size e
   have h2:m<s1.heap.objs.size:=by
    obtain⟨o,e,_⟩:=pl2.isList
    exact Heap.lt_size e
   refine call_zip_2 pl.isList pl2.isList λh' hz hTI hTO hi1 hi2 hsz hk=>?_
   have I2:Inv X pins σ H1 { s1 with heap:=h' }:=I1.kept (t':=s1.toks) hk
   have D:=zk3 h1 h2
   refine wpAny_pyIter_zip hz ⟨s1.heap.objs.size+4,[s1.heap.objs.size+4,s1.heap.objs.size+2,s1.heap.objs.size+3,s1.heap.objs.size,s1.heap.objs.size+1],_,_,H1,rfl,I2,zja l m _ _ _ _ _ D,⟨hz,hTI,⟨_,_,hTO⟩,hi1,hi2⟩,λc hc=>?_,q⟩
   have hge:s1.heap.objs.size≤c:=by
    have hc':c=s1.heap.objs.size+4∨c=s1.heap.objs.size+2∨c=s1.heap.objs.size+3∨c=s1.heap.objs.size∨c=s1.heap.objs.size+1:=by simpa using hc
    rcases hc' with rfl | rfl | rfl | rfl | rfl
    ·exact Nat.le_add_right _ _
    ·exact Nat.le_add_right _ _
    ·exact Nat.le_add_right _ _
    ·exact Vaa _
    ·exact Nat.le_add_right _ _
   exact I1.fpOk hge (I1.hok.fresh hge)
end
section
variable {X:Cx}{Z:Zx}{pos:Pos}
@[irreducible] def zfs (is:List Nat)(ta:TDA)(tb:TDS):TDS:=λE dl S=>ta dl S λds S1=>match ds with
 | [.ref n]=>(lAt S1 n).isSome=true∧∃W:Nat→Nat→Ev→Sto→Prop,(∃m,W 0 m dl S1)∧∀k m dl S,W k m dl S→match lAt S n with
  | some o=>match (zad o)[k]? with
   | some x=>tb { nx:=λdl' S'=>∃m',m'<m∧W (k+1) m' dl' S',rt:=E.rt,bk:=E.nx,ct:=λdl' S'=>∃m',m'<m∧W (k+1) m' dl' S' } (zd2 is [.int (k:Int),x] dl) S
   | none=>k=(zad o).length∧E.nx dl S
  | none=>False
 | _=>False
theorem zcq {r r':List Addr}{S':Sto}{H':Hp}{n:Nat}{a:Addr}{o:Ob}(hn:r'[n]?=some a)(rel:zax X.K r' S' H')(eo:lAt S' n=some o):∃xs,SqL X.K H' a xs∧Rps r' H' (zad o) xs:=by
 obtain⟨eo,eL⟩:=zbE eo
 obtain⟨a',ha,ob⟩:=rel.at eo
 rw[hn] at ha; cases ha
 exact ob.list eL
theorem zhZ {iter:Expr}{body:List Stmt}{es:List Expr}{kk:Nat}{tp p pos2:Pos}{is:List Nat}{ta:TDA}{tb:TDS}(hp:PassesOwn (model X.prog X.w) X.A X.env X.xe)(hc:X.calm=true)(hN:X.N.Nodup)(hn:Nms X es is)(h2:is.length=2)
  (hg:Gl X "enumerate")(hm:X.mg "enumerate"=none)(hv:bootBuiltins "enumerate"=some (.type "enumerate"))(ha:PDA X Z [iter] ta)(hb:zb1 X Z body tb)
  (hlen:(assignEach es X.env).length=is.length:=by rfl)(hst:(assignEach es X.env).findIdx? (·.1)=none:=by rfl)(hse:starEach [iter] X.env=[(false,eval iter X.env)]:=by rfl)
  (hs:∀y,foldedSetIterable (.Call (.Name "enumerate" p) [iter] [] pos2) X.env y=pure y:=by intro _; rfl):PDS X Z (.For (.Tuple es kk tp) (.Call (.Name "enumerate" p) [iter] [] pos2) body [] pos) (zfs is ta tb):=
 zb5 (zf9 hp hc (zlJ hg hm hv ha hse) (zfx hc (zdV hN hn) hlen hst) hb hs) λF σ H ⟨r,dl,S,E,rs,rel,h,ret⟩=>by
  unfold zfs at h
  refine⟨r,dl,S,_,rs,rel,h,λvs H1 r1 ds S1 x1 rel1 p1 q1=>?_⟩
  split at q1
  ·rename_i n
   obtain⟨v,vs',rfl,p2,p3⟩:=p1.uncons
   have z:=p3.unnil
   subst z
   cases p2 with
   | @ref n a hr=>
    obtain⟨hsome,W,⟨m0,w0⟩,turn⟩:=q1
    obtain⟨o1,eo1⟩:=VaO.mp hsome
    obtain⟨xs1,sq1,_⟩:=zcq (r:=r1) hr rel1.b eo1
    refine⟨a,rfl,⟨xs1,sq1⟩,λk m σ' H'=>∃r' dl' S',Ext r1 r' H1 H'∧Rs r' H' dl' σ'∧Rel X.K Z r' S' H'∧W k m dl' S',⟨m0,r1,dl,S1,Ext.refl,rs.ext x1,rel1,w0⟩,?_⟩
    rintro k m σ2 H2 ⟨r2,dl2,S2,x2,rs2,rel2,w2⟩
    have q:=turn k m dl2 S2 w2
    split at q
    ·rename_i o eo
     obtain⟨xs,sq,pr⟩:=zcq (r:=r2) (x2.adr _ _ hr) rel2.b eo
     split at q
     ·rename_i y ey
      obtain⟨v,hvv,pv⟩:=pr.get ey
      refine .inr ⟨⟨xs,v,sq,hvv⟩,λσ' H'=>∃m',m'<m∧∃r' dl' S',Ext r1 r' H1 H'∧Rs r' H' dl' σ'∧Rel X.K Z r' S' H'∧W (k+1) m' dl' S',λ_ _ z=>z,λv' H' y'=>?_⟩
      obtain⟨T,w,rfl,hT,rfl,hw⟩:=y'
      have ew:w=v:=by
       have z:=hw xs sq
       rw[hvv] at z; exact(Option.some.inj z).symm
      subst ew
      have x3:Ext r2 r2 H2 (upd H2 T (.tup [.int (k:Int),w])):=zhY hT
      have pp:Rps r2 (upd H2 T (.tup [.int (k:Int),w])) [.int (k:Int),y] [.int (k:Int),w]:=Rps.cons (.int _) (Rps.cons (pv.ext x3) Rps.nil)
      have rel3:=rel2.same (zch (o:=.tup [.int (k:Int),w]) hT)
      have go:∀σ' H' r' dl' S',Ext r2 r' (upd H2 T (.tup [.int (k:Int),w])) H'→Rs r' H' dl' σ'→Rel X.K Z r' S' H'→(∃m',m'<m∧W (k+1) m' dl' S')→∃m',m'<m∧∃r' dl' S',Ext r1 r' H1 H'∧Rs r' H' dl' σ'∧Rel X.K Z r' S' H'∧W (k+1) m' dl' S':=
       λσ' H' r' dl' S' x rs' rel' ⟨m',hm,w'⟩=>⟨m',hm,r',dl',S',x2.trans (x3.trans x),rs',rel',w'⟩
      refine⟨T,[.int (k:Int),w],rfl,SqT.of zb7,by rw[h2]; rfl,by rw[h2]; rfl,r2,_,S2,_,zgL (rs2.ext x3) pp,rel3,q,⟨go,λσ' H' r' dl' S' x rs' rel' z=>ret.nx σ' H' r' dl' S' (x1.trans (x2.trans (x3.trans x))) rs' rel' z,go,ret.rt.ext (x1.trans (x2.trans x3))⟩⟩
     ·obtain⟨hk,q⟩:=q
      exact .inl ⟨⟨xs,sq,by rw[← pr.1]; exact hk.symm⟩,ret.nx σ2 H2 r2 dl2 S2 (x1.trans x2) rs2 rel2 q⟩
    ·exact q.elim
  ·exact q1.elim
end
section
variable {X:Cx}{Z:Zx}{pos:Pos}
end
structure Dm (K:PySem.W.Frag)(C:Addr)(m qual:Str)(st:Stmt)(ps:List Str) where
 f:Addr
 fd:FuncData
 F:Fun K m qual st f fd
 m:Meth K C m f
 b:zbS K fd ps []
structure Fm (P:Program)(w:World)(K:PySem.W.Frag)(mg:Str→Option Value)(base:Heap)(k:Nat)(C:Addr)(x:Str)(ps:List Str)(sd:Sd) where
 f:Addr
 fd:FuncData
 ok:zaW P w K mg base (CXE P w) k f fd ps (upF K sd)
 m:Meth K C x f
 b:zbS K fd ps []
def Dm.mk' {P:Program}{w:World}{K:PySem.W.Frag}{mg:Str→Option Value}{base:Heap}{k:Nat}{C:Addr}{x qual:Str}{st:Stmt}{ps:List Str}{sd:Sd}(d:Dm K C x qual st ps)(h:zaW P w K mg base (CXE P w) k d.f d.fd ps (upF K sd)):Fm P w K mg base k C x ps sd:=
 ⟨d.f,d.fd,h,d.m,d.b⟩
section
variable {X:Cx}{Z:Zx}
end
section
variable {X:Cx}{Z:Zx}{pos:Pos}
def zfh:W2:=λx y S Q=>match x,y with
 | .ref n,.ref m=>match S[n]?,S[m]? with
  | some (.lst xs),some (.lst ys)=>xs.length+ys.length≤1000∧Q (.ref S.length) (S++[.lst (xs++ys)])
  | _,_=>False
 | _,_=>False
theorem Rps.app {r:List Addr}{H:Hp}:∀ {ds es:List D} {xs ys:List V},Rps r H ds xs→Rps r H es ys→Rps r H (ds++es) (xs++ys)
 | [],es,xs,ys,p,q=>by
  have z:=p.unnil
  subst z
  exact q
 | d::ds,es,xs,ys,p,q=>by
  obtain⟨v,vs,rfl,p1,p2⟩:=p.uncons
  exact Rps.cons p1 (p2.app q)
theorem zgb:OpR X (binaryOp .Add) (upO X.K Z (zcj zfh)):=by
 rw[zc1]
 exact zec zjb λx y H Qv ⟨r,S,dx,dy,Q,rel,px,py,q,ret⟩=>by
  unfold zfh at q
  split at q
  ·rename_i n m
   split at q
   ·rename_i xs ys e1 e2
    obtain⟨hl,q⟩:=q
    cases px with
    | @ref _ a hn=>
     cases py with
     | @ref _ a' hm=>
      obtain⟨z,hz,ob⟩:=rel.at e1
      rw[hn] at hz; cases hz
      obtain⟨z,hz,ob'⟩:=rel.at e2
      rw[hm] at hz; cases hz
      obtain⟨us,h1,p1⟩:=ob
      obtain⟨vs,h2,p2⟩:=ob'
      refine⟨a,a',us,vs,rfl,rfl,h1,h2,?_,λp hp=>?_⟩
      ·rw[← p1.1,← p2.1]; exact zb3 hl
      ·obtain⟨rel4,x⟩:=rel.push hp (p1.app p2)
       exact ret _ _ _ (.ref S.length) _ x rel4 (zcX rel.len) q
   ·exact q.elim
  ·exact q.elim
theorem zgw {n m:Nat}{S:Sto}{Q:DK}{xs ys:List D}(h1:S[n]?=some (.lst xs))(h2:S[m]?=some (.lst ys))(hl:xs.length+ys.length≤1000)(hq:Q (.ref S.length) (S++[.lst (xs++ys)])):zcj zfh (.ref n) (.ref m) S Q:=by
 rw[zc1]
 unfold zfh
 simp only[h1,h2]
 exact⟨hl,hq⟩
structure Kx (K:PySem.W.Frag)(C:Addr):Prop where
 cl:Cls K C
 ha:PySem.W.findIn K (.ref C) "__class__"=some (some (.builtin "object.__class__"))
 hn:PySem.W.specialIn K (.builtin "object.__class__") "__get__"=some (some (.builtin "getset_descriptor.__get__"))
 ht:PySem.W.takesIn K (.builtin "object.__class__")=some true
 hm:PySem.W.mroIn K C (.type "object")=some true
def KT (K:PySem.W.Frag)(cv:Value)(ans:List (Addr×Bool)):Prop:=∀C b,(C,b)∈ans→PySem.W.kitOne K (.ref C) cv=some b∧Kx K C
end
section
variable {X:Cx}{Z:Zx}
end
section
variable {n:Nat}{I:Addr}{fp wr:List Addr}{P:Nat→Value→Prop}{St:Nat→Shared→Prop}{prog:Program}{w:World}{A:Around}{s:Shared}{E:Value→Shared→Prop}{G:Array GenState→Array GenState→Prop}
end
section
variable {X:Cx}{Z:Zx}
end
structure zcy (sc around:Scope)(own caps:List Str):Prop where
 kind:sc.kind=.function
 nocell:∀y∈sc.names,y.2≠.cell
 own:∀y∈sc.names,y.2=.local→sc.names.lookup y.1=some .local
 cap:∀y∈caps,sc.names.lookup y=some .free
 out:∀y∈sc.names,y.2=.free→around.names.lookup y.1=some .cell
def zdO (k:Nat)(caps:List Nat)(wi:TI)(gt:TG)(te:TE):TE:=λσ H Q=>wi σ H λJ H1=>∀D,H1 D=none→∃W:Nat→Nat→Hp→Prop,(∃m,W 0 m (upd H1 D (.lst [])))∧∀i m H,W i m H→
 (J.stop i H∧Q (.ref D) H)∨(J.go i H∧∀x H',J.yld i H x H'→∀o:St,o.length=k→gt x (o++zaN caps σ) H' λσ8 H8=>(∃o8:St,o8.length=k∧σ8=o8++zaN caps σ)∧
  te σ8 H8 λy H3=>∃ys,H3 D=some (.lst ys)∧ys.length<sizeLine∧∃m',m'<m∧W (i+1) m' (upd H3 D (.lst (ys++[y]))))
section
variable {X:Cx}{pins:List (Addr×Obj)}{σ:St}{H:Hp}{s:Shared}
theorem zj3 {sc:Scope}{own N:List Str}{caps:List Nat}{cl:List (Str×Addr)}{fp:List Addr}{h1:Heap}{m:Str→Option Value}{tk:Nat}(I:Inv X pins σ H s)(cs:zcy sc X.env.scope own N)
  (hN:∀(j:Nat) (y:Str),N[j]?=some y→∃i,caps[j]?=some i∧X.N[i]?=some y)(hlen:caps.length=N.length)
  (c1:∀x c,cl.lookup x=some c→X.env.cells.lookup x=some c)(c2:∀y∈sc.names,y.2=.free→cl.lookup y.1=X.env.cells.lookup y.1)
  (hf:∀b∈fp,zbe X pins H b)(hfo:∀b∈fp,b<s.heap.objs.size)(hns:h1.Ns s.heap.objs.size m)(hk:∀b o,s.heap.get? b=some o→h1.get? b=some o):
  Inv (Cx.comp X sc (own++N) cl s.heap.objs.size s H fp (X.pn++pins)) [] (List.replicate own.length none++zaN caps σ) H { s with heap:=h1,toks:=tk }:=by
 have stk:∀b∈frs X.stack,b=X.env.locals∨b∈X.fs:=λb hb=>Vai.mp (I.stkSub b hb)
 refine⟨⟨I.ok.mod,cs.kind,I.ok.glob,I.ok.blt,Vaa _,λa b c h1 h2=>I.ok.inj a b c (c1 _ _ h1) (c1 _ _ h2),λy hy=>?_,λ_ _ z=>Bool.noConfusion z,I.ok.hd,I.ok.frames,.inl rfl,λb hb=>⟨Vah (hfo b hb),λy c e=>(hf b hb).2.2.2.2.1 y c (c1 _ _ e)⟩,
  I.bs,Vau I.ok.bsz I.sz,λb o e hb=>?_,λb hb z=>?_,I.stack,I.stkFree⟩,rfl,I.bare,Un.kept hk,⟨m,hns,λi y v e1 e2 e3=>?_⟩,λy c e=>?_,I.hok.fresh (Vaa _),λy c e=>I.freeC y c (c1 _ _ e),λp hp=>?_,I.hok.kept hk,?_⟩
 ·have hfr:sc.names.lookup y=some .free:=zf2 cs.nocell hy
  have hm:=zdW hfr
  obtain⟨c,e⟩:=I.ok.has y (.inl (cs.out _ hm rfl))
  exact⟨c,(c2 _ hm rfl).trans e⟩
 ·rcases (hf b hb).2.2.2.1 with z | z
  ·exact I.ok.noex b o e z
  ·exact absurd (Var (Heap.lt_size (I.ok.bs b o e).1) z) (Vay _)
 ·rcases stk b z with z | z
  ·exact(hf b hb).2.1 z
  ·exact(hf b hb).2.2.1 z
 ·rcases Nat.lt_or_ge i own.length with hi | hi
  ·rw[Vao (by simpa using hi),List.getElem?_replicate] at e2
   simp[hi] at e2
  ·obtain⟨i,rfl⟩:∃k,i=own.length+k:=⟨i-own.length,by omega⟩
   have e1':N[i]?=some y:=by
    rw[Vax hi] at e1
    simpa using e1
   have e2:(zaN caps σ)[i]?=some (some v):=by
    rw[Vax (by simp)] at e2
    simpa using e2
   obtain⟨j,hj,hy⟩:=hN i y e1'
   have e2':σ[j]?=some (some v):=by
    simp only[zaN,Vae,hj,Option.map_some,Option.some.injEq] at e2
    cases q:σ[j]? with
    | none=>rw[q] at e2; cases e2
    | some o=>rw[q] at e2; simp at e2; rw[e2]
   have hfr:sc.names.lookup y=some .free:=cs.cap y (Vam e1')
   have hm:=zdW hfr
   have hce:X.env.scope.names.lookup y=some .cell:=cs.out _ hm rfl
   obtain⟨m0,_,hl⟩:=I.loc
   obtain⟨u,r,l⟩:=hl j y v hy e2' (.inr (.inl hce))
   refine⟨u,r,.inr ⟨zgp hfr,?_⟩⟩
   rcases l with ⟨k,_⟩ | ⟨_,c,ec,hcell⟩
   ·rw[show X.env.kindOf y=some .cell from hce] at k; cases k
   ·exact⟨c,(c2 _ hm rfl).trans ec,hcell.keeps hk⟩
 ·obtain⟨v,z⟩:=I.cell y c (c1 _ _ e)
  exact⟨v,z.keeps hk⟩
 ·have hp':p∈X.pn++pins:=by simpa using hp
  obtain⟨p1,p2,p3,p4,p5⟩:=I.pin p hp'
  refine⟨hk _ _ p1,p2,Vah (Heap.lt_size p1),λz=>?_,p5⟩
  rcases stk _ z with z | z
  ·exact p3 z
  ·exact p4 z
 ·simp[zaN,hlen]
end
section
variable {X:Cx}{elt iter:Expr}{elts:List Expr}{kk:Nat}{tp:Pos}{pos:Pos}{sc:Scope}{own N:List Str}{caps:List Nat}{wi:TI}{gt:TG}{te:TE}
theorem zgD {use:Option (Value→Sem Unit)}{Qr:Value→Shared→Prop}(hc:X.calm=true)(cs:zcy sc X.env.scope own N)(hN:∀(j:Nat) (y:Str),N[j]?=some y→∃i,caps[j]?=some i∧X.N[i]?=some y)(hlen:caps.length=N.length)
  (hi:PI X (.Tuple elts kk tp) iter wi)(hg:∀cl C s0 H0 fp pn,PG (Cx.comp X sc (own++N) cl C s0 H0 fp pn) (.Tuple elts kk tp) gt)(he:∀cl C s0 H0 fp pn,PE (Cx.comp X sc (own++N) cl C s0 H0 fp pn) elt te)
  (hs:∀y,foldedSetIterable iter X.env y=pure y)
  {pins:List (Addr×Obj)}{s:Shared}{σ:St}{H:Hp}{Q:VK}{p2:Pos}(I:Inv X pins σ H s)(h:zdO own.length caps wi gt te σ H Q)
  (fin:∀D C s',zhR X pins σ C Q D s'→compPost (model X.prog X.w) X.A X.xe use Qr (.ref D) C (.ok .next) s'):
  wpAny (model X.prog X.w) X.A (comprehension (.ListComp elt [⟨.Tuple elts kk tp,iter,[],0⟩] sc pos) sc X.env p2 (newList []) false (eval iter X.env) use) Qr X.xe s:=by
 obtain⟨cl,k1,k2,k3⟩:=zix (sc:=sc) (env:=X.env) λy hy hf=>I.ok.has y.1 (.inl (cs.out y hy hf))
 refine wpAny_comprehension_free rfl hs k1 cs.kind cs.own (thn (hi pins s σ H _ I h) λv s1 h1=>thn h1 λitv s2 h2=>?_)
 obtain⟨it,fp,tn,J,H2,e,I2,T,st2,f2,body⟩:=h2
 subst e
 have hfo:∀b∈fp,b<s2.heap.objs.size:=λb hb=>by
  obtain⟨o,e,_⟩:=T.obj _ _ st2 b hb
  exact Heap.lt_size e
 have hD:H2 s2.heap.objs.size=none:=I2.hok.fresh (Vaa _)
 obtain⟨W,⟨m0,w0⟩,turn⟩:=body _ hD
 refine wpAny_newObj_type ?_
 have I3:Inv X pins σ (upd H2 s2.heap.objs.size (.lst [])) { s2 with heap:=s2.heap.push { cls:=.type "list",dict:=none,data:=.seq ([]:List Value).toArray },toks:=s2.toks }:=
  I2.laid (t':=s2.toks) (λb u e=>Heap.get?_push_of_some _ e) (Vaa _) ⟨Vaj _,[],0,.nil,Heap.get?_push_size _ rfl⟩
 generalize hs3:({ s2 with heap:=s2.heap.push { cls:=.type "list",dict:=none,data:=.seq ([]:List Value).toArray },toks:=s2.toks }:Shared)=s3 at I3
 have es3:({ s2 with heap:=s2.heap.push { cls:=.type "list",dict:=none,data:=.seq ([]:List Value).toArray } }:Shared)=s3:=hs3
 try rw[es3]
 have f3:∀b∈fp,zbe X pins (upd H2 s2.heap.objs.size (.lst [])) b:=λb hb=>⟨by rw[zaK (Vah (hfo b hb))]; exact(f2 b hb).1,(f2 b hb).2⟩
 have up3:∀b o,s2.heap.get? b=some o→s3.heap.get? b=some o:=λb o e=>by rw[← hs3]; exact Heap.get?_push_of_some _ e
 have st3:tn 0 s3.heap:=T.keep _ _ _ st2 λb _ o e=>up3 b o e
 have hfo3:∀b∈fp,b<s3.heap.objs.size:=λb hb=>by
  obtain⟨o,e,_⟩:=T.obj _ _ st3 b hb
  exact Heap.lt_size e
 refine wpAny_newFunctionEnv cs.nocell (λy hy=>by simp at hy) (λh4 ns4 sb4=>?_) cs.kind
 have hk4:∀b o,s3.heap.get? b=some o→h4.get? b=some o:=λb o e=>(sb4.2 b (Vah (Heap.lt_size e))).trans (Heap.get?_push_of_some _ e)
 have I4:=zj3 (tk:=s3.toks+([]:List (Str×Value)).length) I3 cs hN hlen k2 k3 f3 hfo3 ns4 hk4
 generalize hs4:({ s3 with heap:=h4,toks:=s3.toks+([]:List (Str×Value)).length }:Shared)=s4 at I4 ⊢
 have eh4:s4.heap=h4:=by rw[← hs4]
 have st4:tn 0 s4.heap:=by rw[eh4]; exact T.keep _ _ _ st3 λb _ o e=>hk4 b o e
 have fY:∀ {H':Hp},(∀b∈fp,H' b=none)→∀b∈fp,zbe (Cx.comp X sc (own++N) cl s3.heap.objs.size s3 (upd H2 s2.heap.objs.size (.lst [])) fp (X.pn++pins)) [] H' b:=λhn b hb=>by
  obtain⟨_,z2,z3,z4,z5,z6⟩:=f3 b hb
  refine⟨hn b hb,Vah (hfo3 b hb),λz=>?_,.inl hb,λy c e=>z5 y c (k2 _ _ e),λp hp=>z6 p (by simpa using hp)⟩
  rcases Vai.mp (I3.stkSub b z) with z | z
  ·exact z2 z
  ·exact z3 z
 have loop:codeAny (model X.prog X.w) X.A (.compLoop (.ListComp elt [⟨.Tuple elts kk tp,iter,[],0⟩] sc pos) 0 (.ref it) (.ref s2.heap.objs.size) (compEnvC sc cl s3.heap.objs.size X.env))
   (compPost (model X.prog X.w) X.A X.xe use Qr (.ref s2.heap.objs.size) s3.heap.objs.size) s4:=by
  refine LCp.codeAny_compLoop_pair (λn s'=>∃i o H',o.length=own.length∧Inv (Cx.comp X sc (own++N) cl s3.heap.objs.size s3 (upd H2 s2.heap.objs.size (.lst [])) fp (X.pn++pins)) [] (o++zaN caps σ) H' s'∧tn i s'.heap∧(∀b∈fp,H' b=none)∧W i n H') ?_ m0
   ⟨0,_,_,List.length_replicate,I4,st4,λb hb=>(f3 b hb).1,w0⟩
  rintro n s5 ⟨i,o,H5,ho,I5,st5,fr5,w5⟩
  rcases turn i n H5 w5 with ⟨stop,q⟩ | ⟨go,step⟩
  ·refine thn (T.done (Cx.comp X sc (own++N) cl s3.heap.objs.size s3 (upd H2 s2.heap.objs.size (.lst [])) fp (X.pn++pins)) rfl rfl rfl hc i [] s5 _ H5 _ I5 (fY fr5) st5 stop) λr s6 ⟨hr,I6⟩=>?_
   subst hr
   refine fin _ _ _ ⟨⟨H5,I3.call' I6.os I6.base I6.hok I6.bare (λb hb=>?_),q,I6.free⟩,?_,Nat.ne_of_gt I3.lt,I3.sz,λy c e z=>?_,λp hp z=>?_⟩
   ·obtain⟨_,z2,z3,z4,z5,z6⟩:=f3 b hb
    exact⟨z4,z2,z5,z6⟩
   ·obtain⟨m,hm,_⟩:=I6.loc
    exact⟨m,hm⟩
   ·obtain⟨v,hv⟩:=I3.cell y c e
    exact absurd (z ▸ hv.lt) (Vay _)
   ·exact absurd (z ▸ Heap.lt_size (I3.pin p hp).1) (Vay _)
  ·refine thn (T.item (Cx.comp X sc (own++N) cl s3.heap.objs.size s3 (upd H2 s2.heap.objs.size (.lst [])) fp (X.pn++pins)) rfl rfl rfl hc i [] s5 _ H5 _ I5 (fY fr5) st5 go) λr s6 ⟨u,hr,h6⟩=>?_
   subst hr
   refine wpAny_mono h6 (λ_ s7 ⟨y,H7,I7,r7,y7,st7,fr7⟩=>?_) λ_ _ z=>z
   have I7':=I7.pinned (fY fr7) (T.obj _ _ st7)
   refine wpAny_mono (hg _ _ _ _ _ _ _ s7 _ H7 y u _ I7' r7 (step y H7 y7 o ho)) (λ_ s8 ⟨σ8,H8,I8,⟨o8,ho8,e8⟩,q8⟩=>?_) λ_ _ z=>z.elim
   subst e8
   have stay:∀ {H':Hp} {s':Shared},Inv (Cx.comp X sc (own++N) cl s3.heap.objs.size s3 (upd H2 s2.heap.objs.size (.lst [])) fp (X.pn++pins)) ([]++zc7 fp s7.heap) (o8++zaN caps σ) H' s'→∀m',m'<n→W (i+1) m' H'→
     ∃m,m<n∧∃i o H',o.length=own.length∧Inv (Cx.comp X sc (own++N) cl s3.heap.objs.size s3 (upd H2 s2.heap.objs.size (.lst [])) fp (X.pn++pins)) [] (o++zaN caps σ) H' s'∧tn i s'.heap∧(∀b∈fp,H' b=none)∧W i m H':=λ{H' s'} J m' hm w'=>by
    refine⟨m',hm,i+1,o8,H',ho8,J.unpinned,T.keep _ _ _ st7 λb hb o e=>(J.pin (b,o) (Vaz _ (Vaz _ (zdh hb e)))).1,λb hb=>?_,w'⟩
    obtain⟨o,e,d⟩:=T.obj _ _ st7 b hb
    exact(J.pin (b,o) (Vaz _ (Vaz _ (zdh hb e)))).2.1
   refine wpAny_mono (he _ _ _ _ _ _ _ s8 _ H8 _ I8 q8) (λu2 s10 ⟨z,H10,I10,r10,q10⟩=>?_) λ_ _ z=>z.elim
   obtain⟨ys,hD10,hlt,m',hm,w10⟩:=q10
   refine wpAny_mono (zgr (X:=(Cx.comp X sc (own++N) cl s3.heap.objs.size s3 (upd H2 s2.heap.objs.size (.lst [])) fp (X.pn++pins))) _ s10 _ H10 (.ref s2.heap.objs.size) [z] (.ref s2.heap.objs.size) [u2] (λ_ H'=>H'=upd H10 s2.heap.objs.size (.lst (ys++[z]))) I10 rfl (.cons r10 .nil) ⟨_,ys,z,rfl,rfl,hD10,hlt,rfl⟩) (λ_ s11 ⟨_,H11,I11,_,e11⟩=>?_) λ_ _ z=>z.elim
   subst e11
   exact stay I11 m' hm w10
 exact codeAny_compStart_list loop (T.self _ 0 s4 _ _ st4 loop)
theorem zhe (hc:X.calm=true)(cs:zcy sc X.env.scope own N)(hN:caps.map (λi=>X.N[i]?)=N.map some)
  (hi:PI X (.Tuple elts kk tp) iter wi)(hg:∀cl C s0 H0 fp pn,PG (Cx.comp X sc (own++N) cl C s0 H0 fp pn) (.Tuple elts kk tp) gt)(he:∀cl C s0 H0 fp pn,PE (Cx.comp X sc (own++N) cl C s0 H0 fp pn) elt te)
  (hs:∀y,foldedSetIterable iter X.env y=pure y:=by intro _; rfl):PE X (.ListComp elt [⟨.Tuple elts kk tp,iter,[],0⟩] sc pos) (zdO own.length caps wi gt te):=by
 intro pins s σ H Q I h
 rw[eval_ListComp]
 refine zgD (use:=none) hc cs (zcJ hN).1 (zcJ hN).2 hi hg he hs I h λD C s' f=>?_
 obtain⟨⟨H',I',q,hC⟩,⟨m,ns⟩,l,o,c,p⟩:=f
 exact⟨m,ns,λh' sb=>⟨.ref D,H',I'.turned (t':=s'.toks) (λb ob hb e=>(sb.2 b hb).trans e) hC l (.inr o) c p,rfl,q⟩⟩
end
section
variable {X:Cx}{Z:Zx}{elt:Expr}{pos:Pos}{sc ar:Scope}{N:List Str}{caps:List Nat}
def zdM (caps:List Nat)(te:TDE)(k:Nat)(dl:Ev)(d1 d2:D)(S:Sto)(nx:Sto→Prop):Prop:=
 te (some d1::some d2::zbs caps dl) S λy S2=>match S2[k]? with
  | some (.lst ys)=>ys.length<1000∧nx (S2.set k (.lst (ys++[y])))
  | _=>False
theorem zhG {r:List Addr}{H:Hp}{dl:Ev}{σ:St}{d1 d2:D}{v1 v2:V}(h:Rs r H dl σ)(p1:Rp r H d1 v1)(p2:Rp r H d2 v2):Rs r H (some d1::some d2::zbs caps dl) (some v1::some v2::zaN caps σ):=by
 have z:=zgZ (caps:=caps) h p2
 refine⟨by have:=z.1; simp only[VaR] at this ⊢; omega,λi e hi=>?_⟩
 cases i with
 | zero=>simp at hi; subst hi; exact⟨v1,rfl,p1⟩
 | succ i=>exact z.2 i e (by simpa using hi)
end
section
variable {X:Cx}{Z:Zx}{pos:Pos}
end
section
variable {X:Cx}{Z:Zx}
end
section
variable {X:Cx}{Z:Zx}{pos:Pos}
def zeP:WC:=λds S Q=>match ds with
 | [.ref n]=>match lAt S n with
  | some o=>match zbr (zad o) with
   | some ns=>ns.length<64∧∀ms:List Int,ms.Perm ns→ms.Pairwise (·≤·)→Q (.ref S.length) (S++[.lst (ms.map D.int)])
   | none=>False
  | none=>False
 | _=>False
theorem zeg:∀ {us:List Value} {ms:List Int},IntsAre us ms→zaf (ms.map V.int) us
 | _,_,.nil=>.nil
 | _,_,.cons n t h=>.cons ⟨t,rfl⟩ (zeg h)
theorem zkz {us:List Value}:∀ {zs:List (Int×Tok)},us=zs.map (λp=>Value.int p.1 p.2)→IntsAre us (zs.map (·.1)):=by
 intro zs e
 subst e
 induction zs with
 | nil=>exact .nil
 | cons z zs ih=>exact .cons z.1 z.2 ih
theorem zlk:zaI X (.builtin "sorted") (upC X.K Z zeP):=by
 intro pins s σ H xs us Qv I rv h
 obtain⟨r,S,ds,Q,rel,ps,q,ret⟩:=h
 unfold zeP at q
 split at q
 ·rename_i n
  obtain⟨v,vs,rfl,p1,p2⟩:=ps.uncons
  have z:=p2.unnil
  subst z
  split at q
  ·rename_i o eo
   split at q
   ·rename_i ns en
    obtain⟨hl,q⟩:=q
    cases p1 with
    | ref h1=>
     obtain⟨eo,eL⟩:=zbE eo
     obtain⟨a,ha,ob⟩:=rel.at eo
     rw[h1] at ha; cases ha
     obtain⟨ys,sq,pr⟩:=ob.list eL
     obtain⟨u,rfl,ru⟩:=zcr rv
     cases ru
     obtain⟨its,ri,pl,hz⟩:=I.list sq
     obtain⟨zs,hz1,hz2⟩:=ze7 en pr ri
     have ei:its=zs.map (λp=>Value.int p.1 p.2):=by
      have z:=congrArg Array.toList hz1
      simpa [intItems] using z
     have ia:IntsAre its ns:=by
      have z:=zkz ei
      rwa [hz2] at z
     have ll:its.length=ns.length:=by rw[ei,Vac,← hz2,Vac]
     refine sorted_ints pl.isList ia (by omega) λout ms a1 a2 a3=>?_
     obtain⟨e,he⟩:=sortedAll_at s.heap its out
     have hf:H (s.heap.objs.size+1)=none:=I.hok.fresh (Va4 _)
     obtain⟨rel2,x⟩:=rel.push (ds:=ms.map D.int) (xs:=ms.map V.int) hf (zhy ms)
     refine⟨.ref (s.heap.objs.size+1),_,I.laid (t':=s.toks) (λb o e=>sortedAll_old e) (Va4 _) (show zaZ X.prog X.w _ _ _ (.lst (ms.map V.int)) from ⟨?_,out.toList,e,zeg a1,by rw[Array.toArray_toList]; exact he⟩),rfl,ret _ _ _ (.ref S.length) _ x rel2 (zcX rel.len) (q ms a2 a3)⟩
     rw[Vac,a2.length_eq]
     exact zb3 (by omega)
   ·exact q.elim
  ·exact q.elim
 ·exact q.elim
theorem zkv {n:Nat}{S:Sto}{Q:DK}{o:Ob}{ns:List Int}(h:lAt S n=some o)(e:zbr (zad o)=some ns)(hl:ns.length<64)(hq:∀ms:List Int,ms.Perm ns→ms.Pairwise (·≤·)→Q (.ref S.length) (S++[.lst (ms.map D.int)])):irr zeP [.ref n] S Q:=by
 rw[zcH]
 unfold zeP
 simp only[h,e]
 exact⟨hl,hq⟩
end
section
variable {X:Cx}{Z:Zx}{elt:Expr}{pos:Pos}{sc ar:Scope}{N:List Str}{caps:List Nat}
@[irreducible] def zdi (caps:List Nat)(ta:TDA)(te:TDE):TDE:=λdl S Q=>ta dl S λds S1=>match ds with
 | [.ref n,.ref n']=>((lAt S1 n).isSome=true∧(lAt S1 n').isSome=true)∧∃W:Nat→Nat→Sto→Prop,(∃m,W 0 m (S1++[.lst []]))∧∀k m S2,W k m S2→match lAt S2 n,lAt S2 n' with
  | some o,some o'=>match (zad o)[k]?,(zad o')[k]? with
   | some x,some y=>zdM caps te S1.length dl x y S2 λS3=>∃m',m'<m∧W (k+1) m' S3
   | _,_=>k=min (zad o).length (zad o').length∧Q (.ref S1.length) S2
  | _,_=>False
 | _=>False
theorem zhr {ta:TDA}{te:TDE}{σ:St}{H:Hp}{Qv:VK}(h:up X.K Z (zdi caps ta te) σ H Qv):
  zdO 2 caps (iZip X.K (upA X.K Z ta)) (zc9 X.K 2 (zdc [0,1])) (up X.K Z0 te) σ H Qv:=by
 obtain⟨r,dl,S,Q,rs,rel,h,ret⟩:=h
 unfold zdi at h
 refine⟨r,dl,S,_,rs,rel,h,λvs H1 r1 ds S1 x1 rel1 p1 q1=>?_⟩
 split at q1
 ·rename_i n n'
  obtain⟨v,vs',rfl,p2,p3⟩:=p1.uncons
  obtain⟨v',vs2,rfl,p4,p5⟩:=p3.uncons
  have z:=p5.unnil
  subst z
  cases p2 with
  | @ref n a hr=>
   cases p4 with
   | @ref n' a' hr'=>
    obtain⟨⟨hsome,hsome'⟩,W,⟨m0,w0⟩,turn⟩:=q1
    obtain⟨o1,eo1⟩:=VaO.mp hsome
    obtain⟨o2,eo2⟩:=VaO.mp hsome'
    obtain⟨xs1,sq1,_⟩:=zcq (r:=r1) hr rel1.b eo1
    obtain⟨ys1,sq2,_⟩:=zcq (r:=r1) hr' rel1.b eo2
    refine⟨a,a',rfl,⟨xs1,sq1⟩,⟨ys1,sq2⟩,λD0 hD=>?_⟩
    obtain⟨rel2,x2⟩:=rel1.b.push (ds:=[]) (xs:=[]) hD Rps.nil
    refine⟨λk m H'=>∃r' S',Ext (r1++[D0]) r' (upd H1 D0 (.lst [])) H'∧zax X.K r' S' H'∧W k m S',⟨m0,_,_,Ext.refl,rel2,w0⟩,?_⟩
    rintro k m H2 ⟨r2,S2,x3,rb2,w2⟩
    have ha2:r2[S1.length]?=some D0:=x3.adr _ _ (zfz rel1.len)
    have hr2:r2[n]?=some a:=(x2.trans x3).adr _ _ hr
    have hr2':r2[n']?=some a':=(x2.trans x3).adr _ _ hr'
    have q:=turn k m S2 w2
    split at q
    ·rename_i o o' eo eo'
     obtain⟨xs,sq,pr⟩:=zcq (r:=r2) hr2 rb2 eo
     obtain⟨ys,sq',pr'⟩:=zcq (r:=r2) hr2' rb2 eo'
     split at q
     ·rename_i y y2 ey ey2
      obtain⟨v,hv,pv⟩:=pr.get ey
      obtain⟨u,hvu,pu⟩:=pr'.get ey2
      refine .inr ⟨⟨xs,ys,v,u,sq,sq',hv,hvu⟩,λv' H' y' o8 ho8=>?_⟩
      obtain⟨T,w,w2',rfl,hT,rfl,hw,hw2⟩:=y'
      have ew:w=v:=by
       have z:=hw xs sq
       rw[hv] at z; exact(Option.some.inj z).symm
      have ew2:w2'=u:=by
       have z:=hw2 ys sq'
       rw[hvu] at z; exact(Option.some.inj z).symm
      subst ew ew2
      obtain⟨c1,c2,rfl⟩:∃c1 c2,o8=[c1,c2]:=by
       match o8,ho8 with
       | [c1,c2],_=>exact⟨c1,c2,rfl⟩
      have x4:Ext r2 r2 H2 (upd H2 T (.tup [w,w2'])):=zhY hT
      have rb3:=rb2.same (zch (o:=.tup [w,w2']) hT)
      have rs3:=rs.ext (x1.trans (x2.trans (x3.trans x4)))
      refine⟨T,[w,w2'],rfl,SqT.of zb7,rfl,rfl,⟨[some w,some w2'],rfl,rfl⟩,?_⟩
      have rsY:=zhG (caps:=caps) rs3 (pv.ext x4) (pu.ext x4)
      refine⟨r2,_,S2,_,rsY,⟨rb3,λ_ _ _ _ _ _ _ _ _ z=>z.elim⟩,q,λz H4 r4 dz S4 x6 rel4 p4 q4=>?_⟩
      split at q4
      ·rename_i ys eys
       obtain⟨hl,m',hm,q4⟩:=q4
       have ha4:r4[S1.length]?=some D0:=x6.adr _ _ ha2
       obtain⟨zs,hD4,pz⟩:=rel4.b.ob _ _ _ ha4 eys
       obtain⟨rel5,x7⟩:=rel4.b.set ha4 eys (pz.snoc p4)
       exact⟨zs,hD4,by rw[← pz.1]; exact zes (VaJ hl),m',hm,r4,_,x3.trans (x4.trans (x6.trans x7)),rel5,q4⟩
      ·exact q4.elim
     ·obtain⟨hk,q⟩:=q
      exact .inl ⟨⟨xs,ys,sq,sq',by rw[← pr.1,← pr'.1]; exact hk.symm⟩,ret _ H2 r2 _ S2 (x1.trans (x2.trans x3)) ⟨rb2,rel.xw.ext (x1.trans (x2.trans x3))⟩ (.ref ha2) q⟩
    ·exact q.elim
 ·exact q1.elim
theorem zl6 {ta:TDA}{te:TDE}{x1 x2:Str}{p1 p2 p pos2 tp:Pos}{kk:Nat}{a b:Expr}(har:X.env.scope=ar)(hc:X.calm=true)(cs:zcy sc ar [x1,x2] N)(hl1:sc.names.lookup x1=some .local)(hl2:sc.names.lookup x2=some .local)
  (hN:caps.map (λi=>X.N[i]?)=N.map some)(hnd:([x1,x2]++N).Nodup)(hg:Gl X "zip")(hm:X.mg "zip"=none)(hv:bootBuiltins "zip"=some (.type "zip"))(ha:PDA X Z [a,b] ta)
  (he:∀cl C s0 H0 fp pn,PD (Cx.comp X sc ([x1,x2]++N) cl C s0 H0 fp pn) Z0 elt te)
  (hse:starEach [a,b] X.env=[(false,eval a X.env),(false,eval b X.env)]:=by rfl)(hse2:starEach [b] X.env=[(false,eval b X.env)]:=by rfl)(hs:∀y,foldedSetIterable (.Call (.Name "zip" p) [a,b] [] pos2) X.env y=pure y:=by intro _; rfl):
  PD X Z (.ListComp elt [⟨.Tuple [.Name x1 p1,.Name x2 p2] kk tp,.Call (.Name "zip" p) [a,b] [] pos2,[],0⟩] sc pos) (zdi caps ta te):=by
 subst har
 refine zaX (zhe hc cs hN (gt:=zc9 X.K 2 (zdc [0,1])) (te:=up X.K Z0 te) (zgF hg hm hv ha hse hse2) (λcl C s0 H0 fp pn=>?_) he hs) λ_ _ _ h=>zhr h
 have l1:(Cx.comp X sc ([x1,x2]++N) cl C s0 H0 fp pn).env.scope.names.lookup x1=some .local:=lookup_relabel_local hl1
 have l2:(Cx.comp X sc ([x1,x2]++N) cl C s0 H0 fp pn).env.scope.names.lookup x2=some .local:=lookup_relabel_local hl2
 exact zfx hc (zdV hnd (.cons rfl (.inl l1) (.inr l1) (.cons rfl (.inl l2) (.inr l2) .nil))) rfl rfl
end
section
variable {X:Cx}{Z:Zx}{pos:Pos}
end
section
variable {n:Nat}{I:Addr}{fp wr:List Addr}{P:Nat→Value→Prop}{St:Nat→Shared→Prop}{prog:Program}{w:World}{A:Around}{s:Shared}{E:Value→Shared→Prop}{G:Array GenState→Array GenState→Prop}
end
section
variable {X:Cx}{Z:Zx}{pos:Pos}
end
section
variable {X:Cx}{Z:Zx}{pos:Pos}
theorem Rps.ins {r:List Addr}{H:Hp}{y:D}{w:V}(hy:Rp r H y w):∀ {ds:List D} {xs:List V} (k:Nat),Rps r H ds xs→Rps r H (ds.take k++y::ds.drop k) (xs.take k++w::xs.drop k)
 | [],xs,k,h=>by
  have z:=h.unnil
  subst z
  simpa using Rps.cons hy h
 | d::ds,xs,0,h=>Rps.cons hy h
 | d::ds,xs,k+1,h=>by
  obtain⟨v,vs,rfl,p1,p2⟩:=h.uncons
  exact Rps.cons p1 (Rps.ins hy k p2)
theorem zhf {P:Sto→D→D→Prop}{A:Around}{H:Hp}{s:Shared}{r:List Addr}{S:Sto}{ds es:List D}{xs ys:List V}{is js:List Value}(f:∀ {d e:D} {v1 v2:V} {u1 u2:Value},P S d e→Rp r H d v1→Rp r H e v2→zae v1 u1→zae v2 u2→SeqAt.EqAt A s u1 u2 true)(pr:Rps r H ds xs)(pr':Rps r H es ys)(ri:zaf xs is)(rj:zaf ys js)(hall:∀(k:Nat) (d e:D),ds[k]?=some d→es[k]?=some e→P S d e):
  ∀(k:Nat) (h1:k<is.toArray.size) (h2:k<js.toArray.size),SeqAt.EqAt A s is.toArray[k] js.toArray[k] true:=λk h1 h2=>by
 have l3:=ri.length
 have l4:=rj.length
 have k1:k<is.length:=by simpa using h1
 have k2:k<js.length:=by simpa using h2
 obtain⟨d,hd,pd⟩:=pr.get' (Vab (l:=xs) (i:=k) (by omega))
 obtain⟨e,he,pe⟩:=pr'.get' (Vab (l:=ys) (i:=k) (by omega))
 obtain⟨u1,hu1,ru1⟩:=ri.get (Vab (l:=xs) (i:=k) (by omega))
 obtain⟨u2,hu2,ru2⟩:=rj.get (Vab (l:=ys) (i:=k) (by omega))
 have z1:is.toArray[k]=u1:=by
  rw[Vab k1] at hu1
  simpa using Option.some.inj hu1
 have z2:js.toArray[k]=u2:=by
  rw[Vab k2] at hu2
  simpa using Option.some.inj hu2
 rw[z1,z2]
 exact f (hall k d e hd he) pd pe ru1 ru2
end
section
variable {X:Cx}{Z:Zx}{elt iter:Expr}{elts:List Expr}{kk:Nat}{tp pos:Pos}{sc ar:Scope}{own N:List Str}{caps:List Nat}{wi:TI}{gt:TG}
theorem zi1 {te:TE}{i:Nat}{y:Str}{py spos:Pos}(hc:X.calm=true)(cs:zcy sc X.env.scope own N)(hN:caps.map (λi=>X.N[i]?)=N.map some)
  (hi:PI X (.Tuple elts kk tp) iter wi)(hg:∀cl C s0 H0 fp pn,PG (Cx.comp X sc (own++N) cl C s0 H0 fp pn) (.Tuple elts kk tp) gt)(he:∀cl C s0 H0 fp pn,PE (Cx.comp X sc (own++N) cl C s0 H0 fp pn) elt te)
  (hNd:X.N.Nodup)(hy:X.N[i]?=some y)(hl:X.env.scope.names.lookup y=some .local)
  (hsw:swapsWith (.ListComp elt [⟨.Tuple elts kk tp,iter,[],0⟩] sc pos) (some (.Name y py)) spos.line X.env=pure true)
  (hs:∀y,foldedSetIterable iter X.env y=pure y:=by intro _; rfl):PS X (.Assign [.Name y py] (.ListComp elt [⟨.Tuple elts kk tp,iter,[],0⟩] sc pos) spos) (λE σ H=>zdO own.length caps wi gt te σ H λv H1=>E.nx (σ.set i (some v)) H1):=by
 intro pins s σ H E I h
 rw[exec_Assign_Name_used (hs:=hsw)]
 refine wpAny_bind (wpAny_standAt ?_); refine wpAny_bind ?_; show wpAny _ _ (comprehension _ sc X.env _ (newList []) false (eval iter X.env) (some (assign (.Name y py) X.env)) >>= λ_=>pure ()) _ _ s
 refine wpAny_bind (thn (zgD (use:=some (assign (.Name y py) X.env)) (Qr:=λ_ s'=>SP X pins E .next s') hc cs (zcJ hN).1 (zcJ hN).2 hi hg he hs I h λD C s' f=>?_) λ_ s' hq=>wpAny_pure (wpAny_pure hq))
 obtain⟨⟨H',I',q,hC⟩,⟨m,ns⟩,l,o,c,p⟩:=f
 refine wpAny_assign_Name (zgg (v:=.ref D) I' hNd hy (.inl hl) rfl (λs'' I'' ⟨a,sb,ha⟩=>⟨m,ns.sameBut sb ?_,λh' sb'=>⟨_,H',I''.turned (t':=s''.toks) (λb ob hb e=>(sb'.2 b hb).trans e) hC l (.inr o) c p,q⟩⟩) (.inr hl))
 rcases ha with rfl | ha
 ·exact l
 ·exact Ne.symm (c _ _ ha)
theorem zjZ {ta:TDA}{te:TDE}{x1 x2:Str}{p1 p2 p pos2:Pos}{a b:Expr}{i:Nat}{y:Str}{py spos:Pos}(har:X.env.scope=ar)(hc:X.calm=true)(cs:zcy sc ar [x1,x2] N)(hl1:sc.names.lookup x1=some .local)(hl2:sc.names.lookup x2=some .local)
  (hN:caps.map (λi=>X.N[i]?)=N.map some)(hnd:([x1,x2]++N).Nodup)(hNd:X.N.Nodup)(hy:X.N[i]?=some y)(hlo:ar.names.lookup y=some .local)(hg:Gl X "zip")(hm:X.mg "zip"=none)(hv:bootBuiltins "zip"=some (.type "zip"))(ha:PDA X Z [a,b] ta)
  (he:∀cl C s0 H0 fp pn,PD (Cx.comp X sc ([x1,x2]++N) cl C s0 H0 fp pn) Z0 elt te)
  (hsw:swapsWith (.ListComp elt [⟨.Tuple [.Name x1 p1,.Name x2 p2] kk tp,.Call (.Name "zip" p) [a,b] [] pos2,[],0⟩] sc pos) (some (.Name y py)) spos.line X.env=pure true:=by rfl)
  (hse:starEach [a,b] X.env=[(false,eval a X.env),(false,eval b X.env)]:=by rfl)(hse2:starEach [b] X.env=[(false,eval b X.env)]:=by rfl)(hs:∀y,foldedSetIterable (.Call (.Name "zip" p) [a,b] [] pos2) X.env y=pure y:=by intro _; rfl):
  PDS X Z (.Assign [.Name y py] (.ListComp elt [⟨.Tuple [.Name x1 p1,.Name x2 p2] kk tp,.Call (.Name "zip" p) [a,b] [] pos2,[],0⟩] sc pos) spos) (zdT i (zdi caps ta te)):=by
 subst har
 refine zb5 (zi1 hc cs hN (gt:=zc9 X.K 2 (zdc [0,1])) (te:=up X.K Z0 te) (zgF hg hm hv ha hse hse2) (λcl C s0 H0 fp pn=>?_) he hNd hy hlo hsw hs) λF σ H h=>zfN (λ_ h=>zhr h) h
 have l1:(Cx.comp X sc ([x1,x2]++N) cl C s0 H0 fp pn).env.scope.names.lookup x1=some .local:=lookup_relabel_local hl1
 have l2:(Cx.comp X sc ([x1,x2]++N) cl C s0 H0 fp pn).env.scope.names.lookup x2=some .local:=lookup_relabel_local hl2
 exact zfx hc (zdV hnd (.cons rfl (.inl l1) (.inr l1) (.cons rfl (.inl l2) (.inr l2) .nil))) rfl rfl
end
section
variable {X:Cx}{Z:Zx}
end
section
variable {X:Cx}{Z:Zx}{pos:Pos}
end
end L3
namespace L2
open PySem PySem.Spec PyProof.Rows
section
variable {X:Cx}{tg:Expr}
end
end L2
namespace L3
open PySem PySem.Spec PyProof.Rows L2
section
variable {X:Cx}{Z:Zx}{pos:Pos}
end
end L3
set_option Elab.async false
set_option linter.all false
set_option maxRecDepth 100000
set_option maxHeartbeats 40000000
namespace Mine
open PySem PySem.Spec PyProof.Rows L2 L3
theorem fsc {N P:List Str}{sc:Scope}(a:sc.kind=.function:=by rfl)(b:sc.isCoroutine=false:=by rfl)(c:sc.isGenerator=false:=by rfl)(d:N.Nodup:=by decide +kernel)(e:N.take P.length=P:=by rfl)(f:∀x∈P,sc.names.lookup x=some .local∨sc.names.lookup x=some .cell:=by decide +kernel)(g:∀y∈sc.names,y.2≠.free:=by decide +kernel):zaY N P sc:=⟨a,b,c,d,e,f,g⟩
theorem csc {sc ar:Scope}{x:Str}{caps:List Str}(a:sc.kind=.function:=by rfl)(b:∀y∈sc.names,y.2≠.cell:=by decide +kernel)(c:∀y∈sc.names,y.2=.local→sc.names.lookup y.1=some .local:=by decide +kernel)(d:sc.names.lookup x=some .local:=by rfl)(e:∀y∈caps,sc.names.lookup y=some .free:=by decide +kernel)(f:∀y∈sc.names,y.2=.free→ar.names.lookup y.1=some .cell:=by decide +kernel):zb4 sc ar x caps:=⟨a,b,c,d,e,f⟩
theorem cscG {sc ar:Scope}{own caps:List Str}(a:sc.kind=.function:=by rfl)(b:∀y∈sc.names,y.2≠.cell:=by decide +kernel)(c:∀y∈sc.names,y.2=.local→sc.names.lookup y.1=some .local:=by decide +kernel)(e:∀y∈caps,sc.names.lookup y=some .free:=by decide +kernel)(f:∀y∈sc.names,y.2=.free→ar.names.lookup y.1=some .cell:=by decide +kernel):zcy sc ar own caps:=⟨a,b,c,e,f⟩
abbrev Ln (sp:Sd)(n:Nat):Prop:=∀ds S Q ex,sp ds S Q ex→ds.length=n
theorem zaP {X:Cx}{x:Str}{p pos:Pos}{e:Expr}{es:List Expr}{t:TDA}{k j:Nat}{ps:List Str}{sd:Sd}{ex:Ev→Addr→Sto→Prop}(G:Fk X.prog X.w X.K X.mg X.base k x ps sd)(hr:zaC j X.A)(ha:PDA X ⟨ex,Z0.w⟩ (e::es) t)(hk:k≤j:=by decide)(hg:Gl X x:=by rfl)
  (hdb:(x==("__debug__":Str))=false:=by decide)(he:starEach (e::es) X.env=(false,eval e X.env)::starEach es X.env:=by rfl)(hpl:(backTo pos (starEach es X.env)).any (·.1)=false:=by rfl):PD X ⟨ex,Z0.w⟩ (.Call (.Name x p) (e::es) [] pos) (zfG ex sd t):=zc6 G (hr.mono hk) zdn hg ha hdb he hpl
abbrev zeE:Stmt:=top 2
abbrev zeu:List Str:=["a","b"]
theorem zlh:zaY ["a","b"] zeu (zak zeE):=fsc
abbrev zep:Stmt:=top 7
abbrev zdH:List Str:=["boxes"]
theorem zfB:zaY ["boxes","whole","box"] zdH (zak zep):=fsc
abbrev zeR:Stmt:=top 1
abbrev zdU:List Str:=["a","b"]
theorem zfU:zaY ["a","b","low","high"] zdU (zak zeR):=fsc
abbrev zd8:Stmt:=top 4
abbrev zea:List Str:=["box","other"]
theorem zkK:zaY ["box","other"] zea (zak zd8):=fsc
abbrev zen:Stmt:=top 5
abbrev zdY:List Str:=["boxes","numbers","box"]
theorem zjn:zaY ["boxes","numbers","box"] zdY (zak zen):=fsc
abbrev zfa:Stmt:=top 6
abbrev zdS:List Str:=["boxes"]
theorem zcM:zaY ["boxes","groups","number","box","grown","apart","numbers"] zdS (zak zfa):=fsc
abbrev zdy:Stmt:=top 8
abbrev zek:List Str:=["boxes"]
theorem zj5:zaY ["boxes"] zek (zak zdy):=fsc
abbrev zeI:Stmt:=top 11
abbrev zdN:List Str:=["_law_cell","_law_k"]
theorem zjg:zaY ["_law_cell","_law_k"] zdN (zak zeI):=fsc
abbrev zfy:Stmt:=top 14
abbrev zdL:List Str:=["_law_cell","_law_size","_law_wide"]
theorem zeN:zaY ["_law_cell","_law_size","_law_wide","_law_box_here","_law_k","_law_low"] zdL (zak zfy):=fsc
abbrev zfi:Stmt:=top 12
abbrev zci:List Str:=["_law_found"]
theorem zl4:zaY ["_law_found"] zci (zak zfi):=fsc
abbrev zbC:Stmt:=top 13
abbrev zbc:List Str:=["_law_found","_law_due_here"]
theorem zd9:zaY ["_law_found","_law_due_here"] zbc (zak zbC):=fsc
abbrev zeX:Stmt:=top 10
abbrev zd5:List Str:=["_law_script","_law_k"]
theorem zkJ:zaY ["_law_script","_law_k"] zd5 (zak zeX):=fsc
abbrev zeh:Stmt:=top 18
abbrev zew:List Str:=["_law_box_here","_law_factor","_law_moved"]
theorem zlN:zaY ["_law_box_here","_law_factor","_law_moved"] zew (zak zeh):=fsc
abbrev zfA:Stmt:=top 15
abbrev zex:List Str:=["_law_one","_law_other"]
theorem zha:zaY ["_law_one","_law_other","_law_k"] zex (zak zfA):=fsc
abbrev zdw:Stmt:=top 16
abbrev zd3:List Str:=["_law_boxes"]
theorem zdv:zaY ["_law_boxes","_law_marks_here","_law_at","_law_box_here","_law_mine","_law_least"] zd3 (zak zdw):=fsc
abbrev zcP:Stmt:=top 17
abbrev zdK:List Str:=["_law_boxes","_law_size"]
theorem zct:zaY ["_law_boxes","_law_size","_law_marks_here","_law_due_here","_law_at","_law_numbers","_law_ends","_law_k","_law_low"] zdK (zak zcP):=fsc
abbrev zb0:Stmt:=top 19
abbrev zfl:List Str:=["_law_script"]
theorem zcD:zaY ["_law_script","_law_size","_law_wide","_law_boxes","_law_moved","_law_handed","_law_found"] zfl (zak zb0):=fsc
theorem kfo {K:PySem.W.Frag}{f c:Addr}{m:Value}{n q:Str}{st:Stmt}(l:K.lookup f=some (fo n q st m c)):PySem.W.keepIn K (.ref f)=true:=by
 unfold PySem.W.keepIn
 simp only[l]
theorem ln1 {P:List Value→Prop}(h:∀a,P [a]):∀us:List Value,us.length=1→P us
 | [a],_=>h a
theorem ln2 {P:List Value→Prop}(h:∀a b,P [a,b]):∀us:List Value,us.length=2→P us
 | [a,b],_=>h a b
theorem ln3 {P:List Value→Prop}(h:∀a b c,P [a,b,c]):∀us:List Value,us.length=3→P us
 | [a,b,c],_=>h a b c
abbrev Bn (n q:Str)(st:Stmt)(ps:List Str):Prop:=∀(kV doc pm:Value) (an:Option Addr) (cdv ct:Value) (us:List Value),us.length=ps.length→bindArgs (PySem.W.fnOf n q (zcR st) (zck st) (zak st) .none kV doc pm an cdv ct) ⟨us,[]⟩=pure (ps.zip us)
def dfo {K:PySem.W.Frag}{mg:Str→Option Value}{h:Heap}(X:K.In h)(G:h.Ns mainGlobals mg){n:Str}{st:Stmt}{f c:Addr}{m:Value}{ps:List Str}(a:PySem.W.nsIn K mainGlobals n=some (some (.ref f)))(l:K.lookup f=some (fo n n st m c))(e:PySem.W.codeIn K (.ref c) n=true)(b:Bn n n st ps):Df K mg n st ps:=⟨_,_,zhj (st:=st) l e (kfo l),PySem.W.mg_of X G a,(zhj (st:=st) l e (kfo l)).binds b⟩
abbrev nsA (K:PySem.W.Frag)(n:Str)(f:Addr):Prop:=PySem.W.nsIn K mainGlobals n=some (some (.ref f))
abbrev lkA (K:PySem.W.Frag)(f:Addr)(n q:Str)(st:Stmt)(m:Value)(c:Addr):Prop:=K.lookup f=some (fo n q st m c)
abbrev cdA (K:PySem.W.Frag)(c:Addr)(q:Str):Prop:=PySem.W.codeIn K (.ref c) q=true
theorem zbo {n:Nat}{S:Sto}{Q:DK}{xs:List D}(h:S[n]?=some (.lst xs))(hq:Q (.int (xs.length:Nat)) S):irr zdg [.ref n] S Q:=by
 rw[zcH]
 unfold zdg
 simp only[zaQ h rfl]
 exact hq
theorem zbw {S:Sto}{n a:Nat}{o u:Ob}(h:S[n]?=some o)(hn:a≠n):(S.set a u)[n]?=some o:=by rw[VaM hn]; exact h
theorem zbh {S:Sto}{n:Nat}{o u:Ob}(h:S[n]?=some o):(S.set n u)[n]?=some u:=by
 have hk:=(Vad.mp h).1
 simp[hk]
theorem zaR {S:Sto}{n:Nat}{o:Ob}{T:Sto}(h:S[n]?=some o):(S++T)[n]?=some o:=by
 have hk:=(Vad.mp h).1
 rw[Vao hk]
 exact h
def zhQ (S T:Sto):Prop:=∀(x:Nat) (o:Ob),S[x]?=some o→T[x]?=some o
theorem zhQ.app (S T:Sto):zhQ S (S++T):=λ_ _ h=>zaR h
theorem zbX {S:Sto}{n:Nat}{o:Ob}(h:S[n]?=some o):n<S.length:=(Vad.mp h).1
theorem zjl {xs:List Int}{lo hi:Option Int}{k:Nat}{x:D}(h:(za9 (xs.map D.int) lo hi)[k]?=some x):∃c:Int,x=.int c:=by
 have m:=Vam h
 unfold L3.za9 at m
 obtain⟨c,_,rfl⟩:=Vaf.mp (List.mem_of_mem_drop (List.mem_of_mem_take m))
 exact⟨c,rfl⟩
theorem zgT {i n:Nat}{tb:TDS}{E:zcA}{dl:Ev}{S:Sto}{o:Ob}(W:Nat→Ev→Sto→Prop)(h0:W 0 dl S)(hk:∀k dl' S',W k dl' S'→S'[n]?=some o)
  (ht:∀(k:Nat) (x:D) (dl':Ev) (S':Sto) (nx ct:Ev→Sto→Prop),(zad o)[k]?=some x→W k dl' S'→(∀dl2 S2,W (k+1) dl2 S2→nx dl2 S2)→tb { nx:=nx,rt:=E.rt,bk:=E.nx,ct:=ct } (dl'.set i (some x)) S')(he:∀dl' S',W (zad o).length dl' S'→E.nx dl' S')(hL:zbA o=some o:=by rfl):
  (lAt S n).isSome=true∧∃W:Nat→Nat→Ev→Sto→Prop,(∃m,W 0 m dl S)∧∀k m dl S,W k m dl S→match lAt S n with
  | some o=>match (zad o)[k]? with
   | some x=>tb { nx:=λdl' S'=>∃m',m'<m∧W (k+1) m' dl' S',rt:=E.rt,bk:=E.nx,ct:=λdl' S'=>∃m',m'<m∧W (k+1) m' dl' S' } (dl.set i (some x)) S
   | none=>E.nx dl S
  | none=>False:=by
 refine⟨by rw[zaQ (hk _ _ _ h0) hL]; rfl,λk m dl' S'=>m+k=(zad o).length∧W k dl' S',⟨(zad o).length,by omega,h0⟩,?_⟩
 rintro k m dl' S' ⟨hm,w⟩
 rw[zaQ (hk _ _ _ w) hL]
 show (match (zad o)[k]? with
   | some x=>tb { nx:=λdl' S''=>∃m',m'<m∧(m'+(k+1)=(zad o).length∧W (k+1) dl' S''),rt:=E.rt,bk:=E.nx,ct:=λdl' S''=>∃m',m'<m∧(m'+(k+1)=(zad o).length∧W (k+1) dl' S'') } (dl'.set i (some x)) S'
   | none=>E.nx dl' S')
 split
 ·rename_i x hx
  have hk:k<(zad o).length:=(Vad.mp hx).1
  exact ht k x dl' S' _ _ hx w λdl2 S2 w2=>⟨m-1,by omega,by omega,w2⟩
 ·rename_i hx
  have hk:k=(zad o).length:=by
   have:=VaQ.mp hx
   omega
  exact he dl' S' (hk ▸ w)
inductive Nd where
 | number (t b:Int) | unknown (k:Int) | plus (i j:Int) | minus (i j:Int) | times (i j:Int) | power (i n:Int)
def Nd.d:Nd→D
 | .number t b=>.tup [.str "number",.int t,.int b]
 | .unknown k=>.tup [.str "unknown",.int k]
 | .plus i j=>.tup [.str "plus",.int i,.int j]
 | .minus i j=>.tup [.str "minus",.int i,.int j]
 | .times i j=>.tup [.str "times",.int i,.int j]
 | .power i n=>.tup [.str "power",.int i,.int n]
def Nd.ob (cN cU cP cM cT cW:Addr):Nd→Ob
 | .number t b=>.ins cN [("top",.int t),("bottom",.int b)]
 | .unknown k=>.ins cU [("place",.int k)]
 | .plus i j=>.ins cP [("one",.int i),("other",.int j)]
 | .minus i j=>.ins cM [("one",.int i),("other",.int j)]
 | .times i j=>.ins cT [("one",.int i),("other",.int j)]
 | .power i n=>.ins cW [("one",.int i),("many",.int n)]
def inR (m i:Int):Prop:=0≤i∧i<m
def Nd.ok (m q:Int):Nd→Prop
 | .number t b=>(1≤b∧b≤10^9)∧Int.gcd t b=1∧t.natAbs≤10^9
 | .unknown k=>inR q k
 | .plus i j=>inR m i∧inR m j
 | .minus i j=>inR m i∧inR m j
 | .times i j=>inR m i∧inR m j
 | .power i n=>inR m i∧2≤n∧n≤6
def frD (p:Int×Int):D:=.tup [.int p.1,.int p.2]
abbrev gt (vs:List (Int×Int))(i:Int):Int×Int:=vs.getD i.toNat (0,1)
theorem zjG {vs:List (Int×Int)}{i:Int}(h:inR vs.length i):gt vs i∈vs:=by
 obtain⟨h0,h1⟩:=h
 have hk:i.toNat<vs.length:=by omega
 have e:gt vs i=vs[i.toNat]:=by simp[gt,hk]
 rw[e]
 exact VaC hk
theorem zez {vs:List (Int×Int)}{i:Int}(h:inR vs.length i):atI (vs.map frD) i=some (frD (gt vs i)):=by
 obtain⟨h0,h1⟩:=h
 have hk:i.toNat<vs.length:=by omega
 have z:=za6 (xs:=vs.map frD) (j:=i.toNat) (v:=frD (gt vs i)) (by rw[Vae,Vab hk]; simp[gt,hk])
 rw[show ((i.toNat:Nat):Int)=i by omega] at z
 exact z
structure zhK (a b c d mn mx:Int):Prop where
 lo:mn=a*c∨mn=a*d∨mn=b*c∨mn=b*d
 l1:mn≤a*c
 l2:mn≤a*d
 l3:mn≤b*c
 l4:mn≤b*d
 hi:mx=a*c∨mx=a*d∨mx=b*c∨mx=b*d
 h1:a*c≤mx
 h2:a*d≤mx
 h3:b*c≤mx
 h4:b*d≤mx
theorem zhK.of {a b c d mn mx:Int}(m1:mn∈[a*c,a*d,b*c,b*d])(m2:∀y∈[a*c,a*d,b*c,b*d],mn≤y)(x1:mx∈[a*c,a*d,b*c,b*d])(x2:∀y∈[a*c,a*d,b*c,b*d],y≤mx):zhK a b c d mn mx:=by
 simp only[Vai,Va3,or_false] at m1 x1
 exact⟨m1,m2 _ (by simp),m2 _ (by simp),m2 _ (by simp),m2 _ (by simp),x1,x2 _ (by simp),x2 _ (by simp),x2 _ (by simp),x2 _ (by simp)⟩
structure Pows (a b:Int)(n:Nat)(m M:Int):Prop where
 lo:m=a^n∨m=b^n∨(a<0∧0<b∧m=0)
 l1:m≤a^n
 l2:m≤b^n
 l3:a<0→0<b→m≤0
 hi:M=a^n∨M=b^n
 h1:a^n≤M
 h2:b^n≤M
theorem zpow {n:Nat}(h:1≤n):(0:Int)^n=0:=by
 cases n with
 | zero=>omega
 | succ k=>rw[Int.pow_succ,Int.mul_zero]
theorem Pows.of {a b g mn mx:Int}{n:Nat}(hg:1≤g){l:List Int}(hl:l=[a^n*g,b^n*g]∧¬ (a<0∧0<b)∨l=[a^n*g,b^n*g,0^n*g]∧a<0∧0<b)(hn:1≤n)(m1:mn∈l)(m2:∀y∈l,mn≤y)(x1:mx∈l)(x2:∀y∈l,y≤mx):
  ∃m M,Pows a b n m M∧mn=m*g∧mx=M*g:=by
 have can:∀ {x y:Int},x*g≤y*g→x≤y:=λ{x y} h=>Int.le_of_mul_le_mul_right h (by omega)
 rcases hl with ⟨rfl,hz⟩ | ⟨rfl,hz1,hz2⟩
 ·simp only[Vai,Va3,or_false] at m1 x1
  have a1:=m2 (a^n*g) (by simp)
  have a2:=m2 (b^n*g) (by simp)
  have b1:=x2 (a^n*g) (by simp)
  have b2:=x2 (b^n*g) (by simp)
  obtain⟨m,hm,em⟩:∃m,(m=a^n∨m=b^n)∧mn=m*g:=by
   rcases m1 with e | e
   ·exact⟨_,.inl rfl,e⟩
   ·exact⟨_,.inr rfl,e⟩
  obtain⟨M,hM,eM⟩:∃m,(m=a^n∨m=b^n)∧mx=m*g:=by
   rcases x1 with e | e
   ·exact⟨_,.inl rfl,e⟩
   ·exact⟨_,.inr rfl,e⟩
  subst em eM
  exact⟨m,M,⟨hm.elim .inl λe=>.inr (.inl e),can a1,can a2,λc1 c2=>absurd ⟨c1,c2⟩ hz,hM,can b1,can b2⟩,rfl,rfl⟩
 ·rw[zpow hn,Int.zero_mul] at m1 m2 x1 x2
  simp only[Vai,Va3,or_false] at m1 x1
  have a1:=m2 (a^n*g) (by simp)
  have a2:=m2 (b^n*g) (by simp)
  have a3:=m2 0 (by simp)
  have b1:=x2 (a^n*g) (by simp)
  have b2:=x2 (b^n*g) (by simp)
  have b3:=x2 0 (by simp)
  obtain⟨m,hm,em⟩:∃m,(m=a^n∨m=b^n∨m=0)∧mn=m*g:=by
   rcases m1 with e | e | e
   ·exact⟨_,.inl rfl,e⟩
   ·exact⟨_,.inr (.inl rfl),e⟩
   ·exact⟨0,.inr (.inr rfl),by rw[e,Int.zero_mul]⟩
  have bp:(0:Int)≤b^n:=Int.pow_nonneg (by omega)
  have bg:=Int.mul_nonneg bp (show 0≤g by omega)
  obtain⟨M,hM,eM⟩:∃m,(m=a^n∨m=b^n)∧mx=m*g:=by
   rcases x1 with e | e | e
   ·exact⟨_,.inl rfl,e⟩
   ·exact⟨_,.inr rfl,e⟩
   ·exact⟨_,.inr rfl,by omega⟩
  subst em eM
  refine⟨m,M,⟨?_,can a1,can a2,λ_ _=>can (by rw[Int.zero_mul]; exact a3),hM,can b1,can b2⟩,rfl,rfl⟩
  rcases hm with e | e | e
  ·exact .inl e
  ·exact .inr (.inl e)
  ·exact .inr (.inr ⟨hz1,hz2,e⟩)
def Spn (B:Nat)(vs:List (Int×Int)):Prop:=∀p∈vs,p.1≤p.2∧Sz B p.1∧Sz B p.2
theorem Spn.at {B:Nat}{vs:List (Int×Int)}(h:Spn B vs){i:Int}(hi:inR vs.length i):(gt vs i).1≤(gt vs i).2∧Sz B (gt vs i).1∧Sz B (gt vs i).2:=h _ (zjG hi)
theorem Spn.mono {B C:Nat}{vs:List (Int×Int)}(h:Spn B vs)(hc:B≤C):Spn C vs:=λp hp=>⟨(h p hp).1,(h p hp).2.1.mono hc,(h p hp).2.2.mono hc⟩
def zbt (p q:Int×Int):Option (Int×Int):=if (if q.2<p.2 then q.2 else p.2)<(if q.1 > p.1 then q.1 else p.1) then none else some (if q.1 > p.1 then q.1 else p.1,if q.2<p.2 then q.2 else p.2)
theorem zc2 {a b:TDS}{E:zcA}{dl:Ev}{S:Sto}(W:Ev→Sto→Prop)(ha:∀nx:Ev→Sto→Prop,(∀dl' S',W dl' S'→nx dl' S')→a { nx:=nx,rt:=E.rt,bk:=E.bk,ct:=E.ct } dl S)(hb:∀dl' S',W dl' S'→b E dl' S'):zbU a b E dl S:=ha _ hb
theorem zbJ {S:Sto}{Q:DK}{xs:List D}(hq:Q (.int (xs.length:Nat)) S):irr zdg [.tup xs] S Q:=by
 rw[zcH]
 exact hq
theorem zlq {a b c:TDS}{E:zcA}{dl:Ev}{S:Sto}(W:Ev→Sto→Prop)(ha:∀nx:Ev→Sto→Prop,(∀dl' S',W dl' S'→nx dl' S')→zbU a b { nx:=nx,rt:=E.rt,bk:=E.bk,ct:=E.ct } dl S)(hb:∀dl' S',W dl' S'→c E dl' S'):zbU a (zbU b c) E dl S:=ha _ hb
theorem Spn.set {B:Nat}{vs:List (Int×Int)}(h:Spn B vs){k:Nat}{u:Int}(hu:Sz B u):Spn B (vs.set k (u,u)):=λp hp=>by
 rcases List.mem_or_eq_of_mem_set hp with e | e
 ·exact h p e
 ·subst e; exact⟨VaY _,hu,hu⟩
def Nd.wt (ws:List Nat):Nd→Nat
 | .number _ _=>1
 | .unknown _=>1
 | .plus i j=>ws.getD i.toNat 0+ws.getD j.toNat 0
 | .minus i j=>ws.getD i.toNat 0+ws.getD j.toNat 0
 | .times i j=>ws.getD i.toNat 0+ws.getD j.toNat 0
 | .power i n=>n.toNat*ws.getD i.toNat 0
structure zbI (q:Int)(ns:List Nd)(ws:List Nat):Prop where
 len:ws.length=ns.length
 ok:∀(k:Nat) (v:Nd),ns[k]?=some v→v.ok k q∧ws.getD k 0=v.wt ws∧1≤v.wt ws∧v.wt ws≤16
theorem zbI.nil (q:Int):zbI q [] []:=⟨rfl,λk v h=>by simp at h⟩
theorem zbI.w1 {q:Int}{ns:List Nd}{ws:List Nat}(h:zbI q ns ws){i:Int}(hi:inR ns.length i):1≤ws.getD i.toNat 0∧ws.getD i.toNat 0≤16:=by
 obtain⟨h0,h1⟩:=hi
 have hk:i.toNat<ns.length:=(by omega)
 obtain⟨_,e,a,b⟩:=h.ok i.toNat _ (Vab hk)
 omega
theorem zbI.w2 {q:Int}{ns:List Nd}{ws:List Nat}(h:zbI q ns ws):∀v:Nd,v.ok ns.length q→1≤v.wt ws∧v.wt ws≤96
 | .number _ _,_=>⟨Vaa 1,show 1≤96 by decide⟩
 | .unknown _,_=>⟨Vaa 1,show 1≤96 by decide⟩
 | .plus i j,ok=>by have a:=h.w1 ok.1; have b:=h.w1 ok.2; simp only[Nd.wt]; omega
 | .minus i j,ok=>by have a:=h.w1 ok.1; have b:=h.w1 ok.2; simp only[Nd.wt]; omega
 | .times i j,ok=>by have a:=h.w1 ok.1; have b:=h.w1 ok.2; simp only[Nd.wt]; omega
 | .power i n,ok=>by
  have a:=h.w1 ok.1
  have n2:=ok.2.1
  have n6:=ok.2.2
  have m1:=Nat.mul_le_mul (show 1≤n.toNat by omega) a.1
  have m2:=Nat.mul_le_mul (show n.toNat≤6 by omega) a.2
  simp only[Nd.wt]
  omega
theorem zhV {ws:List Nat}{w:Nat}{k:Nat}(h:k<ws.length):(ws++[w]).getD k 0=ws.getD k 0:=by
 rw[Vap,Vap,Vao h]
theorem zhB {ws:List Nat}{w:Nat}{q:Int}{k:Nat}(hk:k≤ws.length):∀v:Nd,v.ok k q→v.wt (ws++[w])=v.wt ws:=by
 have e:∀i:Int,inR k i→(ws++[w]).getD i.toNat 0=ws.getD i.toNat 0:=λi hi=>zhV (by have a:=hi.1; have b:=hi.2; omega)
 intro v ok
 cases v with
 | number _ _=>rfl
 | unknown _=>rfl
 | plus i j=>show _+_=_+_; rw[e i ok.1,e j ok.2]
 | minus i j=>show _+_=_+_; rw[e i ok.1,e j ok.2]
 | times i j=>show _+_=_+_; rw[e i ok.1,e j ok.2]
 | power i n=>show _*_=_*_; rw[e i ok.1]
theorem zbI.snoc {q:Int}{ns:List Nd}{ws:List Nat}(h:zbI q ns ws){v:Nd}(ok:v.ok ns.length q)(h16:v.wt ws≤16):zbI q (ns++[v]) (ws++[v.wt ws]):=by
 refine⟨by simp[h.len],λk u hu=>?_⟩
 by_cases hk:k<ns.length
 ·rw[Vao hk] at hu
  obtain⟨a,b,c,d⟩:=h.ok k u hu
  have e:=zhB (w:=v.wt ws) (q:=q) (k:=k) (by rw[h.len]; omega) u a
  rw[e,zhV (by rw[h.len]; exact hk)]
  exact⟨a,b,c,d⟩
 ·have hl:=(Vad.mp hu).1
  simp only[Vaq,VaR,List.length_nil] at hl
  have ek:k=ns.length:=by omega
  subst ek
  simp at hu
  subst hu
  have e:=zhB (w:=v.wt ws) (q:=q) (k:=ns.length) (by rw[h.len]; omega) v ok
  rw[e]
  refine⟨ok,?_,(h.w2 v ok).1,h16⟩
  rw[← h.len]
  simp
theorem zbI.take {q:Int}{ns:List Nd}{ws:List Nat}(h:zbI q ns ws)(n:Nat):zbI q (ns.take n) (ws.take n):=by
 have e:∀k:Nat,k<n→(ws.take n).getD k 0=ws.getD k 0:=λk hk=>by
  rw[Vap,Vap,List.getElem?_take_of_lt hk]
 refine⟨by simp[h.len],λk u hu=>?_⟩
 have hl:=(Vad.mp hu).1
 rw[VaK] at hl
 have hk:k<n:=by omega
 rw[List.getElem?_take_of_lt hk] at hu
 obtain⟨a,b,c,d⟩:=h.ok k u hu
 have e2:u.wt (ws.take n)=u.wt ws:=by
  have f:∀i:Int,inR k i→(ws.take n).getD i.toNat 0=ws.getD i.toNat 0:=λi hi=>e _ (by have:=hi.1; have:=hi.2; omega)
  cases u with
  | number _ _=>rfl
  | unknown _=>rfl
  | plus i j=>show _+_=_+_; rw[f i a.1,f j a.2]
  | minus i j=>show _+_=_+_; rw[f i a.1,f j a.2]
  | times i j=>show _+_=_+_; rw[f i a.1,f j a.2]
  | power i m=>show _*_=_*_; rw[f i a.1]
 rw[e2,e k hk]
 exact⟨a,b,c,d⟩
theorem zc3 {α:Type}{xs:List α}{k:Nat}{x:α}(h:xs[k]?=some x):xs.take (k+1)=xs.take k++[x]:=by rw[List.take_succ,h]; rfl
def SzW (ws:List Nat)(vs:List (Int×Int)):Prop:=∀(k:Nat) (p:Int×Int),vs[k]?=some p→p.1≤p.2∧Sz (60*ws.getD k 0-1) p.1∧Sz (60*ws.getD k 0-1) p.2
theorem SzW.at {ws:List Nat}{vs:List (Int×Int)}(h:SzW ws vs){i:Int}(hi:inR vs.length i):(gt vs i).1≤(gt vs i).2∧Sz (60*ws.getD i.toNat 0-1) (gt vs i).1∧Sz (60*ws.getD i.toNat 0-1) (gt vs i).2:=by
 obtain⟨h0,h1⟩:=hi
 have hk:i.toNat<vs.length:=by omega
 have e:gt vs i=vs[i.toNat]:=by simp[gt,hk]
 rw[e]
 exact h _ _ (Vab hk)
theorem zbi {S T:Sto}{n:Nat}{o:Ob}(h:Pre S T)(hn:S.length≤n):Pre S (T.set n o):=λk u e=>by
 have hk:=(Vad.mp e).1
 rw[VaM (by omega)]
 exact h k u e
theorem zaM {S T:Sto}(h:Pre S T)(U:Sto):Pre S (T++U):=λk u e=>zaR (h k u e)
def wtD (w:Nat):D:=.int (w:Int)
theorem zg6 {caps:List Nat}{ta:TDA}{te:TDE}{dl:Ev}{S S1:Sto}{Q:DK}{n n':Nat}{xs ys:List D}(g:D→D→D)(hta:∀K:List D→Sto→Prop,K [.ref n,.ref n'] S1→ta dl S K)(h1:S1[n]?=some (.lst xs))(h2:S1[n']?=some (.lst ys))(hl:xs.length≤1000)
  (ht:∀(k:Nat) (x y:D),xs[k]?=some x→ys[k]?=some y→∀(S2:Sto) (K:DK),Pre S1 S2→K (g x y) S2→te (some x::some y::zbs caps dl) S2 K)(hq:Q (.ref S1.length) (S1++[.lst (List.zipWith g xs ys)])):zdi caps ta te dl S Q:=by
 unfold zdi
 refine hta _ ⟨⟨by rw[zaQ h1 rfl]; rfl,by rw[zaQ h2 rfl]; rfl⟩,λk m S2=>S2=S1++[.lst (List.zipWith g (xs.take k) (ys.take k))]∧m+k=min xs.length ys.length,⟨min xs.length ys.length,by simp,by omega⟩,?_⟩
 rintro k m S2 ⟨rfl,hm⟩
 rw[zaQ (zeB h1) rfl,zaQ (zeB h2) rfl]
 dsimp only[zad]
 split
 ·rename_i x y hx hy
  have hk:k<xs.length:=(Vad.mp hx).1
  have hk':k<ys.length:=(Vad.mp hy).1
  unfold zdM
  refine ht k x y hx hy _ _ Pre.refl.push ?_
  rw[zan]
  refine⟨by simp; omega,m-1,by omega,?_,by omega⟩
  have e:xs.take (k+1)=xs.take k++[x]:=by rw[List.take_succ,hx]; rfl
  have e':ys.take (k+1)=ys.take k++[y]:=by rw[List.take_succ,hy]; rfl
  rw[e,e',List.zipWith_append (by rw[VaK,VaK]; omega),zk7]
  rfl
 ·rename_i no
  have hk:min xs.length ys.length≤k:=by
   by_cases l:k<min xs.length ys.length
   ·exact absurd (Vab (l:=ys) (i:=k) (by omega)) (no _ _ (Vab (l:=xs) (i:=k) (by omega)))
   ·omega
  refine⟨by omega,?_⟩
  have e:List.zipWith g (xs.take k) (ys.take k)=List.zipWith g xs ys:=by
   rw[← List.take_zipWith,VaL (by rw[List.length_zipWith]; exact hk)]
  rw[e]
  exact hq
theorem zeG {vs:List (Int×Int)}{k:Nat}{p:Int×Int}(h:vs[k]?=some p):gt vs (k:Int)=p:=by
 unfold gt
 rw[Vap,Vas,h]
 rfl
theorem SzW.snoc {ws:List Nat}{vs:List (Int×Int)}{p:Int×Int}(h:SzW ws vs)(h1:p.1≤p.2)(h2:Sz (60*ws.getD vs.length 0-1) p.1)(h3:Sz (60*ws.getD vs.length 0-1) p.2):SzW ws (vs++[p]):=λk q hq=>by
 by_cases hk:k<vs.length
 ·rw[Vao hk] at hq
  exact h k q hq
 ·have hl:=(Vad.mp hq).1
  simp only[Vaq,VaR,List.length_nil] at hl
  have ek:k=vs.length:=by omega
  subst ek
  simp at hq
  subst hq
  exact⟨h1,h2,h3⟩
theorem zfv {caps:List Nat}{tl te:TDE}{dl:Ev}{S S1:Sto}{Q:DK}{n:Nat}{o:Ob}(W:Nat→List D→Sto→Prop)(htl:∀K:DK,K (.ref n) S1→tl dl S K)(h1:S1[n]?=some o)(hw:∀k ys S2,W k ys S2→S2[n]?=some o∧S2[S1.length]?=some (.lst ys)∧ys.length=k)(hl:(zad o).length≤1000)(h0:W 0 [] (S1++[.lst []]))
  (ht:∀(k:Nat) (x:D) (ys:List D) (S2:Sto) (K:DK),(zad o)[k]?=some x→W k ys S2→(∀y S3,S3[S1.length]?=some (.lst ys)→W (k+1) (ys++[y]) (S3.set S1.length (.lst (ys++[y])))→K y S3)→te (some x::zbs caps dl) S2 K)
  (hq:∀ys S2,W (zad o).length ys S2→Q (.ref S1.length) S2)(hL:zbA o=some o:=by rfl):zbK caps tl zcY te dl S Q:=by
 unfold zbK
 refine htl _ ⟨by rw[zaQ h1 hL]; rfl,λk m S2=>(∃ys,W k ys S2)∧m+k=(zad o).length,⟨(zad o).length,⟨_,h0⟩,by omega⟩,?_⟩
 rintro k m S2 ⟨⟨ys,w⟩,hm⟩
 obtain⟨w1,w2,w3⟩:=hw _ _ _ w
 rw[zaQ w1 hL]
 dsimp only
 split
 ·rename_i x hx
  have hk:k<(zad o).length:=(Vad.mp hx).1
  unfold zcK zcY
  simp only[if_true]
  refine ht k x ys S2 _ hx w λy S3 e3 w4=>?_
  rw[e3]
  exact⟨by omega,m-1,by omega,⟨_,w4⟩,by omega⟩
 ·rename_i hx
  have hk:k=(zad o).length:=by
   have:=VaQ.mp hx
   omega
  exact hq ys S2 (hk ▸ w)
theorem zcE {caps:List Nat}{ta:TDA}{te:TDE}{dl:Ev}{S S1:Sto}{Q:DK}{j:Int}(W:Nat→List D→Sto→Prop)(hta:∀K:List D→Sto→Prop,K [.int j] S1→ta dl S K)(hj:0≤j∧j≤1000)(hw:∀k ys S2,W k ys S2→S2[S1.length]?=some (.lst ys)∧ys.length=k)(h0:W 0 [] (S1++[.lst []]))
  (ht:∀(k:Nat) (ys:List D) (S2:Sto) (K:DK),k<j.toNat→W k ys S2→(∀y S3,S3[S1.length]?=some (.lst ys)→W (k+1) (ys++[y]) (S3.set S1.length (.lst (ys++[y])))→K y S3)→te (some (.int (k:Int))::zbs caps dl) S2 K)
  (hq:∀ys S2,W j.toNat ys S2→Q (.ref S1.length) S2):zcz caps ta zcY te dl S Q:=by
 unfold zcz
 refine hta _ ⟨⟨by omega,by omega⟩,λk S2=>k≤j.toNat∧∃ys,W k ys S2,⟨Vaj _,_,h0⟩,?_⟩
 rintro k S2 ⟨hk,ys,w⟩
 obtain⟨w2,w3⟩:=hw _ _ _ w
 split
 ·rename_i c
  unfold zcK zcY
  simp only[if_true]
  refine ht k ys S2 _ c w λy S3 e3 w4=>?_
  rw[e3]
  exact⟨by omega,by omega,_,w4⟩
 ·rename_i c
  have hk:k=j.toNat:=by omega
  exact hq ys S2 (hk ▸ w)
section
variable {s:Shared}{A:Around}{w:World}{prog:Program}
end
section
variable {X:Cx}{elt iter:Expr}{elts:List Expr}{kk:Nat}{tp:Pos}{pos:Pos}{sc:Scope}{own N:List Str}{caps:List Nat}{wi:TI}{gt:TG}{te:TE}
end
section
variable {X:Cx}{Z:Zx}{elt:Expr}{pos:Pos}{sc ar:Scope}{N:List Str}{caps:List Nat}
end
section
variable {X:Cx}{Z:Zx}{pos:Pos}
def Alk (S:Sto):Nat→D→D→Prop
 | 0,d,e=>eqF d e=some true
 | n+1,d,e=>Alk S n d e∨(∃xs ys,d=.tup xs∧e=.tup ys∧xs.length=ys.length∧∀(k:Nat) (x y:D),xs[k]?=some x→ys[k]?=some y→Alk S n x y)∨
  ∃a b xs ys,d=.ref a∧e=.ref b∧S[a]?=some (.lst xs)∧S[b]?=some (.lst ys)∧xs.length=ys.length∧∀(k:Nat) (x y:D),xs[k]?=some x→ys[k]?=some y→Alk S n x y
theorem zgG (n:Nat):(List.range n).all (λ_=>true)=true:=by simp
theorem zir {n:Nat}{A:Around}{pins:List (Addr×Obj)}{σ:L3.St}{H:Hp}{s:Shared}{r:List Addr}{S:Sto}(I:Inv X pins σ H s)(rel:Rel X.K Z r S H){a b:Nat}{xs ys:List D}{p p':Addr}(hp:r[a]?=some p)(hp':r[b]?=some p')(s1:S[a]?=some (.lst xs))(s2:S[b]?=some (.lst ys))(l:xs.length=ys.length)(hu:A.units<cLine)
  (f:∀ {d e:D} {v1 v2:V} {u1 u2:Value},Alk S n d e→Rp r H d v1→Rp r H e v2→zae v1 u1→zae v2 u2→SeqAt.EqAt A.in1 s u1 u2 true)(al:∀(k:Nat) (x y:D),xs[k]?=some x→ys[k]?=some y→Alk S n x y):SeqAt.RcAt A s (.ref p) (.ref p') true:=by
 obtain⟨z,hz,ob⟩:=rel.at s1
 rw[hp] at hz; cases hz
 obtain⟨z,hz,ob'⟩:=rel.at s2
 rw[hp'] at hz; cases hz
 obtain⟨vs,sq,pr⟩:=ob.list rfl
 obtain⟨ws,sq',pr'⟩:=ob'.list rfl
 obtain⟨is,ri,pl,_⟩:=I.list sq
 obtain⟨js,rj,pl',_⟩:=I.list sq'
 have g1:=zhf (P:=λS=>Alk S n) (S:=S) f pr pr' ri rj al
 have hs:is.toArray.size=js.toArray.size:=by
  have a1:=ri.length
  have a2:=rj.length
  have a3:=pr.1
  have a4:=pr'.1
  simp only[Vag]
  show is.length=js.length
  have a3:xs.length=vs.length:=a3
  have a4:ys.length=ws.length:=a4
  omega
 have q:=SeqAt.RcAt.lists (A:=A) (e:=λ_=>true) pl.isList pl'.isList hs hu g1
 rw[zgG] at q
 exact q
theorem zfd:∀(n:Nat) {A:Around} {pins:List (Addr×Obj)} {σ:L3.St} {H:Hp} {s:Shared} {r:List Addr} {S:Sto} {d e:D} {v1 v2:V} {u1 u2:Value},Inv X pins σ H s→Rel X.K Z r S H→Alk S n d e→Rp r H d v1→Rp r H e v2→zae v1 u1→zae v2 u2→A.units+n<cLine→SeqAt.EqAt A s u1 u2 true
 | 0,A,pins,σ,H,s,r,S,d,e,v1,v2,u1,u2,I,rel,h,pd,pe,ru1,ru2,hu=>zfD 0 X pins σ H s r A d e v1 v2 u1 u2 true I hu pd pe ru1 ru2 h
 | n+1,A,pins,σ,H,s,r,S,d,e,v1,v2,u1,u2,I,rel,h,pd,pe,ru1,ru2,hu=>by
  rcases h with h | ⟨xs,ys,rfl,rfl,l,al⟩ | ⟨a,b,xs,ys,rfl,rfl,s1,s2,l,al⟩
  ·exact zfd n I rel h pd pe ru1 ru2 (by omega)
  ·cases pd with
   | @tup _ vs a h1 l1 f1=>
    cases pe with
    | @tup _ ws b h2 l2 f2=>
     cases ru1
     cases ru2
     by_cases hne:a=b
     ·subst hne
      exact SeqAt.EqAt.same _
     ·obtain⟨is,ri,pl,_⟩:=I.tuple (SqT.of h1)
      obtain⟨js,rj,pl',_⟩:=I.tuple (SqT.of h2)
      have g1:=zhf (P:=λS=>Alk S n) (S:=S) (A:=A.in1) (λh p q r1 r2=>zfd n I rel h p q r1 r2 (by show A.units+1+n<_; omega)) ⟨l1,f1⟩ ⟨l2,f2⟩ ri rj al
      have q:=SeqAt.RcAt.tuples (A:=A) (e:=λ_=>true) pl pl' (by omega) g1
      have hs:(is.toArray.size==js.toArray.size)=true:=by
       have a1:=ri.length
       have a2:=rj.length
       simp only[Vag,beq_iff_eq]
       show is.length=js.length
       omega
      rw[zgG,hs] at q
      exact SeqAt.EqAt.of_refs hne q
  ·cases pd with
   | @ref _ p hp=>
    cases pe with
    | @ref _ p' hp'=>
     cases ru1
     cases ru2
     by_cases hne:p=p'
     ·subst hne
      exact SeqAt.EqAt.same _
     ·exact SeqAt.EqAt.of_refs hne (zir I rel hp hp' s1 s2 l (by omega) (λh p q r1 r2=>zfd n I rel h p q r1 r2 (by show A.units+1+n<_; omega)) al)
def wEqK:W2:=λx y S Q=>match x,y with
 | .ref a,.ref b=>(∃xs ys,S[a]?=some (.lst xs)∧S[b]?=some (.lst ys)∧xs.length=ys.length∧∀(k:Nat) (x y:D),xs[k]?=some x→ys[k]?=some y→Alk S 5 x y)∧Q (.bl true) S
 | _,_=>False
theorem zj1 {j:Nat}(hr:zaC j X.A):OpR X (compareOp .Eq) (upO X.K Z wEqK):=by
 have hu:=hr.un
 intro pins s σ H x y v u Qv I rx ry h
 obtain⟨r,S,dx,dy,Q,rel,px,py,q,ret⟩:=h
 cases px with
 | @ref n a hn=>
  cases py with
  | @ref m a' hm=>
   cases rx
   cases ry
   obtain⟨⟨xs,ys,s1,s2,l,al⟩,q⟩:=(show (∃xs ys,_)∧_ from q)
   exact zir I rel hn hm s1 s2 l (by omega) (λh p q r1 r2=>zfd 5 I rel h p q r1 r2 (by show X.A.units+1+5<_; omega)) al X.prog X.w X.xe _ ⟨.bl true,H,I,rfl,ret _ _ _ _ _ Ext.refl rel (.bl true) q⟩
  | _=>exact(show False from q).elim
 | _=>exact(show False from q).elim
end
section
variable {X:Cx}{Z:Zx}{pos:Pos}
@[irreducible] def zb6 (T:String)(te:TDE):TDE:=λdl S Q=>te dl S λd S1=>match d with
 | .ref n=>match S1[n]? with
  | some (.lst _)=>Q (.bl (zbd "list" T)) S1
  | _=>False
 | .exc _=>False
 | .non=>Q (.bl (zbd "NoneType" T)) S1
 | .bl _=>Q (.bl (zbd "bool" T)) S1
 | .int _=>Q (.bl (zbd "int" T)) S1
 | .str _=>Q (.bl (zbd "str" T)) S1
 | .tup _=>Q (.bl (zbd "tuple" T)) S1
theorem zat (K:PySem.W.Frag)(T:String)(hT:T∈["list","tuple","int","str"]):∀t∈["NoneType","bool","int","str","tuple","list"],PySem.W.kitOne K (.type t) (.type T)=some (zbd t T):=by
 simp only[Vai,Va3,or_false] at hT
 intro t ht
 simp only[Vai,Va3,or_false] at ht
 rcases hT with rfl | rfl | rfl | rfl <;> rcases ht with rfl | rfl | rfl | rfl | rfl | rfl <;> kernel_rfl
theorem zas {T:String}{e:Expr}{te:TDE}{y:Str}{p p2:Pos}(KT:∀t∈["NoneType","bool","int","str","tuple","list"],PySem.W.kitOne X.K (.type t) (.type T)=some (zbd t T))(hg:Gl X "isinstance")(hm:X.mg "isinstance"=none)(hg2:Gl X y)(hm2:X.mg y=none)(hv2:bootBuiltins y=some (.type T))(ha:PD X Z e te)
  (hv:bootBuiltins "isinstance"=some (.builtin "isinstance"):=by exact PyProof.Rows.Boot.«isinstance»)
  (hn2:y≠"__name__":=by decide)(hd2:(y==("__debug__":Str))=false:=by decide)(he2:starEach [e,.Name y p2] X.env=(false,eval e X.env)::starEach [.Name y p2] X.env:=by rfl)
  (he3:starEach [.Name y p2] X.env=(false,eval (.Name y p2) X.env)::starEach [] X.env:=by rfl)(hpl:(backTo pos (starEach [.Name y p2] X.env)).any (·.1)=false:=by rfl):
  PD X Z (.Call (.Name "isinstance" p) [e,.Name y p2] [] pos) (zb6 T te):=
 zaX (zgn zin hg hm hv (zc4 ha (zc4 (zhN (v:=.ty T) hg2 hm2 hv2 rfl hn2 hd2) zfp he3) he2) (by decide) (by decide) he2 hpl) λσ H Qv ⟨r,dl,S,Q,rs,rel,h,ret⟩=>by
  unfold zb6 at h
  refine⟨r,dl,S,_,rs,rel,h,λv H1 r1 d S1 e1 rel1 p1 h1=>?_⟩
  cases p1 with
  | non=>exact⟨_,T,_,_,rfl,.non,KT _ (by simp),ret _ _ _ _ _ e1 rel1 (.bl _) h1⟩
  | bl b=>exact⟨_,T,_,_,rfl,.bl b,KT _ (by simp),ret _ _ _ _ _ e1 rel1 (.bl _) h1⟩
  | int b=>exact⟨_,T,_,_,rfl,.int b,KT _ (by simp),ret _ _ _ _ _ e1 rel1 (.bl _) h1⟩
  | str b=>exact⟨_,T,_,_,rfl,.str b,KT _ (by simp),ret _ _ _ _ _ e1 rel1 (.bl _) h1⟩
  | tup e2 _ _=>exact⟨_,T,_,_,rfl,.tup e2,KT _ (by simp),ret _ _ _ _ _ e1 rel1 (.bl _) h1⟩
  | exc _=>exact(show False from h1).elim
  | @ref n a hr=>
   dsimp only at h1
   split at h1
   ·rename_i xs eS
    obtain⟨ys,eH,_⟩:=rel1.b.ob n a _ hr eS
    exact⟨_,T,_,_,rfl,.lst eH,KT _ (by simp),ret _ _ _ _ _ e1 rel1 (.bl _) h1⟩
   ·exact h1.elim
theorem za4 {T:String}{te:TDE}{dl:Ev}{S S1:Sto}{Q:DK}{n:Nat}{xs:List D}(ht:∀K:DK,K (.ref n) S1→te dl S K)(h:S1[n]?=some (.lst xs))(hq:Q (.bl (zbd "list" T)) S1):zb6 T te dl S Q:=by
 unfold zb6
 refine ht _ ?_
 simp only[h]
 exact hq
theorem zaS {T:String}{te:TDE}{dl:Ev}{S S1:Sto}{Q:DK}{xs:List D}(ht:∀K:DK,K (.tup xs) S1→te dl S K)(hq:Q (.bl (zbd "tuple" T)) S1):zb6 T te dl S Q:=by
 unfold zb6
 exact ht _ hq
theorem zbp {T:String}{te:TDE}{dl:Ev}{S S1:Sto}{Q:DK}{i:Int}(ht:∀K:DK,K (.int i) S1→te dl S K)(hq:Q (.bl (zbd "int" T)) S1):zb6 T te dl S Q:=by
 unfold zb6
 exact ht _ hq
theorem za7 {T:String}{te:TDE}{dl:Ev}{S S1:Sto}{Q:DK}{w:Str}(ht:∀K:DK,K (.str w) S1→te dl S K)(hq:Q (.bl (zbd "str" T)) S1):zb6 T te dl S Q:=by
 unfold zb6
 exact ht _ hq
end
section
variable {s:Shared}{E:Value→Shared→Prop}{A:Around}{M:Model}
end
theorem zif {env:Env}:∀ {names:List (Str×NameKind)} {x:Str},names.lookup x=some .cell→
  (names.map λ(n,k)=>if (k==NameKind.free&&env.scope.kind==.function&&env.kindOf n==some .cell) then (n,NameKind.cell) else (n,k)).lookup x=some .cell
 | [],_,h=>by simp at h
 | (n,k)::r,x,h=>by
  have ih:=@zif env r x
  rw[Vak]
  cases hx:x==n with
  | true=>
   rw[Val,hx] at h
   have hk:k=.cell:=Option.some.inj h
   subst hk
   simp[Val,hx]
  | false=>
   rw[Val,hx] at h
   dsimp only
   split
   ·simp only[Val,hx]; exact ih h
   ·simp only[Val,hx]; exact ih h
structure CompScC (sc around:Scope)(x:Str)(caps:List Str):Prop where
 kind:sc.kind=.function
 one:sc.names.filter (λy=>y.2==NameKind.cell)=[(x,NameKind.cell)]
 own:∀y∈sc.names,y.2=.local→sc.names.lookup y.1=some .local
 loc:sc.names.lookup x=some .cell
 cap:∀y∈caps,sc.names.lookup y=some .free
 out:∀y∈sc.names,y.2=.free→around.names.lookup y.1=some .cell
section
variable {X:Cx}{pins:List (Addr×Obj)}{σ:L2.St}{H:Hp}{s:Shared}
end
section
variable {X:Cx}{elt iter:Expr}{x:Str}{px pos:Pos}{ifs:List Expr}{sc:Scope}{N:List Str}{caps:List Nat}{wi:TI}{tc:TT}{te:TE}
end
section
variable {X:Cx}{Z:Zx}{elt iter:Expr}{x:Str}{px pos:Pos}{ifs:List Expr}{sc ar:Scope}{N:List Str}{caps:List Nat}
theorem zg2 {env:Env}:∀ {names:List (Str×NameKind)} {x:Str},names.lookup x=some .free→env.scope.kind=.function→env.kindOf x=some .cell→
  (names.map λ(n,k)=>if (k==NameKind.free&&env.scope.kind==.function&&env.kindOf n==some .cell) then (n,NameKind.cell) else (n,k)).lookup x=some .cell
 | [],_,h,_,_=>by simp at h
 | (n,k)::r,x,h,h2,h3=>by
  have ih:=@zg2 env r x
  rw[Vak]
  cases hx:x==n with
  | true=>
   rw[Val,hx] at h
   have hk:k=.free:=Option.some.inj h
   have en:x=n:=by simpa using hx
   subst hk en
   simp[Val,h2,h3]
  | false=>
   rw[Val,hx] at h
   dsimp only
   split
   ·simp only[Val,hx]; exact ih h h2 h3
   ·simp only[Val,hx]; exact ih h h2 h3
theorem cscN {sc sc1 ar0:Scope}{env1:Env}{x:Str}{caps:List Str}(h:env1.scope=ar0)(a:sc.kind=.function:=by rfl)(b:∀y∈sc.names,y.2≠.cell:=by decide +kernel)(c:∀y∈sc.names,y.2=.local→sc.names.lookup y.1=some .local:=by decide +kernel)(d:sc.names.lookup x=some .local:=by rfl)(e:∀y∈caps,sc.names.lookup y=some .free:=by decide +kernel)
  (f:∀y∈sc.names,y.2=.free→sc1.names.lookup y.1=some .cell∨(sc1.names.lookup y.1=some .free∧ar0.kind=.function∧ar0.names.lookup y.1=some .cell):=by decide +kernel):zb4 sc (relabel sc1 env1) x caps:=⟨a,b,c,d,e,λy hy hf=>by
 subst h
 rcases f y hy hf with z | ⟨z1,z2,z3⟩
 ·exact zif z
 ·exact zg2 z1 z2 z3⟩
end
theorem zjO (xs:List D)(a b:Nat):(za9 xs (some (a:Int)) (some (b:Int))).length≤b-a:=by
 unfold L3.za9
 rw[VaK,List.length_drop,HT.sIx_nat,HT.sIx_nat]
 omega
theorem ziP {to te:TDE}{dl:Ev}{S:Sto}{Q:DK}{n:Nat}{xs:List D}(hto:∀K:DK,K (.ref n) S→to dl S K)(h:S[n]?=some (.lst xs))(hte:∀K:DK,(∀(y:D) (S2:Sto),S2[n]?=some (.lst xs)→Q .non (S2.set n (.lst (xs++[y])))→K y S2)→te dl S K)(hl:xs.length<1000):zdz to te dl S Q:=by
 unfold zdz
 refine hto _ ?_
 simp only[h]
 refine hte _ λy S2 h2 q=>?_
 simp only[h2,if_pos hl]
 exact q
theorem zc0 {S T:Sto}(p:Pre S T):S.length≤T.length:=by
 cases e:S.length with
 | zero=>exact Vaj _
 | succ n=>
  have h:=Vab (l:=S) (i:=n) (by omega)
  exact zbX (p _ _ h)
inductive TT where
 | i (n:Int)
 | s (w:Str)
 | t (xs:List TT)
 | l (xs:List TT)
inductive Den (S:Sto)(lo:Nat):Nat→TT→D→Prop
 | i {n:Nat} (k:Int):Den S lo n (.i k) (.int k)
 | s {n:Nat} (w:Str):Den S lo n (.s w) (.str w)
 | t {n:Nat} {xs:List TT} {ds:List D}:xs.length≤900→xs.length=ds.length→(∀(k:Nat) (x:TT) (y:D),xs[k]?=some x→ds[k]?=some y→Den S lo n x y)→Den S lo (n+1) (.t xs) (.tup ds)
 | l {n a:Nat} {xs:List TT} {ds:List D}:S[a]?=some (.lst ds)→lo≤a→xs.length≤900→xs.length=ds.length→(∀(k:Nat) (x:TT) (y:D),xs[k]?=some x→ds[k]?=some y→Den S lo n x y)→Den S lo (n+1) (.l xs) (.ref a)
theorem Den.keep {S S':Sto}{lo n:Nat}{t:TT}{d:D}(h:Den S lo n t d)(p:∀(x:Nat) (o:Ob),lo≤x→S[x]?=some o→S'[x]?=some o):Den S' lo n t d:=by
 induction h with
 | i k=>exact .i k
 | s w=>exact .s w
 | t z l _ ih=>exact .t z l ih
 | l h g z l _ ih=>exact .l (p _ _ g h) g z l ih
theorem Den.pre {S S':Sto}{lo n:Nat}{t:TT}{d:D}(h:Den S lo n t d)(p:Pre S S'):Den S' lo n t d:=h.keep λx o _ e=>p x o e
theorem Den.low {S:Sto}{lo lo' n:Nat}{t:TT}{d:D}(h:Den S lo n t d)(q:lo'≤lo):Den S lo' n t d:=by
 induction h with
 | i k=>exact .i k
 | s w=>exact .s w
 | t z l _ ih=>exact .t z l ih
 | l h g z l _ ih=>exact .l h (Vau q g) z l ih
theorem Den.up {S:Sto}{lo n:Nat}{t:TT}{d:D}(h:Den S lo n t d):Den S lo (n+1) t d:=by
 induction h with
 | i k=>exact .i k
 | s w=>exact .s w
 | t z l _ ih=>exact .t z l ih
 | l h g z l _ ih=>exact .l h g z l ih
theorem Alk.flat {S:Sto}{d e:D}(h:eqF d e=some true):∀n,Alk S n d e
 | 0=>h
 | n+1=>.inl (Alk.flat h n)
theorem Den.alk {S:Sto}{lo lo' n:Nat}{t:TT}{d e:D}(h:Den S lo n t d)(h':Den S lo' n t e):Alk S n d e:=by
 induction h generalizing e with
 | i k=>
  cases h'
  exact Alk.flat (by simp[eqF]) _
 | s w=>
  cases h'
  exact Alk.flat (by simp[eqF]) _
 | @t n xs ds _ l _ ih=>
  cases h' with
  | @t _ _ es _ l' f'=>
   refine .inr (.inl ⟨ds,es,rfl,rfl,by omega,λk x y hx hy=>?_⟩)
   have hk:k<xs.length:=by have:=(Vad.mp hx).1; omega
   exact ih k xs[k] x (Vab hk) hx (f' k xs[k] y (Vab hk) hy)
 | @l n a xs ds h _ _ l _ ih=>
  cases h' with
  | @l _ b _ es h' _ _ l' f'=>
   refine .inr (.inr ⟨a,b,ds,es,rfl,rfl,h,h',by omega,λk x y hx hy=>?_⟩)
   have hk:k<xs.length:=by have:=(Vad.mp hx).1; omega
   exact ih k xs[k] x (Vab hk) hx (f' k xs[k] y (Vab hk) hy)
theorem zbl {b:Bool}{S:Sto}{Q:DK}(h:Q (.bl false) S):wNe eq2 (.bl b) (.bl b) S Q:=by
 cases b <;> exact h
theorem zcu {i j:Int}{S:Sto}{Q:DK}(e:i=j)(h:Q (.bl false) S):wNe eq2 (.int i) (.int j) S Q:=by
 show Q (.bl (!decide (i=j))) S
 rw[decide_eq_true e]
 exact h
theorem zcl:∀xs:List Nat,zbn (xs.map λ_=>D.bl true)=some (xs.map λ_=>true)
 | []=>rfl
 | x::xs=>by
  rw[Vak,Vak]
  show (zbn (xs.map λ_=>D.bl true)).map _=_
  rw[zcl xs]
  rfl
theorem zcg:∀xs:List Nat,(xs.map λ_=>true).all id=true
 | []=>rfl
 | x::xs=>by rw[Vak,List.all_cons,zcg xs]; rfl
theorem zco {xs:List D}{k:Nat}{d:D}{S:Sto}{Q:DK}(h:xs[k]?=some d)(hq:Q d S):zcj wIx (.tup xs) (.int (k:Int)) S Q:=by
 rw[zc1]
 show (match atI xs (k:Int) with | some d=>Q d S | none=>False)
 rw[za6 h]
 exact hq
def zb8 (c k:Int):Int:=(c*(2*k+3)*48271+k*k*7919)%2147483647
theorem zh2 {a b:Int}(h:b.natAbs≤1000000):IntMulOk a b:=IntMulOk.of_right (Vau (Sz.of (n:=30) 1000000 h).bits (by decide))
def spT (p:Int×Int):TT:=.t [.i p.1,.i p.2]
theorem zjU {S:Sto}{lo:Nat}(n:Nat)(p:Int×Int):Den S lo (n+1) (spT p) (frD p):=.t (show 2≤900 by decide) rfl λk x y hx hy=>by
 match k with
 | 0=>cases hx; cases hy; exact .i _
 | 1=>cases hx; cases hy; exact .i _
 | k+2=>simp at hx
theorem zf1 {S:Sto}{lo n a:Nat}{ps:List (Int×Int)}(z:ps.length≤900)(g:lo≤a)(h:S[a]?=some (.lst (ps.map frD))):Den S lo (n+2) (.l (ps.map spT)) (.ref a):=.l h g (by rw[Vac]; exact z) (by rw[Vac,Vac]) λk x y hx hy=>by
 rw[Vae] at hx hy
 cases e:ps[k]? with
 | none=>rw[e] at hx; cases hx
 | some p=>
  rw[e] at hx hy
  cases hx
  cases hy
  exact zjU n p
theorem zhb {is:List Nat}{ta:TDA}{tb:TDS}{E:zcA}{dl:Ev}{S S1:Sto}{n:Nat}{xs:List D}(W:Nat→Ev→Sto→Prop)(hta:∀K:List D→Sto→Prop,K [.ref n] S1→ta dl S K)(hk:∀k dl' S',W k dl' S'→S'[n]?=some (.lst xs))(h0:W 0 dl S1)
  (hb:∀(k:Nat) (x:D) (dl':Ev) (S':Sto) (nx ct:Ev→Sto→Prop),xs[k]?=some x→W k dl' S'→(∀dl2 S2,W (k+1) dl2 S2→nx dl2 S2)→tb { nx:=nx,rt:=E.rt,bk:=E.nx,ct:=ct } (zd2 is [.int (k:Int),x] dl') S')(he:∀dl' S',W xs.length dl' S'→E.nx dl' S'):zfs is ta tb E dl S:=by
 unfold zfs
 refine hta _ ⟨by rw[zaQ (hk _ _ _ h0) rfl]; rfl,λk m dl' S'=>W k dl' S'∧k+m=xs.length,⟨xs.length,h0,by omega⟩,?_⟩
 rintro k m dl' S' ⟨w,hm⟩
 rw[zaQ (hk _ _ _ w) rfl]
 dsimp only[zad]
 split
 ·rename_i x e1
  have l1:=(Vad.mp e1).1
  exact hb k x dl' S' _ _ e1 w (λdl2 S2 w2=>⟨m-1,by omega,w2,by omega⟩)
 ·rename_i e1
  have l1:=VaQ.mp e1
  have ek:k=xs.length:=by omega
  exact⟨ek,he _ _ (ek ▸ w)⟩
def zar (S:Sto)(lo:Nat)(ds:List D)(R:List (List (Int×Int))):Prop:=ds.length=R.length∧∀(k:Nat) (d:D) (r:List (Int×Int)),ds[k]?=some d→R[k]?=some r→∃a,d=.ref a∧lo≤a∧S[a]?=some (.lst (r.map frD))
theorem zar.nil {S:Sto}{lo:Nat}:zar S lo [] []:=⟨rfl,λk d r h=>by simp at h⟩
theorem zar.pre {S T:Sto}{lo:Nat}{ds:List D}{R:List (List (Int×Int))}(h:zar S lo ds R)(p:Pre S T):zar T lo ds R:=⟨h.1,λk d r hd hr=>by
 obtain⟨a,e,l,s⟩:=h.2 k d r hd hr
 exact⟨a,e,l,p _ _ s⟩⟩
theorem zar.low {S:Sto}{lo lo':Nat}{ds:List D}{R:List (List (Int×Int))}(h:zar S lo ds R)(l:lo'≤lo):zar S lo' ds R:=⟨h.1,λk d r hd hr=>by
 obtain⟨a,e,l,s⟩:=h.2 k d r hd hr
 exact⟨a,e,by omega,s⟩⟩
theorem zar.keep {S T:Sto}{lo:Nat}{ds:List D}{R:List (List (Int×Int))}(h:zar S lo ds R)(p:∀(x:Nat) (o:Ob),lo≤x→S[x]?=some o→T[x]?=some o):zar T lo ds R:=⟨h.1,λk d r hd hr=>by
 obtain⟨a,e,l,s⟩:=h.2 k d r hd hr
 exact⟨a,e,l,p _ _ l s⟩⟩
theorem zar.at {S:Sto}{lo:Nat}{ds:List D}{R:List (List (Int×Int))}(h:zar S lo ds R){i:Int}(hi:inR R.length i):∃a,atI ds i=some (.ref a)∧lo≤a∧S[a]?=some (.lst ((R.getD i.toNat []).map frD)):=by
 obtain⟨h0,h1⟩:=hi
 have hk:i.toNat<R.length:=by omega
 have hk':i.toNat<ds.length:=by rw[h.1]; exact hk
 obtain⟨a,e,l,s⟩:=h.2 i.toNat _ _ (Vab hk') (Vab hk)
 refine⟨a,?_,l,?_⟩
 ·have z:=za6 (xs:=ds) (j:=i.toNat) (v:=.ref a) (by rw[Vab hk',e])
  rw[show ((i.toNat:Nat):Int)=i by omega] at z
  exact z
 ·rw[s]
  simp[hk]
theorem zar.snoc {S:Sto}{lo:Nat}{ds:List D}{R:List (List (Int×Int))}{a:Nat}{r:List (Int×Int)}(h:zar S lo ds R)(hl:lo≤a)(hs:S[a]?=some (.lst (r.map frD))):zar S lo (ds++[.ref a]) (R++[r]):=⟨by rw[Vaq,Vaq,h.1]; rfl,λk d r' hd hr=>by
 by_cases hk:k<ds.length
 ·rw[Vao hk] at hd
  rw[Vao (by rw[← h.1]; exact hk)] at hr
  exact h.2 k d r' hd hr
 ·have l:=(Vad.mp hd).1
  simp only[Vaq,VaR,List.length_nil] at l
  have ek:k=ds.length:=by omega
  subst ek
  rw[Vax (Vaa _),VaS] at hd
  rw[h.1,Vax (Vaa _),VaS] at hr
  cases hd
  cases hr
  exact⟨a,rfl,hl,hs⟩⟩
open PySem.W in
def kev {α:Type}(lt:Nat→Nat→Bool):KasT α→α
 | .ret a=>a
 | .ask i j k=>kev lt (k (lt i j))
open PySem.W in
theorem zb9 {α β:Type}(lt:Nat→Nat→Bool)(f:α→KasT β):∀t:KasT α,kev lt (t.bind f)=kev lt (f (kev lt t))
 | .ret _=>rfl
 | .ask i j k=>zb9 lt f (k (lt i j))
def kk (key:Nat→Int)(p:Array Nat)(i:Nat):Int:=key (p.getD i 0)
theorem ze9 {key:Nat→Int}{p q:Array Nat}{i j:Nat}(h:p[i]?=q[j]?):kk key p i=kk key q j:=by
 unfold kk
 rw[Array.getD_eq_getD_getElem?,Array.getD_eq_getD_getElem?,h]
abbrev klt (key:Nat→Int)(i j:Nat):Bool:=decide (key i<key j)
def Unl (key:Nat→Int)(p:Array Nat):Prop:=(p.toList.map key).Nodup
theorem Unl.perm {key:Nat→Int}{p q:Array Nat}(h:Unl key p)(e:q.Perm p):Unl key q:=by
 unfold Unl at h ⊢
 exact((Array.perm_iff_toList_perm.mp e).map key).nodup_iff.mpr h
theorem Unl.ne {key:Nat→Int}{p:Array Nat}(h:Unl key p){i j:Nat}(hi:i<p.size)(hj:j<p.size)(e:i≠j):kk key p i≠kk key p j:=by
 have z:=List.pairwise_iff_getElem.mp h
 have g:∀k (hk:k<p.size),(p.toList.map key)[k]'(by simpa using hk)=kk key p k:=λk hk=>by
  unfold kk
  simp[Array.getD,hk]
 by_cases c:i<j
 ·have w:=z i j (by simpa using hi) (by simpa using hj) c
  rw[g i hi,g j hj] at w
  exact w
 ·have w:=z j i (by simpa using hj) (by simpa using hi) (by omega)
  rw[g i hi,g j hj] at w
  exact λq=>w q.symm
def Srt (key:Nat→Int)(p:Array Nat)(m:Nat):Prop:=∀i j:Nat,i<j→j<m→kk key p i<kk key p j
theorem zf4 {key:Nat→Int}{p:Array Nat}:∀ {m:Nat},(∀i,1≤i→i<m→kk key p (i-1)<kk key p i)→Srt key p m:=λ{m} h i j hij hj=>by
 induction j with
 | zero=>omega
 | succ j ih=>
  have s:=h (j+1) (by omega) hj
  rw[Nat.add_sub_cancel] at s
  by_cases c:i=j
  ·rw[c]; exact s
  ·have:=ih (by omega) (by omega)
   omega
open PySem.W in
theorem zgq (key:Nat→Int)(p:Array Nat):∀(f n:Nat),n≤kev (klt key) (kas_asc p f n)∧kev (klt key) (kas_asc p f n)≤n+f∧(∀i,n≤i→i<kev (klt key) (kas_asc p f n)→¬ kk key p i<kk key p (i-1))∧(kev (klt key) (kas_asc p f n)<n+f→kk key p (kev (klt key) (kas_asc p f n))<kk key p (kev (klt key) (kas_asc p f n)-1))
 | 0,n=>⟨Vaa _,Vaa _,λi h1 h2=>by have h3:i<n:=h2; omega,λh=>by have h3:n<n+0:=h; omega⟩
 | f+1,n=>by
  have e:kev (klt key) (kas_asc p (f+1) n)=if decide (kk key p n<kk key p (n-1))=true then n else kev (klt key) (kas_asc p f (n+1)):=by
   show kev (klt key) (if klt key (p.getD n 0) (p.getD (n-1) 0)=true then KasT.ret n else kas_asc p f (n+1))=_
   show _=if klt key (p.getD n 0) (p.getD (n-1) 0)=true then n else _
   split <;> rfl
  rw[e]
  by_cases c:kk key p n<kk key p (n-1)
  ·rw[decide_eq_true c,if_pos rfl]
   exact⟨Vaa _,by omega,λi h1 h2=>by omega,λ_=>c⟩
  ·rw[decide_eq_false c,if_neg (by decide)]
   obtain⟨a1,a2,a3,a4⟩:=zgq key p f (n+1)
   refine⟨by omega,by omega,λi h1 h2=>?_,λh=>a4 (by omega)⟩
   by_cases q:i=n
   ·rw[q]; exact c
   ·exact a3 i (by omega) h2
open PySem.W in
theorem zio {key:Nat→Int}{p:Array Nat}(hp:Unl key p):∀(f n:Nat),1≤n→n+f≤p.size→∃m,kev (klt key) (kas_desc f p n 0)=(p,m,0)∧n≤m∧m≤n+f∧∀i,n≤i→i<m→kk key p i<kk key p (i-1)
 | 0,n,_,_=>⟨n,rfl,Vaa _,Vaa _,λi h1 h2=>by omega⟩
 | f+1,n,h1,h2=>by
  have e:kev (klt key) (kas_desc (f+1) p n 0)=if decide (kk key p n<kk key p (n-1))=true then kev (klt key) (kas_desc f p (n+1) 0) else if decide (kk key p (n-1)<kk key p n)=true then (p,n,0) else kev (klt key) (kas_desc f p (n+1) (0+1)):=by
   show kev (klt key) (if klt key (p.getD n 0) (p.getD (n-1) 0)=true then (if 0 > 0 then kas_desc f (kas_rev p (n-(0+1)) n) (n+1) 0 else kas_desc f p (n+1) 0) else .ask (p.getD (n-1) 0) (p.getD n 0) λd=>if d=true then .ret (p,n,0) else kas_desc f p (n+1) (0+1))=_
   show _=if klt key (p.getD n 0) (p.getD (n-1) 0)=true then _ else if klt key (p.getD (n-1) 0) (p.getD n 0)=true then _ else _
   split
   ·rw[if_neg (by omega)]
   ·show kev (klt key) (if klt key (p.getD (n-1) 0) (p.getD n 0)=true then _ else _)=_
    split <;> rfl
  rw[e]
  have ne:=hp.ne (i:=n) (j:=n-1) (by omega) (by omega) (by omega)
  by_cases c:kk key p n<kk key p (n-1)
  ·rw[decide_eq_true c,if_pos rfl]
   obtain⟨m,a1,a2,a3,a4⟩:=zio hp f (n+1) (by omega) (by omega)
   refine⟨m,a1,by omega,by omega,λi h3 h4=>?_⟩
   by_cases q:i=n
   ·rw[q]; exact c
   ·exact a4 i (by omega) h4
  ·have c2:kk key p (n-1)<kk key p n:=by omega
   rw[decide_eq_false c,if_neg (by decide),decide_eq_true c2,if_pos rfl]
   exact⟨n,rfl,Vaa _,by omega,λi h3 h4=>by omega⟩
open PySem.W in
theorem zjT {key:Nat→Int}{p:Array Nat}(hp:Unl key p)(h1:1≤p.size):∃m q,kev (klt key) (kas_count p.size p)=(m,q)∧1≤m∧m≤p.size∧q.Perm p∧Srt key q m:=by
 unfold kas_count
 rw[zb9]
 obtain⟨a1,a2,a3,a4⟩:=zgq key p (p.size-1) 1
 generalize kev (klt key) (kas_asc p (p.size-1) 1)=n at a1 a2 a3 a4
 have srt:Srt key p n:=zf4 λi i1 i2=>by
  have z:=a3 i i1 i2
  have ne:=hp.ne (i:=i) (j:=i-1) (by omega) (by omega) (by omega)
  omega
 by_cases e:n=p.size
 ·rw[if_pos (by simp[e])]
  exact⟨n,p,rfl,a1,by omega,Array.Perm.refl _,srt⟩
 ·rw[if_neg (by simp[e])]
  by_cases g:n > 1
  ·rw[if_pos g]
   have c:klt key (p.getD 0 0) (p.getD (n-1) 0)=true:=decide_eq_true (srt 0 (n-1) (by omega) (by omega))
   refine⟨n,p,?_,a1,by omega,Array.Perm.refl _,srt⟩
   show kev (klt key) (if klt key (p.getD 0 0) (p.getD (n-1) 0)=true then _ else _)=_
   rw[if_pos c]
   rfl
  ·rw[if_neg g]
   have n1:n=1:=by omega
   subst n1
   have d0:=a4 (by omega)
   unfold kas_descPart
   rw[zb9]
   obtain⟨m,b1,b2,b3,b4⟩:=zio hp (p.size-(1+1)) (1+1) (by omega) (by omega)
   rw[b1]
   dsimp only
   rw[if_neg (by omega)]
   unfold kas_tail3
   rw[zb9]
   have hq:(kas_rev p 0 m).Perm p:=mirror_perm _ _ _ _
   have at':∀i,i<m→kk key (kas_rev p 0 m) i=kk key p (m-1-i):=λi hi=>ze9 (by
    unfold kas_rev
    rw[getElem?_mirror_all (by omega),if_pos ⟨by omega,hi⟩,Nat.zero_add])
   have sz:(kas_rev p 0 m).size=p.size:=mirror_size _ _ _ _
   obtain⟨c1,c2,c3,c4⟩:=zgq key (kas_rev p 0 m) (p.size-m) m
   refine⟨_,_,rfl,by omega,by omega,hq,zf4 λi i1 i2=>?_⟩
   by_cases im:i<m
   ·rw[at' i im,at' (i-1) (by omega)]
    by_cases i0:m-1-(i-1)=1
    ·rw[i0,show m-1-i=1-1 by omega]
     exact d0
    ·have z:=b4 (m-1-(i-1)) (by omega) (by omega)
     rw[show m-1-(i-1)-1=m-1-i by omega] at z
     exact z
   ·have z:=c3 i (by omega) i2
    have ne:=(hp.perm hq).ne (i:=i) (j:=i-1) (by omega) (by omega) (by omega)
    omega
open PySem.W in
theorem zgz {key:Nat→Int}{p:Array Nat}{k:Nat}(hp:Unl key p)(hk:k<p.size)(srt:Srt key p k):∀(f l r:Nat),l≤r→r≤k→r-l≤f→(∀i,i<l→kk key p i<kk key p k)→(∀i,r≤i→i<k→kk key p k<kk key p i)→kev (klt key) (kas_place p k f l r)≤k∧(∀i,i<kev (klt key) (kas_place p k f l r)→kk key p i<kk key p k)∧∀i,kev (klt key) (kas_place p k f l r)≤i→i<k→kk key p k<kk key p i
 | 0,l,r,h1,h2,h3,h4,h5=>⟨by show l≤k; omega,h4,λi q1 q2=>h5 i (by have q3:l≤i:=q1; omega) q2⟩
 | f+1,l,r,h1,h2,h3,h4,h5=>by
  by_cases c:l≥r
  ·have e:kev (klt key) (kas_place p k (f+1) l r)=l:=by
    show kev (klt key) (if l≥r then KasT.ret l else _)=l
    rw[if_pos c]
    rfl
   rw[e]
   exact⟨by omega,h4,λi q1 q2=>h5 i (by omega) q2⟩
  ·have e:kev (klt key) (kas_place p k (f+1) l r)=if decide (kk key p k<kk key p ((l+r)/2))=true then kev (klt key) (kas_place p k f l ((l+r)/2)) else kev (klt key) (kas_place p k f ((l+r)/2+1) r):=by
    show kev (klt key) (if l≥r then KasT.ret l else .ask (p.getD k 0) (p.getD ((l+r)/2) 0) λc=>if c=true then kas_place p k f l ((l+r)/2) else kas_place p k f ((l+r)/2+1) r)=_
    rw[if_neg c]
    show kev (klt key) (if klt key (p.getD k 0) (p.getD ((l+r)/2) 0)=true then kas_place p k f l ((l+r)/2) else kas_place p k f ((l+r)/2+1) r)=if klt key (p.getD k 0) (p.getD ((l+r)/2) 0)=true then _ else _
    cases klt key (p.getD k 0) (p.getD ((l+r)/2) 0) <;> rfl
   rw[e]
   by_cases d:kk key p k<kk key p ((l+r)/2)
   ·rw[decide_eq_true d,if_pos rfl]
    refine zgz hp hk srt f l ((l+r)/2) (by omega) (by omega) (by omega) h4 λi q1 q2=>?_
    by_cases q:i=(l+r)/2
    ·rw[q]; exact d
    ·have:=srt ((l+r)/2) i (by omega) q2
     omega
   ·rw[decide_eq_false d,if_neg (by decide)]
    have ne:=hp.ne (i:=k) (j:=(l+r)/2) hk (by omega) (by omega)
    refine zgz hp hk srt f ((l+r)/2+1) r (by omega) h2 (by omega) (λi q1=>?_) h5
    by_cases q:i=(l+r)/2
    ·rw[q]; omega
    ·have:=srt i ((l+r)/2) (by omega) (by omega)
     omega
open PySem.W in
theorem zgI {key:Nat→Int}:∀(f k:Nat) (p:Array Nat),Unl key p→k+f≤p.size→Srt key p k→(kev (klt key) (kas_bin f p k)).Perm p∧Srt key (kev (klt key) (kas_bin f p k)) (k+f)
 | 0,k,p,_,_,h=>⟨Array.Perm.refl _,h⟩
 | f+1,k,p,hp,hk,srt=>by
  have e:kev (klt key) (kas_bin (f+1) p k)=kev (klt key) (kas_bin f (bubble p k (k-kev (klt key) (kas_place p k k 0 k))) (k+1)):=zb9 _ _ _
  rw[e]
  obtain⟨l1,l2,l3⟩:=zgz hp (show k<p.size by omega) srt k 0 k (by omega) (by omega) (by omega) (λi q=>by omega) (λi q1 q2=>by omega)
  generalize kev (klt key) (kas_place p k k 0 k)=l at l1 l2 l3
  have hq:(bubble p k (k-l)).Perm p:=bubble_perm _ _ _
  have sz:(bubble p k (k-l)).size=p.size:=bubble_size _ _ _
  have at':∀i,kk key (bubble p k (k-l)) i=if i=l then kk key p k else if l<i∧i≤k then kk key p (i-1) else kk key p i:=λi=>by
   have z:=getElem?_bubble (xs:=p) (src:=k) (by omega) (k-l) (by omega) i
   rw[show k-(k-l)=l by omega] at z
   by_cases c1:i=l
   ·rw[if_pos c1] at z ⊢
    exact ze9 z
   ·rw[if_neg c1] at z ⊢
    by_cases c2:l<i∧i≤k
    ·rw[if_pos c2] at z ⊢
     exact ze9 z
    ·rw[if_neg c2] at z ⊢
     exact ze9 z
  have s2:Srt key (bubble p k (k-l)) (k+1):=zf4 λi i1 i2=>by
   rw[at' i,at' (i-1)]
   by_cases c1:i=l
   ·rw[if_pos c1,if_neg (by omega),if_neg (by omega)]
    exact l2 (i-1) (by omega)
   ·rw[if_neg c1]
    by_cases c2:l<i
    ·by_cases c3:i-1=l
     ·rw[if_pos c3,if_pos ⟨c2,by omega⟩,c3]
      exact l3 l (Vaa _) (by omega)
     ·rw[if_neg c3,if_pos (show l<i-1∧i-1≤k from ⟨by omega,by omega⟩),if_pos (show l<i∧i≤k from ⟨c2,by omega⟩)]
      exact srt (i-1-1) (i-1) (by omega) (by omega)
    ·rw[if_neg (by omega),if_neg (by omega),if_neg (by omega)]
     exact srt (i-1) i (by omega) (by omega)
  obtain⟨r1,r2⟩:=zgI f (k+1) (bubble p k (k-l)) (hp.perm hq) (by omega) s2
  rw[show k+(f+1)=k+1+f by omega]
  exact⟨r1.trans hq,r2⟩
open PySem.W in
theorem zkM {key:Nat→Int}{n:Nat}(hp:Unl key (List.toArray (List.range n)))(h1:1≤n):(kev (klt key) (kas_sort n)).Perm (List.toArray (List.range n))∧Srt key (kev (klt key) (kas_sort n)) n:=by
 unfold kas_sort
 rw[zb9]
 have sz:(List.toArray (List.range n)).size=n:=by simp
 obtain⟨m,q,e,m1,m2,pq,sq⟩:=zjT hp (by omega)
 rw[sz] at e m2
 rw[e]
 dsimp only
 by_cases c:m<n
 ·rw[if_pos c]
  have szq:q.size=n:=by rw[pq.size_eq,sz]
  obtain⟨r1,r2⟩:=zgI (n-max m 1) (max m 1) q (hp.perm pq) (by omega) (by rw[show max m 1=m by omega]; exact sq)
  rw[show max m 1+(n-max m 1)=n by omega] at r2
  exact⟨r1.trans pq,r2⟩
 ·rw[if_neg c]
  rw[show m=n by omega] at sq
  exact⟨pq,sq⟩
open MeetsSeq in
theorem zkQ (l b:Addr)(items items2:Array Value)(n n2:Nat){x y:Int}{t u:Tok}(h1:items[0]?=some (.int x t))(h2:items2[0]?=some (.int y u))(ne:x≠y):
  Meets (Builtin.«list.__eq__.loop» ⟨[.ref l,.ref b,rawInt 0,rawInt 0],[]⟩)
   (λ_ R s=>(∃o,s.heap.get? l=some o∧o.cls=.type "list"∧o.data=.seq items n)∧(∃o,s.heap.get? b=some o∧o.cls=.type "list"∧o.data=.seq items2 n2)∧R (.ok (.ret (.bool (decide (x<y))))) s):=by
 intro prog w A R s h
 obtain⟨⟨o1,g1,_,d1⟩,⟨o2,g2,_,d2⟩,h⟩:=h
 unfold Builtin.«list.__eq__.loop»
 dsimp only
 refine wpAny_bind (listItems_at g1 d1 ?_)
 refine wpAny_bind (listItems_at g2 d2 ?_)
 have e1:items[(0:Int).toNat]?=some (.int x t):=h1
 have e2:items2[(0:Int).toNat]?=some (.int y u):=h2
 rw[e1,e2]
 dsimp only
 refine wpAny_bind ((EqGives.int x y t u) prog w _ _ _ _ ?_)
 rw[show (x==y)=false by simpa using ne]
 simp only[Bool.false_eq_true,if_false]
 refine wpAny_bind (listItems_at g1 d1 ?_)
 refine wpAny_bind (listItems_at g2 d2 ?_)
 rw[e1,e2]
 dsimp only
 refine wpAny_bind (wpAny_richCompare_same (typeIs_int s x t) (typeIs_int s y u) slot_int_lt (call_int_lt ⟨nofun,?_⟩))
 exact wpAny_pure h
theorem zjL (l b:Addr)(items items2:Array Value)(n n2:Nat){x y:Int}{t u:Tok}(h1:items[0]?=some (.int x t))(h2:items2[0]?=some (.int y u))(ne:x≠y):
  Meets (Builtin.«list.__lt__» ⟨[.ref l,.ref b],[]⟩)
   (λ_ R s=>(∃o,s.heap.get? l=some o∧o.cls=.type "list"∧o.data=.seq items n)∧(∃o,s.heap.get? b=some o∧o.cls=.type "list"∧o.data=.seq items2 n2)∧R (.ok (.ret (.bool (decide (x<y))))) s):=by
 intro prog w A R s h
 obtain⟨hp,g,d,tk,os⟩:=s
 obtain⟨p1,⟨o2,g2,c2,d2⟩,h⟩:=h
 have f3:=AutoSeq1.sub_list_list
 have hb:Shared.TypeIs ⟨hp,g,d,tk,os⟩ (.ref b) "list":=⟨o2,g2,c2⟩
 wp_walk using wpAny_isInstance hb f3
 exact⟨plainId_quiet MeetsSeq3.plain_eq_loop _,codeAny_builtin MeetsSeq3.entry_eq_loop (by
  rw[Around.under_plainId MeetsSeq3.plain_eq_loop _]
  exact zkQ l b items items2 n n2 h1 h2 ne prog w A R _ ⟨p1,⟨o2,g2,c2,d2⟩,h⟩)⟩
def inB {α:Type}(n:Nat)(lt:Nat→Nat→Bool):PySem.W.KasT α→Prop
 | .ret _=>True
 | .ask i j k=>(i<n∧j<n∧i≠j)∧inB n lt (k (lt i j))
theorem zdj {α β:Type}{n:Nat}{lt:Nat→Nat→Bool}{f:α→PySem.W.KasT β}:∀ {t:PySem.W.KasT α},inB n lt t→inB n lt (f (kev lt t))→inB n lt (t.bind f)
 | .ret _,_,h=>h
 | .ask _ _ _,h1,h=>⟨h1.1,zdj h1.2 h⟩
structure Bel (n:Nat)(p:Array Nat):Prop where
 sz:p.size=n
 nd:p.toList.Nodup
 lt:∀x∈p,x<n
theorem Bel.two {n:Nat}{p:Array Nat}(h:Bel n p){i j:Nat}(hi:i<n)(hj:j<n)(e:i≠j):p.getD i 0<n∧p.getD j 0<n∧p.getD i 0≠p.getD j 0:=by
 have hz:=h.sz
 have g:∀k (hk:k<p.size),p.getD k 0=p[k]:=λk hk=>by simp[Array.getD,hk]
 rw[g i (by omega),g j (by omega)]
 refine⟨h.lt _ (Array.getElem_mem _),h.lt _ (Array.getElem_mem _),λw=>e ?_⟩
 have z:=List.pairwise_iff_getElem.mp h.nd
 by_cases c:i<j
 ·exact absurd w (z i j (by simp; omega) (by simp; omega) c)
 ·by_cases d:j<i
  ·exact absurd w.symm (z j i (by simp; omega) (by simp; omega) d)
  ·omega
theorem Bel.perm {n:Nat}{p q:Array Nat}(h:Bel n p)(e:q.Perm p):Bel n q:=⟨by rw[e.size_eq]; exact h.sz,(Array.perm_iff_toList_perm.mp e).nodup_iff.mpr h.nd,λx hx=>h.lt x (e.mem_iff.mp hx)⟩
open PySem.W in
theorem zf6 {n:Nat}{lt:Nat→Nat→Bool}{p:Array Nat}(h:Bel n p):∀f k:Nat,1≤k→k+f≤n→inB n lt (kas_asc p f k)∧k≤kev lt (kas_asc p f k)∧kev lt (kas_asc p f k)≤k+f
 | 0,k,_,_=>⟨trivial,Vaa k,Vaa k⟩
 | f+1,k,h1,h2=>by
  have main:∀c:Bool,inB n lt (if c=true then KasT.ret k else kas_asc p f (k+1))∧k≤kev lt (if c=true then KasT.ret k else kas_asc p f (k+1))∧kev lt (if c=true then KasT.ret k else kas_asc p f (k+1))≤k+(f+1):=λc=>by
   cases c
   ·rw[if_neg (by decide)]
    obtain⟨a,b,c⟩:=zf6 h f (k+1) (by omega) (by omega)
    exact⟨a,by omega,by omega⟩
   ·rw[if_pos rfl]
    exact⟨trivial,Vaa k,by show k≤_; omega⟩
  exact⟨⟨h.two (by omega) (by omega) (by omega),(main _).1⟩,(main _).2⟩
open PySem.W in
theorem ze1 {n:Nat}{lt:Nat→Nat→Bool}:∀(f:Nat) (p:Array Nat) (k q:Nat),Bel n p→1≤k→k+f≤n→inB n lt (kas_desc f p k q)∧Bel n (kev lt (kas_desc f p k q)).1∧k≤(kev lt (kas_desc f p k q)).2.1∧(kev lt (kas_desc f p k q)).2.1≤k+f
 | 0,p,k,q,h,_,_=>⟨trivial,h,Vaa k,Vaa k⟩
 | f+1,p,k,q,h,h1,h2=>by
  let T:Bool→KasT (Array Nat×Nat×Nat):=λd=>if d=true then KasT.ret (p,k,q) else kas_desc f p (k+1) (q+1)
  let U:Bool→KasT (Array Nat×Nat×Nat):=λc=>if c=true then (if q > 0 then kas_desc f (kas_rev p (k-(q+1)) k) (k+1) 0 else kas_desc f p (k+1) 0) else .ask (p.getD (k-1) 0) (p.getD k 0) T
  have two:∀d:Bool,inB n lt (T d)∧Bel n (kev lt (T d)).1∧k≤(kev lt (T d)).2.1∧(kev lt (T d)).2.1≤k+(f+1):=λd=>by
   cases d
   ·obtain⟨a,b,c,d⟩:=ze1 (lt:=lt) f p (k+1) (q+1) h (by omega) (by omega)
    exact⟨a,b,by show k≤(kev lt (kas_desc f p (k+1) (q+1))).2.1; omega,by show (kev lt (kas_desc f p (k+1) (q+1))).2.1≤_; omega⟩
   ·exact⟨trivial,h,Vaa k,by show k≤_; omega⟩
  have main:∀c:Bool,inB n lt (U c)∧Bel n (kev lt (U c)).1∧k≤(kev lt (U c)).2.1∧(kev lt (U c)).2.1≤k+(f+1):=λc=>by
   cases c
   ·exact⟨⟨h.two (by omega) (by omega) (by omega),(two _).1⟩,(two _).2⟩
   ·by_cases g:q > 0
    ·have e:U true=kas_desc f (kas_rev p (k-(q+1)) k) (k+1) 0:=if_pos g
     rw[e]
     obtain⟨a,b,c,d⟩:=ze1 (lt:=lt) f _ (k+1) 0 (h.perm (mirror_perm p (k-(q+1)) k ((k-(k-(q+1)))/2))) (by omega) (by omega)
     exact⟨a,b,by show k≤(kev lt (kas_desc f (kas_rev p (k-(q+1)) k) (k+1) 0)).2.1; unfold kas_rev; omega,by show (kev lt (kas_desc f (kas_rev p (k-(q+1)) k) (k+1) 0)).2.1≤_; unfold kas_rev; omega⟩
    ·have e:U true=kas_desc f p (k+1) 0:=if_neg g
     rw[e]
     obtain⟨a,b,c,d⟩:=ze1 (lt:=lt) f p (k+1) 0 h (by omega) (by omega)
     exact⟨a,b,by omega,by omega⟩
  exact⟨⟨h.two (by omega) (by omega) (by omega),(main _).1⟩,(main _).2⟩
open PySem.W in
theorem zgH {n m:Nat}{lt:Nat→Nat→Bool}{p:Array Nat}(h:Bel n p)(h1:1≤m)(h2:m≤n):inB n lt (kas_tail3 m n p)∧Bel n (kev lt (kas_tail3 m n p)).2:=by
 unfold kas_tail3
 have h':Bel n (kas_rev p 0 m):=h.perm (mirror_perm _ _ _ _)
 refine⟨zdj (zf6 h' _ _ h1 (by omega)).1 trivial,?_⟩
 rw[zb9]
 exact h'
open PySem.W in
theorem zkX {n:Nat}{lt:Nat→Nat→Bool}{p:Array Nat}(h:Bel n p)(n1:1≤n):inB n lt (kas_count n p)∧Bel n (kev lt (kas_count n p)).2:=by
 have dp:∀(m:Nat) (p:Array Nat),Bel n p→1≤m→m<n→inB n lt (kas_descPart m n p)∧Bel n (kev lt (kas_descPart m n p)).2:=λm p h m1 m2=>by
  unfold kas_descPart
  obtain⟨d1,d2,d3,d4⟩:=ze1 (lt:=lt) (n-(m+1)) p (m+1) 0 h (by omega) (by omega)
  rw[zb9]
  generalize er:kev lt (kas_desc (n-(m+1)) p (m+1) 0)=r at d2 d3 d4
  have z:inB n lt (if r.2.2 > 0 then kas_tail3 r.2.1 n (kas_rev r.1 (r.2.1-(r.2.2+1)) r.2.1) else kas_tail3 r.2.1 n r.1)∧Bel n (kev lt (if r.2.2 > 0 then kas_tail3 r.2.1 n (kas_rev r.1 (r.2.1-(r.2.2+1)) r.2.1) else kas_tail3 r.2.1 n r.1)).2:=by
   split
   ·exact zgH (d2.perm (mirror_perm _ _ _ _)) (by omega) (by omega)
   ·exact zgH d2 (by omega) (by omega)
  exact⟨zdj d1 (by rw[er]; exact z.1),z.2⟩
 unfold kas_count
 rw[zb9]
 obtain⟨a,a1,a2⟩:=zf6 (lt:=lt) h (n-1) 1 (by omega) (by omega)
 generalize em:kev lt (kas_asc p (n-1) 1)=m at a1 a2
 have z:inB n lt (if (m==n)=true then KasT.ret (m,p) else if m > 1 then .ask (p.getD 0 0) (p.getD (m-1) 0) λc=>if c=true then .ret (m,p) else kas_descPart m n (kas_rev p 0 m) else kas_descPart m n p)∧Bel n (kev lt (if (m==n)=true then KasT.ret (m,p) else if m > 1 then .ask (p.getD 0 0) (p.getD (m-1) 0) λc=>if c=true then .ret (m,p) else kas_descPart m n (kas_rev p 0 m) else kas_descPart m n p)).2:=by
  split
  ·exact⟨trivial,h⟩
  ·rename_i ne
   have ne':m≠n:=by simpa using ne
   split
   ·have two:∀c:Bool,inB n lt (if c=true then KasT.ret (m,p) else kas_descPart m n (kas_rev p 0 m))∧Bel n (kev lt (if c=true then KasT.ret (m,p) else kas_descPart m n (kas_rev p 0 m))).2:=λc=>by
     cases c
     ·rw[if_neg (by decide)]
      exact dp m _ (h.perm (mirror_perm _ _ _ _)) a1 (by omega)
     ·rw[if_pos rfl]
      exact⟨trivial,h⟩
    exact⟨⟨h.two (by omega) (by omega) (by omega),(two _).1⟩,(two _).2⟩
   ·exact dp m p h a1 (by omega)
 exact⟨zdj a (by rw[em]; exact z.1),z.2⟩
open PySem.W in
theorem zfV {n k:Nat}{lt:Nat→Nat→Bool}{p:Array Nat}(h:Bel n p)(hk:k<n):∀f l r:Nat,r≤k→inB n lt (kas_place p k f l r)
 | 0,_,_,_=>trivial
 | f+1,l,r,hr=>by
  unfold kas_place
  split
  ·trivial
  ·refine⟨h.two (by omega) (by omega) (by omega),?_⟩
   dsimp only
   split
   ·exact zfV h hk f _ _ (by omega)
   ·exact zfV h hk f _ _ hr
open PySem.W in
theorem zh8 {n:Nat}{lt:Nat→Nat→Bool}:∀(f:Nat) (p:Array Nat) (k:Nat),Bel n p→k+f≤n→inB n lt (kas_bin f p k)
 | 0,_,_,_,_=>trivial
 | f+1,p,k,h,hk=>zdj (zfV h (by omega) _ _ _ (Vaa _)) (zh8 f _ _ (h.perm (bubble_perm _ _ _)) (by omega))
open PySem.W in
theorem zkE {n:Nat}{lt:Nat→Nat→Bool}(h1:1≤n):inB n lt (kas_sort n):=by
 have h:Bel n (List.toArray (List.range n)):=⟨by simp,by simpa using List.nodup_range,λx hx=>by simpa using hx⟩
 unfold kas_sort
 obtain⟨c1,c2⟩:=zkX (lt:=lt) h h1
 refine zdj c1 ?_
 split
 ·exact zh8 _ _ _ c2 (by omega)
 ·trivial
open PySem.W in
theorem zis {α:Type}{cmp:Nat→Nat→(Bool→Shared→Prop)→Shared→Prop}{n:Nat}{lt:Nat→Nat→Bool}{Q:α→Shared→Prop}{s:Shared}(hc:∀i j (C:Bool→Shared→Prop),i<n→j<n→i≠j→C (lt i j) s→cmp i j C s):∀t:KasT α,inB n lt t→Q (kev lt t) s→t.kasWp cmp Q s
 | .ret _,_,h=>h
 | .ask i j k,b,h=>hc i j _ b.1.1 b.1.2.1 b.1.2.2 (zis hc (k (lt i j)) b.2 h)
def zcx (h:Heap)(vs:List Value)(ks:List Int):Prop:=vs.length=ks.length∧∀(i:Nat) (v:Value) (k:Int),vs[i]?=some v→ks[i]?=some k→∃(a:Addr) (o:Obj) (items:Array Value) (n:Nat) (t:Tok),v=.ref a∧h.get? a=some o∧o.cls=.type "list"∧o.data=.seq items n∧items[0]?=some (.int k t)
theorem zcx.keep {h h':Heap}{vs:List Value}{ks:List Int}(k:zcx h vs ks)(up:∀a o,.ref a∈vs→h.get? a=some o→h'.get? a=some o):zcx h' vs ks:=⟨k.1,λi v x hv hx=>by
 obtain⟨a,o,items,n,t,rfl,e1,e2,e3,e4⟩:=k.2 i v x hv hx
 exact⟨a,o,items,n,t,rfl,up a o (Vam hv) e1,e2,e3,e4⟩⟩
section
variable {prog:Program}{w:World}{A:Around}{E:Value→Shared→Prop}{s:Shared}
open MeetsSeq in
theorem zjY {l b:Addr}{o1 o2:Obj}{items items2:Array Value}{n n2:Nat}{x y:Int}{t u:Tok}{Q:Bool→Shared→Prop}(hu:A.units<cLine)(g1:s.heap.get? l=some o1)(c1:o1.cls=.type "list")(d1:o1.data=.seq items n)(g2:s.heap.get? b=some o2)(c2:o2.cls=.type "list")(d2:o2.data=.seq items2 n2)(h1:items[0]?=some (.int x t))(h2:items2[0]?=some (.int y u))(ne:x≠y)(q:Q (decide (x<y)) s):
  wpAny (model prog w) A (oneLt' true (.ref l) (.ref b)) Q E s:=by
 rw[oneLt'_eq]
 simp only[if_true]
 refine wpAny_bind (wpAny_cRoomFor hu ?_)
 refine wpAny_bind (wpAny_callSpecialIfBound?_slot ⟨o1,g1,c1⟩ F.slot_list_lt (call_meets F.slot_list_lt ⟨o1,g1,c1⟩ F.entry_list_lt (F.args_list_lt_2 _ _) (zjL l b items items2 n n2 h1 h2 ne) ⟨⟨o1,g1,c1,d1⟩,⟨o2,g2,c2,d2⟩,?_⟩))
 exact wpAny_truthy_bool q
end
theorem zl2 {xs:List Int}(h:xs.Nodup){i j:Nat}{x y:Int}(hi:xs[i]?=some x)(hj:xs[j]?=some y)(e:x=y):i=j:=by
 subst e
 obtain⟨li,ei⟩:=Vad.mp hi
 obtain⟨lj,ej⟩:=Vad.mp hj
 have z:=List.pairwise_iff_getElem.mp h
 by_cases c:i<j
 ·exact absurd (ei.trans ej.symm) (z i j li lj c)
 ·by_cases d:j<i
  ·exact absurd (ej.trans ei.symm) (z j i lj li d)
  ·omega
section
variable {prog:Program}{w:World}{A:Around}{E:Value→Shared→Prop}{s:Shared}
abbrev zcI (h:Heap)(a:Addr)(vs:List Value):Heap:=((h.update a (Obj.mapSeq λ_=>#[])).push (seqObj "tuple" vs.toArray 0)).push (seqObj "list" #[] 0)
theorem zj2 {h:Heap}{a b:Addr}{vs:List Value}{o:Obj}(ne:b≠a)(e:h.get? b=some o):(zcI h a vs).get? b=some o:=by
 have lb:=Heap.lt_size e
 have sz1:(h.update a (Obj.mapSeq λ_=>#[])).objs.size=h.objs.size:=Heap.size_update ..
 unfold zcI
 rw[Heap.get?_push_ne _ _ _ (by rw[size_push',sz1]; exact Vah (Nat.lt_succ_of_lt lb)),Heap.get?_push_ne _ _ _ (by rw[sz1]; exact Vah lb),Heap.get?_update_ne _ _ _ _ ne]
 exact e
theorem zi4 {h:Heap}{a:Addr}{vs:List Value}{n:Nat}(e:h.get? a=some (seqObj "list" vs.toArray n)):∃e1,(h.update a (Obj.mapSeq λ_=>#[])).get? a=some (seqObj "list" #[] e1)∧(zcI h a vs).get? a=some (seqObj "list" #[] e1):=by
 have la:=Heap.lt_size e
 obtain⟨e1,he1⟩:∃e1,(h.update a (Obj.mapSeq λ_=>#[])).get? a=some (seqObj "list" #[] e1):=⟨_,get?_update_seq e (λ_=>#[])⟩
 have sz1:(h.update a (Obj.mapSeq λ_=>#[])).objs.size=h.objs.size:=Heap.size_update ..
 refine⟨e1,he1,?_⟩
 unfold zcI
 rw[Heap.get?_push_ne _ _ _ (by rw[size_push',sz1]; exact Vah (Nat.lt_succ_of_lt la)),Heap.get?_push_ne _ _ _ (by rw[sz1]; exact Vah la)]
 exact he1
theorem zaG {α:Type}{xs:List α}{i:Nat}{d:α}(h:i<xs.length):xs[i]?=some (xs.getD i d):=by
 rw[Vap,Vab h]
 rfl
theorem zgP (p:Array Nat)(i:Nat)(h:i<p.toList.length):p.getD i 0=p.toList[i]:=by
 have h':i<p.size:=by simpa using h
 rw[Array.getElem_toList]
 simp[Array.getD,h']
open PySem.W in
theorem zlE {vs:List Value}{ks:List Int}{Q:Unit→SortSt→Shared→Prop}(hK:zcx s.heap vs ks)(nd:ks.Nodup)(h2:2≤vs.length)(h64:vs.length<64)(hu:A.units<cLine)
  (q:∀(p:List Nat) (st:SortSt),p.Perm (List.range vs.length)→(p.map λi=>ks.getD i 0).Pairwise (·<·)→(arrOf st).map (·.2)=(p.map λi=>vs.getD i Value.none).toArray→failedOf st=none→Q () st s):
  kasC (model prog w) A E sortRuns' Q (kas_st oneType' (pairsOf vs) (List.toArray (List.range vs.length))) s:=by
 have lk:=hK.1
 have unl:Unl (λi=>ks.getD i 0) (List.toArray (List.range vs.length)):=by
  unfold Unl
  have e:(List.toArray (List.range vs.length)).toList.map (λi=>ks.getD i 0)=ks:=by
   refine List.ext_getElem? λk=>?_
   by_cases hk:k<vs.length
   ·rw[Vae,List.getElem?_range hk,zaG (d:=0) (show k<ks.length by omega)]
    rfl
   ·rw[Va0 (by simpa using hk),Va0 (by omega)]
  rw[e]
  exact nd
 obtain⟨s1,s2⟩:=zkM unl (show 1≤vs.length by omega)
 have sz:(kev (klt λi=>ks.getD i 0) (kas_sort vs.length)).size=vs.length:=by rw[s1.size_eq]; simp
 refine kas_runs (G:=λp s'=>s'=s∧p=kev (klt λi=>ks.getD i 0) (kas_sort vs.length)) h2 h64 (λp' st' s' a1 a2 a3 a4=>?_) (zis (n:=vs.length) (lt:=klt λi=>ks.getD i 0) (λi j C hi hj ne hc=>?_) _ (zkE (by omega)) ⟨rfl,rfl⟩)
 ·obtain⟨rfl,rfl⟩:=a4
  refine q (kev (klt λi=>ks.getD i 0) (kas_sort vs.length)).toList st' (by simpa using Array.perm_iff_toList_perm.mp s1) ?_ ?_ a3
  ·rw[List.pairwise_map,List.pairwise_iff_getElem]
   intro i j hi hj hij
   have z:=s2 i j hij (by rw[Array.length_toList] at hj; omega)
   unfold kk at z
   rw[zgP _ i hi,zgP _ j hj] at z
   exact z
  ·rw[a2]
   apply Array.toList_inj.mp
   rw[Array.map_map,Array.toList_map]
   exact VaG λi _=>by show (kas_item (pairsOf vs) i).2=_; rw[kas_item_eq]
 ·have hv:=zaG (d:=Value.none) hi
  have hw:=zaG (d:=Value.none) hj
  have hx:=zaG (d:=(0:Int)) (show i<ks.length by omega)
  have hy:=zaG (d:=(0:Int)) (show j<ks.length by omega)
  obtain⟨a,o,its,n,t,ea,g1,c1,d1,k1⟩:=hK.2 i _ _ hv hx
  obtain⟨b,o',its',n',t',eb,g2,c2,d2,k2⟩:=hK.2 j _ _ hw hy
  show wpAny (model prog w) A (keyLt' oneType' (kas_item (pairsOf vs) i).1 (kas_item (pairsOf vs) j).1) C (λ_ _=>False) s
  rw[kas_item_eq,kas_item_eq,keyLt'_oneType]
  dsimp only
  rw[ea,eb]
  refine zjY hu g1 c1 d1 g2 c2 d2 k1 k2 ?_ hc
  exact λz=>ne (zl2 nd hx hy z)
open PySem.W in
theorem zkf {a:Addr}{vs:List Value}{ks:List Int}{n:Nat}{P:PySem.Fin→Shared→Prop}(ho:s.heap.get? a=some (seqObj "list" vs.toArray n))(hK:zcx s.heap vs ks)(own:Value.ref a ∉ vs)(nd:ks.Nodup)(h64:vs.length<64)(hu:A.units<cLine)
  (h:∀p:List Nat,p.Perm (List.range vs.length)→(p.map λi=>ks.getD i 0).Pairwise (·<·)→P (.done (.ret .none)) { s with heap:=sortedHeap s.heap a vs (p.map λi=>vs.getD i Value.none).toArray }):
  wpAny (model prog w) A (Builtin.«list.sort» ⟨[.ref a],[]⟩) P E s:=by
 obtain⟨e1,ho1,mine⟩:=zi4 ho
 have K6:zcx (zcI s.heap a vs) vs ks:=hK.keep λb o hb e=>zj2 (λz=>own (z ▸ hb)) e
 have hsz:vs.toArray.size=vs.length:=Vag ..
 have lim:vs.toArray.size≤sizeLine:=by rw[hsz,sizeLine_eq]; omega
 rw[list_sort_plain]
 refine wpAny_bind (listItems_at ho rfl ?_)
 refine wpAny_bind (listUpdate_at ho rfl ?_ lim (Vaj _))
 refine wpAny_bind (seqEpoch_at ho1 rfl ?_)
 refine wpAny_bind (wpAny_newTuple ?_ (by show vs.length≤_; rw[sizeLine_eq]; omega))
 refine wpAny_bind (wpAny_newList ?_ (Vaj _))
 refine wpAny_holding ?_
 show wpAny (model prog w) A _ P E { s with heap:=zcI s.heap a vs }
 dsimp only
 by_cases h2:vs.toArray.size<2
 ·rw[if_pos h2,if_pos h2]
  refine wpAny_bind (wpAny_pure ?_)
  rw[StateT.run_pure]
  refine wpAny_bind (wpAny_pure ?_)
  dsimp only
  refine wpAny_bind (seqEpoch_at mine rfl ?_)
  have es:(arrOf (SortSt.mk' general' (vs.toArray.zip vs.toArray) #[] 7 none)).map (·.2)=((List.range vs.length).map λi=>vs.getD i Value.none).toArray:=by
   show (vs.toArray.zip vs.toArray).map (·.2)=_
   apply Array.toList_inj.mp
   rw[Array.toList_map,Array.toList_zip]
   show (List.zip vs vs).map (·.2)=_
   rw[List.map_snd_zip (Vaa _)]
   refine List.ext_getElem? λk=>?_
   by_cases hk:k<vs.length
   ·rw[Vae,List.getElem?_range hk,zaG (d:=Value.none) hk]
    rfl
   ·rw[Va0 (by omega),Va0 (by simpa using hk)]
  rw[es]
  refine wpAny_bind (listUpdate_at mine rfl ?_ (Vaj _) (by show ((List.range vs.length).map λi=>vs.getD i Value.none).toArray.size≤_; rw[Vag,Vac,Vav,sizeLine_eq]; omega))
  simp only[bne_self_eq_false,Bool.false_eq_true,if_false]
  refine wpAny_pure (h (List.range vs.length) (List.Perm.refl _) ?_)
  rw[hsz] at h2
  obtain z | z:vs.length=0∨vs.length=1:=by omega
  ·rw[z]
   simp
  ·rw[z]
   simp[VaA]
 ·rw[if_neg h2,if_neg h2]
  refine wpAny_bind (kas_kind (T:=.type "list") (by omega) (λv hv=>?_) rfl rfl ?_)
  ·obtain⟨i,hi⟩:=List.mem_iff_getElem?.mp hv
   obtain⟨b,o,its,m,t,rfl,g1,c1,_,_⟩:=K6.2 i v _ hi (zaG (d:=(0:Int)) (show i<ks.length by have:=(Vad.mp hi).1; have:=hK.1; omega))
   rw[← c1]
   exact(Looks.ld g1).andThen .now
  have est:SortSt.mk' oneType' (vs.toArray.zip vs.toArray) #[] 7 none=kas_st oneType' (pairsOf vs) (List.toArray (List.range vs.length)):=by
   have e:=kas_range (pairsOf vs)
   rw[pairsOf_size] at e
   show SortSt.mk' oneType' (pairsOf vs) #[] 7 none=SortSt.mk' oneType' ((List.toArray (List.range vs.length)).map (kas_item (pairsOf vs))) #[] 7 none
   rw[e]
  rw[est]
  have run:=zlE (prog:=prog) (w:=w) (A:=A) (E:=E) (s:={ s with heap:=zcI s.heap a vs }) (Q:=λ_ st s'=>s'={ s with heap:=zcI s.heap a vs }∧∃p:List Nat,p.Perm (List.range vs.length)∧(p.map λi=>ks.getD i 0).Pairwise (·<·)∧(arrOf st).map (·.2)=(p.map λi=>vs.getD i Value.none).toArray∧failedOf st=none) K6 nd (by omega) h64 hu λp st pp sp e hf=>⟨rfl,p,pp,sp,e,hf⟩
  refine wpAny_bind (wpAny_mono run ?_ λ_ _ e=>e)
  rintro⟨⟨⟩,st⟩ s' ⟨rfl,p,pp,sp,e,hf⟩
  dsimp only
  refine wpAny_bind (seqEpoch_at mine rfl ?_)
  rw[e]
  refine wpAny_bind (listUpdate_at mine rfl ?_ (Vaj _) (by show (p.map λi=>vs.getD i Value.none).toArray.size≤_; rw[Vag,Vac,pp.length_eq,Vav,sizeLine_eq]; omega))
  rw[hf]
  simp only[bne_self_eq_false,Bool.false_eq_true,if_false]
  exact wpAny_pure (h p pp sp)
end
section
variable {prog:Program}{w:World}{A:Around}{E:Value→Shared→Prop}{s:Shared}
theorem ziQ {l:Addr}{vs:List Value}{ks:List Int}{Q:Value→Shared→Prop}(hl:s.heap.IsList l vs.toArray)(hK:zcx s.heap vs ks)(nd:ks.Nodup)(h64:vs.length<64)(hu:A.units+2<cLine)
  (h:∀p:List Nat,p.Perm (List.range vs.length)→(p.map λi=>ks.getD i 0).Pairwise (·<·)→Q (.ref (s.heap.objs.size+1)) { s with heap:=sortedAll s.heap vs (p.map λi=>vs.getD i Value.none).toArray }):
  wpAny (model prog w) A (call (.builtin "sorted") [.ref l]) Q E s:=by
 refine Calls.call_function_entry kind_sorted plain_sorted entry_sorted (args_sorted1 _) ?_
 unfold Builtin.«sorted»
 refine wpAny_bind (m:=checkCount "sorted" 1 1 _) (wpAny_pure ?_)
 refine wpAny_bind (collect_list hl ?_ (by rw[sizeLine_eq]; omega))
 refine wpAny_bind (wpAny_newList ?_ (by rw[sizeLine_eq]; omega))
 have hsz:((s.heap.push (seqObj "list" #[] 0)).update s.heap.objs.size (Obj.mapSeq (·++vs.toArray))).objs.size=s.heap.objs.size+1:=by rw[Heap.size_update,size_push']
 have hoL:(((s.heap.push (seqObj "list" #[] 0)).update s.heap.objs.size (Obj.mapSeq (·++vs.toArray))).push (seqObj "list" vs.toArray 0)).get? (s.heap.objs.size+1)=some (seqObj "list" vs.toArray 0):=by
  rw[← hsz]
  exact Heap.get?_push_size _ rfl
 have keep:∀b o,s.heap.get? b=some o→(((s.heap.push (seqObj "list" #[] 0)).update s.heap.objs.size (Obj.mapSeq (·++vs.toArray))).push (seqObj "list" vs.toArray 0)).get? b=some o:=λb o q=>by
  have lb:=Heap.lt_size q
  rw[Heap.get?_push_ne _ _ _ (by rw[hsz]; exact Vah (Nat.lt_succ_of_lt lb)),Heap.get?_update_ne _ _ _ _ (Vah lb),Heap.get?_push_ne _ _ _ (Vah lb)]
  exact q
 have own:Value.ref (s.heap.objs.size+1) ∉ vs:=λz=>by
  obtain⟨i,hi⟩:=List.mem_iff_getElem?.mp z
  obtain⟨a,o,_,_,_,ea,g1,_⟩:=hK.2 i _ _ hi (zaG (d:=(0:Int)) (show i<ks.length by have:=(Vad.mp hi).1; have:=hK.1; omega))
  have la:=Heap.lt_size g1
  have e:s.heap.objs.size+1=a:=Value.ref.inj ea
  rw[← e] at la
  exact absurd la (Nat.not_lt_of_lt (Nat.lt_succ_self _))
 show wpAny _ _ _ _ _ { s with heap:=((s.heap.push (seqObj "list" #[] 0)).update s.heap.objs.size (Obj.mapSeq (·++vs.toArray))).push (seqObj "list" vs.toArray 0) }
 rw[hsz]
 refine wpAny_bind (wpAny_holding (wpAny_call_entry slot_list_sort ⟨_,hoL,rfl⟩ entry_list_sort (zkf hoL (hK.keep λb o _ e=>keep b o e) own nd h64 (by show A.units+1+1<cLine; omega) λp pp sp=>⟨_,rfl,?_⟩) (args_list_sort _)))
 exact wpAny_pure ⟨_,rfl,h p pp sp⟩
end
section
variable {X:Cx}{Z:Zx}{pos:Pos}
def zgu:WC:=λds S Q=>match ds with
 | [.ref n]=>∃(es:List D) (zs:List Int),S[n]?=some (.lst es)∧es.length=zs.length∧(∀(i:Nat) (e:D) (z:Int),es[i]?=some e→zs[i]?=some z→∃a xs,e=.ref a∧S[a]?=some (.lst (.int z::xs)))∧zs.Nodup∧es.length<64∧∀p:List Nat,p.Perm (List.range es.length)→(p.map λi=>zs.getD i 0).Pairwise (·<·)→Q (.ref S.length) (S++[.lst (p.map λi=>es.getD i .non)])
 | _=>False
theorem zi6 {r:List Addr}{H:Hp}{ds:List D}{vs:List V}(h:Rps r H ds vs)(p:List Nat)(hp:∀i∈p,i<ds.length):Rps r H (p.map λi=>ds.getD i .non) (p.map λi=>vs.getD i .non):=⟨by simp,λk d v hd hv=>by
 rw[Vae] at hd hv
 obtain⟨i,hi,rfl⟩:=VaH.mp hd
 rw[hi] at hv
 cases hv
 have hl:=hp i (Vam hi)
 exact h.2 i _ _ (zaG hl) (zaG (by rw[← h.1]; exact hl))⟩
theorem zia {xs:List V}{us:List Value}(h:zaf xs us):∀p:List Nat,(∀i∈p,i<xs.length)→zaf (p.map λi=>xs.getD i .non) (p.map λi=>us.getD i Value.none)
 | [],_=>.nil
 | i::p,hp=>by
  obtain⟨u,hu,ru⟩:=h.get (zaG (d:=V.non) (hp i (by simp)))
  refine .cons ?_ (zia h p λj hj=>hp j (by simp[hj]))
  have e:us.getD i Value.none=u:=by
   rw[Vap,hu]
   rfl
  show L2.zae (xs.getD i V.non) (us.getD i Value.none)
  rw[e]
  exact ru
theorem zkm {j:Nat}(hr:zaC j X.A):zaI X (.builtin "sorted") (upC X.K Z zgu):=by
 have hun:=hr.un
 intro pins s σ H xs us Qv I rv h
 obtain⟨r,S,ds,Q,rel,ps,q,ret⟩:=h
 unfold zgu at q
 split at q
 ·rename_i n
  obtain⟨v,vs,rfl,p1,p2⟩:=ps.uncons
  have z:=p2.unnil
  subst z
  obtain⟨es,zs,hn,ll,hk,nd,h64,q⟩:=q
  cases p1 with
  | ref h1=>
   obtain⟨a,ha,ob⟩:=rel.at hn
   rw[h1] at ha; cases ha
   obtain⟨ys,sq,pr⟩:=ob.list rfl
   obtain⟨u,rfl,ru⟩:=zcr rv
   cases ru
   obtain⟨its,ri,pl,hz⟩:=I.list sq
   have li:its.length=es.length:=by rw[← ri.length,← pr.1]; rfl
   have K0:zcx s.heap its zs:=⟨by omega,λi v k hv hx=>by
    have hi:i<es.length:=by have:=(Vad.mp hv).1; omega
    obtain⟨b,xs,eb,hb⟩:=hk i _ k (zaG (d:=.non) hi) hx
    obtain⟨y,hy,py⟩:=pr.get (show es[i]?=some (es.getD i .non) from zaG hi)
    obtain⟨u,hu,ru⟩:=ri.get hy
    rw[hv] at hu
    cases hu
    rw[eb] at py
    cases py with
    | @ref _ p hp=>
     cases ru
     obtain⟨p',hp',ob'⟩:=rel.at hb
     rw[hp] at hp'; cases hp'
     obtain⟨ys',sq',pr'⟩:=ob'.list rfl
     obtain⟨its',ri',pl',_⟩:=I.list sq'
     obtain⟨y0,hy0,py0⟩:=pr'.get (show (zad (.lst (.int k::xs)))[0]?=some (.int k) from rfl)
     cases py0
     obtain⟨u0,hu0,t,et⟩:=ri'.get hy0
     obtain⟨o,ho,hc,m,hd⟩:=pl'.isList
     exact⟨p,o,its'.toArray,m,t,rfl,ho,hc,hd,by rw[← et]; simpa using hu0⟩⟩
   refine ziQ pl.isList K0 nd (by omega) (by omega) λp pp sp=>?_
   have hp:∀i∈p,i<es.length:=λi hi=>by
    have:=VaE.mp (pp.mem_iff.mp hi)
    omega
   obtain⟨e,he⟩:=sortedAll_at s.heap its (p.map λi=>its.getD i Value.none).toArray
   have hf:H (s.heap.objs.size+1)=none:=I.hok.fresh (Va4 _)
   obtain⟨rel2,x⟩:=rel.push (ds:=p.map λi=>es.getD i .non) (xs:=p.map λi=>ys.getD i .non) hf (zi6 pr p hp)
   refine⟨.ref (s.heap.objs.size+1),_,I.laid (t':=s.toks) (λb o e=>sortedAll_old e) (Va4 _) (show zaZ X.prog X.w _ _ _ (.lst (p.map λi=>ys.getD i .non)) from ⟨?_,p.map (λi=>its.getD i Value.none),e,zia ri p (λi hi=>by rw[← pr.1]; exact hp i hi),he⟩),rfl,ret _ _ _ (.ref S.length) _ x rel2 (zcX rel.len) (q p (by rw[← li]; exact pp) sp)⟩
   rw[Vac,pp.length_eq,Vav]
   exact zb3 (by omega)
  | _=>exact(show False from q).elim
 ·exact q.elim
theorem ziU {n:Nat}{S:Sto}{Q:DK}{es:List D}{zs:List Int}(hn:S[n]?=some (.lst es))(ll:es.length=zs.length)(hk:∀(i:Nat) (e:D) (z:Int),es[i]?=some e→zs[i]?=some z→∃a xs,e=.ref a∧S[a]?=some (.lst (.int z::xs)))(nd:zs.Nodup)(h64:es.length<64)(q:∀p:List Nat,p.Perm (List.range es.length)→(p.map λi=>zs.getD i 0).Pairwise (·<·)→Q (.ref S.length) (S++[.lst (p.map λi=>es.getD i .non)])):irr zgu [.ref n] S Q:=by
 rw[zcH]
 exact⟨es,zs,hn,ll,hk,nd,h64,q⟩
theorem ziE:MtM X "list.extend" (λx vs H Q=>∃l b xs ys,x=.ref l∧vs=[.ref b]∧H l=some (.lst xs)∧H b=some (.lst ys)∧l≠b∧xs.length+ys.length≤1000∧Q .non (upd H l (.lst (xs++ys)))):=by
 intro pins s σ H x vs v us Q I rx rv h
 obtain⟨l,b,xs,ys,rfl,rfl,hH,hB,ne,h1,q⟩:=h
 cases rx
 obtain⟨u,rfl,ru⟩:=zcr rv
 cases ru
 obtain⟨z,its,n,r,hl,e⟩:=I.lstM hH
 obtain⟨z',its',n',r',hl',e'⟩:=I.lstM hB
 have d:¬(!its.toArray.isEmpty&&Builtin.List.listTooLong (its.toArray.size+its'.toArray.size))=true:=extend_door (by rw[Vag,Vag,← hl,← hl']; exact zb3 h1)
 refine call_meets PySem.F.slot_list_extend ⟨_,e,rfl⟩ PySem.F.entry_list_extend (PySem.F.args_list_extend_2 _ _) (PySem.AutoSeq1.list_extend_list_list_0 l its.toArray n b its'.toArray n' d (by rw[Vag,← hl]; exact z) (by rw[Vag,Vag,← hl,← hl']; exact Nat.le_succ_of_le (zb3 h1))) ⟨e,e',?_⟩
 refine⟨.non,_,I.lset (t':=s.toks) (ys:=xs++ys) (its':=its++its') hH e ?_ (r.append r') ?_,rfl,q⟩
 ·apply Array.toList_inj.mp
  simp
 ·rw[Vaq]
  exact zb3 h1
@[irreducible] def zeJ (to:TDE)(t:TDA):TDE:=λdl S Q=>to dl S λd S1=>match d with
 | .ref n=>(lAt S1 n).isSome=true∧t dl S1 λds S2=>match ds with
  | [.ref m]=>∃xs ys,S2[n]?=some (.lst xs)∧S2[m]?=some (.lst ys)∧n≠m∧xs.length+ys.length≤1000∧Q .non (S2.set n (.lst (xs++ys)))
  | _=>False
 | _=>False
theorem zj4 {to:TDE}{t:TDA}{dl:Ev}{S S1 S2:Sto}{Q:DK}{n m:Nat}{xs ys zs:List D}(hto:∀K:DK,K (.ref n) S1→to dl S K)(h:S1[n]?=some (.lst zs))(ht:∀K:List D→Sto→Prop,K [.ref m] S2→t dl S1 K)(h2:S2[n]?=some (.lst xs))(h3:S2[m]?=some (.lst ys))(ne:n≠m)(hl:xs.length+ys.length≤1000)(hq:Q .non (S2.set n (.lst (xs++ys)))):zeJ to t dl S Q:=by
 unfold zeJ
 exact hto _ ⟨by rw[zaQ h rfl]; rfl,ht _ ⟨xs,ys,h2,h3,ne,hl,hq⟩⟩
theorem zlU {o e:Expr}{to:TDE}{t:TDA}{apos cpos:Pos}(ho:PD X Z o to)(ha:PDA X Z [e] t)(hbase:attributeBase o "extend" X.env (eval o X.env)=eval o X.env:=by rfl)
  (hfew:((backTo cpos (starEach [e] X.env)).all (λx=>!x.1)&&(backToKw cpos (keywordEach [] X.env)).all (λx=>x.1.isSome)
  &&decide ([e].length+([]:List Keyword).length+(if ([]:List Keyword).isEmpty then 0 else 1)<30))=true:=by rfl)
  (hline:(apos.endLine==cpos.line)=true:=by rfl)(hs:starEach [e] X.env=(false,eval e X.env)::starEach [] X.env:=by rfl)(hplain:(backTo cpos (starEach [] X.env)).any (·.1)=false:=by rfl):
  PD X Z (.Call (.Attribute o "extend" apos) [e] [] cpos) (zeJ to t):=
 zaX (zhu (T:="list") PySem.F.plainAttrs_list PySem.F.slot_list_extend PySem.F.type_list_extend ziE ho ha hbase hfew hline hs hplain) λσ H Qv ⟨r,dl,S,Q,rs,rel,h,ret⟩=>by
  unfold zeJ at h
  refine⟨r,dl,S,_,rs,rel,h,λv H1 r1 d S1 e1 rel1 p1 q1=>?_⟩
  cases p1 with
  | @ref n a hn=>
   obtain⟨hsome,q1⟩:=q1
   obtain⟨o1,eo⟩:=VaO.mp hsome
   obtain⟨eo,eL⟩:=zbE eo
   obtain⟨a',ha',ob⟩:=rel1.at eo
   rw[hn] at ha'; cases ha'
   obtain⟨xs,sq,_⟩:=ob.list eL
   refine⟨.inl ⟨rfl,xs,sq⟩,r1,dl,S1,_,rs.ext e1,rel1,q1,λvs H2 r2 ds S2 e2 rel2 p2 q2=>?_⟩
   split at q2
   ·rename_i m
    obtain⟨v2,vs',rfl,p3,p4⟩:=p2.uncons
    have z:=p4.unnil
    subst z
    obtain⟨zs,ws,ez,ew,ne,hl,q⟩:=q2
    cases p3 with
    | @ref _ b hm=>
     have hn2:=e2.adr _ _ hn
     obtain⟨ys,hH,pr⟩:=rel2.b.ob n a _ hn2 ez
     obtain⟨us,hU,pu⟩:=rel2.b.ob m b _ hm ew
     obtain⟨rel3,x3⟩:=rel2.set hn2 ez (Rps.app pr pu)
     exact⟨a,b,ys,us,rfl,rfl,hH,hU,λe=>ne (rel2.b.nd n m a _ _ hn2 (by rw[e]; exact hm) ez ew rfl rfl),by rw[← pr.1,← pu.1]; exact hl,ret .non _ r2 .non _ (e1.trans (e2.trans x3)) rel3 .non q⟩
   ·exact q2.elim
  | _=>exact(show False from q1).elim
end
def cls (M:List Nat)(v:Nat):List Nat:=(List.range M.length).filter λk=>M.getD k 0==v
def zal (M:List Nat):List Nat:=(List.range M.length).filter λv=>M.getD v 0==v
def zag (T:Nat→Nat→Bool)(M:List Nat):List Nat:=((List.range M.length).filter λk=>T k M.length).map (λk=>M.getD k 0)++[M.length]
def mkS (l:Nat)(mine M:List Nat):List Nat:=M.map (λm=>if m∈mine then l else m)++[l]
structure MOk (M:List Nat):Prop where
 le:∀k,k<M.length→M.getD k 0≤k
 id:∀k,k<M.length→M.getD (M.getD k 0) 0=M.getD k 0
theorem zbu {M:List Nat}{v k:Nat}:k∈cls M v↔k<M.length∧M.getD k 0=v:=by simp[cls]
theorem zca {M:List Nat}{v:Nat}:v∈zal M↔v<M.length∧M.getD v 0=v:=by simp[zal]
theorem zfQ {T:Nat→Nat→Bool}{M:List Nat}{v:Nat}:v∈zag T M↔(∃k,k<M.length∧T k M.length=true∧M.getD k 0=v)∨v=M.length:=by
 simp only[zag,Va2,Vaf,VaI,VaE,VaT]
 constructor
 ·rintro(⟨k,⟨a,b⟩,c⟩ | h)
  ·exact .inl ⟨k,a,b,c⟩
  ·exact .inr h
 ·rintro(⟨k,a,b,c⟩ | h)
  ·exact .inl ⟨k,⟨a,b⟩,c⟩
  ·exact .inr h
theorem zcL {l:Nat}{mine M:List Nat}:(mkS l mine M).length=M.length+1:=by simp[mkS]
theorem zcf {l:Nat}{mine M:List Nat}{k:Nat}(hk:k<M.length):(mkS l mine M).getD k 0=if M.getD k 0∈mine then l else M.getD k 0:=by
 unfold mkS
 rw[Vap,Vao (by simpa using hk),Vae,Vab hk,Vap,Vab hk]
 rfl
theorem zdd {l:Nat}{mine M:List Nat}:(mkS l mine M).getD M.length 0=l:=by
 unfold mkS
 rw[Vap,Vax (by simp)]
 simp
theorem zgt {T:Nat→Nat→Bool}{M:List Nat}{l:Nat}(h:MOk M)(lm:l∈zag T M)(ll:∀x∈zag T M,l≤x):MOk (mkS l (zag T M) M)∧(∀v,v∈zal (mkS l (zag T M) M)↔v=l∨(v∈zal M∧v ∉ zag T M))∧(∀k,k∈cls (mkS l (zag T M) M) l↔k=M.length∨(k<M.length∧M.getD k 0∈zag T M))∧∀v,v∈zal M→v ∉ zag T M→cls (mkS l (zag T M) M) v=cls M v:=by
 have l1:l≤M.length:=ll _ (zfQ.mpr (.inr rfl))
 have idl:l<M.length→M.getD l 0=l:=λhl=>by
  rcases zfQ.mp lm with ⟨k,a,_,c⟩ | e
  ·rw[← c]
   exact h.id k a
  ·omega
 have gl:(mkS l (zag T M) M).getD l 0=l:=by
  by_cases c:l<M.length
  ·rw[zcf c,idl c,if_pos lm]
  ·rw[show l=M.length by omega]
   have z:=zdd (l:=l) (mine:=zag T M) (M:=M)
   rw[show l=M.length by omega] at z
   exact z
 refine⟨⟨λk hk=>?_,λk hk=>?_⟩,λv=>?_,λk=>?_,λv hv hn=>?_⟩
 ·rw[zcL] at hk
  by_cases c:k<M.length
  ·rw[zcf c]
   have:=h.le k c
   split
   ·rename_i hm
    have:=ll _ hm
    omega
   ·exact this
  ·rw[show k=M.length by omega,zdd]
   exact l1
 ·rw[zcL] at hk
  by_cases c:k<M.length
  ·rw[zcf c]
   split
   ·exact gl
   ·rename_i hm
    have hx:M.getD k 0<M.length:=by have:=h.le k c; omega
    rw[zcf hx,h.id k c,if_neg hm]
  ·rw[show k=M.length by omega,zdd]
   exact gl
 ·rw[zca,zcL]
  constructor
  ·rintro⟨a,b⟩
   by_cases c:v<M.length
   ·rw[zcf c] at b
    by_cases d:M.getD v 0∈zag T M
    ·rw[if_pos d] at b
     exact .inl b.symm
    ·rw[if_neg d] at b
     rw[b] at d
     exact .inr ⟨zca.mpr ⟨c,b⟩,d⟩
   ·rw[show v=M.length by omega,zdd] at b
    exact .inl (by omega)
  ·rintro(rfl | ⟨a,b⟩)
   ·exact⟨by omega,gl⟩
   ·obtain⟨c,d⟩:=zca.mp a
    exact⟨by omega,by rw[zcf c,d,if_neg b]⟩
 ·rw[zbu,zcL]
  constructor
  ·rintro⟨a,b⟩
   by_cases c:k<M.length
   ·rw[zcf c] at b
    by_cases d:M.getD k 0∈zag T M
    ·exact .inr ⟨c,d⟩
    ·rw[if_neg d] at b
     rw[b] at d
     exact absurd lm d
   ·exact .inl (by omega)
  ·rintro(rfl | ⟨a,b⟩)
   ·exact⟨by omega,zdd⟩
   ·exact⟨by omega,by rw[zcf a,if_pos b]⟩
 ·obtain⟨c,d⟩:=zca.mp hv
  unfold cls
  rw[zcL,VaA,VaF]
  have e1:(List.range M.length).filter (λk=>(mkS l (zag T M) M).getD k 0==v)=(List.range M.length).filter (λk=>M.getD k 0==v):=List.filter_congr λk hk=>by
   rw[zcf (VaE.mp hk)]
   split
   ·rename_i hm
    have n1:l≠v:=λe=>hn (e ▸ lm)
    have n2:M.getD k 0≠v:=λe=>hn (e ▸ hm)
    rw[beq_eq_false_iff_ne.mpr n1,beq_eq_false_iff_ne.mpr n2]
   ·rfl
  have e2:[M.length].filter (λk=>(mkS l (zag T M) M).getD k 0==v)=[]:=by
   rw[VaD,zdd,if_neg (by simpa using λ(e:l=v)=>hn (e ▸ lm))]
   rfl
  rw[e1,e2,VaN]
theorem zh9 (M:List Nat)(v:Nat):(cls M v).Nodup:=List.nodup_range.filter _
theorem ze6 (M:List Nat):(zal M).Nodup:=List.nodup_range.filter _
abbrev tch (T:Nat→Nat→Bool)(at':Nat)(g:List Nat):Bool:=g.any λk=>T k at'
theorem zh7 {T:Nat→Nat→Bool}{M:List Nat}{v:Nat}(hv:v∈zal M):tch T M.length (cls M v)=true↔v∈zag T M:=by
 rw[List.any_eq_true,zfQ]
 have hlt:=(zca.mp hv).1
 constructor
 ·rintro⟨k,a,b⟩
  obtain⟨c,d⟩:=zbu.mp a
  exact .inl ⟨k,c,b,d⟩
 ·rintro(⟨k,a,b,c⟩ | e)
  ·exact⟨k,zbu.mpr ⟨a,c⟩,b⟩
  ·omega
theorem zh3 {xs ys:List Nat}(h1:xs.Nodup)(h2:ys.Nodup)(h:∀x,x∈xs↔x∈ys):xs.Perm ys:=(List.perm_ext_iff_of_nodup h1 h2).mpr h
theorem zg9 {T:Nat→Nat→Bool}{M:List Nat}{l:Nat}{G:List (List Nat)}(h:MOk M)(lm:l∈zag T M)(ll:∀x∈zag T M,l≤x)(hG:G.Perm ((zal M).map (cls M))):(M.length::(G.filter (tch T M.length)).flatten).Perm (cls (mkS l (zag T M) M) l):=by
 obtain⟨_,r1,r2,r3⟩:=zgt h lm ll
 have f1:((zal M).map (cls M)).filter (tch T M.length)=((zal M).filter (λv=>decide (v∈zag T M))).map (cls M):=by
  rw[List.filter_map]
  congr 1
  refine List.filter_congr λv hv=>?_
  show tch T M.length (cls M v)=_
  have z:=zh7 (T:=T) hv
  cases e:tch T M.length (cls M v)
  ·exact(decide_eq_false λw=>by rw[e] at z; exact absurd (z.mpr w) (by decide)).symm
  ·exact(decide_eq_true (z.mp e)).symm
 have nd1:((((zal M).filter (λv=>decide (v∈zag T M))).map (cls M)).flatten).Nodup:=by
  rw[List.Nodup,List.pairwise_flatten]
  refine⟨λg hg=>?_,?_⟩
  ·obtain⟨v,_,rfl⟩:=Vaf.mp hg
   exact zh9 M v
  ·rw[List.pairwise_map]
   refine((ze6 M).filter _).imp λ{a b} ne x hx y hy e=>ne ?_
   subst e
   exact(zbu.mp hx).2.symm.trans (zbu.mp hy).2
 have p1:(M.length::(G.filter (tch T M.length)).flatten).Perm (M.length::(((zal M).filter (λv=>decide (v∈zag T M))).map (cls M)).flatten):=List.Perm.cons _ (f1 ▸ (hG.filter _).flatten)
 have p2:(M.length::(((zal M).filter (λv=>decide (v∈zag T M))).map (cls M)).flatten).Perm (cls (mkS l (zag T M) M) l):=zh3 (List.nodup_cons.mpr ⟨λhm=>by
   obtain⟨g,hg,hx⟩:=List.mem_flatten.mp hm
   obtain⟨v,_,rfl⟩:=Vaf.mp hg
   have:=(zbu.mp hx).1
   omega,nd1⟩) (zh9 _ _) λx=>by
  rw[r2,Vai,List.mem_flatten]
  constructor
  ·rintro(e | ⟨g,hg,hx⟩)
   ·exact .inl e
   ·obtain⟨v,hv,rfl⟩:=Vaf.mp hg
    obtain⟨v1,v2⟩:=VaI.mp hv
    obtain⟨x1,x2⟩:=zbu.mp hx
    exact .inr ⟨x1,by rw[x2]; exact of_decide_eq_true v2⟩
  ·rintro(e | ⟨a,b⟩)
   ·exact .inl e
   ·refine .inr ⟨cls M (M.getD x 0),Vaf.mpr ⟨_,VaI.mpr ⟨zca.mpr ⟨by have:=h.le x a; omega,h.id x a⟩,decide_eq_true b⟩,rfl⟩,zbu.mpr ⟨a,rfl⟩⟩
 exact p1.trans p2
theorem zla {T:Nat→Nat→Bool}{M:List Nat}{l:Nat}{G:List (List Nat)}{s:List Nat}(h:MOk M)(lm:l∈zag T M)(ll:∀x∈zag T M,l≤x)(hG:G.Perm ((zal M).map (cls M)))(hs:s.Perm (M.length::(G.filter (tch T M.length)).flatten))(srt:s.Pairwise (·≤·)):(G.filter (λg=>!tch T M.length g)++[s]).Perm ((zal (mkS l (zag T M) M)).map (cls (mkS l (zag T M) M))):=by
 obtain⟨_,r1,r2,r3⟩:=zgt h lm ll
 have f2:((zal M).map (cls M)).filter (λg=>!tch T M.length g)=((zal M).filter (λv=>!decide (v∈zag T M))).map (cls M):=by
  rw[List.filter_map]
  congr 1
  refine List.filter_congr λv hv=>?_
  show (!tch T M.length (cls M v))=_
  have z:=zh7 (T:=T) hv
  cases e:tch T M.length (cls M v)
  ·rw[decide_eq_false λw=>by rw[e] at z; exact absurd (z.mpr w) (by decide)]
  ·rw[decide_eq_true (z.mp e)]
 have es:s=cls (mkS l (zag T M) M) l:=List.Perm.eq_of_pairwise (le:=λa b=>a≤b) (λa b _ _ h1 h2=>Nat.le_antisymm h1 h2) srt (((List.pairwise_lt_range).filter _).imp VaJ) (hs.trans (zg9 h lm ll hG))
 rw[es]
 have p3:(zal (mkS l (zag T M) M)).Perm ((zal M).filter (λv=>!decide (v∈zag T M))++[l]):=zh3 (ze6 _) (by
  rw[List.nodup_append]
  refine⟨(ze6 M).filter _,by simp,λa ha b hb e=>?_⟩
  rw[VaT.mp hb] at e
  subst e
  have:=(VaI.mp ha).2
  rw[decide_eq_true lm] at this
  cases this) λv=>by
  rw[r1,Va2,VaT,VaI]
  constructor
  ·rintro(e | ⟨a,b⟩)
   ·exact .inr e
   ·exact .inl ⟨a,by rw[decide_eq_false b]; rfl⟩
  ·rintro(⟨a,b⟩ | e)
   ·refine .inr ⟨a,λw=>?_⟩
    rw[decide_eq_true w] at b
    cases b
   ·exact .inl e
 have p4:(G.filter (λg=>!tch T M.length g)).Perm (((zal M).filter (λv=>!decide (v∈zag T M))).map (cls M)):=f2 ▸ hG.filter _
 have e5:((zal M).filter (λv=>!decide (v∈zag T M))).map (cls M)=((zal M).filter (λv=>!decide (v∈zag T M))).map (cls (mkS l (zag T M) M)):=VaG λv hv=>by
  obtain⟨a,b⟩:=VaI.mp hv
  exact(r3 v a λw=>by rw[decide_eq_true w] at b; cases b).symm
 refine List.Perm.trans (List.Perm.append_right _ p4) ?_
 rw[e5]
 have p6:=p3.map (cls (mkS l (zag T M) M))
 rw[Vat] at p6
 exact p6.symm
theorem zjt {M:List Nat}{G:List (List Nat)}(h:MOk M)(hG:G.Perm ((zal M).map (cls M)))(srt:(G.map λg=>g.getD 0 0).Pairwise (·<·)):G=(zal M).map (cls M):=by
 have hd:∀v∈zal M,(cls M v).getD 0 0=v:=λv hv=>by
  obtain⟨a,b⟩:=zca.mp hv
  have hm:v∈cls M v:=zbu.mpr ⟨a,b⟩
  have pw:(cls M v).Pairwise (·<·):=(List.pairwise_lt_range).filter _
  cases e:cls M v with
  | nil=>rw[e] at hm; exact absurd hm (by simp)
  | cons x xs=>
   rw[e] at hm pw
   have hx:x∈cls M v:=by rw[e]; simp
   obtain⟨x1,x2⟩:=zbu.mp hx
   have xv:M.getD x 0≤x:=h.le x x1
   show x=v
   rcases Vai.mp hm with w | w
   ·exact w.symm
   ·have:=(List.pairwise_cons.mp pw).1 v w
    omega
 have e1:(G.map λg=>g.getD 0 0)=zal M:=by
  have p:(G.map λg=>g.getD 0 0).Perm (zal M):=by
   have z:=hG.map λg=>g.getD 0 0
   rw[Vaw] at z
   have e:(zal M).map ((λg:List Nat=>g.getD 0 0) ∘ cls M)=zal M:=by
    conv=>rhs; rw[← List.map_id (zal M)]
    exact VaG λv hv=>hd v hv
   rw[e] at z
   exact z
  exact List.Perm.eq_of_pairwise (le:=λa b=>a<b) (λa b _ _ h1 h2=>by omega) srt ((List.pairwise_lt_range).filter _) p
 have e2:G=(G.map λg=>g.getD 0 0).map (cls M):=by
  rw[Vaw]
  conv=>lhs; rw[← List.map_id G]
  refine VaG λg hg=>?_
  obtain⟨v,hv,rfl⟩:=Vaf.mp (hG.mem_iff.mp hg)
  show cls M v=cls M ((cls M v).getD 0 0)
  rw[hd v hv]
 rw[e2,e1]
theorem zeq {M:List Nat}(h:MOk M){v:Nat}(hv:v∈zal M):∃xs,cls M v=v::xs:=by
 obtain⟨a,b⟩:=zca.mp hv
 have hm:v∈cls M v:=zbu.mpr ⟨a,b⟩
 have pw:(cls M v).Pairwise (·<·):=(List.pairwise_lt_range).filter _
 cases e:cls M v with
 | nil=>rw[e] at hm; exact absurd hm (by simp)
 | cons x xs=>
  rw[e] at hm pw
  have hx:x∈cls M v:=by rw[e]; simp
  obtain⟨x1,x2⟩:=zbu.mp hx
  have xv:M.getD x 0≤x:=h.le x x1
  rcases Vai.mp hm with w | w
  ·exact⟨xs,by rw[w]⟩
  ·have:=(List.pairwise_cons.mp pw).1 v w
   omega
def zbG:List Nat→Nat
 | []=>0
 | [x]=>x
 | x::y::r=>min x (zbG (y::r))
theorem zfb:∀xs:List Nat,xs≠[]→zbG xs∈xs∧∀x∈xs,zbG xs≤x
 | [],h=>absurd rfl h
 | [x],_=>⟨by simp[zbG],λy hy=>by rw[VaT.mp hy]; exact Vaa _⟩
 | x::y::r,_=>by
  obtain⟨a,b⟩:=zfb (y::r) (by simp)
  have e:zbG (x::y::r)=min x (zbG (y::r)):=rfl
  rw[e]
  refine⟨?_,λz hz=>?_⟩
  ·by_cases c:x≤zbG (y::r)
   ·rw[Nat.min_eq_left c]; simp
   ·rw[Nat.min_eq_right (by omega)]; exact VaB _ a
  ·rcases Vai.mp hz with w | w
   ·omega
   ·have:=b z w
    omega
def zac (T:Nat→Nat→Bool):Nat→List Nat
 | 0=>[]
 | n+1=>mkS (zbG (zag T (zac T n))) (zag T (zac T n)) (zac T n)
theorem zcQ (T:Nat→Nat→Bool):∀n,(zac T n).length=n
 | 0=>rfl
 | n+1=>by
  show (mkS _ _ _).length=_
  rw[zcL,zcQ T n]
theorem zgm (T:Nat→Nat→Bool)(M:List Nat):zag T M≠[]:=by simp[zag]
theorem zdu (T:Nat→Nat→Bool):∀n,MOk (zac T n)
 | 0=>⟨λk hk=>absurd hk (by simp[zac]),λk hk=>absurd hk (by simp[zac])⟩
 | n+1=>by
  obtain⟨a,b⟩:=zfb _ (zgm T (zac T n))
  exact(zgt (zdu T n) a b).1
theorem zle {M:List Nat}{G:List (List Nat)}(h:MOk M)(hG:G.Perm ((zal M).map (cls M))):(G.map λg=>g.getD 0 0).Nodup∧∀g∈G,g≠[]:=by
 refine⟨?_,λg hg=>?_⟩
 ·have z:=hG.map λg=>g.getD 0 0
  rw[Vaw] at z
  have e:(zal M).map ((λg:List Nat=>g.getD 0 0) ∘ cls M)=zal M:=by
   conv=>rhs; rw[← List.map_id (zal M)]
   refine VaG λv hv=>?_
   obtain⟨xs,e⟩:=zeq h hv
   show (cls M v).getD 0 0=v
   rw[e]
   rfl
  rw[e] at z
  exact z.nodup_iff.mpr (ze6 M)
 ·obtain⟨v,hv,rfl⟩:=Vaf.mp (hG.mem_iff.mp hg)
  obtain⟨xs,e⟩:=zeq h hv
  rw[e]
  simp
theorem zll {ms:List Int}{xs:List Nat}(h:ms.Perm (xs.map λ(x:Nat)=>(x:Int)))(srt:ms.Pairwise (·≤·)):∃s:List Nat,ms=s.map (λ(x:Nat)=>(x:Int))∧s.Perm xs∧s.Pairwise (·≤·):=by
 have e:ms=(ms.map Int.toNat).map λ(x:Nat)=>(x:Int):=by
  rw[Vaw]
  conv=>lhs; rw[← List.map_id ms]
  refine VaG λm hm=>?_
  obtain⟨x,_,rfl⟩:=Vaf.mp (h.mem_iff.mp hm)
  simp
 refine⟨ms.map Int.toNat,e,?_,?_⟩
 ·have z:=h.map Int.toNat
  rw[Vaw] at z
  have e2:xs.map (Int.toNat ∘ λ(x:Nat)=>(x:Int))=xs:=by
   conv=>rhs; rw[← List.map_id xs]
   exact VaG λx _=>by simp
  rw[e2] at z
  exact z
 ·rw[e,List.pairwise_map] at srt
  exact srt.imp λ{a b} h=>by omega
theorem zks {α:Type}{G:List α}{d:α}{p:List Nat}(hp:p.Perm (List.range G.length)):(p.map λi=>G.getD i d).Perm G:=by
 have z:=hp.map λi=>G.getD i d
 have e:(List.range G.length).map (λi=>G.getD i d)=G:=by
  refine List.ext_getElem? λk=>?_
  by_cases hk:k<G.length
  ·rw[Vae,List.getElem?_range hk,Vab hk]
   show some (G.getD k d)=_
   rw[Vap,Vab hk]
   rfl
  ·rw[Va0 (by simpa using hk),Va0 (by omega)]
 rw[e] at z
 exact z
def za3 (S:Sto)(ds:List D)(G:List (List Nat)):Prop:=ds.length=G.length∧∀(k:Nat) (d:D) (g:List Nat),ds[k]?=some d→G[k]?=some g→∃a,d=.ref a∧S[a]?=some (.lst (g.map wtD))
theorem za3.nil {S:Sto}:za3 S [] []:=⟨rfl,λk d g h=>by simp at h⟩
theorem za3.pre {S T:Sto}{ds:List D}{G:List (List Nat)}(h:za3 S ds G)(p:Pre S T):za3 T ds G:=⟨h.1,λk d g hd hg=>by
 obtain⟨a,e,ha⟩:=h.2 k d g hd hg
 exact⟨a,e,p _ _ ha⟩⟩
theorem za3.snoc {S:Sto}{ds:List D}{G:List (List Nat)}{a:Nat}{g:List Nat}(h:za3 S ds G)(ha:S[a]?=some (.lst (g.map wtD))):za3 S (ds++[.ref a]) (G++[g]):=by
 refine⟨by rw[Vaq,Vaq,h.1]; rfl,λk d g' hd hg=>?_⟩
 by_cases c:k<ds.length
 ·rw[Vao c] at hd
  rw[Vao (by rw[← h.1]; exact c)] at hg
  exact h.2 k d g' hd hg
 ·have hl:=(Vad.mp hd).1
  rw[Vaq] at hl
  have e:k=ds.length:=by have:[D.ref a].length=1:=rfl; omega
  subst e
  rw[Vax (Vaa _),VaS] at hd
  rw[Vax (by rw[h.1]; exact Vaa _),h.1,VaS] at hg
  cases hd
  cases hg
  exact⟨a,rfl,ha⟩
theorem za3.get {S:Sto}{ds:List D}{G:List (List Nat)}(h:za3 S ds G){k:Nat}{d:D}(hd:ds[k]?=some d):∃a g,d=.ref a∧G[k]?=some g∧S[a]?=some (.lst (g.map wtD)):=by
 have hk:k<G.length:=by rw[← h.1]; exact(Vad.mp hd).1
 obtain⟨a,e,ha⟩:=h.2 k d _ hd (Vab hk)
 exact⟨a,_,e,Vab hk,ha⟩
theorem za3.pick {S:Sto}{ds:List D}{G:List (List Nat)}(h:za3 S ds G)(p:List Nat)(hp:∀i∈p,i<ds.length):za3 S (p.map λi=>ds.getD i .non) (p.map λi=>G.getD i []):=⟨by simp,λk d g hd hg=>by
 rw[Vae] at hd hg
 obtain⟨i,hi,rfl⟩:=VaH.mp hd
 rw[hi] at hg
 cases hg
 have hl:=hp i (Vam hi)
 exact h.2 i _ _ (zaG hl) (zaG (by rw[← h.1]; exact hl))⟩
def zbL (us vs:List (Int×Int)):Bool:=(List.zipWith (λp q=>(zbt p q).isSome) us vs).all id
abbrev TB (B:List (List (Int×Int)))(i j:Nat):Bool:=zbL (B.getD i []) (B.getD j [])
def zaF (p q:Int×Int):Int×Int:=(if q.1<p.1 then q.1 else p.1,if q.2 > p.2 then q.2 else p.2)
def zbB (B:List (List (Int×Int))):List (Int×Int):=B.foldl (λw b=>List.zipWith zaF w b) (B.headD [])
theorem zkt (us vs:List (Int×Int)):zbn (List.zipWith (λx y=>match x,y with | .tup [.int a,.int b],.tup [.int c,.int d]=>.bl (zbt (a,b) (c,d)).isSome | _,_=>.non) (us.map frD) (vs.map frD))=some (List.zipWith (λp q=>(zbt p q).isSome) us vs):=by
 induction us generalizing vs with
 | nil=>rfl
 | cons u us ih=>
  cases vs with
  | nil=>rfl
  | cons v vs=>
   show (zbn (List.zipWith _ (us.map frD) (vs.map frD))).map _=_
   rw[ih]
   rfl
theorem zkx (f:Int×Int→Int×Int→Int×Int)(us vs:List (Int×Int))(g:D→D→D)(h:∀p q,g (frD p) (frD q)=frD (f p q)):List.zipWith g (us.map frD) (vs.map frD)=(List.zipWith f us vs).map frD:=by
 induction us generalizing vs with
 | nil=>rfl
 | cons u us ih=>
  cases vs with
  | nil=>rfl
  | cons v vs=>
   rw[Vak,Vak,List.zipWith_cons_cons,List.zipWith_cons_cons,Vak,ih,h]
theorem zik (f:Nat→Bool)(g:D→D)(h:∀k:Nat,g (wtD k)=.bl (f k)):∀ns:List Nat,zbn ((ns.map wtD).map g)=some (ns.map f)
 | []=>rfl
 | n::ns=>by
  rw[Vak,Vak,h]
  show (zbn ((ns.map wtD).map g)).map _=_
  rw[zik f g h ns]
  rfl
theorem zcN {S:Sto}{lo:Nat}{ds:List D}{R:List (List (Int×Int))}(h:zar S lo ds R){k:Nat}(hk:k<R.length):∃a,atI ds (k:Int)=some (.ref a)∧S[a]?=some (.lst ((R.getD k []).map frD)):=by
 have hd:k<ds.length:=by rw[h.1]; exact hk
 obtain⟨a,e,_,ha⟩:=h.2 k _ _ (Vab hd) (zaG (d:=[]) hk)
 exact⟨a,za6 (j:=k) (by rw[Vab hd,e]),ha⟩
section
variable {X:Cx}{Z:Zx}{elt:Expr}{pos:Pos}{sc ar:Scope}{N:List Str}{caps:List Nat}
@[irreducible] def zeb (caps:List Nat)(tl:TDE)(te:TDE):TDE:=λdl S Q=>tl dl S λd S1=>match d with
 | .ref n=>(lAt S1 n).isSome=true∧∃W:Nat→Nat→Sto→Prop,(∃m,W 0 m (S1++[.lst []]))∧∀k m S2,W k m S2→match lAt S2 n with
  | some o=>match (zad o)[k]? with
   | some (.tup [x,y])=>zdM caps te S1.length dl x y S2 λS3=>∃m',m'<m∧W (k+1) m' S3
   | some _=>False
   | none=>Q (.ref S1.length) S2
  | none=>False
 | _=>False
theorem zkg {tl:TDE}{te:TDE}{σ:L3.St}{H:Hp}{Qv:VK}(h:up X.K Z (zeb caps tl te) σ H Qv):
  zdO 2 caps (zfM X.K (up X.K Z tl)) (zc9 X.K 2 (zdc [0,1])) (up X.K Z0 te) σ H Qv:=by
 obtain⟨r,dl,S,Q,rs,rel,h,ret⟩:=h
 unfold zeb at h
 refine⟨r,dl,S,_,rs,rel,h,λv H1 r1 d S1 x1 rel1 p1 q1=>?_⟩
 cases p1 with
 | @ref n a hr=>
  obtain⟨hsome,W,⟨m0,w0⟩,turn⟩:=q1
  obtain⟨o1,eo1⟩:=VaO.mp hsome
  obtain⟨xs1,sq1,_⟩:=zcq (r:=r1) hr rel1.b eo1
  refine⟨a,rfl,⟨xs1,sq1⟩,λD0 hD=>?_⟩
  obtain⟨rel2,x2⟩:=rel1.b.push (ds:=[]) (xs:=[]) hD Rps.nil
  refine⟨λk m H'=>∃r' S',Ext (r1++[D0]) r' (upd H1 D0 (.lst [])) H'∧zax X.K r' S' H'∧W k m S',⟨m0,_,_,Ext.refl,rel2,w0⟩,?_⟩
  rintro k m H2 ⟨r2,S2,x3,rb2,w2⟩
  have ha2:r2[S1.length]?=some D0:=x3.adr _ _ (zfz rel1.len)
  have hr2:r2[n]?=some a:=(x2.trans x3).adr _ _ hr
  have q:=turn k m S2 w2
  split at q
  ·rename_i o eo
   obtain⟨xs,sq,pr⟩:=zcq (r:=r2) hr2 rb2 eo
   split at q
   ·rename_i y1 y2 ey
    obtain⟨v,hv,pv⟩:=pr.get ey
    refine .inr ⟨⟨xs,v,sq,hv⟩,λv' H' y' o8 ho8=>?_⟩
    obtain⟨eH,y'⟩:=y'
    subst eH
    have ev:v'=v:=by
     have z:=y' xs sq
     rw[hv] at z; exact(Option.some.inj z).symm
    subst ev
    obtain⟨c1,c2,rfl⟩:∃c1 c2,o8=[c1,c2]:=by
     match o8,ho8 with
     | [c1,c2],_=>exact⟨c1,c2,rfl⟩
    obtain⟨T,vs,rfl,eT,ps⟩:=pv.untup
    obtain⟨w1,vs1,rfl,pw1,ps1⟩:=ps.uncons
    obtain⟨w2,vs2,rfl,pw2,ps2⟩:=ps1.uncons
    have z:=ps2.unnil
    subst z
    have rs3:=rs.ext (x1.trans (x2.trans x3))
    refine⟨T,[w1,w2],rfl,SqT.of eT,rfl,rfl,⟨[some w1,some w2],rfl,rfl⟩,?_⟩
    have rsY:=zhG (caps:=caps) rs3 pw1 pw2
    refine⟨r2,_,S2,_,rsY,⟨rb2,λ_ _ _ _ _ _ _ _ _ z=>z.elim⟩,q,λz H4 r4 dz S4 x6 rel4 p4 q4=>?_⟩
    split at q4
    ·rename_i ys eys
     obtain⟨hl,m',hm,q4⟩:=q4
     have ha4:r4[S1.length]?=some D0:=x6.adr _ _ ha2
     obtain⟨zs,hD4,pz⟩:=rel4.b.ob _ _ _ ha4 eys
     obtain⟨rel5,x7⟩:=rel4.b.set ha4 eys (pz.snoc p4)
     exact⟨zs,hD4,by rw[← pz.1]; exact zes (VaJ hl),m',hm,r4,_,x3.trans (x6.trans x7),rel5,q4⟩
    ·exact q4.elim
   ·exact q.elim
   ·rename_i ey
    have hlen:(zad o).length≤k:=VaQ.mp ey
    exact .inl ⟨⟨xs,sq,by rw[← pr.1]; exact hlen⟩,ret _ H2 r2 _ S2 (x1.trans (x2.trans x3)) ⟨rb2,rel.xw.ext (x1.trans (x2.trans x3))⟩ (.ref ha2) q⟩
  ·exact q.elim
 | _=>exact(show False from q1).elim
theorem zln {tl:TDE}{te:TDE}{x1 x2:Str}{p1 p2 tp:Pos}{kk:Nat}{a:Expr}(har:X.env.scope=ar)(hc:X.calm=true)(cs:zcy sc ar [x1,x2] N)(hl1:sc.names.lookup x1=some .local)(hl2:sc.names.lookup x2=some .local)
  (hN:caps.map (λi=>X.N[i]?)=N.map some)(hnd:([x1,x2]++N).Nodup)(ha:PD X Z a tl)
  (he:∀cl C s0 H0 fp pn,PD (Cx.comp X sc ([x1,x2]++N) cl C s0 H0 fp pn) Z0 elt te)(hs:∀y,foldedSetIterable a X.env y=pure y:=by intro _; rfl):
  PD X Z (.ListComp elt [⟨.Tuple [.Name x1 p1,.Name x2 p2] kk tp,a,[],0⟩] sc pos) (zeb caps tl te):=by
 subst har
 refine zaX (zhe hc cs hN (gt:=zc9 X.K 2 (zdc [0,1])) (te:=up X.K Z0 te) (zfm ha) (λcl C s0 H0 fp pn=>?_) he hs) λ_ _ _ h=>zkg h
 have l1:(Cx.comp X sc ([x1,x2]++N) cl C s0 H0 fp pn).env.scope.names.lookup x1=some .local:=lookup_relabel_local hl1
 have l2:(Cx.comp X sc ([x1,x2]++N) cl C s0 H0 fp pn).env.scope.names.lookup x2=some .local:=lookup_relabel_local hl2
 exact zfx hc (zdV hnd (.cons rfl (.inl l1) (.inr l1) (.cons rfl (.inl l2) (.inr l2) .nil))) rfl rfl
end
theorem zjB {caps:List Nat}{tl te:TDE}{dl:Ev}{S S1:Sto}{Q:DK}{n:Nat}{ps:List (Int×Int)}(g:Int×Int→D)(htl:∀K:DK,K (.ref n) S1→tl dl S K)(h1:S1[n]?=some (.lst (ps.map frD)))(hl:ps.length≤1000)
  (ht:∀p∈ps,∀(S2:Sto) (K:DK),Pre S1 S2→K (g p) S2→te (some (.int p.1)::some (.int p.2)::zbs caps dl) S2 K)(hq:Q (.ref S1.length) (S1++[.lst (ps.map g)])):zeb caps tl te dl S Q:=by
 unfold zeb
 refine htl _ ⟨by rw[zaQ h1 rfl]; rfl,λk m S2=>S2=S1++[.lst ((ps.take k).map g)]∧m+k=ps.length,⟨ps.length,by simp,by omega⟩,?_⟩
 rintro k m S2 ⟨rfl,hm⟩
 rw[zaQ (zeB h1) rfl]
 dsimp only[zad]
 rw[Vae]
 cases e:ps[k]? with
 | none=>
  have hk:ps.length≤k:=VaQ.mp e
  show Q (.ref S1.length) _
  rw[VaL hk]
  exact hq
 | some p=>
  show zdM caps te S1.length dl (.int p.1) (.int p.2) _ _
  unfold zdM
  refine ht p (Vam e) _ _ (zaM Pre.refl _) ?_
  dsimp only
  rw[zan]
  have hk:=(Vad.mp e).1
  refine⟨by rw[Vac,VaK]; omega,m-1,by omega,?_,by omega⟩
  rw[List.set_append_right _ _ (Vaa _),VaS]
  have e2:ps.take (k+1)=ps.take k++[p]:=by rw[List.take_succ,e]; rfl
  rw[e2,Vat]
  rfl
theorem zh0 {caps:List Nat}{ta:TDA}{tc:TDT}{te:TDE}{dl:Ev}{S S1:Sto}{Q:DK}{j:Int}(p:Nat→Bool)(g:Nat→D)(hta:∀K:List D→Sto→Prop,K [.int j] S1→ta dl S K)(hj:0≤j∧j≤1000)
  (hc:∀k:Nat,k<j.toNat→∀(S2:Sto) (K:Bool→Sto→Prop),Pre S1 S2→K (p k) S2→tc (some (.int k)::zbs caps dl) S2 K)(ht:∀k:Nat,k<j.toNat→p k=true→∀(S2:Sto) (K:DK),Pre S1 S2→K (g k) S2→te (some (.int k)::zbs caps dl) S2 K)(hq:Q (.ref S1.length) (S1++[.lst (((List.range j.toNat).filter p).map g)])):zcz caps ta tc te dl S Q:=by
 unfold zcz
 refine hta _ ⟨⟨by omega,by omega⟩,λk S2=>S2=S1++[.lst (((List.range k).filter p).map g)]∧k≤j.toNat,⟨by simp,by omega⟩,?_⟩
 rintro k S2 ⟨rfl,hk⟩
 split
 ·rename_i hk'
  unfold zcK
  refine hc k hk' _ _ Pre.refl.push ?_
  cases e:p k
  ·refine zam ?_
   refine⟨?_,by omega⟩
   rw[VaA,VaF,VaD,if_neg (by rw[e]; decide),VaU,VaN]
  ·refine zba ?_
   refine ht k hk' e _ _ Pre.refl.push ?_
   rw[zan]
   have ll:=Va1 p (List.range k)
   rw[Vav] at ll
   refine⟨by rw[Vac]; omega,?_,by omega⟩
   rw[VaA,VaF,VaD,if_pos e,VaU,Vat,List.set_append_right _ _ (Vaa _),VaS]
   rfl
 ·have e:k=j.toNat:=by omega
  subst e
  exact hq
structure zcZ (k:Nat)(bs:List (List (Int×Int)))(r:Int×Int):Prop where
 lo:∃b∈bs,(b.getD k (0,0)).1=r.1
 ll:∀b∈bs,r.1≤(b.getD k (0,0)).1
 hi:∃b∈bs,(b.getD k (0,0)).2=r.2
 hl:∀b∈bs,(b.getD k (0,0)).2≤r.2
theorem zcZ.same {k:Nat}{bs:List (List (Int×Int))}{r t:Int×Int}(h:zcZ k bs r)(g:zcZ k bs t):r=t:=by
 obtain⟨b1,m1,e1⟩:=h.lo
 obtain⟨b2,m2,e2⟩:=g.lo
 obtain⟨b3,m3,e3⟩:=h.hi
 obtain⟨b4,m4,e4⟩:=g.hi
 have a1:=h.ll b2 m2
 have a2:=g.ll b1 m1
 have a3:=h.hl b4 m4
 have a4:=g.hl b3 m3
 exact Prod.ext (by omega) (by omega)
theorem zlp {q k:Nat}{w b:List (Int×Int)}(hw:w.length=q)(hb:b.length=q)(hk:k<q):(List.zipWith zaF w b).getD k (0,0)=zaF (w.getD k (0,0)) (b.getD k (0,0)):=by
 rw[Vap,List.getElem?_zipWith,zaG (d:=((0,0):Int×Int)) (show k<w.length by omega),zaG (d:=((0,0):Int×Int)) (show k<b.length by omega)]
 rfl
theorem zgM {q:Nat}:∀(bs:List (List (Int×Int))) (w:List (Int×Int)),w.length=q→(∀b∈bs,b.length=q)→(bs.foldl (λw b=>List.zipWith zaF w b) w).length=q∧∀k,k<q→zcZ k (w::bs) ((bs.foldl (λw b=>List.zipWith zaF w b) w).getD k (0,0))
 | [],w,hw,_=>⟨hw,λk hk=>⟨⟨w,by simp,rfl⟩,λb hb=>by rw[VaT.mp hb]; exact VaY _,⟨w,by simp,rfl⟩,λb hb=>by rw[VaT.mp hb]; exact VaY _⟩⟩
 | b::bs,w,hw,hb=>by
  have lb:=hb b (by simp)
  obtain⟨i1,i2⟩:=zgM bs (List.zipWith zaF w b) (by rw[List.length_zipWith,hw,lb]; omega) λc hc=>hb c (by simp[hc])
  refine⟨i1,λk hk=>?_⟩
  obtain⟨⟨c1,m1,e1⟩,a2,⟨c3,m3,e3⟩,a4⟩:=i2 k hk
  have z:=zlp hw lb hk
  have zl:(zaF (w.getD k (0,0)) (b.getD k (0,0))).1≤(w.getD k (0,0)).1∧(zaF (w.getD k (0,0)) (b.getD k (0,0))).1≤(b.getD k (0,0)).1∧((zaF (w.getD k (0,0)) (b.getD k (0,0))).1=(w.getD k (0,0)).1∨(zaF (w.getD k (0,0)) (b.getD k (0,0))).1=(b.getD k (0,0)).1):=by
   unfold zaF
   dsimp only
   split <;> omega
  have zh:(w.getD k (0,0)).2≤(zaF (w.getD k (0,0)) (b.getD k (0,0))).2∧(b.getD k (0,0)).2≤(zaF (w.getD k (0,0)) (b.getD k (0,0))).2∧((zaF (w.getD k (0,0)) (b.getD k (0,0))).2=(w.getD k (0,0)).2∨(zaF (w.getD k (0,0)) (b.getD k (0,0))).2=(b.getD k (0,0)).2):=by
   unfold zaF
   dsimp only
   split <;> omega
  show zcZ k (w::b::bs) ((bs.foldl (λw b=>List.zipWith zaF w b) (List.zipWith zaF w b)).getD k (0,0))
  have t1:=a2 (List.zipWith zaF w b) (by simp)
  have t3:=a4 (List.zipWith zaF w b) (by simp)
  rw[z] at t1 t3
  refine⟨?_,λc hc=>?_,?_,λc hc=>?_⟩
  ·rcases Vai.mp m1 with rfl | m
   ·rw[z] at e1
    rcases zl.2.2 with y | y
    ·exact⟨w,by simp,by omega⟩
    ·exact⟨b,by simp,by omega⟩
   ·exact⟨c1,by simp[m],e1⟩
  ·rcases Vai.mp hc with rfl | m
   ·omega
   ·rcases Vai.mp m with rfl | m
    ·omega
    ·exact a2 c (by simp[m])
  ·rcases Vai.mp m3 with rfl | m
   ·rw[z] at e3
    rcases zh.2.2 with y | y
    ·exact⟨w,by simp,by omega⟩
    ·exact⟨b,by simp,by omega⟩
   ·exact⟨c3,by simp[m],e3⟩
  ·rcases Vai.mp hc with rfl | m
   ·omega
   ·rcases Vai.mp m with rfl | m
    ·omega
    ·exact a4 c (by simp[m])
theorem zlw {q:Nat}{bs:List (List (Int×Int))}(ne:bs≠[])(hb:∀b∈bs,b.length=q):(zbB bs).length=q∧∀k,k<q→zcZ k bs ((zbB bs).getD k (0,0)):=by
 cases bs with
 | nil=>exact absurd rfl ne
 | cons b bs=>
  obtain⟨i1,i2⟩:=zgM (q:=q) (b::bs) b (hb b (by simp)) hb
  refine⟨i1,λk hk=>?_⟩
  obtain⟨⟨c1,m1,e1⟩,a2,⟨c3,m3,e3⟩,a4⟩:=i2 k hk
  refine⟨⟨c1,?_,e1⟩,λc hc=>a2 c (VaB _ hc),⟨c3,?_,e3⟩,λc hc=>a4 c (VaB _ hc)⟩
  ·rcases Vai.mp m1 with rfl | m
   ·simp
   ·exact m
  ·rcases Vai.mp m3 with rfl | m
   ·simp
   ·exact m
theorem zlX {us vs:List (Int×Int)}(hu:∀p∈us,p.1≤p.2)(hv:∀p∈vs,p.1≤p.2):zbL us vs=true↔∀(k:Nat) (p q:Int×Int),us[k]?=some p→vs[k]?=some q→q.1≤p.2∧p.1≤q.2:=by
 unfold zbL
 rw[List.all_eq_true]
 have one:∀p q:Int×Int,p.1≤p.2→q.1≤q.2→((zbt p q).isSome=true↔q.1≤p.2∧p.1≤q.2):=λp q h1 h2=>by
  unfold zbt
  split <;> split <;> split <;> simp <;> omega
 refine⟨λh k p q hp hq=>?_,λh b hb=>?_⟩
 ·have z:=h (zbt p q).isSome (Vam (i:=k) (by rw[List.getElem?_zipWith,hp,hq]))
  exact(one p q (hu p (Vam hp)) (hv q (Vam hq))).mp z
 ·obtain⟨k,hk⟩:=List.mem_iff_getElem?.mp hb
  rw[List.getElem?_zipWith] at hk
  cases e1:us[k]? with
  | none=>rw[e1] at hk; cases hk
  | some p=>
   cases e2:vs[k]? with
   | none=>rw[e1,e2] at hk; cases hk
   | some q=>
    rw[e1,e2] at hk
    have z:=Option.some.inj hk
    subst z
    exact(one p q (hu p (Vam e1)) (hv q (Vam e2))).mpr (h k p q e1 e2)
theorem zjE {n:Nat}{S:Sto}{Q:DK}{xs:List Nat}{x:Nat}(ho:S[n]?=some (.lst (xs.map wtD)))(hq:Q (.bl (decide (x∈xs))) S):zcj (wIn 0 false) (.int (x:Int)) (.ref n) S Q:=by
 rw[zc1]
 unfold wIn
 simp only[zaQ ho rfl,zad]
 have e:∀ys:List Nat,zcs (eqN 0) (ys.map wtD) (.int (x:Int))=some (decide (x∈ys)):=λys=>by
  induction ys with
  | nil=>rfl
  | cons y ys ih=>
   rw[Vak]
   show (match eqN 0 (wtD y) (.int (x:Int)),zcs (eqN 0) (ys.map wtD) (.int (x:Int)) with | some b,some c=>some (b||c) | _,_=>none)=_
   rw[ih]
   show some (decide ((y:Int)=(x:Int))||decide (x∈ys))=_
   rw[← Bool.decide_or]
   congr 1
   refine decide_eq_decide.mpr ?_
   rw[Vai]
   exact⟨λq=>q.elim (λe=>.inl (by omega)) .inr,λq=>q.elim (λe=>.inl (by omega)) .inr⟩
 rw[e xs]
 exact hq
theorem zjd {a b c d:TDS}{E:zcA}{dl:Ev}{S:Sto}(W:Ev→Sto→Prop)(ha:∀nx:Ev→Sto→Prop,(∀dl' S',W dl' S'→nx dl' S')→zbU a (zbU b c) { nx:=nx,rt:=E.rt,bk:=E.bk,ct:=E.ct } dl S)(hb:∀dl' S',W dl' S'→d E dl' S'):zbU a (zbU b (zbU c d)) E dl S:=ha _ hb
theorem zdE (M:List Nat)(v:Nat):(cls M v).length≤M.length:=by
 unfold cls
 exact Vau (Va1 _ _) (by rw[Vav]; exact Vaa _)
theorem zeD (M:List Nat):(zal M).length≤M.length:=by
 unfold zal
 exact Vau (Va1 _ _) (by rw[Vav]; exact Vaa _)
theorem zfL:∀xs:List Nat,zbr (xs.map wtD)=some (xs.map λ(x:Nat)=>(x:Int))
 | []=>rfl
 | x::xs=>by
  rw[Vak,Vak]
  show (zbr (xs.map wtD)).map _=_
  rw[zfL xs]
  rfl
theorem zfY:∀xs:List Int,zbr (zad (.lst (xs.map D.int)))=some xs
 | []=>rfl
 | x::xs=>by
  show (zbr (xs.map D.int)).map _=_
  rw[show zbr (xs.map D.int)=some xs from zfY xs]
  rfl
theorem zhc {G:List (List Nat)}{x:Nat}(hx:x<G.length):((G.map λg=>g.getD 0 0).map λ(x:Nat)=>(x:Int)).getD x 0=(((G.getD x []).getD 0 0:Nat):Int):=by
 have h1:=zaG (d:=[]) hx
 rw[Vap,Vae,Vae,h1]
 rfl
def zbm (B:List (List (Int×Int))):List (List Nat×List (Int×Int)):=(zal (zac (TB B) B.length)).map λv=>(cls (zac (TB B) B.length) v,zbB ((cls (zac (TB B) B.length) v).map λi=>B.getD i []))
def zbb (S:Sto)(x0:Nat)(es:List D)(L:List (List Nat×List (Int×Int))):Prop:=es.length=L.length∧∀(k:Nat) (d:D) (x:List Nat×List (Int×Int)),es[k]?=some d→L[k]?=some x→∃a b,d=.tup [.ref a,.ref b]∧a≠x0∧b≠x0∧S[a]?=some (.lst (x.1.map wtD))∧S[b]?=some (.lst (x.2.map frD))
theorem zbb.nil {S:Sto}{x0:Nat}:zbb S x0 [] []:=⟨rfl,λk d x h=>by simp at h⟩
theorem zbb.keep {S T:Sto}{x0:Nat}{es:List D}{L:List (List Nat×List (Int×Int))}(h:zbb S x0 es L)(p:∀(x:Nat) (o:Ob),x≠x0→S[x]?=some o→T[x]?=some o):zbb T x0 es L:=⟨h.1,λk d x hd hx=>by
 obtain⟨a,b,e,na,nb,ha,hb⟩:=h.2 k d x hd hx
 exact⟨a,b,e,na,nb,p _ _ na ha,p _ _ nb hb⟩⟩
theorem zbb.snoc {S:Sto}{x0 a b:Nat}{es:List D}{L:List (List Nat×List (Int×Int))}{x:List Nat×List (Int×Int)}(h:zbb S x0 es L)(na:a≠x0)(nb:b≠x0)(ha:S[a]?=some (.lst (x.1.map wtD)))(hb:S[b]?=some (.lst (x.2.map frD))):zbb S x0 (es++[.tup [.ref a,.ref b]]) (L++[x]):=by
 refine⟨by rw[Vaq,Vaq,h.1]; rfl,λk d y hd hy=>?_⟩
 by_cases c:k<es.length
 ·rw[Vao c] at hd
  rw[Vao (by rw[← h.1]; exact c)] at hy
  exact h.2 k d y hd hy
 ·have hl:=(Vad.mp hd).1
  rw[Vaq] at hl
  have e:k=es.length:=by have:[D.tup [.ref a,.ref b]].length=1:=rfl; omega
  subst e
  rw[Vax (Vaa _),VaS] at hd
  rw[Vax (by rw[h.1]; exact Vaa _),h.1,VaS] at hy
  cases hd
  cases hy
  exact⟨a,b,rfl,na,nb,ha,hb⟩
theorem ziD (w:List (Int×Int)):∀B:List (List (Int×Int)),(B.foldl (λw b=>List.zipWith zaF w b) w).length≤w.length:=λB=>by
 induction B generalizing w with
 | nil=>exact Vaa _
 | cons b B ih=>
  have z:=ih (List.zipWith zaF w b)
  rw[List.length_zipWith] at z
  show (B.foldl _ (List.zipWith zaF w b)).length≤_
  omega
theorem ziI {caps:List Nat}{tl te:TDE}{tc:TDT}{dl:Ev}{S:Sto}{Q:DK}(P:Sto→Nat→Prop)(htl:∀K:DK,(∀T m,P T m→K (.ref m) T)→tl dl S K)(h:∀T m,P T m→∀tl':TDE,(∀K:DK,K (.ref m) T→tl' dl S K)→zbK caps tl' tc te dl S Q):zbK caps tl tc te dl S Q:=by
 unfold zbK
 refine htl _ λT m p=>?_
 have z:=h T m p (λ_ _ K=>K (.ref m) T) λK hK=>hK
 unfold zbK at z
 exact z
def islT (L:List (List Nat×List (Int×Int))):TT:=.l (L.map λx=>.t [.l (x.1.map λ(n:Nat)=>.i (n:Int)),.l (x.2.map spT)])
theorem zbb.den {S:Sto}{x0 k:Nat}{es:List D}{L:List (List Nat×List (Int×Int))}(h:zbb S x0 es L)(hk:S[k]?=some (.lst es))(l9:L.length≤900)(sz:∀x∈L,x.1.length≤900∧x.2.length≤900):Den S 0 4 (islT L) (.ref k):=by
 refine .l hk (Vaj _) (by rw[Vac]; exact l9) (by rw[Vac]; exact h.1.symm) λi t d ht hd=>?_
 rw[Vae] at ht
 obtain⟨x,hx,rfl⟩:=VaH.mp ht
 obtain⟨a,b,rfl,_,_,ha,hb⟩:=h.2 i d x hd hx
 obtain⟨s1,s2⟩:=sz x (Vam hx)
 refine .t (show 2≤900 by decide) rfl λj t d ht hd=>?_
 match j with
 | 0=>
  cases ht; cases hd
  refine .l ha (Vaj _) (by rw[Vac]; exact s1) (by rw[Vac,Vac]) λq t d ht hd=>?_
  rw[Vae] at ht hd
  cases e:x.1[q]? with
  | none=>rw[e] at ht; cases ht
  | some n=>
   rw[e] at ht hd
   cases ht; cases hd
   exact .i _
 | 1=>
  cases ht; cases hd
  exact zf1 s2 (Vaj _) hb
 | j+2=>simp at ht
theorem zlc {B:List (List (Int×Int))}(l3:B.length≤30)(l4:∀b∈B,b.length≤4):(zbm B).length≤900∧∀x∈zbm B,x.1.length≤900∧x.2.length≤900:=by
 have mlen:=zcQ (TB B) B.length
 refine⟨?_,λx hx=>?_⟩
 ·have z:=zeD (zac (TB B) B.length)
  unfold zbm
  rw[Vac]
  omega
 ·unfold zbm at hx
  obtain⟨v,hv,rfl⟩:=Vaf.mp hx
  have z:=zdE (zac (TB B) B.length) v
  refine⟨by show (cls (zac (TB B) B.length) v).length≤900; omega,?_⟩
  show (zbB ((cls (zac (TB B) B.length) v).map λi=>B.getD i [])).length≤900
  have y:=ziD (((cls (zac (TB B) B.length) v).map λi=>B.getD i []).headD []) ((cls (zac (TB B) B.length) v).map λi=>B.getD i [])
  obtain⟨xs9,e9⟩:=zeq (zdu (TB B) B.length) hv
  have hb:(((cls (zac (TB B) B.length) v).map λi=>B.getD i []).headD []).length≤4:=by
   rw[e9]
   have vl:v<B.length:=by have:=(zca.mp hv).1; omega
   have hvm:B.getD v []∈B:=by rw[Vap,Vab vl]; exact VaC ..
   exact l4 (B.getD v []) hvm
  unfold zbB
  omega
theorem zjI {S:Sto}{lo lo':Nat}{ds es:List D}{B:List (List (Int×Int))}(h1:zar S lo ds B)(h2:zar S lo' es B)(l4:∀b∈B,b.length≤4):∀(k:Nat) (x y:D),ds[k]?=some x→es[k]?=some y→Alk S 5 x y:=λk x y hx hy=>by
 have hk:k<B.length:=by have:=(Vad.mp hx).1; rw[h1.1] at this; exact this
 obtain⟨a,rfl,_,ha⟩:=h1.2 k x _ hx (Vab hk)
 obtain⟨b,rfl,_,hb⟩:=h2.2 k y _ hy (Vab hk)
 have l:=l4 _ (VaC hk)
 exact(zf1 (lo:=0) (n:=3) (by omega) (Vaj _) ha).alk (zf1 (lo:=0) (n:=3) (by omega) (Vaj _) hb)
def zd7:Sd:=λds S Q ex=>match ds with
 | [.tup [.int a,.int b],.tup [.int c,.int d]]=>Q (.tup [.int (if c<a then c else a),.int (if d > b then d else b)]) S
 | _=>False
theorem zkZ:Ln (zd7) 2:=λds S Q ex h=>by unfold zd7 at h; split at h <;> first | rfl | exact h.elim
def zet:Sd:=λds S Q ex=>match ds with
 | [.ref m]=>∃(ds:List D) (B:List (List (Int×Int))),S[m]?=some (.lst ds)∧zar S 0 ds B∧B.length≤30∧(∀b∈B,b.length≤4)∧1≤B.length∧∀(T:Sto) (k:Nat),Pre S T→S.length≤k→T[k]?=some (.lst ((zbB B).map frD))→Q (.ref k) T
 | _=>False
theorem zke:Ln (zet) 1:=λds S Q ex h=>by unfold zet at h; split at h <;> first | rfl | exact h.elim
def zdD:Sd:=λds S Q ex=>match ds with
 | [.tup [.int a,.int b],.tup [.int c,.int d]]=>(zbt (a,b) (c,d)=none→Q .non S)∧∀p,zbt (a,b) (c,d)=some p→Q (frD p) S
 | _=>False
theorem zli:Ln (zdD) 2:=λds S Q ex h=>by unfold zdD at h; split at h <;> first | rfl | exact h.elim
def zev:Sd:=λds S Q ex=>match ds with
 | [.ref m,.ref n]=>∃us vs:List (Int×Int),S[m]?=some (.lst (us.map frD))∧S[n]?=some (.lst (vs.map frD))∧us.length≤900∧Q (.bl (zbL us vs)) S
 | _=>False
theorem zlB:Ln (zev) 2:=λds S Q ex h=>by unfold zev at h; split at h <;> first | rfl | exact h.elim
def zei:Sd:=λds S Q ex=>match ds with
 | [.ref m,.ref g,.ref b]=>∃(ds:List D) (B:List (List (Int×Int))) (ns:List Nat) (box:List (Int×Int)),S[m]?=some (.lst ds)∧zar S 0 ds B∧B.length≤30∧(∀b∈B,b.length≤4)∧S[g]?=some (.lst (ns.map wtD))∧S[b]?=some (.lst (box.map frD))∧(∀k∈ns,k<B.length)∧ns.length≤900∧Q (.bl (ns.any λk=>zbL (B.getD k []) box)) S
 | _=>False
theorem zkF:Ln (zei) 3:=λds S Q ex h=>by unfold zei at h; split at h <;> first | rfl | exact h.elim
def zel:Sd:=λds S Q ex=>match ds with
 | [.ref m]=>∃(ds:List D) (B:List (List (Int×Int))),S[m]?=some (.lst ds)∧zar S 0 ds B∧B.length≤30∧(∀b∈B,b.length≤4)∧∀(T:Sto) (k:Nat) (gs:List D),Pre S T→S.length≤k→T[k]?=some (.lst gs)→za3 T gs ((zal (zac (TB B) B.length)).map (cls (zac (TB B) B.length)))→Q (.ref k) T
 | _=>False
theorem zkk:Ln (zel) 1:=λds S Q ex h=>by unfold zel at h; split at h <;> first | rfl | exact h.elim
def zej:Sd:=λds S Q ex=>match ds with
 | [.ref m]=>∃(ds:List D) (B:List (List (Int×Int))),S[m]?=some (.lst ds)∧zar S 0 ds B∧B.length≤30∧(∀b∈B,b.length≤4)∧∀(T:Sto) (k:Nat) (es:List D),Pre S T→S.length≤k→T[k]?=some (.lst es)→zbb T k es (zbm B)→Q (.ref k) T
 | _=>False
theorem zjc:Ln (zej) 1:=λds S Q ex h=>by unfold zej at h; split at h <;> first | rfl | exact h.elim
def zeo:Sd:=λds S Q ex=>match ds with
 | [.int c,.int k]=>(0≤k∧k≤1000)∧Q (.int (zb8 c k)) S
 | _=>False
theorem zjJ:Ln (zeo) 2:=λds S Q ex h=>by unfold zeo at h; split at h <;> first | rfl | exact h.elim
def zdQ:Sd:=λds S Q ex=>match ds with
 | [.int _,.int qi,.int w]=>∃q:Nat,qi=(q:Nat)∧q≤3∧(1≤w∧w≤40)∧∀(T:Sto) (b:Nat) (ps:List (Int×Int)),Pre S T→S.length≤b→T[b]?=some (.lst (ps.map frD))→ps.length=q→(∀p∈ps,p.1≤p.2∧0≤p.1∧p.2≤100)→Q (.ref b) T
 | _=>False
theorem ziG:Ln (zdQ) 3:=λds S Q ex h=>by unfold zdQ at h; split at h <;> first | rfl | exact h.elim
def zce:Sd:=λds S Q ex=>match ds with
 | [.int _]=>Q (.bl true) S
 | _=>False
theorem zlz:Ln (zce) 1:=λds S Q ex h=>by unfold zce at h; split at h <;> first | rfl | exact h.elim
def zef:Sd:=λds S Q ex=>match ds with
 | [x,y]=>(∃t:TT,Den S 0 0 t x∧Den S 0 0 t y)∧∀T:Sto,Pre S T→Q (.bl true) T
 | _=>False
theorem zl0:Ln (zef) 2:=λds S Q ex h=>by unfold zef at h; split at h <;> first | rfl | exact h.elim
def zdX:Sd:=λds S Q ex=>match ds with
 | [x,y]=>(∃t:TT,Den S 0 1 t x∧Den S 0 1 t y)∧∀T:Sto,Pre S T→Q (.bl true) T
 | _=>False
theorem zkG:Ln (zdX) 2:=λds S Q ex h=>by unfold zdX at h; split at h <;> first | rfl | exact h.elim
def zdC:Sd:=λds S Q ex=>match ds with
 | [x,y]=>(∃t:TT,Den S 0 2 t x∧Den S 0 2 t y)∧∀T:Sto,Pre S T→Q (.bl true) T
 | _=>False
theorem zjr:Ln (zdC) 2:=λds S Q ex h=>by unfold zdC at h; split at h <;> first | rfl | exact h.elim
def zd1:Sd:=λds S Q ex=>match ds with
 | [x,y]=>(∃t:TT,Den S 0 3 t x∧Den S 0 3 t y)∧∀T:Sto,Pre S T→Q (.bl true) T
 | _=>False
theorem zjC:Ln (zd1) 2:=λds S Q ex h=>by unfold zd1 at h; split at h <;> first | rfl | exact h.elim
def zer:Sd:=λds S Q ex=>match ds with
 | [x,y]=>(∃t:TT,Den S 0 4 t x∧Den S 0 4 t y)∧∀T:Sto,Pre S T→Q (.bl true) T
 | _=>False
theorem zk8:Ln (zer) 2:=λds S Q ex h=>by unfold zer at h; split at h <;> first | rfl | exact h.elim
def zdP:Sd:=λds S Q ex=>match ds with
 | [.ref n,.int k]=>∃ns:List Int,S[n]?=some (.frz (ns.map D.int))∧0≤k∧Q (.int (ns.getD k.toNat 0)) S
 | _=>False
theorem zkS:Ln (zdP) 2:=λds S Q ex h=>by unfold zdP at h; split at h <;> first | rfl | exact h.elim
def zdJ:Sd:=λds S Q ex=>match ds with
 | [.ref m,.int f,.int v]=>∃ps:List (Int×Int),S[m]?=some (.lst (ps.map frD))∧ps.length≤900∧(∀p∈ps,Sz 100 p.1∧Sz 100 p.2)∧Sz 100 f∧Q (.ref S.length) (S++[.lst ((ps.map λp=>(p.1*f-v,p.2*f-v)).map frD)])
 | _=>False
theorem zlQ:Ln (zdJ) 3:=λds S Q ex h=>by unfold zdJ at h; split at h <;> first | rfl | exact h.elim
def zdR:Sd:=λds S Q ex=>match ds with
 | [.ref m,.ref n]=>∃us vs:List (Int×Int),S[m]?=some (.lst (us.map frD))∧S[n]?=some (.lst (vs.map frD))∧us.length=vs.length∧us.length≤900∧(∀p∈us,p.1≤p.2)∧(∀p∈vs,p.1≤p.2)∧Q (.bl (zbL us vs)) S
 | _=>False
theorem ziY:Ln (zdR) 2:=λds S Q ex h=>by unfold zdR at h; split at h <;> first | rfl | exact h.elim
def zd4:Sd:=λds S Q ex=>match ds with
 | [.ref m]=>∃(ds:List D) (B:List (List (Int×Int))) (q:Nat),S[m]?=some (.lst ds)∧zar S 0 ds B∧B.length≤30∧(∀b∈B,b.length≤4)∧(∀b∈B,b.length=q)∧(∀b∈B,∀p∈b,p.1≤p.2)∧∀(T:Sto) (k:Nat),Pre S T→S.length≤k→T[k]?=some (.lst ((zac (TB B) B.length).map wtD))→Q (.ref k) T
 | _=>False
theorem ziK:Ln (zd4) 1:=λds S Q ex h=>by unfold zd4 at h; split at h <;> first | rfl | exact h.elim
def zdI:Sd:=λds S Q ex=>match ds with
 | [.ref m,.int qi]=>∃(ds:List D) (B:List (List (Int×Int))) (q:Nat),qi=(q:Nat)∧q≤4∧S[m]?=some (.lst ds)∧zar S 0 ds B∧B.length≤30∧(∀b∈B,b.length≤4)∧(∀b∈B,b.length=q)∧(∀b∈B,∀p∈b,p.1≤p.2)∧∀(T:Sto) (k:Nat) (es:List D),Pre S T→T[k]?=some (.lst es)→zbb T k es (zbm B)→Q (.ref k) T
 | _=>False
theorem zls:Ln (zdI) 2:=λds S Q ex h=>by unfold zdI at h; split at h <;> first | rfl | exact h.elim
section
variable {P:Program}{w:World}{K:PySem.W.Frag}{mg:Str→Option Value}{base:Heap}
def zjv  (zeF:Df K mg "hull" zeE zeu)(zbz:mg "max"=none)(zbf:mg "min"=none):Fk P w K mg base 1 "hull" zeu zd7:=
 zeF.mk' (za2 (k:=0) zeF.F zlh (zkZ) λcdv A outer s H E hr=>⟨_,(zai (zap (zcO (zaa (zau (zeU rfl) rfl zbf Boot.«min» (zaa (zbk (dv 0) zao (λ_ _=>rfl)) (zaa (zbk (dv 1) zao (λ_ _=>rfl)) zab))) (zaa (zau (zgx rfl) rfl zbz Boot.«max» (zaa (zbk (dv 0) zao (λ_ _=>rfl)) (zaa (zbk (dv 1) zao (λ_ _=>rfl)) zab))) zab))))),λds S Q ex h=>by
  unfold zd7 at h
  split at h
  ·exact h
  ·exact h.elim⟩)
def zkN  (zfu:Df K mg "hull_of" zep zdH)(zgf:Fk P w K mg base 1 "hull" zeu zd7)(zbW:mg "zip"=none):Fk P w K mg base 2 "hull_of" zdH zet:=
 zfu.mk' (za2 (k:=1) zfu.F zfB (zke) λcdv A outer s H E hr=>⟨_,(zaj (za0 (i:=1) zfB.nd rfl (Or.inl rfl) (zaH (dv 0) zao (λ_ _=>rfl))) (zaj (zhC (i:=2) PassesOwn.never rfl zfB.nd rfl (Or.inl rfl) (dv 0) (zai (zjZ (x1:="one") (x2:="two") (N:=[]) (caps:=[]) (ar:=zak zep) rfl rfl cscG rfl rfl rfl (by decide) (i:=1) zfB.nd rfl rfl rfl zbW Boot.«zip» (zaa (dv 1) (zaa (dv 2) zab)) (λ_ _ _ _ _ _=>(zaP zgf hr (zaa (dv 0) (zaa (dv 1) zab))))))) (zai (zap (dv 1))))),λds S Q ex h=>by
  unfold zet at h
  split at h
  ·rename_i m
   obtain⟨ds,B,hm,rows,l3,l4,l1,h⟩:=h
   obtain⟨a0,e0,h0⟩:=zcN rows (show 0<B.length by omega)
   refine zaO (o:=.lst ds) hm e0 ?_
   have eh:B.getD 0 []=B.headD []:=by cases B <;> rfl
   have lh:(B.headD []).length≤4:=by
    rw[← eh]
    exact l4 _ (by rw[Vap,Vab (by omega)]; exact VaC ..)
   refine zgT (n:=m) (o:=.lst ds) (λj dl' S'=>Pre S S'∧j≤B.length∧∃a:Nat,S'[a]?=some (.lst (((B.take j).foldl (λw b=>List.zipWith zaF w b) (B.headD [])).map frD))∧(j=0∨S.length≤a)∧∃u2:Option D,dl'=[some (.ref m),some (.ref a),u2]) ⟨Pre.refl,Vaj _,a0,by rw[← eh]; exact h0,.inl rfl,_,rfl⟩ (λj dl' S' w=>w.1 _ _ hm) ?_ ?_
   ·rintro j x dl' S' nx ct ex' ⟨pr,hj,a,ha,_,u2,rfl⟩ hn
    have hx:ds[j]?=some x:=ex'
    have lj:j<B.length:=by have:=(Vad.mp hx).1; rw[rows.1] at this; exact this
    obtain⟨ab,eb,hb⟩:=zcN rows lj
    have exx:x=.ref ab:=by
     have z:=za6 (j:=j) hx
     rw[eb] at z
     exact(Option.some.inj z).symm
    subst exx
    have lf:=ziD (B.headD []) (B.take j)
    refine zg6 (n:=a) (n':=ab) (S1:=S') (xs:=((B.take j).foldl (λw b=>List.zipWith zaF w b) (B.headD [])).map frD) (ys:=(B.getD j []).map frD) (λx y=>match x,y with | .tup [.int a,.int b],.tup [.int c,.int d]=>frD (zaF (a,b) (c,d)) | _,_=>.non) (λK hK=>by exact hK) ha (pr _ _ hb) (by rw[Vac]; omega) (λk x y hx hy S2 K pr hK=>?_) ?_
    ·obtain⟨p,_,rfl⟩:=Vaf.mp (Vam hx)
     obtain⟨q,_,rfl⟩:=Vaf.mp (Vam hy)
     exact hK
    ·rw[zkx zaF _ _ _ λp q=>rfl]
     have hg:=zaG (d:=[]) lj
     have ls:=zc0 pr
     refine hn _ _ ⟨zaM pr _,by omega,S'.length,?_,.inr ls,_,rfl⟩
     rw[zc3 hg,List.foldl_append]
     exact zan _ _
   ·rintro dl' S' ⟨pr,_,a,ha,ha0,u2,rfl⟩
    have e9:B.take (zad (.lst ds)).length=B:=VaL (by show B.length≤ds.length; rw[rows.1]; exact Vaa _)
    rw[e9] at ha
    refine h _ _ pr (ha0.elim (λz=>?_) id) ha
    have z':ds.length=0:=z
    rw[rows.1] at z'
    omega
  ·exact h.elim⟩)
def zlg  (ze3:Df K mg "common" zeR zdU)(zbf:mg "min"=none)(zbz:mg "max"=none):Fk P w K mg base 1 "common" zdU zdD:=
 ze3.mk' (za2 (k:=0) ze3.F zfU (zli) λcdv A outer s H E hr=>⟨_,(zaj (za0 (i:=2) zfU.nd rfl (Or.inl rfl) (zau (zgx rfl) rfl zbz Boot.«max» (zaa (zbk (dv 0) zao (λ_ _=>rfl)) (zaa (zbk (dv 1) zao (λ_ _=>rfl)) zab)))) (zaj (za0 (i:=3) zfU.nd rfl (Or.inl rfl) (zau (zeU rfl) rfl zbf Boot.«min» (zaa (zbk (dv 0) zao (λ_ _=>rfl)) (zaa (zbk (dv 1) zao (λ_ _=>rfl)) zab)))) (zaj (zaJ (zaT do_gt (dv 2) (dv 3) (zaw _)) (zai (zap zhz)) zaL) (zai (zap (zcO (zaa (dv 2) (zaa (dv 3) zab)))))))),λds S Q ex h=>by
  unfold zdD at h
  split at h
  ·rename_i a b c d
   obtain⟨h1,h2⟩:=h
   unfold zbt at h1 h2
   refine ifD (λe=>?_) (λe=>?_)
   ·exact h1 (if_pos e)
   ·exact h2 _ (if_neg e)
  ·exact h.elim⟩)
def zki  (zeM:Df K mg "touch" zd8 zea)(zfS:Fk P w K mg base 1 "common" zdU zdD)(zaV:mg "all"=none)(zbW:mg "zip"=none):Fk P w K mg base 2 "touch" zea zev:=
 zeM.mk' (zg5 (za2 (k:=1) zeM.F zkK (zhF (zlB)) λcdv A outer s H E hr=>⟨_,(zai (zap (zau (zaz (zdl rfl)) rfl zaV Boot.«all» (zaa (zl6 (x1:="one") (x2:="two") (N:=[]) (caps:=[]) (ar:=zak zd8) rfl rfl cscG rfl rfl rfl (by decide) rfl zbW Boot.«zip» (zaa (dv 0) (zaa (dv 1) zab)) (λ_ _ _ _ _ _=>(zbO zkl (zaP zfS hr (zaa (dv 0) (zaa (dv 1) zab))) zhz (zaw _)))) zab)))),λds S Q ex h=>by
  obtain⟨Q0,ex0,rfl,rfl,h⟩:=h
  unfold zev at h
  split at h
  ·rename_i m n
   obtain⟨us,vs,h1,h2,hl,h⟩:=h
   refine zg6 (n:=m) (n':=n) (S1:=S) (xs:=us.map frD) (ys:=vs.map frD) (λx y=>match x,y with | .tup [.int a,.int b],.tup [.int c,.int d]=>.bl (zbt (a,b) (c,d)).isSome | _,_=>.non) (λK hK=>by exact hK) h1 h2 (by rw[Vac]; omega) (λk x y hx hy S2 K pr hK=>?_) ?_
   ·obtain⟨p,_,rfl⟩:=Vaf.mp (Vam hx)
    obtain⟨q,_,rfl⟩:=Vaf.mp (Vam hy)
    refine⟨λe=>?_,λr e=>?_⟩
    ·have hK':K (.bl (zbt p q).isSome) S2:=hK
     rw[show zbt p q=none from e] at hK'
     exact hK'
    ·have hK':K (.bl (zbt p q).isSome) S2:=hK
     rw[show zbt p q=some r from e] at hK'
     exact hK'
   ·refine zbY (n:=S.length) (o:=.lst _) (bs:=List.zipWith (λp q=>(zbt p q).isSome) us vs) (zan _ _) (zkt us vs) ?_
    exact⟨Pre.refl.push,.bl _,h⟩
  ·exact h.elim⟩))
def zl9  (zeA:Df K mg "touches_one" zen zdY)(zgl:Fk P w K mg base 2 "touch" zea zev)(zcC:mg "any"=none):Fk P w K mg base 3 "touches_one" zdY zei:=
 zeA.mk' (zg5 (za2 (k:=2) zeA.F zjn (zhF (zkF)) λcdv A outer s H E hr=>⟨_,(zai (zap (zau (zaz (zkr rfl)) rfl zcC Boot.«any» (zaa (zdk (x:="number") (N:=["box","boxes"]) (caps:=[2,0]) (ar:=zak zen) rfl rfl csc rfl (by decide) (dv 1) (λ_ _ _ _ _ _=>zbx) (λ_ _ _ _ _ _=>(zaP zgl hr (zaa (zaH (dv 2) (dv 0) (λ_ _=>rfl)) (zaa (dv 1) zab))))) zab)))),λds S Q ex h=>by
  obtain⟨Q0,ex0,rfl,rfl,h⟩:=h
  unfold zei at h
  split at h
  ·rename_i m g b
   obtain⟨ds,B,ns,box,hm,rows,l3,l4,hg,hb,hn,l9,h⟩:=h
   refine zdB (n:=g) (S1:=S) (o:=.lst (ns.map wtD)) (λd=>match d with | .int k=>.bl (zbL (B.getD k.toNat []) box) | _=>.non) (λK hK=>by exact hK) hg (by show (ns.map wtD).length≤1000; rw[Vac]; omega) (λx hx S2 K pr hK=>?_) ?_
   ·obtain⟨k,hk,rfl⟩:=Vaf.mp (show x∈ns.map wtD from hx)
    have hk':=hn k hk
    obtain⟨a,ea,ha⟩:=zcN rows hk'
    refine zaO (o:=.lst ds) (pr _ _ hm) ea ?_
    refine⟨B.getD k [],box,pr _ _ ha,pr _ _ hb,?_,hK⟩
    have:=l4 (B.getD k []) (by rw[Vap,Vab hk']; exact VaC ..)
    omega
   ·refine zbY (n:=S.length) (o:=.lst _) (bs:=ns.map λk=>zbL (B.getD k []) box) (zan _ _) (zik _ _ (λk=>rfl) ns) ?_
    rw[List.any_map]
    exact⟨Pre.refl.push,.bl _,h⟩
  ·exact h.elim⟩))
def zkR  (zeW:Df K mg "groups_of" zfa zdS)(zgo:Fk P w K mg base 3 "touches_one" zdY zei)(zcc:mg "sorted"=none)(zbR:mg "enumerate"=none):Fk P w K mg base 4 "groups_of" zdS zel:=
 zeW.mk' (za2 (k:=3) zeW.F zcM (zkk) λcdv A outer s H E hr=>⟨_,(zaj (za0 (i:=1) zcM.nd rfl (Or.inl rfl) (zbV zab)) (zaj (zhZ (is:=[2,3]) PassesOwn.never rfl zcM.nd (Nms.cons (i:=2) rfl (Or.inl rfl) (by first | exact .inl rfl | exact .inr rfl) (Nms.cons (i:=3) rfl (Or.inl rfl) (by first | exact .inl rfl | exact .inr rfl) Nms.nil)) rfl rfl zbR Boot.«enumerate» (zaa (dv 0) zab) (zaj (za0 (i:=4) zcM.nd rfl (Or.inl rfl) (zbV (zaa (dv 2) zab))) (zaj (za0 (i:=5) zcM.nd rfl (Or.inl rfl) (zbV zab)) (zaj (zhC (i:=6) PassesOwn.never rfl zcM.nd rfl (Or.inl rfl) (dv 1) (zai (zaJ (zbg (zaP zgo hr (zaa (dv 0) (zaa (dv 6) (zaa (dv 3) zab))))) (zai (zem (zlU (dv 4) (zaa (dv 6) zab)))) (zai (zem (zfH (dv 5) (dv 6))))))) (zai (za0 (i:=1) zcM.nd rfl (Or.inl rfl) (zaD zgb (dv 5) (zbV (zaa (zau (zaz zlk) rfl zcc Boot.«sorted» (zaa (dv 4) zab)) zab))))))))) (zai (zap (zau (zaz (zkm hr)) rfl zcc Boot.«sorted» (zaa (dv 1) zab)))))),λds S Q ex h=>by
  unfold zel at h
  split at h
  ·rename_i m
   obtain⟨ds,B,hm,rows,l3,l4,h⟩:=h
   have lm:=zbX hm
   refine zhb (n:=m) (S1:=S++[Ob.lst []]) (xs:=ds) (λk dl' S'=>k≤B.length∧Pre S S'∧∃(ga:Nat) (gs:List D) (G:List (List Nat)),S'[ga]?=some (.lst gs)∧za3 S' gs G∧G.Perm ((zal (zac (TB B) k)).map (cls (zac (TB B) k)))∧∃u2 u3 u4 u5 u6:Option D,dl'=[some (.ref m),some (.ref ga),u2,u3,u4,u5,u6]) (λK hK=>by exact hK) (λk dl' S' w=>w.2.1 _ _ hm) ⟨Vaj _,Pre.refl.push,S.length,[],[],zan _ _,za3.nil,List.Perm.refl _,_,_,_,_,_,rfl⟩ ?_ ?_
   ·rintro k x dl' S' nx ct hx ⟨hk,pr,ga,gs,G,hga,rG,pG,u2,u3,u4,u5,u6,rfl⟩ hn
    have lk:k<B.length:=by have:=(Vad.mp hx).1; rw[rows.1] at this; exact this
    obtain⟨ab,eb,hb⟩:=zcN rows lk
    have exx:x=.ref ab:=by
     have z:=za6 (j:=k) hx
     rw[eb] at z
     exact(Option.some.inj z).symm
    subst exx
    have mk:=zdu (TB B) k
    have mlen:=zcQ (TB B) k
    obtain⟨lm1,lm2⟩:=zfb _ (zgm (TB B) (zac (TB B) k))
    have gp:=zg9 mk lm1 lm2 pG
    rw[mlen] at gp
    have glen:(k::(G.filter (tch (TB B) k)).flatten).length≤31:=by
     rw[gp.length_eq]
     have z:=zdE (mkS (zbG (zag (TB B) (zac (TB B) k))) (zag (TB B) (zac (TB B) k)) (zac (TB B) k)) (zbG (zag (TB B) (zac (TB B) k)))
     rw[zcL,mlen] at z
     omega
    have gin:∀g∈G,(∀j∈g,j<B.length)∧g.length≤30:=λg hg=>by
     obtain⟨v,_,rfl⟩:=Vaf.mp (pG.mem_iff.mp hg)
     refine⟨λj hj=>by have:=(zbu.mp hj).1; omega,?_⟩
     have z:=zdE (zac (TB B) k) v
     omega
    have lG:G.length≤30:=by
     rw[pG.length_eq,Vac]
     have z:=zeD (zac (TB B) k)
     omega
    have lS:=zc0 pr
    have lga:=zbX hga
    refine zjd (λdl2 S2=>Pre S' S2∧∃(aps:List D),S2[S'.length]?=some (.lst ((k::(G.filter (tch (TB B) k)).flatten).map wtD))∧S2[S'.length+1]?=some (.lst aps)∧za3 S' aps (G.filter λg=>!tch (TB B) k g)∧∃u6:Option D,dl2=[some (.ref m),some (.ref ga),some (.int (k:Int)),some (.ref ab),some (.ref S'.length),some (.ref (S'.length+1)),u6]) (λnx hn=>?_) ?_
    ·have e1:(S'++[Ob.lst [D.int (k:Int)]]).length=S'.length+1:=by simp
     refine zgT (n:=ga) (o:=.lst gs) (λj dl2 S2=>Pre S' S2∧j≤G.length∧∃(aps:List D),S2[S'.length]?=some (.lst ((k::((G.take j).filter (tch (TB B) k)).flatten).map wtD))∧S2[S'.length+1]?=some (.lst aps)∧za3 S' aps ((G.take j).filter λg=>!tch (TB B) k g)∧∃u6:Option D,dl2=[some (.ref m),some (.ref ga),some (.int (k:Int)),some (.ref ab),some (.ref S'.length),some (.ref (S'.length+1)),u6]) ⟨Pre.refl.push.push,Vaj _,[],zaR (zan _ _),by rw[← e1]; exact zan _ _,za3.nil,_,by rw[e1]; rfl⟩ (λj dl2 S2 w=>w.1 _ _ hga) ?_ ?_
     ·rintro j y dl2 S2 nx2 ct2 ey ⟨p2,hj,aps,hgr,hap,rA,u6,rfl⟩ hn2
      have hy:gs[j]?=some y:=ey
      obtain⟨ag,g,rfl,hg,hag⟩:=rG.get hy
      obtain⟨g1,g2⟩:=gin g (Vam hg)
      have lj:=(Vad.mp hg).1
      have P2:Pre S S2:=λx o e=>p2 _ _ (pr _ _ e)
      have lag:=zbX hag
      refine⟨ds,B,g,B.getD k [],P2 _ _ hm,rows.pre P2,l3,l4,p2 _ _ hag,P2 _ _ hb,g1,by omega,?_⟩
      have tk:=zc3 hg
      have fl:((G.take j).filter (tch (TB B) k)).flatten.length≤((G.filter (tch (TB B) k)).flatten).length:=by
       have e:G=G.take j++G.drop j:=(List.take_append_drop j G).symm
       conv=>rhs; rw[e,VaF,List.flatten_append,Vaq]
       omega
      cases et:g.any λj=>zbL (B.getD j []) (B.getD k [])
      ·have et':tch (TB B) k g=false:=et
       refine zfR (n:=S'.length+1) (S1:=S2) (xs:=aps) (y:=.ref ag) (λK hK=>by exact hK) hap (λK hK=>by exact hK) ?_ ?_
       ·have z:=Va1 (λg=>!tch (TB B) k g) (G.take j)
        rw[VaK] at z
        rw[rA.1]
        omega
       refine hn2 _ _ ⟨zbi p2 (by omega),by omega,aps++[.ref ag],?_,zbh hap,?_,_,rfl⟩
       ·rw[tk,VaF,VaD,if_neg (by rw[et']; decide),VaU,VaN]
        exact zbw hgr (by omega)
       ·rw[tk,VaF,VaD,if_pos (by rw[et']; rfl),VaU]
        exact rA.snoc hag
      ·have et':tch (TB B) k g=true:=et
       refine zj4 (n:=S'.length) (m:=ag) (S1:=S2) (S2:=S2) (λK hK=>by exact hK) hgr (λK hK=>by exact hK) hgr (p2 _ _ hag) (by omega) ?_ ?_
       ·rw[Vac,Vac,VaR]
        rw[VaR] at glen
        omega
       refine hn2 _ _ ⟨zbi p2 (Vaa _),by omega,aps,?_,zbw hap (by omega),?_,_,rfl⟩
       ·rw[tk,VaF,VaD,if_pos et',VaU,List.flatten_append]
        have z:=zbh (u:=.lst ((k::((G.take j).filter (tch (TB B) k)).flatten).map wtD++g.map wtD)) hgr
        rw[z]
        simp
       ·rw[tk,VaF,VaD,if_neg (by rw[et']; decide),VaU,VaN]
        exact rA
     ·rintro dl2 S2 ⟨p2,hj,aps,hgr,hap,rA,u6,rfl⟩
      have e9:G.take (zad (.lst gs)).length=G:=VaL (by show G.length≤gs.length; rw[rG.1]; exact Vaa _)
      rw[e9] at hgr rA
      exact hn _ _ ⟨p2,aps,hgr,hap,rA,_,rfl⟩
    rintro dl2 S2 ⟨p2,aps,hgr,hap,rA,u6,rfl⟩
    refine zkv (o:=.lst ((k::(G.filter (tch (TB B) k)).flatten).map wtD)) (zaQ hgr rfl) (zfL _) (by rw[Vac]; omega) λms pm sm=>?_
    obtain⟨s,es,ps,ss⟩:=zll pm sm
    have em:ms.map D.int=s.map wtD:=by
     rw[es,Vaw]
     rfl
    rw[em]
    have la:aps.length≤30:=by
     rw[rA.1]
     have z:=Va1 (λg=>!tch (TB B) k g) G
     omega
    refine zgw (xs:=aps) (ys:=[.ref S2.length]) (zaR (zaR hap)) (zan _ _) (by show aps.length+1≤_; omega) ?_
    have P2:Pre S S2:=λx o e=>p2 _ _ (pr _ _ e)
    refine hn _ _ ⟨lk,zaM (zaM (zaM P2 _) _) _,_,aps++[.ref S2.length],(G.filter λg=>!tch (TB B) k g)++[s],zan _ _,?_,?_,_,_,_,_,_,rfl⟩
    ·exact(rA.pre λx o e=>zaR (zaR (zaR (p2 _ _ e)))).snoc (zaR (zaR (zan _ _)))
    ·have z:=zla mk lm1 lm2 pG (s:=s) (by rw[mlen]; exact ps) ss
     rw[mlen] at z
     exact z
   ·rintro dl' S' ⟨_,pr,ga,gs,G,hga,rG,pG,u2,u3,u4,u5,u6,rfl⟩
    rw[rows.1] at pG
    have mk:=zdu (TB B) B.length
    have mlen:=zcQ (TB B) B.length
    obtain⟨nh,ne⟩:=zle mk pG
    have lG:G.length≤30:=by
     rw[pG.length_eq,Vac]
     have z:=zeD (zac (TB B) B.length)
     omega
    refine ziU (es:=gs) (zs:=(G.map λg=>g.getD 0 0).map λ(x:Nat)=>(x:Int)) hga (by rw[Vac,Vac]; exact rG.1) (λi e z he hz=>?_) ?_ (by rw[rG.1]; omega) λp pp sp=>?_
    ·obtain⟨a,g,rfl,hg,ha⟩:=rG.get he
     rw[Vae,Vae,hg] at hz
     have hz':((g.getD 0 0:Nat):Int)=z:=Option.some.inj hz
     cases g with
     | nil=>exact absurd rfl (ne _ (Vam hg))
     | cons y ys=>
      refine⟨a,ys.map wtD,rfl,?_⟩
      rw[← hz']
      exact ha
    ·exact nh.map (λ(x:Nat)=>(x:Int)) λa b hab e=>hab (by omega)
    ·rw[rG.1] at pp
     have hp:∀i∈p,i<gs.length:=λi hi=>by
      have:=VaE.mp (pp.mem_iff.mp hi)
      rw[rG.1]
      exact this
     have e:(p.map λi=>G.getD i [])=(zal (zac (TB B) B.length)).map (cls (zac (TB B) B.length)):=by
      refine zjt mk ((zks pp).trans pG) ?_
      rw[Vaw]
      rw[List.pairwise_map] at sp ⊢
      refine sp.imp_of_mem λ{x y} hx hy hxy=>?_
      rw[zhc (by rw[← rG.1]; exact hp x hx),zhc (by rw[← rG.1]; exact hp y hy)] at hxy
      have hxy':(((G.getD x []).getD 0 0:Nat):Int)<(((G.getD y []).getD 0 0:Nat):Int):=hxy
      show (G.getD x []).getD 0 0<(G.getD y []).getD 0 0
      omega
     have lS:=zc0 pr
     refine h _ _ _ (zaM pr _) lS (zan _ _) ?_
     rw[← e]
     exact(rG.pick p hp).pre (zaM Pre.refl _)
  ·exact h.elim⟩)
def zjx  (ze8:Df K mg "islands" zdy zek)(zge:Fk P w K mg base 4 "groups_of" zdS zel)(zfZ:Fk P w K mg base 2 "hull_of" zdH zet):Fk P w K mg base 5 "islands" zek zej:=
 ze8.mk' (za2 (k:=4) ze8.F zj5 (zjc) λcdv A outer s H E hr=>⟨_,(zai (zap (zdk (x:="numbers") (N:=["boxes"]) (caps:=[0]) (ar:=zak zdy) rfl rfl csc rfl (by decide) (zaP zge hr (zaa (dv 0) zab)) (λ_ _ _ _ _ _=>zbx) (λ_ _ _ _ _ _=>(zcO (zaa (dv 0) (zaa (zaP zfZ hr (zaa (zdk (x:="number") (N:=["boxes"]) (caps:=[1]) (ar:=relabel _ _) rfl rfl (cscN (ar0:=zak zdy) rfl) rfl (by decide) (dv 0) (λ_ _ _ _ _ _=>zbx) (λ_ _ _ _ _ _=>(zaH (dv 1) (dv 0) (λ_ _=>rfl)))) zab)) zab))))))),λds S Q ex h=>by
  unfold zej at h
  split at h
  ·rename_i m
   obtain⟨ds,B,hm,rows,l3,l4,h⟩:=h
   refine ziI (P:=λT k=>Pre S T∧∃gs,T[k]?=some (.lst gs)∧za3 T gs ((zal (zac (TB B) B.length)).map (cls (zac (TB B) B.length)))) (λK hK=>⟨ds,B,hm,rows,l3,l4,λT k gs p lk hk rk=>hK T k ⟨p,gs,hk,rk⟩⟩) ?_
   rintro T n ⟨pT,gs,hn,rG⟩ tl' htl'
   have mlen:=zcQ (TB B) B.length
   have rl:=zeD (zac (TB B) B.length)
   have lgs:gs.length≤30:=by rw[rG.1,Vac]; omega
   have lL:(zbm B).length=gs.length:=by rw[rG.1]; simp[zbm]
   refine zfv (S1:=T) (n:=n) (o:=.lst gs) (λj ys S2=>Pre T S2∧S2[T.length]?=some (.lst ys)∧ys.length=j∧zbb S2 T.length ys ((zbm B).take j)) htl' hn (λj ys S2 w=>⟨w.1 _ _ hn,w.2.1,w.2.2.1⟩) (by show gs.length≤1000; omega) ⟨Pre.refl.push,zan _ _,rfl,zbb.nil⟩ (λj x ys S2 K hx w hK=>?_) (λys S2 w=>?_)
   ·obtain⟨y1,y2,y3,y4⟩:=w
    have hx':gs[j]?=some x:=hx
    obtain⟨ag,g,rfl,hg,hag⟩:=rG.get hx'
    have lt:=zbX y2
    have lag:=zbX hag
    rw[Vae] at hg
    obtain⟨v,hv,rfl⟩:=VaH.mp hg
    obtain⟨xs9,e9⟩:=zeq (zdu (TB B) B.length) (Vam hv)
    have cl:=zdE (zac (TB B) B.length) v
    have inn:∀i∈cls (zac (TB B) B.length) v,i<B.length:=λi hi=>by have:=(zbu.mp hi).1; omega
    have PS:Pre S S2:=λx o e=>y1 _ _ (pT _ _ e)
    refine zdB (n:=ag) (S1:=S2) (o:=.lst ((cls (zac (TB B) B.length) v).map wtD)) (λd=>match d with | .int k=>ds.getD k.toNat .non | _=>.non) (λK hK=>by exact hK) (y1 _ _ hag) (by show ((cls (zac (TB B) B.length) v).map wtD).length≤1000; rw[Vac]; omega) (λx hx S3 K pr hK=>?_) ?_
    ·obtain⟨i,hi,rfl⟩:=Vaf.mp (show x∈(cls (zac (TB B) B.length) v).map wtD from hx)
     refine zaO (o:=.lst ds) (pr _ _ (PS _ _ hm)) (d:=ds.getD i .non) (za6 (j:=i) (zaG (by show i<ds.length; rw[rows.1]; exact inn i hi))) ?_
     exact hK
    have em:(zad (.lst ((cls (zac (TB B) B.length) v).map wtD))).map (λd=>match d with | .int k=>ds.getD k.toNat .non | _=>.non)=(cls (zac (TB B) B.length) v).map λi=>ds.getD i .non:=by
     show ((cls (zac (TB B) B.length) v).map wtD).map _=_
     rw[Vaw]
     rfl
    rw[em]
    have pz:Pre S2 (S2++[Ob.lst ((cls (zac (TB B) B.length) v).map λi=>ds.getD i .non)]):=Pre.refl.push
    refine⟨(cls (zac (TB B) B.length) v).map λi=>ds.getD i .non,(cls (zac (TB B) B.length) v).map λi=>B.getD i [],zan _ _,?_,by rw[Vac]; omega,λb hb=>?_,by rw[Vac,e9]; exact Nat.succ_le_succ (Vaj _),λT2 k2 p2 lk2 hk2=>?_⟩
    ·refine⟨by simp,λi d r hd hr=>?_⟩
     rw[Vae] at hd hr
     obtain⟨q,hq,rfl⟩:=VaH.mp hd
     rw[hq] at hr
     cases hr
     have lq:=inn q (Vam hq)
     obtain⟨a,e,_,ha⟩:=rows.2 q _ _ (zaG (d:=.non) (by rw[rows.1]; exact lq)) (zaG (d:=[]) lq)
     exact⟨a,e,Vaj _,pz _ _ (PS _ _ ha)⟩
    ·obtain⟨q,hq,rfl⟩:=Vaf.mp hb
     exact l4 _ (by rw[Vap,Vab (inn q hq)]; exact VaC ..)
    have p3:Pre S2 T2:=λx o e=>p2 _ _ (pz _ _ e)
    rw[Vaq] at lk2
    have lk3:S2.length≤k2:=Vau (Nat.le_add_right _ _) lk2
    have y2':=p3 _ _ y2
    refine hK _ _ y2' ⟨zbi (λx o e=>p3 _ _ (y1 _ _ e)) (Vaa _),zbh y2',by simp[y3],?_⟩
    have hL:(zbm B)[j]?=some (cls (zac (TB B) B.length) v,zbB ((cls (zac (TB B) B.length) v).map λi=>B.getD i [])):=by
     unfold zbm
     rw[Vae,hv]
     rfl
    rw[zc3 hL]
    refine zbb.snoc (y4.keep λx o nx e=>zbw (p3 _ _ e) (Ne.symm nx)) (by omega) (by omega) ?_ ?_
    ·exact zbw (p3 _ _ (y1 _ _ hag)) (by omega)
    ·exact zbw hk2 (by omega)
   ·obtain⟨y1,y2,y3,y4⟩:=w
    have e9:(zbm B).take (zad (.lst gs)).length=zbm B:=VaL (by show (zbm B).length≤gs.length; omega)
    rw[e9] at y4
    exact h _ _ _ (λx o e=>y1 _ _ (pT _ _ e)) (zc0 pT) y2 y4
  ·exact h.elim⟩)
def zjj  (zeZ:Df K mg "_law_mix" zeI zdN):Fk P w K mg base 1 "_law_mix" zdN zeo:=
 zeZ.mk' (za2 (k:=0) zeZ.F zjg (zjJ) λcdv A outer s H E hr=>⟨_,(zai (zap (zaD zfo (zaD zee (zaD zcp (zaD zcp (dv 0) (zaD zee (zaD zcp zao (dv 1)) zao)) zao) (zaD zcp (zaD zcp (dv 1) (dv 1)) zao)) zao))),λds S Q ex h=>by
  unfold zeo at h
  split at h
  ·rename_i c k
   obtain⟨⟨k0,k1⟩,h⟩:=h
   refine⟨IntMulOk.of_left (by decide),zh2 (show (2*k+3).natAbs≤1000000 by omega),IntMulOk.of_right (by decide),zh2 (show k.natAbs≤1000000 by omega),IntMulOk.of_right (by decide),show (0:Int)<2147483647 by decide,?_⟩
   exact h
  ·exact h.elim⟩)
def zjR  (zft:Df K mg "_law_box" zfy zdL)(zfJ:Fk P w K mg base 1 "_law_mix" zdN zeo)(zav:mg "range"=none):Fk P w K mg base 2 "_law_box" zdL zdQ:=
 zft.mk' (za2 (k:=1) zft.F zeN (ziG) λcdv A outer s H E hr=>⟨_,(zaj (za0 (i:=3) zeN.nd rfl (Or.inl rfl) (zbV zab)) (zaj (zeQ (i:=4) PassesOwn.never rfl zeN.nd rfl (Or.inl rfl) rfl zav (zaa (dv 1) zab) (zaj (za0 (i:=5) zeN.nd rfl (Or.inl rfl) (zaD zfo (zaP zfJ hr (zaa (dv 0) (zaa (dv 4) zab))) (dv 2))) (zai (zem (zfH (dv 3) (zcO (zaa (dv 5) (zaa (zaD zee (dv 5) (zaD zfc (zaP zfJ hr (zaa (dv 0) (zaa (zaD zee (dv 4) zao) zab))) zao)) zab)))))))) (zai (zap (dv 3))))),λds S Q ex h=>by
  unfold zdQ at h
  split at h
  ·rename_i c qi w
   obtain⟨q,rfl,q3,hw,h⟩:=h
   refine⟨⟨by omega,by omega⟩,λk dl' S'=>k≤q∧Pre S S'∧(∃ps:List (Int×Int),S'[S.length]?=some (.lst (ps.map frD))∧ps.length=k∧∀p∈ps,p.1≤p.2∧0≤p.1∧p.2≤100)∧∃u4 u5:Option D,dl'=[some (.int c),some (.int (q:Nat)),some (.int w),some (.ref S.length),u4,u5],⟨Vaj _,Pre.refl.push,⟨[],zan _ _,rfl,λp hp=>by simp at hp⟩,_,_,rfl⟩,?_⟩
   rintro k dl' S' ⟨hk,pr,⟨ps,hps,lp,zp⟩,u4,u5,rfl⟩
   rw[Vas]
   refine zdG (λcc=>?_) (λcc=>?_)
   ·refine⟨⟨by omega,by omega⟩,show (0:Int)<w by omega,?_⟩
    have r1:=zhk (a:=zb8 c (k:Int)) (b:=w) (by omega)
    have r2:=zhk (a:=zb8 c ((k:Int)+10)) (b:=5) (by decide)
    refine zfR (n:=S.length) (S1:=S') (xs:=ps.map frD) (y:=frD (zb8 c (k:Int)%w,zb8 c (k:Int)%w+zb8 c ((k:Int)+10)%5)) (λK hK=>by exact hK) hps (λK hK=>⟨⟨by omega,by omega⟩,hK⟩) (by rw[Vac]; omega) ?_
    refine⟨by omega,zbi pr (Vaa _),⟨ps++[(zb8 c (k:Int)%w,zb8 c (k:Int)%w+zb8 c ((k:Int)+10)%5)],by rw[Vat]; exact zbh hps,by rw[Vaq,lp]; rfl,λp hp=>?_⟩,_,_,rfl⟩
    rcases Va2.mp hp with z | z
    ·exact zp p z
    ·rw[VaT.mp z]
     dsimp only
     omega
   ·have e:k=q:=by omega
    subst e
    exact h _ _ ps pr (Vaa _) hps lp zp
  ·exact h.elim⟩)
def zkp  (zfe:Df K mg "_law_whole" zfi zci)(zah:mg "isinstance"=none)(zcG:mg "bool"=none)(zaU:mg "int"=none)(zdt:Kit K "bool")(zda:Kit K "int"):Fk P w K mg base 1 "_law_whole" zci zce:=
 zfe.mk' (za2 (k:=0) zfe.F zl4 (zlz) λcdv A outer s H E hr=>⟨_,(zai (zap (zbM (zh1 zda rfl zah rfl zaU Boot.«int» (dv 0)) (zbH (zjQ (zh1 zdt rfl zah rfl zcG Boot.«bool» (dv 0))))))),λds S Q ex h=>by
  unfold zce at h
  split at h
  ·exact h
  ·exact h.elim⟩)
def zkj (za1:Df K mg "_law_alike" zbC zbc)(zbq:Fk P w K mg base 1 "_law_whole" zci zce)(zah:mg "isinstance"=none)(za5:mg "str"=none)(zaU:mg "int"=none)(zaB:mg "tuple"=none)(zay:mg "list"=none)(zaV:mg "all"=none)(zav:mg "range"=none)(zaq:mg "len"=none)(zcm:Fk P w K mg base 0 "_law_alike" zbc zhq):Fk P w K mg base 2 "_law_alike" zbc zef:=
 za1.mk' (za2 (k:=1) za1.F zd9 zl0 λcdv A outer s H E hr=>⟨_,(zaj (zaJ (PDW.pt (zbP (zbg (zas (zat _ _ (by simp)) rfl zah rfl zay Boot.«list» (dv 1))) (zbT (zbg (zas (zat _ _ (by simp)) rfl zah rfl zaB Boot.«tuple» (dv 1)))))) (zaj (zaJ (PDW.pt (zbP (zaT (zbv hr) (zas (zat _ _ (by simp)) rfl zah rfl zay Boot.«list» (dv 1)) (zas (zat _ _ (by simp)) rfl zah rfl zay Boot.«list» (dv 0)) (zaw _)) (zbT (zaT (zbv hr) (zas (zat _ _ (by simp)) rfl zah rfl zaB Boot.«tuple» (dv 1)) (zas (zat _ _ (by simp)) rfl zah rfl zaB Boot.«tuple» (dv 0)) (zaw _))))) (zai (zap zbN)) zaL) (zaj (zaJ (zaT (zbv hr) (zau (zaz za8) rfl zaq Boot.«len» (zaa (dv 0) zab)) (zau (zaz za8) rfl zaq Boot.«len» (zaa (dv 1) zab)) (zaw _)) (zai (zap zbN)) zaL) (zai (zap (zau (zaz (zdl rfl)) rfl zaV Boot.«all» (zaa (zde (x:="_law_k") (N:=["_law_found","_law_due_here"]) (caps:=[0,1]) (ar:=zak zbC) rfl rfl csc rfl (by decide) rfl zav (zaa (zau (zaz za8) rfl zaq Boot.«len» (zaa (dv 1) zab)) zab) (λ_ _ _ _ _ _=>zbx) (λ_ _ _ _ _ _=>(zc6 zcm (hr.mono (by decide)) zdn rfl (zaa (zaH (dv 1) (dv 0) (λ_ _=>rfl)) (zaa (zaH (dv 2) (dv 0) (λ_ _=>rfl)) zab))))) zab)))))) zaL) (zaj (zaJ (zbg (zas (zat _ _ (by simp)) rfl zah rfl zaU Boot.«int» (dv 1))) (zai (zap (zbM (zaP zbq hr (zaa (dv 0) zab)) (zbH (zbO (zbD hr) (dv 0) (dv 1) (zaw _)))))) zaL) (zai (zap (zbM (zas (zat _ _ (by simp)) rfl zah rfl za5 Boot.«str» (dv 0)) (zbH (zbO (zbD hr) (dv 0) (dv 1) (zaw _)))))))),λds S Q ex h=>by
  unfold zef at h
  split at h
  ·rename_i x y
   obtain⟨⟨t,hx,hy⟩,h⟩:=h
   cases hx with
   | i k=>
    cases hy
    try dsimp only[zaE]
    refine zbp (i:=k) (λK hK=>by exact hK) ?_
    refine zbp (i:=k) (λK hK=>by exact hK) ?_
    refine zam ?_
    refine zbp (i:=k) (λK hK=>by exact hK) ?_
    refine zba ?_
    have h:=h S Pre.refl
    have e:decide (k=k)=true:=decide_eq_true rfl
    rw[← e] at h
    exact h
   | s w=>
    cases hy
    try dsimp only[zaE]
    refine za7 (w:=w) (λK hK=>by exact hK) ?_
    refine za7 (w:=w) (λK hK=>by exact hK) ?_
    refine zam ?_
    refine za7 (w:=w) (λK hK=>by exact hK) ?_
    refine zam ?_
    refine za7 (w:=w) (λK hK=>by exact hK) ?_
    have h:=h S Pre.refl
    have e:decide (w=w)=true:=decide_eq_true rfl
    rw[← e] at h
    exact h
  ·exact h.elim⟩)
def zjk (za1:Df K mg "_law_alike" zbC zbc)(zbq:Fk P w K mg base 1 "_law_whole" zci zce)(zah:mg "isinstance"=none)(za5:mg "str"=none)(zaU:mg "int"=none)(zaB:mg "tuple"=none)(zay:mg "list"=none)(zaV:mg "all"=none)(zav:mg "range"=none)(zaq:mg "len"=none)(zcm:Fk P w K mg base 2 "_law_alike" zbc zef):Fk P w K mg base 3 "_law_alike" zbc zdX:=
 za1.mk' (za2 (k:=2) za1.F zd9 zkG λcdv A outer s H E hr=>⟨_,(zaj (zaJ (PDW.pt (zbP (zbg (zas (zat _ _ (by simp)) rfl zah rfl zay Boot.«list» (dv 1))) (zbT (zbg (zas (zat _ _ (by simp)) rfl zah rfl zaB Boot.«tuple» (dv 1)))))) (zaj (zaJ (PDW.pt (zbP (zaT (zbv hr) (zas (zat _ _ (by simp)) rfl zah rfl zay Boot.«list» (dv 1)) (zas (zat _ _ (by simp)) rfl zah rfl zay Boot.«list» (dv 0)) (zaw _)) (zbT (zaT (zbv hr) (zas (zat _ _ (by simp)) rfl zah rfl zaB Boot.«tuple» (dv 1)) (zas (zat _ _ (by simp)) rfl zah rfl zaB Boot.«tuple» (dv 0)) (zaw _))))) (zai (zap zbN)) zaL) (zaj (zaJ (zaT (zbv hr) (zau (zaz za8) rfl zaq Boot.«len» (zaa (dv 0) zab)) (zau (zaz za8) rfl zaq Boot.«len» (zaa (dv 1) zab)) (zaw _)) (zai (zap zbN)) zaL) (zai (zap (zau (zaz (zdl rfl)) rfl zaV Boot.«all» (zaa (zde (x:="_law_k") (N:=["_law_found","_law_due_here"]) (caps:=[0,1]) (ar:=zak zbC) rfl rfl csc rfl (by decide) rfl zav (zaa (zau (zaz za8) rfl zaq Boot.«len» (zaa (dv 1) zab)) zab) (λ_ _ _ _ _ _=>zbx) (λ_ _ _ _ _ _=>(zc6 zcm (hr.mono (by decide)) zdn rfl (zaa (zaH (dv 1) (dv 0) (λ_ _=>rfl)) (zaa (zaH (dv 2) (dv 0) (λ_ _=>rfl)) zab))))) zab)))))) zaL) (zaj (zaJ (zbg (zas (zat _ _ (by simp)) rfl zah rfl zaU Boot.«int» (dv 1))) (zai (zap (zbM (zaP zbq hr (zaa (dv 0) zab)) (zbH (zbO (zbD hr) (dv 0) (dv 1) (zaw _)))))) zaL) (zai (zap (zbM (zas (zat _ _ (by simp)) rfl zah rfl za5 Boot.«str» (dv 0)) (zbH (zbO (zbD hr) (dv 0) (dv 1) (zaw _)))))))),λds S Q ex h=>by
  unfold zdX at h
  split at h
  ·rename_i x y
   obtain⟨⟨t,hx,hy⟩,h⟩:=h
   cases hx with
   | i k=>
    cases hy
    try dsimp only[zaE]
    refine zbp (i:=k) (λK hK=>by exact hK) ?_
    refine zbp (i:=k) (λK hK=>by exact hK) ?_
    refine zam ?_
    refine zbp (i:=k) (λK hK=>by exact hK) ?_
    refine zba ?_
    have h:=h S Pre.refl
    have e:decide (k=k)=true:=decide_eq_true rfl
    rw[← e] at h
    exact h
   | s w=>
    cases hy
    try dsimp only[zaE]
    refine za7 (w:=w) (λK hK=>by exact hK) ?_
    refine za7 (w:=w) (λK hK=>by exact hK) ?_
    refine zam ?_
    refine za7 (w:=w) (λK hK=>by exact hK) ?_
    refine zam ?_
    refine za7 (w:=w) (λK hK=>by exact hK) ?_
    have h:=h S Pre.refl
    have e:decide (w=w)=true:=decide_eq_true rfl
    rw[← e] at h
    exact h
   | @t _ xs ds z9 l f=>
    cases hy with
    | @t _ _ es _ l' f'=>
     try dsimp only[zaE]
     refine zaS (xs:=es) (λK hK=>by exact hK) ?_
     refine zaS (xs:=es) (λK hK=>by exact hK) ?_
     refine zba ?_
     try dsimp only[zaE]
     refine zaS (xs:=es) (λK hK=>by exact hK) ?_
     refine zaS (xs:=ds) (λK hK=>by exact hK) ?_
     refine zbl ?_
     refine zam ?_
     refine zaS (xs:=es) (λK hK=>by exact hK) ?_
     refine zaS (xs:=ds) (λK hK=>by exact hK) ?_
     refine zbl ?_
     refine zam ?_
     refine zbJ ?_
     refine zbJ ?_
     refine zcu (by omega) ?_
     refine zam ?_
     refine zcE (j:=(es.length:Nat)) (S1:=S) (λk ys S2=>Pre S S2∧S2[S.length]?=some (.lst ys)∧ys=(List.range k).map λ_=>D.bl true) (λK hK=>zbJ hK) ⟨by omega,by omega⟩ (λk ys S2 ⟨_,e,z⟩=>⟨e,by rw[z,Vac,Vav]⟩) ⟨zaM Pre.refl _,zan _ _,rfl⟩ (λk ys S2 K hk ⟨pr,ey,z⟩ hK=>?_) (λys S2 ⟨pr,ey,z⟩=>?_)
     ·rw[Vas] at hk
      have e1:=Vab (show k<ds.length by omega)
      have e2:=Vab hk
      have e3:=Vab (show k<xs.length by omega)
      refine zco e1 ?_
      refine zco e2 ?_
      refine⟨⟨xs[k],(f k _ _ e3 e1).pre pr,(f' k _ _ e3 e2).pre pr⟩,λT pT=>hK _ T (pT _ _ ey) ⟨zbi (λi o e=>pT _ _ (pr _ _ e)) (Vaa _),zbh (pT _ _ ey),?_⟩⟩
      rw[z,VaA,Vat]
      rfl
     ·refine zbY (bs:=(List.range ((es.length:Nat):Int).toNat).map λ_=>true) ey (by rw[z]; exact zcl _) ?_
      rw[zcg]
      exact h _ pr
   | @l _ a xs ds ha _ z9 l f=>
    cases hy with
    | @l _ b _ es hb _ _ l' f'=>
     try dsimp only[zaE]
     refine za4 (n:=b) (λK hK=>by exact hK) hb ?_
     refine zba ?_
     try dsimp only[zaE]
     refine za4 (n:=b) (λK hK=>by exact hK) hb ?_
     refine za4 (n:=a) (λK hK=>by exact hK) ha ?_
     refine zbl ?_
     refine zam ?_
     refine za4 (n:=b) (λK hK=>by exact hK) hb ?_
     refine za4 (n:=a) (λK hK=>by exact hK) ha ?_
     refine zbl ?_
     refine zam ?_
     refine zbo ha ?_
     refine zbo hb ?_
     refine zcu (by omega) ?_
     refine zam ?_
     refine zcE (j:=(es.length:Nat)) (S1:=S) (λk ys S2=>Pre S S2∧S2[S.length]?=some (.lst ys)∧ys=(List.range k).map λ_=>D.bl true) (λK hK=>zbo hb hK) ⟨by omega,by omega⟩ (λk ys S2 ⟨_,e,z⟩=>⟨e,by rw[z,Vac,Vav]⟩) ⟨zaM Pre.refl _,zan _ _,rfl⟩ (λk ys S2 K hk ⟨pr,ey,z⟩ hK=>?_) (λys S2 ⟨pr,ey,z⟩=>?_)
     ·rw[Vas] at hk
      have e1:=Vab (show k<ds.length by omega)
      have e2:=Vab hk
      have e3:=Vab (show k<xs.length by omega)
      refine zaO (o:=.lst ds) (pr _ _ ha) (za6 e1) ?_
      refine zaO (o:=.lst es) (pr _ _ hb) (za6 e2) ?_
      refine⟨⟨xs[k],(f k _ _ e3 e1).pre pr,(f' k _ _ e3 e2).pre pr⟩,λT pT=>hK _ T (pT _ _ ey) ⟨zbi (λi o e=>pT _ _ (pr _ _ e)) (Vaa _),zbh (pT _ _ ey),?_⟩⟩
      rw[z,VaA,Vat]
      rfl
     ·refine zbY (bs:=(List.range ((es.length:Nat):Int).toNat).map λ_=>true) ey (by rw[z]; exact zcl _) ?_
      rw[zcg]
      exact h _ pr
  ·exact h.elim⟩)
def zl7 (za1:Df K mg "_law_alike" zbC zbc)(zbq:Fk P w K mg base 1 "_law_whole" zci zce)(zah:mg "isinstance"=none)(za5:mg "str"=none)(zaU:mg "int"=none)(zaB:mg "tuple"=none)(zay:mg "list"=none)(zaV:mg "all"=none)(zav:mg "range"=none)(zaq:mg "len"=none)(zcm:Fk P w K mg base 3 "_law_alike" zbc zdX):Fk P w K mg base 4 "_law_alike" zbc zdC:=
 za1.mk' (za2 (k:=3) za1.F zd9 zjr λcdv A outer s H E hr=>⟨_,(zaj (zaJ (PDW.pt (zbP (zbg (zas (zat _ _ (by simp)) rfl zah rfl zay Boot.«list» (dv 1))) (zbT (zbg (zas (zat _ _ (by simp)) rfl zah rfl zaB Boot.«tuple» (dv 1)))))) (zaj (zaJ (PDW.pt (zbP (zaT (zbv hr) (zas (zat _ _ (by simp)) rfl zah rfl zay Boot.«list» (dv 1)) (zas (zat _ _ (by simp)) rfl zah rfl zay Boot.«list» (dv 0)) (zaw _)) (zbT (zaT (zbv hr) (zas (zat _ _ (by simp)) rfl zah rfl zaB Boot.«tuple» (dv 1)) (zas (zat _ _ (by simp)) rfl zah rfl zaB Boot.«tuple» (dv 0)) (zaw _))))) (zai (zap zbN)) zaL) (zaj (zaJ (zaT (zbv hr) (zau (zaz za8) rfl zaq Boot.«len» (zaa (dv 0) zab)) (zau (zaz za8) rfl zaq Boot.«len» (zaa (dv 1) zab)) (zaw _)) (zai (zap zbN)) zaL) (zai (zap (zau (zaz (zdl rfl)) rfl zaV Boot.«all» (zaa (zde (x:="_law_k") (N:=["_law_found","_law_due_here"]) (caps:=[0,1]) (ar:=zak zbC) rfl rfl csc rfl (by decide) rfl zav (zaa (zau (zaz za8) rfl zaq Boot.«len» (zaa (dv 1) zab)) zab) (λ_ _ _ _ _ _=>zbx) (λ_ _ _ _ _ _=>(zc6 zcm (hr.mono (by decide)) zdn rfl (zaa (zaH (dv 1) (dv 0) (λ_ _=>rfl)) (zaa (zaH (dv 2) (dv 0) (λ_ _=>rfl)) zab))))) zab)))))) zaL) (zaj (zaJ (zbg (zas (zat _ _ (by simp)) rfl zah rfl zaU Boot.«int» (dv 1))) (zai (zap (zbM (zaP zbq hr (zaa (dv 0) zab)) (zbH (zbO (zbD hr) (dv 0) (dv 1) (zaw _)))))) zaL) (zai (zap (zbM (zas (zat _ _ (by simp)) rfl zah rfl za5 Boot.«str» (dv 0)) (zbH (zbO (zbD hr) (dv 0) (dv 1) (zaw _)))))))),λds S Q ex h=>by
  unfold zdC at h
  split at h
  ·rename_i x y
   obtain⟨⟨t,hx,hy⟩,h⟩:=h
   cases hx with
   | i k=>
    cases hy
    try dsimp only[zaE]
    refine zbp (i:=k) (λK hK=>by exact hK) ?_
    refine zbp (i:=k) (λK hK=>by exact hK) ?_
    refine zam ?_
    refine zbp (i:=k) (λK hK=>by exact hK) ?_
    refine zba ?_
    have h:=h S Pre.refl
    have e:decide (k=k)=true:=decide_eq_true rfl
    rw[← e] at h
    exact h
   | s w=>
    cases hy
    try dsimp only[zaE]
    refine za7 (w:=w) (λK hK=>by exact hK) ?_
    refine za7 (w:=w) (λK hK=>by exact hK) ?_
    refine zam ?_
    refine za7 (w:=w) (λK hK=>by exact hK) ?_
    refine zam ?_
    refine za7 (w:=w) (λK hK=>by exact hK) ?_
    have h:=h S Pre.refl
    have e:decide (w=w)=true:=decide_eq_true rfl
    rw[← e] at h
    exact h
   | @t _ xs ds z9 l f=>
    cases hy with
    | @t _ _ es _ l' f'=>
     try dsimp only[zaE]
     refine zaS (xs:=es) (λK hK=>by exact hK) ?_
     refine zaS (xs:=es) (λK hK=>by exact hK) ?_
     refine zba ?_
     try dsimp only[zaE]
     refine zaS (xs:=es) (λK hK=>by exact hK) ?_
     refine zaS (xs:=ds) (λK hK=>by exact hK) ?_
     refine zbl ?_
     refine zam ?_
     refine zaS (xs:=es) (λK hK=>by exact hK) ?_
     refine zaS (xs:=ds) (λK hK=>by exact hK) ?_
     refine zbl ?_
     refine zam ?_
     refine zbJ ?_
     refine zbJ ?_
     refine zcu (by omega) ?_
     refine zam ?_
     refine zcE (j:=(es.length:Nat)) (S1:=S) (λk ys S2=>Pre S S2∧S2[S.length]?=some (.lst ys)∧ys=(List.range k).map λ_=>D.bl true) (λK hK=>zbJ hK) ⟨by omega,by omega⟩ (λk ys S2 ⟨_,e,z⟩=>⟨e,by rw[z,Vac,Vav]⟩) ⟨zaM Pre.refl _,zan _ _,rfl⟩ (λk ys S2 K hk ⟨pr,ey,z⟩ hK=>?_) (λys S2 ⟨pr,ey,z⟩=>?_)
     ·rw[Vas] at hk
      have e1:=Vab (show k<ds.length by omega)
      have e2:=Vab hk
      have e3:=Vab (show k<xs.length by omega)
      refine zco e1 ?_
      refine zco e2 ?_
      refine⟨⟨xs[k],(f k _ _ e3 e1).pre pr,(f' k _ _ e3 e2).pre pr⟩,λT pT=>hK _ T (pT _ _ ey) ⟨zbi (λi o e=>pT _ _ (pr _ _ e)) (Vaa _),zbh (pT _ _ ey),?_⟩⟩
      rw[z,VaA,Vat]
      rfl
     ·refine zbY (bs:=(List.range ((es.length:Nat):Int).toNat).map λ_=>true) ey (by rw[z]; exact zcl _) ?_
      rw[zcg]
      exact h _ pr
   | @l _ a xs ds ha _ z9 l f=>
    cases hy with
    | @l _ b _ es hb _ _ l' f'=>
     try dsimp only[zaE]
     refine za4 (n:=b) (λK hK=>by exact hK) hb ?_
     refine zba ?_
     try dsimp only[zaE]
     refine za4 (n:=b) (λK hK=>by exact hK) hb ?_
     refine za4 (n:=a) (λK hK=>by exact hK) ha ?_
     refine zbl ?_
     refine zam ?_
     refine za4 (n:=b) (λK hK=>by exact hK) hb ?_
     refine za4 (n:=a) (λK hK=>by exact hK) ha ?_
     refine zbl ?_
     refine zam ?_
     refine zbo ha ?_
     refine zbo hb ?_
     refine zcu (by omega) ?_
     refine zam ?_
     refine zcE (j:=(es.length:Nat)) (S1:=S) (λk ys S2=>Pre S S2∧S2[S.length]?=some (.lst ys)∧ys=(List.range k).map λ_=>D.bl true) (λK hK=>zbo hb hK) ⟨by omega,by omega⟩ (λk ys S2 ⟨_,e,z⟩=>⟨e,by rw[z,Vac,Vav]⟩) ⟨zaM Pre.refl _,zan _ _,rfl⟩ (λk ys S2 K hk ⟨pr,ey,z⟩ hK=>?_) (λys S2 ⟨pr,ey,z⟩=>?_)
     ·rw[Vas] at hk
      have e1:=Vab (show k<ds.length by omega)
      have e2:=Vab hk
      have e3:=Vab (show k<xs.length by omega)
      refine zaO (o:=.lst ds) (pr _ _ ha) (za6 e1) ?_
      refine zaO (o:=.lst es) (pr _ _ hb) (za6 e2) ?_
      refine⟨⟨xs[k],(f k _ _ e3 e1).pre pr,(f' k _ _ e3 e2).pre pr⟩,λT pT=>hK _ T (pT _ _ ey) ⟨zbi (λi o e=>pT _ _ (pr _ _ e)) (Vaa _),zbh (pT _ _ ey),?_⟩⟩
      rw[z,VaA,Vat]
      rfl
     ·refine zbY (bs:=(List.range ((es.length:Nat):Int).toNat).map λ_=>true) ey (by rw[z]; exact zcl _) ?_
      rw[zcg]
      exact h _ pr
  ·exact h.elim⟩)
def ziN (za1:Df K mg "_law_alike" zbC zbc)(zbq:Fk P w K mg base 1 "_law_whole" zci zce)(zah:mg "isinstance"=none)(za5:mg "str"=none)(zaU:mg "int"=none)(zaB:mg "tuple"=none)(zay:mg "list"=none)(zaV:mg "all"=none)(zav:mg "range"=none)(zaq:mg "len"=none)(zcm:Fk P w K mg base 4 "_law_alike" zbc zdC):Fk P w K mg base 5 "_law_alike" zbc zd1:=
 za1.mk' (za2 (k:=4) za1.F zd9 zjC λcdv A outer s H E hr=>⟨_,(zaj (zaJ (PDW.pt (zbP (zbg (zas (zat _ _ (by simp)) rfl zah rfl zay Boot.«list» (dv 1))) (zbT (zbg (zas (zat _ _ (by simp)) rfl zah rfl zaB Boot.«tuple» (dv 1)))))) (zaj (zaJ (PDW.pt (zbP (zaT (zbv hr) (zas (zat _ _ (by simp)) rfl zah rfl zay Boot.«list» (dv 1)) (zas (zat _ _ (by simp)) rfl zah rfl zay Boot.«list» (dv 0)) (zaw _)) (zbT (zaT (zbv hr) (zas (zat _ _ (by simp)) rfl zah rfl zaB Boot.«tuple» (dv 1)) (zas (zat _ _ (by simp)) rfl zah rfl zaB Boot.«tuple» (dv 0)) (zaw _))))) (zai (zap zbN)) zaL) (zaj (zaJ (zaT (zbv hr) (zau (zaz za8) rfl zaq Boot.«len» (zaa (dv 0) zab)) (zau (zaz za8) rfl zaq Boot.«len» (zaa (dv 1) zab)) (zaw _)) (zai (zap zbN)) zaL) (zai (zap (zau (zaz (zdl rfl)) rfl zaV Boot.«all» (zaa (zde (x:="_law_k") (N:=["_law_found","_law_due_here"]) (caps:=[0,1]) (ar:=zak zbC) rfl rfl csc rfl (by decide) rfl zav (zaa (zau (zaz za8) rfl zaq Boot.«len» (zaa (dv 1) zab)) zab) (λ_ _ _ _ _ _=>zbx) (λ_ _ _ _ _ _=>(zc6 zcm (hr.mono (by decide)) zdn rfl (zaa (zaH (dv 1) (dv 0) (λ_ _=>rfl)) (zaa (zaH (dv 2) (dv 0) (λ_ _=>rfl)) zab))))) zab)))))) zaL) (zaj (zaJ (zbg (zas (zat _ _ (by simp)) rfl zah rfl zaU Boot.«int» (dv 1))) (zai (zap (zbM (zaP zbq hr (zaa (dv 0) zab)) (zbH (zbO (zbD hr) (dv 0) (dv 1) (zaw _)))))) zaL) (zai (zap (zbM (zas (zat _ _ (by simp)) rfl zah rfl za5 Boot.«str» (dv 0)) (zbH (zbO (zbD hr) (dv 0) (dv 1) (zaw _)))))))),λds S Q ex h=>by
  unfold zd1 at h
  split at h
  ·rename_i x y
   obtain⟨⟨t,hx,hy⟩,h⟩:=h
   cases hx with
   | i k=>
    cases hy
    try dsimp only[zaE]
    refine zbp (i:=k) (λK hK=>by exact hK) ?_
    refine zbp (i:=k) (λK hK=>by exact hK) ?_
    refine zam ?_
    refine zbp (i:=k) (λK hK=>by exact hK) ?_
    refine zba ?_
    have h:=h S Pre.refl
    have e:decide (k=k)=true:=decide_eq_true rfl
    rw[← e] at h
    exact h
   | s w=>
    cases hy
    try dsimp only[zaE]
    refine za7 (w:=w) (λK hK=>by exact hK) ?_
    refine za7 (w:=w) (λK hK=>by exact hK) ?_
    refine zam ?_
    refine za7 (w:=w) (λK hK=>by exact hK) ?_
    refine zam ?_
    refine za7 (w:=w) (λK hK=>by exact hK) ?_
    have h:=h S Pre.refl
    have e:decide (w=w)=true:=decide_eq_true rfl
    rw[← e] at h
    exact h
   | @t _ xs ds z9 l f=>
    cases hy with
    | @t _ _ es _ l' f'=>
     try dsimp only[zaE]
     refine zaS (xs:=es) (λK hK=>by exact hK) ?_
     refine zaS (xs:=es) (λK hK=>by exact hK) ?_
     refine zba ?_
     try dsimp only[zaE]
     refine zaS (xs:=es) (λK hK=>by exact hK) ?_
     refine zaS (xs:=ds) (λK hK=>by exact hK) ?_
     refine zbl ?_
     refine zam ?_
     refine zaS (xs:=es) (λK hK=>by exact hK) ?_
     refine zaS (xs:=ds) (λK hK=>by exact hK) ?_
     refine zbl ?_
     refine zam ?_
     refine zbJ ?_
     refine zbJ ?_
     refine zcu (by omega) ?_
     refine zam ?_
     refine zcE (j:=(es.length:Nat)) (S1:=S) (λk ys S2=>Pre S S2∧S2[S.length]?=some (.lst ys)∧ys=(List.range k).map λ_=>D.bl true) (λK hK=>zbJ hK) ⟨by omega,by omega⟩ (λk ys S2 ⟨_,e,z⟩=>⟨e,by rw[z,Vac,Vav]⟩) ⟨zaM Pre.refl _,zan _ _,rfl⟩ (λk ys S2 K hk ⟨pr,ey,z⟩ hK=>?_) (λys S2 ⟨pr,ey,z⟩=>?_)
     ·rw[Vas] at hk
      have e1:=Vab (show k<ds.length by omega)
      have e2:=Vab hk
      have e3:=Vab (show k<xs.length by omega)
      refine zco e1 ?_
      refine zco e2 ?_
      refine⟨⟨xs[k],(f k _ _ e3 e1).pre pr,(f' k _ _ e3 e2).pre pr⟩,λT pT=>hK _ T (pT _ _ ey) ⟨zbi (λi o e=>pT _ _ (pr _ _ e)) (Vaa _),zbh (pT _ _ ey),?_⟩⟩
      rw[z,VaA,Vat]
      rfl
     ·refine zbY (bs:=(List.range ((es.length:Nat):Int).toNat).map λ_=>true) ey (by rw[z]; exact zcl _) ?_
      rw[zcg]
      exact h _ pr
   | @l _ a xs ds ha _ z9 l f=>
    cases hy with
    | @l _ b _ es hb _ _ l' f'=>
     try dsimp only[zaE]
     refine za4 (n:=b) (λK hK=>by exact hK) hb ?_
     refine zba ?_
     try dsimp only[zaE]
     refine za4 (n:=b) (λK hK=>by exact hK) hb ?_
     refine za4 (n:=a) (λK hK=>by exact hK) ha ?_
     refine zbl ?_
     refine zam ?_
     refine za4 (n:=b) (λK hK=>by exact hK) hb ?_
     refine za4 (n:=a) (λK hK=>by exact hK) ha ?_
     refine zbl ?_
     refine zam ?_
     refine zbo ha ?_
     refine zbo hb ?_
     refine zcu (by omega) ?_
     refine zam ?_
     refine zcE (j:=(es.length:Nat)) (S1:=S) (λk ys S2=>Pre S S2∧S2[S.length]?=some (.lst ys)∧ys=(List.range k).map λ_=>D.bl true) (λK hK=>zbo hb hK) ⟨by omega,by omega⟩ (λk ys S2 ⟨_,e,z⟩=>⟨e,by rw[z,Vac,Vav]⟩) ⟨zaM Pre.refl _,zan _ _,rfl⟩ (λk ys S2 K hk ⟨pr,ey,z⟩ hK=>?_) (λys S2 ⟨pr,ey,z⟩=>?_)
     ·rw[Vas] at hk
      have e1:=Vab (show k<ds.length by omega)
      have e2:=Vab hk
      have e3:=Vab (show k<xs.length by omega)
      refine zaO (o:=.lst ds) (pr _ _ ha) (za6 e1) ?_
      refine zaO (o:=.lst es) (pr _ _ hb) (za6 e2) ?_
      refine⟨⟨xs[k],(f k _ _ e3 e1).pre pr,(f' k _ _ e3 e2).pre pr⟩,λT pT=>hK _ T (pT _ _ ey) ⟨zbi (λi o e=>pT _ _ (pr _ _ e)) (Vaa _),zbh (pT _ _ ey),?_⟩⟩
      rw[z,VaA,Vat]
      rfl
     ·refine zbY (bs:=(List.range ((es.length:Nat):Int).toNat).map λ_=>true) ey (by rw[z]; exact zcl _) ?_
      rw[zcg]
      exact h _ pr
  ·exact h.elim⟩)
def zlA (za1:Df K mg "_law_alike" zbC zbc)(zbq:Fk P w K mg base 1 "_law_whole" zci zce)(zah:mg "isinstance"=none)(za5:mg "str"=none)(zaU:mg "int"=none)(zaB:mg "tuple"=none)(zay:mg "list"=none)(zaV:mg "all"=none)(zav:mg "range"=none)(zaq:mg "len"=none)(zcm:Fk P w K mg base 5 "_law_alike" zbc zd1):Fk P w K mg base 6 "_law_alike" zbc zer:=
 za1.mk' (za2 (k:=5) za1.F zd9 zk8 λcdv A outer s H E hr=>⟨_,(zaj (zaJ (PDW.pt (zbP (zbg (zas (zat _ _ (by simp)) rfl zah rfl zay Boot.«list» (dv 1))) (zbT (zbg (zas (zat _ _ (by simp)) rfl zah rfl zaB Boot.«tuple» (dv 1)))))) (zaj (zaJ (PDW.pt (zbP (zaT (zbv hr) (zas (zat _ _ (by simp)) rfl zah rfl zay Boot.«list» (dv 1)) (zas (zat _ _ (by simp)) rfl zah rfl zay Boot.«list» (dv 0)) (zaw _)) (zbT (zaT (zbv hr) (zas (zat _ _ (by simp)) rfl zah rfl zaB Boot.«tuple» (dv 1)) (zas (zat _ _ (by simp)) rfl zah rfl zaB Boot.«tuple» (dv 0)) (zaw _))))) (zai (zap zbN)) zaL) (zaj (zaJ (zaT (zbv hr) (zau (zaz za8) rfl zaq Boot.«len» (zaa (dv 0) zab)) (zau (zaz za8) rfl zaq Boot.«len» (zaa (dv 1) zab)) (zaw _)) (zai (zap zbN)) zaL) (zai (zap (zau (zaz (zdl rfl)) rfl zaV Boot.«all» (zaa (zde (x:="_law_k") (N:=["_law_found","_law_due_here"]) (caps:=[0,1]) (ar:=zak zbC) rfl rfl csc rfl (by decide) rfl zav (zaa (zau (zaz za8) rfl zaq Boot.«len» (zaa (dv 1) zab)) zab) (λ_ _ _ _ _ _=>zbx) (λ_ _ _ _ _ _=>(zc6 zcm (hr.mono (by decide)) zdn rfl (zaa (zaH (dv 1) (dv 0) (λ_ _=>rfl)) (zaa (zaH (dv 2) (dv 0) (λ_ _=>rfl)) zab))))) zab)))))) zaL) (zaj (zaJ (zbg (zas (zat _ _ (by simp)) rfl zah rfl zaU Boot.«int» (dv 1))) (zai (zap (zbM (zaP zbq hr (zaa (dv 0) zab)) (zbH (zbO (zbD hr) (dv 0) (dv 1) (zaw _)))))) zaL) (zai (zap (zbM (zas (zat _ _ (by simp)) rfl zah rfl za5 Boot.«str» (dv 0)) (zbH (zbO (zbD hr) (dv 0) (dv 1) (zaw _)))))))),λds S Q ex h=>by
  unfold zer at h
  split at h
  ·rename_i x y
   obtain⟨⟨t,hx,hy⟩,h⟩:=h
   cases hx with
   | i k=>
    cases hy
    try dsimp only[zaE]
    refine zbp (i:=k) (λK hK=>by exact hK) ?_
    refine zbp (i:=k) (λK hK=>by exact hK) ?_
    refine zam ?_
    refine zbp (i:=k) (λK hK=>by exact hK) ?_
    refine zba ?_
    have h:=h S Pre.refl
    have e:decide (k=k)=true:=decide_eq_true rfl
    rw[← e] at h
    exact h
   | s w=>
    cases hy
    try dsimp only[zaE]
    refine za7 (w:=w) (λK hK=>by exact hK) ?_
    refine za7 (w:=w) (λK hK=>by exact hK) ?_
    refine zam ?_
    refine za7 (w:=w) (λK hK=>by exact hK) ?_
    refine zam ?_
    refine za7 (w:=w) (λK hK=>by exact hK) ?_
    have h:=h S Pre.refl
    have e:decide (w=w)=true:=decide_eq_true rfl
    rw[← e] at h
    exact h
   | @t _ xs ds z9 l f=>
    cases hy with
    | @t _ _ es _ l' f'=>
     try dsimp only[zaE]
     refine zaS (xs:=es) (λK hK=>by exact hK) ?_
     refine zaS (xs:=es) (λK hK=>by exact hK) ?_
     refine zba ?_
     try dsimp only[zaE]
     refine zaS (xs:=es) (λK hK=>by exact hK) ?_
     refine zaS (xs:=ds) (λK hK=>by exact hK) ?_
     refine zbl ?_
     refine zam ?_
     refine zaS (xs:=es) (λK hK=>by exact hK) ?_
     refine zaS (xs:=ds) (λK hK=>by exact hK) ?_
     refine zbl ?_
     refine zam ?_
     refine zbJ ?_
     refine zbJ ?_
     refine zcu (by omega) ?_
     refine zam ?_
     refine zcE (j:=(es.length:Nat)) (S1:=S) (λk ys S2=>Pre S S2∧S2[S.length]?=some (.lst ys)∧ys=(List.range k).map λ_=>D.bl true) (λK hK=>zbJ hK) ⟨by omega,by omega⟩ (λk ys S2 ⟨_,e,z⟩=>⟨e,by rw[z,Vac,Vav]⟩) ⟨zaM Pre.refl _,zan _ _,rfl⟩ (λk ys S2 K hk ⟨pr,ey,z⟩ hK=>?_) (λys S2 ⟨pr,ey,z⟩=>?_)
     ·rw[Vas] at hk
      have e1:=Vab (show k<ds.length by omega)
      have e2:=Vab hk
      have e3:=Vab (show k<xs.length by omega)
      refine zco e1 ?_
      refine zco e2 ?_
      refine⟨⟨xs[k],(f k _ _ e3 e1).pre pr,(f' k _ _ e3 e2).pre pr⟩,λT pT=>hK _ T (pT _ _ ey) ⟨zbi (λi o e=>pT _ _ (pr _ _ e)) (Vaa _),zbh (pT _ _ ey),?_⟩⟩
      rw[z,VaA,Vat]
      rfl
     ·refine zbY (bs:=(List.range ((es.length:Nat):Int).toNat).map λ_=>true) ey (by rw[z]; exact zcl _) ?_
      rw[zcg]
      exact h _ pr
   | @l _ a xs ds ha _ z9 l f=>
    cases hy with
    | @l _ b _ es hb _ _ l' f'=>
     try dsimp only[zaE]
     refine za4 (n:=b) (λK hK=>by exact hK) hb ?_
     refine zba ?_
     try dsimp only[zaE]
     refine za4 (n:=b) (λK hK=>by exact hK) hb ?_
     refine za4 (n:=a) (λK hK=>by exact hK) ha ?_
     refine zbl ?_
     refine zam ?_
     refine za4 (n:=b) (λK hK=>by exact hK) hb ?_
     refine za4 (n:=a) (λK hK=>by exact hK) ha ?_
     refine zbl ?_
     refine zam ?_
     refine zbo ha ?_
     refine zbo hb ?_
     refine zcu (by omega) ?_
     refine zam ?_
     refine zcE (j:=(es.length:Nat)) (S1:=S) (λk ys S2=>Pre S S2∧S2[S.length]?=some (.lst ys)∧ys=(List.range k).map λ_=>D.bl true) (λK hK=>zbo hb hK) ⟨by omega,by omega⟩ (λk ys S2 ⟨_,e,z⟩=>⟨e,by rw[z,Vac,Vav]⟩) ⟨zaM Pre.refl _,zan _ _,rfl⟩ (λk ys S2 K hk ⟨pr,ey,z⟩ hK=>?_) (λys S2 ⟨pr,ey,z⟩=>?_)
     ·rw[Vas] at hk
      have e1:=Vab (show k<ds.length by omega)
      have e2:=Vab hk
      have e3:=Vab (show k<xs.length by omega)
      refine zaO (o:=.lst ds) (pr _ _ ha) (za6 e1) ?_
      refine zaO (o:=.lst es) (pr _ _ hb) (za6 e2) ?_
      refine⟨⟨xs[k],(f k _ _ e3 e1).pre pr,(f' k _ _ e3 e2).pre pr⟩,λT pT=>hK _ T (pT _ _ ey) ⟨zbi (λi o e=>pT _ _ (pr _ _ e)) (Vaa _),zbh (pT _ _ ey),?_⟩⟩
      rw[z,VaA,Vat]
      rfl
     ·refine zbY (bs:=(List.range ((es.length:Nat):Int).toNat).map λ_=>true) ey (by rw[z]; exact zcl _) ?_
      rw[zcg]
      exact h _ pr
  ·exact h.elim⟩)
def zjy  (zeV:Df K mg "_law_cell_at" zeX zd5)(zaq:mg "len"=none):Fk P w K mg base 1 "_law_cell_at" zd5 zdP:=
 zeV.mk' (za2 (k:=0) zeV.F zkJ (zkS) λcdv A outer s H E hr=>⟨_,(zaj (zaJ (zaT zgs (dv 1) (zau za8 rfl zaq Boot.«len» (zaa (dv 0) zab)) (zaw _)) (zai (zap (zbk (dv 0) (dv 1) (λ_ _=>rfl)))) zaL) (zai (zap zao))),λds S Q ex h=>by
  unfold zdP at h
  split at h
  ·rename_i n k
   obtain⟨ns,h1,h2,h3⟩:=h
   simp only[zaE,zbU,zhl,dRet,dRetN,dIf,zdT,zfk,dC,dOp,dUn,wI,wI0,wIf,zfX,dNot,dAnd,dOr,zh5,dOrV,zic,dIfE,zkI,dNil,zig,dTup,dLst,wIx,zfw,zfG,zim,wAbs,zcV,zdg,wEq,wNe,wIsN,zh4,wNeg,zdm,Vak,List.map_nil,VaR,List.length_nil,List.cons_append,List.nil_append,Nat.reduceAdd,Nat.reduceSub,List.replicate,List.getElem?_cons_zero,List.getElem?_cons_succ,List.set_cons_zero,List.set_cons_succ,ite_true,ite_false,if_true,if_false,Nat.reduceLeDiff,eq_self,p40,p41,p20,zdZ,powB,Int.reduceLT,Int.reduceLE,Int.reduceNeg,decide_true,Bool.and_self,Bool.and_true,Bool.true_and,L3.eq1,L3.eq2,L3.eqT,L3.eqF,L3.eqL]
   have hA:lAt S n=some (.frz (ns.map D.int)):=zaQ h1 rfl
   simp only[hA,zad,Vac]
   refine zdG (λc=>?_) (λc=>?_)
   ·have c':k<(ns.length:Int):=of_decide_eq_true c
    have hk:k.toNat<ns.length:=(by omega)
    have e:atI (ns.map D.int) k=some (.int ns[k.toNat]):=by
     have z:=za6 (xs:=ns.map D.int) (j:=k.toNat) (v:=.int ns[k.toNat]) (by simp[hk])
     rw[show ((k.toNat:Nat):Int)=k by omega] at z
     exact z
    simp only[e]
    rw[Vap,Vab hk] at h3
    exact h3
   ·have c':¬ k<(ns.length:Int):=λz=>c (decide_eq_true z)
    rw[Vap,Va0 (by omega)] at h3
    exact h3
  ·exact h.elim⟩)
def zjD  (zfF:Df K mg "_law_far" zeh zew):Fk P w K mg base 1 "_law_far" zew zdJ:=
 zfF.mk' (za2 (k:=0) zfF.F zlN (zlQ) λcdv A outer s H E hr=>⟨_,(zai (zap (zln (x1:="_law_low") (x2:="_law_high") (N:=["_law_moved","_law_factor"]) (caps:=[2,1]) (ar:=zak zeh) rfl rfl cscG rfl rfl rfl (by decide) (dv 0) (λ_ _ _ _ _ _=>(zcO (zaa (zaD zid (zaD zcp (dv 0) (dv 3)) (dv 2)) (zaa (zaD zid (zaD zcp (dv 1) (dv 3)) (dv 2)) zab))))))),λds S Q ex h=>by
  unfold zdJ at h
  split at h
  ·rename_i m f v
   obtain⟨ps,hm,l9,sz,sf,h⟩:=h
   refine zjB (n:=m) (S1:=S) (ps:=ps) (λp=>frD (p.1*f-v,p.2*f-v)) (λK hK=>by exact hK) hm (by omega) (λp hp S2 K pr hK=>⟨zh6 (sz p hp).1 sf,zh6 (sz p hp).2 sf,hK⟩) ?_
   rw[Vaw] at h
   exact h
  ·exact h.elim⟩)
def zjm  (ze0:Df K mg "_law_touch" zfA zex)(zav:mg "range"=none)(zaq:mg "len"=none):Fk P w K mg base 1 "_law_touch" zex zdR:=
 ze0.mk' (za2 (k:=0) ze0.F zha (ziY) λcdv A outer s H E hr=>⟨_,(zaj (zeQ (i:=2) PassesOwn.never rfl zha.nd rfl (Or.inl rfl) rfl zav (zaa (zau (zaz za8) rfl zaq Boot.«len» (zaa (dv 0) zab)) zab) (zai (zaJ (PDW.pt (zbP (zaT zgs (zbk (zaH (dv 0) (dv 2) (λ_ _=>rfl)) zao (λ_ _=>rfl)) (zbk (zaH (dv 1) (dv 2) (λ_ _=>rfl)) zao (λ_ _=>rfl)) (zaw _)) (zbT (zaT zgs (zbk (zaH (dv 1) (dv 2) (λ_ _=>rfl)) zao (λ_ _=>rfl)) (zbk (zaH (dv 0) (dv 2) (λ_ _=>rfl)) zao (λ_ _=>rfl)) (zaw _))))) (zai (zap zbN)) zaL))) (zai (zap zbN))),λds S Q ex h=>by
  unfold zdR at h
  split at h
  ·rename_i m n
   obtain⟨us,vs,hu,hv,l,l9,su,sv,h⟩:=h
   refine zbo hu ?_
   rw[Vac]
   have ti:=zlX su sv
   refine⟨⟨by omega,by omega⟩,λk dl' S'=>S=S'∧k≤us.length∧(∀i:Nat,i<k→(gt vs (i:Int)).1≤(gt us (i:Int)).2∧(gt us (i:Int)).1≤(gt vs (i:Int)).2)∧∃u:Option D,dl'=[some (.ref m),some (.ref n),u],⟨rfl,Vaj _,λi hi=>by omega,_,rfl⟩,?_⟩
   rintro k dl' S' ⟨rfl,hk,hd,u,rfl⟩
   rw[Vas]
   have no:∀i:Nat,i<us.length→¬((gt vs (i:Int)).1≤(gt us (i:Int)).2∧(gt us (i:Int)).1≤(gt vs (i:Int)).2)→zbL us vs=false:=λi hi hn=>by
    cases e:zbL us vs
    ·rfl
    ·have z:=ti.mp e i us[i] vs[i] (Vab hi) (Vab (by omega))
     rw[zeG (Vab hi),zeG (Vab (show i<vs.length by omega))] at hn
     exact absurd z hn
   refine zdG (λc=>?_) (λc=>?_)
   ·have kv:inR ((vs.length:Nat):Int) (k:Int):=⟨by omega,by omega⟩
    have ku:inR ((us.length:Nat):Int) (k:Int):=⟨by omega,by omega⟩
    refine zaO (o:=.lst (us.map frD)) hu (zez ku) ?_
    refine zaO (o:=.lst (vs.map frD)) hv (zez kv) ?_
    refine ifD (λw1=>?_) (λw1=>?_)
    ·rw[no k c (λz=>by omega)] at h
     exact h
    refine zaO (o:=.lst (vs.map frD)) hv (zez kv) ?_
    refine zaO (o:=.lst (us.map frD)) hu (zez ku) ?_
    refine ifD (λw2=>?_) (λw2=>?_)
    ·rw[no k c (λz=>by omega)] at h
     exact h
    refine⟨rfl,c,λi hi=>?_,_,rfl⟩
    by_cases e:i=k
    ·subst e
     exact⟨by omega,by omega⟩
    ·exact hd i (by omega)
   ·have e:zbL us vs=true:=ti.mpr λi p q hp hq=>by
     have hi:=(Vad.mp hp).1
     have z:=hd i (by omega)
     rw[zeG hp,zeG hq] at z
     exact z
    rw[e] at h
    exact h
  ·exact h.elim⟩)
def zlP  (zeS:Df K mg "_law_marks" zdw zd3)(zgB:Fk P w K mg base 1 "_law_touch" zex zdR)(zbR:mg "enumerate"=none)(zbf:mg "min"=none)(zav:mg "range"=none):Fk P w K mg base 2 "_law_marks" zd3 zd4:=
 zeS.mk' (za2 (k:=1) zeS.F zdv (ziK) λcdv A outer s H E hr=>⟨_,(zaj (za0 (i:=1) zdv.nd rfl (Or.inr rfl) (zbV zab)) (zaj (zhZ (is:=[2,3]) PassesOwn.never rfl zdv.nd (Nms.cons (i:=2) rfl (Or.inl rfl) (by first | exact .inl rfl | exact .inr rfl) (Nms.cons (i:=3) rfl (Or.inr rfl) (by first | exact .inl rfl | exact .inr rfl) Nms.nil)) rfl rfl zbR Boot.«enumerate» (zaa (dv 0) zab) (zaj (za0 (i:=4) zdv.nd rfl (Or.inr rfl) (zaD zgb (zde (x:="_law_k") (N:=["_law_marks_here","_law_box_here","_law_boxes"]) (caps:=[1,3,0]) (ar:=zak zdw) rfl rfl csc rfl (by decide) rfl zav (zaa (dv 2) zab) (λ_ _ _ _ _ _=>zhL (zbg (zaP zgB hr (zaa (zaH (dv 3) (dv 0) (λ_ _=>rfl)) (zaa (dv 2) zab))))) (λ_ _ _ _ _ _=>(zaH (dv 1) (dv 0) (λ_ _=>rfl)))) (zbV (zaa (dv 2) zab)))) (zaj (za0 (i:=5) zdv.nd rfl (Or.inr rfl) (zau (zaz (zeU rfl)) rfl zbf Boot.«min» (zaa (dv 4) zab))) (zai (za0 (i:=1) zdv.nd rfl (Or.inr rfl) (zaD zgb (zdk (x:="_law_mark") (N:=["_law_least","_law_mine"]) (caps:=[5,4]) (ar:=zak zdw) rfl rfl csc rfl (by decide) (dv 1) (λ_ _ _ _ _ _=>zbx) (λ_ _ _ _ _ _=>(ziW (zaT (zlt hr) (dv 0) (dv 2) rfl) (dv 1) (dv 0)))) (zbV (zaa (dv 5) zab)))))))) (zai (zap (dv 1))))),λds S Q ex h=>by
  unfold zd4 at h
  split at h
  ·rename_i m
   obtain⟨ds,B,q,hm,rows,l3,l4,lq,val,h⟩:=h
   have inB':∀i:Nat,i<B.length→B.getD i []∈B:=λi hi=>by rw[Vap,Vab hi]; exact VaC ..
   refine zhb (n:=m) (S1:=S++[Ob.lst []]) (xs:=ds) (λk dl' S'=>k≤B.length∧Pre S S'∧∃ma:Nat,S.length≤ma∧S'[ma]?=some (.lst ((zac (TB B) k).map wtD))∧∃u2 u3 u4 u5:Option D,dl'=[some (.ref m),some (.ref ma),u2,u3,u4,u5]) (λK hK=>by exact hK) (λk dl' S' w=>w.2.1 _ _ hm) ⟨Vaj _,Pre.refl.push,S.length,Vaa _,zan _ _,_,_,_,_,rfl⟩ ?_ ?_
   ·rintro k x dl' S' nx ct hx ⟨hk,pr,ma,lma,hma,u2,u3,u4,u5,rfl⟩ hn
    have lk:k<B.length:=by have:=(Vad.mp hx).1; rw[rows.1] at this; exact this
    obtain⟨ab,eb,hb⟩:=zcN rows lk
    have exx:x=.ref ab:=by
     have z:=za6 (j:=k) hx
     rw[eb] at z
     exact(Option.some.inj z).symm
    subst exx
    have mlen:=zcQ (TB B) k
    refine zh0 (j:=(k:Int)) (S1:=S') (λi=>TB B i k) (λi=>wtD ((zac (TB B) k).getD i 0)) (λK hK=>by exact hK) ⟨by omega,by omega⟩ (λi hi S2 K p2 hK=>?_) (λi hi _ S2 K p2 hK=>?_) ?_
    ·rw[Vas] at hi
     obtain⟨ai,ei,hai⟩:=zcN rows (show i<B.length by omega)
     have P2:Pre S S2:=λx o e=>p2 _ _ (pr _ _ e)
     refine zaO (o:=.lst ds) (P2 _ _ hm) ei ?_
     exact⟨B.getD i [],B.getD k [],P2 _ _ hai,P2 _ _ hb,by rw[lq _ (inB' i (by omega)),lq _ (inB' k lk)],by have:=l4 _ (inB' i (by omega)); omega,val _ (inB' i (by omega)),val _ (inB' k lk),hK⟩
    ·rw[Vas] at hi
     refine zaO (o:=.lst ((zac (TB B) k).map wtD)) (p2 _ _ hma) (za6 (j:=i) (by show ((zac (TB B) k).map wtD)[i]?=_; rw[Vae,zaG (d:=0) (show i<(zac (TB B) k).length by omega)]; rfl)) ?_
     exact hK
    rw[Vas]
    have em:((List.range k).filter λi=>TB B i k).map (λi=>wtD ((zac (TB B) k).getD i 0))++[.int (k:Int)]=(zag (TB B) (zac (TB B) k)).map wtD:=by
     unfold zag
     rw[mlen,Vat,Vaw]
     rfl
    have ml:(zag (TB B) (zac (TB B) k)).length≤31:=by
     have z:=Va1 (λi=>TB B i (zac (TB B) k).length) (List.range (zac (TB B) k).length)
     rw[Vav,mlen] at z
     unfold zag
     rw[Vaq,Vac,mlen]
     show _+1≤31
     omega
    have ll:=congrArg List.length em
    simp only[Vaq,Vac,VaR,List.length_nil] at ll
    refine zgw (xs:=((List.range k).filter λi=>TB B i k).map (λi=>wtD ((zac (TB B) k).getD i 0))) (ys:=[.int (k:Int)]) (zaR (zan _ _)) (zan _ _) (by rw[Vac]; show (List.filter (λi=>TB B i k) (List.range k)).length+1≤1000; omega) ?_
    rw[em]
    refine zgj (n:=(S'++[Ob.lst (((List.range k).filter λi=>TB B i k).map (λi=>wtD ((zac (TB B) k).getD i 0)))]++[Ob.lst [.int (k:Int)]]).length) (o:=.lst ((zag (TB B) (zac (TB B) k)).map wtD)) (xs:=(zag (TB B) (zac (TB B) k)).map λ(x:Nat)=>(x:Int)) (zan _ _) (zfL _) (by simp[zag]) λv hv hle=>?_
    obtain⟨l,hl,rfl⟩:=Vaf.mp hv
    have el:l=zbG (zag (TB B) (zac (TB B) k)):=by
     obtain⟨b1,b2⟩:=zfb _ (zgm (TB B) (zac (TB B) k))
     have c1:=b2 l hl
     have c2:((l:Nat):Int)≤((zbG (zag (TB B) (zac (TB B) k)):Nat):Int):=hle _ (Vaf.mpr ⟨_,b1,rfl⟩)
     omega
    have pX:Pre S' (S'++[Ob.lst (((List.range k).filter λi=>TB B i k).map (λi=>wtD ((zac (TB B) k).getD i 0)))]++[Ob.lst [.int (k:Int)]]++[Ob.lst ((zag (TB B) (zac (TB B) k)).map wtD)]):=zaM (zaM (zaM Pre.refl _) _) _
    have hmi:=zan (S'++[Ob.lst (((List.range k).filter λi=>TB B i k).map (λi=>wtD ((zac (TB B) k).getD i 0)))]++[Ob.lst [.int (k:Int)]]) (.lst ((zag (TB B) (zac (TB B) k)).map wtD))
    generalize (S'++[Ob.lst (((List.range k).filter λi=>TB B i k).map (λi=>wtD ((zac (TB B) k).getD i 0)))]++[Ob.lst [.int (k:Int)]]).length=mi at hmi ⊢
    generalize S'++[Ob.lst (((List.range k).filter λi=>TB B i k).map (λi=>wtD ((zac (TB B) k).getD i 0)))]++[Ob.lst [.int (k:Int)]]++[Ob.lst ((zag (TB B) (zac (TB B) k)).map wtD)]=U at pX hmi ⊢
    refine zdB (n:=ma) (S1:=U) (o:=.lst ((zac (TB B) k).map wtD)) (λd=>match d with | .int x=>if x.toNat∈zag (TB B) (zac (TB B) k) then .int (l:Int) else .int x | _=>.non) (λK hK=>by exact hK) (pX _ _ hma) (by show ((zac (TB B) k).map wtD).length≤1000; rw[Vac,mlen]; omega) (λx hx S2 K p2 hK=>?_) ?_
    ·obtain⟨y,hy,rfl⟩:=Vaf.mp (show x∈(zac (TB B) k).map wtD from hx)
     have hK':K (if y∈zag (TB B) (zac (TB B) k) then D.int (l:Int) else D.int (y:Int)) S2:=hK
     refine zjE (x:=y) (p2 _ _ hmi) ?_
     by_cases c:y∈zag (TB B) (zac (TB B) k)
     ·rw[if_pos c] at hK'
      rw[decide_eq_true c]
      exact hK'
     ·rw[if_neg c] at hK'
      rw[decide_eq_false c]
      exact hK'
    have en:(zad (.lst ((zac (TB B) k).map wtD))).map (λd=>match d with | .int x=>if x.toNat∈zag (TB B) (zac (TB B) k) then .int (l:Int) else .int x | _=>.non)++[.int (l:Int)]=(zac (TB B) (k+1)).map wtD:=by
     show ((zac (TB B) k).map wtD).map _++_=(mkS (zbG (zag (TB B) (zac (TB B) k))) (zag (TB B) (zac (TB B) k)) (zac (TB B) k)).map wtD
     rw[← el]
     unfold mkS
     rw[Vat,Vaw,Vaw]
     congr 1
     refine VaG λy _=>?_
     show (if y∈zag (TB B) (zac (TB B) k) then D.int (l:Int) else D.int (y:Int))=wtD (if y∈zag (TB B) (zac (TB B) k) then l else y)
     split <;> rfl
    refine zgw (xs:=(zad (.lst ((zac (TB B) k).map wtD))).map (λd=>match d with | .int x=>if x.toNat∈zag (TB B) (zac (TB B) k) then .int (l:Int) else .int x | _=>.non)) (ys:=[.int (l:Int)]) (zaR (zan _ _)) (zan _ _) (by rw[Vac]; show ((zac (TB B) k).map wtD).length+1≤_; rw[Vac,mlen]; omega) ?_
    rw[en]
    have lS:=zc0 pr
    have lU:=zc0 pX
    refine hn _ _ ⟨by omega,zaM (zaM (zaM (λx o e=>pX _ _ (pr _ _ e)) _) _) _,_,?_,zan _ _,_,_,_,_,rfl⟩
    simp
    omega
   ·rintro dl' S' ⟨_,pr,ma,lma,hma,u2,u3,u4,u5,rfl⟩
    rw[rows.1] at hma
    exact h _ _ pr lma hma
  ·exact h.elim⟩)
def zlF  (zfC:Df K mg "_law_due" zcP zdK)(zgh:Fk P w K mg base 2 "_law_marks" zd3 zd4)(zav:mg "range"=none)(zaq:mg "len"=none)(zbz:mg "max"=none)(zbf:mg "min"=none):Fk P w K mg base 3 "_law_due" zdK zdI:=
 zfC.mk' (za2 (k:=2) zfC.F zct (zls) λcdv A outer s H E hr=>⟨_,(zaj (za0 (i:=2) zct.nd rfl (Or.inr rfl) (zaP zgh hr (zaa (dv 0) zab))) (zaj (za0 (i:=3) zct.nd rfl (Or.inl rfl) (zbV zab)) (zaj (zeQ (i:=4) PassesOwn.never rfl zct.nd rfl (Or.inr rfl) rfl zav (zaa (zau (zaz za8) rfl zaq Boot.«len» (zaa (dv 0) zab)) zab) (zai (zaJ (zaT (zbD hr) (zaH (dv 2) (dv 4) (λ_ _=>rfl)) (dv 4) (zaw _)) (zaj (zky (x:="_law_k") (N:=["_law_at","_law_marks_here"]) (caps:=[4,2]) (ar:=zak zcP) rfl rfl csc rfl (by decide) (i:=5) zct.nd rfl rfl rfl zav (zaa (zau (zaz za8) rfl zaq Boot.«len» (zaa (dv 0) zab)) zab) (λ_ _ _ _ _ _=>zhL (zaT (zbD hr) (zaH (dv 2) (dv 0) (λ_ _=>rfl)) (dv 1) (zaw _))) (λ_ _ _ _ _ _=>(dv 0))) (zaj (za0 (i:=6) zct.nd rfl (Or.inl rfl) (zbV zab)) (zaj (zeQ (i:=7) PassesOwn.never rfl zct.nd rfl (Or.inr rfl) rfl zav (zaa (dv 1) zab) (zaj (za0 (i:=8) zct.nd rfl (Or.inl rfl) (zau (zaz (zeU rfl)) rfl zbf Boot.«min» (zaa (zdk (x:="_law_number") (N:=["_law_k","_law_boxes"]) (caps:=[7,0]) (ar:=zak zcP) rfl rfl csc rfl (by decide) (dv 5) (λ_ _ _ _ _ _=>zbx) (λ_ _ _ _ _ _=>(zbk (zaH (zaH (dv 2) (dv 0) (λ_ _=>rfl)) (dv 1) (λ_ _=>rfl)) zao (λ_ _=>rfl)))) zab))) (zai (zem (zfH (dv 6) (zcO (zaa (dv 8) (zaa (zau (zaz (zgx rfl)) rfl zbz Boot.«max» (zaa (zdk (x:="_law_number") (N:=["_law_k","_law_boxes"]) (caps:=[7,0]) (ar:=zak zcP) rfl rfl csc rfl (by decide) (dv 5) (λ_ _ _ _ _ _=>zbx) (λ_ _ _ _ _ _=>(zbk (zaH (zaH (dv 2) (dv 0) (λ_ _=>rfl)) (dv 1) (λ_ _=>rfl)) zao (λ_ _=>rfl)))) zab)) zab)))))))) (zai (zem (zfH (dv 3) (zcO (zaa (dv 5) (zaa (dv 6) zab))))))))) zaL))) (zai (zap (dv 3)))))),λds S Q ex h=>by
  unfold zdI at h
  split at h
  ·rename_i m qi
   obtain⟨ds,B,q,rfl,q4,hm,rows,l3,l4,lq,val,h⟩:=h
   have inB':∀i:Nat,i<B.length→B.getD i []∈B:=λi hi=>by rw[Vap,Vab hi]; exact VaC ..
   refine⟨ds,B,q,hm,rows,l3,l4,lq,val,λT ma pT lma hma=>?_⟩
   have mlen:=zcQ (TB B) B.length
   have mok:=zdu (TB B) B.length
   have eM:zbm B=(zal (zac (TB B) B.length)).map λv=>(cls (zac (TB B) B.length) v,zbB ((cls (zac (TB B) B.length) v).map λi=>B.getD i [])):=rfl
   have hcl:∀v,cls (zac (TB B) B.length) v=(List.range B.length).filter λk=>(zac (TB B) B.length).getD k 0==v:=λv=>by unfold cls; rw[mlen]
   have hre:zal (zac (TB B) B.length)=(List.range B.length).filter λv=>(zac (TB B) B.length).getD v 0==v:=by unfold zal; rw[mlen]
   generalize zac (TB B) B.length=M at hma mlen mok eM hcl hre
   have hmT:=pT _ _ hm
   refine zbo (zaR hmT) ?_
   rw[rows.1]
   have lt9:=zbX hma
   refine⟨⟨by omega,by omega⟩,λv dl' S'=>v≤B.length∧Pre T S'∧(∃es:List D,S'[T.length]?=some (.lst es)∧zbb S' T.length es (((List.range v).filter λv=>M.getD v 0==v).map λv=>(cls M v,zbB ((cls M v).map λi=>B.getD i []))))∧∃u4 u5 u6 u7 u8:Option D,dl'=[some (.ref m),some (.int (q:Nat)),some (.ref ma),some (.ref T.length),u4,u5,u6,u7,u8],⟨Vaj _,Pre.refl.push,⟨[],zan _ _,zbb.nil⟩,_,_,_,_,_,rfl⟩,?_⟩
   rintro v dl' S' ⟨hv,pr,⟨es,hes,isl⟩,u4,u5,u6,u7,u8,rfl⟩
   rw[Vas]
   have PS:Pre S S':=λx o e=>pr _ _ (pT _ _ e)
   refine zdG (λc=>?_) (λc=>?_)
   ·have atM:∀i:Nat,i<B.length→atI (M.map wtD) (i:Int)=some (wtD (M.getD i 0)):=λi hi=>za6 (j:=i) (by rw[Vae,zaG (d:=0) (show i<M.length by omega)]; rfl)
    refine zaO (o:=.lst (M.map wtD)) (pr _ _ hma) (atM v c) ?_
    have les:es.length≤30:=by
     rw[isl.1,Vac]
     have z:=Va1 (λv=>M.getD v 0==v) (List.range v)
     rw[Vav] at z
     omega
    refine ifD (λe=>?_) (λe=>?_)
    ·have e':M.getD v 0=v:=by
      have:((M.getD v 0:Nat):Int)=(v:Int):=e
      omega
     have hvr:v∈zal M:=by rw[hre]; exact VaI.mpr ⟨VaE.mpr c,beq_iff_eq.mpr e'⟩
     obtain⟨xs9,e9⟩:=zeq mok hvr
     have cl:=zdE M v
     have inn:∀i∈cls M v,i<B.length:=λi hi=>by have:=(zbu.mp hi).1; omega
     refine zc2 (λdl2 S2=>S2=S'++[Ob.lst ((cls M v).map wtD)]∧dl2=[some (.ref m),some (.int (q:Nat)),some (.ref ma),some (.ref T.length),some (.int (v:Int)),some (.ref S'.length),u6,u7,u8]) (λnx hn=>?_) ?_
     ·refine zh0 (j:=((B.length:Nat):Int)) (S1:=S') (λi=>M.getD i 0==v) (λi=>wtD i) (λK hK=>?_) ⟨by omega,by omega⟩ (λi hi S2 K p2 hK=>?_) (λi hi _ S2 K p2 hK=>by exact hK) ?_
      ·refine zbo (PS _ _ hm) ?_
       rw[rows.1]
       exact hK
      ·rw[Vas] at hi
       refine zaO (o:=.lst (M.map wtD)) (p2 _ _ (pr _ _ hma)) (atM i hi) ?_
       have ed:(decide (((M.getD i 0:Nat):Int)=(v:Int)))=(M.getD i 0==v):=by
        by_cases c9:M.getD i 0=v
        ·rw[decide_eq_true (by omega),beq_iff_eq.mpr c9]
        ·rw[decide_eq_false (by omega),beq_eq_false_iff_ne.mpr c9]
       rw[← ed] at hK
       exact hK
      ·rw[Vas,← hcl v]
       exact hn _ _ ⟨rfl,rfl⟩
     rintro dl2 S2 ⟨rfl,rfl⟩
     have hnu:=zan S' (.lst ((cls M v).map wtD))
     have pN:Pre S' (S'++[Ob.lst ((cls M v).map wtD)]):=Pre.refl.push
     have lN:(S'++[Ob.lst ((cls M v).map wtD)]).length=S'.length+1:=by simp
     generalize S'++[Ob.lst ((cls M v).map wtD)]=V at hnu pN lN ⊢
     obtain⟨hu1,hu2⟩:=zlw (q:=q) (bs:=(cls M v).map λi=>B.getD i []) (by rw[e9]; simp) (λb hb=>by
      obtain⟨i,hi,rfl⟩:=Vaf.mp hb
      exact lq _ (inB' i (inn i hi)))
     have lS:=zc0 pr
     have lhe:=zbX hes
     refine zlq (λdl2 S2=>Pre V S2∧S2[V.length]?=some (.lst ((zbB ((cls M v).map λi=>B.getD i [])).map frD))∧∃u7 u8:Option D,dl2=[some (.ref m),some (.int (q:Nat)),some (.ref ma),some (.ref T.length),some (.int (v:Int)),some (.ref S'.length),some (.ref V.length),u7,u8]) (λnx hn=>?_) ?_
     ·refine⟨⟨by omega,by omega⟩,λk dl2 S2=>k≤q∧Pre V S2∧S2[V.length]?=some (.lst (((zbB ((cls M v).map λi=>B.getD i [])).take k).map frD))∧∃u7 u8:Option D,dl2=[some (.ref m),some (.int (q:Nat)),some (.ref ma),some (.ref T.length),some (.int (v:Int)),some (.ref S'.length),some (.ref V.length),u7,u8],⟨Vaj _,Pre.refl.push,zan _ _,_,_,rfl⟩,?_⟩
      rintro k dl2 S2 ⟨hk,p2,hen,u7,u8,rfl⟩
      rw[Vas]
      refine zdG (λck=>?_) (λck=>?_)
      ·have P2:Pre S S2:=λx o e=>p2 _ _ (pN _ _ (PS _ _ e))
       have item:∀(i:Nat),i<B.length→∀(S3:Sto),Pre S2 S3→∃a,atI ds (i:Int)=some (.ref a)∧S3[a]?=some (.lst ((B.getD i []).map frD))∧atI ((B.getD i []).map frD) (k:Int)=some (frD ((B.getD i []).getD k (0,0))):=λi hi S3 p3=>by
        obtain⟨a,ea,ha⟩:=zcN rows hi
        exact⟨a,ea,p3 _ _ (P2 _ _ ha),za6 (j:=k) (by rw[Vae,zaG (d:=((0,0):Int×Int)) (show k<(B.getD i []).length by rw[lq _ (inB' i hi)]; exact ck)]; rfl)⟩
       obtain⟨hA,hB,hC,hD⟩:=hu2 k ck
       have lc:((cls M v).map wtD).length≤1000:=by rw[Vac]; omega
       refine zdB (n:=S'.length) (S1:=S2) (o:=.lst ((cls M v).map wtD)) (λd=>match d with | .int i=>.int ((B.getD i.toNat []).getD k (0,0)).1 | _=>.non) (λK hK=>by exact hK) (p2 _ _ hnu) lc (λx hx S3 K p3 hK=>?_) ?_
       ·obtain⟨i,hi,rfl⟩:=Vaf.mp (show x∈(cls M v).map wtD from hx)
        obtain⟨a,ea,ha,ek⟩:=item i (inn i hi) S3 p3
        refine zaO (o:=.lst ds) (p3 _ _ (P2 _ _ hm)) ea ?_
        refine zaO (o:=.lst ((B.getD i []).map frD)) ha ek ?_
        exact hK
       have e1:(zad (.lst ((cls M v).map wtD))).map (λd=>match d with | .int i=>.int ((B.getD i.toNat []).getD k (0,0)).1 | _=>.non)=((cls M v).map λi=>((B.getD i []).getD k (0,0)).1).map D.int:=by
        show ((cls M v).map wtD).map _=_
        rw[Vaw,Vaw]
        rfl
       rw[e1]
       refine zgj (n:=S2.length) (o:=.lst (((cls M v).map λi=>((B.getD i []).getD k (0,0)).1).map D.int)) (xs:=(cls M v).map λi=>((B.getD i []).getD k (0,0)).1) (zan _ _) (zfY _) (by rw[e9]; simp) λlo hlo hle=>?_
       refine ziP (n:=V.length) (xs:=((zbB ((cls M v).map λi=>B.getD i [])).take k).map frD) (λK hK=>by exact hK) (zaR hen) (λK hK=>?_) (by rw[Vac,VaK]; omega)
       refine zdB (n:=S'.length) (S1:=S2++[Ob.lst (((cls M v).map λi=>((B.getD i []).getD k (0,0)).1).map D.int)]) (o:=.lst ((cls M v).map wtD)) (λd=>match d with | .int i=>.int ((B.getD i.toNat []).getD k (0,0)).2 | _=>.non) (λK hK=>by exact hK) (zaR (p2 _ _ hnu)) lc (λx hx S3 K p3 hK=>?_) ?_
       ·obtain⟨i,hi,rfl⟩:=Vaf.mp (show x∈(cls M v).map wtD from hx)
        have p4:Pre S2 S3:=λx o e=>p3 _ _ (zaR e)
        obtain⟨a,ea,ha,ek⟩:=item i (inn i hi) S3 p4
        refine zaO (o:=.lst ds) (p4 _ _ (P2 _ _ hm)) ea ?_
        refine zaO (o:=.lst ((B.getD i []).map frD)) ha ek ?_
        exact hK
       have e2:(zad (.lst ((cls M v).map wtD))).map (λd=>match d with | .int i=>.int ((B.getD i.toNat []).getD k (0,0)).2 | _=>.non)=((cls M v).map λi=>((B.getD i []).getD k (0,0)).2).map D.int:=by
        show ((cls M v).map wtD).map _=_
        rw[Vaw,Vaw]
        rfl
       rw[e2]
       refine zgj (n:=(S2++[Ob.lst (((cls M v).map λi=>((B.getD i []).getD k (0,0)).1).map D.int)]).length) (o:=.lst (((cls M v).map λi=>((B.getD i []).getD k (0,0)).2).map D.int)) (xs:=(cls M v).map λi=>((B.getD i []).getD k (0,0)).2) (zan _ _) (zfY _) (by rw[e9]; simp) λhi hhi hge=>?_
       have eh:(lo,hi)=(zbB ((cls M v).map λi=>B.getD i [])).getD k (0,0):=by
        refine zcZ.same (k:=k) (bs:=(cls M v).map λi=>B.getD i []) ⟨?_,λb hb=>?_,?_,λb hb=>?_⟩ ⟨hA,hB,hC,hD⟩
        ·obtain⟨i,hi,e⟩:=Vaf.mp hlo
         exact⟨_,Vaf.mpr ⟨i,hi,rfl⟩,e⟩
        ·obtain⟨i,hi,rfl⟩:=Vaf.mp hb
         exact hle _ (Vaf.mpr ⟨i,hi,rfl⟩)
        ·obtain⟨i,hi,e⟩:=Vaf.mp hhi
         exact⟨_,Vaf.mpr ⟨i,hi,rfl⟩,e⟩
        ·obtain⟨i,hi,rfl⟩:=Vaf.mp hb
         exact hge _ (Vaf.mpr ⟨i,hi,rfl⟩)
       have hen2:=zaR (T:=[Ob.lst (((cls M v).map λi=>((B.getD i []).getD k (0,0)).2).map D.int)]) (zaR (T:=[Ob.lst (((cls M v).map λi=>((B.getD i []).getD k (0,0)).1).map D.int)]) hen)
       refine hK _ _ hen2 ⟨ck,zbi (zaM (zaM p2 _) _) (Vaa _),?_,_,_,rfl⟩
       rw[zc3 (zaG (d:=((0,0):Int×Int)) (show k<(zbB ((cls M v).map λi=>B.getD i [])).length by omega)),Vat,← eh]
       exact zbh hen2
      ·have ek:k=q:=by omega
       rw[ek,VaL (by omega)] at hen
       exact hn _ _ ⟨p2,hen,_,_,rfl⟩
     rintro dl2 S2 ⟨p2,hen,u7,u8,rfl⟩
     have hes2:=p2 _ _ (pN _ _ hes)
     refine zfR (n:=T.length) (S1:=S2) (xs:=es) (y:=.tup [.ref S'.length,.ref V.length]) (λK hK=>by exact hK) hes2 (λK hK=>by exact hK) (by omega) ?_
     refine⟨c,zbi (λx o e=>p2 _ _ (pN _ _ (pr _ _ e))) (Vaa _),⟨es++[.tup [.ref S'.length,.ref V.length]],zbh hes2,?_⟩,_,_,_,_,_,rfl⟩
     rw[VaA,VaF,VaD,if_pos (by rw[e']; exact beq_self_eq_true v),VaU,Vat]
     refine zbb.snoc (isl.keep λx o nx e=>zbw (p2 _ _ (pN _ _ e)) (Ne.symm nx)) (by omega) (by omega) ?_ ?_
     ·exact zbw (p2 _ _ hnu) (by omega)
     ·exact zbw hen (by omega)
    ·have e':¬ M.getD v 0=v:=λz=>e (by show ((M.getD v 0:Nat):Int)=(v:Int); omega)
     refine⟨c,pr,⟨es,hes,?_⟩,_,_,_,_,_,rfl⟩
     rw[VaA,VaF,VaD,if_neg (by rw[beq_eq_false_iff_ne.mpr e']; decide),VaU,VaN]
     exact isl
   ·have ev:v=B.length:=by omega
    subst ev
    rw[← hre,← eM] at isl
    exact h _ _ _ PS hes isl
  ·exact h.elim⟩)
def ziT  (ze4:Df K mg "law" zb0 zfl)(zfO:Fk P w K mg base 6 "_law_alike" zbc zer)(zfT:Fk P w K mg base 3 "_law_due" zdK zdI)(zf7:Fk P w K mg base 5 "islands" zek zej)(zdx:Fk P w K mg base 1 "_law_cell_at" zd5 zdP)(zfP:Fk P w K mg base 1 "_law_far" zew zdJ)(zf5:Fk P w K mg base 2 "_law_box" zdL zdQ)(zay:mg "list"=none):Fk P w K mg base 7 "law" zfl zc8:=
 ze4.mk' (za2 (k:=6) ze4.F zcD zj7 λcdv A outer s H E hr=>⟨_,(zaj (za0 (i:=1) zcD.nd rfl (Or.inr rfl) (zaD zee zao (zaD zfc (zaP zdx hr (zaa (dv 0) (zaa zao zab))) zao))) (zaj (za0 (i:=2) zcD.nd rfl (Or.inr rfl) (zaH (zbV (zaa zao (zaa zao (zaa zao (zaa zao zab))))) (zaD zfc (zaD zgR (zaP zdx hr (zaa (dv 0) (zaa zao zab))) zao) zao) (λ_ _=>rfl))) (zaj (zgk (x:="_law_cell") (N:=["_law_size","_law_wide"]) (caps:=[1,2]) (ar:=zak zb0) rfl rfl csc rfl (by decide) (i:=3) zcD.nd rfl rfl (zlH (dv 0) (zgJ zao) (zgJ zao)) (λ_ _ _ _ _ _=>zbx) (λ_ _ _ _ _ _=>(zaP zf5 hr (zaa (dv 0) (zaa (dv 1) (zaa (dv 2) zab)))))) (zaj (zaJ (zaT (zbD hr) (zaD zfc (zaP zdx hr (zaa (dv 0) (zaa zao zab))) zao) zao (zaw _)) (zaj (za0 (i:=4) zcD.nd rfl (Or.inr rfl) (zaD zfo (zaD zgR (zaP zdx hr (zaa (dv 0) (zaa zao zab))) zao) (zaD zcp zao (zaD zgV zao zao)))) (zai (zgk (x:="_law_box_here") (N:=["_law_moved"]) (caps:=[4]) (ar:=zak zb0) rfl rfl csc rfl (by decide) (i:=3) zcD.nd rfl rfl (dv 3) (λ_ _ _ _ _ _=>zbx) (λ_ _ _ _ _ _=>(zaP zfP hr (zaa (dv 0) (zaa (zaD zgV zao zao) (zaa (dv 1) zab)))))))) zaL) (zaj (zgk (x:="_law_box_here") (N:=[]) (caps:=[]) (ar:=zak zb0) rfl rfl csc rfl (by decide) (i:=5) zcD.nd rfl rfl (dv 3) (λ_ _ _ _ _ _=>zbx) (λ_ _ _ _ _ _=>(zkL (zaz zkO) rfl zay Boot.«list» (zaa (dv 0) zab)))) (zaj (za0 (i:=6) zcD.nd rfl (Or.inl rfl) (zaP zf7 hr (zaa (dv 5) zab))) (zai (zap (zbM (zaP zfO hr (zaa (dv 6) (zaa (zaP zfT hr (zaa (dv 3) (zaa (dv 1) zab))) zab))) (zbH (zbO (zj1 hr) (dv 5) (dv 3) (zaw _)))))))))))),λds S Q ex h=>by
  obtain⟨ns,rfl,rfl,hl,h⟩:=h
  refine zc2 (λdl2 S2=>S2=[Ob.frz (ns.map D.int)]∧∃q:Nat,(1≤q∧q≤3)∧dl2=[some (.ref 0),some (.int (q:Nat)),none,none,none,none,none]) (λnx hn=>?_) ?_
  ·refine⟨ns,rfl,by decide,?_⟩
   refine hn _ _ ⟨rfl,(1+ns.getD (0:Int).toNat 0%3).toNat,by omega,?_⟩
   rw[show (((1+ns.getD (0:Int).toNat 0%3).toNat:Nat):Int)=1+ns.getD (0:Int).toNat 0%3 by omega]
   rfl
  rintro dl2 S2 ⟨rfl,q,hq,rfl⟩
  refine zc2 (λdl2 S2=>S2[0]?=some (Ob.frz (ns.map D.int))∧∃w:Int,(1≤w∧w≤40)∧dl2=[some (.ref 0),some (.int (q:Nat)),some (.int w),none,none,none,none]) (λnx hn=>?_) ?_
  ·refine⟨ns,rfl,by decide,?_⟩
   obtain⟨w,er,w1,w2⟩:∃w:Int,atI [D.int 10,.int 14,.int 22,.int 40] (ns.getD (0:Int).toNat 0/3%4)=some (.int w)∧1≤w∧w≤40:=by
    generalize ns.getD (0:Int).toNat 0=x
    have e:x/3%4=0∨x/3%4=1∨x/3%4=2∨x/3%4=3:=by omega
    rcases e with e | e | e | e <;> rw[e]
    ·exact⟨10,rfl,by decide,by decide⟩
    ·exact⟨14,rfl,by decide,by decide⟩
    ·exact⟨22,rfl,by decide,by decide⟩
    ·exact⟨40,rfl,by decide,by decide⟩
   refine zaO (n:=[Ob.frz (ns.map D.int)].length) (o:=.lst [D.int 10,.int 14,.int 22,.int 40]) (zan _ _) er ?_
   exact hn _ _ ⟨rfl,w,⟨w1,w2⟩,rfl⟩
  rintro dl2 S2 ⟨h0,w,hw,rfl⟩
  have e30:(za9 (ns.map D.int) (some 2) (some 32)).length≤32-2:=zjO (ns.map D.int) 2 32
  try dsimp only
  refine zc2 (λdl2 S3=>Pre S2 S3∧∃(bm:Nat) (ds:List D) (B:List (List (Int×Int))),S3[bm]?=some (.lst ds)∧zar S3 0 ds B∧B.length≤30∧(∀b∈B,b.length=q∧∀p∈b,p.1≤p.2∧0≤p.1∧p.2≤100)∧dl2=[some (.ref 0),some (.int (q:Nat)),some (.int w),some (.ref bm),none,none,none]) (λnx hn=>?_) ?_
  ·have hc:=zan S2 (.lst (za9 (ns.map D.int) (some 2) (some 32)))
   have pc:Pre S2 (S2++[Ob.lst (za9 (ns.map D.int) (some 2) (some 32))]):=Pre.refl.push
   refine zfv (S1:=S2++[Ob.lst (za9 (ns.map D.int) (some 2) (some 32))]) (n:=S2.length) (o:=.lst (za9 (ns.map D.int) (some 2) (some 32))) (λj ys S3=>Pre (S2++[Ob.lst (za9 (ns.map D.int) (some 2) (some 32))]) S3∧S3[(S2++[Ob.lst (za9 (ns.map D.int) (some 2) (some 32))]).length]?=some (.lst ys)∧ys.length=j∧∃B:List (List (Int×Int)),zar S3 ((S2++[Ob.lst (za9 (ns.map D.int) (some 2) (some 32))]).length+1) ys B∧(∀b∈B,b.length=q∧∀p∈b,p.1≤p.2∧0≤p.1∧p.2≤100)) (λK hK=>zjX (n:=0) (o:=.frz (ns.map D.int)) (lo:=some 2) (hi:=some 32) (S3:=S2) (λK hK=>by exact hK) (λK hK=>by exact hK) (λK hK=>by exact hK) h0 hK) hc (λj ys S3 z=>⟨z.1 _ _ hc,z.2.1,z.2.2.1⟩) (by show (za9 (ns.map D.int) (some 2) (some 32)).length≤1000; omega) ⟨Pre.refl.push,zan _ _,rfl,[],zar.nil,λb hb=>by simp at hb⟩ (λj x ys S3 K hx z hK=>?_) (λys S3 z=>?_)
   ·obtain⟨y1,y2,y3,B,y4,y5⟩:=z
    obtain⟨c,rfl⟩:=zjl (show (za9 (ns.map D.int) (some 2) (some 32))[j]?=some x from hx)
    refine⟨q,rfl,hq.2,hw,λT b ps p1 lb hb lp zp=>?_⟩
    have lt:=zbX y2
    have y2':=p1 _ _ y2
    refine hK _ _ y2' ⟨zbi (λx o e=>p1 _ _ (y1 _ _ e)) (Vaa _),zbh y2',by simp[y3],B++[ps],?_,λb' hb'=>?_⟩
    ·refine zar.snoc (zar.keep y4 λx o lx e=>zbw (p1 _ _ e) (by omega)) (by omega) (zbw hb (by omega))
    ·rcases Va2.mp hb' with v | v
     ·exact y5 b' v
     ·rw[VaT.mp v]; exact⟨lp,zp⟩
   ·obtain⟨y1,y2,y3,B,y4,y5⟩:=z
    refine hn _ _ ⟨λx o e=>y1 _ _ (pc _ _ e),_,ys,B,y2,y4.low (Vaj _),?_,y5,rfl⟩
    rw[← y4.1,y3]
    show (za9 (ns.map D.int) (some 2) (some 32)).length≤30
    omega
  rintro dl2 S3 ⟨p3,bm,ds,B,hbm,rB,l3,zB,rfl⟩
  have h03:=p3 _ _ h0
  clear p3
  try dsimp only
  refine zc2 (λdl2 S4=>∃(bm:Nat) (ds:List D) (B:List (List (Int×Int))),S4[bm]?=some (.lst ds)∧zar S4 0 ds B∧B.length≤30∧(∀b∈B,b.length=q∧∀p∈b,p.1≤p.2)∧∃u4:Option D,dl2=[some (.ref 0),some (.int (q:Nat)),some (.int w),some (.ref bm),u4,none,none]) (λnx hn=>?_) ?_
  ·refine⟨ns,h03,by decide,?_⟩
   refine ifD (λe=>?_) (λe=>?_)
   ·refine⟨ns,h03,by decide,?_⟩
    have p13:(0:Int)<3*10^(13:Int).toNat:=by decide
    refine⟨IntMulOk.of_left (by decide),p13,?_⟩
    refine zfv (S1:=S3) (n:=bm) (o:=.lst ds) (λj ys S4=>Pre S3 S4∧S4[S3.length]?=some (.lst ys)∧ys.length=j∧zar S4 (S3.length+1) ys ((B.map λb=>b.map λp=>(p.1*10^(12:Int).toNat-(ns.getD (1:Int).toNat 0/3%(3*10^(13:Int).toNat)),p.2*10^(12:Int).toNat-(ns.getD (1:Int).toNat 0/3%(3*10^(13:Int).toNat)))).take j)) (λK hK=>by exact hK) hbm (λj ys S4 z=>⟨z.1 _ _ hbm,z.2.1,z.2.2.1⟩) (by show ds.length≤1000; rw[rB.1]; omega) ⟨Pre.refl.push,zan _ _,rfl,zar.nil⟩ (λj x ys S4 K hx z hK=>?_) (λys S4 z=>?_)
    ·obtain⟨y1,y2,y3,y4⟩:=z
     have hx':ds[j]?=some x:=hx
     have hj:j<B.length:=by have:=(Vad.mp hx').1; rw[rB.1] at this; exact this
     obtain⟨a,rfl,_,ha⟩:=rB.2 j x _ hx' (Vab hj)
     have zb:=zB _ (VaC hj)
     have gB:=Vab hj
     generalize B[j]=b at ha zb gB
     refine⟨b,y1 _ _ ha,by omega,λp hp=>⟨Sz.of 100 (by have:=zb.2 p hp; omega),Sz.of 100 (by have:=zb.2 p hp; omega)⟩,Sz.of (10^12) (by decide),?_⟩
     have lt:=zbX y2
     refine hK _ _ (zaR y2) ⟨zbi (zaM y1 _) (Vaa _),zbh (zaR y2),by simp[y3],?_⟩
     rw[zc3 (x:=b.map λp=>(p.1*10^(12:Int).toNat-(ns.getD (1:Int).toNat 0/3%(3*10^(13:Int).toNat)),p.2*10^(12:Int).toNat-(ns.getD (1:Int).toNat 0/3%(3*10^(13:Int).toNat)))) (by rw[Vae,gB]; rfl)]
     refine zar.snoc (zar.keep y4 λx o lx e=>zbw (zaR e) (by omega)) (by omega) (zbw (zan _ _) (by omega))
    ·obtain⟨y1,y2,y3,y4⟩:=z
     have e9:(B.map λb=>b.map λp=>(p.1*10^(12:Int).toNat-(ns.getD (1:Int).toNat 0/3%(3*10^(13:Int).toNat)),p.2*10^(12:Int).toNat-(ns.getD (1:Int).toNat 0/3%(3*10^(13:Int).toNat)))).take (zad (.lst ds)).length=B.map λb=>b.map λp=>(p.1*10^(12:Int).toNat-(ns.getD (1:Int).toNat 0/3%(3*10^(13:Int).toNat)),p.2*10^(12:Int).toNat-(ns.getD (1:Int).toNat 0/3%(3*10^(13:Int).toNat))):=VaL (by show _≤ds.length; rw[Vac,rB.1]; exact Vaa _)
     rw[e9] at y4
     refine hn _ _ ⟨_,ys,_,y2,y4.low (Vaj _),by rw[Vac]; exact l3,λb' hb'=>?_,_,rfl⟩
     obtain⟨b,hb,rfl⟩:=Vaf.mp hb'
     refine⟨by rw[Vac]; exact(zB b hb).1,λp hp=>?_⟩
     obtain⟨p',hp',rfl⟩:=Vaf.mp hp
     have:=((zB b hb).2 p' hp').1
     exact Int.sub_le_sub_right (Int.mul_le_mul_of_nonneg_right this (by decide)) _
   ·exact hn _ _ ⟨bm,ds,B,hbm,rB,l3,λb hb=>⟨(zB b hb).1,λp hp=>((zB b hb).2 p hp).1⟩,_,rfl⟩
  clear rB hbm l3 zB h03
  rintro dl2 S4 ⟨bm,ds,B,hbm,rB,l3,zB,u4,rfl⟩
  have l4:∀b∈B,b.length≤4:=λb hb=>by have:=(zB b hb).1; omega
  try dsimp only
  refine zc2 (λdl2 S5=>Pre S4 S5∧∃(hm:Nat) (es:List D),S5[hm]?=some (.lst es)∧zar S5 0 es B∧dl2=[some (.ref 0),some (.int (q:Nat)),some (.int w),some (.ref bm),u4,some (.ref hm),none]) (λnx hn=>?_) ?_
  ·refine zfv (S1:=S4) (n:=bm) (o:=.lst ds) (λj ys S5=>Pre S4 S5∧S5[S4.length]?=some (.lst ys)∧ys.length=j∧zar S5 (S4.length+1) ys (B.take j)) (λK hK=>by exact hK) hbm (λj ys S5 z=>⟨z.1 _ _ hbm,z.2.1,z.2.2.1⟩) (by show ds.length≤1000; rw[rB.1]; omega) ⟨Pre.refl.push,zan _ _,rfl,zar.nil⟩ (λj x ys S5 K hx z hK=>?_) (λys S5 z=>?_)
   ·obtain⟨y1,y2,y3,y4⟩:=z
    have hx':ds[j]?=some x:=hx
    have hj:j<B.length:=by have:=(Vad.mp hx').1; rw[rB.1] at this; exact this
    have gB:=Vab hj
    obtain⟨a,rfl,_,ha⟩:=rB.2 j x _ hx' gB
    refine zjz (zaQ (y1 _ _ ha) rfl) ?_
    dsimp only[zad]
    have lt:=zbX y2
    refine hK _ _ (zaR y2) ⟨zbi (zaM y1 _) (Vaa _),zbh (zaR y2),by simp[y3],?_⟩
    rw[zc3 gB]
    refine zar.snoc (zar.keep y4 λx o lx e=>zbw (zaR e) (by omega)) (by omega) (zbw (zan _ _) (by omega))
   ·obtain⟨y1,y2,y3,y4⟩:=z
    have e9:B.take (zad (.lst ds)).length=B:=VaL (by show B.length≤ds.length; rw[rB.1]; exact Vaa _)
    rw[e9] at y4
    exact hn _ _ ⟨y1,_,ys,y2,y4.low (Vaj _),rfl⟩
  rintro dl2 S5 ⟨p5,hm,es,hhm,rE,rfl⟩
  obtain⟨z1,z2⟩:=zlc l3 l4
  refine⟨es,B,hhm,rE,l3,l4,λT k fs pT lk hk isl=>?_⟩
  have P5:Pre S4 T:=λx o e=>pT _ _ (p5 _ _ e)
  refine⟨ds,B,q,rfl,by omega,P5 _ _ hbm,rB.pre P5,l3,l4,λb hb=>(zB b hb).1,λb hb=>(zB b hb).2,λT2 k2 es2 p2 hk2 isl2=>?_⟩
  refine⟨⟨islT (zbm B),(isl.den hk z1 z2).pre p2,isl2.den hk2 z1 z2⟩,λT3 p3=>?_⟩
  have P6:Pre T T3:=λx o e=>p3 _ _ (p2 _ _ e)
  refine⟨⟨es,ds,P6 _ _ (pT _ _ hhm),P6 _ _ (P5 _ _ hbm),by rw[rE.1,rB.1],zjI (rE.pre λx o e=>P6 _ _ (pT _ _ e)) (rB.pre λx o e=>P6 _ _ (P5 _ _ e)) l4⟩,?_⟩
  exact h _⟩)
end
theorem zkW {l:PySem.W.OpenLaw}{w:World}{K:PySem.W.Frag}{h:Heap}{mg:Str→Option Value}{fa:Addr}(X:K.In h)(G:h.Ns mainGlobals mg)(hfa:mg "law"=some (.ref fa))
  {f0 h0:Addr}{m0:Value}(a0:nsA K "hull" f0)(l0:lkA K f0 "hull" "hull" zeE m0 h0)(c0:cdA K h0 "hull")
  {f1 h1:Addr}{m1:Value}(a1:nsA K "hull_of" f1)(l1:lkA K f1 "hull_of" "hull_of" zep m1 h1)(c1:cdA K h1 "hull_of")
  {f2 h2:Addr}{m2:Value}(a2:nsA K "common" f2)(l2:lkA K f2 "common" "common" zeR m2 h2)(c2:cdA K h2 "common")
  {f3 h3:Addr}{m3:Value}(a3:nsA K "touch" f3)(l3:lkA K f3 "touch" "touch" zd8 m3 h3)(c3:cdA K h3 "touch")
  {f4 h4:Addr}{m4:Value}(a4:nsA K "touches_one" f4)(l4:lkA K f4 "touches_one" "touches_one" zen m4 h4)(c4:cdA K h4 "touches_one")
  {f5 h5:Addr}{m5:Value}(a5:nsA K "groups_of" f5)(l5:lkA K f5 "groups_of" "groups_of" zfa m5 h5)(c5:cdA K h5 "groups_of")
  {f6 h6:Addr}{m6:Value}(a6:nsA K "islands" f6)(l6:lkA K f6 "islands" "islands" zdy m6 h6)(c6:cdA K h6 "islands")
  {f7 h7:Addr}{m7:Value}(a7:nsA K "_law_mix" f7)(l7:lkA K f7 "_law_mix" "_law_mix" zeI m7 h7)(c7:cdA K h7 "_law_mix")
  {f8 h8:Addr}{m8:Value}(a8:nsA K "_law_box" f8)(l8:lkA K f8 "_law_box" "_law_box" zfy m8 h8)(c8:cdA K h8 "_law_box")
  {f9 h9:Addr}{m9:Value}(a9:nsA K "_law_whole" f9)(l9:lkA K f9 "_law_whole" "_law_whole" zfi m9 h9)(c9:cdA K h9 "_law_whole")
  {f10 h10:Addr}{m10:Value}(a10:nsA K "_law_alike" f10)(l10:lkA K f10 "_law_alike" "_law_alike" zbC m10 h10)(c10:cdA K h10 "_law_alike")
  {f11 h11:Addr}{m11:Value}(a11:nsA K "_law_cell_at" f11)(l11:lkA K f11 "_law_cell_at" "_law_cell_at" zeX m11 h11)(c11:cdA K h11 "_law_cell_at")
  {f12 h12:Addr}{m12:Value}(a12:nsA K "_law_far" f12)(l12:lkA K f12 "_law_far" "_law_far" zeh m12 h12)(c12:cdA K h12 "_law_far")
  {f13 h13:Addr}{m13:Value}(a13:nsA K "_law_touch" f13)(l13:lkA K f13 "_law_touch" "_law_touch" zfA m13 h13)(c13:cdA K h13 "_law_touch")
  {f14 h14:Addr}{m14:Value}(a14:nsA K "_law_marks" f14)(l14:lkA K f14 "_law_marks" "_law_marks" zdw m14 h14)(c14:cdA K h14 "_law_marks")
  {f15 h15:Addr}{m15:Value}(a15:nsA K "_law_due" f15)(l15:lkA K f15 "_law_due" "_law_due" zcP m15 h15)(c15:cdA K h15 "_law_due")
  {f16 h16:Addr}{m16:Value}(a16:nsA K "law" f16)(l16:lkA K f16 "law" "law" zb0 m16 h16)(c16:cdA K h16 "law")
  (zbz:PySem.W.nsIn K mainGlobals "max"=some none)
  (zbf:PySem.W.nsIn K mainGlobals "min"=some none)
  (zbW:PySem.W.nsIn K mainGlobals "zip"=some none)
  (zaV:PySem.W.nsIn K mainGlobals "all"=some none)
  (zcC:PySem.W.nsIn K mainGlobals "any"=some none)
  (zcc:PySem.W.nsIn K mainGlobals "sorted"=some none)
  (zbR:PySem.W.nsIn K mainGlobals "enumerate"=some none)
  (zav:PySem.W.nsIn K mainGlobals "range"=some none)
  (zah:PySem.W.nsIn K mainGlobals "isinstance"=some none)
  (zcG:PySem.W.nsIn K mainGlobals "bool"=some none)
  (zaU:PySem.W.nsIn K mainGlobals "int"=some none)
  (za5:PySem.W.nsIn K mainGlobals "str"=some none)
  (zaB:PySem.W.nsIn K mainGlobals "tuple"=some none)
  (zay:PySem.W.nsIn K mainGlobals "list"=some none)
  (zaq:PySem.W.nsIn K mainGlobals "len"=some none)
  (zdt:Kit K "bool")
  (zda:Kit K "int")
  :∃fd:FuncData,(∀(s:Shared) (v:Value),BindsTo s fd ⟨[v],[]⟩ [("_law_script",v)])∧∀base:Heap,K.In base→base.Ns mainGlobals mg→zaW l.prog w K mg base (CXE l.prog w) 7 fa fd ["_law_script"] (upF K zc8):=by
 have e:=hfa.symm.trans (PySem.W.mg_of X G a16)
 cases e
 let zeF:Df K mg "hull" zeE zeu:=dfo X G a0 l0 c0 λ_ _ _ _ _ _=>ln2 λ_ _=>rfl
 let zfu:Df K mg "hull_of" zep zdH:=dfo X G a1 l1 c1 λ_ _ _ _ _ _=>ln1 λ_=>rfl
 let ze3:Df K mg "common" zeR zdU:=dfo X G a2 l2 c2 λ_ _ _ _ _ _=>ln2 λ_ _=>rfl
 let zeM:Df K mg "touch" zd8 zea:=dfo X G a3 l3 c3 λ_ _ _ _ _ _=>ln2 λ_ _=>rfl
 let zeA:Df K mg "touches_one" zen zdY:=dfo X G a4 l4 c4 λ_ _ _ _ _ _=>ln3 λ_ _ _=>rfl
 let zeW:Df K mg "groups_of" zfa zdS:=dfo X G a5 l5 c5 λ_ _ _ _ _ _=>ln1 λ_=>rfl
 let ze8:Df K mg "islands" zdy zek:=dfo X G a6 l6 c6 λ_ _ _ _ _ _=>ln1 λ_=>rfl
 let zeZ:Df K mg "_law_mix" zeI zdN:=dfo X G a7 l7 c7 λ_ _ _ _ _ _=>ln2 λ_ _=>rfl
 let zft:Df K mg "_law_box" zfy zdL:=dfo X G a8 l8 c8 λ_ _ _ _ _ _=>ln3 λ_ _ _=>rfl
 let zfe:Df K mg "_law_whole" zfi zci:=dfo X G a9 l9 c9 λ_ _ _ _ _ _=>ln1 λ_=>rfl
 let za1:Df K mg "_law_alike" zbC zbc:=dfo X G a10 l10 c10 λ_ _ _ _ _ _=>ln2 λ_ _=>rfl
 let zeV:Df K mg "_law_cell_at" zeX zd5:=dfo X G a11 l11 c11 λ_ _ _ _ _ _=>ln2 λ_ _=>rfl
 let zfF:Df K mg "_law_far" zeh zew:=dfo X G a12 l12 c12 λ_ _ _ _ _ _=>ln3 λ_ _ _=>rfl
 let ze0:Df K mg "_law_touch" zfA zex:=dfo X G a13 l13 c13 λ_ _ _ _ _ _=>ln2 λ_ _=>rfl
 let zeS:Df K mg "_law_marks" zdw zd3:=dfo X G a14 l14 c14 λ_ _ _ _ _ _=>ln1 λ_=>rfl
 let zfC:Df K mg "_law_due" zcP zdK:=dfo X G a15 l15 c15 λ_ _ _ _ _ _=>ln2 λ_ _=>rfl
 let ze4:Df K mg "law" zb0 zfl:=dfo X G a16 l16 c16 λ_ _ _ _ _ _=>ln1 λ_=>rfl
 have zbz:=PySem.W.mg_none_of X G zbz
 have zbf:=PySem.W.mg_none_of X G zbf
 have zbW:=PySem.W.mg_none_of X G zbW
 have zaV:=PySem.W.mg_none_of X G zaV
 have zcC:=PySem.W.mg_none_of X G zcC
 have zcc:=PySem.W.mg_none_of X G zcc
 have zbR:=PySem.W.mg_none_of X G zbR
 have zav:=PySem.W.mg_none_of X G zav
 have zah:=PySem.W.mg_none_of X G zah
 have zcG:=PySem.W.mg_none_of X G zcG
 have zaU:=PySem.W.mg_none_of X G zaU
 have za5:=PySem.W.mg_none_of X G za5
 have zaB:=PySem.W.mg_none_of X G zaB
 have zay:=PySem.W.mg_none_of X G zay
 have zaq:=PySem.W.mg_none_of X G zaq
 refine⟨PySem.W.fnOf "law" "law" (zcR zb0) (zck zb0) (zak zb0) .none .none .none m16 none (.ref h16) .none,λs v=>.of_eq rfl,λbase _ _=>?_⟩
 let zgf:=zjv (P:=l.prog) (w:=w) (base:=base) zeF zbz zbf
 let zfZ:=zkN (P:=l.prog) (w:=w) (base:=base) zfu zgf zbW
 let zfS:=zlg (P:=l.prog) (w:=w) (base:=base) ze3 zbf zbz
 let zgl:=zki (P:=l.prog) (w:=w) (base:=base) zeM zfS zaV zbW
 let zgo:=zl9 (P:=l.prog) (w:=w) (base:=base) zeA zgl zcC
 let zge:=zkR (P:=l.prog) (w:=w) (base:=base) zeW zgo zcc zbR
 let zf7:=zjx (P:=l.prog) (w:=w) (base:=base) ze8 zge zfZ
 let zfJ:=zjj (P:=l.prog) (w:=w) (base:=base) zeZ
 let zf5:=zjR (P:=l.prog) (w:=w) (base:=base) zft zfJ zav
 let zbq:=zkp (P:=l.prog) (w:=w) (base:=base) zfe zah zcG zaU zdt zda
 let N_law_alike:=Df.never (P:=l.prog) (w:=w) (base:=base) 0 za1
 let zl3:=zkj (P:=l.prog) (w:=w) (base:=base) za1 zbq zah za5 zaU zaB zay zaV zav zaq N_law_alike
 let zkD:=zjk (P:=l.prog) (w:=w) (base:=base) za1 zbq zah za5 zaU zaB zay zaV zav zaq zl3
 let zjA:=zl7 (P:=l.prog) (w:=w) (base:=base) za1 zbq zah za5 zaU zaB zay zaV zav zaq zkD
 let zjp:=ziN (P:=l.prog) (w:=w) (base:=base) za1 zbq zah za5 zaU zaB zay zaV zav zaq zjA
 let zfO:=zlA (P:=l.prog) (w:=w) (base:=base) za1 zbq zah za5 zaU zaB zay zaV zav zaq zjp
 let zdx:=zjy (P:=l.prog) (w:=w) (base:=base) zeV zaq
 let zfP:=zjD (P:=l.prog) (w:=w) (base:=base) zfF
 let zgB:=zjm (P:=l.prog) (w:=w) (base:=base) ze0 zav zaq
 let zgh:=zlP (P:=l.prog) (w:=w) (base:=base) zeS zgB zbR zbf zav
 let zfT:=zlF (P:=l.prog) (w:=w) (base:=base) zfC zgh zav zaq zbz zbf
 let G_law:=ziT (P:=l.prog) (w:=w) (base:=base) ze4 zfO zfT zf7 zdx zfP zf5 zay
 exact G_law.ok
end Mine
open PySem PySem.W PyProof.Rows
set_option maxRecDepth 100003 in
set_option maxHeartbeats 0 in
theorem PySem.Challenge.cw_boxnarrow_k72_islands_holds : PySem.Challenge.rw_boxnarrow_k72_islands.Holds := by
 w_on; o_law
 refine PySem.W.holds_open (q:=Mine.vw) (loose:=[]) (Xt:=Mine.xt) (XP:=XL Mine.vw []) (Yf:=Hook.obs (kHook Mine.kp Mine.ks Mine.zdb)) (Ya:=Hook.val (kHook Mine.kp Mine.ks Mine.zdb))
  (YP:=Hook.says (kHook Mine.kp Mine.ks Mine.zdb)) (N:=1150) Mine.left (Hook.of (kHook Mine.kp Mine.ks Mine.zdb)) (Hook.keeps (kHook Mine.kp Mine.ks Mine.zdb)) (λs e=>xl_of s (Bool.and_eq_true_iff.mp e).1) XL.keeps
  (by rfl) (by rfl) (by rfl) (λs e=>recFacts_of (Bool.and_eq_true_iff.mp e).2) (by rfl) (by first | assumption | decide +kernel)
  (by decide +kernel) ⟨rfl,rfl,rfl,rfl,rfl,by decide +kernel⟩ ?hw ?hc
 (case hw=>w_witness2)
 k_fill
 refine L3.zk4 (l:=PySem.Challenge.rw_boxnarrow_k72_islands) (x:="_law_script") 7 rfl rfl ⟨rfl,by decide,by decide⟩ (λw h Y=>PySem.W.kIn_of Y) ?F
 case F=>
  intro w mg fa h KX G hmg
  refine' Mine.zkW KX G hmg (a0:=?a0) (l0:=?l0) (c0:=?c0) (a1:=?a1) (l1:=?l1) (c1:=?c1) (a2:=?a2) (l2:=?l2) (c2:=?c2) (a3:=?a3) (l3:=?l3) (c3:=?c3) (a4:=?a4) (l4:=?l4) (c4:=?c4) (a5:=?a5) (l5:=?l5) (c5:=?c5) (a6:=?a6) (l6:=?l6) (c6:=?c6) (a7:=?a7) (l7:=?l7) (c7:=?c7) (a8:=?a8) (l8:=?l8) (c8:=?c8) (a9:=?a9) (l9:=?l9) (c9:=?c9) (a10:=?a10) (l10:=?l10) (c10:=?c10) (a11:=?a11) (l11:=?l11) (c11:=?c11) (a12:=?a12) (l12:=?l12) (c12:=?c12) (a13:=?a13) (l13:=?l13) (c13:=?c13) (a14:=?a14) (l14:=?l14) (c14:=?c14) (a15:=?a15) (l15:=?l15) (c15:=?c15) (a16:=?a16) (l16:=?l16) (c16:=?c16) (zbz:=?zbz) (zbf:=?zbf) (zbW:=?zbW) (zaV:=?zaV) (zcC:=?zcC) (zcc:=?zcc) (zbR:=?zbR) (zav:=?zav) (zah:=?zah) (zcG:=?zcG) (zaU:=?zaU) (za5:=?za5) (zaB:=?zaB) (zay:=?zay) (zaq:=?zaq) (zdt:=?zdt) (zda:=?zda)
  (case zbz | zbf | zbW | zaV | zcC | zcc | zbR | zav | zah | zcG | zaU | za5 | zaB | zay | zaq=>k_is)
  (case a0 | a1 | a2 | a3 | a4 | a5 | a6 | a7 | a8 | a9 | a10 | a11 | a12 | a13 | a14 | a15 | a16=>delta Mine.nsA; k_is)
  (case l0 | l1 | l2 | l3 | l4 | l5 | l6 | l7 | l8 | l9 | l10 | l11 | l12 | l13 | l14 | l15 | l16=>delta Mine.lkA; k_is)
  (case c0 | c1 | c2 | c3 | c4 | c5 | c6 | c7 | c8 | c9 | c10 | c11 | c12 | c13 | c14 | c15 | c16=>delta Mine.cdA; k_is)
  (case zdt=>exact L3.zhH _ _ (by simp))
  (case zda=>exact L3.zhH _ _ (by simp))
