import PyProof.Rows.All
import Wide.All
import OpenK.AllK
import Wide.FinOn
import Lean
import PyProof.EqAt
import PyProof.EqKinds
import PyProof.TupleCall
import PySem.Challenge.RW_boxnarrow_k73_islands_apart
theorem Vaa:type_of% @Nat.le_refl:=@Nat.le_refl
theorem Vab:type_of% @List.length_map:=@List.length_map
theorem Vac:type_of% @List.getElem?_eq_some_iff:=@List.getElem?_eq_some_iff
theorem Vad:type_of% @List.getElem?_map:=@List.getElem?_map
theorem Vae:type_of% @List.getElem?_eq_getElem:=@List.getElem?_eq_getElem
theorem Vaf:type_of% @List.size_toArray:=@List.size_toArray
theorem Vag:type_of% @List.mem_of_getElem?:=@List.mem_of_getElem?
theorem Vah:type_of% @List.mem_map:=@List.mem_map
theorem Vai:type_of% @Nat.ne_of_lt:=@Nat.ne_of_lt
theorem Vaj:type_of% @Nat.zero_le:=@Nat.zero_le
theorem Vak:type_of% @List.getD_eq_getElem?_getD:=@List.getD_eq_getElem?_getD
theorem Val:type_of% @List.map_cons:=@List.map_cons
theorem Vam:type_of% @List.mem_cons:=@List.mem_cons
theorem Van:type_of% @List.lookup_cons:=@List.lookup_cons
theorem Vao:type_of% @List.length_append:=@List.length_append
theorem Vap:type_of% @List.getElem?_append_left:=@List.getElem?_append_left
theorem Vaq:type_of% @List.mem_range:=@List.mem_range
theorem Var:type_of% @Bool.false_ne_true:=@Bool.false_ne_true
theorem Vas:type_of% @Nat.lt_of_lt_of_le:=@Nat.lt_of_lt_of_le
theorem Vat:type_of% @List.length_range:=@List.length_range
theorem Vau:type_of% @Nat.le_trans:=@Nat.le_trans
theorem Vav:type_of% @Nat.lt_irrefl:=@Nat.lt_irrefl
theorem Vaw:type_of% @List.take_of_length_le:=@List.take_of_length_le
theorem Vax:type_of% @Option.map_eq_some_iff:=@Option.map_eq_some_iff
theorem Vay:type_of% @List.getElem?_append_right:=@List.getElem?_append_right
theorem Vaz:type_of% @List.getElem?_eq_none:=@List.getElem?_eq_none
theorem VaA:type_of% @List.map_map:=@List.map_map
theorem VaB:type_of% @List.mem_append_right:=@List.mem_append_right
theorem VaC:type_of% @List.getElem_mem:=@List.getElem_mem
theorem VaD:type_of% @List.mem_singleton:=@List.mem_singleton
theorem VaE:type_of% @List.mem_cons_of_mem:=@List.mem_cons_of_mem
theorem VaF:type_of% @Option.isSome_iff_exists:=@Option.isSome_iff_exists
theorem VaG:type_of% @Nat.le_of_lt:=@Nat.le_of_lt
theorem VaH:type_of% @List.getElem?_eq_none_iff:=@List.getElem?_eq_none_iff
theorem VaI:type_of% @List.map_congr_left:=@List.map_congr_left
theorem VaJ:type_of% @List.length_take:=@List.length_take
theorem VaK:type_of% @List.mem_filter:=@List.mem_filter
theorem VaL:type_of% @List.filter_cons:=@List.filter_cons
theorem VaM:type_of% @List.map_append:=@List.map_append
theorem VaN:type_of% @Nat.le_succ:=@Nat.le_succ
theorem VaO:type_of% @List.length_cons:=@List.length_cons
theorem VaP:type_of% @List.pairwise_map:=@List.pairwise_map
theorem VaQ:type_of% @List.mem_cons_self:=@List.mem_cons_self
theorem VaR:type_of% @List.getElem?_set_ne:=@List.getElem?_set_ne
theorem VaS:type_of% @Int.toNat_natCast:=@Int.toNat_natCast
theorem VaT:type_of% @List.find?_cons:=@List.find?_cons
theorem VaU:type_of% @List.ext_getElem?:=@List.ext_getElem?
theorem VaV:type_of% @List.filter_append:=@List.filter_append
theorem VaW:type_of% @List.mem_append:=@List.mem_append
theorem VaX:type_of% @List.getElem?_set_self:=@List.getElem?_set_self
theorem VaY:type_of% @Bool.eq_iff_iff:=@Bool.eq_iff_iff
theorem VaZ:type_of% @List.append_nil:=@List.append_nil
theorem Va0:type_of% @Int.le_refl:=@Int.le_refl
theorem Va1:type_of% @List.mem_iff_getElem:=@List.mem_iff_getElem
theorem Va2:type_of% @List.any_eq_true:=@List.any_eq_true
theorem Va3:type_of% @Nat.sub_self:=@Nat.sub_self
theorem Va4:type_of% @List.pairwise_lt_range:=@List.pairwise_lt_range
theorem Va5:type_of% @List.nodup_cons:=@List.nodup_cons
theorem Va6:type_of% @List.mem_iff_getElem?:=@List.mem_iff_getElem?
theorem Va7:type_of% @List.filter_nil:=@List.filter_nil
set_option Elab.async false
set_option linter.all false
set_option maxRecDepth 100000
set_option genSizeOf false
set_option maxHeartbeats 40000000
namespace L2
open PySem PySem.Spec PyProof.Rows
def zcL (s:Stmt):Arguments:=match s with
 | .FunctionDef _ a _ _ _ _ _ _ _ _=>a
 | _=>{ posonlyargs:=[],args:=[],vararg:=none,kwonlyargs:=[],kw_defaults:=[],kwarg:=none,defaults:=[] }
def zb6 (s:Stmt):List Stmt:=match s with
 | .FunctionDef _ _ b _ _ _ _ _ _ _=>b
 | _=>[]
def zan (s:Stmt):Scope:=match s with
 | .FunctionDef _ _ _ _ _ _ sc _ _ _=>sc
 | _=>{ kind:=.function,names:=[],isGenerator:=false,isCoroutine:=false }
end L2
namespace L3
open PySem PySem.W PyProof.Rows PySem.Calls
def goT (tb:String→Option Builtin)(p:Program)(w:World)(n₀:Nat)(ann:Option Value):Nat→SharedT→Thread→Option SharedT
 | 0,_,_=>none
 | k+1,s,t=>bif through t then some s else bif stepOk n₀ ann t then (stepT (denote tb) p w s t).bind (λr=>goT tb p w n₀ ann k r.1 r.2) else none
theorem zg4 {tb:String→Option Builtin}{p:Program}{w:World}{n₀:Nat}{ann:Option Value}:∀ {n:Nat} {s s':SharedT} {t:Thread},goT tb p w n₀ ann n s t=some s'→topRun tb p w n₀ ann n s.abs t=some s'.abs
 | 0,_,_,_,q=>nomatch q
 | n+1,s,s',t,q=>by
  unfold goT at q
  unfold topRun
  cases c1:through t
  ·rw[c1] at q
   cases c2:stepOk n₀ ann t
   ·rw[c2] at q
    exact nomatch q
   ·rw[c2] at q
    obtain⟨⟨s2,t2⟩,c3,q⟩:=Option.bind_eq_some_iff.mp q
    rw[stepT_spec c3]
    exact zg4 q
  ·rw[c1] at q
   cases q
   rfl
def zgo (os:Array Obj):Nat→Nat→Nat→BT
 | 0,_,_=>.nil
 | f+1,a,b=>match os[b]? with
  | some o=>.node o (zgo os f (2*a) (a+b)) (zgo os f (2*a) (2*a+b))
  | none=>.nil
noncomputable def bootT (P:Params):BT:=zgo (boot_heap P).objs 6 1 0
noncomputable abbrev zh0 (w:World)(os:OsState):SharedT:=⟨bootT w.params,11,(boot_heap w.params).life,Array.mk [],boot_drawn,boot_toks,os⟩
def zeG (s:SharedT)(a:Addr):Option Obj:=if a<s.n then (match s.tree.get a with | some o=>alive o | none=>s.abs.heap.get? a) else none
theorem zj3 (s:SharedT)(a:Addr):s.abs.heap.get? a=zeG s a:=by
 unfold zeG
 split
 ·rename_i h
  cases e:s.tree.get a with
  | none=>rfl
  | some o=>exact abs_get h e
 ·rename_i h
  exact abs_get_none h
theorem zkc (l:List Addr)(s:SharedT):l.map s.abs.heap.get?=l.map (zeG s):=VaI λa _=>zj3 s a
noncomputable abbrev ziA (p q:Program)(loose:List Str)(Xt:Shared→Bool){α:Type}(YT:SharedT→α)(g0:Bool)(w:World)(s:SharedT):=
 ((staticsOk (importedModules p.main.body) (boot_heap w.params) s.abs.heap&&namesBound p s.abs.heap&&gensDone s.abs&&laidKept (boot_heap w.params) s.abs.heap),openSeen q loose (importedModules p.main.body) Xt g0 s.abs,YT s)
theorem zlQ {p q:Program}{loose:List Str}{Xt:Shared→Bool}{α:Type}{Yf:Shared→α}{YT:SharedT→α}{Ya:World→α}{N:Nat}{g0:Bool}{ann:Option Value}(hY:∀s:SharedT,Yf s.abs=YT s)(e:opening p=plainProg p.main.scope.names)(hN:Nat.ble 600 N=true)(f:∀s,fenceModules? p s=some s)
  (size:∀w:World,((boot_heap w.params).isNs mainGlobals&&(Array.mk []:Array GenState).size==0,(boot_heap w.params).objs.size,(boot_heap w.params).nsMap mainGlobals "__annotations__")=(true,11,ann))
  (run:∀w:World,(λos=>(goT treeTable p w 11 ann N (zh0 w os) (topStub p)).map λs=>ziA p q loose Xt YT g0 w s)=λ_=>some (true,openGood q loose,Ya w)):LeftO p q loose Xt Yf Ya N g0:=λw=>by
 obtain⟨⟨h,gs,d,k,os⟩,e1,e'⟩:=Vax.mp (boot_open e hN f w)
 obtain⟨rfl,rfl,rfl,rfl⟩:h=boot_heap w.params∧gs=Array.mk []∧d=boot_drawn∧k=boot_toks:=by simpa using e'
 obtain⟨y1,y2,y3⟩:_∧_∧_:=by simpa only [Prod.mk.injEq] using size w
 obtain⟨s',r1,r2⟩:=Vax.mp (congrFun (run w) os)
 obtain⟨l1,l2,l3⟩:_∧_∧_:=by simpa only [Prod.mk.injEq] using r2
 have r:topRun treeTable p w 11 ann N ⟨boot_heap w.params,Array.mk [],boot_drawn,boot_toks,os⟩ (topStub p)=some s'.abs:=by
  have z:=zg4 r1
  exact z
 have t:topFrom treeTable p w N ⟨boot_heap w.params,Array.mk [],boot_drawn,boot_toks,os⟩=some s'.abs:=by
  unfold topFrom
  dsimp only
  rw[y1,y2,y3,r]
  show (match staticsOk (importedModules p.main.body) (boot_heap w.params) s'.abs.heap&&namesBound p s'.abs.heap&&gensDone s'.abs&&laidKept (boot_heap w.params) s'.abs.heap with | true=>_ | false=>_)=_
  rw[l1]
 unfold openEnds
 rw[e1]
 show Option.map _ (topFrom treeTable p w N _)=_
 rw[t]
 exact congrArg some (Prod.ext l2 ((hY s').trans l3))
end L3
namespace Mine
open PySem PySem.Spec PyProof.Rows L2 L3
def top (i:Nat):Stmt:=PySem.Challenge.pw_boxnarrow_k73_islands_apart.main.body.getD i (.Pass ⟨0,0,0,0⟩)
def vw:Program:={ PySem.Challenge.pw_boxnarrow_k73_islands_apart with main:={ PySem.Challenge.pw_boxnarrow_k73_islands_apart.main with body:=[top 1,top 2,top 4,top 5,top 6,top 7,top 8,top 10,top 11,top 12,top 13,top 14,top 15,top 16,top 17,top 18,top 19] } }
noncomputable abbrev de (P:Params)(s:Str)(t:Tok)(v:Value):DictEntry:=⟨PySem.PyData.keyHash P s,.str s t,v⟩
abbrev co (n q:Str)(a b c d:Tok)(i k:Int)(r s:Addr)(y z:Value)(t:Addr)(j:Int):Obj:=⟨.type "code",none,.fields #[.str n a,.str q b,.str "/claim/cut.py" c,.int i 0,.int k 0,.int 0 0,.int 0 0,.int 3 0,.ref r,.bool Bool.true,.int 181 0,.ref s,.none,y,z,.ref t,.int j 0,.int i 0,.str "/claim/cut.py" d],#[]⟩
abbrev fo (n q:Str)(st:Stmt)(m:Value)(c:Addr):Obj:=⟨.type "function",none,.func (PySem.W.fnOf n q (zcL st) (zb6 st) (zan st) .none .none .none m none (.ref c) .none),#[]⟩
noncomputable def kp:Params→PySem.W.Frag:=λP=>
 (nat_lit 3,(.mk (.type "dict") none (.dict #[(de P "__name__" 165 (.str "law_boxnarrow_k73_islands_apart" 246)),(de P "__doc__" 166 .none),(de P "__package__" 167 .none),(de P "__loader__" 168 (.builtin "__main__.__loader__#opaque")),(de P "__spec__" 169 .none),(de P "__annotations__" 170 (.ref 6)),(de P "__builtins__" 171 (.ref 4)),(de P "__file__" 173 (.str "/claim/cut.py" 172)),(de P "__cached__" 174 .none),(de P "common" 198 (.ref 21)),(de P "hull" 206 (.ref 28)),(de P "touch" 214 (.ref 33)),(de P "touches_one" 220 (.ref 38)),(de P "groups_of" 233 (.ref 45)),(de P "hull_of" 239 (.ref 50)),(de P "islands" 245 (.ref 55)),(de P "_law_cell_at" 255 (.ref 62)),(de P "_law_mix" 263 (.ref 69)),(de P "_law_box" 275 (.ref 76)),(de P "_law_touch" 284 (.ref 83)),(de P "_law_third" 292 (.ref 90)),(de P "_law_within" 301 (.ref 97)),(de P "_law_point_right" 307 (.ref 102)),(de P "_law_reached" 313 (.ref 107)),(de P "_law_together" 325 (.ref 114)),(de P "law" 331 (.ref 119))] 26) #[]))::
 (nat_lit 6,(.mk (.type "dict") none (.dict #[] 0) #[]))::
 (nat_lit 20,co "common" "common" 189 190 191 197 2 2 15 16 (.ref 17) (.ref 18) 19 196)::
 (nat_lit 21,fo "common" "common" (top 1) (.str "boxnarrow.spans" 187) 20)::
 (nat_lit 27,co "hull" "hull" 199 200 201 205 8 2 22 23 (.ref 24) (.ref 25) 26 204)::
 (nat_lit 28,fo "hull" "hull" (top 2) (.str "boxnarrow.spans" 187) 27)::
 (nat_lit 32,co "touch" "touch" 209 210 211 213 11 2 29 30 .none .none 31 212)::
 (nat_lit 33,fo "touch" "touch" (top 4) (.str "boxnarrow.islands" 207) 32)::
 (nat_lit 37,co "touches_one" "touches_one" 215 216 217 219 13 3 34 35 .none .none 36 218)::
 (nat_lit 38,fo "touches_one" "touches_one" (top 5) (.str "boxnarrow.islands" 207) 37)::
 (nat_lit 44,co "groups_of" "groups_of" 221 222 223 232 15 1 39 40 (.ref 41) (.ref 42) 43 231)::
 (nat_lit 45,fo "groups_of" "groups_of" (top 6) (.str "boxnarrow.islands" 207) 44)::
 (nat_lit 49,co "hull_of" "hull_of" 234 235 236 238 27 1 46 47 .none .none 48 237)::
 (nat_lit 50,fo "hull_of" "hull_of" (top 7) (.str "boxnarrow.islands" 207) 49)::
 (nat_lit 54,co "islands" "islands" 240 241 242 244 32 1 51 52 .none .none 53 243)::
 (nat_lit 55,fo "islands" "islands" (top 8) (.str "boxnarrow.islands" 207) 54)::
 (nat_lit 61,co "_law_cell_at" "_law_cell_at" 248 249 250 254 35 2 56 57 (.ref 58) (.ref 59) 60 253)::
 (nat_lit 62,fo "_law_cell_at" "_law_cell_at" (top 10) (.str "law_boxnarrow_k73_islands_apart" 246) 61)::
 (nat_lit 68,co "_law_mix" "_law_mix" 256 257 258 262 39 2 63 64 (.ref 65) (.ref 66) 67 261)::
 (nat_lit 69,fo "_law_mix" "_law_mix" (top 11) (.str "law_boxnarrow_k73_islands_apart" 246) 68)::
 (nat_lit 75,co "_law_box" "_law_box" 264 265 266 274 41 3 70 71 (.ref 72) (.ref 73) 74 273)::
 (nat_lit 76,fo "_law_box" "_law_box" (top 12) (.str "law_boxnarrow_k73_islands_apart" 246) 75)::
 (nat_lit 82,co "_law_touch" "_law_touch" 276 277 278 283 47 2 77 78 (.ref 79) (.ref 80) 81 282)::
 (nat_lit 83,fo "_law_touch" "_law_touch" (top 13) (.str "law_boxnarrow_k73_islands_apart" 246) 82)::
 (nat_lit 89,co "_law_third" "_law_third" 285 286 287 291 52 2 84 85 (.ref 86) (.ref 87) 88 290)::
 (nat_lit 90,fo "_law_third" "_law_third" (top 14) (.str "law_boxnarrow_k73_islands_apart" 246) 89)::
 (nat_lit 96,co "_law_within" "_law_within" 293 294 295 300 54 2 91 92 (.ref 93) (.ref 94) 95 299)::
 (nat_lit 97,fo "_law_within" "_law_within" (top 15) (.str "law_boxnarrow_k73_islands_apart" 246) 96)::
 (nat_lit 101,co "_law_point_right" "_law_point_right" 302 303 304 306 59 3 98 99 .none .none 100 305)::
 (nat_lit 102,fo "_law_point_right" "_law_point_right" (top 16) (.str "law_boxnarrow_k73_islands_apart" 246) 101)::
 (nat_lit 106,co "_law_reached" "_law_reached" 308 309 310 312 67 2 103 104 .none .none 105 311)::
 (nat_lit 107,fo "_law_reached" "_law_reached" (top 17) (.str "law_boxnarrow_k73_islands_apart" 246) 106)::
 (nat_lit 113,co "_law_together" "_law_together" 314 315 316 324 74 2 108 109 (.ref 110) (.ref 111) 112 323)::
 (nat_lit 114,fo "_law_together" "_law_together" (top 18) (.str "law_boxnarrow_k73_islands_apart" 246) 113)::
 (nat_lit 118,co "law" "law" 326 327 328 330 83 1 115 116 .none .none 117 329)::
 (nat_lit 119,fo "law" "law" (top 19) (.str "law_boxnarrow_k73_islands_apart" 246) 118)::[]
def ks:List Addr:=nat_lit 3::nat_lit 6::nat_lit 20::nat_lit 21::nat_lit 27::nat_lit 28::nat_lit 32::nat_lit 33::nat_lit 37::nat_lit 38::nat_lit 44::nat_lit 45::nat_lit 49::nat_lit 50::nat_lit 54::nat_lit 55::nat_lit 61::nat_lit 62::nat_lit 68::nat_lit 69::nat_lit 75::nat_lit 76::nat_lit 82::nat_lit 83::nat_lit 89::nat_lit 90::nat_lit 96::nat_lit 97::nat_lit 101::nat_lit 102::nat_lit 106::nat_lit 107::nat_lit 113::nat_lit 114::nat_lit 118::nat_lit 119::[]
theorem zc6 (P:Params):ks=(kp P).map (·.1):=by kernel_rfl
noncomputable abbrev hk:PySem.W.Hook:=PySem.W.kHook kp ks zc6
abbrev xt (s:Shared):Bool:=PySem.W.xlAt vw [] s&&PySem.W.recOk (PySem.W.RowW.records (PySem.W.OpenRow.toRowW (PySem.W.OpenLaw.row PySem.Challenge.rw_boxnarrow_k73_islands_apart))) s
theorem zf3:PySem.W.opening PySem.Challenge.pw_boxnarrow_k73_islands_apart=PySem.W.plainProg PySem.Challenge.pw_boxnarrow_k73_islands_apart.main.scope.names:=by kernel_rfl
theorem fe_eq (s:Shared):PySem.fenceModules? PySem.Challenge.pw_boxnarrow_k73_islands_apart s=some s:=by kernel_rfl
theorem si_eq (w:World):((PySem.W.boot_heap w.params).isNs mainGlobals&&(Array.mk []:Array GenState).size==0,(PySem.W.boot_heap w.params).objs.size,(PySem.W.boot_heap w.params).nsMap mainGlobals "__annotations__")=(true,11,some (.ref 6)):=by kernel_rfl
theorem zk0 (w:World):(λos=>(L3.goT PySem.treeTable PySem.Challenge.pw_boxnarrow_k73_islands_apart w 11 (some (.ref 6)) 1178 (L3.zh0 w os) (PySem.W.topStub PySem.Challenge.pw_boxnarrow_k73_islands_apart)).map λs=>L3.ziA PySem.Challenge.pw_boxnarrow_k73_islands_apart vw [] xt (λs=>ks.map (L3.zeG s)) true w s)=λ_=>some (true,PySem.W.openGood vw [],hk.val w):=by kernel_rfl
theorem left:PySem.W.LeftO PySem.Challenge.pw_boxnarrow_k73_islands_apart vw [] xt hk.obs hk.val 1178:=L3.zlQ (L3.zkc ks) zf3 (by decide) fe_eq si_eq zk0
end Mine
set_option Elab.async false
set_option linter.all false
set_option maxRecDepth 100000
namespace L2
open PySem PySem.Spec PyProof.Rows
abbrev Key:=Sum Int Str
def zi2:Key→Value→Bool
 | .inl k,v=>Value.isInt k v
 | .inr x,v=>Value.isStrOf x v
def keyH (w:World):Key→Int
 | .inl k=>hashInt k
 | .inr x=>hashStr w x
theorem zbY:∀ {k:Key} {v:Value},zi2 k v=true→(∃i t,k=Sum.inl i∧v=Value.int i t)∨(∃x t,k=Sum.inr x∧v=Value.str x t)
 | .inl i,v,h=>by
  obtain⟨t,e⟩:=Value.isInt_shape (k:=i) (v:=v) h
  exact .inl ⟨i,t,rfl,e⟩
 | .inr x,v,h=>by
  obtain⟨t,e⟩:=Value.isStrOf_shape (x:=x) (v:=v) h
  exact .inr ⟨x,t,rfl,e⟩
theorem zlw (a b:Int):decide ((Sum.inl a:Key)=Sum.inl b)=(a==b):=by
 by_cases e:a=b
 ·subst e; simp
 ·have h:¬ (Sum.inl a:Key)=Sum.inl b:=λq=>e (Sum.inl.inj q)
  rw[decide_eq_false h]
  exact(beq_eq_false_iff_ne.mpr e).symm
theorem zmZ (a b:Str):decide ((Sum.inr a:Key)=Sum.inr b)=decide (a=b):=by
 by_cases e:a=b
 ·subst e; simp
 ·have h:¬ (Sum.inr a:Key)=Sum.inr b:=λq=>e (Sum.inr.inj q)
  rw[decide_eq_false h,decide_eq_false e]
theorem zm2 (a:Int)(b:Str):decide ((Sum.inl a:Key)=Sum.inr b)=false:=decide_eq_false (λq=>nomatch q)
theorem zmB (a:Str)(b:Int):decide ((Sum.inr a:Key)=Sum.inl b)=false:=decide_eq_false (λq=>nomatch q)
def ziS (prog:Program)(w:World):PySem.KeyKind prog w Key where
 is:=zi2
 hash:=keyH w
 inj:=λv a b ha hb=>by
  rcases zbY ha with ⟨i,t,rfl,rfl⟩ | ⟨x,t,rfl,rfl⟩
  ·rcases zbY hb with ⟨j,u,rfl,e⟩ | ⟨y,u,rfl,e⟩
   ·injection e with e1 _; rw[e1]
   ·exact nomatch e
  ·rcases zbY hb with ⟨j,u,rfl,e⟩ | ⟨y,u,rfl,e⟩
   ·exact nomatch e
   ·injection e with e1 _; rw[e1]
 byValue:=λk v h=>by
  rcases zbY h with ⟨i,t,rfl,rfl⟩ | ⟨x,t,rfl,rfl⟩ <;> rfl
 pyHash:=λhv h=>by
  rcases zbY hv with ⟨i,t,rfl,rfl⟩ | ⟨x,t,rfl,rfl⟩
  ·exact wpAny_pyHash_int h
  ·exact wpAny_pyHash_str h
 eqBool:=λhu hv h=>by
  rcases zbY hu with ⟨i,t,rfl,rfl⟩ | ⟨x,t,rfl,rfl⟩
  ·rcases zbY hv with ⟨j,u,rfl,rfl⟩ | ⟨y,u,rfl,rfl⟩
   ·rw[zlw] at h; exact wpAny_eqBool_int h
   ·rw[zm2] at h; exact SeqAt.EqAt.int_str i t y u _ _ _ _ h
  ·rcases zbY hv with ⟨j,u,rfl,rfl⟩ | ⟨y,u,rfl,rfl⟩
   ·rw[zmB] at h; exact SeqAt.EqAt.str_int x t j u _ _ _ _ h
   ·rw[zmZ] at h; exact wpAny_eqBool_str h
 «strs»:=λk x t v h=>by
  rcases zbY h with ⟨i,u,rfl,e⟩ | ⟨y,u,rfl,e⟩
  ·exact nomatch e
  ·injection e with e1 _
   subst e1
   cases v <;> rfl
end L2
namespace L2
open PySem PySem.Spec PyProof.Rows
inductive V where
 | non | bl (b:Bool) | int (i:Int) | str (x:Str) | byt (b:Array UInt8) | flt (b:UInt64) | ref (a:Addr) | ty (n:String)
 deriving DecidableEq
def zag:V→Value→Prop
 | .non,u=>u=Value.none
 | .bl b,u=>u=Value.bool b
 | .int i,u=>∃t,u=Value.int i t
 | .str x,u=>∃t,u=Value.str x t
 | .byt b,u=>∃t,u=Value.bytes b t
 | .flt b,u=>∃t,u=Value.float b t
 | .ref a,u=>u=Value.ref a
 | .ty n,u=>u=Value.type n
abbrev zad:List V→List Value→Prop:=Paired zag
theorem zad.length {xs:List V}{us:List Value}(r:zad xs us):xs.length=us.length:=Paired.length r
theorem zad.get:∀ {xs:List V} {us:List Value} {i:Nat} {x:V},zad xs us→xs[i]?=some x→∃u,us[i]?=some u∧zag x u
 | _,_,_,_,.nil,e=>by simp at e
 | _,_,0,_,.cons r _,e=>by simp at e; subst e; exact⟨_,rfl,r⟩
 | _,_,i+1,x,.cons _ t,e=>by
  obtain⟨u,h1,h2⟩:=zad.get (i:=i) (x:=x) t (by simpa using e)
  exact⟨u,by simpa using h1,h2⟩
theorem zad.set {x:V}{u:Value}(r:zag x u):∀ {xs:List V} {us:List Value} (i:Nat),zad xs us→zad (xs.set i x) (us.set i u)
 | _,_,_,.nil=>.nil
 | _,_,0,.cons _ t=>.cons r t
 | _,_,i+1,.cons q t=>.cons q (zad.set r i t)
theorem zad.append:∀ {xs ys:List V} {us ws:List Value},zad xs us→zad ys ws→zad (xs++ys) (us++ws)
 | _,_,_,_,.nil,s=>s
 | _,_,_,_,.cons r t,s=>.cons r (zad.append t s)
theorem zad.take:∀ {xs:List V} {us:List Value} (n:Nat),zad xs us→zad (xs.take n) (us.take n)
 | _,_,0,_=>.nil
 | _,_,_+1,.nil=>.nil
 | _,_,n+1,.cons r t=>.cons r (zad.take n t)
theorem zad.drop:∀ {xs:List V} {us:List Value} (n:Nat),zad xs us→zad (xs.drop n) (us.drop n)
 | _,_,0,r=>r
 | _,_,_+1,.nil=>.nil
 | _,_,n+1,.cons _ t=>zad.drop n t
def zce:Option V→Option Value→Prop
 | some v,some u=>zag v u
 | none,none=>True
 | _,_=>False
def KV {κ:Type}:List (κ×V)→List (κ×Value)→Prop:=Paired λ(p:κ×V) (q:κ×Value)=>p.1=q.1∧zag p.2 q.2
def kV:Key→V
 | .inl i=>.int i
 | .inr x=>.str x
inductive HO where
  | lst (xs:List V)
  | tup (xs:List V)
  | dK (kvs:List (Key×V)) | dT (kvs:List (List Key×V))
  | set (S:Int→Bool) (n:Nat)
  | ins (C dx:Addr) (fs:List (Str×V))
  | own (x:Addr)
  | xd (fs:List (Str×V))
  | met (f x:Addr)
  | rng (lo hi:Int)
  | frz (o:Obj) (u:HO)
  | tbl (ps:Array Value)
  | ext (φ:Heap→Prop)
abbrev Hp:=Addr→Option HO
def upd (H:Hp)(a:Addr)(o:HO):Hp:=λb=>if b=a then some o else H b
theorem za6 {H:Hp}{a:Addr}{o:HO}:upd H a o a=some o:=by unfold upd; rw[if_pos rfl]
theorem zav {H:Hp}{a b:Addr}{o:HO}(h:b≠a):upd H a o b=H b:=by unfold upd; rw[if_neg h]
theorem zh8 {H:Hp}{a:Addr}{o u:HO}:upd (upd H a o) a u=upd H a u:=by
 funext b; unfold upd; split <;> rfl
theorem zeE {H:Hp}{a b:Addr}{o u:HO}(h:H a=some o)(h':H b=some u)(d:o≠u):a≠b:=by
 intro e; subst e; rw[h] at h'; exact d (Option.some.inj h')
theorem zcG {H:Hp}{a b:Addr}{o:HO}(h:H a=some o)(h':H b=none):a≠b:=by
 intro e; subst e; rw[h] at h'; cases h'
section
variable (P:Program)(w:World)
def za3 (H:Hp)(h:Heap)(a:Addr):HO→Prop
 | .lst xs=>xs.length≤sizeLine∧∃(its:List Value) (n:Nat),zad xs its∧h.get? a=some { cls:=.type "list",data:=.seq its.toArray n }
 | .tup xs=>xs.length≤sizeLine∧∃its:List Value,zad xs its∧IsTup h a its.toArray
 | .dK kvs=>kvs.length≤sizeLine∧(a==sysModules)=false∧∃vs,KV kvs vs∧h.DictOf (ziS P w) a vs
 | .dT kvs=>kvs.length≤sizeLine∧(a==sysModules)=false∧∃xs:List (List Key×Addr×Value),
   Paired (λ(p:List Key×V) (q:List Key×Addr×Value)=>p.1=q.1∧H q.2.1=some (.tup (p.1.map kV))∧zag p.2 q.2.2) kvs xs∧
   ∃o es ep,h.get? a=some o∧o.ExactDict∧o.data=.dict es ep∧es.toList=xs.map (entryOfKey (tupleKind (ziS P w)))∧(xs.map (·.1)).Nodup
 | .set S n=>h.SetOf (intKind P w) a S n
 | .ins C dx fs=>H dx=some (.own a)∧fs.length≤1000∧dx≠a∧h.get? a=some (PySem.W.instObj C dx)∧
   ∃mA,h.Ns1 dx mA∧(∀f,zce (fs.lookup f) (mA f))∧PySem.Within mA (fs.map (·.1))
 | .own _=>∃o,h.get? a=some o
 | .xd fs=>∃mA,h.Ns1 a mA∧∀f,zce (fs.lookup f) (mA f)
 | .rng lo hi=>∃t u v,h.get? a=some { cls:=.type "range",data:=.fields #[.int lo t,.int hi u,.int 1 v] }
 | .frz o u=>h.get? a=some o∧za3 H h a u
 | .tbl ps=>h.get? a=some { cls:=.none,data:=.fields ps }
 | .met f x=>h.get? a=some (PySem.W.methodObj (.ref f) (.ref x))
 | .ext φ=>φ h∧(∃o,h.get? a=some o)∧∀h1 h2:Heap,φ h1→(∀o,h1.get? a=some o→h2.get? a=some o)→φ h2
def HOk (H:Hp)(h:Heap):Prop:=∀a o,H a=some o→za3 P w H h a o
end
section
variable {P:Program}{w:World}{H H':Hp}{h h':Heap}{a:Addr}{o:HO}
theorem za3.lt (x:za3 P w H h a o):a<h.objs.size:=by
 cases o with
 | lst xs=>obtain⟨_,_,_,_,e⟩:=x; exact Heap.lt_size e
 | tup xs=>obtain⟨_,_,_,p⟩:=x; exact p.lt
 | dK kvs=>obtain⟨_,_,_,_,o,_,_,e,_⟩:=x; exact Heap.lt_size e
 | dT kvs=>obtain⟨_,_,_,_,o,_,_,e,_⟩:=x; exact Heap.lt_size e
 | set S n=>obtain⟨o,_,_,_,e,_⟩:=x; exact Heap.lt_size e
 | ins C dx fs=>obtain⟨_,_,_,e,_⟩:=x; exact Heap.lt_size e
 | own y=>obtain⟨_,e⟩:=x; exact Heap.lt_size e
 | xd fs=>obtain⟨_,⟨_,_,_,e,_⟩,_⟩:=x; exact Heap.lt_size e
 | rng lo hi=>obtain⟨_,_,_,e⟩:=x; exact Heap.lt_size e
 | frz ob u=>obtain⟨e,_⟩:=x; exact Heap.lt_size e
 | tbl ps=>exact Heap.lt_size (show h.get? a=some _ from x)
 | met f y=>exact Heap.lt_size (show h.get? a=some _ from x)
 | ext φ=>obtain⟨_,⟨_,e⟩,_⟩:=x; exact Heap.lt_size e
theorem Paired.mapP {α β:Type}{F G:α→β→Prop}:∀ {l₁:List α} {l₂:List β},Paired F l₁ l₂→(∀a b,F a b→G a b)→Paired G l₁ l₂
 | _,_,.nil,_=>.nil
 | _,_,.cons r t,f=>.cons (f _ _ r) (Paired.mapP t f)
theorem za3.stay (x:za3 P w H h a o)(k:∀b u,(b=a∨H b=some (.own a))→h.get? b=some u→h'.get? b=some u)
  (ho:∀b,H b=some (.own a)→H' b=some (.own a))(ht:∀b xs,H b=some (.tup xs)→H' b=some (.tup xs)):za3 P w H' h' a o:=by
 induction o with
 | lst xs=>obtain⟨z,its,n,r,e⟩:=x; exact⟨z,its,n,r,k _ _ (.inl rfl) e⟩
 | tup xs=>obtain⟨z,its,r,ob,e,c⟩:=x; exact⟨z,its,r,ob,k _ _ (.inl rfl) e,c⟩
 | dK kvs=>obtain⟨z,y,vs,r,ob,es,ep,e,c⟩:=x; exact⟨z,y,vs,r,ob,es,ep,k _ _ (.inl rfl) e,c⟩
 | dT kvs=>
  obtain⟨z,y,xs,r,ob,es,ep,e,c⟩:=x
  exact⟨z,y,xs,Paired.mapP r λp q z=>⟨z.1,ht _ _ z.2.1,z.2.2⟩,ob,es,ep,k _ _ (.inl rfl) e,c⟩
 | set S n=>obtain⟨ob,es,ep,t,e,c⟩:=x; exact⟨ob,es,ep,t,k _ _ (.inl rfl) e,c⟩
 | ins C dx fs=>
  obtain⟨d,z,ne,e,mA,⟨od,es,ep,e2,c⟩,r⟩:=x
  exact⟨ho _ d,z,ne,k _ _ (.inl rfl) e,mA,⟨od,es,ep,k _ _ (.inr d) e2,c⟩,r⟩
 | own y=>obtain⟨ob,e⟩:=x; exact⟨ob,k _ _ (.inl rfl) e⟩
 | xd fs=>obtain⟨mA,⟨od,es,ep,e,c⟩,r⟩:=x; exact⟨mA,⟨od,es,ep,k _ _ (.inl rfl) e,c⟩,r⟩
 | rng lo hi=>obtain⟨t,u,v,e⟩:=x; exact⟨t,u,v,k _ _ (.inl rfl) e⟩
 | frz ob u ih=>obtain⟨e,q⟩:=x; exact⟨k _ _ (.inl rfl) e,ih q⟩
 | tbl ps=>
  have e:h.get? a=some { cls:=.none,data:=.fields ps }:=x
  show h'.get? a=some { cls:=.none,data:=.fields ps }
  exact k a _ (.inl rfl) e
 | met f y=>
  have e:h.get? a=some (PySem.W.methodObj (.ref f) (.ref y)):=x
  show h'.get? a=some (PySem.W.methodObj (.ref f) (.ref y))
  exact k a _ (.inl rfl) e
 | ext φ=>obtain⟨p,⟨o,e⟩,st⟩:=x; exact⟨st _ _ p λo q=>k _ _ (.inl rfl) q,⟨o,k _ _ (.inl rfl) e⟩,st⟩
theorem HOk.lt (x:HOk P w H h)(e:H a=some o):a<h.objs.size:=(x a o e).lt
theorem HOk.fresh (x:HOk P w H h)(e:h.objs.size≤a):H a=none:=by
 cases q:H a with
 | none=>rfl
 | some u=>exact absurd (Vas (x.lt q) e) (Vav _)
theorem HOk.kept (x:HOk P w H h)(k:∀b u,h.get? b=some u→h'.get? b=some u):HOk P w H h':=λa o e=>
 (x a o e).stay (λb u _ q=>k b u q) (λ_ q=>q) λ_ _ q=>q
theorem HOk.laid (x:HOk P w H h)(k:∀b u,h.get? b=some u→h'.get? b=some u)(hp:h.objs.size≤a)(new:za3 P w (upd H a o) h' a o):HOk P w (upd H a o) h':=λb u e=>by
 have hn:=x.fresh hp
 by_cases hb:b=a
 ·subst hb; rw[za6] at e; cases e; exact new
 ·rw[zav hb] at e
  exact(x b u e).stay (λc v _ q=>k c v q) (λc q=>by rw[zav (zcG q hn)]; exact q) λc xs q=>by rw[zav (zcG q hn)]; exact q
end
def Rd (H:Hp)(a:Addr)(u:HO):Prop:=H a=some u∨∃o,H a=some (.frz o u)
theorem Rd.of {H:Hp}{a:Addr}{u:HO}(h:H a=some u):Rd H a u:=.inl h
theorem Rd.ok {P:Program}{w:World}{H:Hp}{h:Heap}{a:Addr}{u:HO}(r:Rd H a u)(x:HOk P w H h):za3 P w H h a u:=by
 rcases r with r | ⟨o,r⟩
 ·exact x a u r
 ·obtain⟨_,q⟩:=x a _ r
  exact q
def Mut:Option HO→Prop
 | some (.lst _)=>True
 | some (.dK _)=>True
 | some (.dT _)=>True
 | some (.set _ _)=>True
 | some (.ins _ _ _)=>True
 | some (.ext _)=>True
 | _=>False
section
variable {P:Program}{w:World}{H:Hp}{h h':Heap}{x e:Addr}{o':HO}
theorem HOk.write (ok:HOk P w H h)(mu:Mut (H x))(he:e=x∨H e=some (.own x))(k:∀b u,b≠e→h.get? b=some u→h'.get? b=some u)(heo:∃u,h'.get? e=some u)
  (new:za3 P w (upd H x o') h' x o'):HOk P w (upd H x o') h':=λb u q=>by
 have nown:∀c y,H c=some (.own y)→c≠x:=λc y r z=>by subst z; rw[r] at mu; exact mu
 have ntup:∀c xs,H c=some (.tup xs)→c≠x:=λc xs r z=>by subst z; rw[r] at mu; exact mu
 by_cases hb:b=x
 ·subst hb; rw[za6] at q; cases q; exact new
 ·rw[zav hb] at q
  by_cases hbe:b=e
  ·have q':H b=some (.own x):=by
    rcases he with z | z
    ·exact absurd (hbe.trans z) hb
    ·rw[hbe]; exact z
   rw[q] at q'; cases q'
   obtain⟨v,hv⟩:=heo
   exact⟨v,by rw[hbe]; exact hv⟩
  ·refine(ok b u q).stay (λc v hc r=>k c v ?_ r) (λc r=>by rw[zav (nown c b r)]; exact r) λc xs r=>by rw[zav (ntup c xs r)]; exact r
   rcases hc with rfl | hc
   ·exact hbe
   ·rintro rfl
    rcases he with z | z
    ·exact nown c b hc z
    ·rw[hc] at z; cases z; exact hb rfl
end
structure Un (fs ex:List Addr)(H H':Hp)(h h':Heap):Prop where
 keep:∀b o,h.get? b=some o→H b=none→b ∉ fs→b ∉ ex→h'.get? b=some o
 slot:∀b o,h.get? b=some o→H b=none→b∈fs→b ∉ ex→∃sl,h'.get? b=some { o with slots:=sl }
 free:∀b o,h.get? b=some o→H b=none→b ∉ ex→H' b=none
 there:∀b o,h.get? b=some o→b ∉ ex→∃o',h'.get? b=some o'
 tups:∀b xs,H b=some (.tup xs)→H' b=some (.tup xs)
 frzs:∀b o u,H b=some (.frz o u)→H' b=some (.frz o u)
 tbls:∀b ps,H b=some (.tbl ps)→∃more,H' b=some (.tbl (ps++more))
section
variable {fs fs' ex ex':List Addr}{H H1 H2:Hp}{h h1 h2 h':Heap}{a x e:Addr}{o:HO}
theorem Un.any (u:Un fs ex H H1 h h1){b:Addr}{ob:Obj}(q:h.get? b=some ob)(n:H b=none)(hx:b ∉ ex):∃sl,h1.get? b=some { ob with slots:=sl }:=by
 by_cases hb:b∈fs
 ·exact u.slot b ob q n hb hx
 ·exact⟨ob.slots,u.keep b ob q n hb hx⟩
theorem Un.trans (a:Un fs ex H H1 h h1)(b:Un fs ex H1 H2 h1 h2):Un fs ex H H2 h h2 where
 keep:=λc ob q n hc hx=>b.keep c ob (a.keep c ob q n hc hx) (a.free c ob q n hx) hc hx
 slot:=λc ob q n hc hx=>by
  obtain⟨sl,e1⟩:=a.slot c ob q n hc hx
  obtain⟨sl',e2⟩:=b.slot c _ e1 (a.free c ob q n hx) hc hx
  exact⟨sl',e2⟩
 free:=λc ob q n hx=>by
  obtain⟨o',e1⟩:=a.there c ob q hx
  exact b.free c o' e1 (a.free c ob q n hx) hx
 there:=λc ob q hx=>by
  obtain⟨o',e1⟩:=a.there c ob q hx
  exact b.there c o' e1 hx
 tups:=λc xs q=>b.tups c xs (a.tups c xs q)
 frzs:=λc ob xs q=>b.frzs c ob xs (a.frzs c ob xs q)
 tbls:=λc ps q=>by
  obtain⟨m1,e1⟩:=a.tbls c ps q
  obtain⟨m2,e2⟩:=b.tbls c _ e1
  exact⟨m1++m2,by rw[e2,Array.append_assoc]⟩
theorem Un.kept (k:∀b u,h.get? b=some u→h'.get? b=some u):Un fs ex H H h h':=
 ⟨λb ob q _ _ _=>k b ob q,λb ob q _ _ _=>⟨ob.slots,k b ob q⟩,λ_ _ _ n _=>n,λb ob q _=>⟨ob,k b ob q⟩,λ_ _ q=>q,λ_ _ _ q=>q,λ_ ps q=>⟨#[],by rw[q]; simp⟩⟩
theorem Un.refl:Un fs ex H H h h:=Un.kept λ_ _ q=>q
theorem Un.laid (k:∀b u,h.get? b=some u→h'.get? b=some u)(hp:h.objs.size≤a)(hn:H a=none):Un fs ex H (upd H a o) h h' where
 keep:=λb u q _ _ _=>k b u q
 slot:=λb u q _ _ _=>⟨u.slots,k b u q⟩
 free:=λb u q n _=>by rw[zav (Vai (Vas (Heap.lt_size q) hp))]; exact n
 there:=λb u q _=>⟨u,k b u q⟩
 tups:=λb xs q=>by rw[zav (zcG q hn)]; exact q
 frzs:=λb u xs q=>by rw[zav (zcG q hn)]; exact q
 tbls:=λb ps q=>⟨#[],by rw[zav (zcG q hn),q]; simp⟩
theorem Un.write (mu:Mut (H x))(he:e=x∨H e=some (.own x))(k:∀b u,b≠e→h.get? b=some u→h'.get? b=some u)(heo:∃u,h'.get? e=some u):Un fs ex H (upd H x o) h h':=by
 have hx:∀b,H b=none→b≠x:=λb n z=>by subst z; rw[n] at mu; exact mu
 have hb:∀b,H b=none→b≠e:=λb n z=>by
  subst z
  rcases he with r | r
  ·exact hx b n r
  ·rw[n] at r; cases r
 have hm:∀b u,H b=some u→¬ Mut (some u)→b≠x:=λb u q nm z=>by subst z; rw[q] at mu; exact nm mu
 refine⟨λb u q n _ _=>k b u (hb b n) q,λb u q n _ _=>⟨u.slots,k b u (hb b n) q⟩,λb u q n _=>by rw[zav (hx b n)]; exact n,λb u q _=>?_,
  λb xs q=>by rw[zav (hm b _ q λz=>z)]; exact q,λb u xs q=>by rw[zav (hm b _ q λz=>z)]; exact q,λb ps q=>⟨#[],by rw[zav (hm b _ q λz=>z),q]; simp⟩⟩
 by_cases hbe:b=e
 ·subst hbe; exact heo
 ·exact⟨u,k b u hbe q⟩
theorem Un.mono (u:Un fs ex H H1 h h1)(hs:∀b∈fs,b∈fs')(hx:∀b∈ex,b∈ex'):Un fs' ex' H H1 h h1:=
 ⟨λb ob q n hb he=>u.keep b ob q n (λz=>hb (hs b z)) λz=>he (hx b z),λ_ _ q n _ he=>u.any q n λz=>he (hx _ z),λb ob q n he=>u.free b ob q n λz=>he (hx b z),λb ob q he=>u.there b ob q λz=>he (hx b z),u.tups,u.frzs,u.tbls⟩
end
def trk (h:Heap)(H:Hp):List Addr:=(List.range h.objs.size).filter λa=>(H a).isSome
def zb1 (h:Heap)(H:Hp):Heap:=PySem.W.hideAll h (trk h H)
theorem zmP (h:Heap)(H:Hp):(zb1 h H).objs.size=h.objs.size:=PySem.W.hideAll_size _ _
theorem zkx {h:Heap}{H:Hp}{b:Addr}{o:Obj}(e:h.get? b=some o)(n:H b=none):(zb1 h H).get? b=some o:=
 PySem.W.hideAll_get _ e λhm=>by
  have q:(H b).isSome=true:=(VaK.mp hm).2
  rw[n] at q; simp at q
theorem zi7 {h:Heap}{H:Hp}{b:Addr}{o:Obj}(e:(zb1 h H).get? b=some o):h.get? b=some o∧H b=none:=by
 have e':h.get? b=some o:=PySem.W.of_hideAll (trk h H) e
 refine⟨e',?_⟩
 cases q:H b with
 | none=>rfl
 | some x=>
  have hm:b∈trk h H:=VaK.mpr ⟨Vaq.mpr (Heap.lt_size e'),by simp[q]⟩
  have z:(zb1 h H).get? b=none:=PySem.W.hideAll_none (trk h H) hm
  rw[z] at e; cases e
def zkO (g h:Heap)(L:Addr):List (Addr×Obj):=(List.range h.objs.size).filterMap λa=>if a=L∨(g.get? a).isSome=true then none else (h.get? a).map λo=>(a,o)
def za5 (g h:Heap)(L d:Addr):List (Addr×Obj):=(zkO g h L).filter λp=>decide (p.1≠d)
end L2
namespace L2
open PySem PySem.Spec PyProof.Rows
structure Mod (K:PySem.W.Frag)(mg:Str→Option Value)(base:Heap):Prop where
 kin:K.In base
 glob:base.Ns mainGlobals mg
 blt:∃mb,base.Ns builtinsNs mb∧∀x:Str,x≠"__name__"→mb x=bootBuiltins x
 nolimit:base.NoLimit
structure Cx where
 prog:Program
 w:World
 K:PySem.W.Frag
 mg:Str→Option Value
 base:Heap
 A:Around
 N:List Str
 s₀:Shared
 H₀:Hp
 env:Env
 outer:List Env
 stack:List Env
 ex:List Addr
 fn:Str→Bool
 calm:Bool
 pn:List (Addr×Obj)
 xe:Value→Shared→Prop
def frs (l:List Env):List Addr:=l.filterMap (·.frame)
abbrev Cx.fs (X:Cx):List Addr:=frs X.outer
def Vis (sc:Scope)(x:Str):Prop:=sc.names.lookup x=some .local∨sc.names.lookup x=some .cell∨sc.names.lookup x=some .free
def Loc (sc:Scope)(x:Str):Prop:=sc.names.lookup x=some .local∨sc.names.lookup x=some .cell
def Look (env:Env)(h:Heap)(m:Str→Option Value)(x:Str)(u:Value):Prop:=
 (env.kindOf x=some .local∧m x=some u)∨((env.kindOf x=some .cell∨env.kindOf x=some .free)∧∃c,env.cells.lookup x=some c∧h.IsCell c (some u))
structure Cx.Ok (X:Cx):Prop where
 mod:Mod X.K X.mg X.base
 kind:X.env.scope.kind=.function
 glob:X.env.globals=mainGlobals
 blt:X.env.builtins=builtinsNs
 above:X.s₀.heap.objs.size≤X.env.locals
 inj:∀x y c,X.env.cells.lookup x=some c→X.env.cells.lookup y=some c→x=y
 has:∀x,(X.env.kindOf x=some .cell∨X.env.kindOf x=some .free)→∃c,X.env.cells.lookup x=some c
 cab:∀x c,X.fn x=true→X.env.cells.lookup x=some c→X.s₀.heap.objs.size≤c
 hd:X.calm=true→X.A.handled=none
 frames:X.A.frames=some X.stack
 stk:X.stack=X.outer∨(X.stack=X.env::X.outer∧X.env.frame=some X.env.locals)
 exf:∀b∈X.ex,b≠X.env.locals∧∀x c,X.env.cells.lookup x=some c→c≠b
 bs:∀b o,X.base.get? b=some o→X.s₀.heap.get? b=some o∧X.H₀ b=none
 bsz:X.base.objs.size≤X.s₀.heap.objs.size
 noex:∀b o,X.base.get? b=some o→b ∉ X.ex
 exfs:∀b∈X.ex,b ∉ X.fs
 funs:X.s₀.heap.FunFrames X.base X.outer
 frf:∀b∈X.fs,X.H₀ b=none
structure Inv (X:Cx)(pins:List (Addr×Obj))(σ:List (Option V))(H:Hp)(s:Shared):Prop where
 ok:X.Ok
 os:s.os=X.s₀.os
 bare:AllBare s.gens
 base:Un X.fs X.ex X.H₀ H X.s₀.heap s.heap
 loc:∃m,s.heap.Ns X.env.locals m∧∀(i:Nat) (x:Str) (v:V),X.N[i]?=some x→σ[i]?=some (some v)→Vis X.env.scope x→∃u,zag v u∧Look X.env s.heap m x u
 cell:∀x c,X.env.cells.lookup x=some c→∃v,s.heap.IsCell c v
 free:H X.env.locals=none
 freeC:∀x c,X.env.cells.lookup x=some c→H c=none
 pin:∀p∈X.pn++pins,s.heap.get? p.1=some p.2∧H p.1=none∧p.1≠X.env.locals∧p.1 ∉ X.fs∧∀v,p.2.data≠.cell v
 hok:HOk X.prog X.w H s.heap
 len:σ.length=X.N.length
section
variable {X:Cx}{pins:List (Addr×Obj)}{σ:List (Option V)}{H H':Hp}{s:Shared}{h':Heap}
theorem Cx.Ok.nofr (ok:X.Ok){b:Addr}{o:Obj}(e:X.base.get? b=some o):b ∉ X.fs:=λhb=>by
 have:=(ok.funs.mem hb).1
 rw[e] at this; cases this
theorem Inv.bs (I:Inv X pins σ H s):∀b o,X.base.get? b=some o→s.heap.get? b=some o∧H b=none:=λb o e=>
 ⟨I.base.keep b o (I.ok.bs b o e).1 (I.ok.bs b o e).2 (I.ok.nofr e) (I.ok.noex b o e),I.base.free b o (I.ok.bs b o e).1 (I.ok.bs b o e).2 (I.ok.noex b o e)⟩
theorem Inv.bk (I:Inv X pins σ H s):∀b o,X.base.get? b=some o→s.heap.get? b=some o:=λb o e=>(I.bs b o e).1
theorem Inv.mod (I:Inv X pins σ H s):Mod X.K X.mg X.base:=I.ok.mod
theorem Inv.kIn (I:Inv X pins σ H s):X.K.In s.heap:=I.ok.mod.kin.keeps I.bk
theorem Inv.nolimit (I:Inv X pins σ H s):s.heap.NoLimit:=I.ok.mod.nolimit.keeps I.bk
theorem Inv.fr (I:Inv X pins σ H s):∃m,Fr X.base X.env.locals s.heap m:=
 let ⟨m,hn,_⟩:=I.loc
 ⟨m,hn,I.bk,Vau I.ok.bsz I.ok.above⟩
theorem Inv.lt (I:Inv X pins σ H s):X.env.locals<s.heap.objs.size:=let ⟨_,hn,_⟩:=I.loc; hn.lt
theorem Inv.sz (I:Inv X pins σ H s):X.s₀.heap.objs.size≤s.heap.objs.size:=Vau I.ok.above (VaG I.lt)
theorem Inv.nofs (I:Inv X pins σ H s){a:Addr}(h:s.heap.objs.size≤a):a ∉ X.fs:=λhb=>by
 obtain⟨_,o,ho,_⟩:=I.ok.funs.mem hb
 exact absurd (Vas (Heap.lt_size ho) (Vau I.sz h)) (Vav _)
theorem Inv.cne (I:Inv X pins σ H s):∀x c,X.env.cells.lookup x=some c→c≠X.env.locals:=λx c e z=>by
 obtain⟨v,o,ho,hd⟩:=I.cell x c e
 obtain⟨m,⟨o',es,ep,ho',hd',_⟩,_⟩:=I.loc
 rw[z,ho'] at ho; cases ho; rw[hd'] at hd; cases hd
theorem Inv.funs (I:Inv X pins σ H s):s.heap.FunFrames X.base X.outer:=by
 have all:∀(l:List Env),(∀b∈frs l,b∈X.fs)→X.s₀.heap.FunFrames X.base l→s.heap.FunFrames X.base l:=by
  intro l
  induction l with
  | nil=>intro _ _; trivial
  | cons env r ih=>
   intro hs hl
   obtain⟨hk,⟨L,o,hf,hn,ho,hd⟩,hr⟩:=hl
   have hL:L∈X.fs:=hs L (by unfold frs; rw[List.filterMap_cons,hf]; exact VaQ)
   obtain⟨sl,e⟩:=I.base.slot L o ho (I.ok.frf L hL) hL λz=>I.ok.exfs L z hL
   exact⟨hk,⟨L,_,hf,hn,e,hd⟩,ih (λb hb=>hs b (by unfold frs; rw[List.filterMap_cons,hf]; exact VaE _ hb)) hr⟩
 exact all X.outer (λ_ hb=>hb) I.ok.funs
theorem Inv.stack (I:Inv X pins σ H s):s.heap.FunFrames X.base X.stack:=by
 rcases I.ok.stk with e | ⟨e,hf⟩
 ·rw[e]; exact I.funs
 ·rw[e]
  obtain⟨m,hn,_⟩:=I.loc
  refine .cons (by rw[I.ok.kind]; decide) hf hn ?_ I.funs
  exact Heap.get?_none_of_le (Vau I.ok.bsz I.ok.above)
theorem Inv.stkSub (I:Inv X pins σ H s):∀b∈frs X.stack,b∈X.env.locals::X.fs:=λb hb=>by
 rcases I.ok.stk with e | ⟨e,hf⟩
 ·rw[e] at hb; exact VaE _ hb
 ·rw[e] at hb
  unfold frs at hb
  rw[List.filterMap_cons,hf] at hb
  exact hb
theorem Inv.stkFree (I:Inv X pins σ H s):∀b∈frs X.stack,H b=none:=λb hb=>by
 rcases Vam.mp (I.stkSub b hb) with e | hb
 ·rw[e]; exact I.free
 ·obtain⟨_,o,ho,_⟩:=I.ok.funs.mem hb
  exact I.base.free b o ho (I.ok.frf b hb) λz=>I.ok.exfs b z hb
theorem Inv.step {g':Array GenState}{t':Nat}{d':Drawn}{ch:List Addr}(I:Inv X pins σ H s)
  (hch:∀b∈ch,(b∈X.ex∨X.s₀.heap.objs.size≤b)∧b≠X.env.locals∧(∀x c,X.env.cells.lookup x=some c→c≠b)∧∀p∈X.pn++pins,p.1≠b)
  (keep:∀b o,b≠X.env.locals→b ∉ X.fs→b ∉ ch→s.heap.get? b=some o→H b=none→h'.get? b=some o)
  (slot:∀b o,b≠X.env.locals→b∈X.fs→b ∉ ch→s.heap.get? b=some o→H b=none→∃sl,h'.get? b=some { o with slots:=sl })(free:∀b o,b ∉ ch→s.heap.get? b=some o→H b=none→H' b=none)
  (there:∀b o,b ∉ ch→s.heap.get? b=some o→∃o',h'.get? b=some o')
  (tups:∀b xs,H b=some (.tup xs)→H' b=some (.tup xs))(frzs:∀b o u,H b=some (.frz o u)→H' b=some (.frz o u))(tbls:∀b ps,H b=some (.tbl ps)→∃more,H' b=some (.tbl (ps++more)))
  (ns:∀m,s.heap.Ns X.env.locals m→h'.Ns X.env.locals m)(hok:HOk X.prog X.w H' h')(hg:AllBare g'):
  Inv X pins σ H' { s with heap:=h',gens:=g',drawn:=d',toks:=t' }:=by
 have neL:∀b o,X.s₀.heap.get? b=some o→b≠X.env.locals:=λb o e=>Vai (Vas (Heap.lt_size e) I.ok.above)
 have neC:∀b o,X.s₀.heap.get? b=some o→b ∉ X.ex→b ∉ ch:=λb o e hx hb=>by
  rcases (hch b hb).1 with z | z
  ·exact hx z
  ·exact absurd (Vas (Heap.lt_size e) z) (Vav _)
 have cellK:∀x c,X.env.cells.lookup x=some c→∀v,s.heap.IsCell c v→h'.IsCell c v:=λx c e v ⟨o,ho,hd⟩=>by
  have nch:c ∉ ch:=λz=>(hch c z).2.2.1 x c e rfl
  by_cases hc:c∈X.fs
  ·obtain⟨sl,q⟩:=slot c o (I.cne x c e) hc nch ho (I.freeC x c e)
   exact⟨_,q,hd⟩
  ·exact⟨o,keep c o (I.cne x c e) hc nch ho (I.freeC x c e),hd⟩
 refine⟨I.ok,I.os,hg,⟨λb o e n hb hx=>?_,λb o e n hb hx=>?_,λb o e n hx=>?_,λb o e hx=>?_,λb xs e=>tups b xs (I.base.tups b xs e),λb o xs e=>frzs b o xs (I.base.frzs b o xs e),λb ps e=>?_⟩,?_,λx c e=>?_,?_,λx c e=>?_,λp hp=>?_,hok,I.len⟩
 ·exact keep b o (neL b o e) hb (neC b o e hx) (I.base.keep b o e n hb hx) (I.base.free b o e n hx)
 ·obtain⟨sl,e1⟩:=I.base.slot b o e n hb hx
  obtain⟨sl',e2⟩:=slot b _ (neL b o e) hb (neC b o e hx) e1 (I.base.free b o e n hx)
  exact⟨sl',e2⟩
 ·obtain⟨o',e1⟩:=I.base.there b o e hx
  exact free b o' (neC b o e hx) e1 (I.base.free b o e n hx)
 ·obtain⟨o',e1⟩:=I.base.there b o e hx
  exact there b o' (neC b o e hx) e1
 ·obtain⟨m1,e1⟩:=I.base.tbls b ps e
  obtain⟨m2,e2⟩:=tbls b _ e1
  exact⟨m1++m2,by rw[e2,Array.append_assoc]⟩
 ·obtain⟨m,hn,hl⟩:=I.loc
  refine⟨m,ns m hn,λi x v e1 e2 e3=>?_⟩
  obtain⟨u,r,l⟩:=hl i x v e1 e2 e3
  refine⟨u,r,?_⟩
  rcases l with l | ⟨k,c,e,z⟩
  ·exact .inl l
  ·exact .inr ⟨k,c,e,cellK x c e _ z⟩
 ·obtain⟨v,z⟩:=I.cell x c e
  exact⟨v,cellK x c e v z⟩
 ·obtain⟨m,⟨o,_,_,ho,_⟩,_⟩:=I.loc
  exact free _ o (λz=>(hch _ z).2.1 rfl) ho I.free
 ·obtain⟨v,o,ho,hd⟩:=I.cell x c e
  exact free c o (λz=>(hch c z).2.2.1 x c e rfl) ho (I.freeC x c e)
 ·obtain⟨e,n,ne,nf,d⟩:=I.pin p hp
  have nch:p.1 ∉ ch:=λz=>(hch p.1 z).2.2.2 p hp rfl
  exact⟨keep p.1 p.2 ne nf nch e n,free p.1 p.2 nch e n,ne,nf,d⟩
theorem Inv.un {t':Nat}(I:Inv X pins σ H s)(u:Un X.fs [] H H' s.heap h')(hok:HOk X.prog X.w H' h'):Inv X pins σ H' { s with heap:=h',toks:=t' }:=by
 obtain⟨m,⟨o,es,ep,ho,r⟩,_⟩:=id I.loc
 obtain⟨sl,hL⟩:=u.any ho I.free (by simp)
 exact I.step (g':=s.gens) (d':=s.drawn) (ch:=[]) (λ_ z=>nomatch z) (λb o _ hb _ e n=>u.keep b o e n hb (by simp)) (λb o _ hb _ e n=>u.slot b o e n hb (by simp)) (λb o _ e n=>u.free b o e n (by simp)) (λb o _ e=>u.there b o e (by simp)) u.tups u.frzs u.tbls (λm' hm=>by
  obtain⟨o',es',ep',ho',r'⟩:=hm
  rw[ho] at ho'; cases ho'
  exact⟨_,es',ep',hL,r'⟩) hok I.bare
theorem Inv.call {g':Array GenState}{t':Nat}{d':Drawn}{ch:List Addr}(I:Inv X pins σ H s)(u:Un (frs X.stack) ch H H' s.heap h')(hok:HOk X.prog X.w H' h')(hg:AllBare g')
  (hch:∀b∈ch,(b∈X.ex∨X.s₀.heap.objs.size≤b)∧b≠X.env.locals∧(∀x c,X.env.cells.lookup x=some c→c≠b)∧∀p∈X.pn++pins,p.1≠b):
  Inv X pins σ H' { s with heap:=h',gens:=g',drawn:=d',toks:=t' }:=by
 obtain⟨m,⟨o,es,ep,ho,r⟩,_⟩:=id I.loc
 obtain⟨sl,hL⟩:=u.any ho I.free λz=>(hch _ z).2.1 rfl
 exact I.step (ch:=ch) hch (λb o hL hb hc e n=>u.keep b o e n (λz=>(Vam.mp (I.stkSub b z)).elim hL hb) hc) (λb o _ _ hc e n=>u.any e n hc) (λb o hc e n=>u.free b o e n hc) (λb o hc e=>u.there b o e hc) u.tups u.frzs u.tbls (λm' hm=>by
  obtain⟨o',es',ep',ho',r'⟩:=hm
  rw[ho] at ho'; cases ho'
  exact⟨_,es',ep',hL,r'⟩) hok hg
theorem Inv.turned {t':Nat}{it:Addr}(I:Inv X pins σ H s)(k:∀b o,b≠it→s.heap.get? b=some o→h'.get? b=some o)(hn:H it=none)(hL:it≠X.env.locals)
  (h1:it∈X.ex∨X.s₀.heap.objs.size≤it)(h2:∀x c,X.env.cells.lookup x=some c→c≠it)(h3:∀p∈X.pn++pins,p.1≠it):Inv X pins σ H { s with heap:=h',toks:=t' }:=by
 have nit:∀b u,H b=some u→b≠it:=λb u e z=>by rw[z,hn] at e; cases e
 refine I.step (g':=s.gens) (d':=s.drawn) (ch:=[it]) (λb hb=>?_) (λb o _ _ hc e _=>k b o (λz=>hc (by simp[z])) e) (λb o _ _ hc e _=>⟨o.slots,k b o (λz=>hc (by simp[z])) e⟩) (λ_ _ _ _ n=>n)
  (λb o hc e=>⟨o,k b o (λz=>hc (by simp[z])) e⟩) (λ_ _ e=>e) (λ_ _ _ e=>e) (λb ps e=>⟨#[],by rw[e]; simp⟩) (λm hm=>?_) (λb u e=>?_) I.bare
 ·have e:b=it:=by simpa using hb
  subst e
  exact⟨h1,hL,h2,h3⟩
 ·obtain⟨o,es,ep,ho,r⟩:=hm
  exact⟨o,es,ep,k _ o (Ne.symm hL) ho,r⟩
 ·refine(I.hok b u e).stay (λc v hc q=>k c v ?_ q) (λ_ q=>q) λ_ _ q=>q
  rcases hc with z | z
  ·rw[z]; exact nit b u e
  ·exact nit c _ z
theorem Inv.tok (I:Inv X pins σ H s)(t:Nat):Inv X pins σ H { s with toks:=t }:=I.un (h':=s.heap) (t':=t) Un.refl I.hok
theorem Inv.kept {t':Nat}(I:Inv X pins σ H s)(k:∀b u,s.heap.get? b=some u→h'.get? b=some u):Inv X pins σ H { s with heap:=h',toks:=t' }:=I.un (Un.kept k) (I.hok.kept k)
theorem Inv.laid {a:Addr}{o:HO}{t':Nat}(I:Inv X pins σ H s)(k:∀b u,s.heap.get? b=some u→h'.get? b=some u)(hp:s.heap.objs.size≤a)(new:za3 X.prog X.w (upd H a o) h' a o):
  Inv X pins σ (upd H a o) { s with heap:=h',toks:=t' }:=I.un (Un.laid k hp (I.hok.fresh hp)) (I.hok.laid k hp new)
theorem Inv.write {x e:Addr}{o:HO}{t':Nat}(I:Inv X pins σ H s)(mu:Mut (H x))(he:e=x∨H e=some (.own x))(k:∀b u,b≠e→s.heap.get? b=some u→h'.get? b=some u)(heo:∃u,h'.get? e=some u)
  (new:za3 X.prog X.w (upd H x o) h' x o):Inv X pins σ (upd H x o) { s with heap:=h',toks:=t' }:=I.un (Un.write mu he k heo) (I.hok.write mu he k heo new)
theorem Inv.pins_of {pins':List (Addr×Obj)}(I:Inv X pins σ H s)(h:∀p∈pins',s.heap.get? p.1=some p.2∧H p.1=none∧p.1≠X.env.locals∧p.1 ∉ X.fs∧∀v,p.2.data≠.cell v):Inv X pins' σ H s:=
 ⟨I.ok,I.os,I.bare,I.base,I.loc,I.cell,I.free,I.freeC,λp hp=>(VaW.mp hp).elim (λz=>I.pin p (List.mem_append_left _ z)) (h p),I.hok,I.len⟩
theorem zhT {N:List Str}(hN:N.Nodup){i j:Nat}{x:Str}(a:N[i]?=some x)(b:N[j]?=some x):i=j:=by
 obtain⟨h1,e1⟩:=Vac.mp a
 obtain⟨h2,e2⟩:=Vac.mp b
 exact(List.getElem_inj hN).mp (e1.trans e2.symm)
theorem zi6 {M:Model}{A:Around}{E:Value→Shared→Prop}{i:Nat}{x:Str}{v:V}{u:Value}{Q:Unit→Shared→Prop}(I:Inv X pins σ H s)(hN:X.N.Nodup)(hi:X.N[i]?=some x)(hx:Loc X.env.scope x)(r:zag v u)
  (h:∀s',Inv X pins (σ.set i (some v)) H s'→(∃a,Heap.SameBut a s.heap s'.heap∧(a=X.env.locals∨X.env.cells.lookup x=some a))→Q () s')(hf:X.fn x=true∨X.env.scope.names.lookup x=some .local:=by first | exact .inl rfl | exact .inr rfl | assumption):wpAny M A (storeName X.env x u) Q E s:=by
 obtain⟨m,hn,hl⟩:=id I.loc
 have hcls:(X.env.scope.kind==.class||(X.env.scope.kind==.module&&X.env.locals != X.env.globals))=false:=by rw[I.ok.kind]; rfl
 have hiσ:i<σ.length:=by rw[I.len]; exact(Vac.mp hi).1
 have cne:=I.cne
 have tracked:∀ {a:Addr} {h':Heap},(∃o,s.heap.get? a=some o∧H a=none)→Heap.SameBut a s.heap h'→HOk X.prog X.w H h':=λ{a h'} ha hs b ob e=>by
  obtain⟨_,_,hfree⟩:=ha
  refine(I.hok b ob e).stay (λc w' hc q=>(hs.2 c ?_).trans q) (λ_ q=>q) λ_ _ q=>q
  rintro rfl
  rcases hc with rfl | hc
  ·rw[hfree] at e; cases e
  ·rw[hfree] at hc; cases hc
 rcases hx with hk | hk
 ·refine wpAny_storeName_local hk hn (λh' hn' hs=>?_) hcls
  obtain⟨oL,_,_,hoL,_⟩:=id hn
  refine h _ ⟨I.ok,I.os,I.bare,⟨λb o e n hb hx=>?_,λb o e n hb hx=>?_,I.base.free,λb o e hx=>?_,I.base.tups,I.base.frzs,I.base.tbls⟩,⟨_,hn',λj y v' e1 e2 e3=>?_⟩,λy c e=>?_,I.free,I.freeC,λp hp=>?_,tracked ⟨oL,hoL,I.free⟩ hs,by simpa using I.len⟩ ⟨_,hs,.inl rfl⟩
  ·exact(hs.2 b (Vai (Vas (Heap.lt_size e) I.ok.above))).trans (I.base.keep b o e n hb hx)
  ·obtain⟨sl,e1⟩:=I.base.slot b o e n hb hx
   exact⟨sl,(hs.2 b (Vai (Vas (Heap.lt_size e) I.ok.above))).trans e1⟩
  ·obtain⟨o',e1⟩:=I.base.there b o e hx
   exact⟨o',(hs.2 b (Vai (Vas (Heap.lt_size e) I.ok.above))).trans e1⟩
  ·by_cases hj:j=i
   ·subst hj
    rw[hi] at e1; cases e1
    rw[VaX hiσ] at e2
    cases e2
    exact⟨u,r,.inl ⟨hk,by simp⟩⟩
   ·rw[VaR (Ne.symm hj)] at e2
    obtain⟨u',r',q⟩:=hl j y v' e1 e2 e3
    refine⟨u',r',?_⟩
    rcases q with ⟨k,e⟩ | ⟨k,c,e,z⟩
    ·refine .inl ⟨k,?_⟩
     have:y≠x:=λe=>hj (zhT hN e1 (e ▸ hi))
     simp[this,e]
    ·exact .inr ⟨k,c,e,z.sameBut hs (cne y c e)⟩
  ·obtain⟨w',z⟩:=I.cell y c e
   exact⟨w',z.sameBut hs (cne y c e)⟩
  ·obtain⟨e,n,ne,nf,d⟩:=I.pin p hp
   exact⟨(hs.2 p.1 ne).trans e,n,ne,nf,d⟩
 ·have hfn:X.fn x=true:=by
   rcases hf with z | z
   ·exact z
   ·rw[z] at hk; cases hk
  obtain⟨c,hc⟩:=I.ok.has x (.inl hk)
  obtain⟨w',z⟩:=I.cell x c hc
  refine wpAny_storeName_cell I.ok.kind hk hc z (λh' hc' hs=>?_)
  obtain⟨oc,hoc,hocd⟩:=id z
  refine h { s with heap:=h' } ⟨I.ok,I.os,I.bare,⟨λb o e n hb hx=>?_,λb o e n hb hx=>?_,I.base.free,λb o e hx=>?_,I.base.tups,I.base.frzs,I.base.tbls⟩,⟨m,hn.sameBut hs (Ne.symm (cne x c hc)),λj y v' e1 e2 e3=>?_⟩,λy c' e=>?_,I.free,I.freeC,λp hp=>?_,tracked ⟨oc,hoc,I.freeC x c hc⟩ hs,by simpa using I.len⟩ ⟨c,hs,.inr hc⟩
  ·exact(hs.2 b (Vai (Vas (Heap.lt_size e) (I.ok.cab x c hfn hc)))).trans (I.base.keep b o e n hb hx)
  ·obtain⟨sl,e1⟩:=I.base.slot b o e n hb hx
   exact⟨sl,(hs.2 b (Vai (Vas (Heap.lt_size e) (I.ok.cab x c hfn hc)))).trans e1⟩
  ·obtain⟨o',e1⟩:=I.base.there b o e hx
   exact⟨o',(hs.2 b (Vai (Vas (Heap.lt_size e) (I.ok.cab x c hfn hc)))).trans e1⟩
  ·by_cases hj:j=i
   ·subst hj
    rw[hi] at e1; cases e1
    rw[VaX hiσ] at e2
    cases e2
    exact⟨u,r,.inr ⟨.inl hk,c,hc,hc'⟩⟩
   ·rw[VaR (Ne.symm hj)] at e2
    obtain⟨u',r',q⟩:=hl j y v' e1 e2 e3
    refine⟨u',r',?_⟩
    rcases q with q | ⟨k,c',e,z'⟩
    ·exact .inl q
    ·refine .inr ⟨k,c',e,z'.sameBut hs ?_⟩
     rintro rfl
     exact hj (zhT hN e1 (I.ok.inj _ _ _ e hc ▸ hi))
  ·by_cases hcc:c'=c
   ·subst hcc; exact⟨_,hc'⟩
   ·obtain⟨w2,z2⟩:=I.cell y c' e
    exact⟨w2,z2.sameBut hs hcc⟩
  ·obtain⟨e,n,ne,nf,d⟩:=I.pin p hp
   refine⟨(hs.2 p.1 ?_).trans e,n,ne,nf,d⟩
   intro q
   rw[q,hoc] at e
   have q':oc=p.2:=Option.some.inj e
   exact d w' (by rw[← q']; exact hocd)
theorem zhp {M:Model}{A:Around}{E:Value→Shared→Prop}{i:Nat}{x:Str}{v:V}{u:Value}{Q:Unit→Shared→Prop}(I:Inv X pins σ H s)(hN:X.N.Nodup)(hi:X.N[i]?=some x)(hx:Loc X.env.scope x)(r:zag v u)
  (h:∀s',Inv X pins (σ.set i (some v)) H s'→Q () s')(hf:X.fn x=true∨X.env.scope.names.lookup x=some .local:=by first | exact .inl rfl | exact .inr rfl | assumption):wpAny M A (storeName X.env x u) Q E s:=
 zi6 I hN hi hx r (λs' I' _=>h s' I') hf
theorem Inv.call' {s':Shared}{ch:List Addr}(I:Inv X pins σ H s)(ho:s'.os=s.os)(u:Un (frs X.stack) ch H H' s.heap s'.heap)(hok:HOk X.prog X.w H' s'.heap)(hg:AllBare s'.gens)
  (hch:∀b∈ch,(b∈X.ex∨X.s₀.heap.objs.size≤b)∧b≠X.env.locals∧(∀x c,X.env.cells.lookup x=some c→c≠b)∧∀p∈X.pn++pins,p.1≠b):Inv X pins σ H' s':=by
 obtain⟨h',g',d',t',o'⟩:=s'
 have e:o'=s.os:=ho
 subst e
 exact I.call (g':=g') (t':=t') (d':=d') u hok hg hch
end
abbrev XK:=Value→Option Addr→Hp→Prop
abbrev St:=List (Option V)
abbrev VK:=V→Hp→Prop
abbrev TE:=St→Hp→VK→Prop
abbrev TT:=St→Hp→(Bool→Hp→Prop)→Prop
abbrev TA:=St→Hp→(List V→Hp→Prop)→Prop
structure zci where
 nx:St→Hp→Prop
 rt:VK
 bk:St→Hp→Prop:=λ_ _=>False
 ct:St→Hp→Prop:=λ_ _=>False
abbrev TS:=zci→St→Hp→Prop
def EP (X:Cx)(pins:List (Addr×Obj))(σ:St)(Q:VK)(u:Value)(s':Shared):Prop:=∃v H',Inv X pins σ H' s'∧zag v u∧Q v H'
def TP (X:Cx)(pins:List (Addr×Obj))(σ:St)(Q:Bool→Hp→Prop)(b:Bool)(s':Shared):Prop:=∃H',Inv X pins σ H' s'∧Q b H'
def AP (X:Cx)(pins:List (Addr×Obj))(σ:St)(Q:List V→Hp→Prop)(us:List Value)(s':Shared):Prop:=∃vs H',Inv X pins σ H' s'∧zad vs us∧Q vs H'
def SP (X:Cx)(pins:List (Addr×Obj))(D:zci)(f:Flow)(s':Shared):Prop:=
 match f with
 | .next=>∃σ' H',Inv X pins σ' H' s'∧D.nx σ' H'
 | .brk=>∃σ' H',Inv X pins σ' H' s'∧D.bk σ' H'
 | .cont=>∃σ' H',Inv X pins σ' H' s'∧D.ct σ' H'
 | .ret u=>∃v σ' H',Inv X pins σ' H' s'∧zag v u∧D.rt v H'
def PE (X:Cx)(e:Expr)(t:TE):Prop:=
 ∀(pins:List (Addr×Obj)) (s:Shared) (σ:St) (H:Hp) (Q:VK),Inv X pins σ H s→t σ H Q→wpAny (model X.prog X.w) X.A (eval e X.env) (EP X pins σ Q) X.xe s
def PT (X:Cx)(e:Expr)(t:TT):Prop:=
 ∀(pins:List (Addr×Obj)) (s:Shared) (σ:St) (H:Hp) (Q:Bool→Hp→Prop),Inv X pins σ H s→t σ H Q→wpAny (model X.prog X.w) X.A (isTrue e X.env (eval e X.env)) (TP X pins σ Q) X.xe s
def PW (X:Cx)(e:Expr)(t:TT):Prop:=
 ∀(whole:Sem Value) (pins:List (Addr×Obj)) (s:Shared) (σ:St) (H:Hp) (Q:Bool→Hp→Prop),Inv X pins σ H s→t σ H Q→wpAny (model X.prog X.w) X.A (isTrue e X.env whole) (TP X pins σ Q) X.xe s
theorem PW.pt {X:Cx}{e:Expr}{t:TT}(h:PW X e t):PT X e t:=h _
def PA (X:Cx)(es:List Expr)(t:TA):Prop:=
 ∀(pos:Pos) (pins:List (Addr×Obj)) (s:Shared) (σ:St) (H:Hp) (Q:List V→Hp→Prop),Inv X pins σ H s→t σ H Q→wpAny (model X.prog X.w) X.A (spliced (backTo pos (starEach es X.env))) (AP X pins σ Q) X.xe s
def PS (X:Cx)(st:Stmt)(t:TS):Prop:=
 ∀(pins:List (Addr×Obj)) (s:Shared) (σ:St) (H:Hp) (D:zci),Inv X pins σ H s→t D σ H→wpAny (model X.prog X.w) X.A (exec st X.env) (SP X pins D) X.xe s
def PSs (X:Cx)(st:List Stmt)(t:TS):Prop:=
 ∀(pins:List (Addr×Obj)) (s:Shared) (σ:St) (H:Hp) (D:zci),Inv X pins σ H s→t D σ H→wpAny (model X.prog X.w) X.A (execs st X.env) (SP X pins D) X.xe s
theorem thn {α:Type}{t:Sem α}{Q Q':α→Shared→Prop}{M:Model}{A:Around}{E:Value→Shared→Prop}{s:Shared}(h:wpAny M A t Q E s)(hQ:∀a s,Q a s→Q' a s):wpAny M A t Q' E s:=wpAny_mono h hQ λ_ _ x=>x
end L2
namespace L2
open PySem PySem.Spec PyProof.Rows
section
variable {X:Cx}
def tVar (i:Nat):TE:=λσ H Q=>∃v,σ[i]?=some (some v)∧Q v H
def tC (v:V):TE:=λ_ H Q=>Q v H
theorem zic {i:Nat}{x:Str}{pos:Pos}(hN:X.N[i]?=some x)(hv:Vis X.env.scope x)(hd:(x==("__debug__":Str))=false:=by decide)(hcd:(x==("__classdict__":Str))=false:=by decide):PE X (.Name x pos) (tVar i):=by
 intro pins s σ H Q I h
 obtain⟨v,e,h⟩:=h
 obtain⟨m,hn,hl⟩:=I.loc
 obtain⟨u,r,l⟩:=hl i x v hN e hv
 have fin:EP X pins σ Q u s:=⟨v,H,I,r,h⟩
 rcases l with ⟨hk,hm⟩ | ⟨hk,c,hc,hcell⟩
 ·exact wpAny_Name (wpAny_loadName_local I.ok.kind hk hn hm fin) hd
 ·rcases hk with hk | hk
  ·exact wpAny_Name (wpAny_loadName_cell I.ok.kind hk hc hcell fin) hd
  ·exact wpAny_Name (wpAny_loadName_free I.ok.kind hk hc hcell fin hcd) hd
theorem zlS {i j pos}:PE X (.Constant (.int i) j pos) (tC (.int i)):=λ_ _ _ H _ I h=>wpAny_Constant_int ⟨.int i,H,I.tok _,⟨_,rfl⟩,h⟩
theorem pe_bl {b j pos}:PE X (.Constant (.bool b) j pos) (tC (.bl b)):=λ_ _ _ H _ I h=>Constant_bool ⟨.bl b,H,I,rfl,h⟩
theorem zkV {j pos}:PE X (.Constant .none j pos) (tC .non):=λ_ _ _ H _ I h=>Constant_none ⟨.non,H,I,rfl,h⟩
def Gl (X:Cx)(x:Str):Prop:=X.env.kindOf x=some .globalImplicit
theorem zln {E:Value→Shared→Prop}{pins:List (Addr×Obj)}{s:Shared}{σ:St}{H:Hp}{x:Str}{u:Value}{pos:Pos}{Q:Value→Shared→Prop}(I:Inv X pins σ H s)(hg:Gl X x)(hm:X.mg x=some u)(h:Q u s)
  (hd:(x==("__debug__":Str))=false:=by decide):wpAny (model X.prog X.w) X.A (eval (.Name x pos) X.env) Q E s:=
 Calls.Name_function_global I.ok.kind hg (Calls.loadGlobal_global (by rw[I.ok.glob]; exact I.mod.glob.keeps I.bk) hm h) hd
theorem zdi {E:Value→Shared→Prop}{pins:List (Addr×Obj)}{s:Shared}{σ:St}{H:Hp}{x:Str}{u:Value}{pos:Pos}{Q:Value→Shared→Prop}(I:Inv X pins σ H s)(hg:Gl X x)(hm:X.mg x=none)(hv:bootBuiltins x=some u)(h:Q u s)
  (hn:x≠"__name__":=by decide)(hd:(x==("__debug__":Str))=false:=by decide):wpAny (model X.prog X.w) X.A (eval (.Name x pos) X.env) Q E s:=by
 obtain⟨mb,h1,h2⟩:=I.mod.blt
 exact Calls.Name_function_global I.ok.kind hg (Calls.loadGlobal_builtin (by rw[I.ok.glob]; exact I.mod.glob.keeps I.bk) hm (by rw[I.ok.blt]; exact h1.keeps I.bk) ((h2 x hn).trans hv) h) hd
variable {a b:Expr}{ta tb:TE}{pos:Pos}
def tB (t:TE):TT:=λσ H Q=>t σ H λx H1=>∃c,x=.bl c∧Q c H1
theorem zmx {e:Expr}{t:TE}(h:PE X e t)(he:∀whole,isTrue e X.env whole=(do let v ← whole; standAt e.pos; holding [v] (truthy v)):=by intro _; rfl):PT X e (tB t):=by
 intro pins s σ H Q I hw
 refine isTrue_plain (thn (h pins s σ H _ I hw) λv s1 ⟨x,H1,I1,r1,q1⟩=>?_) (he _)
 obtain⟨d,rfl,q⟩:=q1
 cases r1
 exact wpAny_truthy_bool ⟨H1,I1,q⟩
variable {tA tB':TT}{za5:List Expr}
def tAnd (t u:TT):TT:=λσ H Q=>t σ H λc H1=>if c=true then u σ H1 Q else Q false H1
def tOr (t u:TT):TT:=λσ H Q=>t σ H λc H1=>if c=true then Q true H1 else u σ H1 Q
def tNot (t:TT):TT:=λσ H Q=>t σ H λc H1=>Q (!c) H1
theorem zks (ha:PT X a tA):PW X (.BoolOp .And [a] pos) tA:=by
 intro wh pins s σ H Q I h
 refine isTrue_and (thn (ha pins s σ H Q I h) λc s1 e=>?_)
 cases c with
 | true=>exact isTrue_and_nil e
 | false=>exact e
theorem zj4 (ha:PT X a tA):PW X (.BoolOp .Or [a] pos) tA:=by
 intro wh pins s σ H Q I h
 refine isTrue_or (thn (ha pins s σ H Q I h) λc s1 e=>?_)
 cases c with
 | false=>exact isTrue_or_nil e
 | true=>exact e
theorem zkC (ha:PT X a tA)(hb:PW X (.BoolOp .And (b::za5) pos) tB'):PW X (.BoolOp .And (a::b::za5) pos) (tAnd tA tB'):=by
 intro wh pins s σ H Q I h
 refine isTrue_and (thn (ha pins s σ H _ I h) λc s1 ⟨H1,I1,q1⟩=>?_)
 cases c with
 | true=>exact hb wh pins s1 σ H1 Q I1 q1
 | false=>exact⟨H1,I1,q1⟩
theorem pw_or (ha:PT X a tA)(hb:PW X (.BoolOp .Or (b::za5) pos) tB'):PW X (.BoolOp .Or (a::b::za5) pos) (tOr tA tB'):=by
 intro wh pins s σ H Q I h
 refine isTrue_or (thn (ha pins s σ H _ I h) λc s1 ⟨H1,I1,q1⟩=>?_)
 cases c with
 | true=>exact⟨H1,I1,q1⟩
 | false=>exact hb wh pins s1 σ H1 Q I1 q1
theorem zjy (ha:PT X a tA):PT X (.UnaryOp .Not a pos) (tNot tA):=by
 intro pins s σ H Q I h
 exact isTrue_not (ha pins s σ H (λc H1=>Q (!c) H1) I h)
end
end L2
namespace L2
open PySem PySem.Spec PyProof.Rows
def SqL (K:PySem.W.Frag)(H:Hp)(a:Addr)(xs:List V):Prop:=
 Rd H a (.lst xs)∨
  ∃(o:Obj) (its:Array Value) (n:Nat),K.lookup a=some o∧o.cls=.type "list"∧o.dict=none∧o.data=.seq its n∧its.size≤sizeLine∧zad xs its.toList
def SqT (K:PySem.W.Frag)(H:Hp)(a:Addr)(xs:List V):Prop:=
 Rd H a (.tup xs)∨
  ∃(o:Obj) (its:Array Value) (n:Nat),K.lookup a=some o∧o.cls=.type "tuple"∧o.data=.seq its n∧its.size≤sizeLine∧zad xs its.toList
def absV:Value→Option V
 | .none=>some .non
 | .bool b=>some (.bl b)
 | .int i _=>some (.int i)
 | .str x _=>some (.str x)
 | .bytes b _=>some (.byt b)
 | .float b _=>some (.flt b)
 | .ref a=>some (.ref a)
 | .type n=>some (.ty n)
 | _=>none
theorem zag.abs {x:V}{u:Value}(r:zag x u):absV u=some x:=by
 cases x with
 | non=>cases r; rfl
 | bl _=>cases r; rfl
 | int _=>obtain⟨t,rfl⟩:=r; rfl
 | str _=>obtain⟨t,rfl⟩:=r; rfl
 | byt _=>obtain⟨t,rfl⟩:=r; rfl
 | flt _=>obtain⟨t,rfl⟩:=r; rfl
 | ref _=>cases r; rfl
 | ty _=>cases r; rfl
theorem zag.inj {x y:V}{u:Value}(r:zag x u)(q:zag y u):x=y:=Option.some.inj (r.abs.symm.trans q.abs)
theorem zad.inj:∀ {xs ys:List V} {us:List Value},zad xs us→zad ys us→xs=ys
 | _,_,_,.nil,.nil=>rfl
 | _,_,_,.cons r t,.cons r' t'=>by rw[r.inj r',zad.inj t t']
section
variable {X:Cx}{pins:List (Addr×Obj)}{σ:St}{H:Hp}{s:Shared}{a:Addr}{xs ys:List V}
theorem SqL.of {K:PySem.W.Frag}(h:H a=some (.lst xs)):SqL K H a xs:=.inl (.inl h)
theorem SqT.of {K:PySem.W.Frag}(h:H a=some (.tup xs)):SqT K H a xs:=.inl (.inl h)
theorem Inv.list (I:Inv X pins σ H s)(h:SqL X.K H a xs):∃its:List Value,zad xs its∧PlainL s.heap a its.toArray∧xs.length≤sizeLine:=by
 rcases h with h | ⟨o,its,n,hk,hc,hd,hs,hz,r⟩
 ·obtain⟨z,its,n,r,e⟩:=h.ok I.hok
  exact⟨its,r,⟨_,n,e,rfl,rfl,rfl⟩,z⟩
 ·refine⟨its.toList,r,⟨o,n,I.kIn a o hk,hc,hd,by simpa using hs⟩,?_⟩
  have e:=r.length
  simp only[Array.length_toList] at e
  omega
theorem Inv.tuple (I:Inv X pins σ H s)(h:SqT X.K H a xs):∃its:List Value,zad xs its∧IsTup s.heap a its.toArray∧xs.length≤sizeLine:=by
 rcases h with h | ⟨o,its,n,hk,hc,hs,hz,r⟩
 ·obtain⟨z,its,r,p⟩:=h.ok I.hok
  exact⟨its,r,p,z⟩
 ·refine⟨its.toList,r,⟨o,I.kIn a o hk,hc,n,by simpa using hs⟩,?_⟩
  have e:=r.length
  simp only[Array.length_toList] at e
  omega
theorem Inv.list_inj (I:Inv X pins σ H s)(h:SqL X.K H a xs)(h':SqL X.K H a ys):xs=ys:=by
 obtain⟨its,r,⟨o,n,e,_,_,d⟩,_⟩:=I.list h
 obtain⟨its',r',⟨o',n',e',_,_,d'⟩,_⟩:=I.list h'
 rw[e] at e'; cases e'
 rw[d] at d'
 injection d' with d1 _
 have:its=its':=by simpa using congrArg Array.toList d1
 subst this
 exact r.inj r'
end
abbrev Cx.wish (X:Cx)(E:Value→Shared→Prop):Cx:={ X with xe:=E }
abbrev Cx.nox (X:Cx):Cx:=X.wish λ_ _=>False
theorem Cx.Ok.wish {X:Cx}(ok:X.Ok)(E:Value→Shared→Prop):(X.wish E).Ok:=
 ⟨ok.mod,ok.kind,ok.glob,ok.blt,ok.above,ok.inj,ok.has,ok.cab,ok.hd,ok.frames,ok.stk,ok.exf,ok.bs,ok.bsz,ok.noex,ok.exfs,ok.funs,ok.frf⟩
theorem Cx.Ok.unwish {X:Cx}{E:Value→Shared→Prop}(ok:(X.wish E).Ok):X.Ok:=
 ⟨ok.mod,ok.kind,ok.glob,ok.blt,ok.above,ok.inj,ok.has,ok.cab,ok.hd,ok.frames,ok.stk,ok.exf,ok.bs,ok.bsz,ok.noex,ok.exfs,ok.funs,ok.frf⟩
section
variable {X:Cx}{pins:List (Addr×Obj)}{σ:St}{H:Hp}{s:Shared}{E:Value→Shared→Prop}
theorem Inv.wish (I:Inv X pins σ H s)(E:Value→Shared→Prop):Inv (X.wish E) pins σ H s:=⟨I.ok.wish E,I.os,I.bare,I.base,I.loc,I.cell,I.free,I.freeC,I.pin,I.hok,I.len⟩
theorem Inv.unwish (I:Inv (X.wish E) pins σ H s):Inv X pins σ H s:=⟨I.ok.unwish,I.os,I.bare,I.base,I.loc,I.cell,I.free,I.freeC,I.pin,I.hok,I.len⟩
theorem SP.unwish {D:zci}{f:Flow}{s':Shared}(h:SP (X.wish E) pins D f s'):SP X pins D f s':=by
 cases f with
 | next=>obtain⟨σ',H',I,q⟩:=h; exact⟨σ',H',I.unwish,q⟩
 | brk=>obtain⟨σ',H',I,q⟩:=h; exact⟨σ',H',I.unwish,q⟩
 | cont=>obtain⟨σ',H',I,q⟩:=h; exact⟨σ',H',I.unwish,q⟩
 | ret u=>obtain⟨v,σ',H',I,r,q⟩:=h; exact⟨v,σ',H',I.unwish,r,q⟩
theorem PE.nox {e:Expr}{t:TE}(h:PE X.nox e t):PE X e t:=λpins s σ H Q I hw=>
 wpAny_mono (h pins s σ H Q (I.wish _) hw) (λ_ _ ⟨v,H',I',r,q⟩=>⟨v,H',I'.unwish,r,q⟩) λ_ _ z=>False.elim z
theorem PT.nox {e:Expr}{t:TT}(h:PT X.nox e t):PT X e t:=λpins s σ H Q I hw=>
 wpAny_mono (h pins s σ H Q (I.wish _) hw) (λ_ _ ⟨H',I',q⟩=>⟨H',I'.unwish,q⟩) λ_ _ z=>False.elim z
theorem PSs.nox {st:List Stmt}{t:TS}(h:PSs X.nox st t):PSs X st t:=λpins s σ H D I hw=>
 wpAny_mono (h pins s σ H D (I.wish _) hw) (λ_ _ q=>q.unwish) λ_ _ z=>False.elim z
end
section
variable {X:Cx}{st:Stmt}{za5:List Stmt}{t u:TS}{e:Expr}{te:TE}{pos:Pos}
def tNext:TS:=λD σ H=>D.nx σ H
def tSeq (t u:TS):TS:=λD σ H=>t { D with nx:=u D } σ H
theorem zmv:PSs X [] tNext:=λ_ _ σ H _ I h=>wpAny_execs_nil ⟨σ,H,I,h⟩
theorem zkk (h1:PS X st t)(h2:PSs X za5 u):PSs X (st::za5) (tSeq t u):=by
 intro pins s σ H D I h
 refine wpAny_execs_cons (thn (h1 pins s σ H { D with nx:=u D } I h) λf s1 q=>?_)
 cases f with
 | next=>
  obtain⟨σ',H',I',q⟩:=q
  exact h2 pins s1 σ' H' D I' q
 | ret v=>exact q
 | brk=>exact q
 | cont=>exact q
theorem zmp (h1:PS X st t):PSs X [st] t:=by
 intro pins s σ H D I h
 refine wpAny_execs_cons (thn (h1 pins s σ H D I h) λf s1 q=>?_)
 cases f with
 | next=>exact wpAny_execs_nil q
 | ret v=>exact q
 | brk=>exact q
 | cont=>exact q
theorem Inv.quiet {pins:List (Addr×Obj)}{σ:St}{H:Hp}{s:Shared}(I:Inv X pins σ H s):interactive X.env=false:=by simp[interactive,I.ok.kind]
def tDrop (te:TE):TS:=λD σ H=>te σ H λ_ H1=>D.nx σ H1
theorem zlt (he:PE X e te)(hs:swapsWith e none pos.line X.env=pure false:=by rfl):PS X (.Expr e pos) (tDrop te):=by
 intro pins s σ H D I h
 exact wpAny_Expr_any (thn (he pins s σ H _ I h) λv s1 ⟨x,H1,I1,r1,q1⟩=>⟨σ,H1,I1,q1⟩) I.quiet hs
def tRet (te:TE):TS:=λD σ H=>te σ H D.rt
theorem zkQ (he:PE X e te):PS X (.Return (some e) pos) (tRet te):=by
 intro pins s σ H D I h
 exact wpAny_Return_some (thn (he pins s σ H _ I h) λv s1 ⟨x,H1,I1,r1,q1⟩=>⟨x,σ,H1,I1,r1,q1⟩)
def tIfS (c:TT)(t u:TS):TS:=λD σ H=>c σ H λb H1=>if b=true then t D σ H1 else u D σ H1
theorem ps_if {c:Expr}{a b:List Stmt}{tc:TT}(hc:PT X c tc)(ha:PSs X a t)(hb:PSs X b u):PS X (.If c a b pos) (tIfS tc t u):=by
 intro pins s σ H D I h
 refine wpAny_If (thn (hc pins s σ H _ I h) λd s1 ⟨H1,I1,q1⟩=>?_)
 cases d with
 | true=>exact ha pins s1 σ H1 D I1 q1
 | false=>exact hb pins s1 σ H1 D I1 q1
end
abbrev TG:=V→St→Hp→(St→Hp→Prop)→Prop
abbrev TGs:=List V→St→Hp→(St→Hp→Prop)→Prop
def PG (X:Cx)(target:Expr)(t:TG):Prop:=
 ∀(pins:List (Addr×Obj)) (s:Shared) (σ:St) (H:Hp) (v:V) (u:Value) (Q:St→Hp→Prop),Inv X pins σ H s→zag v u→t v σ H Q→
  wpAny (model X.prog X.w) X.A (assign target X.env u) (λ_ s'=>∃σ' H',Inv X pins σ' H' s'∧Q σ' H') X.xe s
def PGs (X:Cx)(ts:List Expr)(t:TGs):Prop:=
 ∀(pins:List (Addr×Obj)) (s:Shared) (σ:St) (H:Hp) (vs:List V) (us:List Value) (Q:St→Hp→Prop),Inv X pins σ H s→zad vs us→t vs σ H Q→
  wpAny (model X.prog X.w) X.A (assignInOrder ((assignEach ts X.env).map (·.2)) us) (λ_ s'=>∃σ' H',Inv X pins σ' H' s'∧Q σ' H') X.xe s
section
variable {X:Cx}{pos:Pos}
def zi3 (i:Nat):TG:=λv σ H Q=>Q (σ.set i (some v)) H
theorem zfV {i:Nat}{x:Str}(hN:X.N.Nodup)(hi:X.N[i]?=some x)(hx:Loc X.env.scope x)(hf:X.fn x=true∨X.env.scope.names.lookup x=some .local:=by first | exact .inl rfl | exact .inr rfl | assumption):PG X (.Name x pos) (zi3 i):=by
 intro pins s σ H v u Q I r h
 exact wpAny_assign_Name (zhp I hN hi hx r (λs' I'=>⟨_,H,I',h⟩) hf)
def gNil:TGs:=λvs σ H Q=>vs=[]∧Q σ H
def gCons (t:TG)(u:TGs):TGs:=λvs σ H Q=>∃v r,vs=v::r∧t v σ H λσ' H'=>u r σ' H' Q
theorem zkl:PGs X [] gNil:=by
 intro pins s σ H vs us Q I r h
 obtain⟨e,h⟩:=h
 subst e
 cases r
 exact assignInOrder_nil ⟨σ,H,I,h⟩
theorem zmQ {e:Expr}{es:List Expr}{t:TG}{u:TGs}(h1:PG X e t)(h2:PGs X es u)
  (hs:(assignEach (e::es) X.env).map (·.2)=assign e X.env::(assignEach es X.env).map (·.2):=by rfl):PGs X (e::es) (gCons t u):=by
 intro pins s σ H vs us Q I r h
 obtain⟨v,vr,e1,h⟩:=h
 subst e1
 cases r with
 | cons r rr=>
  rw[hs]
  refine assignInOrder_cons (thn (h1 pins s σ H _ _ _ I r h) λ_ s1 ⟨σ1,H1,I1,q1⟩=>?_)
  exact h2 pins s1 σ1 H1 _ _ Q I1 rr q1
def zch (K:PySem.W.Frag)(n:Nat)(t:TGs):TG:=λv σ H Q=>∃a xs,v=.ref a∧SqT K H a xs∧xs.length=n∧t xs σ H Q
theorem zcE {es:List Expr}{k:Nat}{t:TGs}{n:Nat}(hc:X.calm=true)(h:PGs X es t)
  (hn:(assignEach es X.env).length=n:=by rfl)(hst:(assignEach es X.env).findIdx? (·.1)=none:=by rfl):PG X (.Tuple es k pos) (zch X.K n t):=by
 intro pins s σ H v u Q I r hw
 obtain⟨a,xs,e1,hq,hl,hw⟩:=hw
 subst e1
 cases r
 obtain⟨its,rv,ht,hz⟩:=I.tuple hq
 refine assign_Tuple_tuple (I.ok.hd hc) ht (by simp[hn,← hl,rv.length]) hst λh' hx=>?_
 have I1:Inv X pins σ H { s with heap:=h' }:=I.kept (t':=s.toks) λb o e=>hx b o (Vai (Heap.lt_size e)) e
 exact h pins _ σ H xs _ Q I1 (by simpa using rv) hw
def tAsg (te:TE)(g:TG):TS:=λD σ H=>te σ H λx H1=>g x σ H1 D.nx
theorem zlx {i:Nat}{x:Str}{e:Expr}{te:TE}{pos':Pos}(hN:X.N.Nodup)(hi:X.N[i]?=some x)(hx:Loc X.env.scope x)(he:PE X e te)(hs:swapsWith e (some (.Name x pos')) pos.line X.env=pure false:=by rfl)(hf:X.fn x=true∨X.env.scope.names.lookup x=some .local:=by first | exact .inl rfl | exact .inr rfl | assumption):
  PS X (.Assign [.Name x pos'] e pos) (tAsg te (zi3 i)):=by
 intro pins s σ H D I h
 refine wpAny_Assign_Name (thn (he pins s σ H _ I h) λv s1 ⟨y,H1,I1,r1,q1⟩=>?_) hs
 exact zhp I1 hN hi hx r1 (λs2 I2=>⟨_,H1,I2,q1⟩) hf
end
section
variable {X:Cx}{pos:Pos}
end
structure It where
 go:Nat→Hp→Prop
 yld:Nat→Hp→V→Hp→Prop
 stop:Nat→Hp→Prop
def za2 (X:Cx)(pins:List (Addr×Obj))(H:Hp)(b:Addr):Prop:=
 H b=none∧b≠X.env.locals∧b ∉ X.fs∧(b∈X.ex∨X.s₀.heap.objs.size≤b)∧(∀x c,X.env.cells.lookup x=some c→c≠b)∧∀p∈X.pn++pins,p.1≠b
theorem Inv.fpOk {X:Cx}{pins:List (Addr×Obj)}{σ:St}{H H':Hp}{s:Shared}{b:Addr}(I:Inv X pins σ H s)(hb:s.heap.objs.size≤b)(hn:H' b=none):za2 X pins H' b:=by
 refine⟨hn,Nat.ne_of_gt (Vas I.lt hb),I.nofs hb,.inr (Vau I.sz hb),λx c e z=>?_,λp hp z=>?_⟩
 ·obtain⟨v,q⟩:=I.cell x c e
  exact absurd (Vas q.lt (by rw[z]; exact hb)) (Vav _)
 ·exact absurd (Vas (Heap.lt_size (I.pin p hp).1) (by rw[z]; exact hb)) (Vav _)
structure zdX (P:Program)(w:World)(K:PySem.W.Frag)(tg:Expr)(J:It)(fp:List Addr)(it:Addr)(tn:Nat→Heap→Prop):Prop where
 mem:it∈fp
 obj:∀i h,tn i h→∀b∈fp,∃o,h.get? b=some o∧∀v,o.data≠.cell v
 keep:∀i h h',tn i h→(∀b∈fp,∀o,h.get? b=some o→h'.get? b=some o)→tn i h'
 item:∀(X:Cx),X.prog=P→X.w=w→X.K=K→X.calm=true→∀(i:Nat) (pins:List (Addr×Obj)) (s:Shared) (σ:St) (H:Hp) (E:Value→Shared→Prop),Inv X pins σ H s→(∀b∈fp,za2 X pins H b)→tn i s.heap→J.go i H→
  wpAny (model P w) X.A (pyNext (.ref it)) (λr s1=>∃u,r=some u∧
   wpAny (model P w) X.A (letOwnedTupleGo tg (.ref it) u) (λ_ s2=>∃x H',Inv X pins σ H' s2∧zag x u∧J.yld i H x H'∧tn (i+1) s2.heap∧∀b∈fp,H' b=none) E s1) E s
 done:∀(X:Cx),X.prog=P→X.w=w→X.K=K→X.calm=true→∀(i:Nat) (pins:List (Addr×Obj)) (s:Shared) (σ:St) (H:Hp) (E:Value→Shared→Prop),Inv X pins σ H s→(∀b∈fp,za2 X pins H b)→tn i s.heap→J.stop i H→
  wpAny (model P w) X.A (pyNext (.ref it)) (λr s1=>r=none∧Inv X pins σ H s1) E s
 self:∀(A:Around) (i:Nat) (s:Shared) (Q:Value→Shared→Prop) (E:Value→Shared→Prop),tn i s.heap→Q (.ref it) s→wpAny (model P w) A (pyIter (.ref it)) Q E s
abbrev TI:=St→Hp→(It→Hp→Prop)→Prop
def PIE (X:Cx)(pins:List (Addr×Obj))(σ:St)(tg:Expr)(R:It→Hp→Prop)(itv:Value)(s2:Shared):Prop:=
 ∃(it:Addr) (fp:List Addr) (tn:Nat→Heap→Prop) (J:It) (H':Hp),itv=.ref it∧Inv X pins σ H' s2∧zdX X.prog X.w X.K tg J fp it tn∧tn 0 s2.heap∧(∀b∈fp,za2 X pins H' b)∧R J H'
def PI (X:Cx)(tg iter:Expr)(wi:TI):Prop:=
 ∀(pins:List (Addr×Obj)) (s:Shared) (σ:St) (H:Hp) (R:It→Hp→Prop),Inv X pins σ H s→wi σ H R→
  wpAny (model X.prog X.w) X.A (eval iter X.env) (λv s1=>wpAny (model X.prog X.w) X.A (pyIter v) (PIE X pins σ tg R) X.xe s1) X.xe s
theorem zh5 {M:Model}{A:Around}{E:Value→Shared→Prop}{s:Shared}{tg:Expr}{it:Addr}{u:Value}{o:Obj}{n:String}{vs:Array Value}{Q:Unit→Shared→Prop}(ho:s.heap.get? it=some o)(hc:o.cls=.type n)(hd:o.data=.fields vs)
    (hn:["enumerate","zip","dict_itemiterator","dict_reverseitemiterator","odict_iterator","itertools.zip_longest","itertools.pairwise"].contains n=false)(hQ:Q () s):wpAny M A (letOwnedTupleGo tg (.ref it) u) Q E s:=by
  unfold letOwnedTupleGo
  cases tg <;> first
    | exact wpAny_pure hQ
    | (cases u <;> first
        | exact wpAny_pure hQ
        | (refine wpAny_bind (wpAny_load ho ?_)
           rw[hc,hd]
           show wpAny M A (if (["enumerate","zip","dict_itemiterator","dict_reverseitemiterator","odict_iterator","itertools.zip_longest","itertools.pairwise"].contains n&&vs[0]?==some (rawInt _))=true then _ else _) Q E s
           rw[if_neg (by intro h; rw[hn,Bool.false_and] at h; cases h)]
           exact wpAny_pure hQ))
def Itl (K:PySem.W.Frag)(a:Addr):It:=
 ⟨λi H=>∃xs x,SqL K H a xs∧xs[i]?=some x,λi H x H'=>H'=H∧∀xs,SqL K H a xs→xs[i]?=some x,λi H=>∃xs,SqL K H a xs∧xs.length≤i⟩
def Itr (lo:Int)(n:Nat):It:=⟨λi _=>i<n,λi H x H'=>H'=H∧x=.int (lo+i),λi _=>n≤i⟩
theorem zlX {P:Program}{w:World}{K:PySem.W.Frag}{tg:Expr}(a it:Addr):zdX P w K tg (Itl K a) [it] it (λi h=>h.IsListIter it a i) where
 mem:=by simp
 obj:=λi h st b hb=>by
  have e:b=it:=by simpa using hb
  subst e
  obtain⟨o,e,c,d⟩:=st
  exact⟨o,e,λv z=>by rw[d] at z; cases z⟩
 keep:=λi h h' st k=>st.at λo e=>k it (by simp) o e
 item:=by
  intro X hP hw hK hc i pins s σ H E I hf st hg
  subst hP hw hK
  obtain⟨xs,x,hq,hx⟩:=hg
  obtain⟨its,rv,p,hz⟩:=I.list hq
  obtain⟨u,hu,ru⟩:=rv.get hx
  obtain⟨f0,f1,f2,f3,f4,f5⟩:=hf it (by simp)
  refine wpAny_pyNext_list_item st p.isList (x:=u) (by simpa using hu) λh' st' sb=>?_
  have I1:Inv X pins σ H { s with heap:=h' }:=I.turned (t':=s.toks) (λb o hb e=>(sb.2 b hb).trans e) f0 f1 f3 f4 f5
  obtain⟨o,e,c,d⟩:=id st'
  exact⟨u,rfl,zh5 (s:={ s with heap:=h' }) e c d (by decide) ⟨x,H,I1,ru,⟨rfl,λys hy=>by rw[I.list_inj hy hq]; exact hx⟩,st',λb hb=>(hf b hb).1⟩⟩
 done:=by
  intro X hP hw hK hc i pins s σ H E I hf st hg
  subst hP hw hK
  obtain⟨xs,hq,hx⟩:=hg
  obtain⟨its,rv,p,hz⟩:=I.list hq
  obtain⟨f0,f1,f2,f3,f4,f5⟩:=hf it (by simp)
  have hl:=rv.length
  exact wpAny_pyNext_list_end (I.ok.hd hc) st p.isList (by simp; omega) λh' eb=>⟨rfl,I.turned (t':=s.toks) (λb o hb e=>eb b o hb e) f0 f1 f3 f4 f5⟩
 self:=λ_ _ _ _ _ st h=>wpAny_pyIter_listiter st h
theorem zmz {P:Program}{w:World}{K:PySem.W.Frag}{tg:Expr}(it:Addr)(lo:Int)(n:Nat):zdX P w K tg (Itr lo n) [it] it (λi h=>IsRangeIter h it (lo+(i:Nat)*1) ((n:Int)-(i:Nat)) 1) where
 mem:=by simp
 obj:=λi h st b hb=>by
  have e:b=it:=by simpa using hb
  subst e
  exact⟨_,st,λv z=>by
   have z':Data.fields _=Data.cell v:=z
   cases z'⟩
 keep:=λi h h' st k=>k it (by simp) _ st
 item:=by
  intro X hP hw hK hc i pins s σ H E I hf st hg
  subst hP hw hK
  obtain⟨f0,f1,f2,f3,f4,f5⟩:=hf it (by simp)
  have W:=Walks.range (prog:=X.prog) (w:=X.w) (I.ok.hd hc) it lo 1 n
  refine W.item i s _ _ hg st λv h' tk hv st' kk=>?_
  obtain⟨t,rfl⟩:=hv
  have I1:Inv X pins σ H { s with heap:=h',toks:=tk }:=I.turned (λb o hb e=>kk b o (by simpa using hb) e) f0 f1 f3 f4 f5
  refine⟨_,rfl,zh5 (s:={ s with heap:=h',toks:=tk }) (n:="range_iterator") st' rfl rfl (by decide) ⟨.int (lo+i),H,I1,⟨t,?_⟩,⟨rfl,rfl⟩,st',λb hb=>(hf b hb).1⟩⟩
  rw[Int.mul_one]
 done:=by
  intro X hP hw hK hc i pins s σ H E I hf st hg
  subst hP hw hK
  obtain⟨f0,f1,f2,f3,f4,f5⟩:=hf it (by simp)
  exact wpAny_pyNext_range_end (I.ok.hd hc) st (by have:n≤i:=hg; omega) λh' eb=>⟨rfl,I.turned (t':=s.toks) (λb o hb e=>eb b o hb e) f0 f1 f3 f4 f5⟩
 self:=λ_ _ _ _ _ st h=>wpAny_pyIter_rangeiter st h
end L2
namespace L2
open PySem PySem.Spec PyProof.Rows
section
variable {X:Cx}{tg:Expr}
def zgG (K:PySem.W.Frag)(tl:TE):TI:=λσ H R=>tl σ H λx H1=>∃a,x=.ref a∧(∃xs,SqL K H1 a xs)∧R (Itl K a) H1
theorem zfM {l:Expr}{tl:TE}(hl:PE X l tl):PI X tg l (zgG X.K tl):=by
 intro pins s σ H R I h
 refine thn (hl pins s σ H _ I h) λv s1 ⟨x,H1,I1,r1,q1⟩=>?_
 obtain⟨a,e,⟨xs,hq⟩,q⟩:=q1
 subst e
 cases r1
 obtain⟨its,rv,p,hz⟩:=I1.list hq
 refine wpAny_pyIter_list p.isList ?_
 refine⟨s1.heap.objs.size,[s1.heap.objs.size],_,_,H1,rfl,I1.kept (t':=s1.toks) λb o e=>Heap.get?_push_of_some _ e,zlX a _,⟨_,Heap.get?_push_size _ rfl,rfl,rfl⟩,λb hb=>?_,q⟩
 have e:b=s1.heap.objs.size:=by simpa using hb
 subst e
 exact I1.fpOk (Vaa _) (I1.hok.fresh (Vaa _))
theorem zmI {pins:List (Addr×Obj)}{σ:St}{H:Hp}{s:Shared}{R:It→Hp→Prop}{E:Value→Shared→Prop}{lo hi:Int}{t u v:Tok}{tk:Nat}(I:Inv X pins σ H s)(h1:-(2^62)≤lo)(h2:lo<2^62)(h3:-(2^62)≤hi)(h4:hi<2^62)
  (q:R (Itr lo (hi-lo).toNat) H):wpAny (model X.prog X.w) X.A (pyIter (.ref s.heap.objs.size)) (PIE X pins σ tg R) E { s with heap:=s.heap.push { cls:=.type "range",data:=.fields #[.int lo t,.int hi u,.int 1 v] },toks:=tk }:=by
 refine wpAny_pyIter_range (IsRange.new ..) (small_one h1 h2 h3 h4) ?_
 have I1:Inv X pins σ H { s with heap:=s.heap.push { cls:=.type "range",data:=.fields #[.int lo t,.int hi u,.int 1 v] },toks:=tk }:=I.kept λb o e=>Heap.get?_push_of_some _ e
 refine⟨(s.heap.push { cls:=.type "range",data:=.fields #[.int lo t,.int hi u,.int 1 v] }).objs.size,[(s.heap.push { cls:=.type "range",data:=.fields #[.int lo t,.int hi u,.int 1 v] }).objs.size],_,_,H,rfl,
  I1.kept (t':=tk) λb o e=>Heap.get?_push_of_some _ e,zmz _ lo (hi-lo).toNat,?_,λb hb=>?_,q⟩
 ·have e1:lo+((0:Nat):Int)*1=lo:=by simp
  have e2:(((hi-lo).toNat:Nat):Int)-((0:Nat):Int)=Builtin.Range.rangeSize lo hi 1:=by rw[rangeSize_one]; split <;> omega
  show IsRangeIter _ _ (lo+((0:Nat):Int)*1) ((((hi-lo).toNat:Nat):Int)-((0:Nat):Int)) 1
  rw[e1,e2]
  exact Heap.get?_push_size _ rfl
 ·have e:b=(s.heap.push { cls:=.type "range",data:=.fields #[.int lo t,.int hi u,.int 1 v] }).objs.size:=by simpa using hb
  subst e
  exact I1.fpOk (Vaa _) (I1.hok.fresh (Vaa _))
def iRng1 (ta:TA):TI:=λσ H R=>ta σ H λvs H1=>∃j:Int,vs=[.int j]∧-(2^62)≤j∧j<2^62∧R (Itr 0 j.toNat) H1
theorem zjt {a:Expr}{ta:TA}{p pos:Pos}(hg:Gl X "range")(hm:X.mg "range"=none)(ha:PA X [a] ta)(hs:starEach [a] X.env=[(false,eval a X.env)]:=by rfl):PI X tg (.Call (.Name "range" p) [a] [] pos) (iRng1 ta):=by
 intro pins s σ H R I h
 refine Call_ (zdi I hg hm boot_range (PyProof.Rows.callWith_type1 (thn (ha pos pins s σ H _ I h) λus s1 ⟨vs,H1,I1,r1,q1⟩=>?_) hs rfl))
 obtain⟨j,e,q1,q2,q⟩:=q1
 subst e
 cases r1 with
 | cons r rr=>
  cases rr
  obtain⟨t,rfl⟩:=r
  exact call_range_1 (zmI I1 (by omega) (by omega) q1 q2 (by simpa using q))
def tFor (wi:TI)(g:TG)(tb:TS):TS:=λD σ H=>wi σ H λJ H1=>∃W:Nat→Nat→St→Hp→Prop,(∃m,W 0 m σ H1)∧∀i m σ H,W i m σ H→
 (J.stop i H∧D.nx σ H)∨(J.go i H∧∃N:St→Hp→Prop,(∀σ' H',N σ' H'→∃m',m'<m∧W (i+1) m' σ' H')∧∀x H',J.yld i H x H'→g x σ H' λσ2 H2=>tb { D with nx:=N,ct:=N,bk:=D.nx } σ2 H2)
def zcU (fp:List Addr)(h:Heap):List (Addr×Obj):=fp.filterMap λb=>(h.get? b).map λo=>(b,o)
theorem zcX {fp:List Addr}{h:Heap}{b:Addr}{o:Obj}(hb:b∈fp)(e:h.get? b=some o):(b,o)∈zcU fp h:=List.mem_filterMap.mpr ⟨b,hb,by rw[e]; rfl⟩
theorem zly {fp:List Addr}{h:Heap}{p:Addr×Obj}(hp:p∈zcU fp h):p.1∈fp∧h.get? p.1=some p.2:=by
 obtain⟨b,hb,e⟩:=List.mem_filterMap.mp hp
 cases q:h.get? b with
 | none=>rw[q] at e; cases e
 | some o=>
  rw[q] at e
  have e':(b,o)=p:=Option.some.inj e
  subst e'
  exact⟨hb,q⟩
theorem Inv.pinned {pins:List (Addr×Obj)}{σ:St}{H:Hp}{s:Shared}{fp:List Addr}(I:Inv X pins σ H s)(hf:∀b∈fp,za2 X pins H b)(ho:∀b∈fp,∃o,s.heap.get? b=some o∧∀v,o.data≠.cell v):Inv X (pins++zcU fp s.heap) σ H s:=
 I.pins_of λp hp=>(VaW.mp hp).elim (λz=>I.pin p (VaB _ z)) λz=>by
  obtain⟨hb,e⟩:=zly z
  obtain⟨f0,f1,f2,_⟩:=hf p.1 hb
  obtain⟨o,e',d⟩:=ho p.1 hb
  rw[e] at e'; cases e'
  exact⟨e,f0,f1,f2,d⟩
theorem Inv.unpinned {pins pl:List (Addr×Obj)}{σ:St}{H:Hp}{s:Shared}(I:Inv X (pins++pl) σ H s):Inv X pins σ H s:=I.pins_of λp hp=>I.pin p (VaB _ (List.mem_append_left _ hp))
theorem zec {iter:Expr}{body:List Stmt}{wi:TI}{g:TG}{tb:TS}{pos:Pos}(hp:PassesOwn (model X.prog X.w) X.A X.env X.xe)(hc:X.calm=true)(hi:PI X tg iter wi)(hg:PG X tg g)(hb:PSs X body tb)
  (hs:∀x,foldedSetIterable iter X.env x=pure x:=by intro _; rfl):PS X (.For tg iter body [] pos) (tFor wi g tb):=by
 intro pins s σ H D I h
 refine wpAny_For (thn (hi pins s σ H _ I h) λv s1 h1=>thn h1 λitv s2 h2=>?_) hs
 obtain⟨it,fp,tn,J,H2,e,I2,T,st2,f2,W,⟨m0,w0⟩,turn⟩:=h2
 subst e
 have stat:∀ {H':Hp},(∀b∈fp,H' b=none)→∀b∈fp,za2 X pins H' b:=λhn b hb=>⟨hn b hb,(f2 b hb).2⟩
 refine codeAny_forLoop_any (λn s'=>∃i σ' H',Inv X pins σ' H' s'∧tn i s'.heap∧(∀b∈fp,H' b=none)∧W i n σ' H') ?_ m0 ⟨0,σ,H2,I2,st2,λb hb=>(f2 b hb).1,w0⟩
 rintro n s3 ⟨i,σ3,H3,I3,st3,fr3,w3⟩
 rcases turn i n σ3 H3 w3 with ⟨stop,qn⟩ | ⟨go,N,hN,step⟩
 ·refine wpAny_passesOwn hp (thn (T.done X rfl rfl rfl hc i pins s3 σ3 H3 X.xe I3 (stat fr3) st3 stop) λr s4 ⟨hr,I4⟩=>?_)
  subst hr
  exact wpAny_execs_nil ⟨σ3,H3,I4,qn⟩
 ·refine wpAny_passesOwn hp (thn (T.item X rfl rfl rfl hc i pins s3 σ3 H3 X.xe I3 (stat fr3) st3 go) λr s4 ⟨u,hr,h4⟩=>?_)
  subst hr
  refine wpAny_passesOwn hp (thn h4 λ_ s5 ⟨x,H5,I5,r5,y5,st5,fr5⟩=>?_)
  have I5':=I5.pinned (stat fr5) (T.obj _ _ st5)
  refine wpAny_passesOwn hp (thn (hg _ s5 σ3 H5 x u _ I5' r5 (step x H5 y5)) λ_ s6 ⟨σ6,H6,I6,q6⟩=>?_)
  refine wpAny_passesOwn hp (thn (hb _ s6 σ6 H6 _ I6 q6) λf s7 q7=>?_)
  have again:∀ {σ7:St} {H7:Hp},Inv X (pins++zcU fp s5.heap) σ7 H7 s7→N σ7 H7→∃m,m<n∧∃i σ' H',Inv X pins σ' H' s7∧tn i s7.heap∧(∀b∈fp,H' b=none)∧W i m σ' H':=λ{σ7 H7} I7 n7=>by
   obtain⟨m',hm,w7⟩:=hN σ7 H7 n7
   refine⟨m',hm,i+1,σ7,H7,I7.unpinned,T.keep _ _ _ st5 λb hb o e=>(I7.pin (b,o) (VaB _ (VaB _ (zcX hb e)))).1,λb hb=>?_,w7⟩
   obtain⟨o,e,d⟩:=T.obj _ _ st5 b hb
   exact(I7.pin (b,o) (VaB _ (VaB _ (zcX hb e)))).2.1
  cases f with
  | next=>obtain⟨σ7,H7,I7,n7⟩:=q7; exact again I7 n7
  | cont=>obtain⟨σ7,H7,I7,n7⟩:=q7; exact again I7 n7
  | brk=>obtain⟨σ7,H7,I7,q7⟩:=q7; exact⟨σ7,H7,I7.unpinned,q7⟩
  | ret v=>obtain⟨x7,σ7,H7,I7,r7,q7⟩:=q7; exact⟨x7,σ7,H7,I7.unpinned,r7,q7⟩
end
end L2
namespace L2
open PySem PySem.Spec PyProof.Rows
abbrev R2:=V→V→Hp→VK→Prop
def OpR (X:Cx)(f:Value→Value→Sem Value)(r:R2):Prop:=
 ∀(pins:List (Addr×Obj)) (s:Shared) (σ:St) (H:Hp) (x y:V) (v u:Value) (Q:VK),Inv X pins σ H s→zag x v→zag y u→r x y H Q→
  wpAny (model X.prog X.w) X.A (f v u) (EP X pins σ Q) X.xe s
def zay (X:Cx)(f:Value)(r:List V→Hp→VK→Prop):Prop:=
 ∀(pins:List (Addr×Obj)) (s:Shared) (σ:St) (H:Hp) (xs:List V) (us:List Value) (Q:VK),Inv X pins σ H s→zad xs us→r xs H Q→
  wpAny (model X.prog X.w) X.A (call f us) (EP X pins σ Q) X.xe s
def tOp (r:R2)(ta tb:TE):TE:=λσ H Q=>ta σ H λx H1=>tb σ H1 λy H2=>r x y H2 Q
def rI (C:Int→Int→Prop)(g:Int→Int→V):R2:=λx y H Q=>∃i j,x=.int i∧y=.int j∧C i j∧Q (g i j) H
def rI0 (g:Int→Int→V):R2:=λx y H Q=>∃i j,x=.int i∧y=.int j∧Q (g i j) H
section
variable {X:Cx}{a b c:Expr}{ta tb tc:TE}{pos:Pos}
theorem binT (ha:PE X a ta)(hb:PE X b tb){pins:List (Addr×Obj)}{s:Shared}{σ:St}{H:Hp}{R:V→V→Hp→Prop}(I:Inv X pins σ H s)
  (h:ta σ H λx H1=>tb σ H1 λy H2=>R x y H2){Q:Value→Shared→Prop}{f:Value→Value→Sem Value}
  (hf:∀v u s2 x y H2,Inv X pins σ H2 s2→zag x v→zag y u→R x y H2→wpAny (model X.prog X.w) X.A (f v u) Q X.xe s2):
  wpAny (model X.prog X.w) X.A (eval a X.env) (λv s₁=>wpAny (model X.prog X.w) X.A (eval b X.env) (λu s₂=>wpAny (model X.prog X.w) X.A (f v u) Q X.xe s₂) X.xe s₁) X.xe s:=by
 refine thn (ha pins s σ H _ I h) λv s1 ⟨x,H1,I1,r1,q1⟩=>?_
 refine thn (hb pins s1 σ H1 _ I1 q1) λu s2 ⟨y,H2,I2,r2,q2⟩=>?_
 exact hf v u s2 x y H2 I2 r1 r2 q2
theorem pe_op {op:Operator}{r:R2}(ho:OpR X (binaryOp op) r)(ha:PE X a ta)(hb:PE X b tb):PE X (.BinOp a op b pos) (tOp r ta tb):=by
 intro pins s σ H Q I h
 exact wpAny_BinOp (binT ha hb I h λv u s2 x y H2 I2 rx ry q=>ho pins s2 σ H2 x y v u Q I2 rx ry q)
theorem opI {f:Value→Value→Sem Value}{C:Int→Int→Prop}{g:Int→Int→Int}
  (rule:∀(i j:Int) (t u:Tok) (s:Shared) (Q:Value→Shared→Prop) (E:Value→Shared→Prop),C i j→Q (.int (g i j) s.toks) { s with toks:=s.toks+1 }→wpAny (model X.prog X.w) X.A (f (.int i t) (.int j u)) Q E s):
  OpR X f (rI C λi j=>.int (g i j)):=by
 intro pins s σ H x y v u Q I rx ry h
 obtain⟨i,j,rfl,rfl,hc,q⟩:=h
 obtain⟨t,rfl⟩:=rx
 obtain⟨t',rfl⟩:=ry
 exact rule i j t t' s _ _ hc ⟨.int (g i j),H,I.tok _,⟨_,rfl⟩,q⟩
theorem opI0 {f:Value→Value→Sem Value}{g:Int→Int→Int}
  (rule:∀(i j:Int) (t u:Tok) (s:Shared) (Q:Value→Shared→Prop) (E:Value→Shared→Prop),Q (.int (g i j) s.toks) { s with toks:=s.toks+1 }→wpAny (model X.prog X.w) X.A (f (.int i t) (.int j u)) Q E s):
  OpR X f (rI0 λi j=>.int (g i j)):=by
 intro pins s σ H x y v u Q I rx ry h
 obtain⟨i,j,rfl,rfl,q⟩:=h
 obtain⟨t,rfl⟩:=rx
 obtain⟨t',rfl⟩:=ry
 exact rule i j t t' s _ _ ⟨.int (g i j),H,I.tok _,⟨_,rfl⟩,q⟩
theorem opB0 {f:Value→Value→Sem Value}{g:Int→Int→Bool}
  (rule:∀(i j:Int) (t u:Tok) (s:Shared) (Q:Value→Shared→Prop) (E:Value→Shared→Prop),Q (.bool (g i j)) s→wpAny (model X.prog X.w) X.A (f (.int i t) (.int j u)) Q E s):
  OpR X f (rI0 λi j=>.bl (g i j)):=by
 intro pins s σ H x y v u Q I rx ry h
 obtain⟨i,j,rfl,rfl,q⟩:=h
 obtain⟨t,rfl⟩:=rx
 obtain⟨t',rfl⟩:=ry
 exact rule i j t t' s _ _ ⟨.bl (g i j),H,I,rfl,q⟩
def CMul (i j:Int):Prop:=(-(2^64)<i∧i<2^64)∨(-(2^64)<j∧j<2^64)
theorem CMul.ok {i j:Int}(h:CMul i j):IntMulOk i j:=by
 rcases h with ⟨h1,h2⟩ | ⟨h1,h2⟩
 ·exact .of_left (intBits_le_64 h1 h2)
 ·exact .of_right (intBits_le_64 h1 h2)
theorem zjA:OpR X (binaryOp .Add) (rI0 λi j=>.int (i+j)):=opI0 λ_ _ _ _ _ _ _ q=>add_int q
theorem zjb:OpR X (binaryOp .Sub) (rI0 λi j=>.int (i-j)):=opI0 λ_ _ _ _ _ _ _ q=>sub_int q
theorem zjL:OpR X (binaryOp .Mod) (rI (λ_ j=>0<j) λi j=>.int (i%j)):=opI λi j _ _ _ _ _ hc q=>by
 have h1:(0:Int)<j:=hc
 exact mod_int' (by omega) (by rw[Int.fmod_eq_emod_of_nonneg i (by omega)]; exact q)
end
def zfA:V→V→Bool
 | .non,.non=>true | .non,.int _=>true | .int _,.non=>true | .non,.bl _=>true | .bl _,.non=>true | .non,.str _=>true | .str _,.non=>true
 | .int _,.int _=>true | .bl _,.bl _=>true | .str _,.str _=>true | .byt _,.byt _=>true
 | .int _,.str _=>true | .str _,.int _=>true | .bl _,.str _=>true | .str _,.bl _=>true
 | _,_=>false
def rEq:R2:=λx y H Q=>zfA x y=true∧Q (.bl (decide (x=y))) H
def rNe:R2:=λx y H Q=>zfA x y=true∧Q (.bl (!decide (x=y))) H
theorem ziI {i j:Int}:decide (V.int i=V.int j)=(i==j):=by
 rw[VaY]
 simp
theorem zhq {i j:Bool}:decide (V.bl i=V.bl j)=(i==j):=by
 rw[VaY]
 simp
theorem ziO {i j:Str}:decide (V.str i=V.str j)=(i==j):=by
 rw[VaY]
 simp
theorem zho {i j:Array UInt8}:decide (V.byt i=V.byt j)=(i.toList==j.toList):=by
 rw[VaY]
 cases i
 cases j
 simp
section
variable {X:Cx}{a b c:Expr}{ta tb tc:TE}{pos:Pos}
theorem zax {pins:List (Addr×Obj)}{σ:St}{H:Hp}{s:Shared}{Q:VK}{k k':Bool}(I:Inv X pins σ H s)(q:Q (.bl k) H)(e:k=k'):EP X pins σ Q (.bool k') s:=by
 subst e
 exact⟨.bl k,H,I,rfl,q⟩
theorem zf3:OpR X (compareOp .Eq) rEq:=by
 intro pins s σ H x y v u Q I rx ry h
 obtain⟨hs,q⟩:=h
 cases x with
 | non=>
  cases rx
  cases y with
  | non=>cases ry; exact PySem.EqNone.eq_none_none (zax I q (by simp))
  | bl j=>cases ry; exact PySem.EqNone.eq_none_bool (zax I q (by simp))
  | int j=>obtain⟨t',rfl⟩:=ry; exact PySem.EqNone.eq_none_int (zax I q (by simp))
  | str j=>obtain⟨t',rfl⟩:=ry; exact PySem.EqNone.eq_none_str (zax I q (by simp))
  | _=>exact absurd (show false=true from hs) Var
 | bl i=>
  cases rx
  cases y with
  | non=>cases ry; exact PySem.EqNone.eq_bool_none (zax I q (by simp))
  | bl j=>cases ry; exact eq_bool (zax I q zhq)
  | str j=>obtain⟨t',rfl⟩:=ry; exact PySem.EqMixed.eq_bool_str (zax I q (by simp))
  | _=>exact absurd (show false=true from hs) Var
 | int i=>
  obtain⟨t,rfl⟩:=rx
  cases y with
  | non=>cases ry; exact PySem.EqNone.eq_int_none (zax I q (by simp))
  | int j=>obtain⟨t',rfl⟩:=ry; exact eq_int (zax I q ziI)
  | str j=>obtain⟨t',rfl⟩:=ry; exact PySem.EqMixed.eq_int_str (zax I q (by simp))
  | _=>exact absurd (show false=true from hs) Var
 | str i=>
  obtain⟨t,rfl⟩:=rx
  cases y with
  | non=>cases ry; exact PySem.EqNone.eq_str_none (zax I q (by simp))
  | bl j=>cases ry; exact PySem.EqMixed.eq_str_bool (zax I q (by simp))
  | int j=>obtain⟨t',rfl⟩:=ry; exact PySem.EqMixed.eq_str_int (zax I q (by simp))
  | str j=>obtain⟨t',rfl⟩:=ry; exact eq_str (zax I q ziO)
  | _=>exact absurd (show false=true from hs) Var
 | byt i=>
  obtain⟨t,rfl⟩:=rx
  cases y with
  | byt j=>obtain⟨t',rfl⟩:=ry; exact PySem.W.eq_bytes (zax I q zho)
  | _=>exact absurd (show false=true from hs) Var
 | _=>cases y <;> exact absurd (show false=true from hs) Var
theorem op_ne:OpR X (compareOp .NotEq) rNe:=by
 intro pins s σ H x y v u Q I rx ry h
 obtain⟨hs,q⟩:=h
 cases x with
 | non=>
  cases rx
  cases y with
  | non=>cases ry; exact PySem.EqNone.ne_none_none (zax I q (by simp))
  | bl j=>cases ry; exact PySem.EqNone.ne_none_bool (zax I q (by simp))
  | int j=>obtain⟨t',rfl⟩:=ry; exact PySem.EqNone.ne_none_int (zax I q (by simp))
  | str j=>obtain⟨t',rfl⟩:=ry; exact PySem.EqNone.ne_none_str (zax I q (by simp))
  | _=>exact absurd (show false=true from hs) Var
 | bl i=>
  cases rx
  cases y with
  | non=>cases ry; exact PySem.EqNone.ne_bool_none (zax I q (by simp))
  | bl j=>cases ry; exact ne_bool (zax I q (congrArg not zhq))
  | str j=>obtain⟨t',rfl⟩:=ry; exact PySem.EqMixed.ne_bool_str (zax I q (by simp))
  | _=>exact absurd (show false=true from hs) Var
 | int i=>
  obtain⟨t,rfl⟩:=rx
  cases y with
  | non=>cases ry; exact PySem.EqNone.ne_int_none (zax I q (by simp))
  | int j=>obtain⟨t',rfl⟩:=ry; exact ne_int (zax I q (congrArg not ziI))
  | str j=>obtain⟨t',rfl⟩:=ry; exact PySem.EqMixed.ne_int_str (zax I q (by simp))
  | _=>exact absurd (show false=true from hs) Var
 | str i=>
  obtain⟨t,rfl⟩:=rx
  cases y with
  | non=>cases ry; exact PySem.EqNone.ne_str_none (zax I q (by simp))
  | bl j=>cases ry; exact PySem.EqMixed.ne_str_bool (zax I q (by simp))
  | int j=>obtain⟨t',rfl⟩:=ry; exact PySem.EqMixed.ne_str_int (zax I q (by simp))
  | str j=>obtain⟨t',rfl⟩:=ry; exact ne_str (zax I q (congrArg not ziO))
  | _=>exact absurd (show false=true from hs) Var
 | byt i=>
  obtain⟨t,rfl⟩:=rx
  cases y with
  | byt j=>obtain⟨t',rfl⟩:=ry; exact PySem.W.ne_bytes (zax I q (congrArg not zho))
  | _=>exact absurd (show false=true from hs) Var
 | _=>cases y <;> exact absurd (show false=true from hs) Var
theorem op_lt:OpR X (compareOp .Lt) (rI0 λi j=>.bl (decide (i<j))):=opB0 λ_ _ _ _ _ _ _ q=>lt_int q
theorem op_gt:OpR X (compareOp .Gt) (rI0 λi j=>.bl (decide (j<i))):=opB0 λ_ _ _ _ _ _ _ q=>gt_int q
theorem zk4:OpR X (compareOp .IsNot) (λx y H Q=>y=.non∧Q (.bl (!decide (x=.non))) H):=by
 intro pins s σ H x y v u Q I rx ry h
 obtain⟨rfl,q⟩:=h
 cases ry
 refine isnot_none_gen (zax I q ?_)
 cases x <;> first
  | (cases rx; rfl)
  | (obtain⟨t,rfl⟩:=rx; rfl)
theorem OpR.or {f:Value→Value→Sem Value}{r r':R2}(h:OpR X f r)(h':OpR X f r'):OpR X f (λx y H Q=>r x y H Q∨r' x y H Q):=by
 intro pins s σ H x y v u Q I rx ry q
 rcases q with q | q
 ·exact h pins s σ H x y v u Q I rx ry q
 ·exact h' pins s σ H x y v u Q I rx ry q
theorem zbu (b:Expr){op:CmpOp}(h:op≠.In:=by decide)(h2:op≠.NotIn:=by decide):behindInMarks op b=false:=by
 have e1:(op==CmpOp.In)=false:=by cases op <;> first | rfl | exact absurd rfl h
 have e2:(op==CmpOp.NotIn)=false:=by cases op <;> first | rfl | exact absurd rfl h2
 cases b <;> simp[behindInMarks,e1,e2]
theorem zj1 {op:CmpOp}{r:R2}(ho:OpR X (compareOp op) r)(ha:PE X a ta)(hb:PE X b tb)(hm:behindInMarks op b=false):PE X (.Compare a [op] [b] pos) (tOp r ta tb):=by
 intro pins s σ H Q I h
 exact wpAny_Compare1 (binT ha hb I h λv u s2 x y H2 I2 rx ry q=>ho pins s2 σ H2 x y v u Q I2 rx ry q) hm
def tTest (t:TE):TT:=λσ H Q=>t σ H λx H'=>∃k,x=.bl k∧Q k H'
theorem zk2 {op:CmpOp}{r:R2}(ho:OpR X (compareOp op) r)(ha:PE X a ta)(hb:PE X b tb)(hm:behindInMarks op b=false):PT X (.Compare a [op] [b] pos) (tTest (tOp r ta tb)):=by
 intro pins s σ H Q I h
 refine wpAny_isTrue_Compare1 (thn (ha pins s σ H _ I h) λv s1 ⟨x,H1,I1,r1,q1⟩=>thn (hb pins s1 σ H1 _ I1 q1) λu s2 ⟨y,H2,I2,r2,q2⟩=>
  thn (ho pins s2 σ H2 x y v u _ I2 r1 r2 q2) λc s3 ⟨z,H3,I3,r3,k,e,q3⟩=>?_) hm
 subst e
 cases r3
 exact wpAny_truthy_bool ⟨H3,I3,q3⟩
theorem zgP:(sizeLine:Nat)<2^63:=by rw[sizeLine_eq]; decide
theorem zbl {x:V}{us:List Value}(r:zad [x] us):∃u,us=[u]∧zag x u:=by
 cases r with
 | cons r1 r2=>cases r2; exact⟨_,rfl,r1⟩
theorem zg9 {x y:V}{us:List Value}(r:zad [x,y] us):∃u w',us=[u,w']∧zag x u∧zag y w':=by
 cases r with
 | cons r1 r2=>
  cases r2 with
  | cons r3 r4=>cases r4; exact⟨_,_,rfl,r1,r3⟩
theorem zlA (hc:X.calm=true):zay X (.builtin "max") (λxs H Q=>∃i j,xs=[.int i,.int j]∧Q (.int (if j > i then j else i)) H):=by
 intro pins s σ H xs us Q I r h
 obtain⟨i,j,rfl,q⟩:=h
 obtain⟨u,w',rfl,⟨t,rfl⟩,⟨t',rfl⟩⟩:=zg9 r
 refine max_two_ints (I.ok.hd hc) λh' tk k=>⟨_,H,I.kept k,?_,q⟩
 by_cases hj:j > i
 ·rw[if_pos hj,if_pos hj]; exact⟨_,rfl⟩
 ·rw[if_neg hj,if_neg hj]; exact⟨_,rfl⟩
theorem zl2 (hc:X.calm=true):zay X (.builtin "min") (λxs H Q=>∃i j,xs=[.int i,.int j]∧Q (.int (if j<i then j else i)) H):=by
 intro pins s σ H xs us Q I r h
 obtain⟨i,j,rfl,q⟩:=h
 obtain⟨u,w',rfl,⟨t,rfl⟩,⟨t',rfl⟩⟩:=zg9 r
 refine min_two_ints (I.ok.hd hc) λh' tk k=>⟨_,H,I.kept k,?_,q⟩
 by_cases hj:j<i
 ·rw[if_pos hj,if_pos hj]; exact⟨_,rfl⟩
 ·rw[if_neg hj,if_neg hj]; exact⟨_,rfl⟩
end
end L2
namespace L2
open PySem PySem.Spec PyProof.Rows
structure ObjM (h:Heap)(x dx C:Addr)(mA:Str→Option Value):Prop where
 obj:h.get? x=some (PySem.W.instObj C dx)
 ns:h.Ns1 dx mA
 ne:dx≠x
section
variable {prog:Program}{w:World}{A:Around}{E:Value→Shared→Prop}{s:Shared}{K:PySem.W.Frag}{x dx C f:Addr}{mA:Str→Option Value}{name:Str}{v:Value}
end
def putF (f:Str)(v:V):List (Str×V)→List (Str×V)
 | []=>[(f,v)]
 | (g,x)::r=>if g=f then (g,v)::r else (g,x)::putF f v r
section
variable {P:Program}{w:World}{H H':Hp}{h h':Heap}{a C dx:Addr}{fs fs':List (Str×V)}
end
structure Cls (K:PySem.W.Frag)(C:Addr):Prop where
 pg:PySem.W.plainGet K C Str.empty=true
 hd:PySem.W.hasDictIn K C=true
 po:PySem.W.plainOver K C=true
 sa:PySem.W.findIn K (.ref C) "__setattr__"=some (some (.builtin "object.__setattr__"))
theorem Cls.get {K:PySem.W.Frag}{C:Addr}(c:Cls K C)(f:Str):PySem.W.plainGet K C f=true:=c.pg
structure Con (K:PySem.W.Frag)(C:Addr)(f:Str)(v:V)(u:Value):Prop where
 at_:PySem.W.findIn K (.ref C) f=some (some u)
 rel:zag v u
 get:PySem.W.specialIn K u "__get__"=some none
 cp:PySem.W.copiedNames.contains f=false
structure Meth (K:PySem.W.Frag)(C:Addr)(m:Str)(f:Addr):Prop where
 at_:PySem.W.findIn K (.ref C) m=some (some (.ref f))
 fn:PySem.W.isFn K (.ref f)=true
 kp:PySem.W.keepIn K (.ref f)=true
section
variable {X:Cx}{pins:List (Addr×Obj)}{σ:St}{H:Hp}{s:Shared}{a C dx:Addr}{fs:List (Str×V)}{f:Str}{v:V}{A:Around}{E:Value→Shared→Prop}
theorem Inv.made (I:Inv X pins σ H s):Inv X pins σ (upd (upd H s.heap.objs.size (.own (s.heap.objs.size+1))) (s.heap.objs.size+1) (.ins C s.heap.objs.size []))
  { s with heap:=(s.heap.push PySem.W.emptyDict).push (PySem.W.instObj C s.heap.objs.size) }:=by
 have e1:(s.heap.push PySem.W.emptyDict).get? s.heap.objs.size=some PySem.W.emptyDict:=Heap.get?_push_size s.heap rfl
 have e2:((s.heap.push PySem.W.emptyDict).push (PySem.W.instObj C s.heap.objs.size)).get? (s.heap.objs.size+1)=some (PySem.W.instObj C s.heap.objs.size):=by
  have:=Heap.get?_push_size (s.heap.push PySem.W.emptyDict) (o:=PySem.W.instObj C s.heap.objs.size) rfl
  rwa [Heap.size_push] at this
 have e3:(s.heap.push PySem.W.emptyDict).Ns s.heap.objs.size (λ_=>none):=⟨PySem.W.emptyDict,#[],_,e1,rfl,(λe he=>absurd he (by simp)),λ_=>rfl⟩
 have I1:=I.laid (a:=s.heap.objs.size) (o:=.own (s.heap.objs.size+1)) (h':=s.heap.push PySem.W.emptyDict) (t':=s.toks) (λb u q=>Heap.get?_push_of_some _ q) (Vaa _) ⟨_,e1⟩
 refine I1.laid (a:=s.heap.objs.size+1) (o:=.ins C s.heap.objs.size []) (t':=s.toks) (λb u q=>Heap.get?_push_of_some _ q) (Nat.le_of_eq (Heap.size_push _ _)) ?_
 have ne:s.heap.objs.size≠s.heap.objs.size+1:=Vai (Nat.lt_succ_self _)
 refine⟨by rw[zav ne,za6],Vaj _,ne,e2,λ_=>none,(Heap.Ns1.of_empty e3).at λo q=>Heap.get?_push_of_some _ q,λ_=>True.intro,λy hy=>absurd rfl hy⟩
end
section
variable {X:Cx}{o e value:Expr}{f:Str}{pos pos' tpos:Pos}{ta tv:TE}
end
section
variable {X:Cx}{pins:List (Addr×Obj)}{σ:St}{H:Hp}{s:Shared}{A:Around}{E:Value→Shared→Prop}{Q:Value→Shared→Prop}{c:Value}{b:Bool}
inductive zbL (K:PySem.W.Frag)(H:Hp):V→Value→Prop where
 | non:zbL K H .non (.type "NoneType")
 | bl (x:Bool):zbL K H (.bl x) (.type "bool")
 | int (i:Int):zbL K H (.int i) (.type "int")
 | str (x:Str):zbL K H (.str x) (.type "str")
 | flt (x:UInt64):zbL K H (.flt x) (.type "float")
 | lst {a:Addr} {xs:List V} (e:H a=some (.lst xs)):zbL K H (.ref a) (.type "list")
 | frz {a:Addr} {o:Obj} {xs:List V} (e:H a=some (.frz o (.lst xs))):zbL K H (.ref a) (.type "list")
 | tup {a:Addr} {xs:List V} (e:H a=some (.tup xs)):zbL K H (.ref a) (.type "tuple")
 | dK {a:Addr} {kvs:List (Key×V)} (e:H a=some (.dK kvs)):zbL K H (.ref a) (.type "dict")
 | dT {a:Addr} {kvs:List (List Key×V)} (e:H a=some (.dT kvs)):zbL K H (.ref a) (.type "dict")
 | ins {a C dx:Addr} {fs:List (Str×V)} (e:H a=some (.ins C dx fs)) (cl:Cls K C) (ha:PySem.W.findIn K (.ref C) "__class__"=some (some (.builtin "object.__class__")))
   (hn:PySem.W.specialIn K (.builtin "object.__class__") "__get__"=some (some (.builtin "getset_descriptor.__get__"))) (htk:PySem.W.takesIn K (.builtin "object.__class__")=some true)
   (hm:PySem.W.mroIn K C (.type "object")=some true):zbL K H (.ref a) (.ref C)
end
end L2
namespace L2
open PySem PySem.Spec PyProof.Rows
structure zat (k:Nat)(A:Around):Prop where
 hd:A.handled=none
 dp:A.depth+3*k+5<recursionLimit
 un:A.units+16*k+200<cLine
theorem zat.mono {j k:Nat}{A:Around}(r:zat k A)(h:j≤k):zat j A:=⟨r.hd,by have:=r.dp; omega,by have:=r.un; omega⟩
theorem zat.deeper {k:Nat}{A:Around}(r:zat (k+1) A)(env:Env):zat k (A.deeper env):=
 ⟨r.hd,by have:=r.dp; show A.depth+1+3*k+5<_; omega,by have:=r.un; show A.units+3+16*k+200<_; omega⟩
theorem zat.in1 {k:Nat}{A:Around}(r:zat (k+1) A):zat k A.in1:=
 ⟨r.hd,by have:=r.dp; show A.depth+3*k+5<_; omega,by have:=r.un; show A.units+1+16*k+200<_; omega⟩
theorem zjn {A:Around}{C:Addr}{us:List Value}{kw:List (Str×Value)}:(A.under (.builtin "type.__call__" ⟨.ref C::us,kw⟩)).depth=A.depth+1:=by
 first | rfl | simp[Around.under,Code.weight,Code.isCreation,Code.isGuard,Code.isCaller,Code.frames,Code.isFrame,guardIds]
theorem zl7 {A:Around}{C:Addr}{us:List Value}{kw:List (Str×Value)}:(A.under (.builtin "type.__call__" ⟨.ref C::us,kw⟩)).units=A.units+1:=by
 first | rfl | simp[Around.under,Code.cUnits,Code.frames,Code.isFrame]
theorem zat.make {k:Nat}{A:Around}(r:zat (k+1) A)(C:Addr)(us:List Value)(kw:List (Str×Value)):zat k (A.under (.builtin "type.__call__" ⟨.ref C::us,kw⟩)):=
 ⟨r.hd,by have:=r.dp; rw[zjn]; omega,by have:=r.un; rw[zl7]; omega⟩
theorem zat.depth {k:Nat}{A:Around}(r:zat k A):A.depth<recursionLimit:=by have:=r.dp; omega
theorem zat.units {k:Nat}{A:Around}(r:zat k A):A.units+64<cLine:=by have:=r.un; omega
def tNil:TA:=λ_ H Q=>Q [] H
def tCons (ta:TE)(tr:TA):TA:=λσ H Q=>ta σ H λx H1=>tr σ H1 λxs H2=>Q (x::xs) H2
section
variable {X:Cx}{e:Expr}{es:List Expr}{te:TE}{t:TA}{pos:Pos}
theorem zej:PA X [] tNil:=λ_ _ _ _ H Q I h=>Calls.spliced_nil ⟨[],H,I,.nil,h⟩
theorem zdJ (ha:PE X e te)(hr:PA X es t)(hs:starEach (e::es) X.env=(false,eval e X.env)::starEach es X.env:=by rfl):PA X (e::es) (tCons te t):=by
 intro pos pins s σ H Q I h
 rw[hs]
 show wpAny _ _ (spliced ((false,eval e X.env)::backTo pos (starEach es X.env))) _ _ s
 refine Calls.spliced_cons (thn (ha pins s σ H _ I h) λu s1 ⟨x,H1,I1,r1,q1⟩=>?_)
 exact thn (hr pos pins s1 σ H1 _ I1 q1) λus s2 ⟨xs,H2,I2,r2,q2⟩=>⟨x::xs,H2,I2,.cons r1 r2,q2⟩
def tTup (t:TA):TE:=λσ H Q=>t σ H λxs H1=>xs.length≤sizeLine∧∀p,H1 p=none→Q (.ref p) (upd H1 p (.tup xs))
def tLst (t:TA):TE:=λσ H Q=>t σ H λxs H1=>xs.length≤sizeLine∧∀p,H1 p=none→Q (.ref p) (upd H1 p (.lst xs))
theorem zkL {x1}(h:PA X es t):PE X (.Tuple es x1 pos) (tTup t):=by
 intro pins s σ H Q I hq
 refine wpAny_Tuple_spliced (thn (h pos pins s σ H _ I hq) λus s1 ⟨xs,H1,I1,r,z,q⟩=>⟨by rw[← r.length]; exact z,?_⟩)
 have hf:H1 s1.heap.objs.size=none:=I1.hok.fresh (Vaa _)
 refine⟨.ref s1.heap.objs.size,upd H1 s1.heap.objs.size (.tup xs),I1.laid (t':=s1.toks) (λb u e=>Heap.get?_push_of_some _ e) (Vaa _) ?_,rfl,q _ hf⟩
 exact⟨z,us,r,⟨_,Heap.get?_push_size _ rfl,rfl,_,rfl⟩⟩
theorem zjs (h:PA X es t):PE X (.List es pos) (tLst t):=by
 intro pins s σ H Q I hq
 refine wpAny_List_spliced (thn (h pos pins s σ H _ I hq) λus s1 ⟨xs,H1,I1,r,z,q⟩=>⟨by rw[← r.length]; exact z,?_⟩)
 have hf:H1 s1.heap.objs.size=none:=I1.hok.fresh (Vaa _)
 refine⟨.ref s1.heap.objs.size,upd H1 s1.heap.objs.size (.lst xs),I1.laid (t':=s1.toks) (λb u e=>Heap.get?_push_of_some _ e) (Vaa _) ?_,rfl,q _ hf⟩
 exact⟨z,us,0,r,Heap.get?_push_size _ rfl⟩
end
abbrev Sp:=List V→Hp→VK→XK→Prop
abbrev CXT:=List Env→Hp→Shared→XK→Value→Shared→Prop
structure zbM (P:Program)(w:World)(K:PySem.W.Frag)(mg:Str→Option Value)(base:Heap)(A:Around)(outer:List Env)(s:Shared)(H:Hp):Prop where
 frames:A.frames=some outer
 mod:Mod K mg base
 bs:∀b o,base.get? b=some o→s.heap.get? b=some o∧H b=none
 bsz:base.objs.size≤s.heap.objs.size
 funs:s.heap.FunFrames base outer
 frf:∀b∈frs outer,H b=none
 hok:HOk P w H s.heap
 bare:AllBare s.gens
def CE (outer:List Env)(P:Program)(w:World)(H:Hp)(s:Shared)(Q:VK)(u:Value)(s':Shared):Prop:=
 ∃v H',s'.os=s.os∧AllBare s'.gens∧Un (frs outer) [] H H' s.heap s'.heap∧HOk P w H' s'.heap∧zag v u∧Q v H'
def CR (CX:CXT)(outer:List Env)(P:Program)(w:World)(H:Hp)(s:Shared)(Q:VK)(E:XK)(r:Result)(s':Shared):Prop:=
 match r with
 | .ok (.ret u)=>CE outer P w H s Q u s'
 | .ok _=>False
 | .error e=>CX outer H s E e s'
structure zaL (P:Program)(w:World)(K:PySem.W.Frag)(mg:Str→Option Value)(base:Heap)(CX:CXT)(k:Nat)(f:Addr)(fd:FuncData)(ps:List Str)(sp:Sp):Prop where
 len:∀vs H Q E,sp vs H Q E→vs.length=ps.length
 run:∀(A:Around) (outer:List Env) (s:Shared) (H:Hp) (args:Args) (us:List Value) (vs:List V) (Q:VK) (E:XK),zat k A→zbM P w K mg base A outer s H→BindsTo s fd args (ps.zip us)→zad vs us→sp vs H Q E→
  codeAny (model P w) A (.call (.ref f) args) (CR CX outer P w H s Q E) s
theorem zaL.mono {P:Program}{w:World}{K:PySem.W.Frag}{mg:Str→Option Value}{base:Heap}{CX:CXT}{j k:Nat}{f:Addr}{fd:FuncData}{ps:List Str}{sp:Sp}(F:zaL P w K mg base CX j f fd ps sp)(h:j≤k):
  zaL P w K mg base CX k f fd ps sp:=⟨F.len,λA outer s H args us vs Q E hr=>F.run A outer s H args us vs Q E (hr.mono h)⟩
theorem zaL.imp {P:Program}{w:World}{K:PySem.W.Frag}{mg:Str→Option Value}{base:Heap}{CX:CXT}{k:Nat}{f:Addr}{fd:FuncData}{ps:List Str}{sp sp':Sp}(F:zaL P w K mg base CX k f fd ps sp)
  (h:∀vs H Q E,sp' vs H Q E→sp vs H Q E):zaL P w K mg base CX k f fd ps sp':=
 ⟨λvs H Q E q=>F.len vs H Q E (h _ _ _ _ q),λA outer s H args us vs Q E hr he hb hv hs=>F.run A outer s H args us vs Q E hr he hb hv (h _ _ _ _ hs)⟩
theorem zbM.make {P:Program}{w:World}{K:PySem.W.Frag}{mg:Str→Option Value}{base:Heap}{A:Around}{outer:List Env}{s:Shared}{H:Hp}(e:zbM P w K mg base A outer s H)(C:Addr)(us:List Value)(kw:List (Str×Value)):
  zbM P w K mg base (A.under (.builtin "type.__call__" ⟨.ref C::us,kw⟩)) outer s H:=⟨by first | exact e.frames | (simpa [Around.under,Code.envs,Code.isFrame,pushEnvs] using e.frames),e.mod,e.bs,e.bsz,e.funs,e.frf,e.hok,e.bare⟩
theorem zbM.in1 {P:Program}{w:World}{K:PySem.W.Frag}{mg:Str→Option Value}{base:Heap}{A:Around}{outer:List Env}{s:Shared}{H:Hp}(e:zbM P w K mg base A outer s H):
  zbM P w K mg base A.in1 outer s H:=⟨e.frames,e.mod,e.bs,e.bsz,e.funs,e.frf,e.hok,e.bare⟩
section
variable {X:Cx}{pins:List (Addr×Obj)}{σ:St}{H:Hp}{s s':Shared}
theorem Inv.env0 (I:Inv X pins σ H s):zbM X.prog X.w X.K X.mg X.base X.A X.stack s H:=
 ⟨I.ok.frames,I.ok.mod,I.bs,Vau I.ok.bsz I.sz,I.stack,I.stkFree,I.hok,I.bare⟩
theorem Inv.after {Q:VK}{u:Value}(I:Inv X pins σ H s)(h:CE X.stack X.prog X.w H s Q u s'):EP X pins σ Q u s':=by
 obtain⟨v,H',os,bare,un,hok,r,q⟩:=h
 obtain⟨hh,g,d,t,os'⟩:=s'
 obtain rfl:os'=s.os:=os
 exact⟨v,H',I.call (h':=hh) (g':=g) (d':=d) (t':=t) (ch:=[]) un hok bare (λb z=>absurd z (by simp)),r,q⟩
end
def zbF (K:PySem.W.Frag)(fd:FuncData)(ps:List Str)(ds:List Value):Prop:=
 ∀(s:Shared) (us:List Value),K.In s.heap→(us++ds).length=ps.length→BindsTo s fd ⟨us,[]⟩ (ps.zip (us++ds))
theorem zbF.all {K:PySem.W.Frag}{fd:FuncData}{ps:List Str}(h:∀us:List Value,us.length=ps.length→bindArgs fd ⟨us,[]⟩=pure (ps.zip us)):zbF K fd ps []:=λs us _ hl=>by
 rw[VaZ] at hl ⊢
 exact .of_eq (h us hl)
section
variable {X:Cx}{CX:CXT}{k:Nat}{f C:Addr}{fd:FuncData}{ps:List Str}{sp:Sp}{dvs:List V}{ds:List Value}{E:XK}{x m:Str}{p pos apos:Pos}{e o:Expr}{es:List Expr}{ta:TE}{t:TA}
structure Mk (K:PySem.W.Frag)(C f:Addr):Prop where
 makes:PySem.W.makesIn K C=true
 init:PySem.W.findIn K (.ref C) "__init__"=some (some (.ref f))
 fn:PySem.W.isFn K (.ref f)=true
 kp:PySem.W.keepIn K (.ref C)=true
end
section
variable {X:Cx}{CX:CXT}{k:Nat}{f C:Addr}{fd:FuncData}{ps ks:List Str}{sp:Sp}{E:XK}{x m:Str}{p pos apos kpos:Pos}{e o:Expr}{es:List Expr}{kws:List Keyword}{te ta:TE}{t tk:TA}{nm:Option Str}
structure KBinds (K:PySem.W.Frag)(fd:FuncData)(ps ks:List Str)(g:List Value→List Value→List Value)(gV:List V→List V→List V):Prop where
 to:∀(s:Shared) (us ws:List Value),K.In s.heap→(g us ws).length=ps.length→BindsTo s fd ⟨us,ks.zip ws⟩ (ps.zip (g us ws))
 rel:∀ {vs:List V} {us:List Value} {zs:List V} {ws:List Value},zad vs us→zad zs ws→zad (gV vs zs) (g us ws)
variable {g:List Value→List Value→List Value}{gV:List V→List V→List V}
end
structure zaN (N P:List Str)(sc:Scope):Prop where
 kind:sc.kind=.function
 co:sc.isCoroutine=false
 gen:sc.isGenerator=false
 nd:N.Nodup
 pre:N.take P.length=P
 par:∀x∈P,sc.names.lookup x=some .local∨sc.names.lookup x=some .cell
 nofree:∀y∈sc.names,y.2≠.free
theorem zhW {kindOf:Str→Option NameKind}{x:Str}:∀ {binds:List (Str×Value)} {m:Str→Option Value},(∀v,(x,v) ∉ binds)→bindL kindOf binds m x=m x
 | [],_,_=>rfl
 | (n,v)::r,m,h=>by
  unfold bindL
  rw[zhW λw hw=>h w (VaE _ hw)]
  split
  ·have:x≠n:=by rintro rfl; exact h v VaQ
   simp[this]
  ·rfl
theorem ziv {kindOf:Str→Option NameKind}{x:Str}:∀ {binds:List (Str×Value)} {m:Str→Option Value},(∀v,(x,v) ∉ binds)→bindC kindOf binds m x=m x
 | [],_,_=>rfl
 | (n,v)::r,m,h=>by
  unfold bindC
  rw[ziv λw hw=>h w (VaE _ hw)]
  split
  ·rfl
  ·have:x≠n:=by rintro rfl; exact h v VaQ
   simp[this]
theorem ziT {kindOf:Str→Option NameKind}{x:Str}{v:Value}:∀ {P:List Str} {vs:List Value} {i:Nat} {m:Str→Option Value},P.Nodup→P[i]?=some x→vs[i]?=some v→kindOf x=some .local→
  bindL kindOf (P.zip vs) m x=some v
 | [],_,_,_,_,h,_,_=>by simp at h
 | _::_,[],_,_,_,_,h,_=>by simp at h
 | p::P,w::vs,0,m,nd,h1,h2,hk=>by
  simp at h1 h2; subst h1; subst h2
  show bindL kindOf ((p,w)::P.zip vs) m p=_
  unfold bindL
  rw[zhW λv hv=>(Va5.mp nd).1 (List.of_mem_zip hv).1,if_pos hk]
  simp
 | p::P,w::vs,i+1,m,nd,h1,h2,hk=>by
  show bindL kindOf ((p,w)::P.zip vs) m x=_
  unfold bindL
  exact ziT (i:=i) (Va5.mp nd).2 (by simpa using h1) (by simpa using h2) hk
theorem zig {kindOf:Str→Option NameKind}{x:Str}{v:Value}:∀ {P:List Str} {vs:List Value} {i:Nat} {m:Str→Option Value},P.Nodup→P[i]?=some x→vs[i]?=some v→kindOf x≠some .local→
  bindC kindOf (P.zip vs) m x=some v
 | [],_,_,_,_,h,_,_=>by simp at h
 | _::_,[],_,_,_,_,h,_=>by simp at h
 | p::P,w::vs,0,m,nd,h1,h2,hk=>by
  simp at h1 h2; subst h1; subst h2
  show bindC kindOf ((p,w)::P.zip vs) m p=_
  unfold bindC
  rw[ziv λv hv=>(Va5.mp nd).1 (List.of_mem_zip hv).1,if_neg hk]
  simp
 | p::P,w::vs,i+1,m,nd,h1,h2,hk=>by
  show bindC kindOf ((p,w)::P.zip vs) m x=_
  unfold bindC
  exact zig (i:=i) (Va5.mp nd).2 (by simpa using h1) (by simpa using h2) hk
def zbE (N:List Str)(vs:List V):St:=vs.map some++List.replicate (N.length-vs.length) none
def zcv (CX:CXT)(P:Program)(w:World)(K:PySem.W.Frag)(mg:Str→Option Value)(base:Heap)(N:List Str)(qual:Str)(scope:Scope)(f:Addr)(cd:Value)(A:Around)(outer:List Env)(s:Shared)(H:Hp)(E:XK):Cx where
 prog:=P
 w:=w
 K:=K
 mg:=mg
 base:=base
 A:=A.deeper (envOfC qual scope s.heap.objs.size f cd)
 N:=N
 s₀:=s
 H₀:=H
 env:=envOfC qual scope s.heap.objs.size f cd
 outer:=outer
 stack:=envOfC qual scope s.heap.objs.size f cd::outer
 ex:=[]
 calm:=true
 fn:=λ_=>true
 pn:=[]
 xe:=λe s'=>wpAny (model P w) (A.deeper (envOfC qual scope s.heap.objs.size f cd)) (leaving (envOfC qual scope s.heap.objs.size f cd) e) (λ_ s''=>CX outer H s E e s'') (λe' s''=>CX outer H s E e' s'') s'
theorem zhb {sc:Scope}{n:Nat}{x:Str}(h:sc.names.lookup x=some .cell):∃c,(cellsFrom n sc.names []).lookup x=some c:=by
 have q:=PySem.W.cellsFrom_some sc.names n [] (.inl h)
 exact VaF.mp q
theorem zmW {CX:CXT}{P:Program}{w:World}{K:PySem.W.Frag}{mg:Str→Option Value}{base:Heap}{N ps:List Str}{qual:Str}{scope:Scope}{f:Addr}{cd:Value}{A:Around}{outer:List Env}{s s1:Shared}{H:Hp}{E:XK}{us:List Value}{vs:List V}
  (S:zaN N ps scope)(hd:A.handled=none)(e0:zbM P w K mg base A outer s H)(hl:vs.length=ps.length)(r:zad vs us)
  (x:InCallC s s.heap.objs.size (bindL (envOfC qual scope s.heap.objs.size f cd).kindOf (ps.zip us) λ_=>none) (cellsFrom (s.heap.objs.size+1) scope.names []) (bindC (envOfC qual scope s.heap.objs.size f cd).kindOf (ps.zip us) λ_=>none) s1):
  Inv (zcv CX P w K mg base N qual scope f cd A outer s H E) [] (zbE N vs) H s1:=by
 have hpl:ps.length≤N.length:=by have:=congrArg List.length S.pre; rw[VaJ] at this; omega
 obtain⟨h1,tk,rfl,hk⟩:=x.done
 have noA:∀b:Addr,b ∉ (zcv CX P w K mg base N qual scope f cd A outer s H E).ex:=λb z=>absurd (show b∈([]:List Addr) from z) (by simp)
 refine⟨⟨e0.mod,S.kind,rfl,rfl,Vaa _,λy z c h1 h2=>?_,λy hy=>?_,λy c _ h=>?_,λ_=>hd,Around.frames_deeper e0.frames,.inr ⟨rfl,rfl⟩,λb z=>absurd z (noA b),e0.bs,e0.bsz,λb _ _=>noA b,λb z=>absurd z (noA b),e0.funs,e0.frf⟩,
  rfl,e0.bare,Un.kept hk,⟨_,x.toInCall.ns,λi y v h1 h2 h3=>?_⟩,λy c h=>⟨_,x.cell y c h⟩,e0.hok.fresh (Vaa _),λy c h=>?_,λp hp=>absurd (show p∈([]:List (Addr×Obj)) from hp) (by simp),e0.hok.kept hk,?_⟩
 ·exact name_of_addr x.apart (PySem.mem_of_lookup h1) (PySem.mem_of_lookup h2)
 ·have hy:scope.names.lookup y=some .cell∨scope.names.lookup y=some .free:=hy
  rcases hy with hy | hy
  ·exact zhb hy
  ·exact absurd rfl (S.nofree _ (PySem.mem_of_lookup hy))
 ·exact VaG (x.above y c (PySem.mem_of_lookup h))
 ·have hi:i<vs.length:=by
   unfold zbE at h2
   by_cases hi:i<vs.length
   ·exact hi
   ·rw[Vay (by simpa using hi)] at h2
    rw[List.getElem?_replicate] at h2
    split at h2 <;> cases h2
  have ha:vs[i]?=some v:=by
   unfold zbE at h2
   rw[Vap (by simpa using hi),Vad] at h2
   cases e:vs[i]? with
   | none=>rw[e] at h2; cases h2
   | some a=>rw[e] at h2; cases h2; rfl
  obtain⟨u,hu,rv⟩:=r.get ha
  have hp:ps[i]?=some y:=by
   rw[← S.pre,List.getElem?_take_of_lt (by omega)]; exact h1
  have ndP:ps.Nodup:=by rw[← S.pre]; exact S.nd.sublist (List.take_sublist _ _)
  refine⟨u,rv,?_⟩
  rcases S.par y (Vag hp) with k | k
  ·exact .inl ⟨k,ziT ndP hp hu k⟩
  ·obtain⟨c,e⟩:=zhb (n:=s.heap.objs.size+1) k
   refine .inr ⟨.inl k,c,e,?_⟩
   have q:=x.cell y c e
   rw[zig ndP hp hu (by show scope.names.lookup y≠_; rw[k]; decide)] at q
   exact q
 ·exact e0.hok.fresh (VaG (x.above y c (PySem.mem_of_lookup h)))
 ·unfold zbE
  show _=N.length
  rw[Vao,Vab,List.length_replicate]
  omega
theorem zhV {CX:CXT}{P:Program}{w:World}{K:PySem.W.Frag}{mg:Str→Option Value}{base:Heap}{k:Nat}{f:Addr}{name qual:Str}{params:Arguments}{body:List Stmt}{scope:Scope}{dV kV doc pm cdv ct oc:Value}{an od:Option Addr}
  {osl:Array (Option Value)}{N ps:List Str}{sp:Sp}(lk:K.lookup f=some ⟨oc,od,.func (PySem.W.fnOf name qual params body scope dV kV doc pm an cdv ct),osl⟩)(hcd:PySem.W.codeIn K cdv qual=true)(S:zaN N ps scope)
  (len:∀vs H Q E,sp vs H Q E→vs.length=ps.length)
  (hbody:∀(A:Around) (outer:List Env) (s:Shared) (H:Hp) (vs:List V) (Q:VK) (E:XK),zat k (A.deeper (envOfC qual scope s.heap.objs.size f cdv))→sp vs H Q E→
   ∃t,PSs (zcv CX P w K mg base N qual scope f cdv A outer s H E) body t∧t { nx:=λ_ H'=>Q .non H',rt:=Q } (zbE N vs) H):
  zaL P w K mg base CX (k+1) f (PySem.W.fnOf name qual params body scope dV kV doc pm an cdv ct) ps sp:=by
 refine⟨len,λA outer s H args us vs Q E hr e0 hb r hsp=>?_⟩
 have hl:=len _ _ _ _ hsp
 have KX:K.In s.heap:=e0.mod.kin.keeps λb o e=>(e0.bs b o e).1
 have lim:s.heap.NoLimit:=e0.mod.nolimit.keeps λb o e=>(e0.bs b o e).1
 have hkind:∀y∈ps.zip us,scope.names.lookup y.1=some .local∨(scope.names.lookup y.1=some .cell∧((cellsFrom (s.heap.objs.size+1) scope.names []).lookup y.1).isSome=true):=λ⟨n,v⟩ hy=>by
  rcases S.par n (List.of_mem_zip hy).1 with q | q
  ·exact .inl q
  ·exact .inr ⟨q,PySem.W.cellsFrom_some _ _ _ (.inl q)⟩
 refine codeAny_call_function hr.depth (KX _ _ lk) rfl S.co S.gen rfl (PySem.W.codeRec_of KX hcd) (hb _ _ _ _ ?_)
 refine wpAny_newFunctionEnv_cells S.kind hkind λenv he s1 x=>?_
 subst he
 refine⟨lim.keeps x.toInCall.keep,codeAny_func ?_⟩
 obtain⟨t,ht,hq⟩:=hbody A outer s H vs Q E (hr.deeper _) hsp
 have I:Inv (zcv CX P w K mg base N qual scope f cdv A outer s H E) [] (zbE N vs) H s1:=zmW S hr.hd e0 hl r x
 refine wpAny_mono (ht [] s1 (zbE N vs) H _ I hq) (λfl s' hs=>?_) λe s' hs=>hs
 have fin:∀ {σ':St} {H':Hp} {v:V} {u:Value},Inv (zcv CX P w K mg base N qual scope f cdv A outer s H E) [] σ' H' s'→zag v u→Q v H'→CE outer P w H s Q u s':=
  λ{σ' H' v u} J rv q=>⟨v,H',J.os,J.bare,J.base,J.hok,rv,q⟩
 cases fl with
 | ret u=>
  obtain⟨v,σ',H',J,rv,q⟩:=hs
  exact fin J rv q
 | next=>
  obtain⟨σ',H',J,q⟩:=hs
  exact fin (v:=V.non) (u:=Value.none) J rfl q
 | brk=>
  obtain⟨_,_,_,q⟩:=hs
  exact False.elim q
 | cont=>
  obtain⟨_,_,_,q⟩:=hs
  exact False.elim q
end L2
namespace L2
open PySem PySem.Spec PyProof.Rows
section
variable {X:Cx}{x:Str}{p pos:Pos}{e:Expr}{es:List Expr}{t:TA}{id T:String}{r:List V→Hp→VK→Prop}
def tCB (r:List V→Hp→VK→Prop)(t:TA):TE:=λσ H Q=>t σ H λvs H1=>r vs H1 Q
theorem zmu (hc:zay X (.builtin id) r)(hg:Gl X x)(hm:X.mg x=none)(hv:bootBuiltins x=some (.builtin id))(ha:PA X (e::es) t)(hn:x≠"__name__":=by decide)(hdb:(x==("__debug__":Str))=false:=by decide)
  (he:starEach (e::es) X.env=(false,eval e X.env)::starEach es X.env:=by rfl)(hpl:(backTo pos (starEach es X.env)).any (·.1)=false:=by rfl):PE X (.Call (.Name x p) (e::es) [] pos) (tCB r t):=by
 intro pins s σ H Q I h
 refine wpAny_Call_Name_kw (zdi I hg hm hv ?_ hn hdb)
 exact PyProof.Rows.callWith_builtin1 (thn (ha pos pins s σ H _ I h) λus s1 ⟨vs,H1,I1,r1,q1⟩=>hc pins s1 σ H1 vs us Q I1 r1 q1) he hpl
theorem zdZ (hc:zay X (.type T) r)(hg:Gl X x)(hm:X.mg x=none)(hv:bootBuiltins x=some (.type T))(ha:PA X (e::es) t)(hn:x≠"__name__":=by decide)(hdb:(x==("__debug__":Str))=false:=by decide)
  (he:starEach (e::es) X.env=(false,eval e X.env)::starEach es X.env:=by rfl)(hpl:(backTo pos (starEach es X.env)).any (·.1)=false:=by rfl):PE X (.Call (.Name x p) (e::es) [] pos) (tCB r t):=by
 intro pins s σ H Q I h
 refine wpAny_Call_Name_kw (zdi I hg hm hv ?_ hn hdb)
 exact PyProof.Rows.callWith_type1 (thn (ha pos pins s σ H _ I h) λus s1 ⟨vs,H1,I1,r1,q1⟩=>hc pins s1 σ H1 vs us Q I1 r1 q1) he hpl
end
end L2
namespace HT
open PySem PyProof.Rows
section
open PySem.SeqAt
open PySem.AutoSeq1 (wpAny_loadPart')
open PySem.MeetsSeq PySem.MeetsSeq2 PySem.MeetsSeq3
end
section
variable {prog:Program}{w:World}{A:Around}{E:Value→Shared→Prop}{s:Shared}
def sIx (n d:Nat):Option Int→Nat
 | none=>d
 | some v=>if v<0 then (v+(n:Int)).toNat else min v.toNat n
theorem sIx_none (n d:Nat):sIx n d none=d:=rfl
theorem sIx_nat (n d k:Nat):sIx n d (some (k:Int))=min k n:=by
 show (if (k:Int)<0 then ((k:Int)+(n:Int)).toNat else min (k:Int).toNat n)=min k n
 rw[if_neg (by omega),VaS]
end
end HT
namespace L2
open PySem PySem.Spec PyProof.Rows
abbrev TO:=St→Hp→(Option Int→Hp→Prop)→Prop
def PO (X:Cx)(e:Option Expr)(t:TO):Prop:=
 ∀(pins:List (Addr×Obj)) (s:Shared) (σ:St) (H:Hp) (Q:Option Int→Hp→Prop),Inv X pins σ H s→t σ H Q→
  wpAny (model X.prog X.w) X.A (evalPart e X.env) (λu s'=>∃o H',Inv X pins σ H' s'∧IsPart u o∧Q o H') X.xe s
def zky:TO:=λ_ H Q=>Q none H
def tPart (t:TE):TO:=λσ H Q=>t σ H λx H1=>∃i,x=.int i∧Q (some i) H1
section
variable {X:Cx}{e:Expr}{te:TE}{lo hi:Option Expr}{tl th:TO}{pos p2:Pos}
theorem zmO:PO X none zky:=by
 intro pins s σ H Q I h
 rw[evalPart_none]
 exact wpAny_pure ⟨none,H,I,.none,h⟩
theorem zlK (h:PE X e te):PO X (some e) (tPart te):=by
 intro pins s σ H Q I hw
 rw[evalPart_some]
 refine thn (h pins s σ H _ I hw) λu s1 ⟨x,H1,I1,r1,q1⟩=>?_
 obtain⟨i,rfl,q⟩:=q1
 obtain⟨t,rfl⟩:=r1
 exact⟨some i,H1,I1,.int i t,q⟩
def SlR (X:Cx)(r:V→Option Int→Option Int→Hp→VK→Prop):Prop:=
 ∀(pins:List (Addr×Obj)) (s:Shared) (σ:St) (H:Hp) (x:V) (v vl vu:Value) (lo hi:Option Int) (sl:Addr) (Q:VK),Inv X pins σ H s→zag x v→s.heap.IsSliceOf sl vl vu .none→IsPart vl lo→IsPart vu hi→r x lo hi H Q→
  ∃T id,typeLookup (.type T) "__getitem__"=pure (some (.builtin id))∧s.TypeIs v T∧wpAny (model X.prog X.w) X.A (getItem v (.ref sl)) (EP X pins σ Q) X.xe s
theorem SlR.or {r r':V→Option Int→Option Int→Hp→VK→Prop}(h:SlR X r)(h':SlR X r'):SlR X (λx lo hi H Q=>r x lo hi H Q∨r' x lo hi H Q):=by
 intro pins s σ H x v vl vu lo hi sl Q I rx hs pl pu q
 rcases q with q | q
 ·exact h pins s σ H x v vl vu lo hi sl Q I rx hs pl pu q
 ·exact h' pins s σ H x v vl vu lo hi sl Q I rx hs pl pu q
def tSl (r:V→Option Int→Option Int→Hp→VK→Prop)(te:TE)(tl th:TO):TE:=λσ H Q=>te σ H λx H1=>tl σ H1 λl H2=>th σ H2 λu H3=>r x l u H3 Q
theorem zlz {r:V→Option Int→Option Int→Hp→VK→Prop}(hr:SlR X r)(he:PE X e te)(hl:PO X lo tl)(hu:PO X hi th):PE X (.Subscript e (.Slice lo hi none p2) pos) (tSl r te tl th):=by
 intro pins s σ H Q I h
 refine Subscript_ (thn (he pins s σ H _ I h) λv s1 ⟨x,H1,I1,r1,q1⟩=>?_)
 refine wpAny_Slice (thn (hl pins s1 σ H1 _ I1 q1) λvl s2 ⟨l,H2,I2,pl,q2⟩=>thn (hu pins s2 σ H2 _ I2 q2) λvu s3 ⟨u,H3,I3,pu,q3⟩=>?_)
 rw[evalPart_none]
 refine wpAny_pure ?_
 have I4:Inv X pins σ H3 { s3 with heap:=s3.heap.push { cls:=.type "slice",data:=.fields #[vl,vu,.none] } }:=I3.kept (t':=s3.toks) λb ob q=>Heap.get?_push_of_some _ q
 obtain⟨T,id,hT,ht,hg⟩:=hr pins { s3 with heap:=s3.heap.push { cls:=.type "slice",data:=.fields #[vl,vu,.none] } } σ H3 x v vl vu l u s3.heap.objs.size Q I4 r1 (Heap.IsSliceOf.new ..) pl pu q3
 show wpAny (model X.prog X.w) X.A (subscriptTail e (.Slice lo hi none p2) v (.ref s3.heap.objs.size)) (EP X pins σ Q) X.xe { s3 with heap:=s3.heap.push { cls:=.type "slice",data:=.fields #[vl,vu,.none] } }
 exact tail_any (ops:=[.ref s3.heap.objs.size,v]) ht hT hg (by with_unfolding_all rfl)
def zcW (xs:List V)(lo hi:Option Int):List V:=(xs.drop (HT.sIx xs.length 0 lo)).take (HT.sIx xs.length xs.length hi-HT.sIx xs.length 0 lo)
theorem zjT (xs:List V)(lo hi:Option Int):(zcW xs lo hi).length≤xs.length:=by
 unfold zcW
 rw[VaJ,List.length_drop]
 omega
end
end L2
namespace L2
open PySem PySem.Spec PyProof.Rows
def ixN (n:Nat)(i:Int):Option Nat:=if 0≤i then (if i<n then some i.toNat else none) else if -(n:Int)≤i then some (i+n).toNat else none
def atI {α:Type}(xs:List α)(i:Int):Option α:=(ixN xs.length i).bind λj=>xs[j]?
theorem zkK {n:Nat}{i:Int}{j:Nat}(h:ixN n i=some j):seqIndex? i n=some j∧j<n∧-(n:Int)≤i∧i<n:=by
 unfold ixN at h
 by_cases h0:0≤i
 ·rw[if_pos h0] at h
  by_cases h1:i<n
  ·rw[if_pos h1] at h
   have e:i.toNat=j:=Option.some.inj h
   exact⟨by rw[seqIndex_of h0 h1,e],by omega,by omega,h1⟩
  ·rw[if_neg h1] at h; cases h
 ·rw[if_neg h0] at h
  by_cases h1:-(n:Int)≤i
  ·rw[if_pos h1] at h
   have e:(i+n).toNat=j:=Option.some.inj h
   exact⟨by rw[seqIndex_neg (by omega) h1,e],by omega,h1,by omega⟩
  ·rw[if_neg h1] at h; cases h
theorem ziX {α:Type}{xs:List α}{i:Int}{v:α}(h:atI xs i=some v):∃j,seqIndex? i xs.length=some j∧xs[j]?=some v∧j<xs.length∧-(xs.length:Int)≤i∧i<xs.length:=by
 unfold atI at h
 cases e:ixN xs.length i with
 | none=>rw[e] at h; cases h
 | some j=>
  rw[e] at h
  obtain⟨h1,h2,h3,h4⟩:=zkK e
  exact⟨j,h1,h,h2,h3,h4⟩
theorem zbN {α:Type}{xs:List α}{j:Nat}{v:α}(h:xs[j]?=some v):atI xs (j:Int)=some v:=by
 have hj:j<xs.length:=(Vac.mp h).1
 have e:ixN xs.length (j:Int)=some j:=by
  unfold ixN
  rw[if_pos (by omega),if_pos (by omega)]; simp
 unfold atI; rw[e]; exact h
def zgC (b:Expr):Prop:=∀o i,subscripted b false o i=operate [o,i] (getItem o i)
def IxR (X:Cx)(r:R2):Prop:=
 ∀(value slice:Expr) (pins:List (Addr×Obj)) (s:Shared) (σ:St) (H:Hp) (x y:V) (v u:Value) (Q:VK),Inv X pins σ H s→zag x v→zag y u→r x y H Q→
  subscripted slice false v u=operate [v,u] (getItem v u)→wpAny (model X.prog X.w) X.A (subscriptTail value slice v u) (EP X pins σ Q) X.xe s
def MtR (X:Cx)(id:String)(r:V→List V→Hp→VK→Prop):Prop:=
 ∀(pins:List (Addr×Obj)) (s:Shared) (σ:St) (H:Hp) (x:V) (xs:List V) (v:Value) (us:List Value) (Q:VK),Inv X pins σ H s→zag x v→zad xs us→r x xs H Q→
  wpAny (model X.prog X.w) X.A (call (.builtin id) (v::us)) (EP X pins σ Q) X.xe s
section
variable {X:Cx}{a b:Expr}{ta tb:TE}{pos:Pos}
theorem IxR.or {r r':R2}(h:IxR X r)(h':IxR X r'):IxR X (λx y H Q=>r x y H Q∨r' x y H Q):=by
 intro value slice pins s σ H x y v u Q I rx ry q hs
 rcases q with q | q
 ·exact h value slice pins s σ H x y v u Q I rx ry q hs
 ·exact h' value slice pins s σ H x y v u Q I rx ry q hs
theorem MtR.or {id:String}{r r':V→List V→Hp→VK→Prop}(h:MtR X id r)(h':MtR X id r'):MtR X id (λx xs H Q=>r x xs H Q∨r' x xs H Q):=by
 intro pins s σ H x xs v us Q I rx rs q
 rcases q with q | q
 ·exact h pins s σ H x xs v us Q I rx rs q
 ·exact h' pins s σ H x xs v us Q I rx rs q
theorem pe_ix {r:R2}(hr:IxR X r)(ha:PE X a ta)(hb:PE X b tb)(hs:zgC b):PE X (.Subscript a b pos) (tOp r ta tb):=by
 intro pins s σ H Q I h
 exact Subscript_ (binT ha hb I h λv u s2 x y H2 I2 rx ry q=>hr a b pins s2 σ H2 x y v u Q I2 rx ry q (hs _ _))
def rIxL (K:PySem.W.Frag):R2:=λx y H Q=>∃p xs i v,x=.ref p∧y=.int i∧SqL K H p xs∧atI xs i=some v∧Q v H
def rIxT (K:PySem.W.Frag):R2:=λx y H Q=>∃p xs i v,x=.ref p∧y=.int i∧SqT K H p xs∧atI xs i=some v∧Q v H
theorem zmr:IxR X (rIxL X.K):=by
 intro value slice pins s σ H x y v u Q I rx ry h hs
 obtain⟨p,xs,i,z,rfl,rfl,hq,he,q⟩:=h
 cases rx
 obtain⟨t,rfl⟩:=ry
 obtain⟨its,r,pl,hz⟩:=I.list hq
 obtain⟨j,h1,h2,h3,h4,h5⟩:=ziX he
 obtain⟨w,ew,rw'⟩:=r.get h2
 have hl:=r.length
 have hn:=zgP
 have fin:EP X pins σ Q w s:=⟨z,H,I,rw',q⟩
 by_cases h0:0≤i
 ·have hj:i.toNat=j:=by
   rw[seqIndex_of h0 h5] at h1
   exact Option.some.inj h1
  exact item_listR pl.isList h0 (by omega) (by rw[hj]; simpa using ew) fin hs
 ·have hj:(i+(its.toArray.size:Int)).toNat=j:=by
   rw[seqIndex_neg (by omega) h4] at h1
   rw[Vaf,← hl]
   exact Option.some.inj h1
  exact subscriptTail_builtinR (x:=w) pl.isList.typeIs slot_list_getitem.lookup
   (wpAny_getItem_list_neg (Q:=λr s'=>r=w∧EP X pins σ Q r s') pl.isList (by omega) (by rw[Vaf] <;> omega) (by omega) (by rw[hj]; simpa using ew) ⟨rfl,fin⟩) hs
theorem zlU:IxR X (rIxT X.K):=by
 intro value slice pins s σ H x y v u Q I rx ry h hs
 obtain⟨p,xs,i,z,rfl,rfl,hq,he,q⟩:=h
 cases rx
 obtain⟨t,rfl⟩:=ry
 obtain⟨its,r,pl,hz⟩:=I.tuple hq
 obtain⟨j,h1,h2,h3,h4,h5⟩:=ziX he
 obtain⟨w,ew,rw'⟩:=r.get h2
 have hl:=r.length
 have hn:=zgP
 have fin:EP X pins σ Q w s:=⟨z,H,I,rw',q⟩
 exact subscriptTail_builtinR (x:=w) pl.typeIs slot_tuple_getitem.lookup
  (getItem_tuple (j:=j) (Q:=λr s'=>r=w∧EP X pins σ Q r s') pl (by omega) (by omega) (by rw[Vaf,← hl]; exact h1) (by simpa using ew) ⟨rfl,fin⟩) hs
theorem Inv.lst {pins:List (Addr×Obj)}{σ:St}{H:Hp}{s:Shared}{p:Addr}{xs:List V}(I:Inv X pins σ H s)(h:H p=some (.lst xs)):
  ∃(its:List Value) (n:Nat),zad xs its∧s.heap.get? p=some { cls:=.type "list",data:=.seq its.toArray n }∧xs.length≤sizeLine:=by
 obtain⟨z,its,n,r,e⟩:=I.hok p _ h
 exact⟨its,n,r,e,z⟩
theorem zkD (lo hi:Option Int)(n:Nat):(sliceBounds lo hi none n).1=((HT.sIx n 0 lo:Nat):Int)∧(sliceBounds lo hi none n).2.1=((HT.sIx n n hi:Nat):Int)∧(sliceBounds lo hi none n).2.2=1:=by
 refine⟨?_,?_,rfl⟩
 ·cases lo with
  | none=>simp[sliceBounds,HT.sIx]
  | some i=>
   simp only[sliceBounds,HT.sIx,Option.getD_none,show (1:Int) > 0 by decide,if_true]
   by_cases h:i<0
   ·simp only[h,if_true] <;> omega
   ·simp only[h,if_false] <;> omega
 ·cases hi with
  | none=>simp[sliceBounds,HT.sIx]
  | some i=>
   simp only[sliceBounds,HT.sIx,Option.getD_none,show (1:Int) > 0 by decide,if_true]
   by_cases h:i<0
   ·simp only[h,if_true] <;> omega
   ·simp only[h,if_false] <;> omega
theorem zmT (its:List Value)(lo hi:Option Int):slicePick its.toArray lo hi none=((its.drop (HT.sIx its.length 0 lo)).take (HT.sIx its.length its.length hi-HT.sIx its.length 0 lo)).toArray:=by
 obtain⟨h1,h2,h3⟩:=zkD lo hi its.toArray.size
 unfold slicePick
 rw[h1,h2,h3]
 simp only[sliceRange_one,pick_run,Vaf] <;> rfl
def rSlL (K:PySem.W.Frag):V→Option Int→Option Int→Hp→VK→Prop:=λx lo hi H Q=>∃a xs,x=.ref a∧SqL K H a xs∧∀p,H p=none→Q (.ref p) (upd H p (.lst (zcW xs lo hi)))
theorem zlW:SlR X (rSlL X.K):=by
 intro pins s σ H x v vl vu lo hi sl Q I rx hs pl pu h
 obtain⟨a,xs,rfl,hx,q⟩:=h
 cases rx
 obtain⟨its,r,ht,hz⟩:=I.list hx
 have hlen:=r.length
 refine⟨"list",_,slot_list_getitem.lookup,ht.isList.typeIs,?_⟩
 refine wpAny_getItem_list_slice ht.isList hs pl pu .none (by simp) ?_ (by rw[Vaf] <;> omega)
 rw[zmT,← hlen]
 refine⟨.ref s.heap.objs.size,_,I.laid (t':=s.toks) (o:=.lst (zcW xs lo hi)) (λb ob q=>Heap.get?_push_of_some _ q) (Vaa _) ?_,rfl,q _ (I.hok.fresh (Vaa _))⟩
 exact⟨Vau (zjT xs lo hi) hz,_,0,(r.drop (HT.sIx xs.length 0 lo)).take (HT.sIx xs.length xs.length hi-HT.sIx xs.length 0 lo),Heap.get?_push_size _ rfl⟩
def zex:V→Bool
 | .non=>true
 | .bl _=>true
 | .int _=>true
 | .str _=>true
 | _=>false
def eqV:V→V→Bool
 | .non,.non=>true
 | .bl a,.bl b=>a==b
 | .bl a,.int b=>(if a then 1 else 0)==b
 | .int a,.bl b=>a==(if b then 1 else 0)
 | .int a,.int b=>a==b
 | .str a,.str b=>a==b
 | _,_=>false
theorem zjZ {A:Around}{s:Shared}{y x:V}{u v:Value}(ry:zag y u)(rx:zag x v)(fy:zex y=true)(fx:zex x=true):SeqAt.EqAt A s u v (eqV y x):=by
 cases y with
 | non=>
  cases ry
  cases x with
  | non=>cases rx; exact SeqAt.EqAt.same _
  | bl b=>cases rx; exact SeqAt.EqAt.none_bool b
  | int b=>obtain⟨t,rfl⟩:=rx; exact SeqAt.EqAt.none_int b t
  | str b=>obtain⟨t,rfl⟩:=rx; exact SeqAt.EqAt.none_str b t
  | _=>exact absurd (show false=true from fx) Var
 | bl a=>
  cases ry
  cases x with
  | non=>cases rx; exact SeqAt.EqAt.bool_none a
  | bl b=>cases rx; exact SeqAt.EqAt.bool_bool a b
  | int b=>obtain⟨t,rfl⟩:=rx; exact SeqAt.EqAt.bool_int a b t
  | str b=>obtain⟨t,rfl⟩:=rx; exact SeqAt.EqAt.bool_str a b t
  | _=>exact absurd (show false=true from fx) Var
 | int a=>
  obtain⟨t',rfl⟩:=ry
  cases x with
  | non=>cases rx; exact SeqAt.EqAt.int_none a t'
  | bl b=>cases rx; exact SeqAt.EqAt.int_bool a t' b
  | int b=>obtain⟨t,rfl⟩:=rx; exact SeqAt.EqAt.int_int a t' b t
  | str b=>obtain⟨t,rfl⟩:=rx; exact SeqAt.EqAt.int_str a t' b t
  | _=>exact absurd (show false=true from fx) Var
 | str a=>
  obtain⟨t',rfl⟩:=ry
  cases x with
  | non=>cases rx; exact SeqAt.EqAt.str_none a t'
  | bl b=>cases rx; exact SeqAt.EqAt.str_bool a t' b
  | int b=>obtain⟨t,rfl⟩:=rx; exact SeqAt.EqAt.str_int a t' b t
  | str b=>obtain⟨t,rfl⟩:=rx; exact SeqAt.EqAt.str_str a t' b t
  | _=>exact absurd (show false=true from fx) Var
 | _=>exact absurd (show false=true from fy) Var
theorem zkt:zay X (.builtin "len") (λxs H Q=>∃p ys,xs=[.ref p]∧(SqL X.K H p ys∨SqT X.K H p ys)∧Q (.int ys.length) H):=by
 intro pins s σ H xs us Q I r h
 obtain⟨p,ys,rfl,hq,q⟩:=h
 obtain⟨u,rfl,rx⟩:=zbl r
 cases rx
 have hn:=zgP
 rcases hq with hq | hq
 ·obtain⟨its,r',pl,hz⟩:=I.list hq
  have hlen:=r'.length
  exact Calls.call_len_list pl.isList (by simp only[Vaf] <;> omega) ⟨.int ys.length,H,I.tok _,⟨s.toks+1,by rw[Vaf,hlen]⟩,q⟩
 ·obtain⟨its,r',pl,hz⟩:=I.tuple hq
  have hlen:=r'.length
  exact len_tuple pl (by simp only[Vaf] <;> omega) ⟨.int ys.length,H,I.tok _,⟨s.toks+1,by rw[Vaf,hlen]⟩,q⟩
theorem zay.or {f:Value}{r r':List V→Hp→VK→Prop}(h:zay X f r)(h':zay X f r'):zay X f (λxs H Q=>r xs H Q∨r' xs H Q):=by
 intro pins s σ H xs us Q I rs q
 rcases q with q | q
 ·exact h pins s σ H xs us Q I rs q
 ·exact h' pins s σ H xs us Q I rs q
theorem zk1:zay X (.type "list") (λxs H Q=>∃p ys,xs=[.ref p]∧(SqL X.K H p ys∨SqT X.K H p ys)∧∀l,H l=none→Q (.ref l) (upd H l (.lst ys))):=by
 intro pins s σ H xs us Q I r h
 obtain⟨p,ys,rfl,hq,q⟩:=h
 obtain⟨u,rfl,rx⟩:=zbl r
 cases rx
 have fin:∀(its:List Value),zad ys its→ys.length≤sizeLine→∀(h':Heap) (c':Nat),(∀b o',s.heap.get? b=some o'→h'.get? b=some o')→
   h'.get? s.heap.objs.size=some { cls:=.type "list",dict:=none,data:=.seq its.toArray c',slots:=#[] }→EP X pins σ Q (.ref s.heap.objs.size) { s with heap:=h' }:=λits r' hz h' c' kp e=>
  ⟨.ref s.heap.objs.size,_,I.laid (t':=s.toks) kp (Vaa _) (show za3 X.prog X.w _ h' _ (.lst ys) from ⟨hz,its,c',r',e⟩),rfl,q _ (I.hok.fresh (Vaa _))⟩
 rcases hq with hq | hq
 ·obtain⟨its,r',pl,hz⟩:=I.list hq
  have hlen:=r'.length
  obtain⟨o,ho,hc,n,hd⟩:=pl.isList
  exact call_list_seq p (.inl rfl) ho hc hd (λh' c' kp e=>fin its r' hz h' c' kp e) (by simp only[Vaf] <;> omega)
 ·obtain⟨its,r',pl,hz⟩:=I.tuple hq
  have hlen:=r'.length
  obtain⟨o,ho,hc,n,hd⟩:=pl
  exact call_list_seq p (.inr rfl) ho hc hd (λh' c' kp e=>fin its r' hz h' c' kp e) (by simp only[Vaf] <;> omega)
def tyV (K:PySem.W.Frag)(T:String)(x:V)(H:Hp):Prop:=match x with
 | .str _=>T="str"
 | .int _=>T="int"
 | .ref p=>(T="list"∧∃xs,SqL K H p xs)∨(T="tuple"∧∃o,K.lookup p=some o∧o.cls=.type "tuple"∧o.dict=none)∨
   (T="dict"∧((∃kvs,H p=some (.dK kvs))∨∃kvs,H p=some (.dT kvs)))∨(T="set"∧∃S n,H p=some (.set S n))
 | _=>False
theorem zmd {pins:List (Addr×Obj)}{σ:St}{H:Hp}{s:Shared}{T:String}{x:V}{v:Value}(I:Inv X pins σ H s)(r:zag x v)(ty:tyV X.K T x H):
  s.TypeIs v T∧∀a,v=.ref a→∃ob,s.heap.get? a=some ob∧ob.dict=none:=by
 cases x with
 | str z=>
  obtain⟨t,rfl⟩:=r
  cases (show T="str" from ty)
  exact⟨typeIs_str s z t,λ_ e=>nomatch e⟩
 | int i=>
  obtain⟨t,rfl⟩:=r
  cases (show T="int" from ty)
  exact⟨typeIs_int s i t,λ_ e=>nomatch e⟩
 | ref p=>
  cases r
  rcases ty with ⟨rfl,xs,hq⟩ | ⟨rfl,o,hk,hc,hd⟩ | ⟨rfl,hk⟩ | ⟨rfl,S,n,hk⟩
  ·obtain⟨its,_,pl,_⟩:=I.list hq
   refine⟨pl.isList.typeIs,λa e=>?_⟩
   cases e
   obtain⟨o,n,e,c,hd,_⟩:=pl
   exact⟨o,e,hd⟩
  ·refine⟨⟨o,I.kIn p o hk,hc⟩,λa e=>?_⟩
   cases e
   exact⟨o,I.kIn _ o hk,hd⟩
  ·have z:∃o,s.heap.get? p=some o∧o.ExactDict:=by
    rcases hk with ⟨kvs,hk⟩ | ⟨kvs,hk⟩
    ·obtain⟨_,_,_,_,o,_,_,e,ex,_⟩:=I.hok p _ hk
     exact⟨o,e,ex⟩
    ·obtain⟨_,_,_,_,o,_,_,e,ex,_⟩:=I.hok p _ hk
     exact⟨o,e,ex⟩
   obtain⟨o,e,ex⟩:=z
   refine⟨⟨o,e,ex.1⟩,λa e2=>?_⟩
   cases e2
   exact⟨o,e,ex.2.1⟩
  ·obtain⟨o,_,_,_,e,ex,_⟩:=I.hok p _ hk
   refine⟨⟨o,e,ex.1⟩,λa e2=>?_⟩
   cases e2
   exact⟨o,e,ex.2.1⟩
 | _=>exact False.elim ty
def tBM (K:PySem.W.Frag)(T:String)(r:V→List V→Hp→VK→Prop)(to:TE)(t:TA):TE:=λσ H Q=>to σ H λx H1=>tyV K T x H1∧t σ H1 λxs H2=>r x xs H2 Q
variable {o e:Expr}{es:List Expr}{to:TE}{t:TA}{name:Str}{apos cpos:Pos}{T id:String}{r:V→List V→Hp→VK→Prop}
theorem zhm (pa:PlainAttrs T)(slot:Slot T name id)(hty:typeOf (.builtin id)=pure (.type "method_descriptor"))(hm:MtR X id r)(ho:PE X o to)(ha:PA X (e::es) t)
  (hbase:attributeBase o name X.env (eval o X.env)=eval o X.env:=by rfl)
  (hfew:((backTo cpos (starEach (e::es) X.env)).all (λx=>!x.1)&&(backToKw cpos (keywordEach [] X.env)).all (λx=>x.1.isSome)
  &&decide ((e::es).length+([]:List Keyword).length+(if ([]:List Keyword).isEmpty then 0 else 1)<30))=true:=by rfl)
  (hline:(apos.endLine==cpos.line)=true:=by rfl)(hs:starEach (e::es) X.env=(false,eval e X.env)::starEach es X.env:=by rfl)(hplain:(backTo cpos (starEach es X.env)).any (·.1)=false:=by rfl):
  PE X (.Call (.Attribute o name apos) (e::es) [] cpos) (tBM X.K T r to t):=by
 intro pins s σ H Q I h
 refine wpAny_Call_method_late hbase hfew hline rfl (thn (ho pins s σ H _ I h) λv s1 ⟨x,H1,I1,r1,ty,q1⟩=>?_)
 obtain⟨h1,h2⟩:=zmd I1 r1 ty
 refine⟨T,id,pa,slot,hty,h1,h2,?_⟩
 have hA:=ha cpos pins s1 σ H1 _ I1 q1
 rw[hs] at hA ⊢
 refine Calls.callWith_builtin (by show (false||(backTo cpos (starEach es X.env)).any (·.1))=false; rw[hplain] <;> rfl) (Calls.evalArgs_plain ?_)
 exact thn hA λus s2 ⟨vs,H2,I2,r2,q2⟩=>hm pins s2 σ H2 x vs v us Q I2 r1 r2 q2
end
end L2
namespace L2
open PySem PySem.Spec PyProof.Rows
def MtM (X:Cx)(id:String)(r:V→List V→Hp→VK→Prop):Prop:=
 ∀(pins:List (Addr×Obj)) (s:Shared) (σ:St) (H:Hp) (x:V) (xs:List V) (v:Value) (us:List Value) (Q:VK),Inv X pins σ H s→zag x v→zad xs us→r x xs H Q→
  wpAny (model X.prog X.w) X.A (call (.builtin id) (v::us)) (EP X pins σ Q) X.xe s
theorem zad.one:∀ {x:V} {us:List Value},zad [x] us→∃u,us=[u]∧zag x u
 | _,_,.cons r .nil=>⟨_,rfl,r⟩
theorem zad.two:∀ {x y:V} {us:List Value},zad [x,y] us→∃u v,us=[u,v]∧zag x u∧zag y v
 | _,_,_,.cons r (.cons q .nil)=>⟨_,_,rfl,r,q⟩
theorem zad.zero:∀ {us:List Value},zad [] us→us=[]
 | _,.nil=>rfl
theorem zad.eraseIdx:∀ {xs:List V} {us:List Value} (i:Nat),zad xs us→zad (xs.eraseIdx i) (us.eraseIdx i)
 | _,_,_,.nil=>.nil
 | _,_,0,.cons _ t=>t
 | _,_,i+1,.cons r t=>.cons r (zad.eraseIdx i t)
theorem zad.reverse {xs:List V}{us:List Value}(h:zad xs us):zad xs.reverse us.reverse:=by
 induction h with
 | nil=>exact .nil
 | cons r t ih=>rw[List.reverse_cons,List.reverse_cons]; exact zad.append ih (.cons r .nil)
section
variable {X:Cx}{pins:List (Addr×Obj)}{σ:St}{H:Hp}{s:Shared}{l b:Addr}{xs ys zs:List V}
theorem Inv.lset {its its':List Value}{n:Nat}{f:Array Value→Array Value}{t':Nat}(I:Inv X pins σ H s)(hH:H l=some (.lst xs))
  (e:s.heap.get? l=some { cls:=.type "list",data:=.seq its.toArray n })(hf:f its.toArray=its'.toArray)(hv:zad ys its')(hz:ys.length≤sizeLine):
  Inv X pins σ (upd H l (.lst ys)) { s with heap:=s.heap.update l (Obj.mapSeq f),toks:=t' }:=by
 have q:=PySem.IsL.update e f
 rw[hf] at q
 refine I.write (x:=l) (e:=l) (by rw[hH]; exact trivial) (.inl rfl) (λb' u hb hu=>(Heap.get?_update_other s.heap (Obj.mapSeq f) (Ne.symm hb)).trans hu) ⟨_,q⟩ ?_
 exact⟨hz,its',_,hv,q⟩
theorem Inv.lnew {its:List Value}{t':Nat}(I:Inv X pins σ H s)(hv:zad ys its)(hz:ys.length≤sizeLine):
  Inv X pins σ (upd H s.heap.objs.size (.lst ys)) { s with heap:=s.heap.push { cls:=.type "list",data:=.seq its.toArray },toks:=t' }:=
 I.laid (λ_ _ q=>Heap.get?_push_of_some _ q) (Vaa _) ⟨hz,its,0,hv,Heap.get?_push_size _ rfl⟩
theorem Inv.fresh (I:Inv X pins σ H s):H s.heap.objs.size=none:=I.hok.fresh (Vaa _)
theorem Inv.lstM (I:Inv X pins σ H s)(hH:H l=some (.lst xs)):xs.length≤sizeLine∧∃(its:List Value) (n:Nat),zad xs its∧xs.length=its.length∧s.heap.get? l=some { cls:=.type "list",data:=.seq its.toArray n }:=by
 obtain⟨z,its,n,r,e⟩:=I.hok l _ hH
 exact⟨z,its,n,r,r.length,e⟩
theorem zjf {n:Nat}(h:n≤sizeLine):Builtin.List.listTooLong n=false:=by
 unfold Builtin.List.listTooLong
 exact decide_eq_false (by omega)
end
section
variable {X:Cx}
def zjO:V→List V→Hp→VK→Prop:=λx vs H Q=>∃l xs y,x=.ref l∧vs=[y]∧H l=some (.lst xs)∧xs.length<sizeLine∧Q .non (upd H l (.lst (xs++[y])))
theorem zgE:MtM X "list.append" zjO:=by
 intro pins s σ H x vs v us Q I rx rv h
 obtain⟨l,xs,y,rfl,rfl,hH,hz,q⟩:=h
 cases rx
 obtain⟨u,rfl,ru⟩:=rv.one
 obtain⟨z,its,n,r,hl,e⟩:=I.lstM hH
 refine call_meets F.slot_list_append ⟨_,e,rfl⟩ F.entry_list_append (F.args_list_append_2 _ _) (PySem.list_append l its.toArray n u (by rw[Vaf]; omega)) ⟨e,?_⟩
 refine⟨.non,_,I.lset (its':=its++[u]) hH e (by simp) (r.append (.cons ru .nil)) ?_,rfl,q⟩
 rw[Vao,List.length_singleton]
 omega
def zme:V→List V→Hp→VK→Prop:=λx vs H Q=>∃l b xs zs,x=.ref l∧vs=[.ref b]∧H l=some (.lst xs)∧H b=some (.lst zs)∧xs.length+zs.length≤sizeLine∧Q .non (upd H l (.lst (xs++zs)))
theorem ziz:MtM X "list.extend" zme:=by
 intro pins s σ H x vs v us Q I rx rv h
 obtain⟨l,b,xs,zs,rfl,rfl,hH,hB,hz,q⟩:=h
 cases rx
 obtain⟨u,rfl,ru⟩:=rv.one
 cases ru
 obtain⟨z,its,n,r,hl,e⟩:=I.lstM hH
 obtain⟨z2,its2,n2,r2,hl2,e2⟩:=I.lstM hB
 have hsz:its.toArray.size+its2.toArray.size≤sizeLine:=by rw[Vaf,Vaf]; omega
 have hlong:¬ (!its.toArray.isEmpty&&Builtin.List.listTooLong (its.toArray.size+its2.toArray.size))=true:=by
  rw[zjf hsz,Bool.and_false]
  exact Var
 refine call_meets F.slot_list_extend ⟨_,e,rfl⟩ F.entry_list_extend (F.args_list_extend_2 _ _)
  (AutoSeq1.list_extend_list_list_0 l its.toArray n b its2.toArray n2 hlong (by rw[Vaf]; omega) (by omega)) ⟨e,e2,?_⟩
 refine⟨.non,_,I.lset (its':=its++its2) hH e (by simp) (r.append r2) ?_,rfl,q⟩
 rw[Vao]
 omega
def rCat:R2:=λx y H Q=>∃l b xs zs,x=.ref l∧y=.ref b∧H l=some (.lst xs)∧H b=some (.lst zs)∧xs.length+zs.length≤sizeLine∧∀p,H p=none→Q (.ref p) (upd H p (.lst (xs++zs)))
theorem zjP:OpR X (binaryOp .Add) rCat:=by
 intro pins s σ H x y v u Q I rx ry h
 obtain⟨l,b,xs,zs,rfl,rfl,hH,hB,hz,q⟩:=h
 cases rx
 cases ry
 obtain⟨z,its,n,r,hl,e⟩:=I.lstM hH
 obtain⟨z2,its2,n2,r2,hl2,e2⟩:=I.lstM hB
 refine PySem.P.add_list e e2 ?_ (by rw[Vaf,Vaf]; omega)
 have ea:its.toArray++its2.toArray=(its++its2).toArray:=by simp
 rw[ea]
 exact⟨.ref _,_,I.lnew (t':=s.toks) (r.append r2) (by rw[Vao]; omega),rfl,q _ I.fresh⟩
end
section
variable {prog:Program}{w:World}{A:Around}{E:Value→Shared→Prop}{s:Shared}
set_option maxRecDepth 100000 in
end
section
variable {X:Cx}
end
end L2
namespace Att
open PySem PySem.W PySem.Calls PyProof.Rows
theorem zmJ {P:Params}{h:Heap}:∀(ns:List Int) (vs:List Value),WellAll P h vs (ns.map WData.int)→IntsAre vs ns:=by
 intro ns
 induction ns with
 | nil=>
  intro vs w
  rw[List.map_nil] at w
  cases w
  exact .nil
 | cons n ns ih=>
  intro vs w
  rw[Val] at w
  cases w with
  | cons a b=>
   cases a
   exact .cons _ _ (ih _ b)
theorem zjM {l:OpenLaw}{n:Nat}(hn:l.most=some n){P:Params}{h:Heap}{args:List WData}{vals:List Value}
  (hpre:l.row.toRowW.claim.pre args=true)(hwl:WellAll P h vals args):
  ∃a vs ns,vals=[Value.ref a]∧args=[WData.list (ns.map WData.int)]∧h.get? a=some { cls:=.type "list",data:=.seq vs.toArray }∧IntsAre vs ns∧ns.length≤n:=by
 have hsh:WShape.hasAll [] args [.list .int]=true:=(pre_splitW hpre).1
 have hc:l.pre.holds [] { args:=args }=true:=(pre_splitW hpre).2
 obtain⟨d,r,rfl,h1,h2⟩:=hasAllW_cons hsh
 obtain rfl:=hasAllW_nil h2
 obtain⟨xs,rfl,h3⟩:=hasW_list h1
 obtain⟨ns,rfl⟩:=items_int h3
 have hlen:ns.length≤n:=by
  unfold OpenLaw.pre at hc
  have h4:(WTm.not (.lt (.lit (.int (n:Int))) (.len (.arg 0)))).holds [] { args:=[.list (ns.map .int)] }=true:=by
   have h4:=(holds_andW hc).1
   rw[hn] at h4
   exact h4
  have h5:=condW_of h4 (w_not (w_lt w_lit (w_len_list (w_arg rfl))))
  rw[Vab] at h5
  refine Nat.le_of_not_lt λq=>?_
  have q':(n:Int)<((ns.length:Nat):Int):=by omega
  first
   | (rw[decide_eq_true q'] at h5; exact absurd h5 (by decide))
   | (simp at h5; omega)
 cases hwl with
 | cons w1 w2=>
  cases w2
  cases w1 with
  | list ho hall=>exact⟨_,_,ns,rfl,rfl,ho,zmJ ns _ hall,hlen⟩
theorem zlc (l:OpenLaw)(args:List WData):l.row.toRowW.claim.post args (.bool true) args=true:=
 postW_of (r:=l.row.toRowW) (X:=(true==true))
  (show WShape.has [] (.bool true) .bool=true by first | rfl | decide | simp[WShape.has,WShape.arms,WShape.armsAll])
  (show (WTm.eq .res (.lit (.bool true))).value [] { args:=args,res:=some (.bool true),after:=args }=some (.bool (true==true)) from w_eq_bool (w_res rfl) w_lit) rfl
theorem attach_call {l:OpenLaw}{n:Nat}{q:Program}{loose:List Str}{XP:(Str→Option Value)→Heap→Prop}{YP:World→Heap→Prop}{d:DefRec}
  (hn:l.most=some n)(hdf:d.params.defaults=[])
  (call:∀(w:World) (s₀ s₁:Shared) (mg mb:Str→Option Value) (fa:Addr) (o:Obj) (pm cd doc:Value) (a:Addr) (vs:List Value) (ns:List Int),
   Ground q loose [] XP w s₀ mg mb s₁.heap→YP w s₁.heap→
   s₁.heap.get? fa=some o→o.data=.func (docDef d.name d.params d.body d.scope pm cd doc)→s₁.heap.CodeRec cd d.name→mg d.name=some (.ref fa)→
   s₁.heap.get? a=some { cls:=.type "list",data:=.seq vs.toArray }→IntsAre vs ns→ns.length≤n→s₁.gens=#[]→
   codeAny (model l.prog w) callerA (.call (.ref fa) ⟨[.ref a],[]⟩) (λr s'=>r=.ok (.ret (.bool true))∧OldK s₁.heap s'.heap∧s'.os=s₁.os∧AllBare s'.gens) s₁):
  WalkO q loose XP YP l.row.toRowW d [] (λf vs=>PySem.call f vs):=by
 intro w s₀ s₁ mg mb G Y fa o pm cd doc dV kV ho hd hcd hD hmg hg args vals as hpre hlay hrd hwl hlo
 obtain rfl:dV=.none:=Dflts.none hD hdf
 obtain rfl:kV=.none:=Dflts.noKw hD
 obtain⟨a,vs,ns,rfl,rfl,hobj,hints,hlen⟩:=zjM hn hpre hwl
 refine enter_call (codeAny_mono (call w s₀ s₁ mg mb fa o pm cd doc a vs ns G Y ho (fd_plain hd) hcd hmg hobj hints hlen hg) λr s' hq=>?_)
 obtain⟨rfl,h2,h3,h4⟩:=hq
 exact⟨.inl ⟨.bool true,.bool true,[],rfl,λ_=>rfl,.bool true,zlc l _,λ_=>⟨List.Pairwise.nil,λ_ hm=>(nomatch hm)⟩⟩,h2,h3,h4⟩
section
variable {prog:Program}{w:World}{A:Around}{E:Value→Shared→Prop}{s:Shared}{K:Frag}
def ledger (h:Heap)(L d:Addr):List (Addr×Obj):=(List.range h.objs.size).filterMap λa=>if a=L∨a=d then none else (h.get? a).map λo=>(a,o)
end
end Att
namespace L2
open PySem PySem.Spec PyProof.Rows
theorem zdH:∀ {vs:List Value} {ns:List Int},IntsAre vs ns→zad (ns.map V.int) vs
 | _,_,.nil=>.nil
 | _,_,.cons n t h=>.cons ⟨t,rfl⟩ (zdH h)
def zd7 (H:Hp):Prop:=∀b,H b=none∨∃o xs,H b=some (.frz o (.lst xs))
theorem zkU {P:Program}{w:World}{K:PySem.W.Frag}{mg mb:Str→Option Value}{CX:CXT}{k:Nat}{fa a:Addr}{fd:FuncData}{x:Str}{sp:Sp}{s₁:Shared}{vs:List Value}{ns:List Int}
  (KX:K.In s₁.heap)(hns:s₁.heap.Ns mainGlobals mg)(hb:s₁.heap.Ns builtinsNs mb)(hbb:∀x:Str,x≠"__name__"→mb x=bootBuiltins x)(hlim:s₁.heap.NoLimit)(hg:s₁.gens=#[])
  (ha:s₁.heap.get? a=some { cls:=.type "list",data:=.seq vs.toArray })(hi:IntsAre vs ns)(hl:ns.length≤sizeLine)(hr:zat k callerA)
  (F:∀base:Heap,K.In base→base.Ns mainGlobals mg→zaL P w K mg base CX k fa fd [x] sp)(hbind:∀(s:Shared) (u:Value),BindsTo s fd ⟨[u],[]⟩ [(x,u)])
  (hsp:∀H:Hp,zd7 H→SqL K H a (ns.map V.int)→sp [.ref a] H (λv _=>v=.bl true) λ_ _ _=>False)
  (hCX:∀H e s',CX [] H s₁ (λ_ _ _=>False) e s'→False):
  codeAny (model P w) callerA (.call (.ref fa) ⟨[.ref a],[]⟩) (λr s'=>r=.ok (.ret (.bool true))∧OldK s₁.heap s'.heap∧s'.os=s₁.os∧AllBare s'.gens) s₁:=by
 have rv:=zdH hi
 have lenV:=hi.length
 have core:∀H:Hp,zd7 H→SqL K H a (ns.map V.int)→HOk P w H s₁.heap→(∀b,H b≠none→b=a)→(H a≠none→K.lookup a=none)→
   codeAny (model P w) callerA (.call (.ref fa) ⟨[.ref a],[]⟩) (λr s'=>r=.ok (.ret (.bool true))∧OldK s₁.heap s'.heap∧s'.os=s₁.os∧AllBare s'.gens) s₁:=by
  intro H hO hS hok hA hK
  have base_of:∀ {b:Addr} {o:Obj},s₁.heap.get? b=some o→H b=none→(zb1 s₁.heap H).get? b=some o:=λe n=>zkx e n
  have noA:∀ {b:Addr} {o:Obj} {es:Array DictEntry} {ep:Nat},s₁.heap.get? b=some o→o.data=.dict es ep→H b=none:=λ{b o es ep} e d=>by
   cases q:H b with
   | none=>rfl
   | some u=>
    have e':b=a:=hA b (by rw[q]; simp)
    subst e'
    rw[ha] at e; cases e
    have d':Data.seq vs.toArray _=Data.dict es ep:=d
    cases d'
  have nsK:∀ {b:Addr} {m:Str→Option Value},s₁.heap.Ns b m→(zb1 s₁.heap H).Ns b m:=λ{b m} ⟨o,es,ep,e,d,r⟩=>⟨o,es,ep,base_of e (noA e d),d,r⟩
  have hKb:K.In (zb1 s₁.heap H):=λb o e=>base_of (KX b o e) (by
   cases q:H b with
   | none=>rfl
   | some u=>
    have e':b=a:=hA b (by rw[q]; simp)
    subst e'
    rw[hK (by rw[q]; simp)] at e; cases e)
  have hM:Mod K mg (zb1 s₁.heap H):=⟨hKb,nsK hns,⟨mb,nsK hb,hbb⟩,let ⟨mc,h1,h2⟩:=hlim; ⟨mc,nsK h1,h2⟩⟩
  have e0:zbM P w K mg (zb1 s₁.heap H) callerA [] s₁ H:=⟨rfl,hM,λb o e=>zi7 e,Nat.le_of_eq (zmP _ _),trivial,λb hb=>absurd (show b∈([]:List Addr) from hb) (by simp),hok,.of_eq hg⟩
  refine codeAny_mono ((F _ hKb (nsK hns)).run callerA [] s₁ H ⟨[.ref a],[]⟩ [.ref a] [.ref a] _ _ hr e0 (hbind s₁ (.ref a)) (.cons rfl .nil) (hsp H hO hS)) λr s' h=>?_
  cases r with
  | error e=>exact(hCX H e s' h).elim
  | ok fl=>
   cases fl with
   | next=>exact False.elim h
   | brk=>exact False.elim h
   | cont=>exact False.elim h
   | ret u=>
    obtain⟨v,H',os,bare,un,hok',r',q⟩:=h
    have q':v=.bl true:=q
    subst q'
    obtain rfl:u=Value.bool true:=r'
    refine⟨rfl,OldK.of_keep λb o e=>?_,os,bare⟩
    cases q:H b with
    | none=>exact un.keep b o e q (by intro z; exact absurd (show b∈([]:List Addr) from z) (by simp)) (by simp)
    | some u=>
     rcases hO b with z | ⟨ob,xs,z⟩
     ·rw[q] at z; cases z
     ·have z2:=un.frzs b ob _ z
      obtain⟨e1,_⟩:=hok b _ z
      obtain⟨e2,_⟩:=hok' b _ z2
      rw[e] at e1; cases e1
      exact e2
 cases hk:K.lookup a with
 | some o=>
  have e:=KX a o hk
  rw[ha] at e
  cases e
  refine core (λ_=>none) (λ_=>.inl rfl) (.inr ⟨_,vs.toArray,_,hk,rfl,rfl,rfl,by rw[Vaf,lenV]; exact hl,by simpa using rv⟩) (λb u z=>by have z':(none:Option HO)=some u:=z; cases z') (λb z=>absurd rfl z) λz=>absurd rfl z
 | none=>
  refine core (λb=>if b=a then some (.frz { cls:=.type "list",data:=.seq vs.toArray } (.lst (ns.map V.int))) else none) (λb=>?_) (.inl (.inr ⟨{ cls:=.type "list",data:=.seq vs.toArray },if_pos rfl⟩)) (λb u z=>?_) (λb z=>?_) λ_=>hk
  ·by_cases hb:b=a
   ·exact .inr ⟨_,_,if_pos hb⟩
   ·exact .inl (if_neg hb)
  ·by_cases hb:b=a
   ·have z':=(if_pos hb).symm.trans z
    cases z'
    subst hb
    exact⟨ha,by rw[Vab]; exact hl,vs,_,rv,ha⟩
   ·have z':=(if_neg hb).symm.trans z
    cases z'
  ·by_cases hb:b=a
   ·exact hb
   ·exact absurd (if_neg hb) z
end L2
namespace L2
open PySem PySem.Spec PyProof.Rows
theorem zlo {l:PySem.W.OpenLaw}{n k:Nat}{q:Program}{loose:List Str}{XP:(Str→Option Value)→Heap→Prop}{YP:World→Heap→Prop}{d:DefRec}{K:Params→PySem.W.Frag}{CX:World→CXT}{sp:World→Sp}{x:Str}
  (hn:l.most=some n)(hn2:n≤sizeLine)(hdf:d.params.defaults=[])(hr:zat k callerA)
  (hY:∀(w:World) (h:Heap),YP w h→(K w.params).In h)
  (F:∀(w:World) (mg:Str→Option Value) (fa:Addr) (h:Heap),(K w.params).In h→h.Ns mainGlobals mg→mg d.name=some (.ref fa)→
   ∃fd:FuncData,(∀(s:Shared) (u:Value),BindsTo s fd ⟨[u],[]⟩ [(x,u)])∧
    ∀base:Heap,(K w.params).In base→base.Ns mainGlobals mg→zaL l.prog w (K w.params) mg base (CX w) k fa fd [x] (sp w))
  (hsp:∀(w:World) (H:Hp) (a:Addr) (ns:List Int),ns.length≤n→zd7 H→SqL (K w.params) H a (ns.map V.int)→sp w [.ref a] H (λv _=>v=.bl true) λ_ _ _=>False)
  (hCX:∀(w:World) (H:Hp) (s:Shared) (e:Value) (s':Shared),CX w [] H s (λ_ _ _=>False) e s'→False):
  PySem.W.WalkO q loose XP YP l.row.toRowW d [] (λf vs=>PySem.call f vs):=by
 refine Att.attach_call hn hdf λw s₀ s₁ mg mb fa o pm cd doc a vs ns G Y ho hd hcd hmg hobj hints hlen hg=>?_
 have KX:=hY w _ Y
 obtain⟨fd,hb,hF⟩:=F w mg fa _ KX G.T.g hmg
 exact zkU KX G.T.g G.T.b G.T.builtins G.T.nolimit hg hobj hints (Vau hlen hn2) hr hF hb (λH hO hS=>hsp w H a ns hlen hO hS) λH e s'=>hCX w H s₁ e s'
end L2
namespace L2
open PySem PySem.Spec PyProof.Rows
abbrev CX0:CXT:=λ_ _ _ _ _ _=>False
structure Fun (K:PySem.W.Frag)(x qual:Str)(st:Stmt)(f:Addr)(fd:FuncData):Prop where
 ex:∃(oc:Value) (od:Option Addr) (kV doc pm:Value) (an:Option Addr) (cdv ct:Value) (osl:Array (Option Value)),
  fd=PySem.W.fnOf x qual (zcL st) (zb6 st) (zan st) .none kV doc pm an cdv ct∧K.lookup f=some ⟨oc,od,.func fd,osl⟩∧PySem.W.codeIn K cdv qual=true
 kp:PySem.W.keepIn K (.ref f)=true
section
variable {P:Program}{w:World}{K:PySem.W.Frag}{mg:Str→Option Value}{base:Heap}
theorem Fun.ok {x qual:Str}{st:Stmt}{f:Addr}{fd:FuncData}{N ps:List Str}{k:Nat}{sp:Sp}(F:Fun K x qual st f fd)(S:zaN N ps (zan st))(len:∀vs H Q E,sp vs H Q E→vs.length=ps.length)
  (hbody:∀(cdv:Value) (A:Around) (outer:List Env) (s:Shared) (H:Hp) (vs:List V) (Q:VK) (E:XK),zat k (A.deeper (envOfC qual (zan st) s.heap.objs.size f cdv))→sp vs H Q E→
   ∃t,PSs (zcv CX0 P w K mg base N qual (zan st) f cdv A outer s H E).nox (zb6 st) t∧t { nx:=λ_ H'=>Q .non H',rt:=Q } (zbE N vs) H):zaL P w K mg base CX0 (k+1) f fd ps sp:=by
 obtain⟨oc,od,kV,doc,pm,an,cdv,ct,osl,rfl,lk,hcd⟩:=F.ex
 refine zhV lk hcd S len λA outer s H vs Q E hr hsp=>?_
 obtain⟨t,h,q⟩:=hbody cdv A outer s H vs Q E hr hsp
 exact⟨t,h.nox,q⟩
theorem Fun.binds {x qual:Str}{st:Stmt}{f:Addr}{fd:FuncData}{ps:List Str}(F:Fun K x qual st f fd)
  (h:∀(kV doc pm:Value) (an:Option Addr) (cdv ct:Value) (us:List Value),us.length=ps.length→bindArgs (PySem.W.fnOf x qual (zcL st) (zb6 st) (zan st) .none kV doc pm an cdv ct) ⟨us,[]⟩=pure (ps.zip us)):zbF K fd ps []:=by
 obtain⟨oc,od,kV,doc,pm,an,cdv,ct,osl,rfl,lk,hcd⟩:=F.ex
 exact .all (h kV doc pm an cdv ct)
theorem zhd {x qual:Str}{st:Stmt}{f:Addr}{oc:Value}{od an:Option Addr}{osl:Array (Option Value)}{kV doc pm cdv ct:Value}(l:K.lookup f=some ⟨oc,od,.func (PySem.W.fnOf x qual (zcL st) (zb6 st) (zan st) .none kV doc pm an cdv ct),osl⟩)
  (c:PySem.W.codeIn K cdv qual=true)(k:PySem.W.keepIn K (.ref f)=true):Fun K x qual st f (PySem.W.fnOf x qual (zcL st) (zb6 st) (zan st) .none kV doc pm an cdv ct):=⟨⟨oc,od,kV,doc,pm,an,cdv,ct,osl,rfl,l,c⟩,k⟩
end
theorem zcO {n:Nat}(h:n≤1000):n<sizeLine:=Nat.lt_of_le_of_lt h (by decide)
section
variable {X:Cx}
theorem pv (i:Nat){x:Str}{pos:Pos}(hN:X.N[i]?=some x:=by rfl)(hv:Vis X.env.scope x:=by first | exact Or.inl rfl | exact Or.inr (Or.inl rfl) | exact Or.inr (Or.inr rfl))(hd:(x==("__debug__":Str))=false:=by decide)
  (hcd:(x==("__classdict__":Str))=false:=by decide):PE X (.Name x pos) (tVar i):=zic hN hv hd hcd
end
theorem zeA {A B:Prop}(h:B):if false=true then A else B:=by
 rw[if_neg Var]
 exact h
theorem zfg {A B:Prop}(h:A):if true=true then A else B:=by
 rw[if_pos rfl]
 exact h
theorem zdU {c A B:Prop} [Decidable c] (h1:c→A)(h2:¬ c→B):if c then A else B:=by
 by_cases h:c
 ·rw[if_pos h]
  exact h1 h
 ·rw[if_neg h]
  exact h2 h
def zbQ (H H':Hp):Prop:=∀b o,H b=some o→H' b=some o
theorem zbQ.refl (H:Hp):zbQ H H:=λ_ _ h=>h
theorem zbQ.trans {H H1 H2:Hp}(a:zbQ H H1)(b:zbQ H1 H2):zbQ H H2:=λc o h=>b c o (a c o h)
theorem zbQ.free {H H':Hp}(e:zbQ H H'){l:Addr}(h:H' l=Option.none):H l=Option.none:=by
 cases q:H l with
 | none=>rfl
 | some o=>
  rw[e l o q] at h
  cases h
theorem zbQ.seq {K:PySem.W.Frag}{H H':Hp}{a:Addr}{xs:List V}(e:zbQ H H')(h:SqL K H a xs):SqL K H' a xs:=by
 rcases h with (h | ⟨o,h⟩) | h
 ·exact .inl (.inl (e _ _ h))
 ·exact .inl (.inr ⟨o,e _ _ h⟩)
 ·exact .inr h
end L2
namespace L2
open PySem PySem.Spec PyProof.Rows
section
variable {κ:Type} [DecidableEq κ]
def zbh (kvs:List (κ×V))(k:κ):Option V:=(kvs.find? λkv=>decide (kv.1=k)).map (·.2)
def putK (kvs:List (κ×V))(k:κ)(v:V):List (κ×V):=
 if (kvs.any λkv=>decide (kv.1=k))=true then kvs.map (λkv=>if kv.1=k then (kv.1,v) else kv) else kvs++[(k,v)]
def zh2 (kvs:List (κ×V))(k:κ):List (κ×V):=kvs.filter λkv=>decide (kv.1≠k)
theorem zfT {p:κ×V}{r:List (κ×V)}{k:κ}(e:p.1=k):zbh (p::r) k=some p.2:=by simp[zbh,VaT,e]
theorem zeL {p:κ×V}{r:List (κ×V)}{k:κ}(e:¬ p.1=k):zbh (p::r) k=zbh r k:=by simp[zbh,VaT,e]
theorem zg3 (k:κ):∀kvs:List (κ×V),(kvs.any λkv=>decide (kv.1=k))=(zbh kvs k).isSome
 | []=>rfl
 | p::r=>by
  rw[List.any_cons]
  by_cases e:p.1=k
  ·simp only[zfT e,decide_eq_true e,Bool.true_or,Option.isSome_some]
  ·rw[zeL e,decide_eq_false e,Bool.false_or]; exact zg3 k r
theorem zce.isSome_eq {o:Option V}{u:Option Value}(r:zce o u):o.isSome=u.isSome:=by
 cases o with
 | none=>cases u with
  | none=>rfl
  | some _=>exact(show False from r).elim
 | some _=>cases u with
  | none=>exact(show False from r).elim
  | some _=>rfl
theorem zce.getD {o:Option V}{u:Option Value}{d:V}{d':Value}(r:zce o u)(rd:zag d d'):zag (o.getD d) (u.getD d'):=by
 cases o with
 | none=>cases u with
  | none=>exact rd
  | some _=>exact(show False from r).elim
 | some _=>cases u with
  | none=>exact(show False from r).elim
  | some _=>exact r
theorem KV.val {kvs:List (κ×V)}{vs:List (κ×Value)}(r:KV kvs vs)(k:κ):zce (zbh kvs k) (valueAt vs k):=by
 unfold KV at r
 induction r with
 | nil=>exact True.intro
 | @cons p q ps qs h t ih=>
  obtain⟨h1,h2⟩:=h
  by_cases e:p.1=k
  ·have e':q.1=k:=h1.symm.trans e
   have b:valueAt (q::qs) k=some q.2:=by simp[valueAt,VaT,e']
   rw[zfT e,b]; exact h2
  ·have e':¬ q.1=k:=λz=>e (h1.trans z)
   have b:valueAt (q::qs) k=valueAt qs k:=by simp[valueAt,VaT,e']
   rw[zeL e,b]; exact ih
theorem KV.any {kvs:List (κ×V)}{vs:List (κ×Value)}(r:KV kvs vs)(k:κ):(kvs.any λkv=>decide (kv.1=k))=vs.any λkv=>decide (kv.1=k):=by
 unfold KV at r
 induction r with
 | nil=>rfl
 | cons h t ih=>rw[List.any_cons,List.any_cons,ih,h.1]
theorem KV.repl {kvs:List (κ×V)}{vs:List (κ×Value)}(r:KV kvs vs)(k:κ){y:V}{u:Value}(ry:zag y u):
  KV (kvs.map λkv=>if kv.1=k then (kv.1,y) else kv) (vs.map λkv=>if kv.1=k then (kv.1,u) else kv):=by
 unfold KV at r ⊢
 induction r with
 | nil=>exact .nil
 | @cons p q ps qs h t ih=>
  rw[Val,Val]
  refine .cons ?_ ih
  obtain⟨h1,h2⟩:=h
  by_cases e:p.1=k
  ·rw[if_pos e,if_pos (h1.symm.trans e)]; exact⟨h1,ry⟩
  ·rw[if_neg e,if_neg (λz=>e (h1.trans z))]; exact⟨h1,h2⟩
theorem KV.put {kvs:List (κ×V)}{vs:List (κ×Value)}(r:KV kvs vs)(k:κ){y:V}{u:Value}(ry:zag y u):KV (putK kvs k y) (stored vs k u):=by
 unfold putK stored
 rw[r.any k]
 by_cases e:(vs.any λkv=>decide (kv.1=k))=true
 ·rw[if_pos e,if_pos e]; exact r.repl k ry
 ·rw[if_neg e,if_neg e]; exact Paired.snoc r ⟨rfl,ry⟩
theorem KV.drop {kvs:List (κ×V)}{vs:List (κ×Value)}(r:KV kvs vs)(k:κ):KV (zh2 kvs k) (without vs k):=by
 unfold KV at r ⊢
 unfold zh2 without
 induction r with
 | nil=>exact .nil
 | @cons p q ps qs h t ih=>
  obtain⟨h1,h2⟩:=h
  rw[VaL,VaL]
  by_cases e:p.1=k
  ·have a:¬ decide (p.1≠k)=true:=by simp[e]
   have b:¬ decide (q.1≠k)=true:=by simp[h1.symm.trans e]
   rw[if_neg a,if_neg b]; exact ih
  ·have e':¬ q.1=k:=λz=>e (h1.trans z)
   have a:decide (p.1≠k)=true:=by simp[e]
   have b:decide (q.1≠k)=true:=by simp[e']
   rw[if_pos a,if_pos b]; exact .cons ⟨h1,h2⟩ ih
theorem KV.keys {kvs:List (κ×V)}{vs:List (κ×Value)}(r:KV kvs vs):kvs.map (·.1)=vs.map (·.1):=by
 unfold KV at r
 induction r with
 | nil=>rfl
 | cons h t ih=>rw[Val,Val,ih,h.1]
theorem KV.length {kvs:List (κ×V)}{vs:List (κ×Value)}(r:KV kvs vs):kvs.length=vs.length:=Paired.length r
end
abbrev KT (H:Hp):List (List Key×V)→List (List Key×Addr×Value)→Prop:=Paired λp q=>p.1=q.1∧H q.2.1=some (.tup (p.1.map kV))∧zag p.2 q.2.2
theorem KT.val {H:Hp}{kvs:List (List Key×V)}{xs:List (List Key×Addr×Value)}(r:KT H kvs xs)(k:List Key):zce (zbh kvs k) ((atKey xs k).map (·.2)):=by
 induction r with
 | nil=>exact True.intro
 | @cons p q ps qs h t ih=>
  obtain⟨h1,_,h2⟩:=h
  by_cases e:p.1=k
  ·have e':q.1=k:=h1.symm.trans e
   have b:atKey (q::qs) k=some q.2:=by simp[atKey,VaT,e']
   rw[zfT e,b]; exact h2
  ·have e':¬ q.1=k:=λz=>e (h1.trans z)
   have b:atKey (q::qs) k=atKey qs k:=by simp[atKey,VaT,e']
   rw[zeL e,b]; exact ih
theorem KT.repl {H:Hp}{kvs:List (List Key×V)}{xs:List (List Key×Addr×Value)}(r:KT H kvs xs)(k:List Key){y:V}{u:Value}(ry:zag y u):
  KT H (kvs.map λkv=>if kv.1=k then (kv.1,y) else kv) (xs.map (putAt k u)):=by
 induction r with
 | nil=>exact .nil
 | @cons p q ps qs h t ih=>
  rw[Val,Val]
  refine .cons ?_ ih
  obtain⟨h1,h2,h3⟩:=h
  unfold putAt
  by_cases e:p.1=k
  ·rw[if_pos e,if_pos (h1.symm.trans e)]; exact⟨h1,h2,ry⟩
  ·rw[if_neg e,if_neg (λz=>e (h1.trans z))]; exact⟨h1,h2,h3⟩
theorem KT.put {H:Hp}{kvs:List (List Key×V)}{xs:List (List Key×Addr×Value)}(r:KT H kvs xs)(k:List Key){b:Addr}{y:V}{u:Value}(hb:H b=some (.tup (k.map kV)))(ry:zag y u):
  KT H (putK kvs k y) (storedH xs k b u):=by
 have e:(kvs.any λkv=>decide (kv.1=k))=(atKey xs k).isSome:=by
  rw[zg3,(r.val k).isSome_eq,Option.isSome_map]
 unfold putK storedH
 rw[e]
 by_cases q:(atKey xs k).isSome=true
 ·rw[if_pos q,if_pos q]; exact r.repl k ry
 ·rw[if_neg q,if_neg q]; exact Paired.snoc r ⟨rfl,hb,ry⟩
theorem KT.keeps {H H':Hp}{kvs:List (List Key×V)}{xs:List (List Key×Addr×Value)}(r:KT H kvs xs)(ht:∀b ys,H b=some (.tup ys)→H' b=some (.tup ys)):KT H' kvs xs:=
 Paired.mapP r λ_ _ z=>⟨z.1,ht _ _ z.2.1,z.2.2⟩
section
variable {P:Program}{w:World}{H:Hp}{h:Heap}{a:Addr}
end
def zeQ (H:Hp)(a:Addr)(y:V)(r:Option V):Prop:=
 (∃kvs k,Rd H a (.dK kvs)∧y=kV k∧r=zbh kvs k)∨∃kvs k b,Rd H a (.dT kvs)∧y=.ref b∧H b=some (.tup (k.map kV))∧r=zbh kvs k
def zff (H:Hp)(a:Addr)(y v:V)(H':Hp):Prop:=
 (∃kvs k,H a=some (.dK kvs)∧y=kV k∧kvs.length<sizeLine∧H'=upd H a (.dK (putK kvs k v)))∨
 ∃kvs k b,H a=some (.dT kvs)∧y=.ref b∧H b=some (.tup (k.map kV))∧kvs.length<sizeLine∧H'=upd H a (.dT (putK kvs k v))
theorem zeQ.k {H:Hp}{a:Addr}{kvs:List (Key×V)}{k:Key}(e:H a=some (.dK kvs)):zeQ H a (kV k) (zbh kvs k):=.inl ⟨kvs,k,.inl e,rfl,rfl⟩
theorem zeQ.t {H:Hp}{a b:Addr}{kvs:List (List Key×V)}{k:List Key}(e:H a=some (.dT kvs))(eb:H b=some (.tup (k.map kV))):zeQ H a (.ref b) (zbh kvs k):=.inr ⟨kvs,k,b,.inl e,rfl,eb,rfl⟩
theorem zff.k {H:Hp}{a:Addr}{kvs:List (Key×V)}{k:Key}{v:V}(e:H a=some (.dK kvs))(hl:kvs.length<sizeLine):zff H a (kV k) v (upd H a (.dK (putK kvs k v))):=.inl ⟨kvs,k,e,rfl,hl,rfl⟩
theorem zff.t {H:Hp}{a b:Addr}{kvs:List (List Key×V)}{k:List Key}{v:V}(e:H a=some (.dT kvs))(eb:H b=some (.tup (k.map kV)))(hl:kvs.length<sizeLine):
  zff H a (.ref b) v (upd H a (.dT (putK kvs k v))):=.inr ⟨kvs,k,b,e,rfl,eb,hl,rfl⟩
section
variable {X:Cx}{pins:List (Addr×Obj)}{σ:St}{H:Hp}{s:Shared}{a:Addr}{y v:V}{u r:Value}{o:Option V}{A:Around}{E:Value→Shared→Prop}
end
section
variable {X:Cx}{pins:List (Addr×Obj)}{σ:St}{H:Hp}{s:Shared}{a:Addr}{kvs:List (Key×V)}{k:Key}{u:Value}{A:Around}{E:Value→Shared→Prop}
end
section
variable {X:Cx}{o i e value:Expr}{pos pos' tpos:Pos}{td ty tv:TE}
end
section
variable {X:Cx}{pos:Pos}
end
structure M1 (X:Cx)(o:Expr)(m:Str)(apos:Pos)(e:Expr)(cpos:Pos):Prop where
 base:attributeBase o m X.env (eval o X.env)=eval o X.env
 few:((backTo cpos (starEach [e] X.env)).all (λx=>!x.1)&&(backToKw cpos (keywordEach [] X.env)).all (λx=>x.1.isSome)
 &&decide (([e]:List Expr).length+([]:List Keyword).length+(if ([]:List Keyword).isEmpty then 0 else 1)<30))=true
 line:(apos.endLine==cpos.line)=true
 trees:backTo cpos (starEach [e] X.env)=[(false,eval e X.env)]
structure M2 (X:Cx)(o:Expr)(m:Str)(apos:Pos)(e f:Expr)(cpos:Pos):Prop where
 base:attributeBase o m X.env (eval o X.env)=eval o X.env
 few:((backTo cpos (starEach [e,f] X.env)).all (λx=>!x.1)&&(backToKw cpos (keywordEach [] X.env)).all (λx=>x.1.isSome)
 &&decide (([e,f]:List Expr).length+([]:List Keyword).length+(if ([]:List Keyword).isEmpty then 0 else 1)<30))=true
 line:(apos.endLine==cpos.line)=true
 trees:backTo cpos (starEach [e,f] X.env)=[(false,eval e X.env),(false,eval f X.env)]
section
variable {X:Cx}{pins:List (Addr×Obj)}{σ:St}{H:Hp}{s:Shared}{a:Addr}{y d:V}{u r:Value}{o:Option V}{A:Around}{E:Value→Shared→Prop}
end
section
variable {X:Cx}{o e f:Expr}{apos cpos:Pos}{td ty tx:TE}
end
section
variable {X:Cx}{pins:List (Addr×Obj)}{σ:St}{H:Hp}{s:Shared}{a:Addr}{kvs:List (Key×V)}{A:Around}{E:Value→Shared→Prop}
end
section
variable {X:Cx}{pins:List (Addr×Obj)}{σ:St}{H:Hp}{s:Shared}{a:Addr}{y:V}{u:Value}{A:Around}{E:Value→Shared→Prop}
end
end L2
namespace L3
open PySem PySem.Spec PyProof.Rows L2
abbrev St:=L2.St
inductive D where
 | non | bl (b:Bool) | int (i:Int) | str (x:Str) | tup (xs:List D) | ref (n:Nat) | exc (c:Addr)
inductive Ob where
 | lst (xs:List D) | frz (xs:List D)
  | ins (C:Addr) (fs:List (Str×D))
  | dct (kvs:List (List Key×D))
abbrev Sto:=List Ob
abbrev Ev:=List (Option D)
abbrev DK:=D→Sto→Prop
abbrev TDE:=Ev→Sto→DK→Prop
abbrev TDT:=Ev→Sto→(Bool→Sto→Prop)→Prop
abbrev TDA:=Ev→Sto→(List D→Sto→Prop)→Prop
structure zbP where
 nx:Ev→Sto→Prop
 rt:DK
 bk:Ev→Sto→Prop:=λ_ _=>False
 ct:Ev→Sto→Prop:=λ_ _=>False
abbrev TDS:=zbP→Ev→Sto→Prop
def isX (a c:Addr):HO:=.ext λh=>∃o,h.get? a=some o∧o.cls=.ref c
inductive Rp (r:List Addr)(H:Hp):D→V→Prop
 | non:Rp r H .non .non
 | bl (b:Bool):Rp r H (.bl b) (.bl b)
 | int (i:Int):Rp r H (.int i) (.int i)
 | str (x:Str):Rp r H (.str x) (.str x)
 | tup {ds:List D} {xs:List V} {a:Addr}:H a=some (.tup xs)→ds.length=xs.length→(∀(i:Nat) (d:D) (v:V),ds[i]?=some d→xs[i]?=some v→Rp r H d v)→Rp r H (.tup ds) (.ref a)
 | ref {n:Nat} {a:Addr}:r[n]?=some a→Rp r H (.ref n) (.ref a)
 | exc {c a:Addr}:H a=some (isX a c)→Rp r H (.exc c) (.ref a)
def Rps (r:List Addr)(H:Hp)(ds:List D)(vs:List V):Prop:=ds.length=vs.length∧∀(i:Nat) (d:D) (v:V),ds[i]?=some d→vs[i]?=some v→Rp r H d v
structure Ext (r r':List Addr)(H H':Hp):Prop where
 adr:∀(n:Nat) (a:Addr),r[n]?=some a→r'[n]?=some a
 tup:∀a xs,H a=some (.tup xs)→H' a=some (.tup xs)
 xc:∀a c,H a=some (isX a c)→H' a=some (isX a c)
section
variable {r r' r2:List Addr}{H H' H2:Hp}{d:D}{v:V}{ds:List D}{vs:List V}
theorem Ext.refl:Ext r r H H:=⟨λ_ _ h=>h,λ_ _ h=>h,λ_ _ h=>h⟩
theorem Ext.trans (a:Ext r r' H H')(b:Ext r' r2 H' H2):Ext r r2 H H2:=⟨λn x h=>b.adr n x (a.adr n x h),λx y h=>b.tup x y (a.tup x y h),λx y h=>b.xc x y (a.xc x y h)⟩
theorem Rp.ext (h:Rp r H d v)(e:Ext r r' H H'):Rp r' H' d v:=by
 induction h with
 | non=>exact .non
 | bl b=>exact .bl b
 | int i=>exact .int i
 | str x=>exact .str x
 | tup h l _ ih=>exact .tup (e.tup _ _ h) l ih
 | ref h=>exact .ref (e.adr _ _ h)
 | exc h=>exact .exc (e.xc _ _ h)
theorem Rps.ext (h:Rps r H ds vs)(e:Ext r r' H H'):Rps r' H' ds vs:=⟨h.1,λi d v h1 h2=>(h.2 i d v h1 h2).ext e⟩
theorem Rps.nil:Rps r H [] []:=⟨rfl,λi d v h=>by simp at h⟩
theorem Rps.cons (h:Rp r H d v)(t:Rps r H ds vs):Rps r H (d::ds) (v::vs):=by
 refine⟨by simp[t.1],λi x y h1 h2=>?_⟩
 cases i with
 | zero=>
  simp at h1 h2
  subst h1; subst h2
  exact h
 | succ i=>exact t.2 i x y (by simpa using h1) (by simpa using h2)
theorem Rps.tail {y:V}(h:Rps r H (d::ds) (y::vs)):Rp r H d y∧Rps r H ds vs:=
 ⟨h.2 0 d y rfl rfl,by simpa using h.1,λi a b h1 h2=>h.2 (i+1) a b (by simpa using h1) (by simpa using h2)⟩
theorem Rps.uncons (h:Rps r H (d::ds) vs):∃v vs',vs=v::vs'∧Rp r H d v∧Rps r H ds vs':=by
 cases vs with
 | nil=>exact absurd h.1 (by simp)
 | cons v vs'=>exact⟨v,vs',rfl,h.tail⟩
theorem Rps.unnil (h:Rps r H [] vs):vs=[]:=by
 cases vs with
 | nil=>rfl
 | cons v vs'=>exact absurd h.1 (by simp)
theorem Rps.get {i:Nat}(h:Rps r H ds vs)(e:ds[i]?=some d):∃v,vs[i]?=some v∧Rp r H d v:=by
 have hi:i<ds.length:=(Vac.mp e).1
 have hv:i<vs.length:=by rw[← h.1]; exact hi
 exact⟨vs[i],by simp[hv],h.2 i d vs[i] e (by simp[hv])⟩
theorem Rps.get' {i:Nat}(h:Rps r H ds vs)(e:vs[i]?=some v):∃d,ds[i]?=some d∧Rp r H d v:=by
 have hv:i<vs.length:=(Vac.mp e).1
 have hi:i<ds.length:=by rw[h.1]; exact hv
 exact⟨ds[i],by simp[hi],h.2 i ds[i] v (by simp[hi]) e⟩
theorem Rps.snoc (h:Rps r H ds vs)(t:Rp r H d v):Rps r H (ds++[d]) (vs++[v]):=by
 refine⟨by simp[h.1],λi x y h1 h2=>?_⟩
 by_cases hi:i<ds.length
 ·rw[Vap hi] at h1
  rw[Vap (by rw[← h.1]; exact hi)] at h2
  exact h.2 i x y h1 h2
 ·have hl:i<(ds++[d]).length:=(Vac.mp h1).1
  have e:i=ds.length:=by simp at hl; omega
  subst e
  rw[Vay (Vaa _)] at h1
  rw[h.1,Vay (Vaa _)] at h2
  simp at h1 h2
  subst h1; subst h2
  exact t
theorem Rps.tupR {a:Addr}(h:Rps r H ds vs)(e:H a=some (.tup vs)):Rp r H (.tup ds) (.ref a):=.tup e h.1 h.2
theorem Rp.untup {vs:V}(h:Rp r H (.tup ds) vs):∃a xs,vs=.ref a∧H a=some (.tup xs)∧Rps r H ds xs:=by
 cases h with
 | tup e l f=>exact⟨_,_,rfl,e,l,f⟩
end
def SqF (K:PySem.W.Frag)(H:Hp)(a:Addr)(xs:List V):Prop:=
 (∃o,H a=some (.frz o (.lst xs)))∨
  ∃(o:Obj) (its:Array Value) (n:Nat),K.lookup a=some o∧o.cls=.type "list"∧o.dict=none∧o.data=.seq its n∧its.size≤sizeLine∧zad xs its.toList
theorem SqF.sql {K:PySem.W.Frag}{H:Hp}{a:Addr}{xs:List V}(h:SqF K H a xs):SqL K H a xs:=by
 rcases h with ⟨o,h⟩ | h
 ·exact .inl (.inr ⟨o,h⟩)
 ·exact .inr h
def FR {α:Type}(r:List Addr)(H:Hp)(fs:List (α×D))(fs':List (α×V)):Prop:=fs.map (·.1)=fs'.map (·.1)∧Rps r H (fs.map (·.2)) (fs'.map (·.2))
theorem FR.ext {α:Type}{r r':List Addr}{H H':Hp}{fs:List (α×D)}{fs':List (α×V)}(h:FR r H fs fs')(e:Ext r r' H H'):FR r' H' fs fs':=⟨h.1,h.2.ext e⟩
theorem FR.nil {α:Type}{r:List Addr}{H:Hp}:FR (α:=α) r H [] []:=⟨rfl,Rps.nil⟩
def ObR (K:PySem.W.Frag)(r:List Addr)(H:Hp)(a:Addr):Ob→Prop
 | .lst ds=>∃xs,H a=some (.lst xs)∧Rps r H ds xs
 | .frz ds=>∃xs,SqF K H a xs∧Rps r H ds xs
 | .ins C fs=>∃dx fs',H a=some (.ins C dx fs')∧FR r H fs fs'
 | .dct kvs=>∃kvs',H a=some (.dT kvs')∧FR r H kvs kvs'
def zcm:Ob→Bool
 | .frz _=>false
 | _=>true
structure zaw (K:PySem.W.Frag)(r:List Addr)(S:Sto)(H:Hp):Prop where
 len:r.length=S.length
 ob:∀(n:Nat) (a:Addr) (o:Ob),r[n]?=some a→S[n]?=some o→ObR K r H a o
 nd:∀(n m:Nat) (a:Addr) (o u:Ob),r[n]?=some a→r[m]?=some a→S[n]?=some o→S[m]?=some u→zcm o=true→zcm u=true→n=m
def zac:Ob→List D
 | .lst ds=>ds
 | .frz ds=>ds
 | _=>[.exc 0]
def zbm:Ob→Option Ob
 | .lst ds=>some (.lst ds)
 | .frz ds=>some (.frz ds)
 | _=>none
def lAt (S:Sto)(n:Nat):Option Ob:=(S[n]?).bind zbm
theorem zk8 {o u:Ob}(h:zbm o=some u):u=o:=by
 cases o <;> simp[zbm] at h <;> exact h.symm
theorem za4 {S:Sto}{n:Nat}{o:Ob}(h:lAt S n=some o):S[n]?=some o∧zbm o=some o:=by
  unfold lAt at h
  cases q:S[n]? with
  | none=>
   rw[q] at h
   cases h
  | some u=>
    rw[q] at h
    have h':zbm u=some o:=h
    have e:=zk8 h'
    subst e
    exact⟨rfl,h'⟩
theorem zaq {S:Sto}{n:Nat}{o:Ob}(h:S[n]?=some o)(hL:zbm o=some o):lAt S n=some o:=by
 unfold lAt
 rw[h]
 exact hL
section
variable {K:PySem.W.Frag}{r r':List Addr}{S:Sto}{H H':Hp}{n:Nat}{a p:Addr}
theorem zaw.at {o:Ob}(h:zaw K r S H)(e:S[n]?=some o):∃a,r[n]?=some a∧ObR K r H a o:=by
 have hn:n<S.length:=(Vac.mp e).1
 have hr:n<r.length:=by rw[h.len]; exact hn
 exact⟨r[n],by simp[hr],h.ob n r[n] o (by simp[hr]) e⟩
theorem ObR.list {o:Ob}(h:ObR K r H a o)(hL:zbm o=some o):∃xs,SqL K H a xs∧Rps r H (zac o) xs:=by
 cases o with
 | lst ds=>obtain⟨xs,e,q⟩:=h; exact⟨xs,SqL.of e,q⟩
 | frz ds=>obtain⟨xs,e,q⟩:=h; exact⟨xs,e.sql,q⟩
 | ins C fs=>cases hL
 | dct kvs=>cases hL
theorem ObR.keep {o:Ob}(q:ObR K r H a o)(x:Ext r r' H H')(ha:∀u,H a=some u→H' a=some u):ObR K r' H' a o:=by
 cases o with
 | lst ds=>obtain⟨xs,h3,h4⟩:=q; exact⟨xs,ha _ h3,h4.ext x⟩
 | frz ds=>
  obtain⟨xs,h3,h4⟩:=q
  refine⟨xs,?_,h4.ext x⟩
  rcases h3 with ⟨o,h3⟩ | h3
  ·exact .inl ⟨o,ha _ h3⟩
  ·exact .inr h3
 | ins C fs=>obtain⟨dx,fs',h3,h4⟩:=q; exact⟨dx,fs',ha _ h3,h4.ext x⟩
 | dct kvs=>obtain⟨ks,h3,h4⟩:=q; exact⟨ks,ha _ h3,h4.ext x⟩
theorem ObR.own {o:Ob}(q:ObR K r H a o)(h:zcm o=true):∃u,H a=some u∧(∀xs,u≠HO.tup xs)∧(∀b c,u≠isX b c)∧∀z y,u≠HO.frz z y:=by
 cases o with
 | lst ds=>obtain⟨xs,h3,h4⟩:=q; exact⟨_,h3,(λ_ z=>by cases z),(λ_ _ z=>by cases z),(λ_ _ z=>by cases z)⟩
 | frz ds=>cases h
 | ins C fs=>obtain⟨dx,fs',h3,h4⟩:=q; exact⟨_,h3,(λ_ z=>by cases z),(λ_ _ z=>by cases z),(λ_ _ z=>by cases z)⟩
 | dct kvs=>obtain⟨ks,h3,h4⟩:=q; exact⟨_,h3,(λ_ z=>by cases z),(λ_ _ z=>by cases z),(λ_ _ z=>by cases z)⟩
theorem zaw.same (h:zaw K r S H)(e:∀b o,H b=some o→H' b=some o):zaw K r S H':=
 ⟨h.len,λn a o h1 h2=>(h.ob n a o h1 h2).keep ⟨λ_ _ q=>q,λa xs q=>e _ _ q,λa c q=>e _ _ q⟩ (e a),h.nd⟩
theorem zbv {o:HO}(h:H p=none):∀b u,H b=some u→(upd H p o) b=some u:=λb u q=>by rw[zav (zcG q h)]; exact q
theorem zew {n:Nat}{b:Addr}(e:(r++[p])[n]?=some b):(n<r.length∧r[n]?=some b)∨(n=r.length∧b=p):=by
 by_cases hn:n<r.length
 ·rw[Vap hn] at e; exact .inl ⟨hn,e⟩
 ·have hl:n<(r++[p]).length:=(Vac.mp e).1
  have en:n=r.length:=by simp at hl; omega
  subst en
  rw[Vay (Vaa _)] at e
  simp at e
  exact .inr ⟨rfl,e.symm⟩
theorem zaw.pushO {o:Ob}(h:zaw K r S H)(hp:H p=none)(keep:∀b u,H b=some u→H' b=some u)(q:Ext r (r++[p]) H H'→ObR K (r++[p]) H' p o):zaw K (r++[p]) (S++[o]) H'∧Ext r (r++[p]) H H':=by
 have x:Ext r (r++[p]) H H':=⟨λn a e=>by
  have hn:n<r.length:=(Vac.mp e).1
  rw[Vap hn]; exact e,λa ys e=>keep _ _ e,λa c e=>keep _ _ e⟩
 have sS:∀ {n:Nat} {u:Ob},n<r.length→(S++[o])[n]?=some u→S[n]?=some u:=λ{n u} hn e=>by
  rw[Vap (by rw[← h.len]; exact hn)] at e; exact e
 refine⟨⟨by simp[h.len],λn a u h1 h2=>?_,λn m a u w h1 h2 h3 h4 o1 o2=>?_⟩,x⟩
 ·rcases zew h1 with ⟨hn,e⟩ | ⟨rfl,rfl⟩
  ·exact(h.ob n a u e (sS hn h2)).keep x (keep a)
  ·rw[h.len,Vay (Vaa _)] at h2
   simp at h2
   subst h2
   exact q x
 ·rcases zew h1 with ⟨hn,e⟩ | ⟨rfl,rfl⟩
  ·rcases zew h2 with ⟨hm,e'⟩ | ⟨rfl,rfl⟩
   ·exact h.nd n m a u w e e' (sS hn h3) (sS hm h4) o1 o2
   ·obtain⟨zs,h5,_⟩:=(h.ob n _ _ e (sS hn h3)).own o1
    rw[hp] at h5; cases h5
  ·rcases zew h2 with ⟨hm,e'⟩ | ⟨rfl,_⟩
   ·obtain⟨zs,h5,_⟩:=(h.ob m _ _ e' (sS hm h4)).own o2
    rw[hp] at h5; cases h5
   ·rfl
theorem zaw.push {ds:List D}{xs:List V}(h:zaw K r S H)(hp:H p=none)(q:Rps r H ds xs):zaw K (r++[p]) (S++[.lst ds]) (upd H p (.lst xs))∧Ext r (r++[p]) H (upd H p (.lst xs)):=
 h.pushO hp (zbv hp) λx=>⟨xs,za6,q.ext x⟩
theorem zaw.setO {o o':Ob}{u:HO}(h:zaw K r S H)(hn:r[n]?=some a)(hS:S[n]?=some o)(ho:zcm o=true)(ho':zcm o'=true)(q:Ext r r H (upd H a u)→ObR K r (upd H a u) a o'):zaw K r (S.set n o') (upd H a u)∧Ext r r H (upd H a u):=by
 obtain⟨u0,h0,t1,t2,t3⟩:=(h.ob n a _ hn hS).own ho
 have x:Ext r r H (upd H a u):=⟨λ_ _ e=>e,λb zs e=>by
  rw[zav (zeE e h0 (λz=>t1 zs z.symm))]; exact e,λb c e=>by
  rw[zav (zeE e h0 (λz=>t2 b c z.symm))]; exact e⟩
 have hlt:n<S.length:=(Vac.mp hS).1
 have off:∀ {m:Nat} {w:Ob},m≠n→(S.set n o')[m]?=some w→S[m]?=some w:=λ{m w} hm e=>by
  rw[VaR (Ne.symm hm)] at e; exact e
 refine⟨⟨by simp[h.len],λm b w h1 h2=>?_,λm k b w y h1 h2 h3 h4 o1 o2=>?_⟩,x⟩
 ·by_cases hm:m=n
  ·subst hm
   rw[hn] at h1; cases h1
   rw[VaX hlt] at h2
   cases h2
   exact q x
  ·have h2':=off hm h2
   have q':=h.ob m b w h1 h2'
   by_cases hw:zcm w=true
   ·have hb:b≠a:=λz=>hm (by subst z; exact h.nd m n b w o h1 hn h2' hS hw ho)
    exact q'.keep x λz e=>by rw[zav hb]; exact e
   ·cases w with
    | frz es=>
     obtain⟨zs,h3,h4⟩:=q'
     refine⟨zs,?_,h4.ext x⟩
     rcases h3 with ⟨z,h3⟩ | h3
     ·exact .inl ⟨z,by rw[zav (zeE h3 h0 (λy=>t3 _ _ y.symm))]; exact h3⟩
     ·exact .inr h3
    | _=>exact absurd rfl hw
 ·have back:∀ {j:Nat} {w:Ob},(S.set n o')[j]?=some w→zcm w=true→∃y,S[j]?=some y∧zcm y=true:=λ{j w} e ow=>by
   by_cases hj:j=n
   ·subst hj; exact⟨o,hS,ho⟩
   ·exact⟨w,off hj e,ow⟩
  obtain⟨us',h3',q3⟩:=back h3 o1
  obtain⟨ws',h4',q4⟩:=back h4 o2
  exact h.nd m k b us' ws' h1 h2 h3' h4' q3 q4
theorem zaw.set {ds ds':List D}{xs:List V}(h:zaw K r S H)(hn:r[n]?=some a)(hS:S[n]?=some (.lst ds))(q:Rps r H ds' xs):zaw K r (S.set n (.lst ds')) (upd H a (.lst xs))∧Ext r r H (upd H a (.lst xs)):=
 h.setO hn hS rfl rfl λx=>⟨xs,za6,q.ext x⟩
end
def Rs (r:List Addr)(H:Hp)(dl:Ev)(σ:St):Prop:=dl.length=σ.length∧∀(i:Nat) (d:D),dl[i]?=some (some d)→∃v,σ[i]?=some (some v)∧Rp r H d v
theorem Rs.ext {r r':List Addr}{H H':Hp}{dl:Ev}{σ:St}(h:Rs r H dl σ)(e:Ext r r' H H'):Rs r' H' dl σ:=⟨h.1,λi d q=>by
 obtain⟨v,h1,h2⟩:=h.2 i d q
 exact⟨v,h1,h2.ext e⟩⟩
theorem Rs.set {r:List Addr}{H:Hp}{dl:Ev}{σ:St}{d:D}{v:V}(i:Nat)(h:Rs r H dl σ)(q:Rp r H d v):Rs r H (dl.set i (some d)) (σ.set i (some v)):=by
 refine⟨by simp[h.1],λj e hj=>?_⟩
 by_cases hij:i=j
 ·subst hij
  have hl:i<dl.length:=by
   have:=(Vac.mp hj).1
   simpa using this
  rw[VaX hl] at hj
  cases hj
  exact⟨v,by rw[VaX (by rw[← h.1]; exact hl)],q⟩
 ·rw[VaR hij] at hj
  obtain⟨v',h1,h2⟩:=h.2 j e hj
  exact⟨v',by rw[VaR hij]; exact h1,h2⟩
structure Zx where
 ex:Ev→Addr→Sto→Prop
 w:St→XK
abbrev Zc (ex:Addr→Sto→Prop)(E:XK):Zx:=⟨λ_=>ex,λ_=>E⟩
def zcx (K:PySem.W.Frag)(Z:Zx)(r:List Addr)(H:Hp):Prop:=∀(dl:Ev) (σ:St) (c:Addr) (H':Hp) (r':List Addr) (S':Sto),Ext r r' H H'→Rs r' H' dl σ→zaw K r' S' H'→Z.ex dl c S'→Z.w σ (.ref c) none H'
theorem zcx.ext {K:PySem.W.Frag}{Z:Zx}{r r':List Addr}{H H':Hp}(h:zcx K Z r H)(e:Ext r r' H H'):zcx K Z r' H':=λdl σ c H2 r2 S2 x=>h dl σ c H2 r2 S2 (e.trans x)
structure Rel (K:PySem.W.Frag)(Z:Zx)(r:List Addr)(S:Sto)(H:Hp):Prop where
 b:zaw K r S H
 xw:zcx K Z r H
section
variable {K:PySem.W.Frag}{Z:Zx}{r r':List Addr}{S:Sto}{H H':Hp}{n:Nat}{a p:Addr}
theorem Rel.len (h:Rel K Z r S H):r.length=S.length:=h.b.len
theorem Rel.at {o:Ob}(h:Rel K Z r S H)(e:S[n]?=some o):∃a,r[n]?=some a∧ObR K r H a o:=h.b.at e
theorem Rel.same (h:Rel K Z r S H)(e:∀b o,H b=some o→H' b=some o):Rel K Z r S H':=⟨h.b.same e,h.xw.ext ⟨λ_ _ q=>q,λa xs q=>e _ _ q,λa c q=>e _ _ q⟩⟩
theorem Rel.push {ds:List D}{xs:List V}(h:Rel K Z r S H)(hp:H p=none)(q:Rps r H ds xs):Rel K Z (r++[p]) (S++[.lst ds]) (upd H p (.lst xs))∧Ext r (r++[p]) H (upd H p (.lst xs)):=by
 obtain⟨h1,h2⟩:=h.b.push hp q
 exact⟨⟨h1,h.xw.ext h2⟩,h2⟩
theorem Rel.set {ds ds':List D}{xs:List V}(h:Rel K Z r S H)(hn:r[n]?=some a)(hS:S[n]?=some (.lst ds))(q:Rps r H ds' xs):Rel K Z r (S.set n (.lst ds')) (upd H a (.lst xs))∧Ext r r H (upd H a (.lst xs)):=by
 obtain⟨h1,h2⟩:=h.b.set hn hS q
 exact⟨⟨h1,h.xw.ext h2⟩,h2⟩
end
def Ret (K:PySem.W.Frag)(Z:Zx)(r:List Addr)(H:Hp)(Q:DK)(Qv:VK):Prop:=∀v H' r' d S',Ext r r' H H'→Rel K Z r' S' H'→Rp r' H' d v→Q d S'→Qv v H'
theorem Ret.ext {K:PySem.W.Frag}{Z:Zx}{r r':List Addr}{H H':Hp}{Q:DK}{Qv:VK}(h:Ret K Z r H Q Qv)(e:Ext r r' H H'):Ret K Z r' H' Q Qv:=λv H2 r2 d S2 x=>h v H2 r2 d S2 (e.trans x)
def up (K:PySem.W.Frag)(Z:Zx)(t:TDE):TE:=λσ H Qv=>∃r dl S Q,Rs r H dl σ∧Rel K Z r S H∧t dl S Q∧Ret K Z r H Q Qv
def upT (K:PySem.W.Frag)(Z:Zx)(t:TDT):TT:=λσ H Qb=>∃r dl S Q,Rs r H dl σ∧Rel K Z r S H∧t dl S Q∧∀b H' r' S',Ext r r' H H'→Rel K Z r' S' H'→Q b S'→Qb b H'
def upA (K:PySem.W.Frag)(Z:Zx)(t:TDA):TA:=λσ H Qv=>∃r dl S Q,Rs r H dl σ∧Rel K Z r S H∧t dl S Q∧∀vs H' r' ds S',Ext r r' H H'→Rel K Z r' S' H'→Rps r' H' ds vs→Q ds S'→Qv vs H'
structure zeH (K:PySem.W.Frag)(Z:Zx)(r:List Addr)(H:Hp)(E:zbP)(F:zci):Prop where
 nx:∀σ' H' r' dl' S',Ext r r' H H'→Rs r' H' dl' σ'→Rel K Z r' S' H'→E.nx dl' S'→F.nx σ' H'
 bk:∀σ' H' r' dl' S',Ext r r' H H'→Rs r' H' dl' σ'→Rel K Z r' S' H'→E.bk dl' S'→F.bk σ' H'
 ct:∀σ' H' r' dl' S',Ext r r' H H'→Rs r' H' dl' σ'→Rel K Z r' S' H'→E.ct dl' S'→F.ct σ' H'
 rt:Ret K Z r H E.rt F.rt
theorem zeH.ext {K:PySem.W.Frag}{Z:Zx}{r r':List Addr}{H H':Hp}{E:zbP}{F:zci}(h:zeH K Z r H E F)(e:Ext r r' H H'):zeH K Z r' H' E F:=
 ⟨λa b c d f x=>h.nx a b c d f (e.trans x),λa b c d f x=>h.bk a b c d f (e.trans x),λa b c d f x=>h.ct a b c d f (e.trans x),h.rt.ext e⟩
def upS (K:PySem.W.Frag)(Z:Zx)(t:TDS):TS:=λF σ H=>∃r dl S E,Rs r H dl σ∧Rel K Z r S H∧t E dl S∧zeH K Z r H E F
def PD (X:Cx)(Z:Zx)(e:Expr)(t:TDE):Prop:=PE X e (up X.K Z t)
def PDT (X:Cx)(Z:Zx)(e:Expr)(t:TDT):Prop:=PT X e (upT X.K Z t)
def PDW (X:Cx)(Z:Zx)(e:Expr)(t:TDT):Prop:=PW X e (upT X.K Z t)
def PDA (X:Cx)(Z:Zx)(es:List Expr)(t:TDA):Prop:=PA X es (upA X.K Z t)
def PDS (X:Cx)(Z:Zx)(st:Stmt)(t:TDS):Prop:=PS X st (upS X.K Z t)
def zbp (X:Cx)(Z:Zx)(st:List Stmt)(t:TDS):Prop:=PSs X st (upS X.K Z t)
section
variable {X:Cx}{Z:Zx}
theorem zaW {e:Expr}{t t':TE}(h:PE X e t)(f:∀σ H Q,t' σ H Q→t σ H Q):PE X e t':=λpins s σ H Q I q=>h pins s σ H Q I (f σ H Q q)
theorem zgy {e:Expr}{t t':TT}(h:PT X e t)(f:∀σ H Q,t' σ H Q→t σ H Q):PT X e t':=λpins s σ H Q I q=>h pins s σ H Q I (f σ H Q q)
theorem zg6 {e:Expr}{t t':TT}(h:PW X e t)(f:∀σ H Q,t' σ H Q→t σ H Q):PW X e t':=λwh pins s σ H Q I q=>h wh pins s σ H Q I (f σ H Q q)
theorem ziY {e:List Expr}{t t':TA}(h:PA X e t)(f:∀σ H Q,t' σ H Q→t σ H Q):PA X e t':=λpos pins s σ H Q I q=>h pos pins s σ H Q I (f σ H Q q)
theorem zbJ {e:Stmt}{t t':TS}(h:PS X e t)(f:∀F σ H,t' F σ H→t F σ H):PS X e t':=λpins s σ H F I q=>h pins s σ H F I (f F σ H q)
theorem zg5 {e:List Stmt}{t t':TS}(h:PSs X e t)(f:∀F σ H,t' F σ H→t F σ H):PSs X e t':=λpins s σ H F I q=>h pins s σ H F I (f F σ H q)
theorem PDW.pt {e:Expr}{t:TDT}(h:PDW X Z e t):PDT X Z e t:=PW.pt h
def zfc (i:Nat):TDE:=λdl S Q=>match dl[i]? with
 | some (some d)=>Q d S
 | _=>False
def dC (d:D):TDE:=λ_ S Q=>Q d S
theorem zjR {e:Expr}{i:Nat}(h:PE X e (tVar i)):PD X Z e (zfc i):=zaW h λσ H Qv ⟨r,dl,S,Q,rs,rel,q,ret⟩=>by
 unfold zfc at q
 split at q
 ·rename_i d e
  obtain⟨v,h1,h2⟩:=rs.2 i d e
  exact⟨v,h1,ret v H r d S Ext.refl rel h2 q⟩
 ·exact q.elim
theorem dv (i:Nat){x:Str}{pos:Pos}(hN:X.N[i]?=some x:=by rfl)(hv:Vis X.env.scope x:=by first | exact Or.inl rfl | exact Or.inr (Or.inl rfl) | exact Or.inr (Or.inr rfl))(hd:(x==("__debug__":Str))=false:=by decide)
  (hcd:(x==("__classdict__":Str))=false:=by decide):PD X Z (.Name x pos) (zfc i):=zjR (zic hN hv hd hcd)
theorem zgR {e:Expr}{d:D}{v:V}(h:PE X e (tC v))(q:∀r H,Rp r H d v):PD X Z e (dC d):=zaW h λσ H Qv ⟨r,dl,S,Q,rs,rel,h,ret⟩=>ret v H r d S Ext.refl rel (q r H) h
theorem zai {i j pos}:PD X Z (.Constant (.int i) j pos) (dC (.int i)):=zgR zlS λ_ _=>.int i
theorem zbX {b j pos}:PD X Z (.Constant (.bool b) j pos) (dC (.bl b)):=zgR pe_bl λ_ _=>.bl b
theorem zg7 {j pos}:PD X Z (.Constant .none j pos) (dC .non):=zgR zkV λ_ _=>.non
abbrev W2:=D→D→Sto→DK→Prop
abbrev W1:=D→Sto→DK→Prop
def upO (K:PySem.W.Frag)(Z:Zx)(w:W2):R2:=λx y H Qv=>∃r S dx dy Q,Rel K Z r S H∧Rp r H dx x∧Rp r H dy y∧w dx dy S Q∧Ret K Z r H Q Qv
def dOp (w:W2)(ta tb:TDE):TDE:=λdl S Q=>ta dl S λx S1=>tb dl S1 λy S2=>w x y S2 Q
def dUn (w:W1)(ta:TDE):TDE:=λdl S Q=>ta dl S λx S1=>w x S1 Q
variable {a b c:Expr}{ta tb tc:TDE}{pos:Pos}
theorem zeV {w:W2}{σ:St}{H:Hp}{Qv:VK}(h:up X.K Z (dOp w ta tb) σ H Qv):tOp (upO X.K Z w) (up X.K Z ta) (up X.K Z tb) σ H Qv:=by
 obtain⟨r,dl,S,Q,rs,rel,h,ret⟩:=h
 exact⟨r,dl,S,_,rs,rel,h,λv H1 r1 dx S1 e1 rel1 p1 h1=>⟨r1,dl,S1,_,rs.ext e1,rel1,h1,λv2 H2 r2 dy S2 e2 rel2 p2 h2=>⟨r2,S2,dx,dy,Q,rel2,p1.ext e2,p2,h2,ret.ext (e1.trans e2)⟩⟩⟩
theorem zau {op:Operator}{w:W2}(ho:OpR X (binaryOp op) (upO X.K Z w))(ha:PD X Z a ta)(hb:PD X Z b tb):PD X Z (.BinOp a op b pos) (dOp w ta tb):=zaW (pe_op ho ha hb) λ_ _ _ h=>zeV h
theorem zeu {op:CmpOp}{w:W2}(ho:OpR X (compareOp op) (upO X.K Z w))(ha:PD X Z a ta)(hb:PD X Z b tb)(hm:behindInMarks op b=false):PD X Z (.Compare a [op] [b] pos) (dOp w ta tb):=zaW (zj1 ho ha hb hm) λ_ _ _ h=>zeV h
theorem zdV {f:Value→Value→Sem Value}{r r':R2}(h:OpR X f r)(g:∀x y H Q,r' x y H Q→r x y H Q):OpR X f r':=λpins s σ H x y v u Q I rx ry q=>h pins s σ H x y v u Q I rx ry (g x y H Q q)
theorem ziE {f:Value}{r r':List V→Hp→VK→Prop}(h:zay X f r)(g:∀x H Q,r' x H Q→r x H Q):zay X f r':=λpins s σ H xs us Q I rx q=>h pins s σ H xs us Q I rx (g xs H Q q)
def wI (C:Int→Int→Prop)(g:Int→Int→D):W2:=λx y S Q=>match x,y with
 | .int i,.int j=>C i j∧Q (g i j) S
 | _,_=>False
def wI0 (g:Int→Int→D):W2:=λx y S Q=>match x,y with
 | .int i,.int j=>Q (g i j) S
 | _,_=>False
theorem opD {f:Value→Value→Sem Value}{C:Int→Int→Prop}{g:Int→Int→V}{g':Int→Int→D}(h:OpR X f (rI C g))(hg:∀r H i j,Rp r H (g' i j) (g i j)):OpR X f (upO X.K Z (wI C g')):=
 zdV h λx y H Qv ⟨r,S,dx,dy,Q,rel,px,py,q,ret⟩=>by
  cases px <;> cases py <;> first
   | exact⟨_,_,rfl,rfl,q.1,ret _ _ _ _ _ Ext.refl rel (hg _ _ _ _) q.2⟩
   | exact(show False from q).elim
theorem zfp {f:Value→Value→Sem Value}{g:Int→Int→V}{g':Int→Int→D}(h:OpR X f (rI0 g))(hg:∀r H i j,Rp r H (g' i j) (g i j)):OpR X f (upO X.K Z (wI0 g')):=
 zdV h λx y H Qv ⟨r,S,dx,dy,Q,rel,px,py,q,ret⟩=>by
  cases px <;> cases py <;> first
   | exact⟨_,_,rfl,rfl,ret _ _ _ _ _ Ext.refl rel (hg _ _ _ _) q⟩
   | exact(show False from q).elim
abbrev wAdd:W2:=wI0 λi j=>.int (i+j)
abbrev wSub:W2:=wI0 λi j=>.int (i-j)
abbrev wMul:W2:=wI IntMulOk λi j=>.int (i*j)
def CFd (_ j:Int):Prop:=0<j∧j.natAbs.log2<9000
abbrev wFdiv:W2:=wI CFd λi j=>.int (i/j)
abbrev wMod:W2:=wI (λ_ j=>0<j) λi j=>.int (i%j)
theorem zbZ:OpR X (binaryOp .Add) (upO X.K Z wAdd):=zfp zjA λ_ _ _ _=>.int _
theorem zmS:OpR X (binaryOp .Sub) (upO X.K Z wSub):=zfp zjb λ_ _ _ _=>.int _
theorem zb7:OpR X (binaryOp .Mult) (upO X.K Z wMul):=opD (opI λ_ _ _ _ _ _ _ hc q=>mul_int q hc) λ_ _ _ _=>.int _
theorem zmG:OpR X (binaryOp .FloorDiv) (upO X.K Z wFdiv):=opD (opI λi j _ _ _ _ _ hc q=>floordiv_int (by have h:0<j:=hc.1; omega) (by have h:0<j:=hc.1; rw[Int.fdiv_eq_ediv_of_nonneg i (by omega)]; exact q) (.inl (PyProof.noPylong_of_log2 hc.2))) λ_ _ _ _=>.int _
theorem zez:OpR X (binaryOp .Mod) (upO X.K Z wMod):=opD zjL λ_ _ _ _=>.int _
abbrev wLt:W2:=wI0 λi j=>.bl (decide (i<j))
abbrev wGt:W2:=wI0 λi j=>.bl (decide (j<i))
theorem ze3:OpR X (compareOp .Lt) (upO X.K Z wLt):=zfp op_lt λ_ _ _ _=>.bl _
theorem ziQ:OpR X (compareOp .Gt) (upO X.K Z wGt):=zfp op_gt λ_ _ _ _=>.bl _
def wNeg:W1:=λx S Q=>match x with
 | .int i=>Q (.int (-i)) S
 | _=>False
end
def eqF:D→D→Option Bool
 | .non,.non=>some true
 | .bl i,.bl j=>some (i==j)
 | .int i,.int j=>some (decide (i=j))
 | .str i,.str j=>some (decide (i=j))
 | .non,.int _=>some false | .int _,.non=>some false | .non,.bl _=>some false | .bl _,.non=>some false | .non,.str _=>some false | .str _,.non=>some false
 | .int _,.str _=>some false | .str _,.int _=>some false | .bl _,.str _=>some false | .str _,.bl _=>some false
 | _,_=>none
def eqL (f:D→D→Option Bool):List D→List D→Option Bool
 | [],[]=>some true
 | x::xs,y::ys=>match f x y,eqL f xs ys with
  | some b,some c=>some (b&&c)
  | _,_=>none
 | _,_=>some false
def eqT (f:D→D→Option Bool):D→D→Option Bool
 | .tup xs,.tup ys=>eqL f xs ys
 | x,y=>eqF x y
abbrev eq1:D→D→Option Bool:=eqT eqF
abbrev eq2:D→D→Option Bool:=eqT eq1
def zcl (n:Nat)(f:D→D→Option Bool):Prop:=∀(X:Cx) (pins:List (Addr×Obj)) (σ:St) (H:Hp) (s:Shared) (r:List Addr) (A:Around) (dx dy:D) (x y:V) (u v:Value) (b:Bool),
 Inv X pins σ H s→A.units+n<cLine→Rp r H dx x→Rp r H dy y→zag x u→zag y v→f dx dy=some b→SeqAt.EqAt A s u v b
def zcZ (f:D→D→Option Bool):Prop:=∀(r:List Addr) (H:Hp) (dx dy:D) (x:V) (b:Bool),Rp r H dx x→Rp r H dy x→f dx dy=some b→b=true
theorem zcQ:zcZ eqF:=by
 intro r H dx dy x b px py e
 cases px <;> cases py <;> simp[eqF] at e <;> first | exact e.symm | exact e
theorem zhl {f:D→D→Option Bool}(hf:zcZ f){r:List Addr}{H:Hp}:∀ {xs ys:List D} {vs:List V} {b:Bool},Rps r H xs vs→Rps r H ys vs→eqL f xs ys=some b→b=true
 | [],[],_,b,_,_,e=>by simp[eqL] at e; exact e
 | [],y::ys,vs,b,p,q,e=>by
  have h1:=p.unnil
  subst h1
  exact absurd q.1 (by simp)
 | x::xs,[],vs,b,p,q,e=>by
  have h1:=q.unnil
  subst h1
  exact absurd p.1 (by simp)
 | x::xs,y::ys,vs,b,p,q,e=>by
  obtain⟨v,vs',rfl,p1,p2⟩:=p.uncons
  obtain⟨q1,q2⟩:=q.tail
  unfold eqL at e
  split at e
  ·rename_i b1 c1 e1 e2
   have h1:=hf r H x y v b1 p1 q1 e1
   have h2:=zhl hf p2 q2 e2
   subst h1; subst h2
   simp at e
   exact e
  ·cases e
theorem zh1 {f:D→D→Option Bool}(hf:zcZ f):zcZ (eqT f):=by
 intro r H dx dy x b px py e
 cases px with
 | tup e1 l1 f1=>
  cases py with
  | tup e2 l2 f2=>
   rw[e1] at e2; cases e2
   exact zhl hf ⟨l1,f1⟩ ⟨l2,f2⟩ e
  | ref h=>simp[eqT,eqF] at e
  | exc h=>simp[eqT,eqF] at e
 | non=>exact zcQ r H _ _ _ b .non py (by cases py <;> exact e)
 | bl i=>exact zcQ r H _ _ _ b (.bl i) py (by cases py <;> exact e)
 | int i=>exact zcQ r H _ _ _ b (.int i) py (by cases py <;> exact e)
 | str i=>exact zcQ r H _ _ _ b (.str i) py (by cases py <;> exact e)
 | ref h=>cases py <;> simp[eqT,eqF] at e
 | exc h=>cases py <;> simp[eqT,eqF] at e
theorem zfk (n:Nat):zcl n eqF:=by
 intro X pins σ H s r A dx dy x y u v b I hu px py rx ry e
 have fin:∀ {x y:V},zag x u→zag y v→zex x=true→zex y=true→eqV x y=b→SeqAt.EqAt A s u v b:=λrx ry fx fy e'=>by
  subst e'; exact zjZ rx ry fx fy
 cases px <;> cases py <;> simp[eqF] at e <;> refine fin rx ry rfl rfl ?_ <;> simp[eqV,e] <;> first | exact e | (subst e; simp) | skip
theorem zcJ {X:Cx}{pins:List (Addr×Obj)}{σ:St}{H:Hp}{s:Shared}{a:Addr}{xs:List V}(I:Inv X pins σ H s)(h:H a=some (.tup xs)):∃its:List Value,zad xs its∧IsTup s.heap a its.toArray∧xs.length≤sizeLine:=I.tuple (SqT.of h)
def zbq (f:D→D→Option Bool)(xs ys:List D)(j:Nat):Bool:=match xs[j]?,ys[j]? with
 | some x,some y=>(f x y).getD false
 | _,_=>false
theorem zh7 {f:D→D→Option Bool}:∀ {xs ys:List D} {b:Bool},eqL f xs ys=some b→(∀(j:Nat) (x y:D),xs[j]?=some x→ys[j]?=some y→∃c,f x y=some c)∧((List.range (min xs.length ys.length)).all (zbq f xs ys)&&xs.length==ys.length)=b
 | [],[],b,e=>by simp[eqL] at e; subst e; simp
 | [],y::ys,b,e=>by simp[eqL] at e; subst e; simp
 | x::xs,[],b,e=>by simp[eqL] at e; subst e; simp
 | x::xs,y::ys,b,e=>by
  unfold eqL at e
  split at e
  ·rename_i b1 c1 e1 e2
   obtain⟨h1,h2⟩:=zh7 e2
   refine⟨λj p q hp hq=>?_,?_⟩
   ·cases j with
    | zero=>simp at hp hq; subst hp; subst hq; exact⟨b1,e1⟩
    | succ j=>exact h1 j p q (by simpa using hp) (by simpa using hq)
   ·have z:min (x::xs).length (y::ys).length=min xs.length ys.length+1:=by simp[Nat.succ_min_succ]
    rw[z,List.range_succ_eq_map,List.all_cons,List.all_map]
    have e0:zbq f (x::xs) (y::ys) 0=b1:=by simp[zbq,e1]
    have es:(zbq f (x::xs) (y::ys) ∘ Nat.succ)=zbq f xs ys:=by funext j; simp[zbq]
    rw[e0,es]
    have e3:((x::xs).length==(y::ys).length)=(xs.length==ys.length):=by simp
    rw[e3,Bool.and_assoc,h2]
    simp at e
    exact e
  ·cases e
theorem zdL {n:Nat}{f:D→D→Option Bool}(hf:zcl n f){X:Cx}{pins:List (Addr×Obj)}{σ:St}{H:Hp}{s:Shared}{r:List Addr}{A:Around}{xs ys:List D}{us vs:List V}{is js:List Value}{b:Bool}
  (I:Inv X pins σ H s)(hu:A.units+n<cLine)(p:Rps r H xs us)(q:Rps r H ys vs)(ri:zad us is)(rj:zad vs js)(e:eqL f xs ys=some b):
  (∀j (h1:j<is.toArray.size) (h2:j<js.toArray.size),SeqAt.EqAt A s is.toArray[j] js.toArray[j] (zbq f xs ys j))∧((List.range (min is.toArray.size js.toArray.size)).all (zbq f xs ys)&&is.toArray.size==js.toArray.size)=b:=by
 obtain⟨h1,h2⟩:=zh7 e
 have l1:is.toArray.size=xs.length:=by rw[Vaf,← ri.length,p.1]
 have l2:js.toArray.size=ys.length:=by rw[Vaf,← rj.length,q.1]
 refine⟨λj hj1 hj2=>?_,by rw[l1,l2]; exact h2⟩
 have k1:j<xs.length:=by omega
 have k2:j<ys.length:=by omega
 have g1:xs[j]?=some xs[j]:=by simp[k1]
 have g2:ys[j]?=some ys[j]:=by simp[k2]
 obtain⟨x,gx,px⟩:=p.get g1
 obtain⟨y,gy,py⟩:=q.get g2
 obtain⟨u,gu,ru⟩:=ri.get gx
 obtain⟨v,gv,rv⟩:=rj.get gy
 obtain⟨c,hc⟩:=h1 j _ _ g1 g2
 have eu:is.toArray[j]=u:=by
  have z:=Vac.mp gu
  simpa using z.2
 have ev:js.toArray[j]=v:=by
  have z:=Vac.mp gv
  simpa using z.2
 have ec:zbq f xs ys j=c:=by simp[zbq,g1,g2,hc]
 rw[eu,ev,ec]
 exact hf X pins σ H s r A _ _ x y u v c I hu px py ru rv hc
theorem zi0 {n:Nat}{f:D→D→Option Bool}(hf:zcl n f)(hs:zcZ f):zcl (n+1) (eqT f):=by
 intro X pins σ H s r A dx dy x y u v b I hu px py rx ry e
 have flat:∀ {dx dy:D} {x y:V},Rp r H dx x→Rp r H dy y→zag x u→zag y v→eqF dx dy=some b→SeqAt.EqAt A s u v b:=λpx py rx ry e=>zfk (n+1) X pins σ H s r A _ _ _ _ u v b I hu px py rx ry e
 cases px with
 | @tup ds xs a e1 l1 f1=>
  cases py with
  | @tup es ys a' e2 l2 f2=>
   cases rx
   cases ry
   by_cases z:a=a'
   ·subst z
    have hb:=zh1 hs r H _ _ _ b (.tup e1 l1 f1) (.tup e2 l2 f2) e
    subst hb
    exact SeqAt.EqAt.same _
   ·obtain⟨is,ri,ti,_⟩:=zcJ I e1
    obtain⟨js,rj,tj,_⟩:=zcJ I e2
    obtain⟨g1,g2⟩:=zdL (A:=A.in1) hf I (by show A.units+1+n<_; omega) ⟨l1,f1⟩ ⟨l2,f2⟩ ri rj e
    have q:=SeqAt.RcAt.tuples (A:=A) ti tj (by omega) g1
    rw[g2] at q
    exact SeqAt.EqAt.of_refs z q
  | ref h=>simp[eqT,eqF] at e
  | _=>simp[eqT,eqF] at e
 | non=>exact flat .non py rx ry (by cases py <;> exact e)
 | bl i=>exact flat (.bl i) py rx ry (by cases py <;> exact e)
 | int i=>exact flat (.int i) py rx ry (by cases py <;> exact e)
 | str i=>exact flat (.str i) py rx ry (by cases py <;> exact e)
 | ref h=>cases py <;> simp[eqT,eqF] at e
 | exc h=>cases py <;> simp[eqT,eqF] at e
theorem zk6 (n:Nat):zcl (n+1) eq1:=zi0 (zfk n) zcQ
def wEq (f:D→D→Option Bool):W2:=λx y S Q=>match f x y with
 | some b=>Q (.bl b) S
 | none=>False
def wNe (f:D→D→Option Bool):W2:=λx y S Q=>match f x y with
 | some b=>Q (.bl (!b)) S
 | none=>False
section
variable {X:Cx}{Z:Zx}
theorem zi1 {r:List Addr}{H:Hp}{dx dy:D}{x y:V}{b:Bool}(px:Rp r H dx x)(py:Rp r H dy y)(e:eqF dx dy=some b):zfA x y=true∧decide (x=y)=b:=by
 cases px <;> cases py <;> simp[eqF] at e <;> simp[zfA] <;> first | exact e | (subst e; simp) | skip
theorem zhk {n:Nat}{f:D→D→Option Bool}(hf:zcl n f)(hu:X.A.units+1+n<cLine):OpR X (compareOp .Eq) (upO X.K Z (wEq (eqT f))):=by
 intro pins s σ H x y v u Qv I rx ry h
 obtain⟨r,S,dx,dy,Q,rel,px,py,q,ret⟩:=h
 unfold wEq at q
 split at q
 ·rename_i b e
  have flat:∀ {dx dy:D} {x y:V},Rp r H dx x→Rp r H dy y→zag x v→zag y u→eqF dx dy=some b→wpAny (model X.prog X.w) X.A (compareOp .Eq v u) (EP X pins σ Qv) X.xe s:=λpx py rx ry e=>by
   obtain⟨h1,h2⟩:=zi1 px py e
   refine zf3 pins s σ H _ _ v u Qv I rx ry ⟨h1,?_⟩
   rw[h2]
   exact ret _ _ _ _ _ Ext.refl rel (.bl b) q
  cases px with
  | @tup ds xs a e1 l1 f1=>
   cases py with
   | @tup es ys a' e2 l2 f2=>
    cases rx
    cases ry
    obtain⟨is,ri,ti,_⟩:=zcJ I e1
    obtain⟨js,rj,tj,_⟩:=zcJ I e2
    obtain⟨g1,g2⟩:=zdL (A:=X.A.in1) hf I (by show X.A.units+1+n<_; omega) ⟨l1,f1⟩ ⟨l2,f2⟩ ri rj e
    refine SeqAt.eq_tupleAt (A:=X.A) ti tj (by omega) g1 ?_
    rw[g2]
    exact⟨.bl b,H,I,rfl,ret _ _ _ _ _ Ext.refl rel (.bl b) q⟩
   | _=>simp[eqT,eqF] at e
  | non=>exact flat .non py rx ry (by cases py <;> exact e)
  | bl i=>exact flat (.bl i) py rx ry (by cases py <;> exact e)
  | int i=>exact flat (.int i) py rx ry (by cases py <;> exact e)
  | str i=>exact flat (.str i) py rx ry (by cases py <;> exact e)
  | ref h=>cases py <;> simp[eqT,eqF] at e
  | exc h=>cases py <;> simp[eqT,eqF] at e
 ·exact q.elim
theorem zkA {n:Nat}{f:D→D→Option Bool}(hf:zcl n f)(hu:X.A.units+1+n<cLine):OpR X (compareOp .NotEq) (upO X.K Z (wNe (eqT f))):=by
 intro pins s σ H x y v u Qv I rx ry h
 obtain⟨r,S,dx,dy,Q,rel,px,py,q,ret⟩:=h
 unfold wNe at q
 split at q
 ·rename_i b e
  have flat:∀ {dx dy:D} {x y:V},Rp r H dx x→Rp r H dy y→zag x v→zag y u→eqF dx dy=some b→wpAny (model X.prog X.w) X.A (compareOp .NotEq v u) (EP X pins σ Qv) X.xe s:=λpx py rx ry e=>by
   obtain⟨h1,h2⟩:=zi1 px py e
   refine op_ne pins s σ H _ _ v u Qv I rx ry ⟨h1,?_⟩
   rw[h2]
   exact ret _ _ _ _ _ Ext.refl rel (.bl (!b)) q
  cases px with
  | @tup ds xs a e1 l1 f1=>
   cases py with
   | @tup es ys a' e2 l2 f2=>
    cases rx
    cases ry
    obtain⟨is,ri,ti,_⟩:=zcJ I e1
    obtain⟨js,rj,tj,_⟩:=zcJ I e2
    obtain⟨g1,g2⟩:=zdL (A:=X.A.in1) hf I (by show X.A.units+1+n<_; omega) ⟨l1,f1⟩ ⟨l2,f2⟩ ri rj e
    refine SeqAt.RcNeAt.tuples (A:=X.A) ti tj (by omega) g1 X.prog X.w _ _ ?_
    rw[g2]
    exact⟨.bl (!b),H,I,rfl,ret _ _ _ _ _ Ext.refl rel (.bl (!b)) q⟩
   | _=>simp[eqT,eqF] at e
  | non=>exact flat .non py rx ry (by cases py <;> exact e)
  | bl i=>exact flat (.bl i) py rx ry (by cases py <;> exact e)
  | int i=>exact flat (.int i) py rx ry (by cases py <;> exact e)
  | str i=>exact flat (.str i) py rx ry (by cases py <;> exact e)
  | ref h=>cases py <;> simp[eqT,eqF] at e
  | exc h=>cases py <;> simp[eqT,eqF] at e
 ·exact q.elim
theorem ziG {k:Nat}(hr:zat k X.A):OpR X (compareOp .Eq) (upO X.K Z (wEq eq2)):=zhk (zk6 0) (by have:=hr.un; omega)
end
section
variable {X:Cx}{Z:Zx}{a b c:Expr}{ta tb tc:TDE}{pos:Pos}{za5:List Expr}
def zgD (t:TDE):TDT:=λdl S Q=>t dl S λd S'=>match d with
 | .bl k=>Q k S'
 | _=>False
theorem zgV {K:PySem.W.Frag}{Z:Zx}{r:List Addr}{H:Hp}{Q:Bool→Sto→Prop}{Qb:Bool→Hp→Prop}(h:∀b H' r' S',Ext r r' H H'→Rel K Z r' S' H'→Q b S'→Qb b H'):
  Ret K Z r H (λd S'=>match d with | .bl k=>Q k S' | _=>False) (λx H'=>∃k,x=.bl k∧Qb k H'):=λv H' r' d S' e rel p q=>by
 cases p with
 | bl k=>exact⟨k,rfl,h k H' r' S' e rel q⟩
 | _=>exact(show False from q).elim
theorem zbT {op:CmpOp}{w:W2}(ho:OpR X (compareOp op) (upO X.K Z w))(ha:PD X Z a ta)(hb:PD X Z b tb)(hm:behindInMarks op b=false):PDT X Z (.Compare a [op] [b] pos) (zgD (dOp w ta tb)):=
 zgy (zk2 ho ha hb hm) λσ H Qb ⟨r,dl,S,Q,rs,rel,h,ret⟩=>zeV ⟨r,dl,S,_,rs,rel,h,zgV ret⟩
theorem zck {e:Expr}{t:TDE}(h:PD X Z e t)(he:∀whole,isTrue e X.env whole=(do let v ← whole; standAt e.pos; holding [v] (truthy v)):=by intro _; rfl):PDT X Z e (zgD t):=
 zgy (zmx h he) λσ H Qb ⟨r,dl,S,Q,rs,rel,h,ret⟩=>⟨r,dl,S,_,rs,rel,h,zgV ret⟩
def dNot (t:TDT):TDT:=λdl S Q=>t dl S λk S'=>Q (!k) S'
theorem zeD {t:TDT}(ha:PDT X Z a t):PDT X Z (.UnaryOp .Not a pos) (dNot t):=
 zgy (zjy ha) λσ H Qb ⟨r,dl,S,Q,rs,rel,h,ret⟩=>⟨r,dl,S,_,rs,rel,h,λk H' r' S' e rel' q=>ret (!k) H' r' S' e rel' q⟩
def dAnd (t u:TDT):TDT:=λdl S Q=>t dl S λk S1=>if k=true then u dl S1 Q else Q false S1
def dOr (t u:TDT):TDT:=λdl S Q=>t dl S λk S1=>if k=true then Q true S1 else u dl S1 Q
theorem ziV {t:TDT}(ha:PDT X Z a t):PDW X Z (.BoolOp .And [a] pos) t:=zks ha
theorem zgh {t:TDT}(ha:PDT X Z a t):PDW X Z (.BoolOp .Or [a] pos) t:=zj4 ha
theorem ziU {t u:TDT}(ha:PDT X Z a t)(hb:PDW X Z (.BoolOp .And (b::za5) pos) u):PDW X Z (.BoolOp .And (a::b::za5) pos) (dAnd t u):=
 zg6 (zkC ha hb) λσ H Qb ⟨r,dl,S,Q,rs,rel,h,ret⟩=>⟨r,dl,S,_,rs,rel,h,λk H1 r1 S1 e1 rel1 q1=>by
  cases k with
  | true=>exact zfg ⟨r1,dl,S1,Q,rs.ext e1,rel1,(by simpa using q1),λk' H2 r2 S2 e2=>ret k' H2 r2 S2 (e1.trans e2)⟩
  | false=>exact zeA (ret false H1 r1 S1 e1 rel1 (by simpa using q1))⟩
theorem zgN {t u:TDT}(ha:PDT X Z a t)(hb:PDW X Z (.BoolOp .Or (b::za5) pos) u):PDW X Z (.BoolOp .Or (a::b::za5) pos) (dOr t u):=
 zg6 (pw_or ha hb) λσ H Qb ⟨r,dl,S,Q,rs,rel,h,ret⟩=>⟨r,dl,S,_,rs,rel,h,λk H1 r1 S1 e1 rel1 q1=>by
  cases k with
  | true=>exact zfg (ret true H1 r1 S1 e1 rel1 (by simpa using q1))
  | false=>exact zeA ⟨r1,dl,S1,Q,rs.ext e1,rel1,(by simpa using q1),λk' H2 r2 S2 e2=>ret k' H2 r2 S2 (e1.trans e2)⟩⟩
def dAndV (ta tb:TDE):TDE:=λdl S Q=>ta dl S λx S1=>match x with
 | .bl k=>if k=true then tb dl S1 Q else Q (.bl false) S1
 | _=>False
def dOrV (ta tb:TDE):TDE:=λdl S Q=>ta dl S λx S1=>match x with
 | .bl k=>if k=true then Q (.bl true) S1 else tb dl S1 Q
 | _=>False
def dNotV (ta:TDE):TDE:=λdl S Q=>ta dl S λx S1=>match x with
 | .bl k=>Q (.bl (!k)) S1
 | _=>False
def dIfE (t:TDT)(ta tb:TDE):TDE:=λdl S Q=>t dl S λk S1=>if k=true then ta dl S1 Q else tb dl S1 Q
def zkG (w w':W2)(ta tb tc:TDE):TDE:=λdl S Q=>ta dl S λx S1=>tb dl S1 λy S2=>w x y S2 λz S3=>match z with
 | .bl k=>if k=true then tc dl S3 λu S4=>w' y u S4 Q else Q (.bl false) S3
 | _=>False
def zfZ:D→Bool
 | .non=>true
 | _=>false
def wIsN:W2:=λx y S Q=>match y with
 | .non=>Q (.bl (zfZ x)) S
 | _=>False
def zix:W2:=λx y S Q=>match y with
 | .non=>Q (.bl (!zfZ x)) S
 | _=>False
theorem zlj {r:List Addr}{H:Hp}{d:D}{x:V}(p:Rp r H d x):decide (x=.non)=zfZ d:=by
 cases p <;> simp[zfZ]
theorem zlB:OpR X (compareOp .IsNot) (upO X.K Z zix):=zdV zk4 λx y H Qv ⟨r,S,dx,dy,Q,rel,px,py,q,ret⟩=>by
 cases py with
 | non=>exact⟨rfl,by rw[zlj px]; exact ret _ _ _ _ _ Ext.refl rel (.bl _) q⟩
 | _=>exact(show False from q).elim
variable {e:Expr}{es:List Expr}
def dNil:TDA:=λ_ S Q=>Q [] S
def zhX (ta:TDE)(tr:TDA):TDA:=λdl S Q=>ta dl S λx S1=>tr dl S1 λxs S2=>Q (x::xs) S2
theorem zae:PDA X Z [] dNil:=ziY zej λσ H Qv ⟨r,dl,S,Q,rs,rel,h,ret⟩=>ret [] H r [] S Ext.refl rel Rps.nil h
theorem zab {te:TDE}{t:TDA}(ha:PD X Z e te)(hr:PDA X Z es t)(hs:starEach (e::es) X.env=(false,eval e X.env)::starEach es X.env:=by rfl):PDA X Z (e::es) (zhX te t):=
 ziY (zdJ ha hr hs) λσ H Qv ⟨r,dl,S,Q,rs,rel,h,ret⟩=>⟨r,dl,S,_,rs,rel,h,λv H1 r1 d S1 e1 rel1 p1 h1=>⟨r1,dl,S1,_,rs.ext e1,rel1,h1,λvs H2 r2 ds S2 e2 rel2 p2 h2=>
  ret (v::vs) H2 r2 (d::ds) S2 (e1.trans e2) rel2 (Rps.cons (p1.ext e2) p2) h2⟩⟩
def dTup (t:TDA):TDE:=λdl S Q=>t dl S λds S1=>if ds.length≤1000 then Q (.tup ds) S1 else False
def dLst (t:TDA):TDE:=λdl S Q=>t dl S λds S1=>if ds.length≤1000 then Q (.ref S1.length) (S1++[.lst ds]) else False
theorem zfl {A:Prop}{p:Prop} [Decidable p] (h:if p then A else False):p∧A:=by
 split at h
 ·exact⟨by assumption,h⟩
 ·exact h.elim
theorem zbr {n:Nat}(h:n≤1000):n≤sizeLine:=VaG (zcO h)
theorem zc7 {x1}{t:TDA}(h:PDA X Z es t):PD X Z (.Tuple es x1 pos) (dTup t):=
 zaW (zkL h) λσ H Qv ⟨r,dl,S,Q,rs,rel,h,ret⟩=>⟨r,dl,S,_,rs,rel,h,λvs H1 r1 ds S1 e1 rel1 p1 h1=>by
  obtain⟨hl,h1⟩:=zfl h1
  refine⟨by rw[← p1.1]; exact zbr hl,λp hp=>?_⟩
  have x:Ext r1 r1 H1 (upd H1 p (.tup vs)):=⟨λ_ _ q=>q,λa xs q=>zbv hp _ _ q,λa c q=>zbv hp _ _ q⟩
  exact ret _ _ r1 (.tup ds) S1 (e1.trans x) (rel1.same (zbv hp)) ((p1.ext x).tupR za6) h1⟩
theorem zbV {r:List Addr}{p:Addr}{H:Hp}{n:Nat}(h:r.length=n):Rp (r++[p]) H (.ref n) (.ref p):=.ref (by subst h; simp)
theorem zcj {t:TDA}(h:PDA X Z es t):PD X Z (.List es pos) (dLst t):=
 zaW (zjs h) λσ H Qv ⟨r,dl,S,Q,rs,rel,h,ret⟩=>⟨r,dl,S,_,rs,rel,h,λvs H1 r1 ds S1 e1 rel1 p1 h1=>by
  obtain⟨hl,h1⟩:=zfl h1
  refine⟨by rw[← p1.1]; exact zbr hl,λp hp=>?_⟩
  obtain⟨rel2,x⟩:=rel1.push hp p1
  exact ret _ _ _ (.ref S1.length) _ (e1.trans x) rel2 (zbV rel1.len) h1⟩
def wIx:W2:=λx y S Q=>match x,y with
 | .tup xs,.int i=>match atI xs i with
  | some d=>Q d S
  | none=>False
 | .ref n,.int i=>match lAt S n with
  | some o=>match atI (zac o) i with
   | some d=>Q d S
   | none=>False
  | none=>False
 | _,_=>False
theorem zg8 {r:List Addr}{H:Hp}{ds:List D}{vs:List V}{i:Int}{d:D}(h:Rps r H ds vs)(e:atI ds i=some d):∃v,atI vs i=some v∧Rp r H d v:=by
  unfold atI at e ⊢
  rw[← h.1]
  cases q:ixN ds.length i with
  | none=>
   rw[q] at e
   cases e
  | some j=>
    rw[q] at e
    exact h.get e
theorem do_ix:IxR X (upO X.K Z wIx):=by
 intro value slice pins s σ H x y v u Qv I rx ry h hs
 obtain⟨r,S,dx,dy,Q,rel,px,py,q,ret⟩:=h
 cases px with
 | @tup ds xs a e1 l1 f1=>
  cases py with
  | int i=>
   have q':(match atI ds i with | some d=>Q d S | none=>False):=q
   split at q'
   ·rename_i d e
    obtain⟨w,hw,pw⟩:=zg8 ⟨l1,f1⟩ e
    exact zlU value slice pins s σ H _ _ v u Qv I rx ry ⟨a,xs,i,w,rfl,rfl,SqT.of e1,hw,ret w H r d S Ext.refl rel pw q'⟩ hs
   ·exact q'.elim
  | _=>exact(show False from q).elim
 | @ref n a e1=>
  cases py with
  | int i=>
   have q':(match lAt S n with | some o=>(match atI (zac o) i with | some d=>Q d S | none=>False) | none=>False):=q
   split at q'
   ·rename_i o eo
    obtain⟨eo,eL⟩:=za4 eo
    obtain⟨a',ha,ob⟩:=rel.at eo
    rw[e1] at ha; cases ha
    obtain⟨xs,sq,pr⟩:=ob.list eL
    split at q'
    ·rename_i d e
     obtain⟨w,hw,pw⟩:=zg8 pr e
     exact zmr value slice pins s σ H _ _ v u Qv I rx ry ⟨a,xs,i,w,rfl,rfl,sq,hw,ret w H r d S Ext.refl rel pw q'⟩ hs
    ·exact q'.elim
   ·exact q'.elim
  | _=>exact(show False from q).elim
 | _=>exact(show False from q).elim
theorem zaT (ha:PD X Z a ta)(hb:PD X Z b tb)(hs:zgC b):PD X Z (.Subscript a b pos) (dOp wIx ta tb):=zaW (pe_ix do_ix ha hb hs) λ_ _ _ h=>zeV h
end
structure Bk (fs:List Addr)(H H':Hp)(B h:Heap)(ea:Addr):Prop where
 trk:∀b u,H' b=some u→∃o,B.get? b=some o
 old:∀b o,h.get? b=some o→H b=none→b ∉ fs→B.get? b=some o
 all:∀b o,h.get? b=some o→b ∉ fs→∃o',B.get? b=some o'
 new:H' ea=none
def CXE (P:Program)(w:World):CXT:=λouter H s E e s'=>∃(ea c:Addr) (a0:Value) (B:Heap) (H':Hp),e=.ref ea∧s'.os=s.os∧AllBare s'.gens∧Un (frs outer) [] H H' s.heap s'.heap∧HOk P w H' s'.heap∧
 Heap.FlyingW B outer ea (.ref c) a0 s'.heap∧Bk (frs outer) H H' B s.heap ea∧E (.ref c) none H'
section
variable {X:Cx}{pins:List (Addr×Obj)}{σ:St}{H:Hp}{s:Shared}
end
section
variable {P:Program}{w:World}{K:PySem.W.Frag}{mg:Str→Option Value}{base:Heap}{N:List Str}{qual:Str}{scope:Scope}{f:Addr}{cdv:Value}{A:Around}{outer:List Env}{s0:Shared}{H0:Hp}{E:XK}
end
structure Xc (K:PySem.W.Frag)(mg:Str→Option Value)(x:Str)(C:Addr)(bm:List Value)(nid:String):Prop where
 bound:mg x=some (.ref C)
 ex:PySem.W.excIn K C bm nid=true
abbrev WC:=List D→Sto→DK→Prop
abbrev Sd:=List D→Sto→DK→(Addr→Sto→Prop)→Prop
def upC (K:PySem.W.Frag)(Z:Zx)(w:WC):List V→Hp→VK→Prop:=λxs H Qv=>∃r S ds Q,Rel K Z r S H∧Rps r H ds xs∧w ds S Q∧Ret K Z r H Q Qv
def upF (K:PySem.W.Frag)(sd:Sd):Sp:=λvs H Qv E=>∃ex:Addr→Sto→Prop,upC K (Zc ex E) (λds S Q=>sd ds S Q ex) vs H Qv
def zfy (w:WC)(t:TDA):TDE:=λdl S Q=>t dl S λds S1=>w ds S1 Q
def zeI (ex:Ev→Addr→Sto→Prop)(sd:Sd)(t:TDA):TDE:=λdl S Q=>t dl S λds S1=>sd ds S1 Q (ex dl)
def zeg (X:Cx)(W:St→XK):Prop:=∀(pins:List (Addr×Obj)) (σ:St) (H:Hp) (s:Shared) (e:Value) (s':Shared),Inv X pins σ H s→CXE X.prog X.w X.stack H s (W σ) e s'→X.xe e s'
section
variable {X:Cx}{k:Nat}{f:Addr}{fd:FuncData}{ps:List Str}{sp:Sp}{W:St→XK}{x:Str}{p pos:Pos}{e:Expr}{es:List Expr}{t:TA}
theorem zkB {pins:List (Addr×Obj)}{σ:St}{H:Hp}{s:Shared}{Q:VK}{us:List Value}{vs:List V}(F:zaL X.prog X.w X.K X.mg X.base (CXE X.prog X.w) k f fd ps sp)(hr:zat k X.A)(hb:zbF X.K fd ps [])(hx:zeg X W)
  (I:Inv X pins σ H s)(r:zad vs us)(h:sp vs H Q (W σ)):wpAny (model X.prog X.w) X.A (call (.ref f) us) (EP X pins σ Q) X.xe s:=by
 have hl:us.length=ps.length:=by rw[← r.length]; exact F.len _ _ _ _ h
 have hb':=hb s us I.kIn (by rw[VaZ]; exact hl)
 rw[VaZ] at hb'
 refine wpAny_call (codeAny_mono (F.run X.A X.stack s H ⟨us,[]⟩ us vs Q (W σ) hr I.env0 hb' r h) λz s' hq=>?_)
 cases z with
 | error ev=>exact hx pins σ H s ev s' I hq
 | ok fl=>
  cases fl with
  | ret u=>exact I.after hq
  | _=>exact False.elim hq
theorem zlM (F:zaL X.prog X.w X.K X.mg X.base (CXE X.prog X.w) k f fd ps sp)(hr:zat k X.A)(hg:Gl X x)(hm:X.mg x=some (.ref f))(hk:PySem.W.keepIn X.K (.ref f)=true)(hb:zbF X.K fd ps [])(hx:zeg X W)
  (ha:PA X (e::es) t)(hdb:(x==("__debug__":Str))=false)(he:starEach (e::es) X.env=(false,eval e X.env)::starEach es X.env)(hpl:(backTo pos (starEach es X.env)).any (·.1)=false):
  PE X (.Call (.Name x p) (e::es) [] pos) (λσ H Q=>t σ H λvs H1=>sp vs H1 Q (W σ)):=by
 intro pins s σ H Q I h
 refine wpAny_Call_Name_kw (zln I hg hm ?_ hdb)
 exact PySem.W.callWith_K (h₀:=X.base) I.ok.mod.kin hk (thn (ha pos pins s σ H _ I h) λus s1 ⟨vs,H1,I1,r,q⟩=>⟨I1.kIn,zkB F hr hb hx I1 r q⟩) he hpl
end
section
variable {X:Cx}{Z:Zx}{x:Str}{p pos:Pos}{e:Expr}{es:List Expr}{t:TDA}{id T:String}{w:WC}
theorem zhF {σ:St}{H:Hp}{Qv:VK}(h:up X.K Z (zfy w t) σ H Qv):upA X.K Z t σ H λvs H1=>upC X.K Z w vs H1 Qv:=by
 obtain⟨r,dl,S,Q,rs,rel,h,ret⟩:=h
 exact⟨r,dl,S,_,rs,rel,h,λvs H1 r1 ds S1 e1 rel1 p1 h1=>⟨r1,S1,ds,Q,rel1,p1,h1,ret.ext e1⟩⟩
theorem zaH (hc:zay X (.builtin id) (upC X.K Z w))(hg:Gl X x)(hm:X.mg x=none)(hv:bootBuiltins x=some (.builtin id))(ha:PDA X Z (e::es) t)(hn:x≠"__name__":=by decide)(hdb:(x==("__debug__":Str))=false:=by decide)
  (he:starEach (e::es) X.env=(false,eval e X.env)::starEach es X.env:=by rfl)(hpl:(backTo pos (starEach es X.env)).any (·.1)=false:=by rfl):PD X Z (.Call (.Name x p) (e::es) [] pos) (zfy w t):=
 zaW (zmu hc hg hm hv ha hn hdb he hpl) λ_ _ _ h=>zhF h
theorem zit (hc:zay X (.type T) (upC X.K Z w))(hg:Gl X x)(hm:X.mg x=none)(hv:bootBuiltins x=some (.type T))(ha:PDA X Z (e::es) t)(hn:x≠"__name__":=by decide)(hdb:(x==("__debug__":Str))=false:=by decide)
  (he:starEach (e::es) X.env=(false,eval e X.env)::starEach es X.env:=by rfl)(hpl:(backTo pos (starEach es X.env)).any (·.1)=false:=by rfl):PD X Z (.Call (.Name x p) (e::es) [] pos) (zfy w t):=
 zaW (zdZ hc hg hm hv ha hn hdb he hpl) λ_ _ _ h=>zhF h
theorem up_sd {sd:Sd}{r:List Addr}{S:Sto}{H:Hp}{dl:Ev}{σ:St}{ds:List D}{vs:List V}{Q:DK}{Qv:VK}(rs:Rs r H dl σ)(rel:Rel X.K Z r S H)(p:Rps r H ds vs)(h:sd ds S Q (Z.ex dl))(ret:Ret X.K Z r H Q Qv):upF X.K sd vs H Qv (Z.w σ):=
 ⟨Z.ex dl,r,S,ds,Q,⟨rel.b,λ_ _ c H' r' S' x _ rb q=>rel.xw dl σ c H' r' S' x (rs.ext x) rb q⟩,p,h,λv H' r' d S' x rel' pv q=>ret v H' r' d S' x ⟨rel'.b,rel.xw.ext x⟩ pv q⟩
theorem zkr {k:Nat}{f:Addr}{fd:FuncData}{ps:List Str}{sd:Sd}(F:zaL X.prog X.w X.K X.mg X.base (CXE X.prog X.w) k f fd ps (upF X.K sd))(hr:zat k X.A)(hg:Gl X x)(hm:X.mg x=some (.ref f))(hk:PySem.W.keepIn X.K (.ref f)=true)
  {ex:Ev→Addr→Sto→Prop}{W:St→XK}(hb:zbF X.K fd ps [])(hx:zeg X W)(ha:PDA X ⟨ex,W⟩ (e::es) t)(hdb:(x==("__debug__":Str))=false:=by decide)(he:starEach (e::es) X.env=(false,eval e X.env)::starEach es X.env:=by rfl)
  (hpl:(backTo pos (starEach es X.env)).any (·.1)=false:=by rfl):PD X ⟨ex,W⟩ (.Call (.Name x p) (e::es) [] pos) (zeI ex sd t):=
 zaW (zlM F hr hg hm hk hb hx ha hdb he hpl) λσ H Qv ⟨r,dl,S,Q,rs,rel,h,ret⟩=>⟨r,dl,S,_,rs,rel,h,λvs H1 r1 ds S1 e1 rel1 p1 h1=>up_sd (Z:=⟨ex,W⟩) (rs.ext e1) rel1 p1 h1 (ret.ext e1)⟩
def wAbs:WC:=λds S Q=>match ds with
 | [.int i]=>Q (.int (if i<0 then -i else i)) S
 | _=>False
def zbO:List D→Option (List Int)
 | []=>some []
 | .int i::r=>(zbO r).map (i::·)
 | _::_=>none
def zd6 (le:Int→Int→Prop)(two:Int→Int→Int):WC:=λds S Q=>match ds with
 | [.int i,.int j]=>Q (.int (two i j)) S
 | [.ref n]=>match lAt S n with
  | some o=>match zbO (zac o) with
   | some xs=>xs≠[]∧∀m,m∈xs→(∀y∈xs,le y m)→Q (.int m) S
   | none=>False
  | none=>False
 | _=>False
abbrev wMax:WC:=zd6 (λy m=>y≤m) λi j=>if j > i then j else i
abbrev wMin:WC:=zd6 (λy m=>m≤y) λi j=>if j<i then j else i
theorem zfo {r:List Addr}{H:Hp}:∀ {ds:List D} {ns:List Int} {vs:List V} {us:List Value},zbO ds=some ns→Rps r H ds vs→zad vs us→∃xs:List (Int×Tok),us.toArray=intItems xs.toArray∧xs.map (·.1)=ns
 | [],ns,vs,us,e,p,q=>by
  have z:=p.unnil
  subst z
  cases q
  simp[zbO] at e
  subst e
  exact⟨[],by simp[intItems],rfl⟩
 | d::ds,ns,vs,us,e,p,q=>by
  obtain⟨v,vs',rfl,p1,p2⟩:=p.uncons
  cases d with
  | int i=>
   cases p1
   cases q with
   | cons q1 q2=>
    obtain⟨t,rfl⟩:=q1
    simp only[zbO,Vax] at e
    obtain⟨ms,e1,rfl⟩:=e
    obtain⟨xs,h1,h2⟩:=zfo e1 p2 q2
    refine⟨(i,t)::xs,?_,by simp[h2]⟩
    simp[intItems] at h1 ⊢
    exact h1
  | _=>simp[zbO] at e
theorem zia (f:Nat→Int):∀k j,j≤k→f j≤f (argBest (λi j=>decide (f i > f j)) k)
 | 0,j,h=>by
  have z:j=0:=by omega
  subst z
  exact Va0 _
 | k+1,j,h=>by
  have ih:=zia f k
  unfold argBest
  split
  ·rename_i hb
   have hb':f (k+1) > f (argBest (λi j=>decide (f i > f j)) k):=of_decide_eq_true hb
   by_cases z:j=k+1
   ·subst z; exact Va0 _
   ·have:=ih j (by omega); omega
  ·rename_i hb
   have hb':¬ f (k+1) > f (argBest (λi j=>decide (f i > f j)) k):=λq=>hb (decide_eq_true q)
   by_cases z:j=k+1
   ·subst z; omega
   ·exact ih j (by omega)
theorem zhr (f:Nat→Int):∀k j,j≤k→f (argBest (λi j=>decide (f i<f j)) k)≤f j
 | 0,j,h=>by
  have z:j=0:=by omega
  subst z
  exact Va0 _
 | k+1,j,h=>by
  have ih:=zhr f k
  unfold argBest
  split
  ·rename_i hb
   have hb':f (k+1)<f (argBest (λi j=>decide (f i<f j)) k):=of_decide_eq_true hb
   by_cases z:j=k+1
   ·subst z; exact Va0 _
   ·have:=ih j (by omega); omega
  ·rename_i hb
   have hb':¬ f (k+1)<f (argBest (λi j=>decide (f i<f j)) k):=λq=>hb (decide_eq_true q)
   by_cases z:j=k+1
   ·subst z; omega
   ·exact ih j (by omega)
theorem zgq (bt:Nat→Nat→Bool):∀k,argBest bt k≤k
 | 0=>Vaa _
 | k+1=>by
  unfold argBest
  split
  ·exact Vaa _
  ·exact Nat.le_succ_of_le (zgq bt k)
theorem zgI {xs:List (Int×Tok)}{ns:List Int}(h:xs.map (·.1)=ns){j:Nat}{y:Int}(e:ns[j]?=some y):numAt xs.toArray j=y:=by
  subst h
  unfold numAt
  rw[Vad] at e
  simp only[List.getElem?_toArray]
  cases q:xs[j]? with
  | none=>
   rw[q] at e
   cases e
  | some z=>rw[q] at e; simpa using e
theorem zis {xs:List (Int×Tok)}{ns:List Int}(h:xs.map (·.1)=ns){j:Nat}(hj:j<ns.length):numAt xs.toArray j∈ns:=by
 have e:ns[j]?=some ns[j]:=by simp[hj]
 rw[zgI h e]
 exact VaC hj
theorem ziH (hc:X.calm=true):zay X (.builtin "max") (upC X.K Z wMax):=by
 intro pins s σ H xs us Qv I rv h
 obtain⟨r,S,ds,Q,rel,ps,q,ret⟩:=h
 unfold wMax zd6 at q
 split at q
 ·rename_i i j
  obtain⟨v,vs,rfl,p1,p2⟩:=ps.uncons
  obtain⟨v2,vs2,rfl,p3,p4⟩:=p2.uncons
  have z:=p4.unnil
  subst z
  cases p1
  cases p3
  exact zlA hc pins s σ H _ us Qv I rv ⟨i,j,rfl,ret _ _ _ _ _ Ext.refl rel (.int _) q⟩
 ·rename_i n
  obtain⟨v,vs,rfl,p1,p2⟩:=ps.uncons
  have z:=p2.unnil
  subst z
  split at q
  ·rename_i o eo
   split at q
   ·rename_i ns en
    obtain⟨hne,q⟩:=q
    obtain⟨eo,eL⟩:=za4 eo
    obtain⟨a,ha,ob⟩:=rel.at eo
    cases p1 with
    | ref h1=>
     rw[h1] at ha; cases ha
     obtain⟨ys,sq,pr⟩:=ob.list eL
     obtain⟨u,rfl,ru⟩:=zbl rv
     cases ru
     obtain⟨its,ri,pl,hz⟩:=I.list sq
     obtain⟨zs,hz1,hz2⟩:=zfo en pr ri
     have hl:zs.length=ns.length:=by rw[← hz2,Vab]
     have hpos:0<ns.length:=List.length_pos_iff.mpr hne
     have isl:=pl.isList
     rw[hz1] at isl
     refine max_intList (I.ok.hd hc) isl (by simp; omega) λv h' tk hv hk=>?_
     have hvi:=intItems_at hv
     obtain⟨t,rfl⟩:=hvi
     have hb:=zgq (λi j=>decide (numAt zs.toArray i > numAt zs.toArray j)) (zs.toArray.size-1)
     have hsz:zs.toArray.size=ns.length:=by simp[hl]
     refine⟨.int _,H,I.kept hk,⟨_,rfl⟩,ret _ _ _ _ _ Ext.refl rel (.int _) (q _ (zis hz2 (by omega)) λy hy=>?_)⟩
     obtain⟨j,hj,ej⟩:=Va1.mp hy
     have e1:=zgI hz2 (show ns[j]?=some y by simp[hj,ej])
     rw[← e1]
     exact zia _ _ j (by omega)
   ·exact q.elim
  ·exact q.elim
 ·exact q.elim
theorem ziN (hc:X.calm=true):zay X (.builtin "min") (upC X.K Z wMin):=by
 intro pins s σ H xs us Qv I rv h
 obtain⟨r,S,ds,Q,rel,ps,q,ret⟩:=h
 unfold wMin zd6 at q
 split at q
 ·rename_i i j
  obtain⟨v,vs,rfl,p1,p2⟩:=ps.uncons
  obtain⟨v2,vs2,rfl,p3,p4⟩:=p2.uncons
  have z:=p4.unnil
  subst z
  cases p1
  cases p3
  exact zl2 hc pins s σ H _ us Qv I rv ⟨i,j,rfl,ret _ _ _ _ _ Ext.refl rel (.int _) q⟩
 ·rename_i n
  obtain⟨v,vs,rfl,p1,p2⟩:=ps.uncons
  have z:=p2.unnil
  subst z
  split at q
  ·rename_i o eo
   split at q
   ·rename_i ns en
    obtain⟨hne,q⟩:=q
    obtain⟨eo,eL⟩:=za4 eo
    obtain⟨a,ha,ob⟩:=rel.at eo
    cases p1 with
    | ref h1=>
     rw[h1] at ha; cases ha
     obtain⟨ys,sq,pr⟩:=ob.list eL
     obtain⟨u,rfl,ru⟩:=zbl rv
     cases ru
     obtain⟨its,ri,pl,hz⟩:=I.list sq
     obtain⟨zs,hz1,hz2⟩:=zfo en pr ri
     have hl:zs.length=ns.length:=by rw[← hz2,Vab]
     have hpos:0<ns.length:=List.length_pos_iff.mpr hne
     have isl:=pl.isList
     rw[hz1] at isl
     refine min_intList (I.ok.hd hc) isl (by simp; omega) λv h' tk hv hk=>?_
     have hvi:=intItems_at hv
     obtain⟨t,rfl⟩:=hvi
     have hb:=zgq (λi j=>decide (numAt zs.toArray i<numAt zs.toArray j)) (zs.toArray.size-1)
     have hsz:zs.toArray.size=ns.length:=by simp[hl]
     refine⟨.int _,H,I.kept hk,⟨_,rfl⟩,ret _ _ _ _ _ Ext.refl rel (.int _) (q _ (zis hz2 (by omega)) λy hy=>?_)⟩
     obtain⟨j,hj,ej⟩:=Va1.mp hy
     have e1:=zgI hz2 (show ns[j]?=some y by simp[hj,ej])
     rw[← e1]
     exact zhr _ _ j (by omega)
   ·exact q.elim
  ·exact q.elim
 ·exact q.elim
def zd3:WC:=λds S Q=>match ds with
 | [.tup xs]=>Q (.int xs.length) S
 | [.ref n]=>match lAt S n with
  | some o=>Q (.int (zac o).length) S
  | none=>False
 | _=>False
theorem zcA:zay X (.builtin "len") (upC X.K Z zd3):=ziE zkt λxs H Qv ⟨r,S,ds,Q,rel,ps,q,ret⟩=>by
 unfold zd3 at q
 split at q
 ·rename_i ys
  obtain⟨v,vs,rfl,p1,p2⟩:=ps.uncons
  have z:=p2.unnil
  subst z
  obtain⟨a,zs,rfl,h1,h2⟩:=p1.untup
  exact⟨a,zs,rfl,.inr (SqT.of h1),by rw[← h2.1]; exact ret _ _ _ _ _ Ext.refl rel (.int _) q⟩
 ·rename_i n
  obtain⟨v,vs,rfl,p1,p2⟩:=ps.uncons
  have z:=p2.unnil
  subst z
  split at q
  ·rename_i o eo
   obtain⟨eo,eL⟩:=za4 eo
   obtain⟨a,ha,ob⟩:=rel.at eo
   cases p1 with
   | ref h1=>
    rw[h1] at ha; cases ha
    obtain⟨ys,sq,pr⟩:=ob.list eL
    exact⟨_,ys,rfl,.inl sq,by rw[← pr.1]; exact ret _ _ _ _ _ Ext.refl rel (.int _) q⟩
  ·exact q.elim
 ·exact q.elim
def zdp (t T:String):Bool:=t==T||(t == "bool"&&T == "int")
def dInst (T:String)(te:TDE):TDE:=λdl S Q=>te dl S λd S1=>match d with
 | .ref _=>False
 | .exc _=>False
 | .non=>Q (.bl (zdp "NoneType" T)) S1
 | .bl _=>Q (.bl (zdp "bool" T)) S1
 | .int _=>Q (.bl (zdp "int" T)) S1
 | .str _=>Q (.bl (zdp "str" T)) S1
 | .tup _=>Q (.bl (zdp "tuple" T)) S1
end
section
variable {X:Cx}{Z:Zx}{st:Stmt}{za5:List Stmt}{t u:TDS}{e:Expr}{te:TDE}{pos:Pos}
def zgX:TDS:=λE dl S=>E.nx dl S
def zbK (t u:TDS):TDS:=λE dl S=>t { nx:=λdl' S'=>u E dl' S',rt:=E.rt,bk:=E.bk,ct:=E.ct } dl S
theorem zbs:zbp X Z [] zgX:=zg5 zmv λF σ H ⟨r,dl,S,E,rs,rel,h,ret⟩=>ret.nx σ H r dl S Ext.refl rs rel h
theorem zar (h1:PDS X Z st t)(h2:zbp X Z za5 u):zbp X Z (st::za5) (zbK t u):=
 zg5 (zkk h1 h2) λF σ H ⟨r,dl,S,E,rs,rel,h,ret⟩=>⟨r,dl,S,_,rs,rel,h,λσ' H' r' dl' S' x rs' rel' q=>⟨r',dl',S',E,rs',rel',q,ret.ext x⟩,ret.bk,ret.ct,ret.rt⟩
theorem zam (h1:PDS X Z st t):zbp X Z [st] t:=zmp h1
def zim (te:TDE):TDS:=λE dl S=>te dl S λ_ S1=>E.nx dl S1
theorem zfm (he:PD X Z e te)(hs:swapsWith e none pos.line X.env=pure false:=by rfl):PDS X Z (.Expr e pos) (zim te):=
 zbJ (zlt he hs) λF σ H ⟨r,dl,S,E,rs,rel,h,ret⟩=>⟨r,dl,S,_,rs,rel,h,λv H1 r1 d S1 x rel1 p q=>ret.nx σ H1 r1 dl S1 x (rs.ext x) rel1 q⟩
def dRet (te:TDE):TDS:=λE dl S=>te dl S E.rt
theorem zaB (he:PD X Z e te):PDS X Z (.Return (some e) pos) (dRet te):=
 zbJ (zkQ he) λF σ H ⟨r,dl,S,E,rs,rel,h,ret⟩=>⟨r,dl,S,_,rs,rel,h,ret.rt⟩
def dRetN:TDS:=λE _ S=>E.rt .non S
def dIf (c:TDT)(t u:TDS):TDS:=λE dl S=>c dl S λk S1=>if k=true then t E dl S1 else u E dl S1
theorem zbn {c:Expr}{a b:List Stmt}{tc:TDT}(hc:PDT X Z c tc)(ha:zbp X Z a t)(hb:zbp X Z b u):PDS X Z (.If c a b pos) (dIf tc t u):=
 zbJ (ps_if hc ha hb) λF σ H ⟨r,dl,S,E,rs,rel,h,ret⟩=>⟨r,dl,S,_,rs,rel,h,λk H1 r1 S1 x rel1 q=>by
  cases k with
  | true=>exact zfg ⟨r1,dl,S1,E,rs.ext x,rel1,(by simpa using q),ret.ext x⟩
  | false=>exact zeA ⟨r1,dl,S1,E,rs.ext x,rel1,(by simpa using q),ret.ext x⟩⟩
def zfP (i:Nat)(te:TDE):TDS:=λE dl S=>te dl S λd S1=>E.nx (dl.set i (some d)) S1
theorem zaE {i:Nat}{x:Str}{pos':Pos}(hN:X.N.Nodup)(hi:X.N[i]?=some x)(hx:Loc X.env.scope x)(he:PD X Z e te)(hs:swapsWith e (some (.Name x pos')) pos.line X.env=pure false:=by rfl)
  (hf:X.fn x=true∨X.env.scope.names.lookup x=some .local:=by first | exact .inl rfl | exact .inr rfl | assumption):PDS X Z (.Assign [.Name x pos'] e pos) (zfP i te):=
 zbJ (zlx hN hi hx he hs hf) λF σ H ⟨r,dl,S,E,rs,rel,h,ret⟩=>⟨r,dl,S,_,rs,rel,h,λv H1 r1 d S1 x rel1 p q=>ret.nx _ H1 r1 _ S1 x ((rs.ext x).set i p) rel1 q⟩
def dFor (i:Nat)(tl:TDE)(tb:TDS):TDS:=λE dl S=>tl dl S λd S1=>match d with
 | .ref n=>(lAt S1 n).isSome=true∧∃W:Nat→Nat→Ev→Sto→Prop,(∃m,W 0 m dl S1)∧∀k m dl S,W k m dl S→match lAt S n with
  | some o=>match (zac o)[k]? with
   | some x=>tb { nx:=λdl' S'=>∃m',m'<m∧W (k+1) m' dl' S',rt:=E.rt,bk:=E.nx,ct:=λdl' S'=>∃m',m'<m∧W (k+1) m' dl' S' } (dl.set i (some x)) S
   | none=>E.nx dl S
  | none=>False
 | _=>False
theorem zei {i:Nat}{x:Str}{pos':Pos}{iter:Expr}{body:List Stmt}{tl:TDE}{tb:TDS}(hp:PassesOwn (model X.prog X.w) X.A X.env X.xe)(hc:X.calm=true)(hN:X.N.Nodup)(hi:X.N[i]?=some x)(hx:Loc X.env.scope x)
  (hl:PD X Z iter tl)(hb:zbp X Z body tb)(hf:X.fn x=true∨X.env.scope.names.lookup x=some .local:=by first | exact .inl rfl | exact .inr rfl | assumption)
  (hs:∀y,foldedSetIterable iter X.env y=pure y:=by intro _; rfl):PDS X Z (.For (.Name x pos') iter body [] pos) (dFor i tl tb):=
 zbJ (zec hp hc (zfM hl) (zfV hN hi hx hf) hb hs) λF σ H ⟨r,dl,S,E,rs,rel,h,ret⟩=>by
  refine⟨r,dl,S,_,rs,rel,h,λv H1 r1 d S1 x1 rel1 p1 q1=>?_⟩
  cases p1 with
  | @ref n a hn=>
   obtain⟨hsome,W,⟨m0,w0⟩,turn⟩:=q1
   have sql:∀ {r':List Addr} {S':Sto} {H':Hp} {o:Ob},Ext r1 r' H1 H'→Rel X.K Z r' S' H'→lAt S' n=some o→∃xs,SqL X.K H' a xs∧Rps r' H' (zac o) xs:=λ{r' S' H' o} x' rel' eo=>by
    obtain⟨eo,eL⟩:=za4 eo
    obtain⟨a',ha,ob⟩:=rel'.at eo
    rw[x'.adr n a hn] at ha; cases ha
    exact ob.list eL
   obtain⟨o1,eo1⟩:=VaF.mp hsome
   obtain⟨xs1,sq1,_⟩:=sql Ext.refl rel1 eo1
   refine⟨a,rfl,⟨xs1,sq1⟩,λk m σ' H'=>∃r' dl' S',Ext r1 r' H1 H'∧Rs r' H' dl' σ'∧Rel X.K Z r' S' H'∧W k m dl' S',⟨m0,r1,dl,S1,Ext.refl,rs.ext x1,rel1,w0⟩,?_⟩
   rintro k m σ2 H2 ⟨r2,dl2,S2,x2,rs2,rel2,w2⟩
   have q:=turn k m dl2 S2 w2
   split at q
   ·rename_i o eo
    obtain⟨xs,sq,pr⟩:=sql x2 rel2 eo
    split at q
    ·rename_i y ey
     obtain⟨v,hv,pv⟩:=pr.get ey
     have go:∀ {r3:List Addr} {H3:Hp},Ext r2 r3 H2 H3→∀σ' H' r' dl' S',Ext r3 r' H3 H'→Rs r' H' dl' σ'→Rel X.K Z r' S' H'→(∃m',m'<m∧W (k+1) m' dl' S')→∃m',m'<m∧∃r' dl' S',Ext r1 r' H1 H'∧Rs r' H' dl' σ'∧Rel X.K Z r' S' H'∧W (k+1) m' dl' S':=
      λ{r3 H3} x3 σ' H' r' dl' S' x rs' rel' ⟨m',hm,w'⟩=>⟨m',hm,r',dl',S',x2.trans (x3.trans x),rs',rel',w'⟩
     refine .inr ⟨⟨xs,v,sq,hv⟩,λσ' H'=>∃m',m'<m∧∃r' dl' S',Ext r1 r' H1 H'∧Rs r' H' dl' σ'∧Rel X.K Z r' S' H'∧W (k+1) m' dl' S',λ_ _ z=>z,λv' H' y'=>?_⟩
     obtain⟨eH,y'⟩:=y'
     subst eH
     have ev:v'=v:=by
      have z:=y' xs sq
      rw[hv] at z; exact(Option.some.inj z).symm
     subst ev
     exact⟨r2,_,S2,_,rs2.set i pv,rel2,q,go Ext.refl,λσ' H' r' dl' S' x rs' rel' z=>ret.nx σ' H' r' dl' S' (x1.trans (x2.trans x)) rs' rel' z,go Ext.refl,ret.rt.ext (x1.trans x2)⟩
    ·rename_i ey
     have hlen:(zac o).length≤k:=VaH.mp ey
     exact .inl ⟨⟨xs,sq,by rw[← pr.1]; exact hlen⟩,ret.nx σ2 H2 r2 dl2 S2 (x1.trans x2) rs2 rel2 q⟩
   ·exact q.elim
  | _=>exact(show False from q1).elim
def dForR (i:Nat)(ta:TDA)(tb:TDS):TDS:=λE dl S=>ta dl S λds S1=>match ds with
 | [.int j]=>(-(2^62)≤j∧j<2^62)∧∃W:Nat→Ev→Sto→Prop,W 0 dl S1∧∀k dl S,W k dl S→
   if k<j.toNat then tb { nx:=λdl' S'=>W (k+1) dl' S',rt:=E.rt,bk:=E.nx,ct:=λdl' S'=>W (k+1) dl' S' } (dl.set i (some (.int k))) S else E.nx dl S
 | _=>False
theorem zfE {i:Nat}{x:Str}{pos2 pos' p:Pos}{a:Expr}{body:List Stmt}{ta:TDA}{tb:TDS}(hp:PassesOwn (model X.prog X.w) X.A X.env X.xe)(hc:X.calm=true)(hN:X.N.Nodup)(hi:X.N[i]?=some x)(hx:Loc X.env.scope x)
  (hg:Gl X "range")(hm:X.mg "range"=none)(ha:PDA X Z [a] ta)(hb:zbp X Z body tb)(hf:X.fn x=true∨X.env.scope.names.lookup x=some .local:=by first | exact .inl rfl | exact .inr rfl | assumption)
  (hs:∀y,foldedSetIterable (.Call (.Name "range" p) [a] [] pos) X.env y=pure y:=by intro _; rfl)(hst:starEach [a] X.env=[(false,eval a X.env)]:=by rfl):
  PDS X Z (.For (.Name x pos') (.Call (.Name "range" p) [a] [] pos) body [] pos2) (dForR i ta tb):=
 zbJ (zec hp hc (zjt hg hm ha hst) (zfV hN hi hx hf) hb hs) λF σ H ⟨r,dl,S,E,rs,rel,h,ret⟩=>by
  refine⟨r,dl,S,_,rs,rel,h,λvs H1 r1 ds S1 x1 rel1 p1 q1=>?_⟩
  split at q1
  ·rename_i j
   obtain⟨v,vs',rfl,p2,p3⟩:=p1.uncons
   have z:=p3.unnil
   subst z
   cases p2
   obtain⟨⟨b1,b2⟩,W,w0,turn⟩:=q1
   refine⟨j,rfl,b1,b2,λk m σ' H'=>m=j.toNat-k∧∃r' dl' S',Ext r1 r' H1 H'∧Rs r' H' dl' σ'∧Rel X.K Z r' S' H'∧W k dl' S',⟨j.toNat,by simp,r1,dl,S1,Ext.refl,rs.ext x1,rel1,w0⟩,?_⟩
   rintro k m σ2 H2 ⟨em,r2,dl2,S2,x2,rs2,rel2,w2⟩
   have q:=turn k dl2 S2 w2
   split at q
   ·rename_i hk
    have go:∀σ' H' r' dl' S',Ext r2 r' H2 H'→Rs r' H' dl' σ'→Rel X.K Z r' S' H'→W (k+1) dl' S'→∃r' dl' S',Ext r1 r' H1 H'∧Rs r' H' dl' σ'∧Rel X.K Z r' S' H'∧W (k+1) dl' S':=
     λσ' H' r' dl' S' x rs' rel' w'=>⟨r',dl',S',x2.trans x,rs',rel',w'⟩
    have pk:Rp r2 H2 (.int (k:Int)) (.int (0+(k:Int))):=by rw[Int.zero_add]; exact .int _
    refine .inr ⟨hk,λσ' H'=>∃r' dl' S',Ext r1 r' H1 H'∧Rs r' H' dl' σ'∧Rel X.K Z r' S' H'∧W (k+1) dl' S',λσ' H' z=>⟨j.toNat-(k+1),by omega,rfl,z⟩,λv' H' y'=>?_⟩
    obtain⟨eH,y'⟩:=y'
    subst eH
    subst y'
    exact⟨r2,_,S2,_,rs2.set i pk,rel2,q,go,λσ' H' r' dl' S' x rs' rel' z=>ret.nx σ' H' r' dl' S' (x1.trans (x2.trans x)) rs' rel' z,go,ret.rt.ext (x1.trans x2)⟩
   ·rename_i hk
    exact .inl ⟨by show j.toNat≤k; omega,ret.nx σ2 H2 r2 dl2 S2 (x1.trans x2) rs2 rel2 q⟩
  ·exact q1.elim
end
def zcS (N:List Str)(ds:List D):Ev:=ds.map some++List.replicate (N.length-ds.length) none
theorem zmk {r:List Addr}{H:Hp}{N:List Str}{ds:List D}{vs:List V}(h:Rps r H ds vs):Rs r H (zcS N ds) (L2.zbE N vs):=by
  refine⟨by simp[zcS,L2.zbE,h.1],λi d e=>?_⟩
  unfold zcS at e
  by_cases hi:i<ds.length
  · rw[Vap (by simpa using hi),Vad] at e
    cases q:ds[i]? with
    | none=>
   rw[q] at e
   cases e
    | some z=>
      rw[q] at e
      cases e
      obtain⟨v,hv,pv⟩:=h.get q
      refine⟨v,?_,pv⟩
      unfold L2.zbE
      rw[Vap (by simpa [h.1] using hi),Vad,hv]
      rfl
  · rw[Vay (by simpa using hi),List.getElem?_replicate] at e
    split at e <;> cases e
section
variable {P:Program}{w:World}{K:PySem.W.Frag}{mg:Str→Option Value}{base:Heap}
abbrev Z0:Zx:=Zc (λ_ _=>False) (λ_ _ _=>False)
theorem zjB {X:Cx}:zeg X Z0.w:=λ_ _ _ _ _ _ _ h=>by
 obtain⟨_,_,_,_,_,_,_,_,_,_,_,_,q⟩:=h
 exact q.elim
theorem za1 {x qual:Str}{st:Stmt}{f:Addr}{fd:FuncData}{N ps:List Str}{k:Nat}{sd:Sd}(F:Fun K x qual st f fd)(Sc:zaN N ps (zan st))(len:∀ds S Q ex,sd ds S Q ex→ds.length=ps.length)
  (hbody:∀(cdv:Value) (A:Around) (outer:List Env) (s:Shared) (H:Hp) (E:XK),zat k (A.deeper (envOfC qual (zan st) s.heap.objs.size f cdv))→
   ∃t,zbp (zcv (CXE P w) P w K mg base N qual (zan st) f cdv A outer s H E).nox Z0 (zb6 st) t∧∀ds S Q ex,sd ds S Q ex→t { nx:=λ_ S'=>Q .non S',rt:=Q } (zcS N ds) S):zaL P w K mg base (CXE P w) (k+1) f fd ps (upF K sd):=by
 obtain⟨oc,od,kV,doc,pm,an,cdv,ct,osl,rfl,lk,hcd⟩:=F.ex
 refine zhV lk hcd Sc (λvs H Q E h=>?_) λA outer s H vs Q E hr h=>?_
 ·obtain⟨ex,r,S,ds,Q',rel,p,q,ret⟩:=h
  rw[← p.1]
  exact len ds S Q' ex q
 ·obtain⟨ex,r,S,ds,Q',rel,p,q,ret⟩:=h
  obtain⟨t,ht,hq⟩:=hbody cdv A outer s H E hr
  have back:∀ {H':Hp} {r':List Addr} {S':Sto},Ext r r' H H'→Rel K Z0 r' S' H'→Rel K (Zc ex E) r' S' H':=λx rel'=>⟨rel'.b,rel.xw.ext x⟩
  refine⟨upS K Z0 t,ht.nox,r,zcS N ds,S,_,zmk p,⟨rel.b,λ_ _ _ _ _ _ _ _ _ z=>z.elim⟩,hq ds S Q' ex q,?_,?_,?_,?_⟩
  ·intro σ' H' r' dl' S' x _ rel' z
   exact ret .non H' r' .non S' x (back x rel') .non z
  ·intro σ' H' r' dl' S' x _ rel' z
   exact z
  ·intro σ' H' r' dl' S' x _ rel' z
   exact z
  ·intro v H' r' d S' x rel' p' z
   exact ret v H' r' d S' x (back x rel') p' z
end
open PySem
def Sz (n:Nat)(i:Int):Prop:=i.natAbs<2^n
theorem Sz.mono {m n:Nat}{i:Int}(h:Sz m i)(hn:m≤n):Sz n i:=Vas h (Nat.pow_le_pow_right (by decide) hn)
theorem Sz.bits {n:Nat}{i:Int}(h:Sz n i):Builtin.Int.intBits i≤n:=by
 unfold Builtin.Int.intBits
 split
 ·exact Vaj _
 ·rename_i hz
  have hp:i.natAbs≠0:=by
   intro z
   have z2:i=0:=by omega
   simp[z2] at hz
  have:=(Nat.log2_lt hp).mpr h
  omega
theorem zkP {m n:Nat}{i j:Int}(hi:Sz m i)(hj:Sz n j)(hm:m≤1048576:=by decide)(hn:n≤1048576:=by decide):IntMulOk i j:=by
 have e20:(2:Nat)^20=1048576:=by decide
 exact IntMulOk.of_bits (Vau hi.bits (by omega)) (Vau hj.bits (by omega))
theorem Sz.of {n:Nat}{i:Int}(m:Nat)(h:i.natAbs≤m)(hm:m<2^n:=by decide):Sz n i:=Nat.lt_of_le_of_lt h hm
theorem Sz.add {m n:Nat}{i j:Int}(hi:Sz m i)(hj:Sz n j):Sz (max m n+1) (i+j):=by
 have h1:Sz (max m n) i:=hi.mono (Nat.le_max_left _ _)
 have h2:Sz (max m n) j:=hj.mono (Nat.le_max_right _ _)
 unfold Sz at *
 have e:(2:Nat)^(max m n+1)=2^max m n+2^max m n:=by rw[Nat.pow_succ]; omega
 rw[e]
 have:=Int.natAbs_add_le i j
 omega
theorem Sz.neg {m:Nat}{i:Int}(hi:Sz m i):Sz m (-i):=by
 unfold Sz at *
 rw[Int.natAbs_neg]; exact hi
theorem Sz.sub {m n:Nat}{i j:Int}(hi:Sz m i)(hj:Sz n j):Sz (max m n+1) (i-j):=by
 rw[Int.sub_eq_add_neg]; exact hi.add hj.neg
theorem Sz.log {n:Nat}{i:Int}(h:Sz n i)(hi:i≠0)(hn:n≤9000:=by decide):i.natAbs.log2<9000:=by
 have:=(Nat.log2_lt (by omega:i.natAbs≠0)).mpr h
 omega
theorem Sz.fd {n:Nat}{i:Int}(h:Sz n i)(hi:0<i)(hn:n≤9000:=by decide):0<i∧i.natAbs.log2<9000:=⟨hi,h.log (by omega) hn⟩
theorem zhH {a b:Int}(hb:0<b):0≤a%b∧a%b<b:=⟨Int.emod_nonneg _ (by omega),Int.emod_lt_of_pos _ hb⟩
theorem p40:((10:Int)^(40:Int).toNat)=10^40:=rfl
theorem p41:((10:Int)^(41:Int).toNat)=10^41:=rfl
theorem p20:((10:Int)^(20:Int).toNat)=10^20:=rfl
example (x:Int):-(10^40)≤x%(2*10^40+1)-10^40:=by omega
example (x:Int):x%(2*10^40+1)-10^40≤10^40:=by omega
example (x:Int) (h:-(10^40)≤x) (h2:x≤2*10^41):Sz 140 x:=Sz.of (2*10^41) (by omega)
end L3
namespace L3
open PySem PySem.Spec PyProof.Rows L2
section
variable {X:Cx}{Z:Zx}
def wIf (C:Int→Int→Bool)(g:Int→Int→D):W2:=λx y S Q=>match x,y with
 | .int i,.int j=>if C i j=true then Q (g i j) S else False
 | _,_=>False
theorem opIf {f:Value→Value→Sem Value}{C:Int→Int→Prop}{C':Int→Int→Bool}{g:Int→Int→D}(h:OpR X f (upO X.K Z (wI C g)))(hc:∀i j,C' i j=true→C i j):OpR X f (upO X.K Z (wIf C' g)):=
 zdV h λx y H Qv ⟨r,S,dx,dy,Q,rel,px,py,q,ret⟩=>⟨r,S,dx,dy,Q,rel,px,py,by
  unfold wIf at q
  split at q
  ·obtain⟨h1,h2⟩:=zfl q
   exact⟨hc _ _ h1,h2⟩
  ·exact q.elim,ret⟩
def zdu (_ j:Int):Bool:=decide (0<j)&&decide (j<1073741824)
abbrev zmR:W2:=wIf zdu λi j=>.int (i/j)
abbrev wModL:W2:=wIf zdu λi j=>.int (i%j)
def powB (i j:Int):Bool:=decide (0≤j)&&decide (j≤1000)&&decide (-1000<i)&&decide (i<1000)
theorem zhA {i j:Int}(h:zdu i j=true):0<j∧j<1073741824:=by
 unfold zdu at h
 simpa using h
theorem zhj:OpR X (binaryOp .FloorDiv) (upO X.K Z zmR):=opIf zmG λi j h=>by
 obtain⟨h1,h2⟩:=zhA h
 refine⟨h1,?_⟩
 have:j.natAbs.log2<30:=(Nat.log2_lt (by omega)).mpr (by omega)
 omega
theorem zdG:OpR X (binaryOp .Mod) (upO X.K Z wModL):=opIf zez λi j h=>(zhA h).1
structure Df (K:PySem.W.Frag)(mg:Str→Option Value)(x:Str)(st:Stmt)(ps:List Str) where
 f:Addr
 fd:FuncData
 F:Fun K x x st f fd
 m:mg x=some (.ref f)
 b:zbF K fd ps []
structure Fk (P:Program)(w:World)(K:PySem.W.Frag)(mg:Str→Option Value)(base:Heap)(k:Nat)(x:Str)(ps:List Str)(sd:Sd) where
 f:Addr
 fd:FuncData
 ok:zaL P w K mg base (CXE P w) k f fd ps (upF K sd)
 m:mg x=some (.ref f)
 kp:PySem.W.keepIn K (.ref f)=true
 b:zbF K fd ps []
def Df.mk' {P:Program}{w:World}{K:PySem.W.Frag}{mg:Str→Option Value}{base:Heap}{k:Nat}{x:Str}{st:Stmt}{ps:List Str}{sd:Sd}(d:Df K mg x st ps)(h:zaL P w K mg base (CXE P w) k d.f d.fd ps (upF K sd)):Fk P w K mg base k x ps sd:=
 ⟨d.f,d.fd,h,d.m,d.F.kp,d.b⟩
theorem zle {x:Str}{p pos:Pos}{e:Expr}{es:List Expr}{t:TDA}{k:Nat}{ps:List Str}{sd:Sd}{ex:Ev→Addr→Sto→Prop}{W:St→XK}(G:Fk X.prog X.w X.K X.mg X.base k x ps sd)(hr:zat k X.A)(hx:zeg X W)(hg:Gl X x)(ha:PDA X ⟨ex,W⟩ (e::es) t)
  (hdb:(x==("__debug__":Str))=false:=by decide)(he:starEach (e::es) X.env=(false,eval e X.env)::starEach es X.env:=by rfl)(hpl:(backTo pos (starEach es X.env)).any (·.1)=false:=by rfl):
  PD X ⟨ex,W⟩ (.Call (.Name x p) (e::es) [] pos) (zeI ex sd t):=zkr G.ok hr hg G.m G.kp G.b hx ha hdb he hpl
end
def zcR:Sd:=λds S Q _=>∃ns:List Int,ds=[.ref 0]∧S=[.frz (ns.map D.int)]∧ns.length≤63∧∀S',Q (.bl true) S'
theorem zjQ:∀ds S Q ex,zcR ds S Q ex→ds.length=1:=λds S Q ex h=>by
 obtain⟨ns,rfl,_⟩:=h
 rfl
theorem zmE {K:PySem.W.Frag}{H:Hp}{a:Addr}{xs:List V}(hO:zd7 H)(h:SqL K H a xs):SqF K H a xs:=by
 rcases h with (h | ⟨o,h⟩) | h
 ·rcases hO a with z | ⟨o,ys,z⟩
  ·rw[h] at z; cases z
  ·rw[h] at z; cases z
 ·exact .inl ⟨o,h⟩
 ·exact .inr h
theorem zhy {r:List Addr}{H:Hp}(ns:List Int):Rps r H (ns.map D.int) (ns.map V.int):=by
 refine⟨by simp,λi d v h1 h2=>?_⟩
 rw[Vad] at h1 h2
 cases q:ns[i]? with
 | none=>rw[q] at h1; cases h1
 | some z=>
  rw[q] at h1 h2
  cases h1
  cases h2
  exact .int z
theorem zmf {K:PySem.W.Frag}{H:Hp}{a:Addr}{ns:List Int}(hl:ns.length≤63)(hO:zd7 H)(hS:SqL K H a (ns.map V.int)):upF K zcR [.ref a] H (λv _=>v=.bl true) λ_ _ _=>False:=by
 refine⟨λ_ _=>False,[a],[.frz (ns.map D.int)],[.ref 0],λd _=>d=.bl true,⟨⟨rfl,λn b o h1 h2=>?_,λn m b xs ys h1 h2 h3 h4 o1 o2=>?_⟩,λ_ _ _ _ _ _ _ _ _ z=>z.elim⟩,Rps.cons (.ref rfl) Rps.nil,⟨ns,rfl,rfl,hl,λ_=>rfl⟩,λv H' r' d S' e rel p q=>?_⟩
 ·cases n with
  | zero=>
   simp at h1 h2
   subst h1; subst h2
   exact⟨_,zmE hO hS,zhy ns⟩
  | succ n=>simp at h1
 ·cases n with
  | zero=>
   simp at h3
   subst h3
   cases o1
  | succ n=>simp at h1
 ·subst q
  cases p
  rfl
theorem zkh {l:PySem.W.OpenLaw}{q:Program}{loose:List Str}{XP:(Str→Option Value)→Heap→Prop}{YP:World→Heap→Prop}{d:DefRec}{K:Params→PySem.W.Frag}{x:Str}(k:Nat)(hn:l.most=some 63)(hdf:d.params.defaults=[])(hr:zat k callerA)
  (hY:∀(w:World) (h:Heap),YP w h→(K w.params).In h)
  (F:∀(w:World) (mg:Str→Option Value) (fa:Addr) (h:Heap),(K w.params).In h→h.Ns mainGlobals mg→mg d.name=some (.ref fa)→
   ∃fd:FuncData,(∀(s:Shared) (u:Value),BindsTo s fd ⟨[u],[]⟩ [(x,u)])∧∀base:Heap,(K w.params).In base→base.Ns mainGlobals mg→zaL l.prog w (K w.params) mg base (CXE l.prog w) k fa fd [x] (upF (K w.params) zcR)):
  PySem.W.WalkO q loose XP YP l.row.toRowW d [] (λf vs=>PySem.call f vs):=
 L2.zlo (n:=63) (k:=k) (x:=x) (CX:=λw=>CXE l.prog w) (sp:=λw=>upF (K w.params) zcR) hn (by decide) hdf hr hY F (λ_ _ a ns hl hO hS=>zmf hl hO hS) λ_ _ _ _ _ ⟨_,_,_,_,_,_,_,_,_,_,_,_,z⟩=>z
end L3
namespace L3
open PySem PySem.Spec PyProof.Rows L2
theorem ifP {c A B:Prop} [Decidable c] (h:c)(a:A):if c then A else B:=by rw[if_pos h]; exact a
theorem ifD {c:Prop} [Decidable c] {A B:Prop}(h1:c→A)(h2:¬ c→B):if decide c=true then A else B:=by
 by_cases h:c
 ·rw[decide_eq_true h]; exact zfg (h1 h)
 ·rw[decide_eq_false h]; exact zeA (h2 h)
open PySem L2
theorem ne2 {x y u v:Int}(h1:x=u)(h2:y=v):(!(decide (x=u)&&(decide (y=v)&&true)))=false:=by rw[decide_eq_true h1,decide_eq_true h2]; rfl
open PySem L2
end L3
namespace L3
open PySem PySem.Spec PyProof.Rows L2
section
variable {X:Cx}{Z:Zx}
abbrev Cx.held (X:Cx)(pins:List (Addr×Obj))(E:Value→Shared→Prop):Cx:={ X with pn:=X.pn++pins,xe:=E }
end
structure zcI (k:Nat)(A:Around):Prop where
 dp:A.depth+3*k+5<recursionLimit
 un:A.units+16*k+200<cLine
theorem zcI.mono {j k:Nat}{A:Around}(r:zcI k A)(h:j≤k):zcI j A:=⟨by have:=r.dp; omega,by have:=r.un; omega⟩
theorem zcI.deeper {k:Nat}{A:Around}(r:zcI (k+1) A)(env:Env):zcI k (A.deeper env):=
 ⟨by have:=r.dp; show A.depth+1+3*k+5<_; omega,by have:=r.un; show A.units+3+16*k+200<_; omega⟩
structure FnOkN (P:Program)(w:World)(K:PySem.W.Frag)(mg:Str→Option Value)(base:Heap)(k:Nat)(f:Addr)(fd:FuncData)(ps:List Str)(sp:Sp):Prop where
 len:∀vs H Q E,sp vs H Q E→vs.length=ps.length
 run:∀(A:Around) (outer:List Env) (s:Shared) (H:Hp) (args:Args) (us:List Value) (vs:List V) (Q:VK) (E:XK),zcI k A→zbM P w K mg base A outer s H→BindsTo s fd args (ps.zip us)→zad vs us→sp vs H Q E→
  codeAny (model P w) A (.call (.ref f) args) (CR (CXE P w) outer P w H s Q E) s
section
variable {X:Cx}{k:Nat}{f:Addr}{fd:FuncData}{ps:List Str}{sp:Sp}{W:St→XK}{x:Str}{p pos:Pos}{e:Expr}{es:List Expr}{t:TA}
end
section
variable {X:Cx}{Z:Zx}{x:Str}{p pos:Pos}{e:Expr}{es:List Expr}{t:TDA}
end
section
variable {P:Program}{w:World}{K:PySem.W.Frag}{mg:Str→Option Value}{base:Heap}
end
structure FkN (P:Program)(w:World)(K:PySem.W.Frag)(mg:Str→Option Value)(base:Heap)(k:Nat)(x:Str)(ps:List Str)(sd:Sd) where
 f:Addr
 fd:FuncData
 ok:FnOkN P w K mg base k f fd ps (upF K sd)
 m:mg x=some (.ref f)
 kp:PySem.W.keepIn K (.ref f)=true
 b:zbF K fd ps []
section
variable {X:Cx}{Z:Zx}
theorem zed {r:List Addr}{H:Hp}{a:Addr}{o:HO}(h:H a=none):Ext r r H (upd H a o):=⟨λ_ _ q=>q,λ_ _ q=>zbv h _ _ q,λ_ _ q=>zbv h _ _ q⟩
open PySem.W in
end
abbrev VE:List Value:=[.type "ValueError",.type "Exception",.type "BaseException",.type "object"]
structure Ec (K:PySem.W.Frag)(mg:Str→Option Value)(x:Str) where
 c:Addr
 xc:Xc K mg x c VE "ValueError.__new__"
end L3
namespace L3
open PySem PySem.Spec PyProof.Rows L2
inductive Sco (n:Nat):D→Prop
 | non:Sco n .non
 | bl (b:Bool):Sco n (.bl b)
 | int (i:Int):Sco n (.int i)
 | str (x:Str):Sco n (.str x)
 | tup {ds:List D}:(∀d∈ds,Sco n d)→Sco n (.tup ds)
 | ref {m:Nat}:m<n→Sco n (.ref m)
 | exc (c:Addr):Sco n (.exc c)
theorem Rp.sco {r:List Addr}{H:Hp}{d:D}{v:V}(h:Rp r H d v):Sco r.length d:=by
 induction h with
 | non=>exact .non
 | bl b=>exact .bl b
 | int i=>exact .int i
 | str x=>exact .str x
 | @tup ds xs a _ l _ ih=>
  refine .tup λd hd=>?_
  obtain⟨i,hi,e⟩:=Va1.mp hd
  exact ih i d xs[i] (by simp[hi,e]) (by simp[l ▸ hi])
 | ref h=>exact .ref (Vac.mp h).1
 | exc _=>exact .exc _
theorem Rp.low {r r':List Addr}{H:Hp}{d:D}{v:V}(h:Rp r' H d v)(low:∀m a,m<r.length→r'[m]?=some a→r[m]?=some a)(s:Sco r.length d):Rp r H d v:=by
 induction h with
 | non=>exact .non
 | bl b=>exact .bl b
 | int i=>exact .int i
 | str x=>exact .str x
 | tup e l f ih=>
  cases s with
  | tup s=>exact .tup e l λi d v h1 h2=>ih i d v h1 h2 (s d (Vag h1))
 | ref h=>
  cases s with
  | ref s=>exact .ref (low _ _ s h)
 | exc h=>exact .exc h
def Pre (S S':Sto):Prop:=∀(n:Nat) (o:Ob),S[n]?=some o→S'[n]?=some o
theorem Pre.refl {S:Sto}:Pre S S:=λ_ _ h=>h
theorem Pre.push {S S':Sto}{o:Ob}(h:Pre S S'):Pre S (S'++[o]):=λn u e=>by
 have z:=h n u e
 rw[Vap (Vac.mp z).1]; exact z
theorem Pre.trans {S S' S2:Sto}(h:Pre S S')(k:Pre S' S2):Pre S S2:=λn o e=>k n o (h n o e)
theorem zhc {r r':List Addr}{H H':Hp}(e:Ext r r' H H'):∀m a,m<r.length→r'[m]?=some a→r[m]?=some a:=λm a hm h=>by
 have z:r[m]?=some r[m]:=by simp[hm]
 rw[e.adr _ _ z] at h
 rw[z]; exact h
theorem zaw.low {K:PySem.W.Frag}{r r':List Addr}{S S':Sto}{H H':Hp}(h:zaw K r S H)(e:Ext r r' H H')(h':zaw K r' S' H')(p:Pre S S'):zaw K r S H':=by
 have rl:∀ {ds:List D} {xs ys:List V},Rps r H ds xs→Rps r' H' ds ys→Rps r H' ds ys:=λ{ds xs ys} a b=>⟨b.1,λi d v h1 h2=>by
  obtain⟨v0,_,q⟩:=a.get h1
  exact(b.2 i d v h1 h2).low (zhc e) q.sco⟩
 refine⟨h.len,λn a o h1 h2=>?_,λn m a xs ys h1 h2 h3 h4 o1 o2=>h'.nd n m a xs ys (e.adr _ _ h1) (e.adr _ _ h2) (p _ _ h3) (p _ _ h4) o1 o2⟩
 have q:=h.ob n a o h1 h2
 have q':=h'.ob n a o (e.adr _ _ h1) (p _ _ h2)
 cases o with
 | lst ds=>
  obtain⟨xs,_,a1⟩:=q
  obtain⟨ys,b0,b1⟩:=q'
  exact⟨ys,b0,rl a1 b1⟩
 | frz ds=>
  obtain⟨xs,_,a1⟩:=q
  obtain⟨ys,b0,b1⟩:=q'
  exact⟨ys,b0,rl a1 b1⟩
 | ins C fs=>
  obtain⟨_,_,_,a1⟩:=q
  obtain⟨dx,fs',b0,b1⟩:=q'
  exact⟨dx,fs',b0,b1.1,rl a1.2 b1.2⟩
 | dct kvs=>
  obtain⟨_,_,a1⟩:=q
  obtain⟨ks,b0,b1⟩:=q'
  exact⟨ks,b0,b1.1,rl a1.2 b1.2⟩
def Gc (S:Sto)(Q:DK):DK:=λd S'=>Pre S S'∧Sco S.length d∧Q d S
def GcX (S:Sto)(ex:Addr→Sto→Prop):Addr→Sto→Prop:=λc S'=>Pre S S'∧ex c S
theorem Ret.gc {K:PySem.W.Frag}{Z Z':Zx}{r:List Addr}{S:Sto}{H:Hp}{Q:DK}{Qv:VK}(h:Ret K Z r H Q Qv)(rel:Rel K Z r S H):Ret K Z' r H (Gc S Q) Qv:=λv H' r' d S' e rel' p q=>by
 obtain⟨pre,sc,q⟩:=q
 have e':Ext r r H H':=⟨λ_ _ z=>z,e.tup,e.xc⟩
 rw[← rel.len] at sc
 exact h v H' r d S e' ⟨rel.b.low e rel'.b pre,rel.xw.ext e'⟩ (p.low (zhc e) sc) q
theorem zcx.gc {K:PySem.W.Frag}{ex:Addr→Sto→Prop}{E:XK}{r:List Addr}{S:Sto}{H:Hp}(rel:Rel K (Zc ex E) r S H):zcx K (Zc (GcX S ex) E) r H:=λdl σ c H' r' S' e _ rb q=>by
 obtain⟨pre,q⟩:=q
 have e':Ext r r H H':=⟨λ_ _ z=>z,e.tup,e.xc⟩
 exact rel.xw [] [] c H' r S e' ⟨rfl,λi d z=>by simp at z⟩ (rel.b.low e rb pre) q
section
variable {P:Program}{w:World}{K:PySem.W.Frag}{mg:Str→Option Value}{base:Heap}
def gcS (sd:Sd):Sd:=λds S Q ex=>∃Q0 ex0,Q=Gc S Q0∧ex=GcX S ex0∧sd ds S Q0 ex0
theorem ziZ {CX:CXT}{k:Nat}{f:Addr}{fd:FuncData}{ps:List Str}{sd:Sd}(h:zaL P w K mg base CX k f fd ps (upF K (gcS sd))):zaL P w K mg base CX k f fd ps (upF K sd):=by
 have imp:∀vs H Q E,upF K sd vs H Q E→upF K (gcS sd) vs H Q E:=λvs H Qv E ⟨ex,r,S,ds,Q,rel,p,q,ret⟩=>
  ⟨GcX S ex,r,S,ds,Gc S Q,⟨rel.b,zcx.gc rel⟩,p,⟨Q,ex,rfl,rfl,q⟩,ret.gc rel⟩
 obtain⟨h1,h2⟩:=h
 exact⟨λvs H Q E q=>h1 vs H Q E (imp vs H Q E q),λA outer s H args us vs Q E hr e0 hb rv q=>h2 A outer s H args us vs Q E hr e0 hb rv (imp vs H Q E q)⟩
end
theorem zi4 {sd:Sd}{n:Nat}(len:∀ds S Q ex,sd ds S Q ex→ds.length=n):∀ds S Q ex,gcS sd ds S Q ex→ds.length=n:=λds S Q ex h=>by
 obtain⟨Q0,ex0,_,_,h⟩:=h
 exact len _ _ _ _ h
structure zc5 (sc around:Scope)(x:Str)(caps:List Str):Prop where
 kind:sc.kind=.function
 nocell:∀y∈sc.names,y.2≠.cell
 own:∀y∈sc.names,y.2=.local→sc.names.lookup y.1=some .local
 loc:sc.names.lookup x=some .local
 cap:∀y∈caps,sc.names.lookup y=some .free
 out:∀y∈sc.names,y.2=.free→around.names.lookup y.1=some .cell
theorem zdR {α:Type}{y:Str}{v:α}:∀ {l:List (Str×α)},l.lookup y=some v→(y,v)∈l
 | [],h=>by simp at h
 | (n,k)::r,h=>by
  cases e:y==n with
  | true=>
   rw[Van,e] at h
   have z:k=v:=Option.some.inj h
   have z2:y=n:=by simpa using e
   rw[z,z2]; exact VaQ
  | false=>
   rw[Van,e] at h
   exact VaE _ (zdR h)
theorem zgJ {env:Env}:∀(l:List (Str×NameKind)) (acc:List (Str×Addr)),(∀y∈l,y.2=.free→∃c,env.cells.lookup y.1=some c)→(∀x c,acc.lookup x=some c→env.cells.lookup x=some c)→
  ∃cl,(forIn l acc λx r=>(if (x.2==NameKind.free)=true then do let a ← cellOf env x.1; pure (ForInStep.yield ((x.1,a)::r)) else pure (ForInStep.yield r):Sem (ForInStep (List (Str×Addr)))))=pure cl∧
   (∀x c,cl.lookup x=some c→env.cells.lookup x=some c)∧(∀y∈l,y.2=.free→cl.lookup y.1=env.cells.lookup y.1)∧∀x c,acc.lookup x=some c→∃c',cl.lookup x=some c'
 | [],acc,_,ha=>⟨acc,by simp,ha,λy hy=>(by cases hy),λx c e=>⟨c,e⟩⟩
 | (n,k)::r,acc,h,ha=>by
  cases hk:(k==NameKind.free) with
  | false=>
   obtain⟨cl,h1,h2,h3,h4⟩:=zgJ r acc (λy hy=>h y (VaE _ hy)) ha
   refine⟨cl,?_,h2,λy hy hf=>?_,h4⟩
   ·rw[List.forIn_cons]; simp[hk]; simpa using h1
   ·have hy':=Vam.mp hy
    rcases hy' with rfl | hy
    ·rw[show k=NameKind.free from hf] at hk; exact absurd hk (by decide)
    ·exact h3 y hy hf
  | true=>
   have hf:k=NameKind.free:=by simpa using hk
   obtain⟨c,hc⟩:=h (n,k) VaQ hf
   obtain⟨cl,h1,h2,h3,h4⟩:=zgJ r ((n,c)::acc) (λy hy=>h y (VaE _ hy)) (λx c' e=>by
    cases q:x==n with
    | true=>
     rw[Van,q] at e
     have z:x=n:=by simpa using q
     rw[z,hc]; exact e
    | false=>
     rw[Van,q] at e
     exact ha x c' e)
   refine⟨cl,?_,h2,λy hy hf=>?_,λx c' e=>?_⟩
   ·have ec:cellOf env n=pure c:=by unfold cellOf; rw[hc]
    rw[List.forIn_cons]; simp[hk,ec]; simpa using h1
   ·have hy':=Vam.mp hy
    rcases hy' with rfl | hy
    ·obtain⟨c',e⟩:=h4 n c (by simp)
     rw[e]; exact(h2 _ _ e).symm
    ·exact h3 y hy hf
   ·refine h4 x (if x==n then c else c') ?_
    cases q:x==n with
    | true=>simp[Van,q]
    | false=>simp[Van,q,e]
theorem zgY {sc:Scope}{env:Env}(h:∀y∈sc.names,y.2=.free→∃c,env.cells.lookup y.1=some c):
  ∃cl,closureFor sc env=pure cl∧(∀x c,cl.lookup x=some c→env.cells.lookup x=some c)∧∀y∈sc.names,y.2=.free→cl.lookup y.1=env.cells.lookup y.1:=by
 obtain⟨cl,h1,h2,h3,_⟩:=zgJ sc.names [] h (λx c e=>by simp at e)
 refine⟨cl,?_,h2,h3⟩
 unfold closureFor
 simp only[bind_pure]
 exact h1
theorem zgb {env:Env}:∀ {names:List (Str×NameKind)} {x:Str},names.lookup x=some .free→
  (names.map λ(n,k)=>if (k==NameKind.free&&env.scope.kind==.function&&env.kindOf n==some .cell) then (n,NameKind.cell) else (n,k)).lookup x=some .cell∨
  (names.map λ(n,k)=>if (k==NameKind.free&&env.scope.kind==.function&&env.kindOf n==some .cell) then (n,NameKind.cell) else (n,k)).lookup x=some .free
 | [],_,h=>by simp at h
 | (n,k)::r,x,h=>by
  have ih:=@zgb env r x
  rw[Val]
  cases hx:x==n with
  | true=>
   rw[Van,hx] at h
   have hk:k=.free:=Option.some.inj h
   subst hk
   dsimp only
   split
   ·left; simp[Van,hx]
   ·right; simp[Van,hx]
  | false=>
   rw[Van,hx] at h
   dsimp only
   split
   ·simp only[Van,hx]; exact ih h
   ·simp only[Van,hx]; exact ih h
theorem zgc {env:Env}:∀ {names:List (Str×NameKind)} {x:Str},(∀y∈names,y.2≠.cell)→
  ((names.map λ(n,k)=>if (k==NameKind.free&&env.scope.kind==.function&&env.kindOf n==some .cell) then (n,NameKind.cell) else (n,k)).lookup x=some .cell∨
  (names.map λ(n,k)=>if (k==NameKind.free&&env.scope.kind==.function&&env.kindOf n==some .cell) then (n,NameKind.cell) else (n,k)).lookup x=some .free)→names.lookup x=some .free
 | [],_,_,h=>by simp at h
 | (n,k)::r,x,hc,h=>by
  have ih:=@zgc env r x λy hy=>hc y (VaE _ hy)
  rw[Val] at h
  cases hx:x==n with
  | true=>
   rw[Van,hx]
   dsimp only at h
   split at h
   ·rename_i q
    simp only[Bool.and_eq_true] at q
    have hk:k=.free:=by simpa using q.1.1
    rw[hk]
   ·simp only[Van,hx] at h
    rcases h with h | h
    ·exact absurd (Option.some.inj h) (hc (n,k) VaQ)
    ·exact h
  | false=>
   rw[Van,hx]
   dsimp only at h
   split at h
   ·simp only[Van,hx] at h; exact ih h
   ·simp only[Van,hx] at h; exact ih h
abbrev Cx.comp (X:Cx)(sc:Scope)(N:List Str)(cl:List (Str×Addr))(C:Addr)(s0:Shared)(H0:Hp)(fp:List Addr)(pn:List (Addr×Obj)):Cx:=
 { X with N:=N,env:=compEnvC sc cl C X.env,s₀:=s0,H₀:=H0,outer:=X.stack,stack:=X.stack,ex:=fp,fn:=λ_=>false,pn:=pn,xe:=λ_ _=>False }
def zaC (caps:List Nat)(σ:St):St:=caps.map λj=>(σ[j]?).join
def zbj (caps:List Nat)(dl:Ev):Ev:=caps.map λj=>(dl[j]?).join
def zga (caps:List Nat)(wi:TI)(tc:TT)(te:TE):TE:=λσ H Q=>wi σ H λJ H1=>∀D,H1 D=none→∃W:Nat→Nat→Hp→Prop,(∃m,W 0 m (upd H1 D (.lst [])))∧∀i m H,W i m H→
 (J.stop i H∧Q (.ref D) H)∨(J.go i H∧∀x H',J.yld i H x H'→tc (some x::zaC caps σ) H' λb H2=>if b=true then te (some x::zaC caps σ) H2 λy H3=>∃ys,H3 D=some (.lst ys)∧ys.length<sizeLine∧∃m',m'<m∧W (i+1) m' (upd H3 D (.lst (ys++[y])))
  else ∃m',m'<m∧W (i+1) m' H2)
def PTs (Y:Cx)(ifs:List Expr)(tc:TT):Prop:=∀(pins:List (Addr×Obj)) (s:Shared) (σ:St) (H:Hp) (Q:Bool→Hp→Prop),Inv Y pins σ H s→tc σ H Q→
 wpAny (model Y.prog Y.w) Y.A (forIn ifs true λc r=>if r=true then do let ok ← isTrue c Y.env (eval c Y.env); pure (ForInStep.yield ok) else pure (ForInStep.yield r)) (TP Y pins σ Q) Y.xe s
theorem zkn {Y:Cx}:PTs Y [] (λ_ H Q=>Q true H):=λ_ _ _ H _ I h=>wpAny_tests_nil ⟨H,I,h⟩
section
variable {X:Cx}{pins:List (Addr×Obj)}{σ:St}{H:Hp}{s:Shared}
theorem zlv {sc:Scope}{x:Str}{N:List Str}{caps:List Nat}{cl:List (Str×Addr)}{fp:List Addr}{h1:Heap}{m:Str→Option Value}{tk:Nat}(I:Inv X pins σ H s)(cs:zc5 sc X.env.scope x N)
  (hN:∀(j:Nat) (y:Str),N[j]?=some y→∃i,caps[j]?=some i∧X.N[i]?=some y)(hlen:caps.length=N.length)
  (c1:∀x c,cl.lookup x=some c→X.env.cells.lookup x=some c)(c2:∀y∈sc.names,y.2=.free→cl.lookup y.1=X.env.cells.lookup y.1)
  (hf:∀b∈fp,za2 X pins H b)(hfo:∀b∈fp,b<s.heap.objs.size)(hns:h1.Ns s.heap.objs.size m)(hk:∀b o,s.heap.get? b=some o→h1.get? b=some o):
  Inv (Cx.comp X sc (x::N) cl s.heap.objs.size s H fp (X.pn++pins)) [] (none::zaC caps σ) H { s with heap:=h1,toks:=tk }:=by
 have stk:∀b∈frs X.stack,b=X.env.locals∨b∈X.fs:=λb hb=>Vam.mp (I.stkSub b hb)
 refine⟨⟨I.ok.mod,cs.kind,I.ok.glob,I.ok.blt,Vaa _,λa b c h1 h2=>I.ok.inj a b c (c1 _ _ h1) (c1 _ _ h2),λy hy=>?_,λ_ _ z=>Bool.noConfusion z,I.ok.hd,I.ok.frames,.inl rfl,λb hb=>⟨Vai (hfo b hb),λy c e=>(hf b hb).2.2.2.2.1 y c (c1 _ _ e)⟩,
  I.bs,Vau I.ok.bsz I.sz,λb o e hb=>?_,λb hb z=>?_,I.stack,I.stkFree⟩,rfl,I.bare,Un.kept hk,⟨m,hns,λi y v e1 e2 e3=>?_⟩,λy c e=>?_,I.hok.fresh (Vaa _),λy c e=>I.freeC y c (c1 _ _ e),λp hp=>?_,I.hok.kept hk,?_⟩
 ·have hfr:sc.names.lookup y=some .free:=zgc cs.nocell hy
  have hm:=zdR hfr
  obtain⟨c,e⟩:=I.ok.has y (.inl (cs.out _ hm rfl))
  exact⟨c,(c2 _ hm rfl).trans e⟩
 ·rcases (hf b hb).2.2.2.1 with z | z
  ·exact I.ok.noex b o e z
  ·exact absurd (Vas (Heap.lt_size (I.ok.bs b o e).1) z) (Vav _)
 ·rcases stk b z with z | z
  ·exact(hf b hb).2.1 z
  ·exact(hf b hb).2.2.1 z
 ·cases i with
  | zero=>simp at e2
  | succ i=>
   have e1':N[i]?=some y:=by simpa using e1
   obtain⟨j,hj,hy⟩:=hN i y e1'
   have e2':σ[j]?=some (some v):=by
    simp only[List.getElem?_cons_succ,zaC,Vad,hj,Option.map_some,Option.some.injEq] at e2
    cases q:σ[j]? with
    | none=>rw[q] at e2; cases e2
    | some o=>rw[q] at e2; simp at e2; rw[e2]
   have hfr:sc.names.lookup y=some .free:=cs.cap y (Vag e1')
   have hm:=zdR hfr
   have hce:X.env.scope.names.lookup y=some .cell:=cs.out _ hm rfl
   obtain⟨m0,_,hl⟩:=I.loc
   obtain⟨u,r,l⟩:=hl j y v hy e2' (.inr (.inl hce))
   refine⟨u,r,.inr ⟨zgb hfr,?_⟩⟩
   rcases l with ⟨k,_⟩ | ⟨_,c,ec,hcell⟩
   ·rw[show X.env.kindOf y=some .cell from hce] at k; cases k
   ·exact⟨c,(c2 _ hm rfl).trans ec,hcell.keeps hk⟩
 ·obtain⟨v,z⟩:=I.cell y c (c1 _ _ e)
  exact⟨v,z.keeps hk⟩
 ·have hp':p∈X.pn++pins:=by simpa using hp
  obtain⟨p1,p2,p3,p4,p5⟩:=I.pin p hp'
  refine⟨hk _ _ p1,p2,Vai (Heap.lt_size p1),λz=>?_,p5⟩
  rcases stk _ z with z | z
  ·exact p3 z
  ·exact p4 z
 ·simp[zaC,hlen]
end
section
variable {X:Cx}{elt iter:Expr}{x:Str}{px pos:Pos}{ifs:List Expr}{sc:Scope}{N:List Str}{caps:List Nat}{wi:TI}{tc:TT}{te:TE}
structure zio (X:Cx)(pins:List (Addr×Obj))(σ:St)(C:Addr)(Q:VK)(D:Addr)(s':Shared):Prop where
 q:∃H',Inv X pins σ H' s'∧Q (.ref D) H'∧H' C=none
 ns:∃m,s'.heap.Ns C m
 loc:C≠X.env.locals
 old:X.s₀.heap.objs.size≤C
 cell:∀x c,X.env.cells.lookup x=some c→c≠C
 pin:∀p∈X.pn++pins,p.1≠C
theorem zjG {use:Option (Value→Sem Unit)}{Qr:Value→Shared→Prop}(hc:X.calm=true)(cs:zc5 sc X.env.scope x N)(hN:∀(j:Nat) (y:Str),N[j]?=some y→∃i,caps[j]?=some i∧X.N[i]?=some y)(hlen:caps.length=N.length)(hnd:(x::N).Nodup)
  (hi:PI X (.Name x px) iter wi)(ht:∀cl C s0 H0 fp pn,PTs (Cx.comp X sc (x::N) cl C s0 H0 fp pn) ifs tc)(he:∀cl C s0 H0 fp pn,PE (Cx.comp X sc (x::N) cl C s0 H0 fp pn) elt te)
  (hs:∀y,foldedSetIterable iter X.env y=pure y)
  {pins:List (Addr×Obj)}{s:Shared}{σ:St}{H:Hp}{Q:VK}{p2:Pos}(I:Inv X pins σ H s)(h:zga caps wi tc te σ H Q)
  (fin:∀D C s',zio X pins σ C Q D s'→compPost (model X.prog X.w) X.A X.xe use Qr (.ref D) C (.ok .next) s'):
  wpAny (model X.prog X.w) X.A (comprehension (.ListComp elt [⟨.Name x px,iter,ifs,0⟩] sc pos) sc X.env p2 (newList []) false (eval iter X.env) use) Qr X.xe s:=by
 obtain⟨cl,k1,k2,k3⟩:=zgY (sc:=sc) (env:=X.env) λy hy hf=>I.ok.has y.1 (.inl (cs.out y hy hf))
 refine wpAny_comprehension_free rfl hs k1 cs.kind cs.own (thn (hi pins s σ H _ I h) λv s1 h1=>thn h1 λitv s2 h2=>?_)
 obtain⟨it,fp,tn,J,H2,e,I2,T,st2,f2,body⟩:=h2
 subst e
 have hfo:∀b∈fp,b<s2.heap.objs.size:=λb hb=>by
  obtain⟨o,e,_⟩:=T.obj _ _ st2 b hb
  exact Heap.lt_size e
 have hD:H2 s2.heap.objs.size=none:=I2.hok.fresh (Vaa _)
 obtain⟨W,⟨m0,w0⟩,turn⟩:=body _ hD
 refine wpAny_newObj_type ?_
 have I3:Inv X pins σ (upd H2 s2.heap.objs.size (.lst [])) { s2 with heap:=s2.heap.push { cls:=.type "list",dict:=none,data:=.seq ([]:List Value).toArray },toks:=s2.toks }:=
  I2.laid (t':=s2.toks) (λb u e=>Heap.get?_push_of_some _ e) (Vaa _) ⟨Vaj _,[],0,.nil,Heap.get?_push_size _ rfl⟩
 generalize hs3:({ s2 with heap:=s2.heap.push { cls:=.type "list",dict:=none,data:=.seq ([]:List Value).toArray },toks:=s2.toks }:Shared)=s3 at I3
 have es3:({ s2 with heap:=s2.heap.push { cls:=.type "list",dict:=none,data:=.seq ([]:List Value).toArray } }:Shared)=s3:=hs3
 try rw[es3]
 have f3:∀b∈fp,za2 X pins (upd H2 s2.heap.objs.size (.lst [])) b:=λb hb=>⟨by rw[zav (Vai (hfo b hb))]; exact(f2 b hb).1,(f2 b hb).2⟩
 have up3:∀b o,s2.heap.get? b=some o→s3.heap.get? b=some o:=λb o e=>by rw[← hs3]; exact Heap.get?_push_of_some _ e
 have st3:tn 0 s3.heap:=T.keep _ _ _ st2 λb _ o e=>up3 b o e
 have hfo3:∀b∈fp,b<s3.heap.objs.size:=λb hb=>by
  obtain⟨o,e,_⟩:=T.obj _ _ st3 b hb
  exact Heap.lt_size e
 refine wpAny_newFunctionEnv cs.nocell (λy hy=>by simp at hy) (λh4 ns4 sb4=>?_) cs.kind
 have hk4:∀b o,s3.heap.get? b=some o→h4.get? b=some o:=λb o e=>(sb4.2 b (Vai (Heap.lt_size e))).trans (Heap.get?_push_of_some _ e)
 have I4:=zlv (tk:=s3.toks+([]:List (Str×Value)).length) I3 cs hN hlen k2 k3 f3 hfo3 ns4 hk4
 generalize hs4:({ s3 with heap:=h4,toks:=s3.toks+([]:List (Str×Value)).length }:Shared)=s4 at I4 ⊢
 have eh4:s4.heap=h4:=by rw[← hs4]
 have st4:tn 0 s4.heap:=by rw[eh4]; exact T.keep _ _ _ st3 λb _ o e=>hk4 b o e
 have fY:∀ {H':Hp},(∀b∈fp,H' b=none)→∀b∈fp,za2 (Cx.comp X sc (x::N) cl s3.heap.objs.size s3 (upd H2 s2.heap.objs.size (.lst [])) fp (X.pn++pins)) [] H' b:=λhn b hb=>by
  obtain⟨_,z2,z3,z4,z5,z6⟩:=f3 b hb
  refine⟨hn b hb,Vai (hfo3 b hb),λz=>?_,.inl hb,λy c e=>z5 y c (k2 _ _ e),λp hp=>z6 p (by simpa using hp)⟩
  rcases Vam.mp (I3.stkSub b z) with z | z
  ·exact z2 z
  ·exact z3 z
 have locY:(Cx.comp X sc (x::N) cl s3.heap.objs.size s3 (upd H2 s2.heap.objs.size (.lst [])) fp (X.pn++pins)).env.scope.names.lookup x=some .local:=lookup_relabel_local cs.loc
 have loop:codeAny (model X.prog X.w) X.A (.compLoop (.ListComp elt [⟨.Name x px,iter,ifs,0⟩] sc pos) 0 (.ref it) (.ref s2.heap.objs.size) (compEnvC sc cl s3.heap.objs.size X.env))
   (compPost (model X.prog X.w) X.A X.xe use Qr (.ref s2.heap.objs.size) s3.heap.objs.size) s4:=by
  refine codeAny_compLoop_tests (λn s'=>∃i o H',Inv (Cx.comp X sc (x::N) cl s3.heap.objs.size s3 (upd H2 s2.heap.objs.size (.lst [])) fp (X.pn++pins)) [] (o::zaC caps σ) H' s'∧tn i s'.heap∧(∀b∈fp,H' b=none)∧W i n H') ?_ m0
   ⟨0,none,_,I4,st4,λb hb=>(f3 b hb).1,w0⟩
  rintro n s5 ⟨i,o,H5,I5,st5,fr5,w5⟩
  rcases turn i n H5 w5 with ⟨stop,q⟩ | ⟨go,step⟩
  ·refine thn (T.done (Cx.comp X sc (x::N) cl s3.heap.objs.size s3 (upd H2 s2.heap.objs.size (.lst [])) fp (X.pn++pins)) rfl rfl rfl hc i [] s5 _ H5 _ I5 (fY fr5) st5 stop) λr s6 ⟨hr,I6⟩=>?_
   subst hr
   refine fin _ _ _ ⟨⟨H5,I3.call' I6.os I6.base I6.hok I6.bare (λb hb=>?_),q,I6.free⟩,?_,Nat.ne_of_gt I3.lt,I3.sz,λy c e z=>?_,λp hp z=>?_⟩
   ·obtain⟨_,z2,z3,z4,z5,z6⟩:=f3 b hb
    exact⟨z4,z2,z5,z6⟩
   ·obtain⟨m,hm,_⟩:=I6.loc
    exact⟨m,hm⟩
   ·obtain⟨v,hv⟩:=I3.cell y c e
    exact absurd (z ▸ hv.lt) (Vav _)
   ·exact absurd (z ▸ Heap.lt_size (I3.pin p hp).1) (Vav _)
  ·refine thn (T.item (Cx.comp X sc (x::N) cl s3.heap.objs.size s3 (upd H2 s2.heap.objs.size (.lst [])) fp (X.pn++pins)) rfl rfl rfl hc i [] s5 _ H5 _ I5 (fY fr5) st5 go) λr s6 ⟨u,hr,h6⟩=>?_
   subst hr
   show wpAny _ _ (letOwnedTupleGo (.Name x px) (.ref it) u >>= λ_=>assign (.Name x px) (compEnvC sc cl s3.heap.objs.size X.env) u) _ _ s6
   refine wpAny_bind (thn h6 λ_ s7 ⟨y,H7,I7,r7,y7,st7,fr7⟩=>?_)
   have I7':=I7.pinned (fY fr7) (T.obj _ _ st7)
   refine wpAny_mono (zfV (X:=Cx.comp X sc (x::N) cl s3.heap.objs.size s3 (upd H2 s2.heap.objs.size (.lst [])) fp (X.pn++pins)) (pos:=px) hnd (i:=0) rfl (.inl locY) (.inr locY) _ s7 _ H7 y u (λσ8 H8=>σ8=some y::zaC caps σ∧H8=H7) I7' r7 ⟨rfl,rfl⟩) (λ_ s8 ⟨σ8,H8,I8,e8,e8'⟩=>?_) λ_ _ z=>z.elim
   subst e8
   subst e8'
   have stay:∀ {H':Hp} {s':Shared},Inv (Cx.comp X sc (x::N) cl s3.heap.objs.size s3 (upd H2 s2.heap.objs.size (.lst [])) fp (X.pn++pins)) ([]++zcU fp s7.heap) (some y::zaC caps σ) H' s'→∀m',m'<n→W (i+1) m' H'→
     ∃m,m<n∧∃i o H',Inv (Cx.comp X sc (x::N) cl s3.heap.objs.size s3 (upd H2 s2.heap.objs.size (.lst [])) fp (X.pn++pins)) [] (o::zaC caps σ) H' s'∧tn i s'.heap∧(∀b∈fp,H' b=none)∧W i m H':=λ{H' s'} J m' hm w'=>by
    refine⟨m',hm,i+1,some y,H',J.unpinned,T.keep _ _ _ st7 λb hb o e=>(J.pin (b,o) (VaB _ (VaB _ (zcX hb e)))).1,λb hb=>?_,w'⟩
    obtain⟨o,e,d⟩:=T.obj _ _ st7 b hb
    exact(J.pin (b,o) (VaB _ (VaB _ (zcX hb e)))).2.1
   refine wpAny_mono (ht _ _ _ _ _ _ _ s8 _ H8 _ I8 (step y H8 y7)) (λb s9 ⟨H9,I9,q9⟩=>?_) λ_ _ z=>z.elim
   cases b with
   | false=>
    rw[if_neg Var] at q9 ⊢
    obtain⟨m',hm,w9⟩:=q9
    exact stay I9 m' hm w9
   | true=>
    rw[if_pos rfl] at q9 ⊢
    refine wpAny_mono (he _ _ _ _ _ _ _ s9 _ H9 _ I9 q9) (λu2 s10 ⟨z,H10,I10,r10,q10⟩=>?_) λ_ _ z=>z.elim
    obtain⟨ys,hD10,hlt,m',hm,w10⟩:=q10
    refine wpAny_mono (zgE (X:=(Cx.comp X sc (x::N) cl s3.heap.objs.size s3 (upd H2 s2.heap.objs.size (.lst [])) fp (X.pn++pins))) _ s10 _ H10 (.ref s2.heap.objs.size) [z] (.ref s2.heap.objs.size) [u2] (λ_ H'=>H'=upd H10 s2.heap.objs.size (.lst (ys++[z]))) I10 rfl (.cons r10 .nil) ⟨_,ys,z,rfl,rfl,hD10,hlt,rfl⟩) (λ_ s11 ⟨_,H11,I11,_,e11⟩=>?_) λ_ _ z=>z.elim
    subst e11
    exact stay I11 m' hm w10
 exact codeAny_compStart_list loop (T.self _ 0 s4 _ _ st4 loop)
theorem zcP {X:Cx}{caps:List Nat}{N:List Str}(h:caps.map (λi=>X.N[i]?)=N.map some):(∀(j:Nat) (y:Str),N[j]?=some y→∃i,caps[j]?=some i∧X.N[i]?=some y)∧caps.length=N.length:=by
 refine⟨λj y e=>?_,by simpa using congrArg List.length h⟩
 have z:(caps.map (λi=>X.N[i]?))[j]?=some (some y):=by rw[h,Vad,e]; rfl
 rw[Vad] at z
 cases q:caps[j]? with
 | none=>rw[q] at z; cases z
 | some i=>rw[q] at z; exact⟨i,rfl,by simpa using z⟩
theorem zkS (hc:X.calm=true)(cs:zc5 sc X.env.scope x N)(hN:caps.map (λi=>X.N[i]?)=N.map some)(hnd:(x::N).Nodup)
  (hi:PI X (.Name x px) iter wi)(ht:∀cl C s0 H0 fp pn,PTs (Cx.comp X sc (x::N) cl C s0 H0 fp pn) ifs tc)(he:∀cl C s0 H0 fp pn,PE (Cx.comp X sc (x::N) cl C s0 H0 fp pn) elt te)
  (hs:∀y,foldedSetIterable iter X.env y=pure y:=by intro _; rfl):PE X (.ListComp elt [⟨.Name x px,iter,ifs,0⟩] sc pos) (zga caps wi tc te):=by
 intro pins s σ H Q I h
 rw[eval_ListComp]
 refine zjG (use:=none) hc cs (zcP hN).1 (zcP hN).2 hnd hi ht he hs I h λD C s' f=>?_
 obtain⟨⟨H',I',q,hC⟩,⟨m,ns⟩,l,o,c,p⟩:=f
 exact⟨m,ns,λh' sb=>⟨.ref D,H',I'.turned (t':=s'.toks) (λb ob hb e=>(sb.2 b hb).trans e) hC l (.inr o) c p,rfl,q⟩⟩
end
section
variable {X:Cx}{Z:Zx}{elt iter:Expr}{x:Str}{px pos:Pos}{ifs:List Expr}{sc ar:Scope}{N:List Str}{caps:List Nat}
theorem zhM {r:List Addr}{H:Hp}{dl:Ev}{σ:St}{d:D}{v:V}(h:Rs r H dl σ)(p:Rp r H d v):Rs r H (some d::zbj caps dl) (some v::zaC caps σ):=by
 refine⟨by simp[zbj,zaC],λi e hi=>?_⟩
 cases i with
 | zero=>simp at hi; subst hi; exact⟨v,rfl,p⟩
 | succ i=>
  simp only[List.getElem?_cons_succ,zbj,Vad] at hi
  cases q:caps[i]? with
  | none=>rw[q] at hi; cases hi
  | some j=>
   rw[q] at hi
   simp only[Option.map_some,Option.some.injEq] at hi
   have hj:dl[j]?=some (some e):=by
    cases q2:dl[j]? with
    | none=>rw[q2] at hi; cases hi
    | some o=>rw[q2] at hi; simp at hi; rw[hi]
   obtain⟨w,h1,h2⟩:=h.2 j e hj
   refine⟨w,?_,h2⟩
   simp only[List.getElem?_cons_succ,zaC,Vad,q,Option.map_some,h1,Option.join_some]
def PDTs (Y:Cx)(ifs:List Expr)(t:TDT):Prop:=PTs Y ifs (upT Y.K Z0 t)
def zef:TDT:=λ_ S Q=>Q true S
theorem zb3 {Y:Cx}:PDTs Y [] zef:=λpins s σ H Qb I ⟨r,dl,S,Q,rs,rel,q,ret⟩=>zkn pins s σ H Qb I (ret true H r S Ext.refl rel q)
def zfN (caps:List Nat)(tc:TDT)(te:TDE)(k:Nat)(dl:Ev)(d:D)(S:Sto)(nx:Sto→Prop):Prop:=
 tc (some d::zbj caps dl) S λb S1=>if b=true then te (some d::zbj caps dl) S1 λy S2=>match S2[k]? with
  | some (.lst ys)=>ys.length<1000∧nx (S2.set k (.lst (ys++[y])))
  | _=>False
 else nx S1
@[irreducible] def zbD (caps:List Nat)(tl:TDE)(tc:TDT)(te:TDE):TDE:=λdl S Q=>tl dl S λd S1=>match d with
 | .ref n=>(lAt S1 n).isSome=true∧∃W:Nat→Nat→Sto→Prop,(∃m,W 0 m (S1++[.lst []]))∧∀k m S2,W k m S2→match lAt S2 n with
  | some o=>match (zac o)[k]? with
   | some y=>zfN caps tc te S1.length dl y S2 λS3=>∃m',m'<m∧W (k+1) m' S3
   | none=>Q (.ref S1.length) S2
  | none=>False
 | _=>False
theorem zmF {tc:TDT}{te:TDE}{r2:List Addr}{H2:Hp}{S1 S2:Sto}{dl:Ev}{σ:St}{D0:Addr}{d:D}{v:V}{nx:Sto→Prop}{Nx:Hp→Prop}(rs:Rs r2 H2 dl σ)(ha:r2[S1.length]?=some D0)(rb:zaw X.K r2 S2 H2)(p:Rp r2 H2 d v)
  (h:zfN caps tc te S1.length dl d S2 nx)(hn:∀r' S' H',Ext r2 r' H2 H'→zaw X.K r' S' H'→nx S'→Nx H'):
  upT X.K Z0 tc (some v::zaC caps σ) H2 λb H3=>if b=true then up X.K Z0 te (some v::zaC caps σ) H3 λy H4=>∃ys,H4 D0=some (.lst ys)∧ys.length<sizeLine∧Nx (upd H4 D0 (.lst (ys++[y]))) else Nx H3:=by
 have rsY:Rs r2 H2 (some d::zbj caps dl) (some v::zaC caps σ):=zhM rs p
 refine⟨r2,_,S2,_,rsY,⟨rb,λ_ _ _ _ _ _ _ _ _ z=>z.elim⟩,h,λb H3 r3 S3 x3 rel3 q3=>?_⟩
 cases b with
 | false=>rw[if_neg Var] at q3 ⊢; exact hn r3 S3 H3 x3 rel3.b q3
 | true=>
  rw[if_pos rfl] at q3 ⊢
  refine⟨r3,_,S3,_,rsY.ext x3,rel3,q3,λz H4 r4 dz S4 x4 rel4 p4 q4=>?_⟩
  split at q4
  ·rename_i ys eys
   obtain⟨hl,q4⟩:=q4
   have ha4:r4[S1.length]?=some D0:=x4.adr _ _ (x3.adr _ _ ha)
   obtain⟨zs,hD4,pz⟩:=rel4.b.ob _ _ _ ha4 eys
   obtain⟨rel5,x5⟩:=rel4.b.set ha4 eys (pz.snoc p4)
   exact⟨zs,hD4,by rw[← pz.1]; exact zcO (VaG hl),hn r4 _ _ (x3.trans (x4.trans x5)) rel5 q4⟩
  ·exact q4.elim
theorem zel {r:List Addr}{D0:Addr}{n:Nat}(h:r.length=n):(r++[D0])[n]?=some D0:=by subst h; simp
theorem zmX {tl:TDE}{tc:TDT}{te:TDE}{σ:St}{H:Hp}{Qv:VK}(h:up X.K Z (zbD caps tl tc te) σ H Qv):zga caps (zgG X.K (up X.K Z tl)) (upT X.K Z0 tc) (up X.K Z0 te) σ H Qv:=by
 obtain⟨r,dl,S,Q,rs,rel,h,ret⟩:=h
 unfold zbD at h
 refine⟨r,dl,S,_,rs,rel,h,λv H1 r1 d S1 x1 rel1 p1 q1=>?_⟩
 cases p1 with
 | @ref n a hn=>
  obtain⟨hsome,W,⟨m0,w0⟩,turn⟩:=q1
  have sql:∀ {r':List Addr} {S':Sto} {H':Hp} {o:Ob},Ext r1 r' H1 H'→zaw X.K r' S' H'→lAt S' n=some o→∃xs,SqL X.K H' a xs∧Rps r' H' (zac o) xs:=λ{r' S' H' o} x' rel' eo=>by
   obtain⟨eo,eL⟩:=za4 eo
   obtain⟨a',ha,ob⟩:=rel'.at eo
   rw[x'.adr n a hn] at ha; cases ha
   exact ob.list eL
  obtain⟨o1,eo1⟩:=VaF.mp hsome
  obtain⟨xs1,sq1,_⟩:=sql Ext.refl rel1.b eo1
  refine⟨a,rfl,⟨xs1,sq1⟩,λD0 hD=>?_⟩
  obtain⟨rel2,x2⟩:=rel1.b.push (ds:=[]) (xs:=[]) hD Rps.nil
  refine⟨λk m H'=>∃r' S',Ext (r1++[D0]) r' (upd H1 D0 (.lst [])) H'∧zaw X.K r' S' H'∧W k m S',⟨m0,_,_,Ext.refl,rel2,w0⟩,?_⟩
  rintro k m H2 ⟨r2,S2,x3,rb2,w2⟩
  have ha2:r2[S1.length]?=some D0:=x3.adr _ _ (zel rel1.len)
  have q:=turn k m S2 w2
  split at q
  ·rename_i o eo
   obtain⟨xs,sq,pr⟩:=sql (x2.trans x3) rb2 eo
   split at q
   ·rename_i y ey
    obtain⟨v,hv,pv⟩:=pr.get ey
    refine .inr ⟨⟨xs,v,sq,hv⟩,λv' H' y'=>?_⟩
    obtain⟨eH,y'⟩:=y'
    subst eH
    have ev:v'=v:=by
     have z:=y' xs sq
     rw[hv] at z; exact(Option.some.inj z).symm
    subst ev
    have z:=zmF (Nx:=λH'=>∃m',m'<m∧∃r' S',Ext (r1++[D0]) r' (upd H1 D0 (.lst [])) H'∧zaw X.K r' S' H'∧W (k+1) m' S') (rs.ext (x1.trans (x2.trans x3))) ha2 rb2 pv q λr' S' H' x' rb' ⟨m',hm,w'⟩=>⟨m',hm,r',S',x3.trans x',rb',w'⟩
    exact z
   ·rename_i ey
    have hlen:(zac o).length≤k:=VaH.mp ey
    exact .inl ⟨⟨xs,sq,by rw[← pr.1]; exact hlen⟩,ret _ H2 r2 _ S2 (x1.trans (x2.trans x3)) ⟨rb2,rel.xw.ext (x1.trans (x2.trans x3))⟩ (.ref ha2) q⟩
  ·exact q.elim
 | _=>exact(show False from q1).elim
theorem zb9 {tl:TDE}{tc:TDT}{te:TDE}(har:X.env.scope=ar)(hc:X.calm=true)(cs:zc5 sc ar x N)(hN:caps.map (λi=>X.N[i]?)=N.map some)(hnd:(x::N).Nodup)(hl:PD X Z iter tl)
  (ht:∀cl C s0 H0 fp pn,PDTs (Cx.comp X sc (x::N) cl C s0 H0 fp pn) ifs tc)(he:∀cl C s0 H0 fp pn,PD (Cx.comp X sc (x::N) cl C s0 H0 fp pn) Z0 elt te)
  (hs:∀y,foldedSetIterable iter X.env y=pure y:=by intro _; rfl):PD X Z (.ListComp elt [⟨.Name x px,iter,ifs,0⟩] sc pos) (zbD caps tl tc te):=by
 subst har
 exact zaW (zkS hc cs hN hnd (tc:=upT X.K Z0 tc) (te:=up X.K Z0 te) (zfM hl) ht he hs) λ_ _ _ h=>zmX h
theorem zhK {t:TE}{td:TDE}{i:Nat}{F:zci}{σ:St}{H:Hp}(imp:∀Qv,up X.K Z td σ H Qv→t σ H Qv)(h:upS X.K Z (λE dl S=>td dl S λd S1=>E.nx (dl.set i (some d)) S1) F σ H):t σ H λv H1=>F.nx (σ.set i (some v)) H1:=by
 obtain⟨r,dl,S,E,rs,rel,h,ret⟩:=h
 exact imp _ ⟨r,dl,S,_,rs,rel,h,λv H1 r1 d S1 x rel1 p q=>ret.nx _ H1 r1 _ S1 x ((rs.ext x).set i p) rel1 q⟩
@[irreducible] def ze5 (to te:TDE):TDE:=λdl S Q=>to dl S λx S1=>match x with
 | .ref n=>match S1[n]? with
  | some (.lst _)=>te dl S1 λy S2=>match S2[n]? with
   | some (.lst xs)=>if xs.length<1000 then Q .non (S2.set n (.lst (xs++[y]))) else False
   | _=>False
  | _=>False
 | _=>False
theorem zgv {o e:Expr}{to te:TDE}{apos cpos:Pos}(ho:PD X Z o to)(he:PD X Z e te)(hbase:attributeBase o "append" X.env (eval o X.env)=eval o X.env:=by rfl)
  (hfew:((backTo cpos (starEach [e] X.env)).all (λx=>!x.1)&&(backToKw cpos (keywordEach [] X.env)).all (λx=>x.1.isSome)
  &&decide (([e]:List Expr).length+([]:List Keyword).length+(if ([]:List Keyword).isEmpty then 0 else 1)<30))=true:=by rfl)
  (hline:(apos.endLine==cpos.line)=true:=by rfl)(hst:starEach [e] X.env=[(false,eval e X.env)]:=by rfl):
  PD X Z (.Call (.Attribute o "append" apos) [e] [] cpos) (ze5 to te):=
 zaW (zhm PySem.F.plainAttrs_list PySem.F.slot_list_append PySem.F.type_list_append zgE ho (zdJ he zej hst) hbase hfew hline hst rfl) λσ H Qv h=>by
  obtain⟨r,dl,S,Q,rs,rel,h,ret⟩:=h
  unfold ze5 at h
  refine⟨r,dl,S,_,rs,rel,h,λv H1 r1 d S1 x1 rel1 p1 h1=>?_⟩
  cases p1 with
  | @ref n a hn=>
   dsimp only at h1
   split at h1
   ·rename_i xs0 e0
    obtain⟨a',ha,ob⟩:=rel1.at e0
    rw[hn] at ha; cases ha
    obtain⟨ys,hH,_⟩:=ob
    refine⟨.inl ⟨rfl,ys,SqL.of hH⟩,r1,dl,S1,_,rs.ext x1,rel1,h1,λv2 H2 r2 d2 S2 x2 rel2 p2 h2=>?_⟩
    split at h2
    ·rename_i xs1 e1
     obtain⟨hlt,h2⟩:=zfl h2
     have ha2:=x2.adr n a hn
     obtain⟨zs,hH2,pz⟩:=rel2.b.ob n a _ ha2 e1
     obtain⟨rel3,x3⟩:=rel2.set ha2 e1 (pz.snoc p2)
     exact⟨a,zs,v2,rfl,rfl,hH2,by rw[← pz.1]; exact zcO (VaG hlt),ret .non _ r2 .non _ (x1.trans (x2.trans x3)) rel3 .non h2⟩
    ·exact h2.elim
   ·exact h1.elim
  | _=>exact(show False from h1).elim
def zft:WC:=λds S Q=>match ds with
 | [.tup xs]=>Q (.ref S.length) (S++[.lst xs])
 | [.ref n]=>match lAt S n with
  | some o=>Q (.ref S.length) (S++[.lst (zac o)])
  | none=>False
 | _=>False
theorem ziP:zay X (.type "list") (upC X.K Z zft):=ziE zk1 λxs H Qv ⟨r,S,ds,Q,rel,ps,q,ret⟩=>by
 unfold zft at q
 split at q
 ·rename_i ys
  obtain⟨v,vs,rfl,p1,p2⟩:=ps.uncons
  have z:=p2.unnil
  subst z
  obtain⟨a,zs,rfl,h1,h2⟩:=p1.untup
  refine⟨a,zs,rfl,.inr (SqT.of h1),λl hl=>?_⟩
  obtain⟨rel2,x⟩:=rel.push hl h2
  exact ret _ _ _ (.ref S.length) _ x rel2 (zbV rel.len) q
 ·rename_i n
  obtain⟨v,vs,rfl,p1,p2⟩:=ps.uncons
  have z:=p2.unnil
  subst z
  split at q
  ·rename_i o eo
   obtain⟨eo,eL⟩:=za4 eo
   obtain⟨a,ha,ob⟩:=rel.at eo
   cases p1 with
   | ref h1=>
    rw[h1] at ha; cases ha
    obtain⟨ys,sq,pr⟩:=ob.list eL
    refine⟨_,ys,rfl,.inl sq,λl hl=>?_⟩
    obtain⟨rel2,x⟩:=rel.push hl pr
    exact ret _ _ _ (.ref S.length) _ x rel2 (zbV rel.len) q
  ·exact q.elim
 ·exact q.elim
def zbd:List D→Option (List Bool)
 | []=>some []
 | .bl b::r=>(zbd r).map (b::·)
 | _::_=>none
def zc3 (g:List Bool→Bool):WC:=λds S Q=>match ds with
 | [.ref n]=>match lAt S n with
  | some o=>match zbd (zac o) with
   | some bs=>Q (.bl (g bs)) S
   | none=>False
  | none=>False
 | _=>False
theorem zhN {r:List Addr}{H:Hp}:∀ {ds:List D} {bs:List Bool} {vs:List V} {us:List Value},zbd ds=some bs→Rps r H ds vs→zad vs us→us=bs.map Value.bool
 | [],bs,vs,us,e,p,q=>by
  have z:=p.unnil
  subst z
  cases q
  simp[zbd] at e
  subst e
  rfl
 | d::ds,bs,vs,us,e,p,q=>by
  obtain⟨v,vs',rfl,p1,p2⟩:=p.uncons
  cases d with
  | bl b=>
   cases p1
   cases q with
   | cons q1 q2=>
    have q1':_=Value.bool b:=q1
    subst q1'
    simp only[zbd,Vax] at e
    obtain⟨ms,e1,rfl⟩:=e
    rw[zhN e1 p2 q2]
    rfl
  | _=>simp[zbd] at e
theorem zjD {bs:List Bool}:(List.range bs.length).all (λi=>bs.getD i false)=bs.all id:=by
 rw[VaY]
 rw[List.all_eq_true,List.all_eq_true]
 refine⟨λh b hb=>?_,λh i hi=>?_⟩
 ·obtain⟨i,hi,e⟩:=Va1.mp hb
  have hb':=h i (Vaq.mpr hi)
  simpa [hi,e] using hb'
 ·have hi':i<bs.length:=Vaq.mp hi
  have:=h bs[i] (VaC hi')
  simpa [hi'] using this
theorem zlL {bs:List Bool}:(List.range bs.length).any (λi=>bs.getD i false)=bs.any id:=by
 rw[VaY]
 rw[Va2,Va2]
 refine⟨λ⟨i,hi,h⟩=>?_,λ⟨b,hb,h⟩=>?_⟩
 ·have hi':i<bs.length:=Vaq.mp hi
  exact⟨bs[i],VaC hi',by simpa [hi'] using h⟩
 ·obtain⟨i,hi,e⟩:=Va1.mp hb
  exact⟨i,Vaq.mpr hi,by simpa [hi,e] using h⟩
theorem zl1 {prog:Program}{w:World}{A:Around}{bs:List Bool}:TruthOf prog w A (λi v=>(bs.map Value.bool).toArray[i]?=some v) λi=>bs.getD i false:=λi v s Q E hP hQ=>by
  have e:(bs.map Value.bool)[i]?=some v:=by simpa using hP
  rw[Vad] at e
  cases q:bs[i]? with
  | none=>
   rw[q] at e
   cases e
  | some b=>
    rw[q] at e
    have z:Value.bool b=v:=by simpa using e
    subst z
    have z2:bs.getD i false=b:=by simp[Vak,q]
    have hQ':Q (bs.getD i false) s:=hQ
    rw[z2] at hQ'
    exact wpAny_truthy_bool hQ'
theorem zht {n:Nat}{a:Addr}{o:Ob}{bs:List Bool}{pins:List (Addr×Obj)}{σ:St}{H:Hp}{s:Shared}{r:List Addr}{S:Sto}{Q:DK}{Qv:VK}{E:Value→Shared→Prop}{g:List Bool→Bool}(G:List Nat→(Nat→Bool)→Bool)
  (hG:G (List.range bs.length) (λi=>bs.getD i false)=g bs)(hc:X.calm=true)(I:Inv X pins σ H s)(rel:Rel X.K Z r S H)(hn:r[n]?=some a)(eo:lAt S n=some o)(eb:zbd (zac o)=some bs)(q:Q (.bl (g bs)) S)(ret:Ret X.K Z r H Q Qv):
  wpAny (model X.prog X.w) X.A.in1 (pyIter (.ref a)) (λit s₂=>∃I fp wr n P' St tr,it=.ref I∧Walks X.prog X.w X.A.in1 I fp wr n P' St∧St 0 s₂.heap∧TruthOf X.prog X.w X.A.in1 P' tr∧
   ∀h' tk,(∀b o,b ∉ wr→s₂.heap.get? b=some o→h'.get? b=some o)→EP X pins σ Qv (.bool (G (List.range n) tr)) { s₂ with heap:=h',toks:=tk }) E s:=by
 obtain⟨eo,eL⟩:=za4 eo
 obtain⟨a',ha,ob⟩:=rel.at eo
 rw[hn] at ha; cases ha
 obtain⟨ys,sq,pr⟩:=ob.list eL
 obtain⟨its,ri,pl,hz⟩:=I.list sq
 have eits:=zhN eb pr ri
 subst eits
 refine wpAny_pyIter_list pl.isList ?_
 have hne:a≠s.heap.objs.size:=Vai (by
  obtain⟨ob,e,_⟩:=pl.isList
  exact Heap.lt_size e)
 refine⟨s.heap.objs.size,_,_,_,_,_,λi=>bs.getD i false,rfl,Walks.list (show X.A.in1.handled=none from I.ok.hd hc) _ a hne (bs.map Value.bool).toArray,⟨⟨_,Heap.get?_push_size _ rfl,rfl,rfl⟩,pl.isList.at λo e=>Heap.get?_push_of_some _ e⟩,zl1,λh' tk hk=>?_⟩
 have ez:(bs.map Value.bool).toArray.size=bs.length:=by simp
 rw[ez,hG]
 refine⟨.bl (g bs),H,I.kept λb o e=>hk b o (λz=>?_) (Heap.get?_push_of_some _ e),rfl,ret _ _ _ _ _ Ext.refl rel (.bl _) q⟩
 have z':b=s.heap.objs.size:=by simpa using z
 exact absurd (z' ▸ Heap.lt_size e) (Vav _)
theorem ziL {id:String}{g:List Bool→Bool}(rule:∀(pins:List (Addr×Obj)) (σ:St) (H:Hp) (s:Shared) (r:List Addr) (S:Sto) (Q:DK) (Qv:VK) (n:Nat) (a:Addr) (o:Ob) (bs:List Bool),Inv X pins σ H s→Rel X.K Z r S H→r[n]?=some a→lAt S n=some o→zbd (zac o)=some bs→
   Q (.bl (g bs)) S→Ret X.K Z r H Q Qv→wpAny (model X.prog X.w) X.A (call (.builtin id) [.ref a]) (EP X pins σ Qv) X.xe s):zay X (.builtin id) (upC X.K Z (zc3 g)):=by
 intro pins s σ H xs us Qv I rv h
 obtain⟨r,S,ds,Q,rel,ps,q,ret⟩:=h
 unfold zc3 at q
 split at q
 ·rename_i n
  obtain⟨v,vs,rfl,p1,p2⟩:=ps.uncons
  have z:=p2.unnil
  subst z
  split at q
  ·rename_i o eo
   split at q
   ·rename_i bs eb
    cases p1 with
    | ref h1=>
     obtain⟨u,rfl,ru⟩:=zbl rv
     cases ru
     exact rule pins σ H s r S Q Qv n _ o bs I rel h1 eo eb q ret
   ·exact q.elim
  ·exact q.elim
 ·exact q.elim
theorem zkj (hc:X.calm=true):zay X (.builtin "all") (upC X.K Z (zc3 λbs=>bs.all id)):=
 ziL λ_ _ _ _ _ _ _ _ _ _ _ _ I rel h1 eo eb q ret=>call_all_walk (zht (g:=λbs=>bs.all id) (λl f=>l.all f) zjD hc I rel h1 eo eb q ret)
theorem zf9 (hc:X.calm=true):zay X (.builtin "any") (upC X.K Z (zc3 λbs=>bs.any id)):=
 ziL λ_ _ _ _ _ _ _ _ _ _ _ _ I rel h1 eo eb q ret=>call_any_walk (zht (g:=λbs=>bs.any id) (λl f=>l.any f) zlL hc I rel h1 eo eb q ret)
@[irreducible] def irr (w:WC):WC:=w
@[irreducible] def zbA (w:W2):W2:=w
theorem zcB (w:WC):irr w=w:=by unfold irr; rfl
theorem zbS (w:W2):zbA w=w:=by unfold zbA; rfl
theorem zaU {f:Value}{w:WC}(h:zay X f (upC X.K Z w)):zay X f (upC X.K Z (irr w)):=by rw[zcB]; exact h
theorem zaQ {a b:Expr}{ta tb:TDE}(ha:PD X Z a ta)(hb:PD X Z b tb)(hs:zgC b):PD X Z (.Subscript a b pos) (dOp (zbA wIx) ta tb):=by rw[zbS]; exact zaT ha hb hs
theorem zal (S:Sto)(o:Ob):(S++[o])[S.length]?=some o:=by simp
theorem zfq {S:Sto}{o u:Ob}{n:Nat}(h:S[n]?=some o):(S++[u])[n]?=some o:=by
 rw[Vap (Vac.mp h).1]; exact h
theorem zea {tl te:TDE}{dl:Ev}{S S1:Sto}{Q:DK}{n:Nat}{o:Ob}(g:D→D)(htl:∀K:DK,K (.ref n) S1→tl dl S K)(h1:S1[n]?=some o)(hl:(zac o).length≤1000)
  (ht:∀x∈zac o,∀(S2:Sto) (K:DK),Pre S1 S2→K (g x) S2→te (some x::zbj caps dl) S2 K)(hq:Q (.ref S1.length) (S1++[.lst ((zac o).map g)]))(hL:zbm o=some o:=by rfl):zbD caps tl zef te dl S Q:=by
 unfold zbD
 refine htl _ ⟨by rw[zaq h1 hL]; rfl,λk m S2=>S2=S1++[.lst (((zac o).take k).map g)]∧m+k=(zac o).length,⟨(zac o).length,by simp,by omega⟩,?_⟩
 rintro k m S2 ⟨rfl,hm⟩
 rw[zaq (zfq h1) hL]
 dsimp only
 split
 ·rename_i x hx
  have hk:k<(zac o).length:=(Vac.mp hx).1
  unfold zfN zef
  simp only[if_true]
  refine ht x (Vag hx) _ _ Pre.refl.push ?_
  rw[zal]
  refine⟨by simp; omega,m-1,by omega,?_,by omega⟩
  have e:(zac o).take (k+1)=(zac o).take k++[x]:=by rw[List.take_succ,hx]; rfl
  rw[e,VaM,List.set_append_right _ _ (Vaa _)]
  simp
 ·rename_i hx
  have hk:(zac o).length≤k:=VaH.mp hx
  rw[Vaw hk]
  exact hq
theorem zlu {o:Ob}{bs:List Bool}(h:zbd (zac o)=some bs):zbm o=some o:=by
 cases o <;> first | rfl | cases h
theorem zeM {g:List Bool→Bool}{n:Nat}{S:Sto}{o:Ob}{bs:List Bool}{Q:DK}(h:S[n]?=some o)(hb:zbd (zac o)=some bs)(hq:Q (.bl (g bs)) S):irr (zc3 g) [.ref n] S Q:=by
 rw[zcB]
 unfold zc3
 simp only[zaq h (zlu hb),hb]
 exact hq
theorem zik {n:Nat}{S:Sto}{o:Ob}{Q:DK}(h:lAt S n=some o)(hq:Q (.ref S.length) (S++[.lst (zac o)])):irr zft [.ref n] S Q:=by
 rw[zcB]
 unfold zft
 simp only[h]
 exact hq
theorem zgf {to te:TDE}{dl:Ev}{S S1:Sto}{Q:DK}{n:Nat}{xs:List D}{y:D}(hto:∀K:DK,K (.ref n) S1→to dl S K)(h:S1[n]?=some (.lst xs))(hte:∀K:DK,K y S1→te dl S1 K)(hl:xs.length<1000)(hq:Q .non (S1.set n (.lst (xs++[y])))):ze5 to te dl S Q:=by
 unfold ze5
 refine hto _ ?_
 simp only[h]
 refine hte _ ?_
 simp only[h]
 exact ifP hl hq
end
end L3
namespace L3
open PySem PySem.Spec PyProof.Rows L2 PySem.W Builtin Builtin.ObjectAttr Builtin.Getset_descriptor
structure Nx (K:Frag)(D:Addr):Prop where
 ga:findIn K (.ref D) "__getattribute__"=some (some (.builtin "BaseException.__getattribute__"))
 hk:findIn K (.ref D) "__getattr__"=some none
 ha:findIn K (.ref D) "__class__"=some (some (.builtin "object.__class__"))
 hn:specialIn K (.builtin "object.__class__") "__get__"=some (some (.builtin "getset_descriptor.__get__"))
 ht:takesIn K (.builtin "object.__class__")=some true
 hm:mroIn K D (.type "object")=some true
 hb:mroIn K D (.type "BaseException")=some true
section
variable {X:Cx}{Z:Zx}
end
def eqN:Nat→D→D→Option Bool
 | 0=>eqF
 | k+1=>eqT (eqN k)
theorem ziu:∀k,zcZ (eqN k)
 | 0=>zcQ
 | k+1=>zh1 (ziu k)
theorem zdg:∀k,zcl k (eqN k)
 | 0=>zfk 0
 | k+1=>zi0 (zdg k) (ziu k)
def zcf (k:Nat)(S:Sto):D→D→Option Bool
 | .ref n,.ref m=>match lAt S n,lAt S m with
  | some o,some o'=>eqL (eqN k) (zac o) (zac o')
  | _,_=>none
 | x,y=>eqN (k+1) x y
def zcy (k:Nat):W2:=λx y S Q=>match zcf k S x y with
 | some b=>Q (.bl b) S
 | none=>False
def zcF (k:Nat):W2:=λx y S Q=>match zcf k S x y with
 | some b=>Q (.bl (!b)) S
 | none=>False
section
variable {X:Cx}{Z:Zx}
theorem zj8 {k n m:Nat}{a a':Addr}{o o':Ob}{b:Bool}{pins:List (Addr×Obj)}{σ:St}{H:Hp}{s:Shared}{r:List Addr}{S:Sto}(I:Inv X pins σ H s)(rel:Rel X.K Z r S H)(hn:r[n]?=some a)(hm:r[m]?=some a')(eo:lAt S n=some o)(eo':lAt S m=some o')
  (e:eqL (eqN k) (zac o) (zac o')=some b)(hu:X.A.units+1+k<cLine):SeqAt.RcAt X.A s (.ref a) (.ref a') b:=by
 obtain⟨eo,eL⟩:=za4 eo
 obtain⟨eo',eL'⟩:=za4 eo'
 obtain⟨z,hz,ob⟩:=rel.at eo
 rw[hn] at hz; cases hz
 obtain⟨z,hz,ob'⟩:=rel.at eo'
 rw[hm] at hz; cases hz
 obtain⟨xs,sq,pr⟩:=ob.list eL
 obtain⟨ys,sq',pr'⟩:=ob'.list eL'
 obtain⟨is,ri,pl,_⟩:=I.list sq
 obtain⟨js,rj,pl',_⟩:=I.list sq'
 obtain⟨g1,g2⟩:=zdL (A:=X.A.in1) (zdg k) I (by show X.A.units+1+k<_; omega) pr pr' ri rj e
 by_cases hs:is.toArray.size=js.toArray.size
 ·have q:=SeqAt.RcAt.lists (A:=X.A) pl.isList pl'.isList hs (by omega) g1
  have e2:(List.range is.toArray.size).all (zbq (eqN k) (zac o) (zac o'))=b:=by
   rw[← g2,← hs,Nat.min_self]; simp
  rw[e2] at q
  exact q
 ·have q:=SeqAt.RcAt.lists_lengths (A:=X.A) pl.isList pl'.isList (by simpa using hs) (by omega)
  have e2:b=false:=by
   rw[← g2,show (is.toArray.size==js.toArray.size)=false by simpa using hs,Bool.and_false]
  rw[e2]
  exact q
theorem zl0 (k:Nat){j:Nat}(hr:zat j X.A)(hu:X.A.units+1+k<cLine):OpR X (compareOp .Eq) (upO X.K Z (zcy k)):=by
 intro pins s σ H x y v u Qv I rx ry h
 obtain⟨r,S,dx,dy,Q,rel,px,py,q,ret⟩:=h
 have flat:∀ {dx dy:D} {x y:V},Rp r H dx x→Rp r H dy y→zag x v→zag y u→zcf k S dx dy=eqN (k+1) dx dy→zcy k dx dy S Q→wpAny (model X.prog X.w) X.A (compareOp .Eq v u) (EP X pins σ Qv) X.xe s:=λpx py rx ry e q=>by
  refine zhk (Z:=Z) (zdg k) hu pins s σ H _ _ v u Qv I rx ry ⟨r,S,_,_,Q,rel,px,py,?_,ret⟩
  unfold zcy at q
  rw[e] at q
  exact q
 cases px with
 | @ref n a hn=>
  cases py with
  | @ref m a' hm=>
   cases rx
   cases ry
   unfold zcy zcf at q
   dsimp only at q
   split at q
   ·rename_i b e
    split at e
    ·rename_i o o' eo eo'
     exact zj8 I rel hn hm eo eo' e hu X.prog X.w X.xe _ ⟨.bl b,H,I,rfl,ret _ _ _ _ _ Ext.refl rel (.bl b) q⟩
    ·cases e
   ·exact q.elim
  | non=>exact flat (.ref hn) .non rx ry rfl q
  | bl i=>exact flat (.ref hn) (.bl i) rx ry rfl q
  | int i=>exact flat (.ref hn) (.int i) rx ry rfl q
  | str i=>exact flat (.ref hn) (.str i) rx ry rfl q
  | tup a b c=>exact flat (.ref hn) (.tup a b c) rx ry rfl q
  | exc a=>exact flat (.ref hn) (.exc a) rx ry rfl q
 | non=>exact flat .non py rx ry rfl q
 | bl i=>exact flat (.bl i) py rx ry rfl q
 | int i=>exact flat (.int i) py rx ry rfl q
 | str i=>exact flat (.str i) py rx ry rfl q
 | tup a b c=>exact flat (.tup a b c) py rx ry rfl q
 | exc a=>exact flat (.exc a) py rx ry rfl q
def zcq (f:D→D→Option Bool):List D→D→Option Bool
 | [],_=>some false
 | y::ys,x=>match f y x,zcq f ys x with
  | some b,some c=>some (b||c)
  | _,_=>none
def wIn (k:Nat)(neg:Bool):W2:=λx y S Q=>match y with
 | .ref n=>match lAt S n with
  | some o=>match zcq (eqN k) (zac o) x with
   | some b=>Q (.bl (if neg then !b else b)) S
   | none=>False
  | none=>False
 | _=>False
theorem zju {v v':V}{u:Value}(h:zag v u)(h':zag v' u):v=v':=by
 cases v <;> cases v' <;> simp[L2.zag] at h h' <;> first
  | rfl
  | (subst h; simp at h'; subst h'; rfl)
  | (obtain⟨t,rfl⟩:=h; simp at h'; subst h'; rfl)
  | (obtain⟨t,rfl⟩:=h; simp at h')
  | (subst h; simp at h')
  | skip
theorem zdN {r:List Addr}{H:Hp}{d d' x:D}{v:V}{b b':Bool}(p:Rp r H d v)(p':Rp r H d' v)(e:eqF d x=some b)(e':eqF d' x=some b'):b=b':=by
 have z:d=d':=by
  cases p <;> cases p' <;> first
   | rfl
   | (cases x <;> simp[eqF] at e)
   | (cases x <;> simp[eqF] at e')
 subst z
 rw[e] at e'
 exact Option.some.inj e'
theorem ziM {f:D→D→Option Bool}{r:List Addr}{H:Hp}(hf:∀(d d' x:D) (v:V) (b b':Bool),Rp r H d v→Rp r H d' v→f d x=some b→f d' x=some b'→b=b'):
  ∀ {ds ds' zs:List D} {vs:List V} {b b':Bool},Rps r H ds vs→Rps r H ds' vs→eqL f ds zs=some b→eqL f ds' zs=some b'→b=b'
 | [],ds',zs,vs,b,b',p,p',e,e'=>by
  have z:=p.unnil
  subst z
  cases ds' with
  | nil=>rw[e] at e'; exact Option.some.inj e'
  | cons y ys=>exact absurd p'.1 (by simp)
 | d::ds,ds',zs,vs,b,b',p,p',e,e'=>by
  obtain⟨v,vs',rfl,p1,p2⟩:=p.uncons
  cases ds' with
  | nil=>exact absurd p'.1 (by simp)
  | cons d' ds'=>
   obtain⟨q1,q2⟩:=p'.tail
   cases zs with
   | nil=>
    simp only[eqL,Option.some.injEq] at e e'
    exact e.symm.trans e'
   | cons z zs=>
    unfold eqL at e e'
    split at e
    ·rename_i b1 c1 a1 a2
     split at e'
     ·rename_i b2 c2 a3 a4
      have h1:=hf d d' z v b1 b2 p1 q1 a1 a3
      have h2:=ziM hf p2 q2 a2 a4
      subst h1 h2
      simp only[Option.some.injEq] at e e'
      exact e.symm.trans e'
     ·cases e'
    ·cases e
theorem ziK:∀(k:Nat) {r:List Addr} {H:Hp} (d d' x:D) (v:V) (b b':Bool),Rp r H d v→Rp r H d' v→eqN k d x=some b→eqN k d' x=some b'→b=b'
 | 0,r,H,d,d',x,v,b,b',p,p',e,e'=>zdN p p' e e'
 | k+1,r,H,d,d',x,v,b,b',p,p',e,e'=>by
  cases p with
  | tup h1 l1 f1=>
   cases p' with
   | tup h2 l2 f2=>
    rw[h1] at h2; cases h2
    cases x with
    | tup zs=>exact ziM (λd d' x v b b'=>ziK k d d' x v b b') ⟨l1,f1⟩ ⟨l2,f2⟩ e e'
    | _=>simp[eqN,eqT,eqF] at e
   | ref h=>cases x <;> simp[eqN,eqT,eqF] at e'
   | exc h=>cases x <;> simp[eqN,eqT,eqF] at e'
  | non=>exact zdN (x:=x) .non p' (by cases x <;> exact e) (by cases p' <;> cases x <;> exact e')
  | bl i=>exact zdN (x:=x) (.bl i) p' (by cases x <;> exact e) (by cases p' <;> cases x <;> exact e')
  | int i=>exact zdN (x:=x) (.int i) p' (by cases x <;> exact e) (by cases p' <;> cases x <;> exact e')
  | str i=>exact zdN (x:=x) (.str i) p' (by cases x <;> exact e) (by cases p' <;> cases x <;> exact e')
  | ref h=>cases x <;> simp[eqN,eqT,eqF] at e
  | exc h=>cases x <;> simp[eqN,eqT,eqF] at e
theorem ziR {f:D→D→Option Bool}{x:D}:∀ {ys:List D} {b:Bool},zcq f ys x=some b→(∀y∈ys,∃c,f y x=some c)∧(b=true↔∃y∈ys,f y x=some true)
 | [],b,e=>by
  simp only[zcq,Option.some.injEq] at e
  subst e
  simp
 | y::ys,b,e=>by
  unfold zcq at e
  split at e
  ·rename_i b1 c1 e1 e2
   obtain⟨h1,h2⟩:=ziR e2
   simp only[Option.some.injEq] at e
   subst e
   refine⟨λz hz=>?_,?_⟩
   ·rcases Vam.mp hz with rfl | hz'
    ·exact⟨b1,e1⟩
    ·exact h1 z hz'
   ·rw[Bool.or_eq_true,h2]
    refine⟨λq=>?_,λ⟨z,hz,q⟩=>?_⟩
    ·rcases q with q | ⟨z,hz,q⟩
     ·exact⟨y,VaQ,by rw[e1,q]⟩
     ·exact⟨z,VaE _ hz,q⟩
    ·rcases Vam.mp hz with rfl | hz'
     ·left
      rw[e1] at q
      exact Option.some.inj q
     ·exact .inr ⟨z,hz',q⟩
  ·cases e
theorem zj7 {k:Nat}{pins:List (Addr×Obj)}{σ:St}{H:Hp}{s:Shared}{r:List Addr}{A:Around}{ds:List D}{vs:List V}{us:List Value}{dx:D}{x:V}{u:Value}{b:Bool}(I:Inv X pins σ H s)(hu:A.units+k<cLine)
  (p:Rps r H ds vs)(rv:zad vs us)(px:Rp r H dx x)(rx:zag x u)(e:zcq (eqN k) ds dx=some b):∃g:Value→Bool,(∀y,y∈us.toArray→SeqAt.EqAt A s y u (g y))∧us.toArray.any g=b:=by
 obtain⟨h1,h2⟩:=ziR e
 have at_:∀y∈us,∃d v,d∈ds∧Rp r H d v∧zag v y:=λy hy=>by
  obtain⟨j,hj,ej⟩:=Va1.mp hy
  have hv:j<vs.length:=by rw[rv.length]; exact hj
  have gv:vs[j]?=some vs[j]:=by simp[hv]
  obtain⟨w,gw,rw'⟩:=rv.get gv
  obtain⟨d,gd,pd⟩:=p.get' gv
  have ew:w=y:=by
   rw[Vae hj,ej] at gw
   exact(Option.some.inj gw).symm
  subst ew
  exact⟨d,_,Vag gd,pd,rw'⟩
 classical
 refine⟨λy=>decide (∃d v,d∈ds∧Rp r H d v∧zag v y∧eqN k d dx=some true),λy hy=>?_,?_⟩
 ·obtain⟨d,v,hd,pd,rd⟩:=at_ y (by simpa using hy)
  obtain⟨c,hc⟩:=h1 d hd
  have same:decide (∃d v,d∈ds∧Rp r H d v∧zag v y∧eqN k d dx=some true)=c:=by
   cases c with
   | true=>exact decide_eq_true ⟨d,v,hd,pd,rd,hc⟩
   | false=>
    refine decide_eq_false λ⟨d',v',_,pd',rd',hc'⟩=>?_
    have ev:=zju rd rd'
    subst ev
    exact absurd (ziK k d d' dx v false true pd pd' hc hc') (by decide)
  show SeqAt.EqAt A s y u (decide _)
  rw[same]
  exact zdg k X pins σ H s r A d dx v x y u c I hu pd px rd rx hc
 ·rw[VaY,h2,List.any_toArray,Va2]
  refine⟨λ⟨y,hy,q⟩=>?_,λ⟨d,hd,q⟩=>?_⟩
  ·obtain⟨d,v,hd,_,_,q'⟩:=of_decide_eq_true q
   exact⟨d,hd,q'⟩
  ·obtain⟨j,hj,ej⟩:=Va1.mp hd
   have gd:ds[j]?=some d:=by simp[hj,ej]
   obtain⟨v,gv,pv⟩:=p.get gd
   obtain⟨w,gw,rw'⟩:=rv.get gv
   exact⟨w,Vag gw,decide_eq_true ⟨d,v,hd,pv,rw',q⟩⟩
theorem zkW (k:Nat)(hu:X.A.units+1+k<cLine):OpR X (compareOp .NotIn) (upO X.K Z (wIn k true)):=by
 intro pins s σ H x y v u Qv I rx ry h
 obtain⟨r,S,dx,dy,Q,rel,px,py,q,ret⟩:=h
 cases py with
 | @ref n a hn=>
  unfold wIn at q
  dsimp only at q
  split at q
  ·rename_i o eo
   split at q
   ·rename_i b eb
    cases ry
    obtain⟨eo,eL⟩:=za4 eo
    obtain⟨a',ha,ob⟩:=rel.at eo
    rw[hn] at ha; cases ha
    obtain⟨ys,sq,pr⟩:=ob.list eL
    obtain⟨us,ru,pl,_⟩:=I.list sq
    obtain⟨g,g1,g2⟩:=zj7 (A:=X.A.in1) I (by show X.A.units+1+k<_; omega) pr ru px rx eb
    refine SeqAt.notIn_listAt g pl.isList g1 ?_
    rw[g2]
    exact⟨.bl (!b),H,I,rfl,ret _ _ _ _ _ Ext.refl rel (.bl (!b)) q⟩
   ·exact q.elim
  ·exact q.elim
 | _=>exact(show False from q).elim
end
section
variable {X:Cx}{Z:Zx}{pos:Pos}
def zb8:List Nat→List D→Ev→Ev
 | i::is,d::ds,dl=>zb8 is ds (dl.set i (some d))
 | _,_,dl=>dl
def zfW:List Nat→List V→St→St
 | i::is,v::vs,σ=>zfW is vs (σ.set i (some v))
 | _,_,σ=>σ
theorem zet {r:List Addr}{H:Hp}:∀ {is:List Nat} {ds:List D} {vs:List V} {dl:Ev} {σ:St},Rs r H dl σ→Rps r H ds vs→Rs r H (zb8 is ds dl) (zfW is vs σ)
 | [],ds,vs,dl,σ,h,p=>by cases ds <;> cases vs <;> exact h
 | i::is,[],vs,dl,σ,h,p=>by
  have z:=p.unnil
  subst z
  exact h
 | i::is,d::ds,vs,dl,σ,h,p=>by
  obtain⟨v,vs',rfl,p1,p2⟩:=p.uncons
  show Rs r H (zb8 is ds (dl.set i (some d))) (zfW is vs' (σ.set i (some v)))
  exact zet (Rs.set i h p1) p2
inductive Nms (X:Cx):List Expr→List Nat→Prop
 | nil:Nms X [] []
 | cons {x:Str} {p:Pos} {i:Nat} {es:List Expr} {is:List Nat}:X.N[i]?=some x→Loc X.env.scope x→(X.fn x=true∨X.env.scope.names.lookup x=some .local)→Nms X es is→Nms X (.Name x p::es) (i::is)
def zcr (is:List Nat):TGs:=λvs σ H Q=>vs.length=is.length∧Q (zfW is vs σ) H
theorem zcp (hN:X.N.Nodup):∀ {es:List Expr} {is:List Nat},Nms X es is→PGs X es (zcr is)
 | _,_,.nil=>λpins s σ H vs us Q I r h=>by
  obtain⟨e,h⟩:=h
  have z:vs=[]:=by simpa using e
  subst z
  exact zkl pins s σ H [] us Q I r ⟨rfl,h⟩
 | _,_,.cons (x:=x) (p:=p) (es:=es) (is:=is) h1 h2 h3 t=>λpins s σ H vs us Q I r h=>by
  obtain⟨e,h⟩:=h
  cases vs with
  | nil=>simp at e
  | cons v vs=>exact zmQ (zfV hN h1 h2 h3) (zcp hN t) rfl pins s σ H (v::vs) us Q I r ⟨v,vs,rfl,by simpa using e,h⟩
end
open PySem L2
theorem zlC (S:Sto)(o u:Ob):(S++[o]).set S.length u=S++[u]:=by simp
section
variable {X:Cx}{Z:Zx}
end
def zkp:Sd:=λ_ _ _ _=>False
def Df.never {P:Program}{w:World}{K:PySem.W.Frag}{mg:Str→Option Value}{base:Heap}{x:Str}{st:Stmt}{ps:List Str}(k:Nat)(d:Df K mg x st ps):Fk P w K mg base k x ps zkp:=
 ⟨d.f,d.fd,⟨λ_ _ _ _ ⟨_,_,_,_,_,_,_,z,_⟩=>z.elim,λ_ _ _ _ _ _ _ _ _ _ _ _ _ ⟨_,_,_,_,_,_,_,z,_⟩=>z.elim⟩,d.m,d.F.kp,d.b⟩
section
variable {X:Cx}{Z:Zx}{pos:Pos}
end
section
variable {X:Cx}{Z:Zx}{elt iter:Expr}{x:Str}{px pos:Pos}{ifs:List Expr}{sc ar:Scope}{N:List Str}{caps:List Nat}
end
section
variable {X:Cx}{Z:Zx}{pos:Pos}
def flat (zs:List Str):Str:=⟨(zs.flatMap λz=>z.cps.toList).toArray⟩
abbrev TDO:=Ev→Sto→(Option Int→Sto→Prop)→Prop
def upP (K:PySem.W.Frag)(Z:Zx)(t:TDO):TO:=λσ H Q=>∃(r:List Addr) (dl:Ev) (S:Sto) (Q':Option Int→Sto→Prop),Rs r H dl σ∧Rel K Z r S H∧t dl S Q'∧∀o H' r' S',Ext r r' H H'→Rel K Z r' S' H'→Q' o S'→Q o H'
def PDO (X:Cx)(Z:Zx)(e:Option Expr)(t:TDO):Prop:=PO X e (upP X.K Z t)
def zlb:TDO:=λ_ S Q=>Q none S
def dPart (t:TDE):TDO:=λdl S Q=>t dl S λd S1=>match d with
 | .int i=>Q (some i) S1
 | _=>False
theorem zhB {e:Option Expr}{t t':TO}(h:PO X e t)(g:∀σ H Q,t' σ H Q→t σ H Q):PO X e t':=λpins s σ H Q I q=>h pins s σ H Q I (g σ H Q q)
theorem zhJ:PDO X Z none zlb:=zhB zmO λσ H Q ⟨r,dl,S,Q',rs,rel,h,ret⟩=>ret none H r S Ext.refl rel h
theorem zdc {e:Expr}{t:TDE}(he:PD X Z e t):PDO X Z (some e) (dPart t):=zhB (zlK he) λσ H Q ⟨r,dl,S,Q',rs,rel,h,ret⟩=>⟨r,dl,S,_,rs,rel,h,λv H1 r1 d S1 e1 rel1 p1 q1=>by
 cases p1 with
 | int i=>exact⟨i,rfl,ret (some i) H1 r1 S1 e1 rel1 q1⟩
 | _=>exact(show False from q1).elim⟩
end
section
variable {X:Cx}{Z:Zx}
end
section
variable {X:Cx}{Z:Zx}
theorem zhY {k:Nat}(hr:zat k X.A):OpR X (compareOp .NotIn) (upO X.K Z (zbA (wIn 0 true))):=by rw[zbS]; exact zkW 0 (by have:=hr.un; omega)
end
theorem zaR {n:Nat}{S:Sto}{o:Ob}{Q:DK}{i:Int}{d:D}(ho:S[n]?=some o)(hd:atI (zac o) i=some d)(hq:Q d S)(hL:zbm o=some o:=by rfl):zbA wIx (.ref n) (.int i) S Q:=by
 rw[zbS]
 unfold wIx
 simp only[zaq ho hL,hd]
 exact hq
def putD (f:Str)(v:D):List (Str×D)→List (Str×D)
 | []=>[(f,v)]
 | p::r=>if p.1=f then (f,v)::r else p::putD f v r
theorem FR.lookup {r:List Addr}{H:Hp}{f:Str}:∀ {fs:List (Str×D)} {fs':List (Str×V)},FR r H fs fs'→(∀d,fs.lookup f=some d→∃v,fs'.lookup f=some v∧Rp r H d v)∧(fs.lookup f=none→fs'.lookup f=none)
 | [],fs',h=>by
  have e:fs'=[]:=by
   have:=h.1
   simpa using this.symm
  subst e
  exact⟨λd z=>by simp at z,λ_=>rfl⟩
 | p::fs,[],h=>by
  have:=h.1
  simp at this
 | p::fs,q::fs',h=>by
  obtain⟨h1,h2⟩:=h
  simp only[Val,List.cons.injEq] at h1
  obtain⟨p1,p2⟩:=h2.tail
  obtain⟨i1,i2⟩:=FR.lookup (f:=f) (fs:=fs) (fs':=fs') ⟨h1.2,p2⟩
  obtain⟨pk,pv⟩:=p
  obtain⟨qk,qv⟩:=q
  have ek:pk=qk:=h1.1
  subst ek
  by_cases z:f=pk
  ·subst z
   simp only[List.lookup_cons_self]
   exact⟨λd hd=>⟨qv,rfl,by cases hd; exact p1⟩,λhd=>by cases hd⟩
  ·have zb:(f==pk)=false:=by simpa using z
   simp only[Van,zb]
   exact⟨i1,i2⟩
theorem FR.put {r:List Addr}{H:Hp}{f:Str}{d:D}{v:V}(q:Rp r H d v):∀ {fs:List (Str×D)} {fs':List (Str×V)},FR r H fs fs'→FR r H (putD f d fs) (putF f v fs')
 | [],fs',h=>by
  have e:fs'=[]:=by
   have:=h.1
   simpa using this.symm
  subst e
  exact⟨rfl,Rps.cons q Rps.nil⟩
 | p::fs,[],h=>by
  have:=h.1
  simp at this
 | p::fs,p'::fs',h=>by
  obtain⟨h1,h2⟩:=h
  simp only[Val,List.cons.injEq] at h1
  obtain⟨p1,p2⟩:=h2.tail
  have ih:=FR.put (f:=f) q (fs:=fs) (fs':=fs') ⟨h1.2,p2⟩
  obtain⟨pk,pv⟩:=p
  obtain⟨qk,qv⟩:=p'
  have ek:pk=qk:=h1.1
  subst ek
  unfold putD putF
  by_cases z:pk=f
  ·rw[if_pos z,if_pos z]
   exact⟨by simp[h1.2,z],Rps.cons q p2⟩
  ·rw[if_neg z,if_neg z]
   exact⟨by simp[ih.1],Rps.cons p1 ih.2⟩
section
variable {X:Cx}{Z:Zx}{pos:Pos}
end
section
variable {κ:Type} [DecidableEq κ]
def zcC (kvs:List (κ×D))(k:κ):Option D:=(kvs.find? λkv=>decide (kv.1=k)).map (·.2)
def ziJ (kvs:List (κ×D))(k:κ)(v:D):List (κ×D):=
 if (kvs.any λkv=>decide (kv.1=k))=true then kvs.map (λkv=>if kv.1=k then (kv.1,v) else kv) else kvs++[(k,v)]
theorem FR.split {r:List Addr}{H:Hp}{p:κ×D}{fs:List (κ×D)}{gs:List (κ×V)}(h:FR r H (p::fs) gs):∃q gs',gs=q::gs'∧p.1=q.1∧Rp r H p.2 q.2∧FR r H fs gs':=by
 cases gs with
 | nil=>
  have:=h.1
  simp at this
 | cons q gs'=>
  obtain⟨h1,h2⟩:=h
  simp only[Val,List.cons.injEq] at h1
  obtain⟨p1,p2⟩:=h2.tail
  exact⟨q,gs',rfl,h1.1,p1,h1.2,p2⟩
theorem FR.unnil {r:List Addr}{H:Hp}{gs:List (κ×V)}(h:FR r H ([]:List (κ×D)) gs):gs=[]:=by
 have:=h.1
 simpa using this.symm
theorem FR.cons {r:List Addr}{H:Hp}{k:κ}{d:D}{v:V}{fs:List (κ×D)}{gs:List (κ×V)}(p:Rp r H d v)(h:FR r H fs gs):FR r H ((k,d)::fs) ((k,v)::gs):=⟨by simp[h.1],Rps.cons p h.2⟩
theorem FR.val {r:List Addr}{H:Hp}{k:κ}:∀ {fs:List (κ×D)} {gs:List (κ×V)},FR r H fs gs→(∀d,zcC fs k=some d→∃v,zbh gs k=some v∧Rp r H d v)∧(zcC fs k=none→zbh gs k=none)
 | [],gs,h=>by
  have z:=h.unnil
  subst z
  exact⟨(λd e=>by cases e),λ_=>rfl⟩
 | p::fs,gs,h=>by
  obtain⟨q,gs',rfl,e,pr,t⟩:=h.split
  obtain⟨i1,i2⟩:=FR.val (k:=k) t
  by_cases z:p.1=k
  ·have z':q.1=k:=e.symm.trans z
   rw[zfT z']
   have zd:zcC (p::fs) k=some p.2:=by simp[zcC,VaT,z]
   rw[zd]
   exact⟨λd hd=>⟨q.2,rfl,by cases hd; exact pr⟩,λhd=>by cases hd⟩
  ·have z':¬ q.1=k:=λy=>z (e.trans y)
   rw[zeL z']
   have zd:zcC (p::fs) k=zcC fs k:=by simp[zcC,VaT,z]
   rw[zd]
   exact⟨i1,i2⟩
theorem FR.putK {r:List Addr}{H:Hp}{k:κ}{d:D}{v:V}{fs:List (κ×D)}{gs:List (κ×V)}(p:Rp r H d v)(h:FR r H fs gs):FR r H (ziJ fs k d) (putK gs k v):=by
 have any:∀ {fs:List (κ×D)} {gs:List (κ×V)},FR r H fs gs→(fs.any λkv=>decide (kv.1=k))=(gs.any λkv=>decide (kv.1=k)):=by
  intro fs
  induction fs with
  | nil=>intro gs h; have z:=h.unnil; subst z; rfl
  | cons q fs ih=>
   intro gs h
   obtain⟨q',gs',rfl,e,_,t⟩:=h.split
   rw[List.any_cons,List.any_cons,ih t,e]
 have mp:∀ {fs:List (κ×D)} {gs:List (κ×V)},FR r H fs gs→FR r H (fs.map λkv=>if kv.1=k then (kv.1,d) else kv) (gs.map λkv=>if kv.1=k then (kv.1,v) else kv):=by
  intro fs
  induction fs with
  | nil=>intro gs h; have z:=h.unnil; subst z; exact FR.nil
  | cons q fs ih=>
   intro gs h
   obtain⟨q',gs',rfl,e,pr,t⟩:=h.split
   rw[Val,Val]
   obtain⟨qk,qd⟩:=q
   obtain⟨qk',qv⟩:=q'
   have e':qk=qk':=e
   subst e'
   by_cases z:qk=k
   ·rw[if_pos z,if_pos z]; exact FR.cons p (ih t)
   ·rw[if_neg z,if_neg z]; exact FR.cons pr (ih t)
 have ap:∀ {fs:List (κ×D)} {gs:List (κ×V)},FR r H fs gs→FR r H (fs++[(k,d)]) (gs++[(k,v)]):=by
  intro fs
  induction fs with
  | nil=>intro gs h; have z:=h.unnil; subst z; exact FR.cons p FR.nil
  | cons q fs ih=>
   intro gs h
   obtain⟨q',gs',rfl,e,pr,t⟩:=h.split
   obtain⟨qk,qd⟩:=q
   obtain⟨qk',qv⟩:=q'
   have e':qk=qk':=e
   subst e'
   exact FR.cons pr (ih t)
 unfold ziJ L2.putK
 rw[any h]
 split
 ·exact mp h
 ·exact ap h
end
section
variable {X:Cx}{Z:Zx}{pos:Pos}
end
section
variable {X:Cx}{Z:Zx}{pos:Pos}
def zbb (xs:List D)(lo hi:Option Int):List D:=(xs.drop (HT.sIx xs.length 0 lo)).take (HT.sIx xs.length xs.length hi-HT.sIx xs.length 0 lo)
theorem Rps.drop {r:List Addr}{H:Hp}{ds:List D}{vs:List V}(h:Rps r H ds vs)(k:Nat):Rps r H (ds.drop k) (vs.drop k):=
 ⟨by simp[h.1],λi d v h1 h2=>h.2 (k+i) d v (by simpa using h1) (by simpa using h2)⟩
theorem Rps.take {r:List Addr}{H:Hp}{ds:List D}{vs:List V}(h:Rps r H ds vs)(k:Nat):Rps r H (ds.take k) (vs.take k):=by
 refine⟨by simp[h.1],λi d v h1 h2=>?_⟩
 rw[List.getElem?_take] at h1 h2
 split at h1
 ·rw[if_pos (by assumption)] at h2
  exact h.2 i d v h1 h2
 ·cases h1
theorem Rps.cut {r:List Addr}{H:Hp}{ds:List D}{vs:List V}(h:Rps r H ds vs)(lo hi:Option Int):Rps r H (zbb ds lo hi) (zcW vs lo hi):=by
 unfold zbb zcW
 rw[h.1]
 exact(h.drop _).take _
@[irreducible] def ze7 (te:TDE)(tl th:TDO):TDE:=λdl S Q=>te dl S λd S1=>tl dl S1 λl S2=>th dl S2 λu S3=>match d with
 | .ref n=>match lAt S3 n with
  | some o=>Q (.ref S3.length) (S3++[.lst (zbb (zac o) l u)])
  | none=>False
 | _=>False
theorem ze8 {e:Expr}{te:TDE}{lo hi:Option Expr}{tl th:TDO}{p2:Pos}(he:PD X Z e te)(hl:PDO X Z lo tl)(hu:PDO X Z hi th):PD X Z (.Subscript e (.Slice lo hi none p2) pos) (ze7 te tl th):=
 zaW (zlz zlW he hl hu) λσ H Qv ⟨r,dl,S,Q,rs,rel,h,ret⟩=>by
  unfold ze7 at h
  refine⟨r,dl,S,_,rs,rel,h,λv H1 r1 d S1 e1 rel1 p1 q1=>⟨r1,dl,S1,_,rs.ext e1,rel1,q1,λl H2 r2 S2 e2 rel2 q2=>⟨r2,dl,S2,_,rs.ext (e1.trans e2),rel2,q2,λu H3 r3 S3 e3 rel3 q3=>?_⟩⟩⟩
  cases p1 with
  | @ref n a hn=>
   dsimp only at q3
   split at q3
   ·rename_i o eo
    obtain⟨eo,eL⟩:=za4 eo
    obtain⟨a',ha,ob⟩:=rel3.at eo
    rw[e3.adr _ _ (e2.adr _ _ hn)] at ha; cases ha
    obtain⟨xs,sq,pr⟩:=ob.list eL
    refine⟨a,xs,rfl,sq,λp hp=>?_⟩
    obtain⟨rel4,x⟩:=rel3.push hp (pr.cut l u)
    exact ret _ _ _ (.ref S3.length) _ (e1.trans (e2.trans (e3.trans x))) rel4 (zbV rel3.len) q3
   ·exact q3.elim
  | _=>exact(show False from q3).elim
theorem zfh {te:TDE}{tl th:TDO}{dl:Ev}{S S3:Sto}{Q:DK}{n:Nat}{o:Ob}{lo hi:Option Int}(h:∀K:DK,K (.ref n) S3→te dl S K)(hl:∀K:Option Int→Sto→Prop,K lo S3→tl dl S3 K)(hh:∀K:Option Int→Sto→Prop,K hi S3→th dl S3 K)(ho:S3[n]?=some o)
  (hq:Q (.ref S3.length) (S3++[.lst (zbb (zac o) lo hi)]))(hL:zbm o=some o:=by rfl):ze7 te tl th dl S Q:=by
 unfold ze7
 refine h _ (hl _ (hh _ ?_))
 simp only[zaq ho hL]
 exact hq
end
section
variable {X:Cx}{Z:Zx}{pos:Pos}
theorem Rps.put {r:List Addr}{H:Hp}{ds:List D}{vs:List V}{d:D}{v:V}(h:Rps r H ds vs)(p:Rp r H d v)(j:Nat):Rps r H (ds.set j d) (vs.set j v):=by
 refine⟨by simp[h.1],λi x y h1 h2=>?_⟩
 by_cases z:j=i
 ·subst z
  have hl:j<ds.length:=by
   have:=(Vac.mp h1).1
   simpa using this
  rw[VaX hl] at h1
  rw[VaX (by rw[← h.1]; exact hl)] at h2
  cases h1
  cases h2
  exact p
 ·rw[VaR z] at h1 h2
  exact h.2 i x y h1 h2
end
section
variable {X:Cx}{pins:List (Addr×Obj)}{σ:St}{H:Hp}{s:Shared}{h':Heap}
theorem zhD {t':Nat}{ch:List Addr}{T:Addr}{xs:List V}{vals:Array Value}(I:Inv X pins σ H s)(k:∀b o,b ∉ ch→s.heap.get? b=some o→h'.get? b=some o)(hch:∀b∈ch,za2 X pins H b)
  (hT:s.heap.objs.size≤T)(ht:h'.IsTuple T vals)(rv:zad xs vals.toList)(hl:xs.length≤sizeLine):Inv X pins σ (upd H T (.tup xs)) { s with heap:=h',toks:=t' }:=by
 have hTn:H T=none:=I.hok.fresh hT
 have old:∀ {b:Addr} {o:Obj},s.heap.get? b=some o→b≠T:=λ{b o} e z=>absurd (Vas (Heap.lt_size e) hT) (by rw[z]; exact Vav _)
 have trk:∀b u,H b=some u→b ∉ ch:=λb u e z=>by
  rw[(hch b z).1] at e; cases e
 have up:∀b u,H b=some u→(upd H T (.tup xs)) b=some u:=zbv hTn
 refine I.step (g':=s.gens) (d':=s.drawn) (ch:=ch) (λb hb=>?_) (λb o _ _ hc e _=>k b o hc e) (λb o _ _ hc e _=>⟨o.slots,k b o hc e⟩) (λb o _ e n=>by rw[zav (old e)]; exact n)
  (λb o hc e=>⟨o,k b o hc e⟩) (λb ys e=>up _ _ e) (λb o u e=>up _ _ e) (λb ps e=>⟨#[],by rw[up _ _ e]; simp⟩) (λm hm=>?_) (λb u e=>?_) I.bare
 ·obtain⟨_,f1,_,f3,f4,f5⟩:=hch b hb
  exact⟨f3,f1,f4,f5⟩
 ·obtain⟨o,es,ep,ho,r⟩:=hm
  exact⟨o,es,ep,k _ o (λz=>(hch _ z).2.1 rfl) ho,r⟩
 ·by_cases hb:b=T
  ·subst hb
   rw[za6] at e
   cases e
   exact⟨hl,vals.toList,rv,by rw[Array.toArray_toList]; exact ht⟩
  ·rw[zav hb] at e
   refine(I.hok b u e).stay (λc v hc q=>k c v ?_ q) (λd z=>up _ _ z) λd ys z=>up _ _ z
   rcases hc with z | z
   ·rw[z]; exact trk b u e
   ·exact trk c _ z
theorem zfx {t':Nat}{ch:List Addr}(I:Inv X pins σ H s)(k:∀b o,b ∉ ch→s.heap.get? b=some o→h'.get? b=some o)(hch:∀b∈ch,za2 X pins H b):Inv X pins σ H { s with heap:=h',toks:=t' }:=by
 have trk:∀b u,H b=some u→b ∉ ch:=λb u e z=>by
  rw[(hch b z).1] at e; cases e
 refine I.step (g':=s.gens) (d':=s.drawn) (ch:=ch) (λb hb=>?_) (λb o _ _ hc e _=>k b o hc e) (λb o _ _ hc e _=>⟨o.slots,k b o hc e⟩) (λb o _ e n=>n)
  (λb o hc e=>⟨o,k b o hc e⟩) (λb ys e=>e) (λb o u e=>e) (λb ps e=>⟨#[],by rw[e]; simp⟩) (λm hm=>?_) (λb u e=>?_) I.bare
 ·obtain⟨_,f1,_,f3,f4,f5⟩:=hch b hb
  exact⟨f3,f1,f4,f5⟩
 ·obtain⟨o,es,ep,ho,r⟩:=hm
  exact⟨o,es,ep,k _ o (λz=>(hch _ z).2.1 rfl) ho,r⟩
 ·refine(I.hok b u e).stay (λc v hc q=>k c v ?_ q) (λd z=>z) λd ys z=>z
  rcases hc with z | z
  ·rw[z]; exact trk b u e
  ·exact trk c _ z
end
def Ite (K:PySem.W.Frag)(a:Addr):It:=
 ⟨λi H=>∃xs x,SqL K H a xs∧xs[i]?=some x,λi H x H'=>∃T v,x=.ref T∧H T=none∧H'=upd H T (.tup [.int (i:Int),v])∧∀xs,SqL K H a xs→xs[i]?=some v,λi H=>∃xs,SqL K H a xs∧xs.length=i⟩
theorem zlF {P:Program}{w:World}{K:PySem.W.Frag}{elts:List Expr}{kk:Nat}{tp:Pos}(a e it:Addr)(hei:e≠it)(hae:a≠e)(hai:a≠it):
  zdX P w K (.Tuple elts kk tp) (Ite K a) [e,it] e (λi h=>(∃old,IsEnum h e it i old)∧h.IsListIter it a i) where
 mem:=by simp
 obj:=λi h st b hb=>by
  obtain⟨⟨old,he⟩,o,e1,c,d⟩:=st
  have hb':b=e∨b=it:=by simpa using hb
  rcases hb' with rfl | rfl
  ·exact⟨_,he,λv z=>by cases z⟩
  ·exact⟨o,e1,λv z=>by rw[d] at z; cases z⟩
 keep:=λi h h' st k=>by
  obtain⟨⟨old,he⟩,hit⟩:=st
  exact⟨⟨old,k e (by simp) _ he⟩,hit.at λo x=>k it (by simp) o x⟩
 item:=by
  intro X hP hw hK hc i pins s σ H E I hf st hg
  subst hP hw hK
  obtain⟨xs,x,hq,hx⟩:=hg
  obtain⟨its,rv,p,hz⟩:=I.list hq
  obtain⟨u,hu,ru⟩:=rv.get hx
  have hi:i<its.toArray.size:=by
   have:=(Vac.mp hu).1
   simpa using this
  have W:=WalksT.enumerate (prog:=X.prog) (w:=X.w) (A:=X.A) (I.ok.hd hc) e it a hei hae hai its.toArray
  refine W.item i s _ _ hi ⟨st.1,st.2,p.isList⟩ λT vals h' tk hP hT ht mid k1=>?_
  obtain⟨t,y,hy,rfl⟩:=hP
  have ey:y=u:=by
   have z:its[i]?=some y:=by simpa using hy
   rw[hu] at z; exact(Option.some.inj z).symm
  subst ey
  have hw:∀b∈[e,it],za2 X pins H b:=hf
  have I1:Inv X pins σ (upd H T (.tup [.int (i:Int),x])) { s with heap:=h',toks:=tk }:=zhD I k1 hw hT ht (.cons ⟨t,rfl⟩ (.cons ru .nil)) (show 2≤sizeLine from zbr (by decide))
  have neT:∀b∈[e,it],b≠T:=λb hb z=>W.apart i T h' mid (z ▸ hb)
  have hf1:∀b∈[e,it],za2 X pins (upd H T (.tup [.int (i:Int),x])) b:=λb hb=>⟨by rw[zav (neT b hb)]; exact(hf b hb).1,(hf b hb).2⟩
  refine⟨.ref T,rfl,W.go elts kk tp i T _ _ _ mid λh2 st2 k2=>?_⟩
  have I2:Inv X pins σ (upd H T (.tup [.int (i:Int),x])) { s with heap:=h2,toks:=tk }:=zfx (s:={ s with heap:=h',toks:=tk }) (t':=tk) I1 k2 hf1
  exact⟨.ref T,_,I2,rfl,⟨T,x,rfl,I.hok.fresh hT,rfl,λys hy=>by rw[I.list_inj hy hq]; exact hx⟩,⟨st2.1,st2.2.1⟩,λb hb=>(hf1 b hb).1⟩
 done:=by
  intro X hP hw hK hc i pins s σ H E I hf st hg
  subst hP hw hK
  obtain⟨xs,hq,hx⟩:=hg
  obtain⟨its,rv,p,hz⟩:=I.list hq
  have W:=WalksT.enumerate (prog:=X.prog) (w:=X.w) (A:=X.A) (I.ok.hd hc) e it a hei hae hai its.toArray
  have hi:i=its.toArray.size:=by rw[Vaf,← rv.length]; exact hx.symm
  subst hi
  exact W.done s _ _ ⟨st.1,st.2,p.isList⟩ λh' tk k1=>⟨rfl,zfx (t':=tk) I k1 hf⟩
 self:=λA i s Q E st h=>by
  obtain⟨⟨old,he⟩,_⟩:=st
  exact wpAny_pyIter_enum he h
section
variable {X:Cx}
def zib (K:PySem.W.Frag)(ta:TA):TI:=λσ H R=>ta σ H λvs H1=>∃a,vs=[.ref a]∧(∃xs,SqL K H1 a xs)∧R (Ite K a) H1
theorem zhU {a:Expr}{ta:TA}{p pos tp:Pos}{elts:List Expr}{kk:Nat}(hg:Gl X "enumerate")(hm:X.mg "enumerate"=none)(hv:bootBuiltins "enumerate"=some (.type "enumerate"))(ha:PA X [a] ta)(hs:starEach [a] X.env=[(false,eval a X.env)]:=by rfl):
  PI X (.Tuple elts kk tp) (.Call (.Name "enumerate" p) [a] [] pos) (zib X.K ta):=by
 intro pins s σ H R I h
 refine Call_ (zdi I hg hm hv (PyProof.Rows.callWith_type1 (thn (ha pos pins s σ H _ I h) λus s1 ⟨vs,H1,I1,r1,q1⟩=>?_) hs rfl))
 obtain⟨l,e,⟨xs,hq⟩,q⟩:=q1
 subst e
 cases r1 with
 | cons r rr=>
  cases rr
  cases r
  obtain⟨its,rv,pl,hz⟩:=I1.list hq
  have hll:l<s1.heap.objs.size:=by
   obtain⟨o,e,_⟩:=pl.isList
   exact Heap.lt_size e
  refine call_enumerate_list pl.isList λh' he hit hsz hk=>?_
  have I2:Inv X pins σ H1 { s1 with heap:=h' }:=I1.kept (t':=s1.toks) hk
  refine wpAny_pyIter_enum he ⟨s1.heap.objs.size+1,[s1.heap.objs.size+1,s1.heap.objs.size],_,_,H1,rfl,I2,zlF l _ _ (Nat.succ_ne_self _) (Vai (Nat.lt_succ_of_lt hll)) (Vai hll),⟨⟨_,he⟩,hit⟩,λb hb=>?_,q⟩
  have hb':b=s1.heap.objs.size+1∨b=s1.heap.objs.size:=by simpa using hb
  rcases hb' with rfl | rfl
  ·exact I1.fpOk (VaN _) (I1.hok.fresh (VaN _))
  ·exact I1.fpOk (Vaa _) (I1.hok.fresh (Vaa _))
end
def Itz (K:PySem.W.Frag)(a b:Addr):It:=
  ⟨λi H=>∃xs ys x y,SqL K H a xs∧SqL K H b ys∧xs[i]?=some x∧ys[i]?=some y,
   λi H x H'=>∃T v u,x=.ref T∧H T=none∧H'=upd H T (.tup [v,u])∧(∀xs,SqL K H a xs→xs[i]?=some v)∧∀ys,SqL K H b ys→ys[i]?=some u,
   λi H=>∃xs ys,SqL K H a xs∧SqL K H b ys∧min xs.length ys.length=i⟩
theorem zjv {P:Program}{w:World}{K:PySem.W.Frag}{elts:List Expr}{kk:Nat}{tp:Pos}(a b z TI TO i1 i2:Addr)(D:ZipApart z TI TO i1 i2 a b):
  zdX P w K (.Tuple elts kk tp) (Itz K a b) [z,TI,TO,i1,i2] z (λi h=>IsZip h z TI TO .none∧IsPair h TI (.ref i1) (.ref i2)∧(∃p q,IsPair h TO p q)∧h.IsListIter i1 a i∧h.IsListIter i2 b i) where
 mem:=by simp
 obj:=λi h st c hc=>by
  obtain⟨hz,hTI,⟨p,q,hTO⟩,⟨o1,e1,c1,d1⟩,o2,e2,c2,d2⟩:=st
  have hc':c=z∨c=TI∨c=TO∨c=i1∨c=i2:=by simpa using hc
  rcases hc' with rfl | rfl | rfl | rfl | rfl
  ·exact⟨_,hz,λv y=>by cases y⟩
  ·exact⟨_,hTI,λv y=>by cases y⟩
  ·exact⟨_,hTO,λv y=>by cases y⟩
  ·exact⟨o1,e1,λv y=>by rw[d1] at y; cases y⟩
  ·exact⟨o2,e2,λv y=>by rw[d2] at y; cases y⟩
 keep:=λi h h' st k=>by
  obtain⟨hz,hTI,⟨p,q,hTO⟩,h1,h2⟩:=st
  exact⟨k z (by simp) _ hz,k TI (by simp) _ hTI,⟨p,q,k TO (by simp) _ hTO⟩,h1.at λo x=>k i1 (by simp) o x,h2.at λo x=>k i2 (by simp) o x⟩
 item:=by
  intro X hP hw hK hc i pins s σ H E I hf st hg
  subst hP hw hK
  obtain⟨xs,ys,x,y,hq,hq2,hx,hy⟩:=hg
  obtain⟨its,rv,p,_⟩:=I.list hq
  obtain⟨jts,rv2,p2,_⟩:=I.list hq2
  obtain⟨u,hu,ru⟩:=rv.get hx
  obtain⟨u2,hu2,ru2⟩:=rv2.get hy
  have hi:i<min its.toArray.size jts.toArray.size:=by
   have z1:=(Vac.mp hu).1
   have z2:=(Vac.mp hu2).1
   have sizes:its.toArray.size=its.length∧jts.toArray.size=jts.length:=⟨by simp,by simp⟩
   omega
  have W:=WalksT.zip2 (prog:=X.prog) (w:=X.w) (A:=X.A) (I.ok.hd hc) z TI TO i1 i2 a b D its.toArray jts.toArray
  obtain⟨s1,s2,s3,s4,s5⟩:=st
  refine W.item i s _ _ hi ⟨s1,s2,s3,s4,s5,p.isList,p2.isList⟩ λT vals h' tk hP hT ht mid k1=>?_
  obtain⟨v1,v2,hv1,hv2,rfl⟩:=hP
  have e1:v1=u:=by
   have z:its[i]?=some v1:=by simpa using hv1
   rw[hu] at z; exact(Option.some.inj z).symm
  have e2:v2=u2:=by
   have z:jts[i]?=some v2:=by simpa using hv2
   rw[hu2] at z; exact(Option.some.inj z).symm
  subst e1 e2
  have sub:∀c∈[z,TO,i1,i2],c∈[z,TI,TO,i1,i2]:=λc hc=>by
   have hc':c=z∨c=TO∨c=i1∨c=i2:=by simpa using hc
   rcases hc' with rfl | rfl | rfl | rfl <;> simp
  have I1:Inv X pins σ (upd H T (.tup [x,y])) { s with heap:=h',toks:=tk }:=zhD I k1 (λc hc=>hf c (sub c hc)) hT ht (.cons ru (.cons ru2 .nil)) (show 2≤sizeLine from zbr (by decide))
  have tiT:TI≠T:=λq=>by
   have hl:TI<s.heap.objs.size:=Heap.lt_size s2
   rw[q] at hl
   exact absurd (Vas hl hT) (Vav _)
  have neT:∀c∈[z,TI,TO,i1,i2],c≠T:=λc hc q=>by
   have hc':c=TI∨c∈[z,TO,i1,i2]:=by
    have hc2:c=z∨c=TI∨c=TO∨c=i1∨c=i2:=by simpa using hc
    rcases hc2 with rfl | rfl | rfl | rfl | rfl <;> simp
   rcases hc' with rfl | hc'
   ·exact tiT q
   ·exact W.apart i T h' mid (q ▸ hc')
  have hf1:∀c∈[z,TI,TO,i1,i2],za2 X pins (upd H T (.tup [x,y])) c:=λc hc=>⟨by rw[zav (neT c hc)]; exact(hf c hc).1,(hf c hc).2⟩
  refine⟨.ref T,rfl,W.go elts kk tp i T _ _ _ mid λh2 st2 k2=>?_⟩
  have I2:Inv X pins σ (upd H T (.tup [x,y])) { s with heap:=h2,toks:=tk }:=zfx (s:={ s with heap:=h',toks:=tk }) (t':=tk) I1 k2 λc hc=>hf1 c (sub c hc)
  obtain⟨t1,t2,t3,t4,t5,_,_⟩:=st2
  exact⟨.ref T,_,I2,rfl,⟨T,x,y,rfl,I.hok.fresh hT,rfl,λzs hz=>by rw[I.list_inj hz hq]; exact hx,λzs hz=>by rw[I.list_inj hz hq2]; exact hy⟩,⟨t1,t2,t3,t4,t5⟩,λc hc=>(hf1 c hc).1⟩
 done:=by
  intro X hP hw hK hc i pins s σ H E I hf st hg
  subst hP hw hK
  obtain⟨xs,ys,hq,hq2,hx⟩:=hg
  obtain⟨its,rv,p,_⟩:=I.list hq
  obtain⟨jts,rv2,p2,_⟩:=I.list hq2
  have W:=WalksT.zip2 (prog:=X.prog) (w:=X.w) (A:=X.A) (I.ok.hd hc) z TI TO i1 i2 a b D its.toArray jts.toArray
  have hi:i=min its.toArray.size jts.toArray.size:=by rw[Vaf,Vaf,← rv.length,← rv2.length]; exact hx.symm
  subst hi
  have sub:∀c∈[z,TO,i1,i2],c∈[z,TI,TO,i1,i2]:=λc hc=>by
   have hc':c=z∨c=TO∨c=i1∨c=i2:=by simpa using hc
   rcases hc' with rfl | rfl | rfl | rfl <;> simp
  obtain⟨s1,s2,s3,s4,s5⟩:=st
  exact W.done s _ _ ⟨s1,s2,s3,s4,s5,p.isList,p2.isList⟩ λh' tk k1=>⟨rfl,zfx (t':=tk) I k1 λc hc=>hf c (sub c hc)⟩
 self:=λA i s Q E st h=>wpAny_pyIter_zip st.1 h
section
variable {X:Cx}
theorem zjw {n l m:Nat}(h1:l<n)(h2:m<n):ZipApart (n+4) (n+2) (n+3) n (n+1) l m:=by
 have ne:∀ {i j:Nat},i<j∨j<i→i≠j:=λ{i j} h z=>by omega
 exact⟨ne (by omega),ne (by omega),ne (by omega),ne (by omega),ne (by omega),ne (by omega),ne (by omega),ne (by omega),ne (by omega),ne (by omega),ne (by omega),ne (by omega),ne (by omega),ne (by omega),ne (by omega),ne (by omega),ne (by omega),ne (by omega)⟩
def iZip (K:PySem.W.Frag)(ta:TA):TI:=λσ H R=>ta σ H λvs H1=>∃a b,vs=[.ref a,.ref b]∧(∃xs,SqL K H1 a xs)∧(∃ys,SqL K H1 b ys)∧R (Itz K a b) H1
theorem zgH {a b:Expr}{ta:TA}{p pos tp:Pos}{elts:List Expr}{kk:Nat}(hg:Gl X "zip")(hm:X.mg "zip"=none)(hv:bootBuiltins "zip"=some (.type "zip"))(ha:PA X [a,b] ta)
  (hs:starEach [a,b] X.env=[(false,eval a X.env),(false,eval b X.env)]:=by rfl)(hs2:starEach [b] X.env=[(false,eval b X.env)]:=by rfl):PI X (.Tuple elts kk tp) (.Call (.Name "zip" p) [a,b] [] pos) (iZip X.K ta):=by
 intro pins s σ H R I h
 refine Call_ (zdi I hg hm hv (PyProof.Rows.callWith_type1 (thn (ha pos pins s σ H _ I h) λus s1 ⟨vs,H1,I1,r1,q1⟩=>?_) (by rw[hs,hs2]) (by rw[hs2]; rfl)))
 obtain⟨l,m,e,⟨xs,hq⟩,⟨ys,hq2⟩,q⟩:=q1
 subst e
 cases r1 with
 | cons r rr=>
  cases rr with
  | cons r2 rr=>
   cases rr
   cases r
   cases r2
   obtain⟨its,rv,pl,_⟩:=I1.list hq
   obtain⟨jts,rv2,pl2,_⟩:=I1.list hq2
   have h1:l<s1.heap.objs.size:=by
    obtain⟨o,e,_⟩:=pl.isList
    exact Heap.lt_size e
   have h2:m<s1.heap.objs.size:=by
    obtain⟨o,e,_⟩:=pl2.isList
    exact Heap.lt_size e
   refine call_zip_2 pl.isList pl2.isList λh' hz hTI hTO hi1 hi2 hsz hk=>?_
   have I2:Inv X pins σ H1 { s1 with heap:=h' }:=I1.kept (t':=s1.toks) hk
   have D:=zjw h1 h2
   refine wpAny_pyIter_zip hz ⟨s1.heap.objs.size+4,[s1.heap.objs.size+4,s1.heap.objs.size+2,s1.heap.objs.size+3,s1.heap.objs.size,s1.heap.objs.size+1],_,_,H1,rfl,I2,zjv l m _ _ _ _ _ D,⟨hz,hTI,⟨_,_,hTO⟩,hi1,hi2⟩,λc hc=>?_,q⟩
   have hge:s1.heap.objs.size≤c:=by
    have hc':c=s1.heap.objs.size+4∨c=s1.heap.objs.size+2∨c=s1.heap.objs.size+3∨c=s1.heap.objs.size∨c=s1.heap.objs.size+1:=by simpa using hc
    rcases hc' with rfl | rfl | rfl | rfl | rfl
    ·exact Nat.le_add_right _ _
    ·exact Nat.le_add_right _ _
    ·exact Nat.le_add_right _ _
    ·exact Vaa _
    ·exact Nat.le_add_right _ _
   exact I1.fpOk hge (I1.hok.fresh hge)
end
section
variable {X:Cx}{Z:Zx}{pos:Pos}
@[irreducible] def zem (is:List Nat)(ta:TDA)(tb:TDS):TDS:=λE dl S=>ta dl S λds S1=>match ds with
 | [.ref n]=>(lAt S1 n).isSome=true∧∃W:Nat→Nat→Ev→Sto→Prop,(∃m,W 0 m dl S1)∧∀k m dl S,W k m dl S→match lAt S n with
  | some o=>match (zac o)[k]? with
   | some x=>tb { nx:=λdl' S'=>∃m',m'<m∧W (k+1) m' dl' S',rt:=E.rt,bk:=E.nx,ct:=λdl' S'=>∃m',m'<m∧W (k+1) m' dl' S' } (zb8 is [.int (k:Int),x] dl) S
   | none=>k=(zac o).length∧E.nx dl S
  | none=>False
 | _=>False
theorem za9 {r r':List Addr}{S':Sto}{H':Hp}{n:Nat}{a:Addr}{o:Ob}(hn:r'[n]?=some a)(rel:zaw X.K r' S' H')(eo:lAt S' n=some o):∃xs,SqL X.K H' a xs∧Rps r' H' (zac o) xs:=by
 obtain⟨eo,eL⟩:=za4 eo
 obtain⟨a',ha,ob⟩:=rel.at eo
 rw[hn] at ha; cases ha
 exact ob.list eL
theorem zl4 {iter:Expr}{body:List Stmt}{es:List Expr}{kk:Nat}{tp p pos2:Pos}{is:List Nat}{ta:TDA}{tb:TDS}(hp:PassesOwn (model X.prog X.w) X.A X.env X.xe)(hc:X.calm=true)(hN:X.N.Nodup)(hn:Nms X es is)(h2:is.length=2)
  (hg:Gl X "enumerate")(hm:X.mg "enumerate"=none)(hv:bootBuiltins "enumerate"=some (.type "enumerate"))(ha:PDA X Z [iter] ta)(hb:zbp X Z body tb)
  (hlen:(assignEach es X.env).length=is.length:=by rfl)(hst:(assignEach es X.env).findIdx? (·.1)=none:=by rfl)(hse:starEach [iter] X.env=[(false,eval iter X.env)]:=by rfl)
  (hs:∀y,foldedSetIterable (.Call (.Name "enumerate" p) [iter] [] pos2) X.env y=pure y:=by intro _; rfl):PDS X Z (.For (.Tuple es kk tp) (.Call (.Name "enumerate" p) [iter] [] pos2) body [] pos) (zem is ta tb):=
 zbJ (zec hp hc (zhU hg hm hv ha hse) (zcE hc (zcp hN hn) hlen hst) hb hs) λF σ H ⟨r,dl,S,E,rs,rel,h,ret⟩=>by
  unfold zem at h
  refine⟨r,dl,S,_,rs,rel,h,λvs H1 r1 ds S1 x1 rel1 p1 q1=>?_⟩
  split at q1
  ·rename_i n
   obtain⟨v,vs',rfl,p2,p3⟩:=p1.uncons
   have z:=p3.unnil
   subst z
   cases p2 with
   | @ref n a hr=>
    obtain⟨hsome,W,⟨m0,w0⟩,turn⟩:=q1
    obtain⟨o1,eo1⟩:=VaF.mp hsome
    obtain⟨xs1,sq1,_⟩:=za9 (r:=r1) hr rel1.b eo1
    refine⟨a,rfl,⟨xs1,sq1⟩,λk m σ' H'=>∃r' dl' S',Ext r1 r' H1 H'∧Rs r' H' dl' σ'∧Rel X.K Z r' S' H'∧W k m dl' S',⟨m0,r1,dl,S1,Ext.refl,rs.ext x1,rel1,w0⟩,?_⟩
    rintro k m σ2 H2 ⟨r2,dl2,S2,x2,rs2,rel2,w2⟩
    have q:=turn k m dl2 S2 w2
    split at q
    ·rename_i o eo
     obtain⟨xs,sq,pr⟩:=za9 (r:=r2) (x2.adr _ _ hr) rel2.b eo
     split at q
     ·rename_i y ey
      obtain⟨v,hvv,pv⟩:=pr.get ey
      refine .inr ⟨⟨xs,v,sq,hvv⟩,λσ' H'=>∃m',m'<m∧∃r' dl' S',Ext r1 r' H1 H'∧Rs r' H' dl' σ'∧Rel X.K Z r' S' H'∧W (k+1) m' dl' S',λ_ _ z=>z,λv' H' y'=>?_⟩
      obtain⟨T,w,rfl,hT,rfl,hw⟩:=y'
      have ew:w=v:=by
       have z:=hw xs sq
       rw[hvv] at z; exact(Option.some.inj z).symm
      subst ew
      have x3:Ext r2 r2 H2 (upd H2 T (.tup [.int (k:Int),w])):=zed hT
      have pp:Rps r2 (upd H2 T (.tup [.int (k:Int),w])) [.int (k:Int),y] [.int (k:Int),w]:=Rps.cons (.int _) (Rps.cons (pv.ext x3) Rps.nil)
      have rel3:=rel2.same (zbv (o:=.tup [.int (k:Int),w]) hT)
      have go:∀σ' H' r' dl' S',Ext r2 r' (upd H2 T (.tup [.int (k:Int),w])) H'→Rs r' H' dl' σ'→Rel X.K Z r' S' H'→(∃m',m'<m∧W (k+1) m' dl' S')→∃m',m'<m∧∃r' dl' S',Ext r1 r' H1 H'∧Rs r' H' dl' σ'∧Rel X.K Z r' S' H'∧W (k+1) m' dl' S':=
       λσ' H' r' dl' S' x rs' rel' ⟨m',hm,w'⟩=>⟨m',hm,r',dl',S',x2.trans (x3.trans x),rs',rel',w'⟩
      refine⟨T,[.int (k:Int),w],rfl,SqT.of za6,by rw[h2]; rfl,by rw[h2]; rfl,r2,_,S2,_,zet (rs2.ext x3) pp,rel3,q,⟨go,λσ' H' r' dl' S' x rs' rel' z=>ret.nx σ' H' r' dl' S' (x1.trans (x2.trans (x3.trans x))) rs' rel' z,go,ret.rt.ext (x1.trans (x2.trans x3))⟩⟩
     ·obtain⟨hk,q⟩:=q
      exact .inl ⟨⟨xs,sq,by rw[← pr.1]; exact hk.symm⟩,ret.nx σ2 H2 r2 dl2 S2 (x1.trans x2) rs2 rel2 q⟩
    ·exact q.elim
  ·exact q1.elim
@[irreducible] def zfX (is:List Nat)(ta:TDA)(tb:TDS):TDS:=λE dl S=>ta dl S λds S1=>match ds with
 | [.ref n,.ref n']=>((lAt S1 n).isSome=true∧(lAt S1 n').isSome=true)∧∃W:Nat→Nat→Ev→Sto→Prop,(∃m,W 0 m dl S1)∧∀k m dl S,W k m dl S→match lAt S n,lAt S n' with
  | some o,some o'=>match (zac o)[k]?,(zac o')[k]? with
   | some x,some y=>tb { nx:=λdl' S'=>∃m',m'<m∧W (k+1) m' dl' S',rt:=E.rt,bk:=E.nx,ct:=λdl' S'=>∃m',m'<m∧W (k+1) m' dl' S' } (zb8 is [x,y] dl) S
   | _,_=>k=min (zac o).length (zac o').length∧E.nx dl S
  | _,_=>False
 | _=>False
theorem zja {i1 i2:Expr}{body:List Stmt}{es:List Expr}{kk:Nat}{tp p pos2:Pos}{is:List Nat}{ta:TDA}{tb:TDS}(hp:PassesOwn (model X.prog X.w) X.A X.env X.xe)(hc:X.calm=true)(hN:X.N.Nodup)(hn:Nms X es is)(h2:is.length=2)
  (hg:Gl X "zip")(hm:X.mg "zip"=none)(hv:bootBuiltins "zip"=some (.type "zip"))(ha:PDA X Z [i1,i2] ta)(hb:zbp X Z body tb)
  (hlen:(assignEach es X.env).length=is.length:=by rfl)(hst:(assignEach es X.env).findIdx? (·.1)=none:=by rfl)(hse:starEach [i1,i2] X.env=[(false,eval i1 X.env),(false,eval i2 X.env)]:=by rfl)(hse2:starEach [i2] X.env=[(false,eval i2 X.env)]:=by rfl)
  (hs:∀y,foldedSetIterable (.Call (.Name "zip" p) [i1,i2] [] pos2) X.env y=pure y:=by intro _; rfl):PDS X Z (.For (.Tuple es kk tp) (.Call (.Name "zip" p) [i1,i2] [] pos2) body [] pos) (zfX is ta tb):=
 zbJ (zec hp hc (zgH hg hm hv ha hse hse2) (zcE hc (zcp hN hn) hlen hst) hb hs) λF σ H ⟨r,dl,S,E,rs,rel,h,ret⟩=>by
  unfold zfX at h
  refine⟨r,dl,S,_,rs,rel,h,λvs H1 r1 ds S1 x1 rel1 p1 q1=>?_⟩
  split at q1
  ·rename_i n n'
   obtain⟨v,vs',rfl,p2,p3⟩:=p1.uncons
   obtain⟨v',vs2,rfl,p4,p5⟩:=p3.uncons
   have z:=p5.unnil
   subst z
   cases p2 with
   | @ref n a hr=>
    cases p4 with
    | @ref n' a' hr'=>
     obtain⟨⟨hsome,hsome'⟩,W,⟨m0,w0⟩,turn⟩:=q1
     obtain⟨o1,eo1⟩:=VaF.mp hsome
     obtain⟨o2,eo2⟩:=VaF.mp hsome'
     obtain⟨xs1,sq1,_⟩:=za9 (r:=r1) hr rel1.b eo1
     obtain⟨ys1,sq2,_⟩:=za9 (r:=r1) hr' rel1.b eo2
     refine⟨a,a',rfl,⟨xs1,sq1⟩,⟨ys1,sq2⟩,λk m σ' H'=>∃r' dl' S',Ext r1 r' H1 H'∧Rs r' H' dl' σ'∧Rel X.K Z r' S' H'∧W k m dl' S',⟨m0,r1,dl,S1,Ext.refl,rs.ext x1,rel1,w0⟩,?_⟩
     rintro k m σ2 H2 ⟨r2,dl2,S2,x2,rs2,rel2,w2⟩
     have q:=turn k m dl2 S2 w2
     split at q
     ·rename_i o o' eo eo'
      obtain⟨xs,sq,pr⟩:=za9 (r:=r2) (x2.adr _ _ hr) rel2.b eo
      obtain⟨ys,sq',pr'⟩:=za9 (r:=r2) (x2.adr _ _ hr') rel2.b eo'
      split at q
      ·rename_i y y2 ey ey2
       obtain⟨v,hvv,pv⟩:=pr.get ey
       obtain⟨u,hvu,pu⟩:=pr'.get ey2
       refine .inr ⟨⟨xs,ys,v,u,sq,sq',hvv,hvu⟩,λσ' H'=>∃m',m'<m∧∃r' dl' S',Ext r1 r' H1 H'∧Rs r' H' dl' σ'∧Rel X.K Z r' S' H'∧W (k+1) m' dl' S',λ_ _ z=>z,λv' H' y'=>?_⟩
       obtain⟨T,w,w2',rfl,hT,rfl,hw,hw2⟩:=y'
       have ew:w=v:=by
        have z:=hw xs sq
        rw[hvv] at z; exact(Option.some.inj z).symm
       have ew2:w2'=u:=by
        have z:=hw2 ys sq'
        rw[hvu] at z; exact(Option.some.inj z).symm
       subst ew ew2
       have x3:Ext r2 r2 H2 (upd H2 T (.tup [w,w2'])):=zed hT
       have pp:Rps r2 (upd H2 T (.tup [w,w2'])) [y,y2] [w,w2']:=Rps.cons (pv.ext x3) (Rps.cons (pu.ext x3) Rps.nil)
       have rel3:=rel2.same (zbv (o:=.tup [w,w2']) hT)
       have go:∀σ' H' r' dl' S',Ext r2 r' (upd H2 T (.tup [w,w2'])) H'→Rs r' H' dl' σ'→Rel X.K Z r' S' H'→(∃m',m'<m∧W (k+1) m' dl' S')→∃m',m'<m∧∃r' dl' S',Ext r1 r' H1 H'∧Rs r' H' dl' σ'∧Rel X.K Z r' S' H'∧W (k+1) m' dl' S':=
        λσ' H' r' dl' S' x rs' rel' ⟨m',hm,w'⟩=>⟨m',hm,r',dl',S',x2.trans (x3.trans x),rs',rel',w'⟩
       exact⟨T,[w,w2'],rfl,SqT.of za6,by rw[h2]; rfl,by rw[h2]; rfl,r2,_,S2,_,zet (rs2.ext x3) pp,rel3,q,⟨go,λσ' H' r' dl' S' x rs' rel' z=>ret.nx σ' H' r' dl' S' (x1.trans (x2.trans (x3.trans x))) rs' rel' z,go,ret.rt.ext (x1.trans (x2.trans x3))⟩⟩
      ·obtain⟨hk,q⟩:=q
       exact .inl ⟨⟨xs,ys,sq,sq',by rw[← pr.1,← pr'.1]; exact hk.symm⟩,ret.nx σ2 H2 r2 dl2 S2 (x1.trans x2) rs2 rel2 q⟩
     ·exact q.elim
  ·exact q1.elim
end
section
variable {X:Cx}{Z:Zx}{pos:Pos}
end
structure Dm (K:PySem.W.Frag)(C:Addr)(m qual:Str)(st:Stmt)(ps:List Str) where
 f:Addr
 fd:FuncData
 F:Fun K m qual st f fd
 m:Meth K C m f
 b:zbF K fd ps []
structure Fm (P:Program)(w:World)(K:PySem.W.Frag)(mg:Str→Option Value)(base:Heap)(k:Nat)(C:Addr)(x:Str)(ps:List Str)(sd:Sd) where
 f:Addr
 fd:FuncData
 ok:zaL P w K mg base (CXE P w) k f fd ps (upF K sd)
 m:Meth K C x f
 b:zbF K fd ps []
def Dm.mk' {P:Program}{w:World}{K:PySem.W.Frag}{mg:Str→Option Value}{base:Heap}{k:Nat}{C:Addr}{x qual:Str}{st:Stmt}{ps:List Str}{sd:Sd}(d:Dm K C x qual st ps)(h:zaL P w K mg base (CXE P w) k d.f d.fd ps (upF K sd)):Fm P w K mg base k C x ps sd:=
 ⟨d.f,d.fd,h,d.m,d.b⟩
section
variable {X:Cx}{Z:Zx}
theorem zku {k:Nat}(hr:zat k X.A):OpR X (compareOp .Eq) (upO X.K Z (zbA (zcy 1))):=by rw[zbS]; exact zl0 1 hr (by have:=hr.un; omega)
end
section
variable {X:Cx}{Z:Zx}{pos:Pos}
theorem zkz {k n m:Nat}{a a':Addr}{o o':Ob}{b:Bool}{pins:List (Addr×Obj)}{σ:St}{H:Hp}{s:Shared}{r:List Addr}{S:Sto}(I:Inv X pins σ H s)(rel:Rel X.K Z r S H)(hn:r[n]?=some a)(hm:r[m]?=some a')(eo:lAt S n=some o)(eo':lAt S m=some o')
  (e:eqL (eqN k) (zac o) (zac o')=some b)(hu:X.A.units+1+k<cLine):SeqAt.RcNeAt X.A s (.ref a) (.ref a') (!b):=by
 obtain⟨eo,eL⟩:=za4 eo
 obtain⟨eo',eL'⟩:=za4 eo'
 obtain⟨z,hz,ob⟩:=rel.at eo
 rw[hn] at hz; cases hz
 obtain⟨z,hz,ob'⟩:=rel.at eo'
 rw[hm] at hz; cases hz
 obtain⟨xs,sq,pr⟩:=ob.list eL
 obtain⟨ys,sq',pr'⟩:=ob'.list eL'
 obtain⟨is,ri,pl,_⟩:=I.list sq
 obtain⟨js,rj,pl',_⟩:=I.list sq'
 obtain⟨g1,g2⟩:=zdL (A:=X.A.in1) (zdg k) I (by show X.A.units+1+k<_; omega) pr pr' ri rj e
 by_cases hs:is.toArray.size=js.toArray.size
 ·have q:=SeqAt.RcNeAt.lists (A:=X.A) pl.isList pl'.isList hs (by omega) g1
  have e2:(List.range is.toArray.size).all (zbq (eqN k) (zac o) (zac o'))=b:=by
   rw[← g2,← hs,Nat.min_self]; simp
  rw[e2] at q
  exact q
 ·have q:=SeqAt.RcNeAt.lists_lengths (A:=X.A) pl.isList pl'.isList (by simpa using hs) (by omega)
  have e2:b=false:=by
   rw[← g2,show (is.toArray.size==js.toArray.size)=false by simpa using hs,Bool.and_false]
  rw[e2]
  exact q
theorem zjo (k:Nat){j:Nat}(hr:zat j X.A)(hu:X.A.units+1+k<cLine):OpR X (compareOp .NotEq) (upO X.K Z (zcF k)):=by
 intro pins s σ H x y v u Qv I rx ry h
 obtain⟨r,S,dx,dy,Q,rel,px,py,q,ret⟩:=h
 have flat:∀ {dx dy:D} {x y:V},Rp r H dx x→Rp r H dy y→zag x v→zag y u→zcf k S dx dy=eqN (k+1) dx dy→zcF k dx dy S Q→wpAny (model X.prog X.w) X.A (compareOp .NotEq v u) (EP X pins σ Qv) X.xe s:=λpx py rx ry e q=>by
  refine zkA (Z:=Z) (zdg k) hu pins s σ H _ _ v u Qv I rx ry ⟨r,S,_,_,Q,rel,px,py,?_,ret⟩
  unfold zcF at q
  rw[e] at q
  exact q
 cases px with
 | @ref n a hn=>
  cases py with
  | @ref m a' hm=>
   cases rx
   cases ry
   unfold zcF zcf at q
   dsimp only at q
   split at q
   ·rename_i b e
    split at e
    ·rename_i o o' eo eo'
     exact zkz I rel hn hm eo eo' e hu X.prog X.w X.xe _ ⟨.bl (!b),H,I,rfl,ret _ _ _ _ _ Ext.refl rel (.bl (!b)) q⟩
    ·cases e
   ·exact q.elim
  | non=>exact flat (.ref hn) .non rx ry rfl q
  | bl i=>exact flat (.ref hn) (.bl i) rx ry rfl q
  | int i=>exact flat (.ref hn) (.int i) rx ry rfl q
  | str i=>exact flat (.ref hn) (.str i) rx ry rfl q
  | tup a b c=>exact flat (.ref hn) (.tup a b c) rx ry rfl q
  | exc a=>exact flat (.ref hn) (.exc a) rx ry rfl q
 | non=>exact flat .non py rx ry rfl q
 | bl i=>exact flat (.bl i) py rx ry rfl q
 | int i=>exact flat (.int i) py rx ry rfl q
 | str i=>exact flat (.str i) py rx ry rfl q
 | tup a b c=>exact flat (.tup a b c) py rx ry rfl q
 | exc a=>exact flat (.exc a) py rx ry rfl q
theorem zjK {k:Nat}(hr:zat k X.A):OpR X (compareOp .NotEq) (upO X.K Z (zbA (zcF 1))):=by rw[zbS]; exact zjo 1 hr (by have:=hr.un; omega)
theorem zkM {k n m:Nat}{S:Sto}{Q:DK}{o o':Ob}{b:Bool}(h1:lAt S n=some o)(h2:lAt S m=some o')(e:eqL (eqN k) (zac o) (zac o')=some b)(hq:Q (.bl (!b)) S):zbA (zcF k) (.ref n) (.ref m) S Q:=by
 rw[zbS]
 unfold zcF
 simp only[zcf,h1,h2,e]
 exact hq
def ze1:W2:=λx y S Q=>match x,y with
 | .ref n,.ref m=>match S[n]?,S[m]? with
  | some (.lst xs),some (.lst ys)=>xs.length+ys.length≤1000∧Q (.ref S.length) (S++[.lst (xs++ys)])
  | _,_=>False
 | _,_=>False
theorem Rps.app {r:List Addr}{H:Hp}:∀ {ds es:List D} {xs ys:List V},Rps r H ds xs→Rps r H es ys→Rps r H (ds++es) (xs++ys)
 | [],es,xs,ys,p,q=>by
  have z:=p.unnil
  subst z
  exact q
 | d::ds,es,xs,ys,p,q=>by
  obtain⟨v,vs,rfl,p1,p2⟩:=p.uncons
  exact Rps.cons p1 (p2.app q)
theorem zgg:OpR X (binaryOp .Add) (upO X.K Z (zbA ze1)):=by
 rw[zbS]
 exact zdV zjP λx y H Qv ⟨r,S,dx,dy,Q,rel,px,py,q,ret⟩=>by
  unfold ze1 at q
  split at q
  ·rename_i n m
   split at q
   ·rename_i xs ys e1 e2
    obtain⟨hl,q⟩:=q
    cases px with
    | @ref _ a hn=>
     cases py with
     | @ref _ a' hm=>
      obtain⟨z,hz,ob⟩:=rel.at e1
      rw[hn] at hz; cases hz
      obtain⟨z,hz,ob'⟩:=rel.at e2
      rw[hm] at hz; cases hz
      obtain⟨us,h1,p1⟩:=ob
      obtain⟨vs,h2,p2⟩:=ob'
      refine⟨a,a',us,vs,rfl,rfl,h1,h2,?_,λp hp=>?_⟩
      ·rw[← p1.1,← p2.1]; exact zbr hl
      ·obtain⟨rel4,x⟩:=rel.push hp (p1.app p2)
       exact ret _ _ _ (.ref S.length) _ x rel4 (zbV rel.len) q
   ·exact q.elim
  ·exact q.elim
theorem zgQ {n m:Nat}{S:Sto}{Q:DK}{xs ys:List D}(h1:S[n]?=some (.lst xs))(h2:S[m]?=some (.lst ys))(hl:xs.length+ys.length≤1000)(hq:Q (.ref S.length) (S++[.lst (xs++ys)])):zbA ze1 (.ref n) (.ref m) S Q:=by
 rw[zbS]
 unfold ze1
 simp only[h1,h2]
 exact⟨hl,hq⟩
structure Kx (K:PySem.W.Frag)(C:Addr):Prop where
 cl:Cls K C
 ha:PySem.W.findIn K (.ref C) "__class__"=some (some (.builtin "object.__class__"))
 hn:PySem.W.specialIn K (.builtin "object.__class__") "__get__"=some (some (.builtin "getset_descriptor.__get__"))
 ht:PySem.W.takesIn K (.builtin "object.__class__")=some true
 hm:PySem.W.mroIn K C (.type "object")=some true
def KT (K:PySem.W.Frag)(cv:Value)(ans:List (Addr×Bool)):Prop:=∀C b,(C,b)∈ans→PySem.W.kitOne K (.ref C) cv=some b∧Kx K C
end
section
variable {X:Cx}{Z:Zx}
end
theorem zkT:typeLookup (.type "list_reverseiterator") "__len__"=pure none:=by rw[typeLookup_type,builtinLookup_eq_fast]; kernel_rfl
theorem zlq:typeLookup (.type "list_reverseiterator") "__length_hint__"=pure (some (.builtin "list_reverseiterator.__length_hint__")):=by rw[typeLookup_type,builtinLookup_eq_fast]; kernel_rfl
section
variable {n:Nat}{I:Addr}{fp wr:List Addr}{P:Nat→Value→Prop}{St:Nat→Shared→Prop}{prog:Program}{w:World}{A:Around}{s:Shared}{E:Value→Shared→Prop}{G:Array GenState→Array GenState→Prop}
end
def zeN (B:Nat)(p l:Addr)(n:Nat):HO:=.ext λh=>h.IsRevIter p l ((n:Int)-1)∧B≤p
def zbC (H:Hp)(p:Addr):Hp:=λa=>if a=p then none else H a
theorem zdO {H:Hp}{p a:Addr}(h:a≠p):zbC H p a=H a:=if_neg h
theorem zkZ {H:Hp}{p:Addr}:zbC H p p=none:=if_pos rfl
section
variable {X:Cx}{Z:Zx}
theorem zje:zay X (.type "reversed") (λxs H Q=>∃l ys,xs=[.ref l]∧H l=some (.lst ys)∧∀p,H p=none→Q (.ref p) (upd H p (zeN X.s₀.heap.objs.size p l ys.length))):=by
 intro pins s σ H xs us Q I r h
 obtain⟨l,ys,rfl,hH,q⟩:=h
 obtain⟨u,rfl,rx⟩:=zbl r
 cases rx
 obtain⟨z,its,n,rv,hl,e⟩:=I.lstM hH
 have il:s.heap.IsList l its.toArray:=⟨_,e,rfl,n,rfl⟩
 refine call_reversed_list il ?_
 have en:((its.toArray.size:Nat):Int)-1=((ys.length:Nat):Int)-1:=by rw[Vaf,rv.length]
 rw[en]
 refine⟨.ref s.heap.objs.size,_,I.laid (t':=s.toks) (o:=zeN X.s₀.heap.objs.size s.heap.objs.size l ys.length) (λb ob e=>Heap.get?_push_of_some _ e) (Vaa _) ?_,rfl,q _ (I.hok.fresh (Vaa _))⟩
 exact⟨⟨⟨_,Heap.get?_push_size _ rfl,rfl,rfl⟩,I.sz⟩,⟨_,Heap.get?_push_size _ rfl⟩,λh1 h2 x k=>⟨x.1.at λo e=>k o e,x.2⟩⟩
theorem zlH {H:Hp}{p:Addr}{o:HO}(h:H p=none):zbC (upd H p o) p=H:=by
 funext a
 unfold zbC
 split
 ·rename_i e
  rw[e,h]
 ·rename_i e
  exact zav e
end
structure zb5 (sc around:Scope)(own caps:List Str):Prop where
 kind:sc.kind=.function
 nocell:∀y∈sc.names,y.2≠.cell
 own:∀y∈sc.names,y.2=.local→sc.names.lookup y.1=some .local
 cap:∀y∈caps,sc.names.lookup y=some .free
 out:∀y∈sc.names,y.2=.free→around.names.lookup y.1=some .cell
def zdd (k:Nat)(caps:List Nat)(wi:TI)(gt:TG)(te:TE):TE:=λσ H Q=>wi σ H λJ H1=>∀D,H1 D=none→∃W:Nat→Nat→Hp→Prop,(∃m,W 0 m (upd H1 D (.lst [])))∧∀i m H,W i m H→
 (J.stop i H∧Q (.ref D) H)∨(J.go i H∧∀x H',J.yld i H x H'→∀o:St,o.length=k→gt x (o++zaC caps σ) H' λσ8 H8=>(∃o8:St,o8.length=k∧σ8=o8++zaC caps σ)∧
  te σ8 H8 λy H3=>∃ys,H3 D=some (.lst ys)∧ys.length<sizeLine∧∃m',m'<m∧W (i+1) m' (upd H3 D (.lst (ys++[y]))))
section
variable {X:Cx}{pins:List (Addr×Obj)}{σ:St}{H:Hp}{s:Shared}
theorem zka {sc:Scope}{own N:List Str}{caps:List Nat}{cl:List (Str×Addr)}{fp:List Addr}{h1:Heap}{m:Str→Option Value}{tk:Nat}(I:Inv X pins σ H s)(cs:zb5 sc X.env.scope own N)
  (hN:∀(j:Nat) (y:Str),N[j]?=some y→∃i,caps[j]?=some i∧X.N[i]?=some y)(hlen:caps.length=N.length)
  (c1:∀x c,cl.lookup x=some c→X.env.cells.lookup x=some c)(c2:∀y∈sc.names,y.2=.free→cl.lookup y.1=X.env.cells.lookup y.1)
  (hf:∀b∈fp,za2 X pins H b)(hfo:∀b∈fp,b<s.heap.objs.size)(hns:h1.Ns s.heap.objs.size m)(hk:∀b o,s.heap.get? b=some o→h1.get? b=some o):
  Inv (Cx.comp X sc (own++N) cl s.heap.objs.size s H fp (X.pn++pins)) [] (List.replicate own.length none++zaC caps σ) H { s with heap:=h1,toks:=tk }:=by
 have stk:∀b∈frs X.stack,b=X.env.locals∨b∈X.fs:=λb hb=>Vam.mp (I.stkSub b hb)
 refine⟨⟨I.ok.mod,cs.kind,I.ok.glob,I.ok.blt,Vaa _,λa b c h1 h2=>I.ok.inj a b c (c1 _ _ h1) (c1 _ _ h2),λy hy=>?_,λ_ _ z=>Bool.noConfusion z,I.ok.hd,I.ok.frames,.inl rfl,λb hb=>⟨Vai (hfo b hb),λy c e=>(hf b hb).2.2.2.2.1 y c (c1 _ _ e)⟩,
  I.bs,Vau I.ok.bsz I.sz,λb o e hb=>?_,λb hb z=>?_,I.stack,I.stkFree⟩,rfl,I.bare,Un.kept hk,⟨m,hns,λi y v e1 e2 e3=>?_⟩,λy c e=>?_,I.hok.fresh (Vaa _),λy c e=>I.freeC y c (c1 _ _ e),λp hp=>?_,I.hok.kept hk,?_⟩
 ·have hfr:sc.names.lookup y=some .free:=zgc cs.nocell hy
  have hm:=zdR hfr
  obtain⟨c,e⟩:=I.ok.has y (.inl (cs.out _ hm rfl))
  exact⟨c,(c2 _ hm rfl).trans e⟩
 ·rcases (hf b hb).2.2.2.1 with z | z
  ·exact I.ok.noex b o e z
  ·exact absurd (Vas (Heap.lt_size (I.ok.bs b o e).1) z) (Vav _)
 ·rcases stk b z with z | z
  ·exact(hf b hb).2.1 z
  ·exact(hf b hb).2.2.1 z
 ·rcases Nat.lt_or_ge i own.length with hi | hi
  ·rw[Vap (by simpa using hi),List.getElem?_replicate] at e2
   simp[hi] at e2
  ·obtain⟨i,rfl⟩:∃k,i=own.length+k:=⟨i-own.length,by omega⟩
   have e1':N[i]?=some y:=by
    rw[Vay hi] at e1
    simpa using e1
   have e2:(zaC caps σ)[i]?=some (some v):=by
    rw[Vay (by simp)] at e2
    simpa using e2
   obtain⟨j,hj,hy⟩:=hN i y e1'
   have e2':σ[j]?=some (some v):=by
    simp only[zaC,Vad,hj,Option.map_some,Option.some.injEq] at e2
    cases q:σ[j]? with
    | none=>rw[q] at e2; cases e2
    | some o=>rw[q] at e2; simp at e2; rw[e2]
   have hfr:sc.names.lookup y=some .free:=cs.cap y (Vag e1')
   have hm:=zdR hfr
   have hce:X.env.scope.names.lookup y=some .cell:=cs.out _ hm rfl
   obtain⟨m0,_,hl⟩:=I.loc
   obtain⟨u,r,l⟩:=hl j y v hy e2' (.inr (.inl hce))
   refine⟨u,r,.inr ⟨zgb hfr,?_⟩⟩
   rcases l with ⟨k,_⟩ | ⟨_,c,ec,hcell⟩
   ·rw[show X.env.kindOf y=some .cell from hce] at k; cases k
   ·exact⟨c,(c2 _ hm rfl).trans ec,hcell.keeps hk⟩
 ·obtain⟨v,z⟩:=I.cell y c (c1 _ _ e)
  exact⟨v,z.keeps hk⟩
 ·have hp':p∈X.pn++pins:=by simpa using hp
  obtain⟨p1,p2,p3,p4,p5⟩:=I.pin p hp'
  refine⟨hk _ _ p1,p2,Vai (Heap.lt_size p1),λz=>?_,p5⟩
  rcases stk _ z with z | z
  ·exact p3 z
  ·exact p4 z
 ·simp[zaC,hlen]
end
section
variable {X:Cx}{elt iter:Expr}{elts:List Expr}{kk:Nat}{tp:Pos}{pos:Pos}{sc:Scope}{own N:List Str}{caps:List Nat}{wi:TI}{gt:TG}{te:TE}
theorem zij {use:Option (Value→Sem Unit)}{Qr:Value→Shared→Prop}(hc:X.calm=true)(cs:zb5 sc X.env.scope own N)(hN:∀(j:Nat) (y:Str),N[j]?=some y→∃i,caps[j]?=some i∧X.N[i]?=some y)(hlen:caps.length=N.length)
  (hi:PI X (.Tuple elts kk tp) iter wi)(hg:∀cl C s0 H0 fp pn,PG (Cx.comp X sc (own++N) cl C s0 H0 fp pn) (.Tuple elts kk tp) gt)(he:∀cl C s0 H0 fp pn,PE (Cx.comp X sc (own++N) cl C s0 H0 fp pn) elt te)
  (hs:∀y,foldedSetIterable iter X.env y=pure y)
  {pins:List (Addr×Obj)}{s:Shared}{σ:St}{H:Hp}{Q:VK}{p2:Pos}(I:Inv X pins σ H s)(h:zdd own.length caps wi gt te σ H Q)
  (fin:∀D C s',zio X pins σ C Q D s'→compPost (model X.prog X.w) X.A X.xe use Qr (.ref D) C (.ok .next) s'):
  wpAny (model X.prog X.w) X.A (comprehension (.ListComp elt [⟨.Tuple elts kk tp,iter,[],0⟩] sc pos) sc X.env p2 (newList []) false (eval iter X.env) use) Qr X.xe s:=by
 obtain⟨cl,k1,k2,k3⟩:=zgY (sc:=sc) (env:=X.env) λy hy hf=>I.ok.has y.1 (.inl (cs.out y hy hf))
 refine wpAny_comprehension_free rfl hs k1 cs.kind cs.own (thn (hi pins s σ H _ I h) λv s1 h1=>thn h1 λitv s2 h2=>?_)
 obtain⟨it,fp,tn,J,H2,e,I2,T,st2,f2,body⟩:=h2
 subst e
 have hfo:∀b∈fp,b<s2.heap.objs.size:=λb hb=>by
  obtain⟨o,e,_⟩:=T.obj _ _ st2 b hb
  exact Heap.lt_size e
 have hD:H2 s2.heap.objs.size=none:=I2.hok.fresh (Vaa _)
 obtain⟨W,⟨m0,w0⟩,turn⟩:=body _ hD
 refine wpAny_newObj_type ?_
 have I3:Inv X pins σ (upd H2 s2.heap.objs.size (.lst [])) { s2 with heap:=s2.heap.push { cls:=.type "list",dict:=none,data:=.seq ([]:List Value).toArray },toks:=s2.toks }:=
  I2.laid (t':=s2.toks) (λb u e=>Heap.get?_push_of_some _ e) (Vaa _) ⟨Vaj _,[],0,.nil,Heap.get?_push_size _ rfl⟩
 generalize hs3:({ s2 with heap:=s2.heap.push { cls:=.type "list",dict:=none,data:=.seq ([]:List Value).toArray },toks:=s2.toks }:Shared)=s3 at I3
 have es3:({ s2 with heap:=s2.heap.push { cls:=.type "list",dict:=none,data:=.seq ([]:List Value).toArray } }:Shared)=s3:=hs3
 try rw[es3]
 have f3:∀b∈fp,za2 X pins (upd H2 s2.heap.objs.size (.lst [])) b:=λb hb=>⟨by rw[zav (Vai (hfo b hb))]; exact(f2 b hb).1,(f2 b hb).2⟩
 have up3:∀b o,s2.heap.get? b=some o→s3.heap.get? b=some o:=λb o e=>by rw[← hs3]; exact Heap.get?_push_of_some _ e
 have st3:tn 0 s3.heap:=T.keep _ _ _ st2 λb _ o e=>up3 b o e
 have hfo3:∀b∈fp,b<s3.heap.objs.size:=λb hb=>by
  obtain⟨o,e,_⟩:=T.obj _ _ st3 b hb
  exact Heap.lt_size e
 refine wpAny_newFunctionEnv cs.nocell (λy hy=>by simp at hy) (λh4 ns4 sb4=>?_) cs.kind
 have hk4:∀b o,s3.heap.get? b=some o→h4.get? b=some o:=λb o e=>(sb4.2 b (Vai (Heap.lt_size e))).trans (Heap.get?_push_of_some _ e)
 have I4:=zka (tk:=s3.toks+([]:List (Str×Value)).length) I3 cs hN hlen k2 k3 f3 hfo3 ns4 hk4
 generalize hs4:({ s3 with heap:=h4,toks:=s3.toks+([]:List (Str×Value)).length }:Shared)=s4 at I4 ⊢
 have eh4:s4.heap=h4:=by rw[← hs4]
 have st4:tn 0 s4.heap:=by rw[eh4]; exact T.keep _ _ _ st3 λb _ o e=>hk4 b o e
 have fY:∀ {H':Hp},(∀b∈fp,H' b=none)→∀b∈fp,za2 (Cx.comp X sc (own++N) cl s3.heap.objs.size s3 (upd H2 s2.heap.objs.size (.lst [])) fp (X.pn++pins)) [] H' b:=λhn b hb=>by
  obtain⟨_,z2,z3,z4,z5,z6⟩:=f3 b hb
  refine⟨hn b hb,Vai (hfo3 b hb),λz=>?_,.inl hb,λy c e=>z5 y c (k2 _ _ e),λp hp=>z6 p (by simpa using hp)⟩
  rcases Vam.mp (I3.stkSub b z) with z | z
  ·exact z2 z
  ·exact z3 z
 have loop:codeAny (model X.prog X.w) X.A (.compLoop (.ListComp elt [⟨.Tuple elts kk tp,iter,[],0⟩] sc pos) 0 (.ref it) (.ref s2.heap.objs.size) (compEnvC sc cl s3.heap.objs.size X.env))
   (compPost (model X.prog X.w) X.A X.xe use Qr (.ref s2.heap.objs.size) s3.heap.objs.size) s4:=by
  refine LCp.codeAny_compLoop_pair (λn s'=>∃i o H',o.length=own.length∧Inv (Cx.comp X sc (own++N) cl s3.heap.objs.size s3 (upd H2 s2.heap.objs.size (.lst [])) fp (X.pn++pins)) [] (o++zaC caps σ) H' s'∧tn i s'.heap∧(∀b∈fp,H' b=none)∧W i n H') ?_ m0
   ⟨0,_,_,List.length_replicate,I4,st4,λb hb=>(f3 b hb).1,w0⟩
  rintro n s5 ⟨i,o,H5,ho,I5,st5,fr5,w5⟩
  rcases turn i n H5 w5 with ⟨stop,q⟩ | ⟨go,step⟩
  ·refine thn (T.done (Cx.comp X sc (own++N) cl s3.heap.objs.size s3 (upd H2 s2.heap.objs.size (.lst [])) fp (X.pn++pins)) rfl rfl rfl hc i [] s5 _ H5 _ I5 (fY fr5) st5 stop) λr s6 ⟨hr,I6⟩=>?_
   subst hr
   refine fin _ _ _ ⟨⟨H5,I3.call' I6.os I6.base I6.hok I6.bare (λb hb=>?_),q,I6.free⟩,?_,Nat.ne_of_gt I3.lt,I3.sz,λy c e z=>?_,λp hp z=>?_⟩
   ·obtain⟨_,z2,z3,z4,z5,z6⟩:=f3 b hb
    exact⟨z4,z2,z5,z6⟩
   ·obtain⟨m,hm,_⟩:=I6.loc
    exact⟨m,hm⟩
   ·obtain⟨v,hv⟩:=I3.cell y c e
    exact absurd (z ▸ hv.lt) (Vav _)
   ·exact absurd (z ▸ Heap.lt_size (I3.pin p hp).1) (Vav _)
  ·refine thn (T.item (Cx.comp X sc (own++N) cl s3.heap.objs.size s3 (upd H2 s2.heap.objs.size (.lst [])) fp (X.pn++pins)) rfl rfl rfl hc i [] s5 _ H5 _ I5 (fY fr5) st5 go) λr s6 ⟨u,hr,h6⟩=>?_
   subst hr
   refine wpAny_mono h6 (λ_ s7 ⟨y,H7,I7,r7,y7,st7,fr7⟩=>?_) λ_ _ z=>z
   have I7':=I7.pinned (fY fr7) (T.obj _ _ st7)
   refine wpAny_mono (hg _ _ _ _ _ _ _ s7 _ H7 y u _ I7' r7 (step y H7 y7 o ho)) (λ_ s8 ⟨σ8,H8,I8,⟨o8,ho8,e8⟩,q8⟩=>?_) λ_ _ z=>z.elim
   subst e8
   have stay:∀ {H':Hp} {s':Shared},Inv (Cx.comp X sc (own++N) cl s3.heap.objs.size s3 (upd H2 s2.heap.objs.size (.lst [])) fp (X.pn++pins)) ([]++zcU fp s7.heap) (o8++zaC caps σ) H' s'→∀m',m'<n→W (i+1) m' H'→
     ∃m,m<n∧∃i o H',o.length=own.length∧Inv (Cx.comp X sc (own++N) cl s3.heap.objs.size s3 (upd H2 s2.heap.objs.size (.lst [])) fp (X.pn++pins)) [] (o++zaC caps σ) H' s'∧tn i s'.heap∧(∀b∈fp,H' b=none)∧W i m H':=λ{H' s'} J m' hm w'=>by
    refine⟨m',hm,i+1,o8,H',ho8,J.unpinned,T.keep _ _ _ st7 λb hb o e=>(J.pin (b,o) (VaB _ (VaB _ (zcX hb e)))).1,λb hb=>?_,w'⟩
    obtain⟨o,e,d⟩:=T.obj _ _ st7 b hb
    exact(J.pin (b,o) (VaB _ (VaB _ (zcX hb e)))).2.1
   refine wpAny_mono (he _ _ _ _ _ _ _ s8 _ H8 _ I8 q8) (λu2 s10 ⟨z,H10,I10,r10,q10⟩=>?_) λ_ _ z=>z.elim
   obtain⟨ys,hD10,hlt,m',hm,w10⟩:=q10
   refine wpAny_mono (zgE (X:=(Cx.comp X sc (own++N) cl s3.heap.objs.size s3 (upd H2 s2.heap.objs.size (.lst [])) fp (X.pn++pins))) _ s10 _ H10 (.ref s2.heap.objs.size) [z] (.ref s2.heap.objs.size) [u2] (λ_ H'=>H'=upd H10 s2.heap.objs.size (.lst (ys++[z]))) I10 rfl (.cons r10 .nil) ⟨_,ys,z,rfl,rfl,hD10,hlt,rfl⟩) (λ_ s11 ⟨_,H11,I11,_,e11⟩=>?_) λ_ _ z=>z.elim
   subst e11
   exact stay I11 m' hm w10
 exact codeAny_compStart_list loop (T.self _ 0 s4 _ _ st4 loop)
theorem ziD (hc:X.calm=true)(cs:zb5 sc X.env.scope own N)(hN:caps.map (λi=>X.N[i]?)=N.map some)
  (hi:PI X (.Tuple elts kk tp) iter wi)(hg:∀cl C s0 H0 fp pn,PG (Cx.comp X sc (own++N) cl C s0 H0 fp pn) (.Tuple elts kk tp) gt)(he:∀cl C s0 H0 fp pn,PE (Cx.comp X sc (own++N) cl C s0 H0 fp pn) elt te)
  (hs:∀y,foldedSetIterable iter X.env y=pure y:=by intro _; rfl):PE X (.ListComp elt [⟨.Tuple elts kk tp,iter,[],0⟩] sc pos) (zdd own.length caps wi gt te):=by
 intro pins s σ H Q I h
 rw[eval_ListComp]
 refine zij (use:=none) hc cs (zcP hN).1 (zcP hN).2 hi hg he hs I h λD C s' f=>?_
 obtain⟨⟨H',I',q,hC⟩,⟨m,ns⟩,l,o,c,p⟩:=f
 exact⟨m,ns,λh' sb=>⟨.ref D,H',I'.turned (t':=s'.toks) (λb ob hb e=>(sb.2 b hb).trans e) hC l (.inr o) c p,rfl,q⟩⟩
end
section
variable {X:Cx}{Z:Zx}{elt:Expr}{pos:Pos}{sc ar:Scope}{N:List Str}{caps:List Nat}
def zcH (caps:List Nat)(te:TDE)(k:Nat)(dl:Ev)(d1 d2:D)(S:Sto)(nx:Sto→Prop):Prop:=
 te (some d1::some d2::zbj caps dl) S λy S2=>match S2[k]? with
  | some (.lst ys)=>ys.length<1000∧nx (S2.set k (.lst (ys++[y])))
  | _=>False
@[irreducible] def zd5 (caps:List Nat)(ta:TDA)(te:TDE):TDE:=λdl S Q=>ta dl S λds S1=>match ds with
 | [.ref n]=>(lAt S1 n).isSome=true∧∃W:Nat→Nat→Sto→Prop,(∃m,W 0 m (S1++[.lst []]))∧∀k m S2,W k m S2→match lAt S2 n with
  | some o=>match (zac o)[k]? with
   | some y=>zcH caps te S1.length dl (.int (k:Int)) y S2 λS3=>∃m',m'<m∧W (k+1) m' S3
   | none=>k=(zac o).length∧Q (.ref S1.length) S2
  | none=>False
 | _=>False
theorem zgA {r:List Addr}{H:Hp}{dl:Ev}{σ:St}{d1 d2:D}{v1 v2:V}(h:Rs r H dl σ)(p1:Rp r H d1 v1)(p2:Rp r H d2 v2):Rs r H (some d1::some d2::zbj caps dl) (some v1::some v2::zaC caps σ):=by
 have z:=zhM (caps:=caps) h p2
 refine⟨by have:=z.1; simp only[VaO] at this ⊢; omega,λi e hi=>?_⟩
 cases i with
 | zero=>simp at hi; subst hi; exact⟨v1,rfl,p1⟩
 | succ i=>exact z.2 i e (by simpa using hi)
theorem zlZ {ta:TDA}{te:TDE}{σ:St}{H:Hp}{Qv:VK}(h:up X.K Z (zd5 caps ta te) σ H Qv):
  zdd 2 caps (zib X.K (upA X.K Z ta)) (zch X.K 2 (zcr [0,1])) (up X.K Z0 te) σ H Qv:=by
 obtain⟨r,dl,S,Q,rs,rel,h,ret⟩:=h
 unfold zd5 at h
 refine⟨r,dl,S,_,rs,rel,h,λvs H1 r1 ds S1 x1 rel1 p1 q1=>?_⟩
 split at q1
 ·rename_i n
  obtain⟨v,vs',rfl,p2,p3⟩:=p1.uncons
  have z:=p3.unnil
  subst z
  cases p2 with
  | @ref n a hr=>
   obtain⟨hsome,W,⟨m0,w0⟩,turn⟩:=q1
   obtain⟨o1,eo1⟩:=VaF.mp hsome
   obtain⟨xs1,sq1,_⟩:=za9 (r:=r1) hr rel1.b eo1
   refine⟨a,rfl,⟨xs1,sq1⟩,λD0 hD=>?_⟩
   obtain⟨rel2,x2⟩:=rel1.b.push (ds:=[]) (xs:=[]) hD Rps.nil
   refine⟨λk m H'=>∃r' S',Ext (r1++[D0]) r' (upd H1 D0 (.lst [])) H'∧zaw X.K r' S' H'∧W k m S',⟨m0,_,_,Ext.refl,rel2,w0⟩,?_⟩
   rintro k m H2 ⟨r2,S2,x3,rb2,w2⟩
   have ha2:r2[S1.length]?=some D0:=x3.adr _ _ (zel rel1.len)
   have hr2:r2[n]?=some a:=(x2.trans x3).adr _ _ hr
   have q:=turn k m S2 w2
   split at q
   ·rename_i o eo
    obtain⟨xs,sq,pr⟩:=za9 (r:=r2) hr2 rb2 eo
    split at q
    ·rename_i y ey
     obtain⟨v,hv,pv⟩:=pr.get ey
     refine .inr ⟨⟨xs,v,sq,hv⟩,λv' H' y' o8 ho8=>?_⟩
     obtain⟨T,w,rfl,hT,rfl,hw⟩:=y'
     have ew:w=v:=by
      have z:=hw xs sq
      rw[hv] at z; exact(Option.some.inj z).symm
     subst ew
     obtain⟨c1,c2,rfl⟩:∃c1 c2,o8=[c1,c2]:=by
      match o8,ho8 with
      | [c1,c2],_=>exact⟨c1,c2,rfl⟩
     have x4:Ext r2 r2 H2 (upd H2 T (.tup [.int (k:Int),w])):=zed hT
     have rb3:=rb2.same (zbv (o:=.tup [.int (k:Int),w]) hT)
     have rs3:=rs.ext (x1.trans (x2.trans (x3.trans x4)))
     refine⟨T,[.int (k:Int),w],rfl,SqT.of za6,rfl,rfl,⟨[some (.int (k:Int)),some w],rfl,rfl⟩,?_⟩
     have rsY:=zgA (caps:=caps) rs3 (.int (k:Int)) (pv.ext x4)
     refine⟨r2,_,S2,_,rsY,⟨rb3,λ_ _ _ _ _ _ _ _ _ z=>z.elim⟩,q,λz H4 r4 dz S4 x6 rel4 p4 q4=>?_⟩
     split at q4
     ·rename_i ys eys
      obtain⟨hl,m',hm,q4⟩:=q4
      have ha4:r4[S1.length]?=some D0:=x6.adr _ _ ha2
      obtain⟨zs,hD4,pz⟩:=rel4.b.ob _ _ _ ha4 eys
      obtain⟨rel5,x7⟩:=rel4.b.set ha4 eys (pz.snoc p4)
      exact⟨zs,hD4,by rw[← pz.1]; exact zcO (VaG hl),m',hm,r4,_,x3.trans (x4.trans (x6.trans x7)),rel5,q4⟩
     ·exact q4.elim
    ·obtain⟨hk,q⟩:=q
     exact .inl ⟨⟨xs,sq,by rw[← pr.1]; exact hk.symm⟩,ret _ H2 r2 _ S2 (x1.trans (x2.trans x3)) ⟨rb2,rel.xw.ext (x1.trans (x2.trans x3))⟩ (.ref ha2) q⟩
   ·exact q.elim
 ·exact q1.elim
end
section
variable {X:Cx}{Z:Zx}{pos:Pos}
@[irreducible] def zeq (is:List Nat)(tl:TDE)(tb:TDS):TDS:=λE dl S=>tl dl S λd S1=>match d with
 | .ref n=>(lAt S1 n).isSome=true∧∃W:Nat→Nat→Ev→Sto→Prop,(∃m,W 0 m dl S1)∧∀k m dl S,W k m dl S→match lAt S n with
  | some o=>match (zac o)[k]? with
   | some (.tup xs)=>xs.length=is.length∧tb { nx:=λdl' S'=>∃m',m'<m∧W (k+1) m' dl' S',rt:=E.rt,bk:=E.nx,ct:=λdl' S'=>∃m',m'<m∧W (k+1) m' dl' S' } (zb8 is xs dl) S
   | some _=>False
   | none=>E.nx dl S
  | none=>False
 | _=>False
theorem zgx {es:List Expr}{kk:Nat}{tp:Pos}{iter:Expr}{body:List Stmt}{is:List Nat}{tl:TDE}{tb:TDS}(hp:PassesOwn (model X.prog X.w) X.A X.env X.xe)(hc:X.calm=true)(hN:X.N.Nodup)(hn:Nms X es is)
  (hl:PD X Z iter tl)(hb:zbp X Z body tb)(hlen:(assignEach es X.env).length=is.length:=by rfl)(hst:(assignEach es X.env).findIdx? (·.1)=none:=by rfl)
  (hs:∀y,foldedSetIterable iter X.env y=pure y:=by intro _; rfl):PDS X Z (.For (.Tuple es kk tp) iter body [] pos) (zeq is tl tb):=
 zbJ (zec hp hc (zfM hl) (zcE hc (zcp hN hn) hlen hst) hb hs) λF σ H ⟨r,dl,S,E,rs,rel,h,ret⟩=>by
  unfold zeq at h
  refine⟨r,dl,S,_,rs,rel,h,λv H1 r1 d S1 x1 rel1 p1 q1=>?_⟩
  cases p1 with
  | @ref n a hn=>
   obtain⟨hsome,W,⟨m0,w0⟩,turn⟩:=q1
   obtain⟨o1,eo1⟩:=VaF.mp hsome
   obtain⟨xs1,sq1,_⟩:=za9 (r:=r1) hn rel1.b eo1
   refine⟨a,rfl,⟨xs1,sq1⟩,λk m σ' H'=>∃r' dl' S',Ext r1 r' H1 H'∧Rs r' H' dl' σ'∧Rel X.K Z r' S' H'∧W k m dl' S',⟨m0,r1,dl,S1,Ext.refl,rs.ext x1,rel1,w0⟩,?_⟩
   rintro k m σ2 H2 ⟨r2,dl2,S2,x2,rs2,rel2,w2⟩
   have q:=turn k m dl2 S2 w2
   split at q
   ·rename_i o eo
    obtain⟨xs,sq,pr⟩:=za9 (r:=r2) (x2.adr _ _ hn) rel2.b eo
    split at q
    ·rename_i ys ey
     obtain⟨v,hv,pv⟩:=pr.get ey
     have go:∀σ' H' r' dl' S',Ext r2 r' H2 H'→Rs r' H' dl' σ'→Rel X.K Z r' S' H'→(∃m',m'<m∧W (k+1) m' dl' S')→∃m',m'<m∧∃r' dl' S',Ext r1 r' H1 H'∧Rs r' H' dl' σ'∧Rel X.K Z r' S' H'∧W (k+1) m' dl' S':=
      λσ' H' r' dl' S' x rs' rel' ⟨m',hm,w'⟩=>⟨m',hm,r',dl',S',x2.trans x,rs',rel',w'⟩
     refine .inr ⟨⟨xs,v,sq,hv⟩,λσ' H'=>∃m',m'<m∧∃r' dl' S',Ext r1 r' H1 H'∧Rs r' H' dl' σ'∧Rel X.K Z r' S' H'∧W (k+1) m' dl' S',λ_ _ z=>z,λv' H' y'=>?_⟩
     obtain⟨eH,y'⟩:=y'
     subst eH
     have ev:v'=v:=by
      have z:=y' xs sq
      rw[hv] at z; exact(Option.some.inj z).symm
     subst ev
     obtain⟨q1,q⟩:=q
     obtain⟨T,vs,rfl,eT,ps⟩:=pv.untup
     exact⟨T,vs,rfl,SqT.of eT,by rw[← ps.1]; exact q1,by rw[← ps.1]; exact q1,r2,_,S2,_,zet rs2 ps,rel2,q,⟨go,λσ' H' r' dl' S' x rs' rel' z=>ret.nx σ' H' r' dl' S' (x1.trans (x2.trans x)) rs' rel' z,go,ret.rt.ext (x1.trans x2)⟩⟩
    ·exact q.elim
    ·rename_i ey
     have hlen:(zac o).length≤k:=VaH.mp ey
     exact .inl ⟨⟨xs,sq,by rw[← pr.1]; exact hlen⟩,ret.nx σ2 H2 r2 dl2 S2 (x1.trans x2) rs2 rel2 q⟩
   ·exact q.elim
  | _=>exact(show False from q1).elim
end
section
variable {X:Cx}{Z:Zx}
end
section
variable {X:Cx}{Z:Zx}{pos:Pos}
def zen:WC:=λds S Q=>match ds with
 | [.ref n]=>match lAt S n with
  | some o=>match zbO (zac o) with
   | some ns=>ns.length<64∧∀ms:List Int,ms.Perm ns→ms.Pairwise (·≤·)→Q (.ref S.length) (S++[.lst (ms.map D.int)])
   | none=>False
  | none=>False
 | _=>False
theorem zdH:∀ {us:List Value} {ms:List Int},IntsAre us ms→zad (ms.map V.int) us
 | _,_,.nil=>.nil
 | _,_,.cons n t h=>.cons ⟨t,rfl⟩ (zdH h)
theorem zkb {us:List Value}:∀ {zs:List (Int×Tok)},us=zs.map (λp=>Value.int p.1 p.2)→IntsAre us (zs.map (·.1)):=by
 intro zs e
 subst e
 induction zs with
 | nil=>exact .nil
 | cons z zs ih=>exact .cons z.1 z.2 ih
theorem zev:zay X (.builtin "sorted") (upC X.K Z zen):=by
 intro pins s σ H xs us Qv I rv h
 obtain⟨r,S,ds,Q,rel,ps,q,ret⟩:=h
 unfold zen at q
 split at q
 ·rename_i n
  obtain⟨v,vs,rfl,p1,p2⟩:=ps.uncons
  have z:=p2.unnil
  subst z
  split at q
  ·rename_i o eo
   split at q
   ·rename_i ns en
    obtain⟨hl,q⟩:=q
    cases p1 with
    | ref h1=>
     obtain⟨eo,eL⟩:=za4 eo
     obtain⟨a,ha,ob⟩:=rel.at eo
     rw[h1] at ha; cases ha
     obtain⟨ys,sq,pr⟩:=ob.list eL
     obtain⟨u,rfl,ru⟩:=zbl rv
     cases ru
     obtain⟨its,ri,pl,hz⟩:=I.list sq
     obtain⟨zs,hz1,hz2⟩:=zfo en pr ri
     have ei:its=zs.map (λp=>Value.int p.1 p.2):=by
      have z:=congrArg Array.toList hz1
      simpa [intItems] using z
     have ia:IntsAre its ns:=by
      have z:=zkb ei
      rwa [hz2] at z
     have ll:its.length=ns.length:=by rw[ei,Vab,← hz2,Vab]
     refine sorted_ints pl.isList ia (by omega) λout ms a1 a2 a3=>?_
     obtain⟨e,he⟩:=sortedAll_at s.heap its out
     have hf:H (s.heap.objs.size+1)=none:=I.hok.fresh (VaN _)
     obtain⟨rel2,x⟩:=rel.push (ds:=ms.map D.int) (xs:=ms.map V.int) hf (zhy ms)
     refine⟨.ref (s.heap.objs.size+1),_,I.laid (t':=s.toks) (λb o e=>sortedAll_old e) (VaN _) (show za3 X.prog X.w _ _ _ (.lst (ms.map V.int)) from ⟨?_,out.toList,e,zdH a1,by rw[Array.toArray_toList]; exact he⟩),rfl,ret _ _ _ (.ref S.length) _ x rel2 (zbV rel.len) (q ms a2 a3)⟩
     rw[Vab,a2.length_eq]
     exact zbr (by omega)
   ·exact q.elim
  ·exact q.elim
 ·exact q.elim
theorem ze0 {n:Nat}{S:Sto}{Q:DK}{o:Ob}{ns:List Int}(h:lAt S n=some o)(e:zbO (zac o)=some ns)(hl:ns.length<64)(hq:∀ms:List Int,ms.Perm ns→ms.Pairwise (·≤·)→Q (.ref S.length) (S++[.lst (ms.map D.int)])):irr zen [.ref n] S Q:=by
 rw[zcB]
 unfold zen
 simp only[h,e]
 exact⟨hl,hq⟩
end
section
variable {X:Cx}{Z:Zx}{elt:Expr}{pos:Pos}{sc ar:Scope}{N:List Str}{caps:List Nat}
@[irreducible] def zcN (caps:List Nat)(ta:TDA)(te:TDE):TDE:=λdl S Q=>ta dl S λds S1=>match ds with
 | [.ref n,.ref n']=>((lAt S1 n).isSome=true∧(lAt S1 n').isSome=true)∧∃W:Nat→Nat→Sto→Prop,(∃m,W 0 m (S1++[.lst []]))∧∀k m S2,W k m S2→match lAt S2 n,lAt S2 n' with
  | some o,some o'=>match (zac o)[k]?,(zac o')[k]? with
   | some x,some y=>zcH caps te S1.length dl x y S2 λS3=>∃m',m'<m∧W (k+1) m' S3
   | _,_=>k=min (zac o).length (zac o').length∧Q (.ref S1.length) S2
  | _,_=>False
 | _=>False
theorem zin {ta:TDA}{te:TDE}{σ:St}{H:Hp}{Qv:VK}(h:up X.K Z (zcN caps ta te) σ H Qv):
  zdd 2 caps (iZip X.K (upA X.K Z ta)) (zch X.K 2 (zcr [0,1])) (up X.K Z0 te) σ H Qv:=by
 obtain⟨r,dl,S,Q,rs,rel,h,ret⟩:=h
 unfold zcN at h
 refine⟨r,dl,S,_,rs,rel,h,λvs H1 r1 ds S1 x1 rel1 p1 q1=>?_⟩
 split at q1
 ·rename_i n n'
  obtain⟨v,vs',rfl,p2,p3⟩:=p1.uncons
  obtain⟨v',vs2,rfl,p4,p5⟩:=p3.uncons
  have z:=p5.unnil
  subst z
  cases p2 with
  | @ref n a hr=>
   cases p4 with
   | @ref n' a' hr'=>
    obtain⟨⟨hsome,hsome'⟩,W,⟨m0,w0⟩,turn⟩:=q1
    obtain⟨o1,eo1⟩:=VaF.mp hsome
    obtain⟨o2,eo2⟩:=VaF.mp hsome'
    obtain⟨xs1,sq1,_⟩:=za9 (r:=r1) hr rel1.b eo1
    obtain⟨ys1,sq2,_⟩:=za9 (r:=r1) hr' rel1.b eo2
    refine⟨a,a',rfl,⟨xs1,sq1⟩,⟨ys1,sq2⟩,λD0 hD=>?_⟩
    obtain⟨rel2,x2⟩:=rel1.b.push (ds:=[]) (xs:=[]) hD Rps.nil
    refine⟨λk m H'=>∃r' S',Ext (r1++[D0]) r' (upd H1 D0 (.lst [])) H'∧zaw X.K r' S' H'∧W k m S',⟨m0,_,_,Ext.refl,rel2,w0⟩,?_⟩
    rintro k m H2 ⟨r2,S2,x3,rb2,w2⟩
    have ha2:r2[S1.length]?=some D0:=x3.adr _ _ (zel rel1.len)
    have hr2:r2[n]?=some a:=(x2.trans x3).adr _ _ hr
    have hr2':r2[n']?=some a':=(x2.trans x3).adr _ _ hr'
    have q:=turn k m S2 w2
    split at q
    ·rename_i o o' eo eo'
     obtain⟨xs,sq,pr⟩:=za9 (r:=r2) hr2 rb2 eo
     obtain⟨ys,sq',pr'⟩:=za9 (r:=r2) hr2' rb2 eo'
     split at q
     ·rename_i y y2 ey ey2
      obtain⟨v,hv,pv⟩:=pr.get ey
      obtain⟨u,hvu,pu⟩:=pr'.get ey2
      refine .inr ⟨⟨xs,ys,v,u,sq,sq',hv,hvu⟩,λv' H' y' o8 ho8=>?_⟩
      obtain⟨T,w,w2',rfl,hT,rfl,hw,hw2⟩:=y'
      have ew:w=v:=by
       have z:=hw xs sq
       rw[hv] at z; exact(Option.some.inj z).symm
      have ew2:w2'=u:=by
       have z:=hw2 ys sq'
       rw[hvu] at z; exact(Option.some.inj z).symm
      subst ew ew2
      obtain⟨c1,c2,rfl⟩:∃c1 c2,o8=[c1,c2]:=by
       match o8,ho8 with
       | [c1,c2],_=>exact⟨c1,c2,rfl⟩
      have x4:Ext r2 r2 H2 (upd H2 T (.tup [w,w2'])):=zed hT
      have rb3:=rb2.same (zbv (o:=.tup [w,w2']) hT)
      have rs3:=rs.ext (x1.trans (x2.trans (x3.trans x4)))
      refine⟨T,[w,w2'],rfl,SqT.of za6,rfl,rfl,⟨[some w,some w2'],rfl,rfl⟩,?_⟩
      have rsY:=zgA (caps:=caps) rs3 (pv.ext x4) (pu.ext x4)
      refine⟨r2,_,S2,_,rsY,⟨rb3,λ_ _ _ _ _ _ _ _ _ z=>z.elim⟩,q,λz H4 r4 dz S4 x6 rel4 p4 q4=>?_⟩
      split at q4
      ·rename_i ys eys
       obtain⟨hl,m',hm,q4⟩:=q4
       have ha4:r4[S1.length]?=some D0:=x6.adr _ _ ha2
       obtain⟨zs,hD4,pz⟩:=rel4.b.ob _ _ _ ha4 eys
       obtain⟨rel5,x7⟩:=rel4.b.set ha4 eys (pz.snoc p4)
       exact⟨zs,hD4,by rw[← pz.1]; exact zcO (VaG hl),m',hm,r4,_,x3.trans (x4.trans (x6.trans x7)),rel5,q4⟩
      ·exact q4.elim
     ·obtain⟨hk,q⟩:=q
      exact .inl ⟨⟨xs,ys,sq,sq',by rw[← pr.1,← pr'.1]; exact hk.symm⟩,ret _ H2 r2 _ S2 (x1.trans (x2.trans x3)) ⟨rb2,rel.xw.ext (x1.trans (x2.trans x3))⟩ (.ref ha2) q⟩
    ·exact q.elim
 ·exact q1.elim
theorem zm0 {ta:TDA}{te:TDE}{x1 x2:Str}{p1 p2 p pos2 tp:Pos}{kk:Nat}{a b:Expr}(har:X.env.scope=ar)(hc:X.calm=true)(cs:zb5 sc ar [x1,x2] N)(hl1:sc.names.lookup x1=some .local)(hl2:sc.names.lookup x2=some .local)
  (hN:caps.map (λi=>X.N[i]?)=N.map some)(hnd:([x1,x2]++N).Nodup)(hg:Gl X "zip")(hm:X.mg "zip"=none)(hv:bootBuiltins "zip"=some (.type "zip"))(ha:PDA X Z [a,b] ta)
  (he:∀cl C s0 H0 fp pn,PD (Cx.comp X sc ([x1,x2]++N) cl C s0 H0 fp pn) Z0 elt te)
  (hse:starEach [a,b] X.env=[(false,eval a X.env),(false,eval b X.env)]:=by rfl)(hse2:starEach [b] X.env=[(false,eval b X.env)]:=by rfl)(hs:∀y,foldedSetIterable (.Call (.Name "zip" p) [a,b] [] pos2) X.env y=pure y:=by intro _; rfl):
  PD X Z (.ListComp elt [⟨.Tuple [.Name x1 p1,.Name x2 p2] kk tp,.Call (.Name "zip" p) [a,b] [] pos2,[],0⟩] sc pos) (zcN caps ta te):=by
 subst har
 refine zaW (ziD hc cs hN (gt:=zch X.K 2 (zcr [0,1])) (te:=up X.K Z0 te) (zgH hg hm hv ha hse hse2) (λcl C s0 H0 fp pn=>?_) he hs) λ_ _ _ h=>zin h
 have l1:(Cx.comp X sc ([x1,x2]++N) cl C s0 H0 fp pn).env.scope.names.lookup x1=some .local:=lookup_relabel_local hl1
 have l2:(Cx.comp X sc ([x1,x2]++N) cl C s0 H0 fp pn).env.scope.names.lookup x2=some .local:=lookup_relabel_local hl2
 exact zcE hc (zcp hnd (.cons rfl (.inl l1) (.inr l1) (.cons rfl (.inl l2) (.inr l2) .nil))) rfl rfl
end
section
variable {X:Cx}{Z:Zx}{pos:Pos}
end
section
variable {n:Nat}{I:Addr}{fp wr:List Addr}{P:Nat→Value→Prop}{St:Nat→Shared→Prop}{prog:Program}{w:World}{A:Around}{s:Shared}{E:Value→Shared→Prop}{G:Array GenState→Array GenState→Prop}
theorem zjx {Q:Value→Shared→Prop}(W:WalksS prog w A.in1.in1 I fp wr G n P St)(hT:∀i s,St i s→s.TypeIs (.ref I) "list_reverseiterator")(hst:St 0 s)(hfp:∀b∈fp,b<s.heap.objs.size)(hI:I∈fp)
  (hQ:∀s' acc' c',Moved (s.heap.objs.size::wr) G { s with heap:=s.heap.push { cls:=.type "list",data:=.seq #[] } } s'→s'.heap.get? s.heap.objs.size=some { cls:=.type "list",dict:=none,data:=.seq acc' c',slots:=#[] }→ItemsOf P acc' n→Q (.ref s.heap.objs.size) s')(hn:n≤sizeLine):wpAny (model prog w) A (call (.type "list") [.ref I]) Q E s:=by
 have off:s.heap.objs.size ∉ fp:=λz=>absurd (hfp _ z) (Vav _)
 have offI:s.heap.objs.size≠I:=λz=>off (by rw[z]; exact hI)
 have neS:Builtin.List.listSameRef (.ref s.heap.objs.size) (.ref I)=false:=by simp[Builtin.List.listSameRef,offI]
 refine callType_codes (Q₁:=λo1 t1=>o1=.ref s.heap.objs.size∧t1={ s with heap:=s.heap.push { cls:=.type "list",data:=.seq #[] } }) PySem.F.called_list (PySem.F.typeCall_list_1 _) PySem.F.entry_list_init (code_list_new _ ⟨rfl,rfl⟩) λo1 t1 h1=>?_
 obtain⟨rfl,rfl⟩:=h1
 have new1:(s.heap.push { cls:=.type "list",data:=.seq #[] }).get? s.heap.objs.size=some { cls:=.type "list",data:=.seq #[] }:=Heap.get?_push_size _ (by rfl)
 refine⟨⟨_,new1,rfl⟩,PySem.F.args_list_init_2 _ _,?_⟩
 have st1:=W.frame 0 s (s.heap.push { cls:=.type "list",data:=.seq #[] }) s.toks hst (Vaa _) (λb _ o e=>Heap.get?_push_of_some _ e)
 generalize hs1:({ s with heap:=s.heap.push { cls:=.type "list",data:=.seq #[] } }:Shared)=s1 at hQ new1 st1 ⊢
 have n1:s1.heap.get? s.heap.objs.size=some { cls:=.type "list",data:=.seq #[] }:=by rw[← hs1]; exact Heap.get?_push_size _ (by rfl)
 change wpAny _ A.in1.in1 (do let old ← Builtin.List.listItems (.ref s.heap.objs.size); Builtin.List.listUpdate (.ref s.heap.objs.size) (λ_=>#[]); letGo old.toList.reverse; Builtin.List.listExtendWith (.ref s.heap.objs.size) (.ref I) .none) _ _ s1
 refine wpAny_bind ?_
 unfold Builtin.List.listItems
 refine wpAny_bind (wpAny_seqItems n1 rfl (wpAny_pure ?_))
 change wpAny _ A.in1.in1 (updateSeq s.heap.objs.size (λ_=>#[]) >>= λ_=>letGo (#[]:Array Value).toList.reverse >>= λ_=>Builtin.List.listExtendWith (.ref s.heap.objs.size) (.ref I) .none) _ _ s1
 refine wpAny_bind (wpAny_updateSeq n1 rfl ?_)
 have n2:=Heap.get?_update_self (Obj.mapSeq (λ_=>(#[]:Array Value))) n1 rfl
 have oth:∀b o,b≠s.heap.objs.size→s1.heap.get? b=some o→(s1.heap.update s.heap.objs.size (Obj.mapSeq (λ_=>(#[]:Array Value)))).get? b=some o:=
  λb u nb e=>(Heap.get?_update_other _ _ (Ne.symm nb)).trans e
 refine wpAny_bind (wpAny_letGo (?_:_))
 have stS:St 0 s1:=st1
 have st2:=W.frame 0 s1 (s1.heap.update s.heap.objs.size (Obj.mapSeq (λ_=>(#[]:Array Value)))) s1.toks stS (Vaa _) λb hb o e=>oth b o (λz=>off (z ▸ hb)) e
 unfold Builtin.List.listExtendWith; refine wpAny_bind (wpAny_typeOf (hT 0 _ st2) ?_)
 rw[if_neg (by rw[neS]; decide)]
 refine wpAny_bind (W.self 0 _ _ _ st2 (wpAny_bind (wpAny_holding ?_)))
 unfold Builtin.List.listLengthHint; refine wpAny_bind (wpAny_specialOf (hT 0 _ st2) zkT ?_)
 change wpAny _ A.in1.in1 (specialOf (Value.ref I) (Str.ofString "__length_hint__") >>= _) _ _ _
 refine wpAny_bind (wpAny_specialOf (hT 0 _ st2) zlq ?_)
 generalize hid:("list_reverseiterator.__length_hint__":String)=nm
 wp_delta
 have two:splitId nm=some ("list_reverseiterator","__length_hint__"):=by subst hid; decide +kernel
 rw[two]
 subst hid
 refine wpAny_bind (wpAny_isInstance (T:="list_reverseiterator") (b:=true) (hT 0 _ st2) (by rw[isSubtype_type]; kernel_rfl) ?_)
 refine wpAny_pure ?_
 rw[if_neg (by decide)]
 refine wpAny_pure ⟨plainId_quiet PySem.F.plain_extend_loop _,codeAny_extend_loopS W hn _ off _ n 0 _ _ _ rfl (Vaj _) st2 n2 (ItemsOf.nil P) λs' acc' c' hm hS' hacc=>?_⟩
 exact⟨rfl,hQ s' acc' c' (Moved.trans W.gtrans ((Moved.refl W.grefl).then_heap (Vaa _) λb o hb e=>oth b o (λz=>hb (z ▸ VaQ)) e) hm) hS' hacc⟩
end
section
variable {X:Cx}{Z:Zx}{pos:Pos}
theorem zh8 {H:Hp}{a:Addr}{o u:HO}:upd (upd H a o) a u=upd H a u:=by
 funext b
 by_cases e:b=a
 ·subst e
  rw[za6,za6]
 ·rw[zav e,zav e,zav e]
theorem zmn (hc:X.calm=true):zay X (.type "list") (λxs H Q=>∃p l ys,xs=[.ref p]∧H p=some (zeN X.s₀.heap.objs.size p l ys.length)∧H l=some (.lst ys)∧∀a,zbC H p a=none→Q (.ref a) (upd (zbC H p) a (.lst ys.reverse))):=by
 intro pins s σ H xs us Q I rv h
 obtain⟨p,l,ys,rfl,hp,hl,q⟩:=h
 obtain⟨u,rfl,ru⟩:=zbl rv
 cases ru
 obtain⟨z,its,n,rv,hz,e⟩:=I.lstM hl
 have il:s.heap.IsList l its.toArray:=⟨_,e,rfl,n,rfl⟩
 have ok:za3 X.prog X.w H s.heap p (zeN X.s₀.heap.objs.size p l ys.length):=I.hok p _ hp
 obtain⟨⟨ir,above⟩,⟨op,ep⟩,_⟩:=ok
 have ne:l≠p:=zeE hl hp (by intro z; cases z)
 have ln:its.length=ys.length:=rv.length.symm
 have W:=(Walks.listRev (prog:=X.prog) (w:=X.w) (A:=X.A.in1.in1) (I.ok.hd hc) p l ne its.toArray).toS
 have s0:(0:Nat)≤its.toArray.size∧s.heap.IsRevIter p l ((its.toArray.size:Int)-1-((0:Nat):Int))∧s.heap.IsList l its.toArray:=⟨Vaj _,by
  have e2:((its.toArray.size:Nat):Int)-1-((0:Nat):Int)=((ys.length:Nat):Int)-1:=by rw[Vaf,ln]; omega
  rw[e2]; exact ir,il⟩
 refine zjx W (λi s st=>st.2.1.typeIs) s0 (λb hb=>?_) (by simp) (λs' acc c hm hS hi=>?_) (by rw[Vaf]; omega)
 ·have z:b=p∨b=l:=by simpa using hb
  rcases z with rfl | rfl
  ·exact Heap.lt_size ep
  ·exact Heap.lt_size e
 ·have ea:acc.toList=its.reverse:=by
   have la:acc.toList.length=its.length:=by
    have z:=hi.1
    simpa using z
   refine VaU λj=>?_
   by_cases hj:j<acc.toList.length
   ·have e1:=Vae hj
    have e2:acc[j]?=some acc.toList[j]:=by rw[← Array.getElem?_toList,e1]
    have e3:=hi.2 j _ e2
    have e4:its[its.length-1-j]?=some acc.toList[j]:=by simpa using e3
    rw[e1,List.getElem?_reverse (by omega),e4]
   ·rw[Vaz (by omega),Vaz (by simp; omega)]
  obtain⟨h',g',d',k',o'⟩:=s'
  obtain⟨m1,m2,m3,m4,m5⟩:=hm
  dsimp only at m2 m3 m4 hS
  subst m2 m3 m4
  have np:∀b u,H b=some u→(∀φ,u≠HO.ext φ)→b≠p:=λb u e n z=>by
   subst z
   rw[hp] at e
   cases e
   exact n _ rfl
  have I1:Inv X pins σ (zbC H p) { s with heap:=s.heap,toks:=s.toks }:=I.un ⟨λb o e _ _ _=>e,λb o e _ _ _=>⟨o.slots,e⟩,λb o _ n _=>by
    unfold zbC
    split
    ·rfl
    ·exact n,λb o e _=>⟨o,e⟩,λb xs e=>by rw[zdO (np b _ e λφ=>by simp)]; exact e,λb o u e=>by rw[zdO (np b _ e λφ=>by simp)]; exact e,λb qs e=>⟨#[],by rw[zdO (np b _ e λφ=>by simp),e]; simp⟩⟩ (λb u e=>by
    unfold zbC at e
    split at e
    ·cases e
    ·rename_i hb
     exact(I.hok b u e).stay (λ_ _ _ q=>q) (λc e2=>by rw[zdO (np c _ e2 λφ=>by simp)]; exact e2) (λc xs e2=>by rw[zdO (np c _ e2 λφ=>by simp)]; exact e2))
  have fr:zbC H p s.heap.objs.size=none:=I1.fresh
  have I2:Inv X pins σ (upd (zbC H p) s.heap.objs.size (.lst [])) { s with heap:=s.heap.push { cls:=.type "list",data:=.seq ([]:List Value).toArray },toks:=s.toks }:=I1.lnew (ys:=[]) (its:=[]) .nil (Vaj _)
  have nS:s.heap.objs.size≠p:=λz=>absurd (Heap.lt_size ep) (by rw[z]; exact Vav _)
  have g0:(s.heap.push { cls:=.type "list",data:=.seq ([]:List Value).toArray }).get? s.heap.objs.size=some { cls:=.type "list",data:=.seq ([]:List Value).toArray }:=Heap.get?_push_size _ (by rfl)
  have g1:=Heap.get?_update_self (λ_=>{ cls:=.type "list",dict:=none,data:=.seq acc c,slots:=#[] }) g0 rfl
  have I3:=I2.write (t':=s.toks) (x:=s.heap.objs.size) (e:=s.heap.objs.size) (o:=.lst ys.reverse) (h':=(s.heap.push { cls:=.type "list",data:=.seq ([]:List Value).toArray }).update s.heap.objs.size (λ_=>{ cls:=.type "list",dict:=none,data:=.seq acc c,slots:=#[] })) (by rw[za6]; exact trivial) (.inl rfl) (λb u hb hu=>(Heap.get?_update_other _ _ (Ne.symm hb)).trans hu) ⟨_,g1⟩ ⟨by rw[List.length_reverse]; exact z,acc.toList,c,by rw[ea]; exact rv.reverse,by rw[Array.toArray_toList]; exact g1⟩
  rw[zh8] at I3
  have pl:p≠X.env.locals:=λz=>by
   have:=I.free
   rw[← z,hp] at this
   cases this
  have I4:=I3.turned (it:=p) (h':=h') (t':=k') (λb o hb e=>by
    by_cases eb:b=s.heap.objs.size
    ·subst eb
     have z:some _=some o:=g1.symm.trans e
     cases z
     exact hS
    ·have z:(s.heap.push { cls:=.type "list",data:=.seq ([]:List Value).toArray }).get? b=some o:=(Heap.get?_update_other _ _ (Ne.symm eb)).symm.trans e
     exact m1 b o (by simp[hb,eb]) z) (by rw[zav (Ne.symm nS)]; exact zkZ) pl (.inr above) (λx c e z=>by
    have:=I.freeC x c e
    rw[z,hp] at this
    cases this) (λq hq z=>by
    have:=(I.pin q hq).2.1
    rw[z,hp] at this
    cases this)
  exact⟨.ref s.heap.objs.size,_,I4,rfl,q _ fr⟩
@[irreducible] def zeO (te:TDE):TDE:=λdl S Q=>te dl S λx S1=>match x with
 | .ref n=>match S1[n]? with
  | some (.lst ds)=>Q (.ref S1.length) (S1++[.lst ds.reverse])
  | _=>False
 | _=>False
theorem zmg {te:TDE}{dl:Ev}{S S1:Sto}{Q:DK}{n:Nat}{ds:List D}(hte:∀K:DK,K (.ref n) S1→te dl S K)(h:S1[n]?=some (.lst ds))(hq:Q (.ref S1.length) (S1++[.lst ds.reverse])):zeO te dl S Q:=by
 unfold zeO
 refine hte _ ?_
 simp only[h]
 exact hq
theorem Rps.rev {r:List Addr}{H:Hp}{ds:List D}{xs:List V}(h:Rps r H ds xs):Rps r H ds.reverse xs.reverse:=by
 refine⟨by rw[List.length_reverse,List.length_reverse,h.1],λi d v hd hv=>?_⟩
 have l:=(Vac.mp hd).1
 rw[List.length_reverse] at l
 rw[List.getElem?_reverse l] at hd
 rw[List.getElem?_reverse (by rw[← h.1]; exact l),← h.1] at hv
 exact h.2 _ d v hd hv
theorem zjN {e:Expr}{te:TDE}{p p2 pos2:Pos}(hc:X.calm=true)(hgl:Gl X "list")(hml:X.mg "list"=none)(hvl:bootBuiltins "list"=some (.type "list"))(hg:Gl X "reversed")(hm:X.mg "reversed"=none)(hv:bootBuiltins "reversed"=some (.type "reversed"))(he:PD X Z e te)
  (hs:starEach [.Call (.Name "reversed" p) [e] [] pos2] X.env=(false,eval (.Call (.Name "reversed" p) [e] [] pos2) X.env)::starEach [] X.env:=by rfl)(hpl:(backTo pos (starEach [] X.env)).any (·.1)=false:=by rfl)
  (hs2:starEach [e] X.env=(false,eval e X.env)::starEach [] X.env:=by rfl)(hpl2:(backTo pos2 (starEach [] X.env)).any (·.1)=false:=by rfl):
  PD X Z (.Call (.Name "list" p2) [.Call (.Name "reversed" p) [e] [] pos2] [] pos) (zeO te):=
 zaW (zdZ (zmn hc) hgl hml hvl (zdJ (zdZ zje hg hm hv (zdJ he zej hs2) (by decide) (by decide) hs2 hpl2) zej hs) (by decide) (by decide) hs hpl) λσ H Qv ⟨r,dl,S,Q,rs,rel,h,ret⟩=>by
  unfold zeO at h
  refine⟨r,dl,S,_,rs,rel,h,λv H1 r1 d S1 e1 rel1 p1 q1=>?_⟩
  cases p1 with
  | @ref n a hn=>
   dsimp only at q1
   split at q1
   ·rename_i ds eS
    obtain⟨ys,eH,pr⟩:=rel1.b.ob n a _ hn eS
    refine⟨a,ys,rfl,eH,λb hb=>?_⟩
    have nb:a≠b:=zcG eH hb
    refine⟨b,a,ys,rfl,za6,by rw[zav nb]; exact eH,λc hc'=>?_⟩
    rw[zlH hb] at hc' ⊢
    obtain⟨rel2,x⟩:=rel1.push hc' pr.rev
    exact ret _ _ _ (.ref S1.length) _ (e1.trans x) rel2 (zbV rel1.len) q1
   ·exact q1.elim
  | _=>exact(show False from q1).elim
end
section
variable {X:Cx}{Z:Zx}{pos:Pos}
theorem Rps.erase {r:List Addr}{H:Hp}:∀ {ds:List D} {xs:List V} (k:Nat),Rps r H ds xs→Rps r H (ds.eraseIdx k) (xs.eraseIdx k)
 | [],xs,k,h=>by
  have z:=h.unnil
  subst z
  exact h
 | d::ds,xs,0,h=>by
  obtain⟨v,vs,rfl,p1,p2⟩:=h.uncons
  exact p2
 | d::ds,xs,k+1,h=>by
  obtain⟨v,vs,rfl,p1,p2⟩:=h.uncons
  exact Rps.cons p1 (p2.erase k)
theorem Rps.ins {r:List Addr}{H:Hp}{y:D}{w:V}(hy:Rp r H y w):∀ {ds:List D} {xs:List V} (k:Nat),Rps r H ds xs→Rps r H (ds.take k++y::ds.drop k) (xs.take k++w::xs.drop k)
 | [],xs,k,h=>by
  have z:=h.unnil
  subst z
  simpa using Rps.cons hy h
 | d::ds,xs,0,h=>Rps.cons hy h
 | d::ds,xs,k+1,h=>by
  obtain⟨v,vs,rfl,p1,p2⟩:=h.uncons
  exact Rps.cons p1 (Rps.ins hy k p2)
theorem ziF {P:Sto→D→D→Prop}{A:Around}{H:Hp}{s:Shared}{r:List Addr}{S:Sto}{ds es:List D}{xs ys:List V}{is js:List Value}(f:∀ {d e:D} {v1 v2:V} {u1 u2:Value},P S d e→Rp r H d v1→Rp r H e v2→zag v1 u1→zag v2 u2→SeqAt.EqAt A s u1 u2 true)(pr:Rps r H ds xs)(pr':Rps r H es ys)(ri:zad xs is)(rj:zad ys js)(hall:∀(k:Nat) (d e:D),ds[k]?=some d→es[k]?=some e→P S d e):
  ∀(k:Nat) (h1:k<is.toArray.size) (h2:k<js.toArray.size),SeqAt.EqAt A s is.toArray[k] js.toArray[k] true:=λk h1 h2=>by
 have l3:=ri.length
 have l4:=rj.length
 have k1:k<is.length:=by simpa using h1
 have k2:k<js.length:=by simpa using h2
 obtain⟨d,hd,pd⟩:=pr.get' (Vae (l:=xs) (i:=k) (by omega))
 obtain⟨e,he,pe⟩:=pr'.get' (Vae (l:=ys) (i:=k) (by omega))
 obtain⟨u1,hu1,ru1⟩:=ri.get (Vae (l:=xs) (i:=k) (by omega))
 obtain⟨u2,hu2,ru2⟩:=rj.get (Vae (l:=ys) (i:=k) (by omega))
 have z1:is.toArray[k]=u1:=by
  rw[Vae k1] at hu1
  simpa using Option.some.inj hu1
 have z2:js.toArray[k]=u2:=by
  rw[Vae k2] at hu2
  simpa using Option.some.inj hu2
 rw[z1,z2]
 exact f (hall k d e hd he) pd pe ru1 ru2
end
section
variable {X:Cx}{Z:Zx}{elt iter:Expr}{elts:List Expr}{kk:Nat}{tp pos:Pos}{sc ar:Scope}{own N:List Str}{caps:List Nat}{wi:TI}{gt:TG}
theorem zhE {te:TE}{i:Nat}{y:Str}{py spos:Pos}(hc:X.calm=true)(cs:zb5 sc X.env.scope own N)(hN:caps.map (λi=>X.N[i]?)=N.map some)
  (hi:PI X (.Tuple elts kk tp) iter wi)(hg:∀cl C s0 H0 fp pn,PG (Cx.comp X sc (own++N) cl C s0 H0 fp pn) (.Tuple elts kk tp) gt)(he:∀cl C s0 H0 fp pn,PE (Cx.comp X sc (own++N) cl C s0 H0 fp pn) elt te)
  (hNd:X.N.Nodup)(hy:X.N[i]?=some y)(hl:X.env.scope.names.lookup y=some .local)
  (hsw:swapsWith (.ListComp elt [⟨.Tuple elts kk tp,iter,[],0⟩] sc pos) (some (.Name y py)) spos.line X.env=pure true)
  (hs:∀y,foldedSetIterable iter X.env y=pure y:=by intro _; rfl):PS X (.Assign [.Name y py] (.ListComp elt [⟨.Tuple elts kk tp,iter,[],0⟩] sc pos) spos) (λE σ H=>zdd own.length caps wi gt te σ H λv H1=>E.nx (σ.set i (some v)) H1):=by
 intro pins s σ H E I h
 rw[exec_Assign_Name_used (hs:=hsw)]
 refine wpAny_bind (wpAny_standAt ?_); refine wpAny_bind ?_; show wpAny _ _ (comprehension _ sc X.env _ (newList []) false (eval iter X.env) (some (assign (.Name y py) X.env)) >>= λ_=>pure ()) _ _ s
 refine wpAny_bind (thn (zij (use:=some (assign (.Name y py) X.env)) (Qr:=λ_ s'=>SP X pins E .next s') hc cs (zcP hN).1 (zcP hN).2 hi hg he hs I h λD C s' f=>?_) λ_ s' hq=>wpAny_pure (wpAny_pure hq))
 obtain⟨⟨H',I',q,hC⟩,⟨m,ns⟩,l,o,c,p⟩:=f
 refine wpAny_assign_Name (zi6 (v:=.ref D) I' hNd hy (.inl hl) rfl (λs'' I'' ⟨a,sb,ha⟩=>⟨m,ns.sameBut sb ?_,λh' sb'=>⟨_,H',I''.turned (t':=s''.toks) (λb ob hb e=>(sb'.2 b hb).trans e) hC l (.inr o) c p,q⟩⟩) (.inr hl))
 rcases ha with rfl | ha
 ·exact l
 ·exact Ne.symm (c _ _ ha)
theorem zkd {ta:TDA}{te:TDE}{x1 x2:Str}{p1 p2 p pos2:Pos}{a b:Expr}{i:Nat}{y:Str}{py spos:Pos}(har:X.env.scope=ar)(hc:X.calm=true)(cs:zb5 sc ar [x1,x2] N)(hl1:sc.names.lookup x1=some .local)(hl2:sc.names.lookup x2=some .local)
  (hN:caps.map (λi=>X.N[i]?)=N.map some)(hnd:([x1,x2]++N).Nodup)(hNd:X.N.Nodup)(hy:X.N[i]?=some y)(hlo:ar.names.lookup y=some .local)(hg:Gl X "zip")(hm:X.mg "zip"=none)(hv:bootBuiltins "zip"=some (.type "zip"))(ha:PDA X Z [a,b] ta)
  (he:∀cl C s0 H0 fp pn,PD (Cx.comp X sc ([x1,x2]++N) cl C s0 H0 fp pn) Z0 elt te)
  (hsw:swapsWith (.ListComp elt [⟨.Tuple [.Name x1 p1,.Name x2 p2] kk tp,.Call (.Name "zip" p) [a,b] [] pos2,[],0⟩] sc pos) (some (.Name y py)) spos.line X.env=pure true:=by rfl)
  (hse:starEach [a,b] X.env=[(false,eval a X.env),(false,eval b X.env)]:=by rfl)(hse2:starEach [b] X.env=[(false,eval b X.env)]:=by rfl)(hs:∀y,foldedSetIterable (.Call (.Name "zip" p) [a,b] [] pos2) X.env y=pure y:=by intro _; rfl):
  PDS X Z (.Assign [.Name y py] (.ListComp elt [⟨.Tuple [.Name x1 p1,.Name x2 p2] kk tp,.Call (.Name "zip" p) [a,b] [] pos2,[],0⟩] sc pos) spos) (zfP i (zcN caps ta te)):=by
 subst har
 refine zbJ (zhE hc cs hN (gt:=zch X.K 2 (zcr [0,1])) (te:=up X.K Z0 te) (zgH hg hm hv ha hse hse2) (λcl C s0 H0 fp pn=>?_) he hNd hy hlo hsw hs) λF σ H h=>zhK (λ_ h=>zin h) h
 have l1:(Cx.comp X sc ([x1,x2]++N) cl C s0 H0 fp pn).env.scope.names.lookup x1=some .local:=lookup_relabel_local hl1
 have l2:(Cx.comp X sc ([x1,x2]++N) cl C s0 H0 fp pn).env.scope.names.lookup x2=some .local:=lookup_relabel_local hl2
 exact zcE hc (zcp hnd (.cons rfl (.inl l1) (.inr l1) (.cons rfl (.inl l2) (.inr l2) .nil))) rfl rfl
end
section
variable {X:Cx}{Z:Zx}
end
section
variable {X:Cx}{Z:Zx}{pos:Pos}
end
end L3
namespace L2
open PySem PySem.Spec PyProof.Rows
section
variable {X:Cx}{tg:Expr}
end
end L2
namespace L3
open PySem PySem.Spec PyProof.Rows L2
section
variable {X:Cx}{Z:Zx}{pos:Pos}
end
end L3
set_option Elab.async false
set_option linter.all false
set_option maxRecDepth 100000
set_option maxHeartbeats 40000000
namespace Mine
open PySem PySem.Spec PyProof.Rows L2 L3
theorem fsc {N P:List Str}{sc:Scope}(a:sc.kind=.function:=by rfl)(b:sc.isCoroutine=false:=by rfl)(c:sc.isGenerator=false:=by rfl)(d:N.Nodup:=by decide +kernel)(e:N.take P.length=P:=by rfl)(f:∀x∈P,sc.names.lookup x=some .local∨sc.names.lookup x=some .cell:=by decide +kernel)(g:∀y∈sc.names,y.2≠.free:=by decide +kernel):zaN N P sc:=⟨a,b,c,d,e,f,g⟩
theorem csc {sc ar:Scope}{x:Str}{caps:List Str}(a:sc.kind=.function:=by rfl)(b:∀y∈sc.names,y.2≠.cell:=by decide +kernel)(c:∀y∈sc.names,y.2=.local→sc.names.lookup y.1=some .local:=by decide +kernel)(d:sc.names.lookup x=some .local:=by rfl)(e:∀y∈caps,sc.names.lookup y=some .free:=by decide +kernel)(f:∀y∈sc.names,y.2=.free→ar.names.lookup y.1=some .cell:=by decide +kernel):zc5 sc ar x caps:=⟨a,b,c,d,e,f⟩
theorem zdj {sc ar:Scope}{own caps:List Str}(a:sc.kind=.function:=by rfl)(b:∀y∈sc.names,y.2≠.cell:=by decide +kernel)(c:∀y∈sc.names,y.2=.local→sc.names.lookup y.1=some .local:=by decide +kernel)(e:∀y∈caps,sc.names.lookup y=some .free:=by decide +kernel)(f:∀y∈sc.names,y.2=.free→ar.names.lookup y.1=some .cell:=by decide +kernel):zb5 sc ar own caps:=⟨a,b,c,e,f⟩
abbrev Ln (sp:Sd)(n:Nat):Prop:=∀ds S Q ex,sp ds S Q ex→ds.length=n
theorem zaF {X:Cx}{x:Str}{p pos:Pos}{e:Expr}{es:List Expr}{t:TDA}{k j:Nat}{ps:List Str}{sd:Sd}{ex:Ev→Addr→Sto→Prop}(G:Fk X.prog X.w X.K X.mg X.base k x ps sd)(hr:zat j X.A)(ha:PDA X ⟨ex,Z0.w⟩ (e::es) t)(hk:k≤j:=by decide)(hg:Gl X x:=by rfl)
  (hdb:(x==("__debug__":Str))=false:=by decide)(he:starEach (e::es) X.env=(false,eval e X.env)::starEach es X.env:=by rfl)(hpl:(backTo pos (starEach es X.env)).any (·.1)=false:=by rfl):PD X ⟨ex,Z0.w⟩ (.Call (.Name x p) (e::es) [] pos) (zeI ex sd t):=zle G (hr.mono hk) zjB hg ha hdb he hpl
abbrev zf1:Stmt:=top 2
abbrev zdP:List Str:=["a","b"]
theorem zlk:zaN ["a","b"] zdP (zan zf1):=fsc
abbrev zds:Stmt:=top 7
abbrev zdA:List Str:=["boxes"]
theorem zeS:zaN ["boxes","whole","box"] zdA (zan zds):=fsc
abbrev zeZ:Stmt:=top 1
abbrev zdr:List Str:=["a","b"]
theorem zgr:zaN ["a","b","low","high"] zdr (zan zeZ):=fsc
abbrev zd8:Stmt:=top 4
abbrev zdh:List Str:=["box","other"]
theorem zkg:zaN ["box","other"] zdh (zan zd8):=fsc
abbrev zdk:Stmt:=top 5
abbrev zdI:List Str:=["boxes","numbers","box"]
theorem zkR:zaN ["boxes","numbers","box"] zdI (zan zdk):=fsc
abbrev zfS:Stmt:=top 6
abbrev zdw:List Str:=["boxes"]
theorem zct:zaN ["boxes","groups","number","box","grown","apart","numbers"] zdw (zan zfS):=fsc
abbrev zcV:Stmt:=top 8
abbrev zdD:List Str:=["boxes"]
theorem zkE:zaN ["boxes"] zdD (zan zcV):=fsc
abbrev zfC:Stmt:=top 11
abbrev zdb:List Str:=["_law_cell","_law_k"]
theorem zk5:zaN ["_law_cell","_law_k"] zdb (zan zfC):=fsc
abbrev zeU:Stmt:=top 12
abbrev zdx:List Str:=["_law_cell","_law_size","_law_wide"]
theorem zfv:zaN ["_law_cell","_law_size","_law_wide","_law_box_here","_law_k","_law_low"] zdx (zan zeU):=fsc
abbrev zfu:Stmt:=top 10
abbrev zdQ:List Str:=["_law_script","_law_k"]
theorem zmj:zaN ["_law_script","_law_k"] zdQ (zan zfu):=fsc
abbrev zeW:Stmt:=top 13
abbrev zc9:List Str:=["_law_one","_law_other"]
theorem zhu:zaN ["_law_one","_law_other","_law_k"] zc9 (zan zeW):=fsc
abbrev zd0:Stmt:=top 17
abbrev zdW:List Str:=["_law_boxes","_law_numbers"]
theorem zfR:zaN ["_law_boxes","_law_numbers","_law_reached_here","_law_turn","_law_number"] zdW (zan zd0):=fsc
abbrev zfs:Stmt:=top 18
abbrev zdm:List Str:=["_law_boxes","_law_found"]
theorem zfG:zaN ["_law_boxes","_law_found","_law_numbers","_law_ends","_law_number","_law_k"] zdm (zan zfs):=fsc
abbrev ze6:Stmt:=top 14
abbrev zeb:List Str:=["_law_span","_law_cell"]
theorem zmb:zaN ["_law_span","_law_cell"] zeb (zan ze6):=fsc
abbrev zfb:Stmt:=top 15
abbrev zd4:List Str:=["_law_point","_law_box_here"]
theorem zh4:zaN ["_law_point","_law_box_here","_law_k"] zd4 (zan zfb):=fsc
abbrev zdY:Stmt:=top 16
abbrev zdM:List Str:=["_law_point","_law_boxes","_law_found"]
theorem zfO:zaN ["_law_point","_law_boxes","_law_found","_law_many","_law_numbers","_law_ends"] zdM (zan zdY):=fsc
abbrev zbi:Stmt:=top 19
abbrev zes:List Str:=["_law_script"]
theorem zba:zaN ["_law_script","_law_size","_law_wide","_law_boxes","_law_found","_law_every","_law_numbers","_law_ends","_law_cell","_law_box_here","_law_point","_law_order","_law_cut","_law_again","_law_turned"] zes (zan zbi):=fsc
theorem kfo {K:PySem.W.Frag}{f c:Addr}{m:Value}{n q:Str}{st:Stmt}(l:K.lookup f=some (fo n q st m c)):PySem.W.keepIn K (.ref f)=true:=by
 unfold PySem.W.keepIn
 simp only[l]
theorem ln1 {P:List Value→Prop}(h:∀a,P [a]):∀us:List Value,us.length=1→P us
 | [a],_=>h a
theorem ln2 {P:List Value→Prop}(h:∀a b,P [a,b]):∀us:List Value,us.length=2→P us
 | [a,b],_=>h a b
theorem ln3 {P:List Value→Prop}(h:∀a b c,P [a,b,c]):∀us:List Value,us.length=3→P us
 | [a,b,c],_=>h a b c
abbrev Bn (n q:Str)(st:Stmt)(ps:List Str):Prop:=∀(kV doc pm:Value) (an:Option Addr) (cdv ct:Value) (us:List Value),us.length=ps.length→bindArgs (PySem.W.fnOf n q (zcL st) (zb6 st) (zan st) .none kV doc pm an cdv ct) ⟨us,[]⟩=pure (ps.zip us)
def dfo {K:PySem.W.Frag}{mg:Str→Option Value}{h:Heap}(X:K.In h)(G:h.Ns mainGlobals mg){n:Str}{st:Stmt}{f c:Addr}{m:Value}{ps:List Str}(a:PySem.W.nsIn K mainGlobals n=some (some (.ref f)))(l:K.lookup f=some (fo n n st m c))(e:PySem.W.codeIn K (.ref c) n=true)(b:Bn n n st ps):Df K mg n st ps:=⟨_,_,zhd (st:=st) l e (kfo l),PySem.W.mg_of X G a,(zhd (st:=st) l e (kfo l)).binds b⟩
abbrev nsA (K:PySem.W.Frag)(n:Str)(f:Addr):Prop:=PySem.W.nsIn K mainGlobals n=some (some (.ref f))
abbrev lkA (K:PySem.W.Frag)(f:Addr)(n q:Str)(st:Stmt)(m:Value)(c:Addr):Prop:=K.lookup f=some (fo n q st m c)
abbrev cdA (K:PySem.W.Frag)(c:Addr)(q:Str):Prop:=PySem.W.codeIn K (.ref c) q=true
theorem zc0 {n:Nat}{S:Sto}{Q:DK}{xs:List D}(h:S[n]?=some (.lst xs))(hq:Q (.int (xs.length:Nat)) S):irr zd3 [.ref n] S Q:=by
 rw[zcB]
 unfold zd3
 simp only[zaq h rfl]
 exact hq
theorem zbg {S:Sto}{n a:Nat}{o u:Ob}(h:S[n]?=some o)(hn:a≠n):(S.set a u)[n]?=some o:=by rw[VaR hn]; exact h
theorem zcc {S:Sto}{n:Nat}{o u:Ob}(h:S[n]?=some o):(S.set n u)[n]?=some u:=by
 have hk:=(Vac.mp h).1
 simp[hk]
theorem zap {S:Sto}{n:Nat}{o:Ob}{T:Sto}(h:S[n]?=some o):(S++T)[n]?=some o:=by
 have hk:=(Vac.mp h).1
 rw[Vap hk]
 exact h
def ziC (S T:Sto):Prop:=∀(x:Nat) (o:Ob),S[x]?=some o→T[x]?=some o
theorem ziC.app (S T:Sto):ziC S (S++T):=λ_ _ h=>zap h
theorem zbk {S:Sto}{n:Nat}{o:Ob}(h:S[n]?=some o):n<S.length:=(Vac.mp h).1
theorem zj9 {n m:Nat}{S:Sto}{Q:DK}{xs ys:List D}{b:Bool}(h1:S[n]?=some (.lst xs))(h2:S[m]?=some (.lst ys))(e:eqL (eqN 1) xs ys=some b)(hq:Q (.bl b) S):zbA (zcy 1) (.ref n) (.ref m) S Q:=by
 rw[zbS]
 unfold zcy
 simp only[zcf,zaq h1 rfl,zaq h2 rfl,zac,e]
 exact hq
theorem zmM {xs:List Int}{lo hi:Option Int}{k:Nat}{x:D}(h:(zbb (xs.map D.int) lo hi)[k]?=some x):∃c:Int,x=.int c:=by
 have m:=Vag h
 unfold L3.zbb at m
 obtain⟨c,_,rfl⟩:=Vah.mp (List.mem_of_mem_drop (List.mem_of_mem_take m))
 exact⟨c,rfl⟩
theorem zdn {i n:Nat}{tb:TDS}{E:zbP}{dl:Ev}{S:Sto}{o:Ob}(W:Nat→Ev→Sto→Prop)(h0:W 0 dl S)(hk:∀k dl' S',W k dl' S'→S'[n]?=some o)
  (ht:∀(k:Nat) (x:D) (dl':Ev) (S':Sto) (nx ct:Ev→Sto→Prop),(zac o)[k]?=some x→W k dl' S'→(∀dl2 S2,W (k+1) dl2 S2→nx dl2 S2)→tb { nx:=nx,rt:=E.rt,bk:=E.nx,ct:=ct } (dl'.set i (some x)) S')(he:∀dl' S',W (zac o).length dl' S'→E.nx dl' S')(hL:zbm o=some o:=by rfl):
  (lAt S n).isSome=true∧∃W:Nat→Nat→Ev→Sto→Prop,(∃m,W 0 m dl S)∧∀k m dl S,W k m dl S→match lAt S n with
  | some o=>match (zac o)[k]? with
   | some x=>tb { nx:=λdl' S'=>∃m',m'<m∧W (k+1) m' dl' S',rt:=E.rt,bk:=E.nx,ct:=λdl' S'=>∃m',m'<m∧W (k+1) m' dl' S' } (dl.set i (some x)) S
   | none=>E.nx dl S
  | none=>False:=by
 refine⟨by rw[zaq (hk _ _ _ h0) hL]; rfl,λk m dl' S'=>m+k=(zac o).length∧W k dl' S',⟨(zac o).length,by omega,h0⟩,?_⟩
 rintro k m dl' S' ⟨hm,w⟩
 rw[zaq (hk _ _ _ w) hL]
 show (match (zac o)[k]? with
   | some x=>tb { nx:=λdl' S''=>∃m',m'<m∧(m'+(k+1)=(zac o).length∧W (k+1) dl' S''),rt:=E.rt,bk:=E.nx,ct:=λdl' S''=>∃m',m'<m∧(m'+(k+1)=(zac o).length∧W (k+1) dl' S'') } (dl'.set i (some x)) S'
   | none=>E.nx dl' S')
 split
 ·rename_i x hx
  have hk:k<(zac o).length:=(Vac.mp hx).1
  exact ht k x dl' S' _ _ hx w λdl2 S2 w2=>⟨m-1,by omega,by omega,w2⟩
 ·rename_i hx
  have hk:k=(zac o).length:=by
   have:=VaH.mp hx
   omega
  exact he dl' S' (hk ▸ w)
inductive Nd where
 | number (t b:Int) | unknown (k:Int) | plus (i j:Int) | minus (i j:Int) | times (i j:Int) | power (i n:Int)
def Nd.d:Nd→D
 | .number t b=>.tup [.str "number",.int t,.int b]
 | .unknown k=>.tup [.str "unknown",.int k]
 | .plus i j=>.tup [.str "plus",.int i,.int j]
 | .minus i j=>.tup [.str "minus",.int i,.int j]
 | .times i j=>.tup [.str "times",.int i,.int j]
 | .power i n=>.tup [.str "power",.int i,.int n]
def Nd.ob (cN cU cP cM cT cW:Addr):Nd→Ob
 | .number t b=>.ins cN [("top",.int t),("bottom",.int b)]
 | .unknown k=>.ins cU [("place",.int k)]
 | .plus i j=>.ins cP [("one",.int i),("other",.int j)]
 | .minus i j=>.ins cM [("one",.int i),("other",.int j)]
 | .times i j=>.ins cT [("one",.int i),("other",.int j)]
 | .power i n=>.ins cW [("one",.int i),("many",.int n)]
def inR (m i:Int):Prop:=0≤i∧i<m
def Nd.ok (m q:Int):Nd→Prop
 | .number t b=>(1≤b∧b≤10^9)∧Int.gcd t b=1∧t.natAbs≤10^9
 | .unknown k=>inR q k
 | .plus i j=>inR m i∧inR m j
 | .minus i j=>inR m i∧inR m j
 | .times i j=>inR m i∧inR m j
 | .power i n=>inR m i∧2≤n∧n≤6
def frD (p:Int×Int):D:=.tup [.int p.1,.int p.2]
abbrev gt (vs:List (Int×Int))(i:Int):Int×Int:=vs.getD i.toNat (0,1)
theorem zlh {vs:List (Int×Int)}{i:Int}(h:inR vs.length i):gt vs i∈vs:=by
 obtain⟨h0,h1⟩:=h
 have hk:i.toNat<vs.length:=by omega
 have e:gt vs i=vs[i.toNat]:=by simp[gt,hk]
 rw[e]
 exact VaC hk
theorem zfF {vs:List (Int×Int)}{i:Int}(h:inR vs.length i):atI (vs.map frD) i=some (frD (gt vs i)):=by
 obtain⟨h0,h1⟩:=h
 have hk:i.toNat<vs.length:=by omega
 have z:=zbN (xs:=vs.map frD) (j:=i.toNat) (v:=frD (gt vs i)) (by rw[Vad,Vae hk]; simp[gt,hk])
 rw[show ((i.toNat:Nat):Int)=i by omega] at z
 exact z
structure zhi (a b c d mn mx:Int):Prop where
 lo:mn=a*c∨mn=a*d∨mn=b*c∨mn=b*d
 l1:mn≤a*c
 l2:mn≤a*d
 l3:mn≤b*c
 l4:mn≤b*d
 hi:mx=a*c∨mx=a*d∨mx=b*c∨mx=b*d
 h1:a*c≤mx
 h2:a*d≤mx
 h3:b*c≤mx
 h4:b*d≤mx
theorem zhi.of {a b c d mn mx:Int}(m1:mn∈[a*c,a*d,b*c,b*d])(m2:∀y∈[a*c,a*d,b*c,b*d],mn≤y)(x1:mx∈[a*c,a*d,b*c,b*d])(x2:∀y∈[a*c,a*d,b*c,b*d],y≤mx):zhi a b c d mn mx:=by
 simp only[Vam,List.not_mem_nil,or_false] at m1 x1
 exact⟨m1,m2 _ (by simp),m2 _ (by simp),m2 _ (by simp),m2 _ (by simp),x1,x2 _ (by simp),x2 _ (by simp),x2 _ (by simp),x2 _ (by simp)⟩
structure Pows (a b:Int)(n:Nat)(m M:Int):Prop where
 lo:m=a^n∨m=b^n∨(a<0∧0<b∧m=0)
 l1:m≤a^n
 l2:m≤b^n
 l3:a<0→0<b→m≤0
 hi:M=a^n∨M=b^n
 h1:a^n≤M
 h2:b^n≤M
theorem zpow {n:Nat}(h:1≤n):(0:Int)^n=0:=by
 cases n with
 | zero=>omega
 | succ k=>rw[Int.pow_succ,Int.mul_zero]
theorem Pows.of {a b g mn mx:Int}{n:Nat}(hg:1≤g){l:List Int}(hl:l=[a^n*g,b^n*g]∧¬ (a<0∧0<b)∨l=[a^n*g,b^n*g,0^n*g]∧a<0∧0<b)(hn:1≤n)(m1:mn∈l)(m2:∀y∈l,mn≤y)(x1:mx∈l)(x2:∀y∈l,y≤mx):
  ∃m M,Pows a b n m M∧mn=m*g∧mx=M*g:=by
 have can:∀ {x y:Int},x*g≤y*g→x≤y:=λ{x y} h=>Int.le_of_mul_le_mul_right h (by omega)
 rcases hl with ⟨rfl,hz⟩ | ⟨rfl,hz1,hz2⟩
 ·simp only[Vam,List.not_mem_nil,or_false] at m1 x1
  have a1:=m2 (a^n*g) (by simp)
  have a2:=m2 (b^n*g) (by simp)
  have b1:=x2 (a^n*g) (by simp)
  have b2:=x2 (b^n*g) (by simp)
  obtain⟨m,hm,em⟩:∃m,(m=a^n∨m=b^n)∧mn=m*g:=by
   rcases m1 with e | e
   ·exact⟨_,.inl rfl,e⟩
   ·exact⟨_,.inr rfl,e⟩
  obtain⟨M,hM,eM⟩:∃m,(m=a^n∨m=b^n)∧mx=m*g:=by
   rcases x1 with e | e
   ·exact⟨_,.inl rfl,e⟩
   ·exact⟨_,.inr rfl,e⟩
  subst em eM
  exact⟨m,M,⟨hm.elim .inl λe=>.inr (.inl e),can a1,can a2,λc1 c2=>absurd ⟨c1,c2⟩ hz,hM,can b1,can b2⟩,rfl,rfl⟩
 ·rw[zpow hn,Int.zero_mul] at m1 m2 x1 x2
  simp only[Vam,List.not_mem_nil,or_false] at m1 x1
  have a1:=m2 (a^n*g) (by simp)
  have a2:=m2 (b^n*g) (by simp)
  have a3:=m2 0 (by simp)
  have b1:=x2 (a^n*g) (by simp)
  have b2:=x2 (b^n*g) (by simp)
  have b3:=x2 0 (by simp)
  obtain⟨m,hm,em⟩:∃m,(m=a^n∨m=b^n∨m=0)∧mn=m*g:=by
   rcases m1 with e | e | e
   ·exact⟨_,.inl rfl,e⟩
   ·exact⟨_,.inr (.inl rfl),e⟩
   ·exact⟨0,.inr (.inr rfl),by rw[e,Int.zero_mul]⟩
  have bp:(0:Int)≤b^n:=Int.pow_nonneg (by omega)
  have bg:=Int.mul_nonneg bp (show 0≤g by omega)
  obtain⟨M,hM,eM⟩:∃m,(m=a^n∨m=b^n)∧mx=m*g:=by
   rcases x1 with e | e | e
   ·exact⟨_,.inl rfl,e⟩
   ·exact⟨_,.inr rfl,e⟩
   ·exact⟨_,.inr rfl,by omega⟩
  subst em eM
  refine⟨m,M,⟨?_,can a1,can a2,λ_ _=>can (by rw[Int.zero_mul]; exact a3),hM,can b1,can b2⟩,rfl,rfl⟩
  rcases hm with e | e | e
  ·exact .inl e
  ·exact .inr (.inl e)
  ·exact .inr (.inr ⟨hz1,hz2,e⟩)
def mn4 (a b c d:Int):Int:=min (min (a*c) (a*d)) (min (b*c) (b*d))
def mx4 (a b c d:Int):Int:=max (max (a*c) (a*d)) (max (b*c) (b*d))
def pwlo (a b:Int)(n:Nat):Int:=if n%2=0∧a≤0∧0≤b then 0 else min (a^n) (b^n)
def pwhi (a b:Int)(n:Nat):Int:=max (a^n) (b^n)
def Nd.fw (vs bs:List (Int×Int))(g:Int):Nd→Int×Int
 | .number t b=>(t*g/b,-(-(t*g)/b))
 | .unknown k=>gt bs k
 | .plus i j=>((gt vs i).1+(gt vs j).1,(gt vs i).2+(gt vs j).2)
 | .minus i j=>((gt vs i).1-(gt vs j).2,(gt vs i).2-(gt vs j).1)
 | .times i j=>(mn4 (gt vs i).1 (gt vs i).2 (gt vs j).1 (gt vs j).2/g,-(-mx4 (gt vs i).1 (gt vs i).2 (gt vs j).1 (gt vs j).2/g))
 | .power i n=>(pwlo (gt vs i).1 (gt vs i).2 n.toNat/g^(n.toNat-1),-(-pwhi (gt vs i).1 (gt vs i).2 n.toNat/g^(n.toNat-1)))
def Spn (B:Nat)(vs:List (Int×Int)):Prop:=∀p∈vs,p.1≤p.2∧Sz B p.1∧Sz B p.2
theorem Spn.at {B:Nat}{vs:List (Int×Int)}(h:Spn B vs){i:Int}(hi:inR vs.length i):(gt vs i).1≤(gt vs i).2∧Sz B (gt vs i).1∧Sz B (gt vs i).2:=h _ (zlh hi)
theorem Spn.mono {B C:Nat}{vs:List (Int×Int)}(h:Spn B vs)(hc:B≤C):Spn C vs:=λp hp=>⟨(h p hp).1,(h p hp).2.1.mono hc,(h p hp).2.2.mono hc⟩
def za0 (p q:Int×Int):Option (Int×Int):=if (if q.2<p.2 then q.2 else p.2)<(if q.1 > p.1 then q.1 else p.1) then none else some (if q.1 > p.1 then q.1 else p.1,if q.2<p.2 then q.2 else p.2)
theorem zby {a b:TDS}{E:zbP}{dl:Ev}{S:Sto}(W:Ev→Sto→Prop)(ha:∀nx:Ev→Sto→Prop,(∀dl' S',W dl' S'→nx dl' S')→a { nx:=nx,rt:=E.rt,bk:=E.bk,ct:=E.ct } dl S)(hb:∀dl' S',W dl' S'→b E dl' S'):zbK a b E dl S:=ha _ hb
theorem zjc {a b c:TDS}{E:zbP}{dl:Ev}{S:Sto}(W:Ev→Sto→Prop)(ha:∀nx:Ev→Sto→Prop,(∀dl' S',W dl' S'→nx dl' S')→zbK a b { nx:=nx,rt:=E.rt,bk:=E.bk,ct:=E.ct } dl S)(hb:∀dl' S',W dl' S'→c E dl' S'):zbK a (zbK b c) E dl S:=ha _ hb
theorem Spn.set {B:Nat}{vs:List (Int×Int)}(h:Spn B vs){k:Nat}{u:Int}(hu:Sz B u):Spn B (vs.set k (u,u)):=λp hp=>by
 rcases List.mem_or_eq_of_mem_set hp with e | e
 ·exact h p e
 ·subst e; exact⟨Va0 _,hu,hu⟩
def Nd.wt (ws:List Nat):Nd→Nat
 | .number _ _=>1
 | .unknown _=>1
 | .plus i j=>ws.getD i.toNat 0+ws.getD j.toNat 0
 | .minus i j=>ws.getD i.toNat 0+ws.getD j.toNat 0
 | .times i j=>ws.getD i.toNat 0+ws.getD j.toNat 0
 | .power i n=>n.toNat*ws.getD i.toNat 0
structure zbz (q:Int)(ns:List Nd)(ws:List Nat):Prop where
 len:ws.length=ns.length
 ok:∀(k:Nat) (v:Nd),ns[k]?=some v→v.ok k q∧ws.getD k 0=v.wt ws∧1≤v.wt ws∧v.wt ws≤16
theorem zbz.nil (q:Int):zbz q [] []:=⟨rfl,λk v h=>by simp at h⟩
theorem zbz.w1 {q:Int}{ns:List Nd}{ws:List Nat}(h:zbz q ns ws){i:Int}(hi:inR ns.length i):1≤ws.getD i.toNat 0∧ws.getD i.toNat 0≤16:=by
 obtain⟨h0,h1⟩:=hi
 have hk:i.toNat<ns.length:=(by omega)
 obtain⟨_,e,a,b⟩:=h.ok i.toNat _ (Vae hk)
 omega
theorem zbz.w2 {q:Int}{ns:List Nd}{ws:List Nat}(h:zbz q ns ws):∀v:Nd,v.ok ns.length q→1≤v.wt ws∧v.wt ws≤96
 | .number _ _,_=>⟨Vaa 1,show 1≤96 by decide⟩
 | .unknown _,_=>⟨Vaa 1,show 1≤96 by decide⟩
 | .plus i j,ok=>by have a:=h.w1 ok.1; have b:=h.w1 ok.2; simp only[Nd.wt]; omega
 | .minus i j,ok=>by have a:=h.w1 ok.1; have b:=h.w1 ok.2; simp only[Nd.wt]; omega
 | .times i j,ok=>by have a:=h.w1 ok.1; have b:=h.w1 ok.2; simp only[Nd.wt]; omega
 | .power i n,ok=>by
  have a:=h.w1 ok.1
  have n2:=ok.2.1
  have n6:=ok.2.2
  have m1:=Nat.mul_le_mul (show 1≤n.toNat by omega) a.1
  have m2:=Nat.mul_le_mul (show n.toNat≤6 by omega) a.2
  simp only[Nd.wt]
  omega
theorem zhQ {ws:List Nat}{w:Nat}{k:Nat}(h:k<ws.length):(ws++[w]).getD k 0=ws.getD k 0:=by
 rw[Vak,Vak,Vap h]
theorem zi5 {ws:List Nat}{w:Nat}{q:Int}{k:Nat}(hk:k≤ws.length):∀v:Nd,v.ok k q→v.wt (ws++[w])=v.wt ws:=by
 have e:∀i:Int,inR k i→(ws++[w]).getD i.toNat 0=ws.getD i.toNat 0:=λi hi=>zhQ (by have a:=hi.1; have b:=hi.2; omega)
 intro v ok
 cases v with
 | number _ _=>rfl
 | unknown _=>rfl
 | plus i j=>show _+_=_+_; rw[e i ok.1,e j ok.2]
 | minus i j=>show _+_=_+_; rw[e i ok.1,e j ok.2]
 | times i j=>show _+_=_+_; rw[e i ok.1,e j ok.2]
 | power i n=>show _*_=_*_; rw[e i ok.1]
theorem zbz.snoc {q:Int}{ns:List Nd}{ws:List Nat}(h:zbz q ns ws){v:Nd}(ok:v.ok ns.length q)(h16:v.wt ws≤16):zbz q (ns++[v]) (ws++[v.wt ws]):=by
 refine⟨by simp[h.len],λk u hu=>?_⟩
 by_cases hk:k<ns.length
 ·rw[Vap hk] at hu
  obtain⟨a,b,c,d⟩:=h.ok k u hu
  have e:=zi5 (w:=v.wt ws) (q:=q) (k:=k) (by rw[h.len]; omega) u a
  rw[e,zhQ (by rw[h.len]; exact hk)]
  exact⟨a,b,c,d⟩
 ·have hl:=(Vac.mp hu).1
  simp only[Vao,VaO,List.length_nil] at hl
  have ek:k=ns.length:=by omega
  subst ek
  simp at hu
  subst hu
  have e:=zi5 (w:=v.wt ws) (q:=q) (k:=ns.length) (by rw[h.len]; omega) v ok
  rw[e]
  refine⟨ok,?_,(h.w2 v ok).1,h16⟩
  rw[← h.len]
  simp
theorem zbz.take {q:Int}{ns:List Nd}{ws:List Nat}(h:zbz q ns ws)(n:Nat):zbz q (ns.take n) (ws.take n):=by
 have e:∀k:Nat,k<n→(ws.take n).getD k 0=ws.getD k 0:=λk hk=>by
  rw[Vak,Vak,List.getElem?_take_of_lt hk]
 refine⟨by simp[h.len],λk u hu=>?_⟩
 have hl:=(Vac.mp hu).1
 rw[VaJ] at hl
 have hk:k<n:=by omega
 rw[List.getElem?_take_of_lt hk] at hu
 obtain⟨a,b,c,d⟩:=h.ok k u hu
 have e2:u.wt (ws.take n)=u.wt ws:=by
  have f:∀i:Int,inR k i→(ws.take n).getD i.toNat 0=ws.getD i.toNat 0:=λi hi=>e _ (by have:=hi.1; have:=hi.2; omega)
  cases u with
  | number _ _=>rfl
  | unknown _=>rfl
  | plus i j=>show _+_=_+_; rw[f i a.1,f j a.2]
  | minus i j=>show _+_=_+_; rw[f i a.1,f j a.2]
  | times i j=>show _+_=_+_; rw[f i a.1,f j a.2]
  | power i m=>show _*_=_*_; rw[f i a.1]
 rw[e2,e k hk]
 exact⟨a,b,c,d⟩
theorem zbU {α:Type}{xs:List α}{k:Nat}{x:α}(h:xs[k]?=some x):xs.take (k+1)=xs.take k++[x]:=by rw[List.take_succ,h]; rfl
def SzW (ws:List Nat)(vs:List (Int×Int)):Prop:=∀(k:Nat) (p:Int×Int),vs[k]?=some p→p.1≤p.2∧Sz (60*ws.getD k 0-1) p.1∧Sz (60*ws.getD k 0-1) p.2
theorem SzW.at {ws:List Nat}{vs:List (Int×Int)}(h:SzW ws vs){i:Int}(hi:inR vs.length i):(gt vs i).1≤(gt vs i).2∧Sz (60*ws.getD i.toNat 0-1) (gt vs i).1∧Sz (60*ws.getD i.toNat 0-1) (gt vs i).2:=by
 obtain⟨h0,h1⟩:=hi
 have hk:i.toNat<vs.length:=by omega
 have e:gt vs i=vs[i.toNat]:=by simp[gt,hk]
 rw[e]
 exact h _ _ (Vae hk)
theorem zb0 {S T:Sto}{n:Nat}{o:Ob}(h:Pre S T)(hn:S.length≤n):Pre S (T.set n o):=λk u e=>by
 have hk:=(Vac.mp e).1
 rw[VaR (by omega)]
 exact h k u e
theorem zaG {S T:Sto}(h:Pre S T)(U:Sto):Pre S (T++U):=λk u e=>zap (h k u e)
def wtD (w:Nat):D:=.int (w:Int)
theorem zhG {caps:List Nat}{ta:TDA}{te:TDE}{dl:Ev}{S S1:Sto}{Q:DK}{n n':Nat}{xs ys:List D}(g:D→D→D)(hta:∀K:List D→Sto→Prop,K [.ref n,.ref n'] S1→ta dl S K)(h1:S1[n]?=some (.lst xs))(h2:S1[n']?=some (.lst ys))(hl:xs.length≤1000)
  (ht:∀(k:Nat) (x y:D),xs[k]?=some x→ys[k]?=some y→∀(S2:Sto) (K:DK),Pre S1 S2→K (g x y) S2→te (some x::some y::zbj caps dl) S2 K)(hq:Q (.ref S1.length) (S1++[.lst (List.zipWith g xs ys)])):zcN caps ta te dl S Q:=by
 unfold zcN
 refine hta _ ⟨⟨by rw[zaq h1 rfl]; rfl,by rw[zaq h2 rfl]; rfl⟩,λk m S2=>S2=S1++[.lst (List.zipWith g (xs.take k) (ys.take k))]∧m+k=min xs.length ys.length,⟨min xs.length ys.length,by simp,by omega⟩,?_⟩
 rintro k m S2 ⟨rfl,hm⟩
 rw[zaq (zfq h1) rfl,zaq (zfq h2) rfl]
 dsimp only[zac]
 split
 ·rename_i x y hx hy
  have hk:k<xs.length:=(Vac.mp hx).1
  have hk':k<ys.length:=(Vac.mp hy).1
  unfold zcH
  refine ht k x y hx hy _ _ Pre.refl.push ?_
  rw[zal]
  refine⟨by simp; omega,m-1,by omega,?_,by omega⟩
  have e:xs.take (k+1)=xs.take k++[x]:=by rw[List.take_succ,hx]; rfl
  have e':ys.take (k+1)=ys.take k++[y]:=by rw[List.take_succ,hy]; rfl
  rw[e,e',List.zipWith_append (by rw[VaJ,VaJ]; omega),zlC]
  rfl
 ·rename_i no
  have hk:min xs.length ys.length≤k:=by
   by_cases l:k<min xs.length ys.length
   ·exact absurd (Vae (l:=ys) (i:=k) (by omega)) (no _ _ (Vae (l:=xs) (i:=k) (by omega)))
   ·omega
  refine⟨by omega,?_⟩
  have e:List.zipWith g (xs.take k) (ys.take k)=List.zipWith g xs ys:=by
   rw[← List.take_zipWith,Vaw (by rw[List.length_zipWith]; exact hk)]
  rw[e]
  exact hq
theorem ze9 {vs:List (Int×Int)}{k:Nat}{p:Int×Int}(h:vs[k]?=some p):gt vs (k:Int)=p:=by
 unfold gt
 rw[Vak,VaS,h]
 rfl
theorem SzW.snoc {ws:List Nat}{vs:List (Int×Int)}{p:Int×Int}(h:SzW ws vs)(h1:p.1≤p.2)(h2:Sz (60*ws.getD vs.length 0-1) p.1)(h3:Sz (60*ws.getD vs.length 0-1) p.2):SzW ws (vs++[p]):=λk q hq=>by
 by_cases hk:k<vs.length
 ·rw[Vap hk] at hq
  exact h k q hq
 ·have hl:=(Vac.mp hq).1
  simp only[Vao,VaO,List.length_nil] at hl
  have ek:k=vs.length:=by omega
  subst ek
  simp at hq
  subst hq
  exact⟨h1,h2,h3⟩
theorem zfK {caps:List Nat}{tl te:TDE}{dl:Ev}{S S1:Sto}{Q:DK}{n:Nat}{o:Ob}(W:Nat→List D→Sto→Prop)(htl:∀K:DK,K (.ref n) S1→tl dl S K)(h1:S1[n]?=some o)(hw:∀k ys S2,W k ys S2→S2[n]?=some o∧S2[S1.length]?=some (.lst ys)∧ys.length=k)(hl:(zac o).length≤1000)(h0:W 0 [] (S1++[.lst []]))
  (ht:∀(k:Nat) (x:D) (ys:List D) (S2:Sto) (K:DK),(zac o)[k]?=some x→W k ys S2→(∀y S3,S3[S1.length]?=some (.lst ys)→W (k+1) (ys++[y]) (S3.set S1.length (.lst (ys++[y])))→K y S3)→te (some x::zbj caps dl) S2 K)
  (hq:∀ys S2,W (zac o).length ys S2→Q (.ref S1.length) S2)(hL:zbm o=some o:=by rfl):zbD caps tl zef te dl S Q:=by
 unfold zbD
 refine htl _ ⟨by rw[zaq h1 hL]; rfl,λk m S2=>(∃ys,W k ys S2)∧m+k=(zac o).length,⟨(zac o).length,⟨_,h0⟩,by omega⟩,?_⟩
 rintro k m S2 ⟨⟨ys,w⟩,hm⟩
 obtain⟨w1,w2,w3⟩:=hw _ _ _ w
 rw[zaq w1 hL]
 dsimp only
 split
 ·rename_i x hx
  have hk:k<(zac o).length:=(Vac.mp hx).1
  unfold zfN zef
  simp only[if_true]
  refine ht k x ys S2 _ hx w λy S3 e3 w4=>?_
  rw[e3]
  exact⟨by omega,m-1,by omega,⟨_,w4⟩,by omega⟩
 ·rename_i hx
  have hk:k=(zac o).length:=by
   have:=VaH.mp hx
   omega
  exact hq ys S2 (hk ▸ w)
section
variable {s:Shared}{A:Around}{w:World}{prog:Program}
end
section
variable {X:Cx}{elt iter:Expr}{elts:List Expr}{kk:Nat}{tp:Pos}{pos:Pos}{sc:Scope}{own N:List Str}{caps:List Nat}{wi:TI}{gt:TG}{te:TE}
end
section
variable {X:Cx}{Z:Zx}{elt:Expr}{pos:Pos}{sc ar:Scope}{N:List Str}{caps:List Nat}
end
section
variable {X:Cx}{Z:Zx}{pos:Pos}
def Alk (S:Sto):Nat→D→D→Prop
 | 0,d,e=>eqF d e=some true
 | n+1,d,e=>Alk S n d e∨(∃xs ys,d=.tup xs∧e=.tup ys∧xs.length=ys.length∧∀(k:Nat) (x y:D),xs[k]?=some x→ys[k]?=some y→Alk S n x y)∨
  ∃a b xs ys,d=.ref a∧e=.ref b∧S[a]?=some (.lst xs)∧S[b]?=some (.lst ys)∧xs.length=ys.length∧∀(k:Nat) (x y:D),xs[k]?=some x→ys[k]?=some y→Alk S n x y
theorem zgZ (n:Nat):(List.range n).all (λ_=>true)=true:=by simp
theorem ziq {n:Nat}{A:Around}{pins:List (Addr×Obj)}{σ:L3.St}{H:Hp}{s:Shared}{r:List Addr}{S:Sto}(I:Inv X pins σ H s)(rel:Rel X.K Z r S H){a b:Nat}{xs ys:List D}{p p':Addr}(hp:r[a]?=some p)(hp':r[b]?=some p')(s1:S[a]?=some (.lst xs))(s2:S[b]?=some (.lst ys))(l:xs.length=ys.length)(hu:A.units<cLine)
  (f:∀ {d e:D} {v1 v2:V} {u1 u2:Value},Alk S n d e→Rp r H d v1→Rp r H e v2→zag v1 u1→zag v2 u2→SeqAt.EqAt A.in1 s u1 u2 true)(al:∀(k:Nat) (x y:D),xs[k]?=some x→ys[k]?=some y→Alk S n x y):SeqAt.RcAt A s (.ref p) (.ref p') true:=by
 obtain⟨z,hz,ob⟩:=rel.at s1
 rw[hp] at hz; cases hz
 obtain⟨z,hz,ob'⟩:=rel.at s2
 rw[hp'] at hz; cases hz
 obtain⟨vs,sq,pr⟩:=ob.list rfl
 obtain⟨ws,sq',pr'⟩:=ob'.list rfl
 obtain⟨is,ri,pl,_⟩:=I.list sq
 obtain⟨js,rj,pl',_⟩:=I.list sq'
 have g1:=ziF (P:=λS=>Alk S n) (S:=S) f pr pr' ri rj al
 have hs:is.toArray.size=js.toArray.size:=by
  have a1:=ri.length
  have a2:=rj.length
  have a3:=pr.1
  have a4:=pr'.1
  simp only[Vaf]
  show is.length=js.length
  have a3:xs.length=vs.length:=a3
  have a4:ys.length=ws.length:=a4
  omega
 have q:=SeqAt.RcAt.lists (A:=A) (e:=λ_=>true) pl.isList pl'.isList hs hu g1
 rw[zgZ] at q
 exact q
theorem zfY:∀(n:Nat) {A:Around} {pins:List (Addr×Obj)} {σ:L3.St} {H:Hp} {s:Shared} {r:List Addr} {S:Sto} {d e:D} {v1 v2:V} {u1 u2:Value},Inv X pins σ H s→Rel X.K Z r S H→Alk S n d e→Rp r H d v1→Rp r H e v2→zag v1 u1→zag v2 u2→A.units+n<cLine→SeqAt.EqAt A s u1 u2 true
 | 0,A,pins,σ,H,s,r,S,d,e,v1,v2,u1,u2,I,rel,h,pd,pe,ru1,ru2,hu=>zfk 0 X pins σ H s r A d e v1 v2 u1 u2 true I hu pd pe ru1 ru2 h
 | n+1,A,pins,σ,H,s,r,S,d,e,v1,v2,u1,u2,I,rel,h,pd,pe,ru1,ru2,hu=>by
  rcases h with h | ⟨xs,ys,rfl,rfl,l,al⟩ | ⟨a,b,xs,ys,rfl,rfl,s1,s2,l,al⟩
  ·exact zfY n I rel h pd pe ru1 ru2 (by omega)
  ·cases pd with
   | @tup _ vs a h1 l1 f1=>
    cases pe with
    | @tup _ ws b h2 l2 f2=>
     cases ru1
     cases ru2
     by_cases hne:a=b
     ·subst hne
      exact SeqAt.EqAt.same _
     ·obtain⟨is,ri,pl,_⟩:=I.tuple (SqT.of h1)
      obtain⟨js,rj,pl',_⟩:=I.tuple (SqT.of h2)
      have g1:=ziF (P:=λS=>Alk S n) (S:=S) (A:=A.in1) (λh p q r1 r2=>zfY n I rel h p q r1 r2 (by show A.units+1+n<_; omega)) ⟨l1,f1⟩ ⟨l2,f2⟩ ri rj al
      have q:=SeqAt.RcAt.tuples (A:=A) (e:=λ_=>true) pl pl' (by omega) g1
      have hs:(is.toArray.size==js.toArray.size)=true:=by
       have a1:=ri.length
       have a2:=rj.length
       simp only[Vaf,beq_iff_eq]
       show is.length=js.length
       omega
      rw[zgZ,hs] at q
      exact SeqAt.EqAt.of_refs hne q
  ·cases pd with
   | @ref _ p hp=>
    cases pe with
    | @ref _ p' hp'=>
     cases ru1
     cases ru2
     by_cases hne:p=p'
     ·subst hne
      exact SeqAt.EqAt.same _
     ·exact SeqAt.EqAt.of_refs hne (ziq I rel hp hp' s1 s2 l (by omega) (λh p q r1 r2=>zfY n I rel h p q r1 r2 (by show A.units+1+n<_; omega)) al)
def wEqK:W2:=λx y S Q=>match x,y with
 | .ref a,.ref b=>(∃xs ys,S[a]?=some (.lst xs)∧S[b]?=some (.lst ys)∧xs.length=ys.length∧∀(k:Nat) (x y:D),xs[k]?=some x→ys[k]?=some y→Alk S 5 x y)∧Q (.bl true) S
 | _,_=>False
theorem zj5 {j:Nat}(hr:zat j X.A):OpR X (compareOp .Eq) (upO X.K Z wEqK):=by
 have hu:=hr.un
 intro pins s σ H x y v u Qv I rx ry h
 obtain⟨r,S,dx,dy,Q,rel,px,py,q,ret⟩:=h
 cases px with
 | @ref n a hn=>
  cases py with
  | @ref m a' hm=>
   cases rx
   cases ry
   obtain⟨⟨xs,ys,s1,s2,l,al⟩,q⟩:=(show (∃xs ys,_)∧_ from q)
   exact ziq I rel hn hm s1 s2 l (by omega) (λh p q r1 r2=>zfY 5 I rel h p q r1 r2 (by show X.A.units+1+5<_; omega)) al X.prog X.w X.xe _ ⟨.bl true,H,I,rfl,ret _ _ _ _ _ Ext.refl rel (.bl true) q⟩
  | _=>exact(show False from q).elim
 | _=>exact(show False from q).elim
end
section
variable {X:Cx}{Z:Zx}{pos:Pos}
end
section
variable {s:Shared}{E:Value→Shared→Prop}{A:Around}{M:Model}
end
theorem zie {env:Env}:∀ {names:List (Str×NameKind)} {x:Str},names.lookup x=some .cell→
  (names.map λ(n,k)=>if (k==NameKind.free&&env.scope.kind==.function&&env.kindOf n==some .cell) then (n,NameKind.cell) else (n,k)).lookup x=some .cell
 | [],_,h=>by simp at h
 | (n,k)::r,x,h=>by
  have ih:=@zie env r x
  rw[Val]
  cases hx:x==n with
  | true=>
   rw[Van,hx] at h
   have hk:k=.cell:=Option.some.inj h
   subst hk
   simp[Van,hx]
  | false=>
   rw[Van,hx] at h
   dsimp only
   split
   ·simp only[Van,hx]; exact ih h
   ·simp only[Van,hx]; exact ih h
structure CompScC (sc around:Scope)(x:Str)(caps:List Str):Prop where
 kind:sc.kind=.function
 one:sc.names.filter (λy=>y.2==NameKind.cell)=[(x,NameKind.cell)]
 own:∀y∈sc.names,y.2=.local→sc.names.lookup y.1=some .local
 loc:sc.names.lookup x=some .cell
 cap:∀y∈caps,sc.names.lookup y=some .free
 out:∀y∈sc.names,y.2=.free→around.names.lookup y.1=some .cell
section
variable {X:Cx}{pins:List (Addr×Obj)}{σ:L2.St}{H:Hp}{s:Shared}
end
section
variable {X:Cx}{elt iter:Expr}{x:Str}{px pos:Pos}{ifs:List Expr}{sc:Scope}{N:List Str}{caps:List Nat}{wi:TI}{tc:TT}{te:TE}
end
section
variable {X:Cx}{Z:Zx}{elt iter:Expr}{x:Str}{px pos:Pos}{ifs:List Expr}{sc ar:Scope}{N:List Str}{caps:List Nat}
theorem ziB {env:Env}:∀ {names:List (Str×NameKind)} {x:Str},names.lookup x=some .free→env.scope.kind=.function→env.kindOf x=some .cell→
  (names.map λ(n,k)=>if (k==NameKind.free&&env.scope.kind==.function&&env.kindOf n==some .cell) then (n,NameKind.cell) else (n,k)).lookup x=some .cell
 | [],_,h,_,_=>by simp at h
 | (n,k)::r,x,h,h2,h3=>by
  have ih:=@ziB env r x
  rw[Val]
  cases hx:x==n with
  | true=>
   rw[Van,hx] at h
   have hk:k=.free:=Option.some.inj h
   have en:x=n:=by simpa using hx
   subst hk en
   simp[Van,h2,h3]
  | false=>
   rw[Van,hx] at h
   dsimp only
   split
   ·simp only[Van,hx]; exact ih h h2 h3
   ·simp only[Van,hx]; exact ih h h2 h3
theorem cscN {sc sc1 ar0:Scope}{env1:Env}{x:Str}{caps:List Str}(h:env1.scope=ar0)(a:sc.kind=.function:=by rfl)(b:∀y∈sc.names,y.2≠.cell:=by decide +kernel)(c:∀y∈sc.names,y.2=.local→sc.names.lookup y.1=some .local:=by decide +kernel)(d:sc.names.lookup x=some .local:=by rfl)(e:∀y∈caps,sc.names.lookup y=some .free:=by decide +kernel)
  (f:∀y∈sc.names,y.2=.free→sc1.names.lookup y.1=some .cell∨(sc1.names.lookup y.1=some .free∧ar0.kind=.function∧ar0.names.lookup y.1=some .cell):=by decide +kernel):zc5 sc (relabel sc1 env1) x caps:=⟨a,b,c,d,e,λy hy hf=>by
 subst h
 rcases f y hy hf with z | ⟨z1,z2,z3⟩
 ·exact zie z
 ·exact ziB z1 z2 z3⟩
end
theorem zlN (xs:List D)(a b:Nat):(zbb xs (some (a:Int)) (some (b:Int))).length≤b-a:=by
 unfold L3.zbb
 rw[VaJ,List.length_drop,HT.sIx_nat,HT.sIx_nat]
 omega
theorem zeF {S T:Sto}(p:Pre S T):S.length≤T.length:=by
 cases e:S.length with
 | zero=>exact Vaj _
 | succ n=>
  have h:=Vae (l:=S) (i:=n) (by omega)
  exact zbk (p _ _ h)
inductive TT where
 | i (n:Int)
 | s (w:Str)
 | t (xs:List TT)
 | l (xs:List TT)
inductive Den (S:Sto)(lo:Nat):Nat→TT→D→Prop
 | i {n:Nat} (k:Int):Den S lo n (.i k) (.int k)
 | s {n:Nat} (w:Str):Den S lo n (.s w) (.str w)
 | t {n:Nat} {xs:List TT} {ds:List D}:xs.length≤900→xs.length=ds.length→(∀(k:Nat) (x:TT) (y:D),xs[k]?=some x→ds[k]?=some y→Den S lo n x y)→Den S lo (n+1) (.t xs) (.tup ds)
 | l {n a:Nat} {xs:List TT} {ds:List D}:S[a]?=some (.lst ds)→lo≤a→xs.length≤900→xs.length=ds.length→(∀(k:Nat) (x:TT) (y:D),xs[k]?=some x→ds[k]?=some y→Den S lo n x y)→Den S lo (n+1) (.l xs) (.ref a)
theorem Den.keep {S S':Sto}{lo n:Nat}{t:TT}{d:D}(h:Den S lo n t d)(p:∀(x:Nat) (o:Ob),lo≤x→S[x]?=some o→S'[x]?=some o):Den S' lo n t d:=by
 induction h with
 | i k=>exact .i k
 | s w=>exact .s w
 | t z l _ ih=>exact .t z l ih
 | l h g z l _ ih=>exact .l (p _ _ g h) g z l ih
theorem Den.pre {S S':Sto}{lo n:Nat}{t:TT}{d:D}(h:Den S lo n t d)(p:Pre S S'):Den S' lo n t d:=h.keep λx o _ e=>p x o e
theorem Den.low {S:Sto}{lo lo' n:Nat}{t:TT}{d:D}(h:Den S lo n t d)(q:lo'≤lo):Den S lo' n t d:=by
 induction h with
 | i k=>exact .i k
 | s w=>exact .s w
 | t z l _ ih=>exact .t z l ih
 | l h g z l _ ih=>exact .l h (Vau q g) z l ih
theorem Den.up {S:Sto}{lo n:Nat}{t:TT}{d:D}(h:Den S lo n t d):Den S lo (n+1) t d:=by
 induction h with
 | i k=>exact .i k
 | s w=>exact .s w
 | t z l _ ih=>exact .t z l ih
 | l h g z l _ ih=>exact .l h g z l ih
theorem Alk.flat {S:Sto}{d e:D}(h:eqF d e=some true):∀n,Alk S n d e
 | 0=>h
 | n+1=>.inl (Alk.flat h n)
theorem Den.alk {S:Sto}{lo lo' n:Nat}{t:TT}{d e:D}(h:Den S lo n t d)(h':Den S lo' n t e):Alk S n d e:=by
 induction h generalizing e with
 | i k=>
  cases h'
  exact Alk.flat (by simp[eqF]) _
 | s w=>
  cases h'
  exact Alk.flat (by simp[eqF]) _
 | @t n xs ds _ l _ ih=>
  cases h' with
  | @t _ _ es _ l' f'=>
   refine .inr (.inl ⟨ds,es,rfl,rfl,by omega,λk x y hx hy=>?_⟩)
   have hk:k<xs.length:=by have:=(Vac.mp hx).1; omega
   exact ih k xs[k] x (Vae hk) hx (f' k xs[k] y (Vae hk) hy)
 | @l n a xs ds h _ _ l _ ih=>
  cases h' with
  | @l _ b _ es h' _ _ l' f'=>
   refine .inr (.inr ⟨a,b,ds,es,rfl,rfl,h,h',by omega,λk x y hx hy=>?_⟩)
   have hk:k<xs.length:=by have:=(Vac.mp hx).1; omega
   exact ih k xs[k] x (Vae hk) hx (f' k xs[k] y (Vae hk) hy)
def za7 (c k:Int):Int:=(c*(2*k+3)*48271+k*k*7919)%2147483647
theorem zhg {a b:Int}(h:b.natAbs≤1000000):IntMulOk a b:=IntMulOk.of_right (Vau (Sz.of (n:=30) 1000000 h).bits (by decide))
def spT (p:Int×Int):TT:=.t [.i p.1,.i p.2]
theorem zkJ {S:Sto}{lo:Nat}(n:Nat)(p:Int×Int):Den S lo (n+1) (spT p) (frD p):=.t (show 2≤900 by decide) rfl λk x y hx hy=>by
 match k with
 | 0=>cases hx; cases hy; exact .i _
 | 1=>cases hx; cases hy; exact .i _
 | k+2=>simp at hx
theorem zjC {S:Sto}{lo n a:Nat}{ps:List (Int×Int)}(z:ps.length≤900)(g:lo≤a)(h:S[a]?=some (.lst (ps.map frD))):Den S lo (n+2) (.l (ps.map spT)) (.ref a):=.l h g (by rw[Vab]; exact z) (by rw[Vab,Vab]) λk x y hx hy=>by
 rw[Vad] at hx hy
 cases e:ps[k]? with
 | none=>rw[e] at hx; cases hx
 | some p=>
  rw[e] at hx hy
  cases hx
  cases hy
  exact zkJ n p
theorem zjF {is:List Nat}{ta:TDA}{tb:TDS}{E:zbP}{dl:Ev}{S S1:Sto}{n:Nat}{xs:List D}(W:Nat→Ev→Sto→Prop)(hta:∀K:List D→Sto→Prop,K [.ref n] S1→ta dl S K)(hk:∀k dl' S',W k dl' S'→S'[n]?=some (.lst xs))(h0:W 0 dl S1)
  (hb:∀(k:Nat) (x:D) (dl':Ev) (S':Sto) (nx ct:Ev→Sto→Prop),xs[k]?=some x→W k dl' S'→(∀dl2 S2,W (k+1) dl2 S2→nx dl2 S2)→tb { nx:=nx,rt:=E.rt,bk:=E.nx,ct:=ct } (zb8 is [.int (k:Int),x] dl') S')(he:∀dl' S',W xs.length dl' S'→E.nx dl' S'):zem is ta tb E dl S:=by
 unfold zem
 refine hta _ ⟨by rw[zaq (hk _ _ _ h0) rfl]; rfl,λk m dl' S'=>W k dl' S'∧k+m=xs.length,⟨xs.length,h0,by omega⟩,?_⟩
 rintro k m dl' S' ⟨w,hm⟩
 rw[zaq (hk _ _ _ w) rfl]
 dsimp only[zac]
 split
 ·rename_i x e1
  have l1:=(Vac.mp e1).1
  exact hb k x dl' S' _ _ e1 w (λdl2 S2 w2=>⟨m-1,by omega,w2,by omega⟩)
 ·rename_i e1
  have l1:=VaH.mp e1
  have ek:k=xs.length:=by omega
  exact⟨ek,he _ _ (ek ▸ w)⟩
def zas (S:Sto)(lo:Nat)(ds:List D)(R:List (List (Int×Int))):Prop:=ds.length=R.length∧∀(k:Nat) (d:D) (r:List (Int×Int)),ds[k]?=some d→R[k]?=some r→∃a,d=.ref a∧lo≤a∧S[a]?=some (.lst (r.map frD))
theorem zas.nil {S:Sto}{lo:Nat}:zas S lo [] []:=⟨rfl,λk d r h=>by simp at h⟩
theorem zas.pre {S T:Sto}{lo:Nat}{ds:List D}{R:List (List (Int×Int))}(h:zas S lo ds R)(p:Pre S T):zas T lo ds R:=⟨h.1,λk d r hd hr=>by
 obtain⟨a,e,l,s⟩:=h.2 k d r hd hr
 exact⟨a,e,l,p _ _ s⟩⟩
theorem zas.low {S:Sto}{lo lo':Nat}{ds:List D}{R:List (List (Int×Int))}(h:zas S lo ds R)(l:lo'≤lo):zas S lo' ds R:=⟨h.1,λk d r hd hr=>by
 obtain⟨a,e,l,s⟩:=h.2 k d r hd hr
 exact⟨a,e,by omega,s⟩⟩
theorem zas.keep {S T:Sto}{lo:Nat}{ds:List D}{R:List (List (Int×Int))}(h:zas S lo ds R)(p:∀(x:Nat) (o:Ob),lo≤x→S[x]?=some o→T[x]?=some o):zas T lo ds R:=⟨h.1,λk d r hd hr=>by
 obtain⟨a,e,l,s⟩:=h.2 k d r hd hr
 exact⟨a,e,l,p _ _ l s⟩⟩
theorem zas.at {S:Sto}{lo:Nat}{ds:List D}{R:List (List (Int×Int))}(h:zas S lo ds R){i:Int}(hi:inR R.length i):∃a,atI ds i=some (.ref a)∧lo≤a∧S[a]?=some (.lst ((R.getD i.toNat []).map frD)):=by
 obtain⟨h0,h1⟩:=hi
 have hk:i.toNat<R.length:=by omega
 have hk':i.toNat<ds.length:=by rw[h.1]; exact hk
 obtain⟨a,e,l,s⟩:=h.2 i.toNat _ _ (Vae hk') (Vae hk)
 refine⟨a,?_,l,?_⟩
 ·have z:=zbN (xs:=ds) (j:=i.toNat) (v:=.ref a) (by rw[Vae hk',e])
  rw[show ((i.toNat:Nat):Int)=i by omega] at z
  exact z
 ·rw[s]
  simp[hk]
theorem zas.snoc {S:Sto}{lo:Nat}{ds:List D}{R:List (List (Int×Int))}{a:Nat}{r:List (Int×Int)}(h:zas S lo ds R)(hl:lo≤a)(hs:S[a]?=some (.lst (r.map frD))):zas S lo (ds++[.ref a]) (R++[r]):=⟨by rw[Vao,Vao,h.1]; rfl,λk d r' hd hr=>by
 by_cases hk:k<ds.length
 ·rw[Vap hk] at hd
  rw[Vap (by rw[← h.1]; exact hk)] at hr
  exact h.2 k d r' hd hr
 ·have l:=(Vac.mp hd).1
  simp only[Vao,VaO,List.length_nil] at l
  have ek:k=ds.length:=by omega
  subst ek
  rw[Vay (Vaa _),Va3] at hd
  rw[h.1,Vay (Vaa _),Va3] at hr
  cases hd
  cases hr
  exact⟨a,rfl,hl,hs⟩⟩
open PySem.W in
def kev {α:Type}(lt:Nat→Nat→Bool):KasT α→α
 | .ret a=>a
 | .ask i j k=>kev lt (k (lt i j))
open PySem.W in
theorem zb2 {α β:Type}(lt:Nat→Nat→Bool)(f:α→KasT β):∀t:KasT α,kev lt (t.bind f)=kev lt (f (kev lt t))
 | .ret _=>rfl
 | .ask i j k=>zb2 lt f (k (lt i j))
def kk (key:Nat→Int)(p:Array Nat)(i:Nat):Int:=key (p.getD i 0)
theorem zfB {key:Nat→Int}{p q:Array Nat}{i j:Nat}(h:p[i]?=q[j]?):kk key p i=kk key q j:=by
 unfold kk
 rw[Array.getD_eq_getD_getElem?,Array.getD_eq_getD_getElem?,h]
abbrev klt (key:Nat→Int)(i j:Nat):Bool:=decide (key i<key j)
def Unl (key:Nat→Int)(p:Array Nat):Prop:=(p.toList.map key).Nodup
theorem Unl.perm {key:Nat→Int}{p q:Array Nat}(h:Unl key p)(e:q.Perm p):Unl key q:=by
 unfold Unl at h ⊢
 exact((Array.perm_iff_toList_perm.mp e).map key).nodup_iff.mpr h
theorem Unl.ne {key:Nat→Int}{p:Array Nat}(h:Unl key p){i j:Nat}(hi:i<p.size)(hj:j<p.size)(e:i≠j):kk key p i≠kk key p j:=by
 have z:=List.pairwise_iff_getElem.mp h
 have g:∀k (hk:k<p.size),(p.toList.map key)[k]'(by simpa using hk)=kk key p k:=λk hk=>by
  unfold kk
  simp[Array.getD,hk]
 by_cases c:i<j
 ·have w:=z i j (by simpa using hi) (by simpa using hj) c
  rw[g i hi,g j hj] at w
  exact w
 ·have w:=z j i (by simpa using hj) (by simpa using hi) (by omega)
  rw[g i hi,g j hj] at w
  exact λq=>w q.symm
def Srt (key:Nat→Int)(p:Array Nat)(m:Nat):Prop:=∀i j:Nat,i<j→j<m→kk key p i<kk key p j
theorem zgn {key:Nat→Int}{p:Array Nat}:∀ {m:Nat},(∀i,1≤i→i<m→kk key p (i-1)<kk key p i)→Srt key p m:=λ{m} h i j hij hj=>by
 induction j with
 | zero=>omega
 | succ j ih=>
  have s:=h (j+1) (by omega) hj
  rw[Nat.add_sub_cancel] at s
  by_cases c:i=j
  ·rw[c]; exact s
  ·have:=ih (by omega) (by omega)
   omega
open PySem.W in
theorem zgM (key:Nat→Int)(p:Array Nat):∀(f n:Nat),n≤kev (klt key) (kas_asc p f n)∧kev (klt key) (kas_asc p f n)≤n+f∧(∀i,n≤i→i<kev (klt key) (kas_asc p f n)→¬ kk key p i<kk key p (i-1))∧(kev (klt key) (kas_asc p f n)<n+f→kk key p (kev (klt key) (kas_asc p f n))<kk key p (kev (klt key) (kas_asc p f n)-1))
 | 0,n=>⟨Vaa _,Vaa _,λi h1 h2=>by have h3:i<n:=h2; omega,λh=>by have h3:n<n+0:=h; omega⟩
 | f+1,n=>by
  have e:kev (klt key) (kas_asc p (f+1) n)=if decide (kk key p n<kk key p (n-1))=true then n else kev (klt key) (kas_asc p f (n+1)):=by
   show kev (klt key) (if klt key (p.getD n 0) (p.getD (n-1) 0)=true then KasT.ret n else kas_asc p f (n+1))=_
   show _=if klt key (p.getD n 0) (p.getD (n-1) 0)=true then n else _
   split <;> rfl
  rw[e]
  by_cases c:kk key p n<kk key p (n-1)
  ·rw[decide_eq_true c,if_pos rfl]
   exact⟨Vaa _,by omega,λi h1 h2=>by omega,λ_=>c⟩
  ·rw[decide_eq_false c,if_neg (by decide)]
   obtain⟨a1,a2,a3,a4⟩:=zgM key p f (n+1)
   refine⟨by omega,by omega,λi h1 h2=>?_,λh=>a4 (by omega)⟩
   by_cases q:i=n
   ·rw[q]; exact c
   ·exact a3 i (by omega) h2
open PySem.W in
theorem zgW {key:Nat→Int}{p:Array Nat}(hp:Unl key p):∀(f n:Nat),1≤n→n+f≤p.size→∃m,kev (klt key) (kas_desc f p n 0)=(p,m,0)∧n≤m∧m≤n+f∧∀i,n≤i→i<m→kk key p i<kk key p (i-1)
 | 0,n,_,_=>⟨n,rfl,Vaa _,Vaa _,λi h1 h2=>by omega⟩
 | f+1,n,h1,h2=>by
  have e:kev (klt key) (kas_desc (f+1) p n 0)=if decide (kk key p n<kk key p (n-1))=true then kev (klt key) (kas_desc f p (n+1) 0) else if decide (kk key p (n-1)<kk key p n)=true then (p,n,0) else kev (klt key) (kas_desc f p (n+1) (0+1)):=by
   show kev (klt key) (if klt key (p.getD n 0) (p.getD (n-1) 0)=true then (if 0 > 0 then kas_desc f (kas_rev p (n-(0+1)) n) (n+1) 0 else kas_desc f p (n+1) 0) else .ask (p.getD (n-1) 0) (p.getD n 0) λd=>if d=true then .ret (p,n,0) else kas_desc f p (n+1) (0+1))=_
   show _=if klt key (p.getD n 0) (p.getD (n-1) 0)=true then _ else if klt key (p.getD (n-1) 0) (p.getD n 0)=true then _ else _
   split
   ·rw[if_neg (by omega)]
   ·show kev (klt key) (if klt key (p.getD (n-1) 0) (p.getD n 0)=true then _ else _)=_
    split <;> rfl
  rw[e]
  have ne:=hp.ne (i:=n) (j:=n-1) (by omega) (by omega) (by omega)
  by_cases c:kk key p n<kk key p (n-1)
  ·rw[decide_eq_true c,if_pos rfl]
   obtain⟨m,a1,a2,a3,a4⟩:=zgW hp f (n+1) (by omega) (by omega)
   refine⟨m,a1,by omega,by omega,λi h3 h4=>?_⟩
   by_cases q:i=n
   ·rw[q]; exact c
   ·exact a4 i (by omega) h4
  ·have c2:kk key p (n-1)<kk key p n:=by omega
   rw[decide_eq_false c,if_neg (by decide),decide_eq_true c2,if_pos rfl]
   exact⟨n,rfl,Vaa _,by omega,λi h3 h4=>by omega⟩
open PySem.W in
theorem zmY {key:Nat→Int}{p:Array Nat}(hp:Unl key p)(h1:1≤p.size):∃m q,kev (klt key) (kas_count p.size p)=(m,q)∧1≤m∧m≤p.size∧q.Perm p∧Srt key q m:=by
 unfold kas_count
 rw[zb2]
 obtain⟨a1,a2,a3,a4⟩:=zgM key p (p.size-1) 1
 generalize kev (klt key) (kas_asc p (p.size-1) 1)=n at a1 a2 a3 a4
 have srt:Srt key p n:=zgn λi i1 i2=>by
  have z:=a3 i i1 i2
  have ne:=hp.ne (i:=i) (j:=i-1) (by omega) (by omega) (by omega)
  omega
 by_cases e:n=p.size
 ·rw[if_pos (by simp[e])]
  exact⟨n,p,rfl,a1,by omega,Array.Perm.refl _,srt⟩
 ·rw[if_neg (by simp[e])]
  by_cases g:n > 1
  ·rw[if_pos g]
   have c:klt key (p.getD 0 0) (p.getD (n-1) 0)=true:=decide_eq_true (srt 0 (n-1) (by omega) (by omega))
   refine⟨n,p,?_,a1,by omega,Array.Perm.refl _,srt⟩
   show kev (klt key) (if klt key (p.getD 0 0) (p.getD (n-1) 0)=true then _ else _)=_
   rw[if_pos c]
   rfl
  ·rw[if_neg g]
   have n1:n=1:=by omega
   subst n1
   have d0:=a4 (by omega)
   unfold kas_descPart
   rw[zb2]
   obtain⟨m,b1,b2,b3,b4⟩:=zgW hp (p.size-(1+1)) (1+1) (by omega) (by omega)
   rw[b1]
   dsimp only
   rw[if_neg (by omega)]
   unfold kas_tail3
   rw[zb2]
   have hq:(kas_rev p 0 m).Perm p:=mirror_perm _ _ _ _
   have at':∀i,i<m→kk key (kas_rev p 0 m) i=kk key p (m-1-i):=λi hi=>zfB (by
    unfold kas_rev
    rw[getElem?_mirror_all (by omega),if_pos ⟨by omega,hi⟩,Nat.zero_add])
   have sz:(kas_rev p 0 m).size=p.size:=mirror_size _ _ _ _
   obtain⟨c1,c2,c3,c4⟩:=zgM key (kas_rev p 0 m) (p.size-m) m
   refine⟨_,_,rfl,by omega,by omega,hq,zgn λi i1 i2=>?_⟩
   by_cases im:i<m
   ·rw[at' i im,at' (i-1) (by omega)]
    by_cases i0:m-1-(i-1)=1
    ·rw[i0,show m-1-i=1-1 by omega]
     exact d0
    ·have z:=b4 (m-1-(i-1)) (by omega) (by omega)
     rw[show m-1-(i-1)-1=m-1-i by omega] at z
     exact z
   ·have z:=c3 i (by omega) i2
    have ne:=(hp.perm hq).ne (i:=i) (j:=i-1) (by omega) (by omega) (by omega)
    omega
open PySem.W in
theorem zgz {key:Nat→Int}{p:Array Nat}{k:Nat}(hp:Unl key p)(hk:k<p.size)(srt:Srt key p k):∀(f l r:Nat),l≤r→r≤k→r-l≤f→(∀i,i<l→kk key p i<kk key p k)→(∀i,r≤i→i<k→kk key p k<kk key p i)→kev (klt key) (kas_place p k f l r)≤k∧(∀i,i<kev (klt key) (kas_place p k f l r)→kk key p i<kk key p k)∧∀i,kev (klt key) (kas_place p k f l r)≤i→i<k→kk key p k<kk key p i
 | 0,l,r,h1,h2,h3,h4,h5=>⟨by show l≤k; omega,h4,λi q1 q2=>h5 i (by have q3:l≤i:=q1; omega) q2⟩
 | f+1,l,r,h1,h2,h3,h4,h5=>by
  by_cases c:l≥r
  ·have e:kev (klt key) (kas_place p k (f+1) l r)=l:=by
    show kev (klt key) (if l≥r then KasT.ret l else _)=l
    rw[if_pos c]
    rfl
   rw[e]
   exact⟨by omega,h4,λi q1 q2=>h5 i (by omega) q2⟩
  ·have e:kev (klt key) (kas_place p k (f+1) l r)=if decide (kk key p k<kk key p ((l+r)/2))=true then kev (klt key) (kas_place p k f l ((l+r)/2)) else kev (klt key) (kas_place p k f ((l+r)/2+1) r):=by
    show kev (klt key) (if l≥r then KasT.ret l else .ask (p.getD k 0) (p.getD ((l+r)/2) 0) λc=>if c=true then kas_place p k f l ((l+r)/2) else kas_place p k f ((l+r)/2+1) r)=_
    rw[if_neg c]
    show kev (klt key) (if klt key (p.getD k 0) (p.getD ((l+r)/2) 0)=true then kas_place p k f l ((l+r)/2) else kas_place p k f ((l+r)/2+1) r)=if klt key (p.getD k 0) (p.getD ((l+r)/2) 0)=true then _ else _
    cases klt key (p.getD k 0) (p.getD ((l+r)/2) 0) <;> rfl
   rw[e]
   by_cases d:kk key p k<kk key p ((l+r)/2)
   ·rw[decide_eq_true d,if_pos rfl]
    refine zgz hp hk srt f l ((l+r)/2) (by omega) (by omega) (by omega) h4 λi q1 q2=>?_
    by_cases q:i=(l+r)/2
    ·rw[q]; exact d
    ·have:=srt ((l+r)/2) i (by omega) q2
     omega
   ·rw[decide_eq_false d,if_neg (by decide)]
    have ne:=hp.ne (i:=k) (j:=(l+r)/2) hk (by omega) (by omega)
    refine zgz hp hk srt f ((l+r)/2+1) r (by omega) h2 (by omega) (λi q1=>?_) h5
    by_cases q:i=(l+r)/2
    ·rw[q]; omega
    ·have:=srt i ((l+r)/2) (by omega) (by omega)
     omega
open PySem.W in
theorem zif {key:Nat→Int}:∀(f k:Nat) (p:Array Nat),Unl key p→k+f≤p.size→Srt key p k→(kev (klt key) (kas_bin f p k)).Perm p∧Srt key (kev (klt key) (kas_bin f p k)) (k+f)
 | 0,k,p,_,_,h=>⟨Array.Perm.refl _,h⟩
 | f+1,k,p,hp,hk,srt=>by
  have e:kev (klt key) (kas_bin (f+1) p k)=kev (klt key) (kas_bin f (bubble p k (k-kev (klt key) (kas_place p k k 0 k))) (k+1)):=zb2 _ _ _
  rw[e]
  obtain⟨l1,l2,l3⟩:=zgz hp (show k<p.size by omega) srt k 0 k (by omega) (by omega) (by omega) (λi q=>by omega) (λi q1 q2=>by omega)
  generalize kev (klt key) (kas_place p k k 0 k)=l at l1 l2 l3
  have hq:(bubble p k (k-l)).Perm p:=bubble_perm _ _ _
  have sz:(bubble p k (k-l)).size=p.size:=bubble_size _ _ _
  have at':∀i,kk key (bubble p k (k-l)) i=if i=l then kk key p k else if l<i∧i≤k then kk key p (i-1) else kk key p i:=λi=>by
   have z:=getElem?_bubble (xs:=p) (src:=k) (by omega) (k-l) (by omega) i
   rw[show k-(k-l)=l by omega] at z
   by_cases c1:i=l
   ·rw[if_pos c1] at z ⊢
    exact zfB z
   ·rw[if_neg c1] at z ⊢
    by_cases c2:l<i∧i≤k
    ·rw[if_pos c2] at z ⊢
     exact zfB z
    ·rw[if_neg c2] at z ⊢
     exact zfB z
  have s2:Srt key (bubble p k (k-l)) (k+1):=zgn λi i1 i2=>by
   rw[at' i,at' (i-1)]
   by_cases c1:i=l
   ·rw[if_pos c1,if_neg (by omega),if_neg (by omega)]
    exact l2 (i-1) (by omega)
   ·rw[if_neg c1]
    by_cases c2:l<i
    ·by_cases c3:i-1=l
     ·rw[if_pos c3,if_pos ⟨c2,by omega⟩,c3]
      exact l3 l (Vaa _) (by omega)
     ·rw[if_neg c3,if_pos (show l<i-1∧i-1≤k from ⟨by omega,by omega⟩),if_pos (show l<i∧i≤k from ⟨c2,by omega⟩)]
      exact srt (i-1-1) (i-1) (by omega) (by omega)
    ·rw[if_neg (by omega),if_neg (by omega),if_neg (by omega)]
     exact srt (i-1) i (by omega) (by omega)
  obtain⟨r1,r2⟩:=zif f (k+1) (bubble p k (k-l)) (hp.perm hq) (by omega) s2
  rw[show k+(f+1)=k+1+f by omega]
  exact⟨r1.trans hq,r2⟩
open PySem.W in
theorem zh3 {key:Nat→Int}{n:Nat}(hp:Unl key (List.toArray (List.range n)))(h1:1≤n):(kev (klt key) (kas_sort n)).Perm (List.toArray (List.range n))∧Srt key (kev (klt key) (kas_sort n)) n:=by
 unfold kas_sort
 rw[zb2]
 have sz:(List.toArray (List.range n)).size=n:=by simp
 obtain⟨m,q,e,m1,m2,pq,sq⟩:=zmY hp (by omega)
 rw[sz] at e m2
 rw[e]
 dsimp only
 by_cases c:m<n
 ·rw[if_pos c]
  have szq:q.size=n:=by rw[pq.size_eq,sz]
  obtain⟨r1,r2⟩:=zif (n-max m 1) (max m 1) q (hp.perm pq) (by omega) (by rw[show max m 1=m by omega]; exact sq)
  rw[show max m 1+(n-max m 1)=n by omega] at r2
  exact⟨r1.trans pq,r2⟩
 ·rw[if_neg c]
  rw[show m=n by omega] at sq
  exact⟨pq,sq⟩
open MeetsSeq in
theorem zmh (l b:Addr)(items items2:Array Value)(n n2:Nat){x y:Int}{t u:Tok}(h1:items[0]?=some (.int x t))(h2:items2[0]?=some (.int y u))(ne:x≠y):
  Meets (Builtin.«list.__eq__.loop» ⟨[.ref l,.ref b,rawInt 0,rawInt 0],[]⟩)
   (λ_ R s=>(∃o,s.heap.get? l=some o∧o.cls=.type "list"∧o.data=.seq items n)∧(∃o,s.heap.get? b=some o∧o.cls=.type "list"∧o.data=.seq items2 n2)∧R (.ok (.ret (.bool (decide (x<y))))) s):=by
 intro prog w A R s h
 obtain⟨⟨o1,g1,_,d1⟩,⟨o2,g2,_,d2⟩,h⟩:=h
 unfold Builtin.«list.__eq__.loop»
 dsimp only
 refine wpAny_bind (listItems_at g1 d1 ?_)
 refine wpAny_bind (listItems_at g2 d2 ?_)
 have e1:items[(0:Int).toNat]?=some (.int x t):=h1
 have e2:items2[(0:Int).toNat]?=some (.int y u):=h2
 rw[e1,e2]
 dsimp only
 refine wpAny_bind ((EqGives.int x y t u) prog w _ _ _ _ ?_)
 rw[show (x==y)=false by simpa using ne]
 simp only[Bool.false_eq_true,if_false]
 refine wpAny_bind (listItems_at g1 d1 ?_)
 refine wpAny_bind (listItems_at g2 d2 ?_)
 rw[e1,e2]
 dsimp only
 refine wpAny_bind (wpAny_richCompare_same (typeIs_int s x t) (typeIs_int s y u) slot_int_lt (call_int_lt ⟨nofun,?_⟩))
 exact wpAny_pure h
theorem zlE (l b:Addr)(items items2:Array Value)(n n2:Nat){x y:Int}{t u:Tok}(h1:items[0]?=some (.int x t))(h2:items2[0]?=some (.int y u))(ne:x≠y):
  Meets (Builtin.«list.__lt__» ⟨[.ref l,.ref b],[]⟩)
   (λ_ R s=>(∃o,s.heap.get? l=some o∧o.cls=.type "list"∧o.data=.seq items n)∧(∃o,s.heap.get? b=some o∧o.cls=.type "list"∧o.data=.seq items2 n2)∧R (.ok (.ret (.bool (decide (x<y))))) s):=by
 intro prog w A R s h
 obtain⟨hp,g,d,tk,os⟩:=s
 obtain⟨p1,⟨o2,g2,c2,d2⟩,h⟩:=h
 have f3:=AutoSeq1.sub_list_list
 have hb:Shared.TypeIs ⟨hp,g,d,tk,os⟩ (.ref b) "list":=⟨o2,g2,c2⟩
 wp_walk using wpAny_isInstance hb f3
 exact⟨plainId_quiet MeetsSeq3.plain_eq_loop _,codeAny_builtin MeetsSeq3.entry_eq_loop (by
  rw[Around.under_plainId MeetsSeq3.plain_eq_loop _]
  exact zmh l b items items2 n n2 h1 h2 ne prog w A R _ ⟨p1,⟨o2,g2,c2,d2⟩,h⟩)⟩
def inB {α:Type}(n:Nat)(lt:Nat→Nat→Bool):PySem.W.KasT α→Prop
 | .ret _=>True
 | .ask i j k=>(i<n∧j<n∧i≠j)∧inB n lt (k (lt i j))
theorem zc8 {α β:Type}{n:Nat}{lt:Nat→Nat→Bool}{f:α→PySem.W.KasT β}:∀ {t:PySem.W.KasT α},inB n lt t→inB n lt (f (kev lt t))→inB n lt (t.bind f)
 | .ret _,_,h=>h
 | .ask _ _ _,h1,h=>⟨h1.1,zc8 h1.2 h⟩
structure Bel (n:Nat)(p:Array Nat):Prop where
 sz:p.size=n
 nd:p.toList.Nodup
 lt:∀x∈p,x<n
theorem Bel.two {n:Nat}{p:Array Nat}(h:Bel n p){i j:Nat}(hi:i<n)(hj:j<n)(e:i≠j):p.getD i 0<n∧p.getD j 0<n∧p.getD i 0≠p.getD j 0:=by
 have hz:=h.sz
 have g:∀k (hk:k<p.size),p.getD k 0=p[k]:=λk hk=>by simp[Array.getD,hk]
 rw[g i (by omega),g j (by omega)]
 refine⟨h.lt _ (Array.getElem_mem _),h.lt _ (Array.getElem_mem _),λw=>e ?_⟩
 have z:=List.pairwise_iff_getElem.mp h.nd
 by_cases c:i<j
 ·exact absurd w (z i j (by simp; omega) (by simp; omega) c)
 ·by_cases d:j<i
  ·exact absurd w.symm (z j i (by simp; omega) (by simp; omega) d)
  ·omega
theorem Bel.perm {n:Nat}{p q:Array Nat}(h:Bel n p)(e:q.Perm p):Bel n q:=⟨by rw[e.size_eq]; exact h.sz,(Array.perm_iff_toList_perm.mp e).nodup_iff.mpr h.nd,λx hx=>h.lt x (e.mem_iff.mp hx)⟩
open PySem.W in
theorem zgl {n:Nat}{lt:Nat→Nat→Bool}{p:Array Nat}(h:Bel n p):∀f k:Nat,1≤k→k+f≤n→inB n lt (kas_asc p f k)∧k≤kev lt (kas_asc p f k)∧kev lt (kas_asc p f k)≤k+f
 | 0,k,_,_=>⟨trivial,Vaa k,Vaa k⟩
 | f+1,k,h1,h2=>by
  have main:∀c:Bool,inB n lt (if c=true then KasT.ret k else kas_asc p f (k+1))∧k≤kev lt (if c=true then KasT.ret k else kas_asc p f (k+1))∧kev lt (if c=true then KasT.ret k else kas_asc p f (k+1))≤k+(f+1):=λc=>by
   cases c
   ·rw[if_neg (by decide)]
    obtain⟨a,b,c⟩:=zgl h f (k+1) (by omega) (by omega)
    exact⟨a,by omega,by omega⟩
   ·rw[if_pos rfl]
    exact⟨trivial,Vaa k,by show k≤_; omega⟩
  exact⟨⟨h.two (by omega) (by omega) (by omega),(main _).1⟩,(main _).2⟩
open PySem.W in
theorem zf2 {n:Nat}{lt:Nat→Nat→Bool}:∀(f:Nat) (p:Array Nat) (k q:Nat),Bel n p→1≤k→k+f≤n→inB n lt (kas_desc f p k q)∧Bel n (kev lt (kas_desc f p k q)).1∧k≤(kev lt (kas_desc f p k q)).2.1∧(kev lt (kas_desc f p k q)).2.1≤k+f
 | 0,p,k,q,h,_,_=>⟨trivial,h,Vaa k,Vaa k⟩
 | f+1,p,k,q,h,h1,h2=>by
  let T:Bool→KasT (Array Nat×Nat×Nat):=λd=>if d=true then KasT.ret (p,k,q) else kas_desc f p (k+1) (q+1)
  let U:Bool→KasT (Array Nat×Nat×Nat):=λc=>if c=true then (if q > 0 then kas_desc f (kas_rev p (k-(q+1)) k) (k+1) 0 else kas_desc f p (k+1) 0) else .ask (p.getD (k-1) 0) (p.getD k 0) T
  have two:∀d:Bool,inB n lt (T d)∧Bel n (kev lt (T d)).1∧k≤(kev lt (T d)).2.1∧(kev lt (T d)).2.1≤k+(f+1):=λd=>by
   cases d
   ·obtain⟨a,b,c,d⟩:=zf2 (lt:=lt) f p (k+1) (q+1) h (by omega) (by omega)
    exact⟨a,b,by show k≤(kev lt (kas_desc f p (k+1) (q+1))).2.1; omega,by show (kev lt (kas_desc f p (k+1) (q+1))).2.1≤_; omega⟩
   ·exact⟨trivial,h,Vaa k,by show k≤_; omega⟩
  have main:∀c:Bool,inB n lt (U c)∧Bel n (kev lt (U c)).1∧k≤(kev lt (U c)).2.1∧(kev lt (U c)).2.1≤k+(f+1):=λc=>by
   cases c
   ·exact⟨⟨h.two (by omega) (by omega) (by omega),(two _).1⟩,(two _).2⟩
   ·by_cases g:q > 0
    ·have e:U true=kas_desc f (kas_rev p (k-(q+1)) k) (k+1) 0:=if_pos g
     rw[e]
     obtain⟨a,b,c,d⟩:=zf2 (lt:=lt) f _ (k+1) 0 (h.perm (mirror_perm p (k-(q+1)) k ((k-(k-(q+1)))/2))) (by omega) (by omega)
     exact⟨a,b,by show k≤(kev lt (kas_desc f (kas_rev p (k-(q+1)) k) (k+1) 0)).2.1; unfold kas_rev; omega,by show (kev lt (kas_desc f (kas_rev p (k-(q+1)) k) (k+1) 0)).2.1≤_; unfold kas_rev; omega⟩
    ·have e:U true=kas_desc f p (k+1) 0:=if_neg g
     rw[e]
     obtain⟨a,b,c,d⟩:=zf2 (lt:=lt) f p (k+1) 0 h (by omega) (by omega)
     exact⟨a,b,by omega,by omega⟩
  exact⟨⟨h.two (by omega) (by omega) (by omega),(main _).1⟩,(main _).2⟩
open PySem.W in
theorem zhL {n m:Nat}{lt:Nat→Nat→Bool}{p:Array Nat}(h:Bel n p)(h1:1≤m)(h2:m≤n):inB n lt (kas_tail3 m n p)∧Bel n (kev lt (kas_tail3 m n p)).2:=by
 unfold kas_tail3
 have h':Bel n (kas_rev p 0 m):=h.perm (mirror_perm _ _ _ _)
 refine⟨zc8 (zgl h' _ _ h1 (by omega)).1 trivial,?_⟩
 rw[zb2]
 exact h'
open PySem.W in
theorem zki {n:Nat}{lt:Nat→Nat→Bool}{p:Array Nat}(h:Bel n p)(n1:1≤n):inB n lt (kas_count n p)∧Bel n (kev lt (kas_count n p)).2:=by
 have dp:∀(m:Nat) (p:Array Nat),Bel n p→1≤m→m<n→inB n lt (kas_descPart m n p)∧Bel n (kev lt (kas_descPart m n p)).2:=λm p h m1 m2=>by
  unfold kas_descPart
  obtain⟨d1,d2,d3,d4⟩:=zf2 (lt:=lt) (n-(m+1)) p (m+1) 0 h (by omega) (by omega)
  rw[zb2]
  generalize er:kev lt (kas_desc (n-(m+1)) p (m+1) 0)=r at d2 d3 d4
  have z:inB n lt (if r.2.2 > 0 then kas_tail3 r.2.1 n (kas_rev r.1 (r.2.1-(r.2.2+1)) r.2.1) else kas_tail3 r.2.1 n r.1)∧Bel n (kev lt (if r.2.2 > 0 then kas_tail3 r.2.1 n (kas_rev r.1 (r.2.1-(r.2.2+1)) r.2.1) else kas_tail3 r.2.1 n r.1)).2:=by
   split
   ·exact zhL (d2.perm (mirror_perm _ _ _ _)) (by omega) (by omega)
   ·exact zhL d2 (by omega) (by omega)
  exact⟨zc8 d1 (by rw[er]; exact z.1),z.2⟩
 unfold kas_count
 rw[zb2]
 obtain⟨a,a1,a2⟩:=zgl (lt:=lt) h (n-1) 1 (by omega) (by omega)
 generalize em:kev lt (kas_asc p (n-1) 1)=m at a1 a2
 have z:inB n lt (if (m==n)=true then KasT.ret (m,p) else if m > 1 then .ask (p.getD 0 0) (p.getD (m-1) 0) λc=>if c=true then .ret (m,p) else kas_descPart m n (kas_rev p 0 m) else kas_descPart m n p)∧Bel n (kev lt (if (m==n)=true then KasT.ret (m,p) else if m > 1 then .ask (p.getD 0 0) (p.getD (m-1) 0) λc=>if c=true then .ret (m,p) else kas_descPart m n (kas_rev p 0 m) else kas_descPart m n p)).2:=by
  split
  ·exact⟨trivial,h⟩
  ·rename_i ne
   have ne':m≠n:=by simpa using ne
   split
   ·have two:∀c:Bool,inB n lt (if c=true then KasT.ret (m,p) else kas_descPart m n (kas_rev p 0 m))∧Bel n (kev lt (if c=true then KasT.ret (m,p) else kas_descPart m n (kas_rev p 0 m))).2:=λc=>by
     cases c
     ·rw[if_neg (by decide)]
      exact dp m _ (h.perm (mirror_perm _ _ _ _)) a1 (by omega)
     ·rw[if_pos rfl]
      exact⟨trivial,h⟩
    exact⟨⟨h.two (by omega) (by omega) (by omega),(two _).1⟩,(two _).2⟩
   ·exact dp m p h a1 (by omega)
 exact⟨zc8 a (by rw[em]; exact z.1),z.2⟩
open PySem.W in
theorem zf8 {n k:Nat}{lt:Nat→Nat→Bool}{p:Array Nat}(h:Bel n p)(hk:k<n):∀f l r:Nat,r≤k→inB n lt (kas_place p k f l r)
 | 0,_,_,_=>trivial
 | f+1,l,r,hr=>by
  unfold kas_place
  split
  ·trivial
  ·refine⟨h.two (by omega) (by omega) (by omega),?_⟩
   dsimp only
   split
   ·exact zf8 h hk f _ _ (by omega)
   ·exact zf8 h hk f _ _ hr
open PySem.W in
theorem zil {n:Nat}{lt:Nat→Nat→Bool}:∀(f:Nat) (p:Array Nat) (k:Nat),Bel n p→k+f≤n→inB n lt (kas_bin f p k)
 | 0,_,_,_,_=>trivial
 | f+1,p,k,h,hk=>zc8 (zf8 h (by omega) _ _ _ (Vaa _)) (zil f _ _ (h.perm (bubble_perm _ _ _)) (by omega))
open PySem.W in
theorem zha {n:Nat}{lt:Nat→Nat→Bool}(h1:1≤n):inB n lt (kas_sort n):=by
 have h:Bel n (List.toArray (List.range n)):=⟨by simp,by simpa using List.nodup_range,λx hx=>by simpa using hx⟩
 unfold kas_sort
 obtain⟨c1,c2⟩:=zki (lt:=lt) h h1
 refine zc8 c1 ?_
 split
 ·exact zil _ _ _ c2 (by omega)
 ·trivial
open PySem.W in
theorem zf4 {α:Type}{cmp:Nat→Nat→(Bool→Shared→Prop)→Shared→Prop}{n:Nat}{lt:Nat→Nat→Bool}{Q:α→Shared→Prop}{s:Shared}(hc:∀i j (C:Bool→Shared→Prop),i<n→j<n→i≠j→C (lt i j) s→cmp i j C s):∀t:KasT α,inB n lt t→Q (kev lt t) s→t.kasWp cmp Q s
 | .ret _,_,h=>h
 | .ask i j k,b,h=>hc i j _ b.1.1 b.1.2.1 b.1.2.2 (zf4 hc (k (lt i j)) b.2 h)
def zcg (h:Heap)(vs:List Value)(ks:List Int):Prop:=vs.length=ks.length∧∀(i:Nat) (v:Value) (k:Int),vs[i]?=some v→ks[i]?=some k→∃(a:Addr) (o:Obj) (items:Array Value) (n:Nat) (t:Tok),v=.ref a∧h.get? a=some o∧o.cls=.type "list"∧o.data=.seq items n∧items[0]?=some (.int k t)
theorem zcg.keep {h h':Heap}{vs:List Value}{ks:List Int}(k:zcg h vs ks)(up:∀a o,.ref a∈vs→h.get? a=some o→h'.get? a=some o):zcg h' vs ks:=⟨k.1,λi v x hv hx=>by
 obtain⟨a,o,items,n,t,rfl,e1,e2,e3,e4⟩:=k.2 i v x hv hx
 exact⟨a,o,items,n,t,rfl,up a o (Vag hv) e1,e2,e3,e4⟩⟩
section
variable {prog:Program}{w:World}{A:Around}{E:Value→Shared→Prop}{s:Shared}
open MeetsSeq in
theorem ziW {l b:Addr}{o1 o2:Obj}{items items2:Array Value}{n n2:Nat}{x y:Int}{t u:Tok}{Q:Bool→Shared→Prop}(hu:A.units<cLine)(g1:s.heap.get? l=some o1)(c1:o1.cls=.type "list")(d1:o1.data=.seq items n)(g2:s.heap.get? b=some o2)(c2:o2.cls=.type "list")(d2:o2.data=.seq items2 n2)(h1:items[0]?=some (.int x t))(h2:items2[0]?=some (.int y u))(ne:x≠y)(q:Q (decide (x<y)) s):
  wpAny (model prog w) A (oneLt' true (.ref l) (.ref b)) Q E s:=by
 rw[oneLt'_eq]
 simp only[if_true]
 refine wpAny_bind (wpAny_cRoomFor hu ?_)
 refine wpAny_bind (wpAny_callSpecialIfBound?_slot ⟨o1,g1,c1⟩ F.slot_list_lt (call_meets F.slot_list_lt ⟨o1,g1,c1⟩ F.entry_list_lt (F.args_list_lt_2 _ _) (zlE l b items items2 n n2 h1 h2 ne) ⟨⟨o1,g1,c1,d1⟩,⟨o2,g2,c2,d2⟩,?_⟩))
 exact wpAny_truthy_bool q
end
theorem zhZ {xs:List Int}(h:xs.Nodup){i j:Nat}{x y:Int}(hi:xs[i]?=some x)(hj:xs[j]?=some y)(e:x=y):i=j:=by
 subst e
 obtain⟨li,ei⟩:=Vac.mp hi
 obtain⟨lj,ej⟩:=Vac.mp hj
 have z:=List.pairwise_iff_getElem.mp h
 by_cases c:i<j
 ·exact absurd (ei.trans ej.symm) (z i j li lj c)
 ·by_cases d:j<i
  ·exact absurd (ej.trans ei.symm) (z j i lj li d)
  ·omega
section
variable {prog:Program}{w:World}{A:Around}{E:Value→Shared→Prop}{s:Shared}
abbrev zbx (h:Heap)(a:Addr)(vs:List Value):Heap:=((h.update a (Obj.mapSeq λ_=>#[])).push (seqObj "tuple" vs.toArray 0)).push (seqObj "list" #[] 0)
theorem zhe {h:Heap}{a b:Addr}{vs:List Value}{o:Obj}(ne:b≠a)(e:h.get? b=some o):(zbx h a vs).get? b=some o:=by
 have lb:=Heap.lt_size e
 have sz1:(h.update a (Obj.mapSeq λ_=>#[])).objs.size=h.objs.size:=Heap.size_update ..
 unfold zbx
 rw[Heap.get?_push_ne _ _ _ (by rw[size_push',sz1]; exact Vai (Nat.lt_succ_of_lt lb)),Heap.get?_push_ne _ _ _ (by rw[sz1]; exact Vai lb),Heap.get?_update_ne _ _ _ _ ne]
 exact e
theorem zhv {h:Heap}{a:Addr}{vs:List Value}{n:Nat}(e:h.get? a=some (seqObj "list" vs.toArray n)):∃e1,(h.update a (Obj.mapSeq λ_=>#[])).get? a=some (seqObj "list" #[] e1)∧(zbx h a vs).get? a=some (seqObj "list" #[] e1):=by
 have la:=Heap.lt_size e
 obtain⟨e1,he1⟩:∃e1,(h.update a (Obj.mapSeq λ_=>#[])).get? a=some (seqObj "list" #[] e1):=⟨_,get?_update_seq e (λ_=>#[])⟩
 have sz1:(h.update a (Obj.mapSeq λ_=>#[])).objs.size=h.objs.size:=Heap.size_update ..
 refine⟨e1,he1,?_⟩
 unfold zbx
 rw[Heap.get?_push_ne _ _ _ (by rw[size_push',sz1]; exact Vai (Nat.lt_succ_of_lt la)),Heap.get?_push_ne _ _ _ (by rw[sz1]; exact Vai la)]
 exact he1
theorem zaj {α:Type}{xs:List α}{i:Nat}{d:α}(h:i<xs.length):xs[i]?=some (xs.getD i d):=by
 rw[Vak,Vae h]
 rfl
theorem zer (p:Array Nat)(i:Nat)(h:i<p.toList.length):p.getD i 0=p.toList[i]:=by
 have h':i<p.size:=by simpa using h
 rw[Array.getElem_toList]
 simp[Array.getD,h']
open PySem.W in
theorem zkq {vs:List Value}{ks:List Int}{Q:Unit→SortSt→Shared→Prop}(hK:zcg s.heap vs ks)(nd:ks.Nodup)(h2:2≤vs.length)(h64:vs.length<64)(hu:A.units<cLine)
  (q:∀(p:List Nat) (st:SortSt),p.Perm (List.range vs.length)→(p.map λi=>ks.getD i 0).Pairwise (·<·)→(arrOf st).map (·.2)=(p.map λi=>vs.getD i Value.none).toArray→failedOf st=none→Q () st s):
  kasC (model prog w) A E sortRuns' Q (kas_st oneType' (pairsOf vs) (List.toArray (List.range vs.length))) s:=by
 have lk:=hK.1
 have unl:Unl (λi=>ks.getD i 0) (List.toArray (List.range vs.length)):=by
  unfold Unl
  have e:(List.toArray (List.range vs.length)).toList.map (λi=>ks.getD i 0)=ks:=by
   refine VaU λk=>?_
   by_cases hk:k<vs.length
   ·rw[Vad,List.getElem?_range hk,zaj (d:=0) (show k<ks.length by omega)]
    rfl
   ·rw[Vaz (by simpa using hk),Vaz (by omega)]
  rw[e]
  exact nd
 obtain⟨s1,s2⟩:=zh3 unl (show 1≤vs.length by omega)
 have sz:(kev (klt λi=>ks.getD i 0) (kas_sort vs.length)).size=vs.length:=by rw[s1.size_eq]; simp
 refine kas_runs (G:=λp s'=>s'=s∧p=kev (klt λi=>ks.getD i 0) (kas_sort vs.length)) h2 h64 (λp' st' s' a1 a2 a3 a4=>?_) (zf4 (n:=vs.length) (lt:=klt λi=>ks.getD i 0) (λi j C hi hj ne hc=>?_) _ (zha (by omega)) ⟨rfl,rfl⟩)
 ·obtain⟨rfl,rfl⟩:=a4
  refine q (kev (klt λi=>ks.getD i 0) (kas_sort vs.length)).toList st' (by simpa using Array.perm_iff_toList_perm.mp s1) ?_ ?_ a3
  ·rw[VaP,List.pairwise_iff_getElem]
   intro i j hi hj hij
   have z:=s2 i j hij (by rw[Array.length_toList] at hj; omega)
   unfold kk at z
   rw[zer _ i hi,zer _ j hj] at z
   exact z
  ·rw[a2]
   apply Array.toList_inj.mp
   rw[Array.map_map,Array.toList_map]
   exact VaI λi _=>by show (kas_item (pairsOf vs) i).2=_; rw[kas_item_eq]
 ·have hv:=zaj (d:=Value.none) hi
  have hw:=zaj (d:=Value.none) hj
  have hx:=zaj (d:=(0:Int)) (show i<ks.length by omega)
  have hy:=zaj (d:=(0:Int)) (show j<ks.length by omega)
  obtain⟨a,o,its,n,t,ea,g1,c1,d1,k1⟩:=hK.2 i _ _ hv hx
  obtain⟨b,o',its',n',t',eb,g2,c2,d2,k2⟩:=hK.2 j _ _ hw hy
  show wpAny (model prog w) A (keyLt' oneType' (kas_item (pairsOf vs) i).1 (kas_item (pairsOf vs) j).1) C (λ_ _=>False) s
  rw[kas_item_eq,kas_item_eq,keyLt'_oneType]
  dsimp only
  rw[ea,eb]
  refine ziW hu g1 c1 d1 g2 c2 d2 k1 k2 ?_ hc
  exact λz=>ne (zhZ nd hx hy z)
open PySem.W in
theorem zlg {a:Addr}{vs:List Value}{ks:List Int}{n:Nat}{P:PySem.Fin→Shared→Prop}(ho:s.heap.get? a=some (seqObj "list" vs.toArray n))(hK:zcg s.heap vs ks)(own:Value.ref a ∉ vs)(nd:ks.Nodup)(h64:vs.length<64)(hu:A.units<cLine)
  (h:∀p:List Nat,p.Perm (List.range vs.length)→(p.map λi=>ks.getD i 0).Pairwise (·<·)→P (.done (.ret .none)) { s with heap:=sortedHeap s.heap a vs (p.map λi=>vs.getD i Value.none).toArray }):
  wpAny (model prog w) A (Builtin.«list.sort» ⟨[.ref a],[]⟩) P E s:=by
 obtain⟨e1,ho1,mine⟩:=zhv ho
 have K6:zcg (zbx s.heap a vs) vs ks:=hK.keep λb o hb e=>zhe (λz=>own (z ▸ hb)) e
 have hsz:vs.toArray.size=vs.length:=Vaf ..
 have lim:vs.toArray.size≤sizeLine:=by rw[hsz,sizeLine_eq]; omega
 rw[list_sort_plain]
 refine wpAny_bind (listItems_at ho rfl ?_)
 refine wpAny_bind (listUpdate_at ho rfl ?_ lim (Vaj _))
 refine wpAny_bind (seqEpoch_at ho1 rfl ?_)
 refine wpAny_bind (wpAny_newTuple ?_ (by show vs.length≤_; rw[sizeLine_eq]; omega))
 refine wpAny_bind (wpAny_newList ?_ (Vaj _))
 refine wpAny_holding ?_
 show wpAny (model prog w) A _ P E { s with heap:=zbx s.heap a vs }
 dsimp only
 by_cases h2:vs.toArray.size<2
 ·rw[if_pos h2,if_pos h2]
  refine wpAny_bind (wpAny_pure ?_)
  rw[StateT.run_pure]
  refine wpAny_bind (wpAny_pure ?_)
  dsimp only
  refine wpAny_bind (seqEpoch_at mine rfl ?_)
  have es:(arrOf (SortSt.mk' general' (vs.toArray.zip vs.toArray) #[] 7 none)).map (·.2)=((List.range vs.length).map λi=>vs.getD i Value.none).toArray:=by
   show (vs.toArray.zip vs.toArray).map (·.2)=_
   apply Array.toList_inj.mp
   rw[Array.toList_map,Array.toList_zip]
   show (List.zip vs vs).map (·.2)=_
   rw[List.map_snd_zip (Vaa _)]
   refine VaU λk=>?_
   by_cases hk:k<vs.length
   ·rw[Vad,List.getElem?_range hk,zaj (d:=Value.none) hk]
    rfl
   ·rw[Vaz (by omega),Vaz (by simpa using hk)]
  rw[es]
  refine wpAny_bind (listUpdate_at mine rfl ?_ (Vaj _) (by show ((List.range vs.length).map λi=>vs.getD i Value.none).toArray.size≤_; rw[Vaf,Vab,Vat,sizeLine_eq]; omega))
  simp only[bne_self_eq_false,Bool.false_eq_true,if_false]
  refine wpAny_pure (h (List.range vs.length) (List.Perm.refl _) ?_)
  rw[hsz] at h2
  obtain z | z:vs.length=0∨vs.length=1:=by omega
  ·rw[z]
   simp
  ·rw[z]
   simp[List.range_succ]
 ·rw[if_neg h2,if_neg h2]
  refine wpAny_bind (kas_kind (T:=.type "list") (by omega) (λv hv=>?_) rfl rfl ?_)
  ·obtain⟨i,hi⟩:=Va6.mp hv
   obtain⟨b,o,its,m,t,rfl,g1,c1,_,_⟩:=K6.2 i v _ hi (zaj (d:=(0:Int)) (show i<ks.length by have:=(Vac.mp hi).1; have:=hK.1; omega))
   rw[← c1]
   exact(Looks.ld g1).andThen .now
  have est:SortSt.mk' oneType' (vs.toArray.zip vs.toArray) #[] 7 none=kas_st oneType' (pairsOf vs) (List.toArray (List.range vs.length)):=by
   have e:=kas_range (pairsOf vs)
   rw[pairsOf_size] at e
   show SortSt.mk' oneType' (pairsOf vs) #[] 7 none=SortSt.mk' oneType' ((List.toArray (List.range vs.length)).map (kas_item (pairsOf vs))) #[] 7 none
   rw[e]
  rw[est]
  have run:=zkq (prog:=prog) (w:=w) (A:=A) (E:=E) (s:={ s with heap:=zbx s.heap a vs }) (Q:=λ_ st s'=>s'={ s with heap:=zbx s.heap a vs }∧∃p:List Nat,p.Perm (List.range vs.length)∧(p.map λi=>ks.getD i 0).Pairwise (·<·)∧(arrOf st).map (·.2)=(p.map λi=>vs.getD i Value.none).toArray∧failedOf st=none) K6 nd (by omega) h64 hu λp st pp sp e hf=>⟨rfl,p,pp,sp,e,hf⟩
  refine wpAny_bind (wpAny_mono run ?_ λ_ _ e=>e)
  rintro⟨⟨⟩,st⟩ s' ⟨rfl,p,pp,sp,e,hf⟩
  dsimp only
  refine wpAny_bind (seqEpoch_at mine rfl ?_)
  rw[e]
  refine wpAny_bind (listUpdate_at mine rfl ?_ (Vaj _) (by show (p.map λi=>vs.getD i Value.none).toArray.size≤_; rw[Vaf,Vab,pp.length_eq,Vat,sizeLine_eq]; omega))
  rw[hf]
  simp only[bne_self_eq_false,Bool.false_eq_true,if_false]
  exact wpAny_pure (h p pp sp)
end
section
variable {prog:Program}{w:World}{A:Around}{E:Value→Shared→Prop}{s:Shared}
theorem zlV {l:Addr}{vs:List Value}{ks:List Int}{Q:Value→Shared→Prop}(hl:s.heap.IsList l vs.toArray)(hK:zcg s.heap vs ks)(nd:ks.Nodup)(h64:vs.length<64)(hu:A.units+2<cLine)
  (h:∀p:List Nat,p.Perm (List.range vs.length)→(p.map λi=>ks.getD i 0).Pairwise (·<·)→Q (.ref (s.heap.objs.size+1)) { s with heap:=sortedAll s.heap vs (p.map λi=>vs.getD i Value.none).toArray }):
  wpAny (model prog w) A (call (.builtin "sorted") [.ref l]) Q E s:=by
 refine Calls.call_function_entry kind_sorted plain_sorted entry_sorted (args_sorted1 _) ?_
 unfold Builtin.«sorted»
 refine wpAny_bind (m:=checkCount "sorted" 1 1 _) (wpAny_pure ?_)
 refine wpAny_bind (collect_list hl ?_ (by rw[sizeLine_eq]; omega))
 refine wpAny_bind (wpAny_newList ?_ (by rw[sizeLine_eq]; omega))
 have hsz:((s.heap.push (seqObj "list" #[] 0)).update s.heap.objs.size (Obj.mapSeq (·++vs.toArray))).objs.size=s.heap.objs.size+1:=by rw[Heap.size_update,size_push']
 have hoL:(((s.heap.push (seqObj "list" #[] 0)).update s.heap.objs.size (Obj.mapSeq (·++vs.toArray))).push (seqObj "list" vs.toArray 0)).get? (s.heap.objs.size+1)=some (seqObj "list" vs.toArray 0):=by
  rw[← hsz]
  exact Heap.get?_push_size _ rfl
 have keep:∀b o,s.heap.get? b=some o→(((s.heap.push (seqObj "list" #[] 0)).update s.heap.objs.size (Obj.mapSeq (·++vs.toArray))).push (seqObj "list" vs.toArray 0)).get? b=some o:=λb o q=>by
  have lb:=Heap.lt_size q
  rw[Heap.get?_push_ne _ _ _ (by rw[hsz]; exact Vai (Nat.lt_succ_of_lt lb)),Heap.get?_update_ne _ _ _ _ (Vai lb),Heap.get?_push_ne _ _ _ (Vai lb)]
  exact q
 have own:Value.ref (s.heap.objs.size+1) ∉ vs:=λz=>by
  obtain⟨i,hi⟩:=Va6.mp z
  obtain⟨a,o,_,_,_,ea,g1,_⟩:=hK.2 i _ _ hi (zaj (d:=(0:Int)) (show i<ks.length by have:=(Vac.mp hi).1; have:=hK.1; omega))
  have la:=Heap.lt_size g1
  have e:s.heap.objs.size+1=a:=Value.ref.inj ea
  rw[← e] at la
  exact absurd la (Nat.not_lt_of_lt (Nat.lt_succ_self _))
 show wpAny _ _ _ _ _ { s with heap:=((s.heap.push (seqObj "list" #[] 0)).update s.heap.objs.size (Obj.mapSeq (·++vs.toArray))).push (seqObj "list" vs.toArray 0) }
 rw[hsz]
 refine wpAny_bind (wpAny_holding (wpAny_call_entry slot_list_sort ⟨_,hoL,rfl⟩ entry_list_sort (zlg hoL (hK.keep λb o _ e=>keep b o e) own nd h64 (by show A.units+1+1<cLine; omega) λp pp sp=>⟨_,rfl,?_⟩) (args_list_sort _)))
 exact wpAny_pure ⟨_,rfl,h p pp sp⟩
end
section
variable {X:Cx}{Z:Zx}{pos:Pos}
def zgi:WC:=λds S Q=>match ds with
 | [.ref n]=>∃(es:List D) (zs:List Int),S[n]?=some (.lst es)∧es.length=zs.length∧(∀(i:Nat) (e:D) (z:Int),es[i]?=some e→zs[i]?=some z→∃a xs,e=.ref a∧S[a]?=some (.lst (.int z::xs)))∧zs.Nodup∧es.length<64∧∀p:List Nat,p.Perm (List.range es.length)→(p.map λi=>zs.getD i 0).Pairwise (·<·)→Q (.ref S.length) (S++[.lst (p.map λi=>es.getD i .non)])
 | _=>False
theorem zhn {r:List Addr}{H:Hp}{ds:List D}{vs:List V}(h:Rps r H ds vs)(p:List Nat)(hp:∀i∈p,i<ds.length):Rps r H (p.map λi=>ds.getD i .non) (p.map λi=>vs.getD i .non):=⟨by simp,λk d v hd hv=>by
 rw[Vad] at hd hv
 obtain⟨i,hi,rfl⟩:=Vax.mp hd
 rw[hi] at hv
 cases hv
 have hl:=hp i (Vag hi)
 exact h.2 i _ _ (zaj hl) (zaj (by rw[← h.1]; exact hl))⟩
theorem zgT {xs:List V}{us:List Value}(h:zad xs us):∀p:List Nat,(∀i∈p,i<xs.length)→zad (p.map λi=>xs.getD i .non) (p.map λi=>us.getD i Value.none)
 | [],_=>.nil
 | i::p,hp=>by
  obtain⟨u,hu,ru⟩:=h.get (zaj (d:=V.non) (hp i (by simp)))
  refine .cons ?_ (zgT h p λj hj=>hp j (by simp[hj]))
  have e:us.getD i Value.none=u:=by
   rw[Vak,hu]
   rfl
  show L2.zag (xs.getD i V.non) (us.getD i Value.none)
  rw[e]
  exact ru
theorem zms {j:Nat}(hr:zat j X.A):zay X (.builtin "sorted") (upC X.K Z zgi):=by
 have hun:=hr.un
 intro pins s σ H xs us Qv I rv h
 obtain⟨r,S,ds,Q,rel,ps,q,ret⟩:=h
 unfold zgi at q
 split at q
 ·rename_i n
  obtain⟨v,vs,rfl,p1,p2⟩:=ps.uncons
  have z:=p2.unnil
  subst z
  obtain⟨es,zs,hn,ll,hk,nd,h64,q⟩:=q
  cases p1 with
  | ref h1=>
   obtain⟨a,ha,ob⟩:=rel.at hn
   rw[h1] at ha; cases ha
   obtain⟨ys,sq,pr⟩:=ob.list rfl
   obtain⟨u,rfl,ru⟩:=zbl rv
   cases ru
   obtain⟨its,ri,pl,hz⟩:=I.list sq
   have li:its.length=es.length:=by rw[← ri.length,← pr.1]; rfl
   have K0:zcg s.heap its zs:=⟨by omega,λi v k hv hx=>by
    have hi:i<es.length:=by have:=(Vac.mp hv).1; omega
    obtain⟨b,xs,eb,hb⟩:=hk i _ k (zaj (d:=.non) hi) hx
    obtain⟨y,hy,py⟩:=pr.get (show es[i]?=some (es.getD i .non) from zaj hi)
    obtain⟨u,hu,ru⟩:=ri.get hy
    rw[hv] at hu
    cases hu
    rw[eb] at py
    cases py with
    | @ref _ p hp=>
     cases ru
     obtain⟨p',hp',ob'⟩:=rel.at hb
     rw[hp] at hp'; cases hp'
     obtain⟨ys',sq',pr'⟩:=ob'.list rfl
     obtain⟨its',ri',pl',_⟩:=I.list sq'
     obtain⟨y0,hy0,py0⟩:=pr'.get (show (zac (.lst (.int k::xs)))[0]?=some (.int k) from rfl)
     cases py0
     obtain⟨u0,hu0,t,et⟩:=ri'.get hy0
     obtain⟨o,ho,hc,m,hd⟩:=pl'.isList
     exact⟨p,o,its'.toArray,m,t,rfl,ho,hc,hd,by rw[← et]; simpa using hu0⟩⟩
   refine zlV pl.isList K0 nd (by omega) (by omega) λp pp sp=>?_
   have hp:∀i∈p,i<es.length:=λi hi=>by
    have:=Vaq.mp (pp.mem_iff.mp hi)
    omega
   obtain⟨e,he⟩:=sortedAll_at s.heap its (p.map λi=>its.getD i Value.none).toArray
   have hf:H (s.heap.objs.size+1)=none:=I.hok.fresh (VaN _)
   obtain⟨rel2,x⟩:=rel.push (ds:=p.map λi=>es.getD i .non) (xs:=p.map λi=>ys.getD i .non) hf (zhn pr p hp)
   refine⟨.ref (s.heap.objs.size+1),_,I.laid (t':=s.toks) (λb o e=>sortedAll_old e) (VaN _) (show za3 X.prog X.w _ _ _ (.lst (p.map λi=>ys.getD i .non)) from ⟨?_,p.map (λi=>its.getD i Value.none),e,zgT ri p (λi hi=>by rw[← pr.1]; exact hp i hi),he⟩),rfl,ret _ _ _ (.ref S.length) _ x rel2 (zbV rel.len) (q p (by rw[← li]; exact pp) sp)⟩
   rw[Vab,pp.length_eq,Vat]
   exact zbr (by omega)
  | _=>exact(show False from q).elim
 ·exact q.elim
theorem zjU {n:Nat}{S:Sto}{Q:DK}{es:List D}{zs:List Int}(hn:S[n]?=some (.lst es))(ll:es.length=zs.length)(hk:∀(i:Nat) (e:D) (z:Int),es[i]?=some e→zs[i]?=some z→∃a xs,e=.ref a∧S[a]?=some (.lst (.int z::xs)))(nd:zs.Nodup)(h64:es.length<64)(q:∀p:List Nat,p.Perm (List.range es.length)→(p.map λi=>zs.getD i 0).Pairwise (·<·)→Q (.ref S.length) (S++[.lst (p.map λi=>es.getD i .non)])):irr zgi [.ref n] S Q:=by
 rw[zcB]
 exact⟨es,zs,hn,ll,hk,nd,h64,q⟩
theorem ziz:MtM X "list.extend" (λx vs H Q=>∃l b xs ys,x=.ref l∧vs=[.ref b]∧H l=some (.lst xs)∧H b=some (.lst ys)∧l≠b∧xs.length+ys.length≤1000∧Q .non (upd H l (.lst (xs++ys)))):=by
 intro pins s σ H x vs v us Q I rx rv h
 obtain⟨l,b,xs,ys,rfl,rfl,hH,hB,ne,h1,q⟩:=h
 cases rx
 obtain⟨u,rfl,ru⟩:=zbl rv
 cases ru
 obtain⟨z,its,n,r,hl,e⟩:=I.lstM hH
 obtain⟨z',its',n',r',hl',e'⟩:=I.lstM hB
 have d:¬(!its.toArray.isEmpty&&Builtin.List.listTooLong (its.toArray.size+its'.toArray.size))=true:=extend_door (by rw[Vaf,Vaf,← hl,← hl']; exact zbr h1)
 refine call_meets PySem.F.slot_list_extend ⟨_,e,rfl⟩ PySem.F.entry_list_extend (PySem.F.args_list_extend_2 _ _) (PySem.AutoSeq1.list_extend_list_list_0 l its.toArray n b its'.toArray n' d (by rw[Vaf,← hl]; exact z) (by rw[Vaf,Vaf,← hl,← hl']; exact Nat.le_succ_of_le (zbr h1))) ⟨e,e',?_⟩
 refine⟨.non,_,I.lset (t':=s.toks) (ys:=xs++ys) (its':=its++its') hH e ?_ (r.append r') ?_,rfl,q⟩
 ·apply Array.toList_inj.mp
  simp
 ·rw[Vao]
  exact zbr h1
@[irreducible] def zfe (to:TDE)(t:TDA):TDE:=λdl S Q=>to dl S λd S1=>match d with
 | .ref n=>(lAt S1 n).isSome=true∧t dl S1 λds S2=>match ds with
  | [.ref m]=>∃xs ys,S2[n]?=some (.lst xs)∧S2[m]?=some (.lst ys)∧n≠m∧xs.length+ys.length≤1000∧Q .non (S2.set n (.lst (xs++ys)))
  | _=>False
 | _=>False
theorem zjz {to:TDE}{t:TDA}{dl:Ev}{S S1 S2:Sto}{Q:DK}{n m:Nat}{xs ys zs:List D}(hto:∀K:DK,K (.ref n) S1→to dl S K)(h:S1[n]?=some (.lst zs))(ht:∀K:List D→Sto→Prop,K [.ref m] S2→t dl S1 K)(h2:S2[n]?=some (.lst xs))(h3:S2[m]?=some (.lst ys))(ne:n≠m)(hl:xs.length+ys.length≤1000)(hq:Q .non (S2.set n (.lst (xs++ys)))):zfe to t dl S Q:=by
 unfold zfe
 exact hto _ ⟨by rw[zaq h rfl]; rfl,ht _ ⟨xs,ys,h2,h3,ne,hl,hq⟩⟩
theorem zjV {o e:Expr}{to:TDE}{t:TDA}{apos cpos:Pos}(ho:PD X Z o to)(ha:PDA X Z [e] t)(hbase:attributeBase o "extend" X.env (eval o X.env)=eval o X.env:=by rfl)
  (hfew:((backTo cpos (starEach [e] X.env)).all (λx=>!x.1)&&(backToKw cpos (keywordEach [] X.env)).all (λx=>x.1.isSome)
  &&decide ([e].length+([]:List Keyword).length+(if ([]:List Keyword).isEmpty then 0 else 1)<30))=true:=by rfl)
  (hline:(apos.endLine==cpos.line)=true:=by rfl)(hs:starEach [e] X.env=(false,eval e X.env)::starEach [] X.env:=by rfl)(hplain:(backTo cpos (starEach [] X.env)).any (·.1)=false:=by rfl):
  PD X Z (.Call (.Attribute o "extend" apos) [e] [] cpos) (zfe to t):=
 zaW (zhm (T:="list") PySem.F.plainAttrs_list PySem.F.slot_list_extend PySem.F.type_list_extend ziz ho ha hbase hfew hline hs hplain) λσ H Qv ⟨r,dl,S,Q,rs,rel,h,ret⟩=>by
  unfold zfe at h
  refine⟨r,dl,S,_,rs,rel,h,λv H1 r1 d S1 e1 rel1 p1 q1=>?_⟩
  cases p1 with
  | @ref n a hn=>
   obtain⟨hsome,q1⟩:=q1
   obtain⟨o1,eo⟩:=VaF.mp hsome
   obtain⟨eo,eL⟩:=za4 eo
   obtain⟨a',ha',ob⟩:=rel1.at eo
   rw[hn] at ha'; cases ha'
   obtain⟨xs,sq,_⟩:=ob.list eL
   refine⟨.inl ⟨rfl,xs,sq⟩,r1,dl,S1,_,rs.ext e1,rel1,q1,λvs H2 r2 ds S2 e2 rel2 p2 q2=>?_⟩
   split at q2
   ·rename_i m
    obtain⟨v2,vs',rfl,p3,p4⟩:=p2.uncons
    have z:=p4.unnil
    subst z
    obtain⟨zs,ws,ez,ew,ne,hl,q⟩:=q2
    cases p3 with
    | @ref _ b hm=>
     have hn2:=e2.adr _ _ hn
     obtain⟨ys,hH,pr⟩:=rel2.b.ob n a _ hn2 ez
     obtain⟨us,hU,pu⟩:=rel2.b.ob m b _ hm ew
     obtain⟨rel3,x3⟩:=rel2.set hn2 ez (Rps.app pr pu)
     exact⟨a,b,ys,us,rfl,rfl,hH,hU,λe=>ne (rel2.b.nd n m a _ _ hn2 (by rw[e]; exact hm) ez ew rfl rfl),by rw[← pr.1,← pu.1]; exact hl,ret .non _ r2 .non _ (e1.trans (e2.trans x3)) rel3 .non q⟩
   ·exact q2.elim
  | _=>exact(show False from q1).elim
end
def cls (M:List Nat)(v:Nat):List Nat:=(List.range M.length).filter λk=>M.getD k 0==v
def zaf (M:List Nat):List Nat:=(List.range M.length).filter λv=>M.getD v 0==v
def zah (T:Nat→Nat→Bool)(M:List Nat):List Nat:=((List.range M.length).filter λk=>T k M.length).map (λk=>M.getD k 0)++[M.length]
def mkS (l:Nat)(mine M:List Nat):List Nat:=M.map (λm=>if m∈mine then l else m)++[l]
structure MOk (M:List Nat):Prop where
 le:∀k,k<M.length→M.getD k 0≤k
 id:∀k,k<M.length→M.getD (M.getD k 0) 0=M.getD k 0
theorem zao {M:List Nat}{v k:Nat}:k∈cls M v↔k<M.length∧M.getD k 0=v:=by simp[cls]
theorem zaZ {M:List Nat}{v:Nat}:v∈zaf M↔v<M.length∧M.getD v 0=v:=by simp[zaf]
theorem zdz {T:Nat→Nat→Bool}{M:List Nat}{v:Nat}:v∈zah T M↔(∃k,k<M.length∧T k M.length=true∧M.getD k 0=v)∨v=M.length:=by
 simp only[zah,VaW,Vah,VaK,Vaq,VaD]
 constructor
 ·rintro(⟨k,⟨a,b⟩,c⟩ | h)
  ·exact .inl ⟨k,a,b,c⟩
  ·exact .inr h
 ·rintro(⟨k,a,b,c⟩ | h)
  ·exact .inl ⟨k,⟨a,b⟩,c⟩
  ·exact .inr h
theorem zcM {l:Nat}{mine M:List Nat}:(mkS l mine M).length=M.length+1:=by simp[mkS]
theorem zbR {l:Nat}{mine M:List Nat}{k:Nat}(hk:k<M.length):(mkS l mine M).getD k 0=if M.getD k 0∈mine then l else M.getD k 0:=by
 unfold mkS
 rw[Vak,Vap (by simpa using hk),Vad,Vae hk,Vak,Vae hk]
 rfl
theorem zcz {l:Nat}{mine M:List Nat}:(mkS l mine M).getD M.length 0=l:=by
 unfold mkS
 rw[Vak,Vay (by simp)]
 simp
theorem zgB {T:Nat→Nat→Bool}{M:List Nat}{l:Nat}(h:MOk M)(lm:l∈zah T M)(ll:∀x∈zah T M,l≤x):MOk (mkS l (zah T M) M)∧(∀v,v∈zaf (mkS l (zah T M) M)↔v=l∨(v∈zaf M∧v ∉ zah T M))∧(∀k,k∈cls (mkS l (zah T M) M) l↔k=M.length∨(k<M.length∧M.getD k 0∈zah T M))∧∀v,v∈zaf M→v ∉ zah T M→cls (mkS l (zah T M) M) v=cls M v:=by
 have l1:l≤M.length:=ll _ (zdz.mpr (.inr rfl))
 have idl:l<M.length→M.getD l 0=l:=λhl=>by
  rcases zdz.mp lm with ⟨k,a,_,c⟩ | e
  ·rw[← c]
   exact h.id k a
  ·omega
 have gl:(mkS l (zah T M) M).getD l 0=l:=by
  by_cases c:l<M.length
  ·rw[zbR c,idl c,if_pos lm]
  ·rw[show l=M.length by omega]
   have z:=zcz (l:=l) (mine:=zah T M) (M:=M)
   rw[show l=M.length by omega] at z
   exact z
 refine⟨⟨λk hk=>?_,λk hk=>?_⟩,λv=>?_,λk=>?_,λv hv hn=>?_⟩
 ·rw[zcM] at hk
  by_cases c:k<M.length
  ·rw[zbR c]
   have:=h.le k c
   split
   ·rename_i hm
    have:=ll _ hm
    omega
   ·exact this
  ·rw[show k=M.length by omega,zcz]
   exact l1
 ·rw[zcM] at hk
  by_cases c:k<M.length
  ·rw[zbR c]
   split
   ·exact gl
   ·rename_i hm
    have hx:M.getD k 0<M.length:=by have:=h.le k c; omega
    rw[zbR hx,h.id k c,if_neg hm]
  ·rw[show k=M.length by omega,zcz]
   exact gl
 ·rw[zaZ,zcM]
  constructor
  ·rintro⟨a,b⟩
   by_cases c:v<M.length
   ·rw[zbR c] at b
    by_cases d:M.getD v 0∈zah T M
    ·rw[if_pos d] at b
     exact .inl b.symm
    ·rw[if_neg d] at b
     rw[b] at d
     exact .inr ⟨zaZ.mpr ⟨c,b⟩,d⟩
   ·rw[show v=M.length by omega,zcz] at b
    exact .inl (by omega)
  ·rintro(rfl | ⟨a,b⟩)
   ·exact⟨by omega,gl⟩
   ·obtain⟨c,d⟩:=zaZ.mp a
    exact⟨by omega,by rw[zbR c,d,if_neg b]⟩
 ·rw[zao,zcM]
  constructor
  ·rintro⟨a,b⟩
   by_cases c:k<M.length
   ·rw[zbR c] at b
    by_cases d:M.getD k 0∈zah T M
    ·exact .inr ⟨c,d⟩
    ·rw[if_neg d] at b
     rw[b] at d
     exact absurd lm d
   ·exact .inl (by omega)
  ·rintro(rfl | ⟨a,b⟩)
   ·exact⟨by omega,zcz⟩
   ·exact⟨by omega,by rw[zbR a,if_pos b]⟩
 ·obtain⟨c,d⟩:=zaZ.mp hv
  unfold cls
  rw[zcM,List.range_succ,VaV]
  have e1:(List.range M.length).filter (λk=>(mkS l (zah T M) M).getD k 0==v)=(List.range M.length).filter (λk=>M.getD k 0==v):=List.filter_congr λk hk=>by
   rw[zbR (Vaq.mp hk)]
   split
   ·rename_i hm
    have n1:l≠v:=λe=>hn (e ▸ lm)
    have n2:M.getD k 0≠v:=λe=>hn (e ▸ hm)
    rw[beq_eq_false_iff_ne.mpr n1,beq_eq_false_iff_ne.mpr n2]
   ·rfl
  have e2:[M.length].filter (λk=>(mkS l (zah T M) M).getD k 0==v)=[]:=by
   rw[VaL,zcz,if_neg (by simpa using λ(e:l=v)=>hn (e ▸ lm))]
   rfl
  rw[e1,e2,VaZ]
theorem zdf (M:List Nat)(v:Nat):(cls M v).Nodup:=List.nodup_range.filter _
theorem zca (M:List Nat):(zaf M).Nodup:=List.nodup_range.filter _
abbrev tch (T:Nat→Nat→Bool)(at':Nat)(g:List Nat):Bool:=g.any λk=>T k at'
theorem ziy {T:Nat→Nat→Bool}{M:List Nat}{v:Nat}(hv:v∈zaf M):tch T M.length (cls M v)=true↔v∈zah T M:=by
 rw[Va2,zdz]
 have hlt:=(zaZ.mp hv).1
 constructor
 ·rintro⟨k,a,b⟩
  obtain⟨c,d⟩:=zao.mp a
  exact .inl ⟨k,c,b,d⟩
 ·rintro(⟨k,a,b,c⟩ | e)
  ·exact⟨k,zao.mpr ⟨a,c⟩,b⟩
  ·omega
theorem zde {xs ys:List Nat}(h1:xs.Nodup)(h2:ys.Nodup)(h:∀x,x∈xs↔x∈ys):xs.Perm ys:=(List.perm_ext_iff_of_nodup h1 h2).mpr h
theorem zh6 {T:Nat→Nat→Bool}{M:List Nat}{l:Nat}{G:List (List Nat)}(h:MOk M)(lm:l∈zah T M)(ll:∀x∈zah T M,l≤x)(hG:G.Perm ((zaf M).map (cls M))):(M.length::(G.filter (tch T M.length)).flatten).Perm (cls (mkS l (zah T M) M) l):=by
 obtain⟨_,r1,r2,r3⟩:=zgB h lm ll
 have f1:((zaf M).map (cls M)).filter (tch T M.length)=((zaf M).filter (λv=>decide (v∈zah T M))).map (cls M):=by
  rw[List.filter_map]
  congr 1
  refine List.filter_congr λv hv=>?_
  show tch T M.length (cls M v)=_
  have z:=ziy (T:=T) hv
  cases e:tch T M.length (cls M v)
  ·exact(decide_eq_false λw=>by rw[e] at z; exact absurd (z.mpr w) (by decide)).symm
  ·exact(decide_eq_true (z.mp e)).symm
 have nd1:((((zaf M).filter (λv=>decide (v∈zah T M))).map (cls M)).flatten).Nodup:=by
  rw[List.Nodup,List.pairwise_flatten]
  refine⟨λg hg=>?_,?_⟩
  ·obtain⟨v,_,rfl⟩:=Vah.mp hg
   exact zdf M v
  ·rw[VaP]
   refine((zca M).filter _).imp λ{a b} ne x hx y hy e=>ne ?_
   subst e
   exact(zao.mp hx).2.symm.trans (zao.mp hy).2
 have p1:(M.length::(G.filter (tch T M.length)).flatten).Perm (M.length::(((zaf M).filter (λv=>decide (v∈zah T M))).map (cls M)).flatten):=List.Perm.cons _ (f1 ▸ (hG.filter _).flatten)
 have p2:(M.length::(((zaf M).filter (λv=>decide (v∈zah T M))).map (cls M)).flatten).Perm (cls (mkS l (zah T M) M) l):=zde (Va5.mpr ⟨λhm=>by
   obtain⟨g,hg,hx⟩:=List.mem_flatten.mp hm
   obtain⟨v,_,rfl⟩:=Vah.mp hg
   have:=(zao.mp hx).1
   omega,nd1⟩) (zdf _ _) λx=>by
  rw[r2,Vam,List.mem_flatten]
  constructor
  ·rintro(e | ⟨g,hg,hx⟩)
   ·exact .inl e
   ·obtain⟨v,hv,rfl⟩:=Vah.mp hg
    obtain⟨v1,v2⟩:=VaK.mp hv
    obtain⟨x1,x2⟩:=zao.mp hx
    exact .inr ⟨x1,by rw[x2]; exact of_decide_eq_true v2⟩
  ·rintro(e | ⟨a,b⟩)
   ·exact .inl e
   ·refine .inr ⟨cls M (M.getD x 0),Vah.mpr ⟨_,VaK.mpr ⟨zaZ.mpr ⟨by have:=h.le x a; omega,h.id x a⟩,decide_eq_true b⟩,rfl⟩,zao.mpr ⟨a,rfl⟩⟩
 exact p1.trans p2
theorem zjm {T:Nat→Nat→Bool}{M:List Nat}{l:Nat}{G:List (List Nat)}{s:List Nat}(h:MOk M)(lm:l∈zah T M)(ll:∀x∈zah T M,l≤x)(hG:G.Perm ((zaf M).map (cls M)))(hs:s.Perm (M.length::(G.filter (tch T M.length)).flatten))(srt:s.Pairwise (·≤·)):(G.filter (λg=>!tch T M.length g)++[s]).Perm ((zaf (mkS l (zah T M) M)).map (cls (mkS l (zah T M) M))):=by
 obtain⟨_,r1,r2,r3⟩:=zgB h lm ll
 have f2:((zaf M).map (cls M)).filter (λg=>!tch T M.length g)=((zaf M).filter (λv=>!decide (v∈zah T M))).map (cls M):=by
  rw[List.filter_map]
  congr 1
  refine List.filter_congr λv hv=>?_
  show (!tch T M.length (cls M v))=_
  have z:=ziy (T:=T) hv
  cases e:tch T M.length (cls M v)
  ·rw[decide_eq_false λw=>by rw[e] at z; exact absurd (z.mpr w) (by decide)]
  ·rw[decide_eq_true (z.mp e)]
 have es:s=cls (mkS l (zah T M) M) l:=List.Perm.eq_of_pairwise (le:=λa b=>a≤b) (λa b _ _ h1 h2=>Nat.le_antisymm h1 h2) srt (((Va4).filter _).imp VaG) (hs.trans (zh6 h lm ll hG))
 rw[es]
 have p3:(zaf (mkS l (zah T M) M)).Perm ((zaf M).filter (λv=>!decide (v∈zah T M))++[l]):=zde (zca _) (by
  rw[List.nodup_append]
  refine⟨(zca M).filter _,by simp,λa ha b hb e=>?_⟩
  rw[VaD.mp hb] at e
  subst e
  have:=(VaK.mp ha).2
  rw[decide_eq_true lm] at this
  cases this) λv=>by
  rw[r1,VaW,VaD,VaK]
  constructor
  ·rintro(e | ⟨a,b⟩)
   ·exact .inr e
   ·exact .inl ⟨a,by rw[decide_eq_false b]; rfl⟩
  ·rintro(⟨a,b⟩ | e)
   ·refine .inr ⟨a,λw=>?_⟩
    rw[decide_eq_true w] at b
    cases b
   ·exact .inl e
 have p4:(G.filter (λg=>!tch T M.length g)).Perm (((zaf M).filter (λv=>!decide (v∈zah T M))).map (cls M)):=f2 ▸ hG.filter _
 have e5:((zaf M).filter (λv=>!decide (v∈zah T M))).map (cls M)=((zaf M).filter (λv=>!decide (v∈zah T M))).map (cls (mkS l (zah T M) M)):=VaI λv hv=>by
  obtain⟨a,b⟩:=VaK.mp hv
  exact(r3 v a λw=>by rw[decide_eq_true w] at b; cases b).symm
 refine List.Perm.trans (List.Perm.append_right _ p4) ?_
 rw[e5]
 have p6:=p3.map (cls (mkS l (zah T M) M))
 rw[VaM] at p6
 exact p6.symm
theorem zk7 {M:List Nat}{G:List (List Nat)}(h:MOk M)(hG:G.Perm ((zaf M).map (cls M)))(srt:(G.map λg=>g.getD 0 0).Pairwise (·<·)):G=(zaf M).map (cls M):=by
 have hd:∀v∈zaf M,(cls M v).getD 0 0=v:=λv hv=>by
  obtain⟨a,b⟩:=zaZ.mp hv
  have hm:v∈cls M v:=zao.mpr ⟨a,b⟩
  have pw:(cls M v).Pairwise (·<·):=(Va4).filter _
  cases e:cls M v with
  | nil=>rw[e] at hm; exact absurd hm (by simp)
  | cons x xs=>
   rw[e] at hm pw
   have hx:x∈cls M v:=by rw[e]; simp
   obtain⟨x1,x2⟩:=zao.mp hx
   have xv:M.getD x 0≤x:=h.le x x1
   show x=v
   rcases Vam.mp hm with w | w
   ·exact w.symm
   ·have:=(List.pairwise_cons.mp pw).1 v w
    omega
 have e1:(G.map λg=>g.getD 0 0)=zaf M:=by
  have p:(G.map λg=>g.getD 0 0).Perm (zaf M):=by
   have z:=hG.map λg=>g.getD 0 0
   rw[VaA] at z
   have e:(zaf M).map ((λg:List Nat=>g.getD 0 0) ∘ cls M)=zaf M:=by
    conv=>rhs; rw[← List.map_id (zaf M)]
    exact VaI λv hv=>hd v hv
   rw[e] at z
   exact z
  exact List.Perm.eq_of_pairwise (le:=λa b=>a<b) (λa b _ _ h1 h2=>by omega) srt ((Va4).filter _) p
 have e2:G=(G.map λg=>g.getD 0 0).map (cls M):=by
  rw[VaA]
  conv=>lhs; rw[← List.map_id G]
  refine VaI λg hg=>?_
  obtain⟨v,hv,rfl⟩:=Vah.mp (hG.mem_iff.mp hg)
  show cls M v=cls M ((cls M v).getD 0 0)
  rw[hd v hv]
 rw[e2,e1]
theorem zcb {M:List Nat}(h:MOk M){v:Nat}(hv:v∈zaf M):∃xs,cls M v=v::xs:=by
 obtain⟨a,b⟩:=zaZ.mp hv
 have hm:v∈cls M v:=zao.mpr ⟨a,b⟩
 have pw:(cls M v).Pairwise (·<·):=(Va4).filter _
 cases e:cls M v with
 | nil=>rw[e] at hm; exact absurd hm (by simp)
 | cons x xs=>
  rw[e] at hm pw
  have hx:x∈cls M v:=by rw[e]; simp
  obtain⟨x1,x2⟩:=zao.mp hx
  have xv:M.getD x 0≤x:=h.le x x1
  rcases Vam.mp hm with w | w
  ·exact⟨xs,by rw[w]⟩
  ·have:=(List.pairwise_cons.mp pw).1 v w
   omega
def za8:List Nat→Nat
 | []=>0
 | [x]=>x
 | x::y::r=>min x (za8 (y::r))
theorem zey:∀xs:List Nat,xs≠[]→za8 xs∈xs∧∀x∈xs,za8 xs≤x
 | [],h=>absurd rfl h
 | [x],_=>⟨by simp[za8],λy hy=>by rw[VaD.mp hy]; exact Vaa _⟩
 | x::y::r,_=>by
  obtain⟨a,b⟩:=zey (y::r) (by simp)
  have e:za8 (x::y::r)=min x (za8 (y::r)):=rfl
  rw[e]
  refine⟨?_,λz hz=>?_⟩
  ·by_cases c:x≤za8 (y::r)
   ·rw[Nat.min_eq_left c]; simp
   ·rw[Nat.min_eq_right (by omega)]; exact VaE _ a
  ·rcases Vam.mp hz with w | w
   ·omega
   ·have:=b z w
    omega
def zaa (T:Nat→Nat→Bool):Nat→List Nat
 | 0=>[]
 | n+1=>mkS (za8 (zah T (zaa T n))) (zah T (zaa T n)) (zaa T n)
theorem zaD (T:Nat→Nat→Bool):∀n,(zaa T n).length=n
 | 0=>rfl
 | n+1=>by
  show (mkS _ _ _).length=_
  rw[zcM,zaD T n]
theorem zgw (T:Nat→Nat→Bool)(M:List Nat):zah T M≠[]:=by simp[zah]
theorem zbc (T:Nat→Nat→Bool):∀n,MOk (zaa T n)
 | 0=>⟨λk hk=>absurd hk (by simp[zaa]),λk hk=>absurd hk (by simp[zaa])⟩
 | n+1=>by
  obtain⟨a,b⟩:=zey _ (zgw T (zaa T n))
  exact(zgB (zbc T n) a b).1
theorem zml {M:List Nat}{G:List (List Nat)}(h:MOk M)(hG:G.Perm ((zaf M).map (cls M))):(G.map λg=>g.getD 0 0).Nodup∧∀g∈G,g≠[]:=by
 refine⟨?_,λg hg=>?_⟩
 ·have z:=hG.map λg=>g.getD 0 0
  rw[VaA] at z
  have e:(zaf M).map ((λg:List Nat=>g.getD 0 0) ∘ cls M)=zaf M:=by
   conv=>rhs; rw[← List.map_id (zaf M)]
   refine VaI λv hv=>?_
   obtain⟨xs,e⟩:=zcb h hv
   show (cls M v).getD 0 0=v
   rw[e]
   rfl
  rw[e] at z
  exact z.nodup_iff.mpr (zca M)
 ·obtain⟨v,hv,rfl⟩:=Vah.mp (hG.mem_iff.mp hg)
  obtain⟨xs,e⟩:=zcb h hv
  rw[e]
  simp
theorem zfd {ms:List Int}{xs:List Nat}(h:ms.Perm (xs.map λ(x:Nat)=>(x:Int)))(srt:ms.Pairwise (·≤·)):∃s:List Nat,ms=s.map (λ(x:Nat)=>(x:Int))∧s.Perm xs∧s.Pairwise (·≤·):=by
 have e:ms=(ms.map Int.toNat).map λ(x:Nat)=>(x:Int):=by
  rw[VaA]
  conv=>lhs; rw[← List.map_id ms]
  refine VaI λm hm=>?_
  obtain⟨x,_,rfl⟩:=Vah.mp (h.mem_iff.mp hm)
  simp
 refine⟨ms.map Int.toNat,e,?_,?_⟩
 ·have z:=h.map Int.toNat
  rw[VaA] at z
  have e2:xs.map (Int.toNat ∘ λ(x:Nat)=>(x:Int))=xs:=by
   conv=>rhs; rw[← List.map_id xs]
   exact VaI λx _=>by simp
  rw[e2] at z
  exact z
 ·rw[e,VaP] at srt
  exact srt.imp λ{a b} h=>by omega
theorem zh9 {α:Type}{G:List α}{d:α}{p:List Nat}(hp:p.Perm (List.range G.length)):(p.map λi=>G.getD i d).Perm G:=by
 have z:=hp.map λi=>G.getD i d
 have e:(List.range G.length).map (λi=>G.getD i d)=G:=by
  refine VaU λk=>?_
  by_cases hk:k<G.length
  ·rw[Vad,List.getElem?_range hk,Vae hk]
   show some (G.getD k d)=_
   rw[Vak,Vae hk]
   rfl
  ·rw[Vaz (by simpa using hk),Vaz (by omega)]
 rw[e] at z
 exact z
def zaS (S:Sto)(ds:List D)(G:List (List Nat)):Prop:=ds.length=G.length∧∀(k:Nat) (d:D) (g:List Nat),ds[k]?=some d→G[k]?=some g→∃a,d=.ref a∧S[a]?=some (.lst (g.map wtD))
theorem zaS.nil {S:Sto}:zaS S [] []:=⟨rfl,λk d g h=>by simp at h⟩
theorem zaS.pre {S T:Sto}{ds:List D}{G:List (List Nat)}(h:zaS S ds G)(p:Pre S T):zaS T ds G:=⟨h.1,λk d g hd hg=>by
 obtain⟨a,e,ha⟩:=h.2 k d g hd hg
 exact⟨a,e,p _ _ ha⟩⟩
theorem zaS.snoc {S:Sto}{ds:List D}{G:List (List Nat)}{a:Nat}{g:List Nat}(h:zaS S ds G)(ha:S[a]?=some (.lst (g.map wtD))):zaS S (ds++[.ref a]) (G++[g]):=by
 refine⟨by rw[Vao,Vao,h.1]; rfl,λk d g' hd hg=>?_⟩
 by_cases c:k<ds.length
 ·rw[Vap c] at hd
  rw[Vap (by rw[← h.1]; exact c)] at hg
  exact h.2 k d g' hd hg
 ·have hl:=(Vac.mp hd).1
  rw[Vao] at hl
  have e:k=ds.length:=by have:[D.ref a].length=1:=rfl; omega
  subst e
  rw[Vay (Vaa _),Va3] at hd
  rw[Vay (by rw[h.1]; exact Vaa _),h.1,Va3] at hg
  cases hd
  cases hg
  exact⟨a,rfl,ha⟩
theorem zaS.get {S:Sto}{ds:List D}{G:List (List Nat)}(h:zaS S ds G){k:Nat}{d:D}(hd:ds[k]?=some d):∃a g,d=.ref a∧G[k]?=some g∧S[a]?=some (.lst (g.map wtD)):=by
 have hk:k<G.length:=by rw[← h.1]; exact(Vac.mp hd).1
 obtain⟨a,e,ha⟩:=h.2 k d _ hd (Vae hk)
 exact⟨a,_,e,Vae hk,ha⟩
theorem zaS.pick {S:Sto}{ds:List D}{G:List (List Nat)}(h:zaS S ds G)(p:List Nat)(hp:∀i∈p,i<ds.length):zaS S (p.map λi=>ds.getD i .non) (p.map λi=>G.getD i []):=⟨by simp,λk d g hd hg=>by
 rw[Vad] at hd hg
 obtain⟨i,hi,rfl⟩:=Vax.mp hd
 rw[hi] at hg
 cases hg
 have hl:=hp i (Vag hi)
 exact h.2 i _ _ (zaj hl) (zaj (by rw[← h.1]; exact hl))⟩
def zaY (us vs:List (Int×Int)):Bool:=(List.zipWith (λp q=>(za0 p q).isSome) us vs).all id
abbrev TB (B:List (List (Int×Int)))(i j:Nat):Bool:=zaY (B.getD i []) (B.getD j [])
def zaA (p q:Int×Int):Int×Int:=(if q.1<p.1 then q.1 else p.1,if q.2 > p.2 then q.2 else p.2)
def zaV (B:List (List (Int×Int))):List (Int×Int):=B.foldl (λw b=>List.zipWith zaA w b) (B.headD [])
theorem zjX (us vs:List (Int×Int)):zbd (List.zipWith (λx y=>match x,y with | .tup [.int a,.int b],.tup [.int c,.int d]=>.bl (za0 (a,b) (c,d)).isSome | _,_=>.non) (us.map frD) (vs.map frD))=some (List.zipWith (λp q=>(za0 p q).isSome) us vs):=by
 induction us generalizing vs with
 | nil=>rfl
 | cons u us ih=>
  cases vs with
  | nil=>rfl
  | cons v vs=>
   show (zbd (List.zipWith _ (us.map frD) (vs.map frD))).map _=_
   rw[ih]
   rfl
theorem zmU (f:Int×Int→Int×Int→Int×Int)(us vs:List (Int×Int))(g:D→D→D)(h:∀p q,g (frD p) (frD q)=frD (f p q)):List.zipWith g (us.map frD) (vs.map frD)=(List.zipWith f us vs).map frD:=by
 induction us generalizing vs with
 | nil=>rfl
 | cons u us ih=>
  cases vs with
  | nil=>rfl
  | cons v vs=>
   rw[Val,Val,List.zipWith_cons_cons,List.zipWith_cons_cons,Val,ih,h]
theorem zeC (f:Nat→Bool)(g:D→D)(h:∀k:Nat,g (wtD k)=.bl (f k)):∀ns:List Nat,zbd ((ns.map wtD).map g)=some (ns.map f)
 | []=>rfl
 | n::ns=>by
  rw[Val,Val,h]
  show (zbd ((ns.map wtD).map g)).map _=_
  rw[zeC f g h ns]
  rfl
theorem zbW {S:Sto}{lo:Nat}{ds:List D}{R:List (List (Int×Int))}(h:zas S lo ds R){k:Nat}(hk:k<R.length):∃a,atI ds (k:Int)=some (.ref a)∧S[a]?=some (.lst ((R.getD k []).map frD)):=by
 have hd:k<ds.length:=by rw[h.1]; exact hk
 obtain⟨a,e,_,ha⟩:=h.2 k _ _ (Vae hd) (zaj (d:=[]) hk)
 exact⟨a,zbN (j:=k) (by rw[Vae hd,e]),ha⟩
section
variable {X:Cx}{Z:Zx}{elt:Expr}{pos:Pos}{sc ar:Scope}{N:List Str}{caps:List Nat}
@[irreducible] def zdF (caps:List Nat)(tl:TDE)(te:TDE):TDE:=λdl S Q=>tl dl S λd S1=>match d with
 | .ref n=>(lAt S1 n).isSome=true∧∃W:Nat→Nat→Sto→Prop,(∃m,W 0 m (S1++[.lst []]))∧∀k m S2,W k m S2→match lAt S2 n with
  | some o=>match (zac o)[k]? with
   | some (.tup [x,y])=>zcH caps te S1.length dl x y S2 λS3=>∃m',m'<m∧W (k+1) m' S3
   | some _=>False
   | none=>Q (.ref S1.length) S2
  | none=>False
 | _=>False
theorem zlr {tl:TDE}{te:TDE}{σ:L3.St}{H:Hp}{Qv:VK}(h:up X.K Z (zdF caps tl te) σ H Qv):
  zdd 2 caps (zgG X.K (up X.K Z tl)) (zch X.K 2 (zcr [0,1])) (up X.K Z0 te) σ H Qv:=by
 obtain⟨r,dl,S,Q,rs,rel,h,ret⟩:=h
 unfold zdF at h
 refine⟨r,dl,S,_,rs,rel,h,λv H1 r1 d S1 x1 rel1 p1 q1=>?_⟩
 cases p1 with
 | @ref n a hr=>
  obtain⟨hsome,W,⟨m0,w0⟩,turn⟩:=q1
  obtain⟨o1,eo1⟩:=VaF.mp hsome
  obtain⟨xs1,sq1,_⟩:=za9 (r:=r1) hr rel1.b eo1
  refine⟨a,rfl,⟨xs1,sq1⟩,λD0 hD=>?_⟩
  obtain⟨rel2,x2⟩:=rel1.b.push (ds:=[]) (xs:=[]) hD Rps.nil
  refine⟨λk m H'=>∃r' S',Ext (r1++[D0]) r' (upd H1 D0 (.lst [])) H'∧zaw X.K r' S' H'∧W k m S',⟨m0,_,_,Ext.refl,rel2,w0⟩,?_⟩
  rintro k m H2 ⟨r2,S2,x3,rb2,w2⟩
  have ha2:r2[S1.length]?=some D0:=x3.adr _ _ (zel rel1.len)
  have hr2:r2[n]?=some a:=(x2.trans x3).adr _ _ hr
  have q:=turn k m S2 w2
  split at q
  ·rename_i o eo
   obtain⟨xs,sq,pr⟩:=za9 (r:=r2) hr2 rb2 eo
   split at q
   ·rename_i y1 y2 ey
    obtain⟨v,hv,pv⟩:=pr.get ey
    refine .inr ⟨⟨xs,v,sq,hv⟩,λv' H' y' o8 ho8=>?_⟩
    obtain⟨eH,y'⟩:=y'
    subst eH
    have ev:v'=v:=by
     have z:=y' xs sq
     rw[hv] at z; exact(Option.some.inj z).symm
    subst ev
    obtain⟨c1,c2,rfl⟩:∃c1 c2,o8=[c1,c2]:=by
     match o8,ho8 with
     | [c1,c2],_=>exact⟨c1,c2,rfl⟩
    obtain⟨T,vs,rfl,eT,ps⟩:=pv.untup
    obtain⟨w1,vs1,rfl,pw1,ps1⟩:=ps.uncons
    obtain⟨w2,vs2,rfl,pw2,ps2⟩:=ps1.uncons
    have z:=ps2.unnil
    subst z
    have rs3:=rs.ext (x1.trans (x2.trans x3))
    refine⟨T,[w1,w2],rfl,SqT.of eT,rfl,rfl,⟨[some w1,some w2],rfl,rfl⟩,?_⟩
    have rsY:=zgA (caps:=caps) rs3 pw1 pw2
    refine⟨r2,_,S2,_,rsY,⟨rb2,λ_ _ _ _ _ _ _ _ _ z=>z.elim⟩,q,λz H4 r4 dz S4 x6 rel4 p4 q4=>?_⟩
    split at q4
    ·rename_i ys eys
     obtain⟨hl,m',hm,q4⟩:=q4
     have ha4:r4[S1.length]?=some D0:=x6.adr _ _ ha2
     obtain⟨zs,hD4,pz⟩:=rel4.b.ob _ _ _ ha4 eys
     obtain⟨rel5,x7⟩:=rel4.b.set ha4 eys (pz.snoc p4)
     exact⟨zs,hD4,by rw[← pz.1]; exact zcO (VaG hl),m',hm,r4,_,x3.trans (x6.trans x7),rel5,q4⟩
    ·exact q4.elim
   ·exact q.elim
   ·rename_i ey
    have hlen:(zac o).length≤k:=VaH.mp ey
    exact .inl ⟨⟨xs,sq,by rw[← pr.1]; exact hlen⟩,ret _ H2 r2 _ S2 (x1.trans (x2.trans x3)) ⟨rb2,rel.xw.ext (x1.trans (x2.trans x3))⟩ (.ref ha2) q⟩
  ·exact q.elim
 | _=>exact(show False from q1).elim
theorem zg2 {tl:TDE}{te:TDE}{x1 x2:Str}{p1 p2 tp:Pos}{kk:Nat}{a:Expr}(har:X.env.scope=ar)(hc:X.calm=true)(cs:zb5 sc ar [x1,x2] N)(hl1:sc.names.lookup x1=some .local)(hl2:sc.names.lookup x2=some .local)
  (hN:caps.map (λi=>X.N[i]?)=N.map some)(hnd:([x1,x2]++N).Nodup)(ha:PD X Z a tl)
  (he:∀cl C s0 H0 fp pn,PD (Cx.comp X sc ([x1,x2]++N) cl C s0 H0 fp pn) Z0 elt te)(hs:∀y,foldedSetIterable a X.env y=pure y:=by intro _; rfl):
  PD X Z (.ListComp elt [⟨.Tuple [.Name x1 p1,.Name x2 p2] kk tp,a,[],0⟩] sc pos) (zdF caps tl te):=by
 subst har
 refine zaW (ziD hc cs hN (gt:=zch X.K 2 (zcr [0,1])) (te:=up X.K Z0 te) (zfM ha) (λcl C s0 H0 fp pn=>?_) he hs) λ_ _ _ h=>zlr h
 have l1:(Cx.comp X sc ([x1,x2]++N) cl C s0 H0 fp pn).env.scope.names.lookup x1=some .local:=lookup_relabel_local hl1
 have l2:(Cx.comp X sc ([x1,x2]++N) cl C s0 H0 fp pn).env.scope.names.lookup x2=some .local:=lookup_relabel_local hl2
 exact zcE hc (zcp hnd (.cons rfl (.inl l1) (.inr l1) (.cons rfl (.inl l2) (.inr l2) .nil))) rfl rfl
end
structure zcK (k:Nat)(bs:List (List (Int×Int)))(r:Int×Int):Prop where
 lo:∃b∈bs,(b.getD k (0,0)).1=r.1
 ll:∀b∈bs,r.1≤(b.getD k (0,0)).1
 hi:∃b∈bs,(b.getD k (0,0)).2=r.2
 hl:∀b∈bs,(b.getD k (0,0)).2≤r.2
theorem zcK.same {k:Nat}{bs:List (List (Int×Int))}{r t:Int×Int}(h:zcK k bs r)(g:zcK k bs t):r=t:=by
 obtain⟨b1,m1,e1⟩:=h.lo
 obtain⟨b2,m2,e2⟩:=g.lo
 obtain⟨b3,m3,e3⟩:=h.hi
 obtain⟨b4,m4,e4⟩:=g.hi
 have a1:=h.ll b2 m2
 have a2:=g.ll b1 m1
 have a3:=h.hl b4 m4
 have a4:=g.hl b3 m3
 exact Prod.ext (by omega) (by omega)
theorem zjh {q k:Nat}{w b:List (Int×Int)}(hw:w.length=q)(hb:b.length=q)(hk:k<q):(List.zipWith zaA w b).getD k (0,0)=zaA (w.getD k (0,0)) (b.getD k (0,0)):=by
 rw[Vak,List.getElem?_zipWith,zaj (d:=((0,0):Int×Int)) (show k<w.length by omega),zaj (d:=((0,0):Int×Int)) (show k<b.length by omega)]
 rfl
theorem zhR {q:Nat}:∀(bs:List (List (Int×Int))) (w:List (Int×Int)),w.length=q→(∀b∈bs,b.length=q)→(bs.foldl (λw b=>List.zipWith zaA w b) w).length=q∧∀k,k<q→zcK k (w::bs) ((bs.foldl (λw b=>List.zipWith zaA w b) w).getD k (0,0))
 | [],w,hw,_=>⟨hw,λk hk=>⟨⟨w,by simp,rfl⟩,λb hb=>by rw[VaD.mp hb]; exact Va0 _,⟨w,by simp,rfl⟩,λb hb=>by rw[VaD.mp hb]; exact Va0 _⟩⟩
 | b::bs,w,hw,hb=>by
  have lb:=hb b (by simp)
  obtain⟨i1,i2⟩:=zhR bs (List.zipWith zaA w b) (by rw[List.length_zipWith,hw,lb]; omega) λc hc=>hb c (by simp[hc])
  refine⟨i1,λk hk=>?_⟩
  obtain⟨⟨c1,m1,e1⟩,a2,⟨c3,m3,e3⟩,a4⟩:=i2 k hk
  have z:=zjh hw lb hk
  have zl:(zaA (w.getD k (0,0)) (b.getD k (0,0))).1≤(w.getD k (0,0)).1∧(zaA (w.getD k (0,0)) (b.getD k (0,0))).1≤(b.getD k (0,0)).1∧((zaA (w.getD k (0,0)) (b.getD k (0,0))).1=(w.getD k (0,0)).1∨(zaA (w.getD k (0,0)) (b.getD k (0,0))).1=(b.getD k (0,0)).1):=by
   unfold zaA
   dsimp only
   split <;> omega
  have zh:(w.getD k (0,0)).2≤(zaA (w.getD k (0,0)) (b.getD k (0,0))).2∧(b.getD k (0,0)).2≤(zaA (w.getD k (0,0)) (b.getD k (0,0))).2∧((zaA (w.getD k (0,0)) (b.getD k (0,0))).2=(w.getD k (0,0)).2∨(zaA (w.getD k (0,0)) (b.getD k (0,0))).2=(b.getD k (0,0)).2):=by
   unfold zaA
   dsimp only
   split <;> omega
  show zcK k (w::b::bs) ((bs.foldl (λw b=>List.zipWith zaA w b) (List.zipWith zaA w b)).getD k (0,0))
  have t1:=a2 (List.zipWith zaA w b) (by simp)
  have t3:=a4 (List.zipWith zaA w b) (by simp)
  rw[z] at t1 t3
  refine⟨?_,λc hc=>?_,?_,λc hc=>?_⟩
  ·rcases Vam.mp m1 with rfl | m
   ·rw[z] at e1
    rcases zl.2.2 with y | y
    ·exact⟨w,by simp,by omega⟩
    ·exact⟨b,by simp,by omega⟩
   ·exact⟨c1,by simp[m],e1⟩
  ·rcases Vam.mp hc with rfl | m
   ·omega
   ·rcases Vam.mp m with rfl | m
    ·omega
    ·exact a2 c (by simp[m])
  ·rcases Vam.mp m3 with rfl | m
   ·rw[z] at e3
    rcases zh.2.2 with y | y
    ·exact⟨w,by simp,by omega⟩
    ·exact⟨b,by simp,by omega⟩
   ·exact⟨c3,by simp[m],e3⟩
  ·rcases Vam.mp hc with rfl | m
   ·omega
   ·rcases Vam.mp m with rfl | m
    ·omega
    ·exact a4 c (by simp[m])
theorem zfQ {q:Nat}{bs:List (List (Int×Int))}(ne:bs≠[])(hb:∀b∈bs,b.length=q):(zaV bs).length=q∧∀k,k<q→zcK k bs ((zaV bs).getD k (0,0)):=by
 cases bs with
 | nil=>exact absurd rfl ne
 | cons b bs=>
  obtain⟨i1,i2⟩:=zhR (q:=q) (b::bs) b (hb b (by simp)) hb
  refine⟨i1,λk hk=>?_⟩
  obtain⟨⟨c1,m1,e1⟩,a2,⟨c3,m3,e3⟩,a4⟩:=i2 k hk
  refine⟨⟨c1,?_,e1⟩,λc hc=>a2 c (VaE _ hc),⟨c3,?_,e3⟩,λc hc=>a4 c (VaE _ hc)⟩
  ·rcases Vam.mp m1 with rfl | m
   ·simp
   ·exact m
  ·rcases Vam.mp m3 with rfl | m
   ·simp
   ·exact m
theorem zhh {us vs:List (Int×Int)}(hu:∀p∈us,p.1≤p.2)(hv:∀p∈vs,p.1≤p.2):zaY us vs=true↔∀(k:Nat) (p q:Int×Int),us[k]?=some p→vs[k]?=some q→q.1≤p.2∧p.1≤q.2:=by
 unfold zaY
 rw[List.all_eq_true]
 have one:∀p q:Int×Int,p.1≤p.2→q.1≤q.2→((za0 p q).isSome=true↔q.1≤p.2∧p.1≤q.2):=λp q h1 h2=>by
  unfold za0
  split <;> split <;> split <;> simp <;> omega
 refine⟨λh k p q hp hq=>?_,λh b hb=>?_⟩
 ·have z:=h (za0 p q).isSome (Vag (i:=k) (by rw[List.getElem?_zipWith,hp,hq]))
  exact(one p q (hu p (Vag hp)) (hv q (Vag hq))).mp z
 ·obtain⟨k,hk⟩:=Va6.mp hb
  rw[List.getElem?_zipWith] at hk
  cases e1:us[k]? with
  | none=>rw[e1] at hk; cases hk
  | some p=>
   cases e2:vs[k]? with
   | none=>rw[e1,e2] at hk; cases hk
   | some q=>
    rw[e1,e2] at hk
    have z:=Option.some.inj hk
    subst z
    exact(one p q (hu p (Vag e1)) (hv q (Vag e2))).mpr (h k p q e1 e2)
theorem zlp {a b c d:TDS}{E:zbP}{dl:Ev}{S:Sto}(W:Ev→Sto→Prop)(ha:∀nx:Ev→Sto→Prop,(∀dl' S',W dl' S'→nx dl' S')→zbK a (zbK b c) { nx:=nx,rt:=E.rt,bk:=E.bk,ct:=E.ct } dl S)(hb:∀dl' S',W dl' S'→d E dl' S'):zbK a (zbK b (zbK c d)) E dl S:=ha _ hb
theorem zb4 (M:List Nat)(v:Nat):(cls M v).length≤M.length:=by
 unfold cls
 exact Vau (List.length_filter_le _ _) (by rw[Vat]; exact Vaa _)
theorem zco (M:List Nat):(zaf M).length≤M.length:=by
 unfold zaf
 exact Vau (List.length_filter_le _ _) (by rw[Vat]; exact Vaa _)
theorem zdS:∀xs:List Nat,zbO (xs.map wtD)=some (xs.map λ(x:Nat)=>(x:Int))
 | []=>rfl
 | x::xs=>by
  rw[Val,Val]
  show (zbO (xs.map wtD)).map _=_
  rw[zdS xs]
  rfl
theorem zii {G:List (List Nat)}{x:Nat}(hx:x<G.length):((G.map λg=>g.getD 0 0).map λ(x:Nat)=>(x:Int)).getD x 0=(((G.getD x []).getD 0 0:Nat):Int):=by
 have h1:=zaj (d:=[]) hx
 rw[Vak,Vad,Vad,h1]
 rfl
def zaM (B:List (List (Int×Int))):List (List Nat×List (Int×Int)):=(zaf (zaa (TB B) B.length)).map λv=>(cls (zaa (TB B) B.length) v,zaV ((cls (zaa (TB B) B.length) v).map λi=>B.getD i []))
def zaz (S:Sto)(x0:Nat)(es:List D)(L:List (List Nat×List (Int×Int))):Prop:=es.length=L.length∧∀(k:Nat) (d:D) (x:List Nat×List (Int×Int)),es[k]?=some d→L[k]?=some x→∃a b,d=.tup [.ref a,.ref b]∧a≠x0∧b≠x0∧S[a]?=some (.lst (x.1.map wtD))∧S[b]?=some (.lst (x.2.map frD))
theorem zaz.nil {S:Sto}{x0:Nat}:zaz S x0 [] []:=⟨rfl,λk d x h=>by simp at h⟩
theorem zaz.keep {S T:Sto}{x0:Nat}{es:List D}{L:List (List Nat×List (Int×Int))}(h:zaz S x0 es L)(p:∀(x:Nat) (o:Ob),x≠x0→S[x]?=some o→T[x]?=some o):zaz T x0 es L:=⟨h.1,λk d x hd hx=>by
 obtain⟨a,b,e,na,nb,ha,hb⟩:=h.2 k d x hd hx
 exact⟨a,b,e,na,nb,p _ _ na ha,p _ _ nb hb⟩⟩
theorem zaz.snoc {S:Sto}{x0 a b:Nat}{es:List D}{L:List (List Nat×List (Int×Int))}{x:List Nat×List (Int×Int)}(h:zaz S x0 es L)(na:a≠x0)(nb:b≠x0)(ha:S[a]?=some (.lst (x.1.map wtD)))(hb:S[b]?=some (.lst (x.2.map frD))):zaz S x0 (es++[.tup [.ref a,.ref b]]) (L++[x]):=by
 refine⟨by rw[Vao,Vao,h.1]; rfl,λk d y hd hy=>?_⟩
 by_cases c:k<es.length
 ·rw[Vap c] at hd
  rw[Vap (by rw[← h.1]; exact c)] at hy
  exact h.2 k d y hd hy
 ·have hl:=(Vac.mp hd).1
  rw[Vao] at hl
  have e:k=es.length:=by have:[D.tup [.ref a,.ref b]].length=1:=rfl; omega
  subst e
  rw[Vay (Vaa _),Va3] at hd
  rw[Vay (by rw[h.1]; exact Vaa _),h.1,Va3] at hy
  cases hd
  cases hy
  exact⟨a,b,rfl,na,nb,ha,hb⟩
theorem zhs (w:List (Int×Int)):∀B:List (List (Int×Int)),(B.foldl (λw b=>List.zipWith zaA w b) w).length≤w.length:=λB=>by
 induction B generalizing w with
 | nil=>exact Vaa _
 | cons b B ih=>
  have z:=ih (List.zipWith zaA w b)
  rw[List.length_zipWith] at z
  show (B.foldl _ (List.zipWith zaA w b)).length≤_
  omega
theorem zkX {caps:List Nat}{tl te:TDE}{tc:TDT}{dl:Ev}{S:Sto}{Q:DK}(P:Sto→Nat→Prop)(htl:∀K:DK,(∀T m,P T m→K (.ref m) T)→tl dl S K)(h:∀T m,P T m→∀tl':TDE,(∀K:DK,K (.ref m) T→tl' dl S K)→zbD caps tl' tc te dl S Q):zbD caps tl tc te dl S Q:=by
 unfold zbD
 refine htl _ λT m p=>?_
 have z:=h T m p (λ_ _ K=>K (.ref m) T) λK hK=>hK
 unfold zbD at z
 exact z
theorem zlm {B:List (List (Int×Int))}(l3:B.length≤30)(l4:∀b∈B,b.length≤4):(zaM B).length≤900∧∀x∈zaM B,x.1.length≤900∧x.2.length≤900:=by
 have mlen:=zaD (TB B) B.length
 refine⟨?_,λx hx=>?_⟩
 ·have z:=zco (zaa (TB B) B.length)
  unfold zaM
  rw[Vab]
  omega
 ·unfold zaM at hx
  obtain⟨v,hv,rfl⟩:=Vah.mp hx
  have z:=zb4 (zaa (TB B) B.length) v
  refine⟨by show (cls (zaa (TB B) B.length) v).length≤900; omega,?_⟩
  show (zaV ((cls (zaa (TB B) B.length) v).map λi=>B.getD i [])).length≤900
  have y:=zhs (((cls (zaa (TB B) B.length) v).map λi=>B.getD i []).headD []) ((cls (zaa (TB B) B.length) v).map λi=>B.getD i [])
  obtain⟨xs9,e9⟩:=zcb (zbc (TB B) B.length) hv
  have hb:(((cls (zaa (TB B) B.length) v).map λi=>B.getD i []).headD []).length≤4:=by
   rw[e9]
   have vl:v<B.length:=by have:=(zaZ.mp hv).1; omega
   have hvm:B.getD v []∈B:=by rw[Vak,Vae vl]; exact VaC ..
   exact l4 (B.getD v []) hvm
  unfold zaV
  omega
inductive Con (T:Nat→Nat→Bool)(n:Nat):Nat→Nat→Prop
 | refl (i:Nat):Con T n i i
 | step {i j k:Nat}:Con T n i j→j<n→k<n→T j k=true→Con T n i k
theorem Con.trans {T:Nat→Nat→Bool}{n i j k:Nat}(h:Con T n i j)(g:Con T n j k):Con T n i k:=by
 induction g with
 | refl=>exact h
 | step _ a b t ih=>exact .step ih a b t
theorem Con.symm {T:Nat→Nat→Bool}(sy:∀i j,T i j=T j i){n i j:Nat}(h:Con T n i j):Con T n j i:=by
 induction h with
 | refl=>exact .refl _
 | step _ a b t ih=>exact(Con.step (.refl _) b a (by rw[sy]; exact t)).trans ih
theorem Con.up {T:Nat→Nat→Bool}{n i j:Nat}(h:Con T n i j):Con T (n+1) i j:=by
 induction h with
 | refl=>exact .refl _
 | step _ a b t ih=>exact .step ih (by omega) (by omega) t
theorem zc1 {T:Nat→Nat→Bool}{n k:Nat}(hk:k<n):(zaa T (n+1)).getD k 0=if (zaa T n).getD k 0∈zah T (zaa T n) then za8 (zah T (zaa T n)) else (zaa T n).getD k 0:=by
 show (mkS _ _ _).getD k 0=_
 exact zbR (by rw[zaD]; exact hk)
theorem zgS {T:Nat→Nat→Bool}{n:Nat}:(zaa T (n+1)).getD n 0=za8 (zah T (zaa T n)):=by
 have z:=zcz (l:=za8 (zah T (zaa T n))) (mine:=zah T (zaa T n)) (M:=zaa T n)
 rw[zaD] at z
 exact z
theorem zdt {T:Nat→Nat→Bool}(sy:∀i j,T i j=T j i):∀n i j:Nat,i<n→j<n→(zaa T n).getD i 0=(zaa T n).getD j 0→Con T n i j
 | 0,i,j,h,_,_=>absurd h (by omega)
 | n+1,i,j,hi,hj,e=>by
  have ml:=zaD T n
  obtain⟨lm,ll⟩:=zey _ (zgw T (zaa T n))
  have way:∀k,k<n→(zaa T n).getD k 0∈zah T (zaa T n)→Con T (n+1) k n:=λk hk hm=>by
   rcases zdz.mp hm with ⟨k',a,b,c⟩ | w
   ·rw[ml] at a b
    exact .step (zdt sy n k k' hk a c.symm).up (by omega) (by omega) b
   ·have:=(zbc T n).le k (by omega)
    omega
  have fin:∀k,k<n+1→(zaa T (n+1)).getD k 0=za8 (zah T (zaa T n))→Con T (n+1) k n:=λk hk e=>by
   by_cases c:k<n
   ·rw[zc1 c] at e
    by_cases d:(zaa T n).getD k 0∈zah T (zaa T n)
    ·exact way k c d
    ·rw[if_neg d] at e
     rw[e] at d
     exact absurd lm d
   ·rw[show k=n by omega]
    exact .refl _
  by_cases ci:(zaa T (n+1)).getD i 0=za8 (zah T (zaa T n))
  ·exact(fin i hi ci).trans ((fin j hj (by rw[← e]; exact ci)).symm sy)
  ·have cj:(zaa T (n+1)).getD j 0≠za8 (zah T (zaa T n)):=by rw[← e]; exact ci
   have li:i<n:=by
    rcases Nat.lt_or_ge i n with w | w
    ·exact w
    ·exact absurd (by rw[show i=n by omega]; exact zgS) ci
   have lj:j<n:=by
    rcases Nat.lt_or_ge j n with w | w
    ·exact w
    ·exact absurd (by rw[show j=n by omega]; exact zgS) cj
   rw[zc1 li] at e ci
   rw[zc1 lj] at e cj
   have di:¬ (zaa T n).getD i 0∈zah T (zaa T n):=λw=>ci (if_pos w)
   have dj:¬ (zaa T n).getD j 0∈zah T (zaa T n):=λw=>cj (if_pos w)
   rw[if_neg di,if_neg dj] at e
   exact(zdt sy n i j li lj e).up
theorem ze4 {T:Nat→Nat→Bool}(sy:∀i j,T i j=T j i):∀n i j:Nat,i<n→j<n→T i j=true→(zaa T n).getD i 0=(zaa T n).getD j 0
 | 0,i,j,h,_,_=>absurd h (by omega)
 | n+1,i,j,hi,hj,t=>by
  have ml:=zaD T n
  have one:∀k,k<n→T k n=true→(zaa T (n+1)).getD k 0=(zaa T (n+1)).getD n 0:=λk hk tk=>by
   rw[zc1 hk,zgS,if_pos (zdz.mpr (.inl ⟨k,by omega,by rw[ml]; exact tk,rfl⟩))]
  by_cases li:i<n
  ·by_cases lj:j<n
   ·rw[zc1 li,zc1 lj,ze4 sy n i j li lj t]
   ·have e:j=n:=by omega
    subst e
    exact one i li t
  ·have e:i=n:=by omega
   subst e
   by_cases lj:j<i
   ·exact(one j lj (by rw[sy]; exact t)).symm
   ·rw[show j=i by omega]
theorem zgj {T:Nat→Nat→Bool}(sy:∀i j,T i j=T j i){n i j:Nat}(hi:i<n)(h:Con T n i j):j<n∧(zaa T n).getD i 0=(zaa T n).getD j 0:=by
 induction h with
 | refl=>exact⟨hi,rfl⟩
 | step _ a b t ih=>exact⟨b,ih.2.trans (ze4 sy n _ _ a b t)⟩
def zaI (T:Nat→Nat→Bool)(g R:List Nat):List Nat:=g.foldl (λR x=>if x ∉ R∧(R.any λk=>T x k)=true then R++[x] else R) R
def zaP (T:Nat→Nat→Bool)(g:List Nat):Nat→List Nat
 | 0=>[g.getD 0 0]
 | n+1=>zaI T g (zaP T g n)
theorem zdq (T:Nat→Nat→Bool)(A:List Nat):∀(g R:List Nat),(∀x∈g,x∈A)→(∀x∈R,x∈A)→R.Nodup→(∀x∈zaI T g R,x∈A)∧(zaI T g R).Nodup∧(∀x∈R,x∈zaI T g R)∧R.length≤(zaI T g R).length∧∀x∈g,x ∉ R→(∃r∈R,T x r=true)→R.length<(zaI T g R).length
 | [],R,_,h2,h3=>⟨h2,h3,λx hx=>hx,Vaa _,λx hx=>absurd hx (by simp)⟩
 | y::g,R,h1,h2,h3=>by
  have gA:∀x∈g,x∈A:=λx hx=>h1 x (by simp[hx])
  show (∀x∈zaI T g (if y ∉ R∧(R.any λk=>T y k)=true then R++[y] else R),x∈A)∧(zaI T g (if y ∉ R∧(R.any λk=>T y k)=true then R++[y] else R)).Nodup∧(∀x∈R,x∈zaI T g (if y ∉ R∧(R.any λk=>T y k)=true then R++[y] else R))∧R.length≤(zaI T g (if y ∉ R∧(R.any λk=>T y k)=true then R++[y] else R)).length∧∀x∈y::g,x ∉ R→(∃r∈R,T x r=true)→R.length<(zaI T g (if y ∉ R∧(R.any λk=>T y k)=true then R++[y] else R)).length
  by_cases c:y ∉ R∧(R.any λk=>T y k)=true
  ·rw[if_pos c]
   have ndR:(R++[y]).Nodup:=by
    rw[List.nodup_append]
    exact⟨h3,by simp,λa ha b hb e=>c.1 (by rw[VaD.mp hb] at e; rw[← e]; exact ha)⟩
   obtain⟨a1,a2,a3,a4,_⟩:=zdq T A g (R++[y]) gA (λx hx=>by
    rcases VaW.mp hx with w | w
    ·exact h2 x w
    ·rw[VaD.mp w]; exact h1 y (by simp)) ndR
   rw[Vao] at a4
   have e1:[y].length=1:=rfl
   exact⟨a1,a2,λx hx=>a3 x (List.mem_append_left _ hx),by omega,λ_ _ _ _=>by omega⟩
  ·rw[if_neg c]
   obtain⟨a1,a2,a3,a4,a5⟩:=zdq T A g R gA h2 h3
   refine⟨a1,a2,a3,a4,λx hx hn ⟨r,hr,t⟩=>?_⟩
   rcases Vam.mp hx with w | w
   ·subst w
    exact absurd ⟨hn,Va2.mpr ⟨r,hr,t⟩⟩ c
   ·exact a5 x w hn ⟨r,hr,t⟩
theorem zgp:∀(xs ys:List Nat),xs.Nodup→(∀x∈xs,x∈ys)→xs.length≤ys.length
 | [],_,_,_=>Vaj _
 | x::xs,ys,nd,h=>by
  obtain⟨n1,n2⟩:=Va5.mp nd
  have hx:=h x (by simp)
  have z:=zgp xs (ys.erase x) n2 λy hy=>(List.mem_erase_of_ne (λ(e:y=x)=>n1 (e ▸ hy))).mpr (h y (by simp[hy]))
  rw[List.length_erase_of_mem hx] at z
  have:=List.length_pos_of_mem hx
  rw[VaO]
  omega
theorem zmm {T:Nat→Nat→Bool}(sy:∀i j,T i j=T j i){n v:Nat}(hv:v∈zaf (zaa T n)):(zaP T (cls (zaa T n) v) (cls (zaa T n) v).length).Perm (cls (zaa T n) v):=by
 have ml:=zaD T n
 obtain⟨xs,e0⟩:=zcb (zbc T n) hv
 have hd:(cls (zaa T n) v).getD 0 0=v:=by rw[e0]; rfl
 have vm:v∈cls (zaa T n) v:=by rw[e0]; simp
 have vn:v<n:=by have:=(zao.mp vm).1; omega
 have key:∀R:List Nat,v∈R→(∃y∈cls (zaa T n) v,y ∉ R)→∃x∈cls (zaa T n) v,x ∉ R∧∃r∈R,T x r=true:=λR vR ⟨y,hy,ny⟩=>by
  obtain⟨y1,y2⟩:=zao.mp hy
  have w:=zdt sy n v y vn (by omega) (by rw[(zao.mp vm).2,y2])
  have go:∀k,Con T n v k→k ∉ R→∃x∈cls (zaa T n) v,x ∉ R∧∃r∈R,T x r=true:=λk h=>by
   induction h with
   | refl=>exact λz=>absurd vR z
   | @step j k h a b t ih=>
    intro nk
    by_cases c:j∈R
    ·have m:=zgj sy vn (h.step a b t)
     exact⟨k,zao.mpr ⟨by omega,by rw[← m.2]; exact(zao.mp vm).2⟩,nk,j,c,by rw[sy]; exact t⟩
    ·exact ih c
  exact go y w ny
 have main:∀m:Nat,(∀x∈zaP T (cls (zaa T n) v) m,x∈cls (zaa T n) v)∧(zaP T (cls (zaa T n) v) m).Nodup∧v∈zaP T (cls (zaa T n) v) m∧((∀x∈cls (zaa T n) v,x∈zaP T (cls (zaa T n) v) m)∨m<(zaP T (cls (zaa T n) v) m).length):=λm=>by
  induction m with
  | zero=>
   have e:zaP T (cls (zaa T n) v) 0=[v]:=by show [(cls (zaa T n) v).getD 0 0]=_; rw[hd]
   rw[e]
   exact⟨λx hx=>by rw[VaD.mp hx]; exact vm,by simp,by simp,.inr (by simp)⟩
  | succ m ih=>
   obtain⟨i1,i2,i3,i4⟩:=ih
   obtain⟨s1,s2,s3,s4,s5⟩:=zdq T (cls (zaa T n) v) (cls (zaa T n) v) _ (λx hx=>hx) i1 i2
   refine⟨s1,s2,s3 v i3,?_⟩
   rcases i4 with w | w
   ·exact .inl λx hx=>s3 x (w x hx)
   ·by_cases c:∃y∈cls (zaa T n) v,y ∉ zaP T (cls (zaa T n) v) m
    ·obtain⟨x,hx,nx,r⟩:=key _ i3 c
     have:=s5 x hx nx r
     exact .inr (by show m+1<(zaI T (cls (zaa T n) v) (zaP T (cls (zaa T n) v) m)).length; omega)
    ·refine .inl λx hx=>s3 x ?_
     exact Classical.byContradiction λz=>c ⟨x,hx,z⟩
 obtain⟨m1,m2,m3,m4⟩:=main (cls (zaa T n) v).length
 refine zde m2 (zdf _ _) λx=>⟨m1 x,λhx=>?_⟩
 rcases m4 with w | w
 ·exact w x hx
 ·have z:=zgp _ _ m2 m1
  omega
section
variable {X:Cx}{Z:Zx}{pos:Pos}
theorem zl6:zay X (.type "range") (λxs H Q=>∃j:Int,xs=[.int j]∧∀p,H p=none→Q (.ref p) (upd H p (.rng 0 j))):=by
 intro pins s σ H xs us Q I rv h
 obtain⟨j,rfl,q⟩:=h
 obtain⟨u,rfl,ru⟩:=zbl rv
 obtain⟨t,rfl⟩:=ru
 refine call_range_1 ?_
 exact⟨.ref s.heap.objs.size,_,I.laid (o:=.rng 0 j) (λb o e=>Heap.get?_push_of_some _ e) (Vaa _) ⟨_,_,_,Heap.get?_push_size _ rfl⟩,rfl,q _ (I.hok.fresh (Vaa _))⟩
end
section
variable {X:Cx}{Z:Zx}{pos:Pos}
theorem zli {acc:Array Value}{n:Nat}(h:ItemsOf (λi v=>∃t,v=Value.int (0+(i:Int)*1) t) acc n):zad ((List.range n).map λ(k:Nat)=>V.int (k:Int)) acc.toList:=by
 have main:∀(us:List Value) (a:Nat),(∀(j:Nat) (v:Value),us[j]?=some v→∃t,v=Value.int ((a+j:Nat):Int) t)→zad ((List.range' a us.length).map λ(k:Nat)=>V.int (k:Int)) us:=λus=>by
  induction us with
  | nil=>exact λ_ _=>.nil
  | cons u us ih=>
   intro a hu
   rw[VaO,List.range'_succ,Val]
   refine .cons ?_ (ih (a+1) λj v hv=>?_)
   ·obtain⟨t,e⟩:=hu 0 u rfl
    exact⟨t,by rw[e]; rfl⟩
   ·obtain⟨t,e⟩:=hu (j+1) v hv
    exact⟨t,by rw[e]; congr 2; omega⟩
 have z:=main acc.toList 0 λj v hv=>by
  obtain⟨t,e⟩:=h.2 j v (by simpa using hv)
  refine⟨t,?_⟩
  rw[e]
  congr 1
  omega
 rw[Array.length_toList,h.1,← List.range_eq_range'] at z
 exact z
theorem zkw (hc:X.calm=true):zay X (.type "list") (λxs H Q=>∃p j,xs=[.ref p]∧H p=some (.rng 0 j)∧(0≤j∧j≤1000)∧∀a,H a=none→Q (.ref a) (upd H a (.lst ((List.range j.toNat).map λ(k:Nat)=>V.int (k:Int))))):=by
 intro pins s σ H xs us Q I rv h
 obtain⟨p,j,rfl,hp,hj,q⟩:=h
 obtain⟨u,rfl,ru⟩:=zbl rv
 cases ru
 obtain⟨t,u,v,hr⟩:=(I.hok p _ hp:∃t u v,s.heap.get? p=some { cls:=.type "range",data:=.fields #[.int 0 t,.int j u,.int 1 v] })
 refine call_list_range (n:=j.toNat) (I.ok.hd hc) hr (small_one (by omega) (by omega) (by omega) (by omega)) (by rw[rangeSize_one]; split <;> omega) (by omega) λh' tk acc c keep new items=>?_
 refine⟨.ref s.heap.objs.size,_,I.laid (t':=tk) (o:=.lst ((List.range j.toNat).map λ(k:Nat)=>V.int (k:Int))) keep (Vaa _) ⟨?_,acc.toList,c,zli items,by rw[Array.toArray_toList]; exact new⟩,rfl,q _ (I.hok.fresh (Vaa _))⟩
 rw[Vab,Vat]
 exact zbr (by omega)
@[irreducible] def zf0 (ta:TDA):TDE:=λdl S Q=>ta dl S λds S1=>match ds with
 | [.int j]=>(0≤j∧j≤1000)∧Q (.ref S1.length) (S1++[.lst ((List.range j.toNat).map λ(k:Nat)=>D.int (k:Int))])
 | _=>False
theorem zhw {ta:TDA}{dl:Ev}{S S1:Sto}{Q:DK}{j:Int}(hta:∀K:List D→Sto→Prop,K [.int j] S1→ta dl S K)(hj:0≤j∧j≤1000)(hq:Q (.ref S1.length) (S1++[.lst ((List.range j.toNat).map λ(k:Nat)=>D.int (k:Int))])):zf0 ta dl S Q:=by
 unfold zf0
 exact hta _ ⟨hj,hq⟩
theorem zg1 {e:Expr}{ta:TDA}{p p2 pos2:Pos}(hc:X.calm=true)(hgl:Gl X "list")(hml:X.mg "list"=none)(hvl:bootBuiltins "list"=some (.type "list"))(hg:Gl X "range")(hm:X.mg "range"=none)(he:PDA X Z [e] ta)
  (hs:starEach [.Call (.Name "range" p) [e] [] pos2] X.env=(false,eval (.Call (.Name "range" p) [e] [] pos2) X.env)::starEach [] X.env:=by rfl)(hpl:(backTo pos (starEach [] X.env)).any (·.1)=false:=by rfl)
  (hs2:starEach [e] X.env=(false,eval e X.env)::starEach [] X.env:=by rfl)(hpl2:(backTo pos2 (starEach [] X.env)).any (·.1)=false:=by rfl):
  PD X Z (.Call (.Name "list" p2) [.Call (.Name "range" p) [e] [] pos2] [] pos) (zf0 ta):=
 zaW (zdZ (zkw hc) hgl hml hvl (zdJ (zdZ zl6 hg hm boot_range he (by decide) (by decide) hs2 hpl2) zej hs) (by decide) (by decide) hs hpl) λσ H Qv ⟨r,dl,S,Q,rs,rel,h,ret⟩=>by
  unfold zf0 at h
  refine⟨r,dl,S,_,rs,rel,h,λvs H1 r1 ds S1 e1 rel1 p1 q1=>?_⟩
  split at q1
  ·rename_i j
   obtain⟨v,vs',rfl,p2,p3⟩:=p1.uncons
   have z:=p3.unnil
   subst z
   cases p2
   obtain⟨hj,q1⟩:=q1
   refine⟨j,rfl,λb hb=>?_⟩
   refine⟨b,j,rfl,za6,hj,λc hc'=>?_⟩
   have x1:Ext r1 r1 H1 (upd H1 b (.rng 0 j)):=zed hb
   have rel2:=rel1.same (zbv (o:=.rng 0 j) hb)
   obtain⟨rel3,x⟩:=rel2.push (ds:=(List.range j.toNat).map λ(k:Nat)=>D.int (k:Int)) (xs:=(List.range j.toNat).map λ(k:Nat)=>V.int (k:Int)) hc' ⟨by simp,λi d v hd hv=>by
    rw[Vad] at hd hv
    obtain⟨k,hk,rfl⟩:=Vax.mp hd
    rw[hk] at hv
    cases hv
    exact .int _⟩
   exact ret _ _ _ (.ref S1.length) _ (e1.trans (x1.trans x)) rel3 (zbV rel1.len) q1
  ·exact q1.elim
end
def zbw (h:Heap)(N:Addr)(vs:List Value)(ks:List Int):Prop:=vs.length=ks.length∧∀(i:Nat) (v:Value) (k:Int),vs[i]?=some v→ks[i]?=some k→∃(a f:Addr) (o o':Obj) (its items:Array Value) (n m:Nat) (t:Tok),v=.ref a∧a<N∧f<N∧h.get? a=some o∧o.cls=.type "tuple"∧o.data=.seq its n∧its[0]?=some (.ref f)∧h.get? f=some o'∧o'.cls=.type "list"∧o'.data=.seq items m∧items[0]?=some (.int k t)∧∀y∈items,∃z u,y=.int z u
theorem zbw.keep {h h':Heap}{N:Addr}{vs:List Value}{ks:List Int}(k:zbw h N vs ks)(up:∀b o,b<N→h.get? b=some o→h'.get? b=some o):zbw h' N vs ks:=⟨k.1,λi v x hv hx=>by
 obtain⟨a,f,o,o',its,items,n,m,t,e,la,lf,e1,e2,e3,e4,e5,e6⟩:=k.2 i v x hv hx
 exact⟨a,f,o,o',its,items,n,m,t,e,la,lf,up a o la e1,e2,e3,e4,up f o' lf e5,e6⟩⟩
theorem zbw.tups {h:Heap}{N:Addr}:∀ {vs:List Value} {ks:List Int},zbw h N vs ks→∃fs,PySem.W.KatTups h vs fs∧fs.length=vs.length∧∀v∈fs,∃f o,v=.ref f∧h.get? f=some o∧o.cls=.type "list"
 | [],_,_=>⟨[],PySem.W.KatTups.nil,rfl,λv hv=>absurd hv (by simp)⟩
 | v::vs,[],k=>absurd k.1 (by simp)
 | v::vs,z::ks,k=>by
  obtain⟨fs,h1,h2,h3⟩:=zbw.tups (vs:=vs) (ks:=ks) ⟨by have:=k.1; simpa using this,λi v x hv hx=>k.2 (i+1) v x (by simpa using hv) (by simpa using hx)⟩
  obtain⟨a,f,o,o',its,items,n,m,t,rfl,la,lf,e1,e2,e3,e4,e5,e6,e7,e8,e9⟩:=k.2 0 v z rfl rfl
  refine⟨.ref f::fs,PySem.W.KatTups.cons e1 e2 e3 e4 h1,by simp[h2],λy hy=>?_⟩
  rcases Vam.mp hy with w | w
  ·exact⟨f,o',w,e5,e6⟩
  ·exact h3 y w
section
variable {prog:Program}{w:World}{A:Around}{E:Value→Shared→Prop}{s:Shared}
theorem zjj {f g:Addr}{o1 o2:Obj}{items items2:Array Value}{n n2:Nat}{x y:Int}{t u:Tok}(hu:A.units<cLine)(g1:s.heap.get? f=some o1)(c1:o1.cls=.type "list")(d1:o1.data=.seq items n)(g2:s.heap.get? g=some o2)(c2:o2.cls=.type "list")(d2:o2.data=.seq items2 n2)(h1:items[0]?=some (.int x t))(h2:items2[0]?=some (.int y u))(a1:∀y∈items,∃z u,y=Value.int z u)(a2:∀y∈items2,∃z u,y=Value.int z u)(ne:x≠y):SeqAt.EqAt A s (.ref f) (.ref g) false:=by
 have nf:f≠g:=λz=>by
  subst z
  rw[g1] at g2
  cases g2
  rw[d1] at d2
  cases d2
  rw[h1] at h2
  cases h2
  exact ne rfl
 have l1:s.heap.IsList f items:=⟨o1,g1,c1,n,d1⟩
 have l2:s.heap.IsList g items2:=⟨o2,g2,c2,n2,d2⟩
 refine SeqAt.EqAt.of_refs nf ?_
 by_cases sz:items.size=items2.size
 ·have q:=SeqAt.RcAt.lists (A:=A) (e:=λj=>match items[j]?,items2[j]? with | some (.int a _),some (.int b _)=>a==b | _,_=>false) l1 l2 sz hu λj k1 k2=>by
   obtain⟨z1,u1,e1⟩:=a1 items[j] (Array.getElem_mem k1)
   obtain⟨z2,u2,e2⟩:=a2 items2[j] (Array.getElem_mem k2)
   have f1:items[j]?=some (.int z1 u1):=by rw[Array.getElem?_eq_getElem k1,e1]
   have f2:items2[j]?=some (.int z2 u2):=by rw[Array.getElem?_eq_getElem k2,e2]
   rw[f1,f2,e1,e2]
   exact SeqAt.EqAt.int_int z1 u1 z2 u2
  have e:((List.range items.size).all λj=>match items[j]?,items2[j]? with | some (.int a _),some (.int b _)=>a==b | _,_=>false)=false:=by
   rw[List.all_eq_false]
   refine⟨0,Vaq.mpr (by obtain⟨h,_⟩:=Array.getElem?_eq_some_iff.mp h1; exact h),?_⟩
   rw[h1,h2]
   simp[ne]
  rw[e] at q
  exact q
 ·exact SeqAt.RcAt.lists_lengths l1 l2 (by simpa using sz) hu
theorem zjk {N:Addr}{vs:List Value}{ks:List Int}{i j:Nat}{v v':Value}{x y:Int}{Q:Bool→Shared→Prop}(hu:A.units<cLine)(hK:zbw s.heap N vs ks)(hv:vs[i]?=some v)(hx:ks[i]?=some x)(hv':vs[j]?=some v')(hy:ks[j]?=some y)(ne:x≠y)(q:Q (decide (x<y)) s):
  wpAny (model prog w) A (keyLt' (tuples' true) v v') Q E s:=by
 obtain⟨a,f,o,o',its,items,n,m,t,rfl,la,lf,e1,e2,e3,e4,e5,e6,e7,e8,e9⟩:=hK.2 i v x hv hx
 obtain⟨b,g,p,p',jts,jtems,n',m',t',rfl,lb,lg,f1,f2,f3,f4,f5,f6,f7,f8,f9⟩:=hK.2 j v' y hv' hy
 have z1:∃r,its.toList=.ref f::r:=by
  cases e:its.toList with
  | nil=>rw[← Array.getElem?_toList,e] at e4; simp at e4
  | cons c r=>rw[← Array.getElem?_toList,e] at e4; simp at e4; exact⟨r,by rw[e4]⟩
 have z2:∃r,jts.toList=.ref g::r:=by
  cases e:jts.toList with
  | nil=>rw[← Array.getElem?_toList,e] at f4; simp at f4
  | cons c r=>rw[← Array.getElem?_toList,e] at f4; simp at f4; exact⟨r,by rw[f4]⟩
 obtain⟨r1,z1⟩:=z1
 obtain⟨r2,z2⟩:=z2
 refine PySem.W.kat_lt e1 e3 f1 f3 ?_
 rw[z1,z2,List.zip_cons_cons]
 refine PySem.W.kat_cons ?_
 refine zjj hu e5 e6 e7 f5 f6 f7 e8 f8 e9 f9 ne prog w _ _ ?_
 exact PySem.W.kat_no (ziW hu e5 e6 e7 f5 f6 f7 e8 f8 ne q)
open PySem.W in
theorem zmN {N:Addr}{vs:List Value}{ks:List Int}{Q:Unit→SortSt→Shared→Prop}(hK:zbw s.heap N vs ks)(nd:ks.Nodup)(h2:2≤vs.length)(h64:vs.length<64)(hu:A.units<cLine)
  (q:∀(p:List Nat) (st:SortSt),p.Perm (List.range vs.length)→(p.map λi=>ks.getD i 0).Pairwise (·<·)→(arrOf st).map (·.2)=(p.map λi=>vs.getD i Value.none).toArray→failedOf st=none→Q () st s):
  kasC (model prog w) A E sortRuns' Q (kas_st (tuples' true) (pairsOf vs) (List.toArray (List.range vs.length))) s:=by
 have lk:=hK.1
 have unl:Unl (λi=>ks.getD i 0) (List.toArray (List.range vs.length)):=by
  unfold Unl
  have e:(List.toArray (List.range vs.length)).toList.map (λi=>ks.getD i 0)=ks:=by
   refine VaU λk=>?_
   by_cases hk:k<vs.length
   ·rw[Vad,List.getElem?_range hk,zaj (d:=0) (show k<ks.length by omega)]
    rfl
   ·rw[Vaz (by simpa using hk),Vaz (by omega)]
  rw[e]
  exact nd
 obtain⟨s1,s2⟩:=zh3 unl (show 1≤vs.length by omega)
 have sz:(kev (klt λi=>ks.getD i 0) (kas_sort vs.length)).size=vs.length:=by rw[s1.size_eq]; simp
 refine kas_runs (G:=λp s'=>s'=s∧p=kev (klt λi=>ks.getD i 0) (kas_sort vs.length)) h2 h64 (λp' st' s' a1 a2 a3 a4=>?_) (zf4 (n:=vs.length) (lt:=klt λi=>ks.getD i 0) (λi j C hi hj ne hc=>?_) _ (zha (by omega)) ⟨rfl,rfl⟩)
 ·obtain⟨rfl,rfl⟩:=a4
  refine q (kev (klt λi=>ks.getD i 0) (kas_sort vs.length)).toList st' (by simpa using Array.perm_iff_toList_perm.mp s1) ?_ ?_ a3
  ·rw[VaP,List.pairwise_iff_getElem]
   intro i j hi hj hij
   have z:=s2 i j hij (by rw[Array.length_toList] at hj; omega)
   unfold kk at z
   rw[zer _ i hi,zer _ j hj] at z
   exact z
  ·rw[a2]
   apply Array.toList_inj.mp
   rw[Array.map_map,Array.toList_map]
   exact VaI λi _=>by show (kas_item (pairsOf vs) i).2=_; rw[kas_item_eq]
 ·have hv:=zaj (d:=Value.none) hi
  have hw:=zaj (d:=Value.none) hj
  have hx:=zaj (d:=(0:Int)) (show i<ks.length by omega)
  have hy:=zaj (d:=(0:Int)) (show j<ks.length by omega)
  show wpAny (model prog w) A (keyLt' (tuples' true) (kas_item (pairsOf vs) i).1 (kas_item (pairsOf vs) j).1) C (λ_ _=>False) s
  rw[kas_item_eq,kas_item_eq]
  dsimp only
  exact zjk hu hK hv hx hw hy (λz=>ne (zhZ nd hx hy z)) hc
open PySem.W in
theorem zmt {a N:Addr}{vs:List Value}{ks:List Int}{n:Nat}{P:PySem.Fin→Shared→Prop}(ho:s.heap.get? a=some (seqObj "list" vs.toArray n))(hK:zbw s.heap N vs ks)(own:N≤a)(nd:ks.Nodup)(h64:vs.length<64)(hu:A.units<cLine)
  (h:∀p:List Nat,p.Perm (List.range vs.length)→(p.map λi=>ks.getD i 0).Pairwise (·<·)→P (.done (.ret .none)) { s with heap:=sortedHeap s.heap a vs (p.map λi=>vs.getD i Value.none).toArray }):
  wpAny (model prog w) A (Builtin.«list.sort» ⟨[.ref a],[]⟩) P E s:=by
 obtain⟨e1,ho1,mine⟩:=zhv ho
 have K6:zbw (zbx s.heap a vs) N vs ks:=hK.keep λb o hb e=>zhe (Vai (Vas hb own)) e
 have hsz:vs.toArray.size=vs.length:=Vaf ..
 have lim:vs.toArray.size≤sizeLine:=by rw[hsz,sizeLine_eq]; omega
 rw[list_sort_plain]
 refine wpAny_bind (listItems_at ho rfl ?_)
 refine wpAny_bind (listUpdate_at ho rfl ?_ lim (Vaj _))
 refine wpAny_bind (seqEpoch_at ho1 rfl ?_)
 refine wpAny_bind (wpAny_newTuple ?_ (by show vs.length≤_; rw[sizeLine_eq]; omega))
 refine wpAny_bind (wpAny_newList ?_ (Vaj _))
 refine wpAny_holding ?_
 show wpAny (model prog w) A _ P E { s with heap:=zbx s.heap a vs }
 dsimp only
 by_cases h2:vs.toArray.size<2
 ·rw[if_pos h2,if_pos h2]
  refine wpAny_bind (wpAny_pure ?_)
  rw[StateT.run_pure]
  refine wpAny_bind (wpAny_pure ?_)
  dsimp only
  refine wpAny_bind (seqEpoch_at mine rfl ?_)
  have es:(arrOf (SortSt.mk' general' (vs.toArray.zip vs.toArray) #[] 7 none)).map (·.2)=((List.range vs.length).map λi=>vs.getD i Value.none).toArray:=by
   show (vs.toArray.zip vs.toArray).map (·.2)=_
   apply Array.toList_inj.mp
   rw[Array.toList_map,Array.toList_zip]
   show (List.zip vs vs).map (·.2)=_
   rw[List.map_snd_zip (Vaa _)]
   refine VaU λk=>?_
   by_cases hk:k<vs.length
   ·rw[Vad,List.getElem?_range hk,zaj (d:=Value.none) hk]
    rfl
   ·rw[Vaz (by omega),Vaz (by simpa using hk)]
  rw[es]
  refine wpAny_bind (listUpdate_at mine rfl ?_ (Vaj _) (by show ((List.range vs.length).map λi=>vs.getD i Value.none).toArray.size≤_; rw[Vaf,Vab,Vat,sizeLine_eq]; omega))
  simp only[bne_self_eq_false,Bool.false_eq_true,if_false]
  refine wpAny_pure (h (List.range vs.length) (List.Perm.refl _) ?_)
  rw[hsz] at h2
  obtain z | z:vs.length=0∨vs.length=1:=by omega
  ·rw[z]
   simp
  ·rw[z]
   simp[List.range_succ]
 ·rw[if_neg h2,if_neg h2]
  obtain⟨fs,t1,t2,t3⟩:=K6.tups
  refine wpAny_bind (kat_kind (T:=.type "list") (fs:=fs) t1 (by omega) (λv hv=>?_) rfl ?_)
  ·obtain⟨f,o,rfl,g1,c1⟩:=t3 v hv
   rw[← c1]
   exact(Looks.ld g1).andThen .now
  rw[show (Value.type "list" != Value.type "tuple")=true from rfl]
  have est:SortSt.mk' (tuples' true) (vs.toArray.zip vs.toArray) #[] 7 none=kas_st (tuples' true) (pairsOf vs) (List.toArray (List.range vs.length)):=by
   have e:=kas_range (pairsOf vs)
   rw[pairsOf_size] at e
   show SortSt.mk' (tuples' true) (pairsOf vs) #[] 7 none=SortSt.mk' (tuples' true) ((List.toArray (List.range vs.length)).map (kas_item (pairsOf vs))) #[] 7 none
   rw[e]
  rw[est]
  have run:=zmN (prog:=prog) (w:=w) (A:=A) (E:=E) (s:={ s with heap:=zbx s.heap a vs }) (Q:=λ_ st s'=>s'={ s with heap:=zbx s.heap a vs }∧∃p:List Nat,p.Perm (List.range vs.length)∧(p.map λi=>ks.getD i 0).Pairwise (·<·)∧(arrOf st).map (·.2)=(p.map λi=>vs.getD i Value.none).toArray∧failedOf st=none) K6 nd (by omega) h64 hu λp st pp sp e hf=>⟨rfl,p,pp,sp,e,hf⟩
  refine wpAny_bind (wpAny_mono run ?_ λ_ _ e=>e)
  rintro⟨⟨⟩,st⟩ s' ⟨rfl,p,pp,sp,e,hf⟩
  dsimp only
  refine wpAny_bind (seqEpoch_at mine rfl ?_)
  rw[e]
  refine wpAny_bind (listUpdate_at mine rfl ?_ (Vaj _) (by show (p.map λi=>vs.getD i Value.none).toArray.size≤_; rw[Vaf,Vab,pp.length_eq,Vat,sizeLine_eq]; omega))
  rw[hf]
  simp only[bne_self_eq_false,Bool.false_eq_true,if_false]
  exact wpAny_pure (h p pp sp)
end
section
variable {prog:Program}{w:World}{A:Around}{E:Value→Shared→Prop}{s:Shared}
theorem zmw {l:Addr}{vs:List Value}{ks:List Int}{Q:Value→Shared→Prop}(hl:s.heap.IsList l vs.toArray)(hK:zbw s.heap s.heap.objs.size vs ks)(nd:ks.Nodup)(h64:vs.length<64)(hu:A.units+2<cLine)
  (h:∀p:List Nat,p.Perm (List.range vs.length)→(p.map λi=>ks.getD i 0).Pairwise (·<·)→Q (.ref (s.heap.objs.size+1)) { s with heap:=sortedAll s.heap vs (p.map λi=>vs.getD i Value.none).toArray }):
  wpAny (model prog w) A (call (.builtin "sorted") [.ref l]) Q E s:=by
 refine Calls.call_function_entry kind_sorted plain_sorted entry_sorted (args_sorted1 _) ?_
 unfold Builtin.«sorted»
 refine wpAny_bind (m:=checkCount "sorted" 1 1 _) (wpAny_pure ?_)
 refine wpAny_bind (collect_list hl ?_ (by rw[sizeLine_eq]; omega))
 refine wpAny_bind (wpAny_newList ?_ (by rw[sizeLine_eq]; omega))
 have hsz:((s.heap.push (seqObj "list" #[] 0)).update s.heap.objs.size (Obj.mapSeq (·++vs.toArray))).objs.size=s.heap.objs.size+1:=by rw[Heap.size_update,size_push']
 have hoL:(((s.heap.push (seqObj "list" #[] 0)).update s.heap.objs.size (Obj.mapSeq (·++vs.toArray))).push (seqObj "list" vs.toArray 0)).get? (s.heap.objs.size+1)=some (seqObj "list" vs.toArray 0):=by
  rw[← hsz]
  exact Heap.get?_push_size _ rfl
 have keep:∀b o,s.heap.get? b=some o→(((s.heap.push (seqObj "list" #[] 0)).update s.heap.objs.size (Obj.mapSeq (·++vs.toArray))).push (seqObj "list" vs.toArray 0)).get? b=some o:=λb o q=>by
  have lb:=Heap.lt_size q
  rw[Heap.get?_push_ne _ _ _ (by rw[hsz]; exact Vai (Nat.lt_succ_of_lt lb)),Heap.get?_update_ne _ _ _ _ (Vai lb),Heap.get?_push_ne _ _ _ (Vai lb)]
  exact q
 show wpAny _ _ _ _ _ { s with heap:=((s.heap.push (seqObj "list" #[] 0)).update s.heap.objs.size (Obj.mapSeq (·++vs.toArray))).push (seqObj "list" vs.toArray 0) }
 rw[hsz]
 refine wpAny_bind (wpAny_holding (wpAny_call_entry slot_list_sort ⟨_,hoL,rfl⟩ entry_list_sort (zmt hoL (hK.keep λb o _ e=>keep b o e) (VaN _) nd h64 (by show A.units+1+1<cLine; omega) λp pp sp=>⟨_,rfl,?_⟩) (args_list_sort _)))
 exact wpAny_pure ⟨_,rfl,h p pp sp⟩
end
section
variable {X:Cx}{Z:Zx}{pos:Pos}
def zfD:WC:=λds S Q=>match ds with
 | [.ref n]=>∃(es:List D) (zs:List Int),S[n]?=some (.lst es)∧es.length=zs.length∧(∀(i:Nat) (e:D) (z:Int),es[i]?=some e→zs[i]?=some z→∃(a:Nat) (b:D) (xs:List Int),e=.tup [.ref a,b]∧S[a]?=some (.lst ((z::xs).map D.int)))∧zs.Nodup∧es.length<64∧∀p:List Nat,p.Perm (List.range es.length)→(p.map λi=>zs.getD i 0).Pairwise (·<·)→Q (.ref S.length) (S++[.lst (p.map λi=>es.getD i .non)])
 | _=>False
theorem zid {j:Nat}(hr:zat j X.A):zay X (.builtin "sorted") (upC X.K Z zfD):=by
 have hun:=hr.un
 intro pins s σ H xs us Qv I rv h
 obtain⟨r,S,ds,Q,rel,ps,q,ret⟩:=h
 unfold zfD at q
 split at q
 ·rename_i n
  obtain⟨v,vs,rfl,p1,p2⟩:=ps.uncons
  have z:=p2.unnil
  subst z
  obtain⟨es,zs,hn,ll,hk,nd,h64,q⟩:=q
  cases p1 with
  | ref h1=>
   obtain⟨a,ha,ob⟩:=rel.at hn
   rw[h1] at ha; cases ha
   obtain⟨ys,sq,pr⟩:=ob.list rfl
   obtain⟨u,rfl,ru⟩:=zbl rv
   cases ru
   obtain⟨its,ri,pl,hz⟩:=I.list sq
   have li:its.length=es.length:=by rw[← ri.length,← pr.1]; rfl
   have K0:zbw s.heap s.heap.objs.size its zs:=⟨by omega,λi v k hv hx=>by
    have hi:i<es.length:=by have:=(Vac.mp hv).1; omega
    obtain⟨b,b2,xs,eb,hb⟩:=hk i _ k (zaj (d:=.non) hi) hx
    obtain⟨y,hy,py⟩:=pr.get (show es[i]?=some (es.getD i .non) from zaj hi)
    obtain⟨u,hu,ru⟩:=ri.get hy
    rw[hv] at hu
    cases hu
    rw[eb] at py
    cases py with
    | @tup _ ws p hp lw fw=>
     cases ru
     obtain⟨jts,rj,⟨oj,gj,cj,nj,dj⟩,_⟩:=zcJ I hp
     obtain⟨w0,gw0,pw0⟩:=Rps.get ⟨lw,fw⟩ (show ([.ref b,b2]:List D)[0]?=some (.ref b) from rfl)
     obtain⟨v0,gv0,rv0⟩:=rj.get gw0
     cases pw0 with
     | @ref _ p0 hp0=>
      cases rv0
      obtain⟨p',hp',ob'⟩:=rel.at hb
      rw[hp0] at hp'; cases hp'
      obtain⟨ys',sq',pr'⟩:=ob'.list rfl
      obtain⟨its',ri',pl',_⟩:=I.list sq'
      have every:∀(q:Nat) (z:Int),(k::xs)[q]?=some z→∃t,its'[q]?=some (.int z t):=λq z hz=>by
       obtain⟨y0,hy0,py0⟩:=pr'.get (show (zac (.lst ((k::xs).map D.int)))[q]?=some (.int z) by show ((k::xs).map D.int)[q]?=_; rw[Vad,hz]; rfl)
       cases py0
       obtain⟨u0,hu0,t,et⟩:=ri'.get hy0
       exact⟨t,by rw[hu0,et]⟩
      have len':its'.length=(k::xs).length:=by rw[← ri'.length,← pr'.1]; show ((k::xs).map D.int).length=_; rw[Vab]
      obtain⟨t,et⟩:=every 0 k rfl
      obtain⟨o,ho,hc,m,hd⟩:=pl'.isList
      refine⟨p,p0,oj,o,jts.toArray,its'.toArray,nj,m,t,rfl,Heap.lt_size gj,Heap.lt_size ho,gj,cj,dj,by simpa using gv0,ho,hc,hd,by simpa using et,λy hy=>?_⟩
      obtain⟨q,hq⟩:=Va6.mp (show y∈its' by simpa using hy)
      have lq:q<(k::xs).length:=by have:=(Vac.mp hq).1; omega
      obtain⟨t2,e2⟩:=every q _ (Vae lq)
      rw[hq] at e2
      exact⟨_,t2,Option.some.inj e2⟩⟩
   refine zmw pl.isList K0 nd (by omega) (by omega) λp pp sp=>?_
   have hp:∀i∈p,i<es.length:=λi hi=>by
    have:=Vaq.mp (pp.mem_iff.mp hi)
    omega
   obtain⟨e,he⟩:=sortedAll_at s.heap its (p.map λi=>its.getD i Value.none).toArray
   have hf:H (s.heap.objs.size+1)=none:=I.hok.fresh (VaN _)
   obtain⟨rel2,x⟩:=rel.push (ds:=p.map λi=>es.getD i .non) (xs:=p.map λi=>ys.getD i .non) hf (zhn pr p hp)
   refine⟨.ref (s.heap.objs.size+1),_,I.laid (t':=s.toks) (λb o e=>sortedAll_old e) (VaN _) (show za3 X.prog X.w _ _ _ (.lst (p.map λi=>ys.getD i .non)) from ⟨?_,p.map (λi=>its.getD i Value.none),e,zgT ri p (λi hi=>by rw[← pr.1]; exact hp i hi),he⟩),rfl,ret _ _ _ (.ref S.length) _ x rel2 (zbV rel.len) (q p (by rw[← li]; exact pp) sp)⟩
   rw[Vab,pp.length_eq,Vat]
   exact zbr (by omega)
  | _=>exact(show False from q).elim
 ·exact q.elim
theorem zlY {n:Nat}{S:Sto}{Q:DK}{es:List D}{zs:List Int}(hn:S[n]?=some (.lst es))(ll:es.length=zs.length)(hk:∀(i:Nat) (e:D) (z:Int),es[i]?=some e→zs[i]?=some z→∃(a:Nat) (b:D) (xs:List Int),e=.tup [.ref a,b]∧S[a]?=some (.lst ((z::xs).map D.int)))(nd:zs.Nodup)(h64:es.length<64)(q:∀p:List Nat,p.Perm (List.range es.length)→(p.map λi=>zs.getD i 0).Pairwise (·<·)→Q (.ref S.length) (S++[.lst (p.map λi=>es.getD i .non)])):irr zfD [.ref n] S Q:=by
 rw[zcB]
 exact⟨es,zs,hn,ll,hk,nd,h64,q⟩
end
theorem zl9 (p q:Int×Int):(za0 p q).isSome=(za0 q p).isSome:=by
 unfold za0
 (repeat' split) <;> first | rfl | (exfalso; omega)
theorem zhz:∀us vs:List (Int×Int),zaY us vs=zaY vs us
 | [],[]=>rfl
 | [],_::_=>rfl
 | _::_,[]=>rfl
 | p::us,q::vs=>by
  have z:=zhz us vs
  unfold zaY at z ⊢
  rw[List.zipWith_cons_cons,List.zipWith_cons_cons,List.all_cons,List.all_cons,zl9 p q,z]
theorem zcu (B:List (List (Int×Int)))(i j:Nat):TB B i j=TB B j i:=zhz _ _
def zaK (P:List Int)(b:List (Int×Int)):Bool:=(List.range b.length).all λk=>decide (3*(b.getD k (0,0)).1≤P.getD k 0∧P.getD k 0≤3*(b.getD k (0,0)).2)
theorem zcw {P:List Int}{b:List (Int×Int)}:zaK P b=true↔∀k,k<b.length→3*(b.getD k (0,0)).1≤P.getD k 0∧P.getD k 0≤3*(b.getD k (0,0)).2:=by
 unfold zaK
 rw[List.all_eq_true]
 exact⟨λh k hk=>of_decide_eq_true (h k (Vaq.mpr hk)),λh k hk=>decide_eq_true (h k (Vaq.mp hk))⟩
theorem zfi {us:List (Int×Int)}{k:Nat}{p:Int×Int}(h:us[k]?=some p):us.getD k (0,0)=p:=by
 rw[Vak,h]
 rfl
theorem zjW {P:List Int}{us vs:List (Int×Int)}(hu:∀p∈us,p.1≤p.2)(hv:∀p∈vs,p.1≤p.2)(l:us.length=vs.length)(h1:zaK P us=true)(h2:zaK P vs=true):zaY us vs=true:=by
 refine(zhh hu hv).mpr λk p q hp hq=>?_
 have lk:=(Vac.mp hp).1
 have a:=zcw.mp h1 k lk
 have b:=zcw.mp h2 k (by omega)
 rw[zfi hp] at a
 rw[zfi hq] at b
 omega
theorem zjJ {q:Nat}{P:List Int}{bs:List (List (Int×Int))}{b:List (Int×Int)}(hq:∀b∈bs,b.length=q)(hb:b∈bs)(h:zaK P b=true):zaK P (zaV bs)=true:=by
 obtain⟨l,hu⟩:=zfQ (q:=q) (λe=>by rw[e] at hb; exact absurd hb (by simp)) hq
 refine zcw.mpr λk hk=>?_
 have u:=hu k (by omega)
 have a:=zcw.mp h k (by rw[hq b hb]; omega)
 have c:=u.ll b hb
 have d:=u.hl b hb
 omega
theorem zlT {xs:List Nat}(nd:xs.Nodup){v:Nat}(hv:v∈xs)(p:Nat→Bool)(hp:∀x∈xs,p x=true↔x=v):(xs.filter p).length=1:=by
 have z:(xs.filter p).Perm [v]:=(List.perm_ext_iff_of_nodup (nd.filter _) (by simp)).mpr λx=>by
  rw[VaK,VaD]
  exact⟨λh=>(hp x h.1).mp h.2,λh=>by rw[h]; exact⟨hv,(hp v hv).mpr rfl⟩⟩
 rw[z.length_eq]
 rfl
theorem zmq {q:Nat}{B:List (List (Int×Int))}(hB:∀b∈B,b.length=q∧∀p∈b,p.1≤p.2){P:List Int}{i:Nat}(hi:i<B.length)(hw:zaK P (B.getD i [])=true):((zaf (zaa (TB B) B.length)).filter λv=>(cls (zaa (TB B) B.length) v).any λj=>zaK P (B.getD j [])).length=1:=by
 have ml:=zaD (TB B) B.length
 have mo:=zbc (TB B) B.length
 have inb:∀j,j<B.length→B.getD j []∈B:=λj hj=>by rw[Vak,Vae hj]; exact VaC ..
 refine zlT (zca _) (v:=(zaa (TB B) B.length).getD i 0) (zaZ.mpr ⟨by have:=mo.le i (by omega); omega,mo.id i (by omega)⟩) _ λv hv=>?_
 rw[Va2]
 constructor
 ·rintro⟨j,hj,w⟩
  obtain⟨j1,j2⟩:=zao.mp hj
  have bj:=hB _ (inb j (by omega))
  have bi:=hB _ (inb i hi)
  rw[← j2]
  exact ze4 (zcu B) B.length j i (by omega) hi (zjW bj.2 bi.2 (by rw[bj.1,bi.1]) w hw)
 ·intro e
  exact⟨i,zao.mpr ⟨by omega,e.symm⟩,hw⟩
theorem zl8 (M:List Nat):(zaf M).Pairwise (·<·):=(Va4).filter _
theorem zhI (M:List Nat)(v:Nat):(cls M v).Pairwise (·<·):=(Va4).filter _
theorem zgd {M:List Nat}(h:MOk M):((zaf M).map (cls M)).flatten.Perm (List.range M.length):=by
 refine zde ?_ List.nodup_range λx=>?_
 ·unfold List.Nodup
  rw[List.pairwise_flatten]
  refine⟨λg hg=>?_,?_⟩
  ·obtain⟨v,_,rfl⟩:=Vah.mp hg
   exact zdf M v
  ·rw[VaP]
   refine(zca M).imp λ{a b} ne x hx y hy e=>?_
   subst e
   exact ne ((zao.mp hx).2.symm.trans (zao.mp hy).2)
 ·rw[List.mem_flatten,Vaq]
  constructor
  ·rintro⟨g,hg,hx⟩
   obtain⟨v,_,rfl⟩:=Vah.mp hg
   exact(zao.mp hx).1
  ·intro hx
   exact⟨cls M (M.getD x 0),Vah.mpr ⟨_,zaZ.mpr ⟨by have:=h.le x hx; omega,h.id x hx⟩,rfl⟩,zao.mpr ⟨hx,rfl⟩⟩
theorem zeY {xs ys:List Nat}(h:xs.Perm ys)(h1:xs.Pairwise (·≤·))(h2:ys.Pairwise (·<·)):xs=ys:=List.Perm.eq_of_pairwise (le:=λa b=>a≤b) (λa b _ _ h1 h2=>Nat.le_antisymm h1 h2) h1 (h2.imp VaG) h
section
variable {B:List (List (Int×Int))}{o:List Nat}
abbrev zak (B:List (List (Int×Int)))(o:List Nat):List (List (Int×Int)):=o.map λi=>B.getD i []
theorem zcd (ho:o.Perm (List.range B.length)){a:Nat}(ha:a<B.length):o.getD a 0<B.length:=by
 have l:o.length=B.length:=by rw[ho.length_eq,Vat]
 exact Vaq.mp (ho.mem_iff.mp (Vag (zaj (d:=0) (show a<o.length by omega))))
theorem zg0 (ho:o.Perm (List.range B.length)){a b:Nat}(ha:a<B.length)(hb:b<B.length)(e:o.getD a 0=o.getD b 0):a=b:=by
 have l:o.length=B.length:=by rw[ho.length_eq,Vat]
 have nd:o.Nodup:=ho.nodup_iff.mpr List.nodup_range
 have ea:=zaj (d:=0) (show a<o.length by omega)
 have eb:=zaj (d:=0) (show b<o.length by omega)
 rw[e] at ea
 exact(List.getElem?_inj (by omega) nd).mp (ea.trans eb.symm)
theorem zgU (ho:o.Perm (List.range B.length)){i:Nat}(hi:i<B.length):∃a,a<B.length∧o.getD a 0=i:=by
 have l:o.length=B.length:=by rw[ho.length_eq,Vat]
 obtain⟨a,ha⟩:=Va6.mp (ho.mem_iff.mpr (Vaq.mpr hi))
 exact⟨a,by have:=(Vac.mp ha).1; omega,by rw[Vak,ha]; rfl⟩
theorem zee (ho:o.Perm (List.range B.length)){a:Nat}(ha:a<B.length):(zak B o).getD a []=B.getD (o.getD a 0) []:=by
 have l:o.length=B.length:=by rw[ho.length_eq,Vat]
 rw[Vak,Vad,zaj (d:=0) (show a<o.length by omega)]
 rfl
theorem zhP (ho:o.Perm (List.range B.length)){a b:Nat}(ha:a<B.length)(hb:b<B.length):TB (zak B o) a b=TB B (o.getD a 0) (o.getD b 0):=by
 unfold TB
 rw[zee ho ha,zee ho hb]
theorem zjS (ho:o.Perm (List.range B.length)){a b:Nat}(h:Con (TB (zak B o)) B.length a b):Con (TB B) B.length (o.getD a 0) (o.getD b 0):=by
 induction h with
 | refl=>exact .refl _
 | step _ x y t ih=>exact .step ih (zcd ho x) (zcd ho y) (by rw[← zhP ho x y]; exact t)
theorem zjl (ho:o.Perm (List.range B.length)){a j:Nat}(ha:a<B.length)(h:Con (TB B) B.length (o.getD a 0) j):∃b,b<B.length∧o.getD b 0=j∧Con (TB (zak B o)) B.length a b:=by
 generalize e:o.getD a 0=i at h
 induction h with
 | refl=>exact⟨a,ha,e,.refl _⟩
 | step _ x y t ih=>
  obtain⟨b,b1,b2,b3⟩:=ih
  obtain⟨c,c1,c2⟩:=zgU ho y
  exact⟨c,c1,c2,.step b3 b1 c1 (by rw[zhP ho b1 c1,b2,c2]; exact t)⟩
theorem zm1 (ho:o.Perm (List.range B.length)):(zak B o).length=B.length:=by rw[Vab,ho.length_eq,Vat]
theorem ze2 (ho:o.Perm (List.range B.length)){a b:Nat}(ha:a<B.length)(hb:b<B.length):(zaa (TB (zak B o)) B.length).getD a 0=(zaa (TB (zak B o)) B.length).getD b 0↔(zaa (TB B) B.length).getD (o.getD a 0) 0=(zaa (TB B) B.length).getD (o.getD b 0) 0:=by
 constructor
 ·intro e
  exact(zgj (zcu B) (zcd ho ha) (zjS ho (zdt (zcu _) _ a b ha hb e))).2
 ·intro e
  obtain⟨c,c1,c2,c3⟩:=zjl ho ha (zdt (zcu B) _ _ _ (zcd ho ha) (zcd ho hb) e)
  rw[← zg0 ho c1 hb c2]
  exact(zgj (zcu _) ha c3).2
abbrev rOf (B:List (List (Int×Int)))(o:List Nat)(v:Nat):Nat:=(zaa (TB B) B.length).getD (o.getD v 0) 0
theorem zhS (ho:o.Perm (List.range B.length)){v:Nat}(hv:v∈zaf (zaa (TB (zak B o)) B.length)):((cls (zaa (TB (zak B o)) B.length) v).map λa=>o.getD a 0).Perm (cls (zaa (TB B) B.length) (rOf B o v)):=by
 have ml:=zaD (TB B) B.length
 have ml':=zaD (TB (zak B o)) B.length
 obtain⟨v1,v2⟩:=zaZ.mp hv
 refine zde ?_ (zdf _ _) λx=>?_
 ·unfold List.Nodup
  rw[VaP]
  refine(zdf _ v).imp_of_mem λ{a b} ha hb ne e=>ne (zg0 ho ?_ ?_ e)
  ·have:=(zao.mp ha).1; omega
  ·have:=(zao.mp hb).1; omega
 ·rw[Vah]
  constructor
  ·rintro⟨a,ha,rfl⟩
   obtain⟨a1,a2⟩:=zao.mp ha
   refine zao.mpr ⟨by have:=zcd ho (show a<B.length by omega); omega,?_⟩
   exact(ze2 ho (by omega) (by omega)).mp (by rw[a2,v2])
  ·intro hx
   obtain⟨x1,x2⟩:=zao.mp hx
   obtain⟨a,a1,rfl⟩:=zgU ho (show x<B.length by omega)
   refine⟨a,zao.mpr ⟨by omega,?_⟩,rfl⟩
   have z:=(ze2 ho (a:=a) (b:=v) a1 (by omega)).mpr x2
   rw[z,v2]
theorem zld {q:Nat}{bs cs:List (List (Int×Int))}(hb:∀b∈bs,b.length=q)(ne:bs≠[])(h:∀b,b∈bs↔b∈cs):zaV bs=zaV cs:=by
 have ne2:cs≠[]:=λe=>by
  cases bs with
  | nil=>exact ne rfl
  | cons b bs=>exact absurd ((h b).mp (by simp)) (by rw[e]; simp)
 obtain⟨l1,u1⟩:=zfQ ne hb
 obtain⟨l2,u2⟩:=zfQ (q:=q) ne2 λc hc=>hb c ((h c).mpr hc)
 refine VaU λk=>?_
 by_cases hk:k<q
 ·have w:zcK k bs ((zaV cs).getD k (0,0)):=by
   have z:=u2 k hk
   obtain⟨b1,m1,e1⟩:=z.lo
   obtain⟨b2,m2,e2⟩:=z.hi
   exact⟨⟨b1,(h _).mpr m1,e1⟩,λb hb=>z.ll b ((h b).mp hb),⟨b2,(h _).mpr m2,e2⟩,λb hb=>z.hl b ((h b).mp hb)⟩
  rw[zaj (d:=((0,0):Int×Int)) (show k<(zaV bs).length by omega),zaj (d:=((0,0):Int×Int)) (show k<(zaV cs).length by omega),(u1 k hk).same w]
 ·rw[Vaz (by omega),Vaz (by omega)]
def zbH (B:List (List (Int×Int)))(v:Nat):List Nat×List (Int×Int):=(cls (zaa (TB B) B.length) v,zaV ((cls (zaa (TB B) B.length) v).map λi=>B.getD i []))
theorem zcY (B:List (List (Int×Int))):zaM B=(zaf (zaa (TB B) B.length)).map (zbH B):=rfl
theorem zj2 {q:Nat}(hB:∀b∈B,b.length=q)(ho:o.Perm (List.range B.length)){v:Nat}(hv:v∈zaf (zaa (TB (zak B o)) B.length)):zaV ((cls (zaa (TB (zak B o)) B.length) v).map λi=>(zak B o).getD i [])=(zbH B (rOf B o v)).2:=by
 have ml:=zaD (TB B) B.length
 have ml':=zaD (TB (zak B o)) B.length
 have inb:∀j,j<B.length→B.getD j []∈B:=λj hj=>by rw[Vak,Vae hj]; exact VaC ..
 have pm:=zhS ho hv
 refine zld (q:=q) (λb hb=>?_) (λe=>?_) λb=>?_
 ·obtain⟨a,ha,rfl⟩:=Vah.mp hb
  have la:a<B.length:=by have:=(zao.mp ha).1; omega
  rw[zee ho la]
  exact hB _ (inb _ (zcd ho la))
 ·obtain⟨xs,e2⟩:=zcb (zbc _ _) hv
  rw[e2] at e
  simp at e
 ·constructor
  ·intro hb
   obtain⟨a,ha,rfl⟩:=Vah.mp hb
   have la:a<B.length:=by have:=(zao.mp ha).1; omega
   rw[zee ho la]
   exact Vah.mpr ⟨_,pm.mem_iff.mp (Vah.mpr ⟨a,ha,rfl⟩),rfl⟩
  ·intro hb
   obtain⟨i,hi,rfl⟩:=Vah.mp hb
   obtain⟨a,ha,rfl⟩:=Vah.mp (pm.mem_iff.mpr hi)
   have la:a<B.length:=by have:=(zao.mp ha).1; omega
   rw[← zee ho la]
   exact Vah.mpr ⟨a,ha,rfl⟩
theorem zmc (ho:o.Perm (List.range B.length)):((zaf (zaa (TB (zak B o)) B.length)).map (rOf B o)).Perm (zaf (zaa (TB B) B.length)):=by
 have ml:=zaD (TB B) B.length
 have ml':=zaD (TB (zak B o)) B.length
 have mo:=zbc (TB B) B.length
 have mo':=zbc (TB (zak B o)) B.length
 refine zde ?_ (zca _) λx=>?_
 ·unfold List.Nodup
  rw[VaP]
  refine(zca _).imp_of_mem λ{a b} ha hb ne e=>ne ?_
  obtain⟨a1,a2⟩:=zaZ.mp ha
  obtain⟨b1,b2⟩:=zaZ.mp hb
  have z:=(ze2 ho (a:=a) (b:=b) (by omega) (by omega)).mpr e
  rw[a2,b2] at z
  exact z
 ·rw[Vah]
  constructor
  ·rintro⟨v,hv,rfl⟩
   obtain⟨v1,_⟩:=zaZ.mp hv
   have lo:=zcd ho (show v<B.length by omega)
   exact zaZ.mpr ⟨by have:=mo.le (o.getD v 0) (by omega); show (zaa (TB B) B.length).getD (o.getD v 0) 0<_; omega,mo.id _ (by omega)⟩
  ·intro hx
   obtain⟨x1,x2⟩:=zaZ.mp hx
   obtain⟨a,a1,e⟩:=zgU ho (show x<B.length by omega)
   have lm:(zaa (TB (zak B o)) B.length).getD a 0<B.length:=by have:=mo'.le a (by omega); omega
   refine⟨(zaa (TB (zak B o)) B.length).getD a 0,zaZ.mpr ⟨by omega,mo'.id a (by omega)⟩,?_⟩
   have z:=(ze2 ho (a:=(zaa (TB (zak B o)) B.length).getD a 0) (b:=a) lm a1).mp (mo'.id a (by omega))
   show (zaa (TB B) B.length).getD (o.getD _ 0) 0=x
   rw[z,e,x2]
end
theorem zll {R V:List Nat}{p:List Nat}(hR:R.Perm V)(hV:V.Pairwise (·<·))(pp:p.Perm (List.range R.length))(sp:(p.map λi=>(R.map λ(x:Nat)=>(x:Int)).getD i 0).Pairwise (·<·)):(p.map λi=>R.getD i 0)=V:=by
 refine zeY ((zh9 pp).trans hR) ?_ hV
 rw[VaP] at sp ⊢
 refine sp.imp_of_mem λ{x y} hx hy hxy=>?_
 have gx:=zaj (d:=0) (show x<R.length from Vaq.mp (pp.mem_iff.mp hx))
 have gy:=zaj (d:=0) (show y<R.length from Vaq.mp (pp.mem_iff.mp hy))
 have e1:(R.map λ(x:Nat)=>(x:Int)).getD x 0=((R.getD x 0:Nat):Int):=by
  conv=>lhs; rw[Vak,Vad,gx]
  rfl
 have e2:(R.map λ(x:Nat)=>(x:Int)).getD y 0=((R.getD y 0:Nat):Int):=by
  conv=>lhs; rw[Vak,Vad,gy]
  rfl
 rw[e1,e2] at hxy
 omega
theorem zlJ {caps:List Nat}{ta:TDA}{te:TDE}{dl:Ev}{S S1:Sto}{Q:DK}{n:Nat}{xs:List D}(g:Nat→D→D)(hta:∀K:List D→Sto→Prop,K [.ref n] S1→ta dl S K)(h1:S1[n]?=some (.lst xs))(hl:xs.length≤1000)
  (ht:∀(k:Nat) (x:D),xs[k]?=some x→∀(S2:Sto) (K:DK),Pre S1 S2→K (g k x) S2→te (some (.int (k:Int))::some x::zbj caps dl) S2 K)(hq:Q (.ref S1.length) (S1++[.lst (xs.mapIdx g)])):zd5 caps ta te dl S Q:=by
 unfold zd5
 refine hta _ ⟨by rw[zaq h1 rfl]; rfl,λk m S2=>S2=S1++[.lst ((xs.take k).mapIdx g)]∧m+k=xs.length,⟨xs.length,by simp,by omega⟩,?_⟩
 rintro k m S2 ⟨rfl,hm⟩
 rw[zaq (zfq h1) rfl]
 dsimp only[zac]
 split
 ·rename_i x hx
  have hk:k<xs.length:=(Vac.mp hx).1
  unfold zcH
  refine ht k x hx _ _ Pre.refl.push ?_
  rw[zal]
  refine⟨by simp; omega,m-1,by omega,?_,by omega⟩
  have e:xs.take (k+1)=xs.take k++[x]:=by rw[List.take_succ,hx]; rfl
  rw[e,List.mapIdx_append,List.set_append_right _ _ (Vaa _)]
  have l:(xs.take k).length=k:=by rw[VaJ]; omega
  simp[l]
 ·rename_i hx
  have hk:xs.length≤k:=VaH.mp hx
  refine⟨by omega,?_⟩
  rw[Vaw hk]
  exact hq
theorem zgO {is:List Nat}{n:Nat}{tl:TDE}{tb:TDS}{E:zbP}{dl:Ev}{S:Sto}{xs:List D}(W:Nat→Ev→Sto→Prop)(htl:∀K:DK,K (.ref n) S→tl dl S K)(h0:W 0 dl S)(hk:∀k dl' S',W k dl' S'→S'[n]?=some (.lst xs))(hall:∀(k:Nat) (d:D),xs[k]?=some d→∃ys,d=.tup ys∧ys.length=is.length)
  (ht:∀(k:Nat) (ys:List D) (dl':Ev) (S':Sto) (nx ct:Ev→Sto→Prop),xs[k]?=some (.tup ys)→W k dl' S'→(∀dl2 S2,W (k+1) dl2 S2→nx dl2 S2)→tb { nx:=nx,rt:=E.rt,bk:=E.nx,ct:=ct } (zb8 is ys dl') S')(he:∀dl' S',W xs.length dl' S'→E.nx dl' S'):zeq is tl tb E dl S:=by
 unfold zeq
 refine htl _ ⟨by rw[zaq (hk _ _ _ h0) rfl]; rfl,λk m dl' S'=>m+k=xs.length∧W k dl' S',⟨xs.length,by omega,h0⟩,?_⟩
 rintro k m dl' S' ⟨hm,w⟩
 rw[zaq (hk _ _ _ w) rfl]
 dsimp only[zac]
 split
 ·rename_i ys hx
  have l:k<xs.length:=(Vac.mp hx).1
  obtain⟨zs,e1,e2⟩:=hall k _ hx
  cases e1
  exact⟨e2,ht k ys dl' S' _ _ hx w λdl2 S2 w2=>⟨m-1,by omega,by omega,w2⟩⟩
 ·rename_i d hn hx
  obtain⟨zs,e1,_⟩:=hall k _ hx
  exact absurd e1 (hn zs)
 ·rename_i hx
  have l:k=xs.length:=by
   have:=VaH.mp hx
   omega
  exact he dl' S' (l ▸ w)
theorem zmV {is:List Nat}{ta:TDA}{tb:TDS}{E:zbP}{dl:Ev}{S S1:Sto}{n n':Nat}{xs ys:List D}(W:Nat→Ev→Sto→Prop)(hta:∀K:List D→Sto→Prop,K [.ref n,.ref n'] S1→ta dl S K)(hk:∀k dl' S',W k dl' S'→S'[n]?=some (.lst xs)∧S'[n']?=some (.lst ys))(hl:xs.length=ys.length)(h0:W 0 dl S1)
  (hb:∀(k:Nat) (x y:D) (dl':Ev) (S':Sto) (nx ct:Ev→Sto→Prop),xs[k]?=some x→ys[k]?=some y→W k dl' S'→(∀dl2 S2,W (k+1) dl2 S2→nx dl2 S2)→tb { nx:=nx,rt:=E.rt,bk:=E.nx,ct:=ct } (zb8 is [x,y] dl') S')(he:∀dl' S',W xs.length dl' S'→E.nx dl' S'):zfX is ta tb E dl S:=by
 unfold zfX
 refine hta _ ⟨⟨by rw[zaq (hk _ _ _ h0).1 rfl]; rfl,by rw[zaq (hk _ _ _ h0).2 rfl]; rfl⟩,λk m dl' S'=>W k dl' S'∧k+m=xs.length,⟨xs.length,h0,by omega⟩,?_⟩
 rintro k m dl' S' ⟨w,hm⟩
 rw[zaq (hk _ _ _ w).1 rfl,zaq (hk _ _ _ w).2 rfl]
 dsimp only[zac]
 split
 ·rename_i x y e1 e2
  have l1:=(Vac.mp e1).1
  exact hb k x y dl' S' _ _ e1 e2 w (λdl2 S2 w2=>⟨m-1,by omega,w2,by omega⟩)
 ·rename_i e1
  have ek:k=xs.length:=by
   by_cases l:k<xs.length
   ·exact absurd (Vae (show k<ys.length by omega)) (e1 _ _ (Vae l))
   ·omega
  exact⟨by omega,he _ _ (ek ▸ w)⟩
section
variable {X:Cx}{Z:Zx}{elt:Expr}{pos:Pos}{sc ar:Scope}{N:List Str}{caps:List Nat}
theorem zi9 {ta:TDA}{te:TDE}{x1 x2:Str}{p1 p2 p pos2 tp:Pos}{kk:Nat}{a:Expr}{i:Nat}{y:Str}{py spos:Pos}(har:X.env.scope=ar)(hc:X.calm=true)(cs:zb5 sc ar [x1,x2] N)(hl1:sc.names.lookup x1=some .local)(hl2:sc.names.lookup x2=some .local)
  (hN:caps.map (λi=>X.N[i]?)=N.map some)(hnd:([x1,x2]++N).Nodup)(hNd:X.N.Nodup)(hy:X.N[i]?=some y)(hlo:ar.names.lookup y=some .local)(hg:Gl X "enumerate")(hm:X.mg "enumerate"=none)(hv:bootBuiltins "enumerate"=some (.type "enumerate"))(ha:PDA X Z [a] ta)
  (he:∀cl C s0 H0 fp pn,PD (Cx.comp X sc ([x1,x2]++N) cl C s0 H0 fp pn) Z0 elt te)
  (hsw:swapsWith (.ListComp elt [⟨.Tuple [.Name x1 p1,.Name x2 p2] kk tp,.Call (.Name "enumerate" p) [a] [] pos2,[],0⟩] sc pos) (some (.Name y py)) spos.line X.env=pure true:=by rfl)
  (hse:starEach [a] X.env=[(false,eval a X.env)]:=by rfl)(hs:∀y,foldedSetIterable (.Call (.Name "enumerate" p) [a] [] pos2) X.env y=pure y:=by intro _; rfl):
  PDS X Z (.Assign [.Name y py] (.ListComp elt [⟨.Tuple [.Name x1 p1,.Name x2 p2] kk tp,.Call (.Name "enumerate" p) [a] [] pos2,[],0⟩] sc pos) spos) (zfP i (zd5 caps ta te)):=by
 subst har
 refine zbJ (zhE hc cs hN (gt:=zch X.K 2 (zcr [0,1])) (te:=up X.K Z0 te) (zhU hg hm hv ha hse) (λcl C s0 H0 fp pn=>?_) he hNd hy hlo hsw hs) λF σ H h=>zhK (λ_ h=>zlZ h) h
 have l1:(Cx.comp X sc ([x1,x2]++N) cl C s0 H0 fp pn).env.scope.names.lookup x1=some .local:=lookup_relabel_local hl1
 have l2:(Cx.comp X sc ([x1,x2]++N) cl C s0 H0 fp pn).env.scope.names.lookup x2=some .local:=lookup_relabel_local hl2
 exact zcE hc (zcp hnd (.cons rfl (.inl l1) (.inr l1) (.cons rfl (.inl l2) (.inr l2) .nil))) rfl rfl
end
theorem zir {caps:List Nat}{tl te:TDE}{dl:Ev}{S S1:Sto}{Q:DK}{n:Nat}{es:List D}(W:Nat→List D→Sto→Prop)(htl:∀K:DK,K (.ref n) S1→tl dl S K)(h1:S1[n]?=some (.lst es))(hw:∀k ys S2,W k ys S2→S2[n]?=some (.lst es)∧S2[S1.length]?=some (.lst ys)∧ys.length=k)(hl:es.length≤1000)(hall:∀(k:Nat) (d:D),es[k]?=some d→∃x y,d=.tup [x,y])(h0:W 0 [] (S1++[.lst []]))
  (ht:∀(k:Nat) (x y:D) (ys:List D) (S2:Sto) (K:DK),es[k]?=some (.tup [x,y])→W k ys S2→(∀y S3,S3[S1.length]?=some (.lst ys)→W (k+1) (ys++[y]) (S3.set S1.length (.lst (ys++[y])))→K y S3)→te (some x::some y::zbj caps dl) S2 K)
  (hq:∀ys S2,W es.length ys S2→Q (.ref S1.length) S2):zdF caps tl te dl S Q:=by
 unfold zdF
 refine htl _ ⟨by rw[zaq h1 rfl]; rfl,λk m S2=>(∃ys,W k ys S2)∧m+k=es.length,⟨es.length,⟨_,h0⟩,by omega⟩,?_⟩
 rintro k m S2 ⟨⟨ys,w⟩,hm⟩
 obtain⟨w1,w2,w3⟩:=hw _ _ _ w
 rw[zaq w1 rfl]
 dsimp only[zac]
 cases e:es[k]? with
 | none=>
  have hk:k=es.length:=by
   have:=VaH.mp e
   omega
  exact hq ys S2 (hk ▸ w)
 | some d=>
  obtain⟨x,y,rfl⟩:=hall k d e
  have hk:=(Vac.mp e).1
  show zcH caps te S1.length dl x y _ _
  unfold zcH
  refine ht k x y ys S2 _ e w λy S3 e3 w4=>?_
  dsimp only
  rw[e3]
  exact⟨by omega,m-1,by omega,⟨_,w4⟩,by omega⟩
theorem ziw (x:Nat):∀ys:List Nat,zcq (eqN 0) (ys.map wtD) (.int (x:Int))=some (decide (x∈ys))
 | []=>rfl
 | y::ys=>by
  rw[Val]
  show (match eqN 0 (wtD y) (.int (x:Int)),zcq (eqN 0) (ys.map wtD) (.int (x:Int)) with | some b,some c=>some (b||c) | _,_=>none)=_
  rw[ziw x ys]
  show some (decide ((y:Int)=(x:Int))||decide (x∈ys))=_
  rw[← Bool.decide_or]
  congr 1
  refine decide_eq_decide.mpr ?_
  rw[Vam]
  exact⟨λq=>q.elim (λe=>.inl (by omega)) .inr,λq=>q.elim (λe=>.inl (by omega)) .inr⟩
theorem zhO {n:Nat}{S:Sto}{Q:DK}{xs:List Nat}{x:Nat}(ho:S[n]?=some (.lst (xs.map wtD)))(hq:Q (.bl (!decide (x∈xs))) S):zbA (wIn 0 true) (.int (x:Int)) (.ref n) S Q:=by
 rw[zbS]
 unfold wIn
 simp only[zaq ho rfl,zac,ziw x xs]
 exact hq
theorem zgK:∀xs:List Nat,eqL (eqN 1) (xs.map wtD) (xs.map wtD)=some true
 | []=>rfl
 | x::xs=>by
  have z:=zgK xs
  rw[Val]
  unfold eqL
  rw[z]
  simp[eqN,L3.eqT,eqF,wtD]
theorem zaz.pick {S:Sto}{x0:Nat}{es:List D}{L:List (List Nat×List (Int×Int))}(h:zaz S x0 es L)(p:List Nat)(hp:∀i∈p,i<es.length):zaz S x0 (p.map λi=>es.getD i .non) (p.map λi=>L.getD i ([],[])):=⟨by simp,λk d g hd hg=>by
 rw[Vad] at hd hg
 obtain⟨i,hi,rfl⟩:=Vax.mp hd
 rw[hi] at hg
 cases hg
 have hl:=hp i (Vag hi)
 exact h.2 i _ _ (zaj hl) (zaj (by rw[← h.1]; exact hl))⟩
theorem zaz.get {S:Sto}{x0:Nat}{es:List D}{L:List (List Nat×List (Int×Int))}(h:zaz S x0 es L){k:Nat}{d:D}(hd:es[k]?=some d):∃a b x,d=.tup [.ref a,.ref b]∧L[k]?=some x∧a≠x0∧b≠x0∧S[a]?=some (.lst (x.1.map wtD))∧S[b]?=some (.lst (x.2.map frD)):=by
 have lk:k<L.length:=by have:=(Vac.mp hd).1; rw[h.1] at this; exact this
 obtain⟨a,b,e,na,nb,ha,hb⟩:=h.2 k d _ hd (Vae lk)
 exact⟨a,b,L[k],e,Vae lk,na,nb,ha,hb⟩
theorem zfH {B:List (List (Int×Int))}{k:Nat}{x:List Nat×List (Int×Int)}(h:(zaM B)[k]?=some x):∃v,(zaf (zaa (TB B) B.length))[k]?=some v∧x=zbH B v:=by
 rw[zcY,Vad] at h
 obtain⟨v,hv,e⟩:=Vax.mp h
 exact⟨v,hv,e.symm⟩
theorem zmD {q:Nat}{bs:List (List (Int×Int))}(ne:bs≠[])(hb:∀b∈bs,b.length=q∧∀p∈b,p.1≤p.2∧0≤p.1∧p.2≤100):(zaV bs).length=q∧∀p∈zaV bs,p.1≤p.2∧0≤p.1∧p.2≤100:=by
 obtain⟨l,u⟩:=zfQ (q:=q) ne λb h=>(hb b h).1
 refine⟨l,λp hp=>?_⟩
 obtain⟨k,hk⟩:=Va6.mp hp
 have lk:k<q:=by have:=(Vac.mp hk).1; omega
 have z:=u k lk
 rw[zfi hk] at z
 have inn:∀b∈bs,b.getD k (0,0)∈b:=λb h=>Vag (zaj (d:=((0,0):Int×Int)) (show k<b.length by rw[(hb b h).1]; exact lk))
 obtain⟨b1,m1,e1⟩:=z.lo
 obtain⟨b2,m2,e2⟩:=z.hi
 have y1:=(hb b1 m1).2 _ (inn b1 m1)
 have y2:=(hb b2 m2).2 _ (inn b2 m2)
 have y3:=z.hl b1 m1
 omega
theorem zkv (T:Nat→Nat→Bool)(g R:List Nat)(x:Nat):zaI T (g++[x]) R=if x ∉ zaI T g R∧((zaI T g R).any λk=>T x k)=true then zaI T g R++[x] else zaI T g R:=by
 unfold zaI
 rw[List.foldl_append]
 rfl
theorem zhC {T:Nat→Nat→Bool}{g:List Nat}(ne:g≠[]):∀m,(∀x∈zaP T g m,x∈g)∧(zaP T g m).Nodup
 | 0=>⟨λx hx=>by
   rw[VaD.mp (show x∈[g.getD 0 0] from hx)]
   cases g with
   | nil=>exact absurd rfl ne
   | cons a b=>simp,by show [g.getD 0 0].Nodup; simp⟩
 | m+1=>by
  obtain⟨a,b⟩:=zhC ne m
  obtain⟨c,d,_⟩:=zdq T g g _ (λx hx=>hx) a b
  exact⟨c,d⟩
theorem zlO {B:List (List (Int×Int))}{q v:Nat}(hB:∀b∈B,b.length=q∧∀p∈b,p.1≤p.2∧0≤p.1∧p.2≤100)(hv:v∈zaf (zaa (TB B) B.length)):((cls (zaa (TB B) B.length) v).map λi=>B.getD i [])≠[]∧∀b∈(cls (zaa (TB B) B.length) v).map λi=>B.getD i [],b.length=q∧∀p∈b,p.1≤p.2∧0≤p.1∧p.2≤100:=by
 have ml:=zaD (TB B) B.length
 obtain⟨xs,e⟩:=zcb (zbc (TB B) B.length) hv
 refine⟨by rw[e]; simp,λb hb=>?_⟩
 obtain⟨i,hi,rfl⟩:=Vah.mp hb
 have li:i<B.length:=by have:=(zao.mp hi).1; omega
 exact hB _ (by rw[Vak,Vae li]; exact VaC ..)
theorem zbt {B:List (List (Int×Int))}{i:Nat}(hi:i<B.length):B.getD i []∈B:=by rw[Vak,Vae hi]; exact VaC ..
theorem zhx {S:Sto}{n a b:Nat}{x:List Nat×List (Int×Int)}(ha:S[a]?=some (.lst (x.1.map wtD)))(hb:S[b]?=some (.lst (x.2.map frD)))(s1:x.1.length≤900)(s2:x.2.length≤900):Den S 0 (n+3) (.t [.l (x.1.map λ(n:Nat)=>.i (n:Int)),.l (x.2.map spT)]) (.tup [.ref a,.ref b]):=by
 refine .t (show 2≤900 by decide) rfl λj t d ht hd=>?_
 match j with
 | 0=>
  cases ht; cases hd
  refine .l ha (Vaj _) (by rw[Vab]; exact s1) (by rw[Vab,Vab]) λq t d ht hd=>?_
  rw[Vad] at ht hd
  cases e:x.1[q]? with
  | none=>rw[e] at ht; cases ht
  | some n=>
   rw[e] at ht hd
   cases ht; cases hd
   exact .i _
 | 1=>
  cases ht; cases hd
  exact zjC s2 (Vaj _) hb
 | j+2=>simp at ht
theorem zlf {S:Sto}{x0 x1:Nat}{es fs:List D}{L:List (List Nat×List (Int×Int))}(h:zaz S x0 es L)(g:zaz S x1 fs L)(sz:∀x∈L,x.1.length≤900∧x.2.length≤900):∀(k:Nat) (x y:D),es[k]?=some x→fs[k]?=some y→Alk S 5 x y:=λk x y hx hy=>by
 obtain⟨a,b,w,rfl,hw,_,_,ha,hb⟩:=h.get hx
 obtain⟨a',b',w',rfl,hw',_,_,ha',hb'⟩:=g.get hy
 rw[hw] at hw'
 cases hw'
 obtain⟨s1,s2⟩:=sz w (Vag hw)
 exact(zhx (n:=2) ha hb s1 s2).alk (zhx (n:=2) ha' hb' s1 s2)
theorem zmH {M:List Nat}(h:MOk M)(j:Nat):(((zaf M).take j).map (cls M)).flatten.length≤M.length:=by
 have z:=(zgd h).length_eq
 rw[Vat] at z
 have e:zaf M=(zaf M).take j++(zaf M).drop j:=(List.take_append_drop j _).symm
 rw[e,VaM,List.flatten_append,Vao] at z
 omega
def ptS (c:Int)(b:List (Int×Int)):List Int:=b.mapIdx λk p=>3*p.1+(p.2-p.1)*(za7 c (50+(k:Int))%4)
def ptF (c:Int)(k:Nat)(x:D):D:=match x with
 | .tup [.int p,.int q]=>.int (3*p+(q-p)*(za7 c (50+(k:Int))%4))
 | _=>.non
theorem zjd (c:Int)(b:List (Int×Int)):(ptS c b).length=b.length:=by simp[ptS]
theorem zjI (c:Int)(b:List (Int×Int)):(b.map frD).mapIdx (ptF c)=(ptS c b).map D.int:=by
 unfold ptS
 refine VaU λk=>?_
 rw[List.getElem?_mapIdx,Vad,Vad,List.getElem?_mapIdx]
 cases b[k]? <;> rfl
theorem pt_in {c:Int}{b:List (Int×Int)}(hb:∀p∈b,p.1≤p.2):zaK (ptS c b) b=true:=by
 refine zcw.mpr λk hk=>?_
 have g:=Vae hk
 have hp:=hb _ (VaC hk)
 have e:(ptS c b).getD k 0=3*b[k].1+(b[k].2-b[k].1)*(za7 c (50+(k:Int))%4):=by
  unfold ptS
  rw[Vak,List.getElem?_mapIdx,g]
  rfl
 rw[e,zfi g]
 generalize b[k]=p at hp
 have t:za7 c (50+(k:Int))%4=0∨za7 c (50+(k:Int))%4=1∨za7 c (50+(k:Int))%4=2∨za7 c (50+(k:Int))%4=3:=by omega
 rcases t with t | t | t | t <;> rw[t] <;> omega
theorem zma (xs:List D)(c:Nat):zbb xs (some (c:Int)) none=xs.drop c:=by
 unfold L3.zbb
 rw[HT.sIx_nat,HT.sIx_none]
 by_cases h:c≤xs.length
 ·rw[Nat.min_eq_left h]
  exact Vaw (by rw[List.length_drop]; exact Vaa _)
 ·rw[List.drop_of_length_le (by omega),List.drop_of_length_le (by omega)]
  simp
theorem zl5 (xs:List D)(c:Nat):zbb xs none (some (c:Int))=xs.take c:=by
 unfold L3.zbb
 rw[HT.sIx_nat,HT.sIx_none,List.drop_zero,Nat.sub_zero]
 by_cases h:c≤xs.length
 ·rw[Nat.min_eq_left h]
 ·rw[Nat.min_eq_right (by omega),Vaw (Vaa _),Vaw (by omega)]
theorem zih (xs:List Nat)(c:Nat):(xs.drop c++xs.take c).Perm xs:=by
 have z:(xs.drop c++xs.take c).Perm (xs.take c++xs.drop c):=List.perm_append_comm
 rw[List.take_append_drop] at z
 exact z
theorem zlG {B:List (List (Int×Int))}{v:Nat}(hv:v∈zaf (zaa (TB B) B.length)):∃xs:List Int,(zbH B v).1.map wtD=((v:Int)::xs).map D.int:=by
 obtain⟨xs,e⟩:=zcb (zbc (TB B) B.length) hv
 refine⟨xs.map λ(x:Nat)=>(x:Int),?_⟩
 show (cls (zaa (TB B) B.length) v).map wtD=_
 rw[e,Val,Val,VaA]
 rfl
theorem zkf {B:List (List (Int×Int))}{R p:List Nat}(h:(p.map λi=>R.getD i 0)=zaf (zaa (TB B) B.length))(hp:∀i∈p,i<R.length):(p.map λi=>(R.map (zbH B)).getD i ([],[]))=zaM B:=by
 rw[zcY,← h,VaA]
 refine VaI λi hi=>?_
 have g:=zaj (d:=0) (hp i hi)
 conv=>lhs; rw[Vak,Vad,g]
 rfl
theorem zl3 {B:List (List (Int×Int))}{R:List Nat}(h:R.Perm (zaf (zaa (TB B) B.length))):(R.map λ(x:Nat)=>(x:Int)).Nodup:=by
 have nd:R.Nodup:=h.nodup_iff.mpr (zca _)
 exact nd.map (λ(x:Nat)=>(x:Int)) λa b hab e=>hab (by omega)
theorem zhf {B:List (List (Int×Int))}{R:List Nat}{S:Sto}{n x0:Nat}{es:List D}{Q:DK}(hR:R.Perm (zaf (zaa (TB B) B.length)))(l3:B.length≤30)(hn:S[n]?=some (.lst es))(isl:zaz S x0 es (R.map (zbH B)))(q:∀fs:List D,zaz (S++[.lst fs]) x0 fs (zaM B)→Q (.ref S.length) (S++[.lst fs])):irr zfD [.ref n] S Q:=by
 have ml:=zaD (TB B) B.length
 have rl:=zco (zaa (TB B) B.length)
 have lR:R.length≤30:=by rw[hR.length_eq]; omega
 have le:es.length=R.length:=by rw[isl.1,Vab]
 refine zlY (es:=es) (zs:=R.map λ(x:Nat)=>(x:Int)) hn (by rw[Vab,le]) (λi e z he hz=>?_) (zl3 hR) (by omega) λp pp sp=>?_
 ·obtain⟨a,b,x,rfl,hx,_,_,ha,hb⟩:=isl.get he
  rw[Vad] at hx hz
  cases hv:R[i]? with
  | none=>rw[hv] at hx; cases hx
  | some v=>
   rw[hv] at hx hz
   cases hx
   cases hz
   obtain⟨xs,ex⟩:=zlG (hR.mem_iff.mp (Vag hv))
   exact⟨a,.ref b,xs,rfl,by rw[← ex]; exact ha⟩
 ·have hp:∀i∈p,i<es.length:=λi hi=>Vaq.mp (pp.mem_iff.mp hi)
  have s1:=zll hR (zl8 _) (by rw[← le]; exact pp) sp
  have z:=isl.pick p hp
  rw[zkf s1 λi hi=>by rw[← le]; exact hp i hi] at z
  exact q _ (z.keep λx o _ e=>zap e)
def zdo:Sd:=λds S Q ex=>match ds with
 | [.tup [.int a,.int b],.tup [.int c,.int d]]=>Q (.tup [.int (if c<a then c else a),.int (if d > b then d else b)]) S
 | _=>False
theorem zk9:Ln (zdo) 2:=λds S Q ex h=>by unfold zdo at h; split at h <;> first | rfl | exact h.elim
def zdv:Sd:=λds S Q ex=>match ds with
 | [.ref m]=>∃(ds:List D) (B:List (List (Int×Int))),S[m]?=some (.lst ds)∧zas S 0 ds B∧B.length≤30∧(∀b∈B,b.length≤4)∧1≤B.length∧∀(T:Sto) (k:Nat),Pre S T→S.length≤k→T[k]?=some (.lst ((zaV B).map frD))→Q (.ref k) T
 | _=>False
theorem zj6:Ln (zdv) 1:=λds S Q ex h=>by unfold zdv at h; split at h <;> first | rfl | exact h.elim
def zdK:Sd:=λds S Q ex=>match ds with
 | [.tup [.int a,.int b],.tup [.int c,.int d]]=>(za0 (a,b) (c,d)=none→Q .non S)∧∀p,za0 (a,b) (c,d)=some p→Q (frD p) S
 | _=>False
theorem zjH:Ln (zdK) 2:=λds S Q ex h=>by unfold zdK at h; split at h <;> first | rfl | exact h.elim
def zd1:Sd:=λds S Q ex=>match ds with
 | [.ref m,.ref n]=>∃us vs:List (Int×Int),S[m]?=some (.lst (us.map frD))∧S[n]?=some (.lst (vs.map frD))∧us.length≤900∧Q (.bl (zaY us vs)) S
 | _=>False
theorem zji:Ln (zd1) 2:=λds S Q ex h=>by unfold zd1 at h; split at h <;> first | rfl | exact h.elim
def zdT:Sd:=λds S Q ex=>match ds with
 | [.ref m,.ref g,.ref b]=>∃(ds:List D) (B:List (List (Int×Int))) (ns:List Nat) (box:List (Int×Int)),S[m]?=some (.lst ds)∧zas S 0 ds B∧B.length≤30∧(∀b∈B,b.length≤4)∧S[g]?=some (.lst (ns.map wtD))∧S[b]?=some (.lst (box.map frD))∧(∀k∈ns,k<B.length)∧ns.length≤900∧Q (.bl (ns.any λk=>zaY (B.getD k []) box)) S
 | _=>False
theorem zjq:Ln (zdT) 3:=λds S Q ex h=>by unfold zdT at h; split at h <;> first | rfl | exact h.elim
def zdl:Sd:=λds S Q ex=>match ds with
 | [.ref m]=>∃(ds:List D) (B:List (List (Int×Int))),S[m]?=some (.lst ds)∧zas S 0 ds B∧B.length≤30∧(∀b∈B,b.length≤4)∧∀(T:Sto) (k:Nat) (gs:List D),Pre S T→S.length≤k→T[k]?=some (.lst gs)→zaS T gs ((zaf (zaa (TB B) B.length)).map (cls (zaa (TB B) B.length)))→Q (.ref k) T
 | _=>False
theorem zmK:Ln (zdl) 1:=λds S Q ex h=>by unfold zdl at h; split at h <;> first | rfl | exact h.elim
def zd2:Sd:=λds S Q ex=>match ds with
 | [.ref m]=>∃(ds:List D) (B:List (List (Int×Int))),S[m]?=some (.lst ds)∧zas S 0 ds B∧B.length≤30∧(∀b∈B,b.length≤4)∧∀(T:Sto) (k:Nat) (es:List D),Pre S T→S.length≤k→T[k]?=some (.lst es)→zaz T k es (zaM B)→Q (.ref k) T
 | _=>False
theorem zi8:Ln (zd2) 1:=λds S Q ex h=>by unfold zd2 at h; split at h <;> first | rfl | exact h.elim
def zc4:Sd:=λds S Q ex=>match ds with
 | [.int c,.int k]=>(0≤k∧k≤1000)∧Q (.int (za7 c k)) S
 | _=>False
theorem zlD:Ln (zc4) 2:=λds S Q ex h=>by unfold zc4 at h; split at h <;> first | rfl | exact h.elim
def zdy:Sd:=λds S Q ex=>match ds with
 | [.int _,.int qi,.int w]=>∃q:Nat,qi=(q:Nat)∧q≤3∧(1≤w∧w≤40)∧∀(T:Sto) (b:Nat) (ps:List (Int×Int)),Pre S T→S.length≤b→T[b]?=some (.lst (ps.map frD))→ps.length=q→(∀p∈ps,p.1≤p.2∧0≤p.1∧p.2≤100)→Q (.ref b) T
 | _=>False
theorem zmo:Ln (zdy) 3:=λds S Q ex h=>by unfold zdy at h; split at h <;> first | rfl | exact h.elim
def zdC:Sd:=λds S Q ex=>match ds with
 | [.ref n,.int k]=>∃ns:List Int,S[n]?=some (.frz (ns.map D.int))∧0≤k∧Q (.int (ns.getD k.toNat 0)) S
 | _=>False
theorem zmC:Ln (zdC) 2:=λds S Q ex h=>by unfold zdC at h; split at h <;> first | rfl | exact h.elim
def zda:Sd:=λds S Q ex=>match ds with
 | [.ref m,.ref n]=>∃us vs:List (Int×Int),S[m]?=some (.lst (us.map frD))∧S[n]?=some (.lst (vs.map frD))∧us.length=vs.length∧us.length≤900∧(∀p∈us,p.1≤p.2)∧(∀p∈vs,p.1≤p.2)∧Q (.bl (zaY us vs)) S
 | _=>False
theorem zls:Ln (zda) 2:=λds S Q ex h=>by unfold zda at h; split at h <;> first | rfl | exact h.elim
def zd9:Sd:=λds S Q ex=>match ds with
 | [.ref m,.ref n]=>∃(ds:List D) (B:List (List (Int×Int))) (q v:Nat),S[m]?=some (.lst ds)∧zas S 0 ds B∧B.length≤30∧(∀b∈B,b.length≤4)∧(∀b∈B,b.length=q∧∀p∈b,p.1≤p.2∧0≤p.1∧p.2≤100)∧v∈zaf (zaa (TB B) B.length)∧S[n]?=some (.lst ((cls (zaa (TB B) B.length) v).map wtD))∧∀T:Sto,Pre S T→Q (.bl true) T
 | _=>False
theorem zlI:Ln (zd9) 2:=λds S Q ex h=>by unfold zd9 at h; split at h <;> first | rfl | exact h.elim
def zdB:Sd:=λds S Q ex=>match ds with
 | [.ref m,.ref f]=>∃(ds:List D) (B:List (List (Int×Int))) (q:Nat) (es:List D),S[m]?=some (.lst ds)∧zas S 0 ds B∧B.length≤30∧(∀b∈B,b.length≤4)∧(∀b∈B,b.length=q∧∀p∈b,p.1≤p.2∧0≤p.1∧p.2≤100)∧S[f]?=some (.lst es)∧zaz S f es (zaM B)∧∀T:Sto,Pre S T→Q (.bl true) T
 | _=>False
theorem zjr:Ln (zdB) 2:=λds S Q ex h=>by unfold zdB at h; split at h <;> first | rfl | exact h.elim
def zek:Sd:=λds S Q ex=>match ds with
 | [.tup [.int a,.int b],.int c]=>(0≤a∧a≤b∧b≤100)∧Q (.int (3*a+(b-a)*(c%4))) S
 | _=>False
theorem zko:Ln (zek) 2:=λds S Q ex h=>by unfold zek at h; split at h <;> first | rfl | exact h.elim
def zdE:Sd:=λds S Q ex=>match ds with
 | [.ref m,.ref n]=>∃(P:List Int) (b:List (Int×Int)),S[m]?=some (.lst (P.map D.int))∧S[n]?=some (.lst (b.map frD))∧b.length=P.length∧b.length≤900∧(∀p∈b,p.1≤p.2∧0≤p.1∧p.2≤100)∧Q (.bl (zaK P b)) S
 | _=>False
theorem zkF:Ln (zdE) 2:=λds S Q ex h=>by unfold zdE at h; split at h <;> first | rfl | exact h.elim
def zeh:Sd:=λds S Q ex=>match ds with
 | [.ref pm,.ref m,.ref f]=>∃(P:List Int) (ds:List D) (B:List (List (Int×Int))) (q:Nat) (es:List D),S[pm]?=some (.lst (P.map D.int))∧S[m]?=some (.lst ds)∧zas S 0 ds B∧B.length≤30∧(∀b∈B,b.length≤4)∧(∀b∈B,b.length=q∧∀p∈b,p.1≤p.2∧0≤p.1∧p.2≤100)∧P.length=q∧S[f]?=some (.lst es)∧zaz S f es (zaM B)∧(∃i,i<B.length∧zaK P (B.getD i [])=true)∧∀T:Sto,Pre S T→Q (.bl true) T
 | _=>False
theorem zjg:Ln (zeh) 3:=λds S Q ex h=>by unfold zeh at h; split at h <;> first | rfl | exact h.elim
section
variable {P:Program}{w:World}{K:PySem.W.Frag}{mg:Str→Option Value}{base:Heap}
def zke  (zeX:Df K mg "hull" zf1 zdP)(zbI:mg "max"=none)(zbB:mg "min"=none):Fk P w K mg base 1 "hull" zdP zdo:=
 zeX.mk' (za1 (k:=0) zeX.F zlk (zk9) λcdv A outer s H E hr=>⟨_,(zam (zaB (zc7 (zab (zaH (ziN rfl) rfl zbB Boot.«min» (zab (zaT (dv 0) zai (λ_ _=>rfl)) (zab (zaT (dv 1) zai (λ_ _=>rfl)) zae))) (zab (zaH (ziH rfl) rfl zbI Boot.«max» (zab (zaT (dv 0) zai (λ_ _=>rfl)) (zab (zaT (dv 1) zai (λ_ _=>rfl)) zae))) zae))))),λds S Q ex h=>by
  unfold zdo at h
  split at h
  ·exact h
  ·exact h.elim⟩)
def zjY  (zeR:Df K mg "hull_of" zds zdA)(zgF:Fk P w K mg base 1 "hull" zdP zdo)(zbf:mg "zip"=none):Fk P w K mg base 2 "hull_of" zdA zdv:=
 zeR.mk' (za1 (k:=1) zeR.F zeS (zj6) λcdv A outer s H E hr=>⟨_,(zar (zaE (i:=1) zeS.nd rfl (Or.inl rfl) (zaQ (dv 0) zai (λ_ _=>rfl))) (zar (zei (i:=2) PassesOwn.never rfl zeS.nd rfl (Or.inl rfl) (dv 0) (zam (zkd (x1:="one") (x2:="two") (N:=[]) (caps:=[]) (ar:=zan zds) rfl rfl zdj rfl rfl rfl (by decide) (i:=1) zeS.nd rfl rfl rfl zbf Boot.«zip» (zab (dv 1) (zab (dv 2) zae)) (λ_ _ _ _ _ _=>(zaF zgF hr (zab (dv 0) (zab (dv 1) zae))))))) (zam (zaB (dv 1))))),λds S Q ex h=>by
  unfold zdv at h
  split at h
  ·rename_i m
   obtain⟨ds,B,hm,rows,l3,l4,l1,h⟩:=h
   obtain⟨a0,e0,h0⟩:=zbW rows (show 0<B.length by omega)
   refine zaR (o:=.lst ds) hm e0 ?_
   have eh:B.getD 0 []=B.headD []:=by cases B <;> rfl
   have lh:(B.headD []).length≤4:=by
    rw[← eh]
    exact l4 _ (by rw[Vak,Vae (by omega)]; exact VaC ..)
   refine zdn (n:=m) (o:=.lst ds) (λj dl' S'=>Pre S S'∧j≤B.length∧∃a:Nat,S'[a]?=some (.lst (((B.take j).foldl (λw b=>List.zipWith zaA w b) (B.headD [])).map frD))∧(j=0∨S.length≤a)∧∃u2:Option D,dl'=[some (.ref m),some (.ref a),u2]) ⟨Pre.refl,Vaj _,a0,by rw[← eh]; exact h0,.inl rfl,_,rfl⟩ (λj dl' S' w=>w.1 _ _ hm) ?_ ?_
   ·rintro j x dl' S' nx ct ex' ⟨pr,hj,a,ha,_,u2,rfl⟩ hn
    have hx:ds[j]?=some x:=ex'
    have lj:j<B.length:=by have:=(Vac.mp hx).1; rw[rows.1] at this; exact this
    obtain⟨ab,eb,hb⟩:=zbW rows lj
    have exx:x=.ref ab:=by
     have z:=zbN (j:=j) hx
     rw[eb] at z
     exact(Option.some.inj z).symm
    subst exx
    have lf:=zhs (B.headD []) (B.take j)
    refine zhG (n:=a) (n':=ab) (S1:=S') (xs:=((B.take j).foldl (λw b=>List.zipWith zaA w b) (B.headD [])).map frD) (ys:=(B.getD j []).map frD) (λx y=>match x,y with | .tup [.int a,.int b],.tup [.int c,.int d]=>frD (zaA (a,b) (c,d)) | _,_=>.non) (λK hK=>by exact hK) ha (pr _ _ hb) (by rw[Vab]; omega) (λk x y hx hy S2 K pr hK=>?_) ?_
    ·obtain⟨p,_,rfl⟩:=Vah.mp (Vag hx)
     obtain⟨q,_,rfl⟩:=Vah.mp (Vag hy)
     exact hK
    ·rw[zmU zaA _ _ _ λp q=>rfl]
     have hg:=zaj (d:=[]) lj
     have ls:=zeF pr
     refine hn _ _ ⟨zaG pr _,by omega,S'.length,?_,.inr ls,_,rfl⟩
     rw[zbU hg,List.foldl_append]
     exact zal _ _
   ·rintro dl' S' ⟨pr,_,a,ha,ha0,u2,rfl⟩
    have e9:B.take (zac (.lst ds)).length=B:=Vaw (by show B.length≤ds.length; rw[rows.1]; exact Vaa _)
    rw[e9] at ha
    refine h _ _ pr (ha0.elim (λz=>?_) id) ha
    have z':ds.length=0:=z
    rw[rows.1] at z'
    omega
  ·exact h.elim⟩)
def zmA  (zeB:Df K mg "common" zeZ zdr)(zbB:mg "min"=none)(zbI:mg "max"=none):Fk P w K mg base 1 "common" zdr zdK:=
 zeB.mk' (za1 (k:=0) zeB.F zgr (zjH) λcdv A outer s H E hr=>⟨_,(zar (zaE (i:=2) zgr.nd rfl (Or.inl rfl) (zaH (ziH rfl) rfl zbI Boot.«max» (zab (zaT (dv 0) zai (λ_ _=>rfl)) (zab (zaT (dv 1) zai (λ_ _=>rfl)) zae)))) (zar (zaE (i:=3) zgr.nd rfl (Or.inl rfl) (zaH (ziN rfl) rfl zbB Boot.«min» (zab (zaT (dv 0) zai (λ_ _=>rfl)) (zab (zaT (dv 1) zai (λ_ _=>rfl)) zae)))) (zar (zbn (zbT ziQ (dv 2) (dv 3) (zbu _)) (zam (zaB zg7)) zbs) (zam (zaB (zc7 (zab (dv 2) (zab (dv 3) zae)))))))),λds S Q ex h=>by
  unfold zdK at h
  split at h
  ·rename_i a b c d
   obtain⟨h1,h2⟩:=h
   unfold za0 at h1 h2
   refine ifD (λe=>?_) (λe=>?_)
   ·exact h1 (if_pos e)
   ·exact h2 _ (if_neg e)
  ·exact h.elim⟩)
def zkH  (zeT:Df K mg "touch" zd8 zdh)(zgt:Fk P w K mg base 1 "common" zdr zdK)(zcn:mg "all"=none)(zbf:mg "zip"=none):Fk P w K mg base 2 "touch" zdh zd1:=
 zeT.mk' (ziZ (za1 (k:=1) zeT.F zkg (zi4 (zji)) λcdv A outer s H E hr=>⟨_,(zam (zaB (zaH (zaU (zkj rfl)) rfl zcn Boot.«all» (zab (zm0 (x1:="one") (x2:="two") (N:=[]) (caps:=[]) (ar:=zan zd8) rfl rfl zdj rfl rfl rfl (by decide) rfl zbf Boot.«zip» (zab (dv 0) (zab (dv 1) zae)) (λ_ _ _ _ _ _=>(zeu zlB (zaF zgt hr (zab (dv 0) (zab (dv 1) zae))) zg7 (zbu _)))) zae)))),λds S Q ex h=>by
  obtain⟨Q0,ex0,rfl,rfl,h⟩:=h
  unfold zd1 at h
  split at h
  ·rename_i m n
   obtain⟨us,vs,h1,h2,hl,h⟩:=h
   refine zhG (n:=m) (n':=n) (S1:=S) (xs:=us.map frD) (ys:=vs.map frD) (λx y=>match x,y with | .tup [.int a,.int b],.tup [.int c,.int d]=>.bl (za0 (a,b) (c,d)).isSome | _,_=>.non) (λK hK=>by exact hK) h1 h2 (by rw[Vab]; omega) (λk x y hx hy S2 K pr hK=>?_) ?_
   ·obtain⟨p,_,rfl⟩:=Vah.mp (Vag hx)
    obtain⟨q,_,rfl⟩:=Vah.mp (Vag hy)
    refine⟨λe=>?_,λr e=>?_⟩
    ·have hK':K (.bl (za0 p q).isSome) S2:=hK
     rw[show za0 p q=none from e] at hK'
     exact hK'
    ·have hK':K (.bl (za0 p q).isSome) S2:=hK
     rw[show za0 p q=some r from e] at hK'
     exact hK'
   ·refine zeM (n:=S.length) (o:=.lst _) (bs:=List.zipWith (λp q=>(za0 p q).isSome) us vs) (zal _ _) (zjX us vs) ?_
    exact⟨Pre.refl.push,.bl _,h⟩
  ·exact h.elim⟩))
def zjp  (zeJ:Df K mg "touches_one" zdk zdI)(zgk:Fk P w K mg base 2 "touch" zdh zd1)(zbe:mg "any"=none):Fk P w K mg base 3 "touches_one" zdI zdT:=
 zeJ.mk' (ziZ (za1 (k:=2) zeJ.F zkR (zi4 (zjq)) λcdv A outer s H E hr=>⟨_,(zam (zaB (zaH (zaU (zf9 rfl)) rfl zbe Boot.«any» (zab (zb9 (x:="number") (N:=["box","boxes"]) (caps:=[2,0]) (ar:=zan zdk) rfl rfl csc rfl (by decide) (dv 1) (λ_ _ _ _ _ _=>zb3) (λ_ _ _ _ _ _=>(zaF zgk hr (zab (zaQ (dv 2) (dv 0) (λ_ _=>rfl)) (zab (dv 1) zae))))) zae)))),λds S Q ex h=>by
  obtain⟨Q0,ex0,rfl,rfl,h⟩:=h
  unfold zdT at h
  split at h
  ·rename_i m g b
   obtain⟨ds,B,ns,box,hm,rows,l3,l4,hg,hb,hn,l9,h⟩:=h
   refine zea (n:=g) (S1:=S) (o:=.lst (ns.map wtD)) (λd=>match d with | .int k=>.bl (zaY (B.getD k.toNat []) box) | _=>.non) (λK hK=>by exact hK) hg (by show (ns.map wtD).length≤1000; rw[Vab]; omega) (λx hx S2 K pr hK=>?_) ?_
   ·obtain⟨k,hk,rfl⟩:=Vah.mp (show x∈ns.map wtD from hx)
    have hk':=hn k hk
    obtain⟨a,ea,ha⟩:=zbW rows hk'
    refine zaR (o:=.lst ds) (pr _ _ hm) ea ?_
    refine⟨B.getD k [],box,pr _ _ ha,pr _ _ hb,?_,hK⟩
    have:=l4 (B.getD k []) (by rw[Vak,Vae hk']; exact VaC ..)
    omega
   ·refine zeM (n:=S.length) (o:=.lst _) (bs:=ns.map λk=>zaY (B.getD k []) box) (zal _ _) (zeC _ _ (λk=>rfl) ns) ?_
    rw[List.any_map]
    exact⟨Pre.refl.push,.bl _,h⟩
  ·exact h.elim⟩))
def zkI  (zfI:Df K mg "groups_of" zfS zdw)(zf5:Fk P w K mg base 3 "touches_one" zdI zdT)(zaX:mg "sorted"=none)(zbG:mg "enumerate"=none):Fk P w K mg base 4 "groups_of" zdw zdl:=
 zfI.mk' (za1 (k:=3) zfI.F zct (zmK) λcdv A outer s H E hr=>⟨_,(zar (zaE (i:=1) zct.nd rfl (Or.inl rfl) (zcj zae)) (zar (zl4 (is:=[2,3]) PassesOwn.never rfl zct.nd (Nms.cons (i:=2) rfl (Or.inl rfl) (by first | exact .inl rfl | exact .inr rfl) (Nms.cons (i:=3) rfl (Or.inl rfl) (by first | exact .inl rfl | exact .inr rfl) Nms.nil)) rfl rfl zbG Boot.«enumerate» (zab (dv 0) zae) (zar (zaE (i:=4) zct.nd rfl (Or.inl rfl) (zcj (zab (dv 2) zae))) (zar (zaE (i:=5) zct.nd rfl (Or.inl rfl) (zcj zae)) (zar (zei (i:=6) PassesOwn.never rfl zct.nd rfl (Or.inl rfl) (dv 1) (zam (zbn (zck (zaF zf5 hr (zab (dv 0) (zab (dv 6) (zab (dv 3) zae))))) (zam (zfm (zjV (dv 4) (zab (dv 6) zae)))) (zam (zfm (zgv (dv 5) (dv 6))))))) (zam (zaE (i:=1) zct.nd rfl (Or.inl rfl) (zau zgg (dv 5) (zcj (zab (zaH (zaU zev) rfl zaX Boot.«sorted» (zab (dv 4) zae)) zae))))))))) (zam (zaB (zaH (zaU (zms hr)) rfl zaX Boot.«sorted» (zab (dv 1) zae)))))),λds S Q ex h=>by
  unfold zdl at h
  split at h
  ·rename_i m
   obtain⟨ds,B,hm,rows,l3,l4,h⟩:=h
   have lm:=zbk hm
   refine zjF (n:=m) (S1:=S++[Ob.lst []]) (xs:=ds) (λk dl' S'=>k≤B.length∧Pre S S'∧∃(ga:Nat) (gs:List D) (G:List (List Nat)),S'[ga]?=some (.lst gs)∧zaS S' gs G∧G.Perm ((zaf (zaa (TB B) k)).map (cls (zaa (TB B) k)))∧∃u2 u3 u4 u5 u6:Option D,dl'=[some (.ref m),some (.ref ga),u2,u3,u4,u5,u6]) (λK hK=>by exact hK) (λk dl' S' w=>w.2.1 _ _ hm) ⟨Vaj _,Pre.refl.push,S.length,[],[],zal _ _,zaS.nil,List.Perm.refl _,_,_,_,_,_,rfl⟩ ?_ ?_
   ·rintro k x dl' S' nx ct hx ⟨hk,pr,ga,gs,G,hga,rG,pG,u2,u3,u4,u5,u6,rfl⟩ hn
    have lk:k<B.length:=by have:=(Vac.mp hx).1; rw[rows.1] at this; exact this
    obtain⟨ab,eb,hb⟩:=zbW rows lk
    have exx:x=.ref ab:=by
     have z:=zbN (j:=k) hx
     rw[eb] at z
     exact(Option.some.inj z).symm
    subst exx
    have mk:=zbc (TB B) k
    have mlen:=zaD (TB B) k
    obtain⟨lm1,lm2⟩:=zey _ (zgw (TB B) (zaa (TB B) k))
    have gp:=zh6 mk lm1 lm2 pG
    rw[mlen] at gp
    have glen:(k::(G.filter (tch (TB B) k)).flatten).length≤31:=by
     rw[gp.length_eq]
     have z:=zb4 (mkS (za8 (zah (TB B) (zaa (TB B) k))) (zah (TB B) (zaa (TB B) k)) (zaa (TB B) k)) (za8 (zah (TB B) (zaa (TB B) k)))
     rw[zcM,mlen] at z
     omega
    have gin:∀g∈G,(∀j∈g,j<B.length)∧g.length≤30:=λg hg=>by
     obtain⟨v,_,rfl⟩:=Vah.mp (pG.mem_iff.mp hg)
     refine⟨λj hj=>by have:=(zao.mp hj).1; omega,?_⟩
     have z:=zb4 (zaa (TB B) k) v
     omega
    have lG:G.length≤30:=by
     rw[pG.length_eq,Vab]
     have z:=zco (zaa (TB B) k)
     omega
    have lS:=zeF pr
    have lga:=zbk hga
    refine zlp (λdl2 S2=>Pre S' S2∧∃(aps:List D),S2[S'.length]?=some (.lst ((k::(G.filter (tch (TB B) k)).flatten).map wtD))∧S2[S'.length+1]?=some (.lst aps)∧zaS S' aps (G.filter λg=>!tch (TB B) k g)∧∃u6:Option D,dl2=[some (.ref m),some (.ref ga),some (.int (k:Int)),some (.ref ab),some (.ref S'.length),some (.ref (S'.length+1)),u6]) (λnx hn=>?_) ?_
    ·have e1:(S'++[Ob.lst [D.int (k:Int)]]).length=S'.length+1:=by simp
     refine zdn (n:=ga) (o:=.lst gs) (λj dl2 S2=>Pre S' S2∧j≤G.length∧∃(aps:List D),S2[S'.length]?=some (.lst ((k::((G.take j).filter (tch (TB B) k)).flatten).map wtD))∧S2[S'.length+1]?=some (.lst aps)∧zaS S' aps ((G.take j).filter λg=>!tch (TB B) k g)∧∃u6:Option D,dl2=[some (.ref m),some (.ref ga),some (.int (k:Int)),some (.ref ab),some (.ref S'.length),some (.ref (S'.length+1)),u6]) ⟨Pre.refl.push.push,Vaj _,[],zap (zal _ _),by rw[← e1]; exact zal _ _,zaS.nil,_,by rw[e1]; rfl⟩ (λj dl2 S2 w=>w.1 _ _ hga) ?_ ?_
     ·rintro j y dl2 S2 nx2 ct2 ey ⟨p2,hj,aps,hgr,hap,rA,u6,rfl⟩ hn2
      have hy:gs[j]?=some y:=ey
      obtain⟨ag,g,rfl,hg,hag⟩:=rG.get hy
      obtain⟨g1,g2⟩:=gin g (Vag hg)
      have lj:=(Vac.mp hg).1
      have P2:Pre S S2:=λx o e=>p2 _ _ (pr _ _ e)
      have lag:=zbk hag
      refine⟨ds,B,g,B.getD k [],P2 _ _ hm,rows.pre P2,l3,l4,p2 _ _ hag,P2 _ _ hb,g1,by omega,?_⟩
      have tk:=zbU hg
      have fl:((G.take j).filter (tch (TB B) k)).flatten.length≤((G.filter (tch (TB B) k)).flatten).length:=by
       have e:G=G.take j++G.drop j:=(List.take_append_drop j G).symm
       conv=>rhs; rw[e,VaV,List.flatten_append,Vao]
       omega
      cases et:g.any λj=>zaY (B.getD j []) (B.getD k [])
      ·have et':tch (TB B) k g=false:=et
       refine zgf (n:=S'.length+1) (S1:=S2) (xs:=aps) (y:=.ref ag) (λK hK=>by exact hK) hap (λK hK=>by exact hK) ?_ ?_
       ·have z:=List.length_filter_le (λg=>!tch (TB B) k g) (G.take j)
        rw[VaJ] at z
        rw[rA.1]
        omega
       refine hn2 _ _ ⟨zb0 p2 (by omega),by omega,aps++[.ref ag],?_,zcc hap,?_,_,rfl⟩
       ·rw[tk,VaV,VaL,if_neg (by rw[et']; decide),Va7,VaZ]
        exact zbg hgr (by omega)
       ·rw[tk,VaV,VaL,if_pos (by rw[et']; rfl),Va7]
        exact rA.snoc hag
      ·have et':tch (TB B) k g=true:=et
       refine zjz (n:=S'.length) (m:=ag) (S1:=S2) (S2:=S2) (λK hK=>by exact hK) hgr (λK hK=>by exact hK) hgr (p2 _ _ hag) (by omega) ?_ ?_
       ·rw[Vab,Vab,VaO]
        rw[VaO] at glen
        omega
       refine hn2 _ _ ⟨zb0 p2 (Vaa _),by omega,aps,?_,zbg hap (by omega),?_,_,rfl⟩
       ·rw[tk,VaV,VaL,if_pos et',Va7,List.flatten_append]
        have z:=zcc (u:=.lst ((k::((G.take j).filter (tch (TB B) k)).flatten).map wtD++g.map wtD)) hgr
        rw[z]
        simp
       ·rw[tk,VaV,VaL,if_neg (by rw[et']; decide),Va7,VaZ]
        exact rA
     ·rintro dl2 S2 ⟨p2,hj,aps,hgr,hap,rA,u6,rfl⟩
      have e9:G.take (zac (.lst gs)).length=G:=Vaw (by show G.length≤gs.length; rw[rG.1]; exact Vaa _)
      rw[e9] at hgr rA
      exact hn _ _ ⟨p2,aps,hgr,hap,rA,_,rfl⟩
    rintro dl2 S2 ⟨p2,aps,hgr,hap,rA,u6,rfl⟩
    refine ze0 (o:=.lst ((k::(G.filter (tch (TB B) k)).flatten).map wtD)) (zaq hgr rfl) (zdS _) (by rw[Vab]; omega) λms pm sm=>?_
    obtain⟨s,es,ps,ss⟩:=zfd pm sm
    have em:ms.map D.int=s.map wtD:=by
     rw[es,VaA]
     rfl
    rw[em]
    have la:aps.length≤30:=by
     rw[rA.1]
     have z:=List.length_filter_le (λg=>!tch (TB B) k g) G
     omega
    refine zgQ (xs:=aps) (ys:=[.ref S2.length]) (zap (zap hap)) (zal _ _) (by show aps.length+1≤_; omega) ?_
    have P2:Pre S S2:=λx o e=>p2 _ _ (pr _ _ e)
    refine hn _ _ ⟨lk,zaG (zaG (zaG P2 _) _) _,_,aps++[.ref S2.length],(G.filter λg=>!tch (TB B) k g)++[s],zal _ _,?_,?_,_,_,_,_,_,rfl⟩
    ·exact(rA.pre λx o e=>zap (zap (zap (p2 _ _ e)))).snoc (zap (zap (zal _ _)))
    ·have z:=zjm mk lm1 lm2 pG (s:=s) (by rw[mlen]; exact ps) ss
     rw[mlen] at z
     exact z
   ·rintro dl' S' ⟨_,pr,ga,gs,G,hga,rG,pG,u2,u3,u4,u5,u6,rfl⟩
    rw[rows.1] at pG
    have mk:=zbc (TB B) B.length
    have mlen:=zaD (TB B) B.length
    obtain⟨nh,ne⟩:=zml mk pG
    have lG:G.length≤30:=by
     rw[pG.length_eq,Vab]
     have z:=zco (zaa (TB B) B.length)
     omega
    refine zjU (es:=gs) (zs:=(G.map λg=>g.getD 0 0).map λ(x:Nat)=>(x:Int)) hga (by rw[Vab,Vab]; exact rG.1) (λi e z he hz=>?_) ?_ (by rw[rG.1]; omega) λp pp sp=>?_
    ·obtain⟨a,g,rfl,hg,ha⟩:=rG.get he
     rw[Vad,Vad,hg] at hz
     have hz':((g.getD 0 0:Nat):Int)=z:=Option.some.inj hz
     cases g with
     | nil=>exact absurd rfl (ne _ (Vag hg))
     | cons y ys=>
      refine⟨a,ys.map wtD,rfl,?_⟩
      rw[← hz']
      exact ha
    ·exact nh.map (λ(x:Nat)=>(x:Int)) λa b hab e=>hab (by omega)
    ·rw[rG.1] at pp
     have hp:∀i∈p,i<gs.length:=λi hi=>by
      have:=Vaq.mp (pp.mem_iff.mp hi)
      rw[rG.1]
      exact this
     have e:(p.map λi=>G.getD i [])=(zaf (zaa (TB B) B.length)).map (cls (zaa (TB B) B.length)):=by
      refine zk7 mk ((zh9 pp).trans pG) ?_
      rw[VaA]
      rw[VaP] at sp ⊢
      refine sp.imp_of_mem λ{x y} hx hy hxy=>?_
      rw[zii (by rw[← rG.1]; exact hp x hx),zii (by rw[← rG.1]; exact hp y hy)] at hxy
      have hxy':(((G.getD x []).getD 0 0:Nat):Int)<(((G.getD y []).getD 0 0:Nat):Int):=hxy
      show (G.getD x []).getD 0 0<(G.getD y []).getD 0 0
      omega
     have lS:=zeF pr
     refine h _ _ _ (zaG pr _) lS (zal _ _) ?_
     rw[← e]
     exact(rG.pick p hp).pre (zaG Pre.refl _)
  ·exact h.elim⟩)
def zkN  (zfw:Df K mg "islands" zcV zdD)(zge:Fk P w K mg base 4 "groups_of" zdw zdl)(zf6:Fk P w K mg base 2 "hull_of" zdA zdv):Fk P w K mg base 5 "islands" zdD zd2:=
 zfw.mk' (za1 (k:=4) zfw.F zkE (zi8) λcdv A outer s H E hr=>⟨_,(zam (zaB (zb9 (x:="numbers") (N:=["boxes"]) (caps:=[0]) (ar:=zan zcV) rfl rfl csc rfl (by decide) (zaF zge hr (zab (dv 0) zae)) (λ_ _ _ _ _ _=>zb3) (λ_ _ _ _ _ _=>(zc7 (zab (dv 0) (zab (zaF zf6 hr (zab (zb9 (x:="number") (N:=["boxes"]) (caps:=[1]) (ar:=relabel _ _) rfl rfl (cscN (ar0:=zan zcV) rfl) rfl (by decide) (dv 0) (λ_ _ _ _ _ _=>zb3) (λ_ _ _ _ _ _=>(zaQ (dv 1) (dv 0) (λ_ _=>rfl)))) zae)) zae))))))),λds S Q ex h=>by
  unfold zd2 at h
  split at h
  ·rename_i m
   obtain⟨ds,B,hm,rows,l3,l4,h⟩:=h
   refine zkX (P:=λT k=>Pre S T∧∃gs,T[k]?=some (.lst gs)∧zaS T gs ((zaf (zaa (TB B) B.length)).map (cls (zaa (TB B) B.length)))) (λK hK=>⟨ds,B,hm,rows,l3,l4,λT k gs p lk hk rk=>hK T k ⟨p,gs,hk,rk⟩⟩) ?_
   rintro T n ⟨pT,gs,hn,rG⟩ tl' htl'
   have mlen:=zaD (TB B) B.length
   have rl:=zco (zaa (TB B) B.length)
   have lgs:gs.length≤30:=by rw[rG.1,Vab]; omega
   have lL:(zaM B).length=gs.length:=by rw[rG.1]; simp[zaM]
   refine zfK (S1:=T) (n:=n) (o:=.lst gs) (λj ys S2=>Pre T S2∧S2[T.length]?=some (.lst ys)∧ys.length=j∧zaz S2 T.length ys ((zaM B).take j)) htl' hn (λj ys S2 w=>⟨w.1 _ _ hn,w.2.1,w.2.2.1⟩) (by show gs.length≤1000; omega) ⟨Pre.refl.push,zal _ _,rfl,zaz.nil⟩ (λj x ys S2 K hx w hK=>?_) (λys S2 w=>?_)
   ·obtain⟨y1,y2,y3,y4⟩:=w
    have hx':gs[j]?=some x:=hx
    obtain⟨ag,g,rfl,hg,hag⟩:=rG.get hx'
    have lt:=zbk y2
    have lag:=zbk hag
    rw[Vad] at hg
    obtain⟨v,hv,rfl⟩:=Vax.mp hg
    obtain⟨xs9,e9⟩:=zcb (zbc (TB B) B.length) (Vag hv)
    have cl:=zb4 (zaa (TB B) B.length) v
    have inn:∀i∈cls (zaa (TB B) B.length) v,i<B.length:=λi hi=>by have:=(zao.mp hi).1; omega
    have PS:Pre S S2:=λx o e=>y1 _ _ (pT _ _ e)
    refine zea (n:=ag) (S1:=S2) (o:=.lst ((cls (zaa (TB B) B.length) v).map wtD)) (λd=>match d with | .int k=>ds.getD k.toNat .non | _=>.non) (λK hK=>by exact hK) (y1 _ _ hag) (by show ((cls (zaa (TB B) B.length) v).map wtD).length≤1000; rw[Vab]; omega) (λx hx S3 K pr hK=>?_) ?_
    ·obtain⟨i,hi,rfl⟩:=Vah.mp (show x∈(cls (zaa (TB B) B.length) v).map wtD from hx)
     refine zaR (o:=.lst ds) (pr _ _ (PS _ _ hm)) (d:=ds.getD i .non) (zbN (j:=i) (zaj (by show i<ds.length; rw[rows.1]; exact inn i hi))) ?_
     exact hK
    have em:(zac (.lst ((cls (zaa (TB B) B.length) v).map wtD))).map (λd=>match d with | .int k=>ds.getD k.toNat .non | _=>.non)=(cls (zaa (TB B) B.length) v).map λi=>ds.getD i .non:=by
     show ((cls (zaa (TB B) B.length) v).map wtD).map _=_
     rw[VaA]
     rfl
    rw[em]
    have pz:Pre S2 (S2++[Ob.lst ((cls (zaa (TB B) B.length) v).map λi=>ds.getD i .non)]):=Pre.refl.push
    refine⟨(cls (zaa (TB B) B.length) v).map λi=>ds.getD i .non,(cls (zaa (TB B) B.length) v).map λi=>B.getD i [],zal _ _,?_,by rw[Vab]; omega,λb hb=>?_,by rw[Vab,e9]; exact Nat.succ_le_succ (Vaj _),λT2 k2 p2 lk2 hk2=>?_⟩
    ·refine⟨by simp,λi d r hd hr=>?_⟩
     rw[Vad] at hd hr
     obtain⟨q,hq,rfl⟩:=Vax.mp hd
     rw[hq] at hr
     cases hr
     have lq:=inn q (Vag hq)
     obtain⟨a,e,_,ha⟩:=rows.2 q _ _ (zaj (d:=.non) (by rw[rows.1]; exact lq)) (zaj (d:=[]) lq)
     exact⟨a,e,Vaj _,pz _ _ (PS _ _ ha)⟩
    ·obtain⟨q,hq,rfl⟩:=Vah.mp hb
     exact l4 _ (by rw[Vak,Vae (inn q hq)]; exact VaC ..)
    have p3:Pre S2 T2:=λx o e=>p2 _ _ (pz _ _ e)
    rw[Vao] at lk2
    have lk3:S2.length≤k2:=Vau (Nat.le_add_right _ _) lk2
    have y2':=p3 _ _ y2
    refine hK _ _ y2' ⟨zb0 (λx o e=>p3 _ _ (y1 _ _ e)) (Vaa _),zcc y2',by simp[y3],?_⟩
    have hL:(zaM B)[j]?=some (cls (zaa (TB B) B.length) v,zaV ((cls (zaa (TB B) B.length) v).map λi=>B.getD i [])):=by
     unfold zaM
     rw[Vad,hv]
     rfl
    rw[zbU hL]
    refine zaz.snoc (y4.keep λx o nx e=>zbg (p3 _ _ e) (Ne.symm nx)) (by omega) (by omega) ?_ ?_
    ·exact zbg (p3 _ _ (y1 _ _ hag)) (by omega)
    ·exact zbg hk2 (by omega)
   ·obtain⟨y1,y2,y3,y4⟩:=w
    have e9:(zaM B).take (zac (.lst gs)).length=zaM B:=Vaw (by show (zaM B).length≤gs.length; omega)
    rw[e9] at y4
    exact h _ _ _ (λx o e=>y1 _ _ (pT _ _ e)) (zeF pT) y2 y4
  ·exact h.elim⟩)
def zla  (zfa:Df K mg "_law_mix" zfC zdb):Fk P w K mg base 1 "_law_mix" zdb zc4:=
 zfa.mk' (za1 (k:=0) zfa.F zk5 (zlD) λcdv A outer s H E hr=>⟨_,(zam (zaB (zau zez (zau zbZ (zau zb7 (zau zb7 (dv 0) (zau zbZ (zau zb7 zai (dv 1)) zai)) zai) (zau zb7 (zau zb7 (dv 1) (dv 1)) zai)) zai))),λds S Q ex h=>by
  unfold zc4 at h
  split at h
  ·rename_i c k
   obtain⟨⟨k0,k1⟩,h⟩:=h
   refine⟨IntMulOk.of_left (by decide),zhg (show (2*k+3).natAbs≤1000000 by omega),IntMulOk.of_right (by decide),zhg (show k.natAbs≤1000000 by omega),IntMulOk.of_right (by decide),show (0:Int)<2147483647 by decide,?_⟩
   exact h
  ·exact h.elim⟩)
def zlP  (zep:Df K mg "_law_box" zeU zdx)(zcD:Fk P w K mg base 1 "_law_mix" zdb zc4)(zaO:mg "range"=none):Fk P w K mg base 2 "_law_box" zdx zdy:=
 zep.mk' (za1 (k:=1) zep.F zfv (zmo) λcdv A outer s H E hr=>⟨_,(zar (zaE (i:=3) zfv.nd rfl (Or.inl rfl) (zcj zae)) (zar (zfE (i:=4) PassesOwn.never rfl zfv.nd rfl (Or.inl rfl) rfl zaO (zab (dv 1) zae) (zar (zaE (i:=5) zfv.nd rfl (Or.inl rfl) (zau zez (zaF zcD hr (zab (dv 0) (zab (dv 4) zae))) (dv 2))) (zam (zfm (zgv (dv 3) (zc7 (zab (dv 5) (zab (zau zbZ (dv 5) (zau zdG (zaF zcD hr (zab (dv 0) (zab (zau zbZ (dv 4) zai) zae))) zai)) zae)))))))) (zam (zaB (dv 3))))),λds S Q ex h=>by
  unfold zdy at h
  split at h
  ·rename_i c qi w
   obtain⟨q,rfl,q3,hw,h⟩:=h
   refine⟨⟨by omega,by omega⟩,λk dl' S'=>k≤q∧Pre S S'∧(∃ps:List (Int×Int),S'[S.length]?=some (.lst (ps.map frD))∧ps.length=k∧∀p∈ps,p.1≤p.2∧0≤p.1∧p.2≤100)∧∃u4 u5:Option D,dl'=[some (.int c),some (.int (q:Nat)),some (.int w),some (.ref S.length),u4,u5],⟨Vaj _,Pre.refl.push,⟨[],zal _ _,rfl,λp hp=>by simp at hp⟩,_,_,rfl⟩,?_⟩
   rintro k dl' S' ⟨hk,pr,⟨ps,hps,lp,zp⟩,u4,u5,rfl⟩
   rw[VaS]
   refine zdU (λcc=>?_) (λcc=>?_)
   ·refine⟨⟨by omega,by omega⟩,show (0:Int)<w by omega,?_⟩
    have r1:=zhH (a:=za7 c (k:Int)) (b:=w) (by omega)
    have r2:=zhH (a:=za7 c ((k:Int)+10)) (b:=5) (by decide)
    refine zgf (n:=S.length) (S1:=S') (xs:=ps.map frD) (y:=frD (za7 c (k:Int)%w,za7 c (k:Int)%w+za7 c ((k:Int)+10)%5)) (λK hK=>by exact hK) hps (λK hK=>⟨⟨by omega,by omega⟩,hK⟩) (by rw[Vab]; omega) ?_
    refine⟨by omega,zb0 pr (Vaa _),⟨ps++[(za7 c (k:Int)%w,za7 c (k:Int)%w+za7 c ((k:Int)+10)%5)],by rw[VaM]; exact zcc hps,by rw[Vao,lp]; rfl,λp hp=>?_⟩,_,_,rfl⟩
    rcases VaW.mp hp with z | z
    ·exact zp p z
    ·rw[VaD.mp z]
     dsimp only
     omega
   ·have e:k=q:=by omega
    subst e
    exact h _ _ ps pr (Vaa _) hps lp zp
  ·exact h.elim⟩)
def zmi  (zeP:Df K mg "_law_cell_at" zfu zdQ)(zaJ:mg "len"=none):Fk P w K mg base 1 "_law_cell_at" zdQ zdC:=
 zeP.mk' (za1 (k:=0) zeP.F zmj (zmC) λcdv A outer s H E hr=>⟨_,(zar (zbn (zbT ze3 (dv 1) (zaH zcA rfl zaJ Boot.«len» (zab (dv 0) zae)) (zbu _)) (zam (zaB (zaT (dv 0) (dv 1) (λ_ _=>rfl)))) zbs) (zam (zaB zai))),λds S Q ex h=>by
  unfold zdC at h
  split at h
  ·rename_i n k
   obtain⟨ns,h1,h2,h3⟩:=h
   simp only[zgX,zbK,zim,dRet,dRetN,dIf,zfP,zfc,dC,dOp,dUn,wI,wI0,wIf,zgD,dNot,dAnd,dOr,dAndV,dOrV,dNotV,dIfE,zkG,dNil,zhX,dTup,dLst,wIx,zfy,zeI,dInst,wAbs,zd6,zd3,wEq,wNe,wIsN,zix,wNeg,zcS,Val,List.map_nil,VaO,List.length_nil,List.cons_append,List.nil_append,Nat.reduceAdd,Nat.reduceSub,List.replicate,List.getElem?_cons_zero,List.getElem?_cons_succ,List.set_cons_zero,List.set_cons_succ,ite_true,ite_false,if_true,if_false,Nat.reduceLeDiff,eq_self,p40,p41,p20,zdu,powB,Int.reduceLT,Int.reduceLE,Int.reduceNeg,decide_true,Bool.and_self,Bool.and_true,Bool.true_and,L3.eq1,L3.eq2,L3.eqT,L3.eqF,L3.eqL]
   have hA:lAt S n=some (.frz (ns.map D.int)):=zaq h1 rfl
   simp only[hA,zac,Vab]
   refine zdU (λc=>?_) (λc=>?_)
   ·have c':k<(ns.length:Int):=of_decide_eq_true c
    have hk:k.toNat<ns.length:=(by omega)
    have e:atI (ns.map D.int) k=some (.int ns[k.toNat]):=by
     have z:=zbN (xs:=ns.map D.int) (j:=k.toNat) (v:=.int ns[k.toNat]) (by simp[hk])
     rw[show ((k.toNat:Nat):Int)=k by omega] at z
     exact z
    simp only[e]
    rw[Vak,Vae hk] at h3
    exact h3
   ·have c':¬ k<(ns.length:Int):=λz=>c (decide_eq_true z)
    rw[Vak,Vaz (by omega)] at h3
    exact h3
  ·exact h.elim⟩)
def zmy  (zeK:Df K mg "_law_touch" zeW zc9)(zaO:mg "range"=none)(zaJ:mg "len"=none):Fk P w K mg base 1 "_law_touch" zc9 zda:=
 zeK.mk' (za1 (k:=0) zeK.F zhu (zls) λcdv A outer s H E hr=>⟨_,(zar (zfE (i:=2) PassesOwn.never rfl zhu.nd rfl (Or.inl rfl) rfl zaO (zab (zaH (zaU zcA) rfl zaJ Boot.«len» (zab (dv 0) zae)) zae) (zam (zbn (PDW.pt (zgN (zbT ze3 (zaT (zaQ (dv 0) (dv 2) (λ_ _=>rfl)) zai (λ_ _=>rfl)) (zaT (zaQ (dv 1) (dv 2) (λ_ _=>rfl)) zai (λ_ _=>rfl)) (zbu _)) (zgh (zbT ze3 (zaT (zaQ (dv 1) (dv 2) (λ_ _=>rfl)) zai (λ_ _=>rfl)) (zaT (zaQ (dv 0) (dv 2) (λ_ _=>rfl)) zai (λ_ _=>rfl)) (zbu _))))) (zam (zaB zbX)) zbs))) (zam (zaB zbX))),λds S Q ex h=>by
  unfold zda at h
  split at h
  ·rename_i m n
   obtain⟨us,vs,hu,hv,l,l9,su,sv,h⟩:=h
   refine zc0 hu ?_
   rw[Vab]
   have ti:=zhh su sv
   refine⟨⟨by omega,by omega⟩,λk dl' S'=>S=S'∧k≤us.length∧(∀i:Nat,i<k→(gt vs (i:Int)).1≤(gt us (i:Int)).2∧(gt us (i:Int)).1≤(gt vs (i:Int)).2)∧∃u:Option D,dl'=[some (.ref m),some (.ref n),u],⟨rfl,Vaj _,λi hi=>by omega,_,rfl⟩,?_⟩
   rintro k dl' S' ⟨rfl,hk,hd,u,rfl⟩
   rw[VaS]
   have no:∀i:Nat,i<us.length→¬((gt vs (i:Int)).1≤(gt us (i:Int)).2∧(gt us (i:Int)).1≤(gt vs (i:Int)).2)→zaY us vs=false:=λi hi hn=>by
    cases e:zaY us vs
    ·rfl
    ·have z:=ti.mp e i us[i] vs[i] (Vae hi) (Vae (by omega))
     rw[ze9 (Vae hi),ze9 (Vae (show i<vs.length by omega))] at hn
     exact absurd z hn
   refine zdU (λc=>?_) (λc=>?_)
   ·have kv:inR ((vs.length:Nat):Int) (k:Int):=⟨by omega,by omega⟩
    have ku:inR ((us.length:Nat):Int) (k:Int):=⟨by omega,by omega⟩
    refine zaR (o:=.lst (us.map frD)) hu (zfF ku) ?_
    refine zaR (o:=.lst (vs.map frD)) hv (zfF kv) ?_
    refine ifD (λw1=>?_) (λw1=>?_)
    ·rw[no k c (λz=>by omega)] at h
     exact h
    refine zaR (o:=.lst (vs.map frD)) hv (zfF kv) ?_
    refine zaR (o:=.lst (us.map frD)) hu (zfF ku) ?_
    refine ifD (λw2=>?_) (λw2=>?_)
    ·rw[no k c (λz=>by omega)] at h
     exact h
    refine⟨rfl,c,λi hi=>?_,_,rfl⟩
    by_cases e:i=k
    ·subst e
     exact⟨by omega,by omega⟩
    ·exact hd i (by omega)
   ·have e:zaY us vs=true:=ti.mpr λi p q hp hq=>by
     have hi:=(Vac.mp hp).1
     have z:=hd i (by omega)
     rw[ze9 hp,ze9 hq] at z
     exact z
    rw[e] at h
    exact h
  ·exact h.elim⟩)
def zj0  (zfL:Df K mg "_law_reached" zd0 zdW)(zcT:Fk P w K mg base 1 "_law_touch" zc9 zda)(zaX:mg "sorted"=none)(zbe:mg "any"=none):Fk P w K mg base 2 "_law_reached" zdW zd9:=
 zfL.mk' (za1 (k:=1) zfL.F zfR (zlI) λcdv A outer s H E hr=>⟨_,(zar (zaE (i:=2) zfR.nd rfl (Or.inl rfl) (zcj (zab (zaQ (dv 1) zai (λ_ _=>rfl)) zae))) (zar (zei (i:=3) PassesOwn.never rfl zfR.nd rfl (Or.inl rfl) (dv 1) (zam (zei (i:=4) PassesOwn.never rfl zfR.nd rfl (Or.inr rfl) (dv 1) (zam (zbn (PDW.pt (ziU (zbT (zhY hr) (dv 4) (dv 2) rfl) (ziV (zck (zaH (zaU (zf9 rfl)) rfl zbe Boot.«any» (zab (zb9 (x:="_law_k") (N:=["_law_boxes","_law_number"]) (caps:=[0,4]) (ar:=zan zd0) rfl rfl csc rfl (by decide) (dv 2) (λ_ _ _ _ _ _=>zb3) (λ_ _ _ _ _ _=>(zaF zcT hr (zab (zaQ (dv 1) (dv 2) (λ_ _=>rfl)) (zab (zaQ (dv 1) (dv 0) (λ_ _=>rfl)) zae))))) zae)))))) (zam (zfm (zgv (dv 2) (dv 4)))) zbs))))) (zam (zaB (zeu (zku hr) (zaH (zaU zev) rfl zaX Boot.«sorted» (zab (dv 2) zae)) (dv 1) (zbu _)))))),λds S Q ex h=>by
  unfold zd9 at h
  split at h
  ·rename_i m n
   obtain⟨ds,B,q,v,hm,rows,l3,l4,pB,vr,hn,h⟩:=h
   have ml:=zaD (TB B) B.length
   have ra:=zmm (zcu B) vr
   obtain⟨xs0,e0⟩:=zcb (zbc (TB B) B.length) vr
   have cl:=zb4 (zaa (TB B) B.length) v
   have gl:∀k∈cls (zaa (TB B) B.length) v,k<B.length:=λk hk=>by have:=(zao.mp hk).1; omega
   have gn:cls (zaa (TB B) B.length) v≠[]:=by rw[e0]; simp
   have g0:(cls (zaa (TB B) B.length) v).getD 0 0=v:=by rw[e0]; rfl
   have lg:(cls (zaa (TB B) B.length) v).length≤30:=by omega
   have gs:=zhI (zaa (TB B) B.length) v
   generalize cls (zaa (TB B) B.length) v=g at *
   have sc:∀(j i:Nat),(∀x∈zaI (TB B) (g.take i) (zaP (TB B) g j),x∈g)∧(zaI (TB B) (g.take i) (zaP (TB B) g j)).length≤30:=λj i=>by
    obtain⟨a,b⟩:=zhC (T:=TB B) gn j
    obtain⟨c,d,_⟩:=zdq (TB B) g (g.take i) _ (λx hx=>List.mem_of_mem_take hx) a b
    have:=zgp _ _ d c
    exact⟨c,by omega⟩
   refine zaR (o:=.lst (g.map wtD)) hn (d:=.int (v:Int)) (show atI (g.map wtD) ((0:Nat):Int)=some (.int (v:Int)) from zbN (j:=0) (by rw[e0]; rfl)) ?_
   have ln:=zbk hn
   have lm:=zbk hm
   have r0:(S++[Ob.lst [.int (v:Int)]])[S.length]?=some (.lst ((zaP (TB B) g 0).map wtD)):=by
    rw[zal]
    show _=some (Ob.lst ([g.getD 0 0].map wtD))
    rw[g0]
    rfl
   refine zdn (n:=n) (o:=.lst (g.map wtD)) (λj dl' S'=>Pre S S'∧S'[S.length]?=some (.lst ((zaP (TB B) g j).map wtD))∧∃u3 u4:Option D,dl'=[some (.ref m),some (.ref n),some (.ref S.length),u3,u4]) ⟨Pre.refl.push,r0,_,_,rfl⟩ (λj dl' S' z=>z.1 _ _ hn) ?_ ?_
   ·rintro j y dl' S' nx ct _ ⟨pr,hr',u3,u4,rfl⟩ hnx
    refine zdn (n:=n) (o:=.lst (g.map wtD)) (λi dl2 S2=>Pre S S2∧S2[S.length]?=some (.lst ((zaI (TB B) (g.take i) (zaP (TB B) g j)).map wtD))∧∃u4:Option D,dl2=[some (.ref m),some (.ref n),some (.ref S.length),some y,u4]) ⟨pr,hr',_,rfl⟩ (λi dl2 S2 z=>z.1 _ _ hn) ?_ ?_
    ·rintro i y2 dl2 S2 nx2 ct2 hy2 ⟨p2,hR,u4,rfl⟩ hn2
     have hy2':(g.map wtD)[i]?=some y2:=hy2
     rw[Vad] at hy2'
     obtain⟨x,hx,rfl⟩:=Vax.mp hy2'
     have lx:=gl x (Vag hx)
     have tk:=zbU hx
     have sn:=zkv (TB B) (g.take i) (zaP (TB B) g j) x
     rw[← tk] at sn
     obtain⟨rin,rlen⟩:=sc j i
     generalize zaI (TB B) (g.take i) (zaP (TB B) g j)=R at *
     refine zhO (x:=x) hR ?_
     by_cases c:x∈R
     ·rw[decide_eq_true c]
      rw[if_neg (λz=>z.1 c)] at sn
      exact hn2 _ _ ⟨p2,by rw[sn]; exact hR,_,rfl⟩
     rw[decide_eq_false c]
     refine zea (n:=S.length) (S1:=S2) (o:=.lst (R.map wtD)) (λd=>match d with | .int k=>.bl (TB B x k.toNat) | _=>.non) (λK hK=>by exact hK) hR (by show (R.map wtD).length≤1000; rw[Vab]; omega) (λy hy S3 K p3 hK=>?_) ?_
     ·obtain⟨k,hk,rfl⟩:=Vah.mp (show y∈R.map wtD from hy)
      have lk:=gl k (rin k hk)
      obtain⟨a1,ea1,ha1⟩:=zbW rows lx
      obtain⟨a2,ea2,ha2⟩:=zbW rows lk
      have P3:Pre S S3:=λx o e=>p3 _ _ (p2 _ _ e)
      refine zaR (o:=.lst ds) (P3 _ _ hm) ea1 ?_
      refine zaR (o:=.lst ds) (P3 _ _ hm) ea2 ?_
      have b1:=pB _ (zbt lx)
      have b2:=pB _ (zbt lk)
      exact⟨B.getD x [],B.getD k [],P3 _ _ ha1,P3 _ _ ha2,by rw[b1.1,b2.1],by have:=l4 _ (zbt lx); omega,λp hp=>(b1.2 p hp).1,λp hp=>(b2.2 p hp).1,hK⟩
     refine zeM (n:=S2.length) (o:=.lst _) (bs:=R.map λk=>TB B x k) (zal _ _) (zeC _ _ (λk=>rfl) _) ?_
     rw[List.any_map]
     cases et:R.any (id ∘ λk=>TB B x k)
     ·have et':(R.any λk=>TB B x k)=false:=et
      rw[if_neg (λz=>by rw[et'] at z; exact absurd z.2 (by decide))] at sn
      exact hn2 _ _ ⟨zaG p2 _,by rw[sn]; exact zap hR,_,rfl⟩
     ·have et':(R.any λk=>TB B x k)=true:=et
      rw[if_pos ⟨c,et'⟩] at sn
      refine zgf (n:=S.length) (xs:=R.map wtD) (y:=.int (x:Int)) (λK hK=>by exact hK) (zap hR) (λK hK=>by exact hK) (by rw[Vab]; omega) ?_
      refine hn2 _ _ ⟨zb0 (zaG p2 _) (Vaa _),?_,_,rfl⟩
      rw[sn,VaM]
      exact zcc (zap hR)
    ·rintro dl2 S2 ⟨p2,hR,u4,rfl⟩
     have e9:g.take (zac (.lst (g.map wtD))).length=g:=Vaw (by show g.length≤(g.map wtD).length; rw[Vab]; exact Vaa _)
     rw[e9] at hR
     exact hnx _ _ ⟨p2,hR,_,_,rfl⟩
   ·rintro dl' S' ⟨pr,hR,u3,u4,rfl⟩
    have e9:(zac (.lst (g.map wtD))).length=g.length:=by show (g.map wtD).length=_; rw[Vab]
    rw[e9] at hR
    refine ze0 (o:=.lst ((zaP (TB B) g g.length).map wtD)) (zaq hR rfl) (zdS _) (by rw[Vab,ra.length_eq]; omega) λms pm sm=>?_
    obtain⟨s,es,ps,ss⟩:=zfd pm sm
    have em:ms.map D.int=g.map wtD:=by
     rw[es,VaA,zeY (ps.trans ra) ss gs]
     rfl
    rw[em]
    refine zj9 (b:=true) (zal _ _) (zap (pr _ _ hn)) (zgK g) ?_
    exact h _ (zaG pr _)
  ·exact h.elim⟩)
def zlR  (zfz:Df K mg "_law_together" zfs zdm)(zcT:Fk P w K mg base 1 "_law_touch" zc9 zda)(zf7:Fk P w K mg base 2 "_law_reached" zdW zd9)(zaO:mg "range"=none)(zaJ:mg "len"=none):Fk P w K mg base 3 "_law_together" zdm zdB:=
 zfz.mk' (za1 (k:=2) zfz.F zfG (zjr) λcdv A outer s H E hr=>⟨_,(zar (zgx (is:=[2,3]) PassesOwn.never rfl zfG.nd (Nms.cons (i:=2) rfl (Or.inl rfl) (by first | exact .inl rfl | exact .inr rfl) (Nms.cons (i:=3) rfl (Or.inl rfl) (by first | exact .inl rfl | exact .inr rfl) Nms.nil)) (dv 1) (zar (zbn (zeD (zck (zaF zf7 hr (zab (dv 0) (zab (dv 2) zae))))) (zam (zaB zbX)) zbs) (zam (zei (i:=4) PassesOwn.never rfl zfG.nd rfl (Or.inl rfl) (dv 2) (zam (zfE (i:=5) PassesOwn.never rfl zfG.nd rfl (Or.inl rfl) rfl zaO (zab (zaH (zaU zcA) rfl zaJ Boot.«len» (zab (dv 0) zae)) zae) (zam (zbn (PDW.pt (ziU (zbT (zhY hr) (dv 5) (dv 2) rfl) (ziV (zck (zaF zcT hr (zab (zaQ (dv 0) (dv 4) (λ_ _=>rfl)) (zab (zaQ (dv 0) (dv 5) (λ_ _=>rfl)) zae))))))) (zam (zaB zbX)) zbs)))))))) (zam (zaB zbX))),λds S Q ex h=>by
  unfold zdB at h
  split at h
  ·rename_i m f
   obtain⟨ds,B,q,es,hm,rows,l3,l4,pB,hf,isl,h⟩:=h
   have ml:=zaD (TB B) B.length
   refine zgO (n:=f) (S:=S) (xs:=es) (λj dl' S'=>Pre S S'∧∃u2 u3 u4 u5:Option D,dl'=[some (.ref m),some (.ref f),u2,u3,u4,u5]) (λK hK=>by exact hK) ⟨Pre.refl,_,_,_,_,rfl⟩ (λk dl' S' z=>z.1 _ _ hf) (λk d hd=>by obtain⟨a,b,x,e,_⟩:=isl.get hd; exact⟨_,e,rfl⟩) ?_ ?_
   ·rintro j ys dl' S' nx ct hy ⟨pr,u2,u3,u4,u5,rfl⟩ hn
    obtain⟨a,b,x,ey,hx,na,nb,ha,hb⟩:=isl.get hy
    obtain⟨v,hv,rfl⟩:=zfH hx
    cases ey
    have ha:S[a]?=some (.lst ((cls (zaa (TB B) B.length) v).map wtD)):=ha
    have vr:=Vag hv
    refine⟨ds,B,q,v,pr _ _ hm,rows.pre pr,l3,l4,pB,vr,pr _ _ ha,λT pT=>?_⟩
    have PT:Pre S T:=λx o e=>pT _ _ (pr _ _ e)
    have cl:=zb4 (zaa (TB B) B.length) v
    refine zdn (n:=a) (o:=.lst ((cls (zaa (TB B) B.length) v).map wtD)) (λi dl2 S2=>S2=T∧∃u4 u5:Option D,dl2=[some (.ref m),some (.ref f),some (.ref a),some (.ref b),u4,u5]) ⟨rfl,_,_,rfl⟩ (λi dl2 S2 z=>by rw[z.1]; exact PT _ _ ha) ?_ ?_
    ·rintro i y2 dl2 S2 nx2 ct2 hy2 ⟨rfl,u4,u5,rfl⟩ hn2
     have hy2':((cls (zaa (TB B) B.length) v).map wtD)[i]?=some y2:=hy2
     rw[Vad] at hy2'
     obtain⟨x,hx,rfl⟩:=Vax.mp hy2'
     obtain⟨x1,x2⟩:=zao.mp (Vag hx)
     have lx:x<B.length:=by omega
     refine zc0 (PT _ _ hm) ?_
     rw[rows.1]
     refine⟨⟨by omega,by omega⟩,λk dl3 S3=>S3=S2∧k≤B.length∧∃u5:Option D,dl3=[some (.ref m),some (.ref f),some (.ref a),some (.ref b),some (.int (x:Int)),u5],⟨rfl,Vaj _,_,rfl⟩,?_⟩
     rintro k dl3 S3 ⟨rfl,hk,u5,rfl⟩
     rw[VaS]
     refine zdU (λc=>?_) (λc=>?_)
     ·refine zhO (x:=k) (PT _ _ ha) ?_
      by_cases d:k∈cls (zaa (TB B) B.length) v
      ·rw[decide_eq_true d]
       exact⟨rfl,c,_,rfl⟩
      rw[decide_eq_false d]
      obtain⟨a1,ea1,ha1⟩:=zbW rows lx
      obtain⟨a2,ea2,ha2⟩:=zbW rows c
      refine zaR (o:=.lst ds) (PT _ _ hm) ea1 ?_
      refine zaR (o:=.lst ds) (PT _ _ hm) ea2 ?_
      have b1:=pB _ (zbt lx)
      have b2:=pB _ (zbt c)
      refine⟨B.getD x [],B.getD k [],PT _ _ ha1,PT _ _ ha2,by rw[b1.1,b2.1],by have:=l4 _ (zbt lx); omega,λp hp=>(b1.2 p hp).1,λp hp=>(b2.2 p hp).1,?_⟩
      have no:zaY (B.getD x []) (B.getD k [])=false:=by
       cases e:zaY (B.getD x []) (B.getD k [])
       ·rfl
       ·exact absurd (zao.mpr ⟨by omega,by rw[← ze4 (zcu B) B.length x k lx c e]; exact x2⟩) d
      rw[no]
      exact⟨rfl,c,_,rfl⟩
     ·exact hn2 _ _ ⟨rfl,_,_,rfl⟩
    ·rintro dl2 S2 ⟨rfl,u4,u5,rfl⟩
     exact hn _ _ ⟨PT,_,_,_,_,rfl⟩
   ·rintro dl' S' ⟨pr,u2,u3,u4,u5,rfl⟩
    exact h _ pr
  ·exact h.elim⟩)
def zkY  (zfr:Df K mg "_law_third" ze6 zeb):Fk P w K mg base 1 "_law_third" zeb zek:=
 zfr.mk' (za1 (k:=0) zfr.F zmb (zko) λcdv A outer s H E hr=>⟨_,(zam (zaB (zau zbZ (zau zb7 zai (zaT (dv 0) zai (λ_ _=>rfl))) (zau zb7 (zau zmS (zaT (dv 0) zai (λ_ _=>rfl)) (zaT (dv 0) zai (λ_ _=>rfl))) (zau zdG (dv 1) zai))))),λds S Q ex h=>by
  unfold zek at h
  split at h
  ·rename_i a b c
   obtain⟨hab,h⟩:=h
   exact⟨IntMulOk.of_left (by decide),zkP (show Sz 100 (b-a) from Sz.of 100 (by omega)) (show Sz 100 (c%4) from Sz.of 100 (by omega)),h⟩
  ·exact h.elim⟩)
def zkm  (zeo:Df K mg "_law_within" zfb zd4)(zaO:mg "range"=none)(zaJ:mg "len"=none):Fk P w K mg base 1 "_law_within" zd4 zdE:=
 zeo.mk' (za1 (k:=0) zeo.F zh4 (zkF) λcdv A outer s H E hr=>⟨_,(zar (zfE (i:=2) PassesOwn.never rfl zh4.nd rfl (Or.inl rfl) rfl zaO (zab (zaH (zaU zcA) rfl zaJ Boot.«len» (zab (dv 1) zae)) zae) (zam (zbn (PDW.pt (zgN (zbT ze3 (zaQ (dv 0) (dv 2) (λ_ _=>rfl)) (zau zb7 zai (zaT (zaQ (dv 1) (dv 2) (λ_ _=>rfl)) zai (λ_ _=>rfl))) (zbu _)) (zgh (zbT ziQ (zaQ (dv 0) (dv 2) (λ_ _=>rfl)) (zau zb7 zai (zaT (zaQ (dv 1) (dv 2) (λ_ _=>rfl)) zai (λ_ _=>rfl))) (zbu _))))) (zam (zaB zbX)) zbs))) (zam (zaB zbX))),λds S Q ex h=>by
  unfold zdE at h
  split at h
  ·rename_i m n
   obtain⟨P,b,hm,hn,l,l9,zb,h⟩:=h
   refine zc0 hn ?_
   rw[Vab]
   refine⟨⟨by omega,by omega⟩,λk dl' S'=>S=S'∧k≤b.length∧(∀i:Nat,i<k→3*(b.getD i (0,0)).1≤P.getD i 0∧P.getD i 0≤3*(b.getD i (0,0)).2)∧∃u:Option D,dl'=[some (.ref m),some (.ref n),u],⟨rfl,Vaj _,λi hi=>by omega,_,rfl⟩,?_⟩
   rintro k dl' S' ⟨rfl,hk,hd,u,rfl⟩
   rw[VaS]
   have no:∀i:Nat,i<b.length→¬(3*(b.getD i (0,0)).1≤P.getD i 0∧P.getD i 0≤3*(b.getD i (0,0)).2)→zaK P b=false:=λi hi hn=>by
    cases e:zaK P b
    ·rfl
    ·exact absurd (zcw.mp e i hi) hn
   refine zdU (λc=>?_) (λc=>?_)
   ·have ep:atI (P.map D.int) (k:Int)=some (.int (P.getD k 0)):=zbN (j:=k) (by rw[Vad,zaj (d:=0) (show k<P.length by omega)]; rfl)
    have eb:atI (b.map frD) (k:Int)=some (frD (b.getD k (0,0))):=zbN (j:=k) (by rw[Vad,zaj (d:=((0,0):Int×Int)) c]; rfl)
    refine zaR (o:=.lst (P.map D.int)) hm ep ?_
    refine zaR (o:=.lst (b.map frD)) hn eb ?_
    refine⟨IntMulOk.of_left (by decide),?_⟩
    refine ifD (λw1=>?_) (λw1=>?_)
    ·rw[no k c (λz=>by omega)] at h
     exact h
    refine zaR (o:=.lst (P.map D.int)) hm ep ?_
    refine zaR (o:=.lst (b.map frD)) hn eb ?_
    refine⟨IntMulOk.of_left (by decide),?_⟩
    refine ifD (λw2=>?_) (λw2=>?_)
    ·rw[no k c (λz=>by omega)] at h
     exact h
    refine⟨rfl,c,λi hi=>?_,_,rfl⟩
    by_cases e:i=k
    ·subst e
     exact⟨by omega,by omega⟩
    ·exact hd i (by omega)
   ·have e:zaK P b=true:=zcw.mpr λi hi=>hd i (by omega)
    rw[e] at h
    exact h
  ·exact h.elim⟩)
def zjE  (zfn:Df K mg "_law_point_right" zdY zdM)(zfJ:Fk P w K mg base 1 "_law_within" zd4 zdE)(zbe:mg "any"=none):Fk P w K mg base 2 "_law_point_right" zdM zeh:=
 zfn.mk' (za1 (k:=1) zfn.F zfO (zjg) λcdv A outer s H E hr=>⟨_,(zar (zaE (i:=3) zfO.nd rfl (Or.inl rfl) zai) (zar (zgx (is:=[4,5]) PassesOwn.never rfl zfO.nd (Nms.cons (i:=4) rfl (Or.inl rfl) (by first | exact .inl rfl | exact .inr rfl) (Nms.cons (i:=5) rfl (Or.inl rfl) (by first | exact .inl rfl | exact .inr rfl) Nms.nil)) (dv 2) (zam (zbn (zck (zaH (zaU (zf9 rfl)) rfl zbe Boot.«any» (zab (zb9 (x:="_law_number") (N:=["_law_point","_law_boxes"]) (caps:=[0,1]) (ar:=zan zdY) rfl rfl csc rfl (by decide) (dv 4) (λ_ _ _ _ _ _=>zb3) (λ_ _ _ _ _ _=>(zaF zfJ hr (zab (dv 1) (zab (zaQ (dv 2) (dv 0) (λ_ _=>rfl)) zae))))) zae))) (zar (zaE (i:=3) zfO.nd rfl (Or.inl rfl) (zau zbZ (dv 3) zai)) (zam (zbn (zeD (zck (zaF zfJ hr (zab (dv 0) (zab (dv 5) zae))))) (zam (zaB zbX)) zbs))) zbs))) (zam (zaB (zeu (ziG hr) (dv 3) zai (zbu _)))))),λds S Q ex h=>by
  unfold zeh at h
  split at h
  ·rename_i pm m f
   obtain⟨P,ds,B,q,es,hpm,hm,rows,l3,l4,pB,lP,hf,isl,⟨i0,li0,w0⟩,h⟩:=h
   have ml:=zaD (TB B) B.length
   have rl:=zco (zaa (TB B) B.length)
   have q4:q≤4:=by rw[← (pB _ (zbt li0)).1]; exact l4 _ (zbt li0)
   refine zgO (n:=f) (S:=S) (xs:=es) (λj dl' S'=>Pre S S'∧∃u4 u5:Option D,dl'=[some (.ref pm),some (.ref m),some (.ref f),some (.int ((((zaf (zaa (TB B) B.length)).take j).filter λv=>(cls (zaa (TB B) B.length) v).any λk=>zaK P (B.getD k [])).length:Nat)),u4,u5]) (λK hK=>by exact hK) ⟨Pre.refl,_,_,rfl⟩ (λk dl' S' z=>z.1 _ _ hf) (λk d hd=>by obtain⟨a,b,x,e,_⟩:=isl.get hd; exact⟨_,e,rfl⟩) ?_ ?_
   ·rintro j ys dl' S' nx ct hy ⟨pr,u4,u5,rfl⟩ hn
    obtain⟨a,b,x,ey,hx,na,nb,ha,hb⟩:=isl.get hy
    obtain⟨v,hv,rfl⟩:=zfH hx
    cases ey
    have vr:=Vag hv
    have tk:=zbU hv
    have cl:=zb4 (zaa (TB B) B.length) v
    refine zea (n:=a) (S1:=S') (o:=.lst ((cls (zaa (TB B) B.length) v).map wtD)) (λd=>match d with | .int k=>.bl (zaK P (B.getD k.toNat [])) | _=>.non) (λK hK=>by exact hK) (pr _ _ ha) (by show ((cls (zaa (TB B) B.length) v).map wtD).length≤1000; rw[Vab]; omega) (λy hy S2 K p2 hK=>?_) ?_
    ·obtain⟨k,hk,rfl⟩:=Vah.mp (show y∈(cls (zaa (TB B) B.length) v).map wtD from hy)
     have lk:k<B.length:=by have:=(zao.mp hk).1; omega
     obtain⟨c,ec,hc⟩:=zbW rows lk
     have P2:Pre S S2:=λx o e=>p2 _ _ (pr _ _ e)
     refine zaR (o:=.lst ds) (P2 _ _ hm) ec ?_
     have pb:=pB _ (zbt lk)
     exact⟨P,B.getD k [],P2 _ _ hpm,P2 _ _ hc,by rw[pb.1,lP],by have:=l4 _ (zbt lk); omega,pb.2,hK⟩
    refine zeM (n:=S'.length) (o:=.lst _) (bs:=(cls (zaa (TB B) B.length) v).map λk=>zaK P (B.getD k [])) (zal _ _) (zeC _ _ (λk=>rfl) _) ?_
    rw[List.any_map]
    have pz:Pre S (S'++[Ob.lst ((zac (.lst ((cls (zaa (TB B) B.length) v).map wtD))).map (λd=>match d with | .int k=>.bl (zaK P (B.getD k.toNat [])) | _=>.non))]):=zaG pr _
    cases et:(cls (zaa (TB B) B.length) v).any (id ∘ λk=>zaK P (B.getD k []))
    ·have et':((cls (zaa (TB B) B.length) v).any λk=>zaK P (B.getD k []))=false:=et
     refine hn _ _ ⟨pz,some (.ref a),some (.ref b),?_⟩
     rw[tk,VaV,VaL,if_neg (by rw[et']; decide),Va7,VaZ]
     rfl
    ·have et':((cls (zaa (TB B) B.length) v).any λk=>zaK P (B.getD k []))=true:=et
     obtain⟨ne,hbs⟩:=zlO pB vr
     obtain⟨lh,zh⟩:=zmD ne hbs
     obtain⟨k1,hk1,wk1⟩:=Va2.mp et'
     have wh:zaK P (zbH B v).2=true:=zjJ (q:=q) (λb hb=>(hbs b hb).1) (Vah.mpr ⟨k1,hk1,rfl⟩) wk1
     refine⟨P,(zbH B v).2,pz _ _ hpm,pz _ _ hb,by rw[lP]; exact lh,by rw[show (zbH B v).2.length=q from lh]; omega,zh,?_⟩
     rw[wh]
     refine hn _ _ ⟨pz,some (.ref a),some (.ref b),?_⟩
     rw[tk,VaV,VaL,if_pos et',Va7,Vao]
     rfl
   ·rintro dl' S' ⟨pr,u4,u5,rfl⟩
    have e9:(zaf (zaa (TB B) B.length)).take es.length=zaf (zaa (TB B) B.length):=Vaw (by rw[isl.1,zcY,Vab]; exact Vaa _)
    have o1:=zmq (q:=q) (λb hb=>⟨(pB b hb).1,λp hp=>((pB b hb).2 p hp).1⟩) li0 w0
    rw[e9,o1]
    exact h _ pr
  ·exact h.elim⟩)
def zmL  (zfU:Df K mg "law" zbi zes)(zfj:Fk P w K mg base 5 "islands" zdD zd2)(zc2:Fk P w K mg base 1 "_law_cell_at" zdQ zdC)(zgs:Fk P w K mg base 2 "_law_point_right" zdM zeh)(zgL:Fk P w K mg base 1 "_law_third" zeb zek)(zcD:Fk P w K mg base 1 "_law_mix" zdb zc4)(zgu:Fk P w K mg base 3 "_law_together" zdm zdB)(zgm:Fk P w K mg base 2 "_law_box" zdx zdy)(zaX:mg "sorted"=none)(zbo:mg "list"=none)(zcs:mg "reversed"=none)(zaJ:mg "len"=none)(zaO:mg "range"=none)(zbf:mg "zip"=none)(zbG:mg "enumerate"=none):Fk P w K mg base 6 "law" zes zcR:=
 zfU.mk' (za1 (k:=5) zfU.F zba zjQ λcdv A outer s H E hr=>⟨_,(zar (zaE (i:=1) zba.nd rfl (Or.inr rfl) (zau zbZ zai (zau zdG (zaF zc2 hr (zab (dv 0) (zab zai zae))) zai))) (zar (zaE (i:=2) zba.nd rfl (Or.inr rfl) (zaQ (zcj (zab zai (zab zai (zab zai (zab zai zae))))) (zau zdG (zau zhj (zaF zc2 hr (zab (dv 0) (zab zai zae))) zai) zai) (λ_ _=>rfl))) (zar (zaE (i:=3) zba.nd rfl (Or.inr rfl) (zb9 (x:="_law_cell") (N:=["_law_size","_law_wide"]) (caps:=[1,2]) (ar:=zan zbi) rfl rfl csc rfl (by decide) (ze8 (dv 0) (zdc zai) (zdc zai)) (λ_ _ _ _ _ _=>zb3) (λ_ _ _ _ _ _=>(zaF zgm hr (zab (dv 0) (zab (dv 1) (zab (dv 2) zae))))))) (zar (zaE (i:=4) zba.nd rfl (Or.inl rfl) (zaF zfj hr (zab (zb9 (x:="_law_box_here") (N:=[]) (caps:=[]) (ar:=zan zbi) rfl rfl csc rfl (by decide) (dv 3) (λ_ _ _ _ _ _=>zb3) (λ_ _ _ _ _ _=>(zit (zaU ziP) rfl zbo Boot.«list» (zab (dv 0) zae)))) zae))) (zar (zaE (i:=5) zba.nd rfl (Or.inl rfl) (zcj zae)) (zar (zgx (is:=[6,7]) PassesOwn.never rfl zba.nd (Nms.cons (i:=6) rfl (Or.inl rfl) (by first | exact .inl rfl | exact .inr rfl) (Nms.cons (i:=7) rfl (Or.inl rfl) (by first | exact .inl rfl | exact .inr rfl) Nms.nil)) (dv 4) (zam (zaE (i:=5) zba.nd rfl (Or.inl rfl) (zau zgg (dv 5) (dv 6))))) (zar (zbn (PDW.pt (zgN (zbT (zjK hr) (zaH (zaU zev) rfl zaX Boot.«sorted» (zab (dv 5) zae)) (zg1 rfl rfl zbo Boot.«list» rfl zaO (zab (zaH (zaU zcA) rfl zaJ Boot.«len» (zab (dv 3) zae)) zae)) (zbu _)) (zgh (zeD (zck (zaF zgu hr (zab (dv 3) (zab (dv 4) zae)))))))) (zam (zaB zbX)) zbs) (zar (zja (is:=[8,9]) PassesOwn.never rfl zba.nd (Nms.cons (i:=8) rfl (Or.inr rfl) (by first | exact .inl rfl | exact .inr rfl) (Nms.cons (i:=9) rfl (Or.inl rfl) (by first | exact .inl rfl | exact .inr rfl) Nms.nil)) rfl rfl zbf Boot.«zip» (zab (ze8 (dv 0) (zdc zai) (zdc zai)) (zab (dv 3) zae)) (zar (zi9 (x1:="_law_k") (x2:="_law_span") (N:=["_law_cell"]) (caps:=[8]) (ar:=zan zbi) rfl rfl zdj rfl rfl rfl (by decide) (i:=10) zba.nd rfl rfl rfl zbG Boot.«enumerate» (zab (dv 9) zae) (λ_ _ _ _ _ _=>(zaF zgL hr (zab (dv 1) (zab (zaF zcD hr (zab (dv 2) (zab (zau zbZ zai (dv 0)) zae))) zae))))) (zam (zbn (zeD (zck (zaF zgs hr (zab (dv 10) (zab (dv 3) (zab (dv 4) zae)))))) (zam (zaB zbX)) zbs)))) (zar (zaE (i:=11) zba.nd rfl (Or.inr rfl) (zg1 rfl rfl zbo Boot.«list» rfl zaO (zab (zaH (zaU zcA) rfl zaJ Boot.«len» (zab (dv 3) zae)) zae))) (zar (zaE (i:=12) zba.nd rfl (Or.inl rfl) (zau zez (zau zhj (zaF zc2 hr (zab (dv 0) (zab zai zae))) zai) (zau zbZ (zaH (zaU zcA) rfl zaJ Boot.«len» (zab (dv 3) zae)) zai))) (zar (zaE (i:=11) zba.nd rfl (Or.inr rfl) (zau zgg (ze8 (dv 11) (zdc (dv 12)) zhJ) (ze8 (dv 11) zhJ (zdc (dv 12))))) (zar (zbn (zbT (ziG hr) (zau zdG (zaF zc2 hr (zab (dv 0) (zab zai zae))) zai) zai (zbu _)) (zam (zaE (i:=11) zba.nd rfl (Or.inr rfl) (zjN rfl rfl zbo Boot.«list» rfl zcs Boot.«reversed» (dv 11)))) zbs) (zar (zaE (i:=13) zba.nd rfl (Or.inl rfl) (zaF zfj hr (zab (zb9 (x:="_law_number") (N:=["_law_boxes"]) (caps:=[3]) (ar:=zan zbi) rfl rfl csc rfl (by decide) (dv 11) (λ_ _ _ _ _ _=>zb3) (λ_ _ _ _ _ _=>(zit (zaU ziP) rfl zbo Boot.«list» (zab (zaQ (dv 1) (dv 0) (λ_ _=>rfl)) zae)))) zae))) (zar (zaE (i:=14) zba.nd rfl (Or.inl rfl) (zaH (zaU (zid hr)) rfl zaX Boot.«sorted» (zab (zg2 (x1:="_law_numbers") (x2:="_law_ends") (N:=["_law_order"]) (caps:=[11]) (ar:=zan zbi) rfl rfl zdj rfl rfl rfl (by decide) (dv 13) (λ_ _ _ _ _ _=>(zc7 (zab (zaH (zaU zev) rfl zaX Boot.«sorted» (zab (zb9 (x:="_law_k") (N:=["_law_order"]) (caps:=[2]) (ar:=relabel _ _) rfl rfl (cscN (ar0:=zan zbi) rfl) rfl (by decide) (dv 0) (λ_ _ _ _ _ _=>zb3) (λ_ _ _ _ _ _=>(zaQ (dv 1) (dv 0) (λ_ _=>rfl)))) zae)) (zab (dv 1) zae))))) zae))) (zam (zaB (zeu (zj5 hr) (dv 14) (zaH (zaU (zid hr)) rfl zaX Boot.«sorted» (zab (zg2 (x1:="_law_numbers") (x2:="_law_ends") (N:=[]) (caps:=[]) (ar:=zan zbi) rfl rfl zdj rfl rfl rfl (by decide) (dv 4) (λ_ _ _ _ _ _=>(zc7 (zab (dv 0) (zab (dv 1) zae))))) zae)) (zbu _)))))))))))))))))),λds S Q ex h=>by
  obtain⟨ns,rfl,rfl,hl,h⟩:=h
  refine zby (λdl2 S2=>S2=[Ob.frz (ns.map D.int)]∧∃q:Nat,(1≤q∧q≤3)∧dl2=[some (.ref 0),some (.int (q:Nat)),none,none,none,none,none,none,none,none,none,none,none,none,none]) (λnx hn=>?_) ?_
  ·refine⟨ns,rfl,by decide,?_⟩
   refine hn _ _ ⟨rfl,(1+ns.getD (0:Int).toNat 0%3).toNat,by omega,?_⟩
   rw[show (((1+ns.getD (0:Int).toNat 0%3).toNat:Nat):Int)=1+ns.getD (0:Int).toNat 0%3 by omega]
   rfl
  rintro dl2 S2 ⟨rfl,q,hq,rfl⟩
  refine zby (λdl2 S2=>S2[0]?=some (Ob.frz (ns.map D.int))∧∃w:Int,(1≤w∧w≤40)∧dl2=[some (.ref 0),some (.int (q:Nat)),some (.int w),none,none,none,none,none,none,none,none,none,none,none,none]) (λnx hn=>?_) ?_
  ·refine⟨ns,rfl,by decide,?_⟩
   obtain⟨w,er,w1,w2⟩:∃w:Int,atI [D.int 10,.int 14,.int 22,.int 40] (ns.getD (0:Int).toNat 0/3%4)=some (.int w)∧1≤w∧w≤40:=by
    generalize ns.getD (0:Int).toNat 0=x
    have e:x/3%4=0∨x/3%4=1∨x/3%4=2∨x/3%4=3:=by omega
    rcases e with e | e | e | e <;> rw[e]
    ·exact⟨10,rfl,by decide,by decide⟩
    ·exact⟨14,rfl,by decide,by decide⟩
    ·exact⟨22,rfl,by decide,by decide⟩
    ·exact⟨40,rfl,by decide,by decide⟩
   refine zaR (n:=[Ob.frz (ns.map D.int)].length) (o:=.lst [D.int 10,.int 14,.int 22,.int 40]) (zal _ _) er ?_
   exact hn _ _ ⟨rfl,w,⟨w1,w2⟩,rfl⟩
  rintro dl2 S2 ⟨h0,w,hw,rfl⟩
  have e30:(L3.zbb (ns.map D.int) (some 2) (some 18)).length≤18-2:=zlN (ns.map D.int) 2 18
  have eci:∀(j:Nat) (x:D),(L3.zbb (ns.map D.int) (some 2) (some 18))[j]?=some x→∃c:Int,x=.int c:=λj x hx=>zmM hx
  generalize ec:L3.zbb (ns.map D.int) (some 2) (some 18)=cs at e30 eci
  try dsimp only
  refine zby (λdl2 S3=>Pre S2 S3∧∃(bm:Nat) (ds:List D) (B:List (List (Int×Int))),S3[bm]?=some (.lst ds)∧zas S3 0 ds B∧B.length=cs.length∧(∀b∈B,b.length=q∧∀p∈b,p.1≤p.2∧0≤p.1∧p.2≤100)∧dl2=[some (.ref 0),some (.int (q:Nat)),some (.int w),some (.ref bm),none,none,none,none,none,none,none,none,none,none,none]) (λnx hn=>?_) ?_
  ·have hc:=zal S2 (.lst cs)
   have pc:Pre S2 (S2++[Ob.lst cs]):=Pre.refl.push
   refine zfK (S1:=S2++[Ob.lst cs]) (n:=S2.length) (o:=.lst cs) (λj ys S3=>Pre (S2++[Ob.lst cs]) S3∧S3[(S2++[Ob.lst cs]).length]?=some (.lst ys)∧ys.length=j∧∃B:List (List (Int×Int)),zas S3 ((S2++[Ob.lst cs]).length+1) ys B∧(∀b∈B,b.length=q∧∀p∈b,p.1≤p.2∧0≤p.1∧p.2≤100)) (λK hK=>zfh (n:=0) (o:=.frz (ns.map D.int)) (lo:=some 2) (hi:=some 18) (S3:=S2) (λK hK=>by exact hK) (λK hK=>by exact hK) (λK hK=>by exact hK) h0 (by show K (.ref S2.length) (S2++[Ob.lst (L3.zbb (ns.map D.int) (some 2) (some 18))]); rw[ec]; exact hK)) hc (λj ys S3 z=>⟨z.1 _ _ hc,z.2.1,z.2.2.1⟩) (by show cs.length≤1000; omega) ⟨Pre.refl.push,zal _ _,rfl,[],zas.nil,λb hb=>by simp at hb⟩ (λj x ys S3 K hx z hK=>?_) (λys S3 z=>?_)
   ·obtain⟨y1,y2,y3,B,y4,y5⟩:=z
    obtain⟨c,rfl⟩:=eci j x hx
    refine⟨q,rfl,hq.2,hw,λT b ps p1 lb hb lp zp=>?_⟩
    have lt:=zbk y2
    have y2':=p1 _ _ y2
    refine hK _ _ y2' ⟨zb0 (λx o e=>p1 _ _ (y1 _ _ e)) (Vaa _),zcc y2',by simp[y3],B++[ps],?_,λb' hb'=>?_⟩
    ·refine zas.snoc (zas.keep y4 λx o lx e=>zbg (p1 _ _ e) (by omega)) (by omega) (zbg hb (by omega))
    ·rcases VaW.mp hb' with v | v
     ·exact y5 b' v
     ·rw[VaD.mp v]; exact⟨lp,zp⟩
   ·obtain⟨y1,y2,y3,B,y4,y5⟩:=z
    refine hn _ _ ⟨λx o e=>y1 _ _ (pc _ _ e),_,ys,B,y2,y4.low (Vaj _),?_,y5,rfl⟩
    rw[← y4.1,y3]
    rfl
  rintro dl2 S3 ⟨p3,bm,ds,B,hbm,rB,lB,zB,rfl⟩
  have h03:=p3 _ _ h0
  clear p3 h0
  have l3:B.length≤30:=by omega
  have l4:∀b∈B,b.length≤4:=λb hb=>by have:=(zB b hb).1; omega
  have ml:=zaD (TB B) B.length
  have rl:=zco (zaa (TB B) B.length)
  have mo:=zbc (TB B) B.length
  try dsimp only
  refine zby (λdl2 S4=>Pre S3 S4∧∃(fm:Nat) (es:List D),S4[fm]?=some (.lst es)∧zaz S4 fm es (zaM B)∧dl2=[some (.ref 0),some (.int (q:Nat)),some (.int w),some (.ref bm),some (.ref fm),none,none,none,none,none,none,none,none,none,none]) (λnx hn=>?_) ?_
  ·refine zfK (S1:=S3) (n:=bm) (o:=.lst ds) (λj ys S5=>Pre S3 S5∧S5[S3.length]?=some (.lst ys)∧ys.length=j∧zas S5 (S3.length+1) ys (B.take j)) (λK hK=>by exact hK) hbm (λj ys S5 z=>⟨z.1 _ _ hbm,z.2.1,z.2.2.1⟩) (by show ds.length≤1000; rw[rB.1]; omega) ⟨Pre.refl.push,zal _ _,rfl,zas.nil⟩ (λj x ys S5 K hx z hK=>?_) (λys S5 z=>?_)
   ·obtain⟨y1,y2,y3,y4⟩:=z
    have hx':ds[j]?=some x:=hx
    have hj:j<B.length:=by have:=(Vac.mp hx').1; rw[rB.1] at this; exact this
    have gB:=Vae hj
    obtain⟨a,rfl,_,ha⟩:=rB.2 j x _ hx' gB
    refine zik (zaq (y1 _ _ ha) rfl) ?_
    dsimp only[zac]
    have lt:=zbk y2
    refine hK _ _ (zap y2) ⟨zb0 (zaG y1 _) (Vaa _),zcc (zap y2),by simp[y3],?_⟩
    rw[zbU gB]
    refine zas.snoc (zas.keep y4 λx o lx e=>zbg (zap e) (by omega)) (by omega) (zbg (zal _ _) (by omega))
   ·obtain⟨y1,y2,y3,y4⟩:=z
    have e9:B.take (zac (.lst ds)).length=B:=Vaw (by show B.length≤ds.length; rw[rB.1]; exact Vaa _)
    rw[e9] at y4
    refine⟨ys,B,y2,y4.low (Vaj _),l3,l4,λT k es pT lk hk isl=>?_⟩
    exact hn _ _ ⟨λx o e=>pT _ _ (y1 _ _ e),k,es,hk,isl,rfl⟩
  rintro dl2 S4 ⟨p4,fm,es,hfm,isl,rfl⟩
  have hbm:=p4 _ _ hbm
  have rB:=rB.pre p4
  have h03:=p4 _ _ h03
  clear p4
  try dsimp only
  refine zjc (λdl2 S5=>Pre S4 S5∧∃em:Nat,S5[em]?=some (.lst (((zaf (zaa (TB B) B.length)).map (cls (zaa (TB B) B.length))).flatten.map wtD))∧∃u6 u7:Option D,dl2=[some (.ref 0),some (.int (q:Nat)),some (.int w),some (.ref bm),some (.ref fm),some (.ref em),u6,u7,none,none,none,none,none,none,none]) (λnx hn=>?_) ?_
  ·refine zgO (n:=fm) (xs:=es) (λj dl' S'=>Pre S4 S'∧∃em:Nat,S'[em]?=some (.lst ((((zaf (zaa (TB B) B.length)).take j).map (cls (zaa (TB B) B.length))).flatten.map wtD))∧∃u6 u7:Option D,dl'=[some (.ref 0),some (.int (q:Nat)),some (.int w),some (.ref bm),some (.ref fm),some (.ref em),u6,u7,none,none,none,none,none,none,none]) (λK hK=>by exact hK) ⟨Pre.refl.push,_,zal _ _,_,_,rfl⟩ (λk dl' S' z=>z.1 _ _ hfm) (λk d hd=>by obtain⟨a,b,x,e,_⟩:=isl.get hd; exact⟨_,e,rfl⟩) ?_ ?_
   ·rintro j ys dl' S' nx2 ct hy ⟨pr,em,hem,u6,u7,rfl⟩ hn2
    obtain⟨a,b,x,ey,hx,na,nb,ha,hb⟩:=isl.get hy
    obtain⟨v,hv,rfl⟩:=zfH hx
    cases ey
    have ha:S4[a]?=some (.lst ((cls (zaa (TB B) B.length) v).map wtD)):=ha
    have f1:=zmH mo j
    have f2:=zb4 (zaa (TB B) B.length) v
    refine zgQ hem (pr _ _ ha) (by rw[Vab,Vab]; omega) ?_
    refine hn2 _ _ ⟨zaG pr _,S'.length,?_,some (.ref a),some (.ref b),rfl⟩
    rw[zbU hv,VaM,List.flatten_append,VaM,zal]
    simp
   ·rintro dl' S' ⟨pr,em,hem,u6,u7,rfl⟩
    have e9:(zaf (zaa (TB B) B.length)).take es.length=zaf (zaa (TB B) B.length):=Vaw (by rw[isl.1,zcY,Vab]; exact Vaa _)
    rw[e9] at hem
    exact hn _ _ ⟨pr,em,hem,_,_,rfl⟩
  rintro dl2 S5 ⟨p5,em,hem,u6,u7,rfl⟩
  have hbm:=p5 _ _ hbm
  have rB:=rB.pre p5
  have h03:=p5 _ _ h03
  have hfm:=p5 _ _ hfm
  have isl:=isl.keep (T:=S5) λx o _ e=>p5 _ _ e
  clear p5
  try dsimp only
  refine zby (λdl2 S6=>Pre S5 S6∧dl2=[some (.ref 0),some (.int (q:Nat)),some (.int w),some (.ref bm),some (.ref fm),some (.ref em),u6,u7,none,none,none,none,none,none,none]) (λnx hn=>?_) ?_
  ·refine ze0 (zaq hem rfl) (zdS _) (by rw[Vab,(zgd mo).length_eq,Vat]; omega) λms pm sm=>?_
   obtain⟨s,es',ps,ss⟩:=zfd pm sm
   have em':ms.map D.int=(List.range B.length).map wtD:=by
    have z:=zeY (ps.trans (zgd mo)) ss Va4
    rw[ml] at z
    rw[es',VaA,z]
    rfl
   rw[em']
   refine zhw (j:=(ds.length:Nat)) (S1:=S5++[Ob.lst ((List.range B.length).map wtD)]) (λK hK=>zc0 (zap hbm) hK) (by rw[rB.1]; omega) ?_
   refine zkM (b:=true) (zaq (zap (zal _ _)) rfl) (zaq (zal _ _) rfl) ?_ ?_
   ·rw[rB.1,VaS]
    exact zgK _
   have P6:Pre S5 (S5++[Ob.lst ((List.range B.length).map wtD)]++[Ob.lst ((List.range ((ds.length:Nat):Int).toNat).map λ(k:Nat)=>D.int (k:Int))]):=zaG (zaG Pre.refl _) _
   refine⟨ds,B,q,es,P6 _ _ hbm,rB.pre P6,l3,l4,zB,P6 _ _ hfm,isl.keep λx o _ e=>P6 _ _ e,λT pT=>?_⟩
   exact hn _ _ ⟨λx o e=>pT _ _ (P6 _ _ e),rfl⟩
  rintro dl2 S6 ⟨p6,rfl⟩
  have hbm:=p6 _ _ hbm
  have rB:=rB.pre p6
  have h03:=p6 _ _ h03
  have hfm:=p6 _ _ hfm
  have isl:=isl.keep (T:=S6) λx o _ e=>p6 _ _ e
  clear p6
  try dsimp only
  refine zby (λdl2 S7=>Pre S6 S7∧∃u8 u9 u10:Option D,dl2=[some (.ref 0),some (.int (q:Nat)),some (.int w),some (.ref bm),some (.ref fm),some (.ref em),u6,u7,u8,u9,u10,none,none,none,none]) (λnx hn=>?_) ?_
  ·have hc:=zal S6 (.lst cs)
   have pc:Pre S6 (S6++[Ob.lst cs]):=Pre.refl.push
   refine zmV (n:=S6.length) (n':=bm) (S1:=S6++[Ob.lst cs]) (xs:=cs) (ys:=ds) (λj dl' S'=>Pre (S6++[Ob.lst cs]) S'∧∃u8 u9 u10:Option D,dl'=[some (.ref 0),some (.int (q:Nat)),some (.int w),some (.ref bm),some (.ref fm),some (.ref em),u6,u7,u8,u9,u10,none,none,none,none]) (λK hK=>zfh (n:=0) (o:=.frz (ns.map D.int)) (lo:=some 2) (hi:=some 18) (S3:=S6) (λK hK=>by exact hK) (λK hK=>by exact hK) (λK hK=>by exact hK) h03 (by dsimp only[zac]; rw[ec]; exact hK)) (λk dl' S' z=>⟨z.1 _ _ hc,z.1 _ _ (pc _ _ hbm)⟩) (by rw[rB.1,lB]) ⟨Pre.refl,_,_,_,rfl⟩ ?_ ?_
   ·rintro j x y dl' S' nx2 ct hx hy ⟨pr,u8,u9,u10,rfl⟩ hn2
    obtain⟨c,rfl⟩:=eci j x hx
    have hj:j<B.length:=by have:=(Vac.mp hy).1; rw[rB.1] at this; exact this
    have gB:=zaj (d:=[]) hj
    obtain⟨a,rfl,_,ha⟩:=rB.2 j y _ hy gB
    have PS:Pre S6 S':=λx o e=>pr _ _ (pc _ _ e)
    have b1:=zB _ (zbt hj)
    refine zlJ (n:=a) (S1:=S') (xs:=(B.getD j []).map frD) (ptF c) (λK hK=>by exact hK) (PS _ _ ha) (by rw[Vab]; omega) (λk x hx S2 K p2 hK=>?_) ?_
    ·rw[Vad] at hx
     obtain⟨p,hp,rfl⟩:=Vax.mp hx
     have lk:=(Vac.mp hp).1
     have pp:=b1.2 p (Vag hp)
     exact⟨⟨by omega,by omega⟩,⟨by omega,by omega,by omega⟩,hK⟩
    rw[zjI]
    have P2:Pre S6 (S'++[Ob.lst ((ptS c (B.getD j [])).map D.int)]):=zaG PS _
    refine⟨ptS c (B.getD j []),ds,B,q,es,zal _ _,P2 _ _ hbm,rB.pre P2,l3,l4,zB,by rw[zjd,b1.1],P2 _ _ hfm,isl.keep λx o _ e=>P2 _ _ e,⟨j,hj,pt_in λp hp=>(b1.2 p hp).1⟩,λT pT=>?_⟩
    exact hn2 _ _ ⟨λx o e=>pT _ _ (zaG pr _ _ _ e),_,_,_,rfl⟩
   ·rintro dl' S' ⟨pr,u8,u9,u10,rfl⟩
    exact hn _ _ ⟨λx o e=>pr _ _ (pc _ _ e),_,_,_,rfl⟩
  rintro dl2 S7 ⟨p7,u8,u9,u10,rfl⟩
  have hbm:=p7 _ _ hbm
  have rB:=rB.pre p7
  have h03:=p7 _ _ h03
  have hfm:=p7 _ _ hfm
  have isl:=isl.keep (T:=S7) λx o _ e=>p7 _ _ e
  clear p7
  try dsimp only
  refine zby (λdl2 S8=>Pre S7 S8∧∃om:Nat,S8[om]?=some (.lst ((List.range B.length).map wtD))∧dl2=[some (.ref 0),some (.int (q:Nat)),some (.int w),some (.ref bm),some (.ref fm),some (.ref em),u6,u7,u8,u9,u10,some (.ref om),none,none,none]) (λnx hn=>?_) ?_
  ·refine zhw (j:=(ds.length:Nat)) (S1:=S7) (λK hK=>zc0 hbm hK) (by rw[rB.1]; omega) ?_
   refine hn _ _ ⟨Pre.refl.push,S7.length,?_,rfl⟩
   rw[zal,rB.1,VaS]
   rfl
  rintro dl2 S8 ⟨p8,om,hom,rfl⟩
  have hbm:=p8 _ _ hbm
  have rB:=rB.pre p8
  have h03:=p8 _ _ h03
  have hfm:=p8 _ _ hfm
  have isl:=isl.keep (T:=S8) λx o _ e=>p8 _ _ e
  clear p8
  try dsimp only
  refine zby (λdl2 S9=>S9=S8∧∃c:Nat,dl2=[some (.ref 0),some (.int (q:Nat)),some (.int w),some (.ref bm),some (.ref fm),some (.ref em),u6,u7,u8,u9,u10,some (.ref om),some (.int (c:Nat)),none,none]) (λnx hn=>?_) ?_
  ·refine⟨ns,h03,by decide,?_⟩
   refine zc0 hbm ?_
   refine⟨show (0:Int)<((ds.length:Nat):Int)+1 by omega,?_⟩
   refine hn _ _ ⟨rfl,(ns.getD (1:Int).toNat 0/2%(((ds.length:Nat):Int)+1)).toNat,?_⟩
   rw[show (((ns.getD (1:Int).toNat 0/2%(((ds.length:Nat):Int)+1)).toNat:Nat):Int)=ns.getD (1:Int).toNat 0/2%(((ds.length:Nat):Int)+1) from Int.toNat_of_nonneg (Int.emod_nonneg _ (by omega))]
   rfl
  rintro dl2 S9 ⟨rfl,c,rfl⟩
  try dsimp only
  refine zby (λdl2 S10=>Pre S9 S10∧∃om:Nat,S10[om]?=some (.lst (((List.range B.length).drop c++(List.range B.length).take c).map wtD))∧dl2=[some (.ref 0),some (.int (q:Nat)),some (.int w),some (.ref bm),some (.ref fm),some (.ref em),u6,u7,u8,u9,u10,some (.ref om),some (.int (c:Nat)),none,none]) (λnx hn=>?_) ?_
  ·refine zfh (n:=om) (o:=.lst ((List.range B.length).map wtD)) (lo:=some (c:Int)) (hi:=none) (S3:=S9) (λK hK=>by exact hK) (λK hK=>by exact hK) (λK hK=>by exact hK) hom ?_
   refine zfh (n:=om) (o:=.lst ((List.range B.length).map wtD)) (lo:=none) (hi:=some (c:Int)) (λK hK=>by exact hK) (λK hK=>by exact hK) (λK hK=>by exact hK) (zap hom) ?_
   dsimp only[zac]
   rw[zma,zl5]
   refine zgQ (zap (zal _ _)) (zal _ _) (by rw[List.length_drop,VaJ,Vab,Vat]; omega) ?_
   have el:((List.range B.length).drop c++(List.range B.length).take c).map wtD=((List.range B.length).map wtD).drop c++((List.range B.length).map wtD).take c:=by rw[VaM,List.map_drop,List.map_take]
   refine hn _ _ ⟨zaG (zaG (zaG Pre.refl _) _) _,_,by rw[el]; exact zal _ _,rfl⟩
  rintro dl2 S10 ⟨p10,om2,hom2,rfl⟩
  clear hom
  have hbm:=p10 _ _ hbm
  have rB:=rB.pre p10
  have h03:=p10 _ _ h03
  have hfm:=p10 _ _ hfm
  have isl:=isl.keep (T:=S10) λx o _ e=>p10 _ _ e
  clear p10
  try dsimp only
  refine zby (λdl2 S11=>Pre S10 S11∧∃(om:Nat) (o:List Nat),o.Perm (List.range B.length)∧S11[om]?=some (.lst (o.map wtD))∧dl2=[some (.ref 0),some (.int (q:Nat)),some (.int w),some (.ref bm),some (.ref fm),some (.ref em),u6,u7,u8,u9,u10,some (.ref om),some (.int (c:Nat)),none,none]) (λnx hn=>?_) ?_
  ·refine⟨ns,h03,by decide,?_⟩
   refine ifD (λe=>?_) (λe=>?_)
   ·refine zmg (n:=om2) (S1:=S10) (λK hK=>by exact hK) hom2 ?_
    refine hn _ _ ⟨Pre.refl.push,S10.length,((List.range B.length).drop c++(List.range B.length).take c).reverse,(List.reverse_perm _).trans (zih _ _),?_,rfl⟩
    rw[zal,List.map_reverse]
   ·exact hn _ _ ⟨Pre.refl,om2,_,zih _ _,hom2,rfl⟩
  rintro dl2 S11 ⟨p11,om,o,ho,hom,rfl⟩
  clear hom2
  have hbm:=p11 _ _ hbm
  have rB:=rB.pre p11
  have hfm:=p11 _ _ hfm
  have isl:=isl.keep (T:=S11) λx o _ e=>p11 _ _ e
  clear p11 h03
  have lo:o.length=B.length:=by rw[ho.length_eq,Vat]
  have mxl:=zm1 ho
  have zM:∀b∈zak B o,b∈B:=λb hb=>by
   obtain⟨i,hi,rfl⟩:=Vah.mp hb
   exact zbt (Vaq.mp (ho.mem_iff.mp hi))
  try dsimp only
  refine zby (λdl2 S12=>Pre S11 S12∧∃(am:Nat) (es2:List D),S12[am]?=some (.lst es2)∧zaz S12 am es2 (zaM (zak B o))∧dl2=[some (.ref 0),some (.int (q:Nat)),some (.int w),some (.ref bm),some (.ref fm),some (.ref em),u6,u7,u8,u9,u10,some (.ref om),some (.int (c:Nat)),some (.ref am),none]) (λnx hn=>?_) ?_
  ·refine zfK (S1:=S11) (n:=om) (o:=.lst (o.map wtD)) (λj ys S5=>Pre S11 S5∧S5[S11.length]?=some (.lst ys)∧ys.length=j∧zas S5 (S11.length+1) ys ((zak B o).take j)) (λK hK=>by exact hK) hom (λj ys S5 z=>⟨z.1 _ _ hom,z.2.1,z.2.2.1⟩) (by show (o.map wtD).length≤1000; rw[Vab]; omega) ⟨Pre.refl.push,zal _ _,rfl,zas.nil⟩ (λj x ys S5 K hx z hK=>?_) (λys S5 z=>?_)
   ·obtain⟨y1,y2,y3,y4⟩:=z
    have hx':(o.map wtD)[j]?=some x:=hx
    rw[Vad] at hx'
    obtain⟨i,hi,rfl⟩:=Vax.mp hx'
    have li:i<B.length:=Vaq.mp (ho.mem_iff.mp (Vag hi))
    obtain⟨a,ea,ha⟩:=zbW rB li
    refine zaR (o:=.lst ds) (y1 _ _ hbm) ea ?_
    refine zik (zaq (y1 _ _ ha) rfl) ?_
    dsimp only[zac]
    have lt:=zbk y2
    refine hK _ _ (zap y2) ⟨zb0 (zaG y1 _) (Vaa _),zcc (zap y2),by simp[y3],?_⟩
    rw[zbU (x:=B.getD i []) (by rw[Vad,hi]; rfl)]
    refine zas.snoc (zas.keep y4 λx o lx e=>zbg (zap e) (by omega)) (by omega) (zbg (zal _ _) (by omega))
   ·obtain⟨y1,y2,y3,y4⟩:=z
    have e9:(zak B o).take (zac (.lst (o.map wtD))).length=zak B o:=Vaw (by show (zak B o).length≤(o.map wtD).length; rw[Vab,Vab]; exact Vaa _)
    rw[e9] at y4
    refine⟨ys,zak B o,y2,y4.low (Vaj _),by rw[mxl]; exact l3,λb hb=>l4 b (zM b hb),λT k es2 pT lk hk isl2=>?_⟩
    exact hn _ _ ⟨λx o e=>pT _ _ (y1 _ _ e),k,es2,hk,isl2,rfl⟩
  rintro dl2 S12 ⟨p12,am,es2,ham,isl2,rfl⟩
  have hom:=p12 _ _ hom
  have hfm:=p12 _ _ hfm
  have isl:=isl.keep (T:=S12) λx o _ e=>p12 _ _ e
  clear p12 rB hbm
  have mlm:=zaD (TB (zak B o)) B.length
  have rlm:=zco (zaa (TB (zak B o)) B.length)
  have le2:es2.length=(zaf (zaa (TB (zak B o)) B.length)).length:=by rw[isl2.1,zcY,Vab,mxl]
  try dsimp only
  refine zby (λdl2 S13=>Pre S12 S13∧∃(tm x0:Nat) (fs:List D),S13[tm]?=some (.lst fs)∧zaz S13 x0 fs (zaM B)∧dl2=[some (.ref 0),some (.int (q:Nat)),some (.int w),some (.ref bm),some (.ref fm),some (.ref em),u6,u7,u8,u9,u10,some (.ref om),some (.int (c:Nat)),some (.ref am),some (.ref tm)]) (λnx hn=>?_) ?_
  ·refine zir (S1:=S12) (n:=am) (es:=es2) (λj ys S5=>Pre S12 S5∧S5[S12.length]?=some (.lst ys)∧ys.length=j∧zaz S5 S12.length ys ((((zaf (zaa (TB (zak B o)) B.length)).map (rOf B o)).take j).map (zbH B))) (λK hK=>by exact hK) ham (λj ys S5 z=>⟨z.1 _ _ ham,z.2.1,z.2.2.1⟩) (by omega) (λk d hd=>by obtain⟨a,b,x,e,_⟩:=isl2.get hd; exact⟨_,_,e⟩) ⟨Pre.refl.push,zal _ _,rfl,zaz.nil⟩ (λj x y ys S5 K hx z hK=>?_) (λys S5 z=>?_)
   ·obtain⟨y1,y2,y3,y4⟩:=z
    obtain⟨a,b,w',ey,hw',na,nb,ha,hb⟩:=isl2.get hx
    obtain⟨v,hv,rfl⟩:=zfH hw'
    cases ey
    have ha:S12[a]?=some (.lst ((cls (zaa (TB (zak B o)) (zak B o).length) v).map wtD)):=ha
    have hb:S12[b]?=some (.lst ((zaV ((cls (zaa (TB (zak B o)) (zak B o).length) v).map λi=>(zak B o).getD i [])).map frD)):=hb
    rw[mxl] at hv ha hb
    have vr:=Vag hv
    rw[zj2 (q:=q) (λb hb=>(zB b hb).1) ho vr] at hb
    have lc:=zb4 (zaa (TB (zak B o)) B.length) v
    refine zea (n:=a) (S1:=S5) (o:=.lst ((cls (zaa (TB (zak B o)) B.length) v).map wtD)) (λd=>match d with | .int k=>.int ((o.getD k.toNat 0:Nat):Int) | _=>.non) (λK hK=>by exact hK) (y1 _ _ ha) (by show ((cls (zaa (TB (zak B o)) B.length) v).map wtD).length≤1000; rw[Vab]; omega) (λy hy S6 K p6 hK=>?_) ?_
    ·obtain⟨k,hk,rfl⟩:=Vah.mp (show y∈(cls (zaa (TB (zak B o)) B.length) v).map wtD from hy)
     have lk:k<o.length:=by have:=(zao.mp hk).1; omega
     refine zaR (o:=.lst (o.map wtD)) (p6 _ _ (y1 _ _ hom)) (d:=.int ((o.getD k 0:Nat):Int)) (zbN (j:=k) (by show (o.map wtD)[k]?=_; rw[Vad,zaj (d:=0) lk]; rfl)) ?_
     exact hK
    have em1:(zac (.lst ((cls (zaa (TB (zak B o)) B.length) v).map wtD))).map (λd=>match d with | .int k=>.int ((o.getD k.toNat 0:Nat):Int) | _=>.non)=((cls (zaa (TB (zak B o)) B.length) v).map λa=>o.getD a 0).map wtD:=by
     show ((cls (zaa (TB (zak B o)) B.length) v).map wtD).map _=_
     rw[VaA,VaA]
     rfl
    rw[em1]
    refine ze0 (o:=.lst (((cls (zaa (TB (zak B o)) B.length) v).map λa=>o.getD a 0).map wtD)) (zaq (zal _ _) rfl) (zdS _) (by rw[Vab,Vab]; omega) λms pm sm=>?_
    obtain⟨s,es',ps,ss⟩:=zfd pm sm
    have em':ms.map D.int=(zbH B (rOf B o v)).1.map wtD:=by
     rw[es',VaA,zeY (ps.trans (zhS ho vr)) ss (zhI _ _)]
     rfl
    rw[em']
    have lt:=zbk y2
    have lb:=zbk hb
    refine hK _ _ (zap (zap y2)) ⟨zb0 (zaG (zaG y1 _) _) (Vaa _),zcc (zap (zap y2)),by simp[y3],?_⟩
    rw[zbU (x:=rOf B o v) (by rw[Vad,hv]; rfl),VaM]
    refine zaz.snoc (y4.keep λx o nx e=>zbg (zap (zap e)) (Ne.symm nx)) (by rw[Vao]; omega) (by omega) (zbg (zal _ _) (by rw[Vao]; omega)) (zbg (zap (zap (y1 _ _ hb))) (by omega))
   ·obtain⟨y1,y2,y3,y4⟩:=z
    have e9:((zaf (zaa (TB (zak B o)) B.length)).map (rOf B o)).take es2.length=(zaf (zaa (TB (zak B o)) B.length)).map (rOf B o):=Vaw (by rw[Vab,le2]; exact Vaa _)
    rw[e9] at y4
    refine zhf (zmc ho) l3 y2 y4 λfs isf=>?_
    exact hn _ _ ⟨zaG y1 _,_,_,fs,zal _ _,isf,rfl⟩
  rintro dl2 S13 ⟨p13,tm,x0,fs,htm,isf,rfl⟩
  have hfm:=p13 _ _ hfm
  have isl:=isl.keep (T:=S13) λx o _ e=>p13 _ _ e
  clear p13
  have le1:es.length≤1000:=by rw[isl.1,zcY,Vab]; omega
  try dsimp only
  refine zir (S1:=S13) (n:=fm) (es:=es) (λj ys S5=>S5=S13++[.lst ys]∧ys=es.take j∧j≤es.length) (λK hK=>by exact hK) hfm (λj ys S5 z=>⟨by rw[z.1]; exact zap hfm,by rw[z.1]; exact zal _ _,by rw[z.2.1,VaJ]; have:=z.2.2; omega⟩) le1 (λk d hd=>by obtain⟨a,b,x,e,_⟩:=isl.get hd; exact⟨_,_,e⟩) ⟨rfl,rfl,Vaj _⟩ (λj x y ys S5 K hx z hK=>?_) (λys S5 z=>?_)
  ·obtain⟨rfl,y2,y3⟩:=z
   have lj:=(Vac.mp hx).1
   refine hK _ _ (zal _ _) ⟨?_,by rw[zbU hx,← y2],lj⟩
   rw[List.set_append_right _ _ (Vaa _),Va3]
   rfl
  ·obtain⟨rfl,y2,_⟩:=z
   rw[Vaw (Vaa _)] at y2
   subst y2
   refine zhf (R:=zaf (zaa (TB B) B.length)) (x0:=fm) (List.Perm.refl _) l3 (zal _ _) (isl.keep λx o _ e=>zap e) λgs isg=>?_
   refine⟨⟨fs,gs,zap (zap htm),zal _ _,by rw[isf.1,isg.1],zlf (isf.keep λx o _ e=>zap (zap e)) isg (zlm l3 l4).2⟩,?_⟩
   exact h _⟩)
end
theorem zk3 {l:PySem.W.OpenLaw}{w:World}{K:PySem.W.Frag}{h:Heap}{mg:Str→Option Value}{fa:Addr}(X:K.In h)(G:h.Ns mainGlobals mg)(hfa:mg "law"=some (.ref fa))
  {f0 h0:Addr}{m0:Value}(a0:nsA K "hull" f0)(l0:lkA K f0 "hull" "hull" zf1 m0 h0)(c0:cdA K h0 "hull")
  {f1 h1:Addr}{m1:Value}(a1:nsA K "hull_of" f1)(l1:lkA K f1 "hull_of" "hull_of" zds m1 h1)(c1:cdA K h1 "hull_of")
  {f2 h2:Addr}{m2:Value}(a2:nsA K "common" f2)(l2:lkA K f2 "common" "common" zeZ m2 h2)(c2:cdA K h2 "common")
  {f3 h3:Addr}{m3:Value}(a3:nsA K "touch" f3)(l3:lkA K f3 "touch" "touch" zd8 m3 h3)(c3:cdA K h3 "touch")
  {f4 h4:Addr}{m4:Value}(a4:nsA K "touches_one" f4)(l4:lkA K f4 "touches_one" "touches_one" zdk m4 h4)(c4:cdA K h4 "touches_one")
  {f5 h5:Addr}{m5:Value}(a5:nsA K "groups_of" f5)(l5:lkA K f5 "groups_of" "groups_of" zfS m5 h5)(c5:cdA K h5 "groups_of")
  {f6 h6:Addr}{m6:Value}(a6:nsA K "islands" f6)(l6:lkA K f6 "islands" "islands" zcV m6 h6)(c6:cdA K h6 "islands")
  {f7 h7:Addr}{m7:Value}(a7:nsA K "_law_mix" f7)(l7:lkA K f7 "_law_mix" "_law_mix" zfC m7 h7)(c7:cdA K h7 "_law_mix")
  {f8 h8:Addr}{m8:Value}(a8:nsA K "_law_box" f8)(l8:lkA K f8 "_law_box" "_law_box" zeU m8 h8)(c8:cdA K h8 "_law_box")
  {f9 h9:Addr}{m9:Value}(a9:nsA K "_law_cell_at" f9)(l9:lkA K f9 "_law_cell_at" "_law_cell_at" zfu m9 h9)(c9:cdA K h9 "_law_cell_at")
  {f10 h10:Addr}{m10:Value}(a10:nsA K "_law_touch" f10)(l10:lkA K f10 "_law_touch" "_law_touch" zeW m10 h10)(c10:cdA K h10 "_law_touch")
  {f11 h11:Addr}{m11:Value}(a11:nsA K "_law_reached" f11)(l11:lkA K f11 "_law_reached" "_law_reached" zd0 m11 h11)(c11:cdA K h11 "_law_reached")
  {f12 h12:Addr}{m12:Value}(a12:nsA K "_law_together" f12)(l12:lkA K f12 "_law_together" "_law_together" zfs m12 h12)(c12:cdA K h12 "_law_together")
  {f13 h13:Addr}{m13:Value}(a13:nsA K "_law_third" f13)(l13:lkA K f13 "_law_third" "_law_third" ze6 m13 h13)(c13:cdA K h13 "_law_third")
  {f14 h14:Addr}{m14:Value}(a14:nsA K "_law_within" f14)(l14:lkA K f14 "_law_within" "_law_within" zfb m14 h14)(c14:cdA K h14 "_law_within")
  {f15 h15:Addr}{m15:Value}(a15:nsA K "_law_point_right" f15)(l15:lkA K f15 "_law_point_right" "_law_point_right" zdY m15 h15)(c15:cdA K h15 "_law_point_right")
  {f16 h16:Addr}{m16:Value}(a16:nsA K "law" f16)(l16:lkA K f16 "law" "law" zbi m16 h16)(c16:cdA K h16 "law")
  (zbI:PySem.W.nsIn K mainGlobals "max"=some none)
  (zbB:PySem.W.nsIn K mainGlobals "min"=some none)
  (zbf:PySem.W.nsIn K mainGlobals "zip"=some none)
  (zcn:PySem.W.nsIn K mainGlobals "all"=some none)
  (zbe:PySem.W.nsIn K mainGlobals "any"=some none)
  (zaX:PySem.W.nsIn K mainGlobals "sorted"=some none)
  (zbG:PySem.W.nsIn K mainGlobals "enumerate"=some none)
  (zaO:PySem.W.nsIn K mainGlobals "range"=some none)
  (zaJ:PySem.W.nsIn K mainGlobals "len"=some none)
  (zbo:PySem.W.nsIn K mainGlobals "list"=some none)
  (zcs:PySem.W.nsIn K mainGlobals "reversed"=some none)
  :∃fd:FuncData,(∀(s:Shared) (v:Value),BindsTo s fd ⟨[v],[]⟩ [("_law_script",v)])∧∀base:Heap,K.In base→base.Ns mainGlobals mg→zaL l.prog w K mg base (CXE l.prog w) 6 fa fd ["_law_script"] (upF K zcR):=by
 have e:=hfa.symm.trans (PySem.W.mg_of X G a16)
 cases e
 let zeX:Df K mg "hull" zf1 zdP:=dfo X G a0 l0 c0 λ_ _ _ _ _ _=>ln2 λ_ _=>rfl
 let zeR:Df K mg "hull_of" zds zdA:=dfo X G a1 l1 c1 λ_ _ _ _ _ _=>ln1 λ_=>rfl
 let zeB:Df K mg "common" zeZ zdr:=dfo X G a2 l2 c2 λ_ _ _ _ _ _=>ln2 λ_ _=>rfl
 let zeT:Df K mg "touch" zd8 zdh:=dfo X G a3 l3 c3 λ_ _ _ _ _ _=>ln2 λ_ _=>rfl
 let zeJ:Df K mg "touches_one" zdk zdI:=dfo X G a4 l4 c4 λ_ _ _ _ _ _=>ln3 λ_ _ _=>rfl
 let zfI:Df K mg "groups_of" zfS zdw:=dfo X G a5 l5 c5 λ_ _ _ _ _ _=>ln1 λ_=>rfl
 let zfw:Df K mg "islands" zcV zdD:=dfo X G a6 l6 c6 λ_ _ _ _ _ _=>ln1 λ_=>rfl
 let zfa:Df K mg "_law_mix" zfC zdb:=dfo X G a7 l7 c7 λ_ _ _ _ _ _=>ln2 λ_ _=>rfl
 let zep:Df K mg "_law_box" zeU zdx:=dfo X G a8 l8 c8 λ_ _ _ _ _ _=>ln3 λ_ _ _=>rfl
 let zeP:Df K mg "_law_cell_at" zfu zdQ:=dfo X G a9 l9 c9 λ_ _ _ _ _ _=>ln2 λ_ _=>rfl
 let zeK:Df K mg "_law_touch" zeW zc9:=dfo X G a10 l10 c10 λ_ _ _ _ _ _=>ln2 λ_ _=>rfl
 let zfL:Df K mg "_law_reached" zd0 zdW:=dfo X G a11 l11 c11 λ_ _ _ _ _ _=>ln2 λ_ _=>rfl
 let zfz:Df K mg "_law_together" zfs zdm:=dfo X G a12 l12 c12 λ_ _ _ _ _ _=>ln2 λ_ _=>rfl
 let zfr:Df K mg "_law_third" ze6 zeb:=dfo X G a13 l13 c13 λ_ _ _ _ _ _=>ln2 λ_ _=>rfl
 let zeo:Df K mg "_law_within" zfb zd4:=dfo X G a14 l14 c14 λ_ _ _ _ _ _=>ln2 λ_ _=>rfl
 let zfn:Df K mg "_law_point_right" zdY zdM:=dfo X G a15 l15 c15 λ_ _ _ _ _ _=>ln3 λ_ _ _=>rfl
 let zfU:Df K mg "law" zbi zes:=dfo X G a16 l16 c16 λ_ _ _ _ _ _=>ln1 λ_=>rfl
 have zbI:=PySem.W.mg_none_of X G zbI
 have zbB:=PySem.W.mg_none_of X G zbB
 have zbf:=PySem.W.mg_none_of X G zbf
 have zcn:=PySem.W.mg_none_of X G zcn
 have zbe:=PySem.W.mg_none_of X G zbe
 have zaX:=PySem.W.mg_none_of X G zaX
 have zbG:=PySem.W.mg_none_of X G zbG
 have zaO:=PySem.W.mg_none_of X G zaO
 have zaJ:=PySem.W.mg_none_of X G zaJ
 have zbo:=PySem.W.mg_none_of X G zbo
 have zcs:=PySem.W.mg_none_of X G zcs
 refine⟨PySem.W.fnOf "law" "law" (zcL zbi) (zb6 zbi) (zan zbi) .none .none .none m16 none (.ref h16) .none,λs v=>.of_eq rfl,λbase _ _=>?_⟩
 let zgF:=zke (P:=l.prog) (w:=w) (base:=base) zeX zbI zbB
 let zf6:=zjY (P:=l.prog) (w:=w) (base:=base) zeR zgF zbf
 let zgt:=zmA (P:=l.prog) (w:=w) (base:=base) zeB zbB zbI
 let zgk:=zkH (P:=l.prog) (w:=w) (base:=base) zeT zgt zcn zbf
 let zf5:=zjp (P:=l.prog) (w:=w) (base:=base) zeJ zgk zbe
 let zge:=zkI (P:=l.prog) (w:=w) (base:=base) zfI zf5 zaX zbG
 let zfj:=zkN (P:=l.prog) (w:=w) (base:=base) zfw zge zf6
 let zcD:=zla (P:=l.prog) (w:=w) (base:=base) zfa
 let zgm:=zlP (P:=l.prog) (w:=w) (base:=base) zep zcD zaO
 let zc2:=zmi (P:=l.prog) (w:=w) (base:=base) zeP zaJ
 let zcT:=zmy (P:=l.prog) (w:=w) (base:=base) zeK zaO zaJ
 let zf7:=zj0 (P:=l.prog) (w:=w) (base:=base) zfL zcT zaX zbe
 let zgu:=zlR (P:=l.prog) (w:=w) (base:=base) zfz zcT zf7 zaO zaJ
 let zgL:=zkY (P:=l.prog) (w:=w) (base:=base) zfr
 let zfJ:=zkm (P:=l.prog) (w:=w) (base:=base) zeo zaO zaJ
 let zgs:=zjE (P:=l.prog) (w:=w) (base:=base) zfn zfJ zbe
 let G_law:=zmL (P:=l.prog) (w:=w) (base:=base) zfU zfj zc2 zgs zgL zcD zgu zgm zaX zbo zcs zaJ zaO zbf zbG
 exact G_law.ok
end Mine
open PySem PySem.W PyProof.Rows
set_option maxRecDepth 100003 in
set_option maxHeartbeats 0 in
theorem PySem.Challenge.cw_boxnarrow_k73_islands_apart_holds : PySem.Challenge.rw_boxnarrow_k73_islands_apart.Holds := by
 w_on; o_law
 refine PySem.W.holds_open (q:=Mine.vw) (loose:=[]) (Xt:=Mine.xt) (XP:=XL Mine.vw []) (Yf:=Hook.obs (kHook Mine.kp Mine.ks Mine.zc6)) (Ya:=Hook.val (kHook Mine.kp Mine.ks Mine.zc6))
  (YP:=Hook.says (kHook Mine.kp Mine.ks Mine.zc6)) (N:=1178) Mine.left (Hook.of (kHook Mine.kp Mine.ks Mine.zc6)) (Hook.keeps (kHook Mine.kp Mine.ks Mine.zc6)) (λs e=>xl_of s (Bool.and_eq_true_iff.mp e).1) XL.keeps
  (by rfl) (by rfl) (by rfl) (λs e=>recFacts_of (Bool.and_eq_true_iff.mp e).2) (by rfl) (by first | assumption | decide +kernel)
  (by decide +kernel) ⟨rfl,rfl,rfl,rfl,rfl,by decide +kernel⟩ ?hw ?hc
 (case hw=>w_witness2)
 k_fill
 refine L3.zkh (l:=PySem.Challenge.rw_boxnarrow_k73_islands_apart) (x:="_law_script") 6 rfl rfl ⟨rfl,by decide,by decide⟩ (λw h Y=>PySem.W.kIn_of Y) ?F
 case F=>
  intro w mg fa h KX G hmg
  refine' Mine.zk3 KX G hmg (a0:=?a0) (l0:=?l0) (c0:=?c0) (a1:=?a1) (l1:=?l1) (c1:=?c1) (a2:=?a2) (l2:=?l2) (c2:=?c2) (a3:=?a3) (l3:=?l3) (c3:=?c3) (a4:=?a4) (l4:=?l4) (c4:=?c4) (a5:=?a5) (l5:=?l5) (c5:=?c5) (a6:=?a6) (l6:=?l6) (c6:=?c6) (a7:=?a7) (l7:=?l7) (c7:=?c7) (a8:=?a8) (l8:=?l8) (c8:=?c8) (a9:=?a9) (l9:=?l9) (c9:=?c9) (a10:=?a10) (l10:=?l10) (c10:=?c10) (a11:=?a11) (l11:=?l11) (c11:=?c11) (a12:=?a12) (l12:=?l12) (c12:=?c12) (a13:=?a13) (l13:=?l13) (c13:=?c13) (a14:=?a14) (l14:=?l14) (c14:=?c14) (a15:=?a15) (l15:=?l15) (c15:=?c15) (a16:=?a16) (l16:=?l16) (c16:=?c16) (zbI:=?zbI) (zbB:=?zbB) (zbf:=?zbf) (zcn:=?zcn) (zbe:=?zbe) (zaX:=?zaX) (zbG:=?zbG) (zaO:=?zaO) (zaJ:=?zaJ) (zbo:=?zbo) (zcs:=?zcs)
  (case zbI | zbB | zbf | zcn | zbe | zaX | zbG | zaO | zaJ | zbo | zcs=>k_is)
  (case a0 | a1 | a2 | a3 | a4 | a5 | a6 | a7 | a8 | a9 | a10 | a11 | a12 | a13 | a14 | a15 | a16=>delta Mine.nsA; k_is)
  (case l0 | l1 | l2 | l3 | l4 | l5 | l6 | l7 | l8 | l9 | l10 | l11 | l12 | l13 | l14 | l15 | l16=>delta Mine.lkA; k_is)
  (case c0 | c1 | c2 | c3 | c4 | c5 | c6 | c7 | c8 | c9 | c10 | c11 | c12 | c13 | c14 | c15 | c16=>delta Mine.cdA; k_is)
