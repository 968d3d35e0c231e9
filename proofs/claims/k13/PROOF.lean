import PyProof.Rows.All
import Wide.All
import OpenK.AllK
import Wide.FinOn
import Lean
import PyProof.EqAt
import PyProof.EqKinds
import PyProof.TupleCall
import PySem.Challenge.RW_boxnarrow_k13_trees_of_words
theorem Vaa:type_of% @Nat.le_refl:=@Nat.le_refl
theorem Vab:type_of% @List.length_map:=@List.length_map
theorem Vac:type_of% @List.getElem?_eq_some_iff:=@List.getElem?_eq_some_iff
theorem Vad:type_of% @List.mem_cons:=@List.mem_cons
theorem Vae:type_of% @Bool.false_ne_true:=@Bool.false_ne_true
theorem Vaf:type_of% @List.map_cons:=@List.map_cons
theorem Vag:type_of% @Nat.lt_of_lt_of_le:=@Nat.lt_of_lt_of_le
theorem Vah:type_of% @List.length_append:=@List.length_append
theorem Vai:type_of% @List.size_toArray:=@List.size_toArray
theorem Vaj:type_of% @List.lookup_cons:=@List.lookup_cons
theorem Vak:type_of% @List.mem_append:=@List.mem_append
theorem Val:type_of% @Nat.ne_of_lt:=@Nat.ne_of_lt
theorem Vam:type_of% @List.length_cons:=@List.length_cons
theorem Van:type_of% @List.getElem?_append_left:=@List.getElem?_append_left
theorem Vao:type_of% @Nat.le_trans:=@Nat.le_trans
theorem Vap:type_of% @Bool.and_eq_true:=@Bool.and_eq_true
theorem Vaq:type_of% @List.map_append:=@List.map_append
theorem Var:type_of% @List.append_nil:=@List.append_nil
theorem Vas:type_of% @List.replicate_succ:=@List.replicate_succ
theorem Vat:type_of% @List.mem_cons_of_mem:=@List.mem_cons_of_mem
theorem Vau:type_of% @List.getElem?_map:=@List.getElem?_map
theorem Vav:type_of% @List.flatten_cons:=@List.flatten_cons
theorem Vaw:type_of% @List.append_assoc:=@List.append_assoc
theorem Vax:type_of% @List.mem_of_getElem?:=@List.mem_of_getElem?
theorem Vay:type_of% @List.getElem?_eq_getElem:=@List.getElem?_eq_getElem
theorem Vaz:type_of% @List.mem_cons_self:=@List.mem_cons_self
theorem VaA:type_of% @List.getElem?_set_ne:=@List.getElem?_set_ne
theorem VaB:type_of% @Nat.lt_irrefl:=@Nat.lt_irrefl
theorem VaC:type_of% @Nat.le_of_lt:=@Nat.le_of_lt
theorem VaD:type_of% @List.getElem?_set_self:=@List.getElem?_set_self
theorem VaE:type_of% @List.mem_append_right:=@List.mem_append_right
theorem VaF:type_of% @List.any_cons:=@List.any_cons
theorem VaG:type_of% @Nat.pow_succ:=@Nat.pow_succ
theorem VaH:type_of% @Bool.false_and:=@Bool.false_and
theorem VaI:type_of% @Bool.eq_iff_iff:=@Bool.eq_iff_iff
theorem VaJ:type_of% @Nat.zero_le:=@Nat.zero_le
theorem VaK:type_of% @List.length_take:=@List.length_take
theorem VaL:type_of% @List.length_drop:=@List.length_drop
theorem VaM:type_of% @List.find?_cons:=@List.find?_cons
theorem VaN:type_of% @List.getElem_mem:=@List.getElem_mem
theorem VaO:type_of% @List.getD_eq_getElem?_getD:=@List.getD_eq_getElem?_getD
theorem VaP:type_of% @List.mem_singleton:=@List.mem_singleton
theorem VaQ:type_of% @List.getElem?_append_right:=@List.getElem?_append_right
theorem VaR:type_of% @List.not_mem_nil:=@List.not_mem_nil
theorem VaS:type_of% @List.drop_eq_getElem_cons:=@List.drop_eq_getElem_cons
theorem VaT:type_of% @List.length_pos_iff:=@List.length_pos_iff
theorem VaU:type_of% @List.drop_of_length_le:=@List.drop_of_length_le
theorem VaV:type_of% @Bool.true_and:=@Bool.true_and
set_option Elab.async false
set_option linter.all false
set_option maxRecDepth 100000
namespace L2
open PySem PySem.Spec PyProof.Rows
abbrev Key:=Sum Int Str
def zfg:Key→Value→Bool
 | .inl k,v=>Value.isInt k v
 | .inr x,v=>Value.isStrOf x v
def zfZ (w:World):Key→Int
 | .inl k=>hashInt k
 | .inr x=>hashStr w x
theorem zcO:∀ {k:Key} {v:Value},zfg k v=true→(∃i t,k=Sum.inl i∧v=Value.int i t)∨(∃x t,k=Sum.inr x∧v=Value.str x t)
 | .inl i,v,h=>by
  obtain⟨t,e⟩:=Value.isInt_shape (k:=i) (v:=v) h
  exact .inl ⟨i,t,rfl,e⟩
 | .inr x,v,h=>by
  obtain⟨t,e⟩:=Value.isStrOf_shape (x:=x) (v:=v) h
  exact .inr ⟨x,t,rfl,e⟩
theorem zm2 (i:Int)(t:Tok):zfg (.inl i) (.int i t)=true:=by simp[zfg,Value.isInt]
theorem znG (x:Str)(t:Tok):zfg (.inr x) (.str x t)=true:=by simp[zfg,Value.isStrOf]
theorem zqj (a b:Int):decide ((Sum.inl a:Key)=Sum.inl b)=(a==b):=by
 by_cases e:a=b
 ·subst e; simp
 ·have h:¬ (Sum.inl a:Key)=Sum.inl b:=λq=>e (Sum.inl.inj q)
  rw[decide_eq_false h]
  exact(beq_eq_false_iff_ne.mpr e).symm
theorem zoN (a b:Str):decide ((Sum.inr a:Key)=Sum.inr b)=decide (a=b):=by
 by_cases e:a=b
 ·subst e; simp
 ·have h:¬ (Sum.inr a:Key)=Sum.inr b:=λq=>e (Sum.inr.inj q)
  rw[decide_eq_false h,decide_eq_false e]
theorem zop (a:Int)(b:Str):decide ((Sum.inl a:Key)=Sum.inr b)=false:=decide_eq_false (λq=>nomatch q)
theorem zoL (a:Str)(b:Int):decide ((Sum.inr a:Key)=Sum.inl b)=false:=decide_eq_false (λq=>nomatch q)
def zex (prog:Program)(w:World):PySem.KeyKind prog w Key where
 is:=zfg
 hash:=zfZ w
 inj:=λv a b ha hb=>by
  rcases zcO ha with ⟨i,t,rfl,rfl⟩ | ⟨x,t,rfl,rfl⟩
  ·rcases zcO hb with ⟨j,u,rfl,e⟩ | ⟨y,u,rfl,e⟩
   ·injection e with e1 _; rw[e1]
   ·exact nomatch e
  ·rcases zcO hb with ⟨j,u,rfl,e⟩ | ⟨y,u,rfl,e⟩
   ·exact nomatch e
   ·injection e with e1 _; rw[e1]
 byValue:=λk v h=>by
  rcases zcO h with ⟨i,t,rfl,rfl⟩ | ⟨x,t,rfl,rfl⟩ <;> rfl
 pyHash:=λhv h=>by
  rcases zcO hv with ⟨i,t,rfl,rfl⟩ | ⟨x,t,rfl,rfl⟩
  ·exact wpAny_pyHash_int h
  ·exact wpAny_pyHash_str h
 eqBool:=λhu hv h=>by
  rcases zcO hu with ⟨i,t,rfl,rfl⟩ | ⟨x,t,rfl,rfl⟩
  ·rcases zcO hv with ⟨j,u,rfl,rfl⟩ | ⟨y,u,rfl,rfl⟩
   ·rw[zqj] at h; exact wpAny_eqBool_int h
   ·rw[zop] at h; exact SeqAt.EqAt.int_str i t y u _ _ _ _ h
  ·rcases zcO hv with ⟨j,u,rfl,rfl⟩ | ⟨y,u,rfl,rfl⟩
   ·rw[zoL] at h; exact SeqAt.EqAt.str_int x t j u _ _ _ _ h
   ·rw[zoN] at h; exact wpAny_eqBool_str h
 «strs»:=λk x t v h=>by
  rcases zcO h with ⟨i,u,rfl,e⟩ | ⟨y,u,rfl,e⟩
  ·exact nomatch e
  ·injection e with e1 _
   subst e1
   cases v <;> rfl
theorem zqI (prog:Program)(w:World)(i:Int)(t:Tok):(zex prog w).is (.inl i) (.int i t)=true:=zm2 i t
theorem zgr (prog:Program)(w:World)(x:Str)(t:Tok):(zex prog w).is (.inr x) (.str x t)=true:=znG x t
end L2
namespace L2
open PySem PySem.Spec PyProof.Rows
inductive V where
 | non | bl (b:Bool) | int (i:Int) | str (x:Str) | byt (b:Array UInt8) | flt (b:UInt64) | ref (a:Addr) | ty (n:String)
 deriving DecidableEq
def zal:V→Value→Prop
 | .non,u=>u=Value.none
 | .bl b,u=>u=Value.bool b
 | .int i,u=>∃t,u=Value.int i t
 | .str x,u=>∃t,u=Value.str x t
 | .byt b,u=>∃t,u=Value.bytes b t
 | .flt b,u=>∃t,u=Value.float b t
 | .ref a,u=>u=Value.ref a
 | .ty n,u=>u=Value.type n
abbrev zah:List V→List Value→Prop:=Paired zal
theorem zah.length {xs:List V}{us:List Value}(r:zah xs us):xs.length=us.length:=Paired.length r
theorem zah.get:∀ {xs:List V} {us:List Value} {i:Nat} {x:V},zah xs us→xs[i]?=some x→∃u,us[i]?=some u∧zal x u
 | _,_,_,_,.nil,e=>by simp at e
 | _,_,0,_,.cons r _,e=>by simp at e; subst e; exact⟨_,rfl,r⟩
 | _,_,i+1,x,.cons _ t,e=>by
  obtain⟨u,h1,h2⟩:=zah.get (i:=i) (x:=x) t (by simpa using e)
  exact⟨u,by simpa using h1,h2⟩
theorem zah.set {x:V}{u:Value}(r:zal x u):∀ {xs:List V} {us:List Value} (i:Nat),zah xs us→zah (xs.set i x) (us.set i u)
 | _,_,_,.nil=>.nil
 | _,_,0,.cons _ t=>.cons r t
 | _,_,i+1,.cons q t=>.cons q (zah.set r i t)
theorem zah.append:∀ {xs ys:List V} {us ws:List Value},zah xs us→zah ys ws→zah (xs++ys) (us++ws)
 | _,_,_,_,.nil,s=>s
 | _,_,_,_,.cons r t,s=>.cons r (zah.append t s)
theorem zah.take:∀ {xs:List V} {us:List Value} (n:Nat),zah xs us→zah (xs.take n) (us.take n)
 | _,_,0,_=>.nil
 | _,_,_+1,.nil=>.nil
 | _,_,n+1,.cons r t=>.cons r (zah.take n t)
theorem zah.drop:∀ {xs:List V} {us:List Value} (n:Nat),zah xs us→zah (xs.drop n) (us.drop n)
 | _,_,0,r=>r
 | _,_,_+1,.nil=>.nil
 | _,_,n+1,.cons _ t=>zah.drop n t
theorem zah.none_of:∀ {xs:List V} {us:List Value} {i:Nat},zah xs us→xs[i]?=none→us[i]?=none:=λ{xs us i} r e=>by
 have h1:=r.length
 have h2:xs.length≤i:=List.getElem?_eq_none_iff.mp e
 exact List.getElem?_eq_none_iff.mpr (by omega)
def zbt:Option V→Option Value→Prop
 | some v,some u=>zal v u
 | none,none=>True
 | _,_=>False
def KV {κ:Type}:List (κ×V)→List (κ×Value)→Prop:=Paired λ(p:κ×V) (q:κ×Value)=>p.1=q.1∧zal p.2 q.2
def kV:Key→V
 | .inl i=>.int i
 | .inr x=>.str x
inductive HO where
  | lst (xs:List V)
  | tup (xs:List V)
  | dK (kvs:List (Key×V)) | dT (kvs:List (List Key×V))
  | set (S:Int→Bool) (n:Nat)
  | ins (C dx:Addr) (fs:List (Str×V))
  | own (x:Addr)
  | xd (fs:List (Str×V))
  | met (f x:Addr)
  | rng (lo hi:Int)
  | frz (o:Obj) (u:HO)
  | tbl (ps:Array Value)
  | ext (φ:Heap→Prop)
abbrev Hp:=Addr→Option HO
def upd (H:Hp)(a:Addr)(o:HO):Hp:=λb=>if b=a then some o else H b
theorem zbV {H:Hp}{a:Addr}{o:HO}:upd H a o a=some o:=by unfold upd; rw[if_pos rfl]
theorem zaG {H:Hp}{a b:Addr}{o:HO}(h:b≠a):upd H a o b=H b:=by unfold upd; rw[if_neg h]
theorem zg0 {H:Hp}{a b:Addr}{o u:HO}(h:H a=some o)(h':H b=some u)(d:o≠u):a≠b:=by
 intro e; subst e; rw[h] at h'; exact d (Option.some.inj h')
theorem zbO {H:Hp}{a b:Addr}{o:HO}(h:H a=some o)(h':H b=none):a≠b:=by
 intro e; subst e; rw[h] at h'; cases h'
section
variable (P:Program)(w:World)
def zba (H:Hp)(h:Heap)(a:Addr):HO→Prop
 | .lst xs=>xs.length≤sizeLine∧∃(its:List Value) (n:Nat),zah xs its∧h.get? a=some { cls:=.type "list",data:=.seq its.toArray n }
 | .tup xs=>xs.length≤sizeLine∧∃its:List Value,zah xs its∧IsTup h a its.toArray
 | .dK kvs=>kvs.length≤sizeLine∧(a==sysModules)=false∧∃vs,KV kvs vs∧h.DictOf (zex P w) a vs
 | .dT kvs=>kvs.length≤sizeLine∧(a==sysModules)=false∧∃xs:List (List Key×Addr×Value),
   Paired (λ(p:List Key×V) (q:List Key×Addr×Value)=>p.1=q.1∧H q.2.1=some (.tup (p.1.map kV))∧zal p.2 q.2.2) kvs xs∧
   ∃o es ep,h.get? a=some o∧o.ExactDict∧o.data=.dict es ep∧es.toList=xs.map (entryOfKey (tupleKind (zex P w)))∧(xs.map (·.1)).Nodup
 | .set S n=>h.SetOf (intKind P w) a S n
 | .ins C dx fs=>H dx=some (.own a)∧fs.length≤1000∧dx≠a∧h.get? a=some (PySem.W.instObj C dx)∧
   ∃mA,h.Ns1 dx mA∧(∀f,zbt (fs.lookup f) (mA f))∧PySem.Within mA (fs.map (·.1))
 | .own _=>∃o,h.get? a=some o
 | .xd fs=>∃mA,h.Ns1 a mA∧∀f,zbt (fs.lookup f) (mA f)
 | .rng lo hi=>∃t u v,h.get? a=some { cls:=.type "range",data:=.fields #[.int lo t,.int hi u,.int 1 v] }
 | .frz o u=>h.get? a=some o∧zba H h a u
 | .tbl ps=>h.get? a=some { cls:=.none,data:=.fields ps }
 | .met f x=>h.get? a=some (PySem.W.methodObj (.ref f) (.ref x))
 | .ext φ=>φ h∧(∃o,h.get? a=some o)∧∀h1 h2:Heap,φ h1→(∀o,h1.get? a=some o→h2.get? a=some o)→φ h2
def HOk (H:Hp)(h:Heap):Prop:=∀a o,H a=some o→zba P w H h a o
end
section
variable {P:Program}{w:World}{H H':Hp}{h h':Heap}{a:Addr}{o:HO}
theorem zba.lt (x:zba P w H h a o):a<h.objs.size:=by
 cases o with
 | lst xs=>obtain⟨_,_,_,_,e⟩:=x; exact Heap.lt_size e
 | tup xs=>obtain⟨_,_,_,p⟩:=x; exact p.lt
 | dK kvs=>obtain⟨_,_,_,_,o,_,_,e,_⟩:=x; exact Heap.lt_size e
 | dT kvs=>obtain⟨_,_,_,_,o,_,_,e,_⟩:=x; exact Heap.lt_size e
 | set S n=>obtain⟨o,_,_,_,e,_⟩:=x; exact Heap.lt_size e
 | ins C dx fs=>obtain⟨_,_,_,e,_⟩:=x; exact Heap.lt_size e
 | own y=>obtain⟨_,e⟩:=x; exact Heap.lt_size e
 | xd fs=>obtain⟨_,⟨_,_,_,e,_⟩,_⟩:=x; exact Heap.lt_size e
 | rng lo hi=>obtain⟨_,_,_,e⟩:=x; exact Heap.lt_size e
 | frz ob u=>obtain⟨e,_⟩:=x; exact Heap.lt_size e
 | tbl ps=>exact Heap.lt_size (show h.get? a=some _ from x)
 | met f y=>exact Heap.lt_size (show h.get? a=some _ from x)
 | ext φ=>obtain⟨_,⟨_,e⟩,_⟩:=x; exact Heap.lt_size e
theorem Paired.mapP {α β:Type}{F G:α→β→Prop}:∀ {l₁:List α} {l₂:List β},Paired F l₁ l₂→(∀a b,F a b→G a b)→Paired G l₁ l₂
 | _,_,.nil,_=>.nil
 | _,_,.cons r t,f=>.cons (f _ _ r) (Paired.mapP t f)
theorem zba.stay (x:zba P w H h a o)(k:∀b u,(b=a∨H b=some (.own a))→h.get? b=some u→h'.get? b=some u)
  (ho:∀b,H b=some (.own a)→H' b=some (.own a))(ht:∀b xs,H b=some (.tup xs)→H' b=some (.tup xs)):zba P w H' h' a o:=by
 induction o with
 | lst xs=>obtain⟨z,its,n,r,e⟩:=x; exact⟨z,its,n,r,k _ _ (.inl rfl) e⟩
 | tup xs=>obtain⟨z,its,r,ob,e,c⟩:=x; exact⟨z,its,r,ob,k _ _ (.inl rfl) e,c⟩
 | dK kvs=>obtain⟨z,y,vs,r,ob,es,ep,e,c⟩:=x; exact⟨z,y,vs,r,ob,es,ep,k _ _ (.inl rfl) e,c⟩
 | dT kvs=>
  obtain⟨z,y,xs,r,ob,es,ep,e,c⟩:=x
  exact⟨z,y,xs,Paired.mapP r λp q z=>⟨z.1,ht _ _ z.2.1,z.2.2⟩,ob,es,ep,k _ _ (.inl rfl) e,c⟩
 | set S n=>obtain⟨ob,es,ep,t,e,c⟩:=x; exact⟨ob,es,ep,t,k _ _ (.inl rfl) e,c⟩
 | ins C dx fs=>
  obtain⟨d,z,ne,e,mA,⟨od,es,ep,e2,c⟩,r⟩:=x
  exact⟨ho _ d,z,ne,k _ _ (.inl rfl) e,mA,⟨od,es,ep,k _ _ (.inr d) e2,c⟩,r⟩
 | own y=>obtain⟨ob,e⟩:=x; exact⟨ob,k _ _ (.inl rfl) e⟩
 | xd fs=>obtain⟨mA,⟨od,es,ep,e,c⟩,r⟩:=x; exact⟨mA,⟨od,es,ep,k _ _ (.inl rfl) e,c⟩,r⟩
 | rng lo hi=>obtain⟨t,u,v,e⟩:=x; exact⟨t,u,v,k _ _ (.inl rfl) e⟩
 | frz ob u ih=>obtain⟨e,q⟩:=x; exact⟨k _ _ (.inl rfl) e,ih q⟩
 | tbl ps=>
  have e:h.get? a=some { cls:=.none,data:=.fields ps }:=x
  show h'.get? a=some { cls:=.none,data:=.fields ps }
  exact k a _ (.inl rfl) e
 | met f y=>
  have e:h.get? a=some (PySem.W.methodObj (.ref f) (.ref y)):=x
  show h'.get? a=some (PySem.W.methodObj (.ref f) (.ref y))
  exact k a _ (.inl rfl) e
 | ext φ=>obtain⟨p,⟨o,e⟩,st⟩:=x; exact⟨st _ _ p λo q=>k _ _ (.inl rfl) q,⟨o,k _ _ (.inl rfl) e⟩,st⟩
theorem HOk.lt (x:HOk P w H h)(e:H a=some o):a<h.objs.size:=(x a o e).lt
theorem HOk.fresh (x:HOk P w H h)(e:h.objs.size≤a):H a=none:=by
 cases q:H a with
 | none=>rfl
 | some u=>exact absurd (Vag (x.lt q) e) (VaB _)
theorem HOk.kept (x:HOk P w H h)(k:∀b u,h.get? b=some u→h'.get? b=some u):HOk P w H h':=λa o e=>
 (x a o e).stay (λb u _ q=>k b u q) (λ_ q=>q) λ_ _ q=>q
theorem HOk.laid (x:HOk P w H h)(k:∀b u,h.get? b=some u→h'.get? b=some u)(hp:h.objs.size≤a)(new:zba P w (upd H a o) h' a o):HOk P w (upd H a o) h':=λb u e=>by
 have hn:=x.fresh hp
 by_cases hb:b=a
 ·subst hb; rw[zbV] at e; cases e; exact new
 ·rw[zaG hb] at e
  exact(x b u e).stay (λc v _ q=>k c v q) (λc q=>by rw[zaG (zbO q hn)]; exact q) λc xs q=>by rw[zaG (zbO q hn)]; exact q
end
def Rd (H:Hp)(a:Addr)(u:HO):Prop:=H a=some u∨∃o,H a=some (.frz o u)
theorem Rd.of {H:Hp}{a:Addr}{u:HO}(h:H a=some u):Rd H a u:=.inl h
theorem Rd.ok {P:Program}{w:World}{H:Hp}{h:Heap}{a:Addr}{u:HO}(r:Rd H a u)(x:HOk P w H h):zba P w H h a u:=by
 rcases r with r | ⟨o,r⟩
 ·exact x a u r
 ·obtain⟨_,q⟩:=x a _ r
  exact q
def Mut:Option HO→Prop
 | some (.lst _)=>True
 | some (.dK _)=>True
 | some (.dT _)=>True
 | some (.set _ _)=>True
 | some (.ins _ _ _)=>True
 | some (.ext _)=>True
 | _=>False
section
variable {P:Program}{w:World}{H:Hp}{h h':Heap}{x e:Addr}{o':HO}
theorem HOk.write (ok:HOk P w H h)(mu:Mut (H x))(he:e=x∨H e=some (.own x))(k:∀b u,b≠e→h.get? b=some u→h'.get? b=some u)(heo:∃u,h'.get? e=some u)
  (new:zba P w (upd H x o') h' x o'):HOk P w (upd H x o') h':=λb u q=>by
 have nown:∀c y,H c=some (.own y)→c≠x:=λc y r z=>by subst z; rw[r] at mu; exact mu
 have ntup:∀c xs,H c=some (.tup xs)→c≠x:=λc xs r z=>by subst z; rw[r] at mu; exact mu
 by_cases hb:b=x
 ·subst hb; rw[zbV] at q; cases q; exact new
 ·rw[zaG hb] at q
  by_cases hbe:b=e
  ·have q':H b=some (.own x):=by
    rcases he with z | z
    ·exact absurd (hbe.trans z) hb
    ·rw[hbe]; exact z
   rw[q] at q'; cases q'
   obtain⟨v,hv⟩:=heo
   exact⟨v,by rw[hbe]; exact hv⟩
  ·refine(ok b u q).stay (λc v hc r=>k c v ?_ r) (λc r=>by rw[zaG (nown c b r)]; exact r) λc xs r=>by rw[zaG (ntup c xs r)]; exact r
   rcases hc with rfl | hc
   ·exact hbe
   ·rintro rfl
    rcases he with z | z
    ·exact nown c b hc z
    ·rw[hc] at z; cases z; exact hb rfl
end
structure Un (fs ex:List Addr)(H H':Hp)(h h':Heap):Prop where
 keep:∀b o,h.get? b=some o→H b=none→b ∉ fs→b ∉ ex→h'.get? b=some o
 slot:∀b o,h.get? b=some o→H b=none→b∈fs→b ∉ ex→∃sl,h'.get? b=some { o with slots:=sl }
 free:∀b o,h.get? b=some o→H b=none→b ∉ ex→H' b=none
 there:∀b o,h.get? b=some o→b ∉ ex→∃o',h'.get? b=some o'
 tups:∀b xs,H b=some (.tup xs)→H' b=some (.tup xs)
 frzs:∀b o u,H b=some (.frz o u)→H' b=some (.frz o u)
 tbls:∀b ps,H b=some (.tbl ps)→∃more,H' b=some (.tbl (ps++more))
section
variable {fs fs' ex ex':List Addr}{H H1 H2:Hp}{h h1 h2 h':Heap}{a x e:Addr}{o:HO}
theorem Un.any (u:Un fs ex H H1 h h1){b:Addr}{ob:Obj}(q:h.get? b=some ob)(n:H b=none)(hx:b ∉ ex):∃sl,h1.get? b=some { ob with slots:=sl }:=by
 by_cases hb:b∈fs
 ·exact u.slot b ob q n hb hx
 ·exact⟨ob.slots,u.keep b ob q n hb hx⟩
theorem Un.trans (a:Un fs ex H H1 h h1)(b:Un fs ex H1 H2 h1 h2):Un fs ex H H2 h h2 where
 keep:=λc ob q n hc hx=>b.keep c ob (a.keep c ob q n hc hx) (a.free c ob q n hx) hc hx
 slot:=λc ob q n hc hx=>by
  obtain⟨sl,e1⟩:=a.slot c ob q n hc hx
  obtain⟨sl',e2⟩:=b.slot c _ e1 (a.free c ob q n hx) hc hx
  exact⟨sl',e2⟩
 free:=λc ob q n hx=>by
  obtain⟨o',e1⟩:=a.there c ob q hx
  exact b.free c o' e1 (a.free c ob q n hx) hx
 there:=λc ob q hx=>by
  obtain⟨o',e1⟩:=a.there c ob q hx
  exact b.there c o' e1 hx
 tups:=λc xs q=>b.tups c xs (a.tups c xs q)
 frzs:=λc ob xs q=>b.frzs c ob xs (a.frzs c ob xs q)
 tbls:=λc ps q=>by
  obtain⟨m1,e1⟩:=a.tbls c ps q
  obtain⟨m2,e2⟩:=b.tbls c _ e1
  exact⟨m1++m2,by rw[e2,Array.append_assoc]⟩
theorem Un.kept (k:∀b u,h.get? b=some u→h'.get? b=some u):Un fs ex H H h h':=
 ⟨λb ob q _ _ _=>k b ob q,λb ob q _ _ _=>⟨ob.slots,k b ob q⟩,λ_ _ _ n _=>n,λb ob q _=>⟨ob,k b ob q⟩,λ_ _ q=>q,λ_ _ _ q=>q,λ_ ps q=>⟨#[],by rw[q]; simp⟩⟩
theorem Un.refl:Un fs ex H H h h:=Un.kept λ_ _ q=>q
theorem Un.laid (k:∀b u,h.get? b=some u→h'.get? b=some u)(hp:h.objs.size≤a)(hn:H a=none):Un fs ex H (upd H a o) h h' where
 keep:=λb u q _ _ _=>k b u q
 slot:=λb u q _ _ _=>⟨u.slots,k b u q⟩
 free:=λb u q n _=>by rw[zaG (Val (Vag (Heap.lt_size q) hp))]; exact n
 there:=λb u q _=>⟨u,k b u q⟩
 tups:=λb xs q=>by rw[zaG (zbO q hn)]; exact q
 frzs:=λb u xs q=>by rw[zaG (zbO q hn)]; exact q
 tbls:=λb ps q=>⟨#[],by rw[zaG (zbO q hn),q]; simp⟩
theorem Un.write (mu:Mut (H x))(he:e=x∨H e=some (.own x))(k:∀b u,b≠e→h.get? b=some u→h'.get? b=some u)(heo:∃u,h'.get? e=some u):Un fs ex H (upd H x o) h h':=by
 have hx:∀b,H b=none→b≠x:=λb n z=>by subst z; rw[n] at mu; exact mu
 have hb:∀b,H b=none→b≠e:=λb n z=>by
  subst z
  rcases he with r | r
  ·exact hx b n r
  ·rw[n] at r; cases r
 have hm:∀b u,H b=some u→¬ Mut (some u)→b≠x:=λb u q nm z=>by subst z; rw[q] at mu; exact nm mu
 refine⟨λb u q n _ _=>k b u (hb b n) q,λb u q n _ _=>⟨u.slots,k b u (hb b n) q⟩,λb u q n _=>by rw[zaG (hx b n)]; exact n,λb u q _=>?_,
  λb xs q=>by rw[zaG (hm b _ q λz=>z)]; exact q,λb u xs q=>by rw[zaG (hm b _ q λz=>z)]; exact q,λb ps q=>⟨#[],by rw[zaG (hm b _ q λz=>z),q]; simp⟩⟩
 by_cases hbe:b=e
 ·subst hbe; exact heo
 ·exact⟨u,k b u hbe q⟩
theorem Un.mono (u:Un fs ex H H1 h h1)(hs:∀b∈fs,b∈fs')(hx:∀b∈ex,b∈ex'):Un fs' ex' H H1 h h1:=
 ⟨λb ob q n hb he=>u.keep b ob q n (λz=>hb (hs b z)) λz=>he (hx b z),λ_ _ q n _ he=>u.any q n λz=>he (hx _ z),λb ob q n he=>u.free b ob q n λz=>he (hx b z),λb ob q he=>u.there b ob q λz=>he (hx b z),u.tups,u.frzs,u.tbls⟩
end
def trk (h:Heap)(H:Hp):List Addr:=(List.range h.objs.size).filter λa=>(H a).isSome
def zcI (h:Heap)(H:Hp):Heap:=PySem.W.hideAll h (trk h H)
theorem zr0 (h:Heap)(H:Hp):(zcI h H).objs.size=h.objs.size:=PySem.W.hideAll_size _ _
theorem zqg {h:Heap}{H:Hp}{b:Addr}{o:Obj}(e:h.get? b=some o)(n:H b=none):(zcI h H).get? b=some o:=
 PySem.W.hideAll_get _ e λhm=>by
  have q:(H b).isSome=true:=(List.mem_filter.mp hm).2
  rw[n] at q; simp at q
theorem zpr {h:Heap}{H:Hp}{b:Addr}{o:Obj}(e:(zcI h H).get? b=some o):h.get? b=some o∧H b=none:=by
 have e':h.get? b=some o:=PySem.W.of_hideAll (trk h H) e
 refine⟨e',?_⟩
 cases q:H b with
 | none=>rfl
 | some x=>
  have hm:b∈trk h H:=List.mem_filter.mpr ⟨List.mem_range.mpr (Heap.lt_size e'),by simp[q]⟩
  have z:(zcI h H).get? b=none:=PySem.W.hideAll_none (trk h H) hm
  rw[z] at e; cases e
def zsk (g h:Heap)(L:Addr):List (Addr×Obj):=(List.range h.objs.size).filterMap λa=>if a=L∨(g.get? a).isSome=true then none else (h.get? a).map λo=>(a,o)
def zaU (g h:Heap)(L d:Addr):List (Addr×Obj):=(zsk g h L).filter λp=>decide (p.1≠d)
end L2
namespace L2
open PySem PySem.Spec PyProof.Rows
structure Mod (K:PySem.W.Frag)(mg:Str→Option Value)(base:Heap):Prop where
 kin:K.In base
 glob:base.Ns mainGlobals mg
 blt:∃mb,base.Ns builtinsNs mb∧∀x:Str,x≠"__name__"→mb x=bootBuiltins x
 nolimit:base.NoLimit
structure Cx where
 prog:Program
 w:World
 K:PySem.W.Frag
 mg:Str→Option Value
 base:Heap
 A:Around
 N:List Str
 s₀:Shared
 H₀:Hp
 env:Env
 outer:List Env
 stack:List Env
 ex:List Addr
 fn:Str→Bool
 calm:Bool
 pn:List (Addr×Obj)
 xe:Value→Shared→Prop
def frs (l:List Env):List Addr:=l.filterMap (·.frame)
abbrev Cx.fs (X:Cx):List Addr:=frs X.outer
def Vis (sc:Scope)(x:Str):Prop:=sc.names.lookup x=some .local∨sc.names.lookup x=some .cell∨sc.names.lookup x=some .free
def Loc (sc:Scope)(x:Str):Prop:=sc.names.lookup x=some .local∨sc.names.lookup x=some .cell
def Look (env:Env)(h:Heap)(m:Str→Option Value)(x:Str)(u:Value):Prop:=
 (env.kindOf x=some .local∧m x=some u)∨((env.kindOf x=some .cell∨env.kindOf x=some .free)∧∃c,env.cells.lookup x=some c∧h.IsCell c (some u))
structure Cx.Ok (X:Cx):Prop where
 mod:Mod X.K X.mg X.base
 kind:X.env.scope.kind=.function
 glob:X.env.globals=mainGlobals
 blt:X.env.builtins=builtinsNs
 above:X.s₀.heap.objs.size≤X.env.locals
 inj:∀x y c,X.env.cells.lookup x=some c→X.env.cells.lookup y=some c→x=y
 has:∀x,(X.env.kindOf x=some .cell∨X.env.kindOf x=some .free)→∃c,X.env.cells.lookup x=some c
 cab:∀x c,X.fn x=true→X.env.cells.lookup x=some c→X.s₀.heap.objs.size≤c
 hd:X.calm=true→X.A.handled=none
 frames:X.A.frames=some X.stack
 stk:X.stack=X.outer∨(X.stack=X.env::X.outer∧X.env.frame=some X.env.locals)
 exf:∀b∈X.ex,b≠X.env.locals∧∀x c,X.env.cells.lookup x=some c→c≠b
 bs:∀b o,X.base.get? b=some o→X.s₀.heap.get? b=some o∧X.H₀ b=none
 bsz:X.base.objs.size≤X.s₀.heap.objs.size
 noex:∀b o,X.base.get? b=some o→b ∉ X.ex
 exfs:∀b∈X.ex,b ∉ X.fs
 funs:X.s₀.heap.FunFrames X.base X.outer
 frf:∀b∈X.fs,X.H₀ b=none
structure Inv (X:Cx)(pins:List (Addr×Obj))(σ:List (Option V))(H:Hp)(s:Shared):Prop where
 ok:X.Ok
 os:s.os=X.s₀.os
 bare:AllBare s.gens
 base:Un X.fs X.ex X.H₀ H X.s₀.heap s.heap
 loc:∃m,s.heap.Ns X.env.locals m∧∀(i:Nat) (x:Str) (v:V),X.N[i]?=some x→σ[i]?=some (some v)→Vis X.env.scope x→∃u,zal v u∧Look X.env s.heap m x u
 cell:∀x c,X.env.cells.lookup x=some c→∃v,s.heap.IsCell c v
 free:H X.env.locals=none
 freeC:∀x c,X.env.cells.lookup x=some c→H c=none
 pin:∀p∈X.pn++pins,s.heap.get? p.1=some p.2∧H p.1=none∧p.1≠X.env.locals∧p.1 ∉ X.fs∧∀v,p.2.data≠.cell v
 hok:HOk X.prog X.w H s.heap
 len:σ.length=X.N.length
section
variable {X:Cx}{pins:List (Addr×Obj)}{σ:List (Option V)}{H H':Hp}{s:Shared}{h':Heap}
theorem Cx.Ok.nofr (ok:X.Ok){b:Addr}{o:Obj}(e:X.base.get? b=some o):b ∉ X.fs:=λhb=>by
 have:=(ok.funs.mem hb).1
 rw[e] at this; cases this
theorem Inv.bs (I:Inv X pins σ H s):∀b o,X.base.get? b=some o→s.heap.get? b=some o∧H b=none:=λb o e=>
 ⟨I.base.keep b o (I.ok.bs b o e).1 (I.ok.bs b o e).2 (I.ok.nofr e) (I.ok.noex b o e),I.base.free b o (I.ok.bs b o e).1 (I.ok.bs b o e).2 (I.ok.noex b o e)⟩
theorem Inv.bk (I:Inv X pins σ H s):∀b o,X.base.get? b=some o→s.heap.get? b=some o:=λb o e=>(I.bs b o e).1
theorem Inv.mod (I:Inv X pins σ H s):Mod X.K X.mg X.base:=I.ok.mod
theorem Inv.kIn (I:Inv X pins σ H s):X.K.In s.heap:=I.ok.mod.kin.keeps I.bk
theorem Inv.nolimit (I:Inv X pins σ H s):s.heap.NoLimit:=I.ok.mod.nolimit.keeps I.bk
theorem Inv.fr (I:Inv X pins σ H s):∃m,Fr X.base X.env.locals s.heap m:=
 let ⟨m,hn,_⟩:=I.loc
 ⟨m,hn,I.bk,Vao I.ok.bsz I.ok.above⟩
theorem Inv.lt (I:Inv X pins σ H s):X.env.locals<s.heap.objs.size:=let ⟨_,hn,_⟩:=I.loc; hn.lt
theorem Inv.sz (I:Inv X pins σ H s):X.s₀.heap.objs.size≤s.heap.objs.size:=Vao I.ok.above (VaC I.lt)
theorem Inv.nofs (I:Inv X pins σ H s){a:Addr}(h:s.heap.objs.size≤a):a ∉ X.fs:=λhb=>by
 obtain⟨_,o,ho,_⟩:=I.ok.funs.mem hb
 exact absurd (Vag (Heap.lt_size ho) (Vao I.sz h)) (VaB _)
theorem Inv.cne (I:Inv X pins σ H s):∀x c,X.env.cells.lookup x=some c→c≠X.env.locals:=λx c e z=>by
 obtain⟨v,o,ho,hd⟩:=I.cell x c e
 obtain⟨m,⟨o',es,ep,ho',hd',_⟩,_⟩:=I.loc
 rw[z,ho'] at ho; cases ho; rw[hd'] at hd; cases hd
theorem Inv.funs (I:Inv X pins σ H s):s.heap.FunFrames X.base X.outer:=by
 have all:∀(l:List Env),(∀b∈frs l,b∈X.fs)→X.s₀.heap.FunFrames X.base l→s.heap.FunFrames X.base l:=by
  intro l
  induction l with
  | nil=>intro _ _; trivial
  | cons env r ih=>
   intro hs hl
   obtain⟨hk,⟨L,o,hf,hn,ho,hd⟩,hr⟩:=hl
   have hL:L∈X.fs:=hs L (by unfold frs; rw[List.filterMap_cons,hf]; exact Vaz)
   obtain⟨sl,e⟩:=I.base.slot L o ho (I.ok.frf L hL) hL λz=>I.ok.exfs L z hL
   exact⟨hk,⟨L,_,hf,hn,e,hd⟩,ih (λb hb=>hs b (by unfold frs; rw[List.filterMap_cons,hf]; exact Vat _ hb)) hr⟩
 exact all X.outer (λ_ hb=>hb) I.ok.funs
theorem Inv.stack (I:Inv X pins σ H s):s.heap.FunFrames X.base X.stack:=by
 rcases I.ok.stk with e | ⟨e,hf⟩
 ·rw[e]; exact I.funs
 ·rw[e]
  obtain⟨m,hn,_⟩:=I.loc
  refine .cons (by rw[I.ok.kind]; decide) hf hn ?_ I.funs
  exact Heap.get?_none_of_le (Vao I.ok.bsz I.ok.above)
theorem Inv.stkSub (I:Inv X pins σ H s):∀b∈frs X.stack,b∈X.env.locals::X.fs:=λb hb=>by
 rcases I.ok.stk with e | ⟨e,hf⟩
 ·rw[e] at hb; exact Vat _ hb
 ·rw[e] at hb
  unfold frs at hb
  rw[List.filterMap_cons,hf] at hb
  exact hb
theorem Inv.stkFree (I:Inv X pins σ H s):∀b∈frs X.stack,H b=none:=λb hb=>by
 rcases Vad.mp (I.stkSub b hb) with e | hb
 ·rw[e]; exact I.free
 ·obtain⟨_,o,ho,_⟩:=I.ok.funs.mem hb
  exact I.base.free b o ho (I.ok.frf b hb) λz=>I.ok.exfs b z hb
theorem Inv.step {g':Array GenState}{t':Nat}{d':Drawn}{ch:List Addr}(I:Inv X pins σ H s)
  (hch:∀b∈ch,(b∈X.ex∨X.s₀.heap.objs.size≤b)∧b≠X.env.locals∧(∀x c,X.env.cells.lookup x=some c→c≠b)∧∀p∈X.pn++pins,p.1≠b)
  (keep:∀b o,b≠X.env.locals→b ∉ X.fs→b ∉ ch→s.heap.get? b=some o→H b=none→h'.get? b=some o)
  (slot:∀b o,b≠X.env.locals→b∈X.fs→b ∉ ch→s.heap.get? b=some o→H b=none→∃sl,h'.get? b=some { o with slots:=sl })(free:∀b o,b ∉ ch→s.heap.get? b=some o→H b=none→H' b=none)
  (there:∀b o,b ∉ ch→s.heap.get? b=some o→∃o',h'.get? b=some o')
  (tups:∀b xs,H b=some (.tup xs)→H' b=some (.tup xs))(frzs:∀b o u,H b=some (.frz o u)→H' b=some (.frz o u))(tbls:∀b ps,H b=some (.tbl ps)→∃more,H' b=some (.tbl (ps++more)))
  (ns:∀m,s.heap.Ns X.env.locals m→h'.Ns X.env.locals m)(hok:HOk X.prog X.w H' h')(hg:AllBare g'):
  Inv X pins σ H' { s with heap:=h',gens:=g',drawn:=d',toks:=t' }:=by
 have neL:∀b o,X.s₀.heap.get? b=some o→b≠X.env.locals:=λb o e=>Val (Vag (Heap.lt_size e) I.ok.above)
 have neC:∀b o,X.s₀.heap.get? b=some o→b ∉ X.ex→b ∉ ch:=λb o e hx hb=>by
  rcases (hch b hb).1 with z | z
  ·exact hx z
  ·exact absurd (Vag (Heap.lt_size e) z) (VaB _)
 have cellK:∀x c,X.env.cells.lookup x=some c→∀v,s.heap.IsCell c v→h'.IsCell c v:=λx c e v ⟨o,ho,hd⟩=>by
  have nch:c ∉ ch:=λz=>(hch c z).2.2.1 x c e rfl
  by_cases hc:c∈X.fs
  ·obtain⟨sl,q⟩:=slot c o (I.cne x c e) hc nch ho (I.freeC x c e)
   exact⟨_,q,hd⟩
  ·exact⟨o,keep c o (I.cne x c e) hc nch ho (I.freeC x c e),hd⟩
 refine⟨I.ok,I.os,hg,⟨λb o e n hb hx=>?_,λb o e n hb hx=>?_,λb o e n hx=>?_,λb o e hx=>?_,λb xs e=>tups b xs (I.base.tups b xs e),λb o xs e=>frzs b o xs (I.base.frzs b o xs e),λb ps e=>?_⟩,?_,λx c e=>?_,?_,λx c e=>?_,λp hp=>?_,hok,I.len⟩
 ·exact keep b o (neL b o e) hb (neC b o e hx) (I.base.keep b o e n hb hx) (I.base.free b o e n hx)
 ·obtain⟨sl,e1⟩:=I.base.slot b o e n hb hx
  obtain⟨sl',e2⟩:=slot b _ (neL b o e) hb (neC b o e hx) e1 (I.base.free b o e n hx)
  exact⟨sl',e2⟩
 ·obtain⟨o',e1⟩:=I.base.there b o e hx
  exact free b o' (neC b o e hx) e1 (I.base.free b o e n hx)
 ·obtain⟨o',e1⟩:=I.base.there b o e hx
  exact there b o' (neC b o e hx) e1
 ·obtain⟨m1,e1⟩:=I.base.tbls b ps e
  obtain⟨m2,e2⟩:=tbls b _ e1
  exact⟨m1++m2,by rw[e2,Array.append_assoc]⟩
 ·obtain⟨m,hn,hl⟩:=I.loc
  refine⟨m,ns m hn,λi x v e1 e2 e3=>?_⟩
  obtain⟨u,r,l⟩:=hl i x v e1 e2 e3
  refine⟨u,r,?_⟩
  rcases l with l | ⟨k,c,e,z⟩
  ·exact .inl l
  ·exact .inr ⟨k,c,e,cellK x c e _ z⟩
 ·obtain⟨v,z⟩:=I.cell x c e
  exact⟨v,cellK x c e v z⟩
 ·obtain⟨m,⟨o,_,_,ho,_⟩,_⟩:=I.loc
  exact free _ o (λz=>(hch _ z).2.1 rfl) ho I.free
 ·obtain⟨v,o,ho,hd⟩:=I.cell x c e
  exact free c o (λz=>(hch c z).2.2.1 x c e rfl) ho (I.freeC x c e)
 ·obtain⟨e,n,ne,nf,d⟩:=I.pin p hp
  have nch:p.1 ∉ ch:=λz=>(hch p.1 z).2.2.2 p hp rfl
  exact⟨keep p.1 p.2 ne nf nch e n,free p.1 p.2 nch e n,ne,nf,d⟩
theorem Inv.un {t':Nat}(I:Inv X pins σ H s)(u:Un X.fs [] H H' s.heap h')(hok:HOk X.prog X.w H' h'):Inv X pins σ H' { s with heap:=h',toks:=t' }:=by
 obtain⟨m,⟨o,es,ep,ho,r⟩,_⟩:=id I.loc
 obtain⟨sl,hL⟩:=u.any ho I.free (by simp)
 exact I.step (g':=s.gens) (d':=s.drawn) (ch:=[]) (λ_ z=>nomatch z) (λb o _ hb _ e n=>u.keep b o e n hb (by simp)) (λb o _ hb _ e n=>u.slot b o e n hb (by simp)) (λb o _ e n=>u.free b o e n (by simp)) (λb o _ e=>u.there b o e (by simp)) u.tups u.frzs u.tbls (λm' hm=>by
  obtain⟨o',es',ep',ho',r'⟩:=hm
  rw[ho] at ho'; cases ho'
  exact⟨_,es',ep',hL,r'⟩) hok I.bare
theorem Inv.call {g':Array GenState}{t':Nat}{d':Drawn}{ch:List Addr}(I:Inv X pins σ H s)(u:Un (frs X.stack) ch H H' s.heap h')(hok:HOk X.prog X.w H' h')(hg:AllBare g')
  (hch:∀b∈ch,(b∈X.ex∨X.s₀.heap.objs.size≤b)∧b≠X.env.locals∧(∀x c,X.env.cells.lookup x=some c→c≠b)∧∀p∈X.pn++pins,p.1≠b):
  Inv X pins σ H' { s with heap:=h',gens:=g',drawn:=d',toks:=t' }:=by
 obtain⟨m,⟨o,es,ep,ho,r⟩,_⟩:=id I.loc
 obtain⟨sl,hL⟩:=u.any ho I.free λz=>(hch _ z).2.1 rfl
 exact I.step (ch:=ch) hch (λb o hL hb hc e n=>u.keep b o e n (λz=>(Vad.mp (I.stkSub b z)).elim hL hb) hc) (λb o _ _ hc e n=>u.any e n hc) (λb o hc e n=>u.free b o e n hc) (λb o hc e=>u.there b o e hc) u.tups u.frzs u.tbls (λm' hm=>by
  obtain⟨o',es',ep',ho',r'⟩:=hm
  rw[ho] at ho'; cases ho'
  exact⟨_,es',ep',hL,r'⟩) hok hg
theorem Inv.turned {t':Nat}{it:Addr}(I:Inv X pins σ H s)(k:∀b o,b≠it→s.heap.get? b=some o→h'.get? b=some o)(hn:H it=none)(hL:it≠X.env.locals)
  (h1:it∈X.ex∨X.s₀.heap.objs.size≤it)(h2:∀x c,X.env.cells.lookup x=some c→c≠it)(h3:∀p∈X.pn++pins,p.1≠it):Inv X pins σ H { s with heap:=h',toks:=t' }:=by
 have nit:∀b u,H b=some u→b≠it:=λb u e z=>by rw[z,hn] at e; cases e
 refine I.step (g':=s.gens) (d':=s.drawn) (ch:=[it]) (λb hb=>?_) (λb o _ _ hc e _=>k b o (λz=>hc (by simp[z])) e) (λb o _ _ hc e _=>⟨o.slots,k b o (λz=>hc (by simp[z])) e⟩) (λ_ _ _ _ n=>n)
  (λb o hc e=>⟨o,k b o (λz=>hc (by simp[z])) e⟩) (λ_ _ e=>e) (λ_ _ _ e=>e) (λb ps e=>⟨#[],by rw[e]; simp⟩) (λm hm=>?_) (λb u e=>?_) I.bare
 ·have e:b=it:=by simpa using hb
  subst e
  exact⟨h1,hL,h2,h3⟩
 ·obtain⟨o,es,ep,ho,r⟩:=hm
  exact⟨o,es,ep,k _ o (Ne.symm hL) ho,r⟩
 ·refine(I.hok b u e).stay (λc v hc q=>k c v ?_ q) (λ_ q=>q) λ_ _ q=>q
  rcases hc with z | z
  ·rw[z]; exact nit b u e
  ·exact nit c _ z
theorem Inv.tok (I:Inv X pins σ H s)(t:Nat):Inv X pins σ H { s with toks:=t }:=I.un (h':=s.heap) (t':=t) Un.refl I.hok
theorem Inv.kept {t':Nat}(I:Inv X pins σ H s)(k:∀b u,s.heap.get? b=some u→h'.get? b=some u):Inv X pins σ H { s with heap:=h',toks:=t' }:=I.un (Un.kept k) (I.hok.kept k)
theorem Inv.laid {a:Addr}{o:HO}{t':Nat}(I:Inv X pins σ H s)(k:∀b u,s.heap.get? b=some u→h'.get? b=some u)(hp:s.heap.objs.size≤a)(new:zba X.prog X.w (upd H a o) h' a o):
  Inv X pins σ (upd H a o) { s with heap:=h',toks:=t' }:=I.un (Un.laid k hp (I.hok.fresh hp)) (I.hok.laid k hp new)
theorem Inv.write {x e:Addr}{o:HO}{t':Nat}(I:Inv X pins σ H s)(mu:Mut (H x))(he:e=x∨H e=some (.own x))(k:∀b u,b≠e→s.heap.get? b=some u→h'.get? b=some u)(heo:∃u,h'.get? e=some u)
  (new:zba X.prog X.w (upd H x o) h' x o):Inv X pins σ (upd H x o) { s with heap:=h',toks:=t' }:=I.un (Un.write mu he k heo) (I.hok.write mu he k heo new)
theorem Inv.pins_of {pins':List (Addr×Obj)}(I:Inv X pins σ H s)(h:∀p∈pins',s.heap.get? p.1=some p.2∧H p.1=none∧p.1≠X.env.locals∧p.1 ∉ X.fs∧∀v,p.2.data≠.cell v):Inv X pins' σ H s:=
 ⟨I.ok,I.os,I.bare,I.base,I.loc,I.cell,I.free,I.freeC,λp hp=>(Vak.mp hp).elim (λz=>I.pin p (List.mem_append_left _ z)) (h p),I.hok,I.len⟩
theorem zi1 {N:List Str}(hN:N.Nodup){i j:Nat}{x:Str}(a:N[i]?=some x)(b:N[j]?=some x):i=j:=by
 obtain⟨h1,e1⟩:=Vac.mp a
 obtain⟨h2,e2⟩:=Vac.mp b
 exact(List.getElem_inj hN).mp (e1.trans e2.symm)
theorem zlG {M:Model}{A:Around}{E:Value→Shared→Prop}{i:Nat}{x:Str}{v:V}{u:Value}{Q:Unit→Shared→Prop}(I:Inv X pins σ H s)(hN:X.N.Nodup)(hi:X.N[i]?=some x)(hx:Loc X.env.scope x)(r:zal v u)
  (h:∀s',Inv X pins (σ.set i (some v)) H s'→(∃a,Heap.SameBut a s.heap s'.heap∧(a=X.env.locals∨X.env.cells.lookup x=some a))→Q () s')(hf:X.fn x=true∨X.env.scope.names.lookup x=some .local:=by first | exact .inl rfl | exact .inr rfl | assumption):wpAny M A (storeName X.env x u) Q E s:=by
 obtain⟨m,hn,hl⟩:=id I.loc
 have hcls:(X.env.scope.kind==.class||(X.env.scope.kind==.module&&X.env.locals != X.env.globals))=false:=by rw[I.ok.kind]; rfl
 have hiσ:i<σ.length:=by rw[I.len]; exact(Vac.mp hi).1
 have cne:=I.cne
 have tracked:∀ {a:Addr} {h':Heap},(∃o,s.heap.get? a=some o∧H a=none)→Heap.SameBut a s.heap h'→HOk X.prog X.w H h':=λ{a h'} ha hs b ob e=>by
  obtain⟨_,_,hfree⟩:=ha
  refine(I.hok b ob e).stay (λc w' hc q=>(hs.2 c ?_).trans q) (λ_ q=>q) λ_ _ q=>q
  rintro rfl
  rcases hc with rfl | hc
  ·rw[hfree] at e; cases e
  ·rw[hfree] at hc; cases hc
 rcases hx with hk | hk
 ·refine wpAny_storeName_local hk hn (λh' hn' hs=>?_) hcls
  obtain⟨oL,_,_,hoL,_⟩:=id hn
  refine h _ ⟨I.ok,I.os,I.bare,⟨λb o e n hb hx=>?_,λb o e n hb hx=>?_,I.base.free,λb o e hx=>?_,I.base.tups,I.base.frzs,I.base.tbls⟩,⟨_,hn',λj y v' e1 e2 e3=>?_⟩,λy c e=>?_,I.free,I.freeC,λp hp=>?_,tracked ⟨oL,hoL,I.free⟩ hs,by simpa using I.len⟩ ⟨_,hs,.inl rfl⟩
  ·exact(hs.2 b (Val (Vag (Heap.lt_size e) I.ok.above))).trans (I.base.keep b o e n hb hx)
  ·obtain⟨sl,e1⟩:=I.base.slot b o e n hb hx
   exact⟨sl,(hs.2 b (Val (Vag (Heap.lt_size e) I.ok.above))).trans e1⟩
  ·obtain⟨o',e1⟩:=I.base.there b o e hx
   exact⟨o',(hs.2 b (Val (Vag (Heap.lt_size e) I.ok.above))).trans e1⟩
  ·by_cases hj:j=i
   ·subst hj
    rw[hi] at e1; cases e1
    rw[VaD hiσ] at e2
    cases e2
    exact⟨u,r,.inl ⟨hk,by simp⟩⟩
   ·rw[VaA (Ne.symm hj)] at e2
    obtain⟨u',r',q⟩:=hl j y v' e1 e2 e3
    refine⟨u',r',?_⟩
    rcases q with ⟨k,e⟩ | ⟨k,c,e,z⟩
    ·refine .inl ⟨k,?_⟩
     have:y≠x:=λe=>hj (zi1 hN e1 (e ▸ hi))
     simp[this,e]
    ·exact .inr ⟨k,c,e,z.sameBut hs (cne y c e)⟩
  ·obtain⟨w',z⟩:=I.cell y c e
   exact⟨w',z.sameBut hs (cne y c e)⟩
  ·obtain⟨e,n,ne,nf,d⟩:=I.pin p hp
   exact⟨(hs.2 p.1 ne).trans e,n,ne,nf,d⟩
 ·have hfn:X.fn x=true:=by
   rcases hf with z | z
   ·exact z
   ·rw[z] at hk; cases hk
  obtain⟨c,hc⟩:=I.ok.has x (.inl hk)
  obtain⟨w',z⟩:=I.cell x c hc
  refine wpAny_storeName_cell I.ok.kind hk hc z (λh' hc' hs=>?_)
  obtain⟨oc,hoc,hocd⟩:=id z
  refine h { s with heap:=h' } ⟨I.ok,I.os,I.bare,⟨λb o e n hb hx=>?_,λb o e n hb hx=>?_,I.base.free,λb o e hx=>?_,I.base.tups,I.base.frzs,I.base.tbls⟩,⟨m,hn.sameBut hs (Ne.symm (cne x c hc)),λj y v' e1 e2 e3=>?_⟩,λy c' e=>?_,I.free,I.freeC,λp hp=>?_,tracked ⟨oc,hoc,I.freeC x c hc⟩ hs,by simpa using I.len⟩ ⟨c,hs,.inr hc⟩
  ·exact(hs.2 b (Val (Vag (Heap.lt_size e) (I.ok.cab x c hfn hc)))).trans (I.base.keep b o e n hb hx)
  ·obtain⟨sl,e1⟩:=I.base.slot b o e n hb hx
   exact⟨sl,(hs.2 b (Val (Vag (Heap.lt_size e) (I.ok.cab x c hfn hc)))).trans e1⟩
  ·obtain⟨o',e1⟩:=I.base.there b o e hx
   exact⟨o',(hs.2 b (Val (Vag (Heap.lt_size e) (I.ok.cab x c hfn hc)))).trans e1⟩
  ·by_cases hj:j=i
   ·subst hj
    rw[hi] at e1; cases e1
    rw[VaD hiσ] at e2
    cases e2
    exact⟨u,r,.inr ⟨.inl hk,c,hc,hc'⟩⟩
   ·rw[VaA (Ne.symm hj)] at e2
    obtain⟨u',r',q⟩:=hl j y v' e1 e2 e3
    refine⟨u',r',?_⟩
    rcases q with q | ⟨k,c',e,z'⟩
    ·exact .inl q
    ·refine .inr ⟨k,c',e,z'.sameBut hs ?_⟩
     rintro rfl
     exact hj (zi1 hN e1 (I.ok.inj _ _ _ e hc ▸ hi))
  ·by_cases hcc:c'=c
   ·subst hcc; exact⟨_,hc'⟩
   ·obtain⟨w2,z2⟩:=I.cell y c' e
    exact⟨w2,z2.sameBut hs hcc⟩
  ·obtain⟨e,n,ne,nf,d⟩:=I.pin p hp
   refine⟨(hs.2 p.1 ?_).trans e,n,ne,nf,d⟩
   intro q
   rw[q,hoc] at e
   have q':oc=p.2:=Option.some.inj e
   exact d w' (by rw[← q']; exact hocd)
theorem ziG {M:Model}{A:Around}{E:Value→Shared→Prop}{i:Nat}{x:Str}{v:V}{u:Value}{Q:Unit→Shared→Prop}(I:Inv X pins σ H s)(hN:X.N.Nodup)(hi:X.N[i]?=some x)(hx:Loc X.env.scope x)(r:zal v u)
  (h:∀s',Inv X pins (σ.set i (some v)) H s'→Q () s')(hf:X.fn x=true∨X.env.scope.names.lookup x=some .local:=by first | exact .inl rfl | exact .inr rfl | assumption):wpAny M A (storeName X.env x u) Q E s:=
 zlG I hN hi hx r (λs' I' _=>h s' I') hf
theorem Inv.call' {s':Shared}{ch:List Addr}(I:Inv X pins σ H s)(ho:s'.os=s.os)(u:Un (frs X.stack) ch H H' s.heap s'.heap)(hok:HOk X.prog X.w H' s'.heap)(hg:AllBare s'.gens)
  (hch:∀b∈ch,(b∈X.ex∨X.s₀.heap.objs.size≤b)∧b≠X.env.locals∧(∀x c,X.env.cells.lookup x=some c→c≠b)∧∀p∈X.pn++pins,p.1≠b):Inv X pins σ H' s':=by
 obtain⟨h',g',d',t',o'⟩:=s'
 have e:o'=s.os:=ho
 subst e
 exact I.call (g':=g') (t':=t') (d':=d') u hok hg hch
end
abbrev XK:=Value→Option Addr→Hp→Prop
abbrev St:=List (Option V)
abbrev VK:=V→Hp→Prop
abbrev TE:=St→Hp→VK→Prop
abbrev TT:=St→Hp→(Bool→Hp→Prop)→Prop
abbrev TA:=St→Hp→(List V→Hp→Prop)→Prop
structure zb8 where
 nx:St→Hp→Prop
 rt:VK
 bk:St→Hp→Prop:=λ_ _=>False
 ct:St→Hp→Prop:=λ_ _=>False
abbrev TS:=zb8→St→Hp→Prop
def EP (X:Cx)(pins:List (Addr×Obj))(σ:St)(Q:VK)(u:Value)(s':Shared):Prop:=∃v H',Inv X pins σ H' s'∧zal v u∧Q v H'
def TP (X:Cx)(pins:List (Addr×Obj))(σ:St)(Q:Bool→Hp→Prop)(b:Bool)(s':Shared):Prop:=∃H',Inv X pins σ H' s'∧Q b H'
def AP (X:Cx)(pins:List (Addr×Obj))(σ:St)(Q:List V→Hp→Prop)(us:List Value)(s':Shared):Prop:=∃vs H',Inv X pins σ H' s'∧zah vs us∧Q vs H'
def SP (X:Cx)(pins:List (Addr×Obj))(D:zb8)(f:Flow)(s':Shared):Prop:=
 match f with
 | .next=>∃σ' H',Inv X pins σ' H' s'∧D.nx σ' H'
 | .brk=>∃σ' H',Inv X pins σ' H' s'∧D.bk σ' H'
 | .cont=>∃σ' H',Inv X pins σ' H' s'∧D.ct σ' H'
 | .ret u=>∃v σ' H',Inv X pins σ' H' s'∧zal v u∧D.rt v H'
def PE (X:Cx)(e:Expr)(t:TE):Prop:=
 ∀(pins:List (Addr×Obj)) (s:Shared) (σ:St) (H:Hp) (Q:VK),Inv X pins σ H s→t σ H Q→wpAny (model X.prog X.w) X.A (eval e X.env) (EP X pins σ Q) X.xe s
def PT (X:Cx)(e:Expr)(t:TT):Prop:=
 ∀(pins:List (Addr×Obj)) (s:Shared) (σ:St) (H:Hp) (Q:Bool→Hp→Prop),Inv X pins σ H s→t σ H Q→wpAny (model X.prog X.w) X.A (isTrue e X.env (eval e X.env)) (TP X pins σ Q) X.xe s
def PW (X:Cx)(e:Expr)(t:TT):Prop:=
 ∀(whole:Sem Value) (pins:List (Addr×Obj)) (s:Shared) (σ:St) (H:Hp) (Q:Bool→Hp→Prop),Inv X pins σ H s→t σ H Q→wpAny (model X.prog X.w) X.A (isTrue e X.env whole) (TP X pins σ Q) X.xe s
theorem PW.pt {X:Cx}{e:Expr}{t:TT}(h:PW X e t):PT X e t:=h _
def PA (X:Cx)(es:List Expr)(t:TA):Prop:=
 ∀(pos:Pos) (pins:List (Addr×Obj)) (s:Shared) (σ:St) (H:Hp) (Q:List V→Hp→Prop),Inv X pins σ H s→t σ H Q→wpAny (model X.prog X.w) X.A (spliced (backTo pos (starEach es X.env))) (AP X pins σ Q) X.xe s
def PS (X:Cx)(st:Stmt)(t:TS):Prop:=
 ∀(pins:List (Addr×Obj)) (s:Shared) (σ:St) (H:Hp) (D:zb8),Inv X pins σ H s→t D σ H→wpAny (model X.prog X.w) X.A (exec st X.env) (SP X pins D) X.xe s
def PSs (X:Cx)(st:List Stmt)(t:TS):Prop:=
 ∀(pins:List (Addr×Obj)) (s:Shared) (σ:St) (H:Hp) (D:zb8),Inv X pins σ H s→t D σ H→wpAny (model X.prog X.w) X.A (execs st X.env) (SP X pins D) X.xe s
theorem thn {α:Type}{t:Sem α}{Q Q':α→Shared→Prop}{M:Model}{A:Around}{E:Value→Shared→Prop}{s:Shared}(h:wpAny M A t Q E s)(hQ:∀a s,Q a s→Q' a s):wpAny M A t Q' E s:=wpAny_mono h hQ λ_ _ x=>x
end L2
namespace L2
open PySem PySem.Spec PyProof.Rows
section
variable {X:Cx}
def tVar (i:Nat):TE:=λσ H Q=>∃v,σ[i]?=some (some v)∧Q v H
def tC (v:V):TE:=λ_ H Q=>Q v H
theorem zjN {i:Nat}{x:Str}{pos:Pos}(hN:X.N[i]?=some x)(hv:Vis X.env.scope x)(hd:(x==("__debug__":Str))=false:=by decide)(hcd:(x==("__classdict__":Str))=false:=by decide):PE X (.Name x pos) (tVar i):=by
 intro pins s σ H Q I h
 obtain⟨v,e,h⟩:=h
 obtain⟨m,hn,hl⟩:=I.loc
 obtain⟨u,r,l⟩:=hl i x v hN e hv
 have fin:EP X pins σ Q u s:=⟨v,H,I,r,h⟩
 rcases l with ⟨hk,hm⟩ | ⟨hk,c,hc,hcell⟩
 ·exact wpAny_Name (wpAny_loadName_local I.ok.kind hk hn hm fin) hd
 ·rcases hk with hk | hk
  ·exact wpAny_Name (wpAny_loadName_cell I.ok.kind hk hc hcell fin) hd
  ·exact wpAny_Name (wpAny_loadName_free I.ok.kind hk hc hcell fin hcd) hd
theorem zoU {i j pos}:PE X (.Constant (.int i) j pos) (tC (.int i)):=λ_ _ _ H _ I h=>wpAny_Constant_int ⟨.int i,H,I.tok _,⟨_,rfl⟩,h⟩
theorem pe_bl {b j pos}:PE X (.Constant (.bool b) j pos) (tC (.bl b)):=λ_ _ _ H _ I h=>Constant_bool ⟨.bl b,H,I,rfl,h⟩
theorem zoh {x j pos}:PE X (.Constant (.str x) j pos) (tC (.str x)):=λ_ _ _ H _ I h=>Calls.Constant_str ⟨.str x,H,I.tok _,⟨_,rfl⟩,h⟩
def Gl (X:Cx)(x:Str):Prop:=X.env.kindOf x=some .globalImplicit
theorem zf0 {E:Value→Shared→Prop}{pins:List (Addr×Obj)}{s:Shared}{σ:St}{H:Hp}{x:Str}{u:Value}{pos:Pos}{Q:Value→Shared→Prop}(I:Inv X pins σ H s)(hg:Gl X x)(hm:X.mg x=some u)(h:Q u s)
  (hd:(x==("__debug__":Str))=false:=by decide):wpAny (model X.prog X.w) X.A (eval (.Name x pos) X.env) Q E s:=
 Calls.Name_function_global I.ok.kind hg (Calls.loadGlobal_global (by rw[I.ok.glob]; exact I.mod.glob.keeps I.bk) hm h) hd
theorem zh9 {E:Value→Shared→Prop}{pins:List (Addr×Obj)}{s:Shared}{σ:St}{H:Hp}{x:Str}{u:Value}{pos:Pos}{Q:Value→Shared→Prop}(I:Inv X pins σ H s)(hg:Gl X x)(hm:X.mg x=none)(hv:bootBuiltins x=some u)(h:Q u s)
  (hn:x≠"__name__":=by decide)(hd:(x==("__debug__":Str))=false:=by decide):wpAny (model X.prog X.w) X.A (eval (.Name x pos) X.env) Q E s:=by
 obtain⟨mb,h1,h2⟩:=I.mod.blt
 exact Calls.Name_function_global I.ok.kind hg (Calls.loadGlobal_builtin (by rw[I.ok.glob]; exact I.mod.glob.keeps I.bk) hm (by rw[I.ok.blt]; exact h1.keeps I.bk) ((h2 x hn).trans hv) h) hd
theorem zeT {x:Str}{v:V}{u:Value}{pos:Pos}(hg:Gl X x)(hm:X.mg x=some u)(r:zal v u)(hd:(x==("__debug__":Str))=false:=by decide):PE X (.Name x pos) (tC v):=
 λ_ _ _ H _ I h=>zf0 I hg hm ⟨v,H,I,r,h⟩ hd
theorem zsj {x:Str}{v:V}{u:Value}{pos:Pos}(hg:Gl X x)(hm:X.mg x=none)(hv:bootBuiltins x=some u)(r:zal v u)(hn:x≠"__name__":=by decide)(hd:(x==("__debug__":Str))=false:=by decide):PE X (.Name x pos) (tC v):=
 λ_ _ _ H _ I h=>zh9 I hg hm hv ⟨v,H,I,r,h⟩ hn hd
variable {a b:Expr}{ta tb:TE}{pos:Pos}
def tB (t:TE):TT:=λσ H Q=>t σ H λx H1=>∃c,x=.bl c∧Q c H1
theorem zrc {e:Expr}{t:TE}(h:PE X e t)(he:∀whole,isTrue e X.env whole=(do let v ← whole; standAt e.pos; holding [v] (truthy v)):=by intro _; rfl):PT X e (tB t):=by
 intro pins s σ H Q I hw
 refine isTrue_plain (thn (h pins s σ H _ I hw) λv s1 ⟨x,H1,I1,r1,q1⟩=>?_) (he _)
 obtain⟨d,rfl,q⟩:=q1
 cases r1
 exact wpAny_truthy_bool ⟨H1,I1,q⟩
variable {tA tB':TT}{zaU:List Expr}
def tAnd (t u:TT):TT:=λσ H Q=>t σ H λc H1=>if c=true then u σ H1 Q else Q false H1
def tOr (t u:TT):TT:=λσ H Q=>t σ H λc H1=>if c=true then Q true H1 else u σ H1 Q
def tNot (t:TT):TT:=λσ H Q=>t σ H λc H1=>Q (!c) H1
theorem zsn (ha:PT X a tA):PW X (.BoolOp .And [a] pos) tA:=by
 intro wh pins s σ H Q I h
 refine isTrue_and (thn (ha pins s σ H Q I h) λc s1 e=>?_)
 cases c with
 | true=>exact isTrue_and_nil e
 | false=>exact e
theorem zq9 (ha:PT X a tA):PW X (.BoolOp .Or [a] pos) tA:=by
 intro wh pins s σ H Q I h
 refine isTrue_or (thn (ha pins s σ H Q I h) λc s1 e=>?_)
 cases c with
 | false=>exact isTrue_or_nil e
 | true=>exact e
theorem zsi (ha:PT X a tA)(hb:PW X (.BoolOp .And (b::zaU) pos) tB'):PW X (.BoolOp .And (a::b::zaU) pos) (tAnd tA tB'):=by
 intro wh pins s σ H Q I h
 refine isTrue_and (thn (ha pins s σ H _ I h) λc s1 ⟨H1,I1,q1⟩=>?_)
 cases c with
 | true=>exact hb wh pins s1 σ H1 Q I1 q1
 | false=>exact⟨H1,I1,q1⟩
theorem pw_or (ha:PT X a tA)(hb:PW X (.BoolOp .Or (b::zaU) pos) tB'):PW X (.BoolOp .Or (a::b::zaU) pos) (tOr tA tB'):=by
 intro wh pins s σ H Q I h
 refine isTrue_or (thn (ha pins s σ H _ I h) λc s1 ⟨H1,I1,q1⟩=>?_)
 cases c with
 | true=>exact⟨H1,I1,q1⟩
 | false=>exact hb wh pins s1 σ H1 Q I1 q1
theorem zq1 (ha:PT X a tA):PT X (.UnaryOp .Not a pos) (tNot tA):=by
 intro pins s σ H Q I h
 exact isTrue_not (ha pins s σ H (λc H1=>Q (!c) H1) I h)
def tAndV (ta tb:TE):TE:=λσ H Q=>ta σ H λx H1=>∃c,x=.bl c∧if c=true then tb σ H1 Q else Q (.bl false) H1
def tNotV (ta:TE):TE:=λσ H Q=>ta σ H λx H1=>∃c,x=.bl c∧Q (.bl (!c)) H1
theorem zro {op}{t:TE}(h:PE X a t):PE X (.BoolOp op [a] pos) t:=λpins s σ H Q I hw=>BoolOp_one (h pins s σ H Q I hw)
theorem zqr (ha:PE X a ta)(hb:PE X (.BoolOp .And (b::zaU) pos) tb):PE X (.BoolOp .And (a::b::zaU) pos) (tAndV ta tb):=by
 intro pins s σ H Q I h
 refine BoolOp_and (thn (ha pins s σ H _ I h) λv s1 ⟨x,H1,I1,r1,q1⟩=>?_)
 obtain⟨c,rfl,q1⟩:=q1
 cases r1
 refine wpAny_truthy_bool ?_
 cases c with
 | true=>exact hb pins s1 σ H1 Q I1 q1
 | false=>exact⟨.bl false,H1,I1,rfl,q1⟩
theorem zqw (ha:PE X a ta):PE X (.UnaryOp .Not a pos) (tNotV ta):=by
 intro pins s σ H Q I h
 refine UnaryOp_ (thn (ha pins s σ H _ I h) λv s1 ⟨x,H1,I1,r1,q1⟩=>?_)
 obtain⟨c,rfl,q1⟩:=q1
 cases r1
 exact not_of (wpAny_truthy_bool ⟨.bl (!c),H1,I1,rfl,q1⟩)
def tIf (t:TT)(ta tb:TE):TE:=λσ H Q=>t σ H λc H1=>if c=true then ta σ H1 Q else tb σ H1 Q
theorem zrS {c:Expr}(hc:PT X c tA)(ha:PE X a ta)(hb:PE X b tb):PE X (.IfExp c a b pos) (tIf tA ta tb):=by
 intro pins s σ H Q I h
 refine wpAny_IfExp (thn (hc pins s σ H _ I h) λd s1 ⟨H1,I1,q1⟩=>?_)
 cases d with
 | true=>exact ha pins s1 σ H1 Q I1 q1
 | false=>exact hb pins s1 σ H1 Q I1 q1
end
end L2
namespace L2
open PySem PySem.Spec PyProof.Rows
def SqL (K:PySem.W.Frag)(H:Hp)(a:Addr)(xs:List V):Prop:=
 Rd H a (.lst xs)∨
  ∃(o:Obj) (its:Array Value) (n:Nat),K.lookup a=some o∧o.cls=.type "list"∧o.dict=none∧o.data=.seq its n∧its.size≤sizeLine∧zah xs its.toList
def SqT (K:PySem.W.Frag)(H:Hp)(a:Addr)(xs:List V):Prop:=
 Rd H a (.tup xs)∨
  ∃(o:Obj) (its:Array Value) (n:Nat),K.lookup a=some o∧o.cls=.type "tuple"∧o.data=.seq its n∧its.size≤sizeLine∧zah xs its.toList
def absV:Value→Option V
 | .none=>some .non
 | .bool b=>some (.bl b)
 | .int i _=>some (.int i)
 | .str x _=>some (.str x)
 | .bytes b _=>some (.byt b)
 | .float b _=>some (.flt b)
 | .ref a=>some (.ref a)
 | .type n=>some (.ty n)
 | _=>none
theorem zal.abs {x:V}{u:Value}(r:zal x u):absV u=some x:=by
 cases x with
 | non=>cases r; rfl
 | bl _=>cases r; rfl
 | int _=>obtain⟨t,rfl⟩:=r; rfl
 | str _=>obtain⟨t,rfl⟩:=r; rfl
 | byt _=>obtain⟨t,rfl⟩:=r; rfl
 | flt _=>obtain⟨t,rfl⟩:=r; rfl
 | ref _=>cases r; rfl
 | ty _=>cases r; rfl
theorem zal.inj {x y:V}{u:Value}(r:zal x u)(q:zal y u):x=y:=Option.some.inj (r.abs.symm.trans q.abs)
theorem zah.inj:∀ {xs ys:List V} {us:List Value},zah xs us→zah ys us→xs=ys
 | _,_,_,.nil,.nil=>rfl
 | _,_,_,.cons r t,.cons r' t'=>by rw[r.inj r',zah.inj t t']
section
variable {X:Cx}{pins:List (Addr×Obj)}{σ:St}{H:Hp}{s:Shared}{a:Addr}{xs ys:List V}
theorem SqL.of {K:PySem.W.Frag}(h:H a=some (.lst xs)):SqL K H a xs:=.inl (.inl h)
theorem SqT.of {K:PySem.W.Frag}(h:H a=some (.tup xs)):SqT K H a xs:=.inl (.inl h)
theorem Inv.list (I:Inv X pins σ H s)(h:SqL X.K H a xs):∃its:List Value,zah xs its∧PlainL s.heap a its.toArray∧xs.length≤sizeLine:=by
 rcases h with h | ⟨o,its,n,hk,hc,hd,hs,hz,r⟩
 ·obtain⟨z,its,n,r,e⟩:=h.ok I.hok
  exact⟨its,r,⟨_,n,e,rfl,rfl,rfl⟩,z⟩
 ·refine⟨its.toList,r,⟨o,n,I.kIn a o hk,hc,hd,by simpa using hs⟩,?_⟩
  have e:=r.length
  simp only[Array.length_toList] at e
  omega
theorem Inv.tuple (I:Inv X pins σ H s)(h:SqT X.K H a xs):∃its:List Value,zah xs its∧IsTup s.heap a its.toArray∧xs.length≤sizeLine:=by
 rcases h with h | ⟨o,its,n,hk,hc,hs,hz,r⟩
 ·obtain⟨z,its,r,p⟩:=h.ok I.hok
  exact⟨its,r,p,z⟩
 ·refine⟨its.toList,r,⟨o,I.kIn a o hk,hc,n,by simpa using hs⟩,?_⟩
  have e:=r.length
  simp only[Array.length_toList] at e
  omega
theorem Inv.list_inj (I:Inv X pins σ H s)(h:SqL X.K H a xs)(h':SqL X.K H a ys):xs=ys:=by
 obtain⟨its,r,⟨o,n,e,_,_,d⟩,_⟩:=I.list h
 obtain⟨its',r',⟨o',n',e',_,_,d'⟩,_⟩:=I.list h'
 rw[e] at e'; cases e'
 rw[d] at d'
 injection d' with d1 _
 have:its=its':=by simpa using congrArg Array.toList d1
 subst this
 exact r.inj r'
end
abbrev Cx.wish (X:Cx)(E:Value→Shared→Prop):Cx:={ X with xe:=E }
abbrev Cx.nox (X:Cx):Cx:=X.wish λ_ _=>False
theorem Cx.Ok.wish {X:Cx}(ok:X.Ok)(E:Value→Shared→Prop):(X.wish E).Ok:=
 ⟨ok.mod,ok.kind,ok.glob,ok.blt,ok.above,ok.inj,ok.has,ok.cab,ok.hd,ok.frames,ok.stk,ok.exf,ok.bs,ok.bsz,ok.noex,ok.exfs,ok.funs,ok.frf⟩
theorem Cx.Ok.unwish {X:Cx}{E:Value→Shared→Prop}(ok:(X.wish E).Ok):X.Ok:=
 ⟨ok.mod,ok.kind,ok.glob,ok.blt,ok.above,ok.inj,ok.has,ok.cab,ok.hd,ok.frames,ok.stk,ok.exf,ok.bs,ok.bsz,ok.noex,ok.exfs,ok.funs,ok.frf⟩
section
variable {X:Cx}{pins:List (Addr×Obj)}{σ:St}{H:Hp}{s:Shared}{E:Value→Shared→Prop}
theorem Inv.wish (I:Inv X pins σ H s)(E:Value→Shared→Prop):Inv (X.wish E) pins σ H s:=⟨I.ok.wish E,I.os,I.bare,I.base,I.loc,I.cell,I.free,I.freeC,I.pin,I.hok,I.len⟩
theorem Inv.unwish (I:Inv (X.wish E) pins σ H s):Inv X pins σ H s:=⟨I.ok.unwish,I.os,I.bare,I.base,I.loc,I.cell,I.free,I.freeC,I.pin,I.hok,I.len⟩
theorem SP.unwish {D:zb8}{f:Flow}{s':Shared}(h:SP (X.wish E) pins D f s'):SP X pins D f s':=by
 cases f with
 | next=>obtain⟨σ',H',I,q⟩:=h; exact⟨σ',H',I.unwish,q⟩
 | brk=>obtain⟨σ',H',I,q⟩:=h; exact⟨σ',H',I.unwish,q⟩
 | cont=>obtain⟨σ',H',I,q⟩:=h; exact⟨σ',H',I.unwish,q⟩
 | ret u=>obtain⟨v,σ',H',I,r,q⟩:=h; exact⟨v,σ',H',I.unwish,r,q⟩
theorem PE.nox {e:Expr}{t:TE}(h:PE X.nox e t):PE X e t:=λpins s σ H Q I hw=>
 wpAny_mono (h pins s σ H Q (I.wish _) hw) (λ_ _ ⟨v,H',I',r,q⟩=>⟨v,H',I'.unwish,r,q⟩) λ_ _ z=>False.elim z
theorem PT.nox {e:Expr}{t:TT}(h:PT X.nox e t):PT X e t:=λpins s σ H Q I hw=>
 wpAny_mono (h pins s σ H Q (I.wish _) hw) (λ_ _ ⟨H',I',q⟩=>⟨H',I'.unwish,q⟩) λ_ _ z=>False.elim z
theorem PSs.nox {st:List Stmt}{t:TS}(h:PSs X.nox st t):PSs X st t:=λpins s σ H D I hw=>
 wpAny_mono (h pins s σ H D (I.wish _) hw) (λ_ _ q=>q.unwish) λ_ _ z=>False.elim z
end
section
variable {X:Cx}{st:Stmt}{zaU:List Stmt}{t u:TS}{e:Expr}{te:TE}{pos:Pos}
def tNext:TS:=λD σ H=>D.nx σ H
def tSeq (t u:TS):TS:=λD σ H=>t { D with nx:=u D } σ H
theorem zoj:PSs X [] tNext:=λ_ _ σ H _ I h=>wpAny_execs_nil ⟨σ,H,I,h⟩
theorem zrN (h1:PS X st t)(h2:PSs X zaU u):PSs X (st::zaU) (tSeq t u):=by
 intro pins s σ H D I h
 refine wpAny_execs_cons (thn (h1 pins s σ H { D with nx:=u D } I h) λf s1 q=>?_)
 cases f with
 | next=>
  obtain⟨σ',H',I',q⟩:=q
  exact h2 pins s1 σ' H' D I' q
 | ret v=>exact q
 | brk=>exact q
 | cont=>exact q
theorem zql (h1:PS X st t):PSs X [st] t:=by
 intro pins s σ H D I h
 refine wpAny_execs_cons (thn (h1 pins s σ H D I h) λf s1 q=>?_)
 cases f with
 | next=>exact wpAny_execs_nil q
 | ret v=>exact q
 | brk=>exact q
 | cont=>exact q
theorem Inv.quiet {pins:List (Addr×Obj)}{σ:St}{H:Hp}{s:Shared}(I:Inv X pins σ H s):interactive X.env=false:=by simp[interactive,I.ok.kind]
def tDrop (te:TE):TS:=λD σ H=>te σ H λ_ H1=>D.nx σ H1
theorem zrJ (he:PE X e te)(hs:swapsWith e none pos.line X.env=pure false:=by rfl):PS X (.Expr e pos) (tDrop te):=by
 intro pins s σ H D I h
 exact wpAny_Expr_any (thn (he pins s σ H _ I h) λv s1 ⟨x,H1,I1,r1,q1⟩=>⟨σ,H1,I1,q1⟩) I.quiet hs
def tRet (te:TE):TS:=λD σ H=>te σ H D.rt
theorem zqR (he:PE X e te):PS X (.Return (some e) pos) (tRet te):=by
 intro pins s σ H D I h
 exact wpAny_Return_some (thn (he pins s σ H _ I h) λv s1 ⟨x,H1,I1,r1,q1⟩=>⟨x,σ,H1,I1,r1,q1⟩)
def tIfS (c:TT)(t u:TS):TS:=λD σ H=>c σ H λb H1=>if b=true then t D σ H1 else u D σ H1
theorem ps_if {c:Expr}{a b:List Stmt}{tc:TT}(hc:PT X c tc)(ha:PSs X a t)(hb:PSs X b u):PS X (.If c a b pos) (tIfS tc t u):=by
 intro pins s σ H D I h
 refine wpAny_If (thn (hc pins s σ H _ I h) λd s1 ⟨H1,I1,q1⟩=>?_)
 cases d with
 | true=>exact ha pins s1 σ H1 D I1 q1
 | false=>exact hb pins s1 σ H1 D I1 q1
end
abbrev TG:=V→St→Hp→(St→Hp→Prop)→Prop
def PG (X:Cx)(target:Expr)(t:TG):Prop:=
 ∀(pins:List (Addr×Obj)) (s:Shared) (σ:St) (H:Hp) (v:V) (u:Value) (Q:St→Hp→Prop),Inv X pins σ H s→zal v u→t v σ H Q→
  wpAny (model X.prog X.w) X.A (assign target X.env u) (λ_ s'=>∃σ' H',Inv X pins σ' H' s'∧Q σ' H') X.xe s
section
variable {X:Cx}{pos:Pos}
def zlz (i:Nat):TG:=λv σ H Q=>Q (σ.set i (some v)) H
theorem ziN {i:Nat}{x:Str}(hN:X.N.Nodup)(hi:X.N[i]?=some x)(hx:Loc X.env.scope x)(hf:X.fn x=true∨X.env.scope.names.lookup x=some .local:=by first | exact .inl rfl | exact .inr rfl | assumption):PG X (.Name x pos) (zlz i):=by
 intro pins s σ H v u Q I r h
 exact wpAny_assign_Name (ziG I hN hi hx r (λs' I'=>⟨_,H,I',h⟩) hf)
def tAsg (te:TE)(g:TG):TS:=λD σ H=>te σ H λx H1=>g x σ H1 D.nx
theorem zmx {i:Nat}{x:Str}{e:Expr}{te:TE}{pos':Pos}(hN:X.N.Nodup)(hi:X.N[i]?=some x)(hx:Loc X.env.scope x)(he:PE X e te)(hs:swapsWith e (some (.Name x pos')) pos.line X.env=pure false:=by rfl)(hf:X.fn x=true∨X.env.scope.names.lookup x=some .local:=by first | exact .inl rfl | exact .inr rfl | assumption):
  PS X (.Assign [.Name x pos'] e pos) (tAsg te (zlz i)):=by
 intro pins s σ H D I h
 refine wpAny_Assign_Name (thn (he pins s σ H _ I h) λv s1 ⟨y,H1,I1,r1,q1⟩=>?_) hs
 exact ziG I1 hN hi hx r1 (λs2 I2=>⟨_,H1,I2,q1⟩) hf
end
section
variable {X:Cx}{pos:Pos}
def zpT (c:TT)(tb:TS):TS:=λD σ H=>∃W:Nat→St→Hp→Prop,(∃m,W m σ H)∧∀m σ H,W m σ H→
 c σ H λb H1=>if b=true then ∃N:St→Hp→Prop,(∀σ' H',N σ' H'→∃m',m'<m∧W m' σ' H')∧tb { D with nx:=N,ct:=N,bk:=D.nx } σ H1 else D.nx σ H1
theorem zqX {c:Expr}{body:List Stmt}{tc:TT}{tb:TS}(hp:PassesOwn (model X.prog X.w) X.A X.env X.xe)(hc:PT X c tc)(hb:PSs X body tb):PS X (.While c body [] pos) (zpT tc tb):=by
 intro pins s σ H D I h
 obtain⟨W,⟨m0,w0⟩,turn⟩:=h
 refine wpAny_While (codeAny_whileLoop (λn s'=>∃σ' H',Inv X pins σ' H' s'∧W n σ' H') ?_ m0 ⟨σ,H,I,w0⟩)
 rintro n s1 ⟨σ1,H1,I1,w1⟩
 refine wpAny_passesOwn hp (thn (hc pins s1 σ1 H1 _ I1 (turn n σ1 H1 w1)) λb s2 ⟨H2,I2,q2⟩=>?_)
 cases b with
 | true=>
  obtain⟨N,hN,q2⟩:=q2
  rw[if_pos rfl]
  refine wpAny_passesOwn hp (thn (hb pins s2 σ1 H2 _ I2 q2) λf s3 q3=>?_)
  cases f with
  | next=>
   obtain⟨σ3,H3,I3,n3⟩:=q3
   obtain⟨m',hm,w3⟩:=hN σ3 H3 n3
   exact⟨m',hm,σ3,H3,I3,w3⟩
  | cont=>
   obtain⟨σ3,H3,I3,n3⟩:=q3
   obtain⟨m',hm,w3⟩:=hN σ3 H3 n3
   exact⟨m',hm,σ3,H3,I3,w3⟩
  | brk=>exact q3
  | ret v=>exact q3
 | false=>
  rw[if_neg Vae]
  exact wpAny_execs_nil ⟨σ1,H2,I2,q2⟩
end
structure It where
 go:Nat→Hp→Prop
 yld:Nat→Hp→V→Hp→Prop
 stop:Nat→Hp→Prop
def zcs (X:Cx)(pins:List (Addr×Obj))(H:Hp)(b:Addr):Prop:=
 H b=none∧b≠X.env.locals∧b ∉ X.fs∧(b∈X.ex∨X.s₀.heap.objs.size≤b)∧(∀x c,X.env.cells.lookup x=some c→c≠b)∧∀p∈X.pn++pins,p.1≠b
theorem Inv.fpOk {X:Cx}{pins:List (Addr×Obj)}{σ:St}{H H':Hp}{s:Shared}{b:Addr}(I:Inv X pins σ H s)(hb:s.heap.objs.size≤b)(hn:H' b=none):zcs X pins H' b:=by
 refine⟨hn,Nat.ne_of_gt (Vag I.lt hb),I.nofs hb,.inr (Vao I.sz hb),λx c e z=>?_,λp hp z=>?_⟩
 ·obtain⟨v,q⟩:=I.cell x c e
  exact absurd (Vag q.lt (by rw[z]; exact hb)) (VaB _)
 ·exact absurd (Vag (Heap.lt_size (I.pin p hp).1) (by rw[z]; exact hb)) (VaB _)
structure zii (P:Program)(w:World)(K:PySem.W.Frag)(tg:Expr)(J:It)(fp:List Addr)(it:Addr)(tn:Nat→Heap→Prop):Prop where
 mem:it∈fp
 obj:∀i h,tn i h→∀b∈fp,∃o,h.get? b=some o∧∀v,o.data≠.cell v
 keep:∀i h h',tn i h→(∀b∈fp,∀o,h.get? b=some o→h'.get? b=some o)→tn i h'
 item:∀(X:Cx),X.prog=P→X.w=w→X.K=K→X.calm=true→∀(i:Nat) (pins:List (Addr×Obj)) (s:Shared) (σ:St) (H:Hp) (E:Value→Shared→Prop),Inv X pins σ H s→(∀b∈fp,zcs X pins H b)→tn i s.heap→J.go i H→
  wpAny (model P w) X.A (pyNext (.ref it)) (λr s1=>∃u,r=some u∧
   wpAny (model P w) X.A (letOwnedTupleGo tg (.ref it) u) (λ_ s2=>∃x H',Inv X pins σ H' s2∧zal x u∧J.yld i H x H'∧tn (i+1) s2.heap∧∀b∈fp,H' b=none) E s1) E s
 done:∀(X:Cx),X.prog=P→X.w=w→X.K=K→X.calm=true→∀(i:Nat) (pins:List (Addr×Obj)) (s:Shared) (σ:St) (H:Hp) (E:Value→Shared→Prop),Inv X pins σ H s→(∀b∈fp,zcs X pins H b)→tn i s.heap→J.stop i H→
  wpAny (model P w) X.A (pyNext (.ref it)) (λr s1=>r=none∧Inv X pins σ H s1) E s
 self:∀(A:Around) (i:Nat) (s:Shared) (Q:Value→Shared→Prop) (E:Value→Shared→Prop),tn i s.heap→Q (.ref it) s→wpAny (model P w) A (pyIter (.ref it)) Q E s
abbrev TI:=St→Hp→(It→Hp→Prop)→Prop
def PIE (X:Cx)(pins:List (Addr×Obj))(σ:St)(tg:Expr)(R:It→Hp→Prop)(itv:Value)(s2:Shared):Prop:=
 ∃(it:Addr) (fp:List Addr) (tn:Nat→Heap→Prop) (J:It) (H':Hp),itv=.ref it∧Inv X pins σ H' s2∧zii X.prog X.w X.K tg J fp it tn∧tn 0 s2.heap∧(∀b∈fp,zcs X pins H' b)∧R J H'
def PI (X:Cx)(tg iter:Expr)(wi:TI):Prop:=
 ∀(pins:List (Addr×Obj)) (s:Shared) (σ:St) (H:Hp) (R:It→Hp→Prop),Inv X pins σ H s→wi σ H R→
  wpAny (model X.prog X.w) X.A (eval iter X.env) (λv s1=>wpAny (model X.prog X.w) X.A (pyIter v) (PIE X pins σ tg R) X.xe s1) X.xe s
theorem ziA {M:Model}{A:Around}{E:Value→Shared→Prop}{s:Shared}{tg:Expr}{it:Addr}{u:Value}{o:Obj}{n:String}{vs:Array Value}{Q:Unit→Shared→Prop}(ho:s.heap.get? it=some o)(hc:o.cls=.type n)(hd:o.data=.fields vs)
    (hn:["enumerate","zip","dict_itemiterator","dict_reverseitemiterator","odict_iterator","itertools.zip_longest","itertools.pairwise"].contains n=false)(hQ:Q () s):wpAny M A (letOwnedTupleGo tg (.ref it) u) Q E s:=by
  unfold letOwnedTupleGo
  cases tg <;> first
    | exact wpAny_pure hQ
    | (cases u <;> first
        | exact wpAny_pure hQ
        | (refine wpAny_bind (wpAny_load ho ?_)
           rw[hc,hd]
           show wpAny M A (if (["enumerate","zip","dict_itemiterator","dict_reverseitemiterator","odict_iterator","itertools.zip_longest","itertools.pairwise"].contains n&&vs[0]?==some (rawInt _))=true then _ else _) Q E s
           rw[if_neg (by intro h; rw[hn,VaH] at h; cases h)]
           exact wpAny_pure hQ))
def Itl (K:PySem.W.Frag)(a:Addr):It:=
 ⟨λi H=>∃xs x,SqL K H a xs∧xs[i]?=some x,λi H x H'=>H'=H∧∀xs,SqL K H a xs→xs[i]?=some x,λi H=>∃xs,SqL K H a xs∧xs.length≤i⟩
def Itr (lo:Int)(n:Nat):It:=⟨λi _=>i<n,λi H x H'=>H'=H∧x=.int (lo+i),λi _=>n≤i⟩
theorem zpb {P:Program}{w:World}{K:PySem.W.Frag}{tg:Expr}(a it:Addr):zii P w K tg (Itl K a) [it] it (λi h=>h.IsListIter it a i) where
 mem:=by simp
 obj:=λi h st b hb=>by
  have e:b=it:=by simpa using hb
  subst e
  obtain⟨o,e,c,d⟩:=st
  exact⟨o,e,λv z=>by rw[d] at z; cases z⟩
 keep:=λi h h' st k=>st.at λo e=>k it (by simp) o e
 item:=by
  intro X hP hw hK hc i pins s σ H E I hf st hg
  subst hP hw hK
  obtain⟨xs,x,hq,hx⟩:=hg
  obtain⟨its,rv,p,hz⟩:=I.list hq
  obtain⟨u,hu,ru⟩:=rv.get hx
  obtain⟨f0,f1,f2,f3,f4,f5⟩:=hf it (by simp)
  refine wpAny_pyNext_list_item st p.isList (x:=u) (by simpa using hu) λh' st' sb=>?_
  have I1:Inv X pins σ H { s with heap:=h' }:=I.turned (t':=s.toks) (λb o hb e=>(sb.2 b hb).trans e) f0 f1 f3 f4 f5
  obtain⟨o,e,c,d⟩:=id st'
  exact⟨u,rfl,ziA (s:={ s with heap:=h' }) e c d (by decide) ⟨x,H,I1,ru,⟨rfl,λys hy=>by rw[I.list_inj hy hq]; exact hx⟩,st',λb hb=>(hf b hb).1⟩⟩
 done:=by
  intro X hP hw hK hc i pins s σ H E I hf st hg
  subst hP hw hK
  obtain⟨xs,hq,hx⟩:=hg
  obtain⟨its,rv,p,hz⟩:=I.list hq
  obtain⟨f0,f1,f2,f3,f4,f5⟩:=hf it (by simp)
  have hl:=rv.length
  exact wpAny_pyNext_list_end (I.ok.hd hc) st p.isList (by simp; omega) λh' eb=>⟨rfl,I.turned (t':=s.toks) (λb o hb e=>eb b o hb e) f0 f1 f3 f4 f5⟩
 self:=λ_ _ _ _ _ st h=>wpAny_pyIter_listiter st h
theorem zmW {P:Program}{w:World}{K:PySem.W.Frag}{tg:Expr}(it:Addr)(lo:Int)(n:Nat):zii P w K tg (Itr lo n) [it] it (λi h=>IsRangeIter h it (lo+(i:Nat)*1) ((n:Int)-(i:Nat)) 1) where
 mem:=by simp
 obj:=λi h st b hb=>by
  have e:b=it:=by simpa using hb
  subst e
  exact⟨_,st,λv z=>by
   have z':Data.fields _=Data.cell v:=z
   cases z'⟩
 keep:=λi h h' st k=>k it (by simp) _ st
 item:=by
  intro X hP hw hK hc i pins s σ H E I hf st hg
  subst hP hw hK
  obtain⟨f0,f1,f2,f3,f4,f5⟩:=hf it (by simp)
  have W:=Walks.range (prog:=X.prog) (w:=X.w) (I.ok.hd hc) it lo 1 n
  refine W.item i s _ _ hg st λv h' tk hv st' kk=>?_
  obtain⟨t,rfl⟩:=hv
  have I1:Inv X pins σ H { s with heap:=h',toks:=tk }:=I.turned (λb o hb e=>kk b o (by simpa using hb) e) f0 f1 f3 f4 f5
  refine⟨_,rfl,ziA (s:={ s with heap:=h',toks:=tk }) (n:="range_iterator") st' rfl rfl (by decide) ⟨.int (lo+i),H,I1,⟨t,?_⟩,⟨rfl,rfl⟩,st',λb hb=>(hf b hb).1⟩⟩
  rw[Int.mul_one]
 done:=by
  intro X hP hw hK hc i pins s σ H E I hf st hg
  subst hP hw hK
  obtain⟨f0,f1,f2,f3,f4,f5⟩:=hf it (by simp)
  exact wpAny_pyNext_range_end (I.ok.hd hc) st (by have:n≤i:=hg; omega) λh' eb=>⟨rfl,I.turned (t':=s.toks) (λb o hb e=>eb b o hb e) f0 f1 f3 f4 f5⟩
 self:=λ_ _ _ _ _ st h=>wpAny_pyIter_rangeiter st h
end L2
namespace L2
open PySem PySem.Spec PyProof.Rows
section
variable {X:Cx}{tg:Expr}
def iList (K:PySem.W.Frag)(tl:TE):TI:=λσ H R=>tl σ H λx H1=>∃a,x=.ref a∧(∃xs,SqL K H1 a xs)∧R (Itl K a) H1
theorem zok {l:Expr}{tl:TE}(hl:PE X l tl):PI X tg l (iList X.K tl):=by
 intro pins s σ H R I h
 refine thn (hl pins s σ H _ I h) λv s1 ⟨x,H1,I1,r1,q1⟩=>?_
 obtain⟨a,e,⟨xs,hq⟩,q⟩:=q1
 subst e
 cases r1
 obtain⟨its,rv,p,hz⟩:=I1.list hq
 refine wpAny_pyIter_list p.isList ?_
 refine⟨s1.heap.objs.size,[s1.heap.objs.size],_,_,H1,rfl,I1.kept (t':=s1.toks) λb o e=>Heap.get?_push_of_some _ e,zpb a _,⟨_,Heap.get?_push_size _ rfl,rfl,rfl⟩,λb hb=>?_,q⟩
 have e:b=s1.heap.objs.size:=by simpa using hb
 subst e
 exact I1.fpOk (Vaa _) (I1.hok.fresh (Vaa _))
theorem znz {pins:List (Addr×Obj)}{σ:St}{H:Hp}{s:Shared}{R:It→Hp→Prop}{E:Value→Shared→Prop}{lo hi:Int}{t u v:Tok}{tk:Nat}(I:Inv X pins σ H s)(h1:-(2^62)≤lo)(h2:lo<2^62)(h3:-(2^62)≤hi)(h4:hi<2^62)
  (q:R (Itr lo (hi-lo).toNat) H):wpAny (model X.prog X.w) X.A (pyIter (.ref s.heap.objs.size)) (PIE X pins σ tg R) E { s with heap:=s.heap.push { cls:=.type "range",data:=.fields #[.int lo t,.int hi u,.int 1 v] },toks:=tk }:=by
 refine wpAny_pyIter_range (IsRange.new ..) (small_one h1 h2 h3 h4) ?_
 have I1:Inv X pins σ H { s with heap:=s.heap.push { cls:=.type "range",data:=.fields #[.int lo t,.int hi u,.int 1 v] },toks:=tk }:=I.kept λb o e=>Heap.get?_push_of_some _ e
 refine⟨(s.heap.push { cls:=.type "range",data:=.fields #[.int lo t,.int hi u,.int 1 v] }).objs.size,[(s.heap.push { cls:=.type "range",data:=.fields #[.int lo t,.int hi u,.int 1 v] }).objs.size],_,_,H,rfl,
  I1.kept (t':=tk) λb o e=>Heap.get?_push_of_some _ e,zmW _ lo (hi-lo).toNat,?_,λb hb=>?_,q⟩
 ·have e1:lo+((0:Nat):Int)*1=lo:=by simp
  have e2:(((hi-lo).toNat:Nat):Int)-((0:Nat):Int)=Builtin.Range.rangeSize lo hi 1:=by rw[rangeSize_one]; split <;> omega
  show IsRangeIter _ _ (lo+((0:Nat):Int)*1) ((((hi-lo).toNat:Nat):Int)-((0:Nat):Int)) 1
  rw[e1,e2]
  exact Heap.get?_push_size _ rfl
 ·have e:b=(s.heap.push { cls:=.type "range",data:=.fields #[.int lo t,.int hi u,.int 1 v] }).objs.size:=by simpa using hb
  subst e
  exact I1.fpOk (Vaa _) (I1.hok.fresh (Vaa _))
def zla (ta:TA):TI:=λσ H R=>ta σ H λvs H1=>∃j:Int,vs=[.int j]∧-(2^62)≤j∧j<2^62∧R (Itr 0 j.toNat) H1
theorem zi3 {a:Expr}{ta:TA}{p pos:Pos}(hg:Gl X "range")(hm:X.mg "range"=none)(ha:PA X [a] ta)(hs:starEach [a] X.env=[(false,eval a X.env)]:=by rfl):PI X tg (.Call (.Name "range" p) [a] [] pos) (zla ta):=by
 intro pins s σ H R I h
 refine Call_ (zh9 I hg hm boot_range (PyProof.Rows.callWith_type1 (thn (ha pos pins s σ H _ I h) λus s1 ⟨vs,H1,I1,r1,q1⟩=>?_) hs rfl))
 obtain⟨j,e,q1,q2,q⟩:=q1
 subst e
 cases r1 with
 | cons r rr=>
  cases rr
  obtain⟨t,rfl⟩:=r
  exact call_range_1 (znz I1 (by omega) (by omega) q1 q2 (by simpa using q))
def tFor (wi:TI)(g:TG)(tb:TS):TS:=λD σ H=>wi σ H λJ H1=>∃W:Nat→Nat→St→Hp→Prop,(∃m,W 0 m σ H1)∧∀i m σ H,W i m σ H→
 (J.stop i H∧D.nx σ H)∨(J.go i H∧∃N:St→Hp→Prop,(∀σ' H',N σ' H'→∃m',m'<m∧W (i+1) m' σ' H')∧∀x H',J.yld i H x H'→g x σ H' λσ2 H2=>tb { D with nx:=N,ct:=N,bk:=D.nx } σ2 H2)
def zfU (fp:List Addr)(h:Heap):List (Addr×Obj):=fp.filterMap λb=>(h.get? b).map λo=>(b,o)
theorem zgN {fp:List Addr}{h:Heap}{b:Addr}{o:Obj}(hb:b∈fp)(e:h.get? b=some o):(b,o)∈zfU fp h:=List.mem_filterMap.mpr ⟨b,hb,by rw[e]; rfl⟩
theorem zqM {fp:List Addr}{h:Heap}{p:Addr×Obj}(hp:p∈zfU fp h):p.1∈fp∧h.get? p.1=some p.2:=by
 obtain⟨b,hb,e⟩:=List.mem_filterMap.mp hp
 cases q:h.get? b with
 | none=>rw[q] at e; cases e
 | some o=>
  rw[q] at e
  have e':(b,o)=p:=Option.some.inj e
  subst e'
  exact⟨hb,q⟩
theorem Inv.pinned {pins:List (Addr×Obj)}{σ:St}{H:Hp}{s:Shared}{fp:List Addr}(I:Inv X pins σ H s)(hf:∀b∈fp,zcs X pins H b)(ho:∀b∈fp,∃o,s.heap.get? b=some o∧∀v,o.data≠.cell v):Inv X (pins++zfU fp s.heap) σ H s:=
 I.pins_of λp hp=>(Vak.mp hp).elim (λz=>I.pin p (VaE _ z)) λz=>by
  obtain⟨hb,e⟩:=zqM z
  obtain⟨f0,f1,f2,_⟩:=hf p.1 hb
  obtain⟨o,e',d⟩:=ho p.1 hb
  rw[e] at e'; cases e'
  exact⟨e,f0,f1,f2,d⟩
theorem Inv.unpinned {pins pl:List (Addr×Obj)}{σ:St}{H:Hp}{s:Shared}(I:Inv X (pins++pl) σ H s):Inv X pins σ H s:=I.pins_of λp hp=>I.pin p (VaE _ (List.mem_append_left _ hp))
theorem zlM {iter:Expr}{body:List Stmt}{wi:TI}{g:TG}{tb:TS}{pos:Pos}(hp:PassesOwn (model X.prog X.w) X.A X.env X.xe)(hc:X.calm=true)(hi:PI X tg iter wi)(hg:PG X tg g)(hb:PSs X body tb)
  (hs:∀x,foldedSetIterable iter X.env x=pure x:=by intro _; rfl):PS X (.For tg iter body [] pos) (tFor wi g tb):=by
 intro pins s σ H D I h
 refine wpAny_For (thn (hi pins s σ H _ I h) λv s1 h1=>thn h1 λitv s2 h2=>?_) hs
 obtain⟨it,fp,tn,J,H2,e,I2,T,st2,f2,W,⟨m0,w0⟩,turn⟩:=h2
 subst e
 have stat:∀ {H':Hp},(∀b∈fp,H' b=none)→∀b∈fp,zcs X pins H' b:=λhn b hb=>⟨hn b hb,(f2 b hb).2⟩
 refine codeAny_forLoop_any (λn s'=>∃i σ' H',Inv X pins σ' H' s'∧tn i s'.heap∧(∀b∈fp,H' b=none)∧W i n σ' H') ?_ m0 ⟨0,σ,H2,I2,st2,λb hb=>(f2 b hb).1,w0⟩
 rintro n s3 ⟨i,σ3,H3,I3,st3,fr3,w3⟩
 rcases turn i n σ3 H3 w3 with ⟨stop,qn⟩ | ⟨go,N,hN,step⟩
 ·refine wpAny_passesOwn hp (thn (T.done X rfl rfl rfl hc i pins s3 σ3 H3 X.xe I3 (stat fr3) st3 stop) λr s4 ⟨hr,I4⟩=>?_)
  subst hr
  exact wpAny_execs_nil ⟨σ3,H3,I4,qn⟩
 ·refine wpAny_passesOwn hp (thn (T.item X rfl rfl rfl hc i pins s3 σ3 H3 X.xe I3 (stat fr3) st3 go) λr s4 ⟨u,hr,h4⟩=>?_)
  subst hr
  refine wpAny_passesOwn hp (thn h4 λ_ s5 ⟨x,H5,I5,r5,y5,st5,fr5⟩=>?_)
  have I5':=I5.pinned (stat fr5) (T.obj _ _ st5)
  refine wpAny_passesOwn hp (thn (hg _ s5 σ3 H5 x u _ I5' r5 (step x H5 y5)) λ_ s6 ⟨σ6,H6,I6,q6⟩=>?_)
  refine wpAny_passesOwn hp (thn (hb _ s6 σ6 H6 _ I6 q6) λf s7 q7=>?_)
  have again:∀ {σ7:St} {H7:Hp},Inv X (pins++zfU fp s5.heap) σ7 H7 s7→N σ7 H7→∃m,m<n∧∃i σ' H',Inv X pins σ' H' s7∧tn i s7.heap∧(∀b∈fp,H' b=none)∧W i m σ' H':=λ{σ7 H7} I7 n7=>by
   obtain⟨m',hm,w7⟩:=hN σ7 H7 n7
   refine⟨m',hm,i+1,σ7,H7,I7.unpinned,T.keep _ _ _ st5 λb hb o e=>(I7.pin (b,o) (VaE _ (VaE _ (zgN hb e)))).1,λb hb=>?_,w7⟩
   obtain⟨o,e,d⟩:=T.obj _ _ st5 b hb
   exact(I7.pin (b,o) (VaE _ (VaE _ (zgN hb e)))).2.1
  cases f with
  | next=>obtain⟨σ7,H7,I7,n7⟩:=q7; exact again I7 n7
  | cont=>obtain⟨σ7,H7,I7,n7⟩:=q7; exact again I7 n7
  | brk=>obtain⟨σ7,H7,I7,q7⟩:=q7; exact⟨σ7,H7,I7.unpinned,q7⟩
  | ret v=>obtain⟨x7,σ7,H7,I7,r7,q7⟩:=q7; exact⟨x7,σ7,H7,I7.unpinned,r7,q7⟩
end
end L2
namespace L2
open PySem PySem.Spec PyProof.Rows
abbrev R2:=V→V→Hp→VK→Prop
def OpR (X:Cx)(f:Value→Value→Sem Value)(r:R2):Prop:=
 ∀(pins:List (Addr×Obj)) (s:Shared) (σ:St) (H:Hp) (x y:V) (v u:Value) (Q:VK),Inv X pins σ H s→zal x v→zal y u→r x y H Q→
  wpAny (model X.prog X.w) X.A (f v u) (EP X pins σ Q) X.xe s
def UnR (X:Cx)(f:Value→Sem Value)(r:V→Hp→VK→Prop):Prop:=
 ∀(pins:List (Addr×Obj)) (s:Shared) (σ:St) (H:Hp) (x:V) (v:Value) (Q:VK),Inv X pins σ H s→zal x v→r x H Q→
  wpAny (model X.prog X.w) X.A (f v) (EP X pins σ Q) X.xe s
def zaL (X:Cx)(f:Value)(r:List V→Hp→VK→Prop):Prop:=
 ∀(pins:List (Addr×Obj)) (s:Shared) (σ:St) (H:Hp) (xs:List V) (us:List Value) (Q:VK),Inv X pins σ H s→zah xs us→r xs H Q→
  wpAny (model X.prog X.w) X.A (call f us) (EP X pins σ Q) X.xe s
def tOp (r:R2)(ta tb:TE):TE:=λσ H Q=>ta σ H λx H1=>tb σ H1 λy H2=>r x y H2 Q
def tUn (r:V→Hp→VK→Prop)(ta:TE):TE:=λσ H Q=>ta σ H λx H1=>r x H1 Q
def rI (C:Int→Int→Prop)(g:Int→Int→V):R2:=λx y H Q=>∃i j,x=.int i∧y=.int j∧C i j∧Q (g i j) H
def rI0 (g:Int→Int→V):R2:=λx y H Q=>∃i j,x=.int i∧y=.int j∧Q (g i j) H
def rU (g:Int→V):V→Hp→VK→Prop:=λx H Q=>∃i,x=.int i∧Q (g i) H
section
variable {X:Cx}{a b c:Expr}{ta tb tc:TE}{pos:Pos}
theorem zhK (ha:PE X a ta)(hb:PE X b tb){pins:List (Addr×Obj)}{s:Shared}{σ:St}{H:Hp}{R:V→V→Hp→Prop}(I:Inv X pins σ H s)
  (h:ta σ H λx H1=>tb σ H1 λy H2=>R x y H2){Q:Value→Shared→Prop}{f:Value→Value→Sem Value}
  (hf:∀v u s2 x y H2,Inv X pins σ H2 s2→zal x v→zal y u→R x y H2→wpAny (model X.prog X.w) X.A (f v u) Q X.xe s2):
  wpAny (model X.prog X.w) X.A (eval a X.env) (λv s₁=>wpAny (model X.prog X.w) X.A (eval b X.env) (λu s₂=>wpAny (model X.prog X.w) X.A (f v u) Q X.xe s₂) X.xe s₁) X.xe s:=by
 refine thn (ha pins s σ H _ I h) λv s1 ⟨x,H1,I1,r1,q1⟩=>?_
 refine thn (hb pins s1 σ H1 _ I1 q1) λu s2 ⟨y,H2,I2,r2,q2⟩=>?_
 exact hf v u s2 x y H2 I2 r1 r2 q2
theorem pe_op {op:Operator}{r:R2}(ho:OpR X (binaryOp op) r)(ha:PE X a ta)(hb:PE X b tb):PE X (.BinOp a op b pos) (tOp r ta tb):=by
 intro pins s σ H Q I h
 exact wpAny_BinOp (zhK ha hb I h λv u s2 x y H2 I2 rx ry q=>ho pins s2 σ H2 x y v u Q I2 rx ry q)
theorem pe_un {op:UnaryOp}{r:V→Hp→VK→Prop}(ho:UnR X (unaryOp op) r)(ha:PE X a ta):PE X (.UnaryOp op a pos) (tUn r ta):=by
 intro pins s σ H Q I h
 exact UnaryOp_ (thn (ha pins s σ H _ I h) λv s1 ⟨x,H1,I1,r1,q1⟩=>ho pins s1 σ H1 x v Q I1 r1 q1)
theorem opI {f:Value→Value→Sem Value}{C:Int→Int→Prop}{g:Int→Int→Int}
  (rule:∀(i j:Int) (t u:Tok) (s:Shared) (Q:Value→Shared→Prop) (E:Value→Shared→Prop),C i j→Q (.int (g i j) s.toks) { s with toks:=s.toks+1 }→wpAny (model X.prog X.w) X.A (f (.int i t) (.int j u)) Q E s):
  OpR X f (rI C λi j=>.int (g i j)):=by
 intro pins s σ H x y v u Q I rx ry h
 obtain⟨i,j,rfl,rfl,hc,q⟩:=h
 obtain⟨t,rfl⟩:=rx
 obtain⟨t',rfl⟩:=ry
 exact rule i j t t' s _ _ hc ⟨.int (g i j),H,I.tok _,⟨_,rfl⟩,q⟩
theorem opI0 {f:Value→Value→Sem Value}{g:Int→Int→Int}
  (rule:∀(i j:Int) (t u:Tok) (s:Shared) (Q:Value→Shared→Prop) (E:Value→Shared→Prop),Q (.int (g i j) s.toks) { s with toks:=s.toks+1 }→wpAny (model X.prog X.w) X.A (f (.int i t) (.int j u)) Q E s):
  OpR X f (rI0 λi j=>.int (g i j)):=by
 intro pins s σ H x y v u Q I rx ry h
 obtain⟨i,j,rfl,rfl,q⟩:=h
 obtain⟨t,rfl⟩:=rx
 obtain⟨t',rfl⟩:=ry
 exact rule i j t t' s _ _ ⟨.int (g i j),H,I.tok _,⟨_,rfl⟩,q⟩
theorem zhU {f:Value→Value→Sem Value}{g:Int→Int→Bool}
  (rule:∀(i j:Int) (t u:Tok) (s:Shared) (Q:Value→Shared→Prop) (E:Value→Shared→Prop),Q (.bool (g i j)) s→wpAny (model X.prog X.w) X.A (f (.int i t) (.int j u)) Q E s):
  OpR X f (rI0 λi j=>.bl (g i j)):=by
 intro pins s σ H x y v u Q I rx ry h
 obtain⟨i,j,rfl,rfl,q⟩:=h
 obtain⟨t,rfl⟩:=rx
 obtain⟨t',rfl⟩:=ry
 exact rule i j t t' s _ _ ⟨.bl (g i j),H,I,rfl,q⟩
def CPow (i j:Int):Prop:=0≤j∧j≤1000000∧i.natAbs<2^64
def CMul (i j:Int):Prop:=(-(2^64)<i∧i<2^64)∨(-(2^64)<j∧j<2^64)
theorem CMul.ok {i j:Int}(h:CMul i j):IntMulOk i j:=by
 rcases h with ⟨h1,h2⟩ | ⟨h1,h2⟩
 ·exact .of_left (intBits_le_64 h1 h2)
 ·exact .of_right (intBits_le_64 h1 h2)
theorem znO:OpR X (binaryOp .Add) (rI0 λi j=>.int (i+j)):=opI0 λ_ _ _ _ _ _ _ q=>add_int q
theorem zm0:OpR X (binaryOp .Sub) (rI0 λi j=>.int (i-j)):=opI0 λ_ _ _ _ _ _ _ q=>sub_int q
theorem zot:OpR X (binaryOp .Mod) (rI (λ_ j=>0<j) λi j=>.int (i%j)):=opI λi j _ _ _ _ _ hc q=>by
 have h1:(0:Int)<j:=hc
 exact mod_int' (by omega) (by rw[Int.fmod_eq_emod_of_nonneg i (by omega)]; exact q)
theorem zq5:OpR X (binaryOp .Pow) (rI CPow λi j=>.int (i^j.toNat)):=opI λ_ _ _ _ _ _ _ hc q=>pow_int_small hc.1 hc.2.1 hc.2.2 q
theorem unI {f:Value→Sem Value}{g:Int→Int}
  (rule:∀(i:Int) (t:Tok) (s:Shared) (Q:Value→Shared→Prop) (E:Value→Shared→Prop),Q (.int (g i) s.toks) { s with toks:=s.toks+1 }→wpAny (model X.prog X.w) X.A (f (.int i t)) Q E s):
  UnR X f (rU λi=>.int (g i)):=by
 intro pins s σ H x v Q I rx h
 obtain⟨i,rfl,q⟩:=h
 obtain⟨t,rfl⟩:=rx
 exact rule i t s _ _ ⟨.int (g i),H,I.tok _,⟨_,rfl⟩,q⟩
theorem zrW:UnR X (unaryOp .USub) (rU λi=>.int (-i)):=unI λ_ _ _ _ _ q=>neg_int q
end
def zhr:V→V→Bool
 | .non,.non=>true | .non,.int _=>true | .int _,.non=>true | .non,.bl _=>true | .bl _,.non=>true | .non,.str _=>true | .str _,.non=>true
 | .int _,.int _=>true | .bl _,.bl _=>true | .str _,.str _=>true | .byt _,.byt _=>true
 | .int _,.str _=>true | .str _,.int _=>true | .bl _,.str _=>true | .str _,.bl _=>true
 | _,_=>false
def rEq:R2:=λx y H Q=>zhr x y=true∧Q (.bl (decide (x=y))) H
def rNe:R2:=λx y H Q=>zhr x y=true∧Q (.bl (!decide (x=y))) H
theorem zkv {i j:Int}:decide (V.int i=V.int j)=(i==j):=by
 rw[VaI]
 simp
theorem zkR {i j:Bool}:decide (V.bl i=V.bl j)=(i==j):=by
 rw[VaI]
 simp
theorem zkW {i j:Str}:decide (V.str i=V.str j)=(i==j):=by
 rw[VaI]
 simp
theorem zko {i j:Array UInt8}:decide (V.byt i=V.byt j)=(i.toList==j.toList):=by
 rw[VaI]
 cases i
 cases j
 simp
section
variable {X:Cx}{a b c:Expr}{ta tb tc:TE}{pos:Pos}
theorem zaM {pins:List (Addr×Obj)}{σ:St}{H:Hp}{s:Shared}{Q:VK}{k k':Bool}(I:Inv X pins σ H s)(q:Q (.bl k) H)(e:k=k'):EP X pins σ Q (.bool k') s:=by
 subst e
 exact⟨.bl k,H,I,rfl,q⟩
theorem zjb:OpR X (compareOp .Eq) rEq:=by
 intro pins s σ H x y v u Q I rx ry h
 obtain⟨hs,q⟩:=h
 cases x with
 | non=>
  cases rx
  cases y with
  | non=>cases ry; exact PySem.EqNone.eq_none_none (zaM I q (by simp))
  | bl j=>cases ry; exact PySem.EqNone.eq_none_bool (zaM I q (by simp))
  | int j=>obtain⟨t',rfl⟩:=ry; exact PySem.EqNone.eq_none_int (zaM I q (by simp))
  | str j=>obtain⟨t',rfl⟩:=ry; exact PySem.EqNone.eq_none_str (zaM I q (by simp))
  | _=>exact absurd (show false=true from hs) Vae
 | bl i=>
  cases rx
  cases y with
  | non=>cases ry; exact PySem.EqNone.eq_bool_none (zaM I q (by simp))
  | bl j=>cases ry; exact eq_bool (zaM I q zkR)
  | str j=>obtain⟨t',rfl⟩:=ry; exact PySem.EqMixed.eq_bool_str (zaM I q (by simp))
  | _=>exact absurd (show false=true from hs) Vae
 | int i=>
  obtain⟨t,rfl⟩:=rx
  cases y with
  | non=>cases ry; exact PySem.EqNone.eq_int_none (zaM I q (by simp))
  | int j=>obtain⟨t',rfl⟩:=ry; exact eq_int (zaM I q zkv)
  | str j=>obtain⟨t',rfl⟩:=ry; exact PySem.EqMixed.eq_int_str (zaM I q (by simp))
  | _=>exact absurd (show false=true from hs) Vae
 | str i=>
  obtain⟨t,rfl⟩:=rx
  cases y with
  | non=>cases ry; exact PySem.EqNone.eq_str_none (zaM I q (by simp))
  | bl j=>cases ry; exact PySem.EqMixed.eq_str_bool (zaM I q (by simp))
  | int j=>obtain⟨t',rfl⟩:=ry; exact PySem.EqMixed.eq_str_int (zaM I q (by simp))
  | str j=>obtain⟨t',rfl⟩:=ry; exact eq_str (zaM I q zkW)
  | _=>exact absurd (show false=true from hs) Vae
 | byt i=>
  obtain⟨t,rfl⟩:=rx
  cases y with
  | byt j=>obtain⟨t',rfl⟩:=ry; exact PySem.W.eq_bytes (zaM I q zko)
  | _=>exact absurd (show false=true from hs) Vae
 | _=>cases y <;> exact absurd (show false=true from hs) Vae
theorem op_ne:OpR X (compareOp .NotEq) rNe:=by
 intro pins s σ H x y v u Q I rx ry h
 obtain⟨hs,q⟩:=h
 cases x with
 | non=>
  cases rx
  cases y with
  | non=>cases ry; exact PySem.EqNone.ne_none_none (zaM I q (by simp))
  | bl j=>cases ry; exact PySem.EqNone.ne_none_bool (zaM I q (by simp))
  | int j=>obtain⟨t',rfl⟩:=ry; exact PySem.EqNone.ne_none_int (zaM I q (by simp))
  | str j=>obtain⟨t',rfl⟩:=ry; exact PySem.EqNone.ne_none_str (zaM I q (by simp))
  | _=>exact absurd (show false=true from hs) Vae
 | bl i=>
  cases rx
  cases y with
  | non=>cases ry; exact PySem.EqNone.ne_bool_none (zaM I q (by simp))
  | bl j=>cases ry; exact ne_bool (zaM I q (congrArg not zkR))
  | str j=>obtain⟨t',rfl⟩:=ry; exact PySem.EqMixed.ne_bool_str (zaM I q (by simp))
  | _=>exact absurd (show false=true from hs) Vae
 | int i=>
  obtain⟨t,rfl⟩:=rx
  cases y with
  | non=>cases ry; exact PySem.EqNone.ne_int_none (zaM I q (by simp))
  | int j=>obtain⟨t',rfl⟩:=ry; exact ne_int (zaM I q (congrArg not zkv))
  | str j=>obtain⟨t',rfl⟩:=ry; exact PySem.EqMixed.ne_int_str (zaM I q (by simp))
  | _=>exact absurd (show false=true from hs) Vae
 | str i=>
  obtain⟨t,rfl⟩:=rx
  cases y with
  | non=>cases ry; exact PySem.EqNone.ne_str_none (zaM I q (by simp))
  | bl j=>cases ry; exact PySem.EqMixed.ne_str_bool (zaM I q (by simp))
  | int j=>obtain⟨t',rfl⟩:=ry; exact PySem.EqMixed.ne_str_int (zaM I q (by simp))
  | str j=>obtain⟨t',rfl⟩:=ry; exact ne_str (zaM I q (congrArg not zkW))
  | _=>exact absurd (show false=true from hs) Vae
 | byt i=>
  obtain⟨t,rfl⟩:=rx
  cases y with
  | byt j=>obtain⟨t',rfl⟩:=ry; exact PySem.W.ne_bytes (zaM I q (congrArg not zko))
  | _=>exact absurd (show false=true from hs) Vae
 | _=>cases y <;> exact absurd (show false=true from hs) Vae
theorem op_lt:OpR X (compareOp .Lt) (rI0 λi j=>.bl (decide (i<j))):=zhU λ_ _ _ _ _ _ _ q=>lt_int q
theorem op_le:OpR X (compareOp .LtE) (rI0 λi j=>.bl (decide (i≤j))):=zhU λ_ _ _ _ _ _ _ q=>le_int q
theorem op_gt:OpR X (compareOp .Gt) (rI0 λi j=>.bl (decide (j<i))):=zhU λ_ _ _ _ _ _ _ q=>gt_int q
theorem op_ge:OpR X (compareOp .GtE) (rI0 λi j=>.bl (decide (j≤i))):=zhU λ_ _ _ _ _ _ _ q=>ge_int q
theorem zn6:OpR X (compareOp .In) (λx y H Q=>∃i j,x=.str i∧y=.str j∧Q (.bl (!(Builtin.Str.occurrences j i 0 j.length 1).isEmpty)) H):=by
 intro pins s σ H x y v u Q I rx ry h
 obtain⟨i,j,rfl,rfl,q⟩:=h
 obtain⟨t,rfl⟩:=rx
 obtain⟨t',rfl⟩:=ry
 exact in_str (zaM I q rfl)
theorem OpR.or {f:Value→Value→Sem Value}{r r':R2}(h:OpR X f r)(h':OpR X f r'):OpR X f (λx y H Q=>r x y H Q∨r' x y H Q):=by
 intro pins s σ H x y v u Q I rx ry q
 rcases q with q | q
 ·exact h pins s σ H x y v u Q I rx ry q
 ·exact h' pins s σ H x y v u Q I rx ry q
theorem zaA (b:Expr){op:CmpOp}(h:op≠.In:=by decide)(h2:op≠.NotIn:=by decide):behindInMarks op b=false:=by
 have e1:(op==CmpOp.In)=false:=by cases op <;> first | rfl | exact absurd rfl h
 have e2:(op==CmpOp.NotIn)=false:=by cases op <;> first | rfl | exact absurd rfl h2
 cases b <;> simp[behindInMarks,e1,e2]
theorem zlv {op:CmpOp}{r:R2}(ho:OpR X (compareOp op) r)(ha:PE X a ta)(hb:PE X b tb)(hm:behindInMarks op b=false):PE X (.Compare a [op] [b] pos) (tOp r ta tb):=by
 intro pins s σ H Q I h
 exact wpAny_Compare1 (zhK ha hb I h λv u s2 x y H2 I2 rx ry q=>ho pins s2 σ H2 x y v u Q I2 rx ry q) hm
def tTest (t:TE):TT:=λσ H Q=>t σ H λx H'=>∃k,x=.bl k∧Q k H'
theorem zow {op:CmpOp}{r:R2}(ho:OpR X (compareOp op) r)(ha:PE X a ta)(hb:PE X b tb)(hm:behindInMarks op b=false):PT X (.Compare a [op] [b] pos) (tTest (tOp r ta tb)):=by
 intro pins s σ H Q I h
 refine wpAny_isTrue_Compare1 (thn (ha pins s σ H _ I h) λv s1 ⟨x,H1,I1,r1,q1⟩=>thn (hb pins s1 σ H1 _ I1 q1) λu s2 ⟨y,H2,I2,r2,q2⟩=>
  thn (ho pins s2 σ H2 x y v u _ I2 r1 r2 q2) λc s3 ⟨z,H3,I3,r3,k,e,q3⟩=>?_) hm
 subst e
 cases r3
 exact wpAny_truthy_bool ⟨H3,I3,q3⟩
def zjM (r r':R2)(ta tb tc:TE):TE:=λσ H Q=>ta σ H λx H1=>tb σ H1 λy H2=>r x y H2 λz H3=>∃k,z=.bl k∧
 (if k=true then tc σ H3 λw' H4=>r' y w' H4 Q else Q (.bl false) H3)
theorem zrb {op op':CmpOp}{r r':R2}(ho:OpR X (compareOp op) r)(ho':OpR X (compareOp op') r')(ha:PE X a ta)(hb:PE X b tb)(hc:PE X c tc)
  (hm:lastMarks [op,op'] [b,c]=false:=by with_unfolding_all rfl):PE X (.Compare a [op,op'] [b,c] pos) (zjM r r' ta tb tc):=by
 intro pins s σ H Q I h
 refine Compare_chain (thn (ha pins s σ H _ I h) λv s1 ⟨x,H1,I1,r1,q1⟩=>chain_link (thn (hb pins s1 σ H1 _ I1 q1) λu s2 ⟨y,H2,I2,r2,q2⟩=>
  thn (ho pins s2 σ H2 x y v u _ I2 r1 r2 q2) λd s3 ⟨z,H3,I3,r3,k,e,q3⟩=>?_)) hm
 subst e
 cases r3
 refine wpAny_truthy_bool ?_
 cases k with
 | false=>exact ite_ff ⟨.bl false,H3,I3,rfl,q3⟩
 | true=>exact ite_tt (chain_last (thn (hc pins s3 σ H3 _ I3 q3) λw' s4 ⟨z',H4,I4,r4,q4⟩=>ho' pins s4 σ H4 y z' u w' Q I4 r2 r4 q4))
theorem zg7:(sizeLine:Nat)<2^63:=by rw[sizeLine_eq]; decide
theorem zo1:OpR X (binaryOp .Add) (λx y H Q=>∃i j,x=.str i∧y=.str j∧i.length+j.length≤sizeLine∧Q (.str (i++j)) H):=by
 intro pins s σ H x y v u Q I rx ry h
 obtain⟨i,j,rfl,rfl,hz,q⟩:=h
 obtain⟨t,rfl⟩:=rx
 obtain⟨t',rfl⟩:=ry
 exact add_str (λt' tk=>⟨.str (i++j),H,I.tok _,⟨_,rfl⟩,q⟩) hz
def zkw (b:Expr):Prop:=∀o i,subscripted b false o i=operate [o,i] (getItem o i)
theorem zqe (ha:PE X a ta)(hb:PE X b tb)(hs:zkw b):
  PE X (.Subscript a b pos) (tOp (λx y H Q=>∃z i c,x=.str z∧y=.int i∧0≤i∧i<2^63∧i<z.length∧z.cps[i.toNat]?=some c∧Q (.str ⟨#[c]⟩) H) ta tb):=by
 intro pins s σ H Q I h
 refine Subscript_ (zhK ha hb I h λv u s2 x y H2 I2 rx ry q=>?_)
 obtain⟨z,i,c,rfl,rfl,h0,h63,h1,hc,q⟩:=q
 obtain⟨t,rfl⟩:=rx
 obtain⟨t',rfl⟩:=ry
 have e:seqIndex? i z.length=some i.toNat:=PySem.StrLaws.seqIndex_nonneg h0 h1
 exact tail_any (typeIs_str s2 z t) slot_str_getitem.lookup (getItem_str (c:=c) (by
  have e1:decide (i < -(2^63:Int))=false:=decide_eq_false (by omega)
  have e2:decide (i≥2^63)=false:=decide_eq_false (by omega)
  rw[e1,e2] <;> rfl) (by rw[e]; exact hc) ⟨.str ⟨#[c]⟩,H2,I2.tok _,⟨_,rfl⟩,q⟩) (hs _ _)
theorem zbz {x:V}{us:List Value}(r:zah [x] us):∃u,us=[u]∧zal x u:=by
 cases r with
 | cons r1 r2=>cases r2; exact⟨_,rfl,r1⟩
theorem zi0 {x y:V}{us:List Value}(r:zah [x,y] us):∃u w',us=[u,w']∧zal x u∧zal y w':=by
 cases r with
 | cons r1 r2=>
  cases r2 with
  | cons r3 r4=>cases r4; exact⟨_,_,rfl,r1,r3⟩
theorem zrP:zaL X (.builtin "abs") (λxs H Q=>∃i,xs=[.int i]∧Q (.int (if i<0 then -i else i)) H):=by
 intro pins s σ H xs us Q I r h
 obtain⟨i,rfl,q⟩:=h
 obtain⟨u,rfl,t,rfl⟩:=zbz r
 exact call_abs_int λu tk=>⟨.int (if i<0 then -i else i),H,I.tok _,⟨_,rfl⟩,q⟩
theorem zox (hc:X.calm=true):zaL X (.builtin "max") (λxs H Q=>∃i j,xs=[.int i,.int j]∧Q (.int (if j > i then j else i)) H):=by
 intro pins s σ H xs us Q I r h
 obtain⟨i,j,rfl,q⟩:=h
 obtain⟨u,w',rfl,⟨t,rfl⟩,⟨t',rfl⟩⟩:=zi0 r
 refine max_two_ints (I.ok.hd hc) λh' tk k=>⟨_,H,I.kept k,?_,q⟩
 by_cases hj:j > i
 ·rw[if_pos hj,if_pos hj]; exact⟨_,rfl⟩
 ·rw[if_neg hj,if_neg hj]; exact⟨_,rfl⟩
end
end L2
namespace L2
open PySem PySem.Spec PyProof.Rows
structure zel (h:Heap)(x dx C:Addr)(mA:Str→Option Value):Prop where
 obj:h.get? x=some (PySem.W.instObj C dx)
 ns:h.Ns1 dx mA
 ne:dx≠x
theorem zoi {h:Heap}{dx:Addr}{mA:Str→Option Value}(n:h.Ns1 dx mA):∃od,h.get? dx=some od∧∀name,PySem.W.lookIn name od=some (mA name):=by
 obtain⟨o,es,ep,ho,hd,hk,_,hm⟩:=n
 refine⟨o,ho,λname=>?_⟩
 have e:=hm name
 unfold nsFind findBy at e
 rw[← Array.find?_toList] at e
 unfold PySem.W.lookIn
 rw[hd]
 dsimp only
 split
 ·rename_i y q
  rw[q] at e
  exact congrArg some e
 ·rename_i q
  rw[q] at e
  have a:es.toList.any (·.refKey)=false:=by
   rw[List.any_eq_false]
   intro y hy
   obtain⟨z,t,hkey⟩:=hk y (Array.mem_toList_iff.mp hy)
   simp[DictEntry.refKey,hkey]
  have a':¬ es.toList.any (·.refKey)=true:=by rw[a]; exact Vae
  rw[if_neg a']
  exact congrArg some e
theorem zel.look {h:Heap}{x dx C:Addr}{mA:Str→Option Value}(I:zel h x dx C mA):∃od,PySem.W.InstAt h x (PySem.W.instObj C dx) C (some od)∧∀name,PySem.W.lookIn name od=some (mA name):=
 let ⟨od,ho,hl⟩:=zoi I.ns
 ⟨od,⟨I.obj,rfl,rfl,ho⟩,hl⟩
section
variable {prog:Program}{w:World}{A:Around}{E:Value→Shared→Prop}{s:Shared}{K:PySem.W.Frag}{x dx C f:Addr}{mA:Str→Option Value}{name:Str}{v:Value}
theorem zqd {expr:Bool}{Q:Value→Shared→Prop}(X:K.In s.heap)(I:zel s.heap x dx C mA)(hg:PySem.W.plainGet K C name=true)(hh:PySem.W.hasDictIn K C=true)
  (ha:PySem.W.findIn K (.ref C) name=some none)(hv:mA name=some v)(hv':PySem.W.handedIn v=true)(h:Q v { s with toks:=s.toks+1 }):
  wpAny (model prog w) A (getAttr (.ref x) name expr) Q E s:=by
 obtain⟨od,J,hl⟩:=I.look
 exact PySem.W.get_value X J (PySem.W.plainGet_of hg).1 (PySem.W.findObj_own hh ha rfl (by rw[hl,hv])) hv' h
theorem zni {pl:Sem Bool}{Q:Value×List Value→Shared→Prop}(X:K.In s.heap)(I:zel s.heap x dx C mA)(hg:PySem.W.plainGet K C name=true)
  (hf:PySem.W.findIn K (.ref C) name=some (some (.ref f)))(ht:PySem.W.isFn K (.ref f)=true)(hv:mA name=none)(h:Q (.ref f,[.ref x]) s):
  wpAny (model prog w) A (getMethod (.ref x) name pl) Q E s:=by
 obtain⟨od,J,hl⟩:=I.look
 exact PySem.W.method_fn X J (PySem.W.plainGet_of hg).1 (PySem.W.plainGet_of hg).2 hf (beq_iff_eq.mp ht) (by show (PySem.W.lookIn name od).map (·.isSome)=some false; rw[hl,hv]; rfl) h
theorem zmZ {ns:List Str}{Q:Unit→Shared→Prop}(X:K.In s.heap)(I:zel s.heap x dx C mA)
  (hs:PySem.W.findIn K (.ref C) "__setattr__"=some (some (.builtin "object.__setattr__")))(hp:PySem.W.plainOver K C=true)(ht:PySem.W.takerIn K C name=some none)(hh:PySem.W.hasDictIn K C=true)
  (hw:PySem.Within mA ns)(hsz:ns.length≤sizeLine)
  (h:∀h',zel h' x dx C (λy=>if y=name then some v else mA y)→Heap.SameBut dx s.heap h'→Q () { s with heap:=h',toks:=s.toks+2 }):
  wpAny (model prog w) A (setAttr (.ref x) name v) Q E s:=by
 obtain⟨od,J,hl⟩:=I.look
 refine PySem.W.set_plain X J hs (PySem.W.osa_open (s:={ s with toks:=s.toks+1 }) (r:=none) X J hp ht λb=>?_)
 obtain⟨cd,hc,hd'⟩:=PySem.W.any_some hh
 have hx:s.heap.get? x=some ⟨.ref C,some dx,.plain,#[]⟩:=I.obj
 refine wpAny_bind (wpAny_pure (wpAny_bind (wpAny_bind (wpAny_loadPart hx (wpAny_bind (PySem.W.Looks.here (s:={ s with toks:=s.toks+1 }) (PySem.W.looks_clsIn X hc) ?_))))))
 rw[hd']
 refine wpAny_pure (a:=some dx) (wpAny_bind (wpAny_pure (wpAny_bind ?_)))
 refine wpAny_nsSet1 (s:={ s with toks:=s.toks+1 }) I.ns λh' hn2 hs2=>?_
 obtain⟨oD,esD,epD,hoD,hdD,hcD⟩:=hn2.count (PySem.Within.cons name v hw)
 refine wpAny_bind (wpAny_lookBehind hoD (by rw[hdD]; exact pastItsLine_dict (Vao hcD (by rw[Vam]; omega))) ?_)
 exact wpAny_pure (h _ ⟨(hs2.2 _ (Ne.symm I.ne)).trans I.obj,hn2,I.ne⟩ hs2)
theorem zrk {R:Result→Shared→Prop}{vs:List Value}{kw:List (Str×Value)}(X:K.In s.heap)(hm:PySem.W.makesIn K C=true)
  (hi:PySem.W.findIn K (.ref C) "__init__"=some (some (.ref f)))(hf:PySem.W.typeIn K (.ref f)=some (.type "function"))
  (h:codeAny (model prog w) (A.under (.builtin "type.__call__" ⟨.ref C::vs,kw⟩)) (.call (.ref f) ⟨.ref (s.heap.objs.size+1)::vs,kw⟩) (PySem.W.InitBack (s.heap.objs.size+1) R)
   { s with heap:=(s.heap.push PySem.W.emptyDict).push (PySem.W.instObj C s.heap.objs.size) }):
  codeAny (model prog w) A (.call (.ref C) ⟨vs,kw⟩) R s:=by
 obtain⟨hh,g,d,t,os⟩:=s
 exact PySem.W.make_core (PySem.W.makes_of X hm) (PySem.W.looks_findIn X hi) (λself=>PySem.W.bind_fn X self hf) (.inl rfl) h
end
def zbb (f:Str)(v:V):List (Str×V)→List (Str×V)
 | []=>[(f,v)]
 | (g,x)::r=>if g=f then (g,v)::r else (g,x)::zbb f v r
theorem zk9 (f g:Str)(v:V):∀fs:List (Str×V),(zbb f v fs).lookup g=if g=f then some v else fs.lookup g
 | []=>by
  show List.lookup g [(f,v)]=_
  by_cases h:g=f
  ·have hb:(g==f)=true:=beq_iff_eq.mpr h
   simp only[List.lookup,hb,if_pos h]
  ·have hb:(g==f)=false:=beq_eq_false_iff_ne.mpr h
   simp only[List.lookup,hb,if_neg h]
 | (k,x)::r=>by
  have ih:=zk9 f g v r
  rw[show zbb f v ((k,x)::r)=(if k=f then (k,v)::r else (k,x)::zbb f v r) from rfl]
  by_cases hk:k=f
  ·rw[if_pos hk]
   by_cases h:g=k
   ·have hb:(g==k)=true:=beq_iff_eq.mpr h
    simp only[List.lookup,hb,if_pos (h.trans hk)]
   ·have hb:(g==k)=false:=beq_eq_false_iff_ne.mpr h
    simp only[List.lookup,hb,if_neg (λe:g=f=>h (e.trans hk.symm))]
  ·rw[if_neg hk]
   by_cases h:g=k
   ·have hb:(g==k)=true:=beq_iff_eq.mpr h
    simp only[List.lookup,hb,if_neg (λe:g=f=>hk (h.symm.trans e))]
   ·have hb:(g==k)=false:=beq_eq_false_iff_ne.mpr h
    simp only[List.lookup,hb]
    exact ih
theorem ziV (f:Str)(v:V):∀fs:List (Str×V),f∈(zbb f v fs).map (·.1)∧∀g,g∈fs.map (·.1)→g∈(zbb f v fs).map (·.1)
 | []=>⟨by simp[zbb],λg h=>by simp at h⟩
 | (k,x)::r=>by
  obtain⟨i1,i2⟩:=ziV f v r
  rw[show zbb f v ((k,x)::r)=(if k=f then (k,v)::r else (k,x)::zbb f v r) from rfl]
  by_cases hk:k=f
  ·rw[if_pos hk]
   subst hk
   exact⟨by simp,λg h=>by simpa using h⟩
  ·rw[if_neg hk]
   refine⟨?_,λg h=>?_⟩
   ·rw[Vaf]
    exact Vat _ i1
   ·rw[Vaf] at h ⊢
    rcases Vad.mp h with e | e
    ·exact Vad.mpr (.inl e)
    ·exact Vat _ (i2 g e)
theorem zkd (f:Str)(v:V):∀fs:List (Str×V),(zbb f v fs).length≤fs.length+1
 | []=>by simp[zbb]
 | (k,x)::r=>by
  have ih:=zkd f v r
  rw[show zbb f v ((k,x)::r)=(if k=f then (k,v)::r else (k,x)::zbb f v r) from rfl]
  by_cases hk:k=f
  ·rw[if_pos hk,Vam,Vam]; omega
  ·rw[if_neg hk,Vam,Vam]; omega
theorem zbt.some_of {v:V}{o:Option Value}(r:zbt (some v) o):∃u,o=some u∧zal v u:=by
 cases o with
 | none=>exact(show False from r).elim
 | some u=>exact⟨u,rfl,r⟩
theorem zbt.none_of {o:Option Value}(r:zbt none o):o=none:=by
 cases o with
 | none=>rfl
 | some u=>exact(show False from r).elim
theorem zoR {v:V}{u:Value}(r:zal v u):PySem.W.handedIn u=true:=by
 cases v with
 | non=>cases (show u=Value.none from r); rfl
 | bl b=>cases (show u=Value.bool b from r); rfl
 | int i=>obtain⟨t,e⟩:=(show ∃t,u=Value.int i t from r); cases e; rfl
 | str x=>obtain⟨t,e⟩:=(show ∃t,u=Value.str x t from r); cases e; rfl
 | byt b=>obtain⟨t,e⟩:=(show ∃t,u=Value.bytes b t from r); cases e; rfl
 | flt b=>obtain⟨t,e⟩:=(show ∃t,u=Value.float b t from r); cases e; rfl
 | ref a=>cases (show u=Value.ref a from r); rfl
 | ty n=>cases (show u=Value.type n from r); rfl
section
variable {P:Program}{w:World}{H H':Hp}{h h':Heap}{a C dx:Addr}{fs fs':List (Str×V)}
theorem zgX (hok:HOk P w H h)(e:H a=some (.ins C dx fs)):∃mA,zel h a dx C mA∧(∀f,zbt (fs.lookup f) (mA f))∧PySem.Within mA (fs.map (·.1))∧fs.length≤1000∧H dx=some (.own a):=by
 obtain⟨d,z,ne,ob,mA,n,r,q⟩:=(show zba P w H h a (.ins C dx fs) from hok a _ e)
 exact⟨mA,⟨ob,n,ne⟩,r,q,z,d⟩
end
structure Cls (K:PySem.W.Frag)(C:Addr):Prop where
 pg:PySem.W.plainGet K C Str.empty=true
 hd:PySem.W.hasDictIn K C=true
 po:PySem.W.plainOver K C=true
 sa:PySem.W.findIn K (.ref C) "__setattr__"=some (some (.builtin "object.__setattr__"))
theorem Cls.get {K:PySem.W.Frag}{C:Addr}(c:Cls K C)(f:Str):PySem.W.plainGet K C f=true:=c.pg
def zbA (K:PySem.W.Frag)(C:Addr)(f:Str):Prop:=PySem.W.findIn K (.ref C) f=some none
theorem zbA.taker {K:PySem.W.Frag}{C:Addr}{f:Str}(n:zbA K C f):PySem.W.takerIn K C f=some none:=by
 unfold PySem.W.takerIn
 rw[show PySem.W.findIn K (.ref C) f=some none from n]
 rfl
structure Con (K:PySem.W.Frag)(C:Addr)(f:Str)(v:V)(u:Value):Prop where
 at_:PySem.W.findIn K (.ref C) f=some (some u)
 rel:zal v u
 get:PySem.W.specialIn K u "__get__"=some none
 cp:PySem.W.copiedNames.contains f=false
structure zeq (K:PySem.W.Frag)(C:Addr)(m:Str)(f:Addr):Prop where
 at_:PySem.W.findIn K (.ref C) m=some (some (.ref f))
 fn:PySem.W.isFn K (.ref f)=true
 kp:PySem.W.keepIn K (.ref f)=true
section
variable {X:Cx}{pins:List (Addr×Obj)}{σ:St}{H:Hp}{s:Shared}{a C dx:Addr}{fs:List (Str×V)}{f:Str}{v:V}{A:Around}{E:Value→Shared→Prop}
theorem zkq {b:Bool}{Q:Value→Shared→Prop}(I:Inv X pins σ H s)(e:H a=some (.ins C dx fs))(c:Cls X.K C)(n:zbA X.K C f)(l:fs.lookup f=some v)
  (h:∀u s',Inv X pins σ H s'→zal v u→Q u s'):wpAny (model X.prog X.w) A (getAttr (.ref a) f b) Q E s:=by
 obtain⟨mA,O,r,_,_,_⟩:=zgX I.hok e
 obtain⟨u,hu,ru⟩:=zbt.some_of (v:=v) (o:=mA f) (by rw[← l]; exact r f)
 exact zqd I.kIn O (c.get f) c.hd n hu (zoR ru) (h u _ (I.tok _) ru)
theorem zkY {m:Str}{g:Addr}{pl:Sem Bool}{Q:Value×List Value→Shared→Prop}(I:Inv X pins σ H s)(e:H a=some (.ins C dx fs))(c:Cls X.K C)(k:zeq X.K C m g)(l:fs.lookup m=none)
  (h:Q (.ref g,[.ref a]) s):wpAny (model X.prog X.w) A (getMethod (.ref a) m pl) Q E s:=by
 obtain⟨mA,O,r,_,_,_⟩:=zgX I.hok e
 have hn:mA m=none:=zbt.none_of (by rw[← l]; exact r m)
 exact zni I.kIn O (c.get m) k.at_ k.fn hn h
theorem zld {y:V}{u:Value}{Q:Unit→Shared→Prop}(I:Inv X pins σ H s)(e:H a=some (.ins C dx fs))(c:Cls X.K C)(n:zbA X.K C f)(hl:fs.length<1000)(ry:zal y u)
  (h:∀s',Inv X pins σ (upd H a (.ins C dx (zbb f y fs))) s'→Q () s'):wpAny (model X.prog X.w) A (setAttr (.ref a) f u) Q E s:=by
 obtain⟨mA,O,r,wi,_,ho⟩:=zgX I.hok e
 have hz:(fs.map (·.1)).length≤sizeLine:=by rw[Vab,sizeLine_eq]; omega
 refine zmZ I.kIn O c.sa c.po n.taker c.hd wi hz λh' O' sb=>h _ ?_
 have hd:∃o,h'.get? dx=some o:=let ⟨o,_,_,e',_⟩:=O'.ns; ⟨o,e'⟩
 refine I.write (x:=a) (e:=dx) (by rw[e]; exact True.intro) (.inr ho) (λb q hb z=>(sb.2 b hb).trans z) hd ?_
 refine⟨by rw[zaG O.ne]; exact ho,?_,O.ne,O'.obj,_,O'.ns,λg=>?_,λg hg=>?_⟩
 ·have:=zkd f y fs; omega
 ·show zbt ((zbb f y fs).lookup g) (if g=f then some u else mA g)
  rw[zk9]
  by_cases q:g=f
  ·rw[if_pos q,if_pos q]; exact ry
  ·rw[if_neg q,if_neg q]; exact r g
 ·by_cases q:g=f
  ·rw[q]; exact(ziV f y fs).1
  ·refine(ziV f y fs).2 g (wi g λz=>hg ?_)
   show (if g=f then some u else mA g)=none
   rw[if_neg q]; exact z
theorem Inv.made (I:Inv X pins σ H s):Inv X pins σ (upd (upd H s.heap.objs.size (.own (s.heap.objs.size+1))) (s.heap.objs.size+1) (.ins C s.heap.objs.size []))
  { s with heap:=(s.heap.push PySem.W.emptyDict).push (PySem.W.instObj C s.heap.objs.size) }:=by
 have e1:(s.heap.push PySem.W.emptyDict).get? s.heap.objs.size=some PySem.W.emptyDict:=Heap.get?_push_size s.heap rfl
 have e2:((s.heap.push PySem.W.emptyDict).push (PySem.W.instObj C s.heap.objs.size)).get? (s.heap.objs.size+1)=some (PySem.W.instObj C s.heap.objs.size):=by
  have:=Heap.get?_push_size (s.heap.push PySem.W.emptyDict) (o:=PySem.W.instObj C s.heap.objs.size) rfl
  rwa [Heap.size_push] at this
 have e3:(s.heap.push PySem.W.emptyDict).Ns s.heap.objs.size (λ_=>none):=⟨PySem.W.emptyDict,#[],_,e1,rfl,(λe he=>absurd he (by simp)),λ_=>rfl⟩
 have I1:=I.laid (a:=s.heap.objs.size) (o:=.own (s.heap.objs.size+1)) (h':=s.heap.push PySem.W.emptyDict) (t':=s.toks) (λb u q=>Heap.get?_push_of_some _ q) (Vaa _) ⟨_,e1⟩
 refine I1.laid (a:=s.heap.objs.size+1) (o:=.ins C s.heap.objs.size []) (t':=s.toks) (λb u q=>Heap.get?_push_of_some _ q) (Nat.le_of_eq (Heap.size_push _ _)) ?_
 have ne:s.heap.objs.size≠s.heap.objs.size+1:=Val (Nat.lt_succ_self _)
 refine⟨by rw[zaG ne,zbV],VaJ _,ne,e2,λ_=>none,(Heap.Ns1.of_empty e3).at λo q=>Heap.get?_push_of_some _ q,λ_=>True.intro,λy hy=>absurd rfl hy⟩
theorem zng {prog:Program}{w:World}{env:Env}{e:Expr}{f:Str}{pos:Pos}{s:Shared}{Q:Value→Shared→Prop}(hb:attributeBase e f env (eval e env)=eval e env)
  (h:wpAny (model prog w) A (eval e env) (λo s₁=>wpAny (model prog w) A (getAttr o f true) Q E s₁) E s):wpAny (model prog w) A (eval (.Attribute e f pos) env) Q E s:=
 Attribute_any_ h (by rw[arm_eval_Attribute,hb])
end
def tFld (K:PySem.W.Frag)(ta:TE)(f:Str):TE:=λσ H Q=>ta σ H λx H1=>∃a C dx fs v,x=.ref a∧H1 a=some (.ins C dx fs)∧Cls K C∧zbA K C f∧fs.lookup f=some v∧Q v H1
def sFld (K:PySem.W.Frag)(ta tv:TE)(f:Str):TS:=λD σ H=>tv σ H λy H1=>ta σ H1 λx H2=>∃a C dx fs,x=.ref a∧H2 a=some (.ins C dx fs)∧Cls K C∧zbA K C f∧fs.length<1000∧
 D.nx σ (upd H2 a (.ins C dx (zbb f y fs)))
def zhm (X:Cx)(op:Operator)(rd:V→V→Hp→VK→Prop):Prop:=
 ∀(pins:List (Addr×Obj)) (s:Shared) (σ:St) (H:Hp) (x y:V) (u v:Value) (Q:VK),Inv X pins σ H s→zal x u→zal y v→rd x y H Q→wpAny (model X.prog X.w) X.A (inplaceOp op u v) (EP X pins σ Q) X.xe s
def zoy (K:PySem.W.Frag)(ta tv:TE)(rd:V→V→Hp→VK→Prop)(f:Str):TS:=λD σ H=>ta σ H λx H1=>∃a C dx fs v,x=.ref a∧H1 a=some (.ins C dx fs)∧Cls K C∧zbA K C f∧fs.lookup f=some v∧
 tv σ H1 λy H2=>rd v y H2 λz H3=>∃dx' fs',H3 a=some (.ins C dx' fs')∧fs'.length<1000∧D.nx σ (upd H3 a (.ins C dx' (zbb f z fs')))
section
variable {X:Cx}{o e value:Expr}{f:Str}{pos pos' tpos:Pos}{ta tv:TE}
theorem zsh (he:PE X e ta)(hb:attributeBase e f X.env (eval e X.env)=eval e X.env):PE X (.Attribute e f pos) (tFld X.K ta f):=by
 intro pins s σ H Q I h
 refine zng hb (thn (he pins s σ H _ I h) λu s1 ⟨x,H1,I1,rx,a,C,dx,fs,v,ex,ea,c,n,l,q⟩=>?_)
 subst ex
 obtain rfl:u=Value.ref a:=rx
 exact zkq I1 ea c n l λu' s2 I2 ru=>⟨v,H1,I2,ru,q⟩
theorem zpJ (ha:PE X o ta)(hv:PE X value tv)(hs:swapsWith value (some (.Attribute o f pos')) pos.line X.env=pure false):PS X (.Assign [.Attribute o f pos'] value pos) (sFld X.K ta tv f):=by
 intro pins s σ H D I h
 refine plainObj_wpAny_Assign_Attribute (thn (hv pins s σ H _ I h) λu s1 ⟨y,H1,I1,ry,q⟩=>thn (ha pins s1 σ H1 _ I1 q) λov s2 ⟨x,H2,I2,rx,a,C,dx,fs,ex,ea,c,n,l,q2⟩=>?_) hs
 subst ex
 obtain rfl:ov=Value.ref a:=rx
 exact zld I2 ea c n l ry λs3 I3=>⟨σ,_,I3,q2⟩
theorem zrv {op:Operator}{rd:V→V→Hp→VK→Prop}(ha:PE X o ta)(hv:PE X value tv)(hop:zhm X op rd):PS X (.AugAssign (.Attribute o f tpos) op value pos) (zoy X.K ta tv rd f):=by
 intro pins s σ H D I h
 refine wpAny_AugAssign_AttributeAny (thn (ha pins s σ H _ I h) λov s1 ⟨x,H1,I1,rx,a,C,dx,fs,v,ex,ea,c,n,l,q⟩=>?_)
 subst ex
 obtain rfl:ov=Value.ref a:=rx
 refine zkq I1 ea c n l λu s2 I2 ru=>thn (hv pins s2 σ H1 _ I2 q) λw3 s3 ⟨y,H2,I3,ry,q3⟩=>thn (hop pins s3 σ H2 v y u w3 _ I3 ru ry q3) λw4 s4 ⟨z,H3,I4,rz,dx',fs',ea',l',q4⟩=>?_
 exact zld I4 ea' c n l' rz λs5 I5=>⟨σ,_,I5,q4⟩
def rAdd:V→V→Hp→VK→Prop:=λx y H Q=>∃i j,x=.int i∧y=.int j∧Q (.int (i+j)) H
def rSub:V→V→Hp→VK→Prop:=λx y H Q=>∃i j,x=.int i∧y=.int j∧Q (.int (i-j)) H
theorem zqp:zhm X .Add rAdd:=by
 rintro pins s σ H x y u v Q I rx ry ⟨i,j,rfl,rfl,q⟩
 obtain⟨t,rfl⟩:=(show ∃t,u=Value.int i t from rx)
 obtain⟨t',rfl⟩:=(show ∃t',v=Value.int j t' from ry)
 exact PyProof.Rows.iadd_int ⟨.int (i+j),H,I.tok _,⟨_,rfl⟩,q⟩
theorem zsc:zhm X .Sub rSub:=by
 rintro pins s σ H x y u v Q I rx ry ⟨i,j,rfl,rfl,q⟩
 obtain⟨t,rfl⟩:=(show ∃t,u=Value.int i t from rx)
 obtain⟨t',rfl⟩:=(show ∃t',v=Value.int j t' from ry)
 exact PyProof.Rows.isub_int ⟨.int (i-j),H,I.tok _,⟨_,rfl⟩,q⟩
end
section
variable {X:Cx}{pins:List (Addr×Obj)}{σ:St}{H:Hp}{s:Shared}{A:Around}{E:Value→Shared→Prop}{Q:Value→Shared→Prop}{c:Value}{b:Bool}
inductive zbX (K:PySem.W.Frag)(H:Hp):V→Value→Prop where
 | non:zbX K H .non (.type "NoneType")
 | bl (x:Bool):zbX K H (.bl x) (.type "bool")
 | int (i:Int):zbX K H (.int i) (.type "int")
 | str (x:Str):zbX K H (.str x) (.type "str")
 | flt (x:UInt64):zbX K H (.flt x) (.type "float")
 | lst {a:Addr} {xs:List V} (e:H a=some (.lst xs)):zbX K H (.ref a) (.type "list")
 | frz {a:Addr} {o:Obj} {xs:List V} (e:H a=some (.frz o (.lst xs))):zbX K H (.ref a) (.type "list")
 | tup {a:Addr} {xs:List V} (e:H a=some (.tup xs)):zbX K H (.ref a) (.type "tuple")
 | dK {a:Addr} {kvs:List (Key×V)} (e:H a=some (.dK kvs)):zbX K H (.ref a) (.type "dict")
 | dT {a:Addr} {kvs:List (List Key×V)} (e:H a=some (.dT kvs)):zbX K H (.ref a) (.type "dict")
 | ins {a C dx:Addr} {fs:List (Str×V)} (e:H a=some (.ins C dx fs)) (cl:Cls K C) (ha:PySem.W.findIn K (.ref C) "__class__"=some (some (.builtin "object.__class__")))
   (hn:PySem.W.specialIn K (.builtin "object.__class__") "__get__"=some (some (.builtin "getset_descriptor.__get__"))) (htk:PySem.W.takesIn K (.builtin "object.__class__")=some true)
   (hm:PySem.W.mroIn K C (.type "object")=some true):zbX K H (.ref a) (.ref C)
theorem zn7 {x:V}{u t:Value}(I:Inv X pins σ H s)(rx:zal x u)(ty:zbX X.K H x t)(e:PySem.W.kitOne X.K t c=some b)(h:∀tk,Q (.bool b) { s with toks:=tk }):
  wpAny (model X.prog X.w) A (call (.builtin "isinstance") [u,c]) Q E s:=by
 cases ty with
 | non=>cases (show u=Value.none from rx); exact PySem.W.kia_one PySem.W.kitx_none I.kIn True.intro e (λz=>nomatch z) h
 | bl y=>cases (show u=Value.bool y from rx); exact PySem.W.kia_one PySem.W.kitx_bool I.kIn True.intro e (λz=>nomatch z) h
 | int i=>obtain⟨t,q⟩:=(show ∃t,u=Value.int i t from rx); cases q; exact PySem.W.kia_one PySem.W.kitx_int I.kIn True.intro e (λz=>nomatch z) h
 | str y=>obtain⟨t,q⟩:=(show ∃t,u=Value.str y t from rx); cases q; exact PySem.W.kia_one PySem.W.kitx_str I.kIn True.intro e (λz=>nomatch z) h
 | flt y=>obtain⟨t,q⟩:=(show ∃t,u=Value.float y t from rx); cases q; exact PySem.W.kia_one PySem.W.kitx_float I.kIn True.intro e (λz=>nomatch z) h
 | @lst a xs ea=>
  cases (show u=Value.ref a from rx)
  obtain⟨_,_,n,_,h1⟩:=(show zba X.prog X.w H s.heap a (.lst xs) from I.hok a _ ea)
  exact PySem.W.kia_one PySem.W.kitx_list I.kIn ⟨_,h1,rfl⟩ e (λz=>nomatch z) h
 | @frz a ob xs ea=>
  cases (show u=Value.ref a from rx)
  obtain⟨_,_,_,n,_,h1⟩:=(show zba X.prog X.w H s.heap a (.frz ob (.lst xs)) from I.hok a _ ea)
  exact PySem.W.kia_one PySem.W.kitx_list I.kIn ⟨_,h1,rfl⟩ e (λz=>nomatch z) h
 | @tup a xs ea=>
  cases (show u=Value.ref a from rx)
  obtain⟨_,_,_,p⟩:=(show zba X.prog X.w H s.heap a (.tup xs) from I.hok a _ ea)
  obtain⟨o,h1,h2,_⟩:=p
  exact PySem.W.kia_one PySem.W.kitx_tuple I.kIn ⟨o,h1,h2⟩ e (λz=>nomatch z) h
 | @dK a kvs ea=>
  cases (show u=Value.ref a from rx)
  obtain⟨_,_,vs,_,p⟩:=(show zba X.prog X.w H s.heap a (.dK kvs) from I.hok a _ ea)
  obtain⟨o,es,ep,h1,h2,_⟩:=p
  exact PySem.W.kia_one PySem.W.kitx_dict I.kIn ⟨o,h1,h2.1⟩ e (λz=>nomatch z) h
 | @dT a kvs ea=>
  cases (show u=Value.ref a from rx)
  obtain⟨_,_,xs,_,o,es,ep,h1,h2,_⟩:=(show zba X.prog X.w H s.heap a (.dT kvs) from I.hok a _ ea)
  exact PySem.W.kia_one PySem.W.kitx_dict I.kIn ⟨o,h1,h2.1⟩ e (λz=>nomatch z) h
 | @ins a C dx fs ea cl ha hn htk hm=>
  cases (show u=Value.ref a from rx)
  obtain⟨mA,O,_⟩:=zgX I.hok ea
  obtain⟨od,J,_⟩:=O.look
  exact PySem.W.kia_one (PySem.W.kitx_own (cl.get _) cl.hd ha hn htk hm) I.kIn J e (λz=>nomatch z) h
end
end L2
namespace L2
open PySem PySem.Spec PyProof.Rows
structure zax (k:Nat)(A:Around):Prop where
 hd:A.handled=none
 dp:A.depth+3*k+5<recursionLimit
 un:A.units+16*k+200<cLine
theorem zax.mono {j k:Nat}{A:Around}(r:zax k A)(h:j≤k):zax j A:=⟨r.hd,by have:=r.dp; omega,by have:=r.un; omega⟩
theorem zax.deeper {k:Nat}{A:Around}(r:zax (k+1) A)(env:Env):zax k (A.deeper env):=
 ⟨r.hd,by have:=r.dp; show A.depth+1+3*k+5<_; omega,by have:=r.un; show A.units+3+16*k+200<_; omega⟩
theorem zax.in1 {k:Nat}{A:Around}(r:zax (k+1) A):zax k A.in1:=
 ⟨r.hd,by have:=r.dp; show A.depth+3*k+5<_; omega,by have:=r.un; show A.units+1+16*k+200<_; omega⟩
theorem zmw {A:Around}{C:Addr}{us:List Value}{kw:List (Str×Value)}:(A.under (.builtin "type.__call__" ⟨.ref C::us,kw⟩)).depth=A.depth+1:=by
 first | rfl | simp[Around.under,Code.weight,Code.isCreation,Code.isGuard,Code.isCaller,Code.frames,Code.isFrame,guardIds]
theorem zoM {A:Around}{C:Addr}{us:List Value}{kw:List (Str×Value)}:(A.under (.builtin "type.__call__" ⟨.ref C::us,kw⟩)).units=A.units+1:=by
 first | rfl | simp[Around.under,Code.cUnits,Code.frames,Code.isFrame]
theorem zax.make {k:Nat}{A:Around}(r:zax (k+1) A)(C:Addr)(us:List Value)(kw:List (Str×Value)):zax k (A.under (.builtin "type.__call__" ⟨.ref C::us,kw⟩)):=
 ⟨r.hd,by have:=r.dp; rw[zmw]; omega,by have:=r.un; rw[zoM]; omega⟩
theorem zax.depth {k:Nat}{A:Around}(r:zax k A):A.depth<recursionLimit:=by have:=r.dp; omega
theorem zax.units {k:Nat}{A:Around}(r:zax k A):A.units+64<cLine:=by have:=r.un; omega
def tNil:TA:=λ_ H Q=>Q [] H
def tCons (ta:TE)(tr:TA):TA:=λσ H Q=>ta σ H λx H1=>tr σ H1 λxs H2=>Q (x::xs) H2
section
variable {X:Cx}{e:Expr}{es:List Expr}{te:TE}{t:TA}{pos:Pos}
theorem zfx:PA X [] tNil:=λ_ _ _ _ H Q I h=>Calls.spliced_nil ⟨[],H,I,.nil,h⟩
theorem zda (ha:PE X e te)(hr:PA X es t)(hs:starEach (e::es) X.env=(false,eval e X.env)::starEach es X.env:=by rfl):PA X (e::es) (tCons te t):=by
 intro pos pins s σ H Q I h
 rw[hs]
 show wpAny _ _ (spliced ((false,eval e X.env)::backTo pos (starEach es X.env))) _ _ s
 refine Calls.spliced_cons (thn (ha pins s σ H _ I h) λu s1 ⟨x,H1,I1,r1,q1⟩=>?_)
 exact thn (hr pos pins s1 σ H1 _ I1 q1) λus s2 ⟨xs,H2,I2,r2,q2⟩=>⟨x::xs,H2,I2,.cons r1 r2,q2⟩
def tTup (t:TA):TE:=λσ H Q=>t σ H λxs H1=>xs.length≤sizeLine∧∀p,H1 p=none→Q (.ref p) (upd H1 p (.tup xs))
def tLst (t:TA):TE:=λσ H Q=>t σ H λxs H1=>xs.length≤sizeLine∧∀p,H1 p=none→Q (.ref p) (upd H1 p (.lst xs))
theorem zm8 {x1}(h:PA X es t):PE X (.Tuple es x1 pos) (tTup t):=by
 intro pins s σ H Q I hq
 refine wpAny_Tuple_spliced (thn (h pos pins s σ H _ I hq) λus s1 ⟨xs,H1,I1,r,z,q⟩=>⟨by rw[← r.length]; exact z,?_⟩)
 have hf:H1 s1.heap.objs.size=none:=I1.hok.fresh (Vaa _)
 refine⟨.ref s1.heap.objs.size,upd H1 s1.heap.objs.size (.tup xs),I1.laid (t':=s1.toks) (λb u e=>Heap.get?_push_of_some _ e) (Vaa _) ?_,rfl,q _ hf⟩
 exact⟨z,us,r,⟨_,Heap.get?_push_size _ rfl,rfl,_,rfl⟩⟩
theorem zqO (h:PA X es t):PE X (.List es pos) (tLst t):=by
 intro pins s σ H Q I hq
 refine wpAny_List_spliced (thn (h pos pins s σ H _ I hq) λus s1 ⟨xs,H1,I1,r,z,q⟩=>⟨by rw[← r.length]; exact z,?_⟩)
 have hf:H1 s1.heap.objs.size=none:=I1.hok.fresh (Vaa _)
 refine⟨.ref s1.heap.objs.size,upd H1 s1.heap.objs.size (.lst xs),I1.laid (t':=s1.toks) (λb u e=>Heap.get?_push_of_some _ e) (Vaa _) ?_,rfl,q _ hf⟩
 exact⟨z,us,0,r,Heap.get?_push_size _ rfl⟩
end
abbrev Sp:=List V→Hp→VK→XK→Prop
abbrev CXT:=List Env→Hp→Shared→XK→Value→Shared→Prop
structure zcf (P:Program)(w:World)(K:PySem.W.Frag)(mg:Str→Option Value)(base:Heap)(A:Around)(outer:List Env)(s:Shared)(H:Hp):Prop where
 frames:A.frames=some outer
 mod:Mod K mg base
 bs:∀b o,base.get? b=some o→s.heap.get? b=some o∧H b=none
 bsz:base.objs.size≤s.heap.objs.size
 funs:s.heap.FunFrames base outer
 frf:∀b∈frs outer,H b=none
 hok:HOk P w H s.heap
 bare:AllBare s.gens
def CE (outer:List Env)(P:Program)(w:World)(H:Hp)(s:Shared)(Q:VK)(u:Value)(s':Shared):Prop:=
 ∃v H',s'.os=s.os∧AllBare s'.gens∧Un (frs outer) [] H H' s.heap s'.heap∧HOk P w H' s'.heap∧zal v u∧Q v H'
def CR (CX:CXT)(outer:List Env)(P:Program)(w:World)(H:Hp)(s:Shared)(Q:VK)(E:XK)(r:Result)(s':Shared):Prop:=
 match r with
 | .ok (.ret u)=>CE outer P w H s Q u s'
 | .ok _=>False
 | .error e=>CX outer H s E e s'
structure zaO (P:Program)(w:World)(K:PySem.W.Frag)(mg:Str→Option Value)(base:Heap)(CX:CXT)(k:Nat)(f:Addr)(fd:FuncData)(ps:List Str)(sp:Sp):Prop where
 len:∀vs H Q E,sp vs H Q E→vs.length=ps.length
 run:∀(A:Around) (outer:List Env) (s:Shared) (H:Hp) (args:Args) (us:List Value) (vs:List V) (Q:VK) (E:XK),zax k A→zcf P w K mg base A outer s H→BindsTo s fd args (ps.zip us)→zah vs us→sp vs H Q E→
  codeAny (model P w) A (.call (.ref f) args) (CR CX outer P w H s Q E) s
theorem zaO.mono {P:Program}{w:World}{K:PySem.W.Frag}{mg:Str→Option Value}{base:Heap}{CX:CXT}{j k:Nat}{f:Addr}{fd:FuncData}{ps:List Str}{sp:Sp}(F:zaO P w K mg base CX j f fd ps sp)(h:j≤k):
  zaO P w K mg base CX k f fd ps sp:=⟨F.len,λA outer s H args us vs Q E hr=>F.run A outer s H args us vs Q E (hr.mono h)⟩
theorem zaO.imp {P:Program}{w:World}{K:PySem.W.Frag}{mg:Str→Option Value}{base:Heap}{CX:CXT}{k:Nat}{f:Addr}{fd:FuncData}{ps:List Str}{sp sp':Sp}(F:zaO P w K mg base CX k f fd ps sp)
  (h:∀vs H Q E,sp' vs H Q E→sp vs H Q E):zaO P w K mg base CX k f fd ps sp':=
 ⟨λvs H Q E q=>F.len vs H Q E (h _ _ _ _ q),λA outer s H args us vs Q E hr he hb hv hs=>F.run A outer s H args us vs Q E hr he hb hv (h _ _ _ _ hs)⟩
theorem zcf.make {P:Program}{w:World}{K:PySem.W.Frag}{mg:Str→Option Value}{base:Heap}{A:Around}{outer:List Env}{s:Shared}{H:Hp}(e:zcf P w K mg base A outer s H)(C:Addr)(us:List Value)(kw:List (Str×Value)):
  zcf P w K mg base (A.under (.builtin "type.__call__" ⟨.ref C::us,kw⟩)) outer s H:=⟨by first | exact e.frames | (simpa [Around.under,Code.envs,Code.isFrame,pushEnvs] using e.frames),e.mod,e.bs,e.bsz,e.funs,e.frf,e.hok,e.bare⟩
theorem zcf.in1 {P:Program}{w:World}{K:PySem.W.Frag}{mg:Str→Option Value}{base:Heap}{A:Around}{outer:List Env}{s:Shared}{H:Hp}(e:zcf P w K mg base A outer s H):
  zcf P w K mg base A.in1 outer s H:=⟨e.frames,e.mod,e.bs,e.bsz,e.funs,e.frf,e.hok,e.bare⟩
section
variable {X:Cx}{pins:List (Addr×Obj)}{σ:St}{H:Hp}{s s':Shared}
theorem Inv.env0 (I:Inv X pins σ H s):zcf X.prog X.w X.K X.mg X.base X.A X.stack s H:=
 ⟨I.ok.frames,I.ok.mod,I.bs,Vao I.ok.bsz I.sz,I.stack,I.stkFree,I.hok,I.bare⟩
theorem Inv.after {Q:VK}{u:Value}(I:Inv X pins σ H s)(h:CE X.stack X.prog X.w H s Q u s'):EP X pins σ Q u s':=by
 obtain⟨v,H',os,bare,un,hok,r,q⟩:=h
 obtain⟨hh,g,d,t,os'⟩:=s'
 obtain rfl:os'=s.os:=os
 exact⟨v,H',I.call (h':=hh) (g':=g) (d':=d) (t':=t) (ch:=[]) un hok bare (λb z=>absurd z (by simp)),r,q⟩
end
def tMake (C:Addr)(sp:Sp)(dvs:List V)(E:XK)(t:TA):TE:=λσ H Q=>t σ H λvs H1=>∀x dx,H1 x=none→H1 dx=none→dx≠x→
 sp (.ref x::(vs++dvs)) (upd (upd H1 dx (.own x)) x (.ins C dx [])) (λv H2=>v=.non∧Q (.ref x) H2) E
def zbk (K:PySem.W.Frag)(fd:FuncData)(ps:List Str)(ds:List Value):Prop:=
 ∀(s:Shared) (us:List Value),K.In s.heap→(us++ds).length=ps.length→BindsTo s fd ⟨us,[]⟩ (ps.zip (us++ds))
theorem zbk.all {K:PySem.W.Frag}{fd:FuncData}{ps:List Str}(h:∀us:List Value,us.length=ps.length→bindArgs fd ⟨us,[]⟩=pure (ps.zip us)):zbk K fd ps []:=λs us _ hl=>by
 rw[Var] at hl ⊢
 exact .of_eq (h us hl)
def zhT (CX:CXT)(X:Cx)(E:XK):Prop:=∀(pins:List (Addr×Obj)) (σ:St) (H:Hp) (s:Shared) (e:Value) (s':Shared),Inv X pins σ H s→CX X.stack H s E e s'→X.xe e s'
section
variable {X:Cx}{CX:CXT}{k:Nat}{f C:Addr}{fd:FuncData}{ps:List Str}{sp:Sp}{dvs:List V}{ds:List Value}{E:XK}{x m:Str}{p pos apos:Pos}{e o:Expr}{es:List Expr}{ta:TE}{t:TA}
structure Mk (K:PySem.W.Frag)(C f:Addr):Prop where
 makes:PySem.W.makesIn K C=true
 init:PySem.W.findIn K (.ref C) "__init__"=some (some (.ref f))
 fn:PySem.W.isFn K (.ref f)=true
 kp:PySem.W.keepIn K (.ref C)=true
theorem zrh {pins:List (Addr×Obj)}{σ:St}{H:Hp}{s:Shared}{Q:VK}{us:List Value}{vs:List V}(M:Mk X.K C f)(F:zaO X.prog X.w X.K X.mg X.base CX k f fd ps sp)(hr:zax (k+1) X.A)(hb:zbk X.K fd ps ds)(hd:zah dvs ds)
  (hx:zhT CX X E)(I:Inv X pins σ H s)(r:zah vs us)
  (h:∀x dx,H x=none→H dx=none→dx≠x→sp (.ref x::(vs++dvs)) (upd (upd H dx (.own x)) x (.ins C dx [])) (λv H2=>v=.non∧Q (.ref x) H2) E):
  wpAny (model X.prog X.w) X.A (call (.ref C) us) (EP X pins σ Q) X.xe s:=by
 have hq:=h (s.heap.objs.size+1) s.heap.objs.size (I.hok.fresh (Nat.le_succ _)) (I.hok.fresh (Vaa _)) (Val (Nat.lt_succ_self _))
 have I2:=Inv.made (C:=C) I
 have r2:zah (V.ref (s.heap.objs.size+1)::(vs++dvs)) (Value.ref (s.heap.objs.size+1)::(us++ds)):=.cons rfl (r.append hd)
 have hl:(Value.ref (s.heap.objs.size+1)::us++ds).length=ps.length:=by
  have e:=r2.length
  rw[F.len _ _ _ _ hq] at e
  exact e.symm
 refine wpAny_call (zrk (f:=f) I.kIn M.makes M.init (beq_iff_eq.mp M.fn) (codeAny_mono (F.run _ X.stack _ _ ⟨Value.ref (s.heap.objs.size+1)::us,[]⟩ (Value.ref (s.heap.objs.size+1)::(us++ds)) _ _ E (hr.make C us [])
  (I2.env0.make C us []) (hb _ (Value.ref (s.heap.objs.size+1)::us) I2.kIn hl) r2 hq) λr s' hq'=>?_))
 cases r with
 | error e=>exact hx pins σ _ _ e s' I2 hq'
 | ok fl=>
  cases fl with
  | ret u=>
   obtain⟨v,H',I3,rv,ev,q3⟩:=I2.after hq'
   subst ev
   exact⟨rv,⟨V.ref (s.heap.objs.size+1),H',I3,rfl,q3⟩⟩
  | next=>exact False.elim hq'
  | brk=>exact False.elim hq'
  | cont=>exact False.elim hq'
theorem zrg (M:Mk X.K C f)(F:zaO X.prog X.w X.K X.mg X.base CX k f fd ps sp)(hr:zax (k+1) X.A)(hg:Gl X x)(hm:X.mg x=some (.ref C))(hb:zbk X.K fd ps ds)(hd:zah dvs ds)(hx:zhT CX X E)
  (ha:PA X (e::es) t)(hdb:(x==("__debug__":Str))=false:=by decide)(he:starEach (e::es) X.env=(false,eval e X.env)::starEach es X.env:=by rfl)(hpl:(backTo pos (starEach es X.env)).any (·.1)=false:=by rfl):
  PE X (.Call (.Name x p) (e::es) [] pos) (tMake C sp dvs E t):=by
 intro pins s σ H Q I h
 refine wpAny_Call_Name_kw (zf0 I hg hm ?_ hdb)
 refine PySem.W.callWith_K (h₀:=X.base) I.ok.mod.kin M.kp (thn (ha pos pins s σ H _ I h) λus s1 ⟨vs,H1,I1,r,q⟩=>⟨I1.kIn,?_⟩) he hpl
 exact zrh M F hr hb hd hx I1 r q
end
section
variable {X:Cx}{CX:CXT}{k:Nat}{f C:Addr}{fd:FuncData}{ps ks:List Str}{sp:Sp}{E:XK}{x m:Str}{p pos apos kpos:Pos}{e o:Expr}{es:List Expr}{kws:List Keyword}{te ta:TE}{t tk:TA}{nm:Option Str}
structure KBinds (K:PySem.W.Frag)(fd:FuncData)(ps ks:List Str)(g:List Value→List Value→List Value)(gV:List V→List V→List V):Prop where
 to:∀(s:Shared) (us ws:List Value),K.In s.heap→(g us ws).length=ps.length→BindsTo s fd ⟨us,ks.zip ws⟩ (ps.zip (g us ws))
 rel:∀ {vs:List V} {us:List Value} {zs:List V} {ws:List Value},zah vs us→zah zs ws→zah (gV vs zs) (g us ws)
variable {g:List Value→List Value→List Value}{gV:List V→List V→List V}
end
structure zaz (N P:List Str)(sc:Scope):Prop where
 kind:sc.kind=.function
 co:sc.isCoroutine=false
 gen:sc.isGenerator=false
 nd:N.Nodup
 pre:N.take P.length=P
 par:∀x∈P,sc.names.lookup x=some .local∨sc.names.lookup x=some .cell
 nofree:∀y∈sc.names,y.2≠.free
theorem zjR {kindOf:Str→Option NameKind}{x:Str}:∀ {binds:List (Str×Value)} {m:Str→Option Value},(∀v,(x,v) ∉ binds)→bindL kindOf binds m x=m x
 | [],_,_=>rfl
 | (n,v)::r,m,h=>by
  unfold bindL
  rw[zjR λw hw=>h w (Vat _ hw)]
  split
  ·have:x≠n:=by rintro rfl; exact h v Vaz
   simp[this]
  ·rfl
theorem zl1 {kindOf:Str→Option NameKind}{x:Str}:∀ {binds:List (Str×Value)} {m:Str→Option Value},(∀v,(x,v) ∉ binds)→bindC kindOf binds m x=m x
 | [],_,_=>rfl
 | (n,v)::r,m,h=>by
  unfold bindC
  rw[zl1 λw hw=>h w (Vat _ hw)]
  split
  ·rfl
  ·have:x≠n:=by rintro rfl; exact h v Vaz
   simp[this]
theorem zkM {kindOf:Str→Option NameKind}{x:Str}{v:Value}:∀ {P:List Str} {vs:List Value} {i:Nat} {m:Str→Option Value},P.Nodup→P[i]?=some x→vs[i]?=some v→kindOf x=some .local→
  bindL kindOf (P.zip vs) m x=some v
 | [],_,_,_,_,h,_,_=>by simp at h
 | _::_,[],_,_,_,_,h,_=>by simp at h
 | p::P,w::vs,0,m,nd,h1,h2,hk=>by
  simp at h1 h2; subst h1; subst h2
  show bindL kindOf ((p,w)::P.zip vs) m p=_
  unfold bindL
  rw[zjR λv hv=>(List.nodup_cons.mp nd).1 (List.of_mem_zip hv).1,if_pos hk]
  simp
 | p::P,w::vs,i+1,m,nd,h1,h2,hk=>by
  show bindL kindOf ((p,w)::P.zip vs) m x=_
  unfold bindL
  exact zkM (i:=i) (List.nodup_cons.mp nd).2 (by simpa using h1) (by simpa using h2) hk
theorem zlZ {kindOf:Str→Option NameKind}{x:Str}{v:Value}:∀ {P:List Str} {vs:List Value} {i:Nat} {m:Str→Option Value},P.Nodup→P[i]?=some x→vs[i]?=some v→kindOf x≠some .local→
  bindC kindOf (P.zip vs) m x=some v
 | [],_,_,_,_,h,_,_=>by simp at h
 | _::_,[],_,_,_,_,h,_=>by simp at h
 | p::P,w::vs,0,m,nd,h1,h2,hk=>by
  simp at h1 h2; subst h1; subst h2
  show bindC kindOf ((p,w)::P.zip vs) m p=_
  unfold bindC
  rw[zl1 λv hv=>(List.nodup_cons.mp nd).1 (List.of_mem_zip hv).1,if_neg hk]
  simp
 | p::P,w::vs,i+1,m,nd,h1,h2,hk=>by
  show bindC kindOf ((p,w)::P.zip vs) m x=_
  unfold bindC
  exact zlZ (i:=i) (List.nodup_cons.mp nd).2 (by simpa using h1) (by simpa using h2) hk
def zck (N:List Str)(vs:List V):St:=vs.map some++List.replicate (N.length-vs.length) none
def zaS (CX:CXT)(P:Program)(w:World)(K:PySem.W.Frag)(mg:Str→Option Value)(base:Heap)(N:List Str)(qual:Str)(scope:Scope)(f:Addr)(cd:Value)(A:Around)(outer:List Env)(s:Shared)(H:Hp)(E:XK):Cx where
 prog:=P
 w:=w
 K:=K
 mg:=mg
 base:=base
 A:=A.deeper (envOfC qual scope s.heap.objs.size f cd)
 N:=N
 s₀:=s
 H₀:=H
 env:=envOfC qual scope s.heap.objs.size f cd
 outer:=outer
 stack:=envOfC qual scope s.heap.objs.size f cd::outer
 ex:=[]
 calm:=true
 fn:=λ_=>true
 pn:=[]
 xe:=λe s'=>wpAny (model P w) (A.deeper (envOfC qual scope s.heap.objs.size f cd)) (leaving (envOfC qual scope s.heap.objs.size f cd) e) (λ_ s''=>CX outer H s E e s'') (λe' s''=>CX outer H s E e' s'') s'
theorem zjW {sc:Scope}{n:Nat}{x:Str}(h:sc.names.lookup x=some .cell):∃c,(cellsFrom n sc.names []).lookup x=some c:=by
 have q:=PySem.W.cellsFrom_some sc.names n [] (.inl h)
 exact Option.isSome_iff_exists.mp q
theorem zrR {CX:CXT}{P:Program}{w:World}{K:PySem.W.Frag}{mg:Str→Option Value}{base:Heap}{N ps:List Str}{qual:Str}{scope:Scope}{f:Addr}{cd:Value}{A:Around}{outer:List Env}{s s1:Shared}{H:Hp}{E:XK}{us:List Value}{vs:List V}
  (S:zaz N ps scope)(hd:A.handled=none)(e0:zcf P w K mg base A outer s H)(hl:vs.length=ps.length)(r:zah vs us)
  (x:InCallC s s.heap.objs.size (bindL (envOfC qual scope s.heap.objs.size f cd).kindOf (ps.zip us) λ_=>none) (cellsFrom (s.heap.objs.size+1) scope.names []) (bindC (envOfC qual scope s.heap.objs.size f cd).kindOf (ps.zip us) λ_=>none) s1):
  Inv (zaS CX P w K mg base N qual scope f cd A outer s H E) [] (zck N vs) H s1:=by
 have hpl:ps.length≤N.length:=by have:=congrArg List.length S.pre; rw[VaK] at this; omega
 obtain⟨h1,tk,rfl,hk⟩:=x.done
 have noA:∀b:Addr,b ∉ (zaS CX P w K mg base N qual scope f cd A outer s H E).ex:=λb z=>absurd (show b∈([]:List Addr) from z) (by simp)
 refine⟨⟨e0.mod,S.kind,rfl,rfl,Vaa _,λy z c h1 h2=>?_,λy hy=>?_,λy c _ h=>?_,λ_=>hd,Around.frames_deeper e0.frames,.inr ⟨rfl,rfl⟩,λb z=>absurd z (noA b),e0.bs,e0.bsz,λb _ _=>noA b,λb z=>absurd z (noA b),e0.funs,e0.frf⟩,
  rfl,e0.bare,Un.kept hk,⟨_,x.toInCall.ns,λi y v h1 h2 h3=>?_⟩,λy c h=>⟨_,x.cell y c h⟩,e0.hok.fresh (Vaa _),λy c h=>?_,λp hp=>absurd (show p∈([]:List (Addr×Obj)) from hp) (by simp),e0.hok.kept hk,?_⟩
 ·exact name_of_addr x.apart (PySem.mem_of_lookup h1) (PySem.mem_of_lookup h2)
 ·have hy:scope.names.lookup y=some .cell∨scope.names.lookup y=some .free:=hy
  rcases hy with hy | hy
  ·exact zjW hy
  ·exact absurd rfl (S.nofree _ (PySem.mem_of_lookup hy))
 ·exact VaC (x.above y c (PySem.mem_of_lookup h))
 ·have hi:i<vs.length:=by
   unfold zck at h2
   by_cases hi:i<vs.length
   ·exact hi
   ·rw[VaQ (by simpa using hi)] at h2
    rw[List.getElem?_replicate] at h2
    split at h2 <;> cases h2
  have ha:vs[i]?=some v:=by
   unfold zck at h2
   rw[Van (by simpa using hi),Vau] at h2
   cases e:vs[i]? with
   | none=>rw[e] at h2; cases h2
   | some a=>rw[e] at h2; cases h2; rfl
  obtain⟨u,hu,rv⟩:=r.get ha
  have hp:ps[i]?=some y:=by
   rw[← S.pre,List.getElem?_take_of_lt (by omega)]; exact h1
  have ndP:ps.Nodup:=by rw[← S.pre]; exact S.nd.sublist (List.take_sublist _ _)
  refine⟨u,rv,?_⟩
  rcases S.par y (Vax hp) with k | k
  ·exact .inl ⟨k,zkM ndP hp hu k⟩
  ·obtain⟨c,e⟩:=zjW (n:=s.heap.objs.size+1) k
   refine .inr ⟨.inl k,c,e,?_⟩
   have q:=x.cell y c e
   rw[zlZ ndP hp hu (by show scope.names.lookup y≠_; rw[k]; decide)] at q
   exact q
 ·exact e0.hok.fresh (VaC (x.above y c (PySem.mem_of_lookup h)))
 ·unfold zck
  show _=N.length
  rw[Vah,Vab,List.length_replicate]
  omega
theorem ziK {CX:CXT}{P:Program}{w:World}{K:PySem.W.Frag}{mg:Str→Option Value}{base:Heap}{k:Nat}{f:Addr}{name qual:Str}{params:Arguments}{body:List Stmt}{scope:Scope}{dV kV doc pm cdv ct oc:Value}{an od:Option Addr}
  {osl:Array (Option Value)}{N ps:List Str}{sp:Sp}(lk:K.lookup f=some ⟨oc,od,.func (PySem.W.fnOf name qual params body scope dV kV doc pm an cdv ct),osl⟩)(hcd:PySem.W.codeIn K cdv qual=true)(S:zaz N ps scope)
  (len:∀vs H Q E,sp vs H Q E→vs.length=ps.length)
  (hbody:∀(A:Around) (outer:List Env) (s:Shared) (H:Hp) (vs:List V) (Q:VK) (E:XK),zax k (A.deeper (envOfC qual scope s.heap.objs.size f cdv))→sp vs H Q E→
   ∃t,PSs (zaS CX P w K mg base N qual scope f cdv A outer s H E) body t∧t { nx:=λ_ H'=>Q .non H',rt:=Q } (zck N vs) H):
  zaO P w K mg base CX (k+1) f (PySem.W.fnOf name qual params body scope dV kV doc pm an cdv ct) ps sp:=by
 refine⟨len,λA outer s H args us vs Q E hr e0 hb r hsp=>?_⟩
 have hl:=len _ _ _ _ hsp
 have KX:K.In s.heap:=e0.mod.kin.keeps λb o e=>(e0.bs b o e).1
 have lim:s.heap.NoLimit:=e0.mod.nolimit.keeps λb o e=>(e0.bs b o e).1
 have hkind:∀y∈ps.zip us,scope.names.lookup y.1=some .local∨(scope.names.lookup y.1=some .cell∧((cellsFrom (s.heap.objs.size+1) scope.names []).lookup y.1).isSome=true):=λ⟨n,v⟩ hy=>by
  rcases S.par n (List.of_mem_zip hy).1 with q | q
  ·exact .inl q
  ·exact .inr ⟨q,PySem.W.cellsFrom_some _ _ _ (.inl q)⟩
 refine codeAny_call_function hr.depth (KX _ _ lk) rfl S.co S.gen rfl (PySem.W.codeRec_of KX hcd) (hb _ _ _ _ ?_)
 refine wpAny_newFunctionEnv_cells S.kind hkind λenv he s1 x=>?_
 subst he
 refine⟨lim.keeps x.toInCall.keep,codeAny_func ?_⟩
 obtain⟨t,ht,hq⟩:=hbody A outer s H vs Q E (hr.deeper _) hsp
 have I:Inv (zaS CX P w K mg base N qual scope f cdv A outer s H E) [] (zck N vs) H s1:=zrR S hr.hd e0 hl r x
 refine wpAny_mono (ht [] s1 (zck N vs) H _ I hq) (λfl s' hs=>?_) λe s' hs=>hs
 have fin:∀ {σ':St} {H':Hp} {v:V} {u:Value},Inv (zaS CX P w K mg base N qual scope f cdv A outer s H E) [] σ' H' s'→zal v u→Q v H'→CE outer P w H s Q u s':=
  λ{σ' H' v u} J rv q=>⟨v,H',J.os,J.bare,J.base,J.hok,rv,q⟩
 cases fl with
 | ret u=>
  obtain⟨v,σ',H',J,rv,q⟩:=hs
  exact fin J rv q
 | next=>
  obtain⟨σ',H',J,q⟩:=hs
  exact fin (v:=V.non) (u:=Value.none) J rfl q
 | brk=>
  obtain⟨_,_,_,q⟩:=hs
  exact False.elim q
 | cont=>
  obtain⟨_,_,_,q⟩:=hs
  exact False.elim q
end L2
namespace L2
open PySem PySem.Spec PyProof.Rows
section
variable {X:Cx}{x:Str}{p pos:Pos}{e:Expr}{es:List Expr}{t:TA}{id T:String}{r:List V→Hp→VK→Prop}
def tCB (r:List V→Hp→VK→Prop)(t:TA):TE:=λσ H Q=>t σ H λvs H1=>r vs H1 Q
theorem zjl (hc:zaL X (.builtin id) r)(hg:Gl X x)(hm:X.mg x=none)(hv:bootBuiltins x=some (.builtin id))(ha:PA X (e::es) t)(hn:x≠"__name__":=by decide)(hdb:(x==("__debug__":Str))=false:=by decide)
  (he:starEach (e::es) X.env=(false,eval e X.env)::starEach es X.env:=by rfl)(hpl:(backTo pos (starEach es X.env)).any (·.1)=false:=by rfl):PE X (.Call (.Name x p) (e::es) [] pos) (tCB r t):=by
 intro pins s σ H Q I h
 refine wpAny_Call_Name_kw (zh9 I hg hm hv ?_ hn hdb)
 exact PyProof.Rows.callWith_builtin1 (thn (ha pos pins s σ H _ I h) λus s1 ⟨vs,H1,I1,r1,q1⟩=>hc pins s1 σ H1 vs us Q I1 r1 q1) he hpl
theorem zls (hc:zaL X (.type T) r)(hg:Gl X x)(hm:X.mg x=none)(hv:bootBuiltins x=some (.type T))(ha:PA X (e::es) t)(hn:x≠"__name__":=by decide)(hdb:(x==("__debug__":Str))=false:=by decide)
  (he:starEach (e::es) X.env=(false,eval e X.env)::starEach es X.env:=by rfl)(hpl:(backTo pos (starEach es X.env)).any (·.1)=false:=by rfl):PE X (.Call (.Name x p) (e::es) [] pos) (tCB r t):=by
 intro pins s σ H Q I h
 refine wpAny_Call_Name_kw (zh9 I hg hm hv ?_ hn hdb)
 exact PyProof.Rows.callWith_type1 (thn (ha pos pins s σ H _ I h) λus s1 ⟨vs,H1,I1,r1,q1⟩=>hc pins s1 σ H1 vs us Q I1 r1 q1) he hpl
end
end L2
namespace HT
open PySem PyProof.Rows
section
open PySem.SeqAt
open PySem.AutoSeq1 (wpAny_loadPart')
open PySem.MeetsSeq PySem.MeetsSeq2 PySem.MeetsSeq3
end
section
variable {prog:Program}{w:World}{A:Around}{E:Value→Shared→Prop}{s:Shared}
def sIx (n d:Nat):Option Int→Nat
 | none=>d
 | some v=>if v<0 then (v+(n:Int)).toNat else min v.toNat n
theorem sIx_none (n d:Nat):sIx n d none=d:=rfl
theorem sIx_nat (n d k:Nat):sIx n d (some (k:Int))=min k n:=by
 show (if (k:Int)<0 then ((k:Int)+(n:Int)).toNat else min (k:Int).toNat n)=min k n
 rw[if_neg (by omega),Int.toNat_natCast]
end
end HT
namespace L2
open PySem PySem.Spec PyProof.Rows
abbrev TO:=St→Hp→(Option Int→Hp→Prop)→Prop
def PO (X:Cx)(e:Option Expr)(t:TO):Prop:=
 ∀(pins:List (Addr×Obj)) (s:Shared) (σ:St) (H:Hp) (Q:Option Int→Hp→Prop),Inv X pins σ H s→t σ H Q→
  wpAny (model X.prog X.w) X.A (evalPart e X.env) (λu s'=>∃o H',Inv X pins σ H' s'∧IsPart u o∧Q o H') X.xe s
def znE:TO:=λ_ H Q=>Q none H
def tPart (t:TE):TO:=λσ H Q=>t σ H λx H1=>∃i,x=.int i∧Q (some i) H1
section
variable {X:Cx}{e:Expr}{te:TE}{lo hi:Option Expr}{tl th:TO}{pos p2:Pos}
theorem zrY:PO X none znE:=by
 intro pins s σ H Q I h
 rw[evalPart_none]
 exact wpAny_pure ⟨none,H,I,.none,h⟩
theorem zo8 (h:PE X e te):PO X (some e) (tPart te):=by
 intro pins s σ H Q I hw
 rw[evalPart_some]
 refine thn (h pins s σ H _ I hw) λu s1 ⟨x,H1,I1,r1,q1⟩=>?_
 obtain⟨i,rfl,q⟩:=q1
 obtain⟨t,rfl⟩:=r1
 exact⟨some i,H1,I1,.int i t,q⟩
def SlR (X:Cx)(r:V→Option Int→Option Int→Hp→VK→Prop):Prop:=
 ∀(pins:List (Addr×Obj)) (s:Shared) (σ:St) (H:Hp) (x:V) (v vl vu:Value) (lo hi:Option Int) (sl:Addr) (Q:VK),Inv X pins σ H s→zal x v→s.heap.IsSliceOf sl vl vu .none→IsPart vl lo→IsPart vu hi→r x lo hi H Q→
  ∃T id,typeLookup (.type T) "__getitem__"=pure (some (.builtin id))∧s.TypeIs v T∧wpAny (model X.prog X.w) X.A (getItem v (.ref sl)) (EP X pins σ Q) X.xe s
theorem SlR.or {r r':V→Option Int→Option Int→Hp→VK→Prop}(h:SlR X r)(h':SlR X r'):SlR X (λx lo hi H Q=>r x lo hi H Q∨r' x lo hi H Q):=by
 intro pins s σ H x v vl vu lo hi sl Q I rx hs pl pu q
 rcases q with q | q
 ·exact h pins s σ H x v vl vu lo hi sl Q I rx hs pl pu q
 ·exact h' pins s σ H x v vl vu lo hi sl Q I rx hs pl pu q
def tSl (r:V→Option Int→Option Int→Hp→VK→Prop)(te:TE)(tl th:TO):TE:=λσ H Q=>te σ H λx H1=>tl σ H1 λl H2=>th σ H2 λu H3=>r x l u H3 Q
theorem zjQ {r:V→Option Int→Option Int→Hp→VK→Prop}(hr:SlR X r)(he:PE X e te)(hl:PO X lo tl)(hu:PO X hi th):PE X (.Subscript e (.Slice lo hi none p2) pos) (tSl r te tl th):=by
 intro pins s σ H Q I h
 refine Subscript_ (thn (he pins s σ H _ I h) λv s1 ⟨x,H1,I1,r1,q1⟩=>?_)
 refine wpAny_Slice (thn (hl pins s1 σ H1 _ I1 q1) λvl s2 ⟨l,H2,I2,pl,q2⟩=>thn (hu pins s2 σ H2 _ I2 q2) λvu s3 ⟨u,H3,I3,pu,q3⟩=>?_)
 rw[evalPart_none]
 refine wpAny_pure ?_
 have I4:Inv X pins σ H3 { s3 with heap:=s3.heap.push { cls:=.type "slice",data:=.fields #[vl,vu,.none] } }:=I3.kept (t':=s3.toks) λb ob q=>Heap.get?_push_of_some _ q
 obtain⟨T,id,hT,ht,hg⟩:=hr pins { s3 with heap:=s3.heap.push { cls:=.type "slice",data:=.fields #[vl,vu,.none] } } σ H3 x v vl vu l u s3.heap.objs.size Q I4 r1 (Heap.IsSliceOf.new ..) pl pu q3
 show wpAny (model X.prog X.w) X.A (subscriptTail e (.Slice lo hi none p2) v (.ref s3.heap.objs.size)) (EP X pins σ Q) X.xe { s3 with heap:=s3.heap.push { cls:=.type "slice",data:=.fields #[vl,vu,.none] } }
 exact tail_any (ops:=[.ref s3.heap.objs.size,v]) ht hT hg (by with_unfolding_all rfl)
def zft (xs:List V)(lo hi:Option Int):List V:=(xs.drop (HT.sIx xs.length 0 lo)).take (HT.sIx xs.length xs.length hi-HT.sIx xs.length 0 lo)
theorem zmA (xs:List V)(lo hi:Option Int):(zft xs lo hi).length≤xs.length:=by
 unfold zft
 rw[VaK,VaL]
 omega
end
end L2
namespace L2
open PySem PySem.Spec PyProof.Rows
def ixN (n:Nat)(i:Int):Option Nat:=if 0≤i then (if i<n then some i.toNat else none) else if -(n:Int)≤i then some (i+n).toNat else none
def atI {α:Type}(xs:List α)(i:Int):Option α:=(ixN xs.length i).bind λj=>xs[j]?
theorem zpI {n:Nat}{i:Int}{j:Nat}(h:ixN n i=some j):seqIndex? i n=some j∧j<n∧-(n:Int)≤i∧i<n:=by
 unfold ixN at h
 by_cases h0:0≤i
 ·rw[if_pos h0] at h
  by_cases h1:i<n
  ·rw[if_pos h1] at h
   have e:i.toNat=j:=Option.some.inj h
   exact⟨by rw[seqIndex_of h0 h1,e],by omega,by omega,h1⟩
  ·rw[if_neg h1] at h; cases h
 ·rw[if_neg h0] at h
  by_cases h1:-(n:Int)≤i
  ·rw[if_pos h1] at h
   have e:(i+n).toNat=j:=Option.some.inj h
   exact⟨by rw[seqIndex_neg (by omega) h1,e],by omega,h1,by omega⟩
  ·rw[if_neg h1] at h; cases h
theorem zj2 {α:Type}{xs:List α}{i:Int}{v:α}(h:atI xs i=some v):∃j,seqIndex? i xs.length=some j∧xs[j]?=some v∧j<xs.length∧-(xs.length:Int)≤i∧i<xs.length:=by
 unfold atI at h
 cases e:ixN xs.length i with
 | none=>rw[e] at h; cases h
 | some j=>
  rw[e] at h
  obtain⟨h1,h2,h3,h4⟩:=zpI e
  exact⟨j,h1,h,h2,h3,h4⟩
theorem zhi {α:Type}{xs:List α}{j:Nat}{v:α}(h:xs[j]?=some v):atI xs (j:Int)=some v:=by
 have hj:j<xs.length:=(Vac.mp h).1
 have e:ixN xs.length (j:Int)=some j:=by
  unfold ixN
  rw[if_pos (by omega),if_pos (by omega)]; simp
 unfold atI; rw[e]; exact h
def zhF (b:Expr):Prop:=∀o i,subscripted b false o i=operate [o,i] (getItem o i)
def IxR (X:Cx)(r:R2):Prop:=
 ∀(value slice:Expr) (pins:List (Addr×Obj)) (s:Shared) (σ:St) (H:Hp) (x y:V) (v u:Value) (Q:VK),Inv X pins σ H s→zal x v→zal y u→r x y H Q→
  subscripted slice false v u=operate [v,u] (getItem v u)→wpAny (model X.prog X.w) X.A (subscriptTail value slice v u) (EP X pins σ Q) X.xe s
def MtR (X:Cx)(id:String)(r:V→List V→Hp→VK→Prop):Prop:=
 ∀(pins:List (Addr×Obj)) (s:Shared) (σ:St) (H:Hp) (x:V) (xs:List V) (v:Value) (us:List Value) (Q:VK),Inv X pins σ H s→zal x v→zah xs us→r x xs H Q→
  wpAny (model X.prog X.w) X.A (call (.builtin id) (v::us)) (EP X pins σ Q) X.xe s
section
variable {X:Cx}{a b:Expr}{ta tb:TE}{pos:Pos}
theorem IxR.or {r r':R2}(h:IxR X r)(h':IxR X r'):IxR X (λx y H Q=>r x y H Q∨r' x y H Q):=by
 intro value slice pins s σ H x y v u Q I rx ry q hs
 rcases q with q | q
 ·exact h value slice pins s σ H x y v u Q I rx ry q hs
 ·exact h' value slice pins s σ H x y v u Q I rx ry q hs
theorem MtR.or {id:String}{r r':V→List V→Hp→VK→Prop}(h:MtR X id r)(h':MtR X id r'):MtR X id (λx xs H Q=>r x xs H Q∨r' x xs H Q):=by
 intro pins s σ H x xs v us Q I rx rs q
 rcases q with q | q
 ·exact h pins s σ H x xs v us Q I rx rs q
 ·exact h' pins s σ H x xs v us Q I rx rs q
theorem pe_ix {r:R2}(hr:IxR X r)(ha:PE X a ta)(hb:PE X b tb)(hs:zhF b):PE X (.Subscript a b pos) (tOp r ta tb):=by
 intro pins s σ H Q I h
 exact Subscript_ (zhK ha hb I h λv u s2 x y H2 I2 rx ry q=>hr a b pins s2 σ H2 x y v u Q I2 rx ry q (hs _ _))
def rIxL (K:PySem.W.Frag):R2:=λx y H Q=>∃p xs i v,x=.ref p∧y=.int i∧SqL K H p xs∧atI xs i=some v∧Q v H
def rIxT (K:PySem.W.Frag):R2:=λx y H Q=>∃p xs i v,x=.ref p∧y=.int i∧SqT K H p xs∧atI xs i=some v∧Q v H
theorem zsd:IxR X (rIxL X.K):=by
 intro value slice pins s σ H x y v u Q I rx ry h hs
 obtain⟨p,xs,i,z,rfl,rfl,hq,he,q⟩:=h
 cases rx
 obtain⟨t,rfl⟩:=ry
 obtain⟨its,r,pl,hz⟩:=I.list hq
 obtain⟨j,h1,h2,h3,h4,h5⟩:=zj2 he
 obtain⟨w,ew,rw'⟩:=r.get h2
 have hl:=r.length
 have hn:=zg7
 have fin:EP X pins σ Q w s:=⟨z,H,I,rw',q⟩
 by_cases h0:0≤i
 ·have hj:i.toNat=j:=by
   rw[seqIndex_of h0 h5] at h1
   exact Option.some.inj h1
  exact item_listR pl.isList h0 (by omega) (by rw[hj]; simpa using ew) fin hs
 ·have hj:(i+(its.toArray.size:Int)).toNat=j:=by
   rw[seqIndex_neg (by omega) h4] at h1
   rw[Vai,← hl]
   exact Option.some.inj h1
  exact subscriptTail_builtinR (x:=w) pl.isList.typeIs slot_list_getitem.lookup
   (wpAny_getItem_list_neg (Q:=λr s'=>r=w∧EP X pins σ Q r s') pl.isList (by omega) (by rw[Vai] <;> omega) (by omega) (by rw[hj]; simpa using ew) ⟨rfl,fin⟩) hs
theorem zrE:IxR X (rIxT X.K):=by
 intro value slice pins s σ H x y v u Q I rx ry h hs
 obtain⟨p,xs,i,z,rfl,rfl,hq,he,q⟩:=h
 cases rx
 obtain⟨t,rfl⟩:=ry
 obtain⟨its,r,pl,hz⟩:=I.tuple hq
 obtain⟨j,h1,h2,h3,h4,h5⟩:=zj2 he
 obtain⟨w,ew,rw'⟩:=r.get h2
 have hl:=r.length
 have hn:=zg7
 have fin:EP X pins σ Q w s:=⟨z,H,I,rw',q⟩
 exact subscriptTail_builtinR (x:=w) pl.typeIs slot_tuple_getitem.lookup
  (getItem_tuple (j:=j) (Q:=λr s'=>r=w∧EP X pins σ Q r s') pl (by omega) (by omega) (by rw[Vai,← hl]; exact h1) (by simpa using ew) ⟨rfl,fin⟩) hs
theorem Inv.lst {pins:List (Addr×Obj)}{σ:St}{H:Hp}{s:Shared}{p:Addr}{xs:List V}(I:Inv X pins σ H s)(h:H p=some (.lst xs)):
  ∃(its:List Value) (n:Nat),zah xs its∧s.heap.get? p=some { cls:=.type "list",data:=.seq its.toArray n }∧xs.length≤sizeLine:=by
 obtain⟨z,its,n,r,e⟩:=I.hok p _ h
 exact⟨its,n,r,e,z⟩
theorem zpg (lo hi:Option Int)(n:Nat):(sliceBounds lo hi none n).1=((HT.sIx n 0 lo:Nat):Int)∧(sliceBounds lo hi none n).2.1=((HT.sIx n n hi:Nat):Int)∧(sliceBounds lo hi none n).2.2=1:=by
 refine⟨?_,?_,rfl⟩
 ·cases lo with
  | none=>simp[sliceBounds,HT.sIx]
  | some i=>
   simp only[sliceBounds,HT.sIx,Option.getD_none,show (1:Int) > 0 by decide,if_true]
   by_cases h:i<0
   ·simp only[h,if_true] <;> omega
   ·simp only[h,if_false] <;> omega
 ·cases hi with
  | none=>simp[sliceBounds,HT.sIx]
  | some i=>
   simp only[sliceBounds,HT.sIx,Option.getD_none,show (1:Int) > 0 by decide,if_true]
   by_cases h:i<0
   ·simp only[h,if_true] <;> omega
   ·simp only[h,if_false] <;> omega
theorem zou (its:List Value)(lo hi:Option Int):slicePick its.toArray lo hi none=((its.drop (HT.sIx its.length 0 lo)).take (HT.sIx its.length its.length hi-HT.sIx its.length 0 lo)).toArray:=by
 obtain⟨h1,h2,h3⟩:=zpg lo hi its.toArray.size
 unfold slicePick
 rw[h1,h2,h3]
 simp only[sliceRange_one,pick_run,Vai] <;> rfl
def rSlL (K:PySem.W.Frag):V→Option Int→Option Int→Hp→VK→Prop:=λx lo hi H Q=>∃a xs,x=.ref a∧SqL K H a xs∧∀p,H p=none→Q (.ref p) (upd H p (.lst (zft xs lo hi)))
theorem znC:SlR X (rSlL X.K):=by
 intro pins s σ H x v vl vu lo hi sl Q I rx hs pl pu h
 obtain⟨a,xs,rfl,hx,q⟩:=h
 cases rx
 obtain⟨its,r,ht,hz⟩:=I.list hx
 have hlen:=r.length
 refine⟨"list",_,slot_list_getitem.lookup,ht.isList.typeIs,?_⟩
 refine wpAny_getItem_list_slice ht.isList hs pl pu .none (by simp) ?_ (by rw[Vai] <;> omega)
 rw[zou,← hlen]
 refine⟨.ref s.heap.objs.size,_,I.laid (t':=s.toks) (o:=.lst (zft xs lo hi)) (λb ob q=>Heap.get?_push_of_some _ q) (Vaa _) ?_,rfl,q _ (I.hok.fresh (Vaa _))⟩
 exact⟨Vao (zmA xs lo hi) hz,_,0,(r.drop (HT.sIx xs.length 0 lo)).take (HT.sIx xs.length xs.length hi-HT.sIx xs.length 0 lo),Heap.get?_push_size _ rfl⟩
def zcn:V→Bool
 | .non=>true
 | .bl _=>true
 | .int _=>true
 | .str _=>true
 | _=>false
def eqV:V→V→Bool
 | .non,.non=>true
 | .bl a,.bl b=>a==b
 | .bl a,.int b=>(if a then 1 else 0)==b
 | .int a,.bl b=>a==(if b then 1 else 0)
 | .int a,.int b=>a==b
 | .str a,.str b=>a==b
 | _,_=>false
theorem zkV {A:Around}{s:Shared}{y x:V}{u v:Value}(ry:zal y u)(rx:zal x v)(fy:zcn y=true)(fx:zcn x=true):SeqAt.EqAt A s u v (eqV y x):=by
 cases y with
 | non=>
  cases ry
  cases x with
  | non=>cases rx; exact SeqAt.EqAt.same _
  | bl b=>cases rx; exact SeqAt.EqAt.none_bool b
  | int b=>obtain⟨t,rfl⟩:=rx; exact SeqAt.EqAt.none_int b t
  | str b=>obtain⟨t,rfl⟩:=rx; exact SeqAt.EqAt.none_str b t
  | _=>exact absurd (show false=true from fx) Vae
 | bl a=>
  cases ry
  cases x with
  | non=>cases rx; exact SeqAt.EqAt.bool_none a
  | bl b=>cases rx; exact SeqAt.EqAt.bool_bool a b
  | int b=>obtain⟨t,rfl⟩:=rx; exact SeqAt.EqAt.bool_int a b t
  | str b=>obtain⟨t,rfl⟩:=rx; exact SeqAt.EqAt.bool_str a b t
  | _=>exact absurd (show false=true from fx) Vae
 | int a=>
  obtain⟨t',rfl⟩:=ry
  cases x with
  | non=>cases rx; exact SeqAt.EqAt.int_none a t'
  | bl b=>cases rx; exact SeqAt.EqAt.int_bool a t' b
  | int b=>obtain⟨t,rfl⟩:=rx; exact SeqAt.EqAt.int_int a t' b t
  | str b=>obtain⟨t,rfl⟩:=rx; exact SeqAt.EqAt.int_str a t' b t
  | _=>exact absurd (show false=true from fx) Vae
 | str a=>
  obtain⟨t',rfl⟩:=ry
  cases x with
  | non=>cases rx; exact SeqAt.EqAt.str_none a t'
  | bl b=>cases rx; exact SeqAt.EqAt.str_bool a t' b
  | int b=>obtain⟨t,rfl⟩:=rx; exact SeqAt.EqAt.str_int a t' b t
  | str b=>obtain⟨t,rfl⟩:=rx; exact SeqAt.EqAt.str_str a t' b t
  | _=>exact absurd (show false=true from fx) Vae
 | _=>exact absurd (show false=true from fy) Vae
def eqU (x:V)(u:Value):Bool:=match u with
 | .none=>eqV .non x
 | .bool b=>eqV (.bl b) x
 | .int i _=>eqV (.int i) x
 | .str z _=>eqV (.str z) x
 | _=>false
theorem zj4 {x y:V}{u:Value}(r:zal y u)(f:zcn y=true):eqU x u=eqV y x:=by
 cases y with
 | non=>cases r; rfl
 | bl b=>cases r; rfl
 | int i=>obtain⟨t,rfl⟩:=r; rfl
 | str z=>obtain⟨t,rfl⟩:=r; rfl
 | _=>exact absurd (show false=true from f) Vae
theorem zgt {x:V}:∀ {xs:List V} {us:List Value},zah xs us→xs.all zcn=true→us.any (eqU x)=xs.any λy=>eqV y x
 | _,_,.nil,_=>rfl
 | y::xs,u::us,.cons r t,f=>by
  rw[List.all_cons,Vap] at f
  rw[VaF,VaF,zj4 r f.1,zgt t f.2]
theorem zf2 {A:Around}{s:Shared}{x:V}{v:Value}(rx:zal x v)(fx:zcn x=true):∀ {xs:List V} {us:List Value},zah xs us→xs.all zcn=true→∀u∈us,SeqAt.EqAt A s u v (eqU x u)
 | _,_,.nil,_=>λu hu=>by cases hu
 | y::xs,u::us,.cons r t,f=>λu' hu=>by
  rw[List.all_cons,Vap] at f
  rcases Vad.mp hu with rfl | hu
  ·rw[zj4 r f.1]; exact zkV r rx f.1 fx
  ·exact zf2 rx fx t f.2 u' hu
def inV (x:V)(xs:List V):Bool:=xs.any λy=>eqV y x
def rIn (K:PySem.W.Frag)(neg:Bool):R2:=λx y H Q=>∃p xs,y=.ref p∧(SqL K H p xs∨SqT K H p xs)∧zcn x=true∧xs.all zcn=true∧Q (.bl (if neg then !inV x xs else inV x xs)) H
theorem zrr:OpR X (compareOp .In) (rIn X.K false):=by
 intro pins s σ H x y v u Q I rx ry h
 obtain⟨p,xs,rfl,hq,fx,fs,q⟩:=h
 cases ry
 rcases hq with hq | hq
 ·obtain⟨its,r,pl,hz⟩:=I.list hq
  refine SeqAt.in_listAt (eqU x) pl.isList (λw hw=>zf2 rx fx r fs w (by simpa using hw)) ⟨.bl _,H,I,rfl,?_⟩
  rw[show its.toArray.any (eqU x)=its.any (eqU x) by simp,zgt r fs]
  exact q
 ·obtain⟨its,r,pl,hz⟩:=I.tuple hq
  refine SeqAt.in_tupleAt (eqU x) pl (λw hw=>zf2 rx fx r fs w (by simpa using hw)) ⟨.bl _,H,I,rfl,?_⟩
  rw[show its.toArray.any (eqU x)=its.any (eqU x) by simp,zgt r fs]
  exact q
theorem zqB:OpR X (compareOp .NotIn) (rIn X.K true):=by
 intro pins s σ H x y v u Q I rx ry h
 obtain⟨p,xs,rfl,hq,fx,fs,q⟩:=h
 cases ry
 rcases hq with hq | hq
 ·obtain⟨its,r,pl,hz⟩:=I.list hq
  refine SeqAt.notIn_listAt (eqU x) pl.isList (λw hw=>zf2 rx fx r fs w (by simpa using hw)) ⟨.bl _,H,I,rfl,?_⟩
  rw[show its.toArray.any (eqU x)=its.any (eqU x) by simp,zgt r fs]
  exact q
 ·obtain⟨its,r,pl,hz⟩:=I.tuple hq
  refine SeqAt.notIn_tupleAt (eqU x) pl (λw hw=>zf2 rx fx r fs w (by simpa using hw)) ⟨.bl _,H,I,rfl,?_⟩
  rw[show its.toArray.any (eqU x)=its.any (eqU x) by simp,zgt r fs]
  exact q
theorem zpL:zaL X (.builtin "len") (λxs H Q=>∃p ys,xs=[.ref p]∧(SqL X.K H p ys∨SqT X.K H p ys)∧Q (.int ys.length) H):=by
 intro pins s σ H xs us Q I r h
 obtain⟨p,ys,rfl,hq,q⟩:=h
 obtain⟨u,rfl,rx⟩:=zbz r
 cases rx
 have hn:=zg7
 rcases hq with hq | hq
 ·obtain⟨its,r',pl,hz⟩:=I.list hq
  have hlen:=r'.length
  exact Calls.call_len_list pl.isList (by simp only[Vai] <;> omega) ⟨.int ys.length,H,I.tok _,⟨s.toks+1,by rw[Vai,hlen]⟩,q⟩
 ·obtain⟨its,r',pl,hz⟩:=I.tuple hq
  have hlen:=r'.length
  exact len_tuple pl (by simp only[Vai] <;> omega) ⟨.int ys.length,H,I.tok _,⟨s.toks+1,by rw[Vai,hlen]⟩,q⟩
theorem zmz:zaL X (.builtin "len") (λxs H Q=>∃z,xs=[.str z]∧z.length≤sizeLine∧Q (.int z.length) H):=by
 intro pins s σ H xs us Q I r h
 obtain⟨z,rfl,hz,q⟩:=h
 obtain⟨u,rfl,t,rfl⟩:=zbz r
 have hn:=zg7
 exact len_str (by omega) ⟨.int z.length,H,I.tok _,⟨_,rfl⟩,q⟩
theorem zaL.or {f:Value}{r r':List V→Hp→VK→Prop}(h:zaL X f r)(h':zaL X f r'):zaL X f (λxs H Q=>r xs H Q∨r' xs H Q):=by
 intro pins s σ H xs us Q I rs q
 rcases q with q | q
 ·exact h pins s σ H xs us Q I rs q
 ·exact h' pins s σ H xs us Q I rs q
theorem zru:zaL X (.type "list") (λxs H Q=>∃p ys,xs=[.ref p]∧(SqL X.K H p ys∨SqT X.K H p ys)∧∀l,H l=none→Q (.ref l) (upd H l (.lst ys))):=by
 intro pins s σ H xs us Q I r h
 obtain⟨p,ys,rfl,hq,q⟩:=h
 obtain⟨u,rfl,rx⟩:=zbz r
 cases rx
 have fin:∀(its:List Value),zah ys its→ys.length≤sizeLine→∀(h':Heap) (c':Nat),(∀b o',s.heap.get? b=some o'→h'.get? b=some o')→
   h'.get? s.heap.objs.size=some { cls:=.type "list",dict:=none,data:=.seq its.toArray c',slots:=#[] }→EP X pins σ Q (.ref s.heap.objs.size) { s with heap:=h' }:=λits r' hz h' c' kp e=>
  ⟨.ref s.heap.objs.size,_,I.laid (t':=s.toks) kp (Vaa _) (show zba X.prog X.w _ h' _ (.lst ys) from ⟨hz,its,c',r',e⟩),rfl,q _ (I.hok.fresh (Vaa _))⟩
 rcases hq with hq | hq
 ·obtain⟨its,r',pl,hz⟩:=I.list hq
  have hlen:=r'.length
  obtain⟨o,ho,hc,n,hd⟩:=pl.isList
  exact call_list_seq p (.inl rfl) ho hc hd (λh' c' kp e=>fin its r' hz h' c' kp e) (by simp only[Vai] <;> omega)
 ·obtain⟨its,r',pl,hz⟩:=I.tuple hq
  have hlen:=r'.length
  obtain⟨o,ho,hc,n,hd⟩:=pl
  exact call_list_seq p (.inr rfl) ho hc hd (λh' c' kp e=>fin its r' hz h' c' kp e) (by simp only[Vai] <;> omega)
def tyV (K:PySem.W.Frag)(T:String)(x:V)(H:Hp):Prop:=match x with
 | .str _=>T="str"
 | .int _=>T="int"
 | .ref p=>(T="list"∧∃xs,SqL K H p xs)∨(T="tuple"∧∃o,K.lookup p=some o∧o.cls=.type "tuple"∧o.dict=none)∨
   (T="dict"∧((∃kvs,H p=some (.dK kvs))∨∃kvs,H p=some (.dT kvs)))∨(T="set"∧∃S n,H p=some (.set S n))
 | _=>False
theorem zoS {pins:List (Addr×Obj)}{σ:St}{H:Hp}{s:Shared}{T:String}{x:V}{v:Value}(I:Inv X pins σ H s)(r:zal x v)(ty:tyV X.K T x H):
  s.TypeIs v T∧∀a,v=.ref a→∃ob,s.heap.get? a=some ob∧ob.dict=none:=by
 cases x with
 | str z=>
  obtain⟨t,rfl⟩:=r
  cases (show T="str" from ty)
  exact⟨typeIs_str s z t,λ_ e=>nomatch e⟩
 | int i=>
  obtain⟨t,rfl⟩:=r
  cases (show T="int" from ty)
  exact⟨typeIs_int s i t,λ_ e=>nomatch e⟩
 | ref p=>
  cases r
  rcases ty with ⟨rfl,xs,hq⟩ | ⟨rfl,o,hk,hc,hd⟩ | ⟨rfl,hk⟩ | ⟨rfl,S,n,hk⟩
  ·obtain⟨its,_,pl,_⟩:=I.list hq
   refine⟨pl.isList.typeIs,λa e=>?_⟩
   cases e
   obtain⟨o,n,e,c,hd,_⟩:=pl
   exact⟨o,e,hd⟩
  ·refine⟨⟨o,I.kIn p o hk,hc⟩,λa e=>?_⟩
   cases e
   exact⟨o,I.kIn _ o hk,hd⟩
  ·have z:∃o,s.heap.get? p=some o∧o.ExactDict:=by
    rcases hk with ⟨kvs,hk⟩ | ⟨kvs,hk⟩
    ·obtain⟨_,_,_,_,o,_,_,e,ex,_⟩:=I.hok p _ hk
     exact⟨o,e,ex⟩
    ·obtain⟨_,_,_,_,o,_,_,e,ex,_⟩:=I.hok p _ hk
     exact⟨o,e,ex⟩
   obtain⟨o,e,ex⟩:=z
   refine⟨⟨o,e,ex.1⟩,λa e2=>?_⟩
   cases e2
   exact⟨o,e,ex.2.1⟩
  ·obtain⟨o,_,_,_,e,ex,_⟩:=I.hok p _ hk
   refine⟨⟨o,e,ex.1⟩,λa e2=>?_⟩
   cases e2
   exact⟨o,e,ex.2.1⟩
 | _=>exact False.elim ty
def tBM (K:PySem.W.Frag)(T:String)(r:V→List V→Hp→VK→Prop)(to:TE)(t:TA):TE:=λσ H Q=>to σ H λx H1=>tyV K T x H1∧t σ H1 λxs H2=>r x xs H2 Q
variable {o e:Expr}{es:List Expr}{to:TE}{t:TA}{name:Str}{apos cpos:Pos}{T id:String}{r:V→List V→Hp→VK→Prop}
theorem zeP (pa:PlainAttrs T)(slot:Slot T name id)(hty:typeOf (.builtin id)=pure (.type "method_descriptor"))(hm:MtR X id r)(ho:PE X o to)(ha:PA X (e::es) t)
  (hbase:attributeBase o name X.env (eval o X.env)=eval o X.env:=by rfl)
  (hfew:((backTo cpos (starEach (e::es) X.env)).all (λx=>!x.1)&&(backToKw cpos (keywordEach [] X.env)).all (λx=>x.1.isSome)
  &&decide ((e::es).length+([]:List Keyword).length+(if ([]:List Keyword).isEmpty then 0 else 1)<30))=true:=by rfl)
  (hline:(apos.endLine==cpos.line)=true:=by rfl)(hs:starEach (e::es) X.env=(false,eval e X.env)::starEach es X.env:=by rfl)(hplain:(backTo cpos (starEach es X.env)).any (·.1)=false:=by rfl):
  PE X (.Call (.Attribute o name apos) (e::es) [] cpos) (tBM X.K T r to t):=by
 intro pins s σ H Q I h
 refine wpAny_Call_method_late hbase hfew hline rfl (thn (ho pins s σ H _ I h) λv s1 ⟨x,H1,I1,r1,ty,q1⟩=>?_)
 obtain⟨h1,h2⟩:=zoS I1 r1 ty
 refine⟨T,id,pa,slot,hty,h1,h2,?_⟩
 have hA:=ha cpos pins s1 σ H1 _ I1 q1
 rw[hs] at hA ⊢
 refine Calls.callWith_builtin (by show (false||(backTo cpos (starEach es X.env)).any (·.1))=false; rw[hplain] <;> rfl) (Calls.evalArgs_plain ?_)
 exact thn hA λus s2 ⟨vs,H2,I2,r2,q2⟩=>hm pins s2 σ H2 x vs v us Q I2 r1 r2 q2
end
end L2
namespace L2
open PySem PySem.Spec PyProof.Rows
def MtM (X:Cx)(id:String)(r:V→List V→Hp→VK→Prop):Prop:=
 ∀(pins:List (Addr×Obj)) (s:Shared) (σ:St) (H:Hp) (x:V) (xs:List V) (v:Value) (us:List Value) (Q:VK),Inv X pins σ H s→zal x v→zah xs us→r x xs H Q→
  wpAny (model X.prog X.w) X.A (call (.builtin id) (v::us)) (EP X pins σ Q) X.xe s
theorem zah.one:∀ {x:V} {us:List Value},zah [x] us→∃u,us=[u]∧zal x u
 | _,_,.cons r .nil=>⟨_,rfl,r⟩
theorem zah.two:∀ {x y:V} {us:List Value},zah [x,y] us→∃u v,us=[u,v]∧zal x u∧zal y v
 | _,_,_,.cons r (.cons q .nil)=>⟨_,_,rfl,r,q⟩
theorem zah.zero:∀ {us:List Value},zah [] us→us=[]
 | _,.nil=>rfl
theorem zah.dropLast {xs:List V}{us:List Value}(h:zah xs us):zah xs.dropLast us.dropLast:=by
 induction h with
 | nil=>exact .nil
 | cons r t ih=>
  cases t with
  | nil=>exact .nil
  | cons q t'=>exact .cons r ih
theorem zah.reverse {xs:List V}{us:List Value}(h:zah xs us):zah xs.reverse us.reverse:=by
 induction h with
 | nil=>exact .nil
 | cons r t ih=>rw[List.reverse_cons,List.reverse_cons]; exact zah.append ih (.cons r .nil)
theorem zah.rep {xs:List V}{us:List Value}(h:zah xs us):∀k:Nat,zah (List.replicate k xs).flatten (List.replicate k us).flatten
 | 0=>.nil
 | k+1=>by
  rw[Vas,Vas,Vav,Vav]
  exact zah.append h (zah.rep h k)
theorem zmn (its:List Value):∀(k:Nat) (acc:List Value),
  List.foldl (λx1 x2=>x1++x2) acc.toArray (List.replicate k its.toArray)=(acc++(List.replicate k its).flatten).toArray
 | 0,acc=>by simp
 | k+1,acc=>by
  have e:acc.toArray++its.toArray=(acc++its).toArray:=by simp
  have e2:(acc++its)++(List.replicate k its).flatten=acc++(List.replicate (k+1) its).flatten:=by
   rw[Vas,Vav,Vaw]
  rw[← e2,← zmn its k (acc++its),← e,Vas,List.foldl_cons]
section
variable {X:Cx}{pins:List (Addr×Obj)}{σ:St}{H:Hp}{s:Shared}{l b:Addr}{xs ys zs:List V}
theorem Inv.lset {its its':List Value}{n:Nat}{f:Array Value→Array Value}{t':Nat}(I:Inv X pins σ H s)(hH:H l=some (.lst xs))
  (e:s.heap.get? l=some { cls:=.type "list",data:=.seq its.toArray n })(hf:f its.toArray=its'.toArray)(hv:zah ys its')(hz:ys.length≤sizeLine):
  Inv X pins σ (upd H l (.lst ys)) { s with heap:=s.heap.update l (Obj.mapSeq f),toks:=t' }:=by
 have q:=PySem.IsL.update e f
 rw[hf] at q
 refine I.write (x:=l) (e:=l) (by rw[hH]; exact trivial) (.inl rfl) (λb' u hb hu=>(Heap.get?_update_other s.heap (Obj.mapSeq f) (Ne.symm hb)).trans hu) ⟨_,q⟩ ?_
 exact⟨hz,its',_,hv,q⟩
theorem Inv.lnew {its:List Value}{t':Nat}(I:Inv X pins σ H s)(hv:zah ys its)(hz:ys.length≤sizeLine):
  Inv X pins σ (upd H s.heap.objs.size (.lst ys)) { s with heap:=s.heap.push { cls:=.type "list",data:=.seq its.toArray },toks:=t' }:=
 I.laid (λ_ _ q=>Heap.get?_push_of_some _ q) (Vaa _) ⟨hz,its,0,hv,Heap.get?_push_size _ rfl⟩
theorem Inv.fresh (I:Inv X pins σ H s):H s.heap.objs.size=none:=I.hok.fresh (Vaa _)
theorem Inv.lstM (I:Inv X pins σ H s)(hH:H l=some (.lst xs)):xs.length≤sizeLine∧∃(its:List Value) (n:Nat),zah xs its∧xs.length=its.length∧s.heap.get? l=some { cls:=.type "list",data:=.seq its.toArray n }:=by
 obtain⟨z,its,n,r,e⟩:=I.hok l _ hH
 exact⟨z,its,n,r,r.length,e⟩
theorem znt {n:Nat}(h:n≤sizeLine):Builtin.List.listTooLong n=false:=by
 unfold Builtin.List.listTooLong
 exact decide_eq_false (by omega)
end
section
variable {X:Cx}
def zrd:V→List V→Hp→VK→Prop:=λx vs H Q=>∃l xs y,x=.ref l∧vs=[y]∧H l=some (.lst xs)∧xs.length<sizeLine∧Q .non (upd H l (.lst (xs++[y])))
theorem zjY:MtM X "list.append" zrd:=by
 intro pins s σ H x vs v us Q I rx rv h
 obtain⟨l,xs,y,rfl,rfl,hH,hz,q⟩:=h
 cases rx
 obtain⟨u,rfl,ru⟩:=rv.one
 obtain⟨z,its,n,r,hl,e⟩:=I.lstM hH
 refine call_meets F.slot_list_append ⟨_,e,rfl⟩ F.entry_list_append (F.args_list_append_2 _ _) (PySem.list_append l its.toArray n u (by rw[Vai]; omega)) ⟨e,?_⟩
 refine⟨.non,_,I.lset (its':=its++[u]) hH e (by simp) (r.append (.cons ru .nil)) ?_,rfl,q⟩
 rw[Vah,List.length_singleton]
 omega
def rCat:R2:=λx y H Q=>∃l b xs zs,x=.ref l∧y=.ref b∧H l=some (.lst xs)∧H b=some (.lst zs)∧xs.length+zs.length≤sizeLine∧∀p,H p=none→Q (.ref p) (upd H p (.lst (xs++zs)))
theorem znZ:OpR X (binaryOp .Add) rCat:=by
 intro pins s σ H x y v u Q I rx ry h
 obtain⟨l,b,xs,zs,rfl,rfl,hH,hB,hz,q⟩:=h
 cases rx
 cases ry
 obtain⟨z,its,n,r,hl,e⟩:=I.lstM hH
 obtain⟨z2,its2,n2,r2,hl2,e2⟩:=I.lstM hB
 refine PySem.P.add_list e e2 ?_ (by rw[Vai,Vai]; omega)
 have ea:its.toArray++its2.toArray=(its++its2).toArray:=by simp
 rw[ea]
 exact⟨.ref _,_,I.lnew (t':=s.toks) (r.append r2) (by rw[Vah]; omega),rfl,q _ I.fresh⟩
def rRep:R2:=λx y H Q=>∃l k xs,x=.ref l∧y=.int k∧H l=some (.lst xs)∧-(2^63)≤k∧k<2^63∧xs.length*k.toNat≤sizeLine∧
 ∀p,H p=none→Q (.ref p) (upd H p (.lst (List.replicate k.toNat xs).flatten))
theorem zq4 {α:Type}(xs:List α)(k:Nat):(List.replicate k xs).flatten.length=k*xs.length:=by
 induction k with
 | zero=>simp
 | succ k ih=>rw[Vas,Vav,Vah,ih,Nat.succ_mul,Nat.add_comm]
theorem zr5:OpR X (binaryOp .Mult) rRep:=by
 intro pins s σ H x y v u Q I rx ry h
 obtain⟨l,k,xs,rfl,rfl,hH,h1,h2,hz,q⟩:=h
 cases rx
 obtain⟨t,rfl⟩:=ry
 obtain⟨z,its,n,r,hl,e⟩:=I.lstM hH
 have hlen:its.toArray.size*k.toNat≤sizeLine:=by rw[Vai,← hl]; exact hz
 have hcap:¬ its.toArray.size*k.toNat > (2^63-1)/8:=by
  have:(sizeLine:Nat)≤(2^63-1)/8:=by decide
  omega
 have hfit:¬ (!Builtin.List.listFitsIndex k)=true:=by
  rw[fitsIndex_both h1 h2]
  exact Vae
 have hlong:¬ Builtin.List.listTooLong (its.toArray.size*k.toNat)=true:=by
  rw[znt hlen]
  exact Vae
 have hnew:List.foldl (λx1 x2=>x1++x2) #[] (List.replicate (if its.toArray.isEmpty=true then 0 else k.toNat) its.toArray)=(List.replicate k.toNat its).flatten.toArray:=by
  have f0:∀m:Nat,List.foldl (λx1 x2=>x1++x2) #[] (List.replicate m its.toArray)=(List.replicate m its).flatten.toArray:=λm=>by
   have:=zmn its m []
   rw[List.nil_append] at this
   exact this
  rw[f0]
  cases its with
  | nil=>simp
  | cons a r'=>rw[if_neg (by simp)]
 refine wpAny_binaryOp_repeat_ref (T:="list") (U:="int") (by decide) ⟨_,e,rfl⟩ (λs'=>typeIs_int s' k t) noFill_list_mul F.fills_int_mul F.slot_int_rmul repeat_list F.slot_int_index.lookup
  (call_meets F.slot_int_rmul (typeIs_int s k t) F.entry_int_rmul (F.args_int_rmul_2 _ _) (int___rmul___int_list k t l its.toArray n)
   ⟨e,rfl,⟨_,e,rfl⟩,call_meets F.slot_list_mul ⟨_,e,rfl⟩ F.entry_list_mul (F.args_list_mul_2 _ _) (AutoListH.list___mul___list_int_3 l its.toArray n k t hfit hcap hlong) ⟨e,?_⟩⟩)
 rw[hnew]
 exact⟨.ref _,_,I.lnew (t':=s.toks) (r.rep k.toNat) (by rw[zq4,Nat.mul_comm]; exact hz),rfl,q _ I.fresh⟩
end
section
variable {prog:Program}{w:World}{A:Around}{E:Value→Shared→Prop}{s:Shared}
set_option maxRecDepth 100000 in
end
section
variable {X:Cx}
end
end L2
namespace Att
open PySem PySem.W PySem.Calls PyProof.Rows
theorem zpX {P:Params}{h:Heap}:∀(ns:List Int) (vs:List Value),WellAll P h vs (ns.map WData.int)→IntsAre vs ns:=by
 intro ns
 induction ns with
 | nil=>
  intro vs w
  rw[List.map_nil] at w
  cases w
  exact .nil
 | cons n ns ih=>
  intro vs w
  rw[Vaf] at w
  cases w with
  | cons a b=>
   cases a
   exact .cons _ _ (ih _ b)
theorem zp3 {l:OpenLaw}{n:Nat}(hn:l.most=some n){P:Params}{h:Heap}{args:List WData}{vals:List Value}
  (hpre:l.row.toRowW.claim.pre args=true)(hwl:WellAll P h vals args):
  ∃a vs ns,vals=[Value.ref a]∧args=[WData.list (ns.map WData.int)]∧h.get? a=some { cls:=.type "list",data:=.seq vs.toArray }∧IntsAre vs ns∧ns.length≤n:=by
 have hsh:WShape.hasAll [] args [.list .int]=true:=(pre_splitW hpre).1
 have hc:l.pre.holds [] { args:=args }=true:=(pre_splitW hpre).2
 obtain⟨d,r,rfl,h1,h2⟩:=hasAllW_cons hsh
 obtain rfl:=hasAllW_nil h2
 obtain⟨xs,rfl,h3⟩:=hasW_list h1
 obtain⟨ns,rfl⟩:=items_int h3
 have hlen:ns.length≤n:=by
  unfold OpenLaw.pre at hc
  have h4:(WTm.not (.lt (.lit (.int (n:Int))) (.len (.arg 0)))).holds [] { args:=[.list (ns.map .int)] }=true:=by
   have h4:=(holds_andW hc).1
   rw[hn] at h4
   exact h4
  have h5:=condW_of h4 (w_not (w_lt w_lit (w_len_list (w_arg rfl))))
  rw[Vab] at h5
  refine Nat.le_of_not_lt λq=>?_
  have q':(n:Int)<((ns.length:Nat):Int):=by omega
  first
   | (rw[decide_eq_true q'] at h5; exact absurd h5 (by decide))
   | (simp at h5; omega)
 cases hwl with
 | cons w1 w2=>
  cases w2
  cases w1 with
  | list ho hall=>exact⟨_,_,ns,rfl,rfl,ho,zpX ns _ hall,hlen⟩
theorem zmD (l:OpenLaw)(args:List WData):l.row.toRowW.claim.post args (.bool true) args=true:=
 postW_of (r:=l.row.toRowW) (X:=(true==true))
  (show WShape.has [] (.bool true) .bool=true by first | rfl | decide | simp[WShape.has,WShape.arms,WShape.armsAll])
  (show (WTm.eq .res (.lit (.bool true))).value [] { args:=args,res:=some (.bool true),after:=args }=some (.bool (true==true)) from w_eq_bool (w_res rfl) w_lit) rfl
theorem attach_call {l:OpenLaw}{n:Nat}{q:Program}{loose:List Str}{XP:(Str→Option Value)→Heap→Prop}{YP:World→Heap→Prop}{d:DefRec}
  (hn:l.most=some n)(hdf:d.params.defaults=[])
  (call:∀(w:World) (s₀ s₁:Shared) (mg mb:Str→Option Value) (fa:Addr) (o:Obj) (pm cd doc:Value) (a:Addr) (vs:List Value) (ns:List Int),
   Ground q loose [] XP w s₀ mg mb s₁.heap→YP w s₁.heap→
   s₁.heap.get? fa=some o→o.data=.func (docDef d.name d.params d.body d.scope pm cd doc)→s₁.heap.CodeRec cd d.name→mg d.name=some (.ref fa)→
   s₁.heap.get? a=some { cls:=.type "list",data:=.seq vs.toArray }→IntsAre vs ns→ns.length≤n→s₁.gens=#[]→
   codeAny (model l.prog w) callerA (.call (.ref fa) ⟨[.ref a],[]⟩) (λr s'=>r=.ok (.ret (.bool true))∧OldK s₁.heap s'.heap∧s'.os=s₁.os∧AllBare s'.gens) s₁):
  WalkO q loose XP YP l.row.toRowW d [] (λf vs=>PySem.call f vs):=by
 intro w s₀ s₁ mg mb G Y fa o pm cd doc dV kV ho hd hcd hD hmg hg args vals as hpre hlay hrd hwl hlo
 obtain rfl:dV=.none:=Dflts.none hD hdf
 obtain rfl:kV=.none:=Dflts.noKw hD
 obtain⟨a,vs,ns,rfl,rfl,hobj,hints,hlen⟩:=zp3 hn hpre hwl
 refine enter_call (codeAny_mono (call w s₀ s₁ mg mb fa o pm cd doc a vs ns G Y ho (fd_plain hd) hcd hmg hobj hints hlen hg) λr s' hq=>?_)
 obtain⟨rfl,h2,h3,h4⟩:=hq
 exact⟨.inl ⟨.bool true,.bool true,[],rfl,λ_=>rfl,.bool true,zmD l _,λ_=>⟨List.Pairwise.nil,λ_ hm=>(nomatch hm)⟩⟩,h2,h3,h4⟩
section
variable {prog:Program}{w:World}{A:Around}{E:Value→Shared→Prop}{s:Shared}{K:Frag}
def ledger (h:Heap)(L d:Addr):List (Addr×Obj):=(List.range h.objs.size).filterMap λa=>if a=L∨a=d then none else (h.get? a).map λo=>(a,o)
end
end Att
namespace L2
open PySem PySem.Spec PyProof.Rows
theorem zhb:∀ {vs:List Value} {ns:List Int},IntsAre vs ns→zah (ns.map V.int) vs
 | _,_,.nil=>.nil
 | _,_,.cons n t h=>.cons ⟨t,rfl⟩ (zhb h)
def zfK (H:Hp):Prop:=∀b,H b=none∨∃o xs,H b=some (.frz o (.lst xs))
theorem zoe {P:Program}{w:World}{K:PySem.W.Frag}{mg mb:Str→Option Value}{CX:CXT}{k:Nat}{fa a:Addr}{fd:FuncData}{x:Str}{sp:Sp}{s₁:Shared}{vs:List Value}{ns:List Int}
  (KX:K.In s₁.heap)(hns:s₁.heap.Ns mainGlobals mg)(hb:s₁.heap.Ns builtinsNs mb)(hbb:∀x:Str,x≠"__name__"→mb x=bootBuiltins x)(hlim:s₁.heap.NoLimit)(hg:s₁.gens=#[])
  (ha:s₁.heap.get? a=some { cls:=.type "list",data:=.seq vs.toArray })(hi:IntsAre vs ns)(hl:ns.length≤sizeLine)(hr:zax k callerA)
  (F:∀base:Heap,K.In base→base.Ns mainGlobals mg→zaO P w K mg base CX k fa fd [x] sp)(hbind:∀(s:Shared) (u:Value),BindsTo s fd ⟨[u],[]⟩ [(x,u)])
  (hsp:∀H:Hp,zfK H→SqL K H a (ns.map V.int)→sp [.ref a] H (λv _=>v=.bl true) λ_ _ _=>False)
  (hCX:∀H e s',CX [] H s₁ (λ_ _ _=>False) e s'→False):
  codeAny (model P w) callerA (.call (.ref fa) ⟨[.ref a],[]⟩) (λr s'=>r=.ok (.ret (.bool true))∧OldK s₁.heap s'.heap∧s'.os=s₁.os∧AllBare s'.gens) s₁:=by
 have rv:=zhb hi
 have lenV:=hi.length
 have core:∀H:Hp,zfK H→SqL K H a (ns.map V.int)→HOk P w H s₁.heap→(∀b,H b≠none→b=a)→(H a≠none→K.lookup a=none)→
   codeAny (model P w) callerA (.call (.ref fa) ⟨[.ref a],[]⟩) (λr s'=>r=.ok (.ret (.bool true))∧OldK s₁.heap s'.heap∧s'.os=s₁.os∧AllBare s'.gens) s₁:=by
  intro H hO hS hok hA hK
  have base_of:∀ {b:Addr} {o:Obj},s₁.heap.get? b=some o→H b=none→(zcI s₁.heap H).get? b=some o:=λe n=>zqg e n
  have noA:∀ {b:Addr} {o:Obj} {es:Array DictEntry} {ep:Nat},s₁.heap.get? b=some o→o.data=.dict es ep→H b=none:=λ{b o es ep} e d=>by
   cases q:H b with
   | none=>rfl
   | some u=>
    have e':b=a:=hA b (by rw[q]; simp)
    subst e'
    rw[ha] at e; cases e
    have d':Data.seq vs.toArray _=Data.dict es ep:=d
    cases d'
  have nsK:∀ {b:Addr} {m:Str→Option Value},s₁.heap.Ns b m→(zcI s₁.heap H).Ns b m:=λ{b m} ⟨o,es,ep,e,d,r⟩=>⟨o,es,ep,base_of e (noA e d),d,r⟩
  have hKb:K.In (zcI s₁.heap H):=λb o e=>base_of (KX b o e) (by
   cases q:H b with
   | none=>rfl
   | some u=>
    have e':b=a:=hA b (by rw[q]; simp)
    subst e'
    rw[hK (by rw[q]; simp)] at e; cases e)
  have hM:Mod K mg (zcI s₁.heap H):=⟨hKb,nsK hns,⟨mb,nsK hb,hbb⟩,let ⟨mc,h1,h2⟩:=hlim; ⟨mc,nsK h1,h2⟩⟩
  have e0:zcf P w K mg (zcI s₁.heap H) callerA [] s₁ H:=⟨rfl,hM,λb o e=>zpr e,Nat.le_of_eq (zr0 _ _),trivial,λb hb=>absurd (show b∈([]:List Addr) from hb) (by simp),hok,.of_eq hg⟩
  refine codeAny_mono ((F _ hKb (nsK hns)).run callerA [] s₁ H ⟨[.ref a],[]⟩ [.ref a] [.ref a] _ _ hr e0 (hbind s₁ (.ref a)) (.cons rfl .nil) (hsp H hO hS)) λr s' h=>?_
  cases r with
  | error e=>exact(hCX H e s' h).elim
  | ok fl=>
   cases fl with
   | next=>exact False.elim h
   | brk=>exact False.elim h
   | cont=>exact False.elim h
   | ret u=>
    obtain⟨v,H',os,bare,un,hok',r',q⟩:=h
    have q':v=.bl true:=q
    subst q'
    obtain rfl:u=Value.bool true:=r'
    refine⟨rfl,OldK.of_keep λb o e=>?_,os,bare⟩
    cases q:H b with
    | none=>exact un.keep b o e q (by intro z; exact absurd (show b∈([]:List Addr) from z) (by simp)) (by simp)
    | some u=>
     rcases hO b with z | ⟨ob,xs,z⟩
     ·rw[q] at z; cases z
     ·have z2:=un.frzs b ob _ z
      obtain⟨e1,_⟩:=hok b _ z
      obtain⟨e2,_⟩:=hok' b _ z2
      rw[e] at e1; cases e1
      exact e2
 cases hk:K.lookup a with
 | some o=>
  have e:=KX a o hk
  rw[ha] at e
  cases e
  refine core (λ_=>none) (λ_=>.inl rfl) (.inr ⟨_,vs.toArray,_,hk,rfl,rfl,rfl,by rw[Vai,lenV]; exact hl,by simpa using rv⟩) (λb u z=>by have z':(none:Option HO)=some u:=z; cases z') (λb z=>absurd rfl z) λz=>absurd rfl z
 | none=>
  refine core (λb=>if b=a then some (.frz { cls:=.type "list",data:=.seq vs.toArray } (.lst (ns.map V.int))) else none) (λb=>?_) (.inl (.inr ⟨{ cls:=.type "list",data:=.seq vs.toArray },if_pos rfl⟩)) (λb u z=>?_) (λb z=>?_) λ_=>hk
  ·by_cases hb:b=a
   ·exact .inr ⟨_,_,if_pos hb⟩
   ·exact .inl (if_neg hb)
  ·by_cases hb:b=a
   ·have z':=(if_pos hb).symm.trans z
    cases z'
    subst hb
    exact⟨ha,by rw[Vab]; exact hl,vs,_,rv,ha⟩
   ·have z':=(if_neg hb).symm.trans z
    cases z'
  ·by_cases hb:b=a
   ·exact hb
   ·exact absurd (if_neg hb) z
end L2
namespace L2
open PySem PySem.Spec PyProof.Rows
theorem zn0 {l:PySem.W.OpenLaw}{n k:Nat}{q:Program}{loose:List Str}{XP:(Str→Option Value)→Heap→Prop}{YP:World→Heap→Prop}{d:DefRec}{K:Params→PySem.W.Frag}{CX:World→CXT}{sp:World→Sp}{x:Str}
  (hn:l.most=some n)(hn2:n≤sizeLine)(hdf:d.params.defaults=[])(hr:zax k callerA)
  (hY:∀(w:World) (h:Heap),YP w h→(K w.params).In h)
  (F:∀(w:World) (mg:Str→Option Value) (fa:Addr) (h:Heap),(K w.params).In h→h.Ns mainGlobals mg→mg d.name=some (.ref fa)→
   ∃fd:FuncData,(∀(s:Shared) (u:Value),BindsTo s fd ⟨[u],[]⟩ [(x,u)])∧
    ∀base:Heap,(K w.params).In base→base.Ns mainGlobals mg→zaO l.prog w (K w.params) mg base (CX w) k fa fd [x] (sp w))
  (hsp:∀(w:World) (H:Hp) (a:Addr) (ns:List Int),ns.length≤n→zfK H→SqL (K w.params) H a (ns.map V.int)→sp w [.ref a] H (λv _=>v=.bl true) λ_ _ _=>False)
  (hCX:∀(w:World) (H:Hp) (s:Shared) (e:Value) (s':Shared),CX w [] H s (λ_ _ _=>False) e s'→False):
  PySem.W.WalkO q loose XP YP l.row.toRowW d [] (λf vs=>PySem.call f vs):=by
 refine Att.attach_call hn hdf λw s₀ s₁ mg mb fa o pm cd doc a vs ns G Y ho hd hcd hmg hobj hints hlen hg=>?_
 have KX:=hY w _ Y
 obtain⟨fd,hb,hF⟩:=F w mg fa _ KX G.T.g hmg
 exact zoe KX G.T.g G.T.b G.T.builtins G.T.nolimit hg hobj hints (Vao hlen hn2) hr hF hb (λH hO hS=>hsp w H a ns hlen hO hS) λH e s'=>hCX w H s₁ e s'
end L2
namespace L2
open PySem PySem.Spec PyProof.Rows
def zaE (s:Stmt)(j:Nat):Stmt:=match s with
 | .ClassDef _ _ _ body _ _ _ _ _ _ _=>body.getD j (.Pass ⟨0,0,0,0⟩)
 | _=>.Pass ⟨0,0,0,0⟩
def zao (s:Stmt):Arguments:=match s with
 | .FunctionDef _ a _ _ _ _ _ _ _ _=>a
 | _=>{ posonlyargs:=[],args:=[],vararg:=none,kwonlyargs:=[],kw_defaults:=[],kwarg:=none,defaults:=[] }
def zan (s:Stmt):List Stmt:=match s with
 | .FunctionDef _ _ b _ _ _ _ _ _ _=>b
 | _=>[]
def zae (s:Stmt):Scope:=match s with
 | .FunctionDef _ _ _ _ _ _ sc _ _ _=>sc
 | _=>{ kind:=.function,names:=[],isGenerator:=false,isCoroutine:=false }
abbrev CX0:CXT:=λ_ _ _ _ _ _=>False
structure Fun (K:PySem.W.Frag)(x qual:Str)(st:Stmt)(f:Addr)(fd:FuncData):Prop where
 ex:∃(oc:Value) (od:Option Addr) (kV doc pm:Value) (an:Option Addr) (cdv ct:Value) (osl:Array (Option Value)),
  fd=PySem.W.fnOf x qual (zao st) (zan st) (zae st) .none kV doc pm an cdv ct∧K.lookup f=some ⟨oc,od,.func fd,osl⟩∧PySem.W.codeIn K cdv qual=true
 kp:PySem.W.keepIn K (.ref f)=true
section
variable {P:Program}{w:World}{K:PySem.W.Frag}{mg:Str→Option Value}{base:Heap}
theorem Fun.ok {x qual:Str}{st:Stmt}{f:Addr}{fd:FuncData}{N ps:List Str}{k:Nat}{sp:Sp}(F:Fun K x qual st f fd)(S:zaz N ps (zae st))(len:∀vs H Q E,sp vs H Q E→vs.length=ps.length)
  (hbody:∀(cdv:Value) (A:Around) (outer:List Env) (s:Shared) (H:Hp) (vs:List V) (Q:VK) (E:XK),zax k (A.deeper (envOfC qual (zae st) s.heap.objs.size f cdv))→sp vs H Q E→
   ∃t,PSs (zaS CX0 P w K mg base N qual (zae st) f cdv A outer s H E).nox (zan st) t∧t { nx:=λ_ H'=>Q .non H',rt:=Q } (zck N vs) H):zaO P w K mg base CX0 (k+1) f fd ps sp:=by
 obtain⟨oc,od,kV,doc,pm,an,cdv,ct,osl,rfl,lk,hcd⟩:=F.ex
 refine ziK lk hcd S len λA outer s H vs Q E hr hsp=>?_
 obtain⟨t,h,q⟩:=hbody cdv A outer s H vs Q E hr hsp
 exact⟨t,h.nox,q⟩
theorem Fun.binds {x qual:Str}{st:Stmt}{f:Addr}{fd:FuncData}{ps:List Str}(F:Fun K x qual st f fd)
  (h:∀(kV doc pm:Value) (an:Option Addr) (cdv ct:Value) (us:List Value),us.length=ps.length→bindArgs (PySem.W.fnOf x qual (zao st) (zan st) (zae st) .none kV doc pm an cdv ct) ⟨us,[]⟩=pure (ps.zip us)):zbk K fd ps []:=by
 obtain⟨oc,od,kV,doc,pm,an,cdv,ct,osl,rfl,lk,hcd⟩:=F.ex
 exact .all (h kV doc pm an cdv ct)
theorem zaq {x qual:Str}{st:Stmt}{f:Addr}{oc:Value}{od an:Option Addr}{osl:Array (Option Value)}{kV doc pm cdv ct:Value}(l:K.lookup f=some ⟨oc,od,.func (PySem.W.fnOf x qual (zao st) (zan st) (zae st) .none kV doc pm an cdv ct),osl⟩)
  (c:PySem.W.codeIn K cdv qual=true)(k:PySem.W.keepIn K (.ref f)=true):Fun K x qual st f (PySem.W.fnOf x qual (zao st) (zan st) (zae st) .none kV doc pm an cdv ct):=⟨⟨oc,od,kV,doc,pm,an,cdv,ct,osl,rfl,l,c⟩,k⟩
end
theorem ziv {n:Nat}(h:n≤1000):n<sizeLine:=Nat.lt_of_le_of_lt h (by decide)
section
variable {X:Cx}
theorem pv (i:Nat){x:Str}{pos:Pos}(hN:X.N[i]?=some x:=by rfl)(hv:Vis X.env.scope x:=by first | exact Or.inl rfl | exact Or.inr (Or.inl rfl) | exact Or.inr (Or.inr rfl))(hd:(x==("__debug__":Str))=false:=by decide)
  (hcd:(x==("__classdict__":Str))=false:=by decide):PE X (.Name x pos) (tVar i):=zjN hN hv hd hcd
end
theorem zbM {A B:Prop}(h:B):if false=true then A else B:=by
 rw[if_neg Vae]
 exact h
theorem zbu {A B:Prop}(h:A):if true=true then A else B:=by
 rw[if_pos rfl]
 exact h
theorem ite2 {c A B:Prop} [Decidable c] (h1:c→A)(h2:¬ c→B):if c then A else B:=by
 by_cases h:c
 ·rw[if_pos h]
  exact h1 h
 ·rw[if_neg h]
  exact h2 h
def zcp (H H':Hp):Prop:=∀b o,H b=some o→H' b=some o
theorem zcp.refl (H:Hp):zcp H H:=λ_ _ h=>h
theorem zcp.trans {H H1 H2:Hp}(a:zcp H H1)(b:zcp H1 H2):zcp H H2:=λc o h=>b c o (a c o h)
theorem zcp.free {H H':Hp}(e:zcp H H'){l:Addr}(h:H' l=Option.none):H l=Option.none:=by
 cases q:H l with
 | none=>rfl
 | some o=>
  rw[e l o q] at h
  cases h
theorem zcp.seq {K:PySem.W.Frag}{H H':Hp}{a:Addr}{xs:List V}(e:zcp H H')(h:SqL K H a xs):SqL K H' a xs:=by
 rcases h with (h | ⟨o,h⟩) | h
 ·exact .inl (.inl (e _ _ h))
 ·exact .inl (.inr ⟨o,e _ _ h⟩)
 ·exact .inr h
end L2
namespace L2
open PySem PySem.Spec PyProof.Rows
section
variable {κ:Type} [DecidableEq κ]
def zbN (kvs:List (κ×V))(k:κ):Option V:=(kvs.find? λkv=>decide (kv.1=k)).map (·.2)
def putK (kvs:List (κ×V))(k:κ)(v:V):List (κ×V):=
 if (kvs.any λkv=>decide (kv.1=k))=true then kvs.map (λkv=>if kv.1=k then (kv.1,v) else kv) else kvs++[(k,v)]
def zku (kvs:List (κ×V))(k:κ):List (κ×V):=kvs.filter λkv=>decide (kv.1≠k)
theorem zho {p:κ×V}{r:List (κ×V)}{k:κ}(e:p.1=k):zbN (p::r) k=some p.2:=by simp[zbN,VaM,e]
theorem zhd {p:κ×V}{r:List (κ×V)}{k:κ}(e:¬ p.1=k):zbN (p::r) k=zbN r k:=by simp[zbN,VaM,e]
theorem zkZ (k:κ):∀kvs:List (κ×V),(kvs.any λkv=>decide (kv.1=k))=(zbN kvs k).isSome
 | []=>rfl
 | p::r=>by
  rw[VaF]
  by_cases e:p.1=k
  ·simp only[zho e,decide_eq_true e,Bool.true_or,Option.isSome_some]
  ·rw[zhd e,decide_eq_false e,Bool.false_or]; exact zkZ k r
theorem zbt.isSome_eq {o:Option V}{u:Option Value}(r:zbt o u):o.isSome=u.isSome:=by
 cases o with
 | none=>cases u with
  | none=>rfl
  | some _=>exact(show False from r).elim
 | some _=>cases u with
  | none=>exact(show False from r).elim
  | some _=>rfl
theorem zbt.getD {o:Option V}{u:Option Value}{d:V}{d':Value}(r:zbt o u)(rd:zal d d'):zal (o.getD d) (u.getD d'):=by
 cases o with
 | none=>cases u with
  | none=>exact rd
  | some _=>exact(show False from r).elim
 | some _=>cases u with
  | none=>exact(show False from r).elim
  | some _=>exact r
theorem KV.val {kvs:List (κ×V)}{vs:List (κ×Value)}(r:KV kvs vs)(k:κ):zbt (zbN kvs k) (valueAt vs k):=by
 unfold KV at r
 induction r with
 | nil=>exact True.intro
 | @cons p q ps qs h t ih=>
  obtain⟨h1,h2⟩:=h
  by_cases e:p.1=k
  ·have e':q.1=k:=h1.symm.trans e
   have b:valueAt (q::qs) k=some q.2:=by simp[valueAt,VaM,e']
   rw[zho e,b]; exact h2
  ·have e':¬ q.1=k:=λz=>e (h1.trans z)
   have b:valueAt (q::qs) k=valueAt qs k:=by simp[valueAt,VaM,e']
   rw[zhd e,b]; exact ih
theorem KV.any {kvs:List (κ×V)}{vs:List (κ×Value)}(r:KV kvs vs)(k:κ):(kvs.any λkv=>decide (kv.1=k))=vs.any λkv=>decide (kv.1=k):=by
 unfold KV at r
 induction r with
 | nil=>rfl
 | cons h t ih=>rw[VaF,VaF,ih,h.1]
theorem KV.repl {kvs:List (κ×V)}{vs:List (κ×Value)}(r:KV kvs vs)(k:κ){y:V}{u:Value}(ry:zal y u):
  KV (kvs.map λkv=>if kv.1=k then (kv.1,y) else kv) (vs.map λkv=>if kv.1=k then (kv.1,u) else kv):=by
 unfold KV at r ⊢
 induction r with
 | nil=>exact .nil
 | @cons p q ps qs h t ih=>
  rw[Vaf,Vaf]
  refine .cons ?_ ih
  obtain⟨h1,h2⟩:=h
  by_cases e:p.1=k
  ·rw[if_pos e,if_pos (h1.symm.trans e)]; exact⟨h1,ry⟩
  ·rw[if_neg e,if_neg (λz=>e (h1.trans z))]; exact⟨h1,h2⟩
theorem KV.put {kvs:List (κ×V)}{vs:List (κ×Value)}(r:KV kvs vs)(k:κ){y:V}{u:Value}(ry:zal y u):KV (putK kvs k y) (stored vs k u):=by
 unfold putK stored
 rw[r.any k]
 by_cases e:(vs.any λkv=>decide (kv.1=k))=true
 ·rw[if_pos e,if_pos e]; exact r.repl k ry
 ·rw[if_neg e,if_neg e]; exact Paired.snoc r ⟨rfl,ry⟩
theorem KV.drop {kvs:List (κ×V)}{vs:List (κ×Value)}(r:KV kvs vs)(k:κ):KV (zku kvs k) (without vs k):=by
 unfold KV at r ⊢
 unfold zku without
 induction r with
 | nil=>exact .nil
 | @cons p q ps qs h t ih=>
  obtain⟨h1,h2⟩:=h
  rw[List.filter_cons,List.filter_cons]
  by_cases e:p.1=k
  ·have a:¬ decide (p.1≠k)=true:=by simp[e]
   have b:¬ decide (q.1≠k)=true:=by simp[h1.symm.trans e]
   rw[if_neg a,if_neg b]; exact ih
  ·have e':¬ q.1=k:=λz=>e (h1.trans z)
   have a:decide (p.1≠k)=true:=by simp[e]
   have b:decide (q.1≠k)=true:=by simp[e']
   rw[if_pos a,if_pos b]; exact .cons ⟨h1,h2⟩ ih
theorem KV.keys {kvs:List (κ×V)}{vs:List (κ×Value)}(r:KV kvs vs):kvs.map (·.1)=vs.map (·.1):=by
 unfold KV at r
 induction r with
 | nil=>rfl
 | cons h t ih=>rw[Vaf,Vaf,ih,h.1]
theorem KV.length {kvs:List (κ×V)}{vs:List (κ×Value)}(r:KV kvs vs):kvs.length=vs.length:=Paired.length r
end
theorem kV_is {P:Program}{w:World}{k:Key}{u:Value}(r:zal (kV k) u):(zex P w).is k u=true:=by
 cases k with
 | inl i=>obtain⟨t,e⟩:=(show ∃t,u=Value.int i t from r); subst e; exact zqI P w i t
 | inr x=>obtain⟨t,e⟩:=(show ∃t,u=Value.str x t from r); subst e; exact zgr P w x t
abbrev KT (H:Hp):List (List Key×V)→List (List Key×Addr×Value)→Prop:=Paired λp q=>p.1=q.1∧H q.2.1=some (.tup (p.1.map kV))∧zal p.2 q.2.2
theorem KT.val {H:Hp}{kvs:List (List Key×V)}{xs:List (List Key×Addr×Value)}(r:KT H kvs xs)(k:List Key):zbt (zbN kvs k) ((atKey xs k).map (·.2)):=by
 induction r with
 | nil=>exact True.intro
 | @cons p q ps qs h t ih=>
  obtain⟨h1,_,h2⟩:=h
  by_cases e:p.1=k
  ·have e':q.1=k:=h1.symm.trans e
   have b:atKey (q::qs) k=some q.2:=by simp[atKey,VaM,e']
   rw[zho e,b]; exact h2
  ·have e':¬ q.1=k:=λz=>e (h1.trans z)
   have b:atKey (q::qs) k=atKey qs k:=by simp[atKey,VaM,e']
   rw[zhd e,b]; exact ih
theorem KT.repl {H:Hp}{kvs:List (List Key×V)}{xs:List (List Key×Addr×Value)}(r:KT H kvs xs)(k:List Key){y:V}{u:Value}(ry:zal y u):
  KT H (kvs.map λkv=>if kv.1=k then (kv.1,y) else kv) (xs.map (putAt k u)):=by
 induction r with
 | nil=>exact .nil
 | @cons p q ps qs h t ih=>
  rw[Vaf,Vaf]
  refine .cons ?_ ih
  obtain⟨h1,h2,h3⟩:=h
  unfold putAt
  by_cases e:p.1=k
  ·rw[if_pos e,if_pos (h1.symm.trans e)]; exact⟨h1,h2,ry⟩
  ·rw[if_neg e,if_neg (λz=>e (h1.trans z))]; exact⟨h1,h2,h3⟩
theorem KT.put {H:Hp}{kvs:List (List Key×V)}{xs:List (List Key×Addr×Value)}(r:KT H kvs xs)(k:List Key){b:Addr}{y:V}{u:Value}(hb:H b=some (.tup (k.map kV)))(ry:zal y u):
  KT H (putK kvs k y) (storedH xs k b u):=by
 have e:(kvs.any λkv=>decide (kv.1=k))=(atKey xs k).isSome:=by
  rw[zkZ,(r.val k).isSome_eq,Option.isSome_map]
 unfold putK storedH
 rw[e]
 by_cases q:(atKey xs k).isSome=true
 ·rw[if_pos q,if_pos q]; exact r.repl k ry
 ·rw[if_neg q,if_neg q]; exact Paired.snoc r ⟨rfl,hb,ry⟩
theorem KT.keeps {H H':Hp}{kvs:List (List Key×V)}{xs:List (List Key×Addr×Value)}(r:KT H kvs xs)(ht:∀b ys,H b=some (.tup ys)→H' b=some (.tup ys)):KT H' kvs xs:=
 Paired.mapP r λ_ _ z=>⟨z.1,ht _ _ z.2.1,z.2.2⟩
section
variable {P:Program}{w:World}{H:Hp}{h:Heap}{a:Addr}
end
def zgR (H:Hp)(a:Addr)(y:V)(r:Option V):Prop:=
 (∃kvs k,Rd H a (.dK kvs)∧y=kV k∧r=zbN kvs k)∨∃kvs k b,Rd H a (.dT kvs)∧y=.ref b∧H b=some (.tup (k.map kV))∧r=zbN kvs k
def zhH (H:Hp)(a:Addr)(y v:V)(H':Hp):Prop:=
 (∃kvs k,H a=some (.dK kvs)∧y=kV k∧kvs.length<sizeLine∧H'=upd H a (.dK (putK kvs k v)))∨
 ∃kvs k b,H a=some (.dT kvs)∧y=.ref b∧H b=some (.tup (k.map kV))∧kvs.length<sizeLine∧H'=upd H a (.dT (putK kvs k v))
theorem zgR.k {H:Hp}{a:Addr}{kvs:List (Key×V)}{k:Key}(e:H a=some (.dK kvs)):zgR H a (kV k) (zbN kvs k):=.inl ⟨kvs,k,.inl e,rfl,rfl⟩
theorem zgR.t {H:Hp}{a b:Addr}{kvs:List (List Key×V)}{k:List Key}(e:H a=some (.dT kvs))(eb:H b=some (.tup (k.map kV))):zgR H a (.ref b) (zbN kvs k):=.inr ⟨kvs,k,b,.inl e,rfl,eb,rfl⟩
theorem zhH.k {H:Hp}{a:Addr}{kvs:List (Key×V)}{k:Key}{v:V}(e:H a=some (.dK kvs))(hl:kvs.length<sizeLine):zhH H a (kV k) v (upd H a (.dK (putK kvs k v))):=.inl ⟨kvs,k,e,rfl,hl,rfl⟩
theorem zhH.t {H:Hp}{a b:Addr}{kvs:List (List Key×V)}{k:List Key}{v:V}(e:H a=some (.dT kvs))(eb:H b=some (.tup (k.map kV)))(hl:kvs.length<sizeLine):
  zhH H a (.ref b) v (upd H a (.dT (putK kvs k v))):=.inr ⟨kvs,k,b,e,rfl,eb,hl,rfl⟩
section
variable {X:Cx}{pins:List (Addr×Obj)}{σ:St}{H:Hp}{s:Shared}{a:Addr}{y v:V}{u r:Value}{o:Option V}{A:Around}{E:Value→Shared→Prop}
theorem Inv.big (I:Inv X pins σ H s):sysModules<s.heap.objs.size:=by
 have h:mainGlobals<s.heap.objs.size:=(I.mod.glob.keeps I.bk).lt
 exact Nat.lt_trans (by decide) h
end
section
variable {X:Cx}{pins:List (Addr×Obj)}{σ:St}{H:Hp}{s:Shared}{a:Addr}{kvs:List (Key×V)}{k:Key}{u:Value}{A:Around}{E:Value→Shared→Prop}
end
def NoSl (i:Expr):Prop:=∀ov iv,subscripted i false ov iv=operate [ov,iv] (getItem ov iv)
theorem zqG {prog:Program}{w:World}{A:Around}{E:Value→Shared→Prop}{s:Shared}{env:Env}{value slice:Expr}{pos:Pos}{T id:String}{Q:Value→Shared→Prop}
  (hl:typeLookup (.type T) "__getitem__"=pure (some (.builtin id)))(hs:NoSl slice)
  (h:wpAny (model prog w) A (eval value env) (λo s₁=>wpAny (model prog w) A (eval slice env) (λi s₂=>s₂.TypeIs o T∧wpAny (model prog w) A (getItem o i) Q E s₂) E s₁) E s):
  wpAny (model prog w) A (eval (.Subscript value slice pos) env) Q E s:=by
 refine Subscript_ (wpAny_mono h (λo s₁ h₁=>wpAny_mono h₁ (λi s₂ h₂=>?_) λ_ _ x=>x) λ_ _ x=>x)
 obtain⟨hT,h₂⟩:=h₂
 unfold subscriptTail
 refine wpAny_bind ?_
 rw[getitemInPython_of_ne hT.not_modules]
 refine wpAny_bind (wpAny_specialOf hT hl ?_)
 have fin:wpAny (model prog w) A (subscripted slice false o i) (λr s₃=>wpAny (model prog w) A (letTemporaryGo value o r >>= λ_=>pure r) Q E s₃) E s₂:=by
  rw[hs o i]
  exact wpAny_operating (wpAny_mono h₂ (λr s₃ h₃=>wpAny_bind (wpAny_letTemporaryGo (wpAny_pure h₃))) λ_ _ x=>x)
 first
  | exact wpAny_pure (wpAny_bind fin)
  | exact wpAny_bind (wpAny_pure (wpAny_bind fin))
  | exact wpAny_bind fin
section
variable {X:Cx}{o i e value:Expr}{pos pos' tpos:Pos}{td ty tv:TE}
end
section
variable {X:Cx}{pos:Pos}
end
structure M1 (X:Cx)(o:Expr)(m:Str)(apos:Pos)(e:Expr)(cpos:Pos):Prop where
 base:attributeBase o m X.env (eval o X.env)=eval o X.env
 few:((backTo cpos (starEach [e] X.env)).all (λx=>!x.1)&&(backToKw cpos (keywordEach [] X.env)).all (λx=>x.1.isSome)
 &&decide (([e]:List Expr).length+([]:List Keyword).length+(if ([]:List Keyword).isEmpty then 0 else 1)<30))=true
 line:(apos.endLine==cpos.line)=true
 trees:backTo cpos (starEach [e] X.env)=[(false,eval e X.env)]
structure M2 (X:Cx)(o:Expr)(m:Str)(apos:Pos)(e f:Expr)(cpos:Pos):Prop where
 base:attributeBase o m X.env (eval o X.env)=eval o X.env
 few:((backTo cpos (starEach [e,f] X.env)).all (λx=>!x.1)&&(backToKw cpos (keywordEach [] X.env)).all (λx=>x.1.isSome)
 &&decide (([e,f]:List Expr).length+([]:List Keyword).length+(if ([]:List Keyword).isEmpty then 0 else 1)<30))=true
 line:(apos.endLine==cpos.line)=true
 trees:backTo cpos (starEach [e,f] X.env)=[(false,eval e X.env),(false,eval f X.env)]
section
variable {X:Cx}{pins:List (Addr×Obj)}{σ:St}{H:Hp}{s:Shared}{a:Addr}{y d:V}{u r:Value}{o:Option V}{A:Around}{E:Value→Shared→Prop}
end
section
variable {X:Cx}{o e f:Expr}{apos cpos:Pos}{td ty tx:TE}
end
section
variable {X:Cx}{pins:List (Addr×Obj)}{σ:St}{H:Hp}{s:Shared}{a:Addr}{kvs:List (Key×V)}{A:Around}{E:Value→Shared→Prop}
end
section
variable {X:Cx}{pins:List (Addr×Obj)}{σ:St}{H:Hp}{s:Shared}{a:Addr}{y:V}{u:Value}{A:Around}{E:Value→Shared→Prop}
end
end L2
namespace L3
open PySem PySem.Spec PyProof.Rows L2
abbrev St:=L2.St
inductive D where
 | non | bl (b:Bool) | int (i:Int) | str (x:Str) | tup (xs:List D) | ref (n:Nat) | exc (c:Addr)
inductive Ob where
 | lst (xs:List D) | frz (xs:List D)
  | ins (C:Addr) (fs:List (Str×D))
  | dct (kvs:List (List Key×D))
  | tpl (ws:List Str)
abbrev Sto:=List Ob
abbrev Ev:=List (Option D)
abbrev DK:=D→Sto→Prop
abbrev TDE:=Ev→Sto→DK→Prop
abbrev TDT:=Ev→Sto→(Bool→Sto→Prop)→Prop
abbrev TDA:=Ev→Sto→(List D→Sto→Prop)→Prop
structure zbL where
 nx:Ev→Sto→Prop
 rt:DK
 bk:Ev→Sto→Prop:=λ_ _=>False
 ct:Ev→Sto→Prop:=λ_ _=>False
abbrev TDS:=zbL→Ev→Sto→Prop
def isX (a c:Addr):HO:=.ext λh=>∃o,h.get? a=some o∧o.cls=.ref c
inductive Rp (r:List Addr)(H:Hp):D→V→Prop
 | non:Rp r H .non .non
 | bl (b:Bool):Rp r H (.bl b) (.bl b)
 | int (i:Int):Rp r H (.int i) (.int i)
 | str (x:Str):Rp r H (.str x) (.str x)
 | tup {ds:List D} {xs:List V} {a:Addr}:H a=some (.tup xs)→ds.length=xs.length→(∀(i:Nat) (d:D) (v:V),ds[i]?=some d→xs[i]?=some v→Rp r H d v)→Rp r H (.tup ds) (.ref a)
 | ref {n:Nat} {a:Addr}:r[n]?=some a→Rp r H (.ref n) (.ref a)
 | exc {c a:Addr}:H a=some (isX a c)→Rp r H (.exc c) (.ref a)
def Rps (r:List Addr)(H:Hp)(ds:List D)(vs:List V):Prop:=ds.length=vs.length∧∀(i:Nat) (d:D) (v:V),ds[i]?=some d→vs[i]?=some v→Rp r H d v
structure Ext (r r':List Addr)(H H':Hp):Prop where
 adr:∀(n:Nat) (a:Addr),r[n]?=some a→r'[n]?=some a
 tup:∀a xs,H a=some (.tup xs)→H' a=some (.tup xs)
 xc:∀a c,H a=some (isX a c)→H' a=some (isX a c)
section
variable {r r' r2:List Addr}{H H' H2:Hp}{d:D}{v:V}{ds:List D}{vs:List V}
theorem Ext.refl:Ext r r H H:=⟨λ_ _ h=>h,λ_ _ h=>h,λ_ _ h=>h⟩
theorem Ext.trans (a:Ext r r' H H')(b:Ext r' r2 H' H2):Ext r r2 H H2:=⟨λn x h=>b.adr n x (a.adr n x h),λx y h=>b.tup x y (a.tup x y h),λx y h=>b.xc x y (a.xc x y h)⟩
theorem Rp.ext (h:Rp r H d v)(e:Ext r r' H H'):Rp r' H' d v:=by
 induction h with
 | non=>exact .non
 | bl b=>exact .bl b
 | int i=>exact .int i
 | str x=>exact .str x
 | tup h l _ ih=>exact .tup (e.tup _ _ h) l ih
 | ref h=>exact .ref (e.adr _ _ h)
 | exc h=>exact .exc (e.xc _ _ h)
theorem Rps.ext (h:Rps r H ds vs)(e:Ext r r' H H'):Rps r' H' ds vs:=⟨h.1,λi d v h1 h2=>(h.2 i d v h1 h2).ext e⟩
theorem Rps.nil:Rps r H [] []:=⟨rfl,λi d v h=>by simp at h⟩
theorem Rps.cons (h:Rp r H d v)(t:Rps r H ds vs):Rps r H (d::ds) (v::vs):=by
 refine⟨by simp[t.1],λi x y h1 h2=>?_⟩
 cases i with
 | zero=>
  simp at h1 h2
  subst h1; subst h2
  exact h
 | succ i=>exact t.2 i x y (by simpa using h1) (by simpa using h2)
theorem Rps.tail {y:V}(h:Rps r H (d::ds) (y::vs)):Rp r H d y∧Rps r H ds vs:=
 ⟨h.2 0 d y rfl rfl,by simpa using h.1,λi a b h1 h2=>h.2 (i+1) a b (by simpa using h1) (by simpa using h2)⟩
theorem Rps.uncons (h:Rps r H (d::ds) vs):∃v vs',vs=v::vs'∧Rp r H d v∧Rps r H ds vs':=by
 cases vs with
 | nil=>exact absurd h.1 (by simp)
 | cons v vs'=>exact⟨v,vs',rfl,h.tail⟩
theorem Rps.unnil (h:Rps r H [] vs):vs=[]:=by
 cases vs with
 | nil=>rfl
 | cons v vs'=>exact absurd h.1 (by simp)
theorem Rps.get {i:Nat}(h:Rps r H ds vs)(e:ds[i]?=some d):∃v,vs[i]?=some v∧Rp r H d v:=by
 have hi:i<ds.length:=(Vac.mp e).1
 have hv:i<vs.length:=by rw[← h.1]; exact hi
 exact⟨vs[i],by simp[hv],h.2 i d vs[i] e (by simp[hv])⟩
theorem Rps.get' {i:Nat}(h:Rps r H ds vs)(e:vs[i]?=some v):∃d,ds[i]?=some d∧Rp r H d v:=by
 have hv:i<vs.length:=(Vac.mp e).1
 have hi:i<ds.length:=by rw[h.1]; exact hv
 exact⟨ds[i],by simp[hi],h.2 i ds[i] v (by simp[hi]) e⟩
theorem Rps.snoc (h:Rps r H ds vs)(t:Rp r H d v):Rps r H (ds++[d]) (vs++[v]):=by
 refine⟨by simp[h.1],λi x y h1 h2=>?_⟩
 by_cases hi:i<ds.length
 ·rw[Van hi] at h1
  rw[Van (by rw[← h.1]; exact hi)] at h2
  exact h.2 i x y h1 h2
 ·have hl:i<(ds++[d]).length:=(Vac.mp h1).1
  have e:i=ds.length:=by simp at hl; omega
  subst e
  rw[VaQ (Vaa _)] at h1
  rw[h.1,VaQ (Vaa _)] at h2
  simp at h1 h2
  subst h1; subst h2
  exact t
theorem Rps.tupR {a:Addr}(h:Rps r H ds vs)(e:H a=some (.tup vs)):Rp r H (.tup ds) (.ref a):=.tup e h.1 h.2
theorem Rp.untup {vs:V}(h:Rp r H (.tup ds) vs):∃a xs,vs=.ref a∧H a=some (.tup xs)∧Rps r H ds xs:=by
 cases h with
 | tup e l f=>exact⟨_,_,rfl,e,l,f⟩
end
def SqF (K:PySem.W.Frag)(H:Hp)(a:Addr)(xs:List V):Prop:=
 (∃o,H a=some (.frz o (.lst xs)))∨
  ∃(o:Obj) (its:Array Value) (n:Nat),K.lookup a=some o∧o.cls=.type "list"∧o.dict=none∧o.data=.seq its n∧its.size≤sizeLine∧zah xs its.toList
theorem SqF.sql {K:PySem.W.Frag}{H:Hp}{a:Addr}{xs:List V}(h:SqF K H a xs):SqL K H a xs:=by
 rcases h with ⟨o,h⟩ | h
 ·exact .inl (.inr ⟨o,h⟩)
 ·exact .inr h
def FR {α:Type}(r:List Addr)(H:Hp)(fs:List (α×D))(fs':List (α×V)):Prop:=fs.map (·.1)=fs'.map (·.1)∧Rps r H (fs.map (·.2)) (fs'.map (·.2))
theorem FR.ext {α:Type}{r r':List Addr}{H H':Hp}{fs:List (α×D)}{fs':List (α×V)}(h:FR r H fs fs')(e:Ext r r' H H'):FR r' H' fs fs':=⟨h.1,h.2.ext e⟩
theorem FR.nil {α:Type}{r:List Addr}{H:Hp}:FR (α:=α) r H [] []:=⟨rfl,Rps.nil⟩
def ObR (K:PySem.W.Frag)(r:List Addr)(H:Hp)(a:Addr):Ob→Prop
 | .lst ds=>∃xs,H a=some (.lst xs)∧Rps r H ds xs
 | .frz ds=>∃xs,SqF K H a xs∧Rps r H ds xs
 | .ins C fs=>∃dx fs',H a=some (.ins C dx fs')∧FR r H fs fs'
 | .dct kvs=>∃kvs',H a=some (.dT kvs')∧FR r H kvs kvs'
 | .tpl ws=>∃(o:Obj) (its:Array Value) (n:Nat),K.lookup a=some o∧o.cls=.type "tuple"∧o.data=.seq its n∧its.size≤sizeLine∧zah (ws.map V.str) its.toList
def zcK:Ob→Bool
 | .frz _=>false
 | .tpl _=>false
 | _=>true
structure zaJ (K:PySem.W.Frag)(r:List Addr)(S:Sto)(H:Hp):Prop where
 len:r.length=S.length
 ob:∀(n:Nat) (a:Addr) (o:Ob),r[n]?=some a→S[n]?=some o→ObR K r H a o
 nd:∀(n m:Nat) (a:Addr) (o u:Ob),r[n]?=some a→r[m]?=some a→S[n]?=some o→S[m]?=some u→zcK o=true→zcK u=true→n=m
def zay:Ob→List D
 | .lst ds=>ds
 | .frz ds=>ds
 | _=>[.exc 0]
def zbZ:Ob→Option Ob
 | .lst ds=>some (.lst ds)
 | .frz ds=>some (.frz ds)
 | _=>none
def lAt (S:Sto)(n:Nat):Option Ob:=(S[n]?).bind zbZ
theorem zqb {o u:Ob}(h:zbZ o=some u):u=o:=by
 cases o <;> simp[zbZ] at h <;> exact h.symm
theorem zcz {S:Sto}{n:Nat}{o:Ob}(h:lAt S n=some o):S[n]?=some o∧zbZ o=some o:=by
  unfold lAt at h
  cases q:S[n]? with
  | none=>
   rw[q] at h
   cases h
  | some u=>
    rw[q] at h
    have h':zbZ u=some o:=h
    have e:=zqb h'
    subst e
    exact⟨rfl,h'⟩
theorem zce {S:Sto}{n:Nat}{o:Ob}(h:S[n]?=some o)(hL:zbZ o=some o):lAt S n=some o:=by
 unfold lAt
 rw[h]
 exact hL
section
variable {K:PySem.W.Frag}{r r':List Addr}{S:Sto}{H H':Hp}{n:Nat}{a p:Addr}
theorem zaJ.at {o:Ob}(h:zaJ K r S H)(e:S[n]?=some o):∃a,r[n]?=some a∧ObR K r H a o:=by
 have hn:n<S.length:=(Vac.mp e).1
 have hr:n<r.length:=by rw[h.len]; exact hn
 exact⟨r[n],by simp[hr],h.ob n r[n] o (by simp[hr]) e⟩
theorem ObR.list {o:Ob}(h:ObR K r H a o)(hL:zbZ o=some o):∃xs,SqL K H a xs∧Rps r H (zay o) xs:=by
 cases o with
 | lst ds=>obtain⟨xs,e,q⟩:=h; exact⟨xs,SqL.of e,q⟩
 | frz ds=>obtain⟨xs,e,q⟩:=h; exact⟨xs,e.sql,q⟩
 | ins C fs=>cases hL
 | dct kvs=>cases hL
 | tpl ws=>cases hL
theorem ObR.keep {o:Ob}(q:ObR K r H a o)(x:Ext r r' H H')(ha:∀u,H a=some u→H' a=some u):ObR K r' H' a o:=by
 cases o with
 | lst ds=>obtain⟨xs,h3,h4⟩:=q; exact⟨xs,ha _ h3,h4.ext x⟩
 | frz ds=>
  obtain⟨xs,h3,h4⟩:=q
  refine⟨xs,?_,h4.ext x⟩
  rcases h3 with ⟨o,h3⟩ | h3
  ·exact .inl ⟨o,ha _ h3⟩
  ·exact .inr h3
 | ins C fs=>obtain⟨dx,fs',h3,h4⟩:=q; exact⟨dx,fs',ha _ h3,h4.ext x⟩
 | dct kvs=>obtain⟨ks,h3,h4⟩:=q; exact⟨ks,ha _ h3,h4.ext x⟩
 | tpl ws=>exact q
theorem ObR.own {o:Ob}(q:ObR K r H a o)(h:zcK o=true):∃u,H a=some u∧(∀xs,u≠HO.tup xs)∧(∀b c,u≠isX b c)∧∀z y,u≠HO.frz z y:=by
 cases o with
 | lst ds=>obtain⟨xs,h3,h4⟩:=q; exact⟨_,h3,(λ_ z=>by cases z),(λ_ _ z=>by cases z),(λ_ _ z=>by cases z)⟩
 | frz ds=>cases h
 | tpl ws=>cases h
 | ins C fs=>obtain⟨dx,fs',h3,h4⟩:=q; exact⟨_,h3,(λ_ z=>by cases z),(λ_ _ z=>by cases z),(λ_ _ z=>by cases z)⟩
 | dct kvs=>obtain⟨ks,h3,h4⟩:=q; exact⟨_,h3,(λ_ z=>by cases z),(λ_ _ z=>by cases z),(λ_ _ z=>by cases z)⟩
theorem zaJ.same (h:zaJ K r S H)(e:∀b o,H b=some o→H' b=some o):zaJ K r S H':=
 ⟨h.len,λn a o h1 h2=>(h.ob n a o h1 h2).keep ⟨λ_ _ q=>q,λa xs q=>e _ _ q,λa c q=>e _ _ q⟩ (e a),h.nd⟩
theorem zdw {o:HO}(h:H p=none):∀b u,H b=some u→(upd H p o) b=some u:=λb u q=>by rw[zaG (zbO q h)]; exact q
theorem zd7 {n:Nat}{b:Addr}(e:(r++[p])[n]?=some b):(n<r.length∧r[n]?=some b)∨(n=r.length∧b=p):=by
 by_cases hn:n<r.length
 ·rw[Van hn] at e; exact .inl ⟨hn,e⟩
 ·have hl:n<(r++[p]).length:=(Vac.mp e).1
  have en:n=r.length:=by simp at hl; omega
  subst en
  rw[VaQ (Vaa _)] at e
  simp at e
  exact .inr ⟨rfl,e.symm⟩
theorem zaJ.pushO {o:Ob}(h:zaJ K r S H)(hp:H p=none)(keep:∀b u,H b=some u→H' b=some u)(q:Ext r (r++[p]) H H'→ObR K (r++[p]) H' p o):zaJ K (r++[p]) (S++[o]) H'∧Ext r (r++[p]) H H':=by
 have x:Ext r (r++[p]) H H':=⟨λn a e=>by
  have hn:n<r.length:=(Vac.mp e).1
  rw[Van hn]; exact e,λa ys e=>keep _ _ e,λa c e=>keep _ _ e⟩
 have sS:∀ {n:Nat} {u:Ob},n<r.length→(S++[o])[n]?=some u→S[n]?=some u:=λ{n u} hn e=>by
  rw[Van (by rw[← h.len]; exact hn)] at e; exact e
 refine⟨⟨by simp[h.len],λn a u h1 h2=>?_,λn m a u w h1 h2 h3 h4 o1 o2=>?_⟩,x⟩
 ·rcases zd7 h1 with ⟨hn,e⟩ | ⟨rfl,rfl⟩
  ·exact(h.ob n a u e (sS hn h2)).keep x (keep a)
  ·rw[h.len,VaQ (Vaa _)] at h2
   simp at h2
   subst h2
   exact q x
 ·rcases zd7 h1 with ⟨hn,e⟩ | ⟨rfl,rfl⟩
  ·rcases zd7 h2 with ⟨hm,e'⟩ | ⟨rfl,rfl⟩
   ·exact h.nd n m a u w e e' (sS hn h3) (sS hm h4) o1 o2
   ·obtain⟨zs,h5,_⟩:=(h.ob n _ _ e (sS hn h3)).own o1
    rw[hp] at h5; cases h5
  ·rcases zd7 h2 with ⟨hm,e'⟩ | ⟨rfl,_⟩
   ·obtain⟨zs,h5,_⟩:=(h.ob m _ _ e' (sS hm h4)).own o2
    rw[hp] at h5; cases h5
   ·rfl
theorem zaJ.pushF {o:Ob}(h:zaJ K r S H)(ho:zcK o=false)(q:ObR K (r++[p]) H p o):zaJ K (r++[p]) (S++[o]) H∧Ext r (r++[p]) H H:=by
 have x:Ext r (r++[p]) H H:=⟨λn a e=>by
  have hn:n<r.length:=(Vac.mp e).1
  rw[Van hn]; exact e,λa ys e=>e,λa c e=>e⟩
 have sS:∀ {n:Nat} {u:Ob},n<r.length→(S++[o])[n]?=some u→S[n]?=some u:=λ{n u} hn e=>by
  rw[Van (by rw[← h.len]; exact hn)] at e; exact e
 have sL:∀ {u:Ob},(S++[o])[r.length]?=some u→u=o:=λ{u} e=>by
  rw[h.len,VaQ (Vaa _)] at e
  simp at e
  exact e.symm
 refine⟨⟨by simp[h.len],λn a u h1 h2=>?_,λn m a u w h1 h2 h3 h4 o1 o2=>?_⟩,x⟩
 ·rcases zd7 h1 with ⟨hn,e⟩ | ⟨rfl,rfl⟩
  ·exact(h.ob n a u e (sS hn h2)).keep x λ_ e=>e
  ·rw[sL h2]
   exact q
 ·rcases zd7 h1 with ⟨hn,e⟩ | ⟨rfl,rfl⟩
  ·rcases zd7 h2 with ⟨hm,e'⟩ | ⟨rfl,rfl⟩
   ·exact h.nd n m a u w e e' (sS hn h3) (sS hm h4) o1 o2
   ·rw[sL h4,ho] at o2; cases o2
  ·rw[sL h3,ho] at o1; cases o1
theorem zaJ.push {ds:List D}{xs:List V}(h:zaJ K r S H)(hp:H p=none)(q:Rps r H ds xs):zaJ K (r++[p]) (S++[.lst ds]) (upd H p (.lst xs))∧Ext r (r++[p]) H (upd H p (.lst xs)):=
 h.pushO hp (zdw hp) λx=>⟨xs,zbV,q.ext x⟩
theorem zaJ.setO {o o':Ob}{u:HO}(h:zaJ K r S H)(hn:r[n]?=some a)(hS:S[n]?=some o)(ho:zcK o=true)(ho':zcK o'=true)(q:Ext r r H (upd H a u)→ObR K r (upd H a u) a o'):zaJ K r (S.set n o') (upd H a u)∧Ext r r H (upd H a u):=by
 obtain⟨u0,h0,t1,t2,t3⟩:=(h.ob n a _ hn hS).own ho
 have x:Ext r r H (upd H a u):=⟨λ_ _ e=>e,λb zs e=>by
  rw[zaG (zg0 e h0 (λz=>t1 zs z.symm))]; exact e,λb c e=>by
  rw[zaG (zg0 e h0 (λz=>t2 b c z.symm))]; exact e⟩
 have hlt:n<S.length:=(Vac.mp hS).1
 have off:∀ {m:Nat} {w:Ob},m≠n→(S.set n o')[m]?=some w→S[m]?=some w:=λ{m w} hm e=>by
  rw[VaA (Ne.symm hm)] at e; exact e
 refine⟨⟨by simp[h.len],λm b w h1 h2=>?_,λm k b w y h1 h2 h3 h4 o1 o2=>?_⟩,x⟩
 ·by_cases hm:m=n
  ·subst hm
   rw[hn] at h1; cases h1
   rw[VaD hlt] at h2
   cases h2
   exact q x
  ·have h2':=off hm h2
   have q':=h.ob m b w h1 h2'
   by_cases hw:zcK w=true
   ·have hb:b≠a:=λz=>hm (by subst z; exact h.nd m n b w o h1 hn h2' hS hw ho)
    exact q'.keep x λz e=>by rw[zaG hb]; exact e
   ·cases w with
    | frz es=>
     obtain⟨zs,h3,h4⟩:=q'
     refine⟨zs,?_,h4.ext x⟩
     rcases h3 with ⟨z,h3⟩ | h3
     ·exact .inl ⟨z,by rw[zaG (zg0 h3 h0 (λy=>t3 _ _ y.symm))]; exact h3⟩
     ·exact .inr h3
    | tpl ws=>exact q'
    | _=>exact absurd rfl hw
 ·have back:∀ {j:Nat} {w:Ob},(S.set n o')[j]?=some w→zcK w=true→∃y,S[j]?=some y∧zcK y=true:=λ{j w} e ow=>by
   by_cases hj:j=n
   ·subst hj; exact⟨o,hS,ho⟩
   ·exact⟨w,off hj e,ow⟩
  obtain⟨us',h3',q3⟩:=back h3 o1
  obtain⟨ws',h4',q4⟩:=back h4 o2
  exact h.nd m k b us' ws' h1 h2 h3' h4' q3 q4
theorem zaJ.set {ds ds':List D}{xs:List V}(h:zaJ K r S H)(hn:r[n]?=some a)(hS:S[n]?=some (.lst ds))(q:Rps r H ds' xs):zaJ K r (S.set n (.lst ds')) (upd H a (.lst xs))∧Ext r r H (upd H a (.lst xs)):=
 h.setO hn hS rfl rfl λx=>⟨xs,zbV,q.ext x⟩
end
def Rs (r:List Addr)(H:Hp)(dl:Ev)(σ:St):Prop:=dl.length=σ.length∧∀(i:Nat) (d:D),dl[i]?=some (some d)→∃v,σ[i]?=some (some v)∧Rp r H d v
theorem Rs.ext {r r':List Addr}{H H':Hp}{dl:Ev}{σ:St}(h:Rs r H dl σ)(e:Ext r r' H H'):Rs r' H' dl σ:=⟨h.1,λi d q=>by
 obtain⟨v,h1,h2⟩:=h.2 i d q
 exact⟨v,h1,h2.ext e⟩⟩
theorem Rs.set {r:List Addr}{H:Hp}{dl:Ev}{σ:St}{d:D}{v:V}(i:Nat)(h:Rs r H dl σ)(q:Rp r H d v):Rs r H (dl.set i (some d)) (σ.set i (some v)):=by
 refine⟨by simp[h.1],λj e hj=>?_⟩
 by_cases hij:i=j
 ·subst hij
  have hl:i<dl.length:=by
   have:=(Vac.mp hj).1
   simpa using this
  rw[VaD hl] at hj
  cases hj
  exact⟨v,by rw[VaD (by rw[← h.1]; exact hl)],q⟩
 ·rw[VaA hij] at hj
  obtain⟨v',h1,h2⟩:=h.2 j e hj
  exact⟨v',by rw[VaA hij]; exact h1,h2⟩
structure Zx where
 ex:Ev→Addr→Sto→Prop
 w:St→XK
abbrev Zc (ex:Addr→Sto→Prop)(E:XK):Zx:=⟨λ_=>ex,λ_=>E⟩
def zeb (K:PySem.W.Frag)(Z:Zx)(r:List Addr)(H:Hp):Prop:=∀(dl:Ev) (σ:St) (c:Addr) (H':Hp) (r':List Addr) (S':Sto),Ext r r' H H'→Rs r' H' dl σ→zaJ K r' S' H'→Z.ex dl c S'→Z.w σ (.ref c) none H'
theorem zeb.ext {K:PySem.W.Frag}{Z:Zx}{r r':List Addr}{H H':Hp}(h:zeb K Z r H)(e:Ext r r' H H'):zeb K Z r' H':=λdl σ c H2 r2 S2 x=>h dl σ c H2 r2 S2 (e.trans x)
structure Rel (K:PySem.W.Frag)(Z:Zx)(r:List Addr)(S:Sto)(H:Hp):Prop where
 b:zaJ K r S H
 xw:zeb K Z r H
section
variable {K:PySem.W.Frag}{Z:Zx}{r r':List Addr}{S:Sto}{H H':Hp}{n:Nat}{a p:Addr}
theorem Rel.len (h:Rel K Z r S H):r.length=S.length:=h.b.len
theorem Rel.at {o:Ob}(h:Rel K Z r S H)(e:S[n]?=some o):∃a,r[n]?=some a∧ObR K r H a o:=h.b.at e
theorem Rel.same (h:Rel K Z r S H)(e:∀b o,H b=some o→H' b=some o):Rel K Z r S H':=⟨h.b.same e,h.xw.ext ⟨λ_ _ q=>q,λa xs q=>e _ _ q,λa c q=>e _ _ q⟩⟩
theorem Rel.push {ds:List D}{xs:List V}(h:Rel K Z r S H)(hp:H p=none)(q:Rps r H ds xs):Rel K Z (r++[p]) (S++[.lst ds]) (upd H p (.lst xs))∧Ext r (r++[p]) H (upd H p (.lst xs)):=by
 obtain⟨h1,h2⟩:=h.b.push hp q
 exact⟨⟨h1,h.xw.ext h2⟩,h2⟩
theorem Rel.set {ds ds':List D}{xs:List V}(h:Rel K Z r S H)(hn:r[n]?=some a)(hS:S[n]?=some (.lst ds))(q:Rps r H ds' xs):Rel K Z r (S.set n (.lst ds')) (upd H a (.lst xs))∧Ext r r H (upd H a (.lst xs)):=by
 obtain⟨h1,h2⟩:=h.b.set hn hS q
 exact⟨⟨h1,h.xw.ext h2⟩,h2⟩
end
def Ret (K:PySem.W.Frag)(Z:Zx)(r:List Addr)(H:Hp)(Q:DK)(Qv:VK):Prop:=∀v H' r' d S',Ext r r' H H'→Rel K Z r' S' H'→Rp r' H' d v→Q d S'→Qv v H'
theorem Ret.ext {K:PySem.W.Frag}{Z:Zx}{r r':List Addr}{H H':Hp}{Q:DK}{Qv:VK}(h:Ret K Z r H Q Qv)(e:Ext r r' H H'):Ret K Z r' H' Q Qv:=λv H2 r2 d S2 x=>h v H2 r2 d S2 (e.trans x)
def up (K:PySem.W.Frag)(Z:Zx)(t:TDE):TE:=λσ H Qv=>∃r dl S Q,Rs r H dl σ∧Rel K Z r S H∧t dl S Q∧Ret K Z r H Q Qv
def upT (K:PySem.W.Frag)(Z:Zx)(t:TDT):TT:=λσ H Qb=>∃r dl S Q,Rs r H dl σ∧Rel K Z r S H∧t dl S Q∧∀b H' r' S',Ext r r' H H'→Rel K Z r' S' H'→Q b S'→Qb b H'
def upA (K:PySem.W.Frag)(Z:Zx)(t:TDA):TA:=λσ H Qv=>∃r dl S Q,Rs r H dl σ∧Rel K Z r S H∧t dl S Q∧∀vs H' r' ds S',Ext r r' H H'→Rel K Z r' S' H'→Rps r' H' ds vs→Q ds S'→Qv vs H'
structure zdp (K:PySem.W.Frag)(Z:Zx)(r:List Addr)(H:Hp)(E:zbL)(F:zb8):Prop where
 nx:∀σ' H' r' dl' S',Ext r r' H H'→Rs r' H' dl' σ'→Rel K Z r' S' H'→E.nx dl' S'→F.nx σ' H'
 bk:∀σ' H' r' dl' S',Ext r r' H H'→Rs r' H' dl' σ'→Rel K Z r' S' H'→E.bk dl' S'→F.bk σ' H'
 ct:∀σ' H' r' dl' S',Ext r r' H H'→Rs r' H' dl' σ'→Rel K Z r' S' H'→E.ct dl' S'→F.ct σ' H'
 rt:Ret K Z r H E.rt F.rt
theorem zdp.ext {K:PySem.W.Frag}{Z:Zx}{r r':List Addr}{H H':Hp}{E:zbL}{F:zb8}(h:zdp K Z r H E F)(e:Ext r r' H H'):zdp K Z r' H' E F:=
 ⟨λa b c d f x=>h.nx a b c d f (e.trans x),λa b c d f x=>h.bk a b c d f (e.trans x),λa b c d f x=>h.ct a b c d f (e.trans x),h.rt.ext e⟩
def upS (K:PySem.W.Frag)(Z:Zx)(t:TDS):TS:=λF σ H=>∃r dl S E,Rs r H dl σ∧Rel K Z r S H∧t E dl S∧zdp K Z r H E F
def PD (X:Cx)(Z:Zx)(e:Expr)(t:TDE):Prop:=PE X e (up X.K Z t)
def PDT (X:Cx)(Z:Zx)(e:Expr)(t:TDT):Prop:=PT X e (upT X.K Z t)
def PDW (X:Cx)(Z:Zx)(e:Expr)(t:TDT):Prop:=PW X e (upT X.K Z t)
def PDA (X:Cx)(Z:Zx)(es:List Expr)(t:TDA):Prop:=PA X es (upA X.K Z t)
def PDS (X:Cx)(Z:Zx)(st:Stmt)(t:TDS):Prop:=PS X st (upS X.K Z t)
def zbC (X:Cx)(Z:Zx)(st:List Stmt)(t:TDS):Prop:=PSs X st (upS X.K Z t)
section
variable {X:Cx}{Z:Zx}
theorem zaD {e:Expr}{t t':TE}(h:PE X e t)(f:∀σ H Q,t' σ H Q→t σ H Q):PE X e t':=λpins s σ H Q I q=>h pins s σ H Q I (f σ H Q q)
theorem zji {e:Expr}{t t':TT}(h:PT X e t)(f:∀σ H Q,t' σ H Q→t σ H Q):PT X e t':=λpins s σ H Q I q=>h pins s σ H Q I (f σ H Q q)
theorem zlc {e:Expr}{t t':TT}(h:PW X e t)(f:∀σ H Q,t' σ H Q→t σ H Q):PW X e t':=λwh pins s σ H Q I q=>h wh pins s σ H Q I (f σ H Q q)
theorem zlx {e:List Expr}{t t':TA}(h:PA X e t)(f:∀σ H Q,t' σ H Q→t σ H Q):PA X e t':=λpos pins s σ H Q I q=>h pos pins s σ H Q I (f σ H Q q)
theorem zcE {e:Stmt}{t t':TS}(h:PS X e t)(f:∀F σ H,t' F σ H→t F σ H):PS X e t':=λpins s σ H F I q=>h pins s σ H F I (f F σ H q)
theorem zmb {e:List Stmt}{t t':TS}(h:PSs X e t)(f:∀F σ H,t' F σ H→t F σ H):PSs X e t':=λpins s σ H F I q=>h pins s σ H F I (f F σ H q)
theorem PDW.pt {e:Expr}{t:TDT}(h:PDW X Z e t):PDT X Z e t:=PW.pt h
def zbf (i:Nat):TDE:=λdl S Q=>match dl[i]? with
 | some (some d)=>Q d S
 | _=>False
def dC (d:D):TDE:=λ_ S Q=>Q d S
theorem zpR {e:Expr}{i:Nat}(h:PE X e (tVar i)):PD X Z e (zbf i):=zaD h λσ H Qv ⟨r,dl,S,Q,rs,rel,q,ret⟩=>by
 unfold zbf at q
 split at q
 ·rename_i d e
  obtain⟨v,h1,h2⟩:=rs.2 i d e
  exact⟨v,h1,ret v H r d S Ext.refl rel h2 q⟩
 ·exact q.elim
theorem dv (i:Nat){x:Str}{pos:Pos}(hN:X.N[i]?=some x:=by rfl)(hv:Vis X.env.scope x:=by first | exact Or.inl rfl | exact Or.inr (Or.inl rfl) | exact Or.inr (Or.inr rfl))(hd:(x==("__debug__":Str))=false:=by decide)
  (hcd:(x==("__classdict__":Str))=false:=by decide):PD X Z (.Name x pos) (zbf i):=zpR (zjN hN hv hd hcd)
theorem zjx {e:Expr}{d:D}{v:V}(h:PE X e (tC v))(q:∀r H,Rp r H d v):PD X Z e (dC d):=zaD h λσ H Qv ⟨r,dl,S,Q,rs,rel,h,ret⟩=>ret v H r d S Ext.refl rel (q r H) h
theorem zac {i j pos}:PD X Z (.Constant (.int i) j pos) (dC (.int i)):=zjx zoU λ_ _=>.int i
theorem zc7 {b j pos}:PD X Z (.Constant (.bool b) j pos) (dC (.bl b)):=zjx pe_bl λ_ _=>.bl b
theorem zap {x j pos}:PD X Z (.Constant (.str x) j pos) (dC (.str x)):=zjx zoh λ_ _=>.str x
abbrev W2:=D→D→Sto→DK→Prop
abbrev W1:=D→Sto→DK→Prop
def upO (K:PySem.W.Frag)(Z:Zx)(w:W2):R2:=λx y H Qv=>∃r S dx dy Q,Rel K Z r S H∧Rp r H dx x∧Rp r H dy y∧w dx dy S Q∧Ret K Z r H Q Qv
def upU (K:PySem.W.Frag)(Z:Zx)(w:W1):V→Hp→VK→Prop:=λx H Qv=>∃r S dx Q,Rel K Z r S H∧Rp r H dx x∧w dx S Q∧Ret K Z r H Q Qv
def dOp (w:W2)(ta tb:TDE):TDE:=λdl S Q=>ta dl S λx S1=>tb dl S1 λy S2=>w x y S2 Q
def dUn (w:W1)(ta:TDE):TDE:=λdl S Q=>ta dl S λx S1=>w x S1 Q
variable {a b c:Expr}{ta tb tc:TDE}{pos:Pos}
theorem zhX {w:W2}{σ:St}{H:Hp}{Qv:VK}(h:up X.K Z (dOp w ta tb) σ H Qv):tOp (upO X.K Z w) (up X.K Z ta) (up X.K Z tb) σ H Qv:=by
 obtain⟨r,dl,S,Q,rs,rel,h,ret⟩:=h
 exact⟨r,dl,S,_,rs,rel,h,λv H1 r1 dx S1 e1 rel1 p1 h1=>⟨r1,dl,S1,_,rs.ext e1,rel1,h1,λv2 H2 r2 dy S2 e2 rel2 p2 h2=>⟨r2,S2,dx,dy,Q,rel2,p1.ext e2,p2,h2,ret.ext (e1.trans e2)⟩⟩⟩
theorem zag {op:Operator}{w:W2}(ho:OpR X (binaryOp op) (upO X.K Z w))(ha:PD X Z a ta)(hb:PD X Z b tb):PD X Z (.BinOp a op b pos) (dOp w ta tb):=zaD (pe_op ho ha hb) λ_ _ _ h=>zhX h
theorem zej {op:UnaryOp}{w:W1}(ho:UnR X (unaryOp op) (upU X.K Z w))(ha:PD X Z a ta):PD X Z (.UnaryOp op a pos) (dUn w ta):=zaD (pe_un ho ha) λσ H Qv ⟨r,dl,S,Q,rs,rel,h,ret⟩=>
 ⟨r,dl,S,_,rs,rel,h,λv H1 r1 dx S1 e1 rel1 p1 h1=>⟨r1,S1,dx,Q,rel1,p1,h1,ret.ext e1⟩⟩
theorem zcR {op:CmpOp}{w:W2}(ho:OpR X (compareOp op) (upO X.K Z w))(ha:PD X Z a ta)(hb:PD X Z b tb)(hm:behindInMarks op b=false):PD X Z (.Compare a [op] [b] pos) (dOp w ta tb):=zaD (zlv ho ha hb hm) λ_ _ _ h=>zhX h
theorem zea {f:Value→Value→Sem Value}{r r':R2}(h:OpR X f r)(g:∀x y H Q,r' x y H Q→r x y H Q):OpR X f r':=λpins s σ H x y v u Q I rx ry q=>h pins s σ H x y v u Q I rx ry (g x y H Q q)
theorem zpm {f:Value→Sem Value}{r r':V→Hp→VK→Prop}(h:UnR X f r)(g:∀x H Q,r' x H Q→r x H Q):UnR X f r':=λpins s σ H x v Q I rx q=>h pins s σ H x v Q I rx (g x H Q q)
theorem ze7 {f:Value}{r r':List V→Hp→VK→Prop}(h:zaL X f r)(g:∀x H Q,r' x H Q→r x H Q):zaL X f r':=λpins s σ H xs us Q I rx q=>h pins s σ H xs us Q I rx (g xs H Q q)
def wI (C:Int→Int→Prop)(g:Int→Int→D):W2:=λx y S Q=>match x,y with
 | .int i,.int j=>C i j∧Q (g i j) S
 | _,_=>False
def wI0 (g:Int→Int→D):W2:=λx y S Q=>match x,y with
 | .int i,.int j=>Q (g i j) S
 | _,_=>False
theorem opD {f:Value→Value→Sem Value}{C:Int→Int→Prop}{g:Int→Int→V}{g':Int→Int→D}(h:OpR X f (rI C g))(hg:∀r H i j,Rp r H (g' i j) (g i j)):OpR X f (upO X.K Z (wI C g')):=
 zea h λx y H Qv ⟨r,S,dx,dy,Q,rel,px,py,q,ret⟩=>by
  cases px <;> cases py <;> first
   | exact⟨_,_,rfl,rfl,q.1,ret _ _ _ _ _ Ext.refl rel (hg _ _ _ _) q.2⟩
   | exact(show False from q).elim
theorem zew {f:Value→Value→Sem Value}{g:Int→Int→V}{g':Int→Int→D}(h:OpR X f (rI0 g))(hg:∀r H i j,Rp r H (g' i j) (g i j)):OpR X f (upO X.K Z (wI0 g')):=
 zea h λx y H Qv ⟨r,S,dx,dy,Q,rel,px,py,q,ret⟩=>by
  cases px <;> cases py <;> first
   | exact⟨_,_,rfl,rfl,ret _ _ _ _ _ Ext.refl rel (hg _ _ _ _) q⟩
   | exact(show False from q).elim
abbrev wAdd:W2:=wI0 λi j=>.int (i+j)
abbrev wSub:W2:=wI0 λi j=>.int (i-j)
abbrev wMul:W2:=wI IntMulOk λi j=>.int (i*j)
def CFd (_ j:Int):Prop:=0<j∧j.natAbs.log2<9000
abbrev wFdiv:W2:=wI CFd λi j=>.int (i/j)
def CFn (_ j:Int):Prop:=j≠0∧j.natAbs.log2<9000
abbrev zpi:W2:=wI CFn λi j=>.int (i.fdiv j)
abbrev wMod:W2:=wI (λ_ j=>0<j) λi j=>.int (i%j)
abbrev wPow:W2:=wI CPow λi j=>.int (i^j.toNat)
theorem zb3:OpR X (binaryOp .Add) (upO X.K Z wAdd):=zew znO λ_ _ _ _=>.int _
theorem zdz:OpR X (binaryOp .Sub) (upO X.K Z wSub):=zew zm0 λ_ _ _ _=>.int _
theorem zjh:OpR X (binaryOp .Mult) (upO X.K Z wMul):=opD (opI λ_ _ _ _ _ _ _ hc q=>mul_int q hc) λ_ _ _ _=>.int _
theorem zlf:OpR X (binaryOp .FloorDiv) (upO X.K Z wFdiv):=opD (opI λi j _ _ _ _ _ hc q=>floordiv_int (by have h:0<j:=hc.1; omega) (by have h:0<j:=hc.1; rw[Int.fdiv_eq_ediv_of_nonneg i (by omega)]; exact q) (.inl (PyProof.noPylong_of_log2 hc.2))) λ_ _ _ _=>.int _
theorem zjT:OpR X (binaryOp .FloorDiv) (upO X.K Z zpi):=opD (opI λ_ _ _ _ _ _ _ hc q=>floordiv_int hc.1 q (.inl (PyProof.noPylong_of_log2 hc.2))) λ_ _ _ _=>.int _
theorem zdu:OpR X (binaryOp .Mod) (upO X.K Z wMod):=opD zot λ_ _ _ _=>.int _
theorem zmI:OpR X (binaryOp .Pow) (upO X.K Z wPow):=opD zq5 λ_ _ _ _=>.int _
abbrev wLt:W2:=wI0 λi j=>.bl (decide (i<j))
abbrev wLe:W2:=wI0 λi j=>.bl (decide (i≤j))
abbrev wGt:W2:=wI0 λi j=>.bl (decide (j<i))
abbrev wGe:W2:=wI0 λi j=>.bl (decide (j≤i))
theorem zcg:OpR X (compareOp .Lt) (upO X.K Z wLt):=zew op_lt λ_ _ _ _=>.bl _
theorem zkx:OpR X (compareOp .LtE) (upO X.K Z wLe):=zew op_le λ_ _ _ _=>.bl _
theorem zlg:OpR X (compareOp .Gt) (upO X.K Z wGt):=zew op_gt λ_ _ _ _=>.bl _
theorem do_ge:OpR X (compareOp .GtE) (upO X.K Z wGe):=zew op_ge λ_ _ _ _=>.bl _
def wNeg:W1:=λx S Q=>match x with
 | .int i=>Q (.int (-i)) S
 | _=>False
theorem zeo:UnR X (unaryOp .USub) (upU X.K Z wNeg):=zpm zrW λx H Qv ⟨r,S,dx,Q,rel,px,q,ret⟩=>by
 cases px <;> first
  | exact⟨_,rfl,ret _ _ _ _ _ Ext.refl rel (.int _) q⟩
  | exact(show False from q).elim
end
def eqF:D→D→Option Bool
 | .non,.non=>some true
 | .bl i,.bl j=>some (i==j)
 | .int i,.int j=>some (decide (i=j))
 | .str i,.str j=>some (decide (i=j))
 | .non,.int _=>some false | .int _,.non=>some false | .non,.bl _=>some false | .bl _,.non=>some false | .non,.str _=>some false | .str _,.non=>some false
 | .int _,.str _=>some false | .str _,.int _=>some false | .bl _,.str _=>some false | .str _,.bl _=>some false
 | _,_=>none
def eqL (f:D→D→Option Bool):List D→List D→Option Bool
 | [],[]=>some true
 | x::xs,y::ys=>match f x y,eqL f xs ys with
  | some b,some c=>some (b&&c)
  | _,_=>none
 | _,_=>some false
def eqT (f:D→D→Option Bool):D→D→Option Bool
 | .tup xs,.tup ys=>eqL f xs ys
 | x,y=>eqF x y
abbrev eq1:D→D→Option Bool:=eqT eqF
abbrev eq2:D→D→Option Bool:=eqT eq1
def zdT (n:Nat)(f:D→D→Option Bool):Prop:=∀(X:Cx) (pins:List (Addr×Obj)) (σ:St) (H:Hp) (s:Shared) (r:List Addr) (A:Around) (dx dy:D) (x y:V) (u v:Value) (b:Bool),
 Inv X pins σ H s→A.units+n<cLine→Rp r H dx x→Rp r H dy y→zal x u→zal y v→f dx dy=some b→SeqAt.EqAt A s u v b
def zev (f:D→D→Option Bool):Prop:=∀(r:List Addr) (H:Hp) (dx dy:D) (x:V) (b:Bool),Rp r H dx x→Rp r H dy x→f dx dy=some b→b=true
theorem zfu:zev eqF:=by
 intro r H dx dy x b px py e
 cases px <;> cases py <;> simp[eqF] at e <;> first | exact e.symm | exact e
theorem zkj {f:D→D→Option Bool}(hf:zev f){r:List Addr}{H:Hp}:∀ {xs ys:List D} {vs:List V} {b:Bool},Rps r H xs vs→Rps r H ys vs→eqL f xs ys=some b→b=true
 | [],[],_,b,_,_,e=>by simp[eqL] at e; exact e
 | [],y::ys,vs,b,p,q,e=>by
  have h1:=p.unnil
  subst h1
  exact absurd q.1 (by simp)
 | x::xs,[],vs,b,p,q,e=>by
  have h1:=q.unnil
  subst h1
  exact absurd p.1 (by simp)
 | x::xs,y::ys,vs,b,p,q,e=>by
  obtain⟨v,vs',rfl,p1,p2⟩:=p.uncons
  obtain⟨q1,q2⟩:=q.tail
  unfold eqL at e
  split at e
  ·rename_i b1 c1 e1 e2
   have h1:=hf r H x y v b1 p1 q1 e1
   have h2:=zkj hf p2 q2 e2
   subst h1; subst h2
   simp at e
   exact e
  ·cases e
theorem zj0 {f:D→D→Option Bool}(hf:zev f):zev (eqT f):=by
 intro r H dx dy x b px py e
 cases px with
 | tup e1 l1 f1=>
  cases py with
  | tup e2 l2 f2=>
   rw[e1] at e2; cases e2
   exact zkj hf ⟨l1,f1⟩ ⟨l2,f2⟩ e
  | ref h=>simp[eqT,eqF] at e
  | exc h=>simp[eqT,eqF] at e
 | non=>exact zfu r H _ _ _ b .non py (by cases py <;> exact e)
 | bl i=>exact zfu r H _ _ _ b (.bl i) py (by cases py <;> exact e)
 | int i=>exact zfu r H _ _ _ b (.int i) py (by cases py <;> exact e)
 | str i=>exact zfu r H _ _ _ b (.str i) py (by cases py <;> exact e)
 | ref h=>cases py <;> simp[eqT,eqF] at e
 | exc h=>cases py <;> simp[eqT,eqF] at e
theorem zi4 (n:Nat):zdT n eqF:=by
 intro X pins σ H s r A dx dy x y u v b I hu px py rx ry e
 have fin:∀ {x y:V},zal x u→zal y v→zcn x=true→zcn y=true→eqV x y=b→SeqAt.EqAt A s u v b:=λrx ry fx fy e'=>by
  subst e'; exact zkV rx ry fx fy
 cases px <;> cases py <;> simp[eqF] at e <;> refine fin rx ry rfl rfl ?_ <;> simp[eqV,e] <;> first | exact e | (subst e; simp) | skip
theorem zdJ {X:Cx}{pins:List (Addr×Obj)}{σ:St}{H:Hp}{s:Shared}{a:Addr}{xs:List V}(I:Inv X pins σ H s)(h:H a=some (.tup xs)):∃its:List Value,zah xs its∧IsTup s.heap a its.toArray∧xs.length≤sizeLine:=I.tuple (SqT.of h)
def zcb (f:D→D→Option Bool)(xs ys:List D)(j:Nat):Bool:=match xs[j]?,ys[j]? with
 | some x,some y=>(f x y).getD false
 | _,_=>false
theorem zlJ {f:D→D→Option Bool}:∀ {xs ys:List D} {b:Bool},eqL f xs ys=some b→(∀(j:Nat) (x y:D),xs[j]?=some x→ys[j]?=some y→∃c,f x y=some c)∧((List.range (min xs.length ys.length)).all (zcb f xs ys)&&xs.length==ys.length)=b
 | [],[],b,e=>by simp[eqL] at e; subst e; simp
 | [],y::ys,b,e=>by simp[eqL] at e; subst e; simp
 | x::xs,[],b,e=>by simp[eqL] at e; subst e; simp
 | x::xs,y::ys,b,e=>by
  unfold eqL at e
  split at e
  ·rename_i b1 c1 e1 e2
   obtain⟨h1,h2⟩:=zlJ e2
   refine⟨λj p q hp hq=>?_,?_⟩
   ·cases j with
    | zero=>simp at hp hq; subst hp; subst hq; exact⟨b1,e1⟩
    | succ j=>exact h1 j p q (by simpa using hp) (by simpa using hq)
   ·have z:min (x::xs).length (y::ys).length=min xs.length ys.length+1:=by simp[Nat.succ_min_succ]
    rw[z,List.range_succ_eq_map,List.all_cons,List.all_map]
    have e0:zcb f (x::xs) (y::ys) 0=b1:=by simp[zcb,e1]
    have es:(zcb f (x::xs) (y::ys) ∘ Nat.succ)=zcb f xs ys:=by funext j; simp[zcb]
    rw[e0,es]
    have e3:((x::xs).length==(y::ys).length)=(xs.length==ys.length):=by simp
    rw[e3,Bool.and_assoc,h2]
    simp at e
    exact e
  ·cases e
theorem zg1 {n:Nat}{f:D→D→Option Bool}(hf:zdT n f){X:Cx}{pins:List (Addr×Obj)}{σ:St}{H:Hp}{s:Shared}{r:List Addr}{A:Around}{xs ys:List D}{us vs:List V}{is js:List Value}{b:Bool}
  (I:Inv X pins σ H s)(hu:A.units+n<cLine)(p:Rps r H xs us)(q:Rps r H ys vs)(ri:zah us is)(rj:zah vs js)(e:eqL f xs ys=some b):
  (∀j (h1:j<is.toArray.size) (h2:j<js.toArray.size),SeqAt.EqAt A s is.toArray[j] js.toArray[j] (zcb f xs ys j))∧((List.range (min is.toArray.size js.toArray.size)).all (zcb f xs ys)&&is.toArray.size==js.toArray.size)=b:=by
 obtain⟨h1,h2⟩:=zlJ e
 have l1:is.toArray.size=xs.length:=by rw[Vai,← ri.length,p.1]
 have l2:js.toArray.size=ys.length:=by rw[Vai,← rj.length,q.1]
 refine⟨λj hj1 hj2=>?_,by rw[l1,l2]; exact h2⟩
 have k1:j<xs.length:=by omega
 have k2:j<ys.length:=by omega
 have g1:xs[j]?=some xs[j]:=by simp[k1]
 have g2:ys[j]?=some ys[j]:=by simp[k2]
 obtain⟨x,gx,px⟩:=p.get g1
 obtain⟨y,gy,py⟩:=q.get g2
 obtain⟨u,gu,ru⟩:=ri.get gx
 obtain⟨v,gv,rv⟩:=rj.get gy
 obtain⟨c,hc⟩:=h1 j _ _ g1 g2
 have eu:is.toArray[j]=u:=by
  have z:=Vac.mp gu
  simpa using z.2
 have ev:js.toArray[j]=v:=by
  have z:=Vac.mp gv
  simpa using z.2
 have ec:zcb f xs ys j=c:=by simp[zcb,g1,g2,hc]
 rw[eu,ev,ec]
 exact hf X pins σ H s r A _ _ x y u v c I hu px py ru rv hc
theorem zkC {n:Nat}{f:D→D→Option Bool}(hf:zdT n f)(hs:zev f):zdT (n+1) (eqT f):=by
 intro X pins σ H s r A dx dy x y u v b I hu px py rx ry e
 have zav:∀ {dx dy:D} {x y:V},Rp r H dx x→Rp r H dy y→zal x u→zal y v→eqF dx dy=some b→SeqAt.EqAt A s u v b:=λpx py rx ry e=>zi4 (n+1) X pins σ H s r A _ _ _ _ u v b I hu px py rx ry e
 cases px with
 | @tup ds xs a e1 l1 f1=>
  cases py with
  | @tup es ys a' e2 l2 f2=>
   cases rx
   cases ry
   by_cases z:a=a'
   ·subst z
    have hb:=zj0 hs r H _ _ _ b (.tup e1 l1 f1) (.tup e2 l2 f2) e
    subst hb
    exact SeqAt.EqAt.same _
   ·obtain⟨is,ri,ti,_⟩:=zdJ I e1
    obtain⟨js,rj,tj,_⟩:=zdJ I e2
    obtain⟨g1,g2⟩:=zg1 (A:=A.in1) hf I (by show A.units+1+n<_; omega) ⟨l1,f1⟩ ⟨l2,f2⟩ ri rj e
    have q:=SeqAt.RcAt.tuples (A:=A) ti tj (by omega) g1
    rw[g2] at q
    exact SeqAt.EqAt.of_refs z q
  | ref h=>simp[eqT,eqF] at e
  | _=>simp[eqT,eqF] at e
 | non=>exact zav .non py rx ry (by cases py <;> exact e)
 | bl i=>exact zav (.bl i) py rx ry (by cases py <;> exact e)
 | int i=>exact zav (.int i) py rx ry (by cases py <;> exact e)
 | str i=>exact zav (.str i) py rx ry (by cases py <;> exact e)
 | ref h=>cases py <;> simp[eqT,eqF] at e
 | exc h=>cases py <;> simp[eqT,eqF] at e
theorem zmf (n:Nat):zdT (n+1) eq1:=zkC (zi4 n) zfu
def wEq (f:D→D→Option Bool):W2:=λx y S Q=>match f x y with
 | some b=>Q (.bl b) S
 | none=>False
def wNe (f:D→D→Option Bool):W2:=λx y S Q=>match f x y with
 | some b=>Q (.bl (!b)) S
 | none=>False
section
variable {X:Cx}{Z:Zx}
theorem zly {r:List Addr}{H:Hp}{dx dy:D}{x y:V}{b:Bool}(px:Rp r H dx x)(py:Rp r H dy y)(e:eqF dx dy=some b):zhr x y=true∧decide (x=y)=b:=by
 cases px <;> cases py <;> simp[eqF] at e <;> simp[zhr] <;> first | exact e | (subst e; simp) | skip
theorem zpK {n:Nat}{f:D→D→Option Bool}(hf:zdT n f)(hu:X.A.units+1+n<cLine):OpR X (compareOp .Eq) (upO X.K Z (wEq (eqT f))):=by
 intro pins s σ H x y v u Qv I rx ry h
 obtain⟨r,S,dx,dy,Q,rel,px,py,q,ret⟩:=h
 unfold wEq at q
 split at q
 ·rename_i b e
  have zav:∀ {dx dy:D} {x y:V},Rp r H dx x→Rp r H dy y→zal x v→zal y u→eqF dx dy=some b→wpAny (model X.prog X.w) X.A (compareOp .Eq v u) (EP X pins σ Qv) X.xe s:=λpx py rx ry e=>by
   obtain⟨h1,h2⟩:=zly px py e
   refine zjb pins s σ H _ _ v u Qv I rx ry ⟨h1,?_⟩
   rw[h2]
   exact ret _ _ _ _ _ Ext.refl rel (.bl b) q
  cases px with
  | @tup ds xs a e1 l1 f1=>
   cases py with
   | @tup es ys a' e2 l2 f2=>
    cases rx
    cases ry
    obtain⟨is,ri,ti,_⟩:=zdJ I e1
    obtain⟨js,rj,tj,_⟩:=zdJ I e2
    obtain⟨g1,g2⟩:=zg1 (A:=X.A.in1) hf I (by show X.A.units+1+n<_; omega) ⟨l1,f1⟩ ⟨l2,f2⟩ ri rj e
    refine SeqAt.eq_tupleAt (A:=X.A) ti tj (by omega) g1 ?_
    rw[g2]
    exact⟨.bl b,H,I,rfl,ret _ _ _ _ _ Ext.refl rel (.bl b) q⟩
   | _=>simp[eqT,eqF] at e
  | non=>exact zav .non py rx ry (by cases py <;> exact e)
  | bl i=>exact zav (.bl i) py rx ry (by cases py <;> exact e)
  | int i=>exact zav (.int i) py rx ry (by cases py <;> exact e)
  | str i=>exact zav (.str i) py rx ry (by cases py <;> exact e)
  | ref h=>cases py <;> simp[eqT,eqF] at e
  | exc h=>cases py <;> simp[eqT,eqF] at e
 ·exact q.elim
theorem zkO {n:Nat}{f:D→D→Option Bool}(hf:zdT n f)(hu:X.A.units+1+n<cLine):OpR X (compareOp .NotEq) (upO X.K Z (wNe (eqT f))):=by
 intro pins s σ H x y v u Qv I rx ry h
 obtain⟨r,S,dx,dy,Q,rel,px,py,q,ret⟩:=h
 unfold wNe at q
 split at q
 ·rename_i b e
  have zav:∀ {dx dy:D} {x y:V},Rp r H dx x→Rp r H dy y→zal x v→zal y u→eqF dx dy=some b→wpAny (model X.prog X.w) X.A (compareOp .NotEq v u) (EP X pins σ Qv) X.xe s:=λpx py rx ry e=>by
   obtain⟨h1,h2⟩:=zly px py e
   refine op_ne pins s σ H _ _ v u Qv I rx ry ⟨h1,?_⟩
   rw[h2]
   exact ret _ _ _ _ _ Ext.refl rel (.bl (!b)) q
  cases px with
  | @tup ds xs a e1 l1 f1=>
   cases py with
   | @tup es ys a' e2 l2 f2=>
    cases rx
    cases ry
    obtain⟨is,ri,ti,_⟩:=zdJ I e1
    obtain⟨js,rj,tj,_⟩:=zdJ I e2
    obtain⟨g1,g2⟩:=zg1 (A:=X.A.in1) hf I (by show X.A.units+1+n<_; omega) ⟨l1,f1⟩ ⟨l2,f2⟩ ri rj e
    refine SeqAt.RcNeAt.tuples (A:=X.A) ti tj (by omega) g1 X.prog X.w _ _ ?_
    rw[g2]
    exact⟨.bl (!b),H,I,rfl,ret _ _ _ _ _ Ext.refl rel (.bl (!b)) q⟩
   | _=>simp[eqT,eqF] at e
  | non=>exact zav .non py rx ry (by cases py <;> exact e)
  | bl i=>exact zav (.bl i) py rx ry (by cases py <;> exact e)
  | int i=>exact zav (.int i) py rx ry (by cases py <;> exact e)
  | str i=>exact zav (.str i) py rx ry (by cases py <;> exact e)
  | ref h=>cases py <;> simp[eqT,eqF] at e
  | exc h=>cases py <;> simp[eqT,eqF] at e
 ·exact q.elim
theorem zbo {k:Nat}(hr:zax k X.A):OpR X (compareOp .Eq) (upO X.K Z (wEq eq2)):=zpK (zmf 0) (by have:=hr.un; omega)
theorem zed {k:Nat}(hr:zax k X.A):OpR X (compareOp .NotEq) (upO X.K Z (wNe eq2)):=zkO (zmf 0) (by have:=hr.un; omega)
end
section
variable {X:Cx}{Z:Zx}{a b c:Expr}{ta tb tc:TDE}{pos:Pos}{zaU:List Expr}
def zd9 (t:TDE):TDT:=λdl S Q=>t dl S λd S'=>match d with
 | .bl k=>Q k S'
 | _=>False
theorem zlt {K:PySem.W.Frag}{Z:Zx}{r:List Addr}{H:Hp}{Q:Bool→Sto→Prop}{Qb:Bool→Hp→Prop}(h:∀b H' r' S',Ext r r' H H'→Rel K Z r' S' H'→Q b S'→Qb b H'):
  Ret K Z r H (λd S'=>match d with | .bl k=>Q k S' | _=>False) (λx H'=>∃k,x=.bl k∧Qb k H'):=λv H' r' d S' e rel p q=>by
 cases p with
 | bl k=>exact⟨k,rfl,h k H' r' S' e rel q⟩
 | _=>exact(show False from q).elim
theorem zaK {op:CmpOp}{w:W2}(ho:OpR X (compareOp op) (upO X.K Z w))(ha:PD X Z a ta)(hb:PD X Z b tb)(hm:behindInMarks op b=false):PDT X Z (.Compare a [op] [b] pos) (zd9 (dOp w ta tb)):=
 zji (zow ho ha hb hm) λσ H Qb ⟨r,dl,S,Q,rs,rel,h,ret⟩=>zhX ⟨r,dl,S,_,rs,rel,h,zlt ret⟩
theorem za5 {e:Expr}{t:TDE}(h:PD X Z e t)(he:∀whole,isTrue e X.env whole=(do let v ← whole; standAt e.pos; holding [v] (truthy v)):=by intro _; rfl):PDT X Z e (zd9 t):=
 zji (zrc h he) λσ H Qb ⟨r,dl,S,Q,rs,rel,h,ret⟩=>⟨r,dl,S,_,rs,rel,h,zlt ret⟩
def dNot (t:TDT):TDT:=λdl S Q=>t dl S λk S'=>Q (!k) S'
theorem zbx {t:TDT}(ha:PDT X Z a t):PDT X Z (.UnaryOp .Not a pos) (dNot t):=
 zji (zq1 ha) λσ H Qb ⟨r,dl,S,Q,rs,rel,h,ret⟩=>⟨r,dl,S,_,rs,rel,h,λk H' r' S' e rel' q=>ret (!k) H' r' S' e rel' q⟩
def dAnd (t u:TDT):TDT:=λdl S Q=>t dl S λk S1=>if k=true then u dl S1 Q else Q false S1
def dOr (t u:TDT):TDT:=λdl S Q=>t dl S λk S1=>if k=true then Q true S1 else u dl S1 Q
theorem zp2 {t:TDT}(ha:PDT X Z a t):PDW X Z (.BoolOp .And [a] pos) t:=zsn ha
theorem zfz {t:TDT}(ha:PDT X Z a t):PDW X Z (.BoolOp .Or [a] pos) t:=zq9 ha
theorem zoT {t u:TDT}(ha:PDT X Z a t)(hb:PDW X Z (.BoolOp .And (b::zaU) pos) u):PDW X Z (.BoolOp .And (a::b::zaU) pos) (dAnd t u):=
 zlc (zsi ha hb) λσ H Qb ⟨r,dl,S,Q,rs,rel,h,ret⟩=>⟨r,dl,S,_,rs,rel,h,λk H1 r1 S1 e1 rel1 q1=>by
  cases k with
  | true=>exact zbu ⟨r1,dl,S1,Q,rs.ext e1,rel1,(by simpa using q1),λk' H2 r2 S2 e2=>ret k' H2 r2 S2 (e1.trans e2)⟩
  | false=>exact zbM (ret false H1 r1 S1 e1 rel1 (by simpa using q1))⟩
theorem zdU {t u:TDT}(ha:PDT X Z a t)(hb:PDW X Z (.BoolOp .Or (b::zaU) pos) u):PDW X Z (.BoolOp .Or (a::b::zaU) pos) (dOr t u):=
 zlc (pw_or ha hb) λσ H Qb ⟨r,dl,S,Q,rs,rel,h,ret⟩=>⟨r,dl,S,_,rs,rel,h,λk H1 r1 S1 e1 rel1 q1=>by
  cases k with
  | true=>exact zbu (ret true H1 r1 S1 e1 rel1 (by simpa using q1))
  | false=>exact zbM ⟨r1,dl,S1,Q,rs.ext e1,rel1,(by simpa using q1),λk' H2 r2 S2 e2=>ret k' H2 r2 S2 (e1.trans e2)⟩⟩
def zl7 (ta tb:TDE):TDE:=λdl S Q=>ta dl S λx S1=>match x with
 | .bl k=>if k=true then tb dl S1 Q else Q (.bl false) S1
 | _=>False
def dOrV (ta tb:TDE):TDE:=λdl S Q=>ta dl S λx S1=>match x with
 | .bl k=>if k=true then Q (.bl true) S1 else tb dl S1 Q
 | _=>False
def zll (ta:TDE):TDE:=λdl S Q=>ta dl S λx S1=>match x with
 | .bl k=>Q (.bl (!k)) S1
 | _=>False
theorem zcr {op}{t:TDE}(h:PD X Z a t):PD X Z (.BoolOp op [a] pos) t:=zro h
theorem zb6 (ha:PD X Z a ta)(hb:PD X Z (.BoolOp .And (b::zaU) pos) tb):PD X Z (.BoolOp .And (a::b::zaU) pos) (zl7 ta tb):=
 zaD (zqr ha hb) λσ H Qv ⟨r,dl,S,Q,rs,rel,h,ret⟩=>⟨r,dl,S,_,rs,rel,h,λv H1 r1 d S1 e1 rel1 p q1=>by
  cases p with
  | bl k=>
   refine⟨k,rfl,?_⟩
   cases k with
   | true=>exact zbu ⟨r1,dl,S1,Q,rs.ext e1,rel1,(by simpa using q1),ret.ext e1⟩
   | false=>exact zbM (ret _ H1 r1 (.bl false) S1 e1 rel1 (.bl false) (by simpa using q1))
  | _=>exact(show False from q1).elim⟩
theorem zi9 (ha:PD X Z a ta):PD X Z (.UnaryOp .Not a pos) (zll ta):=
 zaD (zqw ha) λσ H Qv ⟨r,dl,S,Q,rs,rel,h,ret⟩=>⟨r,dl,S,_,rs,rel,h,λv H1 r1 d S1 e1 rel1 p q1=>by
  cases p with
  | bl k=>exact⟨k,rfl,ret _ H1 r1 (.bl (!k)) S1 e1 rel1 (.bl (!k)) q1⟩
  | _=>exact(show False from q1).elim⟩
def dIfE (t:TDT)(ta tb:TDE):TDE:=λdl S Q=>t dl S λk S1=>if k=true then ta dl S1 Q else tb dl S1 Q
theorem zlR {t:TDT}(hc:PDT X Z c t)(ha:PD X Z a ta)(hb:PD X Z b tb):PD X Z (.IfExp c a b pos) (dIfE t ta tb):=
 zaD (zrS hc ha hb) λσ H Qv ⟨r,dl,S,Q,rs,rel,h,ret⟩=>⟨r,dl,S,_,rs,rel,h,λk H1 r1 S1 e1 rel1 q1=>by
  cases k with
  | true=>exact zbu ⟨r1,dl,S1,Q,rs.ext e1,rel1,(by simpa using q1),ret.ext e1⟩
  | false=>exact zbM ⟨r1,dl,S1,Q,rs.ext e1,rel1,(by simpa using q1),ret.ext e1⟩⟩
def ziQ (w w':W2)(ta tb tc:TDE):TDE:=λdl S Q=>ta dl S λx S1=>tb dl S1 λy S2=>w x y S2 λz S3=>match z with
 | .bl k=>if k=true then tc dl S3 λu S4=>w' y u S4 Q else Q (.bl false) S3
 | _=>False
theorem zny {w w':W2}{σ:St}{H:Hp}{Qv:VK}(h:up X.K Z (ziQ w w' ta tb tc) σ H Qv):zjM (upO X.K Z w) (upO X.K Z w') (up X.K Z ta) (up X.K Z tb) (up X.K Z tc) σ H Qv:=by
 obtain⟨r,dl,S,Q,rs,rel,h,ret⟩:=h
 refine⟨r,dl,S,_,rs,rel,h,λv H1 r1 dx S1 e1 rel1 p1 h1=>⟨r1,dl,S1,_,rs.ext e1,rel1,h1,λv2 H2 r2 dy S2 e2 rel2 p2 h2=>⟨r2,S2,dx,dy,_,rel2,p1.ext e2,p2,h2,λv3 H3 r3 dz S3 e3 rel3 p3 h3=>?_⟩⟩⟩
 cases p3 with
 | bl k=>
  refine⟨k,rfl,?_⟩
  cases k with
  | true=>exact zbu ⟨r3,dl,S3,_,rs.ext (e1.trans (e2.trans e3)),rel3,(by simpa using h3),λv4 H4 r4 du S4 e4 rel4 p4 h4=>⟨r4,S4,dy,du,Q,rel4,(p2.ext e3).ext e4,p4,h4,ret.ext (e1.trans (e2.trans (e3.trans e4)))⟩⟩
  | false=>exact zbM (ret _ H3 r3 (.bl false) S3 (e1.trans (e2.trans e3)) rel3 (.bl false) (by simpa using h3))
 | _=>exact(show False from h3).elim
theorem zqx {op op':CmpOp}{w w':W2}(ho:OpR X (compareOp op) (upO X.K Z w))(ho':OpR X (compareOp op') (upO X.K Z w'))(ha:PD X Z a ta)(hb:PD X Z b tb)(hc:PD X Z c tc)
  (hm:lastMarks [op,op'] [b,c]=false:=by with_unfolding_all rfl):PD X Z (.Compare a [op,op'] [b,c] pos) (ziQ w w' ta tb tc):=zaD (zrb ho ho' ha hb hc hm) λ_ _ _ h=>zny h
def zlY:D→Bool
 | .non=>true
 | _=>false
def wIsN:W2:=λx y S Q=>match y with
 | .non=>Q (.bl (zlY x)) S
 | _=>False
def wNotN:W2:=λx y S Q=>match y with
 | .non=>Q (.bl (!zlY x)) S
 | _=>False
variable {e:Expr}{es:List Expr}
def zcl:TDA:=λ_ S Q=>Q [] S
def zby (ta:TDE)(tr:TDA):TDA:=λdl S Q=>ta dl S λx S1=>tr dl S1 λxs S2=>Q (x::xs) S2
theorem zad:PDA X Z [] zcl:=zlx zfx λσ H Qv ⟨r,dl,S,Q,rs,rel,h,ret⟩=>ret [] H r [] S Ext.refl rel Rps.nil h
theorem zaa {te:TDE}{t:TDA}(ha:PD X Z e te)(hr:PDA X Z es t)(hs:starEach (e::es) X.env=(false,eval e X.env)::starEach es X.env:=by rfl):PDA X Z (e::es) (zby te t):=
 zlx (zda ha hr hs) λσ H Qv ⟨r,dl,S,Q,rs,rel,h,ret⟩=>⟨r,dl,S,_,rs,rel,h,λv H1 r1 d S1 e1 rel1 p1 h1=>⟨r1,dl,S1,_,rs.ext e1,rel1,h1,λvs H2 r2 ds S2 e2 rel2 p2 h2=>
  ret (v::vs) H2 r2 (d::ds) S2 (e1.trans e2) rel2 (Rps.cons (p1.ext e2) p2) h2⟩⟩
def zh3 (t:TDA):TDE:=λdl S Q=>t dl S λds S1=>if ds.length≤1000 then Q (.tup ds) S1 else False
def zg4 (t:TDA):TDE:=λdl S Q=>t dl S λds S1=>if ds.length≤1000 then Q (.ref S1.length) (S1++[.lst ds]) else False
theorem zgh {A:Prop}{p:Prop} [Decidable p] (h:if p then A else False):p∧A:=by
 split at h
 ·exact⟨by assumption,h⟩
 ·exact h.elim
theorem zbF {n:Nat}(h:n≤1000):n≤sizeLine:=VaC (ziv h)
theorem zaY {x1}{t:TDA}(h:PDA X Z es t):PD X Z (.Tuple es x1 pos) (zh3 t):=
 zaD (zm8 h) λσ H Qv ⟨r,dl,S,Q,rs,rel,h,ret⟩=>⟨r,dl,S,_,rs,rel,h,λvs H1 r1 ds S1 e1 rel1 p1 h1=>by
  obtain⟨hl,h1⟩:=zgh h1
  refine⟨by rw[← p1.1]; exact zbF hl,λp hp=>?_⟩
  have x:Ext r1 r1 H1 (upd H1 p (.tup vs)):=⟨λ_ _ q=>q,λa xs q=>zdw hp _ _ q,λa c q=>zdw hp _ _ q⟩
  exact ret _ _ r1 (.tup ds) S1 (e1.trans x) (rel1.same (zdw hp)) ((p1.ext x).tupR zbV) h1⟩
theorem zdb {r:List Addr}{p:Addr}{H:Hp}{n:Nat}(h:r.length=n):Rp (r++[p]) H (.ref n) (.ref p):=.ref (by subst h; simp)
theorem za6 {t:TDA}(h:PDA X Z es t):PD X Z (.List es pos) (zg4 t):=
 zaD (zqO h) λσ H Qv ⟨r,dl,S,Q,rs,rel,h,ret⟩=>⟨r,dl,S,_,rs,rel,h,λvs H1 r1 ds S1 e1 rel1 p1 h1=>by
  obtain⟨hl,h1⟩:=zgh h1
  refine⟨by rw[← p1.1]; exact zbF hl,λp hp=>?_⟩
  obtain⟨rel2,x⟩:=rel1.push hp p1
  exact ret _ _ _ (.ref S1.length) _ (e1.trans x) rel2 (zdb rel1.len) h1⟩
def wIx:W2:=λx y S Q=>match x,y with
 | .tup xs,.int i=>match atI xs i with
  | some d=>Q d S
  | none=>False
 | .ref n,.int i=>match lAt S n with
  | some o=>match atI (zay o) i with
   | some d=>Q d S
   | none=>False
  | none=>False
 | _,_=>False
theorem zlK {r:List Addr}{H:Hp}{ds:List D}{vs:List V}{i:Int}{d:D}(h:Rps r H ds vs)(e:atI ds i=some d):∃v,atI vs i=some v∧Rp r H d v:=by
  unfold atI at e ⊢
  rw[← h.1]
  cases q:ixN ds.length i with
  | none=>
   rw[q] at e
   cases e
  | some j=>
    rw[q] at e
    exact h.get e
theorem do_ix:IxR X (upO X.K Z wIx):=by
 intro value slice pins s σ H x y v u Qv I rx ry h hs
 obtain⟨r,S,dx,dy,Q,rel,px,py,q,ret⟩:=h
 cases px with
 | @tup ds xs a e1 l1 f1=>
  cases py with
  | int i=>
   have q':(match atI ds i with | some d=>Q d S | none=>False):=q
   split at q'
   ·rename_i d e
    obtain⟨w,hw,pw⟩:=zlK ⟨l1,f1⟩ e
    exact zrE value slice pins s σ H _ _ v u Qv I rx ry ⟨a,xs,i,w,rfl,rfl,SqT.of e1,hw,ret w H r d S Ext.refl rel pw q'⟩ hs
   ·exact q'.elim
  | _=>exact(show False from q).elim
 | @ref n a e1=>
  cases py with
  | int i=>
   have q':(match lAt S n with | some o=>(match atI (zay o) i with | some d=>Q d S | none=>False) | none=>False):=q
   split at q'
   ·rename_i o eo
    obtain⟨eo,eL⟩:=zcz eo
    obtain⟨a',ha,ob⟩:=rel.at eo
    rw[e1] at ha; cases ha
    obtain⟨xs,sq,pr⟩:=ob.list eL
    split at q'
    ·rename_i d e
     obtain⟨w,hw,pw⟩:=zlK pr e
     exact zsd value slice pins s σ H _ _ v u Qv I rx ry ⟨a,xs,i,w,rfl,rfl,sq,hw,ret w H r d S Ext.refl rel pw q'⟩ hs
    ·exact q'.elim
   ·exact q'.elim
  | _=>exact(show False from q).elim
 | _=>exact(show False from q).elim
theorem zaw (ha:PD X Z a ta)(hb:PD X Z b tb)(hs:zhF b):PD X Z (.Subscript a b pos) (dOp wIx ta tb):=zaD (pe_ix do_ix ha hb hs) λ_ _ _ h=>zhX h
end
theorem zlN {P:Program}{w:World}{H:Hp}{h:Heap}{a:Addr}:∀ {o:HO},zba P w H h a o→∃ob,h.get? a=some ob
 | .lst _,x=>by obtain⟨_,_,_,_,e⟩:=x; exact⟨_,e⟩
 | .tup _,x=>by obtain⟨_,_,_,ob,e,_⟩:=x; exact⟨ob,e⟩
 | .dK _,x=>by obtain⟨_,_,_,_,ob,_,_,e,_⟩:=x; exact⟨ob,e⟩
 | .dT _,x=>by obtain⟨_,_,_,_,ob,_,_,e,_⟩:=x; exact⟨ob,e⟩
 | .set _ _,x=>by obtain⟨ob,_,_,_,e,_⟩:=x; exact⟨ob,e⟩
 | .ins _ _ _,x=>by obtain⟨_,_,_,e,_⟩:=x; exact⟨_,e⟩
 | .own _,x=>x
 | .xd _,x=>by obtain⟨_,⟨ob,_,_,e,_⟩,_⟩:=x; exact⟨ob,e⟩
 | .rng _ _,x=>by obtain⟨_,_,_,e⟩:=x; exact⟨_,e⟩
 | .frz ob _,x=>⟨ob,x.1⟩
 | .tbl _,x=>⟨_,x⟩
 | .met _ _,x=>⟨_,x⟩
 | .ext _,x=>x.2.1
structure Bk (fs:List Addr)(H H':Hp)(B h:Heap)(ea:Addr):Prop where
 trk:∀b u,H' b=some u→∃o,B.get? b=some o
 old:∀b o,h.get? b=some o→H b=none→b ∉ fs→B.get? b=some o
 all:∀b o,h.get? b=some o→b ∉ fs→∃o',B.get? b=some o'
 new:H' ea=none
def CXE (P:Program)(w:World):CXT:=λouter H s E e s'=>∃(ea c:Addr) (a0:Value) (B:Heap) (H':Hp),e=.ref ea∧s'.os=s.os∧AllBare s'.gens∧Un (frs outer) [] H H' s.heap s'.heap∧HOk P w H' s'.heap∧
 Heap.FlyingW B outer ea (.ref c) a0 s'.heap∧Bk (frs outer) H H' B s.heap ea∧E (.ref c) none H'
theorem zi6 {P:Program}{w:World}{H':Hp}{B h h':Heap}(ok:HOk P w H' h)(trk:∀b u,H' b=some u→∃o,B.get? b=some o)(s1:B.StaysIn h)(s2:B.StaysIn h'):HOk P w H' h':=λa o e=>
 (ok a o e).stay (λb u hb q=>by
  have ht:∃z,H' b=some z:=by
   rcases hb with rfl | hb
   ·exact⟨o,e⟩
   ·exact⟨_,hb⟩
  obtain⟨z,hz⟩:=ht
  obtain⟨ob,eo⟩:=trk b z hz
  have:=s1 b ob eo
  rw[q] at this
  cases this
  exact s2 b u eo) (λ_ z=>z) λ_ _ z=>z
section
variable {X:Cx}{pins:List (Addr×Obj)}{σ:St}{H:Hp}{s:Shared}
theorem zd5 {b:Addr}(I:Inv X pins σ H s)(hs:X.stack=X.env::X.outer)(hf:X.env.frame=some X.env.locals):b∈frs X.stack↔b=X.env.locals∨b∈X.fs:=by
 rw[hs]
 unfold frs
 rw[List.filterMap_cons,hf]
 exact Vad
theorem zj1 {H':Hp}{B h':Heap}{s':Shared}{ea c:Addr}{a0:Value}(I:Inv X pins σ H s)(hex:X.ex=[])(hs:X.stack=X.env::X.outer)(hf:X.env.frame=some X.env.locals)
  (un:Un (frs X.stack) [] H H' s.heap s'.heap)(fl:Heap.FlyingW B (X.env::X.outer) ea (.ref c) a0 s'.heap)(fl':Heap.FlyingW B X.outer ea (.ref c) a0 h')(up:s'.heap.UpToSlots h')(bk:Bk (frs X.stack) H H' B s.heap ea):
  Un X.fs [] X.H₀ H' X.s₀.heap h'∧Bk X.fs X.H₀ H' B X.s₀.heap ea:=by
 have nx:∀b:Addr,b ∉ X.ex:=λb z=>by rw[hex] at z; exact absurd z (by simp)
 have nL:∀ {b:Addr} {o:Obj},X.s₀.heap.get? b=some o→b≠X.env.locals:=λ{b o} e=>Val (Vag (Heap.lt_size e) I.ok.above)
 have nS:∀ {b:Addr} {o:Obj},X.s₀.heap.get? b=some o→b ∉ X.fs→b ∉ frs X.stack:=λ{b o} e hb z=>by
  rcases (zd5 I hs hf).mp z with z | z
  ·exact nL e z
  ·exact hb z
 have old:∀b o,X.s₀.heap.get? b=some o→X.H₀ b=none→b ∉ X.fs→B.get? b=some o:=λb o e n hb=>bk.old b o (I.base.keep b o e n hb (nx b)) (I.base.free b o e n (nx b)) (nS e hb)
 have slot:∀b o,X.s₀.heap.get? b=some o→X.H₀ b=none→b∈X.fs→∃sl,h'.get? b=some { o with slots:=sl }:=λb o e n hb=>by
  obtain⟨s1,e1⟩:=I.base.slot b o e n hb (nx b)
  have hm:b∈frs X.stack:=(zd5 I hs hf).mpr (.inr hb)
  obtain⟨s2,e2⟩:=un.slot b _ e1 (I.base.free b o e n (nx b)) hm (by simp)
  obtain⟨_,o3,e3,d3⟩:=fl.2.2.1.mem (show b∈(X.env::X.outer).filterMap (·.frame) by rw[← hs]; exact hm)
  rw[e2] at e3
  cases e3
  obtain⟨sl,e4⟩:=up b _ e2 d3
  exact⟨sl,e4⟩
 have all:∀b o,X.s₀.heap.get? b=some o→b ∉ X.fs→∃o',B.get? b=some o':=λb o e hb=>by
  obtain⟨o1,e1⟩:=I.base.there b o e (nx b)
  exact bk.all b o1 e1 (nS e hb)
 refine⟨⟨λb o e n hb _=>fl'.1 b o (old b o e n hb),λb o e n hb _=>slot b o e n hb,λb o e n _=>?_,λb o e _=>?_,λb xs e=>un.tups b xs (I.base.tups b xs e),λb ob u e=>un.frzs b ob u (I.base.frzs b ob u e),λb ps e=>?_⟩,⟨bk.trk,old,all,bk.new⟩⟩
 ·obtain⟨o1,e1⟩:=I.base.there b o e (nx b)
  exact un.free b o1 e1 (I.base.free b o e n (nx b)) (by simp)
 ·by_cases hb:b∈X.fs
  ·obtain⟨sl,e1⟩:=slot b o e (I.ok.frf b hb) hb
   exact⟨_,e1⟩
  ·obtain⟨o',e'⟩:=all b o e hb
   exact⟨o',fl'.1 _ _ e'⟩
 ·obtain⟨m1,e1⟩:=I.base.tbls b ps e
  obtain⟨m2,e2⟩:=un.tbls b _ e1
  exact⟨m1++m2,by rw[e2,Array.append_assoc]⟩
end
section
variable {P:Program}{w:World}{K:PySem.W.Frag}{mg:Str→Option Value}{base:Heap}{N:List Str}{qual:Str}{scope:Scope}{f:Addr}{cdv:Value}{A:Around}{outer:List Env}{s0:Shared}{H0:Hp}{E:XK}
theorem zoc:zhT (CXE P w) (zaS (CXE P w) P w K mg base N qual scope f cdv A outer s0 H0 E) E:=by
 intro pins σ H s e s' I hq
 obtain⟨ea,c,a0,B,H',rfl,os,bare,un,hok,fl,bk,q⟩:=hq
 refine wpAny_leaves_onW I.ok.frames rfl fl λh' fl' up=>?_
 obtain⟨h1,h2⟩:=zj1 I rfl rfl rfl un fl fl' up bk
 exact⟨ea,c,a0,B,H',rfl,os.trans I.os,bare,h1,zi6 hok bk.trk fl.1 fl'.1,fl',h2,q⟩
def zi8 (X:Cx)(W:St→XK):Prop:=∀(pins:List (Addr×Obj)) (σ:St) (H:Hp) (s:Shared) (h':Heap) (e c:Addr) (vs:List Value),Inv X pins σ H s→Heap.MadeExcOf s.heap h' e (.ref c) vs→W σ (.ref c) none H→X.xe (.ref e) { s with heap:=h' }
theorem zos:zi8 (zaS (CXE P w) P w K mg base N qual scope f cdv A outer s0 H0 E) (λ_=>E):=by
 intro pins σ H s h' e c vs I hx q
 have inB:∀ {b:Addr} {o:Obj},s.heap.get? b=some o→b ∉ frs (zaS (CXE P w) P w K mg base N qual scope f cdv A outer s0 H0 E).stack→(PySem.W.hideAll s.heap (frs (zaS (CXE P w) P w K mg base N qual scope f cdv A outer s0 H0 E).stack)).get? b=some o:=λe hb=>PySem.W.hideAll_get _ e hb
 have hfr:s.heap.FunFrames (PySem.W.hideAll s.heap (frs (zaS (CXE P w) P w K mg base N qual scope f cdv A outer s0 H0 E).stack)) (zaS (CXE P w) P w K mg base N qual scope f cdv A outer s0 H0 E).stack:=
  PySem.W.funFrames_hide I.stack λenv he a hf=>List.mem_filterMap.mpr ⟨env,he,hf⟩
 have st:(PySem.W.hideAll s.heap (frs (zaS (CXE P w) P w K mg base N qual scope f cdv A outer s0 H0 E).stack)).StaysIn s.heap:=λb o z=>PySem.W.of_hideAll _ z
 have trk:∀b u,H b=some u→∃o,(PySem.W.hideAll s.heap (frs (zaS (CXE P w) P w K mg base N qual scope f cdv A outer s0 H0 E).stack)).get? b=some o:=λb u z=>by
  obtain⟨o,eo⟩:=zlN (I.hok b u z)
  exact⟨o,inB eo λhb=>by rw[I.stkFree b hb] at z; cases z⟩
 have he:H e=none:=by
  cases z:H e with
  | none=>rfl
  | some u=>
   obtain⟨o,eo⟩:=zlN (I.hok e u z)
   rw[hx.new] at eo; cases eo
 have bk:Bk (frs (zaS (CXE P w) P w K mg base N qual scope f cdv A outer s0 H0 E).stack) H H (PySem.W.hideAll s.heap (frs (zaS (CXE P w) P w K mg base N qual scope f cdv A outer s0 H0 E).stack)) s.heap e:=
  ⟨trk,λb o z _ hb=>inB z hb,λb o z hb=>⟨o,inB z hb⟩,he⟩
 refine wpAny_leaves_madeW I.ok.frames rfl st hfr hx λh2 t fl' _ _ up=>?_
 have un:Un (frs (zaS (CXE P w) P w K mg base N qual scope f cdv A outer s0 H0 E).stack) [] H H s.heap s.heap:=Un.refl
 have up':s.heap.UpToSlots h2:=(Heap.UpToSlots.of_keeps hx.keeps).trans up
 have nL:∀ {b:Addr} {o:Obj},s0.heap.get? b=some o→b ∉ frs outer→b ∉ frs (zaS (CXE P w) P w K mg base N qual scope f cdv A outer s0 H0 E).stack:=λ{b o} z hb y=>by
  rcases (zd5 I rfl rfl).mp y with y | y
  ·exact Val (Vag (Heap.lt_size z) I.ok.above) y
  ·exact hb y
 have old:∀b o,s0.heap.get? b=some o→H0 b=none→b ∉ frs outer→(PySem.W.hideAll s.heap (frs (zaS (CXE P w) P w K mg base N qual scope f cdv A outer s0 H0 E).stack)).get? b=some o:=λb o z n hb=>inB (I.base.keep b o z n hb (by intro y; exact absurd (show b∈([]:List Addr) from y) (by simp))) (nL z hb)
 have all:∀b o,s0.heap.get? b=some o→b ∉ frs outer→∃o',(PySem.W.hideAll s.heap (frs (zaS (CXE P w) P w K mg base N qual scope f cdv A outer s0 H0 E).stack)).get? b=some o':=λb o z hb=>by
  obtain⟨o1,e1⟩:=I.base.there b o z (by intro y; exact absurd (show b∈([]:List Addr) from y) (by simp))
  exact⟨o1,inB e1 (nL z hb)⟩
 have slot:∀b o,s0.heap.get? b=some o→H0 b=none→b∈frs outer→∃sl,h2.get? b=some { o with slots:=sl }:=λb o z n hb=>by
  obtain⟨s1,e1⟩:=I.base.slot b o z n hb (by intro y; exact absurd (show b∈([]:List Addr) from y) (by simp))
  obtain⟨_,o3,e3,d3⟩:=hfr.mem (show b∈(zaS (CXE P w) P w K mg base N qual scope f cdv A outer s0 H0 E).stack.filterMap (·.frame) from (zd5 I rfl rfl).mpr (.inr hb))
  rw[e1] at e3
  cases e3
  obtain⟨sl,e4⟩:=up' b _ e1 d3
  exact⟨sl,e4⟩
 refine⟨e,c,.ref t,_,H,rfl,I.os,I.bare,⟨λb o z n hb _=>fl'.1 b o (old b o z n hb),λb o z n hb _=>slot b o z n hb,λb o z n _=>I.base.free b o z n (by intro y; exact absurd (show b∈([]:List Addr) from y) (by simp)),λb o z _=>?_,I.base.tups,I.base.frzs,I.base.tbls⟩,zi6 I.hok trk st fl'.1,fl',⟨trk,old,all,he⟩,q⟩
 by_cases hb:b∈frs outer
 ·obtain⟨sl,e1⟩:=slot b o z (I.ok.frf b hb) hb
  exact⟨_,e1⟩
 ·obtain⟨o',e'⟩:=all b o z hb
  exact⟨o',fl'.1 _ _ e'⟩
end
structure Xc (K:PySem.W.Frag)(mg:Str→Option Value)(x:Str)(C:Addr)(bm:List Value)(nid:String):Prop where
 bound:mg x=some (.ref C)
 ex:PySem.W.excIn K C bm nid=true
theorem zrn {K:PySem.W.Frag}{mg:Str→Option Value}{x:Str}{C:Addr}{bm:List Value}{nid:String}{h:Heap}(c:Xc K mg x C bm nid)(KX:K.In h):OwnCls x C bm nid mg h:=by
 obtain⟨b,q⟩:=c
 constructor
 ·exact b
 ·revert q
  unfold PySem.W.excIn
  intro q
  split at q
  case h_2=>cases q
  case h_1 dd cd sl look=>
   split at q
   case h_2=>cases q
   case h_1 C1 zaU z0 z1 z2 z3 nn z5 em es=>
    rw[Vap,Vap,Vap,Vap,Vap] at q
    obtain⟨⟨⟨⟨⟨q1,q2⟩,q3⟩,q4⟩,q5⟩,q6⟩:=q
    have r1:=beq_iff_eq.mp q1
    have r2:=beq_iff_eq.mp q2
    have r6:=beq_iff_eq.mp q6
    cases cd with
    | mk a1 a2 a3 a4 a5 a6 a7 a8 a9 a10 a11=>
     have em':a3=Value.ref C1::zaU:=em
     have r3:a11=false:=by simpa using q3
     have hsl:sl=#[z0,z1,z2,z3,some (Value.builtin nn),z5]:=by
      cases sl with
      | mk l=>exact congrArg Array.mk es
     subst r1 r2 em' r3 hsl
     exact⟨zaU,a4,a1,a5,a2,a6,a7,a8,a9,a10,dd,z0,z1,z2,z3,z5,_,KX _ _ look,Heap.Ns.of_isNs (PySem.W.isNs_of_in KX q5),PySem.W.nsMap_none_of_in KX q5 r6,PySem.W.tail_of_in KX q4⟩
abbrev WC:=List D→Sto→DK→Prop
abbrev Sd:=List D→Sto→DK→(Addr→Sto→Prop)→Prop
def upC (K:PySem.W.Frag)(Z:Zx)(w:WC):List V→Hp→VK→Prop:=λxs H Qv=>∃r S ds Q,Rel K Z r S H∧Rps r H ds xs∧w ds S Q∧Ret K Z r H Q Qv
def upF (K:PySem.W.Frag)(sd:Sd):Sp:=λvs H Qv E=>∃ex:Addr→Sto→Prop,upC K (Zc ex E) (λds S Q=>sd ds S Q ex) vs H Qv
def ze8 (w:WC)(t:TDA):TDE:=λdl S Q=>t dl S λds S1=>w ds S1 Q
def zfL (ex:Ev→Addr→Sto→Prop)(sd:Sd)(t:TDA):TDE:=λdl S Q=>t dl S λds S1=>sd ds S1 Q (ex dl)
def zb1 (X:Cx)(W:St→XK):Prop:=∀(pins:List (Addr×Obj)) (σ:St) (H:Hp) (s:Shared) (e:Value) (s':Shared),Inv X pins σ H s→CXE X.prog X.w X.stack H s (W σ) e s'→X.xe e s'
section
variable {X:Cx}{k:Nat}{f:Addr}{fd:FuncData}{ps:List Str}{sp:Sp}{W:St→XK}{x:Str}{p pos:Pos}{e:Expr}{es:List Expr}{t:TA}
theorem zjz {pins:List (Addr×Obj)}{σ:St}{H:Hp}{s:Shared}{Q:VK}{us:List Value}{vs:List V}(F:zaO X.prog X.w X.K X.mg X.base (CXE X.prog X.w) k f fd ps sp)(hr:zax k X.A)(hb:zbk X.K fd ps [])(hx:zb1 X W)
  (I:Inv X pins σ H s)(r:zah vs us)(h:sp vs H Q (W σ)):wpAny (model X.prog X.w) X.A (call (.ref f) us) (EP X pins σ Q) X.xe s:=by
 have hl:us.length=ps.length:=by rw[← r.length]; exact F.len _ _ _ _ h
 have hb':=hb s us I.kIn (by rw[Var]; exact hl)
 rw[Var] at hb'
 refine wpAny_call (codeAny_mono (F.run X.A X.stack s H ⟨us,[]⟩ us vs Q (W σ) hr I.env0 hb' r h) λz s' hq=>?_)
 cases z with
 | error ev=>exact hx pins σ H s ev s' I hq
 | ok fl=>
  cases fl with
  | ret u=>exact I.after hq
  | _=>exact False.elim hq
theorem zr3 (F:zaO X.prog X.w X.K X.mg X.base (CXE X.prog X.w) k f fd ps sp)(hr:zax k X.A)(hg:Gl X x)(hm:X.mg x=some (.ref f))(hk:PySem.W.keepIn X.K (.ref f)=true)(hb:zbk X.K fd ps [])(hx:zb1 X W)
  (ha:PA X (e::es) t)(hdb:(x==("__debug__":Str))=false)(he:starEach (e::es) X.env=(false,eval e X.env)::starEach es X.env)(hpl:(backTo pos (starEach es X.env)).any (·.1)=false):
  PE X (.Call (.Name x p) (e::es) [] pos) (λσ H Q=>t σ H λvs H1=>sp vs H1 Q (W σ)):=by
 intro pins s σ H Q I h
 refine wpAny_Call_Name_kw (zf0 I hg hm ?_ hdb)
 exact PySem.W.callWith_K (h₀:=X.base) I.ok.mod.kin hk (thn (ha pos pins s σ H _ I h) λus s1 ⟨vs,H1,I1,r,q⟩=>⟨I1.kIn,zjz F hr hb hx I1 r q⟩) he hpl
end
section
variable {X:Cx}{Z:Zx}{x:Str}{p pos:Pos}{e:Expr}{es:List Expr}{t:TDA}{id T:String}{w:WC}
theorem zjZ {σ:St}{H:Hp}{Qv:VK}(h:up X.K Z (ze8 w t) σ H Qv):upA X.K Z t σ H λvs H1=>upC X.K Z w vs H1 Qv:=by
 obtain⟨r,dl,S,Q,rs,rel,h,ret⟩:=h
 exact⟨r,dl,S,_,rs,rel,h,λvs H1 r1 ds S1 e1 rel1 p1 h1=>⟨r1,S1,ds,Q,rel1,p1,h1,ret.ext e1⟩⟩
theorem zbr (hc:zaL X (.builtin id) (upC X.K Z w))(hg:Gl X x)(hm:X.mg x=none)(hv:bootBuiltins x=some (.builtin id))(ha:PDA X Z (e::es) t)(hn:x≠"__name__":=by decide)(hdb:(x==("__debug__":Str))=false:=by decide)
  (he:starEach (e::es) X.env=(false,eval e X.env)::starEach es X.env:=by rfl)(hpl:(backTo pos (starEach es X.env)).any (·.1)=false:=by rfl):PD X Z (.Call (.Name x p) (e::es) [] pos) (ze8 w t):=
 zaD (zjl hc hg hm hv ha hn hdb he hpl) λ_ _ _ h=>zjZ h
theorem zb2 (hc:zaL X (.type T) (upC X.K Z w))(hg:Gl X x)(hm:X.mg x=none)(hv:bootBuiltins x=some (.type T))(ha:PDA X Z (e::es) t)(hn:x≠"__name__":=by decide)(hdb:(x==("__debug__":Str))=false:=by decide)
  (he:starEach (e::es) X.env=(false,eval e X.env)::starEach es X.env:=by rfl)(hpl:(backTo pos (starEach es X.env)).any (·.1)=false:=by rfl):PD X Z (.Call (.Name x p) (e::es) [] pos) (ze8 w t):=
 zaD (zls hc hg hm hv ha hn hdb he hpl) λ_ _ _ h=>zjZ h
theorem ziH {sd:Sd}{r:List Addr}{S:Sto}{H:Hp}{dl:Ev}{σ:St}{ds:List D}{vs:List V}{Q:DK}{Qv:VK}(rs:Rs r H dl σ)(rel:Rel X.K Z r S H)(p:Rps r H ds vs)(h:sd ds S Q (Z.ex dl))(ret:Ret X.K Z r H Q Qv):upF X.K sd vs H Qv (Z.w σ):=
 ⟨Z.ex dl,r,S,ds,Q,⟨rel.b,λ_ _ c H' r' S' x _ rb q=>rel.xw dl σ c H' r' S' x (rs.ext x) rb q⟩,p,h,λv H' r' d S' x rel' pv q=>ret v H' r' d S' x ⟨rel'.b,rel.xw.ext x⟩ pv q⟩
theorem zph {k:Nat}{f:Addr}{fd:FuncData}{ps:List Str}{sd:Sd}(F:zaO X.prog X.w X.K X.mg X.base (CXE X.prog X.w) k f fd ps (upF X.K sd))(hr:zax k X.A)(hg:Gl X x)(hm:X.mg x=some (.ref f))(hk:PySem.W.keepIn X.K (.ref f)=true)
  {ex:Ev→Addr→Sto→Prop}{W:St→XK}(hb:zbk X.K fd ps [])(hx:zb1 X W)(ha:PDA X ⟨ex,W⟩ (e::es) t)(hdb:(x==("__debug__":Str))=false:=by decide)(he:starEach (e::es) X.env=(false,eval e X.env)::starEach es X.env:=by rfl)
  (hpl:(backTo pos (starEach es X.env)).any (·.1)=false:=by rfl):PD X ⟨ex,W⟩ (.Call (.Name x p) (e::es) [] pos) (zfL ex sd t):=
 zaD (zr3 F hr hg hm hk hb hx ha hdb he hpl) λσ H Qv ⟨r,dl,S,Q,rs,rel,h,ret⟩=>⟨r,dl,S,_,rs,rel,h,λvs H1 r1 ds S1 e1 rel1 p1 h1=>ziH (Z:=⟨ex,W⟩) (rs.ext e1) rel1 p1 h1 (ret.ext e1)⟩
def wAbs:WC:=λds S Q=>match ds with
 | [.int i]=>Q (.int (if i<0 then -i else i)) S
 | _=>False
theorem zjj:zaL X (.builtin "abs") (upC X.K Z wAbs):=ze7 zrP λxs H Qv ⟨r,S,ds,Q,rel,ps,q,ret⟩=>by
 unfold wAbs at q
 split at q
 ·rename_i i
  obtain⟨v,vs,rfl,p1,p2⟩:=ps.uncons
  have z:=p2.unnil
  subst z
  cases p1
  exact⟨i,rfl,ret _ _ _ _ _ Ext.refl rel (.int _) q⟩
 ·exact q.elim
def zeN:List D→Option (List Int)
 | []=>some []
 | .int i::r=>(zeN r).map (i::·)
 | _::_=>none
def zjC (le:Int→Int→Prop)(two:Int→Int→Int):WC:=λds S Q=>match ds with
 | [.int i,.int j]=>Q (.int (two i j)) S
 | [.ref n]=>match lAt S n with
  | some o=>match zeN (zay o) with
   | some xs=>xs≠[]∧∀m,m∈xs→(∀y∈xs,le y m)→Q (.int m) S
   | none=>False
  | none=>False
 | _=>False
abbrev wMax:WC:=zjC (λy m=>y≤m) λi j=>if j > i then j else i
theorem zlT {r:List Addr}{H:Hp}:∀ {ds:List D} {ns:List Int} {vs:List V} {us:List Value},zeN ds=some ns→Rps r H ds vs→zah vs us→∃xs:List (Int×Tok),us.toArray=intItems xs.toArray∧xs.map (·.1)=ns
 | [],ns,vs,us,e,p,q=>by
  have z:=p.unnil
  subst z
  cases q
  simp[zeN] at e
  subst e
  exact⟨[],by simp[intItems],rfl⟩
 | d::ds,ns,vs,us,e,p,q=>by
  obtain⟨v,vs',rfl,p1,p2⟩:=p.uncons
  cases d with
  | int i=>
   cases p1
   cases q with
   | cons q1 q2=>
    obtain⟨t,rfl⟩:=q1
    simp only[zeN,Option.map_eq_some_iff] at e
    obtain⟨ms,e1,rfl⟩:=e
    obtain⟨xs,h1,h2⟩:=zlT e1 p2 q2
    refine⟨(i,t)::xs,?_,by simp[h2]⟩
    simp[intItems] at h1 ⊢
    exact h1
  | _=>simp[zeN] at e
theorem zkt (f:Nat→Int):∀k j,j≤k→f j≤f (argBest (λi j=>decide (f i > f j)) k)
 | 0,j,h=>by
  have z:j=0:=by omega
  subst z
  exact Int.le_refl _
 | k+1,j,h=>by
  have ih:=zkt f k
  unfold argBest
  split
  ·rename_i hb
   have hb':f (k+1) > f (argBest (λi j=>decide (f i > f j)) k):=of_decide_eq_true hb
   by_cases z:j=k+1
   ·subst z; exact Int.le_refl _
   ·have:=ih j (by omega); omega
  ·rename_i hb
   have hb':¬ f (k+1) > f (argBest (λi j=>decide (f i > f j)) k):=λq=>hb (decide_eq_true q)
   by_cases z:j=k+1
   ·subst z; omega
   ·exact ih j (by omega)
theorem zke (bt:Nat→Nat→Bool):∀k,argBest bt k≤k
 | 0=>Vaa _
 | k+1=>by
  unfold argBest
  split
  ·exact Vaa _
  ·exact Nat.le_succ_of_le (zke bt k)
theorem zlB {xs:List (Int×Tok)}{ns:List Int}(h:xs.map (·.1)=ns){j:Nat}{y:Int}(e:ns[j]?=some y):numAt xs.toArray j=y:=by
  subst h
  unfold numAt
  rw[Vau] at e
  simp only[List.getElem?_toArray]
  cases q:xs[j]? with
  | none=>
   rw[q] at e
   cases e
  | some z=>rw[q] at e; simpa using e
theorem zp8 {xs:List (Int×Tok)}{ns:List Int}(h:xs.map (·.1)=ns){j:Nat}(hj:j<ns.length):numAt xs.toArray j∈ns:=by
 have e:ns[j]?=some ns[j]:=by simp[hj]
 rw[zlB h e]
 exact VaN hj
theorem zqF (hc:X.calm=true):zaL X (.builtin "max") (upC X.K Z wMax):=by
 intro pins s σ H xs us Qv I rv h
 obtain⟨r,S,ds,Q,rel,ps,q,ret⟩:=h
 unfold wMax zjC at q
 split at q
 ·rename_i i j
  obtain⟨v,vs,rfl,p1,p2⟩:=ps.uncons
  obtain⟨v2,vs2,rfl,p3,p4⟩:=p2.uncons
  have z:=p4.unnil
  subst z
  cases p1
  cases p3
  exact zox hc pins s σ H _ us Qv I rv ⟨i,j,rfl,ret _ _ _ _ _ Ext.refl rel (.int _) q⟩
 ·rename_i n
  obtain⟨v,vs,rfl,p1,p2⟩:=ps.uncons
  have z:=p2.unnil
  subst z
  split at q
  ·rename_i o eo
   split at q
   ·rename_i ns en
    obtain⟨hne,q⟩:=q
    obtain⟨eo,eL⟩:=zcz eo
    obtain⟨a,ha,ob⟩:=rel.at eo
    cases p1 with
    | ref h1=>
     rw[h1] at ha; cases ha
     obtain⟨ys,sq,pr⟩:=ob.list eL
     obtain⟨u,rfl,ru⟩:=zbz rv
     cases ru
     obtain⟨its,ri,pl,hz⟩:=I.list sq
     obtain⟨zs,hz1,hz2⟩:=zlT en pr ri
     have hl:zs.length=ns.length:=by rw[← hz2,Vab]
     have hpos:0<ns.length:=VaT.mpr hne
     have isl:=pl.isList
     rw[hz1] at isl
     refine max_intList (I.ok.hd hc) isl (by simp; omega) λv h' tk hv hk=>?_
     have hvi:=intItems_at hv
     obtain⟨t,rfl⟩:=hvi
     have hb:=zke (λi j=>decide (numAt zs.toArray i > numAt zs.toArray j)) (zs.toArray.size-1)
     have hsz:zs.toArray.size=ns.length:=by simp[hl]
     refine⟨.int _,H,I.kept hk,⟨_,rfl⟩,ret _ _ _ _ _ Ext.refl rel (.int _) (q _ (zp8 hz2 (by omega)) λy hy=>?_)⟩
     obtain⟨j,hj,ej⟩:=List.mem_iff_getElem.mp hy
     have e1:=zlB hz2 (show ns[j]?=some y by simp[hj,ej])
     rw[← e1]
     exact zkt _ _ j (by omega)
   ·exact q.elim
  ·exact q.elim
 ·exact q.elim
def zgw:WC:=λds S Q=>match ds with
 | [.tup xs]=>Q (.int xs.length) S
 | [.ref n]=>match lAt S n with
  | some o=>Q (.int (zay o).length) S
  | none=>False
 | _=>False
theorem zcm:zaL X (.builtin "len") (upC X.K Z zgw):=ze7 zpL λxs H Qv ⟨r,S,ds,Q,rel,ps,q,ret⟩=>by
 unfold zgw at q
 split at q
 ·rename_i ys
  obtain⟨v,vs,rfl,p1,p2⟩:=ps.uncons
  have z:=p2.unnil
  subst z
  obtain⟨a,zs,rfl,h1,h2⟩:=p1.untup
  exact⟨a,zs,rfl,.inr (SqT.of h1),by rw[← h2.1]; exact ret _ _ _ _ _ Ext.refl rel (.int _) q⟩
 ·rename_i n
  obtain⟨v,vs,rfl,p1,p2⟩:=ps.uncons
  have z:=p2.unnil
  subst z
  split at q
  ·rename_i o eo
   obtain⟨eo,eL⟩:=zcz eo
   obtain⟨a,ha,ob⟩:=rel.at eo
   cases p1 with
   | ref h1=>
    rw[h1] at ha; cases ha
    obtain⟨ys,sq,pr⟩:=ob.list eL
    exact⟨_,ys,rfl,.inl sq,by rw[← pr.1]; exact ret _ _ _ _ _ Ext.refl rel (.int _) q⟩
  ·exact q.elim
 ·exact q.elim
def zez (t T:String):Bool:=t==T||(t == "bool"&&T == "int")
def zk8 (T:String)(te:TDE):TDE:=λdl S Q=>te dl S λd S1=>match d with
 | .ref _=>False
 | .exc _=>False
 | .non=>Q (.bl (zez "NoneType" T)) S1
 | .bl _=>Q (.bl (zez "bool" T)) S1
 | .int _=>Q (.bl (zez "int" T)) S1
 | .str _=>Q (.bl (zez "str" T)) S1
 | .tup _=>Q (.bl (zez "tuple" T)) S1
def Kit (K:PySem.W.Frag)(T:String):Prop:=∀t∈["NoneType","bool","int","str","tuple"],PySem.W.kitOne K (.type t) (.type T)=some (zez t T)
def rInst (K:PySem.W.Frag):List V→Hp→VK→Prop:=λxs H Qv=>∃x T t b,xs=[x,.ty T]∧zbX K H x t∧PySem.W.kitOne K t (.type T)=some b∧Qv (.bl b) H
theorem zra:zaL X (.builtin "isinstance") (rInst X.K):=by
 intro pins s σ H xs us Q I r h
 obtain⟨x,T,t,b,rfl,ty,e,q⟩:=h
 obtain⟨u,w',rfl,r1,r2⟩:=zi0 r
 cases r2
 exact zn7 I r1 ty e λtk=>⟨.bl b,H,I.tok tk,rfl,q⟩
theorem ze0 {T:String}{te:TDE}{y:Str}{p2:Pos}(KT:Kit X.K T)(hg:Gl X "isinstance")(hm:X.mg "isinstance"=none)(hg2:Gl X y)(hm2:X.mg y=none)(hv2:bootBuiltins y=some (.type T))(ha:PD X Z e te)
  (hv:bootBuiltins "isinstance"=some (.builtin "isinstance"):=by exact PyProof.Rows.Boot.«isinstance»)
  (hn2:y≠"__name__":=by decide)(hd2:(y==("__debug__":Str))=false:=by decide)(he2:starEach [e,.Name y p2] X.env=(false,eval e X.env)::starEach [.Name y p2] X.env:=by rfl)
  (he3:starEach [.Name y p2] X.env=(false,eval (.Name y p2) X.env)::starEach [] X.env:=by rfl)(hpl:(backTo pos (starEach [.Name y p2] X.env)).any (·.1)=false:=by rfl):
  PD X Z (.Call (.Name "isinstance" p) [e,.Name y p2] [] pos) (zk8 T te):=
 zaD (zjl zra hg hm hv (zda ha (zda (zsj (v:=.ty T) hg2 hm2 hv2 rfl hn2 hd2) zfx he3) he2) (by decide) (by decide) he2 hpl) λσ H Qv ⟨r,dl,S,Q,rs,rel,h,ret⟩=>
  ⟨r,dl,S,_,rs,rel,h,λv H1 r1 d S1 e1 rel1 p1 h1=>by
   cases p1 with
   | non=>exact⟨_,T,_,_,rfl,.non,KT _ (by simp),ret _ _ _ _ _ e1 rel1 (.bl _) h1⟩
   | bl b=>exact⟨_,T,_,_,rfl,.bl b,KT _ (by simp),ret _ _ _ _ _ e1 rel1 (.bl _) h1⟩
   | int b=>exact⟨_,T,_,_,rfl,.int b,KT _ (by simp),ret _ _ _ _ _ e1 rel1 (.bl _) h1⟩
   | str b=>exact⟨_,T,_,_,rfl,.str b,KT _ (by simp),ret _ _ _ _ _ e1 rel1 (.bl _) h1⟩
   | tup e2 _ _=>exact⟨_,T,_,_,rfl,.tup e2,KT _ (by simp),ret _ _ _ _ _ e1 rel1 (.bl _) h1⟩
   | ref _=>exact(show False from h1).elim
   | exc _=>exact(show False from h1).elim⟩
end
section
variable {X:Cx}{Z:Zx}{st:Stmt}{zaU:List Stmt}{t u:TDS}{e:Expr}{te:TDE}{pos:Pos}
def zjA:TDS:=λE dl S=>E.nx dl S
def zaP (t u:TDS):TDS:=λE dl S=>t { nx:=λdl' S'=>u E dl' S',rt:=E.rt,bk:=E.bk,ct:=E.ct } dl S
theorem zaH:zbC X Z [] zjA:=zmb zoj λF σ H ⟨r,dl,S,E,rs,rel,h,ret⟩=>ret.nx σ H r dl S Ext.refl rs rel h
theorem zaf (h1:PDS X Z st t)(h2:zbC X Z zaU u):zbC X Z (st::zaU) (zaP t u):=
 zmb (zrN h1 h2) λF σ H ⟨r,dl,S,E,rs,rel,h,ret⟩=>⟨r,dl,S,_,rs,rel,h,λσ' H' r' dl' S' x rs' rel' q=>⟨r',dl',S',E,rs',rel',q,ret.ext x⟩,ret.bk,ret.ct,ret.rt⟩
theorem zaj (h1:PDS X Z st t):zbC X Z [st] t:=zql h1
def zlp (te:TDE):TDS:=λE dl S=>te dl S λ_ S1=>E.nx dl S1
theorem zf4 (he:PD X Z e te)(hs:swapsWith e none pos.line X.env=pure false:=by rfl):PDS X Z (.Expr e pos) (zlp te):=
 zcE (zrJ he hs) λF σ H ⟨r,dl,S,E,rs,rel,h,ret⟩=>⟨r,dl,S,_,rs,rel,h,λv H1 r1 d S1 x rel1 p q=>ret.nx σ H1 r1 dl S1 x (rs.ext x) rel1 q⟩
def zfE (te:TDE):TDS:=λE dl S=>te dl S E.rt
theorem zat (he:PD X Z e te):PDS X Z (.Return (some e) pos) (zfE te):=
 zcE (zqR he) λF σ H ⟨r,dl,S,E,rs,rel,h,ret⟩=>⟨r,dl,S,_,rs,rel,h,ret.rt⟩
def dRetN:TDS:=λE _ S=>E.rt .non S
def dIf (c:TDT)(t u:TDS):TDS:=λE dl S=>c dl S λk S1=>if k=true then t E dl S1 else u E dl S1
theorem zaB {c:Expr}{a b:List Stmt}{tc:TDT}(hc:PDT X Z c tc)(ha:zbC X Z a t)(hb:zbC X Z b u):PDS X Z (.If c a b pos) (dIf tc t u):=
 zcE (ps_if hc ha hb) λF σ H ⟨r,dl,S,E,rs,rel,h,ret⟩=>⟨r,dl,S,_,rs,rel,h,λk H1 r1 S1 x rel1 q=>by
  cases k with
  | true=>exact zbu ⟨r1,dl,S1,E,rs.ext x,rel1,(by simpa using q),ret.ext x⟩
  | false=>exact zbM ⟨r1,dl,S1,E,rs.ext x,rel1,(by simpa using q),ret.ext x⟩⟩
def zeM (i:Nat)(te:TDE):TDS:=λE dl S=>te dl S λd S1=>E.nx (dl.set i (some d)) S1
theorem zar {i:Nat}{x:Str}{pos':Pos}(hN:X.N.Nodup)(hi:X.N[i]?=some x)(hx:Loc X.env.scope x)(he:PD X Z e te)(hs:swapsWith e (some (.Name x pos')) pos.line X.env=pure false:=by rfl)
  (hf:X.fn x=true∨X.env.scope.names.lookup x=some .local:=by first | exact .inl rfl | exact .inr rfl | assumption):PDS X Z (.Assign [.Name x pos'] e pos) (zeM i te):=
 zcE (zmx hN hi hx he hs hf) λF σ H ⟨r,dl,S,E,rs,rel,h,ret⟩=>⟨r,dl,S,_,rs,rel,h,λv H1 r1 d S1 x rel1 p q=>ret.nx _ H1 r1 _ S1 x ((rs.ext x).set i p) rel1 q⟩
def zpv (c:TDT)(tb:TDS):TDS:=λE dl S=>∃W:Nat→Ev→Sto→Prop,(∃m,W m dl S)∧∀m dl S,W m dl S→
 c dl S λk S1=>if k=true then tb { nx:=λdl' S'=>∃m',m'<m∧W m' dl' S',rt:=E.rt,bk:=E.nx,ct:=λdl' S'=>∃m',m'<m∧W m' dl' S' } dl S1 else E.nx dl S1
theorem zhR {c:Expr}{body:List Stmt}{tc:TDT}{tb:TDS}(hp:PassesOwn (model X.prog X.w) X.A X.env X.xe)(hc:PDT X Z c tc)(hb:zbC X Z body tb):PDS X Z (.While c body [] pos) (zpv tc tb):=
 zcE (zqX hp hc hb) λF σ H ⟨r,dl,S,E,rs,rel,⟨W,⟨m0,w0⟩,turn⟩,ret⟩=>by
  refine⟨λm σ' H'=>∃r' dl' S',Ext r r' H H'∧Rs r' H' dl' σ'∧Rel X.K Z r' S' H'∧W m dl' S',⟨m0,r,dl,S,Ext.refl,rs,rel,w0⟩,?_⟩
  rintro m σ1 H1 ⟨r1,dl1,S1,x1,rs1,rel1,w1⟩
  refine⟨r1,dl1,S1,_,rs1,rel1,turn m dl1 S1 w1,λk H2 r2 S2 x2 rel2 q2=>?_⟩
  cases k with
  | true=>
   refine zbu ⟨λσ' H'=>∃m',m'<m∧∃r' dl' S',Ext r r' H H'∧Rs r' H' dl' σ'∧Rel X.K Z r' S' H'∧W m' dl' S',λ_ _ z=>z,r2,dl1,S2,_,rs1.ext x2,rel2,(by simpa using q2),?_⟩
   have go:∀σ' H' r' dl' S',Ext r2 r' H2 H'→Rs r' H' dl' σ'→Rel X.K Z r' S' H'→(∃m',m'<m∧W m' dl' S')→∃m',m'<m∧∃r' dl' S',Ext r r' H H'∧Rs r' H' dl' σ'∧Rel X.K Z r' S' H'∧W m' dl' S':=
    λσ' H' r' dl' S' x rs' rel' ⟨m',hm,w'⟩=>⟨m',hm,r',dl',S',x1.trans (x2.trans x),rs',rel',w'⟩
   exact⟨go,λσ' H' r' dl' S' x rs' rel' q=>ret.nx σ' H' r' dl' S' (x1.trans (x2.trans x)) rs' rel' q,go,ret.rt.ext (x1.trans x2)⟩
  | false=>exact zbM (ret.nx σ1 H2 r2 dl1 S2 (x1.trans x2) (rs1.ext x2) rel2 (by simpa using q2))
def dFor (i:Nat)(tl:TDE)(tb:TDS):TDS:=λE dl S=>tl dl S λd S1=>match d with
 | .ref n=>(lAt S1 n).isSome=true∧∃W:Nat→Nat→Ev→Sto→Prop,(∃m,W 0 m dl S1)∧∀k m dl S,W k m dl S→match lAt S n with
  | some o=>match (zay o)[k]? with
   | some x=>tb { nx:=λdl' S'=>∃m',m'<m∧W (k+1) m' dl' S',rt:=E.rt,bk:=E.nx,ct:=λdl' S'=>∃m',m'<m∧W (k+1) m' dl' S' } (dl.set i (some x)) S
   | none=>E.nx dl S
  | none=>False
 | _=>False
theorem zlj {i:Nat}{x:Str}{pos':Pos}{iter:Expr}{body:List Stmt}{tl:TDE}{tb:TDS}(hp:PassesOwn (model X.prog X.w) X.A X.env X.xe)(hc:X.calm=true)(hN:X.N.Nodup)(hi:X.N[i]?=some x)(hx:Loc X.env.scope x)
  (hl:PD X Z iter tl)(hb:zbC X Z body tb)(hf:X.fn x=true∨X.env.scope.names.lookup x=some .local:=by first | exact .inl rfl | exact .inr rfl | assumption)
  (hs:∀y,foldedSetIterable iter X.env y=pure y:=by intro _; rfl):PDS X Z (.For (.Name x pos') iter body [] pos) (dFor i tl tb):=
 zcE (zlM hp hc (zok hl) (ziN hN hi hx hf) hb hs) λF σ H ⟨r,dl,S,E,rs,rel,h,ret⟩=>by
  refine⟨r,dl,S,_,rs,rel,h,λv H1 r1 d S1 x1 rel1 p1 q1=>?_⟩
  cases p1 with
  | @ref n a hn=>
   obtain⟨hsome,W,⟨m0,w0⟩,turn⟩:=q1
   have sql:∀ {r':List Addr} {S':Sto} {H':Hp} {o:Ob},Ext r1 r' H1 H'→Rel X.K Z r' S' H'→lAt S' n=some o→∃xs,SqL X.K H' a xs∧Rps r' H' (zay o) xs:=λ{r' S' H' o} x' rel' eo=>by
    obtain⟨eo,eL⟩:=zcz eo
    obtain⟨a',ha,ob⟩:=rel'.at eo
    rw[x'.adr n a hn] at ha; cases ha
    exact ob.list eL
   obtain⟨o1,eo1⟩:=Option.isSome_iff_exists.mp hsome
   obtain⟨xs1,sq1,_⟩:=sql Ext.refl rel1 eo1
   refine⟨a,rfl,⟨xs1,sq1⟩,λk m σ' H'=>∃r' dl' S',Ext r1 r' H1 H'∧Rs r' H' dl' σ'∧Rel X.K Z r' S' H'∧W k m dl' S',⟨m0,r1,dl,S1,Ext.refl,rs.ext x1,rel1,w0⟩,?_⟩
   rintro k m σ2 H2 ⟨r2,dl2,S2,x2,rs2,rel2,w2⟩
   have q:=turn k m dl2 S2 w2
   split at q
   ·rename_i o eo
    obtain⟨xs,sq,pr⟩:=sql x2 rel2 eo
    split at q
    ·rename_i y ey
     obtain⟨v,hv,pv⟩:=pr.get ey
     have go:∀ {r3:List Addr} {H3:Hp},Ext r2 r3 H2 H3→∀σ' H' r' dl' S',Ext r3 r' H3 H'→Rs r' H' dl' σ'→Rel X.K Z r' S' H'→(∃m',m'<m∧W (k+1) m' dl' S')→∃m',m'<m∧∃r' dl' S',Ext r1 r' H1 H'∧Rs r' H' dl' σ'∧Rel X.K Z r' S' H'∧W (k+1) m' dl' S':=
      λ{r3 H3} x3 σ' H' r' dl' S' x rs' rel' ⟨m',hm,w'⟩=>⟨m',hm,r',dl',S',x2.trans (x3.trans x),rs',rel',w'⟩
     refine .inr ⟨⟨xs,v,sq,hv⟩,λσ' H'=>∃m',m'<m∧∃r' dl' S',Ext r1 r' H1 H'∧Rs r' H' dl' σ'∧Rel X.K Z r' S' H'∧W (k+1) m' dl' S',λ_ _ z=>z,λv' H' y'=>?_⟩
     obtain⟨eH,y'⟩:=y'
     subst eH
     have ev:v'=v:=by
      have z:=y' xs sq
      rw[hv] at z; exact(Option.some.inj z).symm
     subst ev
     exact⟨r2,_,S2,_,rs2.set i pv,rel2,q,go Ext.refl,λσ' H' r' dl' S' x rs' rel' z=>ret.nx σ' H' r' dl' S' (x1.trans (x2.trans x)) rs' rel' z,go Ext.refl,ret.rt.ext (x1.trans x2)⟩
    ·rename_i ey
     have hlen:(zay o).length≤k:=List.getElem?_eq_none_iff.mp ey
     exact .inl ⟨⟨xs,sq,by rw[← pr.1]; exact hlen⟩,ret.nx σ2 H2 r2 dl2 S2 (x1.trans x2) rs2 rel2 q⟩
   ·exact q.elim
  | _=>exact(show False from q1).elim
def dForR (i:Nat)(ta:TDA)(tb:TDS):TDS:=λE dl S=>ta dl S λds S1=>match ds with
 | [.int j]=>(-(2^62)≤j∧j<2^62)∧∃W:Nat→Ev→Sto→Prop,W 0 dl S1∧∀k dl S,W k dl S→
   if k<j.toNat then tb { nx:=λdl' S'=>W (k+1) dl' S',rt:=E.rt,bk:=E.nx,ct:=λdl' S'=>W (k+1) dl' S' } (dl.set i (some (.int k))) S else E.nx dl S
 | _=>False
theorem znl {i:Nat}{x:Str}{pos2 pos' p:Pos}{a:Expr}{body:List Stmt}{ta:TDA}{tb:TDS}(hp:PassesOwn (model X.prog X.w) X.A X.env X.xe)(hc:X.calm=true)(hN:X.N.Nodup)(hi:X.N[i]?=some x)(hx:Loc X.env.scope x)
  (hg:Gl X "range")(hm:X.mg "range"=none)(ha:PDA X Z [a] ta)(hb:zbC X Z body tb)(hf:X.fn x=true∨X.env.scope.names.lookup x=some .local:=by first | exact .inl rfl | exact .inr rfl | assumption)
  (hs:∀y,foldedSetIterable (.Call (.Name "range" p) [a] [] pos) X.env y=pure y:=by intro _; rfl)(hst:starEach [a] X.env=[(false,eval a X.env)]:=by rfl):
  PDS X Z (.For (.Name x pos') (.Call (.Name "range" p) [a] [] pos) body [] pos2) (dForR i ta tb):=
 zcE (zlM hp hc (zi3 hg hm ha hst) (ziN hN hi hx hf) hb hs) λF σ H ⟨r,dl,S,E,rs,rel,h,ret⟩=>by
  refine⟨r,dl,S,_,rs,rel,h,λvs H1 r1 ds S1 x1 rel1 p1 q1=>?_⟩
  split at q1
  ·rename_i j
   obtain⟨v,vs',rfl,p2,p3⟩:=p1.uncons
   have z:=p3.unnil
   subst z
   cases p2
   obtain⟨⟨b1,b2⟩,W,w0,turn⟩:=q1
   refine⟨j,rfl,b1,b2,λk m σ' H'=>m=j.toNat-k∧∃r' dl' S',Ext r1 r' H1 H'∧Rs r' H' dl' σ'∧Rel X.K Z r' S' H'∧W k dl' S',⟨j.toNat,by simp,r1,dl,S1,Ext.refl,rs.ext x1,rel1,w0⟩,?_⟩
   rintro k m σ2 H2 ⟨em,r2,dl2,S2,x2,rs2,rel2,w2⟩
   have q:=turn k dl2 S2 w2
   split at q
   ·rename_i hk
    have go:∀σ' H' r' dl' S',Ext r2 r' H2 H'→Rs r' H' dl' σ'→Rel X.K Z r' S' H'→W (k+1) dl' S'→∃r' dl' S',Ext r1 r' H1 H'∧Rs r' H' dl' σ'∧Rel X.K Z r' S' H'∧W (k+1) dl' S':=
     λσ' H' r' dl' S' x rs' rel' w'=>⟨r',dl',S',x2.trans x,rs',rel',w'⟩
    have pk:Rp r2 H2 (.int (k:Int)) (.int (0+(k:Int))):=by rw[Int.zero_add]; exact .int _
    refine .inr ⟨hk,λσ' H'=>∃r' dl' S',Ext r1 r' H1 H'∧Rs r' H' dl' σ'∧Rel X.K Z r' S' H'∧W (k+1) dl' S',λσ' H' z=>⟨j.toNat-(k+1),by omega,rfl,z⟩,λv' H' y'=>?_⟩
    obtain⟨eH,y'⟩:=y'
    subst eH
    subst y'
    exact⟨r2,_,S2,_,rs2.set i pk,rel2,q,go,λσ' H' r' dl' S' x rs' rel' z=>ret.nx σ' H' r' dl' S' (x1.trans (x2.trans x)) rs' rel' z,go,ret.rt.ext (x1.trans x2)⟩
   ·rename_i hk
    exact .inl ⟨by show j.toNat≤k; omega,ret.nx σ2 H2 r2 dl2 S2 (x1.trans x2) rs2 rel2 q⟩
  ·exact q1.elim
end
def zcU (N:List Str)(ds:List D):Ev:=ds.map some++List.replicate (N.length-ds.length) none
theorem zlS {r:List Addr}{H:Hp}{N:List Str}{ds:List D}{vs:List V}(h:Rps r H ds vs):Rs r H (zcU N ds) (L2.zck N vs):=by
  refine⟨by simp[zcU,L2.zck,h.1],λi d e=>?_⟩
  unfold zcU at e
  by_cases hi:i<ds.length
  · rw[Van (by simpa using hi),Vau] at e
    cases q:ds[i]? with
    | none=>
   rw[q] at e
   cases e
    | some z=>
      rw[q] at e
      cases e
      obtain⟨v,hv,pv⟩:=h.get q
      refine⟨v,?_,pv⟩
      unfold L2.zck
      rw[Van (by simpa [h.1] using hi),Vau,hv]
      rfl
  · rw[VaQ (by simpa using hi),List.getElem?_replicate] at e
    split at e <;> cases e
section
variable {P:Program}{w:World}{K:PySem.W.Frag}{mg:Str→Option Value}{base:Heap}
abbrev Z0:Zx:=Zc (λ_ _=>False) (λ_ _ _=>False)
theorem zc5 {X:Cx}:zb1 X Z0.w:=λ_ _ _ _ _ _ _ h=>by
 obtain⟨_,_,_,_,_,_,_,_,_,_,_,_,q⟩:=h
 exact q.elim
theorem za3 {x qual:Str}{st:Stmt}{f:Addr}{fd:FuncData}{N ps:List Str}{k:Nat}{sd:Sd}(F:Fun K x qual st f fd)(Sc:zaz N ps (zae st))(len:∀ds S Q ex,sd ds S Q ex→ds.length=ps.length)
  (hbody:∀(cdv:Value) (A:Around) (outer:List Env) (s:Shared) (H:Hp) (E:XK),zax k (A.deeper (envOfC qual (zae st) s.heap.objs.size f cdv))→
   ∃t,zbC (zaS (CXE P w) P w K mg base N qual (zae st) f cdv A outer s H E).nox Z0 (zan st) t∧∀ds S Q ex,sd ds S Q ex→t { nx:=λ_ S'=>Q .non S',rt:=Q } (zcU N ds) S):zaO P w K mg base (CXE P w) (k+1) f fd ps (upF K sd):=by
 obtain⟨oc,od,kV,doc,pm,an,cdv,ct,osl,rfl,lk,hcd⟩:=F.ex
 refine ziK lk hcd Sc (λvs H Q E h=>?_) λA outer s H vs Q E hr h=>?_
 ·obtain⟨ex,r,S,ds,Q',rel,p,q,ret⟩:=h
  rw[← p.1]
  exact len ds S Q' ex q
 ·obtain⟨ex,r,S,ds,Q',rel,p,q,ret⟩:=h
  obtain⟨t,ht,hq⟩:=hbody cdv A outer s H E hr
  have back:∀ {H':Hp} {r':List Addr} {S':Sto},Ext r r' H H'→Rel K Z0 r' S' H'→Rel K (Zc ex E) r' S' H':=λx rel'=>⟨rel'.b,rel.xw.ext x⟩
  refine⟨upS K Z0 t,ht.nox,r,zcU N ds,S,_,zlS p,⟨rel.b,λ_ _ _ _ _ _ _ _ _ z=>z.elim⟩,hq ds S Q' ex q,?_,?_,?_,?_⟩
  ·intro σ' H' r' dl' S' x _ rel' z
   exact ret .non H' r' .non S' x (back x rel') .non z
  ·intro σ' H' r' dl' S' x _ rel' z
   exact z
  ·intro σ' H' r' dl' S' x _ rel' z
   exact z
  ·intro v H' r' d S' x rel' p' z
   exact ret v H' r' d S' x (back x rel') p' z
theorem zc3 {x qual:Str}{st:Stmt}{f:Addr}{fd:FuncData}{N ps:List Str}{k:Nat}{sd:Sd}(F:Fun K x qual st f fd)(Sc:zaz N ps (zae st))(len:∀ds S Q ex,sd ds S Q ex→ds.length=ps.length)
  (hbody:∀(cdv:Value) (A:Around) (outer:List Env) (s:Shared) (H:Hp) (E:XK) (ex:Addr→Sto→Prop),zax k (A.deeper (envOfC qual (zae st) s.heap.objs.size f cdv))→
   zb1 (zaS (CXE P w) P w K mg base N qual (zae st) f cdv A outer s H E) (λ_=>E)→zi8 (zaS (CXE P w) P w K mg base N qual (zae st) f cdv A outer s H E) (λ_=>E)→
   ∃t,zbC (zaS (CXE P w) P w K mg base N qual (zae st) f cdv A outer s H E) (Zc ex E) (zan st) t∧∀ds S Q,sd ds S Q ex→t { nx:=λ_ S'=>Q .non S',rt:=Q } (zcU N ds) S):zaO P w K mg base (CXE P w) (k+1) f fd ps (upF K sd):=by
 obtain⟨oc,od,kV,doc,pm,an,cdv,ct,osl,rfl,lk,hcd⟩:=F.ex
 refine ziK lk hcd Sc (λvs H Q E h=>?_) λA outer s H vs Q E hr h=>?_
 ·obtain⟨ex,r,S,ds,Q',rel,p,q,ret⟩:=h
  rw[← p.1]
  exact len ds S Q' ex q
 ·obtain⟨ex,r,S,ds,Q',rel,p,q,ret⟩:=h
  obtain⟨t,ht,hq⟩:=hbody cdv A outer s H E ex hr zoc zos
  refine⟨upS K (Zc ex E) t,ht,r,zcU N ds,S,_,zlS p,rel,hq ds S Q' q,?_,?_,?_,ret⟩
  ·intro σ' H' r' dl' S' x _ rel' z
   exact ret .non H' r' .non S' x rel' .non z
  ·intro σ' H' r' dl' S' x _ rel' z
   exact z
  ·intro σ' H' r' dl' S' x _ rel' z
   exact z
end
open PySem
def Sz (n:Nat)(i:Int):Prop:=i.natAbs<2^n
theorem Sz.mono {m n:Nat}{i:Int}(h:Sz m i)(hn:m≤n):Sz n i:=Vag h (Nat.pow_le_pow_right (by decide) hn)
theorem Sz.bits {n:Nat}{i:Int}(h:Sz n i):Builtin.Int.intBits i≤n:=by
 unfold Builtin.Int.intBits
 split
 ·exact VaJ _
 ·rename_i hz
  have hp:i.natAbs≠0:=by
   intro z
   have z2:i=0:=by omega
   simp[z2] at hz
  have:=(Nat.log2_lt hp).mpr h
  omega
theorem zjG {m n:Nat}{i j:Int}(hi:Sz m i)(hj:Sz n j)(hm:m≤1048576:=by decide)(hn:n≤1048576:=by decide):IntMulOk i j:=by
 have e20:(2:Nat)^20=1048576:=by decide
 exact IntMulOk.of_bits (Vao hi.bits (by omega)) (Vao hj.bits (by omega))
theorem Sz.of {n:Nat}{i:Int}(m:Nat)(h:i.natAbs≤m)(hm:m<2^n:=by decide):Sz n i:=Nat.lt_of_le_of_lt h hm
theorem Sz.add {m n:Nat}{i j:Int}(hi:Sz m i)(hj:Sz n j):Sz (max m n+1) (i+j):=by
 have h1:Sz (max m n) i:=hi.mono (Nat.le_max_left _ _)
 have h2:Sz (max m n) j:=hj.mono (Nat.le_max_right _ _)
 unfold Sz at *
 have e:(2:Nat)^(max m n+1)=2^max m n+2^max m n:=by rw[VaG]; omega
 rw[e]
 have:=Int.natAbs_add_le i j
 omega
theorem Sz.neg {m:Nat}{i:Int}(hi:Sz m i):Sz m (-i):=by
 unfold Sz at *
 rw[Int.natAbs_neg]; exact hi
theorem Sz.sub {m n:Nat}{i j:Int}(hi:Sz m i)(hj:Sz n j):Sz (max m n+1) (i-j):=by
 rw[Int.sub_eq_add_neg]; exact hi.add hj.neg
theorem Sz.log {n:Nat}{i:Int}(h:Sz n i)(hi:i≠0)(hn:n≤9000:=by decide):i.natAbs.log2<9000:=by
 have:=(Nat.log2_lt (by omega:i.natAbs≠0)).mpr h
 omega
theorem Sz.fd {n:Nat}{i:Int}(h:Sz n i)(hi:0<i)(hn:n≤9000:=by decide):0<i∧i.natAbs.log2<9000:=⟨hi,h.log (by omega) hn⟩
theorem zeO {a b:Int}(hb:0<b):0≤a%b∧a%b<b:=⟨Int.emod_nonneg _ (by omega),Int.emod_lt_of_pos _ hb⟩
theorem p40:((10:Int)^(40:Int).toNat)=10^40:=rfl
theorem p41:((10:Int)^(41:Int).toNat)=10^41:=rfl
theorem p20:((10:Int)^(20:Int).toNat)=10^20:=rfl
example (x:Int):-(10^40)≤x%(2*10^40+1)-10^40:=by omega
example (x:Int):x%(2*10^40+1)-10^40≤10^40:=by omega
example (x:Int) (h:-(10^40)≤x) (h2:x≤2*10^41):Sz 140 x:=Sz.of (2*10^41) (by omega)
theorem zrU (a b:Int):Int.gcd b (a%b)=Int.gcd a b:=by
 rw[Int.emod_def,show a-b*(a/b)=a-(a/b)*b by rw[Int.mul_comm],Int.gcd_sub_mul_right_right,Int.gcd_comm]
def zbv (i:Int):Int:=if i<0 then -i else i
theorem ziW (i:Int):0≤zbv i:=by unfold zbv; split <;> omega
theorem znX (a b:Int):Int.gcd (zbv a) (zbv b)=Int.gcd a b:=by
 have h:∀i:Int,(zbv i).natAbs=i.natAbs:=λi=>by unfold zbv; split <;> omega
 unfold Int.gcd
 rw[h,h]
theorem zmk {T B d:Int}(hB:B≠0)(hd:d=(if B<0 then -((Int.gcd T B:Nat):Int) else ((Int.gcd T B:Nat):Int))):
  d≠0∧T.fdiv d*d=T∧B.fdiv d*d=B∧1≤B.fdiv d∧Int.gcd (T.fdiv d) (B.fdiv d)=1∧T.fdiv d*B=T*B.fdiv d:=by
 have g0:0<Int.gcd T B:=Nat.pos_of_ne_zero λz=>hB (Int.gcd_eq_zero_iff.mp z).2
 have dT:((Int.gcd T B:Nat):Int) ∣ T:=Int.gcd_dvd_left T B
 have dB:((Int.gcd T B:Nat):Int) ∣ B:=Int.gcd_dvd_right T B
 have hne:d≠0:=by
  rw[hd]; split <;> omega
 have eT:d ∣ T:=by rw[hd]; split <;> first | exact Int.neg_dvd.mpr dT | exact dT
 have eB:d ∣ B:=by rw[hd]; split <;> first | exact Int.neg_dvd.mpr dB | exact dB
 have fT:T.fdiv d=T/d:=Int.fdiv_eq_ediv_of_dvd eT
 have fB:B.fdiv d=B/d:=Int.fdiv_eq_ediv_of_dvd eB
 have mT:T.fdiv d*d=T:=by rw[fT]; exact Int.ediv_mul_cancel eT
 have mB:B.fdiv d*d=B:=by rw[fB]; exact Int.ediv_mul_cancel eB
 have gg:Int.gcd (T.fdiv d) (B.fdiv d)=1:=by
  have z:=Int.gcd_ediv_gcd_ediv_gcd g0
  rw[fT,fB,hd]
  split
  ·rw[Int.ediv_neg,Int.ediv_neg,Int.neg_gcd,Int.gcd_neg]; exact z
  ·exact z
 have pos:1≤B.fdiv d:=by
  by_cases hb:B<0
  ·have dn:d<0:=by rw[hd,if_pos hb]; omega
   by_cases q:B.fdiv d≤0
   ·have:=Int.mul_nonneg_of_nonpos_of_nonpos q (Int.le_of_lt dn)
    omega
   ·omega
  ·have dp:0<d:=by rw[hd,if_neg hb]; omega
   by_cases q:B.fdiv d≤0
   ·have:=Int.mul_nonneg (show 0≤-(B.fdiv d) by omega) (Int.le_of_lt dp)
    rw[Int.neg_mul] at this
    omega
   ·omega
 refine⟨hne,mT,mB,pos,gg,?_⟩
 calc T.fdiv d*B=T.fdiv d*(B.fdiv d*d):=by rw[mB]
  _=T.fdiv d*d*B.fdiv d:=by grind
  _=T*B.fdiv d:=by rw[mT]
theorem zhM {T d:Int}(hne:d≠0)(mT:T.fdiv d*d=T):(T.fdiv d).natAbs≤T.natAbs:=by
 have h:(T.fdiv d).natAbs*d.natAbs=T.natAbs:=by rw[← Int.natAbs_mul,mT]
 have hd:1≤d.natAbs:=by omega
 calc (T.fdiv d).natAbs=(T.fdiv d).natAbs*1:=by omega
  _≤(T.fdiv d).natAbs*d.natAbs:=Nat.mul_le_mul_left _ hd
  _=T.natAbs:=h
section
variable {X:Cx}{Z:Zx}
def wIf (C:Int→Int→Bool)(g:Int→Int→D):W2:=λx y S Q=>match x,y with
 | .int i,.int j=>if C i j=true then Q (g i j) S else False
 | _,_=>False
theorem opIf {f:Value→Value→Sem Value}{C:Int→Int→Prop}{C':Int→Int→Bool}{g:Int→Int→D}(h:OpR X f (upO X.K Z (wI C g)))(hc:∀i j,C' i j=true→C i j):OpR X f (upO X.K Z (wIf C' g)):=
 zea h λx y H Qv ⟨r,S,dx,dy,Q,rel,px,py,q,ret⟩=>⟨r,S,dx,dy,Q,rel,px,py,by
  unfold wIf at q
  split at q
  ·obtain⟨h1,h2⟩:=zgh q
   exact⟨hc _ _ h1,h2⟩
  ·exact q.elim,ret⟩
def zfY (_ j:Int):Bool:=decide (0<j)&&decide (j<1073741824)
abbrev zn2:W2:=wIf zfY λi j=>.int (i/j)
abbrev wModL:W2:=wIf zfY λi j=>.int (i%j)
def powB (i j:Int):Bool:=decide (0≤j)&&decide (j≤1000)&&decide (-1000<i)&&decide (i<1000)
abbrev wPowL:W2:=wIf powB λi j=>.int (i^j.toNat)
theorem zlW {i j:Int}(h:zfY i j=true):0<j∧j<1073741824:=by
 unfold zfY at h
 simpa using h
theorem zbW:OpR X (binaryOp .FloorDiv) (upO X.K Z zn2):=opIf zlf λi j h=>by
 obtain⟨h1,h2⟩:=zlW h
 refine⟨h1,?_⟩
 have:j.natAbs.log2<30:=(Nat.log2_lt (by omega)).mpr (by omega)
 omega
theorem zbw:OpR X (binaryOp .Mod) (upO X.K Z wModL):=opIf zdu λi j h=>(zlW h).1
theorem zgu:OpR X (binaryOp .Pow) (upO X.K Z wPowL):=opIf zmI λi j h=>by
 unfold powB at h
 simp at h
 refine⟨h.1.1.1,by have:=h.1.1.2; omega,?_⟩
 have h3:=h.1.2
 have h4:=h.2
 have big:(18446744073709551616:Nat)=2^64:=by decide
 omega
structure Df (K:PySem.W.Frag)(mg:Str→Option Value)(x:Str)(st:Stmt)(ps:List Str) where
 f:Addr
 fd:FuncData
 F:Fun K x x st f fd
 m:mg x=some (.ref f)
 b:zbk K fd ps []
structure Fk (P:Program)(w:World)(K:PySem.W.Frag)(mg:Str→Option Value)(base:Heap)(k:Nat)(x:Str)(ps:List Str)(sd:Sd) where
 f:Addr
 fd:FuncData
 ok:zaO P w K mg base (CXE P w) k f fd ps (upF K sd)
 m:mg x=some (.ref f)
 kp:PySem.W.keepIn K (.ref f)=true
 b:zbk K fd ps []
def Df.mk' {P:Program}{w:World}{K:PySem.W.Frag}{mg:Str→Option Value}{base:Heap}{k:Nat}{x:Str}{st:Stmt}{ps:List Str}{sd:Sd}(d:Df K mg x st ps)(h:zaO P w K mg base (CXE P w) k d.f d.fd ps (upF K sd)):Fk P w K mg base k x ps sd:=
 ⟨d.f,d.fd,h,d.m,d.F.kp,d.b⟩
theorem zbn {x:Str}{p pos:Pos}{e:Expr}{es:List Expr}{t:TDA}{k:Nat}{ps:List Str}{sd:Sd}{ex:Ev→Addr→Sto→Prop}{W:St→XK}(G:Fk X.prog X.w X.K X.mg X.base k x ps sd)(hr:zax k X.A)(hx:zb1 X W)(hg:Gl X x)(ha:PDA X ⟨ex,W⟩ (e::es) t)
  (hdb:(x==("__debug__":Str))=false:=by decide)(he:starEach (e::es) X.env=(false,eval e X.env)::starEach es X.env:=by rfl)(hpl:(backTo pos (starEach es X.env)).any (·.1)=false:=by rfl):
  PD X ⟨ex,W⟩ (.Call (.Name x p) (e::es) [] pos) (zfL ex sd t):=zph G.ok hr hg G.m G.kp G.b hx ha hdb he hpl
end
def zfk:Sd:=λds S Q _=>∃ns:List Int,ds=[.ref 0]∧S=[.frz (ns.map D.int)]∧ns.length≤63∧∀S',Q (.bl true) S'
theorem zo2:∀ds S Q ex,zfk ds S Q ex→ds.length=1:=λds S Q ex h=>by
 obtain⟨ns,rfl,_⟩:=h
 rfl
theorem zmE {K:PySem.W.Frag}{H:Hp}{a:Addr}{xs:List V}(hO:zfK H)(h:SqL K H a xs):SqF K H a xs:=by
 rcases h with (h | ⟨o,h⟩) | h
 ·rcases hO a with z | ⟨o,ys,z⟩
  ·rw[h] at z; cases z
  ·rw[h] at z; cases z
 ·exact .inl ⟨o,h⟩
 ·exact .inr h
theorem zrB {r:List Addr}{H:Hp}(ns:List Int):Rps r H (ns.map D.int) (ns.map V.int):=by
 refine⟨by simp,λi d v h1 h2=>?_⟩
 rw[Vau] at h1 h2
 cases q:ns[i]? with
 | none=>rw[q] at h1; cases h1
 | some z=>
  rw[q] at h1 h2
  cases h1
  cases h2
  exact .int z
theorem zmO {K:PySem.W.Frag}{H:Hp}{a:Addr}{ns:List Int}(hl:ns.length≤63)(hO:zfK H)(hS:SqL K H a (ns.map V.int)):upF K zfk [.ref a] H (λv _=>v=.bl true) λ_ _ _=>False:=by
 refine⟨λ_ _=>False,[a],[.frz (ns.map D.int)],[.ref 0],λd _=>d=.bl true,⟨⟨rfl,λn b o h1 h2=>?_,λn m b xs ys h1 h2 h3 h4 o1 o2=>?_⟩,λ_ _ _ _ _ _ _ _ _ z=>z.elim⟩,Rps.cons (.ref rfl) Rps.nil,⟨ns,rfl,rfl,hl,λ_=>rfl⟩,λv H' r' d S' e rel p q=>?_⟩
 ·cases n with
  | zero=>
   simp at h1 h2
   subst h1; subst h2
   exact⟨_,zmE hO hS,zrB ns⟩
  | succ n=>simp at h1
 ·cases n with
  | zero=>
   simp at h3
   subst h3
   cases o1
  | succ n=>simp at h1
 ·subst q
  cases p
  rfl
theorem zss {l:PySem.W.OpenLaw}{q:Program}{loose:List Str}{XP:(Str→Option Value)→Heap→Prop}{YP:World→Heap→Prop}{d:DefRec}{K:Params→PySem.W.Frag}{x:Str}(k:Nat)(hn:l.most=some 63)(hdf:d.params.defaults=[])(hr:zax k callerA)
  (hY:∀(w:World) (h:Heap),YP w h→(K w.params).In h)
  (F:∀(w:World) (mg:Str→Option Value) (fa:Addr) (h:Heap),(K w.params).In h→h.Ns mainGlobals mg→mg d.name=some (.ref fa)→
   ∃fd:FuncData,(∀(s:Shared) (u:Value),BindsTo s fd ⟨[u],[]⟩ [(x,u)])∧∀base:Heap,(K w.params).In base→base.Ns mainGlobals mg→zaO l.prog w (K w.params) mg base (CXE l.prog w) k fa fd [x] (upF (K w.params) zfk)):
  PySem.W.WalkO q loose XP YP l.row.toRowW d [] (λf vs=>PySem.call f vs):=
 L2.zn0 (n:=63) (k:=k) (x:=x) (CX:=λw=>CXE l.prog w) (sp:=λw=>upF (K w.params) zfk) hn (by decide) hdf hr hY F (λ_ _ a ns hl hO hS=>zmO hl hO hS) λ_ _ _ _ _ ⟨_,_,_,_,_,_,_,_,_,_,_,_,z⟩=>z
theorem zgW (K:PySem.W.Frag)(T:String)(h:T∈["int","bool","tuple","str"]):Kit K T:=by
 intro t ht
 simp only[Vad,VaR,or_false] at h ht
 rcases h with rfl | rfl | rfl | rfl <;> rcases ht with rfl | rfl | rfl | rfl | rfl <;> kernel_rfl
theorem ifT {c:Bool}{A B:Prop}(h:c=true)(a:A):if c=true then A else B:=by rw[if_pos h]; exact a
theorem ifF {c:Bool}{A B:Prop}(h:c=false)(b:B):if c=true then A else B:=by rw[h]; exact zbM b
theorem ifP {c A B:Prop} [Decidable c] (h:c)(a:A):if c then A else B:=by rw[if_pos h]; exact a
theorem ifD {c:Prop} [Decidable c] {A B:Prop}(h1:c→A)(h2:¬ c→B):if decide c=true then A else B:=by
 by_cases h:c
 ·rw[decide_eq_true h]; exact zbu (h1 h)
 ·rw[decide_eq_false h]; exact zbM (h2 h)
open PySem L2
open PySem L2
theorem Sz.pow {n:Nat}{i:Int}(h:Sz n i)(k:Nat):Sz (n*k+1) (i^k):=by
 unfold Sz at *
 rw[Int.natAbs_pow,VaG,Nat.pow_mul]
 have h1:i.natAbs^k≤(2^n)^k:=Nat.pow_le_pow_left (VaC h) k
 have h2:0<(2^n)^k:=Nat.pow_pos (Nat.pow_pos (by decide))
 omega
theorem ifN {c:Prop} [Decidable c] {A B:Prop}(h1:¬ c→A)(h2:c→B):if (!decide c)=true then A else B:=by
 by_cases h:c
 ·rw[decide_eq_true h]; exact L2.zbM (h2 h)
 ·rw[decide_eq_false h]; exact L2.zbu (h1 h)
section
variable {X:Cx}{Z:Zx}
def zmX (ex:Ev→Addr→Sto→Prop)(c:Addr)(t:TDA):TDS:=λ_ dl S=>t dl S λds S1=>if ds.length≤1000 then ex dl c S1 else False
theorem zcu {x:Str}{C:Addr}{bm:List Value}{nid B inid:String}{np cpos pos:Pos}{e:Expr}{es:List Expr}{t:TDA}(c:Xc X.K X.mg x C bm nid)(FB:ExcBaseFacts B nid inid bm){ex:Ev→Addr→Sto→Prop}{W:St→XK}(hx:zi8 X W)(hh:X.A.handled=none)(hg:Gl X x)
  (ha:PDA X ⟨ex,W⟩ (e::es) t)(he:starEach (e::es) X.env=(false,eval e X.env)::starEach es X.env:=by rfl)(hpl:(backTo cpos (starEach es X.env)).any (·.1)=false:=by rfl)(hd:(x==("__debug__":Str))=false:=by decide):
  PDS X ⟨ex,W⟩ (.Raise (some (.Call (.Name x np) (e::es) [] cpos)) none pos) (zmX ex C t):=by
 intro pins s σ H F I h
 obtain⟨r,dl,S,E,rs,rel,h,ret⟩:=h
 obtain⟨ml,Nn,cn,cq,cb,cdc,csn,csu,cab,cco,cdd,u0,u1,u2,u3,u5,mN,hC,hN,hni,T⟩:=(zrn c I.ok.mod.kin).obj
 refine wpAny_Raise_call_subT (C:=C) (nm:=cn) (q:=cq) (N:=Nn) (bs:=cb) (bm:=ml) (hdct:=cdc) (sn:=csn) (sub:=csu) (ab:=cab) (col:=cco) (dd:=cdd) (k0:=u0) (k1:=u1) (k2:=u2) (k3:=u3) (k5:=u5)
  FB (mN:=mN) (T.hasType FB.hasBase) hh (by rw[he]; show (false||(backTo cpos (starEach es X.env)).any (·.1))=false; rw[hpl]; rfl) hni (zf0 I hg c.bound ⟨rfl,?_⟩ hd)
 have ha':=ha cpos pins s σ H (λvs H1=>vs.length≤sizeLine∧W σ (.ref C) none H1) I ⟨r,dl,S,_,rs,rel,h,λvs H1 r1 ds S1 e1 rel1 p1 h1=>by
  obtain⟨hl,h1⟩:=zgh h1
  exact⟨by rw[← p1.1]; exact zbF hl,rel1.xw dl σ C H1 r1 S1 Ext.refl (rs.ext e1) rel1.b h1⟩⟩
 rw[he] at ha' ⊢
 refine Calls.evalArgs_plain (wpAny_mono ha' (λus s2 h2=>?_) λ_ _ y=>y)
 obtain⟨vs,H1,I1,rv,hz,hw⟩:=h2
 have keep:∀b o,X.base.get? b=some o→s2.heap.get? b=some o:=λb o z=>(I1.bs b o z).1
 refine⟨rfl,by rw[← rv.length]; exact hz,keep _ _ hC,hN.keeps keep,T.keeps keep,λh' ea hm=>?_⟩
 exact hx pins σ H1 s2 h' ea C us I1 hm hw
abbrev Cx.mrk (X:Cx)(A:Around)(E:Value→Shared→Prop):Cx:={ X with A:=A,calm:=false,xe:=E }
theorem zkB (ok:X.Ok){A:Around}{E:Value→Shared→Prop}(hf:A.frames=X.A.frames):(Cx.mrk X A E).Ok:=
 ⟨ok.mod,ok.kind,ok.glob,ok.blt,ok.above,ok.inj,ok.has,ok.cab,λz=>Bool.noConfusion z,hf.trans ok.frames,ok.stk,ok.exf,ok.bs,ok.bsz,ok.noex,ok.exfs,ok.funs,ok.frf⟩
theorem zhS {pins:List (Addr×Obj)}{σ:St}{H:Hp}{s:Shared}{A:Around}{E:Value→Shared→Prop}(ok:X.Ok)(I:Inv (Cx.mrk X A E) pins σ H s):Inv X pins σ H s:=
 ⟨ok,I.os,I.bare,I.base,I.loc,I.cell,I.free,I.freeC,I.pin,I.hok,I.len⟩
theorem zqH {pins:List (Addr×Obj)}{D:zb8}{f:Flow}{s':Shared}{A:Around}{E:Value→Shared→Prop}(ok:X.Ok)(h:SP (Cx.mrk X A E) pins D f s'):SP X pins D f s':=by
 cases f with
 | next=>obtain⟨σ',H',I,q⟩:=h; exact⟨σ',H',zhS ok I,q⟩
 | brk=>obtain⟨σ',H',I,q⟩:=h; exact⟨σ',H',zhS ok I,q⟩
 | cont=>obtain⟨σ',H',I,q⟩:=h; exact⟨σ',H',zhS ok I,q⟩
 | ret u=>obtain⟨v,σ',H',I,r,q⟩:=h; exact⟨v,σ',H',zhS ok I,r,q⟩
abbrev Cx.held (X:Cx)(pins:List (Addr×Obj))(E:Value→Shared→Prop):Cx:={ X with pn:=X.pn++pins,xe:=E }
theorem zp4 (ok:X.Ok)(pins:List (Addr×Obj))(E:Value→Shared→Prop):(Cx.held X pins E).Ok:=
 ⟨ok.mod,ok.kind,ok.glob,ok.blt,ok.above,ok.inj,ok.has,ok.cab,ok.hd,ok.frames,ok.stk,ok.exf,ok.bs,ok.bsz,ok.noex,ok.exfs,ok.funs,ok.frf⟩
theorem zpp {pins:List (Addr×Obj)}{σ:St}{H:Hp}{s:Shared}(I:Inv X pins σ H s)(E:Value→Shared→Prop):Inv (Cx.held X pins E) [] σ H s:=
 ⟨zp4 I.ok pins E,I.os,I.bare,I.base,I.loc,I.cell,I.free,I.freeC,λp hp=>I.pin p (by simpa using hp),I.hok,I.len⟩
theorem zg3 {pins:List (Addr×Obj)}{σ:St}{H:Hp}{s:Shared}{E:Value→Shared→Prop}(ok:X.Ok)(I:Inv (Cx.held X pins E) [] σ H s):Inv X pins σ H s:=
 ⟨ok,I.os,I.bare,I.base,I.loc,I.cell,I.free,I.freeC,λp hp=>I.pin p (by simpa using hp),I.hok,I.len⟩
theorem zoX {pins:List (Addr×Obj)}{D:zb8}{f:Flow}{s':Shared}{E:Value→Shared→Prop}(ok:X.Ok)(h:SP (Cx.held X pins E) [] D f s'):SP X pins D f s':=by
 cases f with
 | next=>obtain⟨σ',H',I,q⟩:=h; exact⟨σ',H',zg3 ok I,q⟩
 | brk=>obtain⟨σ',H',I,q⟩:=h; exact⟨σ',H',zg3 ok I,q⟩
 | cont=>obtain⟨σ',H',I,q⟩:=h; exact⟨σ',H',zg3 ok I,q⟩
 | ret u=>obtain⟨v,σ',H',I,r,q⟩:=h; exact⟨v,σ',H',zg3 ok I,r,q⟩
theorem zlF {pins pins':List (Addr×Obj)}{σ:St}{H H':Hp}{s s':Shared}{B h5:Heap}{ea c:Addr}{a0:Value}{E:Value→Shared→Prop}(hex:X.ex=[])(hs:X.stack=X.env::X.outer)(hf:X.env.frame=some X.env.locals)
  (hcl:∀x a,X.env.cells.lookup x=some a→False)(ok:X.Ok)(I:Inv (Cx.held X pins E) pins' σ H s)(os:s'.os=s.os)(bare:AllBare s'.gens)(un:Un (frs X.stack) [] H H' s.heap s'.heap)(hok:HOk X.prog X.w H' s'.heap)
  (fl:Heap.FlyingW B (X.env::X.outer) ea (.ref c) a0 s'.heap)(fl5:Heap.FlyingW B (X.env::X.outer) ea (.ref c) a0 h5)(up:s'.heap.UpToSlots h5)(bk:Bk (frs X.stack) H H' B s.heap ea):
  Inv X pins σ (upd H' ea (isX ea c)) { s' with heap:=h5 }:=by
 have nx:∀b:Addr,b ∉ X.ex:=λb z=>by rw[hex] at z; exact absurd z (by simp)
 obtain⟨oe,hoe,hce⟩:=fl5.there
 have fl5':Heap.FlyingW B X.outer ea (.ref c) a0 h5:=by
  obtain⟨k1,k2,⟨_,_,k3⟩,k4⟩:=fl5
  exact⟨k1,k2,k3,k4⟩
 have core:=zj1 (X:=Cx.held X pins E) I hex hs hf un fl fl5' up bk
 obtain⟨un5,bk5⟩:=core
 have hok5:HOk X.prog X.w H' h5:=zi6 hok bk.trk fl.1 fl5.1
 have hLm:X.env.locals∈frs X.stack:=(zd5 I hs hf).mpr (.inl rfl)
 have hneL:X.env.locals≠ea:=λz=>by
  obtain⟨_,o3,e3,d3⟩:=fl5.2.2.1.mem (show X.env.locals∈(X.env::X.outer).filterMap (·.frame) by rw[← hs]; exact hLm)
  obtain⟨oe2,ws,e4,_,d4,_⟩:=fl5.first
  rw[z,e4] at e3
  cases e3
  exact d3 _ d4
 have nf:∀b∈X.fs,b≠ea:=λb hb z=>by
  obtain⟨_,o3,e3,d3⟩:=fl5.2.2.1.mem (show b∈(X.env::X.outer).filterMap (·.frame) by rw[← hs]; exact(zd5 I hs hf).mpr (.inr hb))
  obtain⟨oe2,ws,e4,_,d4,_⟩:=fl5.first
  rw[z,e4] at e3
  cases e3
  exact d3 _ d4
 have oldne:∀ {b:Addr} {o:Obj},X.s₀.heap.get? b=some o→b≠ea:=λ{b o} e z=>by
  by_cases hb:b∈X.fs
  ·exact nf b hb z
  ·obtain⟨o',e'⟩:=bk5.all b o e hb
   rw[z,fl5.2.1] at e'; cases e'
 refine⟨ok,os.trans I.os,bare,?_,?_,λx a z=>(hcl x a z).elim,?_,λx a z=>(hcl x a z).elim,?_,?_,I.len⟩
 ·refine⟨λb o e n hb hx=>un5.keep b o e n hb (by simp),λb o e n hb hx=>un5.slot b o e n hb (by simp),λb o e n hx=>by rw[zaG (oldne e)]; exact un5.free b o e n (by simp),λb o e hx=>un5.there b o e (by simp),?_,?_,?_⟩
  ·intro b xs e
   have z:=un5.tups b xs e
   rw[zaG (zbO z bk.new)]; exact z
  ·intro b ob u e
   have z:=un5.frzs b ob u e
   rw[zaG (zbO z bk.new)]; exact z
  ·intro b ps e
   obtain⟨more,z⟩:=un5.tbls b ps e
   exact⟨more,by rw[zaG (zbO z bk.new)]; exact z⟩
 ·obtain⟨m,hn,look⟩:=I.loc
  obtain⟨o,es,ep,ho,hd,rr⟩:=hn
  obtain⟨sl,e2⟩:=un.slot _ o ho I.free hLm (by simp)
  have hn2:s'.heap.Ns X.env.locals m:=⟨_,es,ep,e2,hd,rr⟩
  refine⟨m,up.ns hn2,λi x v hx z vis=>?_⟩
  obtain⟨u,ru,lk⟩:=look i x v hx z vis
  rcases lk with lk | ⟨_,c,hc,_⟩
  ·exact⟨u,ru,.inl lk⟩
  ·exact(hcl x c hc).elim
 ·rw[zaG hneL]
  obtain⟨m,⟨o,_,_,ho,_⟩,_⟩:=I.loc
  exact un.free _ o ho I.free (by simp)
 ·intro p hp
  obtain⟨p1,p2,p3,p4,p5⟩:=I.pin p (List.mem_append_left _ hp)
  have hst:p.1 ∉ frs X.stack:=λz=>by
   rcases (zd5 I hs hf).mp z with z | z
   ·exact p3 z
   ·exact p4 z
  have hB:=bk.old p.1 p.2 p1 p2 hst
  have hne:p.1≠ea:=λz=>by rw[z,fl5.2.1] at hB; cases hB
  exact⟨fl5.1 _ _ hB,by rw[zaG hne]; exact un.free _ _ p1 p2 (by simp),p3,p4,p5⟩
 ·intro b u e
  by_cases hb:b=ea
  ·subst hb
   rw[zbV] at e
   cases e
   exact⟨⟨oe,hoe,hce⟩,⟨oe,hoe⟩,λh1 h2 ⟨o,q1,q2⟩ k=>⟨o,k o q1,q2⟩⟩
  ·rw[zaG hb] at e
   exact(hok5 b u e).stay (λ_ _ _ z=>z) (λd z=>by rw[zaG (zbO z bk.new)]; exact z) λd xs z=>by rw[zaG (zbO z bk.new)]; exact z
end
structure zdH (k:Nat)(A:Around):Prop where
 dp:A.depth+3*k+5<recursionLimit
 un:A.units+16*k+200<cLine
theorem zdH.mono {j k:Nat}{A:Around}(r:zdH k A)(h:j≤k):zdH j A:=⟨by have:=r.dp; omega,by have:=r.un; omega⟩
theorem zdH.deeper {k:Nat}{A:Around}(r:zdH (k+1) A)(env:Env):zdH k (A.deeper env):=
 ⟨by have:=r.dp; show A.depth+1+3*k+5<_; omega,by have:=r.un; show A.units+3+16*k+200<_; omega⟩
structure FnOkN (P:Program)(w:World)(K:PySem.W.Frag)(mg:Str→Option Value)(base:Heap)(k:Nat)(f:Addr)(fd:FuncData)(ps:List Str)(sp:Sp):Prop where
 len:∀vs H Q E,sp vs H Q E→vs.length=ps.length
 run:∀(A:Around) (outer:List Env) (s:Shared) (H:Hp) (args:Args) (us:List Value) (vs:List V) (Q:VK) (E:XK),zdH k A→zcf P w K mg base A outer s H→BindsTo s fd args (ps.zip us)→zah vs us→sp vs H Q E→
  codeAny (model P w) A (.call (.ref f) args) (CR (CXE P w) outer P w H s Q E) s
section
variable {X:Cx}{k:Nat}{f:Addr}{fd:FuncData}{ps:List Str}{sp:Sp}{W:St→XK}{x:Str}{p pos:Pos}{e:Expr}{es:List Expr}{t:TA}
end
section
variable {X:Cx}{Z:Zx}{x:Str}{p pos:Pos}{e:Expr}{es:List Expr}{t:TDA}
end
section
variable {P:Program}{w:World}{K:PySem.W.Frag}{mg:Str→Option Value}{base:Heap}
end
structure FkN (P:Program)(w:World)(K:PySem.W.Frag)(mg:Str→Option Value)(base:Heap)(k:Nat)(x:Str)(ps:List Str)(sd:Sd) where
 f:Addr
 fd:FuncData
 ok:FnOkN P w K mg base k f fd ps (upF K sd)
 m:mg x=some (.ref f)
 kp:PySem.W.keepIn K (.ref f)=true
 b:zbk K fd ps []
section
variable {X:Cx}{Z:Zx}
theorem zoQ {r r':List Addr}{H H':Hp}{S:Sto}{E:zbL}{F:zb8}(ret:zdp X.K Z r H E F)(rel:Rel X.K Z r S H)(x:Ext r r' H H'):zdp X.K Z0 r' H' E F:=by
 have back:∀ {H2:Hp} {r2:List Addr} {S2:Sto},Ext r' r2 H' H2→Rel X.K Z0 r2 S2 H2→Rel X.K Z r2 S2 H2:=λx2 rel2=>⟨rel2.b,rel.xw.ext (x.trans x2)⟩
 exact⟨λσ2 H2 r2 dl2 S2 x2 rs2 rel2 q=>ret.nx σ2 H2 r2 dl2 S2 (x.trans x2) rs2 (back x2 rel2) q,λσ2 H2 r2 dl2 S2 x2 rs2 rel2 q=>ret.bk σ2 H2 r2 dl2 S2 (x.trans x2) rs2 (back x2 rel2) q,
  λσ2 H2 r2 dl2 S2 x2 rs2 rel2 q=>ret.ct σ2 H2 r2 dl2 S2 (x.trans x2) rs2 (back x2 rel2) q,λv H2 r2 d S2 x2 rel2 p q=>ret.rt v H2 r2 d S2 (x.trans x2) (back x2 rel2) p q⟩
theorem zqy {Z':Zx}{r:List Addr}{H:Hp}{S:Sto}{E:zbL}{F:zb8}(ret:zdp X.K Z r H E F)(rel:Rel X.K Z r S H):zdp X.K Z' r H E F:=by
 have back:∀ {H2:Hp} {r2:List Addr} {S2:Sto},Ext r r2 H H2→Rel X.K Z' r2 S2 H2→Rel X.K Z r2 S2 H2:=λx2 rel2=>⟨rel2.b,rel.xw.ext x2⟩
 exact⟨λσ2 H2 r2 dl2 S2 x2 rs2 rel2 q=>ret.nx σ2 H2 r2 dl2 S2 x2 rs2 (back x2 rel2) q,λσ2 H2 r2 dl2 S2 x2 rs2 rel2 q=>ret.bk σ2 H2 r2 dl2 S2 x2 rs2 (back x2 rel2) q,
  λσ2 H2 r2 dl2 S2 x2 rs2 rel2 q=>ret.ct σ2 H2 r2 dl2 S2 x2 rs2 (back x2 rel2) q,λv H2 r2 d S2 x2 rel2 p q=>ret.rt v H2 r2 d S2 x2 (back x2 rel2) p q⟩
theorem zk2 {r:List Addr}{H:Hp}{a:Addr}{o:HO}(h:H a=none):Ext r r H (upd H a o):=⟨λ_ _ q=>q,λ_ _ q=>zdw h _ _ q,λ_ _ q=>zdw h _ _ q⟩
def dTryA (n i:Nat)(tb:(Ev→Addr→Sto→Prop)→TDS)(hit:Addr→Bool)(ts:TDS):TDS:=λE dl S=>tb (λdl0 c S'=>hit c=true∧ts { nx:=λdl' S2=>E.nx (dl'.set i none) S2,rt:=E.rt,bk:=λdl' S2=>E.bk (dl'.set i none) S2,ct:=λdl' S2=>E.ct (dl'.set i none) S2 } (dl0.set i (some (.exc c))) S') E dl S
theorem zjF {r:List Addr}{H:Hp}{dl:Ev}{σ:St}(i:Nat)(h:Rs r H dl σ):Rs r H (dl.set i none) (σ.set i none):=by
 refine⟨by simp[h.1],λj d e=>?_⟩
 by_cases hij:i=j
 ·subst hij
  have hl:i<dl.length:=by
   have:=(Vac.mp e).1
   simpa using this
  rw[VaD hl] at e
  cases e
 ·rw[VaA hij] at e
  obtain⟨v,h1,h2⟩:=h.2 j d e
  exact⟨v,by rw[VaA hij]; exact h1,h2⟩
theorem zgQ {pins:List (Addr×Obj)}{σ:St}{H:Hp}{s:Shared}{A:Around}{E:Value→Shared→Prop}{i:Nat}{n:Str}{pos:Pos}{Q:Unit→Shared→Prop}(I:Inv X pins σ H s)(hN:X.N.Nodup)(hi:X.N[i]?=some n)(hl:X.env.scope.names.lookup n=some .local)
  (h:∀s',Inv X pins (σ.set i none) H s'→Q () s'):wpAny (model X.prog X.w) A (do bindName X.env n .none; unbindBehindTheSuite X.env n pos) Q E s:=by
 obtain⟨m,hn,hloc⟩:=I.loc
 refine wpAny_nameGoes_keeps hl hn (by rw[I.ok.kind]; rfl) λh' v hn' sb=>h _ ?_
 have nL:∀ {b:Addr} {o:Obj},X.s₀.heap.get? b=some o→b≠X.env.locals:=λ{b o} e=>Val (Vag (Heap.lt_size e) I.ok.above)
 have hok':HOk X.prog X.w H h':=λb ob e=>(I.hok b ob e).stay (λc w' hc q=>(sb.2 c (by
  rintro rfl
  rcases hc with rfl | hc
  ·rw[I.free] at e; cases e
  ·rw[I.free] at hc; cases hc)).trans q) (λ_ q=>q) λ_ _ q=>q
 refine⟨I.ok,I.os,I.bare,⟨λb o e n hb hx=>(sb.2 b (nL e)).trans (I.base.keep b o e n hb hx),λb o e n hb hx=>?_,I.base.free,λb o e hx=>?_,I.base.tups,I.base.frzs,I.base.tbls⟩,⟨_,hn',λj y v' e1 e2 e3=>?_⟩,λy c e=>?_,I.free,I.freeC,λp hp=>?_,hok',by simpa using I.len⟩
 ·obtain⟨sl,e1⟩:=I.base.slot b o e n hb hx
  exact⟨sl,(sb.2 b (nL e)).trans e1⟩
 ·obtain⟨o',e1⟩:=I.base.there b o e hx
  exact⟨o',(sb.2 b (nL e)).trans e1⟩
 ·by_cases hj:j=i
  ·subst hj
   have hlt:j<σ.length:=by rw[I.len]; exact(Vac.mp hi).1
   rw[VaD hlt] at e2
   cases e2
  ·rw[VaA (Ne.symm hj)] at e2
   obtain⟨u',r',q⟩:=hloc j y v' e1 e2 e3
   refine⟨u',r',?_⟩
   rcases q with ⟨k,e⟩ | ⟨k,c,e,z⟩
   ·refine .inl ⟨k,?_⟩
    have ne:y≠n:=λe=>hj (zi1 hN e1 (e ▸ hi))
    simp[ne,e]
   ·exact .inr ⟨k,c,e,z.sameBut sb (I.cne y c e)⟩
 ·obtain⟨w',z⟩:=I.cell y c e
  exact⟨w',z.sameBut sb (I.cne y c e)⟩
 ·obtain⟨e,n1,ne,nf,d⟩:=I.pin p hp
  exact⟨(sb.2 p.1 ne).trans e,n1,ne,nf,d⟩
theorem zrj {body:List Stmt}{b0:Stmt}{suite:List Stmt}{hx nm:Str}{np hp pos:Pos}{C:Addr}{n i:Nat}{tb:(Ev→Addr→Sto→Prop)→TDS}{hit:Addr→Bool}{ts:TDS}(hex:X.ex=[])(hs:X.stack=X.env::X.outer)(hf:X.env.frame=some X.env.locals)
  (hcl:∀x a,X.env.cells.lookup x=some a→False)(hn:X.N.length=n)(hN:X.N.Nodup)(hi:X.N[i]?=some nm)(hl:X.env.scope.names.lookup nm=some .local)(hm:X.mg hx=some (.ref C))(hg:Gl X hx)
  (hh:∀c,hit c=true→PySem.W.exmOne X.K (.ref c) (.ref C)=some true)
  (hb:∀(pins:List (Addr×Obj)) (xe:Value→Shared→Prop) (ex:Ev→Addr→Sto→Prop) (W:St→XK),zb1 (Cx.held X pins xe) W→zbC (Cx.held X pins xe) ⟨ex,W⟩ body (tb ex))
  (hsu:∀(A:Around) (xe:Value→Shared→Prop),(∀k,zax k X.A→zdH k A)→zbC (Cx.mrk X A xe) Z0 (b0::suite) ts)(hd:(hx==("__debug__":Str))=false:=by decide):
  PDS X Z (.Try body [.ExceptHandler (some (.Name hx np)) (some nm) (b0::suite) hp] [] [] pos) (dTryA n i tb hit ts):=by
 intro pins s σ H F I h
 obtain⟨r,dl,S,E,rs,rel,h,ret⟩:=h
 subst hn
 have pass:zb1 (Cx.held X pins (λe s1=>wpAny (model X.prog X.w) X.A (noteFrame e X.env) (λ_ s2=>wpAny (model X.prog X.w) X.A (setFlight e none) (λ_ s3=>wpAny (model X.prog X.w) X.A (handleBy e X.env [.ExceptHandler (some (.Name hx np)) (some nm) (b0::suite) hp]) (SP X pins F) X.xe s3) X.xe s2) X.xe s1))
   (λσ' cls _ H'=>∃c r' S' dl',cls=.ref c∧Ext r r' H H'∧zaJ X.K r' S' H'∧Rs r' H' dl' σ'∧hit c=true∧ts { nx:=λdl' S2=>E.nx (dl'.set i none) S2,rt:=E.rt,bk:=λdl' S2=>E.bk (dl'.set i none) S2,ct:=λdl' S2=>E.ct (dl'.set i none) S2 } (dl'.set i (some (.exc c))) S'):=by
  intro pins' σ' H1 s1 e s2 I1 hq
  obtain⟨ea,c,a0,B,H',rfl,os,bare,un,hok,fl,bk,c',r',S',dl',ec,x',rb',rs',hit',hts⟩:=hq
  cases ec
  have fl0:Heap.FlyingW B (X.env::X.outer) ea (.ref c) a0 s2.heap:=by rw[← hs]; exact fl
  refine wpAny_looks_onW (by rw[← hs]; exact I.ok.frames) hf fl0 λh4 held4 up4=>?_
  refine wpAny_landsW held4 λh5 fl5 up5=>?_
  have I5:=zlF hex hs hf hcl I.ok I1 os bare un hok fl0 fl5 (up4.trans up5) bk
  have LT:PySem.W.Looks (model X.prog X.w) h5 (typeOf (.ref ea)) (.ref c):=by
   obtain⟨ob,hob,hc⟩:=fl5.there
   rw[← hc]
   exact(PySem.W.Looks.ld hob).andThen .now
  refine wpAny_handleBy_cons (codeAny_handlers_test ?_) (by intro q; cases q)
  have I5m:Inv (Cx.mrk X (X.A.mark (some (.ref ea))) X.xe) pins σ' (upd H' ea (isX ea c)) { s2 with heap:=h5 }:=⟨zkB I.ok rfl,I5.os,I5.bare,I5.base,I5.loc,I5.cell,I5.free,I5.freeC,I5.pin,I5.hok,I5.len⟩
  refine zf0 I5m hg hm ?_ hd
  refine(PySem.W.exm_one (M:=model X.prog X.w) I5.kIn LT (hh c hit')).here ?_
  refine codeAny_handlers_suite_as (lands_againW fl5 λh6 fl6 up6=>?_)
  have I6:=zlF hex hs hf hcl I.ok I1 os bare un hok fl0 fl6 ((up4.trans up5).trans up6) bk
  refine ziG (v:=.ref ea) I6 hN hi (.inl hl) rfl (λs7 I7=>?_) (.inr hl)
  have x6:Ext r' r' H' (upd H' ea (isX ea c)):=zk2 bk.new
  have ret6:=zoQ ret rel (x'.trans x6)
  have rs6:Rs r' (upd H' ea (isX ea c)) (dl'.set i (some (.exc c))) (σ'.set i (some (.ref ea))):=(rs'.ext x6).set i (.exc zbV)
  refine wpAny_mono (hsu (X.A.mark (some (.ref ea))) _ (λ_ q=>⟨q.dp,q.un⟩) pins s7 _ (upd H' ea (isX ea c))
   { nx:=λσ2 H2=>F.nx (σ2.set i none) H2,rt:=F.rt,bk:=λσ2 H2=>F.bk (σ2.set i none) H2,ct:=λσ2 H2=>F.ct (σ2.set i none) H2 } ⟨zkB I.ok rfl,I7.os,I7.bare,I7.base,I7.loc,I7.cell,I7.free,I7.freeC,I7.pin,I7.hok,I7.len⟩
   ⟨r',_,S',_,rs6,⟨rb'.same (zdw bk.new),λ_ _ _ _ _ _ _ _ _ z=>z.elim⟩,hts,⟨λσ2 H2 r2 dl2 S2 x2 rs2 rel2 q=>ret6.nx _ H2 r2 _ S2 x2 (zjF i rs2) rel2 q,λσ2 H2 r2 dl2 S2 x2 rs2 rel2 q=>ret6.bk _ H2 r2 _ S2 x2 (zjF i rs2) rel2 q,
    λσ2 H2 r2 dl2 S2 x2 rs2 rel2 q=>ret6.ct _ H2 r2 _ S2 x2 (zjF i rs2) rel2 q,ret6.rt⟩⟩) (λf s' q=>?_) λ_ _ q=>q
  have q':=zqH I.ok q
  cases f with
  | next=>obtain⟨σ2,H2,I2,q2⟩:=q'; exact zgQ I2 hN hi hl λs3 I3=>⟨_,H2,I3,q2⟩
  | brk=>obtain⟨σ2,H2,I2,q2⟩:=q'; exact zgQ I2 hN hi hl λs3 I3=>⟨_,H2,I3,q2⟩
  | cont=>obtain⟨σ2,H2,I2,q2⟩:=q'; exact zgQ I2 hN hi hl λs3 I3=>⟨_,H2,I3,q2⟩
  | ret u=>obtain⟨v2,σ2,H2,I2,rv2,q2⟩:=q'; exact zgQ I2 hN hi hl λs3 I3=>⟨v2,_,H2,I3,rv2,q2⟩
 refine wpAny_Try_except (wpAny_mono (hb pins _ _ _ pass [] s σ H F (zpp I _)
  ⟨r,dl,S,E,rs,⟨rel.b,λdl' σ' c H' r' S' x rs' rb q=>⟨c,r',S',dl',rfl,x,rb,rs',q⟩⟩,h,zqy ret rel⟩) (λf s1 q=>?_) λ_ _ q=>q)
 have q':=zoX I.ok q
 cases f with
 | next=>exact wpAny_execs_nil q'
 | brk=>exact q'
 | cont=>exact q'
 | ret u=>exact q'
open PySem.W in
end
abbrev VE:List Value:=[.type "ValueError",.type "Exception",.type "BaseException",.type "object"]
structure Ec (K:PySem.W.Frag)(mg:Str→Option Value)(x:Str) where
 c:Addr
 xc:Xc K mg x c VE "ValueError.__new__"
def ziw (a:Addr):Addr→Bool:=λc=>decide (c=a)
theorem zpx {a:Addr}{P:Addr→Prop}(h:P a):∀c,ziw a c=true→P c:=λc e=>by
 have z:c=a:=of_decide_eq_true e
 subst z
 exact h
theorem zqs (a:Addr):ziw a a=true:=decide_eq_true rfl
end L3
namespace L3
open PySem PySem.Spec PyProof.Rows L2
inductive Sco (n:Nat):D→Prop
 | non:Sco n .non
 | bl (b:Bool):Sco n (.bl b)
 | int (i:Int):Sco n (.int i)
 | str (x:Str):Sco n (.str x)
 | tup {ds:List D}:(∀d∈ds,Sco n d)→Sco n (.tup ds)
 | ref {m:Nat}:m<n→Sco n (.ref m)
 | exc (c:Addr):Sco n (.exc c)
theorem Rp.sco {r:List Addr}{H:Hp}{d:D}{v:V}(h:Rp r H d v):Sco r.length d:=by
 induction h with
 | non=>exact .non
 | bl b=>exact .bl b
 | int i=>exact .int i
 | str x=>exact .str x
 | @tup ds xs a _ l _ ih=>
  refine .tup λd hd=>?_
  obtain⟨i,hi,e⟩:=List.mem_iff_getElem.mp hd
  exact ih i d xs[i] (by simp[hi,e]) (by simp[l ▸ hi])
 | ref h=>exact .ref (Vac.mp h).1
 | exc _=>exact .exc _
theorem Rp.low {r r':List Addr}{H:Hp}{d:D}{v:V}(h:Rp r' H d v)(low:∀m a,m<r.length→r'[m]?=some a→r[m]?=some a)(s:Sco r.length d):Rp r H d v:=by
 induction h with
 | non=>exact .non
 | bl b=>exact .bl b
 | int i=>exact .int i
 | str x=>exact .str x
 | tup e l f ih=>
  cases s with
  | tup s=>exact .tup e l λi d v h1 h2=>ih i d v h1 h2 (s d (Vax h1))
 | ref h=>
  cases s with
  | ref s=>exact .ref (low _ _ s h)
 | exc h=>exact .exc h
def Pre (S S':Sto):Prop:=∀(n:Nat) (o:Ob),S[n]?=some o→S'[n]?=some o
theorem Pre.refl {S:Sto}:Pre S S:=λ_ _ h=>h
theorem Pre.push {S S':Sto}{o:Ob}(h:Pre S S'):Pre S (S'++[o]):=λn u e=>by
 have z:=h n u e
 rw[Van (Vac.mp z).1]; exact z
theorem Pre.trans {S S' S2:Sto}(h:Pre S S')(k:Pre S' S2):Pre S S2:=λn o e=>k n o (h n o e)
theorem zkc {r r':List Addr}{H H':Hp}(e:Ext r r' H H'):∀m a,m<r.length→r'[m]?=some a→r[m]?=some a:=λm a hm h=>by
 have z:r[m]?=some r[m]:=by simp[hm]
 rw[e.adr _ _ z] at h
 rw[z]; exact h
theorem zaJ.low {K:PySem.W.Frag}{r r':List Addr}{S S':Sto}{H H':Hp}(h:zaJ K r S H)(e:Ext r r' H H')(h':zaJ K r' S' H')(p:Pre S S'):zaJ K r S H':=by
 have rl:∀ {ds:List D} {xs ys:List V},Rps r H ds xs→Rps r' H' ds ys→Rps r H' ds ys:=λ{ds xs ys} a b=>⟨b.1,λi d v h1 h2=>by
  obtain⟨v0,_,q⟩:=a.get h1
  exact(b.2 i d v h1 h2).low (zkc e) q.sco⟩
 refine⟨h.len,λn a o h1 h2=>?_,λn m a xs ys h1 h2 h3 h4 o1 o2=>h'.nd n m a xs ys (e.adr _ _ h1) (e.adr _ _ h2) (p _ _ h3) (p _ _ h4) o1 o2⟩
 have q:=h.ob n a o h1 h2
 have q':=h'.ob n a o (e.adr _ _ h1) (p _ _ h2)
 cases o with
 | lst ds=>
  obtain⟨xs,_,a1⟩:=q
  obtain⟨ys,b0,b1⟩:=q'
  exact⟨ys,b0,rl a1 b1⟩
 | frz ds=>
  obtain⟨xs,_,a1⟩:=q
  obtain⟨ys,b0,b1⟩:=q'
  exact⟨ys,b0,rl a1 b1⟩
 | ins C fs=>
  obtain⟨_,_,_,a1⟩:=q
  obtain⟨dx,fs',b0,b1⟩:=q'
  exact⟨dx,fs',b0,b1.1,rl a1.2 b1.2⟩
 | dct kvs=>
  obtain⟨_,_,a1⟩:=q
  obtain⟨ks,b0,b1⟩:=q'
  exact⟨ks,b0,b1.1,rl a1.2 b1.2⟩
 | tpl ws=>exact q'
def Gc (S:Sto)(Q:DK):DK:=λd S'=>Pre S S'∧Sco S.length d∧Q d S
def GcX (S:Sto)(ex:Addr→Sto→Prop):Addr→Sto→Prop:=λc S'=>Pre S S'∧ex c S
theorem Ret.gc {K:PySem.W.Frag}{Z Z':Zx}{r:List Addr}{S:Sto}{H:Hp}{Q:DK}{Qv:VK}(h:Ret K Z r H Q Qv)(rel:Rel K Z r S H):Ret K Z' r H (Gc S Q) Qv:=λv H' r' d S' e rel' p q=>by
 obtain⟨pre,sc,q⟩:=q
 have e':Ext r r H H':=⟨λ_ _ z=>z,e.tup,e.xc⟩
 rw[← rel.len] at sc
 exact h v H' r d S e' ⟨rel.b.low e rel'.b pre,rel.xw.ext e'⟩ (p.low (zkc e) sc) q
theorem zeb.gc {K:PySem.W.Frag}{ex:Addr→Sto→Prop}{E:XK}{r:List Addr}{S:Sto}{H:Hp}(rel:Rel K (Zc ex E) r S H):zeb K (Zc (GcX S ex) E) r H:=λdl σ c H' r' S' e _ rb q=>by
 obtain⟨pre,q⟩:=q
 have e':Ext r r H H':=⟨λ_ _ z=>z,e.tup,e.xc⟩
 exact rel.xw [] [] c H' r S e' ⟨rfl,λi d z=>by simp at z⟩ (rel.b.low e rb pre) q
section
variable {P:Program}{w:World}{K:PySem.W.Frag}{mg:Str→Option Value}{base:Heap}
def gcS (sd:Sd):Sd:=λds S Q ex=>∃Q0 ex0,Q=Gc S Q0∧ex=GcX S ex0∧sd ds S Q0 ex0
theorem zkF {CX:CXT}{k:Nat}{f:Addr}{fd:FuncData}{ps:List Str}{sd:Sd}(h:zaO P w K mg base CX k f fd ps (upF K (gcS sd))):zaO P w K mg base CX k f fd ps (upF K sd):=by
 have imp:∀vs H Q E,upF K sd vs H Q E→upF K (gcS sd) vs H Q E:=λvs H Qv E ⟨ex,r,S,ds,Q,rel,p,q,ret⟩=>
  ⟨GcX S ex,r,S,ds,Gc S Q,⟨rel.b,zeb.gc rel⟩,p,⟨Q,ex,rfl,rfl,q⟩,ret.gc rel⟩
 obtain⟨h1,h2⟩:=h
 exact⟨λvs H Q E q=>h1 vs H Q E (imp vs H Q E q),λA outer s H args us vs Q E hr e0 hb rv q=>h2 A outer s H args us vs Q E hr e0 hb rv (imp vs H Q E q)⟩
end
theorem zl0 {sd:Sd}{n:Nat}(len:∀ds S Q ex,sd ds S Q ex→ds.length=n):∀ds S Q ex,gcS sd ds S Q ex→ds.length=n:=λds S Q ex h=>by
 obtain⟨Q0,ex0,_,_,h⟩:=h
 exact len _ _ _ _ h
structure zdt (sc around:Scope)(x:Str)(caps:List Str):Prop where
 kind:sc.kind=.function
 nocell:∀y∈sc.names,y.2≠.cell
 own:∀y∈sc.names,y.2=.local→sc.names.lookup y.1=some .local
 loc:sc.names.lookup x=some .local
 cap:∀y∈caps,sc.names.lookup y=some .free
 out:∀y∈sc.names,y.2=.free→around.names.lookup y.1=some .cell
theorem zjB {α:Type}{y:Str}{v:α}:∀ {l:List (Str×α)},l.lookup y=some v→(y,v)∈l
 | [],h=>by simp at h
 | (n,k)::r,h=>by
  cases e:y==n with
  | true=>
   rw[Vaj,e] at h
   have z:k=v:=Option.some.inj h
   have z2:y=n:=by simpa using e
   rw[z,z2]; exact Vaz
  | false=>
   rw[Vaj,e] at h
   exact Vat _ (zjB h)
theorem ziR {env:Env}:∀(l:List (Str×NameKind)) (acc:List (Str×Addr)),(∀y∈l,y.2=.free→∃c,env.cells.lookup y.1=some c)→(∀x c,acc.lookup x=some c→env.cells.lookup x=some c)→
  ∃cl,(forIn l acc λx r=>(if (x.2==NameKind.free)=true then do let a ← cellOf env x.1; pure (ForInStep.yield ((x.1,a)::r)) else pure (ForInStep.yield r):Sem (ForInStep (List (Str×Addr)))))=pure cl∧
   (∀x c,cl.lookup x=some c→env.cells.lookup x=some c)∧(∀y∈l,y.2=.free→cl.lookup y.1=env.cells.lookup y.1)∧∀x c,acc.lookup x=some c→∃c',cl.lookup x=some c'
 | [],acc,_,ha=>⟨acc,by simp,ha,λy hy=>(by cases hy),λx c e=>⟨c,e⟩⟩
 | (n,k)::r,acc,h,ha=>by
  cases hk:(k==NameKind.free) with
  | false=>
   obtain⟨cl,h1,h2,h3,h4⟩:=ziR r acc (λy hy=>h y (Vat _ hy)) ha
   refine⟨cl,?_,h2,λy hy hf=>?_,h4⟩
   ·rw[List.forIn_cons]; simp[hk]; simpa using h1
   ·have hy':=Vad.mp hy
    rcases hy' with rfl | hy
    ·rw[show k=NameKind.free from hf] at hk; exact absurd hk (by decide)
    ·exact h3 y hy hf
  | true=>
   have hf:k=NameKind.free:=by simpa using hk
   obtain⟨c,hc⟩:=h (n,k) Vaz hf
   obtain⟨cl,h1,h2,h3,h4⟩:=ziR r ((n,c)::acc) (λy hy=>h y (Vat _ hy)) (λx c' e=>by
    cases q:x==n with
    | true=>
     rw[Vaj,q] at e
     have z:x=n:=by simpa using q
     rw[z,hc]; exact e
    | false=>
     rw[Vaj,q] at e
     exact ha x c' e)
   refine⟨cl,?_,h2,λy hy hf=>?_,λx c' e=>?_⟩
   ·have ec:cellOf env n=pure c:=by unfold cellOf; rw[hc]
    rw[List.forIn_cons]; simp[hk,ec]; simpa using h1
   ·have hy':=Vad.mp hy
    rcases hy' with rfl | hy
    ·obtain⟨c',e⟩:=h4 n c (by simp)
     rw[e]; exact(h2 _ _ e).symm
    ·exact h3 y hy hf
   ·refine h4 x (if x==n then c else c') ?_
    cases q:x==n with
    | true=>simp[Vaj,q]
    | false=>simp[Vaj,q,e]
theorem zp6 {sc:Scope}{env:Env}(h:∀y∈sc.names,y.2=.free→∃c,env.cells.lookup y.1=some c):
  ∃cl,closureFor sc env=pure cl∧(∀x c,cl.lookup x=some c→env.cells.lookup x=some c)∧∀y∈sc.names,y.2=.free→cl.lookup y.1=env.cells.lookup y.1:=by
 obtain⟨cl,h1,h2,h3,_⟩:=ziR sc.names [] h (λx c e=>by simp at e)
 refine⟨cl,?_,h2,h3⟩
 unfold closureFor
 simp only[bind_pure]
 exact h1
theorem zkG {env:Env}:∀ {names:List (Str×NameKind)} {x:Str},names.lookup x=some .free→
  (names.map λ(n,k)=>if (k==NameKind.free&&env.scope.kind==.function&&env.kindOf n==some .cell) then (n,NameKind.cell) else (n,k)).lookup x=some .cell∨
  (names.map λ(n,k)=>if (k==NameKind.free&&env.scope.kind==.function&&env.kindOf n==some .cell) then (n,NameKind.cell) else (n,k)).lookup x=some .free
 | [],_,h=>by simp at h
 | (n,k)::r,x,h=>by
  have ih:=@zkG env r x
  rw[Vaf]
  cases hx:x==n with
  | true=>
   rw[Vaj,hx] at h
   have hk:k=.free:=Option.some.inj h
   subst hk
   dsimp only
   split
   ·left; simp[Vaj,hx]
   ·right; simp[Vaj,hx]
  | false=>
   rw[Vaj,hx] at h
   dsimp only
   split
   ·simp only[Vaj,hx]; exact ih h
   ·simp only[Vaj,hx]; exact ih h
theorem zkb {env:Env}:∀ {names:List (Str×NameKind)} {x:Str},(∀y∈names,y.2≠.cell)→
  ((names.map λ(n,k)=>if (k==NameKind.free&&env.scope.kind==.function&&env.kindOf n==some .cell) then (n,NameKind.cell) else (n,k)).lookup x=some .cell∨
  (names.map λ(n,k)=>if (k==NameKind.free&&env.scope.kind==.function&&env.kindOf n==some .cell) then (n,NameKind.cell) else (n,k)).lookup x=some .free)→names.lookup x=some .free
 | [],_,_,h=>by simp at h
 | (n,k)::r,x,hc,h=>by
  have ih:=@zkb env r x λy hy=>hc y (Vat _ hy)
  rw[Vaf] at h
  cases hx:x==n with
  | true=>
   rw[Vaj,hx]
   dsimp only at h
   split at h
   ·rename_i q
    simp only[Vap] at q
    have hk:k=.free:=by simpa using q.1.1
    rw[hk]
   ·simp only[Vaj,hx] at h
    rcases h with h | h
    ·exact absurd (Option.some.inj h) (hc (n,k) Vaz)
    ·exact h
  | false=>
   rw[Vaj,hx]
   dsimp only at h
   split at h
   ·simp only[Vaj,hx] at h; exact ih h
   ·simp only[Vaj,hx] at h; exact ih h
abbrev Cx.comp (X:Cx)(sc:Scope)(N:List Str)(cl:List (Str×Addr))(C:Addr)(s0:Shared)(H0:Hp)(fp:List Addr)(pn:List (Addr×Obj)):Cx:=
 { X with N:=N,env:=compEnvC sc cl C X.env,s₀:=s0,H₀:=H0,outer:=X.stack,stack:=X.stack,ex:=fp,fn:=λ_=>false,pn:=pn,xe:=λ_ _=>False }
def zbB (caps:List Nat)(σ:St):St:=caps.map λj=>(σ[j]?).join
def zcD (caps:List Nat)(dl:Ev):Ev:=caps.map λj=>(dl[j]?).join
def zfW (caps:List Nat)(wi:TI)(tc:TT)(te:TE):TE:=λσ H Q=>wi σ H λJ H1=>∀D,H1 D=none→∃W:Nat→Nat→Hp→Prop,(∃m,W 0 m (upd H1 D (.lst [])))∧∀i m H,W i m H→
 (J.stop i H∧Q (.ref D) H)∨(J.go i H∧∀x H',J.yld i H x H'→tc (some x::zbB caps σ) H' λb H2=>if b=true then te (some x::zbB caps σ) H2 λy H3=>∃ys,H3 D=some (.lst ys)∧ys.length<sizeLine∧∃m',m'<m∧W (i+1) m' (upd H3 D (.lst (ys++[y])))
  else ∃m',m'<m∧W (i+1) m' H2)
def PTs (Y:Cx)(ifs:List Expr)(tc:TT):Prop:=∀(pins:List (Addr×Obj)) (s:Shared) (σ:St) (H:Hp) (Q:Bool→Hp→Prop),Inv Y pins σ H s→tc σ H Q→
 wpAny (model Y.prog Y.w) Y.A (forIn ifs true λc r=>if r=true then do let ok ← isTrue c Y.env (eval c Y.env); pure (ForInStep.yield ok) else pure (ForInStep.yield r)) (TP Y pins σ Q) Y.xe s
theorem zn8 {Y:Cx}:PTs Y [] (λ_ H Q=>Q true H):=λ_ _ _ H _ I h=>wpAny_tests_nil ⟨H,I,h⟩
theorem zqC {Y:Cx}{c:Expr}{tc:TT}(h:PT Y c tc):PTs Y [c] tc:=λpins s σ H Q I q=>wpAny_tests_one (h pins s σ H Q I q)
section
variable {X:Cx}{pins:List (Addr×Obj)}{σ:St}{H:Hp}{s:Shared}
theorem zoZ {sc:Scope}{x:Str}{N:List Str}{caps:List Nat}{cl:List (Str×Addr)}{fp:List Addr}{h1:Heap}{m:Str→Option Value}{tk:Nat}(I:Inv X pins σ H s)(cs:zdt sc X.env.scope x N)
  (hN:∀(j:Nat) (y:Str),N[j]?=some y→∃i,caps[j]?=some i∧X.N[i]?=some y)(hlen:caps.length=N.length)
  (c1:∀x c,cl.lookup x=some c→X.env.cells.lookup x=some c)(c2:∀y∈sc.names,y.2=.free→cl.lookup y.1=X.env.cells.lookup y.1)
  (hf:∀b∈fp,zcs X pins H b)(hfo:∀b∈fp,b<s.heap.objs.size)(hns:h1.Ns s.heap.objs.size m)(hk:∀b o,s.heap.get? b=some o→h1.get? b=some o):
  Inv (Cx.comp X sc (x::N) cl s.heap.objs.size s H fp (X.pn++pins)) [] (none::zbB caps σ) H { s with heap:=h1,toks:=tk }:=by
 have stk:∀b∈frs X.stack,b=X.env.locals∨b∈X.fs:=λb hb=>Vad.mp (I.stkSub b hb)
 refine⟨⟨I.ok.mod,cs.kind,I.ok.glob,I.ok.blt,Vaa _,λa b c h1 h2=>I.ok.inj a b c (c1 _ _ h1) (c1 _ _ h2),λy hy=>?_,λ_ _ z=>Bool.noConfusion z,I.ok.hd,I.ok.frames,.inl rfl,λb hb=>⟨Val (hfo b hb),λy c e=>(hf b hb).2.2.2.2.1 y c (c1 _ _ e)⟩,
  I.bs,Vao I.ok.bsz I.sz,λb o e hb=>?_,λb hb z=>?_,I.stack,I.stkFree⟩,rfl,I.bare,Un.kept hk,⟨m,hns,λi y v e1 e2 e3=>?_⟩,λy c e=>?_,I.hok.fresh (Vaa _),λy c e=>I.freeC y c (c1 _ _ e),λp hp=>?_,I.hok.kept hk,?_⟩
 ·have hfr:sc.names.lookup y=some .free:=zkb cs.nocell hy
  have hm:=zjB hfr
  obtain⟨c,e⟩:=I.ok.has y (.inl (cs.out _ hm rfl))
  exact⟨c,(c2 _ hm rfl).trans e⟩
 ·rcases (hf b hb).2.2.2.1 with z | z
  ·exact I.ok.noex b o e z
  ·exact absurd (Vag (Heap.lt_size (I.ok.bs b o e).1) z) (VaB _)
 ·rcases stk b z with z | z
  ·exact(hf b hb).2.1 z
  ·exact(hf b hb).2.2.1 z
 ·cases i with
  | zero=>simp at e2
  | succ i=>
   have e1':N[i]?=some y:=by simpa using e1
   obtain⟨j,hj,hy⟩:=hN i y e1'
   have e2':σ[j]?=some (some v):=by
    simp only[List.getElem?_cons_succ,zbB,Vau,hj,Option.map_some,Option.some.injEq] at e2
    cases q:σ[j]? with
    | none=>rw[q] at e2; cases e2
    | some o=>rw[q] at e2; simp at e2; rw[e2]
   have hfr:sc.names.lookup y=some .free:=cs.cap y (Vax e1')
   have hm:=zjB hfr
   have hce:X.env.scope.names.lookup y=some .cell:=cs.out _ hm rfl
   obtain⟨m0,_,hl⟩:=I.loc
   obtain⟨u,r,l⟩:=hl j y v hy e2' (.inr (.inl hce))
   refine⟨u,r,.inr ⟨zkG hfr,?_⟩⟩
   rcases l with ⟨k,_⟩ | ⟨_,c,ec,hcell⟩
   ·rw[show X.env.kindOf y=some .cell from hce] at k; cases k
   ·exact⟨c,(c2 _ hm rfl).trans ec,hcell.keeps hk⟩
 ·obtain⟨v,z⟩:=I.cell y c (c1 _ _ e)
  exact⟨v,z.keeps hk⟩
 ·have hp':p∈X.pn++pins:=by simpa using hp
  obtain⟨p1,p2,p3,p4,p5⟩:=I.pin p hp'
  refine⟨hk _ _ p1,p2,Val (Heap.lt_size p1),λz=>?_,p5⟩
  rcases stk _ z with z | z
  ·exact p3 z
  ·exact p4 z
 ·simp[zbB,hlen]
end
section
variable {X:Cx}{elt iter:Expr}{x:Str}{px pos:Pos}{ifs:List Expr}{sc:Scope}{N:List Str}{caps:List Nat}{wi:TI}{tc:TT}{te:TE}
structure zrf (X:Cx)(pins:List (Addr×Obj))(σ:St)(C:Addr)(Q:VK)(D:Addr)(s':Shared):Prop where
 q:∃H',Inv X pins σ H' s'∧Q (.ref D) H'∧H' C=none
 ns:∃m,s'.heap.Ns C m
 loc:C≠X.env.locals
 old:X.s₀.heap.objs.size≤C
 cell:∀x c,X.env.cells.lookup x=some c→c≠C
 pin:∀p∈X.pn++pins,p.1≠C
theorem zlu {use:Option (Value→Sem Unit)}{Qr:Value→Shared→Prop}(hc:X.calm=true)(cs:zdt sc X.env.scope x N)(hN:∀(j:Nat) (y:Str),N[j]?=some y→∃i,caps[j]?=some i∧X.N[i]?=some y)(hlen:caps.length=N.length)(hnd:(x::N).Nodup)
  (hi:PI X (.Name x px) iter wi)(ht:∀cl C s0 H0 fp pn,PTs (Cx.comp X sc (x::N) cl C s0 H0 fp pn) ifs tc)(he:∀cl C s0 H0 fp pn,PE (Cx.comp X sc (x::N) cl C s0 H0 fp pn) elt te)
  (hs:∀y,foldedSetIterable iter X.env y=pure y)
  {pins:List (Addr×Obj)}{s:Shared}{σ:St}{H:Hp}{Q:VK}{p2:Pos}(I:Inv X pins σ H s)(h:zfW caps wi tc te σ H Q)
  (fin:∀D C s',zrf X pins σ C Q D s'→compPost (model X.prog X.w) X.A X.xe use Qr (.ref D) C (.ok .next) s'):
  wpAny (model X.prog X.w) X.A (comprehension (.ListComp elt [⟨.Name x px,iter,ifs,0⟩] sc pos) sc X.env p2 (newList []) false (eval iter X.env) use) Qr X.xe s:=by
 obtain⟨cl,k1,k2,k3⟩:=zp6 (sc:=sc) (env:=X.env) λy hy hf=>I.ok.has y.1 (.inl (cs.out y hy hf))
 refine wpAny_comprehension_free rfl hs k1 cs.kind cs.own (thn (hi pins s σ H _ I h) λv s1 h1=>thn h1 λitv s2 h2=>?_)
 obtain⟨it,fp,tn,J,H2,e,I2,T,st2,f2,body⟩:=h2
 subst e
 have hfo:∀b∈fp,b<s2.heap.objs.size:=λb hb=>by
  obtain⟨o,e,_⟩:=T.obj _ _ st2 b hb
  exact Heap.lt_size e
 have hD:H2 s2.heap.objs.size=none:=I2.hok.fresh (Vaa _)
 obtain⟨W,⟨m0,w0⟩,turn⟩:=body _ hD
 refine wpAny_newObj_type ?_
 have I3:Inv X pins σ (upd H2 s2.heap.objs.size (.lst [])) { s2 with heap:=s2.heap.push { cls:=.type "list",dict:=none,data:=.seq ([]:List Value).toArray },toks:=s2.toks }:=
  I2.laid (t':=s2.toks) (λb u e=>Heap.get?_push_of_some _ e) (Vaa _) ⟨VaJ _,[],0,.nil,Heap.get?_push_size _ rfl⟩
 generalize hs3:({ s2 with heap:=s2.heap.push { cls:=.type "list",dict:=none,data:=.seq ([]:List Value).toArray },toks:=s2.toks }:Shared)=s3 at I3
 have es3:({ s2 with heap:=s2.heap.push { cls:=.type "list",dict:=none,data:=.seq ([]:List Value).toArray } }:Shared)=s3:=hs3
 try rw[es3]
 have f3:∀b∈fp,zcs X pins (upd H2 s2.heap.objs.size (.lst [])) b:=λb hb=>⟨by rw[zaG (Val (hfo b hb))]; exact(f2 b hb).1,(f2 b hb).2⟩
 have up3:∀b o,s2.heap.get? b=some o→s3.heap.get? b=some o:=λb o e=>by rw[← hs3]; exact Heap.get?_push_of_some _ e
 have st3:tn 0 s3.heap:=T.keep _ _ _ st2 λb _ o e=>up3 b o e
 have hfo3:∀b∈fp,b<s3.heap.objs.size:=λb hb=>by
  obtain⟨o,e,_⟩:=T.obj _ _ st3 b hb
  exact Heap.lt_size e
 refine wpAny_newFunctionEnv cs.nocell (λy hy=>by simp at hy) (λh4 ns4 sb4=>?_) cs.kind
 have hk4:∀b o,s3.heap.get? b=some o→h4.get? b=some o:=λb o e=>(sb4.2 b (Val (Heap.lt_size e))).trans (Heap.get?_push_of_some _ e)
 have I4:=zoZ (tk:=s3.toks+([]:List (Str×Value)).length) I3 cs hN hlen k2 k3 f3 hfo3 ns4 hk4
 generalize hs4:({ s3 with heap:=h4,toks:=s3.toks+([]:List (Str×Value)).length }:Shared)=s4 at I4 ⊢
 have eh4:s4.heap=h4:=by rw[← hs4]
 have st4:tn 0 s4.heap:=by rw[eh4]; exact T.keep _ _ _ st3 λb _ o e=>hk4 b o e
 have fY:∀ {H':Hp},(∀b∈fp,H' b=none)→∀b∈fp,zcs (Cx.comp X sc (x::N) cl s3.heap.objs.size s3 (upd H2 s2.heap.objs.size (.lst [])) fp (X.pn++pins)) [] H' b:=λhn b hb=>by
  obtain⟨_,z2,z3,z4,z5,z6⟩:=f3 b hb
  refine⟨hn b hb,Val (hfo3 b hb),λz=>?_,.inl hb,λy c e=>z5 y c (k2 _ _ e),λp hp=>z6 p (by simpa using hp)⟩
  rcases Vad.mp (I3.stkSub b z) with z | z
  ·exact z2 z
  ·exact z3 z
 have locY:(Cx.comp X sc (x::N) cl s3.heap.objs.size s3 (upd H2 s2.heap.objs.size (.lst [])) fp (X.pn++pins)).env.scope.names.lookup x=some .local:=lookup_relabel_local cs.loc
 have loop:codeAny (model X.prog X.w) X.A (.compLoop (.ListComp elt [⟨.Name x px,iter,ifs,0⟩] sc pos) 0 (.ref it) (.ref s2.heap.objs.size) (compEnvC sc cl s3.heap.objs.size X.env))
   (compPost (model X.prog X.w) X.A X.xe use Qr (.ref s2.heap.objs.size) s3.heap.objs.size) s4:=by
  refine codeAny_compLoop_tests (λn s'=>∃i o H',Inv (Cx.comp X sc (x::N) cl s3.heap.objs.size s3 (upd H2 s2.heap.objs.size (.lst [])) fp (X.pn++pins)) [] (o::zbB caps σ) H' s'∧tn i s'.heap∧(∀b∈fp,H' b=none)∧W i n H') ?_ m0
   ⟨0,none,_,I4,st4,λb hb=>(f3 b hb).1,w0⟩
  rintro n s5 ⟨i,o,H5,I5,st5,fr5,w5⟩
  rcases turn i n H5 w5 with ⟨stop,q⟩ | ⟨go,step⟩
  ·refine thn (T.done (Cx.comp X sc (x::N) cl s3.heap.objs.size s3 (upd H2 s2.heap.objs.size (.lst [])) fp (X.pn++pins)) rfl rfl rfl hc i [] s5 _ H5 _ I5 (fY fr5) st5 stop) λr s6 ⟨hr,I6⟩=>?_
   subst hr
   refine fin _ _ _ ⟨⟨H5,I3.call' I6.os I6.base I6.hok I6.bare (λb hb=>?_),q,I6.free⟩,?_,Nat.ne_of_gt I3.lt,I3.sz,λy c e z=>?_,λp hp z=>?_⟩
   ·obtain⟨_,z2,z3,z4,z5,z6⟩:=f3 b hb
    exact⟨z4,z2,z5,z6⟩
   ·obtain⟨m,hm,_⟩:=I6.loc
    exact⟨m,hm⟩
   ·obtain⟨v,hv⟩:=I3.cell y c e
    exact absurd (z ▸ hv.lt) (VaB _)
   ·exact absurd (z ▸ Heap.lt_size (I3.pin p hp).1) (VaB _)
  ·refine thn (T.item (Cx.comp X sc (x::N) cl s3.heap.objs.size s3 (upd H2 s2.heap.objs.size (.lst [])) fp (X.pn++pins)) rfl rfl rfl hc i [] s5 _ H5 _ I5 (fY fr5) st5 go) λr s6 ⟨u,hr,h6⟩=>?_
   subst hr
   show wpAny _ _ (letOwnedTupleGo (.Name x px) (.ref it) u >>= λ_=>assign (.Name x px) (compEnvC sc cl s3.heap.objs.size X.env) u) _ _ s6
   refine wpAny_bind (thn h6 λ_ s7 ⟨y,H7,I7,r7,y7,st7,fr7⟩=>?_)
   have I7':=I7.pinned (fY fr7) (T.obj _ _ st7)
   refine wpAny_mono (ziN (X:=Cx.comp X sc (x::N) cl s3.heap.objs.size s3 (upd H2 s2.heap.objs.size (.lst [])) fp (X.pn++pins)) (pos:=px) hnd (i:=0) rfl (.inl locY) (.inr locY) _ s7 _ H7 y u (λσ8 H8=>σ8=some y::zbB caps σ∧H8=H7) I7' r7 ⟨rfl,rfl⟩) (λ_ s8 ⟨σ8,H8,I8,e8,e8'⟩=>?_) λ_ _ z=>z.elim
   subst e8
   subst e8'
   have stay:∀ {H':Hp} {s':Shared},Inv (Cx.comp X sc (x::N) cl s3.heap.objs.size s3 (upd H2 s2.heap.objs.size (.lst [])) fp (X.pn++pins)) ([]++zfU fp s7.heap) (some y::zbB caps σ) H' s'→∀m',m'<n→W (i+1) m' H'→
     ∃m,m<n∧∃i o H',Inv (Cx.comp X sc (x::N) cl s3.heap.objs.size s3 (upd H2 s2.heap.objs.size (.lst [])) fp (X.pn++pins)) [] (o::zbB caps σ) H' s'∧tn i s'.heap∧(∀b∈fp,H' b=none)∧W i m H':=λ{H' s'} J m' hm w'=>by
    refine⟨m',hm,i+1,some y,H',J.unpinned,T.keep _ _ _ st7 λb hb o e=>(J.pin (b,o) (VaE _ (VaE _ (zgN hb e)))).1,λb hb=>?_,w'⟩
    obtain⟨o,e,d⟩:=T.obj _ _ st7 b hb
    exact(J.pin (b,o) (VaE _ (VaE _ (zgN hb e)))).2.1
   refine wpAny_mono (ht _ _ _ _ _ _ _ s8 _ H8 _ I8 (step y H8 y7)) (λb s9 ⟨H9,I9,q9⟩=>?_) λ_ _ z=>z.elim
   cases b with
   | false=>
    rw[if_neg Vae] at q9 ⊢
    obtain⟨m',hm,w9⟩:=q9
    exact stay I9 m' hm w9
   | true=>
    rw[if_pos rfl] at q9 ⊢
    refine wpAny_mono (he _ _ _ _ _ _ _ s9 _ H9 _ I9 q9) (λu2 s10 ⟨z,H10,I10,r10,q10⟩=>?_) λ_ _ z=>z.elim
    obtain⟨ys,hD10,hlt,m',hm,w10⟩:=q10
    refine wpAny_mono (zjY (X:=(Cx.comp X sc (x::N) cl s3.heap.objs.size s3 (upd H2 s2.heap.objs.size (.lst [])) fp (X.pn++pins))) _ s10 _ H10 (.ref s2.heap.objs.size) [z] (.ref s2.heap.objs.size) [u2] (λ_ H'=>H'=upd H10 s2.heap.objs.size (.lst (ys++[z]))) I10 rfl (.cons r10 .nil) ⟨_,ys,z,rfl,rfl,hD10,hlt,rfl⟩) (λ_ s11 ⟨_,H11,I11,_,e11⟩=>?_) λ_ _ z=>z.elim
    subst e11
    exact stay I11 m' hm w10
 exact codeAny_compStart_list loop (T.self _ 0 s4 _ _ st4 loop)
theorem zgY {X:Cx}{caps:List Nat}{N:List Str}(h:caps.map (λi=>X.N[i]?)=N.map some):(∀(j:Nat) (y:Str),N[j]?=some y→∃i,caps[j]?=some i∧X.N[i]?=some y)∧caps.length=N.length:=by
 refine⟨λj y e=>?_,by simpa using congrArg List.length h⟩
 have z:(caps.map (λi=>X.N[i]?))[j]?=some (some y):=by rw[h,Vau,e]; rfl
 rw[Vau] at z
 cases q:caps[j]? with
 | none=>rw[q] at z; cases z
 | some i=>rw[q] at z; exact⟨i,rfl,by simpa using z⟩
theorem zlq (hc:X.calm=true)(cs:zdt sc X.env.scope x N)(hN:caps.map (λi=>X.N[i]?)=N.map some)(hnd:(x::N).Nodup)
  (hi:PI X (.Name x px) iter wi)(ht:∀cl C s0 H0 fp pn,PTs (Cx.comp X sc (x::N) cl C s0 H0 fp pn) ifs tc)(he:∀cl C s0 H0 fp pn,PE (Cx.comp X sc (x::N) cl C s0 H0 fp pn) elt te)
  (hs:∀y,foldedSetIterable iter X.env y=pure y:=by intro _; rfl):PE X (.ListComp elt [⟨.Name x px,iter,ifs,0⟩] sc pos) (zfW caps wi tc te):=by
 intro pins s σ H Q I h
 rw[eval_ListComp]
 refine zlu (use:=none) hc cs (zgY hN).1 (zgY hN).2 hnd hi ht he hs I h λD C s' f=>?_
 obtain⟨⟨H',I',q,hC⟩,⟨m,ns⟩,l,o,c,p⟩:=f
 exact⟨m,ns,λh' sb=>⟨.ref D,H',I'.turned (t':=s'.toks) (λb ob hb e=>(sb.2 b hb).trans e) hC l (.inr o) c p,rfl,q⟩⟩
theorem zqK {i:Nat}{y:Str}{py spos:Pos}(hc:X.calm=true)(cs:zdt sc X.env.scope x N)(hN:caps.map (λi=>X.N[i]?)=N.map some)(hnd:(x::N).Nodup)
  (hi:PI X (.Name x px) iter wi)(ht:∀cl C s0 H0 fp pn,PTs (Cx.comp X sc (x::N) cl C s0 H0 fp pn) ifs tc)(he:∀cl C s0 H0 fp pn,PE (Cx.comp X sc (x::N) cl C s0 H0 fp pn) elt te)
  (hNd:X.N.Nodup)(hy:X.N[i]?=some y)(hl:X.env.scope.names.lookup y=some .local)
  (hsw:swapsWith (.ListComp elt [⟨.Name x px,iter,ifs,0⟩] sc pos) (some (.Name y py)) spos.line X.env=pure true)
  (hs:∀y,foldedSetIterable iter X.env y=pure y:=by intro _; rfl):PS X (.Assign [.Name y py] (.ListComp elt [⟨.Name x px,iter,ifs,0⟩] sc pos) spos) (λE σ H=>zfW caps wi tc te σ H λv H1=>E.nx (σ.set i (some v)) H1):=by
 intro pins s σ H E I h
 rw[exec_Assign_Name_used (hs:=hsw)]
 refine wpAny_bind (wpAny_standAt ?_); refine wpAny_bind ?_; show wpAny _ _ (comprehension _ sc X.env _ (newList []) false (eval iter X.env) (some (assign (.Name y py) X.env)) >>= λ_=>pure ()) _ _ s
 refine wpAny_bind (thn (zlu (use:=some (assign (.Name y py) X.env)) (Qr:=λ_ s'=>SP X pins E .next s') hc cs (zgY hN).1 (zgY hN).2 hnd hi ht he hs I h λD C s' f=>?_) λ_ s' hq=>wpAny_pure (wpAny_pure hq))
 obtain⟨⟨H',I',q,hC⟩,⟨m,ns⟩,l,o,c,p⟩:=f
 refine wpAny_assign_Name (zlG (v:=.ref D) I' hNd hy (.inl hl) rfl (λs'' I'' ⟨a,sb,ha⟩=>⟨m,ns.sameBut sb ?_,λh' sb'=>⟨_,H',I''.turned (t':=s''.toks) (λb ob hb e=>(sb'.2 b hb).trans e) hC l (.inr o) c p,q⟩⟩) (.inr hl))
 rcases ha with rfl | ha
 ·exact l
 ·exact Ne.symm (c _ _ ha)
end
section
variable {X:Cx}{Z:Zx}{elt iter:Expr}{x:Str}{px pos:Pos}{ifs:List Expr}{sc ar:Scope}{N:List Str}{caps:List Nat}
theorem zmT {r:List Addr}{H:Hp}{dl:Ev}{σ:St}{d:D}{v:V}(h:Rs r H dl σ)(p:Rp r H d v):Rs r H (some d::zcD caps dl) (some v::zbB caps σ):=by
 refine⟨by simp[zcD,zbB],λi e hi=>?_⟩
 cases i with
 | zero=>simp at hi; subst hi; exact⟨v,rfl,p⟩
 | succ i=>
  simp only[List.getElem?_cons_succ,zcD,Vau] at hi
  cases q:caps[i]? with
  | none=>rw[q] at hi; cases hi
  | some j=>
   rw[q] at hi
   simp only[Option.map_some,Option.some.injEq] at hi
   have hj:dl[j]?=some (some e):=by
    cases q2:dl[j]? with
    | none=>rw[q2] at hi; cases hi
    | some o=>rw[q2] at hi; simp at hi; rw[hi]
   obtain⟨w,h1,h2⟩:=h.2 j e hj
   refine⟨w,?_,h2⟩
   simp only[List.getElem?_cons_succ,zbB,Vau,q,Option.map_some,h1,Option.join_some]
def zgz (Y:Cx)(ifs:List Expr)(t:TDT):Prop:=PTs Y ifs (upT Y.K Z0 t)
def zfJ:TDT:=λ_ S Q=>Q true S
theorem zlA {Y:Cx}:zgz Y [] zfJ:=λpins s σ H Qb I ⟨r,dl,S,Q,rs,rel,q,ret⟩=>zn8 pins s σ H Qb I (ret true H r S Ext.refl rel q)
theorem zrD {Y:Cx}{c:Expr}{t:TDT}(h:PDT Y Z0 c t):zgz Y [c] t:=zqC h
def zeU (caps:List Nat)(tc:TDT)(te:TDE)(k:Nat)(dl:Ev)(d:D)(S:Sto)(nx:Sto→Prop):Prop:=
 tc (some d::zcD caps dl) S λb S1=>if b=true then te (some d::zcD caps dl) S1 λy S2=>match S2[k]? with
  | some (.lst ys)=>ys.length<1000∧nx (S2.set k (.lst (ys++[y])))
  | _=>False
 else nx S1
@[irreducible] def zdI (caps:List Nat)(ta:TDA)(tc:TDT)(te:TDE):TDE:=λdl S Q=>ta dl S λds S1=>match ds with
 | [.int j]=>(-(2^62)≤j∧j<2^62)∧∃W:Nat→Sto→Prop,W 0 (S1++[.lst []])∧∀k S2,W k S2→
   if k<j.toNat then zeU caps tc te S1.length dl (.int k) S2 λS3=>W (k+1) S3 else Q (.ref S1.length) S2
 | _=>False
theorem zjP {tc:TDT}{te:TDE}{r2:List Addr}{H2:Hp}{S1 S2:Sto}{dl:Ev}{σ:St}{D0:Addr}{d:D}{v:V}{nx:Sto→Prop}{Nx:Hp→Prop}(rs:Rs r2 H2 dl σ)(ha:r2[S1.length]?=some D0)(rb:zaJ X.K r2 S2 H2)(p:Rp r2 H2 d v)
  (h:zeU caps tc te S1.length dl d S2 nx)(hn:∀r' S' H',Ext r2 r' H2 H'→zaJ X.K r' S' H'→nx S'→Nx H'):
  upT X.K Z0 tc (some v::zbB caps σ) H2 λb H3=>if b=true then up X.K Z0 te (some v::zbB caps σ) H3 λy H4=>∃ys,H4 D0=some (.lst ys)∧ys.length<sizeLine∧Nx (upd H4 D0 (.lst (ys++[y]))) else Nx H3:=by
 have rsY:Rs r2 H2 (some d::zcD caps dl) (some v::zbB caps σ):=zmT rs p
 refine⟨r2,_,S2,_,rsY,⟨rb,λ_ _ _ _ _ _ _ _ _ z=>z.elim⟩,h,λb H3 r3 S3 x3 rel3 q3=>?_⟩
 cases b with
 | false=>rw[if_neg Vae] at q3 ⊢; exact hn r3 S3 H3 x3 rel3.b q3
 | true=>
  rw[if_pos rfl] at q3 ⊢
  refine⟨r3,_,S3,_,rsY.ext x3,rel3,q3,λz H4 r4 dz S4 x4 rel4 p4 q4=>?_⟩
  split at q4
  ·rename_i ys eys
   obtain⟨hl,q4⟩:=q4
   have ha4:r4[S1.length]?=some D0:=x4.adr _ _ (x3.adr _ _ ha)
   obtain⟨zs,hD4,pz⟩:=rel4.b.ob _ _ _ ha4 eys
   obtain⟨rel5,x5⟩:=rel4.b.set ha4 eys (pz.snoc p4)
   exact⟨zs,hD4,by rw[← pz.1]; exact ziv (VaC hl),hn r4 _ _ (x3.trans (x4.trans x5)) rel5 q4⟩
  ·exact q4.elim
theorem zei {r:List Addr}{D0:Addr}{n:Nat}(h:r.length=n):(r++[D0])[n]?=some D0:=by subst h; simp
theorem zmc {ta:TDA}{tc:TDT}{te:TDE}{σ:St}{H:Hp}{Qv:VK}(h:up X.K Z (zdI caps ta tc te) σ H Qv):zfW caps (zla (upA X.K Z ta)) (upT X.K Z0 tc) (up X.K Z0 te) σ H Qv:=by
 obtain⟨r,dl,S,Q,rs,rel,h,ret⟩:=h
 unfold zdI at h
 refine⟨r,dl,S,_,rs,rel,h,λvs H1 r1 ds S1 x1 rel1 p1 q1=>?_⟩
 split at q1
 ·rename_i j
  obtain⟨v,vs',rfl,p2,p3⟩:=p1.uncons
  have z:=p3.unnil
  subst z
  cases p2
  obtain⟨⟨b1,b2⟩,W,w0,turn⟩:=q1
  refine⟨j,rfl,b1,b2,λD0 hD=>?_⟩
  obtain⟨rel2,x2⟩:=rel1.b.push (ds:=[]) (xs:=[]) hD Rps.nil
  refine⟨λk m H'=>m=j.toNat-k∧∃r' S',Ext (r1++[D0]) r' (upd H1 D0 (.lst [])) H'∧zaJ X.K r' S' H'∧W k S',⟨j.toNat,by simp,_,_,Ext.refl,rel2,w0⟩,?_⟩
  rintro k m H2 ⟨em,r2,S2,x3,rb2,w2⟩
  have ha2:r2[S1.length]?=some D0:=x3.adr _ _ (zei rel1.len)
  have q:=turn k S2 w2
  split at q
  ·rename_i hk
   refine .inr ⟨hk,λv' H' y'=>?_⟩
   obtain⟨eH,y'⟩:=y'
   subst eH
   subst y'
   have pk:Rp r2 H' (.int (k:Int)) (.int (0+(k:Int))):=by rw[Int.zero_add]; exact .int _
   have z:=zjP (Nx:=λH'=>∃m',m'<m∧m'=j.toNat-(k+1)∧∃r' S',Ext (r1++[D0]) r' (upd H1 D0 (.lst [])) H'∧zaJ X.K r' S' H'∧W (k+1) S') (rs.ext (x1.trans (x2.trans x3))) ha2 rb2 pk q
    λr' S' H' x' rb' w'=>⟨j.toNat-(k+1),by omega,rfl,r',S',x3.trans x',rb',w'⟩
   exact z
  ·rename_i hk
   exact .inl ⟨by show j.toNat≤k; omega,ret _ H2 r2 _ S2 (x1.trans (x2.trans x3)) ⟨rb2,rel.xw.ext (x1.trans (x2.trans x3))⟩ (.ref ha2) q⟩
 ·exact q1.elim
theorem znH {ta:TDA}{tc:TDT}{te:TDE}{a:Expr}{p pos2:Pos}(har:X.env.scope=ar)(hc:X.calm=true)(cs:zdt sc ar x N)(hN:caps.map (λi=>X.N[i]?)=N.map some)(hnd:(x::N).Nodup)(hg:Gl X "range")(hm:X.mg "range"=none)(ha:PDA X Z [a] ta)
  (ht:∀cl C s0 H0 fp pn,zgz (Cx.comp X sc (x::N) cl C s0 H0 fp pn) ifs tc)(he:∀cl C s0 H0 fp pn,PD (Cx.comp X sc (x::N) cl C s0 H0 fp pn) Z0 elt te)
  (hs:∀y,foldedSetIterable (.Call (.Name "range" p) [a] [] pos2) X.env y=pure y:=by intro _; rfl)(hst:starEach [a] X.env=[(false,eval a X.env)]:=by rfl):
  PD X Z (.ListComp elt [⟨.Name x px,.Call (.Name "range" p) [a] [] pos2,ifs,0⟩] sc pos) (zdI caps ta tc te):=by
 subst har
 exact zaD (zlq hc cs hN hnd (tc:=upT X.K Z0 tc) (te:=up X.K Z0 te) (zi3 hg hm ha hst) ht he hs) λ_ _ _ h=>zmc h
theorem zsv {t:TE}{td:TDE}{i:Nat}{F:zb8}{σ:St}{H:Hp}(imp:∀Qv,up X.K Z td σ H Qv→t σ H Qv)(h:upS X.K Z (λE dl S=>td dl S λd S1=>E.nx (dl.set i (some d)) S1) F σ H):t σ H λv H1=>F.nx (σ.set i (some v)) H1:=by
 obtain⟨r,dl,S,E,rs,rel,h,ret⟩:=h
 exact imp _ ⟨r,dl,S,_,rs,rel,h,λv H1 r1 d S1 x rel1 p q=>ret.nx _ H1 r1 _ S1 x ((rs.ext x).set i p) rel1 q⟩
theorem zrl {ta:TDA}{tc:TDT}{te:TDE}{a:Expr}{p pos2:Pos}{i:Nat}{y:Str}{py spos:Pos}(har:X.env.scope=ar)(hc:X.calm=true)(cs:zdt sc ar x N)(hN:caps.map (λi=>X.N[i]?)=N.map some)(hnd:(x::N).Nodup)(hNd:X.N.Nodup)(hy:X.N[i]?=some y)
  (hlo:ar.names.lookup y=some .local)(hg:Gl X "range")(hm:X.mg "range"=none)(ha:PDA X Z [a] ta)
  (ht:∀cl C s0 H0 fp pn,zgz (Cx.comp X sc (x::N) cl C s0 H0 fp pn) ifs tc)(he:∀cl C s0 H0 fp pn,PD (Cx.comp X sc (x::N) cl C s0 H0 fp pn) Z0 elt te)
  (hsw:swapsWith (.ListComp elt [⟨.Name x px,.Call (.Name "range" p) [a] [] pos2,ifs,0⟩] sc pos) (some (.Name y py)) spos.line X.env=pure true:=by rfl)
  (hs:∀y,foldedSetIterable (.Call (.Name "range" p) [a] [] pos2) X.env y=pure y:=by intro _; rfl)(hst:starEach [a] X.env=[(false,eval a X.env)]:=by rfl):
  PDS X Z (.Assign [.Name y py] (.ListComp elt [⟨.Name x px,.Call (.Name "range" p) [a] [] pos2,ifs,0⟩] sc pos) spos) (zeM i (zdI caps ta tc te)):=by
 subst har
 exact zcE (zqK hc cs hN hnd (tc:=upT X.K Z0 tc) (te:=up X.K Z0 te) (zi3 hg hm ha hst) ht he hNd hy hlo hsw hs) λF σ H h=>zsv (λ_ h=>zmc h) h
@[irreducible] def zfD (to te:TDE):TDE:=λdl S Q=>to dl S λx S1=>match x with
 | .ref n=>match S1[n]? with
  | some (.lst _)=>te dl S1 λy S2=>match S2[n]? with
   | some (.lst xs)=>if xs.length<1000 then Q .non (S2.set n (.lst (xs++[y]))) else False
   | _=>False
  | _=>False
 | _=>False
theorem zlX {o e:Expr}{to te:TDE}{apos cpos:Pos}(ho:PD X Z o to)(he:PD X Z e te)(hbase:attributeBase o "append" X.env (eval o X.env)=eval o X.env:=by rfl)
  (hfew:((backTo cpos (starEach [e] X.env)).all (λx=>!x.1)&&(backToKw cpos (keywordEach [] X.env)).all (λx=>x.1.isSome)
  &&decide (([e]:List Expr).length+([]:List Keyword).length+(if ([]:List Keyword).isEmpty then 0 else 1)<30))=true:=by rfl)
  (hline:(apos.endLine==cpos.line)=true:=by rfl)(hst:starEach [e] X.env=[(false,eval e X.env)]:=by rfl):
  PD X Z (.Call (.Attribute o "append" apos) [e] [] cpos) (zfD to te):=
 zaD (zeP PySem.F.plainAttrs_list PySem.F.slot_list_append PySem.F.type_list_append zjY ho (zda he zfx hst) hbase hfew hline hst rfl) λσ H Qv h=>by
  obtain⟨r,dl,S,Q,rs,rel,h,ret⟩:=h
  unfold zfD at h
  refine⟨r,dl,S,_,rs,rel,h,λv H1 r1 d S1 x1 rel1 p1 h1=>?_⟩
  cases p1 with
  | @ref n a hn=>
   dsimp only at h1
   split at h1
   ·rename_i xs0 e0
    obtain⟨a',ha,ob⟩:=rel1.at e0
    rw[hn] at ha; cases ha
    obtain⟨ys,hH,_⟩:=ob
    refine⟨.inl ⟨rfl,ys,SqL.of hH⟩,r1,dl,S1,_,rs.ext x1,rel1,h1,λv2 H2 r2 d2 S2 x2 rel2 p2 h2=>?_⟩
    split at h2
    ·rename_i xs1 e1
     obtain⟨hlt,h2⟩:=zgh h2
     have ha2:=x2.adr n a hn
     obtain⟨zs,hH2,pz⟩:=rel2.b.ob n a _ ha2 e1
     obtain⟨rel3,x3⟩:=rel2.set ha2 e1 (pz.snoc p2)
     exact⟨a,zs,v2,rfl,rfl,hH2,by rw[← pz.1]; exact ziv (VaC hlt),ret .non _ r2 .non _ (x1.trans (x2.trans x3)) rel3 .non h2⟩
    ·exact h2.elim
   ·exact h1.elim
  | _=>exact(show False from h1).elim
def zie:WC:=λds S Q=>match ds with
 | [.tup xs]=>Q (.ref S.length) (S++[.lst xs])
 | [.ref n]=>match lAt S n with
  | some o=>Q (.ref S.length) (S++[.lst (zay o)])
  | none=>False
 | _=>False
theorem znx:zaL X (.type "list") (upC X.K Z zie):=ze7 zru λxs H Qv ⟨r,S,ds,Q,rel,ps,q,ret⟩=>by
 unfold zie at q
 split at q
 ·rename_i ys
  obtain⟨v,vs,rfl,p1,p2⟩:=ps.uncons
  have z:=p2.unnil
  subst z
  obtain⟨a,zs,rfl,h1,h2⟩:=p1.untup
  refine⟨a,zs,rfl,.inr (SqT.of h1),λl hl=>?_⟩
  obtain⟨rel2,x⟩:=rel.push hl h2
  exact ret _ _ _ (.ref S.length) _ x rel2 (zdb rel.len) q
 ·rename_i n
  obtain⟨v,vs,rfl,p1,p2⟩:=ps.uncons
  have z:=p2.unnil
  subst z
  split at q
  ·rename_i o eo
   obtain⟨eo,eL⟩:=zcz eo
   obtain⟨a,ha,ob⟩:=rel.at eo
   cases p1 with
   | ref h1=>
    rw[h1] at ha; cases ha
    obtain⟨ys,sq,pr⟩:=ob.list eL
    refine⟨_,ys,rfl,.inl sq,λl hl=>?_⟩
    obtain⟨rel2,x⟩:=rel.push hl pr
    exact ret _ _ _ (.ref S.length) _ x rel2 (zdb rel.len) q
  ·exact q.elim
 ·exact q.elim
def zb7:List D→Option (List Bool)
 | []=>some []
 | .bl b::r=>(zb7 r).map (b::·)
 | _::_=>none
def zfI (g:List Bool→Bool):WC:=λds S Q=>match ds with
 | [.ref n]=>match lAt S n with
  | some o=>match zb7 (zay o) with
   | some bs=>Q (.bl (g bs)) S
   | none=>False
  | none=>False
 | _=>False
theorem zlm {r:List Addr}{H:Hp}:∀ {ds:List D} {bs:List Bool} {vs:List V} {us:List Value},zb7 ds=some bs→Rps r H ds vs→zah vs us→us=bs.map Value.bool
 | [],bs,vs,us,e,p,q=>by
  have z:=p.unnil
  subst z
  cases q
  simp[zb7] at e
  subst e
  rfl
 | d::ds,bs,vs,us,e,p,q=>by
  obtain⟨v,vs',rfl,p1,p2⟩:=p.uncons
  cases d with
  | bl b=>
   cases p1
   cases q with
   | cons q1 q2=>
    have q1':_=Value.bool b:=q1
    subst q1'
    simp only[zb7,Option.map_eq_some_iff] at e
    obtain⟨ms,e1,rfl⟩:=e
    rw[zlm e1 p2 q2]
    rfl
  | _=>simp[zb7] at e
theorem zpW {bs:List Bool}:(List.range bs.length).all (λi=>bs.getD i false)=bs.all id:=by
 rw[VaI]
 rw[List.all_eq_true,List.all_eq_true]
 refine⟨λh b hb=>?_,λh i hi=>?_⟩
 ·obtain⟨i,hi,e⟩:=List.mem_iff_getElem.mp hb
  have hb':=h i (List.mem_range.mpr hi)
  simpa [hi,e] using hb'
 ·have hi':i<bs.length:=List.mem_range.mp hi
  have:=h bs[i] (VaN hi')
  simpa [hi'] using this
theorem zqf {prog:Program}{w:World}{A:Around}{bs:List Bool}:TruthOf prog w A (λi v=>(bs.map Value.bool).toArray[i]?=some v) λi=>bs.getD i false:=λi v s Q E hP hQ=>by
  have e:(bs.map Value.bool)[i]?=some v:=by simpa using hP
  rw[Vau] at e
  cases q:bs[i]? with
  | none=>
   rw[q] at e
   cases e
  | some b=>
    rw[q] at e
    have z:Value.bool b=v:=by simpa using e
    subst z
    have z2:bs.getD i false=b:=by simp[VaO,q]
    have hQ':Q (bs.getD i false) s:=hQ
    rw[z2] at hQ'
    exact wpAny_truthy_bool hQ'
theorem zpE {n:Nat}{a:Addr}{o:Ob}{bs:List Bool}{pins:List (Addr×Obj)}{σ:St}{H:Hp}{s:Shared}{r:List Addr}{S:Sto}{Q:DK}{Qv:VK}{E:Value→Shared→Prop}{g:List Bool→Bool}(G:List Nat→(Nat→Bool)→Bool)
  (hG:G (List.range bs.length) (λi=>bs.getD i false)=g bs)(hc:X.calm=true)(I:Inv X pins σ H s)(rel:Rel X.K Z r S H)(hn:r[n]?=some a)(eo:lAt S n=some o)(eb:zb7 (zay o)=some bs)(q:Q (.bl (g bs)) S)(ret:Ret X.K Z r H Q Qv):
  wpAny (model X.prog X.w) X.A.in1 (pyIter (.ref a)) (λit s₂=>∃I fp wr n P' St tr,it=.ref I∧Walks X.prog X.w X.A.in1 I fp wr n P' St∧St 0 s₂.heap∧TruthOf X.prog X.w X.A.in1 P' tr∧
   ∀h' tk,(∀b o,b ∉ wr→s₂.heap.get? b=some o→h'.get? b=some o)→EP X pins σ Qv (.bool (G (List.range n) tr)) { s₂ with heap:=h',toks:=tk }) E s:=by
 obtain⟨eo,eL⟩:=zcz eo
 obtain⟨a',ha,ob⟩:=rel.at eo
 rw[hn] at ha; cases ha
 obtain⟨ys,sq,pr⟩:=ob.list eL
 obtain⟨its,ri,pl,hz⟩:=I.list sq
 have eits:=zlm eb pr ri
 subst eits
 refine wpAny_pyIter_list pl.isList ?_
 have hne:a≠s.heap.objs.size:=Val (by
  obtain⟨ob,e,_⟩:=pl.isList
  exact Heap.lt_size e)
 refine⟨s.heap.objs.size,_,_,_,_,_,λi=>bs.getD i false,rfl,Walks.list (show X.A.in1.handled=none from I.ok.hd hc) _ a hne (bs.map Value.bool).toArray,⟨⟨_,Heap.get?_push_size _ rfl,rfl,rfl⟩,pl.isList.at λo e=>Heap.get?_push_of_some _ e⟩,zqf,λh' tk hk=>?_⟩
 have ez:(bs.map Value.bool).toArray.size=bs.length:=by simp
 rw[ez,hG]
 refine⟨.bl (g bs),H,I.kept λb o e=>hk b o (λz=>?_) (Heap.get?_push_of_some _ e),rfl,ret _ _ _ _ _ Ext.refl rel (.bl _) q⟩
 have z':b=s.heap.objs.size:=by simpa using z
 exact absurd (z' ▸ Heap.lt_size e) (VaB _)
theorem znv {id:String}{g:List Bool→Bool}(rule:∀(pins:List (Addr×Obj)) (σ:St) (H:Hp) (s:Shared) (r:List Addr) (S:Sto) (Q:DK) (Qv:VK) (n:Nat) (a:Addr) (o:Ob) (bs:List Bool),Inv X pins σ H s→Rel X.K Z r S H→r[n]?=some a→lAt S n=some o→zb7 (zay o)=some bs→
   Q (.bl (g bs)) S→Ret X.K Z r H Q Qv→wpAny (model X.prog X.w) X.A (call (.builtin id) [.ref a]) (EP X pins σ Qv) X.xe s):zaL X (.builtin id) (upC X.K Z (zfI g)):=by
 intro pins s σ H xs us Qv I rv h
 obtain⟨r,S,ds,Q,rel,ps,q,ret⟩:=h
 unfold zfI at q
 split at q
 ·rename_i n
  obtain⟨v,vs,rfl,p1,p2⟩:=ps.uncons
  have z:=p2.unnil
  subst z
  split at q
  ·rename_i o eo
   split at q
   ·rename_i bs eb
    cases p1 with
    | ref h1=>
     obtain⟨u,rfl,ru⟩:=zbz rv
     cases ru
     exact rule pins σ H s r S Q Qv n _ o bs I rel h1 eo eb q ret
   ·exact q.elim
  ·exact q.elim
 ·exact q.elim
theorem zq7 (hc:X.calm=true):zaL X (.builtin "all") (upC X.K Z (zfI λbs=>bs.all id)):=
 znv λ_ _ _ _ _ _ _ _ _ _ _ _ I rel h1 eo eb q ret=>call_all_walk (zpE (g:=λbs=>bs.all id) (λl f=>l.all f) zpW hc I rel h1 eo eb q ret)
@[irreducible] def irr (w:WC):WC:=w
@[irreducible] def zbE (w:W2):W2:=w
theorem ze4 (w:WC):irr w=w:=by unfold irr; rfl
theorem zco (w:W2):zbE w=w:=by unfold zbE; rfl
theorem zbe {f:Value}{w:WC}(h:zaL X f (upC X.K Z w)):zaL X f (upC X.K Z (irr w)):=by rw[ze4]; exact h
theorem zbT {a b:Expr}{ta tb:TDE}(ha:PD X Z a ta)(hb:PD X Z b tb)(hs:zhF b):PD X Z (.Subscript a b pos) (dOp (zbE wIx) ta tb):=by rw[zco]; exact zaw ha hb hs
theorem zak (S:Sto)(o:Ob):(S++[o])[S.length]?=some o:=by simp
theorem znp {o:Ob}{bs:List Bool}(h:zb7 (zay o)=some bs):zbZ o=some o:=by
 cases o <;> first | rfl | cases h
theorem zpw {g:List Bool→Bool}{n:Nat}{S:Sto}{o:Ob}{bs:List Bool}{Q:DK}(h:S[n]?=some o)(hb:zb7 (zay o)=some bs)(hq:Q (.bl (g bs)) S):irr (zfI g) [.ref n] S Q:=by
 rw[ze4]
 unfold zfI
 simp only[zce h (znp hb),hb]
 exact hq
theorem zmK {n:Nat}{S:Sto}{o:Ob}{Q:DK}(h:lAt S n=some o)(hq:Q (.ref S.length) (S++[.lst (zay o)])):irr zie [.ref n] S Q:=by
 rw[ze4]
 unfold zie
 simp only[h]
 exact hq
theorem zp5 {to te:TDE}{dl:Ev}{S S1:Sto}{Q:DK}{n:Nat}{xs:List D}{y:D}(hto:∀K:DK,K (.ref n) S1→to dl S K)(h:S1[n]?=some (.lst xs))(hte:∀K:DK,K y S1→te dl S1 K)(hl:xs.length<1000)(hq:Q .non (S1.set n (.lst (xs++[y])))):zfD to te dl S Q:=by
 unfold zfD
 refine hto _ ?_
 simp only[h]
 refine hte _ ?_
 simp only[h]
 exact ifP hl hq
end
end L3
namespace L3
open PySem PySem.Spec PyProof.Rows L2 PySem.W Builtin Builtin.ObjectAttr Builtin.Getset_descriptor
theorem znM {K:Frag}{M:Model}{h:Heap}{x D:Addr}{name:Str}{a g:Value}(X:K.In h)(ha:findIn K (.ref D) name=some (some a))(hn:specialIn K a "__get__"=some (some g))(ht:takesIn K a=some true):Looks M h (find (.ref x) (.ref D) name) (.bind g a):=by
 have l1:=looks_findIn (M:=M) X ha
 have l2:Looks M h (getOf (some a)) (some g):=looks_specialIn X hn
 have l3:Looks M h (dataDescriptor? (some a) (some g)) (some (g,a)):=(looks_takesIn X ht).andThen .now
 exact l1.andThen (l2.andThen (l3.andThen (Looks.tag .now)))
theorem zqW {prog:Program}{w:World}{A:Around}{K:Frag}{x D:Addr}{tp:Value}{R:Result→Shared→Prop}{s:Shared}(X:K.In s.heap)(T:Looks (model prog w) s.heap (typeOf (.ref x)) (.ref D))(hm:mroIn K D (.type "object")=some true)
  (q:R (.ok (.ret (.ref D))) s):codeAny (model prog w) A (.call (.builtin "getset_descriptor.__get__") ⟨[.builtin "object.__class__",.ref x,tp],[]⟩) R s:=by
 obtain⟨h0,g0,d0,t0,o0⟩:=s
 have l4:=looks_mroIn (M:=model prog w) X hm
 refine codeAny_call_builtin KF.slot_gs.plain KF.entry_gs (KF.slot_gs.check _ _ _ _ _ _ _ _ KF.type_class (KF.args_gs _ _ _) ?_); unfold Builtin.«getset_descriptor.__get__» descrGet; rw[dga_obj]; refine wpAny_bind (wpAny_pure ?_)
 unfold descrGetter descrCheckInstance descrNameAndClass isInstance; simp only[KF.owner_class]; repeat lk
 refine⟨Code.quiet_builtin _ (by decide +kernel),codeAny_builtin KF.entry_class ?_⟩; unfold Builtin.«object.__class__» shownTypeOf
 repeat lk
 exact q
theorem zqk {prog:Program}{w:World}{A:Around}{E:Value→Shared→Prop}{K:Frag}{x D:Addr}{Q:Option Value→Shared→Prop}{s:Shared}(X:K.In s.heap)(T:Looks (model prog w) s.heap (typeOf (.ref x)) (.ref D))
  (hga:findIn K (.ref D) "__getattribute__"=some (some (.builtin "BaseException.__getattribute__")))(hk:findIn K (.ref D) "__getattr__"=some none)(ha:findIn K (.ref D) "__class__"=some (some (.builtin "object.__class__")))
  (hn:specialIn K (.builtin "object.__class__") "__get__"=some (some (.builtin "getset_descriptor.__get__")))(ht:takesIn K (.builtin "object.__class__")=some true)(hm:mroIn K D (.type "object")=some true)(hb:mroIn K D (.type "BaseException")=some true)
  (q:Q (some (.ref D)) { s with toks:=s.toks+1 }):wpAny (model prog w) A (getAttr? (.ref x) "__class__") Q E s:=by
 obtain⟨h0,g0,d0,t0,o0⟩:=s
 have l1:=looks_findIn (M:=model prog w) X hga
 have l2:=looks_findIn (M:=model prog w) X hk
 have l3:=znM (M:=model prog w) (x:=x) X ha hn ht
 have l5:=looks_mroIn (M:=model prog w) X hb
 have f3:=F.excAttr_ValueError.ga.bind (.ref x)
 unfold getAttr? getAttrBy?
 unfold getAttrBy
 refine wpAny_bind (wpAny_mkText (wpAny_bind (wpAny_attempt (wpAny_holding (wpAny_bind (T.at (wpAny_bind (l1.at ?_))))))))
 dsimp only
 have other:("BaseException.__getattribute__" == "object.__getattribute__")=false:=by decide +kernel
 rw[if_neg (λz=>by
  have y:=(Bool.and_eq_true_iff.mp z).2
  have y2:"BaseException.__getattribute__"="object.__getattribute__":=Value.builtin.inj (beq_iff_eq.mp y)
  rw[y2] at other
  simp at other)]
 unfold getAttrByItsOwn hookBefore
 refine wpAny_bind ?_
 lk
 lk
 refine wpAny_bind (wpAny_attempt ?_); refine wpAny_holding ?_; show wpAny _ _ (boundAndCalled _ _ _) _ _ _
 unfold boundAndCalled
 refine wpAny_bind (wpAny_of_eq f3 ?_)
 refine wpAny_call (codeAny_call_builtin F.excAttr_ValueError.ga.plain F.entry_bexc_ga ?_)
 have k1:builtinKind "BaseException.__getattribute__"=some .slot:=by decide +kernel
 have k2:splitId "BaseException.__getattribute__"=some ("BaseException","__getattribute__"):=by decide +kernel
 have k3:=F.args_bexc_ga (.ref x) (.str "__class__" t0)
 have li:Looks (model prog w) h0 (isInstance (.ref x) (.type "BaseException")) true:=T.andThen l5
 simp only[checkBuiltinCall,k1,k2]
 refine wpAny_bind (li.at ?_)
 rw[if_neg (by decide)]
 have go:wpAny (model prog w) A.in1 («object.__getattribute__» ⟨[.ref x,.str "__class__" t0],[]⟩) (λfin s'=>fin=.done (.ret (.ref D))∧s'=⟨h0,g0,d0,t0+1,o0⟩) (λ_ _=>False) ⟨h0,g0,d0,t0+1,o0⟩:=by
  unfold «object.__getattribute__»
  refine wpAny_bind (wpAny_pure (wpAny_bind (wpAny_pure (wpAny_bind (T.at ?_)))))
  refine wpAny_bind (l3.at ?_)
  show wpAny _ _ (holding [Value.builtin "object.__class__"] (call (.builtin "getset_descriptor.__get__") [.builtin "object.__class__",.ref x,.ref D]) >>= ret) _ _ _
  exact wpAny_bind (wpAny_holding (wpAny_call (zqW (s:=⟨h0,g0,d0,t0+1,o0⟩) X T hm (wpAny_pure ⟨rfl,rfl⟩))))
 have step:∀ {P:Unit→Shared→Prop} {E':Value→Shared→Prop},P () ⟨h0,g0,d0,t0+1,o0⟩→wpAny (model prog w) A.in1 (match Manifest.signature? "BaseException.__getattribute__" with
   | some sig=>Bind.checkArgs "BaseException.__getattribute__" sig ⟨[.ref x]++[.str "__class__" t0],[]⟩
   | _=>pure ()) P E' ⟨h0,g0,d0,t0+1,o0⟩:=λ{P E'} hp=>by
  unfold argsOk at k3
  split
  ·rename_i sig hsig
   simp only[hsig] at k3
   exact wpAny_of_eq k3 hp
  ·exact wpAny_pure hp
 refine step (wpAny_mono go (λfin s' z=>?_) λ_ _ z=>z.elim)
 obtain⟨e1,e2⟩:=z
 subst e1 e2
 exact handed_on rfl (wpAny_pure q)
structure Nx (K:Frag)(D:Addr):Prop where
 ga:findIn K (.ref D) "__getattribute__"=some (some (.builtin "BaseException.__getattribute__"))
 hk:findIn K (.ref D) "__getattr__"=some none
 ha:findIn K (.ref D) "__class__"=some (some (.builtin "object.__class__"))
 hn:specialIn K (.builtin "object.__class__") "__get__"=some (some (.builtin "getset_descriptor.__get__"))
 ht:takesIn K (.builtin "object.__class__")=some true
 hm:mroIn K D (.type "object")=some true
 hb:mroIn K D (.type "BaseException")=some true
theorem zmv {K:Frag}{x D:Addr}(n:Nx K D):KitX K (.ref x) (.ref D) (λh=>∃o,h.get? x=some o∧o.cls=.ref D):=by
 have ty:∀(M:Model) (h:Heap),K.In h→(∃o,h.get? x=some o∧o.cls=.ref D)→Looks M h (typeOf (.ref x)) (.ref D):=λM h _ p=>by
  obtain⟨o,h1,h2⟩:=p
  rw[← h2]
  exact(Looks.ld h1).andThen .now
 have cl:∃oc od cd sl,K.lookup D=some ⟨oc,od,.cls cd,sl⟩:=by
  obtain⟨cd,e,_⟩:=Option.bind_eq_some_iff.mp n.hm
  unfold clsIn at e
  split at e
  ·rename_i oc od cd' sl ho
   exact⟨oc,od,cd',sl,ho⟩
  ·cases e
 obtain⟨oc,od,cd,sl,ho⟩:=cl
 refine⟨ty,λM h X _=>?_,λh tp dd its k sl' X htp=>?_,λ{prog w A E Q s} X p q=>zqk X (ty _ _ X p) n.ga n.hk n.ha n.hn n.ht n.hm n.hb q⟩
 ·intro A' Q' E' s' k z
  unfold isType loadHead
  exact wpAny_bind (wpAny_loadPart (k _ _ (X _ _ ho)) (wpAny_pure z))
 ·refine Bool.eq_false_iff.mpr λz=>?_
  have e:D=tp:=Value.ref.inj (beq_iff_eq.mp z)
  subst e
  have y:=(X _ _ ho).symm.trans htp
  cases y
section
variable {X:Cx}{Z:Zx}
@[irreducible] def zgF (ans:Addr→Option Bool)(te:TDE):TDE:=λdl S Q=>te dl S λd S1=>match d with
 | .exc c=>match ans c with
  | some b=>Q (.bl b) S1
  | none=>False
 | _=>False
def zkN (K:PySem.W.Frag)(vc:V)(cv:Value):List V→Hp→VK→Prop:=λxs H Qv=>∃a c b,xs=[.ref a,vc]∧H a=some (isX a c)∧PySem.W.kitOne K (.ref c) cv=some b∧Nx K c∧Qv (.bl b) H
theorem zp0 {vc:V}{cv:Value}(hv:∀u,zal vc u→u=cv):zaL X (.builtin "isinstance") (zkN X.K vc cv):=by
 intro pins s σ H xs us Q I rv h
 obtain⟨a,c,b,rfl,h1,h2,nx,q⟩:=h
 obtain⟨u,w',rfl,r1,r2⟩:=zi0 rv
 cases r1
 have e:=hv w' r2
 subst e
 have ob:∃o,s.heap.get? a=some o∧o.cls=.ref c:=(I.hok a _ h1).1
 exact kia_one (zmv nx) I.kIn ob h2 (λz=>nomatch z) λtk=>⟨.bl b,H,I.tok tk,rfl,q⟩
theorem zo3 {te:TDE}{ans:Addr→Option Bool}{vc:V}{cv:Value}(hy:∀c b,ans c=some b→PySem.W.kitOne X.K (.ref c) cv=some b∧Nx X.K c){σ:St}{H:Hp}{Qv:VK}(h:up X.K Z (zgF ans te) σ H Qv):
  up X.K Z te σ H λv H1=>zkN X.K vc cv [v,vc] H1 Qv:=by
 obtain⟨r,dl,S,Q,rs,rel,h,ret⟩:=h
 unfold zgF at h
 refine⟨r,dl,S,_,rs,rel,h,λv H1 r1 d S1 e1 rel1 p1 h1=>?_⟩
 cases p1 with
 | @exc c a hx=>
  dsimp only at h1
  split at h1
  ·rename_i b eb
   obtain⟨y1,y2⟩:=hy c b eb
   exact⟨a,c,b,rfl,hx,y1,y2,ret _ _ _ _ _ e1 rel1 (.bl _) h1⟩
  ·exact h1.elim
 | _=>exact(show False from h1).elim
theorem zsl {e:Expr}{te:TDE}{y:Str}{p p2 pos:Pos}{C:Addr}{ans:Addr→Option Bool}(hy:∀c b,ans c=some b→PySem.W.kitOne X.K (.ref c) (.ref C)=some b∧Nx X.K c)(hg:Gl X "isinstance")(hm:X.mg "isinstance"=none)(hg2:Gl X y)(hm2:X.mg y=some (.ref C))(ha:PD X Z e te)
  (hv:bootBuiltins "isinstance"=some (.builtin "isinstance"):=by exact PyProof.Rows.Boot.«isinstance»)
  (hd2:(y==("__debug__":Str))=false:=by decide)(he2:starEach [e,.Name y p2] X.env=(false,eval e X.env)::starEach [.Name y p2] X.env:=by rfl)
  (he3:starEach [.Name y p2] X.env=(false,eval (.Name y p2) X.env)::starEach [] X.env:=by rfl)(hpl:(backTo pos (starEach [.Name y p2] X.env)).any (·.1)=false:=by rfl):
  PD X Z (.Call (.Name "isinstance" p) [e,.Name y p2] [] pos) (zgF ans te):=
 zaD (zjl (zp0 (vc:=.ref C) (cv:=.ref C) λu r=>r) hg hm hv (zda ha (zda (zeT (v:=.ref C) hg2 hm2 rfl hd2) zfx he3) he2) (by decide) (by decide) he2 hpl) λσ H Qv h=>zo3 hy h
end
def eqN:Nat→D→D→Option Bool
 | 0=>eqF
 | k+1=>eqT (eqN k)
theorem zlo:∀k,zev (eqN k)
 | 0=>zfu
 | k+1=>zj0 (zlo k)
theorem zgI:∀k,zdT k (eqN k)
 | 0=>zi4 0
 | k+1=>zkC (zgI k) (zlo k)
def zgH (k:Nat)(S:Sto):D→D→Option Bool
 | .ref n,.ref m=>match lAt S n,lAt S m with
  | some o,some o'=>eqL (eqN k) (zay o) (zay o')
  | _,_=>none
 | x,y=>eqN (k+1) x y
def zee (k:Nat):W2:=λx y S Q=>match zgH k S x y with
 | some b=>Q (.bl (!b)) S
 | none=>False
section
variable {X:Cx}{Z:Zx}
def zbU (f:D→D→Option Bool):List D→D→Option Bool
 | [],_=>some false
 | y::ys,x=>match f y x,zbU f ys x with
  | some b,some c=>some (b||c)
  | _,_=>none
theorem zre {v v':V}{u:Value}(h:zal v u)(h':zal v' u):v=v':=by
 cases v <;> cases v' <;> simp[L2.zal] at h h' <;> first
  | rfl
  | (subst h; simp at h'; subst h'; rfl)
  | (obtain⟨t,rfl⟩:=h; simp at h'; subst h'; rfl)
  | (obtain⟨t,rfl⟩:=h; simp at h')
  | (subst h; simp at h')
  | skip
theorem zgg {r:List Addr}{H:Hp}{d d' x:D}{v:V}{b b':Bool}(p:Rp r H d v)(p':Rp r H d' v)(e:eqF d x=some b)(e':eqF d' x=some b'):b=b':=by
 have z:d=d':=by
  cases p <;> cases p' <;> first
   | rfl
   | (cases x <;> simp[eqF] at e)
   | (cases x <;> simp[eqF] at e')
 subst z
 rw[e] at e'
 exact Option.some.inj e'
theorem zmi {f:D→D→Option Bool}{r:List Addr}{H:Hp}(hf:∀(d d' x:D) (v:V) (b b':Bool),Rp r H d v→Rp r H d' v→f d x=some b→f d' x=some b'→b=b'):
  ∀ {ds ds' zs:List D} {vs:List V} {b b':Bool},Rps r H ds vs→Rps r H ds' vs→eqL f ds zs=some b→eqL f ds' zs=some b'→b=b'
 | [],ds',zs,vs,b,b',p,p',e,e'=>by
  have z:=p.unnil
  subst z
  cases ds' with
  | nil=>rw[e] at e'; exact Option.some.inj e'
  | cons y ys=>exact absurd p'.1 (by simp)
 | d::ds,ds',zs,vs,b,b',p,p',e,e'=>by
  obtain⟨v,vs',rfl,p1,p2⟩:=p.uncons
  cases ds' with
  | nil=>exact absurd p'.1 (by simp)
  | cons d' ds'=>
   obtain⟨q1,q2⟩:=p'.tail
   cases zs with
   | nil=>
    simp only[eqL,Option.some.injEq] at e e'
    exact e.symm.trans e'
   | cons z zs=>
    unfold eqL at e e'
    split at e
    ·rename_i b1 c1 a1 a2
     split at e'
     ·rename_i b2 c2 a3 a4
      have h1:=hf d d' z v b1 b2 p1 q1 a1 a3
      have h2:=zmi hf p2 q2 a2 a4
      subst h1 h2
      simp only[Option.some.injEq] at e e'
      exact e.symm.trans e'
     ·cases e'
    ·cases e
theorem zlQ:∀(k:Nat) {r:List Addr} {H:Hp} (d d' x:D) (v:V) (b b':Bool),Rp r H d v→Rp r H d' v→eqN k d x=some b→eqN k d' x=some b'→b=b'
 | 0,r,H,d,d',x,v,b,b',p,p',e,e'=>zgg p p' e e'
 | k+1,r,H,d,d',x,v,b,b',p,p',e,e'=>by
  cases p with
  | tup h1 l1 f1=>
   cases p' with
   | tup h2 l2 f2=>
    rw[h1] at h2; cases h2
    cases x with
    | tup zs=>exact zmi (λd d' x v b b'=>zlQ k d d' x v b b') ⟨l1,f1⟩ ⟨l2,f2⟩ e e'
    | _=>simp[eqN,eqT,eqF] at e
   | ref h=>cases x <;> simp[eqN,eqT,eqF] at e'
   | exc h=>cases x <;> simp[eqN,eqT,eqF] at e'
  | non=>exact zgg (x:=x) .non p' (by cases x <;> exact e) (by cases p' <;> cases x <;> exact e')
  | bl i=>exact zgg (x:=x) (.bl i) p' (by cases x <;> exact e) (by cases p' <;> cases x <;> exact e')
  | int i=>exact zgg (x:=x) (.int i) p' (by cases x <;> exact e) (by cases p' <;> cases x <;> exact e')
  | str i=>exact zgg (x:=x) (.str i) p' (by cases x <;> exact e) (by cases p' <;> cases x <;> exact e')
  | ref h=>cases x <;> simp[eqN,eqT,eqF] at e
  | exc h=>cases x <;> simp[eqN,eqT,eqF] at e
theorem zk1 {f:D→D→Option Bool}{x:D}:∀ {ys:List D} {b:Bool},zbU f ys x=some b→(∀y∈ys,∃c,f y x=some c)∧(b=true↔∃y∈ys,f y x=some true)
 | [],b,e=>by
  simp only[zbU,Option.some.injEq] at e
  subst e
  simp
 | y::ys,b,e=>by
  unfold zbU at e
  split at e
  ·rename_i b1 c1 e1 e2
   obtain⟨h1,h2⟩:=zk1 e2
   simp only[Option.some.injEq] at e
   subst e
   refine⟨λz hz=>?_,?_⟩
   ·rcases Vad.mp hz with rfl | hz'
    ·exact⟨b1,e1⟩
    ·exact h1 z hz'
   ·rw[Bool.or_eq_true,h2]
    refine⟨λq=>?_,λ⟨z,hz,q⟩=>?_⟩
    ·rcases q with q | ⟨z,hz,q⟩
     ·exact⟨y,Vaz,by rw[e1,q]⟩
     ·exact⟨z,Vat _ hz,q⟩
    ·rcases Vad.mp hz with rfl | hz'
     ·left
      rw[e1] at q
      exact Option.some.inj q
     ·exact .inr ⟨z,hz',q⟩
  ·cases e
theorem zl9 {k:Nat}{pins:List (Addr×Obj)}{σ:St}{H:Hp}{s:Shared}{r:List Addr}{A:Around}{ds:List D}{vs:List V}{us:List Value}{dx:D}{x:V}{u:Value}{b:Bool}(I:Inv X pins σ H s)(hu:A.units+k<cLine)
  (p:Rps r H ds vs)(rv:zah vs us)(px:Rp r H dx x)(rx:zal x u)(e:zbU (eqN k) ds dx=some b):∃g:Value→Bool,(∀y,y∈us.toArray→SeqAt.EqAt A s y u (g y))∧us.toArray.any g=b:=by
 obtain⟨h1,h2⟩:=zk1 e
 have at_:∀y∈us,∃d v,d∈ds∧Rp r H d v∧zal v y:=λy hy=>by
  obtain⟨j,hj,ej⟩:=List.mem_iff_getElem.mp hy
  have hv:j<vs.length:=by rw[rv.length]; exact hj
  have gv:vs[j]?=some vs[j]:=by simp[hv]
  obtain⟨w,gw,rw'⟩:=rv.get gv
  obtain⟨d,gd,pd⟩:=p.get' gv
  have ew:w=y:=by
   rw[Vay hj,ej] at gw
   exact(Option.some.inj gw).symm
  subst ew
  exact⟨d,_,Vax gd,pd,rw'⟩
 classical
 refine⟨λy=>decide (∃d v,d∈ds∧Rp r H d v∧zal v y∧eqN k d dx=some true),λy hy=>?_,?_⟩
 ·obtain⟨d,v,hd,pd,rd⟩:=at_ y (by simpa using hy)
  obtain⟨c,hc⟩:=h1 d hd
  have same:decide (∃d v,d∈ds∧Rp r H d v∧zal v y∧eqN k d dx=some true)=c:=by
   cases c with
   | true=>exact decide_eq_true ⟨d,v,hd,pd,rd,hc⟩
   | false=>
    refine decide_eq_false λ⟨d',v',_,pd',rd',hc'⟩=>?_
    have ev:=zre rd rd'
    subst ev
    exact absurd (zlQ k d d' dx v false true pd pd' hc hc') (by decide)
  show SeqAt.EqAt A s y u (decide _)
  rw[same]
  exact zgI k X pins σ H s r A d dx v x y u c I hu pd px rd rx hc
 ·rw[VaI,h2,List.any_toArray,List.any_eq_true]
  refine⟨λ⟨y,hy,q⟩=>?_,λ⟨d,hd,q⟩=>?_⟩
  ·obtain⟨d,v,hd,_,_,q'⟩:=of_decide_eq_true q
   exact⟨d,hd,q'⟩
  ·obtain⟨j,hj,ej⟩:=List.mem_iff_getElem.mp hd
   have gd:ds[j]?=some d:=by simp[hj,ej]
   obtain⟨v,gv,pv⟩:=p.get gd
   obtain⟨w,gw,rw'⟩:=rv.get gv
   exact⟨w,Vax gw,decide_eq_true ⟨d,v,hd,pv,rw',q⟩⟩
end
section
variable {X:Cx}{Z:Zx}{pos:Pos}
inductive Nms (X:Cx):List Expr→List Nat→Prop
 | nil:Nms X [] []
 | cons {x:Str} {p:Pos} {i:Nat} {es:List Expr} {is:List Nat}:X.N[i]?=some x→Loc X.env.scope x→(X.fn x=true∨X.env.scope.names.lookup x=some .local)→Nms X es is→Nms X (.Name x p::es) (i::is)
def zgc:W2:=λx y S Q=>match x,y with
 | .str i,.str j=>(i.length+j.length≤1000)∧Q (.str (i++j)) S
 | _,_=>False
theorem zgo:OpR X (binaryOp .Add) (upO X.K Z zgc):=zea zo1 λx y H Qv ⟨r,S,dx,dy,Q,rel,px,py,q,ret⟩=>by
 cases px <;> cases py <;> first
  | exact⟨_,_,rfl,rfl,zbF q.1,ret _ _ _ _ _ Ext.refl rel (.str _) q.2⟩
  | exact(show False from q).elim
def wIxS:W2:=λx y S Q=>match x,y with
 | .str z,.int i=>∃c,(0≤i∧i<2^63∧i<z.length)∧z.cps[i.toNat]?=some c∧Q (.str ⟨#[c]⟩) S
 | _,_=>False
theorem zpF {a b:Expr}{ta tb:TDE}(ha:PD X Z a ta)(hb:PD X Z b tb)(hs:zkw b):PD X Z (.Subscript a b pos) (dOp wIxS ta tb):=
 zaD (zqe ha hb hs) λσ H Qv h=>by
  obtain⟨r,dl,S,Q,rs,rel,h,ret⟩:=h
  refine⟨r,dl,S,_,rs,rel,h,λv H1 r1 dx S1 e1 rel1 p1 h1=>⟨r1,dl,S1,_,rs.ext e1,rel1,h1,λv2 H2 r2 dy S2 e2 rel2 p2 h2=>?_⟩⟩
  cases p1 with
  | str z=>
   cases p2 with
   | int i=>
    obtain⟨c,⟨b1,b2,b3⟩,hc,q⟩:=h2
    exact⟨z,i,c,rfl,rfl,b1,b2,b3,hc,ret _ _ _ _ _ (e1.trans e2) rel2 (.str _) q⟩
   | _=>exact(show False from h2).elim
  | _=>exact(show False from h2).elim
end
open PySem L2
theorem zno (S:Sto)(o u:Ob):(S++[o]).set S.length u=S++[u]:=by simp
theorem zl6 {to te:TDE}{dl:Ev}{S T:Sto}{Q:DK}{xs:List D}{y:D}(hto:∀K:DK,K (.ref S.length) (S++[.lst xs])→to dl T K)(hte:∀K:DK,K y (S++[.lst xs])→te dl (S++[.lst xs]) K)(hl:xs.length<1000)(hq:Q .non (S++[.lst (xs++[y])])):zfD to te dl T Q:=
 zp5 hto (zak _ _) hte hl (by rw[zno]; exact hq)
section
variable {X:Cx}{Z:Zx}
end
def zpZ:Sd:=λ_ _ _ _=>False
def Df.never {P:Program}{w:World}{K:PySem.W.Frag}{mg:Str→Option Value}{base:Heap}{x:Str}{st:Stmt}{ps:List Str}(k:Nat)(d:Df K mg x st ps):Fk P w K mg base k x ps zpZ:=
 ⟨d.f,d.fd,⟨λ_ _ _ _ ⟨_,_,_,_,_,_,_,z,_⟩=>z.elim,λ_ _ _ _ _ _ _ _ _ _ _ _ _ ⟨_,_,_,_,_,_,_,z,_⟩=>z.elim⟩,d.m,d.F.kp,d.b⟩
section
variable {X:Cx}{Z:Zx}{pos:Pos}
def zkL:WC:=λds S Q=>match ds with
 | [.str x]=>x.length≤1000∧Q (.int x.length) S
 | _=>False
theorem zpe:zaL X (.builtin "len") (upC X.K Z zkL):=ze7 zmz λxs H Qv ⟨r,S,ds,Q,rel,ps,q,ret⟩=>by
 unfold zkL at q
 split at q
 ·obtain⟨v,vs,rfl,p1,p2⟩:=ps.uncons
  have z:=p2.unnil
  subst z
  cases p1
  exact⟨_,rfl,zbF q.1,ret _ _ _ _ _ Ext.refl rel (.int _) q.2⟩
 ·exact q.elim
def wInS:W2:=λx y S Q=>match x,y with
 | .str i,.str j=>∃c,i=⟨#[c]⟩∧Q (.bl (decide (c∈j.cps.toList))) S
 | _,_=>False
theorem znP:OpR X (compareOp .In) (upO X.K Z wInS):=zea zn6 λx y H Qv ⟨r,S,dx,dy,Q,rel,px,py,q,ret⟩=>by
  cases px <;> cases py <;> first
    | (obtain⟨c,rfl,q⟩:=q
       exact⟨_,_,rfl,rfl,by rw[StrLaws.found_one]; exact ret _ _ _ _ _ Ext.refl rel (.bl _) q⟩)
    | exact(show False from q).elim
theorem zjf {x z:Str}{t:Tok}{p:Pos}(hm:X.mg x=some (.str z t))(hg:Gl X x)(hd:(x==("__debug__":Str))=false:=by decide):PD X Z (.Name x p) (dC (.str z)):=
 zaD (zeT hg hm (v:=.str z) ⟨t,rfl⟩ hd) λσ H Qv ⟨r,dl,S,Q,rs,rel,h,ret⟩=>ret _ H r (.str z) S Ext.refl rel (.str z) h
theorem zf1 {x:Str}{i:Int}{t:Tok}{p:Pos}(hm:X.mg x=some (.int i t))(hg:Gl X x)(hd:(x==("__debug__":Str))=false:=by decide):PD X Z (.Name x p) (dC (.int i)):=
 zaD (zeT hg hm (v:=.int i) ⟨t,rfl⟩ hd) λσ H Qv ⟨r,dl,S,Q,rs,rel,h,ret⟩=>ret _ H r (.int i) S Ext.refl rel (.int i) h
def GT (K:PySem.W.Frag)(mg:Str→Option Value)(x:Str)(ws:List Str):Prop:=
 ∃(a:Addr) (o:Obj) (its:Array Value) (n:Nat),mg x=some (.ref a)∧K.lookup a=some o∧o.cls=.type "tuple"∧o.data=.seq its n∧its.size≤sizeLine∧zah (ws.map V.str) its.toList
theorem zjy (w:Str):∀ws:List Str,inV (.str w) (ws.map V.str)=ws.any (·==w)
 | []=>rfl
 | a::r=>by
  have ih:=zjy w r
  unfold inV at ih ⊢
  rw[Vaf,VaF,VaF,ih]
  rfl
theorem zjs:∀ws:List Str,(ws.map V.str).all zcn=true
 | []=>rfl
 | a::r=>by
  rw[Vaf,List.all_cons,zjs r]
  rfl
def zsp (ws:List Str)(ta:TDE):TDE:=λdl S Q=>ta dl S λd S1=>match d with
 | .str w=>Q (.bl (!ws.any (·==w))) S1
 | _=>False
theorem zsr {a:Expr}{ta:TDE}{x:Str}{ws:List Str}{p:Pos}(hG:GT X.K X.mg x ws)(hg:Gl X x)(ha:PD X Z a ta)(hd:(x==("__debug__":Str))=false:=by decide):PD X Z (.Compare a [.NotIn] [.Name x p] pos) (zsp ws ta):=by
 obtain⟨b,o,its,n,hm,hk,hc,hdt,hz,hv⟩:=hG
 refine zaD (zlv zqB ha (zeT (v:=.ref b) hg hm rfl hd) rfl) λσ H Qv ⟨r,dl,S,Q,rs,rel,h,ret⟩=>⟨r,dl,S,_,rs,rel,h,λv H1 r1 d S1 e1 rel1 p1 q1=>?_⟩
 cases p1 with
 | str w=>
  refine⟨b,ws.map V.str,rfl,.inr (.inr ⟨o,its,n,hk,hc,hdt,hz,hv⟩),rfl,zjs ws,?_⟩
  show Qv (.bl (!inV (.str w) (ws.map V.str))) H1
  rw[zjy]
  exact ret _ H1 r1 (.bl _) S1 e1 rel1 (.bl _) q1
 | _=>exact(show False from q1).elim
def Its (z:Str):It:=⟨λi _=>i<z.cps.size,λi H x H'=>H'=H∧∃c,z.cps[i]?=some c∧x=.str ⟨#[c]⟩,λi _=>i=z.cps.size⟩
theorem zlb {P:Program}{w:World}{K:PySem.W.Frag}{tg:Expr}{nm:String}{z:Str}{t:Tok}(it:Addr)
  (W:∀A':Around,A'.handled=none→Walks P w A' it [it] [it] z.cps.size (SignAt z) (λi h=>h.IsStrIter it nm z t i))
  (slf:∀(A:Around) (i:Nat) (s:Shared) (Q:Value→Shared→Prop) (E:Value→Shared→Prop),s.heap.IsStrIter it nm z t i→Q (.ref it) s→wpAny (model P w) A (pyIter (.ref it)) Q E s)
  (hn:["enumerate","zip","dict_itemiterator","dict_reverseitemiterator","odict_iterator","itertools.zip_longest","itertools.pairwise"].contains nm=false):
  zii P w K tg (Its z) [it] it (λi h=>h.IsStrIter it nm z t i) where
 mem:=by simp
 obj:=λi h st b hb=>by
  have e:b=it:=by simpa using hb
  subst e
  obtain⟨o,e,c,d⟩:=st
  exact⟨o,e,λv y=>by rw[d] at y; cases y⟩
 keep:=λi h h' st k=>by
  obtain⟨o,e,c,d⟩:=st
  exact⟨o,k it (by simp) o e,c,d⟩
 item:=by
  intro X hP hw hK hc i pins s σ H E I hf st hg
  subst hP hw hK
  obtain⟨f0,f1,f2,f3,f4,f5⟩:=hf it (by simp)
  refine(W X.A (I.ok.hd hc)).item i s _ _ hg st λv h' tk hv st' kk=>?_
  obtain⟨c,u,hcp,rfl⟩:=hv
  have I1:Inv X pins σ H { s with heap:=h',toks:=tk }:=I.turned (λb o hb e=>kk b o (by simpa using hb) e) f0 f1 f3 f4 f5
  obtain⟨o,e,c1,d⟩:=id st'
  exact⟨_,rfl,ziA (s:={ s with heap:=h',toks:=tk }) e c1 d hn ⟨.str ⟨#[c]⟩,H,I1,⟨u,rfl⟩,⟨rfl,c,hcp,rfl⟩,st',λb hb=>(hf b hb).1⟩⟩
 done:=by
  intro X hP hw hK hc i pins s σ H E I hf st hg
  subst hP hw hK
  obtain⟨f0,f1,f2,f3,f4,f5⟩:=hf it (by simp)
  have hi:i=z.cps.size:=hg
  subst hi
  exact(W X.A (I.ok.hd hc)).done s _ _ st λh' tk kk=>⟨rfl,I.turned (t':=tk) (λb o hb e=>kk b o (by simpa using hb) e) f0 f1 f3 f4 f5⟩
 self:=λA i s Q E st h=>slf A i s Q E st h
def iStr (tl:TE):TI:=λσ H R=>tl σ H λx H1=>∃z,x=.str z∧R (Its z) H1
theorem zpA {tg l:Expr}{tl:TE}(hl:PE X l tl):PI X tg l (iStr tl):=by
 intro pins s σ H R I h
 refine thn (hl pins s σ H _ I h) λv s1 ⟨x,H1,I1,r1,q1⟩=>?_
 obtain⟨z,e,q⟩:=q1
 subst e
 obtain⟨t,rfl⟩:=r1
 have fp:∀b∈[s1.heap.objs.size],zcs X pins H1 b:=λb hb=>by
  have e:b=s1.heap.objs.size:=by simpa using hb
  subst e
  exact I1.fpOk (Vaa _) (I1.hok.fresh (Vaa _))
 cases ha:z.cps.all (·<128)
 ·exact wpAny_pyIter_wide ha ⟨s1.heap.objs.size,[s1.heap.objs.size],_,_,H1,rfl,I1.kept (t':=s1.toks) λb o e=>Heap.get?_push_of_some _ e,zlb _ (λA' hA=>Walks.strWide hA _ z t) (λA i s Q E st h=>wpAny_pyIter_striter_wide st h) (by decide),⟨_,Heap.get?_push_size _ rfl,rfl,rfl⟩,fp,q⟩
 ·exact wpAny_pyIter_ascii ha ⟨s1.heap.objs.size,[s1.heap.objs.size],_,_,H1,rfl,I1.kept (t':=s1.toks) λb o e=>Heap.get?_push_of_some _ e,zlb _ (λA' hA=>Walks.strAscii hA _ z t) (λA i s Q E st h=>wpAny_pyIter_striter_ascii st h) (by decide),⟨_,Heap.get?_push_size _ rfl,rfl,rfl⟩,fp,q⟩
end
section
variable {X:Cx}{Z:Zx}{elt iter:Expr}{x:Str}{px pos:Pos}{ifs:List Expr}{sc ar:Scope}{N:List Str}{caps:List Nat}
@[irreducible] def zgp (caps:List Nat)(tl:TDE)(tc:TDT)(te:TDE):TDE:=λdl S Q=>tl dl S λd S1=>match d with
 | .str z=>∃W:Nat→Sto→Prop,W 0 (S1++[.lst []])∧∀k S2,W k S2→match z.cps[k]? with
  | some c=>zeU caps tc te S1.length dl (.str ⟨#[c]⟩) S2 λS3=>W (k+1) S3
  | none=>k=z.cps.size∧Q (.ref S1.length) S2
 | _=>False
theorem zoI {tl:TDE}{tc:TDT}{te:TDE}{σ:St}{H:Hp}{Qv:VK}(h:up X.K Z (zgp caps tl tc te) σ H Qv):zfW caps (iStr (up X.K Z tl)) (upT X.K Z0 tc) (up X.K Z0 te) σ H Qv:=by
 obtain⟨r,dl,S,Q,rs,rel,h,ret⟩:=h
 unfold zgp at h
 refine⟨r,dl,S,_,rs,rel,h,λv H1 r1 d S1 x1 rel1 p1 q1=>?_⟩
 cases p1 with
 | str z=>
  obtain⟨W,w0,turn⟩:=q1
  refine⟨z,rfl,λD0 hD=>?_⟩
  obtain⟨rel2,x2⟩:=rel1.b.push (ds:=[]) (xs:=[]) hD Rps.nil
  refine⟨λk m H'=>m=z.cps.size-k∧∃r' S',Ext (r1++[D0]) r' (upd H1 D0 (.lst [])) H'∧zaJ X.K r' S' H'∧W k S',⟨z.cps.size,by simp,_,_,Ext.refl,rel2,w0⟩,?_⟩
  rintro k m H2 ⟨em,r2,S2,x3,rb2,w2⟩
  have ha2:r2[S1.length]?=some D0:=x3.adr _ _ (zei rel1.len)
  have q:=turn k S2 w2
  split at q
  ·rename_i c hc
   have hk:k<z.cps.size:=by
    by_cases y:k<z.cps.size
    ·exact y
    ·rw[Array.getElem?_eq_none (by omega)] at hc; cases hc
   refine .inr ⟨hk,λv' H' y'=>?_⟩
   obtain⟨eH,c',hc',y'⟩:=y'
   subst eH
   subst y'
   have ec:c'=c:=by rw[hc] at hc'; exact(Option.some.inj hc').symm
   subst ec
   have z:=zjP (Nx:=λH'=>∃m',m'<m∧m'=z.cps.size-(k+1)∧∃r' S',Ext (r1++[D0]) r' (upd H1 D0 (.lst [])) H'∧zaJ X.K r' S' H'∧W (k+1) S') (rs.ext (x1.trans (x2.trans x3))) ha2 rb2 (.str ⟨#[c']⟩) q
    λr' S' H' x' rb' w'=>⟨z.cps.size-(k+1),by omega,rfl,r',S',x3.trans x',rb',w'⟩
   exact z
  ·obtain⟨hk,q⟩:=q
   exact .inl ⟨hk,ret _ H2 r2 _ S2 (x1.trans (x2.trans x3)) ⟨rb2,rel.xw.ext (x1.trans (x2.trans x3))⟩ (.ref ha2) q⟩
 | _=>exact(show False from q1).elim
theorem zmy {tl:TDE}{tc:TDT}{te:TDE}(har:X.env.scope=ar)(hc:X.calm=true)(cs:zdt sc ar x N)(hN:caps.map (λi=>X.N[i]?)=N.map some)(hnd:(x::N).Nodup)(hl:PD X Z iter tl)
  (ht:∀cl C s0 H0 fp pn,zgz (Cx.comp X sc (x::N) cl C s0 H0 fp pn) ifs tc)(he:∀cl C s0 H0 fp pn,PD (Cx.comp X sc (x::N) cl C s0 H0 fp pn) Z0 elt te)
  (hs:∀y,foldedSetIterable iter X.env y=pure y:=by intro _; rfl):PD X Z (.ListComp elt [⟨.Name x px,iter,ifs,0⟩] sc pos) (zgp caps tl tc te):=by
 subst har
 exact zaD (zlq hc cs hN hnd (tc:=upT X.K Z0 tc) (te:=up X.K Z0 te) (zpA hl) ht he hs) λ_ _ _ h=>zoI h
theorem zpO {tl te:TDE}{dl:Ev}{S S1:Sto}{Q:DK}{z:Str}(g:Nat→D)(htl:∀K:DK,K (.str z) S1→tl dl S K)(hl:z.cps.size≤1000)
  (ht:∀c∈z.cps.toList,∀(S2:Sto) (K:DK),Pre S1 S2→K (g c) S2→te (some (.str ⟨#[c]⟩)::zcD caps dl) S2 K)(hq:Q (.ref S1.length) (S1++[.lst (z.cps.toList.map g)])):zgp caps tl zfJ te dl S Q:=by
 unfold zgp
 refine htl _ ⟨λk S2=>S2=S1++[.lst ((z.cps.toList.take k).map g)]∧k≤z.cps.size,⟨by simp,by omega⟩,?_⟩
 rintro k S2 ⟨rfl,hk⟩
 split
 ·rename_i c hc
  have hk':k<z.cps.size:=by
   by_cases y:k<z.cps.size
   ·exact y
   ·rw[Array.getElem?_eq_none (by omega)] at hc; cases hc
  have hl':z.cps.toList[k]?=some c:=by simpa using hc
  unfold zeU zfJ
  simp only[if_true]
  refine ht c (Vax hl') _ _ Pre.refl.push ?_
  rw[zak]
  refine⟨by simp; omega,?_,by omega⟩
  have e:z.cps.toList.take (k+1)=z.cps.toList.take k++[c]:=by rw[List.take_succ,hl']; rfl
  rw[e,Vaq,List.set_append_right _ _ (Vaa _)]
  simp
 ·rename_i hc
  have hk':k=z.cps.size:=by
   by_cases y:k<z.cps.size
   ·rw[Array.getElem?_eq_getElem y] at hc; cases hc
   ·omega
  refine⟨hk',?_⟩
  rw[hk',List.take_of_length_le (by simp)]
  exact hq
theorem zrp {ta:TDA}{te:TDE}{dl:Ev}{S S1:Sto}{Q:DK}{j:Int}(g:Nat→D)(hta:∀K:List D→Sto→Prop,K [.int j] S1→ta dl S K)(hj:0≤j∧j≤1000)
  (ht:∀k:Nat,k<j.toNat→∀(S2:Sto) (K:DK),Pre S1 S2→K (g k) S2→te (some (.int k)::zcD caps dl) S2 K)(hq:Q (.ref S1.length) (S1++[.lst ((List.range j.toNat).map g)])):zdI caps ta zfJ te dl S Q:=by
 unfold zdI
 refine hta _ ⟨⟨by omega,by omega⟩,λk S2=>S2=S1++[.lst ((List.range k).map g)]∧k≤j.toNat,⟨by simp,by omega⟩,?_⟩
 rintro k S2 ⟨rfl,hk⟩
 split
 ·rename_i hk'
  unfold zeU zfJ
  simp only[if_true]
  refine ht k hk' _ _ Pre.refl.push ?_
  rw[zak]
  refine⟨by simp; omega,?_,by omega⟩
  rw[List.range_succ,Vaq,List.set_append_right _ _ (Vaa _)]
  simp
 ·have e:k=j.toNat:=by omega
  subst e
  exact hq
end
section
variable {X:Cx}{Z:Zx}{pos:Pos}
def zbJ:List D→Option (List Str)
 | []=>some []
 | .str x::r=>(zbJ r).map (x::·)
 | _=>none
theorem zjp {r:List Addr}{H:Hp}:∀ {ds:List D} {vs:List V} {us:List Value} {zs:List Str},zbJ ds=some zs→Rps r H ds vs→zah vs us→StrsAre us zs
 | [],vs,us,zs,e,p,q=>by
  have z:=p.unnil
  subst z
  cases q
  simp only[zbJ,Option.some.injEq] at e
  subst e
  exact .nil
 | d::ds,vs,us,zs,e,p,q=>by
  obtain⟨v,vs',rfl,p1,p2⟩:=p.uncons
  cases p1 with
  | str x=>
   cases q with
   | cons q1 q2=>
    obtain⟨t,rfl⟩:=q1
    simp only[zbJ,Option.map_eq_some_iff] at e
    obtain⟨ms,e1,rfl⟩:=e
    exact .cons x t (zjp e1 p2 q2)
  | _=>simp[zbJ] at e
def zav (zs:List Str):Str:=⟨(zs.flatMap λz=>z.cps.toList).toArray⟩
theorem zml (sep:Str)(h:sep.length=0):∀zs:List Str,Txt.join sep zs=zav zs:=by
 have e:sep.cps=#[]:=by
  unfold Str.length at h
  exact Array.eq_empty_of_size_eq_zero h
 have key:∀(zs:List Str) (a:Array Nat),zs.foldl (λacc p=>acc++sep.cps++p.cps) a=a++(zs.flatMap λz=>z.cps.toList).toArray:=by
  intro zs
  induction zs with
  | nil=>intro a; simp
  | cons z zs ih=>
   intro a
   rw[List.foldl_cons,ih,e,List.flatMap_cons]
   exact Array.ext' (by simp)
 intro zs
 show Builtin.Str.glued sep zs=zav zs
 unfold Builtin.Str.glued zav
 cases zs with
 | nil=>rfl
 | cons z zs=>
  rw[List.drop_one,List.tail_cons,List.headD_cons,key,List.flatMap_cons]
  simp
@[irreducible] def zhk (to:TDE)(t:TDA):TDE:=λdl S Q=>to dl S λd S1=>match d with
 | .str sep=>t dl S1 λds S2=>match ds with
  | [.ref n]=>match lAt S2 n with
   | some o=>∃zs,zbJ (zay o)=some zs∧sep.length=0∧(∀z∈zs,z.length≤8)∧zs.length≤1000∧Q (.str (zav zs)) S2
   | none=>False
  | _=>False
 | _=>False
theorem zn9:MtR X "str.join" (λx xs H Q=>∃sep p ys zs,x=.str sep∧xs=[.ref p]∧SqL X.K H p ys∧(∀us,zah ys us→StrsAre us zs)∧sep.length=0∧(∀z∈zs,z.length≤8)∧zs.length≤1000∧Q (.str (zav zs)) H):=by
 intro pins s σ H x xs v us Q I rx rv h
 obtain⟨sep,p,ys,zs,rfl,rfl,sq,st,h0,hB,hn,q⟩:=h
 obtain⟨t,rfl⟩:=rx
 obtain⟨u,rfl,ru⟩:=zbz rv
 cases ru
 obtain⟨its,r,pl,_⟩:=I.list sq
 have hc:=(st its r).carried
 refine join_madeW (l:=zs) (g:=id) 8 pl.isList (by simpa using hc) (λa ha=>hB a ha) (by omega) (by omega) λt' k=>?_
 rw[List.map_id,zml sep h0]
 exact⟨.str (zav zs),H,I.kept (t':=k) λb o e=>e,⟨t',rfl⟩,q⟩
theorem znj {o e:Expr}{to:TDE}{t:TDA}{apos cpos:Pos}(ho:PD X Z o to)(ha:PDA X Z [e] t)(hbase:attributeBase o "join" X.env (eval o X.env)=eval o X.env:=by rfl)
  (hfew:((backTo cpos (starEach [e] X.env)).all (λx=>!x.1)&&(backToKw cpos (keywordEach [] X.env)).all (λx=>x.1.isSome)
  &&decide ([e].length+([]:List Keyword).length+(if ([]:List Keyword).isEmpty then 0 else 1)<30))=true:=by rfl)
  (hline:(apos.endLine==cpos.line)=true:=by rfl)(hs:starEach [e] X.env=(false,eval e X.env)::starEach [] X.env:=by rfl)(hplain:(backTo cpos (starEach [] X.env)).any (·.1)=false:=by rfl):
  PD X Z (.Call (.Attribute o "join" apos) [e] [] cpos) (zhk to t):=
 zaD (zeP (T:="str") PySem.F.plainAttrs_str PySem.F.slot_str_join PySem.F.type_str_join zn9 ho ha hbase hfew hline hs hplain) λσ H Qv ⟨r,dl,S,Q,rs,rel,h,ret⟩=>by
  unfold zhk at h
  refine⟨r,dl,S,_,rs,rel,h,λv H1 r1 d S1 e1 rel1 p1 q1=>?_⟩
  cases p1 with
  | str sep=>
   refine⟨rfl,r1,dl,S1,_,rs.ext e1,rel1,q1,λvs H2 r2 ds S2 e2 rel2 p2 q2=>?_⟩
   split at q2
   ·rename_i n
    obtain⟨v2,vs',rfl,p3,p4⟩:=p2.uncons
    have z:=p4.unnil
    subst z
    split at q2
    ·rename_i o eo
     obtain⟨zs,z1,z2,z3,z4,q⟩:=q2
     cases p3 with
     | @ref n a hn=>
      obtain⟨eo,eL⟩:=zcz eo
      obtain⟨a',ha',ob⟩:=rel2.at eo
      rw[hn] at ha'; cases ha'
      obtain⟨ys,sq,pr⟩:=ob.list eL
      exact⟨sep,a,ys,zs,rfl,rfl,sq,λus ru=>zjp z1 pr ru,z2,z3,z4,ret _ H2 r2 _ S2 (e1.trans e2) rel2 (.str _) q⟩
    ·exact q2.elim
   ·exact q2.elim
  | _=>exact(show False from q1).elim
abbrev TDO:=Ev→Sto→(Option Int→Sto→Prop)→Prop
def upP (K:PySem.W.Frag)(Z:Zx)(t:TDO):TO:=λσ H Q=>∃(r:List Addr) (dl:Ev) (S:Sto) (Q':Option Int→Sto→Prop),Rs r H dl σ∧Rel K Z r S H∧t dl S Q'∧∀o H' r' S',Ext r r' H H'→Rel K Z r' S' H'→Q' o S'→Q o H'
def PDO (X:Cx)(Z:Zx)(e:Option Expr)(t:TDO):Prop:=PO X e (upP X.K Z t)
def zk4:TDO:=λ_ S Q=>Q none S
def zjL (t:TDE):TDO:=λdl S Q=>t dl S λd S1=>match d with
 | .int i=>Q (some i) S1
 | _=>False
theorem zlH {e:Option Expr}{t t':TO}(h:PO X e t)(g:∀σ H Q,t' σ H Q→t σ H Q):PO X e t':=λpins s σ H Q I q=>h pins s σ H Q I (g σ H Q q)
theorem zcv:PDO X Z none zk4:=zlH zrY λσ H Q ⟨r,dl,S,Q',rs,rel,h,ret⟩=>ret none H r S Ext.refl rel h
theorem zbP {e:Expr}{t:TDE}(he:PD X Z e t):PDO X Z (some e) (zjL t):=zlH (zo8 he) λσ H Q ⟨r,dl,S,Q',rs,rel,h,ret⟩=>⟨r,dl,S,_,rs,rel,h,λv H1 r1 d S1 e1 rel1 p1 q1=>by
 cases p1 with
 | int i=>exact⟨i,rfl,ret (some i) H1 r1 S1 e1 rel1 q1⟩
 | _=>exact(show False from q1).elim⟩
def dSlS (te:TDE)(tl th:TDO):TDE:=λdl S Q=>te dl S λd S1=>tl dl S1 λl S2=>th dl S2 λu S3=>match d with
 | .str z=>z.length≤1000∧Q (.str (StrLaws.sliceText z l u)) S3
 | _=>False
theorem zqm:SlR X (λx lo hi H Q=>∃z,x=.str z∧z.length≤1000∧Q (.str (StrLaws.sliceText z lo hi)) H):=by
 intro pins s σ H x v vl vu lo hi sl Q I rx hs pl pu h
 obtain⟨z,rfl,hz,q⟩:=h
 obtain⟨t,rfl⟩:=rx
 refine⟨"str",_,PySem.F.slot_str_getitem.lookup,typeIs_str s z t,?_⟩
 have part:∀ {v:Value} {o:Option Int},IsPart v o→∃p:Option (Int×Tok),v=partValue p∧p.map (·.1)=o:=λ{v o} p=>by
  cases p with
  | none=>exact⟨none,rfl,rfl⟩
  | int i t=>exact⟨some (i,t),rfl,rfl⟩
 obtain⟨l,rfl,el⟩:=part pl
 obtain⟨u,rfl,eu⟩:=part pu
 refine wpAny_getItem_str_slice (l:=l) (u:=u) (st:=none) hs rfl ?_
 have e:(sliceMade z t l u none).post (EP X pins σ Q) s:=by
  unfold StrLaws.sliceText at q
  unfold sliceMade slicePicked
  rw[el,eu]
  split
  ·rename_i c
   rw[if_pos (show ((1:Int)==1&&(Builtin.Str.strSliceIndices lo hi 1 z.length).length==z.length)=true from c)] at q
   exact⟨.str z,H,I,⟨t,rfl⟩,q⟩
  ·rename_i c
   rw[if_neg (show ¬ ((1:Int)==1&&(Builtin.Str.strSliceIndices lo hi 1 z.length).length==z.length)=true from c)] at q
   refine⟨?_,.str _,H,I.tok _,⟨_,rfl⟩,q⟩
   have h1:=indices_len_le lo hi z.length
   have h2:=List.length_filterMap_le (λx=>z.cps[x]?) (Builtin.Str.strSliceIndices lo hi 1 z.length)
   have h3:z.length≤sizeLine:=zbF hz
   show (List.filterMap (λx=>z.cps[x]?) (Builtin.Str.strSliceIndices lo hi 1 z.length)).toArray.size≤sizeLine
   rw[Vai]
   exact Vao h2 (Vao h1 h3)
 exact e
theorem zrL {e:Expr}{te:TDE}{lo hi:Option Expr}{tl th:TDO}{p2:Pos}(he:PD X Z e te)(hl:PDO X Z lo tl)(hu:PDO X Z hi th):PD X Z (.Subscript e (.Slice lo hi none p2) pos) (dSlS te tl th):=
 zaD (zjQ zqm he hl hu) λσ H Qv ⟨r,dl,S,Q,rs,rel,h,ret⟩=>⟨r,dl,S,_,rs,rel,h,λv H1 r1 d S1 e1 rel1 p1 q1=>⟨r1,dl,S1,_,rs.ext e1,rel1,q1,λl H2 r2 S2 e2 rel2 q2=>⟨r2,dl,S2,_,rs.ext (e1.trans e2),rel2,q2,λu H3 r3 S3 e3 rel3 q3=>by
  cases p1 with
  | str z=>exact⟨z,rfl,q3.1,ret _ H3 r3 _ S3 (e1.trans (e2.trans e3)) rel3 (.str _) q3.2⟩
  | _=>exact(show False from q3).elim⟩⟩⟩
end
section
variable {X:Cx}{Z:Zx}
end
section
variable {X:Cx}{Z:Zx}
end
theorem ifB {c:Bool}{A B:Prop}(h1:c=true→A)(h2:c=false→B):if c=true then A else B:=by
 cases c with
 | true=>exact zbu (h1 rfl)
 | false=>exact zbM (h2 rfl)
theorem zl4 {α:Type}(f:α→Bool):∀l:List α,zb7 (l.map λc=>D.bl (f c))=some (l.map f)
 | []=>rfl
 | a::r=>by
  rw[Vaf,Vaf,zb7,zl4 f r]
  rfl
theorem zkh {α:Type}(f:α→Str):∀l:List α,zbJ (l.map λc=>D.str (f c))=some (l.map f)
 | []=>rfl
 | a::r=>by
  rw[Vaf,Vaf,zbJ,zkh f r]
  rfl
theorem zrO {α:Type}(f:α→Nat)(l:List α):zav (l.map λk=>⟨#[f k]⟩)=⟨(l.map f).toArray⟩:=by
 unfold zav
 have e:(l.map λk=>(⟨#[f k]⟩:Str)).flatMap (λz=>z.cps.toList)=l.map f:=by
  induction l with
  | nil=>rfl
  | cons a r ih=>rw[Vaf,List.flatMap_cons,ih]; rfl
 rw[e]
theorem ziM (w:Str):∀ws:List Str,zbU (eqN 0) (ws.map D.str) (.str w)=some (ws.any (·==w))
 | []=>rfl
 | a::r=>by
  have e:eqN 0 (.str a) (.str w)=some (a==w):=by
   show some (decide (a=w))=_
   exact congrArg some (by rw[VaI,decide_eq_true_iff,beq_iff_eq])
  rw[Vaf,zbU,e,ziM w r]
  rfl
theorem zst {o:Ob}{xs:List Str}(h:zbJ (zay o)=some xs):zbZ o=some o:=by
 cases o <;> first | rfl | cases h
theorem znT {to:TDE}{t:TDA}{dl:Ev}{S S1:Sto}{Q:DK}{n:Nat}{o:Ob}{zs:List Str}{sep:Str}(hto:∀K:DK,K (.str sep) S→to dl S K)(ht:∀K:List D→Sto→Prop,K [.ref n] S1→t dl S K)(h0:sep.length=0)(ho:S1[n]?=some o)(hz:zbJ (zay o)=some zs)
  (h8:∀z∈zs,z.length≤8)(hl:zs.length≤1000)(hq:Q (.str (zav zs)) S1):zhk to t dl S Q:=by
 unfold zhk
 refine hto _ (ht _ ?_)
 simp only[zce ho (zst hz)]
 exact⟨zs,hz,h0,h8,hl,hq⟩
theorem zbi {n:Nat}{S:Sto}{o:Ob}{Q:DK}{i:Int}{d:D}(ho:S[n]?=some o)(hd:atI (zay o) i=some d)(hq:Q d S)(hL:zbZ o=some o:=by rfl):zbE wIx (.ref n) (.int i) S Q:=by
 rw[zco]
 unfold wIx
 simp only[zce ho hL,hd]
 exact hq
def zbS (f:Str)(v:D):List (Str×D)→List (Str×D)
 | []=>[(f,v)]
 | p::r=>if p.1=f then (f,v)::r else p::zbS f v r
theorem FR.lookup {r:List Addr}{H:Hp}{f:Str}:∀ {fs:List (Str×D)} {fs':List (Str×V)},FR r H fs fs'→(∀d,fs.lookup f=some d→∃v,fs'.lookup f=some v∧Rp r H d v)∧(fs.lookup f=none→fs'.lookup f=none)
 | [],fs',h=>by
  have e:fs'=[]:=by
   have:=h.1
   simpa using this.symm
  subst e
  exact⟨λd z=>by simp at z,λ_=>rfl⟩
 | p::fs,[],h=>by
  have:=h.1
  simp at this
 | p::fs,q::fs',h=>by
  obtain⟨h1,h2⟩:=h
  simp only[Vaf,List.cons.injEq] at h1
  obtain⟨p1,p2⟩:=h2.tail
  obtain⟨i1,i2⟩:=FR.lookup (f:=f) (fs:=fs) (fs':=fs') ⟨h1.2,p2⟩
  obtain⟨pk,pv⟩:=p
  obtain⟨qk,qv⟩:=q
  have ek:pk=qk:=h1.1
  subst ek
  by_cases z:f=pk
  ·subst z
   simp only[List.lookup_cons_self]
   exact⟨λd hd=>⟨qv,rfl,by cases hd; exact p1⟩,λhd=>by cases hd⟩
  ·have zb:(f==pk)=false:=by simpa using z
   simp only[Vaj,zb]
   exact⟨i1,i2⟩
theorem FR.put {r:List Addr}{H:Hp}{f:Str}{d:D}{v:V}(q:Rp r H d v):∀ {fs:List (Str×D)} {fs':List (Str×V)},FR r H fs fs'→FR r H (zbS f d fs) (zbb f v fs')
 | [],fs',h=>by
  have e:fs'=[]:=by
   have:=h.1
   simpa using this.symm
  subst e
  exact⟨rfl,Rps.cons q Rps.nil⟩
 | p::fs,[],h=>by
  have:=h.1
  simp at this
 | p::fs,p'::fs',h=>by
  obtain⟨h1,h2⟩:=h
  simp only[Vaf,List.cons.injEq] at h1
  obtain⟨p1,p2⟩:=h2.tail
  have ih:=FR.put (f:=f) q (fs:=fs) (fs':=fs') ⟨h1.2,p2⟩
  obtain⟨pk,pv⟩:=p
  obtain⟨qk,qv⟩:=p'
  have ek:pk=qk:=h1.1
  subst ek
  unfold zbS zbb
  by_cases z:pk=f
  ·rw[if_pos z,if_pos z]
   exact⟨by simp[h1.2,z],Rps.cons q p2⟩
  ·rw[if_neg z,if_neg z]
   exact⟨by simp[ih.1],Rps.cons p1 ih.2⟩
section
variable {X:Cx}{Z:Zx}{pos:Pos}
def zb5 (C:Addr)(S:Sto):D→Option (Nat×List (Str×D))
 | .ref n=>match S[n]? with
  | some (.ins C' fs)=>if C'=C then some (n,fs) else none
  | _=>none
 | _=>none
theorem zgD {C:Addr}{S:Sto}{d:D}{n:Nat}{fs:List (Str×D)}(h:zb5 C S d=some (n,fs)):d=.ref n∧S[n]?=some (.ins C fs):=by
 unfold zb5 at h
 split at h
 ·split at h
  ·rename_i m _ C' fs' e
   split at h
   ·rename_i ec
    subst ec
    simp only[Option.some.injEq,Prod.mk.injEq] at h
    obtain⟨rfl,rfl⟩:=h
    exact⟨rfl,e⟩
   ·cases h
  ·cases h
 ·cases h
@[irreducible] def zgU (C:Addr)(f:Str)(to:TDE):TDE:=λdl S Q=>to dl S λd S1=>match zb5 C S1 d with
 | some (_,fs)=>match fs.lookup f with
  | some v=>Q v S1
  | none=>False
 | none=>False
theorem zd8 {C:Addr}{f:Str}{o:Expr}{to:TDE}(c:Cls X.K C)(n:zbA X.K C f)(ho:PD X Z o to)(hb:attributeBase o f X.env (eval o X.env)=eval o X.env:=by rfl):PD X Z (.Attribute o f pos) (zgU C f to):=
 zaD (zsh ho hb) λσ H Qv ⟨r,dl,S,Q,rs,rel,h,ret⟩=>by unfold zgU at h; exact⟨r,dl,S,_,rs,rel,h,λv H1 r1 d S1 e1 rel1 p1 q1=>by
  split at q1
  ·rename_i m fs ei
   obtain⟨rfl,eS⟩:=zgD ei
   split at q1
   ·rename_i w ew
    obtain⟨a,ha,ob⟩:=rel1.at eS
    obtain⟨dx,fs',eH,fr⟩:=ob
    cases p1 with
    | ref hr=>
     rw[hr] at ha; cases ha
     obtain⟨u,hu,pu⟩:=fr.lookup.1 w ew
     exact⟨a,C,dx,fs',u,rfl,eH,c,n,hu,ret u H1 r1 w S1 e1 rel1 pu q1⟩
   ·exact q1.elim
  ·exact q1.elim⟩
@[irreducible] def zhp (C:Addr)(f:Str)(to te:TDE):TDS:=λE dl S=>te dl S λv S1=>to dl S1 λd S2=>match zb5 C S2 d with
 | some (n,fs)=>fs.length<1000∧E.nx dl (S2.set n (.ins C (zbS f v fs)))
 | none=>False
theorem zix {C:Addr}{f:Str}{o e:Expr}{to te:TDE}{p2:Pos}(c:Cls X.K C)(n:zbA X.K C f)(ho:PD X Z o to)(he:PD X Z e te)
  (hs:swapsWith e (some (.Attribute o f p2)) pos.line X.env=pure false:=by rfl):PDS X Z (.Assign [.Attribute o f p2] e pos) (zhp C f to te):=
 zcE (zpJ ho he hs) λF σ H ⟨r,dl,S,E,rs,rel,h,ret⟩=>by unfold zhp at h; exact⟨r,dl,S,_,rs,rel,h,λv H1 r1 dv S1 e1 rel1 p1 q1=>⟨r1,dl,S1,_,rs.ext e1,rel1,q1,λw H2 r2 d S2 e2 rel2 p2' q2=>by
  split at q2
  ·rename_i m fs ei
   obtain⟨rfl,eS⟩:=zgD ei
   obtain⟨hl,q2⟩:=q2
   obtain⟨a,ha,ob⟩:=rel2.at eS
   obtain⟨dx,fs',eH,fr⟩:=id ob
   cases p2' with
   | ref hr=>
    rw[hr] at ha; cases ha
    have hlen:fs'.length=fs.length:=by
     have:=congrArg List.length fr.1
     simpa using this.symm
    obtain⟨rb,x⟩:=rel2.b.setO (o':=.ins C (zbS f dv fs)) (u:=.ins C dx (zbb f v fs')) hr eS rfl rfl λx=>⟨dx,_,zbV,(fr.put (p1.ext e2)).ext x⟩
    exact⟨a,C,dx,fs',rfl,eH,c,n,by omega,ret.nx _ _ r2 _ _ (e1.trans (e2.trans x)) (rs.ext (e1.trans (e2.trans x))) ⟨rb,rel2.xw.ext x⟩ q2⟩
  ·exact q2.elim⟩⟩
@[irreducible] def zeZ (C:Addr)(m:Str)(ex:Ev→Addr→Sto→Prop)(sd:Sd)(to:TDE)(t:TDA):TDE:=λdl S Q=>to dl S λd S1=>match zb5 C S1 d with
 | some (_,fs)=>fs.lookup m=none∧t dl S1 λds S2=>sd (d::ds) S2 Q (ex dl)
 | none=>False
theorem zns {C:Addr}{m:Str}{f:Addr}{fd:FuncData}{k:Nat}{ps:List Str}{sp:Sp}{W:St→XK}{o e:Expr}{es:List Expr}{ta:TE}{t:TA}{apos:Pos}{pl:Sem Bool}(he:PE X o ta)(c:Cls X.K C)(hm:zeq X.K C m f)
  (F:zaO X.prog X.w X.K X.mg X.base (CXE X.prog X.w) k f fd ps sp)(hr:zax k X.A)(hb:zbk X.K fd ps [])(hx:zb1 X W)(ha:PA X (e::es) t)(hst:starEach (e::es) X.env=(false,eval e X.env)::starEach es X.env)(hpl:(backTo pos (starEach es X.env)).any (·.1)=false)
  (ht:eval (.Call (.Attribute o m apos) (e::es) [] pos) X.env=(do
   let ov ← eval o X.env
   standAt apos.atName
   let (f,first) ← holding [ov] (getMethod ov m pl)
   callWith pos f first (backTo pos (starEach (e::es) X.env)) (backToKw pos (keywordEach [] X.env)))):
  PE X (.Call (.Attribute o m apos) (e::es) [] pos) (λσ H Q=>ta σ H λx H1=>∃a dx fs,x=.ref a∧H1 a=some (.ins C dx fs)∧fs.lookup m=none∧t σ H1 λvs H2=>sp (x::vs) H2 Q (W σ)):=by
 intro pins s σ H Q I h
 refine PySem.W.methodCall_KW (pl:=pl) (thn (he pins s σ H _ I h) λu s1 ⟨x,H1,I1,rx,a,dx,fs,ex,ea,l,q⟩=>?_) ht
 subst ex
 obtain rfl:u=Value.ref a:=rx
 refine zkY I1 ea c hm l ?_
 exact PySem.W.callWith_K (first:=[.ref a]) (h₀:=X.base) I.ok.mod.kin hm.kp (thn (ha pos pins s1 σ H1 _ I1 q) λus s2 ⟨vs,H2,I2,r,q2⟩=>⟨I2.kIn,zjz (us:=.ref a::us) (vs:=.ref a::vs) F hr hb hx I2 (.cons rfl r) q2⟩) hst hpl
theorem zoP {C:Addr}{m:Str}{f:Addr}{fd:FuncData}{k:Nat}{ps:List Str}{sp:Sp}{W:St→XK}{o:Expr}{ta:TE}{apos:Pos}{pl:Sem Bool}(he:PE X o ta)(c:Cls X.K C)(hm:zeq X.K C m f)
  (F:zaO X.prog X.w X.K X.mg X.base (CXE X.prog X.w) k f fd ps sp)(hr:zax k X.A)(hb:zbk X.K fd ps [])(hx:zb1 X W)
  (ht:eval (.Call (.Attribute o m apos) [] [] pos) X.env=(do
   let ov ← eval o X.env
   standAt apos.atName
   let (f,first) ← holding [ov] (getMethod ov m pl)
   callWith pos f first (backTo pos (starEach [] X.env)) (backToKw pos (keywordEach [] X.env)))):
  PE X (.Call (.Attribute o m apos) [] [] pos) (λσ H Q=>ta σ H λx H1=>∃a dx fs,x=.ref a∧H1 a=some (.ins C dx fs)∧fs.lookup m=none∧sp [x] H1 Q (W σ)):=by
 intro pins s σ H Q I h
 refine PySem.W.methodCall_KW (pl:=pl) (thn (he pins s σ H _ I h) λu s1 ⟨x,H1,I1,rx,a,dx,fs,ex,ea,l,q⟩=>?_) ht
 subst ex
 obtain rfl:u=Value.ref a:=rx
 refine zkY I1 ea c hm l ?_
 exact PySem.W.callWith_K0 (first:=[.ref a]) I1.kIn hm.kp (zjz (us:=[.ref a]) (vs:=[.ref a]) F hr hb hx I1 (.cons rfl .nil) q)
theorem zkE {C:Addr}{r:List Addr}{S:Sto}{H:Hp}{d:D}{v:V}{n:Nat}{fs:List (Str×D)}(rel:zaJ X.K r S H)(p:Rp r H d v)(h:zb5 C S d=some (n,fs)):∃a dx fs',v=.ref a∧r[n]?=some a∧H a=some (.ins C dx fs')∧FR r H fs fs':=by
 obtain⟨rfl,eS⟩:=zgD h
 obtain⟨a,ha,dx,fs',eH,fr⟩:=rel.at eS
 cases p with
 | ref hr=>
  rw[hr] at ha; cases ha
  exact⟨a,dx,fs',rfl,hr,eH,fr⟩
theorem zh2 {C:Addr}{m:Str}{f:Addr}{fd:FuncData}{k:Nat}{ps:List Str}{sd:Sd}{o e:Expr}{es:List Expr}{to:TDE}{t:TDA}{apos:Pos}{pl:Sem Bool}{ex:Ev→Addr→Sto→Prop}{W:St→XK}(ho:PD X ⟨ex,W⟩ o to)(c:Cls X.K C)(hm:zeq X.K C m f)
  (F:zaO X.prog X.w X.K X.mg X.base (CXE X.prog X.w) k f fd ps (upF X.K sd))(hr:zax k X.A)(hb:zbk X.K fd ps [])(hx:zb1 X W)(ha:PDA X ⟨ex,W⟩ (e::es) t)
  (hst:starEach (e::es) X.env=(false,eval e X.env)::starEach es X.env:=by rfl)(hpl:(backTo pos (starEach es X.env)).any (·.1)=false:=by rfl)
  (ht:eval (.Call (.Attribute o m apos) (e::es) [] pos) X.env=(do
   let ov ← eval o X.env
   standAt apos.atName
   let (f,first) ← holding [ov] (getMethod ov m pl)
   callWith pos f first (backTo pos (starEach (e::es) X.env)) (backToKw pos (keywordEach [] X.env))):=by rfl):PD X ⟨ex,W⟩ (.Call (.Attribute o m apos) (e::es) [] pos) (zeZ C m ex sd to t):=
 zaD (zns ho c hm F hr hb hx ha hst hpl ht) λσ H Qv ⟨r,dl,S,Q,rs,rel,h,ret⟩=>by unfold zeZ at h; exact⟨r,dl,S,_,rs,rel,h,λv H1 r1 d S1 e1 rel1 p1 q1=>by
  split at q1
  ·rename_i n fs ei
   obtain⟨hl,q1⟩:=q1
   obtain⟨a,dx,fs',rfl,hr1,eH,fr⟩:=zkE rel1.b p1 ei
   exact⟨a,dx,fs',rfl,eH,fr.lookup.2 hl,r1,dl,S1,_,rs.ext e1,rel1,q1,λvs H2 r2 ds S2 e2 rel2 p2 q2=>ziH (Z:=⟨ex,W⟩) (rs.ext (e1.trans e2)) rel2 (Rps.cons (p1.ext e2) p2) q2 (ret.ext (e1.trans e2))⟩
  ·exact q1.elim⟩
theorem zbp {C:Addr}{m:Str}{f:Addr}{fd:FuncData}{k:Nat}{ps:List Str}{sd:Sd}{o:Expr}{to:TDE}{apos:Pos}{pl:Sem Bool}{ex:Ev→Addr→Sto→Prop}{W:St→XK}(ho:PD X ⟨ex,W⟩ o to)(c:Cls X.K C)(hm:zeq X.K C m f)
  (F:zaO X.prog X.w X.K X.mg X.base (CXE X.prog X.w) k f fd ps (upF X.K sd))(hr:zax k X.A)(hb:zbk X.K fd ps [])(hx:zb1 X W)
  (ht:eval (.Call (.Attribute o m apos) [] [] pos) X.env=(do
   let ov ← eval o X.env
   standAt apos.atName
   let (f,first) ← holding [ov] (getMethod ov m pl)
   callWith pos f first (backTo pos (starEach [] X.env)) (backToKw pos (keywordEach [] X.env))):=by rfl):PD X ⟨ex,W⟩ (.Call (.Attribute o m apos) [] [] pos) (zeZ C m ex sd to zcl):=
 zaD (zoP ho c hm F hr hb hx ht) λσ H Qv ⟨r,dl,S,Q,rs,rel,h,ret⟩=>by unfold zeZ at h; exact⟨r,dl,S,_,rs,rel,h,λv H1 r1 d S1 e1 rel1 p1 q1=>by
  split at q1
  ·rename_i n fs ei
   obtain⟨hl,q1⟩:=q1
   obtain⟨a,dx,fs',rfl,hr1,eH,fr⟩:=zkE rel1.b p1 ei
   exact⟨a,dx,fs',rfl,eH,fr.lookup.2 hl,ziH (Z:=⟨ex,W⟩) (rs.ext e1) rel1 (Rps.cons p1 Rps.nil) q1 (ret.ext e1)⟩
  ·exact q1.elim⟩
def dMake (C:Addr)(ex:Addr→Sto→Prop)(sd:Sd)(t:TDA):TDE:=λdl S Q=>t dl S λds S1=>sd (.ref S1.length::ds) (S1++[.ins C []]) (λd S2=>d=.non∧Q (.ref S1.length) S2) ex
theorem zo0 {C x dx:Addr}{r:List Addr}{S:Sto}{H:Hp}(rel:Rel X.K Z r S H)(h1:H x=none)(h2:H dx=none)(h3:dx≠x):
  Rel X.K Z (r++[x]) (S++[.ins C []]) (upd (upd H dx (.own x)) x (.ins C dx []))∧Ext r (r++[x]) H (upd (upd H dx (.own x)) x (.ins C dx [])):=by
 obtain⟨rb,e⟩:=rel.b.pushO (o:=.ins C []) (H':=upd (upd H dx (.own x)) x (.ins C dx [])) h1 (λb u q=>by rw[zaG (zbO q h1),zaG (zbO q h2)]; exact q) λ_=>⟨dx,[],zbV,FR.nil⟩
 exact⟨⟨rb,rel.xw.ext e⟩,e⟩
theorem zn1 {C x:Addr}{r r':List Addr}{n:Nat}{H H':Hp}{Z:Zx}{K:PySem.W.Frag}{Q:DK}{Qv:VK}(ret:Ret K Z r H Q Qv)(e:Ext r r' H H')(hx:r'[n]?=some x):
  Ret K Z r' H' (λd S2=>d=.non∧Q (.ref n) S2) (λv H2=>v=.non∧Qv (.ref x) H2):=λv H2 r2 d S2 e2 rel2 p2 q2=>by
 obtain⟨rfl,q2⟩:=q2
 cases p2
 exact⟨rfl,ret _ H2 r2 (.ref n) S2 (e.trans e2) rel2 (.ref (e2.adr _ _ hx)) q2⟩
theorem zpc {C f:Addr}{fd:FuncData}{k:Nat}{ps:List Str}{sd:Sd}{ex:Addr→Sto→Prop}{W:XK}{x:Str}{p:Pos}{e:Expr}{es:List Expr}{t:TDA}(M:Mk X.K C f)
  (F:zaO X.prog X.w X.K X.mg X.base (CXE X.prog X.w) k f fd ps (upF X.K sd))(hr:zax (k+1) X.A)(hg:Gl X x)(hm:X.mg x=some (.ref C))(hb:zbk X.K fd ps [])(hx:zhT (CXE X.prog X.w) X W)(ha:PDA X (Zc ex W) (e::es) t)
  (hdb:(x==("__debug__":Str))=false:=by decide)(he:starEach (e::es) X.env=(false,eval e X.env)::starEach es X.env:=by rfl)(hpl:(backTo pos (starEach es X.env)).any (·.1)=false:=by rfl):
  PD X (Zc ex W) (.Call (.Name x p) (e::es) [] pos) (dMake C ex sd t):=
 zaD (zrg M F hr hg hm hb .nil hx ha hdb he hpl) λσ H Qv ⟨r,dl,S,Q,rs,rel,h,ret⟩=>⟨r,dl,S,_,rs,rel,h,λvs H1 r1 ds S1 e1 rel1 p1 q1=>λx dx n1 n2 n3=>by
  obtain⟨rel2,e2⟩:=zo0 (C:=C) rel1 n1 n2 n3
  show upF X.K sd (.ref x::(vs++[])) _ _ W
  rw[Var]
  exact⟨ex,_,_,.ref S1.length::ds,_,rel2,Rps.cons (zdb rel1.len) (p1.ext e2),q1,zn1 (C:=C) ret (e1.trans e2) (zei rel1.len)⟩⟩
end
section
variable {κ:Type} [DecidableEq κ]
def zd2 (kvs:List (κ×D))(k:κ):Option D:=(kvs.find? λkv=>decide (kv.1=k)).map (·.2)
def zlD (kvs:List (κ×D))(k:κ)(v:D):List (κ×D):=
 if (kvs.any λkv=>decide (kv.1=k))=true then kvs.map (λkv=>if kv.1=k then (kv.1,v) else kv) else kvs++[(k,v)]
theorem FR.split {r:List Addr}{H:Hp}{p:κ×D}{fs:List (κ×D)}{gs:List (κ×V)}(h:FR r H (p::fs) gs):∃q gs',gs=q::gs'∧p.1=q.1∧Rp r H p.2 q.2∧FR r H fs gs':=by
 cases gs with
 | nil=>
  have:=h.1
  simp at this
 | cons q gs'=>
  obtain⟨h1,h2⟩:=h
  simp only[Vaf,List.cons.injEq] at h1
  obtain⟨p1,p2⟩:=h2.tail
  exact⟨q,gs',rfl,h1.1,p1,h1.2,p2⟩
theorem FR.unnil {r:List Addr}{H:Hp}{gs:List (κ×V)}(h:FR r H ([]:List (κ×D)) gs):gs=[]:=by
 have:=h.1
 simpa using this.symm
theorem FR.cons {r:List Addr}{H:Hp}{k:κ}{d:D}{v:V}{fs:List (κ×D)}{gs:List (κ×V)}(p:Rp r H d v)(h:FR r H fs gs):FR r H ((k,d)::fs) ((k,v)::gs):=⟨by simp[h.1],Rps.cons p h.2⟩
theorem FR.val {r:List Addr}{H:Hp}{k:κ}:∀ {fs:List (κ×D)} {gs:List (κ×V)},FR r H fs gs→(∀d,zd2 fs k=some d→∃v,zbN gs k=some v∧Rp r H d v)∧(zd2 fs k=none→zbN gs k=none)
 | [],gs,h=>by
  have z:=h.unnil
  subst z
  exact⟨(λd e=>by cases e),λ_=>rfl⟩
 | p::fs,gs,h=>by
  obtain⟨q,gs',rfl,e,pr,t⟩:=h.split
  obtain⟨i1,i2⟩:=FR.val (k:=k) t
  by_cases z:p.1=k
  ·have z':q.1=k:=e.symm.trans z
   rw[zho z']
   have zd:zd2 (p::fs) k=some p.2:=by simp[zd2,VaM,z]
   rw[zd]
   exact⟨λd hd=>⟨q.2,rfl,by cases hd; exact pr⟩,λhd=>by cases hd⟩
  ·have z':¬ q.1=k:=λy=>z (e.trans y)
   rw[zhd z']
   have zd:zd2 (p::fs) k=zd2 fs k:=by simp[zd2,VaM,z]
   rw[zd]
   exact⟨i1,i2⟩
theorem FR.putK {r:List Addr}{H:Hp}{k:κ}{d:D}{v:V}{fs:List (κ×D)}{gs:List (κ×V)}(p:Rp r H d v)(h:FR r H fs gs):FR r H (zlD fs k d) (putK gs k v):=by
 have any:∀ {fs:List (κ×D)} {gs:List (κ×V)},FR r H fs gs→(fs.any λkv=>decide (kv.1=k))=(gs.any λkv=>decide (kv.1=k)):=by
  intro fs
  induction fs with
  | nil=>intro gs h; have z:=h.unnil; subst z; rfl
  | cons q fs ih=>
   intro gs h
   obtain⟨q',gs',rfl,e,_,t⟩:=h.split
   rw[VaF,VaF,ih t,e]
 have mp:∀ {fs:List (κ×D)} {gs:List (κ×V)},FR r H fs gs→FR r H (fs.map λkv=>if kv.1=k then (kv.1,d) else kv) (gs.map λkv=>if kv.1=k then (kv.1,v) else kv):=by
  intro fs
  induction fs with
  | nil=>intro gs h; have z:=h.unnil; subst z; exact FR.nil
  | cons q fs ih=>
   intro gs h
   obtain⟨q',gs',rfl,e,pr,t⟩:=h.split
   rw[Vaf,Vaf]
   obtain⟨qk,qd⟩:=q
   obtain⟨qk',qv⟩:=q'
   have e':qk=qk':=e
   subst e'
   by_cases z:qk=k
   ·rw[if_pos z,if_pos z]; exact FR.cons p (ih t)
   ·rw[if_neg z,if_neg z]; exact FR.cons pr (ih t)
 have ap:∀ {fs:List (κ×D)} {gs:List (κ×V)},FR r H fs gs→FR r H (fs++[(k,d)]) (gs++[(k,v)]):=by
  intro fs
  induction fs with
  | nil=>intro gs h; have z:=h.unnil; subst z; exact FR.cons p FR.nil
  | cons q fs ih=>
   intro gs h
   obtain⟨q',gs',rfl,e,pr,t⟩:=h.split
   obtain⟨qk,qd⟩:=q
   obtain⟨qk',qv⟩:=q'
   have e':qk=qk':=e
   subst e'
   exact FR.cons pr (ih t)
 unfold zlD L2.putK
 rw[any h]
 split
 ·exact mp h
 ·exact ap h
end
section
variable {X:Cx}{Z:Zx}{pos:Pos}
end
section
variable {X:Cx}{Z:Zx}{pos:Pos}
def zaX (xs:List D)(lo hi:Option Int):List D:=(xs.drop (HT.sIx xs.length 0 lo)).take (HT.sIx xs.length xs.length hi-HT.sIx xs.length 0 lo)
theorem Rps.drop {r:List Addr}{H:Hp}{ds:List D}{vs:List V}(h:Rps r H ds vs)(k:Nat):Rps r H (ds.drop k) (vs.drop k):=
 ⟨by simp[h.1],λi d v h1 h2=>h.2 (k+i) d v (by simpa using h1) (by simpa using h2)⟩
theorem Rps.take {r:List Addr}{H:Hp}{ds:List D}{vs:List V}(h:Rps r H ds vs)(k:Nat):Rps r H (ds.take k) (vs.take k):=by
 refine⟨by simp[h.1],λi d v h1 h2=>?_⟩
 rw[List.getElem?_take] at h1 h2
 split at h1
 ·rw[if_pos (by assumption)] at h2
  exact h.2 i d v h1 h2
 ·cases h1
theorem Rps.cut {r:List Addr}{H:Hp}{ds:List D}{vs:List V}(h:Rps r H ds vs)(lo hi:Option Int):Rps r H (zaX ds lo hi) (zft vs lo hi):=by
 unfold zaX zft
 rw[h.1]
 exact(h.drop _).take _
@[irreducible] def zig (te:TDE)(tl th:TDO):TDE:=λdl S Q=>te dl S λd S1=>tl dl S1 λl S2=>th dl S2 λu S3=>match d with
 | .ref n=>match lAt S3 n with
  | some o=>Q (.ref S3.length) (S3++[.lst (zaX (zay o) l u)])
  | none=>False
 | _=>False
theorem zcj {e:Expr}{te:TDE}{lo hi:Option Expr}{tl th:TDO}{p2:Pos}(he:PD X Z e te)(hl:PDO X Z lo tl)(hu:PDO X Z hi th):PD X Z (.Subscript e (.Slice lo hi none p2) pos) (zig te tl th):=
 zaD (zjQ znC he hl hu) λσ H Qv ⟨r,dl,S,Q,rs,rel,h,ret⟩=>by
  unfold zig at h
  refine⟨r,dl,S,_,rs,rel,h,λv H1 r1 d S1 e1 rel1 p1 q1=>⟨r1,dl,S1,_,rs.ext e1,rel1,q1,λl H2 r2 S2 e2 rel2 q2=>⟨r2,dl,S2,_,rs.ext (e1.trans e2),rel2,q2,λu H3 r3 S3 e3 rel3 q3=>?_⟩⟩⟩
  cases p1 with
  | @ref n a hn=>
   dsimp only at q3
   split at q3
   ·rename_i o eo
    obtain⟨eo,eL⟩:=zcz eo
    obtain⟨a',ha,ob⟩:=rel3.at eo
    rw[e3.adr _ _ (e2.adr _ _ hn)] at ha; cases ha
    obtain⟨xs,sq,pr⟩:=ob.list eL
    refine⟨a,xs,rfl,sq,λp hp=>?_⟩
    obtain⟨rel4,x⟩:=rel3.push hp (pr.cut l u)
    exact ret _ _ _ (.ref S3.length) _ (e1.trans (e2.trans (e3.trans x))) rel4 (zdb rel3.len) q3
   ·exact q3.elim
  | _=>exact(show False from q3).elim
theorem zch {te:TDE}{tl th:TDO}{dl:Ev}{S S3:Sto}{Q:DK}{n:Nat}{o:Ob}{lo hi:Option Int}(h:∀K:DK,K (.ref n) S3→te dl S K)(hl:∀K:Option Int→Sto→Prop,K lo S3→tl dl S3 K)(hh:∀K:Option Int→Sto→Prop,K hi S3→th dl S3 K)(ho:S3[n]?=some o)
  (hq:Q (.ref S3.length) (S3++[.lst (zaX (zay o) lo hi)]))(hL:zbZ o=some o:=by rfl):zig te tl th dl S Q:=by
 unfold zig
 refine h _ (hl _ (hh _ ?_))
 simp only[zce ho hL]
 exact hq
end
section
variable {X:Cx}{Z:Zx}{pos:Pos}
theorem Rps.put {r:List Addr}{H:Hp}{ds:List D}{vs:List V}{d:D}{v:V}(h:Rps r H ds vs)(p:Rp r H d v)(j:Nat):Rps r H (ds.set j d) (vs.set j v):=by
 refine⟨by simp[h.1],λi x y h1 h2=>?_⟩
 by_cases z:j=i
 ·subst z
  have hl:j<ds.length:=by
   have:=(Vac.mp h1).1
   simpa using this
  rw[VaD hl] at h1
  rw[VaD (by rw[← h.1]; exact hl)] at h2
  cases h1
  cases h2
  exact p
 ·rw[VaA z] at h1 h2
  exact h.2 i x y h1 h2
end
section
variable {X:Cx}{pins:List (Addr×Obj)}{σ:St}{H:Hp}{s:Shared}{h':Heap}
end
section
variable {X:Cx}
end
section
variable {X:Cx}
end
section
variable {X:Cx}{Z:Zx}{pos:Pos}
end
section
variable {X:Cx}{Z:Zx}{pos:Pos}
def zhf (k:Nat)(neg:Bool):W2:=λx y S Q=>match y with
 | .tup ys=>match zbU (eqN k) ys x with
  | some b=>Q (.bl (if neg then !b else b)) S
  | none=>False
 | _=>False
theorem zqu {k j:Nat}(hr:zax j X.A)(hk:k≤3):OpR X (compareOp .In) (upO X.K Z (zhf k false)):=by
 intro pins s σ H x y v u Qv I rx ry h
 obtain⟨r,S,dx,dy,Q,rel,px,py,q,ret⟩:=h
 have hun:=hr.un
 cases py with
 | @tup ds xs a e1 l1 f1=>
  have q':(match zbU (eqN k) ds dx with | some b=>Q (.bl b) S | none=>False):=q
  split at q'
  ·rename_i b eb
   cases ry
   obtain⟨is,ri,ti,_⟩:=zdJ I e1
   obtain⟨g,g1,g2⟩:=zl9 (A:=X.A.in1) I (by show X.A.units+1+k<_; omega) ⟨l1,f1⟩ ri px rx eb
   refine SeqAt.in_tupleAt g ti g1 ?_
   rw[g2]
   exact⟨.bl b,H,I,rfl,ret _ _ _ _ _ Ext.refl rel (.bl b) q'⟩
  ·exact q'.elim
 | _=>exact(show False from q).elim
theorem zoq {k j:Nat}(hr:zax j X.A)(hk:k≤3):OpR X (compareOp .NotIn) (upO X.K Z (zhf k true)):=by
 intro pins s σ H x y v u Qv I rx ry h
 obtain⟨r,S,dx,dy,Q,rel,px,py,q,ret⟩:=h
 have hun:=hr.un
 cases py with
 | @tup ds xs a e1 l1 f1=>
  have q':(match zbU (eqN k) ds dx with | some b=>Q (.bl (!b)) S | none=>False):=q
  split at q'
  ·rename_i b eb
   cases ry
   obtain⟨is,ri,ti,_⟩:=zdJ I e1
   obtain⟨g,g1,g2⟩:=zl9 (A:=X.A.in1) I (by show X.A.units+1+k<_; omega) ⟨l1,f1⟩ ri px rx eb
   refine SeqAt.notIn_tupleAt g ti g1 ?_
   rw[g2]
   exact⟨.bl (!b),H,I,rfl,ret _ _ _ _ _ Ext.refl rel (.bl (!b)) q'⟩
  ·exact q'.elim
 | _=>exact(show False from q).elim
end
structure Dm (K:PySem.W.Frag)(C:Addr)(m qual:Str)(st:Stmt)(ps:List Str) where
 f:Addr
 fd:FuncData
 F:Fun K m qual st f fd
 m:zeq K C m f
 b:zbk K fd ps []
structure Fm (P:Program)(w:World)(K:PySem.W.Frag)(mg:Str→Option Value)(base:Heap)(k:Nat)(C:Addr)(x:Str)(ps:List Str)(sd:Sd) where
 f:Addr
 fd:FuncData
 ok:zaO P w K mg base (CXE P w) k f fd ps (upF K sd)
 m:zeq K C x f
 b:zbk K fd ps []
def Dm.mk' {P:Program}{w:World}{K:PySem.W.Frag}{mg:Str→Option Value}{base:Heap}{k:Nat}{C:Addr}{x qual:Str}{st:Stmt}{ps:List Str}{sd:Sd}(d:Dm K C x qual st ps)(h:zaO P w K mg base (CXE P w) k d.f d.fd ps (upF K sd)):Fm P w K mg base k C x ps sd:=
 ⟨d.f,d.fd,h,d.m,d.b⟩
def zgf (c:Addr)(b:Bool)(d:Addr):Option Bool:=if d=c then some b else none
theorem znd {K:PySem.W.Frag}{c C:Addr}{y:Bool}(h:PySem.W.kitOne K (.ref c) (.ref C)=some y)(n:Nx K c):∀d b,zgf c y d=some b→PySem.W.kitOne K (.ref d) (.ref C)=some b∧Nx K d:=λd b e=>by
 unfold zgf at e
 split at e
 ·rename_i z
  subst z
  cases e
  exact⟨h,n⟩
 ·cases e
section
variable {X:Cx}{Z:Zx}
end
section
variable {X:Cx}{Z:Zx}{pos:Pos}
theorem zqz {k n m:Nat}{a a':Addr}{o o':Ob}{b:Bool}{pins:List (Addr×Obj)}{σ:St}{H:Hp}{s:Shared}{r:List Addr}{S:Sto}(I:Inv X pins σ H s)(rel:Rel X.K Z r S H)(hn:r[n]?=some a)(hm:r[m]?=some a')(eo:lAt S n=some o)(eo':lAt S m=some o')
  (e:eqL (eqN k) (zay o) (zay o')=some b)(hu:X.A.units+1+k<cLine):SeqAt.RcNeAt X.A s (.ref a) (.ref a') (!b):=by
 obtain⟨eo,eL⟩:=zcz eo
 obtain⟨eo',eL'⟩:=zcz eo'
 obtain⟨z,hz,ob⟩:=rel.at eo
 rw[hn] at hz; cases hz
 obtain⟨z,hz,ob'⟩:=rel.at eo'
 rw[hm] at hz; cases hz
 obtain⟨xs,sq,pr⟩:=ob.list eL
 obtain⟨ys,sq',pr'⟩:=ob'.list eL'
 obtain⟨is,ri,pl,_⟩:=I.list sq
 obtain⟨js,rj,pl',_⟩:=I.list sq'
 obtain⟨g1,g2⟩:=zg1 (A:=X.A.in1) (zgI k) I (by show X.A.units+1+k<_; omega) pr pr' ri rj e
 by_cases hs:is.toArray.size=js.toArray.size
 ·have q:=SeqAt.RcNeAt.lists (A:=X.A) pl.isList pl'.isList hs (by omega) g1
  have e2:(List.range is.toArray.size).all (zcb (eqN k) (zay o) (zay o'))=b:=by
   rw[← g2,← hs,Nat.min_self]; simp
  rw[e2] at q
  exact q
 ·have q:=SeqAt.RcNeAt.lists_lengths (A:=X.A) pl.isList pl'.isList (by simpa using hs) (by omega)
  have e2:b=false:=by
   rw[← g2,show (is.toArray.size==js.toArray.size)=false by simpa using hs,Bool.and_false]
  rw[e2]
  exact q
theorem zqD (k:Nat){j:Nat}(hr:zax j X.A)(hu:X.A.units+1+k<cLine):OpR X (compareOp .NotEq) (upO X.K Z (zee k)):=by
 intro pins s σ H x y v u Qv I rx ry h
 obtain⟨r,S,dx,dy,Q,rel,px,py,q,ret⟩:=h
 have zav:∀ {dx dy:D} {x y:V},Rp r H dx x→Rp r H dy y→zal x v→zal y u→zgH k S dx dy=eqN (k+1) dx dy→zee k dx dy S Q→wpAny (model X.prog X.w) X.A (compareOp .NotEq v u) (EP X pins σ Qv) X.xe s:=λpx py rx ry e q=>by
  refine zkO (Z:=Z) (zgI k) hu pins s σ H _ _ v u Qv I rx ry ⟨r,S,_,_,Q,rel,px,py,?_,ret⟩
  unfold zee at q
  rw[e] at q
  exact q
 cases px with
 | @ref n a hn=>
  cases py with
  | @ref m a' hm=>
   cases rx
   cases ry
   unfold zee zgH at q
   dsimp only at q
   split at q
   ·rename_i b e
    split at e
    ·rename_i o o' eo eo'
     exact zqz I rel hn hm eo eo' e hu X.prog X.w X.xe _ ⟨.bl (!b),H,I,rfl,ret _ _ _ _ _ Ext.refl rel (.bl (!b)) q⟩
    ·cases e
   ·exact q.elim
  | non=>exact zav (.ref hn) .non rx ry rfl q
  | bl i=>exact zav (.ref hn) (.bl i) rx ry rfl q
  | int i=>exact zav (.ref hn) (.int i) rx ry rfl q
  | str i=>exact zav (.ref hn) (.str i) rx ry rfl q
  | tup a b c=>exact zav (.ref hn) (.tup a b c) rx ry rfl q
  | exc a=>exact zav (.ref hn) (.exc a) rx ry rfl q
 | non=>exact zav .non py rx ry rfl q
 | bl i=>exact zav (.bl i) py rx ry rfl q
 | int i=>exact zav (.int i) py rx ry rfl q
 | str i=>exact zav (.str i) py rx ry rfl q
 | tup a b c=>exact zav (.tup a b c) py rx ry rfl q
 | exc a=>exact zav (.exc a) py rx ry rfl q
theorem zqL {k:Nat}(hr:zax k X.A):OpR X (compareOp .NotEq) (upO X.K Z (zbE (zee 1))):=by rw[zco]; exact zqD 1 hr (by have:=hr.un; omega)
def zfP:W2:=λx y S Q=>match x,y with
 | .ref n,.ref m=>match S[n]?,S[m]? with
  | some (.lst xs),some (.lst ys)=>xs.length+ys.length≤1000∧Q (.ref S.length) (S++[.lst (xs++ys)])
  | _,_=>False
 | _,_=>False
theorem Rps.app {r:List Addr}{H:Hp}:∀ {ds es:List D} {xs ys:List V},Rps r H ds xs→Rps r H es ys→Rps r H (ds++es) (xs++ys)
 | [],es,xs,ys,p,q=>by
  have z:=p.unnil
  subst z
  exact q
 | d::ds,es,xs,ys,p,q=>by
  obtain⟨v,vs,rfl,p1,p2⟩:=p.uncons
  exact Rps.cons p1 (p2.app q)
theorem zbl:OpR X (binaryOp .Add) (upO X.K Z (zbE zfP)):=by
 rw[zco]
 exact zea znZ λx y H Qv ⟨r,S,dx,dy,Q,rel,px,py,q,ret⟩=>by
  unfold zfP at q
  split at q
  ·rename_i n m
   split at q
   ·rename_i xs ys e1 e2
    obtain⟨hl,q⟩:=q
    cases px with
    | @ref _ a hn=>
     cases py with
     | @ref _ a' hm=>
      obtain⟨z,hz,ob⟩:=rel.at e1
      rw[hn] at hz; cases hz
      obtain⟨z,hz,ob'⟩:=rel.at e2
      rw[hm] at hz; cases hz
      obtain⟨us,h1,p1⟩:=ob
      obtain⟨vs,h2,p2⟩:=ob'
      refine⟨a,a',us,vs,rfl,rfl,h1,h2,?_,λp hp=>?_⟩
      ·rw[← p1.1,← p2.1]; exact zbF hl
      ·obtain⟨rel4,x⟩:=rel.push hp (p1.app p2)
       exact ret _ _ _ (.ref S.length) _ x rel4 (zdb rel.len) q
   ·exact q.elim
  ·exact q.elim
theorem za8 {n m:Nat}{S:Sto}{Q:DK}{xs ys:List D}(h1:S[n]?=some (.lst xs))(h2:S[m]?=some (.lst ys))(hl:xs.length+ys.length≤1000)(hq:Q (.ref S.length) (S++[.lst (xs++ys)])):zbE zfP (.ref n) (.ref m) S Q:=by
 rw[zco]
 unfold zfP
 simp only[h1,h2]
 exact⟨hl,hq⟩
structure Kx (K:PySem.W.Frag)(C:Addr):Prop where
 cl:Cls K C
 ha:PySem.W.findIn K (.ref C) "__class__"=some (some (.builtin "object.__class__"))
 hn:PySem.W.specialIn K (.builtin "object.__class__") "__get__"=some (some (.builtin "getset_descriptor.__get__"))
 ht:PySem.W.takesIn K (.builtin "object.__class__")=some true
 hm:PySem.W.mroIn K C (.type "object")=some true
def KT (K:PySem.W.Frag)(cv:Value)(ans:List (Addr×Bool)):Prop:=∀C b,(C,b)∈ans→PySem.W.kitOne K (.ref C) cv=some b∧Kx K C
end
section
variable {X:Cx}{Z:Zx}
def zfO:WC:=λds S Q=>match ds with
 | [.int i]=>i.natAbs.log2<1920∧Q (.str (Str.ofString (toString i))) S
 | _=>False
theorem zom:zaL X (.type "str") (λxs H Q=>∃i:Int,xs=[.int i]∧i.natAbs.log2<1920∧Q (.str (Str.ofString (toString i))) H):=by
 intro pins s σ H xs us Q I r h
 obtain⟨i,rfl,hi,q⟩:=h
 obtain⟨u,rfl,rx⟩:=zbz r
 obtain⟨t,rfl⟩:=rx
 exact PySem.P.str_of_int hi ⟨.str _,H,I.tok _,⟨_,rfl⟩,q⟩
theorem zfa:zaL X (.type "str") (upC X.K Z zfO):=ze7 zom λxs H Qv ⟨r,S,ds,Q,rel,ps,q,ret⟩=>by
 unfold zfO at q
 split at q
 ·rename_i i
  obtain⟨v,vs,rfl,p1,p2⟩:=ps.uncons
  have z:=p2.unnil
  subst z
  cases p1
  exact⟨i,rfl,q.1,ret _ _ _ _ _ Ext.refl rel (.str _) q.2⟩
 ·exact q.elim
theorem zeX {i:Int}{S:Sto}{Q:DK}(h:i.natAbs.log2<1920)(hq:Q (.str (Str.ofString (toString i))) S):irr zfO [.int i] S Q:=by rw[ze4]; exact⟨h,hq⟩
def zi5:WC:=λds S Q=>match ds with
 | [.str x]=>∃n,PySem.intText? x=some n∧x.length≤640∧Q (.int n) S
 | _=>False
theorem zpo:zaL X (.type "int") (λxs H Q=>∃x n,xs=[.str x]∧PySem.intText? x=some n∧x.length≤640∧Q (.int n) H):=by
 intro pins s σ H xs us Q I r h
 obtain⟨x,n,rfl,hn,hl,q⟩:=h
 obtain⟨u,rfl,rx⟩:=zbz r
 obtain⟨t,rfl⟩:=rx
 exact PySem.W.KIN.call_text hn hl ⟨.int n,H,I.tok _,⟨_,rfl⟩,q⟩
theorem zhP:zaL X (.type "int") (upC X.K Z zi5):=ze7 zpo λxs H Qv ⟨r,S,ds,Q,rel,ps,q,ret⟩=>by
 unfold zi5 at q
 split at q
 ·rename_i x
  obtain⟨n,q1,q2,q3⟩:=q
  obtain⟨v,vs,rfl,p1,p2⟩:=ps.uncons
  have z:=p2.unnil
  subst z
  cases p1
  exact⟨x,n,rfl,q1,q2,ret _ _ _ _ _ Ext.refl rel (.int _) q3⟩
 ·exact q.elim
theorem zhO {x:Str}{n:Int}{S:Sto}{Q:DK}(h:PySem.intText? x=some n)(hl:x.length≤640)(hq:Q (.int n) S):irr zi5 [.str x] S Q:=by rw[ze4]; exact⟨n,h,hl,hq⟩
@[irreducible] def zcS (w:Str→D→Sto→DK→Prop)(to:TDE)(t:TDA):TDE:=λdl S Q=>to dl S λd S1=>match d with
 | .str x=>t dl S1 λds S2=>match ds with
  | [y]=>w x y S2 Q
  | _=>False
 | _=>False
def zlk:Str→D→Sto→DK→Prop:=λx y S Q=>match y with
 | .int i=>(0≤i∧i≤1000)∧Q (.str (Txt.zfill x i)) S
 | _=>False
def ziu:Str→D→Sto→DK→Prop:=λx y S Q=>match y with
 | .str z=>Q (.bl (Txt.startswith x z)) S
 | _=>False
def zjU:Str→D→Sto→DK→Prop:=λx y S Q=>match y with
 | .str z=>(z.length≠0∧x.length≤1000)∧Q (.tup [.str (Txt.partition x z).1,.str (Txt.partition x z).2.1,.str (Txt.partition x z).2.2]) S
 | _=>False
theorem zhv {w:Str→D→Sto→DK→Prop}{to:TDE}{t:TDA}{dl:Ev}{S S1 S2:Sto}{Q:DK}{x:Str}{y:D}(hto:∀K:DK,K (.str x) S1→to dl S K)(ht:∀K:List D→Sto→Prop,K [y] S2→t dl S1 K)(hq:w x y S2 Q):zcS w to t dl S Q:=by
 unfold zcS
 exact hto _ (ht _ hq)
theorem zqU:MtR X "str.zfill" (λx xs H Q=>∃z i,x=.str z∧xs=[.int i]∧(0≤i∧i≤1000)∧Q (.str (Txt.zfill z i)) H):=by
 intro pins s σ H x xs v us Q I rx rv h
 obtain⟨z,i,rfl,rfl,hi,q⟩:=h
 obtain⟨t,rfl⟩:=rx
 obtain⟨u,rfl,ru⟩:=zbz rv
 obtain⟨t2,rfl⟩:=ru
 refine PySem.W.KXw.zfill (y:=Txt.zfill z i) rfl ?_ λt' k=>⟨.str _,H,I.kept (t':=k) λb o e=>e,⟨t',rfl⟩,q⟩
 have l:i.toNat≤sizeLine:=zbF (by omega)
 unfold PadOk fitsSsize Builtin.Str.tooLong
 rw[Vap,Bool.not_eq_true',Bool.not_eq_true',decide_eq_false (show ¬ i < -(2^63:Int) by omega),decide_eq_false (show ¬ i≥(2^63:Int) by omega),decide_eq_false (by omega)]
 exact⟨rfl,rfl⟩
theorem zmq:MtR X "str.startswith" (λx xs H Q=>∃z y,x=.str z∧xs=[.str y]∧Q (.bl (Txt.startswith z y)) H):=by
 intro pins s σ H x xs v us Q I rx rv h
 obtain⟨z,y,rfl,rfl,q⟩:=h
 obtain⟨t,rfl⟩:=rx
 obtain⟨u,rfl,ru⟩:=zbz rv
 obtain⟨t2,rfl⟩:=ru
 exact PySem.SC.startswith ⟨.bl _,H,I,rfl,q⟩
theorem zse:MtR X "str.partition" (λx xs H Q=>∃z y,x=.str z∧xs=[.str y]∧(y.length≠0∧z.length≤1000)∧∀p,H p=none→Q (.ref p) (upd H p (.tup [.str (Txt.partition z y).1,.str (Txt.partition z y).2.1,.str (Txt.partition z y).2.2]))):=by
 intro pins s σ H x xs v us Q I rx rv h
 obtain⟨z,y,rfl,rfl,⟨hy,hz⟩,q⟩:=h
 obtain⟨t,rfl⟩:=rx
 obtain⟨u,rfl,ru⟩:=zbz rv
 obtain⟨t2,rfl⟩:=ru
 refine call_meets PySem.F.slot_str_partition (typeIs_str _ _ _) PySem.F.entry_str_partition (PySem.F.args_str_partition_2 _ _) (meets_str_partition z y t t2 (by simpa using hy) (zbF hz)) ?_
 have q':=q
 unfold Txt.partition at q'
 revert q'
 cases Builtin.Str.occurrences z y 0 z.length 1 with
 | nil=>
  intro q'
  refine⟨.ref s.heap.objs.size,_,I.laid (o:=.tup [.str z,.str Str.empty,.str Str.empty]) (λb ob e=>Heap.get?_push_of_some _ e) (Vaa _) ?_,rfl,q' _ (I.hok.fresh (Vaa _))⟩
  exact⟨zbF (by simp),_,.cons ⟨_,rfl⟩ (.cons ⟨_,rfl⟩ (.cons ⟨_,rfl⟩ .nil)),IsTup.new _ _⟩
 | cons i r=>
  intro q'
  refine⟨.ref s.heap.objs.size,_,I.laid (o:=.tup [.str (Builtin.Str.strSub z 0 i),.str y,.str (Builtin.Str.strSub z (i+y.length) z.length)]) (λb ob e=>Heap.get?_push_of_some _ e) (Vaa _) ?_,rfl,q' _ (I.hok.fresh (Vaa _))⟩
  exact⟨zbF (by simp),_,.cons ⟨_,rfl⟩ (.cons ⟨_,rfl⟩ (.cons ⟨_,rfl⟩ .nil)),IsTup.new _ _⟩
theorem zmC {o e:Expr}{to:TDE}{t:TDA}{apos cpos:Pos}(ho:PD X Z o to)(ha:PDA X Z [e] t)(hbase:attributeBase o "zfill" X.env (eval o X.env)=eval o X.env:=by rfl)
  (hfew:((backTo cpos (starEach [e] X.env)).all (λx=>!x.1)&&(backToKw cpos (keywordEach [] X.env)).all (λx=>x.1.isSome)
  &&decide ([e].length+([]:List Keyword).length+(if ([]:List Keyword).isEmpty then 0 else 1)<30))=true:=by rfl)
  (hline:(apos.endLine==cpos.line)=true:=by rfl)(hs:starEach [e] X.env=(false,eval e X.env)::starEach [] X.env:=by rfl)(hplain:(backTo cpos (starEach [] X.env)).any (·.1)=false:=by rfl):
  PD X Z (.Call (.Attribute o "zfill" apos) [e] [] cpos) (zcS zlk to t):=
 zaD (zeP (T:="str") PySem.F.plainAttrs_str PySem.F.slot_str_zfill PySem.F.type_str_zfill zqU ho ha hbase hfew hline hs hplain) λσ H Qv ⟨r,dl,S,Q,rs,rel,h,ret⟩=>by
  unfold zcS at h
  refine⟨r,dl,S,_,rs,rel,h,λv H1 r1 d S1 e1 rel1 p1 q1=>?_⟩
  cases p1 with
  | str x=>
   refine⟨rfl,r1,dl,S1,_,rs.ext e1,rel1,q1,λvs H2 r2 ds S2 e2 rel2 p2 q2=>?_⟩
   split at q2
   ·rename_i y
    obtain⟨v2,vs',rfl,p3,p4⟩:=p2.uncons
    have z:=p4.unnil
    subst z
    unfold zlk at q2
    split at q2
    ·rename_i i
     cases p3
     exact⟨x,i,rfl,rfl,q2.1,ret _ H2 r2 _ S2 (e1.trans e2) rel2 (.str _) q2.2⟩
    ·exact q2.elim
   ·exact q2.elim
  | _=>exact(show False from q1).elim
theorem znn {o e:Expr}{to:TDE}{t:TDA}{apos cpos:Pos}(ho:PD X Z o to)(ha:PDA X Z [e] t)(hbase:attributeBase o "startswith" X.env (eval o X.env)=eval o X.env:=by rfl)
  (hfew:((backTo cpos (starEach [e] X.env)).all (λx=>!x.1)&&(backToKw cpos (keywordEach [] X.env)).all (λx=>x.1.isSome)
  &&decide ([e].length+([]:List Keyword).length+(if ([]:List Keyword).isEmpty then 0 else 1)<30))=true:=by rfl)
  (hline:(apos.endLine==cpos.line)=true:=by rfl)(hs:starEach [e] X.env=(false,eval e X.env)::starEach [] X.env:=by rfl)(hplain:(backTo cpos (starEach [] X.env)).any (·.1)=false:=by rfl):
  PD X Z (.Call (.Attribute o "startswith" apos) [e] [] cpos) (zcS ziu to t):=
 zaD (zeP (T:="str") PySem.F.plainAttrs_str PySem.F.slot_str_startswith PySem.F.type_str_startswith zmq ho ha hbase hfew hline hs hplain) λσ H Qv ⟨r,dl,S,Q,rs,rel,h,ret⟩=>by
  unfold zcS at h
  refine⟨r,dl,S,_,rs,rel,h,λv H1 r1 d S1 e1 rel1 p1 q1=>?_⟩
  cases p1 with
  | str x=>
   refine⟨rfl,r1,dl,S1,_,rs.ext e1,rel1,q1,λvs H2 r2 ds S2 e2 rel2 p2 q2=>?_⟩
   split at q2
   ·rename_i y
    obtain⟨v2,vs',rfl,p3,p4⟩:=p2.uncons
    have z:=p4.unnil
    subst z
    unfold ziu at q2
    split at q2
    ·rename_i i
     cases p3
     exact⟨x,i,rfl,rfl,ret _ H2 r2 _ S2 (e1.trans e2) rel2 (.bl _) q2⟩
    ·exact q2.elim
   ·exact q2.elim
  | _=>exact(show False from q1).elim
theorem zsg {o e:Expr}{to:TDE}{t:TDA}{apos cpos:Pos}(ho:PD X Z o to)(ha:PDA X Z [e] t)(hbase:attributeBase o "partition" X.env (eval o X.env)=eval o X.env:=by rfl)
  (hfew:((backTo cpos (starEach [e] X.env)).all (λx=>!x.1)&&(backToKw cpos (keywordEach [] X.env)).all (λx=>x.1.isSome)
  &&decide ([e].length+([]:List Keyword).length+(if ([]:List Keyword).isEmpty then 0 else 1)<30))=true:=by rfl)
  (hline:(apos.endLine==cpos.line)=true:=by rfl)(hs:starEach [e] X.env=(false,eval e X.env)::starEach [] X.env:=by rfl)(hplain:(backTo cpos (starEach [] X.env)).any (·.1)=false:=by rfl):
  PD X Z (.Call (.Attribute o "partition" apos) [e] [] cpos) (zcS zjU to t):=
 zaD (zeP (T:="str") PySem.F.plainAttrs_str PySem.F.slot_str_partition PySem.F.type_str_partition zse ho ha hbase hfew hline hs hplain) λσ H Qv ⟨r,dl,S,Q,rs,rel,h,ret⟩=>by
  unfold zcS at h
  refine⟨r,dl,S,_,rs,rel,h,λv H1 r1 d S1 e1 rel1 p1 q1=>?_⟩
  cases p1 with
  | str x=>
   refine⟨rfl,r1,dl,S1,_,rs.ext e1,rel1,q1,λvs H2 r2 ds S2 e2 rel2 p2 q2=>?_⟩
   split at q2
   ·rename_i y
    obtain⟨v2,vs',rfl,p3,p4⟩:=p2.uncons
    have z:=p4.unnil
    subst z
    unfold zjU at q2
    split at q2
    ·rename_i i
     cases p3
     refine⟨x,i,rfl,rfl,q2.1,λp hp=>?_⟩
     have x3:Ext r2 r2 H2 (upd H2 p (.tup [.str (Txt.partition x i).1,.str (Txt.partition x i).2.1,.str (Txt.partition x i).2.2])):=zk2 hp
     have pp:Rps r2 (upd H2 p (.tup [.str (Txt.partition x i).1,.str (Txt.partition x i).2.1,.str (Txt.partition x i).2.2])) [.str (Txt.partition x i).1,.str (Txt.partition x i).2.1,.str (Txt.partition x i).2.2] [.str (Txt.partition x i).1,.str (Txt.partition x i).2.1,.str (Txt.partition x i).2.2]:=Rps.cons (.str _) (Rps.cons (.str _) (Rps.cons (.str _) Rps.nil))
     exact ret _ _ r2 _ S2 (e1.trans (e2.trans x3)) (rel2.same (zdw hp)) (.tup zbV pp.1 pp.2) q2.2
    ·exact q2.elim
   ·exact q2.elim
  | _=>exact(show False from q1).elim
end
theorem zrq:typeLookup (.type "list_reverseiterator") "__len__"=pure none:=by rw[typeLookup_type,builtinLookup_eq_fast]; kernel_rfl
theorem zoH:typeLookup (.type "list_reverseiterator") "__length_hint__"=pure (some (.builtin "list_reverseiterator.__length_hint__")):=by rw[typeLookup_type,builtinLookup_eq_fast]; kernel_rfl
section
variable {n:Nat}{I:Addr}{fp wr:List Addr}{P:Nat→Value→Prop}{St:Nat→Shared→Prop}{prog:Program}{w:World}{A:Around}{s:Shared}{E:Value→Shared→Prop}{G:Array GenState→Array GenState→Prop}
theorem zrz {Q:List Value→Shared→Prop}(W:WalksS prog w A.in1 I fp wr G n P St)(hT:∀i s,St i s→s.TypeIs (.ref I) "list_reverseiterator")(hst:St 0 s)(hfp:∀b∈fp,b<s.heap.objs.size)(hI:I∈fp)
  (hQ:∀s' acc,Moved wr G s s'→s.heap.objs.size≤s'.heap.objs.size→ItemsOf P acc n→Q acc.toList s')(hn:n≤sizeLine):wpAny (model prog w) A (collect (.ref I)) Q E s:=by
 have off:s.heap.objs.size ∉ fp:=λz=>absurd (hfp _ z) (VaB _)
 have offI:s.heap.objs.size≠I:=λz=>off (by rw[z]; exact hI)
 have neS:Builtin.List.listSameRef (.ref s.heap.objs.size) (.ref I)=false:=by simp[Builtin.List.listSameRef,offI]
 unfold collect
 refine wpAny_bind (wpAny_runValue (codeAny_builtin PySem.F.entry_proto_collect ?_))
 rewrite [Around.under_plainId PySem.F.plain_proto_collect _]
 refine wpAny_bind (wpAny_newObj_type ?_) (m:=newList [])
 refine wpAny_pure ⟨plainId_quiet PySem.F.plain_list_iadd _,codeAny_builtin PySem.F.entry_list_iadd ?_⟩
 rewrite [Around.under_plainId PySem.F.plain_list_iadd _]
 have st1:=W.frame 0 s (s.heap.push { cls:=.type "list",data:=.seq ([]:List Value).toArray }) s.toks hst (Vaa _) (λb _ o e=>Heap.get?_push_of_some _ e)
 have new1:(s.heap.push { cls:=.type "list",data:=.seq ([]:List Value).toArray }).get? s.heap.objs.size=some { cls:=.type "list",data:=.seq ([]:List Value).toArray }:=Heap.get?_push_size _ (by rfl)
 change wpAny _ A.in1 (Builtin.List.listExtendWith (.ref s.heap.objs.size) (.ref I) (.ref s.heap.objs.size)) _ _ _
 unfold Builtin.List.listExtendWith; refine wpAny_bind (wpAny_typeOf (hT 0 _ st1) ?_)
 rw[if_neg (by rw[neS]; decide)]
 refine wpAny_bind (W.self 0 _ _ _ st1 (wpAny_bind (wpAny_holding ?_)))
 unfold Builtin.List.listLengthHint; refine wpAny_bind (wpAny_specialOf (hT 0 _ st1) zrq ?_)
 change wpAny _ A.in1 (specialOf (Value.ref I) (Str.ofString "__length_hint__") >>= _) _ _ _
 refine wpAny_bind (wpAny_specialOf (hT 0 _ st1) zoH ?_)
 generalize hid:("list_reverseiterator.__length_hint__":String)=nm
 wp_delta
 have two:splitId nm=some ("list_reverseiterator","__length_hint__"):=by subst hid; decide +kernel
 rw[two]
 subst hid
 refine wpAny_bind (wpAny_isInstance (T:="list_reverseiterator") (b:=true) (hT 0 _ st1) (by rw[isSubtype_type]; kernel_rfl) ?_)
 refine wpAny_pure ?_
 rw[if_neg (by decide)]
 refine wpAny_pure ⟨plainId_quiet PySem.F.plain_extend_loop _,codeAny_extend_loopS W hn _ off _ n 0 _ _ _ rfl (VaJ _) st1 new1 (ItemsOf.nil P) λs' acc' c' hm hS' hacc=>?_⟩
 refine wpAny_bind (m:=load s.heap.objs.size) (wpAny_load hS' ?_)
 exact wpAny_pure (hQ s' acc' (Moved.drop_new (o:={ cls:=.type "list",data:=.seq ([]:List Value).toArray }) (tk:=s.toks) hm (Vaa _)) (VaC (Heap.lt_size hS')) hacc)
theorem zps {x:Str}{t:Tok}{Q:Value→Shared→Prop}(W:WalksS prog w A.in1.in1 I fp wr G n P St)(hT:∀i s,St i s→s.TypeIs (.ref I) "list_reverseiterator")(hst:St 0 s)(hfp:∀b∈fp,b<s.heap.objs.size)(hI:I∈fp)(hstr:∀i v,P i v→∃y u,v=Value.str y u)
  (hq:∀s' (l:List (Str×Tok)),Moved wr G s s'→s.heap.objs.size≤s'.heap.objs.size→ItemsOf P (strValues l).toArray n→JoinOk x (l.map (·.1))=true∧∀t' k,Q (.str (Txt.join x (l.map (·.1))) t') { s' with toks:=k })(hsz:n≤sizeLine):wpAny (model prog w) A (call (.builtin "str.join") [.str x t,.ref I]) Q E s:=by
 refine wpAny_call (codeAny_call_builtin PySem.F.slot_str_join.plain PySem.F.entry_str_join (PySem.F.slot_str_join.check _ _ _ _ _ _ _ _ (typeIs_str _ _ _) (PySem.F.args_str_join_2 _ _) ?_))
 rw[join_tree_other]; refine wpAny_bind (wpAny_typeOf (hT 0 s hst) ?_)
 show wpAny _ A.in1 ((pyIter (.ref I)).tryCatch _ >>= λit=>collect it >>= λxs=>joinTail x xs) _ _ s
 refine wpAny_bind (wpAny_tryCatch (W.of_in1.self 0 s _ _ hst (wpAny_bind (zrz W hT hst hfp hI (λs' acc hm hm2 hacc=>?_) hsz))))
 obtain⟨l,hl⟩:=exists_strValues acc.toList λv0 hv0=>by
  obtain⟨k0,hk0,rfl⟩:=Array.mem_iff_getElem.mp (Array.mem_toList_iff.mp hv0)
  exact hstr k0 _ (hacc.2 k0 _ (Array.getElem?_eq_getElem hk0))
 rw[← hl]
 obtain⟨hok,hpost⟩:=hq s' l hm hm2 (by rw[hl]; simpa using hacc)
 have fits:Builtin.Str.tooLong ((l.map (·.1)).toArray.foldl (·+·.length+x.length) 0)=false:=by
  unfold JoinOk at hok
  simpa using hok
 have gv:Gives (joinTail x (strValues l)) (joinMade x l):=by
  have z:=gives_joinTail x l fits
  cases l with
  | nil=>exact z
  | cons p r=>
   cases r with
   | nil=>exact z
   | cons q r'=>exact z
 exact gv prog w A (wants Q E) s' (post_join l ⟨joinFit_length fits,hpost⟩)
end
def zgL (B:Nat)(p l:Addr)(n:Nat):HO:=.ext λh=>h.IsRevIter p l ((n:Int)-1)∧B≤p
def zdx (H:Hp)(p:Addr):Hp:=λa=>if a=p then none else H a
theorem zf6 {H:Hp}{p a:Addr}(h:a≠p):zdx H p a=H a:=if_neg h
theorem zmt {H:Hp}{p:Addr}:zdx H p p=none:=if_pos rfl
section
variable {X:Cx}{Z:Zx}
theorem zpV:zaL X (.type "reversed") (λxs H Q=>∃l ys,xs=[.ref l]∧H l=some (.lst ys)∧∀p,H p=none→Q (.ref p) (upd H p (zgL X.s₀.heap.objs.size p l ys.length))):=by
 intro pins s σ H xs us Q I r h
 obtain⟨l,ys,rfl,hH,q⟩:=h
 obtain⟨u,rfl,rx⟩:=zbz r
 cases rx
 obtain⟨z,its,n,rv,hl,e⟩:=I.lstM hH
 have il:s.heap.IsList l its.toArray:=⟨_,e,rfl,n,rfl⟩
 refine call_reversed_list il ?_
 have en:((its.toArray.size:Nat):Int)-1=((ys.length:Nat):Int)-1:=by rw[Vai,rv.length]
 rw[en]
 refine⟨.ref s.heap.objs.size,_,I.laid (t':=s.toks) (o:=zgL X.s₀.heap.objs.size s.heap.objs.size l ys.length) (λb ob e=>Heap.get?_push_of_some _ e) (Vaa _) ?_,rfl,q _ (I.hok.fresh (Vaa _))⟩
 exact⟨⟨⟨_,Heap.get?_push_size _ rfl,rfl,rfl⟩,I.sz⟩,⟨_,Heap.get?_push_size _ rfl⟩,λh1 h2 x k=>⟨x.1.at λo e=>k o e,x.2⟩⟩
theorem zol (hc:X.calm=true):MtR X "str.join" (λx xs H Q=>∃sep p l ys zs,x=.str sep∧xs=[.ref p]∧H p=some (zgL X.s₀.heap.objs.size p l ys.length)∧H l=some (.lst ys)∧(∀us,zah ys us→StrsAre us zs)∧sep.length=0∧(∀z∈zs,z.length≤200)∧zs.length≤5∧Q (.str (zav zs.reverse)) (zdx H p)):=by
 intro pins s σ H x xs v us Q I rx rv h
 obtain⟨sep,p,l,ys,zs,rfl,rfl,hp,hl,st,h0,hB,hn,q⟩:=h
 obtain⟨t,rfl⟩:=rx
 obtain⟨u,rfl,ru⟩:=zbz rv
 cases ru
 obtain⟨z,its,n,rv,hz,e⟩:=I.lstM hl
 have sr:=st its rv
 have il:s.heap.IsList l its.toArray:=⟨_,e,rfl,n,rfl⟩
 have ok:zba X.prog X.w H s.heap p (zgL X.s₀.heap.objs.size p l ys.length):=I.hok p _ hp
 obtain⟨⟨ir,above⟩,⟨op,ep⟩,_⟩:=ok
 have ne:l≠p:=zg0 hl hp (by intro z; cases z)
 have ln:its.length=ys.length:=rv.length.symm
 have W:=(Walks.listRev (prog:=X.prog) (w:=X.w) (A:=X.A.in1.in1) (I.ok.hd hc) p l ne its.toArray).toS
 have s0:(0:Nat)≤its.toArray.size∧s.heap.IsRevIter p l ((its.toArray.size:Int)-1-((0:Nat):Int))∧s.heap.IsList l its.toArray:=⟨VaJ _,by
  have e2:((its.toArray.size:Nat):Int)-1-((0:Nat):Int)=((ys.length:Nat):Int)-1:=by rw[Vai,ln]; omega
  rw[e2]; exact ir,il⟩
 refine zps W (λi s st=>st.2.1.typeIs) s0 (λb hb=>?_) (by simp) (λi v hv=>?_) (λs' ls hm hm2 hi=>?_) (by rw[Vai]; omega)
 ·have z:b=p∨b=l:=by simpa using hb
  rcases z with rfl | rfl
  ·exact Heap.lt_size ep
  ·exact Heap.lt_size e
 ·have hv':its[its.length-1-i]?=some v:=by simpa using hv
  obtain⟨y,u,rfl,_⟩:=sr.item _ _ hv'
  exact⟨y,u,rfl⟩
 ·have lz:zs.length=its.length:=sr.len_eq.symm
  have ll:ls.length=its.length:=by
   have z:=hi.1
   simpa [strValues] using z
  have em:ls.map (·.1)=zs.reverse:=by
   refine List.ext_getElem? λj=>?_
   by_cases hj:j<ls.length
   ·have e1:=Vay hj
    have e2:(strValues ls).toArray[j]?=some (.str ls[j].1 ls[j].2):=by simp[strValues,hj]
    have e3:=hi.2 j _ e2
    have e4:its[its.length-1-j]?=some (.str ls[j].1 ls[j].2):=by simpa using e3
    obtain⟨y,u,ey,e5⟩:=sr.item _ _ e4
    cases ey
    rw[Vau,e1,List.getElem?_reverse (by omega),lz,e5]
    rfl
   ·rw[List.getElem?_eq_none (by simp; omega),List.getElem?_eq_none (by simp; omega)]
  rw[em]
  refine⟨?_,λt' k=>?_⟩
  ·have sum:∀(ws:List Str) (a:Nat),(∀z∈ws,z.length≤200)→ws.foldl (λn z=>n+z.length+sep.length) a≤a+200*ws.length:=λws=>by
    induction ws with
    | nil=>intro a _; simp
    | cons z ws ih=>
     intro a hw
     have h1:=hw z (by simp)
     have h2:=ih (a+z.length+sep.length) (λy hy=>hw y (by simp[hy]))
     simp only[Vam,List.foldl_cons]
     omega
   have b:=sum zs.reverse 0 (λz hz=>hB z (by simpa using hz))
   unfold JoinOk Builtin.Str.tooLong
   rw[List.foldl_toArray,decide_eq_false (Nat.not_lt.mpr (Vao b (zbF (by rw[List.length_reverse]; omega))))]
   rfl
  ·rw[zml sep h0]
   obtain⟨h',g',d',k',o'⟩:=s'
   obtain⟨m1,m2,m3,m4,m5⟩:=hm
   dsimp only at m2 m3 m4
   subst m2 m3 m4
   have np:∀b u,H b=some u→(∀φ,u≠HO.ext φ)→b≠p:=λb u e n z=>by
    subst z
    rw[hp] at e
    cases e
    exact n _ rfl
   have I1:Inv X pins σ (zdx H p) { s with heap:=s.heap,toks:=s.toks }:=I.un ⟨λb o e _ _ _=>e,λb o e _ _ _=>⟨o.slots,e⟩,λb o _ n _=>by
     unfold zdx
     split
     ·rfl
     ·exact n,λb o e _=>⟨o,e⟩,λb xs e=>by rw[zf6 (np b _ e λφ=>by simp)]; exact e,λb o u e=>by rw[zf6 (np b _ e λφ=>by simp)]; exact e,λb qs e=>⟨#[],by rw[zf6 (np b _ e λφ=>by simp),e]; simp⟩⟩ (λb u e=>by
     unfold zdx at e
     split at e
     ·cases e
     ·rename_i hb
      exact(I.hok b u e).stay (λ_ _ _ q=>q) (λc e2=>by rw[zf6 (np c _ e2 λφ=>by simp)]; exact e2) (λc xs e2=>by rw[zf6 (np c _ e2 λφ=>by simp)]; exact e2))
   have pl:p≠X.env.locals:=λz=>by
    have:=I.free
    rw[← z,hp] at this
    cases this
   have I2:=I1.turned (it:=p) (h':=h') (t':=k) (λb o hb e=>m1 b o (by simpa using hb) e) zmt pl (.inr above) (λx c e z=>by
     have:=I.freeC x c e
     rw[z,hp] at this
     cases this) (λq hq z=>by
     have:=(I.pin q hq).2.1
     rw[z,hp] at this
     cases this)
   exact⟨.str (zav zs.reverse),_,I2,⟨t',rfl⟩,q⟩
theorem zqh {H:Hp}{p:Addr}{o:HO}(h:H p=none):zdx (upd H p o) p=H:=by
 funext a
 unfold zdx
 split
 ·rename_i e
  rw[e,h]
 ·rename_i e
  exact zaG e
@[irreducible] def zhw (to te:TDE):TDE:=λdl S Q=>to dl S λd S1=>match d with
 | .str sep=>te dl S1 λx S2=>match x with
  | .ref n=>match S2[n]? with
   | some (.lst ds)=>∃zs,zbJ ds=some zs∧sep.length=0∧(∀z∈zs,z.length≤200)∧zs.length≤5∧Q (.str (zav zs.reverse)) S2
   | _=>False
  | _=>False
 | _=>False
theorem zmR {to te:TDE}{dl:Ev}{S S1 S2:Sto}{Q:DK}{sep:Str}{n:Nat}{ds:List D}{zs:List Str}(hto:∀K:DK,K (.str sep) S1→to dl S K)(hte:∀K:DK,K (.ref n) S2→te dl S1 K)(h:S2[n]?=some (.lst ds))(hz:zbJ ds=some zs)(h0:sep.length=0)(hB:∀z∈zs,z.length≤200)(hn:zs.length≤5)(hq:Q (.str (zav zs.reverse)) S2):zhw to te dl S Q:=by
 unfold zhw
 refine hto _ (hte _ ?_)
 simp only[h]
 exact⟨zs,hz,h0,hB,hn,hq⟩
theorem zqJ {o e:Expr}{to te:TDE}{apos cpos p pos2:Pos}(hc:X.calm=true)(hg:Gl X "reversed")(hm:X.mg "reversed"=none)(hv:bootBuiltins "reversed"=some (.type "reversed"))(ho:PD X Z o to)(he:PD X Z e te)
  (hbase:attributeBase o "join" X.env (eval o X.env)=eval o X.env:=by rfl)
  (hfew:((backTo cpos (starEach [.Call (.Name "reversed" p) [e] [] pos2] X.env)).all (λx=>!x.1)&&(backToKw cpos (keywordEach [] X.env)).all (λx=>x.1.isSome)
  &&decide (([.Call (.Name "reversed" p) [e] [] pos2]:List Expr).length+([]:List Keyword).length+(if ([]:List Keyword).isEmpty then 0 else 1)<30))=true:=by rfl)
  (hline:(apos.endLine==cpos.line)=true:=by rfl)(hs:starEach [.Call (.Name "reversed" p) [e] [] pos2] X.env=(false,eval (.Call (.Name "reversed" p) [e] [] pos2) X.env)::starEach [] X.env:=by rfl)(hplain:(backTo cpos (starEach [] X.env)).any (·.1)=false:=by rfl)
  (hs2:starEach [e] X.env=(false,eval e X.env)::starEach [] X.env:=by rfl)(hpl2:(backTo pos2 (starEach [] X.env)).any (·.1)=false:=by rfl):
  PD X Z (.Call (.Attribute o "join" apos) [.Call (.Name "reversed" p) [e] [] pos2] [] cpos) (zhw to te):=
 zaD (zeP (T:="str") PySem.F.plainAttrs_str PySem.F.slot_str_join PySem.F.type_str_join (zol hc) ho (zda (zls zpV hg hm hv (zda he zfx hs2) (by decide) (by decide) hs2 hpl2) zfx hs) hbase hfew hline hs hplain) λσ H Qv ⟨r,dl,S,Q,rs,rel,h,ret⟩=>by
  unfold zhw at h
  refine⟨r,dl,S,_,rs,rel,h,λv H1 r1 d S1 e1 rel1 p1 q1=>?_⟩
  cases p1 with
  | str sep=>
   refine⟨rfl,r1,dl,S1,_,rs.ext e1,rel1,q1,λv2 H2 r2 x S2 e2 rel2 p2 q2=>?_⟩
   cases p2 with
   | @ref n a hn=>
    dsimp only at q2
    split at q2
    ·rename_i ds eS
     obtain⟨zs,z1,z2,z3,z4,q⟩:=q2
     obtain⟨ys,eH,pr⟩:=rel2.b.ob n a _ hn eS
     refine⟨a,ys,rfl,eH,λb hb=>?_⟩
     have nb:a≠b:=zbO eH hb
     refine⟨sep,b,a,ys,zs,rfl,rfl,zbV,by rw[zaG nb]; exact eH,λus ru=>zjp z1 pr ru,z2,z3,z4,?_⟩
     rw[zqh hb]
     exact ret _ H2 r2 _ S2 (e1.trans e2) rel2 (.str _) q
    ·exact q2.elim
   | _=>exact(show False from q2).elim
  | _=>exact(show False from q1).elim
end
structure CompScG (sc around:Scope)(own caps:List Str):Prop where
 kind:sc.kind=.function
 nocell:∀y∈sc.names,y.2≠.cell
 own:∀y∈sc.names,y.2=.local→sc.names.lookup y.1=some .local
 cap:∀y∈caps,sc.names.lookup y=some .free
 out:∀y∈sc.names,y.2=.free→around.names.lookup y.1=some .cell
section
variable {X:Cx}{pins:List (Addr×Obj)}{σ:St}{H:Hp}{s:Shared}
end
section
variable {X:Cx}{elt iter:Expr}{elts:List Expr}{kk:Nat}{tp:Pos}{pos:Pos}{sc:Scope}{own N:List Str}{caps:List Nat}{wi:TI}{gt:TG}{te:TE}
end
section
variable {X:Cx}{Z:Zx}{elt:Expr}{pos:Pos}{sc ar:Scope}{N:List Str}{caps:List Nat}
end
section
variable {X:Cx}{Z:Zx}{pos:Pos}
end
section
variable {X:Cx}{Z:Zx}
end
open PySem PySem.W PyProof.Rows PySem.Calls
def goT (tb:String→Option Builtin)(p:Program)(w:World)(n₀:Nat)(ann:Option Value):Nat→SharedT→Thread→Option SharedT
 | 0,_,_=>none
 | k+1,s,t=>bif through t then some s else bif stepOk n₀ ann t then (stepT (denote tb) p w s t).bind (λr=>goT tb p w n₀ ann k r.1 r.2) else none
theorem zj8 {tb:String→Option Builtin}{p:Program}{w:World}{n₀:Nat}{ann:Option Value}:∀ {n:Nat} {s s':SharedT} {t:Thread},goT tb p w n₀ ann n s t=some s'→topRun tb p w n₀ ann n s.abs t=some s'.abs
 | 0,_,_,_,q=>nomatch q
 | n+1,s,s',t,q=>by
  unfold goT at q
  unfold topRun
  cases c1:through t
  ·rw[c1] at q
   cases c2:stepOk n₀ ann t
   ·rw[c2] at q
    exact nomatch q
   ·rw[c2] at q
    obtain⟨⟨s2,t2⟩,c3,q⟩:=Option.bind_eq_some_iff.mp q
    rw[stepT_spec c3]
    exact zj8 q
  ·rw[c1] at q
   cases q
   rfl
def zjo (os:Array Obj):Nat→Nat→Nat→BT
 | 0,_,_=>.nil
 | f+1,a,b=>match os[b]? with
  | some o=>.node o (zjo os f (2*a) (a+b)) (zjo os f (2*a) (2*a+b))
  | none=>.nil
noncomputable def bootT (P:Params):BT:=zjo (boot_heap P).objs 6 1 0
noncomputable abbrev zi2 (w:World)(os:OsState):SharedT:=⟨bootT w.params,11,(boot_heap w.params).life,Array.mk [],boot_drawn,boot_toks,os⟩
def zgG (s:SharedT)(a:Addr):Option Obj:=if a<s.n then (match s.tree.get a with | some o=>alive o | none=>s.abs.heap.get? a) else none
theorem zrM (s:SharedT)(a:Addr):s.abs.heap.get? a=zgG s a:=by
 unfold zgG
 split
 ·rename_i h
  cases e:s.tree.get a with
  | none=>rfl
  | some o=>exact abs_get h e
 ·rename_i h
  exact abs_get_none h
theorem zm3 (l:List Addr)(s:SharedT):l.map s.abs.heap.get?=l.map (zgG s):=List.map_congr_left λa _=>zrM s a
noncomputable abbrev ziU (p q:Program)(loose:List Str)(Xt:Shared→Bool){α:Type}(YT:SharedT→α)(g0:Bool)(w:World)(s:SharedT):=
 ((staticsOk (importedModules p.main.body) (boot_heap w.params) s.abs.heap&&namesBound p s.abs.heap&&gensDone s.abs&&laidKept (boot_heap w.params) s.abs.heap),openSeen q loose (importedModules p.main.body) Xt g0 s.abs,YT s)
theorem zoE {p q:Program}{loose:List Str}{Xt:Shared→Bool}{α:Type}{Yf:Shared→α}{YT:SharedT→α}{Ya:World→α}{N:Nat}{g0:Bool}{ann:Option Value}(hY:∀s:SharedT,Yf s.abs=YT s)(e:opening p=plainProg p.main.scope.names)(hN:Nat.ble 600 N=true)(f:∀s,fenceModules? p s=some s)
  (size:∀w:World,((boot_heap w.params).isNs mainGlobals&&(Array.mk []:Array GenState).size==0,(boot_heap w.params).objs.size,(boot_heap w.params).nsMap mainGlobals "__annotations__")=(true,11,ann))
  (run:∀w:World,(λos=>(goT treeTable p w 11 ann N (zi2 w os) (topStub p)).map λs=>ziU p q loose Xt YT g0 w s)=λ_=>some (true,openGood q loose,Ya w)):LeftO p q loose Xt Yf Ya N g0:=λw=>by
 obtain⟨⟨h,gs,d,k,os⟩,e1,e'⟩:=Option.map_eq_some_iff.mp (boot_open e hN f w)
 obtain⟨rfl,rfl,rfl,rfl⟩:h=boot_heap w.params∧gs=Array.mk []∧d=boot_drawn∧k=boot_toks:=by simpa using e'
 obtain⟨y1,y2,y3⟩:_∧_∧_:=by simpa only [Prod.mk.injEq] using size w
 obtain⟨s',r1,r2⟩:=Option.map_eq_some_iff.mp (congrFun (run w) os)
 obtain⟨l1,l2,l3⟩:_∧_∧_:=by simpa only [Prod.mk.injEq] using r2
 have r:topRun treeTable p w 11 ann N ⟨boot_heap w.params,Array.mk [],boot_drawn,boot_toks,os⟩ (topStub p)=some s'.abs:=by
  have z:=zj8 r1
  exact z
 have t:topFrom treeTable p w N ⟨boot_heap w.params,Array.mk [],boot_drawn,boot_toks,os⟩=some s'.abs:=by
  unfold topFrom
  dsimp only
  rw[y1,y2,y3,r]
  show (match staticsOk (importedModules p.main.body) (boot_heap w.params) s'.abs.heap&&namesBound p s'.abs.heap&&gensDone s'.abs&&laidKept (boot_heap w.params) s'.abs.heap with | true=>_ | false=>_)=_
  rw[l1]
 unfold openEnds
 rw[e1]
 show Option.map _ (topFrom treeTable p w N _)=_
 rw[t]
 exact congrArg some (Prod.ext l2 ((hY s').trans l3))
section
variable {X:Cx}{Z:Zx}{pos:Pos}
theorem zhb:∀ {us:List Value} {ms:List Int},IntsAre us ms→zah (ms.map V.int) us
 | _,_,.nil=>.nil
 | _,_,.cons n t h=>.cons ⟨t,rfl⟩ (zhb h)
def zim:W2:=λx y S Q=>match x,y with
 | .ref n,.int k=>match S[n]? with
  | some (.lst xs)=>(0≤k∧k≤1000∧xs.length*k.toNat≤1000)∧Q (.ref S.length) (S++[.lst (List.replicate k.toNat xs).flatten])
  | _=>False
 | _,_=>False
theorem Rps.rep {r:List Addr}{H:Hp}{ds:List D}{xs:List V}(h:Rps r H ds xs):∀k:Nat,Rps r H (List.replicate k ds).flatten (List.replicate k xs).flatten
 | 0=>Rps.nil
 | k+1=>by
  simp only[Vas,Vav]
  exact h.app (Rps.rep h k)
theorem ziY:OpR X (binaryOp .Mult) (upO X.K Z (zbE zim)):=by
 rw[zco]
 exact zea zr5 λx y H Qv ⟨r,S,dx,dy,Q,rel,px,py,q,ret⟩=>by
  unfold zim at q
  split at q
  ·rename_i n k
   split at q
   ·rename_i xs e1
    obtain⟨⟨h0,h1,hl⟩,q⟩:=q
    cases py
    cases px with
    | @ref _ a hn=>
     obtain⟨z,hz,ob⟩:=rel.at e1
     rw[hn] at hz; cases hz
     obtain⟨us,g1,p1⟩:=ob
     refine⟨a,k,us,rfl,rfl,g1,by omega,by omega,by rw[← p1.1]; exact zbF hl,λp hp=>?_⟩
     obtain⟨rel4,x⟩:=rel.push hp (p1.rep k.toNat)
     exact ret _ _ _ (.ref S.length) _ x rel4 (zdb rel.len) q
   ·exact q.elim
  ·exact q.elim
theorem zjk {n:Nat}{k:Int}{S:Sto}{Q:DK}{xs:List D}(h1:S[n]?=some (.lst xs))(hk:0≤k∧k≤1000)(hl:xs.length*k.toNat≤1000)(hq:Q (.ref S.length) (S++[.lst (List.replicate k.toNat xs).flatten])):zbE zim (.ref n) (.int k) S Q:=by
 rw[zco]
 unfold zim
 simp only[h1]
 exact⟨⟨hk.1,hk.2,hl⟩,hq⟩
end
section
variable {X:Cx}{Z:Zx}{elt:Expr}{pos:Pos}{sc ar:Scope}{N:List Str}{caps:List Nat}
end
section
variable {X:Cx}{Z:Zx}{pos:Pos}
end
section
variable {n:Nat}{I:Addr}{fp wr:List Addr}{P:Nat→Value→Prop}{St:Nat→Shared→Prop}{prog:Program}{w:World}{A:Around}{s:Shared}{E:Value→Shared→Prop}{G:Array GenState→Array GenState→Prop}
end
section
variable {X:Cx}{Z:Zx}{pos:Pos}
end
section
variable {X:Cx}{Z:Zx}{pos:Pos}
theorem Rps.ins {r:List Addr}{H:Hp}{y:D}{w:V}(hy:Rp r H y w):∀ {ds:List D} {xs:List V} (k:Nat),Rps r H ds xs→Rps r H (ds.take k++y::ds.drop k) (xs.take k++w::xs.drop k)
 | [],xs,k,h=>by
  have z:=h.unnil
  subst z
  simpa using Rps.cons hy h
 | d::ds,xs,0,h=>Rps.cons hy h
 | d::ds,xs,k+1,h=>by
  obtain⟨v,vs,rfl,p1,p2⟩:=h.uncons
  exact Rps.cons p1 (Rps.ins hy k p2)
end
section
variable {X:Cx}{Z:Zx}{elt iter:Expr}{elts:List Expr}{kk:Nat}{tp pos:Pos}{sc ar:Scope}{own N:List Str}{caps:List Nat}{wi:TI}{gt:TG}
end
section
variable {X:Cx}{Z:Zx}
def zkQ:WC:=λds S Q=>match ds with
 | [.bl b]=>Q (.int (if b then 1 else 0)) S
 | _=>False
theorem zr6:zaL X (.type "int") (upC X.K Z zkQ):=by
 intro pins s σ H xs us Qv I rv h
 obtain⟨r,S,ds,Q,rel,ps,q,ret⟩:=h
 unfold zkQ at q
 split at q
 ·rename_i b
  obtain⟨v,vs,rfl,p1,p2⟩:=ps.uncons
  have z:=p2.unnil
  subst z
  cases p1
  obtain⟨u,rfl,ru⟩:=zbz rv
  cases ru
  exact call_int_bool ⟨.int _,H,I.tok _,⟨_,rfl⟩,ret _ _ _ _ _ Ext.refl rel (.int _) q⟩
 ·exact q.elim
end
section
variable {X:Cx}{Z:Zx}{pos:Pos}
end
end L3
namespace L2
open PySem PySem.Spec PyProof.Rows
section
variable {X:Cx}{tg:Expr}
end
end L2
namespace L3
open PySem PySem.Spec PyProof.Rows L2
section
variable {X:Cx}{Z:Zx}{pos:Pos}
end
end L3
set_option Elab.async false
set_option linter.all false
set_option maxRecDepth 100000
set_option maxHeartbeats 40000000
namespace Mine
open PySem PySem.Spec PyProof.Rows L2 L3
theorem fsc {N P:List Str}{sc:Scope}(a:sc.kind=.function:=by rfl)(b:sc.isCoroutine=false:=by rfl)(c:sc.isGenerator=false:=by rfl)(d:N.Nodup:=by decide +kernel)(e:N.take P.length=P:=by rfl)(f:∀x∈P,sc.names.lookup x=some .local∨sc.names.lookup x=some .cell:=by decide +kernel)(g:∀y∈sc.names,y.2≠.free:=by decide +kernel):zaz N P sc:=⟨a,b,c,d,e,f,g⟩
theorem csc {sc ar:Scope}{x:Str}{caps:List Str}(a:sc.kind=.function:=by rfl)(b:∀y∈sc.names,y.2≠.cell:=by decide +kernel)(c:∀y∈sc.names,y.2=.local→sc.names.lookup y.1=some .local:=by decide +kernel)(d:sc.names.lookup x=some .local:=by rfl)(e:∀y∈caps,sc.names.lookup y=some .free:=by decide +kernel)(f:∀y∈sc.names,y.2=.free→ar.names.lookup y.1=some .cell:=by decide +kernel):zdt sc ar x caps:=⟨a,b,c,d,e,f⟩
abbrev Ln (sp:Sd)(n:Nat):Prop:=∀ds S Q ex,sp ds S Q ex→ds.length=n
theorem zaC {X:Cx}{x:Str}{p pos:Pos}{e:Expr}{es:List Expr}{t:TDA}{k j:Nat}{ps:List Str}{sd:Sd}{ex:Ev→Addr→Sto→Prop}(G:Fk X.prog X.w X.K X.mg X.base k x ps sd)(hr:zax j X.A)(ha:PDA X ⟨ex,Z0.w⟩ (e::es) t)(hk:k≤j:=by decide)(hg:Gl X x:=by rfl)
  (hdb:(x==("__debug__":Str))=false:=by decide)(he:starEach (e::es) X.env=(false,eval e X.env)::starEach es X.env:=by rfl)(hpl:(backTo pos (starEach es X.env)).any (·.1)=false:=by rfl):PD X ⟨ex,Z0.w⟩ (.Call (.Name x p) (e::es) [] pos) (zfL ex sd t):=zbn G (hr.mono hk) zc5 hg ha hdb he hpl
def top (i:Nat):Stmt:=PySem.Challenge.pw_boxnarrow_k13_trees_of_words.main.body.getD i (.Pass ⟨0,0,0,0⟩)
abbrev zdk:Stmt:=zaE (top 24) 0
abbrev zgq:List Str:=["self","words"]
theorem zrX:zaz ["self","words"] zgq (zae zdk):=fsc
abbrev zdR:Stmt:=zaE (top 24) 1
abbrev zd4:List Str:=["self"]
theorem zoB:zaz ["self"] zd4 (zae zdR):=fsc
abbrev zc9:Stmt:=zaE (top 24) 3
abbrev zcA:List Str:=["self"]
theorem zjV:zaz ["self","word"] zcA (zae zc9):=fsc
abbrev zcM:Stmt:=top 14
abbrev zeL:List Str:=["word","signs","most"]
theorem zne:zaz ["word","signs","most"] zeL (zae zcM):=fsc
abbrev zc4:Stmt:=top 18
abbrev zeB:List Str:=["word"]
theorem zq3:zaz ["word"] zeB (zae zc4):=fsc
abbrev zdN:Stmt:=top 6
abbrev zge:List Str:=["one","other"]
theorem zgO:zaz ["one","other","rest"] zge (zae zdN):=fsc
abbrev zdl:Stmt:=top 5
abbrev zf9:List Str:=["value"]
theorem zso:zaz ["value"] zf9 (zae zdl):=fsc
abbrev zdr:Stmt:=top 7
abbrev zgx:List Str:=["top","bottom"]
theorem ziF:zaz ["top","bottom","divisor"] zgx (zae zdr):=fsc
abbrev zdj:Stmt:=top 15
abbrev zgC:List Str:=["number"]
theorem zhD:zaz ["number","piece","texts"] zgC (zae zdj):=fsc
abbrev zds:Stmt:=top 16
abbrev zgb:List Str:=["a"]
theorem zih:zaz ["a","text"] zgb (zae zds):=fsc
abbrev zdD:Stmt:=top 17
abbrev zfo:List Str:=["word"]
theorem zfm:zaz ["word","parts","top","bottom","figures","number"] zfo (zae zdD):=fsc
abbrev zc2:Stmt:=zaE (top 24) 8
abbrev zeQ:List Str:=["self"]
theorem zkP:zaz ["self","tree"] zeQ (zae zc2):=fsc
abbrev zc1:Stmt:=zaE (top 24) 7
abbrev ze3:List Str:=["self"]
theorem zjn:zaz ["self","word","number"] ze3 (zae zc1):=fsc
abbrev zdm:Stmt:=zaE (top 24) 2
abbrev zdB:List Str:=["self","choices"]
theorem zn4:zaz ["self","choices"] zdB (zae zdm):=fsc
abbrev zcF:Stmt:=zaE (top 24) 6
abbrev ze1:List Str:=["self"]
theorem zkf:zaz ["self","tree"] ze1 (zae zcF):=fsc
abbrev zcG:Stmt:=zaE (top 24) 5
abbrev zeG:List Str:=["self"]
theorem ziP:zaz ["self","tree"] zeG (zae zcG):=fsc
abbrev zcT:Stmt:=zaE (top 24) 4
abbrev zdA:List Str:=["self"]
theorem zhc:zaz ["self","tree","kind"] zdA (zae zcT):=fsc
abbrev zdG:Stmt:=top 25
abbrev zdY:List Str:=["words"]
theorem ziE:zaz ["words","reader","tree"] zdY (zae zdG):=fsc
abbrev zdW:Stmt:=top 38
abbrev zfi:List Str:=["_law_words"]
theorem zhx:zaz ["_law_words","_law_heard","e"] zfi (zae zdW):=fsc
abbrev zdV:Stmt:=top 28
abbrev zeu:List Str:=["_law_found"]
theorem zm5:zaz ["_law_found"] zeu (zae zdV):=fsc
abbrev zcV:Stmt:=top 29
abbrev zcQ:List Str:=["_law_found","_law_due"]
theorem zqv:zaz ["_law_found","_law_due"] zcQ (zae zcV):=fsc
abbrev zdd:Stmt:=top 39
abbrev zgA:List Str:=["_law_cell"]
theorem zdg:zaz ["_law_cell","_law_depth","_law_words","_law_many","_law_tree","_law_k"] zgA (zae zdd):=fsc
abbrev zcH:Stmt:=top 30
abbrev zfr:List Str:=["_law_cell"]
theorem zfd:zaz ["_law_cell","_law_top","_law_bottom","_law_letters","_law_name"] zfr (zae zcH):=fsc
abbrev zdy:Stmt:=top 31
abbrev zff:List Str:=["_law_piece"]
theorem zr7:zaz ["_law_piece"] zff (zae zdy):=fsc
abbrev zdi:Stmt:=top 35
abbrev zeC:List Str:=["_law_piece"]
theorem zp9:zaz ["_law_piece"] zeC (zae zdi):=fsc
abbrev zdF:Stmt:=top 32
abbrev zeF:List Str:=["_law_piece","_law_level"]
theorem zr1:zaz ["_law_piece","_law_level"] zeF (zae zdF):=fsc
abbrev zc8:Stmt:=top 34
abbrev zfT:List Str:=["_law_piece","_law_many"]
theorem zka:zaz ["_law_piece","_law_many"] zfT (zae zc8):=fsc
abbrev zdc:Stmt:=top 33
abbrev zfv:List Str:=["_law_way","_law_one","_law_other"]
theorem zfy:zaz ["_law_way","_law_one","_law_other","_law_level","_law_sign","_law_tree"] zfv (zae zdc):=fsc
abbrev zde:Stmt:=top 36
abbrev zgi:List Str:=["_law_pieces","_law_cell"]
theorem zgd:zaz ["_law_pieces","_law_cell","_law_grown_here"] zgi (zae zde):=fsc
abbrev zdS:Stmt:=top 27
abbrev zf7:List Str:=["_law_script","_law_k"]
theorem zmG:zaz ["_law_script","_law_k"] zf7 (zae zdS):=fsc
abbrev zdK:Stmt:=top 37
abbrev zgE:List Str:=["_law_cell"]
theorem zjH:zaz ["_law_cell","_law_some"] zgE (zae zdK):=fsc
abbrev zca:Stmt:=top 40
abbrev zhB:List Str:=["_law_script"]
theorem zbH:zaz ["_law_script","_law_pieces","_law_cell","_law_piece","_law_other","_law_grown_here","_law_words","_law_handed","_law_at","_law_many","_law_signs","_law_atoms"] zhB (zae zca):=fsc
def vw:Program:={ PySem.Challenge.pw_boxnarrow_k13_trees_of_words with main:={ PySem.Challenge.pw_boxnarrow_k13_trees_of_words.main with body:=[top 1,top 2,top 3,top 5,top 6,top 7,top 9,top 10,top 11,top 12,top 13,top 14,top 15,top 16,top 17,top 18,top 20,top 21,top 22,top 23,top 24,top 25,top 27,top 28,top 29,top 30,top 31,top 32,top 33,top 34,top 35,top 36,top 37,top 38,top 39,top 40] } }
noncomputable def kp:Params→PySem.W.Frag:=λP=>
 (nat_lit 2,(.mk .none none (.dict #[] 0) #[]))::
 (nat_lit 3,(.mk (.type "dict") none (.dict #[(PySem.DictEntry.mk (PySem.PyData.keyHash P "__name__") (.str "__name__" 165) (.str "law_boxnarrow_k13_trees_of_words" 453)),(PySem.DictEntry.mk (PySem.PyData.keyHash P "__doc__") (.str "__doc__" 166) .none),(PySem.DictEntry.mk (PySem.PyData.keyHash P "__package__") (.str "__package__" 167) .none),(PySem.DictEntry.mk (PySem.PyData.keyHash P "__loader__") (.str "__loader__" 168) (.builtin "__main__.__loader__#opaque")),(PySem.DictEntry.mk (PySem.PyData.keyHash P "__spec__") (.str "__spec__" 169) .none),(PySem.DictEntry.mk (PySem.PyData.keyHash P "__annotations__") (.str "__annotations__" 170) (.ref 6)),(PySem.DictEntry.mk (PySem.PyData.keyHash P "__builtins__") (.str "__builtins__" 171) (.ref 4)),(PySem.DictEntry.mk (PySem.PyData.keyHash P "__file__") (.str "__file__" 173) (.str "/claim/cut.py" 172)),(PySem.DictEntry.mk (PySem.PyData.keyHash P "__cached__") (.str "__cached__" 174) .none),(PySem.DictEntry.mk (PySem.PyData.keyHash P "BoxError") (.str "BoxError" 206) (.ref 24)),(PySem.DictEntry.mk (PySem.PyData.keyHash P "NoNumber") (.str "NoNumber" 222) (.ref 37)),(PySem.DictEntry.mk (PySem.PyData.keyHash P "NoRow") (.str "NoRow" 238) (.ref 49)),(PySem.DictEntry.mk (PySem.PyData.keyHash P "is_whole") (.str "is_whole" 247) (.ref 58)),(PySem.DictEntry.mk (PySem.PyData.keyHash P "greatest_divisor") (.str "greatest_divisor" 256) (.ref 65)),(PySem.DictEntry.mk (PySem.PyData.keyHash P "fraction") (.str "fraction" 265) (.ref 72)),(PySem.DictEntry.mk (PySem.PyData.keyHash P "FIGURES") (.str "FIGURES" 269) (.str "0123456789" 268)),(PySem.DictEntry.mk (PySem.PyData.keyHash P "LETTERS") (.str "LETTERS" 271) (.str "abcdefghijklmnopqrstuvwxyz" 270)),(PySem.DictEntry.mk (PySem.PyData.keyHash P "MOST_FIGURES") (.str "MOST_FIGURES" 273) (.int 9 272)),(PySem.DictEntry.mk (PySem.PyData.keyHash P "MOST_LETTERS") (.str "MOST_LETTERS" 275) (.int 8 274)),(PySem.DictEntry.mk (PySem.PyData.keyHash P "KEPT_WORDS") (.str "KEPT_WORDS" 286) (.ref 73)),(PySem.DictEntry.mk (PySem.PyData.keyHash P "made_of") (.str "made_of" 292) (.ref 78)),(PySem.DictEntry.mk (PySem.PyData.keyHash P "figures_of") (.str "figures_of" 301) (.ref 85)),(PySem.DictEntry.mk (PySem.PyData.keyHash P "written") (.str "written" 309) (.ref 92)),(PySem.DictEntry.mk (PySem.PyData.keyHash P "number_of") (.str "number_of" 321) (.ref 99)),(PySem.DictEntry.mk (PySem.PyData.keyHash P "is_name") (.str "is_name" 328) (.ref 106)),(PySem.DictEntry.mk (PySem.PyData.keyHash P "MOST_WORDS") (.str "MOST_WORDS" 332) (.int 120 331)),(PySem.DictEntry.mk (PySem.PyData.keyHash P "MOST_BRACKETS") (.str "MOST_BRACKETS" 334) (.int 16 333)),(PySem.DictEntry.mk (PySem.PyData.keyHash P "SUMS") (.str "SUMS" 341) (.ref 107)),(PySem.DictEntry.mk (PySem.PyData.keyHash P "POWERS") (.str "POWERS" 347) (.ref 108)),(PySem.DictEntry.mk (PySem.PyData.keyHash P "Reader") (.str "Reader" 443) (.ref 181)),(PySem.DictEntry.mk (PySem.PyData.keyHash P "tree_of") (.str "tree_of" 452) (.ref 192)),(PySem.DictEntry.mk (PySem.PyData.keyHash P "_law_cell_at") (.str "_law_cell_at" 462) (.ref 199)),(PySem.DictEntry.mk (PySem.PyData.keyHash P "_law_whole") (.str "_law_whole" 469) (.ref 206)),(PySem.DictEntry.mk (PySem.PyData.keyHash P "_law_alike") (.str "_law_alike" 477) (.ref 213)),(PySem.DictEntry.mk (PySem.PyData.keyHash P "_law_atom") (.str "_law_atom" 483) (.ref 218)),(PySem.DictEntry.mk (PySem.PyData.keyHash P "_law_shut") (.str "_law_shut" 490) (.ref 225)),(PySem.DictEntry.mk (PySem.PyData.keyHash P "_law_at_least") (.str "_law_at_least" 498) (.ref 232)),(PySem.DictEntry.mk (PySem.PyData.keyHash P "_law_joined") (.str "_law_joined" 510) (.ref 239)),(PySem.DictEntry.mk (PySem.PyData.keyHash P "_law_raised") (.str "_law_raised" 518) (.ref 246)),(PySem.DictEntry.mk (PySem.PyData.keyHash P "_law_fits") (.str "_law_fits" 525) (.ref 253)),(PySem.DictEntry.mk (PySem.PyData.keyHash P "_law_grown") (.str "_law_grown" 534) (.ref 260)),(PySem.DictEntry.mk (PySem.PyData.keyHash P "_law_no_atom") (.str "_law_no_atom" 542) (.ref 267)),(PySem.DictEntry.mk (PySem.PyData.keyHash P "_law_refused") (.str "_law_refused" 551) (.ref 274)),(PySem.DictEntry.mk (PySem.PyData.keyHash P "_law_edges") (.str "_law_edges" 563) (.ref 281)),(PySem.DictEntry.mk (PySem.PyData.keyHash P "law") (.str "law" 569) (.ref 286))] 45) #[]))::
 (nat_lit 15,(.mk (.type "tuple") none (.seq #[(.type "ValueError")] 0) #[]))::
 (nat_lit 22,(.mk (.type "tuple") none (.seq #[] 0) #[]))::
 (nat_lit 23,(.mk (.type "dict") none (.dict #[(PySem.DictEntry.mk (PySem.PyData.keyHash P "__module__") (.str "__module__" 196) (.str "boxnarrow.errors" 187)),(PySem.DictEntry.mk (PySem.PyData.keyHash P "__firstlineno__") (.str "__firstlineno__" 200) (.int 2 199)),(PySem.DictEntry.mk (PySem.PyData.keyHash P "__static_attributes__") (.str "__static_attributes__" 201) (.ref 22)),(PySem.DictEntry.mk (PySem.PyData.keyHash P "__weakref__") (.str "__weakref__" 203) (.ref 25)),(PySem.DictEntry.mk (PySem.PyData.keyHash P "__doc__") (.str "__doc__" 204) .none)] 3) #[]))::
 (nat_lit 24,(.mk (.type "type") none (.cls (PySem.ClassData.mk "BoxError" [(.type "ValueError")] [(.ref 24),(.type "ValueError"),(.type "Exception"),(.type "BaseException"),(.type "object")] 23 "BoxError" Bool.true [] [(.ref 37),(.ref 49)] Bool.false none Bool.false)) #[(some (.ref 15)),none,(some (.str "BoxError" 189)),(some (.str "BoxError" 197)),(some (.builtin "ValueError.__new__")),(some (.bool Bool.true))]))::
 (nat_lit 25,(.mk (.type "getset_descriptor") none (.fields #[(.str "__weakref__" 202),(.ref 24),(.builtin "ExceptionGroup.__weakref__"),.none]) #[]))::
 (nat_lit 28,(.mk (.type "tuple") none (.seq #[(.ref 24)] 0) #[]))::
 (nat_lit 35,(.mk (.type "tuple") none (.seq #[] 0) #[]))::
 (nat_lit 36,(.mk (.type "dict") none (.dict #[(PySem.DictEntry.mk (PySem.PyData.keyHash P "__module__") (.str "__module__" 214) (.str "boxnarrow.errors" 187)),(PySem.DictEntry.mk (PySem.PyData.keyHash P "__firstlineno__") (.str "__firstlineno__" 218) (.int 4 217)),(PySem.DictEntry.mk (PySem.PyData.keyHash P "__static_attributes__") (.str "__static_attributes__" 219) (.ref 35)),(PySem.DictEntry.mk (PySem.PyData.keyHash P "__doc__") (.str "__doc__" 220) .none)] 2) #[]))::
 (nat_lit 37,(.mk (.type "type") none (.cls (PySem.ClassData.mk "NoNumber" [(.ref 24)] [(.ref 37),(.ref 24),(.type "ValueError"),(.type "Exception"),(.type "BaseException"),(.type "object")] 36 "NoNumber" Bool.true [] [] Bool.false none Bool.false)) #[(some (.ref 28)),none,(some (.str "NoNumber" 207)),(some (.str "NoNumber" 215)),(some (.builtin "ValueError.__new__")),(some (.bool Bool.true))]))::
 (nat_lit 40,(.mk (.type "tuple") none (.seq #[(.ref 24)] 0) #[]))::
 (nat_lit 47,(.mk (.type "tuple") none (.seq #[] 0) #[]))::
 (nat_lit 48,(.mk (.type "dict") none (.dict #[(PySem.DictEntry.mk (PySem.PyData.keyHash P "__module__") (.str "__module__" 230) (.str "boxnarrow.errors" 187)),(PySem.DictEntry.mk (PySem.PyData.keyHash P "__firstlineno__") (.str "__firstlineno__" 234) (.int 6 233)),(PySem.DictEntry.mk (PySem.PyData.keyHash P "__static_attributes__") (.str "__static_attributes__" 235) (.ref 47)),(PySem.DictEntry.mk (PySem.PyData.keyHash P "__doc__") (.str "__doc__" 236) .none)] 2) #[]))::
 (nat_lit 49,(.mk (.type "type") none (.cls (PySem.ClassData.mk "NoRow" [(.ref 24)] [(.ref 49),(.ref 24),(.type "ValueError"),(.type "Exception"),(.type "BaseException"),(.type "object")] 48 "NoRow" Bool.true [] [] Bool.false none Bool.false)) #[(some (.ref 40)),none,(some (.str "NoRow" 223)),(some (.str "NoRow" 231)),(some (.builtin "ValueError.__new__")),(some (.bool Bool.true))]))::
 (nat_lit 52,(.mk (.type "tuple") none (.seq #[] 0) #[]))::
 (nat_lit 54,(.mk (.type "tuple") none (.seq #[(.str "value" 244)] 0) #[]))::
 (nat_lit 55,(.mk (.type "tuple") none (.seq #[] 0) #[]))::
 (nat_lit 57,(.mk (.type "code") none (.fields #[(.str "is_whole" 241),(.str "is_whole" 242),(.str "/claim/cut.py" 243),(.int 9 0),(.int 1 0),(.int 0 0),(.int 0 0),(.int 3 0),(.ref 52),(.bool Bool.true),(.int 181 0),(.ref 53),.none,(.ref 54),(.ref 55),(.ref 56),(.int 245 0),(.int 9 0),(.str "/claim/cut.py" 246)]) #[]))::
 (nat_lit 58,⟨(.type "function"),none,.func (PySem.W.fnOf "is_whole" "is_whole" (zao (top 5)) (zan (top 5)) (zae (top 5)) .none .none .none (.str "boxnarrow.fractions" 239) none (.ref 57) .none),#[]⟩)::
 (nat_lit 59,(.mk (.type "tuple") none (.seq #[] 0) #[]))::
 (nat_lit 61,(.mk (.type "tuple") none (.seq #[(.str "one" 251),(.str "other" 252),(.str "rest" 253)] 0) #[]))::
 (nat_lit 62,(.mk (.type "tuple") none (.seq #[] 0) #[]))::
 (nat_lit 64,(.mk (.type "code") none (.fields #[(.str "greatest_divisor" 248),(.str "greatest_divisor" 249),(.str "/claim/cut.py" 250),(.int 11 0),(.int 2 0),(.int 0 0),(.int 0 0),(.int 3 0),(.ref 59),(.bool Bool.true),(.int 181 0),(.ref 60),.none,(.ref 61),(.ref 62),(.ref 63),(.int 254 0),(.int 11 0),(.str "/claim/cut.py" 255)]) #[]))::
 (nat_lit 65,⟨(.type "function"),none,.func (PySem.W.fnOf "greatest_divisor" "greatest_divisor" (zao (top 6)) (zan (top 6)) (zae (top 6)) .none .none .none (.str "boxnarrow.fractions" 239) none (.ref 64) .none),#[]⟩)::
 (nat_lit 66,(.mk (.type "tuple") none (.seq #[] 0) #[]))::
 (nat_lit 68,(.mk (.type "tuple") none (.seq #[(.str "top" 260),(.str "bottom" 261),(.str "divisor" 262)] 0) #[]))::
 (nat_lit 69,(.mk (.type "tuple") none (.seq #[] 0) #[]))::
 (nat_lit 71,(.mk (.type "code") none (.fields #[(.str "fraction" 257),(.str "fraction" 258),(.str "/claim/cut.py" 259),(.int 17 0),(.int 2 0),(.int 0 0),(.int 0 0),(.int 3 0),(.ref 66),(.bool Bool.true),(.int 181 0),(.ref 67),.none,(.ref 68),(.ref 69),(.ref 70),(.int 263 0),(.int 17 0),(.str "/claim/cut.py" 264)]) #[]))::
 (nat_lit 72,⟨(.type "function"),none,.func (PySem.W.fnOf "fraction" "fraction" (zao (top 7)) (zan (top 7)) (zae (top 7)) .none .none .none (.str "boxnarrow.fractions" 239) none (.ref 71) .none),#[]⟩)::
 (nat_lit 73,(.mk (.type "tuple") none (.seq #[(.str "let" 276),(.str "in" 277),(.str "grid" 278),(.str "fine" 279),(.str "looks" 280),(.str "solve" 281),(.str "boxes" 282),(.str "point" 283),(.str "right" 284),(.str "islands" 285)] 0) #[]))::
 (nat_lit 74,(.mk (.type "tuple") none (.seq #[] 0) #[]))::
 (nat_lit 77,(.mk (.type "code") none (.fields #[(.str "made_of" 287),(.str "made_of" 288),(.str "/claim/cut.py" 289),(.int 30 0),(.int 3 0),(.int 0 0),(.int 0 0),(.int 3 0),(.ref 74),(.bool Bool.true),(.int 181 0),(.ref 75),.none,.none,.none,(.ref 76),(.int 290 0),(.int 30 0),(.str "/claim/cut.py" 291)]) #[]))::
 (nat_lit 78,⟨(.type "function"),none,.func (PySem.W.fnOf "made_of" "made_of" (zao (top 14)) (zan (top 14)) (zae (top 14)) .none .none .none (.str "boxnarrow.words" 266) none (.ref 77) .none),#[]⟩)::
 (nat_lit 79,(.mk (.type "tuple") none (.seq #[] 0) #[]))::
 (nat_lit 81,(.mk (.type "tuple") none (.seq #[(.str "number" 296),(.str "piece" 297),(.str "texts" 298)] 0) #[]))::
 (nat_lit 82,(.mk (.type "tuple") none (.seq #[] 0) #[]))::
 (nat_lit 84,(.mk (.type "code") none (.fields #[(.str "figures_of" 293),(.str "figures_of" 294),(.str "/claim/cut.py" 295),(.int 32 0),(.int 1 0),(.int 0 0),(.int 0 0),(.int 3 0),(.ref 79),(.bool Bool.true),(.int 181 0),(.ref 80),.none,(.ref 81),(.ref 82),(.ref 83),(.int 299 0),(.int 32 0),(.str "/claim/cut.py" 300)]) #[]))::
 (nat_lit 85,⟨(.type "function"),none,.func (PySem.W.fnOf "figures_of" "figures_of" (zao (top 15)) (zan (top 15)) (zae (top 15)) .none .none .none (.str "boxnarrow.words" 266) none (.ref 84) .none),#[]⟩)::
 (nat_lit 86,(.mk (.type "tuple") none (.seq #[] 0) #[]))::
 (nat_lit 88,(.mk (.type "tuple") none (.seq #[(.str "a" 305),(.str "text" 306)] 0) #[]))::
 (nat_lit 89,(.mk (.type "tuple") none (.seq #[] 0) #[]))::
 (nat_lit 91,(.mk (.type "code") none (.fields #[(.str "written" 302),(.str "written" 303),(.str "/claim/cut.py" 304),(.int 40 0),(.int 1 0),(.int 0 0),(.int 0 0),(.int 3 0),(.ref 86),(.bool Bool.true),(.int 181 0),(.ref 87),.none,(.ref 88),(.ref 89),(.ref 90),(.int 307 0),(.int 40 0),(.str "/claim/cut.py" 308)]) #[]))::
 (nat_lit 92,⟨(.type "function"),none,.func (PySem.W.fnOf "written" "written" (zao (top 16)) (zan (top 16)) (zae (top 16)) .none .none .none (.str "boxnarrow.words" 266) none (.ref 91) .none),#[]⟩)::
 (nat_lit 93,(.mk (.type "tuple") none (.seq #[] 0) #[]))::
 (nat_lit 95,(.mk (.type "tuple") none (.seq #[(.str "word" 313),(.str "parts" 314),(.str "top" 315),(.str "bottom" 316),(.str "figures" 317),(.str "number" 318)] 0) #[]))::
 (nat_lit 96,(.mk (.type "tuple") none (.seq #[] 0) #[]))::
 (nat_lit 98,(.mk (.type "code") none (.fields #[(.str "number_of" 310),(.str "number_of" 311),(.str "/claim/cut.py" 312),(.int 47 0),(.int 1 0),(.int 0 0),(.int 0 0),(.int 3 0),(.ref 93),(.bool Bool.true),(.int 181 0),(.ref 94),.none,(.ref 95),(.ref 96),(.ref 97),(.int 319 0),(.int 47 0),(.str "/claim/cut.py" 320)]) #[]))::
 (nat_lit 99,⟨(.type "function"),none,.func (PySem.W.fnOf "number_of" "number_of" (zao (top 17)) (zan (top 17)) (zae (top 17)) .none .none .none (.str "boxnarrow.words" 266) none (.ref 98) .none),#[]⟩)::
 (nat_lit 100,(.mk (.type "tuple") none (.seq #[] 0) #[]))::
 (nat_lit 102,(.mk (.type "tuple") none (.seq #[(.str "word" 325)] 0) #[]))::
 (nat_lit 103,(.mk (.type "tuple") none (.seq #[] 0) #[]))::
 (nat_lit 105,(.mk (.type "code") none (.fields #[(.str "is_name" 322),(.str "is_name" 323),(.str "/claim/cut.py" 324),(.int 60 0),(.int 1 0),(.int 0 0),(.int 0 0),(.int 3 0),(.ref 100),(.bool Bool.true),(.int 181 0),(.ref 101),.none,(.ref 102),(.ref 103),(.ref 104),(.int 326 0),(.int 60 0),(.str "/claim/cut.py" 327)]) #[]))::
 (nat_lit 106,⟨(.type "function"),none,.func (PySem.W.fnOf "is_name" "is_name" (zao (top 18)) (zan (top 18)) (zae (top 18)) .none .none .none (.str "boxnarrow.words" 266) none (.ref 105) .none),#[]⟩)::
 (nat_lit 107,(.mk (.type "dict") none (.dict #[(PySem.DictEntry.mk (PySem.PyData.keyHash P "+") (.str "+" 335) (.str "plus" 336)),(PySem.DictEntry.mk (PySem.PyData.keyHash P "-") (.str "-" 337) (.str "minus" 338))] 2) #[]))::
 (nat_lit 108,(.mk (.type "tuple") none (.seq #[(.str "2" 342),(.str "3" 343),(.str "4" 344),(.str "5" 345),(.str "6" 346)] 0) #[]))::
 (nat_lit 116,(.mk (.type "tuple") none (.seq #[] 0) #[]))::
 (nat_lit 118,(.mk (.type "tuple") none (.seq #[(.str "self" 363),(.str "words" 364)] 0) #[]))::
 (nat_lit 119,(.mk (.type "tuple") none (.seq #[] 0) #[]))::
 (nat_lit 121,(.mk (.type "code") none (.fields #[(.str "__init__" 360),(.str "Reader.__init__" 361),(.str "/claim/cut.py" 362),(.int 69 0),(.int 2 0),(.int 0 0),(.int 0 0),(.int 3 0),(.ref 116),(.bool Bool.true),(.int 181 0),(.ref 117),.none,(.ref 118),(.ref 119),(.ref 120),(.int 365 0),(.int 69 0),(.str "/claim/cut.py" 366)]) #[]))::
 (nat_lit 122,⟨(.type "function"),none,.func (PySem.W.fnOf "__init__" "Reader.__init__" (zao (zaE (top 24) 0)) (zan (zaE (top 24) 0)) (zae (zaE (top 24) 0)) .none .none .none (.str "boxnarrow.grammar" 329) none (.ref 121) .none),#[]⟩)::
 (nat_lit 123,(.mk (.type "tuple") none (.seq #[] 0) #[]))::
 (nat_lit 125,(.mk (.type "tuple") none (.seq #[(.str "self" 371)] 0) #[]))::
 (nat_lit 126,(.mk (.type "tuple") none (.seq #[] 0) #[]))::
 (nat_lit 128,(.mk (.type "code") none (.fields #[(.str "at_end" 368),(.str "Reader.at_end" 369),(.str "/claim/cut.py" 370),(.int 74 0),(.int 1 0),(.int 0 0),(.int 0 0),(.int 3 0),(.ref 123),(.bool Bool.true),(.int 181 0),(.ref 124),.none,(.ref 125),(.ref 126),(.ref 127),(.int 372 0),(.int 74 0),(.str "/claim/cut.py" 373)]) #[]))::
 (nat_lit 129,⟨(.type "function"),none,.func (PySem.W.fnOf "at_end" "Reader.at_end" (zao (zaE (top 24) 1)) (zan (zaE (top 24) 1)) (zae (zaE (top 24) 1)) .none .none .none (.str "boxnarrow.grammar" 329) none (.ref 128) .none),#[]⟩)::
 (nat_lit 130,(.mk (.type "tuple") none (.seq #[] 0) #[]))::
 (nat_lit 132,(.mk (.type "tuple") none (.seq #[(.str "self" 378),(.str "choices" 379)] 0) #[]))::
 (nat_lit 133,(.mk (.type "tuple") none (.seq #[] 0) #[]))::
 (nat_lit 135,(.mk (.type "code") none (.fields #[(.str "sees" 375),(.str "Reader.sees" 376),(.str "/claim/cut.py" 377),(.int 77 0),(.int 2 0),(.int 0 0),(.int 0 0),(.int 3 0),(.ref 130),(.bool Bool.true),(.int 181 0),(.ref 131),.none,(.ref 132),(.ref 133),(.ref 134),(.int 380 0),(.int 77 0),(.str "/claim/cut.py" 381)]) #[]))::
 (nat_lit 136,⟨(.type "function"),none,.func (PySem.W.fnOf "sees" "Reader.sees" (zao (zaE (top 24) 2)) (zan (zaE (top 24) 2)) (zae (zaE (top 24) 2)) .none .none .none (.str "boxnarrow.grammar" 329) none (.ref 135) .none),#[]⟩)::
 (nat_lit 137,(.mk (.type "tuple") none (.seq #[] 0) #[]))::
 (nat_lit 139,(.mk (.type "tuple") none (.seq #[(.str "self" 386),(.str "word" 387)] 0) #[]))::
 (nat_lit 140,(.mk (.type "tuple") none (.seq #[] 0) #[]))::
 (nat_lit 142,(.mk (.type "code") none (.fields #[(.str "take" 383),(.str "Reader.take" 384),(.str "/claim/cut.py" 385),(.int 80 0),(.int 1 0),(.int 0 0),(.int 0 0),(.int 3 0),(.ref 137),(.bool Bool.true),(.int 181 0),(.ref 138),.none,(.ref 139),(.ref 140),(.ref 141),(.int 388 0),(.int 80 0),(.str "/claim/cut.py" 389)]) #[]))::
 (nat_lit 143,⟨(.type "function"),none,.func (PySem.W.fnOf "take" "Reader.take" (zao (zaE (top 24) 3)) (zan (zaE (top 24) 3)) (zae (zaE (top 24) 3)) .none .none .none (.str "boxnarrow.grammar" 329) none (.ref 142) .none),#[]⟩)::
 (nat_lit 144,(.mk (.type "tuple") none (.seq #[] 0) #[]))::
 (nat_lit 146,(.mk (.type "tuple") none (.seq #[(.str "self" 394),(.str "tree" 395),(.str "kind" 396)] 0) #[]))::
 (nat_lit 147,(.mk (.type "tuple") none (.seq #[] 0) #[]))::
 (nat_lit 149,(.mk (.type "code") none (.fields #[(.str "expression" 391),(.str "Reader.expression" 392),(.str "/claim/cut.py" 393),(.int 87 0),(.int 1 0),(.int 0 0),(.int 0 0),(.int 3 0),(.ref 144),(.bool Bool.true),(.int 181 0),(.ref 145),.none,(.ref 146),(.ref 147),(.ref 148),(.int 397 0),(.int 87 0),(.str "/claim/cut.py" 398)]) #[]))::
 (nat_lit 150,⟨(.type "function"),none,.func (PySem.W.fnOf "expression" "Reader.expression" (zao (zaE (top 24) 4)) (zan (zaE (top 24) 4)) (zae (zaE (top 24) 4)) .none .none .none (.str "boxnarrow.grammar" 329) none (.ref 149) .none),#[]⟩)::
 (nat_lit 151,(.mk (.type "tuple") none (.seq #[] 0) #[]))::
 (nat_lit 153,(.mk (.type "tuple") none (.seq #[(.str "self" 403),(.str "tree" 404)] 0) #[]))::
 (nat_lit 154,(.mk (.type "tuple") none (.seq #[] 0) #[]))::
 (nat_lit 156,(.mk (.type "code") none (.fields #[(.str "term" 400),(.str "Reader.term" 401),(.str "/claim/cut.py" 402),(.int 94 0),(.int 1 0),(.int 0 0),(.int 0 0),(.int 3 0),(.ref 151),(.bool Bool.true),(.int 181 0),(.ref 152),.none,(.ref 153),(.ref 154),(.ref 155),(.int 405 0),(.int 94 0),(.str "/claim/cut.py" 406)]) #[]))::
 (nat_lit 157,⟨(.type "function"),none,.func (PySem.W.fnOf "term" "Reader.term" (zao (zaE (top 24) 5)) (zan (zaE (top 24) 5)) (zae (zaE (top 24) 5)) .none .none .none (.str "boxnarrow.grammar" 329) none (.ref 156) .none),#[]⟩)::
 (nat_lit 158,(.mk (.type "tuple") none (.seq #[] 0) #[]))::
 (nat_lit 160,(.mk (.type "tuple") none (.seq #[(.str "self" 411),(.str "tree" 412)] 0) #[]))::
 (nat_lit 161,(.mk (.type "tuple") none (.seq #[] 0) #[]))::
 (nat_lit 163,(.mk (.type "code") none (.fields #[(.str "factor" 408),(.str "Reader.factor" 409),(.str "/claim/cut.py" 410),(.int 101 0),(.int 1 0),(.int 0 0),(.int 0 0),(.int 3 0),(.ref 158),(.bool Bool.true),(.int 181 0),(.ref 159),.none,(.ref 160),(.ref 161),(.ref 162),(.int 413 0),(.int 101 0),(.str "/claim/cut.py" 414)]) #[]))::
 (nat_lit 164,⟨(.type "function"),none,.func (PySem.W.fnOf "factor" "Reader.factor" (zao (zaE (top 24) 6)) (zan (zaE (top 24) 6)) (zae (zaE (top 24) 6)) .none .none .none (.str "boxnarrow.grammar" 329) none (.ref 163) .none),#[]⟩)::
 (nat_lit 165,(.mk (.type "tuple") none (.seq #[] 0) #[]))::
 (nat_lit 167,(.mk (.type "tuple") none (.seq #[(.str "self" 419),(.str "word" 420),(.str "number" 421)] 0) #[]))::
 (nat_lit 168,(.mk (.type "tuple") none (.seq #[] 0) #[]))::
 (nat_lit 170,(.mk (.type "code") none (.fields #[(.str "atom" 416),(.str "Reader.atom" 417),(.str "/claim/cut.py" 418),(.int 110 0),(.int 1 0),(.int 0 0),(.int 0 0),(.int 3 0),(.ref 165),(.bool Bool.true),(.int 181 0),(.ref 166),.none,(.ref 167),(.ref 168),(.ref 169),(.int 422 0),(.int 110 0),(.str "/claim/cut.py" 423)]) #[]))::
 (nat_lit 171,⟨(.type "function"),none,.func (PySem.W.fnOf "atom" "Reader.atom" (zao (zaE (top 24) 7)) (zan (zaE (top 24) 7)) (zae (zaE (top 24) 7)) .none .none .none (.str "boxnarrow.grammar" 329) none (.ref 170) .none),#[]⟩)::
 (nat_lit 172,(.mk (.type "tuple") none (.seq #[] 0) #[]))::
 (nat_lit 174,(.mk (.type "tuple") none (.seq #[(.str "self" 428),(.str "tree" 429)] 0) #[]))::
 (nat_lit 175,(.mk (.type "tuple") none (.seq #[] 0) #[]))::
 (nat_lit 177,(.mk (.type "code") none (.fields #[(.str "bracket" 425),(.str "Reader.bracket" 426),(.str "/claim/cut.py" 427),(.int 119 0),(.int 1 0),(.int 0 0),(.int 0 0),(.int 3 0),(.ref 172),(.bool Bool.true),(.int 181 0),(.ref 173),.none,(.ref 174),(.ref 175),(.ref 176),(.int 430 0),(.int 119 0),(.str "/claim/cut.py" 431)]) #[]))::
 (nat_lit 178,⟨(.type "function"),none,.func (PySem.W.fnOf "bracket" "Reader.bracket" (zao (zaE (top 24) 8)) (zan (zaE (top 24) 8)) (zae (zaE (top 24) 8)) .none .none .none (.str "boxnarrow.grammar" 329) none (.ref 177) .none),#[]⟩)::
 (nat_lit 179,(.mk (.type "tuple") none (.seq #[(.str "depth" 433),(.str "place" 434),(.str "words" 435)] 0) #[]))::
 (nat_lit 180,(.mk (.type "dict") none (.dict #[(PySem.DictEntry.mk (PySem.PyData.keyHash P "__module__") (.str "__module__" 355) (.str "boxnarrow.grammar" 329)),(PySem.DictEntry.mk (PySem.PyData.keyHash P "__firstlineno__") (.str "__firstlineno__" 359) (.int 67 358)),(PySem.DictEntry.mk (PySem.PyData.keyHash P "__init__") (.str "__init__" 367) (.ref 122)),(PySem.DictEntry.mk (PySem.PyData.keyHash P "at_end") (.str "at_end" 374) (.ref 129)),(PySem.DictEntry.mk (PySem.PyData.keyHash P "sees") (.str "sees" 382) (.ref 136)),(PySem.DictEntry.mk (PySem.PyData.keyHash P "take") (.str "take" 390) (.ref 143)),(PySem.DictEntry.mk (PySem.PyData.keyHash P "expression") (.str "expression" 399) (.ref 150)),(PySem.DictEntry.mk (PySem.PyData.keyHash P "term") (.str "term" 407) (.ref 157)),(PySem.DictEntry.mk (PySem.PyData.keyHash P "factor") (.str "factor" 415) (.ref 164)),(PySem.DictEntry.mk (PySem.PyData.keyHash P "atom") (.str "atom" 424) (.ref 171)),(PySem.DictEntry.mk (PySem.PyData.keyHash P "bracket") (.str "bracket" 432) (.ref 178)),(PySem.DictEntry.mk (PySem.PyData.keyHash P "__static_attributes__") (.str "__static_attributes__" 436) (.ref 179)),(PySem.DictEntry.mk (PySem.PyData.keyHash P "__dict__") (.str "__dict__" 438) (.ref 182)),(PySem.DictEntry.mk (PySem.PyData.keyHash P "__weakref__") (.str "__weakref__" 440) (.ref 183)),(PySem.DictEntry.mk (PySem.PyData.keyHash P "__doc__") (.str "__doc__" 441) .none)] 4) #[]))::
 (nat_lit 181,(.mk (.type "type") none (.cls (PySem.ClassData.mk "Reader" [(.type "object")] [(.ref 181),(.type "object")] 180 "Reader" Bool.true [] [] Bool.false none Bool.false)) #[none,none,(some (.str "Reader" 348)),(some (.str "Reader" 356)),(some (.builtin "object.__new__")),(some (.bool Bool.true))]))::
 (nat_lit 182,(.mk (.type "getset_descriptor") none (.fields #[(.str "__dict__" 437),(.ref 181),(.builtin "function.__dict__"),(.builtin "function.__dict__#set")]) #[]))::
 (nat_lit 183,(.mk (.type "getset_descriptor") none (.fields #[(.str "__weakref__" 439),(.ref 181),(.builtin "ExceptionGroup.__weakref__"),.none]) #[]))::
 (nat_lit 186,(.mk (.type "tuple") none (.seq #[] 0) #[]))::
 (nat_lit 188,(.mk (.type "tuple") none (.seq #[(.str "words" 447),(.str "reader" 448),(.str "tree" 449)] 0) #[]))::
 (nat_lit 189,(.mk (.type "tuple") none (.seq #[] 0) #[]))::
 (nat_lit 191,(.mk (.type "code") none (.fields #[(.str "tree_of" 444),(.str "tree_of" 445),(.str "/claim/cut.py" 446),(.int 128 0),(.int 1 0),(.int 0 0),(.int 0 0),(.int 3 0),(.ref 186),(.bool Bool.true),(.int 181 0),(.ref 187),.none,(.ref 188),(.ref 189),(.ref 190),(.int 450 0),(.int 128 0),(.str "/claim/cut.py" 451)]) #[]))::
 (nat_lit 192,⟨(.type "function"),none,.func (PySem.W.fnOf "tree_of" "tree_of" (zao (top 25)) (zan (top 25)) (zae (top 25)) .none .none .none (.str "boxnarrow.grammar" 329) none (.ref 191) .none),#[]⟩)::
 (nat_lit 193,(.mk (.type "tuple") none (.seq #[] 0) #[]))::
 (nat_lit 195,(.mk (.type "tuple") none (.seq #[(.str "_law_script" 458),(.str "_law_k" 459)] 0) #[]))::
 (nat_lit 196,(.mk (.type "tuple") none (.seq #[] 0) #[]))::
 (nat_lit 198,(.mk (.type "code") none (.fields #[(.str "_law_cell_at" 455),(.str "_law_cell_at" 456),(.str "/claim/cut.py" 457),(.int 137 0),(.int 2 0),(.int 0 0),(.int 0 0),(.int 3 0),(.ref 193),(.bool Bool.true),(.int 181 0),(.ref 194),.none,(.ref 195),(.ref 196),(.ref 197),(.int 460 0),(.int 137 0),(.str "/claim/cut.py" 461)]) #[]))::
 (nat_lit 199,⟨(.type "function"),none,.func (PySem.W.fnOf "_law_cell_at" "_law_cell_at" (zao (top 27)) (zan (top 27)) (zae (top 27)) .none .none .none (.str "law_boxnarrow_k13_trees_of_words" 453) none (.ref 198) .none),#[]⟩)::
 (nat_lit 200,(.mk (.type "tuple") none (.seq #[] 0) #[]))::
 (nat_lit 202,(.mk (.type "tuple") none (.seq #[(.str "_law_found" 466)] 0) #[]))::
 (nat_lit 203,(.mk (.type "tuple") none (.seq #[] 0) #[]))::
 (nat_lit 205,(.mk (.type "code") none (.fields #[(.str "_law_whole" 463),(.str "_law_whole" 464),(.str "/claim/cut.py" 465),(.int 141 0),(.int 1 0),(.int 0 0),(.int 0 0),(.int 3 0),(.ref 200),(.bool Bool.true),(.int 181 0),(.ref 201),.none,(.ref 202),(.ref 203),(.ref 204),(.int 467 0),(.int 141 0),(.str "/claim/cut.py" 468)]) #[]))::
 (nat_lit 206,⟨(.type "function"),none,.func (PySem.W.fnOf "_law_whole" "_law_whole" (zao (top 28)) (zan (top 28)) (zae (top 28)) .none .none .none (.str "law_boxnarrow_k13_trees_of_words" 453) none (.ref 205) .none),#[]⟩)::
 (nat_lit 207,(.mk (.type "tuple") none (.seq #[] 0) #[]))::
 (nat_lit 209,(.mk (.type "tuple") none (.seq #[(.str "_law_found" 473),(.str "_law_due" 474)] 0) #[]))::
 (nat_lit 210,(.mk (.type "tuple") none (.seq #[] 0) #[]))::
 (nat_lit 212,(.mk (.type "code") none (.fields #[(.str "_law_alike" 470),(.str "_law_alike" 471),(.str "/claim/cut.py" 472),(.int 143 0),(.int 2 0),(.int 0 0),(.int 0 0),(.int 3 0),(.ref 207),(.bool Bool.true),(.int 181 0),(.ref 208),.none,(.ref 209),(.ref 210),(.ref 211),(.int 475 0),(.int 143 0),(.str "/claim/cut.py" 476)]) #[]))::
 (nat_lit 213,⟨(.type "function"),none,.func (PySem.W.fnOf "_law_alike" "_law_alike" (zao (top 29)) (zan (top 29)) (zae (top 29)) .none .none .none (.str "law_boxnarrow_k13_trees_of_words" 453) none (.ref 212) .none),#[]⟩)::
 (nat_lit 214,(.mk (.type "tuple") none (.seq #[] 0) #[]))::
 (nat_lit 217,(.mk (.type "code") none (.fields #[(.str "_law_atom" 478),(.str "_law_atom" 479),(.str "/claim/cut.py" 480),(.int 153 0),(.int 1 0),(.int 0 0),(.int 0 0),(.int 3 0),(.ref 214),(.bool Bool.true),(.int 181 0),(.ref 215),.none,.none,.none,(.ref 216),(.int 481 0),(.int 153 0),(.str "/claim/cut.py" 482)]) #[]))::
 (nat_lit 218,⟨(.type "function"),none,.func (PySem.W.fnOf "_law_atom" "_law_atom" (zao (top 30)) (zan (top 30)) (zae (top 30)) .none .none .none (.str "law_boxnarrow_k13_trees_of_words" 453) none (.ref 217) .none),#[]⟩)::
 (nat_lit 219,(.mk (.type "tuple") none (.seq #[] 0) #[]))::
 (nat_lit 221,(.mk (.type "tuple") none (.seq #[(.str "_law_piece" 487)] 0) #[]))::
 (nat_lit 222,(.mk (.type "tuple") none (.seq #[] 0) #[]))::
 (nat_lit 224,(.mk (.type "code") none (.fields #[(.str "_law_shut" 484),(.str "_law_shut" 485),(.str "/claim/cut.py" 486),(.int 164 0),(.int 1 0),(.int 0 0),(.int 0 0),(.int 3 0),(.ref 219),(.bool Bool.true),(.int 181 0),(.ref 220),.none,(.ref 221),(.ref 222),(.ref 223),(.int 488 0),(.int 164 0),(.str "/claim/cut.py" 489)]) #[]))::
 (nat_lit 225,⟨(.type "function"),none,.func (PySem.W.fnOf "_law_shut" "_law_shut" (zao (top 31)) (zan (top 31)) (zae (top 31)) .none .none .none (.str "law_boxnarrow_k13_trees_of_words" 453) none (.ref 224) .none),#[]⟩)::
 (nat_lit 226,(.mk (.type "tuple") none (.seq #[] 0) #[]))::
 (nat_lit 228,(.mk (.type "tuple") none (.seq #[(.str "_law_piece" 494),(.str "_law_level" 495)] 0) #[]))::
 (nat_lit 229,(.mk (.type "tuple") none (.seq #[] 0) #[]))::
 (nat_lit 231,(.mk (.type "code") none (.fields #[(.str "_law_at_least" 491),(.str "_law_at_least" 492),(.str "/claim/cut.py" 493),(.int 166 0),(.int 2 0),(.int 0 0),(.int 0 0),(.int 3 0),(.ref 226),(.bool Bool.true),(.int 181 0),(.ref 227),.none,(.ref 228),(.ref 229),(.ref 230),(.int 496 0),(.int 166 0),(.str "/claim/cut.py" 497)]) #[]))::
 (nat_lit 232,⟨(.type "function"),none,.func (PySem.W.fnOf "_law_at_least" "_law_at_least" (zao (top 32)) (zan (top 32)) (zae (top 32)) .none .none .none (.str "law_boxnarrow_k13_trees_of_words" 453) none (.ref 231) .none),#[]⟩)::
 (nat_lit 233,(.mk (.type "tuple") none (.seq #[] 0) #[]))::
 (nat_lit 235,(.mk (.type "tuple") none (.seq #[(.str "_law_way" 502),(.str "_law_one" 503),(.str "_law_other" 504),(.str "_law_level" 505),(.str "_law_sign" 506),(.str "_law_tree" 507)] 0) #[]))::
 (nat_lit 236,(.mk (.type "tuple") none (.seq #[] 0) #[]))::
 (nat_lit 238,(.mk (.type "code") none (.fields #[(.str "_law_joined" 499),(.str "_law_joined" 500),(.str "/claim/cut.py" 501),(.int 170 0),(.int 3 0),(.int 0 0),(.int 0 0),(.int 3 0),(.ref 233),(.bool Bool.true),(.int 181 0),(.ref 234),.none,(.ref 235),(.ref 236),(.ref 237),(.int 508 0),(.int 170 0),(.str "/claim/cut.py" 509)]) #[]))::
 (nat_lit 239,⟨(.type "function"),none,.func (PySem.W.fnOf "_law_joined" "_law_joined" (zao (top 33)) (zan (top 33)) (zae (top 33)) .none .none .none (.str "law_boxnarrow_k13_trees_of_words" 453) none (.ref 238) .none),#[]⟩)::
 (nat_lit 240,(.mk (.type "tuple") none (.seq #[] 0) #[]))::
 (nat_lit 242,(.mk (.type "tuple") none (.seq #[(.str "_law_piece" 514),(.str "_law_many" 515)] 0) #[]))::
 (nat_lit 243,(.mk (.type "tuple") none (.seq #[] 0) #[]))::
 (nat_lit 245,(.mk (.type "code") none (.fields #[(.str "_law_raised" 511),(.str "_law_raised" 512),(.str "/claim/cut.py" 513),(.int 177 0),(.int 2 0),(.int 0 0),(.int 0 0),(.int 3 0),(.ref 240),(.bool Bool.true),(.int 181 0),(.ref 241),.none,(.ref 242),(.ref 243),(.ref 244),(.int 516 0),(.int 177 0),(.str "/claim/cut.py" 517)]) #[]))::
 (nat_lit 246,⟨(.type "function"),none,.func (PySem.W.fnOf "_law_raised" "_law_raised" (zao (top 34)) (zan (top 34)) (zae (top 34)) .none .none .none (.str "law_boxnarrow_k13_trees_of_words" 453) none (.ref 245) .none),#[]⟩)::
 (nat_lit 247,(.mk (.type "tuple") none (.seq #[] 0) #[]))::
 (nat_lit 249,(.mk (.type "tuple") none (.seq #[(.str "_law_piece" 522)] 0) #[]))::
 (nat_lit 250,(.mk (.type "tuple") none (.seq #[] 0) #[]))::
 (nat_lit 252,(.mk (.type "code") none (.fields #[(.str "_law_fits" 519),(.str "_law_fits" 520),(.str "/claim/cut.py" 521),(.int 180 0),(.int 1 0),(.int 0 0),(.int 0 0),(.int 3 0),(.ref 247),(.bool Bool.true),(.int 181 0),(.ref 248),.none,(.ref 249),(.ref 250),(.ref 251),(.int 523 0),(.int 180 0),(.str "/claim/cut.py" 524)]) #[]))::
 (nat_lit 253,⟨(.type "function"),none,.func (PySem.W.fnOf "_law_fits" "_law_fits" (zao (top 35)) (zan (top 35)) (zae (top 35)) .none .none .none (.str "law_boxnarrow_k13_trees_of_words" 453) none (.ref 252) .none),#[]⟩)::
 (nat_lit 254,(.mk (.type "tuple") none (.seq #[] 0) #[]))::
 (nat_lit 256,(.mk (.type "tuple") none (.seq #[(.str "_law_pieces" 529),(.str "_law_cell" 530),(.str "_law_grown_here" 531)] 0) #[]))::
 (nat_lit 257,(.mk (.type "tuple") none (.seq #[] 0) #[]))::
 (nat_lit 259,(.mk (.type "code") none (.fields #[(.str "_law_grown" 526),(.str "_law_grown" 527),(.str "/claim/cut.py" 528),(.int 182 0),(.int 2 0),(.int 0 0),(.int 0 0),(.int 3 0),(.ref 254),(.bool Bool.true),(.int 181 0),(.ref 255),.none,(.ref 256),(.ref 257),(.ref 258),(.int 532 0),(.int 182 0),(.str "/claim/cut.py" 533)]) #[]))::
 (nat_lit 260,⟨(.type "function"),none,.func (PySem.W.fnOf "_law_grown" "_law_grown" (zao (top 36)) (zan (top 36)) (zae (top 36)) .none .none .none (.str "law_boxnarrow_k13_trees_of_words" 453) none (.ref 259) .none),#[]⟩)::
 (nat_lit 261,(.mk (.type "tuple") none (.seq #[] 0) #[]))::
 (nat_lit 263,(.mk (.type "tuple") none (.seq #[(.str "_law_cell" 538),(.str "_law_some" 539)] 0) #[]))::
 (nat_lit 264,(.mk (.type "tuple") none (.seq #[] 0) #[]))::
 (nat_lit 266,(.mk (.type "code") none (.fields #[(.str "_law_no_atom" 535),(.str "_law_no_atom" 536),(.str "/claim/cut.py" 537),(.int 197 0),(.int 1 0),(.int 0 0),(.int 0 0),(.int 3 0),(.ref 261),(.bool Bool.true),(.int 181 0),(.ref 262),.none,(.ref 263),(.ref 264),(.ref 265),(.int 540 0),(.int 197 0),(.str "/claim/cut.py" 541)]) #[]))::
 (nat_lit 267,⟨(.type "function"),none,.func (PySem.W.fnOf "_law_no_atom" "_law_no_atom" (zao (top 37)) (zan (top 37)) (zae (top 37)) .none .none .none (.str "law_boxnarrow_k13_trees_of_words" 453) none (.ref 266) .none),#[]⟩)::
 (nat_lit 268,(.mk (.type "tuple") none (.seq #[] 0) #[]))::
 (nat_lit 270,(.mk (.type "tuple") none (.seq #[(.str "_law_words" 546),(.str "_law_heard" 547),(.str "e" 548)] 0) #[]))::
 (nat_lit 271,(.mk (.type "tuple") none (.seq #[] 0) #[]))::
 (nat_lit 273,(.mk (.type "code") none (.fields #[(.str "_law_refused" 543),(.str "_law_refused" 544),(.str "/claim/cut.py" 545),(.int 201 0),(.int 1 0),(.int 0 0),(.int 0 0),(.int 3 0),(.ref 268),(.bool Bool.true),(.int 181 0),(.ref 269),.none,(.ref 270),(.ref 271),(.ref 272),(.int 549 0),(.int 201 0),(.str "/claim/cut.py" 550)]) #[]))::
 (nat_lit 274,⟨(.type "function"),none,.func (PySem.W.fnOf "_law_refused" "_law_refused" (zao (top 38)) (zan (top 38)) (zae (top 38)) .none .none .none (.str "law_boxnarrow_k13_trees_of_words" 453) none (.ref 273) .none),#[]⟩)::
 (nat_lit 275,(.mk (.type "tuple") none (.seq #[] 0) #[]))::
 (nat_lit 277,(.mk (.type "tuple") none (.seq #[(.str "_law_cell" 555),(.str "_law_depth" 556),(.str "_law_words" 557),(.str "_law_many" 558),(.str "_law_tree" 559),(.str "_law_k" 560)] 0) #[]))::
 (nat_lit 278,(.mk (.type "tuple") none (.seq #[] 0) #[]))::
 (nat_lit 280,(.mk (.type "code") none (.fields #[(.str "_law_edges" 552),(.str "_law_edges" 553),(.str "/claim/cut.py" 554),(.int 208 0),(.int 1 0),(.int 0 0),(.int 0 0),(.int 3 0),(.ref 275),(.bool Bool.true),(.int 181 0),(.ref 276),.none,(.ref 277),(.ref 278),(.ref 279),(.int 561 0),(.int 208 0),(.str "/claim/cut.py" 562)]) #[]))::
 (nat_lit 281,⟨(.type "function"),none,.func (PySem.W.fnOf "_law_edges" "_law_edges" (zao (top 39)) (zan (top 39)) (zae (top 39)) .none .none .none (.str "law_boxnarrow_k13_trees_of_words" 453) none (.ref 280) .none),#[]⟩)::
 (nat_lit 282,(.mk (.type "tuple") none (.seq #[] 0) #[]))::
 (nat_lit 285,(.mk (.type "code") none (.fields #[(.str "law" 564),(.str "law" 565),(.str "/claim/cut.py" 566),(.int 224 0),(.int 1 0),(.int 0 0),(.int 0 0),(.int 3 0),(.ref 282),(.bool Bool.true),(.int 181 0),(.ref 283),.none,.none,.none,(.ref 284),(.int 567 0),(.int 224 0),(.str "/claim/cut.py" 568)]) #[]))::
 (nat_lit 286,⟨(.type "function"),none,.func (PySem.W.fnOf "law" "law" (zao (top 40)) (zan (top 40)) (zae (top 40)) .none .none .none (.str "law_boxnarrow_k13_trees_of_words" 453) none (.ref 285) .none),#[]⟩)::[]
def ks:List Addr:=nat_lit 2::nat_lit 3::nat_lit 15::nat_lit 22::nat_lit 23::nat_lit 24::nat_lit 25::nat_lit 28::nat_lit 35::nat_lit 36::nat_lit 37::nat_lit 40::nat_lit 47::nat_lit 48::nat_lit 49::nat_lit 52::nat_lit 54::nat_lit 55::nat_lit 57::nat_lit 58::nat_lit 59::nat_lit 61::nat_lit 62::nat_lit 64::nat_lit 65::nat_lit 66::nat_lit 68::nat_lit 69::nat_lit 71::nat_lit 72::nat_lit 73::nat_lit 74::nat_lit 77::nat_lit 78::nat_lit 79::nat_lit 81::nat_lit 82::nat_lit 84::nat_lit 85::nat_lit 86::nat_lit 88::nat_lit 89::nat_lit 91::nat_lit 92::nat_lit 93::nat_lit 95::nat_lit 96::nat_lit 98::nat_lit 99::nat_lit 100::nat_lit 102::nat_lit 103::nat_lit 105::nat_lit 106::nat_lit 107::nat_lit 108::nat_lit 116::nat_lit 118::nat_lit 119::nat_lit 121::nat_lit 122::nat_lit 123::nat_lit 125::nat_lit 126::nat_lit 128::nat_lit 129::nat_lit 130::nat_lit 132::nat_lit 133::nat_lit 135::nat_lit 136::nat_lit 137::nat_lit 139::nat_lit 140::nat_lit 142::nat_lit 143::nat_lit 144::nat_lit 146::nat_lit 147::nat_lit 149::nat_lit 150::nat_lit 151::nat_lit 153::nat_lit 154::nat_lit 156::nat_lit 157::nat_lit 158::nat_lit 160::nat_lit 161::nat_lit 163::nat_lit 164::nat_lit 165::nat_lit 167::nat_lit 168::nat_lit 170::nat_lit 171::nat_lit 172::nat_lit 174::nat_lit 175::nat_lit 177::nat_lit 178::nat_lit 179::nat_lit 180::nat_lit 181::nat_lit 182::nat_lit 183::nat_lit 186::nat_lit 188::nat_lit 189::nat_lit 191::nat_lit 192::nat_lit 193::nat_lit 195::nat_lit 196::nat_lit 198::nat_lit 199::nat_lit 200::nat_lit 202::nat_lit 203::nat_lit 205::nat_lit 206::nat_lit 207::nat_lit 209::nat_lit 210::nat_lit 212::nat_lit 213::nat_lit 214::nat_lit 217::nat_lit 218::nat_lit 219::nat_lit 221::nat_lit 222::nat_lit 224::nat_lit 225::nat_lit 226::nat_lit 228::nat_lit 229::nat_lit 231::nat_lit 232::nat_lit 233::nat_lit 235::nat_lit 236::nat_lit 238::nat_lit 239::nat_lit 240::nat_lit 242::nat_lit 243::nat_lit 245::nat_lit 246::nat_lit 247::nat_lit 249::nat_lit 250::nat_lit 252::nat_lit 253::nat_lit 254::nat_lit 256::nat_lit 257::nat_lit 259::nat_lit 260::nat_lit 261::nat_lit 263::nat_lit 264::nat_lit 266::nat_lit 267::nat_lit 268::nat_lit 270::nat_lit 271::nat_lit 273::nat_lit 274::nat_lit 275::nat_lit 277::nat_lit 278::nat_lit 280::nat_lit 281::nat_lit 282::nat_lit 285::nat_lit 286::[]
theorem zfp (P:Params):ks=(kp P).map (·.1):=by kernel_rfl
noncomputable abbrev hk:PySem.W.Hook:=PySem.W.kHook kp ks zfp
abbrev xt (s:Shared):Bool:=PySem.W.xlAt vw [] s&&PySem.W.recOk (PySem.W.RowW.records (PySem.W.OpenRow.toRowW (PySem.W.OpenLaw.row PySem.Challenge.rw_boxnarrow_k13_trees_of_words))) s
theorem zjb:PySem.W.opening PySem.Challenge.pw_boxnarrow_k13_trees_of_words=PySem.W.plainProg PySem.Challenge.pw_boxnarrow_k13_trees_of_words.main.scope.names:=by kernel_rfl
theorem fe_eq (s:Shared):PySem.fenceModules? PySem.Challenge.pw_boxnarrow_k13_trees_of_words s=some s:=by kernel_rfl
theorem si_eq (w:World):((PySem.W.boot_heap w.params).isNs mainGlobals&&(Array.mk []:Array GenState).size==0,(PySem.W.boot_heap w.params).objs.size,(PySem.W.boot_heap w.params).nsMap mainGlobals "__annotations__")=(true,11,some (.ref 6)):=by kernel_rfl
theorem run_b (b:Bool)(w:World):(λos=>(L3.goT PySem.treeTable PySem.Challenge.pw_boxnarrow_k13_trees_of_words (w.withFollow "special-get-raises" b) 11 (some (.ref 6)) 4042 (L3.zi2 (w.withFollow "special-get-raises" b) os) (PySem.W.topStub PySem.Challenge.pw_boxnarrow_k13_trees_of_words)).map λs=>L3.ziU PySem.Challenge.pw_boxnarrow_k13_trees_of_words vw [PySem.Str.ofString "SUMS"] xt (λs=>ks.map (L3.zgG s)) true (w.withFollow "special-get-raises" b) s)=λ_=>some (true,PySem.W.openGood vw [PySem.Str.ofString "SUMS"],hk.val (w.withFollow "special-get-raises" b)):=by cases b <;> kernel_rfl
theorem zqt (w:World):(λos=>(L3.goT PySem.treeTable PySem.Challenge.pw_boxnarrow_k13_trees_of_words w 11 (some (.ref 6)) 4042 (L3.zi2 w os) (PySem.W.topStub PySem.Challenge.pw_boxnarrow_k13_trees_of_words)).map λs=>L3.ziU PySem.Challenge.pw_boxnarrow_k13_trees_of_words vw [PySem.Str.ofString "SUMS"] xt (λs=>ks.map (L3.zgG s)) true w s)=λ_=>some (true,PySem.W.openGood vw [PySem.Str.ofString "SUMS"],hk.val w):=by
 have z:=run_b (w.params.followText "special-get-raises") w
 rwa [PySem.World.withFollow_self] at z
theorem left:PySem.W.LeftO PySem.Challenge.pw_boxnarrow_k13_trees_of_words vw [PySem.Str.ofString "SUMS"] xt hk.obs hk.val 4042:=L3.zoE (L3.zm3 ks) zjb (by decide) fe_eq si_eq zqt
theorem zcW {C:Addr}{f:Str}{to:TDE}{dl:Ev}{S S1:Sto}{Q:DK}{n:Nat}{fs:List (Str×D)}{v:D}(hto:∀K:DK,K (.ref n) S1→to dl S K)(h:S1[n]?=some (.ins C fs))(hf:fs.lookup f=some v)(hq:Q v S1):zgU C f to dl S Q:=by
 unfold zgU
 refine hto _ ?_
 simp only[zb5,h,if_pos,hf]
 exact hq
theorem zjd {C:Addr}{f:Str}{to te:TDE}{dl:Ev}{S S1 S2:Sto}{E:zbL}{n:Nat}{fs:List (Str×D)}{v:D}(hte:∀K:DK,K v S1→te dl S K)(hto:∀K:DK,K (.ref n) S2→to dl S1 K)(h:S2[n]?=some (.ins C fs))(hl:fs.length<1000)(hq:E.nx dl (S2.set n (.ins C (zbS f v fs)))):zhp C f to te E dl S:=by
 unfold zhp
 refine hte _ (hto _ ?_)
 simp only[zb5,h,if_pos]
 exact⟨hl,hq⟩
theorem za0 {C:Addr}{m:Str}{ex:Ev→Addr→Sto→Prop}{sd:Sd}{to:TDE}{t:TDA}{dl:Ev}{S S1:Sto}{Q:DK}{n:Nat}{fs:List (Str×D)}(hto:∀K:DK,K (.ref n) S1→to dl S K)(h:S1[n]?=some (.ins C fs))(hf:fs.lookup m=none)(hq:t dl S1 λds S2=>sd (.ref n::ds) S2 Q (ex dl)):zeZ C m ex sd to t dl S Q:=by
 unfold zeZ
 refine hto _ ?_
 simp only[zb5,h,if_pos]
 exact⟨hf,hq⟩
theorem zm4 {c:Addr}{y:Bool}{te:TDE}{dl:Ev}{S:Sto}{Q:DK}(ht:∀K:DK,K (.exc c) S→te dl S K)(hq:Q (.bl y) S):zgF (zgf c y) te dl S Q:=by
 unfold zgF
 refine ht _ ?_
 simp only[zgf,if_pos]
 exact hq
theorem zdn {n:Nat}{S:Sto}{Q:DK}{xs:List D}(h:S[n]?=some (.lst xs))(hq:Q (.int (xs.length:Nat)) S):irr zgw [.ref n] S Q:=by
 rw[ze4]
 unfold zgw
 simp only[zce h rfl]
 exact hq
theorem zai {S:Sto}{n:Nat}{o:Ob}{T:Sto}(h:S[n]?=some o):(S++T)[n]?=some o:=by
 have hk:=(Vac.mp h).1
 rw[Van hk]
 exact h
def zki (S T:Sto):Prop:=∀(x:Nat) (o:Ob),S[x]?=some o→T[x]?=some o
theorem zki.app (S T:Sto):zki S (S++T):=λ_ _ h=>zai h
theorem zkp {S:Sto}{n:Nat}{o:Ob}(h:S[n]?=some o):n<S.length:=(Vac.mp h).1
theorem zpf {xs:List Int}{lo hi:Option Int}{k:Nat}{x:D}(h:(zaX (xs.map D.int) lo hi)[k]?=some x):∃c:Int,x=.int c:=by
 have m:=Vax h
 unfold L3.zaX at m
 obtain⟨c,_,rfl⟩:=List.mem_map.mp (List.mem_of_mem_drop (List.mem_of_mem_take m))
 exact⟨c,rfl⟩
theorem zkD {i n:Nat}{tb:TDS}{E:zbL}{dl:Ev}{S:Sto}{o:Ob}(W:Nat→Ev→Sto→Prop)(h0:W 0 dl S)(hk:∀k dl' S',W k dl' S'→S'[n]?=some o)
  (ht:∀(k:Nat) (x:D) (dl':Ev) (S':Sto) (nx ct:Ev→Sto→Prop),(zay o)[k]?=some x→W k dl' S'→(∀dl2 S2,W (k+1) dl2 S2→nx dl2 S2)→tb { nx:=nx,rt:=E.rt,bk:=E.nx,ct:=ct } (dl'.set i (some x)) S')(he:∀dl' S',W (zay o).length dl' S'→E.nx dl' S')(hL:zbZ o=some o:=by rfl):
  (lAt S n).isSome=true∧∃W:Nat→Nat→Ev→Sto→Prop,(∃m,W 0 m dl S)∧∀k m dl S,W k m dl S→match lAt S n with
  | some o=>match (zay o)[k]? with
   | some x=>tb { nx:=λdl' S'=>∃m',m'<m∧W (k+1) m' dl' S',rt:=E.rt,bk:=E.nx,ct:=λdl' S'=>∃m',m'<m∧W (k+1) m' dl' S' } (dl.set i (some x)) S
   | none=>E.nx dl S
  | none=>False:=by
 refine⟨by rw[zce (hk _ _ _ h0) hL]; rfl,λk m dl' S'=>m+k=(zay o).length∧W k dl' S',⟨(zay o).length,by omega,h0⟩,?_⟩
 rintro k m dl' S' ⟨hm,w⟩
 rw[zce (hk _ _ _ w) hL]
 show (match (zay o)[k]? with
   | some x=>tb { nx:=λdl' S''=>∃m',m'<m∧(m'+(k+1)=(zay o).length∧W (k+1) dl' S''),rt:=E.rt,bk:=E.nx,ct:=λdl' S''=>∃m',m'<m∧(m'+(k+1)=(zay o).length∧W (k+1) dl' S'') } (dl'.set i (some x)) S'
   | none=>E.nx dl' S')
 split
 ·rename_i x hx
  have hk:k<(zay o).length:=(Vac.mp hx).1
  exact ht k x dl' S' _ _ hx w λdl2 S2 w2=>⟨m-1,by omega,by omega,w2⟩
 ·rename_i hx
  have hk:k=(zay o).length:=by
   have:=List.getElem?_eq_none_iff.mp hx
   omega
  exact he dl' S' (hk ▸ w)
open PySem.W.KIN PySem.NumText
abbrev cs (x:Str):List Nat:=x.cps.toList
theorem zcL {x y:Str}(h:cs x=cs y):x=y:=by
 cases x; cases y
 simp only[Str.mk.injEq]
 exact Array.toList_inj.mp h
theorem zh4 (w:Str):w.length=(cs w).length:=by simp[Str.length]
theorem zrZ (a b:Str):cs (a++b)=cs a++cs b:=by show (a++b).cps.toList=_; rw[Str.cps_append]; simp
def dec (m:Nat):List Nat:=(Nat.toDigits 10 m).map Char.toNat
theorem zhI (m:Nat):AllDigits (dec m):=λc hc=>by
 obtain⟨x,hx,e⟩:=List.mem_map.mp hc
 have r:=digit_range (Nat.isDigit_of_mem_toDigits (by decide) (by decide) hx)
 rw[← e]
 exact r
theorem zfB (m:Nat):dec m≠[]:=λe=>by
 have l1:=toDigits_len_ge 10 m
 rw[List.map_eq_nil_iff.mp e] at l1
 exact absurd l1 (by decide)
theorem ze2 (m:Nat):digitsVal (dec m)=m:=val_back m
theorem zj6 {a b:Nat}(h:dec a=dec b):a=b:=by rw[← ze2 a,← ze2 b,h]
theorem zfS {m:Nat}(h:10≤m):dec m=dec (m/10)++[48+m%10]:=by
 have hm:m%10<10:=Nat.mod_lt m (by decide)
 have two:Nat.toDigits 10 (m/10)++Nat.toDigits 10 (m%10)=Nat.toDigits 10 (10*(m/10)+m%10):=Nat.toDigits_append_toDigits (by decide) (by omega) hm
 rw[Nat.div_add_mod] at two
 unfold dec
 rw[← two,Vaq,Nat.toDigits_of_lt_base hm]
 have e:∀d:Nat,d<10→(Nat.digitChar d).toNat=48+d:=by decide
 show _++[(Nat.digitChar (m%10)).toNat]=_
 rw[e _ hm]
theorem zgs {m:Nat}(h:m<10):dec m=[48+m]:=by
 unfold dec
 rw[Nat.toDigits_of_lt_base h]
 have e:∀d:Nat,d<10→(Nat.digitChar d).toNat=48+d:=by decide
 show [(Nat.digitChar m).toNat]=_
 rw[e _ h]
theorem zkn (m:Nat):∀r,dec m=48::r→m=0∧r=[]:=by
 refine Nat.strongRecOn m λm ih=>?_
 ·intro r e
  by_cases h:m<10
  ·rw[zgs h] at e
   simp only[List.cons.injEq] at e
   exact⟨by omega,e.2.symm⟩
  ·rw[zfS (by omega)] at e
   cases d:dec (m/10) with
   | nil=>exact absurd d (zfB _)
   | cons c t=>
    rw[d] at e
    simp only[List.cons_append,List.cons.injEq] at e
    have:=ih (m/10) (by omega) t (by rw[d,e.1])
    omega
theorem zdX {m k:Nat}(hk:1≤k)(h:m<10^k):(dec m).length≤k:=by
 induction k generalizing m with
 | zero=>omega
 | succ k ih=>
  by_cases hm:m<10
  ·rw[zgs hm]; simp
  ·rw[zfS (by omega)]
   by_cases k0:k=0
   ·subst k0
    simp at h
    omega
   ·have:=ih (m:=m/10) (by omega) (by rw[VaG] at h; omega)
    simp
    exact this
theorem zk5 (l:List Nat):AllDigits l→digitsVal l<10^l.length:=by
 induction l using PyProof.Rows.snocInd with
 | nil=>intro _; decide
 | snoc l c ih=>
  intro h
  have h1:=ih (λd hd=>h d (List.mem_append_left _ hd))
  have h2:=h c (by simp)
  rw[digitsVal_snoc,Vah,List.length_singleton,VaG]
  omega
def num (i:Int):List Nat:=if i<0 then 45::dec i.natAbs else dec i.natAbs
theorem zsw (i:Int):cs (Str.ofString (toString i))=num i:=by
 unfold num
 cases i with
 | ofNat m=>exact signs_num m
 | negSucc k=>
  rw[if_pos (Int.negSucc_lt_zero k)]
  show (Str.ofString (toString (Int.negSucc k))).cps.toList=_
  rw[signs_ofString]
  show (("-":String)++Nat.repr (k+1)).toList.map Char.toNat=_
  rw[String.toList_append,Vaq,Nat.toList_repr]
  rfl
theorem zer {i:Int}(h:0≤i):num i=dec i.natAbs:=if_neg (by omega)
theorem zjw {i:Int}(h:i<0):num i=45::dec i.natAbs:=if_pos h
theorem zkJ (i:Int):num i≠[]:=by
 unfold num
 split
 ·exact λe=>by cases e
 ·exact zfB _
theorem zhu {i:Int}{c:Nat}(h:c∈num i):c=45∨48≤c∧c≤57:=by
 unfold num at h
 split at h
 ·rcases Vad.mp h with e | e
  ·exact .inl e
  ·exact .inr (zhI _ c e)
 ·exact .inr (zhI _ c h)
theorem zcZ {m:Nat}{c:Nat}{r:List Nat}(h:dec m=c::r):48≤c∧c≤57:=zhI m c (by rw[h]; exact Vaz ..)
theorem zek {a b:Int}(h:num a=num b):a=b:=by
 unfold num at h
 split at h <;> split at h
 ·have:=zj6 (List.cons.inj h).2
  omega
 ·have:=zcZ h.symm
  omega
 ·have:=zcZ h
  omega
 ·have:=zj6 h
  omega
def zbj (t b:Int):List Nat:=num t++(if b=1 then [] else 47::num b)
structure zbd (w:List Nat)(t b:Int):Prop where
 pos:1≤b
 low:Int.gcd t b=1
 top:t.natAbs<10^9
 bot:b<10^9
 eq:w=zbj t b
theorem zfG (i:Int):47 ∉ num i:=λh=>by
 have:=zhu h
 omega
theorem zlL:∀ {X A Y B:List Nat},47 ∉ X→47 ∉ A→X++47::Y=A++47::B→X=A∧Y=B
 | [],[],Y,B,_,_,e=>⟨rfl,(List.cons.inj e).2⟩
 | [],a::A,Y,B,_,h,e=>absurd (show 47∈a::A by rw[show a=47 from ((List.cons.inj e).1).symm]; exact Vaz ..) h
 | x::X,[],Y,B,h,_,e=>absurd (show 47∈x::X by rw[show x=47 from (List.cons.inj e).1]; exact Vaz ..) h
 | x::X,a::A,Y,B,h1,h2,e=>by
  obtain⟨e1,e2⟩:=List.cons.inj e
  obtain⟨r1,r2⟩:=zlL (λm=>h1 (Vat _ m)) (λm=>h2 (Vat _ m)) e2
  exact⟨by rw[e1,r1],r2⟩
theorem zbd.split {A B:List Nat}{t b:Int}(h:zbd (A++47::B) t b)(hA:47 ∉ A):num t=A∧num b=B∧b≠1:=by
 have e:=h.eq
 unfold zbj at e
 split at e
 ·rw[Var] at e
  exact absurd (show 47∈num t by rw[← e]; simp) (zfG t)
 ·rename_i hb
  obtain⟨r1,r2⟩:=zlL hA (zfG t) e
  exact⟨r1.symm,r2.symm,hb⟩
theorem zbd.plain {w:List Nat}{t b:Int}(h:zbd w t b)(hw:47 ∉ w):num t=w∧b=1:=by
 have e:=h.eq
 unfold zbj at e
 split at e
 ·rename_i hb
  rw[Var] at e
  exact⟨e.symm,hb⟩
 ·exact absurd (by rw[e]; simp) hw
theorem zbd.mem {w:List Nat}{t b:Int}(h:zbd w t b){c:Nat}(hc:c∈w):c=45∨c=47∨48≤c∧c≤57:=by
 rw[h.eq] at hc
 unfold zbj at hc
 rcases Vak.mp hc with e | e
 ·rcases zhu e with z | z
  ·exact .inl z
  ·exact .inr (.inr z)
 ·split at e
  ·cases e
  ·rcases Vad.mp e with z | z
   ·exact .inr (.inl z)
   ·rcases zhu z with z | z
    ·exact .inl z
    ·exact .inr (.inr z)
def Bad (w:List Nat):Prop:=∀t b:Int,¬ zbd w t b
theorem zb0 {w:List Nat}{c:Nat}(hc:c∈w)(h:c≠45∧c≠47∧¬ (48≤c∧c≤57)):Bad w:=λt b n=>by
 have:=n.mem hc
 omega
theorem zsb {A B:List Nat}(hA:47 ∉ A)(h:∀b:Int,1<b→num b≠B):Bad (A++47::B):=λ_ b n=>by
 obtain⟨_,e,hb⟩:=n.split hA
 have:=n.pos
 exact h b (by omega) e
theorem zeR {w:List Nat}(hw:47 ∉ w)(h:∀t:Int,t.natAbs<10^9→num t≠w):Bad w:=λt _ n=>h t n.top (n.plain hw).1
theorem zoJ (t:Int):num t≠[]:=zkJ t
theorem zmS (t:Int):num t≠[45]:=λe=>by
 unfold num at e
 split at e
 ·exact zfB _ (List.cons.inj e).2
 ·have:=zcZ e
  omega
theorem zqY {r:List Nat}(hr:r≠[])(t:Int):num t≠48::r:=λe=>by
 unfold num at e
 split at e
 ·have:=(List.cons.inj e).1
  omega
 ·exact hr (zkn _ _ e).2
theorem zqQ (r:List Nat)(t:Int):num t≠45::48::r:=λe=>by
 unfold num at e
 split at e
 ·rename_i h
  have:=(zkn _ _ (List.cons.inj e).2).1
  omega
 ·have:=zcZ e
  omega
theorem zmB (r:List Nat)(t:Int):num t≠45::45::r:=λe=>by
 unfold num at e
 split at e
 ·have:=zcZ (List.cons.inj e).2
  omega
 ·have:=zcZ e
  omega
theorem zkK {t0 b0 m:Int}(hm:2≤m)(hb:1≤b0):Bad (num (t0*m)++47::num (b0*m)):=λt b n=>by
 obtain⟨e1,e2,_⟩:=n.split (zfG _)
 have e1:=zek e1
 have e2:=zek e2
 subst e1 e2
 have d1:(m.natAbs:Int) ∣ t0*m:=Int.natAbs_dvd.mpr (Int.dvd_mul_left _ _)
 have d2:(m.natAbs:Int) ∣ b0*m:=Int.natAbs_dvd.mpr (Int.dvd_mul_left _ _)
 have g:=Int.dvd_gcd d1 d2
 rw[n.low] at g
 have:=Nat.le_of_dvd (by decide) g
 omega
def pad (k r:Nat):List Nat:=List.replicate (k-(dec r).length) 48++dec r
theorem zl2 {q:Nat}(hq:0<q):∀(k r:Nat),1≤k→r<10^k→dec (q*10^k+r)=dec q++pad k r
 | 0,_,h,_=>absurd h (by decide)
 | 1,r,_,hr=>by
  have hr':r<10:=by simpa using hr
  rw[zfS (by omega),show (q*10^1+r)/10=q by omega,show (q*10^1+r)%10=r by omega]
  unfold pad
  rw[zgs hr']
  rfl
 | k+2,r,_,hr=>by
  have ih:=zl2 hq (k+1) (r/10) (by omega) (by rw[VaG] at hr; omega)
  have e1:(q*10^(k+2)+r)/10=q*10^(k+1)+r/10:=by rw[VaG,← Nat.mul_assoc]; omega
  have e2:(q*10^(k+2)+r)%10=r%10:=by rw[VaG,← Nat.mul_assoc]; omega
  have big:10≤q*10^(k+2)+r:=by
   have:1≤q*10^(k+1):=Nat.mul_pos hq (Nat.pow_pos (by decide))
   rw[VaG,← Nat.mul_assoc]
   omega
  rw[zfS big,e1,e2,ih,Vaw]
  congr 1
  unfold pad
  by_cases h:r<10
  ·rw[zgs h,show r/10=0 by omega,show r%10=r by omega,zgs (by decide)]
   show List.replicate (k+1-1) 48++[48+0]++[48+r]=List.replicate (k+2-1) 48++[48+r]
   congr 1
   rw[show k+2-1=(k+1-1)+1 by omega,List.replicate_succ']
  ·rw[zfS (show 10≤r by omega),Vaw,Vah,List.length_singleton]
   rw[show k+1+1-((dec (r/10)).length+1)=k+1-(dec (r/10)).length by omega]
theorem zg5:("/":Str)=⟨#[47]⟩:=by decide
theorem zlV:("-":Str)=⟨#[45]⟩:=by decide
theorem zq6 {x:Str}(h:47 ∉ cs x):Txt.partition x "/"=(x,Str.empty,Str.empty):=by
 rw[zg5]
 unfold Txt.partition
 rcases StrLaws.occ_head x ⟨#[47]⟩ 1 (Vaa 1) with ⟨h0,_⟩ | ⟨i,r,h0,hi,hn⟩
 ·rw[h0]
 ·exact absurd (Vax ((StrLaws.subAt_one x 47 i).mp hi)) h
theorem zqA {x:Str}{A B:List Nat}(e:cs x=A++47::B)(hA:47 ∉ A):Txt.partition x "/"=((⟨A.toArray⟩:Str),("/":Str),(⟨B.toArray⟩:Str)):=by
 rw[zg5]
 unfold Txt.partition
 have at47:(cs x)[A.length]?=some 47:=by rw[e]; simp
 rcases StrLaws.occ_head x ⟨#[47]⟩ 1 (Vaa 1) with ⟨_,hn⟩ | ⟨i,r,h0,hi,hn⟩
 ·exact absurd ((StrLaws.subAt_one x 47 A.length).mpr at47) (hn _)
 ·rw[h0]
  have hi':=(StrLaws.subAt_one x 47 i).mp hi
  have ei:i=A.length:=by
   rcases Nat.lt_trichotomy i A.length with l | l | l
   ·have z:(cs x)[i]?=A[i]?:=by rw[e,Van l]
    rw[z] at hi'
    exact absurd (Vax hi') hA
   ·exact l
   ·exact absurd ((StrLaws.subAt_one x 47 A.length).mpr at47) (hn _ l)
  subst ei
  have lx:x.length=A.length+1+B.length:=by rw[zh4,e]; simp; omega
  have p1:Builtin.Str.strSub x 0 A.length=⟨A.toArray⟩:=zcL (by
   show (Builtin.Str.strSub x 0 A.length).cps.toList=A
   rw[StrLaws.strSub_toList,show x.cps.toList=A++47::B from e]
   simp)
  have p2:Builtin.Str.strSub x (A.length+(⟨#[47]⟩:Str).length) x.length=⟨B.toArray⟩:=zcL (by
   show (Builtin.Str.strSub x (A.length+1) x.length).cps.toList=B
   rw[StrLaws.strSub_toList,show x.cps.toList=A++47::B from e,lx]
   simp)
  show (Builtin.Str.strSub x 0 A.length,(⟨#[47]⟩:Str),Builtin.Str.strSub x (A.length+(⟨#[47]⟩:Str).length) x.length)=_
  rw[p1,p2]
theorem zo9 (x:Str):Txt.startswith x "-"=decide ((cs x)[0]?=some 45):=by
 rw[zlV]
 unfold Txt.startswith
 have z:=StrLaws.subAt_one x 45 0
 rw[VaI,Vap,decide_eq_true_eq,decide_eq_true_eq]
 exact z
abbrev mk (l:List Nat):Str:=⟨l.toArray⟩
theorem za7 (l:List Nat):cs (mk l)=l:=by simp
theorem zeY (x:Str):mk (cs x)=x:=zcL (by simp)
theorem za9 (l:List Nat):(mk l).length=l.length:=by rw[zh4,za7]
theorem zeK (a b:List Nat):mk a++mk b=mk (a++b):=zcL (by rw[zrZ,za7,za7,za7])
theorem zeE (i:Int):Str.ofString (toString i)=mk (num i):=zcL (by rw[zsw,za7])
theorem znQ {x:Str}{r:List Nat}(h:cs x=45::r):StrLaws.sliceText x (some 1) none=mk r:=by
 have l:x.cps.toList.length=r.length+1:=by rw[show x.cps.toList=45::r from h]; simp
 rw[StrLaws.sliceText_from (x:=x) (i:=1) ⟨by decide,by omega⟩]
 refine zcL ?_
 rw[za7]
 show (⟨_⟩:Str).cps.toList=r
 rw[show x.cps.toList=45::r from h]
 simp
theorem ziq {i:Int}{k:Nat}(hk:1≤k)(h:i.natAbs<10^k):(num i).length≤k+1:=by
 have:=zdX hk h
 unfold num
 split
 ·simp; omega
 ·omega
theorem znu {r:Nat}(h:(dec r).length≤64):Txt.zfill (mk (dec r)) 64=mk (pad 64 r):=by
 unfold Txt.zfill
 rw[za9]
 split
 ·rename_i c
  have e:(dec r).length=64:=by omega
  unfold pad
  rw[e]
  rfl
 ·unfold zfilled
  cases d:dec r with
  | nil=>exact absurd d (zfB r)
  | cons c t=>
   have hc:=zcZ d
   rw[show (mk (c::t)).cps[0]?=some c by simp]
   split
   ·rename_i z
    cases z
    omega
   ·rename_i z
    cases z
    omega
   ·refine zcL ?_
    unfold pad Builtin.Str.padded
    rw[d]
    simp
theorem zmJ (zs:List Str):cs (zav zs)=zs.flatMap cs:=by simp[zav]
theorem zk6:∀ls:List (List Nat),zbJ (ls.map λl=>D.str (mk l))=some (ls.map mk)
 | []=>rfl
 | l::ls=>by
  show (zbJ (ls.map λl=>D.str (mk l))).map (mk l::·)=_
  rw[zk6 ls]
  rfl
theorem zrI (ls:List (List Nat)):zav (ls.map mk)=mk ls.flatten:=zcL (by
 rw[zmJ,za7,List.flatMap_map]
 have e:∀ks:List (List Nat),(ks.flatMap λa=>cs (mk a))=ks.flatten:=λks=>by
  induction ks with
  | nil=>rfl
  | cons k ks ih=>rw[List.flatMap_cons,Vav,ih,za7]
 exact e ls)
theorem zf5 {i:Int}{k:Nat}(h:i.natAbs<10^k)(hk:k≤400):i.natAbs.log2<1920:=by
 by_cases z:i.natAbs=0
 ·rw[z]; decide
 ·rw[Nat.log2_lt z]
  refine Vag h ?_
  have h1:(10:Nat)^k≤16^k:=Nat.pow_le_pow_left (by decide) k
  have h2:(16:Nat)^k=2^(4*k):=by rw[Nat.pow_mul]
  rw[h2] at h1
  exact Vao h1 (Nat.pow_le_pow_right (by decide) (by omega))
theorem zkS {F:List Nat}(h:AllDigits F)(h1:F≠[])(h2:F.length≤600):PySem.intText? (mk F)=some ((digitsVal F:Nat):Int)∧PySem.intText? (mk (45::F))=some (-((digitsVal F:Nat):Int)):=by
 refine⟨?_,?_⟩
 ·have z:=intText_digits (x:=mk F) (by rw[show (mk F).cps.toList=F from za7 F]; exact h) (by rw[show (mk F).cps.toList=F from za7 F]; exact h1) (by rw[za9]; omega)
  rw[show (mk F).cps.toList=F from za7 F] at z
  exact z
 ·exact intText_neg (x:=mk (45::F)) (cs:=F) (za7 _) h h1 (by rw[za9]; simp; omega)
theorem zmd:∀w:List Nat,47∈w→∃A B,w=A++47::B∧47 ∉ A
 | [],h=>by cases h
 | c::w,h=>by
  by_cases e:c=47
  ·subst e
   exact⟨[],w,rfl,by simp⟩
  ·have h':47∈w:=by
    rcases Vad.mp h with z | z
    ·exact absurd z.symm e
    ·exact z
   obtain⟨A,B,e1,e2⟩:=zmd w h'
   exact⟨c::A,B,by rw[e1]; rfl,by simp; exact⟨λz=>e z.symm,e2⟩⟩
structure Eb (K:PySem.W.Frag)(mg:Str→Option Value)(x:Str) where
 c:Addr
 bound:mg x=some (.ref c)
theorem all_map (f:Nat→Bool)(l:List Nat):(l.map f).all id=l.all f:=by rw[List.all_map]; rfl
theorem zoO {a P B j:Nat}(h:a*P^j<B):a/P*P^(j+1)<B:=by
 rw[VaG,Nat.mul_comm (P^j),← Nat.mul_assoc]
 exact Nat.lt_of_le_of_lt (Nat.mul_le_mul_right _ (Nat.div_mul_le_self _ _)) h
theorem cut4 {s1 s2 s3 s4 t2:TDS}{E:zbL}{dl:Ev}{S:Sto}{α:Type}(G:α→Ev)(P:α→Prop)(h:(∀a,P a→t2 E (G a) S)→zaP s1 (zaP s2 (zaP s3 (zaP s4 t2))) E dl S)(main:∀a,P a→t2 E (G a) S):zaP s1 (zaP s2 (zaP s3 (zaP s4 t2))) E dl S:=h main
abbrev FIG:Str:="0123456789"
theorem zk7 (c:Nat):c∈cs FIG↔48≤c∧c≤57:=by
 have e:cs FIG=[48,49,50,51,52,53,54,55,56,57]:=by decide
 rw[e]
 simp
 omega
def zcN (w:Str):Bool:=(decide (1≤(w.length:Int))&&decide ((w.length:Int)≤9))&&w.cps.toList.all (λc=>decide (c∈FIG.cps.toList))
theorem ziL (w:Str):zcN w=true↔(cs w≠[]∧(cs w).length≤9∧PySem.NumText.AllDigits (cs w)):=by
 unfold zcN
 rw[Vap,Vap,decide_eq_true_eq,decide_eq_true_eq,List.all_eq_true]
 rw[zh4]
 constructor
 ·rintro⟨⟨h1,h2⟩,h3⟩
  refine⟨λz=>?_,by omega,λc hc=>(zk7 c).mp (of_decide_eq_true (h3 c hc))⟩
  rw[z] at h1
  simp at h1
 ·rintro⟨h1,h2,h3⟩
  have:0<(cs w).length:=VaT.mpr h1
  exact⟨⟨by omega,by omega⟩,λc hc=>decide_eq_true ((zk7 c).mpr (h3 c hc))⟩
def zis (w T B:List Nat):Prop:=(w=T∧B=[49]∨w=T++47::B)∧47 ∉ T
def Sig (T F:List Nat):Prop:=T=45::F∨T=F∧T[0]?≠some 45
theorem zeI {w T B F:List Nat}{t b:Int}(n:zbd w t b)(sh:zis w T B)(sg:Sig T F):T=num t∧F=dec t.natAbs∧B=dec b.natAbs:=by
 obtain⟨sh,nT⟩:=sh
 have e:T=num t∧B=dec b.natAbs:=by
  rcases sh with ⟨rfl,rfl⟩ | rfl
  ·obtain⟨e1,rfl⟩:=n.plain nT
   exact⟨e1.symm,by decide⟩
  ·obtain⟨e1,e2,_⟩:=n.split nT
   rw[zer (by have:=n.pos; omega)] at e2
   exact⟨e1.symm,e2.symm⟩
 refine⟨e.1,?_,e.2⟩
 have e1:=e.1
 by_cases ht:t<0
 ·rw[zjw ht] at e1
  rcases sg with rfl | ⟨rfl,z⟩
  ·exact(List.cons.inj e1).2
  ·rw[e1] at z
   exact absurd rfl z
 ·rw[zer (by omega)] at e1
  rcases sg with rfl | ⟨rfl,_⟩
  ·have:=zcZ e1.symm
   omega
  ·exact e1
theorem zjJ {m:Nat}(h:m<10^9):zcN (mk (dec m))=true:=by
 rw[ziL,za7]
 exact⟨zfB m,zdX (by decide) h,zhI m⟩
theorem zrH {t b t' b':Int}(hb:1≤b)(hb':1≤b')(g:Int.gcd t b=1)(g':Int.gcd t' b'=1)(e:t*b'=t'*b):t=t'∧b=b':=by
 have d1:b ∣ b':=by
  have z:b ∣ t*b':=⟨t',by rw[e,Int.mul_comm]⟩
  have z':=Int.natAbs_dvd_natAbs.mpr z
  rw[Int.natAbs_mul] at z'
  exact Int.natAbs_dvd_natAbs.mp (Nat.Coprime.dvd_of_dvd_mul_left (show Nat.gcd b.natAbs t.natAbs=1 by rw[Nat.gcd_comm]; exact g) z')
 have d2:b' ∣ b:=by
  have z:b' ∣ t'*b:=⟨t,by rw[← e,Int.mul_comm]⟩
  have z':=Int.natAbs_dvd_natAbs.mpr z
  rw[Int.natAbs_mul] at z'
  exact Int.natAbs_dvd_natAbs.mp (Nat.Coprime.dvd_of_dvd_mul_left (show Nat.gcd b'.natAbs t'.natAbs=1 by rw[Nat.gcd_comm]; exact g') z')
 have eb:b=b':=Int.le_antisymm (Int.le_of_dvd (by omega) d1) (Int.le_of_dvd (by omega) d2)
 subst eb
 exact⟨Int.eq_of_mul_eq_mul_right (by omega) e,rfl⟩
theorem zbd.one {w:List Nat}{t b t' b':Int}(h:zbd w t b)(h':zbd w t' b'):t=t'∧b=b':=by
 have e':=h'.eq
 unfold zbj at e'
 split at e'
 ·rename_i z
  rw[Var] at e'
  have w47:47 ∉ w:=by rw[e']; exact zfG _
  obtain⟨e1,e2⟩:=h.plain w47
  exact⟨zek (e1.trans e'),by rw[e2,z]⟩
 ·rw[e'] at h
  obtain⟨e1,e2,_⟩:=h.split (zfG _)
  exact⟨zek e1,zek e2⟩
theorem znS {N A:Int}(e:N=10^9)(h:0≤A∧A<2*N-1):(A-(N-1)).natAbs<10^9:=by omega
abbrev LET:Str:="abcdefghijklmnopqrstuvwxyz"
abbrev zik:List Str:=["let","in","grid","fine","looks","solve","boxes","point","right","islands"]
def zbm (w:Str):Bool:=((decide (1≤(w.length:Int))&&decide ((w.length:Int)≤8))&&w.cps.toList.all (λc=>decide (c∈LET.cps.toList)))&&!zik.any (·==w)
def Ltr (w:Str):Prop:=∀c∈w.cps.toList,c∈LET.cps.toList
theorem zmr {w:Str}(h:Ltr w):zbm w=((decide (1≤(w.length:Int))&&decide ((w.length:Int)≤8))&&!zik.any (·==w)):=by
 unfold zbm
 have e:w.cps.toList.all (λc=>decide (c∈LET.cps.toList))=true:=List.all_eq_true.mpr λc hc=>decide_eq_true (h c hc)
 rw[e,Bool.and_true]
theorem znc {w:Str}{c:Nat}(hc:c∈w.cps.toList)(hn:c ∉ LET.cps.toList):zbm w=false:=by
 unfold zbm
 have e:w.cps.toList.all (λc=>decide (c∈LET.cps.toList))=false:=by
  rw[List.all_eq_false]
  exact⟨c,hc,by simpa using hn⟩
 rw[e,Bool.and_false,VaH]
inductive Tr
 | nm (w:List Nat) | nb (t b:Int) | pw (t:Tr) (k:Int) | bi (kind:Nat) (l r:Tr)
inductive Wd
 | lp | rp | pl | mi | ti | ca | at
 deriving DecidableEq
section
variable {α:Type}(K:α→Wd)(av:α→Option Tr)(pv:α→Option Int)
abbrev Rd (α:Type):=List α→Option (Tr×List α)
def za1 (ex:Rd α):Rd α
 | []=>none
 | w::r=>if K w=.lp then (match ex r with
   | some (t,w2::r2)=>if K w2=.rp then some (t,r2) else none
   | _=>none) else (av w).map λt=>(t,r)
def zaN (ex:Rd α):Rd α:=λws=>match za1 K av ex ws with
 | none=>none
 | some (t,[])=>some (t,[])
 | some (t,w::r)=>if K w=.ca then (match r with
   | []=>none
   | p::r2=>(pv p).map λk=>(.pw t k,r2)) else some (t,w::r)
def zbh (ex:Rd α):Nat→Tr→Rd α
 | _,t,[]=>some (t,[])
 | 0,t,w::r=>some (t,w::r)
 | n+1,t,w::r=>if K w=.ti then (match zaN K av pv ex r with
   | none=>none
   | some (t2,r2)=>zbh ex n (.bi 2 t t2) r2) else some (t,w::r)
def zaV (ex:Rd α):Rd α:=λws=>match zaN K av pv ex ws with
 | none=>none
 | some (t,r)=>zbh K av pv ex ws.length t r
def zcw:Wd→Option Nat
 | .pl=>some 0
 | .mi=>some 1
 | _=>none
def zbs (ex:Rd α):Nat→Tr→Rd α
 | _,t,[]=>some (t,[])
 | 0,t,w::r=>some (t,w::r)
 | n+1,t,w::r=>match zcw (K w) with
  | none=>some (t,w::r)
  | some k=>match zaV K av pv ex r with
   | none=>none
   | some (t2,r2)=>zbs ex n (.bi k t t2) r2
def zbq (ex:Rd α):Rd α:=λws=>match zaV K av pv ex ws with
 | none=>none
 | some (t,r)=>zbs K av pv ex ws.length t r
def zcy:Nat→Rd α
 | 0=>zbq K av pv λ_=>none
 | f+1=>zbq K av pv (zcy f)
def zbI:Nat→Rd α
 | 0=>λ_=>none
 | f+1=>zcy K av pv f
theorem zjD (f:Nat):zcy K av pv f=zbq K av pv (zbI K av pv f):=by cases f <;> rfl
inductive Ex:Nat→Nat→List α→Tr→Prop
 | atom {w:α} {t:Tr}:K w=.at→av w=some t→Ex 3 0 [w] t
 | shut {a b:α} {l k:Nat} {c:List α} {t:Tr}:K a=.lp→K b=.rp→Ex l k c t→Ex 3 (k+1) (a::c++[b]) t
 | pow {a p:α} {k:Nat} {c:List α} {t:Tr} {n:Int}:K a=.ca→K p=.at→pv p=some n→Ex 3 k c t→Ex 2 k (c++[a,p]) (.pw t n)
 | tim {a:α} {l m k j:Nat} {c d:List α} {t s:Tr}:K a=.ti→1≤l→2≤m→Ex l k c t→Ex m j d s→Ex 1 (max k j) (c++a::d) (.bi 2 t s)
 | sum {a:α} {l m k j n:Nat} {c d:List α} {t s:Tr}:zcw (K a)=some n→1≤m→Ex l k c t→Ex m j d s→Ex 0 (max k j) (c++a::d) (.bi n t s)
variable {K av pv}
theorem zlr {ex:Rd α}(hx:∀ws t r,ex ws=some (t,r)→r.length<ws.length){ws:List α}{t:Tr}{r:List α}(h:za1 K av ex ws=some (t,r)):r.length<ws.length:=by
 unfold za1 at h
 split at h
 ·cases h
 ·rename_i w rr
  split at h
  ·split at h
   ·rename_i t2 w2 r2 e
    split at h
    ·cases h
     have:=hx _ _ _ e
     simp at this ⊢
     omega
    ·cases h
   ·cases h
  ·cases e:av w with
   | none=>simp[e] at h
   | some t2=>
    rw[e] at h
    cases h
    simp
theorem zhg {ex:Rd α}(hx:∀ws t r,ex ws=some (t,r)→r.length<ws.length){ws:List α}{t:Tr}{r:List α}(h:zaN K av pv ex ws=some (t,r)):r.length<ws.length:=by
 unfold zaN at h
 split at h
 ·cases h
 ·rename_i t2 e
  cases h
  exact zlr hx e
 ·rename_i t2 w r2 e
  have z:=zlr hx e
  split at h
  ·split at h
   ·cases h
   ·rename_i p r3
    cases e2:pv p with
    | none=>rw[e2] at h; cases h
    | some k=>
     rw[e2] at h
     cases h
     simp at z ⊢
     omega
  ·cases h
   exact z
theorem zj9 {ex:Rd α}(hx:∀ws t r,ex ws=some (t,r)→r.length<ws.length):∀(n:Nat) {ws:List α} {t0 t:Tr} {r:List α},zbh K av pv ex n t0 ws=some (t,r)→r.length≤ws.length
 | n,[],t0,t,r,h=>by cases n <;> (cases h; simp)
 | 0,w::ws,t0,t,r,h=>by cases h; simp
 | n+1,w::ws,t0,t,r,h=>by
  unfold zbh at h
  split at h
  ·split at h
   ·cases h
   ·rename_i t2 r2 e
    have a:=zhg hx e
    have b:=zj9 hx n h
    simp
    omega
  ·cases h; simp
theorem zgn {ex:Rd α}(hx:∀ws t r,ex ws=some (t,r)→r.length<ws.length){ws:List α}{t:Tr}{r:List α}(h:zaV K av pv ex ws=some (t,r)):r.length<ws.length:=by
 unfold zaV at h
 split at h
 ·cases h
 ·rename_i t2 r2 e
  have a:=zhg hx e
  have b:=zj9 hx _ h
  omega
theorem zmo {ex:Rd α}(hx:∀ws t r,ex ws=some (t,r)→r.length<ws.length):∀(n:Nat) {ws:List α} {t0 t:Tr} {r:List α},zbs K av pv ex n t0 ws=some (t,r)→r.length≤ws.length
 | n,[],t0,t,r,h=>by cases n <;> (cases h; simp)
 | 0,w::ws,t0,t,r,h=>by cases h; simp
 | n+1,w::ws,t0,t,r,h=>by
  unfold zbs at h
  split at h
  ·cases h; simp
  ·split at h
   ·cases h
   ·rename_i t2 r2 e
    have a:=zgn hx e
    have b:=zmo hx n h
    simp
    omega
theorem zks {ex:Rd α}(hx:∀ws t r,ex ws=some (t,r)→r.length<ws.length){ws:List α}{t:Tr}{r:List α}(h:zbq K av pv ex ws=some (t,r)):r.length<ws.length:=by
 unfold zbq at h
 split at h
 ·cases h
 ·rename_i t2 r2 e
  have a:=zgn hx e
  have b:=zmo hx _ h
  omega
theorem ziJ:∀(f:Nat) {ws:List α} {t:Tr} {r:List α},zcy K av pv f ws=some (t,r)→r.length<ws.length
 | 0,_,_,_,h=>zks (λ_ _ _ e=>by cases e) h
 | f+1,_,_,_,h=>zks (λ_ _ _ e=>ziJ f e) h
def Sou (ex:Rd α)(l0:Nat):Prop:=∀ws t r,ex ws=some (t,r)→∃c l k,ws=c++r∧l0≤l∧Ex K av pv l k c t
variable (hav:∀w t,av w=some t→K w=.at)(hpv:∀w k,pv w=some k→K w=.at)
include hav in
theorem ziZ {ex:Rd α}(hx:Sou (K:=K) (av:=av) (pv:=pv) ex 0):Sou (K:=K) (av:=av) (pv:=pv) (za1 K av ex) 3:=λws t r h=>by
 unfold za1 at h
 split at h
 ·cases h
 ·rename_i w rr
  split at h
  ·rename_i ew
   split at h
   ·rename_i t2 w2 r2 e
    split at h
    ·rename_i ew2
     cases h
     obtain⟨c,l,k,e1,_,d⟩:=hx _ _ _ e
     exact⟨w::c++[w2],3,k+1,by rw[e1]; simp,Vaa _,.shut ew ew2 d⟩
    ·cases h
   ·cases h
  ·cases e:av w with
   | none=>simp[e] at h
   | some t2=>
    rw[e] at h
    cases h
    exact⟨[w],3,0,rfl,Vaa _,.atom (hav _ _ e) e⟩
theorem zlI {l k:Nat}{c:List α}{t:Tr}(h:Ex K av pv l k c t):l≤3:=by cases h <;> omega
include hav hpv in
theorem zhe {ex:Rd α}(hx:Sou (K:=K) (av:=av) (pv:=pv) ex 0):Sou (K:=K) (av:=av) (pv:=pv) (zaN K av pv ex) 2:=λws t r h=>by
 unfold zaN at h
 split at h
 ·cases h
 ·rename_i t2 e
  cases h
  obtain⟨c,l,k,e1,l3,d⟩:=ziZ hav hx _ _ _ e
  exact⟨c,l,k,e1,by omega,d⟩
 ·rename_i t2 w r2 e
  obtain⟨c,l,k,e1,l3,d⟩:=ziZ hav hx _ _ _ e
  have el:l=3:=by have:=zlI d; omega
  subst el
  split at h
  ·rename_i ew
   split at h
   ·cases h
   ·rename_i p r3
    cases e2:pv p with
    | none=>rw[e2] at h; cases h
    | some n=>
     rw[e2] at h
     cases h
     exact⟨c++[w,p],2,k,by rw[e1]; simp,Vaa _,.pow ew (hpv _ _ e2) e2 d⟩
  ·cases h
   exact⟨c,3,k,e1,by omega,d⟩
include hav hpv in
theorem zkz {ex:Rd α}(hx:Sou (K:=K) (av:=av) (pv:=pv) ex 0):∀(n:Nat) (ws:List α) (t0 t:Tr) (r c:List α) (l k:Nat),zbh K av pv ex n t0 ws=some (t,r)→1≤l→Ex K av pv l k c t0→∃d l' k',ws=d++r∧1≤l'∧Ex K av pv l' k' (c++d) t
 | n,[],t0,t,r,c,l,k,h,hl,d=>by cases n <;> (cases h; exact⟨[],l,k,rfl,hl,by simpa using d⟩)
 | 0,w::ws,t0,t,r,c,l,k,h,hl,d=>by cases h; exact⟨[],l,k,rfl,hl,by simpa using d⟩
 | n+1,w::ws,t0,t,r,c,l,k,h,hl,d=>by
  unfold zbh at h
  split at h
  ·rename_i ew
   split at h
   ·cases h
   ·rename_i t2 r2 e
    obtain⟨c2,l2,k2,e1,hl2,d2⟩:=zhe hav hpv hx _ _ _ e
    obtain⟨d3,l3,k3,e3,hl3,x3⟩:=zkz hx n r2 _ t r (c++w::c2) 1 _ h (Vaa _) (.tim ew hl hl2 d d2)
    exact⟨w::c2++d3,l3,k3,by rw[e1,e3]; simp,hl3,by simpa using x3⟩
  ·cases h
   exact⟨[],l,k,rfl,hl,by simpa using d⟩
include hav hpv in
theorem zgj {ex:Rd α}(hx:Sou (K:=K) (av:=av) (pv:=pv) ex 0):Sou (K:=K) (av:=av) (pv:=pv) (zaV K av pv ex) 1:=λws t r h=>by
 unfold zaV at h
 split at h
 ·cases h
 ·rename_i t2 r2 e
  obtain⟨c,l,k,e1,l2,d⟩:=zhe hav hpv hx _ _ _ e
  obtain⟨d3,l3,k3,e3,hl3,x3⟩:=zkz hav hpv hx _ _ _ _ _ c l k h (by omega) d
  exact⟨c++d3,l3,k3,by rw[e1,e3]; simp,hl3,x3⟩
include hav hpv in
theorem zjS {ex:Rd α}(hx:Sou (K:=K) (av:=av) (pv:=pv) ex 0):∀(n:Nat) (ws:List α) (t0 t:Tr) (r c:List α) (l k:Nat),zbs K av pv ex n t0 ws=some (t,r)→Ex K av pv l k c t0→∃d l' k',ws=d++r∧Ex K av pv l' k' (c++d) t
 | n,[],t0,t,r,c,l,k,h,d=>by cases n <;> (cases h; exact⟨[],l,k,rfl,by simpa using d⟩)
 | 0,w::ws,t0,t,r,c,l,k,h,d=>by cases h; exact⟨[],l,k,rfl,by simpa using d⟩
 | n+1,w::ws,t0,t,r,c,l,k,h,d=>by
  unfold zbs at h
  split at h
  ·cases h
   exact⟨[],l,k,rfl,by simpa using d⟩
  ·rename_i m ew
   split at h
   ·cases h
   ·rename_i t2 r2 e
    obtain⟨c2,l2,k2,e1,hl2,d2⟩:=zgj hav hpv hx _ _ _ e
    obtain⟨d3,l3,k3,e3,x3⟩:=zjS hx n r2 _ t r (c++w::c2) 0 _ h (.sum ew hl2 d d2)
    exact⟨w::c2++d3,l3,k3,by rw[e1,e3]; simp,by simpa using x3⟩
include hav hpv in
theorem zk3 {ex:Rd α}(hx:Sou (K:=K) (av:=av) (pv:=pv) ex 0):Sou (K:=K) (av:=av) (pv:=pv) (zbq K av pv ex) 0:=λws t r h=>by
 unfold zbq at h
 split at h
 ·cases h
 ·rename_i t2 r2 e
  obtain⟨c,l,k,e1,l2,d⟩:=zgj hav hpv hx _ _ _ e
  obtain⟨d3,l3,k3,e3,x3⟩:=zjS hav hpv hx _ _ _ _ _ c l k h d
  exact⟨c++d3,l3,k3,by rw[e1,e3]; simp,VaJ _,x3⟩
include hav hpv in
theorem zkH:∀f,Sou (K:=K) (av:=av) (pv:=pv) (zcy K av pv f) 0
 | 0=>zk3 hav hpv λ_ _ _ e=>by cases e
 | f+1=>zk3 hav hpv (zkH f)
end
section
variable {α:Type}{K:α→Wd}{av:α→Option Tr}{pv:α→Option Int}
def Nst (K:α→Wd)(x:Wd)(r:List α):Prop:=∀w r',r=w::r'→K w≠x
theorem Nst.nil {x:Wd}:Nst K x []:=λ_ _ e=>by cases e
theorem Nst.cons {x:Wd}{w:α}{r:List α}(h:K w≠x):Nst K x (w::r):=λ_ _ e=>by cases e; exact h
theorem zhG {ex:Rd α}{t:Tr}{r:List α}(h:Nst K .ti r)(n:Nat):zbh K av pv ex n t r=some (t,r):=by
 cases r with
 | nil=>cases n <;> rfl
 | cons w r=>
  cases n with
  | zero=>rfl
  | succ n=>
   unfold zbh
   rw[if_neg (h w r rfl)]
theorem zh7 {ex:Rd α}{t:Tr}{r:List α}(h:∀w r',r=w::r'→zcw (K w)=none)(n:Nat):zbs K av pv ex n t r=some (t,r):=by
 cases r with
 | nil=>cases n <;> rfl
 | cons w r=>
  cases n with
  | zero=>rfl
  | succ n=>
   unfold zbs
   rw[h w r rfl]
theorem zoV {ex:Rd α}{a w:α}{r r2:List α}{t:Tr}(ha:K a=.lp)(e:ex r=some (t,w::r2))(hb:K w=.rp):za1 K av ex (a::r)=some (t,r2):=by simp[za1,ha,e,hb]
theorem zqo {ex:Rd α}{a:α}{r:List α}(ha:K a=.lp)(e:ex r=none):za1 K av ex (a::r)=none:=by simp[za1,ha,e]
theorem zeD {ex:Rd α}{c:List α}{t:Tr}(h:∀r,za1 K av ex (c++r)=some (t,r)):∀r,Nst K .ca r→zaN K av pv ex (c++r)=some (t,r):=λr hr=>by
 unfold zaN
 rw[h r]
 cases r with
 | nil=>rfl
 | cons w r=>
  show (if K w=.ca then _ else some (t,w::r))=_
  rw[if_neg (hr w r rfl)]
theorem zeW {ex:Rd α}{c r:List α}{t:Tr}(h:zaN K av pv ex (c++r)=some (t,r)):∃n,r.length≤n∧zaV K av pv ex (c++r)=zbh K av pv ex n t r:=by
 refine⟨(c++r).length,by simp,?_⟩
 unfold zaV
 rw[h]
theorem zh1 {ex:Rd α}{c r:List α}{t:Tr}(h:∃n,r.length≤n∧zaV K av pv ex (c++r)=zbh K av pv ex n t r)(hr:Nst K .ti r):∃n,r.length≤n∧zbq K av pv ex (c++r)=zbs K av pv ex n t r:=by
 obtain⟨n,_,e⟩:=h
 refine⟨(c++r).length,by simp,?_⟩
 unfold zbq
 rw[e,zhG hr]
theorem zoz {l k:Nat}{c:List α}{t:Tr}(h:Ex K av pv l k c t):∀f,k≤f→(l=3→∀r,za1 K av (zbI K av pv f) (c++r)=some (t,r))∧(2≤l→∀r,Nst K .ca r→zaN K av pv (zbI K av pv f) (c++r)=some (t,r))∧(1≤l→∀r,Nst K .ca r→∃n,r.length≤n∧zaV K av pv (zbI K av pv f) (c++r)=zbh K av pv (zbI K av pv f) n t r)∧∀r,Nst K .ca r→Nst K .ti r→∃n,r.length≤n∧zbq K av pv (zbI K av pv f) (c++r)=zbs K av pv (zbI K av pv f) n t r:=by
 induction h with
 | @atom w t hw ha=>
  intro f _
  have A:∀r,za1 K av (zbI K av pv f) ([w]++r)=some (t,r):=λr=>by
   show (if K w=.lp then _ else (av w).map λt=>(t,r))=_
   rw[if_neg (by rw[hw]; decide),ha]
   rfl
  exact⟨λ_=>A,λ_=>zeD A,λ_ r hr=>zeW (zeD A r hr),λr hr ht=>zh1 (zeW (zeD A r hr)) ht⟩
 | @shut a b l k c t ha hb _ ih=>
  intro f hf
  obtain⟨f',rfl⟩:∃f',f=f'+1:=⟨f-1,by omega⟩
  obtain⟨_,_,_,i4⟩:=ih f' (by omega)
  have A:∀r,za1 K av (zbI K av pv (f'+1)) (a::c++[b]++r)=some (t,r):=λr=>by
   have e0:a::c++[b]++r=a::(c++b::r):=by simp
   rw[e0]
   obtain⟨n,_,e⟩:=i4 (b::r) (Nst.cons (by rw[hb]; decide)) (Nst.cons (by rw[hb]; decide))
   have e2:zbI K av pv (f'+1) (c++b::r)=some (t,b::r):=by
    show zcy K av pv f' (c++b::r)=_
    rw[zjD,e]
    exact zh7 (λw r' q=>by cases q; rw[hb]; rfl) n
   exact zoV ha e2 hb
  exact⟨λ_=>A,λ_=>zeD A,λ_ r hr=>zeW (zeD A r hr),λr hr ht=>zh1 (zeW (zeD A r hr)) ht⟩
 | @pow a p k c t n ha hp hn _ ih=>
  intro f hf
  obtain⟨i1,_⟩:=ih f hf
  have F:∀r,zaN K av pv (zbI K av pv f) (c++[a,p]++r)=some (.pw t n,r):=λr=>by
   have e0:c++[a,p]++r=c++(a::p::r):=by simp
   rw[e0]
   unfold zaN
   rw[i1 rfl]
   show (if K a=.ca then _ else _)=_
   rw[if_pos ha]
   show (pv p).map _=_
   rw[hn]
   rfl
  exact⟨λe=>by omega,λ_ r _=>F r,λ_ r _=>zeW (F r),λr _ ht=>zh1 (zeW (F r)) ht⟩
 | @tim a l m k j c d t s ha hl hm _ _ ih1 ih2=>
  intro f hf
  obtain⟨_,_,i3,_⟩:=ih1 f (by omega)
  obtain⟨_,j2,_,_⟩:=ih2 f (by omega)
  have T:∀r,Nst K .ca r→∃n,r.length≤n∧zaV K av pv (zbI K av pv f) (c++a::d++r)=zbh K av pv (zbI K av pv f) n (.bi 2 t s) r:=λr hr=>by
   have e0:c++a::d++r=c++(a::(d++r)):=by simp
   rw[e0]
   obtain⟨n,hn,e⟩:=i3 hl (a::(d++r)) (Nst.cons (by rw[ha]; decide))
   obtain⟨n',rfl⟩:∃n',n=n'+1:=⟨n-1,by simp at hn; omega⟩
   refine⟨n',by simp at hn; omega,?_⟩
   rw[e]
   show (if K a=.ti then _ else _)=_
   rw[if_pos ha,j2 hm r hr]
  exact⟨λe=>by omega,λe=>by omega,λ_=>T,λr hr ht=>zh1 (T r hr) ht⟩
 | @sum a l m k j x c d t s ha hm _ _ ih1 ih2=>
  intro f hf
  obtain⟨_,_,_,i4⟩:=ih1 f (by omega)
  obtain⟨_,_,j3,_⟩:=ih2 f (by omega)
  have n1:K a≠.ca:=λe=>by rw[e] at ha; cases ha
  have n2:K a≠.ti:=λe=>by rw[e] at ha; cases ha
  refine⟨λe=>by omega,λe=>by omega,λe=>by omega,λr hr ht=>?_⟩
  have e0:c++a::d++r=c++(a::(d++r)):=by simp
  rw[e0]
  obtain⟨n,hn,e⟩:=i4 (a::(d++r)) (Nst.cons n1) (Nst.cons n2)
  obtain⟨n',rfl⟩:∃n',n=n'+1:=⟨n-1,by simp at hn; omega⟩
  refine⟨n',by simp at hn; omega,?_⟩
  obtain⟨q,_,e2⟩:=j3 hm r hr
  rw[e]
  show (match zcw (K a) with | none=>_ | some k=>_)=_
  rw[ha]
  dsimp only
  rw[e2,zhG ht]
theorem zmV {l k f:Nat}{c:List α}{t:Tr}(h:Ex K av pv l k c t)(hf:k≤f):zcy K av pv f c=some (t,[]):=by
 obtain⟨_,_,_,i4⟩:=zoz h f hf
 obtain⟨n,_,e⟩:=i4 [] Nst.nil Nst.nil
 rw[Var] at e
 rw[zjD,e]
 exact zh7 (λw r' q=>by cases q) n
theorem zof {a:α}(ha:K a=.lp)(ws:List α):∀(f n:Nat),f<n→zcy K av pv f (List.replicate n a++ws)=none:=by
 have go:∀(ex:Rd α) (n:Nat),ex (List.replicate n a++ws)=none→zbq K av pv ex (List.replicate (n+1) a++ws)=none:=λex n h=>by
  have e:List.replicate (n+1) a++ws=a::(List.replicate n a++ws):=by rw[Vas]; rfl
  have A:za1 K av ex (List.replicate (n+1) a++ws)=none:=by
   rw[e]
   exact zqo ha h
  unfold zbq zaV zaN
  rw[A]
 intro f
 induction f with
 | zero=>
  intro n hn
  obtain⟨n',rfl⟩:∃n',n=n'+1:=⟨n-1,by omega⟩
  exact go (λ_=>none) n' rfl
 | succ f ih=>
  intro n hn
  obtain⟨n',rfl⟩:∃n',n=n'+1:=⟨n-1,by omega⟩
  exact go (zcy K av pv f) n' (ih n' (by omega))
def wtW:Wd→Int
 | .at=>1
 | .lp=>0
 | .rp=>0
 | _=>-1
def brW:Wd→Int
 | .lp=>1
 | .rp=>-1
 | _=>0
def zcx (g:Wd→Int)(K:α→Wd)(c:List α):Int:=(c.map λw=>g (K w)).sum
theorem zb4 (g:Wd→Int)(c d:List α):zcx g K (c++d)=zcx g K c+zcx g K d:=by
 unfold zcx
 rw[Vaq,List.sum_append]
theorem zbR (g:Wd→Int)(w:α)(d:List α):zcx g K (w::d)=g (K w)+zcx g K d:=by
 unfold zcx
 exact List.sum_cons
theorem ziz (g:Wd→Int):zcx g K []=0:=rfl
theorem zkr {a:α}{n:Nat}(h:zcw (K a)=some n):K a=.pl∨K a=.mi:=by
 cases e:K a <;> rw[e] at h <;> first | exact .inl rfl | exact .inr rfl | cases h
theorem zg9 {l k:Nat}{c:List α}{t:Tr}(h:Ex K av pv l k c t):zcx wtW K c=1∧zcx brW K c=0:=by
 induction h with
 | atom hw _=>simp[zbR,ziz,hw,wtW,brW]
 | shut ha hb _ ih=>simp[zbR,zb4,ziz,ha,hb,wtW,brW,ih.1,ih.2]
 | pow ha hp _ _ ih=>simp[zbR,zb4,ziz,ha,hp,wtW,brW,ih.1,ih.2]
 | tim ha _ _ _ _ ih1 ih2=>simp[zbR,zb4,ha,wtW,brW,ih1.1,ih1.2,ih2.1,ih2.2]
 | sum ha _ _ _ ih1 ih2=>rcases zkr ha with e | e <;> simp[zbR,zb4,e,wtW,brW,ih1.1,ih1.2,ih2.1,ih2.2]
theorem zmj (w:Wd):wtW w≠0∨brW w≠0:=by cases w <;> simp[wtW,brW]
theorem zsq {l k l' k':Nat}{p s:List α}{x:α}{t t':Tr}(h:Ex K av pv l k (p++x::s) t)(h':Ex K av pv l' k' (p++s) t'):False:=by
 have a:=zg9 h
 have b:=zg9 h'
 rw[zb4,zb4,zbR,zbR] at a
 rw[zb4,zb4] at b
 rcases zmj (K x) with z | z <;> omega
theorem zpS {l k l' k':Nat}{p s:List α}{x:α}{t t':Tr}(h:Ex K av pv l k (p++x::s) t)(h':Ex K av pv l' k' (p++x::x::s) t'):False:=by
 have a:=zg9 h
 have b:=zg9 h'
 rw[zb4,zb4,zbR,zbR] at a
 rw[zb4,zb4,zbR,zbR,zbR,zbR] at b
 rcases zmj (K x) with z | z <;> omega
def chk (K:α→Wd)(av:α→Option Tr)(pv:α→Option Int):Bool→List α→Bool
 | _,[]=>true
 | true,w::r=>(pv w).isSome&&chk K av pv false r
 | false,w::r=>match K w with
  | .ca=>chk K av pv true r
  | .at=>(av w).isSome&&chk K av pv false r
  | _=>chk K av pv false r
theorem ziS {l k:Nat}{c:List α}{t:Tr}(h:Ex K av pv l k c t):∀r,chk K av pv false (c++r)=chk K av pv false r:=by
 induction h with
 | atom hw ha=>intro r; simp[chk,hw,ha]
 | shut ha hb _ ih=>intro r; simp[chk,ha,hb,ih]
 | pow ha hp hn _ ih=>intro r; simp[chk,ha,hn,ih]
 | tim ha _ _ _ _ ih1 ih2=>intro r; simp[chk,ha,ih1,ih2]
 | sum ha _ _ _ ih1 ih2=>intro r; rcases zkr ha with e | e <;> simp[chk,e,ih1,ih2]
theorem zsx {l k l' k':Nat}{c:List α}{a m:α}{t t':Tr}(h:Ex K av pv l k c t)(ha:K a=.ca)(hm:pv m=none)(h':Ex K av pv l' k' (c++[a,m]) t'):False:=by
 have z:=ziS h' []
 rw[Var,ziS h] at z
 simp[chk,ha,hm] at z
theorem zlE {x:α}{s:List α}(hx:K x=.at)(hn:av x=none):∀(p:List α) (b:Bool),(p=[]→b=false)→(∀w,p.getLast?=some w→K w≠.ca)→chk K av pv b (p++x::s)=false
 | [],b,hb,_=>by
  rw[hb rfl]
  simp[chk,hx,hn]
 | [w],b,_,hl=>by
  have nw:K w≠.ca:=hl w rfl
  have z:chk K av pv false (x::s)=false:=by simp[chk,hx,hn]
  cases b with
  | true=>show ((pv w).isSome&&chk K av pv false (x::s))=false; rw[z]; simp
  | false=>
   show (match K w with | .ca=>_ | .at=>(av w).isSome&&chk K av pv false (x::s) | _=>chk K av pv false (x::s))=false
   cases e:K w <;> simp[z] <;> exact absurd e nw
 | w::w2::p,b,_,hl=>by
  have i1:=λb=>zlE (s:=s) hx hn (w2::p) b (λe=>by cases e) (λy hy=>hl y (by rw[List.getLast?_cons_cons]; exact hy))
  cases b with
  | true=>show ((pv w).isSome&&chk K av pv false (w2::p++x::s))=false; rw[i1]; simp
  | false=>
   show (match K w with | .ca=>chk K av pv true (w2::p++x::s) | .at=>(av w).isSome&&chk K av pv false (w2::p++x::s) | _=>chk K av pv false (w2::p++x::s))=false
   rw[i1,i1]
   cases K w <;> simp
theorem zqV {l k:Nat}{p s:List α}{x:α}{t:Tr}(hx:K x=.at)(hn:av x=none)(hp:∀w,p.getLast?=some w→K w≠.ca)(h:Ex K av pv l k (p++x::s) t):False:=by
 have z:=ziS h []
 rw[Var,zlE hx hn p false (λ_=>rfl) hp] at z
 cases z
end
section
variable {X:Cx}{Z:Zx}{pos:Pos}
@[irreducible] def zeS (C:Addr)(f:Str)(sg:Int→Int→Int)(to te:TDE):TDS:=λE dl S=>to dl S λd S1=>match zb5 C S1 d with
 | some (_,fs)=>match fs.lookup f with
  | some (.int i)=>te dl S1 λy S2=>match y with
   | .int j=>match zb5 C S2 d with
    | some (n,fs2)=>fs2.length<1000∧E.nx dl (S2.set n (.ins C (zbS f (.int (sg i j)) fs2)))
    | none=>False
   | _=>False
  | _=>False
 | none=>False
theorem zl8 {op:Operator}{rd:V→V→Hp→VK→Prop}{sg:Int→Int→Int}{C:Addr}{f:Str}{o e:Expr}{to te:TDE}{p2:Pos}(c:Cls X.K C)(n:zbA X.K C f)(hop:zhm X op rd)(hrd:∀i j H Q,Q (.int (sg i j)) H→rd (.int i) (.int j) H Q)(ho:PD X Z o to)(he:PD X Z e te):
  PDS X Z (.AugAssign (.Attribute o f p2) op e pos) (zeS C f sg to te):=
 zcE (zrv ho he hop) λF σ H ⟨r,dl,S,E,rs,rel,h,ret⟩=>by
  unfold zeS at h
  refine⟨r,dl,S,_,rs,rel,h,λv H1 r1 d S1 e1 rel1 p1 q1=>?_⟩
  split at q1
  ·rename_i m fs ei
   obtain⟨rfl,eS⟩:=zgD ei
   split at q1
   ·rename_i i ef
    obtain⟨a,ha,ob⟩:=rel1.at eS
    obtain⟨dx,fs',eH,fr⟩:=id ob
    cases p1 with
    | ref hr=>
     rw[hr] at ha; cases ha
     obtain⟨u,hu,pu⟩:=fr.lookup.1 _ ef
     cases pu
     refine⟨a,C,dx,fs',_,rfl,eH,c,n,hu,r1,dl,S1,_,rs.ext e1,rel1,q1,λw H2 r2 y S2 e2 rel2 p2' q2=>?_⟩
     split at q2
     ·rename_i j
      cases p2'
      split at q2
      ·rename_i m2 fs2 ei2
       obtain⟨em,eS2⟩:=zgD ei2
       cases em
       obtain⟨hl,q2⟩:=q2
       obtain⟨a2,ha2,ob2⟩:=rel2.at eS2
       obtain⟨dx2,fs2',eH2,fr2⟩:=id ob2
       have hr2:=e2.adr _ _ hr
       rw[hr2] at ha2; cases ha2
       have hlen:fs2'.length=fs2.length:=by
        have:=congrArg List.length fr2.1
        simpa using this.symm
       refine hrd i j _ _ ?_
       obtain⟨rb,x⟩:=rel2.b.setO (o':=.ins C (zbS f (.int (sg i j)) fs2)) (u:=.ins C dx2 (zbb f (.int (sg i j)) fs2')) hr2 eS2 rfl rfl λx=>⟨dx2,_,zbV,(fr2.put (.int _)).ext x⟩
       exact⟨dx2,fs2',eH2,by omega,ret.nx _ _ r2 _ _ (e1.trans (e2.trans x)) (rs.ext (e1.trans (e2.trans x))) ⟨rb,rel2.xw.ext x⟩ q2⟩
      ·exact q2.elim
     ·exact q2.elim
   ·exact q1.elim
  ·exact q1.elim
theorem zlP {C:Addr}{f:Str}{o e:Expr}{to te:TDE}{p2:Pos}(c:Cls X.K C)(n:zbA X.K C f)(ho:PD X Z o to)(he:PD X Z e te):PDS X Z (.AugAssign (.Attribute o f p2) .Add e pos) (zeS C f (λi j=>i+j) to te):=zl8 c n zqp (λi j H Q q=>⟨i,j,rfl,rfl,q⟩) ho he
theorem zqP {C:Addr}{f:Str}{o e:Expr}{to te:TDE}{p2:Pos}(c:Cls X.K C)(n:zbA X.K C f)(ho:PD X Z o to)(he:PD X Z e te):PDS X Z (.AugAssign (.Attribute o f p2) .Sub e pos) (zeS C f (λi j=>i-j) to te):=zl8 c n zsc (λi j H Q q=>⟨i,j,rfl,rfl,q⟩) ho he
end
def GD (P:Program)(w:World)(K:PySem.W.Frag)(mg:Str→Option Value)(x:Str)(kvs:List (Str×Str)):Prop:=
 ∃(a:Addr) (o:Obj) (vs:List (Key×Value)),mg x=some (.ref a)∧K.lookup a=some o∧(∀h:Heap,h.get? a=some o→h.DictOf (zex P w) a vs)∧∀k v,kvs.lookup k=some v→∃t,valueAt vs (.inr k)=some (.str v t)
section
variable {X:Cx}{Z:Zx}{pos:Pos}
def tGetS (kvs:List (Str×Str))(ty:TE):TE:=λσ H Q=>ty σ H λy H1=>∃k v,y=.str k∧kvs.lookup k=some v∧Q (.str v) H1
theorem zqN {x:Str}{i:Expr}{ty:TE}{p:Pos}{kvs:List (Str×Str)}(g:GD X.prog X.w X.K X.mg x kvs)(hg:Gl X x)(hi:PE X i ty)(hs:NoSl i)(hd:(x==("__debug__":Str))=false:=by decide):PE X (.Subscript (.Name x p) i pos) (tGetS kvs ty):=by
 intro pins s σ H Q I h
 obtain⟨a,o,vs,hm,hk,hdo,hv⟩:=g
 refine zqG (T:="dict") PySem.F.slot_dict_getitem.lookup hs (thn (zeT hg hm (v:=.ref a) rfl hd pins s σ H (λx H1=>x=.ref a∧H1=H) I ⟨rfl,rfl⟩) λu s1 ⟨x1,H1,I1,rx,e1,e2⟩=>?_)
 subst e1
 subst e2
 obtain rfl:u=Value.ref a:=rx
 refine thn (hi pins s1 σ H1 _ I1 h) λiv s2 ⟨y,H2,I2,ry,k,v,ey,el,q2⟩=>?_
 subst ey
 have dd:=hdo s2.heap (I2.kIn a o hk)
 obtain⟨t,hw⟩:=hv k v el
 exact⟨dd.typeIs,wpAny_getItem_of (kV_is (k:=.inr k) ry) dd.mapOf hw ⟨.str v,H2,I2.tok _,⟨t,rfl⟩,q2⟩⟩
@[irreducible] def zid (kvs:List (Str×Str))(te:TDE):TDE:=λdl S Q=>te dl S λd S1=>match d with
 | .str k=>match kvs.lookup k with
  | some v=>Q (.str v) S1
  | none=>False
 | _=>False
theorem zr9 {x:Str}{i:Expr}{te:TDE}{p:Pos}{kvs:List (Str×Str)}(g:GD X.prog X.w X.K X.mg x kvs)(hg:Gl X x)(hi:PD X Z i te)(hs:NoSl i)(hd:(x==("__debug__":Str))=false:=by decide):PD X Z (.Subscript (.Name x p) i pos) (zid kvs te):=
 zaD (zqN g hg hi hs hd) λσ H Qv ⟨r,dl,S,Q,rs,rel,h,ret⟩=>by
  unfold zid at h
  refine⟨r,dl,S,_,rs,rel,h,λv H1 r1 d S1 e1 rel1 p1 q1=>?_⟩
  split at q1
  ·rename_i k
   cases p1
   split at q1
   ·rename_i z ez
    exact⟨k,z,rfl,ez,ret _ H1 r1 (.str z) S1 e1 rel1 (.str z) q1⟩
   ·exact q1.elim
  ·exact q1.elim
end
theorem zoY {P:Program}{w:World}{K:PySem.W.Frag}{mg:Str→Option Value}{x k1 k2 v1 v2:Str}{a:Addr}{o:Obj}{t1 t2 u1 u2:Tok}{ep:Nat}(hm:mg x=some (.ref a))(hk:K.lookup a=some o)(ho:o.ExactDict)(hd:o.data=.dict #[⟨zfZ w (.inr k1),.str k1 t1,.str v1 u1⟩,⟨zfZ w (.inr k2),.str k2 t2,.str v2 u2⟩] ep)(ne:k1≠k2):GD P w K mg x [(k1,v1),(k2,v2)]:=by
 refine⟨a,o,[(.inr k1,.str v1 u1),(.inr k2,.str v2 u2)],hm,hk,λh e=>⟨o,_,ep,e,ho,hd,?_,?_,?_⟩,λk v hl=>?_⟩
 ·intro e he
  simp only[List.mem_toArray,Vad,VaR,or_false] at he
  rcases he with rfl | rfl
  ·exact⟨.inr k1,zgr P w k1 t1,rfl⟩
  ·exact⟨.inr k2,zgr P w k2 t2,rfl⟩
 ·exact .cons (zgr P w k1 t1) rfl (.cons (zgr P w k2 t2) rfl .nil)
 ·simp[ne]
 ·unfold valueAt
  by_cases c1:k=k1
  ·subst c1
   simp at hl
   subst hl
   exact⟨u1,by simp⟩
  ·by_cases c2:k=k2
   ·subst c2
    rw[Vaj,show (k==k1)=false by simpa using c1,Vaj] at hl
    simp at hl
    subst hl
    exact⟨u2,by simp[ne]⟩
   ·rw[Vaj,show (k==k1)=false by simpa using c1,Vaj,show (k==k2)=false by simpa using c2] at hl
    cases hl
section
variable {X:Cx}{Z:Zx}{pos:Pos}
def dGlbT (ws:List Str):TDE:=λ_ S Q=>Q (.ref S.length) (S++[.tpl ws])
theorem zpN {x:Str}{ws:List Str}{p:Pos}(hG:GT X.K X.mg x ws)(hg:Gl X x)(hd:(x==("__debug__":Str))=false:=by decide):PD X Z (.Name x p) (dGlbT ws):=by
 obtain⟨b,o,its,n,hm,hk,hc,hdt,hz,hv⟩:=hG
 refine zaD (zeT (v:=.ref b) hg hm rfl hd) λσ H Qv ⟨r,dl,S,Q,rs,rel,h,ret⟩=>?_
 obtain⟨rb,x⟩:=rel.b.pushF (p:=b) (o:=.tpl ws) rfl ⟨o,its,n,hk,hc,hdt,hz,hv⟩
 exact ret (.ref b) H (r++[b]) (.ref S.length) _ x ⟨rb,rel.xw.ext x⟩ (zdb rel.len) h
def zfn:W2:=λx y S Q=>match y with
 | .tup ys=>match zbU (eqN 0) ys x with
  | some b=>Q (.bl b) S
  | none=>False
 | .ref n=>match x with
  | .str w=>match S[n]? with
   | some (.tpl ws)=>Q (.bl (ws.any (·==w))) S
   | _=>False
  | _=>False
 | _=>False
theorem zoA {j:Nat}(hr:zax j X.A):OpR X (compareOp .In) (upO X.K Z (zbE zfn)):=by
 rw[zco]
 intro pins s σ H x y v u Qv I rx ry h
 obtain⟨r,S,dx,dy,Q,rel,px,py,q,ret⟩:=h
 cases py with
 | tup e1 l1 f1=>exact zqu (k:=0) hr (by decide) pins s σ H x _ v u Qv I rx ry ⟨r,S,dx,_,Q,rel,px,.tup e1 l1 f1,q,ret⟩
 | @ref n a hn=>
  unfold zfn at q
  dsimp only at q
  split at q
  ·rename_i w
   cases px
   split at q
   ·rename_i ws eS
    obtain⟨a',ha',o,its,m,hk,hc,hdt,hz,hv⟩:=rel.at eS
    rw[hn] at ha'; cases ha'
    refine zrr pins s σ H _ _ v u Qv I rx ry ⟨a,ws.map V.str,rfl,.inr (.inr ⟨o,its,m,hk,hc,hdt,hz,hv⟩),rfl,zjs ws,?_⟩
    show Qv (.bl (inV (.str w) (ws.map V.str))) H
    rw[zjy]
    exact ret _ H r (.bl _) S Ext.refl rel (.bl _) q
   ·exact q.elim
  ·exact q.elim
 | _=>exact(show False from q).elim
theorem znI {S:Sto}{Q:DK}{ws:List Str}{w:Str}(h:Q (.bl (ws.any (·==w))) S):zbE zfn (.str w) (.tup (ws.map D.str)) S Q:=by
 rw[zco]
 unfold zfn
 dsimp only
 have e:∀ws:List Str,zbU (eqN 0) (ws.map D.str) (.str w)=some (ws.any (·==w)):=λws=>ziM ..
 rw[e]
 exact h
theorem zpa {S:Sto}{Q:DK}{n:Nat}{ws:List Str}{w:Str}(hn:S[n]?=some (.tpl ws))(h:Q (.bl (ws.any (·==w))) S):zbE zfn (.str w) (.ref n) S Q:=by
 rw[zco]
 unfold zfn
 dsimp only
 rw[hn]
 exact h
end
def _root_.L3.Df.vac {P:Program}{w:World}{K:PySem.W.Frag}{mg:Str→Option Value}{base:Heap}{x:Str}{st:Stmt}{ps:List Str}{sd:Sd}(d:Df K mg x st ps)(k:Nat)(hv:∀ds S Q ex,sd ds S Q ex→False):Fk P w K mg base k x ps sd:=
 ⟨d.f,d.fd,⟨λ_ _ _ _ ⟨_,_,_,_,_,_,_,z,_⟩=>(hv _ _ _ _ z).elim,λ_ _ _ _ _ _ _ _ _ _ _ _ _ ⟨_,_,_,_,_,_,_,z,_⟩=>(hv _ _ _ _ z).elim⟩,d.m,d.F.kp,d.b⟩
def _root_.L3.Dm.vac {P:Program}{w:World}{K:PySem.W.Frag}{mg:Str→Option Value}{base:Heap}{C:Addr}{x qual:Str}{st:Stmt}{ps:List Str}{sd:Sd}(d:Dm K C x qual st ps)(k:Nat)(hv:∀ds S Q ex,sd ds S Q ex→False):Fm P w K mg base k C x ps sd:=
 ⟨d.f,d.fd,⟨λ_ _ _ _ ⟨_,_,_,_,_,_,_,z,_⟩=>(hv _ _ _ _ z).elim,λ_ _ _ _ _ _ _ _ _ _ _ _ _ ⟨_,_,_,_,_,_,_,z,_⟩=>(hv _ _ _ _ z).elim⟩,d.m,d.b⟩
def trD:Tr→D
 | .nm w=>.tup [.str "name",.str (mk w)]
 | .nb t b=>.tup [.str "number",.int t,.int b]
 | .pw t k=>.tup [.str "power",trD t,.int k]
 | .bi 0 l r=>.tup [.str "plus",trD l,trD r]
 | .bi 1 l r=>.tup [.str "minus",trD l,trD r]
 | .bi _ l r=>.tup [.str "times",trD l,trD r]
def kS (w:Str):Wd:=if w="(" then .lp else if w=")" then .rp else if w="+" then .pl else if w="-" then .mi else if w="*" then .ti else if w="^" then .ca else .at
def POW:List Str:=["2","3","4","5","6"]
def pvS (w:Str):Option Int:=if w="2" then some 2 else if w="3" then some 3 else if w="4" then some 4 else if w="5" then some 5 else if w="6" then some 6 else none
open Classical in
noncomputable def avS (w:Str):Option Tr:=if zbm w=true then some (.nm (cs w)) else if h:∃t b:Int,zbd (cs w) t b then some (.nb h.choose h.choose_spec.choose) else none
noncomputable abbrev exS (f:Nat):Rd Str:=zcy kS avS pvS f
noncomputable abbrev inS (f:Nat):Rd Str:=zbI kS avS pvS f
def rdF (wm:Nat)(p d:Int):List (Str×D):=[("words",.ref wm),("place",.int p),("depth",.int d)]
structure zaR (C:Addr)(S:Sto)(n wm:Nat)(ws:List Str)(p d:Nat):Prop where
 rd:S[n]?=some (.ins C (rdF wm (p:Int) (d:Int)))
 wd:S[wm]?=some (.lst (ws.map D.str))
 pl:p≤ws.length
 ln:ws.length≤900
 wl:∀w∈ws,w.length≤900
def zaI (n:Nat)(S T:Sto):Prop:=n<T.length∧∀(x:Nat) (o:Ob),x≠n→S[x]?=some o→T[x]?=some o
theorem zaI.refl {n:Nat}{S:Sto}(h:n<S.length):zaI n S S:=⟨h,λ_ _ _ e=>e⟩
theorem zaI.trans {n:Nat}{S T U:Sto}(a:zaI n S T)(b:zaI n T U):zaI n S U:=⟨b.1,λx o ne e=>b.2 x o ne (a.2 x o ne e)⟩
theorem zaI.set {n:Nat}{S T:Sto}(a:zaI n S T)(o:Ob):zaI n S (T.set n o):=⟨by rw[List.length_set]; exact a.1,λx u ne e=>by rw[VaA (Ne.symm ne)]; exact a.2 x u ne e⟩
theorem zaI.app {n:Nat}{S T:Sto}(a:zaI n S T)(U:Sto):zaI n S (T++U):=⟨by rw[Vah]; have:=a.1; omega,λx u ne e=>by
 have z:=a.2 x u ne e
 rw[Van (Vac.mp z).1]
 exact z⟩
theorem zjr {C:Addr}{f:Str}{sg:Int→Int→Int}{to te:TDE}{dl:Ev}{S S1 S2:Sto}{E:zbL}{n:Nat}{fs fs2:List (Str×D)}{i j:Int}(hto:∀K:DK,K (.ref n) S1→to dl S K)(h1:S1[n]?=some (.ins C fs))(hf:fs.lookup f=some (.int i))(hte:∀K:DK,K (.int j) S2→te dl S1 K)(h2:S2[n]?=some (.ins C fs2))(hl:fs2.length<1000)(hq:E.nx dl (S2.set n (.ins C (zbS f (.int (sg i j)) fs2)))):zeS C f sg to te E dl S:=by
 unfold zeS
 refine hto _ ?_
 simp only[zb5,h1,if_pos,hf]
 refine hte _ ?_
 simp only[h2,if_pos]
 exact⟨hl,hq⟩
theorem zjt (T:Sto)(u v:Ob):(T++[u]).set T.length v=T++[v]:=by simp
theorem zaR.ne {C:Addr}{S:Sto}{n wm p d:Nat}{ws:List Str}(h:zaR C S n wm ws p d):wm≠n:=λe=>by
 have a:=h.wd
 rw[e,h.rd] at a
 cases a
theorem zaR.lt {C:Addr}{S:Sto}{n wm p d:Nat}{ws:List Str}(h:zaR C S n wm ws p d):n<S.length:=(Vac.mp h.rd).1
theorem zaR.put {C:Addr}{S:Sto}{n wm p d:Nat}{ws:List Str}(h:zaR C S n wm ws p d){p' d':Nat}(pi di:Int)(hp:pi=(p':Int))(hd:di=(d':Int))(l:p'≤ws.length):zaR C (S.set n (.ins C (rdF wm pi di))) n wm ws p' d'∧zaI n S (S.set n (.ins C (rdF wm pi di))):=by
 subst hp
 subst hd
 refine⟨⟨?_,?_,l,h.ln,h.wl⟩,(zaI.refl h.lt).set _⟩
 ·rw[VaD h.lt]
 ·rw[VaA (Ne.symm h.ne)]
  exact h.wd
theorem zaR.app {C:Addr}{S:Sto}{n wm p d:Nat}{ws:List Str}(h:zaR C S n wm ws p d)(U:Sto):zaR C (S++U) n wm ws p d∧zaI n S (S++U):=by
 refine⟨⟨?_,?_,h.pl,h.ln,h.wl⟩,(zaI.refl h.lt).app U⟩
 ·rw[Van h.lt]; exact h.rd
 ·rw[Van (Vac.mp h.wd).1]; exact h.wd
theorem zd3 {ws:List Str}{p:Nat}(lp:p<ws.length):atI (ws.map D.str) (p:Int)=some (.str ws[p]):=zhi (j:=p) (by rw[Vau,Vay lp]; rfl)
theorem zcP (w:Str)(t:Tr)(h:avS w=some t):kS w=.at:=by
 have bad:∀x:Str,zbm x=false→Bad (cs x)→avS x=none:=λx a b=>by
  unfold avS
  rw[if_neg (by rw[a]; decide),dif_neg λ⟨t,q,z⟩=>b t q z]
 have no:∀x:Str,avS x=none→w≠x:=λx e z=>by rw[z,e] at h; cases h
 have b1:avS "("=none:=bad _ (by decide) (zb0 (c:=40) (by decide) (by decide))
 have b2:avS ")"=none:=bad _ (by decide) (zb0 (c:=41) (by decide) (by decide))
 have b3:avS "+"=none:=bad _ (by decide) (zb0 (c:=43) (by decide) (by decide))
 have b4:avS "*"=none:=bad _ (by decide) (zb0 (c:=42) (by decide) (by decide))
 have b5:avS "^"=none:=bad _ (by decide) (zb0 (c:=94) (by decide) (by decide))
 have b6:avS "-"=none:=bad _ (by decide) (by
  rw[show cs ("-":Str)=[45] by decide]
  exact zeR (by decide) λt _=>zmS t)
 unfold kS
 rw[if_neg (no _ b1),if_neg (no _ b2),if_neg (no _ b3),if_neg (no _ b6),if_neg (no _ b4),if_neg (no _ b5)]
theorem zd0 (w:Str)(k:Int)(h:pvS w=some k):kS w=.at:=by
 unfold pvS at h
 by_cases c2:w="2"
 ·rw[c2]; decide
 by_cases c3:w="3"
 ·rw[c3]; decide
 by_cases c4:w="4"
 ·rw[c4]; decide
 by_cases c5:w="5"
 ·rw[c5]; decide
 by_cases c6:w="6"
 ·rw[c6]; decide
 rw[if_neg c2,if_neg c3,if_neg c4,if_neg c5,if_neg c6] at h
 cases h
theorem zrG {α:Type}(A r:List α):(A++r).drop ((A++r).length-r.length)=r∧r.length≤(A++r).length:=by
 rw[Vah,Nat.add_sub_cancel]
 exact⟨List.drop_left,by omega⟩
theorem zep {ex:Rd Str}{l:Nat}(hx:Sou (K:=kS) (av:=avS) (pv:=pvS) ex l){ws:List Str}{p:Nat}{t:Tr}{r:List Str}(h:ex (ws.drop p)=some (t,r)):ws.drop (ws.length-r.length)=r∧r.length≤ws.length:=by
 obtain⟨c,_,_,e,_⟩:=hx _ _ _ h
 have z:ws=(ws.take p++c)++r:=by
  rw[Vaw,← e]
  exact(List.take_append_drop p ws).symm
 have y:=zrG (ws.take p++c) r
 rw[← z] at y
 exact y
theorem ziB (f:Nat):Sou (K:=kS) (av:=avS) (pv:=pvS) (exS f) 0:=zkH zcP zd0 f
theorem zfq (f:Nat):Sou (K:=kS) (av:=avS) (pv:=pvS) (inS f) 0:=by
 cases f with
 | zero=>exact λ_ _ _ e=>by cases e
 | succ f=>exact ziB f
theorem zlC (w:Str):kS w=.lp↔w="(":=by
 unfold kS
 constructor
 ·intro h
  (repeat' split at h) <;> first | assumption | cases h
 ·rintro rfl
  decide
theorem zkm (w:Str):kS w=.rp↔w=")":=by
 unfold kS
 constructor
 ·intro h
  (repeat' split at h) <;> first | assumption | cases h
 ·rintro rfl
  decide
theorem zja (w:Str):kS w=.ti↔w="*":=by
 unfold kS
 constructor
 ·intro h
  (repeat' split at h) <;> first | assumption | cases h
 ·rintro rfl
  decide
theorem zg2 (w:Str):kS w=.ca↔w="^":=by
 unfold kS
 constructor
 ·intro h
  (repeat' split at h) <;> first | assumption | cases h
 ·rintro rfl
  decide
theorem zma (w:Str):kS w=.pl↔w="+":=by
 unfold kS
 constructor
 ·intro h
  (repeat' split at h) <;> first | assumption | cases h
 ·rintro rfl
  decide
theorem zky (w:Str):kS w=.mi↔w="-":=by
 unfold kS
 constructor
 ·intro h
  (repeat' split at h) <;> first | assumption | cases h
 ·rintro rfl
  decide
theorem txNe {a b:Str}{S:Sto}{Q:DK}(h:Q (.bl (!decide (a=b))) S):wNe eq2 (.str a) (.str b) S Q:=h
theorem txEq {a b:Str}{S:Sto}{Q:DK}(h:Q (.bl (decide (a=b))) S):wEq eq2 (.str a) (.str b) S Q:=h
noncomputable def brS (f:Nat)(r:List Str):Option (Tr×List Str):=match inS f r with
 | some (t,w2::r2)=>if kS w2=Wd.rp then some (t,r2) else none
 | _=>none
theorem znY {f:Nat}{w:Str}{r:List Str}(h:w="("):za1 kS avS (inS f) (w::r)=brS f r:=by
 show (if kS w=.lp then _ else _)=_
 rw[if_pos ((zlC w).mpr h)]
 unfold brS
 cases inS f r with
 | none=>rfl
 | some x=>
  obtain⟨t,l⟩:=x
  cases l <;> rfl
theorem zpu {f:Nat}{w:Str}{r:List Str}(h:w≠"("):za1 kS avS (inS f) (w::r)=(avS w).map λt=>(t,r):=by
 show (if kS w=.lp then _ else _)=_
 rw[if_neg λz=>h ((zlC w).mp z)]
theorem zjE {w:Str}(h:zbm w=true):avS w=some (.nm (cs w)):=by
 unfold avS
 rw[if_pos h]
theorem zme {w:Str}(h:zbm w=false){t b:Int}(hn:zbd (cs w) t b):avS w=some (.nb t b):=by
 unfold avS
 have z:∃t b:Int,zbd (cs w) t b:=⟨t,b,hn⟩
 rw[if_neg (by rw[h]; decide),dif_pos z]
 obtain⟨e1,e2⟩:=zbd.one z.choose_spec.choose_spec hn
 exact congrArg some (by rw[Tr.nb.injEq]; exact⟨e1,e2⟩)
theorem zmm {w:Str}(h:zbm w=false)(hn:Bad (cs w)):avS w=none:=by
 unfold avS
 rw[if_neg (by rw[h]; decide),dif_neg λ⟨t,b,z⟩=>hn t b z]
theorem zri {i:Nat}{a b:Str}{t u v:TDS}{E:zbL}{dl:Ev}{S:Sto}(hv:dl[i]?=some (some (.str a)))(h1:a=b→zaP t v E dl S)(h2:a≠b→zaP u v E dl S):zaP (dIf (zd9 (dOp (wEq eq2) (zbf i) (dC (.str b)))) t u) v E dl S:=by
 unfold zaP dIf zd9 dOp zbf dC
 rw[hv]
 dsimp only
 refine txEq ?_
 by_cases c:a=b
 ·rw[decide_eq_true c]
  exact h1 c
 ·rw[decide_eq_false c]
  exact h2 c
section
variable {ex:Rd Str}{ws r:List Str}{t:Tr}{w p:Str}
theorem znw (h:za1 kS avS ex ws=none):zaN kS avS pvS ex ws=none:=by simp[zaN,h]
theorem zmF (h:za1 kS avS ex ws=some (t,[])):zaN kS avS pvS ex ws=some (t,[]):=by simp[zaN,h]
theorem zoo (h:za1 kS avS ex ws=some (t,w::r))(c:w≠"^"):zaN kS avS pvS ex ws=some (t,w::r):=by simp[zaN,h,zg2,c]
theorem zpy (h:za1 kS avS ex ws=some (t,[w]))(c:w="^"):zaN kS avS pvS ex ws=none:=by simp[zaN,h,zg2,c]
theorem zp7 (h:za1 kS avS ex ws=some (t,w::p::r))(c:w="^"):zaN kS avS pvS ex ws=(pvS p).map λk=>(.pw t k,r):=by simp[zaN,h,zg2,c]
end
theorem zm7 (p:Str):(POW.any λx=>x==p)=(pvS p).isSome:=by
 unfold pvS POW
 by_cases c2:p="2"
 ·rw[c2]; decide
 by_cases c3:p="3"
 ·rw[c3]; decide
 by_cases c4:p="4"
 ·rw[c4]; decide
 by_cases c5:p="5"
 ·rw[c5]; decide
 by_cases c6:p="6"
 ·rw[c6]; decide
 rw[if_neg c2,if_neg c3,if_neg c4,if_neg c5,if_neg c6]
 simp[Ne.symm c2,Ne.symm c3,Ne.symm c4,Ne.symm c5,Ne.symm c6]
theorem zpk {p:Str}{k:Int}(h:pvS p=some k):PySem.intText? p=some k∧p.length≤640:=by
 unfold pvS at h
 by_cases c2:p="2"
 ·rw[if_pos c2] at h; cases h; rw[c2]; exact⟨by decide +kernel,by decide⟩
 rw[if_neg c2] at h
 by_cases c3:p="3"
 ·rw[if_pos c3] at h; cases h; rw[c3]; exact⟨by decide +kernel,by decide⟩
 rw[if_neg c3] at h
 by_cases c4:p="4"
 ·rw[if_pos c4] at h; cases h; rw[c4]; exact⟨by decide +kernel,by decide⟩
 rw[if_neg c4] at h
 by_cases c5:p="5"
 ·rw[if_pos c5] at h; cases h; rw[c5]; exact⟨by decide +kernel,by decide⟩
 rw[if_neg c5] at h
 by_cases c6:p="6"
 ·rw[if_pos c6] at h; cases h; rw[c6]; exact⟨by decide +kernel,by decide⟩
 rw[if_neg c6] at h
 cases h
theorem zje {ws r:List Str}{w:Str}(h:ws.drop (ws.length-(r.length+1))=w::r)(l:r.length+1≤ws.length):ws.drop (ws.length-r.length)=r:=by
 have z:=congrArg List.tail h
 rw[List.tail_drop] at z
 rw[show ws.length-r.length=ws.length-(r.length+1)+1 by omega]
 exact z
section
variable {ex:Rd Str}{ws r r2:List Str}{t t2:Tr}{w p:Str}{n k:Nat}
theorem zoG (h:zaN kS avS pvS ex ws=none):zaV kS avS pvS ex ws=none:=by simp[zaV,h]
theorem zoK (h:zaN kS avS pvS ex ws=some (t,r)):zaV kS avS pvS ex ws=zbh kS avS pvS ex ws.length t r:=by simp[zaV,h]
theorem zmU (c:w="*")(h:zaN kS avS pvS ex r=none):zbh kS avS pvS ex (n+1) t (w::r)=none:=by simp[zbh,zja,c,h]
theorem zm1 (c:w="*")(h:zaN kS avS pvS ex r=some (t2,r2)):zbh kS avS pvS ex (n+1) t (w::r)=zbh kS avS pvS ex n (.bi 2 t t2) r2:=by simp[zbh,zja,c,h]
theorem zo4 (h:zaV kS avS pvS ex ws=none):zbq kS avS pvS ex ws=none:=by simp[zbq,h]
theorem znF (h:zaV kS avS pvS ex ws=some (t,r)):zbq kS avS pvS ex ws=zbs kS avS pvS ex ws.length t r:=by simp[zbq,h]
theorem zlO (c:zcw (kS w)=some k)(h:zaV kS avS pvS ex r=none):zbs kS avS pvS ex (n+1) t (w::r)=none:=by simp[zbs,c,h]
theorem zkA (c:zcw (kS w)=some k)(h:zaV kS avS pvS ex r=some (t2,r2)):zbs kS avS pvS ex (n+1) t (w::r)=zbs kS avS pvS ex n (.bi k t t2) r2:=by simp[zbs,c,h]
end
theorem zgl {f:Nat}{ws:List Str}{t:Tr}{r:List Str}(h:inS f ws=some (t,r)):r.length<ws.length:=by
 cases f with
 | zero=>cases h
 | succ f=>exact ziJ f h
theorem zmg {kvs:List (Str×Str)}{te:TDE}{dl:Ev}{S:Sto}{Q:DK}(h:te dl S λd S1=>match d with | .str k=>(match kvs.lookup k with | some v=>Q (.str v) S1 | none=>False) | _=>False):zid kvs te dl S Q:=by
 unfold zid
 exact h
theorem zsy {w:Str}(h1:w≠"+")(h2:w≠"-"):zcw (kS w)=none:=by
 cases e:kS w with
 | pl=>exact absurd ((zma w).mp e) h1
 | mi=>exact absurd ((zky w).mp e) h2
 | _=>rfl
noncomputable def trS (ws:List Str):Option Tr:=if 120<ws.length then none else match exS 16 ws with
 | some (t,[])=>some t
 | _=>none
theorem zle {ws:List Str}(l:¬ 120<ws.length)(e:exS 16 ws=none):trS ws=none:=by unfold trS; rw[if_neg l,e]
theorem zj5 {ws:List Str}{t:Tr}(l:¬ 120<ws.length)(e:exS 16 ws=some (t,[])):trS ws=some t:=by unfold trS; rw[if_neg l,e]
theorem zmY {ws:List Str}{t:Tr}{w:Str}{r:List Str}(l:¬ 120<ws.length)(e:exS 16 ws=some (t,w::r)):trS ws=none:=by unfold trS; rw[if_neg l,e]
abbrev exP (l k:Nat)(ws:List Str)(t:Tr):Prop:=Ex kS avS pvS l k ws t
structure Pc (S:Sto)(d:D)(t:Tr)(m:Nat)(ws:List Str)(l k:Nat):Prop where
 eq:d=.tup [trD t,.ref m,.int (l:Int),.int (k:Int)]
 at_:S[m]?=some (.lst (ws.map D.str))
 ex:exP l k ws t
 ln:ws.length≤400
 wl:∀w∈ws,w.length≤600
theorem Pc.pre {S T:Sto}{d:D}{t:Tr}{m:Nat}{ws:List Str}{l k:Nat}(h:Pc S d t m ws l k)(p:Pre S T):Pc T d t m ws l k:=⟨h.eq,p _ _ h.at_,h.ex,h.ln,h.wl⟩
theorem zau {S T:Sto}(p:Pre S T)(U:Sto):Pre S (T++U):=λx o e=>zai (p x o e)
theorem zpq {v:Int}(h:2≤v∧v≤6):pvS (mk (num v))=some v∧(mk (num v)).length≤600:=by
 have c:v=2∨v=3∨v=4∨v=5∨v=6:=by omega
 rcases c with rfl | rfl | rfl | rfl | rfl <;> exact⟨by decide +kernel,by decide +kernel⟩
theorem zrw {v:Int}(h:2≤v∧v≤6):v.natAbs.log2<1920:=by
 have c:v=2∨v=3∨v=4∨v=5∨v=6:=by omega
 rcases c with rfl | rfl | rfl | rfl | rfl <;> decide +kernel
theorem ziD (a b:Nat):(if (b:Int) > (a:Int) then (b:Int) else (a:Int))=((max a b:Nat):Int):=by
 split <;> omega
def Tr.dp:Tr→Nat
 | .nm _=>0
 | .nb _ _=>0
 | .pw t _=>t.dp+1
 | .bi _ l r=>max l.dp r.dp+1
def zdq:List Str:=["grid","let","in","islands","abcdefghi","1234567890","2/4","-0","007","1/1","1/1234567890","x2","X","","0/3","--1"]
theorem zk0 (w:Str)(h:w∈zdq):avS w=none∧kS w=.at∧w.length≤20:=by
 have one:∀x:Str,zbm x=false→Bad (cs x)→kS x=.at→x.length≤20→w=x→avS w=none∧kS w=.at∧w.length≤20:=λx a b c d e=>by
  subst e
  exact⟨zmm a b,c,d⟩
 unfold zdq at h
 simp only[Vad,VaR,or_false] at h
 rcases h with h | h | h | h | h | h | h | h | h | h | h | h | h | h | h | h
 ·exact one _ (by decide) (zb0 (c:=103) (by decide) (by decide)) (by decide) (by decide) h
 ·exact one _ (by decide) (zb0 (c:=108) (by decide) (by decide)) (by decide) (by decide) h
 ·exact one _ (by decide) (zb0 (c:=105) (by decide) (by decide)) (by decide) (by decide) h
 ·exact one _ (by decide) (zb0 (c:=105) (by decide) (by decide)) (by decide) (by decide) h
 ·exact one _ (by decide) (zb0 (c:=97) (by decide) (by decide)) (by decide) (by decide) h
 ·refine one _ (by decide) ?_ (by decide) (by decide) h
  refine zeR (by decide) λt ht e=>?_
  have hl:=congrArg List.length e
  rw[show (cs ("1234567890":Str)).length=10 by decide] at hl
  by_cases c:t<0
  ·rw[zjw c] at e
   rw[show cs ("1234567890":Str)=49::[50,51,52,53,54,55,56,57,48] by decide] at e
   cases e
  ·rw[zer (by omega)] at hl
   have:=zdX (m:=t.natAbs) (k:=9) (by decide) ht
   omega
 ·refine one _ (by decide) ?_ (by decide) (by decide) h
  rw[show cs ("2/4":Str)=num (1*2)++47::num (2*2) by decide +kernel]
  exact zkK (by decide) (by decide)
 ·refine one _ (by decide) ?_ (by decide) (by decide) h
  exact zeR (by decide) λt _=>zqQ [] t
 ·refine one _ (by decide) ?_ (by decide) (by decide) h
  exact zeR (by decide) λt _=>zqY (r:=[48,55]) (by decide) t
 ·refine one _ (by decide) ?_ (by decide) (by decide) h
  rw[show cs ("1/1":Str)=[49]++47::[49] by decide]
  refine zsb (by decide) λb hb e=>?_
  have z:b=1:=zek (e.trans (show ([49]:List Nat)=num 1 by decide +kernel))
  omega
 ·refine one _ (by decide) ?_ (by decide) (by decide) h
  rw[show cs ("1/1234567890":Str)=[49]++47::num 1234567890 by decide +kernel]
  intro t b n
  obtain⟨_,e,_⟩:=n.split (by decide)
  have z:=zek e
  have y:=n.bot
  omega
 ·exact one _ (by decide) (zb0 (c:=120) (by decide) (by decide)) (by decide) (by decide) h
 ·exact one _ (by decide) (zb0 (c:=88) (by decide) (by decide)) (by decide) (by decide) h
 ·refine one _ (by decide) ?_ (by decide) (by decide) h
  exact zeR (by decide) λt _=>zoJ t
 ·refine one _ (by decide) ?_ (by decide) (by decide) h
  rw[show cs ("0/3":Str)=num (0*3)++47::num (1*3) by decide +kernel]
  exact zkK (by decide) (by decide)
 ·refine one _ (by decide) ?_ (by decide) (by decide) h
  exact zeR (by decide) λt _=>zmB [49] t
def zkg:List Str:=["grid","let","in","islands","abcdefghi","1234567890","2/4","-0","007","1/1","1/1234567890"]
def zlw:List Str:=["x2","X","","0/3","--1"]
theorem zpQ:zkg.map D.str++zlw.map D.str=zdq.map D.str:=rfl
def Pz (S:Sto)(d:D):Prop:=∃(t:Tr) (m:Nat) (ws:List Str) (l k:Nat),Pc S d t m ws l k∧ws.length<120∧k<17
theorem Pz.pre {S T:Sto}{d:D}(h:Pz S d)(p:Pre S T):Pz T d:=by
 obtain⟨t,m,ws,l,k,pc,a,b⟩:=h
 exact⟨t,m,ws,l,k,pc.pre p,a,b⟩
structure PcL (S:Sto)(n:Nat)(ds:List D):Prop where
 at_:S[n]?=some (.lst ds)
 ne:ds≠[]
 all:∀d∈ds,Pz S d
theorem PcL.pre {S T:Sto}{n:Nat}{ds:List D}(h:PcL S n ds)(p:Pre S T):PcL T n ds:=⟨p _ _ h.at_,h.ne,λd hd=>(h.all d hd).pre p⟩
theorem zj7 {α:Type}{xs:List α}{i:Int}{j:Nat}{v:α}(h0:i<0)(hi:i+xs.length=(j:Int))(h:xs[j]?=some v):atI xs i=some v:=by
 unfold L2.atI L2.ixN
 rw[if_neg (by omega),if_pos (by omega)]
 show xs[(i+(xs.length:Int)).toNat]?=some v
 rw[hi,Int.toNat_natCast]
 exact h
theorem zei {ds:List D}(h:ds≠[]):∃d∈ds,atI ds (-1)=some d:=by
 have l:=VaT.mpr h
 have e:ds[ds.length-1]?=some ds[ds.length-1]:=Vay (by omega)
 exact⟨_,Vax e,zj7 (j:=ds.length-1) (by decide) (by omega) e⟩
theorem zmN {ds:List D}(h:2≤ds.length):∃d∈ds,atI ds (-2)=some d:=by
 have e:ds[ds.length-2]?=some ds[ds.length-2]:=Vay (by omega)
 exact⟨_,Vax e,zj7 (j:=ds.length-2) (by decide) (by omega) e⟩
theorem zjK {ds:List D}(h:ds≠[]):zaX ds none (some (-1))=ds.dropLast:=by
 have l:=VaT.mpr h
 unfold L3.zaX
 rw[HT.sIx_none,List.drop_zero,Nat.sub_zero,List.dropLast_eq_take]
 have e:HT.sIx ds.length ds.length (some (-1))=ds.length-1:=by
  show (if (-1:Int)<0 then ((-1:Int)+(ds.length:Int)).toNat else min (-1:Int).toNat ds.length)=_
  rw[if_pos (by decide)]
  omega
 rw[e]
theorem ex_dp {l k:Nat}{c:List Str}{t:Tr}(h:exP l k c t):t.dp<c.length:=by
 have g:∀ {l k:Nat} {c:List Str} {t:Tr},Ex kS avS pvS l k c t→t.dp<c.length:=by
  intro l k c t h
  induction h with
  | @atom w t hw ha=>
   unfold avS at ha
   split at ha
   ·cases ha; exact Nat.one_pos
   ·split at ha
    ·cases ha; exact Nat.one_pos
    ·cases ha
  | shut _ _ _ ih=>simp; omega
  | pow _ _ _ _ ih=>simp[Tr.dp]; omega
  | tim _ _ _ _ _ i1 i2=>simp[Tr.dp]; omega
  | sum _ _ _ _ i1 i2=>simp[Tr.dp]; omega
 exact g h
theorem zqq {l k:Nat}{c:List Str}{t:Tr}(h:exP l k c t):∃(p:List Str) (x:Str) (s:List Str),c=p++x::s∧kS x=.at∧∀w,p.getLast?=some w→kS w≠.ca:=by
 have g:∀ {l k:Nat} {c:List Str} {t:Tr},Ex kS avS pvS l k c t→∃(p:List Str) (x:Str) (s:List Str),c=p++x::s∧kS x=.at∧∀w,p.getLast?=some w→kS w≠.ca:=by
  intro l k c t h
  induction h with
  | @atom w t hw ha=>exact⟨[],w,[],rfl,hw,λ_ e=>by cases e⟩
  | @shut a b l k c t ha hb _ ih=>
   obtain⟨p,x,s,rfl,hx,hp⟩:=ih
   refine⟨a::p,x,s++[b],by simp,hx,λw e=>?_⟩
   cases p with
   | nil=>
    cases e
    show kS a≠.ca
    rw[ha]
    decide
   | cons y p=>exact hp w (by rw[List.getLast?_cons_cons] at e; exact e)
  | pow _ _ _ _ ih=>
   obtain⟨p,x,s,rfl,hx,hp⟩:=ih
   exact⟨p,x,s++_,by rw[Vaw]; rfl,hx,hp⟩
  | tim _ _ _ _ _ ih _=>
   obtain⟨p,x,s,rfl,hx,hp⟩:=ih
   exact⟨p,x,s++_,by rw[Vaw]; rfl,hx,hp⟩
  | sum _ _ _ _ ih _=>
   obtain⟨p,x,s,rfl,hx,hp⟩:=ih
   exact⟨p,x,s++_,by rw[Vaw]; rfl,hx,hp⟩
 exact g h
theorem zgJ {w:Str}(h:zbm w=true):exP 3 0 [w] (.nm (cs w)):=Ex.atom (zcP _ _ (zjE h)) (zjE h)
theorem zkl {α:Type}(n:Nat)(a:α):List.replicate (n+1) a=List.replicate n a++[a]:=by
 rw[List.replicate_succ']
theorem zl3:∀n:Nat,exP 3 n (List.replicate n ("(":Str)++[("z":Str)]++List.replicate n (")":Str)) (.nm (cs "z"))
 | 0=>by
  rw[List.replicate_zero,List.replicate_zero,List.nil_append,Var]
  exact zgJ (by decide)
 | n+1=>by
  have e:List.replicate (n+1) ("(":Str)++[("z":Str)]++List.replicate (n+1) (")":Str)=("(":Str)::(List.replicate n ("(":Str)++[("z":Str)]++List.replicate n (")":Str))++[(")":Str)]:=by
   rw[zkl n (")":Str),Vas]
   simp
  rw[e]
  exact Ex.shut (by decide) (by decide) (zl3 n)
def qT:Nat→Tr
 | 0=>.nm (cs "q")
 | n+1=>.bi 0 (qT n) (.nm (cs "q"))
theorem qT_d (n:Nat):trD (qT (n+1))=.tup [.str "plus",trD (qT n),.tup [.str "name",.str "q"]]:=by
 show D.tup [.str "plus",trD (qT n),.tup [.str "name",.str (mk (cs "q"))]]=_
 rw[zeY]
theorem qT_0:trD (qT 0)=.tup [.str "name",.str "q"]:=by
 show D.tup [.str "name",.str (mk (cs "q"))]=_
 rw[zeY]
theorem q_dp:∀n:Nat,(qT n).dp=n
 | 0=>rfl
 | n+1=>by
  show max (qT n).dp 0+1=n+1
  rw[q_dp n]
  omega
theorem qsum:∀n:Nat,∃l,exP l 0 (("q":Str)::(List.replicate n [("+":Str),("q":Str)]).flatten) (qT n)
 | 0=>⟨3,by
  rw[List.replicate_zero]
  exact zgJ (by decide)⟩
 | n+1=>by
  obtain⟨l,h⟩:=qsum n
  have e:("q":Str)::(List.replicate (n+1) [("+":Str),("q":Str)]).flatten=(("q":Str)::(List.replicate n [("+":Str),("q":Str)]).flatten)++("+":Str)::[("q":Str)]:=by
   rw[zkl]
   simp
  rw[e]
  exact⟨0,Ex.sum (a:=("+":Str)) (n:=0) (m:=3) (by decide) (by decide) h (zgJ (by decide))⟩
theorem zio (n:Nat):(("q":Str)::(List.replicate n [("+":Str),("q":Str)]).flatten).length=2*n+1:=by
 induction n with
 | zero=>rfl
 | succ n ih=>
  rw[Vas]
  simp only[Vav,Vam,Vah,List.length_nil] at ih ⊢
  omega
theorem zi7 {l k:Nat}{c:List Str}{t:Tr}(h:exP l k c t)(hk:k≤16)(hl:c.length≤120):trS c=some t:=zj5 (by omega) (zmV h hk)
theorem zhN {c:List Str}(h:∀l k t,exP l k c t→False):trS c=none:=by
 unfold trS
 split
 ·rfl
 ·split
  ·rename_i t e
   obtain⟨c',l,k,e1,_,d⟩:=ziB 16 c t [] e
   rw[Var] at e1
   subst e1
   exact(h _ _ _ d).elim
  ·rfl
theorem zpn {c:List Str}(h:120<c.length):trS c=none:=by unfold trS; rw[if_pos h]
theorem zrm {n:Nat}{ws:List Str}(h:16<n)(hl:¬ 120<(List.replicate n ("(":Str)++ws).length):trS (List.replicate n ("(":Str)++ws)=none:=zle hl (zof (by decide) ws 16 n h)
theorem zln {α:Type}(n:Nat)(a:α):(List.replicate n [a]).flatten=List.replicate n a:=by
 induction n with
 | zero=>rfl
 | succ n ih=>rw[Vas,Vas,Vav,ih]; rfl
theorem zp1 (n:Nat):List.replicate n (D.str "(")++[D.str "z"]++List.replicate n (D.str ")")=(List.replicate n ("(":Str)++[("z":Str)]++List.replicate n (")":Str)).map D.str:=by simp
theorem cutE {s1 s2 s3 t2:TDS}{E:zbL}{dl:Ev}{S:Sto}{α:Type}(G:α→Ev)(T:α→Sto)(P:α→Prop)(h:(∀a,P a→t2 E (G a) (T a))→zaP s1 (zaP s2 (zaP s3 t2)) E dl S)(main:∀a,P a→t2 E (G a) (T a)):zaP s1 (zaP s2 (zaP s3 t2)) E dl S:=h main
theorem q_map (n:Nat):[D.str "q"]++(List.replicate n [D.str "+",D.str "q"]).flatten=(("q":Str)::(List.replicate n [("+":Str),("q":Str)]).flatten).map D.str:=by
 induction n with
 | zero=>rfl
 | succ n ih=>
  rw[Vas,Vav,Vas,Vav]
  simp at ih ⊢
theorem zgM (n:Nat):(List.replicate n ("(":Str)++[("z":Str)]++List.replicate n (")":Str)).length=2*n+1:=by
 simp
 omega
theorem zj3 (n:Nat):∀w∈List.replicate n ("(":Str)++[("z":Str)]++List.replicate n (")":Str),w.length≤900:=λw hw=>by
 simp only[Vak,List.mem_replicate,VaP] at hw
 rcases hw with (⟨_,rfl⟩ | rfl) | ⟨_,rfl⟩ <;> decide
theorem q_wl (n:Nat):∀w∈("q":Str)::(List.replicate n [("+":Str),("q":Str)]).flatten,w.length≤900:=by
 induction n with
 | zero=>
  intro w hw
  simp at hw
  rw[hw]
  decide
 | succ n ih=>
  intro w hw
  rw[Vas,Vav] at hw
  simp only[Vad,Vak,VaR,or_false] at hw
  rcases hw with rfl | (rfl | rfl) | hw
  ·decide
  ·decide
  ·decide
  ·exact ih w (Vat _ hw)
theorem znD (n:Nat):(List.replicate n [D.str "+",D.str "q"]).flatten.length=2*n:=by
 induction n with
 | zero=>rfl
 | succ n ih=>
  rw[Vas,Vav,Vah,ih]
  show 2+2*n=_
  omega
theorem zon {c:Nat}(h:c=45∨48≤c∧c≤57):c ∉ LET.cps.toList:=by
 have e:LET.cps.toList=[97,98,99,100,101,102,103,104,105,106,107,108,109,110,111,112,113,114,115,116,117,118,119,120,121,122]:=by decide
 rw[e]
 simp only[Vad,VaR,or_false]
 omega
theorem zmL (t:Int)(r:List Nat):zbm (mk (num t++r))=false:=by
 cases e:num t with
 | nil=>exact absurd e (zkJ t)
 | cons c l=>
  have z:=zhu (i:=t) (c:=c) (by rw[e]; exact Vaz ..)
  exact znc (c:=c) (by show c∈cs (mk (c::l++r)); rw[za7]; simp) (zon z)
theorem zkU {t b:Int}(h:zbd (zbj t b) t b):exP 3 0 [mk (zbj t b)] (.nb t b):=by
 have z:avS (mk (zbj t b))=some (.nb t b):=zme (zmL t _) (by rw[za7]; exact h)
 exact Ex.atom (zcP _ _ z) z
theorem zpz {t:Int}(h:t.natAbs<10^9):zbd (zbj t 1) t 1:=⟨by decide,Int.gcd_one_right t,h,by decide,rfl⟩
theorem zq8 {b q:Int}(hb:2≤b)(hb2:b≤998)(hq:-1000≤q∧q≤1000):zbd (zbj (b*q+1) b) (b*q+1) b:=by
 have b1:b*q≤998*1000:=by
  have:=Int.mul_le_mul_of_nonneg_left hq.2 (show 0≤b by omega)
  omega
 have b2:-(998*1000)≤b*q:=by
  have:=Int.mul_le_mul_of_nonneg_left hq.1 (show 0≤b by omega)
  omega
 refine⟨by omega,?_,by omega,by omega,rfl⟩
 have z:((Int.gcd (b*q+1) b:Nat):Int) ∣ 1:=by
  have d1:((Int.gcd (b*q+1) b:Nat):Int) ∣ b*q+1:=Int.gcd_dvd_left ..
  have d2:((Int.gcd (b*q+1) b:Nat):Int) ∣ b:=Int.gcd_dvd_right ..
  have d3:=Int.dvd_sub d1 (Int.dvd_mul_of_dvd_left (c:=q) d2)
  rw[show b*q+1-b*q=1 by omega] at d3
  exact d3
 have y:Int.gcd (b*q+1) b ∣ 1:=by
  have:=Int.natAbs_dvd_natAbs.mpr z
  rw[Int.natAbs_natCast] at this
  exact this
 exact Nat.dvd_one.mp y
abbrev ABC:Str:="abmxyz"
def zbQ (c:Int):Nat:=(cs ABC).getD (c%6).toNat 0
theorem zlU (c:Int):ABC.cps[(c%6).toNat]?=some (zbQ c):=by
 have e:(cs ABC).length=6:=by decide
 have h:(c%6).toNat<(cs ABC).length:=by omega
 rw[← Array.getElem?_toList]
 unfold zbQ
 rw[VaO,Vay h]
 rfl
theorem zpj (c:Int):zbQ c∈cs ABC:=Vax (i:=(c%6).toNat) (by show ABC.cps.toList[(c%6).toNat]?=_; rw[Array.getElem?_toList]; exact zlU c)
theorem zpG {l:List Nat}(h:∀c∈l,c∈cs ABC)(h1:1≤l.length)(h8:l.length≤8):zbm (mk l)=true:=by
 have hL:Ltr (mk l):=λc hc=>by
  have z:c∈cs (mk l):=hc
  rw[za7] at z
  exact(show ∀c∈cs ABC,c∈LET.cps.toList by decide) c (h c z)
 have hk:zik.any (·==mk l)=false:=by
  rw[List.any_eq_false]
  intro x hx e
  have e2:x=mk l:=eq_of_beq e
  obtain⟨c,c1,c2⟩:=(show ∀x∈zik,∃c∈cs x,c ∉ cs ABC by decide) x hx
  rw[e2,za7] at c1
  exact c2 (h c c1)
 rw[zmr hL,hk,za9,decide_eq_true (show (1:Int)≤(l.length:Int) by omega),decide_eq_true (show (l.length:Int)≤8 by omega)]
 rfl
theorem ziO {S:Sto}{t:Tr}{w:Str}(h:exP 3 0 [w] t)(hw:w.length≤600):Pc (S++[.lst [.str w]]) (.tup [trD t,.ref S.length,.int 3,.int 0]) t S.length [w] 3 0:=⟨rfl,zak _ _,h,by show 1≤400; decide,λx hx=>by rw[VaP.mp hx]; exact hw⟩
theorem cut2 {s1 s2 t2:TDS}{E:zbL}{dl:Ev}{S:Sto}{α:Type}(G:α→Ev)(T:α→Sto)(P:α→Prop)(h:(∀a,P a→t2 E (G a) (T a))→zaP s1 (zaP s2 t2) E dl S)(main:∀a,P a→t2 E (G a) (T a)):zaP s1 (zaP s2 t2) E dl S:=h main
structure PDq (X:Cx)(Z:Zx)(e:Expr)(t:TDE):Prop where
 h:PD X Z e t
structure zht (X:Cx)(Z:Zx)(es:List Expr)(t:TDA):Prop where
 h:PDA X Z es t
structure zhJ (X:Cx)(Z:Zx)(st:Stmt)(t:TDS):Prop where
 h:PDS X Z st t
structure zfH (X:Cx)(Z:Zx)(st:List Stmt)(t:TDS):Prop where
 h:zbC X Z st t
section
variable {X:Cx}{Z:Zx}{pos:Pos}
theorem ziy:zht X Z [] zcl:=⟨zad⟩
theorem zaT {e:Expr}{es:List Expr}{te:TDE}{t:TDA}(ha:PDq X Z e te)(hr:zht X Z es t)(hs:starEach (e::es) X.env=(false,eval e X.env)::starEach es X.env:=by rfl):zht X Z (e::es) (zby te t):=⟨zaa ha.h hr.h hs⟩
theorem zaW {x:Str}{j:Nat}:PDq X Z (.Constant (.str x) j pos) (dC (.str x)):=⟨zap⟩
theorem ziC {es:List Expr}{t:TDA}(h:zht X Z es t):PDq X Z (.List es pos) (zg4 t):=⟨za6 h.h⟩
theorem zjv {st:Stmt}{zaU:List Stmt}{t u:TDS}(h1:zhJ X Z st t)(h2:zfH X Z zaU u):zfH X Z (st::zaU) (zaP t u):=⟨zaf h1.h h2.h⟩
theorem zqZ {c:Expr}{a b:List Stmt}{tc:TDT}{t u:TDS}(hc:PDT X Z c tc)(ha:zfH X Z a t)(hb:zbC X Z b u):PDS X Z (.If c a b pos) (dIf tc t u):=zaB hc ha.h hb
theorem zsu {st:Stmt}{t:TDS}(h1:zhJ X Z st t):zfH X Z [st] t:=⟨zaj h1.h⟩
theorem zn5 {e:Expr}{te:TDE}(he:PDq X Z e te):zhJ X Z (.Return (some e) pos) (zfE te):=⟨zat he.h⟩
theorem zkX {a b:Expr}{ta tb:TDE}{op:Operator}{w:W2}(ho:OpR X (binaryOp op) (upO X.K Z w))(ha:PDq X Z a ta)(hb:PDq X Z b tb):PDq X Z (.BinOp a op b pos) (dOp w ta tb):=⟨zag ho ha.h hb.h⟩
theorem zl5 {a b:Expr}{ta tb:TDE}(ha:PDq X Z a ta)(hb:PDq X Z b tb)(hs:zhF b):PDq X Z (.Subscript a b pos) (dOp (zbE wIx) ta tb):=⟨zbT ha.h hb.h hs⟩
theorem zjc {e:Expr}{te:TDE}{i:Nat}{x:Str}{pos':Pos}(hN:X.N.Nodup)(hi:X.N[i]?=some x)(hx:Loc X.env.scope x)(he:PDq X Z e te)(hs:swapsWith e (some (.Name x pos')) pos.line X.env=pure false:=by rfl)
  (hf:X.fn x=true∨X.env.scope.names.lookup x=some .local:=by first | exact .inl rfl | exact .inr rfl | assumption):zhJ X Z (.Assign [.Name x pos'] e pos) (zeM i te):=⟨zar hN hi hx he.h hs hf⟩
end
theorem zr2 {P:Program}{w:World}{K:PySem.W.Frag}{mg:Str→Option Value}{base:Heap}{x qual:Str}{st:Stmt}{f:Addr}{fd:FuncData}{N ps:List Str}{k:Nat}{sd:Sd}(F:Fun K x qual st f fd)(Sc:zaz N ps (zae st))(len:∀ds S Q ex,sd ds S Q ex→ds.length=ps.length)
  (hbody:∀(cdv:Value) (A:Around) (outer:List Env) (s:Shared) (H:Hp) (E:XK),zax k (A.deeper (envOfC qual (zae st) s.heap.objs.size f cdv))→
   ∃t,zfH (zaS (CXE P w) P w K mg base N qual (zae st) f cdv A outer s H E).nox Z0 (zan st) t∧∀ds S Q ex,sd ds S Q ex→t { nx:=λ_ S'=>Q .non S',rt:=Q } (zcU N ds) S):zaO P w K mg base (CXE P w) (k+1) f fd ps (upF K sd):=
 za3 F Sc len λcdv A outer s H E hr=>by
  obtain⟨t,h1,h2⟩:=hbody cdv A outer s H E hr
  exact⟨t,h1.h,h2⟩
section
variable {X:Cx}{Z:Zx}{pos:Pos}
theorem zod {i:Int}{j:Nat}:PDq X Z (.Constant (.int i) j pos) (dC (.int i)):=⟨zac⟩
theorem dvq (i:Nat){x:Str}{pos:Pos}(hN:X.N[i]?=some x:=by rfl)(hv:Vis X.env.scope x:=by first | exact Or.inl rfl | exact Or.inr (Or.inl rfl) | exact Or.inr (Or.inr rfl))(hd:(x==("__debug__":Str))=false:=by decide)(hcd:(x==("__classdict__":Str))=false:=by decide):PDq X Z (.Name x pos) (zbf i):=⟨dv i hN hv hd hcd⟩
end
theorem zef {a b:TDS}{E:zbL}{dl:Ev}{S:Sto}(W:Ev→Sto→Prop)(ha:∀nx:Ev→Sto→Prop,(∀dl' S',W dl' S'→nx dl' S')→a { nx:=nx,rt:=E.rt,bk:=E.bk,ct:=E.ct } dl S)(hb:∀dl' S',W dl' S'→b E dl' S'):zaP a b E dl S:=ha _ hb
theorem zli {a b c d:TDS}{E:zbL}{dl:Ev}{S:Sto}(W:Ev→Sto→Prop)(ha:∀nx:Ev→Sto→Prop,(∀dl' S',W dl' S'→nx dl' S')→zaP a (zaP b c) { nx:=nx,rt:=E.rt,bk:=E.bk,ct:=E.ct } dl S)(hb:∀dl' S',W dl' S'→d E dl' S'):zaP a (zaP b (zaP c d)) E dl S:=ha _ hb
theorem varW {i:Nat}{d:D}{dl:Ev}{S:Sto}{Q:DK}(h:dl[i]?=some (some d))(hq:Q d S):zbf i dl S Q:=by
 unfold zbf
 rw[h]
 exact hq
theorem zor (xs:List D)(c:Nat):zaX xs none (some (c:Int))=xs.take c:=by
 unfold L3.zaX
 rw[HT.sIx_nat,HT.sIx_none,List.drop_zero,Nat.sub_zero]
 by_cases h:c≤xs.length
 ·rw[Nat.min_eq_left h]
 ·rw[Nat.min_eq_right (by omega),List.take_of_length_le (Nat.le_of_eq rfl),List.take_of_length_le (by omega)]
theorem zpD (xs:List D)(c:Nat):zaX xs (some (c:Int)) none=xs.drop c:=by
 unfold L3.zaX
 rw[HT.sIx_nat,HT.sIx_none]
 by_cases h:c≤xs.length
 ·rw[Nat.min_eq_left h]
  exact List.take_of_length_le (by rw[VaL]; exact Vaa _)
 ·rw[VaU (by omega),VaU (by omega)]
  simp
theorem zog (xs:List D)(a b:Nat):(zaX xs (some (a:Int)) (some (b:Int))).length≤b-a:=by
 unfold L3.zaX
 rw[HT.sIx_nat,HT.sIx_nat,VaK,VaL]
 omega
theorem zjm (ws:List Str)(a:Nat):zaX (ws.map D.str) none (some (a:Int))=(ws.take a).map D.str:=by rw[zor,List.map_take]
theorem zkk (ws:List Str)(a:Nat):zaX (ws.map D.str) (some (a:Int)) none=(ws.drop a).map D.str:=by rw[zpD,List.map_drop]
theorem zjO (ws:List Str)(a:Nat):zaX (ws.map D.str) (some ((a:Int)+1)) none=(ws.drop (a+1)).map D.str:=zkk ws (a+1)
theorem zqi {ws:List Str}{a:Nat}(h:a<ws.length):zaX (ws.map D.str) (some (a:Int)) (some ((a:Int)+1))=[ws[a]].map D.str:=by
 show zaX (ws.map D.str) (some (a:Int)) (some ((a+1:Nat):Int))=_
 unfold L3.zaX
 rw[HT.sIx_nat,HT.sIx_nat,Vab,Nat.min_eq_left (by omega),Nat.min_eq_left (by omega),← List.map_drop,← List.map_take,VaS h,show a+1-a=1 by omega]
 rfl
theorem zlh {ws:List Str}{a:Nat}(h:a<ws.length):ws=ws.take a++ws[a]::ws.drop (a+1):=by
 rw[← VaS h,List.take_append_drop]
theorem znh {l k:Nat}{ws:List Str}{t:Tr}{a:Nat}(e:exP l k ws t)(h:a<ws.length):trS (ws.take a++ws.drop (a+1))=none:=zhN λl' k' t' e'=>by
 rw[zlh h] at e
 exact zsq e e'
theorem zo7 {l k:Nat}{ws:List Str}{t:Tr}{a:Nat}(e:exP l k ws t)(h:a<ws.length):trS (ws.take a++[ws[a]]++ws.drop a)=none:=zhN λl' k' t' e'=>by
 rw[zlh h] at e
 rw[VaS h,Vaw] at e'
 exact zpS e e'
def zec:List Str:=["0","1","7","-2","02","x","","2/3","22","("]
theorem zjX (w:Str)(h:w∈zec):pvS w=none∧w.length≤20:=by
 have z:∀w∈zec,pvS w=none∧w.length≤20:=by decide
 exact z w h
theorem zry {l k:Nat}{ws:List Str}{t:Tr}{w:Str}(e:exP l k ws t)(h:w∈zec):trS (ws++[("^":Str),w])=none:=zhN λ_ _ _ e'=>zsx e (by decide) (zjX w h).1 e'
def SIG:List Str:=["(",")","+","-","*","^"]
theorem zmH (w:Str):(!SIG.any (·==w))=decide (kS w=.at):=by
 unfold kS SIG
 by_cases c1:w="("
 ·rw[c1]; decide
 by_cases c2:w=")"
 ·rw[c2]; decide
 by_cases c3:w="+"
 ·rw[c3]; decide
 by_cases c4:w="-"
 ·rw[c4]; decide
 by_cases c5:w="*"
 ·rw[c5]; decide
 by_cases c6:w="^"
 ·rw[c6]; decide
 rw[if_neg c1,if_neg c2,if_neg c3,if_neg c4,if_neg c5,if_neg c6]
 simp[Ne.symm c1,Ne.symm c2,Ne.symm c3,Ne.symm c4,Ne.symm c5,Ne.symm c6]
theorem zna {S:Sto}{Q:DK}{ws:List Str}{w:Str}(h:Q (.bl (!ws.any (·==w))) S):zhf 0 true (.str w) (.tup (ws.map D.str)) S Q:=by
 unfold zhf
 dsimp only
 have e:∀ws:List Str,zbU (eqN 0) (ws.map D.str) (.str w)=some (ws.any (·==w)):=λws=>ziM ..
 rw[e]
 exact h
def atP (ws:List Str)(k:Nat):Bool:=decide (kS (ws.getD k "")=.at)&&(decide (k=0)||decide (ws.getD (k-1) ""≠"^"))
theorem zrx {l k:Nat}{ws:List Str}{t:Tr}(e:exP l k ws t):(List.range ws.length).filter (atP ws)≠[]:=by
 obtain⟨p,x,s,rfl,hx,hp⟩:=zqq e
 have m:p.length∈(List.range (p++x::s).length).filter (atP (p++x::s)):=by
  refine List.mem_filter.mpr ⟨List.mem_range.mpr (by simp),?_⟩
  unfold atP
  rw[Vap]
  refine⟨decide_eq_true (by simp[hx]),?_⟩
  by_cases c:p.length=0
  ·rw[decide_eq_true c]; rfl
  ·have g:(p++x::s).getD (p.length-1) ""=p.getLast (λz=>c (by rw[z]; rfl)):=by
    rw[VaO,Van (by omega),List.getLast_eq_getElem,Vay (by omega)]
    rfl
   rw[g,Bool.or_eq_true]
   refine .inr (decide_eq_true λz=>hp _ (List.getLast?_eq_some_getLast (λz=>c (by rw[z]; rfl))) ?_)
   rw[z]
   decide
 exact List.ne_nil_of_mem m
theorem zq0 {l k:Nat}{ws:List Str}{t:Tr}{a:Nat}{w:Str}(e:exP l k ws t)(h:a<ws.length)(ha:atP ws a=true)(hw:w∈zdq):trS (ws.take a++[w]++ws.drop (a+1))=none:=zhN λl' k' t' e'=>by
 obtain⟨n1,n2,_⟩:=zk0 w hw
 unfold atP at ha
 rw[Vap,Bool.or_eq_true,decide_eq_true_eq,decide_eq_true_eq,decide_eq_true_eq] at ha
 rw[Vaw] at e'
 refine zqV n2 n1 (λy hy z=>?_) e'
 have z2:=(zg2 y).mp z
 rcases ha.2 with c | c
 ·rw[c,List.take_zero] at hy
  cases hy
 ·by_cases c0:a=0
  ·rw[c0,List.take_zero] at hy
   cases hy
  ·refine c ?_
   rw[List.getLast?_eq_getElem?,VaK,List.getElem?_take_of_lt (by omega)] at hy
   rw[VaO,show a-1=min a ws.length-1 by omega,hy]
   exact z2
theorem zmh:∀ws:List Str,eqL (eqN 1) (ws.map D.str) (ws.map D.str)=some true
 | []=>rfl
 | u::us=>by
  show (match some (decide (u=u)),eqL (eqN 1) (us.map D.str) (us.map D.str) with | some b,some c=>some (b&&c) | _,_=>none)=_
  rw[zmh us,decide_eq_true rfl]
  rfl
theorem zqE {n m:Nat}{S:Sto}{Q:DK}{ws:List Str}(h1:S[n]?=some (.lst (ws.map D.str)))(h2:S[m]?=some (.lst (ws.map D.str)))(hq:Q (.bl false) S):zbE (zee 1) (.ref n) (.ref m) S Q:=by
 rw[zco]
 unfold zee zgH
 dsimp only
 rw[zce h1 rfl,zce h2 rfl]
 show (match eqL (eqN 1) (ws.map D.str) (ws.map D.str) with | some b=>Q (.bl (!b)) S | none=>False)
 rw[zmh]
 exact hq
theorem znK {caps:List Nat}{ta:TDA}{tc:TDT}{te:TDE}{dl:Ev}{S S1:Sto}{Q:DK}{j:Int}(p:Nat→Bool)(g:Nat→D)(hta:∀K:List D→Sto→Prop,K [.int j] S1→ta dl S K)(hj:0≤j∧j≤1000)
  (hc:∀k:Nat,k<j.toNat→∀(S2:Sto) (K:Bool→Sto→Prop),Pre S1 S2→K (p k) S2→tc (some (.int k)::zcD caps dl) S2 K)(ht:∀k:Nat,k<j.toNat→p k=true→∀(S2:Sto) (K:DK),Pre S1 S2→K (g k) S2→te (some (.int k)::zcD caps dl) S2 K)(hq:Q (.ref S1.length) (S1++[.lst (((List.range j.toNat).filter p).map g)])):zdI caps ta tc te dl S Q:=by
 unfold zdI
 refine hta _ ⟨⟨by omega,by omega⟩,λk S2=>S2=S1++[.lst (((List.range k).filter p).map g)]∧k≤j.toNat,⟨by simp,by omega⟩,?_⟩
 rintro k S2 ⟨rfl,hk⟩
 split
 ·rename_i hk'
  unfold zeU
  refine hc k hk' _ _ Pre.refl.push ?_
  cases e:p k
  ·refine zbM ?_
   refine⟨?_,by omega⟩
   rw[List.range_succ,List.filter_append,List.filter_cons,if_neg (by rw[e]; decide),List.filter_nil,Var]
  ·refine zbu ?_
   refine ht k hk' e _ _ Pre.refl.push ?_
   rw[zak]
   have ll:=List.length_filter_le p (List.range k)
   rw[List.length_range] at ll
   refine⟨by rw[Vab]; omega,?_,by omega⟩
   rw[List.range_succ,List.filter_append,List.filter_cons,if_pos e,List.filter_nil,Vaq,List.set_append_right _ _ (Vaa _),Nat.sub_self]
   rfl
 ·have e:k=j.toNat:=by omega
  subst e
  exact hq
structure zbG (K:PySem.W.Frag)(mg:Str→Option Value) where
 C:Addr
 m:mg "Reader"=some (.ref C)
 cl:Cls K C
 n_depth:zbA K C "depth"
 n_place:zbA K C "place"
 n_words:zbA K C "words"
 makes:PySem.W.makesIn K C=true
 kp:PySem.W.keepIn K (.ref C)=true
def zgm (cReader:Addr):Sd:=λds S Q ex=>match ds with
 | [.ref n,.ref wm]=>∃T:Sto,S=T++[.ins cReader []]∧n=T.length∧Q .non (T++[.ins cReader (rdF wm 0 0)])
 | _=>False
theorem zoa (cReader:Addr):Ln (zgm cReader) 2:=λds S Q ex h=>by unfold zgm at h; split at h <;> first | rfl | exact h.elim
def zes (cReader:Addr):Sd:=λds S Q ex=>match ds with
 | [.ref n]=>∃(wm:Nat) (ws:List Str) (p d:Nat),zaR cReader S n wm ws p d∧Q (.bl (decide (p=ws.length))) S
 | _=>False
theorem zpl (cReader:Addr):Ln (zes cReader) 1:=λds S Q ex h=>by unfold zes at h; split at h <;> first | rfl | exact h.elim
def zct (cReader:Addr)(cNoRow:Addr):Sd:=λds S Q ex=>match ds with
 | [.ref n]=>∃(wm:Nat) (ws:List Str) (p d:Nat),zaR cReader S n wm ws p d∧match ws.drop p with | []=>ex cNoRow S | w::_=>Q (.str w) (S.set n (.ins cReader (rdF wm ((p:Int)+1) (d:Int))))
 | _=>False
theorem zoF (cReader:Addr)(cNoRow:Addr):Ln (zct cReader cNoRow) 1:=λds S Q ex h=>by unfold zct at h; split at h <;> first | rfl | exact h.elim
def zfc:Sd:=λds S Q ex=>match ds with
 | [.str w,.str sg,.int m]=>w.length≤1000∧Q (.bl ((decide (1≤(w.length:Int))&&decide ((w.length:Int)≤m))&&w.cps.toList.all (λc=>decide (c∈sg.cps.toList)))) S
 | _=>False
theorem znJ:Ln (zfc) 3:=λds S Q ex h=>by unfold zfc at h; split at h <;> first | rfl | exact h.elim
def ze6:Sd:=λds S Q ex=>match ds with
 | [.str w]=>w.length≤1000∧Q (.bl (zbm w)) S
 | _=>False
theorem znU:Ln (ze6) 1:=λds S Q ex h=>by unfold ze6 at h; split at h <;> first | rfl | exact h.elim
def zfX:Sd:=λds S Q ex=>match ds with
 | [.int a,.int b]=>(0≤a∧0≤b)∧Q (.int ((Int.gcd a b:Nat):Int)) S
 | _=>False
theorem zoC:Ln (zfX) 2:=λds S Q ex h=>by unfold zfX at h; split at h <;> first | rfl | exact h.elim
def zgv:Sd:=λds S Q ex=>match ds with
 | [.int _]=>Q (.bl true) S
 | _=>False
theorem znN:Ln (zgv) 1:=λds S Q ex h=>by unfold zgv at h; split at h <;> first | rfl | exact h.elim
def zf8 (cNoNumber:Addr):Sd:=λds S Q ex=>match ds with
 | [.int T,.int B]=>(B=0∧ex cNoNumber S)∨((B≠0∧Sz 4000 B)∧∀t b:Int,1≤b→t*B=T*b→Int.gcd t b=1→t.natAbs≤T.natAbs→b.natAbs≤B.natAbs→Q (.tup [.int t,.int b]) S)
 | _=>False
theorem zpM (cNoNumber:Addr):Ln (zf8 cNoNumber) 2:=λds S Q ex h=>by unfold zf8 at h; split at h <;> first | rfl | exact h.elim
def ze5:Sd:=λds S Q ex=>match ds with
 | [.int n]=>(0≤n∧n.natAbs<10^200)∧Q (.str (mk (dec n.natAbs))) S
 | _=>False
theorem zm9:Ln (ze5) 1:=λds S Q ex h=>by unfold ze5 at h; split at h <;> first | rfl | exact h.elim
def zgy:Sd:=λds S Q ex=>match ds with
 | [.tup [.int t,.int b]]=>(t.natAbs<10^200∧1≤b∧b.natAbs<10^200)∧Q (.str (mk (zbj t b))) S
 | _=>False
theorem znV:Ln (zgy) 1:=λds S Q ex h=>by unfold zgy at h; split at h <;> first | rfl | exact h.elim
def zfe (cNoRow:Addr)(cNoNumber:Addr):Sd:=λds S Q ex=>match ds with
 | [.str w]=>w.length≤900∧(∀t b:Int,zbd (cs w) t b→Q (.tup [.int t,.int b]) S)∧(Bad (cs w)→ex cNoRow S)
 | _=>False
theorem znq (cNoRow:Addr)(cNoNumber:Addr):Ln (zfe cNoRow cNoNumber) 1:=λds S Q ex h=>by unfold zfe at h; split at h <;> first | rfl | exact h.elim
def zfM (n:Nat)(cReader:Addr)(cNoRow:Addr)(cNoNumber:Addr):Sd:=λds S Q ex=>match ds with
 | [.ref n0]=>∃(wm:Nat) (ws:List Str) (p d:Nat),zaR cReader S n0 wm ws p d∧d≤16∧17≤d+n∧match brS (16-d) (ws.drop p) with | none=>∀T:Sto,zaI n0 S T→ex cNoRow T | some (t,r)=>∀T:Sto,zaI n0 S T→zaR cReader T n0 wm ws (ws.length-r.length) d→Q (trD t) T
 | _=>False
theorem zrs (n:Nat)(cReader:Addr)(cNoRow:Addr)(cNoNumber:Addr):Ln (zfM n cReader cNoRow cNoNumber) 1:=λds S Q ex h=>by unfold zfM at h; split at h <;> first | rfl | exact h.elim
def zfV (n:Nat)(cReader:Addr)(cNoRow:Addr)(cNoNumber:Addr):Sd:=λds S Q ex=>match ds with
 | [.ref n0]=>∃(wm:Nat) (ws:List Str) (p d:Nat),zaR cReader S n0 wm ws p d∧d≤16∧17≤d+n∧match za1 kS avS (inS (16-d)) (ws.drop p) with | none=>∀T:Sto,zaI n0 S T→ex cNoRow T | some (t,r)=>∀T:Sto,zaI n0 S T→zaR cReader T n0 wm ws (ws.length-r.length) d→Q (trD t) T
 | _=>False
theorem znb (n:Nat)(cReader:Addr)(cNoRow:Addr)(cNoNumber:Addr):Ln (zfV n cReader cNoRow cNoNumber) 1:=λds S Q ex h=>by unfold zfV at h; split at h <;> first | rfl | exact h.elim
def zdQ (cReader:Addr):Sd:=λds S Q ex=>match ds with
 | [.ref n,.tup es]=>∃cs:List Str,es=cs.map D.str∧∃(wm:Nat) (ws:List Str) (p d:Nat),zaR cReader S n wm ws p d∧Q (.bl (match ws.drop p with | []=>false | w::_=>cs.any (·==w))) S
 | [.ref n,.ref m]=>∃cs:List Str,S[m]?=some (.tpl cs)∧∃(wm:Nat) (ws:List Str) (p d:Nat),zaR cReader S n wm ws p d∧Q (.bl (match ws.drop p with | []=>false | w::_=>cs.any (·==w))) S
 | _=>False
theorem zrQ (cReader:Addr):Ln (zdQ cReader) 2:=λds S Q ex h=>by unfold zdQ at h; split at h <;> first | rfl | exact h.elim
def zfQ (n:Nat)(cReader:Addr)(cNoRow:Addr)(cNoNumber:Addr):Sd:=λds S Q ex=>match ds with
 | [.ref n0]=>∃(wm:Nat) (ws:List Str) (p d:Nat),zaR cReader S n0 wm ws p d∧d≤16∧17≤d+n∧match zaN kS avS pvS (inS (16-d)) (ws.drop p) with | none=>∀T:Sto,zaI n0 S T→ex cNoRow T | some (t,r)=>∀T:Sto,zaI n0 S T→zaR cReader T n0 wm ws (ws.length-r.length) d→Q (trD t) T
 | _=>False
theorem znr (n:Nat)(cReader:Addr)(cNoRow:Addr)(cNoNumber:Addr):Ln (zfQ n cReader cNoRow cNoNumber) 1:=λds S Q ex h=>by unfold zfQ at h; split at h <;> first | rfl | exact h.elim
def zgB (n:Nat)(cReader:Addr)(cNoRow:Addr)(cNoNumber:Addr):Sd:=λds S Q ex=>match ds with
 | [.ref n0]=>∃(wm:Nat) (ws:List Str) (p d:Nat),zaR cReader S n0 wm ws p d∧d≤16∧17≤d+n∧match zaV kS avS pvS (inS (16-d)) (ws.drop p) with | none=>∀T:Sto,zaI n0 S T→ex cNoRow T | some (t,r)=>∀T:Sto,zaI n0 S T→zaR cReader T n0 wm ws (ws.length-r.length) d→Q (trD t) T
 | _=>False
theorem zmM (n:Nat)(cReader:Addr)(cNoRow:Addr)(cNoNumber:Addr):Ln (zgB n cReader cNoRow cNoNumber) 1:=λds S Q ex h=>by unfold zgB at h; split at h <;> first | rfl | exact h.elim
def zdE (n:Nat)(cReader:Addr)(cNoRow:Addr)(cNoNumber:Addr):Sd:=λds S Q ex=>match ds with
 | [.ref n0]=>∃(wm:Nat) (ws:List Str) (p d:Nat),zaR cReader S n0 wm ws p d∧d≤16∧17≤d+n∧match exS (16-d) (ws.drop p) with | none=>∀T:Sto,zaI n0 S T→ex cNoRow T | some (t,r)=>∀T:Sto,zaI n0 S T→zaR cReader T n0 wm ws (ws.length-r.length) d→Q (trD t) T
 | _=>False
theorem zob (n:Nat)(cReader:Addr)(cNoRow:Addr)(cNoNumber:Addr):Ln (zdE n cReader cNoRow cNoNumber) 1:=λds S Q ex h=>by unfold zdE at h; split at h <;> first | rfl | exact h.elim
def zd1 (cReader:Addr)(cNoRow:Addr)(cNoNumber:Addr):Sd:=λds S Q ex=>match ds with
 | [.ref wm]=>∃ws:List Str,S[wm]?=some (.lst (ws.map D.str))∧ws.length≤900∧(∀w∈ws,w.length≤900)∧match trS ws with | none=>∀T:Sto,Pre S T→ex cNoRow T | some t=>∀T:Sto,Pre S T→Q (trD t) T
 | _=>False
theorem zsa (cReader:Addr)(cNoRow:Addr)(cNoNumber:Addr):Ln (zd1 cReader cNoRow cNoNumber) 1:=λds S Q ex h=>by unfold zd1 at h; split at h <;> first | rfl | exact h.elim
def zfA:Sd:=λds S Q ex=>match ds with
 | [.ref wm]=>∃ws:List Str,S[wm]?=some (.lst (ws.map D.str))∧ws.length≤900∧(∀w∈ws,w.length≤900)∧trS ws=none∧∀T:Sto,Pre S T→Q (.bl true) T
 | _=>False
theorem znW:Ln (zfA) 1:=λds S Q ex h=>by unfold zfA at h; split at h <;> first | rfl | exact h.elim
def zfs:Sd:=λds S Q ex=>match ds with
 | [.int _]=>Q (.bl true) S
 | _=>False
theorem zqa:Ln (zfs) 1:=λds S Q ex h=>by unfold zfs at h; split at h <;> first | rfl | exact h.elim
def zcB (n:Nat):Sd:=λds S Q ex=>match ds with
 | [a,b]=>∃t:Tr,a=trD t∧b=trD t∧t.dp<n∧Q (.bl true) S
 | _=>False
theorem zmP (n:Nat):Ln (zcB n) 2:=λds S Q ex h=>by unfold zcB at h; split at h <;> first | rfl | exact h.elim
def zfN:Sd:=λds S Q ex=>match ds with
 | [.int c]=>∀T:Sto,Pre S T→Q (.bl true) T
 | _=>False
theorem zmu:Ln (zfN) 1:=λds S Q ex h=>by unfold zfN at h; split at h <;> first | rfl | exact h.elim
def zeA:Sd:=λds S Q ex=>match ds with
 | [.int c]=>∀(T:Sto) (d:D) (t:Tr) (m:Nat) (w:Str),Pre S T→Pc T d t m [w] 3 0→Q d T
 | _=>False
theorem zpH:Ln (zeA) 1:=λds S Q ex h=>by unfold zeA at h; split at h <;> first | rfl | exact h.elim
def zeV:Sd:=λds S Q ex=>match ds with
 | [d]=>∃(t:Tr) (m:Nat) (ws:List Str) (l k:Nat),Pc S d t m ws l k∧ws.length≤300∧∀(T:Sto) (d2:D) (m2:Nat),Pre S T→Pc T d2 t m2 ([("(":Str)]++ws++[(")":Str)]) 3 (k+1)→Q d2 T
 | _=>False
theorem zqn:Ln (zeV) 1:=λds S Q ex h=>by unfold zeV at h; split at h <;> first | rfl | exact h.elim
def zeH:Sd:=λds S Q ex=>match ds with
 | [d]=>∃(t:Tr) (m:Nat) (ws:List Str) (l k:Nat),Pc S d t m ws l k∧Q (.bl (decide (ws.length<120)&&decide (k<17))) S
 | _=>False
theorem zrV:Ln (zeH) 1:=λds S Q ex h=>by unfold zeH at h; split at h <;> first | rfl | exact h.elim
def zfh:Sd:=λds S Q ex=>match ds with
 | [d,.int lv]=>∃(t:Tr) (m:Nat) (ws:List Str) (l k v:Nat),Pc S d t m ws l k∧lv=(v:Int)∧v≤3∧ws.length≤300∧∀(T:Sto) (d2:D) (m2:Nat) (ws2:List Str) (l2 k2:Nat),Pre S T→Pc T d2 t m2 ws2 l2 k2→v≤l2→ws2.length≤ws.length+2→Q d2 T
 | _=>False
theorem zpY:Ln (zfh) 2:=λds S Q ex h=>by unfold zfh at h; split at h <;> first | rfl | exact h.elim
def zgk:Sd:=λds S Q ex=>match ds with
 | [d,.int mv]=>∃(t:Tr) (m:Nat) (ws:List Str) (l k:Nat),Pc S d t m ws l k∧(2≤mv∧mv≤6)∧ws.length≤300∧∀(T:Sto) (d2:D) (t2:Tr) (m2:Nat) (ws2:List Str) (l2 k2:Nat),Pre S T→Pc T d2 t2 m2 ws2 l2 k2→ws2.length≤ws.length+4→Q d2 T
 | _=>False
theorem zrt:Ln (zgk) 2:=λds S Q ex h=>by unfold zgk at h; split at h <;> first | rfl | exact h.elim
def zfl:Sd:=λds S Q ex=>match ds with
 | [.int wy,d1,d2]=>∃(wn:Nat) (t1 t2:Tr) (m1 m2:Nat) (ws1 ws2:List Str) (l1 k1 l2 k2:Nat),wy=(wn:Int)∧wn≤2∧Pc S d1 t1 m1 ws1 l1 k1∧Pc S d2 t2 m2 ws2 l2 k2∧ws1.length≤150∧ws2.length≤150∧∀(T:Sto) (d3:D) (t3:Tr) (m3:Nat) (ws3:List Str) (l3 k3:Nat),Pre S T→Pc T d3 t3 m3 ws3 l3 k3→ws3.length≤ws1.length+ws2.length+5→Q d3 T
 | _=>False
theorem zpt:Ln (zfl) 3:=λds S Q ex h=>by unfold zfl at h; split at h <;> first | rfl | exact h.elim
def zfF:Sd:=λds S Q ex=>match ds with
 | [.ref n,.int c]=>∃ds:List D,PcL S n ds∧ds.length≤60∧∀(T:Sto) (m:Nat) (es:List D),Pre S T→PcL T m es→es.length≤ds.length+1→Q (.ref m) T
 | _=>False
theorem zoD:Ln (zfF) 2:=λds S Q ex h=>by unfold zfF at h; split at h <;> first | rfl | exact h.elim
def zfC:Sd:=λds S Q ex=>match ds with
 | [.ref n,.int k]=>∃ns:List Int,S[n]?=some (.frz (ns.map D.int))∧0≤k∧Q (.int (ns.getD k.toNat 0)) S
 | _=>False
theorem zpP:Ln (zfC) 2:=λds S Q ex h=>by unfold zfC at h; split at h <;> first | rfl | exact h.elim
def zga:Sd:=λds S Q ex=>match ds with
 | [.int c]=>∀(T:Sto) (w:Str),Pre S T→w∈zdq→Q (.str w) T
 | _=>False
theorem zsm:Ln (zga) 1:=λds S Q ex h=>by unfold zga at h; split at h <;> first | rfl | exact h.elim
section
variable {P:Program}{w:World}{K:PySem.W.Frag}{mg:Str→Option Value}{base:Heap}
def zn3  (zab:zbG K mg)(zhC:Dm K zab.C "__init__" "Reader.__init__" zdk zgq):Fm P w K mg base 1 zab.C "__init__" zgq (zgm zab.C):=
 zhC.mk' (za3 (k:=0) zhC.F zrX (zoa zab.C) λcdv A outer s H E hr=>⟨_,(zaf (zix zab.cl zab.n_words (dv 0) (dv 1)) (zaf (zix zab.cl zab.n_place (dv 0) zac) (zaj (zix zab.cl zab.n_depth (dv 0) zac)))),λds S Q ex h=>by
  unfold zgm at h
  split at h
  ·rename_i n wm
   obtain⟨T,rfl,rfl,h⟩:=h
   refine zjd (v:=.ref wm) (n:=T.length) (fs:=[]) (λK hK=>by exact hK) (λK hK=>by exact hK) (zak _ _) (by decide) ?_
   rw[zjt]
   refine zjd (v:=.int 0) (n:=T.length) (fs:=zbS "words" (.ref wm) []) (λK hK=>by exact hK) (λK hK=>by exact hK) (zak _ _) (show 1<1000 by decide) ?_
   rw[zjt]
   refine zjd (v:=.int 0) (n:=T.length) (fs:=zbS "place" (.int 0) (zbS "words" (.ref wm) [])) (λK hK=>by exact hK) (λK hK=>by exact hK) (zak _ _) (show 2<1000 by decide) ?_
   rw[zjt]
   exact h
  ·exact h.elim⟩)
def zrC  (zab:zbG K mg)(zhy:Dm K zab.C "at_end" "Reader.at_end" zdR zd4)(zaF:mg "len"=none):Fm P w K mg base 1 zab.C "at_end" zd4 (zes zab.C):=
 zhy.mk' (za3 (k:=0) zhy.F zoB (zpl zab.C) λcdv A outer s H E hr=>⟨_,(zaj (zat (zcR (zbo hr) (zd8 zab.cl zab.n_place (dv 0)) (zbr (zbe zcm) rfl zaF Boot.«len» (zaa (zd8 zab.cl zab.n_words (dv 0)) zad)) (zaA _)))),λds S Q ex h=>by
  unfold zes at h
  split at h
  ·rename_i n
   obtain⟨wm,ws,p,d,rd,h⟩:=h
   refine zcW (S1:=S) (λK hK=>by exact hK) rd.rd rfl ?_
   refine zcW (S1:=S) (λK hK=>by exact hK) rd.rd rfl ?_
   refine zdn rd.wd ?_
   rw[Vab]
   have e:decide ((p:Int)=((ws.length:Nat):Int))=decide (p=ws.length):=decide_eq_decide.mpr (by omega)
   show Q (.bl (decide ((p:Int)=((ws.length:Nat):Int)))) S
   rw[e]
   exact h
  ·exact h.elim⟩)
def zov  (zab:zbG K mg)(zh8:Dm K zab.C "take" "Reader.take" zc9 zcA)(zam:Ec K mg "NoRow")(zbD:Fm P w K mg base 1 zab.C "at_end" zd4 (zes zab.C)):Fm P w K mg base 2 zab.C "take" zcA (zct zab.C zam.c):=
 zh8.mk' (zc3 (k:=1) zh8.F zjV (zoF zab.C zam.c) λcdv A outer s H E ex hr hpx hrx=>⟨_,(zaf (zaB (za5 (zbp (C:=zab.C) (dv 0) zab.cl zbD.m zbD.ok (hr.mono (by decide)) zbD.b hpx)) (zaj (zcu zam.xc PySem.F.excBase_ValueError hrx hr.hd rfl (zaa zap zad))) zaH) (zaf (zar (i:=1) zjV.nd rfl (Or.inl rfl) (zbT (zd8 zab.cl zab.n_words (dv 0)) (zd8 zab.cl zab.n_place (dv 0)) (λ_ _=>rfl))) (zaf (zlP zab.cl zab.n_place (dv 0) zac) (zaj (zat (dv 1)))))),λds S Q h=>by
  unfold zct at h
  split at h
  ·rename_i n
   obtain⟨wm,ws,p,d,rd,h⟩:=h
   refine za0 (S1:=S) (n:=n) (λK hK=>by exact hK) rd.rd rfl ?_
   refine⟨wm,ws,p,d,rd,?_⟩
   by_cases c:p=ws.length
   ·rw[decide_eq_true c]
    rw[VaU (by omega)] at h
    refine zbu ?_
    exact h
   ·rw[decide_eq_false c]
    have lp:p<ws.length:=by have:=rd.pl; omega
    rw[VaS lp] at h
    refine zcW (S1:=S) (λK hK=>by exact hK) rd.rd rfl ?_
    refine zcW (S1:=S) (λK hK=>by exact hK) rd.rd rfl ?_
    refine zbi (o:=.lst (ws.map D.str)) rd.wd (zd3 lp) ?_
    refine zjr (S1:=S) (S2:=S) (n:=n) (λK hK=>by exact hK) rd.rd rfl (λK hK=>by exact hK) rd.rd (show 3<1000 by decide) ?_
    exact h
  ·exact h.elim⟩)
def zmQ  (zhE:Df K mg "made_of" zcM zeL)(zdh:mg "all"=none)(zaF:mg "len"=none):Fk P w K mg base 1 "made_of" zeL zfc:=
 zhE.mk' (zkF (za3 (k:=0) zhE.F zne (zl0 (znJ)) λcdv A outer s H E hr=>⟨_,(zaj (zat (zb6 (zqx zkx zkx zac (zbr zpe rfl zaF Boot.«len» (zaa (dv 0) zad)) (dv 2)) (zcr (zbr (zbe (zq7 rfl)) rfl zdh Boot.«all» (zaa (zmy (x:="sign") (N:=["signs"]) (caps:=[1]) (ar:=zae zcM) rfl rfl csc rfl (by decide) (dv 0) (λ_ _ _ _ _ _=>zlA) (λ_ _ _ _ _ _=>(zcR znP (dv 0) (dv 1) rfl))) zad)))))),λds S Q ex h=>by
  obtain⟨Q0,ex0,rfl,rfl,h⟩:=h
  unfold zfc at h
  split at h
  ·rename_i w sg m
   obtain⟨hl,h⟩:=h
   refine⟨hl,ifD (λe1=>?_) (λe1=>?_)⟩
   ·refine ifD (λe2=>?_) (λe2=>?_)
    ·refine zpO (z:=w) (λc=>.bl (decide (c∈sg.cps.toList))) (λK hK=>hK) hl (λc hc S2 K _ hK=>⟨c,rfl,hK⟩) ?_
     apply zpw
     ·exact zak _ _
     ·exact zl4 _ _
     rw[decide_eq_true e1,decide_eq_true e2,VaV,VaV] at h
     refine⟨Pre.refl.push,.bl _,?_⟩
     rw[all_map]
     exact h
    ·rw[decide_eq_false e2,Bool.and_false,VaH] at h
     exact⟨Pre.refl,.bl _,h⟩
   ·rw[decide_eq_false e1,VaH,VaH] at h
    exact⟨Pre.refl,.bl _,h⟩
  ·exact h.elim⟩))
def zpd  {t_MOST_LETTERS:Tok}{t_LETTERS:Tok}(zin:Df K mg "is_name" zc4 zeB)(zet:Fk P w K mg base 1 "made_of" zeL zfc)(g_KEPT_WORDS:GT K mg "KEPT_WORDS" ["let","in","grid","fine","looks","solve","boxes","point","right","islands"])(g_MOST_LETTERS:mg "MOST_LETTERS"=some (.int 8 t_MOST_LETTERS))(g_LETTERS:mg "LETTERS"=some (.str "abcdefghijklmnopqrstuvwxyz" t_LETTERS)):Fk P w K mg base 2 "is_name" zeB ze6:=
 zin.mk' (za3 (k:=1) zin.F zq3 (znU) λcdv A outer s H E hr=>⟨_,(zaj (zat (zb6 (zaC zet hr (zaa (dv 0) (zaa (zjf g_LETTERS rfl) (zaa (zf1 g_MOST_LETTERS rfl) zad)))) (zcr (zsr g_KEPT_WORDS rfl (dv 0)))))),λds S Q ex h=>by
  unfold ze6 at h
  split at h
  ·rename_i w
   obtain⟨hl,h⟩:=h
   unfold zbm at h
   refine⟨hl,ifB (λe=>?_) (λe=>?_)⟩
   ·rw[e,VaV] at h
    exact h
   ·rw[e,VaH] at h
    exact h
  ·exact h.elim⟩)
def zmp  (zib:Df K mg "greatest_divisor" zdN zge):Fk P w K mg base 1 "greatest_divisor" zge zfX:=
 zib.mk' (za3 (k:=0) zib.F zgO (zoC) λcdv A outer s H E hr=>⟨_,(zaf (zhR PassesOwn.never (zaK (zed hr) (dv 1) zac (zaA _)) (zaf (zar (i:=2) zgO.nd rfl (Or.inl rfl) (zag zdu (dv 0) (dv 1))) (zaf (zar (i:=0) zgO.nd rfl (Or.inl rfl) (dv 1)) (zaj (zar (i:=1) zgO.nd rfl (Or.inl rfl) (dv 2)))))) (zaj (zat (dv 0)))),λds S Q ex h=>by
  unfold zfX at h
  split at h
  ·rename_i a b
   obtain⟨⟨ha,hb⟩,h⟩:=h
   refine⟨λm dl' S'=>S'=S∧∃(x y:Int) (o:Option D),dl'=[some (.int x),some (.int y),o]∧0≤x∧0≤y∧Int.gcd x y=Int.gcd a b∧m=y.toNat,⟨b.toNat,rfl,a,b,none,rfl,ha,hb,rfl,rfl⟩,?_⟩
   rintro m dl' S' ⟨rfl,x,y,o,rfl,hx,hy,hg,rfl⟩
   refine ifN (λc=>?_) (λc=>?_)
   ·have c':0<y:=by omega
    exact⟨c',⟨(x%y).toNat,by have:=zeO (a:=x) c'; omega,rfl,y,x%y,_,rfl,hy,(zeO (a:=x) c').1,(zrU x y).trans hg,rfl⟩⟩
   ·subst c
    have e:((Int.gcd a b:Nat):Int)=x:=by rw[← hg,Int.gcd_zero_right]; omega
    rw[e] at h
    exact h
  ·exact h.elim⟩)
def zq2  (zh5:Df K mg "is_whole" zdl zf9)(za2:mg "isinstance"=none)(zcd:mg "bool"=none)(zaZ:mg "int"=none)(zcY:Kit K "bool")(zcJ:Kit K "int"):Fk P w K mg base 1 "is_whole" zf9 zgv:=
 zh5.mk' (za3 (k:=0) zh5.F zso (znN) λcdv A outer s H E hr=>⟨_,(zaj (zat (zb6 (ze0 zcJ rfl za2 rfl zaZ Boot.«int» (dv 0)) (zcr (zi9 (ze0 zcY rfl za2 rfl zcd Boot.«bool» (dv 0))))))),λds S Q ex h=>by
  unfold zgv at h
  split at h
  ·exact h
  ·exact h.elim⟩)
def zoW  (zhs:Df K mg "fraction" zdr zgx)(zas:Ec K mg "NoNumber")(zjg:Fk P w K mg base 1 "greatest_divisor" zge zfX)(zg6:Fk P w K mg base 1 "is_whole" zf9 zgv)(zb9:mg "abs"=none):Fk P w K mg base 2 "fraction" zgx (zf8 zas.c):=
 zhs.mk' (zc3 (k:=1) zhs.F ziF (zpM zas.c) λcdv A outer s H E ex hr hpx hrx=>⟨_,(zaf (zaB (PDW.pt (zdU (zbx (za5 (zbn zg6 (hr.mono (by decide)) hpx rfl (zaa (dv 0) zad)))) (zdU (zbx (za5 (zbn zg6 (hr.mono (by decide)) hpx rfl (zaa (dv 1) zad)))) (zfz (zaK (zbo hr) (dv 1) zac (zaA _)))))) (zaj (zcu zas.xc PySem.F.excBase_ValueError hrx hr.hd rfl (zaa zap zad))) zaH) (zaf (zar (i:=2) ziF.nd rfl (Or.inl rfl) (zbn zjg (hr.mono (by decide)) hpx rfl (zaa (zbr zjj rfl zb9 Boot.«abs» (zaa (dv 0) zad)) (zaa (zbr zjj rfl zb9 Boot.«abs» (zaa (dv 1) zad)) zad)))) (zaf (zaB (zaK zcg (dv 1) zac (zaA _)) (zaj (zar (i:=2) ziF.nd rfl (Or.inl rfl) (zej zeo (dv 2)))) zaH) (zaj (zat (zaY (zaa (zag zjT (dv 0) (dv 2)) (zaa (zag zjT (dv 1) (dv 2)) zad)))))))),λds S Q h=>by
  unfold zf8 at h
  split at h
  ·rename_i T B
   rcases h with ⟨hB,h⟩ | ⟨⟨hB,sB⟩,h⟩
   ·exact ifT (decide_eq_true hB) h
   ·have e:((Int.gcd (zbv T) (zbv B):Nat):Int)=((Int.gcd T B:Nat):Int):=by rw[znX]
    have sg:Sz 4000 ((Int.gcd T B:Nat):Int):=by
     have gle:Int.gcd T B≤B.natAbs:=Nat.le_of_dvd (by omega) (Int.gcd_dvd_natAbs_right T B)
     unfold Sz at sB ⊢
     omega
    refine ifD (λc=>absurd c hB) (λc=>?_)
    refine⟨⟨ziW T,ziW B⟩,?_⟩
    refine ifD (λc2=>?_) (λc2=>?_)
    ·have f:=zmk (T:=T) (B:=B) (d:=-((Int.gcd (zbv T) (zbv B):Nat):Int)) hB (by rw[if_pos c2,e])
     obtain⟨f1,f2,f3,f4,f5,f6⟩:=f
     have s2:Sz 4000 (-((Int.gcd (zbv T) (zbv B):Nat):Int)):=by rw[e]; exact sg.neg
     exact⟨⟨f1,s2.log f1⟩,⟨f1,s2.log f1⟩,h _ _ f4 f6 f5 (zhM f1 f2) (zhM f1 f3)⟩
    ·have f:=zmk (T:=T) (B:=B) (d:=((Int.gcd (zbv T) (zbv B):Nat):Int)) hB (by rw[if_neg c2,e])
     obtain⟨f1,f2,f3,f4,f5,f6⟩:=f
     have s2:Sz 4000 ((Int.gcd (zbv T) (zbv B):Nat):Int):=by rw[e]; exact sg
     exact⟨⟨f1,s2.log f1⟩,⟨f1,s2.log f1⟩,h _ _ f4 f6 f5 (zhM f1 f2) (zhM f1 f3)⟩
  ·exact h.elim⟩)
def zms  (zh0:Df K mg "figures_of" zdj zgC)(zdO:mg "reversed"=none)(za4:mg "str"=none):Fk P w K mg base 1 "figures_of" zgC ze5:=
 zh0.mk' (zkF (za3 (k:=0) zh0.F zhD (zl0 (zm9)) λcdv A outer s H E hr=>⟨_,(zaf (zar (i:=1) zhD.nd rfl (Or.inl rfl) (zag zgu zac zac)) (zaf (zar (i:=2) zhD.nd rfl (Or.inl rfl) (za6 zad)) (zaf (zhR PassesOwn.never (zaK do_ge (dv 0) (dv 1) (zaA _)) (zaf (zf4 (zlX (dv 2) (zmC (zb2 (zbe zfa) rfl za4 Boot.«str» (zaa (zag zdu (dv 0) (dv 1)) zad)) (zaa zac zad)))) (zaj (zar (i:=0) zhD.nd rfl (Or.inl rfl) (zag zlf (dv 0) (dv 1)))))) (zaf (zf4 (zlX (dv 2) (zb2 (zbe zfa) rfl za4 Boot.«str» (zaa (dv 0) zad)))) (zaj (zat (zqJ rfl rfl zdO Boot.«reversed» zap (dv 2)))))))),λds S Q ex h=>by
  obtain⟨Q0,ex0,rfl,rfl,h⟩:=h
  unfold ze5 at h
  split at h
  ·rename_i n
   obtain⟨⟨n0,nb⟩,h⟩:=h
   have eP:(10:Int)^Int.toNat 64=10^64:=rfl
   have sP:Sz 220 ((10:Int)^Int.toNat 64):=by unfold Sz; decide
   refine⟨λm dl' S'=>∃(k:Int) (ls:List (List Nat)),0≤k∧S'=S++[.lst (ls.map λl=>D.str (mk l))]∧dl'=[some (.int k),some (.int (10^Int.toNat 64)),some (.ref S.length)]∧dec n.natAbs=dec k.natAbs++ls.reverse.flatten∧(∀l∈ls,l.length=64)∧ls.length≤3∧k.natAbs*(10^64)^ls.length<10^200∧m=k.toNat,⟨n.toNat,n,[],n0,rfl,rfl,by simp,by simp,by simp,by simpa using nb,rfl⟩,?_⟩
   rintro m dl' S' ⟨k,ls,k0,rfl,rfl,ed,el,l3,kb,rfl⟩
   refine ifD (λc=>?_) (λc=>?_)
   ·have c':(10:Int)^64≤k:=c
    have kn:10^64≤k.natAbs:=by omega
    have l2:ls.length≤2:=by
     by_cases z:ls.length=3
     ·rw[z] at kb
      have:=Nat.mul_le_mul_right ((10^64)^3) kn
      have e:(10:Nat)^64*(10^64)^3=10^256:=by decide
      have e2:(10:Nat)^200≤10^256:=by decide
      omega
     ·omega
    have rr:=zeO (a:=k) (b:=10^Int.toNat 64) (by decide)
    have er:k%10^Int.toNat 64=((k.natAbs%10^64:Nat):Int):=by rw[eP]; omega
    have eq':(k/10^Int.toNat 64).natAbs=k.natAbs/10^64:=by rw[eP]; omega
    have lr:(dec (k.natAbs%10^64)).length≤64:=zdX (by decide) (Nat.mod_lt _ (by decide))
    refine zl6 (S:=S) (xs:=ls.map λl=>D.str (mk l)) (y:=.str (mk (pad 64 (k.natAbs%10^64)))) (λK hK=>by exact hK) (λK hK=>?_) (by rw[Vab]; omega) ?_
    ·refine zhv (S1:=S++[.lst (ls.map λl=>D.str (mk l))]) (S2:=S++[.lst (ls.map λl=>D.str (mk l))]) (x:=mk (dec (k.natAbs%10^64))) (y:=.int 64) (λK hK=>?_) (λK hK=>by exact hK) ⟨⟨by decide,by decide⟩,?_⟩
     ·refine⟨show (0:Int)<10^Int.toNat 64 by decide,?_⟩
      refine zeX (zf5 (k:=64) (by show (k%10^Int.toNat 64).natAbs<_; rw[er,Int.natAbs_natCast]; exact Nat.mod_lt _ (by decide)) (by decide)) ?_
      show K (.str (Str.ofString (toString (k%10^Int.toNat 64)))) _
      rw[zeE,zer (by omega),er,Int.natAbs_natCast]
      exact hK
     ·show K (.str (Txt.zfill (mk (dec (k.natAbs%10^64))) 64)) _
      rw[znu lr]
      exact hK
    ·refine⟨sP.fd (by decide),?_⟩
     refine⟨(k/10^Int.toNat 64).toNat,?_,k/10^Int.toNat 64,ls++[pad 64 (k.natAbs%10^64)],?_,by rw[Vaq]; rfl,rfl,?_,?_,by simp; omega,?_,rfl⟩
     ·rw[eP]; omega
     ·rw[eP]; omega
     ·rw[ed,eq',List.reverse_append,List.reverse_singleton,List.singleton_append,Vav,← Vaw]
      congr 1
      have z:=zl2 (q:=k.natAbs/10^64) (by omega) 64 (k.natAbs%10^64) (by decide) (Nat.mod_lt _ (by decide))
      rw[Nat.div_add_mod' k.natAbs (10^64)] at z
      exact z
     ·intro l hl
      rcases Vak.mp hl with z | z
      ·exact el l z
      ·have e:l=pad 64 (k.natAbs%10^64):=by simpa using z
       rw[e]
       unfold pad
       rw[Vah,List.length_replicate]
       omega
     ·rw[eq',Vah,List.length_singleton]
      exact zoO kb
   ·have c':¬ (10:Int)^64≤k:=c
    have lk:(dec k.natAbs).length≤64:=zdX (by decide) (by omega)
    refine zl6 (S:=S) (xs:=ls.map λl=>D.str (mk l)) (y:=.str (mk (dec k.natAbs))) (λK hK=>by exact hK) (λK hK=>?_) (by rw[Vab]; omega) ?_
    ·refine zeX (zf5 (k:=64) (by omega) (by decide)) ?_
     rw[zeE,zer k0]
     exact hK
    ·have em:(ls.map λl=>D.str (mk l))++[D.str (mk (dec k.natAbs))]=(ls++[dec k.natAbs]).map λl=>D.str (mk l):=by rw[Vaq]; rfl
     rw[em]
     refine zmR (sep:="") (n:=S.length) (S1:=S++[.lst ((ls++[dec k.natAbs]).map λl=>D.str (mk l))]) (S2:=S++[.lst ((ls++[dec k.natAbs]).map λl=>D.str (mk l))]) (ds:=(ls++[dec k.natAbs]).map λl=>D.str (mk l)) (zs:=(ls++[dec k.natAbs]).map mk) (λK hK=>by exact hK) (λK hK=>by exact hK) (zak _ _) (zk6 _) (by decide) (λz hz=>?_) (by simp; omega) ?_
     ·obtain⟨l,hl,rfl⟩:=List.mem_map.mp hz
      rw[za9]
      rcases Vak.mp hl with z | z
      ·rw[el l z]; decide
      ·have e:l=dec k.natAbs:=by simpa using z
       rw[e]; omega
     ·rw[← List.map_reverse,zrI,List.reverse_append,List.reverse_singleton,List.singleton_append,Vav,← ed]
      exact⟨Pre.refl.push,.str _,h⟩
  ·exact h.elim⟩))
def znf  (zgZ:Df K mg "written" zds zgb)(zg8:Fk P w K mg base 1 "figures_of" zgC ze5)(zb9:mg "abs"=none):Fk P w K mg base 2 "written" zgb zgy:=
 zgZ.mk' (za3 (k:=1) zgZ.F zih (znV) λcdv A outer s H E hr=>⟨_,(zaf (zar (i:=1) zih.nd rfl (Or.inl rfl) (zaC zg8 hr (zaa (zbr zjj rfl zb9 Boot.«abs» (zaa (zaw (dv 0) zac (λ_ _=>rfl)) zad)) zad))) (zaf (zaB (zaK zcg (zaw (dv 0) zac (λ_ _=>rfl)) zac (zaA _)) (zaj (zar (i:=1) zih.nd rfl (Or.inl rfl) (zag zgo zap (dv 1)))) zaH) (zaf (zaB (zaK (zed hr) (zaw (dv 0) zac (λ_ _=>rfl)) zac (zaA _)) (zaj (zar (i:=1) zih.nd rfl (Or.inl rfl) (zag zgo (zag zgo (dv 1) zap) (zaC zg8 hr (zaa (zaw (dv 0) zac (λ_ _=>rfl)) zad))))) zaH) (zaj (zat (dv 1)))))),λds S Q ex h=>by
  unfold zgy at h
  split at h
  ·rename_i t b
   obtain⟨⟨ht,b1,hb⟩,h⟩:=h
   have l1:=ziq (k:=200) (by decide) ht
   have d1:=zdX (k:=200) (by decide) ht
   have d2:=zdX (k:=200) (by decide) hb
   have eabs:(if t<0 then -t else t).natAbs=t.natAbs:=by split <;> omega
   refine⟨⟨ziW t,by show (if t<0 then -t else t).natAbs<_; rw[eabs]; exact ht⟩,?_⟩
   have fin:∀x:Str,x=mk (num t)→dIf (zd9 (dOp (wNe eq2) (dOp wIx (zbf 0) (dC (D.int 1))) (dC (D.int 1)))) (zeM 1 (dOp zgc (dOp zgc (zbf 1) (dC (D.str "/"))) (zfL (λ_ _ _=>False) ze5 (zby (dOp wIx (zbf 0) (dC (D.int 1))) zcl)))) zjA { nx:=λdl' S'=>zfE (zbf 1) { nx:=λ_ S'=>Q .non S',rt:=Q } dl' S',rt:=Q } [some (.tup [.int t,.int b]),some (.str x)] S:=λx ex'=>by
    subst ex'
    refine ifN (λe=>?_) (λe=>?_)
    ·have s1:mk (num t)++("/":Str)=mk (num t++[47]):=by rw[zg5]; exact zeK (num t) [47]
     refine⟨by rw[za9]; show _+1≤1000; omega,?_⟩
     refine⟨⟨by omega,hb⟩,?_⟩
     refine⟨by rw[s1,za9,za9]; simp; omega,?_⟩
     have s2:mk (num t)++("/":Str)++mk (dec b.natAbs)=mk (zbj t b):=by
      rw[s1,zeK,Vaw]
      unfold zbj
      rw[if_neg e,zer (show 0≤b by omega)]
      rfl
     show Q (.str (mk (num t)++("/":Str)++mk (dec b.natAbs))) S
     rw[s2]
     exact h
    ·have s2:mk (num t)=mk (zbj t b):=by
      unfold zbj
      rw[if_pos e,Var]
     show Q (.str (mk (num t))) S
     rw[s2]
     exact h
   refine ifD (λe=>?_) (λe=>?_)
   ·refine⟨by show 1+(mk (dec _)).length≤1000; rw[za9,eabs]; omega,?_⟩
    refine fin _ ?_
    show ("-":Str)++mk (dec (if t<0 then -t else t).natAbs)=mk (num t)
    rw[eabs,zlV,zjw e]
    exact zeK [45] _
   ·refine fin _ ?_
    show mk (dec (if t<0 then -t else t).natAbs)=mk (num t)
    rw[eabs,zer (by omega)]
  ·exact h.elim⟩)
def zrK  {t_MOST_FIGURES:Tok}{t_FIGURES:Tok}(zij:Df K mg "number_of" zdD zfo)(zam:Ec K mg "NoRow")(zas:Ec K mg "NoNumber")(zjI:Fk P w K mg base 2 "written" zgb zgy)(zju:Fk P w K mg base 2 "fraction" zgx (zf8 zas.c))(zet:Fk P w K mg base 1 "made_of" zeL zfc)(g_MOST_FIGURES:mg "MOST_FIGURES"=some (.int 9 t_MOST_FIGURES))(g_FIGURES:mg "FIGURES"=some (.str "0123456789" t_FIGURES))(zaZ:mg "int"=none):Fk P w K mg base 3 "number_of" zfo (zfe zam.c zas.c):=
 zij.mk' (zc3 (k:=2) zij.F zfm (znq zam.c zas.c) λcdv A outer s H E ex hr hpx hrx=>⟨_,(zaf (zar (i:=1) zfm.nd rfl (Or.inl rfl) (zsg (dv 0) (zaa zap zad))) (zaf (zar (i:=2) zfm.nd rfl (Or.inl rfl) (zaw (dv 1) zac (λ_ _=>rfl))) (zaf (zar (i:=3) zfm.nd rfl (Or.inl rfl) (zlR (zaK (zbo hr) (zaw (dv 1) zac (λ_ _=>rfl)) zap (zaA _)) (zaw (dv 1) zac (λ_ _=>rfl)) zap)) (zaf (zar (i:=4) zfm.nd rfl (Or.inl rfl) (zlR (za5 (znn (dv 2) (zaa zap zad))) (zrL (dv 2) (zbP zac) zcv) (dv 2))) (zaf (zaB (PDW.pt (zdU (zbx (za5 (zbn zet (hr.mono (by decide)) hpx rfl (zaa (dv 4) (zaa (zjf g_FIGURES rfl) (zaa (zf1 g_MOST_FIGURES rfl) zad)))))) (zfz (zbx (za5 (zbn zet (hr.mono (by decide)) hpx rfl (zaa (dv 3) (zaa (zjf g_FIGURES rfl) (zaa (zf1 g_MOST_FIGURES rfl) zad))))))))) (zaj (zcu zam.xc PySem.F.excBase_ValueError hrx hr.hd rfl (zaa zap zad))) zaH) (zaf (zaB (zaK (zbo hr) (zb2 (zbe zhP) rfl zaZ Boot.«int» (zaa (dv 3) zad)) zac (zaA _)) (zaj (zcu zam.xc PySem.F.excBase_ValueError hrx hr.hd rfl (zaa zap zad))) zaH) (zaf (zar (i:=5) zfm.nd rfl (Or.inl rfl) (zbn zju (hr.mono (by decide)) hpx rfl (zaa (zb2 (zbe zhP) rfl zaZ Boot.«int» (zaa (dv 2) zad)) (zaa (zb2 (zbe zhP) rfl zaZ Boot.«int» (zaa (dv 3) zad)) zad)))) (zaf (zaB (zaK (zed hr) (zbn zjI (hr.mono (by decide)) hpx rfl (zaa (dv 5) zad)) (dv 0) (zaA _)) (zaj (zcu zam.xc PySem.F.excBase_ValueError hrx hr.hd rfl (zaa zap zad))) zaH) (zaj (zat (dv 5))))))))))),λds S Q h=>by
  unfold zfe at h
  split at h
  ·rename_i w
   obtain⟨hl,h1,h2⟩:=h
   have lw:=zh4 w
   refine cut4 (α:=D×List Nat×List Nat×List Nat) (λa=>match a with | ⟨d,T,B,F⟩=>[some (.str w),some d,some (.str (mk T)),some (.str (mk B)),some (.str (mk F)),none]) (λa=>match a with | ⟨_,T,B,F⟩=>zis (cs w) T B∧Sig T F) (λmain=>?_) ?_
   ·have sig:∀(d:D) (T B:List Nat) (nx:Ev→Sto→Prop),zis (cs w) T B→T.length≤900→(∀F,Sig T F→nx [some (.str w),some d,some (.str (mk T)),some (.str (mk B)),some (.str (mk F)),none] S)→zeM 4 (dIfE (zd9 (zcS ziu (zbf 2) (zby (dC (D.str "-")) zcl))) (dSlS (zbf 2) (zjL (dC (D.int 1))) zk4) (zbf 2)) { nx:=nx,rt:=Q } [some (.str w),some d,some (.str (mk T)),some (.str (mk B)),none,none] S:=λd T B nx sh lT go=>by
     refine zhv (S1:=S) (S2:=S) (x:=mk T) (y:=.str "-") (λK hK=>by exact hK) (λK hK=>by exact hK) ?_
     show if Txt.startswith (mk T) "-"=true then _ else _
     rw[zo9,za7]
     refine ifD (λc=>?_) (λc=>?_)
     ·cases T with
      | nil=>cases c
      | cons x r=>
       have ex':x=45:=by simpa using c
       subst ex'
       refine⟨by rw[za9]; omega,?_⟩
       have et:=znQ (x:=mk (45::r)) (r:=r) (za7 _)
       show nx (List.set _ 4 (some (.str (StrLaws.sliceText (mk (45::r)) (some 1) none)))) S
       rw[et]
       exact go r (.inl rfl)
     ·exact go T (.inr ⟨rfl,c⟩)
    by_cases h47:47∈cs w
    ·obtain⟨A',B,e,nA⟩:=zmd _ h47
     refine zhv (S1:=S) (S2:=S) (x:=w) (y:=.str "/") (λK hK=>by exact hK) (λK hK=>by exact hK) ⟨⟨by decide,by omega⟩,?_⟩
     rw[zqA e nA]
     have lA:A'.length≤900:=by
      have:(cs w).length=A'.length+(B.length+1):=by rw[e]; simp
      omega
     exact sig _ A' B _ ⟨.inr e,nA⟩ lA (λF sg=>main (_,A',B,F) ⟨⟨.inr e,nA⟩,sg⟩)
    ·refine zhv (S1:=S) (S2:=S) (x:=w) (y:=.str "/") (λK hK=>by exact hK) (λK hK=>by exact hK) ⟨⟨by decide,by omega⟩,?_⟩
     rw[zq6 h47]
     have sh:zis (cs w) (cs w) [49]:=⟨.inl ⟨rfl,rfl⟩,h47⟩
     have z:=sig (.tup [.str w,.str Str.empty,.str Str.empty]) (cs w) [49] _ sh (by omega) (λF sg=>main (_,cs w,[49],F) ⟨sh,sg⟩)
     rw[zeY] at z
     exact z
   ·rintro⟨d,T,B,F⟩ ⟨sh,sg⟩
    have lens:T.length≤900∧B.length≤900∧F.length≤900:=by
     have lT:T.length≤900∧B.length≤900:=by
      rcases sh.1 with ⟨e,rfl⟩ | e
      ·rw[← e]; exact⟨by omega,by decide⟩
      ·have:(cs w).length=T.length+(B.length+1):=by rw[e]; simp
       omega
     refine⟨lT.1,lT.2,?_⟩
     rcases sg with e | ⟨e,_⟩
     ·rw[e] at lT
      simp at lT
      omega
     ·rw[← e]; exact lT.1
    refine⟨by rw[za9]; omega,?_⟩
    by_cases fF:zcN (mk F)=true
    ·refine ifF (c:=!zcN (mk F)) (by rw[fF]; rfl) ?_
     refine⟨by rw[za9]; omega,?_⟩
     by_cases fB:zcN (mk B)=true
     ·refine ifF (c:=!zcN (mk B)) (by rw[fB]; rfl) ?_
      have gF:=(ziL _).mp fF
      have gB:=(ziL _).mp fB
      rw[za7] at gF gB
      obtain⟨rB,_⟩:=zkS gB.2.2 gB.1 (by omega)
      obtain⟨rF1,rF2⟩:=zkS gF.2.2 gF.1 (by omega)
      have vF:PySem.NumText.digitsVal F<10^9:=Vag (zk5 F gF.2.2) (Nat.pow_le_pow_right (by decide) gF.2.1)
      have vB:PySem.NumText.digitsVal B<10^9:=Vag (zk5 B gB.2.2) (Nat.pow_le_pow_right (by decide) gB.2.1)
      refine zhO rB (by rw[za9]; omega) ?_
      refine ifD (λe0=>?_) (λe0=>?_)
      ·refine h2 λt b n=>?_
       obtain⟨_,_,eB⟩:=zeI n sh sg
       rw[eB,ze2] at e0
       have:=n.pos
       omega
      ·obtain⟨tv,rT,av,own⟩:∃tv:Int,PySem.intText? (mk T)=some tv∧tv.natAbs<10^9∧∀t b,zbd (cs w) t b→tv=t:=by
        rcases id sg with e | ⟨e,z⟩
        ·refine⟨_,by rw[e]; exact rF2,by omega,λt b n=>?_⟩
         obtain⟨eT,eF,_⟩:=zeI n sh sg
         rw[eF,ze2]
         rw[e] at eT
         unfold num at eT
         split at eT
         ·omega
         ·have:=zcZ eT.symm
          omega
        ·refine⟨_,by rw[e]; exact rF1,by omega,λt b n=>?_⟩
         obtain⟨eT,eF,_⟩:=zeI n sh sg
         rw[eF,ze2]
         unfold num at eT
         split at eT
         ·rw[eT] at z
          exact absurd rfl z
         ·omega
       have lT:T.length≤10:=by
        have:=gF.2.1
        rcases sg with e | ⟨e,_⟩
        ·rw[e,Vam]; omega
        ·rw[e]; omega
       refine zhO rT (by rw[za9]; omega) ?_
       refine zhO rB (by rw[za9]; omega) ?_
       refine .inr ⟨⟨e0,(Sz.of (n:=40) (10^9) (by omega)).mono (by decide)⟩,λt b b1 ecr g st sb=>?_⟩
       have big:(10:Nat)^9≤10^200:=Nat.pow_le_pow_right (by decide) (by decide)
       refine⟨⟨by omega,b1,by omega⟩,?_⟩
       refine ifN (λc=>?_) (λc=>?_)
       ·refine h2 λt' b' n=>c ?_
        obtain⟨_,_,eB⟩:=zeI n sh sg
        have et:=own t' b' n
        have eb:((PySem.NumText.digitsVal B:Nat):Int)=b':=by
         rw[eB,ze2]
         have:=n.pos
         omega
        rw[et,eb] at ecr
        obtain⟨rfl,rfl⟩:=zrH b1 n.pos g n.low ecr
        refine zcL ?_
        rw[za7]
        exact n.eq.symm
       ·refine h1 t b ⟨b1,g,by omega,by omega,?_⟩
        rw[← c,za7]
     ·refine ifT (c:=!zcN (mk B)) (by simp[fB]) ?_
      refine h2 λt b n=>fB ?_
      obtain⟨_,_,eB⟩:=zeI n sh sg
      rw[eB]
      exact zjJ (by have:=n.bot; have:=n.pos; omega)
    ·refine ifT (c:=!zcN (mk F)) (by simp[fF]) ?_
     refine h2 λt b n=>fF ?_
     obtain⟨_,eF,_⟩:=zeI n sh sg
     rw[eF]
     exact zjJ n.top
  ·exact h.elim⟩)
def znk  (zab:zbG K mg)(zhY:Dm K zab.C "sees" "Reader.sees" zdm zdB)(zbD:Fm P w K mg base 1 zab.C "at_end" zd4 (zes zab.C)):Fm P w K mg base 2 zab.C "sees" zdB (zdQ zab.C):=
 zhY.mk' (za3 (k:=1) zhY.F zn4 (zrQ zab.C) λcdv A outer s H E hr=>⟨_,(zaj (zat (zb6 (zi9 (zbp (C:=zab.C) (dv 0) zab.cl zbD.m zbD.ok (hr.mono (by decide)) zbD.b zc5)) (zcr (zcR (zoA hr) (zbT (zd8 zab.cl zab.n_words (dv 0)) (zd8 zab.cl zab.n_place (dv 0)) (λ_ _=>rfl)) (dv 1) rfl))))),λds S Q ex h=>by
  unfold zdQ at h
  split at h
  ·rename_i n es
   obtain⟨cs,rfl,wm,ws,p,d,rd,h⟩:=h
   refine za0 (S1:=S) (n:=n) (λK hK=>by exact hK) rd.rd rfl ?_
   refine⟨wm,ws,p,d,rd,?_⟩
   by_cases c:p=ws.length
   ·rw[decide_eq_true c]
    rw[VaU (by omega)] at h
    exact h
   ·rw[decide_eq_false c]
    have lp:p<ws.length:=by have:=rd.pl; omega
    rw[VaS lp] at h
    refine zcW (S1:=S) (λK hK=>by exact hK) rd.rd rfl ?_
    refine zcW (S1:=S) (λK hK=>by exact hK) rd.rd rfl ?_
    refine zbi (o:=.lst (ws.map D.str)) rd.wd (zd3 lp) ?_
    exact znI h
  ·rename_i n m
   obtain⟨cs,hm,wm,ws,p,d,rd,h⟩:=h
   refine za0 (S1:=S) (n:=n) (λK hK=>by exact hK) rd.rd rfl ?_
   refine⟨wm,ws,p,d,rd,?_⟩
   by_cases c:p=ws.length
   ·rw[decide_eq_true c]
    rw[VaU (by omega)] at h
    exact h
   ·rw[decide_eq_false c]
    have lp:p<ws.length:=by have:=rd.pl; omega
    rw[VaS lp] at h
    refine zcW (S1:=S) (λK hK=>by exact hK) rd.rd rfl ?_
    refine zcW (S1:=S) (λK hK=>by exact hK) rd.rd rfl ?_
    refine zbi (o:=.lst (ws.map D.str)) rd.wd (zd3 lp) ?_
    exact zpa hm h
  ·exact h.elim⟩)
def znB  {t_MOST_BRACKETS:Tok}(n:Nat)(zab:zbG K mg)(zen:Dm K zab.C "bracket" "Reader.bracket" zc2 zeQ)(zam:Ec K mg "NoRow")(zas:Ec K mg "NoNumber")(zaQ:Fm P w K mg base 2 zab.C "take" zcA (zct zab.C zam.c))(zci:Fm P w K mg base (3+5*n) zab.C "expression" zdA (zdE n zab.C zam.c zas.c))(g_MOST_BRACKETS:mg "MOST_BRACKETS"=some (.int 16 t_MOST_BRACKETS)):Fm P w K mg base (3+5*n+1) zab.C "bracket" zeQ (zfM (n+1) zab.C zam.c zas.c):=
 zen.mk' (zc3 (k:=(3+5*n+0)) zen.F zkP (zrs (n+1) zab.C zam.c zas.c) λcdv A outer s H E ex hr hpx hrx=>⟨_,(zaf (zlP zab.cl zab.n_depth (dv 0) zac) (zaf (zaB (zaK zlg (zd8 zab.cl zab.n_depth (dv 0)) (zf1 g_MOST_BRACKETS rfl) (zaA _)) (zaj (zcu zam.xc PySem.F.excBase_ValueError hrx hr.hd rfl (zaa zap zad))) zaH) (zaf (zar (i:=1) zkP.nd rfl (Or.inl rfl) (zbp (C:=zab.C) (dv 0) zab.cl zci.m zci.ok (hr.mono (by omega)) zci.b hpx)) (zaf (zaB (zaK (zed hr) (zbp (C:=zab.C) (dv 0) zab.cl zaQ.m zaQ.ok (hr.mono (by omega)) zaQ.b hpx) zap (zaA _)) (zaj (zcu zam.xc PySem.F.excBase_ValueError hrx hr.hd rfl (zaa zap zad))) zaH) (zaf (zqP zab.cl zab.n_depth (dv 0) zac) (zaj (zat (dv 1)))))))),λds S Q h=>by
  unfold zfM at h
  split at h
  ·rename_i n0
   obtain⟨wm,ws,p,d,rd,d16,lv,h⟩:=h
   unfold brS at h
   refine zjr (S1:=S) (S2:=S) (n:=n0) (λK hK=>by exact hK) rd.rd rfl (λK hK=>by exact hK) rd.rd (show 3<1000 by decide) ?_
   obtain⟨rd1,x1⟩:=rd.put (p':=p) (d':=d+1) (p:Int) ((d:Int)+1) rfl (by omega) rd.pl
   rw[show zbS "depth" (.int ((d:Int)+1)) (rdF wm (p:Int) (d:Int))=rdF wm (p:Int) ((d:Int)+1) from rfl]
   generalize S.set n0 (.ins zab.C (rdF wm (p:Int) ((d:Int)+1)))=S1 at rd1 x1 ⊢
   refine zcW (S1:=S1) (n:=n0) (λK hK=>by exact hK) rd1.rd rfl ?_
   refine ifD (λc=>?_) (λc=>?_)
   ·have e:d=16:=by omega
    subst e
    exact h _ x1
   ·have e:16-d=(16-(d+1))+1:=by omega
    have ei:inS (16-d) (ws.drop p)=exS (16-(d+1)) (ws.drop p):=by rw[e]; rfl
    rw[ei] at h
    refine za0 (S1:=S1) (n:=n0) (λK hK=>by exact hK) rd1.rd rfl ?_
    refine⟨wm,ws,p,d+1,rd1,by omega,by omega,?_⟩
    cases ee:exS (16-(d+1)) (ws.drop p) with
    | none=>
     rw[ee] at h
     exact λT xT=>h T (x1.trans xT)
    | some tr=>
     obtain⟨t,r⟩:=tr
     obtain⟨er,lr⟩:=zep (ziB _) ee
     rw[ee] at h
     intro T xT rdT
     refine za0 (S1:=T) (n:=n0) (λK hK=>by exact hK) rdT.rd rfl ?_
     refine⟨wm,ws,ws.length-r.length,d+1,rdT,?_⟩
     rw[er]
     cases r with
     | nil=>exact h T (x1.trans xT)
     | cons w2 r2=>
      rw[Vam] at lr rdT ⊢
      obtain⟨rd2,x2⟩:=rdT.put (p':=ws.length-r2.length) (d':=d+1) (((ws.length-(r2.length+1):Nat):Int)+1) (((d+1:Nat)):Int) (by omega) rfl (by omega)
      dsimp only[dC]
      refine txNe ?_
      by_cases c2:w2=")"
      ·rw[decide_eq_true c2]
       dsimp only at h
       rw[if_pos ((zkm w2).mpr c2)] at h
       generalize T.set n0 (.ins zab.C (rdF wm (((ws.length-(r2.length+1):Nat):Int)+1) (((d+1:Nat)):Int)))=T2 at rd2 x2 ⊢
       refine zjr (S1:=T2) (S2:=T2) (n:=n0) (λK hK=>by exact hK) rd2.rd rfl (λK hK=>by exact hK) rd2.rd (show 3<1000 by decide) ?_
       obtain⟨rd3,x3⟩:=rd2.put (p':=ws.length-r2.length) (d':=d) ((ws.length-r2.length:Nat):Int) (((d+1:Nat):Int)-1) rfl (by omega) rd2.pl
       exact h _ (x1.trans (xT.trans (x2.trans x3))) rd3
      ·rw[decide_eq_false c2]
       dsimp only at h
       rw[if_neg λz=>c2 ((zkm w2).mp z)] at h
       exact h _ (x1.trans (xT.trans x2))
  ·exact h.elim⟩)
def zo5  (n:Nat)(zab:zbG K mg)(zeg:Dm K zab.C "atom" "Reader.atom" zc1 ze3)(zam:Ec K mg "NoRow")(zas:Ec K mg "NoNumber")(zfj:Fk P w K mg base 3 "number_of" zfo (zfe zam.c zas.c))(zfw:Fk P w K mg base 2 "is_name" zeB ze6)(zf3:Fm P w K mg base (3+5*n+1) zab.C "bracket" zeQ (zfM (n+1) zab.C zam.c zas.c))(zaQ:Fm P w K mg base 2 zab.C "take" zcA (zct zab.C zam.c)):Fm P w K mg base (3+5*n+2) zab.C "atom" ze3 (zfV (n+1) zab.C zam.c zas.c):=
 zeg.mk' (zc3 (k:=(3+5*n+1)) zeg.F zjn (znb (n+1) zab.C zam.c zas.c) λcdv A outer s H E ex hr hpx hrx=>⟨_,(zaf (zar (i:=1) zjn.nd rfl (Or.inl rfl) (zbp (C:=zab.C) (dv 0) zab.cl zaQ.m zaQ.ok (hr.mono (by omega)) zaQ.b hpx)) (zaf (zaB (zaK (zbo hr) (dv 1) zap (zaA _)) (zaj (zat (zbp (C:=zab.C) (dv 0) zab.cl zf3.m zf3.ok (hr.mono (by omega)) zf3.b hpx))) zaH) (zaf (zaB (za5 (zbn zfw (hr.mono (by omega)) hpx rfl (zaa (dv 1) zad))) (zaj (zat (zaY (zaa zap (zaa (dv 1) zad))))) zaH) (zaf (zar (i:=2) zjn.nd rfl (Or.inl rfl) (zbn zfj (hr.mono (by omega)) hpx rfl (zaa (dv 1) zad))) (zaj (zat (zaY (zaa zap (zaa (zaw (dv 2) zac (λ_ _=>rfl)) (zaa (zaw (dv 2) zac (λ_ _=>rfl)) zad)))))))))),λds S Q h=>by
  unfold zfV at h
  split at h
  ·rename_i n0
   obtain⟨wm,ws,p,d,rd,d16,lv,h⟩:=h
   refine za0 (S1:=S) (n:=n0) (λK hK=>by exact hK) rd.rd rfl ?_
   refine⟨wm,ws,p,d,rd,?_⟩
   by_cases c:p=ws.length
   ·rw[VaU (by omega)] at h ⊢
    exact h S (zaI.refl rd.lt)
   have lp:p<ws.length:=by have:=rd.pl; omega
   have wl:=rd.wl ws[p] (VaN lp)
   obtain⟨rd1,x1⟩:=rd.put (p':=p+1) (d':=d) ((p:Int)+1) (d:Int) (by omega) rfl lp
   have ll:(ws.drop (p+1)).length=ws.length-(p+1):=VaL ..
   rw[VaS lp] at h ⊢
   generalize ws[p]=w at h wl ⊢
   dsimp only
   generalize S.set n0 (.ins zab.C (rdF wm ((p:Int)+1) (d:Int)))=S1 at rd1 x1 ⊢
   refine zri (i:=1) (a:=w) rfl (λc1=>?_) (λc1=>?_)
   ·rw[znY c1] at h
    refine za0 (S1:=S1) (n:=n0) (λK hK=>by exact hK) rd1.rd rfl ?_
    refine⟨wm,ws,p+1,d,rd1,d16,lv,?_⟩
    cases eb:brS (16-d) (ws.drop (p+1)) with
    | none=>
     rw[eb] at h
     exact λT xT=>h T (x1.trans xT)
    | some tr=>
     rw[eb] at h
     exact λT xT rdT=>h T (x1.trans xT) rdT
   ·rw[zpu c1] at h
    refine⟨by omega,?_⟩
    cases cn:zbm w with
    | true=>
     rw[zjE cn] at h
     have z:=h S1 x1 (by rw[ll,show ws.length-(ws.length-(p+1))=p+1 by omega]; exact rd1)
     have e:trD (.nm (cs w))=.tup [.str "name",.str w]:=by
      show D.tup [.str "name",.str (mk (cs w))]=_
      rw[zeY]
     rw[e] at z
     exact z
    | false=>
     refine⟨by omega,λt b hn=>?_,λhb=>?_⟩
     ·rw[zme cn hn] at h
      exact h S1 x1 (by rw[ll,show ws.length-(ws.length-(p+1))=p+1 by omega]; exact rd1)
     ·rw[zmm cn hb] at h
      exact h S1 x1
  ·exact h.elim⟩)
def zr4  (n:Nat)(zab:zbG K mg)(zem:Dm K zab.C "factor" "Reader.factor" zcF ze1)(zam:Ec K mg "NoRow")(zas:Ec K mg "NoNumber")(zaQ:Fm P w K mg base 2 zab.C "take" zcA (zct zab.C zam.c))(zbc:Fm P w K mg base 2 zab.C "sees" zdB (zdQ zab.C))(zfR:Fm P w K mg base (3+5*n+2) zab.C "atom" ze3 (zfV (n+1) zab.C zam.c zas.c))(g_POWERS:GT K mg "POWERS" ["2","3","4","5","6"])(zaZ:mg "int"=none):Fm P w K mg base (3+5*n+3) zab.C "factor" ze1 (zfQ (n+1) zab.C zam.c zas.c):=
 zem.mk' (zc3 (k:=(3+5*n+2)) zem.F zkf (znr (n+1) zab.C zam.c zas.c) λcdv A outer s H E ex hr hpx hrx=>⟨_,(zaf (zar (i:=1) zkf.nd rfl (Or.inl rfl) (zbp (C:=zab.C) (dv 0) zab.cl zfR.m zfR.ok (hr.mono (by omega)) zfR.b hpx)) (zaf (zaB (zbx (za5 (zh2 (C:=zab.C) (dv 0) zab.cl zbc.m zbc.ok (hr.mono (by omega)) zbc.b hpx (zaa (zaY (zaa zap zad)) zad)))) (zaj (zat (dv 1))) zaH) (zaf (zf4 (zbp (C:=zab.C) (dv 0) zab.cl zaQ.m zaQ.ok (hr.mono (by omega)) zaQ.b hpx)) (zaf (zaB (zbx (za5 (zh2 (C:=zab.C) (dv 0) zab.cl zbc.m zbc.ok (hr.mono (by omega)) zbc.b hpx (zaa (zpN g_POWERS rfl) zad)))) (zaj (zcu zam.xc PySem.F.excBase_ValueError hrx hr.hd rfl (zaa zap zad))) zaH) (zaj (zat (zaY (zaa zap (zaa (dv 1) (zaa (zb2 (zbe zhP) rfl zaZ Boot.«int» (zaa (zbp (C:=zab.C) (dv 0) zab.cl zaQ.m zaQ.ok (hr.mono (by omega)) zaQ.b hpx) zad)) zad)))))))))),λds S Q h=>by
  unfold zfQ at h
  split at h
  ·rename_i n0
   obtain⟨wm,ws,p,d,rd,d16,lv,h⟩:=h
   refine za0 (S1:=S) (n:=n0) (λK hK=>by exact hK) rd.rd rfl ?_
   refine⟨wm,ws,p,d,rd,d16,lv,?_⟩
   cases ea:za1 kS avS (inS (16-d)) (ws.drop p) with
   | none=>
    rw[znw ea] at h
    exact h
   | some tr=>
    obtain⟨t,r⟩:=tr
    obtain⟨er,lr⟩:=zep (ziZ zcP (zfq _)) ea
    intro T xT rdT
    refine za0 (S1:=T) (n:=n0) (λK hK=>by exact hK) rdT.rd rfl ?_
    refine⟨["^"],rfl,wm,ws,ws.length-r.length,d,rdT,?_⟩
    rw[er]
    cases r with
    | nil=>
     rw[zmF ea] at h
     exact h T xT rdT
    | cons w r2=>
     rw[Vam] at lr rdT er
     dsimp only
     by_cases cw:w="^"
     ·rw[show (List.any (["^"]:List Str) λx=>x==w)=true by rw[cw]; decide]
      refine za0 (S1:=T) (n:=n0) (λK hK=>by exact hK) rdT.rd rfl ?_
      refine⟨wm,ws,ws.length-(r2.length+1),d,rdT,?_⟩
      rw[er]
      have er2:=zje er lr
      obtain⟨rd2,x2⟩:=rdT.put (p':=ws.length-r2.length) (d':=d) (((ws.length-(r2.length+1):Nat):Int)+1) (d:Int) (by omega) rfl (by omega)
      dsimp only
      generalize T.set n0 (.ins zab.C (rdF wm (((ws.length-(r2.length+1):Nat):Int)+1) (d:Int)))=T2 at rd2 x2 ⊢
      refine za0 (S1:=T2) (n:=n0) (λK hK=>by exact hK) rd2.rd rfl ?_
      obtain⟨rd3,x3⟩:=rd2.app [.tpl POW]
      refine⟨POW,zak _ _,wm,ws,ws.length-r2.length,d,rd3,?_⟩
      rw[er2]
      cases r2 with
      | nil=>
       rw[zpy ea cw] at h
       exact h _ (xT.trans (x2.trans x3))
      | cons q r3=>
       rw[Vam] at lr rd3 er2
       rw[zp7 ea cw] at h
       dsimp only
       rw[zm7]
       cases ep:pvS q with
       | none=>
        rw[ep] at h
        exact h _ (xT.trans (x2.trans x3))
       | some k=>
        rw[ep] at h
        obtain⟨i1,i2⟩:=zpk ep
        rw[show (!(some k:Option Int).isSome)=false from rfl]
        refine zbM ?_
        refine za0 (S1:=T2++[Ob.tpl POW]) (n:=n0) (λK hK=>by exact hK) rd3.rd rfl ?_
        refine⟨wm,ws,ws.length-(r3.length+1),d,rd3,?_⟩
        rw[er2]
        obtain⟨rd4,x4⟩:=rd3.put (p':=ws.length-r3.length) (d':=d) (((ws.length-(r3.length+1):Nat):Int)+1) (d:Int) (by omega) rfl (by omega)
        refine zhO i1 i2 ?_
        exact h _ (xT.trans (x2.trans (x3.trans x4))) rd4
     ·rw[show (List.any (["^"]:List Str) λx=>x==w)=false by simpa using Ne.symm cw]
      rw[zoo ea cw] at h
      exact h T xT rdT
  ·exact h.elim⟩)
def znL  (n:Nat)(zab:zbG K mg)(zeh:Dm K zab.C "term" "Reader.term" zcG zeG)(zam:Ec K mg "NoRow")(zas:Ec K mg "NoNumber")(zbc:Fm P w K mg base 2 zab.C "sees" zdB (zdQ zab.C))(zdo:Fm P w K mg base (3+5*n+3) zab.C "factor" ze1 (zfQ (n+1) zab.C zam.c zas.c))(zaQ:Fm P w K mg base 2 zab.C "take" zcA (zct zab.C zam.c)):Fm P w K mg base (3+5*n+4) zab.C "term" zeG (zgB (n+1) zab.C zam.c zas.c):=
 zeh.mk' (zc3 (k:=(3+5*n+3)) zeh.F ziP (zmM (n+1) zab.C zam.c zas.c) λcdv A outer s H E ex hr hpx hrx=>⟨_,(zaf (zar (i:=1) ziP.nd rfl (Or.inl rfl) (zbp (C:=zab.C) (dv 0) zab.cl zdo.m zdo.ok (hr.mono (by omega)) zdo.b hpx)) (zaf (zhR PassesOwn.leaving (za5 (zh2 (C:=zab.C) (dv 0) zab.cl zbc.m zbc.ok (hr.mono (by omega)) zbc.b hpx (zaa (zaY (zaa zap zad)) zad))) (zaf (zf4 (zbp (C:=zab.C) (dv 0) zab.cl zaQ.m zaQ.ok (hr.mono (by omega)) zaQ.b hpx)) (zaj (zar (i:=1) ziP.nd rfl (Or.inl rfl) (zaY (zaa zap (zaa (dv 1) (zaa (zbp (C:=zab.C) (dv 0) zab.cl zdo.m zdo.ok (hr.mono (by omega)) zdo.b hpx) zad)))))))) (zaj (zat (dv 1))))),λds S Q h=>by
  unfold zgB at h
  split at h
  ·rename_i n0
   obtain⟨wm,ws,p,d,rd,d16,lv,h⟩:=h
   refine za0 (S1:=S) (n:=n0) (λK hK=>by exact hK) rd.rd rfl ?_
   refine⟨wm,ws,p,d,rd,d16,lv,?_⟩
   cases ea:zaN kS avS pvS (inS (16-d)) (ws.drop p) with
   | none=>
    rw[zoG ea] at h
    exact h
   | some tr=>
    obtain⟨t,r⟩:=tr
    obtain⟨er,lr⟩:=zep (zhe zcP zd0 (zfq _)) ea
    have el:=VaC (zhg (λ_ _ _ e=>zgl e) ea)
    rw[zoK ea] at h
    generalize (ws.drop p).length=N at h el
    intro T xT rdT
    refine⟨λm dl' S'=>∃(t:Tr) (r:List Str) (N:Nat),m=r.length∧r.length≤N∧ws.drop (ws.length-r.length)=r∧r.length≤ws.length∧zaI n0 S S'∧zaR zab.C S' n0 wm ws (ws.length-r.length) d∧dl'=[some (.ref n0),some (trD t)]∧match zbh kS avS pvS (inS (16-d)) N t r with | none=>∀T:Sto,zaI n0 S T→ex zam.c T | some (t,r)=>∀T:Sto,zaI n0 S T→zaR zab.C T n0 wm ws (ws.length-r.length) d→Q (trD t) T,⟨r.length,t,r,N,rfl,el,er,lr,xT,rdT,rfl,h⟩,?_⟩
    clear h el er lr xT rdT ea
    rintro m dl' S' ⟨t,r,N,rfl,el,er,lr,xS,rdS,rfl,h⟩
    refine za0 (S1:=S') (n:=n0) (λK hK=>by exact hK) rdS.rd rfl ?_
    refine⟨["*"],rfl,wm,ws,ws.length-r.length,d,rdS,?_⟩
    rw[er]
    cases r with
    | nil=>
     rw[zhG Nst.nil] at h
     exact h S' xS rdS
    | cons w r2=>
     rw[Vam] at lr rdS er el
     dsimp only
     by_cases cw:w="*"
     ·rw[show (List.any (["*"]:List Str) λx=>x==w)=true by rw[cw]; decide]
      obtain⟨N',rfl⟩:∃N',N=N'+1:=⟨N-1,by omega⟩
      refine zbu ?_
      refine za0 (S1:=S') (n:=n0) (λK hK=>by exact hK) rdS.rd rfl ?_
      refine⟨wm,ws,ws.length-(r2.length+1),d,rdS,?_⟩
      rw[er]
      have er2:=zje er lr
      obtain⟨rd2,x2⟩:=rdS.put (p':=ws.length-r2.length) (d':=d) (((ws.length-(r2.length+1):Nat):Int)+1) (d:Int) (by omega) rfl (by omega)
      dsimp only
      generalize S'.set n0 (.ins zab.C (rdF wm (((ws.length-(r2.length+1):Nat):Int)+1) (d:Int)))=S2 at rd2 x2 ⊢
      refine za0 (S1:=S2) (n:=n0) (λK hK=>by exact hK) rd2.rd rfl ?_
      refine⟨wm,ws,ws.length-r2.length,d,rd2,d16,lv,?_⟩
      rw[er2]
      cases ef:zaN kS avS pvS (inS (16-d)) r2 with
      | none=>
       rw[zmU cw ef] at h
       exact λT xT=>h T (xS.trans (x2.trans xT))
      | some tr=>
       obtain⟨t2,r3⟩:=tr
       rw[zm1 cw ef] at h
       have e2:zaN kS avS pvS (inS (16-d)) (ws.drop (ws.length-r2.length))=some (t2,r3):=by rw[er2]; exact ef
       obtain⟨er3,lr3⟩:=zep (zhe zcP zd0 (zfq _)) e2
       have l3:=zhg (λ_ _ _ e=>zgl e) ef
       intro T3 x3 rd3
       exact⟨r3.length,by rw[Vam]; omega,.bi 2 t t2,r3,N',rfl,by omega,er3,lr3,xS.trans (x2.trans x3),rd3,rfl,h⟩
     ·rw[show (List.any (["*"]:List Str) λx=>x==w)=false by simpa using Ne.symm cw]
      rw[zhG (Nst.cons λz=>cw ((zja w).mp z))] at h
      exact h S' xS rdS
  ·exact h.elim⟩)
def zm6  (n:Nat)(zab:zbG K mg)(zdL:Dm K zab.C "expression" "Reader.expression" zcT zdA)(zam:Ec K mg "NoRow")(zas:Ec K mg "NoNumber")(zbc:Fm P w K mg base 2 zab.C "sees" zdB (zdQ zab.C))(zdv:Fm P w K mg base (3+5*n+4) zab.C "term" zeG (zgB (n+1) zab.C zam.c zas.c))(zaQ:Fm P w K mg base 2 zab.C "take" zcA (zct zab.C zam.c))(g_SUMS:GD P w K mg "SUMS" [("+","plus"),("-","minus")]):Fm P w K mg base (3+5*n+5) zab.C "expression" zdA (zdE (n+1) zab.C zam.c zas.c):=
 zdL.mk' (zc3 (k:=(3+5*n+4)) zdL.F zhc (zob (n+1) zab.C zam.c zas.c) λcdv A outer s H E ex hr hpx hrx=>⟨_,(zaf (zar (i:=1) zhc.nd rfl (Or.inl rfl) (zbp (C:=zab.C) (dv 0) zab.cl zdv.m zdv.ok (hr.mono (by omega)) zdv.b hpx)) (zaf (zhR PassesOwn.leaving (za5 (zh2 (C:=zab.C) (dv 0) zab.cl zbc.m zbc.ok (hr.mono (by omega)) zbc.b hpx (zaa (zaY (zaa zap (zaa zap zad))) zad))) (zaf (zar (i:=2) zhc.nd rfl (Or.inl rfl) (zr9 g_SUMS rfl (zbp (C:=zab.C) (dv 0) zab.cl zaQ.m zaQ.ok (hr.mono (by omega)) zaQ.b hpx) (λ_ _=>rfl))) (zaj (zar (i:=1) zhc.nd rfl (Or.inl rfl) (zaY (zaa (dv 2) (zaa (dv 1) (zaa (zbp (C:=zab.C) (dv 0) zab.cl zdv.m zdv.ok (hr.mono (by omega)) zdv.b hpx) zad)))))))) (zaj (zat (dv 1))))),λds S Q h=>by
  unfold zdE at h
  split at h
  ·rename_i n0
   obtain⟨wm,ws,p,d,rd,d16,lv,h⟩:=h
   rw[show exS (16-d) (ws.drop p)=zbq kS avS pvS (inS (16-d)) (ws.drop p) from congrFun (zjD kS avS pvS (16-d)) _] at h
   refine za0 (S1:=S) (n:=n0) (λK hK=>by exact hK) rd.rd rfl ?_
   refine⟨wm,ws,p,d,rd,d16,lv,?_⟩
   cases ea:zaV kS avS pvS (inS (16-d)) (ws.drop p) with
   | none=>
    rw[zo4 ea] at h
    exact h
   | some tr=>
    obtain⟨t,r⟩:=tr
    obtain⟨er,lr⟩:=zep (zgj zcP zd0 (zfq _)) ea
    have el:=VaC (zgn (λ_ _ _ e=>zgl e) ea)
    rw[znF ea] at h
    generalize (ws.drop p).length=N at h el
    intro T xT rdT
    refine⟨λm dl' S'=>∃(t:Tr) (r:List Str) (N:Nat),m=r.length∧r.length≤N∧ws.drop (ws.length-r.length)=r∧r.length≤ws.length∧zaI n0 S S'∧zaR zab.C S' n0 wm ws (ws.length-r.length) d∧(∃u2:Option D,dl'=[some (.ref n0),some (trD t),u2])∧match zbs kS avS pvS (inS (16-d)) N t r with | none=>∀T:Sto,zaI n0 S T→ex zam.c T | some (t,r)=>∀T:Sto,zaI n0 S T→zaR zab.C T n0 wm ws (ws.length-r.length) d→Q (trD t) T,⟨r.length,t,r,N,rfl,el,er,lr,xT,rdT,⟨_,rfl⟩,h⟩,?_⟩
    clear h el er lr xT rdT ea
    rintro m dl' S' ⟨t,r,N,rfl,el,er,lr,xS,rdS,⟨u2,rfl⟩,h⟩
    refine za0 (S1:=S') (n:=n0) (λK hK=>by exact hK) rdS.rd rfl ?_
    refine⟨["+","-"],rfl,wm,ws,ws.length-r.length,d,rdS,?_⟩
    rw[er]
    cases r with
    | nil=>
     rw[zh7 (λ_ _ e=>by cases e)] at h
     exact h S' xS rdS
    | cons w r2=>
     rw[Vam] at lr rdS er el
     dsimp only
     have er2:=zje er lr
     obtain⟨rd2,x2⟩:=rdS.put (p':=ws.length-r2.length) (d':=d) (((ws.length-(r2.length+1):Nat):Int)+1) (d:Int) (by omega) rfl (by omega)
     obtain⟨N',rfl⟩:∃N',N=N'+1:=⟨N-1,by omega⟩
     by_cases c1:w="+"
     ·rw[show (List.any (["+","-"]:List Str) λx=>x==w)=true by rw[c1]; decide]
      refine zbu ?_
      refine zmg ?_
      refine za0 (S1:=S') (n:=n0) (λK hK=>by exact hK) rdS.rd rfl ?_
      refine⟨wm,ws,ws.length-(r2.length+1),d,rdS,?_⟩
      rw[er]
      dsimp only
      rw[show List.lookup w ([("+","plus"),("-","minus")]:List (Str×Str))=some "plus" by rw[c1]; decide]
      generalize S'.set n0 (.ins zab.C (rdF wm (((ws.length-(r2.length+1):Nat):Int)+1) (d:Int)))=S2 at rd2 x2 ⊢
      refine za0 (S1:=S2) (n:=n0) (λK hK=>by exact hK) rd2.rd rfl ?_
      refine⟨wm,ws,ws.length-r2.length,d,rd2,d16,lv,?_⟩
      rw[er2]
      have ck:zcw (kS w)=some 0:=by rw[(zma w).mpr c1]; rfl
      cases ef:zaV kS avS pvS (inS (16-d)) r2 with
      | none=>
       rw[zlO ck ef] at h
       exact λT xT=>h T (xS.trans (x2.trans xT))
      | some tr=>
       obtain⟨t2,r3⟩:=tr
       rw[zkA ck ef] at h
       have e2:zaV kS avS pvS (inS (16-d)) (ws.drop (ws.length-r2.length))=some (t2,r3):=by rw[er2]; exact ef
       obtain⟨er3,lr3⟩:=zep (zgj zcP zd0 (zfq _)) e2
       have l3:=zgn (λ_ _ _ e=>zgl e) ef
       intro T3 x3 rd3
       exact⟨r3.length,by rw[Vam]; omega,.bi 0 t t2,r3,N',rfl,by omega,er3,lr3,xS.trans (x2.trans x3),rd3,⟨_,rfl⟩,h⟩
     by_cases c2:w="-"
     ·rw[show (List.any (["+","-"]:List Str) λx=>x==w)=true by rw[c2]; decide]
      refine zbu ?_
      refine zmg ?_
      refine za0 (S1:=S') (n:=n0) (λK hK=>by exact hK) rdS.rd rfl ?_
      refine⟨wm,ws,ws.length-(r2.length+1),d,rdS,?_⟩
      rw[er]
      dsimp only
      rw[show List.lookup w ([("+","plus"),("-","minus")]:List (Str×Str))=some "minus" by rw[c2]; decide]
      generalize S'.set n0 (.ins zab.C (rdF wm (((ws.length-(r2.length+1):Nat):Int)+1) (d:Int)))=S2 at rd2 x2 ⊢
      refine za0 (S1:=S2) (n:=n0) (λK hK=>by exact hK) rd2.rd rfl ?_
      refine⟨wm,ws,ws.length-r2.length,d,rd2,d16,lv,?_⟩
      rw[er2]
      have ck:zcw (kS w)=some 1:=by rw[(zky w).mpr c2]; rfl
      cases ef:zaV kS avS pvS (inS (16-d)) r2 with
      | none=>
       rw[zlO ck ef] at h
       exact λT xT=>h T (xS.trans (x2.trans xT))
      | some tr=>
       obtain⟨t2,r3⟩:=tr
       rw[zkA ck ef] at h
       have e2:zaV kS avS pvS (inS (16-d)) (ws.drop (ws.length-r2.length))=some (t2,r3):=by rw[er2]; exact ef
       obtain⟨er3,lr3⟩:=zep (zgj zcP zd0 (zfq _)) e2
       have l3:=zgn (λ_ _ _ e=>zgl e) ef
       intro T3 x3 rd3
       exact⟨r3.length,by rw[Vam]; omega,.bi 1 t t2,r3,N',rfl,by omega,er3,lr3,xS.trans (x2.trans x3),rd3,⟨_,rfl⟩,h⟩
     ·rw[show (List.any (["+","-"]:List Str) λx=>x==w)=false by simp[Ne.symm c1,Ne.symm c2]]
      rw[zh7 (λ_ _ e=>by cases e; exact zsy c1 c2)] at h
      exact h S' xS rdS
  ·exact h.elim⟩)
def zkI {t_MOST_BRACKETS:Tok}(zab:zbG K mg)(zam:Ec K mg "NoRow")(zas:Ec K mg "NoNumber")(zen:Dm K zab.C "bracket" "Reader.bracket" zc2 zeQ)(zaQ:Fm P w K mg base 2 zab.C "take" zcA (zct zab.C zam.c))(g_MOST_BRACKETS:mg "MOST_BRACKETS"=some (.int 16 t_MOST_BRACKETS))(zeg:Dm K zab.C "atom" "Reader.atom" zc1 ze3)(zfj:Fk P w K mg base 3 "number_of" zfo (zfe zam.c zas.c))(zfw:Fk P w K mg base 2 "is_name" zeB ze6)(zem:Dm K zab.C "factor" "Reader.factor" zcF ze1)(zbc:Fm P w K mg base 2 zab.C "sees" zdB (zdQ zab.C))(g_POWERS:GT K mg "POWERS" ["2","3","4","5","6"])(zaZ:mg "int"=none)(zeh:Dm K zab.C "term" "Reader.term" zcG zeG)(zdL:Dm K zab.C "expression" "Reader.expression" zcT zdA)(g_SUMS:GD P w K mg "SUMS" [("+","plus"),("-","minus")]):(n:Nat)→Fm P w K mg base (3+5*n) zab.C "expression" zdA (zdE n zab.C zam.c zas.c)
 | 0=>zdL.vac _ λds S Q ex h=>by
  unfold zdE at h
  split at h
  ·obtain⟨wm,ws,p,d,_,h1,h2,_⟩:=h
   omega
  ·exact h.elim
 | n+1=>
  let zci:=zkI zab zam zas zen zaQ g_MOST_BRACKETS zeg zfj zfw zem zbc g_POWERS zaZ zeh zdL g_SUMS n
  let zf3:=znB n zab zen zam zas zaQ zci g_MOST_BRACKETS
  let zfR:=zo5 n zab zeg zam zas zfj zfw zf3 zaQ
  let zdo:=zr4 n zab zem zam zas zaQ zbc zfR g_POWERS zaZ
  let zdv:=znL n zab zeh zam zas zbc zdo zaQ
  zm6 n zab zdL zam zas zbc zdv zaQ g_SUMS
def zr8  {t_MOST_WORDS:Tok}(zab:zbG K mg)(zh6:Df K mg "tree_of" zdG zdY)(zam:Ec K mg "NoRow")(zas:Ec K mg "NoNumber")(zbD:Fm P w K mg base 1 zab.C "at_end" zd4 (zes zab.C))(zci:Fm P w K mg base 88 zab.C "expression" zdA (zdE 17 zab.C zam.c zas.c))(ze9:Fm P w K mg base 1 zab.C "__init__" zgq (zgm zab.C))(g_MOST_WORDS:mg "MOST_WORDS"=some (.int 120 t_MOST_WORDS))(zaF:mg "len"=none):Fk P w K mg base 89 "tree_of" zdY (zd1 zab.C zam.c zas.c):=
 zh6.mk' (zc3 (k:=88) zh6.F ziE (zsa zab.C zam.c zas.c) λcdv A outer s H E ex hr hpx hrx=>⟨_,(zaf (zaB (zaK zlg (zbr (zbe zcm) rfl zaF Boot.«len» (zaa (dv 0) zad)) (zf1 g_MOST_WORDS rfl) (zaA _)) (zaj (zcu zam.xc PySem.F.excBase_ValueError hrx hr.hd rfl (zaa zap zad))) zaH) (zaf (zar (i:=1) ziE.nd rfl (Or.inl rfl) (zpc ⟨zab.makes,ze9.m.at_,ze9.m.fn,zab.kp⟩ ze9.ok (hr.mono (by decide)) rfl zab.m ze9.b hpx (zaa (dv 0) zad))) (zaf (zar (i:=2) ziE.nd rfl (Or.inl rfl) (zbp (C:=zab.C) (dv 1) zab.cl zci.m zci.ok (hr.mono (by decide)) zci.b hpx)) (zaf (zaB (zbx (za5 (zbp (C:=zab.C) (dv 1) zab.cl zbD.m zbD.ok (hr.mono (by decide)) zbD.b hpx))) (zaj (zcu zam.xc PySem.F.excBase_ValueError hrx hr.hd rfl (zaa zap zad))) zaH) (zaj (zat (dv 2))))))),λds S Q h=>by
  unfold zd1 at h
  split at h
  ·rename_i wm
   obtain⟨ws,hw,l9,wl,h⟩:=h
   refine zdn hw ?_
   rw[Vab]
   refine ifD (λc=>?_) (λc=>?_)
   ·rw[show trS ws=none by unfold trS; rw[if_pos (by omega)]] at h
    exact h S Pre.refl
   ·have lw:=zkp hw
    refine⟨S,rfl,rfl,rfl,?_⟩
    have rd:zaR zab.C (S++[.ins zab.C (rdF wm 0 0)]) S.length wm ws 0 0:=⟨zak _ _,zai hw,VaJ _,l9,wl⟩
    have x0:∀T:Sto,zaI S.length (S++[.ins zab.C (rdF wm 0 0)]) T→Pre S T:=λT x y o e=>x.2 y o (λz=>by have:=zkp e; omega) (zai e)
    generalize S++[Ob.ins zab.C (rdF wm 0 0)]=S1 at rd x0 ⊢
    refine za0 (S1:=S1) (n:=S.length) (λK hK=>by exact hK) rd.rd rfl ?_
    refine⟨wm,ws,0,0,rd,by omega,by omega,?_⟩
    have l12:¬ 120<ws.length:=by omega
    rw[List.drop_zero]
    cases ee:exS (16-0) ws with
    | none=>
     rw[zle l12 ee] at h
     exact λT xT=>h T (x0 T xT)
    | some tr=>
     obtain⟨t,r⟩:=tr
     intro T xT rdT
     refine za0 (S1:=T) (n:=S.length) (λK hK=>by exact hK) rdT.rd rfl ?_
     refine⟨wm,ws,ws.length-r.length,0,rdT,?_⟩
     have lr:=ziJ 16 (show exS 16 ws=some (t,r) from ee)
     cases r with
     | nil=>
      rw[zj5 l12 ee] at h
      rw[decide_eq_true (show ws.length-([]:List Str).length=ws.length from rfl)]
      exact h T (x0 T xT)
     | cons w r2=>
      rw[zmY l12 ee] at h
      rw[decide_eq_false (by rw[Vam] at lr ⊢; omega)]
      exact h T (x0 T xT)
  ·exact h.elim⟩)
def zsz  (zab:zbG K mg)(zil:Df K mg "_law_refused" zdW zfi)(zam:Ec K mg "NoRow")(zhj:Ec K mg "BoxError")(zas:Ec K mg "NoNumber")(zcC:Fk P w K mg base 89 "tree_of" zdY (zd1 zab.C zam.c zas.c))(za2:mg "isinstance"=none)(nx_NoRow:Nx K zam.c)(iB_NoRow_NoRow:PySem.W.kitOne K (.ref zam.c) (.ref zam.c)=some true)(s_NoRow_BoxError:PySem.W.exmOne K (.ref zam.c) (.ref zhj.c)=some true):Fk P w K mg base 90 "_law_refused" zfi zfA:=
 zil.mk' (za3 (k:=89) zil.F zhx (znW) λcdv A outer s H E hr=>⟨_,(zaf (zar (i:=1) zhx.nd rfl (Or.inl rfl) zc7) (zaf (zrj (i:=2) (hit:=ziw zam.c) rfl rfl rfl (λ_ _ z=>nomatch (show (Option.none:Option Addr)=some _ from z)) rfl zhx.nd rfl rfl zhj.xc.bound rfl (zpx s_NoRow_BoxError) (λpins xe ex W hx'=>(zaj (zf4 (zbn zcC (hr.mono (by decide)) hx' rfl (zaa (dv 0) zad))))) (λA' xe' hA=>have hr:=hA _ hr; (zaj (zar (i:=1) zhx.nd rfl (Or.inl rfl) (zsl (ans:=zgf zam.c true) (znd iB_NoRow_NoRow nx_NoRow) rfl za2 rfl zam.xc.bound (dv 2)))))) (zaj (zat (dv 1))))),λds S Q ex h=>by
  unfold zfA at h
  split at h
  ·rename_i wm
   obtain⟨ws,hw,l9,wl,tn,h⟩:=h
   refine⟨ws,hw,l9,wl,?_⟩
   rw[tn]
   intro T pT
   refine⟨zqs _,?_⟩
   refine zm4 (λK hK=>by exact hK) ?_
   exact h T pT
  ·exact h.elim⟩)
def znR  (zgV:Df K mg "_law_whole" zdV zeu)(za2:mg "isinstance"=none)(zcd:mg "bool"=none)(zaZ:mg "int"=none)(zcY:Kit K "bool")(zcJ:Kit K "int"):Fk P w K mg base 1 "_law_whole" zeu zfs:=
 zgV.mk' (za3 (k:=0) zgV.F zm5 (zqa) λcdv A outer s H E hr=>⟨_,(zaj (zat (zb6 (ze0 zcJ rfl za2 rfl zaZ Boot.«int» (dv 0)) (zcr (zi9 (ze0 zcY rfl za2 rfl zcd Boot.«bool» (dv 0))))))),λds S Q ex h=>by
  unfold zfs at h
  split at h
  ·exact h
  ·exact h.elim⟩)
def zrT  (n:Nat)(zc6:Df K mg "_law_alike" zcV zcQ)(zbY:Fk P w K mg base (1+1*n) "_law_alike" zcQ (zcB n))(zdP:Fk P w K mg base 1 "_law_whole" zeu zfs)(za2:mg "isinstance"=none)(za4:mg "str"=none)(zaF:mg "len"=none)(zcc:mg "tuple"=none)(zc0:Kit K "str")(zcX:Kit K "tuple"):Fk P w K mg base (1+1*n+1) "_law_alike" zcQ (zcB (n+1)):=
 zc6.mk' (za3 (k:=(1+1*n+0)) zc6.F zqv (zmP (n+1)) λcdv A outer s H E hr=>⟨_,(zaf (zaB (PDW.pt (zdU (zbx (za5 (ze0 zcX rfl za2 rfl zcc Boot.«tuple» (dv 0)))) (zdU (zaK (zed hr) (zbr zcm rfl zaF Boot.«len» (zaa (dv 0) zad)) (zbr zcm rfl zaF Boot.«len» (zaa (dv 1) zad)) (zaA _)) (zfz (zaK (zed hr) (zaw (dv 0) zac (λ_ _=>rfl)) (zaw (dv 1) zac (λ_ _=>rfl)) (zaA _)))))) (zaj (zat zc7)) zaH) (zaf (zaB (zaK (zbo hr) (zaw (dv 1) zac (λ_ _=>rfl)) zap (zaA _)) (zaj (zat (zb6 (ze0 zc0 rfl za2 rfl za4 Boot.«str» (zaw (dv 0) zac (λ_ _=>rfl))) (zcr (zcR (zbo hr) (zaw (dv 0) zac (λ_ _=>rfl)) (zaw (dv 1) zac (λ_ _=>rfl)) (zaA _)))))) zaH) (zaf (zaB (zaK (zbo hr) (zaw (dv 1) zac (λ_ _=>rfl)) zap (zaA _)) (zaj (zat (zb6 (zbn zdP (hr.mono (by omega)) zc5 rfl (zaa (zaw (dv 0) zac (λ_ _=>rfl)) zad)) (zb6 (zbn zdP (hr.mono (by omega)) zc5 rfl (zaa (zaw (dv 0) zac (λ_ _=>rfl)) zad)) (zcr (zcR (zbo hr) (dv 0) (dv 1) (zaA _))))))) zaH) (zaf (zaB (zaK (zbo hr) (zaw (dv 1) zac (λ_ _=>rfl)) zap (zaA _)) (zaj (zat (zb6 (zbn zdP (hr.mono (by omega)) zc5 rfl (zaa (zaw (dv 0) zac (λ_ _=>rfl)) zad)) (zb6 (zcR (zbo hr) (zaw (dv 0) zac (λ_ _=>rfl)) (zaw (dv 1) zac (λ_ _=>rfl)) (zaA _)) (zcr (zbn zbY (hr.mono (by omega)) zc5 rfl (zaa (zaw (dv 0) zac (λ_ _=>rfl)) (zaa (zaw (dv 1) zac (λ_ _=>rfl)) zad)))))))) zaH) (zaj (zat (zb6 (zbn zbY (hr.mono (by omega)) zc5 rfl (zaa (zaw (dv 0) zac (λ_ _=>rfl)) (zaa (zaw (dv 1) zac (λ_ _=>rfl)) zad))) (zcr (zbn zbY (hr.mono (by omega)) zc5 rfl (zaa (zaw (dv 0) zac (λ_ _=>rfl)) (zaa (zaw (dv 1) zac (λ_ _=>rfl)) zad))))))))))),λds S Q ex h=>by
  unfold zcB at h
  split at h
  ·rename_i a b
   obtain⟨t,rfl,rfl,hd,h⟩:=h
   cases t with
   | nm w=>
    show Q (.bl (decide (mk w=mk w))) S
    rw[decide_eq_true rfl]
    exact h
   | nb t b=>
    show wEq eq2 (trD (.nb t b)) (trD (.nb t b)) S Q
    have e:eq2 (trD (.nb t b)) (trD (.nb t b))=some true:=by simp[trD,eq2,eqL,eqF,L3.eqT]
    unfold wEq
    rw[e]
    exact h
   | pw t k=>
    have hd':t.dp+1<n+1:=hd
    show (if decide (k=k)=true then zcB n [trD t,trD t] S Q (λ_ _=>False) else Q (.bl false) S)
    rw[if_pos (decide_eq_true rfl)]
    exact⟨t,rfl,rfl,by omega,h⟩
   | bi j l r=>
    have hd':max l.dp r.dp+1<n+1:=hd
    match j with
    | 0=>exact⟨l,rfl,rfl,by omega,⟨r,rfl,rfl,by omega,h⟩⟩
    | 1=>exact⟨l,rfl,rfl,by omega,⟨r,rfl,rfl,by omega,h⟩⟩
    | j+2=>exact⟨l,rfl,rfl,by omega,⟨r,rfl,rfl,by omega,h⟩⟩
  ·exact h.elim⟩)
def zkT (zc6:Df K mg "_law_alike" zcV zcQ)(zdP:Fk P w K mg base 1 "_law_whole" zeu zfs)(za2:mg "isinstance"=none)(za4:mg "str"=none)(zaF:mg "len"=none)(zcc:mg "tuple"=none)(zc0:Kit K "str")(zcX:Kit K "tuple"):(n:Nat)→Fk P w K mg base (1+1*n) "_law_alike" zcQ (zcB n)
 | 0=>zc6.vac _ λds S Q ex h=>by
  unfold zcB at h
  split at h
  ·obtain⟨t,_,_,h1,_⟩:=h
   omega
  ·exact h.elim
 | n+1=>
  let zbY:=zkT zc6 zdP za2 za4 zaF zcc zc0 zcX n
  zrT n zc6 zbY zdP za2 za4 zaF zcc zc0 zcX
def zsf  (zab:zbG K mg)(zhL:Df K mg "_law_edges" zdd zgA)(zam:Ec K mg "NoRow")(zas:Ec K mg "NoNumber")(zcq:Fk P w K mg base 90 "_law_refused" zfi zfA)(zbY:Fk P w K mg base 131 "_law_alike" zcQ (zcB 130))(zcC:Fk P w K mg base 89 "tree_of" zdY (zd1 zab.C zam.c zas.c))(zbK:mg "range"=none):Fk P w K mg base 132 "_law_edges" zgA zfN:=
 zhL.mk' (za3 (k:=131) zhL.F zdg (zmu) λcdv A outer s H E hr=>⟨_,(zaf (zar (i:=1) zdg.nd rfl (Or.inl rfl) (zag zb3 zac (zag zbw (dv 0) zac))) (zaf (zar (i:=2) zdg.nd rfl (Or.inl rfl) (zag zbl (zag zbl (zag ziY (za6 (zaa zap zad)) (dv 1)) (za6 (zaa zap zad))) (zag ziY (za6 (zaa zap zad)) (dv 1)))) (zaf (zaB (zaK zcg (dv 1) zac (zaA _)) (zaj (zaB (zbx (za5 (zaC zbY hr (zaa (zaC zcC hr (zaa (dv 2) zad)) (zaa (zaY (zaa zap (zaa zap zad))) zad))))) (zaj (zat zc7)) zaH)) (zaj (zaB (zbx (za5 (zaC zcq hr (zaa (dv 2) zad)))) (zaj (zat zc7)) zaH))) (zaf (zar (i:=3) zdg.nd rfl (Or.inl rfl) (zag zb3 zac (zag zbw (zag zbW (dv 0) zac) zac))) (zaf (zar (i:=4) zdg.nd rfl (Or.inl rfl) (zaY (zaa zap (zaa zap zad)))) (zaf (znl (i:=5) PassesOwn.never rfl zdg.nd rfl (Or.inl rfl) rfl zbK (zaa (zag zdz (dv 3) zac) zad) (zaj (zar (i:=4) zdg.nd rfl (Or.inl rfl) (zaY (zaa zap (zaa (dv 4) (zaa (zaY (zaa zap (zaa zap zad))) zad))))))) (zaf (zar (i:=2) zdg.nd rfl (Or.inl rfl) (zag zbl (za6 (zaa zap zad)) (zag ziY (za6 (zaa zap (zaa zap zad))) (zag zdz (dv 3) zac)))) (zaf (zaB (zaK zcg (dv 3) zac (zaA _)) (zaj (zat (zaC zbY hr (zaa (zaC zcC hr (zaa (dv 2) zad)) (zaa (dv 4) zad))))) zaH) (zaj (zat (zaC zcq hr (zaa (dv 2) zad)))))))))))),λds S Q ex h=>by
  unfold zfN at h
  split at h
  ·rename_i c
   refine cutE (α:=Int×D×Sto) (λa=>match a with | ⟨z,d,_⟩=>[some (.int c),some (.int z),some d,none,none,none]) (λa=>match a with | ⟨_,_,T⟩=>T) (λa=>match a with | ⟨_,_,T⟩=>Pre S T) (λmain=>?_) ?_
   ·refine zjk (xs:=[.str "("]) (zak _ _) ⟨by omega,by omega⟩ (by show 1*(14+c%5).toNat≤1000; omega) ?_
    rw[zln]
    refine za8 (xs:=List.replicate (14+c%5).toNat (.str "(")) (ys:=[.str "z"]) (zai (zak _ _)) (zak _ _) (by rw[List.length_replicate]; show (14+c%5).toNat+1≤1000; omega) ?_
    refine zjk (xs:=[.str ")"]) (zak _ _) ⟨by omega,by omega⟩ (by show 1*(14+c%5).toNat≤1000; omega) ?_
    rw[zln]
    refine za8 (xs:=List.replicate (14+c%5).toNat (.str "(")++[.str "z"]) (ys:=List.replicate (14+c%5).toNat (.str ")")) (zai (zai (zak _ _))) (zak _ _) (by rw[Vah,List.length_replicate,List.length_replicate]; show (14+c%5).toNat+1+(14+c%5).toNat≤1000; omega) ?_
    rw[zp1]
    have pS:∀a b c d e:Ob,Pre S (S++[a]++[b]++[c]++[d]++[e]):=λa b c d e=>zau (zau (zau (zau Pre.refl.push _) _) _) _
    have pS7:∀a b c d e f g:Ob,Pre S (S++[a]++[b]++[c]++[d]++[e]++[f]++[g]):=λa b c d e f g=>zau (zau (pS a b c d e) _) _
    have hd:((14+c%5).toNat:Int)=14+c%5:=by omega
    refine ifD (λc1=>?_) (λc1=>?_)
    ·have c1':14+c%5<17:=c1
     refine⟨_,zak _ _,by rw[zgM]; omega,zj3 _,?_⟩
     rw[zi7 (zl3 _) (by omega) (by rw[zgM]; omega)]
     intro T pT
     have et:trD (.nm (cs "z"))=.tup [.str "name",.str "z"]:=by
      show D.tup [.str "name",.str (mk (cs "z"))]=_
      rw[zeY]
     refine⟨.nm (cs "z"),rfl,et.symm,by decide,?_⟩
     exact main (14+c%5,_,T) (λx o e=>pT x o (pS7 _ _ _ _ _ _ _ x o e))
    ·have c1':¬ 14+c%5<17:=c1
     refine⟨_,zak _ _,by rw[zgM]; omega,zj3 _,?_,λT pT=>?_⟩
     ·rw[Vaw]
      refine zrm (by omega) ?_
      rw[← Vaw,zgM]
      omega
     ·exact main (14+c%5,_,T) (λx o e=>pT x o (pS7 _ _ _ _ _ _ _ x o e))
   ·rintro⟨z,d,T⟩ pT
    have pT:Pre S T:=pT
    have em:((57+c/5%5).toNat:Int)=57+c/5%5:=by omega
    refine⟨⟨by show -(2^62)≤58+c/5%5-1; omega,by show 58+c/5%5-1<2^62; omega⟩,λk dl' S'=>S'=T∧k≤(57+c/5%5).toNat∧∃o:Option D,dl'=[some (.int c),some (.int z),some d,some (.int (58+c/5%5)),some (trD (qT k)),o],⟨rfl,VaJ _,none,by rw[qT_0]; rfl⟩,?_⟩
    rintro k dl' S' ⟨rfl,hk,o,rfl⟩
    refine ite2 (λc1=>?_) (λc1=>?_)
    ·have c1':k<(58+c/5%5-1).toNat:=c1
     exact⟨rfl,by omega,_,by rw[qT_d]; rfl⟩
    ·have c1':¬ k<(58+c/5%5-1).toNat:=c1
     have ek:k=(58+c/5%5-1).toNat:=by omega
     have k6:k≤61:=by omega
     refine zjk (xs:=[.str "+",.str "q"]) (zak _ _) ⟨by show 0≤58+c/5%5-1; omega,by show 58+c/5%5-1≤1000; omega⟩ (by show 2*(58+c/5%5-1).toNat≤1000; omega) ?_
     refine za8 (xs:=[.str "q"]) (ys:=(List.replicate (58+c/5%5-1).toNat [D.str "+",D.str "q"]).flatten) (zai (zai (zak _ _))) (zak _ _) (by rw[znD]; show 1+2*(58+c/5%5-1).toNat≤1000; omega) ?_
     rw[← ek,q_map]
     have pS:∀a b c d:Ob,Pre S (S'++[a]++[b]++[c]++[d]):=λa b c d=>zau (zau (zau (zau pT _) _) _) _
     refine ifD (λc2=>?_) (λc2=>?_)
     ·have c2':58+c/5%5<61:=c2
      obtain⟨l,hq⟩:=qsum k
      refine⟨_,zak _ _,by rw[zio]; omega,q_wl _,?_⟩
      rw[zi7 hq (by decide) (by rw[zio]; omega)]
      intro T2 pT2
      exact⟨qT k,rfl,rfl,by rw[q_dp]; omega,h T2 λx o e=>pT2 x o (pS _ _ _ _ x o e)⟩
     ·have c2':¬ 58+c/5%5<61:=c2
      refine⟨_,zak _ _,by rw[zio]; omega,q_wl _,zpn (by rw[zio]; omega),λT2 pT2=>?_⟩
      exact h T2 λx o e=>pT2 x o (pS _ _ _ _ x o e)
  ·exact h.elim⟩)
def znA  (zhq:Df K mg "_law_atom" zcH zfr)(zbK:mg "range"=none)(za4:mg "str"=none):Fk P w K mg base 1 "_law_atom" zfr zeA:=
 zhq.mk' (za3 (k:=0) zhq.F zfd (zpH) λcdv A outer s H E hr=>⟨_,(zaf (zaB (zaK (zbo hr) (zag zbw (dv 0) zac) zac (zaA _)) (zaf (zar (i:=1) zfd.nd rfl (Or.inl rfl) (zag zdz (zag zdu (zag zbW (dv 0) zac) (zag zdz (zag zjh zac (zag zgu zac zac)) zac)) (zag zdz (zag zgu zac zac) zac))) (zaj (zat (zaY (zaa (zaY (zaa zap (zaa (dv 1) (zaa zac zad)))) (zaa (za6 (zaa (zb2 (zbe zfa) rfl za4 Boot.«str» (zaa (dv 1) zad)) zad)) (zaa zac (zaa zac zad)))))))) zaH) (zaf (zaB (zaK (zbo hr) (zag zbw (dv 0) zac) zac (zaA _)) (zaf (zar (i:=2) zfd.nd rfl (Or.inl rfl) (zag zb3 zac (zag zbw (zag zbW (dv 0) zac) zac))) (zaf (zar (i:=1) zfd.nd rfl (Or.inl rfl) (zag zb3 (zag zjh (dv 2) (zag zdz (zag zbw (zag zbW (dv 0) zac) zac) zac)) zac)) (zaj (zat (zaY (zaa (zaY (zaa zap (zaa (dv 1) (zaa (dv 2) zad)))) (zaa (za6 (zaa (zag zgo (zag zgo (zb2 (zbe zfa) rfl za4 Boot.«str» (zaa (dv 1) zad)) zap) (zb2 (zbe zfa) rfl za4 Boot.«str» (zaa (dv 2) zad))) zad)) (zaa zac (zaa zac zad))))))))) zaH) (zaf (zar (i:=3) zfd.nd rfl (Or.inr rfl) zap) (zaf (zar (i:=4) zfd.nd rfl (Or.inl rfl) (znj zap (zaa (znH (x:="_law_k") (N:=["_law_letters","_law_cell"]) (caps:=[3,0]) (ar:=zae zcH) rfl rfl csc rfl (by decide) rfl zbK (zaa (zag zb3 zac (zag zbw (zag zbW (dv 0) zac) zac)) zad) (λ_ _ _ _ _ _=>zlA) (λ_ _ _ _ _ _=>(zpF (dv 1) (zag zbw (zag zb3 (zag zbW (dv 2) zac) (zag zjh (zag zbw (zag zbW (dv 2) zac) zac) (dv 0))) zac) (λ_ _=>rfl)))) zad))) (zaj (zat (zaY (zaa (zaY (zaa zap (zaa (dv 4) zad))) (zaa (za6 (zaa (dv 4) zad)) (zaa zac (zaa zac zad))))))))))),λds S Q ex h=>by
  unfold zeA at h
  split at h
  ·rename_i c
   refine ifD (λc1=>?_) (λc1=>?_)
   ·refine⟨zjG (m:=2) (n:=40) (by unfold Sz; decide) (by unfold Sz; decide),⟨show (0:Int)<2*10^Int.toNat 9-1 by decide,?_⟩⟩
    have z:=znS (N:=10^Int.toNat 9) rfl (zeO (a:=c/3) (b:=2*10^Int.toNat 9-1) (by decide))
    refine zeX (zf5 (k:=9) z (by decide)) ?_
    rw[zeE]
    show Q (.tup [trD (.nb (c/3%(2*10^Int.toNat 9-1)-(10^Int.toNat 9-1)) 1),.ref S.length,.int 3,.int 0]) (S++[.lst [.str (mk (num (c/3%(2*10^Int.toNat 9-1)-(10^Int.toNat 9-1))))]])
    generalize c/3%(2*10^Int.toNat 9-1)-(10^Int.toNat 9-1)=t at z ⊢
    have e:=zkU (zpz z)
    have et:zbj t 1=num t:=by unfold zbj; rw[if_pos rfl,Var]
    rw[et] at e
    exact h _ _ _ _ _ Pre.refl.push (ziO e (by rw[za9]; have:=ziq (k:=9) (by decide) z; omega))
   ·refine ifD (λc2=>?_) (λc2=>?_)
    ·refine⟨zjG (m:=20) (n:=20) (Sz.of 1000 (by omega)) (Sz.of 1000 (by omega)),?_⟩
     have hb:2≤2+c/3%997∧2+c/3%997≤998:=by omega
     have hq:-1000≤c/7%2001-1000∧c/7%2001-1000≤1000:=by omega
     show zfE (zh3 (zby (zh3 (zby (dC (D.str "number")) (zby (zbf 1) (zby (zbf 2) zcl)))) (zby (zg4 (zby (dOp zgc (dOp zgc (ze8 (irr zfO) (zby (zbf 1) zcl)) (dC (D.str "/"))) (ze8 (irr zfO) (zby (zbf 2) zcl))) zcl)) (zby (dC (D.int 3)) (zby (dC (D.int 0)) zcl))))) _ [some (.int c),some (.int ((2+c/3%997)*(c/7%2001-1000)+1)),some (.int (2+c/3%997)),none,none] S
     generalize 2+c/3%997=b at hb ⊢
     generalize c/7%2001-1000=q at hq ⊢
     have n:=zq8 hb.1 hb.2 hq
     generalize b*q+1=t at n ⊢
     have lt:=ziq (k:=9) (by decide) n.top
     have lb:=ziq (i:=b) (k:=9) (by decide) (by omega)
     refine zeX (zf5 (k:=9) n.top (by decide)) ?_
     rw[zeE]
     refine⟨by rw[za9]; show _+1≤1000; omega,?_⟩
     refine zeX (zf5 (k:=9) (by omega) (by decide)) ?_
     rw[zeE]
     have s1:mk (num t)++("/":Str)=mk (num t++[47]):=by rw[zg5]; exact zeK (num t) [47]
     have et:mk (num t)++("/":Str)++mk (num b)=mk (zbj t b):=by
      rw[s1,zeK,Vaw]
      unfold zbj
      rw[if_neg (by omega)]
      rfl
     refine⟨by rw[s1,za9,za9]; simp; omega,?_⟩
     have e:=zkU n
     show Q (.tup [trD (.nb t b),.ref S.length,.int 3,.int 0]) (S++[.lst [.str (mk (num t)++("/":Str)++mk (num b))]])
     rw[et]
     exact h _ _ _ _ _ Pre.refl.push (ziO e (by rw[← et,s1,zeK,za9]; simp; omega))
    ·refine znT (sep:="") (n:=S.length) (S1:=S++[.lst ((List.range (1+c/3%8).toNat).map λk:Nat=>.str ⟨#[zbQ (c/3+c/5%7*(k:Int))]⟩)]) (zs:=(List.range (1+c/3%8).toNat).map λk:Nat=>⟨#[zbQ (c/3+c/5%7*(k:Int))]⟩) (λK hK=>hK) (λK hK=>?_) (by decide) (o:=.lst ((List.range (1+c/3%8).toNat).map λk:Nat=>.str ⟨#[zbQ (c/3+c/5%7*(k:Int))]⟩)) (zak _ _) (L3.zkh _ _) (λz hz=>?_) (by simp; omega) ?_
     ·refine zrp (j:=1+c/3%8) (λk:Nat=>.str ⟨#[zbQ (c/3+c/5%7*(k:Int))]⟩) (λK hK=>hK) ⟨by omega,by omega⟩ (λk hk S2 K hp hK=>?_) hK
      have e:ABC.length=6:=by decide
      exact⟨zjG (m:=20) (n:=20) (Sz.of 1000 (by omega)) (Sz.of 1000 (by omega)),zbQ (c/3+c/5%7*(k:Int)),⟨by omega,by omega,by show (c/3+c/5%7*(k:Int))%6<((ABC.length:Nat):Int); omega⟩,zlU _,hK⟩
     ·obtain⟨k,_,rfl⟩:=List.mem_map.mp hz
      show 1≤8
      decide
     have eW:=zrO (λk:Nat=>zbQ (c/3+c/5%7*(k:Int))) (List.range (1+c/3%8).toNat)
     have hn:zbm (zav ((List.range (1+c/3%8).toNat).map λk:Nat=>⟨#[zbQ (c/3+c/5%7*(k:Int))]⟩))=true:=by
      rw[eW]
      refine zpG (λx hx=>?_) (by simp; omega) (by simp; omega)
      obtain⟨k,_,rfl⟩:=List.mem_map.mp hx
      exact zpj _
     have hl:(zav ((List.range (1+c/3%8).toNat).map λk:Nat=>⟨#[zbQ (c/3+c/5%7*(k:Int))]⟩)).length≤600:=by
      rw[eW,za9]
      simp
      omega
     generalize zav ((List.range (1+c/3%8).toNat).map λk:Nat=>⟨#[zbQ (c/3+c/5%7*(k:Int))]⟩)=w at hn hl ⊢
     have p1:Pre S (S++[.lst ((List.range (1+c/3%8).toNat).map λk:Nat=>.str ⟨#[zbQ (c/3+c/5%7*(k:Int))]⟩)]):=Pre.refl.push
     generalize S++[.lst ((List.range (1+c/3%8).toNat).map λk:Nat=>.str ⟨#[zbQ (c/3+c/5%7*(k:Int))]⟩)]=S1 at p1 ⊢
     have et:trD (.nm (cs w))=.tup [.str "name",.str w]:=by
      show D.tup [.str "name",.str (mk (cs w))]=_
      rw[zeY]
     have pc:=ziO (S:=S1) (zgJ hn) hl
     rw[et] at pc
     exact h _ _ _ _ _ (zau p1 _) pc
  ·exact h.elim⟩)
def znm  (zgK:Df K mg "_law_shut" zdy zff):Fk P w K mg base 1 "_law_shut" zff zeV:=
 zgK.mk' (za3 (k:=0) zgK.F zr7 (zqn) λcdv A outer s H E hr=>⟨_,(zaj (zat (zaY (zaa (zaw (dv 0) zac (λ_ _=>rfl)) (zaa (zag zbl (zag zbl (za6 (zaa zap zad)) (zaw (dv 0) zac (λ_ _=>rfl))) (za6 (zaa zap zad))) (zaa zac (zaa (zag zb3 (zaw (dv 0) zac (λ_ _=>rfl)) zac) zad))))))),λds S Q ex h=>by
  unfold zeV at h
  split at h
  ·rename_i d
   obtain⟨t,m,ws,l,k,pc,l3,h⟩:=h
   obtain⟨rfl,at_,ex0,ln,wl⟩:=pc
   refine za8 (xs:=[.str "("]) (ys:=ws.map D.str) (zak _ _) (zai at_) (by rw[Vab]; show 1+ws.length≤1000; omega) ?_
   refine za8 (xs:=[.str "("]++ws.map D.str) (ys:=[.str ")"]) (zai (zak _ _)) (zak _ _) (by rw[Vah,Vab]; show 1+ws.length+1≤1000; omega) ?_
   refine h _ _ _ (zau (zau (zau (zau Pre.refl _) _) _) _) ⟨rfl,?_,Ex.shut (by decide) (by decide) ex0,by simp; omega,λw hw=>?_⟩
   ·rw[zak]
    simp
   ·simp only[Vak,VaP] at hw
    rcases hw with (rfl | hw) | rfl
    ·decide
    ·exact wl w hw
    ·decide
  ·exact h.elim⟩)
def zqT  (zgT:Df K mg "_law_fits" zdi zeC)(zaF:mg "len"=none):Fk P w K mg base 1 "_law_fits" zeC zeH:=
 zgT.mk' (za3 (k:=0) zgT.F zp9 (zrV) λcdv A outer s H E hr=>⟨_,(zaj (zat (zb6 (zcR zcg (zbr (zbe zcm) rfl zaF Boot.«len» (zaa (zaw (dv 0) zac (λ_ _=>rfl)) zad)) zac (zaA _)) (zcr (zcR zcg (zaw (dv 0) zac (λ_ _=>rfl)) zac (zaA _)))))),λds S Q ex h=>by
  unfold zeH at h
  split at h
  ·rename_i d
   obtain⟨t,m,ws,l,k,pc,h⟩:=h
   obtain⟨rfl,at_,ex0,ln,wl⟩:=pc
   refine zdn at_ ?_
   rw[Vab]
   by_cases c:ws.length<120
   ·have e:decide (((ws.length:Nat):Int)<120)=true:=decide_eq_true (by omega)
    show (if decide (((ws.length:Nat):Int)<120)=true then _ else _)
    rw[e]
    refine zbu ?_
    have e2:decide ((k:Int)<17)=decide (k<17):=decide_eq_decide.mpr (by omega)
    show Q (.bl (decide ((k:Int)<17))) S
    rw[e2]
    rw[decide_eq_true c,VaV] at h
    exact h
   ·have e:decide (((ws.length:Nat):Int)<120)=false:=decide_eq_false (by omega)
    show (if decide (((ws.length:Nat):Int)<120)=true then _ else _)
    rw[e]
    refine zbM ?_
    rw[decide_eq_false c,VaH] at h
    exact h
  ·exact h.elim⟩)
def zpB  (zit:Df K mg "_law_at_least" zdF zeF)(zey:Fk P w K mg base 1 "_law_shut" zff zeV):Fk P w K mg base 2 "_law_at_least" zeF zfh:=
 zit.mk' (za3 (k:=1) zit.F zr1 (zpY) λcdv A outer s H E hr=>⟨_,(zaf (zaB (zaK zcg (zaw (dv 0) zac (λ_ _=>rfl)) (dv 1) (zaA _)) (zaj (zat (zaC zey hr (zaa (dv 0) zad)))) zaH) (zaj (zat (dv 0)))),λds S Q ex h=>by
  unfold zfh at h
  split at h
  ·rename_i d lv
   obtain⟨t,m,ws,l,k,v,pc,rfl,v3,l3,h⟩:=h
   have pc0:=pc
   obtain⟨rfl,at_,ex0,ln,wl⟩:=pc
   refine ifD (λc=>?_) (λc=>?_)
   ·refine⟨t,m,ws,l,k,pc0,l3,λT d2 m2 pT p2=>?_⟩
    exact h T d2 m2 _ 3 (k+1) pT p2 v3 (by simp)
   ·exact h S _ m ws l k Pre.refl pc0 (by omega) (by omega)
  ·exact h.elim⟩)
def zqc  (zir:Df K mg "_law_raised" zc8 zfT)(zdZ:Fk P w K mg base 2 "_law_at_least" zeF zfh)(za4:mg "str"=none):Fk P w K mg base 3 "_law_raised" zfT zgk:=
 zir.mk' (za3 (k:=2) zir.F zka (zrt) λcdv A outer s H E hr=>⟨_,(zaf (zar (i:=0) zka.nd rfl (Or.inl rfl) (zaC zdZ hr (zaa (dv 0) (zaa zac zad)))) (zaj (zat (zaY (zaa (zaY (zaa zap (zaa (zaw (dv 0) zac (λ_ _=>rfl)) (zaa (dv 1) zad)))) (zaa (zag zbl (zaw (dv 0) zac (λ_ _=>rfl)) (za6 (zaa zap (zaa (zb2 (zbe zfa) rfl za4 Boot.«str» (zaa (dv 1) zad)) zad)))) (zaa zac (zaa (zaw (dv 0) zac (λ_ _=>rfl)) zad)))))))),λds S Q ex h=>by
  unfold zgk at h
  split at h
  ·rename_i d mv
   obtain⟨t,m,ws,l,k,pc,hm,l3,h⟩:=h
   refine⟨t,m,ws,l,k,3,pc,rfl,Vaa _,l3,λT d2 m2 ws2 l2 k2 pT p2 l33 ll=>?_⟩
   have el:l2=3:=by have:=zlI p2.ex; omega
   subst el
   obtain⟨rfl,at_,ex0,ln,wl⟩:=p2
   obtain⟨pv0,pl0⟩:=zpq hm
   refine zeX (zrw hm) ?_
   rw[zeE]
   refine za8 (xs:=ws2.map D.str) (ys:=[.str "^",.str (mk (num mv))]) (zai at_) (zak _ _) (by rw[Vab]; show ws2.length+2≤1000; omega) ?_
   refine h _ _ (.pw t mv) _ (ws2++[("^":Str),mk (num mv)]) 2 k2 (zau (zau pT _) _) ⟨rfl,?_,Ex.pow (a:=("^":Str)) (by decide) (zd0 _ _ pv0) pv0 ex0,by simp; omega,λw hw=>?_⟩ (by simp; omega)
   ·rw[zak]
    simp
   ·simp only[Vak,Vad,VaR,or_false] at hw
    rcases hw with hw | rfl | rfl
    ·exact wl w hw
    ·decide
    ·exact pl0
  ·exact h.elim⟩)
def zpC  (zif:Df K mg "_law_joined" zdc zfv)(zdZ:Fk P w K mg base 2 "_law_at_least" zeF zfh)(zdM:mg "max"=none)(zaZ:mg "int"=none):Fk P w K mg base 3 "_law_joined" zfv zfl:=
 zif.mk' (za3 (k:=2) zif.F zfy (zpt) λcdv A outer s H E hr=>⟨_,(zaf (zar (i:=3) zfy.nd rfl (Or.inl rfl) (zb2 zr6 rfl zaZ Boot.«int» (zaa (zcR (zbo hr) (dv 0) zac (zaA _)) zad))) (zaf (zar (i:=1) zfy.nd rfl (Or.inl rfl) (zaC zdZ hr (zaa (dv 1) (zaa (dv 3) zad)))) (zaf (zar (i:=2) zfy.nd rfl (Or.inl rfl) (zaC zdZ hr (zaa (dv 2) (zaa (zag zb3 (dv 3) zac) zad)))) (zaf (zar (i:=4) zfy.nd rfl (Or.inl rfl) (zbT (za6 (zaa zap (zaa zap (zaa zap zad)))) (dv 0) (λ_ _=>rfl))) (zaf (zar (i:=5) zfy.nd rfl (Or.inl rfl) (zaY (zaa (zbT (za6 (zaa zap (zaa zap (zaa zap zad)))) (dv 0) (λ_ _=>rfl)) (zaa (zaw (dv 1) zac (λ_ _=>rfl)) (zaa (zaw (dv 2) zac (λ_ _=>rfl)) zad))))) (zaj (zat (zaY (zaa (dv 5) (zaa (zag zbl (zag zbl (zaw (dv 1) zac (λ_ _=>rfl)) (za6 (zaa (dv 4) zad))) (zaw (dv 2) zac (λ_ _=>rfl))) (zaa (dv 3) (zaa (zbr (zqF rfl) rfl zdM Boot.«max» (zaa (zaw (dv 1) zac (λ_ _=>rfl)) (zaa (zaw (dv 2) zac (λ_ _=>rfl)) zad))) zad)))))))))))),λds S Q ex h=>by
  unfold zfl at h
  split at h
  ·rename_i wy d1 d2
   obtain⟨wn,t1,t2,m1,m2,ws1,ws2,l1,k1,l2,k2,rfl,w2,p1,p2,n1,n2,h⟩:=h
   match wn,w2 with
   | 0,_=>
    refine⟨t1,m1,ws1,l1,k1,0,p1,rfl,by decide,by omega,λT e1 q1 v1 j1 g1 pT pc1 lv1 ll1=>?_⟩
    refine⟨t2,m2,ws2,l2,k2,1,p2.pre pT,rfl,by decide,by omega,λT2 e2 q2 v2 j2 g2 pT2 pc2 lv2 ll2=>?_⟩
    have pc1:=pc1.pre pT2
    obtain⟨rfl,a1,x1,_,y1⟩:=pc1
    obtain⟨rfl,a2,x2,_,y2⟩:=pc2
    refine zbi (o:=.lst [.str "+",.str "-",.str "*"]) (zak _ _) (d:=.str "+") rfl ?_
    refine zbi (o:=.lst [.str "plus",.str "minus",.str "times"]) (zak _ _) (d:=.str "plus") rfl ?_
    refine za8 (xs:=v1.map D.str) (ys:=[.str "+"]) (zai (zai (zai a1))) (zak _ _) (by rw[Vab]; show v1.length+1≤1000; omega) ?_
    refine za8 (xs:=v1.map D.str++[.str "+"]) (ys:=v2.map D.str) (zak _ _) (zai (zai (zai (zai a2)))) (by rw[Vah,Vab,Vab]; show v1.length+1+v2.length≤1000; omega) ?_
    rw[show v1.map D.str++[.str "+"]++v2.map D.str=(v1++("+":Str)::v2).map D.str by simp]
    refine h _ _ (.bi 0 t1 t2) _ (v1++("+":Str)::v2) 0 (max g1 g2) (zau (zau (zau (zau (zau (λx o e=>pT2 _ _ (pT _ _ e)) _) _) _) _) _) ⟨by rw[← ziD]; rfl,zak _ _,Ex.sum (a:=("+":Str)) (n:=0) (by decide) lv2 x1 x2,by simp; omega,λw hw=>?_⟩ (by simp; omega)
    ·simp only[Vak,Vad] at hw
     rcases hw with hw | rfl | hw
     ·exact y1 w hw
     ·decide
     ·exact y2 w hw
   | 1,_=>
    refine⟨t1,m1,ws1,l1,k1,0,p1,rfl,by decide,by omega,λT e1 q1 v1 j1 g1 pT pc1 lv1 ll1=>?_⟩
    refine⟨t2,m2,ws2,l2,k2,1,p2.pre pT,rfl,by decide,by omega,λT2 e2 q2 v2 j2 g2 pT2 pc2 lv2 ll2=>?_⟩
    have pc1:=pc1.pre pT2
    obtain⟨rfl,a1,x1,_,y1⟩:=pc1
    obtain⟨rfl,a2,x2,_,y2⟩:=pc2
    refine zbi (o:=.lst [.str "+",.str "-",.str "*"]) (zak _ _) (d:=.str "-") rfl ?_
    refine zbi (o:=.lst [.str "plus",.str "minus",.str "times"]) (zak _ _) (d:=.str "minus") rfl ?_
    refine za8 (xs:=v1.map D.str) (ys:=[.str "-"]) (zai (zai (zai a1))) (zak _ _) (by rw[Vab]; show v1.length+1≤1000; omega) ?_
    refine za8 (xs:=v1.map D.str++[.str "-"]) (ys:=v2.map D.str) (zak _ _) (zai (zai (zai (zai a2)))) (by rw[Vah,Vab,Vab]; show v1.length+1+v2.length≤1000; omega) ?_
    rw[show v1.map D.str++[.str "-"]++v2.map D.str=(v1++("-":Str)::v2).map D.str by simp]
    refine h _ _ (.bi 1 t1 t2) _ (v1++("-":Str)::v2) 0 (max g1 g2) (zau (zau (zau (zau (zau (λx o e=>pT2 _ _ (pT _ _ e)) _) _) _) _) _) ⟨by rw[← ziD]; rfl,zak _ _,Ex.sum (a:=("-":Str)) (n:=1) (by decide) lv2 x1 x2,by simp; omega,λw hw=>?_⟩ (by simp; omega)
    ·simp only[Vak,Vad] at hw
     rcases hw with hw | rfl | hw
     ·exact y1 w hw
     ·decide
     ·exact y2 w hw
   | 2,_=>
    refine⟨t1,m1,ws1,l1,k1,1,p1,rfl,by decide,by omega,λT e1 q1 v1 j1 g1 pT pc1 lv1 ll1=>?_⟩
    refine⟨t2,m2,ws2,l2,k2,2,p2.pre pT,rfl,by decide,by omega,λT2 e2 q2 v2 j2 g2 pT2 pc2 lv2 ll2=>?_⟩
    have pc1:=pc1.pre pT2
    obtain⟨rfl,a1,x1,_,y1⟩:=pc1
    obtain⟨rfl,a2,x2,_,y2⟩:=pc2
    refine zbi (o:=.lst [.str "+",.str "-",.str "*"]) (zak _ _) (d:=.str "*") rfl ?_
    refine zbi (o:=.lst [.str "plus",.str "minus",.str "times"]) (zak _ _) (d:=.str "times") rfl ?_
    refine za8 (xs:=v1.map D.str) (ys:=[.str "*"]) (zai (zai (zai a1))) (zak _ _) (by rw[Vab]; show v1.length+1≤1000; omega) ?_
    refine za8 (xs:=v1.map D.str++[.str "*"]) (ys:=v2.map D.str) (zak _ _) (zai (zai (zai (zai a2)))) (by rw[Vah,Vab,Vab]; show v1.length+1+v2.length≤1000; omega) ?_
    rw[show v1.map D.str++[.str "*"]++v2.map D.str=(v1++("*":Str)::v2).map D.str by simp]
    refine h _ _ (.bi 2 t1 t2) _ (v1++("*":Str)::v2) 1 (max g1 g2) (zau (zau (zau (zau (zau (λx o e=>pT2 _ _ (pT _ _ e)) _) _) _) _) _) ⟨by rw[← ziD]; rfl,zak _ _,Ex.tim (a:=("*":Str)) (by decide) lv1 lv2 x1 x2,by simp; omega,λw hw=>?_⟩ (by simp; omega)
    ·simp only[Vak,Vad] at hw
     rcases hw with hw | rfl | hw
     ·exact y1 w hw
     ·decide
     ·exact y2 w hw
  ·exact h.elim⟩)
def zrF  (zic:Df K mg "_law_grown" zde zgi)(zfb:Fk P w K mg base 1 "_law_fits" zeC zeH)(zey:Fk P w K mg base 1 "_law_shut" zff zeV)(ziI:Fk P w K mg base 3 "_law_raised" zfT zgk)(zd6:Fk P w K mg base 1 "_law_atom" zfr zeA)(zeJ:Fk P w K mg base 3 "_law_joined" zfv zfl)(zaF:mg "len"=none):Fk P w K mg base 4 "_law_grown" zgi zfF:=
 zic.mk' (za3 (k:=3) zic.F zgd (zoD) λcdv A outer s H E hr=>⟨_,(zaf (zaB (zaK zcg (zag zbw (dv 1) zac) zac (zaA _)) (zaj (zat (zag zbl (dv 0) (za6 (zaa (zaC zd6 hr (zaa (zag zbW (dv 1) zac) zad)) zad))))) zaH) (zaf (zaB (zaK (zbo hr) (zag zbw (dv 1) zac) zac (zaA _)) (zaj (zar (i:=2) zgd.nd rfl (Or.inl rfl) (zaC zey hr (zaa (zbT (dv 0) (zej zeo zac) (λ_ _=>rfl)) zad)))) (zaj (zaB (zaK (zbo hr) (zag zbw (dv 1) zac) zac (zaA _)) (zaj (zar (i:=2) zgd.nd rfl (Or.inl rfl) (zaC ziI hr (zaa (zbT (dv 0) (zej zeo zac) (λ_ _=>rfl)) (zaa (zag zb3 zac (zag zbw (zag zbW (dv 1) zac) zac)) zad))))) (zaj (zaB (zaK zcg (zbr (zbe zcm) rfl zaF Boot.«len» (zaa (dv 0) zad)) zac (zaA _)) (zaj (zat (zag zbl (dv 0) (za6 (zaa (zaC zd6 hr (zaa (zag zbW (dv 1) zac) zad)) zad))))) (zaf (zar (i:=2) zgd.nd rfl (Or.inl rfl) (zaC zeJ hr (zaa (zag zdz (zag zbw (dv 1) zac) zac) (zaa (zbT (dv 0) (zej zeo zac) (λ_ _=>rfl)) (zaa (zbT (dv 0) (zej zeo zac) (λ_ _=>rfl)) zad))))) (zaj (zar (i:=0) zgd.nd rfl (Or.inl rfl) (zcj (dv 0) zcv (zbP (zej zeo zac))))))))))) (zaf (zaB (zbx (za5 (zaC zfb hr (zaa (dv 2) zad)))) (zaj (zat (dv 0))) zaH) (zaj (zat (zag zbl (zcj (dv 0) zcv (zbP (zej zeo zac))) (za6 (zaa (dv 2) zad)))))))),λds S Q ex h=>by
  unfold zfF at h
  split at h
  ·rename_i n c
   obtain⟨ds,pl,l6,h⟩:=h
   have own:∀(T:Sto) (d:D) (t:Tr) (m:Nat) (w:Str),Pre S T→Pc T d t m [w] 3 0→zbE zfP (.ref n) (.ref T.length) (T++[.lst [d]]) Q:=λT d t m w pT pc=>by
    have pl1:=pl.pre (zau pT [.lst [d]])
    refine za8 (xs:=ds) (ys:=[d]) pl1.at_ (zak _ _) (by show ds.length+1≤1000; omega) ?_
    refine h _ _ (ds++[d]) (zau (zau pT _) _) ⟨zak _ _,by simp,λx hx=>?_⟩ (by simp)
    rcases Vak.1 hx with hx | hx
    ·exact(pl1.all x hx).pre (zau Pre.refl _)
    ·rw[VaP.mp hx]
     exact⟨t,m,[w],3,0,pc.pre (zau (zau Pre.refl _) _),by show 1<120; decide,by decide⟩
   refine cut2 (α:=Nat×D×List D×Sto) (λa=>match a with | ⟨n',d,_,_⟩=>[some (.ref n'),some (.int c),some d]) (λa=>match a with | ⟨_,_,_,T⟩=>T) (λa=>match a with | ⟨n',d,es,T⟩=>Pre S T∧PcL T n' es∧es.length≤ds.length∧∃(t:Tr) (m:Nat) (ws:List Str) (l k:Nat),Pc T d t m ws l k) (λmain=>?_) ?_
   ·refine ifD (λc1=>?_) (λc1=>?_)
    ·exact λT d t m w pT pc=>own T d t m w pT pc
    ·refine ifD (λc2=>?_) (λc2=>?_)
     ·obtain⟨d,hd,ed⟩:=zei pl.ne
      obtain⟨t,m,ws,l,k,pc,lw,_⟩:=pl.all d hd
      refine zbi (o:=.lst ds) pl.at_ ed ?_
      exact⟨t,m,ws,l,k,pc,by omega,λT d2 m2 pT p2=>main (n,d2,ds,T) ⟨pT,pl.pre pT,Vaa _,t,m2,_,_,_,p2⟩⟩
     ·refine ifD (λc3=>?_) (λc3=>?_)
      ·obtain⟨d,hd,ed⟩:=zei pl.ne
       obtain⟨t,m,ws,l,k,pc,lw,_⟩:=pl.all d hd
       refine zbi (o:=.lst ds) pl.at_ ed ?_
       exact⟨t,m,ws,l,k,pc,by omega,by omega,λT d2 t2 m2 ws2 l2 k2 pT p2 _=>main (n,d2,ds,T) ⟨pT,pl.pre pT,Vaa _,t2,m2,_,_,_,p2⟩⟩
      ·refine zdn pl.at_ ?_
       refine ifD (λc4=>?_) (λc4=>?_)
       ·exact λT d t m w pT pc=>own T d t m w pT pc
       ·have l2:2≤ds.length:=by omega
        obtain⟨d1,hd1,ed1⟩:=zmN l2
        obtain⟨d,hd,ed⟩:=zei pl.ne
        obtain⟨t1,m1,ws1,l1,k1,pc1,lw1,_⟩:=pl.all d1 hd1
        obtain⟨t,m,ws,l,k,pc,lw,_⟩:=pl.all d hd
        refine zbi (o:=.lst ds) pl.at_ ed1 ?_
        refine zbi (o:=.lst ds) pl.at_ ed ?_
        refine⟨(c%8-5).toNat,t1,t,m1,m,ws1,ws,l1,k1,l,k,by omega,by omega,pc1,pc,by omega,by omega,λT d3 t3 m3 ws3 l3 k3 pT p3 _=>?_⟩
        refine zch (n:=n) (o:=.lst ds) (S3:=T) (lo:=none) (hi:=some (-1)) (λK hK=>by exact hK) (λK hK=>by exact hK) (λK hK=>by exact hK) (pT _ _ pl.at_) ?_
        rw[show zay (.lst ds)=ds from rfl,zjK pl.ne]
        exact main (T.length,d3,ds.dropLast,T++[.lst ds.dropLast]) ⟨zau pT _,⟨zak _ _,λz=>by have:=congrArg List.length z; rw[List.length_dropLast] at this; simp at this; omega,λx hx=>((pl.all x (List.dropLast_subset _ hx)).pre pT).pre (zau Pre.refl _)⟩,by rw[List.length_dropLast]; omega,t3,m3,_,_,_,p3.pre (zau Pre.refl _)⟩
   ·rintro⟨n',d,es,T⟩ ⟨pT,pl1,le,t,m,ws,l,k,pc⟩
    refine⟨t,m,ws,l,k,pc,?_⟩
    refine ifB (λe=>?_) (λe=>?_)
    ·exact h T n' es pT pl1 (by omega)
    ·have e2:(decide (ws.length<120)&&decide (k<17))=true:=by
      cases z:(decide (ws.length<120)&&decide (k<17)) with
      | true=>rfl
      | false=>rw[z] at e; cases e
     rw[Vap,decide_eq_true_eq,decide_eq_true_eq] at e2
     refine zch (n:=n') (o:=.lst es) (S3:=T) (lo:=none) (hi:=some (-1)) (λK hK=>by exact hK) (λK hK=>by exact hK) (λK hK=>by exact hK) pl1.at_ ?_
     rw[show zay (.lst es)=es from rfl,zjK pl1.ne]
     refine za8 (xs:=es.dropLast) (ys:=[d]) (zai (zak _ _)) (zak _ _) (by rw[List.length_dropLast]; show es.length-1+1≤1000; omega) ?_
     have p3:Pre T (T++[Ob.lst es.dropLast]++[Ob.lst [d]]++[Ob.lst (es.dropLast++[d])]):=zau (zau (zau Pre.refl _) _) _
     refine h _ _ (es.dropLast++[d]) (λx o q=>p3 x o (pT x o q)) ⟨zak _ _,by simp,λx hx=>?_⟩ (by simp; omega)
     rcases Vak.1 hx with hx | hx
     ·exact(pl1.all x (List.dropLast_subset _ hx)).pre p3
     ·rw[VaP.mp hx]
      exact⟨t,m,ws,l,k,pc.pre p3,e2.1,e2.2⟩
  ·exact h.elim⟩)
def zo6  (zgP:Df K mg "_law_cell_at" zdS zf7)(zaF:mg "len"=none):Fk P w K mg base 1 "_law_cell_at" zf7 zfC:=
 zgP.mk' (za3 (k:=0) zgP.F zmG (zpP) λcdv A outer s H E hr=>⟨_,(zaf (zaB (zaK zcg (dv 1) (zbr zcm rfl zaF Boot.«len» (zaa (dv 0) zad)) (zaA _)) (zaj (zat (zaw (dv 0) (dv 1) (λ_ _=>rfl)))) zaH) (zaj (zat zac))),λds S Q ex h=>by
  unfold zfC at h
  split at h
  ·rename_i n k
   obtain⟨ns,h1,h2,h3⟩:=h
   simp only[zjA,zaP,zlp,zfE,dRetN,dIf,zeM,zbf,dC,dOp,dUn,wI,wI0,wIf,zd9,dNot,dAnd,dOr,zl7,dOrV,zll,dIfE,ziQ,zcl,zby,zh3,zg4,wIx,ze8,zfL,zk8,wAbs,zjC,zgw,wEq,wNe,wIsN,wNotN,wNeg,zcU,Vaf,List.map_nil,Vam,List.length_nil,List.cons_append,List.nil_append,Nat.reduceAdd,Nat.reduceSub,List.replicate,List.getElem?_cons_zero,List.getElem?_cons_succ,List.set_cons_zero,List.set_cons_succ,ite_true,ite_false,if_true,if_false,Nat.reduceLeDiff,eq_self,p40,p41,p20,zfY,powB,Int.reduceLT,Int.reduceLE,Int.reduceNeg,decide_true,Bool.and_self,Bool.and_true,VaV,L3.eq1,L3.eq2,L3.eqT,L3.eqF,L3.eqL]
   have hA:lAt S n=some (.frz (ns.map D.int)):=zce h1 rfl
   simp only[hA,zay,Vab]
   refine ite2 (λc=>?_) (λc=>?_)
   ·have c':k<(ns.length:Int):=of_decide_eq_true c
    have hk:k.toNat<ns.length:=(by omega)
    have e:atI (ns.map D.int) k=some (.int ns[k.toNat]):=by
     have z:=zhi (xs:=ns.map D.int) (j:=k.toNat) (v:=.int ns[k.toNat]) (by simp[hk])
     rw[show ((k.toNat:Nat):Int)=k by omega] at z
     exact z
    simp only[e]
    rw[VaO,Vay hk] at h3
    exact h3
   ·have c':¬ k<(ns.length:Int):=λz=>c (decide_eq_true z)
    rw[VaO,List.getElem?_eq_none (by omega)] at h3
    exact h3
  ·exact h.elim⟩)
def zqS  (zhZ:Df K mg "_law_no_atom" zdK zgE):Fk P w K mg base 1 "_law_no_atom" zgE zga:=
 zhZ.mk' (zr2 (k:=0) zhZ.F zjH (zsm) λcdv A outer s H E hr=>⟨_,(zjv (zjc (i:=1) zjH.nd rfl (Or.inl rfl) (ziC (zaT zaW (zaT zaW (zaT zaW (zaT zaW (zaT zaW (zaT zaW (zaT zaW (zaT zaW (zaT zaW (zaT zaW (zaT zaW ziy))))))))))))) (zjv (zjc (i:=1) zjH.nd rfl (Or.inl rfl) (zkX zbl (dvq 1) (ziC (zaT zaW (zaT zaW (zaT zaW (zaT zaW (zaT zaW ziy)))))))) (zsu (zn5 (zl5 (dvq 1) (zkX zbw (dvq 0) zod) (λ_ _=>rfl)))))),λds S Q ex h=>by
  unfold zga at h
  split at h
  ·rename_i c
   refine za8 (xs:=zkg.map D.str) (ys:=zlw.map D.str) (zai (zak _ _)) (zak _ _) (by decide) ?_
   rw[zpQ]
   have hk:(c%16).toNat<zdq.length:=by show (c%16).toNat<16; omega
   refine zbi (o:=.lst (zdq.map D.str)) (zak _ _) (d:=.str zdq[(c%16).toNat]) ?_ ?_
   ·have z:=zd3 hk
    rw[show (((c%16).toNat:Nat):Int)=c%16 by omega] at z
    exact z
   ·exact h _ _ (zau (zau Pre.refl.push _) _) (VaN hk)
  ·exact h.elim⟩)
def zrA  (zab:zbG K mg)(zia:Df K mg "law" zca zhB)(zam:Ec K mg "NoRow")(zas:Ec K mg "NoNumber")(ziX:Fk P w K mg base 132 "_law_edges" zgA zfN)(zdf:Fk P w K mg base 1 "_law_cell_at" zf7 zfC)(zcq:Fk P w K mg base 90 "_law_refused" zfi zfA)(zjq:Fk P w K mg base 1 "_law_no_atom" zgE zga)(zbY:Fk P w K mg base 131 "_law_alike" zcQ (zcB 130))(zcC:Fk P w K mg base 89 "tree_of" zdY (zd1 zab.C zam.c zas.c))(zfb:Fk P w K mg base 1 "_law_fits" zeC zeH)(zeJ:Fk P w K mg base 3 "_law_joined" zfv zfl)(ziT:Fk P w K mg base 4 "_law_grown" zgi zfF)(zd6:Fk P w K mg base 1 "_law_atom" zfr zeA)(zaF:mg "len"=none)(zbK:mg "range"=none)(zdC:mg "list"=none):Fk P w K mg base 133 "law" zhB zfk:=
 zia.mk' (za3 (k:=132) zia.F zbH zo2 λcdv A outer s H E hr=>⟨_,(zaf (zar (i:=1) zbH.nd rfl (Or.inl rfl) (za6 (zaa (zaC zd6 hr (zaa (zag zdu (zaC zdf hr (zaa (dv 0) (zaa zac zad))) (zag zgu zac zac)) zad)) zad))) (zaf (zlj (i:=2) PassesOwn.never rfl zbH.nd rfl (Or.inl rfl) (zcj (dv 0) (zbP zac) (zbP zac)) (zaj (zar (i:=1) zbH.nd rfl (Or.inl rfl) (zaC ziT hr (zaa (dv 1) (zaa (zag zdu (dv 2) (zag zgu zac zac)) zad)))))) (zaf (zar (i:=3) zbH.nd rfl (Or.inl rfl) (zbT (dv 1) zac (λ_ _=>rfl))) (zaf (zlj (i:=4) PassesOwn.never rfl zbH.nd rfl (Or.inl rfl) (zcj (dv 1) (zbP zac) zcv) (zaf (zar (i:=5) zbH.nd rfl (Or.inl rfl) (zaC zeJ hr (zaa zac (zaa (dv 3) (zaa (dv 4) zad))))) (zaj (zaB (za5 (zaC zfb hr (zaa (dv 5) zad))) (zaj (zar (i:=3) zbH.nd rfl (Or.inl rfl) (dv 5))) zaH)))) (zaf (zar (i:=6) zbH.nd rfl (Or.inr rfl) (zaw (dv 3) zac (λ_ _=>rfl))) (zaf (zar (i:=7) zbH.nd rfl (Or.inl rfl) (zb2 (zbe znx) rfl zdC Boot.«list» (zaa (dv 6) zad))) (zaf (zaB (PDW.pt (zdU (zbx (za5 (zaC zbY hr (zaa (zaC zcC hr (zaa (dv 7) zad)) (zaa (zaw (dv 3) zac (λ_ _=>rfl)) zad))))) (zfz (zaK (zqL hr) (dv 7) (dv 6) (zaA _))))) (zaj (zat zc7)) zaH) (zaf (zar (i:=8) zbH.nd rfl (Or.inl rfl) (zag zdu (zaC zdf hr (zaa (dv 0) (zaa zac zad))) (zbr (zbe zcm) rfl zaF Boot.«len» (zaa (dv 6) zad)))) (zaf (zaB (PDW.pt (zdU (zbx (za5 (zaC zcq hr (zaa (zag zbl (zcj (dv 6) zcv (zbP (dv 8))) (zcj (dv 6) (zbP (zag zb3 (dv 8) zac)) zcv)) zad)))) (zfz (zbx (za5 (zaC zcq hr (zaa (zag zbl (zag zbl (zcj (dv 6) zcv (zbP (dv 8))) (zcj (dv 6) (zbP (dv 8)) (zbP (zag zb3 (dv 8) zac)))) (zcj (dv 6) (zbP (dv 8)) zcv)) zad))))))) (zaj (zat zc7)) zaH) (zaf (zqZ (zaK zcg (zbr (zbe zcm) rfl zaF Boot.«len» (zaa (dv 6) zad)) zac (zaA _)) (zjv (zjc (i:=9) zbH.nd rfl (Or.inl rfl) (zl5 (ziC (zaT zaW (zaT zaW (zaT zaW (zaT zaW (zaT zaW (zaT zaW (zaT zaW (zaT zaW (zaT zaW (zaT zaW ziy))))))))))) ⟨(zag zbw (zaC zdf hr (zaa (dv 0) (zaa zac zad))) zac)⟩ (λ_ _=>rfl))) ⟨(zaj (zaB (zbx (za5 (zaC zcq hr (zaa (zag zbl (dv 6) (za6 (zaa zap (zaa (dv 9) zad)))) zad)))) (zaj (zat zc7)) zaH))⟩) zaH) (zaf (zar (i:=10) zbH.nd rfl (Or.inr rfl) (zaY (zaa zap (zaa zap (zaa zap (zaa zap (zaa zap (zaa zap zad)))))))) (zaf (zrl (x:="_law_k") (N:=["_law_signs","_law_words"]) (caps:=[10,6]) (ar:=zae zca) rfl rfl csc rfl (by decide) (i:=11) zbH.nd rfl rfl rfl zbK (zaa (zbr (zbe zcm) rfl zaF Boot.«len» (zaa (dv 6) zad)) zad) (λ_ _ _ _ _ _=>zrD (PDW.pt (zoT (zaK (zoq (k:=0) hr (by decide)) (zbT (dv 2) (dv 0) (λ_ _=>rfl)) (dv 1) rfl) (zp2 (PDW.pt (zdU (zaK (zbo hr) (dv 0) zac (zaA _)) (zfz (zaK (zed hr) (zbT (dv 2) (zag zdz (dv 0) zac) (λ_ _=>rfl)) zap (zaA _))))))))) (λ_ _ _ _ _ _=>(dv 0))) (zaf (zar (i:=8) zbH.nd rfl (Or.inl rfl) (zbT (dv 11) (zag zdu (zag zbW (zaC zdf hr (zaa (dv 0) (zaa zac zad))) zac) (zbr (zbe zcm) rfl zaF Boot.«len» (zaa (dv 11) zad))) (λ_ _=>rfl))) (zaf (zaB (zbx (za5 (zaC zcq hr (zaa (zag zbl (zag zbl (zcj (dv 6) zcv (zbP (dv 8))) (za6 (zaa (zaC zjq hr (zaa (zag zbW (zaC zdf hr (zaa (dv 0) (zaa zac zad))) zac) zad)) zad))) (zcj (dv 6) (zbP (zag zb3 (dv 8) zac)) zcv)) zad)))) (zaj (zat zc7)) zaH) (zaj (zat (zaC ziX hr (zaa (zag zbW (zaC zdf hr (zaa (dv 0) (zaa zac zad))) zac) zad)))))))))))))))))),λds S Q ex h=>by
  obtain⟨ns,rfl,rfl,hl,h⟩:=h
  refine zef (λdl' S'=>∃(n:Nat) (es:List D),dl'=[some (.ref 0),some (.ref n),none,none,none,none,none,none,none,none,none,none]∧S'[0]?=some (.frz (ns.map D.int))∧PcL S' n es∧es.length≤1) (λnx hn=>?_) ?_
  ·refine⟨ns,rfl,by decide,⟨show (0:Int)<10^Int.toNat 12 by decide,?_⟩⟩
   intro T d t m w pT pc
   exact hn _ _ ⟨T.length,[d],rfl,zai (pT 0 _ rfl),⟨zak _ _,by simp,λx hx=>by rw[VaP.mp hx]; exact⟨t,m,[w],3,0,pc.pre (zau Pre.refl _),by show 1<120; decide,by decide⟩⟩,Vaa _⟩
  rintro dl' S' ⟨n,es,rfl,s0,pl,le⟩
  refine zef (λdl' S'=>∃(n:Nat) (es:List D) (o:Option D),dl'=[some (.ref 0),some (.ref n),o,none,none,none,none,none,none,none,none,none]∧S'[0]?=some (.frz (ns.map D.int))∧PcL S' n es∧es.length≤50) (λnx hn=>?_) ?_
  ·refine zch (n:=0) (o:=.frz (ns.map D.int)) (S3:=S') (lo:=some 3) (hi:=some 45) (λK hK=>by exact hK) (λK hK=>by exact hK) (λK hK=>by exact hK) s0 ?_
   have cl:=zog (ns.map D.int) 3 45
   refine zkD (o:=.lst (zaX (ns.map D.int) (some 3) (some 45))) (λk dl2 S2=>Pre (S'++[Ob.lst (zaX (ns.map D.int) (some 3) (some 45))]) S2∧∃(n:Nat) (es:List D) (o:Option D),dl2=[some (.ref 0),some (.ref n),o,none,none,none,none,none,none,none,none,none]∧PcL S2 n es∧es.length≤1+k) ⟨Pre.refl,n,es,none,rfl,pl.pre (zau Pre.refl _),by omega⟩ (λk dl2 S2 w=>w.1 _ _ (zak _ _)) ?_ ?_
   ·rintro k x dl2 S2 nx2 ct2 hx ⟨p2,n2,es2,o2,rfl,pl2,le2⟩ hnx
    obtain⟨c,rfl⟩:=zpf hx
    have hk:=(Vac.mp hx).1
    have hk2:k<42:=Vag hk cl
    refine⟨show (0:Int)<10^Int.toNat 13 by decide,?_⟩
    refine⟨es2,pl2,by omega,λT m es3 pT pl3 le3=>?_⟩
    exact hnx _ _ ⟨λx o e=>pT x o (p2 x o e),m,es3,_,rfl,pl3,by omega⟩
   ·rintro dl2 S2 ⟨p2,n2,es2,o2,rfl,pl2,le2⟩
    have cl':(zay (.lst (zaX (ns.map D.int) (some 3) (some 45)))).length≤42:=cl
    exact hn _ _ ⟨n2,es2,o2,rfl,p2 _ _ (zai s0),pl2,by omega⟩
  rintro dl' S' ⟨n,es,o,rfl,s0,pl,le⟩
  refine zef (λdl' S'=>∃(d:D),dl'=[some (.ref 0),some (.ref n),o,some d,none,none,none,none,none,none,none,none]∧S'[0]?=some (.frz (ns.map D.int))∧PcL S' n es∧Pz S' d) (λnx hn=>?_) ?_
  ·have l1:=VaT.mpr pl.ne
   refine zbi (o:=.lst es) pl.at_ (d:=es[0]) (zhi (j:=0) (Vay l1)) ?_
   exact hn _ _ ⟨es[0],rfl,s0,pl,pl.all _ (VaN l1)⟩
  rintro dl' S' ⟨d,rfl,s0,pl,pz⟩
  refine zef (λdl' S'=>∃(d:D) (o4 o5:Option D),dl'=[some (.ref 0),some (.ref n),o,some d,o4,o5,none,none,none,none,none,none]∧S'[0]?=some (.frz (ns.map D.int))∧Pz S' d) (λnx hn=>?_) ?_
  ·refine zch (n:=n) (o:=.lst es) (S3:=S') (lo:=some 1) (hi:=none) (λK hK=>by exact hK) (λK hK=>by exact hK) (λK hK=>by exact hK) pl.at_ ?_
   refine zkD (o:=.lst (zaX es (some 1) none)) (λk dl2 S2=>Pre (S'++[Ob.lst (zaX es (some 1) none)]) S2∧∃(d:D) (o4 o5:Option D),dl2=[some (.ref 0),some (.ref n),o,some d,o4,o5,none,none,none,none,none,none]∧Pz S2 d) ⟨Pre.refl,d,none,none,rfl,pz.pre (zau Pre.refl _)⟩ (λk dl2 S2 w=>w.1 _ _ (zak _ _)) ?_ ?_
   ·rintro k x dl2 S2 nx2 ct2 hx ⟨p2,d2,o4,o5,rfl,pz2⟩ hnx
    have hm:x∈es:=by
     have m:=Vax hx
     unfold L3.zaX at m
     exact List.mem_of_mem_drop (List.mem_of_mem_take m)
    have pzx:=((pl.all x hm).pre (zau Pre.refl _)).pre p2
    obtain⟨t1,m1,ws1,l1,k1,pc1,lw1,lk1⟩:=pz2
    obtain⟨t2,m2,ws2,l2,k2,pc2,lw2,_⟩:=pzx
    refine⟨0,t1,t2,m1,m2,ws1,ws2,l1,k1,l2,k2,rfl,by decide,pc1,pc2,by omega,by omega,λT d3 t3 m3 ws3 l3 k3 pT p3 _=>?_⟩
    refine⟨t3,m3,ws3,l3,k3,p3,?_⟩
    refine ifB (λe=>?_) (λe=>?_)
    ·rw[Vap,decide_eq_true_eq,decide_eq_true_eq] at e
     exact hnx _ _ ⟨λx o e=>pT x o (p2 x o e),d3,_,_,rfl,t3,m3,ws3,l3,k3,p3,e.1,e.2⟩
    ·exact hnx _ _ ⟨λx o e=>pT x o (p2 x o e),d2,_,_,rfl,t1,m1,ws1,l1,k1,pc1.pre pT,lw1,lk1⟩
   ·rintro dl2 S2 ⟨p2,d2,o4,o5,rfl,pz2⟩
    exact hn _ _ ⟨d2,o4,o5,rfl,p2 _ _ (zai s0),pz2⟩
  rintro dl' S' ⟨d,o4,o5,rfl,s0,t,m,ws,l,k,pc,lw,lk⟩
  obtain⟨rfl,at_,ex0,ln,wl⟩:=pc
  have dp:=ex_dp ex0
  have wl9:∀w∈ws,w.length≤900:=λw hw=>by have:=wl w hw; omega
  have p0:0<ws.length:=by omega
  refine zli (λdl' S'=>∃o3 o7:Option D,dl'=[some (.ref 0),some (.ref n),o,o3,o4,o5,some (.ref m),o7,none,none,none,none]∧S'[0]?=some (.frz (ns.map D.int))∧S'[m]?=some (.lst (ws.map D.str))) (λnx hn=>?_) ?_
  ·refine zmK (o:=.lst (ws.map D.str)) (zce at_ rfl) ?_
   refine⟨ws,zak _ _,by omega,wl9,?_⟩
   rw[zi7 ex0 (by omega) (by omega)]
   intro T pT
   refine⟨t,rfl,rfl,by omega,?_⟩
   refine zqE (ws:=ws) (pT _ _ (zak _ _)) (pT _ _ (zai at_)) ?_
   exact hn _ _ ⟨_,_,rfl,pT _ _ (zai s0),pT _ _ (zai at_)⟩
  rintro dl' S' ⟨o3,o7,rfl,s0,at_⟩
  refine zef (λdl' S'=>∃a:Nat,a<ws.length∧dl'=[some (.ref 0),some (.ref n),o,o3,o4,o5,some (.ref m),o7,some (.int (a:Int)),none,none,none]∧S'[0]?=some (.frz (ns.map D.int))∧S'[m]?=some (.lst (ws.map D.str))) (λnx hn=>?_) ?_
  ·refine⟨ns,s0,by decide,?_⟩
   refine zdn at_ ?_
   rw[Vab]
   have rr:=zeO (a:=ns.getD (1:Int).toNat 0) (b:=(ws.length:Int)) (by omega)
   refine⟨by show (0:Int)<(ws.length:Int); omega,?_⟩
   have ea:ns.getD (1:Int).toNat 0%(ws.length:Int)=((ns.getD (1:Int).toNat 0%(ws.length:Int)).toNat:Int):=by omega
   exact hn _ _ ⟨(ns.getD (1:Int).toNat 0%(ws.length:Int)).toNat,by omega,by rw[← ea]; rfl,s0,at_⟩
  rintro dl' S' ⟨a,la,rfl,s0,at_⟩
  have la9:∀(x y:Nat),((ws.take x).map D.str).length≤400∧((ws.drop y).map D.str).length≤400:=λx y=>by
   rw[Vab,Vab,VaK,VaL]
   omega
  have wt:∀(x:Nat) (w:Str),w∈ws.take x→w.length≤900:=λx w hw=>wl9 w (List.mem_of_mem_take hw)
  have wd:∀(x:Nat) (w:Str),w∈ws.drop x→w.length≤900:=λx w hw=>wl9 w (List.mem_of_mem_drop hw)
  have io:zay (.lst (ws.map D.str))=ws.map D.str:=rfl
  refine zef (λdl' S'=>dl'=[some (.ref 0),some (.ref n),o,o3,o4,o5,some (.ref m),o7,some (.int (a:Int)),none,none,none]∧S'[0]?=some (.frz (ns.map D.int))∧S'[m]?=some (.lst (ws.map D.str))) (λnx hn=>?_) ?_
  ·refine zch (n:=m) (o:=.lst (ws.map D.str)) (S3:=S') (lo:=none) (hi:=some (a:Int)) (λK hK=>by exact hK) (λK hK=>by exact hK) (λK hK=>by exact hK) at_ ?_
   rw[io,zjm]
   refine zch (n:=m) (o:=.lst (ws.map D.str)) (S3:=S'++[.lst ((ws.take a).map D.str)]) (lo:=some ((a:Int)+1)) (hi:=none) (λK hK=>by exact hK) (λK hK=>by exact hK) (λK hK=>by exact hK) (zai at_) ?_
   rw[io,zjO]
   refine za8 (xs:=(ws.take a).map D.str) (ys:=(ws.drop (a+1)).map D.str) (zai (zak _ _)) (zak _ _) (by have:=la9 a (a+1); omega) ?_
   rw[← Vaq]
   refine⟨ws.take a++ws.drop (a+1),zak _ _,by rw[Vah,VaK,VaL]; omega,λw hw=>?_,znh ex0 la,λT pT=>?_⟩
   ·rcases Vak.mp hw with hw | hw
    ·exact wt _ w hw
    ·exact wd _ w hw
   have s1:=pT _ _ (zai (zai (zai s0)))
   have a1:=pT _ _ (zai (zai (zai at_)))
   refine zch (n:=m) (o:=.lst (ws.map D.str)) (S3:=T) (lo:=none) (hi:=some (a:Int)) (λK hK=>by exact hK) (λK hK=>by exact hK) (λK hK=>by exact hK) a1 ?_
   rw[io,zjm]
   refine zch (n:=m) (o:=.lst (ws.map D.str)) (S3:=T++[.lst ((ws.take a).map D.str)]) (lo:=some (a:Int)) (hi:=some ((a:Int)+1)) (λK hK=>by exact hK) (λK hK=>by exact hK) (λK hK=>by exact hK) (zai a1) ?_
   rw[io,zqi la]
   refine za8 (xs:=(ws.take a).map D.str) (ys:=[ws[a]].map D.str) (zai (zak _ _)) (zak _ _) (by have:=la9 a (a+1); show _+1≤1000; omega) ?_
   rw[← Vaq]
   refine zch (n:=m) (o:=.lst (ws.map D.str)) (S3:=T++[.lst ((ws.take a).map D.str)]++[.lst ([ws[a]].map D.str)]++[.lst ((ws.take a++[ws[a]]).map D.str)]) (lo:=some (a:Int)) (hi:=none) (λK hK=>by exact hK) (λK hK=>by exact hK) (λK hK=>by exact hK) (zai (zai (zai a1))) ?_
   rw[io,zkk]
   refine za8 (xs:=(ws.take a++[ws[a]]).map D.str) (ys:=(ws.drop a).map D.str) (zai (zak _ _)) (zak _ _) (by rw[Vaq,Vah]; have:=la9 a a; show _+1+_≤1000; omega) ?_
   rw[← Vaq]
   refine⟨ws.take a++[ws[a]]++ws.drop a,zak _ _,by simp only[Vah,VaK,VaL]; show _+1+_≤900; omega,λw hw=>?_,zo7 ex0 la,λT2 pT2=>?_⟩
   ·rcases Vak.mp hw with hw | hw
    ·rcases Vak.mp hw with hw | hw
     ·exact wt _ w hw
     ·rw[VaP.mp hw]
      exact wl9 _ (VaN la)
    ·exact wd _ w hw
   exact hn _ _ ⟨rfl,pT2 _ _ (zai (zai (zai (zai (zai s1))))),pT2 _ _ (zai (zai (zai (zai (zai a1)))))⟩
  rintro dl' S' ⟨rfl,s0,at_⟩
  refine zef (λdl' S'=>∃o9:Option D,dl'=[some (.ref 0),some (.ref n),o,o3,o4,o5,some (.ref m),o7,some (.int (a:Int)),o9,none,none]∧S'[0]?=some (.frz (ns.map D.int))∧S'[m]?=some (.lst (ws.map D.str))) (λnx hn=>?_) ?_
  ·refine zdn at_ ?_
   rw[Vab]
   refine ifD (λc1=>?_) (λc1=>?_)
   ·refine⟨ns,zai s0,by decide,?_⟩
    have hk:(ns.getD (2:Int).toNat 0%10).toNat<zec.length:=by show _<10; omega
    refine zbi (o:=.lst (zec.map D.str)) (zak _ _) (d:=.str zec[(ns.getD (2:Int).toNat 0%10).toNat]) ?_ ?_
    ·have z:=zd3 hk
     rw[show (((ns.getD (2:Int).toNat 0%10).toNat:Nat):Int)=ns.getD (2:Int).toNat 0%10 by omega] at z
     exact z
    ·have hw:=VaN hk
     generalize zec[(ns.getD (2:Int).toNat 0%10).toNat]=w at hw ⊢
     refine za8 (xs:=ws.map D.str) (ys:=[("^":Str),w].map D.str) (zai (zai at_)) (zak _ _) (by rw[Vab]; show _+2≤1000; omega) ?_
     rw[← Vaq]
     refine⟨ws++[("^":Str),w],zak _ _,by rw[Vah]; show _+2≤900; omega,λx hx=>?_,zry ex0 hw,λT pT=>?_⟩
     ·rcases Vak.1 hx with hx | hx
      ·exact wl9 x hx
      ·simp only[Vad,VaR,or_false] at hx
       rcases hx with rfl | rfl
       ·decide
       ·have:=(zjX _ hw).2
        omega
     ·exact hn _ _ ⟨_,rfl,pT _ _ (zai (zai (zai s0))),pT _ _ (zai (zai (zai at_)))⟩
   ·exact hn _ _ ⟨none,rfl,s0,at_⟩
  rintro dl' S' ⟨o9,rfl,s0,at_⟩
  refine zli (λdl' S'=>∃b:Nat,b<ws.length∧atP ws b=true∧∃o10 o11:Option D,dl'=[some (.ref 0),some (.ref n),o,o3,o4,o5,some (.ref m),o7,some (.int (b:Int)),o9,o10,o11]∧S'[0]?=some (.frz (ns.map D.int))∧S'[m]?=some (.lst (ws.map D.str))) (λnx hn=>?_) ?_
  ·refine znK (j:=(ws.length:Int)) (S1:=S') (atP ws) (λk=>.int (k:Int)) (λK hK=>?_) ⟨by omega,by omega⟩ (λk hk S2 K p2 hK=>?_) (λk hk _ S2 K p2 hK=>by exact hK) ?_
   ·refine zdn at_ ?_
    rw[Vab]
    exact hK
   ·have hk':k<ws.length:=by omega
    refine zbi (o:=.lst (ws.map D.str)) (p2 _ _ at_) (zd3 hk') ?_
    refine varW (d:=.tup (SIG.map D.str)) rfl ?_
    refine zna (ws:=SIG) ?_
    rw[zmH]
    have e1:ws.getD k ""=ws[k]:=by rw[VaO,Vay hk']; rfl
    unfold atP at hK
    rw[e1] at hK
    refine ifD (λc1=>?_) (λc1=>?_)
    ·rw[decide_eq_true c1,VaV] at hK
     refine ifD (λc2=>?_) (λc2=>?_)
     ·have c2':k=0:=by omega
      rw[decide_eq_true c2',Bool.true_or] at hK
      exact hK
     ·have c2':¬ k=0:=by omega
      rw[decide_eq_false c2',Bool.false_or] at hK
      have lp:k-1<ws.length:=by omega
      have e2:ws.getD (k-1) ""=ws[k-1]:=by rw[VaO,Vay lp]; rfl
      have z:=zd3 lp
      rw[show ((k-1:Nat):Int)=(k:Int)-1 by omega] at z
      refine zbi (o:=.lst (ws.map D.str)) (p2 _ _ at_) z ?_
      rw[e2] at hK
      show K (!decide (ws[k-1]="^")) S2
      rw[show (!decide (ws[k-1]=("^":Str)))=decide (ws[k-1]≠"^") by simp]
      exact hK
    ·rw[decide_eq_false c1,VaH] at hK
     exact hK
   ·have hne:=zrx ex0
    have hmem:∀b∈(List.range ws.length).filter (atP ws),b<ws.length∧atP ws b=true:=λb hb=>⟨List.mem_range.mp (List.mem_filter.mp hb).1,(List.mem_filter.mp hb).2⟩
    have hlen:((List.range ws.length).filter (atP ws)).length≤120:=by
     have:=List.length_filter_le (atP ws) (List.range ws.length)
     rw[List.length_range] at this
     omega
    rw[show ((ws.length:Int).toNat)=ws.length from Int.toNat_natCast _]
    generalize (List.range ws.length).filter (atP ws)=bs at hne hmem hlen ⊢
    have lb:=VaT.mpr hne
    refine⟨ns,zai s0,by decide,?_⟩
    refine zdn (zak _ _) ?_
    rw[Vab]
    refine⟨by show (0:Int)<(bs.length:Int); omega,?_⟩
    have rr:=zeO (a:=ns.getD (1:Int).toNat 0/7) (b:=(bs.length:Int)) (by omega)
    have hk:(ns.getD (1:Int).toNat 0/7%(bs.length:Int)).toNat<bs.length:=by omega
    refine zbi (o:=.lst (bs.map λk:Nat=>D.int (k:Int))) (zak _ _) (d:=.int (bs[(ns.getD (1:Int).toNat 0/7%(bs.length:Int)).toNat]:Int)) ?_ ?_
    ·have z:=zhi (xs:=bs.map λk:Nat=>D.int (k:Int)) (j:=(ns.getD (1:Int).toNat 0/7%(bs.length:Int)).toNat) (v:=.int (bs[(ns.getD (1:Int).toNat 0/7%(bs.length:Int)).toNat]:Int)) (by rw[Vau,Vay hk]; rfl)
     rw[show (((ns.getD (1:Int).toNat 0/7%(bs.length:Int)).toNat:Nat):Int)=ns.getD (1:Int).toNat 0/7%(bs.length:Int) by omega] at z
     exact z
    ·obtain⟨b1,b2⟩:=hmem _ (VaN hk)
     exact hn _ _ ⟨_,b1,b2,_,_,rfl,zai s0,zai at_⟩
  rintro dl' S' ⟨b,lb,hb,o10,o11,rfl,s0,at_⟩
  refine zch (n:=m) (o:=.lst (ws.map D.str)) (S3:=S') (lo:=none) (hi:=some (b:Int)) (λK hK=>by exact hK) (λK hK=>by exact hK) (λK hK=>by exact hK) at_ ?_
  rw[io,zjm]
  refine⟨ns,zai s0,by decide,?_⟩
  intro T w pT hw
  obtain⟨_,_,w20⟩:=zk0 w hw
  have s1:=pT _ _ (zai s0)
  have a1:=pT _ _ (zai at_)
  have k1:=pT _ _ (zak S' (.lst ((ws.take b).map D.str)))
  refine za8 (xs:=(ws.take b).map D.str) (ys:=[w].map D.str) (zai k1) (zak _ _) (by have:=la9 b (b+1); show _+1≤1000; omega) ?_
  rw[← Vaq]
  refine zch (n:=m) (o:=.lst (ws.map D.str)) (S3:=T++[.lst ([w].map D.str)]++[.lst ((ws.take b++[w]).map D.str)]) (lo:=some ((b:Int)+1)) (hi:=none) (λK hK=>by exact hK) (λK hK=>by exact hK) (λK hK=>by exact hK) (zai (zai a1)) ?_
  rw[io,zjO]
  refine za8 (xs:=(ws.take b++[w]).map D.str) (ys:=(ws.drop (b+1)).map D.str) (zai (zak _ _)) (zak _ _) (by rw[Vaq,Vah]; have:=la9 b (b+1); show _+1+_≤1000; omega) ?_
  rw[← Vaq]
  refine⟨ws.take b++[w]++ws.drop (b+1),zak _ _,by simp only[Vah,VaK,VaL]; show _+1+_≤900; omega,λx hx=>?_,zq0 ex0 lb hb hw,λT2 pT2=>?_⟩
  ·rcases Vak.1 hx with hx | hx
   ·rcases Vak.1 hx with hx | hx
    ·exact wt _ x hx
    ·rw[VaP.mp hx]
     omega
   ·exact wd _ x hx
  refine⟨ns,pT2 _ _ (zai (zai (zai (zai s1)))),by decide,?_⟩
  exact λT3 _=>h T3⟩)
end
theorem zpU {l:PySem.W.OpenLaw}{w:World}{K:PySem.W.Frag}{h:Heap}{mg:Str→Option Value}{fa:Addr}(X:K.In h)(G:h.Ns mainGlobals mg)(hfa:mg "law"=some (.ref fa))
  {zbg:Addr}(zha:PySem.W.nsIn K mainGlobals "Reader"=some (some (.ref zbg)))(zhz:PySem.W.plainGet K zbg Str.empty=true)(zhV:PySem.W.hasDictIn K zbg=true)(zgS:PySem.W.plainOver K zbg=true)(zhQ:PySem.W.findIn K (.ref zbg) "__setattr__"=some (some (.builtin "object.__setattr__")))(zhA:PySem.W.makesIn K zbg=true)(zhl:PySem.W.keepIn K (.ref zbg)=true)
  (zhn:PySem.W.findIn K (.ref zbg) "depth"=some none)
  (zhW:PySem.W.findIn K (.ref zbg) "place"=some none)
  (zhh:PySem.W.findIn K (.ref zbg) "words"=some none)
  {f0:Addr}{od0 an0:Option Addr}{sl0:Array (Option Value)}{oc0 kV0 dc0 pm0 cd0 ct0:Value}
  (a0:PySem.W.findIn K (.ref zbg) "__init__"=some (some (.ref f0)))(ii0:PySem.W.isFn K (.ref f0)=true)(l0:K.lookup f0=some ⟨oc0,od0,.func (PySem.W.fnOf "__init__" "Reader.__init__" (zao zdk) (zan zdk) (zae zdk) .none kV0 dc0 pm0 an0 cd0 ct0),sl0⟩)(c0:PySem.W.codeIn K cd0 "Reader.__init__"=true)(k0:PySem.W.keepIn K (.ref f0)=true)
  {f1:Addr}{od1 an1:Option Addr}{sl1:Array (Option Value)}{oc1 kV1 dc1 pm1 cd1 ct1:Value}
  (a1:PySem.W.findIn K (.ref zbg) "at_end"=some (some (.ref f1)))(ii1:PySem.W.isFn K (.ref f1)=true)(l1:K.lookup f1=some ⟨oc1,od1,.func (PySem.W.fnOf "at_end" "Reader.at_end" (zao zdR) (zan zdR) (zae zdR) .none kV1 dc1 pm1 an1 cd1 ct1),sl1⟩)(c1:PySem.W.codeIn K cd1 "Reader.at_end"=true)(k1:PySem.W.keepIn K (.ref f1)=true)
  {f2:Addr}{od2 an2:Option Addr}{sl2:Array (Option Value)}{oc2 kV2 dc2 pm2 cd2 ct2:Value}
  (a2:PySem.W.findIn K (.ref zbg) "take"=some (some (.ref f2)))(ii2:PySem.W.isFn K (.ref f2)=true)(l2:K.lookup f2=some ⟨oc2,od2,.func (PySem.W.fnOf "take" "Reader.take" (zao zc9) (zan zc9) (zae zc9) .none kV2 dc2 pm2 an2 cd2 ct2),sl2⟩)(c2:PySem.W.codeIn K cd2 "Reader.take"=true)(k2:PySem.W.keepIn K (.ref f2)=true)
  {f3:Addr}{od3 an3:Option Addr}{sl3:Array (Option Value)}{oc3 kV3 dc3 pm3 cd3 ct3:Value}
  (a3:PySem.W.nsIn K mainGlobals "made_of"=some (some (.ref f3)))(l3:K.lookup f3=some ⟨oc3,od3,.func (PySem.W.fnOf "made_of" "made_of" (zao zcM) (zan zcM) (zae zcM) .none kV3 dc3 pm3 an3 cd3 ct3),sl3⟩)(c3:PySem.W.codeIn K cd3 "made_of"=true)(k3:PySem.W.keepIn K (.ref f3)=true)
  {f4:Addr}{od4 an4:Option Addr}{sl4:Array (Option Value)}{oc4 kV4 dc4 pm4 cd4 ct4:Value}
  (a4:PySem.W.nsIn K mainGlobals "is_name"=some (some (.ref f4)))(l4:K.lookup f4=some ⟨oc4,od4,.func (PySem.W.fnOf "is_name" "is_name" (zao zc4) (zan zc4) (zae zc4) .none kV4 dc4 pm4 an4 cd4 ct4),sl4⟩)(c4:PySem.W.codeIn K cd4 "is_name"=true)(k4:PySem.W.keepIn K (.ref f4)=true)
  {f5:Addr}{od5 an5:Option Addr}{sl5:Array (Option Value)}{oc5 kV5 dc5 pm5 cd5 ct5:Value}
  (a5:PySem.W.nsIn K mainGlobals "greatest_divisor"=some (some (.ref f5)))(l5:K.lookup f5=some ⟨oc5,od5,.func (PySem.W.fnOf "greatest_divisor" "greatest_divisor" (zao zdN) (zan zdN) (zae zdN) .none kV5 dc5 pm5 an5 cd5 ct5),sl5⟩)(c5:PySem.W.codeIn K cd5 "greatest_divisor"=true)(k5:PySem.W.keepIn K (.ref f5)=true)
  {f6:Addr}{od6 an6:Option Addr}{sl6:Array (Option Value)}{oc6 kV6 dc6 pm6 cd6 ct6:Value}
  (a6:PySem.W.nsIn K mainGlobals "is_whole"=some (some (.ref f6)))(l6:K.lookup f6=some ⟨oc6,od6,.func (PySem.W.fnOf "is_whole" "is_whole" (zao zdl) (zan zdl) (zae zdl) .none kV6 dc6 pm6 an6 cd6 ct6),sl6⟩)(c6:PySem.W.codeIn K cd6 "is_whole"=true)(k6:PySem.W.keepIn K (.ref f6)=true)
  {f7:Addr}{od7 an7:Option Addr}{sl7:Array (Option Value)}{oc7 kV7 dc7 pm7 cd7 ct7:Value}
  (a7:PySem.W.nsIn K mainGlobals "fraction"=some (some (.ref f7)))(l7:K.lookup f7=some ⟨oc7,od7,.func (PySem.W.fnOf "fraction" "fraction" (zao zdr) (zan zdr) (zae zdr) .none kV7 dc7 pm7 an7 cd7 ct7),sl7⟩)(c7:PySem.W.codeIn K cd7 "fraction"=true)(k7:PySem.W.keepIn K (.ref f7)=true)
  {f8:Addr}{od8 an8:Option Addr}{sl8:Array (Option Value)}{oc8 kV8 dc8 pm8 cd8 ct8:Value}
  (a8:PySem.W.nsIn K mainGlobals "figures_of"=some (some (.ref f8)))(l8:K.lookup f8=some ⟨oc8,od8,.func (PySem.W.fnOf "figures_of" "figures_of" (zao zdj) (zan zdj) (zae zdj) .none kV8 dc8 pm8 an8 cd8 ct8),sl8⟩)(c8:PySem.W.codeIn K cd8 "figures_of"=true)(k8:PySem.W.keepIn K (.ref f8)=true)
  {f9:Addr}{od9 an9:Option Addr}{sl9:Array (Option Value)}{oc9 kV9 dc9 pm9 cd9 ct9:Value}
  (a9:PySem.W.nsIn K mainGlobals "written"=some (some (.ref f9)))(l9:K.lookup f9=some ⟨oc9,od9,.func (PySem.W.fnOf "written" "written" (zao zds) (zan zds) (zae zds) .none kV9 dc9 pm9 an9 cd9 ct9),sl9⟩)(c9:PySem.W.codeIn K cd9 "written"=true)(k9:PySem.W.keepIn K (.ref f9)=true)
  {f10:Addr}{od10 an10:Option Addr}{sl10:Array (Option Value)}{oc10 kV10 dc10 pm10 cd10 ct10:Value}
  (a10:PySem.W.nsIn K mainGlobals "number_of"=some (some (.ref f10)))(l10:K.lookup f10=some ⟨oc10,od10,.func (PySem.W.fnOf "number_of" "number_of" (zao zdD) (zan zdD) (zae zdD) .none kV10 dc10 pm10 an10 cd10 ct10),sl10⟩)(c10:PySem.W.codeIn K cd10 "number_of"=true)(k10:PySem.W.keepIn K (.ref f10)=true)
  {f11:Addr}{od11 an11:Option Addr}{sl11:Array (Option Value)}{oc11 kV11 dc11 pm11 cd11 ct11:Value}
  (a11:PySem.W.findIn K (.ref zbg) "bracket"=some (some (.ref f11)))(ii11:PySem.W.isFn K (.ref f11)=true)(l11:K.lookup f11=some ⟨oc11,od11,.func (PySem.W.fnOf "bracket" "Reader.bracket" (zao zc2) (zan zc2) (zae zc2) .none kV11 dc11 pm11 an11 cd11 ct11),sl11⟩)(c11:PySem.W.codeIn K cd11 "Reader.bracket"=true)(k11:PySem.W.keepIn K (.ref f11)=true)
  {f12:Addr}{od12 an12:Option Addr}{sl12:Array (Option Value)}{oc12 kV12 dc12 pm12 cd12 ct12:Value}
  (a12:PySem.W.findIn K (.ref zbg) "atom"=some (some (.ref f12)))(ii12:PySem.W.isFn K (.ref f12)=true)(l12:K.lookup f12=some ⟨oc12,od12,.func (PySem.W.fnOf "atom" "Reader.atom" (zao zc1) (zan zc1) (zae zc1) .none kV12 dc12 pm12 an12 cd12 ct12),sl12⟩)(c12:PySem.W.codeIn K cd12 "Reader.atom"=true)(k12:PySem.W.keepIn K (.ref f12)=true)
  {f13:Addr}{od13 an13:Option Addr}{sl13:Array (Option Value)}{oc13 kV13 dc13 pm13 cd13 ct13:Value}
  (a13:PySem.W.findIn K (.ref zbg) "sees"=some (some (.ref f13)))(ii13:PySem.W.isFn K (.ref f13)=true)(l13:K.lookup f13=some ⟨oc13,od13,.func (PySem.W.fnOf "sees" "Reader.sees" (zao zdm) (zan zdm) (zae zdm) .none kV13 dc13 pm13 an13 cd13 ct13),sl13⟩)(c13:PySem.W.codeIn K cd13 "Reader.sees"=true)(k13:PySem.W.keepIn K (.ref f13)=true)
  {f14:Addr}{od14 an14:Option Addr}{sl14:Array (Option Value)}{oc14 kV14 dc14 pm14 cd14 ct14:Value}
  (a14:PySem.W.findIn K (.ref zbg) "factor"=some (some (.ref f14)))(ii14:PySem.W.isFn K (.ref f14)=true)(l14:K.lookup f14=some ⟨oc14,od14,.func (PySem.W.fnOf "factor" "Reader.factor" (zao zcF) (zan zcF) (zae zcF) .none kV14 dc14 pm14 an14 cd14 ct14),sl14⟩)(c14:PySem.W.codeIn K cd14 "Reader.factor"=true)(k14:PySem.W.keepIn K (.ref f14)=true)
  {f15:Addr}{od15 an15:Option Addr}{sl15:Array (Option Value)}{oc15 kV15 dc15 pm15 cd15 ct15:Value}
  (a15:PySem.W.findIn K (.ref zbg) "term"=some (some (.ref f15)))(ii15:PySem.W.isFn K (.ref f15)=true)(l15:K.lookup f15=some ⟨oc15,od15,.func (PySem.W.fnOf "term" "Reader.term" (zao zcG) (zan zcG) (zae zcG) .none kV15 dc15 pm15 an15 cd15 ct15),sl15⟩)(c15:PySem.W.codeIn K cd15 "Reader.term"=true)(k15:PySem.W.keepIn K (.ref f15)=true)
  {f16:Addr}{od16 an16:Option Addr}{sl16:Array (Option Value)}{oc16 kV16 dc16 pm16 cd16 ct16:Value}
  (a16:PySem.W.findIn K (.ref zbg) "expression"=some (some (.ref f16)))(ii16:PySem.W.isFn K (.ref f16)=true)(l16:K.lookup f16=some ⟨oc16,od16,.func (PySem.W.fnOf "expression" "Reader.expression" (zao zcT) (zan zcT) (zae zcT) .none kV16 dc16 pm16 an16 cd16 ct16),sl16⟩)(c16:PySem.W.codeIn K cd16 "Reader.expression"=true)(k16:PySem.W.keepIn K (.ref f16)=true)
  {f17:Addr}{od17 an17:Option Addr}{sl17:Array (Option Value)}{oc17 kV17 dc17 pm17 cd17 ct17:Value}
  (a17:PySem.W.nsIn K mainGlobals "tree_of"=some (some (.ref f17)))(l17:K.lookup f17=some ⟨oc17,od17,.func (PySem.W.fnOf "tree_of" "tree_of" (zao zdG) (zan zdG) (zae zdG) .none kV17 dc17 pm17 an17 cd17 ct17),sl17⟩)(c17:PySem.W.codeIn K cd17 "tree_of"=true)(k17:PySem.W.keepIn K (.ref f17)=true)
  {f18:Addr}{od18 an18:Option Addr}{sl18:Array (Option Value)}{oc18 kV18 dc18 pm18 cd18 ct18:Value}
  (a18:PySem.W.nsIn K mainGlobals "_law_refused"=some (some (.ref f18)))(l18:K.lookup f18=some ⟨oc18,od18,.func (PySem.W.fnOf "_law_refused" "_law_refused" (zao zdW) (zan zdW) (zae zdW) .none kV18 dc18 pm18 an18 cd18 ct18),sl18⟩)(c18:PySem.W.codeIn K cd18 "_law_refused"=true)(k18:PySem.W.keepIn K (.ref f18)=true)
  {f19:Addr}{od19 an19:Option Addr}{sl19:Array (Option Value)}{oc19 kV19 dc19 pm19 cd19 ct19:Value}
  (a19:PySem.W.nsIn K mainGlobals "_law_whole"=some (some (.ref f19)))(l19:K.lookup f19=some ⟨oc19,od19,.func (PySem.W.fnOf "_law_whole" "_law_whole" (zao zdV) (zan zdV) (zae zdV) .none kV19 dc19 pm19 an19 cd19 ct19),sl19⟩)(c19:PySem.W.codeIn K cd19 "_law_whole"=true)(k19:PySem.W.keepIn K (.ref f19)=true)
  {f20:Addr}{od20 an20:Option Addr}{sl20:Array (Option Value)}{oc20 kV20 dc20 pm20 cd20 ct20:Value}
  (a20:PySem.W.nsIn K mainGlobals "_law_alike"=some (some (.ref f20)))(l20:K.lookup f20=some ⟨oc20,od20,.func (PySem.W.fnOf "_law_alike" "_law_alike" (zao zcV) (zan zcV) (zae zcV) .none kV20 dc20 pm20 an20 cd20 ct20),sl20⟩)(c20:PySem.W.codeIn K cd20 "_law_alike"=true)(k20:PySem.W.keepIn K (.ref f20)=true)
  {f21:Addr}{od21 an21:Option Addr}{sl21:Array (Option Value)}{oc21 kV21 dc21 pm21 cd21 ct21:Value}
  (a21:PySem.W.nsIn K mainGlobals "_law_edges"=some (some (.ref f21)))(l21:K.lookup f21=some ⟨oc21,od21,.func (PySem.W.fnOf "_law_edges" "_law_edges" (zao zdd) (zan zdd) (zae zdd) .none kV21 dc21 pm21 an21 cd21 ct21),sl21⟩)(c21:PySem.W.codeIn K cd21 "_law_edges"=true)(k21:PySem.W.keepIn K (.ref f21)=true)
  {f22:Addr}{od22 an22:Option Addr}{sl22:Array (Option Value)}{oc22 kV22 dc22 pm22 cd22 ct22:Value}
  (a22:PySem.W.nsIn K mainGlobals "_law_atom"=some (some (.ref f22)))(l22:K.lookup f22=some ⟨oc22,od22,.func (PySem.W.fnOf "_law_atom" "_law_atom" (zao zcH) (zan zcH) (zae zcH) .none kV22 dc22 pm22 an22 cd22 ct22),sl22⟩)(c22:PySem.W.codeIn K cd22 "_law_atom"=true)(k22:PySem.W.keepIn K (.ref f22)=true)
  {f23:Addr}{od23 an23:Option Addr}{sl23:Array (Option Value)}{oc23 kV23 dc23 pm23 cd23 ct23:Value}
  (a23:PySem.W.nsIn K mainGlobals "_law_shut"=some (some (.ref f23)))(l23:K.lookup f23=some ⟨oc23,od23,.func (PySem.W.fnOf "_law_shut" "_law_shut" (zao zdy) (zan zdy) (zae zdy) .none kV23 dc23 pm23 an23 cd23 ct23),sl23⟩)(c23:PySem.W.codeIn K cd23 "_law_shut"=true)(k23:PySem.W.keepIn K (.ref f23)=true)
  {f24:Addr}{od24 an24:Option Addr}{sl24:Array (Option Value)}{oc24 kV24 dc24 pm24 cd24 ct24:Value}
  (a24:PySem.W.nsIn K mainGlobals "_law_fits"=some (some (.ref f24)))(l24:K.lookup f24=some ⟨oc24,od24,.func (PySem.W.fnOf "_law_fits" "_law_fits" (zao zdi) (zan zdi) (zae zdi) .none kV24 dc24 pm24 an24 cd24 ct24),sl24⟩)(c24:PySem.W.codeIn K cd24 "_law_fits"=true)(k24:PySem.W.keepIn K (.ref f24)=true)
  {f25:Addr}{od25 an25:Option Addr}{sl25:Array (Option Value)}{oc25 kV25 dc25 pm25 cd25 ct25:Value}
  (a25:PySem.W.nsIn K mainGlobals "_law_at_least"=some (some (.ref f25)))(l25:K.lookup f25=some ⟨oc25,od25,.func (PySem.W.fnOf "_law_at_least" "_law_at_least" (zao zdF) (zan zdF) (zae zdF) .none kV25 dc25 pm25 an25 cd25 ct25),sl25⟩)(c25:PySem.W.codeIn K cd25 "_law_at_least"=true)(k25:PySem.W.keepIn K (.ref f25)=true)
  {f26:Addr}{od26 an26:Option Addr}{sl26:Array (Option Value)}{oc26 kV26 dc26 pm26 cd26 ct26:Value}
  (a26:PySem.W.nsIn K mainGlobals "_law_raised"=some (some (.ref f26)))(l26:K.lookup f26=some ⟨oc26,od26,.func (PySem.W.fnOf "_law_raised" "_law_raised" (zao zc8) (zan zc8) (zae zc8) .none kV26 dc26 pm26 an26 cd26 ct26),sl26⟩)(c26:PySem.W.codeIn K cd26 "_law_raised"=true)(k26:PySem.W.keepIn K (.ref f26)=true)
  {f27:Addr}{od27 an27:Option Addr}{sl27:Array (Option Value)}{oc27 kV27 dc27 pm27 cd27 ct27:Value}
  (a27:PySem.W.nsIn K mainGlobals "_law_joined"=some (some (.ref f27)))(l27:K.lookup f27=some ⟨oc27,od27,.func (PySem.W.fnOf "_law_joined" "_law_joined" (zao zdc) (zan zdc) (zae zdc) .none kV27 dc27 pm27 an27 cd27 ct27),sl27⟩)(c27:PySem.W.codeIn K cd27 "_law_joined"=true)(k27:PySem.W.keepIn K (.ref f27)=true)
  {f28:Addr}{od28 an28:Option Addr}{sl28:Array (Option Value)}{oc28 kV28 dc28 pm28 cd28 ct28:Value}
  (a28:PySem.W.nsIn K mainGlobals "_law_grown"=some (some (.ref f28)))(l28:K.lookup f28=some ⟨oc28,od28,.func (PySem.W.fnOf "_law_grown" "_law_grown" (zao zde) (zan zde) (zae zde) .none kV28 dc28 pm28 an28 cd28 ct28),sl28⟩)(c28:PySem.W.codeIn K cd28 "_law_grown"=true)(k28:PySem.W.keepIn K (.ref f28)=true)
  {f29:Addr}{od29 an29:Option Addr}{sl29:Array (Option Value)}{oc29 kV29 dc29 pm29 cd29 ct29:Value}
  (a29:PySem.W.nsIn K mainGlobals "_law_cell_at"=some (some (.ref f29)))(l29:K.lookup f29=some ⟨oc29,od29,.func (PySem.W.fnOf "_law_cell_at" "_law_cell_at" (zao zdS) (zan zdS) (zae zdS) .none kV29 dc29 pm29 an29 cd29 ct29),sl29⟩)(c29:PySem.W.codeIn K cd29 "_law_cell_at"=true)(k29:PySem.W.keepIn K (.ref f29)=true)
  {f30:Addr}{od30 an30:Option Addr}{sl30:Array (Option Value)}{oc30 kV30 dc30 pm30 cd30 ct30:Value}
  (a30:PySem.W.nsIn K mainGlobals "_law_no_atom"=some (some (.ref f30)))(l30:K.lookup f30=some ⟨oc30,od30,.func (PySem.W.fnOf "_law_no_atom" "_law_no_atom" (zao zdK) (zan zdK) (zae zdK) .none kV30 dc30 pm30 an30 cd30 ct30),sl30⟩)(c30:PySem.W.codeIn K cd30 "_law_no_atom"=true)(k30:PySem.W.keepIn K (.ref f30)=true)
  {f31:Addr}{od31 an31:Option Addr}{sl31:Array (Option Value)}{oc31 kV31 dc31 pm31 cd31 ct31:Value}
  (a31:PySem.W.nsIn K mainGlobals "law"=some (some (.ref f31)))(l31:K.lookup f31=some ⟨oc31,od31,.func (PySem.W.fnOf "law" "law" (zao zca) (zan zca) (zae zca) .none kV31 dc31 pm31 an31 cd31 ct31),sl31⟩)(c31:PySem.W.codeIn K cd31 "law"=true)(k31:PySem.W.keepIn K (.ref f31)=true)
  {ga_KEPT_WORDS:Addr}{gn_KEPT_WORDS:Nat}{go_KEPT_WORDS:Option Addr}{gs_KEPT_WORDS:Array (Option Value)}{w0_KEPT_WORDS w1_KEPT_WORDS w2_KEPT_WORDS w3_KEPT_WORDS w4_KEPT_WORDS w5_KEPT_WORDS w6_KEPT_WORDS w7_KEPT_WORDS w8_KEPT_WORDS w9_KEPT_WORDS:Tok}(g_KEPT_WORDS:PySem.W.nsIn K mainGlobals "KEPT_WORDS"=some (some (.ref ga_KEPT_WORDS)))(gl_KEPT_WORDS:K.lookup ga_KEPT_WORDS=some ⟨.type "tuple",go_KEPT_WORDS,.seq #[.str "let" w0_KEPT_WORDS,.str "in" w1_KEPT_WORDS,.str "grid" w2_KEPT_WORDS,.str "fine" w3_KEPT_WORDS,.str "looks" w4_KEPT_WORDS,.str "solve" w5_KEPT_WORDS,.str "boxes" w6_KEPT_WORDS,.str "point" w7_KEPT_WORDS,.str "right" w8_KEPT_WORDS,.str "islands" w9_KEPT_WORDS] gn_KEPT_WORDS,gs_KEPT_WORDS⟩)
  {t_MOST_LETTERS:Tok}(g_MOST_LETTERS:PySem.W.nsIn K mainGlobals "MOST_LETTERS"=some (some (.int 8 t_MOST_LETTERS)))
  {t_LETTERS:Tok}(g_LETTERS:PySem.W.nsIn K mainGlobals "LETTERS"=some (some (.str "abcdefghijklmnopqrstuvwxyz" t_LETTERS)))
  {t_MOST_FIGURES:Tok}(g_MOST_FIGURES:PySem.W.nsIn K mainGlobals "MOST_FIGURES"=some (some (.int 9 t_MOST_FIGURES)))
  {t_FIGURES:Tok}(g_FIGURES:PySem.W.nsIn K mainGlobals "FIGURES"=some (some (.str "0123456789" t_FIGURES)))
  {t_MOST_BRACKETS:Tok}(g_MOST_BRACKETS:PySem.W.nsIn K mainGlobals "MOST_BRACKETS"=some (some (.int 16 t_MOST_BRACKETS)))
  {ga_POWERS:Addr}{gn_POWERS:Nat}{go_POWERS:Option Addr}{gs_POWERS:Array (Option Value)}{w0_POWERS w1_POWERS w2_POWERS w3_POWERS w4_POWERS:Tok}(g_POWERS:PySem.W.nsIn K mainGlobals "POWERS"=some (some (.ref ga_POWERS)))(gl_POWERS:K.lookup ga_POWERS=some ⟨.type "tuple",go_POWERS,.seq #[.str "2" w0_POWERS,.str "3" w1_POWERS,.str "4" w2_POWERS,.str "5" w3_POWERS,.str "6" w4_POWERS] gn_POWERS,gs_POWERS⟩)
  {ga_SUMS:Addr}{gn_SUMS:Nat}{w0_SUMS v0_SUMS w1_SUMS v1_SUMS:Tok}(g_SUMS:PySem.W.nsIn K mainGlobals "SUMS"=some (some (.ref ga_SUMS)))(gl_SUMS:K.lookup ga_SUMS=some ⟨.type "dict",none,.dict #[⟨zfZ w (.inr "+"),.str "+" w0_SUMS,.str "plus" v0_SUMS⟩,⟨zfZ w (.inr "-"),.str "-" w1_SUMS,.str "minus" v1_SUMS⟩] gn_SUMS,#[]⟩)
  {t_MOST_WORDS:Tok}(g_MOST_WORDS:PySem.W.nsIn K mainGlobals "MOST_WORDS"=some (some (.int 120 t_MOST_WORDS)))
  (zaF:PySem.W.nsIn K mainGlobals "len"=some none)
  (zdh:PySem.W.nsIn K mainGlobals "all"=some none)
  (za2:PySem.W.nsIn K mainGlobals "isinstance"=some none)
  (zcd:PySem.W.nsIn K mainGlobals "bool"=some none)
  (zaZ:PySem.W.nsIn K mainGlobals "int"=some none)
  (zb9:PySem.W.nsIn K mainGlobals "abs"=some none)
  (zdO:PySem.W.nsIn K mainGlobals "reversed"=some none)
  (za4:PySem.W.nsIn K mainGlobals "str"=some none)
  (zcc:PySem.W.nsIn K mainGlobals "tuple"=some none)
  (zbK:PySem.W.nsIn K mainGlobals "range"=some none)
  (zdM:PySem.W.nsIn K mainGlobals "max"=some none)
  (zdC:PySem.W.nsIn K mainGlobals "list"=some none)
  (zcY:Kit K "bool")
  (zcJ:Kit K "int")
  (zc0:Kit K "str")
  (zcX:Kit K "tuple")
  {e_NoRow:Addr}(n_NoRow:PySem.W.nsIn K mainGlobals "NoRow"=some (some (.ref e_NoRow)))(x_NoRow:PySem.W.excIn K e_NoRow VE "ValueError.__new__"=true)
  {e_NoNumber:Addr}(n_NoNumber:PySem.W.nsIn K mainGlobals "NoNumber"=some (some (.ref e_NoNumber)))(x_NoNumber:PySem.W.excIn K e_NoNumber VE "ValueError.__new__"=true)
  {e_BoxError:Addr}(n_BoxError:PySem.W.nsIn K mainGlobals "BoxError"=some (some (.ref e_BoxError)))(x_BoxError:PySem.W.excIn K e_BoxError VE "ValueError.__new__"=true)
  (s_NoRow_BoxError:PySem.W.exmOne K (.ref e_NoRow) (.ref e_BoxError)=some true)
  (iB_NoRow_NoRow:PySem.W.kitOne K (.ref e_NoRow) (.ref e_NoRow)=some true)
  (nxga_NoRow:PySem.W.findIn K (.ref e_NoRow) "__getattribute__"=some (some (.builtin "BaseException.__getattribute__")))(nxhk_NoRow:PySem.W.findIn K (.ref e_NoRow) "__getattr__"=some none)(nxha_NoRow:PySem.W.findIn K (.ref e_NoRow) "__class__"=some (some (.builtin "object.__class__")))(nxhm_NoRow:PySem.W.mroIn K e_NoRow (.type "object")=some true)(nxhb_NoRow:PySem.W.mroIn K e_NoRow (.type "BaseException")=some true)
  (nxhn:PySem.W.specialIn K (.builtin "object.__class__") "__get__"=some (some (.builtin "getset_descriptor.__get__")))(nxht:PySem.W.takesIn K (.builtin "object.__class__")=some true)
  :∃fd:FuncData,(∀(s:Shared) (v:Value),BindsTo s fd ⟨[v],[]⟩ [("_law_script",v)])∧∀base:Heap,K.In base→base.Ns mainGlobals mg→zaO l.prog w K mg base (CXE l.prog w) 133 fa fd ["_law_script"] (upF K zfk):=by
 have e:=hfa.symm.trans (PySem.W.mg_of X G a31)
 cases e
 let zab:zbG K mg:=⟨zbg,PySem.W.mg_of X G zha,⟨zhz,zhV,zgS,zhQ⟩,zhn,zhW,zhh,zhA,zhl⟩
 let zhC:Dm K zab.C "__init__" "Reader.__init__" zdk zgq:=⟨_,_,zaq (st:=zdk) l0 c0 k0,⟨a0,ii0,k0⟩,(zaq (st:=zdk) l0 c0 k0).binds λ_ _ _ _ _ _ us hl=>match us,hl with | [_,_],_=>rfl⟩
 let zhy:Dm K zab.C "at_end" "Reader.at_end" zdR zd4:=⟨_,_,zaq (st:=zdR) l1 c1 k1,⟨a1,ii1,k1⟩,(zaq (st:=zdR) l1 c1 k1).binds λ_ _ _ _ _ _ us hl=>match us,hl with | [_],_=>rfl⟩
 let zh8:Dm K zab.C "take" "Reader.take" zc9 zcA:=⟨_,_,zaq (st:=zc9) l2 c2 k2,⟨a2,ii2,k2⟩,(zaq (st:=zc9) l2 c2 k2).binds λ_ _ _ _ _ _ us hl=>match us,hl with | [_],_=>rfl⟩
 let zhE:Df K mg "made_of" zcM zeL:=⟨_,_,zaq (st:=zcM) l3 c3 k3,PySem.W.mg_of X G a3,(zaq (st:=zcM) l3 c3 k3).binds λ_ _ _ _ _ _ us hl=>match us,hl with | [_,_,_],_=>rfl⟩
 let zin:Df K mg "is_name" zc4 zeB:=⟨_,_,zaq (st:=zc4) l4 c4 k4,PySem.W.mg_of X G a4,(zaq (st:=zc4) l4 c4 k4).binds λ_ _ _ _ _ _ us hl=>match us,hl with | [_],_=>rfl⟩
 let zib:Df K mg "greatest_divisor" zdN zge:=⟨_,_,zaq (st:=zdN) l5 c5 k5,PySem.W.mg_of X G a5,(zaq (st:=zdN) l5 c5 k5).binds λ_ _ _ _ _ _ us hl=>match us,hl with | [_,_],_=>rfl⟩
 let zh5:Df K mg "is_whole" zdl zf9:=⟨_,_,zaq (st:=zdl) l6 c6 k6,PySem.W.mg_of X G a6,(zaq (st:=zdl) l6 c6 k6).binds λ_ _ _ _ _ _ us hl=>match us,hl with | [_],_=>rfl⟩
 let zhs:Df K mg "fraction" zdr zgx:=⟨_,_,zaq (st:=zdr) l7 c7 k7,PySem.W.mg_of X G a7,(zaq (st:=zdr) l7 c7 k7).binds λ_ _ _ _ _ _ us hl=>match us,hl with | [_,_],_=>rfl⟩
 let zh0:Df K mg "figures_of" zdj zgC:=⟨_,_,zaq (st:=zdj) l8 c8 k8,PySem.W.mg_of X G a8,(zaq (st:=zdj) l8 c8 k8).binds λ_ _ _ _ _ _ us hl=>match us,hl with | [_],_=>rfl⟩
 let zgZ:Df K mg "written" zds zgb:=⟨_,_,zaq (st:=zds) l9 c9 k9,PySem.W.mg_of X G a9,(zaq (st:=zds) l9 c9 k9).binds λ_ _ _ _ _ _ us hl=>match us,hl with | [_],_=>rfl⟩
 let zij:Df K mg "number_of" zdD zfo:=⟨_,_,zaq (st:=zdD) l10 c10 k10,PySem.W.mg_of X G a10,(zaq (st:=zdD) l10 c10 k10).binds λ_ _ _ _ _ _ us hl=>match us,hl with | [_],_=>rfl⟩
 let zen:Dm K zab.C "bracket" "Reader.bracket" zc2 zeQ:=⟨_,_,zaq (st:=zc2) l11 c11 k11,⟨a11,ii11,k11⟩,(zaq (st:=zc2) l11 c11 k11).binds λ_ _ _ _ _ _ us hl=>match us,hl with | [_],_=>rfl⟩
 let zeg:Dm K zab.C "atom" "Reader.atom" zc1 ze3:=⟨_,_,zaq (st:=zc1) l12 c12 k12,⟨a12,ii12,k12⟩,(zaq (st:=zc1) l12 c12 k12).binds λ_ _ _ _ _ _ us hl=>match us,hl with | [_],_=>rfl⟩
 let zhY:Dm K zab.C "sees" "Reader.sees" zdm zdB:=⟨_,_,zaq (st:=zdm) l13 c13 k13,⟨a13,ii13,k13⟩,(zaq (st:=zdm) l13 c13 k13).binds λ_ _ _ _ _ _ us hl=>match us,hl with | [_,_],_=>rfl⟩
 let zem:Dm K zab.C "factor" "Reader.factor" zcF ze1:=⟨_,_,zaq (st:=zcF) l14 c14 k14,⟨a14,ii14,k14⟩,(zaq (st:=zcF) l14 c14 k14).binds λ_ _ _ _ _ _ us hl=>match us,hl with | [_],_=>rfl⟩
 let zeh:Dm K zab.C "term" "Reader.term" zcG zeG:=⟨_,_,zaq (st:=zcG) l15 c15 k15,⟨a15,ii15,k15⟩,(zaq (st:=zcG) l15 c15 k15).binds λ_ _ _ _ _ _ us hl=>match us,hl with | [_],_=>rfl⟩
 let zdL:Dm K zab.C "expression" "Reader.expression" zcT zdA:=⟨_,_,zaq (st:=zcT) l16 c16 k16,⟨a16,ii16,k16⟩,(zaq (st:=zcT) l16 c16 k16).binds λ_ _ _ _ _ _ us hl=>match us,hl with | [_],_=>rfl⟩
 let zh6:Df K mg "tree_of" zdG zdY:=⟨_,_,zaq (st:=zdG) l17 c17 k17,PySem.W.mg_of X G a17,(zaq (st:=zdG) l17 c17 k17).binds λ_ _ _ _ _ _ us hl=>match us,hl with | [_],_=>rfl⟩
 let zil:Df K mg "_law_refused" zdW zfi:=⟨_,_,zaq (st:=zdW) l18 c18 k18,PySem.W.mg_of X G a18,(zaq (st:=zdW) l18 c18 k18).binds λ_ _ _ _ _ _ us hl=>match us,hl with | [_],_=>rfl⟩
 let zgV:Df K mg "_law_whole" zdV zeu:=⟨_,_,zaq (st:=zdV) l19 c19 k19,PySem.W.mg_of X G a19,(zaq (st:=zdV) l19 c19 k19).binds λ_ _ _ _ _ _ us hl=>match us,hl with | [_],_=>rfl⟩
 let zc6:Df K mg "_law_alike" zcV zcQ:=⟨_,_,zaq (st:=zcV) l20 c20 k20,PySem.W.mg_of X G a20,(zaq (st:=zcV) l20 c20 k20).binds λ_ _ _ _ _ _ us hl=>match us,hl with | [_,_],_=>rfl⟩
 let zhL:Df K mg "_law_edges" zdd zgA:=⟨_,_,zaq (st:=zdd) l21 c21 k21,PySem.W.mg_of X G a21,(zaq (st:=zdd) l21 c21 k21).binds λ_ _ _ _ _ _ us hl=>match us,hl with | [_],_=>rfl⟩
 let zhq:Df K mg "_law_atom" zcH zfr:=⟨_,_,zaq (st:=zcH) l22 c22 k22,PySem.W.mg_of X G a22,(zaq (st:=zcH) l22 c22 k22).binds λ_ _ _ _ _ _ us hl=>match us,hl with | [_],_=>rfl⟩
 let zgK:Df K mg "_law_shut" zdy zff:=⟨_,_,zaq (st:=zdy) l23 c23 k23,PySem.W.mg_of X G a23,(zaq (st:=zdy) l23 c23 k23).binds λ_ _ _ _ _ _ us hl=>match us,hl with | [_],_=>rfl⟩
 let zgT:Df K mg "_law_fits" zdi zeC:=⟨_,_,zaq (st:=zdi) l24 c24 k24,PySem.W.mg_of X G a24,(zaq (st:=zdi) l24 c24 k24).binds λ_ _ _ _ _ _ us hl=>match us,hl with | [_],_=>rfl⟩
 let zit:Df K mg "_law_at_least" zdF zeF:=⟨_,_,zaq (st:=zdF) l25 c25 k25,PySem.W.mg_of X G a25,(zaq (st:=zdF) l25 c25 k25).binds λ_ _ _ _ _ _ us hl=>match us,hl with | [_,_],_=>rfl⟩
 let zir:Df K mg "_law_raised" zc8 zfT:=⟨_,_,zaq (st:=zc8) l26 c26 k26,PySem.W.mg_of X G a26,(zaq (st:=zc8) l26 c26 k26).binds λ_ _ _ _ _ _ us hl=>match us,hl with | [_,_],_=>rfl⟩
 let zif:Df K mg "_law_joined" zdc zfv:=⟨_,_,zaq (st:=zdc) l27 c27 k27,PySem.W.mg_of X G a27,(zaq (st:=zdc) l27 c27 k27).binds λ_ _ _ _ _ _ us hl=>match us,hl with | [_,_,_],_=>rfl⟩
 let zic:Df K mg "_law_grown" zde zgi:=⟨_,_,zaq (st:=zde) l28 c28 k28,PySem.W.mg_of X G a28,(zaq (st:=zde) l28 c28 k28).binds λ_ _ _ _ _ _ us hl=>match us,hl with | [_,_],_=>rfl⟩
 let zgP:Df K mg "_law_cell_at" zdS zf7:=⟨_,_,zaq (st:=zdS) l29 c29 k29,PySem.W.mg_of X G a29,(zaq (st:=zdS) l29 c29 k29).binds λ_ _ _ _ _ _ us hl=>match us,hl with | [_,_],_=>rfl⟩
 let zhZ:Df K mg "_law_no_atom" zdK zgE:=⟨_,_,zaq (st:=zdK) l30 c30 k30,PySem.W.mg_of X G a30,(zaq (st:=zdK) l30 c30 k30).binds λ_ _ _ _ _ _ us hl=>match us,hl with | [_],_=>rfl⟩
 let zia:Df K mg "law" zca zhB:=⟨_,_,zaq (st:=zca) l31 c31 k31,PySem.W.mg_of X G a31,(zaq (st:=zca) l31 c31 k31).binds λ_ _ _ _ _ _ us hl=>match us,hl with | [_],_=>rfl⟩
 have zaF:=PySem.W.mg_none_of X G zaF
 have zdh:=PySem.W.mg_none_of X G zdh
 have za2:=PySem.W.mg_none_of X G za2
 have zcd:=PySem.W.mg_none_of X G zcd
 have zaZ:=PySem.W.mg_none_of X G zaZ
 have zb9:=PySem.W.mg_none_of X G zb9
 have zdO:=PySem.W.mg_none_of X G zdO
 have za4:=PySem.W.mg_none_of X G za4
 have zcc:=PySem.W.mg_none_of X G zcc
 have zbK:=PySem.W.mg_none_of X G zbK
 have zdM:=PySem.W.mg_none_of X G zdM
 have zdC:=PySem.W.mg_none_of X G zdC
 have g_KEPT_WORDS:GT K mg "KEPT_WORDS" ["let","in","grid","fine","looks","solve","boxes","point","right","islands"]:=⟨ga_KEPT_WORDS,_,_,_,PySem.W.mg_of X G g_KEPT_WORDS,gl_KEPT_WORDS,rfl,rfl,(show 10≤sizeLine from zbF (by decide)),(.cons ⟨_,rfl⟩ (.cons ⟨_,rfl⟩ (.cons ⟨_,rfl⟩ (.cons ⟨_,rfl⟩ (.cons ⟨_,rfl⟩ (.cons ⟨_,rfl⟩ (.cons ⟨_,rfl⟩ (.cons ⟨_,rfl⟩ (.cons ⟨_,rfl⟩ (.cons ⟨_,rfl⟩ .nil))))))))))⟩
 have g_MOST_LETTERS:=PySem.W.mg_of X G g_MOST_LETTERS
 have g_LETTERS:=PySem.W.mg_of X G g_LETTERS
 have g_MOST_FIGURES:=PySem.W.mg_of X G g_MOST_FIGURES
 have g_FIGURES:=PySem.W.mg_of X G g_FIGURES
 have g_MOST_BRACKETS:=PySem.W.mg_of X G g_MOST_BRACKETS
 have g_POWERS:GT K mg "POWERS" ["2","3","4","5","6"]:=⟨ga_POWERS,_,_,_,PySem.W.mg_of X G g_POWERS,gl_POWERS,rfl,rfl,(show 5≤sizeLine from zbF (by decide)),(.cons ⟨_,rfl⟩ (.cons ⟨_,rfl⟩ (.cons ⟨_,rfl⟩ (.cons ⟨_,rfl⟩ (.cons ⟨_,rfl⟩ .nil)))))⟩
 have g_SUMS:GD l.prog w K mg "SUMS" _:=zoY (PySem.W.mg_of X G g_SUMS) gl_SUMS ⟨rfl,rfl,rfl⟩ rfl (by decide)
 have g_MOST_WORDS:=PySem.W.mg_of X G g_MOST_WORDS
 let zam:Ec K mg "NoRow":=⟨e_NoRow,PySem.W.mg_of X G n_NoRow,x_NoRow⟩
 let zas:Ec K mg "NoNumber":=⟨e_NoNumber,PySem.W.mg_of X G n_NoNumber,x_NoNumber⟩
 let zhj:Ec K mg "BoxError":=⟨e_BoxError,PySem.W.mg_of X G n_BoxError,x_BoxError⟩
 have nx_NoRow:Nx K zam.c:=⟨nxga_NoRow,nxhk_NoRow,nxha_NoRow,nxhn,nxht,nxhm_NoRow,nxhb_NoRow⟩
 refine⟨PySem.W.fnOf "law" "law" (zao zca) (zan zca) (zae zca) .none kV31 dc31 pm31 an31 cd31 ct31,λs v=>.of_eq rfl,λbase _ _=>?_⟩
 let ze9:=zn3 (P:=l.prog) (w:=w) (base:=base) zab zhC
 let zbD:=zrC (P:=l.prog) (w:=w) (base:=base) zab zhy zaF
 let zaQ:=zov (P:=l.prog) (w:=w) (base:=base) zab zh8 zam zbD
 let zet:=zmQ (P:=l.prog) (w:=w) (base:=base) zhE zdh zaF
 let zfw:=zpd (P:=l.prog) (w:=w) (base:=base) zin zet g_KEPT_WORDS g_MOST_LETTERS g_LETTERS
 let zjg:=zmp (P:=l.prog) (w:=w) (base:=base) zib
 let zg6:=zq2 (P:=l.prog) (w:=w) (base:=base) zh5 za2 zcd zaZ zcY zcJ
 let zju:=zoW (P:=l.prog) (w:=w) (base:=base) zhs zas zjg zg6 zb9
 let zg8:=zms (P:=l.prog) (w:=w) (base:=base) zh0 zdO za4
 let zjI:=znf (P:=l.prog) (w:=w) (base:=base) zgZ zg8 zb9
 let zfj:=zrK (P:=l.prog) (w:=w) (base:=base) zij zam zas zjI zju zet g_MOST_FIGURES g_FIGURES zaZ
 let zbc:=znk (P:=l.prog) (w:=w) (base:=base) zab zhY zbD
 let zci:=zkI (P:=l.prog) (w:=w) (base:=base) zab zam zas zen zaQ g_MOST_BRACKETS zeg zfj zfw zem zbc g_POWERS zaZ zeh zdL g_SUMS 17
 let zcC:=zr8 (P:=l.prog) (w:=w) (base:=base) zab zh6 zam zas zbD zci ze9 g_MOST_WORDS zaF
 let zcq:=zsz (P:=l.prog) (w:=w) (base:=base) zab zil zam zhj zas zcC za2 nx_NoRow iB_NoRow_NoRow s_NoRow_BoxError
 let zdP:=znR (P:=l.prog) (w:=w) (base:=base) zgV za2 zcd zaZ zcY zcJ
 let zbY:=zkT (P:=l.prog) (w:=w) (base:=base) zc6 zdP za2 za4 zaF zcc zc0 zcX 130
 let ziX:=zsf (P:=l.prog) (w:=w) (base:=base) zab zhL zam zas zcq zbY zcC zbK
 let zd6:=znA (P:=l.prog) (w:=w) (base:=base) zhq zbK za4
 let zey:=znm (P:=l.prog) (w:=w) (base:=base) zgK
 let zfb:=zqT (P:=l.prog) (w:=w) (base:=base) zgT zaF
 let zdZ:=zpB (P:=l.prog) (w:=w) (base:=base) zit zey
 let ziI:=zqc (P:=l.prog) (w:=w) (base:=base) zir zdZ za4
 let zeJ:=zpC (P:=l.prog) (w:=w) (base:=base) zif zdZ zdM zaZ
 let ziT:=zrF (P:=l.prog) (w:=w) (base:=base) zic zfb zey ziI zd6 zeJ zaF
 let zdf:=zo6 (P:=l.prog) (w:=w) (base:=base) zgP zaF
 let zjq:=zqS (P:=l.prog) (w:=w) (base:=base) zhZ
 let G_law:=zrA (P:=l.prog) (w:=w) (base:=base) zab zia zam zas ziX zdf zcq zjq zbY zcC zfb zeJ ziT zd6 zaF zbK zdC
 exact G_law.ok
end Mine
open PySem PySem.W PyProof.Rows
set_option maxRecDepth 100003 in
set_option maxHeartbeats 0 in
theorem PySem.Challenge.cw_boxnarrow_k13_trees_of_words_holds : PySem.Challenge.rw_boxnarrow_k13_trees_of_words.Holds := by
 w_on; o_law
 refine PySem.W.holds_open (q:=Mine.vw) (loose:=[PySem.Str.ofString "SUMS"]) (Xt:=Mine.xt) (XP:=XL Mine.vw []) (Yf:=Hook.obs (kHook Mine.kp Mine.ks Mine.zfp)) (Ya:=Hook.val (kHook Mine.kp Mine.ks Mine.zfp))
  (YP:=Hook.says (kHook Mine.kp Mine.ks Mine.zfp)) (N:=4042) Mine.left (Hook.of (kHook Mine.kp Mine.ks Mine.zfp)) (Hook.keeps (kHook Mine.kp Mine.ks Mine.zfp)) (λs e=>xl_of s (Bool.and_eq_true_iff.mp e).1) XL.keeps
  (by rfl) (by rfl) (by rfl) (λs e=>recFacts_of (Bool.and_eq_true_iff.mp e).2) (by rfl) (by first | assumption | decide +kernel)
  (by decide +kernel) ⟨rfl,rfl,rfl,rfl,rfl,by decide +kernel⟩ ?hw ?hc
 (case hw=>w_witness2)
 k_fill
 refine L3.zss (l:=PySem.Challenge.rw_boxnarrow_k13_trees_of_words) (x:="_law_script") 133 rfl rfl ⟨rfl,by decide,by decide⟩ (λw h Y=>PySem.W.kIn_of Y) ?F
 case F=>
  intro w mg fa h KX G hmg
  refine' Mine.zpU KX G hmg (zha:=?zha) (zhz:=?zhz) (zhV:=?zhV) (zgS:=?zgS) (zhQ:=?zhQ) (zhA:=?zhA) (zhl:=?zhl) (zhn:=?zhn) (zhW:=?zhW) (zhh:=?zhh) (a0:=?a0) (ii0:=?ii0) (l0:=?l0) (c0:=?c0) (k0:=?k0) (a1:=?a1) (ii1:=?ii1) (l1:=?l1) (c1:=?c1) (k1:=?k1) (a2:=?a2) (ii2:=?ii2) (l2:=?l2) (c2:=?c2) (k2:=?k2) (a3:=?a3) (l3:=?l3) (c3:=?c3) (k3:=?k3) (a4:=?a4) (l4:=?l4) (c4:=?c4) (k4:=?k4) (a5:=?a5) (l5:=?l5) (c5:=?c5) (k5:=?k5) (a6:=?a6) (l6:=?l6) (c6:=?c6) (k6:=?k6) (a7:=?a7) (l7:=?l7) (c7:=?c7) (k7:=?k7) (a8:=?a8) (l8:=?l8) (c8:=?c8) (k8:=?k8) (a9:=?a9) (l9:=?l9) (c9:=?c9) (k9:=?k9) (a10:=?a10) (l10:=?l10) (c10:=?c10) (k10:=?k10) (a11:=?a11) (ii11:=?ii11) (l11:=?l11) (c11:=?c11) (k11:=?k11) (a12:=?a12) (ii12:=?ii12) (l12:=?l12) (c12:=?c12) (k12:=?k12) (a13:=?a13) (ii13:=?ii13) (l13:=?l13) (c13:=?c13) (k13:=?k13) (a14:=?a14) (ii14:=?ii14) (l14:=?l14) (c14:=?c14) (k14:=?k14) (a15:=?a15) (ii15:=?ii15) (l15:=?l15) (c15:=?c15) (k15:=?k15) (a16:=?a16) (ii16:=?ii16) (l16:=?l16) (c16:=?c16) (k16:=?k16) (a17:=?a17) (l17:=?l17) (c17:=?c17) (k17:=?k17) (a18:=?a18) (l18:=?l18) (c18:=?c18) (k18:=?k18) (a19:=?a19) (l19:=?l19) (c19:=?c19) (k19:=?k19) (a20:=?a20) (l20:=?l20) (c20:=?c20) (k20:=?k20) (a21:=?a21) (l21:=?l21) (c21:=?c21) (k21:=?k21) (a22:=?a22) (l22:=?l22) (c22:=?c22) (k22:=?k22) (a23:=?a23) (l23:=?l23) (c23:=?c23) (k23:=?k23) (a24:=?a24) (l24:=?l24) (c24:=?c24) (k24:=?k24) (a25:=?a25) (l25:=?l25) (c25:=?c25) (k25:=?k25) (a26:=?a26) (l26:=?l26) (c26:=?c26) (k26:=?k26) (a27:=?a27) (l27:=?l27) (c27:=?c27) (k27:=?k27) (a28:=?a28) (l28:=?l28) (c28:=?c28) (k28:=?k28) (a29:=?a29) (l29:=?l29) (c29:=?c29) (k29:=?k29) (a30:=?a30) (l30:=?l30) (c30:=?c30) (k30:=?k30) (a31:=?a31) (l31:=?l31) (c31:=?c31) (k31:=?k31) (g_KEPT_WORDS:=?g_KEPT_WORDS) (gl_KEPT_WORDS:=?gl_KEPT_WORDS) (g_MOST_LETTERS:=?g_MOST_LETTERS) (g_LETTERS:=?g_LETTERS) (g_MOST_FIGURES:=?g_MOST_FIGURES) (g_FIGURES:=?g_FIGURES) (g_MOST_BRACKETS:=?g_MOST_BRACKETS) (g_POWERS:=?g_POWERS) (gl_POWERS:=?gl_POWERS) (g_SUMS:=?g_SUMS) (gl_SUMS:=?gl_SUMS) (g_MOST_WORDS:=?g_MOST_WORDS) (zaF:=?zaF) (zdh:=?zdh) (za2:=?za2) (zcd:=?zcd) (zaZ:=?zaZ) (zb9:=?zb9) (zdO:=?zdO) (za4:=?za4) (zcc:=?zcc) (zbK:=?zbK) (zdM:=?zdM) (zdC:=?zdC) (n_NoRow:=?n_NoRow) (x_NoRow:=?x_NoRow) (n_NoNumber:=?n_NoNumber) (x_NoNumber:=?x_NoNumber) (n_BoxError:=?n_BoxError) (x_BoxError:=?x_BoxError) (s_NoRow_BoxError:=?s_NoRow_BoxError) (iB_NoRow_NoRow:=?iB_NoRow_NoRow) (nxga_NoRow:=?nxga_NoRow) (nxhk_NoRow:=?nxhk_NoRow) (nxha_NoRow:=?nxha_NoRow) (nxhm_NoRow:=?nxhm_NoRow) (nxhb_NoRow:=?nxhb_NoRow) (nxhn:=?nxhn) (nxht:=?nxht) (zcY:=?zcY) (zcJ:=?zcJ) (zc0:=?zc0) (zcX:=?zcX)
  (case zha=>k_is)
  (case zhz=>k_is)
  (case zhV=>k_is)
  (case zgS=>k_is)
  (case zhQ=>k_is)
  (case zhA=>k_is)
  (case zhl=>k_is)
  (case zhn=>k_is)
  (case zhW=>k_is)
  (case zhh=>k_is)
  (case a0=>k_is)
  (case ii0=>k_is)
  (case l0=>k_is)
  (case c0=>k_is)
  (case k0=>k_is)
  (case a1=>k_is)
  (case ii1=>k_is)
  (case l1=>k_is)
  (case c1=>k_is)
  (case k1=>k_is)
  (case a2=>k_is)
  (case ii2=>k_is)
  (case l2=>k_is)
  (case c2=>k_is)
  (case k2=>k_is)
  (case a3=>k_is)
  (case l3=>k_is)
  (case c3=>k_is)
  (case k3=>k_is)
  (case a4=>k_is)
  (case l4=>k_is)
  (case c4=>k_is)
  (case k4=>k_is)
  (case a5=>k_is)
  (case l5=>k_is)
  (case c5=>k_is)
  (case k5=>k_is)
  (case a6=>k_is)
  (case l6=>k_is)
  (case c6=>k_is)
  (case k6=>k_is)
  (case a7=>k_is)
  (case l7=>k_is)
  (case c7=>k_is)
  (case k7=>k_is)
  (case a8=>k_is)
  (case l8=>k_is)
  (case c8=>k_is)
  (case k8=>k_is)
  (case a9=>k_is)
  (case l9=>k_is)
  (case c9=>k_is)
  (case k9=>k_is)
  (case a10=>k_is)
  (case l10=>k_is)
  (case c10=>k_is)
  (case k10=>k_is)
  (case a11=>k_is)
  (case ii11=>k_is)
  (case l11=>k_is)
  (case c11=>k_is)
  (case k11=>k_is)
  (case a12=>k_is)
  (case ii12=>k_is)
  (case l12=>k_is)
  (case c12=>k_is)
  (case k12=>k_is)
  (case a13=>k_is)
  (case ii13=>k_is)
  (case l13=>k_is)
  (case c13=>k_is)
  (case k13=>k_is)
  (case a14=>k_is)
  (case ii14=>k_is)
  (case l14=>k_is)
  (case c14=>k_is)
  (case k14=>k_is)
  (case a15=>k_is)
  (case ii15=>k_is)
  (case l15=>k_is)
  (case c15=>k_is)
  (case k15=>k_is)
  (case a16=>k_is)
  (case ii16=>k_is)
  (case l16=>k_is)
  (case c16=>k_is)
  (case k16=>k_is)
  (case a17=>k_is)
  (case l17=>k_is)
  (case c17=>k_is)
  (case k17=>k_is)
  (case a18=>k_is)
  (case l18=>k_is)
  (case c18=>k_is)
  (case k18=>k_is)
  (case a19=>k_is)
  (case l19=>k_is)
  (case c19=>k_is)
  (case k19=>k_is)
  (case a20=>k_is)
  (case l20=>k_is)
  (case c20=>k_is)
  (case k20=>k_is)
  (case a21=>k_is)
  (case l21=>k_is)
  (case c21=>k_is)
  (case k21=>k_is)
  (case a22=>k_is)
  (case l22=>k_is)
  (case c22=>k_is)
  (case k22=>k_is)
  (case a23=>k_is)
  (case l23=>k_is)
  (case c23=>k_is)
  (case k23=>k_is)
  (case a24=>k_is)
  (case l24=>k_is)
  (case c24=>k_is)
  (case k24=>k_is)
  (case a25=>k_is)
  (case l25=>k_is)
  (case c25=>k_is)
  (case k25=>k_is)
  (case a26=>k_is)
  (case l26=>k_is)
  (case c26=>k_is)
  (case k26=>k_is)
  (case a27=>k_is)
  (case l27=>k_is)
  (case c27=>k_is)
  (case k27=>k_is)
  (case a28=>k_is)
  (case l28=>k_is)
  (case c28=>k_is)
  (case k28=>k_is)
  (case a29=>k_is)
  (case l29=>k_is)
  (case c29=>k_is)
  (case k29=>k_is)
  (case a30=>k_is)
  (case l30=>k_is)
  (case c30=>k_is)
  (case k30=>k_is)
  (case a31=>k_is)
  (case l31=>k_is)
  (case c31=>k_is)
  (case k31=>k_is)
  (case g_KEPT_WORDS=>k_is)
  (case gl_KEPT_WORDS=>k_is)
  (case g_MOST_LETTERS=>k_is)
  (case g_LETTERS=>k_is)
  (case g_MOST_FIGURES=>k_is)
  (case g_FIGURES=>k_is)
  (case g_MOST_BRACKETS=>k_is)
  (case g_POWERS=>k_is)
  (case gl_POWERS=>k_is)
  (case g_SUMS=>k_is)
  (case gl_SUMS=>k_is)
  (case g_MOST_WORDS=>k_is)
  (case zaF=>k_is)
  (case zdh=>k_is)
  (case za2=>k_is)
  (case zcd=>k_is)
  (case zaZ=>k_is)
  (case zb9=>k_is)
  (case zdO=>k_is)
  (case za4=>k_is)
  (case zcc=>k_is)
  (case zbK=>k_is)
  (case zdM=>k_is)
  (case zdC=>k_is)
  (case n_NoRow=>k_is)
  (case x_NoRow=>k_exc)
  (case n_NoNumber=>k_is)
  (case x_NoNumber=>k_exc)
  (case n_BoxError=>k_is)
  (case x_BoxError=>k_exc)
  (case s_NoRow_BoxError=>kts_exm)
  (case iB_NoRow_NoRow=>kit_is)
  (case nxga_NoRow=>k_is)
  (case nxhk_NoRow=>k_is)
  (case nxha_NoRow=>k_is)
  (case nxhm_NoRow=>k_is)
  (case nxhb_NoRow=>k_is)
  (case nxhn=>k_is)
  (case nxht=>k_is)
  (case zcY=>exact L3.zgW _ _ (by simp))
  (case zcJ=>exact L3.zgW _ _ (by simp))
  (case zc0=>exact L3.zgW _ _ (by simp))
  (case zcX=>exact L3.zgW _ _ (by simp))
