import PyProof.Rows.All
import Wide.All
import OpenK.AllK
import Wide.FinOn
import Lean
import PyProof.EqAt
import PyProof.EqKinds
import PyProof.TupleCall
import PySem.Challenge.RW_boxnarrow_k71_told_and_counts

set_option Elab.async false
set_option linter.all false
set_option maxRecDepth 100000
namespace L2
open PySem PySem.Spec PyProof.Rows

abbrev Key:=Sum Int Str
def zgd:Key→Value→Bool
 | .inl k,v=>Value.isInt k v
 | .inr x,v=>Value.isStrOf x v
def keyH (w:World):Key→Int
 | .inl k=>hashInt k
 | .inr x=>hashStr w x
theorem zcb:∀ {k:Key} {v:Value},zgd k v=true→(∃i t,k=Sum.inl i∧v=Value.int i t)∨(∃x t,k=Sum.inr x∧v=Value.str x t)
 | .inl i,v,h=>by
  obtain⟨t,e⟩:=Value.isInt_shape (k:=i) (v:=v) h
  exact .inl ⟨i,t,rfl,e⟩
 | .inr x,v,h=>by
  obtain⟨t,e⟩:=Value.isStrOf_shape (x:=x) (v:=v) h
  exact .inr ⟨x,t,rfl,e⟩
theorem zhK (a b:Int):decide ((Sum.inl a:Key)=Sum.inl b)=(a == b):=by
 by_cases e:a=b
 ·subst e; simp
 ·have h:¬ (Sum.inl a:Key)=Sum.inl b:=fun q=>e (Sum.inl.inj q)
  rw[decide_eq_false h]
  exact(beq_eq_false_iff_ne.mpr e).symm
theorem ziZ (a b:Str):decide ((Sum.inr a:Key)=Sum.inr b)=decide (a=b):=by
 by_cases e:a=b
 ·subst e; simp
 ·have h:¬ (Sum.inr a:Key)=Sum.inr b:=fun q=>e (Sum.inr.inj q)
  rw[decide_eq_false h,decide_eq_false e]
theorem zju (a:Int)(b:Str):decide ((Sum.inl a:Key)=Sum.inr b)=false:=decide_eq_false (fun q=>nomatch q)
theorem zjU (a:Str)(b:Int):decide ((Sum.inr a:Key)=Sum.inl b)=false:=decide_eq_false (fun q=>nomatch q)

def zgw (prog:Program)(w:World):PySem.KeyKind prog w Key where
 is:=zgd
 hash:=keyH w
 inj:=fun v a b ha hb=>by
  rcases zcb ha with ⟨i,t,rfl,rfl⟩ | ⟨x,t,rfl,rfl⟩
  ·rcases zcb hb with ⟨j,u,rfl,e⟩ | ⟨y,u,rfl,e⟩
   ·injection e with e1 _; rw[e1]
   ·exact nomatch e
  ·rcases zcb hb with ⟨j,u,rfl,e⟩ | ⟨y,u,rfl,e⟩
   ·exact nomatch e
   ·injection e with e1 _; rw[e1]
 byValue:=fun k v h=>by
  rcases zcb h with ⟨i,t,rfl,rfl⟩ | ⟨x,t,rfl,rfl⟩ <;> rfl
 pyHash:=fun hv h=>by
  rcases zcb hv with ⟨i,t,rfl,rfl⟩ | ⟨x,t,rfl,rfl⟩
  ·exact wpAny_pyHash_int h
  ·exact wpAny_pyHash_str h
 eqBool:=fun hu hv h=>by
  rcases zcb hu with ⟨i,t,rfl,rfl⟩ | ⟨x,t,rfl,rfl⟩
  ·rcases zcb hv with ⟨j,u,rfl,rfl⟩ | ⟨y,u,rfl,rfl⟩
   ·rw[zhK] at h; exact wpAny_eqBool_int h
   ·rw[zju] at h; exact SeqAt.EqAt.int_str i t y u _ _ _ _ h
  ·rcases zcb hv with ⟨j,u,rfl,rfl⟩ | ⟨y,u,rfl,rfl⟩
   ·rw[zjU] at h; exact SeqAt.EqAt.str_int x t j u _ _ _ _ h
   ·rw[ziZ] at h; exact wpAny_eqBool_str h
 «strs»:=fun k x t v h=>by
  rcases zcb h with ⟨i,u,rfl,e⟩ | ⟨y,u,rfl,e⟩
  ·exact nomatch e
  ·injection e with e1 _
   subst e1
   cases v <;> rfl

end L2

namespace L2
open PySem PySem.Spec PyProof.Rows

inductive V where
 | non | bl (b:Bool) | int (i:Int) | str (x:Str) | byt (b:Array UInt8) | flt (b:UInt64) | ref (a:Addr) | ty (n:String)
 deriving DecidableEq

def zac:V→Value→Prop
 | .non,u=>u=Value.none
 | .bl b,u=>u=Value.bool b
 | .int i,u=>∃t,u=Value.int i t
 | .str x,u=>∃t,u=Value.str x t
 | .byt b,u=>∃t,u=Value.bytes b t
 | .flt b,u=>∃t,u=Value.float b t
 | .ref a,u=>u=Value.ref a
 | .ty n,u=>u=Value.type n

abbrev zad:List V→List Value→Prop:=Paired zac
theorem zad.length {xs:List V}{us:List Value}(r:zad xs us):xs.length=us.length:=Paired.length r
theorem zad.get:∀ {xs:List V} {us:List Value} {i:Nat} {x:V},zad xs us→xs[i]?=some x→∃u,us[i]?=some u∧zac x u
 | _,_,_,_,.nil,e=>by simp at e
 | _,_,0,_,.cons r _,e=>by simp at e; subst e; exact⟨_,rfl,r⟩
 | _,_,i + 1,x,.cons _ t,e=>by
  obtain⟨u,h1,h2⟩:=zad.get (i:=i) (x:=x) t (by simpa using e)
  exact⟨u,by simpa using h1,h2⟩
theorem zad.set {x:V}{u:Value}(r:zac x u):∀ {xs:List V} {us:List Value} (i:Nat),zad xs us→zad (xs.set i x) (us.set i u)
 | _,_,_,.nil=>.nil
 | _,_,0,.cons _ t=>.cons r t
 | _,_,i + 1,.cons q t=>.cons q (zad.set r i t)
theorem zad.append:∀ {xs ys:List V} {us ws:List Value},zad xs us→zad ys ws→zad (xs++ys) (us++ws)
 | _,_,_,_,.nil,s=>s
 | _,_,_,_,.cons r t,s=>.cons r (zad.append t s)
theorem zad.take:∀ {xs:List V} {us:List Value} (n:Nat),zad xs us→zad (xs.take n) (us.take n)
 | _,_,0,_=>.nil
 | _,_,_ + 1,.nil=>.nil
 | _,_,n + 1,.cons r t=>.cons r (zad.take n t)
theorem zad.drop:∀ {xs:List V} {us:List Value} (n:Nat),zad xs us→zad (xs.drop n) (us.drop n)
 | _,_,0,r=>r
 | _,_,_ + 1,.nil=>.nil
 | _,_,n + 1,.cons _ t=>zad.drop n t
def zcl:Option V→Option Value→Prop
 | some v,some u=>zac v u
 | none,none=>True
 | _,_=>False
def KV {κ:Type}:List (κ×V)→List (κ×Value)→Prop:=Paired fun (p:κ×V) (q:κ×Value)=>p.1=q.1∧zac p.2 q.2

def kV:Key→V
 | .inl i=>.int i
 | .inr x=>.str x

inductive HO where
  | lst (xs:List V)
  | tup (xs:List V)
  | dK (kvs:List (Key×V)) | dT (kvs:List (List Key×V))
  | set (S:Int→Bool) (n:Nat)
  | ins (C dx:Addr) (fs:List (Str×V))
  | own (x:Addr)
  | xd (fs:List (Str×V))
  | met (f x:Addr)
  | rng (lo hi:Int)
  | frz (o:Obj) (u:HO)
  | tbl (ps:Array Value)
  | ext (φ:Heap→Prop)

abbrev Hp:=Addr→Option HO
def upd (H:Hp)(a:Addr)(o:HO):Hp:=fun b=>if b=a then some o else H b
theorem zb0 {H:Hp}{a:Addr}{o:HO}:upd H a o a=some o:=by unfold upd; rw[if_pos rfl]
theorem zaH {H:Hp}{a b:Addr}{o:HO}(h:b≠a):upd H a o b=H b:=by unfold upd; rw[if_neg h]
theorem ze0 {H:Hp}{a b:Addr}{o u:HO}(h:H a=some o)(h':H b=some u)(d:o≠u):a≠b:=by
 intro e; subst e; rw[h] at h'; exact d (Option.some.inj h')
theorem zcV {H:Hp}{a b:Addr}{o:HO}(h:H a=some o)(h':H b=none):a≠b:=by
 intro e; subst e; rw[h] at h'; cases h'

section
variable (P:Program)(w:World)
def zaZ (H:Hp)(h:Heap)(a:Addr):HO→Prop
 | .lst xs=>xs.length≤sizeLine∧∃(its:List Value) (n:Nat),zad xs its∧h.get? a=some { cls:=.type "list",data:=.seq its.toArray n }
 | .tup xs=>xs.length≤sizeLine∧∃its:List Value,zad xs its∧IsTup h a its.toArray
 | .dK kvs=>kvs.length≤sizeLine∧(a == sysModules)=false∧∃vs,KV kvs vs∧h.DictOf (zgw P w) a vs
 | .dT kvs=>kvs.length≤sizeLine∧(a == sysModules)=false∧∃xs:List (List Key×Addr×Value),
   Paired (fun (p:List Key×V) (q:List Key×Addr×Value)=>p.1=q.1∧H q.2.1=some (.tup (p.1.map kV))∧zac p.2 q.2.2) kvs xs∧
   ∃o es ep,h.get? a=some o∧o.ExactDict∧o.data=.dict es ep∧es.toList=xs.map (entryOfKey (tupleKind (zgw P w)))∧(xs.map (·.1)).Nodup
 | .set S n=>h.SetOf (intKind P w) a S n
 | .ins C dx fs=>H dx=some (.own a)∧fs.length≤1000∧dx≠a∧h.get? a=some (PySem.W.instObj C dx)∧
   ∃mA,h.Ns1 dx mA∧(∀f,zcl (fs.lookup f) (mA f))∧PySem.Within mA (fs.map (·.1))
 | .own _=>∃o,h.get? a=some o
 | .xd fs=>∃mA,h.Ns1 a mA∧∀f,zcl (fs.lookup f) (mA f)
 | .rng lo hi=>∃t u v,h.get? a=some { cls:=.type "range",data:=.fields #[.int lo t,.int hi u,.int 1 v] }
 | .frz o u=>h.get? a=some o∧zaZ H h a u
 | .tbl ps=>h.get? a=some { cls:=.none,data:=.fields ps }
 | .met f x=>h.get? a=some (PySem.W.methodObj (.ref f) (.ref x))
 | .ext φ=>φ h∧(∃o,h.get? a=some o)∧∀h1 h2:Heap,φ h1→(∀o,h1.get? a=some o→h2.get? a=some o)→φ h2
def HOk (H:Hp)(h:Heap):Prop:=∀a o,H a=some o→zaZ P w H h a o
end

section
variable {P:Program}{w:World}{H H':Hp}{h h':Heap}{a:Addr}{o:HO}
theorem zaZ.lt (x:zaZ P w H h a o):a < h.objs.size:=by
 cases o with
 | lst xs=>obtain⟨_,_,_,_,e⟩:=x; exact Heap.lt_size e
 | tup xs=>obtain⟨_,_,_,p⟩:=x; exact p.lt
 | dK kvs=>obtain⟨_,_,_,_,o,_,_,e,_⟩:=x; exact Heap.lt_size e
 | dT kvs=>obtain⟨_,_,_,_,o,_,_,e,_⟩:=x; exact Heap.lt_size e
 | set S n=>obtain⟨o,_,_,_,e,_⟩:=x; exact Heap.lt_size e
 | ins C dx fs=>obtain⟨_,_,_,e,_⟩:=x; exact Heap.lt_size e
 | own y=>obtain⟨_,e⟩:=x; exact Heap.lt_size e
 | xd fs=>obtain⟨_,⟨_,_,_,e,_⟩,_⟩:=x; exact Heap.lt_size e
 | rng lo hi=>obtain⟨_,_,_,e⟩:=x; exact Heap.lt_size e
 | frz ob u=>obtain⟨e,_⟩:=x; exact Heap.lt_size e
 | tbl ps=>exact Heap.lt_size (show h.get? a=some _ from x)
 | met f y=>exact Heap.lt_size (show h.get? a=some _ from x)
 | ext φ=>obtain⟨_,⟨_,e⟩,_⟩:=x; exact Heap.lt_size e
theorem Paired.mapP {α β:Type}{F G:α→β→Prop}:∀ {l₁:List α} {l₂:List β},Paired F l₁ l₂→(∀a b,F a b→G a b)→Paired G l₁ l₂
 | _,_,.nil,_=>.nil
 | _,_,.cons r t,f=>.cons (f _ _ r) (Paired.mapP t f)
theorem zaZ.stay (x:zaZ P w H h a o)(k:∀b u,(b=a∨H b=some (.own a))→h.get? b=some u→h'.get? b=some u)
  (ho:∀b,H b=some (.own a)→H' b=some (.own a))(ht:∀b xs,H b=some (.tup xs)→H' b=some (.tup xs)):zaZ P w H' h' a o:=by
 induction o with
 | lst xs=>obtain⟨z,its,n,r,e⟩:=x; exact⟨z,its,n,r,k _ _ (.inl rfl) e⟩
 | tup xs=>obtain⟨z,its,r,ob,e,c⟩:=x; exact⟨z,its,r,ob,k _ _ (.inl rfl) e,c⟩
 | dK kvs=>obtain⟨z,y,vs,r,ob,es,ep,e,c⟩:=x; exact⟨z,y,vs,r,ob,es,ep,k _ _ (.inl rfl) e,c⟩
 | dT kvs=>
  obtain⟨z,y,xs,r,ob,es,ep,e,c⟩:=x
  exact⟨z,y,xs,Paired.mapP r fun p q z=>⟨z.1,ht _ _ z.2.1,z.2.2⟩,ob,es,ep,k _ _ (.inl rfl) e,c⟩
 | set S n=>obtain⟨ob,es,ep,t,e,c⟩:=x; exact⟨ob,es,ep,t,k _ _ (.inl rfl) e,c⟩
 | ins C dx fs=>
  obtain⟨d,z,ne,e,mA,⟨od,es,ep,e2,c⟩,r⟩:=x
  exact⟨ho _ d,z,ne,k _ _ (.inl rfl) e,mA,⟨od,es,ep,k _ _ (.inr d) e2,c⟩,r⟩
 | own y=>obtain⟨ob,e⟩:=x; exact⟨ob,k _ _ (.inl rfl) e⟩
 | xd fs=>obtain⟨mA,⟨od,es,ep,e,c⟩,r⟩:=x; exact⟨mA,⟨od,es,ep,k _ _ (.inl rfl) e,c⟩,r⟩
 | rng lo hi=>obtain⟨t,u,v,e⟩:=x; exact⟨t,u,v,k _ _ (.inl rfl) e⟩
 | frz ob u ih=>obtain⟨e,q⟩:=x; exact⟨k _ _ (.inl rfl) e,ih q⟩
 | tbl ps=>
  have e:h.get? a=some { cls:=.none,data:=.fields ps }:=x
  show h'.get? a=some { cls:=.none,data:=.fields ps }
  exact k a _ (.inl rfl) e
 | met f y=>
  have e:h.get? a=some (PySem.W.methodObj (.ref f) (.ref y)):=x
  show h'.get? a=some (PySem.W.methodObj (.ref f) (.ref y))
  exact k a _ (.inl rfl) e
 | ext φ=>obtain⟨p,⟨o,e⟩,st⟩:=x; exact⟨st _ _ p fun o q=>k _ _ (.inl rfl) q,⟨o,k _ _ (.inl rfl) e⟩,st⟩
theorem HOk.lt (x:HOk P w H h)(e:H a=some o):a < h.objs.size:=(x a o e).lt
theorem HOk.fresh (x:HOk P w H h)(e:h.objs.size≤a):H a=none:=by
 cases q:H a with
 | none=>rfl
 | some u=>exact absurd (Nat.lt_of_lt_of_le (x.lt q) e) (Nat.lt_irrefl _)
theorem HOk.kept (x:HOk P w H h)(k:∀b u,h.get? b=some u→h'.get? b=some u):HOk P w H h':=fun a o e=>
 (x a o e).stay (fun b u _ q=>k b u q) (fun _ q=>q) fun _ _ q=>q
theorem HOk.laid (x:HOk P w H h)(k:∀b u,h.get? b=some u→h'.get? b=some u)(hp:h.objs.size≤a)(new:zaZ P w (upd H a o) h' a o):HOk P w (upd H a o) h':=fun b u e=>by
 have hn:=x.fresh hp
 by_cases hb:b=a
 ·subst hb; rw[zb0] at e; cases e; exact new
 ·rw[zaH hb] at e
  exact(x b u e).stay (fun c v _ q=>k c v q) (fun c q=>by rw[zaH (zcV q hn)]; exact q) fun c xs q=>by rw[zaH (zcV q hn)]; exact q
end

def Rd (H:Hp)(a:Addr)(u:HO):Prop:=H a=some u∨∃o,H a=some (.frz o u)
theorem Rd.of {H:Hp}{a:Addr}{u:HO}(h:H a=some u):Rd H a u:=.inl h
theorem Rd.ok {P:Program}{w:World}{H:Hp}{h:Heap}{a:Addr}{u:HO}(r:Rd H a u)(x:HOk P w H h):zaZ P w H h a u:=by
 rcases r with r | ⟨o,r⟩
 ·exact x a u r
 ·obtain⟨_,q⟩:=x a _ r
  exact q
def Mut:Option HO→Prop
 | some (.lst _)=>True
 | some (.dK _)=>True
 | some (.dT _)=>True
 | some (.set _ _)=>True
 | some (.ins _ _ _)=>True
 | some (.ext _)=>True
 | _=>False
section
variable {P:Program}{w:World}{H:Hp}{h h':Heap}{x e:Addr}{o':HO}
theorem HOk.write (ok:HOk P w H h)(mu:Mut (H x))(he:e=x∨H e=some (.own x))(k:∀b u,b≠e→h.get? b=some u→h'.get? b=some u)(heo:∃u,h'.get? e=some u)
  (new:zaZ P w (upd H x o') h' x o'):HOk P w (upd H x o') h':=fun b u q=>by
 have nown:∀c y,H c=some (.own y)→c≠x:=fun c y r z=>by subst z; rw[r] at mu; exact mu
 have ntup:∀c xs,H c=some (.tup xs)→c≠x:=fun c xs r z=>by subst z; rw[r] at mu; exact mu
 by_cases hb:b=x
 ·subst hb; rw[zb0] at q; cases q; exact new
 ·rw[zaH hb] at q
  by_cases hbe:b=e
  ·have q':H b=some (.own x):=by
    rcases he with z | z
    ·exact absurd (hbe.trans z) hb
    ·rw[hbe]; exact z
   rw[q] at q'; cases q'
   obtain⟨v,hv⟩:=heo
   exact⟨v,by rw[hbe]; exact hv⟩
  ·refine(ok b u q).stay (fun c v hc r=>k c v ?_ r) (fun c r=>by rw[zaH (nown c b r)]; exact r) fun c xs r=>by rw[zaH (ntup c xs r)]; exact r
   rcases hc with rfl | hc
   ·exact hbe
   ·rintro rfl
    rcases he with z | z
    ·exact nown c b hc z
    ·rw[hc] at z; cases z; exact hb rfl
end

structure Un (fs ex:List Addr)(H H':Hp)(h h':Heap):Prop where
 keep:∀b o,h.get? b=some o→H b=none→b ∉ fs→b ∉ ex→h'.get? b=some o
 slot:∀b o,h.get? b=some o→H b=none→b∈fs→b ∉ ex→∃sl,h'.get? b=some { o with slots:=sl }
 free:∀b o,h.get? b=some o→H b=none→b ∉ ex→H' b=none
 there:∀b o,h.get? b=some o→b ∉ ex→∃o',h'.get? b=some o'
 tups:∀b xs,H b=some (.tup xs)→H' b=some (.tup xs)
 frzs:∀b o u,H b=some (.frz o u)→H' b=some (.frz o u)
 tbls:∀b ps,H b=some (.tbl ps)→∃more,H' b=some (.tbl (ps++more))
section
variable {fs fs' ex ex':List Addr}{H H1 H2:Hp}{h h1 h2 h':Heap}{a x e:Addr}{o:HO}
theorem Un.any (u:Un fs ex H H1 h h1){b:Addr}{ob:Obj}(q:h.get? b=some ob)(n:H b=none)(hx:b ∉ ex):∃sl,h1.get? b=some { ob with slots:=sl }:=by
 by_cases hb:b∈fs
 ·exact u.slot b ob q n hb hx
 ·exact⟨ob.slots,u.keep b ob q n hb hx⟩
theorem Un.trans (a:Un fs ex H H1 h h1)(b:Un fs ex H1 H2 h1 h2):Un fs ex H H2 h h2 where
 keep:=fun c ob q n hc hx=>b.keep c ob (a.keep c ob q n hc hx) (a.free c ob q n hx) hc hx
 slot:=fun c ob q n hc hx=>by
  obtain⟨sl,e1⟩:=a.slot c ob q n hc hx
  obtain⟨sl',e2⟩:=b.slot c _ e1 (a.free c ob q n hx) hc hx
  exact⟨sl',e2⟩
 free:=fun c ob q n hx=>by
  obtain⟨o',e1⟩:=a.there c ob q hx
  exact b.free c o' e1 (a.free c ob q n hx) hx
 there:=fun c ob q hx=>by
  obtain⟨o',e1⟩:=a.there c ob q hx
  exact b.there c o' e1 hx
 tups:=fun c xs q=>b.tups c xs (a.tups c xs q)
 frzs:=fun c ob xs q=>b.frzs c ob xs (a.frzs c ob xs q)
 tbls:=fun c ps q=>by
  obtain⟨m1,e1⟩:=a.tbls c ps q
  obtain⟨m2,e2⟩:=b.tbls c _ e1
  exact⟨m1++m2,by rw[e2,Array.append_assoc]⟩
theorem Un.kept (k:∀b u,h.get? b=some u→h'.get? b=some u):Un fs ex H H h h':=
 ⟨fun b ob q _ _ _=>k b ob q,fun b ob q _ _ _=>⟨ob.slots,k b ob q⟩,fun _ _ _ n _=>n,fun b ob q _=>⟨ob,k b ob q⟩,fun _ _ q=>q,fun _ _ _ q=>q,fun _ ps q=>⟨#[],by rw[q]; simp⟩⟩
theorem Un.refl:Un fs ex H H h h:=Un.kept fun _ _ q=>q
theorem Un.laid (k:∀b u,h.get? b=some u→h'.get? b=some u)(hp:h.objs.size≤a)(hn:H a=none):Un fs ex H (upd H a o) h h' where
 keep:=fun b u q _ _ _=>k b u q
 slot:=fun b u q _ _ _=>⟨u.slots,k b u q⟩
 free:=fun b u q n _=>by rw[zaH (Nat.ne_of_lt (Nat.lt_of_lt_of_le (Heap.lt_size q) hp))]; exact n
 there:=fun b u q _=>⟨u,k b u q⟩
 tups:=fun b xs q=>by rw[zaH (zcV q hn)]; exact q
 frzs:=fun b u xs q=>by rw[zaH (zcV q hn)]; exact q
 tbls:=fun b ps q=>⟨#[],by rw[zaH (zcV q hn),q]; simp⟩
theorem Un.write (mu:Mut (H x))(he:e=x∨H e=some (.own x))(k:∀b u,b≠e→h.get? b=some u→h'.get? b=some u)(heo:∃u,h'.get? e=some u):Un fs ex H (upd H x o) h h':=by
 have hx:∀b,H b=none→b≠x:=fun b n z=>by subst z; rw[n] at mu; exact mu
 have hb:∀b,H b=none→b≠e:=fun b n z=>by
  subst z
  rcases he with r | r
  ·exact hx b n r
  ·rw[n] at r; cases r
 have hm:∀b u,H b=some u→¬ Mut (some u)→b≠x:=fun b u q nm z=>by subst z; rw[q] at mu; exact nm mu
 refine⟨fun b u q n _ _=>k b u (hb b n) q,fun b u q n _ _=>⟨u.slots,k b u (hb b n) q⟩,fun b u q n _=>by rw[zaH (hx b n)]; exact n,fun b u q _=>?_,
  fun b xs q=>by rw[zaH (hm b _ q fun z=>z)]; exact q,fun b u xs q=>by rw[zaH (hm b _ q fun z=>z)]; exact q,fun b ps q=>⟨#[],by rw[zaH (hm b _ q fun z=>z),q]; simp⟩⟩
 by_cases hbe:b=e
 ·subst hbe; exact heo
 ·exact⟨u,k b u hbe q⟩
theorem Un.mono (u:Un fs ex H H1 h h1)(hs:∀b∈fs,b∈fs')(hx:∀b∈ex,b∈ex'):Un fs' ex' H H1 h h1:=
 ⟨fun b ob q n hb he=>u.keep b ob q n (fun z=>hb (hs b z)) fun z=>he (hx b z),fun _ _ q n _ he=>u.any q n fun z=>he (hx _ z),fun b ob q n he=>u.free b ob q n fun z=>he (hx b z),fun b ob q he=>u.there b ob q fun z=>he (hx b z),u.tups,u.frzs,u.tbls⟩
end

def trk (h:Heap)(H:Hp):List Addr:=(List.range h.objs.size).filter fun a=>(H a).isSome
def zce (h:Heap)(H:Hp):Heap:=PySem.W.hideAll h (trk h H)
theorem zig (h:Heap)(H:Hp):(zce h H).objs.size=h.objs.size:=PySem.W.hideAll_size _ _
theorem zhm {h:Heap}{H:Hp}{b:Addr}{o:Obj}(e:h.get? b=some o)(n:H b=none):(zce h H).get? b=some o:=
 PySem.W.hideAll_get _ e fun hm=>by
  have q:(H b).isSome=true:=(List.mem_filter.mp hm).2
  rw[n] at q; simp at q
theorem zhI {h:Heap}{H:Hp}{b:Addr}{o:Obj}(e:(zce h H).get? b=some o):h.get? b=some o∧H b=none:=by
 have e':h.get? b=some o:=PySem.W.of_hideAll (trk h H) e
 refine⟨e',?_⟩
 cases q:H b with
 | none=>rfl
 | some x=>
  have hm:b∈trk h H:=List.mem_filter.mpr ⟨List.mem_range.mpr (Heap.lt_size e'),by simp[q]⟩
  have z:(zce h H).get? b=none:=PySem.W.hideAll_none (trk h H) hm
  rw[z] at e; cases e

def zje (g h:Heap)(L:Addr):List (Addr×Obj):=(List.range h.objs.size).filterMap fun a=>if a=L∨(g.get? a).isSome=true then none else (h.get? a).map fun o=>(a,o)
def zaz (g h:Heap)(L d:Addr):List (Addr×Obj):=(zje g h L).filter fun p=>decide (p.1≠d)
end L2

namespace L2
open PySem PySem.Spec PyProof.Rows

structure Mod (K:PySem.W.Frag)(mg:Str→Option Value)(base:Heap):Prop where
 kin:K.In base
 glob:base.Ns mainGlobals mg
 blt:∃mb,base.Ns builtinsNs mb∧∀x:Str,x≠"__name__"→mb x=bootBuiltins x
 nolimit:base.NoLimit

structure Cx where
 prog:Program
 w:World
 K:PySem.W.Frag
 mg:Str→Option Value
 base:Heap
 A:Around
 N:List Str
 s₀:Shared
 H₀:Hp
 env:Env
 outer:List Env
 stack:List Env
 ex:List Addr
 fn:Str→Bool
 calm:Bool
 pn:List (Addr×Obj)
 xe:Value→Shared→Prop
def frs (l:List Env):List Addr:=l.filterMap (·.frame)
abbrev Cx.fs (X:Cx):List Addr:=frs X.outer

def Vis (sc:Scope)(x:Str):Prop:=sc.names.lookup x=some .local∨sc.names.lookup x=some .cell∨sc.names.lookup x=some .free
def Loc (sc:Scope)(x:Str):Prop:=sc.names.lookup x=some .local∨sc.names.lookup x=some .cell
def Look (env:Env)(h:Heap)(m:Str→Option Value)(x:Str)(u:Value):Prop:=
 (env.kindOf x=some .local∧m x=some u)∨((env.kindOf x=some .cell∨env.kindOf x=some .free)∧∃c,env.cells.lookup x=some c∧h.IsCell c (some u))

structure Cx.Ok (X:Cx):Prop where
 mod:Mod X.K X.mg X.base
 kind:X.env.scope.kind=.function
 glob:X.env.globals=mainGlobals
 blt:X.env.builtins=builtinsNs
 above:X.s₀.heap.objs.size≤X.env.locals
 inj:∀x y c,X.env.cells.lookup x=some c→X.env.cells.lookup y=some c→x=y
 has:∀x,(X.env.kindOf x=some .cell∨X.env.kindOf x=some .free)→∃c,X.env.cells.lookup x=some c
 cab:∀x c,X.fn x=true→X.env.cells.lookup x=some c→X.s₀.heap.objs.size≤c
 hd:X.calm=true→X.A.handled=none
 frames:X.A.frames=some X.stack
 stk:X.stack=X.outer∨(X.stack=X.env::X.outer∧X.env.frame=some X.env.locals)
 exf:∀b∈X.ex,b≠X.env.locals∧∀x c,X.env.cells.lookup x=some c→c≠b
 bs:∀b o,X.base.get? b=some o→X.s₀.heap.get? b=some o∧X.H₀ b=none
 bsz:X.base.objs.size≤X.s₀.heap.objs.size
 noex:∀b o,X.base.get? b=some o→b ∉ X.ex
 exfs:∀b∈X.ex,b ∉ X.fs
 funs:X.s₀.heap.FunFrames X.base X.outer
 frf:∀b∈X.fs,X.H₀ b=none

structure Inv (X:Cx)(pins:List (Addr×Obj))(σ:List (Option V))(H:Hp)(s:Shared):Prop where
 ok:X.Ok
 os:s.os=X.s₀.os
 bare:AllBare s.gens
 base:Un X.fs X.ex X.H₀ H X.s₀.heap s.heap
 loc:∃m,s.heap.Ns X.env.locals m∧∀(i:Nat) (x:Str) (v:V),X.N[i]?=some x→σ[i]?=some (some v)→Vis X.env.scope x→∃u,zac v u∧Look X.env s.heap m x u
 cell:∀x c,X.env.cells.lookup x=some c→∃v,s.heap.IsCell c v
 free:H X.env.locals=none
 freeC:∀x c,X.env.cells.lookup x=some c→H c=none
 pin:∀p∈X.pn++pins,s.heap.get? p.1=some p.2∧H p.1=none∧p.1≠X.env.locals∧p.1 ∉ X.fs∧∀v,p.2.data≠.cell v
 hok:HOk X.prog X.w H s.heap
 len:σ.length=X.N.length

section
variable {X:Cx}{pins:List (Addr×Obj)}{σ:List (Option V)}{H H':Hp}{s:Shared}{h':Heap}

theorem Cx.Ok.nofr (ok:X.Ok){b:Addr}{o:Obj}(e:X.base.get? b=some o):b ∉ X.fs:=fun hb=>by
 have:=(ok.funs.mem hb).1
 rw[e] at this; cases this
theorem Inv.bs (I:Inv X pins σ H s):∀b o,X.base.get? b=some o→s.heap.get? b=some o∧H b=none:=fun b o e=>
 ⟨I.base.keep b o (I.ok.bs b o e).1 (I.ok.bs b o e).2 (I.ok.nofr e) (I.ok.noex b o e),I.base.free b o (I.ok.bs b o e).1 (I.ok.bs b o e).2 (I.ok.noex b o e)⟩
theorem Inv.bk (I:Inv X pins σ H s):∀b o,X.base.get? b=some o→s.heap.get? b=some o:=fun b o e=>(I.bs b o e).1
theorem Inv.mod (I:Inv X pins σ H s):Mod X.K X.mg X.base:=I.ok.mod
theorem Inv.kIn (I:Inv X pins σ H s):X.K.In s.heap:=I.ok.mod.kin.keeps I.bk
theorem Inv.nolimit (I:Inv X pins σ H s):s.heap.NoLimit:=I.ok.mod.nolimit.keeps I.bk
theorem Inv.lt (I:Inv X pins σ H s):X.env.locals < s.heap.objs.size:=let ⟨_,hn,_⟩:=I.loc; hn.lt
theorem Inv.sz (I:Inv X pins σ H s):X.s₀.heap.objs.size≤s.heap.objs.size:=Nat.le_trans I.ok.above (Nat.le_of_lt I.lt)
theorem Inv.nofs (I:Inv X pins σ H s){a:Addr}(h:s.heap.objs.size≤a):a ∉ X.fs:=fun hb=>by
 obtain⟨_,o,ho,_⟩:=I.ok.funs.mem hb
 exact absurd (Nat.lt_of_lt_of_le (Heap.lt_size ho) (Nat.le_trans I.sz h)) (Nat.lt_irrefl _)
theorem Inv.cne (I:Inv X pins σ H s):∀x c,X.env.cells.lookup x=some c→c≠X.env.locals:=fun x c e z=>by
 obtain⟨v,o,ho,hd⟩:=I.cell x c e
 obtain⟨m,⟨o',es,ep,ho',hd',_⟩,_⟩:=I.loc
 rw[z,ho'] at ho; cases ho; rw[hd'] at hd; cases hd
theorem Inv.funs (I:Inv X pins σ H s):s.heap.FunFrames X.base X.outer:=by
 have all:∀(l:List Env),(∀b∈frs l,b∈X.fs)→X.s₀.heap.FunFrames X.base l→s.heap.FunFrames X.base l:=by
  intro l
  induction l with
  | nil=>intro _ _; trivial
  | cons env r ih=>
   intro hs hl
   obtain⟨hk,⟨L,o,hf,hn,ho,hd⟩,hr⟩:=hl
   have hL:L∈X.fs:=hs L (by unfold frs; rw[List.filterMap_cons,hf]; exact List.mem_cons_self)
   obtain⟨sl,e⟩:=I.base.slot L o ho (I.ok.frf L hL) hL fun z=>I.ok.exfs L z hL
   exact⟨hk,⟨L,_,hf,hn,e,hd⟩,ih (fun b hb=>hs b (by unfold frs; rw[List.filterMap_cons,hf]; exact List.mem_cons_of_mem _ hb)) hr⟩
 exact all X.outer (fun _ hb=>hb) I.ok.funs

theorem Inv.stack (I:Inv X pins σ H s):s.heap.FunFrames X.base X.stack:=by
 rcases I.ok.stk with e | ⟨e,hf⟩
 ·rw[e]; exact I.funs
 ·rw[e]
  obtain⟨m,hn,_⟩:=I.loc
  refine .cons (by rw[I.ok.kind]; decide) hf hn ?_ I.funs
  exact Heap.get?_none_of_le (Nat.le_trans I.ok.bsz I.ok.above)
theorem Inv.stkSub (I:Inv X pins σ H s):∀b∈frs X.stack,b∈X.env.locals::X.fs:=fun b hb=>by
 rcases I.ok.stk with e | ⟨e,hf⟩
 ·rw[e] at hb; exact List.mem_cons_of_mem _ hb
 ·rw[e] at hb
  unfold frs at hb
  rw[List.filterMap_cons,hf] at hb
  exact hb
theorem Inv.stkFree (I:Inv X pins σ H s):∀b∈frs X.stack,H b=none:=fun b hb=>by
 rcases List.mem_cons.mp (I.stkSub b hb) with e | hb
 ·rw[e]; exact I.free
 ·obtain⟨_,o,ho,_⟩:=I.ok.funs.mem hb
  exact I.base.free b o ho (I.ok.frf b hb) fun z=>I.ok.exfs b z hb

theorem Inv.step {g':Array GenState}{t':Nat}{d':Drawn}{ch:List Addr}(I:Inv X pins σ H s)
  (hch:∀b∈ch,(b∈X.ex∨X.s₀.heap.objs.size≤b)∧b≠X.env.locals∧(∀x c,X.env.cells.lookup x=some c→c≠b)∧∀p∈X.pn++pins,p.1≠b)
  (keep:∀b o,b≠X.env.locals→b ∉ X.fs→b ∉ ch→s.heap.get? b=some o→H b=none→h'.get? b=some o)
  (slot:∀b o,b≠X.env.locals→b∈X.fs→b ∉ ch→s.heap.get? b=some o→H b=none→∃sl,h'.get? b=some { o with slots:=sl })(free:∀b o,b ∉ ch→s.heap.get? b=some o→H b=none→H' b=none)
  (there:∀b o,b ∉ ch→s.heap.get? b=some o→∃o',h'.get? b=some o')
  (tups:∀b xs,H b=some (.tup xs)→H' b=some (.tup xs))(frzs:∀b o u,H b=some (.frz o u)→H' b=some (.frz o u))(tbls:∀b ps,H b=some (.tbl ps)→∃more,H' b=some (.tbl (ps++more)))
  (ns:∀m,s.heap.Ns X.env.locals m→h'.Ns X.env.locals m)(hok:HOk X.prog X.w H' h')(hg:AllBare g'):
  Inv X pins σ H' { s with heap:=h',gens:=g',drawn:=d',toks:=t' }:=by
 have neL:∀b o,X.s₀.heap.get? b=some o→b≠X.env.locals:=fun b o e=>Nat.ne_of_lt (Nat.lt_of_lt_of_le (Heap.lt_size e) I.ok.above)
 have neC:∀b o,X.s₀.heap.get? b=some o→b ∉ X.ex→b ∉ ch:=fun b o e hx hb=>by
  rcases (hch b hb).1 with z | z
  ·exact hx z
  ·exact absurd (Nat.lt_of_lt_of_le (Heap.lt_size e) z) (Nat.lt_irrefl _)
 have cellK:∀x c,X.env.cells.lookup x=some c→∀v,s.heap.IsCell c v→h'.IsCell c v:=fun x c e v ⟨o,ho,hd⟩=>by
  have nch:c ∉ ch:=fun z=>(hch c z).2.2.1 x c e rfl
  by_cases hc:c∈X.fs
  ·obtain⟨sl,q⟩:=slot c o (I.cne x c e) hc nch ho (I.freeC x c e)
   exact⟨_,q,hd⟩
  ·exact⟨o,keep c o (I.cne x c e) hc nch ho (I.freeC x c e),hd⟩
 refine⟨I.ok,I.os,hg,⟨fun b o e n hb hx=>?_,fun b o e n hb hx=>?_,fun b o e n hx=>?_,fun b o e hx=>?_,fun b xs e=>tups b xs (I.base.tups b xs e),fun b o xs e=>frzs b o xs (I.base.frzs b o xs e),fun b ps e=>?_⟩,?_,fun x c e=>?_,?_,fun x c e=>?_,fun p hp=>?_,hok,I.len⟩
 ·exact keep b o (neL b o e) hb (neC b o e hx) (I.base.keep b o e n hb hx) (I.base.free b o e n hx)
 ·obtain⟨sl,e1⟩:=I.base.slot b o e n hb hx
  obtain⟨sl',e2⟩:=slot b _ (neL b o e) hb (neC b o e hx) e1 (I.base.free b o e n hx)
  exact⟨sl',e2⟩
 ·obtain⟨o',e1⟩:=I.base.there b o e hx
  exact free b o' (neC b o e hx) e1 (I.base.free b o e n hx)
 ·obtain⟨o',e1⟩:=I.base.there b o e hx
  exact there b o' (neC b o e hx) e1
 ·obtain⟨m1,e1⟩:=I.base.tbls b ps e
  obtain⟨m2,e2⟩:=tbls b _ e1
  exact⟨m1++m2,by rw[e2,Array.append_assoc]⟩
 ·obtain⟨m,hn,hl⟩:=I.loc
  refine⟨m,ns m hn,fun i x v e1 e2 e3=>?_⟩
  obtain⟨u,r,l⟩:=hl i x v e1 e2 e3
  refine⟨u,r,?_⟩
  rcases l with l | ⟨k,c,e,z⟩
  ·exact .inl l
  ·exact .inr ⟨k,c,e,cellK x c e _ z⟩
 ·obtain⟨v,z⟩:=I.cell x c e
  exact⟨v,cellK x c e v z⟩
 ·obtain⟨m,⟨o,_,_,ho,_⟩,_⟩:=I.loc
  exact free _ o (fun z=>(hch _ z).2.1 rfl) ho I.free
 ·obtain⟨v,o,ho,hd⟩:=I.cell x c e
  exact free c o (fun z=>(hch c z).2.2.1 x c e rfl) ho (I.freeC x c e)
 ·obtain⟨e,n,ne,nf,d⟩:=I.pin p hp
  have nch:p.1 ∉ ch:=fun z=>(hch p.1 z).2.2.2 p hp rfl
  exact⟨keep p.1 p.2 ne nf nch e n,free p.1 p.2 nch e n,ne,nf,d⟩
theorem Inv.un {t':Nat}(I:Inv X pins σ H s)(u:Un X.fs [] H H' s.heap h')(hok:HOk X.prog X.w H' h'):Inv X pins σ H' { s with heap:=h',toks:=t' }:=by
 obtain⟨m,⟨o,es,ep,ho,r⟩,_⟩:=id I.loc
 obtain⟨sl,hL⟩:=u.any ho I.free (by simp)
 exact I.step (g':=s.gens) (d':=s.drawn) (ch:=[]) (fun _ z=>nomatch z) (fun b o _ hb _ e n=>u.keep b o e n hb (by simp)) (fun b o _ hb _ e n=>u.slot b o e n hb (by simp)) (fun b o _ e n=>u.free b o e n (by simp)) (fun b o _ e=>u.there b o e (by simp)) u.tups u.frzs u.tbls (fun m' hm=>by
  obtain⟨o',es',ep',ho',r'⟩:=hm
  rw[ho] at ho'; cases ho'
  exact⟨_,es',ep',hL,r'⟩) hok I.bare
theorem Inv.call {g':Array GenState}{t':Nat}{d':Drawn}{ch:List Addr}(I:Inv X pins σ H s)(u:Un (frs X.stack) ch H H' s.heap h')(hok:HOk X.prog X.w H' h')(hg:AllBare g')
  (hch:∀b∈ch,(b∈X.ex∨X.s₀.heap.objs.size≤b)∧b≠X.env.locals∧(∀x c,X.env.cells.lookup x=some c→c≠b)∧∀p∈X.pn++pins,p.1≠b):
  Inv X pins σ H' { s with heap:=h',gens:=g',drawn:=d',toks:=t' }:=by
 obtain⟨m,⟨o,es,ep,ho,r⟩,_⟩:=id I.loc
 obtain⟨sl,hL⟩:=u.any ho I.free fun z=>(hch _ z).2.1 rfl
 exact I.step (ch:=ch) hch (fun b o hL hb hc e n=>u.keep b o e n (fun z=>(List.mem_cons.mp (I.stkSub b z)).elim hL hb) hc) (fun b o _ _ hc e n=>u.any e n hc) (fun b o hc e n=>u.free b o e n hc) (fun b o hc e=>u.there b o e hc) u.tups u.frzs u.tbls (fun m' hm=>by
  obtain⟨o',es',ep',ho',r'⟩:=hm
  rw[ho] at ho'; cases ho'
  exact⟨_,es',ep',hL,r'⟩) hok hg
theorem Inv.turned {t':Nat}{it:Addr}(I:Inv X pins σ H s)(k:∀b o,b≠it→s.heap.get? b=some o→h'.get? b=some o)(hn:H it=none)(hL:it≠X.env.locals)
  (h1:it∈X.ex∨X.s₀.heap.objs.size≤it)(h2:∀x c,X.env.cells.lookup x=some c→c≠it)(h3:∀p∈X.pn++pins,p.1≠it):Inv X pins σ H { s with heap:=h',toks:=t' }:=by
 have nit:∀b u,H b=some u→b≠it:=fun b u e z=>by rw[z,hn] at e; cases e
 refine I.step (g':=s.gens) (d':=s.drawn) (ch:=[it]) (fun b hb=>?_) (fun b o _ _ hc e _=>k b o (fun z=>hc (by simp[z])) e) (fun b o _ _ hc e _=>⟨o.slots,k b o (fun z=>hc (by simp[z])) e⟩) (fun _ _ _ _ n=>n)
  (fun b o hc e=>⟨o,k b o (fun z=>hc (by simp[z])) e⟩) (fun _ _ e=>e) (fun _ _ _ e=>e) (fun b ps e=>⟨#[],by rw[e]; simp⟩) (fun m hm=>?_) (fun b u e=>?_) I.bare
 ·have e:b=it:=by simpa using hb
  subst e
  exact⟨h1,hL,h2,h3⟩
 ·obtain⟨o,es,ep,ho,r⟩:=hm
  exact⟨o,es,ep,k _ o (Ne.symm hL) ho,r⟩
 ·refine(I.hok b u e).stay (fun c v hc q=>k c v ?_ q) (fun _ q=>q) fun _ _ q=>q
  rcases hc with z | z
  ·rw[z]; exact nit b u e
  ·exact nit c _ z
theorem Inv.tok (I:Inv X pins σ H s)(t:Nat):Inv X pins σ H { s with toks:=t }:=I.un (h':=s.heap) (t':=t) Un.refl I.hok
theorem Inv.kept {t':Nat}(I:Inv X pins σ H s)(k:∀b u,s.heap.get? b=some u→h'.get? b=some u):Inv X pins σ H { s with heap:=h',toks:=t' }:=I.un (Un.kept k) (I.hok.kept k)
theorem Inv.laid {a:Addr}{o:HO}{t':Nat}(I:Inv X pins σ H s)(k:∀b u,s.heap.get? b=some u→h'.get? b=some u)(hp:s.heap.objs.size≤a)(new:zaZ X.prog X.w (upd H a o) h' a o):
  Inv X pins σ (upd H a o) { s with heap:=h',toks:=t' }:=I.un (Un.laid k hp (I.hok.fresh hp)) (I.hok.laid k hp new)
theorem Inv.write {x e:Addr}{o:HO}{t':Nat}(I:Inv X pins σ H s)(mu:Mut (H x))(he:e=x∨H e=some (.own x))(k:∀b u,b≠e→s.heap.get? b=some u→h'.get? b=some u)(heo:∃u,h'.get? e=some u)
  (new:zaZ X.prog X.w (upd H x o) h' x o):Inv X pins σ (upd H x o) { s with heap:=h',toks:=t' }:=I.un (Un.write mu he k heo) (I.hok.write mu he k heo new)
theorem Inv.pins_of {pins':List (Addr×Obj)}(I:Inv X pins σ H s)(h:∀p∈pins',s.heap.get? p.1=some p.2∧H p.1=none∧p.1≠X.env.locals∧p.1 ∉ X.fs∧∀v,p.2.data≠.cell v):Inv X pins' σ H s:=
 ⟨I.ok,I.os,I.bare,I.base,I.loc,I.cell,I.free,I.freeC,fun p hp=>(List.mem_append.mp hp).elim (fun z=>I.pin p (List.mem_append_left _ z)) (h p),I.hok,I.len⟩

theorem zfQ {N:List Str}(hN:N.Nodup){i j:Nat}{x:Str}(a:N[i]?=some x)(b:N[j]?=some x):i=j:=by
 obtain⟨h1,e1⟩:=List.getElem?_eq_some_iff.mp a
 obtain⟨h2,e2⟩:=List.getElem?_eq_some_iff.mp b
 exact(List.getElem_inj hN).mp (e1.trans e2.symm)

theorem zfF {M:Model}{A:Around}{E:Value→Shared→Prop}{i:Nat}{x:Str}{v:V}{u:Value}{Q:Unit→Shared→Prop}(I:Inv X pins σ H s)(hN:X.N.Nodup)(hi:X.N[i]?=some x)(hx:Loc X.env.scope x)(r:zac v u)
  (h:∀s',Inv X pins (σ.set i (some v)) H s'→(∃a,Heap.SameBut a s.heap s'.heap∧(a=X.env.locals∨X.env.cells.lookup x=some a))→Q () s')(hf:X.fn x=true∨X.env.scope.names.lookup x=some .local:=by first | exact .inl rfl | exact .inr rfl | assumption):wpAny M A (storeName X.env x u) Q E s:=by
 obtain⟨m,hn,hl⟩:=id I.loc
 have hcls:(X.env.scope.kind == .class || (X.env.scope.kind == .module && X.env.locals != X.env.globals))=false:=by rw[I.ok.kind]; rfl
 have hiσ:i < σ.length:=by rw[I.len]; exact(List.getElem?_eq_some_iff.mp hi).1
 have cne:=I.cne
 have tracked:∀ {a:Addr} {h':Heap},(∃o,s.heap.get? a=some o∧H a=none)→Heap.SameBut a s.heap h'→HOk X.prog X.w H h':=fun {a h'} ha hs b ob e=>by
  obtain⟨_,_,hfree⟩:=ha
  refine(I.hok b ob e).stay (fun c w' hc q=>(hs.2 c ?_).trans q) (fun _ q=>q) fun _ _ q=>q
  rintro rfl
  rcases hc with rfl | hc
  ·rw[hfree] at e; cases e
  ·rw[hfree] at hc; cases hc
 rcases hx with hk | hk
 ·refine wpAny_storeName_local hk hn (fun h' hn' hs=>?_) hcls
  obtain⟨oL,_,_,hoL,_⟩:=id hn
  refine h _ ⟨I.ok,I.os,I.bare,⟨fun b o e n hb hx=>?_,fun b o e n hb hx=>?_,I.base.free,fun b o e hx=>?_,I.base.tups,I.base.frzs,I.base.tbls⟩,⟨_,hn',fun j y v' e1 e2 e3=>?_⟩,fun y c e=>?_,I.free,I.freeC,fun p hp=>?_,tracked ⟨oL,hoL,I.free⟩ hs,by simpa using I.len⟩ ⟨_,hs,.inl rfl⟩
  ·exact(hs.2 b (Nat.ne_of_lt (Nat.lt_of_lt_of_le (Heap.lt_size e) I.ok.above))).trans (I.base.keep b o e n hb hx)
  ·obtain⟨sl,e1⟩:=I.base.slot b o e n hb hx
   exact⟨sl,(hs.2 b (Nat.ne_of_lt (Nat.lt_of_lt_of_le (Heap.lt_size e) I.ok.above))).trans e1⟩
  ·obtain⟨o',e1⟩:=I.base.there b o e hx
   exact⟨o',(hs.2 b (Nat.ne_of_lt (Nat.lt_of_lt_of_le (Heap.lt_size e) I.ok.above))).trans e1⟩
  ·by_cases hj:j=i
   ·subst hj
    rw[hi] at e1; cases e1
    rw[List.getElem?_set_self hiσ] at e2
    cases e2
    exact⟨u,r,.inl ⟨hk,by simp⟩⟩
   ·rw[List.getElem?_set_ne (Ne.symm hj)] at e2
    obtain⟨u',r',q⟩:=hl j y v' e1 e2 e3
    refine⟨u',r',?_⟩
    rcases q with ⟨k,e⟩ | ⟨k,c,e,z⟩
    ·refine .inl ⟨k,?_⟩
     have:y≠x:=fun e=>hj (zfQ hN e1 (e ▸ hi))
     simp[this,e]
    ·exact .inr ⟨k,c,e,z.sameBut hs (cne y c e)⟩
  ·obtain⟨w',z⟩:=I.cell y c e
   exact⟨w',z.sameBut hs (cne y c e)⟩
  ·obtain⟨e,n,ne,nf,d⟩:=I.pin p hp
   exact⟨(hs.2 p.1 ne).trans e,n,ne,nf,d⟩
 ·have hfn:X.fn x=true:=by
   rcases hf with z | z
   ·exact z
   ·rw[z] at hk; cases hk
  obtain⟨c,hc⟩:=I.ok.has x (.inl hk)
  obtain⟨w',z⟩:=I.cell x c hc
  refine wpAny_storeName_cell I.ok.kind hk hc z (fun h' hc' hs=>?_)
  obtain⟨oc,hoc,hocd⟩:=id z
  refine h { s with heap:=h' } ⟨I.ok,I.os,I.bare,⟨fun b o e n hb hx=>?_,fun b o e n hb hx=>?_,I.base.free,fun b o e hx=>?_,I.base.tups,I.base.frzs,I.base.tbls⟩,⟨m,hn.sameBut hs (Ne.symm (cne x c hc)),fun j y v' e1 e2 e3=>?_⟩,fun y c' e=>?_,I.free,I.freeC,fun p hp=>?_,tracked ⟨oc,hoc,I.freeC x c hc⟩ hs,by simpa using I.len⟩ ⟨c,hs,.inr hc⟩
  ·exact(hs.2 b (Nat.ne_of_lt (Nat.lt_of_lt_of_le (Heap.lt_size e) (I.ok.cab x c hfn hc)))).trans (I.base.keep b o e n hb hx)
  ·obtain⟨sl,e1⟩:=I.base.slot b o e n hb hx
   exact⟨sl,(hs.2 b (Nat.ne_of_lt (Nat.lt_of_lt_of_le (Heap.lt_size e) (I.ok.cab x c hfn hc)))).trans e1⟩
  ·obtain⟨o',e1⟩:=I.base.there b o e hx
   exact⟨o',(hs.2 b (Nat.ne_of_lt (Nat.lt_of_lt_of_le (Heap.lt_size e) (I.ok.cab x c hfn hc)))).trans e1⟩
  ·by_cases hj:j=i
   ·subst hj
    rw[hi] at e1; cases e1
    rw[List.getElem?_set_self hiσ] at e2
    cases e2
    exact⟨u,r,.inr ⟨.inl hk,c,hc,hc'⟩⟩
   ·rw[List.getElem?_set_ne (Ne.symm hj)] at e2
    obtain⟨u',r',q⟩:=hl j y v' e1 e2 e3
    refine⟨u',r',?_⟩
    rcases q with q | ⟨k,c',e,z'⟩
    ·exact .inl q
    ·refine .inr ⟨k,c',e,z'.sameBut hs ?_⟩
     rintro rfl
     exact hj (zfQ hN e1 (I.ok.inj _ _ _ e hc ▸ hi))
  ·by_cases hcc:c'=c
   ·subst hcc; exact⟨_,hc'⟩
   ·obtain⟨w2,z2⟩:=I.cell y c' e
    exact⟨w2,z2.sameBut hs hcc⟩
  ·obtain⟨e,n,ne,nf,d⟩:=I.pin p hp
   refine⟨(hs.2 p.1 ?_).trans e,n,ne,nf,d⟩
   intro q
   rw[q,hoc] at e
   have q':oc=p.2:=Option.some.inj e
   exact d w' (by rw[← q']; exact hocd)
theorem zfr {M:Model}{A:Around}{E:Value→Shared→Prop}{i:Nat}{x:Str}{v:V}{u:Value}{Q:Unit→Shared→Prop}(I:Inv X pins σ H s)(hN:X.N.Nodup)(hi:X.N[i]?=some x)(hx:Loc X.env.scope x)(r:zac v u)
  (h:∀s',Inv X pins (σ.set i (some v)) H s'→Q () s')(hf:X.fn x=true∨X.env.scope.names.lookup x=some .local:=by first | exact .inl rfl | exact .inr rfl | assumption):wpAny M A (storeName X.env x u) Q E s:=
 zfF I hN hi hx r (fun s' I' _=>h s' I') hf
theorem Inv.call' {s':Shared}{ch:List Addr}(I:Inv X pins σ H s)(ho:s'.os=s.os)(u:Un (frs X.stack) ch H H' s.heap s'.heap)(hok:HOk X.prog X.w H' s'.heap)(hg:AllBare s'.gens)
  (hch:∀b∈ch,(b∈X.ex∨X.s₀.heap.objs.size≤b)∧b≠X.env.locals∧(∀x c,X.env.cells.lookup x=some c→c≠b)∧∀p∈X.pn++pins,p.1≠b):Inv X pins σ H' s':=by
 obtain⟨h',g',d',t',o'⟩:=s'
 have e:o'=s.os:=ho
 subst e
 exact I.call (g':=g') (t':=t') (d':=d') u hok hg hch
end

abbrev XK:=Value→Option Addr→Hp→Prop
abbrev St:=List (Option V)
abbrev VK:=V→Hp→Prop
abbrev TE:=St→Hp→VK→Prop
abbrev TT:=St→Hp→(Bool→Hp→Prop)→Prop
abbrev TA:=St→Hp→(List V→Hp→Prop)→Prop
structure zcD where
 nx:St→Hp→Prop
 rt:VK
 bk:St→Hp→Prop:=fun _ _=>False
 ct:St→Hp→Prop:=fun _ _=>False
abbrev TS:=zcD→St→Hp→Prop

def EP (X:Cx)(pins:List (Addr×Obj))(σ:St)(Q:VK)(u:Value)(s':Shared):Prop:=∃v H',Inv X pins σ H' s'∧zac v u∧Q v H'
def TP (X:Cx)(pins:List (Addr×Obj))(σ:St)(Q:Bool→Hp→Prop)(b:Bool)(s':Shared):Prop:=∃H',Inv X pins σ H' s'∧Q b H'
def AP (X:Cx)(pins:List (Addr×Obj))(σ:St)(Q:List V→Hp→Prop)(us:List Value)(s':Shared):Prop:=∃vs H',Inv X pins σ H' s'∧zad vs us∧Q vs H'
def SP (X:Cx)(pins:List (Addr×Obj))(D:zcD)(f:Flow)(s':Shared):Prop:=
 match f with
 | .next=>∃σ' H',Inv X pins σ' H' s'∧D.nx σ' H'
 | .brk=>∃σ' H',Inv X pins σ' H' s'∧D.bk σ' H'
 | .cont=>∃σ' H',Inv X pins σ' H' s'∧D.ct σ' H'
 | .ret u=>∃v σ' H',Inv X pins σ' H' s'∧zac v u∧D.rt v H'

def PE (X:Cx)(e:Expr)(t:TE):Prop:=
 ∀(pins:List (Addr×Obj)) (s:Shared) (σ:St) (H:Hp) (Q:VK),Inv X pins σ H s→t σ H Q→wpAny (model X.prog X.w) X.A (eval e X.env) (EP X pins σ Q) X.xe s
def PT (X:Cx)(e:Expr)(t:TT):Prop:=
 ∀(pins:List (Addr×Obj)) (s:Shared) (σ:St) (H:Hp) (Q:Bool→Hp→Prop),Inv X pins σ H s→t σ H Q→wpAny (model X.prog X.w) X.A (isTrue e X.env (eval e X.env)) (TP X pins σ Q) X.xe s
def PW (X:Cx)(e:Expr)(t:TT):Prop:=
 ∀(whole:Sem Value) (pins:List (Addr×Obj)) (s:Shared) (σ:St) (H:Hp) (Q:Bool→Hp→Prop),Inv X pins σ H s→t σ H Q→wpAny (model X.prog X.w) X.A (isTrue e X.env whole) (TP X pins σ Q) X.xe s
theorem PW.pt {X:Cx}{e:Expr}{t:TT}(h:PW X e t):PT X e t:=h _
def PA (X:Cx)(es:List Expr)(t:TA):Prop:=
 ∀(pos:Pos) (pins:List (Addr×Obj)) (s:Shared) (σ:St) (H:Hp) (Q:List V→Hp→Prop),Inv X pins σ H s→t σ H Q→wpAny (model X.prog X.w) X.A (spliced (backTo pos (starEach es X.env))) (AP X pins σ Q) X.xe s
def PS (X:Cx)(st:Stmt)(t:TS):Prop:=
 ∀(pins:List (Addr×Obj)) (s:Shared) (σ:St) (H:Hp) (D:zcD),Inv X pins σ H s→t D σ H→wpAny (model X.prog X.w) X.A (exec st X.env) (SP X pins D) X.xe s
def PSs (X:Cx)(st:List Stmt)(t:TS):Prop:=
 ∀(pins:List (Addr×Obj)) (s:Shared) (σ:St) (H:Hp) (D:zcD),Inv X pins σ H s→t D σ H→wpAny (model X.prog X.w) X.A (execs st X.env) (SP X pins D) X.xe s
theorem thn {α:Type}{t:Sem α}{Q Q':α→Shared→Prop}{M:Model}{A:Around}{E:Value→Shared→Prop}{s:Shared}(h:wpAny M A t Q E s)(hQ:∀a s,Q a s→Q' a s):wpAny M A t Q' E s:=wpAny_mono h hQ fun _ _ x=>x
end L2

namespace L2
open PySem PySem.Spec PyProof.Rows
section
variable {X:Cx}

def tVar (i:Nat):TE:=fun σ H Q=>∃v,σ[i]?=some (some v)∧Q v H
def tC (v:V):TE:=fun _ H Q=>Q v H
theorem zgD {i:Nat}{x:Str}{pos:Pos}(hN:X.N[i]?=some x)(hv:Vis X.env.scope x)(hd:(x == ("__debug__":Str))=false:=by decide)(hcd:(x == ("__classdict__":Str))=false:=by decide):PE X (.Name x pos) (tVar i):=by
 intro pins s σ H Q I h
 obtain⟨v,e,h⟩:=h
 obtain⟨m,hn,hl⟩:=I.loc
 obtain⟨u,r,l⟩:=hl i x v hN e hv
 have fin:EP X pins σ Q u s:=⟨v,H,I,r,h⟩
 rcases l with ⟨hk,hm⟩ | ⟨hk,c,hc,hcell⟩
 ·exact wpAny_Name (wpAny_loadName_local I.ok.kind hk hn hm fin) hd
 ·rcases hk with hk | hk
  ·exact wpAny_Name (wpAny_loadName_cell I.ok.kind hk hc hcell fin) hd
  ·exact wpAny_Name (wpAny_loadName_free I.ok.kind hk hc hcell fin hcd) hd
theorem zjg {i j pos}:PE X (.Constant (.int i) j pos) (tC (.int i)):=fun _ _ _ H _ I h=>wpAny_Constant_int ⟨.int i,H,I.tok _,⟨_,rfl⟩,h⟩
theorem pe_bl {b j pos}:PE X (.Constant (.bool b) j pos) (tC (.bl b)):=fun _ _ _ H _ I h=>Constant_bool ⟨.bl b,H,I,rfl,h⟩
theorem zh3 {x j pos}:PE X (.Constant (.str x) j pos) (tC (.str x)):=fun _ _ _ H _ I h=>Calls.Constant_str ⟨.str x,H,I.tok _,⟨_,rfl⟩,h⟩

def Gl (X:Cx)(x:Str):Prop:=X.env.kindOf x=some .globalImplicit
theorem zg1 {E:Value→Shared→Prop}{pins:List (Addr×Obj)}{s:Shared}{σ:St}{H:Hp}{x:Str}{u:Value}{pos:Pos}{Q:Value→Shared→Prop}(I:Inv X pins σ H s)(hg:Gl X x)(hm:X.mg x=some u)(h:Q u s)
  (hd:(x == ("__debug__":Str))=false:=by decide):wpAny (model X.prog X.w) X.A (eval (.Name x pos) X.env) Q E s:=
 Calls.Name_function_global I.ok.kind hg (Calls.loadGlobal_global (by rw[I.ok.glob]; exact I.mod.glob.keeps I.bk) hm h) hd
theorem zdB {E:Value→Shared→Prop}{pins:List (Addr×Obj)}{s:Shared}{σ:St}{H:Hp}{x:Str}{u:Value}{pos:Pos}{Q:Value→Shared→Prop}(I:Inv X pins σ H s)(hg:Gl X x)(hm:X.mg x=none)(hv:bootBuiltins x=some u)(h:Q u s)
  (hn:x≠"__name__":=by decide)(hd:(x == ("__debug__":Str))=false:=by decide):wpAny (model X.prog X.w) X.A (eval (.Name x pos) X.env) Q E s:=by
 obtain⟨mb,h1,h2⟩:=I.mod.blt
 exact Calls.Name_function_global I.ok.kind hg (Calls.loadGlobal_builtin (by rw[I.ok.glob]; exact I.mod.glob.keeps I.bk) hm (by rw[I.ok.blt]; exact h1.keeps I.bk) ((h2 x hn).trans hv) h) hd
theorem zih {x:Str}{v:V}{u:Value}{pos:Pos}(hg:Gl X x)(hm:X.mg x=some u)(r:zac v u)(hd:(x == ("__debug__":Str))=false:=by decide):PE X (.Name x pos) (tC v):=
 fun _ _ _ H _ I h=>zg1 I hg hm ⟨v,H,I,r,h⟩ hd
theorem zfy {x:Str}{v:V}{u:Value}{pos:Pos}(hg:Gl X x)(hm:X.mg x=none)(hv:bootBuiltins x=some u)(r:zac v u)(hn:x≠"__name__":=by decide)(hd:(x == ("__debug__":Str))=false:=by decide):PE X (.Name x pos) (tC v):=
 fun _ _ _ H _ I h=>zdB I hg hm hv ⟨v,H,I,r,h⟩ hn hd

variable {a b:Expr}{ta tb:TE}{pos:Pos}
def tB (t:TE):TT:=fun σ H Q=>t σ H fun x H1=>∃c,x=.bl c∧Q c H1
theorem zir {e:Expr}{t:TE}(h:PE X e t)(he:∀whole,isTrue e X.env whole=(do let v ← whole; standAt e.pos; holding [v] (truthy v)):=by intro _; rfl):PT X e (tB t):=by
 intro pins s σ H Q I hw
 refine isTrue_plain (thn (h pins s σ H _ I hw) fun v s1 ⟨x,H1,I1,r1,q1⟩=>?_) (he _)
 obtain⟨d,rfl,q⟩:=q1
 cases r1
 exact wpAny_truthy_bool ⟨H1,I1,q⟩

variable {tA tB':TT}{zaz:List Expr}
def tOr (t u:TT):TT:=fun σ H Q=>t σ H fun c H1=>if c=true then Q true H1 else u σ H1 Q
def tNot (t:TT):TT:=fun σ H Q=>t σ H fun c H1=>Q (!c) H1
theorem zij (ha:PT X a tA):PW X (.BoolOp .Or [a] pos) tA:=by
 intro wh pins s σ H Q I h
 refine isTrue_or (thn (ha pins s σ H Q I h) fun c s1 e=>?_)
 cases c with
 | false=>exact isTrue_or_nil e
 | true=>exact e
theorem pw_or (ha:PT X a tA)(hb:PW X (.BoolOp .Or (b::zaz) pos) tB'):PW X (.BoolOp .Or (a::b::zaz) pos) (tOr tA tB'):=by
 intro wh pins s σ H Q I h
 refine isTrue_or (thn (ha pins s σ H _ I h) fun c s1 ⟨H1,I1,q1⟩=>?_)
 cases c with
 | true=>exact⟨H1,I1,q1⟩
 | false=>exact hb wh pins s1 σ H1 Q I1 q1
theorem ziS (ha:PT X a tA):PT X (.UnaryOp .Not a pos) (tNot tA):=by
 intro pins s σ H Q I h
 exact isTrue_not (ha pins s σ H (fun c H1=>Q (!c) H1) I h)
def tAndV (ta tb:TE):TE:=fun σ H Q=>ta σ H fun x H1=>∃c,x=.bl c∧if c=true then tb σ H1 Q else Q (.bl false) H1
def tNotV (ta:TE):TE:=fun σ H Q=>ta σ H fun x H1=>∃c,x=.bl c∧Q (.bl (!c)) H1
theorem zhT {op}{t:TE}(h:PE X a t):PE X (.BoolOp op [a] pos) t:=fun pins s σ H Q I hw=>BoolOp_one (h pins s σ H Q I hw)
theorem zjV (ha:PE X a ta)(hb:PE X (.BoolOp .And (b::zaz) pos) tb):PE X (.BoolOp .And (a::b::zaz) pos) (tAndV ta tb):=by
 intro pins s σ H Q I h
 refine BoolOp_and (thn (ha pins s σ H _ I h) fun v s1 ⟨x,H1,I1,r1,q1⟩=>?_)
 obtain⟨c,rfl,q1⟩:=q1
 cases r1
 refine wpAny_truthy_bool ?_
 cases c with
 | true=>exact hb pins s1 σ H1 Q I1 q1
 | false=>exact⟨.bl false,H1,I1,rfl,q1⟩
theorem zjv (ha:PE X a ta):PE X (.UnaryOp .Not a pos) (tNotV ta):=by
 intro pins s σ H Q I h
 refine UnaryOp_ (thn (ha pins s σ H _ I h) fun v s1 ⟨x,H1,I1,r1,q1⟩=>?_)
 obtain⟨c,rfl,q1⟩:=q1
 cases r1
 exact not_of (wpAny_truthy_bool ⟨.bl (!c),H1,I1,rfl,q1⟩)
end
end L2

namespace L2
open PySem PySem.Spec PyProof.Rows

def SqL (K:PySem.W.Frag)(H:Hp)(a:Addr)(xs:List V):Prop:=
 Rd H a (.lst xs)∨
  ∃(o:Obj) (its:Array Value) (n:Nat),K.lookup a=some o∧o.cls=.type "list"∧o.dict=none∧o.data=.seq its n∧its.size≤sizeLine∧zad xs its.toList
def SqT (K:PySem.W.Frag)(H:Hp)(a:Addr)(xs:List V):Prop:=
 Rd H a (.tup xs)∨
  ∃(o:Obj) (its:Array Value) (n:Nat),K.lookup a=some o∧o.cls=.type "tuple"∧o.data=.seq its n∧its.size≤sizeLine∧zad xs its.toList
def absV:Value→Option V
 | .none=>some .non
 | .bool b=>some (.bl b)
 | .int i _=>some (.int i)
 | .str x _=>some (.str x)
 | .bytes b _=>some (.byt b)
 | .float b _=>some (.flt b)
 | .ref a=>some (.ref a)
 | .type n=>some (.ty n)
 | _=>none
theorem zac.abs {x:V}{u:Value}(r:zac x u):absV u=some x:=by
 cases x with
 | non=>cases r; rfl
 | bl _=>cases r; rfl
 | int _=>obtain⟨t,rfl⟩:=r; rfl
 | str _=>obtain⟨t,rfl⟩:=r; rfl
 | byt _=>obtain⟨t,rfl⟩:=r; rfl
 | flt _=>obtain⟨t,rfl⟩:=r; rfl
 | ref _=>cases r; rfl
 | ty _=>cases r; rfl
theorem zac.inj {x y:V}{u:Value}(r:zac x u)(q:zac y u):x=y:=Option.some.inj (r.abs.symm.trans q.abs)
theorem zad.inj:∀ {xs ys:List V} {us:List Value},zad xs us→zad ys us→xs=ys
 | _,_,_,.nil,.nil=>rfl
 | _,_,_,.cons r t,.cons r' t'=>by rw[r.inj r',zad.inj t t']
section
variable {X:Cx}{pins:List (Addr×Obj)}{σ:St}{H:Hp}{s:Shared}{a:Addr}{xs ys:List V}
theorem SqL.of {K:PySem.W.Frag}(h:H a=some (.lst xs)):SqL K H a xs:=.inl (.inl h)
theorem SqT.of {K:PySem.W.Frag}(h:H a=some (.tup xs)):SqT K H a xs:=.inl (.inl h)
theorem Inv.list (I:Inv X pins σ H s)(h:SqL X.K H a xs):∃its:List Value,zad xs its∧PlainL s.heap a its.toArray∧xs.length≤sizeLine:=by
 rcases h with h | ⟨o,its,n,hk,hc,hd,hs,hz,r⟩
 ·obtain⟨z,its,n,r,e⟩:=h.ok I.hok
  exact⟨its,r,⟨_,n,e,rfl,rfl,rfl⟩,z⟩
 ·refine⟨its.toList,r,⟨o,n,I.kIn a o hk,hc,hd,by simpa using hs⟩,?_⟩
  have e:=r.length
  simp only[Array.length_toList] at e
  omega
theorem Inv.tuple (I:Inv X pins σ H s)(h:SqT X.K H a xs):∃its:List Value,zad xs its∧IsTup s.heap a its.toArray∧xs.length≤sizeLine:=by
 rcases h with h | ⟨o,its,n,hk,hc,hs,hz,r⟩
 ·obtain⟨z,its,r,p⟩:=h.ok I.hok
  exact⟨its,r,p,z⟩
 ·refine⟨its.toList,r,⟨o,I.kIn a o hk,hc,n,by simpa using hs⟩,?_⟩
  have e:=r.length
  simp only[Array.length_toList] at e
  omega
theorem Inv.list_inj (I:Inv X pins σ H s)(h:SqL X.K H a xs)(h':SqL X.K H a ys):xs=ys:=by
 obtain⟨its,r,⟨o,n,e,_,_,d⟩,_⟩:=I.list h
 obtain⟨its',r',⟨o',n',e',_,_,d'⟩,_⟩:=I.list h'
 rw[e] at e'; cases e'
 rw[d] at d'
 injection d' with d1 _
 have:its=its':=by simpa using congrArg Array.toList d1
 subst this
 exact r.inj r'
end

abbrev Cx.wish (X:Cx)(E:Value→Shared→Prop):Cx:={ X with xe:=E }
abbrev Cx.nox (X:Cx):Cx:=X.wish fun _ _=>False
theorem Cx.Ok.wish {X:Cx}(ok:X.Ok)(E:Value→Shared→Prop):(X.wish E).Ok:=
 ⟨ok.mod,ok.kind,ok.glob,ok.blt,ok.above,ok.inj,ok.has,ok.cab,ok.hd,ok.frames,ok.stk,ok.exf,ok.bs,ok.bsz,ok.noex,ok.exfs,ok.funs,ok.frf⟩
theorem Cx.Ok.unwish {X:Cx}{E:Value→Shared→Prop}(ok:(X.wish E).Ok):X.Ok:=
 ⟨ok.mod,ok.kind,ok.glob,ok.blt,ok.above,ok.inj,ok.has,ok.cab,ok.hd,ok.frames,ok.stk,ok.exf,ok.bs,ok.bsz,ok.noex,ok.exfs,ok.funs,ok.frf⟩
section
variable {X:Cx}{pins:List (Addr×Obj)}{σ:St}{H:Hp}{s:Shared}{E:Value→Shared→Prop}
theorem Inv.wish (I:Inv X pins σ H s)(E:Value→Shared→Prop):Inv (X.wish E) pins σ H s:=⟨I.ok.wish E,I.os,I.bare,I.base,I.loc,I.cell,I.free,I.freeC,I.pin,I.hok,I.len⟩
theorem Inv.unwish (I:Inv (X.wish E) pins σ H s):Inv X pins σ H s:=⟨I.ok.unwish,I.os,I.bare,I.base,I.loc,I.cell,I.free,I.freeC,I.pin,I.hok,I.len⟩
theorem SP.unwish {D:zcD}{f:Flow}{s':Shared}(h:SP (X.wish E) pins D f s'):SP X pins D f s':=by
 cases f with
 | next=>obtain⟨σ',H',I,q⟩:=h; exact⟨σ',H',I.unwish,q⟩
 | brk=>obtain⟨σ',H',I,q⟩:=h; exact⟨σ',H',I.unwish,q⟩
 | cont=>obtain⟨σ',H',I,q⟩:=h; exact⟨σ',H',I.unwish,q⟩
 | ret u=>obtain⟨v,σ',H',I,r,q⟩:=h; exact⟨v,σ',H',I.unwish,r,q⟩
theorem PE.nox {e:Expr}{t:TE}(h:PE X.nox e t):PE X e t:=fun pins s σ H Q I hw=>
 wpAny_mono (h pins s σ H Q (I.wish _) hw) (fun _ _ ⟨v,H',I',r,q⟩=>⟨v,H',I'.unwish,r,q⟩) fun _ _ z=>False.elim z
theorem PT.nox {e:Expr}{t:TT}(h:PT X.nox e t):PT X e t:=fun pins s σ H Q I hw=>
 wpAny_mono (h pins s σ H Q (I.wish _) hw) (fun _ _ ⟨H',I',q⟩=>⟨H',I'.unwish,q⟩) fun _ _ z=>False.elim z
theorem PSs.nox {st:List Stmt}{t:TS}(h:PSs X.nox st t):PSs X st t:=fun pins s σ H D I hw=>
 wpAny_mono (h pins s σ H D (I.wish _) hw) (fun _ _ q=>q.unwish) fun _ _ z=>False.elim z
end

section
variable {X:Cx}{st:Stmt}{zaz:List Stmt}{t u:TS}{e:Expr}{te:TE}{pos:Pos}
def tNext:TS:=fun D σ H=>D.nx σ H
def tSeq (t u:TS):TS:=fun D σ H=>t { D with nx:=u D } σ H
theorem zjG:PSs X [] tNext:=fun _ _ σ H _ I h=>wpAny_execs_nil ⟨σ,H,I,h⟩
theorem zi9 (h1:PS X st t)(h2:PSs X zaz u):PSs X (st::zaz) (tSeq t u):=by
 intro pins s σ H D I h
 refine wpAny_execs_cons (thn (h1 pins s σ H { D with nx:=u D } I h) fun f s1 q=>?_)
 cases f with
 | next=>
  obtain⟨σ',H',I',q⟩:=q
  exact h2 pins s1 σ' H' D I' q
 | ret v=>exact q
 | brk=>exact q
 | cont=>exact q
theorem zhL (h1:PS X st t):PSs X [st] t:=by
 intro pins s σ H D I h
 refine wpAny_execs_cons (thn (h1 pins s σ H D I h) fun f s1 q=>?_)
 cases f with
 | next=>exact wpAny_execs_nil q
 | ret v=>exact q
 | brk=>exact q
 | cont=>exact q
theorem Inv.quiet {pins:List (Addr×Obj)}{σ:St}{H:Hp}{s:Shared}(I:Inv X pins σ H s):interactive X.env=false:=by simp[interactive,I.ok.kind]
def tDrop (te:TE):TS:=fun D σ H=>te σ H fun _ H1=>D.nx σ H1
theorem zjL (he:PE X e te)(hs:swapsWith e none pos.line X.env=pure false:=by rfl):PS X (.Expr e pos) (tDrop te):=by
 intro pins s σ H D I h
 exact wpAny_Expr_any (thn (he pins s σ H _ I h) fun v s1 ⟨x,H1,I1,r1,q1⟩=>⟨σ,H1,I1,q1⟩) I.quiet hs
def tRet (te:TE):TS:=fun D σ H=>te σ H D.rt
theorem zi1 (he:PE X e te):PS X (.Return (some e) pos) (tRet te):=by
 intro pins s σ H D I h
 exact wpAny_Return_some (thn (he pins s σ H _ I h) fun v s1 ⟨x,H1,I1,r1,q1⟩=>⟨x,σ,H1,I1,r1,q1⟩)
def tIfS (c:TT)(t u:TS):TS:=fun D σ H=>c σ H fun b H1=>if b=true then t D σ H1 else u D σ H1
theorem ps_if {c:Expr}{a b:List Stmt}{tc:TT}(hc:PT X c tc)(ha:PSs X a t)(hb:PSs X b u):PS X (.If c a b pos) (tIfS tc t u):=by
 intro pins s σ H D I h
 refine wpAny_If (thn (hc pins s σ H _ I h) fun d s1 ⟨H1,I1,q1⟩=>?_)
 cases d with
 | true=>exact ha pins s1 σ H1 D I1 q1
 | false=>exact hb pins s1 σ H1 D I1 q1
end

abbrev TG:=V→St→Hp→(St→Hp→Prop)→Prop
abbrev TGs:=List V→St→Hp→(St→Hp→Prop)→Prop
def PG (X:Cx)(target:Expr)(t:TG):Prop:=
 ∀(pins:List (Addr×Obj)) (s:Shared) (σ:St) (H:Hp) (v:V) (u:Value) (Q:St→Hp→Prop),Inv X pins σ H s→zac v u→t v σ H Q→
  wpAny (model X.prog X.w) X.A (assign target X.env u) (fun _ s'=>∃σ' H',Inv X pins σ' H' s'∧Q σ' H') X.xe s
def PGs (X:Cx)(ts:List Expr)(t:TGs):Prop:=
 ∀(pins:List (Addr×Obj)) (s:Shared) (σ:St) (H:Hp) (vs:List V) (us:List Value) (Q:St→Hp→Prop),Inv X pins σ H s→zad vs us→t vs σ H Q→
  wpAny (model X.prog X.w) X.A (assignInOrder ((assignEach ts X.env).map (·.2)) us) (fun _ s'=>∃σ' H',Inv X pins σ' H' s'∧Q σ' H') X.xe s
abbrev TSet:=V→V→V→Hp→(Hp→Prop)→Prop
def PSet (X:Cx)(t:TSet):Prop:=
 ∀(pins:List (Addr×Obj)) (s:Shared) (σ:St) (H:Hp) (o i v:V) (ov iv u:Value) (Q:Hp→Prop),Inv X pins σ H s→zac o ov→zac i iv→zac v u→t o i v H Q→
  wpAny (model X.prog X.w) X.A (setItem ov iv u) (fun _ s'=>∃H',Inv X pins σ H' s'∧Q H') X.xe s
section
variable {X:Cx}{pos:Pos}
def zfA (i:Nat):TG:=fun v σ H Q=>Q (σ.set i (some v)) H
theorem zdO {i:Nat}{x:Str}(hN:X.N.Nodup)(hi:X.N[i]?=some x)(hx:Loc X.env.scope x)(hf:X.fn x=true∨X.env.scope.names.lookup x=some .local:=by first | exact .inl rfl | exact .inr rfl | assumption):PG X (.Name x pos) (zfA i):=by
 intro pins s σ H v u Q I r h
 exact wpAny_assign_Name (zfr I hN hi hx r (fun s' I'=>⟨_,H,I',h⟩) hf)
def gNil:TGs:=fun vs σ H Q=>vs=[]∧Q σ H
def gCons (t:TG)(u:TGs):TGs:=fun vs σ H Q=>∃v r,vs=v::r∧t v σ H fun σ' H'=>u r σ' H' Q
theorem zhv:PGs X [] gNil:=by
 intro pins s σ H vs us Q I r h
 obtain⟨e,h⟩:=h
 subst e
 cases r
 exact assignInOrder_nil ⟨σ,H,I,h⟩
theorem zim {e:Expr}{es:List Expr}{t:TG}{u:TGs}(h1:PG X e t)(h2:PGs X es u)
  (hs:(assignEach (e::es) X.env).map (·.2)=assign e X.env::(assignEach es X.env).map (·.2):=by rfl):PGs X (e::es) (gCons t u):=by
 intro pins s σ H vs us Q I r h
 obtain⟨v,vr,e1,h⟩:=h
 subst e1
 cases r with
 | cons r rr=>
  rw[hs]
  refine assignInOrder_cons (thn (h1 pins s σ H _ _ _ I r h) fun _ s1 ⟨σ1,H1,I1,q1⟩=>?_)
  exact h2 pins s1 σ1 H1 _ _ Q I1 rr q1
def gTup (K:PySem.W.Frag)(n:Nat)(t:TGs):TG:=fun v σ H Q=>∃a xs,v=.ref a∧SqT K H a xs∧xs.length=n∧t xs σ H Q
theorem zf3 {es:List Expr}{k:Nat}{t:TGs}{n:Nat}(hc:X.calm=true)(h:PGs X es t)
  (hn:(assignEach es X.env).length=n:=by rfl)(hst:(assignEach es X.env).findIdx? (·.1)=none:=by rfl):PG X (.Tuple es k pos) (gTup X.K n t):=by
 intro pins s σ H v u Q I r hw
 obtain⟨a,xs,e1,hq,hl,hw⟩:=hw
 subst e1
 cases r
 obtain⟨its,rv,ht,hz⟩:=I.tuple hq
 refine assign_Tuple_tuple (I.ok.hd hc) ht (by simp[hn,← hl,rv.length]) hst fun h' hx=>?_
 have I1:Inv X pins σ H { s with heap:=h' }:=I.kept (t':=s.toks) fun b o e=>hx b o (Nat.ne_of_lt (Heap.lt_size e)) e
 exact h pins _ σ H xs _ Q I1 (by simpa using rv) hw
def gSub (to ti:TE)(t:TSet):TG:=fun v σ H Q=>to σ H fun o H1=>ti σ H1 fun i H2=>t o i v H2 fun H3=>Q σ H3
theorem zh1 {o i:Expr}{to ti:TE}{t:TSet}(ho:PE X o to)(hi:PE X i ti)(hs:PSet X t)
  (ha:∀v,assign (.Subscript o i pos) X.env v=(do
   let ov ← holding [v] (eval o X.env)
   let iv ← holding [v,ov] (eval i X.env)
   standAt pos
   holding [v,ov,iv] (setItem ov iv v)
   release [v,ov,iv] []):=by intro _; rfl):PG X (.Subscript o i pos) (gSub to ti t):=by
 intro pins s σ H v u Q I r h
 rw[ha]
 refine wpAny_bind (wpAny_holding (thn (ho pins s σ H _ I h) fun ov s1 ⟨x,H1,I1,r1,q1⟩=>?_))
 refine wpAny_bind (wpAny_holding (thn (hi pins s1 σ H1 _ I1 q1) fun iv s2 ⟨y,H2,I2,r2,q2⟩=>?_))
 refine wpAny_bind (wpAny_standAt (wpAny_bind (wpAny_holding (thn (hs pins s2 σ H2 x y v ov iv u _ I2 r1 r2 r q2) fun _ s3 ⟨H3,I3,q3⟩=>?_))))
 exact wpAny_release ⟨σ,H3,I3,q3⟩
def tAsg (te:TE)(g:TG):TS:=fun D σ H=>te σ H fun x H1=>g x σ H1 D.nx
theorem zhu {tg e:Expr}{te:TE}{g:TG}(he:PE X e te)(hg:PG X tg g)(hs:swapsWithSole [tg] e pos.line X.env=pure false:=by rfl)(hw:swappedStores [tg] e X.env=pure none:=by rfl)
  (h1:(assignEach [tg] X.env).map (·.2)=[assign tg X.env]:=by rfl):PS X (.Assign [tg] e pos) (tAsg te g):=by
 intro pins s σ H D I h
 refine wpAny_Assign_stores (thn (he pins s σ H _ I h) fun v s1 ⟨x,H1,I1,r1,q1⟩=>?_) hs hw
 rw[h1]
 exact thn (hg pins s1 σ H1 x v _ I1 r1 q1) fun _ s2 q=>q
theorem zhR {i:Nat}{x:Str}{e:Expr}{te:TE}{pos':Pos}(hN:X.N.Nodup)(hi:X.N[i]?=some x)(hx:Loc X.env.scope x)(he:PE X e te)(hs:swapsWith e (some (.Name x pos')) pos.line X.env=pure false:=by rfl)(hf:X.fn x=true∨X.env.scope.names.lookup x=some .local:=by first | exact .inl rfl | exact .inr rfl | assumption):
  PS X (.Assign [.Name x pos'] e pos) (tAsg te (zfA i)):=by
 intro pins s σ H D I h
 refine wpAny_Assign_Name (thn (he pins s σ H _ I h) fun v s1 ⟨y,H1,I1,r1,q1⟩=>?_) hs
 exact zfr I1 hN hi hx r1 (fun s2 I2=>⟨_,H1,I2,q1⟩) hf
end

section
variable {X:Cx}{pos:Pos}
end

structure It where
 go:Nat→Hp→Prop
 yld:Nat→Hp→V→Hp→Prop
 stop:Nat→Hp→Prop
def za3 (X:Cx)(pins:List (Addr×Obj))(H:Hp)(b:Addr):Prop:=
 H b=none∧b≠X.env.locals∧b ∉ X.fs∧(b∈X.ex∨X.s₀.heap.objs.size≤b)∧(∀x c,X.env.cells.lookup x=some c→c≠b)∧∀p∈X.pn++pins,p.1≠b
theorem Inv.fpOk {X:Cx}{pins:List (Addr×Obj)}{σ:St}{H H':Hp}{s:Shared}{b:Addr}(I:Inv X pins σ H s)(hb:s.heap.objs.size≤b)(hn:H' b=none):za3 X pins H' b:=by
 refine⟨hn,Nat.ne_of_gt (Nat.lt_of_lt_of_le I.lt hb),I.nofs hb,.inr (Nat.le_trans I.sz hb),fun x c e z=>?_,fun p hp z=>?_⟩
 ·obtain⟨v,q⟩:=I.cell x c e
  exact absurd (Nat.lt_of_lt_of_le q.lt (by rw[z]; exact hb)) (Nat.lt_irrefl _)
 ·exact absurd (Nat.lt_of_lt_of_le (Heap.lt_size (I.pin p hp).1) (by rw[z]; exact hb)) (Nat.lt_irrefl _)
structure zeB (P:Program)(w:World)(K:PySem.W.Frag)(tg:Expr)(J:It)(fp:List Addr)(it:Addr)(tn:Nat→Heap→Prop):Prop where
 mem:it∈fp
 obj:∀i h,tn i h→∀b∈fp,∃o,h.get? b=some o∧∀v,o.data≠.cell v
 keep:∀i h h',tn i h→(∀b∈fp,∀o,h.get? b=some o→h'.get? b=some o)→tn i h'
 item:∀(X:Cx),X.prog=P→X.w=w→X.K=K→X.calm=true→∀(i:Nat) (pins:List (Addr×Obj)) (s:Shared) (σ:St) (H:Hp) (E:Value→Shared→Prop),Inv X pins σ H s→(∀b∈fp,za3 X pins H b)→tn i s.heap→J.go i H→
  wpAny (model P w) X.A (pyNext (.ref it)) (fun r s1=>∃u,r=some u∧
   wpAny (model P w) X.A (letOwnedTupleGo tg (.ref it) u) (fun _ s2=>∃x H',Inv X pins σ H' s2∧zac x u∧J.yld i H x H'∧tn (i + 1) s2.heap∧∀b∈fp,H' b=none) E s1) E s
 done:∀(X:Cx),X.prog=P→X.w=w→X.K=K→X.calm=true→∀(i:Nat) (pins:List (Addr×Obj)) (s:Shared) (σ:St) (H:Hp) (E:Value→Shared→Prop),Inv X pins σ H s→(∀b∈fp,za3 X pins H b)→tn i s.heap→J.stop i H→
  wpAny (model P w) X.A (pyNext (.ref it)) (fun r s1=>r=none∧Inv X pins σ H s1) E s
 self:∀(A:Around) (i:Nat) (s:Shared) (Q:Value→Shared→Prop) (E:Value→Shared→Prop),tn i s.heap→Q (.ref it) s→wpAny (model P w) A (pyIter (.ref it)) Q E s
abbrev TI:=St→Hp→(It→Hp→Prop)→Prop
def PIE (X:Cx)(pins:List (Addr×Obj))(σ:St)(tg:Expr)(R:It→Hp→Prop)(itv:Value)(s2:Shared):Prop:=
 ∃(it:Addr) (fp:List Addr) (tn:Nat→Heap→Prop) (J:It) (H':Hp),itv=.ref it∧Inv X pins σ H' s2∧zeB X.prog X.w X.K tg J fp it tn∧tn 0 s2.heap∧(∀b∈fp,za3 X pins H' b)∧R J H'
def PI (X:Cx)(tg iter:Expr)(wi:TI):Prop:=
 ∀(pins:List (Addr×Obj)) (s:Shared) (σ:St) (H:Hp) (R:It→Hp→Prop),Inv X pins σ H s→wi σ H R→
  wpAny (model X.prog X.w) X.A (eval iter X.env) (fun v s1=>wpAny (model X.prog X.w) X.A (pyIter v) (PIE X pins σ tg R) X.xe s1) X.xe s

theorem zfm {M:Model}{A:Around}{E:Value→Shared→Prop}{s:Shared}{tg:Expr}{it:Addr}{u:Value}{o:Obj}{n:String}{vs:Array Value}{Q:Unit→Shared→Prop}(ho:s.heap.get? it=some o)(hc:o.cls=.type n)(hd:o.data=.fields vs)
    (hn:["enumerate","zip","dict_itemiterator","dict_reverseitemiterator","odict_iterator","itertools.zip_longest","itertools.pairwise"].contains n=false)(hQ:Q () s):wpAny M A (letOwnedTupleGo tg (.ref it) u) Q E s:=by
  unfold letOwnedTupleGo
  cases tg <;> first
    | exact wpAny_pure hQ
    | (cases u <;> first
        | exact wpAny_pure hQ
        | (refine wpAny_bind (wpAny_load ho ?_)
           rw[hc,hd]
           show wpAny M A (if (["enumerate","zip","dict_itemiterator","dict_reverseitemiterator","odict_iterator","itertools.zip_longest","itertools.pairwise"].contains n && vs[0]? == some (rawInt _))=true then _ else _) Q E s
           rw[if_neg (by intro h; rw[hn,Bool.false_and] at h; cases h)]
           exact wpAny_pure hQ))

def Itl (K:PySem.W.Frag)(a:Addr):It:=
 ⟨fun i H=>∃xs x,SqL K H a xs∧xs[i]?=some x,fun i H x H'=>H'=H∧∀xs,SqL K H a xs→xs[i]?=some x,fun i H=>∃xs,SqL K H a xs∧xs.length≤i⟩
def Itr (lo:Int)(n:Nat):It:=⟨fun i _=>i < n,fun i H x H'=>H'=H∧x=.int (lo + i),fun i _=>n≤i⟩
theorem zhc {P:Program}{w:World}{K:PySem.W.Frag}{tg:Expr}(a it:Addr):zeB P w K tg (Itl K a) [it] it (fun i h=>h.IsListIter it a i) where
 mem:=by simp
 obj:=fun i h st b hb=>by
  have e:b=it:=by simpa using hb
  subst e
  obtain⟨o,e,c,d⟩:=st
  exact⟨o,e,fun v z=>by rw[d] at z; cases z⟩
 keep:=fun i h h' st k=>st.at fun o e=>k it (by simp) o e
 item:=by
  intro X hP hw hK hc i pins s σ H E I hf st hg
  subst hP hw hK
  obtain⟨xs,x,hq,hx⟩:=hg
  obtain⟨its,rv,p,hz⟩:=I.list hq
  obtain⟨u,hu,ru⟩:=rv.get hx
  obtain⟨f0,f1,f2,f3,f4,f5⟩:=hf it (by simp)
  refine wpAny_pyNext_list_item st p.isList (x:=u) (by simpa using hu) fun h' st' sb=>?_
  have I1:Inv X pins σ H { s with heap:=h' }:=I.turned (t':=s.toks) (fun b o hb e=>(sb.2 b hb).trans e) f0 f1 f3 f4 f5
  obtain⟨o,e,c,d⟩:=id st'
  exact⟨u,rfl,zfm (s:={ s with heap:=h' }) e c d (by decide) ⟨x,H,I1,ru,⟨rfl,fun ys hy=>by rw[I.list_inj hy hq]; exact hx⟩,st',fun b hb=>(hf b hb).1⟩⟩
 done:=by
  intro X hP hw hK hc i pins s σ H E I hf st hg
  subst hP hw hK
  obtain⟨xs,hq,hx⟩:=hg
  obtain⟨its,rv,p,hz⟩:=I.list hq
  obtain⟨f0,f1,f2,f3,f4,f5⟩:=hf it (by simp)
  have hl:=rv.length
  exact wpAny_pyNext_list_end (I.ok.hd hc) st p.isList (by simp; omega) fun h' eb=>⟨rfl,I.turned (t':=s.toks) (fun b o hb e=>eb b o hb e) f0 f1 f3 f4 f5⟩
 self:=fun _ _ _ _ _ st h=>wpAny_pyIter_listiter st h
theorem zhV {P:Program}{w:World}{K:PySem.W.Frag}{tg:Expr}(it:Addr)(lo:Int)(n:Nat):zeB P w K tg (Itr lo n) [it] it (fun i h=>IsRangeIter h it (lo + (i:Nat) * 1) ((n:Int) - (i:Nat)) 1) where
 mem:=by simp
 obj:=fun i h st b hb=>by
  have e:b=it:=by simpa using hb
  subst e
  exact⟨_,st,fun v z=>by
   have z':Data.fields _=Data.cell v:=z
   cases z'⟩
 keep:=fun i h h' st k=>k it (by simp) _ st
 item:=by
  intro X hP hw hK hc i pins s σ H E I hf st hg
  subst hP hw hK
  obtain⟨f0,f1,f2,f3,f4,f5⟩:=hf it (by simp)
  have W:=Walks.range (prog:=X.prog) (w:=X.w) (I.ok.hd hc) it lo 1 n
  refine W.item i s _ _ hg st fun v h' tk hv st' kk=>?_
  obtain⟨t,rfl⟩:=hv
  have I1:Inv X pins σ H { s with heap:=h',toks:=tk }:=I.turned (fun b o hb e=>kk b o (by simpa using hb) e) f0 f1 f3 f4 f5
  refine⟨_,rfl,zfm (s:={ s with heap:=h',toks:=tk }) (n:="range_iterator") st' rfl rfl (by decide) ⟨.int (lo + i),H,I1,⟨t,?_⟩,⟨rfl,rfl⟩,st',fun b hb=>(hf b hb).1⟩⟩
  rw[Int.mul_one]
 done:=by
  intro X hP hw hK hc i pins s σ H E I hf st hg
  subst hP hw hK
  obtain⟨f0,f1,f2,f3,f4,f5⟩:=hf it (by simp)
  exact wpAny_pyNext_range_end (I.ok.hd hc) st (by have:n≤i:=hg; omega) fun h' eb=>⟨rfl,I.turned (t':=s.toks) (fun b o hb e=>eb b o hb e) f0 f1 f3 f4 f5⟩
 self:=fun _ _ _ _ _ st h=>wpAny_pyIter_rangeiter st h
end L2

namespace L2
open PySem PySem.Spec PyProof.Rows
section
variable {X:Cx}{tg:Expr}
def zgX (K:PySem.W.Frag)(tl:TE):TI:=fun σ H R=>tl σ H fun x H1=>∃a,x=.ref a∧(∃xs,SqL K H1 a xs)∧R (Itl K a) H1
theorem zeO {l:Expr}{tl:TE}(hl:PE X l tl):PI X tg l (zgX X.K tl):=by
 intro pins s σ H R I h
 refine thn (hl pins s σ H _ I h) fun v s1 ⟨x,H1,I1,r1,q1⟩=>?_
 obtain⟨a,e,⟨xs,hq⟩,q⟩:=q1
 subst e
 cases r1
 obtain⟨its,rv,p,hz⟩:=I1.list hq
 refine wpAny_pyIter_list p.isList ?_
 refine⟨s1.heap.objs.size,[s1.heap.objs.size],_,_,H1,rfl,I1.kept (t':=s1.toks) fun b o e=>Heap.get?_push_of_some _ e,zhc a _,⟨_,Heap.get?_push_size _ rfl,rfl,rfl⟩,fun b hb=>?_,q⟩
 have e:b=s1.heap.objs.size:=by simpa using hb
 subst e
 exact I1.fpOk (Nat.le_refl _) (I1.hok.fresh (Nat.le_refl _))
theorem zhg {pins:List (Addr×Obj)}{σ:St}{H:Hp}{s:Shared}{R:It→Hp→Prop}{E:Value→Shared→Prop}{lo hi:Int}{t u v:Tok}{tk:Nat}(I:Inv X pins σ H s)(h1:-(2 ^ 62)≤lo)(h2:lo < 2 ^ 62)(h3:-(2 ^ 62)≤hi)(h4:hi < 2 ^ 62)
  (q:R (Itr lo (hi - lo).toNat) H):wpAny (model X.prog X.w) X.A (pyIter (.ref s.heap.objs.size)) (PIE X pins σ tg R) E { s with heap:=s.heap.push { cls:=.type "range",data:=.fields #[.int lo t,.int hi u,.int 1 v] },toks:=tk }:=by
 refine wpAny_pyIter_range (IsRange.new ..) (small_one h1 h2 h3 h4) ?_
 have I1:Inv X pins σ H { s with heap:=s.heap.push { cls:=.type "range",data:=.fields #[.int lo t,.int hi u,.int 1 v] },toks:=tk }:=I.kept fun b o e=>Heap.get?_push_of_some _ e
 refine⟨(s.heap.push { cls:=.type "range",data:=.fields #[.int lo t,.int hi u,.int 1 v] }).objs.size,[(s.heap.push { cls:=.type "range",data:=.fields #[.int lo t,.int hi u,.int 1 v] }).objs.size],_,_,H,rfl,
  I1.kept (t':=tk) fun b o e=>Heap.get?_push_of_some _ e,zhV _ lo (hi - lo).toNat,?_,fun b hb=>?_,q⟩
 ·have e1:lo + ((0:Nat):Int) * 1=lo:=by simp
  have e2:(((hi - lo).toNat:Nat):Int) - ((0:Nat):Int)=Builtin.Range.rangeSize lo hi 1:=by rw[rangeSize_one]; split <;> omega
  show IsRangeIter _ _ (lo + ((0:Nat):Int) * 1) ((((hi - lo).toNat:Nat):Int) - ((0:Nat):Int)) 1
  rw[e1,e2]
  exact Heap.get?_push_size _ rfl
 ·have e:b=(s.heap.push { cls:=.type "range",data:=.fields #[.int lo t,.int hi u,.int 1 v] }).objs.size:=by simpa using hb
  subst e
  exact I1.fpOk (Nat.le_refl _) (I1.hok.fresh (Nat.le_refl _))
def zfO (ta:TA):TI:=fun σ H R=>ta σ H fun vs H1=>∃j:Int,vs=[.int j]∧-(2 ^ 62)≤j∧j < 2 ^ 62∧R (Itr 0 j.toNat) H1
theorem zeT {a:Expr}{ta:TA}{p pos:Pos}(hg:Gl X "range")(hm:X.mg "range"=none)(ha:PA X [a] ta)(hs:starEach [a] X.env=[(false,eval a X.env)]:=by rfl):PI X tg (.Call (.Name "range" p) [a] [] pos) (zfO ta):=by
 intro pins s σ H R I h
 refine Call_ (zdB I hg hm boot_range (PyProof.Rows.callWith_type1 (thn (ha pos pins s σ H _ I h) fun us s1 ⟨vs,H1,I1,r1,q1⟩=>?_) hs rfl))
 obtain⟨j,e,q1,q2,q⟩:=q1
 subst e
 cases r1 with
 | cons r rr=>
  cases rr
  obtain⟨t,rfl⟩:=r
  exact call_range_1 (zhg I1 (by omega) (by omega) q1 q2 (by simpa using q))
def tFor (wi:TI)(g:TG)(tb:TS):TS:=fun D σ H=>wi σ H fun J H1=>∃W:Nat→Nat→St→Hp→Prop,(∃m,W 0 m σ H1)∧∀i m σ H,W i m σ H→
 (J.stop i H∧D.nx σ H)∨(J.go i H∧∃N:St→Hp→Prop,(∀σ' H',N σ' H'→∃m',m' < m∧W (i + 1) m' σ' H')∧∀x H',J.yld i H x H'→g x σ H' fun σ2 H2=>tb { D with nx:=N,ct:=N,bk:=D.nx } σ2 H2)
def zcO (fp:List Addr)(h:Heap):List (Addr×Obj):=fp.filterMap fun b=>(h.get? b).map fun o=>(b,o)
theorem zcA {fp:List Addr}{h:Heap}{b:Addr}{o:Obj}(hb:b∈fp)(e:h.get? b=some o):(b,o)∈zcO fp h:=List.mem_filterMap.mpr ⟨b,hb,by rw[e]; rfl⟩
theorem zik {fp:List Addr}{h:Heap}{p:Addr×Obj}(hp:p∈zcO fp h):p.1∈fp∧h.get? p.1=some p.2:=by
 obtain⟨b,hb,e⟩:=List.mem_filterMap.mp hp
 cases q:h.get? b with
 | none=>rw[q] at e; cases e
 | some o=>
  rw[q] at e
  have e':(b,o)=p:=Option.some.inj e
  subst e'
  exact⟨hb,q⟩
theorem Inv.pinned {pins:List (Addr×Obj)}{σ:St}{H:Hp}{s:Shared}{fp:List Addr}(I:Inv X pins σ H s)(hf:∀b∈fp,za3 X pins H b)(ho:∀b∈fp,∃o,s.heap.get? b=some o∧∀v,o.data≠.cell v):Inv X (pins++zcO fp s.heap) σ H s:=
 I.pins_of fun p hp=>(List.mem_append.mp hp).elim (fun z=>I.pin p (List.mem_append_right _ z)) fun z=>by
  obtain⟨hb,e⟩:=zik z
  obtain⟨f0,f1,f2,_⟩:=hf p.1 hb
  obtain⟨o,e',d⟩:=ho p.1 hb
  rw[e] at e'; cases e'
  exact⟨e,f0,f1,f2,d⟩
theorem Inv.unpinned {pins pl:List (Addr×Obj)}{σ:St}{H:Hp}{s:Shared}(I:Inv X (pins++pl) σ H s):Inv X pins σ H s:=I.pins_of fun p hp=>I.pin p (List.mem_append_right _ (List.mem_append_left _ hp))
theorem zfd {iter:Expr}{body:List Stmt}{wi:TI}{g:TG}{tb:TS}{pos:Pos}(hp:PassesOwn (model X.prog X.w) X.A X.env X.xe)(hc:X.calm=true)(hi:PI X tg iter wi)(hg:PG X tg g)(hb:PSs X body tb)
  (hs:∀x,foldedSetIterable iter X.env x=pure x:=by intro _; rfl):PS X (.For tg iter body [] pos) (tFor wi g tb):=by
 intro pins s σ H D I h
 refine wpAny_For (thn (hi pins s σ H _ I h) fun v s1 h1=>thn h1 fun itv s2 h2=>?_) hs
 obtain⟨it,fp,tn,J,H2,e,I2,T,st2,f2,W,⟨m0,w0⟩,turn⟩:=h2
 subst e
 -- what stays true of the iterator's objects through the loop
 have stat:∀ {H':Hp},(∀b∈fp,H' b=none)→∀b∈fp,za3 X pins H' b:=fun hn b hb=>⟨hn b hb,(f2 b hb).2⟩
 refine codeAny_forLoop_any (fun n s'=>∃i σ' H',Inv X pins σ' H' s'∧tn i s'.heap∧(∀b∈fp,H' b=none)∧W i n σ' H') ?_ m0 ⟨0,σ,H2,I2,st2,fun b hb=>(f2 b hb).1,w0⟩
 rintro n s3 ⟨i,σ3,H3,I3,st3,fr3,w3⟩
 rcases turn i n σ3 H3 w3 with ⟨stop,qn⟩ | ⟨go,N,hN,step⟩
 ·refine wpAny_passesOwn hp (thn (T.done X rfl rfl rfl hc i pins s3 σ3 H3 X.xe I3 (stat fr3) st3 stop) fun r s4 ⟨hr,I4⟩=>?_)
  subst hr
  exact wpAny_execs_nil ⟨σ3,H3,I4,qn⟩
 ·refine wpAny_passesOwn hp (thn (T.item X rfl rfl rfl hc i pins s3 σ3 H3 X.xe I3 (stat fr3) st3 go) fun r s4 ⟨u,hr,h4⟩=>?_)
  subst hr
  refine wpAny_passesOwn hp (thn h4 fun _ s5 ⟨x,H5,I5,r5,y5,st5,fr5⟩=>?_)
  have I5':=I5.pinned (stat fr5) (T.obj _ _ st5)
  refine wpAny_passesOwn hp (thn (hg _ s5 σ3 H5 x u _ I5' r5 (step x H5 y5)) fun _ s6 ⟨σ6,H6,I6,q6⟩=>?_)
  refine wpAny_passesOwn hp (thn (hb _ s6 σ6 H6 _ I6 q6) fun f s7 q7=>?_)
  have again:∀ {σ7:St} {H7:Hp},Inv X (pins++zcO fp s5.heap) σ7 H7 s7→N σ7 H7→∃m,m < n∧∃i σ' H',Inv X pins σ' H' s7∧tn i s7.heap∧(∀b∈fp,H' b=none)∧W i m σ' H':=fun {σ7 H7} I7 n7=>by
   obtain⟨m',hm,w7⟩:=hN σ7 H7 n7
   refine⟨m',hm,i + 1,σ7,H7,I7.unpinned,T.keep _ _ _ st5 fun b hb o e=>(I7.pin (b,o) (List.mem_append_right _ (List.mem_append_right _ (zcA hb e)))).1,fun b hb=>?_,w7⟩
   obtain⟨o,e,d⟩:=T.obj _ _ st5 b hb
   exact(I7.pin (b,o) (List.mem_append_right _ (List.mem_append_right _ (zcA hb e)))).2.1
  cases f with
  | next=>obtain⟨σ7,H7,I7,n7⟩:=q7; exact again I7 n7
  | cont=>obtain⟨σ7,H7,I7,n7⟩:=q7; exact again I7 n7
  | brk=>obtain⟨σ7,H7,I7,q7⟩:=q7; exact⟨σ7,H7,I7.unpinned,q7⟩
  | ret v=>obtain⟨x7,σ7,H7,I7,r7,q7⟩:=q7; exact⟨x7,σ7,H7,I7.unpinned,r7,q7⟩
end

end L2

namespace L2
open PySem PySem.Spec PyProof.Rows

abbrev R2:=V→V→Hp→VK→Prop
def OpR (X:Cx)(f:Value→Value→Sem Value)(r:R2):Prop:=
 ∀(pins:List (Addr×Obj)) (s:Shared) (σ:St) (H:Hp) (x y:V) (v u:Value) (Q:VK),Inv X pins σ H s→zac x v→zac y u→r x y H Q→
  wpAny (model X.prog X.w) X.A (f v u) (EP X pins σ Q) X.xe s
def zaU (X:Cx)(f:Value)(r:List V→Hp→VK→Prop):Prop:=
 ∀(pins:List (Addr×Obj)) (s:Shared) (σ:St) (H:Hp) (xs:List V) (us:List Value) (Q:VK),Inv X pins σ H s→zad xs us→r xs H Q→
  wpAny (model X.prog X.w) X.A (call f us) (EP X pins σ Q) X.xe s
def tOp (r:R2)(ta tb:TE):TE:=fun σ H Q=>ta σ H fun x H1=>tb σ H1 fun y H2=>r x y H2 Q
def rI (C:Int→Int→Prop)(g:Int→Int→V):R2:=fun x y H Q=>∃i j,x=.int i∧y=.int j∧C i j∧Q (g i j) H
def rI0 (g:Int→Int→V):R2:=fun x y H Q=>∃i j,x=.int i∧y=.int j∧Q (g i j) H
section
variable {X:Cx}{a b c:Expr}{ta tb tc:TE}{pos:Pos}

theorem binT (ha:PE X a ta)(hb:PE X b tb){pins:List (Addr×Obj)}{s:Shared}{σ:St}{H:Hp}{R:V→V→Hp→Prop}(I:Inv X pins σ H s)
  (h:ta σ H fun x H1=>tb σ H1 fun y H2=>R x y H2){Q:Value→Shared→Prop}{f:Value→Value→Sem Value}
  (hf:∀v u s2 x y H2,Inv X pins σ H2 s2→zac x v→zac y u→R x y H2→wpAny (model X.prog X.w) X.A (f v u) Q X.xe s2):
  wpAny (model X.prog X.w) X.A (eval a X.env) (fun v s₁=>wpAny (model X.prog X.w) X.A (eval b X.env) (fun u s₂=>wpAny (model X.prog X.w) X.A (f v u) Q X.xe s₂) X.xe s₁) X.xe s:=by
 refine thn (ha pins s σ H _ I h) fun v s1 ⟨x,H1,I1,r1,q1⟩=>?_
 refine thn (hb pins s1 σ H1 _ I1 q1) fun u s2 ⟨y,H2,I2,r2,q2⟩=>?_
 exact hf v u s2 x y H2 I2 r1 r2 q2

theorem pe_op {op:Operator}{r:R2}(ho:OpR X (binaryOp op) r)(ha:PE X a ta)(hb:PE X b tb):PE X (.BinOp a op b pos) (tOp r ta tb):=by
 intro pins s σ H Q I h
 exact wpAny_BinOp (binT ha hb I h fun v u s2 x y H2 I2 rx ry q=>ho pins s2 σ H2 x y v u Q I2 rx ry q)
theorem opI {f:Value→Value→Sem Value}{C:Int→Int→Prop}{g:Int→Int→Int}
  (rule:∀(i j:Int) (t u:Tok) (s:Shared) (Q:Value→Shared→Prop) (E:Value→Shared→Prop),C i j→Q (.int (g i j) s.toks) { s with toks:=s.toks + 1 }→wpAny (model X.prog X.w) X.A (f (.int i t) (.int j u)) Q E s):
  OpR X f (rI C fun i j=>.int (g i j)):=by
 intro pins s σ H x y v u Q I rx ry h
 obtain⟨i,j,rfl,rfl,hc,q⟩:=h
 obtain⟨t,rfl⟩:=rx
 obtain⟨t',rfl⟩:=ry
 exact rule i j t t' s _ _ hc ⟨.int (g i j),H,I.tok _,⟨_,rfl⟩,q⟩
theorem opI0 {f:Value→Value→Sem Value}{g:Int→Int→Int}
  (rule:∀(i j:Int) (t u:Tok) (s:Shared) (Q:Value→Shared→Prop) (E:Value→Shared→Prop),Q (.int (g i j) s.toks) { s with toks:=s.toks + 1 }→wpAny (model X.prog X.w) X.A (f (.int i t) (.int j u)) Q E s):
  OpR X f (rI0 fun i j=>.int (g i j)):=by
 intro pins s σ H x y v u Q I rx ry h
 obtain⟨i,j,rfl,rfl,q⟩:=h
 obtain⟨t,rfl⟩:=rx
 obtain⟨t',rfl⟩:=ry
 exact rule i j t t' s _ _ ⟨.int (g i j),H,I.tok _,⟨_,rfl⟩,q⟩
theorem opB0 {f:Value→Value→Sem Value}{g:Int→Int→Bool}
  (rule:∀(i j:Int) (t u:Tok) (s:Shared) (Q:Value→Shared→Prop) (E:Value→Shared→Prop),Q (.bool (g i j)) s→wpAny (model X.prog X.w) X.A (f (.int i t) (.int j u)) Q E s):
  OpR X f (rI0 fun i j=>.bl (g i j)):=by
 intro pins s σ H x y v u Q I rx ry h
 obtain⟨i,j,rfl,rfl,q⟩:=h
 obtain⟨t,rfl⟩:=rx
 obtain⟨t',rfl⟩:=ry
 exact rule i j t t' s _ _ ⟨.bl (g i j),H,I,rfl,q⟩

def CPow (i j:Int):Prop:=0≤j∧j≤1000000∧i.natAbs < 2 ^ 64
def CMul (i j:Int):Prop:=(-(2 ^ 64) < i∧i < 2 ^ 64)∨(-(2 ^ 64) < j∧j < 2 ^ 64)
theorem CMul.ok {i j:Int}(h:CMul i j):IntMulOk i j:=by
 rcases h with ⟨h1,h2⟩ | ⟨h1,h2⟩
 ·exact .of_left (intBits_le_64 h1 h2)
 ·exact .of_right (intBits_le_64 h1 h2)
theorem zhe:OpR X (binaryOp .Add) (rI0 fun i j=>.int (i + j)):=opI0 fun _ _ _ _ _ _ _ q=>add_int q
theorem ziT:OpR X (binaryOp .Sub) (rI0 fun i j=>.int (i - j)):=opI0 fun _ _ _ _ _ _ _ q=>sub_int q
theorem zhl:OpR X (binaryOp .Mod) (rI (fun _ j=>0 < j) fun i j=>.int (i % j)):=opI fun i j _ _ _ _ _ hc q=>by
 have h1:(0:Int) < j:=hc
 exact mod_int' (by omega) (by rw[Int.fmod_eq_emod_of_nonneg i (by omega)]; exact q)
theorem zj7:OpR X (binaryOp .Pow) (rI CPow fun i j=>.int (i ^ j.toNat)):=opI fun _ _ _ _ _ _ _ hc q=>pow_int_small hc.1 hc.2.1 hc.2.2 q
end

def zee:V→V→Bool
 | .non,.non=>true | .non,.int _=>true | .int _,.non=>true | .non,.bl _=>true | .bl _,.non=>true | .non,.str _=>true | .str _,.non=>true
 | .int _,.int _=>true | .bl _,.bl _=>true | .str _,.str _=>true | .byt _,.byt _=>true
 | .int _,.str _=>true | .str _,.int _=>true | .bl _,.str _=>true | .str _,.bl _=>true
 | _,_=>false
def rEq:R2:=fun x y H Q=>zee x y=true∧Q (.bl (decide (x=y))) H
def rNe:R2:=fun x y H Q=>zee x y=true∧Q (.bl (!decide (x=y))) H

theorem zfZ {i j:Int}:decide (V.int i=V.int j)=(i == j):=by
 rw[Bool.eq_iff_iff]
 simp
theorem zft {i j:Bool}:decide (V.bl i=V.bl j)=(i == j):=by
 rw[Bool.eq_iff_iff]
 simp
theorem zgZ {i j:Str}:decide (V.str i=V.str j)=(i == j):=by
 rw[Bool.eq_iff_iff]
 simp
theorem zf4 {i j:Array UInt8}:decide (V.byt i=V.byt j)=(i.toList == j.toList):=by
 rw[Bool.eq_iff_iff]
 cases i
 cases j
 simp

section
variable {X:Cx}{a b c:Expr}{ta tb tc:TE}{pos:Pos}
theorem zax {pins:List (Addr×Obj)}{σ:St}{H:Hp}{s:Shared}{Q:VK}{k k':Bool}(I:Inv X pins σ H s)(q:Q (.bl k) H)(e:k=k'):EP X pins σ Q (.bool k') s:=by
 subst e
 exact⟨.bl k,H,I,rfl,q⟩
theorem zfa:OpR X (compareOp .Eq) rEq:=by
 intro pins s σ H x y v u Q I rx ry h
 obtain⟨hs,q⟩:=h
 cases x with
 | non=>
  cases rx
  cases y with
  | non=>cases ry; exact PySem.EqNone.eq_none_none (zax I q (by simp))
  | bl j=>cases ry; exact PySem.EqNone.eq_none_bool (zax I q (by simp))
  | int j=>obtain⟨t',rfl⟩:=ry; exact PySem.EqNone.eq_none_int (zax I q (by simp))
  | str j=>obtain⟨t',rfl⟩:=ry; exact PySem.EqNone.eq_none_str (zax I q (by simp))
  | _=>exact absurd (show false=true from hs) Bool.false_ne_true
 | bl i=>
  cases rx
  cases y with
  | non=>cases ry; exact PySem.EqNone.eq_bool_none (zax I q (by simp))
  | bl j=>cases ry; exact eq_bool (zax I q zft)
  | str j=>obtain⟨t',rfl⟩:=ry; exact PySem.EqMixed.eq_bool_str (zax I q (by simp))
  | _=>exact absurd (show false=true from hs) Bool.false_ne_true
 | int i=>
  obtain⟨t,rfl⟩:=rx
  cases y with
  | non=>cases ry; exact PySem.EqNone.eq_int_none (zax I q (by simp))
  | int j=>obtain⟨t',rfl⟩:=ry; exact eq_int (zax I q zfZ)
  | str j=>obtain⟨t',rfl⟩:=ry; exact PySem.EqMixed.eq_int_str (zax I q (by simp))
  | _=>exact absurd (show false=true from hs) Bool.false_ne_true
 | str i=>
  obtain⟨t,rfl⟩:=rx
  cases y with
  | non=>cases ry; exact PySem.EqNone.eq_str_none (zax I q (by simp))
  | bl j=>cases ry; exact PySem.EqMixed.eq_str_bool (zax I q (by simp))
  | int j=>obtain⟨t',rfl⟩:=ry; exact PySem.EqMixed.eq_str_int (zax I q (by simp))
  | str j=>obtain⟨t',rfl⟩:=ry; exact eq_str (zax I q zgZ)
  | _=>exact absurd (show false=true from hs) Bool.false_ne_true
 | byt i=>
  obtain⟨t,rfl⟩:=rx
  cases y with
  | byt j=>obtain⟨t',rfl⟩:=ry; exact PySem.W.eq_bytes (zax I q zf4)
  | _=>exact absurd (show false=true from hs) Bool.false_ne_true
 | _=>cases y <;> exact absurd (show false=true from hs) Bool.false_ne_true
theorem op_ne:OpR X (compareOp .NotEq) rNe:=by
 intro pins s σ H x y v u Q I rx ry h
 obtain⟨hs,q⟩:=h
 cases x with
 | non=>
  cases rx
  cases y with
  | non=>cases ry; exact PySem.EqNone.ne_none_none (zax I q (by simp))
  | bl j=>cases ry; exact PySem.EqNone.ne_none_bool (zax I q (by simp))
  | int j=>obtain⟨t',rfl⟩:=ry; exact PySem.EqNone.ne_none_int (zax I q (by simp))
  | str j=>obtain⟨t',rfl⟩:=ry; exact PySem.EqNone.ne_none_str (zax I q (by simp))
  | _=>exact absurd (show false=true from hs) Bool.false_ne_true
 | bl i=>
  cases rx
  cases y with
  | non=>cases ry; exact PySem.EqNone.ne_bool_none (zax I q (by simp))
  | bl j=>cases ry; exact ne_bool (zax I q (congrArg not zft))
  | str j=>obtain⟨t',rfl⟩:=ry; exact PySem.EqMixed.ne_bool_str (zax I q (by simp))
  | _=>exact absurd (show false=true from hs) Bool.false_ne_true
 | int i=>
  obtain⟨t,rfl⟩:=rx
  cases y with
  | non=>cases ry; exact PySem.EqNone.ne_int_none (zax I q (by simp))
  | int j=>obtain⟨t',rfl⟩:=ry; exact ne_int (zax I q (congrArg not zfZ))
  | str j=>obtain⟨t',rfl⟩:=ry; exact PySem.EqMixed.ne_int_str (zax I q (by simp))
  | _=>exact absurd (show false=true from hs) Bool.false_ne_true
 | str i=>
  obtain⟨t,rfl⟩:=rx
  cases y with
  | non=>cases ry; exact PySem.EqNone.ne_str_none (zax I q (by simp))
  | bl j=>cases ry; exact PySem.EqMixed.ne_str_bool (zax I q (by simp))
  | int j=>obtain⟨t',rfl⟩:=ry; exact PySem.EqMixed.ne_str_int (zax I q (by simp))
  | str j=>obtain⟨t',rfl⟩:=ry; exact ne_str (zax I q (congrArg not zgZ))
  | _=>exact absurd (show false=true from hs) Bool.false_ne_true
 | byt i=>
  obtain⟨t,rfl⟩:=rx
  cases y with
  | byt j=>obtain⟨t',rfl⟩:=ry; exact PySem.W.ne_bytes (zax I q (congrArg not zf4))
  | _=>exact absurd (show false=true from hs) Bool.false_ne_true
 | _=>cases y <;> exact absurd (show false=true from hs) Bool.false_ne_true

theorem op_lt:OpR X (compareOp .Lt) (rI0 fun i j=>.bl (decide (i < j))):=opB0 fun _ _ _ _ _ _ _ q=>lt_int q
theorem OpR.or {f:Value→Value→Sem Value}{r r':R2}(h:OpR X f r)(h':OpR X f r'):OpR X f (fun x y H Q=>r x y H Q∨r' x y H Q):=by
 intro pins s σ H x y v u Q I rx ry q
 rcases q with q | q
 ·exact h pins s σ H x y v u Q I rx ry q
 ·exact h' pins s σ H x y v u Q I rx ry q

theorem zaC (b:Expr){op:CmpOp}(h:op≠.In:=by decide)(h2:op≠.NotIn:=by decide):behindInMarks op b=false:=by
 have e1:(op == CmpOp.In)=false:=by cases op <;> first | rfl | exact absurd rfl h
 have e2:(op == CmpOp.NotIn)=false:=by cases op <;> first | rfl | exact absurd rfl h2
 cases b <;> simp[behindInMarks,e1,e2]
theorem ziF {op:CmpOp}{r:R2}(ho:OpR X (compareOp op) r)(ha:PE X a ta)(hb:PE X b tb)(hm:behindInMarks op b=false):PE X (.Compare a [op] [b] pos) (tOp r ta tb):=by
 intro pins s σ H Q I h
 exact wpAny_Compare1 (binT ha hb I h fun v u s2 x y H2 I2 rx ry q=>ho pins s2 σ H2 x y v u Q I2 rx ry q) hm
def tTest (t:TE):TT:=fun σ H Q=>t σ H fun x H'=>∃k,x=.bl k∧Q k H'
theorem zgC {op:CmpOp}{r:R2}(ho:OpR X (compareOp op) r)(ha:PE X a ta)(hb:PE X b tb)(hm:behindInMarks op b=false):PT X (.Compare a [op] [b] pos) (tTest (tOp r ta tb)):=by
 intro pins s σ H Q I h
 refine wpAny_isTrue_Compare1 (thn (ha pins s σ H _ I h) fun v s1 ⟨x,H1,I1,r1,q1⟩=>thn (hb pins s1 σ H1 _ I1 q1) fun u s2 ⟨y,H2,I2,r2,q2⟩=>
  thn (ho pins s2 σ H2 x y v u _ I2 r1 r2 q2) fun c s3 ⟨z,H3,I3,r3,k,e,q3⟩=>?_) hm
 subst e
 cases r3
 exact wpAny_truthy_bool ⟨H3,I3,q3⟩
theorem zea:(sizeLine:Nat) < 2 ^ 63:=by rw[sizeLine_eq]; decide
theorem zdG {x:V}{us:List Value}(r:zad [x] us):∃u,us=[u]∧zac x u:=by
 cases r with
 | cons r1 r2=>cases r2; exact⟨_,rfl,r1⟩
theorem vals2 {x y:V}{us:List Value}(r:zad [x,y] us):∃u w',us=[u,w']∧zac x u∧zac y w':=by
 cases r with
 | cons r1 r2=>
  cases r2 with
  | cons r3 r4=>cases r4; exact⟨_,_,rfl,r1,r3⟩
end
end L2

namespace L2
open PySem PySem.Spec PyProof.Rows

structure ObjM (h:Heap)(x dx C:Addr)(mA:Str→Option Value):Prop where
 obj:h.get? x=some (PySem.W.instObj C dx)
 ns:h.Ns1 dx mA
 ne:dx≠x

theorem ziQ {h:Heap}{dx:Addr}{mA:Str→Option Value}(n:h.Ns1 dx mA):∃od,h.get? dx=some od∧∀name,PySem.W.lookIn name od=some (mA name):=by
 obtain⟨o,es,ep,ho,hd,hk,_,hm⟩:=n
 refine⟨o,ho,fun name=>?_⟩
 have e:=hm name
 unfold nsFind findBy at e
 rw[← Array.find?_toList] at e
 unfold PySem.W.lookIn
 rw[hd]
 dsimp only
 split
 ·rename_i y q
  rw[q] at e
  exact congrArg some e
 ·rename_i q
  rw[q] at e
  have a:es.toList.any (·.refKey)=false:=by
   rw[List.any_eq_false]
   intro y hy
   obtain⟨z,t,hkey⟩:=hk y (Array.mem_toList_iff.mp hy)
   simp[DictEntry.refKey,hkey]
  have a':¬ es.toList.any (·.refKey)=true:=by rw[a]; exact Bool.false_ne_true
  rw[if_neg a']
  exact congrArg some e

theorem ObjM.look {h:Heap}{x dx C:Addr}{mA:Str→Option Value}(I:ObjM h x dx C mA):∃od,PySem.W.InstAt h x (PySem.W.instObj C dx) C (some od)∧∀name,PySem.W.lookIn name od=some (mA name):=
 let ⟨od,ho,hl⟩:=ziQ I.ns
 ⟨od,⟨I.obj,rfl,rfl,ho⟩,hl⟩

section
variable {prog:Program}{w:World}{A:Around}{E:Value→Shared→Prop}{s:Shared}{K:PySem.W.Frag}{x dx C f:Addr}{mA:Str→Option Value}{name:Str}{v:Value}

end

def putF (f:Str)(v:V):List (Str×V)→List (Str×V)
 | []=>[(f,v)]
 | (g,x)::r=>if g=f then (g,v)::r else (g,x)::putF f v r
section
variable {P:Program}{w:World}{H H':Hp}{h h':Heap}{a C dx:Addr}{fs fs':List (Str×V)}
theorem ziE (hok:HOk P w H h)(e:H a=some (.ins C dx fs)):∃mA,ObjM h a dx C mA∧(∀f,zcl (fs.lookup f) (mA f))∧PySem.Within mA (fs.map (·.1))∧fs.length≤1000∧H dx=some (.own a):=by
 obtain⟨d,z,ne,ob,mA,n,r,q⟩:=(show zaZ P w H h a (.ins C dx fs) from hok a _ e)
 exact⟨mA,⟨ob,n,ne⟩,r,q,z,d⟩
end

structure Cls (K:PySem.W.Frag)(C:Addr):Prop where
 pg:PySem.W.plainGet K C Str.empty=true
 hd:PySem.W.hasDictIn K C=true
 po:PySem.W.plainOver K C=true
 sa:PySem.W.findIn K (.ref C) "__setattr__"=some (some (.builtin "object.__setattr__"))
theorem Cls.get {K:PySem.W.Frag}{C:Addr}(c:Cls K C)(f:Str):PySem.W.plainGet K C f=true:=c.pg
structure Con (K:PySem.W.Frag)(C:Addr)(f:Str)(v:V)(u:Value):Prop where
 at_:PySem.W.findIn K (.ref C) f=some (some u)
 rel:zac v u
 get:PySem.W.specialIn K u "__get__"=some none
 cp:PySem.W.copiedNames.contains f=false
structure Meth (K:PySem.W.Frag)(C:Addr)(m:Str)(f:Addr):Prop where
 at_:PySem.W.findIn K (.ref C) m=some (some (.ref f))
 fn:PySem.W.isFn K (.ref f)=true
 kp:PySem.W.keepIn K (.ref f)=true

section
variable {X:Cx}{pins:List (Addr×Obj)}{σ:St}{H:Hp}{s:Shared}{a C dx:Addr}{fs:List (Str×V)}{f:Str}{v:V}{A:Around}{E:Value→Shared→Prop}

theorem Inv.made (I:Inv X pins σ H s):Inv X pins σ (upd (upd H s.heap.objs.size (.own (s.heap.objs.size + 1))) (s.heap.objs.size + 1) (.ins C s.heap.objs.size []))
  { s with heap:=(s.heap.push PySem.W.emptyDict).push (PySem.W.instObj C s.heap.objs.size) }:=by
 have e1:(s.heap.push PySem.W.emptyDict).get? s.heap.objs.size=some PySem.W.emptyDict:=Heap.get?_push_size s.heap rfl
 have e2:((s.heap.push PySem.W.emptyDict).push (PySem.W.instObj C s.heap.objs.size)).get? (s.heap.objs.size + 1)=some (PySem.W.instObj C s.heap.objs.size):=by
  have:=Heap.get?_push_size (s.heap.push PySem.W.emptyDict) (o:=PySem.W.instObj C s.heap.objs.size) rfl
  rwa [Heap.size_push] at this
 have e3:(s.heap.push PySem.W.emptyDict).Ns s.heap.objs.size (fun _=>none):=⟨PySem.W.emptyDict,#[],_,e1,rfl,(fun e he=>absurd he (by simp)),fun _=>rfl⟩
 have I1:=I.laid (a:=s.heap.objs.size) (o:=.own (s.heap.objs.size + 1)) (h':=s.heap.push PySem.W.emptyDict) (t':=s.toks) (fun b u q=>Heap.get?_push_of_some _ q) (Nat.le_refl _) ⟨_,e1⟩
 refine I1.laid (a:=s.heap.objs.size + 1) (o:=.ins C s.heap.objs.size []) (t':=s.toks) (fun b u q=>Heap.get?_push_of_some _ q) (Nat.le_of_eq (Heap.size_push _ _)) ?_
 have ne:s.heap.objs.size≠s.heap.objs.size + 1:=Nat.ne_of_lt (Nat.lt_succ_self _)
 refine⟨by rw[zaH ne,zb0],Nat.zero_le _,ne,e2,fun _=>none,(Heap.Ns1.of_empty e3).at fun o q=>Heap.get?_push_of_some _ q,fun _=>True.intro,fun y hy=>absurd rfl hy⟩

end

section
variable {X:Cx}{o e value:Expr}{f:Str}{pos pos' tpos:Pos}{ta tv:TE}
end

section
variable {X:Cx}{pins:List (Addr×Obj)}{σ:St}{H:Hp}{s:Shared}{A:Around}{E:Value→Shared→Prop}{Q:Value→Shared→Prop}{c:Value}{b:Bool}
inductive zbv (K:PySem.W.Frag)(H:Hp):V→Value→Prop where
 | non:zbv K H .non (.type "NoneType")
 | bl (x:Bool):zbv K H (.bl x) (.type "bool")
 | int (i:Int):zbv K H (.int i) (.type "int")
 | str (x:Str):zbv K H (.str x) (.type "str")
 | flt (x:UInt64):zbv K H (.flt x) (.type "float")
 | lst {a:Addr} {xs:List V} (e:H a=some (.lst xs)):zbv K H (.ref a) (.type "list")
 | frz {a:Addr} {o:Obj} {xs:List V} (e:H a=some (.frz o (.lst xs))):zbv K H (.ref a) (.type "list")
 | tup {a:Addr} {xs:List V} (e:H a=some (.tup xs)):zbv K H (.ref a) (.type "tuple")
 | dK {a:Addr} {kvs:List (Key×V)} (e:H a=some (.dK kvs)):zbv K H (.ref a) (.type "dict")
 | dT {a:Addr} {kvs:List (List Key×V)} (e:H a=some (.dT kvs)):zbv K H (.ref a) (.type "dict")
 | ins {a C dx:Addr} {fs:List (Str×V)} (e:H a=some (.ins C dx fs)) (cl:Cls K C) (ha:PySem.W.findIn K (.ref C) "__class__"=some (some (.builtin "object.__class__")))
   (hn:PySem.W.specialIn K (.builtin "object.__class__") "__get__"=some (some (.builtin "getset_descriptor.__get__"))) (htk:PySem.W.takesIn K (.builtin "object.__class__")=some true)
   (hm:PySem.W.mroIn K C (.type "object")=some true):zbv K H (.ref a) (.ref C)
theorem zjY {x:V}{u t:Value}(I:Inv X pins σ H s)(rx:zac x u)(ty:zbv X.K H x t)(e:PySem.W.kitOne X.K t c=some b)(h:∀tk,Q (.bool b) { s with toks:=tk }):
  wpAny (model X.prog X.w) A (call (.builtin "isinstance") [u,c]) Q E s:=by
 cases ty with
 | non=>cases (show u=Value.none from rx); exact PySem.W.kia_one PySem.W.kitx_none I.kIn True.intro e (fun z=>nomatch z) h
 | bl y=>cases (show u=Value.bool y from rx); exact PySem.W.kia_one PySem.W.kitx_bool I.kIn True.intro e (fun z=>nomatch z) h
 | int i=>obtain⟨t,q⟩:=(show ∃t,u=Value.int i t from rx); cases q; exact PySem.W.kia_one PySem.W.kitx_int I.kIn True.intro e (fun z=>nomatch z) h
 | str y=>obtain⟨t,q⟩:=(show ∃t,u=Value.str y t from rx); cases q; exact PySem.W.kia_one PySem.W.kitx_str I.kIn True.intro e (fun z=>nomatch z) h
 | flt y=>obtain⟨t,q⟩:=(show ∃t,u=Value.float y t from rx); cases q; exact PySem.W.kia_one PySem.W.kitx_float I.kIn True.intro e (fun z=>nomatch z) h
 | @lst a xs ea=>
  cases (show u=Value.ref a from rx)
  obtain⟨_,_,n,_,h1⟩:=(show zaZ X.prog X.w H s.heap a (.lst xs) from I.hok a _ ea)
  exact PySem.W.kia_one PySem.W.kitx_list I.kIn ⟨_,h1,rfl⟩ e (fun z=>nomatch z) h
 | @frz a ob xs ea=>
  cases (show u=Value.ref a from rx)
  obtain⟨_,_,_,n,_,h1⟩:=(show zaZ X.prog X.w H s.heap a (.frz ob (.lst xs)) from I.hok a _ ea)
  exact PySem.W.kia_one PySem.W.kitx_list I.kIn ⟨_,h1,rfl⟩ e (fun z=>nomatch z) h
 | @tup a xs ea=>
  cases (show u=Value.ref a from rx)
  obtain⟨_,_,_,p⟩:=(show zaZ X.prog X.w H s.heap a (.tup xs) from I.hok a _ ea)
  obtain⟨o,h1,h2,_⟩:=p
  exact PySem.W.kia_one PySem.W.kitx_tuple I.kIn ⟨o,h1,h2⟩ e (fun z=>nomatch z) h
 | @dK a kvs ea=>
  cases (show u=Value.ref a from rx)
  obtain⟨_,_,vs,_,p⟩:=(show zaZ X.prog X.w H s.heap a (.dK kvs) from I.hok a _ ea)
  obtain⟨o,es,ep,h1,h2,_⟩:=p
  exact PySem.W.kia_one PySem.W.kitx_dict I.kIn ⟨o,h1,h2.1⟩ e (fun z=>nomatch z) h
 | @dT a kvs ea=>
  cases (show u=Value.ref a from rx)
  obtain⟨_,_,xs,_,o,es,ep,h1,h2,_⟩:=(show zaZ X.prog X.w H s.heap a (.dT kvs) from I.hok a _ ea)
  exact PySem.W.kia_one PySem.W.kitx_dict I.kIn ⟨o,h1,h2.1⟩ e (fun z=>nomatch z) h
 | @ins a C dx fs ea cl ha hn htk hm=>
  cases (show u=Value.ref a from rx)
  obtain⟨mA,O,_⟩:=ziE I.hok ea
  obtain⟨od,J,_⟩:=O.look
  exact PySem.W.kia_one (PySem.W.kitx_own (cl.get _) cl.hd ha hn htk hm) I.kIn J e (fun z=>nomatch z) h
end
end L2

namespace L2
open PySem PySem.Spec PyProof.Rows

structure zaw (k:Nat)(A:Around):Prop where
 hd:A.handled=none
 dp:A.depth + 3 * k + 5 < recursionLimit
 un:A.units + 16 * k + 200 < cLine
theorem zaw.mono {j k:Nat}{A:Around}(r:zaw k A)(h:j≤k):zaw j A:=⟨r.hd,by have:=r.dp; omega,by have:=r.un; omega⟩
theorem zaw.deeper {k:Nat}{A:Around}(r:zaw (k + 1) A)(env:Env):zaw k (A.deeper env):=
 ⟨r.hd,by have:=r.dp; show A.depth + 1 + 3 * k + 5 < _; omega,by have:=r.un; show A.units + 3 + 16 * k + 200 < _; omega⟩
theorem zaw.in1 {k:Nat}{A:Around}(r:zaw (k + 1) A):zaw k A.in1:=
 ⟨r.hd,by have:=r.dp; show A.depth + 3 * k + 5 < _; omega,by have:=r.un; show A.units + 1 + 16 * k + 200 < _; omega⟩
theorem zaw.depth {k:Nat}{A:Around}(r:zaw k A):A.depth < recursionLimit:=by have:=r.dp; omega
theorem zaw.units {k:Nat}{A:Around}(r:zaw k A):A.units + 64 < cLine:=by have:=r.un; omega
def tNil:TA:=fun _ H Q=>Q [] H
def tCons (ta:TE)(tr:TA):TA:=fun σ H Q=>ta σ H fun x H1=>tr σ H1 fun xs H2=>Q (x::xs) H2
section
variable {X:Cx}{e:Expr}{es:List Expr}{te:TE}{t:TA}{pos:Pos}
theorem zdT:PA X [] tNil:=fun _ _ _ _ H Q I h=>Calls.spliced_nil ⟨[],H,I,.nil,h⟩
theorem zdf (ha:PE X e te)(hr:PA X es t)(hs:starEach (e::es) X.env=(false,eval e X.env)::starEach es X.env:=by rfl):PA X (e::es) (tCons te t):=by
 intro pos pins s σ H Q I h
 rw[hs]
 show wpAny _ _ (spliced ((false,eval e X.env)::backTo pos (starEach es X.env))) _ _ s
 refine Calls.spliced_cons (thn (ha pins s σ H _ I h) fun u s1 ⟨x,H1,I1,r1,q1⟩=>?_)
 exact thn (hr pos pins s1 σ H1 _ I1 q1) fun us s2 ⟨xs,H2,I2,r2,q2⟩=>⟨x::xs,H2,I2,.cons r1 r2,q2⟩

def tTup (t:TA):TE:=fun σ H Q=>t σ H fun xs H1=>xs.length≤sizeLine∧∀p,H1 p=none→Q (.ref p) (upd H1 p (.tup xs))
def tLst (t:TA):TE:=fun σ H Q=>t σ H fun xs H1=>xs.length≤sizeLine∧∀p,H1 p=none→Q (.ref p) (upd H1 p (.lst xs))
theorem zhA {x1}(h:PA X es t):PE X (.Tuple es x1 pos) (tTup t):=by
 intro pins s σ H Q I hq
 refine wpAny_Tuple_spliced (thn (h pos pins s σ H _ I hq) fun us s1 ⟨xs,H1,I1,r,z,q⟩=>⟨by rw[← r.length]; exact z,?_⟩)
 have hf:H1 s1.heap.objs.size=none:=I1.hok.fresh (Nat.le_refl _)
 refine⟨.ref s1.heap.objs.size,upd H1 s1.heap.objs.size (.tup xs),I1.laid (t':=s1.toks) (fun b u e=>Heap.get?_push_of_some _ e) (Nat.le_refl _) ?_,rfl,q _ hf⟩
 exact⟨z,us,r,⟨_,Heap.get?_push_size _ rfl,rfl,_,rfl⟩⟩
theorem zhP (h:PA X es t):PE X (.List es pos) (tLst t):=by
 intro pins s σ H Q I hq
 refine wpAny_List_spliced (thn (h pos pins s σ H _ I hq) fun us s1 ⟨xs,H1,I1,r,z,q⟩=>⟨by rw[← r.length]; exact z,?_⟩)
 have hf:H1 s1.heap.objs.size=none:=I1.hok.fresh (Nat.le_refl _)
 refine⟨.ref s1.heap.objs.size,upd H1 s1.heap.objs.size (.lst xs),I1.laid (t':=s1.toks) (fun b u e=>Heap.get?_push_of_some _ e) (Nat.le_refl _) ?_,rfl,q _ hf⟩
 exact⟨z,us,0,r,Heap.get?_push_size _ rfl⟩
end

abbrev Sp:=List V→Hp→VK→XK→Prop
abbrev CXT:=List Env→Hp→Shared→XK→Value→Shared→Prop

structure zcv (P:Program)(w:World)(K:PySem.W.Frag)(mg:Str→Option Value)(base:Heap)(A:Around)(outer:List Env)(s:Shared)(H:Hp):Prop where
 frames:A.frames=some outer
 mod:Mod K mg base
 bs:∀b o,base.get? b=some o→s.heap.get? b=some o∧H b=none
 bsz:base.objs.size≤s.heap.objs.size
 funs:s.heap.FunFrames base outer
 frf:∀b∈frs outer,H b=none
 hok:HOk P w H s.heap
 bare:AllBare s.gens
def CE (outer:List Env)(P:Program)(w:World)(H:Hp)(s:Shared)(Q:VK)(u:Value)(s':Shared):Prop:=
 ∃v H',s'.os=s.os∧AllBare s'.gens∧Un (frs outer) [] H H' s.heap s'.heap∧HOk P w H' s'.heap∧zac v u∧Q v H'
def CR (CX:CXT)(outer:List Env)(P:Program)(w:World)(H:Hp)(s:Shared)(Q:VK)(E:XK)(r:Result)(s':Shared):Prop:=
 match r with
 | .ok (.ret u)=>CE outer P w H s Q u s'
 | .ok _=>False
 | .error e=>CX outer H s E e s'
structure zaX (P:Program)(w:World)(K:PySem.W.Frag)(mg:Str→Option Value)(base:Heap)(CX:CXT)(k:Nat)(f:Addr)(fd:FuncData)(ps:List Str)(sp:Sp):Prop where
 len:∀vs H Q E,sp vs H Q E→vs.length=ps.length
 run:∀(A:Around) (outer:List Env) (s:Shared) (H:Hp) (args:Args) (us:List Value) (vs:List V) (Q:VK) (E:XK),zaw k A→zcv P w K mg base A outer s H→BindsTo s fd args (ps.zip us)→zad vs us→sp vs H Q E→
  codeAny (model P w) A (.call (.ref f) args) (CR CX outer P w H s Q E) s
theorem zaX.mono {P:Program}{w:World}{K:PySem.W.Frag}{mg:Str→Option Value}{base:Heap}{CX:CXT}{j k:Nat}{f:Addr}{fd:FuncData}{ps:List Str}{sp:Sp}(F:zaX P w K mg base CX j f fd ps sp)(h:j≤k):
  zaX P w K mg base CX k f fd ps sp:=⟨F.len,fun A outer s H args us vs Q E hr=>F.run A outer s H args us vs Q E (hr.mono h)⟩
theorem zaX.imp {P:Program}{w:World}{K:PySem.W.Frag}{mg:Str→Option Value}{base:Heap}{CX:CXT}{k:Nat}{f:Addr}{fd:FuncData}{ps:List Str}{sp sp':Sp}(F:zaX P w K mg base CX k f fd ps sp)
  (h:∀vs H Q E,sp' vs H Q E→sp vs H Q E):zaX P w K mg base CX k f fd ps sp':=
 ⟨fun vs H Q E q=>F.len vs H Q E (h _ _ _ _ q),fun A outer s H args us vs Q E hr he hb hv hs=>F.run A outer s H args us vs Q E hr he hb hv (h _ _ _ _ hs)⟩

theorem zcv.in1 {P:Program}{w:World}{K:PySem.W.Frag}{mg:Str→Option Value}{base:Heap}{A:Around}{outer:List Env}{s:Shared}{H:Hp}(e:zcv P w K mg base A outer s H):
  zcv P w K mg base A.in1 outer s H:=⟨e.frames,e.mod,e.bs,e.bsz,e.funs,e.frf,e.hok,e.bare⟩

section
variable {X:Cx}{pins:List (Addr×Obj)}{σ:St}{H:Hp}{s s':Shared}
theorem Inv.env0 (I:Inv X pins σ H s):zcv X.prog X.w X.K X.mg X.base X.A X.stack s H:=
 ⟨I.ok.frames,I.ok.mod,I.bs,Nat.le_trans I.ok.bsz I.sz,I.stack,I.stkFree,I.hok,I.bare⟩
theorem Inv.after {Q:VK}{u:Value}(I:Inv X pins σ H s)(h:CE X.stack X.prog X.w H s Q u s'):EP X pins σ Q u s':=by
 obtain⟨v,H',os,bare,un,hok,r,q⟩:=h
 obtain⟨hh,g,d,t,os'⟩:=s'
 obtain rfl:os'=s.os:=os
 exact⟨v,H',I.call (h':=hh) (g':=g) (d':=d) (t':=t) (ch:=[]) un hok bare (fun b z=>absurd z (by simp)),r,q⟩
end

def zbS (K:PySem.W.Frag)(fd:FuncData)(ps:List Str)(ds:List Value):Prop:=
 ∀(s:Shared) (us:List Value),K.In s.heap→(us++ds).length=ps.length→BindsTo s fd ⟨us,[]⟩ (ps.zip (us++ds))
theorem zbS.all {K:PySem.W.Frag}{fd:FuncData}{ps:List Str}(h:∀us:List Value,us.length=ps.length→bindArgs fd ⟨us,[]⟩=pure (ps.zip us)):zbS K fd ps []:=fun s us _ hl=>by
 rw[List.append_nil] at hl ⊢
 exact .of_eq (h us hl)

section
variable {X:Cx}{CX:CXT}{k:Nat}{f C:Addr}{fd:FuncData}{ps:List Str}{sp:Sp}{dvs:List V}{ds:List Value}{E:XK}{x m:Str}{p pos apos:Pos}{e o:Expr}{es:List Expr}{ta:TE}{t:TA}

structure Mk (K:PySem.W.Frag)(C f:Addr):Prop where
 makes:PySem.W.makesIn K C=true
 init:PySem.W.findIn K (.ref C) "__init__"=some (some (.ref f))
 fn:PySem.W.isFn K (.ref f)=true
 kp:PySem.W.keepIn K (.ref C)=true

end

section
variable {X:Cx}{CX:CXT}{k:Nat}{f C:Addr}{fd:FuncData}{ps ks:List Str}{sp:Sp}{E:XK}{x m:Str}{p pos apos kpos:Pos}{e o:Expr}{es:List Expr}{kws:List Keyword}{te ta:TE}{t tk:TA}{nm:Option Str}
structure KBinds (K:PySem.W.Frag)(fd:FuncData)(ps ks:List Str)(g:List Value→List Value→List Value)(gV:List V→List V→List V):Prop where
 to:∀(s:Shared) (us ws:List Value),K.In s.heap→(g us ws).length=ps.length→BindsTo s fd ⟨us,ks.zip ws⟩ (ps.zip (g us ws))
 rel:∀ {vs:List V} {us:List Value} {zs:List V} {ws:List Value},zad vs us→zad zs ws→zad (gV vs zs) (g us ws)
variable {g:List Value→List Value→List Value}{gV:List V→List V→List V}
end

structure zbe (N P:List Str)(sc:Scope):Prop where
 kind:sc.kind=.function
 co:sc.isCoroutine=false
 gen:sc.isGenerator=false
 nd:N.Nodup
 pre:N.take P.length=P
 par:∀x∈P,sc.names.lookup x=some .local∨sc.names.lookup x=some .cell
 nofree:∀y∈sc.names,y.2≠.free

theorem zf1 {kindOf:Str→Option NameKind}{x:Str}:∀ {binds:List (Str×Value)} {m:Str→Option Value},(∀v,(x,v) ∉ binds)→bindL kindOf binds m x=m x
 | [],_,_=>rfl
 | (n,v)::r,m,h=>by
  unfold bindL
  rw[zf1 fun w hw=>h w (List.mem_cons_of_mem _ hw)]
  split
  ·have:x≠n:=by rintro rfl; exact h v List.mem_cons_self
   simp[this]
  ·rfl
theorem zgo {kindOf:Str→Option NameKind}{x:Str}:∀ {binds:List (Str×Value)} {m:Str→Option Value},(∀v,(x,v) ∉ binds)→bindC kindOf binds m x=m x
 | [],_,_=>rfl
 | (n,v)::r,m,h=>by
  unfold bindC
  rw[zgo fun w hw=>h w (List.mem_cons_of_mem _ hw)]
  split
  ·rfl
  ·have:x≠n:=by rintro rfl; exact h v List.mem_cons_self
   simp[this]
theorem zfJ {kindOf:Str→Option NameKind}{x:Str}{v:Value}:∀ {P:List Str} {vs:List Value} {i:Nat} {m:Str→Option Value},P.Nodup→P[i]?=some x→vs[i]?=some v→kindOf x=some .local→
  bindL kindOf (P.zip vs) m x=some v
 | [],_,_,_,_,h,_,_=>by simp at h
 | _::_,[],_,_,_,_,h,_=>by simp at h
 | p::P,w::vs,0,m,nd,h1,h2,hk=>by
  simp at h1 h2; subst h1; subst h2
  show bindL kindOf ((p,w)::P.zip vs) m p=_
  unfold bindL
  rw[zf1 fun v hv=>(List.nodup_cons.mp nd).1 (List.of_mem_zip hv).1,if_pos hk]
  simp
 | p::P,w::vs,i + 1,m,nd,h1,h2,hk=>by
  show bindL kindOf ((p,w)::P.zip vs) m x=_
  unfold bindL
  exact zfJ (i:=i) (List.nodup_cons.mp nd).2 (by simpa using h1) (by simpa using h2) hk
theorem zge {kindOf:Str→Option NameKind}{x:Str}{v:Value}:∀ {P:List Str} {vs:List Value} {i:Nat} {m:Str→Option Value},P.Nodup→P[i]?=some x→vs[i]?=some v→kindOf x≠some .local→
  bindC kindOf (P.zip vs) m x=some v
 | [],_,_,_,_,h,_,_=>by simp at h
 | _::_,[],_,_,_,_,h,_=>by simp at h
 | p::P,w::vs,0,m,nd,h1,h2,hk=>by
  simp at h1 h2; subst h1; subst h2
  show bindC kindOf ((p,w)::P.zip vs) m p=_
  unfold bindC
  rw[zgo fun v hv=>(List.nodup_cons.mp nd).1 (List.of_mem_zip hv).1,if_neg hk]
  simp
 | p::P,w::vs,i + 1,m,nd,h1,h2,hk=>by
  show bindC kindOf ((p,w)::P.zip vs) m x=_
  unfold bindC
  exact zge (i:=i) (List.nodup_cons.mp nd).2 (by simpa using h1) (by simpa using h2) hk

def zbM (N:List Str)(vs:List V):St:=vs.map some++List.replicate (N.length - vs.length) none

def zcI (CX:CXT)(P:Program)(w:World)(K:PySem.W.Frag)(mg:Str→Option Value)(base:Heap)(N:List Str)(qual:Str)(scope:Scope)(f:Addr)(cd:Value)(A:Around)(outer:List Env)(s:Shared)(H:Hp)(E:XK):Cx where
 prog:=P
 w:=w
 K:=K
 mg:=mg
 base:=base
 A:=A.deeper (envOfC qual scope s.heap.objs.size f cd)
 N:=N
 s₀:=s
 H₀:=H
 env:=envOfC qual scope s.heap.objs.size f cd
 outer:=outer
 stack:=envOfC qual scope s.heap.objs.size f cd::outer
 ex:=[]
 calm:=true
 fn:=fun _=>true
 pn:=[]
 xe:=fun e s'=>wpAny (model P w) (A.deeper (envOfC qual scope s.heap.objs.size f cd)) (leaving (envOfC qual scope s.heap.objs.size f cd) e) (fun _ s''=>CX outer H s E e s'') (fun e' s''=>CX outer H s E e' s'') s'

theorem zfY {sc:Scope}{n:Nat}{x:Str}(h:sc.names.lookup x=some .cell):∃c,(cellsFrom n sc.names []).lookup x=some c:=by
 have q:=PySem.W.cellsFrom_some sc.names n [] (.inl h)
 exact Option.isSome_iff_exists.mp q

theorem zhF {CX:CXT}{P:Program}{w:World}{K:PySem.W.Frag}{mg:Str→Option Value}{base:Heap}{N ps:List Str}{qual:Str}{scope:Scope}{f:Addr}{cd:Value}{A:Around}{outer:List Env}{s s1:Shared}{H:Hp}{E:XK}{us:List Value}{vs:List V}
  (S:zbe N ps scope)(hd:A.handled=none)(e0:zcv P w K mg base A outer s H)(hl:vs.length=ps.length)(r:zad vs us)
  (x:InCallC s s.heap.objs.size (bindL (envOfC qual scope s.heap.objs.size f cd).kindOf (ps.zip us) fun _=>none) (cellsFrom (s.heap.objs.size + 1) scope.names []) (bindC (envOfC qual scope s.heap.objs.size f cd).kindOf (ps.zip us) fun _=>none) s1):
  Inv (zcI CX P w K mg base N qual scope f cd A outer s H E) [] (zbM N vs) H s1:=by
 have hpl:ps.length≤N.length:=by have:=congrArg List.length S.pre; rw[List.length_take] at this; omega
 obtain⟨h1,tk,rfl,hk⟩:=x.done
 have noA:∀b:Addr,b ∉ (zcI CX P w K mg base N qual scope f cd A outer s H E).ex:=fun b z=>absurd (show b∈([]:List Addr) from z) (by simp)
 refine⟨⟨e0.mod,S.kind,rfl,rfl,Nat.le_refl _,fun y z c h1 h2=>?_,fun y hy=>?_,fun y c _ h=>?_,fun _=>hd,Around.frames_deeper e0.frames,.inr ⟨rfl,rfl⟩,fun b z=>absurd z (noA b),e0.bs,e0.bsz,fun b _ _=>noA b,fun b z=>absurd z (noA b),e0.funs,e0.frf⟩,
  rfl,e0.bare,Un.kept hk,⟨_,x.toInCall.ns,fun i y v h1 h2 h3=>?_⟩,fun y c h=>⟨_,x.cell y c h⟩,e0.hok.fresh (Nat.le_refl _),fun y c h=>?_,fun p hp=>absurd (show p∈([]:List (Addr×Obj)) from hp) (by simp),e0.hok.kept hk,?_⟩
 ·exact name_of_addr x.apart (PySem.mem_of_lookup h1) (PySem.mem_of_lookup h2)
 ·have hy:scope.names.lookup y=some .cell∨scope.names.lookup y=some .free:=hy
  rcases hy with hy | hy
  ·exact zfY hy
  ·exact absurd rfl (S.nofree _ (PySem.mem_of_lookup hy))
 ·exact Nat.le_of_lt (x.above y c (PySem.mem_of_lookup h))
 ·have hi:i < vs.length:=by
   unfold zbM at h2
   by_cases hi:i < vs.length
   ·exact hi
   ·rw[List.getElem?_append_right (by simpa using hi)] at h2
    rw[List.getElem?_replicate] at h2
    split at h2 <;> cases h2
  have ha:vs[i]?=some v:=by
   unfold zbM at h2
   rw[List.getElem?_append_left (by simpa using hi),List.getElem?_map] at h2
   cases e:vs[i]? with
   | none=>rw[e] at h2; cases h2
   | some a=>rw[e] at h2; cases h2; rfl
  obtain⟨u,hu,rv⟩:=r.get ha
  have hp:ps[i]?=some y:=by
   rw[← S.pre,List.getElem?_take_of_lt (by omega)]; exact h1
  have ndP:ps.Nodup:=by rw[← S.pre]; exact S.nd.sublist (List.take_sublist _ _)
  refine⟨u,rv,?_⟩
  rcases S.par y (List.mem_of_getElem? hp) with k | k
  ·exact .inl ⟨k,zfJ ndP hp hu k⟩
  ·obtain⟨c,e⟩:=zfY (n:=s.heap.objs.size + 1) k
   refine .inr ⟨.inl k,c,e,?_⟩
   have q:=x.cell y c e
   rw[zge ndP hp hu (by show scope.names.lookup y≠_; rw[k]; decide)] at q
   exact q
 ·exact e0.hok.fresh (Nat.le_of_lt (x.above y c (PySem.mem_of_lookup h)))
 ·unfold zbM
  show _=N.length
  rw[List.length_append,List.length_map,List.length_replicate]
  omega

theorem zf2 {CX:CXT}{P:Program}{w:World}{K:PySem.W.Frag}{mg:Str→Option Value}{base:Heap}{k:Nat}{f:Addr}{name qual:Str}{params:Arguments}{body:List Stmt}{scope:Scope}{dV kV doc pm cdv ct oc:Value}{an od:Option Addr}
  {osl:Array (Option Value)}{N ps:List Str}{sp:Sp}(lk:K.lookup f=some ⟨oc,od,.func (PySem.W.fnOf name qual params body scope dV kV doc pm an cdv ct),osl⟩)(hcd:PySem.W.codeIn K cdv qual=true)(S:zbe N ps scope)
  (len:∀vs H Q E,sp vs H Q E→vs.length=ps.length)
  (hbody:∀(A:Around) (outer:List Env) (s:Shared) (H:Hp) (vs:List V) (Q:VK) (E:XK),zaw k (A.deeper (envOfC qual scope s.heap.objs.size f cdv))→sp vs H Q E→
   ∃t,PSs (zcI CX P w K mg base N qual scope f cdv A outer s H E) body t∧t { nx:=fun _ H'=>Q .non H',rt:=Q } (zbM N vs) H):
  zaX P w K mg base CX (k + 1) f (PySem.W.fnOf name qual params body scope dV kV doc pm an cdv ct) ps sp:=by
 refine⟨len,fun A outer s H args us vs Q E hr e0 hb r hsp=>?_⟩
 have hl:=len _ _ _ _ hsp
 have KX:K.In s.heap:=e0.mod.kin.keeps fun b o e=>(e0.bs b o e).1
 have lim:s.heap.NoLimit:=e0.mod.nolimit.keeps fun b o e=>(e0.bs b o e).1
 have hkind:∀y∈ps.zip us,scope.names.lookup y.1=some .local∨(scope.names.lookup y.1=some .cell∧((cellsFrom (s.heap.objs.size + 1) scope.names []).lookup y.1).isSome=true):=fun ⟨n,v⟩ hy=>by
  rcases S.par n (List.of_mem_zip hy).1 with q | q
  ·exact .inl q
  ·exact .inr ⟨q,PySem.W.cellsFrom_some _ _ _ (.inl q)⟩
 refine codeAny_call_function hr.depth (KX _ _ lk) rfl S.co S.gen rfl (PySem.W.codeRec_of KX hcd) (hb _ _ _ _ ?_)
 refine wpAny_newFunctionEnv_cells S.kind hkind fun env he s1 x=>?_
 subst he
 refine⟨lim.keeps x.toInCall.keep,codeAny_func ?_⟩
 obtain⟨t,ht,hq⟩:=hbody A outer s H vs Q E (hr.deeper _) hsp
 have I:Inv (zcI CX P w K mg base N qual scope f cdv A outer s H E) [] (zbM N vs) H s1:=zhF S hr.hd e0 hl r x
 refine wpAny_mono (ht [] s1 (zbM N vs) H _ I hq) (fun fl s' hs=>?_) fun e s' hs=>hs
 have fin:∀ {σ':St} {H':Hp} {v:V} {u:Value},Inv (zcI CX P w K mg base N qual scope f cdv A outer s H E) [] σ' H' s'→zac v u→Q v H'→CE outer P w H s Q u s':=
  fun {σ' H' v u} J rv q=>⟨v,H',J.os,J.bare,J.base,J.hok,rv,q⟩
 cases fl with
 | ret u=>
  obtain⟨v,σ',H',J,rv,q⟩:=hs
  exact fin J rv q
 | next=>
  obtain⟨σ',H',J,q⟩:=hs
  exact fin (v:=V.non) (u:=Value.none) J rfl q
 | brk=>
  obtain⟨_,_,_,q⟩:=hs
  exact False.elim q
 | cont=>
  obtain⟨_,_,_,q⟩:=hs
  exact False.elim q
end L2

namespace L2
open PySem PySem.Spec PyProof.Rows
section
variable {X:Cx}{x:Str}{p pos:Pos}{e:Expr}{es:List Expr}{t:TA}{id T:String}{r:List V→Hp→VK→Prop}

def tCB (r:List V→Hp→VK→Prop)(t:TA):TE:=fun σ H Q=>t σ H fun vs H1=>r vs H1 Q
theorem zfe (hc:zaU X (.builtin id) r)(hg:Gl X x)(hm:X.mg x=none)(hv:bootBuiltins x=some (.builtin id))(ha:PA X (e::es) t)(hn:x≠"__name__":=by decide)(hdb:(x == ("__debug__":Str))=false:=by decide)
  (he:starEach (e::es) X.env=(false,eval e X.env)::starEach es X.env:=by rfl)(hpl:(backTo pos (starEach es X.env)).any (·.1)=false:=by rfl):PE X (.Call (.Name x p) (e::es) [] pos) (tCB r t):=by
 intro pins s σ H Q I h
 refine wpAny_Call_Name_kw (zdB I hg hm hv ?_ hn hdb)
 exact PyProof.Rows.callWith_builtin1 (thn (ha pos pins s σ H _ I h) fun us s1 ⟨vs,H1,I1,r1,q1⟩=>hc pins s1 σ H1 vs us Q I1 r1 q1) he hpl
theorem zjF (hc:zaU X (.type T) r)(hg:Gl X x)(hm:X.mg x=none)(hv:bootBuiltins x=some (.type T))(ha:PA X (e::es) t)(hn:x≠"__name__":=by decide)(hdb:(x == ("__debug__":Str))=false:=by decide)
  (he:starEach (e::es) X.env=(false,eval e X.env)::starEach es X.env:=by rfl)(hpl:(backTo pos (starEach es X.env)).any (·.1)=false:=by rfl):PE X (.Call (.Name x p) (e::es) [] pos) (tCB r t):=by
 intro pins s σ H Q I h
 refine wpAny_Call_Name_kw (zdB I hg hm hv ?_ hn hdb)
 exact PyProof.Rows.callWith_type1 (thn (ha pos pins s σ H _ I h) fun us s1 ⟨vs,H1,I1,r1,q1⟩=>hc pins s1 σ H1 vs us Q I1 r1 q1) he hpl
end
end L2

namespace HT
open PySem PyProof.Rows

section
open PySem.SeqAt
open PySem.AutoSeq1 (wpAny_loadPart')
open PySem.MeetsSeq PySem.MeetsSeq2 PySem.MeetsSeq3

end

section
variable {prog:Program}{w:World}{A:Around}{E:Value→Shared→Prop}{s:Shared}

def sIx (n d:Nat):Option Int→Nat
 | none=>d
 | some v=>if v < 0 then (v + (n:Int)).toNat else min v.toNat n
theorem sIx_nat (n d k:Nat):sIx n d (some (k:Int))=min k n:=by
 show (if (k:Int) < 0 then ((k:Int) + (n:Int)).toNat else min (k:Int).toNat n)=min k n
 rw[if_neg (by omega),Int.toNat_natCast]
end
end HT

namespace L2
open PySem PySem.Spec PyProof.Rows

abbrev TO:=St→Hp→(Option Int→Hp→Prop)→Prop
def PO (X:Cx)(e:Option Expr)(t:TO):Prop:=
 ∀(pins:List (Addr×Obj)) (s:Shared) (σ:St) (H:Hp) (Q:Option Int→Hp→Prop),Inv X pins σ H s→t σ H Q→
  wpAny (model X.prog X.w) X.A (evalPart e X.env) (fun u s'=>∃o H',Inv X pins σ H' s'∧IsPart u o∧Q o H') X.xe s
def zhN:TO:=fun _ H Q=>Q none H
def tPart (t:TE):TO:=fun σ H Q=>t σ H fun x H1=>∃i,x=.int i∧Q (some i) H1

section
variable {X:Cx}{e:Expr}{te:TE}{lo hi:Option Expr}{tl th:TO}{pos p2:Pos}

theorem zix:PO X none zhN:=by
 intro pins s σ H Q I h
 rw[evalPart_none]
 exact wpAny_pure ⟨none,H,I,.none,h⟩
theorem zh8 (h:PE X e te):PO X (some e) (tPart te):=by
 intro pins s σ H Q I hw
 rw[evalPart_some]
 refine thn (h pins s σ H _ I hw) fun u s1 ⟨x,H1,I1,r1,q1⟩=>?_
 obtain⟨i,rfl,q⟩:=q1
 obtain⟨t,rfl⟩:=r1
 exact⟨some i,H1,I1,.int i t,q⟩

def SlR (X:Cx)(r:V→Option Int→Option Int→Hp→VK→Prop):Prop:=
 ∀(pins:List (Addr×Obj)) (s:Shared) (σ:St) (H:Hp) (x:V) (v vl vu:Value) (lo hi:Option Int) (sl:Addr) (Q:VK),Inv X pins σ H s→zac x v→s.heap.IsSliceOf sl vl vu .none→IsPart vl lo→IsPart vu hi→r x lo hi H Q→
  ∃T id,typeLookup (.type T) "__getitem__"=pure (some (.builtin id))∧s.TypeIs v T∧wpAny (model X.prog X.w) X.A (getItem v (.ref sl)) (EP X pins σ Q) X.xe s
theorem SlR.or {r r':V→Option Int→Option Int→Hp→VK→Prop}(h:SlR X r)(h':SlR X r'):SlR X (fun x lo hi H Q=>r x lo hi H Q∨r' x lo hi H Q):=by
 intro pins s σ H x v vl vu lo hi sl Q I rx hs pl pu q
 rcases q with q | q
 ·exact h pins s σ H x v vl vu lo hi sl Q I rx hs pl pu q
 ·exact h' pins s σ H x v vl vu lo hi sl Q I rx hs pl pu q
def tSl (r:V→Option Int→Option Int→Hp→VK→Prop)(te:TE)(tl th:TO):TE:=fun σ H Q=>te σ H fun x H1=>tl σ H1 fun l H2=>th σ H2 fun u H3=>r x l u H3 Q
theorem zhn {r:V→Option Int→Option Int→Hp→VK→Prop}(hr:SlR X r)(he:PE X e te)(hl:PO X lo tl)(hu:PO X hi th):PE X (.Subscript e (.Slice lo hi none p2) pos) (tSl r te tl th):=by
 intro pins s σ H Q I h
 refine Subscript_ (thn (he pins s σ H _ I h) fun v s1 ⟨x,H1,I1,r1,q1⟩=>?_)
 refine wpAny_Slice (thn (hl pins s1 σ H1 _ I1 q1) fun vl s2 ⟨l,H2,I2,pl,q2⟩=>thn (hu pins s2 σ H2 _ I2 q2) fun vu s3 ⟨u,H3,I3,pu,q3⟩=>?_)
 rw[evalPart_none]
 refine wpAny_pure ?_
 have I4:Inv X pins σ H3 { s3 with heap:=s3.heap.push { cls:=.type "slice",data:=.fields #[vl,vu,.none] } }:=I3.kept (t':=s3.toks) fun b ob q=>Heap.get?_push_of_some _ q
 obtain⟨T,id,hT,ht,hg⟩:=hr pins { s3 with heap:=s3.heap.push { cls:=.type "slice",data:=.fields #[vl,vu,.none] } } σ H3 x v vl vu l u s3.heap.objs.size Q I4 r1 (Heap.IsSliceOf.new ..) pl pu q3
 show wpAny (model X.prog X.w) X.A (subscriptTail e (.Slice lo hi none p2) v (.ref s3.heap.objs.size)) (EP X pins σ Q) X.xe { s3 with heap:=s3.heap.push { cls:=.type "slice",data:=.fields #[vl,vu,.none] } }
 exact tail_any (ops:=[.ref s3.heap.objs.size,v]) ht hT hg (by with_unfolding_all rfl)

def zcY (xs:List V)(lo hi:Option Int):List V:=(xs.drop (HT.sIx xs.length 0 lo)).take (HT.sIx xs.length xs.length hi - HT.sIx xs.length 0 lo)
theorem zh2 (xs:List V)(lo hi:Option Int):(zcY xs lo hi).length≤xs.length:=by
 unfold zcY
 rw[List.length_take,List.length_drop]
 omega
end
end L2

namespace L2
open PySem PySem.Spec PyProof.Rows

def ixN (n:Nat)(i:Int):Option Nat:=if 0≤i then (if i < n then some i.toNat else none) else if -(n:Int)≤i then some (i + n).toNat else none
def atI {α:Type}(xs:List α)(i:Int):Option α:=(ixN xs.length i).bind fun j=>xs[j]?
theorem zf0 {n:Nat}{i:Int}{j:Nat}(h:ixN n i=some j):seqIndex? i n=some j∧j < n∧-(n:Int)≤i∧i < n:=by
 unfold ixN at h
 by_cases h0:0≤i
 ·rw[if_pos h0] at h
  by_cases h1:i < n
  ·rw[if_pos h1] at h
   have e:i.toNat=j:=Option.some.inj h
   exact⟨by rw[seqIndex_of h0 h1,e],by omega,by omega,h1⟩
  ·rw[if_neg h1] at h; cases h
 ·rw[if_neg h0] at h
  by_cases h1:-(n:Int)≤i
  ·rw[if_pos h1] at h
   have e:(i + n).toNat=j:=Option.some.inj h
   exact⟨by rw[seqIndex_neg (by omega) h1,e],by omega,h1,by omega⟩
  ·rw[if_neg h1] at h; cases h
theorem zfs {α:Type}{xs:List α}{i:Int}{v:α}(h:atI xs i=some v):∃j,seqIndex? i xs.length=some j∧xs[j]?=some v∧j < xs.length∧-(xs.length:Int)≤i∧i < xs.length:=by
 unfold atI at h
 cases e:ixN xs.length i with
 | none=>rw[e] at h; cases h
 | some j=>
  rw[e] at h
  obtain⟨h1,h2,h3,h4⟩:=zf0 e
  exact⟨j,h1,h,h2,h3,h4⟩
theorem zbF {α:Type}{xs:List α}{j:Nat}{v:α}(h:xs[j]?=some v):atI xs (j:Int)=some v:=by
 have hj:j < xs.length:=(List.getElem?_eq_some_iff.mp h).1
 have e:ixN xs.length (j:Int)=some j:=by
  unfold ixN
  rw[if_pos (by omega),if_pos (by omega)]; simp
 unfold atI; rw[e]; exact h
def zfb (b:Expr):Prop:=∀o i,subscripted b false o i=operate [o,i] (getItem o i)
def IxR (X:Cx)(r:R2):Prop:=
 ∀(value slice:Expr) (pins:List (Addr×Obj)) (s:Shared) (σ:St) (H:Hp) (x y:V) (v u:Value) (Q:VK),Inv X pins σ H s→zac x v→zac y u→r x y H Q→
  subscripted slice false v u=operate [v,u] (getItem v u)→wpAny (model X.prog X.w) X.A (subscriptTail value slice v u) (EP X pins σ Q) X.xe s
def MtR (X:Cx)(id:String)(r:V→List V→Hp→VK→Prop):Prop:=
 ∀(pins:List (Addr×Obj)) (s:Shared) (σ:St) (H:Hp) (x:V) (xs:List V) (v:Value) (us:List Value) (Q:VK),Inv X pins σ H s→zac x v→zad xs us→r x xs H Q→
  wpAny (model X.prog X.w) X.A (call (.builtin id) (v::us)) (EP X pins σ Q) X.xe s
section
variable {X:Cx}{a b:Expr}{ta tb:TE}{pos:Pos}
theorem IxR.or {r r':R2}(h:IxR X r)(h':IxR X r'):IxR X (fun x y H Q=>r x y H Q∨r' x y H Q):=by
 intro value slice pins s σ H x y v u Q I rx ry q hs
 rcases q with q | q
 ·exact h value slice pins s σ H x y v u Q I rx ry q hs
 ·exact h' value slice pins s σ H x y v u Q I rx ry q hs
theorem MtR.or {id:String}{r r':V→List V→Hp→VK→Prop}(h:MtR X id r)(h':MtR X id r'):MtR X id (fun x xs H Q=>r x xs H Q∨r' x xs H Q):=by
 intro pins s σ H x xs v us Q I rx rs q
 rcases q with q | q
 ·exact h pins s σ H x xs v us Q I rx rs q
 ·exact h' pins s σ H x xs v us Q I rx rs q
theorem pe_ix {r:R2}(hr:IxR X r)(ha:PE X a ta)(hb:PE X b tb)(hs:zfb b):PE X (.Subscript a b pos) (tOp r ta tb):=by
 intro pins s σ H Q I h
 exact Subscript_ (binT ha hb I h fun v u s2 x y H2 I2 rx ry q=>hr a b pins s2 σ H2 x y v u Q I2 rx ry q (hs _ _))

def rIxL (K:PySem.W.Frag):R2:=fun x y H Q=>∃p xs i v,x=.ref p∧y=.int i∧SqL K H p xs∧atI xs i=some v∧Q v H
def rIxT (K:PySem.W.Frag):R2:=fun x y H Q=>∃p xs i v,x=.ref p∧y=.int i∧SqT K H p xs∧atI xs i=some v∧Q v H
theorem zht:IxR X (rIxL X.K):=by
 intro value slice pins s σ H x y v u Q I rx ry h hs
 obtain⟨p,xs,i,z,rfl,rfl,hq,he,q⟩:=h
 cases rx
 obtain⟨t,rfl⟩:=ry
 obtain⟨its,r,pl,hz⟩:=I.list hq
 obtain⟨j,h1,h2,h3,h4,h5⟩:=zfs he
 obtain⟨w,ew,rw'⟩:=r.get h2
 have hl:=r.length
 have hn:=zea
 have fin:EP X pins σ Q w s:=⟨z,H,I,rw',q⟩
 by_cases h0:0≤i
 ·have hj:i.toNat=j:=by
   rw[seqIndex_of h0 h5] at h1
   exact Option.some.inj h1
  exact item_listR pl.isList h0 (by omega) (by rw[hj]; simpa using ew) fin hs
 ·have hj:(i + (its.toArray.size:Int)).toNat=j:=by
   rw[seqIndex_neg (by omega) h4] at h1
   rw[List.size_toArray,← hl]
   exact Option.some.inj h1
  exact subscriptTail_builtinR (x:=w) pl.isList.typeIs slot_list_getitem.lookup
   (wpAny_getItem_list_neg (Q:=fun r s'=>r=w∧EP X pins σ Q r s') pl.isList (by omega) (by rw[List.size_toArray] <;> omega) (by omega) (by rw[hj]; simpa using ew) ⟨rfl,fin⟩) hs
theorem zi0:IxR X (rIxT X.K):=by
 intro value slice pins s σ H x y v u Q I rx ry h hs
 obtain⟨p,xs,i,z,rfl,rfl,hq,he,q⟩:=h
 cases rx
 obtain⟨t,rfl⟩:=ry
 obtain⟨its,r,pl,hz⟩:=I.tuple hq
 obtain⟨j,h1,h2,h3,h4,h5⟩:=zfs he
 obtain⟨w,ew,rw'⟩:=r.get h2
 have hl:=r.length
 have hn:=zea
 have fin:EP X pins σ Q w s:=⟨z,H,I,rw',q⟩
 exact subscriptTail_builtinR (x:=w) pl.typeIs slot_tuple_getitem.lookup
  (getItem_tuple (j:=j) (Q:=fun r s'=>r=w∧EP X pins σ Q r s') pl (by omega) (by omega) (by rw[List.size_toArray,← hl]; exact h1) (by simpa using ew) ⟨rfl,fin⟩) hs
theorem zhX (its:List Value)(n j:Nat)(u:Value):Obj.mapSeq (·.setIfInBounds j u) { cls:=.type "list",data:=.seq its.toArray n }={ cls:=.type "list",data:=.seq (its.set j u).toArray n }:=by
 simp[Obj.mapSeq]
theorem Inv.lst {pins:List (Addr×Obj)}{σ:St}{H:Hp}{s:Shared}{p:Addr}{xs:List V}(I:Inv X pins σ H s)(h:H p=some (.lst xs)):
  ∃(its:List Value) (n:Nat),zad xs its∧s.heap.get? p=some { cls:=.type "list",data:=.seq its.toArray n }∧xs.length≤sizeLine:=by
 obtain⟨z,its,n,r,e⟩:=I.hok p _ h
 exact⟨its,n,r,e,z⟩
theorem Inv.lstUpd {pins:List (Addr×Obj)}{σ:St}{H:Hp}{s:Shared}{p:Addr}{xs ys:List V}{its its':List Value}{n n':Nat}{f:Obj→Obj}(I:Inv X pins σ H s)(h:H p=some (.lst xs))
  (ho:s.heap.get? p=some { cls:=.type "list",data:=.seq its.toArray n })(hf:f { cls:=.type "list",data:=.seq its.toArray n }={ cls:=.type "list",data:=.seq its'.toArray n' })(r:zad ys its')(hz:ys.length≤sizeLine)(t:Nat):
  Inv X pins σ (upd H p (.lst ys)) { s with heap:=s.heap.update p f,toks:=t }:=by
 have e:(s.heap.update p f).get? p=some { cls:=.type "list",data:=.seq its'.toArray n' }:=by
  rw[Heap.get?_update_self f ho (by rw[hf] <;> rfl),hf]
 refine I.write (x:=p) (e:=p) (by rw[h]; trivial) (.inl rfl) (fun b u hb q=>(Heap.get?_update_other _ _ (Ne.symm hb)).trans q) ⟨_,e⟩ ?_
 exact⟨hz,its',n',r,e⟩
def rSetL:V→V→V→Hp→(Hp→Prop)→Prop:=fun o i v H Q=>∃p xs k j,o=.ref p∧i=.int k∧H p=some (.lst xs)∧ixN xs.length k=some j∧Q (upd H p (.lst (xs.set j v)))
theorem ziP:PSet X rSetL:=by
 intro pins s σ H o i v ov iv u Q I ro ri rv h
 obtain⟨p,xs,k,j,rfl,rfl,hp,hj,q⟩:=h
 cases ro
 obtain⟨t,rfl⟩:=ri
 obtain⟨its,n,r,ho,hz⟩:=I.lst hp
 obtain⟨h1,h2,h3,h4⟩:=zf0 hj
 have hl:=r.length
 have hn:=zea
 have I':Inv X pins σ (upd H p (.lst (xs.set j v))) { s with heap:=s.heap.update p (Obj.mapSeq (·.setIfInBounds j u)) }:=
  I.lstUpd hp ho (zhX its n j u) (r.set rv j) (by rw[List.length_set]; exact hz) s.toks
 by_cases h0:0≤k
 ·have hk:k.toNat=j:=by
   rw[seqIndex_of h0 h4] at h1
   exact Option.some.inj h1
  exact PySem.W.ki_setAt ho h0 (by omega) (by rw[List.size_toArray,← hl]; exact h4) (by rw[hk]; exact⟨_,I',q⟩)
 ·have hk:(k + (its.toArray.size:Int)).toNat=j:=by
   rw[seqIndex_neg (by omega) h3] at h1
   rw[List.size_toArray,← hl]
   exact Option.some.inj h1
  exact PySem.W.ki_setBack ho (by omega) (by rw[List.size_toArray,← hl]; exact h3) (by omega) (by rw[hk]; exact⟨_,I',q⟩)

theorem zhM (lo hi:Option Int)(n:Nat):(sliceBounds lo hi none n).1=((HT.sIx n 0 lo:Nat):Int)∧(sliceBounds lo hi none n).2.1=((HT.sIx n n hi:Nat):Int)∧(sliceBounds lo hi none n).2.2=1:=by
 refine⟨?_,?_,rfl⟩
 ·cases lo with
  | none=>simp[sliceBounds,HT.sIx]
  | some i=>
   simp only[sliceBounds,HT.sIx,Option.getD_none,show (1:Int) > 0 by decide,if_true]
   by_cases h:i < 0
   ·simp only[h,if_true] <;> omega
   ·simp only[h,if_false] <;> omega
 ·cases hi with
  | none=>simp[sliceBounds,HT.sIx]
  | some i=>
   simp only[sliceBounds,HT.sIx,Option.getD_none,show (1:Int) > 0 by decide,if_true]
   by_cases h:i < 0
   ·simp only[h,if_true] <;> omega
   ·simp only[h,if_false] <;> omega
theorem ziW (its:List Value)(lo hi:Option Int):slicePick its.toArray lo hi none=((its.drop (HT.sIx its.length 0 lo)).take (HT.sIx its.length its.length hi - HT.sIx its.length 0 lo)).toArray:=by
 obtain⟨h1,h2,h3⟩:=zhM lo hi its.toArray.size
 unfold slicePick
 rw[h1,h2,h3]
 simp only[sliceRange_one,pick_run,List.size_toArray] <;> rfl
def rSlL (K:PySem.W.Frag):V→Option Int→Option Int→Hp→VK→Prop:=fun x lo hi H Q=>∃a xs,x=.ref a∧SqL K H a xs∧∀p,H p=none→Q (.ref p) (upd H p (.lst (zcY xs lo hi)))
theorem zho:SlR X (rSlL X.K):=by
 intro pins s σ H x v vl vu lo hi sl Q I rx hs pl pu h
 obtain⟨a,xs,rfl,hx,q⟩:=h
 cases rx
 obtain⟨its,r,ht,hz⟩:=I.list hx
 have hlen:=r.length
 refine⟨"list",_,slot_list_getitem.lookup,ht.isList.typeIs,?_⟩
 refine wpAny_getItem_list_slice ht.isList hs pl pu .none (by simp) ?_ (by rw[List.size_toArray] <;> omega)
 rw[ziW,← hlen]
 refine⟨.ref s.heap.objs.size,_,I.laid (t':=s.toks) (o:=.lst (zcY xs lo hi)) (fun b ob q=>Heap.get?_push_of_some _ q) (Nat.le_refl _) ?_,rfl,q _ (I.hok.fresh (Nat.le_refl _))⟩
 exact⟨Nat.le_trans (zh2 xs lo hi) hz,_,0,(r.drop (HT.sIx xs.length 0 lo)).take (HT.sIx xs.length xs.length hi - HT.sIx xs.length 0 lo),Heap.get?_push_size _ rfl⟩

def zbO:V→Bool
 | .non=>true
 | .bl _=>true
 | .int _=>true
 | .str _=>true
 | _=>false
def eqV:V→V→Bool
 | .non,.non=>true
 | .bl a,.bl b=>a == b
 | .bl a,.int b=>(if a then 1 else 0) == b
 | .int a,.bl b=>a == (if b then 1 else 0)
 | .int a,.int b=>a == b
 | .str a,.str b=>a == b
 | _,_=>false
theorem zgu {A:Around}{s:Shared}{y x:V}{u v:Value}(ry:zac y u)(rx:zac x v)(fy:zbO y=true)(fx:zbO x=true):SeqAt.EqAt A s u v (eqV y x):=by
 cases y with
 | non=>
  cases ry
  cases x with
  | non=>cases rx; exact SeqAt.EqAt.same _
  | bl b=>cases rx; exact SeqAt.EqAt.none_bool b
  | int b=>obtain⟨t,rfl⟩:=rx; exact SeqAt.EqAt.none_int b t
  | str b=>obtain⟨t,rfl⟩:=rx; exact SeqAt.EqAt.none_str b t
  | _=>exact absurd (show false=true from fx) Bool.false_ne_true
 | bl a=>
  cases ry
  cases x with
  | non=>cases rx; exact SeqAt.EqAt.bool_none a
  | bl b=>cases rx; exact SeqAt.EqAt.bool_bool a b
  | int b=>obtain⟨t,rfl⟩:=rx; exact SeqAt.EqAt.bool_int a b t
  | str b=>obtain⟨t,rfl⟩:=rx; exact SeqAt.EqAt.bool_str a b t
  | _=>exact absurd (show false=true from fx) Bool.false_ne_true
 | int a=>
  obtain⟨t',rfl⟩:=ry
  cases x with
  | non=>cases rx; exact SeqAt.EqAt.int_none a t'
  | bl b=>cases rx; exact SeqAt.EqAt.int_bool a t' b
  | int b=>obtain⟨t,rfl⟩:=rx; exact SeqAt.EqAt.int_int a t' b t
  | str b=>obtain⟨t,rfl⟩:=rx; exact SeqAt.EqAt.int_str a t' b t
  | _=>exact absurd (show false=true from fx) Bool.false_ne_true
 | str a=>
  obtain⟨t',rfl⟩:=ry
  cases x with
  | non=>cases rx; exact SeqAt.EqAt.str_none a t'
  | bl b=>cases rx; exact SeqAt.EqAt.str_bool a t' b
  | int b=>obtain⟨t,rfl⟩:=rx; exact SeqAt.EqAt.str_int a t' b t
  | str b=>obtain⟨t,rfl⟩:=rx; exact SeqAt.EqAt.str_str a t' b t
  | _=>exact absurd (show false=true from fx) Bool.false_ne_true
 | _=>exact absurd (show false=true from fy) Bool.false_ne_true
def eqU (x:V)(u:Value):Bool:=match u with
 | .none=>eqV .non x
 | .bool b=>eqV (.bl b) x
 | .int i _=>eqV (.int i) x
 | .str z _=>eqV (.str z) x
 | _=>false
theorem zfC {x y:V}{u:Value}(r:zac y u)(f:zbO y=true):eqU x u=eqV y x:=by
 cases y with
 | non=>cases r; rfl
 | bl b=>cases r; rfl
 | int i=>obtain⟨t,rfl⟩:=r; rfl
 | str z=>obtain⟨t,rfl⟩:=r; rfl
 | _=>exact absurd (show false=true from f) Bool.false_ne_true
theorem zfc {x:V}:∀ {xs:List V} {us:List Value},zad xs us→xs.all zbO=true→us.any (eqU x)=xs.any fun y=>eqV y x
 | _,_,.nil,_=>rfl
 | y::xs,u::us,.cons r t,f=>by
  rw[List.all_cons,Bool.and_eq_true] at f
  rw[List.any_cons,List.any_cons,zfC r f.1,zfc t f.2]
theorem zeX {A:Around}{s:Shared}{x:V}{v:Value}(rx:zac x v)(fx:zbO x=true):∀ {xs:List V} {us:List Value},zad xs us→xs.all zbO=true→∀u∈us,SeqAt.EqAt A s u v (eqU x u)
 | _,_,.nil,_=>fun u hu=>by cases hu
 | y::xs,u::us,.cons r t,f=>fun u' hu=>by
  rw[List.all_cons,Bool.and_eq_true] at f
  rcases List.mem_cons.mp hu with rfl | hu
  ·rw[zfC r f.1]; exact zgu r rx f.1 fx
  ·exact zeX rx fx t f.2 u' hu
def inV (x:V)(xs:List V):Bool:=xs.any fun y=>eqV y x
def rIn (K:PySem.W.Frag)(neg:Bool):R2:=fun x y H Q=>∃p xs,y=.ref p∧(SqL K H p xs∨SqT K H p xs)∧zbO x=true∧xs.all zbO=true∧Q (.bl (if neg then !inV x xs else inV x xs)) H
theorem zhZ:OpR X (compareOp .In) (rIn X.K false):=by
 intro pins s σ H x y v u Q I rx ry h
 obtain⟨p,xs,rfl,hq,fx,fs,q⟩:=h
 cases ry
 rcases hq with hq | hq
 ·obtain⟨its,r,pl,hz⟩:=I.list hq
  refine SeqAt.in_listAt (eqU x) pl.isList (fun w hw=>zeX rx fx r fs w (by simpa using hw)) ⟨.bl _,H,I,rfl,?_⟩
  rw[show its.toArray.any (eqU x)=its.any (eqU x) by simp,zfc r fs]
  exact q
 ·obtain⟨its,r,pl,hz⟩:=I.tuple hq
  refine SeqAt.in_tupleAt (eqU x) pl (fun w hw=>zeX rx fx r fs w (by simpa using hw)) ⟨.bl _,H,I,rfl,?_⟩
  rw[show its.toArray.any (eqU x)=its.any (eqU x) by simp,zfc r fs]
  exact q
theorem ziq:zaU X (.builtin "len") (fun xs H Q=>∃p ys,xs=[.ref p]∧(SqL X.K H p ys∨SqT X.K H p ys)∧Q (.int ys.length) H):=by
 intro pins s σ H xs us Q I r h
 obtain⟨p,ys,rfl,hq,q⟩:=h
 obtain⟨u,rfl,rx⟩:=zdG r
 cases rx
 have hn:=zea
 rcases hq with hq | hq
 ·obtain⟨its,r',pl,hz⟩:=I.list hq
  have hlen:=r'.length
  exact Calls.call_len_list pl.isList (by simp only[List.size_toArray] <;> omega) ⟨.int ys.length,H,I.tok _,⟨s.toks + 1,by rw[List.size_toArray,hlen]⟩,q⟩
 ·obtain⟨its,r',pl,hz⟩:=I.tuple hq
  have hlen:=r'.length
  exact len_tuple pl (by simp only[List.size_toArray] <;> omega) ⟨.int ys.length,H,I.tok _,⟨s.toks + 1,by rw[List.size_toArray,hlen]⟩,q⟩
theorem zaU.or {f:Value}{r r':List V→Hp→VK→Prop}(h:zaU X f r)(h':zaU X f r'):zaU X f (fun xs H Q=>r xs H Q∨r' xs H Q):=by
 intro pins s σ H xs us Q I rs q
 rcases q with q | q
 ·exact h pins s σ H xs us Q I rs q
 ·exact h' pins s σ H xs us Q I rs q
theorem zia:zaU X (.type "list") (fun xs H Q=>∃p ys,xs=[.ref p]∧(SqL X.K H p ys∨SqT X.K H p ys)∧∀l,H l=none→Q (.ref l) (upd H l (.lst ys))):=by
 intro pins s σ H xs us Q I r h
 obtain⟨p,ys,rfl,hq,q⟩:=h
 obtain⟨u,rfl,rx⟩:=zdG r
 cases rx
 have fin:∀(its:List Value),zad ys its→ys.length≤sizeLine→∀(h':Heap) (c':Nat),(∀b o',s.heap.get? b=some o'→h'.get? b=some o')→
   h'.get? s.heap.objs.size=some { cls:=.type "list",dict:=none,data:=.seq its.toArray c',slots:=#[] }→EP X pins σ Q (.ref s.heap.objs.size) { s with heap:=h' }:=fun its r' hz h' c' kp e=>
  ⟨.ref s.heap.objs.size,_,I.laid (t':=s.toks) kp (Nat.le_refl _) (show zaZ X.prog X.w _ h' _ (.lst ys) from ⟨hz,its,c',r',e⟩),rfl,q _ (I.hok.fresh (Nat.le_refl _))⟩
 rcases hq with hq | hq
 ·obtain⟨its,r',pl,hz⟩:=I.list hq
  have hlen:=r'.length
  obtain⟨o,ho,hc,n,hd⟩:=pl.isList
  exact call_list_seq p (.inl rfl) ho hc hd (fun h' c' kp e=>fin its r' hz h' c' kp e) (by simp only[List.size_toArray] <;> omega)
 ·obtain⟨its,r',pl,hz⟩:=I.tuple hq
  have hlen:=r'.length
  obtain⟨o,ho,hc,n,hd⟩:=pl
  exact call_list_seq p (.inr rfl) ho hc hd (fun h' c' kp e=>fin its r' hz h' c' kp e) (by simp only[List.size_toArray] <;> omega)
theorem zhJ:zaU X (.type "tuple") (fun xs H Q=>∃p ys,xs=[.ref p]∧((SqL X.K H p ys∧∀l,H l=none→Q (.ref l) (upd H l (.tup ys)))∨(SqT X.K H p ys∧Q (.ref p) H))):=by
 intro pins s σ H xs us Q I r h
 obtain⟨p,ys,rfl,h⟩:=h
 obtain⟨u,rfl,rx⟩:=zdG r
 cases rx
 rcases h with ⟨hq,q⟩ | ⟨hq,q⟩
 ·obtain⟨its,r',pl,hz⟩:=I.list hq
  have hlen:=r'.length
  refine call_tuple_list pl.isList (fun h' kp=>?_) (by simp only[List.size_toArray] <;> omega)
  have I1:Inv X pins σ H { s with heap:=h' }:=I.kept (t':=s.toks) kp
  have I2:Inv X pins σ (upd H h'.objs.size (.tup ys)) { s with heap:=h'.push { cls:=.type "tuple",data:=.seq its.toArray } }:=
   I1.laid (t':=s.toks) (fun b o e=>Heap.get?_push_of_some _ e) (Nat.le_refl _) (show zaZ X.prog X.w _ _ _ (.tup ys) from ⟨hz,its,r',IsTup.new _ _⟩)
  exact⟨.ref h'.objs.size,_,I2,rfl,q _ (I1.hok.fresh (Nat.le_refl _))⟩
 ·obtain⟨its,r',pl,hz⟩:=I.tuple hq
  exact call_tuple_same pl ⟨.ref p,H,I,rfl,q⟩

def tyV (K:PySem.W.Frag)(T:String)(x:V)(H:Hp):Prop:=match x with
 | .str _=>T="str"
 | .int _=>T="int"
 | .ref p=>(T="list"∧∃xs,SqL K H p xs)∨(T="tuple"∧∃o,K.lookup p=some o∧o.cls=.type "tuple"∧o.dict=none)∨
   (T="dict"∧((∃kvs,H p=some (.dK kvs))∨∃kvs,H p=some (.dT kvs)))∨(T="set"∧∃S n,H p=some (.set S n))
 | _=>False
theorem ziX {pins:List (Addr×Obj)}{σ:St}{H:Hp}{s:Shared}{T:String}{x:V}{v:Value}(I:Inv X pins σ H s)(r:zac x v)(ty:tyV X.K T x H):
  s.TypeIs v T∧∀a,v=.ref a→∃ob,s.heap.get? a=some ob∧ob.dict=none:=by
 cases x with
 | str z=>
  obtain⟨t,rfl⟩:=r
  cases (show T="str" from ty)
  exact⟨typeIs_str s z t,fun _ e=>nomatch e⟩
 | int i=>
  obtain⟨t,rfl⟩:=r
  cases (show T="int" from ty)
  exact⟨typeIs_int s i t,fun _ e=>nomatch e⟩
 | ref p=>
  cases r
  rcases ty with ⟨rfl,xs,hq⟩ | ⟨rfl,o,hk,hc,hd⟩ | ⟨rfl,hk⟩ | ⟨rfl,S,n,hk⟩
  ·obtain⟨its,_,pl,_⟩:=I.list hq
   refine⟨pl.isList.typeIs,fun a e=>?_⟩
   cases e
   obtain⟨o,n,e,c,hd,_⟩:=pl
   exact⟨o,e,hd⟩
  ·refine⟨⟨o,I.kIn p o hk,hc⟩,fun a e=>?_⟩
   cases e
   exact⟨o,I.kIn _ o hk,hd⟩
  ·have z:∃o,s.heap.get? p=some o∧o.ExactDict:=by
    rcases hk with ⟨kvs,hk⟩ | ⟨kvs,hk⟩
    ·obtain⟨_,_,_,_,o,_,_,e,ex,_⟩:=I.hok p _ hk
     exact⟨o,e,ex⟩
    ·obtain⟨_,_,_,_,o,_,_,e,ex,_⟩:=I.hok p _ hk
     exact⟨o,e,ex⟩
   obtain⟨o,e,ex⟩:=z
   refine⟨⟨o,e,ex.1⟩,fun a e2=>?_⟩
   cases e2
   exact⟨o,e,ex.2.1⟩
  ·obtain⟨o,_,_,_,e,ex,_⟩:=I.hok p _ hk
   refine⟨⟨o,e,ex.1⟩,fun a e2=>?_⟩
   cases e2
   exact⟨o,e,ex.2.1⟩
 | _=>exact False.elim ty
def tBM (K:PySem.W.Frag)(T:String)(r:V→List V→Hp→VK→Prop)(to:TE)(t:TA):TE:=fun σ H Q=>to σ H fun x H1=>tyV K T x H1∧t σ H1 fun xs H2=>r x xs H2 Q
variable {o e:Expr}{es:List Expr}{to:TE}{t:TA}{name:Str}{apos cpos:Pos}{T id:String}{r:V→List V→Hp→VK→Prop}
theorem zgj (pa:PlainAttrs T)(slot:Slot T name id)(hty:typeOf (.builtin id)=pure (.type "method_descriptor"))(hm:MtR X id r)(ho:PE X o to)(ha:PA X (e::es) t)
  (hbase:attributeBase o name X.env (eval o X.env)=eval o X.env:=by rfl)
  (hfew:((backTo cpos (starEach (e::es) X.env)).all (fun x=>!x.1) && (backToKw cpos (keywordEach [] X.env)).all (fun x=>x.1.isSome)
   && decide ((e::es).length + ([]:List Keyword).length + (if ([]:List Keyword).isEmpty then 0 else 1) < 30))=true:=by rfl)
  (hline:(apos.endLine == cpos.line)=true:=by rfl)(hs:starEach (e::es) X.env=(false,eval e X.env)::starEach es X.env:=by rfl)(hplain:(backTo cpos (starEach es X.env)).any (·.1)=false:=by rfl):
  PE X (.Call (.Attribute o name apos) (e::es) [] cpos) (tBM X.K T r to t):=by
 intro pins s σ H Q I h
 refine wpAny_Call_method_late hbase hfew hline rfl (thn (ho pins s σ H _ I h) fun v s1 ⟨x,H1,I1,r1,ty,q1⟩=>?_)
 obtain⟨h1,h2⟩:=ziX I1 r1 ty
 refine⟨T,id,pa,slot,hty,h1,h2,?_⟩
 have hA:=ha cpos pins s1 σ H1 _ I1 q1
 rw[hs] at hA ⊢
 refine Calls.callWith_builtin (by show (false || (backTo cpos (starEach es X.env)).any (·.1))=false; rw[hplain] <;> rfl) (Calls.evalArgs_plain ?_)
 exact thn hA fun us s2 ⟨vs,H2,I2,r2,q2⟩=>hm pins s2 σ H2 x vs v us Q I2 r1 r2 q2
end
end L2

namespace L2
open PySem PySem.Spec PyProof.Rows

def MtM (X:Cx)(id:String)(r:V→List V→Hp→VK→Prop):Prop:=
 ∀(pins:List (Addr×Obj)) (s:Shared) (σ:St) (H:Hp) (x:V) (xs:List V) (v:Value) (us:List Value) (Q:VK),Inv X pins σ H s→zac x v→zad xs us→r x xs H Q→
  wpAny (model X.prog X.w) X.A (call (.builtin id) (v::us)) (EP X pins σ Q) X.xe s

theorem zad.one:∀ {x:V} {us:List Value},zad [x] us→∃u,us=[u]∧zac x u
 | _,_,.cons r .nil=>⟨_,rfl,r⟩
theorem zad.two:∀ {x y:V} {us:List Value},zad [x,y] us→∃u v,us=[u,v]∧zac x u∧zac y v
 | _,_,_,.cons r (.cons q .nil)=>⟨_,_,rfl,r,q⟩
theorem zad.zero:∀ {us:List Value},zad [] us→us=[]
 | _,.nil=>rfl
section
variable {X:Cx}{pins:List (Addr×Obj)}{σ:St}{H:Hp}{s:Shared}{l b:Addr}{xs ys zs:List V}

theorem Inv.lset {its its':List Value}{n:Nat}{f:Array Value→Array Value}{t':Nat}(I:Inv X pins σ H s)(hH:H l=some (.lst xs))
  (e:s.heap.get? l=some { cls:=.type "list",data:=.seq its.toArray n })(hf:f its.toArray=its'.toArray)(hv:zad ys its')(hz:ys.length≤sizeLine):
  Inv X pins σ (upd H l (.lst ys)) { s with heap:=s.heap.update l (Obj.mapSeq f),toks:=t' }:=by
 have q:=PySem.IsL.update e f
 rw[hf] at q
 refine I.write (x:=l) (e:=l) (by rw[hH]; exact trivial) (.inl rfl) (fun b' u hb hu=>(Heap.get?_update_other s.heap (Obj.mapSeq f) (Ne.symm hb)).trans hu) ⟨_,q⟩ ?_
 exact⟨hz,its',_,hv,q⟩
theorem Inv.lnew {its:List Value}{t':Nat}(I:Inv X pins σ H s)(hv:zad ys its)(hz:ys.length≤sizeLine):
  Inv X pins σ (upd H s.heap.objs.size (.lst ys)) { s with heap:=s.heap.push { cls:=.type "list",data:=.seq its.toArray },toks:=t' }:=
 I.laid (fun _ _ q=>Heap.get?_push_of_some _ q) (Nat.le_refl _) ⟨hz,its,0,hv,Heap.get?_push_size _ rfl⟩
theorem Inv.fresh (I:Inv X pins σ H s):H s.heap.objs.size=none:=I.hok.fresh (Nat.le_refl _)
theorem Inv.lstM (I:Inv X pins σ H s)(hH:H l=some (.lst xs)):xs.length≤sizeLine∧∃(its:List Value) (n:Nat),zad xs its∧xs.length=its.length∧s.heap.get? l=some { cls:=.type "list",data:=.seq its.toArray n }:=by
 obtain⟨z,its,n,r,e⟩:=I.hok l _ hH
 exact⟨z,its,n,r,r.length,e⟩

end

section
variable {X:Cx}

def ziO:V→List V→Hp→VK→Prop:=fun x vs H Q=>∃l xs y,x=.ref l∧vs=[y]∧H l=some (.lst xs)∧xs.length < sizeLine∧Q .non (upd H l (.lst (xs++[y])))
theorem zet:MtM X "list.append" ziO:=by
 intro pins s σ H x vs v us Q I rx rv h
 obtain⟨l,xs,y,rfl,rfl,hH,hz,q⟩:=h
 cases rx
 obtain⟨u,rfl,ru⟩:=rv.one
 obtain⟨z,its,n,r,hl,e⟩:=I.lstM hH
 refine call_meets F.slot_list_append ⟨_,e,rfl⟩ F.entry_list_append (F.args_list_append_2 _ _) (PySem.list_append l its.toArray n u (by rw[List.size_toArray]; omega)) ⟨e,?_⟩
 refine⟨.non,_,I.lset (its':=its++[u]) hH e (by simp) (r.append (.cons ru .nil)) ?_,rfl,q⟩
 rw[List.length_append,List.length_singleton]
 omega

def rCat:R2:=fun x y H Q=>∃l b xs zs,x=.ref l∧y=.ref b∧H l=some (.lst xs)∧H b=some (.lst zs)∧xs.length + zs.length≤sizeLine∧∀p,H p=none→Q (.ref p) (upd H p (.lst (xs++zs)))
theorem zjt:OpR X (binaryOp .Add) rCat:=by
 intro pins s σ H x y v u Q I rx ry h
 obtain⟨l,b,xs,zs,rfl,rfl,hH,hB,hz,q⟩:=h
 cases rx
 cases ry
 obtain⟨z,its,n,r,hl,e⟩:=I.lstM hH
 obtain⟨z2,its2,n2,r2,hl2,e2⟩:=I.lstM hB
 refine PySem.P.add_list e e2 ?_ (by rw[List.size_toArray,List.size_toArray]; omega)
 have ea:its.toArray++its2.toArray=(its++its2).toArray:=by simp
 rw[ea]
 exact⟨.ref _,_,I.lnew (t':=s.toks) (r.append r2) (by rw[List.length_append]; omega),rfl,q _ I.fresh⟩
end

section
variable {prog:Program}{w:World}{A:Around}{E:Value→Shared→Prop}{s:Shared}
set_option maxRecDepth 100000 in
end

section
variable {X:Cx}
end
end L2

namespace Att
open PySem PySem.W PySem.Calls PyProof.Rows

theorem zjR {P:Params}{h:Heap}:∀(ns:List Int) (vs:List Value),WellAll P h vs (ns.map WData.int)→IntsAre vs ns:=by
 intro ns
 induction ns with
 | nil=>
  intro vs w
  rw[List.map_nil] at w
  cases w
  exact .nil
 | cons n ns ih=>
  intro vs w
  rw[List.map_cons] at w
  cases w with
  | cons a b=>
   cases a
   exact .cons _ _ (ih _ b)

theorem ziH {l:OpenLaw}{n:Nat}(hn:l.most=some n){P:Params}{h:Heap}{args:List WData}{vals:List Value}
  (hpre:l.row.toRowW.claim.pre args=true)(hwl:WellAll P h vals args):
  ∃a vs ns,vals=[Value.ref a]∧args=[WData.list (ns.map WData.int)]∧h.get? a=some { cls:=.type "list",data:=.seq vs.toArray }∧IntsAre vs ns∧ns.length≤n:=by
 have hsh:WShape.hasAll [] args [.list .int]=true:=(pre_splitW hpre).1
 have hc:l.pre.holds [] { args:=args }=true:=(pre_splitW hpre).2
 obtain⟨d,r,rfl,h1,h2⟩:=hasAllW_cons hsh
 obtain rfl:=hasAllW_nil h2
 obtain⟨xs,rfl,h3⟩:=hasW_list h1
 obtain⟨ns,rfl⟩:=items_int h3
 have hlen:ns.length≤n:=by
  unfold OpenLaw.pre at hc
  have h4:(WTm.not (.lt (.lit (.int (n:Int))) (.len (.arg 0)))).holds [] { args:=[.list (ns.map .int)] }=true:=by
   have h4:=(holds_andW hc).1
   rw[hn] at h4
   exact h4
  have h5:=condW_of h4 (w_not (w_lt w_lit (w_len_list (w_arg rfl))))
  rw[List.length_map] at h5
  refine Nat.le_of_not_lt fun q=>?_
  have q':(n:Int) < ((ns.length:Nat):Int):=by omega
  first
   | (rw[decide_eq_true q'] at h5; exact absurd h5 (by decide))
   | (simp at h5; omega)
 cases hwl with
 | cons w1 w2=>
  cases w2
  cases w1 with
  | list ho hall=>exact⟨_,_,ns,rfl,rfl,ho,zjR ns _ hall,hlen⟩

theorem zhb (l:OpenLaw)(args:List WData):l.row.toRowW.claim.post args (.bool true) args=true:=
 postW_of (r:=l.row.toRowW) (X:=(true == true))
  (show WShape.has [] (.bool true) .bool=true by first | rfl | decide | simp[WShape.has,WShape.arms,WShape.armsAll])
  (show (WTm.eq .res (.lit (.bool true))).value [] { args:=args,res:=some (.bool true),after:=args }=some (.bool (true == true)) from w_eq_bool (w_res rfl) w_lit) rfl

theorem attach_call {l:OpenLaw}{n:Nat}{q:Program}{loose:List Str}{XP:(Str→Option Value)→Heap→Prop}{YP:World→Heap→Prop}{d:DefRec}
  (hn:l.most=some n)(hdf:d.params.defaults=[])
  (call:∀(w:World) (s₀ s₁:Shared) (mg mb:Str→Option Value) (fa:Addr) (o:Obj) (pm cd doc:Value) (a:Addr) (vs:List Value) (ns:List Int),
   Ground q loose [] XP w s₀ mg mb s₁.heap→YP w s₁.heap→
   s₁.heap.get? fa=some o→o.data=.func (docDef d.name d.params d.body d.scope pm cd doc)→s₁.heap.CodeRec cd d.name→mg d.name=some (.ref fa)→
   s₁.heap.get? a=some { cls:=.type "list",data:=.seq vs.toArray }→IntsAre vs ns→ns.length≤n→s₁.gens=#[]→
   codeAny (model l.prog w) callerA (.call (.ref fa) ⟨[.ref a],[]⟩) (fun r s'=>r=.ok (.ret (.bool true))∧OldK s₁.heap s'.heap∧s'.os=s₁.os∧AllBare s'.gens) s₁):
  WalkO q loose XP YP l.row.toRowW d [] (fun f vs=>PySem.call f vs):=by
 intro w s₀ s₁ mg mb G Y fa o pm cd doc dV kV ho hd hcd hD hmg hg args vals as hpre hlay hrd hwl hlo
 obtain rfl:dV=.none:=Dflts.none hD hdf
 obtain rfl:kV=.none:=Dflts.noKw hD
 obtain⟨a,vs,ns,rfl,rfl,hobj,hints,hlen⟩:=ziH hn hpre hwl
 refine enter_call (codeAny_mono (call w s₀ s₁ mg mb fa o pm cd doc a vs ns G Y ho (fd_plain hd) hcd hmg hobj hints hlen hg) fun r s' hq=>?_)
 obtain⟨rfl,h2,h3,h4⟩:=hq
 exact⟨.inl ⟨.bool true,.bool true,[],rfl,fun _=>rfl,.bool true,zhb l _,fun _=>⟨List.Pairwise.nil,fun _ hm=>(nomatch hm)⟩⟩,h2,h3,h4⟩

section
variable {prog:Program}{w:World}{A:Around}{E:Value→Shared→Prop}{s:Shared}{K:Frag}

def ledger (h:Heap)(L d:Addr):List (Addr×Obj):=(List.range h.objs.size).filterMap fun a=>if a=L∨a=d then none else (h.get? a).map fun o=>(a,o)
end
end Att

namespace L2
open PySem PySem.Spec PyProof.Rows

theorem zeM:∀ {vs:List Value} {ns:List Int},IntsAre vs ns→zad (ns.map V.int) vs
 | _,_,.nil=>.nil
 | _,_,.cons n t h=>.cons ⟨t,rfl⟩ (zeM h)

def zdN (H:Hp):Prop:=∀b,H b=none∨∃o xs,H b=some (.frz o (.lst xs))

theorem zhU {P:Program}{w:World}{K:PySem.W.Frag}{mg mb:Str→Option Value}{CX:CXT}{k:Nat}{fa a:Addr}{fd:FuncData}{x:Str}{sp:Sp}{s₁:Shared}{vs:List Value}{ns:List Int}
  (KX:K.In s₁.heap)(hns:s₁.heap.Ns mainGlobals mg)(hb:s₁.heap.Ns builtinsNs mb)(hbb:∀x:Str,x≠"__name__"→mb x=bootBuiltins x)(hlim:s₁.heap.NoLimit)(hg:s₁.gens=#[])
  (ha:s₁.heap.get? a=some { cls:=.type "list",data:=.seq vs.toArray })(hi:IntsAre vs ns)(hl:ns.length≤sizeLine)(hr:zaw k callerA)
  (F:∀base:Heap,K.In base→base.Ns mainGlobals mg→zaX P w K mg base CX k fa fd [x] sp)(hbind:∀(s:Shared) (u:Value),BindsTo s fd ⟨[u],[]⟩ [(x,u)])
  (hsp:∀H:Hp,zdN H→SqL K H a (ns.map V.int)→sp [.ref a] H (fun v _=>v=.bl true) fun _ _ _=>False)
  (hCX:∀H e s',CX [] H s₁ (fun _ _ _=>False) e s'→False):
  codeAny (model P w) callerA (.call (.ref fa) ⟨[.ref a],[]⟩) (fun r s'=>r=.ok (.ret (.bool true))∧OldK s₁.heap s'.heap∧s'.os=s₁.os∧AllBare s'.gens) s₁:=by
 have rv:=zeM hi
 have lenV:=hi.length
 -- from an abstract heap in which nothing but the script may be tracked
 have core:∀H:Hp,zdN H→SqL K H a (ns.map V.int)→HOk P w H s₁.heap→(∀b,H b≠none→b=a)→(H a≠none→K.lookup a=none)→
   codeAny (model P w) callerA (.call (.ref fa) ⟨[.ref a],[]⟩) (fun r s'=>r=.ok (.ret (.bool true))∧OldK s₁.heap s'.heap∧s'.os=s₁.os∧AllBare s'.gens) s₁:=by
  intro H hO hS hok hA hK
  have base_of:∀ {b:Addr} {o:Obj},s₁.heap.get? b=some o→H b=none→(zce s₁.heap H).get? b=some o:=fun e n=>zhm e n
  have noA:∀ {b:Addr} {o:Obj} {es:Array DictEntry} {ep:Nat},s₁.heap.get? b=some o→o.data=.dict es ep→H b=none:=fun {b o es ep} e d=>by
   cases q:H b with
   | none=>rfl
   | some u=>
    have e':b=a:=hA b (by rw[q]; simp)
    subst e'
    rw[ha] at e; cases e
    have d':Data.seq vs.toArray _=Data.dict es ep:=d
    cases d'
  have nsK:∀ {b:Addr} {m:Str→Option Value},s₁.heap.Ns b m→(zce s₁.heap H).Ns b m:=fun {b m} ⟨o,es,ep,e,d,r⟩=>⟨o,es,ep,base_of e (noA e d),d,r⟩
  have hKb:K.In (zce s₁.heap H):=fun b o e=>base_of (KX b o e) (by
   cases q:H b with
   | none=>rfl
   | some u=>
    have e':b=a:=hA b (by rw[q]; simp)
    subst e'
    rw[hK (by rw[q]; simp)] at e; cases e)
  have hM:Mod K mg (zce s₁.heap H):=⟨hKb,nsK hns,⟨mb,nsK hb,hbb⟩,let ⟨mc,h1,h2⟩:=hlim; ⟨mc,nsK h1,h2⟩⟩
  have e0:zcv P w K mg (zce s₁.heap H) callerA [] s₁ H:=⟨rfl,hM,fun b o e=>zhI e,Nat.le_of_eq (zig _ _),trivial,fun b hb=>absurd (show b∈([]:List Addr) from hb) (by simp),hok,.of_eq hg⟩
  refine codeAny_mono ((F _ hKb (nsK hns)).run callerA [] s₁ H ⟨[.ref a],[]⟩ [.ref a] [.ref a] _ _ hr e0 (hbind s₁ (.ref a)) (.cons rfl .nil) (hsp H hO hS)) fun r s' h=>?_
  cases r with
  | error e=>exact(hCX H e s' h).elim
  | ok fl=>
   cases fl with
   | next=>exact False.elim h
   | brk=>exact False.elim h
   | cont=>exact False.elim h
   | ret u=>
    obtain⟨v,H',os,bare,un,hok',r',q⟩:=h
    have q':v=.bl true:=q
    subst q'
    obtain rfl:u=Value.bool true:=r'
    refine⟨rfl,OldK.of_keep fun b o e=>?_,os,bare⟩
    cases q:H b with
    | none=>exact un.keep b o e q (by intro z; exact absurd (show b∈([]:List Addr) from z) (by simp)) (by simp)
    | some u=>
     rcases hO b with z | ⟨ob,xs,z⟩
     ·rw[q] at z; cases z
     ·have z2:=un.frzs b ob _ z
      obtain⟨e1,_⟩:=hok b _ z
      obtain⟨e2,_⟩:=hok' b _ z2
      rw[e] at e1; cases e1
      exact e2
 cases hk:K.lookup a with
 | some o=>
  -- the script is one of the module's own objects
  have e:=KX a o hk
  rw[ha] at e
  cases e
  refine core (fun _=>none) (fun _=>.inl rfl) (.inr ⟨_,vs.toArray,_,hk,rfl,rfl,rfl,by rw[List.size_toArray,lenV]; exact hl,by simpa using rv⟩) (fun b u z=>by have z':(none:Option HO)=some u:=z; cases z') (fun b z=>absurd rfl z) fun z=>absurd rfl z
 | none=>
  refine core (fun b=>if b=a then some (.frz { cls:=.type "list",data:=.seq vs.toArray } (.lst (ns.map V.int))) else none) (fun b=>?_) (.inl (.inr ⟨{ cls:=.type "list",data:=.seq vs.toArray },if_pos rfl⟩)) (fun b u z=>?_) (fun b z=>?_) fun _=>hk
  ·by_cases hb:b=a
   ·exact .inr ⟨_,_,if_pos hb⟩
   ·exact .inl (if_neg hb)
  ·by_cases hb:b=a
   ·have z':=(if_pos hb).symm.trans z
    cases z'
    subst hb
    exact⟨ha,by rw[List.length_map]; exact hl,vs,_,rv,ha⟩
   ·have z':=(if_neg hb).symm.trans z
    cases z'
  ·by_cases hb:b=a
   ·exact hb
   ·exact absurd (if_neg hb) z
end L2

namespace L2
open PySem PySem.Spec PyProof.Rows

theorem zie {l:PySem.W.OpenLaw}{n k:Nat}{q:Program}{loose:List Str}{XP:(Str→Option Value)→Heap→Prop}{YP:World→Heap→Prop}{d:DefRec}{K:Params→PySem.W.Frag}{CX:World→CXT}{sp:World→Sp}{x:Str}
  (hn:l.most=some n)(hn2:n≤sizeLine)(hdf:d.params.defaults=[])(hr:zaw k callerA)
  (hY:∀(w:World) (h:Heap),YP w h→(K w.params).In h)
  (F:∀(w:World) (mg:Str→Option Value) (fa:Addr) (h:Heap),(K w.params).In h→h.Ns mainGlobals mg→mg d.name=some (.ref fa)→
   ∃fd:FuncData,(∀(s:Shared) (u:Value),BindsTo s fd ⟨[u],[]⟩ [(x,u)])∧
    ∀base:Heap,(K w.params).In base→base.Ns mainGlobals mg→zaX l.prog w (K w.params) mg base (CX w) k fa fd [x] (sp w))
  (hsp:∀(w:World) (H:Hp) (a:Addr) (ns:List Int),ns.length≤n→zdN H→SqL (K w.params) H a (ns.map V.int)→sp w [.ref a] H (fun v _=>v=.bl true) fun _ _ _=>False)
  (hCX:∀(w:World) (H:Hp) (s:Shared) (e:Value) (s':Shared),CX w [] H s (fun _ _ _=>False) e s'→False):
  PySem.W.WalkO q loose XP YP l.row.toRowW d [] (fun f vs=>PySem.call f vs):=by
 refine Att.attach_call hn hdf fun w s₀ s₁ mg mb fa o pm cd doc a vs ns G Y ho hd hcd hmg hobj hints hlen hg=>?_
 have KX:=hY w _ Y
 obtain⟨fd,hb,hF⟩:=F w mg fa _ KX G.T.g hmg
 exact zhU KX G.T.g G.T.b G.T.builtins G.T.nolimit hg hobj hints (Nat.le_trans hlen hn2) hr hF hb (fun H hO hS=>hsp w H a ns hlen hO hS) fun H e s'=>hCX w H s₁ e s'
end L2


namespace L2
open PySem PySem.Spec PyProof.Rows

def zaF (s:Stmt):Arguments:=match s with
 | .FunctionDef _ a _ _ _ _ _ _ _ _=>a
 | _=>{ posonlyargs:=[],args:=[],vararg:=none,kwonlyargs:=[],kw_defaults:=[],kwarg:=none,defaults:=[] }
def zaE (s:Stmt):List Stmt:=match s with
 | .FunctionDef _ _ b _ _ _ _ _ _ _=>b
 | _=>[]
def zah (s:Stmt):Scope:=match s with
 | .FunctionDef _ _ _ _ _ _ sc _ _ _=>sc
 | _=>{ kind:=.function,names:=[],isGenerator:=false,isCoroutine:=false }

abbrev CX0:CXT:=fun _ _ _ _ _ _=>False
structure Fun (K:PySem.W.Frag)(x qual:Str)(st:Stmt)(f:Addr)(fd:FuncData):Prop where
 ex:∃(oc:Value) (od:Option Addr) (kV doc pm:Value) (an:Option Addr) (cdv ct:Value) (osl:Array (Option Value)),
  fd=PySem.W.fnOf x qual (zaF st) (zaE st) (zah st) .none kV doc pm an cdv ct∧K.lookup f=some ⟨oc,od,.func fd,osl⟩∧PySem.W.codeIn K cdv qual=true
 kp:PySem.W.keepIn K (.ref f)=true
section
variable {P:Program}{w:World}{K:PySem.W.Frag}{mg:Str→Option Value}{base:Heap}
theorem Fun.ok {x qual:Str}{st:Stmt}{f:Addr}{fd:FuncData}{N ps:List Str}{k:Nat}{sp:Sp}(F:Fun K x qual st f fd)(S:zbe N ps (zah st))(len:∀vs H Q E,sp vs H Q E→vs.length=ps.length)
  (hbody:∀(cdv:Value) (A:Around) (outer:List Env) (s:Shared) (H:Hp) (vs:List V) (Q:VK) (E:XK),zaw k (A.deeper (envOfC qual (zah st) s.heap.objs.size f cdv))→sp vs H Q E→
   ∃t,PSs (zcI CX0 P w K mg base N qual (zah st) f cdv A outer s H E).nox (zaE st) t∧t { nx:=fun _ H'=>Q .non H',rt:=Q } (zbM N vs) H):zaX P w K mg base CX0 (k + 1) f fd ps sp:=by
 obtain⟨oc,od,kV,doc,pm,an,cdv,ct,osl,rfl,lk,hcd⟩:=F.ex
 refine zf2 lk hcd S len fun A outer s H vs Q E hr hsp=>?_
 obtain⟨t,h,q⟩:=hbody cdv A outer s H vs Q E hr hsp
 exact⟨t,h.nox,q⟩
theorem Fun.binds {x qual:Str}{st:Stmt}{f:Addr}{fd:FuncData}{ps:List Str}(F:Fun K x qual st f fd)
  (h:∀(kV doc pm:Value) (an:Option Addr) (cdv ct:Value) (us:List Value),us.length=ps.length→bindArgs (PySem.W.fnOf x qual (zaF st) (zaE st) (zah st) .none kV doc pm an cdv ct) ⟨us,[]⟩=pure (ps.zip us)):zbS K fd ps []:=by
 obtain⟨oc,od,kV,doc,pm,an,cdv,ct,osl,rfl,lk,hcd⟩:=F.ex
 exact .all (h kV doc pm an cdv ct)
theorem zaQ {x qual:Str}{st:Stmt}{f:Addr}{oc:Value}{od an:Option Addr}{osl:Array (Option Value)}{kV doc pm cdv ct:Value}(l:K.lookup f=some ⟨oc,od,.func (PySem.W.fnOf x qual (zaF st) (zaE st) (zah st) .none kV doc pm an cdv ct),osl⟩)
  (c:PySem.W.codeIn K cdv qual=true)(k:PySem.W.keepIn K (.ref f)=true):Fun K x qual st f (PySem.W.fnOf x qual (zaF st) (zaE st) (zah st) .none kV doc pm an cdv ct):=⟨⟨oc,od,kV,doc,pm,an,cdv,ct,osl,rfl,l,c⟩,k⟩
end
theorem zdS {n:Nat}(h:n≤1000):n < sizeLine:=Nat.lt_of_le_of_lt h (by decide)

section
variable {X:Cx}
theorem pv (i:Nat){x:Str}{pos:Pos}(hN:X.N[i]?=some x:=by rfl)(hv:Vis X.env.scope x:=by first | exact Or.inl rfl | exact Or.inr (Or.inl rfl) | exact Or.inr (Or.inr rfl))(hd:(x == ("__debug__":Str))=false:=by decide)
  (hcd:(x == ("__classdict__":Str))=false:=by decide):PE X (.Name x pos) (tVar i):=zgD hN hv hd hcd
end

theorem zai {A B:Prop}(h:B):if false=true then A else B:=by
 rw[if_neg Bool.false_ne_true]
 exact h
theorem za4 {A B:Prop}(h:A):if true=true then A else B:=by
 rw[if_pos rfl]
 exact h
theorem ite2 {c A B:Prop} [Decidable c] (h1:c→A)(h2:¬ c→B):if c then A else B:=by
 by_cases h:c
 ·rw[if_pos h]
  exact h1 h
 ·rw[if_neg h]
  exact h2 h
def zbY (H H':Hp):Prop:=∀b o,H b=some o→H' b=some o
theorem zbY.refl (H:Hp):zbY H H:=fun _ _ h=>h
theorem zbY.trans {H H1 H2:Hp}(a:zbY H H1)(b:zbY H1 H2):zbY H H2:=fun c o h=>b c o (a c o h)
theorem zbY.free {H H':Hp}(e:zbY H H'){l:Addr}(h:H' l=Option.none):H l=Option.none:=by
 cases q:H l with
 | none=>rfl
 | some o=>
  rw[e l o q] at h
  cases h
theorem zbY.seq {K:PySem.W.Frag}{H H':Hp}{a:Addr}{xs:List V}(e:zbY H H')(h:SqL K H a xs):SqL K H' a xs:=by
 rcases h with (h | ⟨o,h⟩) | h
 ·exact .inl (.inl (e _ _ h))
 ·exact .inl (.inr ⟨o,e _ _ h⟩)
 ·exact .inr h

end L2

namespace L2
open PySem PySem.Spec PyProof.Rows
section
variable {κ:Type} [DecidableEq κ]
def zbt (kvs:List (κ×V))(k:κ):Option V:=(kvs.find? fun kv=>decide (kv.1=k)).map (·.2)
def putK (kvs:List (κ×V))(k:κ)(v:V):List (κ×V):=
 if (kvs.any fun kv=>decide (kv.1=k))=true then kvs.map (fun kv=>if kv.1=k then (kv.1,v) else kv) else kvs++[(k,v)]
def zgy (kvs:List (κ×V))(k:κ):List (κ×V):=kvs.filter fun kv=>decide (kv.1≠k)

theorem zeg {p:κ×V}{r:List (κ×V)}{k:κ}(e:p.1=k):zbt (p::r) k=some p.2:=by simp[zbt,List.find?_cons,e]
theorem zeo {p:κ×V}{r:List (κ×V)}{k:κ}(e:¬ p.1=k):zbt (p::r) k=zbt r k:=by simp[zbt,List.find?_cons,e]
theorem zf7 (k:κ):∀kvs:List (κ×V),(kvs.any fun kv=>decide (kv.1=k))=(zbt kvs k).isSome
 | []=>rfl
 | p::r=>by
  rw[List.any_cons]
  by_cases e:p.1=k
  ·simp only[zeg e,decide_eq_true e,Bool.true_or,Option.isSome_some]
  ·rw[zeo e,decide_eq_false e,Bool.false_or]; exact zf7 k r
theorem zcl.isSome_eq {o:Option V}{u:Option Value}(r:zcl o u):o.isSome=u.isSome:=by
 cases o with
 | none=>cases u with
  | none=>rfl
  | some _=>exact(show False from r).elim
 | some _=>cases u with
  | none=>exact(show False from r).elim
  | some _=>rfl
theorem zcl.getD {o:Option V}{u:Option Value}{d:V}{d':Value}(r:zcl o u)(rd:zac d d'):zac (o.getD d) (u.getD d'):=by
 cases o with
 | none=>cases u with
  | none=>exact rd
  | some _=>exact(show False from r).elim
 | some _=>cases u with
  | none=>exact(show False from r).elim
  | some _=>exact r

theorem KV.val {kvs:List (κ×V)}{vs:List (κ×Value)}(r:KV kvs vs)(k:κ):zcl (zbt kvs k) (valueAt vs k):=by
 unfold KV at r
 induction r with
 | nil=>exact True.intro
 | @cons p q ps qs h t ih=>
  obtain⟨h1,h2⟩:=h
  by_cases e:p.1=k
  ·have e':q.1=k:=h1.symm.trans e
   have b:valueAt (q::qs) k=some q.2:=by simp[valueAt,List.find?_cons,e']
   rw[zeg e,b]; exact h2
  ·have e':¬ q.1=k:=fun z=>e (h1.trans z)
   have b:valueAt (q::qs) k=valueAt qs k:=by simp[valueAt,List.find?_cons,e']
   rw[zeo e,b]; exact ih
theorem KV.any {kvs:List (κ×V)}{vs:List (κ×Value)}(r:KV kvs vs)(k:κ):(kvs.any fun kv=>decide (kv.1=k))=vs.any fun kv=>decide (kv.1=k):=by
 unfold KV at r
 induction r with
 | nil=>rfl
 | cons h t ih=>rw[List.any_cons,List.any_cons,ih,h.1]
theorem KV.repl {kvs:List (κ×V)}{vs:List (κ×Value)}(r:KV kvs vs)(k:κ){y:V}{u:Value}(ry:zac y u):
  KV (kvs.map fun kv=>if kv.1=k then (kv.1,y) else kv) (vs.map fun kv=>if kv.1=k then (kv.1,u) else kv):=by
 unfold KV at r ⊢
 induction r with
 | nil=>exact .nil
 | @cons p q ps qs h t ih=>
  rw[List.map_cons,List.map_cons]
  refine .cons ?_ ih
  obtain⟨h1,h2⟩:=h
  by_cases e:p.1=k
  ·rw[if_pos e,if_pos (h1.symm.trans e)]; exact⟨h1,ry⟩
  ·rw[if_neg e,if_neg (fun z=>e (h1.trans z))]; exact⟨h1,h2⟩
theorem KV.put {kvs:List (κ×V)}{vs:List (κ×Value)}(r:KV kvs vs)(k:κ){y:V}{u:Value}(ry:zac y u):KV (putK kvs k y) (stored vs k u):=by
 unfold putK stored
 rw[r.any k]
 by_cases e:(vs.any fun kv=>decide (kv.1=k))=true
 ·rw[if_pos e,if_pos e]; exact r.repl k ry
 ·rw[if_neg e,if_neg e]; exact Paired.snoc r ⟨rfl,ry⟩
theorem KV.drop {kvs:List (κ×V)}{vs:List (κ×Value)}(r:KV kvs vs)(k:κ):KV (zgy kvs k) (without vs k):=by
 unfold KV at r ⊢
 unfold zgy without
 induction r with
 | nil=>exact .nil
 | @cons p q ps qs h t ih=>
  obtain⟨h1,h2⟩:=h
  rw[List.filter_cons,List.filter_cons]
  by_cases e:p.1=k
  ·have a:¬ decide (p.1≠k)=true:=by simp[e]
   have b:¬ decide (q.1≠k)=true:=by simp[h1.symm.trans e]
   rw[if_neg a,if_neg b]; exact ih
  ·have e':¬ q.1=k:=fun z=>e (h1.trans z)
   have a:decide (p.1≠k)=true:=by simp[e]
   have b:decide (q.1≠k)=true:=by simp[e']
   rw[if_pos a,if_pos b]; exact .cons ⟨h1,h2⟩ ih
theorem KV.keys {kvs:List (κ×V)}{vs:List (κ×Value)}(r:KV kvs vs):kvs.map (·.1)=vs.map (·.1):=by
 unfold KV at r
 induction r with
 | nil=>rfl
 | cons h t ih=>rw[List.map_cons,List.map_cons,ih,h.1]
theorem KV.length {kvs:List (κ×V)}{vs:List (κ×Value)}(r:KV kvs vs):kvs.length=vs.length:=Paired.length r
end


abbrev KT (H:Hp):List (List Key×V)→List (List Key×Addr×Value)→Prop:=Paired fun p q=>p.1=q.1∧H q.2.1=some (.tup (p.1.map kV))∧zac p.2 q.2.2
theorem KT.val {H:Hp}{kvs:List (List Key×V)}{xs:List (List Key×Addr×Value)}(r:KT H kvs xs)(k:List Key):zcl (zbt kvs k) ((atKey xs k).map (·.2)):=by
 induction r with
 | nil=>exact True.intro
 | @cons p q ps qs h t ih=>
  obtain⟨h1,_,h2⟩:=h
  by_cases e:p.1=k
  ·have e':q.1=k:=h1.symm.trans e
   have b:atKey (q::qs) k=some q.2:=by simp[atKey,List.find?_cons,e']
   rw[zeg e,b]; exact h2
  ·have e':¬ q.1=k:=fun z=>e (h1.trans z)
   have b:atKey (q::qs) k=atKey qs k:=by simp[atKey,List.find?_cons,e']
   rw[zeo e,b]; exact ih
theorem KT.repl {H:Hp}{kvs:List (List Key×V)}{xs:List (List Key×Addr×Value)}(r:KT H kvs xs)(k:List Key){y:V}{u:Value}(ry:zac y u):
  KT H (kvs.map fun kv=>if kv.1=k then (kv.1,y) else kv) (xs.map (putAt k u)):=by
 induction r with
 | nil=>exact .nil
 | @cons p q ps qs h t ih=>
  rw[List.map_cons,List.map_cons]
  refine .cons ?_ ih
  obtain⟨h1,h2,h3⟩:=h
  unfold putAt
  by_cases e:p.1=k
  ·rw[if_pos e,if_pos (h1.symm.trans e)]; exact⟨h1,h2,ry⟩
  ·rw[if_neg e,if_neg (fun z=>e (h1.trans z))]; exact⟨h1,h2,h3⟩
theorem KT.put {H:Hp}{kvs:List (List Key×V)}{xs:List (List Key×Addr×Value)}(r:KT H kvs xs)(k:List Key){b:Addr}{y:V}{u:Value}(hb:H b=some (.tup (k.map kV)))(ry:zac y u):
  KT H (putK kvs k y) (storedH xs k b u):=by
 have e:(kvs.any fun kv=>decide (kv.1=k))=(atKey xs k).isSome:=by
  rw[zf7,(r.val k).isSome_eq,Option.isSome_map]
 unfold putK storedH
 rw[e]
 by_cases q:(atKey xs k).isSome=true
 ·rw[if_pos q,if_pos q]; exact r.repl k ry
 ·rw[if_neg q,if_neg q]; exact Paired.snoc r ⟨rfl,hb,ry⟩
theorem KT.keeps {H H':Hp}{kvs:List (List Key×V)}{xs:List (List Key×Addr×Value)}(r:KT H kvs xs)(ht:∀b ys,H b=some (.tup ys)→H' b=some (.tup ys)):KT H' kvs xs:=
 Paired.mapP r fun _ _ z=>⟨z.1,ht _ _ z.2.1,z.2.2⟩

section
variable {P:Program}{w:World}{H:Hp}{h:Heap}{a:Addr}
end

def zek (H:Hp)(a:Addr)(y:V)(r:Option V):Prop:=
 (∃kvs k,Rd H a (.dK kvs)∧y=kV k∧r=zbt kvs k)∨∃kvs k b,Rd H a (.dT kvs)∧y=.ref b∧H b=some (.tup (k.map kV))∧r=zbt kvs k
def zeF (H:Hp)(a:Addr)(y v:V)(H':Hp):Prop:=
 (∃kvs k,H a=some (.dK kvs)∧y=kV k∧kvs.length < sizeLine∧H'=upd H a (.dK (putK kvs k v)))∨
 ∃kvs k b,H a=some (.dT kvs)∧y=.ref b∧H b=some (.tup (k.map kV))∧kvs.length < sizeLine∧H'=upd H a (.dT (putK kvs k v))
theorem zek.k {H:Hp}{a:Addr}{kvs:List (Key×V)}{k:Key}(e:H a=some (.dK kvs)):zek H a (kV k) (zbt kvs k):=.inl ⟨kvs,k,.inl e,rfl,rfl⟩
theorem zek.t {H:Hp}{a b:Addr}{kvs:List (List Key×V)}{k:List Key}(e:H a=some (.dT kvs))(eb:H b=some (.tup (k.map kV))):zek H a (.ref b) (zbt kvs k):=.inr ⟨kvs,k,b,.inl e,rfl,eb,rfl⟩
theorem zeF.k {H:Hp}{a:Addr}{kvs:List (Key×V)}{k:Key}{v:V}(e:H a=some (.dK kvs))(hl:kvs.length < sizeLine):zeF H a (kV k) v (upd H a (.dK (putK kvs k v))):=.inl ⟨kvs,k,e,rfl,hl,rfl⟩
theorem zeF.t {H:Hp}{a b:Addr}{kvs:List (List Key×V)}{k:List Key}{v:V}(e:H a=some (.dT kvs))(eb:H b=some (.tup (k.map kV)))(hl:kvs.length < sizeLine):
  zeF H a (.ref b) v (upd H a (.dT (putK kvs k v))):=.inr ⟨kvs,k,b,e,rfl,eb,hl,rfl⟩


section
variable {X:Cx}{pins:List (Addr×Obj)}{σ:St}{H:Hp}{s:Shared}{a:Addr}{y v:V}{u r:Value}{o:Option V}{A:Around}{E:Value→Shared→Prop}

theorem Inv.big (I:Inv X pins σ H s):sysModules < s.heap.objs.size:=by
 have h:mainGlobals < s.heap.objs.size:=(I.mod.glob.keeps I.bk).lt
 exact Nat.lt_trans (by decide) h

end

section
variable {X:Cx}{pins:List (Addr×Obj)}{σ:St}{H:Hp}{s:Shared}{a:Addr}{kvs:List (Key×V)}{k:Key}{u:Value}{A:Around}{E:Value→Shared→Prop}
end


section
variable {X:Cx}{o i e value:Expr}{pos pos' tpos:Pos}{td ty tv:TE}
end


section
variable {X:Cx}{pos:Pos}
end

structure M1 (X:Cx)(o:Expr)(m:Str)(apos:Pos)(e:Expr)(cpos:Pos):Prop where
 base:attributeBase o m X.env (eval o X.env)=eval o X.env
 few:((backTo cpos (starEach [e] X.env)).all (fun x=>!x.1) && (backToKw cpos (keywordEach [] X.env)).all (fun x=>x.1.isSome)
  && decide (([e]:List Expr).length + ([]:List Keyword).length + (if ([]:List Keyword).isEmpty then 0 else 1) < 30))=true
 line:(apos.endLine == cpos.line)=true
 trees:backTo cpos (starEach [e] X.env)=[(false,eval e X.env)]
structure M2 (X:Cx)(o:Expr)(m:Str)(apos:Pos)(e f:Expr)(cpos:Pos):Prop where
 base:attributeBase o m X.env (eval o X.env)=eval o X.env
 few:((backTo cpos (starEach [e,f] X.env)).all (fun x=>!x.1) && (backToKw cpos (keywordEach [] X.env)).all (fun x=>x.1.isSome)
  && decide (([e,f]:List Expr).length + ([]:List Keyword).length + (if ([]:List Keyword).isEmpty then 0 else 1) < 30))=true
 line:(apos.endLine == cpos.line)=true
 trees:backTo cpos (starEach [e,f] X.env)=[(false,eval e X.env),(false,eval f X.env)]

section
variable {X:Cx}{pins:List (Addr×Obj)}{σ:St}{H:Hp}{s:Shared}{a:Addr}{y d:V}{u r:Value}{o:Option V}{A:Around}{E:Value→Shared→Prop}
end

section
variable {X:Cx}{o e f:Expr}{apos cpos:Pos}{td ty tx:TE}
end

section
variable {X:Cx}{pins:List (Addr×Obj)}{σ:St}{H:Hp}{s:Shared}{a:Addr}{kvs:List (Key×V)}{A:Around}{E:Value→Shared→Prop}
end


section
variable {X:Cx}{pins:List (Addr×Obj)}{σ:St}{H:Hp}{s:Shared}{a:Addr}{y:V}{u:Value}{A:Around}{E:Value→Shared→Prop}
end
end L2

namespace L3
open PySem PySem.Spec PyProof.Rows L2

abbrev St:=L2.St
inductive D where
 | non | bl (b:Bool) | int (i:Int) | str (x:Str) | tup (xs:List D) | ref (n:Nat) | exc (c:Addr)
inductive Ob where
 | lst (xs:List D) | frz (xs:List D)
  | ins (C:Addr) (fs:List (Str×D))
  | dct (kvs:List (List Key×D))
abbrev Sto:=List Ob
abbrev Ev:=List (Option D)
abbrev DK:=D→Sto→Prop
abbrev TDE:=Ev→Sto→DK→Prop
abbrev TDT:=Ev→Sto→(Bool→Sto→Prop)→Prop
abbrev TDA:=Ev→Sto→(List D→Sto→Prop)→Prop
structure zcH where
 nx:Ev→Sto→Prop
 rt:DK
 bk:Ev→Sto→Prop:=fun _ _=>False
 ct:Ev→Sto→Prop:=fun _ _=>False
abbrev TDS:=zcH→Ev→Sto→Prop

def isX (a c:Addr):HO:=.ext fun h=>∃o,h.get? a=some o∧o.cls=.ref c
inductive Rp (r:List Addr)(H:Hp):D→V→Prop
 | non:Rp r H .non .non
 | bl (b:Bool):Rp r H (.bl b) (.bl b)
 | int (i:Int):Rp r H (.int i) (.int i)
 | str (x:Str):Rp r H (.str x) (.str x)
 | tup {ds:List D} {xs:List V} {a:Addr}:H a=some (.tup xs)→ds.length=xs.length→(∀(i:Nat) (d:D) (v:V),ds[i]?=some d→xs[i]?=some v→Rp r H d v)→Rp r H (.tup ds) (.ref a)
 | ref {n:Nat} {a:Addr}:r[n]?=some a→Rp r H (.ref n) (.ref a)
 | exc {c a:Addr}:H a=some (isX a c)→Rp r H (.exc c) (.ref a)
def Rps (r:List Addr)(H:Hp)(ds:List D)(vs:List V):Prop:=ds.length=vs.length∧∀(i:Nat) (d:D) (v:V),ds[i]?=some d→vs[i]?=some v→Rp r H d v
structure Ext (r r':List Addr)(H H':Hp):Prop where
 adr:∀(n:Nat) (a:Addr),r[n]?=some a→r'[n]?=some a
 tup:∀a xs,H a=some (.tup xs)→H' a=some (.tup xs)
 xc:∀a c,H a=some (isX a c)→H' a=some (isX a c)
section
variable {r r' r2:List Addr}{H H' H2:Hp}{d:D}{v:V}{ds:List D}{vs:List V}
theorem Ext.refl:Ext r r H H:=⟨fun _ _ h=>h,fun _ _ h=>h,fun _ _ h=>h⟩
theorem Ext.trans (a:Ext r r' H H')(b:Ext r' r2 H' H2):Ext r r2 H H2:=⟨fun n x h=>b.adr n x (a.adr n x h),fun x y h=>b.tup x y (a.tup x y h),fun x y h=>b.xc x y (a.xc x y h)⟩
theorem Rp.ext (h:Rp r H d v)(e:Ext r r' H H'):Rp r' H' d v:=by
 induction h with
 | non=>exact .non
 | bl b=>exact .bl b
 | int i=>exact .int i
 | str x=>exact .str x
 | tup h l _ ih=>exact .tup (e.tup _ _ h) l ih
 | ref h=>exact .ref (e.adr _ _ h)
 | exc h=>exact .exc (e.xc _ _ h)
theorem Rps.ext (h:Rps r H ds vs)(e:Ext r r' H H'):Rps r' H' ds vs:=⟨h.1,fun i d v h1 h2=>(h.2 i d v h1 h2).ext e⟩
theorem Rps.nil:Rps r H [] []:=⟨rfl,fun i d v h=>by simp at h⟩
theorem Rps.cons (h:Rp r H d v)(t:Rps r H ds vs):Rps r H (d::ds) (v::vs):=by
 refine⟨by simp[t.1],fun i x y h1 h2=>?_⟩
 cases i with
 | zero=>
  simp at h1 h2
  subst h1; subst h2
  exact h
 | succ i=>exact t.2 i x y (by simpa using h1) (by simpa using h2)
theorem Rps.tail {y:V}(h:Rps r H (d::ds) (y::vs)):Rp r H d y∧Rps r H ds vs:=
 ⟨h.2 0 d y rfl rfl,by simpa using h.1,fun i a b h1 h2=>h.2 (i + 1) a b (by simpa using h1) (by simpa using h2)⟩
theorem Rps.uncons (h:Rps r H (d::ds) vs):∃v vs',vs=v::vs'∧Rp r H d v∧Rps r H ds vs':=by
 cases vs with
 | nil=>exact absurd h.1 (by simp)
 | cons v vs'=>exact⟨v,vs',rfl,h.tail⟩
theorem Rps.unnil (h:Rps r H [] vs):vs=[]:=by
 cases vs with
 | nil=>rfl
 | cons v vs'=>exact absurd h.1 (by simp)
theorem Rps.get {i:Nat}(h:Rps r H ds vs)(e:ds[i]?=some d):∃v,vs[i]?=some v∧Rp r H d v:=by
 have hi:i < ds.length:=(List.getElem?_eq_some_iff.mp e).1
 have hv:i < vs.length:=by rw[← h.1]; exact hi
 exact⟨vs[i],by simp[hv],h.2 i d vs[i] e (by simp[hv])⟩
theorem Rps.get' {i:Nat}(h:Rps r H ds vs)(e:vs[i]?=some v):∃d,ds[i]?=some d∧Rp r H d v:=by
 have hv:i < vs.length:=(List.getElem?_eq_some_iff.mp e).1
 have hi:i < ds.length:=by rw[h.1]; exact hv
 exact⟨ds[i],by simp[hi],h.2 i ds[i] v (by simp[hi]) e⟩
theorem Rps.snoc (h:Rps r H ds vs)(t:Rp r H d v):Rps r H (ds++[d]) (vs++[v]):=by
 refine⟨by simp[h.1],fun i x y h1 h2=>?_⟩
 by_cases hi:i < ds.length
 ·rw[List.getElem?_append_left hi] at h1
  rw[List.getElem?_append_left (by rw[← h.1]; exact hi)] at h2
  exact h.2 i x y h1 h2
 ·have hl:i < (ds++[d]).length:=(List.getElem?_eq_some_iff.mp h1).1
  have e:i=ds.length:=by simp at hl; omega
  subst e
  rw[List.getElem?_append_right (Nat.le_refl _)] at h1
  rw[h.1,List.getElem?_append_right (Nat.le_refl _)] at h2
  simp at h1 h2
  subst h1; subst h2
  exact t
theorem Rps.tupR {a:Addr}(h:Rps r H ds vs)(e:H a=some (.tup vs)):Rp r H (.tup ds) (.ref a):=.tup e h.1 h.2
theorem Rp.untup {vs:V}(h:Rp r H (.tup ds) vs):∃a xs,vs=.ref a∧H a=some (.tup xs)∧Rps r H ds xs:=by
 cases h with
 | tup e l f=>exact⟨_,_,rfl,e,l,f⟩
end

def SqF (K:PySem.W.Frag)(H:Hp)(a:Addr)(xs:List V):Prop:=
 (∃o,H a=some (.frz o (.lst xs)))∨
  ∃(o:Obj) (its:Array Value) (n:Nat),K.lookup a=some o∧o.cls=.type "list"∧o.dict=none∧o.data=.seq its n∧its.size≤sizeLine∧zad xs its.toList
theorem SqF.sql {K:PySem.W.Frag}{H:Hp}{a:Addr}{xs:List V}(h:SqF K H a xs):SqL K H a xs:=by
 rcases h with ⟨o,h⟩ | h
 ·exact .inl (.inr ⟨o,h⟩)
 ·exact .inr h
def FR {α:Type}(r:List Addr)(H:Hp)(fs:List (α×D))(fs':List (α×V)):Prop:=fs.map (·.1)=fs'.map (·.1)∧Rps r H (fs.map (·.2)) (fs'.map (·.2))
theorem FR.ext {α:Type}{r r':List Addr}{H H':Hp}{fs:List (α×D)}{fs':List (α×V)}(h:FR r H fs fs')(e:Ext r r' H H'):FR r' H' fs fs':=⟨h.1,h.2.ext e⟩
theorem FR.nil {α:Type}{r:List Addr}{H:Hp}:FR (α:=α) r H [] []:=⟨rfl,Rps.nil⟩
def ObR (K:PySem.W.Frag)(r:List Addr)(H:Hp)(a:Addr):Ob→Prop
 | .lst ds=>∃xs,H a=some (.lst xs)∧Rps r H ds xs
 | .frz ds=>∃xs,SqF K H a xs∧Rps r H ds xs
 | .ins C fs=>∃dx fs',H a=some (.ins C dx fs')∧FR r H fs fs'
 | .dct kvs=>∃kvs',H a=some (.dT kvs')∧FR r H kvs kvs'
def zct:Ob→Bool
 | .frz _=>false
 | _=>true
structure zav (K:PySem.W.Frag)(r:List Addr)(S:Sto)(H:Hp):Prop where
 len:r.length=S.length
 ob:∀(n:Nat) (a:Addr) (o:Ob),r[n]?=some a→S[n]?=some o→ObR K r H a o
 nd:∀(n m:Nat) (a:Addr) (o u:Ob),r[n]?=some a→r[m]?=some a→S[n]?=some o→S[m]?=some u→zct o=true→zct u=true→n=m
def zae:Ob→List D
 | .lst ds=>ds
 | .frz ds=>ds
 | _=>[.exc 0]
def zbw:Ob→Option Ob
 | .lst ds=>some (.lst ds)
 | .frz ds=>some (.frz ds)
 | _=>none
def lAt (S:Sto)(n:Nat):Option Ob:=(S[n]?).bind zbw
theorem zhG {o u:Ob}(h:zbw o=some u):u=o:=by
 cases o <;> simp[zbw] at h <;> exact h.symm
theorem zbB {S:Sto}{n:Nat}{o:Ob}(h:lAt S n=some o):S[n]?=some o∧zbw o=some o:=by
  unfold lAt at h
  cases q:S[n]? with
  | none=>
   rw[q] at h
   cases h
  | some u=>
    rw[q] at h
    have h':zbw u=some o:=h
    have e:=zhG h'
    subst e
    exact⟨rfl,h'⟩
theorem zaR {S:Sto}{n:Nat}{o:Ob}(h:S[n]?=some o)(hL:zbw o=some o):lAt S n=some o:=by
 unfold lAt
 rw[h]
 exact hL
section
variable {K:PySem.W.Frag}{r r':List Addr}{S:Sto}{H H':Hp}{n:Nat}{a p:Addr}
theorem zav.at {o:Ob}(h:zav K r S H)(e:S[n]?=some o):∃a,r[n]?=some a∧ObR K r H a o:=by
 have hn:n < S.length:=(List.getElem?_eq_some_iff.mp e).1
 have hr:n < r.length:=by rw[h.len]; exact hn
 exact⟨r[n],by simp[hr],h.ob n r[n] o (by simp[hr]) e⟩
theorem ObR.list {o:Ob}(h:ObR K r H a o)(hL:zbw o=some o):∃xs,SqL K H a xs∧Rps r H (zae o) xs:=by
 cases o with
 | lst ds=>obtain⟨xs,e,q⟩:=h; exact⟨xs,SqL.of e,q⟩
 | frz ds=>obtain⟨xs,e,q⟩:=h; exact⟨xs,e.sql,q⟩
 | ins C fs=>cases hL
 | dct kvs=>cases hL
theorem ObR.keep {o:Ob}(q:ObR K r H a o)(x:Ext r r' H H')(ha:∀u,H a=some u→H' a=some u):ObR K r' H' a o:=by
 cases o with
 | lst ds=>obtain⟨xs,h3,h4⟩:=q; exact⟨xs,ha _ h3,h4.ext x⟩
 | frz ds=>
  obtain⟨xs,h3,h4⟩:=q
  refine⟨xs,?_,h4.ext x⟩
  rcases h3 with ⟨o,h3⟩ | h3
  ·exact .inl ⟨o,ha _ h3⟩
  ·exact .inr h3
 | ins C fs=>obtain⟨dx,fs',h3,h4⟩:=q; exact⟨dx,fs',ha _ h3,h4.ext x⟩
 | dct kvs=>obtain⟨ks,h3,h4⟩:=q; exact⟨ks,ha _ h3,h4.ext x⟩
theorem ObR.own {o:Ob}(q:ObR K r H a o)(h:zct o=true):∃u,H a=some u∧(∀xs,u≠HO.tup xs)∧(∀b c,u≠isX b c)∧∀z y,u≠HO.frz z y:=by
 cases o with
 | lst ds=>obtain⟨xs,h3,h4⟩:=q; exact⟨_,h3,(fun _ z=>by cases z),(fun _ _ z=>by cases z),(fun _ _ z=>by cases z)⟩
 | frz ds=>cases h
 | ins C fs=>obtain⟨dx,fs',h3,h4⟩:=q; exact⟨_,h3,(fun _ z=>by cases z),(fun _ _ z=>by cases z),(fun _ _ z=>by cases z)⟩
 | dct kvs=>obtain⟨ks,h3,h4⟩:=q; exact⟨_,h3,(fun _ z=>by cases z),(fun _ _ z=>by cases z),(fun _ _ z=>by cases z)⟩
theorem zav.same (h:zav K r S H)(e:∀b o,H b=some o→H' b=some o):zav K r S H':=
 ⟨h.len,fun n a o h1 h2=>(h.ob n a o h1 h2).keep ⟨fun _ _ q=>q,fun a xs q=>e _ _ q,fun a c q=>e _ _ q⟩ (e a),h.nd⟩
theorem zbG {o:HO}(h:H p=none):∀b u,H b=some u→(upd H p o) b=some u:=fun b u q=>by rw[zaH (zcV q h)]; exact q
theorem zei {n:Nat}{b:Addr}(e:(r++[p])[n]?=some b):(n < r.length∧r[n]?=some b)∨(n=r.length∧b=p):=by
 by_cases hn:n < r.length
 ·rw[List.getElem?_append_left hn] at e; exact .inl ⟨hn,e⟩
 ·have hl:n < (r++[p]).length:=(List.getElem?_eq_some_iff.mp e).1
  have en:n=r.length:=by simp at hl; omega
  subst en
  rw[List.getElem?_append_right (Nat.le_refl _)] at e
  simp at e
  exact .inr ⟨rfl,e.symm⟩
theorem zav.pushO {o:Ob}(h:zav K r S H)(hp:H p=none)(keep:∀b u,H b=some u→H' b=some u)(q:Ext r (r++[p]) H H'→ObR K (r++[p]) H' p o):zav K (r++[p]) (S++[o]) H'∧Ext r (r++[p]) H H':=by
 have x:Ext r (r++[p]) H H':=⟨fun n a e=>by
  have hn:n < r.length:=(List.getElem?_eq_some_iff.mp e).1
  rw[List.getElem?_append_left hn]; exact e,fun a ys e=>keep _ _ e,fun a c e=>keep _ _ e⟩
 have sS:∀ {n:Nat} {u:Ob},n < r.length→(S++[o])[n]?=some u→S[n]?=some u:=fun {n u} hn e=>by
  rw[List.getElem?_append_left (by rw[← h.len]; exact hn)] at e; exact e
 refine⟨⟨by simp[h.len],fun n a u h1 h2=>?_,fun n m a u w h1 h2 h3 h4 o1 o2=>?_⟩,x⟩
 ·rcases zei h1 with ⟨hn,e⟩ | ⟨rfl,rfl⟩
  ·exact(h.ob n a u e (sS hn h2)).keep x (keep a)
  ·rw[h.len,List.getElem?_append_right (Nat.le_refl _)] at h2
   simp at h2
   subst h2
   exact q x
 ·rcases zei h1 with ⟨hn,e⟩ | ⟨rfl,rfl⟩
  ·rcases zei h2 with ⟨hm,e'⟩ | ⟨rfl,rfl⟩
   ·exact h.nd n m a u w e e' (sS hn h3) (sS hm h4) o1 o2
   ·obtain⟨zs,h5,_⟩:=(h.ob n _ _ e (sS hn h3)).own o1
    rw[hp] at h5; cases h5
  ·rcases zei h2 with ⟨hm,e'⟩ | ⟨rfl,_⟩
   ·obtain⟨zs,h5,_⟩:=(h.ob m _ _ e' (sS hm h4)).own o2
    rw[hp] at h5; cases h5
   ·rfl
theorem zav.push {ds:List D}{xs:List V}(h:zav K r S H)(hp:H p=none)(q:Rps r H ds xs):zav K (r++[p]) (S++[.lst ds]) (upd H p (.lst xs))∧Ext r (r++[p]) H (upd H p (.lst xs)):=
 h.pushO hp (zbG hp) fun x=>⟨xs,zb0,q.ext x⟩
theorem zav.setO {o o':Ob}{u:HO}(h:zav K r S H)(hn:r[n]?=some a)(hS:S[n]?=some o)(ho:zct o=true)(ho':zct o'=true)(q:Ext r r H (upd H a u)→ObR K r (upd H a u) a o'):zav K r (S.set n o') (upd H a u)∧Ext r r H (upd H a u):=by
 obtain⟨u0,h0,t1,t2,t3⟩:=(h.ob n a _ hn hS).own ho
 have x:Ext r r H (upd H a u):=⟨fun _ _ e=>e,fun b zs e=>by
  rw[zaH (ze0 e h0 (fun z=>t1 zs z.symm))]; exact e,fun b c e=>by
  rw[zaH (ze0 e h0 (fun z=>t2 b c z.symm))]; exact e⟩
 have hlt:n < S.length:=(List.getElem?_eq_some_iff.mp hS).1
 have off:∀ {m:Nat} {w:Ob},m≠n→(S.set n o')[m]?=some w→S[m]?=some w:=fun {m w} hm e=>by
  rw[List.getElem?_set_ne (Ne.symm hm)] at e; exact e
 refine⟨⟨by simp[h.len],fun m b w h1 h2=>?_,fun m k b w y h1 h2 h3 h4 o1 o2=>?_⟩,x⟩
 ·by_cases hm:m=n
  ·subst hm
   rw[hn] at h1; cases h1
   rw[List.getElem?_set_self hlt] at h2
   cases h2
   exact q x
  ·have h2':=off hm h2
   have q':=h.ob m b w h1 h2'
   by_cases hw:zct w=true
   ·have hb:b≠a:=fun z=>hm (by subst z; exact h.nd m n b w o h1 hn h2' hS hw ho)
    exact q'.keep x fun z e=>by rw[zaH hb]; exact e
   ·cases w with
    | frz es=>
     obtain⟨zs,h3,h4⟩:=q'
     refine⟨zs,?_,h4.ext x⟩
     rcases h3 with ⟨z,h3⟩ | h3
     ·exact .inl ⟨z,by rw[zaH (ze0 h3 h0 (fun y=>t3 _ _ y.symm))]; exact h3⟩
     ·exact .inr h3
    | _=>exact absurd rfl hw
 ·have back:∀ {j:Nat} {w:Ob},(S.set n o')[j]?=some w→zct w=true→∃y,S[j]?=some y∧zct y=true:=fun {j w} e ow=>by
   by_cases hj:j=n
   ·subst hj; exact⟨o,hS,ho⟩
   ·exact⟨w,off hj e,ow⟩
  obtain⟨us',h3',q3⟩:=back h3 o1
  obtain⟨ws',h4',q4⟩:=back h4 o2
  exact h.nd m k b us' ws' h1 h2 h3' h4' q3 q4
theorem zav.set {ds ds':List D}{xs:List V}(h:zav K r S H)(hn:r[n]?=some a)(hS:S[n]?=some (.lst ds))(q:Rps r H ds' xs):zav K r (S.set n (.lst ds')) (upd H a (.lst xs))∧Ext r r H (upd H a (.lst xs)):=
 h.setO hn hS rfl rfl fun x=>⟨xs,zb0,q.ext x⟩
end

def Rs (r:List Addr)(H:Hp)(dl:Ev)(σ:St):Prop:=dl.length=σ.length∧∀(i:Nat) (d:D),dl[i]?=some (some d)→∃v,σ[i]?=some (some v)∧Rp r H d v
theorem Rs.ext {r r':List Addr}{H H':Hp}{dl:Ev}{σ:St}(h:Rs r H dl σ)(e:Ext r r' H H'):Rs r' H' dl σ:=⟨h.1,fun i d q=>by
 obtain⟨v,h1,h2⟩:=h.2 i d q
 exact⟨v,h1,h2.ext e⟩⟩
theorem Rs.set {r:List Addr}{H:Hp}{dl:Ev}{σ:St}{d:D}{v:V}(i:Nat)(h:Rs r H dl σ)(q:Rp r H d v):Rs r H (dl.set i (some d)) (σ.set i (some v)):=by
 refine⟨by simp[h.1],fun j e hj=>?_⟩
 by_cases hij:i=j
 ·subst hij
  have hl:i < dl.length:=by
   have:=(List.getElem?_eq_some_iff.mp hj).1
   simpa using this
  rw[List.getElem?_set_self hl] at hj
  cases hj
  exact⟨v,by rw[List.getElem?_set_self (by rw[← h.1]; exact hl)],q⟩
 ·rw[List.getElem?_set_ne hij] at hj
  obtain⟨v',h1,h2⟩:=h.2 j e hj
  exact⟨v',by rw[List.getElem?_set_ne hij]; exact h1,h2⟩
structure Zx where
 ex:Ev→Addr→Sto→Prop
 w:St→XK
abbrev Zc (ex:Addr→Sto→Prop)(E:XK):Zx:=⟨fun _=>ex,fun _=>E⟩
def zeG (K:PySem.W.Frag)(Z:Zx)(r:List Addr)(H:Hp):Prop:=∀(dl:Ev) (σ:St) (c:Addr) (H':Hp) (r':List Addr) (S':Sto),Ext r r' H H'→Rs r' H' dl σ→zav K r' S' H'→Z.ex dl c S'→Z.w σ (.ref c) none H'
theorem zeG.ext {K:PySem.W.Frag}{Z:Zx}{r r':List Addr}{H H':Hp}(h:zeG K Z r H)(e:Ext r r' H H'):zeG K Z r' H':=fun dl σ c H2 r2 S2 x=>h dl σ c H2 r2 S2 (e.trans x)
structure Rel (K:PySem.W.Frag)(Z:Zx)(r:List Addr)(S:Sto)(H:Hp):Prop where
 b:zav K r S H
 xw:zeG K Z r H
section
variable {K:PySem.W.Frag}{Z:Zx}{r r':List Addr}{S:Sto}{H H':Hp}{n:Nat}{a p:Addr}
theorem Rel.len (h:Rel K Z r S H):r.length=S.length:=h.b.len
theorem Rel.at {o:Ob}(h:Rel K Z r S H)(e:S[n]?=some o):∃a,r[n]?=some a∧ObR K r H a o:=h.b.at e
theorem Rel.same (h:Rel K Z r S H)(e:∀b o,H b=some o→H' b=some o):Rel K Z r S H':=⟨h.b.same e,h.xw.ext ⟨fun _ _ q=>q,fun a xs q=>e _ _ q,fun a c q=>e _ _ q⟩⟩
theorem Rel.push {ds:List D}{xs:List V}(h:Rel K Z r S H)(hp:H p=none)(q:Rps r H ds xs):Rel K Z (r++[p]) (S++[.lst ds]) (upd H p (.lst xs))∧Ext r (r++[p]) H (upd H p (.lst xs)):=by
 obtain⟨h1,h2⟩:=h.b.push hp q
 exact⟨⟨h1,h.xw.ext h2⟩,h2⟩
theorem Rel.set {ds ds':List D}{xs:List V}(h:Rel K Z r S H)(hn:r[n]?=some a)(hS:S[n]?=some (.lst ds))(q:Rps r H ds' xs):Rel K Z r (S.set n (.lst ds')) (upd H a (.lst xs))∧Ext r r H (upd H a (.lst xs)):=by
 obtain⟨h1,h2⟩:=h.b.set hn hS q
 exact⟨⟨h1,h.xw.ext h2⟩,h2⟩
end

def Ret (K:PySem.W.Frag)(Z:Zx)(r:List Addr)(H:Hp)(Q:DK)(Qv:VK):Prop:=∀v H' r' d S',Ext r r' H H'→Rel K Z r' S' H'→Rp r' H' d v→Q d S'→Qv v H'
theorem Ret.ext {K:PySem.W.Frag}{Z:Zx}{r r':List Addr}{H H':Hp}{Q:DK}{Qv:VK}(h:Ret K Z r H Q Qv)(e:Ext r r' H H'):Ret K Z r' H' Q Qv:=fun v H2 r2 d S2 x=>h v H2 r2 d S2 (e.trans x)
def up (K:PySem.W.Frag)(Z:Zx)(t:TDE):TE:=fun σ H Qv=>∃r dl S Q,Rs r H dl σ∧Rel K Z r S H∧t dl S Q∧Ret K Z r H Q Qv
def upT (K:PySem.W.Frag)(Z:Zx)(t:TDT):TT:=fun σ H Qb=>∃r dl S Q,Rs r H dl σ∧Rel K Z r S H∧t dl S Q∧∀b H' r' S',Ext r r' H H'→Rel K Z r' S' H'→Q b S'→Qb b H'
def upA (K:PySem.W.Frag)(Z:Zx)(t:TDA):TA:=fun σ H Qv=>∃r dl S Q,Rs r H dl σ∧Rel K Z r S H∧t dl S Q∧∀vs H' r' ds S',Ext r r' H H'→Rel K Z r' S' H'→Rps r' H' ds vs→Q ds S'→Qv vs H'
structure zeu (K:PySem.W.Frag)(Z:Zx)(r:List Addr)(H:Hp)(E:zcH)(F:zcD):Prop where
 nx:∀σ' H' r' dl' S',Ext r r' H H'→Rs r' H' dl' σ'→Rel K Z r' S' H'→E.nx dl' S'→F.nx σ' H'
 bk:∀σ' H' r' dl' S',Ext r r' H H'→Rs r' H' dl' σ'→Rel K Z r' S' H'→E.bk dl' S'→F.bk σ' H'
 ct:∀σ' H' r' dl' S',Ext r r' H H'→Rs r' H' dl' σ'→Rel K Z r' S' H'→E.ct dl' S'→F.ct σ' H'
 rt:Ret K Z r H E.rt F.rt
theorem zeu.ext {K:PySem.W.Frag}{Z:Zx}{r r':List Addr}{H H':Hp}{E:zcH}{F:zcD}(h:zeu K Z r H E F)(e:Ext r r' H H'):zeu K Z r' H' E F:=
 ⟨fun a b c d f x=>h.nx a b c d f (e.trans x),fun a b c d f x=>h.bk a b c d f (e.trans x),fun a b c d f x=>h.ct a b c d f (e.trans x),h.rt.ext e⟩
def upS (K:PySem.W.Frag)(Z:Zx)(t:TDS):TS:=fun F σ H=>∃r dl S E,Rs r H dl σ∧Rel K Z r S H∧t E dl S∧zeu K Z r H E F

def PD (X:Cx)(Z:Zx)(e:Expr)(t:TDE):Prop:=PE X e (up X.K Z t)
def PDT (X:Cx)(Z:Zx)(e:Expr)(t:TDT):Prop:=PT X e (upT X.K Z t)
def PDW (X:Cx)(Z:Zx)(e:Expr)(t:TDT):Prop:=PW X e (upT X.K Z t)
def PDA (X:Cx)(Z:Zx)(es:List Expr)(t:TDA):Prop:=PA X es (upA X.K Z t)
def PDS (X:Cx)(Z:Zx)(st:Stmt)(t:TDS):Prop:=PS X st (upS X.K Z t)
def zbX (X:Cx)(Z:Zx)(st:List Stmt)(t:TDS):Prop:=PSs X st (upS X.K Z t)

section
variable {X:Cx}{Z:Zx}
theorem za5 {e:Expr}{t t':TE}(h:PE X e t)(f:∀σ H Q,t' σ H Q→t σ H Q):PE X e t':=fun pins s σ H Q I q=>h pins s σ H Q I (f σ H Q q)
theorem zeh {e:Expr}{t t':TT}(h:PT X e t)(f:∀σ H Q,t' σ H Q→t σ H Q):PT X e t':=fun pins s σ H Q I q=>h pins s σ H Q I (f σ H Q q)
theorem PWimp {e:Expr}{t t':TT}(h:PW X e t)(f:∀σ H Q,t' σ H Q→t σ H Q):PW X e t':=fun wh pins s σ H Q I q=>h wh pins s σ H Q I (f σ H Q q)
theorem zgg {e:List Expr}{t t':TA}(h:PA X e t)(f:∀σ H Q,t' σ H Q→t σ H Q):PA X e t':=fun pos pins s σ H Q I q=>h pos pins s σ H Q I (f σ H Q q)
theorem zb1 {e:Stmt}{t t':TS}(h:PS X e t)(f:∀F σ H,t' F σ H→t F σ H):PS X e t':=fun pins s σ H F I q=>h pins s σ H F I (f F σ H q)
theorem zfw {e:List Stmt}{t t':TS}(h:PSs X e t)(f:∀F σ H,t' F σ H→t F σ H):PSs X e t':=fun pins s σ H F I q=>h pins s σ H F I (f F σ H q)
theorem PDW.pt {e:Expr}{t:TDT}(h:PDW X Z e t):PDT X Z e t:=PW.pt h

def zer (i:Nat):TDE:=fun dl S Q=>match dl[i]? with
 | some (some d)=>Q d S
 | _=>False
def dC (d:D):TDE:=fun _ S Q=>Q d S
theorem zjd {e:Expr}{i:Nat}(h:PE X e (tVar i)):PD X Z e (zer i):=za5 h fun σ H Qv ⟨r,dl,S,Q,rs,rel,q,ret⟩=>by
 unfold zer at q
 split at q
 ·rename_i d e
  obtain⟨v,h1,h2⟩:=rs.2 i d e
  exact⟨v,h1,ret v H r d S Ext.refl rel h2 q⟩
 ·exact q.elim
theorem dv (i:Nat){x:Str}{pos:Pos}(hN:X.N[i]?=some x:=by rfl)(hv:Vis X.env.scope x:=by first | exact Or.inl rfl | exact Or.inr (Or.inl rfl) | exact Or.inr (Or.inr rfl))(hd:(x == ("__debug__":Str))=false:=by decide)
  (hcd:(x == ("__classdict__":Str))=false:=by decide):PD X Z (.Name x pos) (zer i):=zjd (zgD hN hv hd hcd)
theorem zeP {e:Expr}{d:D}{v:V}(h:PE X e (tC v))(q:∀r H,Rp r H d v):PD X Z e (dC d):=za5 h fun σ H Qv ⟨r,dl,S,Q,rs,rel,h,ret⟩=>ret v H r d S Ext.refl rel (q r H) h
theorem zaf {i j pos}:PD X Z (.Constant (.int i) j pos) (dC (.int i)):=zeP zjg fun _ _=>.int i
theorem zbP {b j pos}:PD X Z (.Constant (.bool b) j pos) (dC (.bl b)):=zeP pe_bl fun _ _=>.bl b
theorem zbb {x j pos}:PD X Z (.Constant (.str x) j pos) (dC (.str x)):=zeP zh3 fun _ _=>.str x

abbrev W2:=D→D→Sto→DK→Prop
abbrev W1:=D→Sto→DK→Prop
def upO (K:PySem.W.Frag)(Z:Zx)(w:W2):R2:=fun x y H Qv=>∃r S dx dy Q,Rel K Z r S H∧Rp r H dx x∧Rp r H dy y∧w dx dy S Q∧Ret K Z r H Q Qv
def dOp (w:W2)(ta tb:TDE):TDE:=fun dl S Q=>ta dl S fun x S1=>tb dl S1 fun y S2=>w x y S2 Q
def dUn (w:W1)(ta:TDE):TDE:=fun dl S Q=>ta dl S fun x S1=>w x S1 Q
variable {a b c:Expr}{ta tb tc:TDE}{pos:Pos}
theorem zd3 {w:W2}{σ:St}{H:Hp}{Qv:VK}(h:up X.K Z (dOp w ta tb) σ H Qv):tOp (upO X.K Z w) (up X.K Z ta) (up X.K Z tb) σ H Qv:=by
 obtain⟨r,dl,S,Q,rs,rel,h,ret⟩:=h
 exact⟨r,dl,S,_,rs,rel,h,fun v H1 r1 dx S1 e1 rel1 p1 h1=>⟨r1,dl,S1,_,rs.ext e1,rel1,h1,fun v2 H2 r2 dy S2 e2 rel2 p2 h2=>⟨r2,S2,dx,dy,Q,rel2,p1.ext e2,p2,h2,ret.ext (e1.trans e2)⟩⟩⟩
theorem zaD {op:Operator}{w:W2}(ho:OpR X (binaryOp op) (upO X.K Z w))(ha:PD X Z a ta)(hb:PD X Z b tb):PD X Z (.BinOp a op b pos) (dOp w ta tb):=za5 (pe_op ho ha hb) fun _ _ _ h=>zd3 h
theorem zbR {op:CmpOp}{w:W2}(ho:OpR X (compareOp op) (upO X.K Z w))(ha:PD X Z a ta)(hb:PD X Z b tb)(hm:behindInMarks op b=false):PD X Z (.Compare a [op] [b] pos) (dOp w ta tb):=za5 (ziF ho ha hb hm) fun _ _ _ h=>zd3 h
theorem zeA {f:Value→Value→Sem Value}{r r':R2}(h:OpR X f r)(g:∀x y H Q,r' x y H Q→r x y H Q):OpR X f r':=fun pins s σ H x y v u Q I rx ry q=>h pins s σ H x y v u Q I rx ry (g x y H Q q)
theorem ze6 {f:Value}{r r':List V→Hp→VK→Prop}(h:zaU X f r)(g:∀x H Q,r' x H Q→r x H Q):zaU X f r':=fun pins s σ H xs us Q I rx q=>h pins s σ H xs us Q I rx (g xs H Q q)
def wI (C:Int→Int→Prop)(g:Int→Int→D):W2:=fun x y S Q=>match x,y with
 | .int i,.int j=>C i j∧Q (g i j) S
 | _,_=>False
def wI0 (g:Int→Int→D):W2:=fun x y S Q=>match x,y with
 | .int i,.int j=>Q (g i j) S
 | _,_=>False
theorem opD {f:Value→Value→Sem Value}{C:Int→Int→Prop}{g:Int→Int→V}{g':Int→Int→D}(h:OpR X f (rI C g))(hg:∀r H i j,Rp r H (g' i j) (g i j)):OpR X f (upO X.K Z (wI C g')):=
 zeA h fun x y H Qv ⟨r,S,dx,dy,Q,rel,px,py,q,ret⟩=>by
  cases px <;> cases py <;> first
   | exact⟨_,_,rfl,rfl,q.1,ret _ _ _ _ _ Ext.refl rel (hg _ _ _ _) q.2⟩
   | exact(show False from q).elim
theorem opD0 {f:Value→Value→Sem Value}{g:Int→Int→V}{g':Int→Int→D}(h:OpR X f (rI0 g))(hg:∀r H i j,Rp r H (g' i j) (g i j)):OpR X f (upO X.K Z (wI0 g')):=
 zeA h fun x y H Qv ⟨r,S,dx,dy,Q,rel,px,py,q,ret⟩=>by
  cases px <;> cases py <;> first
   | exact⟨_,_,rfl,rfl,ret _ _ _ _ _ Ext.refl rel (hg _ _ _ _) q⟩
   | exact(show False from q).elim
abbrev wAdd:W2:=wI0 fun i j=>.int (i + j)
abbrev wSub:W2:=wI0 fun i j=>.int (i - j)
abbrev wMul:W2:=wI IntMulOk fun i j=>.int (i * j)
abbrev wMod:W2:=wI (fun _ j=>0 < j) fun i j=>.int (i % j)
abbrev wPow:W2:=wI CPow fun i j=>.int (i ^ j.toNat)
theorem zb7:OpR X (binaryOp .Add) (upO X.K Z wAdd):=opD0 zhe fun _ _ _ _=>.int _
theorem zgc:OpR X (binaryOp .Sub) (upO X.K Z wSub):=opD0 ziT fun _ _ _ _=>.int _
theorem zcW:OpR X (binaryOp .Mult) (upO X.K Z wMul):=opD (opI fun _ _ _ _ _ _ _ hc q=>mul_int q hc) fun _ _ _ _=>.int _
theorem zgU:OpR X (binaryOp .Mod) (upO X.K Z wMod):=opD zhl fun _ _ _ _=>.int _
theorem zjy:OpR X (binaryOp .Pow) (upO X.K Z wPow):=opD zj7 fun _ _ _ _=>.int _
abbrev wLt:W2:=wI0 fun i j=>.bl (decide (i < j))
theorem do_lt:OpR X (compareOp .Lt) (upO X.K Z wLt):=opD0 op_lt fun _ _ _ _=>.bl _
def wNeg:W1:=fun x S Q=>match x with
 | .int i=>Q (.int (-i)) S
 | _=>False
end
end L3

namespace L3
open PySem PySem.Spec PyProof.Rows L2
def eqF:D→D→Option Bool
 | .non,.non=>some true
 | .bl i,.bl j=>some (i == j)
 | .int i,.int j=>some (decide (i=j))
 | .str i,.str j=>some (decide (i=j))
 | .non,.int _=>some false | .int _,.non=>some false | .non,.bl _=>some false | .bl _,.non=>some false | .non,.str _=>some false | .str _,.non=>some false
 | .int _,.str _=>some false | .str _,.int _=>some false | .bl _,.str _=>some false | .str _,.bl _=>some false
 | _,_=>none
def eqL (f:D→D→Option Bool):List D→List D→Option Bool
 | [],[]=>some true
 | x::xs,y::ys=>match f x y,eqL f xs ys with
  | some b,some c=>some (b && c)
  | _,_=>none
 | _,_=>some false
def eqT (f:D→D→Option Bool):D→D→Option Bool
 | .tup xs,.tup ys=>eqL f xs ys
 | x,y=>eqF x y
abbrev eq1:D→D→Option Bool:=eqT eqF
abbrev eq2:D→D→Option Bool:=eqT eq1
def zcu (n:Nat)(f:D→D→Option Bool):Prop:=∀(X:Cx) (pins:List (Addr×Obj)) (σ:St) (H:Hp) (s:Shared) (r:List Addr) (A:Around) (dx dy:D) (x y:V) (u v:Value) (b:Bool),
 Inv X pins σ H s→A.units + n < cLine→Rp r H dx x→Rp r H dy y→zac x u→zac y v→f dx dy=some b→SeqAt.EqAt A s u v b
def zde (f:D→D→Option Bool):Prop:=∀(r:List Addr) (H:Hp) (dx dy:D) (x:V) (b:Bool),Rp r H dx x→Rp r H dy x→f dx dy=some b→b=true
theorem zc6:zde eqF:=by
 intro r H dx dy x b px py e
 cases px <;> cases py <;> simp[eqF] at e <;> first | exact e.symm | exact e
theorem zgm {f:D→D→Option Bool}(hf:zde f){r:List Addr}{H:Hp}:∀ {xs ys:List D} {vs:List V} {b:Bool},Rps r H xs vs→Rps r H ys vs→eqL f xs ys=some b→b=true
 | [],[],_,b,_,_,e=>by simp[eqL] at e; exact e
 | [],y::ys,vs,b,p,q,e=>by
  have h1:=p.unnil
  subst h1
  exact absurd q.1 (by simp)
 | x::xs,[],vs,b,p,q,e=>by
  have h1:=q.unnil
  subst h1
  exact absurd p.1 (by simp)
 | x::xs,y::ys,vs,b,p,q,e=>by
  obtain⟨v,vs',rfl,p1,p2⟩:=p.uncons
  obtain⟨q1,q2⟩:=q.tail
  unfold eqL at e
  split at e
  ·rename_i b1 c1 e1 e2
   have h1:=hf r H x y v b1 p1 q1 e1
   have h2:=zgm hf p2 q2 e2
   subst h1; subst h2
   simp at e
   exact e
  ·cases e
theorem zgk {f:D→D→Option Bool}(hf:zde f):zde (eqT f):=by
 intro r H dx dy x b px py e
 cases px with
 | tup e1 l1 f1=>
  cases py with
  | tup e2 l2 f2=>
   rw[e1] at e2; cases e2
   exact zgm hf ⟨l1,f1⟩ ⟨l2,f2⟩ e
  | ref h=>simp[eqT,eqF] at e
  | exc h=>simp[eqT,eqF] at e
 | non=>exact zc6 r H _ _ _ b .non py (by cases py <;> exact e)
 | bl i=>exact zc6 r H _ _ _ b (.bl i) py (by cases py <;> exact e)
 | int i=>exact zc6 r H _ _ _ b (.int i) py (by cases py <;> exact e)
 | str i=>exact zc6 r H _ _ _ b (.str i) py (by cases py <;> exact e)
 | ref h=>cases py <;> simp[eqT,eqF] at e
 | exc h=>cases py <;> simp[eqT,eqF] at e
theorem zeK (n:Nat):zcu n eqF:=by
 intro X pins σ H s r A dx dy x y u v b I hu px py rx ry e
 have fin:∀ {x y:V},zac x u→zac y v→zbO x=true→zbO y=true→eqV x y=b→SeqAt.EqAt A s u v b:=fun rx ry fx fy e'=>by
  subst e'; exact zgu rx ry fx fy
 cases px <;> cases py <;> simp[eqF] at e <;> refine fin rx ry rfl rfl ?_ <;> simp[eqV,e] <;> first | exact e | (subst e; simp) | skip
theorem zc1 {X:Cx}{pins:List (Addr×Obj)}{σ:St}{H:Hp}{s:Shared}{a:Addr}{xs:List V}(I:Inv X pins σ H s)(h:H a=some (.tup xs)):∃its:List Value,zad xs its∧IsTup s.heap a its.toArray∧xs.length≤sizeLine:=I.tuple (SqT.of h)
def zbW (f:D→D→Option Bool)(xs ys:List D)(j:Nat):Bool:=match xs[j]?,ys[j]? with
 | some x,some y=>(f x y).getD false
 | _,_=>false
theorem zfp {f:D→D→Option Bool}:∀ {xs ys:List D} {b:Bool},eqL f xs ys=some b→(∀(j:Nat) (x y:D),xs[j]?=some x→ys[j]?=some y→∃c,f x y=some c)∧((List.range (min xs.length ys.length)).all (zbW f xs ys) && xs.length == ys.length)=b
 | [],[],b,e=>by simp[eqL] at e; subst e; simp
 | [],y::ys,b,e=>by simp[eqL] at e; subst e; simp
 | x::xs,[],b,e=>by simp[eqL] at e; subst e; simp
 | x::xs,y::ys,b,e=>by
  unfold eqL at e
  split at e
  ·rename_i b1 c1 e1 e2
   obtain⟨h1,h2⟩:=zfp e2
   refine⟨fun j p q hp hq=>?_,?_⟩
   ·cases j with
    | zero=>simp at hp hq; subst hp; subst hq; exact⟨b1,e1⟩
    | succ j=>exact h1 j p q (by simpa using hp) (by simpa using hq)
   ·have z:min (x::xs).length (y::ys).length=min xs.length ys.length + 1:=by simp[Nat.succ_min_succ]
    rw[z,List.range_succ_eq_map,List.all_cons,List.all_map]
    have e0:zbW f (x::xs) (y::ys) 0=b1:=by simp[zbW,e1]
    have es:(zbW f (x::xs) (y::ys) ∘ Nat.succ)=zbW f xs ys:=by funext j; simp[zbW]
    rw[e0,es]
    have e3:((x::xs).length == (y::ys).length)=(xs.length == ys.length):=by simp
    rw[e3,Bool.and_assoc,h2]
    simp at e
    exact e
  ·cases e
theorem zeY {n:Nat}{f:D→D→Option Bool}(hf:zcu n f){X:Cx}{pins:List (Addr×Obj)}{σ:St}{H:Hp}{s:Shared}{r:List Addr}{A:Around}{xs ys:List D}{us vs:List V}{is js:List Value}{b:Bool}
  (I:Inv X pins σ H s)(hu:A.units + n < cLine)(p:Rps r H xs us)(q:Rps r H ys vs)(ri:zad us is)(rj:zad vs js)(e:eqL f xs ys=some b):
  (∀j (h1:j < is.toArray.size) (h2:j < js.toArray.size),SeqAt.EqAt A s is.toArray[j] js.toArray[j] (zbW f xs ys j))∧((List.range (min is.toArray.size js.toArray.size)).all (zbW f xs ys) && is.toArray.size == js.toArray.size)=b:=by
 obtain⟨h1,h2⟩:=zfp e
 have l1:is.toArray.size=xs.length:=by rw[List.size_toArray,← ri.length,p.1]
 have l2:js.toArray.size=ys.length:=by rw[List.size_toArray,← rj.length,q.1]
 refine⟨fun j hj1 hj2=>?_,by rw[l1,l2]; exact h2⟩
 have k1:j < xs.length:=by omega
 have k2:j < ys.length:=by omega
 have g1:xs[j]?=some xs[j]:=by simp[k1]
 have g2:ys[j]?=some ys[j]:=by simp[k2]
 obtain⟨x,gx,px⟩:=p.get g1
 obtain⟨y,gy,py⟩:=q.get g2
 obtain⟨u,gu,ru⟩:=ri.get gx
 obtain⟨v,gv,rv⟩:=rj.get gy
 obtain⟨c,hc⟩:=h1 j _ _ g1 g2
 have eu:is.toArray[j]=u:=by
  have z:=List.getElem?_eq_some_iff.mp gu
  simpa using z.2
 have ev:js.toArray[j]=v:=by
  have z:=List.getElem?_eq_some_iff.mp gv
  simpa using z.2
 have ec:zbW f xs ys j=c:=by simp[zbW,g1,g2,hc]
 rw[eu,ev,ec]
 exact hf X pins σ H s r A _ _ x y u v c I hu px py ru rv hc
theorem zgv {n:Nat}{f:D→D→Option Bool}(hf:zcu n f)(hs:zde f):zcu (n + 1) (eqT f):=by
 intro X pins σ H s r A dx dy x y u v b I hu px py rx ry e
 have flat:∀ {dx dy:D} {x y:V},Rp r H dx x→Rp r H dy y→zac x u→zac y v→eqF dx dy=some b→SeqAt.EqAt A s u v b:=fun px py rx ry e=>zeK (n + 1) X pins σ H s r A _ _ _ _ u v b I hu px py rx ry e
 cases px with
 | @tup ds xs a e1 l1 f1=>
  cases py with
  | @tup es ys a' e2 l2 f2=>
   cases rx
   cases ry
   by_cases z:a=a'
   ·subst z
    have hb:=zgk hs r H _ _ _ b (.tup e1 l1 f1) (.tup e2 l2 f2) e
    subst hb
    exact SeqAt.EqAt.same _
   ·obtain⟨is,ri,ti,_⟩:=zc1 I e1
    obtain⟨js,rj,tj,_⟩:=zc1 I e2
    obtain⟨g1,g2⟩:=zeY (A:=A.in1) hf I (by show A.units + 1 + n < _; omega) ⟨l1,f1⟩ ⟨l2,f2⟩ ri rj e
    have q:=SeqAt.RcAt.tuples (A:=A) ti tj (by omega) g1
    rw[g2] at q
    exact SeqAt.EqAt.of_refs z q
  | ref h=>simp[eqT,eqF] at e
  | _=>simp[eqT,eqF] at e
 | non=>exact flat .non py rx ry (by cases py <;> exact e)
 | bl i=>exact flat (.bl i) py rx ry (by cases py <;> exact e)
 | int i=>exact flat (.int i) py rx ry (by cases py <;> exact e)
 | str i=>exact flat (.str i) py rx ry (by cases py <;> exact e)
 | ref h=>cases py <;> simp[eqT,eqF] at e
 | exc h=>cases py <;> simp[eqT,eqF] at e
theorem zgH (n:Nat):zcu (n + 1) eq1:=zgv (zeK n) zc6
def wEq (f:D→D→Option Bool):W2:=fun x y S Q=>match f x y with
 | some b=>Q (.bl b) S
 | none=>False
def wNe (f:D→D→Option Bool):W2:=fun x y S Q=>match f x y with
 | some b=>Q (.bl (!b)) S
 | none=>False
section
variable {X:Cx}{Z:Zx}
theorem zgn {r:List Addr}{H:Hp}{dx dy:D}{x y:V}{b:Bool}(px:Rp r H dx x)(py:Rp r H dy y)(e:eqF dx dy=some b):zee x y=true∧decide (x=y)=b:=by
 cases px <;> cases py <;> simp[eqF] at e <;> simp[zee] <;> first | exact e | (subst e; simp) | skip
theorem zi5 {n:Nat}{f:D→D→Option Bool}(hf:zcu n f)(hu:X.A.units + 1 + n < cLine):OpR X (compareOp .Eq) (upO X.K Z (wEq (eqT f))):=by
 intro pins s σ H x y v u Qv I rx ry h
 obtain⟨r,S,dx,dy,Q,rel,px,py,q,ret⟩:=h
 unfold wEq at q
 split at q
 ·rename_i b e
  have flat:∀ {dx dy:D} {x y:V},Rp r H dx x→Rp r H dy y→zac x v→zac y u→eqF dx dy=some b→wpAny (model X.prog X.w) X.A (compareOp .Eq v u) (EP X pins σ Qv) X.xe s:=fun px py rx ry e=>by
   obtain⟨h1,h2⟩:=zgn px py e
   refine zfa pins s σ H _ _ v u Qv I rx ry ⟨h1,?_⟩
   rw[h2]
   exact ret _ _ _ _ _ Ext.refl rel (.bl b) q
  cases px with
  | @tup ds xs a e1 l1 f1=>
   cases py with
   | @tup es ys a' e2 l2 f2=>
    cases rx
    cases ry
    obtain⟨is,ri,ti,_⟩:=zc1 I e1
    obtain⟨js,rj,tj,_⟩:=zc1 I e2
    obtain⟨g1,g2⟩:=zeY (A:=X.A.in1) hf I (by show X.A.units + 1 + n < _; omega) ⟨l1,f1⟩ ⟨l2,f2⟩ ri rj e
    refine SeqAt.eq_tupleAt (A:=X.A) ti tj (by omega) g1 ?_
    rw[g2]
    exact⟨.bl b,H,I,rfl,ret _ _ _ _ _ Ext.refl rel (.bl b) q⟩
   | _=>simp[eqT,eqF] at e
  | non=>exact flat .non py rx ry (by cases py <;> exact e)
  | bl i=>exact flat (.bl i) py rx ry (by cases py <;> exact e)
  | int i=>exact flat (.int i) py rx ry (by cases py <;> exact e)
  | str i=>exact flat (.str i) py rx ry (by cases py <;> exact e)
  | ref h=>cases py <;> simp[eqT,eqF] at e
  | exc h=>cases py <;> simp[eqT,eqF] at e
 ·exact q.elim
theorem zjn {n:Nat}{f:D→D→Option Bool}(hf:zcu n f)(hu:X.A.units + 1 + n < cLine):OpR X (compareOp .NotEq) (upO X.K Z (wNe (eqT f))):=by
 intro pins s σ H x y v u Qv I rx ry h
 obtain⟨r,S,dx,dy,Q,rel,px,py,q,ret⟩:=h
 unfold wNe at q
 split at q
 ·rename_i b e
  have flat:∀ {dx dy:D} {x y:V},Rp r H dx x→Rp r H dy y→zac x v→zac y u→eqF dx dy=some b→wpAny (model X.prog X.w) X.A (compareOp .NotEq v u) (EP X pins σ Qv) X.xe s:=fun px py rx ry e=>by
   obtain⟨h1,h2⟩:=zgn px py e
   refine op_ne pins s σ H _ _ v u Qv I rx ry ⟨h1,?_⟩
   rw[h2]
   exact ret _ _ _ _ _ Ext.refl rel (.bl (!b)) q
  cases px with
  | @tup ds xs a e1 l1 f1=>
   cases py with
   | @tup es ys a' e2 l2 f2=>
    cases rx
    cases ry
    obtain⟨is,ri,ti,_⟩:=zc1 I e1
    obtain⟨js,rj,tj,_⟩:=zc1 I e2
    obtain⟨g1,g2⟩:=zeY (A:=X.A.in1) hf I (by show X.A.units + 1 + n < _; omega) ⟨l1,f1⟩ ⟨l2,f2⟩ ri rj e
    refine SeqAt.RcNeAt.tuples (A:=X.A) ti tj (by omega) g1 X.prog X.w _ _ ?_
    rw[g2]
    exact⟨.bl (!b),H,I,rfl,ret _ _ _ _ _ Ext.refl rel (.bl (!b)) q⟩
   | _=>simp[eqT,eqF] at e
  | non=>exact flat .non py rx ry (by cases py <;> exact e)
  | bl i=>exact flat (.bl i) py rx ry (by cases py <;> exact e)
  | int i=>exact flat (.int i) py rx ry (by cases py <;> exact e)
  | str i=>exact flat (.str i) py rx ry (by cases py <;> exact e)
  | ref h=>cases py <;> simp[eqT,eqF] at e
  | exc h=>cases py <;> simp[eqT,eqF] at e
 ·exact q.elim
theorem zbD {k:Nat}(hr:zaw k X.A):OpR X (compareOp .Eq) (upO X.K Z (wEq eq2)):=zi5 (zgH 0) (by have:=hr.un; omega)
theorem zbq {k:Nat}(hr:zaw k X.A):OpR X (compareOp .NotEq) (upO X.K Z (wNe eq2)):=zjn (zgH 0) (by have:=hr.un; omega)
end
end L3

namespace L3
open PySem PySem.Spec PyProof.Rows L2
section
variable {X:Cx}{Z:Zx}{a b c:Expr}{ta tb tc:TDE}{pos:Pos}{zaz:List Expr}
def ze3 (t:TDE):TDT:=fun dl S Q=>t dl S fun d S'=>match d with
 | .bl k=>Q k S'
 | _=>False
theorem zgr {K:PySem.W.Frag}{Z:Zx}{r:List Addr}{H:Hp}{Q:Bool→Sto→Prop}{Qb:Bool→Hp→Prop}(h:∀b H' r' S',Ext r r' H H'→Rel K Z r' S' H'→Q b S'→Qb b H'):
  Ret K Z r H (fun d S'=>match d with | .bl k=>Q k S' | _=>False) (fun x H'=>∃k,x=.bl k∧Qb k H'):=fun v H' r' d S' e rel p q=>by
 cases p with
 | bl k=>exact⟨k,rfl,h k H' r' S' e rel q⟩
 | _=>exact(show False from q).elim
theorem za2 {op:CmpOp}{w:W2}(ho:OpR X (compareOp op) (upO X.K Z w))(ha:PD X Z a ta)(hb:PD X Z b tb)(hm:behindInMarks op b=false):PDT X Z (.Compare a [op] [b] pos) (ze3 (dOp w ta tb)):=
 zeh (zgC ho ha hb hm) fun σ H Qb ⟨r,dl,S,Q,rs,rel,h,ret⟩=>zd3 ⟨r,dl,S,_,rs,rel,h,zgr ret⟩
theorem zbc {e:Expr}{t:TDE}(h:PD X Z e t)(he:∀whole,isTrue e X.env whole=(do let v ← whole; standAt e.pos; holding [v] (truthy v)):=by intro _; rfl):PDT X Z e (ze3 t):=
 zeh (zir h he) fun σ H Qb ⟨r,dl,S,Q,rs,rel,h,ret⟩=>⟨r,dl,S,_,rs,rel,h,zgr ret⟩
def dNot (t:TDT):TDT:=fun dl S Q=>t dl S fun k S'=>Q (!k) S'
theorem zfv {t:TDT}(ha:PDT X Z a t):PDT X Z (.UnaryOp .Not a pos) (dNot t):=
 zeh (ziS ha) fun σ H Qb ⟨r,dl,S,Q,rs,rel,h,ret⟩=>⟨r,dl,S,_,rs,rel,h,fun k H' r' S' e rel' q=>ret (!k) H' r' S' e rel' q⟩
def dAnd (t u:TDT):TDT:=fun dl S Q=>t dl S fun k S1=>if k=true then u dl S1 Q else Q false S1
def dOr (t u:TDT):TDT:=fun dl S Q=>t dl S fun k S1=>if k=true then Q true S1 else u dl S1 Q
theorem zbT {t:TDT}(ha:PDT X Z a t):PDW X Z (.BoolOp .Or [a] pos) t:=zij ha
theorem zbN {t u:TDT}(ha:PDT X Z a t)(hb:PDW X Z (.BoolOp .Or (b::zaz) pos) u):PDW X Z (.BoolOp .Or (a::b::zaz) pos) (dOr t u):=
 PWimp (pw_or ha hb) fun σ H Qb ⟨r,dl,S,Q,rs,rel,h,ret⟩=>⟨r,dl,S,_,rs,rel,h,fun k H1 r1 S1 e1 rel1 q1=>by
  cases k with
  | true=>exact za4 (ret true H1 r1 S1 e1 rel1 (by simpa using q1))
  | false=>exact zai ⟨r1,dl,S1,Q,rs.ext e1,rel1,(by simpa using q1),fun k' H2 r2 S2 e2=>ret k' H2 r2 S2 (e1.trans e2)⟩⟩
def zfR (ta tb:TDE):TDE:=fun dl S Q=>ta dl S fun x S1=>match x with
 | .bl k=>if k=true then tb dl S1 Q else Q (.bl false) S1
 | _=>False
def dOrV (ta tb:TDE):TDE:=fun dl S Q=>ta dl S fun x S1=>match x with
 | .bl k=>if k=true then Q (.bl true) S1 else tb dl S1 Q
 | _=>False
def zgq (ta:TDE):TDE:=fun dl S Q=>ta dl S fun x S1=>match x with
 | .bl k=>Q (.bl (!k)) S1
 | _=>False
theorem zbI {op}{t:TDE}(h:PD X Z a t):PD X Z (.BoolOp op [a] pos) t:=zhT h
theorem zbx (ha:PD X Z a ta)(hb:PD X Z (.BoolOp .And (b::zaz) pos) tb):PD X Z (.BoolOp .And (a::b::zaz) pos) (zfR ta tb):=
 za5 (zjV ha hb) fun σ H Qv ⟨r,dl,S,Q,rs,rel,h,ret⟩=>⟨r,dl,S,_,rs,rel,h,fun v H1 r1 d S1 e1 rel1 p q1=>by
  cases p with
  | bl k=>
   refine⟨k,rfl,?_⟩
   cases k with
   | true=>exact za4 ⟨r1,dl,S1,Q,rs.ext e1,rel1,(by simpa using q1),ret.ext e1⟩
   | false=>exact zai (ret _ H1 r1 (.bl false) S1 e1 rel1 (.bl false) (by simpa using q1))
  | _=>exact(show False from q1).elim⟩
theorem zhO (ha:PD X Z a ta):PD X Z (.UnaryOp .Not a pos) (zgq ta):=
 za5 (zjv ha) fun σ H Qv ⟨r,dl,S,Q,rs,rel,h,ret⟩=>⟨r,dl,S,_,rs,rel,h,fun v H1 r1 d S1 e1 rel1 p q1=>by
  cases p with
  | bl k=>exact⟨k,rfl,ret _ H1 r1 (.bl (!k)) S1 e1 rel1 (.bl (!k)) q1⟩
  | _=>exact(show False from q1).elim⟩
def dIfE (t:TDT)(ta tb:TDE):TDE:=fun dl S Q=>t dl S fun k S1=>if k=true then ta dl S1 Q else tb dl S1 Q
def zhi (w w':W2)(ta tb tc:TDE):TDE:=fun dl S Q=>ta dl S fun x S1=>tb dl S1 fun y S2=>w x y S2 fun z S3=>match z with
 | .bl k=>if k=true then tc dl S3 fun u S4=>w' y u S4 Q else Q (.bl false) S3
 | _=>False
def zgp:D→Bool
 | .non=>true
 | _=>false
def wIsN:W2:=fun x y S Q=>match y with
 | .non=>Q (.bl (zgp x)) S
 | _=>False
def wNotN:W2:=fun x y S Q=>match y with
 | .non=>Q (.bl (!zgp x)) S
 | _=>False
variable {e:Expr}{es:List Expr}
def dNil:TDA:=fun _ S Q=>Q [] S
def zfS (ta:TDE)(tr:TDA):TDA:=fun dl S Q=>ta dl S fun x S1=>tr dl S1 fun xs S2=>Q (x::xs) S2
theorem zab:PDA X Z [] dNil:=zgg zdT fun σ H Qv ⟨r,dl,S,Q,rs,rel,h,ret⟩=>ret [] H r [] S Ext.refl rel Rps.nil h
theorem zaa {te:TDE}{t:TDA}(ha:PD X Z e te)(hr:PDA X Z es t)(hs:starEach (e::es) X.env=(false,eval e X.env)::starEach es X.env:=by rfl):PDA X Z (e::es) (zfS te t):=
 zgg (zdf ha hr hs) fun σ H Qv ⟨r,dl,S,Q,rs,rel,h,ret⟩=>⟨r,dl,S,_,rs,rel,h,fun v H1 r1 d S1 e1 rel1 p1 h1=>⟨r1,dl,S1,_,rs.ext e1,rel1,h1,fun vs H2 r2 ds S2 e2 rel2 p2 h2=>
  ret (v::vs) H2 r2 (d::ds) S2 (e1.trans e2) rel2 (Rps.cons (p1.ext e2) p2) h2⟩⟩
def dTup (t:TDA):TDE:=fun dl S Q=>t dl S fun ds S1=>if ds.length≤1000 then Q (.tup ds) S1 else False
def dLst (t:TDA):TDE:=fun dl S Q=>t dl S fun ds S1=>if ds.length≤1000 then Q (.ref S1.length) (S1++[.lst ds]) else False
theorem zej {A:Prop}{p:Prop} [Decidable p] (h:if p then A else False):p∧A:=by
 split at h
 ·exact⟨by assumption,h⟩
 ·exact h.elim
theorem zdQ {n:Nat}(h:n≤1000):n≤sizeLine:=Nat.le_of_lt (zdS h)
theorem zbi {x1}{t:TDA}(h:PDA X Z es t):PD X Z (.Tuple es x1 pos) (dTup t):=
 za5 (zhA h) fun σ H Qv ⟨r,dl,S,Q,rs,rel,h,ret⟩=>⟨r,dl,S,_,rs,rel,h,fun vs H1 r1 ds S1 e1 rel1 p1 h1=>by
  obtain⟨hl,h1⟩:=zej h1
  refine⟨by rw[← p1.1]; exact zdQ hl,fun p hp=>?_⟩
  have x:Ext r1 r1 H1 (upd H1 p (.tup vs)):=⟨fun _ _ q=>q,fun a xs q=>zbG hp _ _ q,fun a c q=>zbG hp _ _ q⟩
  exact ret _ _ r1 (.tup ds) S1 (e1.trans x) (rel1.same (zbG hp)) ((p1.ext x).tupR zb0) h1⟩
theorem zdk {r:List Addr}{p:Addr}{H:Hp}{n:Nat}(h:r.length=n):Rp (r++[p]) H (.ref n) (.ref p):=.ref (by subst h; simp)
theorem zcd {t:TDA}(h:PDA X Z es t):PD X Z (.List es pos) (dLst t):=
 za5 (zhP h) fun σ H Qv ⟨r,dl,S,Q,rs,rel,h,ret⟩=>⟨r,dl,S,_,rs,rel,h,fun vs H1 r1 ds S1 e1 rel1 p1 h1=>by
  obtain⟨hl,h1⟩:=zej h1
  refine⟨by rw[← p1.1]; exact zdQ hl,fun p hp=>?_⟩
  obtain⟨rel2,x⟩:=rel1.push hp p1
  exact ret _ _ _ (.ref S1.length) _ (e1.trans x) rel2 (zdk rel1.len) h1⟩

def wIx:W2:=fun x y S Q=>match x,y with
 | .tup xs,.int i=>match atI xs i with
  | some d=>Q d S
  | none=>False
 | .ref n,.int i=>match lAt S n with
  | some o=>match atI (zae o) i with
   | some d=>Q d S
   | none=>False
  | none=>False
 | _,_=>False
theorem zgl {r:List Addr}{H:Hp}{ds:List D}{vs:List V}{i:Int}{d:D}(h:Rps r H ds vs)(e:atI ds i=some d):∃v,atI vs i=some v∧Rp r H d v:=by
  unfold atI at e ⊢
  rw[← h.1]
  cases q:ixN ds.length i with
  | none=>
   rw[q] at e
   cases e
  | some j=>
    rw[q] at e
    exact h.get e
theorem do_ix:IxR X (upO X.K Z wIx):=by
 intro value slice pins s σ H x y v u Qv I rx ry h hs
 obtain⟨r,S,dx,dy,Q,rel,px,py,q,ret⟩:=h
 cases px with
 | @tup ds xs a e1 l1 f1=>
  cases py with
  | int i=>
   have q':(match atI ds i with | some d=>Q d S | none=>False):=q
   split at q'
   ·rename_i d e
    obtain⟨w,hw,pw⟩:=zgl ⟨l1,f1⟩ e
    exact zi0 value slice pins s σ H _ _ v u Qv I rx ry ⟨a,xs,i,w,rfl,rfl,SqT.of e1,hw,ret w H r d S Ext.refl rel pw q'⟩ hs
   ·exact q'.elim
  | _=>exact(show False from q).elim
 | @ref n a e1=>
  cases py with
  | int i=>
   have q':(match lAt S n with | some o=>(match atI (zae o) i with | some d=>Q d S | none=>False) | none=>False):=q
   split at q'
   ·rename_i o eo
    obtain⟨eo,eL⟩:=zbB eo
    obtain⟨a',ha,ob⟩:=rel.at eo
    rw[e1] at ha; cases ha
    obtain⟨xs,sq,pr⟩:=ob.list eL
    split at q'
    ·rename_i d e
     obtain⟨w,hw,pw⟩:=zgl pr e
     exact zht value slice pins s σ H _ _ v u Qv I rx ry ⟨a,xs,i,w,rfl,rfl,sq,hw,ret w H r d S Ext.refl rel pw q'⟩ hs
    ·exact q'.elim
   ·exact q'.elim
  | _=>exact(show False from q).elim
 | _=>exact(show False from q).elim
theorem zbr (ha:PD X Z a ta)(hb:PD X Z b tb)(hs:zfb b):PD X Z (.Subscript a b pos) (dOp wIx ta tb):=za5 (pe_ix do_ix ha hb hs) fun _ _ _ h=>zd3 h
end
end L3


namespace L3
open PySem PySem.Spec PyProof.Rows L2
structure Bk (fs:List Addr)(H H':Hp)(B h:Heap)(ea:Addr):Prop where
 trk:∀b u,H' b=some u→∃o,B.get? b=some o
 old:∀b o,h.get? b=some o→H b=none→b ∉ fs→B.get? b=some o
 all:∀b o,h.get? b=some o→b ∉ fs→∃o',B.get? b=some o'
 new:H' ea=none
def CXE (P:Program)(w:World):CXT:=fun outer H s E e s'=>∃(ea c:Addr) (a0:Value) (B:Heap) (H':Hp),e=.ref ea∧s'.os=s.os∧AllBare s'.gens∧Un (frs outer) [] H H' s.heap s'.heap∧HOk P w H' s'.heap∧
 Heap.FlyingW B outer ea (.ref c) a0 s'.heap∧Bk (frs outer) H H' B s.heap ea∧E (.ref c) none H'
section
variable {X:Cx}{pins:List (Addr×Obj)}{σ:St}{H:Hp}{s:Shared}
end
section
variable {P:Program}{w:World}{K:PySem.W.Frag}{mg:Str→Option Value}{base:Heap}{N:List Str}{qual:Str}{scope:Scope}{f:Addr}{cdv:Value}{A:Around}{outer:List Env}{s0:Shared}{H0:Hp}{E:XK}
end
structure Xc (K:PySem.W.Frag)(mg:Str→Option Value)(x:Str)(C:Addr)(bm:List Value)(nid:String):Prop where
 bound:mg x=some (.ref C)
 ex:PySem.W.excIn K C bm nid=true
end L3

namespace L3
open PySem PySem.Spec PyProof.Rows L2
abbrev WC:=List D→Sto→DK→Prop
abbrev Sd:=List D→Sto→DK→(Addr→Sto→Prop)→Prop
def upC (K:PySem.W.Frag)(Z:Zx)(w:WC):List V→Hp→VK→Prop:=fun xs H Qv=>∃r S ds Q,Rel K Z r S H∧Rps r H ds xs∧w ds S Q∧Ret K Z r H Q Qv
def upF (K:PySem.W.Frag)(sd:Sd):Sp:=fun vs H Qv E=>∃ex:Addr→Sto→Prop,upC K (Zc ex E) (fun ds S Q=>sd ds S Q ex) vs H Qv
def zev (w:WC)(t:TDA):TDE:=fun dl S Q=>t dl S fun ds S1=>w ds S1 Q
def zdU (ex:Ev→Addr→Sto→Prop)(sd:Sd)(t:TDA):TDE:=fun dl S Q=>t dl S fun ds S1=>sd ds S1 Q (ex dl)
def zdL (X:Cx)(W:St→XK):Prop:=∀(pins:List (Addr×Obj)) (σ:St) (H:Hp) (s:Shared) (e:Value) (s':Shared),Inv X pins σ H s→CXE X.prog X.w X.stack H s (W σ) e s'→X.xe e s'
section
variable {X:Cx}{k:Nat}{f:Addr}{fd:FuncData}{ps:List Str}{sp:Sp}{W:St→XK}{x:Str}{p pos:Pos}{e:Expr}{es:List Expr}{t:TA}
theorem zg9 {pins:List (Addr×Obj)}{σ:St}{H:Hp}{s:Shared}{Q:VK}{us:List Value}{vs:List V}(F:zaX X.prog X.w X.K X.mg X.base (CXE X.prog X.w) k f fd ps sp)(hr:zaw k X.A)(hb:zbS X.K fd ps [])(hx:zdL X W)
  (I:Inv X pins σ H s)(r:zad vs us)(h:sp vs H Q (W σ)):wpAny (model X.prog X.w) X.A (call (.ref f) us) (EP X pins σ Q) X.xe s:=by
 have hl:us.length=ps.length:=by rw[← r.length]; exact F.len _ _ _ _ h
 have hb':=hb s us I.kIn (by rw[List.append_nil]; exact hl)
 rw[List.append_nil] at hb'
 refine wpAny_call (codeAny_mono (F.run X.A X.stack s H ⟨us,[]⟩ us vs Q (W σ) hr I.env0 hb' r h) fun z s' hq=>?_)
 cases z with
 | error ev=>exact hx pins σ H s ev s' I hq
 | ok fl=>
  cases fl with
  | ret u=>exact I.after hq
  | _=>exact False.elim hq
theorem zhS (F:zaX X.prog X.w X.K X.mg X.base (CXE X.prog X.w) k f fd ps sp)(hr:zaw k X.A)(hg:Gl X x)(hm:X.mg x=some (.ref f))(hk:PySem.W.keepIn X.K (.ref f)=true)(hb:zbS X.K fd ps [])(hx:zdL X W)
  (ha:PA X (e::es) t)(hdb:(x == ("__debug__":Str))=false)(he:starEach (e::es) X.env=(false,eval e X.env)::starEach es X.env)(hpl:(backTo pos (starEach es X.env)).any (·.1)=false):
  PE X (.Call (.Name x p) (e::es) [] pos) (fun σ H Q=>t σ H fun vs H1=>sp vs H1 Q (W σ)):=by
 intro pins s σ H Q I h
 refine wpAny_Call_Name_kw (zg1 I hg hm ?_ hdb)
 exact PySem.W.callWith_K (h₀:=X.base) I.ok.mod.kin hk (thn (ha pos pins s σ H _ I h) fun us s1 ⟨vs,H1,I1,r,q⟩=>⟨I1.kIn,zg9 F hr hb hx I1 r q⟩) he hpl
end
section
variable {X:Cx}{Z:Zx}{x:Str}{p pos:Pos}{e:Expr}{es:List Expr}{t:TDA}{id T:String}{w:WC}
theorem zfo {σ:St}{H:Hp}{Qv:VK}(h:up X.K Z (zev w t) σ H Qv):upA X.K Z t σ H fun vs H1=>upC X.K Z w vs H1 Qv:=by
 obtain⟨r,dl,S,Q,rs,rel,h,ret⟩:=h
 exact⟨r,dl,S,_,rs,rel,h,fun vs H1 r1 ds S1 e1 rel1 p1 h1=>⟨r1,S1,ds,Q,rel1,p1,h1,ret.ext e1⟩⟩
theorem zaV (hc:zaU X (.builtin id) (upC X.K Z w))(hg:Gl X x)(hm:X.mg x=none)(hv:bootBuiltins x=some (.builtin id))(ha:PDA X Z (e::es) t)(hn:x≠"__name__":=by decide)(hdb:(x == ("__debug__":Str))=false:=by decide)
  (he:starEach (e::es) X.env=(false,eval e X.env)::starEach es X.env:=by rfl)(hpl:(backTo pos (starEach es X.env)).any (·.1)=false:=by rfl):PD X Z (.Call (.Name x p) (e::es) [] pos) (zev w t):=
 za5 (zfe hc hg hm hv ha hn hdb he hpl) fun _ _ _ h=>zfo h
theorem zfg (hc:zaU X (.type T) (upC X.K Z w))(hg:Gl X x)(hm:X.mg x=none)(hv:bootBuiltins x=some (.type T))(ha:PDA X Z (e::es) t)(hn:x≠"__name__":=by decide)(hdb:(x == ("__debug__":Str))=false:=by decide)
  (he:starEach (e::es) X.env=(false,eval e X.env)::starEach es X.env:=by rfl)(hpl:(backTo pos (starEach es X.env)).any (·.1)=false:=by rfl):PD X Z (.Call (.Name x p) (e::es) [] pos) (zev w t):=
 za5 (zjF hc hg hm hv ha hn hdb he hpl) fun _ _ _ h=>zfo h
theorem up_sd {sd:Sd}{r:List Addr}{S:Sto}{H:Hp}{dl:Ev}{σ:St}{ds:List D}{vs:List V}{Q:DK}{Qv:VK}(rs:Rs r H dl σ)(rel:Rel X.K Z r S H)(p:Rps r H ds vs)(h:sd ds S Q (Z.ex dl))(ret:Ret X.K Z r H Q Qv):upF X.K sd vs H Qv (Z.w σ):=
 ⟨Z.ex dl,r,S,ds,Q,⟨rel.b,fun _ _ c H' r' S' x _ rb q=>rel.xw dl σ c H' r' S' x (rs.ext x) rb q⟩,p,h,fun v H' r' d S' x rel' pv q=>ret v H' r' d S' x ⟨rel'.b,rel.xw.ext x⟩ pv q⟩
theorem zjB {k:Nat}{f:Addr}{fd:FuncData}{ps:List Str}{sd:Sd}(F:zaX X.prog X.w X.K X.mg X.base (CXE X.prog X.w) k f fd ps (upF X.K sd))(hr:zaw k X.A)(hg:Gl X x)(hm:X.mg x=some (.ref f))(hk:PySem.W.keepIn X.K (.ref f)=true)
  {ex:Ev→Addr→Sto→Prop}{W:St→XK}(hb:zbS X.K fd ps [])(hx:zdL X W)(ha:PDA X ⟨ex,W⟩ (e::es) t)(hdb:(x == ("__debug__":Str))=false:=by decide)(he:starEach (e::es) X.env=(false,eval e X.env)::starEach es X.env:=by rfl)
  (hpl:(backTo pos (starEach es X.env)).any (·.1)=false:=by rfl):PD X ⟨ex,W⟩ (.Call (.Name x p) (e::es) [] pos) (zdU ex sd t):=
 za5 (zhS F hr hg hm hk hb hx ha hdb he hpl) fun σ H Qv ⟨r,dl,S,Q,rs,rel,h,ret⟩=>⟨r,dl,S,_,rs,rel,h,fun vs H1 r1 ds S1 e1 rel1 p1 h1=>up_sd (Z:=⟨ex,W⟩) (rs.ext e1) rel1 p1 h1 (ret.ext e1)⟩

def wAbs:WC:=fun ds S Q=>match ds with
 | [.int i]=>Q (.int (if i < 0 then -i else i)) S
 | _=>False
def zfH:List D→Option (List Int)
 | []=>some []
 | .int i::r=>(zfH r).map (i::·)
 | _::_=>none
def wBest (le:Int→Int→Prop)(two:Int→Int→Int):WC:=fun ds S Q=>match ds with
 | [.int i,.int j]=>Q (.int (two i j)) S
 | [.ref n]=>match lAt S n with
  | some o=>match zfH (zae o) with
   | some xs=>xs≠[]∧∀m,m∈xs→(∀y∈xs,le y m)→Q (.int m) S
   | none=>False
  | none=>False
 | _=>False
def zcS:WC:=fun ds S Q=>match ds with
 | [.tup xs]=>Q (.int xs.length) S
 | [.ref n]=>match lAt S n with
  | some o=>Q (.int (zae o).length) S
  | none=>False
 | _=>False
theorem zbd:zaU X (.builtin "len") (upC X.K Z zcS):=ze6 ziq fun xs H Qv ⟨r,S,ds,Q,rel,ps,q,ret⟩=>by
 unfold zcS at q
 split at q
 ·rename_i ys
  obtain⟨v,vs,rfl,p1,p2⟩:=ps.uncons
  have z:=p2.unnil
  subst z
  obtain⟨a,zs,rfl,h1,h2⟩:=p1.untup
  exact⟨a,zs,rfl,.inr (SqT.of h1),by rw[← h2.1]; exact ret _ _ _ _ _ Ext.refl rel (.int _) q⟩
 ·rename_i n
  obtain⟨v,vs,rfl,p1,p2⟩:=ps.uncons
  have z:=p2.unnil
  subst z
  split at q
  ·rename_i o eo
   obtain⟨eo,eL⟩:=zbB eo
   obtain⟨a,ha,ob⟩:=rel.at eo
   cases p1 with
   | ref h1=>
    rw[h1] at ha; cases ha
    obtain⟨ys,sq,pr⟩:=ob.list eL
    exact⟨_,ys,rfl,.inl sq,by rw[← pr.1]; exact ret _ _ _ _ _ Ext.refl rel (.int _) q⟩
  ·exact q.elim
 ·exact q.elim

def za6 (t T:String):Bool:=t == T || (t == "bool" && T == "int")
def zgE (T:String)(te:TDE):TDE:=fun dl S Q=>te dl S fun d S1=>match d with
 | .ref _=>False
 | .exc _=>False
 | .non=>Q (.bl (za6 "NoneType" T)) S1
 | .bl _=>Q (.bl (za6 "bool" T)) S1
 | .int _=>Q (.bl (za6 "int" T)) S1
 | .str _=>Q (.bl (za6 "str" T)) S1
 | .tup _=>Q (.bl (za6 "tuple" T)) S1
def Kit (K:PySem.W.Frag)(T:String):Prop:=∀t∈["NoneType","bool","int","str","tuple"],PySem.W.kitOne K (.type t) (.type T)=some (za6 t T)
def rInst (K:PySem.W.Frag):List V→Hp→VK→Prop:=fun xs H Qv=>∃x T t b,xs=[x,.ty T]∧zbv K H x t∧PySem.W.kitOne K t (.type T)=some b∧Qv (.bl b) H
theorem zgY:zaU X (.builtin "isinstance") (rInst X.K):=by
 intro pins s σ H xs us Q I r h
 obtain⟨x,T,t,b,rfl,ty,e,q⟩:=h
 obtain⟨u,w',rfl,r1,r2⟩:=vals2 r
 cases r2
 exact zjY I r1 ty e fun tk=>⟨.bl b,H,I.tok tk,rfl,q⟩
theorem zf8 {T:String}{te:TDE}{y:Str}{p2:Pos}(KT:Kit X.K T)(hg:Gl X "isinstance")(hm:X.mg "isinstance"=none)(hg2:Gl X y)(hm2:X.mg y=none)(hv2:bootBuiltins y=some (.type T))(ha:PD X Z e te)
  (hv:bootBuiltins "isinstance"=some (.builtin "isinstance"):=by exact PyProof.Rows.Boot.«isinstance»)
  (hn2:y≠"__name__":=by decide)(hd2:(y == ("__debug__":Str))=false:=by decide)(he2:starEach [e,.Name y p2] X.env=(false,eval e X.env)::starEach [.Name y p2] X.env:=by rfl)
  (he3:starEach [.Name y p2] X.env=(false,eval (.Name y p2) X.env)::starEach [] X.env:=by rfl)(hpl:(backTo pos (starEach [.Name y p2] X.env)).any (·.1)=false:=by rfl):
  PD X Z (.Call (.Name "isinstance" p) [e,.Name y p2] [] pos) (zgE T te):=
 za5 (zfe zgY hg hm hv (zdf ha (zdf (zfy (v:=.ty T) hg2 hm2 hv2 rfl hn2 hd2) zdT he3) he2) (by decide) (by decide) he2 hpl) fun σ H Qv ⟨r,dl,S,Q,rs,rel,h,ret⟩=>
  ⟨r,dl,S,_,rs,rel,h,fun v H1 r1 d S1 e1 rel1 p1 h1=>by
   cases p1 with
   | non=>exact⟨_,T,_,_,rfl,.non,KT _ (by simp),ret _ _ _ _ _ e1 rel1 (.bl _) h1⟩
   | bl b=>exact⟨_,T,_,_,rfl,.bl b,KT _ (by simp),ret _ _ _ _ _ e1 rel1 (.bl _) h1⟩
   | int b=>exact⟨_,T,_,_,rfl,.int b,KT _ (by simp),ret _ _ _ _ _ e1 rel1 (.bl _) h1⟩
   | str b=>exact⟨_,T,_,_,rfl,.str b,KT _ (by simp),ret _ _ _ _ _ e1 rel1 (.bl _) h1⟩
   | tup e2 _ _=>exact⟨_,T,_,_,rfl,.tup e2,KT _ (by simp),ret _ _ _ _ _ e1 rel1 (.bl _) h1⟩
   | ref _=>exact(show False from h1).elim
   | exc _=>exact(show False from h1).elim⟩
end
end L3

namespace L3
open PySem PySem.Spec PyProof.Rows L2
section
variable {X:Cx}{Z:Zx}{st:Stmt}{zaz:List Stmt}{t u:TDS}{e:Expr}{te:TDE}{pos:Pos}
def zay:TDS:=fun E dl S=>E.nx dl S
def dSeq (t u:TDS):TDS:=fun E dl S=>t { nx:=fun dl' S'=>u E dl' S',rt:=E.rt,bk:=E.bk,ct:=E.ct } dl S
theorem zaJ:zbX X Z [] zay:=zfw zjG fun F σ H ⟨r,dl,S,E,rs,rel,h,ret⟩=>ret.nx σ H r dl S Ext.refl rs rel h
theorem zaj (h1:PDS X Z st t)(h2:zbX X Z zaz u):zbX X Z (st::zaz) (dSeq t u):=
 zfw (zi9 h1 h2) fun F σ H ⟨r,dl,S,E,rs,rel,h,ret⟩=>⟨r,dl,S,_,rs,rel,h,fun σ' H' r' dl' S' x rs' rel' q=>⟨r',dl',S',E,rs',rel',q,ret.ext x⟩,ret.bk,ret.ct,ret.rt⟩
theorem zak (h1:PDS X Z st t):zbX X Z [st] t:=zhL h1
def zfl (te:TDE):TDS:=fun E dl S=>te dl S fun _ S1=>E.nx dl S1
theorem zeW (he:PD X Z e te)(hs:swapsWith e none pos.line X.env=pure false:=by rfl):PDS X Z (.Expr e pos) (zfl te):=
 zb1 (zjL he hs) fun F σ H ⟨r,dl,S,E,rs,rel,h,ret⟩=>⟨r,dl,S,_,rs,rel,h,fun v H1 r1 d S1 x rel1 p q=>ret.nx σ H1 r1 dl S1 x (rs.ext x) rel1 q⟩
def dRet (te:TDE):TDS:=fun E dl S=>te dl S E.rt
theorem zan (he:PD X Z e te):PDS X Z (.Return (some e) pos) (dRet te):=
 zb1 (zi1 he) fun F σ H ⟨r,dl,S,E,rs,rel,h,ret⟩=>⟨r,dl,S,_,rs,rel,h,ret.rt⟩
def dRetN:TDS:=fun E _ S=>E.rt .non S
def dIf (c:TDT)(t u:TDS):TDS:=fun E dl S=>c dl S fun k S1=>if k=true then t E dl S1 else u E dl S1
theorem zaI {c:Expr}{a b:List Stmt}{tc:TDT}(hc:PDT X Z c tc)(ha:zbX X Z a t)(hb:zbX X Z b u):PDS X Z (.If c a b pos) (dIf tc t u):=
 zb1 (ps_if hc ha hb) fun F σ H ⟨r,dl,S,E,rs,rel,h,ret⟩=>⟨r,dl,S,_,rs,rel,h,fun k H1 r1 S1 x rel1 q=>by
  cases k with
  | true=>exact za4 ⟨r1,dl,S1,E,rs.ext x,rel1,(by simpa using q),ret.ext x⟩
  | false=>exact zai ⟨r1,dl,S1,E,rs.ext x,rel1,(by simpa using q),ret.ext x⟩⟩
def zd6 (i:Nat)(te:TDE):TDS:=fun E dl S=>te dl S fun d S1=>E.nx (dl.set i (some d)) S1
theorem zbk {i:Nat}{x:Str}{pos':Pos}(hN:X.N.Nodup)(hi:X.N[i]?=some x)(hx:Loc X.env.scope x)(he:PD X Z e te)(hs:swapsWith e (some (.Name x pos')) pos.line X.env=pure false:=by rfl)
  (hf:X.fn x=true∨X.env.scope.names.lookup x=some .local:=by first | exact .inl rfl | exact .inr rfl | assumption):PDS X Z (.Assign [.Name x pos'] e pos) (zd6 i te):=
 zb1 (zhR hN hi hx he hs hf) fun F σ H ⟨r,dl,S,E,rs,rel,h,ret⟩=>⟨r,dl,S,_,rs,rel,h,fun v H1 r1 d S1 x rel1 p q=>ret.nx _ H1 r1 _ S1 x ((rs.ext x).set i p) rel1 q⟩

def dFor (i:Nat)(tl:TDE)(tb:TDS):TDS:=fun E dl S=>tl dl S fun d S1=>match d with
 | .ref n=>(lAt S1 n).isSome=true∧∃W:Nat→Nat→Ev→Sto→Prop,(∃m,W 0 m dl S1)∧∀k m dl S,W k m dl S→match lAt S n with
  | some o=>match (zae o)[k]? with
   | some x=>tb { nx:=fun dl' S'=>∃m',m' < m∧W (k + 1) m' dl' S',rt:=E.rt,bk:=E.nx,ct:=fun dl' S'=>∃m',m' < m∧W (k + 1) m' dl' S' } (dl.set i (some x)) S
   | none=>E.nx dl S
  | none=>False
 | _=>False
theorem ziG {i:Nat}{x:Str}{pos':Pos}{iter:Expr}{body:List Stmt}{tl:TDE}{tb:TDS}(hp:PassesOwn (model X.prog X.w) X.A X.env X.xe)(hc:X.calm=true)(hN:X.N.Nodup)(hi:X.N[i]?=some x)(hx:Loc X.env.scope x)
  (hl:PD X Z iter tl)(hb:zbX X Z body tb)(hf:X.fn x=true∨X.env.scope.names.lookup x=some .local:=by first | exact .inl rfl | exact .inr rfl | assumption)
  (hs:∀y,foldedSetIterable iter X.env y=pure y:=by intro _; rfl):PDS X Z (.For (.Name x pos') iter body [] pos) (dFor i tl tb):=
 zb1 (zfd hp hc (zeO hl) (zdO hN hi hx hf) hb hs) fun F σ H ⟨r,dl,S,E,rs,rel,h,ret⟩=>by
  refine⟨r,dl,S,_,rs,rel,h,fun v H1 r1 d S1 x1 rel1 p1 q1=>?_⟩
  cases p1 with
  | @ref n a hn=>
   obtain⟨hsome,W,⟨m0,w0⟩,turn⟩:=q1
   have sql:∀ {r':List Addr} {S':Sto} {H':Hp} {o:Ob},Ext r1 r' H1 H'→Rel X.K Z r' S' H'→lAt S' n=some o→∃xs,SqL X.K H' a xs∧Rps r' H' (zae o) xs:=fun {r' S' H' o} x' rel' eo=>by
    obtain⟨eo,eL⟩:=zbB eo
    obtain⟨a',ha,ob⟩:=rel'.at eo
    rw[x'.adr n a hn] at ha; cases ha
    exact ob.list eL
   obtain⟨o1,eo1⟩:=Option.isSome_iff_exists.mp hsome
   obtain⟨xs1,sq1,_⟩:=sql Ext.refl rel1 eo1
   refine⟨a,rfl,⟨xs1,sq1⟩,fun k m σ' H'=>∃r' dl' S',Ext r1 r' H1 H'∧Rs r' H' dl' σ'∧Rel X.K Z r' S' H'∧W k m dl' S',⟨m0,r1,dl,S1,Ext.refl,rs.ext x1,rel1,w0⟩,?_⟩
   rintro k m σ2 H2 ⟨r2,dl2,S2,x2,rs2,rel2,w2⟩
   have q:=turn k m dl2 S2 w2
   split at q
   ·rename_i o eo
    obtain⟨xs,sq,pr⟩:=sql x2 rel2 eo
    split at q
    ·rename_i y ey
     obtain⟨v,hv,pv⟩:=pr.get ey
     have go:∀ {r3:List Addr} {H3:Hp},Ext r2 r3 H2 H3→∀σ' H' r' dl' S',Ext r3 r' H3 H'→Rs r' H' dl' σ'→Rel X.K Z r' S' H'→(∃m',m' < m∧W (k + 1) m' dl' S')→∃m',m' < m∧∃r' dl' S',Ext r1 r' H1 H'∧Rs r' H' dl' σ'∧Rel X.K Z r' S' H'∧W (k + 1) m' dl' S':=
      fun {r3 H3} x3 σ' H' r' dl' S' x rs' rel' ⟨m',hm,w'⟩=>⟨m',hm,r',dl',S',x2.trans (x3.trans x),rs',rel',w'⟩
     refine .inr ⟨⟨xs,v,sq,hv⟩,fun σ' H'=>∃m',m' < m∧∃r' dl' S',Ext r1 r' H1 H'∧Rs r' H' dl' σ'∧Rel X.K Z r' S' H'∧W (k + 1) m' dl' S',fun _ _ z=>z,fun v' H' y'=>?_⟩
     obtain⟨eH,y'⟩:=y'
     subst eH
     have ev:v'=v:=by
      have z:=y' xs sq
      rw[hv] at z; exact(Option.some.inj z).symm
     subst ev
     exact⟨r2,_,S2,_,rs2.set i pv,rel2,q,go Ext.refl,fun σ' H' r' dl' S' x rs' rel' z=>ret.nx σ' H' r' dl' S' (x1.trans (x2.trans x)) rs' rel' z,go Ext.refl,ret.rt.ext (x1.trans x2)⟩
    ·rename_i ey
     have hlen:(zae o).length≤k:=List.getElem?_eq_none_iff.mp ey
     exact .inl ⟨⟨xs,sq,by rw[← pr.1]; exact hlen⟩,ret.nx σ2 H2 r2 dl2 S2 (x1.trans x2) rs2 rel2 q⟩
   ·exact q.elim
  | _=>exact(show False from q1).elim
def dForR (i:Nat)(ta:TDA)(tb:TDS):TDS:=fun E dl S=>ta dl S fun ds S1=>match ds with
 | [.int j]=>(-(2 ^ 62)≤j∧j < 2 ^ 62)∧∃W:Nat→Ev→Sto→Prop,W 0 dl S1∧∀k dl S,W k dl S→
   if k < j.toNat then tb { nx:=fun dl' S'=>W (k + 1) dl' S',rt:=E.rt,bk:=E.nx,ct:=fun dl' S'=>W (k + 1) dl' S' } (dl.set i (some (.int k))) S else E.nx dl S
 | _=>False
theorem zjb {i:Nat}{x:Str}{pos2 pos' p:Pos}{a:Expr}{body:List Stmt}{ta:TDA}{tb:TDS}(hp:PassesOwn (model X.prog X.w) X.A X.env X.xe)(hc:X.calm=true)(hN:X.N.Nodup)(hi:X.N[i]?=some x)(hx:Loc X.env.scope x)
  (hg:Gl X "range")(hm:X.mg "range"=none)(ha:PDA X Z [a] ta)(hb:zbX X Z body tb)(hf:X.fn x=true∨X.env.scope.names.lookup x=some .local:=by first | exact .inl rfl | exact .inr rfl | assumption)
  (hs:∀y,foldedSetIterable (.Call (.Name "range" p) [a] [] pos) X.env y=pure y:=by intro _; rfl)(hst:starEach [a] X.env=[(false,eval a X.env)]:=by rfl):
  PDS X Z (.For (.Name x pos') (.Call (.Name "range" p) [a] [] pos) body [] pos2) (dForR i ta tb):=
 zb1 (zfd hp hc (zeT hg hm ha hst) (zdO hN hi hx hf) hb hs) fun F σ H ⟨r,dl,S,E,rs,rel,h,ret⟩=>by
  refine⟨r,dl,S,_,rs,rel,h,fun vs H1 r1 ds S1 x1 rel1 p1 q1=>?_⟩
  split at q1
  ·rename_i j
   obtain⟨v,vs',rfl,p2,p3⟩:=p1.uncons
   have z:=p3.unnil
   subst z
   cases p2
   obtain⟨⟨b1,b2⟩,W,w0,turn⟩:=q1
   refine⟨j,rfl,b1,b2,fun k m σ' H'=>m=j.toNat - k∧∃r' dl' S',Ext r1 r' H1 H'∧Rs r' H' dl' σ'∧Rel X.K Z r' S' H'∧W k dl' S',⟨j.toNat,by simp,r1,dl,S1,Ext.refl,rs.ext x1,rel1,w0⟩,?_⟩
   rintro k m σ2 H2 ⟨em,r2,dl2,S2,x2,rs2,rel2,w2⟩
   have q:=turn k dl2 S2 w2
   split at q
   ·rename_i hk
    have go:∀σ' H' r' dl' S',Ext r2 r' H2 H'→Rs r' H' dl' σ'→Rel X.K Z r' S' H'→W (k + 1) dl' S'→∃r' dl' S',Ext r1 r' H1 H'∧Rs r' H' dl' σ'∧Rel X.K Z r' S' H'∧W (k + 1) dl' S':=
     fun σ' H' r' dl' S' x rs' rel' w'=>⟨r',dl',S',x2.trans x,rs',rel',w'⟩
    have pk:Rp r2 H2 (.int (k:Int)) (.int (0 + (k:Int))):=by rw[Int.zero_add]; exact .int _
    refine .inr ⟨hk,fun σ' H'=>∃r' dl' S',Ext r1 r' H1 H'∧Rs r' H' dl' σ'∧Rel X.K Z r' S' H'∧W (k + 1) dl' S',fun σ' H' z=>⟨j.toNat - (k + 1),by omega,rfl,z⟩,fun v' H' y'=>?_⟩
    obtain⟨eH,y'⟩:=y'
    subst eH
    subst y'
    exact⟨r2,_,S2,_,rs2.set i pk,rel2,q,go,fun σ' H' r' dl' S' x rs' rel' z=>ret.nx σ' H' r' dl' S' (x1.trans (x2.trans x)) rs' rel' z,go,ret.rt.ext (x1.trans x2)⟩
   ·rename_i hk
    exact .inl ⟨by show j.toNat≤k; omega,ret.nx σ2 H2 r2 dl2 S2 (x1.trans x2) rs2 rel2 q⟩
  ·exact q1.elim
end

def zcZ (N:List Str)(ds:List D):Ev:=ds.map some++List.replicate (N.length - ds.length) none
theorem zhq {r:List Addr}{H:Hp}{N:List Str}{ds:List D}{vs:List V}(h:Rps r H ds vs):Rs r H (zcZ N ds) (L2.zbM N vs):=by
  refine⟨by simp[zcZ,L2.zbM,h.1],fun i d e=>?_⟩
  unfold zcZ at e
  by_cases hi:i < ds.length
  · rw[List.getElem?_append_left (by simpa using hi),List.getElem?_map] at e
    cases q:ds[i]? with
    | none=>
   rw[q] at e
   cases e
    | some z=>
      rw[q] at e
      cases e
      obtain⟨v,hv,pv⟩:=h.get q
      refine⟨v,?_,pv⟩
      unfold L2.zbM
      rw[List.getElem?_append_left (by simpa [h.1] using hi),List.getElem?_map,hv]
      rfl
  · rw[List.getElem?_append_right (by simpa using hi),List.getElem?_replicate] at e
    split at e <;> cases e
section
variable {P:Program}{w:World}{K:PySem.W.Frag}{mg:Str→Option Value}{base:Heap}
abbrev Z0:Zx:=Zc (fun _ _=>False) (fun _ _ _=>False)
theorem zdc {X:Cx}:zdL X Z0.w:=fun _ _ _ _ _ _ _ h=>by
 obtain⟨_,_,_,_,_,_,_,_,_,_,_,_,q⟩:=h
 exact q.elim
theorem zbn {x qual:Str}{st:Stmt}{f:Addr}{fd:FuncData}{N ps:List Str}{k:Nat}{sd:Sd}(F:Fun K x qual st f fd)(Sc:zbe N ps (zah st))(len:∀ds S Q ex,sd ds S Q ex→ds.length=ps.length)
  (hbody:∀(cdv:Value) (A:Around) (outer:List Env) (s:Shared) (H:Hp) (E:XK),zaw k (A.deeper (envOfC qual (zah st) s.heap.objs.size f cdv))→
   ∃t,zbX (zcI (CXE P w) P w K mg base N qual (zah st) f cdv A outer s H E).nox Z0 (zaE st) t∧∀ds S Q ex,sd ds S Q ex→t { nx:=fun _ S'=>Q .non S',rt:=Q } (zcZ N ds) S):zaX P w K mg base (CXE P w) (k + 1) f fd ps (upF K sd):=by
 obtain⟨oc,od,kV,doc,pm,an,cdv,ct,osl,rfl,lk,hcd⟩:=F.ex
 refine zf2 lk hcd Sc (fun vs H Q E h=>?_) fun A outer s H vs Q E hr h=>?_
 ·obtain⟨ex,r,S,ds,Q',rel,p,q,ret⟩:=h
  rw[← p.1]
  exact len ds S Q' ex q
 ·obtain⟨ex,r,S,ds,Q',rel,p,q,ret⟩:=h
  obtain⟨t,ht,hq⟩:=hbody cdv A outer s H E hr
  have back:∀ {H':Hp} {r':List Addr} {S':Sto},Ext r r' H H'→Rel K Z0 r' S' H'→Rel K (Zc ex E) r' S' H':=fun x rel'=>⟨rel'.b,rel.xw.ext x⟩
  refine⟨upS K Z0 t,ht.nox,r,zcZ N ds,S,_,zhq p,⟨rel.b,fun _ _ _ _ _ _ _ _ _ z=>z.elim⟩,hq ds S Q' ex q,?_,?_,?_,?_⟩
  ·intro σ' H' r' dl' S' x _ rel' z
   exact ret .non H' r' .non S' x (back x rel') .non z
  ·intro σ' H' r' dl' S' x _ rel' z
   exact z
  ·intro σ' H' r' dl' S' x _ rel' z
   exact z
  ·intro v H' r' d S' x rel' p' z
   exact ret v H' r' d S' x (back x rel') p' z
end
end L3

namespace L3
open PySem
def Sz (n:Nat)(i:Int):Prop:=i.natAbs < 2 ^ n
theorem Sz.mono {m n:Nat}{i:Int}(h:Sz m i)(hn:m≤n):Sz n i:=Nat.lt_of_lt_of_le h (Nat.pow_le_pow_right (by decide) hn)
theorem Sz.bits {n:Nat}{i:Int}(h:Sz n i):Builtin.Int.intBits i≤n:=by
 unfold Builtin.Int.intBits
 split
 ·exact Nat.zero_le _
 ·rename_i hz
  have hp:i.natAbs≠0:=by
   intro z
   have z2:i=0:=by omega
   simp[z2] at hz
  have:=(Nat.log2_lt hp).mpr h
  omega
theorem Sz.of {n:Nat}{i:Int}(m:Nat)(h:i.natAbs≤m)(hm:m < 2 ^ n:=by decide):Sz n i:=Nat.lt_of_le_of_lt h hm
theorem Sz.neg {m:Nat}{i:Int}(hi:Sz m i):Sz m (-i):=by
 unfold Sz at *
 rw[Int.natAbs_neg]; exact hi
theorem Sz.log {n:Nat}{i:Int}(h:Sz n i)(hi:i≠0)(hn:n≤9000:=by decide):i.natAbs.log2 < 9000:=by
 have:=(Nat.log2_lt (by omega:i.natAbs≠0)).mpr h
 omega
theorem Sz.fd {n:Nat}{i:Int}(h:Sz n i)(hi:0 < i)(hn:n≤9000:=by decide):0 < i∧i.natAbs.log2 < 9000:=⟨hi,h.log (by omega) hn⟩
theorem p40:((10:Int) ^ (40:Int).toNat)=10 ^ 40:=rfl
theorem p41:((10:Int) ^ (41:Int).toNat)=10 ^ 41:=rfl
theorem p20:((10:Int) ^ (20:Int).toNat)=10 ^ 20:=rfl
example (x:Int):-(10 ^ 40)≤x % (2 * 10 ^ 40 + 1) - 10 ^ 40:=by omega
example (x:Int):x % (2 * 10 ^ 40 + 1) - 10 ^ 40≤10 ^ 40:=by omega
example (x:Int) (h:-(10 ^ 40)≤x) (h2:x≤2 * 10 ^ 41):Sz 140 x:=Sz.of (2 * 10 ^ 41) (by omega)
end L3

namespace L3
end L3

namespace L3
open PySem PySem.Spec PyProof.Rows L2
section
variable {X:Cx}{Z:Zx}
def wIf (C:Int→Int→Bool)(g:Int→Int→D):W2:=fun x y S Q=>match x,y with
 | .int i,.int j=>if C i j=true then Q (g i j) S else False
 | _,_=>False
theorem opIf {f:Value→Value→Sem Value}{C:Int→Int→Prop}{C':Int→Int→Bool}{g:Int→Int→D}(h:OpR X f (upO X.K Z (wI C g)))(hc:∀i j,C' i j=true→C i j):OpR X f (upO X.K Z (wIf C' g)):=
 zeA h fun x y H Qv ⟨r,S,dx,dy,Q,rel,px,py,q,ret⟩=>⟨r,S,dx,dy,Q,rel,px,py,by
  unfold wIf at q
  split at q
  ·obtain⟨h1,h2⟩:=zej q
   exact⟨hc _ _ h1,h2⟩
  ·exact q.elim,ret⟩
def zdR (_ j:Int):Bool:=decide (0 < j) && decide (j < 1073741824)
abbrev wModL:W2:=wIf zdR fun i j=>.int (i % j)
def powB (i j:Int):Bool:=decide (0≤j) && decide (j≤1000) && decide (-1000 < i) && decide (i < 1000)
abbrev wPowL:W2:=wIf powB fun i j=>.int (i ^ j.toNat)
theorem zj3 {i j:Int}(h:zdR i j=true):0 < j∧j < 1073741824:=by
 unfold zdR at h
 simpa using h
theorem zcc:OpR X (binaryOp .Mod) (upO X.K Z wModL):=opIf zgU fun i j h=>(zj3 h).1
theorem zhC:OpR X (binaryOp .Pow) (upO X.K Z wPowL):=opIf zjy fun i j h=>by
 unfold powB at h
 simp at h
 refine⟨h.1.1.1,by have:=h.1.1.2; omega,?_⟩
 have h3:=h.1.2
 have h4:=h.2
 have big:(18446744073709551616:Nat)=2 ^ 64:=by decide
 omega
structure Df (K:PySem.W.Frag)(mg:Str→Option Value)(x:Str)(st:Stmt)(ps:List Str) where
 f:Addr
 fd:FuncData
 F:Fun K x x st f fd
 m:mg x=some (.ref f)
 b:zbS K fd ps []
structure Fk (P:Program)(w:World)(K:PySem.W.Frag)(mg:Str→Option Value)(base:Heap)(k:Nat)(x:Str)(ps:List Str)(sd:Sd) where
 f:Addr
 fd:FuncData
 ok:zaX P w K mg base (CXE P w) k f fd ps (upF K sd)
 m:mg x=some (.ref f)
 kp:PySem.W.keepIn K (.ref f)=true
 b:zbS K fd ps []
def Df.mk' {P:Program}{w:World}{K:PySem.W.Frag}{mg:Str→Option Value}{base:Heap}{k:Nat}{x:Str}{st:Stmt}{ps:List Str}{sd:Sd}(d:Df K mg x st ps)(h:zaX P w K mg base (CXE P w) k d.f d.fd ps (upF K sd)):Fk P w K mg base k x ps sd:=
 ⟨d.f,d.fd,h,d.m,d.F.kp,d.b⟩
theorem zdd {x:Str}{p pos:Pos}{e:Expr}{es:List Expr}{t:TDA}{k:Nat}{ps:List Str}{sd:Sd}{ex:Ev→Addr→Sto→Prop}{W:St→XK}(G:Fk X.prog X.w X.K X.mg X.base k x ps sd)(hr:zaw k X.A)(hx:zdL X W)(hg:Gl X x)(ha:PDA X ⟨ex,W⟩ (e::es) t)
  (hdb:(x == ("__debug__":Str))=false:=by decide)(he:starEach (e::es) X.env=(false,eval e X.env)::starEach es X.env:=by rfl)(hpl:(backTo pos (starEach es X.env)).any (·.1)=false:=by rfl):
  PD X ⟨ex,W⟩ (.Call (.Name x p) (e::es) [] pos) (zdU ex sd t):=zjB G.ok hr hg G.m G.kp G.b hx ha hdb he hpl
end
def zcR:Sd:=fun ds S Q _=>∃ns:List Int,ds=[.ref 0]∧S=[.frz (ns.map D.int)]∧ns.length≤63∧∀S',Q (.bl true) S'
theorem zjr:∀ds S Q ex,zcR ds S Q ex→ds.length=1:=fun ds S Q ex h=>by
 obtain⟨ns,rfl,_⟩:=h
 rfl
theorem zit {K:PySem.W.Frag}{H:Hp}{a:Addr}{xs:List V}(hO:zdN H)(h:SqL K H a xs):SqF K H a xs:=by
 rcases h with (h | ⟨o,h⟩) | h
 ·rcases hO a with z | ⟨o,ys,z⟩
  ·rw[h] at z; cases z
  ·rw[h] at z; cases z
 ·exact .inl ⟨o,h⟩
 ·exact .inr h
theorem zj2 {r:List Addr}{H:Hp}(ns:List Int):Rps r H (ns.map D.int) (ns.map V.int):=by
 refine⟨by simp,fun i d v h1 h2=>?_⟩
 rw[List.getElem?_map] at h1 h2
 cases q:ns[i]? with
 | none=>rw[q] at h1; cases h1
 | some z=>
  rw[q] at h1 h2
  cases h1
  cases h2
  exact .int z
theorem zjH {K:PySem.W.Frag}{H:Hp}{a:Addr}{ns:List Int}(hl:ns.length≤63)(hO:zdN H)(hS:SqL K H a (ns.map V.int)):upF K zcR [.ref a] H (fun v _=>v=.bl true) fun _ _ _=>False:=by
 refine⟨fun _ _=>False,[a],[.frz (ns.map D.int)],[.ref 0],fun d _=>d=.bl true,⟨⟨rfl,fun n b o h1 h2=>?_,fun n m b xs ys h1 h2 h3 h4 o1 o2=>?_⟩,fun _ _ _ _ _ _ _ _ _ z=>z.elim⟩,Rps.cons (.ref rfl) Rps.nil,⟨ns,rfl,rfl,hl,fun _=>rfl⟩,fun v H' r' d S' e rel p q=>?_⟩
 ·cases n with
  | zero=>
   simp at h1 h2
   subst h1; subst h2
   exact⟨_,zit hO hS,zj2 ns⟩
  | succ n=>simp at h1
 ·cases n with
  | zero=>
   simp at h3
   subst h3
   cases o1
  | succ n=>simp at h1
 ·subst q
  cases p
  rfl
theorem zhy {l:PySem.W.OpenLaw}{q:Program}{loose:List Str}{XP:(Str→Option Value)→Heap→Prop}{YP:World→Heap→Prop}{d:DefRec}{K:Params→PySem.W.Frag}{x:Str}(k:Nat)(hn:l.most=some 63)(hdf:d.params.defaults=[])(hr:zaw k callerA)
  (hY:∀(w:World) (h:Heap),YP w h→(K w.params).In h)
  (F:∀(w:World) (mg:Str→Option Value) (fa:Addr) (h:Heap),(K w.params).In h→h.Ns mainGlobals mg→mg d.name=some (.ref fa)→
   ∃fd:FuncData,(∀(s:Shared) (u:Value),BindsTo s fd ⟨[u],[]⟩ [(x,u)])∧∀base:Heap,(K w.params).In base→base.Ns mainGlobals mg→zaX l.prog w (K w.params) mg base (CXE l.prog w) k fa fd [x] (upF (K w.params) zcR)):
  PySem.W.WalkO q loose XP YP l.row.toRowW d [] (fun f vs=>PySem.call f vs):=
 L2.zie (n:=63) (k:=k) (x:=x) (CX:=fun w=>CXE l.prog w) (sp:=fun w=>upF (K w.params) zcR) hn (by decide) hdf hr hY F (fun _ _ a ns hl hO hS=>zjH hl hO hS) fun _ _ _ _ _ ⟨_,_,_,_,_,_,_,_,_,_,_,_,z⟩=>z
end L3
namespace L3
open PySem PySem.Spec PyProof.Rows L2
theorem zg6 (K:PySem.W.Frag)(T:String)(h:T∈["int","bool","tuple","str"]):Kit K T:=by
 intro t ht
 simp only[List.mem_cons,List.not_mem_nil,or_false] at h ht
 rcases h with rfl | rfl | rfl | rfl <;> rcases ht with rfl | rfl | rfl | rfl | rfl <;> kernel_rfl
end L3

namespace L3
open PySem PySem.Spec PyProof.Rows L2
theorem ifP {c A B:Prop} [Decidable c] (h:c)(a:A):if c then A else B:=by rw[if_pos h]; exact a
theorem ifD {c:Prop} [Decidable c] {A B:Prop}(h1:c→A)(h2:¬ c→B):if decide c=true then A else B:=by
 by_cases h:c
 ·rw[decide_eq_true h]; exact za4 (h1 h)
 ·rw[decide_eq_false h]; exact zai (h2 h)
end L3
namespace L3
open PySem L2
end L3
namespace L3
open PySem L2
end L3
namespace L3
end L3

namespace L3
open PySem PySem.Spec PyProof.Rows L2
section
variable {X:Cx}{Z:Zx}
abbrev Cx.held (X:Cx)(pins:List (Addr×Obj))(E:Value→Shared→Prop):Cx:={ X with pn:=X.pn++pins,xe:=E }
end
end L3
namespace L3
open PySem PySem.Spec PyProof.Rows L2
structure zcG (k:Nat)(A:Around):Prop where
 dp:A.depth + 3 * k + 5 < recursionLimit
 un:A.units + 16 * k + 200 < cLine
theorem zcG.mono {j k:Nat}{A:Around}(r:zcG k A)(h:j≤k):zcG j A:=⟨by have:=r.dp; omega,by have:=r.un; omega⟩
theorem zcG.deeper {k:Nat}{A:Around}(r:zcG (k + 1) A)(env:Env):zcG k (A.deeper env):=
 ⟨by have:=r.dp; show A.depth + 1 + 3 * k + 5 < _; omega,by have:=r.un; show A.units + 3 + 16 * k + 200 < _; omega⟩
structure FnOkN (P:Program)(w:World)(K:PySem.W.Frag)(mg:Str→Option Value)(base:Heap)(k:Nat)(f:Addr)(fd:FuncData)(ps:List Str)(sp:Sp):Prop where
 len:∀vs H Q E,sp vs H Q E→vs.length=ps.length
 run:∀(A:Around) (outer:List Env) (s:Shared) (H:Hp) (args:Args) (us:List Value) (vs:List V) (Q:VK) (E:XK),zcG k A→zcv P w K mg base A outer s H→BindsTo s fd args (ps.zip us)→zad vs us→sp vs H Q E→
  codeAny (model P w) A (.call (.ref f) args) (CR (CXE P w) outer P w H s Q E) s
section
variable {X:Cx}{k:Nat}{f:Addr}{fd:FuncData}{ps:List Str}{sp:Sp}{W:St→XK}{x:Str}{p pos:Pos}{e:Expr}{es:List Expr}{t:TA}
end
section
variable {X:Cx}{Z:Zx}{x:Str}{p pos:Pos}{e:Expr}{es:List Expr}{t:TDA}
end
section
variable {P:Program}{w:World}{K:PySem.W.Frag}{mg:Str→Option Value}{base:Heap}
end
structure FkN (P:Program)(w:World)(K:PySem.W.Frag)(mg:Str→Option Value)(base:Heap)(k:Nat)(x:Str)(ps:List Str)(sd:Sd) where
 f:Addr
 fd:FuncData
 ok:FnOkN P w K mg base k f fd ps (upF K sd)
 m:mg x=some (.ref f)
 kp:PySem.W.keepIn K (.ref f)=true
 b:zbS K fd ps []
end L3

namespace L3
open PySem PySem.Spec PyProof.Rows L2
section
variable {X:Cx}{Z:Zx}
theorem zg4 {r:List Addr}{H:Hp}{a:Addr}{o:HO}(h:H a=none):Ext r r H (upd H a o):=⟨fun _ _ q=>q,fun _ _ q=>zbG h _ _ q,fun _ _ q=>zbG h _ _ q⟩
open PySem.W in
end
end L3

namespace L3
open PySem PySem.Spec PyProof.Rows L2
abbrev VE:List Value:=[.type "ValueError",.type "Exception",.type "BaseException",.type "object"]
structure Ec (K:PySem.W.Frag)(mg:Str→Option Value)(x:Str) where
 c:Addr
 xc:Xc K mg x c VE "ValueError.__new__"
end L3

namespace L3
open PySem PySem.Spec PyProof.Rows L2
end L3

namespace L3
open PySem PySem.Spec PyProof.Rows L2
inductive Sco (n:Nat):D→Prop
 | non:Sco n .non
 | bl (b:Bool):Sco n (.bl b)
 | int (i:Int):Sco n (.int i)
 | str (x:Str):Sco n (.str x)
 | tup {ds:List D}:(∀d∈ds,Sco n d)→Sco n (.tup ds)
 | ref {m:Nat}:m < n→Sco n (.ref m)
 | exc (c:Addr):Sco n (.exc c)
theorem Rp.sco {r:List Addr}{H:Hp}{d:D}{v:V}(h:Rp r H d v):Sco r.length d:=by
 induction h with
 | non=>exact .non
 | bl b=>exact .bl b
 | int i=>exact .int i
 | str x=>exact .str x
 | @tup ds xs a _ l _ ih=>
  refine .tup fun d hd=>?_
  obtain⟨i,hi,e⟩:=List.mem_iff_getElem.mp hd
  exact ih i d xs[i] (by simp[hi,e]) (by simp[l ▸ hi])
 | ref h=>exact .ref (List.getElem?_eq_some_iff.mp h).1
 | exc _=>exact .exc _
theorem Rp.low {r r':List Addr}{H:Hp}{d:D}{v:V}(h:Rp r' H d v)(low:∀m a,m < r.length→r'[m]?=some a→r[m]?=some a)(s:Sco r.length d):Rp r H d v:=by
 induction h with
 | non=>exact .non
 | bl b=>exact .bl b
 | int i=>exact .int i
 | str x=>exact .str x
 | tup e l f ih=>
  cases s with
  | tup s=>exact .tup e l fun i d v h1 h2=>ih i d v h1 h2 (s d (List.mem_of_getElem? h1))
 | ref h=>
  cases s with
  | ref s=>exact .ref (low _ _ s h)
 | exc h=>exact .exc h
def Pre (S S':Sto):Prop:=∀(n:Nat) (o:Ob),S[n]?=some o→S'[n]?=some o
theorem Pre.refl {S:Sto}:Pre S S:=fun _ _ h=>h
theorem Pre.push {S S':Sto}{o:Ob}(h:Pre S S'):Pre S (S'++[o]):=fun n u e=>by
 have z:=h n u e
 rw[List.getElem?_append_left (List.getElem?_eq_some_iff.mp z).1]; exact z
theorem Pre.trans {S S' S2:Sto}(h:Pre S S')(k:Pre S' S2):Pre S S2:=fun n o e=>k n o (h n o e)
theorem ziY {r r':List Addr}{H H':Hp}(e:Ext r r' H H'):∀m a,m < r.length→r'[m]?=some a→r[m]?=some a:=fun m a hm h=>by
 have z:r[m]?=some r[m]:=by simp[hm]
 rw[e.adr _ _ z] at h
 rw[z]; exact h
theorem zav.low {K:PySem.W.Frag}{r r':List Addr}{S S':Sto}{H H':Hp}(h:zav K r S H)(e:Ext r r' H H')(h':zav K r' S' H')(p:Pre S S'):zav K r S H':=by
 have rl:∀ {ds:List D} {xs ys:List V},Rps r H ds xs→Rps r' H' ds ys→Rps r H' ds ys:=fun {ds xs ys} a b=>⟨b.1,fun i d v h1 h2=>by
  obtain⟨v0,_,q⟩:=a.get h1
  exact(b.2 i d v h1 h2).low (ziY e) q.sco⟩
 refine⟨h.len,fun n a o h1 h2=>?_,fun n m a xs ys h1 h2 h3 h4 o1 o2=>h'.nd n m a xs ys (e.adr _ _ h1) (e.adr _ _ h2) (p _ _ h3) (p _ _ h4) o1 o2⟩
 have q:=h.ob n a o h1 h2
 have q':=h'.ob n a o (e.adr _ _ h1) (p _ _ h2)
 cases o with
 | lst ds=>
  obtain⟨xs,_,a1⟩:=q
  obtain⟨ys,b0,b1⟩:=q'
  exact⟨ys,b0,rl a1 b1⟩
 | frz ds=>
  obtain⟨xs,_,a1⟩:=q
  obtain⟨ys,b0,b1⟩:=q'
  exact⟨ys,b0,rl a1 b1⟩
 | ins C fs=>
  obtain⟨_,_,_,a1⟩:=q
  obtain⟨dx,fs',b0,b1⟩:=q'
  exact⟨dx,fs',b0,b1.1,rl a1.2 b1.2⟩
 | dct kvs=>
  obtain⟨_,_,a1⟩:=q
  obtain⟨ks,b0,b1⟩:=q'
  exact⟨ks,b0,b1.1,rl a1.2 b1.2⟩
section
variable {P:Program}{w:World}{K:PySem.W.Frag}{mg:Str→Option Value}{base:Heap}
end
end L3

namespace L3
open PySem PySem.Spec PyProof.Rows L2
structure zci (sc around:Scope)(x:Str)(caps:List Str):Prop where
 kind:sc.kind=.function
 nocell:∀y∈sc.names,y.2≠.cell
 own:∀y∈sc.names,y.2=.local→sc.names.lookup y.1=some .local
 loc:sc.names.lookup x=some .local
 cap:∀y∈caps,sc.names.lookup y=some .free
 out:∀y∈sc.names,y.2=.free→around.names.lookup y.1=some .cell
theorem zcz {α:Type}{y:Str}{v:α}:∀ {l:List (Str×α)},l.lookup y=some v→(y,v)∈l
 | [],h=>by simp at h
 | (n,k)::r,h=>by
  cases e:y == n with
  | true=>
   rw[List.lookup_cons,e] at h
   have z:k=v:=Option.some.inj h
   have z2:y=n:=by simpa using e
   rw[z,z2]; exact List.mem_cons_self
  | false=>
   rw[List.lookup_cons,e] at h
   exact List.mem_cons_of_mem _ (zcz h)
theorem zeV {env:Env}:∀(l:List (Str×NameKind)) (acc:List (Str×Addr)),(∀y∈l,y.2=.free→∃c,env.cells.lookup y.1=some c)→(∀x c,acc.lookup x=some c→env.cells.lookup x=some c)→
  ∃cl,(forIn l acc fun x r=>(if (x.2 == NameKind.free)=true then do let a ← cellOf env x.1; pure (ForInStep.yield ((x.1,a)::r)) else pure (ForInStep.yield r):Sem (ForInStep (List (Str×Addr)))))=pure cl∧
   (∀x c,cl.lookup x=some c→env.cells.lookup x=some c)∧(∀y∈l,y.2=.free→cl.lookup y.1=env.cells.lookup y.1)∧∀x c,acc.lookup x=some c→∃c',cl.lookup x=some c'
 | [],acc,_,ha=>⟨acc,by simp,ha,fun y hy=>(by cases hy),fun x c e=>⟨c,e⟩⟩
 | (n,k)::r,acc,h,ha=>by
  cases hk:(k == NameKind.free) with
  | false=>
   obtain⟨cl,h1,h2,h3,h4⟩:=zeV r acc (fun y hy=>h y (List.mem_cons_of_mem _ hy)) ha
   refine⟨cl,?_,h2,fun y hy hf=>?_,h4⟩
   ·rw[List.forIn_cons]; simp[hk]; simpa using h1
   ·have hy':=List.mem_cons.mp hy
    rcases hy' with rfl | hy
    ·rw[show k=NameKind.free from hf] at hk; exact absurd hk (by decide)
    ·exact h3 y hy hf
  | true=>
   have hf:k=NameKind.free:=by simpa using hk
   obtain⟨c,hc⟩:=h (n,k) List.mem_cons_self hf
   obtain⟨cl,h1,h2,h3,h4⟩:=zeV r ((n,c)::acc) (fun y hy=>h y (List.mem_cons_of_mem _ hy)) (fun x c' e=>by
    cases q:x == n with
    | true=>
     rw[List.lookup_cons,q] at e
     have z:x=n:=by simpa using q
     rw[z,hc]; exact e
    | false=>
     rw[List.lookup_cons,q] at e
     exact ha x c' e)
   refine⟨cl,?_,h2,fun y hy hf=>?_,fun x c' e=>?_⟩
   ·have ec:cellOf env n=pure c:=by unfold cellOf; rw[hc]
    rw[List.forIn_cons]; simp[hk,ec]; simpa using h1
   ·have hy':=List.mem_cons.mp hy
    rcases hy' with rfl | hy
    ·obtain⟨c',e⟩:=h4 n c (by simp)
     rw[e]; exact(h2 _ _ e).symm
    ·exact h3 y hy hf
   ·refine h4 x (if x == n then c else c') ?_
    cases q:x == n with
    | true=>simp[List.lookup_cons,q]
    | false=>simp[List.lookup_cons,q,e]
theorem ze8 {sc:Scope}{env:Env}(h:∀y∈sc.names,y.2=.free→∃c,env.cells.lookup y.1=some c):
  ∃cl,closureFor sc env=pure cl∧(∀x c,cl.lookup x=some c→env.cells.lookup x=some c)∧∀y∈sc.names,y.2=.free→cl.lookup y.1=env.cells.lookup y.1:=by
 obtain⟨cl,h1,h2,h3,_⟩:=zeV sc.names [] h (fun x c e=>by simp at e)
 refine⟨cl,?_,h2,h3⟩
 unfold closureFor
 simp only[bind_pure]
 exact h1
theorem zem {env:Env}:∀ {names:List (Str×NameKind)} {x:Str},names.lookup x=some .free→
  (names.map fun (n,k)=>if (k == NameKind.free && env.scope.kind == .function && env.kindOf n == some .cell) then (n,NameKind.cell) else (n,k)).lookup x=some .cell∨
  (names.map fun (n,k)=>if (k == NameKind.free && env.scope.kind == .function && env.kindOf n == some .cell) then (n,NameKind.cell) else (n,k)).lookup x=some .free
 | [],_,h=>by simp at h
 | (n,k)::r,x,h=>by
  have ih:=@zem env r x
  rw[List.map_cons]
  cases hx:x == n with
  | true=>
   rw[List.lookup_cons,hx] at h
   have hk:k=.free:=Option.some.inj h
   subst hk
   dsimp only
   split
   ·left; simp[List.lookup_cons,hx]
   ·right; simp[List.lookup_cons,hx]
  | false=>
   rw[List.lookup_cons,hx] at h
   dsimp only
   split
   ·simp only[List.lookup_cons,hx]; exact ih h
   ·simp only[List.lookup_cons,hx]; exact ih h
theorem zff {env:Env}:∀ {names:List (Str×NameKind)} {x:Str},(∀y∈names,y.2≠.cell)→
  ((names.map fun (n,k)=>if (k == NameKind.free && env.scope.kind == .function && env.kindOf n == some .cell) then (n,NameKind.cell) else (n,k)).lookup x=some .cell∨
  (names.map fun (n,k)=>if (k == NameKind.free && env.scope.kind == .function && env.kindOf n == some .cell) then (n,NameKind.cell) else (n,k)).lookup x=some .free)→names.lookup x=some .free
 | [],_,_,h=>by simp at h
 | (n,k)::r,x,hc,h=>by
  have ih:=@zff env r x fun y hy=>hc y (List.mem_cons_of_mem _ hy)
  rw[List.map_cons] at h
  cases hx:x == n with
  | true=>
   rw[List.lookup_cons,hx]
   dsimp only at h
   split at h
   ·rename_i q
    simp only[Bool.and_eq_true] at q
    have hk:k=.free:=by simpa using q.1.1
    rw[hk]
   ·simp only[List.lookup_cons,hx] at h
    rcases h with h | h
    ·exact absurd (Option.some.inj h) (hc (n,k) List.mem_cons_self)
    ·exact h
  | false=>
   rw[List.lookup_cons,hx]
   dsimp only at h
   split at h
   ·simp only[List.lookup_cons,hx] at h; exact ih h
   ·simp only[List.lookup_cons,hx] at h; exact ih h
abbrev Cx.comp (X:Cx)(sc:Scope)(N:List Str)(cl:List (Str×Addr))(C:Addr)(s0:Shared)(H0:Hp)(fp:List Addr)(pn:List (Addr×Obj)):Cx:=
 { X with N:=N,env:=compEnvC sc cl C X.env,s₀:=s0,H₀:=H0,outer:=X.stack,stack:=X.stack,ex:=fp,fn:=fun _=>false,pn:=pn,xe:=fun _ _=>False }
def zau (caps:List Nat)(σ:St):St:=caps.map fun j=>(σ[j]?).join
def zbh (caps:List Nat)(dl:Ev):Ev:=caps.map fun j=>(dl[j]?).join
def zc0 (caps:List Nat)(wi:TI)(tc:TT)(te:TE):TE:=fun σ H Q=>wi σ H fun J H1=>∀D,H1 D=none→∃W:Nat→Nat→Hp→Prop,(∃m,W 0 m (upd H1 D (.lst [])))∧∀i m H,W i m H→
 (J.stop i H∧Q (.ref D) H)∨(J.go i H∧∀x H',J.yld i H x H'→tc (some x::zau caps σ) H' fun b H2=>if b=true then te (some x::zau caps σ) H2 fun y H3=>∃ys,H3 D=some (.lst ys)∧ys.length < sizeLine∧∃m',m' < m∧W (i + 1) m' (upd H3 D (.lst (ys++[y])))
  else ∃m',m' < m∧W (i + 1) m' H2)
def PTs (Y:Cx)(ifs:List Expr)(tc:TT):Prop:=∀(pins:List (Addr×Obj)) (s:Shared) (σ:St) (H:Hp) (Q:Bool→Hp→Prop),Inv Y pins σ H s→tc σ H Q→
 wpAny (model Y.prog Y.w) Y.A (forIn ifs true fun c r=>if r=true then do let ok ← isTrue c Y.env (eval c Y.env); pure (ForInStep.yield ok) else pure (ForInStep.yield r)) (TP Y pins σ Q) Y.xe s
theorem ziU {Y:Cx}:PTs Y [] (fun _ H Q=>Q true H):=fun _ _ _ H _ I h=>wpAny_tests_nil ⟨H,I,h⟩
theorem ziV {Y:Cx}{c:Expr}{tc:TT}(h:PT Y c tc):PTs Y [c] tc:=fun pins s σ H Q I q=>wpAny_tests_one (h pins s σ H Q I q)
section
variable {X:Cx}{pins:List (Addr×Obj)}{σ:St}{H:Hp}{s:Shared}
theorem zj0 {sc:Scope}{x:Str}{N:List Str}{caps:List Nat}{cl:List (Str×Addr)}{fp:List Addr}{h1:Heap}{m:Str→Option Value}{tk:Nat}(I:Inv X pins σ H s)(cs:zci sc X.env.scope x N)
  (hN:∀(j:Nat) (y:Str),N[j]?=some y→∃i,caps[j]?=some i∧X.N[i]?=some y)(hlen:caps.length=N.length)
  (c1:∀x c,cl.lookup x=some c→X.env.cells.lookup x=some c)(c2:∀y∈sc.names,y.2=.free→cl.lookup y.1=X.env.cells.lookup y.1)
  (hf:∀b∈fp,za3 X pins H b)(hfo:∀b∈fp,b < s.heap.objs.size)(hns:h1.Ns s.heap.objs.size m)(hk:∀b o,s.heap.get? b=some o→h1.get? b=some o):
  Inv (Cx.comp X sc (x::N) cl s.heap.objs.size s H fp (X.pn++pins)) [] (none::zau caps σ) H { s with heap:=h1,toks:=tk }:=by
 have stk:∀b∈frs X.stack,b=X.env.locals∨b∈X.fs:=fun b hb=>List.mem_cons.mp (I.stkSub b hb)
 refine⟨⟨I.ok.mod,cs.kind,I.ok.glob,I.ok.blt,Nat.le_refl _,fun a b c h1 h2=>I.ok.inj a b c (c1 _ _ h1) (c1 _ _ h2),fun y hy=>?_,fun _ _ z=>Bool.noConfusion z,I.ok.hd,I.ok.frames,.inl rfl,fun b hb=>⟨Nat.ne_of_lt (hfo b hb),fun y c e=>(hf b hb).2.2.2.2.1 y c (c1 _ _ e)⟩,
  I.bs,Nat.le_trans I.ok.bsz I.sz,fun b o e hb=>?_,fun b hb z=>?_,I.stack,I.stkFree⟩,rfl,I.bare,Un.kept hk,⟨m,hns,fun i y v e1 e2 e3=>?_⟩,fun y c e=>?_,I.hok.fresh (Nat.le_refl _),fun y c e=>I.freeC y c (c1 _ _ e),fun p hp=>?_,I.hok.kept hk,?_⟩
 ·have hfr:sc.names.lookup y=some .free:=zff cs.nocell hy
  have hm:=zcz hfr
  obtain⟨c,e⟩:=I.ok.has y (.inl (cs.out _ hm rfl))
  exact⟨c,(c2 _ hm rfl).trans e⟩
 ·rcases (hf b hb).2.2.2.1 with z | z
  ·exact I.ok.noex b o e z
  ·exact absurd (Nat.lt_of_lt_of_le (Heap.lt_size (I.ok.bs b o e).1) z) (Nat.lt_irrefl _)
 ·rcases stk b z with z | z
  ·exact(hf b hb).2.1 z
  ·exact(hf b hb).2.2.1 z
 ·cases i with
  | zero=>simp at e2
  | succ i=>
   have e1':N[i]?=some y:=by simpa using e1
   obtain⟨j,hj,hy⟩:=hN i y e1'
   have e2':σ[j]?=some (some v):=by
    simp only[List.getElem?_cons_succ,zau,List.getElem?_map,hj,Option.map_some,Option.some.injEq] at e2
    cases q:σ[j]? with
    | none=>rw[q] at e2; cases e2
    | some o=>rw[q] at e2; simp at e2; rw[e2]
   have hfr:sc.names.lookup y=some .free:=cs.cap y (List.mem_of_getElem? e1')
   have hm:=zcz hfr
   have hce:X.env.scope.names.lookup y=some .cell:=cs.out _ hm rfl
   obtain⟨m0,_,hl⟩:=I.loc
   obtain⟨u,r,l⟩:=hl j y v hy e2' (.inr (.inl hce))
   refine⟨u,r,.inr ⟨zem hfr,?_⟩⟩
   rcases l with ⟨k,_⟩ | ⟨_,c,ec,hcell⟩
   ·rw[show X.env.kindOf y=some .cell from hce] at k; cases k
   ·exact⟨c,(c2 _ hm rfl).trans ec,hcell.keeps hk⟩
 ·obtain⟨v,z⟩:=I.cell y c (c1 _ _ e)
  exact⟨v,z.keeps hk⟩
 ·have hp':p∈X.pn++pins:=by simpa using hp
  obtain⟨p1,p2,p3,p4,p5⟩:=I.pin p hp'
  refine⟨hk _ _ p1,p2,Nat.ne_of_lt (Heap.lt_size p1),fun z=>?_,p5⟩
  rcases stk _ z with z | z
  ·exact p3 z
  ·exact p4 z
 ·simp[zau,hlen]
end
section
variable {X:Cx}{elt iter:Expr}{x:Str}{px pos:Pos}{ifs:List Expr}{sc:Scope}{N:List Str}{caps:List Nat}{wi:TI}{tc:TT}{te:TE}
structure ze2 (X:Cx)(pins:List (Addr×Obj))(σ:St)(C:Addr)(Q:VK)(D:Addr)(s':Shared):Prop where
 q:∃H',Inv X pins σ H' s'∧Q (.ref D) H'∧H' C=none
 ns:∃m,s'.heap.Ns C m
 loc:C≠X.env.locals
 old:X.s₀.heap.objs.size≤C
 cell:∀x c,X.env.cells.lookup x=some c→c≠C
 pin:∀p∈X.pn++pins,p.1≠C
theorem zgR {use:Option (Value→Sem Unit)}{Qr:Value→Shared→Prop}(hc:X.calm=true)(cs:zci sc X.env.scope x N)(hN:∀(j:Nat) (y:Str),N[j]?=some y→∃i,caps[j]?=some i∧X.N[i]?=some y)(hlen:caps.length=N.length)(hnd:(x::N).Nodup)
  (hi:PI X (.Name x px) iter wi)(ht:∀cl C s0 H0 fp pn,PTs (Cx.comp X sc (x::N) cl C s0 H0 fp pn) ifs tc)(he:∀cl C s0 H0 fp pn,PE (Cx.comp X sc (x::N) cl C s0 H0 fp pn) elt te)
  (hs:∀y,foldedSetIterable iter X.env y=pure y)
  {pins:List (Addr×Obj)}{s:Shared}{σ:St}{H:Hp}{Q:VK}{p2:Pos}(I:Inv X pins σ H s)(h:zc0 caps wi tc te σ H Q)
  (fin:∀D C s',ze2 X pins σ C Q D s'→compPost (model X.prog X.w) X.A X.xe use Qr (.ref D) C (.ok .next) s'):
  wpAny (model X.prog X.w) X.A (comprehension (.ListComp elt [⟨.Name x px,iter,ifs,0⟩] sc pos) sc X.env p2 (newList []) false (eval iter X.env) use) Qr X.xe s:=by
 obtain⟨cl,k1,k2,k3⟩:=ze8 (sc:=sc) (env:=X.env) fun y hy hf=>I.ok.has y.1 (.inl (cs.out y hy hf))
 refine wpAny_comprehension_free rfl hs k1 cs.kind cs.own (thn (hi pins s σ H _ I h) fun v s1 h1=>thn h1 fun itv s2 h2=>?_)
 obtain⟨it,fp,tn,J,H2,e,I2,T,st2,f2,body⟩:=h2
 subst e
 have hfo:∀b∈fp,b < s2.heap.objs.size:=fun b hb=>by
  obtain⟨o,e,_⟩:=T.obj _ _ st2 b hb
  exact Heap.lt_size e
 have hD:H2 s2.heap.objs.size=none:=I2.hok.fresh (Nat.le_refl _)
 obtain⟨W,⟨m0,w0⟩,turn⟩:=body _ hD
 refine wpAny_newObj_type ?_
 have I3:Inv X pins σ (upd H2 s2.heap.objs.size (.lst [])) { s2 with heap:=s2.heap.push { cls:=.type "list",dict:=none,data:=.seq ([]:List Value).toArray },toks:=s2.toks }:=
  I2.laid (t':=s2.toks) (fun b u e=>Heap.get?_push_of_some _ e) (Nat.le_refl _) ⟨Nat.zero_le _,[],0,.nil,Heap.get?_push_size _ rfl⟩
 generalize hs3:({ s2 with heap:=s2.heap.push { cls:=.type "list",dict:=none,data:=.seq ([]:List Value).toArray },toks:=s2.toks }:Shared)=s3 at I3
 have es3:({ s2 with heap:=s2.heap.push { cls:=.type "list",dict:=none,data:=.seq ([]:List Value).toArray } }:Shared)=s3:=hs3
 try rw[es3]
 have f3:∀b∈fp,za3 X pins (upd H2 s2.heap.objs.size (.lst [])) b:=fun b hb=>⟨by rw[zaH (Nat.ne_of_lt (hfo b hb))]; exact(f2 b hb).1,(f2 b hb).2⟩
 have up3:∀b o,s2.heap.get? b=some o→s3.heap.get? b=some o:=fun b o e=>by rw[← hs3]; exact Heap.get?_push_of_some _ e
 have st3:tn 0 s3.heap:=T.keep _ _ _ st2 fun b _ o e=>up3 b o e
 have hfo3:∀b∈fp,b < s3.heap.objs.size:=fun b hb=>by
  obtain⟨o,e,_⟩:=T.obj _ _ st3 b hb
  exact Heap.lt_size e
 refine wpAny_newFunctionEnv cs.nocell (fun y hy=>by simp at hy) (fun h4 ns4 sb4=>?_) cs.kind
 have hk4:∀b o,s3.heap.get? b=some o→h4.get? b=some o:=fun b o e=>(sb4.2 b (Nat.ne_of_lt (Heap.lt_size e))).trans (Heap.get?_push_of_some _ e)
 have I4:=zj0 (tk:=s3.toks + ([]:List (Str×Value)).length) I3 cs hN hlen k2 k3 f3 hfo3 ns4 hk4
 generalize hs4:({ s3 with heap:=h4,toks:=s3.toks + ([]:List (Str×Value)).length }:Shared)=s4 at I4 ⊢
 have eh4:s4.heap=h4:=by rw[← hs4]
 have st4:tn 0 s4.heap:=by rw[eh4]; exact T.keep _ _ _ st3 fun b _ o e=>hk4 b o e
 have fY:∀ {H':Hp},(∀b∈fp,H' b=none)→∀b∈fp,za3 (Cx.comp X sc (x::N) cl s3.heap.objs.size s3 (upd H2 s2.heap.objs.size (.lst [])) fp (X.pn++pins)) [] H' b:=fun hn b hb=>by
  obtain⟨_,z2,z3,z4,z5,z6⟩:=f3 b hb
  refine⟨hn b hb,Nat.ne_of_lt (hfo3 b hb),fun z=>?_,.inl hb,fun y c e=>z5 y c (k2 _ _ e),fun p hp=>z6 p (by simpa using hp)⟩
  rcases List.mem_cons.mp (I3.stkSub b z) with z | z
  ·exact z2 z
  ·exact z3 z
 have locY:(Cx.comp X sc (x::N) cl s3.heap.objs.size s3 (upd H2 s2.heap.objs.size (.lst [])) fp (X.pn++pins)).env.scope.names.lookup x=some .local:=lookup_relabel_local cs.loc
 have loop:codeAny (model X.prog X.w) X.A (.compLoop (.ListComp elt [⟨.Name x px,iter,ifs,0⟩] sc pos) 0 (.ref it) (.ref s2.heap.objs.size) (compEnvC sc cl s3.heap.objs.size X.env))
   (compPost (model X.prog X.w) X.A X.xe use Qr (.ref s2.heap.objs.size) s3.heap.objs.size) s4:=by
  refine codeAny_compLoop_tests (fun n s'=>∃i o H',Inv (Cx.comp X sc (x::N) cl s3.heap.objs.size s3 (upd H2 s2.heap.objs.size (.lst [])) fp (X.pn++pins)) [] (o::zau caps σ) H' s'∧tn i s'.heap∧(∀b∈fp,H' b=none)∧W i n H') ?_ m0
   ⟨0,none,_,I4,st4,fun b hb=>(f3 b hb).1,w0⟩
  rintro n s5 ⟨i,o,H5,I5,st5,fr5,w5⟩
  rcases turn i n H5 w5 with ⟨stop,q⟩ | ⟨go,step⟩
  ·refine thn (T.done (Cx.comp X sc (x::N) cl s3.heap.objs.size s3 (upd H2 s2.heap.objs.size (.lst [])) fp (X.pn++pins)) rfl rfl rfl hc i [] s5 _ H5 _ I5 (fY fr5) st5 stop) fun r s6 ⟨hr,I6⟩=>?_
   subst hr
   refine fin _ _ _ ⟨⟨H5,I3.call' I6.os I6.base I6.hok I6.bare (fun b hb=>?_),q,I6.free⟩,?_,Nat.ne_of_gt I3.lt,I3.sz,fun y c e z=>?_,fun p hp z=>?_⟩
   ·obtain⟨_,z2,z3,z4,z5,z6⟩:=f3 b hb
    exact⟨z4,z2,z5,z6⟩
   ·obtain⟨m,hm,_⟩:=I6.loc
    exact⟨m,hm⟩
   ·obtain⟨v,hv⟩:=I3.cell y c e
    exact absurd (z ▸ hv.lt) (Nat.lt_irrefl _)
   ·exact absurd (z ▸ Heap.lt_size (I3.pin p hp).1) (Nat.lt_irrefl _)
  ·refine thn (T.item (Cx.comp X sc (x::N) cl s3.heap.objs.size s3 (upd H2 s2.heap.objs.size (.lst [])) fp (X.pn++pins)) rfl rfl rfl hc i [] s5 _ H5 _ I5 (fY fr5) st5 go) fun r s6 ⟨u,hr,h6⟩=>?_
   subst hr
   show wpAny _ _ (letOwnedTupleGo (.Name x px) (.ref it) u >>= fun _=>assign (.Name x px) (compEnvC sc cl s3.heap.objs.size X.env) u) _ _ s6
   refine wpAny_bind (thn h6 fun _ s7 ⟨y,H7,I7,r7,y7,st7,fr7⟩=>?_)
   have I7':=I7.pinned (fY fr7) (T.obj _ _ st7)
   refine wpAny_mono (zdO (X:=Cx.comp X sc (x::N) cl s3.heap.objs.size s3 (upd H2 s2.heap.objs.size (.lst [])) fp (X.pn++pins)) (pos:=px) hnd (i:=0) rfl (.inl locY) (.inr locY) _ s7 _ H7 y u (fun σ8 H8=>σ8=some y::zau caps σ∧H8=H7) I7' r7 ⟨rfl,rfl⟩) (fun _ s8 ⟨σ8,H8,I8,e8,e8'⟩=>?_) fun _ _ z=>z.elim
   subst e8
   subst e8'
   have stay:∀ {H':Hp} {s':Shared},Inv (Cx.comp X sc (x::N) cl s3.heap.objs.size s3 (upd H2 s2.heap.objs.size (.lst [])) fp (X.pn++pins)) ([]++zcO fp s7.heap) (some y::zau caps σ) H' s'→∀m',m' < n→W (i + 1) m' H'→
     ∃m,m < n∧∃i o H',Inv (Cx.comp X sc (x::N) cl s3.heap.objs.size s3 (upd H2 s2.heap.objs.size (.lst [])) fp (X.pn++pins)) [] (o::zau caps σ) H' s'∧tn i s'.heap∧(∀b∈fp,H' b=none)∧W i m H':=fun {H' s'} J m' hm w'=>by
    refine⟨m',hm,i + 1,some y,H',J.unpinned,T.keep _ _ _ st7 fun b hb o e=>(J.pin (b,o) (List.mem_append_right _ (List.mem_append_right _ (zcA hb e)))).1,fun b hb=>?_,w'⟩
    obtain⟨o,e,d⟩:=T.obj _ _ st7 b hb
    exact(J.pin (b,o) (List.mem_append_right _ (List.mem_append_right _ (zcA hb e)))).2.1
   refine wpAny_mono (ht _ _ _ _ _ _ _ s8 _ H8 _ I8 (step y H8 y7)) (fun b s9 ⟨H9,I9,q9⟩=>?_) fun _ _ z=>z.elim
   cases b with
   | false=>
    rw[if_neg Bool.false_ne_true] at q9 ⊢
    obtain⟨m',hm,w9⟩:=q9
    exact stay I9 m' hm w9
   | true=>
    rw[if_pos rfl] at q9 ⊢
    refine wpAny_mono (he _ _ _ _ _ _ _ s9 _ H9 _ I9 q9) (fun u2 s10 ⟨z,H10,I10,r10,q10⟩=>?_) fun _ _ z=>z.elim
    obtain⟨ys,hD10,hlt,m',hm,w10⟩:=q10
    refine wpAny_mono (zet (X:=(Cx.comp X sc (x::N) cl s3.heap.objs.size s3 (upd H2 s2.heap.objs.size (.lst [])) fp (X.pn++pins))) _ s10 _ H10 (.ref s2.heap.objs.size) [z] (.ref s2.heap.objs.size) [u2] (fun _ H'=>H'=upd H10 s2.heap.objs.size (.lst (ys++[z]))) I10 rfl (.cons r10 .nil) ⟨_,ys,z,rfl,rfl,hD10,hlt,rfl⟩) (fun _ s11 ⟨_,H11,I11,_,e11⟩=>?_) fun _ _ z=>z.elim
    subst e11
    exact stay I11 m' hm w10
 exact codeAny_compStart_list loop (T.self _ 0 s4 _ _ st4 loop)
theorem zcy {X:Cx}{caps:List Nat}{N:List Str}(h:caps.map (fun i=>X.N[i]?)=N.map some):(∀(j:Nat) (y:Str),N[j]?=some y→∃i,caps[j]?=some i∧X.N[i]?=some y)∧caps.length=N.length:=by
 refine⟨fun j y e=>?_,by simpa using congrArg List.length h⟩
 have z:(caps.map (fun i=>X.N[i]?))[j]?=some (some y):=by rw[h,List.getElem?_map,e]; rfl
 rw[List.getElem?_map] at z
 cases q:caps[j]? with
 | none=>rw[q] at z; cases z
 | some i=>rw[q] at z; exact⟨i,rfl,by simpa using z⟩
theorem ziL (hc:X.calm=true)(cs:zci sc X.env.scope x N)(hN:caps.map (fun i=>X.N[i]?)=N.map some)(hnd:(x::N).Nodup)
  (hi:PI X (.Name x px) iter wi)(ht:∀cl C s0 H0 fp pn,PTs (Cx.comp X sc (x::N) cl C s0 H0 fp pn) ifs tc)(he:∀cl C s0 H0 fp pn,PE (Cx.comp X sc (x::N) cl C s0 H0 fp pn) elt te)
  (hs:∀y,foldedSetIterable iter X.env y=pure y:=by intro _; rfl):PE X (.ListComp elt [⟨.Name x px,iter,ifs,0⟩] sc pos) (zc0 caps wi tc te):=by
 intro pins s σ H Q I h
 rw[eval_ListComp]
 refine zgR (use:=none) hc cs (zcy hN).1 (zcy hN).2 hnd hi ht he hs I h fun D C s' f=>?_
 obtain⟨⟨H',I',q,hC⟩,⟨m,ns⟩,l,o,c,p⟩:=f
 exact⟨m,ns,fun h' sb=>⟨.ref D,H',I'.turned (t':=s'.toks) (fun b ob hb e=>(sb.2 b hb).trans e) hC l (.inr o) c p,rfl,q⟩⟩
theorem zgQ {i:Nat}{y:Str}{py spos:Pos}(hc:X.calm=true)(cs:zci sc X.env.scope x N)(hN:caps.map (fun i=>X.N[i]?)=N.map some)(hnd:(x::N).Nodup)
  (hi:PI X (.Name x px) iter wi)(ht:∀cl C s0 H0 fp pn,PTs (Cx.comp X sc (x::N) cl C s0 H0 fp pn) ifs tc)(he:∀cl C s0 H0 fp pn,PE (Cx.comp X sc (x::N) cl C s0 H0 fp pn) elt te)
  (hNd:X.N.Nodup)(hy:X.N[i]?=some y)(hl:X.env.scope.names.lookup y=some .local)
  (hsw:swapsWith (.ListComp elt [⟨.Name x px,iter,ifs,0⟩] sc pos) (some (.Name y py)) spos.line X.env=pure true)
  (hs:∀y,foldedSetIterable iter X.env y=pure y:=by intro _; rfl):PS X (.Assign [.Name y py] (.ListComp elt [⟨.Name x px,iter,ifs,0⟩] sc pos) spos) (fun E σ H=>zc0 caps wi tc te σ H fun v H1=>E.nx (σ.set i (some v)) H1):=by
 intro pins s σ H E I h
 rw[exec_Assign_Name_used (hs:=hsw)]
 refine wpAny_bind (wpAny_standAt ?_); refine wpAny_bind ?_; show wpAny _ _ (comprehension _ sc X.env _ (newList []) false (eval iter X.env) (some (assign (.Name y py) X.env)) >>= fun _=>pure ()) _ _ s
 refine wpAny_bind (thn (zgR (use:=some (assign (.Name y py) X.env)) (Qr:=fun _ s'=>SP X pins E .next s') hc cs (zcy hN).1 (zcy hN).2 hnd hi ht he hs I h fun D C s' f=>?_) fun _ s' hq=>wpAny_pure (wpAny_pure hq))
 obtain⟨⟨H',I',q,hC⟩,⟨m,ns⟩,l,o,c,p⟩:=f
 refine wpAny_assign_Name (zfF (v:=.ref D) I' hNd hy (.inl hl) rfl (fun s'' I'' ⟨a,sb,ha⟩=>⟨m,ns.sameBut sb ?_,fun h' sb'=>⟨_,H',I''.turned (t':=s''.toks) (fun b ob hb e=>(sb'.2 b hb).trans e) hC l (.inr o) c p,q⟩⟩) (.inr hl))
 rcases ha with rfl | ha
 ·exact l
 ·exact Ne.symm (c _ _ ha)
end

section
variable {X:Cx}{Z:Zx}{elt iter:Expr}{x:Str}{px pos:Pos}{ifs:List Expr}{sc ar:Scope}{N:List Str}{caps:List Nat}
theorem zgz {r:List Addr}{H:Hp}{dl:Ev}{σ:St}{d:D}{v:V}(h:Rs r H dl σ)(p:Rp r H d v):Rs r H (some d::zbh caps dl) (some v::zau caps σ):=by
 refine⟨by simp[zbh,zau],fun i e hi=>?_⟩
 cases i with
 | zero=>simp at hi; subst hi; exact⟨v,rfl,p⟩
 | succ i=>
  simp only[List.getElem?_cons_succ,zbh,List.getElem?_map] at hi
  cases q:caps[i]? with
  | none=>rw[q] at hi; cases hi
  | some j=>
   rw[q] at hi
   simp only[Option.map_some,Option.some.injEq] at hi
   have hj:dl[j]?=some (some e):=by
    cases q2:dl[j]? with
    | none=>rw[q2] at hi; cases hi
    | some o=>rw[q2] at hi; simp at hi; rw[hi]
   obtain⟨w,h1,h2⟩:=h.2 j e hj
   refine⟨w,?_,h2⟩
   simp only[List.getElem?_cons_succ,zau,List.getElem?_map,q,Option.map_some,h1,Option.join_some]
def zcJ (Y:Cx)(ifs:List Expr)(t:TDT):Prop:=PTs Y ifs (upT Y.K Z0 t)
def zca:TDT:=fun _ S Q=>Q true S
theorem zb5 {Y:Cx}:zcJ Y [] zca:=fun pins s σ H Qb I ⟨r,dl,S,Q,rs,rel,q,ret⟩=>ziU pins s σ H Qb I (ret true H r S Ext.refl rel q)
theorem zi7 {Y:Cx}{c:Expr}{t:TDT}(h:PDT Y Z0 c t):zcJ Y [c] t:=ziV h
def zcM (caps:List Nat)(tc:TDT)(te:TDE)(k:Nat)(dl:Ev)(d:D)(S:Sto)(nx:Sto→Prop):Prop:=
 tc (some d::zbh caps dl) S fun b S1=>if b=true then te (some d::zbh caps dl) S1 fun y S2=>match S2[k]? with
  | some (.lst ys)=>ys.length < 1000∧nx (S2.set k (.lst (ys++[y])))
  | _=>False
 else nx S1
@[irreducible] def zcq (caps:List Nat)(tl:TDE)(tc:TDT)(te:TDE):TDE:=fun dl S Q=>tl dl S fun d S1=>match d with
 | .ref n=>(lAt S1 n).isSome=true∧∃W:Nat→Nat→Sto→Prop,(∃m,W 0 m (S1++[.lst []]))∧∀k m S2,W k m S2→match lAt S2 n with
  | some o=>match (zae o)[k]? with
   | some y=>zcM caps tc te S1.length dl y S2 fun S3=>∃m',m' < m∧W (k + 1) m' S3
   | none=>Q (.ref S1.length) S2
  | none=>False
 | _=>False
@[irreducible] def zcn (caps:List Nat)(ta:TDA)(tc:TDT)(te:TDE):TDE:=fun dl S Q=>ta dl S fun ds S1=>match ds with
 | [.int j]=>(-(2 ^ 62)≤j∧j < 2 ^ 62)∧∃W:Nat→Sto→Prop,W 0 (S1++[.lst []])∧∀k S2,W k S2→
   if k < j.toNat then zcM caps tc te S1.length dl (.int k) S2 fun S3=>W (k + 1) S3 else Q (.ref S1.length) S2
 | _=>False
theorem zgB {tc:TDT}{te:TDE}{r2:List Addr}{H2:Hp}{S1 S2:Sto}{dl:Ev}{σ:St}{D0:Addr}{d:D}{v:V}{nx:Sto→Prop}{Nx:Hp→Prop}(rs:Rs r2 H2 dl σ)(ha:r2[S1.length]?=some D0)(rb:zav X.K r2 S2 H2)(p:Rp r2 H2 d v)
  (h:zcM caps tc te S1.length dl d S2 nx)(hn:∀r' S' H',Ext r2 r' H2 H'→zav X.K r' S' H'→nx S'→Nx H'):
  upT X.K Z0 tc (some v::zau caps σ) H2 fun b H3=>if b=true then up X.K Z0 te (some v::zau caps σ) H3 fun y H4=>∃ys,H4 D0=some (.lst ys)∧ys.length < sizeLine∧Nx (upd H4 D0 (.lst (ys++[y]))) else Nx H3:=by
 have rsY:Rs r2 H2 (some d::zbh caps dl) (some v::zau caps σ):=zgz rs p
 refine⟨r2,_,S2,_,rsY,⟨rb,fun _ _ _ _ _ _ _ _ _ z=>z.elim⟩,h,fun b H3 r3 S3 x3 rel3 q3=>?_⟩
 cases b with
 | false=>rw[if_neg Bool.false_ne_true] at q3 ⊢; exact hn r3 S3 H3 x3 rel3.b q3
 | true=>
  rw[if_pos rfl] at q3 ⊢
  refine⟨r3,_,S3,_,rsY.ext x3,rel3,q3,fun z H4 r4 dz S4 x4 rel4 p4 q4=>?_⟩
  split at q4
  ·rename_i ys eys
   obtain⟨hl,q4⟩:=q4
   have ha4:r4[S1.length]?=some D0:=x4.adr _ _ (x3.adr _ _ ha)
   obtain⟨zs,hD4,pz⟩:=rel4.b.ob _ _ _ ha4 eys
   obtain⟨rel5,x5⟩:=rel4.b.set ha4 eys (pz.snoc p4)
   exact⟨zs,hD4,by rw[← pz.1]; exact zdS (Nat.le_of_lt hl),hn r4 _ _ (x3.trans (x4.trans x5)) rel5 q4⟩
  ·exact q4.elim
theorem ze1 {r:List Addr}{D0:Addr}{n:Nat}(h:r.length=n):(r++[D0])[n]?=some D0:=by subst h; simp
theorem zfT {tl:TDE}{tc:TDT}{te:TDE}{σ:St}{H:Hp}{Qv:VK}(h:up X.K Z (zcq caps tl tc te) σ H Qv):zc0 caps (zgX X.K (up X.K Z tl)) (upT X.K Z0 tc) (up X.K Z0 te) σ H Qv:=by
 obtain⟨r,dl,S,Q,rs,rel,h,ret⟩:=h
 unfold zcq at h
 refine⟨r,dl,S,_,rs,rel,h,fun v H1 r1 d S1 x1 rel1 p1 q1=>?_⟩
 cases p1 with
 | @ref n a hn=>
  obtain⟨hsome,W,⟨m0,w0⟩,turn⟩:=q1
  have sql:∀ {r':List Addr} {S':Sto} {H':Hp} {o:Ob},Ext r1 r' H1 H'→zav X.K r' S' H'→lAt S' n=some o→∃xs,SqL X.K H' a xs∧Rps r' H' (zae o) xs:=fun {r' S' H' o} x' rel' eo=>by
   obtain⟨eo,eL⟩:=zbB eo
   obtain⟨a',ha,ob⟩:=rel'.at eo
   rw[x'.adr n a hn] at ha; cases ha
   exact ob.list eL
  obtain⟨o1,eo1⟩:=Option.isSome_iff_exists.mp hsome
  obtain⟨xs1,sq1,_⟩:=sql Ext.refl rel1.b eo1
  refine⟨a,rfl,⟨xs1,sq1⟩,fun D0 hD=>?_⟩
  obtain⟨rel2,x2⟩:=rel1.b.push (ds:=[]) (xs:=[]) hD Rps.nil
  refine⟨fun k m H'=>∃r' S',Ext (r1++[D0]) r' (upd H1 D0 (.lst [])) H'∧zav X.K r' S' H'∧W k m S',⟨m0,_,_,Ext.refl,rel2,w0⟩,?_⟩
  rintro k m H2 ⟨r2,S2,x3,rb2,w2⟩
  have ha2:r2[S1.length]?=some D0:=x3.adr _ _ (ze1 rel1.len)
  have q:=turn k m S2 w2
  split at q
  ·rename_i o eo
   obtain⟨xs,sq,pr⟩:=sql (x2.trans x3) rb2 eo
   split at q
   ·rename_i y ey
    obtain⟨v,hv,pv⟩:=pr.get ey
    refine .inr ⟨⟨xs,v,sq,hv⟩,fun v' H' y'=>?_⟩
    obtain⟨eH,y'⟩:=y'
    subst eH
    have ev:v'=v:=by
     have z:=y' xs sq
     rw[hv] at z; exact(Option.some.inj z).symm
    subst ev
    have z:=zgB (Nx:=fun H'=>∃m',m' < m∧∃r' S',Ext (r1++[D0]) r' (upd H1 D0 (.lst [])) H'∧zav X.K r' S' H'∧W (k + 1) m' S') (rs.ext (x1.trans (x2.trans x3))) ha2 rb2 pv q fun r' S' H' x' rb' ⟨m',hm,w'⟩=>⟨m',hm,r',S',x3.trans x',rb',w'⟩
    exact z
   ·rename_i ey
    have hlen:(zae o).length≤k:=List.getElem?_eq_none_iff.mp ey
    exact .inl ⟨⟨xs,sq,by rw[← pr.1]; exact hlen⟩,ret _ H2 r2 _ S2 (x1.trans (x2.trans x3)) ⟨rb2,rel.xw.ext (x1.trans (x2.trans x3))⟩ (.ref ha2) q⟩
  ·exact q.elim
 | _=>exact(show False from q1).elim
theorem zf9 {ta:TDA}{tc:TDT}{te:TDE}{σ:St}{H:Hp}{Qv:VK}(h:up X.K Z (zcn caps ta tc te) σ H Qv):zc0 caps (zfO (upA X.K Z ta)) (upT X.K Z0 tc) (up X.K Z0 te) σ H Qv:=by
 obtain⟨r,dl,S,Q,rs,rel,h,ret⟩:=h
 unfold zcn at h
 refine⟨r,dl,S,_,rs,rel,h,fun vs H1 r1 ds S1 x1 rel1 p1 q1=>?_⟩
 split at q1
 ·rename_i j
  obtain⟨v,vs',rfl,p2,p3⟩:=p1.uncons
  have z:=p3.unnil
  subst z
  cases p2
  obtain⟨⟨b1,b2⟩,W,w0,turn⟩:=q1
  refine⟨j,rfl,b1,b2,fun D0 hD=>?_⟩
  obtain⟨rel2,x2⟩:=rel1.b.push (ds:=[]) (xs:=[]) hD Rps.nil
  refine⟨fun k m H'=>m=j.toNat - k∧∃r' S',Ext (r1++[D0]) r' (upd H1 D0 (.lst [])) H'∧zav X.K r' S' H'∧W k S',⟨j.toNat,by simp,_,_,Ext.refl,rel2,w0⟩,?_⟩
  rintro k m H2 ⟨em,r2,S2,x3,rb2,w2⟩
  have ha2:r2[S1.length]?=some D0:=x3.adr _ _ (ze1 rel1.len)
  have q:=turn k S2 w2
  split at q
  ·rename_i hk
   refine .inr ⟨hk,fun v' H' y'=>?_⟩
   obtain⟨eH,y'⟩:=y'
   subst eH
   subst y'
   have pk:Rp r2 H' (.int (k:Int)) (.int (0 + (k:Int))):=by rw[Int.zero_add]; exact .int _
   have z:=zgB (Nx:=fun H'=>∃m',m' < m∧m'=j.toNat - (k + 1)∧∃r' S',Ext (r1++[D0]) r' (upd H1 D0 (.lst [])) H'∧zav X.K r' S' H'∧W (k + 1) S') (rs.ext (x1.trans (x2.trans x3))) ha2 rb2 pk q
    fun r' S' H' x' rb' w'=>⟨j.toNat - (k + 1),by omega,rfl,r',S',x3.trans x',rb',w'⟩
   exact z
  ·rename_i hk
   exact .inl ⟨by show j.toNat≤k; omega,ret _ H2 r2 _ S2 (x1.trans (x2.trans x3)) ⟨rb2,rel.xw.ext (x1.trans (x2.trans x3))⟩ (.ref ha2) q⟩
 ·exact q1.elim
theorem zc8 {ta:TDA}{tc:TDT}{te:TDE}{a:Expr}{p pos2:Pos}(har:X.env.scope=ar)(hc:X.calm=true)(cs:zci sc ar x N)(hN:caps.map (fun i=>X.N[i]?)=N.map some)(hnd:(x::N).Nodup)(hg:Gl X "range")(hm:X.mg "range"=none)(ha:PDA X Z [a] ta)
  (ht:∀cl C s0 H0 fp pn,zcJ (Cx.comp X sc (x::N) cl C s0 H0 fp pn) ifs tc)(he:∀cl C s0 H0 fp pn,PD (Cx.comp X sc (x::N) cl C s0 H0 fp pn) Z0 elt te)
  (hs:∀y,foldedSetIterable (.Call (.Name "range" p) [a] [] pos2) X.env y=pure y:=by intro _; rfl)(hst:starEach [a] X.env=[(false,eval a X.env)]:=by rfl):
  PD X Z (.ListComp elt [⟨.Name x px,.Call (.Name "range" p) [a] [] pos2,ifs,0⟩] sc pos) (zcn caps ta tc te):=by
 subst har
 exact za5 (ziL hc cs hN hnd (tc:=upT X.K Z0 tc) (te:=up X.K Z0 te) (zeT hg hm ha hst) ht he hs) fun _ _ _ h=>zf9 h
theorem zfn {t:TE}{td:TDE}{i:Nat}{F:zcD}{σ:St}{H:Hp}(imp:∀Qv,up X.K Z td σ H Qv→t σ H Qv)(h:upS X.K Z (fun E dl S=>td dl S fun d S1=>E.nx (dl.set i (some d)) S1) F σ H):t σ H fun v H1=>F.nx (σ.set i (some v)) H1:=by
 obtain⟨r,dl,S,E,rs,rel,h,ret⟩:=h
 exact imp _ ⟨r,dl,S,_,rs,rel,h,fun v H1 r1 d S1 x rel1 p q=>ret.nx _ H1 r1 _ S1 x ((rs.ext x).set i p) rel1 q⟩
theorem zif {tl:TDE}{tc:TDT}{te:TDE}{i:Nat}{y:Str}{py spos:Pos}(har:X.env.scope=ar)(hc:X.calm=true)(cs:zci sc ar x N)(hN:caps.map (fun i=>X.N[i]?)=N.map some)(hnd:(x::N).Nodup)(hNd:X.N.Nodup)(hy:X.N[i]?=some y)(hlo:ar.names.lookup y=some .local)
  (hl:PD X Z iter tl)(ht:∀cl C s0 H0 fp pn,zcJ (Cx.comp X sc (x::N) cl C s0 H0 fp pn) ifs tc)(he:∀cl C s0 H0 fp pn,PD (Cx.comp X sc (x::N) cl C s0 H0 fp pn) Z0 elt te)
  (hsw:swapsWith (.ListComp elt [⟨.Name x px,iter,ifs,0⟩] sc pos) (some (.Name y py)) spos.line X.env=pure true:=by rfl)
  (hs:∀y,foldedSetIterable iter X.env y=pure y:=by intro _; rfl):PDS X Z (.Assign [.Name y py] (.ListComp elt [⟨.Name x px,iter,ifs,0⟩] sc pos) spos) (zd6 i (zcq caps tl tc te)):=by
 subst har
 exact zb1 (zgQ hc cs hN hnd (tc:=upT X.K Z0 tc) (te:=up X.K Z0 te) (zeO hl) ht he hNd hy hlo hsw hs) fun F σ H h=>zfn (fun _ h=>zfT h) h
theorem zjW {ta:TDA}{tc:TDT}{te:TDE}{a:Expr}{p pos2:Pos}{i:Nat}{y:Str}{py spos:Pos}(har:X.env.scope=ar)(hc:X.calm=true)(cs:zci sc ar x N)(hN:caps.map (fun i=>X.N[i]?)=N.map some)(hnd:(x::N).Nodup)(hNd:X.N.Nodup)(hy:X.N[i]?=some y)
  (hlo:ar.names.lookup y=some .local)(hg:Gl X "range")(hm:X.mg "range"=none)(ha:PDA X Z [a] ta)
  (ht:∀cl C s0 H0 fp pn,zcJ (Cx.comp X sc (x::N) cl C s0 H0 fp pn) ifs tc)(he:∀cl C s0 H0 fp pn,PD (Cx.comp X sc (x::N) cl C s0 H0 fp pn) Z0 elt te)
  (hsw:swapsWith (.ListComp elt [⟨.Name x px,.Call (.Name "range" p) [a] [] pos2,ifs,0⟩] sc pos) (some (.Name y py)) spos.line X.env=pure true:=by rfl)
  (hs:∀y,foldedSetIterable (.Call (.Name "range" p) [a] [] pos2) X.env y=pure y:=by intro _; rfl)(hst:starEach [a] X.env=[(false,eval a X.env)]:=by rfl):
  PDS X Z (.Assign [.Name y py] (.ListComp elt [⟨.Name x px,.Call (.Name "range" p) [a] [] pos2,ifs,0⟩] sc pos) spos) (zd6 i (zcn caps ta tc te)):=by
 subst har
 exact zb1 (zgQ hc cs hN hnd (tc:=upT X.K Z0 tc) (te:=up X.K Z0 te) (zeT hg hm ha hst) ht he hNd hy hlo hsw hs) fun F σ H h=>zfn (fun _ h=>zf9 h) h

@[irreducible] def zcQ (to te:TDE):TDE:=fun dl S Q=>to dl S fun x S1=>match x with
 | .ref n=>match S1[n]? with
  | some (.lst _)=>te dl S1 fun y S2=>match S2[n]? with
   | some (.lst xs)=>if xs.length < 1000 then Q .non (S2.set n (.lst (xs++[y]))) else False
   | _=>False
  | _=>False
 | _=>False
theorem ze4 {o e:Expr}{to te:TDE}{apos cpos:Pos}(ho:PD X Z o to)(he:PD X Z e te)(hbase:attributeBase o "append" X.env (eval o X.env)=eval o X.env:=by rfl)
  (hfew:((backTo cpos (starEach [e] X.env)).all (fun x=>!x.1) && (backToKw cpos (keywordEach [] X.env)).all (fun x=>x.1.isSome)
   && decide (([e]:List Expr).length + ([]:List Keyword).length + (if ([]:List Keyword).isEmpty then 0 else 1) < 30))=true:=by rfl)
  (hline:(apos.endLine == cpos.line)=true:=by rfl)(hst:starEach [e] X.env=[(false,eval e X.env)]:=by rfl):
  PD X Z (.Call (.Attribute o "append" apos) [e] [] cpos) (zcQ to te):=
 za5 (zgj PySem.F.plainAttrs_list PySem.F.slot_list_append PySem.F.type_list_append zet ho (zdf he zdT hst) hbase hfew hline hst rfl) fun σ H Qv h=>by
  obtain⟨r,dl,S,Q,rs,rel,h,ret⟩:=h
  unfold zcQ at h
  refine⟨r,dl,S,_,rs,rel,h,fun v H1 r1 d S1 x1 rel1 p1 h1=>?_⟩
  cases p1 with
  | @ref n a hn=>
   dsimp only at h1
   split at h1
   ·rename_i xs0 e0
    obtain⟨a',ha,ob⟩:=rel1.at e0
    rw[hn] at ha; cases ha
    obtain⟨ys,hH,_⟩:=ob
    refine⟨.inl ⟨rfl,ys,SqL.of hH⟩,r1,dl,S1,_,rs.ext x1,rel1,h1,fun v2 H2 r2 d2 S2 x2 rel2 p2 h2=>?_⟩
    split at h2
    ·rename_i xs1 e1
     obtain⟨hlt,h2⟩:=zej h2
     have ha2:=x2.adr n a hn
     obtain⟨zs,hH2,pz⟩:=rel2.b.ob n a _ ha2 e1
     obtain⟨rel3,x3⟩:=rel2.set ha2 e1 (pz.snoc p2)
     exact⟨a,zs,v2,rfl,rfl,hH2,by rw[← pz.1]; exact zdS (Nat.le_of_lt hlt),ret .non _ r2 .non _ (x1.trans (x2.trans x3)) rel3 .non h2⟩
    ·exact h2.elim
   ·exact h1.elim
  | _=>exact(show False from h1).elim
def zen:WC:=fun ds S Q=>match ds with
 | [.tup xs]=>Q (.ref S.length) (S++[.lst xs])
 | [.ref n]=>match lAt S n with
  | some o=>Q (.ref S.length) (S++[.lst (zae o)])
  | none=>False
 | _=>False
theorem zf5:zaU X (.type "list") (upC X.K Z zen):=ze6 zia fun xs H Qv ⟨r,S,ds,Q,rel,ps,q,ret⟩=>by
 unfold zen at q
 split at q
 ·rename_i ys
  obtain⟨v,vs,rfl,p1,p2⟩:=ps.uncons
  have z:=p2.unnil
  subst z
  obtain⟨a,zs,rfl,h1,h2⟩:=p1.untup
  refine⟨a,zs,rfl,.inr (SqT.of h1),fun l hl=>?_⟩
  obtain⟨rel2,x⟩:=rel.push hl h2
  exact ret _ _ _ (.ref S.length) _ x rel2 (zdk rel.len) q
 ·rename_i n
  obtain⟨v,vs,rfl,p1,p2⟩:=ps.uncons
  have z:=p2.unnil
  subst z
  split at q
  ·rename_i o eo
   obtain⟨eo,eL⟩:=zbB eo
   obtain⟨a,ha,ob⟩:=rel.at eo
   cases p1 with
   | ref h1=>
    rw[h1] at ha; cases ha
    obtain⟨ys,sq,pr⟩:=ob.list eL
    refine⟨_,ys,rfl,.inl sq,fun l hl=>?_⟩
    obtain⟨rel2,x⟩:=rel.push hl pr
    exact ret _ _ _ (.ref S.length) _ x rel2 (zdk rel.len) q
  ·exact q.elim
 ·exact q.elim
def zbC:List D→Option (List Bool)
 | []=>some []
 | .bl b::r=>(zbC r).map (b::·)
 | _::_=>none
def zdh (g:List Bool→Bool):WC:=fun ds S Q=>match ds with
 | [.ref n]=>match lAt S n with
  | some o=>match zbC (zae o) with
   | some bs=>Q (.bl (g bs)) S
   | none=>False
  | none=>False
 | _=>False
theorem zfM {r:List Addr}{H:Hp}:∀ {ds:List D} {bs:List Bool} {vs:List V} {us:List Value},zbC ds=some bs→Rps r H ds vs→zad vs us→us=bs.map Value.bool
 | [],bs,vs,us,e,p,q=>by
  have z:=p.unnil
  subst z
  cases q
  simp[zbC] at e
  subst e
  rfl
 | d::ds,bs,vs,us,e,p,q=>by
  obtain⟨v,vs',rfl,p1,p2⟩:=p.uncons
  cases d with
  | bl b=>
   cases p1
   cases q with
   | cons q1 q2=>
    have q1':_=Value.bool b:=q1
    subst q1'
    simp only[zbC,Option.map_eq_some_iff] at e
    obtain⟨ms,e1,rfl⟩:=e
    rw[zfM e1 p2 q2]
    rfl
  | _=>simp[zbC] at e
theorem ziB {bs:List Bool}:(List.range bs.length).all (fun i=>bs.getD i false)=bs.all id:=by
 rw[Bool.eq_iff_iff]
 rw[List.all_eq_true,List.all_eq_true]
 refine⟨fun h b hb=>?_,fun h i hi=>?_⟩
 ·obtain⟨i,hi,e⟩:=List.mem_iff_getElem.mp hb
  have hb':=h i (List.mem_range.mpr hi)
  simpa [hi,e] using hb'
 ·have hi':i < bs.length:=List.mem_range.mp hi
  have:=h bs[i] (List.getElem_mem hi')
  simpa [hi'] using this
theorem zhQ {prog:Program}{w:World}{A:Around}{bs:List Bool}:TruthOf prog w A (fun i v=>(bs.map Value.bool).toArray[i]?=some v) fun i=>bs.getD i false:=fun i v s Q E hP hQ=>by
  have e:(bs.map Value.bool)[i]?=some v:=by simpa using hP
  rw[List.getElem?_map] at e
  cases q:bs[i]? with
  | none=>
   rw[q] at e
   cases e
  | some b=>
    rw[q] at e
    have z:Value.bool b=v:=by simpa using e
    subst z
    have z2:bs.getD i false=b:=by simp[List.getD_eq_getElem?_getD,q]
    have hQ':Q (bs.getD i false) s:=hQ
    rw[z2] at hQ'
    exact wpAny_truthy_bool hQ'
theorem zib {n:Nat}{a:Addr}{o:Ob}{bs:List Bool}{pins:List (Addr×Obj)}{σ:St}{H:Hp}{s:Shared}{r:List Addr}{S:Sto}{Q:DK}{Qv:VK}{E:Value→Shared→Prop}{g:List Bool→Bool}(G:List Nat→(Nat→Bool)→Bool)
  (hG:G (List.range bs.length) (fun i=>bs.getD i false)=g bs)(hc:X.calm=true)(I:Inv X pins σ H s)(rel:Rel X.K Z r S H)(hn:r[n]?=some a)(eo:lAt S n=some o)(eb:zbC (zae o)=some bs)(q:Q (.bl (g bs)) S)(ret:Ret X.K Z r H Q Qv):
  wpAny (model X.prog X.w) X.A.in1 (pyIter (.ref a)) (fun it s₂=>∃I fp wr n P' St tr,it=.ref I∧Walks X.prog X.w X.A.in1 I fp wr n P' St∧St 0 s₂.heap∧TruthOf X.prog X.w X.A.in1 P' tr∧
   ∀h' tk,(∀b o,b ∉ wr→s₂.heap.get? b=some o→h'.get? b=some o)→EP X pins σ Qv (.bool (G (List.range n) tr)) { s₂ with heap:=h',toks:=tk }) E s:=by
 obtain⟨eo,eL⟩:=zbB eo
 obtain⟨a',ha,ob⟩:=rel.at eo
 rw[hn] at ha; cases ha
 obtain⟨ys,sq,pr⟩:=ob.list eL
 obtain⟨its,ri,pl,hz⟩:=I.list sq
 have eits:=zfM eb pr ri
 subst eits
 refine wpAny_pyIter_list pl.isList ?_
 have hne:a≠s.heap.objs.size:=Nat.ne_of_lt (by
  obtain⟨ob,e,_⟩:=pl.isList
  exact Heap.lt_size e)
 refine⟨s.heap.objs.size,_,_,_,_,_,fun i=>bs.getD i false,rfl,Walks.list (show X.A.in1.handled=none from I.ok.hd hc) _ a hne (bs.map Value.bool).toArray,⟨⟨_,Heap.get?_push_size _ rfl,rfl,rfl⟩,pl.isList.at fun o e=>Heap.get?_push_of_some _ e⟩,zhQ,fun h' tk hk=>?_⟩
 have ez:(bs.map Value.bool).toArray.size=bs.length:=by simp
 rw[ez,hG]
 refine⟨.bl (g bs),H,I.kept fun b o e=>hk b o (fun z=>?_) (Heap.get?_push_of_some _ e),rfl,ret _ _ _ _ _ Ext.refl rel (.bl _) q⟩
 have z':b=s.heap.objs.size:=by simpa using z
 exact absurd (z' ▸ Heap.lt_size e) (Nat.lt_irrefl _)
theorem zjk {id:String}{g:List Bool→Bool}(rule:∀(pins:List (Addr×Obj)) (σ:St) (H:Hp) (s:Shared) (r:List Addr) (S:Sto) (Q:DK) (Qv:VK) (n:Nat) (a:Addr) (o:Ob) (bs:List Bool),Inv X pins σ H s→Rel X.K Z r S H→r[n]?=some a→lAt S n=some o→zbC (zae o)=some bs→
   Q (.bl (g bs)) S→Ret X.K Z r H Q Qv→wpAny (model X.prog X.w) X.A (call (.builtin id) [.ref a]) (EP X pins σ Qv) X.xe s):zaU X (.builtin id) (upC X.K Z (zdh g)):=by
 intro pins s σ H xs us Qv I rv h
 obtain⟨r,S,ds,Q,rel,ps,q,ret⟩:=h
 unfold zdh at q
 split at q
 ·rename_i n
  obtain⟨v,vs,rfl,p1,p2⟩:=ps.uncons
  have z:=p2.unnil
  subst z
  split at q
  ·rename_i o eo
   split at q
   ·rename_i bs eb
    cases p1 with
    | ref h1=>
     obtain⟨u,rfl,ru⟩:=zdG rv
     cases ru
     exact rule pins σ H s r S Q Qv n _ o bs I rel h1 eo eb q ret
   ·exact q.elim
  ·exact q.elim
 ·exact q.elim
theorem zds (hc:X.calm=true):zaU X (.builtin "all") (upC X.K Z (zdh fun bs=>bs.all id)):=
 zjk fun _ _ _ _ _ _ _ _ _ _ _ _ I rel h1 eo eb q ret=>call_all_walk (zib (g:=fun bs=>bs.all id) (fun l f=>l.all f) ziB hc I rel h1 eo eb q ret)
@[irreducible] def irr (w:WC):WC:=w
@[irreducible] def zcf (w:W2):W2:=w
theorem zcU (w:WC):irr w=w:=by unfold irr; rfl
theorem zcL (w:W2):zcf w=w:=by unfold zcf; rfl
theorem zaO {f:Value}{w:WC}(h:zaU X f (upC X.K Z w)):zaU X f (upC X.K Z (irr w)):=by rw[zcU]; exact h
theorem za9 {a b:Expr}{ta tb:TDE}(ha:PD X Z a ta)(hb:PD X Z b tb)(hs:zfb b):PD X Z (.Subscript a b pos) (dOp (zcf wIx) ta tb):=by rw[zcL]; exact zbr ha hb hs
theorem zat (S:Sto)(o:Ob):(S++[o])[S.length]?=some o:=by simp
theorem zj4 {S:Sto}{o u:Ob}{n:Nat}(h:S[n]?=some o):(S++[u])[n]?=some o:=by
 rw[List.getElem?_append_left (List.getElem?_eq_some_iff.mp h).1]; exact h
theorem zii {tl te:TDE}{dl:Ev}{S S1:Sto}{Q:DK}{n:Nat}{o:Ob}(g:D→D)(htl:∀K:DK,K (.ref n) S1→tl dl S K)(h1:S1[n]?=some o)(hl:(zae o).length≤1000)
  (ht:∀x∈zae o,∀(S2:Sto) (K:DK),Pre S1 S2→K (g x) S2→te (some x::zbh caps dl) S2 K)(hq:Q (.ref S1.length) (S1++[.lst ((zae o).map g)]))(hL:zbw o=some o:=by rfl):zcq caps tl zca te dl S Q:=by
 unfold zcq
 refine htl _ ⟨by rw[zaR h1 hL]; rfl,fun k m S2=>S2=S1++[.lst (((zae o).take k).map g)]∧m + k=(zae o).length,⟨(zae o).length,by simp,by omega⟩,?_⟩
 rintro k m S2 ⟨rfl,hm⟩
 rw[zaR (zj4 h1) hL]
 dsimp only
 split
 ·rename_i x hx
  have hk:k < (zae o).length:=(List.getElem?_eq_some_iff.mp hx).1
  unfold zcM zca
  simp only[if_true]
  refine ht x (List.mem_of_getElem? hx) _ _ Pre.refl.push ?_
  rw[zat]
  refine⟨by simp; omega,m - 1,by omega,?_,by omega⟩
  have e:(zae o).take (k + 1)=(zae o).take k++[x]:=by rw[List.take_succ,hx]; rfl
  rw[e,List.map_append,List.set_append_right _ _ (Nat.le_refl _)]
  simp
 ·rename_i hx
  have hk:(zae o).length≤k:=List.getElem?_eq_none_iff.mp hx
  rw[List.take_of_length_le hk]
  exact hq
theorem zj1 {o:Ob}{bs:List Bool}(h:zbC (zae o)=some bs):zbw o=some o:=by
 cases o <;> first | rfl | cases h
theorem zco {g:List Bool→Bool}{n:Nat}{S:Sto}{o:Ob}{bs:List Bool}{Q:DK}(h:S[n]?=some o)(hb:zbC (zae o)=some bs)(hq:Q (.bl (g bs)) S):irr (zdh g) [.ref n] S Q:=by
 rw[zcU]
 unfold zdh
 simp only[zaR h (zj1 hb),hb]
 exact hq
theorem zfW {n:Nat}{S:Sto}{o:Ob}{Q:DK}(h:lAt S n=some o)(hq:Q (.ref S.length) (S++[.lst (zae o)])):irr zen [.ref n] S Q:=by
 rw[zcU]
 unfold zen
 simp only[h]
 exact hq
theorem zhW {to te:TDE}{dl:Ev}{S S1:Sto}{Q:DK}{n:Nat}{xs:List D}{y:D}(hto:∀K:DK,K (.ref n) S1→to dl S K)(h:S1[n]?=some (.lst xs))(hte:∀K:DK,K y S1→te dl S1 K)(hl:xs.length < 1000)(hq:Q .non (S1.set n (.lst (xs++[y])))):zcQ to te dl S Q:=by
 unfold zcQ
 refine hto _ ?_
 simp only[h]
 refine hte _ ?_
 simp only[h]
 exact ifP hl hq
end
end L3
namespace L3
end L3

namespace L3
open PySem PySem.Spec PyProof.Rows L2 PySem.W Builtin Builtin.ObjectAttr Builtin.Getset_descriptor
structure Nx (K:Frag)(D:Addr):Prop where
 ga:findIn K (.ref D) "__getattribute__"=some (some (.builtin "BaseException.__getattribute__"))
 hk:findIn K (.ref D) "__getattr__"=some none
 ha:findIn K (.ref D) "__class__"=some (some (.builtin "object.__class__"))
 hn:specialIn K (.builtin "object.__class__") "__get__"=some (some (.builtin "getset_descriptor.__get__"))
 ht:takesIn K (.builtin "object.__class__")=some true
 hm:mroIn K D (.type "object")=some true
 hb:mroIn K D (.type "BaseException")=some true
section
variable {X:Cx}{Z:Zx}
end
end L3

namespace L3
open PySem PySem.Spec PyProof.Rows L2
def eqN:Nat→D→D→Option Bool
 | 0=>eqF
 | k + 1=>eqT (eqN k)
theorem zgT:∀k,zde (eqN k)
 | 0=>zc6
 | k + 1=>zgk (zgT k)
theorem zeQ:∀k,zcu k (eqN k)
 | 0=>zeK 0
 | k + 1=>zgv (zeQ k) (zgT k)
section
variable {X:Cx}{Z:Zx}
def zcx (f:D→D→Option Bool):List D→D→Option Bool
 | [],_=>some false
 | y::ys,x=>match f y x,zcx f ys x with
  | some b,some c=>some (b || c)
  | _,_=>none
def wIn (k:Nat)(neg:Bool):W2:=fun x y S Q=>match y with
 | .ref n=>match lAt S n with
  | some o=>match zcx (eqN k) (zae o) x with
   | some b=>Q (.bl (if neg then !b else b)) S
   | none=>False
  | none=>False
 | _=>False
theorem zfk {v v':V}{u:Value}(h:zac v u)(h':zac v' u):v=v':=by
 cases v <;> cases v' <;> simp[L2.zac] at h h' <;> first
  | rfl
  | (subst h; simp at h'; subst h'; rfl)
  | (obtain⟨t,rfl⟩:=h; simp at h'; subst h'; rfl)
  | (obtain⟨t,rfl⟩:=h; simp at h')
  | (subst h; simp at h')
  | skip
theorem zdt {r:List Addr}{H:Hp}{d d' x:D}{v:V}{b b':Bool}(p:Rp r H d v)(p':Rp r H d' v)(e:eqF d x=some b)(e':eqF d' x=some b'):b=b':=by
 have z:d=d':=by
  cases p <;> cases p' <;> first
   | rfl
   | (cases x <;> simp[eqF] at e)
   | (cases x <;> simp[eqF] at e')
 subst z
 rw[e] at e'
 exact Option.some.inj e'
theorem zf6 {f:D→D→Option Bool}{r:List Addr}{H:Hp}(hf:∀(d d' x:D) (v:V) (b b':Bool),Rp r H d v→Rp r H d' v→f d x=some b→f d' x=some b'→b=b'):
  ∀ {ds ds' zs:List D} {vs:List V} {b b':Bool},Rps r H ds vs→Rps r H ds' vs→eqL f ds zs=some b→eqL f ds' zs=some b'→b=b'
 | [],ds',zs,vs,b,b',p,p',e,e'=>by
  have z:=p.unnil
  subst z
  cases ds' with
  | nil=>rw[e] at e'; exact Option.some.inj e'
  | cons y ys=>exact absurd p'.1 (by simp)
 | d::ds,ds',zs,vs,b,b',p,p',e,e'=>by
  obtain⟨v,vs',rfl,p1,p2⟩:=p.uncons
  cases ds' with
  | nil=>exact absurd p'.1 (by simp)
  | cons d' ds'=>
   obtain⟨q1,q2⟩:=p'.tail
   cases zs with
   | nil=>
    simp only[eqL,Option.some.injEq] at e e'
    exact e.symm.trans e'
   | cons z zs=>
    unfold eqL at e e'
    split at e
    ·rename_i b1 c1 a1 a2
     split at e'
     ·rename_i b2 c2 a3 a4
      have h1:=hf d d' z v b1 b2 p1 q1 a1 a3
      have h2:=zf6 hf p2 q2 a2 a4
      subst h1 h2
      simp only[Option.some.injEq] at e e'
      exact e.symm.trans e'
     ·cases e'
    ·cases e
theorem zfi:∀(k:Nat) {r:List Addr} {H:Hp} (d d' x:D) (v:V) (b b':Bool),Rp r H d v→Rp r H d' v→eqN k d x=some b→eqN k d' x=some b'→b=b'
 | 0,r,H,d,d',x,v,b,b',p,p',e,e'=>zdt p p' e e'
 | k + 1,r,H,d,d',x,v,b,b',p,p',e,e'=>by
  cases p with
  | tup h1 l1 f1=>
   cases p' with
   | tup h2 l2 f2=>
    rw[h1] at h2; cases h2
    cases x with
    | tup zs=>exact zf6 (fun d d' x v b b'=>zfi k d d' x v b b') ⟨l1,f1⟩ ⟨l2,f2⟩ e e'
    | _=>simp[eqN,eqT,eqF] at e
   | ref h=>cases x <;> simp[eqN,eqT,eqF] at e'
   | exc h=>cases x <;> simp[eqN,eqT,eqF] at e'
  | non=>exact zdt (x:=x) .non p' (by cases x <;> exact e) (by cases p' <;> cases x <;> exact e')
  | bl i=>exact zdt (x:=x) (.bl i) p' (by cases x <;> exact e) (by cases p' <;> cases x <;> exact e')
  | int i=>exact zdt (x:=x) (.int i) p' (by cases x <;> exact e) (by cases p' <;> cases x <;> exact e')
  | str i=>exact zdt (x:=x) (.str i) p' (by cases x <;> exact e) (by cases p' <;> cases x <;> exact e')
  | ref h=>cases x <;> simp[eqN,eqT,eqF] at e
  | exc h=>cases x <;> simp[eqN,eqT,eqF] at e
theorem zgb {f:D→D→Option Bool}{x:D}:∀ {ys:List D} {b:Bool},zcx f ys x=some b→(∀y∈ys,∃c,f y x=some c)∧(b=true↔∃y∈ys,f y x=some true)
 | [],b,e=>by
  simp only[zcx,Option.some.injEq] at e
  subst e
  simp
 | y::ys,b,e=>by
  unfold zcx at e
  split at e
  ·rename_i b1 c1 e1 e2
   obtain⟨h1,h2⟩:=zgb e2
   simp only[Option.some.injEq] at e
   subst e
   refine⟨fun z hz=>?_,?_⟩
   ·rcases List.mem_cons.mp hz with rfl | hz'
    ·exact⟨b1,e1⟩
    ·exact h1 z hz'
   ·rw[Bool.or_eq_true,h2]
    refine⟨fun q=>?_,fun ⟨z,hz,q⟩=>?_⟩
    ·rcases q with q | ⟨z,hz,q⟩
     ·exact⟨y,List.mem_cons_self,by rw[e1,q]⟩
     ·exact⟨z,List.mem_cons_of_mem _ hz,q⟩
    ·rcases List.mem_cons.mp hz with rfl | hz'
     ·left
      rw[e1] at q
      exact Option.some.inj q
     ·exact .inr ⟨z,hz',q⟩
  ·cases e
theorem zio {k:Nat}{pins:List (Addr×Obj)}{σ:St}{H:Hp}{s:Shared}{r:List Addr}{A:Around}{ds:List D}{vs:List V}{us:List Value}{dx:D}{x:V}{u:Value}{b:Bool}(I:Inv X pins σ H s)(hu:A.units + k < cLine)
  (p:Rps r H ds vs)(rv:zad vs us)(px:Rp r H dx x)(rx:zac x u)(e:zcx (eqN k) ds dx=some b):∃g:Value→Bool,(∀y,y∈us.toArray→SeqAt.EqAt A s y u (g y))∧us.toArray.any g=b:=by
 obtain⟨h1,h2⟩:=zgb e
 have at_:∀y∈us,∃d v,d∈ds∧Rp r H d v∧zac v y:=fun y hy=>by
  obtain⟨j,hj,ej⟩:=List.mem_iff_getElem.mp hy
  have hv:j < vs.length:=by rw[rv.length]; exact hj
  have gv:vs[j]?=some vs[j]:=by simp[hv]
  obtain⟨w,gw,rw'⟩:=rv.get gv
  obtain⟨d,gd,pd⟩:=p.get' gv
  have ew:w=y:=by
   rw[List.getElem?_eq_getElem hj,ej] at gw
   exact(Option.some.inj gw).symm
  subst ew
  exact⟨d,_,List.mem_of_getElem? gd,pd,rw'⟩
 classical
 refine⟨fun y=>decide (∃d v,d∈ds∧Rp r H d v∧zac v y∧eqN k d dx=some true),fun y hy=>?_,?_⟩
 ·obtain⟨d,v,hd,pd,rd⟩:=at_ y (by simpa using hy)
  obtain⟨c,hc⟩:=h1 d hd
  have same:decide (∃d v,d∈ds∧Rp r H d v∧zac v y∧eqN k d dx=some true)=c:=by
   cases c with
   | true=>exact decide_eq_true ⟨d,v,hd,pd,rd,hc⟩
   | false=>
    refine decide_eq_false fun ⟨d',v',_,pd',rd',hc'⟩=>?_
    have ev:=zfk rd rd'
    subst ev
    exact absurd (zfi k d d' dx v false true pd pd' hc hc') (by decide)
  show SeqAt.EqAt A s y u (decide _)
  rw[same]
  exact zeQ k X pins σ H s r A d dx v x y u c I hu pd px rd rx hc
 ·rw[Bool.eq_iff_iff,h2,List.any_toArray,List.any_eq_true]
  refine⟨fun ⟨y,hy,q⟩=>?_,fun ⟨d,hd,q⟩=>?_⟩
  ·obtain⟨d,v,hd,_,_,q'⟩:=of_decide_eq_true q
   exact⟨d,hd,q'⟩
  ·obtain⟨j,hj,ej⟩:=List.mem_iff_getElem.mp hd
   have gd:ds[j]?=some d:=by simp[hj,ej]
   obtain⟨v,gv,pv⟩:=p.get gd
   obtain⟨w,gw,rw'⟩:=rv.get gv
   exact⟨w,List.mem_of_getElem? gw,decide_eq_true ⟨d,v,hd,pv,rw',q⟩⟩
theorem do_in (k:Nat)(hu:X.A.units + 1 + k < cLine):OpR X (compareOp .In) (upO X.K Z (wIn k false)):=by
 intro pins s σ H x y v u Qv I rx ry h
 obtain⟨r,S,dx,dy,Q,rel,px,py,q,ret⟩:=h
 cases py with
 | @ref n a hn=>
  unfold wIn at q
  dsimp only at q
  split at q
  ·rename_i o eo
   split at q
   ·rename_i b eb
    cases ry
    obtain⟨eo,eL⟩:=zbB eo
    obtain⟨a',ha,ob⟩:=rel.at eo
    rw[hn] at ha; cases ha
    obtain⟨ys,sq,pr⟩:=ob.list eL
    obtain⟨us,ru,pl,_⟩:=I.list sq
    obtain⟨g,g1,g2⟩:=zio (A:=X.A.in1) I (by show X.A.units + 1 + k < _; omega) pr ru px rx eb
    refine SeqAt.in_listAt g pl.isList g1 ?_
    rw[g2]
    exact⟨.bl b,H,I,rfl,ret _ _ _ _ _ Ext.refl rel (.bl b) q⟩
   ·exact q.elim
  ·exact q.elim
 | _=>exact(show False from q).elim
end
end L3

namespace L3
open PySem PySem.Spec PyProof.Rows L2
section
variable {X:Cx}{Z:Zx}{pos:Pos}
def zdo:List Nat→List D→Ev→Ev
 | i::is,d::ds,dl=>zdo is ds (dl.set i (some d))
 | _,_,dl=>dl
def zef:List Nat→List V→St→St
 | i::is,v::vs,σ=>zef is vs (σ.set i (some v))
 | _,_,σ=>σ
theorem zgM {r:List Addr}{H:Hp}:∀ {is:List Nat} {ds:List D} {vs:List V} {dl:Ev} {σ:St},Rs r H dl σ→Rps r H ds vs→Rs r H (zdo is ds dl) (zef is vs σ)
 | [],ds,vs,dl,σ,h,p=>by cases ds <;> cases vs <;> exact h
 | i::is,[],vs,dl,σ,h,p=>by
  have z:=p.unnil
  subst z
  exact h
 | i::is,d::ds,vs,dl,σ,h,p=>by
  obtain⟨v,vs',rfl,p1,p2⟩:=p.uncons
  show Rs r H (zdo is ds (dl.set i (some d))) (zef is vs' (σ.set i (some v)))
  exact zgM (Rs.set i h p1) p2
inductive Nms (X:Cx):List Expr→List Nat→Prop
 | nil:Nms X [] []
 | cons {x:Str} {p:Pos} {i:Nat} {es:List Expr} {is:List Nat}:X.N[i]?=some x→Loc X.env.scope x→(X.fn x=true∨X.env.scope.names.lookup x=some .local)→Nms X es is→Nms X (.Name x p::es) (i::is)
def gAll (is:List Nat):TGs:=fun vs σ H Q=>vs.length=is.length∧Q (zef is vs σ) H
theorem ze9 (hN:X.N.Nodup):∀ {es:List Expr} {is:List Nat},Nms X es is→PGs X es (gAll is)
 | _,_,.nil=>fun pins s σ H vs us Q I r h=>by
  obtain⟨e,h⟩:=h
  have z:vs=[]:=by simpa using e
  subst z
  exact zhv pins s σ H [] us Q I r ⟨rfl,h⟩
 | _,_,.cons (x:=x) (p:=p) (es:=es) (is:=is) h1 h2 h3 t=>fun pins s σ H vs us Q I r h=>by
  obtain⟨e,h⟩:=h
  cases vs with
  | nil=>simp at e
  | cons v vs=>exact zim (zdO hN h1 h2 h3) (ze9 hN t) rfl pins s σ H (v::vs) us Q I r ⟨v,vs,rfl,by simpa using e,h⟩
end
end L3

namespace L3
open PySem L2
end L3

namespace L3
open PySem PySem.Spec PyProof.Rows L2
section
variable {X:Cx}{Z:Zx}
end
def zgi:Sd:=fun _ _ _ _=>False
def Df.never {P:Program}{w:World}{K:PySem.W.Frag}{mg:Str→Option Value}{base:Heap}{x:Str}{st:Stmt}{ps:List Str}(k:Nat)(d:Df K mg x st ps):Fk P w K mg base k x ps zgi:=
 ⟨d.f,d.fd,⟨fun _ _ _ _ ⟨_,_,_,_,_,_,_,z,_⟩=>z.elim,fun _ _ _ _ _ _ _ _ _ _ _ _ _ ⟨_,_,_,_,_,_,_,z,_⟩=>z.elim⟩,d.m,d.F.kp,d.b⟩
end L3

namespace L3
open PySem PySem.Spec PyProof.Rows L2
section
variable {X:Cx}{Z:Zx}{pos:Pos}
def GT (K:PySem.W.Frag)(mg:Str→Option Value)(x:Str)(ws:List Str):Prop:=
 ∃(a:Addr) (o:Obj) (its:Array Value) (n:Nat),mg x=some (.ref a)∧K.lookup a=some o∧o.cls=.type "tuple"∧o.data=.seq its n∧its.size≤sizeLine∧zad (ws.map V.str) its.toList
theorem zgL (w:Str):∀ws:List Str,inV (.str w) (ws.map V.str)=ws.any (· == w)
 | []=>rfl
 | a::r=>by
  have ih:=zgL w r
  unfold inV at ih ⊢
  rw[List.map_cons,List.any_cons,List.any_cons,ih]
  rfl
theorem zgV:∀ws:List Str,(ws.map V.str).all zbO=true
 | []=>rfl
 | a::r=>by
  rw[List.map_cons,List.all_cons,zgV r]
  rfl
end
section
variable {X:Cx}{Z:Zx}{elt iter:Expr}{x:Str}{px pos:Pos}{ifs:List Expr}{sc ar:Scope}{N:List Str}{caps:List Nat}
theorem zgG {ta:TDA}{te:TDE}{dl:Ev}{S S1:Sto}{Q:DK}{j:Int}(g:Nat→D)(hta:∀K:List D→Sto→Prop,K [.int j] S1→ta dl S K)(hj:0≤j∧j≤1000)
  (ht:∀k:Nat,k < j.toNat→∀(S2:Sto) (K:DK),Pre S1 S2→K (g k) S2→te (some (.int k)::zbh caps dl) S2 K)(hq:Q (.ref S1.length) (S1++[.lst ((List.range j.toNat).map g)])):zcn caps ta zca te dl S Q:=by
 unfold zcn
 refine hta _ ⟨⟨by omega,by omega⟩,fun k S2=>S2=S1++[.lst ((List.range k).map g)]∧k≤j.toNat,⟨by simp,by omega⟩,?_⟩
 rintro k S2 ⟨rfl,hk⟩
 split
 ·rename_i hk'
  unfold zcM zca
  simp only[if_true]
  refine ht k hk' _ _ Pre.refl.push ?_
  rw[zat]
  refine⟨by simp; omega,?_,by omega⟩
  rw[List.range_succ,List.map_append,List.set_append_right _ _ (Nat.le_refl _)]
  simp
 ·have e:k=j.toNat:=by omega
  subst e
  exact hq
end

section
variable {X:Cx}{Z:Zx}{pos:Pos}
def flat (zs:List Str):Str:=⟨(zs.flatMap fun z=>z.cps.toList).toArray⟩
abbrev TDO:=Ev→Sto→(Option Int→Sto→Prop)→Prop
def upP (K:PySem.W.Frag)(Z:Zx)(t:TDO):TO:=fun σ H Q=>∃(r:List Addr) (dl:Ev) (S:Sto) (Q':Option Int→Sto→Prop),Rs r H dl σ∧Rel K Z r S H∧t dl S Q'∧∀o H' r' S',Ext r r' H H'→Rel K Z r' S' H'→Q' o S'→Q o H'
def PDO (X:Cx)(Z:Zx)(e:Option Expr)(t:TDO):Prop:=PO X e (upP X.K Z t)
def zjA:TDO:=fun _ S Q=>Q none S
def dPart (t:TDE):TDO:=fun dl S Q=>t dl S fun d S1=>match d with
 | .int i=>Q (some i) S1
 | _=>False
theorem zfK {e:Option Expr}{t t':TO}(h:PO X e t)(g:∀σ H Q,t' σ H Q→t σ H Q):PO X e t':=fun pins s σ H Q I q=>h pins s σ H Q I (g σ H Q q)
theorem ziz:PDO X Z none zjA:=zfK zix fun σ H Q ⟨r,dl,S,Q',rs,rel,h,ret⟩=>ret none H r S Ext.refl rel h
theorem zeS {e:Expr}{t:TDE}(he:PD X Z e t):PDO X Z (some e) (dPart t):=zfK (zh8 he) fun σ H Q ⟨r,dl,S,Q',rs,rel,h,ret⟩=>⟨r,dl,S,_,rs,rel,h,fun v H1 r1 d S1 e1 rel1 p1 q1=>by
 cases p1 with
 | int i=>exact⟨i,rfl,ret (some i) H1 r1 S1 e1 rel1 q1⟩
 | _=>exact(show False from q1).elim⟩
end
section
variable {X:Cx}{Z:Zx}
end
section
variable {X:Cx}{Z:Zx}
theorem zjs {k:Nat}(hr:zaw k X.A):OpR X (compareOp .In) (upO X.K Z (zcf (wIn 0 false))):=by rw[zcL]; exact do_in 0 (by have:=hr.un; omega)
end
theorem zfD (w:Str):∀ws:List Str,zcx (eqN 0) (ws.map D.str) (.str w)=some (ws.any (· == w))
 | []=>rfl
 | a::r=>by
  have e:eqN 0 (.str a) (.str w)=some (a == w):=by
   show some (decide (a=w))=_
   exact congrArg some (by rw[Bool.eq_iff_iff,decide_eq_true_iff,beq_iff_eq])
  rw[List.map_cons,zcx,e,zfD w r]
  rfl
theorem zbf {n:Nat}{S:Sto}{o:Ob}{Q:DK}{i:Int}{d:D}(ho:S[n]?=some o)(hd:atI (zae o) i=some d)(hq:Q d S)(hL:zbw o=some o:=by rfl):zcf wIx (.ref n) (.int i) S Q:=by
 rw[zcL]
 unfold wIx
 simp only[zaR ho hL,hd]
 exact hq
end L3

namespace L3
open PySem PySem.Spec PyProof.Rows L2
def putD (f:Str)(v:D):List (Str×D)→List (Str×D)
 | []=>[(f,v)]
 | p::r=>if p.1=f then (f,v)::r else p::putD f v r
theorem FR.lookup {r:List Addr}{H:Hp}{f:Str}:∀ {fs:List (Str×D)} {fs':List (Str×V)},FR r H fs fs'→(∀d,fs.lookup f=some d→∃v,fs'.lookup f=some v∧Rp r H d v)∧(fs.lookup f=none→fs'.lookup f=none)
 | [],fs',h=>by
  have e:fs'=[]:=by
   have:=h.1
   simpa using this.symm
  subst e
  exact⟨fun d z=>by simp at z,fun _=>rfl⟩
 | p::fs,[],h=>by
  have:=h.1
  simp at this
 | p::fs,q::fs',h=>by
  obtain⟨h1,h2⟩:=h
  simp only[List.map_cons,List.cons.injEq] at h1
  obtain⟨p1,p2⟩:=h2.tail
  obtain⟨i1,i2⟩:=FR.lookup (f:=f) (fs:=fs) (fs':=fs') ⟨h1.2,p2⟩
  obtain⟨pk,pv⟩:=p
  obtain⟨qk,qv⟩:=q
  have ek:pk=qk:=h1.1
  subst ek
  by_cases z:f=pk
  ·subst z
   simp only[List.lookup_cons_self]
   exact⟨fun d hd=>⟨qv,rfl,by cases hd; exact p1⟩,fun hd=>by cases hd⟩
  ·have zb:(f == pk)=false:=by simpa using z
   simp only[List.lookup_cons,zb]
   exact⟨i1,i2⟩
theorem FR.put {r:List Addr}{H:Hp}{f:Str}{d:D}{v:V}(q:Rp r H d v):∀ {fs:List (Str×D)} {fs':List (Str×V)},FR r H fs fs'→FR r H (putD f d fs) (putF f v fs')
 | [],fs',h=>by
  have e:fs'=[]:=by
   have:=h.1
   simpa using this.symm
  subst e
  exact⟨rfl,Rps.cons q Rps.nil⟩
 | p::fs,[],h=>by
  have:=h.1
  simp at this
 | p::fs,p'::fs',h=>by
  obtain⟨h1,h2⟩:=h
  simp only[List.map_cons,List.cons.injEq] at h1
  obtain⟨p1,p2⟩:=h2.tail
  have ih:=FR.put (f:=f) q (fs:=fs) (fs':=fs') ⟨h1.2,p2⟩
  obtain⟨pk,pv⟩:=p
  obtain⟨qk,qv⟩:=p'
  have ek:pk=qk:=h1.1
  subst ek
  unfold putD putF
  by_cases z:pk=f
  ·rw[if_pos z,if_pos z]
   exact⟨by simp[h1.2,z],Rps.cons q p2⟩
  ·rw[if_neg z,if_neg z]
   exact⟨by simp[ih.1],Rps.cons p1 ih.2⟩
section
variable {X:Cx}{Z:Zx}{pos:Pos}
end
end L3

namespace L3
open PySem PySem.Spec PyProof.Rows L2
section
variable {κ:Type} [DecidableEq κ]
def zcK (kvs:List (κ×D))(k:κ):Option D:=(kvs.find? fun kv=>decide (kv.1=k)).map (·.2)
def zgS (kvs:List (κ×D))(k:κ)(v:D):List (κ×D):=
 if (kvs.any fun kv=>decide (kv.1=k))=true then kvs.map (fun kv=>if kv.1=k then (kv.1,v) else kv) else kvs++[(k,v)]
theorem FR.split {r:List Addr}{H:Hp}{p:κ×D}{fs:List (κ×D)}{gs:List (κ×V)}(h:FR r H (p::fs) gs):∃q gs',gs=q::gs'∧p.1=q.1∧Rp r H p.2 q.2∧FR r H fs gs':=by
 cases gs with
 | nil=>
  have:=h.1
  simp at this
 | cons q gs'=>
  obtain⟨h1,h2⟩:=h
  simp only[List.map_cons,List.cons.injEq] at h1
  obtain⟨p1,p2⟩:=h2.tail
  exact⟨q,gs',rfl,h1.1,p1,h1.2,p2⟩
theorem FR.unnil {r:List Addr}{H:Hp}{gs:List (κ×V)}(h:FR r H ([]:List (κ×D)) gs):gs=[]:=by
 have:=h.1
 simpa using this.symm
theorem FR.cons {r:List Addr}{H:Hp}{k:κ}{d:D}{v:V}{fs:List (κ×D)}{gs:List (κ×V)}(p:Rp r H d v)(h:FR r H fs gs):FR r H ((k,d)::fs) ((k,v)::gs):=⟨by simp[h.1],Rps.cons p h.2⟩
theorem FR.val {r:List Addr}{H:Hp}{k:κ}:∀ {fs:List (κ×D)} {gs:List (κ×V)},FR r H fs gs→(∀d,zcK fs k=some d→∃v,zbt gs k=some v∧Rp r H d v)∧(zcK fs k=none→zbt gs k=none)
 | [],gs,h=>by
  have z:=h.unnil
  subst z
  exact⟨(fun d e=>by cases e),fun _=>rfl⟩
 | p::fs,gs,h=>by
  obtain⟨q,gs',rfl,e,pr,t⟩:=h.split
  obtain⟨i1,i2⟩:=FR.val (k:=k) t
  by_cases z:p.1=k
  ·have z':q.1=k:=e.symm.trans z
   rw[zeg z']
   have zd:zcK (p::fs) k=some p.2:=by simp[zcK,List.find?_cons,z]
   rw[zd]
   exact⟨fun d hd=>⟨q.2,rfl,by cases hd; exact pr⟩,fun hd=>by cases hd⟩
  ·have z':¬ q.1=k:=fun y=>z (e.trans y)
   rw[zeo z']
   have zd:zcK (p::fs) k=zcK fs k:=by simp[zcK,List.find?_cons,z]
   rw[zd]
   exact⟨i1,i2⟩
theorem FR.putK {r:List Addr}{H:Hp}{k:κ}{d:D}{v:V}{fs:List (κ×D)}{gs:List (κ×V)}(p:Rp r H d v)(h:FR r H fs gs):FR r H (zgS fs k d) (putK gs k v):=by
 have any:∀ {fs:List (κ×D)} {gs:List (κ×V)},FR r H fs gs→(fs.any fun kv=>decide (kv.1=k))=(gs.any fun kv=>decide (kv.1=k)):=by
  intro fs
  induction fs with
  | nil=>intro gs h; have z:=h.unnil; subst z; rfl
  | cons q fs ih=>
   intro gs h
   obtain⟨q',gs',rfl,e,_,t⟩:=h.split
   rw[List.any_cons,List.any_cons,ih t,e]
 have mp:∀ {fs:List (κ×D)} {gs:List (κ×V)},FR r H fs gs→FR r H (fs.map fun kv=>if kv.1=k then (kv.1,d) else kv) (gs.map fun kv=>if kv.1=k then (kv.1,v) else kv):=by
  intro fs
  induction fs with
  | nil=>intro gs h; have z:=h.unnil; subst z; exact FR.nil
  | cons q fs ih=>
   intro gs h
   obtain⟨q',gs',rfl,e,pr,t⟩:=h.split
   rw[List.map_cons,List.map_cons]
   obtain⟨qk,qd⟩:=q
   obtain⟨qk',qv⟩:=q'
   have e':qk=qk':=e
   subst e'
   by_cases z:qk=k
   ·rw[if_pos z,if_pos z]; exact FR.cons p (ih t)
   ·rw[if_neg z,if_neg z]; exact FR.cons pr (ih t)
 have ap:∀ {fs:List (κ×D)} {gs:List (κ×V)},FR r H fs gs→FR r H (fs++[(k,d)]) (gs++[(k,v)]):=by
  intro fs
  induction fs with
  | nil=>intro gs h; have z:=h.unnil; subst z; exact FR.cons p FR.nil
  | cons q fs ih=>
   intro gs h
   obtain⟨q',gs',rfl,e,pr,t⟩:=h.split
   obtain⟨qk,qd⟩:=q
   obtain⟨qk',qv⟩:=q'
   have e':qk=qk':=e
   subst e'
   exact FR.cons pr (ih t)
 unfold zgS L2.putK
 rw[any h]
 split
 ·exact mp h
 ·exact ap h
end
section
variable {X:Cx}{Z:Zx}{pos:Pos}
end
end L3

namespace L3
open PySem PySem.Spec PyProof.Rows L2
section
variable {X:Cx}{Z:Zx}{pos:Pos}
def zbQ (xs:List D)(lo hi:Option Int):List D:=(xs.drop (HT.sIx xs.length 0 lo)).take (HT.sIx xs.length xs.length hi - HT.sIx xs.length 0 lo)
theorem Rps.drop {r:List Addr}{H:Hp}{ds:List D}{vs:List V}(h:Rps r H ds vs)(k:Nat):Rps r H (ds.drop k) (vs.drop k):=
 ⟨by simp[h.1],fun i d v h1 h2=>h.2 (k + i) d v (by simpa using h1) (by simpa using h2)⟩
theorem Rps.take {r:List Addr}{H:Hp}{ds:List D}{vs:List V}(h:Rps r H ds vs)(k:Nat):Rps r H (ds.take k) (vs.take k):=by
 refine⟨by simp[h.1],fun i d v h1 h2=>?_⟩
 rw[List.getElem?_take] at h1 h2
 split at h1
 ·rw[if_pos (by assumption)] at h2
  exact h.2 i d v h1 h2
 ·cases h1
theorem Rps.cut {r:List Addr}{H:Hp}{ds:List D}{vs:List V}(h:Rps r H ds vs)(lo hi:Option Int):Rps r H (zbQ ds lo hi) (zcY vs lo hi):=by
 unfold zbQ zcY
 rw[h.1]
 exact(h.drop _).take _
@[irreducible] def zdX (te:TDE)(tl th:TDO):TDE:=fun dl S Q=>te dl S fun d S1=>tl dl S1 fun l S2=>th dl S2 fun u S3=>match d with
 | .ref n=>match lAt S3 n with
  | some o=>Q (.ref S3.length) (S3++[.lst (zbQ (zae o) l u)])
  | none=>False
 | _=>False
theorem zfL {e:Expr}{te:TDE}{lo hi:Option Expr}{tl th:TDO}{p2:Pos}(he:PD X Z e te)(hl:PDO X Z lo tl)(hu:PDO X Z hi th):PD X Z (.Subscript e (.Slice lo hi none p2) pos) (zdX te tl th):=
 za5 (zhn zho he hl hu) fun σ H Qv ⟨r,dl,S,Q,rs,rel,h,ret⟩=>by
  unfold zdX at h
  refine⟨r,dl,S,_,rs,rel,h,fun v H1 r1 d S1 e1 rel1 p1 q1=>⟨r1,dl,S1,_,rs.ext e1,rel1,q1,fun l H2 r2 S2 e2 rel2 q2=>⟨r2,dl,S2,_,rs.ext (e1.trans e2),rel2,q2,fun u H3 r3 S3 e3 rel3 q3=>?_⟩⟩⟩
  cases p1 with
  | @ref n a hn=>
   dsimp only at q3
   split at q3
   ·rename_i o eo
    obtain⟨eo,eL⟩:=zbB eo
    obtain⟨a',ha,ob⟩:=rel3.at eo
    rw[e3.adr _ _ (e2.adr _ _ hn)] at ha; cases ha
    obtain⟨xs,sq,pr⟩:=ob.list eL
    refine⟨a,xs,rfl,sq,fun p hp=>?_⟩
    obtain⟨rel4,x⟩:=rel3.push hp (pr.cut l u)
    exact ret _ _ _ (.ref S3.length) _ (e1.trans (e2.trans (e3.trans x))) rel4 (zdk rel3.len) q3
   ·exact q3.elim
  | _=>exact(show False from q3).elim
theorem zfU {te:TDE}{tl th:TDO}{dl:Ev}{S S3:Sto}{Q:DK}{n:Nat}{o:Ob}{lo hi:Option Int}(h:∀K:DK,K (.ref n) S3→te dl S K)(hl:∀K:Option Int→Sto→Prop,K lo S3→tl dl S3 K)(hh:∀K:Option Int→Sto→Prop,K hi S3→th dl S3 K)(ho:S3[n]?=some o)
  (hq:Q (.ref S3.length) (S3++[.lst (zbQ (zae o) lo hi)]))(hL:zbw o=some o:=by rfl):zdX te tl th dl S Q:=by
 unfold zdX
 refine h _ (hl _ (hh _ ?_))
 simp only[zaR ho hL]
 exact hq
end
end L3

namespace L3
open PySem PySem.Spec PyProof.Rows L2
section
variable {X:Cx}{Z:Zx}{pos:Pos}
theorem Rps.put {r:List Addr}{H:Hp}{ds:List D}{vs:List V}{d:D}{v:V}(h:Rps r H ds vs)(p:Rp r H d v)(j:Nat):Rps r H (ds.set j d) (vs.set j v):=by
 refine⟨by simp[h.1],fun i x y h1 h2=>?_⟩
 by_cases z:j=i
 ·subst z
  have hl:j < ds.length:=by
   have:=(List.getElem?_eq_some_iff.mp h1).1
   simpa using this
  rw[List.getElem?_set_self hl] at h1
  rw[List.getElem?_set_self (by rw[← h.1]; exact hl)] at h2
  cases h1
  cases h2
  exact p
 ·rw[List.getElem?_set_ne z] at h1 h2
  exact h.2 i x y h1 h2
@[irreducible] def zd9 (to ti te:TDE):TDS:=fun E dl S=>te dl S fun v S1=>to dl S1 fun d S2=>ti dl S2 fun i S3=>match d,i with
 | .ref n,.int k=>match S3[n]? with
  | some (.lst xs)=>match ixN xs.length k with
   | some j=>E.nx dl (S3.set n (.lst (xs.set j v)))
   | none=>False
  | _=>False
 | _,_=>False
theorem zfz {o i e:Expr}{to ti te:TDE}{p2:Pos}(ho:PD X Z o to)(hi:PD X Z i ti)(he:PD X Z e te)
  (hs:swapsWithSole [.Subscript o i p2] e pos.line X.env=pure false:=by rfl)(hw:swappedStores [.Subscript o i p2] e X.env=pure none:=by rfl)(h1:(assignEach [.Subscript o i p2] X.env).map (·.2)=[assign (.Subscript o i p2) X.env]:=by rfl)
  (ha:∀v,assign (.Subscript o i p2) X.env v=(do let ov ← holding [v] (eval o X.env); let iv ← holding [v,ov] (eval i X.env); standAt p2; holding [v,ov,iv] (setItem ov iv v); release [v,ov,iv] []):=by intro _; rfl):PDS X Z (.Assign [.Subscript o i p2] e pos) (zd9 to ti te):=
 zb1 (zhu he (zh1 ho hi ziP ha) hs hw h1) fun F σ H ⟨r,dl,S,E,rs,rel,h,ret⟩=>by
  unfold zd9 at h
  refine⟨r,dl,S,_,rs,rel,h,fun v H1 r1 dv S1 e1 rel1 p1 q1=>⟨r1,dl,S1,_,rs.ext e1,rel1,q1,fun x H2 r2 d S2 e2 rel2 pd q2=>⟨r2,dl,S2,_,rs.ext (e1.trans e2),rel2,q2,fun y H3 r3 di S3 e3 rel3 pi q3=>?_⟩⟩⟩
  cases pd with
  | @ref n a hn=>
   cases pi with
   | int k=>
    dsimp only at q3
    split at q3
    ·rename_i xs eS
     split at q3
     ·rename_i j ej
      have hn3:=e3.adr _ _ hn
      obtain⟨ys,eH,pr⟩:=rel3.b.ob n a _ hn3 eS
      obtain⟨rel4,x4⟩:=rel3.set hn3 eS (pr.put (p1.ext (e2.trans e3)) j)
      exact⟨a,ys,k,j,rfl,rfl,eH,by rw[← pr.1]; exact ej,ret.nx _ _ r3 _ _ (e1.trans (e2.trans (e3.trans x4))) (rs.ext (e1.trans (e2.trans (e3.trans x4)))) rel4 q3⟩
     ·exact q3.elim
    ·exact q3.elim
   | _=>exact(show False from q3).elim
  | _=>exact(show False from q3).elim
end
end L3

namespace L3
open PySem PySem.Spec PyProof.Rows L2
section
variable {X:Cx}{pins:List (Addr×Obj)}{σ:St}{H:Hp}{s:Shared}{h':Heap}
theorem zh4 {t':Nat}{ch:List Addr}{T:Addr}{xs:List V}{vals:Array Value}(I:Inv X pins σ H s)(k:∀b o,b ∉ ch→s.heap.get? b=some o→h'.get? b=some o)(hch:∀b∈ch,za3 X pins H b)
  (hT:s.heap.objs.size≤T)(ht:h'.IsTuple T vals)(rv:zad xs vals.toList)(hl:xs.length≤sizeLine):Inv X pins σ (upd H T (.tup xs)) { s with heap:=h',toks:=t' }:=by
 have hTn:H T=none:=I.hok.fresh hT
 have old:∀ {b:Addr} {o:Obj},s.heap.get? b=some o→b≠T:=fun {b o} e z=>absurd (Nat.lt_of_lt_of_le (Heap.lt_size e) hT) (by rw[z]; exact Nat.lt_irrefl _)
 have trk:∀b u,H b=some u→b ∉ ch:=fun b u e z=>by
  rw[(hch b z).1] at e; cases e
 have up:∀b u,H b=some u→(upd H T (.tup xs)) b=some u:=zbG hTn
 refine I.step (g':=s.gens) (d':=s.drawn) (ch:=ch) (fun b hb=>?_) (fun b o _ _ hc e _=>k b o hc e) (fun b o _ _ hc e _=>⟨o.slots,k b o hc e⟩) (fun b o _ e n=>by rw[zaH (old e)]; exact n)
  (fun b o hc e=>⟨o,k b o hc e⟩) (fun b ys e=>up _ _ e) (fun b o u e=>up _ _ e) (fun b ps e=>⟨#[],by rw[up _ _ e]; simp⟩) (fun m hm=>?_) (fun b u e=>?_) I.bare
 ·obtain⟨_,f1,_,f3,f4,f5⟩:=hch b hb
  exact⟨f3,f1,f4,f5⟩
 ·obtain⟨o,es,ep,ho,r⟩:=hm
  exact⟨o,es,ep,k _ o (fun z=>(hch _ z).2.1 rfl) ho,r⟩
 ·by_cases hb:b=T
  ·subst hb
   rw[zb0] at e
   cases e
   exact⟨hl,vals.toList,rv,by rw[Array.toArray_toList]; exact ht⟩
  ·rw[zaH hb] at e
   refine(I.hok b u e).stay (fun c v hc q=>k c v ?_ q) (fun d z=>up _ _ z) fun d ys z=>up _ _ z
   rcases hc with z | z
   ·rw[z]; exact trk b u e
   ·exact trk c _ z
theorem zfB {t':Nat}{ch:List Addr}(I:Inv X pins σ H s)(k:∀b o,b ∉ ch→s.heap.get? b=some o→h'.get? b=some o)(hch:∀b∈ch,za3 X pins H b):Inv X pins σ H { s with heap:=h',toks:=t' }:=by
 have trk:∀b u,H b=some u→b ∉ ch:=fun b u e z=>by
  rw[(hch b z).1] at e; cases e
 refine I.step (g':=s.gens) (d':=s.drawn) (ch:=ch) (fun b hb=>?_) (fun b o _ _ hc e _=>k b o hc e) (fun b o _ _ hc e _=>⟨o.slots,k b o hc e⟩) (fun b o _ e n=>n)
  (fun b o hc e=>⟨o,k b o hc e⟩) (fun b ys e=>e) (fun b o u e=>e) (fun b ps e=>⟨#[],by rw[e]; simp⟩) (fun m hm=>?_) (fun b u e=>?_) I.bare
 ·obtain⟨_,f1,_,f3,f4,f5⟩:=hch b hb
  exact⟨f3,f1,f4,f5⟩
 ·obtain⟨o,es,ep,ho,r⟩:=hm
  exact⟨o,es,ep,k _ o (fun z=>(hch _ z).2.1 rfl) ho,r⟩
 ·refine(I.hok b u e).stay (fun c v hc q=>k c v ?_ q) (fun d z=>z) fun d ys z=>z
  rcases hc with z | z
  ·rw[z]; exact trk b u e
  ·exact trk c _ z
end
def Ite (K:PySem.W.Frag)(a:Addr):It:=
 ⟨fun i H=>∃xs x,SqL K H a xs∧xs[i]?=some x,fun i H x H'=>∃T v,x=.ref T∧H T=none∧H'=upd H T (.tup [.int (i:Int),v])∧∀xs,SqL K H a xs→xs[i]?=some v,fun i H=>∃xs,SqL K H a xs∧xs.length=i⟩
theorem zhY {P:Program}{w:World}{K:PySem.W.Frag}{elts:List Expr}{kk:Nat}{tp:Pos}(a e it:Addr)(hei:e≠it)(hae:a≠e)(hai:a≠it):
  zeB P w K (.Tuple elts kk tp) (Ite K a) [e,it] e (fun i h=>(∃old,IsEnum h e it i old)∧h.IsListIter it a i) where
 mem:=by simp
 obj:=fun i h st b hb=>by
  obtain⟨⟨old,he⟩,o,e1,c,d⟩:=st
  have hb':b=e∨b=it:=by simpa using hb
  rcases hb' with rfl | rfl
  ·exact⟨_,he,fun v z=>by cases z⟩
  ·exact⟨o,e1,fun v z=>by rw[d] at z; cases z⟩
 keep:=fun i h h' st k=>by
  obtain⟨⟨old,he⟩,hit⟩:=st
  exact⟨⟨old,k e (by simp) _ he⟩,hit.at fun o x=>k it (by simp) o x⟩
 item:=by
  intro X hP hw hK hc i pins s σ H E I hf st hg
  subst hP hw hK
  obtain⟨xs,x,hq,hx⟩:=hg
  obtain⟨its,rv,p,hz⟩:=I.list hq
  obtain⟨u,hu,ru⟩:=rv.get hx
  have hi:i < its.toArray.size:=by
   have:=(List.getElem?_eq_some_iff.mp hu).1
   simpa using this
  have W:=WalksT.enumerate (prog:=X.prog) (w:=X.w) (A:=X.A) (I.ok.hd hc) e it a hei hae hai its.toArray
  refine W.item i s _ _ hi ⟨st.1,st.2,p.isList⟩ fun T vals h' tk hP hT ht mid k1=>?_
  obtain⟨t,y,hy,rfl⟩:=hP
  have ey:y=u:=by
   have z:its[i]?=some y:=by simpa using hy
   rw[hu] at z; exact(Option.some.inj z).symm
  subst ey
  have hw:∀b∈[e,it],za3 X pins H b:=hf
  have I1:Inv X pins σ (upd H T (.tup [.int (i:Int),x])) { s with heap:=h',toks:=tk }:=zh4 I k1 hw hT ht (.cons ⟨t,rfl⟩ (.cons ru .nil)) (show 2≤sizeLine from zdQ (by decide))
  have neT:∀b∈[e,it],b≠T:=fun b hb z=>W.apart i T h' mid (z ▸ hb)
  have hf1:∀b∈[e,it],za3 X pins (upd H T (.tup [.int (i:Int),x])) b:=fun b hb=>⟨by rw[zaH (neT b hb)]; exact(hf b hb).1,(hf b hb).2⟩
  refine⟨.ref T,rfl,W.go elts kk tp i T _ _ _ mid fun h2 st2 k2=>?_⟩
  have I2:Inv X pins σ (upd H T (.tup [.int (i:Int),x])) { s with heap:=h2,toks:=tk }:=zfB (s:={ s with heap:=h',toks:=tk }) (t':=tk) I1 k2 hf1
  exact⟨.ref T,_,I2,rfl,⟨T,x,rfl,I.hok.fresh hT,rfl,fun ys hy=>by rw[I.list_inj hy hq]; exact hx⟩,⟨st2.1,st2.2.1⟩,fun b hb=>(hf1 b hb).1⟩
 done:=by
  intro X hP hw hK hc i pins s σ H E I hf st hg
  subst hP hw hK
  obtain⟨xs,hq,hx⟩:=hg
  obtain⟨its,rv,p,hz⟩:=I.list hq
  have W:=WalksT.enumerate (prog:=X.prog) (w:=X.w) (A:=X.A) (I.ok.hd hc) e it a hei hae hai its.toArray
  have hi:i=its.toArray.size:=by rw[List.size_toArray,← rv.length]; exact hx.symm
  subst hi
  exact W.done s _ _ ⟨st.1,st.2,p.isList⟩ fun h' tk k1=>⟨rfl,zfB (t':=tk) I k1 hf⟩
 self:=fun A i s Q E st h=>by
  obtain⟨⟨old,he⟩,_⟩:=st
  exact wpAny_pyIter_enum he h
section
variable {X:Cx}
def zgP (K:PySem.W.Frag)(ta:TA):TI:=fun σ H R=>ta σ H fun vs H1=>∃a,vs=[.ref a]∧(∃xs,SqL K H1 a xs)∧R (Ite K a) H1
theorem zga {a:Expr}{ta:TA}{p pos tp:Pos}{elts:List Expr}{kk:Nat}(hg:Gl X "enumerate")(hm:X.mg "enumerate"=none)(hv:bootBuiltins "enumerate"=some (.type "enumerate"))(ha:PA X [a] ta)(hs:starEach [a] X.env=[(false,eval a X.env)]:=by rfl):
  PI X (.Tuple elts kk tp) (.Call (.Name "enumerate" p) [a] [] pos) (zgP X.K ta):=by
 intro pins s σ H R I h
 refine Call_ (zdB I hg hm hv (PyProof.Rows.callWith_type1 (thn (ha pos pins s σ H _ I h) fun us s1 ⟨vs,H1,I1,r1,q1⟩=>?_) hs rfl))
 obtain⟨l,e,⟨xs,hq⟩,q⟩:=q1
 subst e
 cases r1 with
 | cons r rr=>
  cases rr
  cases r
  obtain⟨its,rv,pl,hz⟩:=I1.list hq
  have hll:l < s1.heap.objs.size:=by
   obtain⟨o,e,_⟩:=pl.isList
   exact Heap.lt_size e
  refine call_enumerate_list pl.isList fun h' he hit hsz hk=>?_
  have I2:Inv X pins σ H1 { s1 with heap:=h' }:=I1.kept (t':=s1.toks) hk
  refine wpAny_pyIter_enum he ⟨s1.heap.objs.size + 1,[s1.heap.objs.size + 1,s1.heap.objs.size],_,_,H1,rfl,I2,zhY l _ _ (Nat.succ_ne_self _) (Nat.ne_of_lt (Nat.lt_succ_of_lt hll)) (Nat.ne_of_lt hll),⟨⟨_,he⟩,hit⟩,fun b hb=>?_,q⟩
  have hb':b=s1.heap.objs.size + 1∨b=s1.heap.objs.size:=by simpa using hb
  rcases hb' with rfl | rfl
  ·exact I1.fpOk (Nat.le_succ _) (I1.hok.fresh (Nat.le_succ _))
  ·exact I1.fpOk (Nat.le_refl _) (I1.hok.fresh (Nat.le_refl _))
end
section
variable {X:Cx}
end
section
variable {X:Cx}{Z:Zx}{pos:Pos}
@[irreducible] def zd0 (is:List Nat)(ta:TDA)(tb:TDS):TDS:=fun E dl S=>ta dl S fun ds S1=>match ds with
 | [.ref n]=>(lAt S1 n).isSome=true∧∃W:Nat→Nat→Ev→Sto→Prop,(∃m,W 0 m dl S1)∧∀k m dl S,W k m dl S→match lAt S n with
  | some o=>match (zae o)[k]? with
   | some x=>tb { nx:=fun dl' S'=>∃m',m' < m∧W (k + 1) m' dl' S',rt:=E.rt,bk:=E.nx,ct:=fun dl' S'=>∃m',m' < m∧W (k + 1) m' dl' S' } (zdo is [.int (k:Int),x] dl) S
   | none=>k=(zae o).length∧E.nx dl S
  | none=>False
 | _=>False
theorem zeq {r r':List Addr}{S':Sto}{H':Hp}{n:Nat}{a:Addr}{o:Ob}(hn:r'[n]?=some a)(rel:zav X.K r' S' H')(eo:lAt S' n=some o):∃xs,SqL X.K H' a xs∧Rps r' H' (zae o) xs:=by
 obtain⟨eo,eL⟩:=zbB eo
 obtain⟨a',ha,ob⟩:=rel.at eo
 rw[hn] at ha; cases ha
 exact ob.list eL
theorem zj8 {iter:Expr}{body:List Stmt}{es:List Expr}{kk:Nat}{tp p pos2:Pos}{is:List Nat}{ta:TDA}{tb:TDS}(hp:PassesOwn (model X.prog X.w) X.A X.env X.xe)(hc:X.calm=true)(hN:X.N.Nodup)(hn:Nms X es is)(h2:is.length=2)
  (hg:Gl X "enumerate")(hm:X.mg "enumerate"=none)(hv:bootBuiltins "enumerate"=some (.type "enumerate"))(ha:PDA X Z [iter] ta)(hb:zbX X Z body tb)
  (hlen:(assignEach es X.env).length=is.length:=by rfl)(hst:(assignEach es X.env).findIdx? (·.1)=none:=by rfl)(hse:starEach [iter] X.env=[(false,eval iter X.env)]:=by rfl)
  (hs:∀y,foldedSetIterable (.Call (.Name "enumerate" p) [iter] [] pos2) X.env y=pure y:=by intro _; rfl):PDS X Z (.For (.Tuple es kk tp) (.Call (.Name "enumerate" p) [iter] [] pos2) body [] pos) (zd0 is ta tb):=
 zb1 (zfd hp hc (zga hg hm hv ha hse) (zf3 hc (ze9 hN hn) hlen hst) hb hs) fun F σ H ⟨r,dl,S,E,rs,rel,h,ret⟩=>by
  unfold zd0 at h
  refine⟨r,dl,S,_,rs,rel,h,fun vs H1 r1 ds S1 x1 rel1 p1 q1=>?_⟩
  split at q1
  ·rename_i n
   obtain⟨v,vs',rfl,p2,p3⟩:=p1.uncons
   have z:=p3.unnil
   subst z
   cases p2 with
   | @ref n a hr=>
    obtain⟨hsome,W,⟨m0,w0⟩,turn⟩:=q1
    obtain⟨o1,eo1⟩:=Option.isSome_iff_exists.mp hsome
    obtain⟨xs1,sq1,_⟩:=zeq (r:=r1) hr rel1.b eo1
    refine⟨a,rfl,⟨xs1,sq1⟩,fun k m σ' H'=>∃r' dl' S',Ext r1 r' H1 H'∧Rs r' H' dl' σ'∧Rel X.K Z r' S' H'∧W k m dl' S',⟨m0,r1,dl,S1,Ext.refl,rs.ext x1,rel1,w0⟩,?_⟩
    rintro k m σ2 H2 ⟨r2,dl2,S2,x2,rs2,rel2,w2⟩
    have q:=turn k m dl2 S2 w2
    split at q
    ·rename_i o eo
     obtain⟨xs,sq,pr⟩:=zeq (r:=r2) (x2.adr _ _ hr) rel2.b eo
     split at q
     ·rename_i y ey
      obtain⟨v,hvv,pv⟩:=pr.get ey
      refine .inr ⟨⟨xs,v,sq,hvv⟩,fun σ' H'=>∃m',m' < m∧∃r' dl' S',Ext r1 r' H1 H'∧Rs r' H' dl' σ'∧Rel X.K Z r' S' H'∧W (k + 1) m' dl' S',fun _ _ z=>z,fun v' H' y'=>?_⟩
      obtain⟨T,w,rfl,hT,rfl,hw⟩:=y'
      have ew:w=v:=by
       have z:=hw xs sq
       rw[hvv] at z; exact(Option.some.inj z).symm
      subst ew
      have x3:Ext r2 r2 H2 (upd H2 T (.tup [.int (k:Int),w])):=zg4 hT
      have pp:Rps r2 (upd H2 T (.tup [.int (k:Int),w])) [.int (k:Int),y] [.int (k:Int),w]:=Rps.cons (.int _) (Rps.cons (pv.ext x3) Rps.nil)
      have rel3:=rel2.same (zbG (o:=.tup [.int (k:Int),w]) hT)
      have go:∀σ' H' r' dl' S',Ext r2 r' (upd H2 T (.tup [.int (k:Int),w])) H'→Rs r' H' dl' σ'→Rel X.K Z r' S' H'→(∃m',m' < m∧W (k + 1) m' dl' S')→∃m',m' < m∧∃r' dl' S',Ext r1 r' H1 H'∧Rs r' H' dl' σ'∧Rel X.K Z r' S' H'∧W (k + 1) m' dl' S':=
       fun σ' H' r' dl' S' x rs' rel' ⟨m',hm,w'⟩=>⟨m',hm,r',dl',S',x2.trans (x3.trans x),rs',rel',w'⟩
      refine⟨T,[.int (k:Int),w],rfl,SqT.of zb0,by rw[h2]; rfl,by rw[h2]; rfl,r2,_,S2,_,zgM (rs2.ext x3) pp,rel3,q,⟨go,fun σ' H' r' dl' S' x rs' rel' z=>ret.nx σ' H' r' dl' S' (x1.trans (x2.trans (x3.trans x))) rs' rel' z,go,ret.rt.ext (x1.trans (x2.trans x3))⟩⟩
     ·obtain⟨hk,q⟩:=q
      exact .inl ⟨⟨xs,sq,by rw[← pr.1]; exact hk.symm⟩,ret.nx σ2 H2 r2 dl2 S2 (x1.trans x2) rs2 rel2 q⟩
    ·exact q.elim
  ·exact q1.elim
end
end L3

namespace L3
open PySem PySem.Spec PyProof.Rows L2
section
variable {X:Cx}{Z:Zx}{pos:Pos}
end
end L3

namespace L3
open PySem PySem.Spec PyProof.Rows L2
structure Dm (K:PySem.W.Frag)(C:Addr)(m qual:Str)(st:Stmt)(ps:List Str) where
 f:Addr
 fd:FuncData
 F:Fun K m qual st f fd
 m:Meth K C m f
 b:zbS K fd ps []
structure Fm (P:Program)(w:World)(K:PySem.W.Frag)(mg:Str→Option Value)(base:Heap)(k:Nat)(C:Addr)(x:Str)(ps:List Str)(sd:Sd) where
 f:Addr
 fd:FuncData
 ok:zaX P w K mg base (CXE P w) k f fd ps (upF K sd)
 m:Meth K C x f
 b:zbS K fd ps []
def Dm.mk' {P:Program}{w:World}{K:PySem.W.Frag}{mg:Str→Option Value}{base:Heap}{k:Nat}{C:Addr}{x qual:Str}{st:Stmt}{ps:List Str}{sd:Sd}(d:Dm K C x qual st ps)(h:zaX P w K mg base (CXE P w) k d.f d.fd ps (upF K sd)):Fm P w K mg base k C x ps sd:=
 ⟨d.f,d.fd,h,d.m,d.b⟩
section
variable {X:Cx}{Z:Zx}
end
end L3

namespace L3
open PySem PySem.Spec PyProof.Rows L2
section
variable {X:Cx}{Z:Zx}{pos:Pos}
def zdZ:W2:=fun x y S Q=>match x,y with
 | .ref n,.ref m=>match S[n]?,S[m]? with
  | some (.lst xs),some (.lst ys)=>xs.length + ys.length≤1000∧Q (.ref S.length) (S++[.lst (xs++ys)])
  | _,_=>False
 | _,_=>False
theorem Rps.app {r:List Addr}{H:Hp}:∀ {ds es:List D} {xs ys:List V},Rps r H ds xs→Rps r H es ys→Rps r H (ds++es) (xs++ys)
 | [],es,xs,ys,p,q=>by
  have z:=p.unnil
  subst z
  exact q
 | d::ds,es,xs,ys,p,q=>by
  obtain⟨v,vs,rfl,p1,p2⟩:=p.uncons
  exact Rps.cons p1 (p2.app q)
theorem zha:OpR X (binaryOp .Add) (upO X.K Z (zcf zdZ)):=by
 rw[zcL]
 exact zeA zjt fun x y H Qv ⟨r,S,dx,dy,Q,rel,px,py,q,ret⟩=>by
  unfold zdZ at q
  split at q
  ·rename_i n m
   split at q
   ·rename_i xs ys e1 e2
    obtain⟨hl,q⟩:=q
    cases px with
    | @ref _ a hn=>
     cases py with
     | @ref _ a' hm=>
      obtain⟨z,hz,ob⟩:=rel.at e1
      rw[hn] at hz; cases hz
      obtain⟨z,hz,ob'⟩:=rel.at e2
      rw[hm] at hz; cases hz
      obtain⟨us,h1,p1⟩:=ob
      obtain⟨vs,h2,p2⟩:=ob'
      refine⟨a,a',us,vs,rfl,rfl,h1,h2,?_,fun p hp=>?_⟩
      ·rw[← p1.1,← p2.1]; exact zdQ hl
      ·obtain⟨rel4,x⟩:=rel.push hp (p1.app p2)
       exact ret _ _ _ (.ref S.length) _ x rel4 (zdk rel.len) q
   ·exact q.elim
  ·exact q.elim
theorem zjD {n m:Nat}{S:Sto}{Q:DK}{xs ys:List D}(h1:S[n]?=some (.lst xs))(h2:S[m]?=some (.lst ys))(hl:xs.length + ys.length≤1000)(hq:Q (.ref S.length) (S++[.lst (xs++ys)])):zcf zdZ (.ref n) (.ref m) S Q:=by
 rw[zcL]
 unfold zdZ
 simp only[h1,h2]
 exact⟨hl,hq⟩
structure Kx (K:PySem.W.Frag)(C:Addr):Prop where
 cl:Cls K C
 ha:PySem.W.findIn K (.ref C) "__class__"=some (some (.builtin "object.__class__"))
 hn:PySem.W.specialIn K (.builtin "object.__class__") "__get__"=some (some (.builtin "getset_descriptor.__get__"))
 ht:PySem.W.takesIn K (.builtin "object.__class__")=some true
 hm:PySem.W.mroIn K C (.type "object")=some true
def KT (K:PySem.W.Frag)(cv:Value)(ans:List (Addr×Bool)):Prop:=∀C b,(C,b)∈ans→PySem.W.kitOne K (.ref C) cv=some b∧Kx K C
end
end L3

namespace L3
open PySem PySem.Spec PyProof.Rows L2
section
variable {X:Cx}{Z:Zx}
end
end L3

namespace L3
open PySem PySem.Spec PyProof.Rows L2
section
variable {n:Nat}{I:Addr}{fp wr:List Addr}{P:Nat→Value→Prop}{St:Nat→Shared→Prop}{prog:Program}{w:World}{A:Around}{s:Shared}{E:Value→Shared→Prop}{G:Array GenState→Array GenState→Prop}
end
section
variable {X:Cx}{Z:Zx}
end
end L3


namespace L3
open PySem PySem.Spec PyProof.Rows L2
structure zey (sc around:Scope)(own caps:List Str):Prop where
 kind:sc.kind=.function
 nocell:∀y∈sc.names,y.2≠.cell
 own:∀y∈sc.names,y.2=.local→sc.names.lookup y.1=some .local
 cap:∀y∈caps,sc.names.lookup y=some .free
 out:∀y∈sc.names,y.2=.free→around.names.lookup y.1=some .cell
section
variable {X:Cx}{pins:List (Addr×Obj)}{σ:St}{H:Hp}{s:Shared}
theorem zhz {sc:Scope}{own N:List Str}{caps:List Nat}{cl:List (Str×Addr)}{fp:List Addr}{h1:Heap}{m:Str→Option Value}{tk:Nat}(I:Inv X pins σ H s)(cs:zey sc X.env.scope own N)
  (hN:∀(j:Nat) (y:Str),N[j]?=some y→∃i,caps[j]?=some i∧X.N[i]?=some y)(hlen:caps.length=N.length)
  (c1:∀x c,cl.lookup x=some c→X.env.cells.lookup x=some c)(c2:∀y∈sc.names,y.2=.free→cl.lookup y.1=X.env.cells.lookup y.1)
  (hf:∀b∈fp,za3 X pins H b)(hfo:∀b∈fp,b < s.heap.objs.size)(hns:h1.Ns s.heap.objs.size m)(hk:∀b o,s.heap.get? b=some o→h1.get? b=some o):
  Inv (Cx.comp X sc (own++N) cl s.heap.objs.size s H fp (X.pn++pins)) [] (List.replicate own.length none++zau caps σ) H { s with heap:=h1,toks:=tk }:=by
 have stk:∀b∈frs X.stack,b=X.env.locals∨b∈X.fs:=fun b hb=>List.mem_cons.mp (I.stkSub b hb)
 refine⟨⟨I.ok.mod,cs.kind,I.ok.glob,I.ok.blt,Nat.le_refl _,fun a b c h1 h2=>I.ok.inj a b c (c1 _ _ h1) (c1 _ _ h2),fun y hy=>?_,fun _ _ z=>Bool.noConfusion z,I.ok.hd,I.ok.frames,.inl rfl,fun b hb=>⟨Nat.ne_of_lt (hfo b hb),fun y c e=>(hf b hb).2.2.2.2.1 y c (c1 _ _ e)⟩,
  I.bs,Nat.le_trans I.ok.bsz I.sz,fun b o e hb=>?_,fun b hb z=>?_,I.stack,I.stkFree⟩,rfl,I.bare,Un.kept hk,⟨m,hns,fun i y v e1 e2 e3=>?_⟩,fun y c e=>?_,I.hok.fresh (Nat.le_refl _),fun y c e=>I.freeC y c (c1 _ _ e),fun p hp=>?_,I.hok.kept hk,?_⟩
 ·have hfr:sc.names.lookup y=some .free:=zff cs.nocell hy
  have hm:=zcz hfr
  obtain⟨c,e⟩:=I.ok.has y (.inl (cs.out _ hm rfl))
  exact⟨c,(c2 _ hm rfl).trans e⟩
 ·rcases (hf b hb).2.2.2.1 with z | z
  ·exact I.ok.noex b o e z
  ·exact absurd (Nat.lt_of_lt_of_le (Heap.lt_size (I.ok.bs b o e).1) z) (Nat.lt_irrefl _)
 ·rcases stk b z with z | z
  ·exact(hf b hb).2.1 z
  ·exact(hf b hb).2.2.1 z
 ·rcases Nat.lt_or_ge i own.length with hi | hi
  ·rw[List.getElem?_append_left (by simpa using hi),List.getElem?_replicate] at e2
   simp[hi] at e2
  ·obtain⟨i,rfl⟩:∃k,i=own.length + k:=⟨i - own.length,by omega⟩
   have e1':N[i]?=some y:=by
    rw[List.getElem?_append_right hi] at e1
    simpa using e1
   have e2:(zau caps σ)[i]?=some (some v):=by
    rw[List.getElem?_append_right (by simp)] at e2
    simpa using e2
   obtain⟨j,hj,hy⟩:=hN i y e1'
   have e2':σ[j]?=some (some v):=by
    simp only[zau,List.getElem?_map,hj,Option.map_some,Option.some.injEq] at e2
    cases q:σ[j]? with
    | none=>rw[q] at e2; cases e2
    | some o=>rw[q] at e2; simp at e2; rw[e2]
   have hfr:sc.names.lookup y=some .free:=cs.cap y (List.mem_of_getElem? e1')
   have hm:=zcz hfr
   have hce:X.env.scope.names.lookup y=some .cell:=cs.out _ hm rfl
   obtain⟨m0,_,hl⟩:=I.loc
   obtain⟨u,r,l⟩:=hl j y v hy e2' (.inr (.inl hce))
   refine⟨u,r,.inr ⟨zem hfr,?_⟩⟩
   rcases l with ⟨k,_⟩ | ⟨_,c,ec,hcell⟩
   ·rw[show X.env.kindOf y=some .cell from hce] at k; cases k
   ·exact⟨c,(c2 _ hm rfl).trans ec,hcell.keeps hk⟩
 ·obtain⟨v,z⟩:=I.cell y c (c1 _ _ e)
  exact⟨v,z.keeps hk⟩
 ·have hp':p∈X.pn++pins:=by simpa using hp
  obtain⟨p1,p2,p3,p4,p5⟩:=I.pin p hp'
  refine⟨hk _ _ p1,p2,Nat.ne_of_lt (Heap.lt_size p1),fun z=>?_,p5⟩
  rcases stk _ z with z | z
  ·exact p3 z
  ·exact p4 z
 ·simp[zau,hlen]
end
section
variable {X:Cx}{elt iter:Expr}{elts:List Expr}{kk:Nat}{tp:Pos}{pos:Pos}{sc:Scope}{own N:List Str}{caps:List Nat}{wi:TI}{gt:TG}{te:TE}
end
end L3

namespace L3
open PySem PySem.Spec PyProof.Rows L2
section
variable {X:Cx}{Z:Zx}{elt:Expr}{pos:Pos}{sc ar:Scope}{N:List Str}{caps:List Nat}
theorem zjf {r:List Addr}{H:Hp}{dl:Ev}{σ:St}{d1 d2:D}{v1 v2:V}(h:Rs r H dl σ)(p1:Rp r H d1 v1)(p2:Rp r H d2 v2):Rs r H (some d1::some d2::zbh caps dl) (some v1::some v2::zau caps σ):=by
 have z:=zgz (caps:=caps) h p2
 refine⟨by have:=z.1; simp only[List.length_cons] at this ⊢; omega,fun i e hi=>?_⟩
 cases i with
 | zero=>simp at hi; subst hi; exact⟨v1,rfl,p1⟩
 | succ i=>exact z.2 i e (by simpa using hi)
end
section
variable {X:Cx}{Z:Zx}{pos:Pos}
end
section
variable {X:Cx}{Z:Zx}
end
end L3

namespace L3
open PySem PySem.W PyProof.Rows PySem.Calls
def goT (tb:String→Option Builtin)(p:Program)(w:World)(n₀:Nat)(ann:Option Value):Nat→SharedT→Thread→Option SharedT
 | 0,_,_=>none
 | k + 1,s,t=>bif through t then some s else bif stepOk n₀ ann t then (stepT (denote tb) p w s t).bind (fun r=>goT tb p w n₀ ann k r.1 r.2) else none
theorem zgJ {tb:String→Option Builtin}{p:Program}{w:World}{n₀:Nat}{ann:Option Value}:∀ {n:Nat} {s s':SharedT} {t:Thread},goT tb p w n₀ ann n s t=some s'→topRun tb p w n₀ ann n s.abs t=some s'.abs
 | 0,_,_,_,q=>nomatch q
 | n + 1,s,s',t,q=>by
  unfold goT at q
  unfold topRun
  cases c1:through t
  ·rw[c1] at q
   cases c2:stepOk n₀ ann t
   ·rw[c2] at q
    exact nomatch q
   ·rw[c2] at q
    obtain⟨⟨s2,t2⟩,c3,q⟩:=Option.bind_eq_some_iff.mp q
    rw[stepT_spec c3]
    exact zgJ q
  ·rw[c1] at q
   cases q
   rfl
def zfh (os:Array Obj):Nat→Nat→Nat→BT
 | 0,_,_=>.nil
 | f + 1,a,b=>match os[b]? with
  | some o=>.node o (zfh os f (2 * a) (a + b)) (zfh os f (2 * a) (2 * a + b))
  | none=>.nil
noncomputable def bootT (P:Params):BT:=zfh (boot_heap P).objs 6 1 0
noncomputable abbrev zg0 (w:World)(os:OsState):SharedT:=⟨bootT w.params,11,(boot_heap w.params).life,Array.mk [],boot_drawn,boot_toks,os⟩
def zeH (s:SharedT)(a:Addr):Option Obj:=if a < s.n then (match s.tree.get a with | some o=>alive o | none=>s.abs.heap.get? a) else none
theorem zjm (s:SharedT)(a:Addr):s.abs.heap.get? a=zeH s a:=by
 unfold zeH
 split
 ·rename_i h
  cases e:s.tree.get a with
  | none=>rfl
  | some o=>exact abs_get h e
 ·rename_i h
  exact abs_get_none h
theorem ziv (l:List Addr)(s:SharedT):l.map s.abs.heap.get?=l.map (zeH s):=List.map_congr_left fun a _=>zjm s a
noncomputable abbrev zgh (p q:Program)(loose:List Str)(Xt:Shared→Bool){α:Type}(YT:SharedT→α)(g0:Bool)(w:World)(s:SharedT):=
 ((staticsOk (importedModules p.main.body) (boot_heap w.params) s.abs.heap && namesBound p s.abs.heap && gensDone s.abs && laidKept (boot_heap w.params) s.abs.heap),openSeen q loose (importedModules p.main.body) Xt g0 s.abs,YT s)
theorem zjE {p q:Program}{loose:List Str}{Xt:Shared→Bool}{α:Type}{Yf:Shared→α}{YT:SharedT→α}{Ya:World→α}{N:Nat}{g0:Bool}{ann:Option Value}(hY:∀s:SharedT,Yf s.abs=YT s)(e:opening p=plainProg p.main.scope.names)(hN:Nat.ble 600 N=true)(f:∀s,fenceModules? p s=some s)
  (size:∀w:World,((boot_heap w.params).isNs mainGlobals && (Array.mk []:Array GenState).size == 0,(boot_heap w.params).objs.size,(boot_heap w.params).nsMap mainGlobals "__annotations__")=(true,11,ann))
  (run:∀w:World,(fun os=>(goT treeTable p w 11 ann N (zg0 w os) (topStub p)).map fun s=>zgh p q loose Xt YT g0 w s)=fun _=>some (true,openGood q loose,Ya w)):LeftO p q loose Xt Yf Ya N g0:=fun w=>by
 obtain⟨⟨h,gs,d,k,os⟩,e1,e'⟩:=Option.map_eq_some_iff.mp (boot_open e hN f w)
 obtain⟨rfl,rfl,rfl,rfl⟩:h=boot_heap w.params∧gs=Array.mk []∧d=boot_drawn∧k=boot_toks:=by simpa using e'
 obtain⟨y1,y2,y3⟩:_∧_∧_:=by simpa only [Prod.mk.injEq] using size w
 obtain⟨s',r1,r2⟩:=Option.map_eq_some_iff.mp (congrFun (run w) os)
 obtain⟨l1,l2,l3⟩:_∧_∧_:=by simpa only [Prod.mk.injEq] using r2
 have r:topRun treeTable p w 11 ann N ⟨boot_heap w.params,Array.mk [],boot_drawn,boot_toks,os⟩ (topStub p)=some s'.abs:=by
  have z:=zgJ r1
  exact z
 have t:topFrom treeTable p w N ⟨boot_heap w.params,Array.mk [],boot_drawn,boot_toks,os⟩=some s'.abs:=by
  unfold topFrom
  dsimp only
  rw[y1,y2,y3,r]
  show (match staticsOk (importedModules p.main.body) (boot_heap w.params) s'.abs.heap && namesBound p s'.abs.heap && gensDone s'.abs && laidKept (boot_heap w.params) s'.abs.heap with | true=>_ | false=>_)=_
  rw[l1]
 unfold openEnds
 rw[e1]
 show Option.map _ (topFrom treeTable p w N _)=_
 rw[t]
 exact congrArg some (Prod.ext l2 ((hY s').trans l3))
end L3

namespace L3
open PySem PySem.Spec PyProof.Rows L2
section
variable {X:Cx}{Z:Zx}{pos:Pos}
theorem zeM:∀ {us:List Value} {ms:List Int},IntsAre us ms→zad (ms.map V.int) us
 | _,_,.nil=>.nil
 | _,_,.cons n t h=>.cons ⟨t,rfl⟩ (zeM h)
end
section
variable {X:Cx}{Z:Zx}{elt:Expr}{pos:Pos}{sc ar:Scope}{N:List Str}{caps:List Nat}
end
end L3

namespace L3
open PySem PySem.Spec PyProof.Rows L2
section
variable {X:Cx}{Z:Zx}{pos:Pos}
end
end L3

namespace L3
open PySem PySem.Spec PyProof.Rows L2
section
variable {n:Nat}{I:Addr}{fp wr:List Addr}{P:Nat→Value→Prop}{St:Nat→Shared→Prop}{prog:Program}{w:World}{A:Around}{s:Shared}{E:Value→Shared→Prop}{G:Array GenState→Array GenState→Prop}
end
section
variable {X:Cx}{Z:Zx}{pos:Pos}
end
end L3

namespace L3
open PySem PySem.Spec PyProof.Rows L2
section
variable {X:Cx}{Z:Zx}{pos:Pos}
theorem Rps.ins {r:List Addr}{H:Hp}{y:D}{w:V}(hy:Rp r H y w):∀ {ds:List D} {xs:List V} (k:Nat),Rps r H ds xs→Rps r H (ds.take k++y::ds.drop k) (xs.take k++w::xs.drop k)
 | [],xs,k,h=>by
  have z:=h.unnil
  subst z
  simpa using Rps.cons hy h
 | d::ds,xs,0,h=>Rps.cons hy h
 | d::ds,xs,k + 1,h=>by
  obtain⟨v,vs,rfl,p1,p2⟩:=h.uncons
  exact Rps.cons p1 (Rps.ins hy k p2)
theorem zgA {P:Sto→D→D→Prop}{A:Around}{H:Hp}{s:Shared}{r:List Addr}{S:Sto}{ds es:List D}{xs ys:List V}{is js:List Value}(f:∀ {d e:D} {v1 v2:V} {u1 u2:Value},P S d e→Rp r H d v1→Rp r H e v2→zac v1 u1→zac v2 u2→SeqAt.EqAt A s u1 u2 true)(pr:Rps r H ds xs)(pr':Rps r H es ys)(ri:zad xs is)(rj:zad ys js)(hall:∀(k:Nat) (d e:D),ds[k]?=some d→es[k]?=some e→P S d e):
  ∀(k:Nat) (h1:k < is.toArray.size) (h2:k < js.toArray.size),SeqAt.EqAt A s is.toArray[k] js.toArray[k] true:=fun k h1 h2=>by
 have l3:=ri.length
 have l4:=rj.length
 have k1:k < is.length:=by simpa using h1
 have k2:k < js.length:=by simpa using h2
 obtain⟨d,hd,pd⟩:=pr.get' (List.getElem?_eq_getElem (l:=xs) (i:=k) (by omega))
 obtain⟨e,he,pe⟩:=pr'.get' (List.getElem?_eq_getElem (l:=ys) (i:=k) (by omega))
 obtain⟨u1,hu1,ru1⟩:=ri.get (List.getElem?_eq_getElem (l:=xs) (i:=k) (by omega))
 obtain⟨u2,hu2,ru2⟩:=rj.get (List.getElem?_eq_getElem (l:=ys) (i:=k) (by omega))
 have z1:is.toArray[k]=u1:=by
  rw[List.getElem?_eq_getElem k1] at hu1
  simpa using Option.some.inj hu1
 have z2:js.toArray[k]=u2:=by
  rw[List.getElem?_eq_getElem k2] at hu2
  simpa using Option.some.inj hu2
 rw[z1,z2]
 exact f (hall k d e hd he) pd pe ru1 ru2
end
end L3

namespace L3
open PySem PySem.Spec PyProof.Rows L2
section
variable {X:Cx}{Z:Zx}{elt iter:Expr}{elts:List Expr}{kk:Nat}{tp pos:Pos}{sc ar:Scope}{own N:List Str}{caps:List Nat}{wi:TI}{gt:TG}
end
end L3

namespace L3
open PySem PySem.Spec PyProof.Rows L2
section
variable {X:Cx}{Z:Zx}
end
end L3

namespace L3
open PySem PySem.Spec PyProof.Rows L2
section
variable {X:Cx}{Z:Zx}{pos:Pos}
end
end L3

set_option Elab.async false
set_option linter.all false
set_option maxRecDepth 100000
set_option maxHeartbeats 40000000
namespace Mine
open PySem PySem.Spec PyProof.Rows L2 L3
theorem fsc {N P:List Str}{sc:Scope}(a:sc.kind=.function:=by rfl)(b:sc.isCoroutine=false:=by rfl)(c:sc.isGenerator=false:=by rfl)(d:N.Nodup:=by decide +kernel)(e:N.take P.length=P:=by rfl)(f:∀x∈P,sc.names.lookup x=some .local∨sc.names.lookup x=some .cell:=by decide +kernel)(g:∀y∈sc.names,y.2≠.free:=by decide +kernel):zbe N P sc:=⟨a,b,c,d,e,f,g⟩
theorem csc {sc ar:Scope}{x:Str}{caps:List Str}(a:sc.kind=.function:=by rfl)(b:∀y∈sc.names,y.2≠.cell:=by decide +kernel)(c:∀y∈sc.names,y.2=.local→sc.names.lookup y.1=some .local:=by decide +kernel)(d:sc.names.lookup x=some .local:=by rfl)(e:∀y∈caps,sc.names.lookup y=some .free:=by decide +kernel)(f:∀y∈sc.names,y.2=.free→ar.names.lookup y.1=some .cell:=by decide +kernel):zci sc ar x caps:=⟨a,b,c,d,e,f⟩
theorem cscG {sc ar:Scope}{own caps:List Str}(a:sc.kind=.function:=by rfl)(b:∀y∈sc.names,y.2≠.cell:=by decide +kernel)(c:∀y∈sc.names,y.2=.local→sc.names.lookup y.1=some .local:=by decide +kernel)(e:∀y∈caps,sc.names.lookup y=some .free:=by decide +kernel)(f:∀y∈sc.names,y.2=.free→ar.names.lookup y.1=some .cell:=by decide +kernel):zey sc ar own caps:=⟨a,b,c,e,f⟩
abbrev Ln (sp:Sd)(n:Nat):Prop:=∀ds S Q ex,sp ds S Q ex→ds.length=n
theorem zaG {X:Cx}{x:Str}{p pos:Pos}{e:Expr}{es:List Expr}{t:TDA}{k j:Nat}{ps:List Str}{sd:Sd}{ex:Ev→Addr→Sto→Prop}(G:Fk X.prog X.w X.K X.mg X.base k x ps sd)(hr:zaw j X.A)(ha:PDA X ⟨ex,Z0.w⟩ (e::es) t)(hk:k≤j:=by decide)(hg:Gl X x:=by rfl)
  (hdb:(x == ("__debug__":Str))=false:=by decide)(he:starEach (e::es) X.env=(false,eval e X.env)::starEach es X.env:=by rfl)(hpl:(backTo pos (starEach es X.env)).any (·.1)=false:=by rfl):PD X ⟨ex,Z0.w⟩ (.Call (.Name x p) (e::es) [] pos) (zdU ex sd t):=zdd G (hr.mono hk) zdc hg ha hdb he hpl
def top (i:Nat):Stmt:=PySem.Challenge.pw_boxnarrow_k71_told_and_counts.main.body.getD i (.Pass ⟨0,0,0,0⟩)
abbrev zcp:Stmt:=top 6
abbrev zc3:List Str:=["_law_cell","_law_k"]
theorem ziJ:zbe ["_law_cell","_law_k"] zc3 (zah zcp):=fsc
abbrev zcm:Stmt:=top 9
abbrev zc4:List Str:=["_law_cell","_law_k"]
theorem ze5:zbe ["_law_cell","_law_k","_law_low"] zc4 (zah zcm):=fsc
abbrev zb6:Stmt:=top 10
abbrev zdJ:List Str:=["_law_cell"]
theorem zdF:zbe ["_law_cell","_law_spans","_law_number","_law_fates"] zdJ (zah zb6):=fsc
abbrev zbZ:Stmt:=top 11
abbrev zdw:List Str:=["_law_cells","_law_size"]
theorem zji:zbe ["_law_cells","_law_size"] zdw (zah zbZ):=fsc
abbrev zcw:Stmt:=top 12
abbrev zdy:List Str:=["_law_book_here"]
theorem zcN:zbe ["_law_book_here","_law_due_here","_law_many","_law_words","_law_number","_law_entry","_law_word","_law_k"] zdy (zah zcw):=fsc
abbrev zcg:Stmt:=top 2
abbrev zdP:List Str:=["book"]
theorem zhw:zbe ["book"] zdP (zah zcg):=fsc
abbrev zcE:Stmt:=top 7
abbrev zb9:List Str:=["_law_found"]
theorem zhE:zbe ["_law_found"] zb9 (zah zcE):=fsc
abbrev zba:Stmt:=top 8
abbrev za7:List Str:=["_law_found","_law_due_here"]
theorem zdq:zbe ["_law_found","_law_due_here"] za7 (zah zba):=fsc
abbrev zcC:Stmt:=top 5
abbrev zdI:List Str:=["_law_script","_law_k"]
theorem ziN:zbe ["_law_script","_law_k"] zdI (zah zcC):=fsc
abbrev zb4:Stmt:=top 3
abbrev zdj:List Str:=["book"]
theorem zgI:zbe ["book","words"] zdj (zah zb4):=fsc
abbrev zbL:Stmt:=top 13
abbrev zed:List Str:=["_law_script"]
theorem zcr:zbe ["_law_script","_law_size","_law_cells","_law_book_here","_law_handed","_law_due_here","_law_found","_law_entry"] zed (zah zbL):=fsc
def vw:Program:={ PySem.Challenge.pw_boxnarrow_k71_told_and_counts with main:={ PySem.Challenge.pw_boxnarrow_k71_told_and_counts.main with body:=[top 1,top 2,top 3,top 5,top 6,top 7,top 8,top 9,top 10,top 11,top 12,top 13] } }
noncomputable def kp:Params→PySem.W.Frag:=fun P=>
 (nat_lit 2,(.mk .none none (.dict #[] 0) #[]))::
 (nat_lit 3,(.mk (.type "dict") none (.dict #[(PySem.DictEntry.mk (PySem.PyData.keyHash P "__name__") (.str "__name__" 165) (.str "law_boxnarrow_k71_told_and_counts" 206)),(PySem.DictEntry.mk (PySem.PyData.keyHash P "__doc__") (.str "__doc__" 166) .none),(PySem.DictEntry.mk (PySem.PyData.keyHash P "__package__") (.str "__package__" 167) .none),(PySem.DictEntry.mk (PySem.PyData.keyHash P "__loader__") (.str "__loader__" 168) (.builtin "__main__.__loader__#opaque")),(PySem.DictEntry.mk (PySem.PyData.keyHash P "__spec__") (.str "__spec__" 169) .none),(PySem.DictEntry.mk (PySem.PyData.keyHash P "__annotations__") (.str "__annotations__" 170) (.ref 6)),(PySem.DictEntry.mk (PySem.PyData.keyHash P "__builtins__") (.str "__builtins__" 171) (.ref 4)),(PySem.DictEntry.mk (PySem.PyData.keyHash P "__file__") (.str "__file__" 173) (.str "/claim/cut.py" 172)),(PySem.DictEntry.mk (PySem.PyData.keyHash P "__cached__") (.str "__cached__" 174) .none),(PySem.DictEntry.mk (PySem.PyData.keyHash P "TOLD_WORDS") (.str "TOLD_WORDS" 193) (.ref 15)),(PySem.DictEntry.mk (PySem.PyData.keyHash P "told") (.str "told" 199) (.ref 20)),(PySem.DictEntry.mk (PySem.PyData.keyHash P "counts") (.str "counts" 205) (.ref 25)),(PySem.DictEntry.mk (PySem.PyData.keyHash P "_law_cell_at") (.str "_law_cell_at" 215) (.ref 32)),(PySem.DictEntry.mk (PySem.PyData.keyHash P "_law_mix") (.str "_law_mix" 223) (.ref 39)),(PySem.DictEntry.mk (PySem.PyData.keyHash P "_law_whole") (.str "_law_whole" 230) (.ref 46)),(PySem.DictEntry.mk (PySem.PyData.keyHash P "_law_alike") (.str "_law_alike" 236) (.ref 51)),(PySem.DictEntry.mk (PySem.PyData.keyHash P "_law_span") (.str "_law_span" 245) (.ref 58)),(PySem.DictEntry.mk (PySem.PyData.keyHash P "_law_fate") (.str "_law_fate" 251) (.ref 63)),(PySem.DictEntry.mk (PySem.PyData.keyHash P "_law_book") (.str "_law_book" 257) (.ref 68)),(PySem.DictEntry.mk (PySem.PyData.keyHash P "_law_due") (.str "_law_due" 271) (.ref 75)),(PySem.DictEntry.mk (PySem.PyData.keyHash P "law") (.str "law" 285) (.ref 82))] 21) #[]))::
 (nat_lit 6,(.mk (.type "dict") none (.dict #[] 0) #[]))::
 (nat_lit 15,(.mk (.type "tuple") none (.seq #[(.str "full" 189),(.str "one" 190),(.str "small" 191),(.str "waits" 192)] 0) #[]))::
 (nat_lit 16,(.mk (.type "tuple") none (.seq #[] 0) #[]))::
 (nat_lit 19,(.mk (.type "code") none (.fields #[(.str "told" 194),(.str "told" 195),(.str "/claim/cut.py" 196),(.int 3 0),(.int 1 0),(.int 0 0),(.int 0 0),(.int 3 0),(.ref 16),(.bool Bool.true),(.int 181 0),(.ref 17),.none,.none,.none,(.ref 18),(.int 197 0),(.int 3 0),(.str "/claim/cut.py" 198)]) #[]))::
 (nat_lit 20,⟨(.type "function"),none,.func (PySem.W.fnOf "told" "told" (zaF (top 2)) (zaE (top 2)) (zah (top 2)) .none .none .none (.str "boxnarrow.islands" 187) none (.ref 19) .none),#[]⟩)::
 (nat_lit 21,(.mk (.type "tuple") none (.seq #[] 0) #[]))::
 (nat_lit 24,(.mk (.type "code") none (.fields #[(.str "counts" 200),(.str "counts" 201),(.str "/claim/cut.py" 202),(.int 5 0),(.int 1 0),(.int 0 0),(.int 0 0),(.int 3 0),(.ref 21),(.bool Bool.true),(.int 181 0),(.ref 22),.none,.none,.none,(.ref 23),(.int 203 0),(.int 5 0),(.str "/claim/cut.py" 204)]) #[]))::
 (nat_lit 25,⟨(.type "function"),none,.func (PySem.W.fnOf "counts" "counts" (zaF (top 3)) (zaE (top 3)) (zah (top 3)) .none .none .none (.str "boxnarrow.islands" 187) none (.ref 24) .none),#[]⟩)::
 (nat_lit 26,(.mk (.type "tuple") none (.seq #[] 0) #[]))::
 (nat_lit 28,(.mk (.type "tuple") none (.seq #[(.str "_law_script" 211),(.str "_law_k" 212)] 0) #[]))::
 (nat_lit 29,(.mk (.type "tuple") none (.seq #[] 0) #[]))::
 (nat_lit 31,(.mk (.type "code") none (.fields #[(.str "_law_cell_at" 208),(.str "_law_cell_at" 209),(.str "/claim/cut.py" 210),(.int 9 0),(.int 2 0),(.int 0 0),(.int 0 0),(.int 3 0),(.ref 26),(.bool Bool.true),(.int 181 0),(.ref 27),.none,(.ref 28),(.ref 29),(.ref 30),(.int 213 0),(.int 9 0),(.str "/claim/cut.py" 214)]) #[]))::
 (nat_lit 32,⟨(.type "function"),none,.func (PySem.W.fnOf "_law_cell_at" "_law_cell_at" (zaF (top 5)) (zaE (top 5)) (zah (top 5)) .none .none .none (.str "law_boxnarrow_k71_told_and_counts" 206) none (.ref 31) .none),#[]⟩)::
 (nat_lit 33,(.mk (.type "tuple") none (.seq #[] 0) #[]))::
 (nat_lit 35,(.mk (.type "tuple") none (.seq #[(.str "_law_cell" 219),(.str "_law_k" 220)] 0) #[]))::
 (nat_lit 36,(.mk (.type "tuple") none (.seq #[] 0) #[]))::
 (nat_lit 38,(.mk (.type "code") none (.fields #[(.str "_law_mix" 216),(.str "_law_mix" 217),(.str "/claim/cut.py" 218),(.int 13 0),(.int 2 0),(.int 0 0),(.int 0 0),(.int 3 0),(.ref 33),(.bool Bool.true),(.int 181 0),(.ref 34),.none,(.ref 35),(.ref 36),(.ref 37),(.int 221 0),(.int 13 0),(.str "/claim/cut.py" 222)]) #[]))::
 (nat_lit 39,⟨(.type "function"),none,.func (PySem.W.fnOf "_law_mix" "_law_mix" (zaF (top 6)) (zaE (top 6)) (zah (top 6)) .none .none .none (.str "law_boxnarrow_k71_told_and_counts" 206) none (.ref 38) .none),#[]⟩)::
 (nat_lit 40,(.mk (.type "tuple") none (.seq #[] 0) #[]))::
 (nat_lit 42,(.mk (.type "tuple") none (.seq #[(.str "_law_found" 227)] 0) #[]))::
 (nat_lit 43,(.mk (.type "tuple") none (.seq #[] 0) #[]))::
 (nat_lit 45,(.mk (.type "code") none (.fields #[(.str "_law_whole" 224),(.str "_law_whole" 225),(.str "/claim/cut.py" 226),(.int 15 0),(.int 1 0),(.int 0 0),(.int 0 0),(.int 3 0),(.ref 40),(.bool Bool.true),(.int 181 0),(.ref 41),.none,(.ref 42),(.ref 43),(.ref 44),(.int 228 0),(.int 15 0),(.str "/claim/cut.py" 229)]) #[]))::
 (nat_lit 46,⟨(.type "function"),none,.func (PySem.W.fnOf "_law_whole" "_law_whole" (zaF (top 7)) (zaE (top 7)) (zah (top 7)) .none .none .none (.str "law_boxnarrow_k71_told_and_counts" 206) none (.ref 45) .none),#[]⟩)::
 (nat_lit 47,(.mk (.type "tuple") none (.seq #[] 0) #[]))::
 (nat_lit 50,(.mk (.type "code") none (.fields #[(.str "_law_alike" 231),(.str "_law_alike" 232),(.str "/claim/cut.py" 233),(.int 17 0),(.int 2 0),(.int 0 0),(.int 0 0),(.int 3 0),(.ref 47),(.bool Bool.true),(.int 181 0),(.ref 48),.none,.none,.none,(.ref 49),(.int 234 0),(.int 17 0),(.str "/claim/cut.py" 235)]) #[]))::
 (nat_lit 51,⟨(.type "function"),none,.func (PySem.W.fnOf "_law_alike" "_law_alike" (zaF (top 8)) (zaE (top 8)) (zah (top 8)) .none .none .none (.str "law_boxnarrow_k71_told_and_counts" 206) none (.ref 50) .none),#[]⟩)::
 (nat_lit 52,(.mk (.type "tuple") none (.seq #[] 0) #[]))::
 (nat_lit 54,(.mk (.type "tuple") none (.seq #[(.str "_law_cell" 240),(.str "_law_k" 241),(.str "_law_low" 242)] 0) #[]))::
 (nat_lit 55,(.mk (.type "tuple") none (.seq #[] 0) #[]))::
 (nat_lit 57,(.mk (.type "code") none (.fields #[(.str "_law_span" 237),(.str "_law_span" 238),(.str "/claim/cut.py" 239),(.int 27 0),(.int 2 0),(.int 0 0),(.int 0 0),(.int 3 0),(.ref 52),(.bool Bool.true),(.int 181 0),(.ref 53),.none,(.ref 54),(.ref 55),(.ref 56),(.int 243 0),(.int 27 0),(.str "/claim/cut.py" 244)]) #[]))::
 (nat_lit 58,⟨(.type "function"),none,.func (PySem.W.fnOf "_law_span" "_law_span" (zaF (top 9)) (zaE (top 9)) (zah (top 9)) .none .none .none (.str "law_boxnarrow_k71_told_and_counts" 206) none (.ref 57) .none),#[]⟩)::
 (nat_lit 59,(.mk (.type "tuple") none (.seq #[] 0) #[]))::
 (nat_lit 62,(.mk (.type "code") none (.fields #[(.str "_law_fate" 246),(.str "_law_fate" 247),(.str "/claim/cut.py" 248),(.int 32 0),(.int 1 0),(.int 0 0),(.int 0 0),(.int 3 0),(.ref 59),(.bool Bool.true),(.int 181 0),(.ref 60),.none,.none,.none,(.ref 61),(.int 249 0),(.int 32 0),(.str "/claim/cut.py" 250)]) #[]))::
 (nat_lit 63,⟨(.type "function"),none,.func (PySem.W.fnOf "_law_fate" "_law_fate" (zaF (top 10)) (zaE (top 10)) (zah (top 10)) .none .none .none (.str "law_boxnarrow_k71_told_and_counts" 206) none (.ref 62) .none),#[]⟩)::
 (nat_lit 64,(.mk (.type "tuple") none (.seq #[] 0) #[]))::
 (nat_lit 67,(.mk (.type "code") none (.fields #[(.str "_law_book" 252),(.str "_law_book" 253),(.str "/claim/cut.py" 254),(.int 38 0),(.int 2 0),(.int 0 0),(.int 0 0),(.int 3 0),(.ref 64),(.bool Bool.true),(.int 181 0),(.ref 65),.none,.none,.none,(.ref 66),(.int 255 0),(.int 38 0),(.str "/claim/cut.py" 256)]) #[]))::
 (nat_lit 68,⟨(.type "function"),none,.func (PySem.W.fnOf "_law_book" "_law_book" (zaF (top 11)) (zaE (top 11)) (zah (top 11)) .none .none .none (.str "law_boxnarrow_k71_told_and_counts" 206) none (.ref 67) .none),#[]⟩)::
 (nat_lit 69,(.mk (.type "tuple") none (.seq #[] 0) #[]))::
 (nat_lit 71,(.mk (.type "tuple") none (.seq #[(.str "_law_book_here" 261),(.str "_law_due_here" 262),(.str "_law_many" 263),(.str "_law_words" 264),(.str "_law_number" 265),(.str "_law_entry" 266),(.str "_law_word" 267),(.str "_law_k" 268)] 0) #[]))::
 (nat_lit 72,(.mk (.type "tuple") none (.seq #[] 0) #[]))::
 (nat_lit 74,(.mk (.type "code") none (.fields #[(.str "_law_due" 258),(.str "_law_due" 259),(.str "/claim/cut.py" 260),(.int 40 0),(.int 1 0),(.int 0 0),(.int 0 0),(.int 3 0),(.ref 69),(.bool Bool.true),(.int 181 0),(.ref 70),.none,(.ref 71),(.ref 72),(.ref 73),(.int 269 0),(.int 40 0),(.str "/claim/cut.py" 270)]) #[]))::
 (nat_lit 75,⟨(.type "function"),none,.func (PySem.W.fnOf "_law_due" "_law_due" (zaF (top 12)) (zaE (top 12)) (zah (top 12)) .none .none .none (.str "law_boxnarrow_k71_told_and_counts" 206) none (.ref 74) .none),#[]⟩)::
 (nat_lit 76,(.mk (.type "tuple") none (.seq #[] 0) #[]))::
 (nat_lit 78,(.mk (.type "tuple") none (.seq #[(.str "_law_script" 275),(.str "_law_size" 276),(.str "_law_cells" 277),(.str "_law_book_here" 278),(.str "_law_handed" 279),(.str "_law_due_here" 280),(.str "_law_found" 281),(.str "_law_entry" 282)] 0) #[]))::
 (nat_lit 79,(.mk (.type "tuple") none (.seq #[] 0) #[]))::
 (nat_lit 81,(.mk (.type "code") none (.fields #[(.str "law" 272),(.str "law" 273),(.str "/claim/cut.py" 274),(.int 52 0),(.int 1 0),(.int 0 0),(.int 0 0),(.int 3 0),(.ref 76),(.bool Bool.true),(.int 181 0),(.ref 77),.none,(.ref 78),(.ref 79),(.ref 80),(.int 283 0),(.int 52 0),(.str "/claim/cut.py" 284)]) #[]))::
 (nat_lit 82,⟨(.type "function"),none,.func (PySem.W.fnOf "law" "law" (zaF (top 13)) (zaE (top 13)) (zah (top 13)) .none .none .none (.str "law_boxnarrow_k71_told_and_counts" 206) none (.ref 81) .none),#[]⟩)::[]
def ks:List Addr:=nat_lit 2::nat_lit 3::nat_lit 6::nat_lit 15::nat_lit 16::nat_lit 19::nat_lit 20::nat_lit 21::nat_lit 24::nat_lit 25::nat_lit 26::nat_lit 28::nat_lit 29::nat_lit 31::nat_lit 32::nat_lit 33::nat_lit 35::nat_lit 36::nat_lit 38::nat_lit 39::nat_lit 40::nat_lit 42::nat_lit 43::nat_lit 45::nat_lit 46::nat_lit 47::nat_lit 50::nat_lit 51::nat_lit 52::nat_lit 54::nat_lit 55::nat_lit 57::nat_lit 58::nat_lit 59::nat_lit 62::nat_lit 63::nat_lit 64::nat_lit 67::nat_lit 68::nat_lit 69::nat_lit 71::nat_lit 72::nat_lit 74::nat_lit 75::nat_lit 76::nat_lit 78::nat_lit 79::nat_lit 81::nat_lit 82::[]
theorem zc2 (P:Params):ks=(kp P).map (·.1):=by kernel_rfl
noncomputable abbrev hk:PySem.W.Hook:=PySem.W.kHook kp ks zc2
abbrev xt (s:Shared):Bool:=PySem.W.xlAt vw [] s && PySem.W.recOk (PySem.W.RowW.records (PySem.W.OpenRow.toRowW (PySem.W.OpenLaw.row PySem.Challenge.rw_boxnarrow_k71_told_and_counts))) s
theorem zfa:PySem.W.opening PySem.Challenge.pw_boxnarrow_k71_told_and_counts=PySem.W.plainProg PySem.Challenge.pw_boxnarrow_k71_told_and_counts.main.scope.names:=by kernel_rfl
theorem fe_eq (s:Shared):PySem.fenceModules? PySem.Challenge.pw_boxnarrow_k71_told_and_counts s=some s:=by kernel_rfl
theorem si_eq (w:World):((PySem.W.boot_heap w.params).isNs mainGlobals && (Array.mk []:Array GenState).size == 0,(PySem.W.boot_heap w.params).objs.size,(PySem.W.boot_heap w.params).nsMap mainGlobals "__annotations__")=(true,11,some (.ref 6)):=by kernel_rfl
theorem zil (w:World):(fun os=>(L3.goT PySem.treeTable PySem.Challenge.pw_boxnarrow_k71_told_and_counts w 11 (some (.ref 6)) 880 (L3.zg0 w os) (PySem.W.topStub PySem.Challenge.pw_boxnarrow_k71_told_and_counts)).map fun s=>L3.zgh PySem.Challenge.pw_boxnarrow_k71_told_and_counts vw [] xt (fun s=>ks.map (L3.zeH s)) true w s)=fun _=>some (true,PySem.W.openGood vw [],hk.val w):=by kernel_rfl
theorem left:PySem.W.LeftO PySem.Challenge.pw_boxnarrow_k71_told_and_counts vw [] xt hk.obs hk.val 880:=L3.zjE (L3.ziv ks) zfa (by decide) fe_eq si_eq zil

theorem zfx {to ti te:TDE}{dl:Ev}{S:Sto}{E:zcH}{n j:Nat}{k:Int}{xs:List D}{v:D}(hte:∀K:DK,K v S→te dl S K)(hto:∀K:DK,K (.ref n) S→to dl S K)(hti:∀K:DK,K (.int k) S→ti dl S K)(h:S[n]?=some (.lst xs))(hj:ixN xs.length k=some j)(hq:E.nx dl (S.set n (.lst (xs.set j v)))):zd9 to ti te E dl S:=by
 unfold zd9
 refine hte _ (hto _ (hti _ ?_))
 simp only[h,hj]
 exact hq
theorem zbH {n:Nat}{S:Sto}{Q:DK}{xs:List D}(h:S[n]?=some (.lst xs))(hq:Q (.int (xs.length:Nat)) S):irr zcS [.ref n] S Q:=by
 rw[zcU]
 unfold zcS
 simp only[zaR h rfl]
 exact hq
theorem zbs {S:Sto}{n a:Nat}{o u:Ob}(h:S[n]?=some o)(hn:a≠n):(S.set a u)[n]?=some o:=by rw[List.getElem?_set_ne hn]; exact h
theorem zbo {S:Sto}{n:Nat}{o u:Ob}(h:S[n]?=some o):(S.set n u)[n]?=some u:=by
 have hk:=(List.getElem?_eq_some_iff.mp h).1
 simp[hk]
theorem zaq {S:Sto}{n:Nat}{o:Ob}{T:Sto}(h:S[n]?=some o):(S++T)[n]?=some o:=by
 have hk:=(List.getElem?_eq_some_iff.mp h).1
 rw[List.getElem?_append_left hk]
 exact h
theorem zcX {S:Sto}{n:Nat}{o:Ob}(h:S[n]?=some o):n < S.length:=(List.getElem?_eq_some_iff.mp h).1
theorem zja {i n:Nat}{tb:TDS}{E:zcH}{dl:Ev}{S:Sto}{o:Ob}(W:Nat→Ev→Sto→Prop)(h0:W 0 dl S)(hk:∀k dl' S',W k dl' S'→S'[n]?=some o)
  (ht:∀(k:Nat) (x:D) (dl':Ev) (S':Sto) (nx ct:Ev→Sto→Prop),(zae o)[k]?=some x→W k dl' S'→(∀dl2 S2,W (k + 1) dl2 S2→nx dl2 S2)→tb { nx:=nx,rt:=E.rt,bk:=E.nx,ct:=ct } (dl'.set i (some x)) S')(he:∀dl' S',W (zae o).length dl' S'→E.nx dl' S')(hL:zbw o=some o:=by rfl):
  (lAt S n).isSome=true∧∃W:Nat→Nat→Ev→Sto→Prop,(∃m,W 0 m dl S)∧∀k m dl S,W k m dl S→match lAt S n with
  | some o=>match (zae o)[k]? with
   | some x=>tb { nx:=fun dl' S'=>∃m',m' < m∧W (k + 1) m' dl' S',rt:=E.rt,bk:=E.nx,ct:=fun dl' S'=>∃m',m' < m∧W (k + 1) m' dl' S' } (dl.set i (some x)) S
   | none=>E.nx dl S
  | none=>False:=by
 refine⟨by rw[zaR (hk _ _ _ h0) hL]; rfl,fun k m dl' S'=>m + k=(zae o).length∧W k dl' S',⟨(zae o).length,by omega,h0⟩,?_⟩
 rintro k m dl' S' ⟨hm,w⟩
 rw[zaR (hk _ _ _ w) hL]
 show (match (zae o)[k]? with
   | some x=>tb { nx:=fun dl' S''=>∃m',m' < m∧(m' + (k + 1)=(zae o).length∧W (k + 1) dl' S''),rt:=E.rt,bk:=E.nx,ct:=fun dl' S''=>∃m',m' < m∧(m' + (k + 1)=(zae o).length∧W (k + 1) dl' S'') } (dl'.set i (some x)) S'
   | none=>E.nx dl' S')
 split
 ·rename_i x hx
  have hk:k < (zae o).length:=(List.getElem?_eq_some_iff.mp hx).1
  exact ht k x dl' S' _ _ hx w fun dl2 S2 w2=>⟨m - 1,by omega,by omega,w2⟩
 ·rename_i hx
  have hk:k=(zae o).length:=by
   have:=List.getElem?_eq_none_iff.mp hx
   omega
  exact he dl' S' (hk ▸ w)

inductive Nd where
 | number (t b:Int) | unknown (k:Int) | plus (i j:Int) | minus (i j:Int) | times (i j:Int) | power (i n:Int)
def Nd.d:Nd→D
 | .number t b=>.tup [.str "number",.int t,.int b]
 | .unknown k=>.tup [.str "unknown",.int k]
 | .plus i j=>.tup [.str "plus",.int i,.int j]
 | .minus i j=>.tup [.str "minus",.int i,.int j]
 | .times i j=>.tup [.str "times",.int i,.int j]
 | .power i n=>.tup [.str "power",.int i,.int n]
def Nd.ob (cN cU cP cM cT cW:Addr):Nd→Ob
 | .number t b=>.ins cN [("top",.int t),("bottom",.int b)]
 | .unknown k=>.ins cU [("place",.int k)]
 | .plus i j=>.ins cP [("one",.int i),("other",.int j)]
 | .minus i j=>.ins cM [("one",.int i),("other",.int j)]
 | .times i j=>.ins cT [("one",.int i),("other",.int j)]
 | .power i n=>.ins cW [("one",.int i),("many",.int n)]
def inR (m i:Int):Prop:=0≤i∧i < m
def Nd.ok (m q:Int):Nd→Prop
 | .number t b=>(1≤b∧b≤10 ^ 9)∧Int.gcd t b=1∧t.natAbs≤10 ^ 9
 | .unknown k=>inR q k
 | .plus i j=>inR m i∧inR m j
 | .minus i j=>inR m i∧inR m j
 | .times i j=>inR m i∧inR m j
 | .power i n=>inR m i∧2≤n∧n≤6
def frD (p:Int×Int):D:=.tup [.int p.1,.int p.2]
abbrev gt (vs:List (Int×Int))(i:Int):Int×Int:=vs.getD i.toNat (0,1)
theorem ziu {vs:List (Int×Int)}{i:Int}(h:inR vs.length i):gt vs i∈vs:=by
 obtain⟨h0,h1⟩:=h
 have hk:i.toNat < vs.length:=by omega
 have e:gt vs i=vs[i.toNat]:=by simp[gt,hk]
 rw[e]
 exact List.getElem_mem hk
structure zfP (a b c d mn mx:Int):Prop where
 lo:mn=a * c∨mn=a * d∨mn=b * c∨mn=b * d
 l1:mn≤a * c
 l2:mn≤a * d
 l3:mn≤b * c
 l4:mn≤b * d
 hi:mx=a * c∨mx=a * d∨mx=b * c∨mx=b * d
 h1:a * c≤mx
 h2:a * d≤mx
 h3:b * c≤mx
 h4:b * d≤mx
theorem zfP.of {a b c d mn mx:Int}(m1:mn∈[a * c,a * d,b * c,b * d])(m2:∀y∈[a * c,a * d,b * c,b * d],mn≤y)(x1:mx∈[a * c,a * d,b * c,b * d])(x2:∀y∈[a * c,a * d,b * c,b * d],y≤mx):zfP a b c d mn mx:=by
 simp only[List.mem_cons,List.not_mem_nil,or_false] at m1 x1
 exact⟨m1,m2 _ (by simp),m2 _ (by simp),m2 _ (by simp),m2 _ (by simp),x1,x2 _ (by simp),x2 _ (by simp),x2 _ (by simp),x2 _ (by simp)⟩

structure Pows (a b:Int)(n:Nat)(m M:Int):Prop where
 lo:m=a ^ n∨m=b ^ n∨(a < 0∧0 < b∧m=0)
 l1:m≤a ^ n
 l2:m≤b ^ n
 l3:a < 0→0 < b→m≤0
 hi:M=a ^ n∨M=b ^ n
 h1:a ^ n≤M
 h2:b ^ n≤M
theorem zpow {n:Nat}(h:1≤n):(0:Int) ^ n=0:=by
 cases n with
 | zero=>omega
 | succ k=>rw[Int.pow_succ,Int.mul_zero]
theorem Pows.of {a b g mn mx:Int}{n:Nat}(hg:1≤g){l:List Int}(hl:l=[a ^ n * g,b ^ n * g]∧¬ (a < 0∧0 < b)∨l=[a ^ n * g,b ^ n * g,0 ^ n * g]∧a < 0∧0 < b)(hn:1≤n)(m1:mn∈l)(m2:∀y∈l,mn≤y)(x1:mx∈l)(x2:∀y∈l,y≤mx):
  ∃m M,Pows a b n m M∧mn=m * g∧mx=M * g:=by
 have can:∀ {x y:Int},x * g≤y * g→x≤y:=fun {x y} h=>Int.le_of_mul_le_mul_right h (by omega)
 rcases hl with ⟨rfl,hz⟩ | ⟨rfl,hz1,hz2⟩
 ·simp only[List.mem_cons,List.not_mem_nil,or_false] at m1 x1
  have a1:=m2 (a ^ n * g) (by simp)
  have a2:=m2 (b ^ n * g) (by simp)
  have b1:=x2 (a ^ n * g) (by simp)
  have b2:=x2 (b ^ n * g) (by simp)
  obtain⟨m,hm,em⟩:∃m,(m=a ^ n∨m=b ^ n)∧mn=m * g:=by
   rcases m1 with e | e
   ·exact⟨_,.inl rfl,e⟩
   ·exact⟨_,.inr rfl,e⟩
  obtain⟨M,hM,eM⟩:∃m,(m=a ^ n∨m=b ^ n)∧mx=m * g:=by
   rcases x1 with e | e
   ·exact⟨_,.inl rfl,e⟩
   ·exact⟨_,.inr rfl,e⟩
  subst em eM
  exact⟨m,M,⟨hm.elim .inl fun e=>.inr (.inl e),can a1,can a2,fun c1 c2=>absurd ⟨c1,c2⟩ hz,hM,can b1,can b2⟩,rfl,rfl⟩
 ·rw[zpow hn,Int.zero_mul] at m1 m2 x1 x2
  simp only[List.mem_cons,List.not_mem_nil,or_false] at m1 x1
  have a1:=m2 (a ^ n * g) (by simp)
  have a2:=m2 (b ^ n * g) (by simp)
  have a3:=m2 0 (by simp)
  have b1:=x2 (a ^ n * g) (by simp)
  have b2:=x2 (b ^ n * g) (by simp)
  have b3:=x2 0 (by simp)
  obtain⟨m,hm,em⟩:∃m,(m=a ^ n∨m=b ^ n∨m=0)∧mn=m * g:=by
   rcases m1 with e | e | e
   ·exact⟨_,.inl rfl,e⟩
   ·exact⟨_,.inr (.inl rfl),e⟩
   ·exact⟨0,.inr (.inr rfl),by rw[e,Int.zero_mul]⟩
  have bp:(0:Int)≤b ^ n:=Int.pow_nonneg (by omega)
  have bg:=Int.mul_nonneg bp (show 0≤g by omega)
  obtain⟨M,hM,eM⟩:∃m,(m=a ^ n∨m=b ^ n)∧mx=m * g:=by
   rcases x1 with e | e | e
   ·exact⟨_,.inl rfl,e⟩
   ·exact⟨_,.inr rfl,e⟩
   ·exact⟨_,.inr rfl,by omega⟩
  subst em eM
  refine⟨m,M,⟨?_,can a1,can a2,fun _ _=>can (by rw[Int.zero_mul]; exact a3),hM,can b1,can b2⟩,rfl,rfl⟩
  rcases hm with e | e | e
  ·exact .inl e
  ·exact .inr (.inl e)
  ·exact .inr (.inr ⟨hz1,hz2,e⟩)
def Spn (B:Nat)(vs:List (Int×Int)):Prop:=∀p∈vs,p.1≤p.2∧Sz B p.1∧Sz B p.2
theorem Spn.at {B:Nat}{vs:List (Int×Int)}(h:Spn B vs){i:Int}(hi:inR vs.length i):(gt vs i).1≤(gt vs i).2∧Sz B (gt vs i).1∧Sz B (gt vs i).2:=h _ (ziu hi)
theorem Spn.mono {B C:Nat}{vs:List (Int×Int)}(h:Spn B vs)(hc:B≤C):Spn C vs:=fun p hp=>⟨(h p hp).1,(h p hp).2.1.mono hc,(h p hp).2.2.mono hc⟩
theorem zeU {a b:TDS}{E:zcH}{dl:Ev}{S:Sto}(W:Ev→Sto→Prop)(ha:∀nx:Ev→Sto→Prop,(∀dl' S',W dl' S'→nx dl' S')→a { nx:=nx,rt:=E.rt,bk:=E.bk,ct:=E.ct } dl S)(hb:∀dl' S',W dl' S'→b E dl' S'):dSeq a b E dl S:=ha _ hb
theorem zbA {S:Sto}{Q:DK}{xs:List D}(hq:Q (.int (xs.length:Nat)) S):irr zcS [.tup xs] S Q:=by
 rw[zcU]
 exact hq
theorem Spn.set {B:Nat}{vs:List (Int×Int)}(h:Spn B vs){k:Nat}{u:Int}(hu:Sz B u):Spn B (vs.set k (u,u)):=fun p hp=>by
 rcases List.mem_or_eq_of_mem_set hp with e | e
 ·exact h p e
 ·subst e; exact⟨Int.le_refl _,hu,hu⟩
theorem zgF {n:Nat}{i:Int}(h:inR n i):ixN n i=some i.toNat:=by
 obtain⟨h0,h1⟩:=h
 unfold ixN
 split <;> first | omega | rfl | (split <;> first | omega | rfl)
def Nd.wt (ws:List Nat):Nd→Nat
 | .number _ _=>1
 | .unknown _=>1
 | .plus i j=>ws.getD i.toNat 0 + ws.getD j.toNat 0
 | .minus i j=>ws.getD i.toNat 0 + ws.getD j.toNat 0
 | .times i j=>ws.getD i.toNat 0 + ws.getD j.toNat 0
 | .power i n=>n.toNat * ws.getD i.toNat 0
structure zby (q:Int)(ns:List Nd)(ws:List Nat):Prop where
 len:ws.length=ns.length
 ok:∀(k:Nat) (v:Nd),ns[k]?=some v→v.ok k q∧ws.getD k 0=v.wt ws∧1≤v.wt ws∧v.wt ws≤16
theorem zby.nil (q:Int):zby q [] []:=⟨rfl,fun k v h=>by simp at h⟩
theorem zby.w1 {q:Int}{ns:List Nd}{ws:List Nat}(h:zby q ns ws){i:Int}(hi:inR ns.length i):1≤ws.getD i.toNat 0∧ws.getD i.toNat 0≤16:=by
 obtain⟨h0,h1⟩:=hi
 have hk:i.toNat < ns.length:=(by omega)
 obtain⟨_,e,a,b⟩:=h.ok i.toNat _ (List.getElem?_eq_getElem hk)
 omega
theorem zby.w2 {q:Int}{ns:List Nd}{ws:List Nat}(h:zby q ns ws):∀v:Nd,v.ok ns.length q→1≤v.wt ws∧v.wt ws≤96
 | .number _ _,_=>⟨Nat.le_refl 1,show 1≤96 by decide⟩
 | .unknown _,_=>⟨Nat.le_refl 1,show 1≤96 by decide⟩
 | .plus i j,ok=>by have a:=h.w1 ok.1; have b:=h.w1 ok.2; simp only[Nd.wt]; omega
 | .minus i j,ok=>by have a:=h.w1 ok.1; have b:=h.w1 ok.2; simp only[Nd.wt]; omega
 | .times i j,ok=>by have a:=h.w1 ok.1; have b:=h.w1 ok.2; simp only[Nd.wt]; omega
 | .power i n,ok=>by
  have a:=h.w1 ok.1
  have n2:=ok.2.1
  have n6:=ok.2.2
  have m1:=Nat.mul_le_mul (show 1≤n.toNat by omega) a.1
  have m2:=Nat.mul_le_mul (show n.toNat≤6 by omega) a.2
  simp only[Nd.wt]
  omega
theorem zfq {ws:List Nat}{w:Nat}{k:Nat}(h:k < ws.length):(ws++[w]).getD k 0=ws.getD k 0:=by
 rw[List.getD_eq_getElem?_getD,List.getD_eq_getElem?_getD,List.getElem?_append_left h]
theorem zfu {ws:List Nat}{w:Nat}{q:Int}{k:Nat}(hk:k≤ws.length):∀v:Nd,v.ok k q→v.wt (ws++[w])=v.wt ws:=by
 have e:∀i:Int,inR k i→(ws++[w]).getD i.toNat 0=ws.getD i.toNat 0:=fun i hi=>zfq (by have a:=hi.1; have b:=hi.2; omega)
 intro v ok
 cases v with
 | number _ _=>rfl
 | unknown _=>rfl
 | plus i j=>show _ + _=_ + _; rw[e i ok.1,e j ok.2]
 | minus i j=>show _ + _=_ + _; rw[e i ok.1,e j ok.2]
 | times i j=>show _ + _=_ + _; rw[e i ok.1,e j ok.2]
 | power i n=>show _ * _=_ * _; rw[e i ok.1]
theorem zby.snoc {q:Int}{ns:List Nd}{ws:List Nat}(h:zby q ns ws){v:Nd}(ok:v.ok ns.length q)(h16:v.wt ws≤16):zby q (ns++[v]) (ws++[v.wt ws]):=by
 refine⟨by simp[h.len],fun k u hu=>?_⟩
 by_cases hk:k < ns.length
 ·rw[List.getElem?_append_left hk] at hu
  obtain⟨a,b,c,d⟩:=h.ok k u hu
  have e:=zfu (w:=v.wt ws) (q:=q) (k:=k) (by rw[h.len]; omega) u a
  rw[e,zfq (by rw[h.len]; exact hk)]
  exact⟨a,b,c,d⟩
 ·have hl:=(List.getElem?_eq_some_iff.mp hu).1
  simp only[List.length_append,List.length_cons,List.length_nil] at hl
  have ek:k=ns.length:=by omega
  subst ek
  simp at hu
  subst hu
  have e:=zfu (w:=v.wt ws) (q:=q) (k:=ns.length) (by rw[h.len]; omega) v ok
  rw[e]
  refine⟨ok,?_,(h.w2 v ok).1,h16⟩
  rw[← h.len]
  simp
theorem zby.take {q:Int}{ns:List Nd}{ws:List Nat}(h:zby q ns ws)(n:Nat):zby q (ns.take n) (ws.take n):=by
 have e:∀k:Nat,k < n→(ws.take n).getD k 0=ws.getD k 0:=fun k hk=>by
  rw[List.getD_eq_getElem?_getD,List.getD_eq_getElem?_getD,List.getElem?_take_of_lt hk]
 refine⟨by simp[h.len],fun k u hu=>?_⟩
 have hl:=(List.getElem?_eq_some_iff.mp hu).1
 rw[List.length_take] at hl
 have hk:k < n:=by omega
 rw[List.getElem?_take_of_lt hk] at hu
 obtain⟨a,b,c,d⟩:=h.ok k u hu
 have e2:u.wt (ws.take n)=u.wt ws:=by
  have f:∀i:Int,inR k i→(ws.take n).getD i.toNat 0=ws.getD i.toNat 0:=fun i hi=>e _ (by have:=hi.1; have:=hi.2; omega)
  cases u with
  | number _ _=>rfl
  | unknown _=>rfl
  | plus i j=>show _ + _=_ + _; rw[f i a.1,f j a.2]
  | minus i j=>show _ + _=_ + _; rw[f i a.1,f j a.2]
  | times i j=>show _ + _=_ + _; rw[f i a.1,f j a.2]
  | power i m=>show _ * _=_ * _; rw[f i a.1]
 rw[e2,e k hk]
 exact⟨a,b,c,d⟩
def SzW (ws:List Nat)(vs:List (Int×Int)):Prop:=∀(k:Nat) (p:Int×Int),vs[k]?=some p→p.1≤p.2∧Sz (60 * ws.getD k 0 - 1) p.1∧Sz (60 * ws.getD k 0 - 1) p.2
theorem SzW.at {ws:List Nat}{vs:List (Int×Int)}(h:SzW ws vs){i:Int}(hi:inR vs.length i):(gt vs i).1≤(gt vs i).2∧Sz (60 * ws.getD i.toNat 0 - 1) (gt vs i).1∧Sz (60 * ws.getD i.toNat 0 - 1) (gt vs i).2:=by
 obtain⟨h0,h1⟩:=hi
 have hk:i.toNat < vs.length:=by omega
 have e:gt vs i=vs[i.toNat]:=by simp[gt,hk]
 rw[e]
 exact h _ _ (List.getElem?_eq_getElem hk)
theorem zbj {S T:Sto}{n:Nat}{o:Ob}(h:Pre S T)(hn:S.length≤n):Pre S (T.set n o):=fun k u e=>by
 have hk:=(List.getElem?_eq_some_iff.mp e).1
 rw[List.getElem?_set_ne (by omega)]
 exact h k u e
theorem zaL {S T:Sto}(h:Pre S T)(U:Sto):Pre S (T++U):=fun k u e=>zaq (h k u e)
theorem SzW.snoc {ws:List Nat}{vs:List (Int×Int)}{p:Int×Int}(h:SzW ws vs)(h1:p.1≤p.2)(h2:Sz (60 * ws.getD vs.length 0 - 1) p.1)(h3:Sz (60 * ws.getD vs.length 0 - 1) p.2):SzW ws (vs++[p]):=fun k q hq=>by
 by_cases hk:k < vs.length
 ·rw[List.getElem?_append_left hk] at hq
  exact h k q hq
 ·have hl:=(List.getElem?_eq_some_iff.mp hq).1
  simp only[List.length_append,List.length_cons,List.length_nil] at hl
  have ek:k=vs.length:=by omega
  subst ek
  simp at hq
  subst hq
  exact⟨h1,h2,h3⟩
theorem ziA {caps:List Nat}{tl te:TDE}{dl:Ev}{S S1:Sto}{Q:DK}{n:Nat}{o:Ob}(W:Nat→List D→Sto→Prop)(htl:∀K:DK,K (.ref n) S1→tl dl S K)(h1:S1[n]?=some o)(hw:∀k ys S2,W k ys S2→S2[n]?=some o∧S2[S1.length]?=some (.lst ys)∧ys.length=k)(hl:(zae o).length≤1000)(h0:W 0 [] (S1++[.lst []]))
  (ht:∀(k:Nat) (x:D) (ys:List D) (S2:Sto) (K:DK),(zae o)[k]?=some x→W k ys S2→(∀y S3,S3[S1.length]?=some (.lst ys)→W (k + 1) (ys++[y]) (S3.set S1.length (.lst (ys++[y])))→K y S3)→te (some x::zbh caps dl) S2 K)
  (hq:∀ys S2,W (zae o).length ys S2→Q (.ref S1.length) S2)(hL:zbw o=some o:=by rfl):zcq caps tl zca te dl S Q:=by
 unfold zcq
 refine htl _ ⟨by rw[zaR h1 hL]; rfl,fun k m S2=>(∃ys,W k ys S2)∧m + k=(zae o).length,⟨(zae o).length,⟨_,h0⟩,by omega⟩,?_⟩
 rintro k m S2 ⟨⟨ys,w⟩,hm⟩
 obtain⟨w1,w2,w3⟩:=hw _ _ _ w
 rw[zaR w1 hL]
 dsimp only
 split
 ·rename_i x hx
  have hk:k < (zae o).length:=(List.getElem?_eq_some_iff.mp hx).1
  unfold zcM zca
  simp only[if_true]
  refine ht k x ys S2 _ hx w fun y S3 e3 w4=>?_
  rw[e3]
  exact⟨by omega,m - 1,by omega,⟨_,w4⟩,by omega⟩
 ·rename_i hx
  have hk:k=(zae o).length:=by
   have:=List.getElem?_eq_none_iff.mp hx
   omega
  exact hq ys S2 (hk ▸ w)
theorem zcF {caps:List Nat}{ta:TDA}{te:TDE}{dl:Ev}{S S1:Sto}{Q:DK}{j:Int}(W:Nat→List D→Sto→Prop)(hta:∀K:List D→Sto→Prop,K [.int j] S1→ta dl S K)(hj:0≤j∧j≤1000)(hw:∀k ys S2,W k ys S2→S2[S1.length]?=some (.lst ys)∧ys.length=k)(h0:W 0 [] (S1++[.lst []]))
  (ht:∀(k:Nat) (ys:List D) (S2:Sto) (K:DK),k < j.toNat→W k ys S2→(∀y S3,S3[S1.length]?=some (.lst ys)→W (k + 1) (ys++[y]) (S3.set S1.length (.lst (ys++[y])))→K y S3)→te (some (.int (k:Int))::zbh caps dl) S2 K)
  (hq:∀ys S2,W j.toNat ys S2→Q (.ref S1.length) S2):zcn caps ta zca te dl S Q:=by
 unfold zcn
 refine hta _ ⟨⟨by omega,by omega⟩,fun k S2=>k≤j.toNat∧∃ys,W k ys S2,⟨Nat.zero_le _,_,h0⟩,?_⟩
 rintro k S2 ⟨hk,ys,w⟩
 obtain⟨w2,w3⟩:=hw _ _ _ w
 split
 ·rename_i c
  unfold zcM zca
  simp only[if_true]
  refine ht k ys S2 _ c w fun y S3 e3 w4=>?_
  rw[e3]
  exact⟨by omega,by omega,_,w4⟩
 ·rename_i c
  have hk:k=j.toNat:=by omega
  exact hq ys S2 (hk ▸ w)
section
variable {s:Shared}{A:Around}{w:World}{prog:Program}
theorem zjc {elt iter:Expr}{ifs elts:List Expr}{x1}{tp:Pos}{scope:Scope}{pos:Pos}{it acc:Value}{env:Env}{R:Result→Shared→Prop}(I:Nat→Shared→Prop)
  (turn:∀n s,I n s→wpAny (model prog w) A (pyNext it) (fun r s1=>match r with
   | none=>R (.ok .next) s1
   | some v=>wpAny (model prog w) A (letOwnedTupleGo (.Tuple elts x1 tp) it v) (fun _ s2=>wpAny (model prog w) A (assign (.Tuple elts x1 tp) env v) (fun _ s3=>
     wpAny (model prog w) A (forIn ifs true fun c r=>if r=true then do let ok ← isTrue c env (eval c env); pure (ForInStep.yield ok) else pure (ForInStep.yield r)) (fun ok s4=>
      if ok=true then wpAny (model prog w) A (eval elt env) (fun x s5=>
       wpAny (model prog w) A (call (.builtin "list.append") [acc,x]) (fun _ s6=>∃m,m < n∧I m s6) (notedBy (model prog w) A env fun e s'=>R (.error e) s') s5) (notedBy (model prog w) A env fun e s'=>R (.error e) s') s4
      else ∃m,m < n∧I m s4) (notedBy (model prog w) A env fun e s'=>R (.error e) s') s3)
     (notedBy (model prog w) A env fun e s'=>R (.error e) s') s2) (notedBy (model prog w) A env fun e s'=>R (.error e) s') s1) (notedBy (model prog w) A env fun e s'=>R (.error e) s') s)
  (n:Nat)(h:I n s):codeAny (model prog w) A (.compLoop (.ListComp elt [⟨.Tuple elts x1 tp,iter,ifs,0⟩] scope pos) 0 it acc env) R s:=by
 refine codeAny_loop rfl I (fun j t hI=>?_) n h
 show wpAny _ A ((compTurn (.ListComp elt [⟨.Tuple elts x1 tp,iter,ifs,0⟩] scope pos) 0 it acc env).onRaise (fun x=>do noteFrame x env; theTreesLotGoes x)) _ _ t
 refine wpAny_noted ?_
 rw[compTurn_list]
 refine wpAny_bind (wpAny_standAt (wpAny_bind (wpAny_mono (turn j t hI) (fun r s1 h1=>?_) fun _ _ z=>z)))
 cases r with
 | none=>exact wpAny_pure h1
 | some v=>
  refine wpAny_bind (wpAny_mono h1 (fun _ s2 h2=>?_) fun _ _ z=>z)
  refine wpAny_bind (wpAny_mono h2 (fun _ s3 h3=>wpAny_bind (wpAny_mono h3 (fun ok s4 h4=>?_) fun _ _ z=>z)) fun _ _ z=>z)
  cases ok with
  | false=>exact wpAny_pure ⟨rfl,h4⟩
  | true=>exact wpAny_bind (wpAny_bind (wpAny_mono h4 (fun x s5 h5=>wpAny_bind (wpAny_mono h5 (fun _ s6 h6=>wpAny_pure (wpAny_pure ⟨rfl,h6⟩)) fun _ _ z=>z)) fun _ _ z=>z))
end
def zgO (k:Nat)(caps:List Nat)(wi:TI)(gt:TG)(tc:TT)(te:TE):TE:=fun σ H Q=>wi σ H fun J H1=>∀D,H1 D=none→∃W:Nat→Nat→Hp→Prop,(∃m,W 0 m (upd H1 D (.lst [])))∧∀i m H,W i m H→
 (J.stop i H∧Q (.ref D) H)∨(J.go i H∧∀x H',J.yld i H x H'→∀o:L2.St,o.length=k→gt x (o++zau caps σ) H' fun σ8 H8=>(∃o8:L2.St,o8.length=k∧σ8=o8++zau caps σ)∧
  tc σ8 H8 fun b H9=>if b=true then te σ8 H9 fun y H3=>∃ys,H3 D=some (.lst ys)∧ys.length < sizeLine∧∃m',m' < m∧W (i + 1) m' (upd H3 D (.lst (ys++[y]))) else ∃m',m' < m∧W (i + 1) m' H9)
section
variable {X:Cx}{elt iter:Expr}{elts:List Expr}{kk:Nat}{tp:Pos}{pos:Pos}{sc:Scope}{own N:List Str}{caps:List Nat}{wi:TI}{gt:TG}{te:TE}
theorem zh9 {ifs:List Expr}{tc:TT}{use:Option (Value→Sem Unit)}{Qr:Value→Shared→Prop}(hc:X.calm=true)(cs:zey sc X.env.scope own N)(hN:∀(j:Nat) (y:Str),N[j]?=some y→∃i,caps[j]?=some i∧X.N[i]?=some y)(hlen:caps.length=N.length)
  (hi:PI X (.Tuple elts kk tp) iter wi)(hg:∀cl C s0 H0 fp pn,PG (Cx.comp X sc (own++N) cl C s0 H0 fp pn) (.Tuple elts kk tp) gt)(he:∀cl C s0 H0 fp pn,PE (Cx.comp X sc (own++N) cl C s0 H0 fp pn) elt te)
  (ht:∀cl C s0 H0 fp pn,PTs (Cx.comp X sc (own++N) cl C s0 H0 fp pn) ifs tc)(hs:∀y,foldedSetIterable iter X.env y=pure y)
  {pins:List (Addr×Obj)}{s:Shared}{σ:L2.St}{H:Hp}{Q:VK}{p2:Pos}(I:Inv X pins σ H s)(h:zgO own.length caps wi gt tc te σ H Q)
  (fin:∀D C s',ze2 X pins σ C Q D s'→compPost (model X.prog X.w) X.A X.xe use Qr (.ref D) C (.ok .next) s'):
  wpAny (model X.prog X.w) X.A (comprehension (.ListComp elt [⟨.Tuple elts kk tp,iter,ifs,0⟩] sc pos) sc X.env p2 (newList []) false (eval iter X.env) use) Qr X.xe s:=by
 obtain⟨cl,k1,k2,k3⟩:=ze8 (sc:=sc) (env:=X.env) fun y hy hf=>I.ok.has y.1 (.inl (cs.out y hy hf))
 refine wpAny_comprehension_free rfl hs k1 cs.kind cs.own (thn (hi pins s σ H _ I h) fun v s1 h1=>thn h1 fun itv s2 h2=>?_)
 obtain⟨it,fp,tn,J,H2,e,I2,T,st2,f2,body⟩:=h2
 subst e
 have hfo:∀b∈fp,b < s2.heap.objs.size:=fun b hb=>by
  obtain⟨o,e,_⟩:=T.obj _ _ st2 b hb
  exact Heap.lt_size e
 have hD:H2 s2.heap.objs.size=none:=I2.hok.fresh (Nat.le_refl _)
 obtain⟨W,⟨m0,w0⟩,turn⟩:=body _ hD
 refine wpAny_newObj_type ?_
 have I3:Inv X pins σ (upd H2 s2.heap.objs.size (.lst [])) { s2 with heap:=s2.heap.push { cls:=.type "list",dict:=none,data:=.seq ([]:List Value).toArray },toks:=s2.toks }:=
  I2.laid (t':=s2.toks) (fun b u e=>Heap.get?_push_of_some _ e) (Nat.le_refl _) ⟨Nat.zero_le _,[],0,.nil,Heap.get?_push_size _ rfl⟩
 generalize hs3:({ s2 with heap:=s2.heap.push { cls:=.type "list",dict:=none,data:=.seq ([]:List Value).toArray },toks:=s2.toks }:Shared)=s3 at I3
 have es3:({ s2 with heap:=s2.heap.push { cls:=.type "list",dict:=none,data:=.seq ([]:List Value).toArray } }:Shared)=s3:=hs3
 try rw[es3]
 have f3:∀b∈fp,za3 X pins (upd H2 s2.heap.objs.size (.lst [])) b:=fun b hb=>⟨by rw[zaH (Nat.ne_of_lt (hfo b hb))]; exact(f2 b hb).1,(f2 b hb).2⟩
 have up3:∀b o,s2.heap.get? b=some o→s3.heap.get? b=some o:=fun b o e=>by rw[← hs3]; exact Heap.get?_push_of_some _ e
 have st3:tn 0 s3.heap:=T.keep _ _ _ st2 fun b _ o e=>up3 b o e
 have hfo3:∀b∈fp,b < s3.heap.objs.size:=fun b hb=>by
  obtain⟨o,e,_⟩:=T.obj _ _ st3 b hb
  exact Heap.lt_size e
 refine wpAny_newFunctionEnv cs.nocell (fun y hy=>by simp at hy) (fun h4 ns4 sb4=>?_) cs.kind
 have hk4:∀b o,s3.heap.get? b=some o→h4.get? b=some o:=fun b o e=>(sb4.2 b (Nat.ne_of_lt (Heap.lt_size e))).trans (Heap.get?_push_of_some _ e)
 have I4:=zhz (tk:=s3.toks + ([]:List (Str×Value)).length) I3 cs hN hlen k2 k3 f3 hfo3 ns4 hk4
 generalize hs4:({ s3 with heap:=h4,toks:=s3.toks + ([]:List (Str×Value)).length }:Shared)=s4 at I4 ⊢
 have eh4:s4.heap=h4:=by rw[← hs4]
 have st4:tn 0 s4.heap:=by rw[eh4]; exact T.keep _ _ _ st3 fun b _ o e=>hk4 b o e
 have fY:∀ {H':Hp},(∀b∈fp,H' b=none)→∀b∈fp,za3 (Cx.comp X sc (own++N) cl s3.heap.objs.size s3 (upd H2 s2.heap.objs.size (.lst [])) fp (X.pn++pins)) [] H' b:=fun hn b hb=>by
  obtain⟨_,z2,z3,z4,z5,z6⟩:=f3 b hb
  refine⟨hn b hb,Nat.ne_of_lt (hfo3 b hb),fun z=>?_,.inl hb,fun y c e=>z5 y c (k2 _ _ e),fun p hp=>z6 p (by simpa using hp)⟩
  rcases List.mem_cons.mp (I3.stkSub b z) with z | z
  ·exact z2 z
  ·exact z3 z
 have loop:codeAny (model X.prog X.w) X.A (.compLoop (.ListComp elt [⟨.Tuple elts kk tp,iter,ifs,0⟩] sc pos) 0 (.ref it) (.ref s2.heap.objs.size) (compEnvC sc cl s3.heap.objs.size X.env))
   (compPost (model X.prog X.w) X.A X.xe use Qr (.ref s2.heap.objs.size) s3.heap.objs.size) s4:=by
  refine zjc (fun n s'=>∃i o H',o.length=own.length∧Inv (Cx.comp X sc (own++N) cl s3.heap.objs.size s3 (upd H2 s2.heap.objs.size (.lst [])) fp (X.pn++pins)) [] (o++zau caps σ) H' s'∧tn i s'.heap∧(∀b∈fp,H' b=none)∧W i n H') ?_ m0
   ⟨0,_,_,List.length_replicate,I4,st4,fun b hb=>(f3 b hb).1,w0⟩
  rintro n s5 ⟨i,o,H5,ho,I5,st5,fr5,w5⟩
  rcases turn i n H5 w5 with ⟨stop,q⟩ | ⟨go,step⟩
  ·refine thn (T.done (Cx.comp X sc (own++N) cl s3.heap.objs.size s3 (upd H2 s2.heap.objs.size (.lst [])) fp (X.pn++pins)) rfl rfl rfl hc i [] s5 _ H5 _ I5 (fY fr5) st5 stop) fun r s6 ⟨hr,I6⟩=>?_
   subst hr
   refine fin _ _ _ ⟨⟨H5,I3.call' I6.os I6.base I6.hok I6.bare (fun b hb=>?_),q,I6.free⟩,?_,Nat.ne_of_gt I3.lt,I3.sz,fun y c e z=>?_,fun p hp z=>?_⟩
   ·obtain⟨_,z2,z3,z4,z5,z6⟩:=f3 b hb
    exact⟨z4,z2,z5,z6⟩
   ·obtain⟨m,hm,_⟩:=I6.loc
    exact⟨m,hm⟩
   ·obtain⟨v,hv⟩:=I3.cell y c e
    exact absurd (z ▸ hv.lt) (Nat.lt_irrefl _)
   ·exact absurd (z ▸ Heap.lt_size (I3.pin p hp).1) (Nat.lt_irrefl _)
  ·refine thn (T.item (Cx.comp X sc (own++N) cl s3.heap.objs.size s3 (upd H2 s2.heap.objs.size (.lst [])) fp (X.pn++pins)) rfl rfl rfl hc i [] s5 _ H5 _ I5 (fY fr5) st5 go) fun r s6 ⟨u,hr,h6⟩=>?_
   subst hr
   refine wpAny_mono h6 (fun _ s7 ⟨y,H7,I7,r7,y7,st7,fr7⟩=>?_) fun _ _ z=>z
   have I7':=I7.pinned (fY fr7) (T.obj _ _ st7)
   refine wpAny_mono (hg _ _ _ _ _ _ _ s7 _ H7 y u _ I7' r7 (step y H7 y7 o ho)) (fun _ s8 ⟨σ8,H8,I8,⟨o8,ho8,e8⟩,q8⟩=>?_) fun _ _ z=>z.elim
   subst e8
   have stay:∀ {H':Hp} {s':Shared},Inv (Cx.comp X sc (own++N) cl s3.heap.objs.size s3 (upd H2 s2.heap.objs.size (.lst [])) fp (X.pn++pins)) ([]++zcO fp s7.heap) (o8++zau caps σ) H' s'→∀m',m' < n→W (i + 1) m' H'→
     ∃m,m < n∧∃i o H',o.length=own.length∧Inv (Cx.comp X sc (own++N) cl s3.heap.objs.size s3 (upd H2 s2.heap.objs.size (.lst [])) fp (X.pn++pins)) [] (o++zau caps σ) H' s'∧tn i s'.heap∧(∀b∈fp,H' b=none)∧W i m H':=fun {H' s'} J m' hm w'=>by
    refine⟨m',hm,i + 1,o8,H',ho8,J.unpinned,T.keep _ _ _ st7 fun b hb o e=>(J.pin (b,o) (List.mem_append_right _ (List.mem_append_right _ (zcA hb e)))).1,fun b hb=>?_,w'⟩
    obtain⟨o,e,d⟩:=T.obj _ _ st7 b hb
    exact(J.pin (b,o) (List.mem_append_right _ (List.mem_append_right _ (zcA hb e)))).2.1
   refine wpAny_mono (ht _ _ _ _ _ _ _ s8 _ H8 _ I8 q8) (fun b s9 ⟨H9,I9,q9⟩=>?_) fun _ _ z=>z.elim
   cases b with
   | false=>
    rw[if_neg Bool.false_ne_true] at q9 ⊢
    obtain⟨m',hm,w9⟩:=q9
    exact stay I9 m' hm w9
   | true=>
    rw[if_pos rfl] at q9 ⊢
    refine wpAny_mono (he _ _ _ _ _ _ _ s9 _ H9 _ I9 q9) (fun u2 s10 ⟨z,H10,I10,r10,q10⟩=>?_) fun _ _ z=>z.elim
    obtain⟨ys,hD10,hlt,m',hm,w10⟩:=q10
    refine wpAny_mono (zet (X:=(Cx.comp X sc (own++N) cl s3.heap.objs.size s3 (upd H2 s2.heap.objs.size (.lst [])) fp (X.pn++pins))) _ s10 _ H10 (.ref s2.heap.objs.size) [z] (.ref s2.heap.objs.size) [u2] (fun _ H'=>H'=upd H10 s2.heap.objs.size (.lst (ys++[z]))) I10 rfl (.cons r10 .nil) ⟨_,ys,z,rfl,rfl,hD10,hlt,rfl⟩) (fun _ s11 ⟨_,H11,I11,_,e11⟩=>?_) fun _ _ z=>z.elim
    subst e11
    exact stay I11 m' hm w10
 exact codeAny_compStart_list loop (T.self _ 0 s4 _ _ st4 loop)

end

section
variable {X:Cx}{Z:Zx}{elt:Expr}{pos:Pos}{sc ar:Scope}{N:List Str}{caps:List Nat}
def zg7 (caps:List Nat)(tc:TDT)(te:TDE)(k:Nat)(dl:Ev)(d1 d2:D)(S:Sto)(nx:Sto→Prop):Prop:=
 tc (some d1::some d2::zbh caps dl) S fun b S1=>if b=true then te (some d1::some d2::zbh caps dl) S1 fun y S2=>match S2[k]? with
  | some (.lst ys)=>ys.length < 1000∧nx (S2.set k (.lst (ys++[y])))
  | _=>False
 else nx S1
@[irreducible] def zdx (caps:List Nat)(ta:TDA)(tc:TDT)(te:TDE):TDE:=fun dl S Q=>ta dl S fun ds S1=>match ds with
 | [.ref n]=>(lAt S1 n).isSome=true∧∃W:Nat→Nat→Sto→Prop,(∃m,W 0 m (S1++[.lst []]))∧∀k m S2,W k m S2→match lAt S2 n with
  | some o=>match (zae o)[k]? with
   | some y=>zg7 caps tc te S1.length dl (.int (k:Int)) y S2 fun S3=>∃m',m' < m∧W (k + 1) m' S3
   | none=>k=(zae o).length∧Q (.ref S1.length) S2
  | none=>False
 | _=>False
theorem zj5 {ta:TDA}{tc:TDT}{te:TDE}{σ:L2.St}{H:Hp}{Qv:VK}(h:up X.K Z (zdx caps ta tc te) σ H Qv):
  zgO 2 caps (zgP X.K (upA X.K Z ta)) (gTup X.K 2 (gAll [0,1])) (upT X.K Z0 tc) (up X.K Z0 te) σ H Qv:=by
 obtain⟨r,dl,S,Q,rs,rel,h,ret⟩:=h
 unfold zdx at h
 refine⟨r,dl,S,_,rs,rel,h,fun vs H1 r1 ds S1 x1 rel1 p1 q1=>?_⟩
 split at q1
 ·rename_i n
  obtain⟨v,vs',rfl,p2,p3⟩:=p1.uncons
  have z:=p3.unnil
  subst z
  cases p2 with
  | @ref n a hr=>
   obtain⟨hsome,W,⟨m0,w0⟩,turn⟩:=q1
   obtain⟨o1,eo1⟩:=Option.isSome_iff_exists.mp hsome
   obtain⟨xs1,sq1,_⟩:=zeq (r:=r1) hr rel1.b eo1
   refine⟨a,rfl,⟨xs1,sq1⟩,fun D0 hD=>?_⟩
   obtain⟨rel2,x2⟩:=rel1.b.push (ds:=[]) (xs:=[]) hD Rps.nil
   refine⟨fun k m H'=>∃r' S',Ext (r1++[D0]) r' (upd H1 D0 (.lst [])) H'∧zav X.K r' S' H'∧W k m S',⟨m0,_,_,Ext.refl,rel2,w0⟩,?_⟩
   rintro k m H2 ⟨r2,S2,x3,rb2,w2⟩
   have ha2:r2[S1.length]?=some D0:=x3.adr _ _ (ze1 rel1.len)
   have hr2:r2[n]?=some a:=(x2.trans x3).adr _ _ hr
   have q:=turn k m S2 w2
   split at q
   ·rename_i o eo
    obtain⟨xs,sq,pr⟩:=zeq (r:=r2) hr2 rb2 eo
    split at q
    ·rename_i y ey
     obtain⟨v,hv,pv⟩:=pr.get ey
     refine .inr ⟨⟨xs,v,sq,hv⟩,fun v' H' y' o8 ho8=>?_⟩
     obtain⟨T,w,rfl,hT,rfl,hw⟩:=y'
     have ew:w=v:=by
      have z:=hw xs sq
      rw[hv] at z; exact(Option.some.inj z).symm
     subst ew
     obtain⟨c1,c2,rfl⟩:∃c1 c2,o8=[c1,c2]:=by
      match o8,ho8 with
      | [c1,c2],_=>exact⟨c1,c2,rfl⟩
     have x4:Ext r2 r2 H2 (upd H2 T (.tup [.int (k:Int),w])):=zg4 hT
     have rb3:=rb2.same (zbG (o:=.tup [.int (k:Int),w]) hT)
     have rs3:=rs.ext (x1.trans (x2.trans (x3.trans x4)))
     refine⟨T,[.int (k:Int),w],rfl,SqT.of zb0,rfl,rfl,⟨[some (.int (k:Int)),some w],rfl,rfl⟩,?_⟩
     have rsY:=zjf (caps:=caps) rs3 (.int (k:Int)) (pv.ext x4)
     refine⟨r2,_,S2,_,rsY,⟨rb3,fun _ _ _ _ _ _ _ _ _ z=>z.elim⟩,q,fun b H9 r9 S9 x9 rel9 q9=>?_⟩
     cases b with
     | false=>
      rw[if_neg Bool.false_ne_true] at q9 ⊢
      obtain⟨m',hm,q9⟩:=q9
      exact⟨m',hm,r9,S9,x3.trans (x4.trans x9),rel9.b,q9⟩
     | true=>
      rw[if_pos rfl] at q9 ⊢
      refine⟨r9,_,S9,_,rsY.ext x9,rel9,q9,fun z H4 r4 dz S4 x6 rel4 p4 q4=>?_⟩
      split at q4
      ·rename_i ys eys
       obtain⟨hl,m',hm,q4⟩:=q4
       have ha4:r4[S1.length]?=some D0:=x6.adr _ _ (x9.adr _ _ ha2)
       obtain⟨zs,hD4,pz⟩:=rel4.b.ob _ _ _ ha4 eys
       obtain⟨rel5,x7⟩:=rel4.b.set ha4 eys (pz.snoc p4)
       exact⟨zs,hD4,by rw[← pz.1]; exact zdS (Nat.le_of_lt hl),m',hm,r4,_,x3.trans (x4.trans (x9.trans (x6.trans x7))),rel5,q4⟩
      ·exact q4.elim
    ·obtain⟨hk,q⟩:=q
     exact .inl ⟨⟨xs,sq,by rw[← pr.1]; exact hk.symm⟩,ret _ H2 r2 _ S2 (x1.trans (x2.trans x3)) ⟨rb2,rel.xw.ext (x1.trans (x2.trans x3))⟩ (.ref ha2) q⟩
   ·exact q.elim
 ·exact q1.elim
theorem zjI {ifs:List Expr}{ta:TDA}{tc:TDT}{te:TDE}{x1 x2:Str}{p1 p2 p pos2 tp:Pos}{kk:Nat}{a:Expr}(har:X.env.scope=ar)(hc:X.calm=true)(cs:zey sc ar [x1,x2] N)(hl1:sc.names.lookup x1=some .local)(hl2:sc.names.lookup x2=some .local)
  (hN:caps.map (fun i=>X.N[i]?)=N.map some)(hnd:([x1,x2]++N).Nodup)(hg:Gl X "enumerate")(hm:X.mg "enumerate"=none)(hv:bootBuiltins "enumerate"=some (.type "enumerate"))(ha:PDA X Z [a] ta)
  (ht:∀cl C s0 H0 fp pn,zcJ (Cx.comp X sc ([x1,x2]++N) cl C s0 H0 fp pn) ifs tc)
  (he:∀cl C s0 H0 fp pn,PD (Cx.comp X sc ([x1,x2]++N) cl C s0 H0 fp pn) Z0 elt te)
  (hse:starEach [a] X.env=[(false,eval a X.env)]:=by rfl)(hs:∀y,foldedSetIterable (.Call (.Name "enumerate" p) [a] [] pos2) X.env y=pure y:=by intro _; rfl):
  PD X Z (.ListComp elt [⟨.Tuple [.Name x1 p1,.Name x2 p2] kk tp,.Call (.Name "enumerate" p) [a] [] pos2,ifs,0⟩] sc pos) (zdx caps ta tc te):=by
 subst har
 intro pins s σ H Q I h
 rw[eval_ListComp]
 have h:=zj5 h
 refine zh9 (use:=none) (ifs:=ifs) (tc:=upT X.K Z0 tc) (gt:=gTup X.K 2 (gAll [0,1])) (te:=up X.K Z0 te) hc cs (zcy hN).1 (zcy hN).2 (zga hg hm hv ha hse) (fun cl C s0 H0 fp pn=>?_) he ht hs I h fun D C s' f=>?_
 ·have l1:(Cx.comp X sc ([x1,x2]++N) cl C s0 H0 fp pn).env.scope.names.lookup x1=some .local:=lookup_relabel_local hl1
  have l2:(Cx.comp X sc ([x1,x2]++N) cl C s0 H0 fp pn).env.scope.names.lookup x2=some .local:=lookup_relabel_local hl2
  exact zf3 hc (ze9 hnd (.cons rfl (.inl l1) (.inr l1) (.cons rfl (.inl l2) (.inr l2) .nil))) rfl rfl
 ·obtain⟨⟨H',I',q,hC⟩,⟨m,ns⟩,l,o,c,p⟩:=f
  exact⟨m,ns,fun h' sb=>⟨.ref D,H',I'.turned (t':=s'.toks) (fun b ob hb e=>(sb.2 b hb).trans e) hC l (.inr o) c p,rfl,q⟩⟩
end

section
variable {X:Cx}{Z:Zx}{pos:Pos}
def zeL:WC:=fun ds S Q=>match ds with
 | [.ref n]=>match lAt S n with
  | some o=>Q (.tup (zae o)) S
  | none=>False
 | _=>False
theorem zid:zaU X (.type "tuple") (upC X.K Z zeL):=ze6 zhJ fun xs H Qv ⟨r,S,ds,Q,rel,ps,q,ret⟩=>by
 unfold zeL at q
 split at q
 ·rename_i n
  obtain⟨v,vs,rfl,p1,p2⟩:=ps.uncons
  have z:=p2.unnil
  subst z
  split at q
  ·rename_i o eo
   obtain⟨eo,eL⟩:=zbB eo
   obtain⟨a,ha,ob⟩:=rel.at eo
   cases p1 with
   | ref h1=>
    rw[h1] at ha; cases ha
    obtain⟨ys,sq,pr⟩:=ob.list eL
    refine⟨_,ys,rfl,.inl ⟨sq,fun l hl=>?_⟩⟩
    have x:Ext r r H (upd H l (.tup ys)):=⟨fun _ _ q=>q,fun a xs q=>zbG hl _ _ q,fun a c q=>zbG hl _ _ q⟩
    exact ret _ _ r (.tup (zae o)) S x (rel.same (zbG hl)) ((pr.ext x).tupR zb0) q
  ·exact q.elim
 ·exact q.elim
def Alk (S:Sto):Nat→D→D→Prop
 | 0,d,e=>eqF d e=some true
 | n + 1,d,e=>Alk S n d e∨(∃xs ys,d=.tup xs∧e=.tup ys∧xs.length=ys.length∧∀(k:Nat) (x y:D),xs[k]?=some x→ys[k]?=some y→Alk S n x y)∨
  ∃a b xs ys,d=.ref a∧e=.ref b∧S[a]?=some (.lst xs)∧S[b]?=some (.lst ys)∧xs.length=ys.length∧∀(k:Nat) (x y:D),xs[k]?=some x→ys[k]?=some y→Alk S n x y
theorem zgt (n:Nat):(List.range n).all (fun _=>true)=true:=by simp
theorem zfE {n:Nat}{A:Around}{pins:List (Addr×Obj)}{σ:L3.St}{H:Hp}{s:Shared}{r:List Addr}{S:Sto}(I:Inv X pins σ H s)(rel:Rel X.K Z r S H){a b:Nat}{xs ys:List D}{p p':Addr}(hp:r[a]?=some p)(hp':r[b]?=some p')(s1:S[a]?=some (.lst xs))(s2:S[b]?=some (.lst ys))(l:xs.length=ys.length)(hu:A.units < cLine)
  (f:∀ {d e:D} {v1 v2:V} {u1 u2:Value},Alk S n d e→Rp r H d v1→Rp r H e v2→zac v1 u1→zac v2 u2→SeqAt.EqAt A.in1 s u1 u2 true)(al:∀(k:Nat) (x y:D),xs[k]?=some x→ys[k]?=some y→Alk S n x y):SeqAt.RcAt A s (.ref p) (.ref p') true:=by
 obtain⟨z,hz,ob⟩:=rel.at s1
 rw[hp] at hz; cases hz
 obtain⟨z,hz,ob'⟩:=rel.at s2
 rw[hp'] at hz; cases hz
 obtain⟨vs,sq,pr⟩:=ob.list rfl
 obtain⟨ws,sq',pr'⟩:=ob'.list rfl
 obtain⟨is,ri,pl,_⟩:=I.list sq
 obtain⟨js,rj,pl',_⟩:=I.list sq'
 have g1:=zgA (P:=fun S=>Alk S n) (S:=S) f pr pr' ri rj al
 have hs:is.toArray.size=js.toArray.size:=by
  have a1:=ri.length
  have a2:=rj.length
  have a3:=pr.1
  have a4:=pr'.1
  simp only[List.size_toArray]
  show is.length=js.length
  have a3:xs.length=vs.length:=a3
  have a4:ys.length=ws.length:=a4
  omega
 have q:=SeqAt.RcAt.lists (A:=A) (e:=fun _=>true) pl.isList pl'.isList hs hu g1
 rw[zgt] at q
 exact q
theorem zdV:∀(n:Nat) {A:Around} {pins:List (Addr×Obj)} {σ:L3.St} {H:Hp} {s:Shared} {r:List Addr} {S:Sto} {d e:D} {v1 v2:V} {u1 u2:Value},Inv X pins σ H s→Rel X.K Z r S H→Alk S n d e→Rp r H d v1→Rp r H e v2→zac v1 u1→zac v2 u2→A.units + n < cLine→SeqAt.EqAt A s u1 u2 true
 | 0,A,pins,σ,H,s,r,S,d,e,v1,v2,u1,u2,I,rel,h,pd,pe,ru1,ru2,hu=>zeK 0 X pins σ H s r A d e v1 v2 u1 u2 true I hu pd pe ru1 ru2 h
 | n + 1,A,pins,σ,H,s,r,S,d,e,v1,v2,u1,u2,I,rel,h,pd,pe,ru1,ru2,hu=>by
  rcases h with h | ⟨xs,ys,rfl,rfl,l,al⟩ | ⟨a,b,xs,ys,rfl,rfl,s1,s2,l,al⟩
  ·exact zdV n I rel h pd pe ru1 ru2 (by omega)
  ·cases pd with
   | @tup _ vs a h1 l1 f1=>
    cases pe with
    | @tup _ ws b h2 l2 f2=>
     cases ru1
     cases ru2
     by_cases hne:a=b
     ·subst hne
      exact SeqAt.EqAt.same _
     ·obtain⟨is,ri,pl,_⟩:=I.tuple (SqT.of h1)
      obtain⟨js,rj,pl',_⟩:=I.tuple (SqT.of h2)
      have g1:=zgA (P:=fun S=>Alk S n) (S:=S) (A:=A.in1) (fun h p q r1 r2=>zdV n I rel h p q r1 r2 (by show A.units + 1 + n < _; omega)) ⟨l1,f1⟩ ⟨l2,f2⟩ ri rj al
      have q:=SeqAt.RcAt.tuples (A:=A) (e:=fun _=>true) pl pl' (by omega) g1
      have hs:(is.toArray.size == js.toArray.size)=true:=by
       have a1:=ri.length
       have a2:=rj.length
       simp only[List.size_toArray,beq_iff_eq]
       show is.length=js.length
       omega
      rw[zgt,hs] at q
      exact SeqAt.EqAt.of_refs hne q
  ·cases pd with
   | @ref _ p hp=>
    cases pe with
    | @ref _ p' hp'=>
     cases ru1
     cases ru2
     by_cases hne:p=p'
     ·subst hne
      exact SeqAt.EqAt.same _
     ·exact SeqAt.EqAt.of_refs hne (zfE I rel hp hp' s1 s2 l (by omega) (fun h p q r1 r2=>zdV n I rel h p q r1 r2 (by show A.units + 1 + n < _; omega)) al)
def wEqK:W2:=fun x y S Q=>match x,y with
 | .ref a,.ref b=>(∃xs ys,S[a]?=some (.lst xs)∧S[b]?=some (.lst ys)∧xs.length=ys.length∧∀(k:Nat) (x y:D),xs[k]?=some x→ys[k]?=some y→Alk S 5 x y)∧Q (.bl true) S
 | _,_=>False
theorem zjM {j:Nat}(hr:zaw j X.A):OpR X (compareOp .Eq) (upO X.K Z wEqK):=by
 have hu:=hr.un
 intro pins s σ H x y v u Qv I rx ry h
 obtain⟨r,S,dx,dy,Q,rel,px,py,q,ret⟩:=h
 cases px with
 | @ref n a hn=>
  cases py with
  | @ref m a' hm=>
   cases rx
   cases ry
   obtain⟨⟨xs,ys,s1,s2,l,al⟩,q⟩:=(show (∃xs ys,_)∧_ from q)
   exact zfE I rel hn hm s1 s2 l (by omega) (fun h p q r1 r2=>zdV 5 I rel h p q r1 r2 (by show X.A.units + 1 + 5 < _; omega)) al X.prog X.w X.xe _ ⟨.bl true,H,I,rfl,ret _ _ _ _ _ Ext.refl rel (.bl true) q⟩
  | _=>exact(show False from q).elim
 | _=>exact(show False from q).elim
def dInG (ws:List Str)(ta:TDE):TDT:=fun dl S Q=>ta dl S fun d S1=>match d with
 | .str w=>Q (ws.any (· == w)) S1
 | _=>False
theorem zh7 {a:Expr}{ta:TDE}{x:Str}{ws:List Str}{p:Pos}(hG:GT X.K X.mg x ws)(hg:Gl X x)(ha:PD X Z a ta)(hd:(x == ("__debug__":Str))=false:=by decide):PDT X Z (.Compare a [.In] [.Name x p] pos) (dInG ws ta):=by
 obtain⟨b,o,its,n,hm,hk,hc,hdt,hz,hv⟩:=hG
 refine zeh (zgC zhZ ha (zih (v:=.ref b) hg hm rfl hd) rfl) fun σ H Qb ⟨r,dl,S,Q,rs,rel,h,ret⟩=>⟨r,dl,S,_,rs,rel,h,fun v H1 r1 d S1 e1 rel1 p1 q1=>?_⟩
 cases p1 with
 | str w=>
  refine⟨b,ws.map V.str,rfl,.inr (.inr ⟨o,its,n,hk,hc,hdt,hz,hv⟩),rfl,zgV ws,?_⟩
  exact⟨_,rfl,by
   show Qb (inV (.str w) (ws.map V.str)) H1
   rw[zgL]
   exact ret _ H1 r1 S1 e1 rel1 q1⟩
 | _=>exact(show False from q1).elim
def zd7 (d y:D)(S:Sto)(Q:DK):Prop:=match d with
 | .ref n=>match lAt S n with
  | some o=>(∀z∈zae o,∃c,eqN 0 z y=some c)∧Q (.int (((zae o).countP fun z=>eqN 0 z y == some true:Nat):Int)) S
  | none=>False
 | _=>False
theorem zg5 {α β:Type}{p:α→Bool}{q:β→Bool}:∀ {xs:List α} {ys:List β},xs.length=ys.length→(∀(m:Nat) (x:α) (y:β),xs[m]?=some x→ys[m]?=some y→p x=q y)→xs.countP p=ys.countP q
 | [],[],_,_=>rfl
 | [],y::ys,h,_=>by simp at h
 | x::xs,[],h,_=>by simp at h
 | x::xs,y::ys,h,f=>by
  rw[List.countP_cons,List.countP_cons,zg5 (by simpa using h) (fun m x y hx hy=>f (m + 1) x y hx hy),f 0 x y rfl rfl]
theorem zh0 {pins:List (Addr×Obj)}{σ:L3.St}{H:Hp}{s:Shared}{r:List Addr}{A:Around}{ds:List D}{vs:List V}{us:List Value}{dx:D}{x:V}{u:Value}(I:Inv X pins σ H s)(hu:A.units + 0 < cLine)
  (p:Rps r H ds vs)(rv:zad vs us)(px:Rp r H dx x)(rx:zac x u)(h1:∀z∈ds,∃c,eqN 0 z dx=some c):∃g:Value→Bool,(∀y,y∈us.toArray→SeqAt.EqAt A s y u (g y))∧us.countP g=ds.countP fun z=>eqN 0 z dx == some true:=by
 classical
 have at_:∀(m:Nat) (hm:m < us.length),∃d v,ds[m]?=some d∧Rp r H d v∧zac v us[m]:=fun m hm=>by
  have hv:m < vs.length:=by rw[rv.length]; exact hm
  have gv:vs[m]?=some vs[m]:=by simp[hv]
  obtain⟨w,gw,rw'⟩:=rv.get gv
  obtain⟨d,gd,pd⟩:=p.get' gv
  have ew:w=us[m]:=by
   rw[List.getElem?_eq_getElem hm] at gw
   exact(Option.some.inj gw).symm
  subst ew
  exact⟨d,_,gd,pd,rw'⟩
 have val:∀(m:Nat) (hm:m < us.length) (d:D) (c:Bool),ds[m]?=some d→eqN 0 d dx=some c→decide (∃d v,d∈ds∧Rp r H d v∧zac v us[m]∧eqN 0 d dx=some true)=c:=fun m hm d c hd hc=>by
  obtain⟨d',v',gd,pd,rd⟩:=at_ m hm
  rw[hd] at gd; cases gd
  cases c with
  | true=>exact decide_eq_true ⟨d,v',List.mem_of_getElem? hd,pd,rd,hc⟩
  | false=>
   refine decide_eq_false fun ⟨d2,v2,_,pd2,rd2,hc2⟩=>?_
   have ev:=zfk rd rd2
   subst ev
   exact absurd (zfi 0 d d2 dx v' false true pd pd2 hc hc2) (by decide)
 refine⟨fun y=>decide (∃d v,d∈ds∧Rp r H d v∧zac v y∧eqN 0 d dx=some true),fun y hy=>?_,?_⟩
 ·have hy':y∈us:=by simpa using hy
  obtain⟨m,hm,rfl⟩:=List.mem_iff_getElem.mp hy'
  obtain⟨d,v,gd,pd,rd⟩:=at_ m hm
  obtain⟨c,hc⟩:=h1 d (List.mem_of_getElem? gd)
  show SeqAt.EqAt A s us[m] u (decide _)
  rw[val m hm d c gd hc]
  exact zeQ 0 X pins σ H s r A d dx v x _ u c I hu pd px rd rx hc
 ·refine zg5 (by rw[← rv.length,← p.1]) fun m y d hy hd=>?_
  have hm:=(List.getElem?_eq_some_iff.mp hy).1
  have ey:us[m]=y:=by
   rw[List.getElem?_eq_getElem hm] at hy
   exact Option.some.inj hy
  obtain⟨c,hc⟩:=h1 d (List.mem_of_getElem? hd)
  have z:=val m hm d c hd hc
  rw[ey] at z
  rw[hc]
  exact z.trans (by cases c <;> rfl)
@[irreducible] def zd8 (to:TDE)(t:TDA):TDE:=fun dl S Q=>to dl S fun d S1=>(match d with
 | .ref n=>(lAt S1 n).isSome=true∧t dl S1 fun ds S2=>match ds with
  | [y]=>zd7 d y S2 Q
  | _=>False
 | _=>False)
theorem zhh {j:Nat}(hr:zaw j X.A):MtR X "list.count" (fun x xs H Qv=>∃(r:List Addr) (S:Sto) (d y:D) (v:V) (Q:DK),Rel X.K Z r S H∧Rp r H d x∧xs=[v]∧Rp r H y v∧zd7 d y S Q∧Ret X.K Z r H Q Qv):=by
 intro pins s σ H x xs v us Qv I rx rv h
 obtain⟨r,S,d,y,v1,Q,rel,pd,rfl,py,q,ret⟩:=h
 obtain⟨u,rfl,ru⟩:=zdG rv
 unfold zd7 at q
 split at q
 ·rename_i n
  split at q
  ·rename_i o eo
   obtain⟨eo,eL⟩:=zbB eo
   obtain⟨h1,q⟩:=q
   cases pd with
   | @ref n a hn=>
    cases rx
    obtain⟨a',ha,ob⟩:=rel.at eo
    rw[hn] at ha; cases ha
    obtain⟨ys,sq,pr⟩:=ob.list eL
    obtain⟨its,ri,pl,hz⟩:=I.list sq
    have hun:=hr.un
    obtain⟨g,g1,g2⟩:=zh0 (A:=X.A.in1) I (by show X.A.units + 1 + 0 < _; omega) pr ri py ru h1
    obtain⟨ob2,m,e,c,hd,hdat⟩:=pl
    obtain⟨oc,od,odat,osl⟩:=ob2
    have c':oc=.type "list":=c
    have hdat':odat=.seq its.toArray m:=hdat
    subst c' hdat'
    refine call_meets PySem.F.slot_list_count ⟨_,e,rfl⟩ PySem.F.entry_list_count (PySem.F.args_list_count_2 _ _) (PySem.SeqAt.list_countAt a its.toArray m od osl u g) ⟨e,g1,?_⟩
    have e2:(its.toArray.toList.countP g:Nat)=(zae o).countP fun z=>eqN 0 z y == some true:=by rw[← g2]
    rw[e2]
    exact⟨.int _,H,I.tok _,⟨_,rfl⟩,ret _ H r (.int _) S Ext.refl rel (.int _) q⟩
  ·exact q.elim
 ·exact q.elim
theorem zdK {j:Nat}{o e:Expr}{to:TDE}{t:TDA}{apos cpos:Pos}(hr:zaw j X.A)(ho:PD X Z o to)(ha:PDA X Z [e] t)(hbase:attributeBase o "count" X.env (eval o X.env)=eval o X.env:=by rfl)
  (hfew:((backTo cpos (starEach [e] X.env)).all (fun x=>!x.1) && (backToKw cpos (keywordEach [] X.env)).all (fun x=>x.1.isSome)
   && decide ([e].length + ([]:List Keyword).length + (if ([]:List Keyword).isEmpty then 0 else 1) < 30))=true:=by rfl)
  (hline:(apos.endLine == cpos.line)=true:=by rfl)(hs:starEach [e] X.env=(false,eval e X.env)::starEach [] X.env:=by rfl)(hplain:(backTo cpos (starEach [] X.env)).any (·.1)=false:=by rfl):
  PD X Z (.Call (.Attribute o "count" apos) [e] [] cpos) (zd8 to t):=
 za5 (zgj (T:="list") PySem.F.plainAttrs_list PySem.F.slot_list_count PySem.F.type_list_count (zhh (Z:=Z) hr) ho ha hbase hfew hline hs hplain) fun σ H Qv ⟨r,dl,S,Q,rs,rel,h,ret⟩=>by
  unfold zd8 at h
  refine⟨r,dl,S,_,rs,rel,h,fun v H1 r1 d S1 e1 rel1 p1 q1=>?_⟩
  cases p1 with
  | @ref n a hn=>
   obtain⟨hsome,q1⟩:=q1
   obtain⟨o1,eo⟩:=Option.isSome_iff_exists.mp hsome
   obtain⟨eo,eL⟩:=zbB eo
   obtain⟨a',ha',ob⟩:=rel1.at eo
   rw[hn] at ha'; cases ha'
   obtain⟨xs,sq,_⟩:=ob.list eL
   refine⟨.inl ⟨rfl,xs,sq⟩,r1,dl,S1,_,rs.ext e1,rel1,q1,fun vs H2 r2 ds S2 e2 rel2 p2 q2=>?_⟩
   split at q2
   ·rename_i y
    obtain⟨v2,vs',rfl,p3,p4⟩:=p2.uncons
    have z:=p4.unnil
    subst z
    exact⟨r2,S2,.ref n,y,v2,Q,rel2,.ref (e2.adr _ _ hn),rfl,p3,q2,ret.ext (e1.trans e2)⟩
   ·exact q2.elim
  | _=>exact(show False from q1).elim
end

section
variable {X:Cx}{Z:Zx}{pos:Pos}
@[irreducible] def zb2 (T:String)(te:TDE):TDE:=fun dl S Q=>te dl S fun d S1=>match d with
 | .ref n=>match S1[n]? with
  | some (.lst _)=>Q (.bl (za6 "list" T)) S1
  | _=>False
 | .exc _=>False
 | .non=>Q (.bl (za6 "NoneType" T)) S1
 | .bl _=>Q (.bl (za6 "bool" T)) S1
 | .int _=>Q (.bl (za6 "int" T)) S1
 | .str _=>Q (.bl (za6 "str" T)) S1
 | .tup _=>Q (.bl (za6 "tuple" T)) S1
theorem zal (K:PySem.W.Frag)(T:String)(hT:T∈["list","tuple","int","str"]):∀t∈["NoneType","bool","int","str","tuple","list"],PySem.W.kitOne K (.type t) (.type T)=some (za6 t T):=by
 simp only[List.mem_cons,List.not_mem_nil,or_false] at hT
 intro t ht
 simp only[List.mem_cons,List.not_mem_nil,or_false] at ht
 rcases hT with rfl | rfl | rfl | rfl <;> rcases ht with rfl | rfl | rfl | rfl | rfl | rfl <;> kernel_rfl
theorem zam {T:String}{e:Expr}{te:TDE}{y:Str}{p p2:Pos}(KT:∀t∈["NoneType","bool","int","str","tuple","list"],PySem.W.kitOne X.K (.type t) (.type T)=some (za6 t T))(hg:Gl X "isinstance")(hm:X.mg "isinstance"=none)(hg2:Gl X y)(hm2:X.mg y=none)(hv2:bootBuiltins y=some (.type T))(ha:PD X Z e te)
  (hv:bootBuiltins "isinstance"=some (.builtin "isinstance"):=by exact PyProof.Rows.Boot.«isinstance»)
  (hn2:y≠"__name__":=by decide)(hd2:(y == ("__debug__":Str))=false:=by decide)(he2:starEach [e,.Name y p2] X.env=(false,eval e X.env)::starEach [.Name y p2] X.env:=by rfl)
  (he3:starEach [.Name y p2] X.env=(false,eval (.Name y p2) X.env)::starEach [] X.env:=by rfl)(hpl:(backTo pos (starEach [.Name y p2] X.env)).any (·.1)=false:=by rfl):
  PD X Z (.Call (.Name "isinstance" p) [e,.Name y p2] [] pos) (zb2 T te):=
 za5 (zfe zgY hg hm hv (zdf ha (zdf (zfy (v:=.ty T) hg2 hm2 hv2 rfl hn2 hd2) zdT he3) he2) (by decide) (by decide) he2 hpl) fun σ H Qv ⟨r,dl,S,Q,rs,rel,h,ret⟩=>by
  unfold zb2 at h
  refine⟨r,dl,S,_,rs,rel,h,fun v H1 r1 d S1 e1 rel1 p1 h1=>?_⟩
  cases p1 with
  | non=>exact⟨_,T,_,_,rfl,.non,KT _ (by simp),ret _ _ _ _ _ e1 rel1 (.bl _) h1⟩
  | bl b=>exact⟨_,T,_,_,rfl,.bl b,KT _ (by simp),ret _ _ _ _ _ e1 rel1 (.bl _) h1⟩
  | int b=>exact⟨_,T,_,_,rfl,.int b,KT _ (by simp),ret _ _ _ _ _ e1 rel1 (.bl _) h1⟩
  | str b=>exact⟨_,T,_,_,rfl,.str b,KT _ (by simp),ret _ _ _ _ _ e1 rel1 (.bl _) h1⟩
  | tup e2 _ _=>exact⟨_,T,_,_,rfl,.tup e2,KT _ (by simp),ret _ _ _ _ _ e1 rel1 (.bl _) h1⟩
  | exc _=>exact(show False from h1).elim
  | @ref n a hr=>
   dsimp only at h1
   split at h1
   ·rename_i xs eS
    obtain⟨ys,eH,_⟩:=rel1.b.ob n a _ hr eS
    exact⟨_,T,_,_,rfl,.lst eH,KT _ (by simp),ret _ _ _ _ _ e1 rel1 (.bl _) h1⟩
   ·exact h1.elim
theorem zaW {T:String}{te:TDE}{dl:Ev}{S S1:Sto}{Q:DK}{n:Nat}{xs:List D}(ht:∀K:DK,K (.ref n) S1→te dl S K)(h:S1[n]?=some (.lst xs))(hq:Q (.bl (za6 "list" T)) S1):zb2 T te dl S Q:=by
 unfold zb2
 refine ht _ ?_
 simp only[h]
 exact hq
theorem zaM {T:String}{te:TDE}{dl:Ev}{S S1:Sto}{Q:DK}{xs:List D}(ht:∀K:DK,K (.tup xs) S1→te dl S K)(hq:Q (.bl (za6 "tuple" T)) S1):zb2 T te dl S Q:=by
 unfold zb2
 exact ht _ hq
theorem zbl {T:String}{te:TDE}{dl:Ev}{S S1:Sto}{Q:DK}{i:Int}(ht:∀K:DK,K (.int i) S1→te dl S K)(hq:Q (.bl (za6 "int" T)) S1):zb2 T te dl S Q:=by
 unfold zb2
 exact ht _ hq
theorem za1 {T:String}{te:TDE}{dl:Ev}{S S1:Sto}{Q:DK}{w:Str}(ht:∀K:DK,K (.str w) S1→te dl S K)(hq:Q (.bl (za6 "str" T)) S1):zb2 T te dl S Q:=by
 unfold zb2
 exact ht _ hq
end

section
variable {s:Shared}{E:Value→Shared→Prop}{A:Around}{M:Model}
theorem zgf:∀(names:List (Str×NameKind)) (n:Nat) (acc:List (Str×Addr)) (h:Heap),names.filter (fun y=>y.2 == NameKind.cell)=[]→cellsFrom n names acc=acc∧pushCells h names=h
 | [],n,acc,h,_=>⟨rfl,rfl⟩
 | (nm,k)::r,n,acc,h,e=>by
  rw[List.filter_cons] at e
  unfold cellsFrom pushCells
  dsimp only at e
  split at e
  ·cases e
  ·rename_i hk
   rw[if_neg hk,if_neg hk]
   exact zgf r n acc h e
theorem zgx {x:Str}:∀(names:List (Str×NameKind)) (n:Nat) (acc:List (Str×Addr)) (h:Heap),names.filter (fun y=>y.2 == NameKind.cell)=[(x,NameKind.cell)]→cellsFrom n names acc=(x,n)::acc∧pushCells h names=h.push { cls:=.type "cell",data:=.cell none }
 | [],n,acc,h,e=>by cases e
 | (nm,k)::r,n,acc,h,e=>by
  rw[List.filter_cons] at e
  unfold cellsFrom pushCells
  dsimp only at e
  split at e
  ·rename_i hk
   rw[if_pos hk,if_pos hk]
   obtain⟨e1,e2⟩:=List.cons.inj e
   cases e1
   exact zgf r (n + 1) _ _ e2
  ·rename_i hk
   rw[if_neg hk,if_neg hk]
   exact zgx r n acc h e
theorem ziK {scope:Scope}{x:Str}{globals:Addr}{closure:List (Str×Addr)}{qual:Str}{func:Option Addr}{code:Value}{outer:Env}{builtins:Addr}{Q:Env→Shared→Prop}
  (one:scope.names.filter (fun y=>y.2 == NameKind.cell)=[(x,NameKind.cell)])
  (hQ:Q (newEnv scope s.heap.objs.size globals ((x,s.heap.objs.size + 1)::closure) qual func code (some outer) builtins) { s with heap:=(s.heap.push { cls:=.type "dict",data:=.dict #[] }).push { cls:=.type "cell",data:=.cell none } }):
  wpAny M A (newFunctionEnv scope globals closure [] qual func code (some outer) builtins) Q E s:=by
 simp only[newFunctionEnv,if_true,Option.isSome_some]
 refine wpAny_bind (wpAny_alloc (wpAny_bind (wpAny_layCells _ (fun nm kd cl=>by cases hq:kd == NameKind.cell <;> simp[hq]) _ _ _ _ ?_)))
 obtain⟨e1,e2⟩:=zgx scope.names (s.heap.objs.size + 1) closure (s.heap.push { cls:=.type "dict",data:=.dict #[] }) one
 rw[show ({ s with heap:=s.heap.push { cls:=.type "dict",data:=.dict #[] } }:Shared).heap.objs.size=s.heap.objs.size + 1 from Heap.size_push ..]
 rw[e1]
 dsimp only
 rw[e2,List.forIn_nil]
 exact wpAny_bind (wpAny_pure (wpAny_pure hQ))
end
theorem zfj {env:Env}:∀ {names:List (Str×NameKind)} {x:Str},names.lookup x=some .cell→
  (names.map fun (n,k)=>if (k == NameKind.free && env.scope.kind == .function && env.kindOf n == some .cell) then (n,NameKind.cell) else (n,k)).lookup x=some .cell
 | [],_,h=>by simp at h
 | (n,k)::r,x,h=>by
  have ih:=@zfj env r x
  rw[List.map_cons]
  cases hx:x == n with
  | true=>
   rw[List.lookup_cons,hx] at h
   have hk:k=.cell:=Option.some.inj h
   subst hk
   simp[List.lookup_cons,hx]
  | false=>
   rw[List.lookup_cons,hx] at h
   dsimp only
   split
   ·simp only[List.lookup_cons,hx]; exact ih h
   ·simp only[List.lookup_cons,hx]; exact ih h
theorem zfX {env:Env}:∀ {names:List (Str×NameKind)} {x:Str},
  ((names.map fun (n,k)=>if (k == NameKind.free && env.scope.kind == .function && env.kindOf n == some .cell) then (n,NameKind.cell) else (n,k)).lookup x=some .cell∨
  (names.map fun (n,k)=>if (k == NameKind.free && env.scope.kind == .function && env.kindOf n == some .cell) then (n,NameKind.cell) else (n,k)).lookup x=some .free)→names.lookup x=some .free∨names.lookup x=some .cell
 | [],_,h=>by simp at h
 | (n,k)::r,x,h=>by
  have ih:=@zfX env r x
  rw[List.map_cons] at h
  cases hx:x == n with
  | true=>
   rw[List.lookup_cons,hx]
   dsimp only at h
   split at h
   ·rename_i q
    simp only[Bool.and_eq_true] at q
    have hk:k=.free:=by simpa using q.1.1
    rw[hk]
    exact .inl rfl
   ·simp only[List.lookup_cons,hx] at h
    rcases h with h | h
    ·exact .inr h
    ·exact .inl h
  | false=>
   rw[List.lookup_cons,hx]
   dsimp only at h
   split at h
   ·simp only[List.lookup_cons,hx] at h; exact ih h
   ·simp only[List.lookup_cons,hx] at h; exact ih h
structure zep (sc around:Scope)(x:Str)(caps:List Str):Prop where
 kind:sc.kind=.function
 one:sc.names.filter (fun y=>y.2 == NameKind.cell)=[(x,NameKind.cell)]
 own:∀y∈sc.names,y.2=.local→sc.names.lookup y.1=some .local
 loc:sc.names.lookup x=some .cell
 cap:∀y∈caps,sc.names.lookup y=some .free
 out:∀y∈sc.names,y.2=.free→around.names.lookup y.1=some .cell
abbrev CxC (X:Cx)(sc:Scope)(x:Str)(N:List Str)(cl:List (Str×Addr))(C:Addr)(s0:Shared)(H0:Hp)(fp:List Addr)(pn:List (Addr×Obj)):Cx:=
 { X with N:=N,env:=compEnvC sc cl C X.env,s₀:=s0,H₀:=H0,outer:=X.stack,stack:=X.stack,ex:=fp,fn:=fun y=>y == x,pn:=pn,xe:=fun _ _=>False }
theorem zeJ {α:Type}{x y:Str}{c:α}{cl:List (Str×α)}(h:y≠x):((x,c)::cl).lookup y=cl.lookup y:=by
 rw[List.lookup_cons]
 have z:(y == x)=false:=by simpa using h
 rw[z]
theorem zel {α:Type}{x:Str}{c:α}{cl:List (Str×α)}:((x,c)::cl).lookup x=some c:=by
 rw[List.lookup_cons,beq_self_eq_true]
section
variable {X:Cx}{pins:List (Addr×Obj)}{σ:L2.St}{H:Hp}{s:Shared}
theorem zhB {sc:Scope}{x:Str}{N:List Str}{caps:List Nat}{cl:List (Str×Addr)}{fp:List Addr}{h1:Heap}{m:Str→Option Value}{tk:Nat}(I:Inv X pins σ H s)(cs:zep sc X.env.scope x N)
  (hN:∀(j:Nat) (y:Str),N[j]?=some y→∃i,caps[j]?=some i∧X.N[i]?=some y)(hlen:caps.length=N.length)
  (c1:∀x c,cl.lookup x=some c→X.env.cells.lookup x=some c)(c2:∀y∈sc.names,y.2=.free→cl.lookup y.1=X.env.cells.lookup y.1)
  (hf:∀b∈fp,za3 X pins H b)(hfo:∀b∈fp,b < s.heap.objs.size)(hns:h1.Ns s.heap.objs.size m)(hk:∀b o,s.heap.get? b=some o→h1.get? b=some o)(hcell:h1.IsCell (s.heap.objs.size + 1) none):
  Inv (CxC X sc x (x::N) ((x,s.heap.objs.size + 1)::cl) s.heap.objs.size s H fp (X.pn++pins)) [] (none::zau caps σ) H { s with heap:=h1,toks:=tk }:=by
 have stk:∀b∈frs X.stack,b=X.env.locals∨b∈X.fs:=fun b hb=>List.mem_cons.mp (I.stkSub b hb)
 have cases':∀y c,((x,s.heap.objs.size + 1)::cl).lookup y=some c→(y=x∧c=s.heap.objs.size + 1)∨(y≠x∧X.env.cells.lookup y=some c):=fun y c e=>by
  by_cases hy:y=x
  ·subst hy
   rw[zel] at e
   exact .inl ⟨rfl,(Option.some.inj e).symm⟩
  ·rw[zeJ hy] at e
   exact .inr ⟨hy,c1 _ _ e⟩
 have old:∀y c,X.env.cells.lookup y=some c→c < s.heap.objs.size:=fun y c e=>by
  obtain⟨v,z⟩:=I.cell y c e
  exact z.lt
 refine⟨⟨I.ok.mod,cs.kind,I.ok.glob,I.ok.blt,Nat.le_refl _,fun a b c h1 h2=>?_,fun y hy=>?_,fun y c hy e=>?_,I.ok.hd,I.ok.frames,.inl rfl,fun b hb=>⟨Nat.ne_of_lt (hfo b hb),fun y c e=>?_⟩,
  I.bs,Nat.le_trans I.ok.bsz I.sz,fun b o e hb=>?_,fun b hb z=>?_,I.stack,I.stkFree⟩,rfl,I.bare,Un.kept hk,⟨m,hns,fun i y v e1 e2 e3=>?_⟩,fun y c e=>?_,I.hok.fresh (Nat.le_refl _),fun y c e=>?_,fun p hp=>?_,I.hok.kept hk,?_⟩
 ·rcases cases' _ _ h1 with ⟨ea,ec⟩ | ⟨_,ea⟩ <;> rcases cases' _ _ h2 with ⟨eb,ec'⟩ | ⟨_,eb⟩
  ·rw[ea,eb]
  ·exact absurd (ec ▸ old _ _ eb) (Nat.not_lt.mpr (Nat.le_succ _))
  ·exact absurd (ec' ▸ old _ _ ea) (Nat.not_lt.mpr (Nat.le_succ _))
  ·exact I.ok.inj a b c ea eb
 ·rcases zfX hy with hfr | hce
  ·have hm:=zcz hfr
   obtain⟨c,e⟩:=I.ok.has y (.inl (cs.out _ hm rfl))
   have hne:y≠x:=fun q=>by rw[q,cs.loc] at hfr; cases hfr
   exact⟨c,(zeJ hne).trans ((c2 _ hm rfl).trans e)⟩
  ·have hm:=zcz hce
   have hm':(y,NameKind.cell)∈sc.names.filter (fun y=>y.2 == NameKind.cell):=List.mem_filter.mpr ⟨hm,by simp⟩
   rw[cs.one] at hm'
   have ey:y=x:=congrArg Prod.fst (List.mem_singleton.mp hm')
   subst ey
   exact⟨_,zel⟩
 ·have ey:y=x:=by simpa using hy
  subst ey
  have z:((y,s.heap.objs.size + 1)::cl).lookup y=some c:=e
  rw[zel] at z
  have:=Option.some.inj z
  show s.heap.objs.size≤c
  omega
 ·rcases cases' _ _ e with ⟨_,ec⟩ | ⟨_,ec⟩
  ·intro q
   exact absurd (hfo b hb) (by rw[← q,ec]; exact Nat.not_lt.mpr (Nat.le_succ _))
  ·exact(hf b hb).2.2.2.2.1 y c ec
 ·rcases (hf b hb).2.2.2.1 with z | z
  ·exact I.ok.noex b o e z
  ·exact absurd (Nat.lt_of_lt_of_le (Heap.lt_size (I.ok.bs b o e).1) z) (Nat.lt_irrefl _)
 ·rcases stk b z with z | z
  ·exact(hf b hb).2.1 z
  ·exact(hf b hb).2.2.1 z
 ·cases i with
  | zero=>simp at e2
  | succ i=>
   have e1':N[i]?=some y:=by simpa using e1
   obtain⟨j,hj,hy⟩:=hN i y e1'
   have e2':σ[j]?=some (some v):=by
    simp only[List.getElem?_cons_succ,zau,List.getElem?_map,hj,Option.map_some,Option.some.injEq] at e2
    cases q:σ[j]? with
    | none=>rw[q] at e2; cases e2
    | some o=>rw[q] at e2; simp at e2; rw[e2]
   have hfr:sc.names.lookup y=some .free:=cs.cap y (List.mem_of_getElem? e1')
   have hm:=zcz hfr
   have hne:y≠x:=fun q=>by rw[q,cs.loc] at hfr; cases hfr
   have hce:X.env.scope.names.lookup y=some .cell:=cs.out _ hm rfl
   obtain⟨m0,_,hl⟩:=I.loc
   obtain⟨u,r,l⟩:=hl j y v hy e2' (.inr (.inl hce))
   refine⟨u,r,.inr ⟨zem hfr,?_⟩⟩
   rcases l with ⟨k,_⟩ | ⟨_,c,ec,hcell⟩
   ·rw[show X.env.kindOf y=some .cell from hce] at k; cases k
   ·exact⟨c,(zeJ hne).trans ((c2 _ hm rfl).trans ec),hcell.keeps hk⟩
 ·rcases cases' _ _ e with ⟨_,ec⟩ | ⟨_,ec⟩
  ·rw[ec]
   exact⟨none,hcell⟩
  ·obtain⟨v,z⟩:=I.cell y c ec
   exact⟨v,z.keeps hk⟩
 ·rcases cases' _ _ e with ⟨_,ec⟩ | ⟨_,ec⟩
  ·rw[ec]
   exact I.hok.fresh (Nat.le_succ _)
  ·exact I.freeC y c ec
 ·have hp':p∈X.pn++pins:=by simpa using hp
  obtain⟨p1,p2,p3,p4,p5⟩:=I.pin p hp'
  refine⟨hk _ _ p1,p2,Nat.ne_of_lt (Heap.lt_size p1),fun z=>?_,p5⟩
  rcases stk _ z with z | z
  ·exact p3 z
  ·exact p4 z
 ·simp[zau,hlen]
end

section
variable {X:Cx}{elt iter:Expr}{x:Str}{px pos:Pos}{ifs:List Expr}{sc:Scope}{N:List Str}{caps:List Nat}{wi:TI}{tc:TT}{te:TE}
theorem zh6 {use:Option (Value→Sem Unit)}{Qr:Value→Shared→Prop}(hc:X.calm=true)(cs:zep sc X.env.scope x N)(hN:∀(j:Nat) (y:Str),N[j]?=some y→∃i,caps[j]?=some i∧X.N[i]?=some y)(hlen:caps.length=N.length)(hnd:(x::N).Nodup)
  (hi:PI X (.Name x px) iter wi)(ht:∀cl C s0 H0 fp pn,PTs (CxC X sc x (x::N) cl C s0 H0 fp pn) ifs tc)(he:∀cl C s0 H0 fp pn,PE (CxC X sc x (x::N) cl C s0 H0 fp pn) elt te)
  (hs:∀y,foldedSetIterable iter X.env y=pure y)
  {pins:List (Addr×Obj)}{s:Shared}{σ:L2.St}{H:Hp}{Q:VK}{p2:Pos}(I:Inv X pins σ H s)(h:zc0 caps wi tc te σ H Q)
  (fin:∀D C s',ze2 X pins σ C Q D s'→compPost (model X.prog X.w) X.A X.xe use Qr (.ref D) C (.ok .next) s'):
  wpAny (model X.prog X.w) X.A (comprehension (.ListComp elt [⟨.Name x px,iter,ifs,0⟩] sc pos) sc X.env p2 (newList []) false (eval iter X.env) use) Qr X.xe s:=by
 obtain⟨cl,k1,k2,k3⟩:=ze8 (sc:=sc) (env:=X.env) fun y hy hf=>I.ok.has y.1 (.inl (cs.out y hy hf))
 refine wpAny_comprehension_free rfl hs k1 cs.kind cs.own (thn (hi pins s σ H _ I h) fun v s1 h1=>thn h1 fun itv s2 h2=>?_)
 obtain⟨it,fp,tn,J,H2,e,I2,T,st2,f2,body⟩:=h2
 subst e
 have hfo:∀b∈fp,b < s2.heap.objs.size:=fun b hb=>by
  obtain⟨o,e,_⟩:=T.obj _ _ st2 b hb
  exact Heap.lt_size e
 have hD:H2 s2.heap.objs.size=none:=I2.hok.fresh (Nat.le_refl _)
 obtain⟨W,⟨m0,w0⟩,turn⟩:=body _ hD
 refine wpAny_newObj_type ?_
 have I3:Inv X pins σ (upd H2 s2.heap.objs.size (.lst [])) { s2 with heap:=s2.heap.push { cls:=.type "list",dict:=none,data:=.seq ([]:List Value).toArray },toks:=s2.toks }:=
  I2.laid (t':=s2.toks) (fun b u e=>Heap.get?_push_of_some _ e) (Nat.le_refl _) ⟨Nat.zero_le _,[],0,.nil,Heap.get?_push_size _ rfl⟩
 generalize hs3:({ s2 with heap:=s2.heap.push { cls:=.type "list",dict:=none,data:=.seq ([]:List Value).toArray },toks:=s2.toks }:Shared)=s3 at I3
 have es3:({ s2 with heap:=s2.heap.push { cls:=.type "list",dict:=none,data:=.seq ([]:List Value).toArray } }:Shared)=s3:=hs3
 try rw[es3]
 have f3:∀b∈fp,za3 X pins (upd H2 s2.heap.objs.size (.lst [])) b:=fun b hb=>⟨by rw[zaH (Nat.ne_of_lt (hfo b hb))]; exact(f2 b hb).1,(f2 b hb).2⟩
 have up3:∀b o,s2.heap.get? b=some o→s3.heap.get? b=some o:=fun b o e=>by rw[← hs3]; exact Heap.get?_push_of_some _ e
 have st3:tn 0 s3.heap:=T.keep _ _ _ st2 fun b _ o e=>up3 b o e
 have hfo3:∀b∈fp,b < s3.heap.objs.size:=fun b hb=>by
  obtain⟨o,e,_⟩:=T.obj _ _ st3 b hb
  exact Heap.lt_size e
 refine ziK cs.one ?_
 obtain⟨h4,eh⟩:∃h4,h4=(s3.heap.push { cls:=.type "dict",data:=.dict #[] }).push { cls:=.type "cell",data:=.cell none }:=⟨_,rfl⟩
 have hk4:∀b o,s3.heap.get? b=some o→h4.get? b=some o:=fun b o e=>by rw[eh]; exact Heap.get?_push_of_some _ (Heap.get?_push_of_some _ e)
 have ns4:h4.Ns s3.heap.objs.size fun _=>none:=by rw[eh]; exact(Heap.Ns.new s3.heap (.type "dict")).keeps fun b o e=>Heap.get?_push_of_some _ e
 have ce4:h4.IsCell (s3.heap.objs.size + 1) none:=by
  rw[eh]
  refine⟨{ cls:=.type "cell",data:=.cell none },?_,rfl⟩
  have z:(s3.heap.push { cls:=.type "dict",data:=.dict #[] }).objs.size=s3.heap.objs.size + 1:=Heap.size_push ..
  rw[← z]
  exact(Heap.get?_push_size _ rfl)
 have I4:=zhB (tk:=s3.toks) I3 cs hN hlen k2 k3 f3 hfo3 ns4 hk4 ce4
 rw[← eh]
 generalize hs4:({ s3 with heap:=h4,toks:=s3.toks }:Shared)=s4 at I4
 have eh4:s4.heap=h4:=by rw[← hs4]
 have st4:tn 0 s4.heap:=by rw[eh4]; exact T.keep _ _ _ st3 fun b _ o e=>hk4 b o e
 have fY:∀ {H':Hp},(∀b∈fp,H' b=none)→∀b∈fp,za3 (CxC X sc x (x::N) ((x,s3.heap.objs.size + 1)::cl) s3.heap.objs.size s3 (upd H2 s2.heap.objs.size (.lst [])) fp (X.pn++pins)) [] H' b:=fun hn b hb=>by
  obtain⟨_,z2,z3,z4,z5,z6⟩:=f3 b hb
  refine⟨hn b hb,Nat.ne_of_lt (hfo3 b hb),fun z=>?_,.inl hb,fun y c e=>by
   by_cases hy:y=x
   ·subst hy
    have z:((y,s3.heap.objs.size + 1)::cl).lookup y=some c:=e
    rw[zel] at z
    intro q
    exact absurd (hfo3 b hb) (by rw[← q,← Option.some.inj z]; exact Nat.not_lt.mpr (Nat.le_succ _))
   ·exact z5 y c (k2 _ _ ((zeJ hy).symm.trans e)),fun p hp=>z6 p (by simpa using hp)⟩
  rcases List.mem_cons.mp (I3.stkSub b z) with z | z
  ·exact z2 z
  ·exact z3 z
 have locY:(CxC X sc x (x::N) ((x,s3.heap.objs.size + 1)::cl) s3.heap.objs.size s3 (upd H2 s2.heap.objs.size (.lst [])) fp (X.pn++pins)).env.scope.names.lookup x=some .cell:=zfj cs.loc
 have loop:codeAny (model X.prog X.w) X.A (.compLoop (.ListComp elt [⟨.Name x px,iter,ifs,0⟩] sc pos) 0 (.ref it) (.ref s2.heap.objs.size) (compEnvC sc ((x,s3.heap.objs.size + 1)::cl) s3.heap.objs.size X.env))
   (compPost (model X.prog X.w) X.A X.xe use Qr (.ref s2.heap.objs.size) s3.heap.objs.size) s4:=by
  refine codeAny_compLoop_tests (fun n s'=>∃i o H',Inv (CxC X sc x (x::N) ((x,s3.heap.objs.size + 1)::cl) s3.heap.objs.size s3 (upd H2 s2.heap.objs.size (.lst [])) fp (X.pn++pins)) [] (o::zau caps σ) H' s'∧tn i s'.heap∧(∀b∈fp,H' b=none)∧W i n H') ?_ m0
   ⟨0,none,_,I4,st4,fun b hb=>(f3 b hb).1,w0⟩
  rintro n s5 ⟨i,o,H5,I5,st5,fr5,w5⟩
  rcases turn i n H5 w5 with ⟨stop,q⟩ | ⟨go,step⟩
  ·refine thn (T.done (CxC X sc x (x::N) ((x,s3.heap.objs.size + 1)::cl) s3.heap.objs.size s3 (upd H2 s2.heap.objs.size (.lst [])) fp (X.pn++pins)) rfl rfl rfl hc i [] s5 _ H5 _ I5 (fY fr5) st5 stop) fun r s6 ⟨hr,I6⟩=>?_
   subst hr
   refine fin _ _ _ ⟨⟨H5,I3.call' I6.os I6.base I6.hok I6.bare (fun b hb=>?_),q,I6.free⟩,?_,Nat.ne_of_gt I3.lt,I3.sz,fun y c e z=>?_,fun p hp z=>?_⟩
   ·obtain⟨_,z2,z3,z4,z5,z6⟩:=f3 b hb
    exact⟨z4,z2,z5,z6⟩
   ·obtain⟨m,hm,_⟩:=I6.loc
    exact⟨m,hm⟩
   ·obtain⟨v,hv⟩:=I3.cell y c e
    exact absurd (z ▸ hv.lt) (Nat.lt_irrefl _)
   ·exact absurd (z ▸ Heap.lt_size (I3.pin p hp).1) (Nat.lt_irrefl _)
  ·refine thn (T.item (CxC X sc x (x::N) ((x,s3.heap.objs.size + 1)::cl) s3.heap.objs.size s3 (upd H2 s2.heap.objs.size (.lst [])) fp (X.pn++pins)) rfl rfl rfl hc i [] s5 _ H5 _ I5 (fY fr5) st5 go) fun r s6 ⟨u,hr,h6⟩=>?_
   subst hr
   show wpAny _ _ (letOwnedTupleGo (.Name x px) (.ref it) u >>= fun _=>assign (.Name x px) (compEnvC sc ((x,s3.heap.objs.size + 1)::cl) s3.heap.objs.size X.env) u) _ _ s6
   refine wpAny_bind (thn h6 fun _ s7 ⟨y,H7,I7,r7,y7,st7,fr7⟩=>?_)
   have I7':=I7.pinned (fY fr7) (T.obj _ _ st7)
   refine wpAny_mono (zdO (X:=CxC X sc x (x::N) ((x,s3.heap.objs.size + 1)::cl) s3.heap.objs.size s3 (upd H2 s2.heap.objs.size (.lst [])) fp (X.pn++pins)) (pos:=px) hnd (i:=0) rfl (.inr locY) (.inl (beq_self_eq_true x)) _ s7 _ H7 y u (fun σ8 H8=>σ8=some y::zau caps σ∧H8=H7) I7' r7 ⟨rfl,rfl⟩) (fun _ s8 ⟨σ8,H8,I8,e8,e8'⟩=>?_) fun _ _ z=>z.elim
   subst e8
   subst e8'
   have stay:∀ {H':Hp} {s':Shared},Inv (CxC X sc x (x::N) ((x,s3.heap.objs.size + 1)::cl) s3.heap.objs.size s3 (upd H2 s2.heap.objs.size (.lst [])) fp (X.pn++pins)) ([]++zcO fp s7.heap) (some y::zau caps σ) H' s'→∀m',m' < n→W (i + 1) m' H'→
     ∃m,m < n∧∃i o H',Inv (CxC X sc x (x::N) ((x,s3.heap.objs.size + 1)::cl) s3.heap.objs.size s3 (upd H2 s2.heap.objs.size (.lst [])) fp (X.pn++pins)) [] (o::zau caps σ) H' s'∧tn i s'.heap∧(∀b∈fp,H' b=none)∧W i m H':=fun {H' s'} J m' hm w'=>by
    refine⟨m',hm,i + 1,some y,H',J.unpinned,T.keep _ _ _ st7 fun b hb o e=>(J.pin (b,o) (List.mem_append_right _ (List.mem_append_right _ (zcA hb e)))).1,fun b hb=>?_,w'⟩
    obtain⟨o,e,d⟩:=T.obj _ _ st7 b hb
    exact(J.pin (b,o) (List.mem_append_right _ (List.mem_append_right _ (zcA hb e)))).2.1
   refine wpAny_mono (ht _ _ _ _ _ _ _ s8 _ H8 _ I8 (step y H8 y7)) (fun b s9 ⟨H9,I9,q9⟩=>?_) fun _ _ z=>z.elim
   cases b with
   | false=>
    rw[if_neg Bool.false_ne_true] at q9 ⊢
    obtain⟨m',hm,w9⟩:=q9
    exact stay I9 m' hm w9
   | true=>
    rw[if_pos rfl] at q9 ⊢
    refine wpAny_mono (he _ _ _ _ _ _ _ s9 _ H9 _ I9 q9) (fun u2 s10 ⟨z,H10,I10,r10,q10⟩=>?_) fun _ _ z=>z.elim
    obtain⟨ys,hD10,hlt,m',hm,w10⟩:=q10
    refine wpAny_mono (zet (X:=(CxC X sc x (x::N) ((x,s3.heap.objs.size + 1)::cl) s3.heap.objs.size s3 (upd H2 s2.heap.objs.size (.lst [])) fp (X.pn++pins))) _ s10 _ H10 (.ref s2.heap.objs.size) [z] (.ref s2.heap.objs.size) [u2] (fun _ H'=>H'=upd H10 s2.heap.objs.size (.lst (ys++[z]))) I10 rfl (.cons r10 .nil) ⟨_,ys,z,rfl,rfl,hD10,hlt,rfl⟩) (fun _ s11 ⟨_,H11,I11,_,e11⟩=>?_) fun _ _ z=>z.elim
    subst e11
    exact stay I11 m' hm w10
 exact codeAny_compStart_list loop (T.self _ 0 s4 _ _ st4 loop)

end
section
variable {X:Cx}{Z:Zx}{elt iter:Expr}{x:Str}{px pos:Pos}{ifs:List Expr}{sc ar:Scope}{N:List Str}{caps:List Nat}
theorem zjz {tl:TDE}{tc:TDT}{te:TDE}(har:X.env.scope=ar)(hc:X.calm=true)(cs:zep sc ar x N)(hN:caps.map (fun i=>X.N[i]?)=N.map some)(hnd:(x::N).Nodup)(hl:PD X Z iter tl)
  (ht:∀cl C s0 H0 fp pn,zcJ (CxC X sc x (x::N) cl C s0 H0 fp pn) ifs tc)(he:∀cl C s0 H0 fp pn,PD (CxC X sc x (x::N) cl C s0 H0 fp pn) Z0 elt te)
  (hs:∀y,foldedSetIterable iter X.env y=pure y:=by intro _; rfl):PD X Z (.ListComp elt [⟨.Name x px,iter,ifs,0⟩] sc pos) (zcq caps tl tc te):=by
 subst har
 intro pins s σ H Q I h
 rw[eval_ListComp]
 refine zh6 (use:=none) (tc:=upT X.K Z0 tc) (te:=up X.K Z0 te) hc cs (zcy hN).1 (zcy hN).2 hnd (zeO hl) ht he hs I (zfT h) fun D C s' f=>?_
 obtain⟨⟨H',I',q,hC⟩,⟨m,ns⟩,l,o,c,p⟩:=f
 exact⟨m,ns,fun h' sb=>⟨.ref D,H',I'.turned (t':=s'.toks) (fun b ob hb e=>(sb.2 b hb).trans e) hC l (.inr o) c p,rfl,q⟩⟩
theorem cscC {sc ar:Scope}{x:Str}{caps:List Str}(a:sc.kind=.function:=by rfl)(b:sc.names.filter (fun y=>y.2 == NameKind.cell)=[(x,NameKind.cell)]:=by decide +kernel)(c:∀y∈sc.names,y.2=.local→sc.names.lookup y.1=some .local:=by decide +kernel)(d:sc.names.lookup x=some .cell:=by rfl)(e:∀y∈caps,sc.names.lookup y=some .free:=by decide +kernel)(f:∀y∈sc.names,y.2=.free→ar.names.lookup y.1=some .cell:=by decide +kernel):zep sc ar x caps:=⟨a,b,c,d,e,f⟩
theorem zfN {env:Env}:∀ {names:List (Str×NameKind)} {x:Str},names.lookup x=some .free→env.scope.kind=.function→env.kindOf x=some .cell→
  (names.map fun (n,k)=>if (k == NameKind.free && env.scope.kind == .function && env.kindOf n == some .cell) then (n,NameKind.cell) else (n,k)).lookup x=some .cell
 | [],_,h,_,_=>by simp at h
 | (n,k)::r,x,h,h2,h3=>by
  have ih:=@zfN env r x
  rw[List.map_cons]
  cases hx:x == n with
  | true=>
   rw[List.lookup_cons,hx] at h
   have hk:k=.free:=Option.some.inj h
   have en:x=n:=by simpa using hx
   subst hk en
   simp[List.lookup_cons,h2,h3]
  | false=>
   rw[List.lookup_cons,hx] at h
   dsimp only
   split
   ·simp only[List.lookup_cons,hx]; exact ih h h2 h3
   ·simp only[List.lookup_cons,hx]; exact ih h h2 h3
theorem cscN {sc sc1 ar0:Scope}{env1:Env}{x:Str}{caps:List Str}(h:env1.scope=ar0)(a:sc.kind=.function:=by rfl)(b:∀y∈sc.names,y.2≠.cell:=by decide +kernel)(c:∀y∈sc.names,y.2=.local→sc.names.lookup y.1=some .local:=by decide +kernel)(d:sc.names.lookup x=some .local:=by rfl)(e:∀y∈caps,sc.names.lookup y=some .free:=by decide +kernel)
  (f:∀y∈sc.names,y.2=.free→sc1.names.lookup y.1=some .cell∨(sc1.names.lookup y.1=some .free∧ar0.kind=.function∧ar0.names.lookup y.1=some .cell):=by decide +kernel):zci sc (relabel sc1 env1) x caps:=⟨a,b,c,d,e,fun y hy hf=>by
 subst h
 rcases f y hy hf with z | ⟨z1,z2,z3⟩
 ·exact zfj z
 ·exact zfN z1 z2 z3⟩
end
theorem zjX (xs:List D)(a b:Nat):(zbQ xs (some (a:Int)) (some (b:Int))).length≤b - a:=by
 unfold L3.zbQ
 rw[List.length_take,List.length_drop,HT.sIx_nat,HT.sIx_nat]
 omega
theorem zgN {to te:TDE}{dl:Ev}{S:Sto}{Q:DK}{n:Nat}{xs:List D}(hto:∀K:DK,K (.ref n) S→to dl S K)(h:S[n]?=some (.lst xs))(hte:∀K:DK,(∀(y:D) (S2:Sto),S2[n]?=some (.lst xs)→Q .non (S2.set n (.lst (xs++[y])))→K y S2)→te dl S K)(hl:xs.length < 1000):zcQ to te dl S Q:=by
 unfold zcQ
 refine hto _ ?_
 simp only[h]
 refine hte _ fun y S2 h2 q=>?_
 simp only[h2,if_pos hl]
 exact q

theorem zis {S T:Sto}(p:Pre S T):S.length≤T.length:=by
 cases e:S.length with
 | zero=>exact Nat.zero_le _
 | succ n=>
  have h:=List.getElem?_eq_getElem (l:=S) (i:=n) (by omega)
  exact zcX (p _ _ h)
inductive TT where
 | i (n:Int)
 | s (w:Str)
 | t (xs:List TT)
 | l (xs:List TT)
inductive Den (S:Sto)(lo:Nat):Nat→TT→D→Prop
 | i {n:Nat} (k:Int):Den S lo n (.i k) (.int k)
 | s {n:Nat} (w:Str):Den S lo n (.s w) (.str w)
 | t {n:Nat} {xs:List TT} {ds:List D}:xs.length≤900→xs.length=ds.length→(∀(k:Nat) (x:TT) (y:D),xs[k]?=some x→ds[k]?=some y→Den S lo n x y)→Den S lo (n + 1) (.t xs) (.tup ds)
 | l {n a:Nat} {xs:List TT} {ds:List D}:S[a]?=some (.lst ds)→lo≤a→xs.length≤900→xs.length=ds.length→(∀(k:Nat) (x:TT) (y:D),xs[k]?=some x→ds[k]?=some y→Den S lo n x y)→Den S lo (n + 1) (.l xs) (.ref a)
theorem Den.keep {S S':Sto}{lo n:Nat}{t:TT}{d:D}(h:Den S lo n t d)(p:∀(x:Nat) (o:Ob),lo≤x→S[x]?=some o→S'[x]?=some o):Den S' lo n t d:=by
 induction h with
 | i k=>exact .i k
 | s w=>exact .s w
 | t z l _ ih=>exact .t z l ih
 | l h g z l _ ih=>exact .l (p _ _ g h) g z l ih
theorem Den.pre {S S':Sto}{lo n:Nat}{t:TT}{d:D}(h:Den S lo n t d)(p:Pre S S'):Den S' lo n t d:=h.keep fun x o _ e=>p x o e
theorem Den.low {S:Sto}{lo lo' n:Nat}{t:TT}{d:D}(h:Den S lo n t d)(q:lo'≤lo):Den S lo' n t d:=by
 induction h with
 | i k=>exact .i k
 | s w=>exact .s w
 | t z l _ ih=>exact .t z l ih
 | l h g z l _ ih=>exact .l h (Nat.le_trans q g) z l ih
theorem Den.up {S:Sto}{lo n:Nat}{t:TT}{d:D}(h:Den S lo n t d):Den S lo (n + 1) t d:=by
 induction h with
 | i k=>exact .i k
 | s w=>exact .s w
 | t z l _ ih=>exact .t z l ih
 | l h g z l _ ih=>exact .l h g z l ih
theorem Alk.flat {S:Sto}{d e:D}(h:eqF d e=some true):∀n,Alk S n d e
 | 0=>h
 | n + 1=>.inl (Alk.flat h n)
theorem Den.alk {S:Sto}{lo lo' n:Nat}{t:TT}{d e:D}(h:Den S lo n t d)(h':Den S lo' n t e):Alk S n d e:=by
 induction h generalizing e with
 | i k=>
  cases h'
  exact Alk.flat (by simp[eqF]) _
 | s w=>
  cases h'
  exact Alk.flat (by simp[eqF]) _
 | @t n xs ds _ l _ ih=>
  cases h' with
  | @t _ _ es _ l' f'=>
   refine .inr (.inl ⟨ds,es,rfl,rfl,by omega,fun k x y hx hy=>?_⟩)
   have hk:k < xs.length:=by have:=(List.getElem?_eq_some_iff.mp hx).1; omega
   exact ih k xs[k] x (List.getElem?_eq_getElem hk) hx (f' k xs[k] y (List.getElem?_eq_getElem hk) hy)
 | @l n a xs ds h _ _ l _ ih=>
  cases h' with
  | @l _ b _ es h' _ _ l' f'=>
   refine .inr (.inr ⟨a,b,ds,es,rfl,rfl,h,h',by omega,fun k x y hx hy=>?_⟩)
   have hk:k < xs.length:=by have:=(List.getElem?_eq_some_iff.mp hx).1; omega
   exact ih k xs[k] x (List.getElem?_eq_getElem hk) hx (f' k xs[k] y (List.getElem?_eq_getElem hk) hy)
theorem zbg {b:Bool}{S:Sto}{Q:DK}(h:Q (.bl false) S):wNe eq2 (.bl b) (.bl b) S Q:=by
 cases b <;> exact h
theorem zcB {i j:Int}{S:Sto}{Q:DK}(e:i=j)(h:Q (.bl false) S):wNe eq2 (.int i) (.int j) S Q:=by
 show Q (.bl (!decide (i=j))) S
 rw[decide_eq_true e]
 exact h
theorem zck:∀xs:List Nat,zbC (xs.map fun _=>D.bl true)=some (xs.map fun _=>true)
 | []=>rfl
 | x::xs=>by
  rw[List.map_cons,List.map_cons]
  show (zbC (xs.map fun _=>D.bl true)).map _=_
  rw[zck xs]
  rfl
theorem zb3:∀xs:List Nat,(xs.map fun _=>true).all id=true
 | []=>rfl
 | x::xs=>by rw[List.map_cons,List.all_cons,zb3 xs]; rfl
theorem zbE {xs:List D}{k:Nat}{d:D}{S:Sto}{Q:DK}(h:xs[k]?=some d)(hq:Q d S):zcf wIx (.tup xs) (.int (k:Int)) S Q:=by
 rw[zcL]
 show (match atI xs (k:Int) with | some d=>Q d S | none=>False)
 rw[zbF h]
 exact hq
def zaK (c k:Int):Int:=(c * (2 * k + 3) * 48271 + k * k * 7919) % 2147483647
theorem zdY (c k:Int):0≤zaK c k∧zaK c k < 2147483647:=by unfold zaK; omega
def zeN (c k:Int):Int:=if zaK c 7 % 5=0 then (zaK c k % 4001 - 2000) * 10 ^ (11:Int).toNat else zaK c k % 4001 - 2000
def spS (c k:Int):Int×Int:=(zeN c k,zeN c k + zaK c (k + 20) % 100)
theorem zgK {a b:Int}(h:b.natAbs≤1000000):IntMulOk a b:=IntMulOk.of_right (Nat.le_trans (Sz.of (n:=30) 1000000 h).bits (by decide))
theorem zbK {S:Sto}{lo n:Nat}:∀(k:Nat) (x:TT) (y:D),([]:List TT)[k]?=some x→([]:List D)[k]?=some y→Den S lo n x y:=fun k x y h=>by simp at h
theorem zaA {S:Sto}{lo n:Nat}{x:TT}{y:D}{xs:List TT}{ys:List D}(h:Den S lo n x y)(f:∀(k:Nat) (x:TT) (y:D),xs[k]?=some x→ys[k]?=some y→Den S lo n x y):∀(k:Nat) (x':TT) (y':D),(x::xs)[k]?=some x'→(y::ys)[k]?=some y'→Den S lo n x' y'
 | 0,x',y',hx,hy=>by cases hx; cases hy; exact h
 | k + 1,x',y',hx,hy=>f k x' y' hx hy
def zbz (c:Int):List (Int×Int):=(List.range (zaK c 8 % 3).toNat).map fun (k:Nat)=>spS c (30 + (k:Int))
def spT (p:Int×Int):TT:=.t [.i p.1,.i p.2]
theorem ziD {S:Sto}{lo:Nat}(n:Nat)(p:Int×Int):Den S lo (n + 1) (spT p) (frD p):=.t (show 2≤900 by decide) rfl fun k x y hx hy=>by
 match k with
 | 0=>cases hx; cases hy; exact .i _
 | 1=>cases hx; cases hy; exact .i _
 | k + 2=>simp at hx
theorem zes {S:Sto}{lo n a:Nat}{ps:List (Int×Int)}(z:ps.length≤900)(g:lo≤a)(h:S[a]?=some (.lst (ps.map frD))):Den S lo (n + 2) (.l (ps.map spT)) (.ref a):=.l h g (by rw[List.length_map]; exact z) (by rw[List.length_map,List.length_map]) fun k x y hx hy=>by
 rw[List.getElem?_map] at hx hy
 cases e:ps[k]? with
 | none=>rw[e] at hx; cases hx
 | some p=>
  rw[e] at hx hy
  cases hx
  cases hy
  exact ziD n p
def zg2 (c:Int):List TT:=
  [.t [.s "cut",.i (zaK c 9 % 50 % 4),.i (zaK c 9 % 50 - 25),.i (zaK c 9 % 50 + 1),.i (zaK c 9 % 50 + 2)],.t [.s "out",.i (zaK c 9 % 50 % 12),.l ((zbz c).map spT)],.t [.s "full",.l ((zbz c).map spT)],
   .t [.s "one",.l [.l [.i (zaK c 9 % 50)]],.l ((zbz c).map spT),.l ((zbz c).map spT),.l ((zbz c).map spT),.l [.l ((zbz c).map spT)]],.t [.s "small"],.t [.s "waits"]]
def zfI:List Str:=["cut","out","full","one","small","waits"]
def zaN (c:Int):Str:=zfI.getD (zaK c 10 % 6).toNat ""
def zfG (c:Int):TT:=(zg2 c).getD (zaK c 10 % 6).toNat (.i 0)
def zc9 (T:Sto)(lo:Nat)(c:Int)(f:D):Prop:=Den T lo 4 (zfG c) f∧∃zaz,f=.tup (.str (zaN c)::zaz)
theorem zc9.keep {S T:Sto}{lo:Nat}{c:Int}{f:D}(h:zc9 S lo c f)(p:∀(x:Nat) (o:Ob),lo≤x→S[x]?=some o→T[x]?=some o):zc9 T lo c f:=⟨h.1.keep p,h.2⟩
def zbU (c:Int)(z:Nat):List (Int×Int):=(List.range z).map fun (k:Nat)=>spS c (k:Int)
def zdg (S:Sto)(lo z:Nat)(c:Int)(d:D):Prop:=∃a f,d=.tup [.ref a,f]∧lo≤a∧S[a]?=some (.lst ((zbU c z).map frD))∧zc9 S lo c f
theorem zdg.keep {S T:Sto}{lo z:Nat}{c:Int}{d:D}(h:zdg S lo z c d)(p:∀(x:Nat) (o:Ob),lo≤x→S[x]?=some o→T[x]?=some o):zdg T lo z c d:=by
 obtain⟨a,f,e,g,ha,hf⟩:=h
 exact⟨a,f,e,g,p _ _ g ha,hf.keep p⟩
def zbp (S:Sto)(lo z:Nat)(ds:List D)(cs:List Int):Prop:=ds.length=cs.length∧∀(k:Nat) (d:D) (c:Int),ds[k]?=some d→cs[k]?=some c→zdg S lo z c d
theorem zbp.keep {S T:Sto}{lo z:Nat}{ds:List D}{cs:List Int}(h:zbp S lo z ds cs)(p:∀(x:Nat) (o:Ob),lo≤x→S[x]?=some o→T[x]?=some o):zbp T lo z ds cs:=⟨h.1,fun k d c hd hc=>(h.2 k d c hd hc).keep p⟩
theorem zbp.pre {S T:Sto}{lo z:Nat}{ds:List D}{cs:List Int}(h:zbp S lo z ds cs)(p:Pre S T):zbp T lo z ds cs:=h.keep fun x o _ e=>p x o e
theorem zbp.at {S:Sto}{lo z:Nat}{ds:List D}{cs:List Int}(h:zbp S lo z ds cs){k:Nat}{d:D}(hd:ds[k]?=some d):∃c,cs[k]?=some c∧zdg S lo z c d:=by
 have hk:=(List.getElem?_eq_some_iff.mp hd).1
 have e:=List.getElem?_eq_getElem (show k < cs.length by rw[← h.1]; exact hk)
 exact⟨_,e,h.2 k d _ hd e⟩
def zb8 (w:Str):Bool:=[("full":Str),"one","small","waits"].any (· == w)
def zaS (cs:List Int):Nat→List (Nat×Int)
 | 0=>[]
 | k + 1=>zaS cs k++(match cs[k]? with
  | some c=>if zb8 (zaN c) then [(k,c)] else []
  | none=>[])
theorem zdD (cs:List Int):∀k,(zaS cs k).length≤k
 | 0=>Nat.le_refl _
 | k + 1=>by
  have ih:=zdD cs k
  show (zaS cs k++_).length≤k + 1
  rw[List.length_append]
  split
  ·split
   ·show _ + 1≤_; omega
   ·show _ + 0≤_; omega
  ·show _ + 0≤_; omega
def za8 (S:Sto)(lo z:Nat)(ds:List D)(L:List (Nat×Int)):Prop:=ds.length=L.length∧∀(k:Nat) (d:D) (e:Nat×Int),ds[k]?=some d→L[k]?=some e→∃a,d=.tup [.int (e.1:Int),.str (zaN e.2),.ref a]∧lo≤a∧S[a]?=some (.lst ((zbU e.2 z).map frD))
theorem za8.keep {S T:Sto}{lo z:Nat}{ds:List D}{L:List (Nat×Int)}(h:za8 S lo z ds L)(p:∀(x:Nat) (o:Ob),lo≤x→S[x]?=some o→T[x]?=some o):za8 T lo z ds L:=⟨h.1,fun k d e hd he=>by
 obtain⟨a,ed,l,ha⟩:=h.2 k d e hd he
 exact⟨a,ed,l,p _ _ l ha⟩⟩
theorem za8.snoc {S:Sto}{lo z a i:Nat}{c:Int}{ds:List D}{L:List (Nat×Int)}(h:za8 S lo z ds L)(l:lo≤a)(ha:S[a]?=some (.lst ((zbU c z).map frD))):za8 S lo z (ds++[.tup [.int (i:Int),.str (zaN c),.ref a]]) (L++[(i,c)]):=⟨by rw[List.length_append,List.length_append,h.1]; rfl,fun k d e hd he=>by
 by_cases hk:k < ds.length
 ·rw[List.getElem?_append_left hk] at hd
  rw[List.getElem?_append_left (by rw[← h.1]; exact hk)] at he
  exact h.2 k d e hd he
 ·have l2:=(List.getElem?_eq_some_iff.mp hd).1
  simp only[List.length_append,List.length_cons,List.length_nil] at l2
  have ek:k=ds.length:=by omega
  subst ek
  rw[List.getElem?_append_right (Nat.le_refl _),Nat.sub_self] at hd
  rw[h.1,List.getElem?_append_right (Nat.le_refl _),Nat.sub_self] at he
  cases hd
  cases he
  exact⟨a,rfl,l,ha⟩⟩
theorem za8.low0 {S:Sto}{lo z:Nat}{ds:List D}{L:List (Nat×Int)}(h:za8 S lo z ds L):za8 S 0 z ds L:=⟨h.1,fun k d e hd he=>by
 obtain⟨a,ed,l,ha⟩:=h.2 k d e hd he
 exact⟨a,ed,Nat.zero_le _,ha⟩⟩
def zgs (z:Nat)(e:Nat×Int):TT:=.t [.i (e.1:Int),.s (zaN e.2),.l ((zbU e.2 z).map spT)]
theorem zdn (c:Int)(z:Nat):(zbU c z).length=z:=by unfold zbU; rw[List.length_map,List.length_range]
theorem za8.den {S:Sto}{lo z m:Nat}{ds:List D}{L:List (Nat×Int)}(h:za8 S lo z ds L)(hz:z≤900)(hL:L.length≤900)(g:lo≤m)(hm:S[m]?=some (.lst ds)):Den S lo 4 (.l (L.map (zgs z))) (.ref m):=.l hm g (by rw[List.length_map]; exact hL) (by rw[List.length_map,h.1]) fun k x y hx hy=>by
 rw[List.getElem?_map] at hx
 cases e:L[k]? with
 | none=>rw[e] at hx; cases hx
 | some v=>
  rw[e] at hx
  cases hx
  obtain⟨a,rfl,g,ha⟩:=h.2 k y v hy e
  exact .t (show 3≤900 by decide) rfl (zaA (.i _) (zaA (.s _) (zaA (zes (n:=0) (by rw[zdn]; exact hz) g ha) zbK)))
def zap (cs:List Int)(w:Str):Nat:=cs.countP fun c=>zaN c == w
theorem zj9 {caps:List Nat}{ta:TDA}{tc:TDT}{te:TDE}{dl:Ev}{S S1:Sto}{Q:DK}{n:Nat}{xs:List D}(W:Nat→List D→Sto→Prop)(b:Nat→D→Bool)(hta:∀K:List D→Sto→Prop,K [.ref n] S1→ta dl S K)(h1:S1[n]?=some (.lst xs))(hw:∀k ys S2,W k ys S2→S2[n]?=some (.lst xs)∧S2[S1.length]?=some (.lst ys)∧ys.length≤k)(hl:xs.length≤900)(h0:W 0 [] (S1++[.lst []]))
  (hc:∀(k:Nat) (x:D) (ys:List D) (S2:Sto) (K:Bool→Sto→Prop),xs[k]?=some x→W k ys S2→K (b k x) S2→tc (some (.int (k:Int))::some x::zbh caps dl) S2 K)
  (hno:∀(k:Nat) (x:D) (ys:List D) (S2:Sto),xs[k]?=some x→b k x=false→W k ys S2→W (k + 1) ys S2)
  (ht:∀(k:Nat) (x:D) (ys:List D) (S2:Sto) (K:DK),xs[k]?=some x→b k x=true→W k ys S2→(∀y S3,S3[S1.length]?=some (.lst ys)→W (k + 1) (ys++[y]) (S3.set S1.length (.lst (ys++[y])))→K y S3)→te (some (.int (k:Int))::some x::zbh caps dl) S2 K)
  (hq:∀ys S2,W xs.length ys S2→Q (.ref S1.length) S2):zdx caps ta tc te dl S Q:=by
 unfold zdx
 refine hta _ ⟨by rw[zaR h1 rfl]; rfl,fun k m S2=>(∃ys,W k ys S2)∧m + k=xs.length,⟨xs.length,⟨_,h0⟩,by omega⟩,?_⟩
 rintro k m S2 ⟨⟨ys,w⟩,hm⟩
 obtain⟨w1,w2,w3⟩:=hw _ _ _ w
 rw[zaR w1 rfl]
 dsimp only[zae]
 split
 ·rename_i x hx
  have hk:k < xs.length:=(List.getElem?_eq_some_iff.mp hx).1
  unfold zg7
  refine hc k x ys S2 _ hx w ?_
  cases e:b k x with
  | false=>
   rw[if_neg (Bool.false_ne_true)]
   exact⟨m - 1,by omega,⟨_,hno k x ys S2 hx e w⟩,by omega⟩
  | true=>
   rw[if_pos rfl]
   refine ht k x ys S2 _ hx e w fun y S3 e3 w4=>?_
   rw[e3]
   exact⟨by omega,m - 1,by omega,⟨_,w4⟩,by omega⟩
 ·rename_i hx
  have hk:k=xs.length:=by
   have:=List.getElem?_eq_none_iff.mp hx
   omega
  exact⟨hk,hq ys S2 (hk ▸ w)⟩
theorem zhk {is:List Nat}{ta:TDA}{tb:TDS}{E:zcH}{dl:Ev}{S S1:Sto}{n:Nat}{xs:List D}(W:Nat→Ev→Sto→Prop)(hta:∀K:List D→Sto→Prop,K [.ref n] S1→ta dl S K)(hk:∀k dl' S',W k dl' S'→S'[n]?=some (.lst xs))(h0:W 0 dl S1)
  (hb:∀(k:Nat) (x:D) (dl':Ev) (S':Sto) (nx ct:Ev→Sto→Prop),xs[k]?=some x→W k dl' S'→(∀dl2 S2,W (k + 1) dl2 S2→nx dl2 S2)→tb { nx:=nx,rt:=E.rt,bk:=E.nx,ct:=ct } (zdo is [.int (k:Int),x] dl') S')(he:∀dl' S',W xs.length dl' S'→E.nx dl' S'):zd0 is ta tb E dl S:=by
 unfold zd0
 refine hta _ ⟨by rw[zaR (hk _ _ _ h0) rfl]; rfl,fun k m dl' S'=>W k dl' S'∧k + m=xs.length,⟨xs.length,h0,by omega⟩,?_⟩
 rintro k m dl' S' ⟨w,hm⟩
 rw[zaR (hk _ _ _ w) rfl]
 dsimp only[zae]
 split
 ·rename_i x e1
  have l1:=(List.getElem?_eq_some_iff.mp e1).1
  exact hb k x dl' S' _ _ e1 w (fun dl2 S2 w2=>⟨m - 1,by omega,w2,by omega⟩)
 ·rename_i e1
  have l1:=List.getElem?_eq_none_iff.mp e1
  have ek:k=xs.length:=by omega
  exact⟨ek,he _ _ (ek ▸ w)⟩
theorem zh5 (w:Str)(ws:List Str):(ws.map D.str).countP (fun z=>eqN 0 z (.str w) == some true)=ws.countP (· == w):=by
 rw[List.countP_map]
 congr 1
 funext a
 show (some (decide (a=w)) == some true)=(a == w)
 by_cases e:a=w
 ·rw[decide_eq_true e,e]
  simp
 ·rw[decide_eq_false e]
  have z:(a == w)=false:=by simpa using e
  rw[z]
  rfl
theorem zdr {to:TDE}{t:TDA}{dl:Ev}{S S1:Sto}{Q:DK}{n:Nat}{ws:List Str}{w:Str}(hto:∀K:DK,K (.ref n) S1→to dl S K)(h:S1[n]?=some (.lst (ws.map D.str)))(ht:∀K:List D→Sto→Prop,K [.str w] S1→t dl S1 K)(hq:Q (.int ((ws.countP (· == w):Nat):Int)) S1):zd8 to t dl S Q:=by
 unfold zd8
 refine hto _ ⟨by rw[zaR h rfl]; rfl,ht _ ?_⟩
 unfold zd7
 simp only[zaR h rfl,zae]
 refine⟨fun z hz=>?_,?_⟩
 ·obtain⟨a,_,rfl⟩:=List.mem_map.mp hz
  exact⟨decide (a=w),rfl⟩
 ·rw[zh5]
  exact hq
theorem zg3:∀ {xs:List D},(∀d∈xs,∃c:Int,d=.int c)→∃cs:List Int,xs=cs.map D.int
 | [],_=>⟨[],rfl⟩
 | d::ds,h=>by
  obtain⟨c,rfl⟩:=h d (by simp)
  obtain⟨cs,rfl⟩:=zg3 (xs:=ds) fun d hd=>h d (by simp[hd])
  exact⟨c::cs,rfl⟩
theorem zic (ns:List Int):∃cs:List Int,zbQ (ns.map D.int) (some 1) (some 41)=cs.map D.int∧cs.length≤60:=by
 obtain⟨cs,e⟩:=zg3 (xs:=zbQ (ns.map D.int) (some 1) (some 41)) fun d hd=>by
  unfold L3.zbQ at hd
  obtain⟨c,_,rfl⟩:=List.mem_map.mp (List.mem_of_mem_drop (List.mem_of_mem_take hd))
  exact⟨c,rfl⟩
 have l:=zjX (ns.map D.int) 1 41
 have e':zbQ (ns.map D.int) (some ((1:Nat):Int)) (some ((41:Nat):Int))=cs.map D.int:=e
 rw[e',List.length_map] at l
 exact⟨cs,e,by omega⟩
theorem zjZ {S:Sto}{lo lo' z:Nat}{cs:List Int}{ds es:List D}(h:zbp S lo z ds cs)(h':zbp S lo' z es cs)(hz:z≤900):∀(k:Nat) (x y:D),ds[k]?=some x→es[k]?=some y→Alk S 5 x y:=fun k x y hx hy=>by
 obtain⟨c,hc,a,f,rfl,_,ha,hf⟩:=h.at hx
 obtain⟨a',f',rfl,_,ha',hf'⟩:=h'.2 k y c hy hc
 have p1:Alk S 4 (.ref a) (.ref a'):=(zes (lo:=0) (n:=2) (by rw[zdn]; exact hz) (Nat.zero_le _) ha).alk (zes (lo:=0) (n:=2) (by rw[zdn]; exact hz) (Nat.zero_le _) ha')
 have p2:Alk S 4 f f':=hf.1.alk hf'.1
 refine .inr (.inl ⟨[.ref a,f],[.ref a',f'],rfl,rfl,rfl,fun k x y hx hy=>?_⟩)
 match k with
 | 0=>cases hx; cases hy; exact p1
 | 1=>cases hx; cases hy; exact p2
 | k + 2=>simp at hx
def w5 (i:Nat):Str:=[("one":Str),"full","small","waits","out"].getD i ""
def zbu (f:Nat→Nat):List D:=[.int (f 0:Nat),.int (f 1:Nat),.int (f 2:Nat),.int (f 3:Nat),.int (f 4:Nat)]
theorem zeD {S:Sto}(n:Nat)(f:Nat→Nat):Den S 0 (n + 1) (.t [.i (f 0:Nat),.i (f 1:Nat),.i (f 2:Nat),.i (f 3:Nat),.i (f 4:Nat)]) (.tup (zbu f)):=.t (show 5≤900 by decide) rfl (zaA (.i _) (zaA (.i _) (zaA (.i _) (zaA (.i _) (zaA (.i _) zbK)))))
theorem zi8 {f:Nat→Nat}{j v:Nat}(h:j < 5):(zbu f).set j (.int (v:Nat))=zbu fun i=>if i=j then v else f i:=by
 match j,h with
 | 0,_=>rfl
 | 1,_=>rfl
 | 2,_=>rfl
 | 3,_=>rfl
 | 4,_=>rfl
theorem zhd {f:Nat→Nat}{j:Nat}(h:j < 5):(zbu f)[j]?=some (.int (f j:Nat)):=by
 match j,h with
 | 0,_=>rfl
 | 1,_=>rfl
 | 2,_=>rfl
 | 3,_=>rfl
 | 4,_=>rfl
theorem w5_at {j:Nat}(h:j < 5):(zae (.lst ([("one":Str),"full","small","waits","out"].map D.str)))[j]?=some (.str (w5 j)):=by
 match j,h with
 | 0,_=>rfl
 | 1,_=>rfl
 | 2,_=>rfl
 | 3,_=>rfl
 | 4,_=>rfl
theorem zg8 {cs:List Int}{k:Nat}{c:Int}(h:cs[k]?=some c)(w:Str):zap (cs.take (k + 1)) w=zap (cs.take k) w + if zaN c=w then 1 else 0:=by
 unfold zap
 rw[List.take_succ,h,List.countP_append]
 congr 1
 show List.countP _ [c]=_
 rw[List.countP_singleton]
 by_cases e:zaN c=w
 ·rw[if_pos e,if_pos (by simpa using e)]
 ·rw[if_neg e,if_neg (by simpa using e)]
theorem zjN (w:Str):[("one":Str),"full","small","waits"].any (· == w)=zb8 w:=by
 unfold zb8
 simp only[List.any_cons,List.any_nil]
 rw[Bool.or_left_comm]
theorem in_at {n:Nat}{S:Sto}{Q:DK}{ws:List Str}{w:Str}(ho:S[n]?=some (.lst (ws.map D.str)))(hq:Q (.bl (ws.any (· == w))) S):zcf (wIn 0 false) (.str w) (.ref n) S Q:=by
 rw[zcL]
 unfold wIn
 simp only[zaR ho rfl,zae,zfD]
 exact hq
theorem zhj {n:Nat}{S:Sto}{Q:DK}{xs:List D}(h:S[n]?=some (.lst xs))(hq:Q (.tup xs) S):irr zeL [.ref n] S Q:=by
 rw[zcU]
 unfold zeL
 simp only[zaR h rfl,zae]
 exact hq
def wOf:D→D
 | .tup [_,.tup (.str w::_)]=>.str w
 | _=>.non
def tOf:D→Bool
 | .tup [_,.tup (.str w::_)]=>zb8 w
 | _=>false
theorem zjK {S:Sto}{lo z:Nat}{ds:List D}{cs:List Int}(h:zbp S lo z ds cs):ds.map wOf=(cs.map zaN).map D.str:=by
 refine List.ext_getElem (by rw[List.length_map,List.length_map,List.length_map,h.1]) fun k h1 h2=>?_
 rw[List.length_map] at h1
 obtain⟨c,hc,a,f,e,_,_,_,zaz,ef⟩:=h.at (List.getElem?_eq_getElem h1)
 rw[List.getElem_map,List.getElem_map,List.getElem_map,e,ef]
 have hk:=(List.getElem?_eq_some_iff.mp hc).1
 have ec:cs[k]=c:=by
  rw[List.getElem?_eq_getElem hk] at hc
  exact Option.some.inj hc
 show D.str (zaN c)=_
 rw[ec]
theorem zdu (cs:List Int)(w:Str):(cs.map zaN).countP (· == w)=zap cs w:=by
 unfold zap
 rw[List.countP_map]
 rfl
theorem zfV {cs:List Int}{k:Nat}{c:Int}(hc:cs[k]?=some c)(h:zb8 (zaN c)=true):zaS cs (k + 1)=zaS cs k++[(k,c)]:=by
 show zaS cs k++(match cs[k]? with | some c=>if zb8 (zaN c) then [(k,c)] else [] | none=>[])=_
 rw[hc]
 dsimp only
 rw[if_pos h]
theorem zgW {cs:List Int}{k:Nat}{c:Int}(hc:cs[k]?=some c)(h:zb8 (zaN c)=false):zaS cs (k + 1)=zaS cs k:=by
 show zaS cs k++(match cs[k]? with | some c=>if zb8 (zaN c) then [(k,c)] else [] | none=>[])=_
 rw[hc]
 dsimp only
 rw[if_neg (by rw[h]; exact Bool.false_ne_true),List.append_nil]

def zdb:Sd:=fun ds S Q ex=>match ds with
 | [.int c,.int k]=>(0≤k∧k≤1000)∧Q (.int (zaK c k)) S
 | _=>False
theorem zjC:Ln (zdb) 2:=fun ds S Q ex h=>by unfold zdb at h; split at h <;> first | rfl | exact h.elim
def zc7:Sd:=fun ds S Q ex=>match ds with
 | [.int c,.int k]=>(0≤k∧k≤900)∧Q (frD (spS c k)) S
 | _=>False
theorem zjh:Ln (zc7) 2:=fun ds S Q ex h=>by unfold zc7 at h; split at h <;> first | rfl | exact h.elim
def zdm:Sd:=fun ds S Q ex=>match ds with
 | [.int c]=>∀(T:Sto) (f:D),Pre S T→zc9 T S.length c f→Q f T
 | _=>False
theorem zjp:Ln (zdm) 1:=fun ds S Q ex h=>by unfold zdm at h; split at h <;> first | rfl | exact h.elim
def zdp:Sd:=fun ds S Q ex=>match ds with
 | [.ref n,.int zi]=>∃(cs:List Int) (z:Nat),S[n]?=some (.lst (cs.map D.int))∧zi=(z:Nat)∧z≤4∧cs.length≤60∧∀(T:Sto) (b:Nat) (ds:List D),Pre S T→S.length≤b→T[b]?=some (.lst ds)→zbp T S.length z ds cs→Q (.ref b) T
 | _=>False
theorem zi2:Ln (zdp) 2:=fun ds S Q ex h=>by unfold zdp at h; split at h <;> first | rfl | exact h.elim
def zdC:Sd:=fun ds S Q ex=>match ds with
 | [.ref b]=>∃(cs:List Int) (z lo:Nat) (ds:List D),S[b]?=some (.lst ds)∧zbp S lo z ds cs∧cs.length≤60∧∀(T:Sto) (es:List D),Pre S T→T[S.length]?=some (.lst es)→za8 T (S.length + 1) z es (zaS cs cs.length)→Q (.tup [.ref S.length,.tup (zbu fun i=>zap cs (w5 i))]) T
 | _=>False
theorem zi3:Ln (zdC) 1:=fun ds S Q ex h=>by unfold zdC at h; split at h <;> first | rfl | exact h.elim
def zdH:Sd:=fun ds S Q ex=>match ds with
 | [.ref b]=>∃(cs:List Int) (z lo:Nat) (ds:List D),S[b]?=some (.lst ds)∧zbp S lo z ds cs∧cs.length≤60∧∀(T:Sto) (es:List D),Pre S T→T[S.length]?=some (.lst es)→za8 T (S.length + 1) z es (zaS cs cs.length)→Q (.ref S.length) T
 | _=>False
theorem zjl:Ln (zdH) 1:=fun ds S Q ex h=>by unfold zdH at h; split at h <;> first | rfl | exact h.elim
def zcj:Sd:=fun ds S Q ex=>match ds with
 | [.int _]=>Q (.bl true) S
 | _=>False
theorem zhp:Ln (zcj) 1:=fun ds S Q ex h=>by unfold zcj at h; split at h <;> first | rfl | exact h.elim
def zdv:Sd:=fun ds S Q ex=>match ds with
 | [x,y]=>(∃t:TT,Den S 0 0 t x∧Den S 0 0 t y)∧∀T:Sto,Pre S T→Q (.bl true) T
 | _=>False
theorem zjj:Ln (zdv) 2:=fun ds S Q ex h=>by unfold zdv at h; split at h <;> first | rfl | exact h.elim
def zdM:Sd:=fun ds S Q ex=>match ds with
 | [x,y]=>(∃t:TT,Den S 0 1 t x∧Den S 0 1 t y)∧∀T:Sto,Pre S T→Q (.bl true) T
 | _=>False
theorem zjQ:Ln (zdM) 2:=fun ds S Q ex h=>by unfold zdM at h; split at h <;> first | rfl | exact h.elim
def zdA:Sd:=fun ds S Q ex=>match ds with
 | [x,y]=>(∃t:TT,Den S 0 2 t x∧Den S 0 2 t y)∧∀T:Sto,Pre S T→Q (.bl true) T
 | _=>False
theorem ziI:Ln (zdA) 2:=fun ds S Q ex h=>by unfold zdA at h; split at h <;> first | rfl | exact h.elim
def zdi:Sd:=fun ds S Q ex=>match ds with
 | [x,y]=>(∃t:TT,Den S 0 3 t x∧Den S 0 3 t y)∧∀T:Sto,Pre S T→Q (.bl true) T
 | _=>False
theorem zjx:Ln (zdi) 2:=fun ds S Q ex h=>by unfold zdi at h; split at h <;> first | rfl | exact h.elim
def zdE:Sd:=fun ds S Q ex=>match ds with
 | [x,y]=>(∃t:TT,Den S 0 4 t x∧Den S 0 4 t y)∧∀T:Sto,Pre S T→Q (.bl true) T
 | _=>False
theorem zin:Ln (zdE) 2:=fun ds S Q ex h=>by unfold zdE at h; split at h <;> first | rfl | exact h.elim
def zdl:Sd:=fun ds S Q ex=>match ds with
 | [.ref n,.int k]=>∃ns:List Int,S[n]?=some (.frz (ns.map D.int))∧0≤k∧Q (.int (ns.getD k.toNat 0)) S
 | _=>False
theorem zhr:Ln (zdl) 2:=fun ds S Q ex h=>by unfold zdl at h; split at h <;> first | rfl | exact h.elim
def zdz:Sd:=fun ds S Q ex=>match ds with
 | [.ref b]=>∃(cs:List Int) (z lo:Nat) (ds:List D),S[b]?=some (.lst ds)∧zbp S lo z ds cs∧cs.length≤60∧∀T:Sto,Pre S T→Q (.tup (zbu fun i=>zap cs (w5 i))) T
 | _=>False
theorem zi4:Ln (zdz) 1:=fun ds S Q ex h=>by unfold zdz at h; split at h <;> first | rfl | exact h.elim
section
variable {P:Program}{w:World}{K:PySem.W.Frag}{mg:Str→Option Value}{base:Heap}
def ziw  (zeI:Df K mg "_law_mix" zcp zc3):Fk P w K mg base 1 "_law_mix" zc3 zdb:=
 zeI.mk' (zbn (k:=0) zeI.F ziJ (zjC) fun cdv A outer s H E hr=>⟨_,(zak (zan (zaD zgU (zaD zb7 (zaD zcW (zaD zcW (dv 0) (zaD zb7 (zaD zcW zaf (dv 1)) zaf)) zaf) (zaD zcW (zaD zcW (dv 1) (dv 1)) zaf)) zaf))),fun ds S Q ex h=>by
  unfold zdb at h
  split at h
  ·rename_i c k
   obtain⟨⟨k0,k1⟩,h⟩:=h
   refine⟨IntMulOk.of_left (by decide),zgK (show (2 * k + 3).natAbs≤1000000 by omega),IntMulOk.of_right (by decide),zgK (show k.natAbs≤1000000 by omega),IntMulOk.of_right (by decide),show (0:Int) < 2147483647 by decide,?_⟩
   exact h
  ·exact h.elim⟩)
def zjP  (zeC:Df K mg "_law_span" zcm zc4)(zbV:Fk P w K mg base 1 "_law_mix" zc3 zdb):Fk P w K mg base 2 "_law_span" zc4 zc7:=
 zeC.mk' (zbn (k:=1) zeC.F ze5 (zjh) fun cdv A outer s H E hr=>⟨_,(zaj (zbk (i:=2) ze5.nd rfl (Or.inl rfl) (zaD zgc (zaD zcc (zaG zbV hr (zaa (dv 0) (zaa (dv 1) zab))) zaf) zaf)) (zaj (zaI (za2 (zbD hr) (zaD zcc (zaG zbV hr (zaa (dv 0) (zaa zaf zab))) zaf) zaf (zaC _)) (zak (zbk (i:=2) ze5.nd rfl (Or.inl rfl) (zaD zcW (dv 2) (zaD zhC zaf zaf)))) zaJ) (zak (zan (zbi (zaa (dv 2) (zaa (zaD zb7 (dv 2) (zaD zcc (zaG zbV hr (zaa (dv 0) (zaa (zaD zb7 (dv 1) zaf) zab))) zaf)) zab))))))),fun ds S Q ex h=>by
  unfold zc7 at h
  split at h
  ·rename_i c k
   obtain⟨⟨k0,k1⟩,h⟩:=h
   have r:=zdY c k
   refine⟨⟨k0,by omega⟩,?_⟩
   refine⟨⟨by decide,by decide⟩,?_⟩
   refine ifD (fun e=>?_) (fun e=>?_)
   ·have el:zeN c k=(zaK c k % 4001 - 2000) * 10 ^ (11:Int).toNat:=if_pos e
    unfold spS at h
    rw[el] at h
    exact⟨IntMulOk.of_left (Nat.le_trans (Sz.of (n:=30) 1000000 (show (zaK c k % 4001 - 2000).natAbs≤1000000 by omega)).bits (by decide)),⟨by omega,by omega⟩,h⟩
   ·have el:zeN c k=zaK c k % 4001 - 2000:=if_neg e
    unfold spS at h
    rw[el] at h
    exact⟨⟨by omega,by omega⟩,h⟩
  ·exact h.elim⟩)
def zjT  (zeb:Df K mg "_law_fate" zb6 zdJ)(zbV:Fk P w K mg base 1 "_law_mix" zc3 zdb)(zc5:Fk P w K mg base 2 "_law_span" zc4 zc7)(zaB:mg "range"=none):Fk P w K mg base 3 "_law_fate" zdJ zdm:=
 zeb.mk' (zbn (k:=2) zeb.F zdF (zjp) fun cdv A outer s H E hr=>⟨_,(zaj (zjW (x:="_law_k") (N:=["_law_cell"]) (caps:=[0]) (ar:=zah zb6) rfl rfl csc rfl (by decide) (i:=1) zdF.nd rfl rfl rfl zaB (zaa (zaD zcc (zaG zbV hr (zaa (dv 0) (zaa zaf zab))) zaf) zab) (fun _ _ _ _ _ _=>zb5) (fun _ _ _ _ _ _=>(zaG zc5 hr (zaa (dv 1) (zaa (zaD zb7 zaf (dv 0)) zab))))) (zaj (zbk (i:=2) zdF.nd rfl (Or.inl rfl) (zaD zcc (zaG zbV hr (zaa (dv 0) (zaa zaf zab))) zaf)) (zaj (zbk (i:=3) zdF.nd rfl (Or.inl rfl) (zcd (zaa (zbi (zaa zbb (zaa (zaD zcc (dv 2) zaf) (zaa (zaD zgc (dv 2) zaf) (zaa (zaD zb7 (dv 2) zaf) (zaa (zaD zb7 (dv 2) zaf) zab)))))) (zaa (zbi (zaa zbb (zaa (zaD zcc (dv 2) zaf) (zaa (dv 1) zab)))) zab)))) (zaj (zbk (i:=3) zdF.nd rfl (Or.inl rfl) (zaD zha (dv 3) (zcd (zaa (zbi (zaa zbb (zaa (dv 1) zab))) (zaa (zbi (zaa zbb (zaa (zcd (zaa (zcd (zaa (dv 2) zab)) zab)) (zaa (dv 1) (zaa (dv 1) (zaa (dv 1) (zaa (zcd (zaa (dv 1) zab)) zab))))))) (zaa (zbi (zaa zbb zab)) (zaa (zbi (zaa zbb zab)) zab))))))) (zak (zan (za9 (dv 3) (zaD zcc (zaG zbV hr (zaa (dv 0) (zaa zaf zab))) zaf) (fun _ _=>rfl)))))))),fun ds S Q ex h=>by
  unfold zdm at h
  split at h
  ·rename_i c
   have r8:=zdY c 8
   have r9:=zdY c 9
   have r10:=zdY c 10
   refine zgG (j:=zaK c 8 % 3) (S1:=S) (fun (k:Nat)=>frD (spS c (30 + (k:Int)))) (fun K hK=>⟨⟨by decide,by decide⟩,hK⟩) ⟨by omega,by omega⟩ (fun k hk S2 K pr hK=>⟨⟨by omega,by omega⟩,hK⟩) ?_
   have eS:(List.range (zaK c 8 % 3).toNat).map (fun (k:Nat)=>frD (spS c (30 + (k:Int))))=(zbz c).map frD:=by
    unfold zbz
    rw[List.map_map]
    rfl
   rw[eS]
   have ls:(zbz c).length≤900:=by unfold zbz; rw[List.length_map,List.length_range]; omega
   refine⟨⟨by decide,by decide⟩,?_⟩
   refine zjD (zaq (zaq (zaq (zaq (zat _ _))))) (zat _ _) (Nat.le_of_ble_eq_true rfl) ?_
   refine⟨⟨by decide,by decide⟩,?_⟩
   obtain⟨j,ej,j6⟩:∃j:Nat,zaK c 10 % 6=(j:Int)∧j < 6:=⟨(zaK c 10 % 6).toNat,by omega,by omega⟩
   have et:(zaK c 10 % 6).toNat=j:=by omega
   have p6:∀(a b d e f g k:Ob),Pre S (S++[a]++[b]++[d]++[e]++[f]++[g]++[k]):=fun a b d e f g k=>zaL (zaL (zaL (zaL (zaL (zaL (zaL Pre.refl _) _) _) _) _) _) _
   have sp:∀(n:Nat) (b d e f g k:Ob),Den (S++[Ob.lst ((zbz c).map frD)]++[b]++[d]++[e]++[f]++[g]++[k]) S.length (n + 2) (.l ((zbz c).map spT)) (.ref S.length):=fun n b d e f g k=>zes ls (Nat.le_refl _) (zaq (zaq (zaq (zaq (zaq (zaq (zat _ _)))))))
   have fate:∀ {T:Sto} {f:D} {zaz:List D},Den T S.length 4 ((zg2 c).getD j (.i 0)) f→f=.tup (.str (zfI.getD j "")::zaz)→zc9 T S.length c f:=fun {T f zaz} h1 h2=>⟨by unfold zfG; rw[et]; exact h1,zaz,by unfold zaN; rw[et]; exact h2⟩
   match j,j6 with
   | 0,_=>
    refine zbf (zat _ _) (by rw[ej]; rfl) ?_
    refine h _ _ (p6 _ _ _ _ _ _ _) (fate ?_ rfl)
    exact .t (show 5≤900 by decide) rfl (zaA (.s _) (zaA (.i _) (zaA (.i _) (zaA (.i _) (zaA (.i _) zbK)))))
   | 1,_=>
    refine zbf (zat _ _) (by rw[ej]; rfl) ?_
    refine h _ _ (p6 _ _ _ _ _ _ _) (fate ?_ rfl)
    exact .t (show 3≤900 by decide) rfl (zaA (.s _) (zaA (.i _) (zaA (sp 1 _ _ _ _ _ _) zbK)))
   | 2,_=>
    refine zbf (zat _ _) (by rw[ej]; rfl) ?_
    refine h _ _ (p6 _ _ _ _ _ _ _) (fate ?_ rfl)
    exact .t (show 2≤900 by decide) rfl (zaA (.s _) (zaA (sp 1 _ _ _ _ _ _) zbK))
   | 3,_=>
    refine zbf (zat _ _) (by rw[ej]; rfl) ?_
    refine h _ _ (p6 _ _ _ _ _ _ _) (fate ?_ rfl)
    exact .t (show 6≤900 by decide) rfl (zaA (.s _) (zaA (.l (zaq (zaq (zaq (zat _ _)))) (by simp <;> omega) (show 1≤900 by decide) rfl (zaA (.l (zaq (zaq (zaq (zaq (zat _ _))))) (by simp <;> omega) (show 1≤900 by decide) rfl (zaA (.i _) zbK)) zbK)) (zaA (sp 1 _ _ _ _ _ _) (zaA (sp 1 _ _ _ _ _ _) (zaA (sp 1 _ _ _ _ _ _) (zaA (.l (zaq (zaq (zat _ _))) (by simp <;> omega) (show 1≤900 by decide) rfl (zaA (sp 0 _ _ _ _ _ _) zbK)) zbK))))))
   | 4,_=>
    refine zbf (zat _ _) (by rw[ej]; rfl) ?_
    refine h _ _ (p6 _ _ _ _ _ _ _) (fate ?_ rfl)
    exact .t (show 1≤900 by decide) rfl (zaA (.s _) zbK)
   | 5,_=>
    refine zbf (zat _ _) (by rw[ej]; rfl) ?_
    refine h _ _ (p6 _ _ _ _ _ _ _) (fate ?_ rfl)
    exact .t (show 1≤900 by decide) rfl (zaA (.s _) zbK)
  ·exact h.elim⟩)
def zhs  (zdW:Df K mg "_law_book" zbZ zdw)(zeR:Fk P w K mg base 3 "_law_fate" zdJ zdm)(zc5:Fk P w K mg base 2 "_law_span" zc4 zc7)(zaB:mg "range"=none):Fk P w K mg base 4 "_law_book" zdw zdp:=
 zdW.mk' (zbn (k:=3) zdW.F zji (zi2) fun cdv A outer s H E hr=>⟨_,(zak (zan (zjz (x:="_law_cell") (N:=["_law_size"]) (caps:=[1]) (ar:=zah zbZ) rfl rfl cscC rfl (by decide) (dv 0) (fun _ _ _ _ _ _=>zb5) (fun _ _ _ _ _ _=>(zbi (zaa (zc8 (x:="_law_k") (N:=["_law_cell"]) (caps:=[0]) (ar:=relabel _ _) rfl rfl (cscN (ar0:=zah zbZ) rfl) rfl (by decide) rfl zaB (zaa (dv 1) zab) (fun _ _ _ _ _ _=>zb5) (fun _ _ _ _ _ _=>(zaG zc5 hr (zaa (dv 1) (zaa (dv 0) zab))))) (zaa (zaG zeR hr (zaa (dv 0) zab)) zab))))))),fun ds S Q ex h=>by
  unfold zdp at h
  split at h
  ·rename_i n zi
   obtain⟨cs,z,hn,rfl,z4,l6,h⟩:=h
   refine ziA (n:=n) (o:=.lst (cs.map D.int)) (S1:=S) (fun k ys S2=>Pre S S2∧S2[S.length]?=some (.lst ys)∧ys.length=k∧∀(j:Nat) (d:D) (c:Int),ys[j]?=some d→cs[j]?=some c→zdg S2 (S.length + 1) z c d) (fun K hK=>by exact hK) hn (fun k ys S2 ⟨p,e,l,_⟩=>⟨p _ _ hn,e,l⟩) (by show (cs.map D.int).length≤1000; rw[List.length_map]; omega) ⟨zaL Pre.refl _,zat _ _,rfl,fun j d c hd=>by simp at hd⟩ ?_ ?_
   ·rintro k x ys S2 K hx ⟨p,e,l,hy⟩ hK
    have hx:(cs.map D.int)[k]?=some x:=hx
    rw[List.getElem?_map] at hx
    obtain⟨c,hc,rfl⟩:=Option.map_eq_some_iff.mp hx
    have lS:=zcX e
    refine zgG (j:=(z:Nat)) (S1:=S2) (fun (k:Nat)=>frD (spS c (k:Int))) (fun K hK=>by exact hK) ⟨by omega,by omega⟩ (fun k hk S3 K pr hK=>⟨⟨by omega,by rw[Int.toNat_natCast] at hk; omega⟩,hK⟩) ?_
    have eB:(List.range ((z:Nat):Int).toNat).map (fun (k:Nat)=>frD (spS c (k:Int)))=(zbU c z).map frD:=by
     unfold zbU
     rw[List.map_map,Int.toNat_natCast]
     rfl
    rw[eB]
    intro T f pT hf
    have pS:Pre S2 T:=fun x o e=>pT _ _ (zaq e)
    have lT:(S2++[Ob.lst ((zbU c z).map frD)]).length=S2.length + 1:=by simp
    rw[lT] at hf
    have hB:=pT _ _ (zat S2 (.lst ((zbU c z).map frD)))
    have kp:∀(x:Nat) (o:Ob),S.length + 1≤x→T[x]?=some o→(T.set S.length (.lst (ys++[.tup [.ref S2.length,f]])))[x]?=some o:=fun x o hx e=>zbs e (by omega)
    refine hK _ T (pS _ _ e) ⟨zbj (fun x o e=>pS _ _ (p _ _ e)) (Nat.le_refl _),zbo (pS _ _ e),by rw[List.length_append,l]; rfl,fun j d c' hd hc'=>?_⟩
    by_cases hj:j < ys.length
    ·rw[List.getElem?_append_left hj] at hd
     exact((hy j d c' hd hc').keep fun x o _ e=>pS _ _ e).keep kp
    ·have l2:=(List.getElem?_eq_some_iff.mp hd).1
     simp only[List.length_append,List.length_cons,List.length_nil] at l2
     have ej:j=ys.length:=by omega
     subst ej
     rw[List.getElem?_append_right (Nat.le_refl _),Nat.sub_self] at hd
     cases hd
     rw[l] at hc'
     rw[hc] at hc'
     cases hc'
     exact⟨S2.length,f,rfl,by omega,kp _ _ (by omega) hB,⟨(hf.1.low (show S.length + 1≤S2.length + 1 by omega)).keep kp,hf.2⟩⟩
   ·rintro ys S2 ⟨p,e,l,hy⟩
    have l:ys.length=(cs.map D.int).length:=l
    rw[List.length_map] at l
    refine h S2 S.length ys p (Nat.le_refl _) e ⟨l,fun k d c hd hc=>?_⟩
    obtain⟨a,f,e1,g,ha,hf⟩:=hy k d c hd hc
    exact⟨a,f,e1,by omega,ha,hf.1.low (by omega),hf.2⟩
  ·exact h.elim⟩)
def ziC  (zez:Df K mg "_law_due" zcw zdy)(zas:mg "tuple"=none)(zbJ:mg "enumerate"=none)(zaB:mg "range"=none)(zao:mg "list"=none):Fk P w K mg base 1 "_law_due" zdy zdC:=
 zez.mk' (zbn (k:=0) zez.F zcN (zi3) fun cdv A outer s H E hr=>⟨_,(zaj (zbk (i:=1) zcN.nd rfl (Or.inl rfl) (zcd zab)) (zaj (zbk (i:=2) zcN.nd rfl (Or.inl rfl) (zcd (zaa zaf (zaa zaf (zaa zaf (zaa zaf (zaa zaf zab))))))) (zaj (zbk (i:=3) zcN.nd rfl (Or.inl rfl) (zcd (zaa zbb (zaa zbb (zaa zbb (zaa zbb (zaa zbb zab))))))) (zaj (zj8 (is:=[4,5]) PassesOwn.never rfl zcN.nd (Nms.cons (i:=4) rfl (Or.inl rfl) (by first | exact .inl rfl | exact .inr rfl) (Nms.cons (i:=5) rfl (Or.inl rfl) (by first | exact .inl rfl | exact .inr rfl) Nms.nil)) rfl rfl zbJ Boot.«enumerate» (zaa (dv 0) zab) (zaj (zbk (i:=6) zcN.nd rfl (Or.inl rfl) (za9 (zbr (dv 5) zaf (fun _ _=>rfl)) zaf (fun _ _=>rfl))) (zaj (zaI (za2 (zjs hr) (dv 6) (zfL (dv 3) ziz (zeS zaf)) rfl) (zak (zeW (ze4 (dv 1) (zbi (zaa (dv 4) (zaa (dv 6) (zaa (zfg (zaO zf5) rfl zao Boot.«list» (zaa (zbr (dv 5) zaf (fun _ _=>rfl)) zab)) zab))))))) zaJ) (zak (zjb (i:=7) PassesOwn.never rfl zcN.nd rfl (Or.inl rfl) rfl zaB (zaa zaf zab) (zak (zaI (za2 (zbD hr) (za9 (dv 3) (dv 7) (fun _ _=>rfl)) (dv 6) (zaC _)) (zak (zfz (dv 2) (dv 7) (zaD zb7 (za9 (dv 2) (dv 7) (fun _ _=>rfl)) zaf))) zaJ))))))) (zak (zan (zbi (zaa (dv 1) (zaa (zfg (zaO zid) rfl zas Boot.«tuple» (zaa (dv 2) zab)) zab))))))))),fun ds S Q ex h=>by
  unfold zdC at h
  split at h
  ·rename_i b
   obtain⟨cs,z,lo,ds,hb,ents,l6,h⟩:=h
   have ld:=ents.1
   have lb:=zcX hb
   have e3:(S++[Ob.lst []]++[Ob.lst [.int 0,.int 0,.int 0,.int 0,.int 0]]++[Ob.lst ([("one":Str),"full","small","waits","out"].map D.str)]).length=S.length + 3:=by simp
   have e2:(S++[Ob.lst []]++[Ob.lst [D.int 0,.int 0,.int 0,.int 0,.int 0]]).length=S.length + 2:=by simp
   have e1:(S++[Ob.lst []]).length=S.length + 1:=by simp
   have h2:=zat (S++[Ob.lst []]) (.lst [D.int 0,.int 0,.int 0,.int 0,.int 0])
   have h3:=zat (S++[Ob.lst []]++[Ob.lst [D.int 0,.int 0,.int 0,.int 0,.int 0]]) (.lst ([("one":Str),"full","small","waits","out"].map D.str))
   rw[e1] at h2
   rw[e2] at h3
   refine zhk (n:=b) (xs:=ds) (S1:=S++[Ob.lst []]++[Ob.lst [D.int 0,.int 0,.int 0,.int 0,.int 0]]++[Ob.lst ([("one":Str),"full","small","waits","out"].map D.str)]) (fun k dl' S'=>Pre S S'∧(∃ys,S'[S.length]?=some (.lst ys)∧za8 S' (S.length + 3) z ys (zaS cs k))∧S'[S.length + 1]?=some (.lst (zbu fun i=>zap (cs.take k) (w5 i)))∧S'[S.length + 2]?=some (.lst ([("one":Str),"full","small","waits","out"].map D.str))∧∃u4 u5 u6 u7:Option D,dl'=[some (.ref b),some (.ref S.length),some (.ref (S.length + 1)),some (.ref (S.length + 2)),u4,u5,u6,u7]) (fun K hK=>by exact hK) (fun k dl' S' ⟨p,_⟩=>p _ _ hb) ⟨zaL (zaL (zaL Pre.refl _) _) _,⟨[],zaq (zaq (zat _ _)),rfl,fun k d e hd=>by simp at hd⟩,zaq h2,h3,none,none,none,none,by rw[e1,e2]; rfl⟩ ?_ ?_
   ·rintro k x dl' S' nx ct hx ⟨p,⟨ys,hy,tl⟩,hm,hw,u4,u5,u6,u7,rfl⟩ hn
    obtain⟨c,hc,a,f,rfl,_,ha,_,zaz,rfl⟩:=ents.at hx
    have hk:=(List.getElem?_eq_some_iff.mp hc).1
    have lw:=zcX hw
    refine zbE (k:=0) rfl ?_
    try dsimp only[zay]
    refine zeU (fun dl2 S2=>Pre S S2∧(∃ys,S2[S.length]?=some (.lst ys)∧za8 S2 (S.length + 3) z ys (zaS cs (k + 1)))∧S2[S.length + 1]?=some (.lst (zbu fun i=>zap (cs.take k) (w5 i)))∧S2[S.length + 2]?=some (.lst ([("one":Str),"full","small","waits","out"].map D.str))∧dl2=[some (.ref b),some (.ref S.length),some (.ref (S.length + 1)),some (.ref (S.length + 2)),some (.int (k:Int)),some (.tup [.ref a,.tup (.str (zaN c)::zaz)]),some (.str (zaN c)),u7]) (fun nx hn=>?_) ?_
    ·refine zfU (n:=S.length + 2) (o:=.lst ([("one":Str),"full","small","waits","out"].map D.str)) (lo:=none) (hi:=some 4) (S3:=S') (fun K hK=>by exact hK) (fun K hK=>by exact hK) (fun K hK=>by exact hK) hw ?_
     refine in_at (ws:=[("one":Str),"full","small","waits"]) (zat _ _) ?_
     rw[zjN]
     have kp:Pre S' (S'++[Ob.lst (zbQ (zae (.lst ([("one":Str),"full","small","waits","out"].map D.str))) none (some 4))]):=zaL Pre.refl _
     cases e:zb8 (zaN c) with
     | true=>
      refine za4 ?_
      have lys:ys.length < 1000:=by have a:=tl.1; have b:=zdD cs k; omega
      refine zgN (n:=S.length) (xs:=ys) (fun K hK=>by exact hK) (kp _ _ hy) (fun K hK=>?_) lys
      refine zfW (zaR (kp _ _ (p _ _ ha)) rfl) ?_
      have lV:=zis kp
      refine hK _ _ (zaq (kp _ _ hy)) ?_
      refine hn _ _ ⟨zbj (fun x o e=>zaq (kp _ _ (p _ _ e))) (Nat.le_refl _),⟨_,zbo (zaq (kp _ _ hy)),?_⟩,zbs (zaq (kp _ _ hm)) (by omega),zbs (zaq (kp _ _ hw)) (by omega),rfl⟩
      rw[zfV hc e]
      exact(tl.keep fun x o hx e=>zbs (zaq (kp _ _ e)) (by omega)).snoc (by omega) (zbs (zat _ _) (by omega))
     | false=>
      refine zai ?_
      refine hn _ _ ⟨fun x o e=>kp _ _ (p _ _ e),⟨ys,kp _ _ hy,?_⟩,kp _ _ hm,kp _ _ hw,rfl⟩
      rw[zgW hc e]
      exact tl.keep fun x o _ e=>kp _ _ e
    rintro dl2 S2 ⟨p,⟨ys,hy,tl⟩,hm,hw,rfl⟩
    refine⟨⟨by decide,by decide⟩,fun j dl' S'=>j≤5∧Pre S S'∧(∃ys,S'[S.length]?=some (.lst ys)∧za8 S' (S.length + 3) z ys (zaS cs (k + 1)))∧S'[S.length + 1]?=some (.lst (zbu fun i=>if i < j then zap (cs.take (k + 1)) (w5 i) else zap (cs.take k) (w5 i)))∧S'[S.length + 2]?=some (.lst ([("one":Str),"full","small","waits","out"].map D.str))∧∃u:Option D,dl'=[some (.ref b),some (.ref S.length),some (.ref (S.length + 1)),some (.ref (S.length + 2)),some (.int (k:Int)),some (.tup [.ref a,.tup (.str (zaN c)::zaz)]),some (.str (zaN c)),u],⟨Nat.zero_le _,p,⟨ys,hy,tl⟩,hm,hw,_,rfl⟩,?_⟩
    rintro j dl' S' ⟨hj,p,⟨ys,hy,tl⟩,hm,hw,u,rfl⟩
    refine ite2 (fun c5=>?_) (fun c5=>?_)
    ·have j5:j < 5:=c5
     refine zbf (o:=.lst ([("one":Str),"full","small","waits","out"].map D.str)) hw (zbF (w5_at j5)) ?_
     have cs1:=zg8 hc (w5 j)
     refine ifD (fun e=>?_) (fun e=>?_)
     ·rw[if_pos e.symm] at cs1
      have lm:=zcX hm
      refine zfx (n:=S.length + 1) (j:=j) (k:=(j:Int)) (xs:=zbu fun i=>if i < j then zap (cs.take (k + 1)) (w5 i) else zap (cs.take k) (w5 i)) (v:=.int ((zap (cs.take k) (w5 j) + 1:Nat):Int)) (fun K hK=>?_) (fun K hK=>by exact hK) (fun K hK=>by exact hK) hm (zgF ⟨by omega,by show (j:Int) < 5; omega⟩) ?_
      ·have z:=zhd (f:=fun i=>if i < j then zap (cs.take (k + 1)) (w5 i) else zap (cs.take k) (w5 i)) j5
       rw[if_neg (Nat.lt_irrefl j)] at z
       refine zbf (o:=.lst (zbu fun i=>if i < j then zap (cs.take (k + 1)) (w5 i) else zap (cs.take k) (w5 i))) hm (zbF z) ?_
       have e1:((zap (cs.take k) (w5 j) + 1:Nat):Int)=(zap (cs.take k) (w5 j):Int) + 1:=by omega
       rw[e1] at hK
       exact hK
      ·refine⟨by omega,zbj p (by omega),⟨ys,zbs hy (by omega),tl.keep fun x o hx e=>zbs e (by omega)⟩,?_,zbs hw (by omega),_,rfl⟩
       have ef:(fun i=>if i=j then zap (cs.take k) (w5 j) + 1 else if i < j then zap (cs.take (k + 1)) (w5 i) else zap (cs.take k) (w5 i))=fun i=>if i < j + 1 then zap (cs.take (k + 1)) (w5 i) else zap (cs.take k) (w5 i):=by
        funext i
        by_cases h1:i < j
        ·rw[if_neg (by omega),if_pos h1,if_pos (by omega)]
        ·by_cases h2:i=j
         ·rw[if_pos h2,h2,if_pos (by omega)]
          omega
         ·rw[if_neg h2,if_neg h1,if_neg (by omega)]
       rw[zi8 j5,ef]
       exact zbo hm
     ·rw[if_neg fun q=>e q.symm] at cs1
      refine⟨by omega,p,⟨ys,hy,tl⟩,?_,hw,_,rfl⟩
      have ef:(fun i=>if i < j then zap (cs.take (k + 1)) (w5 i) else zap (cs.take k) (w5 i))=fun i=>if i < j + 1 then zap (cs.take (k + 1)) (w5 i) else zap (cs.take k) (w5 i):=by
       funext i
       by_cases h1:i < j
       ·rw[if_pos h1,if_pos (by omega)]
       ·by_cases h2:i=j
        ·rw[h2,if_neg (Nat.lt_irrefl j),if_pos (by omega)]
         omega
        ·rw[if_neg h1,if_neg (by omega)]
      rw[ef] at hm
      exact hm
    ·have ej:j=5:=by
      have:¬ j < 5:=c5
      omega
     subst ej
     exact hn _ _ ⟨p,⟨ys,hy,tl⟩,hm,hw,_,_,_,_,rfl⟩
   ·rintro dl' S' ⟨p,⟨ys,hy,tl⟩,hm,hw,u4,u5,u6,u7,rfl⟩
    rw[ld] at tl hm
    rw[List.take_length] at hm
    refine zhj hm ?_
    exact h S' ys p hy ⟨tl.1,fun k d e hd he=>by
     obtain⟨a,ed,l,ha⟩:=tl.2 k d e hd he
     exact⟨a,ed,by omega,ha⟩⟩
  ·exact h.elim⟩)
def ziy  (zd2:Df K mg "told" zcg zdP)(g_TOLD_WORDS:GT K mg "TOLD_WORDS" ["full","one","small","waits"])(zbJ:mg "enumerate"=none)(zao:mg "list"=none):Fk P w K mg base 1 "told" zdP zdH:=
 zd2.mk' (zbn (k:=0) zd2.F zhw (zjl) fun cdv A outer s H E hr=>⟨_,(zak (zan (zjI (x1:="number") (x2:="entry") (N:=[]) (caps:=[]) (ar:=zah zcg) rfl rfl cscG rfl rfl rfl (by decide) rfl zbJ Boot.«enumerate» (zaa (dv 0) zab) (fun _ _ _ _ _ _=>zi7 (zh7 g_TOLD_WORDS rfl (za9 (zbr (dv 1) zaf (fun _ _=>rfl)) zaf (fun _ _=>rfl)))) (fun _ _ _ _ _ _=>(zbi (zaa (dv 0) (zaa (za9 (zbr (dv 1) zaf (fun _ _=>rfl)) zaf (fun _ _=>rfl)) (zaa (zfg (zaO zf5) rfl zao Boot.«list» (zaa (zbr (dv 1) zaf (fun _ _=>rfl)) zab)) zab)))))))),fun ds S Q ex h=>by
  unfold zdH at h
  split at h
  ·rename_i b
   obtain⟨cs,z,lo,ds,hb,ents,l6,h⟩:=h
   have ld:=ents.1
   refine zj9 (n:=b) (xs:=ds) (S1:=S) (fun k ys S2=>Pre S S2∧S2[S.length]?=some (.lst ys)∧za8 S2 (S.length + 1) z ys (zaS cs k)) (fun _ d=>tOf d) (fun K hK=>by exact hK) hb (fun k ys S2 ⟨p,e,t⟩=>⟨p _ _ hb,e,by rw[t.1]; exact zdD cs k⟩) (by omega) ⟨zaL Pre.refl _,zat _ _,rfl,fun k d e hd=>by simp at hd⟩ (fun k x ys S2 K hx ⟨p,e,t⟩ hK=>?_) (fun k x ys S2 hx hf ⟨p,e,t⟩=>?_) (fun k x ys S2 K hx hf ⟨p,e,t⟩ hK=>?_) (fun ys S2 ⟨p,e,t⟩=>?_)
   ·obtain⟨c,hc,a,f,rfl,_,_,_,zaz,rfl⟩:=ents.at hx
    refine zbE (k:=0) rfl ?_
    exact hK
   ·obtain⟨c,hc,a,f,rfl,_,_,_,zaz,rfl⟩:=ents.at hx
    exact⟨p,e,by rw[zgW hc hf]; exact t⟩
   ·obtain⟨c,hc,a,f,rfl,_,ha,_,zaz,rfl⟩:=ents.at hx
    have lS:=zcX e
    refine zbE (k:=0) rfl ?_
    refine zfW (zaR (p _ _ ha) rfl) ?_
    refine hK _ _ (zaq e) ⟨zbj (zaL p _) (Nat.le_refl _),zbo (zaq e),?_⟩
    rw[zfV hc hf]
    exact(t.keep fun x o hx e=>zbs (zaq e) (by omega)).snoc (by omega) (zbs (zat _ _) (by omega))
   ·rw[ld] at t
    exact h S2 ys p e t
  ·exact h.elim⟩)
def zjq  (zex:Df K mg "_law_whole" zcE zb9)(zag:mg "isinstance"=none)(zcs:mg "bool"=none)(zaP:mg "int"=none)(zcT:Kit K "bool")(zda:Kit K "int"):Fk P w K mg base 1 "_law_whole" zb9 zcj:=
 zex.mk' (zbn (k:=0) zex.F zhE (zhp) fun cdv A outer s H E hr=>⟨_,(zak (zan (zbx (zf8 zda rfl zag rfl zaP Boot.«int» (dv 0)) (zbI (zhO (zf8 zcT rfl zag rfl zcs Boot.«bool» (dv 0))))))),fun ds S Q ex h=>by
  unfold zcj at h
  split at h
  ·exact h
  ·exact h.elim⟩)
def zhD (zaT:Df K mg "_law_alike" zba za7)(zbm:Fk P w K mg base 1 "_law_whole" zb9 zcj)(zag:mg "isinstance"=none)(zaY:mg "str"=none)(zaP:mg "int"=none)(zas:mg "tuple"=none)(zao:mg "list"=none)(za0:mg "all"=none)(zaB:mg "range"=none)(zar:mg "len"=none)(zch:Fk P w K mg base 0 "_law_alike" za7 zgi):Fk P w K mg base 2 "_law_alike" za7 zdv:=
 zaT.mk' (zbn (k:=1) zaT.F zdq zjj fun cdv A outer s H E hr=>⟨_,(zaj (zaI (PDW.pt (zbN (zbc (zam (zal _ _ (by simp)) rfl zag rfl zao Boot.«list» (dv 1))) (zbT (zbc (zam (zal _ _ (by simp)) rfl zag rfl zas Boot.«tuple» (dv 1)))))) (zaj (zaI (PDW.pt (zbN (za2 (zbq hr) (zam (zal _ _ (by simp)) rfl zag rfl zao Boot.«list» (dv 1)) (zam (zal _ _ (by simp)) rfl zag rfl zao Boot.«list» (dv 0)) (zaC _)) (zbT (za2 (zbq hr) (zam (zal _ _ (by simp)) rfl zag rfl zas Boot.«tuple» (dv 1)) (zam (zal _ _ (by simp)) rfl zag rfl zas Boot.«tuple» (dv 0)) (zaC _))))) (zak (zan zbP)) zaJ) (zaj (zaI (za2 (zbq hr) (zaV (zaO zbd) rfl zar Boot.«len» (zaa (dv 0) zab)) (zaV (zaO zbd) rfl zar Boot.«len» (zaa (dv 1) zab)) (zaC _)) (zak (zan zbP)) zaJ) (zak (zan (zaV (zaO (zds rfl)) rfl za0 Boot.«all» (zaa (zc8 (x:="_law_k") (N:=["_law_found","_law_due_here"]) (caps:=[0,1]) (ar:=zah zba) rfl rfl csc rfl (by decide) rfl zaB (zaa (zaV (zaO zbd) rfl zar Boot.«len» (zaa (dv 1) zab)) zab) (fun _ _ _ _ _ _=>zb5) (fun _ _ _ _ _ _=>(zdd zch (hr.mono (by decide)) zdc rfl (zaa (za9 (dv 1) (dv 0) (fun _ _=>rfl)) (zaa (za9 (dv 2) (dv 0) (fun _ _=>rfl)) zab))))) zab)))))) zaJ) (zaj (zaI (zbc (zam (zal _ _ (by simp)) rfl zag rfl zaP Boot.«int» (dv 1))) (zak (zan (zbx (zaG zbm hr (zaa (dv 0) zab)) (zbI (zbR (zbD hr) (dv 0) (dv 1) (zaC _)))))) zaJ) (zak (zan (zbx (zam (zal _ _ (by simp)) rfl zag rfl zaY Boot.«str» (dv 0)) (zbI (zbR (zbD hr) (dv 0) (dv 1) (zaC _)))))))),fun ds S Q ex h=>by
  unfold zdv at h
  split at h
  ·rename_i x y
   obtain⟨⟨t,hx,hy⟩,h⟩:=h
   cases hx with
   | i k=>
    cases hy
    try dsimp only[zay]
    refine zbl (i:=k) (fun K hK=>by exact hK) ?_
    refine zbl (i:=k) (fun K hK=>by exact hK) ?_
    refine zai ?_
    refine zbl (i:=k) (fun K hK=>by exact hK) ?_
    refine za4 ?_
    have h:=h S Pre.refl
    have e:decide (k=k)=true:=decide_eq_true rfl
    rw[← e] at h
    exact h
   | s w=>
    cases hy
    try dsimp only[zay]
    refine za1 (w:=w) (fun K hK=>by exact hK) ?_
    refine za1 (w:=w) (fun K hK=>by exact hK) ?_
    refine zai ?_
    refine za1 (w:=w) (fun K hK=>by exact hK) ?_
    refine zai ?_
    refine za1 (w:=w) (fun K hK=>by exact hK) ?_
    have h:=h S Pre.refl
    have e:decide (w=w)=true:=decide_eq_true rfl
    rw[← e] at h
    exact h
  ·exact h.elim⟩)
def zjS (zaT:Df K mg "_law_alike" zba za7)(zbm:Fk P w K mg base 1 "_law_whole" zb9 zcj)(zag:mg "isinstance"=none)(zaY:mg "str"=none)(zaP:mg "int"=none)(zas:mg "tuple"=none)(zao:mg "list"=none)(za0:mg "all"=none)(zaB:mg "range"=none)(zar:mg "len"=none)(zch:Fk P w K mg base 2 "_law_alike" za7 zdv):Fk P w K mg base 3 "_law_alike" za7 zdM:=
 zaT.mk' (zbn (k:=2) zaT.F zdq zjQ fun cdv A outer s H E hr=>⟨_,(zaj (zaI (PDW.pt (zbN (zbc (zam (zal _ _ (by simp)) rfl zag rfl zao Boot.«list» (dv 1))) (zbT (zbc (zam (zal _ _ (by simp)) rfl zag rfl zas Boot.«tuple» (dv 1)))))) (zaj (zaI (PDW.pt (zbN (za2 (zbq hr) (zam (zal _ _ (by simp)) rfl zag rfl zao Boot.«list» (dv 1)) (zam (zal _ _ (by simp)) rfl zag rfl zao Boot.«list» (dv 0)) (zaC _)) (zbT (za2 (zbq hr) (zam (zal _ _ (by simp)) rfl zag rfl zas Boot.«tuple» (dv 1)) (zam (zal _ _ (by simp)) rfl zag rfl zas Boot.«tuple» (dv 0)) (zaC _))))) (zak (zan zbP)) zaJ) (zaj (zaI (za2 (zbq hr) (zaV (zaO zbd) rfl zar Boot.«len» (zaa (dv 0) zab)) (zaV (zaO zbd) rfl zar Boot.«len» (zaa (dv 1) zab)) (zaC _)) (zak (zan zbP)) zaJ) (zak (zan (zaV (zaO (zds rfl)) rfl za0 Boot.«all» (zaa (zc8 (x:="_law_k") (N:=["_law_found","_law_due_here"]) (caps:=[0,1]) (ar:=zah zba) rfl rfl csc rfl (by decide) rfl zaB (zaa (zaV (zaO zbd) rfl zar Boot.«len» (zaa (dv 1) zab)) zab) (fun _ _ _ _ _ _=>zb5) (fun _ _ _ _ _ _=>(zdd zch (hr.mono (by decide)) zdc rfl (zaa (za9 (dv 1) (dv 0) (fun _ _=>rfl)) (zaa (za9 (dv 2) (dv 0) (fun _ _=>rfl)) zab))))) zab)))))) zaJ) (zaj (zaI (zbc (zam (zal _ _ (by simp)) rfl zag rfl zaP Boot.«int» (dv 1))) (zak (zan (zbx (zaG zbm hr (zaa (dv 0) zab)) (zbI (zbR (zbD hr) (dv 0) (dv 1) (zaC _)))))) zaJ) (zak (zan (zbx (zam (zal _ _ (by simp)) rfl zag rfl zaY Boot.«str» (dv 0)) (zbI (zbR (zbD hr) (dv 0) (dv 1) (zaC _)))))))),fun ds S Q ex h=>by
  unfold zdM at h
  split at h
  ·rename_i x y
   obtain⟨⟨t,hx,hy⟩,h⟩:=h
   cases hx with
   | i k=>
    cases hy
    try dsimp only[zay]
    refine zbl (i:=k) (fun K hK=>by exact hK) ?_
    refine zbl (i:=k) (fun K hK=>by exact hK) ?_
    refine zai ?_
    refine zbl (i:=k) (fun K hK=>by exact hK) ?_
    refine za4 ?_
    have h:=h S Pre.refl
    have e:decide (k=k)=true:=decide_eq_true rfl
    rw[← e] at h
    exact h
   | s w=>
    cases hy
    try dsimp only[zay]
    refine za1 (w:=w) (fun K hK=>by exact hK) ?_
    refine za1 (w:=w) (fun K hK=>by exact hK) ?_
    refine zai ?_
    refine za1 (w:=w) (fun K hK=>by exact hK) ?_
    refine zai ?_
    refine za1 (w:=w) (fun K hK=>by exact hK) ?_
    have h:=h S Pre.refl
    have e:decide (w=w)=true:=decide_eq_true rfl
    rw[← e] at h
    exact h
   | @t _ xs ds z9 l f=>
    cases hy with
    | @t _ _ es _ l' f'=>
     try dsimp only[zay]
     refine zaM (xs:=es) (fun K hK=>by exact hK) ?_
     refine zaM (xs:=es) (fun K hK=>by exact hK) ?_
     refine za4 ?_
     try dsimp only[zay]
     refine zaM (xs:=es) (fun K hK=>by exact hK) ?_
     refine zaM (xs:=ds) (fun K hK=>by exact hK) ?_
     refine zbg ?_
     refine zai ?_
     refine zaM (xs:=es) (fun K hK=>by exact hK) ?_
     refine zaM (xs:=ds) (fun K hK=>by exact hK) ?_
     refine zbg ?_
     refine zai ?_
     refine zbA ?_
     refine zbA ?_
     refine zcB (by omega) ?_
     refine zai ?_
     refine zcF (j:=(es.length:Nat)) (S1:=S) (fun k ys S2=>Pre S S2∧S2[S.length]?=some (.lst ys)∧ys=(List.range k).map fun _=>D.bl true) (fun K hK=>zbA hK) ⟨by omega,by omega⟩ (fun k ys S2 ⟨_,e,z⟩=>⟨e,by rw[z,List.length_map,List.length_range]⟩) ⟨zaL Pre.refl _,zat _ _,rfl⟩ (fun k ys S2 K hk ⟨pr,ey,z⟩ hK=>?_) (fun ys S2 ⟨pr,ey,z⟩=>?_)
     ·rw[Int.toNat_natCast] at hk
      have e1:=List.getElem?_eq_getElem (show k < ds.length by omega)
      have e2:=List.getElem?_eq_getElem hk
      have e3:=List.getElem?_eq_getElem (show k < xs.length by omega)
      refine zbE e1 ?_
      refine zbE e2 ?_
      refine⟨⟨xs[k],(f k _ _ e3 e1).pre pr,(f' k _ _ e3 e2).pre pr⟩,fun T pT=>hK _ T (pT _ _ ey) ⟨zbj (fun i o e=>pT _ _ (pr _ _ e)) (Nat.le_refl _),zbo (pT _ _ ey),?_⟩⟩
      rw[z,List.range_succ,List.map_append]
      rfl
     ·refine zco (bs:=(List.range ((es.length:Nat):Int).toNat).map fun _=>true) ey (by rw[z]; exact zck _) ?_
      rw[zb3]
      exact h _ pr
   | @l _ a xs ds ha _ z9 l f=>
    cases hy with
    | @l _ b _ es hb _ _ l' f'=>
     try dsimp only[zay]
     refine zaW (n:=b) (fun K hK=>by exact hK) hb ?_
     refine za4 ?_
     try dsimp only[zay]
     refine zaW (n:=b) (fun K hK=>by exact hK) hb ?_
     refine zaW (n:=a) (fun K hK=>by exact hK) ha ?_
     refine zbg ?_
     refine zai ?_
     refine zaW (n:=b) (fun K hK=>by exact hK) hb ?_
     refine zaW (n:=a) (fun K hK=>by exact hK) ha ?_
     refine zbg ?_
     refine zai ?_
     refine zbH ha ?_
     refine zbH hb ?_
     refine zcB (by omega) ?_
     refine zai ?_
     refine zcF (j:=(es.length:Nat)) (S1:=S) (fun k ys S2=>Pre S S2∧S2[S.length]?=some (.lst ys)∧ys=(List.range k).map fun _=>D.bl true) (fun K hK=>zbH hb hK) ⟨by omega,by omega⟩ (fun k ys S2 ⟨_,e,z⟩=>⟨e,by rw[z,List.length_map,List.length_range]⟩) ⟨zaL Pre.refl _,zat _ _,rfl⟩ (fun k ys S2 K hk ⟨pr,ey,z⟩ hK=>?_) (fun ys S2 ⟨pr,ey,z⟩=>?_)
     ·rw[Int.toNat_natCast] at hk
      have e1:=List.getElem?_eq_getElem (show k < ds.length by omega)
      have e2:=List.getElem?_eq_getElem hk
      have e3:=List.getElem?_eq_getElem (show k < xs.length by omega)
      refine zbf (o:=.lst ds) (pr _ _ ha) (zbF e1) ?_
      refine zbf (o:=.lst es) (pr _ _ hb) (zbF e2) ?_
      refine⟨⟨xs[k],(f k _ _ e3 e1).pre pr,(f' k _ _ e3 e2).pre pr⟩,fun T pT=>hK _ T (pT _ _ ey) ⟨zbj (fun i o e=>pT _ _ (pr _ _ e)) (Nat.le_refl _),zbo (pT _ _ ey),?_⟩⟩
      rw[z,List.range_succ,List.map_append]
      rfl
     ·refine zco (bs:=(List.range ((es.length:Nat):Int).toNat).map fun _=>true) ey (by rw[z]; exact zck _) ?_
      rw[zb3]
      exact h _ pr
  ·exact h.elim⟩)
def zjO (zaT:Df K mg "_law_alike" zba za7)(zbm:Fk P w K mg base 1 "_law_whole" zb9 zcj)(zag:mg "isinstance"=none)(zaY:mg "str"=none)(zaP:mg "int"=none)(zas:mg "tuple"=none)(zao:mg "list"=none)(za0:mg "all"=none)(zaB:mg "range"=none)(zar:mg "len"=none)(zch:Fk P w K mg base 3 "_law_alike" za7 zdM):Fk P w K mg base 4 "_law_alike" za7 zdA:=
 zaT.mk' (zbn (k:=3) zaT.F zdq ziI fun cdv A outer s H E hr=>⟨_,(zaj (zaI (PDW.pt (zbN (zbc (zam (zal _ _ (by simp)) rfl zag rfl zao Boot.«list» (dv 1))) (zbT (zbc (zam (zal _ _ (by simp)) rfl zag rfl zas Boot.«tuple» (dv 1)))))) (zaj (zaI (PDW.pt (zbN (za2 (zbq hr) (zam (zal _ _ (by simp)) rfl zag rfl zao Boot.«list» (dv 1)) (zam (zal _ _ (by simp)) rfl zag rfl zao Boot.«list» (dv 0)) (zaC _)) (zbT (za2 (zbq hr) (zam (zal _ _ (by simp)) rfl zag rfl zas Boot.«tuple» (dv 1)) (zam (zal _ _ (by simp)) rfl zag rfl zas Boot.«tuple» (dv 0)) (zaC _))))) (zak (zan zbP)) zaJ) (zaj (zaI (za2 (zbq hr) (zaV (zaO zbd) rfl zar Boot.«len» (zaa (dv 0) zab)) (zaV (zaO zbd) rfl zar Boot.«len» (zaa (dv 1) zab)) (zaC _)) (zak (zan zbP)) zaJ) (zak (zan (zaV (zaO (zds rfl)) rfl za0 Boot.«all» (zaa (zc8 (x:="_law_k") (N:=["_law_found","_law_due_here"]) (caps:=[0,1]) (ar:=zah zba) rfl rfl csc rfl (by decide) rfl zaB (zaa (zaV (zaO zbd) rfl zar Boot.«len» (zaa (dv 1) zab)) zab) (fun _ _ _ _ _ _=>zb5) (fun _ _ _ _ _ _=>(zdd zch (hr.mono (by decide)) zdc rfl (zaa (za9 (dv 1) (dv 0) (fun _ _=>rfl)) (zaa (za9 (dv 2) (dv 0) (fun _ _=>rfl)) zab))))) zab)))))) zaJ) (zaj (zaI (zbc (zam (zal _ _ (by simp)) rfl zag rfl zaP Boot.«int» (dv 1))) (zak (zan (zbx (zaG zbm hr (zaa (dv 0) zab)) (zbI (zbR (zbD hr) (dv 0) (dv 1) (zaC _)))))) zaJ) (zak (zan (zbx (zam (zal _ _ (by simp)) rfl zag rfl zaY Boot.«str» (dv 0)) (zbI (zbR (zbD hr) (dv 0) (dv 1) (zaC _)))))))),fun ds S Q ex h=>by
  unfold zdA at h
  split at h
  ·rename_i x y
   obtain⟨⟨t,hx,hy⟩,h⟩:=h
   cases hx with
   | i k=>
    cases hy
    try dsimp only[zay]
    refine zbl (i:=k) (fun K hK=>by exact hK) ?_
    refine zbl (i:=k) (fun K hK=>by exact hK) ?_
    refine zai ?_
    refine zbl (i:=k) (fun K hK=>by exact hK) ?_
    refine za4 ?_
    have h:=h S Pre.refl
    have e:decide (k=k)=true:=decide_eq_true rfl
    rw[← e] at h
    exact h
   | s w=>
    cases hy
    try dsimp only[zay]
    refine za1 (w:=w) (fun K hK=>by exact hK) ?_
    refine za1 (w:=w) (fun K hK=>by exact hK) ?_
    refine zai ?_
    refine za1 (w:=w) (fun K hK=>by exact hK) ?_
    refine zai ?_
    refine za1 (w:=w) (fun K hK=>by exact hK) ?_
    have h:=h S Pre.refl
    have e:decide (w=w)=true:=decide_eq_true rfl
    rw[← e] at h
    exact h
   | @t _ xs ds z9 l f=>
    cases hy with
    | @t _ _ es _ l' f'=>
     try dsimp only[zay]
     refine zaM (xs:=es) (fun K hK=>by exact hK) ?_
     refine zaM (xs:=es) (fun K hK=>by exact hK) ?_
     refine za4 ?_
     try dsimp only[zay]
     refine zaM (xs:=es) (fun K hK=>by exact hK) ?_
     refine zaM (xs:=ds) (fun K hK=>by exact hK) ?_
     refine zbg ?_
     refine zai ?_
     refine zaM (xs:=es) (fun K hK=>by exact hK) ?_
     refine zaM (xs:=ds) (fun K hK=>by exact hK) ?_
     refine zbg ?_
     refine zai ?_
     refine zbA ?_
     refine zbA ?_
     refine zcB (by omega) ?_
     refine zai ?_
     refine zcF (j:=(es.length:Nat)) (S1:=S) (fun k ys S2=>Pre S S2∧S2[S.length]?=some (.lst ys)∧ys=(List.range k).map fun _=>D.bl true) (fun K hK=>zbA hK) ⟨by omega,by omega⟩ (fun k ys S2 ⟨_,e,z⟩=>⟨e,by rw[z,List.length_map,List.length_range]⟩) ⟨zaL Pre.refl _,zat _ _,rfl⟩ (fun k ys S2 K hk ⟨pr,ey,z⟩ hK=>?_) (fun ys S2 ⟨pr,ey,z⟩=>?_)
     ·rw[Int.toNat_natCast] at hk
      have e1:=List.getElem?_eq_getElem (show k < ds.length by omega)
      have e2:=List.getElem?_eq_getElem hk
      have e3:=List.getElem?_eq_getElem (show k < xs.length by omega)
      refine zbE e1 ?_
      refine zbE e2 ?_
      refine⟨⟨xs[k],(f k _ _ e3 e1).pre pr,(f' k _ _ e3 e2).pre pr⟩,fun T pT=>hK _ T (pT _ _ ey) ⟨zbj (fun i o e=>pT _ _ (pr _ _ e)) (Nat.le_refl _),zbo (pT _ _ ey),?_⟩⟩
      rw[z,List.range_succ,List.map_append]
      rfl
     ·refine zco (bs:=(List.range ((es.length:Nat):Int).toNat).map fun _=>true) ey (by rw[z]; exact zck _) ?_
      rw[zb3]
      exact h _ pr
   | @l _ a xs ds ha _ z9 l f=>
    cases hy with
    | @l _ b _ es hb _ _ l' f'=>
     try dsimp only[zay]
     refine zaW (n:=b) (fun K hK=>by exact hK) hb ?_
     refine za4 ?_
     try dsimp only[zay]
     refine zaW (n:=b) (fun K hK=>by exact hK) hb ?_
     refine zaW (n:=a) (fun K hK=>by exact hK) ha ?_
     refine zbg ?_
     refine zai ?_
     refine zaW (n:=b) (fun K hK=>by exact hK) hb ?_
     refine zaW (n:=a) (fun K hK=>by exact hK) ha ?_
     refine zbg ?_
     refine zai ?_
     refine zbH ha ?_
     refine zbH hb ?_
     refine zcB (by omega) ?_
     refine zai ?_
     refine zcF (j:=(es.length:Nat)) (S1:=S) (fun k ys S2=>Pre S S2∧S2[S.length]?=some (.lst ys)∧ys=(List.range k).map fun _=>D.bl true) (fun K hK=>zbH hb hK) ⟨by omega,by omega⟩ (fun k ys S2 ⟨_,e,z⟩=>⟨e,by rw[z,List.length_map,List.length_range]⟩) ⟨zaL Pre.refl _,zat _ _,rfl⟩ (fun k ys S2 K hk ⟨pr,ey,z⟩ hK=>?_) (fun ys S2 ⟨pr,ey,z⟩=>?_)
     ·rw[Int.toNat_natCast] at hk
      have e1:=List.getElem?_eq_getElem (show k < ds.length by omega)
      have e2:=List.getElem?_eq_getElem hk
      have e3:=List.getElem?_eq_getElem (show k < xs.length by omega)
      refine zbf (o:=.lst ds) (pr _ _ ha) (zbF e1) ?_
      refine zbf (o:=.lst es) (pr _ _ hb) (zbF e2) ?_
      refine⟨⟨xs[k],(f k _ _ e3 e1).pre pr,(f' k _ _ e3 e2).pre pr⟩,fun T pT=>hK _ T (pT _ _ ey) ⟨zbj (fun i o e=>pT _ _ (pr _ _ e)) (Nat.le_refl _),zbo (pT _ _ ey),?_⟩⟩
      rw[z,List.range_succ,List.map_append]
      rfl
     ·refine zco (bs:=(List.range ((es.length:Nat):Int).toNat).map fun _=>true) ey (by rw[z]; exact zck _) ?_
      rw[zb3]
      exact h _ pr
  ·exact h.elim⟩)
def zjo (zaT:Df K mg "_law_alike" zba za7)(zbm:Fk P w K mg base 1 "_law_whole" zb9 zcj)(zag:mg "isinstance"=none)(zaY:mg "str"=none)(zaP:mg "int"=none)(zas:mg "tuple"=none)(zao:mg "list"=none)(za0:mg "all"=none)(zaB:mg "range"=none)(zar:mg "len"=none)(zch:Fk P w K mg base 4 "_law_alike" za7 zdA):Fk P w K mg base 5 "_law_alike" za7 zdi:=
 zaT.mk' (zbn (k:=4) zaT.F zdq zjx fun cdv A outer s H E hr=>⟨_,(zaj (zaI (PDW.pt (zbN (zbc (zam (zal _ _ (by simp)) rfl zag rfl zao Boot.«list» (dv 1))) (zbT (zbc (zam (zal _ _ (by simp)) rfl zag rfl zas Boot.«tuple» (dv 1)))))) (zaj (zaI (PDW.pt (zbN (za2 (zbq hr) (zam (zal _ _ (by simp)) rfl zag rfl zao Boot.«list» (dv 1)) (zam (zal _ _ (by simp)) rfl zag rfl zao Boot.«list» (dv 0)) (zaC _)) (zbT (za2 (zbq hr) (zam (zal _ _ (by simp)) rfl zag rfl zas Boot.«tuple» (dv 1)) (zam (zal _ _ (by simp)) rfl zag rfl zas Boot.«tuple» (dv 0)) (zaC _))))) (zak (zan zbP)) zaJ) (zaj (zaI (za2 (zbq hr) (zaV (zaO zbd) rfl zar Boot.«len» (zaa (dv 0) zab)) (zaV (zaO zbd) rfl zar Boot.«len» (zaa (dv 1) zab)) (zaC _)) (zak (zan zbP)) zaJ) (zak (zan (zaV (zaO (zds rfl)) rfl za0 Boot.«all» (zaa (zc8 (x:="_law_k") (N:=["_law_found","_law_due_here"]) (caps:=[0,1]) (ar:=zah zba) rfl rfl csc rfl (by decide) rfl zaB (zaa (zaV (zaO zbd) rfl zar Boot.«len» (zaa (dv 1) zab)) zab) (fun _ _ _ _ _ _=>zb5) (fun _ _ _ _ _ _=>(zdd zch (hr.mono (by decide)) zdc rfl (zaa (za9 (dv 1) (dv 0) (fun _ _=>rfl)) (zaa (za9 (dv 2) (dv 0) (fun _ _=>rfl)) zab))))) zab)))))) zaJ) (zaj (zaI (zbc (zam (zal _ _ (by simp)) rfl zag rfl zaP Boot.«int» (dv 1))) (zak (zan (zbx (zaG zbm hr (zaa (dv 0) zab)) (zbI (zbR (zbD hr) (dv 0) (dv 1) (zaC _)))))) zaJ) (zak (zan (zbx (zam (zal _ _ (by simp)) rfl zag rfl zaY Boot.«str» (dv 0)) (zbI (zbR (zbD hr) (dv 0) (dv 1) (zaC _)))))))),fun ds S Q ex h=>by
  unfold zdi at h
  split at h
  ·rename_i x y
   obtain⟨⟨t,hx,hy⟩,h⟩:=h
   cases hx with
   | i k=>
    cases hy
    try dsimp only[zay]
    refine zbl (i:=k) (fun K hK=>by exact hK) ?_
    refine zbl (i:=k) (fun K hK=>by exact hK) ?_
    refine zai ?_
    refine zbl (i:=k) (fun K hK=>by exact hK) ?_
    refine za4 ?_
    have h:=h S Pre.refl
    have e:decide (k=k)=true:=decide_eq_true rfl
    rw[← e] at h
    exact h
   | s w=>
    cases hy
    try dsimp only[zay]
    refine za1 (w:=w) (fun K hK=>by exact hK) ?_
    refine za1 (w:=w) (fun K hK=>by exact hK) ?_
    refine zai ?_
    refine za1 (w:=w) (fun K hK=>by exact hK) ?_
    refine zai ?_
    refine za1 (w:=w) (fun K hK=>by exact hK) ?_
    have h:=h S Pre.refl
    have e:decide (w=w)=true:=decide_eq_true rfl
    rw[← e] at h
    exact h
   | @t _ xs ds z9 l f=>
    cases hy with
    | @t _ _ es _ l' f'=>
     try dsimp only[zay]
     refine zaM (xs:=es) (fun K hK=>by exact hK) ?_
     refine zaM (xs:=es) (fun K hK=>by exact hK) ?_
     refine za4 ?_
     try dsimp only[zay]
     refine zaM (xs:=es) (fun K hK=>by exact hK) ?_
     refine zaM (xs:=ds) (fun K hK=>by exact hK) ?_
     refine zbg ?_
     refine zai ?_
     refine zaM (xs:=es) (fun K hK=>by exact hK) ?_
     refine zaM (xs:=ds) (fun K hK=>by exact hK) ?_
     refine zbg ?_
     refine zai ?_
     refine zbA ?_
     refine zbA ?_
     refine zcB (by omega) ?_
     refine zai ?_
     refine zcF (j:=(es.length:Nat)) (S1:=S) (fun k ys S2=>Pre S S2∧S2[S.length]?=some (.lst ys)∧ys=(List.range k).map fun _=>D.bl true) (fun K hK=>zbA hK) ⟨by omega,by omega⟩ (fun k ys S2 ⟨_,e,z⟩=>⟨e,by rw[z,List.length_map,List.length_range]⟩) ⟨zaL Pre.refl _,zat _ _,rfl⟩ (fun k ys S2 K hk ⟨pr,ey,z⟩ hK=>?_) (fun ys S2 ⟨pr,ey,z⟩=>?_)
     ·rw[Int.toNat_natCast] at hk
      have e1:=List.getElem?_eq_getElem (show k < ds.length by omega)
      have e2:=List.getElem?_eq_getElem hk
      have e3:=List.getElem?_eq_getElem (show k < xs.length by omega)
      refine zbE e1 ?_
      refine zbE e2 ?_
      refine⟨⟨xs[k],(f k _ _ e3 e1).pre pr,(f' k _ _ e3 e2).pre pr⟩,fun T pT=>hK _ T (pT _ _ ey) ⟨zbj (fun i o e=>pT _ _ (pr _ _ e)) (Nat.le_refl _),zbo (pT _ _ ey),?_⟩⟩
      rw[z,List.range_succ,List.map_append]
      rfl
     ·refine zco (bs:=(List.range ((es.length:Nat):Int).toNat).map fun _=>true) ey (by rw[z]; exact zck _) ?_
      rw[zb3]
      exact h _ pr
   | @l _ a xs ds ha _ z9 l f=>
    cases hy with
    | @l _ b _ es hb _ _ l' f'=>
     try dsimp only[zay]
     refine zaW (n:=b) (fun K hK=>by exact hK) hb ?_
     refine za4 ?_
     try dsimp only[zay]
     refine zaW (n:=b) (fun K hK=>by exact hK) hb ?_
     refine zaW (n:=a) (fun K hK=>by exact hK) ha ?_
     refine zbg ?_
     refine zai ?_
     refine zaW (n:=b) (fun K hK=>by exact hK) hb ?_
     refine zaW (n:=a) (fun K hK=>by exact hK) ha ?_
     refine zbg ?_
     refine zai ?_
     refine zbH ha ?_
     refine zbH hb ?_
     refine zcB (by omega) ?_
     refine zai ?_
     refine zcF (j:=(es.length:Nat)) (S1:=S) (fun k ys S2=>Pre S S2∧S2[S.length]?=some (.lst ys)∧ys=(List.range k).map fun _=>D.bl true) (fun K hK=>zbH hb hK) ⟨by omega,by omega⟩ (fun k ys S2 ⟨_,e,z⟩=>⟨e,by rw[z,List.length_map,List.length_range]⟩) ⟨zaL Pre.refl _,zat _ _,rfl⟩ (fun k ys S2 K hk ⟨pr,ey,z⟩ hK=>?_) (fun ys S2 ⟨pr,ey,z⟩=>?_)
     ·rw[Int.toNat_natCast] at hk
      have e1:=List.getElem?_eq_getElem (show k < ds.length by omega)
      have e2:=List.getElem?_eq_getElem hk
      have e3:=List.getElem?_eq_getElem (show k < xs.length by omega)
      refine zbf (o:=.lst ds) (pr _ _ ha) (zbF e1) ?_
      refine zbf (o:=.lst es) (pr _ _ hb) (zbF e2) ?_
      refine⟨⟨xs[k],(f k _ _ e3 e1).pre pr,(f' k _ _ e3 e2).pre pr⟩,fun T pT=>hK _ T (pT _ _ ey) ⟨zbj (fun i o e=>pT _ _ (pr _ _ e)) (Nat.le_refl _),zbo (pT _ _ ey),?_⟩⟩
      rw[z,List.range_succ,List.map_append]
      rfl
     ·refine zco (bs:=(List.range ((es.length:Nat):Int).toNat).map fun _=>true) ey (by rw[z]; exact zck _) ?_
      rw[zb3]
      exact h _ pr
  ·exact h.elim⟩)
def ziR (zaT:Df K mg "_law_alike" zba za7)(zbm:Fk P w K mg base 1 "_law_whole" zb9 zcj)(zag:mg "isinstance"=none)(zaY:mg "str"=none)(zaP:mg "int"=none)(zas:mg "tuple"=none)(zao:mg "list"=none)(za0:mg "all"=none)(zaB:mg "range"=none)(zar:mg "len"=none)(zch:Fk P w K mg base 5 "_law_alike" za7 zdi):Fk P w K mg base 6 "_law_alike" za7 zdE:=
 zaT.mk' (zbn (k:=5) zaT.F zdq zin fun cdv A outer s H E hr=>⟨_,(zaj (zaI (PDW.pt (zbN (zbc (zam (zal _ _ (by simp)) rfl zag rfl zao Boot.«list» (dv 1))) (zbT (zbc (zam (zal _ _ (by simp)) rfl zag rfl zas Boot.«tuple» (dv 1)))))) (zaj (zaI (PDW.pt (zbN (za2 (zbq hr) (zam (zal _ _ (by simp)) rfl zag rfl zao Boot.«list» (dv 1)) (zam (zal _ _ (by simp)) rfl zag rfl zao Boot.«list» (dv 0)) (zaC _)) (zbT (za2 (zbq hr) (zam (zal _ _ (by simp)) rfl zag rfl zas Boot.«tuple» (dv 1)) (zam (zal _ _ (by simp)) rfl zag rfl zas Boot.«tuple» (dv 0)) (zaC _))))) (zak (zan zbP)) zaJ) (zaj (zaI (za2 (zbq hr) (zaV (zaO zbd) rfl zar Boot.«len» (zaa (dv 0) zab)) (zaV (zaO zbd) rfl zar Boot.«len» (zaa (dv 1) zab)) (zaC _)) (zak (zan zbP)) zaJ) (zak (zan (zaV (zaO (zds rfl)) rfl za0 Boot.«all» (zaa (zc8 (x:="_law_k") (N:=["_law_found","_law_due_here"]) (caps:=[0,1]) (ar:=zah zba) rfl rfl csc rfl (by decide) rfl zaB (zaa (zaV (zaO zbd) rfl zar Boot.«len» (zaa (dv 1) zab)) zab) (fun _ _ _ _ _ _=>zb5) (fun _ _ _ _ _ _=>(zdd zch (hr.mono (by decide)) zdc rfl (zaa (za9 (dv 1) (dv 0) (fun _ _=>rfl)) (zaa (za9 (dv 2) (dv 0) (fun _ _=>rfl)) zab))))) zab)))))) zaJ) (zaj (zaI (zbc (zam (zal _ _ (by simp)) rfl zag rfl zaP Boot.«int» (dv 1))) (zak (zan (zbx (zaG zbm hr (zaa (dv 0) zab)) (zbI (zbR (zbD hr) (dv 0) (dv 1) (zaC _)))))) zaJ) (zak (zan (zbx (zam (zal _ _ (by simp)) rfl zag rfl zaY Boot.«str» (dv 0)) (zbI (zbR (zbD hr) (dv 0) (dv 1) (zaC _)))))))),fun ds S Q ex h=>by
  unfold zdE at h
  split at h
  ·rename_i x y
   obtain⟨⟨t,hx,hy⟩,h⟩:=h
   cases hx with
   | i k=>
    cases hy
    try dsimp only[zay]
    refine zbl (i:=k) (fun K hK=>by exact hK) ?_
    refine zbl (i:=k) (fun K hK=>by exact hK) ?_
    refine zai ?_
    refine zbl (i:=k) (fun K hK=>by exact hK) ?_
    refine za4 ?_
    have h:=h S Pre.refl
    have e:decide (k=k)=true:=decide_eq_true rfl
    rw[← e] at h
    exact h
   | s w=>
    cases hy
    try dsimp only[zay]
    refine za1 (w:=w) (fun K hK=>by exact hK) ?_
    refine za1 (w:=w) (fun K hK=>by exact hK) ?_
    refine zai ?_
    refine za1 (w:=w) (fun K hK=>by exact hK) ?_
    refine zai ?_
    refine za1 (w:=w) (fun K hK=>by exact hK) ?_
    have h:=h S Pre.refl
    have e:decide (w=w)=true:=decide_eq_true rfl
    rw[← e] at h
    exact h
   | @t _ xs ds z9 l f=>
    cases hy with
    | @t _ _ es _ l' f'=>
     try dsimp only[zay]
     refine zaM (xs:=es) (fun K hK=>by exact hK) ?_
     refine zaM (xs:=es) (fun K hK=>by exact hK) ?_
     refine za4 ?_
     try dsimp only[zay]
     refine zaM (xs:=es) (fun K hK=>by exact hK) ?_
     refine zaM (xs:=ds) (fun K hK=>by exact hK) ?_
     refine zbg ?_
     refine zai ?_
     refine zaM (xs:=es) (fun K hK=>by exact hK) ?_
     refine zaM (xs:=ds) (fun K hK=>by exact hK) ?_
     refine zbg ?_
     refine zai ?_
     refine zbA ?_
     refine zbA ?_
     refine zcB (by omega) ?_
     refine zai ?_
     refine zcF (j:=(es.length:Nat)) (S1:=S) (fun k ys S2=>Pre S S2∧S2[S.length]?=some (.lst ys)∧ys=(List.range k).map fun _=>D.bl true) (fun K hK=>zbA hK) ⟨by omega,by omega⟩ (fun k ys S2 ⟨_,e,z⟩=>⟨e,by rw[z,List.length_map,List.length_range]⟩) ⟨zaL Pre.refl _,zat _ _,rfl⟩ (fun k ys S2 K hk ⟨pr,ey,z⟩ hK=>?_) (fun ys S2 ⟨pr,ey,z⟩=>?_)
     ·rw[Int.toNat_natCast] at hk
      have e1:=List.getElem?_eq_getElem (show k < ds.length by omega)
      have e2:=List.getElem?_eq_getElem hk
      have e3:=List.getElem?_eq_getElem (show k < xs.length by omega)
      refine zbE e1 ?_
      refine zbE e2 ?_
      refine⟨⟨xs[k],(f k _ _ e3 e1).pre pr,(f' k _ _ e3 e2).pre pr⟩,fun T pT=>hK _ T (pT _ _ ey) ⟨zbj (fun i o e=>pT _ _ (pr _ _ e)) (Nat.le_refl _),zbo (pT _ _ ey),?_⟩⟩
      rw[z,List.range_succ,List.map_append]
      rfl
     ·refine zco (bs:=(List.range ((es.length:Nat):Int).toNat).map fun _=>true) ey (by rw[z]; exact zck _) ?_
      rw[zb3]
      exact h _ pr
   | @l _ a xs ds ha _ z9 l f=>
    cases hy with
    | @l _ b _ es hb _ _ l' f'=>
     try dsimp only[zay]
     refine zaW (n:=b) (fun K hK=>by exact hK) hb ?_
     refine za4 ?_
     try dsimp only[zay]
     refine zaW (n:=b) (fun K hK=>by exact hK) hb ?_
     refine zaW (n:=a) (fun K hK=>by exact hK) ha ?_
     refine zbg ?_
     refine zai ?_
     refine zaW (n:=b) (fun K hK=>by exact hK) hb ?_
     refine zaW (n:=a) (fun K hK=>by exact hK) ha ?_
     refine zbg ?_
     refine zai ?_
     refine zbH ha ?_
     refine zbH hb ?_
     refine zcB (by omega) ?_
     refine zai ?_
     refine zcF (j:=(es.length:Nat)) (S1:=S) (fun k ys S2=>Pre S S2∧S2[S.length]?=some (.lst ys)∧ys=(List.range k).map fun _=>D.bl true) (fun K hK=>zbH hb hK) ⟨by omega,by omega⟩ (fun k ys S2 ⟨_,e,z⟩=>⟨e,by rw[z,List.length_map,List.length_range]⟩) ⟨zaL Pre.refl _,zat _ _,rfl⟩ (fun k ys S2 K hk ⟨pr,ey,z⟩ hK=>?_) (fun ys S2 ⟨pr,ey,z⟩=>?_)
     ·rw[Int.toNat_natCast] at hk
      have e1:=List.getElem?_eq_getElem (show k < ds.length by omega)
      have e2:=List.getElem?_eq_getElem hk
      have e3:=List.getElem?_eq_getElem (show k < xs.length by omega)
      refine zbf (o:=.lst ds) (pr _ _ ha) (zbF e1) ?_
      refine zbf (o:=.lst es) (pr _ _ hb) (zbF e2) ?_
      refine⟨⟨xs[k],(f k _ _ e3 e1).pre pr,(f' k _ _ e3 e2).pre pr⟩,fun T pT=>hK _ T (pT _ _ ey) ⟨zbj (fun i o e=>pT _ _ (pr _ _ e)) (Nat.le_refl _),zbo (pT _ _ ey),?_⟩⟩
      rw[z,List.range_succ,List.map_append]
      rfl
     ·refine zco (bs:=(List.range ((es.length:Nat):Int).toNat).map fun _=>true) ey (by rw[z]; exact zck _) ?_
      rw[zb3]
      exact h _ pr
  ·exact h.elim⟩)
def zhx  (zd1:Df K mg "_law_cell_at" zcC zdI)(zar:mg "len"=none):Fk P w K mg base 1 "_law_cell_at" zdI zdl:=
 zd1.mk' (zbn (k:=0) zd1.F ziN (zhr) fun cdv A outer s H E hr=>⟨_,(zaj (zaI (za2 do_lt (dv 1) (zaV zbd rfl zar Boot.«len» (zaa (dv 0) zab)) (zaC _)) (zak (zan (zbr (dv 0) (dv 1) (fun _ _=>rfl)))) zaJ) (zak (zan zaf))),fun ds S Q ex h=>by
  unfold zdl at h
  split at h
  ·rename_i n k
   obtain⟨ns,h1,h2,h3⟩:=h
   simp only[zay,dSeq,zfl,dRet,dRetN,dIf,zd6,zer,dC,dOp,dUn,wI,wI0,wIf,ze3,dNot,dAnd,dOr,zfR,dOrV,zgq,dIfE,zhi,dNil,zfS,dTup,dLst,wIx,zev,zdU,zgE,wAbs,wBest,zcS,wEq,wNe,wIsN,wNotN,wNeg,zcZ,List.map_cons,List.map_nil,List.length_cons,List.length_nil,List.cons_append,List.nil_append,Nat.reduceAdd,Nat.reduceSub,List.replicate,List.getElem?_cons_zero,List.getElem?_cons_succ,List.set_cons_zero,List.set_cons_succ,ite_true,ite_false,if_true,if_false,Nat.reduceLeDiff,eq_self,p40,p41,p20,zdR,powB,Int.reduceLT,Int.reduceLE,Int.reduceNeg,decide_true,Bool.and_self,Bool.and_true,Bool.true_and,L3.eq1,L3.eq2,L3.eqT,L3.eqF,L3.eqL]
   have hA:lAt S n=some (.frz (ns.map D.int)):=zaR h1 rfl
   simp only[hA,zae,List.length_map]
   refine ite2 (fun c=>?_) (fun c=>?_)
   ·have c':k < (ns.length:Int):=of_decide_eq_true c
    have hk:k.toNat < ns.length:=(by omega)
    have e:atI (ns.map D.int) k=some (.int ns[k.toNat]):=by
     have z:=zbF (xs:=ns.map D.int) (j:=k.toNat) (v:=.int ns[k.toNat]) (by simp[hk])
     rw[show ((k.toNat:Nat):Int)=k by omega] at z
     exact z
    simp only[e]
    rw[List.getD_eq_getElem?_getD,List.getElem?_eq_getElem hk] at h3
    exact h3
   ·have c':¬ k < (ns.length:Int):=fun z=>c (decide_eq_true z)
    rw[List.getD_eq_getElem?_getD,List.getElem?_eq_none (by omega)] at h3
    exact h3
  ·exact h.elim⟩)
def zi6  (zeE:Df K mg "counts" zb4 zdj):Fk P w K mg base 1 "counts" zdj zdz:=
 zeE.mk' (zbn (k:=0) zeE.F zgI (zi4) fun cdv A outer s H E hr=>⟨_,(zaj (zif (x:="entry") (N:=[]) (caps:=[]) (ar:=zah zb4) rfl rfl csc rfl (by decide) (i:=1) zgI.nd rfl rfl (dv 0) (fun _ _ _ _ _ _=>zb5) (fun _ _ _ _ _ _=>(za9 (zbr (dv 0) zaf (fun _ _=>rfl)) zaf (fun _ _=>rfl)))) (zak (zan (zbi (zaa (zdK hr (dv 1) (zaa zbb zab)) (zaa (zdK hr (dv 1) (zaa zbb zab)) (zaa (zdK hr (dv 1) (zaa zbb zab)) (zaa (zdK hr (dv 1) (zaa zbb zab)) (zaa (zdK hr (dv 1) (zaa zbb zab)) zab))))))))),fun ds S Q ex h=>by
  unfold zdz at h
  split at h
  ·rename_i b
   obtain⟨cs,z,lo,ds,hb,ents,l6,h⟩:=h
   have ld:=ents.1
   refine zii (n:=b) (S1:=S) (o:=.lst ds) wOf (fun K hK=>by exact hK) hb (by show ds.length≤1000; omega) (fun x hx S2 K pr hK=>?_) ?_
   ·obtain⟨k,hk,rfl⟩:=List.mem_iff_getElem.mp (show x∈ds from hx)
    obtain⟨c,hc,a,f,e,_,_,_,zaz,ef⟩:=ents.at (List.getElem?_eq_getElem hk)
    rw[e,ef] at hK ⊢
    refine zbE (k:=0) rfl ?_
    exact hK
   ·have e2:(zae (.lst ds)).map wOf=(cs.map zaN).map D.str:=zjK ents
    rw[e2]
    have H:=zat S (.lst ((cs.map zaN).map D.str))
    refine zdr (n:=S.length) (w:="one") (fun K hK=>by exact hK) H (fun K hK=>by exact hK) ?_
    refine zdr (n:=S.length) (w:="full") (fun K hK=>by exact hK) H (fun K hK=>by exact hK) ?_
    refine zdr (n:=S.length) (w:="small") (fun K hK=>by exact hK) H (fun K hK=>by exact hK) ?_
    refine zdr (n:=S.length) (w:="waits") (fun K hK=>by exact hK) H (fun K hK=>by exact hK) ?_
    refine zdr (n:=S.length) (w:="out") (fun K hK=>by exact hK) H (fun K hK=>by exact hK) ?_
    rw[zdu,zdu,zdu,zdu,zdu]
    exact h _ (zaL Pre.refl _)
  ·exact h.elim⟩)
def zj6  (zec:Df K mg "law" zbL zed)(zcP:Fk P w K mg base 6 "_law_alike" za7 zdE)(zd4:Fk P w K mg base 1 "counts" zdj zdz)(zd5:Fk P w K mg base 1 "told" zdP zdH)(ze7:Fk P w K mg base 1 "_law_due" zdy zdC)(zew:Fk P w K mg base 4 "_law_book" zdw zdp)(zeZ:Fk P w K mg base 1 "_law_cell_at" zdI zdl):Fk P w K mg base 7 "law" zed zcR:=
 zec.mk' (zbn (k:=6) zec.F zcr zjr fun cdv A outer s H E hr=>⟨_,(zaj (zbk (i:=1) zcr.nd rfl (Or.inl rfl) (zaD zb7 zaf (zaD zcc (zaG zeZ hr (zaa (dv 0) (zaa zaf zab))) zaf))) (zaj (zbk (i:=2) zcr.nd rfl (Or.inl rfl) (zfL (dv 0) (zeS zaf) (zeS zaf))) (zaj (zbk (i:=3) zcr.nd rfl (Or.inl rfl) (zaG zew hr (zaa (dv 2) (zaa (dv 1) zab)))) (zaj (zbk (i:=4) zcr.nd rfl (Or.inl rfl) (zaG zew hr (zaa (dv 2) (zaa (dv 1) zab)))) (zaj (zbk (i:=5) zcr.nd rfl (Or.inl rfl) (zaG ze7 hr (zaa (dv 3) zab))) (zaj (zbk (i:=6) zcr.nd rfl (Or.inl rfl) (zaG zd5 hr (zaa (dv 4) zab))) (zaj (zaI (PDW.pt (zbN (zfv (zbc (zaG zcP hr (zaa (zaG zd4 hr (zaa (dv 4) zab)) (zaa (zbr (dv 5) zaf (fun _ _=>rfl)) zab))))) (zbT (zfv (zbc (zaG zcP hr (zaa (dv 6) (zaa (zbr (dv 5) zaf (fun _ _=>rfl)) zab)))))))) (zak (zan zbP)) zaJ) (zaj (ziG (i:=7) PassesOwn.never rfl zcr.nd rfl (Or.inl rfl) (dv 6) (zaj (zfz (zbr (dv 7) zaf (fun _ _=>rfl)) zaf (zbi (zaa zaf (zaa zaf zab)))) (zak (zeW (ze4 (zbr (dv 7) zaf (fun _ _=>rfl)) (zbi (zaa zaf (zaa zaf zab)))))))) (zaj (zeW (ze4 (dv 6) (zbi (zaa zaf (zaa zbb (zaa (zcd zab) zab)))))) (zak (zan (zbx (zbR (zjM hr) (dv 4) (dv 3) (zaC _)) (zbx (zaG zcP hr (zaa (zaG zd5 hr (zaa (dv 4) zab)) (zaa (zbr (dv 5) zaf (fun _ _=>rfl)) zab))) (zbI (zaG zcP hr (zaa (zaG zd4 hr (zaa (dv 4) zab)) (zaa (zbr (dv 5) zaf (fun _ _=>rfl)) zab))))))))))))))))),fun ds S Q ex h=>by
  obtain⟨ns,rfl,rfl,hl,h⟩:=h
  refine zeU (fun dl2 S2=>S2=[Ob.frz (ns.map D.int)]∧∃z:Nat,1≤z∧z≤4∧dl2=[some (.ref 0),some (.int (z:Nat)),none,none,none,none,none,none]) (fun nx hn=>?_) ?_
  ·refine⟨ns,rfl,by decide,?_⟩
   refine hn _ _ ⟨rfl,(1 + ns.getD (0:Int).toNat 0 % 4).toNat,by omega,by omega,?_⟩
   rw[show (((1 + ns.getD (0:Int).toNat 0 % 4).toNat:Nat):Int)=1 + ns.getD (0:Int).toNat 0 % 4 by omega]
   rfl
  rintro dl2 S2 ⟨rfl,z,z1,z4,rfl⟩
  obtain⟨cs,ecs,l6⟩:=zic ns
  refine zfU (n:=0) (o:=.frz (ns.map D.int)) (lo:=some 1) (hi:=some 41) (S3:=[Ob.frz (ns.map D.int)]) (fun K hK=>by exact hK) (fun K hK=>by exact hK) (fun K hK=>by exact hK) rfl ?_
  rw[show zae (Ob.frz (ns.map D.int))=ns.map D.int from rfl,ecs]
  have hc0:=zat [Ob.frz (ns.map D.int)] (.lst (cs.map D.int))
  refine⟨cs,z,hc0,rfl,z4,l6,fun T1 b1 ds1 p1 lb1 hb1 en1=>?_⟩
  refine⟨cs,z,p1 _ _ hc0,rfl,z4,l6,fun T2 b2 ds2 p2 lb2 hb2 en2=>?_⟩
  have hb1:=p2 _ _ hb1
  have en1:=en1.pre p2
  refine⟨cs,z,_,ds1,hb1,en1,l6,fun T3 es p3 he te=>?_⟩
  have hb1:=p3 _ _ hb1
  have en1:=en1.pre p3
  have hb2:=p3 _ _ hb2
  have en2:=en2.pre p3
  refine⟨cs,z,_,ds2,hb2,en2,l6,fun T4 es2 p4 he2 te2=>?_⟩
  have lL:(zaS cs cs.length).length≤900:=by have:=zdD cs cs.length; omega
  have due:∀ {U:Sto},Pre T3 U→Den U 0 4 (.l ((zaS cs cs.length).map (zgs z))) (.ref T2.length):=fun {U} p=>(te.keep fun x o _ e=>p _ _ e).low0.den (show z≤900 by omega) lL (Nat.zero_le _) (p _ _ he)
  have hb2':=p4 _ _ hb2
  have en2':=en2.pre p4
  have p34:Pre T3 T4:=p4
  dsimp only[zay]
  refine zeU (fun dl2 S2=>Pre T4 S2∧dl2=[some (.ref 0),some (.int (z:Nat)),some (.ref 1),some (.ref b1),some (.ref b2),some (.tup [.ref T2.length,.tup (zbu fun i=>zap cs (w5 i))]),some (.ref T3.length),none]) (fun nx hn=>?_) ?_
  ·refine⟨cs,z,_,ds2,hb2',en2',l6,fun T5 p5=>?_⟩
   refine⟨⟨_,zeD 3 (fun i=>zap cs (w5 i)),zeD 3 (fun i=>zap cs (w5 i))⟩,fun T6 p6=>?_⟩
   have p46:Pre T4 T6:=fun x o e=>p6 _ _ (p5 _ _ e)
   refine zai ?_
   refine⟨⟨_,(te2.keep fun x o _ e=>p46 _ _ e).low0.den (show z≤900 by omega) lL (Nat.zero_le _) (p46 _ _ he2),due fun x o e=>p46 _ _ (p4 _ _ e)⟩,fun T7 p7=>?_⟩
   refine zai ?_
   exact hn _ _ ⟨fun x o e=>p7 _ _ (p46 _ _ e),rfl⟩
  rintro dl2 S2 ⟨p7,rfl⟩
  have he7:=p7 _ _ he2
  have te7:=te2.keep (T:=S2) fun x o _ e=>p7 _ _ e
  have p37:Pre T3 S2:=fun x o e=>p7 _ _ (p4 _ _ e)
  clear p7 he2 te2 p4 hb2' en2' p34
  have e2l:(zae (Ob.lst es2)).length=(zaS cs cs.length).length:=te7.1
  have t6:=zdD cs cs.length
  refine zja (n:=T3.length) (o:=.lst es2) (fun k dl' S'=>Pre T3 S'∧S'[T3.length]?=some (.lst es2)∧(∀(i:Nat) (d:D),es2[i]?=some d→∃(x w:D) (a:Nat) (xs:List D),d=.tup [x,w,.ref a]∧T3.length + 1≤a∧S'[a]?=some (.lst xs)∧1≤xs.length∧xs.length≤10 + k)∧∃u:Option D,dl'=[some (.ref 0),some (.int (z:Nat)),some (.ref 1),some (.ref b1),some (.ref b2),some (.tup [.ref T2.length,.tup (zbu fun i=>zap cs (w5 i))]),some (.ref T3.length),u]) ⟨p37,he7,fun i d hd=>?_,_,rfl⟩ (fun k dl' S' ⟨_,e,_⟩=>e) ?_ ?_
  ·have hi:=(List.getElem?_eq_some_iff.mp hd).1
   have hL:=List.getElem?_eq_getElem (show i < (zaS cs cs.length).length by rw[← te7.1]; exact hi)
   obtain⟨a,ed,la,ha⟩:=te7.2 i d _ hd hL
   exact⟨_,_,a,_,ed,la,ha,by rw[List.length_map,zdn]; exact z1,by rw[List.length_map,zdn]; omega⟩
  ·rintro k x dl' S' nx ct ex' ⟨p,e,hy,u,rfl⟩ hn
   have hx:es2[k]?=some x:=ex'
   have hk:k < 60:=by
    have:=(List.getElem?_eq_some_iff.mp hx).1
    have e2l':es2.length=(zaS cs cs.length).length:=e2l
    omega
   obtain⟨x0,w0,a,xs,rfl,la,ha,x1,x2⟩:=hy k x hx
   refine zfx (n:=a) (j:=0) (k:=0) (xs:=xs) (v:=frD (5,6)) (fun K hK=>by exact hK) (fun K hK=>by exact hK) (fun K hK=>by exact hK) ha (zgF ⟨by decide,by omega⟩) ?_
   refine zhW (n:=a) (S1:=S'.set a (.lst (xs.set 0 (frD (5,6))))) (xs:=xs.set 0 (frD (5,6))) (y:=frD (1,2)) (fun K hK=>by exact hK) (zbo ha) (fun K hK=>by exact hK) (by rw[List.length_set]; omega) ?_
   refine hn _ _ ⟨zbj (zbj p (by omega)) (by omega),zbs (zbs e (by omega)) (by omega),fun i d hd=>?_,_,rfl⟩
   obtain⟨y0,v0,a',ys,rfl,la',ha',y1,y2⟩:=hy i d hd
   by_cases ea:a'=a
   ·subst ea
    exact⟨_,_,a',_,rfl,la',zbo (zbo ha),by rw[List.length_append]; simp,by rw[List.length_append,List.length_set]; show xs.length + 1≤_; omega⟩
   ·exact⟨_,_,a',ys,rfl,la',zbs (zbs ha' (Ne.symm ea)) (Ne.symm ea),y1,by omega⟩
  ·rintro dl' S' ⟨p,e,_,u,rfl⟩
   have le2:es2.length < 1000:=by
    have e2l':es2.length=(zaS cs cs.length).length:=e2l
    omega
   refine zgN (n:=T3.length) (xs:=es2) (fun K hK=>by exact hK) e (fun K hK=>hK _ _ (zaq e) ?_) le2
   have pU:=zbj (o:=.lst (es2++[.tup [.int 0,.str "one",.ref S'.length]])) (zaL p [Ob.lst []]) (Nat.le_refl T3.length)
   generalize (S'++[Ob.lst []]).set T3.length (.lst (es2++[.tup [.int 0,.str "one",.ref S'.length]]))=U at pU ⊢
   have en1':=en1.pre pU
   have en2':=en2.pre pU
   refine⟨⟨ds2,ds1,pU _ _ hb2,pU _ _ hb1,by rw[en1.1,en2.1],zjZ en2' en1' (by omega)⟩,?_⟩
   refine⟨cs,z,_,ds2,pU _ _ hb2,en2',l6,fun T8 es3 p8 he3 te3=>?_⟩
   have p38:Pre T3 T8:=fun x o e=>p8 _ _ (pU _ _ e)
   refine⟨⟨_,te3.low0.den (show z≤900 by omega) lL (Nat.zero_le _) he3,due p38⟩,fun T9 p9=>?_⟩
   have p39:Pre T3 T9:=fun x o e=>p9 _ _ (p38 _ _ e)
   refine⟨cs,z,_,ds2,p39 _ _ hb2,en2.pre p39,l6,fun T10 p10=>?_⟩
   exact⟨⟨_,zeD 3 (fun i=>zap cs (w5 i)),zeD 3 (fun i=>zap cs (w5 i))⟩,fun T11 p11=>h _⟩⟩)
end
theorem zjJ {l:PySem.W.OpenLaw}{w:World}{K:PySem.W.Frag}{h:Heap}{mg:Str→Option Value}{fa:Addr}(X:K.In h)(G:h.Ns mainGlobals mg)(hfa:mg "law"=some (.ref fa))
  {f0:Addr}{od0 an0:Option Addr}{sl0:Array (Option Value)}{oc0 kV0 dc0 pm0 cd0 ct0:Value}
  (a0:PySem.W.nsIn K mainGlobals "_law_mix"=some (some (.ref f0)))(l0:K.lookup f0=some ⟨oc0,od0,.func (PySem.W.fnOf "_law_mix" "_law_mix" (zaF zcp) (zaE zcp) (zah zcp) .none kV0 dc0 pm0 an0 cd0 ct0),sl0⟩)(c0:PySem.W.codeIn K cd0 "_law_mix"=true)(k0:PySem.W.keepIn K (.ref f0)=true)
  {f1:Addr}{od1 an1:Option Addr}{sl1:Array (Option Value)}{oc1 kV1 dc1 pm1 cd1 ct1:Value}
  (a1:PySem.W.nsIn K mainGlobals "_law_span"=some (some (.ref f1)))(l1:K.lookup f1=some ⟨oc1,od1,.func (PySem.W.fnOf "_law_span" "_law_span" (zaF zcm) (zaE zcm) (zah zcm) .none kV1 dc1 pm1 an1 cd1 ct1),sl1⟩)(c1:PySem.W.codeIn K cd1 "_law_span"=true)(k1:PySem.W.keepIn K (.ref f1)=true)
  {f2:Addr}{od2 an2:Option Addr}{sl2:Array (Option Value)}{oc2 kV2 dc2 pm2 cd2 ct2:Value}
  (a2:PySem.W.nsIn K mainGlobals "_law_fate"=some (some (.ref f2)))(l2:K.lookup f2=some ⟨oc2,od2,.func (PySem.W.fnOf "_law_fate" "_law_fate" (zaF zb6) (zaE zb6) (zah zb6) .none kV2 dc2 pm2 an2 cd2 ct2),sl2⟩)(c2:PySem.W.codeIn K cd2 "_law_fate"=true)(k2:PySem.W.keepIn K (.ref f2)=true)
  {f3:Addr}{od3 an3:Option Addr}{sl3:Array (Option Value)}{oc3 kV3 dc3 pm3 cd3 ct3:Value}
  (a3:PySem.W.nsIn K mainGlobals "_law_book"=some (some (.ref f3)))(l3:K.lookup f3=some ⟨oc3,od3,.func (PySem.W.fnOf "_law_book" "_law_book" (zaF zbZ) (zaE zbZ) (zah zbZ) .none kV3 dc3 pm3 an3 cd3 ct3),sl3⟩)(c3:PySem.W.codeIn K cd3 "_law_book"=true)(k3:PySem.W.keepIn K (.ref f3)=true)
  {f4:Addr}{od4 an4:Option Addr}{sl4:Array (Option Value)}{oc4 kV4 dc4 pm4 cd4 ct4:Value}
  (a4:PySem.W.nsIn K mainGlobals "_law_due"=some (some (.ref f4)))(l4:K.lookup f4=some ⟨oc4,od4,.func (PySem.W.fnOf "_law_due" "_law_due" (zaF zcw) (zaE zcw) (zah zcw) .none kV4 dc4 pm4 an4 cd4 ct4),sl4⟩)(c4:PySem.W.codeIn K cd4 "_law_due"=true)(k4:PySem.W.keepIn K (.ref f4)=true)
  {f5:Addr}{od5 an5:Option Addr}{sl5:Array (Option Value)}{oc5 kV5 dc5 pm5 cd5 ct5:Value}
  (a5:PySem.W.nsIn K mainGlobals "told"=some (some (.ref f5)))(l5:K.lookup f5=some ⟨oc5,od5,.func (PySem.W.fnOf "told" "told" (zaF zcg) (zaE zcg) (zah zcg) .none kV5 dc5 pm5 an5 cd5 ct5),sl5⟩)(c5:PySem.W.codeIn K cd5 "told"=true)(k5:PySem.W.keepIn K (.ref f5)=true)
  {f6:Addr}{od6 an6:Option Addr}{sl6:Array (Option Value)}{oc6 kV6 dc6 pm6 cd6 ct6:Value}
  (a6:PySem.W.nsIn K mainGlobals "_law_whole"=some (some (.ref f6)))(l6:K.lookup f6=some ⟨oc6,od6,.func (PySem.W.fnOf "_law_whole" "_law_whole" (zaF zcE) (zaE zcE) (zah zcE) .none kV6 dc6 pm6 an6 cd6 ct6),sl6⟩)(c6:PySem.W.codeIn K cd6 "_law_whole"=true)(k6:PySem.W.keepIn K (.ref f6)=true)
  {f7:Addr}{od7 an7:Option Addr}{sl7:Array (Option Value)}{oc7 kV7 dc7 pm7 cd7 ct7:Value}
  (a7:PySem.W.nsIn K mainGlobals "_law_alike"=some (some (.ref f7)))(l7:K.lookup f7=some ⟨oc7,od7,.func (PySem.W.fnOf "_law_alike" "_law_alike" (zaF zba) (zaE zba) (zah zba) .none kV7 dc7 pm7 an7 cd7 ct7),sl7⟩)(c7:PySem.W.codeIn K cd7 "_law_alike"=true)(k7:PySem.W.keepIn K (.ref f7)=true)
  {f8:Addr}{od8 an8:Option Addr}{sl8:Array (Option Value)}{oc8 kV8 dc8 pm8 cd8 ct8:Value}
  (a8:PySem.W.nsIn K mainGlobals "_law_cell_at"=some (some (.ref f8)))(l8:K.lookup f8=some ⟨oc8,od8,.func (PySem.W.fnOf "_law_cell_at" "_law_cell_at" (zaF zcC) (zaE zcC) (zah zcC) .none kV8 dc8 pm8 an8 cd8 ct8),sl8⟩)(c8:PySem.W.codeIn K cd8 "_law_cell_at"=true)(k8:PySem.W.keepIn K (.ref f8)=true)
  {f9:Addr}{od9 an9:Option Addr}{sl9:Array (Option Value)}{oc9 kV9 dc9 pm9 cd9 ct9:Value}
  (a9:PySem.W.nsIn K mainGlobals "counts"=some (some (.ref f9)))(l9:K.lookup f9=some ⟨oc9,od9,.func (PySem.W.fnOf "counts" "counts" (zaF zb4) (zaE zb4) (zah zb4) .none kV9 dc9 pm9 an9 cd9 ct9),sl9⟩)(c9:PySem.W.codeIn K cd9 "counts"=true)(k9:PySem.W.keepIn K (.ref f9)=true)
  {f10:Addr}{od10 an10:Option Addr}{sl10:Array (Option Value)}{oc10 kV10 dc10 pm10 cd10 ct10:Value}
  (a10:PySem.W.nsIn K mainGlobals "law"=some (some (.ref f10)))(l10:K.lookup f10=some ⟨oc10,od10,.func (PySem.W.fnOf "law" "law" (zaF zbL) (zaE zbL) (zah zbL) .none kV10 dc10 pm10 an10 cd10 ct10),sl10⟩)(c10:PySem.W.codeIn K cd10 "law"=true)(k10:PySem.W.keepIn K (.ref f10)=true)
  {ga_TOLD_WORDS:Addr}{gn_TOLD_WORDS:Nat}{go_TOLD_WORDS:Option Addr}{gs_TOLD_WORDS:Array (Option Value)}{w0_TOLD_WORDS w1_TOLD_WORDS w2_TOLD_WORDS w3_TOLD_WORDS:Tok}(g_TOLD_WORDS:PySem.W.nsIn K mainGlobals "TOLD_WORDS"=some (some (.ref ga_TOLD_WORDS)))(gl_TOLD_WORDS:K.lookup ga_TOLD_WORDS=some ⟨.type "tuple",go_TOLD_WORDS,.seq #[.str "full" w0_TOLD_WORDS,.str "one" w1_TOLD_WORDS,.str "small" w2_TOLD_WORDS,.str "waits" w3_TOLD_WORDS] gn_TOLD_WORDS,gs_TOLD_WORDS⟩)
  (zaB:PySem.W.nsIn K mainGlobals "range"=some none)
  (zas:PySem.W.nsIn K mainGlobals "tuple"=some none)
  (zbJ:PySem.W.nsIn K mainGlobals "enumerate"=some none)
  (zao:PySem.W.nsIn K mainGlobals "list"=some none)
  (zag:PySem.W.nsIn K mainGlobals "isinstance"=some none)
  (zcs:PySem.W.nsIn K mainGlobals "bool"=some none)
  (zaP:PySem.W.nsIn K mainGlobals "int"=some none)
  (zaY:PySem.W.nsIn K mainGlobals "str"=some none)
  (za0:PySem.W.nsIn K mainGlobals "all"=some none)
  (zar:PySem.W.nsIn K mainGlobals "len"=some none)
  (zcT:Kit K "bool")
  (zda:Kit K "int")
  :∃fd:FuncData,(∀(s:Shared) (v:Value),BindsTo s fd ⟨[v],[]⟩ [("_law_script",v)])∧∀base:Heap,K.In base→base.Ns mainGlobals mg→zaX l.prog w K mg base (CXE l.prog w) 7 fa fd ["_law_script"] (upF K zcR):=by
 have e:=hfa.symm.trans (PySem.W.mg_of X G a10)
 cases e
 let zeI:Df K mg "_law_mix" zcp zc3:=⟨_,_,zaQ (st:=zcp) l0 c0 k0,PySem.W.mg_of X G a0,(zaQ (st:=zcp) l0 c0 k0).binds fun _ _ _ _ _ _ us hl=>match us,hl with | [_,_],_=>rfl⟩
 let zeC:Df K mg "_law_span" zcm zc4:=⟨_,_,zaQ (st:=zcm) l1 c1 k1,PySem.W.mg_of X G a1,(zaQ (st:=zcm) l1 c1 k1).binds fun _ _ _ _ _ _ us hl=>match us,hl with | [_,_],_=>rfl⟩
 let zeb:Df K mg "_law_fate" zb6 zdJ:=⟨_,_,zaQ (st:=zb6) l2 c2 k2,PySem.W.mg_of X G a2,(zaQ (st:=zb6) l2 c2 k2).binds fun _ _ _ _ _ _ us hl=>match us,hl with | [_],_=>rfl⟩
 let zdW:Df K mg "_law_book" zbZ zdw:=⟨_,_,zaQ (st:=zbZ) l3 c3 k3,PySem.W.mg_of X G a3,(zaQ (st:=zbZ) l3 c3 k3).binds fun _ _ _ _ _ _ us hl=>match us,hl with | [_,_],_=>rfl⟩
 let zez:Df K mg "_law_due" zcw zdy:=⟨_,_,zaQ (st:=zcw) l4 c4 k4,PySem.W.mg_of X G a4,(zaQ (st:=zcw) l4 c4 k4).binds fun _ _ _ _ _ _ us hl=>match us,hl with | [_],_=>rfl⟩
 let zd2:Df K mg "told" zcg zdP:=⟨_,_,zaQ (st:=zcg) l5 c5 k5,PySem.W.mg_of X G a5,(zaQ (st:=zcg) l5 c5 k5).binds fun _ _ _ _ _ _ us hl=>match us,hl with | [_],_=>rfl⟩
 let zex:Df K mg "_law_whole" zcE zb9:=⟨_,_,zaQ (st:=zcE) l6 c6 k6,PySem.W.mg_of X G a6,(zaQ (st:=zcE) l6 c6 k6).binds fun _ _ _ _ _ _ us hl=>match us,hl with | [_],_=>rfl⟩
 let zaT:Df K mg "_law_alike" zba za7:=⟨_,_,zaQ (st:=zba) l7 c7 k7,PySem.W.mg_of X G a7,(zaQ (st:=zba) l7 c7 k7).binds fun _ _ _ _ _ _ us hl=>match us,hl with | [_,_],_=>rfl⟩
 let zd1:Df K mg "_law_cell_at" zcC zdI:=⟨_,_,zaQ (st:=zcC) l8 c8 k8,PySem.W.mg_of X G a8,(zaQ (st:=zcC) l8 c8 k8).binds fun _ _ _ _ _ _ us hl=>match us,hl with | [_,_],_=>rfl⟩
 let zeE:Df K mg "counts" zb4 zdj:=⟨_,_,zaQ (st:=zb4) l9 c9 k9,PySem.W.mg_of X G a9,(zaQ (st:=zb4) l9 c9 k9).binds fun _ _ _ _ _ _ us hl=>match us,hl with | [_],_=>rfl⟩
 let zec:Df K mg "law" zbL zed:=⟨_,_,zaQ (st:=zbL) l10 c10 k10,PySem.W.mg_of X G a10,(zaQ (st:=zbL) l10 c10 k10).binds fun _ _ _ _ _ _ us hl=>match us,hl with | [_],_=>rfl⟩
 have zaB:=PySem.W.mg_none_of X G zaB
 have zas:=PySem.W.mg_none_of X G zas
 have zbJ:=PySem.W.mg_none_of X G zbJ
 have zao:=PySem.W.mg_none_of X G zao
 have zag:=PySem.W.mg_none_of X G zag
 have zcs:=PySem.W.mg_none_of X G zcs
 have zaP:=PySem.W.mg_none_of X G zaP
 have zaY:=PySem.W.mg_none_of X G zaY
 have za0:=PySem.W.mg_none_of X G za0
 have zar:=PySem.W.mg_none_of X G zar
 have g_TOLD_WORDS:GT K mg "TOLD_WORDS" ["full","one","small","waits"]:=⟨ga_TOLD_WORDS,_,_,_,PySem.W.mg_of X G g_TOLD_WORDS,gl_TOLD_WORDS,rfl,rfl,(show 4≤sizeLine from zdQ (by decide)),(.cons ⟨_,rfl⟩ (.cons ⟨_,rfl⟩ (.cons ⟨_,rfl⟩ (.cons ⟨_,rfl⟩ .nil))))⟩
 refine⟨PySem.W.fnOf "law" "law" (zaF zbL) (zaE zbL) (zah zbL) .none kV10 dc10 pm10 an10 cd10 ct10,fun s v=>.of_eq rfl,fun base _ _=>?_⟩
 let zbV:=ziw (P:=l.prog) (w:=w) (base:=base) zeI
 let zc5:=zjP (P:=l.prog) (w:=w) (base:=base) zeC zbV
 let zeR:=zjT (P:=l.prog) (w:=w) (base:=base) zeb zbV zc5 zaB
 let zew:=zhs (P:=l.prog) (w:=w) (base:=base) zdW zeR zc5 zaB
 let ze7:=ziC (P:=l.prog) (w:=w) (base:=base) zez zas zbJ zaB zao
 let zd5:=ziy (P:=l.prog) (w:=w) (base:=base) zd2 g_TOLD_WORDS zbJ zao
 let zbm:=zjq (P:=l.prog) (w:=w) (base:=base) zex zag zcs zaP zcT zda
 let N_law_alike:=Df.never (P:=l.prog) (w:=w) (base:=base) 0 zaT
 let zhf:=zhD (P:=l.prog) (w:=w) (base:=base) zaT zbm zag zaY zaP zas zao za0 zaB zar N_law_alike
 let ziM:=zjS (P:=l.prog) (w:=w) (base:=base) zaT zbm zag zaY zaP zas zao za0 zaB zar zhf
 let zhH:=zjO (P:=l.prog) (w:=w) (base:=base) zaT zbm zag zaY zaP zas zao za0 zaB zar ziM
 let zjw:=zjo (P:=l.prog) (w:=w) (base:=base) zaT zbm zag zaY zaP zas zao za0 zaB zar zhH
 let zcP:=ziR (P:=l.prog) (w:=w) (base:=base) zaT zbm zag zaY zaP zas zao za0 zaB zar zjw
 let zeZ:=zhx (P:=l.prog) (w:=w) (base:=base) zd1 zar
 let zd4:=zi6 (P:=l.prog) (w:=w) (base:=base) zeE
 let G_law:=zj6 (P:=l.prog) (w:=w) (base:=base) zec zcP zd4 zd5 ze7 zew zeZ
 exact G_law.ok
end Mine
open PySem PySem.W PyProof.Rows
set_option maxRecDepth 100003 in
set_option maxHeartbeats 0 in

theorem PySem.Challenge.cw_boxnarrow_k71_told_and_counts_holds : PySem.Challenge.rw_boxnarrow_k71_told_and_counts.Holds := by
 w_on; o_law
 refine PySem.W.holds_open (q:=Mine.vw) (loose:=[]) (Xt:=Mine.xt) (XP:=XL Mine.vw []) (Yf:=Hook.obs (kHook Mine.kp Mine.ks Mine.zc2)) (Ya:=Hook.val (kHook Mine.kp Mine.ks Mine.zc2))
  (YP:=Hook.says (kHook Mine.kp Mine.ks Mine.zc2)) (N:=880) Mine.left (Hook.of (kHook Mine.kp Mine.ks Mine.zc2)) (Hook.keeps (kHook Mine.kp Mine.ks Mine.zc2)) (fun s e=>xl_of s (Bool.and_eq_true_iff.mp e).1) XL.keeps
  (by rfl) (by rfl) (by rfl) (fun s e=>recFacts_of (Bool.and_eq_true_iff.mp e).2) (by rfl) (by first | assumption | decide +kernel)
  (by decide +kernel) ⟨rfl,rfl,rfl,rfl,rfl,by decide +kernel⟩ ?hw ?hc
 (case hw=>w_witness2)
 k_fill
 refine L3.zhy (l:=PySem.Challenge.rw_boxnarrow_k71_told_and_counts) (x:="_law_script") 7 rfl rfl ⟨rfl,by decide,by decide⟩ (fun w h Y=>PySem.W.kIn_of Y) ?F
 case F=>
  intro w mg fa h KX G hmg
  refine' Mine.zjJ KX G hmg (a0:=?a0) (l0:=?l0) (c0:=?c0) (k0:=?k0) (a1:=?a1) (l1:=?l1) (c1:=?c1) (k1:=?k1) (a2:=?a2) (l2:=?l2) (c2:=?c2) (k2:=?k2) (a3:=?a3) (l3:=?l3) (c3:=?c3) (k3:=?k3) (a4:=?a4) (l4:=?l4) (c4:=?c4) (k4:=?k4) (a5:=?a5) (l5:=?l5) (c5:=?c5) (k5:=?k5) (a6:=?a6) (l6:=?l6) (c6:=?c6) (k6:=?k6) (a7:=?a7) (l7:=?l7) (c7:=?c7) (k7:=?k7) (a8:=?a8) (l8:=?l8) (c8:=?c8) (k8:=?k8) (a9:=?a9) (l9:=?l9) (c9:=?c9) (k9:=?k9) (a10:=?a10) (l10:=?l10) (c10:=?c10) (k10:=?k10) (g_TOLD_WORDS:=?g_TOLD_WORDS) (gl_TOLD_WORDS:=?gl_TOLD_WORDS) (zaB:=?zaB) (zas:=?zas) (zbJ:=?zbJ) (zao:=?zao) (zag:=?zag) (zcs:=?zcs) (zaP:=?zaP) (zaY:=?zaY) (za0:=?za0) (zar:=?zar) (zcT:=?zcT) (zda:=?zda)
  (case a0=>k_is)
  (case l0=>k_is)
  (case c0=>k_is)
  (case k0=>k_is)
  (case a1=>k_is)
  (case l1=>k_is)
  (case c1=>k_is)
  (case k1=>k_is)
  (case a2=>k_is)
  (case l2=>k_is)
  (case c2=>k_is)
  (case k2=>k_is)
  (case a3=>k_is)
  (case l3=>k_is)
  (case c3=>k_is)
  (case k3=>k_is)
  (case a4=>k_is)
  (case l4=>k_is)
  (case c4=>k_is)
  (case k4=>k_is)
  (case a5=>k_is)
  (case l5=>k_is)
  (case c5=>k_is)
  (case k5=>k_is)
  (case a6=>k_is)
  (case l6=>k_is)
  (case c6=>k_is)
  (case k6=>k_is)
  (case a7=>k_is)
  (case l7=>k_is)
  (case c7=>k_is)
  (case k7=>k_is)
  (case a8=>k_is)
  (case l8=>k_is)
  (case c8=>k_is)
  (case k8=>k_is)
  (case a9=>k_is)
  (case l9=>k_is)
  (case c9=>k_is)
  (case k9=>k_is)
  (case a10=>k_is)
  (case l10=>k_is)
  (case c10=>k_is)
  (case k10=>k_is)
  (case g_TOLD_WORDS=>k_is)
  (case gl_TOLD_WORDS=>k_is)
  (case zaB=>k_is)
  (case zas=>k_is)
  (case zbJ=>k_is)
  (case zao=>k_is)
  (case zag=>k_is)
  (case zcs=>k_is)
  (case zaP=>k_is)
  (case zaY=>k_is)
  (case za0=>k_is)
  (case zar=>k_is)
  (case zcT=>exact L3.zg6 _ _ (by simp))
  (case zda=>exact L3.zg6 _ _ (by simp))

