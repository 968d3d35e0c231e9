import PyProof.Rows.All
import Wide.All
import OpenK.AllK
import Wide.FinOn
import Lean
import PyProof.EqAt
import PyProof.EqKinds
import PyProof.TupleCall
import PySem.Challenge.RW_boxnarrow_k44_step_keeps_answers
set_option Elab.async false
set_option linter.all false
set_option maxRecDepth 100000
namespace L2
open PySem PySem.Spec PyProof.Rows

abbrev Key:=Sum Int Str
def zkq:Key→Value→Bool
 | .inl k,v=>Value.isInt k v
 | .inr x,v=>Value.isStrOf x v
def keyH (w:World):Key→Int
 | .inl k=>hashInt k
 | .inr x=>hashStr w x
theorem zcc:∀ {k:Key} {v:Value},zkq k v=true→(∃i t,k=Sum.inl i∧v=Value.int i t)∨(∃x t,k=Sum.inr x∧v=Value.str x t)
 | .inl i,v,h=>by
  obtain⟨t,e⟩:=Value.isInt_shape (k:=i) (v:=v) h
  exact .inl ⟨i,t,rfl,e⟩
 | .inr x,v,h=>by
  obtain⟨t,e⟩:=Value.isStrOf_shape (x:=x) (v:=v) h
  exact .inr ⟨x,t,rfl,e⟩
theorem zlO (a b:Int):decide ((Sum.inl a:Key)=Sum.inl b)=(a == b):=by
 by_cases e:a=b
 ·subst e; simp
 ·have h:¬ (Sum.inl a:Key)=Sum.inl b:=fun q=>e (Sum.inl.inj q)
  rw[decide_eq_false h]
  exact(beq_eq_false_iff_ne.mpr e).symm
theorem zqD (a b:Str):decide ((Sum.inr a:Key)=Sum.inr b)=decide (a=b):=by
 by_cases e:a=b
 ·subst e; simp
 ·have h:¬ (Sum.inr a:Key)=Sum.inr b:=fun q=>e (Sum.inr.inj q)
  rw[decide_eq_false h,decide_eq_false e]
theorem zpV (a:Int)(b:Str):decide ((Sum.inl a:Key)=Sum.inr b)=false:=decide_eq_false (fun q=>nomatch q)
theorem zoN (a:Str)(b:Int):decide ((Sum.inr a:Key)=Sum.inl b)=false:=decide_eq_false (fun q=>nomatch q)

def zkc (prog:Program)(w:World):PySem.KeyKind prog w Key where
 is:=zkq
 hash:=keyH w
 inj:=fun v a b ha hb=>by
  rcases zcc ha with ⟨i,t,rfl,rfl⟩ | ⟨x,t,rfl,rfl⟩
  ·rcases zcc hb with ⟨j,u,rfl,e⟩ | ⟨y,u,rfl,e⟩
   ·injection e with e1 _; rw[e1]
   ·exact nomatch e
  ·rcases zcc hb with ⟨j,u,rfl,e⟩ | ⟨y,u,rfl,e⟩
   ·exact nomatch e
   ·injection e with e1 _; rw[e1]
 byValue:=fun k v h=>by
  rcases zcc h with ⟨i,t,rfl,rfl⟩ | ⟨x,t,rfl,rfl⟩ <;> rfl
 pyHash:=fun hv h=>by
  rcases zcc hv with ⟨i,t,rfl,rfl⟩ | ⟨x,t,rfl,rfl⟩
  ·exact wpAny_pyHash_int h
  ·exact wpAny_pyHash_str h
 eqBool:=fun hu hv h=>by
  rcases zcc hu with ⟨i,t,rfl,rfl⟩ | ⟨x,t,rfl,rfl⟩
  ·rcases zcc hv with ⟨j,u,rfl,rfl⟩ | ⟨y,u,rfl,rfl⟩
   ·rw[zlO] at h; exact wpAny_eqBool_int h
   ·rw[zpV] at h; exact SeqAt.EqAt.int_str i t y u _ _ _ _ h
  ·rcases zcc hv with ⟨j,u,rfl,rfl⟩ | ⟨y,u,rfl,rfl⟩
   ·rw[zoN] at h; exact SeqAt.EqAt.str_int x t j u _ _ _ _ h
   ·rw[zqD] at h; exact wpAny_eqBool_str h
 «strs»:=fun k x t v h=>by
  rcases zcc h with ⟨i,u,rfl,e⟩ | ⟨y,u,rfl,e⟩
  ·exact nomatch e
  ·injection e with e1 _
   subst e1
   cases v <;> rfl

end L2

namespace L2
open PySem PySem.Spec PyProof.Rows

inductive V where
 | non | bl (b:Bool) | int (i:Int) | str (x:Str) | byt (b:Array UInt8) | flt (b:UInt64) | ref (a:Addr) | ty (n:String)
 deriving DecidableEq

def zal:V→Value→Prop
 | .non,u=>u=Value.none
 | .bl b,u=>u=Value.bool b
 | .int i,u=>∃t,u=Value.int i t
 | .str x,u=>∃t,u=Value.str x t
 | .byt b,u=>∃t,u=Value.bytes b t
 | .flt b,u=>∃t,u=Value.float b t
 | .ref a,u=>u=Value.ref a
 | .ty n,u=>u=Value.type n

abbrev zap:List V→List Value→Prop:=Paired zal
theorem zap.length {xs:List V}{us:List Value}(r:zap xs us):xs.length=us.length:=Paired.length r
theorem zap.get:∀ {xs:List V} {us:List Value} {i:Nat} {x:V},zap xs us→xs[i]?=some x→∃u,us[i]?=some u∧zal x u
 | _,_,_,_,.nil,e=>by simp at e
 | _,_,0,_,.cons r _,e=>by simp at e; subst e; exact⟨_,rfl,r⟩
 | _,_,i + 1,x,.cons _ t,e=>by
  obtain⟨u,h1,h2⟩:=zap.get (i:=i) (x:=x) t (by simpa using e)
  exact⟨u,by simpa using h1,h2⟩
theorem zap.append:∀ {xs ys:List V} {us ws:List Value},zap xs us→zap ys ws→zap (xs++ys) (us++ws)
 | _,_,_,_,.nil,s=>s
 | _,_,_,_,.cons r t,s=>.cons r (zap.append t s)
theorem zap.take:∀ {xs:List V} {us:List Value} (n:Nat),zap xs us→zap (xs.take n) (us.take n)
 | _,_,0,_=>.nil
 | _,_,_ + 1,.nil=>.nil
 | _,_,n + 1,.cons r t=>.cons r (zap.take n t)
theorem zap.drop:∀ {xs:List V} {us:List Value} (n:Nat),zap xs us→zap (xs.drop n) (us.drop n)
 | _,_,0,r=>r
 | _,_,_ + 1,.nil=>.nil
 | _,_,n + 1,.cons _ t=>zap.drop n t
def zb3:Option V→Option Value→Prop
 | some v,some u=>zal v u
 | none,none=>True
 | _,_=>False
def KV {κ:Type}:List (κ×V)→List (κ×Value)→Prop:=Paired fun (p:κ×V) (q:κ×Value)=>p.1=q.1∧zal p.2 q.2

def kV:Key→V
 | .inl i=>.int i
 | .inr x=>.str x

inductive HO where
  | lst (xs:List V)
  | tup (xs:List V)
  | dK (kvs:List (Key×V)) | dT (kvs:List (List Key×V))
  | set (S:Int→Bool) (n:Nat)
  | ins (C dx:Addr) (fs:List (Str×V))
  | own (x:Addr)
  | xd (fs:List (Str×V))
  | met (f x:Addr)
  | rng (lo hi:Int)
  | frz (o:Obj) (u:HO)
  | tbl (ps:Array Value)
  | ext (φ:Heap→Prop)

abbrev Hp:=Addr→Option HO
def upd (H:Hp)(a:Addr)(o:HO):Hp:=fun b=>if b=a then some o else H b
theorem zbN {H:Hp}{a:Addr}{o:HO}:upd H a o a=some o:=by unfold upd; rw[if_pos rfl]
theorem zaR {H:Hp}{a b:Addr}{o:HO}(h:b≠a):upd H a o b=H b:=by unfold upd; rw[if_neg h]
theorem ziC {H:Hp}{a b:Addr}{o u:HO}(h:H a=some o)(h':H b=some u)(d:o≠u):a≠b:=by
 intro e; subst e; rw[h] at h'; exact d (Option.some.inj h')
theorem zcJ {H:Hp}{a b:Addr}{o:HO}(h:H a=some o)(h':H b=none):a≠b:=by
 intro e; subst e; rw[h] at h'; cases h'

section
variable (P:Program)(w:World)
def zbf (H:Hp)(h:Heap)(a:Addr):HO→Prop
 | .lst xs=>xs.length≤sizeLine∧∃(its:List Value) (n:Nat),zap xs its∧h.get? a=some { cls:=.type "list",data:=.seq its.toArray n }
 | .tup xs=>xs.length≤sizeLine∧∃its:List Value,zap xs its∧IsTup h a its.toArray
 | .dK kvs=>kvs.length≤sizeLine∧(a == sysModules)=false∧∃vs,KV kvs vs∧h.DictOf (zkc P w) a vs
 | .dT kvs=>kvs.length≤sizeLine∧(a == sysModules)=false∧∃xs:List (List Key×Addr×Value),
   Paired (fun (p:List Key×V) (q:List Key×Addr×Value)=>p.1=q.1∧H q.2.1=some (.tup (p.1.map kV))∧zal p.2 q.2.2) kvs xs∧
   ∃o es ep,h.get? a=some o∧o.ExactDict∧o.data=.dict es ep∧es.toList=xs.map (entryOfKey (tupleKind (zkc P w)))∧(xs.map (·.1)).Nodup
 | .set S n=>h.SetOf (intKind P w) a S n
 | .ins C dx fs=>H dx=some (.own a)∧fs.length≤1000∧dx≠a∧h.get? a=some (PySem.W.instObj C dx)∧
   ∃mA,h.Ns1 dx mA∧(∀f,zb3 (fs.lookup f) (mA f))∧PySem.Within mA (fs.map (·.1))
 | .own _=>∃o,h.get? a=some o
 | .xd fs=>∃mA,h.Ns1 a mA∧∀f,zb3 (fs.lookup f) (mA f)
 | .rng lo hi=>∃t u v,h.get? a=some { cls:=.type "range",data:=.fields #[.int lo t,.int hi u,.int 1 v] }
 | .frz o u=>h.get? a=some o∧zbf H h a u
 | .tbl ps=>h.get? a=some { cls:=.none,data:=.fields ps }
 | .met f x=>h.get? a=some (PySem.W.methodObj (.ref f) (.ref x))
 | .ext φ=>φ h∧(∃o,h.get? a=some o)∧∀h1 h2:Heap,φ h1→(∀o,h1.get? a=some o→h2.get? a=some o)→φ h2
def HOk (H:Hp)(h:Heap):Prop:=∀a o,H a=some o→zbf P w H h a o
end

section
variable {P:Program}{w:World}{H H':Hp}{h h':Heap}{a:Addr}{o:HO}
theorem zbf.lt (x:zbf P w H h a o):a < h.objs.size:=by
 cases o with
 | lst xs=>obtain⟨_,_,_,_,e⟩:=x; exact Heap.lt_size e
 | tup xs=>obtain⟨_,_,_,p⟩:=x; exact p.lt
 | dK kvs=>obtain⟨_,_,_,_,o,_,_,e,_⟩:=x; exact Heap.lt_size e
 | dT kvs=>obtain⟨_,_,_,_,o,_,_,e,_⟩:=x; exact Heap.lt_size e
 | set S n=>obtain⟨o,_,_,_,e,_⟩:=x; exact Heap.lt_size e
 | ins C dx fs=>obtain⟨_,_,_,e,_⟩:=x; exact Heap.lt_size e
 | own y=>obtain⟨_,e⟩:=x; exact Heap.lt_size e
 | xd fs=>obtain⟨_,⟨_,_,_,e,_⟩,_⟩:=x; exact Heap.lt_size e
 | rng lo hi=>obtain⟨_,_,_,e⟩:=x; exact Heap.lt_size e
 | frz ob u=>obtain⟨e,_⟩:=x; exact Heap.lt_size e
 | tbl ps=>exact Heap.lt_size (show h.get? a=some _ from x)
 | met f y=>exact Heap.lt_size (show h.get? a=some _ from x)
 | ext φ=>obtain⟨_,⟨_,e⟩,_⟩:=x; exact Heap.lt_size e
theorem Paired.mapP {α β:Type}{F G:α→β→Prop}:∀ {l₁:List α} {l₂:List β},Paired F l₁ l₂→(∀a b,F a b→G a b)→Paired G l₁ l₂
 | _,_,.nil,_=>.nil
 | _,_,.cons r t,f=>.cons (f _ _ r) (Paired.mapP t f)
theorem zbf.stay (x:zbf P w H h a o)(k:∀b u,(b=a∨H b=some (.own a))→h.get? b=some u→h'.get? b=some u)
  (ho:∀b,H b=some (.own a)→H' b=some (.own a))(ht:∀b xs,H b=some (.tup xs)→H' b=some (.tup xs)):zbf P w H' h' a o:=by
 induction o with
 | lst xs=>obtain⟨z,its,n,r,e⟩:=x; exact⟨z,its,n,r,k _ _ (.inl rfl) e⟩
 | tup xs=>obtain⟨z,its,r,ob,e,c⟩:=x; exact⟨z,its,r,ob,k _ _ (.inl rfl) e,c⟩
 | dK kvs=>obtain⟨z,y,vs,r,ob,es,ep,e,c⟩:=x; exact⟨z,y,vs,r,ob,es,ep,k _ _ (.inl rfl) e,c⟩
 | dT kvs=>
  obtain⟨z,y,xs,r,ob,es,ep,e,c⟩:=x
  exact⟨z,y,xs,Paired.mapP r fun p q z=>⟨z.1,ht _ _ z.2.1,z.2.2⟩,ob,es,ep,k _ _ (.inl rfl) e,c⟩
 | set S n=>obtain⟨ob,es,ep,t,e,c⟩:=x; exact⟨ob,es,ep,t,k _ _ (.inl rfl) e,c⟩
 | ins C dx fs=>
  obtain⟨d,z,ne,e,mA,⟨od,es,ep,e2,c⟩,r⟩:=x
  exact⟨ho _ d,z,ne,k _ _ (.inl rfl) e,mA,⟨od,es,ep,k _ _ (.inr d) e2,c⟩,r⟩
 | own y=>obtain⟨ob,e⟩:=x; exact⟨ob,k _ _ (.inl rfl) e⟩
 | xd fs=>obtain⟨mA,⟨od,es,ep,e,c⟩,r⟩:=x; exact⟨mA,⟨od,es,ep,k _ _ (.inl rfl) e,c⟩,r⟩
 | rng lo hi=>obtain⟨t,u,v,e⟩:=x; exact⟨t,u,v,k _ _ (.inl rfl) e⟩
 | frz ob u ih=>obtain⟨e,q⟩:=x; exact⟨k _ _ (.inl rfl) e,ih q⟩
 | tbl ps=>
  have e:h.get? a=some { cls:=.none,data:=.fields ps }:=x
  show h'.get? a=some { cls:=.none,data:=.fields ps }
  exact k a _ (.inl rfl) e
 | met f y=>
  have e:h.get? a=some (PySem.W.methodObj (.ref f) (.ref y)):=x
  show h'.get? a=some (PySem.W.methodObj (.ref f) (.ref y))
  exact k a _ (.inl rfl) e
 | ext φ=>obtain⟨p,⟨o,e⟩,st⟩:=x; exact⟨st _ _ p fun o q=>k _ _ (.inl rfl) q,⟨o,k _ _ (.inl rfl) e⟩,st⟩
theorem HOk.lt (x:HOk P w H h)(e:H a=some o):a < h.objs.size:=(x a o e).lt
theorem HOk.fresh (x:HOk P w H h)(e:h.objs.size≤a):H a=none:=by
 cases q:H a with
 | none=>rfl
 | some u=>exact absurd (Nat.lt_of_lt_of_le (x.lt q) e) (Nat.lt_irrefl _)
theorem HOk.kept (x:HOk P w H h)(k:∀b u,h.get? b=some u→h'.get? b=some u):HOk P w H h':=fun a o e=>
 (x a o e).stay (fun b u _ q=>k b u q) (fun _ q=>q) fun _ _ q=>q
theorem HOk.laid (x:HOk P w H h)(k:∀b u,h.get? b=some u→h'.get? b=some u)(hp:h.objs.size≤a)(new:zbf P w (upd H a o) h' a o):HOk P w (upd H a o) h':=fun b u e=>by
 have hn:=x.fresh hp
 by_cases hb:b=a
 ·subst hb; rw[zbN] at e; cases e; exact new
 ·rw[zaR hb] at e
  exact(x b u e).stay (fun c v _ q=>k c v q) (fun c q=>by rw[zaR (zcJ q hn)]; exact q) fun c xs q=>by rw[zaR (zcJ q hn)]; exact q
end

def Rd (H:Hp)(a:Addr)(u:HO):Prop:=H a=some u∨∃o,H a=some (.frz o u)
theorem Rd.ok {P:Program}{w:World}{H:Hp}{h:Heap}{a:Addr}{u:HO}(r:Rd H a u)(x:HOk P w H h):zbf P w H h a u:=by
 rcases r with r | ⟨o,r⟩
 ·exact x a u r
 ·obtain⟨_,q⟩:=x a _ r
  exact q
def Mut:Option HO→Prop
 | some (.lst _)=>True
 | some (.dK _)=>True
 | some (.dT _)=>True
 | some (.set _ _)=>True
 | some (.ins _ _ _)=>True
 | some (.ext _)=>True
 | _=>False
section
variable {P:Program}{w:World}{H:Hp}{h h':Heap}{x e:Addr}{o':HO}
theorem HOk.write (ok:HOk P w H h)(mu:Mut (H x))(he:e=x∨H e=some (.own x))(k:∀b u,b≠e→h.get? b=some u→h'.get? b=some u)(heo:∃u,h'.get? e=some u)
  (new:zbf P w (upd H x o') h' x o'):HOk P w (upd H x o') h':=fun b u q=>by
 have nown:∀c y,H c=some (.own y)→c≠x:=fun c y r z=>by subst z; rw[r] at mu; exact mu
 have ntup:∀c xs,H c=some (.tup xs)→c≠x:=fun c xs r z=>by subst z; rw[r] at mu; exact mu
 by_cases hb:b=x
 ·subst hb; rw[zbN] at q; cases q; exact new
 ·rw[zaR hb] at q
  by_cases hbe:b=e
  ·have q':H b=some (.own x):=by
    rcases he with z | z
    ·exact absurd (hbe.trans z) hb
    ·rw[hbe]; exact z
   rw[q] at q'; cases q'
   obtain⟨v,hv⟩:=heo
   exact⟨v,by rw[hbe]; exact hv⟩
  ·refine(ok b u q).stay (fun c v hc r=>k c v ?_ r) (fun c r=>by rw[zaR (nown c b r)]; exact r) fun c xs r=>by rw[zaR (ntup c xs r)]; exact r
   rcases hc with rfl | hc
   ·exact hbe
   ·rintro rfl
    rcases he with z | z
    ·exact nown c b hc z
    ·rw[hc] at z; cases z; exact hb rfl
end

structure Un (fs ex:List Addr)(H H':Hp)(h h':Heap):Prop where
 keep:∀b o,h.get? b=some o→H b=none→b ∉ fs→b ∉ ex→h'.get? b=some o
 slot:∀b o,h.get? b=some o→H b=none→b∈fs→b ∉ ex→∃sl,h'.get? b=some { o with slots:=sl }
 free:∀b o,h.get? b=some o→H b=none→b ∉ ex→H' b=none
 there:∀b o,h.get? b=some o→b ∉ ex→∃o',h'.get? b=some o'
 tups:∀b xs,H b=some (.tup xs)→H' b=some (.tup xs)
 frzs:∀b o u,H b=some (.frz o u)→H' b=some (.frz o u)
 tbls:∀b ps,H b=some (.tbl ps)→∃more,H' b=some (.tbl (ps++more))
section
variable {fs fs' ex ex':List Addr}{H H1 H2:Hp}{h h1 h2 h':Heap}{a x e:Addr}{o:HO}
theorem Un.any (u:Un fs ex H H1 h h1){b:Addr}{ob:Obj}(q:h.get? b=some ob)(n:H b=none)(hx:b ∉ ex):∃sl,h1.get? b=some { ob with slots:=sl }:=by
 by_cases hb:b∈fs
 ·exact u.slot b ob q n hb hx
 ·exact⟨ob.slots,u.keep b ob q n hb hx⟩
theorem Un.kept (k:∀b u,h.get? b=some u→h'.get? b=some u):Un fs ex H H h h':=
 ⟨fun b ob q _ _ _=>k b ob q,fun b ob q _ _ _=>⟨ob.slots,k b ob q⟩,fun _ _ _ n _=>n,fun b ob q _=>⟨ob,k b ob q⟩,fun _ _ q=>q,fun _ _ _ q=>q,fun _ ps q=>⟨#[],by rw[q]; simp⟩⟩
theorem Un.refl:Un fs ex H H h h:=Un.kept fun _ _ q=>q
theorem Un.laid (k:∀b u,h.get? b=some u→h'.get? b=some u)(hp:h.objs.size≤a)(hn:H a=none):Un fs ex H (upd H a o) h h' where
 keep:=fun b u q _ _ _=>k b u q
 slot:=fun b u q _ _ _=>⟨u.slots,k b u q⟩
 free:=fun b u q n _=>by rw[zaR (Nat.ne_of_lt (Nat.lt_of_lt_of_le (Heap.lt_size q) hp))]; exact n
 there:=fun b u q _=>⟨u,k b u q⟩
 tups:=fun b xs q=>by rw[zaR (zcJ q hn)]; exact q
 frzs:=fun b u xs q=>by rw[zaR (zcJ q hn)]; exact q
 tbls:=fun b ps q=>⟨#[],by rw[zaR (zcJ q hn),q]; simp⟩
theorem Un.write (mu:Mut (H x))(he:e=x∨H e=some (.own x))(k:∀b u,b≠e→h.get? b=some u→h'.get? b=some u)(heo:∃u,h'.get? e=some u):Un fs ex H (upd H x o) h h':=by
 have hx:∀b,H b=none→b≠x:=fun b n z=>by subst z; rw[n] at mu; exact mu
 have hb:∀b,H b=none→b≠e:=fun b n z=>by
  subst z
  rcases he with r | r
  ·exact hx b n r
  ·rw[n] at r; cases r
 have hm:∀b u,H b=some u→¬ Mut (some u)→b≠x:=fun b u q nm z=>by subst z; rw[q] at mu; exact nm mu
 refine⟨fun b u q n _ _=>k b u (hb b n) q,fun b u q n _ _=>⟨u.slots,k b u (hb b n) q⟩,fun b u q n _=>by rw[zaR (hx b n)]; exact n,fun b u q _=>?_,
  fun b xs q=>by rw[zaR (hm b _ q fun z=>z)]; exact q,fun b u xs q=>by rw[zaR (hm b _ q fun z=>z)]; exact q,fun b ps q=>⟨#[],by rw[zaR (hm b _ q fun z=>z),q]; simp⟩⟩
 by_cases hbe:b=e
 ·subst hbe; exact heo
 ·exact⟨u,k b u hbe q⟩
end

def trk (h:Heap)(H:Hp):List Addr:=(List.range h.objs.size).filter fun a=>(H a).isSome
def zcb (h:Heap)(H:Hp):Heap:=PySem.W.hideAll h (trk h H)
theorem zrc (h:Heap)(H:Hp):(zcb h H).objs.size=h.objs.size:=PySem.W.hideAll_size _ _
theorem zn2 {h:Heap}{H:Hp}{b:Addr}{o:Obj}(e:h.get? b=some o)(n:H b=none):(zcb h H).get? b=some o:=
 PySem.W.hideAll_get _ e fun hm=>by
  have q:(H b).isSome=true:=(List.mem_filter.mp hm).2
  rw[n] at q; simp at q
theorem zpA {h:Heap}{H:Hp}{b:Addr}{o:Obj}(e:(zcb h H).get? b=some o):h.get? b=some o∧H b=none:=by
 have e':h.get? b=some o:=PySem.W.of_hideAll (trk h H) e
 refine⟨e',?_⟩
 cases q:H b with
 | none=>rfl
 | some x=>
  have hm:b∈trk h H:=List.mem_filter.mpr ⟨List.mem_range.mpr (Heap.lt_size e'),by simp[q]⟩
  have z:(zcb h H).get? b=none:=PySem.W.hideAll_none (trk h H) hm
  rw[z] at e; cases e

def zqN (g h:Heap)(L:Addr):List (Addr×Obj):=(List.range h.objs.size).filterMap fun a=>if a=L∨(g.get? a).isSome=true then none else (h.get? a).map fun o=>(a,o)
def zbd (g h:Heap)(L d:Addr):List (Addr×Obj):=(zqN g h L).filter fun p=>decide (p.1≠d)
end L2

namespace L2
open PySem PySem.Spec PyProof.Rows

structure Mod (K:PySem.W.Frag)(mg:Str→Option Value)(base:Heap):Prop where
 kin:K.In base
 glob:base.Ns mainGlobals mg
 blt:∃mb,base.Ns builtinsNs mb∧∀x:Str,x≠"__name__"→mb x=bootBuiltins x
 nolimit:base.NoLimit

structure Cx where
 prog:Program
 w:World
 K:PySem.W.Frag
 mg:Str→Option Value
 base:Heap
 A:Around
 N:List Str
 s₀:Shared
 H₀:Hp
 env:Env
 outer:List Env
 stack:List Env
 ex:List Addr
 fn:Str→Bool
 calm:Bool
 pn:List (Addr×Obj)
 xe:Value→Shared→Prop
def frs (l:List Env):List Addr:=l.filterMap (·.frame)
abbrev Cx.fs (X:Cx):List Addr:=frs X.outer

def Vis (sc:Scope)(x:Str):Prop:=sc.names.lookup x=some .local∨sc.names.lookup x=some .cell∨sc.names.lookup x=some .free
def Loc (sc:Scope)(x:Str):Prop:=sc.names.lookup x=some .local∨sc.names.lookup x=some .cell
def Look (env:Env)(h:Heap)(m:Str→Option Value)(x:Str)(u:Value):Prop:=
 (env.kindOf x=some .local∧m x=some u)∨((env.kindOf x=some .cell∨env.kindOf x=some .free)∧∃c,env.cells.lookup x=some c∧h.IsCell c (some u))

structure Cx.Ok (X:Cx):Prop where
 mod:Mod X.K X.mg X.base
 kind:X.env.scope.kind=.function
 glob:X.env.globals=mainGlobals
 blt:X.env.builtins=builtinsNs
 above:X.s₀.heap.objs.size≤X.env.locals
 inj:∀x y c,X.env.cells.lookup x=some c→X.env.cells.lookup y=some c→x=y
 has:∀x,(X.env.kindOf x=some .cell∨X.env.kindOf x=some .free)→∃c,X.env.cells.lookup x=some c
 cab:∀x c,X.fn x=true→X.env.cells.lookup x=some c→X.s₀.heap.objs.size≤c
 hd:X.calm=true→X.A.handled=none
 frames:X.A.frames=some X.stack
 stk:X.stack=X.outer∨(X.stack=X.env::X.outer∧X.env.frame=some X.env.locals)
 exf:∀b∈X.ex,b≠X.env.locals∧∀x c,X.env.cells.lookup x=some c→c≠b
 bs:∀b o,X.base.get? b=some o→X.s₀.heap.get? b=some o∧X.H₀ b=none
 bsz:X.base.objs.size≤X.s₀.heap.objs.size
 noex:∀b o,X.base.get? b=some o→b ∉ X.ex
 exfs:∀b∈X.ex,b ∉ X.fs
 funs:X.s₀.heap.FunFrames X.base X.outer
 frf:∀b∈X.fs,X.H₀ b=none

structure Inv (X:Cx)(pins:List (Addr×Obj))(σ:List (Option V))(H:Hp)(s:Shared):Prop where
 ok:X.Ok
 os:s.os=X.s₀.os
 bare:AllBare s.gens
 base:Un X.fs X.ex X.H₀ H X.s₀.heap s.heap
 loc:∃m,s.heap.Ns X.env.locals m∧∀(i:Nat) (x:Str) (v:V),X.N[i]?=some x→σ[i]?=some (some v)→Vis X.env.scope x→∃u,zal v u∧Look X.env s.heap m x u
 cell:∀x c,X.env.cells.lookup x=some c→∃v,s.heap.IsCell c v
 free:H X.env.locals=none
 freeC:∀x c,X.env.cells.lookup x=some c→H c=none
 pin:∀p∈X.pn++pins,s.heap.get? p.1=some p.2∧H p.1=none∧p.1≠X.env.locals∧p.1 ∉ X.fs∧∀v,p.2.data≠.cell v
 hok:HOk X.prog X.w H s.heap
 len:σ.length=X.N.length

section
variable {X:Cx}{pins:List (Addr×Obj)}{σ:List (Option V)}{H H':Hp}{s:Shared}{h':Heap}

theorem Cx.Ok.nofr (ok:X.Ok){b:Addr}{o:Obj}(e:X.base.get? b=some o):b ∉ X.fs:=fun hb=>by
 have:=(ok.funs.mem hb).1
 rw[e] at this; cases this
theorem Inv.bs (I:Inv X pins σ H s):∀b o,X.base.get? b=some o→s.heap.get? b=some o∧H b=none:=fun b o e=>
 ⟨I.base.keep b o (I.ok.bs b o e).1 (I.ok.bs b o e).2 (I.ok.nofr e) (I.ok.noex b o e),I.base.free b o (I.ok.bs b o e).1 (I.ok.bs b o e).2 (I.ok.noex b o e)⟩
theorem Inv.bk (I:Inv X pins σ H s):∀b o,X.base.get? b=some o→s.heap.get? b=some o:=fun b o e=>(I.bs b o e).1
theorem Inv.mod (I:Inv X pins σ H s):Mod X.K X.mg X.base:=I.ok.mod
theorem Inv.kIn (I:Inv X pins σ H s):X.K.In s.heap:=I.ok.mod.kin.keeps I.bk
theorem Inv.fr (I:Inv X pins σ H s):∃m,Fr X.base X.env.locals s.heap m:=
 let ⟨m,hn,_⟩:=I.loc
 ⟨m,hn,I.bk,Nat.le_trans I.ok.bsz I.ok.above⟩
theorem Inv.lt (I:Inv X pins σ H s):X.env.locals < s.heap.objs.size:=let ⟨_,hn,_⟩:=I.loc; hn.lt
theorem Inv.sz (I:Inv X pins σ H s):X.s₀.heap.objs.size≤s.heap.objs.size:=Nat.le_trans I.ok.above (Nat.le_of_lt I.lt)
theorem Inv.nofs (I:Inv X pins σ H s){a:Addr}(h:s.heap.objs.size≤a):a ∉ X.fs:=fun hb=>by
 obtain⟨_,o,ho,_⟩:=I.ok.funs.mem hb
 exact absurd (Nat.lt_of_lt_of_le (Heap.lt_size ho) (Nat.le_trans I.sz h)) (Nat.lt_irrefl _)
theorem Inv.cne (I:Inv X pins σ H s):∀x c,X.env.cells.lookup x=some c→c≠X.env.locals:=fun x c e z=>by
 obtain⟨v,o,ho,hd⟩:=I.cell x c e
 obtain⟨m,⟨o',es,ep,ho',hd',_⟩,_⟩:=I.loc
 rw[z,ho'] at ho; cases ho; rw[hd'] at hd; cases hd
theorem Inv.funs (I:Inv X pins σ H s):s.heap.FunFrames X.base X.outer:=by
 have all:∀(l:List Env),(∀b∈frs l,b∈X.fs)→X.s₀.heap.FunFrames X.base l→s.heap.FunFrames X.base l:=by
  intro l
  induction l with
  | nil=>intro _ _; trivial
  | cons env r ih=>
   intro hs hl
   obtain⟨hk,⟨L,o,hf,hn,ho,hd⟩,hr⟩:=hl
   have hL:L∈X.fs:=hs L (by unfold frs; rw[List.filterMap_cons,hf]; exact List.mem_cons_self)
   obtain⟨sl,e⟩:=I.base.slot L o ho (I.ok.frf L hL) hL fun z=>I.ok.exfs L z hL
   exact⟨hk,⟨L,_,hf,hn,e,hd⟩,ih (fun b hb=>hs b (by unfold frs; rw[List.filterMap_cons,hf]; exact List.mem_cons_of_mem _ hb)) hr⟩
 exact all X.outer (fun _ hb=>hb) I.ok.funs

theorem Inv.stack (I:Inv X pins σ H s):s.heap.FunFrames X.base X.stack:=by
 rcases I.ok.stk with e | ⟨e,hf⟩
 ·rw[e]; exact I.funs
 ·rw[e]
  obtain⟨m,hn,_⟩:=I.loc
  refine .cons (by rw[I.ok.kind]; decide) hf hn ?_ I.funs
  exact Heap.get?_none_of_le (Nat.le_trans I.ok.bsz I.ok.above)
theorem Inv.stkSub (I:Inv X pins σ H s):∀b∈frs X.stack,b∈X.env.locals::X.fs:=fun b hb=>by
 rcases I.ok.stk with e | ⟨e,hf⟩
 ·rw[e] at hb; exact List.mem_cons_of_mem _ hb
 ·rw[e] at hb
  unfold frs at hb
  rw[List.filterMap_cons,hf] at hb
  exact hb
theorem Inv.stkFree (I:Inv X pins σ H s):∀b∈frs X.stack,H b=none:=fun b hb=>by
 rcases List.mem_cons.mp (I.stkSub b hb) with e | hb
 ·rw[e]; exact I.free
 ·obtain⟨_,o,ho,_⟩:=I.ok.funs.mem hb
  exact I.base.free b o ho (I.ok.frf b hb) fun z=>I.ok.exfs b z hb

theorem Inv.step {g':Array GenState}{t':Nat}{d':Drawn}{ch:List Addr}(I:Inv X pins σ H s)
  (hch:∀b∈ch,(b∈X.ex∨X.s₀.heap.objs.size≤b)∧b≠X.env.locals∧(∀x c,X.env.cells.lookup x=some c→c≠b)∧∀p∈X.pn++pins,p.1≠b)
  (keep:∀b o,b≠X.env.locals→b ∉ X.fs→b ∉ ch→s.heap.get? b=some o→H b=none→h'.get? b=some o)
  (slot:∀b o,b≠X.env.locals→b∈X.fs→b ∉ ch→s.heap.get? b=some o→H b=none→∃sl,h'.get? b=some { o with slots:=sl })(free:∀b o,b ∉ ch→s.heap.get? b=some o→H b=none→H' b=none)
  (there:∀b o,b ∉ ch→s.heap.get? b=some o→∃o',h'.get? b=some o')
  (tups:∀b xs,H b=some (.tup xs)→H' b=some (.tup xs))(frzs:∀b o u,H b=some (.frz o u)→H' b=some (.frz o u))(tbls:∀b ps,H b=some (.tbl ps)→∃more,H' b=some (.tbl (ps++more)))
  (ns:∀m,s.heap.Ns X.env.locals m→h'.Ns X.env.locals m)(hok:HOk X.prog X.w H' h')(hg:AllBare g'):
  Inv X pins σ H' { s with heap:=h',gens:=g',drawn:=d',toks:=t' }:=by
 have neL:∀b o,X.s₀.heap.get? b=some o→b≠X.env.locals:=fun b o e=>Nat.ne_of_lt (Nat.lt_of_lt_of_le (Heap.lt_size e) I.ok.above)
 have neC:∀b o,X.s₀.heap.get? b=some o→b ∉ X.ex→b ∉ ch:=fun b o e hx hb=>by
  rcases (hch b hb).1 with z | z
  ·exact hx z
  ·exact absurd (Nat.lt_of_lt_of_le (Heap.lt_size e) z) (Nat.lt_irrefl _)
 have cellK:∀x c,X.env.cells.lookup x=some c→∀v,s.heap.IsCell c v→h'.IsCell c v:=fun x c e v ⟨o,ho,hd⟩=>by
  have nch:c ∉ ch:=fun z=>(hch c z).2.2.1 x c e rfl
  by_cases hc:c∈X.fs
  ·obtain⟨sl,q⟩:=slot c o (I.cne x c e) hc nch ho (I.freeC x c e)
   exact⟨_,q,hd⟩
  ·exact⟨o,keep c o (I.cne x c e) hc nch ho (I.freeC x c e),hd⟩
 refine⟨I.ok,I.os,hg,⟨fun b o e n hb hx=>?_,fun b o e n hb hx=>?_,fun b o e n hx=>?_,fun b o e hx=>?_,fun b xs e=>tups b xs (I.base.tups b xs e),fun b o xs e=>frzs b o xs (I.base.frzs b o xs e),fun b ps e=>?_⟩,?_,fun x c e=>?_,?_,fun x c e=>?_,fun p hp=>?_,hok,I.len⟩
 ·exact keep b o (neL b o e) hb (neC b o e hx) (I.base.keep b o e n hb hx) (I.base.free b o e n hx)
 ·obtain⟨sl,e1⟩:=I.base.slot b o e n hb hx
  obtain⟨sl',e2⟩:=slot b _ (neL b o e) hb (neC b o e hx) e1 (I.base.free b o e n hx)
  exact⟨sl',e2⟩
 ·obtain⟨o',e1⟩:=I.base.there b o e hx
  exact free b o' (neC b o e hx) e1 (I.base.free b o e n hx)
 ·obtain⟨o',e1⟩:=I.base.there b o e hx
  exact there b o' (neC b o e hx) e1
 ·obtain⟨m1,e1⟩:=I.base.tbls b ps e
  obtain⟨m2,e2⟩:=tbls b _ e1
  exact⟨m1++m2,by rw[e2,Array.append_assoc]⟩
 ·obtain⟨m,hn,hl⟩:=I.loc
  refine⟨m,ns m hn,fun i x v e1 e2 e3=>?_⟩
  obtain⟨u,r,l⟩:=hl i x v e1 e2 e3
  refine⟨u,r,?_⟩
  rcases l with l | ⟨k,c,e,z⟩
  ·exact .inl l
  ·exact .inr ⟨k,c,e,cellK x c e _ z⟩
 ·obtain⟨v,z⟩:=I.cell x c e
  exact⟨v,cellK x c e v z⟩
 ·obtain⟨m,⟨o,_,_,ho,_⟩,_⟩:=I.loc
  exact free _ o (fun z=>(hch _ z).2.1 rfl) ho I.free
 ·obtain⟨v,o,ho,hd⟩:=I.cell x c e
  exact free c o (fun z=>(hch c z).2.2.1 x c e rfl) ho (I.freeC x c e)
 ·obtain⟨e,n,ne,nf,d⟩:=I.pin p hp
  have nch:p.1 ∉ ch:=fun z=>(hch p.1 z).2.2.2 p hp rfl
  exact⟨keep p.1 p.2 ne nf nch e n,free p.1 p.2 nch e n,ne,nf,d⟩
theorem Inv.un {t':Nat}(I:Inv X pins σ H s)(u:Un X.fs [] H H' s.heap h')(hok:HOk X.prog X.w H' h'):Inv X pins σ H' { s with heap:=h',toks:=t' }:=by
 obtain⟨m,⟨o,es,ep,ho,r⟩,_⟩:=id I.loc
 obtain⟨sl,hL⟩:=u.any ho I.free (by simp)
 exact I.step (g':=s.gens) (d':=s.drawn) (ch:=[]) (fun _ z=>nomatch z) (fun b o _ hb _ e n=>u.keep b o e n hb (by simp)) (fun b o _ hb _ e n=>u.slot b o e n hb (by simp)) (fun b o _ e n=>u.free b o e n (by simp)) (fun b o _ e=>u.there b o e (by simp)) u.tups u.frzs u.tbls (fun m' hm=>by
  obtain⟨o',es',ep',ho',r'⟩:=hm
  rw[ho] at ho'; cases ho'
  exact⟨_,es',ep',hL,r'⟩) hok I.bare
theorem Inv.call {g':Array GenState}{t':Nat}{d':Drawn}{ch:List Addr}(I:Inv X pins σ H s)(u:Un (frs X.stack) ch H H' s.heap h')(hok:HOk X.prog X.w H' h')(hg:AllBare g')
  (hch:∀b∈ch,(b∈X.ex∨X.s₀.heap.objs.size≤b)∧b≠X.env.locals∧(∀x c,X.env.cells.lookup x=some c→c≠b)∧∀p∈X.pn++pins,p.1≠b):
  Inv X pins σ H' { s with heap:=h',gens:=g',drawn:=d',toks:=t' }:=by
 obtain⟨m,⟨o,es,ep,ho,r⟩,_⟩:=id I.loc
 obtain⟨sl,hL⟩:=u.any ho I.free fun z=>(hch _ z).2.1 rfl
 exact I.step (ch:=ch) hch (fun b o hL hb hc e n=>u.keep b o e n (fun z=>(List.mem_cons.mp (I.stkSub b z)).elim hL hb) hc) (fun b o _ _ hc e n=>u.any e n hc) (fun b o hc e n=>u.free b o e n hc) (fun b o hc e=>u.there b o e hc) u.tups u.frzs u.tbls (fun m' hm=>by
  obtain⟨o',es',ep',ho',r'⟩:=hm
  rw[ho] at ho'; cases ho'
  exact⟨_,es',ep',hL,r'⟩) hok hg
theorem Inv.turned {t':Nat}{it:Addr}(I:Inv X pins σ H s)(k:∀b o,b≠it→s.heap.get? b=some o→h'.get? b=some o)(hn:H it=none)(hL:it≠X.env.locals)
  (h1:it∈X.ex∨X.s₀.heap.objs.size≤it)(h2:∀x c,X.env.cells.lookup x=some c→c≠it)(h3:∀p∈X.pn++pins,p.1≠it):Inv X pins σ H { s with heap:=h',toks:=t' }:=by
 have nit:∀b u,H b=some u→b≠it:=fun b u e z=>by rw[z,hn] at e; cases e
 refine I.step (g':=s.gens) (d':=s.drawn) (ch:=[it]) (fun b hb=>?_) (fun b o _ _ hc e _=>k b o (fun z=>hc (by simp[z])) e) (fun b o _ _ hc e _=>⟨o.slots,k b o (fun z=>hc (by simp[z])) e⟩) (fun _ _ _ _ n=>n)
  (fun b o hc e=>⟨o,k b o (fun z=>hc (by simp[z])) e⟩) (fun _ _ e=>e) (fun _ _ _ e=>e) (fun b ps e=>⟨#[],by rw[e]; simp⟩) (fun m hm=>?_) (fun b u e=>?_) I.bare
 ·have e:b=it:=by simpa using hb
  subst e
  exact⟨h1,hL,h2,h3⟩
 ·obtain⟨o,es,ep,ho,r⟩:=hm
  exact⟨o,es,ep,k _ o (Ne.symm hL) ho,r⟩
 ·refine(I.hok b u e).stay (fun c v hc q=>k c v ?_ q) (fun _ q=>q) fun _ _ q=>q
  rcases hc with z | z
  ·rw[z]; exact nit b u e
  ·exact nit c _ z
theorem Inv.tok (I:Inv X pins σ H s)(t:Nat):Inv X pins σ H { s with toks:=t }:=I.un (h':=s.heap) (t':=t) Un.refl I.hok
theorem Inv.kept {t':Nat}(I:Inv X pins σ H s)(k:∀b u,s.heap.get? b=some u→h'.get? b=some u):Inv X pins σ H { s with heap:=h',toks:=t' }:=I.un (Un.kept k) (I.hok.kept k)
theorem Inv.laid {a:Addr}{o:HO}{t':Nat}(I:Inv X pins σ H s)(k:∀b u,s.heap.get? b=some u→h'.get? b=some u)(hp:s.heap.objs.size≤a)(new:zbf X.prog X.w (upd H a o) h' a o):
  Inv X pins σ (upd H a o) { s with heap:=h',toks:=t' }:=I.un (Un.laid k hp (I.hok.fresh hp)) (I.hok.laid k hp new)
theorem Inv.write {x e:Addr}{o:HO}{t':Nat}(I:Inv X pins σ H s)(mu:Mut (H x))(he:e=x∨H e=some (.own x))(k:∀b u,b≠e→s.heap.get? b=some u→h'.get? b=some u)(heo:∃u,h'.get? e=some u)
  (new:zbf X.prog X.w (upd H x o) h' x o):Inv X pins σ (upd H x o) { s with heap:=h',toks:=t' }:=I.un (Un.write mu he k heo) (I.hok.write mu he k heo new)
theorem Inv.pins_of {pins':List (Addr×Obj)}(I:Inv X pins σ H s)(h:∀p∈pins',s.heap.get? p.1=some p.2∧H p.1=none∧p.1≠X.env.locals∧p.1 ∉ X.fs∧∀v,p.2.data≠.cell v):Inv X pins' σ H s:=
 ⟨I.ok,I.os,I.bare,I.base,I.loc,I.cell,I.free,I.freeC,fun p hp=>(List.mem_append.mp hp).elim (fun z=>I.pin p (List.mem_append_left _ z)) (h p),I.hok,I.len⟩

theorem zkg {N:List Str}(hN:N.Nodup){i j:Nat}{x:Str}(a:N[i]?=some x)(b:N[j]?=some x):i=j:=by
 obtain⟨h1,e1⟩:=List.getElem?_eq_some_iff.mp a
 obtain⟨h2,e2⟩:=List.getElem?_eq_some_iff.mp b
 exact(List.getElem_inj hN).mp (e1.trans e2.symm)

theorem zjn {M:Model}{A:Around}{E:Value→Shared→Prop}{i:Nat}{x:Str}{v:V}{u:Value}{Q:Unit→Shared→Prop}(I:Inv X pins σ H s)(hN:X.N.Nodup)(hi:X.N[i]?=some x)(hx:Loc X.env.scope x)(r:zal v u)
  (h:∀s',Inv X pins (σ.set i (some v)) H s'→(∃a,Heap.SameBut a s.heap s'.heap∧(a=X.env.locals∨X.env.cells.lookup x=some a))→Q () s')(hf:X.fn x=true∨X.env.scope.names.lookup x=some .local:=by first | exact .inl rfl | exact .inr rfl | assumption):wpAny M A (storeName X.env x u) Q E s:=by
 obtain⟨m,hn,hl⟩:=id I.loc
 have hcls:(X.env.scope.kind == .class || (X.env.scope.kind == .module && X.env.locals != X.env.globals))=false:=by rw[I.ok.kind]; rfl
 have hiσ:i < σ.length:=by rw[I.len]; exact(List.getElem?_eq_some_iff.mp hi).1
 have cne:=I.cne
 have tracked:∀ {a:Addr} {h':Heap},(∃o,s.heap.get? a=some o∧H a=none)→Heap.SameBut a s.heap h'→HOk X.prog X.w H h':=fun {a h'} ha hs b ob e=>by
  obtain⟨_,_,hfree⟩:=ha
  refine(I.hok b ob e).stay (fun c w' hc q=>(hs.2 c ?_).trans q) (fun _ q=>q) fun _ _ q=>q
  rintro rfl
  rcases hc with rfl | hc
  ·rw[hfree] at e; cases e
  ·rw[hfree] at hc; cases hc
 rcases hx with hk | hk
 ·refine wpAny_storeName_local hk hn (fun h' hn' hs=>?_) hcls
  obtain⟨oL,_,_,hoL,_⟩:=id hn
  refine h _ ⟨I.ok,I.os,I.bare,⟨fun b o e n hb hx=>?_,fun b o e n hb hx=>?_,I.base.free,fun b o e hx=>?_,I.base.tups,I.base.frzs,I.base.tbls⟩,⟨_,hn',fun j y v' e1 e2 e3=>?_⟩,fun y c e=>?_,I.free,I.freeC,fun p hp=>?_,tracked ⟨oL,hoL,I.free⟩ hs,by simpa using I.len⟩ ⟨_,hs,.inl rfl⟩
  ·exact(hs.2 b (Nat.ne_of_lt (Nat.lt_of_lt_of_le (Heap.lt_size e) I.ok.above))).trans (I.base.keep b o e n hb hx)
  ·obtain⟨sl,e1⟩:=I.base.slot b o e n hb hx
   exact⟨sl,(hs.2 b (Nat.ne_of_lt (Nat.lt_of_lt_of_le (Heap.lt_size e) I.ok.above))).trans e1⟩
  ·obtain⟨o',e1⟩:=I.base.there b o e hx
   exact⟨o',(hs.2 b (Nat.ne_of_lt (Nat.lt_of_lt_of_le (Heap.lt_size e) I.ok.above))).trans e1⟩
  ·by_cases hj:j=i
   ·subst hj
    rw[hi] at e1; cases e1
    rw[List.getElem?_set_self hiσ] at e2
    cases e2
    exact⟨u,r,.inl ⟨hk,by simp⟩⟩
   ·rw[List.getElem?_set_ne (Ne.symm hj)] at e2
    obtain⟨u',r',q⟩:=hl j y v' e1 e2 e3
    refine⟨u',r',?_⟩
    rcases q with ⟨k,e⟩ | ⟨k,c,e,z⟩
    ·refine .inl ⟨k,?_⟩
     have:y≠x:=fun e=>hj (zkg hN e1 (e ▸ hi))
     simp[this,e]
    ·exact .inr ⟨k,c,e,z.sameBut hs (cne y c e)⟩
  ·obtain⟨w',z⟩:=I.cell y c e
   exact⟨w',z.sameBut hs (cne y c e)⟩
  ·obtain⟨e,n,ne,nf,d⟩:=I.pin p hp
   exact⟨(hs.2 p.1 ne).trans e,n,ne,nf,d⟩
 ·have hfn:X.fn x=true:=by
   rcases hf with z | z
   ·exact z
   ·rw[z] at hk; cases hk
  obtain⟨c,hc⟩:=I.ok.has x (.inl hk)
  obtain⟨w',z⟩:=I.cell x c hc
  refine wpAny_storeName_cell I.ok.kind hk hc z (fun h' hc' hs=>?_)
  obtain⟨oc,hoc,hocd⟩:=id z
  refine h { s with heap:=h' } ⟨I.ok,I.os,I.bare,⟨fun b o e n hb hx=>?_,fun b o e n hb hx=>?_,I.base.free,fun b o e hx=>?_,I.base.tups,I.base.frzs,I.base.tbls⟩,⟨m,hn.sameBut hs (Ne.symm (cne x c hc)),fun j y v' e1 e2 e3=>?_⟩,fun y c' e=>?_,I.free,I.freeC,fun p hp=>?_,tracked ⟨oc,hoc,I.freeC x c hc⟩ hs,by simpa using I.len⟩ ⟨c,hs,.inr hc⟩
  ·exact(hs.2 b (Nat.ne_of_lt (Nat.lt_of_lt_of_le (Heap.lt_size e) (I.ok.cab x c hfn hc)))).trans (I.base.keep b o e n hb hx)
  ·obtain⟨sl,e1⟩:=I.base.slot b o e n hb hx
   exact⟨sl,(hs.2 b (Nat.ne_of_lt (Nat.lt_of_lt_of_le (Heap.lt_size e) (I.ok.cab x c hfn hc)))).trans e1⟩
  ·obtain⟨o',e1⟩:=I.base.there b o e hx
   exact⟨o',(hs.2 b (Nat.ne_of_lt (Nat.lt_of_lt_of_le (Heap.lt_size e) (I.ok.cab x c hfn hc)))).trans e1⟩
  ·by_cases hj:j=i
   ·subst hj
    rw[hi] at e1; cases e1
    rw[List.getElem?_set_self hiσ] at e2
    cases e2
    exact⟨u,r,.inr ⟨.inl hk,c,hc,hc'⟩⟩
   ·rw[List.getElem?_set_ne (Ne.symm hj)] at e2
    obtain⟨u',r',q⟩:=hl j y v' e1 e2 e3
    refine⟨u',r',?_⟩
    rcases q with q | ⟨k,c',e,z'⟩
    ·exact .inl q
    ·refine .inr ⟨k,c',e,z'.sameBut hs ?_⟩
     rintro rfl
     exact hj (zkg hN e1 (I.ok.inj _ _ _ e hc ▸ hi))
  ·by_cases hcc:c'=c
   ·subst hcc; exact⟨_,hc'⟩
   ·obtain⟨w2,z2⟩:=I.cell y c' e
    exact⟨w2,z2.sameBut hs hcc⟩
  ·obtain⟨e,n,ne,nf,d⟩:=I.pin p hp
   refine⟨(hs.2 p.1 ?_).trans e,n,ne,nf,d⟩
   intro q
   rw[q,hoc] at e
   have q':oc=p.2:=Option.some.inj e
   exact d w' (by rw[← q']; exact hocd)
theorem zhr {M:Model}{A:Around}{E:Value→Shared→Prop}{i:Nat}{x:Str}{v:V}{u:Value}{Q:Unit→Shared→Prop}(I:Inv X pins σ H s)(hN:X.N.Nodup)(hi:X.N[i]?=some x)(hx:Loc X.env.scope x)(r:zal v u)
  (h:∀s',Inv X pins (σ.set i (some v)) H s'→Q () s')(hf:X.fn x=true∨X.env.scope.names.lookup x=some .local:=by first | exact .inl rfl | exact .inr rfl | assumption):wpAny M A (storeName X.env x u) Q E s:=
 zjn I hN hi hx r (fun s' I' _=>h s' I') hf
theorem Inv.call' {s':Shared}{ch:List Addr}(I:Inv X pins σ H s)(ho:s'.os=s.os)(u:Un (frs X.stack) ch H H' s.heap s'.heap)(hok:HOk X.prog X.w H' s'.heap)(hg:AllBare s'.gens)
  (hch:∀b∈ch,(b∈X.ex∨X.s₀.heap.objs.size≤b)∧b≠X.env.locals∧(∀x c,X.env.cells.lookup x=some c→c≠b)∧∀p∈X.pn++pins,p.1≠b):Inv X pins σ H' s':=by
 obtain⟨h',g',d',t',o'⟩:=s'
 have e:o'=s.os:=ho
 subst e
 exact I.call (g':=g') (t':=t') (d':=d') u hok hg hch
end

abbrev XK:=Value→Option Addr→Hp→Prop
abbrev St:=List (Option V)
abbrev VK:=V→Hp→Prop
abbrev TE:=St→Hp→VK→Prop
abbrev TT:=St→Hp→(Bool→Hp→Prop)→Prop
abbrev TA:=St→Hp→(List V→Hp→Prop)→Prop
structure zcG where
 nx:St→Hp→Prop
 rt:VK
 bk:St→Hp→Prop:=fun _ _=>False
 ct:St→Hp→Prop:=fun _ _=>False
abbrev TS:=zcG→St→Hp→Prop

def EP (X:Cx)(pins:List (Addr×Obj))(σ:St)(Q:VK)(u:Value)(s':Shared):Prop:=∃v H',Inv X pins σ H' s'∧zal v u∧Q v H'
def TP (X:Cx)(pins:List (Addr×Obj))(σ:St)(Q:Bool→Hp→Prop)(b:Bool)(s':Shared):Prop:=∃H',Inv X pins σ H' s'∧Q b H'
def AP (X:Cx)(pins:List (Addr×Obj))(σ:St)(Q:List V→Hp→Prop)(us:List Value)(s':Shared):Prop:=∃vs H',Inv X pins σ H' s'∧zap vs us∧Q vs H'
def SP (X:Cx)(pins:List (Addr×Obj))(D:zcG)(f:Flow)(s':Shared):Prop:=
 match f with
 | .next=>∃σ' H',Inv X pins σ' H' s'∧D.nx σ' H'
 | .brk=>∃σ' H',Inv X pins σ' H' s'∧D.bk σ' H'
 | .cont=>∃σ' H',Inv X pins σ' H' s'∧D.ct σ' H'
 | .ret u=>∃v σ' H',Inv X pins σ' H' s'∧zal v u∧D.rt v H'

def PE (X:Cx)(e:Expr)(t:TE):Prop:=
 ∀(pins:List (Addr×Obj)) (s:Shared) (σ:St) (H:Hp) (Q:VK),Inv X pins σ H s→t σ H Q→wpAny (model X.prog X.w) X.A (eval e X.env) (EP X pins σ Q) X.xe s
def PT (X:Cx)(e:Expr)(t:TT):Prop:=
 ∀(pins:List (Addr×Obj)) (s:Shared) (σ:St) (H:Hp) (Q:Bool→Hp→Prop),Inv X pins σ H s→t σ H Q→wpAny (model X.prog X.w) X.A (isTrue e X.env (eval e X.env)) (TP X pins σ Q) X.xe s
def PW (X:Cx)(e:Expr)(t:TT):Prop:=
 ∀(whole:Sem Value) (pins:List (Addr×Obj)) (s:Shared) (σ:St) (H:Hp) (Q:Bool→Hp→Prop),Inv X pins σ H s→t σ H Q→wpAny (model X.prog X.w) X.A (isTrue e X.env whole) (TP X pins σ Q) X.xe s
theorem PW.pt {X:Cx}{e:Expr}{t:TT}(h:PW X e t):PT X e t:=h _
def PA (X:Cx)(es:List Expr)(t:TA):Prop:=
 ∀(pos:Pos) (pins:List (Addr×Obj)) (s:Shared) (σ:St) (H:Hp) (Q:List V→Hp→Prop),Inv X pins σ H s→t σ H Q→wpAny (model X.prog X.w) X.A (spliced (backTo pos (starEach es X.env))) (AP X pins σ Q) X.xe s
def PS (X:Cx)(st:Stmt)(t:TS):Prop:=
 ∀(pins:List (Addr×Obj)) (s:Shared) (σ:St) (H:Hp) (D:zcG),Inv X pins σ H s→t D σ H→wpAny (model X.prog X.w) X.A (exec st X.env) (SP X pins D) X.xe s
def PSs (X:Cx)(st:List Stmt)(t:TS):Prop:=
 ∀(pins:List (Addr×Obj)) (s:Shared) (σ:St) (H:Hp) (D:zcG),Inv X pins σ H s→t D σ H→wpAny (model X.prog X.w) X.A (execs st X.env) (SP X pins D) X.xe s
theorem thn {α:Type}{t:Sem α}{Q Q':α→Shared→Prop}{M:Model}{A:Around}{E:Value→Shared→Prop}{s:Shared}(h:wpAny M A t Q E s)(hQ:∀a s,Q a s→Q' a s):wpAny M A t Q' E s:=wpAny_mono h hQ fun _ _ x=>x
end L2

namespace L2
open PySem PySem.Spec PyProof.Rows
section
variable {X:Cx}

theorem bin {a b:Expr}{ta tb:TE}(ha:PE X a ta)(hb:PE X b tb){pins:List (Addr×Obj)}{s:Shared}{σ:St}{H:Hp}{R:V→V→Hp→Prop}(I:Inv X pins σ H s)(h:ta σ H fun x H1=>tb σ H1 fun y H2=>R x y H2)
  {α:Type}{Q:α→Shared→Prop}{f:Value→Value→Sem α}
  (hf:∀v u s2 x y H2,Inv X pins σ H2 s2→zal x v→zal y u→R x y H2→wpAny (model X.prog X.w) X.A (f v u) Q X.xe s2):
  wpAny (model X.prog X.w) X.A (eval a X.env) (fun v s₁=>wpAny (model X.prog X.w) X.A (eval b X.env) (fun u s₂=>wpAny (model X.prog X.w) X.A (f v u) Q X.xe s₂) X.xe s₁) X.xe s:=by
 refine thn (ha pins s σ H _ I h) fun v s1 ⟨x,H1,I1,r1,q1⟩=>?_
 refine thn (hb pins s1 σ H1 _ I1 q1) fun u s2 ⟨y,H2,I2,r2,q2⟩=>?_
 exact hf v u s2 x y H2 I2 r1 r2 q2

def tVar (i:Nat):TE:=fun σ H Q=>∃v,σ[i]?=some (some v)∧Q v H
def tC (v:V):TE:=fun _ H Q=>Q v H
theorem zkW {i:Nat}{x:Str}{pos:Pos}(hN:X.N[i]?=some x)(hv:Vis X.env.scope x)(hd:(x == ("__debug__":Str))=false:=by decide)(hcd:(x == ("__classdict__":Str))=false:=by decide):PE X (.Name x pos) (tVar i):=by
 intro pins s σ H Q I h
 obtain⟨v,e,h⟩:=h
 obtain⟨m,hn,hl⟩:=I.loc
 obtain⟨u,r,l⟩:=hl i x v hN e hv
 have fin:EP X pins σ Q u s:=⟨v,H,I,r,h⟩
 rcases l with ⟨hk,hm⟩ | ⟨hk,c,hc,hcell⟩
 ·exact wpAny_Name (wpAny_loadName_local I.ok.kind hk hn hm fin) hd
 ·rcases hk with hk | hk
  ·exact wpAny_Name (wpAny_loadName_cell I.ok.kind hk hc hcell fin) hd
  ·exact wpAny_Name (wpAny_loadName_free I.ok.kind hk hc hcell fin hcd) hd
theorem zrk {i j pos}:PE X (.Constant (.int i) j pos) (tC (.int i)):=fun _ _ _ H _ I h=>wpAny_Constant_int ⟨.int i,H,I.tok _,⟨_,rfl⟩,h⟩
theorem pe_bl {b j pos}:PE X (.Constant (.bool b) j pos) (tC (.bl b)):=fun _ _ _ H _ I h=>Constant_bool ⟨.bl b,H,I,rfl,h⟩
theorem zpq {x j pos}:PE X (.Constant (.str x) j pos) (tC (.str x)):=fun _ _ _ H _ I h=>Calls.Constant_str ⟨.str x,H,I.tok _,⟨_,rfl⟩,h⟩

def Gl (X:Cx)(x:Str):Prop:=X.env.kindOf x=some .globalImplicit
theorem zko {E:Value→Shared→Prop}{pins:List (Addr×Obj)}{s:Shared}{σ:St}{H:Hp}{x:Str}{u:Value}{pos:Pos}{Q:Value→Shared→Prop}(I:Inv X pins σ H s)(hg:Gl X x)(hm:X.mg x=some u)(h:Q u s)
  (hd:(x == ("__debug__":Str))=false:=by decide):wpAny (model X.prog X.w) X.A (eval (.Name x pos) X.env) Q E s:=
 Calls.Name_function_global I.ok.kind hg (Calls.loadGlobal_global (by rw[I.ok.glob]; exact I.mod.glob.keeps I.bk) hm h) hd
theorem zdq {E:Value→Shared→Prop}{pins:List (Addr×Obj)}{s:Shared}{σ:St}{H:Hp}{x:Str}{u:Value}{pos:Pos}{Q:Value→Shared→Prop}(I:Inv X pins σ H s)(hg:Gl X x)(hm:X.mg x=none)(hv:bootBuiltins x=some u)(h:Q u s)
  (hn:x≠"__name__":=by decide)(hd:(x == ("__debug__":Str))=false:=by decide):wpAny (model X.prog X.w) X.A (eval (.Name x pos) X.env) Q E s:=by
 obtain⟨mb,h1,h2⟩:=I.mod.blt
 exact Calls.Name_function_global I.ok.kind hg (Calls.loadGlobal_builtin (by rw[I.ok.glob]; exact I.mod.glob.keeps I.bk) hm (by rw[I.ok.blt]; exact h1.keeps I.bk) ((h2 x hn).trans hv) h) hd
theorem zls {x:Str}{v:V}{u:Value}{pos:Pos}(hg:Gl X x)(hm:X.mg x=none)(hv:bootBuiltins x=some u)(r:zal v u)(hn:x≠"__name__":=by decide)(hd:(x == ("__debug__":Str))=false:=by decide):PE X (.Name x pos) (tC v):=
 fun _ _ _ H _ I h=>zdq I hg hm hv ⟨v,H,I,r,h⟩ hn hd

variable {a b:Expr}{ta tb:TE}{pos:Pos}
def PC (X:Cx)(op:CmpOp)(a b:Expr)(t:TE):Prop:=
 ∀(pins:List (Addr×Obj)) (s:Shared) (σ:St) (H:Hp) (Q:VK),Inv X pins σ H s→t σ H Q→
  wpAny (model X.prog X.w) X.A (eval a X.env) (fun v s₁=>wpAny (model X.prog X.w) X.A (eval b X.env) (fun u s₂=>wpAny (model X.prog X.w) X.A (compareOp op v u) (EP X pins σ Q) X.xe s₂) X.xe s₁) X.xe s
theorem zml (b:Expr){op:CmpOp}(h:op≠.In)(h2:op≠.NotIn):behindInMarks op b=false:=by
 have e1:(op == CmpOp.In)=false:=by cases op <;> first | rfl | exact absurd rfl h
 have e2:(op == CmpOp.NotIn)=false:=by cases op <;> first | rfl | exact absurd rfl h2
 cases b <;> simp[behindInMarks,e1,e2]
def tB (t:TE):TT:=fun σ H Q=>t σ H fun x H1=>∃c,x=.bl c∧Q c H1
theorem pt_cmp {op:CmpOp}{t:TE}(h:PC X op a b t)(h1:behindInMarks op b=false:=by first | exact zml _ (by decide) (by decide) | rfl):PT X (.Compare a [op] [b] pos) (tB t):=by
 intro pins s σ H Q I hw
 refine wpAny_isTrue_Compare1 (thn (h pins s σ H _ I hw) fun v s1 h1=>thn h1 fun u s2 h2=>thn h2 fun c s3 ⟨x,H1,I1,r1,q1⟩=>?_) h1
 obtain⟨d,rfl,q⟩:=q1
 cases r1
 exact wpAny_truthy_bool ⟨H1,I1,q⟩
theorem zqc {e:Expr}{t:TE}(h:PE X e t)(he:∀whole,isTrue e X.env whole=(do let v ← whole; standAt e.pos; holding [v] (truthy v)):=by intro _; rfl):PT X e (tB t):=by
 intro pins s σ H Q I hw
 refine isTrue_plain (thn (h pins s σ H _ I hw) fun v s1 ⟨x,H1,I1,r1,q1⟩=>?_) (he _)
 obtain⟨d,rfl,q⟩:=q1
 cases r1
 exact wpAny_truthy_bool ⟨H1,I1,q⟩

variable {tA tB':TT}{zbd:List Expr}
def tOr (t u:TT):TT:=fun σ H Q=>t σ H fun c H1=>if c=true then Q true H1 else u σ H1 Q
def tNot (t:TT):TT:=fun σ H Q=>t σ H fun c H1=>Q (!c) H1
theorem zoT (ha:PT X a tA):PW X (.BoolOp .Or [a] pos) tA:=by
 intro wh pins s σ H Q I h
 refine isTrue_or (thn (ha pins s σ H Q I h) fun c s1 e=>?_)
 cases c with
 | false=>exact isTrue_or_nil e
 | true=>exact e
theorem pw_or (ha:PT X a tA)(hb:PW X (.BoolOp .Or (b::zbd) pos) tB'):PW X (.BoolOp .Or (a::b::zbd) pos) (tOr tA tB'):=by
 intro wh pins s σ H Q I h
 refine isTrue_or (thn (ha pins s σ H _ I h) fun c s1 ⟨H1,I1,q1⟩=>?_)
 cases c with
 | true=>exact⟨H1,I1,q1⟩
 | false=>exact hb wh pins s1 σ H1 Q I1 q1
theorem zpg (ha:PT X a tA):PT X (.UnaryOp .Not a pos) (tNot tA):=by
 intro pins s σ H Q I h
 exact isTrue_not (ha pins s σ H (fun c H1=>Q (!c) H1) I h)
def tAndV (ta tb:TE):TE:=fun σ H Q=>ta σ H fun x H1=>∃c,x=.bl c∧if c=true then tb σ H1 Q else Q (.bl false) H1
def tNotV (ta:TE):TE:=fun σ H Q=>ta σ H fun x H1=>∃c,x=.bl c∧Q (.bl (!c)) H1
theorem zmJ {op}{t:TE}(h:PE X a t):PE X (.BoolOp op [a] pos) t:=fun pins s σ H Q I hw=>BoolOp_one (h pins s σ H Q I hw)
theorem zoQ (ha:PE X a ta)(hb:PE X (.BoolOp .And (b::zbd) pos) tb):PE X (.BoolOp .And (a::b::zbd) pos) (tAndV ta tb):=by
 intro pins s σ H Q I h
 refine BoolOp_and (thn (ha pins s σ H _ I h) fun v s1 ⟨x,H1,I1,r1,q1⟩=>?_)
 obtain⟨c,rfl,q1⟩:=q1
 cases r1
 refine wpAny_truthy_bool ?_
 cases c with
 | true=>exact hb pins s1 σ H1 Q I1 q1
 | false=>exact⟨.bl false,H1,I1,rfl,q1⟩
theorem znc (ha:PE X a ta):PE X (.UnaryOp .Not a pos) (tNotV ta):=by
 intro pins s σ H Q I h
 refine UnaryOp_ (thn (ha pins s σ H _ I h) fun v s1 ⟨x,H1,I1,r1,q1⟩=>?_)
 obtain⟨c,rfl,q1⟩:=q1
 cases r1
 exact not_of (wpAny_truthy_bool ⟨.bl (!c),H1,I1,rfl,q1⟩)
def tIf (t:TT)(ta tb:TE):TE:=fun σ H Q=>t σ H fun c H1=>if c=true then ta σ H1 Q else tb σ H1 Q
theorem zrx {c:Expr}(hc:PT X c tA)(ha:PE X a ta)(hb:PE X b tb):PE X (.IfExp c a b pos) (tIf tA ta tb):=by
 intro pins s σ H Q I h
 refine wpAny_IfExp (thn (hc pins s σ H _ I h) fun d s1 ⟨H1,I1,q1⟩=>?_)
 cases d with
 | true=>exact ha pins s1 σ H1 Q I1 q1
 | false=>exact hb pins s1 σ H1 Q I1 q1
end
end L2

namespace L2
open PySem PySem.Spec PyProof.Rows

def SqL (K:PySem.W.Frag)(H:Hp)(a:Addr)(xs:List V):Prop:=
 Rd H a (.lst xs)∨
  ∃(o:Obj) (its:Array Value) (n:Nat),K.lookup a=some o∧o.cls=.type "list"∧o.dict=none∧o.data=.seq its n∧its.size≤sizeLine∧zap xs its.toList
def SqT (K:PySem.W.Frag)(H:Hp)(a:Addr)(xs:List V):Prop:=
 Rd H a (.tup xs)∨
  ∃(o:Obj) (its:Array Value) (n:Nat),K.lookup a=some o∧o.cls=.type "tuple"∧o.data=.seq its n∧its.size≤sizeLine∧zap xs its.toList
def absV:Value→Option V
 | .none=>some .non
 | .bool b=>some (.bl b)
 | .int i _=>some (.int i)
 | .str x _=>some (.str x)
 | .bytes b _=>some (.byt b)
 | .float b _=>some (.flt b)
 | .ref a=>some (.ref a)
 | .type n=>some (.ty n)
 | _=>none
theorem zal.abs {x:V}{u:Value}(r:zal x u):absV u=some x:=by
 cases x with
 | non=>cases r; rfl
 | bl _=>cases r; rfl
 | int _=>obtain⟨t,rfl⟩:=r; rfl
 | str _=>obtain⟨t,rfl⟩:=r; rfl
 | byt _=>obtain⟨t,rfl⟩:=r; rfl
 | flt _=>obtain⟨t,rfl⟩:=r; rfl
 | ref _=>cases r; rfl
 | ty _=>cases r; rfl
theorem zal.inj {x y:V}{u:Value}(r:zal x u)(q:zal y u):x=y:=Option.some.inj (r.abs.symm.trans q.abs)
theorem zap.inj:∀ {xs ys:List V} {us:List Value},zap xs us→zap ys us→xs=ys
 | _,_,_,.nil,.nil=>rfl
 | _,_,_,.cons r t,.cons r' t'=>by rw[r.inj r',zap.inj t t']
section
variable {X:Cx}{pins:List (Addr×Obj)}{σ:St}{H:Hp}{s:Shared}{a:Addr}{xs ys:List V}
theorem SqL.of {K:PySem.W.Frag}(h:H a=some (.lst xs)):SqL K H a xs:=.inl (.inl h)
theorem SqT.of {K:PySem.W.Frag}(h:H a=some (.tup xs)):SqT K H a xs:=.inl (.inl h)
theorem Inv.list (I:Inv X pins σ H s)(h:SqL X.K H a xs):∃its:List Value,zap xs its∧PlainL s.heap a its.toArray∧xs.length≤sizeLine:=by
 rcases h with h | ⟨o,its,n,hk,hc,hd,hs,hz,r⟩
 ·obtain⟨z,its,n,r,e⟩:=h.ok I.hok
  exact⟨its,r,⟨_,n,e,rfl,rfl,rfl⟩,z⟩
 ·refine⟨its.toList,r,⟨o,n,I.kIn a o hk,hc,hd,by simpa using hs⟩,?_⟩
  have e:=r.length
  simp only[Array.length_toList] at e
  omega
theorem Inv.tuple (I:Inv X pins σ H s)(h:SqT X.K H a xs):∃its:List Value,zap xs its∧IsTup s.heap a its.toArray∧xs.length≤sizeLine:=by
 rcases h with h | ⟨o,its,n,hk,hc,hs,hz,r⟩
 ·obtain⟨z,its,r,p⟩:=h.ok I.hok
  exact⟨its,r,p,z⟩
 ·refine⟨its.toList,r,⟨o,I.kIn a o hk,hc,n,by simpa using hs⟩,?_⟩
  have e:=r.length
  simp only[Array.length_toList] at e
  omega
theorem Inv.list_inj (I:Inv X pins σ H s)(h:SqL X.K H a xs)(h':SqL X.K H a ys):xs=ys:=by
 obtain⟨its,r,⟨o,n,e,_,_,d⟩,_⟩:=I.list h
 obtain⟨its',r',⟨o',n',e',_,_,d'⟩,_⟩:=I.list h'
 rw[e] at e'; cases e'
 rw[d] at d'
 injection d' with d1 _
 have:its=its':=by simpa using congrArg Array.toList d1
 subst this
 exact r.inj r'
end

abbrev Cx.wish (X:Cx)(E:Value→Shared→Prop):Cx:={ X with xe:=E }
abbrev Cx.nox (X:Cx):Cx:=X.wish fun _ _=>False
theorem Cx.Ok.wish {X:Cx}(ok:X.Ok)(E:Value→Shared→Prop):(X.wish E).Ok:=
 ⟨ok.mod,ok.kind,ok.glob,ok.blt,ok.above,ok.inj,ok.has,ok.cab,ok.hd,ok.frames,ok.stk,ok.exf,ok.bs,ok.bsz,ok.noex,ok.exfs,ok.funs,ok.frf⟩
theorem Cx.Ok.unwish {X:Cx}{E:Value→Shared→Prop}(ok:(X.wish E).Ok):X.Ok:=
 ⟨ok.mod,ok.kind,ok.glob,ok.blt,ok.above,ok.inj,ok.has,ok.cab,ok.hd,ok.frames,ok.stk,ok.exf,ok.bs,ok.bsz,ok.noex,ok.exfs,ok.funs,ok.frf⟩
section
variable {X:Cx}{pins:List (Addr×Obj)}{σ:St}{H:Hp}{s:Shared}{E:Value→Shared→Prop}
theorem Inv.wish (I:Inv X pins σ H s)(E:Value→Shared→Prop):Inv (X.wish E) pins σ H s:=⟨I.ok.wish E,I.os,I.bare,I.base,I.loc,I.cell,I.free,I.freeC,I.pin,I.hok,I.len⟩
theorem Inv.unwish (I:Inv (X.wish E) pins σ H s):Inv X pins σ H s:=⟨I.ok.unwish,I.os,I.bare,I.base,I.loc,I.cell,I.free,I.freeC,I.pin,I.hok,I.len⟩
theorem SP.unwish {D:zcG}{f:Flow}{s':Shared}(h:SP (X.wish E) pins D f s'):SP X pins D f s':=by
 cases f with
 | next=>obtain⟨σ',H',I,q⟩:=h; exact⟨σ',H',I.unwish,q⟩
 | brk=>obtain⟨σ',H',I,q⟩:=h; exact⟨σ',H',I.unwish,q⟩
 | cont=>obtain⟨σ',H',I,q⟩:=h; exact⟨σ',H',I.unwish,q⟩
 | ret u=>obtain⟨v,σ',H',I,r,q⟩:=h; exact⟨v,σ',H',I.unwish,r,q⟩
theorem PSs.nox {st:List Stmt}{t:TS}(h:PSs X.nox st t):PSs X st t:=fun pins s σ H D I hw=>
 wpAny_mono (h pins s σ H D (I.wish _) hw) (fun _ _ q=>q.unwish) fun _ _ z=>False.elim z
end

section
variable {X:Cx}{st:Stmt}{zbd:List Stmt}{t u:TS}{e:Expr}{te:TE}{pos:Pos}
def tNext:TS:=fun D σ H=>D.nx σ H
def tSeq (t u:TS):TS:=fun D σ H=>t { D with nx:=u D } σ H
theorem zre:PSs X [] tNext:=fun _ _ σ H _ I h=>wpAny_execs_nil ⟨σ,H,I,h⟩
theorem zmG (h1:PS X st t)(h2:PSs X zbd u):PSs X (st::zbd) (tSeq t u):=by
 intro pins s σ H D I h
 refine wpAny_execs_cons (thn (h1 pins s σ H { D with nx:=u D } I h) fun f s1 q=>?_)
 cases f with
 | next=>
  obtain⟨σ',H',I',q⟩:=q
  exact h2 pins s1 σ' H' D I' q
 | ret v=>exact q
 | brk=>exact q
 | cont=>exact q
theorem znH (h1:PS X st t):PSs X [st] t:=by
 intro pins s σ H D I h
 refine wpAny_execs_cons (thn (h1 pins s σ H D I h) fun f s1 q=>?_)
 cases f with
 | next=>exact wpAny_execs_nil q
 | ret v=>exact q
 | brk=>exact q
 | cont=>exact q
theorem Inv.quiet {pins:List (Addr×Obj)}{σ:St}{H:Hp}{s:Shared}(I:Inv X pins σ H s):interactive X.env=false:=by simp[interactive,I.ok.kind]
def tDrop (te:TE):TS:=fun D σ H=>te σ H fun _ H1=>D.nx σ H1
theorem zqV (he:PE X e te)(hs:swapsWith e none pos.line X.env=pure false:=by rfl):PS X (.Expr e pos) (tDrop te):=by
 intro pins s σ H D I h
 exact wpAny_Expr_any (thn (he pins s σ H _ I h) fun v s1 ⟨x,H1,I1,r1,q1⟩=>⟨σ,H1,I1,q1⟩) I.quiet hs
def tRet (te:TE):TS:=fun D σ H=>te σ H D.rt
theorem zrE (he:PE X e te):PS X (.Return (some e) pos) (tRet te):=by
 intro pins s σ H D I h
 exact wpAny_Return_some (thn (he pins s σ H _ I h) fun v s1 ⟨x,H1,I1,r1,q1⟩=>⟨x,σ,H1,I1,r1,q1⟩)
def tIfS (c:TT)(t u:TS):TS:=fun D σ H=>c σ H fun b H1=>if b=true then t D σ H1 else u D σ H1
theorem ps_if {c:Expr}{a b:List Stmt}{tc:TT}(hc:PT X c tc)(ha:PSs X a t)(hb:PSs X b u):PS X (.If c a b pos) (tIfS tc t u):=by
 intro pins s σ H D I h
 refine wpAny_If (thn (hc pins s σ H _ I h) fun d s1 ⟨H1,I1,q1⟩=>?_)
 cases d with
 | true=>exact ha pins s1 σ H1 D I1 q1
 | false=>exact hb pins s1 σ H1 D I1 q1
def zqH:TS:=fun _ _ _=>False
theorem zni:PS X st zqH:=fun _ _ _ _ _ _ h=>h.elim
end

abbrev TG:=V→St→Hp→(St→Hp→Prop)→Prop
abbrev TGs:=List V→St→Hp→(St→Hp→Prop)→Prop
def PG (X:Cx)(target:Expr)(t:TG):Prop:=
 ∀(pins:List (Addr×Obj)) (s:Shared) (σ:St) (H:Hp) (v:V) (u:Value) (Q:St→Hp→Prop),Inv X pins σ H s→zal v u→t v σ H Q→
  wpAny (model X.prog X.w) X.A (assign target X.env u) (fun _ s'=>∃σ' H',Inv X pins σ' H' s'∧Q σ' H') X.xe s
def PGs (X:Cx)(ts:List Expr)(t:TGs):Prop:=
 ∀(pins:List (Addr×Obj)) (s:Shared) (σ:St) (H:Hp) (vs:List V) (us:List Value) (Q:St→Hp→Prop),Inv X pins σ H s→zap vs us→t vs σ H Q→
  wpAny (model X.prog X.w) X.A (assignInOrder ((assignEach ts X.env).map (·.2)) us) (fun _ s'=>∃σ' H',Inv X pins σ' H' s'∧Q σ' H') X.xe s
section
variable {X:Cx}{pos:Pos}
def zlv (i:Nat):TG:=fun v σ H Q=>Q (σ.set i (some v)) H
theorem zhI {i:Nat}{x:Str}(hN:X.N.Nodup)(hi:X.N[i]?=some x)(hx:Loc X.env.scope x)(hf:X.fn x=true∨X.env.scope.names.lookup x=some .local:=by first | exact .inl rfl | exact .inr rfl | assumption):PG X (.Name x pos) (zlv i):=by
 intro pins s σ H v u Q I r h
 exact wpAny_assign_Name (zhr I hN hi hx r (fun s' I'=>⟨_,H,I',h⟩) hf)
def gNil:TGs:=fun vs σ H Q=>vs=[]∧Q σ H
def gCons (t:TG)(u:TGs):TGs:=fun vs σ H Q=>∃v r,vs=v::r∧t v σ H fun σ' H'=>u r σ' H' Q
theorem zpy:PGs X [] gNil:=by
 intro pins s σ H vs us Q I r h
 obtain⟨e,h⟩:=h
 subst e
 cases r
 exact assignInOrder_nil ⟨σ,H,I,h⟩
theorem zpx {e:Expr}{es:List Expr}{t:TG}{u:TGs}(h1:PG X e t)(h2:PGs X es u)
  (hs:(assignEach (e::es) X.env).map (·.2)=assign e X.env::(assignEach es X.env).map (·.2):=by rfl):PGs X (e::es) (gCons t u):=by
 intro pins s σ H vs us Q I r h
 obtain⟨v,vr,e1,h⟩:=h
 subst e1
 cases r with
 | cons r rr=>
  rw[hs]
  refine assignInOrder_cons (thn (h1 pins s σ H _ _ _ I r h) fun _ s1 ⟨σ1,H1,I1,q1⟩=>?_)
  exact h2 pins s1 σ1 H1 _ _ Q I1 rr q1
def zdc (K:PySem.W.Frag)(n:Nat)(t:TGs):TG:=fun v σ H Q=>∃a xs,v=.ref a∧SqT K H a xs∧xs.length=n∧t xs σ H Q
theorem zgF {es:List Expr}{k:Nat}{t:TGs}{n:Nat}(hc:X.calm=true)(h:PGs X es t)
  (hn:(assignEach es X.env).length=n:=by rfl)(hst:(assignEach es X.env).findIdx? (·.1)=none:=by rfl):PG X (.Tuple es k pos) (zdc X.K n t):=by
 intro pins s σ H v u Q I r hw
 obtain⟨a,xs,e1,hq,hl,hw⟩:=hw
 subst e1
 cases r
 obtain⟨its,rv,ht,hz⟩:=I.tuple hq
 refine assign_Tuple_tuple (I.ok.hd hc) ht (by simp[hn,← hl,rv.length]) hst fun h' hx=>?_
 have I1:Inv X pins σ H { s with heap:=h' }:=I.kept (t':=s.toks) fun b o e=>hx b o (Nat.ne_of_lt (Heap.lt_size e)) e
 exact h pins _ σ H xs _ Q I1 (by simpa using rv) hw
def tAsg (te:TE)(g:TG):TS:=fun D σ H=>te σ H fun x H1=>g x σ H1 D.nx
theorem zna {i:Nat}{x:Str}{e:Expr}{te:TE}{pos':Pos}(hN:X.N.Nodup)(hi:X.N[i]?=some x)(hx:Loc X.env.scope x)(he:PE X e te)(hs:swapsWith e (some (.Name x pos')) pos.line X.env=pure false:=by rfl)(hf:X.fn x=true∨X.env.scope.names.lookup x=some .local:=by first | exact .inl rfl | exact .inr rfl | assumption):
  PS X (.Assign [.Name x pos'] e pos) (tAsg te (zlv i)):=by
 intro pins s σ H D I h
 refine wpAny_Assign_Name (thn (he pins s σ H _ I h) fun v s1 ⟨y,H1,I1,r1,q1⟩=>?_) hs
 exact zhr I1 hN hi hx r1 (fun s2 I2=>⟨_,H1,I2,q1⟩) hf
def tPar (i j:Nat)(ta:TA):TS:=fun D σ H=>ta σ H fun vs H1=>∃v w,vs=[v,w]∧D.nx ((σ.set i (some v)).set j (some w)) H1
theorem zqj {i j:Nat}{x y:Str}{a b:Expr}{ta:TA}{px py pt:Pos}{kt k2 pt2}(hc:X.calm=true)(hN:X.N.Nodup)(hi:X.N[i]?=some x)(hj:X.N[j]?=some y)(hij:i≠j)
  (hx:X.env.scope.names.lookup x=some .local)(hy:X.env.scope.names.lookup y=some .local)(ha:PA X [a,b] ta)
  (hw:swappedStores [.Tuple [.Name x px,.Name y py] kt pt] (.Tuple [a,b] k2 pt2) X.env=pure (some [x,y]))
  (hs:swapsWithSole [.Tuple [.Name x px,.Name y py] kt pt] (.Tuple [a,b] k2 pt2) pos.line X.env=pure false:=by rfl):
  PS X (.Assign [.Tuple [.Name x px,.Name y py] kt pt] (.Tuple [a,b] k2 pt2) pos) (tPar i j ta):=by
 intro pins s σ H D I h
 rw[exec_Assign_arm]
 refine wpAny_bind (wpAny_standAt ?_)
 rw[hs]
 refine wpAny_bind (wpAny_pure ?_)
 rw[if_neg (by decide)]
 refine wpAny_bind (Tuple_ (thn (ha _ pins s σ H _ I h) fun us s1 ⟨vs,H1,I1,r1,q1⟩=>?_))
 obtain⟨v,w,e1,q1⟩:=q1
 subst e1
 obtain⟨u1,u2,rfl,rv,rw'⟩:∃u1 u2,us=[u1,u2]∧zal v u1∧zal w u2:=by
  cases r1 with
  | cons p q=>
   cases q with
   | cons p' q'=>
    cases q'
    exact⟨_,_,rfl,p,p'⟩
 refine wpAny_newObj_type ?_ (by show 2≤sizeLine; decide)
 have I2:Inv X pins σ H1 { s1 with heap:=s1.heap.push { cls:=.type "tuple",data:=.seq [u1,u2].toArray } }:=I1.kept (t':=s1.toks) fun b o e=>Heap.get?_push_of_some _ e
 rw[hw]
 refine wpAny_bind (wpAny_pure ?_)
 show wpAny (model X.prog X.w) X.A (do rule "assign.swapped-stores"; let items ← unpackItems (.ref s1.heap.objs.size) 2 none; assignInOrder [fun v=>bindName X.env y v,fun v=>bindName X.env x v] items.reverse; pure Flow.next) _ _ _
 refine wpAny_bind (wpAny_rule (wpAny_bind (unpackItems_tuple (items:=#[u1,u2]) (I.ok.hd hc) (IsTup.new s1.heap _) fun h' hx'=>?_)))
 have I3:=I2.kept (h':=h') (t':=s1.toks) fun b o e=>hx' b o (Nat.ne_of_lt (Heap.lt_size e)) e
 show wpAny _ _ (assignInOrder [fun v=>bindName X.env y v,fun v=>bindName X.env x v] [u2,u1] >>= fun _=>pure Flow.next) _ _ _
 refine wpAny_bind (assignInOrder_cons (wpAny_bindName (zhr I3 hN hj (.inl hy) rw' (fun s2 I4=>?_) (.inr hy))))
 refine assignInOrder_cons (wpAny_bindName (zhr I4 hN hi (.inl hx) rv (fun s3 I5=>assignInOrder_nil (wpAny_pure ?_)) (.inr hx)))
 rw[List.set_comm _ _ (Ne.symm hij)] at I5
 exact⟨_,H1,I5,q1⟩
end

section
variable {X:Cx}{pos:Pos}
def zmp (c:TT)(tb:TS):TS:=fun D σ H=>∃W:Nat→St→Hp→Prop,(∃m,W m σ H)∧∀m σ H,W m σ H→
 c σ H fun b H1=>if b=true then ∃N:St→Hp→Prop,(∀σ' H',N σ' H'→∃m',m' < m∧W m' σ' H')∧tb { D with nx:=N,ct:=N,bk:=D.nx } σ H1 else D.nx σ H1
theorem zoW {c:Expr}{body:List Stmt}{tc:TT}{tb:TS}(hp:PassesOwn (model X.prog X.w) X.A X.env X.xe)(hc:PT X c tc)(hb:PSs X body tb):PS X (.While c body [] pos) (zmp tc tb):=by
 intro pins s σ H D I h
 obtain⟨W,⟨m0,w0⟩,turn⟩:=h
 refine wpAny_While (codeAny_whileLoop (fun n s'=>∃σ' H',Inv X pins σ' H' s'∧W n σ' H') ?_ m0 ⟨σ,H,I,w0⟩)
 rintro n s1 ⟨σ1,H1,I1,w1⟩
 refine wpAny_passesOwn hp (thn (hc pins s1 σ1 H1 _ I1 (turn n σ1 H1 w1)) fun b s2 ⟨H2,I2,q2⟩=>?_)
 cases b with
 | true=>
  obtain⟨N,hN,q2⟩:=q2
  rw[if_pos rfl]
  refine wpAny_passesOwn hp (thn (hb pins s2 σ1 H2 _ I2 q2) fun f s3 q3=>?_)
  cases f with
  | next=>
   obtain⟨σ3,H3,I3,n3⟩:=q3
   obtain⟨m',hm,w3⟩:=hN σ3 H3 n3
   exact⟨m',hm,σ3,H3,I3,w3⟩
  | cont=>
   obtain⟨σ3,H3,I3,n3⟩:=q3
   obtain⟨m',hm,w3⟩:=hN σ3 H3 n3
   exact⟨m',hm,σ3,H3,I3,w3⟩
  | brk=>exact q3
  | ret v=>exact q3
 | false=>
  rw[if_neg Bool.false_ne_true]
  exact wpAny_execs_nil ⟨σ1,H2,I2,q2⟩
end

structure It where
 go:Nat→Hp→Prop
 yld:Nat→Hp→V→Hp→Prop
 stop:Nat→Hp→Prop
def zbm (X:Cx)(pins:List (Addr×Obj))(H:Hp)(b:Addr):Prop:=
 H b=none∧b≠X.env.locals∧b ∉ X.fs∧(b∈X.ex∨X.s₀.heap.objs.size≤b)∧(∀x c,X.env.cells.lookup x=some c→c≠b)∧∀p∈X.pn++pins,p.1≠b
theorem Inv.fpOk {X:Cx}{pins:List (Addr×Obj)}{σ:St}{H H':Hp}{s:Shared}{b:Addr}(I:Inv X pins σ H s)(hb:s.heap.objs.size≤b)(hn:H' b=none):zbm X pins H' b:=by
 refine⟨hn,Nat.ne_of_gt (Nat.lt_of_lt_of_le I.lt hb),I.nofs hb,.inr (Nat.le_trans I.sz hb),fun x c e z=>?_,fun p hp z=>?_⟩
 ·obtain⟨v,q⟩:=I.cell x c e
  exact absurd (Nat.lt_of_lt_of_le q.lt (by rw[z]; exact hb)) (Nat.lt_irrefl _)
 ·exact absurd (Nat.lt_of_lt_of_le (Heap.lt_size (I.pin p hp).1) (by rw[z]; exact hb)) (Nat.lt_irrefl _)
structure zgh (P:Program)(w:World)(K:PySem.W.Frag)(tg:Expr)(J:It)(fp:List Addr)(it:Addr)(tn:Nat→Heap→Prop):Prop where
 mem:it∈fp
 obj:∀i h,tn i h→∀b∈fp,∃o,h.get? b=some o∧∀v,o.data≠.cell v
 keep:∀i h h',tn i h→(∀b∈fp,∀o,h.get? b=some o→h'.get? b=some o)→tn i h'
 item:∀(X:Cx),X.prog=P→X.w=w→X.K=K→X.calm=true→∀(i:Nat) (pins:List (Addr×Obj)) (s:Shared) (σ:St) (H:Hp) (E:Value→Shared→Prop),Inv X pins σ H s→(∀b∈fp,zbm X pins H b)→tn i s.heap→J.go i H→
  wpAny (model P w) X.A (pyNext (.ref it)) (fun r s1=>∃u,r=some u∧
   wpAny (model P w) X.A (letOwnedTupleGo tg (.ref it) u) (fun _ s2=>∃x H',Inv X pins σ H' s2∧zal x u∧J.yld i H x H'∧tn (i + 1) s2.heap∧∀b∈fp,H' b=none) E s1) E s
 done:∀(X:Cx),X.prog=P→X.w=w→X.K=K→X.calm=true→∀(i:Nat) (pins:List (Addr×Obj)) (s:Shared) (σ:St) (H:Hp) (E:Value→Shared→Prop),Inv X pins σ H s→(∀b∈fp,zbm X pins H b)→tn i s.heap→J.stop i H→
  wpAny (model P w) X.A (pyNext (.ref it)) (fun r s1=>r=none∧Inv X pins σ H s1) E s
 self:∀(A:Around) (i:Nat) (s:Shared) (Q:Value→Shared→Prop) (E:Value→Shared→Prop),tn i s.heap→Q (.ref it) s→wpAny (model P w) A (pyIter (.ref it)) Q E s
abbrev TI:=St→Hp→(It→Hp→Prop)→Prop
def PIE (X:Cx)(pins:List (Addr×Obj))(σ:St)(tg:Expr)(R:It→Hp→Prop)(itv:Value)(s2:Shared):Prop:=
 ∃(it:Addr) (fp:List Addr) (tn:Nat→Heap→Prop) (J:It) (H':Hp),itv=.ref it∧Inv X pins σ H' s2∧zgh X.prog X.w X.K tg J fp it tn∧tn 0 s2.heap∧(∀b∈fp,zbm X pins H' b)∧R J H'
def PI (X:Cx)(tg iter:Expr)(wi:TI):Prop:=
 ∀(pins:List (Addr×Obj)) (s:Shared) (σ:St) (H:Hp) (R:It→Hp→Prop),Inv X pins σ H s→wi σ H R→
  wpAny (model X.prog X.w) X.A (eval iter X.env) (fun v s1=>wpAny (model X.prog X.w) X.A (pyIter v) (PIE X pins σ tg R) X.xe s1) X.xe s

theorem zki {M:Model}{A:Around}{E:Value→Shared→Prop}{s:Shared}{tg:Expr}{it:Addr}{u:Value}{o:Obj}{n:String}{vs:Array Value}{Q:Unit→Shared→Prop}(ho:s.heap.get? it=some o)(hc:o.cls=.type n)(hd:o.data=.fields vs)
    (hn:["enumerate","zip","dict_itemiterator","dict_reverseitemiterator","odict_iterator","itertools.zip_longest","itertools.pairwise"].contains n=false)(hQ:Q () s):wpAny M A (letOwnedTupleGo tg (.ref it) u) Q E s:=by
  unfold letOwnedTupleGo
  cases tg <;> first
    | exact wpAny_pure hQ
    | (cases u <;> first
        | exact wpAny_pure hQ
        | (refine wpAny_bind (wpAny_load ho ?_)
           rw[hc,hd]
           show wpAny M A (if (["enumerate","zip","dict_itemiterator","dict_reverseitemiterator","odict_iterator","itertools.zip_longest","itertools.pairwise"].contains n && vs[0]? == some (rawInt _))=true then _ else _) Q E s
           rw[if_neg (by intro h; rw[hn,Bool.false_and] at h; cases h)]
           exact wpAny_pure hQ))

def Itl (K:PySem.W.Frag)(a:Addr):It:=
 ⟨fun i H=>∃xs x,SqL K H a xs∧xs[i]?=some x,fun i H x H'=>H'=H∧∀xs,SqL K H a xs→xs[i]?=some x,fun i H=>∃xs,SqL K H a xs∧xs.length≤i⟩
def Itr (lo:Int)(n:Nat):It:=⟨fun i _=>i < n,fun i H x H'=>H'=H∧x=.int (lo + i),fun i _=>n≤i⟩
theorem zp8 {P:Program}{w:World}{K:PySem.W.Frag}{tg:Expr}(a it:Addr):zgh P w K tg (Itl K a) [it] it (fun i h=>h.IsListIter it a i) where
 mem:=by simp
 obj:=fun i h st b hb=>by
  have e:b=it:=by simpa using hb
  subst e
  obtain⟨o,e,c,d⟩:=st
  exact⟨o,e,fun v z=>by rw[d] at z; cases z⟩
 keep:=fun i h h' st k=>st.at fun o e=>k it (by simp) o e
 item:=by
  intro X hP hw hK hc i pins s σ H E I hf st hg
  subst hP hw hK
  obtain⟨xs,x,hq,hx⟩:=hg
  obtain⟨its,rv,p,hz⟩:=I.list hq
  obtain⟨u,hu,ru⟩:=rv.get hx
  obtain⟨f0,f1,f2,f3,f4,f5⟩:=hf it (by simp)
  refine wpAny_pyNext_list_item st p.isList (x:=u) (by simpa using hu) fun h' st' sb=>?_
  have I1:Inv X pins σ H { s with heap:=h' }:=I.turned (t':=s.toks) (fun b o hb e=>(sb.2 b hb).trans e) f0 f1 f3 f4 f5
  obtain⟨o,e,c,d⟩:=id st'
  exact⟨u,rfl,zki (s:={ s with heap:=h' }) e c d (by decide) ⟨x,H,I1,ru,⟨rfl,fun ys hy=>by rw[I.list_inj hy hq]; exact hx⟩,st',fun b hb=>(hf b hb).1⟩⟩
 done:=by
  intro X hP hw hK hc i pins s σ H E I hf st hg
  subst hP hw hK
  obtain⟨xs,hq,hx⟩:=hg
  obtain⟨its,rv,p,hz⟩:=I.list hq
  obtain⟨f0,f1,f2,f3,f4,f5⟩:=hf it (by simp)
  have hl:=rv.length
  exact wpAny_pyNext_list_end (I.ok.hd hc) st p.isList (by simp; omega) fun h' eb=>⟨rfl,I.turned (t':=s.toks) (fun b o hb e=>eb b o hb e) f0 f1 f3 f4 f5⟩
 self:=fun _ _ _ _ _ st h=>wpAny_pyIter_listiter st h
theorem zot {P:Program}{w:World}{K:PySem.W.Frag}{tg:Expr}(it:Addr)(lo:Int)(n:Nat):zgh P w K tg (Itr lo n) [it] it (fun i h=>IsRangeIter h it (lo + (i:Nat) * 1) ((n:Int) - (i:Nat)) 1) where
 mem:=by simp
 obj:=fun i h st b hb=>by
  have e:b=it:=by simpa using hb
  subst e
  exact⟨_,st,fun v z=>by
   have z':Data.fields _=Data.cell v:=z
   cases z'⟩
 keep:=fun i h h' st k=>k it (by simp) _ st
 item:=by
  intro X hP hw hK hc i pins s σ H E I hf st hg
  subst hP hw hK
  obtain⟨f0,f1,f2,f3,f4,f5⟩:=hf it (by simp)
  have W:=Walks.range (prog:=X.prog) (w:=X.w) (I.ok.hd hc) it lo 1 n
  refine W.item i s _ _ hg st fun v h' tk hv st' kk=>?_
  obtain⟨t,rfl⟩:=hv
  have I1:Inv X pins σ H { s with heap:=h',toks:=tk }:=I.turned (fun b o hb e=>kk b o (by simpa using hb) e) f0 f1 f3 f4 f5
  refine⟨_,rfl,zki (s:={ s with heap:=h',toks:=tk }) (n:="range_iterator") st' rfl rfl (by decide) ⟨.int (lo + i),H,I1,⟨t,?_⟩,⟨rfl,rfl⟩,st',fun b hb=>(hf b hb).1⟩⟩
  rw[Int.mul_one]
 done:=by
  intro X hP hw hK hc i pins s σ H E I hf st hg
  subst hP hw hK
  obtain⟨f0,f1,f2,f3,f4,f5⟩:=hf it (by simp)
  exact wpAny_pyNext_range_end (I.ok.hd hc) st (by have:n≤i:=hg; omega) fun h' eb=>⟨rfl,I.turned (t':=s.toks) (fun b o hb e=>eb b o hb e) f0 f1 f3 f4 f5⟩
 self:=fun _ _ _ _ _ st h=>wpAny_pyIter_rangeiter st h
end L2

namespace L2
open PySem PySem.Spec PyProof.Rows
section
variable {X:Cx}{tg:Expr}
def zlt (K:PySem.W.Frag)(tl:TE):TI:=fun σ H R=>tl σ H fun x H1=>∃a,x=.ref a∧(∃xs,SqL K H1 a xs)∧R (Itl K a) H1
theorem zjd {l:Expr}{tl:TE}(hl:PE X l tl):PI X tg l (zlt X.K tl):=by
 intro pins s σ H R I h
 refine thn (hl pins s σ H _ I h) fun v s1 ⟨x,H1,I1,r1,q1⟩=>?_
 obtain⟨a,e,⟨xs,hq⟩,q⟩:=q1
 subst e
 cases r1
 obtain⟨its,rv,p,hz⟩:=I1.list hq
 refine wpAny_pyIter_list p.isList ?_
 refine⟨s1.heap.objs.size,[s1.heap.objs.size],_,_,H1,rfl,I1.kept (t':=s1.toks) fun b o e=>Heap.get?_push_of_some _ e,zp8 a _,⟨_,Heap.get?_push_size _ rfl,rfl,rfl⟩,fun b hb=>?_,q⟩
 have e:b=s1.heap.objs.size:=by simpa using hb
 subst e
 exact I1.fpOk (Nat.le_refl _) (I1.hok.fresh (Nat.le_refl _))
theorem znS {pins:List (Addr×Obj)}{σ:St}{H:Hp}{s:Shared}{R:It→Hp→Prop}{E:Value→Shared→Prop}{lo hi:Int}{t u v:Tok}{tk:Nat}(I:Inv X pins σ H s)(h1:-(2 ^ 62)≤lo)(h2:lo < 2 ^ 62)(h3:-(2 ^ 62)≤hi)(h4:hi < 2 ^ 62)
  (q:R (Itr lo (hi - lo).toNat) H):wpAny (model X.prog X.w) X.A (pyIter (.ref s.heap.objs.size)) (PIE X pins σ tg R) E { s with heap:=s.heap.push { cls:=.type "range",data:=.fields #[.int lo t,.int hi u,.int 1 v] },toks:=tk }:=by
 refine wpAny_pyIter_range (IsRange.new ..) (small_one h1 h2 h3 h4) ?_
 have I1:Inv X pins σ H { s with heap:=s.heap.push { cls:=.type "range",data:=.fields #[.int lo t,.int hi u,.int 1 v] },toks:=tk }:=I.kept fun b o e=>Heap.get?_push_of_some _ e
 refine⟨(s.heap.push { cls:=.type "range",data:=.fields #[.int lo t,.int hi u,.int 1 v] }).objs.size,[(s.heap.push { cls:=.type "range",data:=.fields #[.int lo t,.int hi u,.int 1 v] }).objs.size],_,_,H,rfl,
  I1.kept (t':=tk) fun b o e=>Heap.get?_push_of_some _ e,zot _ lo (hi - lo).toNat,?_,fun b hb=>?_,q⟩
 ·have e1:lo + ((0:Nat):Int) * 1=lo:=by simp
  have e2:(((hi - lo).toNat:Nat):Int) - ((0:Nat):Int)=Builtin.Range.rangeSize lo hi 1:=by rw[rangeSize_one]; split <;> omega
  show IsRangeIter _ _ (lo + ((0:Nat):Int) * 1) ((((hi - lo).toNat:Nat):Int) - ((0:Nat):Int)) 1
  rw[e1,e2]
  exact Heap.get?_push_size _ rfl
 ·have e:b=(s.heap.push { cls:=.type "range",data:=.fields #[.int lo t,.int hi u,.int 1 v] }).objs.size:=by simpa using hb
  subst e
  exact I1.fpOk (Nat.le_refl _) (I1.hok.fresh (Nat.le_refl _))
def zkv (ta:TA):TI:=fun σ H R=>ta σ H fun vs H1=>∃j:Int,vs=[.int j]∧-(2 ^ 62)≤j∧j < 2 ^ 62∧R (Itr 0 j.toNat) H1
theorem zjs {a:Expr}{ta:TA}{p pos:Pos}(hg:Gl X "range")(hm:X.mg "range"=none)(ha:PA X [a] ta)(hs:starEach [a] X.env=[(false,eval a X.env)]:=by rfl):PI X tg (.Call (.Name "range" p) [a] [] pos) (zkv ta):=by
 intro pins s σ H R I h
 refine Call_ (zdq I hg hm boot_range (PyProof.Rows.callWith_type1 (thn (ha pos pins s σ H _ I h) fun us s1 ⟨vs,H1,I1,r1,q1⟩=>?_) hs rfl))
 obtain⟨j,e,q1,q2,q⟩:=q1
 subst e
 cases r1 with
 | cons r rr=>
  cases rr
  obtain⟨t,rfl⟩:=r
  exact call_range_1 (znS I1 (by omega) (by omega) q1 q2 (by simpa using q))
def tFor (wi:TI)(g:TG)(tb:TS):TS:=fun D σ H=>wi σ H fun J H1=>∃W:Nat→Nat→St→Hp→Prop,(∃m,W 0 m σ H1)∧∀i m σ H,W i m σ H→
 (J.stop i H∧D.nx σ H)∨(J.go i H∧∃N:St→Hp→Prop,(∀σ' H',N σ' H'→∃m',m' < m∧W (i + 1) m' σ' H')∧∀x H',J.yld i H x H'→g x σ H' fun σ2 H2=>tb { D with nx:=N,ct:=N,bk:=D.nx } σ2 H2)
def zdt (fp:List Addr)(h:Heap):List (Addr×Obj):=fp.filterMap fun b=>(h.get? b).map fun o=>(b,o)
theorem zdm {fp:List Addr}{h:Heap}{b:Addr}{o:Obj}(hb:b∈fp)(e:h.get? b=some o):(b,o)∈zdt fp h:=List.mem_filterMap.mpr ⟨b,hb,by rw[e]; rfl⟩
theorem zmn {fp:List Addr}{h:Heap}{p:Addr×Obj}(hp:p∈zdt fp h):p.1∈fp∧h.get? p.1=some p.2:=by
 obtain⟨b,hb,e⟩:=List.mem_filterMap.mp hp
 cases q:h.get? b with
 | none=>rw[q] at e; cases e
 | some o=>
  rw[q] at e
  have e':(b,o)=p:=Option.some.inj e
  subst e'
  exact⟨hb,q⟩
theorem Inv.pinned {pins:List (Addr×Obj)}{σ:St}{H:Hp}{s:Shared}{fp:List Addr}(I:Inv X pins σ H s)(hf:∀b∈fp,zbm X pins H b)(ho:∀b∈fp,∃o,s.heap.get? b=some o∧∀v,o.data≠.cell v):Inv X (pins++zdt fp s.heap) σ H s:=
 I.pins_of fun p hp=>(List.mem_append.mp hp).elim (fun z=>I.pin p (List.mem_append_right _ z)) fun z=>by
  obtain⟨hb,e⟩:=zmn z
  obtain⟨f0,f1,f2,_⟩:=hf p.1 hb
  obtain⟨o,e',d⟩:=ho p.1 hb
  rw[e] at e'; cases e'
  exact⟨e,f0,f1,f2,d⟩
theorem Inv.unpinned {pins pl:List (Addr×Obj)}{σ:St}{H:Hp}{s:Shared}(I:Inv X (pins++pl) σ H s):Inv X pins σ H s:=I.pins_of fun p hp=>I.pin p (List.mem_append_right _ (List.mem_append_left _ hp))
theorem ziT {iter:Expr}{body:List Stmt}{wi:TI}{g:TG}{tb:TS}{pos:Pos}(hp:PassesOwn (model X.prog X.w) X.A X.env X.xe)(hc:X.calm=true)(hi:PI X tg iter wi)(hg:PG X tg g)(hb:PSs X body tb)
  (hs:∀x,foldedSetIterable iter X.env x=pure x:=by intro _; rfl):PS X (.For tg iter body [] pos) (tFor wi g tb):=by
 intro pins s σ H D I h
 refine wpAny_For (thn (hi pins s σ H _ I h) fun v s1 h1=>thn h1 fun itv s2 h2=>?_) hs
 obtain⟨it,fp,tn,J,H2,e,I2,T,st2,f2,W,⟨m0,w0⟩,turn⟩:=h2
 subst e
 -- what stays true of the iterator's objects through the loop
 have stat:∀ {H':Hp},(∀b∈fp,H' b=none)→∀b∈fp,zbm X pins H' b:=fun hn b hb=>⟨hn b hb,(f2 b hb).2⟩
 refine codeAny_forLoop_any (fun n s'=>∃i σ' H',Inv X pins σ' H' s'∧tn i s'.heap∧(∀b∈fp,H' b=none)∧W i n σ' H') ?_ m0 ⟨0,σ,H2,I2,st2,fun b hb=>(f2 b hb).1,w0⟩
 rintro n s3 ⟨i,σ3,H3,I3,st3,fr3,w3⟩
 rcases turn i n σ3 H3 w3 with ⟨stop,qn⟩ | ⟨go,N,hN,step⟩
 ·refine wpAny_passesOwn hp (thn (T.done X rfl rfl rfl hc i pins s3 σ3 H3 X.xe I3 (stat fr3) st3 stop) fun r s4 ⟨hr,I4⟩=>?_)
  subst hr
  exact wpAny_execs_nil ⟨σ3,H3,I4,qn⟩
 ·refine wpAny_passesOwn hp (thn (T.item X rfl rfl rfl hc i pins s3 σ3 H3 X.xe I3 (stat fr3) st3 go) fun r s4 ⟨u,hr,h4⟩=>?_)
  subst hr
  refine wpAny_passesOwn hp (thn h4 fun _ s5 ⟨x,H5,I5,r5,y5,st5,fr5⟩=>?_)
  have I5':=I5.pinned (stat fr5) (T.obj _ _ st5)
  refine wpAny_passesOwn hp (thn (hg _ s5 σ3 H5 x u _ I5' r5 (step x H5 y5)) fun _ s6 ⟨σ6,H6,I6,q6⟩=>?_)
  refine wpAny_passesOwn hp (thn (hb _ s6 σ6 H6 _ I6 q6) fun f s7 q7=>?_)
  have again:∀ {σ7:St} {H7:Hp},Inv X (pins++zdt fp s5.heap) σ7 H7 s7→N σ7 H7→∃m,m < n∧∃i σ' H',Inv X pins σ' H' s7∧tn i s7.heap∧(∀b∈fp,H' b=none)∧W i m σ' H':=fun {σ7 H7} I7 n7=>by
   obtain⟨m',hm,w7⟩:=hN σ7 H7 n7
   refine⟨m',hm,i + 1,σ7,H7,I7.unpinned,T.keep _ _ _ st5 fun b hb o e=>(I7.pin (b,o) (List.mem_append_right _ (List.mem_append_right _ (zdm hb e)))).1,fun b hb=>?_,w7⟩
   obtain⟨o,e,d⟩:=T.obj _ _ st5 b hb
   exact(I7.pin (b,o) (List.mem_append_right _ (List.mem_append_right _ (zdm hb e)))).2.1
  cases f with
  | next=>obtain⟨σ7,H7,I7,n7⟩:=q7; exact again I7 n7
  | cont=>obtain⟨σ7,H7,I7,n7⟩:=q7; exact again I7 n7
  | brk=>obtain⟨σ7,H7,I7,q7⟩:=q7; exact⟨σ7,H7,I7.unpinned,q7⟩
  | ret v=>obtain⟨x7,σ7,H7,I7,r7,q7⟩:=q7; exact⟨x7,σ7,H7,I7.unpinned,r7,q7⟩
end

end L2

namespace L2
open PySem PySem.Spec PyProof.Rows

abbrev R2:=V→V→Hp→VK→Prop
def OpR (X:Cx)(f:Value→Value→Sem Value)(r:R2):Prop:=
 ∀(pins:List (Addr×Obj)) (s:Shared) (σ:St) (H:Hp) (x y:V) (v u:Value) (Q:VK),Inv X pins σ H s→zal x v→zal y u→r x y H Q→
  wpAny (model X.prog X.w) X.A (f v u) (EP X pins σ Q) X.xe s
def UnR (X:Cx)(f:Value→Sem Value)(r:V→Hp→VK→Prop):Prop:=
 ∀(pins:List (Addr×Obj)) (s:Shared) (σ:St) (H:Hp) (x:V) (v:Value) (Q:VK),Inv X pins σ H s→zal x v→r x H Q→
  wpAny (model X.prog X.w) X.A (f v) (EP X pins σ Q) X.xe s
def za8 (X:Cx)(f:Value)(r:List V→Hp→VK→Prop):Prop:=
 ∀(pins:List (Addr×Obj)) (s:Shared) (σ:St) (H:Hp) (xs:List V) (us:List Value) (Q:VK),Inv X pins σ H s→zap xs us→r xs H Q→
  wpAny (model X.prog X.w) X.A (call f us) (EP X pins σ Q) X.xe s
def tOp (r:R2)(ta tb:TE):TE:=fun σ H Q=>ta σ H fun x H1=>tb σ H1 fun y H2=>r x y H2 Q
def tUn (r:V→Hp→VK→Prop)(ta:TE):TE:=fun σ H Q=>ta σ H fun x H1=>r x H1 Q
def rI (C:Int→Int→Prop)(g:Int→Int→V):R2:=fun x y H Q=>∃i j,x=.int i∧y=.int j∧C i j∧Q (g i j) H
def rI0 (g:Int→Int→V):R2:=fun x y H Q=>∃i j,x=.int i∧y=.int j∧Q (g i j) H
def rU (g:Int→V):V→Hp→VK→Prop:=fun x H Q=>∃i,x=.int i∧Q (g i) H

section
variable {X:Cx}{a b c:Expr}{ta tb tc:TE}{pos:Pos}

theorem binT (ha:PE X a ta)(hb:PE X b tb){pins:List (Addr×Obj)}{s:Shared}{σ:St}{H:Hp}{R:V→V→Hp→Prop}(I:Inv X pins σ H s)
  (h:ta σ H fun x H1=>tb σ H1 fun y H2=>R x y H2){Q:Value→Shared→Prop}{f:Value→Value→Sem Value}
  (hf:∀v u s2 x y H2,Inv X pins σ H2 s2→zal x v→zal y u→R x y H2→wpAny (model X.prog X.w) X.A (f v u) Q X.xe s2):
  wpAny (model X.prog X.w) X.A (eval a X.env) (fun v s₁=>wpAny (model X.prog X.w) X.A (eval b X.env) (fun u s₂=>wpAny (model X.prog X.w) X.A (f v u) Q X.xe s₂) X.xe s₁) X.xe s:=by
 refine thn (ha pins s σ H _ I h) fun v s1 ⟨x,H1,I1,r1,q1⟩=>?_
 refine thn (hb pins s1 σ H1 _ I1 q1) fun u s2 ⟨y,H2,I2,r2,q2⟩=>?_
 exact hf v u s2 x y H2 I2 r1 r2 q2

theorem pe_op {op:Operator}{r:R2}(ho:OpR X (binaryOp op) r)(ha:PE X a ta)(hb:PE X b tb):PE X (.BinOp a op b pos) (tOp r ta tb):=by
 intro pins s σ H Q I h
 exact wpAny_BinOp (binT ha hb I h fun v u s2 x y H2 I2 rx ry q=>ho pins s2 σ H2 x y v u Q I2 rx ry q)
theorem pe_un {op:UnaryOp}{r:V→Hp→VK→Prop}(ho:UnR X (unaryOp op) r)(ha:PE X a ta):PE X (.UnaryOp op a pos) (tUn r ta):=by
 intro pins s σ H Q I h
 exact UnaryOp_ (thn (ha pins s σ H _ I h) fun v s1 ⟨x,H1,I1,r1,q1⟩=>ho pins s1 σ H1 x v Q I1 r1 q1)
theorem opI {f:Value→Value→Sem Value}{C:Int→Int→Prop}{g:Int→Int→Int}
  (rule:∀(i j:Int) (t u:Tok) (s:Shared) (Q:Value→Shared→Prop) (E:Value→Shared→Prop),C i j→Q (.int (g i j) s.toks) { s with toks:=s.toks + 1 }→wpAny (model X.prog X.w) X.A (f (.int i t) (.int j u)) Q E s):
  OpR X f (rI C fun i j=>.int (g i j)):=by
 intro pins s σ H x y v u Q I rx ry h
 obtain⟨i,j,rfl,rfl,hc,q⟩:=h
 obtain⟨t,rfl⟩:=rx
 obtain⟨t',rfl⟩:=ry
 exact rule i j t t' s _ _ hc ⟨.int (g i j),H,I.tok _,⟨_,rfl⟩,q⟩
theorem opI0 {f:Value→Value→Sem Value}{g:Int→Int→Int}
  (rule:∀(i j:Int) (t u:Tok) (s:Shared) (Q:Value→Shared→Prop) (E:Value→Shared→Prop),Q (.int (g i j) s.toks) { s with toks:=s.toks + 1 }→wpAny (model X.prog X.w) X.A (f (.int i t) (.int j u)) Q E s):
  OpR X f (rI0 fun i j=>.int (g i j)):=by
 intro pins s σ H x y v u Q I rx ry h
 obtain⟨i,j,rfl,rfl,q⟩:=h
 obtain⟨t,rfl⟩:=rx
 obtain⟨t',rfl⟩:=ry
 exact rule i j t t' s _ _ ⟨.int (g i j),H,I.tok _,⟨_,rfl⟩,q⟩
theorem opB0 {f:Value→Value→Sem Value}{g:Int→Int→Bool}
  (rule:∀(i j:Int) (t u:Tok) (s:Shared) (Q:Value→Shared→Prop) (E:Value→Shared→Prop),Q (.bool (g i j)) s→wpAny (model X.prog X.w) X.A (f (.int i t) (.int j u)) Q E s):
  OpR X f (rI0 fun i j=>.bl (g i j)):=by
 intro pins s σ H x y v u Q I rx ry h
 obtain⟨i,j,rfl,rfl,q⟩:=h
 obtain⟨t,rfl⟩:=rx
 obtain⟨t',rfl⟩:=ry
 exact rule i j t t' s _ _ ⟨.bl (g i j),H,I,rfl,q⟩

def CPow (i j:Int):Prop:=0≤j∧j≤1000000∧i.natAbs < 2 ^ 64
theorem zmK:OpR X (binaryOp .Add) (rI0 fun i j=>.int (i + j)):=opI0 fun _ _ _ _ _ _ _ q=>add_int q
theorem znU:OpR X (binaryOp .Sub) (rI0 fun i j=>.int (i - j)):=opI0 fun _ _ _ _ _ _ _ q=>sub_int q
theorem zqb:OpR X (binaryOp .Mod) (rI (fun _ j=>0 < j) fun i j=>.int (i % j)):=opI fun i j _ _ _ _ _ hc q=>by
 have h1:(0:Int) < j:=hc
 exact mod_int' (by omega) (by rw[Int.fmod_eq_emod_of_nonneg i (by omega)]; exact q)
theorem zoR:OpR X (binaryOp .Pow) (rI CPow fun i j=>.int (i ^ j.toNat)):=opI fun _ _ _ _ _ _ _ hc q=>pow_int_small hc.1 hc.2.1 hc.2.2 q
theorem unI {f:Value→Sem Value}{g:Int→Int}
  (rule:∀(i:Int) (t:Tok) (s:Shared) (Q:Value→Shared→Prop) (E:Value→Shared→Prop),Q (.int (g i) s.toks) { s with toks:=s.toks + 1 }→wpAny (model X.prog X.w) X.A (f (.int i t)) Q E s):
  UnR X f (rU fun i=>.int (g i)):=by
 intro pins s σ H x v Q I rx h
 obtain⟨i,rfl,q⟩:=h
 obtain⟨t,rfl⟩:=rx
 exact rule i t s _ _ ⟨.int (g i),H,I.tok _,⟨_,rfl⟩,q⟩
theorem zqI:UnR X (unaryOp .USub) (rU fun i=>.int (-i)):=unI fun _ _ _ _ _ q=>neg_int q
end

def zgK:V→V→Bool
 | .non,.non=>true | .non,.int _=>true | .int _,.non=>true | .non,.bl _=>true | .bl _,.non=>true | .non,.str _=>true | .str _,.non=>true
 | .int _,.int _=>true | .bl _,.bl _=>true | .str _,.str _=>true | .byt _,.byt _=>true
 | .int _,.str _=>true | .str _,.int _=>true | .bl _,.str _=>true | .str _,.bl _=>true
 | _,_=>false
def rEq:R2:=fun x y H Q=>zgK x y=true∧Q (.bl (decide (x=y))) H
def rNe:R2:=fun x y H Q=>zgK x y=true∧Q (.bl (!decide (x=y))) H

theorem zjI {i j:Int}:decide (V.int i=V.int j)=(i == j):=by
 rw[Bool.eq_iff_iff]
 simp
theorem zlq {i j:Bool}:decide (V.bl i=V.bl j)=(i == j):=by
 rw[Bool.eq_iff_iff]
 simp
theorem zkG {i j:Str}:decide (V.str i=V.str j)=(i == j):=by
 rw[Bool.eq_iff_iff]
 simp
theorem zkb {i j:Array UInt8}:decide (V.byt i=V.byt j)=(i.toList == j.toList):=by
 rw[Bool.eq_iff_iff]
 cases i
 cases j
 simp

section
variable {X:Cx}{a b c:Expr}{ta tb tc:TE}{pos:Pos}
theorem zaM {pins:List (Addr×Obj)}{σ:St}{H:Hp}{s:Shared}{Q:VK}{k k':Bool}(I:Inv X pins σ H s)(q:Q (.bl k) H)(e:k=k'):EP X pins σ Q (.bool k') s:=by
 subst e
 exact⟨.bl k,H,I,rfl,q⟩
theorem zi7:OpR X (compareOp .Eq) rEq:=by
 intro pins s σ H x y v u Q I rx ry h
 obtain⟨hs,q⟩:=h
 cases x with
 | non=>
  cases rx
  cases y with
  | non=>cases ry; exact PySem.EqNone.eq_none_none (zaM I q (by simp))
  | bl j=>cases ry; exact PySem.EqNone.eq_none_bool (zaM I q (by simp))
  | int j=>obtain⟨t',rfl⟩:=ry; exact PySem.EqNone.eq_none_int (zaM I q (by simp))
  | str j=>obtain⟨t',rfl⟩:=ry; exact PySem.EqNone.eq_none_str (zaM I q (by simp))
  | _=>exact absurd (show false=true from hs) Bool.false_ne_true
 | bl i=>
  cases rx
  cases y with
  | non=>cases ry; exact PySem.EqNone.eq_bool_none (zaM I q (by simp))
  | bl j=>cases ry; exact eq_bool (zaM I q zlq)
  | str j=>obtain⟨t',rfl⟩:=ry; exact PySem.EqMixed.eq_bool_str (zaM I q (by simp))
  | _=>exact absurd (show false=true from hs) Bool.false_ne_true
 | int i=>
  obtain⟨t,rfl⟩:=rx
  cases y with
  | non=>cases ry; exact PySem.EqNone.eq_int_none (zaM I q (by simp))
  | int j=>obtain⟨t',rfl⟩:=ry; exact eq_int (zaM I q zjI)
  | str j=>obtain⟨t',rfl⟩:=ry; exact PySem.EqMixed.eq_int_str (zaM I q (by simp))
  | _=>exact absurd (show false=true from hs) Bool.false_ne_true
 | str i=>
  obtain⟨t,rfl⟩:=rx
  cases y with
  | non=>cases ry; exact PySem.EqNone.eq_str_none (zaM I q (by simp))
  | bl j=>cases ry; exact PySem.EqMixed.eq_str_bool (zaM I q (by simp))
  | int j=>obtain⟨t',rfl⟩:=ry; exact PySem.EqMixed.eq_str_int (zaM I q (by simp))
  | str j=>obtain⟨t',rfl⟩:=ry; exact eq_str (zaM I q zkG)
  | _=>exact absurd (show false=true from hs) Bool.false_ne_true
 | byt i=>
  obtain⟨t,rfl⟩:=rx
  cases y with
  | byt j=>obtain⟨t',rfl⟩:=ry; exact PySem.W.eq_bytes (zaM I q zkb)
  | _=>exact absurd (show false=true from hs) Bool.false_ne_true
 | _=>cases y <;> exact absurd (show false=true from hs) Bool.false_ne_true
theorem op_ne:OpR X (compareOp .NotEq) rNe:=by
 intro pins s σ H x y v u Q I rx ry h
 obtain⟨hs,q⟩:=h
 cases x with
 | non=>
  cases rx
  cases y with
  | non=>cases ry; exact PySem.EqNone.ne_none_none (zaM I q (by simp))
  | bl j=>cases ry; exact PySem.EqNone.ne_none_bool (zaM I q (by simp))
  | int j=>obtain⟨t',rfl⟩:=ry; exact PySem.EqNone.ne_none_int (zaM I q (by simp))
  | str j=>obtain⟨t',rfl⟩:=ry; exact PySem.EqNone.ne_none_str (zaM I q (by simp))
  | _=>exact absurd (show false=true from hs) Bool.false_ne_true
 | bl i=>
  cases rx
  cases y with
  | non=>cases ry; exact PySem.EqNone.ne_bool_none (zaM I q (by simp))
  | bl j=>cases ry; exact ne_bool (zaM I q (congrArg not zlq))
  | str j=>obtain⟨t',rfl⟩:=ry; exact PySem.EqMixed.ne_bool_str (zaM I q (by simp))
  | _=>exact absurd (show false=true from hs) Bool.false_ne_true
 | int i=>
  obtain⟨t,rfl⟩:=rx
  cases y with
  | non=>cases ry; exact PySem.EqNone.ne_int_none (zaM I q (by simp))
  | int j=>obtain⟨t',rfl⟩:=ry; exact ne_int (zaM I q (congrArg not zjI))
  | str j=>obtain⟨t',rfl⟩:=ry; exact PySem.EqMixed.ne_int_str (zaM I q (by simp))
  | _=>exact absurd (show false=true from hs) Bool.false_ne_true
 | str i=>
  obtain⟨t,rfl⟩:=rx
  cases y with
  | non=>cases ry; exact PySem.EqNone.ne_str_none (zaM I q (by simp))
  | bl j=>cases ry; exact PySem.EqMixed.ne_str_bool (zaM I q (by simp))
  | int j=>obtain⟨t',rfl⟩:=ry; exact PySem.EqMixed.ne_str_int (zaM I q (by simp))
  | str j=>obtain⟨t',rfl⟩:=ry; exact ne_str (zaM I q (congrArg not zkG))
  | _=>exact absurd (show false=true from hs) Bool.false_ne_true
 | byt i=>
  obtain⟨t,rfl⟩:=rx
  cases y with
  | byt j=>obtain⟨t',rfl⟩:=ry; exact PySem.W.ne_bytes (zaM I q (congrArg not zkb))
  | _=>exact absurd (show false=true from hs) Bool.false_ne_true
 | _=>cases y <;> exact absurd (show false=true from hs) Bool.false_ne_true

theorem op_lt:OpR X (compareOp .Lt) (rI0 fun i j=>.bl (decide (i < j))):=opB0 fun _ _ _ _ _ _ _ q=>lt_int q
theorem op_le:OpR X (compareOp .LtE) (rI0 fun i j=>.bl (decide (i≤j))):=opB0 fun _ _ _ _ _ _ _ q=>le_int q
theorem zaL (b:Expr){op:CmpOp}(h:op≠.In:=by decide)(h2:op≠.NotIn:=by decide):behindInMarks op b=false:=by
 have e1:(op == CmpOp.In)=false:=by cases op <;> first | rfl | exact absurd rfl h
 have e2:(op == CmpOp.NotIn)=false:=by cases op <;> first | rfl | exact absurd rfl h2
 cases b <;> simp[behindInMarks,e1,e2]
theorem zn9 {op:CmpOp}{r:R2}(ho:OpR X (compareOp op) r)(ha:PE X a ta)(hb:PE X b tb)(hm:behindInMarks op b=false):PE X (.Compare a [op] [b] pos) (tOp r ta tb):=by
 intro pins s σ H Q I h
 exact wpAny_Compare1 (binT ha hb I h fun v u s2 x y H2 I2 rx ry q=>ho pins s2 σ H2 x y v u Q I2 rx ry q) hm
def zkN (t:TE):TT:=fun σ H Q=>t σ H fun x H'=>∃k,x=.bl k∧Q k H'
theorem zrb {op:CmpOp}{r:R2}(ho:OpR X (compareOp op) r)(ha:PE X a ta)(hb:PE X b tb)(hm:behindInMarks op b=false):PT X (.Compare a [op] [b] pos) (zkN (tOp r ta tb)):=by
 intro pins s σ H Q I h
 refine wpAny_isTrue_Compare1 (thn (ha pins s σ H _ I h) fun v s1 ⟨x,H1,I1,r1,q1⟩=>thn (hb pins s1 σ H1 _ I1 q1) fun u s2 ⟨y,H2,I2,r2,q2⟩=>
  thn (ho pins s2 σ H2 x y v u _ I2 r1 r2 q2) fun c s3 ⟨z,H3,I3,r3,k,e,q3⟩=>?_) hm
 subst e
 cases r3
 exact wpAny_truthy_bool ⟨H3,I3,q3⟩
def zjA (r r':R2)(ta tb tc:TE):TE:=fun σ H Q=>ta σ H fun x H1=>tb σ H1 fun y H2=>r x y H2 fun z H3=>∃k,z=.bl k∧
 (if k=true then tc σ H3 fun w' H4=>r' y w' H4 Q else Q (.bl false) H3)
theorem zmi {op op':CmpOp}{r r':R2}(ho:OpR X (compareOp op) r)(ho':OpR X (compareOp op') r')(ha:PE X a ta)(hb:PE X b tb)(hc:PE X c tc)
  (hm:lastMarks [op,op'] [b,c]=false:=by with_unfolding_all rfl):PE X (.Compare a [op,op'] [b,c] pos) (zjA r r' ta tb tc):=by
 intro pins s σ H Q I h
 refine Compare_chain (thn (ha pins s σ H _ I h) fun v s1 ⟨x,H1,I1,r1,q1⟩=>chain_link (thn (hb pins s1 σ H1 _ I1 q1) fun u s2 ⟨y,H2,I2,r2,q2⟩=>
  thn (ho pins s2 σ H2 x y v u _ I2 r1 r2 q2) fun d s3 ⟨z,H3,I3,r3,k,e,q3⟩=>?_)) hm
 subst e
 cases r3
 refine wpAny_truthy_bool ?_
 cases k with
 | false=>exact ite_ff ⟨.bl false,H3,I3,rfl,q3⟩
 | true=>exact ite_tt (chain_last (thn (hc pins s3 σ H3 _ I3 q3) fun w' s4 ⟨z',H4,I4,r4,q4⟩=>ho' pins s4 σ H4 y z' u w' Q I4 r2 r4 q4))
theorem zog {op op':CmpOp}{r r':R2}(ho:OpR X (compareOp op) r)(ho':OpR X (compareOp op') r')(ha:PE X a ta)(hb:PE X b tb)(hc:PE X c tc)
  (hm:lastMarks [op,op'] [b,c]=false:=by with_unfolding_all rfl):PT X (.Compare a [op,op'] [b,c] pos) (zkN (zjA r r' ta tb tc)):=by
 intro pins s σ H Q I h
 refine isTrue_chain (thn (ha pins s σ H _ I h) fun v s1 ⟨x,H1,I1,r1,q1⟩=>test_link (thn (hb pins s1 σ H1 _ I1 q1) fun u s2 ⟨y,H2,I2,r2,q2⟩=>
  thn (ho pins s2 σ H2 x y v u _ I2 r1 r2 q2) fun d s3 ⟨z,H3,I3,r3,k,e,q3⟩=>?_)) hm
 subst e
 cases r3
 refine wpAny_truthy_bool ?_
 cases k with
 | false=>
  obtain⟨k',e',q'⟩:=q3
  cases e'
  exact ite_ff ⟨H3,I3,q'⟩
 | true=>
  refine ite_tt (test_last (thn (hc pins s3 σ H3 _ I3 q3) fun w' s4 ⟨z',H4,I4,r4,q4⟩=>thn (ho' pins s4 σ H4 y z' u w' _ I4 r2 r4 q4) fun d' s5 ⟨z2,H5,I5,r5,k2,e2,q5⟩=>?_))
  subst e2
  cases r5
  exact wpAny_truthy_bool ⟨H5,I5,q5⟩

theorem zhB:(sizeLine:Nat) < 2 ^ 63:=by rw[sizeLine_eq]; decide
theorem zc8 {x:V}{us:List Value}(r:zap [x] us):∃u,us=[u]∧zal x u:=by
 cases r with
 | cons r1 r2=>cases r2; exact⟨_,rfl,r1⟩
theorem zi6 {x y:V}{us:List Value}(r:zap [x,y] us):∃u w',us=[u,w']∧zal x u∧zal y w':=by
 cases r with
 | cons r1 r2=>
  cases r2 with
  | cons r3 r4=>cases r4; exact⟨_,_,rfl,r1,r3⟩
theorem zrJ:za8 X (.builtin "abs") (fun xs H Q=>∃i,xs=[.int i]∧Q (.int (if i < 0 then -i else i)) H):=by
 intro pins s σ H xs us Q I r h
 obtain⟨i,rfl,q⟩:=h
 obtain⟨u,rfl,t,rfl⟩:=zc8 r
 exact call_abs_int fun u tk=>⟨.int (if i < 0 then -i else i),H,I.tok _,⟨_,rfl⟩,q⟩
theorem zp0 (hc:X.calm=true):za8 X (.builtin "max") (fun xs H Q=>∃i j,xs=[.int i,.int j]∧Q (.int (if j > i then j else i)) H):=by
 intro pins s σ H xs us Q I r h
 obtain⟨i,j,rfl,q⟩:=h
 obtain⟨u,w',rfl,⟨t,rfl⟩,⟨t',rfl⟩⟩:=zi6 r
 refine max_two_ints (I.ok.hd hc) fun h' tk k=>⟨_,H,I.kept k,?_,q⟩
 by_cases hj:j > i
 ·rw[if_pos hj,if_pos hj]; exact⟨_,rfl⟩
 ·rw[if_neg hj,if_neg hj]; exact⟨_,rfl⟩
theorem zrU (hc:X.calm=true):za8 X (.builtin "min") (fun xs H Q=>∃i j,xs=[.int i,.int j]∧Q (.int (if j < i then j else i)) H):=by
 intro pins s σ H xs us Q I r h
 obtain⟨i,j,rfl,q⟩:=h
 obtain⟨u,w',rfl,⟨t,rfl⟩,⟨t',rfl⟩⟩:=zi6 r
 refine min_two_ints (I.ok.hd hc) fun h' tk k=>⟨_,H,I.kept k,?_,q⟩
 by_cases hj:j < i
 ·rw[if_pos hj,if_pos hj]; exact⟨_,rfl⟩
 ·rw[if_neg hj,if_neg hj]; exact⟨_,rfl⟩
end
end L2

namespace L2
open PySem PySem.Spec PyProof.Rows

structure zc5 (h:Heap)(x dx C:Addr)(mA:Str→Option Value):Prop where
 obj:h.get? x=some (PySem.W.instObj C dx)
 ns:h.Ns1 dx mA
 ne:dx≠x

theorem zrR {h:Heap}{dx:Addr}{mA:Str→Option Value}(n:h.Ns1 dx mA):∃od,h.get? dx=some od∧∀name,PySem.W.lookIn name od=some (mA name):=by
 obtain⟨o,es,ep,ho,hd,hk,_,hm⟩:=n
 refine⟨o,ho,fun name=>?_⟩
 have e:=hm name
 unfold nsFind findBy at e
 rw[← Array.find?_toList] at e
 unfold PySem.W.lookIn
 rw[hd]
 dsimp only
 split
 ·rename_i y q
  rw[q] at e
  exact congrArg some e
 ·rename_i q
  rw[q] at e
  have a:es.toList.any (·.refKey)=false:=by
   rw[List.any_eq_false]
   intro y hy
   obtain⟨z,t,hkey⟩:=hk y (Array.mem_toList_iff.mp hy)
   simp[DictEntry.refKey,hkey]
  have a':¬ es.toList.any (·.refKey)=true:=by rw[a]; exact Bool.false_ne_true
  rw[if_neg a']
  exact congrArg some e

theorem zc5.look {h:Heap}{x dx C:Addr}{mA:Str→Option Value}(I:zc5 h x dx C mA):∃od,PySem.W.InstAt h x (PySem.W.instObj C dx) C (some od)∧∀name,PySem.W.lookIn name od=some (mA name):=
 let ⟨od,ho,hl⟩:=zrR I.ns
 ⟨od,⟨I.obj,rfl,rfl,ho⟩,hl⟩

section
variable {prog:Program}{w:World}{A:Around}{E:Value→Shared→Prop}{s:Shared}{K:PySem.W.Frag}{x dx C f:Addr}{mA:Str→Option Value}{name:Str}{v:Value}

theorem zmA {expr:Bool}{Q:Value→Shared→Prop}(X:K.In s.heap)(I:zc5 s.heap x dx C mA)(hg:PySem.W.plainGet K C name=true)(hh:PySem.W.hasDictIn K C=true)
  (ha:PySem.W.findIn K (.ref C) name=some none)(hv:mA name=some v)(hv':PySem.W.handedIn v=true)(h:Q v { s with toks:=s.toks + 1 }):
  wpAny (model prog w) A (getAttr (.ref x) name expr) Q E s:=by
 obtain⟨od,J,hl⟩:=I.look
 exact PySem.W.get_value X J (PySem.W.plainGet_of hg).1 (PySem.W.findObj_own hh ha rfl (by rw[hl,hv])) hv' h

theorem zpo {pl:Sem Bool}{Q:Value×List Value→Shared→Prop}(X:K.In s.heap)(I:zc5 s.heap x dx C mA)(hg:PySem.W.plainGet K C name=true)
  (hf:PySem.W.findIn K (.ref C) name=some (some (.ref f)))(ht:PySem.W.isFn K (.ref f)=true)(hv:mA name=none)(h:Q (.ref f,[.ref x]) s):
  wpAny (model prog w) A (getMethod (.ref x) name pl) Q E s:=by
 obtain⟨od,J,hl⟩:=I.look
 exact PySem.W.method_fn X J (PySem.W.plainGet_of hg).1 (PySem.W.plainGet_of hg).2 hf (beq_iff_eq.mp ht) (by show (PySem.W.lookIn name od).map (·.isSome)=some false; rw[hl,hv]; rfl) h

theorem zoc {ns:List Str}{Q:Unit→Shared→Prop}(X:K.In s.heap)(I:zc5 s.heap x dx C mA)
  (hs:PySem.W.findIn K (.ref C) "__setattr__"=some (some (.builtin "object.__setattr__")))(hp:PySem.W.plainOver K C=true)(ht:PySem.W.takerIn K C name=some none)(hh:PySem.W.hasDictIn K C=true)
  (hw:PySem.Within mA ns)(hsz:ns.length≤sizeLine)
  (h:∀h',zc5 h' x dx C (fun y=>if y=name then some v else mA y)→Heap.SameBut dx s.heap h'→Q () { s with heap:=h',toks:=s.toks + 2 }):
  wpAny (model prog w) A (setAttr (.ref x) name v) Q E s:=by
 obtain⟨od,J,hl⟩:=I.look
 refine PySem.W.set_plain X J hs (PySem.W.osa_open (s:={ s with toks:=s.toks + 1 }) (r:=none) X J hp ht fun b=>?_)
 obtain⟨cd,hc,hd'⟩:=PySem.W.any_some hh
 have hx:s.heap.get? x=some ⟨.ref C,some dx,.plain,#[]⟩:=I.obj
 refine wpAny_bind (wpAny_pure (wpAny_bind (wpAny_bind (wpAny_loadPart hx (wpAny_bind (PySem.W.Looks.here (s:={ s with toks:=s.toks + 1 }) (PySem.W.looks_clsIn X hc) ?_))))))
 rw[hd']
 refine wpAny_pure (a:=some dx) (wpAny_bind (wpAny_pure (wpAny_bind ?_)))
 refine wpAny_nsSet1 (s:={ s with toks:=s.toks + 1 }) I.ns fun h' hn2 hs2=>?_
 obtain⟨oD,esD,epD,hoD,hdD,hcD⟩:=hn2.count (PySem.Within.cons name v hw)
 refine wpAny_bind (wpAny_lookBehind hoD (by rw[hdD]; exact pastItsLine_dict (Nat.le_trans hcD (by rw[List.length_cons]; omega))) ?_)
 exact wpAny_pure (h _ ⟨(hs2.2 _ (Ne.symm I.ne)).trans I.obj,hn2,I.ne⟩ hs2)

theorem zpp {R:Result→Shared→Prop}{vs:List Value}{kw:List (Str×Value)}(X:K.In s.heap)(hm:PySem.W.makesIn K C=true)
  (hi:PySem.W.findIn K (.ref C) "__init__"=some (some (.ref f)))(hf:PySem.W.typeIn K (.ref f)=some (.type "function"))
  (h:codeAny (model prog w) (A.under (.builtin "type.__call__" ⟨.ref C::vs,kw⟩)) (.call (.ref f) ⟨.ref (s.heap.objs.size + 1)::vs,kw⟩) (PySem.W.InitBack (s.heap.objs.size + 1) R)
   { s with heap:=(s.heap.push PySem.W.emptyDict).push (PySem.W.instObj C s.heap.objs.size) }):
  codeAny (model prog w) A (.call (.ref C) ⟨vs,kw⟩) R s:=by
 obtain⟨hh,g,d,t,os⟩:=s
 exact PySem.W.make_core (PySem.W.makes_of X hm) (PySem.W.looks_findIn X hi) (fun self=>PySem.W.bind_fn X self hf) (.inl rfl) h
end

def zbc (f:Str)(v:V):List (Str×V)→List (Str×V)
 | []=>[(f,v)]
 | (g,x)::r=>if g=f then (g,v)::r else (g,x)::zbc f v r
theorem zkL (f g:Str)(v:V):∀fs:List (Str×V),(zbc f v fs).lookup g=if g=f then some v else fs.lookup g
 | []=>by
  show List.lookup g [(f,v)]=_
  by_cases h:g=f
  ·have hb:(g == f)=true:=beq_iff_eq.mpr h
   simp only[List.lookup,hb,if_pos h]
  ·have hb:(g == f)=false:=beq_eq_false_iff_ne.mpr h
   simp only[List.lookup,hb,if_neg h]
 | (k,x)::r=>by
  have ih:=zkL f g v r
  rw[show zbc f v ((k,x)::r)=(if k=f then (k,v)::r else (k,x)::zbc f v r) from rfl]
  by_cases hk:k=f
  ·rw[if_pos hk]
   by_cases h:g=k
   ·have hb:(g == k)=true:=beq_iff_eq.mpr h
    simp only[List.lookup,hb,if_pos (h.trans hk)]
   ·have hb:(g == k)=false:=beq_eq_false_iff_ne.mpr h
    simp only[List.lookup,hb,if_neg (fun e:g=f=>h (e.trans hk.symm))]
  ·rw[if_neg hk]
   by_cases h:g=k
   ·have hb:(g == k)=true:=beq_iff_eq.mpr h
    simp only[List.lookup,hb,if_neg (fun e:g=f=>hk (h.symm.trans e))]
   ·have hb:(g == k)=false:=beq_eq_false_iff_ne.mpr h
    simp only[List.lookup,hb]
    exact ih
theorem ziv (f:Str)(v:V):∀fs:List (Str×V),f∈(zbc f v fs).map (·.1)∧∀g,g∈fs.map (·.1)→g∈(zbc f v fs).map (·.1)
 | []=>⟨by simp[zbc],fun g h=>by simp at h⟩
 | (k,x)::r=>by
  obtain⟨i1,i2⟩:=ziv f v r
  rw[show zbc f v ((k,x)::r)=(if k=f then (k,v)::r else (k,x)::zbc f v r) from rfl]
  by_cases hk:k=f
  ·rw[if_pos hk]
   subst hk
   exact⟨by simp,fun g h=>by simpa using h⟩
  ·rw[if_neg hk]
   refine⟨?_,fun g h=>?_⟩
   ·rw[List.map_cons]
    exact List.mem_cons_of_mem _ i1
   ·rw[List.map_cons] at h ⊢
    rcases List.mem_cons.mp h with e | e
    ·exact List.mem_cons.mpr (.inl e)
    ·exact List.mem_cons_of_mem _ (i2 g e)
theorem zkB (f:Str)(v:V):∀fs:List (Str×V),(zbc f v fs).length≤fs.length + 1
 | []=>by simp[zbc]
 | (k,x)::r=>by
  have ih:=zkB f v r
  rw[show zbc f v ((k,x)::r)=(if k=f then (k,v)::r else (k,x)::zbc f v r) from rfl]
  by_cases hk:k=f
  ·rw[if_pos hk,List.length_cons,List.length_cons]; omega
  ·rw[if_neg hk,List.length_cons,List.length_cons]; omega

theorem zb3.some_of {v:V}{o:Option Value}(r:zb3 (some v) o):∃u,o=some u∧zal v u:=by
 cases o with
 | none=>exact(show False from r).elim
 | some u=>exact⟨u,rfl,r⟩
theorem zb3.none_of {o:Option Value}(r:zb3 none o):o=none:=by
 cases o with
 | none=>rfl
 | some u=>exact(show False from r).elim
theorem zrC {v:V}{u:Value}(r:zal v u):PySem.W.handedIn u=true:=by
 cases v with
 | non=>cases (show u=Value.none from r); rfl
 | bl b=>cases (show u=Value.bool b from r); rfl
 | int i=>obtain⟨t,e⟩:=(show ∃t,u=Value.int i t from r); cases e; rfl
 | str x=>obtain⟨t,e⟩:=(show ∃t,u=Value.str x t from r); cases e; rfl
 | byt b=>obtain⟨t,e⟩:=(show ∃t,u=Value.bytes b t from r); cases e; rfl
 | flt b=>obtain⟨t,e⟩:=(show ∃t,u=Value.float b t from r); cases e; rfl
 | ref a=>cases (show u=Value.ref a from r); rfl
 | ty n=>cases (show u=Value.type n from r); rfl

section
variable {P:Program}{w:World}{H H':Hp}{h h':Heap}{a C dx:Addr}{fs fs':List (Str×V)}
theorem zgx (hok:HOk P w H h)(e:H a=some (.ins C dx fs)):∃mA,zc5 h a dx C mA∧(∀f,zb3 (fs.lookup f) (mA f))∧PySem.Within mA (fs.map (·.1))∧fs.length≤1000∧H dx=some (.own a):=by
 obtain⟨d,z,ne,ob,mA,n,r,q⟩:=(show zbf P w H h a (.ins C dx fs) from hok a _ e)
 exact⟨mA,⟨ob,n,ne⟩,r,q,z,d⟩
end

structure Cls (K:PySem.W.Frag)(C:Addr):Prop where
 pg:PySem.W.plainGet K C Str.empty=true
 hd:PySem.W.hasDictIn K C=true
 po:PySem.W.plainOver K C=true
 sa:PySem.W.findIn K (.ref C) "__setattr__"=some (some (.builtin "object.__setattr__"))
theorem Cls.get {K:PySem.W.Frag}{C:Addr}(c:Cls K C)(f:Str):PySem.W.plainGet K C f=true:=c.pg
def zbb (K:PySem.W.Frag)(C:Addr)(f:Str):Prop:=PySem.W.findIn K (.ref C) f=some none
theorem zbb.taker {K:PySem.W.Frag}{C:Addr}{f:Str}(n:zbb K C f):PySem.W.takerIn K C f=some none:=by
 unfold PySem.W.takerIn
 rw[show PySem.W.findIn K (.ref C) f=some none from n]
 rfl
structure Con (K:PySem.W.Frag)(C:Addr)(f:Str)(v:V)(u:Value):Prop where
 at_:PySem.W.findIn K (.ref C) f=some (some u)
 rel:zal v u
 get:PySem.W.specialIn K u "__get__"=some none
 cp:PySem.W.copiedNames.contains f=false
structure zd6 (K:PySem.W.Frag)(C:Addr)(m:Str)(f:Addr):Prop where
 at_:PySem.W.findIn K (.ref C) m=some (some (.ref f))
 fn:PySem.W.isFn K (.ref f)=true
 kp:PySem.W.keepIn K (.ref f)=true

section
variable {X:Cx}{pins:List (Addr×Obj)}{σ:St}{H:Hp}{s:Shared}{a C dx:Addr}{fs:List (Str×V)}{f:Str}{v:V}{A:Around}{E:Value→Shared→Prop}

theorem zpG {b:Bool}{Q:Value→Shared→Prop}(I:Inv X pins σ H s)(e:H a=some (.ins C dx fs))(c:Cls X.K C)(n:zbb X.K C f)(l:fs.lookup f=some v)
  (h:∀u s',Inv X pins σ H s'→zal v u→Q u s'):wpAny (model X.prog X.w) A (getAttr (.ref a) f b) Q E s:=by
 obtain⟨mA,O,r,_,_,_⟩:=zgx I.hok e
 obtain⟨u,hu,ru⟩:=zb3.some_of (v:=v) (o:=mA f) (by rw[← l]; exact r f)
 exact zmA I.kIn O (c.get f) c.hd n hu (zrC ru) (h u _ (I.tok _) ru)

theorem zlj {m:Str}{g:Addr}{pl:Sem Bool}{Q:Value×List Value→Shared→Prop}(I:Inv X pins σ H s)(e:H a=some (.ins C dx fs))(c:Cls X.K C)(k:zd6 X.K C m g)(l:fs.lookup m=none)
  (h:Q (.ref g,[.ref a]) s):wpAny (model X.prog X.w) A (getMethod (.ref a) m pl) Q E s:=by
 obtain⟨mA,O,r,_,_,_⟩:=zgx I.hok e
 have hn:mA m=none:=zb3.none_of (by rw[← l]; exact r m)
 exact zpo I.kIn O (c.get m) k.at_ k.fn hn h

theorem zl1 {y:V}{u:Value}{Q:Unit→Shared→Prop}(I:Inv X pins σ H s)(e:H a=some (.ins C dx fs))(c:Cls X.K C)(n:zbb X.K C f)(hl:fs.length < 1000)(ry:zal y u)
  (h:∀s',Inv X pins σ (upd H a (.ins C dx (zbc f y fs))) s'→Q () s'):wpAny (model X.prog X.w) A (setAttr (.ref a) f u) Q E s:=by
 obtain⟨mA,O,r,wi,_,ho⟩:=zgx I.hok e
 have hz:(fs.map (·.1)).length≤sizeLine:=by rw[List.length_map,sizeLine_eq]; omega
 refine zoc I.kIn O c.sa c.po n.taker c.hd wi hz fun h' O' sb=>h _ ?_
 have hd:∃o,h'.get? dx=some o:=let ⟨o,_,_,e',_⟩:=O'.ns; ⟨o,e'⟩
 refine I.write (x:=a) (e:=dx) (by rw[e]; exact True.intro) (.inr ho) (fun b q hb z=>(sb.2 b hb).trans z) hd ?_
 refine⟨by rw[zaR O.ne]; exact ho,?_,O.ne,O'.obj,_,O'.ns,fun g=>?_,fun g hg=>?_⟩
 ·have:=zkB f y fs; omega
 ·show zb3 ((zbc f y fs).lookup g) (if g=f then some u else mA g)
  rw[zkL]
  by_cases q:g=f
  ·rw[if_pos q,if_pos q]; exact ry
  ·rw[if_neg q,if_neg q]; exact r g
 ·by_cases q:g=f
  ·rw[q]; exact(ziv f y fs).1
  ·refine(ziv f y fs).2 g (wi g fun z=>hg ?_)
   show (if g=f then some u else mA g)=none
   rw[if_neg q]; exact z

theorem Inv.made (I:Inv X pins σ H s):Inv X pins σ (upd (upd H s.heap.objs.size (.own (s.heap.objs.size + 1))) (s.heap.objs.size + 1) (.ins C s.heap.objs.size []))
  { s with heap:=(s.heap.push PySem.W.emptyDict).push (PySem.W.instObj C s.heap.objs.size) }:=by
 have e1:(s.heap.push PySem.W.emptyDict).get? s.heap.objs.size=some PySem.W.emptyDict:=Heap.get?_push_size s.heap rfl
 have e2:((s.heap.push PySem.W.emptyDict).push (PySem.W.instObj C s.heap.objs.size)).get? (s.heap.objs.size + 1)=some (PySem.W.instObj C s.heap.objs.size):=by
  have:=Heap.get?_push_size (s.heap.push PySem.W.emptyDict) (o:=PySem.W.instObj C s.heap.objs.size) rfl
  rwa [Heap.size_push] at this
 have e3:(s.heap.push PySem.W.emptyDict).Ns s.heap.objs.size (fun _=>none):=⟨PySem.W.emptyDict,#[],_,e1,rfl,(fun e he=>absurd he (by simp)),fun _=>rfl⟩
 have I1:=I.laid (a:=s.heap.objs.size) (o:=.own (s.heap.objs.size + 1)) (h':=s.heap.push PySem.W.emptyDict) (t':=s.toks) (fun b u q=>Heap.get?_push_of_some _ q) (Nat.le_refl _) ⟨_,e1⟩
 refine I1.laid (a:=s.heap.objs.size + 1) (o:=.ins C s.heap.objs.size []) (t':=s.toks) (fun b u q=>Heap.get?_push_of_some _ q) (Nat.le_of_eq (Heap.size_push _ _)) ?_
 have ne:s.heap.objs.size≠s.heap.objs.size + 1:=Nat.ne_of_lt (Nat.lt_succ_self _)
 refine⟨by rw[zaR ne,zbN],Nat.zero_le _,ne,e2,fun _=>none,(Heap.Ns1.of_empty e3).at fun o q=>Heap.get?_push_of_some _ q,fun _=>True.intro,fun y hy=>absurd rfl hy⟩

theorem zrL {prog:Program}{w:World}{env:Env}{e:Expr}{f:Str}{pos:Pos}{s:Shared}{Q:Value→Shared→Prop}(hb:attributeBase e f env (eval e env)=eval e env)
  (h:wpAny (model prog w) A (eval e env) (fun o s₁=>wpAny (model prog w) A (getAttr o f true) Q E s₁) E s):wpAny (model prog w) A (eval (.Attribute e f pos) env) Q E s:=
 Attribute_any_ h (by rw[arm_eval_Attribute,hb])
end

def tFld (K:PySem.W.Frag)(ta:TE)(f:Str):TE:=fun σ H Q=>ta σ H fun x H1=>∃a C dx fs v,x=.ref a∧H1 a=some (.ins C dx fs)∧Cls K C∧zbb K C f∧fs.lookup f=some v∧Q v H1
def sFld (K:PySem.W.Frag)(ta tv:TE)(f:Str):TS:=fun D σ H=>tv σ H fun y H1=>ta σ H1 fun x H2=>∃a C dx fs,x=.ref a∧H2 a=some (.ins C dx fs)∧Cls K C∧zbb K C f∧fs.length < 1000∧
 D.nx σ (upd H2 a (.ins C dx (zbc f y fs)))
section
variable {X:Cx}{o e value:Expr}{f:Str}{pos pos' tpos:Pos}{ta tv:TE}
theorem znY (he:PE X e ta)(hb:attributeBase e f X.env (eval e X.env)=eval e X.env):PE X (.Attribute e f pos) (tFld X.K ta f):=by
 intro pins s σ H Q I h
 refine zrL hb (thn (he pins s σ H _ I h) fun u s1 ⟨x,H1,I1,rx,a,C,dx,fs,v,ex,ea,c,n,l,q⟩=>?_)
 subst ex
 obtain rfl:u=Value.ref a:=rx
 exact zpG I1 ea c n l fun u' s2 I2 ru=>⟨v,H1,I2,ru,q⟩
theorem znl (ha:PE X o ta)(hv:PE X value tv)(hs:swapsWith value (some (.Attribute o f pos')) pos.line X.env=pure false):PS X (.Assign [.Attribute o f pos'] value pos) (sFld X.K ta tv f):=by
 intro pins s σ H D I h
 refine plainObj_wpAny_Assign_Attribute (thn (hv pins s σ H _ I h) fun u s1 ⟨y,H1,I1,ry,q⟩=>thn (ha pins s1 σ H1 _ I1 q) fun ov s2 ⟨x,H2,I2,rx,a,C,dx,fs,ex,ea,c,n,l,q2⟩=>?_) hs
 subst ex
 obtain rfl:ov=Value.ref a:=rx
 exact zl1 I2 ea c n l ry fun s3 I3=>⟨σ,_,I3,q2⟩
end

section
variable {X:Cx}{pins:List (Addr×Obj)}{σ:St}{H:Hp}{s:Shared}{A:Around}{E:Value→Shared→Prop}{Q:Value→Shared→Prop}{c:Value}{b:Bool}
inductive zbH (K:PySem.W.Frag)(H:Hp):V→Value→Prop where
 | non:zbH K H .non (.type "NoneType")
 | bl (x:Bool):zbH K H (.bl x) (.type "bool")
 | int (i:Int):zbH K H (.int i) (.type "int")
 | str (x:Str):zbH K H (.str x) (.type "str")
 | flt (x:UInt64):zbH K H (.flt x) (.type "float")
 | lst {a:Addr} {xs:List V} (e:H a=some (.lst xs)):zbH K H (.ref a) (.type "list")
 | frz {a:Addr} {o:Obj} {xs:List V} (e:H a=some (.frz o (.lst xs))):zbH K H (.ref a) (.type "list")
 | tup {a:Addr} {xs:List V} (e:H a=some (.tup xs)):zbH K H (.ref a) (.type "tuple")
 | dK {a:Addr} {kvs:List (Key×V)} (e:H a=some (.dK kvs)):zbH K H (.ref a) (.type "dict")
 | dT {a:Addr} {kvs:List (List Key×V)} (e:H a=some (.dT kvs)):zbH K H (.ref a) (.type "dict")
 | ins {a C dx:Addr} {fs:List (Str×V)} (e:H a=some (.ins C dx fs)) (cl:Cls K C) (ha:PySem.W.findIn K (.ref C) "__class__"=some (some (.builtin "object.__class__")))
   (hn:PySem.W.specialIn K (.builtin "object.__class__") "__get__"=some (some (.builtin "getset_descriptor.__get__"))) (htk:PySem.W.takesIn K (.builtin "object.__class__")=some true)
   (hm:PySem.W.mroIn K C (.type "object")=some true):zbH K H (.ref a) (.ref C)
theorem zmX {x:V}{u t:Value}(I:Inv X pins σ H s)(rx:zal x u)(ty:zbH X.K H x t)(e:PySem.W.kitOne X.K t c=some b)(h:∀tk,Q (.bool b) { s with toks:=tk }):
  wpAny (model X.prog X.w) A (call (.builtin "isinstance") [u,c]) Q E s:=by
 cases ty with
 | non=>cases (show u=Value.none from rx); exact PySem.W.kia_one PySem.W.kitx_none I.kIn True.intro e (fun z=>nomatch z) h
 | bl y=>cases (show u=Value.bool y from rx); exact PySem.W.kia_one PySem.W.kitx_bool I.kIn True.intro e (fun z=>nomatch z) h
 | int i=>obtain⟨t,q⟩:=(show ∃t,u=Value.int i t from rx); cases q; exact PySem.W.kia_one PySem.W.kitx_int I.kIn True.intro e (fun z=>nomatch z) h
 | str y=>obtain⟨t,q⟩:=(show ∃t,u=Value.str y t from rx); cases q; exact PySem.W.kia_one PySem.W.kitx_str I.kIn True.intro e (fun z=>nomatch z) h
 | flt y=>obtain⟨t,q⟩:=(show ∃t,u=Value.float y t from rx); cases q; exact PySem.W.kia_one PySem.W.kitx_float I.kIn True.intro e (fun z=>nomatch z) h
 | @lst a xs ea=>
  cases (show u=Value.ref a from rx)
  obtain⟨_,_,n,_,h1⟩:=(show zbf X.prog X.w H s.heap a (.lst xs) from I.hok a _ ea)
  exact PySem.W.kia_one PySem.W.kitx_list I.kIn ⟨_,h1,rfl⟩ e (fun z=>nomatch z) h
 | @frz a ob xs ea=>
  cases (show u=Value.ref a from rx)
  obtain⟨_,_,_,n,_,h1⟩:=(show zbf X.prog X.w H s.heap a (.frz ob (.lst xs)) from I.hok a _ ea)
  exact PySem.W.kia_one PySem.W.kitx_list I.kIn ⟨_,h1,rfl⟩ e (fun z=>nomatch z) h
 | @tup a xs ea=>
  cases (show u=Value.ref a from rx)
  obtain⟨_,_,_,p⟩:=(show zbf X.prog X.w H s.heap a (.tup xs) from I.hok a _ ea)
  obtain⟨o,h1,h2,_⟩:=p
  exact PySem.W.kia_one PySem.W.kitx_tuple I.kIn ⟨o,h1,h2⟩ e (fun z=>nomatch z) h
 | @dK a kvs ea=>
  cases (show u=Value.ref a from rx)
  obtain⟨_,_,vs,_,p⟩:=(show zbf X.prog X.w H s.heap a (.dK kvs) from I.hok a _ ea)
  obtain⟨o,es,ep,h1,h2,_⟩:=p
  exact PySem.W.kia_one PySem.W.kitx_dict I.kIn ⟨o,h1,h2.1⟩ e (fun z=>nomatch z) h
 | @dT a kvs ea=>
  cases (show u=Value.ref a from rx)
  obtain⟨_,_,xs,_,o,es,ep,h1,h2,_⟩:=(show zbf X.prog X.w H s.heap a (.dT kvs) from I.hok a _ ea)
  exact PySem.W.kia_one PySem.W.kitx_dict I.kIn ⟨o,h1,h2.1⟩ e (fun z=>nomatch z) h
 | @ins a C dx fs ea cl ha hn htk hm=>
  cases (show u=Value.ref a from rx)
  obtain⟨mA,O,_⟩:=zgx I.hok ea
  obtain⟨od,J,_⟩:=O.look
  exact PySem.W.kia_one (PySem.W.kitx_own (cl.get _) cl.hd ha hn htk hm) I.kIn J e (fun z=>nomatch z) h
end
end L2

namespace L2
open PySem PySem.Spec PyProof.Rows

structure zaD (k:Nat)(A:Around):Prop where
 hd:A.handled=none
 dp:A.depth + 3 * k + 5 < recursionLimit
 un:A.units + 16 * k + 200 < cLine
theorem zaD.mono {j k:Nat}{A:Around}(r:zaD k A)(h:j≤k):zaD j A:=⟨r.hd,by have:=r.dp; omega,by have:=r.un; omega⟩
theorem zaD.deeper {k:Nat}{A:Around}(r:zaD (k + 1) A)(env:Env):zaD k (A.deeper env):=
 ⟨r.hd,by have:=r.dp; show A.depth + 1 + 3 * k + 5 < _; omega,by have:=r.un; show A.units + 3 + 16 * k + 200 < _; omega⟩
theorem zo0 {A:Around}{C:Addr}{us:List Value}{kw:List (Str×Value)}:(A.under (.builtin "type.__call__" ⟨.ref C::us,kw⟩)).depth=A.depth + 1:=by
 first | rfl | simp[Around.under,Code.weight,Code.isCreation,Code.isGuard,Code.isCaller,Code.frames,Code.isFrame,guardIds]
theorem znt {A:Around}{C:Addr}{us:List Value}{kw:List (Str×Value)}:(A.under (.builtin "type.__call__" ⟨.ref C::us,kw⟩)).units=A.units + 1:=by
 first | rfl | simp[Around.under,Code.cUnits,Code.frames,Code.isFrame]
theorem zaD.make {k:Nat}{A:Around}(r:zaD (k + 1) A)(C:Addr)(us:List Value)(kw:List (Str×Value)):zaD k (A.under (.builtin "type.__call__" ⟨.ref C::us,kw⟩)):=
 ⟨r.hd,by have:=r.dp; rw[zo0]; omega,by have:=r.un; rw[znt]; omega⟩
theorem zaD.depth {k:Nat}{A:Around}(r:zaD k A):A.depth < recursionLimit:=by have:=r.dp; omega
def tNil:TA:=fun _ H Q=>Q [] H
def tCons (ta:TE)(tr:TA):TA:=fun σ H Q=>ta σ H fun x H1=>tr σ H1 fun xs H2=>Q (x::xs) H2
section
variable {X:Cx}{e:Expr}{es:List Expr}{te:TE}{t:TA}{pos:Pos}
theorem zgP:PA X [] tNil:=fun _ _ _ _ H Q I h=>Calls.spliced_nil ⟨[],H,I,.nil,h⟩
theorem zd3 (ha:PE X e te)(hr:PA X es t)(hs:starEach (e::es) X.env=(false,eval e X.env)::starEach es X.env:=by rfl):PA X (e::es) (tCons te t):=by
 intro pos pins s σ H Q I h
 rw[hs]
 show wpAny _ _ (spliced ((false,eval e X.env)::backTo pos (starEach es X.env))) _ _ s
 refine Calls.spliced_cons (thn (ha pins s σ H _ I h) fun u s1 ⟨x,H1,I1,r1,q1⟩=>?_)
 exact thn (hr pos pins s1 σ H1 _ I1 q1) fun us s2 ⟨xs,H2,I2,r2,q2⟩=>⟨x::xs,H2,I2,.cons r1 r2,q2⟩

def tTup (t:TA):TE:=fun σ H Q=>t σ H fun xs H1=>xs.length≤sizeLine∧∀p,H1 p=none→Q (.ref p) (upd H1 p (.tup xs))
def tLst (t:TA):TE:=fun σ H Q=>t σ H fun xs H1=>xs.length≤sizeLine∧∀p,H1 p=none→Q (.ref p) (upd H1 p (.lst xs))
theorem zrt {x1}(h:PA X es t):PE X (.Tuple es x1 pos) (tTup t):=by
 intro pins s σ H Q I hq
 refine wpAny_Tuple_spliced (thn (h pos pins s σ H _ I hq) fun us s1 ⟨xs,H1,I1,r,z,q⟩=>⟨by rw[← r.length]; exact z,?_⟩)
 have hf:H1 s1.heap.objs.size=none:=I1.hok.fresh (Nat.le_refl _)
 refine⟨.ref s1.heap.objs.size,upd H1 s1.heap.objs.size (.tup xs),I1.laid (t':=s1.toks) (fun b u e=>Heap.get?_push_of_some _ e) (Nat.le_refl _) ?_,rfl,q _ hf⟩
 exact⟨z,us,r,⟨_,Heap.get?_push_size _ rfl,rfl,_,rfl⟩⟩
theorem zn7 (h:PA X es t):PE X (.List es pos) (tLst t):=by
 intro pins s σ H Q I hq
 refine wpAny_List_spliced (thn (h pos pins s σ H _ I hq) fun us s1 ⟨xs,H1,I1,r,z,q⟩=>⟨by rw[← r.length]; exact z,?_⟩)
 have hf:H1 s1.heap.objs.size=none:=I1.hok.fresh (Nat.le_refl _)
 refine⟨.ref s1.heap.objs.size,upd H1 s1.heap.objs.size (.lst xs),I1.laid (t':=s1.toks) (fun b u e=>Heap.get?_push_of_some _ e) (Nat.le_refl _) ?_,rfl,q _ hf⟩
 exact⟨z,us,0,r,Heap.get?_push_size _ rfl⟩
end

abbrev Sp:=List V→Hp→VK→XK→Prop
abbrev CXT:=List Env→Hp→Shared→XK→Value→Shared→Prop

structure zcH (P:Program)(w:World)(K:PySem.W.Frag)(mg:Str→Option Value)(base:Heap)(A:Around)(outer:List Env)(s:Shared)(H:Hp):Prop where
 frames:A.frames=some outer
 mod:Mod K mg base
 bs:∀b o,base.get? b=some o→s.heap.get? b=some o∧H b=none
 bsz:base.objs.size≤s.heap.objs.size
 funs:s.heap.FunFrames base outer
 frf:∀b∈frs outer,H b=none
 hok:HOk P w H s.heap
 bare:AllBare s.gens
def CE (outer:List Env)(P:Program)(w:World)(H:Hp)(s:Shared)(Q:VK)(u:Value)(s':Shared):Prop:=
 ∃v H',s'.os=s.os∧AllBare s'.gens∧Un (frs outer) [] H H' s.heap s'.heap∧HOk P w H' s'.heap∧zal v u∧Q v H'
def CR (CX:CXT)(outer:List Env)(P:Program)(w:World)(H:Hp)(s:Shared)(Q:VK)(E:XK)(r:Result)(s':Shared):Prop:=
 match r with
 | .ok (.ret u)=>CE outer P w H s Q u s'
 | .ok _=>False
 | .error e=>CX outer H s E e s'
structure za3 (P:Program)(w:World)(K:PySem.W.Frag)(mg:Str→Option Value)(base:Heap)(CX:CXT)(k:Nat)(f:Addr)(fd:FuncData)(ps:List Str)(sp:Sp):Prop where
 len:∀vs H Q E,sp vs H Q E→vs.length=ps.length
 run:∀(A:Around) (outer:List Env) (s:Shared) (H:Hp) (args:Args) (us:List Value) (vs:List V) (Q:VK) (E:XK),zaD k A→zcH P w K mg base A outer s H→BindsTo s fd args (ps.zip us)→zap vs us→sp vs H Q E→
  codeAny (model P w) A (.call (.ref f) args) (CR CX outer P w H s Q E) s
theorem zcH.make {P:Program}{w:World}{K:PySem.W.Frag}{mg:Str→Option Value}{base:Heap}{A:Around}{outer:List Env}{s:Shared}{H:Hp}(e:zcH P w K mg base A outer s H)(C:Addr)(us:List Value)(kw:List (Str×Value)):
  zcH P w K mg base (A.under (.builtin "type.__call__" ⟨.ref C::us,kw⟩)) outer s H:=⟨by first | exact e.frames | (simpa [Around.under,Code.envs,Code.isFrame,pushEnvs] using e.frames),e.mod,e.bs,e.bsz,e.funs,e.frf,e.hok,e.bare⟩
section
variable {X:Cx}{pins:List (Addr×Obj)}{σ:St}{H:Hp}{s s':Shared}
theorem Inv.env0 (I:Inv X pins σ H s):zcH X.prog X.w X.K X.mg X.base X.A X.stack s H:=
 ⟨I.ok.frames,I.ok.mod,I.bs,Nat.le_trans I.ok.bsz I.sz,I.stack,I.stkFree,I.hok,I.bare⟩
theorem Inv.after {Q:VK}{u:Value}(I:Inv X pins σ H s)(h:CE X.stack X.prog X.w H s Q u s'):EP X pins σ Q u s':=by
 obtain⟨v,H',os,bare,un,hok,r,q⟩:=h
 obtain⟨hh,g,d,t,os'⟩:=s'
 obtain rfl:os'=s.os:=os
 exact⟨v,H',I.call (h':=hh) (g':=g) (d':=d) (t':=t) (ch:=[]) un hok bare (fun b z=>absurd z (by simp)),r,q⟩
end

def tMake (C:Addr)(sp:Sp)(dvs:List V)(E:XK)(t:TA):TE:=fun σ H Q=>t σ H fun vs H1=>∀x dx,H1 x=none→H1 dx=none→dx≠x→
 sp (.ref x::(vs++dvs)) (upd (upd H1 dx (.own x)) x (.ins C dx [])) (fun v H2=>v=.non∧Q (.ref x) H2) E

def zbl (K:PySem.W.Frag)(fd:FuncData)(ps:List Str)(ds:List Value):Prop:=
 ∀(s:Shared) (us:List Value),K.In s.heap→(us++ds).length=ps.length→BindsTo s fd ⟨us,[]⟩ (ps.zip (us++ds))
theorem zbl.all {K:PySem.W.Frag}{fd:FuncData}{ps:List Str}(h:∀us:List Value,us.length=ps.length→bindArgs fd ⟨us,[]⟩=pure (ps.zip us)):zbl K fd ps []:=fun s us _ hl=>by
 rw[List.append_nil] at hl ⊢
 exact .of_eq (h us hl)

def zgV (CX:CXT)(X:Cx)(E:XK):Prop:=∀(pins:List (Addr×Obj)) (σ:St) (H:Hp) (s:Shared) (e:Value) (s':Shared),Inv X pins σ H s→CX X.stack H s E e s'→X.xe e s'

section
variable {X:Cx}{CX:CXT}{k:Nat}{f C:Addr}{fd:FuncData}{ps:List Str}{sp:Sp}{dvs:List V}{ds:List Value}{E:XK}{x m:Str}{p pos apos:Pos}{e o:Expr}{es:List Expr}{ta:TE}{t:TA}

structure Mk (K:PySem.W.Frag)(C f:Addr):Prop where
 makes:PySem.W.makesIn K C=true
 init:PySem.W.findIn K (.ref C) "__init__"=some (some (.ref f))
 fn:PySem.W.isFn K (.ref f)=true
 kp:PySem.W.keepIn K (.ref C)=true

theorem zoq {pins:List (Addr×Obj)}{σ:St}{H:Hp}{s:Shared}{Q:VK}{us:List Value}{vs:List V}(M:Mk X.K C f)(F:za3 X.prog X.w X.K X.mg X.base CX k f fd ps sp)(hr:zaD (k + 1) X.A)(hb:zbl X.K fd ps ds)(hd:zap dvs ds)
  (hx:zgV CX X E)(I:Inv X pins σ H s)(r:zap vs us)
  (h:∀x dx,H x=none→H dx=none→dx≠x→sp (.ref x::(vs++dvs)) (upd (upd H dx (.own x)) x (.ins C dx [])) (fun v H2=>v=.non∧Q (.ref x) H2) E):
  wpAny (model X.prog X.w) X.A (call (.ref C) us) (EP X pins σ Q) X.xe s:=by
 have hq:=h (s.heap.objs.size + 1) s.heap.objs.size (I.hok.fresh (Nat.le_succ _)) (I.hok.fresh (Nat.le_refl _)) (Nat.ne_of_lt (Nat.lt_succ_self _))
 have I2:=Inv.made (C:=C) I
 have r2:zap (V.ref (s.heap.objs.size + 1)::(vs++dvs)) (Value.ref (s.heap.objs.size + 1)::(us++ds)):=.cons rfl (r.append hd)
 have hl:(Value.ref (s.heap.objs.size + 1)::us++ds).length=ps.length:=by
  have e:=r2.length
  rw[F.len _ _ _ _ hq] at e
  exact e.symm
 refine wpAny_call (zpp (f:=f) I.kIn M.makes M.init (beq_iff_eq.mp M.fn) (codeAny_mono (F.run _ X.stack _ _ ⟨Value.ref (s.heap.objs.size + 1)::us,[]⟩ (Value.ref (s.heap.objs.size + 1)::(us++ds)) _ _ E (hr.make C us [])
  (I2.env0.make C us []) (hb _ (Value.ref (s.heap.objs.size + 1)::us) I2.kIn hl) r2 hq) fun r s' hq'=>?_))
 cases r with
 | error e=>exact hx pins σ _ _ e s' I2 hq'
 | ok fl=>
  cases fl with
  | ret u=>
   obtain⟨v,H',I3,rv,ev,q3⟩:=I2.after hq'
   subst ev
   exact⟨rv,⟨V.ref (s.heap.objs.size + 1),H',I3,rfl,q3⟩⟩
  | next=>exact False.elim hq'
  | brk=>exact False.elim hq'
  | cont=>exact False.elim hq'
theorem zl8 (M:Mk X.K C f)(F:za3 X.prog X.w X.K X.mg X.base CX k f fd ps sp)(hr:zaD (k + 1) X.A)(hg:Gl X x)(hm:X.mg x=some (.ref C))(hb:zbl X.K fd ps ds)(hd:zap dvs ds)(hx:zgV CX X E)
  (ha:PA X (e::es) t)(hdb:(x == ("__debug__":Str))=false:=by decide)(he:starEach (e::es) X.env=(false,eval e X.env)::starEach es X.env:=by rfl)(hpl:(backTo pos (starEach es X.env)).any (·.1)=false:=by rfl):
  PE X (.Call (.Name x p) (e::es) [] pos) (tMake C sp dvs E t):=by
 intro pins s σ H Q I h
 refine wpAny_Call_Name_kw (zko I hg hm ?_ hdb)
 refine PySem.W.callWith_K (h₀:=X.base) I.ok.mod.kin M.kp (thn (ha pos pins s σ H _ I h) fun us s1 ⟨vs,H1,I1,r,q⟩=>⟨I1.kIn,?_⟩) he hpl
 exact zoq M F hr hb hd hx I1 r q
end

section
variable {X:Cx}{CX:CXT}{k:Nat}{f C:Addr}{fd:FuncData}{ps ks:List Str}{sp:Sp}{E:XK}{x m:Str}{p pos apos kpos:Pos}{e o:Expr}{es:List Expr}{kws:List Keyword}{te ta:TE}{t tk:TA}{nm:Option Str}
structure KBinds (K:PySem.W.Frag)(fd:FuncData)(ps ks:List Str)(g:List Value→List Value→List Value)(gV:List V→List V→List V):Prop where
 to:∀(s:Shared) (us ws:List Value),K.In s.heap→(g us ws).length=ps.length→BindsTo s fd ⟨us,ks.zip ws⟩ (ps.zip (g us ws))
 rel:∀ {vs:List V} {us:List Value} {zs:List V} {ws:List Value},zap vs us→zap zs ws→zap (gV vs zs) (g us ws)
variable {g:List Value→List Value→List Value}{gV:List V→List V→List V}
end

structure zaq (N P:List Str)(sc:Scope):Prop where
 kind:sc.kind=.function
 co:sc.isCoroutine=false
 gen:sc.isGenerator=false
 nd:N.Nodup
 pre:N.take P.length=P
 par:∀x∈P,sc.names.lookup x=some .local∨sc.names.lookup x=some .cell
 nofree:∀y∈sc.names,y.2≠.free

theorem zky {kindOf:Str→Option NameKind}{x:Str}:∀ {binds:List (Str×Value)} {m:Str→Option Value},(∀v,(x,v) ∉ binds)→bindL kindOf binds m x=m x
 | [],_,_=>rfl
 | (n,v)::r,m,h=>by
  unfold bindL
  rw[zky fun w hw=>h w (List.mem_cons_of_mem _ hw)]
  split
  ·have:x≠n:=by rintro rfl; exact h v List.mem_cons_self
   simp[this]
  ·rfl
theorem zkU {kindOf:Str→Option NameKind}{x:Str}:∀ {binds:List (Str×Value)} {m:Str→Option Value},(∀v,(x,v) ∉ binds)→bindC kindOf binds m x=m x
 | [],_,_=>rfl
 | (n,v)::r,m,h=>by
  unfold bindC
  rw[zkU fun w hw=>h w (List.mem_cons_of_mem _ hw)]
  split
  ·rfl
  ·have:x≠n:=by rintro rfl; exact h v List.mem_cons_self
   simp[this]
theorem zjY {kindOf:Str→Option NameKind}{x:Str}{v:Value}:∀ {P:List Str} {vs:List Value} {i:Nat} {m:Str→Option Value},P.Nodup→P[i]?=some x→vs[i]?=some v→kindOf x=some .local→
  bindL kindOf (P.zip vs) m x=some v
 | [],_,_,_,_,h,_,_=>by simp at h
 | _::_,[],_,_,_,_,h,_=>by simp at h
 | p::P,w::vs,0,m,nd,h1,h2,hk=>by
  simp at h1 h2; subst h1; subst h2
  show bindL kindOf ((p,w)::P.zip vs) m p=_
  unfold bindL
  rw[zky fun v hv=>(List.nodup_cons.mp nd).1 (List.of_mem_zip hv).1,if_pos hk]
  simp
 | p::P,w::vs,i + 1,m,nd,h1,h2,hk=>by
  show bindL kindOf ((p,w)::P.zip vs) m x=_
  unfold bindL
  exact zjY (i:=i) (List.nodup_cons.mp nd).2 (by simpa using h1) (by simpa using h2) hk
theorem zkC {kindOf:Str→Option NameKind}{x:Str}{v:Value}:∀ {P:List Str} {vs:List Value} {i:Nat} {m:Str→Option Value},P.Nodup→P[i]?=some x→vs[i]?=some v→kindOf x≠some .local→
  bindC kindOf (P.zip vs) m x=some v
 | [],_,_,_,_,h,_,_=>by simp at h
 | _::_,[],_,_,_,_,h,_=>by simp at h
 | p::P,w::vs,0,m,nd,h1,h2,hk=>by
  simp at h1 h2; subst h1; subst h2
  show bindC kindOf ((p,w)::P.zip vs) m p=_
  unfold bindC
  rw[zkU fun v hv=>(List.nodup_cons.mp nd).1 (List.of_mem_zip hv).1,if_neg hk]
  simp
 | p::P,w::vs,i + 1,m,nd,h1,h2,hk=>by
  show bindC kindOf ((p,w)::P.zip vs) m x=_
  unfold bindC
  exact zkC (i:=i) (List.nodup_cons.mp nd).2 (by simpa using h1) (by simpa using h2) hk

def zb9 (N:List Str)(vs:List V):St:=vs.map some++List.replicate (N.length - vs.length) none

def zdl (CX:CXT)(P:Program)(w:World)(K:PySem.W.Frag)(mg:Str→Option Value)(base:Heap)(N:List Str)(qual:Str)(scope:Scope)(f:Addr)(cd:Value)(A:Around)(outer:List Env)(s:Shared)(H:Hp)(E:XK):Cx where
 prog:=P
 w:=w
 K:=K
 mg:=mg
 base:=base
 A:=A.deeper (envOfC qual scope s.heap.objs.size f cd)
 N:=N
 s₀:=s
 H₀:=H
 env:=envOfC qual scope s.heap.objs.size f cd
 outer:=outer
 stack:=envOfC qual scope s.heap.objs.size f cd::outer
 ex:=[]
 calm:=true
 fn:=fun _=>true
 pn:=[]
 xe:=fun e s'=>wpAny (model P w) (A.deeper (envOfC qual scope s.heap.objs.size f cd)) (leaving (envOfC qual scope s.heap.objs.size f cd) e) (fun _ s''=>CX outer H s E e s'') (fun e' s''=>CX outer H s E e' s'') s'

theorem zlk {sc:Scope}{n:Nat}{x:Str}(h:sc.names.lookup x=some .cell):∃c,(cellsFrom n sc.names []).lookup x=some c:=by
 have q:=PySem.W.cellsFrom_some sc.names n [] (.inl h)
 exact Option.isSome_iff_exists.mp q

theorem zmv {CX:CXT}{P:Program}{w:World}{K:PySem.W.Frag}{mg:Str→Option Value}{base:Heap}{N ps:List Str}{qual:Str}{scope:Scope}{f:Addr}{cd:Value}{A:Around}{outer:List Env}{s s1:Shared}{H:Hp}{E:XK}{us:List Value}{vs:List V}
  (S:zaq N ps scope)(hd:A.handled=none)(e0:zcH P w K mg base A outer s H)(hl:vs.length=ps.length)(r:zap vs us)
  (x:InCallC s s.heap.objs.size (bindL (envOfC qual scope s.heap.objs.size f cd).kindOf (ps.zip us) fun _=>none) (cellsFrom (s.heap.objs.size + 1) scope.names []) (bindC (envOfC qual scope s.heap.objs.size f cd).kindOf (ps.zip us) fun _=>none) s1):
  Inv (zdl CX P w K mg base N qual scope f cd A outer s H E) [] (zb9 N vs) H s1:=by
 have hpl:ps.length≤N.length:=by have:=congrArg List.length S.pre; rw[List.length_take] at this; omega
 obtain⟨h1,tk,rfl,hk⟩:=x.done
 have noA:∀b:Addr,b ∉ (zdl CX P w K mg base N qual scope f cd A outer s H E).ex:=fun b z=>absurd (show b∈([]:List Addr) from z) (by simp)
 refine⟨⟨e0.mod,S.kind,rfl,rfl,Nat.le_refl _,fun y z c h1 h2=>?_,fun y hy=>?_,fun y c _ h=>?_,fun _=>hd,Around.frames_deeper e0.frames,.inr ⟨rfl,rfl⟩,fun b z=>absurd z (noA b),e0.bs,e0.bsz,fun b _ _=>noA b,fun b z=>absurd z (noA b),e0.funs,e0.frf⟩,
  rfl,e0.bare,Un.kept hk,⟨_,x.toInCall.ns,fun i y v h1 h2 h3=>?_⟩,fun y c h=>⟨_,x.cell y c h⟩,e0.hok.fresh (Nat.le_refl _),fun y c h=>?_,fun p hp=>absurd (show p∈([]:List (Addr×Obj)) from hp) (by simp),e0.hok.kept hk,?_⟩
 ·exact name_of_addr x.apart (PySem.mem_of_lookup h1) (PySem.mem_of_lookup h2)
 ·have hy:scope.names.lookup y=some .cell∨scope.names.lookup y=some .free:=hy
  rcases hy with hy | hy
  ·exact zlk hy
  ·exact absurd rfl (S.nofree _ (PySem.mem_of_lookup hy))
 ·exact Nat.le_of_lt (x.above y c (PySem.mem_of_lookup h))
 ·have hi:i < vs.length:=by
   unfold zb9 at h2
   by_cases hi:i < vs.length
   ·exact hi
   ·rw[List.getElem?_append_right (by simpa using hi)] at h2
    rw[List.getElem?_replicate] at h2
    split at h2 <;> cases h2
  have ha:vs[i]?=some v:=by
   unfold zb9 at h2
   rw[List.getElem?_append_left (by simpa using hi),List.getElem?_map] at h2
   cases e:vs[i]? with
   | none=>rw[e] at h2; cases h2
   | some a=>rw[e] at h2; cases h2; rfl
  obtain⟨u,hu,rv⟩:=r.get ha
  have hp:ps[i]?=some y:=by
   rw[← S.pre,List.getElem?_take_of_lt (by omega)]; exact h1
  have ndP:ps.Nodup:=by rw[← S.pre]; exact S.nd.sublist (List.take_sublist _ _)
  refine⟨u,rv,?_⟩
  rcases S.par y (List.mem_of_getElem? hp) with k | k
  ·exact .inl ⟨k,zjY ndP hp hu k⟩
  ·obtain⟨c,e⟩:=zlk (n:=s.heap.objs.size + 1) k
   refine .inr ⟨.inl k,c,e,?_⟩
   have q:=x.cell y c e
   rw[zkC ndP hp hu (by show scope.names.lookup y≠_; rw[k]; decide)] at q
   exact q
 ·exact e0.hok.fresh (Nat.le_of_lt (x.above y c (PySem.mem_of_lookup h)))
 ·unfold zb9
  show _=N.length
  rw[List.length_append,List.length_map,List.length_replicate]
  omega

theorem fn_of {CX:CXT}{P:Program}{w:World}{K:PySem.W.Frag}{mg:Str→Option Value}{base:Heap}{k:Nat}{f:Addr}{name qual:Str}{params:Arguments}{body:List Stmt}{scope:Scope}{dV kV doc pm cdv ct oc:Value}{an od:Option Addr}
  {osl:Array (Option Value)}{N ps:List Str}{sp:Sp}(lk:K.lookup f=some ⟨oc,od,.func (PySem.W.fnOf name qual params body scope dV kV doc pm an cdv ct),osl⟩)(hcd:PySem.W.codeIn K cdv qual=true)(S:zaq N ps scope)
  (len:∀vs H Q E,sp vs H Q E→vs.length=ps.length)
  (hbody:∀(A:Around) (outer:List Env) (s:Shared) (H:Hp) (vs:List V) (Q:VK) (E:XK),zaD k (A.deeper (envOfC qual scope s.heap.objs.size f cdv))→sp vs H Q E→
   ∃t,PSs (zdl CX P w K mg base N qual scope f cdv A outer s H E) body t∧t { nx:=fun _ H'=>Q .non H',rt:=Q } (zb9 N vs) H):
  za3 P w K mg base CX (k + 1) f (PySem.W.fnOf name qual params body scope dV kV doc pm an cdv ct) ps sp:=by
 refine⟨len,fun A outer s H args us vs Q E hr e0 hb r hsp=>?_⟩
 have hl:=len _ _ _ _ hsp
 have KX:K.In s.heap:=e0.mod.kin.keeps fun b o e=>(e0.bs b o e).1
 have lim:s.heap.NoLimit:=e0.mod.nolimit.keeps fun b o e=>(e0.bs b o e).1
 have hkind:∀y∈ps.zip us,scope.names.lookup y.1=some .local∨(scope.names.lookup y.1=some .cell∧((cellsFrom (s.heap.objs.size + 1) scope.names []).lookup y.1).isSome=true):=fun ⟨n,v⟩ hy=>by
  rcases S.par n (List.of_mem_zip hy).1 with q | q
  ·exact .inl q
  ·exact .inr ⟨q,PySem.W.cellsFrom_some _ _ _ (.inl q)⟩
 refine codeAny_call_function hr.depth (KX _ _ lk) rfl S.co S.gen rfl (PySem.W.codeRec_of KX hcd) (hb _ _ _ _ ?_)
 refine wpAny_newFunctionEnv_cells S.kind hkind fun env he s1 x=>?_
 subst he
 refine⟨lim.keeps x.toInCall.keep,codeAny_func ?_⟩
 obtain⟨t,ht,hq⟩:=hbody A outer s H vs Q E (hr.deeper _) hsp
 have I:Inv (zdl CX P w K mg base N qual scope f cdv A outer s H E) [] (zb9 N vs) H s1:=zmv S hr.hd e0 hl r x
 refine wpAny_mono (ht [] s1 (zb9 N vs) H _ I hq) (fun fl s' hs=>?_) fun e s' hs=>hs
 have fin:∀ {σ':St} {H':Hp} {v:V} {u:Value},Inv (zdl CX P w K mg base N qual scope f cdv A outer s H E) [] σ' H' s'→zal v u→Q v H'→CE outer P w H s Q u s':=
  fun {σ' H' v u} J rv q=>⟨v,H',J.os,J.bare,J.base,J.hok,rv,q⟩
 cases fl with
 | ret u=>
  obtain⟨v,σ',H',J,rv,q⟩:=hs
  exact fin J rv q
 | next=>
  obtain⟨σ',H',J,q⟩:=hs
  exact fin (v:=V.non) (u:=Value.none) J rfl q
 | brk=>
  obtain⟨_,_,_,q⟩:=hs
  exact False.elim q
 | cont=>
  obtain⟨_,_,_,q⟩:=hs
  exact False.elim q
end L2

namespace L2
open PySem PySem.Spec PyProof.Rows
section
variable {X:Cx}{x:Str}{p pos:Pos}{e:Expr}{es:List Expr}{t:TA}{id T:String}{r:List V→Hp→VK→Prop}

def tCB (r:List V→Hp→VK→Prop)(t:TA):TE:=fun σ H Q=>t σ H fun vs H1=>r vs H1 Q
theorem ziR (hc:za8 X (.builtin id) r)(hg:Gl X x)(hm:X.mg x=none)(hv:bootBuiltins x=some (.builtin id))(ha:PA X (e::es) t)(hn:x≠"__name__":=by decide)(hdb:(x == ("__debug__":Str))=false:=by decide)
  (he:starEach (e::es) X.env=(false,eval e X.env)::starEach es X.env:=by rfl)(hpl:(backTo pos (starEach es X.env)).any (·.1)=false:=by rfl):PE X (.Call (.Name x p) (e::es) [] pos) (tCB r t):=by
 intro pins s σ H Q I h
 refine wpAny_Call_Name_kw (zdq I hg hm hv ?_ hn hdb)
 exact PyProof.Rows.callWith_builtin1 (thn (ha pos pins s σ H _ I h) fun us s1 ⟨vs,H1,I1,r1,q1⟩=>hc pins s1 σ H1 vs us Q I1 r1 q1) he hpl
theorem zob (hc:za8 X (.type T) r)(hg:Gl X x)(hm:X.mg x=none)(hv:bootBuiltins x=some (.type T))(ha:PA X (e::es) t)(hn:x≠"__name__":=by decide)(hdb:(x == ("__debug__":Str))=false:=by decide)
  (he:starEach (e::es) X.env=(false,eval e X.env)::starEach es X.env:=by rfl)(hpl:(backTo pos (starEach es X.env)).any (·.1)=false:=by rfl):PE X (.Call (.Name x p) (e::es) [] pos) (tCB r t):=by
 intro pins s σ H Q I h
 refine wpAny_Call_Name_kw (zdq I hg hm hv ?_ hn hdb)
 exact PyProof.Rows.callWith_type1 (thn (ha pos pins s σ H _ I h) fun us s1 ⟨vs,H1,I1,r1,q1⟩=>hc pins s1 σ H1 vs us Q I1 r1 q1) he hpl
end
end L2

namespace HT
open PySem PyProof.Rows

section
open PySem.SeqAt
open PySem.AutoSeq1 (wpAny_loadPart')
open PySem.MeetsSeq PySem.MeetsSeq2 PySem.MeetsSeq3

end

section
variable {prog:Program}{w:World}{A:Around}{E:Value→Shared→Prop}{s:Shared}

def sIx (n d:Nat):Option Int→Nat
 | none=>d
 | some v=>if v < 0 then (v + (n:Int)).toNat else min v.toNat n
theorem sIx_none (n d:Nat):sIx n d none=d:=rfl
theorem sIx_nat (n d k:Nat):sIx n d (some (k:Int))=min k n:=by
 show (if (k:Int) < 0 then ((k:Int) + (n:Int)).toNat else min (k:Int).toNat n)=min k n
 rw[if_neg (by omega),Int.toNat_natCast]
end
end HT

namespace L2
open PySem PySem.Spec PyProof.Rows

abbrev TO:=St→Hp→(Option Int→Hp→Prop)→Prop
def PO (X:Cx)(e:Option Expr)(t:TO):Prop:=
 ∀(pins:List (Addr×Obj)) (s:Shared) (σ:St) (H:Hp) (Q:Option Int→Hp→Prop),Inv X pins σ H s→t σ H Q→
  wpAny (model X.prog X.w) X.A (evalPart e X.env) (fun u s'=>∃o H',Inv X pins σ H' s'∧IsPart u o∧Q o H') X.xe s
def zqx:TO:=fun _ H Q=>Q none H
def tPart (t:TE):TO:=fun σ H Q=>t σ H fun x H1=>∃i,x=.int i∧Q (some i) H1

section
variable {X:Cx}{e:Expr}{te:TE}{lo hi:Option Expr}{tl th:TO}{pos p2:Pos}

theorem zq3:PO X none zqx:=by
 intro pins s σ H Q I h
 rw[evalPart_none]
 exact wpAny_pure ⟨none,H,I,.none,h⟩
theorem zo6 (h:PE X e te):PO X (some e) (tPart te):=by
 intro pins s σ H Q I hw
 rw[evalPart_some]
 refine thn (h pins s σ H _ I hw) fun u s1 ⟨x,H1,I1,r1,q1⟩=>?_
 obtain⟨i,rfl,q⟩:=q1
 obtain⟨t,rfl⟩:=r1
 exact⟨some i,H1,I1,.int i t,q⟩

def SlR (X:Cx)(r:V→Option Int→Option Int→Hp→VK→Prop):Prop:=
 ∀(pins:List (Addr×Obj)) (s:Shared) (σ:St) (H:Hp) (x:V) (v vl vu:Value) (lo hi:Option Int) (sl:Addr) (Q:VK),Inv X pins σ H s→zal x v→s.heap.IsSliceOf sl vl vu .none→IsPart vl lo→IsPart vu hi→r x lo hi H Q→
  ∃T id,typeLookup (.type T) "__getitem__"=pure (some (.builtin id))∧s.TypeIs v T∧wpAny (model X.prog X.w) X.A (getItem v (.ref sl)) (EP X pins σ Q) X.xe s
def tSl (r:V→Option Int→Option Int→Hp→VK→Prop)(te:TE)(tl th:TO):TE:=fun σ H Q=>te σ H fun x H1=>tl σ H1 fun l H2=>th σ H2 fun u H3=>r x l u H3 Q
theorem zpO {r:V→Option Int→Option Int→Hp→VK→Prop}(hr:SlR X r)(he:PE X e te)(hl:PO X lo tl)(hu:PO X hi th):PE X (.Subscript e (.Slice lo hi none p2) pos) (tSl r te tl th):=by
 intro pins s σ H Q I h
 refine Subscript_ (thn (he pins s σ H _ I h) fun v s1 ⟨x,H1,I1,r1,q1⟩=>?_)
 refine wpAny_Slice (thn (hl pins s1 σ H1 _ I1 q1) fun vl s2 ⟨l,H2,I2,pl,q2⟩=>thn (hu pins s2 σ H2 _ I2 q2) fun vu s3 ⟨u,H3,I3,pu,q3⟩=>?_)
 rw[evalPart_none]
 refine wpAny_pure ?_
 have I4:Inv X pins σ H3 { s3 with heap:=s3.heap.push { cls:=.type "slice",data:=.fields #[vl,vu,.none] } }:=I3.kept (t':=s3.toks) fun b ob q=>Heap.get?_push_of_some _ q
 obtain⟨T,id,hT,ht,hg⟩:=hr pins { s3 with heap:=s3.heap.push { cls:=.type "slice",data:=.fields #[vl,vu,.none] } } σ H3 x v vl vu l u s3.heap.objs.size Q I4 r1 (Heap.IsSliceOf.new ..) pl pu q3
 show wpAny (model X.prog X.w) X.A (subscriptTail e (.Slice lo hi none p2) v (.ref s3.heap.objs.size)) (EP X pins σ Q) X.xe { s3 with heap:=s3.heap.push { cls:=.type "slice",data:=.fields #[vl,vu,.none] } }
 exact tail_any (ops:=[.ref s3.heap.objs.size,v]) ht hT hg (by with_unfolding_all rfl)

def zdB (xs:List V)(lo hi:Option Int):List V:=(xs.drop (HT.sIx xs.length 0 lo)).take (HT.sIx xs.length xs.length hi - HT.sIx xs.length 0 lo)
theorem zp5 (xs:List V)(lo hi:Option Int):(zdB xs lo hi).length≤xs.length:=by
 unfold zdB
 rw[List.length_take,List.length_drop]
 omega
end
end L2

namespace L2
open PySem PySem.Spec PyProof.Rows

def ixN (n:Nat)(i:Int):Option Nat:=if 0≤i then (if i < n then some i.toNat else none) else if -(n:Int)≤i then some (i + n).toNat else none
def atI {α:Type}(xs:List α)(i:Int):Option α:=(ixN xs.length i).bind fun j=>xs[j]?
theorem zl3 {n:Nat}{i:Int}{j:Nat}(h:ixN n i=some j):seqIndex? i n=some j∧j < n∧-(n:Int)≤i∧i < n:=by
 unfold ixN at h
 by_cases h0:0≤i
 ·rw[if_pos h0] at h
  by_cases h1:i < n
  ·rw[if_pos h1] at h
   have e:i.toNat=j:=Option.some.inj h
   exact⟨by rw[seqIndex_of h0 h1,e],by omega,by omega,h1⟩
  ·rw[if_neg h1] at h; cases h
 ·rw[if_neg h0] at h
  by_cases h1:-(n:Int)≤i
  ·rw[if_pos h1] at h
   have e:(i + n).toNat=j:=Option.some.inj h
   exact⟨by rw[seqIndex_neg (by omega) h1,e],by omega,h1,by omega⟩
  ·rw[if_neg h1] at h; cases h
theorem zj0 {α:Type}{xs:List α}{i:Int}{v:α}(h:atI xs i=some v):∃j,seqIndex? i xs.length=some j∧xs[j]?=some v∧j < xs.length∧-(xs.length:Int)≤i∧i < xs.length:=by
 unfold atI at h
 cases e:ixN xs.length i with
 | none=>rw[e] at h; cases h
 | some j=>
  rw[e] at h
  obtain⟨h1,h2,h3,h4⟩:=zl3 e
  exact⟨j,h1,h,h2,h3,h4⟩
theorem zcr {α:Type}{xs:List α}{j:Nat}{v:α}(h:xs[j]?=some v):atI xs (j:Int)=some v:=by
 have hj:j < xs.length:=(List.getElem?_eq_some_iff.mp h).1
 have e:ixN xs.length (j:Int)=some j:=by
  unfold ixN
  rw[if_pos (by omega),if_pos (by omega)]; simp
 unfold atI; rw[e]; exact h
def zir (b:Expr):Prop:=∀o i,subscripted b false o i=operate [o,i] (getItem o i)
def IxR (X:Cx)(r:R2):Prop:=
 ∀(value slice:Expr) (pins:List (Addr×Obj)) (s:Shared) (σ:St) (H:Hp) (x y:V) (v u:Value) (Q:VK),Inv X pins σ H s→zal x v→zal y u→r x y H Q→
  subscripted slice false v u=operate [v,u] (getItem v u)→wpAny (model X.prog X.w) X.A (subscriptTail value slice v u) (EP X pins σ Q) X.xe s
def MtR (X:Cx)(id:String)(r:V→List V→Hp→VK→Prop):Prop:=
 ∀(pins:List (Addr×Obj)) (s:Shared) (σ:St) (H:Hp) (x:V) (xs:List V) (v:Value) (us:List Value) (Q:VK),Inv X pins σ H s→zal x v→zap xs us→r x xs H Q→
  wpAny (model X.prog X.w) X.A (call (.builtin id) (v::us)) (EP X pins σ Q) X.xe s
section
variable {X:Cx}{a b:Expr}{ta tb:TE}{pos:Pos}
theorem pe_ix {r:R2}(hr:IxR X r)(ha:PE X a ta)(hb:PE X b tb)(hs:zir b):PE X (.Subscript a b pos) (tOp r ta tb):=by
 intro pins s σ H Q I h
 exact Subscript_ (binT ha hb I h fun v u s2 x y H2 I2 rx ry q=>hr a b pins s2 σ H2 x y v u Q I2 rx ry q (hs _ _))

def rIxL (K:PySem.W.Frag):R2:=fun x y H Q=>∃p xs i v,x=.ref p∧y=.int i∧SqL K H p xs∧atI xs i=some v∧Q v H
def rIxT (K:PySem.W.Frag):R2:=fun x y H Q=>∃p xs i v,x=.ref p∧y=.int i∧SqT K H p xs∧atI xs i=some v∧Q v H
theorem zpw:IxR X (rIxL X.K):=by
 intro value slice pins s σ H x y v u Q I rx ry h hs
 obtain⟨p,xs,i,z,rfl,rfl,hq,he,q⟩:=h
 cases rx
 obtain⟨t,rfl⟩:=ry
 obtain⟨its,r,pl,hz⟩:=I.list hq
 obtain⟨j,h1,h2,h3,h4,h5⟩:=zj0 he
 obtain⟨w,ew,rw'⟩:=r.get h2
 have hl:=r.length
 have hn:=zhB
 have fin:EP X pins σ Q w s:=⟨z,H,I,rw',q⟩
 by_cases h0:0≤i
 ·have hj:i.toNat=j:=by
   rw[seqIndex_of h0 h5] at h1
   exact Option.some.inj h1
  exact item_listR pl.isList h0 (by omega) (by rw[hj]; simpa using ew) fin hs
 ·have hj:(i + (its.toArray.size:Int)).toNat=j:=by
   rw[seqIndex_neg (by omega) h4] at h1
   rw[List.size_toArray,← hl]
   exact Option.some.inj h1
  exact subscriptTail_builtinR (x:=w) pl.isList.typeIs slot_list_getitem.lookup
   (wpAny_getItem_list_neg (Q:=fun r s'=>r=w∧EP X pins σ Q r s') pl.isList (by omega) (by rw[List.size_toArray] <;> omega) (by omega) (by rw[hj]; simpa using ew) ⟨rfl,fin⟩) hs
theorem zqE:IxR X (rIxT X.K):=by
 intro value slice pins s σ H x y v u Q I rx ry h hs
 obtain⟨p,xs,i,z,rfl,rfl,hq,he,q⟩:=h
 cases rx
 obtain⟨t,rfl⟩:=ry
 obtain⟨its,r,pl,hz⟩:=I.tuple hq
 obtain⟨j,h1,h2,h3,h4,h5⟩:=zj0 he
 obtain⟨w,ew,rw'⟩:=r.get h2
 have hl:=r.length
 have hn:=zhB
 have fin:EP X pins σ Q w s:=⟨z,H,I,rw',q⟩
 exact subscriptTail_builtinR (x:=w) pl.typeIs slot_tuple_getitem.lookup
  (getItem_tuple (j:=j) (Q:=fun r s'=>r=w∧EP X pins σ Q r s') pl (by omega) (by omega) (by rw[List.size_toArray,← hl]; exact h1) (by simpa using ew) ⟨rfl,fin⟩) hs
theorem Inv.lst {pins:List (Addr×Obj)}{σ:St}{H:Hp}{s:Shared}{p:Addr}{xs:List V}(I:Inv X pins σ H s)(h:H p=some (.lst xs)):
  ∃(its:List Value) (n:Nat),zap xs its∧s.heap.get? p=some { cls:=.type "list",data:=.seq its.toArray n }∧xs.length≤sizeLine:=by
 obtain⟨z,its,n,r,e⟩:=I.hok p _ h
 exact⟨its,n,r,e,z⟩
theorem zlM (lo hi:Option Int)(n:Nat):(sliceBounds lo hi none n).1=((HT.sIx n 0 lo:Nat):Int)∧(sliceBounds lo hi none n).2.1=((HT.sIx n n hi:Nat):Int)∧(sliceBounds lo hi none n).2.2=1:=by
 refine⟨?_,?_,rfl⟩
 ·cases lo with
  | none=>simp[sliceBounds,HT.sIx]
  | some i=>
   simp only[sliceBounds,HT.sIx,Option.getD_none,show (1:Int) > 0 by decide,if_true]
   by_cases h:i < 0
   ·simp only[h,if_true] <;> omega
   ·simp only[h,if_false] <;> omega
 ·cases hi with
  | none=>simp[sliceBounds,HT.sIx]
  | some i=>
   simp only[sliceBounds,HT.sIx,Option.getD_none,show (1:Int) > 0 by decide,if_true]
   by_cases h:i < 0
   ·simp only[h,if_true] <;> omega
   ·simp only[h,if_false] <;> omega
theorem znW (its:List Value)(lo hi:Option Int):slicePick its.toArray lo hi none=((its.drop (HT.sIx its.length 0 lo)).take (HT.sIx its.length its.length hi - HT.sIx its.length 0 lo)).toArray:=by
 obtain⟨h1,h2,h3⟩:=zlM lo hi its.toArray.size
 unfold slicePick
 rw[h1,h2,h3]
 simp only[sliceRange_one,pick_run,List.size_toArray] <;> rfl
def rSlL (K:PySem.W.Frag):V→Option Int→Option Int→Hp→VK→Prop:=fun x lo hi H Q=>∃a xs,x=.ref a∧SqL K H a xs∧∀p,H p=none→Q (.ref p) (upd H p (.lst (zdB xs lo hi)))
theorem zpZ:SlR X (rSlL X.K):=by
 intro pins s σ H x v vl vu lo hi sl Q I rx hs pl pu h
 obtain⟨a,xs,rfl,hx,q⟩:=h
 cases rx
 obtain⟨its,r,ht,hz⟩:=I.list hx
 have hlen:=r.length
 refine⟨"list",_,slot_list_getitem.lookup,ht.isList.typeIs,?_⟩
 refine wpAny_getItem_list_slice ht.isList hs pl pu .none (by simp) ?_ (by rw[List.size_toArray] <;> omega)
 rw[znW,← hlen]
 refine⟨.ref s.heap.objs.size,_,I.laid (t':=s.toks) (o:=.lst (zdB xs lo hi)) (fun b ob q=>Heap.get?_push_of_some _ q) (Nat.le_refl _) ?_,rfl,q _ (I.hok.fresh (Nat.le_refl _))⟩
 exact⟨Nat.le_trans (zp5 xs lo hi) hz,_,0,(r.drop (HT.sIx xs.length 0 lo)).take (HT.sIx xs.length xs.length hi - HT.sIx xs.length 0 lo),Heap.get?_push_size _ rfl⟩

def zhC:V→Bool
 | .non=>true
 | .bl _=>true
 | .int _=>true
 | .str _=>true
 | _=>false
def eqV:V→V→Bool
 | .non,.non=>true
 | .bl a,.bl b=>a == b
 | .bl a,.int b=>(if a then 1 else 0) == b
 | .int a,.bl b=>a == (if b then 1 else 0)
 | .int a,.int b=>a == b
 | .str a,.str b=>a == b
 | _,_=>false
theorem znr {A:Around}{s:Shared}{y x:V}{u v:Value}(ry:zal y u)(rx:zal x v)(fy:zhC y=true)(fx:zhC x=true):SeqAt.EqAt A s u v (eqV y x):=by
 cases y with
 | non=>
  cases ry
  cases x with
  | non=>cases rx; exact SeqAt.EqAt.same _
  | bl b=>cases rx; exact SeqAt.EqAt.none_bool b
  | int b=>obtain⟨t,rfl⟩:=rx; exact SeqAt.EqAt.none_int b t
  | str b=>obtain⟨t,rfl⟩:=rx; exact SeqAt.EqAt.none_str b t
  | _=>exact absurd (show false=true from fx) Bool.false_ne_true
 | bl a=>
  cases ry
  cases x with
  | non=>cases rx; exact SeqAt.EqAt.bool_none a
  | bl b=>cases rx; exact SeqAt.EqAt.bool_bool a b
  | int b=>obtain⟨t,rfl⟩:=rx; exact SeqAt.EqAt.bool_int a b t
  | str b=>obtain⟨t,rfl⟩:=rx; exact SeqAt.EqAt.bool_str a b t
  | _=>exact absurd (show false=true from fx) Bool.false_ne_true
 | int a=>
  obtain⟨t',rfl⟩:=ry
  cases x with
  | non=>cases rx; exact SeqAt.EqAt.int_none a t'
  | bl b=>cases rx; exact SeqAt.EqAt.int_bool a t' b
  | int b=>obtain⟨t,rfl⟩:=rx; exact SeqAt.EqAt.int_int a t' b t
  | str b=>obtain⟨t,rfl⟩:=rx; exact SeqAt.EqAt.int_str a t' b t
  | _=>exact absurd (show false=true from fx) Bool.false_ne_true
 | str a=>
  obtain⟨t',rfl⟩:=ry
  cases x with
  | non=>cases rx; exact SeqAt.EqAt.str_none a t'
  | bl b=>cases rx; exact SeqAt.EqAt.str_bool a t' b
  | int b=>obtain⟨t,rfl⟩:=rx; exact SeqAt.EqAt.str_int a t' b t
  | str b=>obtain⟨t,rfl⟩:=rx; exact SeqAt.EqAt.str_str a t' b t
  | _=>exact absurd (show false=true from fx) Bool.false_ne_true
 | _=>exact absurd (show false=true from fy) Bool.false_ne_true
theorem znB:za8 X (.builtin "len") (fun xs H Q=>∃p ys,xs=[.ref p]∧(SqL X.K H p ys∨SqT X.K H p ys)∧Q (.int ys.length) H):=by
 intro pins s σ H xs us Q I r h
 obtain⟨p,ys,rfl,hq,q⟩:=h
 obtain⟨u,rfl,rx⟩:=zc8 r
 cases rx
 have hn:=zhB
 rcases hq with hq | hq
 ·obtain⟨its,r',pl,hz⟩:=I.list hq
  have hlen:=r'.length
  exact Calls.call_len_list pl.isList (by simp only[List.size_toArray] <;> omega) ⟨.int ys.length,H,I.tok _,⟨s.toks + 1,by rw[List.size_toArray,hlen]⟩,q⟩
 ·obtain⟨its,r',pl,hz⟩:=I.tuple hq
  have hlen:=r'.length
  exact len_tuple pl (by simp only[List.size_toArray] <;> omega) ⟨.int ys.length,H,I.tok _,⟨s.toks + 1,by rw[List.size_toArray,hlen]⟩,q⟩
theorem zpc:za8 X (.type "list") (fun xs H Q=>∃p ys,xs=[.ref p]∧(SqL X.K H p ys∨SqT X.K H p ys)∧∀l,H l=none→Q (.ref l) (upd H l (.lst ys))):=by
 intro pins s σ H xs us Q I r h
 obtain⟨p,ys,rfl,hq,q⟩:=h
 obtain⟨u,rfl,rx⟩:=zc8 r
 cases rx
 have fin:∀(its:List Value),zap ys its→ys.length≤sizeLine→∀(h':Heap) (c':Nat),(∀b o',s.heap.get? b=some o'→h'.get? b=some o')→
   h'.get? s.heap.objs.size=some { cls:=.type "list",dict:=none,data:=.seq its.toArray c',slots:=#[] }→EP X pins σ Q (.ref s.heap.objs.size) { s with heap:=h' }:=fun its r' hz h' c' kp e=>
  ⟨.ref s.heap.objs.size,_,I.laid (t':=s.toks) kp (Nat.le_refl _) (show zbf X.prog X.w _ h' _ (.lst ys) from ⟨hz,its,c',r',e⟩),rfl,q _ (I.hok.fresh (Nat.le_refl _))⟩
 rcases hq with hq | hq
 ·obtain⟨its,r',pl,hz⟩:=I.list hq
  have hlen:=r'.length
  obtain⟨o,ho,hc,n,hd⟩:=pl.isList
  exact call_list_seq p (.inl rfl) ho hc hd (fun h' c' kp e=>fin its r' hz h' c' kp e) (by simp only[List.size_toArray] <;> omega)
 ·obtain⟨its,r',pl,hz⟩:=I.tuple hq
  have hlen:=r'.length
  obtain⟨o,ho,hc,n,hd⟩:=pl
  exact call_list_seq p (.inr rfl) ho hc hd (fun h' c' kp e=>fin its r' hz h' c' kp e) (by simp only[List.size_toArray] <;> omega)
def tyV (K:PySem.W.Frag)(T:String)(x:V)(H:Hp):Prop:=match x with
 | .str _=>T="str"
 | .int _=>T="int"
 | .ref p=>(T="list"∧∃xs,SqL K H p xs)∨(T="tuple"∧∃o,K.lookup p=some o∧o.cls=.type "tuple"∧o.dict=none)∨
   (T="dict"∧((∃kvs,H p=some (.dK kvs))∨∃kvs,H p=some (.dT kvs)))∨(T="set"∧∃S n,H p=some (.set S n))
 | _=>False
theorem zn3 {pins:List (Addr×Obj)}{σ:St}{H:Hp}{s:Shared}{T:String}{x:V}{v:Value}(I:Inv X pins σ H s)(r:zal x v)(ty:tyV X.K T x H):
  s.TypeIs v T∧∀a,v=.ref a→∃ob,s.heap.get? a=some ob∧ob.dict=none:=by
 cases x with
 | str z=>
  obtain⟨t,rfl⟩:=r
  cases (show T="str" from ty)
  exact⟨typeIs_str s z t,fun _ e=>nomatch e⟩
 | int i=>
  obtain⟨t,rfl⟩:=r
  cases (show T="int" from ty)
  exact⟨typeIs_int s i t,fun _ e=>nomatch e⟩
 | ref p=>
  cases r
  rcases ty with ⟨rfl,xs,hq⟩ | ⟨rfl,o,hk,hc,hd⟩ | ⟨rfl,hk⟩ | ⟨rfl,S,n,hk⟩
  ·obtain⟨its,_,pl,_⟩:=I.list hq
   refine⟨pl.isList.typeIs,fun a e=>?_⟩
   cases e
   obtain⟨o,n,e,c,hd,_⟩:=pl
   exact⟨o,e,hd⟩
  ·refine⟨⟨o,I.kIn p o hk,hc⟩,fun a e=>?_⟩
   cases e
   exact⟨o,I.kIn _ o hk,hd⟩
  ·have z:∃o,s.heap.get? p=some o∧o.ExactDict:=by
    rcases hk with ⟨kvs,hk⟩ | ⟨kvs,hk⟩
    ·obtain⟨_,_,_,_,o,_,_,e,ex,_⟩:=I.hok p _ hk
     exact⟨o,e,ex⟩
    ·obtain⟨_,_,_,_,o,_,_,e,ex,_⟩:=I.hok p _ hk
     exact⟨o,e,ex⟩
   obtain⟨o,e,ex⟩:=z
   refine⟨⟨o,e,ex.1⟩,fun a e2=>?_⟩
   cases e2
   exact⟨o,e,ex.2.1⟩
  ·obtain⟨o,_,_,_,e,ex,_⟩:=I.hok p _ hk
   refine⟨⟨o,e,ex.1⟩,fun a e2=>?_⟩
   cases e2
   exact⟨o,e,ex.2.1⟩
 | _=>exact False.elim ty
def tBM (K:PySem.W.Frag)(T:String)(r:V→List V→Hp→VK→Prop)(to:TE)(t:TA):TE:=fun σ H Q=>to σ H fun x H1=>tyV K T x H1∧t σ H1 fun xs H2=>r x xs H2 Q
variable {o e:Expr}{es:List Expr}{to:TE}{t:TA}{name:Str}{apos cpos:Pos}{T id:String}{r:V→List V→Hp→VK→Prop}
theorem ziw (pa:PlainAttrs T)(slot:Slot T name id)(hty:typeOf (.builtin id)=pure (.type "method_descriptor"))(hm:MtR X id r)(ho:PE X o to)(ha:PA X (e::es) t)
  (hbase:attributeBase o name X.env (eval o X.env)=eval o X.env:=by rfl)
  (hfew:((backTo cpos (starEach (e::es) X.env)).all (fun x=>!x.1) && (backToKw cpos (keywordEach [] X.env)).all (fun x=>x.1.isSome)
   && decide ((e::es).length + ([]:List Keyword).length + (if ([]:List Keyword).isEmpty then 0 else 1) < 30))=true:=by rfl)
  (hline:(apos.endLine == cpos.line)=true:=by rfl)(hs:starEach (e::es) X.env=(false,eval e X.env)::starEach es X.env:=by rfl)(hplain:(backTo cpos (starEach es X.env)).any (·.1)=false:=by rfl):
  PE X (.Call (.Attribute o name apos) (e::es) [] cpos) (tBM X.K T r to t):=by
 intro pins s σ H Q I h
 refine wpAny_Call_method_late hbase hfew hline rfl (thn (ho pins s σ H _ I h) fun v s1 ⟨x,H1,I1,r1,ty,q1⟩=>?_)
 obtain⟨h1,h2⟩:=zn3 I1 r1 ty
 refine⟨T,id,pa,slot,hty,h1,h2,?_⟩
 have hA:=ha cpos pins s1 σ H1 _ I1 q1
 rw[hs] at hA ⊢
 refine Calls.callWith_builtin (by show (false || (backTo cpos (starEach es X.env)).any (·.1))=false; rw[hplain] <;> rfl) (Calls.evalArgs_plain ?_)
 exact thn hA fun us s2 ⟨vs,H2,I2,r2,q2⟩=>hm pins s2 σ H2 x vs v us Q I2 r1 r2 q2
end
end L2

namespace L2
open PySem PySem.Spec PyProof.Rows

def MtM (X:Cx)(id:String)(r:V→List V→Hp→VK→Prop):Prop:=
 ∀(pins:List (Addr×Obj)) (s:Shared) (σ:St) (H:Hp) (x:V) (xs:List V) (v:Value) (us:List Value) (Q:VK),Inv X pins σ H s→zal x v→zap xs us→r x xs H Q→
  wpAny (model X.prog X.w) X.A (call (.builtin id) (v::us)) (EP X pins σ Q) X.xe s

theorem zap.one:∀ {x:V} {us:List Value},zap [x] us→∃u,us=[u]∧zal x u
 | _,_,.cons r .nil=>⟨_,rfl,r⟩
theorem zap.rep {xs:List V}{us:List Value}(h:zap xs us):∀k:Nat,zap (List.replicate k xs).flatten (List.replicate k us).flatten
 | 0=>.nil
 | k + 1=>by
  rw[List.replicate_succ,List.replicate_succ,List.flatten_cons,List.flatten_cons]
  exact zap.append h (zap.rep h k)
theorem zkl (its:List Value):∀(k:Nat) (acc:List Value),
  List.foldl (fun x1 x2=>x1++x2) acc.toArray (List.replicate k its.toArray)=(acc++(List.replicate k its).flatten).toArray
 | 0,acc=>by simp
 | k + 1,acc=>by
  have e:acc.toArray++its.toArray=(acc++its).toArray:=by simp
  have e2:(acc++its)++(List.replicate k its).flatten=acc++(List.replicate (k + 1) its).flatten:=by
   rw[List.replicate_succ,List.flatten_cons,List.append_assoc]
  rw[← e2,← zkl its k (acc++its),← e,List.replicate_succ,List.foldl_cons]

section
variable {X:Cx}{pins:List (Addr×Obj)}{σ:St}{H:Hp}{s:Shared}{l b:Addr}{xs ys zs:List V}

theorem Inv.lset {its its':List Value}{n:Nat}{f:Array Value→Array Value}{t':Nat}(I:Inv X pins σ H s)(hH:H l=some (.lst xs))
  (e:s.heap.get? l=some { cls:=.type "list",data:=.seq its.toArray n })(hf:f its.toArray=its'.toArray)(hv:zap ys its')(hz:ys.length≤sizeLine):
  Inv X pins σ (upd H l (.lst ys)) { s with heap:=s.heap.update l (Obj.mapSeq f),toks:=t' }:=by
 have q:=PySem.IsL.update e f
 rw[hf] at q
 refine I.write (x:=l) (e:=l) (by rw[hH]; exact trivial) (.inl rfl) (fun b' u hb hu=>(Heap.get?_update_other s.heap (Obj.mapSeq f) (Ne.symm hb)).trans hu) ⟨_,q⟩ ?_
 exact⟨hz,its',_,hv,q⟩
theorem Inv.lnew {its:List Value}{t':Nat}(I:Inv X pins σ H s)(hv:zap ys its)(hz:ys.length≤sizeLine):
  Inv X pins σ (upd H s.heap.objs.size (.lst ys)) { s with heap:=s.heap.push { cls:=.type "list",data:=.seq its.toArray },toks:=t' }:=
 I.laid (fun _ _ q=>Heap.get?_push_of_some _ q) (Nat.le_refl _) ⟨hz,its,0,hv,Heap.get?_push_size _ rfl⟩
theorem Inv.fresh (I:Inv X pins σ H s):H s.heap.objs.size=none:=I.hok.fresh (Nat.le_refl _)
theorem Inv.lstM (I:Inv X pins σ H s)(hH:H l=some (.lst xs)):xs.length≤sizeLine∧∃(its:List Value) (n:Nat),zap xs its∧xs.length=its.length∧s.heap.get? l=some { cls:=.type "list",data:=.seq its.toArray n }:=by
 obtain⟨z,its,n,r,e⟩:=I.hok l _ hH
 exact⟨z,its,n,r,r.length,e⟩

theorem zoD {n:Nat}(h:n≤sizeLine):Builtin.List.listTooLong n=false:=by
 unfold Builtin.List.listTooLong
 exact decide_eq_false (by omega)
end

section
variable {X:Cx}

def zqr:V→List V→Hp→VK→Prop:=fun x vs H Q=>∃l xs y,x=.ref l∧vs=[y]∧H l=some (.lst xs)∧xs.length < sizeLine∧Q .non (upd H l (.lst (xs++[y])))
theorem zis:MtM X "list.append" zqr:=by
 intro pins s σ H x vs v us Q I rx rv h
 obtain⟨l,xs,y,rfl,rfl,hH,hz,q⟩:=h
 cases rx
 obtain⟨u,rfl,ru⟩:=rv.one
 obtain⟨z,its,n,r,hl,e⟩:=I.lstM hH
 refine call_meets F.slot_list_append ⟨_,e,rfl⟩ F.entry_list_append (F.args_list_append_2 _ _) (PySem.list_append l its.toArray n u (by rw[List.size_toArray]; omega)) ⟨e,?_⟩
 refine⟨.non,_,I.lset (its':=its++[u]) hH e (by simp) (r.append (.cons ru .nil)) ?_,rfl,q⟩
 rw[List.length_append,List.length_singleton]
 omega

def rRep:R2:=fun x y H Q=>∃l k xs,x=.ref l∧y=.int k∧H l=some (.lst xs)∧-(2 ^ 63)≤k∧k < 2 ^ 63∧xs.length * k.toNat≤sizeLine∧
 ∀p,H p=none→Q (.ref p) (upd H p (.lst (List.replicate k.toNat xs).flatten))
theorem zpQ {α:Type}(xs:List α)(k:Nat):(List.replicate k xs).flatten.length=k * xs.length:=by
 induction k with
 | zero=>simp
 | succ k ih=>rw[List.replicate_succ,List.flatten_cons,List.length_append,ih,Nat.succ_mul,Nat.add_comm]
theorem zql:OpR X (binaryOp .Mult) rRep:=by
 intro pins s σ H x y v u Q I rx ry h
 obtain⟨l,k,xs,rfl,rfl,hH,h1,h2,hz,q⟩:=h
 cases rx
 obtain⟨t,rfl⟩:=ry
 obtain⟨z,its,n,r,hl,e⟩:=I.lstM hH
 have hlen:its.toArray.size * k.toNat≤sizeLine:=by rw[List.size_toArray,← hl]; exact hz
 have hcap:¬ its.toArray.size * k.toNat > (2 ^ 63 - 1) / 8:=by
  have:(sizeLine:Nat)≤(2 ^ 63 - 1) / 8:=by decide
  omega
 have hfit:¬ (!Builtin.List.listFitsIndex k)=true:=by
  rw[fitsIndex_both h1 h2]
  exact Bool.false_ne_true
 have hlong:¬ Builtin.List.listTooLong (its.toArray.size * k.toNat)=true:=by
  rw[zoD hlen]
  exact Bool.false_ne_true
 have hnew:List.foldl (fun x1 x2=>x1++x2) #[] (List.replicate (if its.toArray.isEmpty=true then 0 else k.toNat) its.toArray)=(List.replicate k.toNat its).flatten.toArray:=by
  have f0:∀m:Nat,List.foldl (fun x1 x2=>x1++x2) #[] (List.replicate m its.toArray)=(List.replicate m its).flatten.toArray:=fun m=>by
   have:=zkl its m []
   rw[List.nil_append] at this
   exact this
  rw[f0]
  cases its with
  | nil=>simp
  | cons a r'=>rw[if_neg (by simp)]
 refine wpAny_binaryOp_repeat_ref (T:="list") (U:="int") (by decide) ⟨_,e,rfl⟩ (fun s'=>typeIs_int s' k t) noFill_list_mul F.fills_int_mul F.slot_int_rmul repeat_list F.slot_int_index.lookup
  (call_meets F.slot_int_rmul (typeIs_int s k t) F.entry_int_rmul (F.args_int_rmul_2 _ _) (int___rmul___int_list k t l its.toArray n)
   ⟨e,rfl,⟨_,e,rfl⟩,call_meets F.slot_list_mul ⟨_,e,rfl⟩ F.entry_list_mul (F.args_list_mul_2 _ _) (AutoListH.list___mul___list_int_3 l its.toArray n k t hfit hcap hlong) ⟨e,?_⟩⟩)
 rw[hnew]
 exact⟨.ref _,_,I.lnew (t':=s.toks) (r.rep k.toNat) (by rw[zpQ,Nat.mul_comm]; exact hz),rfl,q _ I.fresh⟩

end

section
variable {prog:Program}{w:World}{A:Around}{E:Value→Shared→Prop}{s:Shared}
set_option maxRecDepth 100000 in
end

section
variable {X:Cx}
end
end L2

namespace Att
open PySem PySem.W PySem.Calls PyProof.Rows

theorem zop {P:Params}{h:Heap}:∀(ns:List Int) (vs:List Value),WellAll P h vs (ns.map WData.int)→IntsAre vs ns:=by
 intro ns
 induction ns with
 | nil=>
  intro vs w
  rw[List.map_nil] at w
  cases w
  exact .nil
 | cons n ns ih=>
  intro vs w
  rw[List.map_cons] at w
  cases w with
  | cons a b=>
   cases a
   exact .cons _ _ (ih _ b)

theorem zlZ {l:OpenLaw}{n:Nat}(hn:l.most=some n){P:Params}{h:Heap}{args:List WData}{vals:List Value}
  (hpre:l.row.toRowW.claim.pre args=true)(hwl:WellAll P h vals args):
  ∃a vs ns,vals=[Value.ref a]∧args=[WData.list (ns.map WData.int)]∧h.get? a=some { cls:=.type "list",data:=.seq vs.toArray }∧IntsAre vs ns∧ns.length≤n:=by
 have hsh:WShape.hasAll [] args [.list .int]=true:=(pre_splitW hpre).1
 have hc:l.pre.holds [] { args:=args }=true:=(pre_splitW hpre).2
 obtain⟨d,r,rfl,h1,h2⟩:=hasAllW_cons hsh
 obtain rfl:=hasAllW_nil h2
 obtain⟨xs,rfl,h3⟩:=hasW_list h1
 obtain⟨ns,rfl⟩:=items_int h3
 have hlen:ns.length≤n:=by
  unfold OpenLaw.pre at hc
  have h4:(WTm.not (.lt (.lit (.int (n:Int))) (.len (.arg 0)))).holds [] { args:=[.list (ns.map .int)] }=true:=by
   have h4:=(holds_andW hc).1
   rw[hn] at h4
   exact h4
  have h5:=condW_of h4 (w_not (w_lt w_lit (w_len_list (w_arg rfl))))
  rw[List.length_map] at h5
  refine Nat.le_of_not_lt fun q=>?_
  have q':(n:Int) < ((ns.length:Nat):Int):=by omega
  first
   | (rw[decide_eq_true q'] at h5; exact absurd h5 (by decide))
   | (simp at h5; omega)
 cases hwl with
 | cons w1 w2=>
  cases w2
  cases w1 with
  | list ho hall=>exact⟨_,_,ns,rfl,rfl,ho,zop ns _ hall,hlen⟩

theorem zpr (l:OpenLaw)(args:List WData):l.row.toRowW.claim.post args (.bool true) args=true:=
 postW_of (r:=l.row.toRowW) (X:=(true == true))
  (show WShape.has [] (.bool true) .bool=true by first | rfl | decide | simp[WShape.has,WShape.arms,WShape.armsAll])
  (show (WTm.eq .res (.lit (.bool true))).value [] { args:=args,res:=some (.bool true),after:=args }=some (.bool (true == true)) from w_eq_bool (w_res rfl) w_lit) rfl

theorem attach_call {l:OpenLaw}{n:Nat}{q:Program}{loose:List Str}{XP:(Str→Option Value)→Heap→Prop}{YP:World→Heap→Prop}{d:DefRec}
  (hn:l.most=some n)(hdf:d.params.defaults=[])
  (call:∀(w:World) (s₀ s₁:Shared) (mg mb:Str→Option Value) (fa:Addr) (o:Obj) (pm cd doc:Value) (a:Addr) (vs:List Value) (ns:List Int),
   Ground q loose [] XP w s₀ mg mb s₁.heap→YP w s₁.heap→
   s₁.heap.get? fa=some o→o.data=.func (docDef d.name d.params d.body d.scope pm cd doc)→s₁.heap.CodeRec cd d.name→mg d.name=some (.ref fa)→
   s₁.heap.get? a=some { cls:=.type "list",data:=.seq vs.toArray }→IntsAre vs ns→ns.length≤n→s₁.gens=#[]→
   codeAny (model l.prog w) callerA (.call (.ref fa) ⟨[.ref a],[]⟩) (fun r s'=>r=.ok (.ret (.bool true))∧OldK s₁.heap s'.heap∧s'.os=s₁.os∧AllBare s'.gens) s₁):
  WalkO q loose XP YP l.row.toRowW d [] (fun f vs=>PySem.call f vs):=by
 intro w s₀ s₁ mg mb G Y fa o pm cd doc dV kV ho hd hcd hD hmg hg args vals as hpre hlay hrd hwl hlo
 obtain rfl:dV=.none:=Dflts.none hD hdf
 obtain rfl:kV=.none:=Dflts.noKw hD
 obtain⟨a,vs,ns,rfl,rfl,hobj,hints,hlen⟩:=zlZ hn hpre hwl
 refine enter_call (codeAny_mono (call w s₀ s₁ mg mb fa o pm cd doc a vs ns G Y ho (fd_plain hd) hcd hmg hobj hints hlen hg) fun r s' hq=>?_)
 obtain⟨rfl,h2,h3,h4⟩:=hq
 exact⟨.inl ⟨.bool true,.bool true,[],rfl,fun _=>rfl,.bool true,zpr l _,fun _=>⟨List.Pairwise.nil,fun _ hm=>(nomatch hm)⟩⟩,h2,h3,h4⟩

section
variable {prog:Program}{w:World}{A:Around}{E:Value→Shared→Prop}{s:Shared}{K:Frag}

def ledger (h:Heap)(L d:Addr):List (Addr×Obj):=(List.range h.objs.size).filterMap fun a=>if a=L∨a=d then none else (h.get? a).map fun o=>(a,o)
end
end Att

namespace L2
open PySem PySem.Spec PyProof.Rows

theorem zhW:∀ {vs:List Value} {ns:List Int},IntsAre vs ns→zap (ns.map V.int) vs
 | _,_,.nil=>.nil
 | _,_,.cons n t h=>.cons ⟨t,rfl⟩ (zhW h)

def zfR (H:Hp):Prop:=∀b,H b=none∨∃o xs,H b=some (.frz o (.lst xs))

theorem zn5 {P:Program}{w:World}{K:PySem.W.Frag}{mg mb:Str→Option Value}{CX:CXT}{k:Nat}{fa a:Addr}{fd:FuncData}{x:Str}{sp:Sp}{s₁:Shared}{vs:List Value}{ns:List Int}
  (KX:K.In s₁.heap)(hns:s₁.heap.Ns mainGlobals mg)(hb:s₁.heap.Ns builtinsNs mb)(hbb:∀x:Str,x≠"__name__"→mb x=bootBuiltins x)(hlim:s₁.heap.NoLimit)(hg:s₁.gens=#[])
  (ha:s₁.heap.get? a=some { cls:=.type "list",data:=.seq vs.toArray })(hi:IntsAre vs ns)(hl:ns.length≤sizeLine)(hr:zaD k callerA)
  (F:∀base:Heap,K.In base→base.Ns mainGlobals mg→za3 P w K mg base CX k fa fd [x] sp)(hbind:∀(s:Shared) (u:Value),BindsTo s fd ⟨[u],[]⟩ [(x,u)])
  (hsp:∀H:Hp,zfR H→SqL K H a (ns.map V.int)→sp [.ref a] H (fun v _=>v=.bl true) fun _ _ _=>False)
  (hCX:∀H e s',CX [] H s₁ (fun _ _ _=>False) e s'→False):
  codeAny (model P w) callerA (.call (.ref fa) ⟨[.ref a],[]⟩) (fun r s'=>r=.ok (.ret (.bool true))∧OldK s₁.heap s'.heap∧s'.os=s₁.os∧AllBare s'.gens) s₁:=by
 have rv:=zhW hi
 have lenV:=hi.length
 -- from an abstract heap in which nothing but the script may be tracked
 have core:∀H:Hp,zfR H→SqL K H a (ns.map V.int)→HOk P w H s₁.heap→(∀b,H b≠none→b=a)→(H a≠none→K.lookup a=none)→
   codeAny (model P w) callerA (.call (.ref fa) ⟨[.ref a],[]⟩) (fun r s'=>r=.ok (.ret (.bool true))∧OldK s₁.heap s'.heap∧s'.os=s₁.os∧AllBare s'.gens) s₁:=by
  intro H hO hS hok hA hK
  have base_of:∀ {b:Addr} {o:Obj},s₁.heap.get? b=some o→H b=none→(zcb s₁.heap H).get? b=some o:=fun e n=>zn2 e n
  have noA:∀ {b:Addr} {o:Obj} {es:Array DictEntry} {ep:Nat},s₁.heap.get? b=some o→o.data=.dict es ep→H b=none:=fun {b o es ep} e d=>by
   cases q:H b with
   | none=>rfl
   | some u=>
    have e':b=a:=hA b (by rw[q]; simp)
    subst e'
    rw[ha] at e; cases e
    have d':Data.seq vs.toArray _=Data.dict es ep:=d
    cases d'
  have nsK:∀ {b:Addr} {m:Str→Option Value},s₁.heap.Ns b m→(zcb s₁.heap H).Ns b m:=fun {b m} ⟨o,es,ep,e,d,r⟩=>⟨o,es,ep,base_of e (noA e d),d,r⟩
  have hKb:K.In (zcb s₁.heap H):=fun b o e=>base_of (KX b o e) (by
   cases q:H b with
   | none=>rfl
   | some u=>
    have e':b=a:=hA b (by rw[q]; simp)
    subst e'
    rw[hK (by rw[q]; simp)] at e; cases e)
  have hM:Mod K mg (zcb s₁.heap H):=⟨hKb,nsK hns,⟨mb,nsK hb,hbb⟩,let ⟨mc,h1,h2⟩:=hlim; ⟨mc,nsK h1,h2⟩⟩
  have e0:zcH P w K mg (zcb s₁.heap H) callerA [] s₁ H:=⟨rfl,hM,fun b o e=>zpA e,Nat.le_of_eq (zrc _ _),trivial,fun b hb=>absurd (show b∈([]:List Addr) from hb) (by simp),hok,.of_eq hg⟩
  refine codeAny_mono ((F _ hKb (nsK hns)).run callerA [] s₁ H ⟨[.ref a],[]⟩ [.ref a] [.ref a] _ _ hr e0 (hbind s₁ (.ref a)) (.cons rfl .nil) (hsp H hO hS)) fun r s' h=>?_
  cases r with
  | error e=>exact(hCX H e s' h).elim
  | ok fl=>
   cases fl with
   | next=>exact False.elim h
   | brk=>exact False.elim h
   | cont=>exact False.elim h
   | ret u=>
    obtain⟨v,H',os,bare,un,hok',r',q⟩:=h
    have q':v=.bl true:=q
    subst q'
    obtain rfl:u=Value.bool true:=r'
    refine⟨rfl,OldK.of_keep fun b o e=>?_,os,bare⟩
    cases q:H b with
    | none=>exact un.keep b o e q (by intro z; exact absurd (show b∈([]:List Addr) from z) (by simp)) (by simp)
    | some u=>
     rcases hO b with z | ⟨ob,xs,z⟩
     ·rw[q] at z; cases z
     ·have z2:=un.frzs b ob _ z
      obtain⟨e1,_⟩:=hok b _ z
      obtain⟨e2,_⟩:=hok' b _ z2
      rw[e] at e1; cases e1
      exact e2
 cases hk:K.lookup a with
 | some o=>
  -- the script is one of the module's own objects
  have e:=KX a o hk
  rw[ha] at e
  cases e
  refine core (fun _=>none) (fun _=>.inl rfl) (.inr ⟨_,vs.toArray,_,hk,rfl,rfl,rfl,by rw[List.size_toArray,lenV]; exact hl,by simpa using rv⟩) (fun b u z=>by have z':(none:Option HO)=some u:=z; cases z') (fun b z=>absurd rfl z) fun z=>absurd rfl z
 | none=>
  refine core (fun b=>if b=a then some (.frz { cls:=.type "list",data:=.seq vs.toArray } (.lst (ns.map V.int))) else none) (fun b=>?_) (.inl (.inr ⟨{ cls:=.type "list",data:=.seq vs.toArray },if_pos rfl⟩)) (fun b u z=>?_) (fun b z=>?_) fun _=>hk
  ·by_cases hb:b=a
   ·exact .inr ⟨_,_,if_pos hb⟩
   ·exact .inl (if_neg hb)
  ·by_cases hb:b=a
   ·have z':=(if_pos hb).symm.trans z
    cases z'
    subst hb
    exact⟨ha,by rw[List.length_map]; exact hl,vs,_,rv,ha⟩
   ·have z':=(if_neg hb).symm.trans z
    cases z'
  ·by_cases hb:b=a
   ·exact hb
   ·exact absurd (if_neg hb) z
end L2

namespace L2
open PySem PySem.Spec PyProof.Rows

theorem zqC {l:PySem.W.OpenLaw}{n k:Nat}{q:Program}{loose:List Str}{XP:(Str→Option Value)→Heap→Prop}{YP:World→Heap→Prop}{d:DefRec}{K:Params→PySem.W.Frag}{CX:World→CXT}{sp:World→Sp}{x:Str}
  (hn:l.most=some n)(hn2:n≤sizeLine)(hdf:d.params.defaults=[])(hr:zaD k callerA)
  (hY:∀(w:World) (h:Heap),YP w h→(K w.params).In h)
  (F:∀(w:World) (mg:Str→Option Value) (fa:Addr) (h:Heap),(K w.params).In h→h.Ns mainGlobals mg→mg d.name=some (.ref fa)→
   ∃fd:FuncData,(∀(s:Shared) (u:Value),BindsTo s fd ⟨[u],[]⟩ [(x,u)])∧
    ∀base:Heap,(K w.params).In base→base.Ns mainGlobals mg→za3 l.prog w (K w.params) mg base (CX w) k fa fd [x] (sp w))
  (hsp:∀(w:World) (H:Hp) (a:Addr) (ns:List Int),ns.length≤n→zfR H→SqL (K w.params) H a (ns.map V.int)→sp w [.ref a] H (fun v _=>v=.bl true) fun _ _ _=>False)
  (hCX:∀(w:World) (H:Hp) (s:Shared) (e:Value) (s':Shared),CX w [] H s (fun _ _ _=>False) e s'→False):
  PySem.W.WalkO q loose XP YP l.row.toRowW d [] (fun f vs=>PySem.call f vs):=by
 refine Att.attach_call hn hdf fun w s₀ s₁ mg mb fa o pm cd doc a vs ns G Y ho hd hcd hmg hobj hints hlen hg=>?_
 have KX:=hY w _ Y
 obtain⟨fd,hb,hF⟩:=F w mg fa _ KX G.T.g hmg
 exact zn5 KX G.T.g G.T.b G.T.builtins G.T.nolimit hg hobj hints (Nat.le_trans hlen hn2) hr hF hb (fun H hO hS=>hsp w H a ns hlen hO hS) fun H e s'=>hCX w H s₁ e s'
end L2


namespace L2
open PySem PySem.Spec PyProof.Rows

def zaC (s:Stmt)(j:Nat):Stmt:=match s with
 | .ClassDef _ _ _ body _ _ _ _ _ _ _=>body.getD j (.Pass ⟨0,0,0,0⟩)
 | _=>.Pass ⟨0,0,0,0⟩
def zcN (s:Stmt):Arguments:=match s with
 | .FunctionDef _ a _ _ _ _ _ _ _ _=>a
 | _=>{ posonlyargs:=[],args:=[],vararg:=none,kwonlyargs:=[],kw_defaults:=[],kwarg:=none,defaults:=[] }
def zcw (s:Stmt):List Stmt:=match s with
 | .FunctionDef _ _ b _ _ _ _ _ _ _=>b
 | _=>[]
def zaj (s:Stmt):Scope:=match s with
 | .FunctionDef _ _ _ _ _ _ sc _ _ _=>sc
 | _=>{ kind:=.function,names:=[],isGenerator:=false,isCoroutine:=false }

structure Fun (K:PySem.W.Frag)(x qual:Str)(st:Stmt)(f:Addr)(fd:FuncData):Prop where
 ex:∃(oc:Value) (od:Option Addr) (kV doc pm:Value) (an:Option Addr) (cdv ct:Value) (osl:Array (Option Value)),
  fd=PySem.W.fnOf x qual (zcN st) (zcw st) (zaj st) .none kV doc pm an cdv ct∧K.lookup f=some ⟨oc,od,.func fd,osl⟩∧PySem.W.codeIn K cdv qual=true
 kp:PySem.W.keepIn K (.ref f)=true
section
variable {P:Program}{w:World}{K:PySem.W.Frag}{mg:Str→Option Value}{base:Heap}
theorem Fun.binds {x qual:Str}{st:Stmt}{f:Addr}{fd:FuncData}{ps:List Str}(F:Fun K x qual st f fd)
  (h:∀(kV doc pm:Value) (an:Option Addr) (cdv ct:Value) (us:List Value),us.length=ps.length→bindArgs (PySem.W.fnOf x qual (zcN st) (zcw st) (zaj st) .none kV doc pm an cdv ct) ⟨us,[]⟩=pure (ps.zip us)):zbl K fd ps []:=by
 obtain⟨oc,od,kV,doc,pm,an,cdv,ct,osl,rfl,lk,hcd⟩:=F.ex
 exact .all (h kV doc pm an cdv ct)
theorem zgN {x qual:Str}{st:Stmt}{f:Addr}{oc:Value}{od an:Option Addr}{osl:Array (Option Value)}{kV doc pm cdv ct:Value}(l:K.lookup f=some ⟨oc,od,.func (PySem.W.fnOf x qual (zcN st) (zcw st) (zaj st) .none kV doc pm an cdv ct),osl⟩)
  (c:PySem.W.codeIn K cdv qual=true)(k:PySem.W.keepIn K (.ref f)=true):Fun K x qual st f (PySem.W.fnOf x qual (zcN st) (zcw st) (zaj st) .none kV doc pm an cdv ct):=⟨⟨oc,od,kV,doc,pm,an,cdv,ct,osl,rfl,l,c⟩,k⟩
end
theorem zf4 {n:Nat}(h:n≤1000):n < sizeLine:=Nat.lt_of_le_of_lt h (by decide)

section
variable {X:Cx}
theorem pv (i:Nat){x:Str}{pos:Pos}(hN:X.N[i]?=some x:=by rfl)(hv:Vis X.env.scope x:=by first | exact Or.inl rfl | exact Or.inr (Or.inl rfl) | exact Or.inr (Or.inr rfl))(hd:(x == ("__debug__":Str))=false:=by decide)
  (hcd:(x == ("__classdict__":Str))=false:=by decide):PE X (.Name x pos) (tVar i):=zkW hN hv hd hcd
end

theorem zby {A B:Prop}(h:B):if false=true then A else B:=by
 rw[if_neg Bool.false_ne_true]
 exact h
theorem zbQ {A B:Prop}(h:A):if true=true then A else B:=by
 rw[if_pos rfl]
 exact h
theorem zch {c A B:Prop} [Decidable c] (h1:c→A)(h2:¬ c→B):if c then A else B:=by
 by_cases h:c
 ·rw[if_pos h]
  exact h1 h
 ·rw[if_neg h]
  exact h2 h
end L2

namespace L2
open PySem PySem.Spec PyProof.Rows
section
variable {κ:Type} [DecidableEq κ]
end


abbrev KT (H:Hp):List (List Key×V)→List (List Key×Addr×Value)→Prop:=Paired fun p q=>p.1=q.1∧H q.2.1=some (.tup (p.1.map kV))∧zal p.2 q.2.2
section
variable {P:Program}{w:World}{H:Hp}{h:Heap}{a:Addr}
end

section
variable {X:Cx}{pins:List (Addr×Obj)}{σ:St}{H:Hp}{s:Shared}{a:Addr}{y v:V}{u r:Value}{o:Option V}{A:Around}{E:Value→Shared→Prop}

end

section
variable {X:Cx}{pins:List (Addr×Obj)}{σ:St}{H:Hp}{s:Shared}{a:Addr}{kvs:List (Key×V)}{k:Key}{u:Value}{A:Around}{E:Value→Shared→Prop}
end


section
variable {X:Cx}{o i e value:Expr}{pos pos' tpos:Pos}{td ty tv:TE}
end


section
variable {X:Cx}{pos:Pos}
end

structure M1 (X:Cx)(o:Expr)(m:Str)(apos:Pos)(e:Expr)(cpos:Pos):Prop where
 base:attributeBase o m X.env (eval o X.env)=eval o X.env
 few:((backTo cpos (starEach [e] X.env)).all (fun x=>!x.1) && (backToKw cpos (keywordEach [] X.env)).all (fun x=>x.1.isSome)
  && decide (([e]:List Expr).length + ([]:List Keyword).length + (if ([]:List Keyword).isEmpty then 0 else 1) < 30))=true
 line:(apos.endLine == cpos.line)=true
 trees:backTo cpos (starEach [e] X.env)=[(false,eval e X.env)]
structure M2 (X:Cx)(o:Expr)(m:Str)(apos:Pos)(e f:Expr)(cpos:Pos):Prop where
 base:attributeBase o m X.env (eval o X.env)=eval o X.env
 few:((backTo cpos (starEach [e,f] X.env)).all (fun x=>!x.1) && (backToKw cpos (keywordEach [] X.env)).all (fun x=>x.1.isSome)
  && decide (([e,f]:List Expr).length + ([]:List Keyword).length + (if ([]:List Keyword).isEmpty then 0 else 1) < 30))=true
 line:(apos.endLine == cpos.line)=true
 trees:backTo cpos (starEach [e,f] X.env)=[(false,eval e X.env),(false,eval f X.env)]

section
variable {X:Cx}{pins:List (Addr×Obj)}{σ:St}{H:Hp}{s:Shared}{a:Addr}{y d:V}{u r:Value}{o:Option V}{A:Around}{E:Value→Shared→Prop}
end

section
variable {X:Cx}{o e f:Expr}{apos cpos:Pos}{td ty tx:TE}
end

section
variable {X:Cx}{pins:List (Addr×Obj)}{σ:St}{H:Hp}{s:Shared}{a:Addr}{kvs:List (Key×V)}{A:Around}{E:Value→Shared→Prop}
end


section
variable {X:Cx}{pins:List (Addr×Obj)}{σ:St}{H:Hp}{s:Shared}{a:Addr}{y:V}{u:Value}{A:Around}{E:Value→Shared→Prop}
end
end L2

namespace L3
open PySem PySem.Spec PyProof.Rows L2

abbrev St:=L2.St
inductive D where
 | non | bl (b:Bool) | int (i:Int) | str (x:Str) | tup (xs:List D) | ref (n:Nat) | exc (c:Addr)
inductive Ob where
 | lst (xs:List D) | frz (xs:List D)
  | ins (C:Addr) (fs:List (Str×D))
  | dct (kvs:List (List Key×D))
abbrev Sto:=List Ob
abbrev Ev:=List (Option D)
abbrev DK:=D→Sto→Prop
abbrev TDE:=Ev→Sto→DK→Prop
abbrev TDT:=Ev→Sto→(Bool→Sto→Prop)→Prop
abbrev TDA:=Ev→Sto→(List D→Sto→Prop)→Prop
structure zcD where
 nx:Ev→Sto→Prop
 rt:DK
 bk:Ev→Sto→Prop:=fun _ _=>False
 ct:Ev→Sto→Prop:=fun _ _=>False
abbrev TDS:=zcD→Ev→Sto→Prop

def isX (a c:Addr):HO:=.ext fun h=>∃o,h.get? a=some o∧o.cls=.ref c
inductive Rp (r:List Addr)(H:Hp):D→V→Prop
 | non:Rp r H .non .non
 | bl (b:Bool):Rp r H (.bl b) (.bl b)
 | int (i:Int):Rp r H (.int i) (.int i)
 | str (x:Str):Rp r H (.str x) (.str x)
 | tup {ds:List D} {xs:List V} {a:Addr}:H a=some (.tup xs)→ds.length=xs.length→(∀(i:Nat) (d:D) (v:V),ds[i]?=some d→xs[i]?=some v→Rp r H d v)→Rp r H (.tup ds) (.ref a)
 | ref {n:Nat} {a:Addr}:r[n]?=some a→Rp r H (.ref n) (.ref a)
 | exc {c a:Addr}:H a=some (isX a c)→Rp r H (.exc c) (.ref a)
def Rps (r:List Addr)(H:Hp)(ds:List D)(vs:List V):Prop:=ds.length=vs.length∧∀(i:Nat) (d:D) (v:V),ds[i]?=some d→vs[i]?=some v→Rp r H d v
structure Ext (r r':List Addr)(H H':Hp):Prop where
 adr:∀(n:Nat) (a:Addr),r[n]?=some a→r'[n]?=some a
 tup:∀a xs,H a=some (.tup xs)→H' a=some (.tup xs)
 xc:∀a c,H a=some (isX a c)→H' a=some (isX a c)
section
variable {r r' r2:List Addr}{H H' H2:Hp}{d:D}{v:V}{ds:List D}{vs:List V}
theorem Ext.refl:Ext r r H H:=⟨fun _ _ h=>h,fun _ _ h=>h,fun _ _ h=>h⟩
theorem Ext.trans (a:Ext r r' H H')(b:Ext r' r2 H' H2):Ext r r2 H H2:=⟨fun n x h=>b.adr n x (a.adr n x h),fun x y h=>b.tup x y (a.tup x y h),fun x y h=>b.xc x y (a.xc x y h)⟩
theorem Rp.ext (h:Rp r H d v)(e:Ext r r' H H'):Rp r' H' d v:=by
 induction h with
 | non=>exact .non
 | bl b=>exact .bl b
 | int i=>exact .int i
 | str x=>exact .str x
 | tup h l _ ih=>exact .tup (e.tup _ _ h) l ih
 | ref h=>exact .ref (e.adr _ _ h)
 | exc h=>exact .exc (e.xc _ _ h)
theorem Rps.ext (h:Rps r H ds vs)(e:Ext r r' H H'):Rps r' H' ds vs:=⟨h.1,fun i d v h1 h2=>(h.2 i d v h1 h2).ext e⟩
theorem Rps.nil:Rps r H [] []:=⟨rfl,fun i d v h=>by simp at h⟩
theorem Rps.cons (h:Rp r H d v)(t:Rps r H ds vs):Rps r H (d::ds) (v::vs):=by
 refine⟨by simp[t.1],fun i x y h1 h2=>?_⟩
 cases i with
 | zero=>
  simp at h1 h2
  subst h1; subst h2
  exact h
 | succ i=>exact t.2 i x y (by simpa using h1) (by simpa using h2)
theorem Rps.tail {y:V}(h:Rps r H (d::ds) (y::vs)):Rp r H d y∧Rps r H ds vs:=
 ⟨h.2 0 d y rfl rfl,by simpa using h.1,fun i a b h1 h2=>h.2 (i + 1) a b (by simpa using h1) (by simpa using h2)⟩
theorem Rps.uncons (h:Rps r H (d::ds) vs):∃v vs',vs=v::vs'∧Rp r H d v∧Rps r H ds vs':=by
 cases vs with
 | nil=>exact absurd h.1 (by simp)
 | cons v vs'=>exact⟨v,vs',rfl,h.tail⟩
theorem Rps.unnil (h:Rps r H [] vs):vs=[]:=by
 cases vs with
 | nil=>rfl
 | cons v vs'=>exact absurd h.1 (by simp)
theorem Rps.get {i:Nat}(h:Rps r H ds vs)(e:ds[i]?=some d):∃v,vs[i]?=some v∧Rp r H d v:=by
 have hi:i < ds.length:=(List.getElem?_eq_some_iff.mp e).1
 have hv:i < vs.length:=by rw[← h.1]; exact hi
 exact⟨vs[i],by simp[hv],h.2 i d vs[i] e (by simp[hv])⟩
theorem Rps.get' {i:Nat}(h:Rps r H ds vs)(e:vs[i]?=some v):∃d,ds[i]?=some d∧Rp r H d v:=by
 have hv:i < vs.length:=(List.getElem?_eq_some_iff.mp e).1
 have hi:i < ds.length:=by rw[h.1]; exact hv
 exact⟨ds[i],by simp[hi],h.2 i ds[i] v (by simp[hi]) e⟩
theorem Rps.snoc (h:Rps r H ds vs)(t:Rp r H d v):Rps r H (ds++[d]) (vs++[v]):=by
 refine⟨by simp[h.1],fun i x y h1 h2=>?_⟩
 by_cases hi:i < ds.length
 ·rw[List.getElem?_append_left hi] at h1
  rw[List.getElem?_append_left (by rw[← h.1]; exact hi)] at h2
  exact h.2 i x y h1 h2
 ·have hl:i < (ds++[d]).length:=(List.getElem?_eq_some_iff.mp h1).1
  have e:i=ds.length:=by simp at hl; omega
  subst e
  rw[List.getElem?_append_right (Nat.le_refl _)] at h1
  rw[h.1,List.getElem?_append_right (Nat.le_refl _)] at h2
  simp at h1 h2
  subst h1; subst h2
  exact t
theorem Rps.tupR {a:Addr}(h:Rps r H ds vs)(e:H a=some (.tup vs)):Rp r H (.tup ds) (.ref a):=.tup e h.1 h.2
theorem Rp.untup {vs:V}(h:Rp r H (.tup ds) vs):∃a xs,vs=.ref a∧H a=some (.tup xs)∧Rps r H ds xs:=by
 cases h with
 | tup e l f=>exact⟨_,_,rfl,e,l,f⟩
end

def SqF (K:PySem.W.Frag)(H:Hp)(a:Addr)(xs:List V):Prop:=
 (∃o,H a=some (.frz o (.lst xs)))∨
  ∃(o:Obj) (its:Array Value) (n:Nat),K.lookup a=some o∧o.cls=.type "list"∧o.dict=none∧o.data=.seq its n∧its.size≤sizeLine∧zap xs its.toList
theorem SqF.sql {K:PySem.W.Frag}{H:Hp}{a:Addr}{xs:List V}(h:SqF K H a xs):SqL K H a xs:=by
 rcases h with ⟨o,h⟩ | h
 ·exact .inl (.inr ⟨o,h⟩)
 ·exact .inr h
def FR {α:Type}(r:List Addr)(H:Hp)(fs:List (α×D))(fs':List (α×V)):Prop:=fs.map (·.1)=fs'.map (·.1)∧Rps r H (fs.map (·.2)) (fs'.map (·.2))
theorem FR.ext {α:Type}{r r':List Addr}{H H':Hp}{fs:List (α×D)}{fs':List (α×V)}(h:FR r H fs fs')(e:Ext r r' H H'):FR r' H' fs fs':=⟨h.1,h.2.ext e⟩
theorem FR.nil {α:Type}{r:List Addr}{H:Hp}:FR (α:=α) r H [] []:=⟨rfl,Rps.nil⟩
def ObR (K:PySem.W.Frag)(r:List Addr)(H:Hp)(a:Addr):Ob→Prop
 | .lst ds=>∃xs,H a=some (.lst xs)∧Rps r H ds xs
 | .frz ds=>∃xs,SqF K H a xs∧Rps r H ds xs
 | .ins C fs=>∃dx fs',H a=some (.ins C dx fs')∧FR r H fs fs'
 | .dct kvs=>∃kvs',H a=some (.dT kvs')∧FR r H kvs kvs'
def zcL:Ob→Bool
 | .frz _=>false
 | _=>true
structure zaH (K:PySem.W.Frag)(r:List Addr)(S:Sto)(H:Hp):Prop where
 len:r.length=S.length
 ob:∀(n:Nat) (a:Addr) (o:Ob),r[n]?=some a→S[n]?=some o→ObR K r H a o
 nd:∀(n m:Nat) (a:Addr) (o u:Ob),r[n]?=some a→r[m]?=some a→S[n]?=some o→S[m]?=some u→zcL o=true→zcL u=true→n=m
def zah:Ob→List D
 | .lst ds=>ds
 | .frz ds=>ds
 | _=>[.exc 0]
def zbC:Ob→Option Ob
 | .lst ds=>some (.lst ds)
 | .frz ds=>some (.frz ds)
 | _=>none
def lAt (S:Sto)(n:Nat):Option Ob:=(S[n]?).bind zbC
theorem zmM {o u:Ob}(h:zbC o=some u):u=o:=by
 cases o <;> simp[zbC] at h <;> exact h.symm
theorem zbs {S:Sto}{n:Nat}{o:Ob}(h:lAt S n=some o):S[n]?=some o∧zbC o=some o:=by
  unfold lAt at h
  cases q:S[n]? with
  | none=>
   rw[q] at h
   cases h
  | some u=>
    rw[q] at h
    have h':zbC u=some o:=h
    have e:=zmM h'
    subst e
    exact⟨rfl,h'⟩
theorem zaB {S:Sto}{n:Nat}{o:Ob}(h:S[n]?=some o)(hL:zbC o=some o):lAt S n=some o:=by
 unfold lAt
 rw[h]
 exact hL
section
variable {K:PySem.W.Frag}{r r':List Addr}{S:Sto}{H H':Hp}{n:Nat}{a p:Addr}
theorem zaH.at {o:Ob}(h:zaH K r S H)(e:S[n]?=some o):∃a,r[n]?=some a∧ObR K r H a o:=by
 have hn:n < S.length:=(List.getElem?_eq_some_iff.mp e).1
 have hr:n < r.length:=by rw[h.len]; exact hn
 exact⟨r[n],by simp[hr],h.ob n r[n] o (by simp[hr]) e⟩
theorem ObR.list {o:Ob}(h:ObR K r H a o)(hL:zbC o=some o):∃xs,SqL K H a xs∧Rps r H (zah o) xs:=by
 cases o with
 | lst ds=>obtain⟨xs,e,q⟩:=h; exact⟨xs,SqL.of e,q⟩
 | frz ds=>obtain⟨xs,e,q⟩:=h; exact⟨xs,e.sql,q⟩
 | ins C fs=>cases hL
 | dct kvs=>cases hL
theorem ObR.keep {o:Ob}(q:ObR K r H a o)(x:Ext r r' H H')(ha:∀u,H a=some u→H' a=some u):ObR K r' H' a o:=by
 cases o with
 | lst ds=>obtain⟨xs,h3,h4⟩:=q; exact⟨xs,ha _ h3,h4.ext x⟩
 | frz ds=>
  obtain⟨xs,h3,h4⟩:=q
  refine⟨xs,?_,h4.ext x⟩
  rcases h3 with ⟨o,h3⟩ | h3
  ·exact .inl ⟨o,ha _ h3⟩
  ·exact .inr h3
 | ins C fs=>obtain⟨dx,fs',h3,h4⟩:=q; exact⟨dx,fs',ha _ h3,h4.ext x⟩
 | dct kvs=>obtain⟨ks,h3,h4⟩:=q; exact⟨ks,ha _ h3,h4.ext x⟩
theorem ObR.own {o:Ob}(q:ObR K r H a o)(h:zcL o=true):∃u,H a=some u∧(∀xs,u≠HO.tup xs)∧(∀b c,u≠isX b c)∧∀z y,u≠HO.frz z y:=by
 cases o with
 | lst ds=>obtain⟨xs,h3,h4⟩:=q; exact⟨_,h3,(fun _ z=>by cases z),(fun _ _ z=>by cases z),(fun _ _ z=>by cases z)⟩
 | frz ds=>cases h
 | ins C fs=>obtain⟨dx,fs',h3,h4⟩:=q; exact⟨_,h3,(fun _ z=>by cases z),(fun _ _ z=>by cases z),(fun _ _ z=>by cases z)⟩
 | dct kvs=>obtain⟨ks,h3,h4⟩:=q; exact⟨_,h3,(fun _ z=>by cases z),(fun _ _ z=>by cases z),(fun _ _ z=>by cases z)⟩
theorem zaH.same (h:zaH K r S H)(e:∀b o,H b=some o→H' b=some o):zaH K r S H':=
 ⟨h.len,fun n a o h1 h2=>(h.ob n a o h1 h2).keep ⟨fun _ _ q=>q,fun a xs q=>e _ _ q,fun a c q=>e _ _ q⟩ (e a),h.nd⟩
theorem zca {o:HO}(h:H p=none):∀b u,H b=some u→(upd H p o) b=some u:=fun b u q=>by rw[zaR (zcJ q h)]; exact q
theorem zh5 {n:Nat}{b:Addr}(e:(r++[p])[n]?=some b):(n < r.length∧r[n]?=some b)∨(n=r.length∧b=p):=by
 by_cases hn:n < r.length
 ·rw[List.getElem?_append_left hn] at e; exact .inl ⟨hn,e⟩
 ·have hl:n < (r++[p]).length:=(List.getElem?_eq_some_iff.mp e).1
  have en:n=r.length:=by simp at hl; omega
  subst en
  rw[List.getElem?_append_right (Nat.le_refl _)] at e
  simp at e
  exact .inr ⟨rfl,e.symm⟩
theorem zaH.pushO {o:Ob}(h:zaH K r S H)(hp:H p=none)(keep:∀b u,H b=some u→H' b=some u)(q:Ext r (r++[p]) H H'→ObR K (r++[p]) H' p o):zaH K (r++[p]) (S++[o]) H'∧Ext r (r++[p]) H H':=by
 have x:Ext r (r++[p]) H H':=⟨fun n a e=>by
  have hn:n < r.length:=(List.getElem?_eq_some_iff.mp e).1
  rw[List.getElem?_append_left hn]; exact e,fun a ys e=>keep _ _ e,fun a c e=>keep _ _ e⟩
 have sS:∀ {n:Nat} {u:Ob},n < r.length→(S++[o])[n]?=some u→S[n]?=some u:=fun {n u} hn e=>by
  rw[List.getElem?_append_left (by rw[← h.len]; exact hn)] at e; exact e
 refine⟨⟨by simp[h.len],fun n a u h1 h2=>?_,fun n m a u w h1 h2 h3 h4 o1 o2=>?_⟩,x⟩
 ·rcases zh5 h1 with ⟨hn,e⟩ | ⟨rfl,rfl⟩
  ·exact(h.ob n a u e (sS hn h2)).keep x (keep a)
  ·rw[h.len,List.getElem?_append_right (Nat.le_refl _)] at h2
   simp at h2
   subst h2
   exact q x
 ·rcases zh5 h1 with ⟨hn,e⟩ | ⟨rfl,rfl⟩
  ·rcases zh5 h2 with ⟨hm,e'⟩ | ⟨rfl,rfl⟩
   ·exact h.nd n m a u w e e' (sS hn h3) (sS hm h4) o1 o2
   ·obtain⟨zs,h5,_⟩:=(h.ob n _ _ e (sS hn h3)).own o1
    rw[hp] at h5; cases h5
  ·rcases zh5 h2 with ⟨hm,e'⟩ | ⟨rfl,_⟩
   ·obtain⟨zs,h5,_⟩:=(h.ob m _ _ e' (sS hm h4)).own o2
    rw[hp] at h5; cases h5
   ·rfl
theorem zaH.push {ds:List D}{xs:List V}(h:zaH K r S H)(hp:H p=none)(q:Rps r H ds xs):zaH K (r++[p]) (S++[.lst ds]) (upd H p (.lst xs))∧Ext r (r++[p]) H (upd H p (.lst xs)):=
 h.pushO hp (zca hp) fun x=>⟨xs,zbN,q.ext x⟩
theorem zaH.setO {o o':Ob}{u:HO}(h:zaH K r S H)(hn:r[n]?=some a)(hS:S[n]?=some o)(ho:zcL o=true)(ho':zcL o'=true)(q:Ext r r H (upd H a u)→ObR K r (upd H a u) a o'):zaH K r (S.set n o') (upd H a u)∧Ext r r H (upd H a u):=by
 obtain⟨u0,h0,t1,t2,t3⟩:=(h.ob n a _ hn hS).own ho
 have x:Ext r r H (upd H a u):=⟨fun _ _ e=>e,fun b zs e=>by
  rw[zaR (ziC e h0 (fun z=>t1 zs z.symm))]; exact e,fun b c e=>by
  rw[zaR (ziC e h0 (fun z=>t2 b c z.symm))]; exact e⟩
 have hlt:n < S.length:=(List.getElem?_eq_some_iff.mp hS).1
 have off:∀ {m:Nat} {w:Ob},m≠n→(S.set n o')[m]?=some w→S[m]?=some w:=fun {m w} hm e=>by
  rw[List.getElem?_set_ne (Ne.symm hm)] at e; exact e
 refine⟨⟨by simp[h.len],fun m b w h1 h2=>?_,fun m k b w y h1 h2 h3 h4 o1 o2=>?_⟩,x⟩
 ·by_cases hm:m=n
  ·subst hm
   rw[hn] at h1; cases h1
   rw[List.getElem?_set_self hlt] at h2
   cases h2
   exact q x
  ·have h2':=off hm h2
   have q':=h.ob m b w h1 h2'
   by_cases hw:zcL w=true
   ·have hb:b≠a:=fun z=>hm (by subst z; exact h.nd m n b w o h1 hn h2' hS hw ho)
    exact q'.keep x fun z e=>by rw[zaR hb]; exact e
   ·cases w with
    | frz es=>
     obtain⟨zs,h3,h4⟩:=q'
     refine⟨zs,?_,h4.ext x⟩
     rcases h3 with ⟨z,h3⟩ | h3
     ·exact .inl ⟨z,by rw[zaR (ziC h3 h0 (fun y=>t3 _ _ y.symm))]; exact h3⟩
     ·exact .inr h3
    | _=>exact absurd rfl hw
 ·have back:∀ {j:Nat} {w:Ob},(S.set n o')[j]?=some w→zcL w=true→∃y,S[j]?=some y∧zcL y=true:=fun {j w} e ow=>by
   by_cases hj:j=n
   ·subst hj; exact⟨o,hS,ho⟩
   ·exact⟨w,off hj e,ow⟩
  obtain⟨us',h3',q3⟩:=back h3 o1
  obtain⟨ws',h4',q4⟩:=back h4 o2
  exact h.nd m k b us' ws' h1 h2 h3' h4' q3 q4
theorem zaH.set {ds ds':List D}{xs:List V}(h:zaH K r S H)(hn:r[n]?=some a)(hS:S[n]?=some (.lst ds))(q:Rps r H ds' xs):zaH K r (S.set n (.lst ds')) (upd H a (.lst xs))∧Ext r r H (upd H a (.lst xs)):=
 h.setO hn hS rfl rfl fun x=>⟨xs,zbN,q.ext x⟩
end

def Rs (r:List Addr)(H:Hp)(dl:Ev)(σ:St):Prop:=dl.length=σ.length∧∀(i:Nat) (d:D),dl[i]?=some (some d)→∃v,σ[i]?=some (some v)∧Rp r H d v
theorem Rs.ext {r r':List Addr}{H H':Hp}{dl:Ev}{σ:St}(h:Rs r H dl σ)(e:Ext r r' H H'):Rs r' H' dl σ:=⟨h.1,fun i d q=>by
 obtain⟨v,h1,h2⟩:=h.2 i d q
 exact⟨v,h1,h2.ext e⟩⟩
theorem Rs.set {r:List Addr}{H:Hp}{dl:Ev}{σ:St}{d:D}{v:V}(i:Nat)(h:Rs r H dl σ)(q:Rp r H d v):Rs r H (dl.set i (some d)) (σ.set i (some v)):=by
 refine⟨by simp[h.1],fun j e hj=>?_⟩
 by_cases hij:i=j
 ·subst hij
  have hl:i < dl.length:=by
   have:=(List.getElem?_eq_some_iff.mp hj).1
   simpa using this
  rw[List.getElem?_set_self hl] at hj
  cases hj
  exact⟨v,by rw[List.getElem?_set_self (by rw[← h.1]; exact hl)],q⟩
 ·rw[List.getElem?_set_ne hij] at hj
  obtain⟨v',h1,h2⟩:=h.2 j e hj
  exact⟨v',by rw[List.getElem?_set_ne hij]; exact h1,h2⟩
structure Zx where
 ex:Ev→Addr→Sto→Prop
 w:St→XK
abbrev Zc (ex:Addr→Sto→Prop)(E:XK):Zx:=⟨fun _=>ex,fun _=>E⟩
def zc9 (K:PySem.W.Frag)(Z:Zx)(r:List Addr)(H:Hp):Prop:=∀(dl:Ev) (σ:St) (c:Addr) (H':Hp) (r':List Addr) (S':Sto),Ext r r' H H'→Rs r' H' dl σ→zaH K r' S' H'→Z.ex dl c S'→Z.w σ (.ref c) none H'
theorem zc9.ext {K:PySem.W.Frag}{Z:Zx}{r r':List Addr}{H H':Hp}(h:zc9 K Z r H)(e:Ext r r' H H'):zc9 K Z r' H':=fun dl σ c H2 r2 S2 x=>h dl σ c H2 r2 S2 (e.trans x)
structure Rel (K:PySem.W.Frag)(Z:Zx)(r:List Addr)(S:Sto)(H:Hp):Prop where
 b:zaH K r S H
 xw:zc9 K Z r H
section
variable {K:PySem.W.Frag}{Z:Zx}{r r':List Addr}{S:Sto}{H H':Hp}{n:Nat}{a p:Addr}
theorem Rel.len (h:Rel K Z r S H):r.length=S.length:=h.b.len
theorem Rel.at {o:Ob}(h:Rel K Z r S H)(e:S[n]?=some o):∃a,r[n]?=some a∧ObR K r H a o:=h.b.at e
theorem Rel.same (h:Rel K Z r S H)(e:∀b o,H b=some o→H' b=some o):Rel K Z r S H':=⟨h.b.same e,h.xw.ext ⟨fun _ _ q=>q,fun a xs q=>e _ _ q,fun a c q=>e _ _ q⟩⟩
theorem Rel.push {ds:List D}{xs:List V}(h:Rel K Z r S H)(hp:H p=none)(q:Rps r H ds xs):Rel K Z (r++[p]) (S++[.lst ds]) (upd H p (.lst xs))∧Ext r (r++[p]) H (upd H p (.lst xs)):=by
 obtain⟨h1,h2⟩:=h.b.push hp q
 exact⟨⟨h1,h.xw.ext h2⟩,h2⟩
theorem Rel.set {ds ds':List D}{xs:List V}(h:Rel K Z r S H)(hn:r[n]?=some a)(hS:S[n]?=some (.lst ds))(q:Rps r H ds' xs):Rel K Z r (S.set n (.lst ds')) (upd H a (.lst xs))∧Ext r r H (upd H a (.lst xs)):=by
 obtain⟨h1,h2⟩:=h.b.set hn hS q
 exact⟨⟨h1,h.xw.ext h2⟩,h2⟩
end

def Ret (K:PySem.W.Frag)(Z:Zx)(r:List Addr)(H:Hp)(Q:DK)(Qv:VK):Prop:=∀v H' r' d S',Ext r r' H H'→Rel K Z r' S' H'→Rp r' H' d v→Q d S'→Qv v H'
theorem Ret.ext {K:PySem.W.Frag}{Z:Zx}{r r':List Addr}{H H':Hp}{Q:DK}{Qv:VK}(h:Ret K Z r H Q Qv)(e:Ext r r' H H'):Ret K Z r' H' Q Qv:=fun v H2 r2 d S2 x=>h v H2 r2 d S2 (e.trans x)
def up (K:PySem.W.Frag)(Z:Zx)(t:TDE):TE:=fun σ H Qv=>∃r dl S Q,Rs r H dl σ∧Rel K Z r S H∧t dl S Q∧Ret K Z r H Q Qv
def upT (K:PySem.W.Frag)(Z:Zx)(t:TDT):TT:=fun σ H Qb=>∃r dl S Q,Rs r H dl σ∧Rel K Z r S H∧t dl S Q∧∀b H' r' S',Ext r r' H H'→Rel K Z r' S' H'→Q b S'→Qb b H'
def upA (K:PySem.W.Frag)(Z:Zx)(t:TDA):TA:=fun σ H Qv=>∃r dl S Q,Rs r H dl σ∧Rel K Z r S H∧t dl S Q∧∀vs H' r' ds S',Ext r r' H H'→Rel K Z r' S' H'→Rps r' H' ds vs→Q ds S'→Qv vs H'
structure zgy (K:PySem.W.Frag)(Z:Zx)(r:List Addr)(H:Hp)(E:zcD)(F:zcG):Prop where
 nx:∀σ' H' r' dl' S',Ext r r' H H'→Rs r' H' dl' σ'→Rel K Z r' S' H'→E.nx dl' S'→F.nx σ' H'
 bk:∀σ' H' r' dl' S',Ext r r' H H'→Rs r' H' dl' σ'→Rel K Z r' S' H'→E.bk dl' S'→F.bk σ' H'
 ct:∀σ' H' r' dl' S',Ext r r' H H'→Rs r' H' dl' σ'→Rel K Z r' S' H'→E.ct dl' S'→F.ct σ' H'
 rt:Ret K Z r H E.rt F.rt
theorem zgy.ext {K:PySem.W.Frag}{Z:Zx}{r r':List Addr}{H H':Hp}{E:zcD}{F:zcG}(h:zgy K Z r H E F)(e:Ext r r' H H'):zgy K Z r' H' E F:=
 ⟨fun a b c d f x=>h.nx a b c d f (e.trans x),fun a b c d f x=>h.bk a b c d f (e.trans x),fun a b c d f x=>h.ct a b c d f (e.trans x),h.rt.ext e⟩
def upS (K:PySem.W.Frag)(Z:Zx)(t:TDS):TS:=fun F σ H=>∃r dl S E,Rs r H dl σ∧Rel K Z r S H∧t E dl S∧zgy K Z r H E F

def PD (X:Cx)(Z:Zx)(e:Expr)(t:TDE):Prop:=PE X e (up X.K Z t)
def PDT (X:Cx)(Z:Zx)(e:Expr)(t:TDT):Prop:=PT X e (upT X.K Z t)
def PDW (X:Cx)(Z:Zx)(e:Expr)(t:TDT):Prop:=PW X e (upT X.K Z t)
def PDA (X:Cx)(Z:Zx)(es:List Expr)(t:TDA):Prop:=PA X es (upA X.K Z t)
def PDS (X:Cx)(Z:Zx)(st:Stmt)(t:TDS):Prop:=PS X st (upS X.K Z t)
def zbY (X:Cx)(Z:Zx)(st:List Stmt)(t:TDS):Prop:=PSs X st (upS X.K Z t)

section
variable {X:Cx}{Z:Zx}
theorem zaN {e:Expr}{t t':TE}(h:PE X e t)(f:∀σ H Q,t' σ H Q→t σ H Q):PE X e t':=fun pins s σ H Q I q=>h pins s σ H Q I (f σ H Q q)
theorem zg4 {e:Expr}{t t':TT}(h:PT X e t)(f:∀σ H Q,t' σ H Q→t σ H Q):PT X e t':=fun pins s σ H Q I q=>h pins s σ H Q I (f σ H Q q)
theorem PWimp {e:Expr}{t t':TT}(h:PW X e t)(f:∀σ H Q,t' σ H Q→t σ H Q):PW X e t':=fun wh pins s σ H Q I q=>h wh pins s σ H Q I (f σ H Q q)
theorem zle {e:List Expr}{t t':TA}(h:PA X e t)(f:∀σ H Q,t' σ H Q→t σ H Q):PA X e t':=fun pos pins s σ H Q I q=>h pos pins s σ H Q I (f σ H Q q)
theorem zbF {e:Stmt}{t t':TS}(h:PS X e t)(f:∀F σ H,t' F σ H→t F σ H):PS X e t':=fun pins s σ H F I q=>h pins s σ H F I (f F σ H q)
theorem zkY {e:List Stmt}{t t':TS}(h:PSs X e t)(f:∀F σ H,t' F σ H→t F σ H):PSs X e t':=fun pins s σ H F I q=>h pins s σ H F I (f F σ H q)
theorem PDW.pt {e:Expr}{t:TDT}(h:PDW X Z e t):PDT X Z e t:=PW.pt h

def zgM (i:Nat):TDE:=fun dl S Q=>match dl[i]? with
 | some (some d)=>Q d S
 | _=>False
def dC (d:D):TDE:=fun _ S Q=>Q d S
theorem zmR {e:Expr}{i:Nat}(h:PE X e (tVar i)):PD X Z e (zgM i):=zaN h fun σ H Qv ⟨r,dl,S,Q,rs,rel,q,ret⟩=>by
 unfold zgM at q
 split at q
 ·rename_i d e
  obtain⟨v,h1,h2⟩:=rs.2 i d e
  exact⟨v,h1,ret v H r d S Ext.refl rel h2 q⟩
 ·exact q.elim
theorem dv (i:Nat){x:Str}{pos:Pos}(hN:X.N[i]?=some x:=by rfl)(hv:Vis X.env.scope x:=by first | exact Or.inl rfl | exact Or.inr (Or.inl rfl) | exact Or.inr (Or.inr rfl))(hd:(x == ("__debug__":Str))=false:=by decide)
  (hcd:(x == ("__classdict__":Str))=false:=by decide):PD X Z (.Name x pos) (zgM i):=zmR (zkW hN hv hd hcd)
theorem zi1 {e:Expr}{d:D}{v:V}(h:PE X e (tC v))(q:∀r H,Rp r H d v):PD X Z e (dC d):=zaN h fun σ H Qv ⟨r,dl,S,Q,rs,rel,h,ret⟩=>ret v H r d S Ext.refl rel (q r H) h
theorem zab {i j pos}:PD X Z (.Constant (.int i) j pos) (dC (.int i)):=zi1 zrk fun _ _=>.int i
theorem zc1 {b j pos}:PD X Z (.Constant (.bool b) j pos) (dC (.bl b)):=zi1 pe_bl fun _ _=>.bl b
theorem zbe {x j pos}:PD X Z (.Constant (.str x) j pos) (dC (.str x)):=zi1 zpq fun _ _=>.str x

abbrev W2:=D→D→Sto→DK→Prop
abbrev W1:=D→Sto→DK→Prop
def upO (K:PySem.W.Frag)(Z:Zx)(w:W2):R2:=fun x y H Qv=>∃r S dx dy Q,Rel K Z r S H∧Rp r H dx x∧Rp r H dy y∧w dx dy S Q∧Ret K Z r H Q Qv
def upU (K:PySem.W.Frag)(Z:Zx)(w:W1):V→Hp→VK→Prop:=fun x H Qv=>∃r S dx Q,Rel K Z r S H∧Rp r H dx x∧w dx S Q∧Ret K Z r H Q Qv
def dOp (w:W2)(ta tb:TDE):TDE:=fun dl S Q=>ta dl S fun x S1=>tb dl S1 fun y S2=>w x y S2 Q
def dUn (w:W1)(ta:TDE):TDE:=fun dl S Q=>ta dl S fun x S1=>w x S1 Q
variable {a b c:Expr}{ta tb tc:TDE}{pos:Pos}
theorem zh4 {w:W2}{σ:St}{H:Hp}{Qv:VK}(h:up X.K Z (dOp w ta tb) σ H Qv):tOp (upO X.K Z w) (up X.K Z ta) (up X.K Z tb) σ H Qv:=by
 obtain⟨r,dl,S,Q,rs,rel,h,ret⟩:=h
 exact⟨r,dl,S,_,rs,rel,h,fun v H1 r1 dx S1 e1 rel1 p1 h1=>⟨r1,dl,S1,_,rs.ext e1,rel1,h1,fun v2 H2 r2 dy S2 e2 rel2 p2 h2=>⟨r2,S2,dx,dy,Q,rel2,p1.ext e2,p2,h2,ret.ext (e1.trans e2)⟩⟩⟩
theorem zad {op:Operator}{w:W2}(ho:OpR X (binaryOp op) (upO X.K Z w))(ha:PD X Z a ta)(hb:PD X Z b tb):PD X Z (.BinOp a op b pos) (dOp w ta tb):=zaN (pe_op ho ha hb) fun _ _ _ h=>zh4 h
theorem zjR {op:UnaryOp}{w:W1}(ho:UnR X (unaryOp op) (upU X.K Z w))(ha:PD X Z a ta):PD X Z (.UnaryOp op a pos) (dUn w ta):=zaN (pe_un ho ha) fun σ H Qv ⟨r,dl,S,Q,rs,rel,h,ret⟩=>
 ⟨r,dl,S,_,rs,rel,h,fun v H1 r1 dx S1 e1 rel1 p1 h1=>⟨r1,S1,dx,Q,rel1,p1,h1,ret.ext e1⟩⟩
theorem ziV {op:CmpOp}{w:W2}(ho:OpR X (compareOp op) (upO X.K Z w))(ha:PD X Z a ta)(hb:PD X Z b tb)(hm:behindInMarks op b=false):PD X Z (.Compare a [op] [b] pos) (dOp w ta tb):=zaN (zn9 ho ha hb hm) fun _ _ _ h=>zh4 h
theorem zgs {f:Value→Value→Sem Value}{r r':R2}(h:OpR X f r)(g:∀x y H Q,r' x y H Q→r x y H Q):OpR X f r':=fun pins s σ H x y v u Q I rx ry q=>h pins s σ H x y v u Q I rx ry (g x y H Q q)
theorem zoE {f:Value→Sem Value}{r r':V→Hp→VK→Prop}(h:UnR X f r)(g:∀x H Q,r' x H Q→r x H Q):UnR X f r':=fun pins s σ H x v Q I rx q=>h pins s σ H x v Q I rx (g x H Q q)
theorem ziJ {f:Value}{r r':List V→Hp→VK→Prop}(h:za8 X f r)(g:∀x H Q,r' x H Q→r x H Q):za8 X f r':=fun pins s σ H xs us Q I rx q=>h pins s σ H xs us Q I rx (g xs H Q q)
def wI (C:Int→Int→Prop)(g:Int→Int→D):W2:=fun x y S Q=>match x,y with
 | .int i,.int j=>C i j∧Q (g i j) S
 | _,_=>False
def wI0 (g:Int→Int→D):W2:=fun x y S Q=>match x,y with
 | .int i,.int j=>Q (g i j) S
 | _,_=>False
theorem opD {f:Value→Value→Sem Value}{C:Int→Int→Prop}{g:Int→Int→V}{g':Int→Int→D}(h:OpR X f (rI C g))(hg:∀r H i j,Rp r H (g' i j) (g i j)):OpR X f (upO X.K Z (wI C g')):=
 zgs h fun x y H Qv ⟨r,S,dx,dy,Q,rel,px,py,q,ret⟩=>by
  cases px <;> cases py <;> first
   | exact⟨_,_,rfl,rfl,q.1,ret _ _ _ _ _ Ext.refl rel (hg _ _ _ _) q.2⟩
   | exact(show False from q).elim
theorem zhL {f:Value→Value→Sem Value}{g:Int→Int→V}{g':Int→Int→D}(h:OpR X f (rI0 g))(hg:∀r H i j,Rp r H (g' i j) (g i j)):OpR X f (upO X.K Z (wI0 g')):=
 zgs h fun x y H Qv ⟨r,S,dx,dy,Q,rel,px,py,q,ret⟩=>by
  cases px <;> cases py <;> first
   | exact⟨_,_,rfl,rfl,ret _ _ _ _ _ Ext.refl rel (hg _ _ _ _) q⟩
   | exact(show False from q).elim
abbrev wAdd:W2:=wI0 fun i j=>.int (i + j)
abbrev wSub:W2:=wI0 fun i j=>.int (i - j)
abbrev wMul:W2:=wI IntMulOk fun i j=>.int (i * j)
def CFd (_ j:Int):Prop:=0 < j∧j.natAbs.log2 < 9000
abbrev wFdiv:W2:=wI CFd fun i j=>.int (i / j)
abbrev wMod:W2:=wI (fun _ j=>0 < j) fun i j=>.int (i % j)
abbrev wPow:W2:=wI CPow fun i j=>.int (i ^ j.toNat)
theorem zaZ:OpR X (binaryOp .Add) (upO X.K Z wAdd):=zhL zmK fun _ _ _ _=>.int _
theorem zbD:OpR X (binaryOp .Sub) (upO X.K Z wSub):=zhL znU fun _ _ _ _=>.int _
theorem zaU:OpR X (binaryOp .Mult) (upO X.K Z wMul):=opD (opI fun _ _ _ _ _ _ _ hc q=>mul_int q hc) fun _ _ _ _=>.int _
theorem zcy:OpR X (binaryOp .FloorDiv) (upO X.K Z wFdiv):=opD (opI fun i j _ _ _ _ _ hc q=>floordiv_int (by have h:0 < j:=hc.1; omega) (by have h:0 < j:=hc.1; rw[Int.fdiv_eq_ediv_of_nonneg i (by omega)]; exact q) (.inl (PyProof.noPylong_of_log2 hc.2))) fun _ _ _ _=>.int _
theorem zb7:OpR X (binaryOp .Mod) (upO X.K Z wMod):=opD zqb fun _ _ _ _=>.int _
theorem zpE:OpR X (binaryOp .Pow) (upO X.K Z wPow):=opD zoR fun _ _ _ _=>.int _
abbrev wLt:W2:=wI0 fun i j=>.bl (decide (i < j))
abbrev wLe:W2:=wI0 fun i j=>.bl (decide (i≤j))
theorem zgL:OpR X (compareOp .Lt) (upO X.K Z wLt):=zhL op_lt fun _ _ _ _=>.bl _
theorem zgg:OpR X (compareOp .LtE) (upO X.K Z wLe):=zhL op_le fun _ _ _ _=>.bl _
def wNeg:W1:=fun x S Q=>match x with
 | .int i=>Q (.int (-i)) S
 | _=>False
theorem zlr:UnR X (unaryOp .USub) (upU X.K Z wNeg):=zoE zqI fun x H Qv ⟨r,S,dx,Q,rel,px,q,ret⟩=>by
 cases px <;> first
  | exact⟨_,rfl,ret _ _ _ _ _ Ext.refl rel (.int _) q⟩
  | exact(show False from q).elim
end
end L3

namespace L3
open PySem PySem.Spec PyProof.Rows L2
def eqF:D→D→Option Bool
 | .non,.non=>some true
 | .bl i,.bl j=>some (i == j)
 | .int i,.int j=>some (decide (i=j))
 | .str i,.str j=>some (decide (i=j))
 | .non,.int _=>some false | .int _,.non=>some false | .non,.bl _=>some false | .bl _,.non=>some false | .non,.str _=>some false | .str _,.non=>some false
 | .int _,.str _=>some false | .str _,.int _=>some false | .bl _,.str _=>some false | .str _,.bl _=>some false
 | _,_=>none
def eqL (f:D→D→Option Bool):List D→List D→Option Bool
 | [],[]=>some true
 | x::xs,y::ys=>match f x y,eqL f xs ys with
  | some b,some c=>some (b && c)
  | _,_=>none
 | _,_=>some false
def eqT (f:D→D→Option Bool):D→D→Option Bool
 | .tup xs,.tup ys=>eqL f xs ys
 | x,y=>eqF x y
abbrev eq1:D→D→Option Bool:=eqT eqF
abbrev eq2:D→D→Option Bool:=eqT eq1
def zcA (n:Nat)(f:D→D→Option Bool):Prop:=∀(X:Cx) (pins:List (Addr×Obj)) (σ:St) (H:Hp) (s:Shared) (r:List Addr) (A:Around) (dx dy:D) (x y:V) (u v:Value) (b:Bool),
 Inv X pins σ H s→A.units + n < cLine→Rp r H dx x→Rp r H dy y→zal x u→zal y v→f dx dy=some b→SeqAt.EqAt A s u v b
def zdf (f:D→D→Option Bool):Prop:=∀(r:List Addr) (H:Hp) (dx dy:D) (x:V) (b:Bool),Rp r H dx x→Rp r H dy x→f dx dy=some b→b=true
theorem zdK:zdf eqF:=by
 intro r H dx dy x b px py e
 cases px <;> cases py <;> simp[eqF] at e <;> first | exact e.symm | exact e
theorem zkA {f:D→D→Option Bool}(hf:zdf f){r:List Addr}{H:Hp}:∀ {xs ys:List D} {vs:List V} {b:Bool},Rps r H xs vs→Rps r H ys vs→eqL f xs ys=some b→b=true
 | [],[],_,b,_,_,e=>by simp[eqL] at e; exact e
 | [],y::ys,vs,b,p,q,e=>by
  have h1:=p.unnil
  subst h1
  exact absurd q.1 (by simp)
 | x::xs,[],vs,b,p,q,e=>by
  have h1:=q.unnil
  subst h1
  exact absurd p.1 (by simp)
 | x::xs,y::ys,vs,b,p,q,e=>by
  obtain⟨v,vs',rfl,p1,p2⟩:=p.uncons
  obtain⟨q1,q2⟩:=q.tail
  unfold eqL at e
  split at e
  ·rename_i b1 c1 e1 e2
   have h1:=hf r H x y v b1 p1 q1 e1
   have h2:=zkA hf p2 q2 e2
   subst h1; subst h2
   simp at e
   exact e
  ·cases e
theorem zkT {f:D→D→Option Bool}(hf:zdf f):zdf (eqT f):=by
 intro r H dx dy x b px py e
 cases px with
 | tup e1 l1 f1=>
  cases py with
  | tup e2 l2 f2=>
   rw[e1] at e2; cases e2
   exact zkA hf ⟨l1,f1⟩ ⟨l2,f2⟩ e
  | ref h=>simp[eqT,eqF] at e
  | exc h=>simp[eqT,eqF] at e
 | non=>exact zdK r H _ _ _ b .non py (by cases py <;> exact e)
 | bl i=>exact zdK r H _ _ _ b (.bl i) py (by cases py <;> exact e)
 | int i=>exact zdK r H _ _ _ b (.int i) py (by cases py <;> exact e)
 | str i=>exact zdK r H _ _ _ b (.str i) py (by cases py <;> exact e)
 | ref h=>cases py <;> simp[eqT,eqF] at e
 | exc h=>cases py <;> simp[eqT,eqF] at e
theorem zja (n:Nat):zcA n eqF:=by
 intro X pins σ H s r A dx dy x y u v b I hu px py rx ry e
 have fin:∀ {x y:V},zal x u→zal y v→zhC x=true→zhC y=true→eqV x y=b→SeqAt.EqAt A s u v b:=fun rx ry fx fy e'=>by
  subst e'; exact znr rx ry fx fy
 cases px <;> cases py <;> simp[eqF] at e <;> refine fin rx ry rfl rfl ?_ <;> simp[eqV,e] <;> first | exact e | (subst e; simp) | skip
theorem zdH {X:Cx}{pins:List (Addr×Obj)}{σ:St}{H:Hp}{s:Shared}{a:Addr}{xs:List V}(I:Inv X pins σ H s)(h:H a=some (.tup xs)):∃its:List Value,zap xs its∧IsTup s.heap a its.toArray∧xs.length≤sizeLine:=I.tuple (SqT.of h)
def zbU (f:D→D→Option Bool)(xs ys:List D)(j:Nat):Bool:=match xs[j]?,ys[j]? with
 | some x,some y=>(f x y).getD false
 | _,_=>false
theorem zkf {f:D→D→Option Bool}:∀ {xs ys:List D} {b:Bool},eqL f xs ys=some b→(∀(j:Nat) (x y:D),xs[j]?=some x→ys[j]?=some y→∃c,f x y=some c)∧((List.range (min xs.length ys.length)).all (zbU f xs ys) && xs.length == ys.length)=b
 | [],[],b,e=>by simp[eqL] at e; subst e; simp
 | [],y::ys,b,e=>by simp[eqL] at e; subst e; simp
 | x::xs,[],b,e=>by simp[eqL] at e; subst e; simp
 | x::xs,y::ys,b,e=>by
  unfold eqL at e
  split at e
  ·rename_i b1 c1 e1 e2
   obtain⟨h1,h2⟩:=zkf e2
   refine⟨fun j p q hp hq=>?_,?_⟩
   ·cases j with
    | zero=>simp at hp hq; subst hp; subst hq; exact⟨b1,e1⟩
    | succ j=>exact h1 j p q (by simpa using hp) (by simpa using hq)
   ·have z:min (x::xs).length (y::ys).length=min xs.length ys.length + 1:=by simp[Nat.succ_min_succ]
    rw[z,List.range_succ_eq_map,List.all_cons,List.all_map]
    have e0:zbU f (x::xs) (y::ys) 0=b1:=by simp[zbU,e1]
    have es:(zbU f (x::xs) (y::ys) ∘ Nat.succ)=zbU f xs ys:=by funext j; simp[zbU]
    rw[e0,es]
    have e3:((x::xs).length == (y::ys).length)=(xs.length == ys.length):=by simp
    rw[e3,Bool.and_assoc,h2]
    simp at e
    exact e
  ·cases e
theorem zik {n:Nat}{f:D→D→Option Bool}(hf:zcA n f){X:Cx}{pins:List (Addr×Obj)}{σ:St}{H:Hp}{s:Shared}{r:List Addr}{A:Around}{xs ys:List D}{us vs:List V}{is js:List Value}{b:Bool}
  (I:Inv X pins σ H s)(hu:A.units + n < cLine)(p:Rps r H xs us)(q:Rps r H ys vs)(ri:zap us is)(rj:zap vs js)(e:eqL f xs ys=some b):
  (∀j (h1:j < is.toArray.size) (h2:j < js.toArray.size),SeqAt.EqAt A s is.toArray[j] js.toArray[j] (zbU f xs ys j))∧((List.range (min is.toArray.size js.toArray.size)).all (zbU f xs ys) && is.toArray.size == js.toArray.size)=b:=by
 obtain⟨h1,h2⟩:=zkf e
 have l1:is.toArray.size=xs.length:=by rw[List.size_toArray,← ri.length,p.1]
 have l2:js.toArray.size=ys.length:=by rw[List.size_toArray,← rj.length,q.1]
 refine⟨fun j hj1 hj2=>?_,by rw[l1,l2]; exact h2⟩
 have k1:j < xs.length:=by omega
 have k2:j < ys.length:=by omega
 have g1:xs[j]?=some xs[j]:=by simp[k1]
 have g2:ys[j]?=some ys[j]:=by simp[k2]
 obtain⟨x,gx,px⟩:=p.get g1
 obtain⟨y,gy,py⟩:=q.get g2
 obtain⟨u,gu,ru⟩:=ri.get gx
 obtain⟨v,gv,rv⟩:=rj.get gy
 obtain⟨c,hc⟩:=h1 j _ _ g1 g2
 have eu:is.toArray[j]=u:=by
  have z:=List.getElem?_eq_some_iff.mp gu
  simpa using z.2
 have ev:js.toArray[j]=v:=by
  have z:=List.getElem?_eq_some_iff.mp gv
  simpa using z.2
 have ec:zbU f xs ys j=c:=by simp[zbU,g1,g2,hc]
 rw[eu,ev,ec]
 exact hf X pins σ H s r A _ _ x y u v c I hu px py ru rv hc
theorem zjD {n:Nat}{f:D→D→Option Bool}(hf:zcA n f)(hs:zdf f):zcA (n + 1) (eqT f):=by
 intro X pins σ H s r A dx dy x y u v b I hu px py rx ry e
 have zbA:∀ {dx dy:D} {x y:V},Rp r H dx x→Rp r H dy y→zal x u→zal y v→eqF dx dy=some b→SeqAt.EqAt A s u v b:=fun px py rx ry e=>zja (n + 1) X pins σ H s r A _ _ _ _ u v b I hu px py rx ry e
 cases px with
 | @tup ds xs a e1 l1 f1=>
  cases py with
  | @tup es ys a' e2 l2 f2=>
   cases rx
   cases ry
   by_cases z:a=a'
   ·subst z
    have hb:=zkT hs r H _ _ _ b (.tup e1 l1 f1) (.tup e2 l2 f2) e
    subst hb
    exact SeqAt.EqAt.same _
   ·obtain⟨is,ri,ti,_⟩:=zdH I e1
    obtain⟨js,rj,tj,_⟩:=zdH I e2
    obtain⟨g1,g2⟩:=zik (A:=A.in1) hf I (by show A.units + 1 + n < _; omega) ⟨l1,f1⟩ ⟨l2,f2⟩ ri rj e
    have q:=SeqAt.RcAt.tuples (A:=A) ti tj (by omega) g1
    rw[g2] at q
    exact SeqAt.EqAt.of_refs z q
  | ref h=>simp[eqT,eqF] at e
  | _=>simp[eqT,eqF] at e
 | non=>exact zbA .non py rx ry (by cases py <;> exact e)
 | bl i=>exact zbA (.bl i) py rx ry (by cases py <;> exact e)
 | int i=>exact zbA (.int i) py rx ry (by cases py <;> exact e)
 | str i=>exact zbA (.str i) py rx ry (by cases py <;> exact e)
 | ref h=>cases py <;> simp[eqT,eqF] at e
 | exc h=>cases py <;> simp[eqT,eqF] at e
theorem zk1 (n:Nat):zcA (n + 1) eq1:=zjD (zja n) zdK
def wEq (f:D→D→Option Bool):W2:=fun x y S Q=>match f x y with
 | some b=>Q (.bl b) S
 | none=>False
def wNe (f:D→D→Option Bool):W2:=fun x y S Q=>match f x y with
 | some b=>Q (.bl (!b)) S
 | none=>False
section
variable {X:Cx}{Z:Zx}
theorem zlx {r:List Addr}{H:Hp}{dx dy:D}{x y:V}{b:Bool}(px:Rp r H dx x)(py:Rp r H dy y)(e:eqF dx dy=some b):zgK x y=true∧decide (x=y)=b:=by
 cases px <;> cases py <;> simp[eqF] at e <;> simp[zgK] <;> first | exact e | (subst e; simp) | skip
theorem znm {n:Nat}{f:D→D→Option Bool}(hf:zcA n f)(hu:X.A.units + 1 + n < cLine):OpR X (compareOp .Eq) (upO X.K Z (wEq (eqT f))):=by
 intro pins s σ H x y v u Qv I rx ry h
 obtain⟨r,S,dx,dy,Q,rel,px,py,q,ret⟩:=h
 unfold wEq at q
 split at q
 ·rename_i b e
  have zbA:∀ {dx dy:D} {x y:V},Rp r H dx x→Rp r H dy y→zal x v→zal y u→eqF dx dy=some b→wpAny (model X.prog X.w) X.A (compareOp .Eq v u) (EP X pins σ Qv) X.xe s:=fun px py rx ry e=>by
   obtain⟨h1,h2⟩:=zlx px py e
   refine zi7 pins s σ H _ _ v u Qv I rx ry ⟨h1,?_⟩
   rw[h2]
   exact ret _ _ _ _ _ Ext.refl rel (.bl b) q
  cases px with
  | @tup ds xs a e1 l1 f1=>
   cases py with
   | @tup es ys a' e2 l2 f2=>
    cases rx
    cases ry
    obtain⟨is,ri,ti,_⟩:=zdH I e1
    obtain⟨js,rj,tj,_⟩:=zdH I e2
    obtain⟨g1,g2⟩:=zik (A:=X.A.in1) hf I (by show X.A.units + 1 + n < _; omega) ⟨l1,f1⟩ ⟨l2,f2⟩ ri rj e
    refine SeqAt.eq_tupleAt (A:=X.A) ti tj (by omega) g1 ?_
    rw[g2]
    exact⟨.bl b,H,I,rfl,ret _ _ _ _ _ Ext.refl rel (.bl b) q⟩
   | _=>simp[eqT,eqF] at e
  | non=>exact zbA .non py rx ry (by cases py <;> exact e)
  | bl i=>exact zbA (.bl i) py rx ry (by cases py <;> exact e)
  | int i=>exact zbA (.int i) py rx ry (by cases py <;> exact e)
  | str i=>exact zbA (.str i) py rx ry (by cases py <;> exact e)
  | ref h=>cases py <;> simp[eqT,eqF] at e
  | exc h=>cases py <;> simp[eqT,eqF] at e
 ·exact q.elim
theorem zpL {n:Nat}{f:D→D→Option Bool}(hf:zcA n f)(hu:X.A.units + 1 + n < cLine):OpR X (compareOp .NotEq) (upO X.K Z (wNe (eqT f))):=by
 intro pins s σ H x y v u Qv I rx ry h
 obtain⟨r,S,dx,dy,Q,rel,px,py,q,ret⟩:=h
 unfold wNe at q
 split at q
 ·rename_i b e
  have zbA:∀ {dx dy:D} {x y:V},Rp r H dx x→Rp r H dy y→zal x v→zal y u→eqF dx dy=some b→wpAny (model X.prog X.w) X.A (compareOp .NotEq v u) (EP X pins σ Qv) X.xe s:=fun px py rx ry e=>by
   obtain⟨h1,h2⟩:=zlx px py e
   refine op_ne pins s σ H _ _ v u Qv I rx ry ⟨h1,?_⟩
   rw[h2]
   exact ret _ _ _ _ _ Ext.refl rel (.bl (!b)) q
  cases px with
  | @tup ds xs a e1 l1 f1=>
   cases py with
   | @tup es ys a' e2 l2 f2=>
    cases rx
    cases ry
    obtain⟨is,ri,ti,_⟩:=zdH I e1
    obtain⟨js,rj,tj,_⟩:=zdH I e2
    obtain⟨g1,g2⟩:=zik (A:=X.A.in1) hf I (by show X.A.units + 1 + n < _; omega) ⟨l1,f1⟩ ⟨l2,f2⟩ ri rj e
    refine SeqAt.RcNeAt.tuples (A:=X.A) ti tj (by omega) g1 X.prog X.w _ _ ?_
    rw[g2]
    exact⟨.bl (!b),H,I,rfl,ret _ _ _ _ _ Ext.refl rel (.bl (!b)) q⟩
   | _=>simp[eqT,eqF] at e
  | non=>exact zbA .non py rx ry (by cases py <;> exact e)
  | bl i=>exact zbA (.bl i) py rx ry (by cases py <;> exact e)
  | int i=>exact zbA (.int i) py rx ry (by cases py <;> exact e)
  | str i=>exact zbA (.str i) py rx ry (by cases py <;> exact e)
  | ref h=>cases py <;> simp[eqT,eqF] at e
  | exc h=>cases py <;> simp[eqT,eqF] at e
 ·exact q.elim
theorem za6 {k:Nat}(hr:zaD k X.A):OpR X (compareOp .Eq) (upO X.K Z (wEq eq2)):=znm (zk1 0) (by have:=hr.un; omega)
theorem zhj {k:Nat}(hr:zaD k X.A):OpR X (compareOp .NotEq) (upO X.K Z (wNe eq2)):=zpL (zk1 0) (by have:=hr.un; omega)
end
end L3

namespace L3
open PySem PySem.Spec PyProof.Rows L2
section
variable {X:Cx}{Z:Zx}{a b c:Expr}{ta tb tc:TDE}{pos:Pos}{zbd:List Expr}
def zgT (t:TDE):TDT:=fun dl S Q=>t dl S fun d S'=>match d with
 | .bl k=>Q k S'
 | _=>False
theorem ziU {K:PySem.W.Frag}{Z:Zx}{r:List Addr}{H:Hp}{Q:Bool→Sto→Prop}{Qb:Bool→Hp→Prop}(h:∀b H' r' S',Ext r r' H H'→Rel K Z r' S' H'→Q b S'→Qb b H'):
  Ret K Z r H (fun d S'=>match d with | .bl k=>Q k S' | _=>False) (fun x H'=>∃k,x=.bl k∧Qb k H'):=fun v H' r' d S' e rel p q=>by
 cases p with
 | bl k=>exact⟨k,rfl,h k H' r' S' e rel q⟩
 | _=>exact(show False from q).elim
theorem zaO {op:CmpOp}{w:W2}(ho:OpR X (compareOp op) (upO X.K Z w))(ha:PD X Z a ta)(hb:PD X Z b tb)(hm:behindInMarks op b=false):PDT X Z (.Compare a [op] [b] pos) (zgT (dOp w ta tb)):=
 zg4 (zrb ho ha hb hm) fun σ H Qb ⟨r,dl,S,Q,rs,rel,h,ret⟩=>zh4 ⟨r,dl,S,_,rs,rel,h,ziU ret⟩
theorem zdN {e:Expr}{t:TDE}(h:PD X Z e t)(he:∀whole,isTrue e X.env whole=(do let v ← whole; standAt e.pos; holding [v] (truthy v)):=by intro _; rfl):PDT X Z e (zgT t):=
 zg4 (zqc h he) fun σ H Qb ⟨r,dl,S,Q,rs,rel,h,ret⟩=>⟨r,dl,S,_,rs,rel,h,ziU ret⟩
def dNot (t:TDT):TDT:=fun dl S Q=>t dl S fun k S'=>Q (!k) S'
theorem zge {t:TDT}(ha:PDT X Z a t):PDT X Z (.UnaryOp .Not a pos) (dNot t):=
 zg4 (zpg ha) fun σ H Qb ⟨r,dl,S,Q,rs,rel,h,ret⟩=>⟨r,dl,S,_,rs,rel,h,fun k H' r' S' e rel' q=>ret (!k) H' r' S' e rel' q⟩
def dAnd (t u:TDT):TDT:=fun dl S Q=>t dl S fun k S1=>if k=true then u dl S1 Q else Q false S1
def dOr (t u:TDT):TDT:=fun dl S Q=>t dl S fun k S1=>if k=true then Q true S1 else u dl S1 Q
theorem zje {t:TDT}(ha:PDT X Z a t):PDW X Z (.BoolOp .Or [a] pos) t:=zoT ha
theorem zjg {t u:TDT}(ha:PDT X Z a t)(hb:PDW X Z (.BoolOp .Or (b::zbd) pos) u):PDW X Z (.BoolOp .Or (a::b::zbd) pos) (dOr t u):=
 PWimp (pw_or ha hb) fun σ H Qb ⟨r,dl,S,Q,rs,rel,h,ret⟩=>⟨r,dl,S,_,rs,rel,h,fun k H1 r1 S1 e1 rel1 q1=>by
  cases k with
  | true=>exact zbQ (ret true H1 r1 S1 e1 rel1 (by simpa using q1))
  | false=>exact zby ⟨r1,dl,S1,Q,rs.ext e1,rel1,(by simpa using q1),fun k' H2 r2 S2 e2=>ret k' H2 r2 S2 (e1.trans e2)⟩⟩
def zk8 (ta tb:TDE):TDE:=fun dl S Q=>ta dl S fun x S1=>match x with
 | .bl k=>if k=true then tb dl S1 Q else Q (.bl false) S1
 | _=>False
def dOrV (ta tb:TDE):TDE:=fun dl S Q=>ta dl S fun x S1=>match x with
 | .bl k=>if k=true then Q (.bl true) S1 else tb dl S1 Q
 | _=>False
def zjU (ta:TDE):TDE:=fun dl S Q=>ta dl S fun x S1=>match x with
 | .bl k=>Q (.bl (!k)) S1
 | _=>False
theorem zke {op}{t:TDE}(h:PD X Z a t):PD X Z (.BoolOp op [a] pos) t:=zmJ h
theorem ziq (ha:PD X Z a ta)(hb:PD X Z (.BoolOp .And (b::zbd) pos) tb):PD X Z (.BoolOp .And (a::b::zbd) pos) (zk8 ta tb):=
 zaN (zoQ ha hb) fun σ H Qv ⟨r,dl,S,Q,rs,rel,h,ret⟩=>⟨r,dl,S,_,rs,rel,h,fun v H1 r1 d S1 e1 rel1 p q1=>by
  cases p with
  | bl k=>
   refine⟨k,rfl,?_⟩
   cases k with
   | true=>exact zbQ ⟨r1,dl,S1,Q,rs.ext e1,rel1,(by simpa using q1),ret.ext e1⟩
   | false=>exact zby (ret _ H1 r1 (.bl false) S1 e1 rel1 (.bl false) (by simpa using q1))
  | _=>exact(show False from q1).elim⟩
theorem zqe (ha:PD X Z a ta):PD X Z (.UnaryOp .Not a pos) (zjU ta):=
 zaN (znc ha) fun σ H Qv ⟨r,dl,S,Q,rs,rel,h,ret⟩=>⟨r,dl,S,_,rs,rel,h,fun v H1 r1 d S1 e1 rel1 p q1=>by
  cases p with
  | bl k=>exact⟨k,rfl,ret _ H1 r1 (.bl (!k)) S1 e1 rel1 (.bl (!k)) q1⟩
  | _=>exact(show False from q1).elim⟩
def dIfE (t:TDT)(ta tb:TDE):TDE:=fun dl S Q=>t dl S fun k S1=>if k=true then ta dl S1 Q else tb dl S1 Q
theorem zkd {t:TDT}(hc:PDT X Z c t)(ha:PD X Z a ta)(hb:PD X Z b tb):PD X Z (.IfExp c a b pos) (dIfE t ta tb):=
 zaN (zrx hc ha hb) fun σ H Qv ⟨r,dl,S,Q,rs,rel,h,ret⟩=>⟨r,dl,S,_,rs,rel,h,fun k H1 r1 S1 e1 rel1 q1=>by
  cases k with
  | true=>exact zbQ ⟨r1,dl,S1,Q,rs.ext e1,rel1,(by simpa using q1),ret.ext e1⟩
  | false=>exact zby ⟨r1,dl,S1,Q,rs.ext e1,rel1,(by simpa using q1),ret.ext e1⟩⟩
def zhw (w w':W2)(ta tb tc:TDE):TDE:=fun dl S Q=>ta dl S fun x S1=>tb dl S1 fun y S2=>w x y S2 fun z S3=>match z with
 | .bl k=>if k=true then tc dl S3 fun u S4=>w' y u S4 Q else Q (.bl false) S3
 | _=>False
theorem zjS {w w':W2}{σ:St}{H:Hp}{Qv:VK}(h:up X.K Z (zhw w w' ta tb tc) σ H Qv):zjA (upO X.K Z w) (upO X.K Z w') (up X.K Z ta) (up X.K Z tb) (up X.K Z tc) σ H Qv:=by
 obtain⟨r,dl,S,Q,rs,rel,h,ret⟩:=h
 refine⟨r,dl,S,_,rs,rel,h,fun v H1 r1 dx S1 e1 rel1 p1 h1=>⟨r1,dl,S1,_,rs.ext e1,rel1,h1,fun v2 H2 r2 dy S2 e2 rel2 p2 h2=>⟨r2,S2,dx,dy,_,rel2,p1.ext e2,p2,h2,fun v3 H3 r3 dz S3 e3 rel3 p3 h3=>?_⟩⟩⟩
 cases p3 with
 | bl k=>
  refine⟨k,rfl,?_⟩
  cases k with
  | true=>exact zbQ ⟨r3,dl,S3,_,rs.ext (e1.trans (e2.trans e3)),rel3,(by simpa using h3),fun v4 H4 r4 du S4 e4 rel4 p4 h4=>⟨r4,S4,dy,du,Q,rel4,(p2.ext e3).ext e4,p4,h4,ret.ext (e1.trans (e2.trans (e3.trans e4)))⟩⟩
  | false=>exact zby (ret _ H3 r3 (.bl false) S3 (e1.trans (e2.trans e3)) rel3 (.bl false) (by simpa using h3))
 | _=>exact(show False from h3).elim
theorem zp6 {op op':CmpOp}{w w':W2}(ho:OpR X (compareOp op) (upO X.K Z w))(ho':OpR X (compareOp op') (upO X.K Z w'))(ha:PD X Z a ta)(hb:PD X Z b tb)(hc:PD X Z c tc)
  (hm:lastMarks [op,op'] [b,c]=false:=by with_unfolding_all rfl):PD X Z (.Compare a [op,op'] [b,c] pos) (zhw w w' ta tb tc):=zaN (zmi ho ho' ha hb hc hm) fun _ _ _ h=>zjS h
theorem zod {op op':CmpOp}{w w':W2}(ho:OpR X (compareOp op) (upO X.K Z w))(ho':OpR X (compareOp op') (upO X.K Z w'))(ha:PD X Z a ta)(hb:PD X Z b tb)(hc:PD X Z c tc)
  (hm:lastMarks [op,op'] [b,c]=false:=by with_unfolding_all rfl):PDT X Z (.Compare a [op,op'] [b,c] pos) (zgT (zhw w w' ta tb tc)):=
 zg4 (zog ho ho' ha hb hc hm) fun σ H Qb ⟨r,dl,S,Q,rs,rel,h,ret⟩=>zjS ⟨r,dl,S,_,rs,rel,h,ziU ret⟩
def zks:D→Bool
 | .non=>true
 | _=>false
def wIsN:W2:=fun x y S Q=>match y with
 | .non=>Q (.bl (zks x)) S
 | _=>False
def wNotN:W2:=fun x y S Q=>match y with
 | .non=>Q (.bl (!zks x)) S
 | _=>False
variable {e:Expr}{es:List Expr}
def dNil:TDA:=fun _ S Q=>Q [] S
def zjM (ta:TDE)(tr:TDA):TDA:=fun dl S Q=>ta dl S fun x S1=>tr dl S1 fun xs S2=>Q (x::xs) S2
theorem zac:PDA X Z [] dNil:=zle zgP fun σ H Qv ⟨r,dl,S,Q,rs,rel,h,ret⟩=>ret [] H r [] S Ext.refl rel Rps.nil h
theorem zaa {te:TDE}{t:TDA}(ha:PD X Z e te)(hr:PDA X Z es t)(hs:starEach (e::es) X.env=(false,eval e X.env)::starEach es X.env:=by rfl):PDA X Z (e::es) (zjM te t):=
 zle (zd3 ha hr hs) fun σ H Qv ⟨r,dl,S,Q,rs,rel,h,ret⟩=>⟨r,dl,S,_,rs,rel,h,fun v H1 r1 d S1 e1 rel1 p1 h1=>⟨r1,dl,S1,_,rs.ext e1,rel1,h1,fun vs H2 r2 ds S2 e2 rel2 p2 h2=>
  ret (v::vs) H2 r2 (d::ds) S2 (e1.trans e2) rel2 (Rps.cons (p1.ext e2) p2) h2⟩⟩
def dTup (t:TDA):TDE:=fun dl S Q=>t dl S fun ds S1=>if ds.length≤1000 then Q (.tup ds) S1 else False
def dLst (t:TDA):TDE:=fun dl S Q=>t dl S fun ds S1=>if ds.length≤1000 then Q (.ref S1.length) (S1++[.lst ds]) else False
theorem zgo {A:Prop}{p:Prop} [Decidable p] (h:if p then A else False):p∧A:=by
 split at h
 ·exact⟨by assumption,h⟩
 ·exact h.elim
theorem zdI {n:Nat}(h:n≤1000):n≤sizeLine:=Nat.le_of_lt (zf4 h)
theorem zaP {x1}{t:TDA}(h:PDA X Z es t):PD X Z (.Tuple es x1 pos) (dTup t):=
 zaN (zrt h) fun σ H Qv ⟨r,dl,S,Q,rs,rel,h,ret⟩=>⟨r,dl,S,_,rs,rel,h,fun vs H1 r1 ds S1 e1 rel1 p1 h1=>by
  obtain⟨hl,h1⟩:=zgo h1
  refine⟨by rw[← p1.1]; exact zdI hl,fun p hp=>?_⟩
  have x:Ext r1 r1 H1 (upd H1 p (.tup vs)):=⟨fun _ _ q=>q,fun a xs q=>zca hp _ _ q,fun a c q=>zca hp _ _ q⟩
  exact ret _ _ r1 (.tup ds) S1 (e1.trans x) (rel1.same (zca hp)) ((p1.ext x).tupR zbN) h1⟩
theorem zdP {r:List Addr}{p:Addr}{H:Hp}{n:Nat}(h:r.length=n):Rp (r++[p]) H (.ref n) (.ref p):=.ref (by subst h; simp)
theorem zbx {t:TDA}(h:PDA X Z es t):PD X Z (.List es pos) (dLst t):=
 zaN (zn7 h) fun σ H Qv ⟨r,dl,S,Q,rs,rel,h,ret⟩=>⟨r,dl,S,_,rs,rel,h,fun vs H1 r1 ds S1 e1 rel1 p1 h1=>by
  obtain⟨hl,h1⟩:=zgo h1
  refine⟨by rw[← p1.1]; exact zdI hl,fun p hp=>?_⟩
  obtain⟨rel2,x⟩:=rel1.push hp p1
  exact ret _ _ _ (.ref S1.length) _ (e1.trans x) rel2 (zdP rel1.len) h1⟩

def wIx:W2:=fun x y S Q=>match x,y with
 | .tup xs,.int i=>match atI xs i with
  | some d=>Q d S
  | none=>False
 | .ref n,.int i=>match lAt S n with
  | some o=>match atI (zah o) i with
   | some d=>Q d S
   | none=>False
  | none=>False
 | _,_=>False
theorem zj3 {r:List Addr}{H:Hp}{ds:List D}{vs:List V}{i:Int}{d:D}(h:Rps r H ds vs)(e:atI ds i=some d):∃v,atI vs i=some v∧Rp r H d v:=by
  unfold atI at e ⊢
  rw[← h.1]
  cases q:ixN ds.length i with
  | none=>
   rw[q] at e
   cases e
  | some j=>
    rw[q] at e
    exact h.get e
theorem do_ix:IxR X (upO X.K Z wIx):=by
 intro value slice pins s σ H x y v u Qv I rx ry h hs
 obtain⟨r,S,dx,dy,Q,rel,px,py,q,ret⟩:=h
 cases px with
 | @tup ds xs a e1 l1 f1=>
  cases py with
  | int i=>
   have q':(match atI ds i with | some d=>Q d S | none=>False):=q
   split at q'
   ·rename_i d e
    obtain⟨w,hw,pw⟩:=zj3 ⟨l1,f1⟩ e
    exact zqE value slice pins s σ H _ _ v u Qv I rx ry ⟨a,xs,i,w,rfl,rfl,SqT.of e1,hw,ret w H r d S Ext.refl rel pw q'⟩ hs
   ·exact q'.elim
  | _=>exact(show False from q).elim
 | @ref n a e1=>
  cases py with
  | int i=>
   have q':(match lAt S n with | some o=>(match atI (zah o) i with | some d=>Q d S | none=>False) | none=>False):=q
   split at q'
   ·rename_i o eo
    obtain⟨eo,eL⟩:=zbs eo
    obtain⟨a',ha,ob⟩:=rel.at eo
    rw[e1] at ha; cases ha
    obtain⟨xs,sq,pr⟩:=ob.list eL
    split at q'
    ·rename_i d e
     obtain⟨w,hw,pw⟩:=zj3 pr e
     exact zpw value slice pins s σ H _ _ v u Qv I rx ry ⟨a,xs,i,w,rfl,rfl,sq,hw,ret w H r d S Ext.refl rel pw q'⟩ hs
    ·exact q'.elim
   ·exact q'.elim
  | _=>exact(show False from q).elim
 | _=>exact(show False from q).elim
theorem zam (ha:PD X Z a ta)(hb:PD X Z b tb)(hs:zir b):PD X Z (.Subscript a b pos) (dOp wIx ta tb):=zaN (pe_ix do_ix ha hb hs) fun _ _ _ h=>zh4 h
end
end L3


namespace L3
open PySem PySem.Spec PyProof.Rows L2
structure Bk (fs:List Addr)(H H':Hp)(B h:Heap)(ea:Addr):Prop where
 trk:∀b u,H' b=some u→∃o,B.get? b=some o
 old:∀b o,h.get? b=some o→H b=none→b ∉ fs→B.get? b=some o
 all:∀b o,h.get? b=some o→b ∉ fs→∃o',B.get? b=some o'
 new:H' ea=none
def CXE (P:Program)(w:World):CXT:=fun outer H s E e s'=>∃(ea c:Addr) (a0:Value) (B:Heap) (H':Hp),e=.ref ea∧s'.os=s.os∧AllBare s'.gens∧Un (frs outer) [] H H' s.heap s'.heap∧HOk P w H' s'.heap∧
 Heap.FlyingW B outer ea (.ref c) a0 s'.heap∧Bk (frs outer) H H' B s.heap ea∧E (.ref c) none H'
section
variable {X:Cx}{pins:List (Addr×Obj)}{σ:St}{H:Hp}{s:Shared}
end
section
variable {P:Program}{w:World}{K:PySem.W.Frag}{mg:Str→Option Value}{base:Heap}{N:List Str}{qual:Str}{scope:Scope}{f:Addr}{cdv:Value}{A:Around}{outer:List Env}{s0:Shared}{H0:Hp}{E:XK}
end
structure Xc (K:PySem.W.Frag)(mg:Str→Option Value)(x:Str)(C:Addr)(bm:List Value)(nid:String):Prop where
 bound:mg x=some (.ref C)
 ex:PySem.W.excIn K C bm nid=true
end L3

namespace L3
open PySem PySem.Spec PyProof.Rows L2
abbrev WC:=List D→Sto→DK→Prop
abbrev Sd:=List D→Sto→DK→(Addr→Sto→Prop)→Prop
def upC (K:PySem.W.Frag)(Z:Zx)(w:WC):List V→Hp→VK→Prop:=fun xs H Qv=>∃r S ds Q,Rel K Z r S H∧Rps r H ds xs∧w ds S Q∧Ret K Z r H Q Qv
def upF (K:PySem.W.Frag)(sd:Sd):Sp:=fun vs H Qv E=>∃ex:Addr→Sto→Prop,upC K (Zc ex E) (fun ds S Q=>sd ds S Q ex) vs H Qv
def zgB (w:WC)(t:TDA):TDE:=fun dl S Q=>t dl S fun ds S1=>w ds S1 Q
def zhE (ex:Ev→Addr→Sto→Prop)(sd:Sd)(t:TDA):TDE:=fun dl S Q=>t dl S fun ds S1=>sd ds S1 Q (ex dl)
def zci (X:Cx)(W:St→XK):Prop:=∀(pins:List (Addr×Obj)) (σ:St) (H:Hp) (s:Shared) (e:Value) (s':Shared),Inv X pins σ H s→CXE X.prog X.w X.stack H s (W σ) e s'→X.xe e s'
section
variable {X:Cx}{k:Nat}{f:Addr}{fd:FuncData}{ps:List Str}{sp:Sp}{W:St→XK}{x:Str}{p pos:Pos}{e:Expr}{es:List Expr}{t:TA}
theorem zji {pins:List (Addr×Obj)}{σ:St}{H:Hp}{s:Shared}{Q:VK}{us:List Value}{vs:List V}(F:za3 X.prog X.w X.K X.mg X.base (CXE X.prog X.w) k f fd ps sp)(hr:zaD k X.A)(hb:zbl X.K fd ps [])(hx:zci X W)
  (I:Inv X pins σ H s)(r:zap vs us)(h:sp vs H Q (W σ)):wpAny (model X.prog X.w) X.A (call (.ref f) us) (EP X pins σ Q) X.xe s:=by
 have hl:us.length=ps.length:=by rw[← r.length]; exact F.len _ _ _ _ h
 have hb':=hb s us I.kIn (by rw[List.append_nil]; exact hl)
 rw[List.append_nil] at hb'
 refine wpAny_call (codeAny_mono (F.run X.A X.stack s H ⟨us,[]⟩ us vs Q (W σ) hr I.env0 hb' r h) fun z s' hq=>?_)
 cases z with
 | error ev=>exact hx pins σ H s ev s' I hq
 | ok fl=>
  cases fl with
  | ret u=>exact I.after hq
  | _=>exact False.elim hq
theorem zq4 (F:za3 X.prog X.w X.K X.mg X.base (CXE X.prog X.w) k f fd ps sp)(hr:zaD k X.A)(hg:Gl X x)(hm:X.mg x=some (.ref f))(hk:PySem.W.keepIn X.K (.ref f)=true)(hb:zbl X.K fd ps [])(hx:zci X W)
  (ha:PA X (e::es) t)(hdb:(x == ("__debug__":Str))=false)(he:starEach (e::es) X.env=(false,eval e X.env)::starEach es X.env)(hpl:(backTo pos (starEach es X.env)).any (·.1)=false):
  PE X (.Call (.Name x p) (e::es) [] pos) (fun σ H Q=>t σ H fun vs H1=>sp vs H1 Q (W σ)):=by
 intro pins s σ H Q I h
 refine wpAny_Call_Name_kw (zko I hg hm ?_ hdb)
 exact PySem.W.callWith_K (h₀:=X.base) I.ok.mod.kin hk (thn (ha pos pins s σ H _ I h) fun us s1 ⟨vs,H1,I1,r,q⟩=>⟨I1.kIn,zji F hr hb hx I1 r q⟩) he hpl
end
section
variable {X:Cx}{Z:Zx}{x:Str}{p pos:Pos}{e:Expr}{es:List Expr}{t:TDA}{id T:String}{w:WC}
theorem zj9 {σ:St}{H:Hp}{Qv:VK}(h:up X.K Z (zgB w t) σ H Qv):upA X.K Z t σ H fun vs H1=>upC X.K Z w vs H1 Qv:=by
 obtain⟨r,dl,S,Q,rs,rel,h,ret⟩:=h
 exact⟨r,dl,S,_,rs,rel,h,fun vs H1 r1 ds S1 e1 rel1 p1 h1=>⟨r1,S1,ds,Q,rel1,p1,h1,ret.ext e1⟩⟩
theorem za7 (hc:za8 X (.builtin id) (upC X.K Z w))(hg:Gl X x)(hm:X.mg x=none)(hv:bootBuiltins x=some (.builtin id))(ha:PDA X Z (e::es) t)(hn:x≠"__name__":=by decide)(hdb:(x == ("__debug__":Str))=false:=by decide)
  (he:starEach (e::es) X.env=(false,eval e X.env)::starEach es X.env:=by rfl)(hpl:(backTo pos (starEach es X.env)).any (·.1)=false:=by rfl):PD X Z (.Call (.Name x p) (e::es) [] pos) (zgB w t):=
 zaN (ziR hc hg hm hv ha hn hdb he hpl) fun _ _ _ h=>zj9 h
theorem zfH (hc:za8 X (.type T) (upC X.K Z w))(hg:Gl X x)(hm:X.mg x=none)(hv:bootBuiltins x=some (.type T))(ha:PDA X Z (e::es) t)(hn:x≠"__name__":=by decide)(hdb:(x == ("__debug__":Str))=false:=by decide)
  (he:starEach (e::es) X.env=(false,eval e X.env)::starEach es X.env:=by rfl)(hpl:(backTo pos (starEach es X.env)).any (·.1)=false:=by rfl):PD X Z (.Call (.Name x p) (e::es) [] pos) (zgB w t):=
 zaN (zob hc hg hm hv ha hn hdb he hpl) fun _ _ _ h=>zj9 h
theorem ziu {sd:Sd}{r:List Addr}{S:Sto}{H:Hp}{dl:Ev}{σ:St}{ds:List D}{vs:List V}{Q:DK}{Qv:VK}(rs:Rs r H dl σ)(rel:Rel X.K Z r S H)(p:Rps r H ds vs)(h:sd ds S Q (Z.ex dl))(ret:Ret X.K Z r H Q Qv):upF X.K sd vs H Qv (Z.w σ):=
 ⟨Z.ex dl,r,S,ds,Q,⟨rel.b,fun _ _ c H' r' S' x _ rb q=>rel.xw dl σ c H' r' S' x (rs.ext x) rb q⟩,p,h,fun v H' r' d S' x rel' pv q=>ret v H' r' d S' x ⟨rel'.b,rel.xw.ext x⟩ pv q⟩
theorem zqZ {k:Nat}{f:Addr}{fd:FuncData}{ps:List Str}{sd:Sd}(F:za3 X.prog X.w X.K X.mg X.base (CXE X.prog X.w) k f fd ps (upF X.K sd))(hr:zaD k X.A)(hg:Gl X x)(hm:X.mg x=some (.ref f))(hk:PySem.W.keepIn X.K (.ref f)=true)
  {ex:Ev→Addr→Sto→Prop}{W:St→XK}(hb:zbl X.K fd ps [])(hx:zci X W)(ha:PDA X ⟨ex,W⟩ (e::es) t)(hdb:(x == ("__debug__":Str))=false:=by decide)(he:starEach (e::es) X.env=(false,eval e X.env)::starEach es X.env:=by rfl)
  (hpl:(backTo pos (starEach es X.env)).any (·.1)=false:=by rfl):PD X ⟨ex,W⟩ (.Call (.Name x p) (e::es) [] pos) (zhE ex sd t):=
 zaN (zq4 F hr hg hm hk hb hx ha hdb he hpl) fun σ H Qv ⟨r,dl,S,Q,rs,rel,h,ret⟩=>⟨r,dl,S,_,rs,rel,h,fun vs H1 r1 ds S1 e1 rel1 p1 h1=>ziu (Z:=⟨ex,W⟩) (rs.ext e1) rel1 p1 h1 (ret.ext e1)⟩

def wAbs:WC:=fun ds S Q=>match ds with
 | [.int i]=>Q (.int (if i < 0 then -i else i)) S
 | _=>False
theorem zne:za8 X (.builtin "abs") (upC X.K Z wAbs):=ziJ zrJ fun xs H Qv ⟨r,S,ds,Q,rel,ps,q,ret⟩=>by
 unfold wAbs at q
 split at q
 ·rename_i i
  obtain⟨v,vs,rfl,p1,p2⟩:=ps.uncons
  have z:=p2.unnil
  subst z
  cases p1
  exact⟨i,rfl,ret _ _ _ _ _ Ext.refl rel (.int _) q⟩
 ·exact q.elim
def zcK:List D→Option (List Int)
 | []=>some []
 | .int i::r=>(zcK r).map (i::·)
 | _::_=>none
def zcW (le:Int→Int→Prop)(two:Int→Int→Int):WC:=fun ds S Q=>match ds with
 | [.int i,.int j]=>Q (.int (two i j)) S
 | [.ref n]=>match lAt S n with
  | some o=>match zcK (zah o) with
   | some xs=>xs≠[]∧∀m,m∈xs→(∀y∈xs,le y m)→Q (.int m) S
   | none=>False
  | none=>False
 | _=>False
abbrev wMax:WC:=zcW (fun y m=>y≤m) fun i j=>if j > i then j else i
abbrev wMin:WC:=zcW (fun y m=>m≤y) fun i j=>if j < i then j else i
theorem zjo {r:List Addr}{H:Hp}:∀ {ds:List D} {ns:List Int} {vs:List V} {us:List Value},zcK ds=some ns→Rps r H ds vs→zap vs us→∃xs:List (Int×Tok),us.toArray=intItems xs.toArray∧xs.map (·.1)=ns
 | [],ns,vs,us,e,p,q=>by
  have z:=p.unnil
  subst z
  cases q
  simp[zcK] at e
  subst e
  exact⟨[],by simp[intItems],rfl⟩
 | d::ds,ns,vs,us,e,p,q=>by
  obtain⟨v,vs',rfl,p1,p2⟩:=p.uncons
  cases d with
  | int i=>
   cases p1
   cases q with
   | cons q1 q2=>
    obtain⟨t,rfl⟩:=q1
    simp only[zcK,Option.map_eq_some_iff] at e
    obtain⟨ms,e1,rfl⟩:=e
    obtain⟨xs,h1,h2⟩:=zjo e1 p2 q2
    refine⟨(i,t)::xs,?_,by simp[h2]⟩
    simp[intItems] at h1 ⊢
    exact h1
  | _=>simp[zcK] at e
theorem zlw (f:Nat→Int):∀k j,j≤k→f j≤f (argBest (fun i j=>decide (f i > f j)) k)
 | 0,j,h=>by
  have z:j=0:=by omega
  subst z
  exact Int.le_refl _
 | k + 1,j,h=>by
  have ih:=zlw f k
  unfold argBest
  split
  ·rename_i hb
   have hb':f (k + 1) > f (argBest (fun i j=>decide (f i > f j)) k):=of_decide_eq_true hb
   by_cases z:j=k + 1
   ·subst z; exact Int.le_refl _
   ·have:=ih j (by omega); omega
  ·rename_i hb
   have hb':¬ f (k + 1) > f (argBest (fun i j=>decide (f i > f j)) k):=fun q=>hb (decide_eq_true q)
   by_cases z:j=k + 1
   ·subst z; omega
   ·exact ih j (by omega)
theorem zjN (f:Nat→Int):∀k j,j≤k→f (argBest (fun i j=>decide (f i < f j)) k)≤f j
 | 0,j,h=>by
  have z:j=0:=by omega
  subst z
  exact Int.le_refl _
 | k + 1,j,h=>by
  have ih:=zjN f k
  unfold argBest
  split
  ·rename_i hb
   have hb':f (k + 1) < f (argBest (fun i j=>decide (f i < f j)) k):=of_decide_eq_true hb
   by_cases z:j=k + 1
   ·subst z; exact Int.le_refl _
   ·have:=ih j (by omega); omega
  ·rename_i hb
   have hb':¬ f (k + 1) < f (argBest (fun i j=>decide (f i < f j)) k):=fun q=>hb (decide_eq_true q)
   by_cases z:j=k + 1
   ·subst z; omega
   ·exact ih j (by omega)
theorem zin (bt:Nat→Nat→Bool):∀k,argBest bt k≤k
 | 0=>Nat.le_refl _
 | k + 1=>by
  unfold argBest
  split
  ·exact Nat.le_refl _
  ·exact Nat.le_succ_of_le (zin bt k)
theorem ziE {xs:List (Int×Tok)}{ns:List Int}(h:xs.map (·.1)=ns){j:Nat}{y:Int}(e:ns[j]?=some y):numAt xs.toArray j=y:=by
  subst h
  unfold numAt
  rw[List.getElem?_map] at e
  simp only[List.getElem?_toArray]
  cases q:xs[j]? with
  | none=>
   rw[q] at e
   cases e
  | some z=>rw[q] at e; simpa using e
theorem zkr {xs:List (Int×Tok)}{ns:List Int}(h:xs.map (·.1)=ns){j:Nat}(hj:j < ns.length):numAt xs.toArray j∈ns:=by
 have e:ns[j]?=some ns[j]:=by simp[hj]
 rw[ziE h e]
 exact List.getElem_mem hj
theorem zjv (hc:X.calm=true):za8 X (.builtin "max") (upC X.K Z wMax):=by
 intro pins s σ H xs us Qv I rv h
 obtain⟨r,S,ds,Q,rel,ps,q,ret⟩:=h
 unfold wMax zcW at q
 split at q
 ·rename_i i j
  obtain⟨v,vs,rfl,p1,p2⟩:=ps.uncons
  obtain⟨v2,vs2,rfl,p3,p4⟩:=p2.uncons
  have z:=p4.unnil
  subst z
  cases p1
  cases p3
  exact zp0 hc pins s σ H _ us Qv I rv ⟨i,j,rfl,ret _ _ _ _ _ Ext.refl rel (.int _) q⟩
 ·rename_i n
  obtain⟨v,vs,rfl,p1,p2⟩:=ps.uncons
  have z:=p2.unnil
  subst z
  split at q
  ·rename_i o eo
   split at q
   ·rename_i ns en
    obtain⟨hne,q⟩:=q
    obtain⟨eo,eL⟩:=zbs eo
    obtain⟨a,ha,ob⟩:=rel.at eo
    cases p1 with
    | ref h1=>
     rw[h1] at ha; cases ha
     obtain⟨ys,sq,pr⟩:=ob.list eL
     obtain⟨u,rfl,ru⟩:=zc8 rv
     cases ru
     obtain⟨its,ri,pl,hz⟩:=I.list sq
     obtain⟨zs,hz1,hz2⟩:=zjo en pr ri
     have hl:zs.length=ns.length:=by rw[← hz2,List.length_map]
     have hpos:0 < ns.length:=List.length_pos_iff.mpr hne
     have isl:=pl.isList
     rw[hz1] at isl
     refine max_intList (I.ok.hd hc) isl (by simp; omega) fun v h' tk hv hk=>?_
     have hvi:=intItems_at hv
     obtain⟨t,rfl⟩:=hvi
     have hb:=zin (fun i j=>decide (numAt zs.toArray i > numAt zs.toArray j)) (zs.toArray.size - 1)
     have hsz:zs.toArray.size=ns.length:=by simp[hl]
     refine⟨.int _,H,I.kept hk,⟨_,rfl⟩,ret _ _ _ _ _ Ext.refl rel (.int _) (q _ (zkr hz2 (by omega)) fun y hy=>?_)⟩
     obtain⟨j,hj,ej⟩:=List.mem_iff_getElem.mp hy
     have e1:=ziE hz2 (show ns[j]?=some y by simp[hj,ej])
     rw[← e1]
     exact zlw _ _ j (by omega)
   ·exact q.elim
  ·exact q.elim
 ·exact q.elim
theorem ziL (hc:X.calm=true):za8 X (.builtin "min") (upC X.K Z wMin):=by
 intro pins s σ H xs us Qv I rv h
 obtain⟨r,S,ds,Q,rel,ps,q,ret⟩:=h
 unfold wMin zcW at q
 split at q
 ·rename_i i j
  obtain⟨v,vs,rfl,p1,p2⟩:=ps.uncons
  obtain⟨v2,vs2,rfl,p3,p4⟩:=p2.uncons
  have z:=p4.unnil
  subst z
  cases p1
  cases p3
  exact zrU hc pins s σ H _ us Qv I rv ⟨i,j,rfl,ret _ _ _ _ _ Ext.refl rel (.int _) q⟩
 ·rename_i n
  obtain⟨v,vs,rfl,p1,p2⟩:=ps.uncons
  have z:=p2.unnil
  subst z
  split at q
  ·rename_i o eo
   split at q
   ·rename_i ns en
    obtain⟨hne,q⟩:=q
    obtain⟨eo,eL⟩:=zbs eo
    obtain⟨a,ha,ob⟩:=rel.at eo
    cases p1 with
    | ref h1=>
     rw[h1] at ha; cases ha
     obtain⟨ys,sq,pr⟩:=ob.list eL
     obtain⟨u,rfl,ru⟩:=zc8 rv
     cases ru
     obtain⟨its,ri,pl,hz⟩:=I.list sq
     obtain⟨zs,hz1,hz2⟩:=zjo en pr ri
     have hl:zs.length=ns.length:=by rw[← hz2,List.length_map]
     have hpos:0 < ns.length:=List.length_pos_iff.mpr hne
     have isl:=pl.isList
     rw[hz1] at isl
     refine min_intList (I.ok.hd hc) isl (by simp; omega) fun v h' tk hv hk=>?_
     have hvi:=intItems_at hv
     obtain⟨t,rfl⟩:=hvi
     have hb:=zin (fun i j=>decide (numAt zs.toArray i < numAt zs.toArray j)) (zs.toArray.size - 1)
     have hsz:zs.toArray.size=ns.length:=by simp[hl]
     refine⟨.int _,H,I.kept hk,⟨_,rfl⟩,ret _ _ _ _ _ Ext.refl rel (.int _) (q _ (zkr hz2 (by omega)) fun y hy=>?_)⟩
     obtain⟨j,hj,ej⟩:=List.mem_iff_getElem.mp hy
     have e1:=ziE hz2 (show ns[j]?=some y by simp[hj,ej])
     rw[← e1]
     exact zjN _ _ j (by omega)
   ·exact q.elim
  ·exact q.elim
 ·exact q.elim
def ze1:WC:=fun ds S Q=>match ds with
 | [.tup xs]=>Q (.int xs.length) S
 | [.ref n]=>match lAt S n with
  | some o=>Q (.int (zah o).length) S
  | none=>False
 | _=>False
theorem zbG:za8 X (.builtin "len") (upC X.K Z ze1):=ziJ znB fun xs H Qv ⟨r,S,ds,Q,rel,ps,q,ret⟩=>by
 unfold ze1 at q
 split at q
 ·rename_i ys
  obtain⟨v,vs,rfl,p1,p2⟩:=ps.uncons
  have z:=p2.unnil
  subst z
  obtain⟨a,zs,rfl,h1,h2⟩:=p1.untup
  exact⟨a,zs,rfl,.inr (SqT.of h1),by rw[← h2.1]; exact ret _ _ _ _ _ Ext.refl rel (.int _) q⟩
 ·rename_i n
  obtain⟨v,vs,rfl,p1,p2⟩:=ps.uncons
  have z:=p2.unnil
  subst z
  split at q
  ·rename_i o eo
   obtain⟨eo,eL⟩:=zbs eo
   obtain⟨a,ha,ob⟩:=rel.at eo
   cases p1 with
   | ref h1=>
    rw[h1] at ha; cases ha
    obtain⟨ys,sq,pr⟩:=ob.list eL
    exact⟨_,ys,rfl,.inl sq,by rw[← pr.1]; exact ret _ _ _ _ _ Ext.refl rel (.int _) q⟩
  ·exact q.elim
 ·exact q.elim

def zcl (t T:String):Bool:=t == T || (t == "bool" && T == "int")
def zjH (T:String)(te:TDE):TDE:=fun dl S Q=>te dl S fun d S1=>match d with
 | .ref _=>False
 | .exc _=>False
 | .non=>Q (.bl (zcl "NoneType" T)) S1
 | .bl _=>Q (.bl (zcl "bool" T)) S1
 | .int _=>Q (.bl (zcl "int" T)) S1
 | .str _=>Q (.bl (zcl "str" T)) S1
 | .tup _=>Q (.bl (zcl "tuple" T)) S1
def Kit (K:PySem.W.Frag)(T:String):Prop:=∀t∈["NoneType","bool","int","str","tuple"],PySem.W.kitOne K (.type t) (.type T)=some (zcl t T)
def rInst (K:PySem.W.Frag):List V→Hp→VK→Prop:=fun xs H Qv=>∃x T t b,xs=[x,.ty T]∧zbH K H x t∧PySem.W.kitOne K t (.type T)=some b∧Qv (.bl b) H
theorem zkK:za8 X (.builtin "isinstance") (rInst X.K):=by
 intro pins s σ H xs us Q I r h
 obtain⟨x,T,t,b,rfl,ty,e,q⟩:=h
 obtain⟨u,w',rfl,r1,r2⟩:=zi6 r
 cases r2
 exact zmX I r1 ty e fun tk=>⟨.bl b,H,I.tok tk,rfl,q⟩
theorem zjx {T:String}{te:TDE}{y:Str}{p2:Pos}(KT:Kit X.K T)(hg:Gl X "isinstance")(hm:X.mg "isinstance"=none)(hg2:Gl X y)(hm2:X.mg y=none)(hv2:bootBuiltins y=some (.type T))(ha:PD X Z e te)
  (hv:bootBuiltins "isinstance"=some (.builtin "isinstance"):=by exact PyProof.Rows.Boot.«isinstance»)
  (hn2:y≠"__name__":=by decide)(hd2:(y == ("__debug__":Str))=false:=by decide)(he2:starEach [e,.Name y p2] X.env=(false,eval e X.env)::starEach [.Name y p2] X.env:=by rfl)
  (he3:starEach [.Name y p2] X.env=(false,eval (.Name y p2) X.env)::starEach [] X.env:=by rfl)(hpl:(backTo pos (starEach [.Name y p2] X.env)).any (·.1)=false:=by rfl):
  PD X Z (.Call (.Name "isinstance" p) [e,.Name y p2] [] pos) (zjH T te):=
 zaN (ziR zkK hg hm hv (zd3 ha (zd3 (zls (v:=.ty T) hg2 hm2 hv2 rfl hn2 hd2) zgP he3) he2) (by decide) (by decide) he2 hpl) fun σ H Qv ⟨r,dl,S,Q,rs,rel,h,ret⟩=>
  ⟨r,dl,S,_,rs,rel,h,fun v H1 r1 d S1 e1 rel1 p1 h1=>by
   cases p1 with
   | non=>exact⟨_,T,_,_,rfl,.non,KT _ (by simp),ret _ _ _ _ _ e1 rel1 (.bl _) h1⟩
   | bl b=>exact⟨_,T,_,_,rfl,.bl b,KT _ (by simp),ret _ _ _ _ _ e1 rel1 (.bl _) h1⟩
   | int b=>exact⟨_,T,_,_,rfl,.int b,KT _ (by simp),ret _ _ _ _ _ e1 rel1 (.bl _) h1⟩
   | str b=>exact⟨_,T,_,_,rfl,.str b,KT _ (by simp),ret _ _ _ _ _ e1 rel1 (.bl _) h1⟩
   | tup e2 _ _=>exact⟨_,T,_,_,rfl,.tup e2,KT _ (by simp),ret _ _ _ _ _ e1 rel1 (.bl _) h1⟩
   | ref _=>exact(show False from h1).elim
   | exc _=>exact(show False from h1).elim⟩
end
end L3

namespace L3
open PySem PySem.Spec PyProof.Rows L2
section
variable {X:Cx}{Z:Zx}{st:Stmt}{zbd:List Stmt}{t u:TDS}{e:Expr}{te:TDE}{pos:Pos}
def zlC:TDS:=fun E dl S=>E.nx dl S
def zgb (t u:TDS):TDS:=fun E dl S=>t { nx:=fun dl' S'=>u E dl' S',rt:=E.rt,bk:=E.bk,ct:=E.ct } dl S
theorem zaW:zbY X Z [] zlC:=zkY zre fun F σ H ⟨r,dl,S,E,rs,rel,h,ret⟩=>ret.nx σ H r dl S Ext.refl rs rel h
theorem zag (h1:PDS X Z st t)(h2:zbY X Z zbd u):zbY X Z (st::zbd) (zgb t u):=
 zkY (zmG h1 h2) fun F σ H ⟨r,dl,S,E,rs,rel,h,ret⟩=>⟨r,dl,S,_,rs,rel,h,fun σ' H' r' dl' S' x rs' rel' q=>⟨r',dl',S',E,rs',rel',q,ret.ext x⟩,ret.bk,ret.ct,ret.rt⟩
theorem zaf (h1:PDS X Z st t):zbY X Z [st] t:=znH h1
def zkw (te:TDE):TDS:=fun E dl S=>te dl S fun _ S1=>E.nx dl S1
theorem zbh (he:PD X Z e te)(hs:swapsWith e none pos.line X.env=pure false:=by rfl):PDS X Z (.Expr e pos) (zkw te):=
 zbF (zqV he hs) fun F σ H ⟨r,dl,S,E,rs,rel,h,ret⟩=>⟨r,dl,S,_,rs,rel,h,fun v H1 r1 d S1 x rel1 p q=>ret.nx σ H1 r1 dl S1 x (rs.ext x) rel1 q⟩
def dRet (te:TDE):TDS:=fun E dl S=>te dl S E.rt
theorem zan (he:PD X Z e te):PDS X Z (.Return (some e) pos) (dRet te):=
 zbF (zrE he) fun F σ H ⟨r,dl,S,E,rs,rel,h,ret⟩=>⟨r,dl,S,_,rs,rel,h,ret.rt⟩
def dRetN:TDS:=fun E _ S=>E.rt .non S
def dIf (c:TDT)(t u:TDS):TDS:=fun E dl S=>c dl S fun k S1=>if k=true then t E dl S1 else u E dl S1
theorem zaQ {c:Expr}{a b:List Stmt}{tc:TDT}(hc:PDT X Z c tc)(ha:zbY X Z a t)(hb:zbY X Z b u):PDS X Z (.If c a b pos) (dIf tc t u):=
 zbF (ps_if hc ha hb) fun F σ H ⟨r,dl,S,E,rs,rel,h,ret⟩=>⟨r,dl,S,_,rs,rel,h,fun k H1 r1 S1 x rel1 q=>by
  cases k with
  | true=>exact zbQ ⟨r1,dl,S1,E,rs.ext x,rel1,(by simpa using q),ret.ext x⟩
  | false=>exact zby ⟨r1,dl,S1,E,rs.ext x,rel1,(by simpa using q),ret.ext x⟩⟩
def zfq (i:Nat)(te:TDE):TDS:=fun E dl S=>te dl S fun d S1=>E.nx (dl.set i (some d)) S1
theorem zar {i:Nat}{x:Str}{pos':Pos}(hN:X.N.Nodup)(hi:X.N[i]?=some x)(hx:Loc X.env.scope x)(he:PD X Z e te)(hs:swapsWith e (some (.Name x pos')) pos.line X.env=pure false:=by rfl)
  (hf:X.fn x=true∨X.env.scope.names.lookup x=some .local:=by first | exact .inl rfl | exact .inr rfl | assumption):PDS X Z (.Assign [.Name x pos'] e pos) (zfq i te):=
 zbF (zna hN hi hx he hs hf) fun F σ H ⟨r,dl,S,E,rs,rel,h,ret⟩=>⟨r,dl,S,_,rs,rel,h,fun v H1 r1 d S1 x rel1 p q=>ret.nx _ H1 r1 _ S1 x ((rs.ext x).set i p) rel1 q⟩

def zqS (c:TDT)(tb:TDS):TDS:=fun E dl S=>∃W:Nat→Ev→Sto→Prop,(∃m,W m dl S)∧∀m dl S,W m dl S→
 c dl S fun k S1=>if k=true then tb { nx:=fun dl' S'=>∃m',m' < m∧W m' dl' S',rt:=E.rt,bk:=E.nx,ct:=fun dl' S'=>∃m',m' < m∧W m' dl' S' } dl S1 else E.nx dl S1
theorem zqM {c:Expr}{body:List Stmt}{tc:TDT}{tb:TDS}(hp:PassesOwn (model X.prog X.w) X.A X.env X.xe)(hc:PDT X Z c tc)(hb:zbY X Z body tb):PDS X Z (.While c body [] pos) (zqS tc tb):=
 zbF (zoW hp hc hb) fun F σ H ⟨r,dl,S,E,rs,rel,⟨W,⟨m0,w0⟩,turn⟩,ret⟩=>by
  refine⟨fun m σ' H'=>∃r' dl' S',Ext r r' H H'∧Rs r' H' dl' σ'∧Rel X.K Z r' S' H'∧W m dl' S',⟨m0,r,dl,S,Ext.refl,rs,rel,w0⟩,?_⟩
  rintro m σ1 H1 ⟨r1,dl1,S1,x1,rs1,rel1,w1⟩
  refine⟨r1,dl1,S1,_,rs1,rel1,turn m dl1 S1 w1,fun k H2 r2 S2 x2 rel2 q2=>?_⟩
  cases k with
  | true=>
   refine zbQ ⟨fun σ' H'=>∃m',m' < m∧∃r' dl' S',Ext r r' H H'∧Rs r' H' dl' σ'∧Rel X.K Z r' S' H'∧W m' dl' S',fun _ _ z=>z,r2,dl1,S2,_,rs1.ext x2,rel2,(by simpa using q2),?_⟩
   have go:∀σ' H' r' dl' S',Ext r2 r' H2 H'→Rs r' H' dl' σ'→Rel X.K Z r' S' H'→(∃m',m' < m∧W m' dl' S')→∃m',m' < m∧∃r' dl' S',Ext r r' H H'∧Rs r' H' dl' σ'∧Rel X.K Z r' S' H'∧W m' dl' S':=
    fun σ' H' r' dl' S' x rs' rel' ⟨m',hm,w'⟩=>⟨m',hm,r',dl',S',x1.trans (x2.trans x),rs',rel',w'⟩
   exact⟨go,fun σ' H' r' dl' S' x rs' rel' q=>ret.nx σ' H' r' dl' S' (x1.trans (x2.trans x)) rs' rel' q,go,ret.rt.ext (x1.trans x2)⟩
  | false=>exact zby (ret.nx σ1 H2 r2 dl1 S2 (x1.trans x2) (rs1.ext x2) rel2 (by simpa using q2))

def dFor (i:Nat)(tl:TDE)(tb:TDS):TDS:=fun E dl S=>tl dl S fun d S1=>match d with
 | .ref n=>(lAt S1 n).isSome=true∧∃W:Nat→Nat→Ev→Sto→Prop,(∃m,W 0 m dl S1)∧∀k m dl S,W k m dl S→match lAt S n with
  | some o=>match (zah o)[k]? with
   | some x=>tb { nx:=fun dl' S'=>∃m',m' < m∧W (k + 1) m' dl' S',rt:=E.rt,bk:=E.nx,ct:=fun dl' S'=>∃m',m' < m∧W (k + 1) m' dl' S' } (dl.set i (some x)) S
   | none=>E.nx dl S
  | none=>False
 | _=>False
theorem zdA {i:Nat}{x:Str}{pos':Pos}{iter:Expr}{body:List Stmt}{tl:TDE}{tb:TDS}(hp:PassesOwn (model X.prog X.w) X.A X.env X.xe)(hc:X.calm=true)(hN:X.N.Nodup)(hi:X.N[i]?=some x)(hx:Loc X.env.scope x)
  (hl:PD X Z iter tl)(hb:zbY X Z body tb)(hf:X.fn x=true∨X.env.scope.names.lookup x=some .local:=by first | exact .inl rfl | exact .inr rfl | assumption)
  (hs:∀y,foldedSetIterable iter X.env y=pure y:=by intro _; rfl):PDS X Z (.For (.Name x pos') iter body [] pos) (dFor i tl tb):=
 zbF (ziT hp hc (zjd hl) (zhI hN hi hx hf) hb hs) fun F σ H ⟨r,dl,S,E,rs,rel,h,ret⟩=>by
  refine⟨r,dl,S,_,rs,rel,h,fun v H1 r1 d S1 x1 rel1 p1 q1=>?_⟩
  cases p1 with
  | @ref n a hn=>
   obtain⟨hsome,W,⟨m0,w0⟩,turn⟩:=q1
   have sql:∀ {r':List Addr} {S':Sto} {H':Hp} {o:Ob},Ext r1 r' H1 H'→Rel X.K Z r' S' H'→lAt S' n=some o→∃xs,SqL X.K H' a xs∧Rps r' H' (zah o) xs:=fun {r' S' H' o} x' rel' eo=>by
    obtain⟨eo,eL⟩:=zbs eo
    obtain⟨a',ha,ob⟩:=rel'.at eo
    rw[x'.adr n a hn] at ha; cases ha
    exact ob.list eL
   obtain⟨o1,eo1⟩:=Option.isSome_iff_exists.mp hsome
   obtain⟨xs1,sq1,_⟩:=sql Ext.refl rel1 eo1
   refine⟨a,rfl,⟨xs1,sq1⟩,fun k m σ' H'=>∃r' dl' S',Ext r1 r' H1 H'∧Rs r' H' dl' σ'∧Rel X.K Z r' S' H'∧W k m dl' S',⟨m0,r1,dl,S1,Ext.refl,rs.ext x1,rel1,w0⟩,?_⟩
   rintro k m σ2 H2 ⟨r2,dl2,S2,x2,rs2,rel2,w2⟩
   have q:=turn k m dl2 S2 w2
   split at q
   ·rename_i o eo
    obtain⟨xs,sq,pr⟩:=sql x2 rel2 eo
    split at q
    ·rename_i y ey
     obtain⟨v,hv,pv⟩:=pr.get ey
     have go:∀ {r3:List Addr} {H3:Hp},Ext r2 r3 H2 H3→∀σ' H' r' dl' S',Ext r3 r' H3 H'→Rs r' H' dl' σ'→Rel X.K Z r' S' H'→(∃m',m' < m∧W (k + 1) m' dl' S')→∃m',m' < m∧∃r' dl' S',Ext r1 r' H1 H'∧Rs r' H' dl' σ'∧Rel X.K Z r' S' H'∧W (k + 1) m' dl' S':=
      fun {r3 H3} x3 σ' H' r' dl' S' x rs' rel' ⟨m',hm,w'⟩=>⟨m',hm,r',dl',S',x2.trans (x3.trans x),rs',rel',w'⟩
     refine .inr ⟨⟨xs,v,sq,hv⟩,fun σ' H'=>∃m',m' < m∧∃r' dl' S',Ext r1 r' H1 H'∧Rs r' H' dl' σ'∧Rel X.K Z r' S' H'∧W (k + 1) m' dl' S',fun _ _ z=>z,fun v' H' y'=>?_⟩
     obtain⟨eH,y'⟩:=y'
     subst eH
     have ev:v'=v:=by
      have z:=y' xs sq
      rw[hv] at z; exact(Option.some.inj z).symm
     subst ev
     exact⟨r2,_,S2,_,rs2.set i pv,rel2,q,go Ext.refl,fun σ' H' r' dl' S' x rs' rel' z=>ret.nx σ' H' r' dl' S' (x1.trans (x2.trans x)) rs' rel' z,go Ext.refl,ret.rt.ext (x1.trans x2)⟩
    ·rename_i ey
     have hlen:(zah o).length≤k:=List.getElem?_eq_none_iff.mp ey
     exact .inl ⟨⟨xs,sq,by rw[← pr.1]; exact hlen⟩,ret.nx σ2 H2 r2 dl2 S2 (x1.trans x2) rs2 rel2 q⟩
   ·exact q.elim
  | _=>exact(show False from q1).elim
def dForR (i:Nat)(ta:TDA)(tb:TDS):TDS:=fun E dl S=>ta dl S fun ds S1=>match ds with
 | [.int j]=>(-(2 ^ 62)≤j∧j < 2 ^ 62)∧∃W:Nat→Ev→Sto→Prop,W 0 dl S1∧∀k dl S,W k dl S→
   if k < j.toNat then tb { nx:=fun dl' S'=>W (k + 1) dl' S',rt:=E.rt,bk:=E.nx,ct:=fun dl' S'=>W (k + 1) dl' S' } (dl.set i (some (.int k))) S else E.nx dl S
 | _=>False
theorem zcp {i:Nat}{x:Str}{pos2 pos' p:Pos}{a:Expr}{body:List Stmt}{ta:TDA}{tb:TDS}(hp:PassesOwn (model X.prog X.w) X.A X.env X.xe)(hc:X.calm=true)(hN:X.N.Nodup)(hi:X.N[i]?=some x)(hx:Loc X.env.scope x)
  (hg:Gl X "range")(hm:X.mg "range"=none)(ha:PDA X Z [a] ta)(hb:zbY X Z body tb)(hf:X.fn x=true∨X.env.scope.names.lookup x=some .local:=by first | exact .inl rfl | exact .inr rfl | assumption)
  (hs:∀y,foldedSetIterable (.Call (.Name "range" p) [a] [] pos) X.env y=pure y:=by intro _; rfl)(hst:starEach [a] X.env=[(false,eval a X.env)]:=by rfl):
  PDS X Z (.For (.Name x pos') (.Call (.Name "range" p) [a] [] pos) body [] pos2) (dForR i ta tb):=
 zbF (ziT hp hc (zjs hg hm ha hst) (zhI hN hi hx hf) hb hs) fun F σ H ⟨r,dl,S,E,rs,rel,h,ret⟩=>by
  refine⟨r,dl,S,_,rs,rel,h,fun vs H1 r1 ds S1 x1 rel1 p1 q1=>?_⟩
  split at q1
  ·rename_i j
   obtain⟨v,vs',rfl,p2,p3⟩:=p1.uncons
   have z:=p3.unnil
   subst z
   cases p2
   obtain⟨⟨b1,b2⟩,W,w0,turn⟩:=q1
   refine⟨j,rfl,b1,b2,fun k m σ' H'=>m=j.toNat - k∧∃r' dl' S',Ext r1 r' H1 H'∧Rs r' H' dl' σ'∧Rel X.K Z r' S' H'∧W k dl' S',⟨j.toNat,by simp,r1,dl,S1,Ext.refl,rs.ext x1,rel1,w0⟩,?_⟩
   rintro k m σ2 H2 ⟨em,r2,dl2,S2,x2,rs2,rel2,w2⟩
   have q:=turn k dl2 S2 w2
   split at q
   ·rename_i hk
    have go:∀σ' H' r' dl' S',Ext r2 r' H2 H'→Rs r' H' dl' σ'→Rel X.K Z r' S' H'→W (k + 1) dl' S'→∃r' dl' S',Ext r1 r' H1 H'∧Rs r' H' dl' σ'∧Rel X.K Z r' S' H'∧W (k + 1) dl' S':=
     fun σ' H' r' dl' S' x rs' rel' w'=>⟨r',dl',S',x2.trans x,rs',rel',w'⟩
    have pk:Rp r2 H2 (.int (k:Int)) (.int (0 + (k:Int))):=by rw[Int.zero_add]; exact .int _
    refine .inr ⟨hk,fun σ' H'=>∃r' dl' S',Ext r1 r' H1 H'∧Rs r' H' dl' σ'∧Rel X.K Z r' S' H'∧W (k + 1) dl' S',fun σ' H' z=>⟨j.toNat - (k + 1),by omega,rfl,z⟩,fun v' H' y'=>?_⟩
    obtain⟨eH,y'⟩:=y'
    subst eH
    subst y'
    exact⟨r2,_,S2,_,rs2.set i pk,rel2,q,go,fun σ' H' r' dl' S' x rs' rel' z=>ret.nx σ' H' r' dl' S' (x1.trans (x2.trans x)) rs' rel' z,go,ret.rt.ext (x1.trans x2)⟩
   ·rename_i hk
    exact .inl ⟨by show j.toNat≤k; omega,ret.nx σ2 H2 r2 dl2 S2 (x1.trans x2) rs2 rel2 q⟩
  ·exact q1.elim
end

def zdk (N:List Str)(ds:List D):Ev:=ds.map some++List.replicate (N.length - ds.length) none
theorem zo1 {r:List Addr}{H:Hp}{N:List Str}{ds:List D}{vs:List V}(h:Rps r H ds vs):Rs r H (zdk N ds) (L2.zb9 N vs):=by
  refine⟨by simp[zdk,L2.zb9,h.1],fun i d e=>?_⟩
  unfold zdk at e
  by_cases hi:i < ds.length
  · rw[List.getElem?_append_left (by simpa using hi),List.getElem?_map] at e
    cases q:ds[i]? with
    | none=>
   rw[q] at e
   cases e
    | some z=>
      rw[q] at e
      cases e
      obtain⟨v,hv,pv⟩:=h.get q
      refine⟨v,?_,pv⟩
      unfold L2.zb9
      rw[List.getElem?_append_left (by simpa [h.1] using hi),List.getElem?_map,hv]
      rfl
  · rw[List.getElem?_append_right (by simpa using hi),List.getElem?_replicate] at e
    split at e <;> cases e
section
variable {P:Program}{w:World}{K:PySem.W.Frag}{mg:Str→Option Value}{base:Heap}
abbrev Z0:Zx:=Zc (fun _ _=>False) (fun _ _ _=>False)
theorem zef {X:Cx}:zci X Z0.w:=fun _ _ _ _ _ _ _ h=>by
 obtain⟨_,_,_,_,_,_,_,_,_,_,_,_,q⟩:=h
 exact q.elim
theorem zas {x qual:Str}{st:Stmt}{f:Addr}{fd:FuncData}{N ps:List Str}{k:Nat}{sd:Sd}(F:Fun K x qual st f fd)(Sc:zaq N ps (zaj st))(len:∀ds S Q ex,sd ds S Q ex→ds.length=ps.length)
  (hbody:∀(cdv:Value) (A:Around) (outer:List Env) (s:Shared) (H:Hp) (E:XK),zaD k (A.deeper (envOfC qual (zaj st) s.heap.objs.size f cdv))→
   ∃t,zbY (zdl (CXE P w) P w K mg base N qual (zaj st) f cdv A outer s H E).nox Z0 (zcw st) t∧∀ds S Q ex,sd ds S Q ex→t { nx:=fun _ S'=>Q .non S',rt:=Q } (zdk N ds) S):za3 P w K mg base (CXE P w) (k + 1) f fd ps (upF K sd):=by
 obtain⟨oc,od,kV,doc,pm,an,cdv,ct,osl,rfl,lk,hcd⟩:=F.ex
 refine fn_of lk hcd Sc (fun vs H Q E h=>?_) fun A outer s H vs Q E hr h=>?_
 ·obtain⟨ex,r,S,ds,Q',rel,p,q,ret⟩:=h
  rw[← p.1]
  exact len ds S Q' ex q
 ·obtain⟨ex,r,S,ds,Q',rel,p,q,ret⟩:=h
  obtain⟨t,ht,hq⟩:=hbody cdv A outer s H E hr
  have back:∀ {H':Hp} {r':List Addr} {S':Sto},Ext r r' H H'→Rel K Z0 r' S' H'→Rel K (Zc ex E) r' S' H':=fun x rel'=>⟨rel'.b,rel.xw.ext x⟩
  refine⟨upS K Z0 t,ht.nox,r,zdk N ds,S,_,zo1 p,⟨rel.b,fun _ _ _ _ _ _ _ _ _ z=>z.elim⟩,hq ds S Q' ex q,?_,?_,?_,?_⟩
  ·intro σ' H' r' dl' S' x _ rel' z
   exact ret .non H' r' .non S' x (back x rel') .non z
  ·intro σ' H' r' dl' S' x _ rel' z
   exact z
  ·intro σ' H' r' dl' S' x _ rel' z
   exact z
  ·intro v H' r' d S' x rel' p' z
   exact ret v H' r' d S' x (back x rel') p' z
end
end L3

namespace L3
open PySem
def Sz (n:Nat)(i:Int):Prop:=i.natAbs < 2 ^ n
theorem Sz.mono {m n:Nat}{i:Int}(h:Sz m i)(hn:m≤n):Sz n i:=Nat.lt_of_lt_of_le h (Nat.pow_le_pow_right (by decide) hn)
theorem Sz.bits {n:Nat}{i:Int}(h:Sz n i):Builtin.Int.intBits i≤n:=by
 unfold Builtin.Int.intBits
 split
 ·exact Nat.zero_le _
 ·rename_i hz
  have hp:i.natAbs≠0:=by
   intro z
   have z2:i=0:=by omega
   simp[z2] at hz
  have:=(Nat.log2_lt hp).mpr h
  omega
theorem zaE {m n:Nat}{i j:Int}(hi:Sz m i)(hj:Sz n j)(hm:m≤1048576:=by decide)(hn:n≤1048576:=by decide):IntMulOk i j:=
  IntMulOk.of_bits (Nat.le_trans hi.bits (by have e:(2:Nat) ^ 20=1048576:=by decide
                                             omega)) (Nat.le_trans hj.bits (by have e:(2:Nat) ^ 20=1048576:=by decide
                                                                               omega))
theorem Sz.of {n:Nat}{i:Int}(m:Nat)(h:i.natAbs≤m)(hm:m < 2 ^ n:=by decide):Sz n i:=Nat.lt_of_le_of_lt h hm
theorem Sz.mul {m n:Nat}{i j:Int}(hi:Sz m i)(hj:Sz n j):Sz (m + n) (i * j):=by
 unfold Sz at *
 rw[Nat.pow_add,Int.natAbs_mul]
 exact Nat.mul_lt_mul'' hi hj
theorem Sz.add {m n:Nat}{i j:Int}(hi:Sz m i)(hj:Sz n j):Sz (max m n + 1) (i + j):=by
 have h1:Sz (max m n) i:=hi.mono (Nat.le_max_left _ _)
 have h2:Sz (max m n) j:=hj.mono (Nat.le_max_right _ _)
 unfold Sz at *
 have e:(2:Nat) ^ (max m n + 1)=2 ^ max m n + 2 ^ max m n:=by rw[Nat.pow_succ]; omega
 rw[e]
 have:=Int.natAbs_add_le i j
 omega
theorem Sz.neg {m:Nat}{i:Int}(hi:Sz m i):Sz m (-i):=by
 unfold Sz at *
 rw[Int.natAbs_neg]; exact hi
theorem Sz.sub {m n:Nat}{i j:Int}(hi:Sz m i)(hj:Sz n j):Sz (max m n + 1) (i - j):=by
 rw[Int.sub_eq_add_neg]; exact hi.add hj.neg
theorem Sz.log {n:Nat}{i:Int}(h:Sz n i)(hi:i≠0)(hn:n≤9000:=by decide):i.natAbs.log2 < 9000:=by
 have:=(Nat.log2_lt (by omega:i.natAbs≠0)).mpr h
 omega
theorem Sz.fd {n:Nat}{i:Int}(h:Sz n i)(hi:0 < i)(hn:n≤9000:=by decide):0 < i∧i.natAbs.log2 < 9000:=⟨hi,h.log (by omega) hn⟩
theorem zbo {a b:Int}(hb:0 < b):0≤a % b∧a % b < b:=⟨Int.emod_nonneg _ (by omega),Int.emod_lt_of_pos _ hb⟩
theorem p40:((10:Int) ^ (40:Int).toNat)=10 ^ 40:=rfl
theorem p41:((10:Int) ^ (41:Int).toNat)=10 ^ 41:=rfl
theorem p20:((10:Int) ^ (20:Int).toNat)=10 ^ 20:=rfl
example (x:Int):-(10 ^ 40)≤x % (2 * 10 ^ 40 + 1) - 10 ^ 40:=by omega
example (x:Int):x % (2 * 10 ^ 40 + 1) - 10 ^ 40≤10 ^ 40:=by omega
example (x:Int) (h:-(10 ^ 40)≤x) (h2:x≤2 * 10 ^ 41):Sz 140 x:=Sz.of (2 * 10 ^ 41) (by omega)
end L3

namespace L3
theorem zoP (a b:Int):Int.gcd b (a % b)=Int.gcd a b:=by
 rw[Int.emod_def,show a - b * (a / b)=a - (a / b) * b by rw[Int.mul_comm],Int.gcd_sub_mul_right_right,Int.gcd_comm]
def zb8 (i:Int):Int:=if i < 0 then -i else i
theorem zn8 (i:Int):0≤zb8 i:=by unfold zb8; split <;> omega
theorem zro (a b:Int):Int.gcd (zb8 a) (zb8 b)=Int.gcd a b:=by
 have h:∀i:Int,(zb8 i).natAbs=i.natAbs:=fun i=>by unfold zb8; split <;> omega
 unfold Int.gcd
 rw[h,h]
theorem zqa {T B d:Int}(hB:B≠0)(hd:d=(if B < 0 then -((Int.gcd T B:Nat):Int) else ((Int.gcd T B:Nat):Int))):
  d≠0∧T.fdiv d * d=T∧B.fdiv d * d=B∧1≤B.fdiv d∧Int.gcd (T.fdiv d) (B.fdiv d)=1∧T.fdiv d * B=T * B.fdiv d:=by
 have g0:0 < Int.gcd T B:=Nat.pos_of_ne_zero fun z=>hB (Int.gcd_eq_zero_iff.mp z).2
 have dT:((Int.gcd T B:Nat):Int) ∣ T:=Int.gcd_dvd_left T B
 have dB:((Int.gcd T B:Nat):Int) ∣ B:=Int.gcd_dvd_right T B
 have hne:d≠0:=by
  rw[hd]; split <;> omega
 have eT:d ∣ T:=by rw[hd]; split <;> first | exact Int.neg_dvd.mpr dT | exact dT
 have eB:d ∣ B:=by rw[hd]; split <;> first | exact Int.neg_dvd.mpr dB | exact dB
 have fT:T.fdiv d=T / d:=Int.fdiv_eq_ediv_of_dvd eT
 have fB:B.fdiv d=B / d:=Int.fdiv_eq_ediv_of_dvd eB
 have mT:T.fdiv d * d=T:=by rw[fT]; exact Int.ediv_mul_cancel eT
 have mB:B.fdiv d * d=B:=by rw[fB]; exact Int.ediv_mul_cancel eB
 have gg:Int.gcd (T.fdiv d) (B.fdiv d)=1:=by
  have z:=Int.gcd_ediv_gcd_ediv_gcd g0
  rw[fT,fB,hd]
  split
  ·rw[Int.ediv_neg,Int.ediv_neg,Int.neg_gcd,Int.gcd_neg]; exact z
  ·exact z
 have pos:1≤B.fdiv d:=by
  by_cases hb:B < 0
  ·have dn:d < 0:=by rw[hd,if_pos hb]; omega
   by_cases q:B.fdiv d≤0
   ·have:=Int.mul_nonneg_of_nonpos_of_nonpos q (Int.le_of_lt dn)
    omega
   ·omega
  ·have dp:0 < d:=by rw[hd,if_neg hb]; omega
   by_cases q:B.fdiv d≤0
   ·have:=Int.mul_nonneg (show 0≤-(B.fdiv d) by omega) (Int.le_of_lt dp)
    rw[Int.neg_mul] at this
    omega
   ·omega
 refine⟨hne,mT,mB,pos,gg,?_⟩
 calc T.fdiv d * B=T.fdiv d * (B.fdiv d * d):=by rw[mB]
  _=T.fdiv d * d * B.fdiv d:=by grind
  _=T * B.fdiv d:=by rw[mT]
theorem zka {T d:Int}(hne:d≠0)(mT:T.fdiv d * d=T):(T.fdiv d).natAbs≤T.natAbs:=by
 have h:(T.fdiv d).natAbs * d.natAbs=T.natAbs:=by rw[← Int.natAbs_mul,mT]
 have hd:1≤d.natAbs:=by omega
 calc (T.fdiv d).natAbs=(T.fdiv d).natAbs * 1:=by omega
  _≤(T.fdiv d).natAbs * d.natAbs:=Nat.mul_le_mul_left _ hd
  _=T.natAbs:=h
theorem zdU (m:Int){g:Int}(hg:0 < g):m / g * g≤m∧m < (m / g + 1) * g:=by
 have h1:=Int.emod_add_mul_ediv m g
 have h2:=Int.emod_nonneg m (show g≠0 by omega)
 have h3:=Int.emod_lt_of_pos m hg
 have e:(m / g + 1) * g=g * (m / g) + g:=by grind
 have e2:m / g * g=g * (m / g):=Int.mul_comm _ _
 omega
theorem zhf (m:Int){g:Int}(hg:0 < g):m≤-(-m / g) * g∧(-(-m / g) - 1) * g < m:=by
 obtain⟨h1,h2⟩:=zdU (-m) hg
 have e1:-(-m / g) * g=-(-m / g * g):=by rw[Int.neg_mul]
 have e2:(-(-m / g) - 1) * g=-((-m / g + 1) * g):=by grind
 omega
end L3

namespace L3
open PySem PySem.Spec PyProof.Rows L2
section
variable {X:Cx}{Z:Zx}
def wIf (C:Int→Int→Bool)(g:Int→Int→D):W2:=fun x y S Q=>match x,y with
 | .int i,.int j=>if C i j=true then Q (g i j) S else False
 | _,_=>False
theorem opIf {f:Value→Value→Sem Value}{C:Int→Int→Prop}{C':Int→Int→Bool}{g:Int→Int→D}(h:OpR X f (upO X.K Z (wI C g)))(hc:∀i j,C' i j=true→C i j):OpR X f (upO X.K Z (wIf C' g)):=
 zgs h fun x y H Qv ⟨r,S,dx,dy,Q,rel,px,py,q,ret⟩=>⟨r,S,dx,dy,Q,rel,px,py,by
  unfold wIf at q
  split at q
  ·obtain⟨h1,h2⟩:=zgo q
   exact⟨hc _ _ h1,h2⟩
  ·exact q.elim,ret⟩
def zeI (_ j:Int):Bool:=decide (0 < j) && decide (j < 1073741824)
abbrev zoL:W2:=wIf zeI fun i j=>.int (i / j)
abbrev wModL:W2:=wIf zeI fun i j=>.int (i % j)
def powB (i j:Int):Bool:=decide (0≤j) && decide (j≤1000) && decide (-1000 < i) && decide (i < 1000)
abbrev wPowL:W2:=wIf powB fun i j=>.int (i ^ j.toNat)
theorem zkh {i j:Int}(h:zeI i j=true):0 < j∧j < 1073741824:=by
 unfold zeI at h
 simpa using h
theorem za4:OpR X (binaryOp .FloorDiv) (upO X.K Z zoL):=opIf zcy fun i j h=>by
 obtain⟨h1,h2⟩:=zkh h
 refine⟨h1,?_⟩
 have:j.natAbs.log2 < 30:=(Nat.log2_lt (by omega)).mpr (by omega)
 omega
theorem zaJ:OpR X (binaryOp .Mod) (upO X.K Z wModL):=opIf zb7 fun i j h=>(zkh h).1
theorem ziZ:OpR X (binaryOp .Pow) (upO X.K Z wPowL):=opIf zpE fun i j h=>by
 unfold powB at h
 simp at h
 refine⟨h.1.1.1,by have:=h.1.1.2; omega,?_⟩
 have h3:=h.1.2
 have h4:=h.2
 have big:(18446744073709551616:Nat)=2 ^ 64:=by decide
 omega
structure Df (K:PySem.W.Frag)(mg:Str→Option Value)(x:Str)(st:Stmt)(ps:List Str) where
 f:Addr
 fd:FuncData
 F:Fun K x x st f fd
 m:mg x=some (.ref f)
 b:zbl K fd ps []
structure Fk (P:Program)(w:World)(K:PySem.W.Frag)(mg:Str→Option Value)(base:Heap)(k:Nat)(x:Str)(ps:List Str)(sd:Sd) where
 f:Addr
 fd:FuncData
 ok:za3 P w K mg base (CXE P w) k f fd ps (upF K sd)
 m:mg x=some (.ref f)
 kp:PySem.W.keepIn K (.ref f)=true
 b:zbl K fd ps []
def Df.mk' {P:Program}{w:World}{K:PySem.W.Frag}{mg:Str→Option Value}{base:Heap}{k:Nat}{x:Str}{st:Stmt}{ps:List Str}{sd:Sd}(d:Df K mg x st ps)(h:za3 P w K mg base (CXE P w) k d.f d.fd ps (upF K sd)):Fk P w K mg base k x ps sd:=
 ⟨d.f,d.fd,h,d.m,d.F.kp,d.b⟩
theorem zl4 {x:Str}{p pos:Pos}{e:Expr}{es:List Expr}{t:TDA}{k:Nat}{ps:List Str}{sd:Sd}{ex:Ev→Addr→Sto→Prop}{W:St→XK}(G:Fk X.prog X.w X.K X.mg X.base k x ps sd)(hr:zaD k X.A)(hx:zci X W)(hg:Gl X x)(ha:PDA X ⟨ex,W⟩ (e::es) t)
  (hdb:(x == ("__debug__":Str))=false:=by decide)(he:starEach (e::es) X.env=(false,eval e X.env)::starEach es X.env:=by rfl)(hpl:(backTo pos (starEach es X.env)).any (·.1)=false:=by rfl):
  PD X ⟨ex,W⟩ (.Call (.Name x p) (e::es) [] pos) (zhE ex sd t):=zqZ G.ok hr hg G.m G.kp G.b hx ha hdb he hpl
theorem zm0 {st:Stmt}:PDS X Z st (fun _ _ _=>False):=zbF zni fun F σ H ⟨_,_,_,_,_,_,h,_⟩=>h
def wApp:W2:=fun x y S Q=>match x with
 | .ref n=>match S[n]? with
  | some (.lst xs)=>if xs.length < 1000 then Q .non (S.set n (.lst (xs++[y]))) else False
  | _=>False
 | _=>False
end
def zeh:Sd:=fun ds S Q _=>∃ns:List Int,ds=[.ref 0]∧S=[.frz (ns.map D.int)]∧ns.length≤63∧∀S',Q (.bl true) S'
theorem zlQ:∀ds S Q ex,zeh ds S Q ex→ds.length=1:=fun ds S Q ex h=>by
 obtain⟨ns,rfl,_⟩:=h
 rfl
theorem zoZ {K:PySem.W.Frag}{H:Hp}{a:Addr}{xs:List V}(hO:zfR H)(h:SqL K H a xs):SqF K H a xs:=by
 rcases h with (h | ⟨o,h⟩) | h
 ·rcases hO a with z | ⟨o,ys,z⟩
  ·rw[h] at z; cases z
  ·rw[h] at z; cases z
 ·exact .inl ⟨o,h⟩
 ·exact .inr h
theorem zmS {r:List Addr}{H:Hp}(ns:List Int):Rps r H (ns.map D.int) (ns.map V.int):=by
 refine⟨by simp,fun i d v h1 h2=>?_⟩
 rw[List.getElem?_map] at h1 h2
 cases q:ns[i]? with
 | none=>rw[q] at h1; cases h1
 | some z=>
  rw[q] at h1 h2
  cases h1
  cases h2
  exact .int z
theorem zoU {K:PySem.W.Frag}{H:Hp}{a:Addr}{ns:List Int}(hl:ns.length≤63)(hO:zfR H)(hS:SqL K H a (ns.map V.int)):upF K zeh [.ref a] H (fun v _=>v=.bl true) fun _ _ _=>False:=by
 refine⟨fun _ _=>False,[a],[.frz (ns.map D.int)],[.ref 0],fun d _=>d=.bl true,⟨⟨rfl,fun n b o h1 h2=>?_,fun n m b xs ys h1 h2 h3 h4 o1 o2=>?_⟩,fun _ _ _ _ _ _ _ _ _ z=>z.elim⟩,Rps.cons (.ref rfl) Rps.nil,⟨ns,rfl,rfl,hl,fun _=>rfl⟩,fun v H' r' d S' e rel p q=>?_⟩
 ·cases n with
  | zero=>
   simp at h1 h2
   subst h1; subst h2
   exact⟨_,zoZ hO hS,zmS ns⟩
  | succ n=>simp at h1
 ·cases n with
  | zero=>
   simp at h3
   subst h3
   cases o1
  | succ n=>simp at h1
 ·subst q
  cases p
  rfl
theorem zn0 {l:PySem.W.OpenLaw}{q:Program}{loose:List Str}{XP:(Str→Option Value)→Heap→Prop}{YP:World→Heap→Prop}{d:DefRec}{K:Params→PySem.W.Frag}{x:Str}(k:Nat)(hn:l.most=some 63)(hdf:d.params.defaults=[])(hr:zaD k callerA)
  (hY:∀(w:World) (h:Heap),YP w h→(K w.params).In h)
  (F:∀(w:World) (mg:Str→Option Value) (fa:Addr) (h:Heap),(K w.params).In h→h.Ns mainGlobals mg→mg d.name=some (.ref fa)→
   ∃fd:FuncData,(∀(s:Shared) (u:Value),BindsTo s fd ⟨[u],[]⟩ [(x,u)])∧∀base:Heap,(K w.params).In base→base.Ns mainGlobals mg→za3 l.prog w (K w.params) mg base (CXE l.prog w) k fa fd [x] (upF (K w.params) zeh)):
  PySem.W.WalkO q loose XP YP l.row.toRowW d [] (fun f vs=>PySem.call f vs):=
 L2.zqC (n:=63) (k:=k) (x:=x) (CX:=fun w=>CXE l.prog w) (sp:=fun w=>upF (K w.params) zeh) hn (by decide) hdf hr hY F (fun _ _ a ns hl hO hS=>zoU hl hO hS) fun _ _ _ _ _ ⟨_,_,_,_,_,_,_,_,_,_,_,_,z⟩=>z
end L3
namespace L3
open PySem PySem.Spec PyProof.Rows L2
theorem zjB (K:PySem.W.Frag)(T:String)(h:T∈["int","bool","tuple","str"]):Kit K T:=by
 intro t ht
 simp only[List.mem_cons,List.not_mem_nil,or_false] at h ht
 rcases h with rfl | rfl | rfl | rfl <;> rcases ht with rfl | rfl | rfl | rfl | rfl <;> kernel_rfl
end L3

namespace L3
open PySem PySem.Spec PyProof.Rows L2
theorem ifF {c:Bool}{A B:Prop}(h:c=false)(b:B):if c=true then A else B:=by rw[h]; exact zby b
theorem ifP {c A B:Prop} [Decidable c] (h:c)(a:A):if c then A else B:=by rw[if_pos h]; exact a
theorem ifD {c:Prop} [Decidable c] {A B:Prop}(h1:c→A)(h2:¬ c→B):if decide c=true then A else B:=by
 by_cases h:c
 ·rw[decide_eq_true h]; exact zbQ (h1 h)
 ·rw[decide_eq_false h]; exact zby (h2 h)
end L3
namespace L3
open PySem L2
end L3
namespace L3
open PySem L2
theorem Sz.pow {n:Nat}{i:Int}(h:Sz n i)(k:Nat):Sz (n * k + 1) (i ^ k):=by
 unfold Sz at *
 rw[Int.natAbs_pow,Nat.pow_succ,Nat.pow_mul]
 have h1:i.natAbs ^ k≤(2 ^ n) ^ k:=Nat.pow_le_pow_left (Nat.le_of_lt h) k
 have h2:0 < (2 ^ n) ^ k:=Nat.pow_pos (Nat.pow_pos (by decide))
 omega
end L3
namespace L3
theorem ifN {c:Prop} [Decidable c] {A B:Prop}(h1:¬ c→A)(h2:c→B):if (!decide c)=true then A else B:=by
 by_cases h:c
 ·rw[decide_eq_true h]; exact L2.zby (h2 h)
 ·rw[decide_eq_false h]; exact L2.zbQ (h1 h)
end L3

namespace L3
open PySem PySem.Spec PyProof.Rows L2
section
variable {X:Cx}{Z:Zx}
end
end L3
namespace L3
open PySem PySem.Spec PyProof.Rows L2
structure RoomN (k:Nat)(A:Around):Prop where
 dp:A.depth + 3 * k + 5 < recursionLimit
 un:A.units + 16 * k + 200 < cLine
structure FnOkN (P:Program)(w:World)(K:PySem.W.Frag)(mg:Str→Option Value)(base:Heap)(k:Nat)(f:Addr)(fd:FuncData)(ps:List Str)(sp:Sp):Prop where
 len:∀vs H Q E,sp vs H Q E→vs.length=ps.length
 run:∀(A:Around) (outer:List Env) (s:Shared) (H:Hp) (args:Args) (us:List Value) (vs:List V) (Q:VK) (E:XK),RoomN k A→zcH P w K mg base A outer s H→BindsTo s fd args (ps.zip us)→zap vs us→sp vs H Q E→
  codeAny (model P w) A (.call (.ref f) args) (CR (CXE P w) outer P w H s Q E) s
section
variable {X:Cx}{k:Nat}{f:Addr}{fd:FuncData}{ps:List Str}{sp:Sp}{W:St→XK}{x:Str}{p pos:Pos}{e:Expr}{es:List Expr}{t:TA}
end
section
variable {X:Cx}{Z:Zx}{x:Str}{p pos:Pos}{e:Expr}{es:List Expr}{t:TDA}
end
section
variable {P:Program}{w:World}{K:PySem.W.Frag}{mg:Str→Option Value}{base:Heap}
end
structure FkN (P:Program)(w:World)(K:PySem.W.Frag)(mg:Str→Option Value)(base:Heap)(k:Nat)(x:Str)(ps:List Str)(sd:Sd) where
 f:Addr
 fd:FuncData
 ok:FnOkN P w K mg base k f fd ps (upF K sd)
 m:mg x=some (.ref f)
 kp:PySem.W.keepIn K (.ref f)=true
 b:zbl K fd ps []
end L3

namespace L3
open PySem PySem.Spec PyProof.Rows L2
section
variable {X:Cx}{Z:Zx}
theorem zi9 {r:List Addr}{H:Hp}{a:Addr}{o:HO}(h:H a=none):Ext r r H (upd H a o):=⟨fun _ _ q=>q,fun _ _ q=>zca h _ _ q,fun _ _ q=>zca h _ _ q⟩
open PySem.W in
end
end L3

namespace L3
open PySem PySem.Spec PyProof.Rows L2
abbrev VE:List Value:=[.type "ValueError",.type "Exception",.type "BaseException",.type "object"]
structure Ec (K:PySem.W.Frag)(mg:Str→Option Value)(x:Str) where
 c:Addr
 xc:Xc K mg x c VE "ValueError.__new__"
end L3

namespace L3
open PySem PySem.Spec PyProof.Rows L2
theorem qt {Q:DK}{S:Sto}{b:Bool}(e:b=true)(h:Q (.bl true) S):Q (.bl b) S:=by rw[e]; exact h
theorem Sz.div {n:Nat}{i j:Int}(h:Sz n i)(hj:1≤j):Sz n (i / j):=by
 refine Nat.lt_of_le_of_lt ?_ h
 obtain⟨h1,h2⟩:=zdU i (show 0 < j by omega)
 by_cases q:0≤i / j
 ·have:=Int.mul_le_mul_of_nonneg_left hj q
  omega
 ·have:=Int.mul_le_mul_of_nonneg_left hj (show 0≤-(i / j + 1) by omega)
  have e:-(i / j + 1) * j=-((i / j + 1) * j):=Int.neg_mul _ _
  omega
end L3

namespace L3
open PySem PySem.Spec PyProof.Rows L2
inductive Sco (n:Nat):D→Prop
 | non:Sco n .non
 | bl (b:Bool):Sco n (.bl b)
 | int (i:Int):Sco n (.int i)
 | str (x:Str):Sco n (.str x)
 | tup {ds:List D}:(∀d∈ds,Sco n d)→Sco n (.tup ds)
 | ref {m:Nat}:m < n→Sco n (.ref m)
 | exc (c:Addr):Sco n (.exc c)
theorem Rp.sco {r:List Addr}{H:Hp}{d:D}{v:V}(h:Rp r H d v):Sco r.length d:=by
 induction h with
 | non=>exact .non
 | bl b=>exact .bl b
 | int i=>exact .int i
 | str x=>exact .str x
 | @tup ds xs a _ l _ ih=>
  refine .tup fun d hd=>?_
  obtain⟨i,hi,e⟩:=List.mem_iff_getElem.mp hd
  exact ih i d xs[i] (by simp[hi,e]) (by simp[l ▸ hi])
 | ref h=>exact .ref (List.getElem?_eq_some_iff.mp h).1
 | exc _=>exact .exc _
theorem Rp.low {r r':List Addr}{H:Hp}{d:D}{v:V}(h:Rp r' H d v)(low:∀m a,m < r.length→r'[m]?=some a→r[m]?=some a)(s:Sco r.length d):Rp r H d v:=by
 induction h with
 | non=>exact .non
 | bl b=>exact .bl b
 | int i=>exact .int i
 | str x=>exact .str x
 | tup e l f ih=>
  cases s with
  | tup s=>exact .tup e l fun i d v h1 h2=>ih i d v h1 h2 (s d (List.mem_of_getElem? h1))
 | ref h=>
  cases s with
  | ref s=>exact .ref (low _ _ s h)
 | exc h=>exact .exc h
def Pre (S S':Sto):Prop:=∀(n:Nat) (o:Ob),S[n]?=some o→S'[n]?=some o
theorem Pre.refl {S:Sto}:Pre S S:=fun _ _ h=>h
theorem Pre.push {S S':Sto}{o:Ob}(h:Pre S S'):Pre S (S'++[o]):=fun n u e=>by
 have z:=h n u e
 rw[List.getElem?_append_left (List.getElem?_eq_some_iff.mp z).1]; exact z
theorem Pre.trans {S S' S2:Sto}(h:Pre S S')(k:Pre S' S2):Pre S S2:=fun n o e=>k n o (h n o e)
theorem zk2 {r r':List Addr}{H H':Hp}(e:Ext r r' H H'):∀m a,m < r.length→r'[m]?=some a→r[m]?=some a:=fun m a hm h=>by
 have z:r[m]?=some r[m]:=by simp[hm]
 rw[e.adr _ _ z] at h
 rw[z]; exact h
theorem zaH.low {K:PySem.W.Frag}{r r':List Addr}{S S':Sto}{H H':Hp}(h:zaH K r S H)(e:Ext r r' H H')(h':zaH K r' S' H')(p:Pre S S'):zaH K r S H':=by
 have rl:∀ {ds:List D} {xs ys:List V},Rps r H ds xs→Rps r' H' ds ys→Rps r H' ds ys:=fun {ds xs ys} a b=>⟨b.1,fun i d v h1 h2=>by
  obtain⟨v0,_,q⟩:=a.get h1
  exact(b.2 i d v h1 h2).low (zk2 e) q.sco⟩
 refine⟨h.len,fun n a o h1 h2=>?_,fun n m a xs ys h1 h2 h3 h4 o1 o2=>h'.nd n m a xs ys (e.adr _ _ h1) (e.adr _ _ h2) (p _ _ h3) (p _ _ h4) o1 o2⟩
 have q:=h.ob n a o h1 h2
 have q':=h'.ob n a o (e.adr _ _ h1) (p _ _ h2)
 cases o with
 | lst ds=>
  obtain⟨xs,_,a1⟩:=q
  obtain⟨ys,b0,b1⟩:=q'
  exact⟨ys,b0,rl a1 b1⟩
 | frz ds=>
  obtain⟨xs,_,a1⟩:=q
  obtain⟨ys,b0,b1⟩:=q'
  exact⟨ys,b0,rl a1 b1⟩
 | ins C fs=>
  obtain⟨_,_,_,a1⟩:=q
  obtain⟨dx,fs',b0,b1⟩:=q'
  exact⟨dx,fs',b0,b1.1,rl a1.2 b1.2⟩
 | dct kvs=>
  obtain⟨_,_,a1⟩:=q
  obtain⟨ks,b0,b1⟩:=q'
  exact⟨ks,b0,b1.1,rl a1.2 b1.2⟩
def Gc (S:Sto)(Q:DK):DK:=fun d S'=>Pre S S'∧Sco S.length d∧Q d S
def GcX (S:Sto)(ex:Addr→Sto→Prop):Addr→Sto→Prop:=fun c S'=>Pre S S'∧ex c S
theorem Ret.gc {K:PySem.W.Frag}{Z Z':Zx}{r:List Addr}{S:Sto}{H:Hp}{Q:DK}{Qv:VK}(h:Ret K Z r H Q Qv)(rel:Rel K Z r S H):Ret K Z' r H (Gc S Q) Qv:=fun v H' r' d S' e rel' p q=>by
 obtain⟨pre,sc,q⟩:=q
 have e':Ext r r H H':=⟨fun _ _ z=>z,e.tup,e.xc⟩
 rw[← rel.len] at sc
 exact h v H' r d S e' ⟨rel.b.low e rel'.b pre,rel.xw.ext e'⟩ (p.low (zk2 e) sc) q
theorem zc9.gc {K:PySem.W.Frag}{ex:Addr→Sto→Prop}{E:XK}{r:List Addr}{S:Sto}{H:Hp}(rel:Rel K (Zc ex E) r S H):zc9 K (Zc (GcX S ex) E) r H:=fun dl σ c H' r' S' e _ rb q=>by
 obtain⟨pre,q⟩:=q
 have e':Ext r r H H':=⟨fun _ _ z=>z,e.tup,e.xc⟩
 exact rel.xw [] [] c H' r S e' ⟨rfl,fun i d z=>by simp at z⟩ (rel.b.low e rb pre) q
section
variable {P:Program}{w:World}{K:PySem.W.Frag}{mg:Str→Option Value}{base:Heap}
def gcS (sd:Sd):Sd:=fun ds S Q ex=>∃Q0 ex0,Q=Gc S Q0∧ex=GcX S ex0∧sd ds S Q0 ex0
theorem zgI {CX:CXT}{k:Nat}{f:Addr}{fd:FuncData}{ps:List Str}{sd:Sd}(h:za3 P w K mg base CX k f fd ps (upF K (gcS sd))):za3 P w K mg base CX k f fd ps (upF K sd):=by
 have imp:∀vs H Q E,upF K sd vs H Q E→upF K (gcS sd) vs H Q E:=fun vs H Qv E ⟨ex,r,S,ds,Q,rel,p,q,ret⟩=>
  ⟨GcX S ex,r,S,ds,Gc S Q,⟨rel.b,zc9.gc rel⟩,p,⟨Q,ex,rfl,rfl,q⟩,ret.gc rel⟩
 obtain⟨h1,h2⟩:=h
 exact⟨fun vs H Q E q=>h1 vs H Q E (imp vs H Q E q),fun A outer s H args us vs Q E hr e0 hb rv q=>h2 A outer s H args us vs Q E hr e0 hb rv (imp vs H Q E q)⟩
end
theorem zg9 {sd:Sd}{n:Nat}(len:∀ds S Q ex,sd ds S Q ex→ds.length=n):∀ds S Q ex,gcS sd ds S Q ex→ds.length=n:=fun ds S Q ex h=>by
 obtain⟨Q0,ex0,_,_,h⟩:=h
 exact len _ _ _ _ h
end L3

namespace L3
open PySem PySem.Spec PyProof.Rows L2
structure zcI (sc around:Scope)(x:Str)(caps:List Str):Prop where
 kind:sc.kind=.function
 nocell:∀y∈sc.names,y.2≠.cell
 own:∀y∈sc.names,y.2=.local→sc.names.lookup y.1=some .local
 loc:sc.names.lookup x=some .local
 cap:∀y∈caps,sc.names.lookup y=some .free
 out:∀y∈sc.names,y.2=.free→around.names.lookup y.1=some .cell
theorem zgf {α:Type}{y:Str}{v:α}:∀ {l:List (Str×α)},l.lookup y=some v→(y,v)∈l
 | [],h=>by simp at h
 | (n,k)::r,h=>by
  cases e:y == n with
  | true=>
   rw[List.lookup_cons,e] at h
   have z:k=v:=Option.some.inj h
   have z2:y=n:=by simpa using e
   rw[z,z2]; exact List.mem_cons_self
  | false=>
   rw[List.lookup_cons,e] at h
   exact List.mem_cons_of_mem _ (zgf h)
theorem ziX {env:Env}:∀(l:List (Str×NameKind)) (acc:List (Str×Addr)),(∀y∈l,y.2=.free→∃c,env.cells.lookup y.1=some c)→(∀x c,acc.lookup x=some c→env.cells.lookup x=some c)→
  ∃cl,(forIn l acc fun x r=>(if (x.2 == NameKind.free)=true then do let a ← cellOf env x.1; pure (ForInStep.yield ((x.1,a)::r)) else pure (ForInStep.yield r):Sem (ForInStep (List (Str×Addr)))))=pure cl∧
   (∀x c,cl.lookup x=some c→env.cells.lookup x=some c)∧(∀y∈l,y.2=.free→cl.lookup y.1=env.cells.lookup y.1)∧∀x c,acc.lookup x=some c→∃c',cl.lookup x=some c'
 | [],acc,_,ha=>⟨acc,by simp,ha,fun y hy=>(by cases hy),fun x c e=>⟨c,e⟩⟩
 | (n,k)::r,acc,h,ha=>by
  cases hk:(k == NameKind.free) with
  | false=>
   obtain⟨cl,h1,h2,h3,h4⟩:=ziX r acc (fun y hy=>h y (List.mem_cons_of_mem _ hy)) ha
   refine⟨cl,?_,h2,fun y hy hf=>?_,h4⟩
   ·rw[List.forIn_cons]; simp[hk]; simpa using h1
   ·have hy':=List.mem_cons.mp hy
    rcases hy' with rfl | hy
    ·rw[show k=NameKind.free from hf] at hk; exact absurd hk (by decide)
    ·exact h3 y hy hf
  | true=>
   have hf:k=NameKind.free:=by simpa using hk
   obtain⟨c,hc⟩:=h (n,k) List.mem_cons_self hf
   obtain⟨cl,h1,h2,h3,h4⟩:=ziX r ((n,c)::acc) (fun y hy=>h y (List.mem_cons_of_mem _ hy)) (fun x c' e=>by
    cases q:x == n with
    | true=>
     rw[List.lookup_cons,q] at e
     have z:x=n:=by simpa using q
     rw[z,hc]; exact e
    | false=>
     rw[List.lookup_cons,q] at e
     exact ha x c' e)
   refine⟨cl,?_,h2,fun y hy hf=>?_,fun x c' e=>?_⟩
   ·have ec:cellOf env n=pure c:=by unfold cellOf; rw[hc]
    rw[List.forIn_cons]; simp[hk,ec]; simpa using h1
   ·have hy':=List.mem_cons.mp hy
    rcases hy' with rfl | hy
    ·obtain⟨c',e⟩:=h4 n c (by simp)
     rw[e]; exact(h2 _ _ e).symm
    ·exact h3 y hy hf
   ·refine h4 x (if x == n then c else c') ?_
    cases q:x == n with
    | true=>simp[List.lookup_cons,q]
    | false=>simp[List.lookup_cons,q,e]
theorem zjJ {sc:Scope}{env:Env}(h:∀y∈sc.names,y.2=.free→∃c,env.cells.lookup y.1=some c):
  ∃cl,closureFor sc env=pure cl∧(∀x c,cl.lookup x=some c→env.cells.lookup x=some c)∧∀y∈sc.names,y.2=.free→cl.lookup y.1=env.cells.lookup y.1:=by
 obtain⟨cl,h1,h2,h3,_⟩:=ziX sc.names [] h (fun x c e=>by simp at e)
 refine⟨cl,?_,h2,h3⟩
 unfold closureFor
 simp only[bind_pure]
 exact h1
theorem ziA {env:Env}:∀ {names:List (Str×NameKind)} {x:Str},names.lookup x=some .free→
  (names.map fun (n,k)=>if (k == NameKind.free && env.scope.kind == .function && env.kindOf n == some .cell) then (n,NameKind.cell) else (n,k)).lookup x=some .cell∨
  (names.map fun (n,k)=>if (k == NameKind.free && env.scope.kind == .function && env.kindOf n == some .cell) then (n,NameKind.cell) else (n,k)).lookup x=some .free
 | [],_,h=>by simp at h
 | (n,k)::r,x,h=>by
  have ih:=@ziA env r x
  rw[List.map_cons]
  cases hx:x == n with
  | true=>
   rw[List.lookup_cons,hx] at h
   have hk:k=.free:=Option.some.inj h
   subst hk
   dsimp only
   split
   ·left; simp[List.lookup_cons,hx]
   ·right; simp[List.lookup_cons,hx]
  | false=>
   rw[List.lookup_cons,hx] at h
   dsimp only
   split
   ·simp only[List.lookup_cons,hx]; exact ih h
   ·simp only[List.lookup_cons,hx]; exact ih h
theorem zi8 {env:Env}:∀ {names:List (Str×NameKind)} {x:Str},(∀y∈names,y.2≠.cell)→
  ((names.map fun (n,k)=>if (k == NameKind.free && env.scope.kind == .function && env.kindOf n == some .cell) then (n,NameKind.cell) else (n,k)).lookup x=some .cell∨
  (names.map fun (n,k)=>if (k == NameKind.free && env.scope.kind == .function && env.kindOf n == some .cell) then (n,NameKind.cell) else (n,k)).lookup x=some .free)→names.lookup x=some .free
 | [],_,_,h=>by simp at h
 | (n,k)::r,x,hc,h=>by
  have ih:=@zi8 env r x fun y hy=>hc y (List.mem_cons_of_mem _ hy)
  rw[List.map_cons] at h
  cases hx:x == n with
  | true=>
   rw[List.lookup_cons,hx]
   dsimp only at h
   split at h
   ·rename_i q
    simp only[Bool.and_eq_true] at q
    have hk:k=.free:=by simpa using q.1.1
    rw[hk]
   ·simp only[List.lookup_cons,hx] at h
    rcases h with h | h
    ·exact absurd (Option.some.inj h) (hc (n,k) List.mem_cons_self)
    ·exact h
  | false=>
   rw[List.lookup_cons,hx]
   dsimp only at h
   split at h
   ·simp only[List.lookup_cons,hx] at h; exact ih h
   ·simp only[List.lookup_cons,hx] at h; exact ih h
abbrev Cx.comp (X:Cx)(sc:Scope)(N:List Str)(cl:List (Str×Addr))(C:Addr)(s0:Shared)(H0:Hp)(fp:List Addr)(pn:List (Addr×Obj)):Cx:=
 { X with N:=N,env:=compEnvC sc cl C X.env,s₀:=s0,H₀:=H0,outer:=X.stack,stack:=X.stack,ex:=fp,fn:=fun _=>false,pn:=pn,xe:=fun _ _=>False }
def zaY (caps:List Nat)(σ:St):St:=caps.map fun j=>(σ[j]?).join
def zbn (caps:List Nat)(dl:Ev):Ev:=caps.map fun j=>(dl[j]?).join
def zeC (caps:List Nat)(wi:TI)(tc:TT)(te:TE):TE:=fun σ H Q=>wi σ H fun J H1=>∀D,H1 D=none→∃W:Nat→Nat→Hp→Prop,(∃m,W 0 m (upd H1 D (.lst [])))∧∀i m H,W i m H→
 (J.stop i H∧Q (.ref D) H)∨(J.go i H∧∀x H',J.yld i H x H'→tc (some x::zaY caps σ) H' fun b H2=>if b=true then te (some x::zaY caps σ) H2 fun y H3=>∃ys,H3 D=some (.lst ys)∧ys.length < sizeLine∧∃m',m' < m∧W (i + 1) m' (upd H3 D (.lst (ys++[y])))
  else ∃m',m' < m∧W (i + 1) m' H2)
def PTs (Y:Cx)(ifs:List Expr)(tc:TT):Prop:=∀(pins:List (Addr×Obj)) (s:Shared) (σ:St) (H:Hp) (Q:Bool→Hp→Prop),Inv Y pins σ H s→tc σ H Q→
 wpAny (model Y.prog Y.w) Y.A (forIn ifs true fun c r=>if r=true then do let ok ← isTrue c Y.env (eval c Y.env); pure (ForInStep.yield ok) else pure (ForInStep.yield r)) (TP Y pins σ Q) Y.xe s
theorem zpD {Y:Cx}:PTs Y [] (fun _ H Q=>Q true H):=fun _ _ _ H _ I h=>wpAny_tests_nil ⟨H,I,h⟩
theorem zm5 {Y:Cx}{c:Expr}{tc:TT}(h:PT Y c tc):PTs Y [c] tc:=fun pins s σ H Q I q=>wpAny_tests_one (h pins s σ H Q I q)
section
variable {X:Cx}{pins:List (Addr×Obj)}{σ:St}{H:Hp}{s:Shared}
theorem zns {sc:Scope}{x:Str}{N:List Str}{caps:List Nat}{cl:List (Str×Addr)}{fp:List Addr}{h1:Heap}{m:Str→Option Value}{tk:Nat}(I:Inv X pins σ H s)(cs:zcI sc X.env.scope x N)
  (hN:∀(j:Nat) (y:Str),N[j]?=some y→∃i,caps[j]?=some i∧X.N[i]?=some y)(hlen:caps.length=N.length)
  (c1:∀x c,cl.lookup x=some c→X.env.cells.lookup x=some c)(c2:∀y∈sc.names,y.2=.free→cl.lookup y.1=X.env.cells.lookup y.1)
  (hf:∀b∈fp,zbm X pins H b)(hfo:∀b∈fp,b < s.heap.objs.size)(hns:h1.Ns s.heap.objs.size m)(hk:∀b o,s.heap.get? b=some o→h1.get? b=some o):
  Inv (Cx.comp X sc (x::N) cl s.heap.objs.size s H fp (X.pn++pins)) [] (none::zaY caps σ) H { s with heap:=h1,toks:=tk }:=by
 have stk:∀b∈frs X.stack,b=X.env.locals∨b∈X.fs:=fun b hb=>List.mem_cons.mp (I.stkSub b hb)
 refine⟨⟨I.ok.mod,cs.kind,I.ok.glob,I.ok.blt,Nat.le_refl _,fun a b c h1 h2=>I.ok.inj a b c (c1 _ _ h1) (c1 _ _ h2),fun y hy=>?_,fun _ _ z=>Bool.noConfusion z,I.ok.hd,I.ok.frames,.inl rfl,fun b hb=>⟨Nat.ne_of_lt (hfo b hb),fun y c e=>(hf b hb).2.2.2.2.1 y c (c1 _ _ e)⟩,
  I.bs,Nat.le_trans I.ok.bsz I.sz,fun b o e hb=>?_,fun b hb z=>?_,I.stack,I.stkFree⟩,rfl,I.bare,Un.kept hk,⟨m,hns,fun i y v e1 e2 e3=>?_⟩,fun y c e=>?_,I.hok.fresh (Nat.le_refl _),fun y c e=>I.freeC y c (c1 _ _ e),fun p hp=>?_,I.hok.kept hk,?_⟩
 ·have hfr:sc.names.lookup y=some .free:=zi8 cs.nocell hy
  have hm:=zgf hfr
  obtain⟨c,e⟩:=I.ok.has y (.inl (cs.out _ hm rfl))
  exact⟨c,(c2 _ hm rfl).trans e⟩
 ·rcases (hf b hb).2.2.2.1 with z | z
  ·exact I.ok.noex b o e z
  ·exact absurd (Nat.lt_of_lt_of_le (Heap.lt_size (I.ok.bs b o e).1) z) (Nat.lt_irrefl _)
 ·rcases stk b z with z | z
  ·exact(hf b hb).2.1 z
  ·exact(hf b hb).2.2.1 z
 ·cases i with
  | zero=>simp at e2
  | succ i=>
   have e1':N[i]?=some y:=by simpa using e1
   obtain⟨j,hj,hy⟩:=hN i y e1'
   have e2':σ[j]?=some (some v):=by
    simp only[List.getElem?_cons_succ,zaY,List.getElem?_map,hj,Option.map_some,Option.some.injEq] at e2
    cases q:σ[j]? with
    | none=>rw[q] at e2; cases e2
    | some o=>rw[q] at e2; simp at e2; rw[e2]
   have hfr:sc.names.lookup y=some .free:=cs.cap y (List.mem_of_getElem? e1')
   have hm:=zgf hfr
   have hce:X.env.scope.names.lookup y=some .cell:=cs.out _ hm rfl
   obtain⟨m0,_,hl⟩:=I.loc
   obtain⟨u,r,l⟩:=hl j y v hy e2' (.inr (.inl hce))
   refine⟨u,r,.inr ⟨ziA hfr,?_⟩⟩
   rcases l with ⟨k,_⟩ | ⟨_,c,ec,hcell⟩
   ·rw[show X.env.kindOf y=some .cell from hce] at k; cases k
   ·exact⟨c,(c2 _ hm rfl).trans ec,hcell.keeps hk⟩
 ·obtain⟨v,z⟩:=I.cell y c (c1 _ _ e)
  exact⟨v,z.keeps hk⟩
 ·have hp':p∈X.pn++pins:=by simpa using hp
  obtain⟨p1,p2,p3,p4,p5⟩:=I.pin p hp'
  refine⟨hk _ _ p1,p2,Nat.ne_of_lt (Heap.lt_size p1),fun z=>?_,p5⟩
  rcases stk _ z with z | z
  ·exact p3 z
  ·exact p4 z
 ·simp[zaY,hlen]
end
section
variable {X:Cx}{elt iter:Expr}{x:Str}{px pos:Pos}{ifs:List Expr}{sc:Scope}{N:List Str}{caps:List Nat}{wi:TI}{tc:TT}{te:TE}
structure zk9 (X:Cx)(pins:List (Addr×Obj))(σ:St)(C:Addr)(Q:VK)(D:Addr)(s':Shared):Prop where
 q:∃H',Inv X pins σ H' s'∧Q (.ref D) H'∧H' C=none
 ns:∃m,s'.heap.Ns C m
 loc:C≠X.env.locals
 old:X.s₀.heap.objs.size≤C
 cell:∀x c,X.env.cells.lookup x=some c→c≠C
 pin:∀p∈X.pn++pins,p.1≠C
theorem zkF {use:Option (Value→Sem Unit)}{Qr:Value→Shared→Prop}(hc:X.calm=true)(cs:zcI sc X.env.scope x N)(hN:∀(j:Nat) (y:Str),N[j]?=some y→∃i,caps[j]?=some i∧X.N[i]?=some y)(hlen:caps.length=N.length)(hnd:(x::N).Nodup)
  (hi:PI X (.Name x px) iter wi)(ht:∀cl C s0 H0 fp pn,PTs (Cx.comp X sc (x::N) cl C s0 H0 fp pn) ifs tc)(he:∀cl C s0 H0 fp pn,PE (Cx.comp X sc (x::N) cl C s0 H0 fp pn) elt te)
  (hs:∀y,foldedSetIterable iter X.env y=pure y)
  {pins:List (Addr×Obj)}{s:Shared}{σ:St}{H:Hp}{Q:VK}{p2:Pos}(I:Inv X pins σ H s)(h:zeC caps wi tc te σ H Q)
  (fin:∀D C s',zk9 X pins σ C Q D s'→compPost (model X.prog X.w) X.A X.xe use Qr (.ref D) C (.ok .next) s'):
  wpAny (model X.prog X.w) X.A (comprehension (.ListComp elt [⟨.Name x px,iter,ifs,0⟩] sc pos) sc X.env p2 (newList []) false (eval iter X.env) use) Qr X.xe s:=by
 obtain⟨cl,k1,k2,k3⟩:=zjJ (sc:=sc) (env:=X.env) fun y hy hf=>I.ok.has y.1 (.inl (cs.out y hy hf))
 refine wpAny_comprehension_free rfl hs k1 cs.kind cs.own (thn (hi pins s σ H _ I h) fun v s1 h1=>thn h1 fun itv s2 h2=>?_)
 obtain⟨it,fp,tn,J,H2,e,I2,T,st2,f2,body⟩:=h2
 subst e
 have hfo:∀b∈fp,b < s2.heap.objs.size:=fun b hb=>by
  obtain⟨o,e,_⟩:=T.obj _ _ st2 b hb
  exact Heap.lt_size e
 have hD:H2 s2.heap.objs.size=none:=I2.hok.fresh (Nat.le_refl _)
 obtain⟨W,⟨m0,w0⟩,turn⟩:=body _ hD
 refine wpAny_newObj_type ?_
 have I3:Inv X pins σ (upd H2 s2.heap.objs.size (.lst [])) { s2 with heap:=s2.heap.push { cls:=.type "list",dict:=none,data:=.seq ([]:List Value).toArray },toks:=s2.toks }:=
  I2.laid (t':=s2.toks) (fun b u e=>Heap.get?_push_of_some _ e) (Nat.le_refl _) ⟨Nat.zero_le _,[],0,.nil,Heap.get?_push_size _ rfl⟩
 generalize hs3:({ s2 with heap:=s2.heap.push { cls:=.type "list",dict:=none,data:=.seq ([]:List Value).toArray },toks:=s2.toks }:Shared)=s3 at I3
 have es3:({ s2 with heap:=s2.heap.push { cls:=.type "list",dict:=none,data:=.seq ([]:List Value).toArray } }:Shared)=s3:=hs3
 try rw[es3]
 have f3:∀b∈fp,zbm X pins (upd H2 s2.heap.objs.size (.lst [])) b:=fun b hb=>⟨by rw[zaR (Nat.ne_of_lt (hfo b hb))]; exact(f2 b hb).1,(f2 b hb).2⟩
 have up3:∀b o,s2.heap.get? b=some o→s3.heap.get? b=some o:=fun b o e=>by rw[← hs3]; exact Heap.get?_push_of_some _ e
 have st3:tn 0 s3.heap:=T.keep _ _ _ st2 fun b _ o e=>up3 b o e
 have hfo3:∀b∈fp,b < s3.heap.objs.size:=fun b hb=>by
  obtain⟨o,e,_⟩:=T.obj _ _ st3 b hb
  exact Heap.lt_size e
 refine wpAny_newFunctionEnv cs.nocell (fun y hy=>by simp at hy) (fun h4 ns4 sb4=>?_) cs.kind
 have hk4:∀b o,s3.heap.get? b=some o→h4.get? b=some o:=fun b o e=>(sb4.2 b (Nat.ne_of_lt (Heap.lt_size e))).trans (Heap.get?_push_of_some _ e)
 have I4:=zns (tk:=s3.toks + ([]:List (Str×Value)).length) I3 cs hN hlen k2 k3 f3 hfo3 ns4 hk4
 generalize hs4:({ s3 with heap:=h4,toks:=s3.toks + ([]:List (Str×Value)).length }:Shared)=s4 at I4 ⊢
 have eh4:s4.heap=h4:=by rw[← hs4]
 have st4:tn 0 s4.heap:=by rw[eh4]; exact T.keep _ _ _ st3 fun b _ o e=>hk4 b o e
 have fY:∀ {H':Hp},(∀b∈fp,H' b=none)→∀b∈fp,zbm (Cx.comp X sc (x::N) cl s3.heap.objs.size s3 (upd H2 s2.heap.objs.size (.lst [])) fp (X.pn++pins)) [] H' b:=fun hn b hb=>by
  obtain⟨_,z2,z3,z4,z5,z6⟩:=f3 b hb
  refine⟨hn b hb,Nat.ne_of_lt (hfo3 b hb),fun z=>?_,.inl hb,fun y c e=>z5 y c (k2 _ _ e),fun p hp=>z6 p (by simpa using hp)⟩
  rcases List.mem_cons.mp (I3.stkSub b z) with z | z
  ·exact z2 z
  ·exact z3 z
 have locY:(Cx.comp X sc (x::N) cl s3.heap.objs.size s3 (upd H2 s2.heap.objs.size (.lst [])) fp (X.pn++pins)).env.scope.names.lookup x=some .local:=lookup_relabel_local cs.loc
 have loop:codeAny (model X.prog X.w) X.A (.compLoop (.ListComp elt [⟨.Name x px,iter,ifs,0⟩] sc pos) 0 (.ref it) (.ref s2.heap.objs.size) (compEnvC sc cl s3.heap.objs.size X.env))
   (compPost (model X.prog X.w) X.A X.xe use Qr (.ref s2.heap.objs.size) s3.heap.objs.size) s4:=by
  refine codeAny_compLoop_tests (fun n s'=>∃i o H',Inv (Cx.comp X sc (x::N) cl s3.heap.objs.size s3 (upd H2 s2.heap.objs.size (.lst [])) fp (X.pn++pins)) [] (o::zaY caps σ) H' s'∧tn i s'.heap∧(∀b∈fp,H' b=none)∧W i n H') ?_ m0
   ⟨0,none,_,I4,st4,fun b hb=>(f3 b hb).1,w0⟩
  rintro n s5 ⟨i,o,H5,I5,st5,fr5,w5⟩
  rcases turn i n H5 w5 with ⟨stop,q⟩ | ⟨go,step⟩
  ·refine thn (T.done (Cx.comp X sc (x::N) cl s3.heap.objs.size s3 (upd H2 s2.heap.objs.size (.lst [])) fp (X.pn++pins)) rfl rfl rfl hc i [] s5 _ H5 _ I5 (fY fr5) st5 stop) fun r s6 ⟨hr,I6⟩=>?_
   subst hr
   refine fin _ _ _ ⟨⟨H5,I3.call' I6.os I6.base I6.hok I6.bare (fun b hb=>?_),q,I6.free⟩,?_,Nat.ne_of_gt I3.lt,I3.sz,fun y c e z=>?_,fun p hp z=>?_⟩
   ·obtain⟨_,z2,z3,z4,z5,z6⟩:=f3 b hb
    exact⟨z4,z2,z5,z6⟩
   ·obtain⟨m,hm,_⟩:=I6.loc
    exact⟨m,hm⟩
   ·obtain⟨v,hv⟩:=I3.cell y c e
    exact absurd (z ▸ hv.lt) (Nat.lt_irrefl _)
   ·exact absurd (z ▸ Heap.lt_size (I3.pin p hp).1) (Nat.lt_irrefl _)
  ·refine thn (T.item (Cx.comp X sc (x::N) cl s3.heap.objs.size s3 (upd H2 s2.heap.objs.size (.lst [])) fp (X.pn++pins)) rfl rfl rfl hc i [] s5 _ H5 _ I5 (fY fr5) st5 go) fun r s6 ⟨u,hr,h6⟩=>?_
   subst hr
   show wpAny _ _ (letOwnedTupleGo (.Name x px) (.ref it) u >>= fun _=>assign (.Name x px) (compEnvC sc cl s3.heap.objs.size X.env) u) _ _ s6
   refine wpAny_bind (thn h6 fun _ s7 ⟨y,H7,I7,r7,y7,st7,fr7⟩=>?_)
   have I7':=I7.pinned (fY fr7) (T.obj _ _ st7)
   refine wpAny_mono (zhI (X:=Cx.comp X sc (x::N) cl s3.heap.objs.size s3 (upd H2 s2.heap.objs.size (.lst [])) fp (X.pn++pins)) (pos:=px) hnd (i:=0) rfl (.inl locY) (.inr locY) _ s7 _ H7 y u (fun σ8 H8=>σ8=some y::zaY caps σ∧H8=H7) I7' r7 ⟨rfl,rfl⟩) (fun _ s8 ⟨σ8,H8,I8,e8,e8'⟩=>?_) fun _ _ z=>z.elim
   subst e8
   subst e8'
   have stay:∀ {H':Hp} {s':Shared},Inv (Cx.comp X sc (x::N) cl s3.heap.objs.size s3 (upd H2 s2.heap.objs.size (.lst [])) fp (X.pn++pins)) ([]++zdt fp s7.heap) (some y::zaY caps σ) H' s'→∀m',m' < n→W (i + 1) m' H'→
     ∃m,m < n∧∃i o H',Inv (Cx.comp X sc (x::N) cl s3.heap.objs.size s3 (upd H2 s2.heap.objs.size (.lst [])) fp (X.pn++pins)) [] (o::zaY caps σ) H' s'∧tn i s'.heap∧(∀b∈fp,H' b=none)∧W i m H':=fun {H' s'} J m' hm w'=>by
    refine⟨m',hm,i + 1,some y,H',J.unpinned,T.keep _ _ _ st7 fun b hb o e=>(J.pin (b,o) (List.mem_append_right _ (List.mem_append_right _ (zdm hb e)))).1,fun b hb=>?_,w'⟩
    obtain⟨o,e,d⟩:=T.obj _ _ st7 b hb
    exact(J.pin (b,o) (List.mem_append_right _ (List.mem_append_right _ (zdm hb e)))).2.1
   refine wpAny_mono (ht _ _ _ _ _ _ _ s8 _ H8 _ I8 (step y H8 y7)) (fun b s9 ⟨H9,I9,q9⟩=>?_) fun _ _ z=>z.elim
   cases b with
   | false=>
    rw[if_neg Bool.false_ne_true] at q9 ⊢
    obtain⟨m',hm,w9⟩:=q9
    exact stay I9 m' hm w9
   | true=>
    rw[if_pos rfl] at q9 ⊢
    refine wpAny_mono (he _ _ _ _ _ _ _ s9 _ H9 _ I9 q9) (fun u2 s10 ⟨z,H10,I10,r10,q10⟩=>?_) fun _ _ z=>z.elim
    obtain⟨ys,hD10,hlt,m',hm,w10⟩:=q10
    refine wpAny_mono (zis (X:=(Cx.comp X sc (x::N) cl s3.heap.objs.size s3 (upd H2 s2.heap.objs.size (.lst [])) fp (X.pn++pins))) _ s10 _ H10 (.ref s2.heap.objs.size) [z] (.ref s2.heap.objs.size) [u2] (fun _ H'=>H'=upd H10 s2.heap.objs.size (.lst (ys++[z]))) I10 rfl (.cons r10 .nil) ⟨_,ys,z,rfl,rfl,hD10,hlt,rfl⟩) (fun _ s11 ⟨_,H11,I11,_,e11⟩=>?_) fun _ _ z=>z.elim
    subst e11
    exact stay I11 m' hm w10
 exact codeAny_compStart_list loop (T.self _ 0 s4 _ _ st4 loop)
theorem zcq {X:Cx}{caps:List Nat}{N:List Str}(h:caps.map (fun i=>X.N[i]?)=N.map some):(∀(j:Nat) (y:Str),N[j]?=some y→∃i,caps[j]?=some i∧X.N[i]?=some y)∧caps.length=N.length:=by
 refine⟨fun j y e=>?_,by simpa using congrArg List.length h⟩
 have z:(caps.map (fun i=>X.N[i]?))[j]?=some (some y):=by rw[h,List.getElem?_map,e]; rfl
 rw[List.getElem?_map] at z
 cases q:caps[j]? with
 | none=>rw[q] at z; cases z
 | some i=>rw[q] at z; exact⟨i,rfl,by simpa using z⟩
theorem zk0 (hc:X.calm=true)(cs:zcI sc X.env.scope x N)(hN:caps.map (fun i=>X.N[i]?)=N.map some)(hnd:(x::N).Nodup)
  (hi:PI X (.Name x px) iter wi)(ht:∀cl C s0 H0 fp pn,PTs (Cx.comp X sc (x::N) cl C s0 H0 fp pn) ifs tc)(he:∀cl C s0 H0 fp pn,PE (Cx.comp X sc (x::N) cl C s0 H0 fp pn) elt te)
  (hs:∀y,foldedSetIterable iter X.env y=pure y:=by intro _; rfl):PE X (.ListComp elt [⟨.Name x px,iter,ifs,0⟩] sc pos) (zeC caps wi tc te):=by
 intro pins s σ H Q I h
 rw[eval_ListComp]
 refine zkF (use:=none) hc cs (zcq hN).1 (zcq hN).2 hnd hi ht he hs I h fun D C s' f=>?_
 obtain⟨⟨H',I',q,hC⟩,⟨m,ns⟩,l,o,c,p⟩:=f
 exact⟨m,ns,fun h' sb=>⟨.ref D,H',I'.turned (t':=s'.toks) (fun b ob hb e=>(sb.2 b hb).trans e) hC l (.inr o) c p,rfl,q⟩⟩
theorem zlf {i:Nat}{y:Str}{py spos:Pos}(hc:X.calm=true)(cs:zcI sc X.env.scope x N)(hN:caps.map (fun i=>X.N[i]?)=N.map some)(hnd:(x::N).Nodup)
  (hi:PI X (.Name x px) iter wi)(ht:∀cl C s0 H0 fp pn,PTs (Cx.comp X sc (x::N) cl C s0 H0 fp pn) ifs tc)(he:∀cl C s0 H0 fp pn,PE (Cx.comp X sc (x::N) cl C s0 H0 fp pn) elt te)
  (hNd:X.N.Nodup)(hy:X.N[i]?=some y)(hl:X.env.scope.names.lookup y=some .local)
  (hsw:swapsWith (.ListComp elt [⟨.Name x px,iter,ifs,0⟩] sc pos) (some (.Name y py)) spos.line X.env=pure true)
  (hs:∀y,foldedSetIterable iter X.env y=pure y:=by intro _; rfl):PS X (.Assign [.Name y py] (.ListComp elt [⟨.Name x px,iter,ifs,0⟩] sc pos) spos) (fun E σ H=>zeC caps wi tc te σ H fun v H1=>E.nx (σ.set i (some v)) H1):=by
 intro pins s σ H E I h
 rw[exec_Assign_Name_used (hs:=hsw)]
 refine wpAny_bind (wpAny_standAt ?_); refine wpAny_bind ?_; show wpAny _ _ (comprehension _ sc X.env _ (newList []) false (eval iter X.env) (some (assign (.Name y py) X.env)) >>= fun _=>pure ()) _ _ s
 refine wpAny_bind (thn (zkF (use:=some (assign (.Name y py) X.env)) (Qr:=fun _ s'=>SP X pins E .next s') hc cs (zcq hN).1 (zcq hN).2 hnd hi ht he hs I h fun D C s' f=>?_) fun _ s' hq=>wpAny_pure (wpAny_pure hq))
 obtain⟨⟨H',I',q,hC⟩,⟨m,ns⟩,l,o,c,p⟩:=f
 refine wpAny_assign_Name (zjn (v:=.ref D) I' hNd hy (.inl hl) rfl (fun s'' I'' ⟨a,sb,ha⟩=>⟨m,ns.sameBut sb ?_,fun h' sb'=>⟨_,H',I''.turned (t':=s''.toks) (fun b ob hb e=>(sb'.2 b hb).trans e) hC l (.inr o) c p,q⟩⟩) (.inr hl))
 rcases ha with rfl | ha
 ·exact l
 ·exact Ne.symm (c _ _ ha)
end

section
variable {X:Cx}{Z:Zx}{elt iter:Expr}{x:Str}{px pos:Pos}{ifs:List Expr}{sc ar:Scope}{N:List Str}{caps:List Nat}
theorem zj8 {r:List Addr}{H:Hp}{dl:Ev}{σ:St}{d:D}{v:V}(h:Rs r H dl σ)(p:Rp r H d v):Rs r H (some d::zbn caps dl) (some v::zaY caps σ):=by
 refine⟨by simp[zbn,zaY],fun i e hi=>?_⟩
 cases i with
 | zero=>simp at hi; subst hi; exact⟨v,rfl,p⟩
 | succ i=>
  simp only[List.getElem?_cons_succ,zbn,List.getElem?_map] at hi
  cases q:caps[i]? with
  | none=>rw[q] at hi; cases hi
  | some j=>
   rw[q] at hi
   simp only[Option.map_some,Option.some.injEq] at hi
   have hj:dl[j]?=some (some e):=by
    cases q2:dl[j]? with
    | none=>rw[q2] at hi; cases hi
    | some o=>rw[q2] at hi; simp at hi; rw[hi]
   obtain⟨w,h1,h2⟩:=h.2 j e hj
   refine⟨w,?_,h2⟩
   simp only[List.getElem?_cons_succ,zaY,List.getElem?_map,q,Option.map_some,h1,Option.join_some]
def zdS (Y:Cx)(ifs:List Expr)(t:TDT):Prop:=PTs Y ifs (upT Y.K Z0 t)
def zbW:TDT:=fun _ S Q=>Q true S
theorem zbI {Y:Cx}:zdS Y [] zbW:=fun pins s σ H Qb I ⟨r,dl,S,Q,rs,rel,q,ret⟩=>zpD pins s σ H Qb I (ret true H r S Ext.refl rel q)
theorem zo8 {Y:Cx}{c:Expr}{t:TDT}(h:PDT Y Z0 c t):zdS Y [c] t:=zm5 h
def zcm (caps:List Nat)(tc:TDT)(te:TDE)(k:Nat)(dl:Ev)(d:D)(S:Sto)(nx:Sto→Prop):Prop:=
 tc (some d::zbn caps dl) S fun b S1=>if b=true then te (some d::zbn caps dl) S1 fun y S2=>match S2[k]? with
  | some (.lst ys)=>ys.length < 1000∧nx (S2.set k (.lst (ys++[y])))
  | _=>False
 else nx S1
@[irreducible] def zbK (caps:List Nat)(tl:TDE)(tc:TDT)(te:TDE):TDE:=fun dl S Q=>tl dl S fun d S1=>match d with
 | .ref n=>(lAt S1 n).isSome=true∧∃W:Nat→Nat→Sto→Prop,(∃m,W 0 m (S1++[.lst []]))∧∀k m S2,W k m S2→match lAt S2 n with
  | some o=>match (zah o)[k]? with
   | some y=>zcm caps tc te S1.length dl y S2 fun S3=>∃m',m' < m∧W (k + 1) m' S3
   | none=>Q (.ref S1.length) S2
  | none=>False
 | _=>False
@[irreducible] def zcn (caps:List Nat)(ta:TDA)(tc:TDT)(te:TDE):TDE:=fun dl S Q=>ta dl S fun ds S1=>match ds with
 | [.int j]=>(-(2 ^ 62)≤j∧j < 2 ^ 62)∧∃W:Nat→Sto→Prop,W 0 (S1++[.lst []])∧∀k S2,W k S2→
   if k < j.toNat then zcm caps tc te S1.length dl (.int k) S2 fun S3=>W (k + 1) S3 else Q (.ref S1.length) S2
 | _=>False
theorem zkS {tc:TDT}{te:TDE}{r2:List Addr}{H2:Hp}{S1 S2:Sto}{dl:Ev}{σ:St}{D0:Addr}{d:D}{v:V}{nx:Sto→Prop}{Nx:Hp→Prop}(rs:Rs r2 H2 dl σ)(ha:r2[S1.length]?=some D0)(rb:zaH X.K r2 S2 H2)(p:Rp r2 H2 d v)
  (h:zcm caps tc te S1.length dl d S2 nx)(hn:∀r' S' H',Ext r2 r' H2 H'→zaH X.K r' S' H'→nx S'→Nx H'):
  upT X.K Z0 tc (some v::zaY caps σ) H2 fun b H3=>if b=true then up X.K Z0 te (some v::zaY caps σ) H3 fun y H4=>∃ys,H4 D0=some (.lst ys)∧ys.length < sizeLine∧Nx (upd H4 D0 (.lst (ys++[y]))) else Nx H3:=by
 have rsY:Rs r2 H2 (some d::zbn caps dl) (some v::zaY caps σ):=zj8 rs p
 refine⟨r2,_,S2,_,rsY,⟨rb,fun _ _ _ _ _ _ _ _ _ z=>z.elim⟩,h,fun b H3 r3 S3 x3 rel3 q3=>?_⟩
 cases b with
 | false=>rw[if_neg Bool.false_ne_true] at q3 ⊢; exact hn r3 S3 H3 x3 rel3.b q3
 | true=>
  rw[if_pos rfl] at q3 ⊢
  refine⟨r3,_,S3,_,rsY.ext x3,rel3,q3,fun z H4 r4 dz S4 x4 rel4 p4 q4=>?_⟩
  split at q4
  ·rename_i ys eys
   obtain⟨hl,q4⟩:=q4
   have ha4:r4[S1.length]?=some D0:=x4.adr _ _ (x3.adr _ _ ha)
   obtain⟨zs,hD4,pz⟩:=rel4.b.ob _ _ _ ha4 eys
   obtain⟨rel5,x5⟩:=rel4.b.set ha4 eys (pz.snoc p4)
   exact⟨zs,hD4,by rw[← pz.1]; exact zf4 (Nat.le_of_lt hl),hn r4 _ _ (x3.trans (x4.trans x5)) rel5 q4⟩
  ·exact q4.elim
theorem zel {r:List Addr}{D0:Addr}{n:Nat}(h:r.length=n):(r++[D0])[n]?=some D0:=by subst h; simp
theorem zkj {tl:TDE}{tc:TDT}{te:TDE}{σ:St}{H:Hp}{Qv:VK}(h:up X.K Z (zbK caps tl tc te) σ H Qv):zeC caps (zlt X.K (up X.K Z tl)) (upT X.K Z0 tc) (up X.K Z0 te) σ H Qv:=by
 obtain⟨r,dl,S,Q,rs,rel,h,ret⟩:=h
 unfold zbK at h
 refine⟨r,dl,S,_,rs,rel,h,fun v H1 r1 d S1 x1 rel1 p1 q1=>?_⟩
 cases p1 with
 | @ref n a hn=>
  obtain⟨hsome,W,⟨m0,w0⟩,turn⟩:=q1
  have sql:∀ {r':List Addr} {S':Sto} {H':Hp} {o:Ob},Ext r1 r' H1 H'→zaH X.K r' S' H'→lAt S' n=some o→∃xs,SqL X.K H' a xs∧Rps r' H' (zah o) xs:=fun {r' S' H' o} x' rel' eo=>by
   obtain⟨eo,eL⟩:=zbs eo
   obtain⟨a',ha,ob⟩:=rel'.at eo
   rw[x'.adr n a hn] at ha; cases ha
   exact ob.list eL
  obtain⟨o1,eo1⟩:=Option.isSome_iff_exists.mp hsome
  obtain⟨xs1,sq1,_⟩:=sql Ext.refl rel1.b eo1
  refine⟨a,rfl,⟨xs1,sq1⟩,fun D0 hD=>?_⟩
  obtain⟨rel2,x2⟩:=rel1.b.push (ds:=[]) (xs:=[]) hD Rps.nil
  refine⟨fun k m H'=>∃r' S',Ext (r1++[D0]) r' (upd H1 D0 (.lst [])) H'∧zaH X.K r' S' H'∧W k m S',⟨m0,_,_,Ext.refl,rel2,w0⟩,?_⟩
  rintro k m H2 ⟨r2,S2,x3,rb2,w2⟩
  have ha2:r2[S1.length]?=some D0:=x3.adr _ _ (zel rel1.len)
  have q:=turn k m S2 w2
  split at q
  ·rename_i o eo
   obtain⟨xs,sq,pr⟩:=sql (x2.trans x3) rb2 eo
   split at q
   ·rename_i y ey
    obtain⟨v,hv,pv⟩:=pr.get ey
    refine .inr ⟨⟨xs,v,sq,hv⟩,fun v' H' y'=>?_⟩
    obtain⟨eH,y'⟩:=y'
    subst eH
    have ev:v'=v:=by
     have z:=y' xs sq
     rw[hv] at z; exact(Option.some.inj z).symm
    subst ev
    have z:=zkS (Nx:=fun H'=>∃m',m' < m∧∃r' S',Ext (r1++[D0]) r' (upd H1 D0 (.lst [])) H'∧zaH X.K r' S' H'∧W (k + 1) m' S') (rs.ext (x1.trans (x2.trans x3))) ha2 rb2 pv q fun r' S' H' x' rb' ⟨m',hm,w'⟩=>⟨m',hm,r',S',x3.trans x',rb',w'⟩
    exact z
   ·rename_i ey
    have hlen:(zah o).length≤k:=List.getElem?_eq_none_iff.mp ey
    exact .inl ⟨⟨xs,sq,by rw[← pr.1]; exact hlen⟩,ret _ H2 r2 _ S2 (x1.trans (x2.trans x3)) ⟨rb2,rel.xw.ext (x1.trans (x2.trans x3))⟩ (.ref ha2) q⟩
  ·exact q.elim
 | _=>exact(show False from q1).elim
theorem zlb {ta:TDA}{tc:TDT}{te:TDE}{σ:St}{H:Hp}{Qv:VK}(h:up X.K Z (zcn caps ta tc te) σ H Qv):zeC caps (zkv (upA X.K Z ta)) (upT X.K Z0 tc) (up X.K Z0 te) σ H Qv:=by
 obtain⟨r,dl,S,Q,rs,rel,h,ret⟩:=h
 unfold zcn at h
 refine⟨r,dl,S,_,rs,rel,h,fun vs H1 r1 ds S1 x1 rel1 p1 q1=>?_⟩
 split at q1
 ·rename_i j
  obtain⟨v,vs',rfl,p2,p3⟩:=p1.uncons
  have z:=p3.unnil
  subst z
  cases p2
  obtain⟨⟨b1,b2⟩,W,w0,turn⟩:=q1
  refine⟨j,rfl,b1,b2,fun D0 hD=>?_⟩
  obtain⟨rel2,x2⟩:=rel1.b.push (ds:=[]) (xs:=[]) hD Rps.nil
  refine⟨fun k m H'=>m=j.toNat - k∧∃r' S',Ext (r1++[D0]) r' (upd H1 D0 (.lst [])) H'∧zaH X.K r' S' H'∧W k S',⟨j.toNat,by simp,_,_,Ext.refl,rel2,w0⟩,?_⟩
  rintro k m H2 ⟨em,r2,S2,x3,rb2,w2⟩
  have ha2:r2[S1.length]?=some D0:=x3.adr _ _ (zel rel1.len)
  have q:=turn k S2 w2
  split at q
  ·rename_i hk
   refine .inr ⟨hk,fun v' H' y'=>?_⟩
   obtain⟨eH,y'⟩:=y'
   subst eH
   subst y'
   have pk:Rp r2 H' (.int (k:Int)) (.int (0 + (k:Int))):=by rw[Int.zero_add]; exact .int _
   have z:=zkS (Nx:=fun H'=>∃m',m' < m∧m'=j.toNat - (k + 1)∧∃r' S',Ext (r1++[D0]) r' (upd H1 D0 (.lst [])) H'∧zaH X.K r' S' H'∧W (k + 1) S') (rs.ext (x1.trans (x2.trans x3))) ha2 rb2 pk q
    fun r' S' H' x' rb' w'=>⟨j.toNat - (k + 1),by omega,rfl,r',S',x3.trans x',rb',w'⟩
   exact z
  ·rename_i hk
   exact .inl ⟨by show j.toNat≤k; omega,ret _ H2 r2 _ S2 (x1.trans (x2.trans x3)) ⟨rb2,rel.xw.ext (x1.trans (x2.trans x3))⟩ (.ref ha2) q⟩
 ·exact q1.elim
theorem zcR {tl:TDE}{tc:TDT}{te:TDE}(har:X.env.scope=ar)(hc:X.calm=true)(cs:zcI sc ar x N)(hN:caps.map (fun i=>X.N[i]?)=N.map some)(hnd:(x::N).Nodup)(hl:PD X Z iter tl)
  (ht:∀cl C s0 H0 fp pn,zdS (Cx.comp X sc (x::N) cl C s0 H0 fp pn) ifs tc)(he:∀cl C s0 H0 fp pn,PD (Cx.comp X sc (x::N) cl C s0 H0 fp pn) Z0 elt te)
  (hs:∀y,foldedSetIterable iter X.env y=pure y:=by intro _; rfl):PD X Z (.ListComp elt [⟨.Name x px,iter,ifs,0⟩] sc pos) (zbK caps tl tc te):=by
 subst har
 exact zaN (zk0 hc cs hN hnd (tc:=upT X.K Z0 tc) (te:=up X.K Z0 te) (zjd hl) ht he hs) fun _ _ _ h=>zkj h
theorem zjW {ta:TDA}{tc:TDT}{te:TDE}{a:Expr}{p pos2:Pos}(har:X.env.scope=ar)(hc:X.calm=true)(cs:zcI sc ar x N)(hN:caps.map (fun i=>X.N[i]?)=N.map some)(hnd:(x::N).Nodup)(hg:Gl X "range")(hm:X.mg "range"=none)(ha:PDA X Z [a] ta)
  (ht:∀cl C s0 H0 fp pn,zdS (Cx.comp X sc (x::N) cl C s0 H0 fp pn) ifs tc)(he:∀cl C s0 H0 fp pn,PD (Cx.comp X sc (x::N) cl C s0 H0 fp pn) Z0 elt te)
  (hs:∀y,foldedSetIterable (.Call (.Name "range" p) [a] [] pos2) X.env y=pure y:=by intro _; rfl)(hst:starEach [a] X.env=[(false,eval a X.env)]:=by rfl):
  PD X Z (.ListComp elt [⟨.Name x px,.Call (.Name "range" p) [a] [] pos2,ifs,0⟩] sc pos) (zcn caps ta tc te):=by
 subst har
 exact zaN (zk0 hc cs hN hnd (tc:=upT X.K Z0 tc) (te:=up X.K Z0 te) (zjs hg hm ha hst) ht he hs) fun _ _ _ h=>zlb h
theorem zjb {t:TE}{td:TDE}{i:Nat}{F:zcG}{σ:St}{H:Hp}(imp:∀Qv,up X.K Z td σ H Qv→t σ H Qv)(h:upS X.K Z (fun E dl S=>td dl S fun d S1=>E.nx (dl.set i (some d)) S1) F σ H):t σ H fun v H1=>F.nx (σ.set i (some v)) H1:=by
 obtain⟨r,dl,S,E,rs,rel,h,ret⟩:=h
 exact imp _ ⟨r,dl,S,_,rs,rel,h,fun v H1 r1 d S1 x rel1 p q=>ret.nx _ H1 r1 _ S1 x ((rs.ext x).set i p) rel1 q⟩
theorem zj4 {tl:TDE}{tc:TDT}{te:TDE}{i:Nat}{y:Str}{py spos:Pos}(har:X.env.scope=ar)(hc:X.calm=true)(cs:zcI sc ar x N)(hN:caps.map (fun i=>X.N[i]?)=N.map some)(hnd:(x::N).Nodup)(hNd:X.N.Nodup)(hy:X.N[i]?=some y)(hlo:ar.names.lookup y=some .local)
  (hl:PD X Z iter tl)(ht:∀cl C s0 H0 fp pn,zdS (Cx.comp X sc (x::N) cl C s0 H0 fp pn) ifs tc)(he:∀cl C s0 H0 fp pn,PD (Cx.comp X sc (x::N) cl C s0 H0 fp pn) Z0 elt te)
  (hsw:swapsWith (.ListComp elt [⟨.Name x px,iter,ifs,0⟩] sc pos) (some (.Name y py)) spos.line X.env=pure true:=by rfl)
  (hs:∀y,foldedSetIterable iter X.env y=pure y:=by intro _; rfl):PDS X Z (.Assign [.Name y py] (.ListComp elt [⟨.Name x px,iter,ifs,0⟩] sc pos) spos) (zfq i (zbK caps tl tc te)):=by
 subst har
 exact zbF (zlf hc cs hN hnd (tc:=upT X.K Z0 tc) (te:=up X.K Z0 te) (zjd hl) ht he hNd hy hlo hsw hs) fun F σ H h=>zjb (fun _ h=>zkj h) h
theorem ziG {ta:TDA}{tc:TDT}{te:TDE}{a:Expr}{p pos2:Pos}{i:Nat}{y:Str}{py spos:Pos}(har:X.env.scope=ar)(hc:X.calm=true)(cs:zcI sc ar x N)(hN:caps.map (fun i=>X.N[i]?)=N.map some)(hnd:(x::N).Nodup)(hNd:X.N.Nodup)(hy:X.N[i]?=some y)
  (hlo:ar.names.lookup y=some .local)(hg:Gl X "range")(hm:X.mg "range"=none)(ha:PDA X Z [a] ta)
  (ht:∀cl C s0 H0 fp pn,zdS (Cx.comp X sc (x::N) cl C s0 H0 fp pn) ifs tc)(he:∀cl C s0 H0 fp pn,PD (Cx.comp X sc (x::N) cl C s0 H0 fp pn) Z0 elt te)
  (hsw:swapsWith (.ListComp elt [⟨.Name x px,.Call (.Name "range" p) [a] [] pos2,ifs,0⟩] sc pos) (some (.Name y py)) spos.line X.env=pure true:=by rfl)
  (hs:∀y,foldedSetIterable (.Call (.Name "range" p) [a] [] pos2) X.env y=pure y:=by intro _; rfl)(hst:starEach [a] X.env=[(false,eval a X.env)]:=by rfl):
  PDS X Z (.Assign [.Name y py] (.ListComp elt [⟨.Name x px,.Call (.Name "range" p) [a] [] pos2,ifs,0⟩] sc pos) spos) (zfq i (zcn caps ta tc te)):=by
 subst har
 exact zbF (zlf hc cs hN hnd (tc:=upT X.K Z0 tc) (te:=up X.K Z0 te) (zjs hg hm ha hst) ht he hNd hy hlo hsw hs) fun F σ H h=>zjb (fun _ h=>zlb h) h

@[irreducible] def zcv (to te:TDE):TDE:=fun dl S Q=>to dl S fun x S1=>match x with
 | .ref n=>match S1[n]? with
  | some (.lst _)=>te dl S1 fun y S2=>match S2[n]? with
   | some (.lst xs)=>if xs.length < 1000 then Q .non (S2.set n (.lst (xs++[y]))) else False
   | _=>False
  | _=>False
 | _=>False
theorem zbJ {o e:Expr}{to te:TDE}{apos cpos:Pos}(ho:PD X Z o to)(he:PD X Z e te)(hbase:attributeBase o "append" X.env (eval o X.env)=eval o X.env:=by rfl)
  (hfew:((backTo cpos (starEach [e] X.env)).all (fun x=>!x.1) && (backToKw cpos (keywordEach [] X.env)).all (fun x=>x.1.isSome)
   && decide (([e]:List Expr).length + ([]:List Keyword).length + (if ([]:List Keyword).isEmpty then 0 else 1) < 30))=true:=by rfl)
  (hline:(apos.endLine == cpos.line)=true:=by rfl)(hst:starEach [e] X.env=[(false,eval e X.env)]:=by rfl):
  PD X Z (.Call (.Attribute o "append" apos) [e] [] cpos) (zcv to te):=
 zaN (ziw PySem.F.plainAttrs_list PySem.F.slot_list_append PySem.F.type_list_append zis ho (zd3 he zgP hst) hbase hfew hline hst rfl) fun σ H Qv h=>by
  obtain⟨r,dl,S,Q,rs,rel,h,ret⟩:=h
  unfold zcv at h
  refine⟨r,dl,S,_,rs,rel,h,fun v H1 r1 d S1 x1 rel1 p1 h1=>?_⟩
  cases p1 with
  | @ref n a hn=>
   dsimp only at h1
   split at h1
   ·rename_i xs0 e0
    obtain⟨a',ha,ob⟩:=rel1.at e0
    rw[hn] at ha; cases ha
    obtain⟨ys,hH,_⟩:=ob
    refine⟨.inl ⟨rfl,ys,SqL.of hH⟩,r1,dl,S1,_,rs.ext x1,rel1,h1,fun v2 H2 r2 d2 S2 x2 rel2 p2 h2=>?_⟩
    split at h2
    ·rename_i xs1 e1
     obtain⟨hlt,h2⟩:=zgo h2
     have ha2:=x2.adr n a hn
     obtain⟨zs,hH2,pz⟩:=rel2.b.ob n a _ ha2 e1
     obtain⟨rel3,x3⟩:=rel2.set ha2 e1 (pz.snoc p2)
     exact⟨a,zs,v2,rfl,rfl,hH2,by rw[← pz.1]; exact zf4 (Nat.le_of_lt hlt),ret .non _ r2 .non _ (x1.trans (x2.trans x3)) rel3 .non h2⟩
    ·exact h2.elim
   ·exact h1.elim
  | _=>exact(show False from h1).elim
def zhe:WC:=fun ds S Q=>match ds with
 | [.tup xs]=>Q (.ref S.length) (S++[.lst xs])
 | [.ref n]=>match lAt S n with
  | some o=>Q (.ref S.length) (S++[.lst (zah o)])
  | none=>False
 | _=>False
theorem zh9:za8 X (.type "list") (upC X.K Z zhe):=ziJ zpc fun xs H Qv ⟨r,S,ds,Q,rel,ps,q,ret⟩=>by
 unfold zhe at q
 split at q
 ·rename_i ys
  obtain⟨v,vs,rfl,p1,p2⟩:=ps.uncons
  have z:=p2.unnil
  subst z
  obtain⟨a,zs,rfl,h1,h2⟩:=p1.untup
  refine⟨a,zs,rfl,.inr (SqT.of h1),fun l hl=>?_⟩
  obtain⟨rel2,x⟩:=rel.push hl h2
  exact ret _ _ _ (.ref S.length) _ x rel2 (zdP rel.len) q
 ·rename_i n
  obtain⟨v,vs,rfl,p1,p2⟩:=ps.uncons
  have z:=p2.unnil
  subst z
  split at q
  ·rename_i o eo
   obtain⟨eo,eL⟩:=zbs eo
   obtain⟨a,ha,ob⟩:=rel.at eo
   cases p1 with
   | ref h1=>
    rw[h1] at ha; cases ha
    obtain⟨ys,sq,pr⟩:=ob.list eL
    refine⟨_,ys,rfl,.inl sq,fun l hl=>?_⟩
    obtain⟨rel2,x⟩:=rel.push hl pr
    exact ret _ _ _ (.ref S.length) _ x rel2 (zdP rel.len) q
  ·exact q.elim
 ·exact q.elim
def zhx:List D→Option (List Bool)
 | []=>some []
 | .bl b::r=>(zhx r).map (b::·)
 | _::_=>none
def wAll (g:List Bool→Bool):WC:=fun ds S Q=>match ds with
 | [.ref n]=>match lAt S n with
  | some o=>match zhx (zah o) with
   | some bs=>Q (.bl (g bs)) S
   | none=>False
  | none=>False
 | _=>False
@[irreducible] def irr (w:WC):WC:=w
@[irreducible] def zbL (w:W2):W2:=w
theorem zgD (w:WC):irr w=w:=by unfold irr; rfl
theorem zb4 (w:W2):zbL w=w:=by unfold zbL; rfl
theorem zba {f:Value}{w:WC}(h:za8 X f (upC X.K Z w)):za8 X f (upC X.K Z (irr w)):=by rw[zgD]; exact h
theorem zaA {a b:Expr}{ta tb:TDE}(ha:PD X Z a ta)(hb:PD X Z b tb)(hs:zir b):PD X Z (.Subscript a b pos) (dOp (zbL wIx) ta tb):=by rw[zb4]; exact zam ha hb hs
theorem zat (S:Sto)(o:Ob):(S++[o])[S.length]?=some o:=by simp
theorem zcT {S:Sto}{o u:Ob}{n:Nat}(h:S[n]?=some o):(S++[u])[n]?=some o:=by
 rw[List.getElem?_append_left (List.getElem?_eq_some_iff.mp h).1]; exact h
theorem zcs {tl te:TDE}{dl:Ev}{S S1:Sto}{Q:DK}{n:Nat}{o:Ob}(g:D→D)(htl:∀K:DK,K (.ref n) S1→tl dl S K)(h1:S1[n]?=some o)(hl:(zah o).length≤1000)
  (ht:∀x∈zah o,∀(S2:Sto) (K:DK),Pre S1 S2→K (g x) S2→te (some x::zbn caps dl) S2 K)(hq:Q (.ref S1.length) (S1++[.lst ((zah o).map g)]))(hL:zbC o=some o:=by rfl):zbK caps tl zbW te dl S Q:=by
 unfold zbK
 refine htl _ ⟨by rw[zaB h1 hL]; rfl,fun k m S2=>S2=S1++[.lst (((zah o).take k).map g)]∧m + k=(zah o).length,⟨(zah o).length,by simp,by omega⟩,?_⟩
 rintro k m S2 ⟨rfl,hm⟩
 rw[zaB (zcT h1) hL]
 dsimp only
 split
 ·rename_i x hx
  have hk:k < (zah o).length:=(List.getElem?_eq_some_iff.mp hx).1
  unfold zcm zbW
  simp only[if_true]
  refine ht x (List.mem_of_getElem? hx) _ _ Pre.refl.push ?_
  rw[zat]
  refine⟨by simp; omega,m - 1,by omega,?_,by omega⟩
  have e:(zah o).take (k + 1)=(zah o).take k++[x]:=by rw[List.take_succ,hx]; rfl
  rw[e,List.map_append,List.set_append_right _ _ (Nat.le_refl _)]
  simp
 ·rename_i hx
  have hk:(zah o).length≤k:=List.getElem?_eq_none_iff.mp hx
  rw[List.take_of_length_le hk]
  exact hq
theorem zqB {o:Ob}{xs:List Int}(h:zcK (zah o)=some xs):zbC o=some o:=by
 cases o <;> first | rfl | cases h
theorem zcu {le:Int→Int→Prop}{two:Int→Int→Int}{n:Nat}{S:Sto}{o:Ob}{xs:List Int}{Q:DK}(h:S[n]?=some o)(hb:zcK (zah o)=some xs)(hne:xs≠[])(hq:∀m,m∈xs→(∀y∈xs,le y m)→Q (.int m) S):irr (zcW le two) [.ref n] S Q:=by
 rw[zgD]
 unfold zcW
 simp only[zaB h (zqB hb),hb]
 exact⟨hne,hq⟩
theorem zh3 {n:Nat}{S:Sto}{o:Ob}{Q:DK}(h:lAt S n=some o)(hq:Q (.ref S.length) (S++[.lst (zah o)])):irr zhe [.ref n] S Q:=by
 rw[zgD]
 unfold zhe
 simp only[h]
 exact hq
theorem zb0 {to te:TDE}{dl:Ev}{S S1:Sto}{Q:DK}{n:Nat}{xs:List D}{y:D}(hto:∀K:DK,K (.ref n) S1→to dl S K)(h:S1[n]?=some (.lst xs))(hte:∀K:DK,K y S1→te dl S1 K)(hl:xs.length < 1000)(hq:Q .non (S1.set n (.lst (xs++[y])))):zcv to te dl S Q:=by
 unfold zcv
 refine hto _ ?_
 simp only[h]
 refine hte _ ?_
 simp only[h]
 exact ifP hl hq
end
end L3
namespace L3
theorem zdR {n:Nat}{x y:Int}:Sco n (.tup [.int x,.int y]):=.tup fun d hd=>by
 have z:d=.int x∨d=.int y:=by simpa using hd
 rcases z with rfl | rfl <;> exact .int _
end L3

namespace L3
open PySem PySem.Spec PyProof.Rows L2 PySem.W Builtin Builtin.ObjectAttr Builtin.Getset_descriptor
structure Nx (K:Frag)(D:Addr):Prop where
 ga:findIn K (.ref D) "__getattribute__"=some (some (.builtin "BaseException.__getattribute__"))
 hk:findIn K (.ref D) "__getattr__"=some none
 ha:findIn K (.ref D) "__class__"=some (some (.builtin "object.__class__"))
 hn:specialIn K (.builtin "object.__class__") "__get__"=some (some (.builtin "getset_descriptor.__get__"))
 ht:takesIn K (.builtin "object.__class__")=some true
 hm:mroIn K D (.type "object")=some true
 hb:mroIn K D (.type "BaseException")=some true
section
variable {X:Cx}{Z:Zx}
end
end L3

namespace L3
open PySem PySem.Spec PyProof.Rows L2
def eqN:Nat→D→D→Option Bool
 | 0=>eqF
 | k + 1=>eqT (eqN k)
theorem zjV:∀k,zdf (eqN k)
 | 0=>zdK
 | k + 1=>zkT (zjV k)
theorem zgj:∀k,zcA k (eqN k)
 | 0=>zja 0
 | k + 1=>zjD (zgj k) (zjV k)
def eqSt (k:Nat)(S:Sto):D→D→Option Bool
 | .ref n,.ref m=>match lAt S n,lAt S m with
  | some o,some o'=>eqL (eqN k) (zah o) (zah o')
  | _,_=>none
 | x,y=>eqN (k + 1) x y
section
variable {X:Cx}{Z:Zx}
def zbu (f:D→D→Option Bool):List D→D→Option Bool
 | [],_=>some false
 | y::ys,x=>match f y x,zbu f ys x with
  | some b,some c=>some (b || c)
  | _,_=>none
def wIn (k:Nat)(neg:Bool):W2:=fun x y S Q=>match y with
 | .ref n=>match lAt S n with
  | some o=>match zbu (eqN k) (zah o) x with
   | some b=>Q (.bl (if neg then !b else b)) S
   | none=>False
  | none=>False
 | _=>False
theorem zlD {v v':V}{u:Value}(h:zal v u)(h':zal v' u):v=v':=by
 cases v <;> cases v' <;> simp[L2.zal] at h h' <;> first
  | rfl
  | (subst h; simp at h'; subst h'; rfl)
  | (obtain⟨t,rfl⟩:=h; simp at h'; subst h'; rfl)
  | (obtain⟨t,rfl⟩:=h; simp at h')
  | (subst h; simp at h')
  | skip
theorem zfJ {r:List Addr}{H:Hp}{d d' x:D}{v:V}{b b':Bool}(p:Rp r H d v)(p':Rp r H d' v)(e:eqF d x=some b)(e':eqF d' x=some b'):b=b':=by
 have z:d=d':=by
  cases p <;> cases p' <;> first
   | rfl
   | (cases x <;> simp[eqF] at e)
   | (cases x <;> simp[eqF] at e')
 subst z
 rw[e] at e'
 exact Option.some.inj e'
theorem zkM {f:D→D→Option Bool}{r:List Addr}{H:Hp}(hf:∀(d d' x:D) (v:V) (b b':Bool),Rp r H d v→Rp r H d' v→f d x=some b→f d' x=some b'→b=b'):
  ∀ {ds ds' zs:List D} {vs:List V} {b b':Bool},Rps r H ds vs→Rps r H ds' vs→eqL f ds zs=some b→eqL f ds' zs=some b'→b=b'
 | [],ds',zs,vs,b,b',p,p',e,e'=>by
  have z:=p.unnil
  subst z
  cases ds' with
  | nil=>rw[e] at e'; exact Option.some.inj e'
  | cons y ys=>exact absurd p'.1 (by simp)
 | d::ds,ds',zs,vs,b,b',p,p',e,e'=>by
  obtain⟨v,vs',rfl,p1,p2⟩:=p.uncons
  cases ds' with
  | nil=>exact absurd p'.1 (by simp)
  | cons d' ds'=>
   obtain⟨q1,q2⟩:=p'.tail
   cases zs with
   | nil=>
    simp only[eqL,Option.some.injEq] at e e'
    exact e.symm.trans e'
   | cons z zs=>
    unfold eqL at e e'
    split at e
    ·rename_i b1 c1 a1 a2
     split at e'
     ·rename_i b2 c2 a3 a4
      have h1:=hf d d' z v b1 b2 p1 q1 a1 a3
      have h2:=zkM hf p2 q2 a2 a4
      subst h1 h2
      simp only[Option.some.injEq] at e e'
      exact e.symm.trans e'
     ·cases e'
    ·cases e
theorem zi3:∀(k:Nat) {r:List Addr} {H:Hp} (d d' x:D) (v:V) (b b':Bool),Rp r H d v→Rp r H d' v→eqN k d x=some b→eqN k d' x=some b'→b=b'
 | 0,r,H,d,d',x,v,b,b',p,p',e,e'=>zfJ p p' e e'
 | k + 1,r,H,d,d',x,v,b,b',p,p',e,e'=>by
  cases p with
  | tup h1 l1 f1=>
   cases p' with
   | tup h2 l2 f2=>
    rw[h1] at h2; cases h2
    cases x with
    | tup zs=>exact zkM (fun d d' x v b b'=>zi3 k d d' x v b b') ⟨l1,f1⟩ ⟨l2,f2⟩ e e'
    | _=>simp[eqN,eqT,eqF] at e
   | ref h=>cases x <;> simp[eqN,eqT,eqF] at e'
   | exc h=>cases x <;> simp[eqN,eqT,eqF] at e'
  | non=>exact zfJ (x:=x) .non p' (by cases x <;> exact e) (by cases p' <;> cases x <;> exact e')
  | bl i=>exact zfJ (x:=x) (.bl i) p' (by cases x <;> exact e) (by cases p' <;> cases x <;> exact e')
  | int i=>exact zfJ (x:=x) (.int i) p' (by cases x <;> exact e) (by cases p' <;> cases x <;> exact e')
  | str i=>exact zfJ (x:=x) (.str i) p' (by cases x <;> exact e) (by cases p' <;> cases x <;> exact e')
  | ref h=>cases x <;> simp[eqN,eqT,eqF] at e
  | exc h=>cases x <;> simp[eqN,eqT,eqF] at e
theorem zjT {f:D→D→Option Bool}{x:D}:∀ {ys:List D} {b:Bool},zbu f ys x=some b→(∀y∈ys,∃c,f y x=some c)∧(b=true↔∃y∈ys,f y x=some true)
 | [],b,e=>by
  simp only[zbu,Option.some.injEq] at e
  subst e
  simp
 | y::ys,b,e=>by
  unfold zbu at e
  split at e
  ·rename_i b1 c1 e1 e2
   obtain⟨h1,h2⟩:=zjT e2
   simp only[Option.some.injEq] at e
   subst e
   refine⟨fun z hz=>?_,?_⟩
   ·rcases List.mem_cons.mp hz with rfl | hz'
    ·exact⟨b1,e1⟩
    ·exact h1 z hz'
   ·rw[Bool.or_eq_true,h2]
    refine⟨fun q=>?_,fun ⟨z,hz,q⟩=>?_⟩
    ·rcases q with q | ⟨z,hz,q⟩
     ·exact⟨y,List.mem_cons_self,by rw[e1,q]⟩
     ·exact⟨z,List.mem_cons_of_mem _ hz,q⟩
    ·rcases List.mem_cons.mp hz with rfl | hz'
     ·left
      rw[e1] at q
      exact Option.some.inj q
     ·exact .inr ⟨z,hz',q⟩
  ·cases e
theorem zkX {k:Nat}{pins:List (Addr×Obj)}{σ:St}{H:Hp}{s:Shared}{r:List Addr}{A:Around}{ds:List D}{vs:List V}{us:List Value}{dx:D}{x:V}{u:Value}{b:Bool}(I:Inv X pins σ H s)(hu:A.units + k < cLine)
  (p:Rps r H ds vs)(rv:zap vs us)(px:Rp r H dx x)(rx:zal x u)(e:zbu (eqN k) ds dx=some b):∃g:Value→Bool,(∀y,y∈us.toArray→SeqAt.EqAt A s y u (g y))∧us.toArray.any g=b:=by
 obtain⟨h1,h2⟩:=zjT e
 have at_:∀y∈us,∃d v,d∈ds∧Rp r H d v∧zal v y:=fun y hy=>by
  obtain⟨j,hj,ej⟩:=List.mem_iff_getElem.mp hy
  have hv:j < vs.length:=by rw[rv.length]; exact hj
  have gv:vs[j]?=some vs[j]:=by simp[hv]
  obtain⟨w,gw,rw'⟩:=rv.get gv
  obtain⟨d,gd,pd⟩:=p.get' gv
  have ew:w=y:=by
   rw[List.getElem?_eq_getElem hj,ej] at gw
   exact(Option.some.inj gw).symm
  subst ew
  exact⟨d,_,List.mem_of_getElem? gd,pd,rw'⟩
 classical
 refine⟨fun y=>decide (∃d v,d∈ds∧Rp r H d v∧zal v y∧eqN k d dx=some true),fun y hy=>?_,?_⟩
 ·obtain⟨d,v,hd,pd,rd⟩:=at_ y (by simpa using hy)
  obtain⟨c,hc⟩:=h1 d hd
  have same:decide (∃d v,d∈ds∧Rp r H d v∧zal v y∧eqN k d dx=some true)=c:=by
   cases c with
   | true=>exact decide_eq_true ⟨d,v,hd,pd,rd,hc⟩
   | false=>
    refine decide_eq_false fun ⟨d',v',_,pd',rd',hc'⟩=>?_
    have ev:=zlD rd rd'
    subst ev
    exact absurd (zi3 k d d' dx v false true pd pd' hc hc') (by decide)
  show SeqAt.EqAt A s y u (decide _)
  rw[same]
  exact zgj k X pins σ H s r A d dx v x y u c I hu pd px rd rx hc
 ·rw[Bool.eq_iff_iff,h2,List.any_toArray,List.any_eq_true]
  refine⟨fun ⟨y,hy,q⟩=>?_,fun ⟨d,hd,q⟩=>?_⟩
  ·obtain⟨d,v,hd,_,_,q'⟩:=of_decide_eq_true q
   exact⟨d,hd,q'⟩
  ·obtain⟨j,hj,ej⟩:=List.mem_iff_getElem.mp hd
   have gd:ds[j]?=some d:=by simp[hj,ej]
   obtain⟨v,gv,pv⟩:=p.get gd
   obtain⟨w,gw,rw'⟩:=rv.get gv
   exact⟨w,List.mem_of_getElem? gw,decide_eq_true ⟨d,v,hd,pv,rw',q⟩⟩
theorem do_in (k:Nat)(hu:X.A.units + 1 + k < cLine):OpR X (compareOp .In) (upO X.K Z (wIn k false)):=by
 intro pins s σ H x y v u Qv I rx ry h
 obtain⟨r,S,dx,dy,Q,rel,px,py,q,ret⟩:=h
 cases py with
 | @ref n a hn=>
  unfold wIn at q
  dsimp only at q
  split at q
  ·rename_i o eo
   split at q
   ·rename_i b eb
    cases ry
    obtain⟨eo,eL⟩:=zbs eo
    obtain⟨a',ha,ob⟩:=rel.at eo
    rw[hn] at ha; cases ha
    obtain⟨ys,sq,pr⟩:=ob.list eL
    obtain⟨us,ru,pl,_⟩:=I.list sq
    obtain⟨g,g1,g2⟩:=zkX (A:=X.A.in1) I (by show X.A.units + 1 + k < _; omega) pr ru px rx eb
    refine SeqAt.in_listAt g pl.isList g1 ?_
    rw[g2]
    exact⟨.bl b,H,I,rfl,ret _ _ _ _ _ Ext.refl rel (.bl b) q⟩
   ·exact q.elim
  ·exact q.elim
 | _=>exact(show False from q).elim
theorem zo3 (k:Nat)(hu:X.A.units + 1 + k < cLine):OpR X (compareOp .NotIn) (upO X.K Z (wIn k true)):=by
 intro pins s σ H x y v u Qv I rx ry h
 obtain⟨r,S,dx,dy,Q,rel,px,py,q,ret⟩:=h
 cases py with
 | @ref n a hn=>
  unfold wIn at q
  dsimp only at q
  split at q
  ·rename_i o eo
   split at q
   ·rename_i b eb
    cases ry
    obtain⟨eo,eL⟩:=zbs eo
    obtain⟨a',ha,ob⟩:=rel.at eo
    rw[hn] at ha; cases ha
    obtain⟨ys,sq,pr⟩:=ob.list eL
    obtain⟨us,ru,pl,_⟩:=I.list sq
    obtain⟨g,g1,g2⟩:=zkX (A:=X.A.in1) I (by show X.A.units + 1 + k < _; omega) pr ru px rx eb
    refine SeqAt.notIn_listAt g pl.isList g1 ?_
    rw[g2]
    exact⟨.bl (!b),H,I,rfl,ret _ _ _ _ _ Ext.refl rel (.bl (!b)) q⟩
   ·exact q.elim
  ·exact q.elim
 | _=>exact(show False from q).elim
end
end L3

namespace L3
open PySem PySem.Spec PyProof.Rows L2
section
variable {X:Cx}{Z:Zx}{pos:Pos}
def zdw:List Nat→List D→Ev→Ev
 | i::is,d::ds,dl=>zdw is ds (dl.set i (some d))
 | _,_,dl=>dl
def zil:List Nat→List V→St→St
 | i::is,v::vs,σ=>zil is vs (σ.set i (some v))
 | _,_,σ=>σ
theorem zjQ {r:List Addr}{H:Hp}:∀ {is:List Nat} {ds:List D} {vs:List V} {dl:Ev} {σ:St},Rs r H dl σ→Rps r H ds vs→Rs r H (zdw is ds dl) (zil is vs σ)
 | [],ds,vs,dl,σ,h,p=>by cases ds <;> cases vs <;> exact h
 | i::is,[],vs,dl,σ,h,p=>by
  have z:=p.unnil
  subst z
  exact h
 | i::is,d::ds,vs,dl,σ,h,p=>by
  obtain⟨v,vs',rfl,p1,p2⟩:=p.uncons
  show Rs r H (zdw is ds (dl.set i (some d))) (zil is vs' (σ.set i (some v)))
  exact zjQ (Rs.set i h p1) p2
inductive Nms (X:Cx):List Expr→List Nat→Prop
 | nil:Nms X [] []
 | cons {x:Str} {p:Pos} {i:Nat} {es:List Expr} {is:List Nat}:X.N[i]?=some x→Loc X.env.scope x→(X.fn x=true∨X.env.scope.names.lookup x=some .local)→Nms X es is→Nms X (.Name x p::es) (i::is)
def zdu (is:List Nat):TGs:=fun vs σ H Q=>vs.length=is.length∧Q (zil is vs σ) H
theorem zfD (hN:X.N.Nodup):∀ {es:List Expr} {is:List Nat},Nms X es is→PGs X es (zdu is)
 | _,_,.nil=>fun pins s σ H vs us Q I r h=>by
  obtain⟨e,h⟩:=h
  have z:vs=[]:=by simpa using e
  subst z
  exact zpy pins s σ H [] us Q I r ⟨rfl,h⟩
 | _,_,.cons (x:=x) (p:=p) (es:=es) (is:=is) h1 h2 h3 t=>fun pins s σ H vs us Q I r h=>by
  obtain⟨e,h⟩:=h
  cases vs with
  | nil=>simp at e
  | cons v vs=>exact zpx (zhI hN h1 h2 h3) (zfD hN t) rfl pins s σ H (v::vs) us Q I r ⟨v,vs,rfl,by simpa using e,h⟩
end
end L3

namespace L3
open PySem L2
theorem zfQ (S:Sto)(o u:Ob):(S++[o]).set S.length u=S++[u]:=by simp
end L3

namespace L3
open PySem PySem.Spec PyProof.Rows L2
section
variable {X:Cx}{Z:Zx}
end
end L3

namespace L3
open PySem PySem.Spec PyProof.Rows L2
section
variable {X:Cx}{Z:Zx}{pos:Pos}
end
section
variable {X:Cx}{Z:Zx}{elt iter:Expr}{x:Str}{px pos:Pos}{ifs:List Expr}{sc ar:Scope}{N:List Str}{caps:List Nat}
theorem ziy {ta:TDA}{te:TDE}{dl:Ev}{S S1:Sto}{Q:DK}{j:Int}(g:Nat→D)(hta:∀K:List D→Sto→Prop,K [.int j] S1→ta dl S K)(hj:0≤j∧j≤1000)
  (ht:∀k:Nat,k < j.toNat→∀(S2:Sto) (K:DK),Pre S1 S2→K (g k) S2→te (some (.int k)::zbn caps dl) S2 K)(hq:Q (.ref S1.length) (S1++[.lst ((List.range j.toNat).map g)])):zcn caps ta zbW te dl S Q:=by
 unfold zcn
 refine hta _ ⟨⟨by omega,by omega⟩,fun k S2=>S2=S1++[.lst ((List.range k).map g)]∧k≤j.toNat,⟨by simp,by omega⟩,?_⟩
 rintro k S2 ⟨rfl,hk⟩
 split
 ·rename_i hk'
  unfold zcm zbW
  simp only[if_true]
  refine ht k hk' _ _ Pre.refl.push ?_
  rw[zat]
  refine⟨by simp; omega,?_,by omega⟩
  rw[List.range_succ,List.map_append,List.set_append_right _ _ (Nat.le_refl _)]
  simp
 ·have e:k=j.toNat:=by omega
  subst e
  exact hq
end

section
variable {X:Cx}{Z:Zx}{pos:Pos}
def zbA (zs:List Str):Str:=⟨(zs.flatMap fun z=>z.cps.toList).toArray⟩
abbrev TDO:=Ev→Sto→(Option Int→Sto→Prop)→Prop
def upP (K:PySem.W.Frag)(Z:Zx)(t:TDO):TO:=fun σ H Q=>∃(r:List Addr) (dl:Ev) (S:Sto) (Q':Option Int→Sto→Prop),Rs r H dl σ∧Rel K Z r S H∧t dl S Q'∧∀o H' r' S',Ext r r' H H'→Rel K Z r' S' H'→Q' o S'→Q o H'
def PDO (X:Cx)(Z:Zx)(e:Option Expr)(t:TDO):Prop:=PO X e (upP X.K Z t)
def zlT:TDO:=fun _ S Q=>Q none S
def dPart (t:TDE):TDO:=fun dl S Q=>t dl S fun d S1=>match d with
 | .int i=>Q (some i) S1
 | _=>False
theorem zkI {e:Option Expr}{t t':TO}(h:PO X e t)(g:∀σ H Q,t' σ H Q→t σ H Q):PO X e t':=fun pins s σ H Q I q=>h pins s σ H Q I (g σ H Q q)
theorem zoO:PDO X Z none zlT:=zkI zq3 fun σ H Q ⟨r,dl,S,Q',rs,rel,h,ret⟩=>ret none H r S Ext.refl rel h
theorem zjm {e:Expr}{t:TDE}(he:PD X Z e t):PDO X Z (some e) (dPart t):=zkI (zo6 he) fun σ H Q ⟨r,dl,S,Q',rs,rel,h,ret⟩=>⟨r,dl,S,_,rs,rel,h,fun v H1 r1 d S1 e1 rel1 p1 q1=>by
 cases p1 with
 | int i=>exact⟨i,rfl,ret (some i) H1 r1 S1 e1 rel1 q1⟩
 | _=>exact(show False from q1).elim⟩
end
section
variable {X:Cx}{Z:Zx}
end
section
variable {X:Cx}{Z:Zx}
end
theorem zay {n:Nat}{S:Sto}{o:Ob}{Q:DK}{i:Int}{d:D}(ho:S[n]?=some o)(hd:atI (zah o) i=some d)(hq:Q d S)(hL:zbC o=some o:=by rfl):zbL wIx (.ref n) (.int i) S Q:=by
 rw[zb4]
 unfold wIx
 simp only[zaB ho hL,hd]
 exact hq
end L3

namespace L3
open PySem PySem.Spec PyProof.Rows L2
def zd9 (f:Str)(v:D):List (Str×D)→List (Str×D)
 | []=>[(f,v)]
 | p::r=>if p.1=f then (f,v)::r else p::zd9 f v r
theorem FR.lookup {r:List Addr}{H:Hp}{f:Str}:∀ {fs:List (Str×D)} {fs':List (Str×V)},FR r H fs fs'→(∀d,fs.lookup f=some d→∃v,fs'.lookup f=some v∧Rp r H d v)∧(fs.lookup f=none→fs'.lookup f=none)
 | [],fs',h=>by
  have e:fs'=[]:=by
   have:=h.1
   simpa using this.symm
  subst e
  exact⟨fun d z=>by simp at z,fun _=>rfl⟩
 | p::fs,[],h=>by
  have:=h.1
  simp at this
 | p::fs,q::fs',h=>by
  obtain⟨h1,h2⟩:=h
  simp only[List.map_cons,List.cons.injEq] at h1
  obtain⟨p1,p2⟩:=h2.tail
  obtain⟨i1,i2⟩:=FR.lookup (f:=f) (fs:=fs) (fs':=fs') ⟨h1.2,p2⟩
  obtain⟨pk,pv⟩:=p
  obtain⟨qk,qv⟩:=q
  have ek:pk=qk:=h1.1
  subst ek
  by_cases z:f=pk
  ·subst z
   simp only[List.lookup_cons_self]
   exact⟨fun d hd=>⟨qv,rfl,by cases hd; exact p1⟩,fun hd=>by cases hd⟩
  ·have zb:(f == pk)=false:=by simpa using z
   simp only[List.lookup_cons,zb]
   exact⟨i1,i2⟩
theorem FR.put {r:List Addr}{H:Hp}{f:Str}{d:D}{v:V}(q:Rp r H d v):∀ {fs:List (Str×D)} {fs':List (Str×V)},FR r H fs fs'→FR r H (zd9 f d fs) (zbc f v fs')
 | [],fs',h=>by
  have e:fs'=[]:=by
   have:=h.1
   simpa using this.symm
  subst e
  exact⟨rfl,Rps.cons q Rps.nil⟩
 | p::fs,[],h=>by
  have:=h.1
  simp at this
 | p::fs,p'::fs',h=>by
  obtain⟨h1,h2⟩:=h
  simp only[List.map_cons,List.cons.injEq] at h1
  obtain⟨p1,p2⟩:=h2.tail
  have ih:=FR.put (f:=f) q (fs:=fs) (fs':=fs') ⟨h1.2,p2⟩
  obtain⟨pk,pv⟩:=p
  obtain⟨qk,qv⟩:=p'
  have ek:pk=qk:=h1.1
  subst ek
  unfold zd9 zbc
  by_cases z:pk=f
  ·rw[if_pos z,if_pos z]
   exact⟨by simp[h1.2,z],Rps.cons q p2⟩
  ·rw[if_neg z,if_neg z]
   exact⟨by simp[ih.1],Rps.cons p1 ih.2⟩
section
variable {X:Cx}{Z:Zx}{pos:Pos}
def zb6 (C:Addr)(S:Sto):D→Option (Nat×List (Str×D))
 | .ref n=>match S[n]? with
  | some (.ins C' fs)=>if C'=C then some (n,fs) else none
  | _=>none
 | _=>none
theorem zjC {C:Addr}{S:Sto}{d:D}{n:Nat}{fs:List (Str×D)}(h:zb6 C S d=some (n,fs)):d=.ref n∧S[n]?=some (.ins C fs):=by
 unfold zb6 at h
 split at h
 ·split at h
  ·rename_i m _ C' fs' e
   split at h
   ·rename_i ec
    subst ec
    simp only[Option.some.injEq,Prod.mk.injEq] at h
    obtain⟨rfl,rfl⟩:=h
    exact⟨rfl,e⟩
   ·cases h
  ·cases h
 ·cases h
@[irreducible] def zhh (C:Addr)(f:Str)(to:TDE):TDE:=fun dl S Q=>to dl S fun d S1=>match zb6 C S1 d with
 | some (_,fs)=>match fs.lookup f with
  | some v=>Q v S1
  | none=>False
 | none=>False
theorem zaV {C:Addr}{f:Str}{o:Expr}{to:TDE}(c:Cls X.K C)(n:zbb X.K C f)(ho:PD X Z o to)(hb:attributeBase o f X.env (eval o X.env)=eval o X.env:=by rfl):PD X Z (.Attribute o f pos) (zhh C f to):=
 zaN (znY ho hb) fun σ H Qv ⟨r,dl,S,Q,rs,rel,h,ret⟩=>by unfold zhh at h; exact⟨r,dl,S,_,rs,rel,h,fun v H1 r1 d S1 e1 rel1 p1 q1=>by
  split at q1
  ·rename_i m fs ei
   obtain⟨rfl,eS⟩:=zjC ei
   split at q1
   ·rename_i w ew
    obtain⟨a,ha,ob⟩:=rel1.at eS
    obtain⟨dx,fs',eH,fr⟩:=ob
    cases p1 with
    | ref hr=>
     rw[hr] at ha; cases ha
     obtain⟨u,hu,pu⟩:=fr.lookup.1 w ew
     exact⟨a,C,dx,fs',u,rfl,eH,c,n,hu,ret u H1 r1 w S1 e1 rel1 pu q1⟩
   ·exact q1.elim
  ·exact q1.elim⟩
@[irreducible] def zij (C:Addr)(f:Str)(to te:TDE):TDS:=fun E dl S=>te dl S fun v S1=>to dl S1 fun d S2=>match zb6 C S2 d with
 | some (n,fs)=>fs.length < 1000∧E.nx dl (S2.set n (.ins C (zd9 f v fs)))
 | none=>False
theorem zbV {C:Addr}{f:Str}{o e:Expr}{to te:TDE}{p2:Pos}(c:Cls X.K C)(n:zbb X.K C f)(ho:PD X Z o to)(he:PD X Z e te)
  (hs:swapsWith e (some (.Attribute o f p2)) pos.line X.env=pure false:=by rfl):PDS X Z (.Assign [.Attribute o f p2] e pos) (zij C f to te):=
 zbF (znl ho he hs) fun F σ H ⟨r,dl,S,E,rs,rel,h,ret⟩=>by unfold zij at h; exact⟨r,dl,S,_,rs,rel,h,fun v H1 r1 dv S1 e1 rel1 p1 q1=>⟨r1,dl,S1,_,rs.ext e1,rel1,q1,fun w H2 r2 d S2 e2 rel2 p2' q2=>by
  split at q2
  ·rename_i m fs ei
   obtain⟨rfl,eS⟩:=zjC ei
   obtain⟨hl,q2⟩:=q2
   obtain⟨a,ha,ob⟩:=rel2.at eS
   obtain⟨dx,fs',eH,fr⟩:=id ob
   cases p2' with
   | ref hr=>
    rw[hr] at ha; cases ha
    have hlen:fs'.length=fs.length:=by
     have:=congrArg List.length fr.1
     simpa using this.symm
    obtain⟨rb,x⟩:=rel2.b.setO (o':=.ins C (zd9 f dv fs)) (u:=.ins C dx (zbc f v fs')) hr eS rfl rfl fun x=>⟨dx,_,zbN,(fr.put (p1.ext e2)).ext x⟩
    exact⟨a,C,dx,fs',rfl,eH,c,n,by omega,ret.nx _ _ r2 _ _ (e1.trans (e2.trans x)) (rs.ext (e1.trans (e2.trans x))) ⟨rb,rel2.xw.ext x⟩ q2⟩
  ·exact q2.elim⟩⟩
@[irreducible] def zgu (C:Addr)(m:Str)(ex:Ev→Addr→Sto→Prop)(sd:Sd)(to:TDE)(t:TDA):TDE:=fun dl S Q=>to dl S fun d S1=>match zb6 C S1 d with
 | some (_,fs)=>fs.lookup m=none∧t dl S1 fun ds S2=>sd (d::ds) S2 Q (ex dl)
 | none=>False
theorem zqd {C:Addr}{m:Str}{f:Addr}{fd:FuncData}{k:Nat}{ps:List Str}{sp:Sp}{W:St→XK}{o e:Expr}{es:List Expr}{ta:TE}{t:TA}{apos:Pos}{pl:Sem Bool}(he:PE X o ta)(c:Cls X.K C)(hm:zd6 X.K C m f)
  (F:za3 X.prog X.w X.K X.mg X.base (CXE X.prog X.w) k f fd ps sp)(hr:zaD k X.A)(hb:zbl X.K fd ps [])(hx:zci X W)(ha:PA X (e::es) t)(hst:starEach (e::es) X.env=(false,eval e X.env)::starEach es X.env)(hpl:(backTo pos (starEach es X.env)).any (·.1)=false)
  (ht:eval (.Call (.Attribute o m apos) (e::es) [] pos) X.env=(do
   let ov ← eval o X.env
   standAt apos.atName
   let (f,first) ← holding [ov] (getMethod ov m pl)
   callWith pos f first (backTo pos (starEach (e::es) X.env)) (backToKw pos (keywordEach [] X.env)))):
  PE X (.Call (.Attribute o m apos) (e::es) [] pos) (fun σ H Q=>ta σ H fun x H1=>∃a dx fs,x=.ref a∧H1 a=some (.ins C dx fs)∧fs.lookup m=none∧t σ H1 fun vs H2=>sp (x::vs) H2 Q (W σ)):=by
 intro pins s σ H Q I h
 refine PySem.W.methodCall_KW (pl:=pl) (thn (he pins s σ H _ I h) fun u s1 ⟨x,H1,I1,rx,a,dx,fs,ex,ea,l,q⟩=>?_) ht
 subst ex
 obtain rfl:u=Value.ref a:=rx
 refine zlj I1 ea c hm l ?_
 exact PySem.W.callWith_K (first:=[.ref a]) (h₀:=X.base) I.ok.mod.kin hm.kp (thn (ha pos pins s1 σ H1 _ I1 q) fun us s2 ⟨vs,H2,I2,r,q2⟩=>⟨I2.kIn,zji (us:=.ref a::us) (vs:=.ref a::vs) F hr hb hx I2 (.cons rfl r) q2⟩) hst hpl
theorem zkx {C:Addr}{r:List Addr}{S:Sto}{H:Hp}{d:D}{v:V}{n:Nat}{fs:List (Str×D)}(rel:zaH X.K r S H)(p:Rp r H d v)(h:zb6 C S d=some (n,fs)):∃a dx fs',v=.ref a∧r[n]?=some a∧H a=some (.ins C dx fs')∧FR r H fs fs':=by
 obtain⟨rfl,eS⟩:=zjC h
 obtain⟨a,ha,dx,fs',eH,fr⟩:=rel.at eS
 cases p with
 | ref hr=>
  rw[hr] at ha; cases ha
  exact⟨a,dx,fs',rfl,hr,eH,fr⟩
theorem ziB {C:Addr}{m:Str}{f:Addr}{fd:FuncData}{k:Nat}{ps:List Str}{sd:Sd}{o e:Expr}{es:List Expr}{to:TDE}{t:TDA}{apos:Pos}{pl:Sem Bool}{ex:Ev→Addr→Sto→Prop}{W:St→XK}(ho:PD X ⟨ex,W⟩ o to)(c:Cls X.K C)(hm:zd6 X.K C m f)
  (F:za3 X.prog X.w X.K X.mg X.base (CXE X.prog X.w) k f fd ps (upF X.K sd))(hr:zaD k X.A)(hb:zbl X.K fd ps [])(hx:zci X W)(ha:PDA X ⟨ex,W⟩ (e::es) t)
  (hst:starEach (e::es) X.env=(false,eval e X.env)::starEach es X.env:=by rfl)(hpl:(backTo pos (starEach es X.env)).any (·.1)=false:=by rfl)
  (ht:eval (.Call (.Attribute o m apos) (e::es) [] pos) X.env=(do
   let ov ← eval o X.env
   standAt apos.atName
   let (f,first) ← holding [ov] (getMethod ov m pl)
   callWith pos f first (backTo pos (starEach (e::es) X.env)) (backToKw pos (keywordEach [] X.env))):=by rfl):PD X ⟨ex,W⟩ (.Call (.Attribute o m apos) (e::es) [] pos) (zgu C m ex sd to t):=
 zaN (zqd ho c hm F hr hb hx ha hst hpl ht) fun σ H Qv ⟨r,dl,S,Q,rs,rel,h,ret⟩=>by unfold zgu at h; exact⟨r,dl,S,_,rs,rel,h,fun v H1 r1 d S1 e1 rel1 p1 q1=>by
  split at q1
  ·rename_i n fs ei
   obtain⟨hl,q1⟩:=q1
   obtain⟨a,dx,fs',rfl,hr1,eH,fr⟩:=zkx rel1.b p1 ei
   exact⟨a,dx,fs',rfl,eH,fr.lookup.2 hl,r1,dl,S1,_,rs.ext e1,rel1,q1,fun vs H2 r2 ds S2 e2 rel2 p2 q2=>ziu (Z:=⟨ex,W⟩) (rs.ext (e1.trans e2)) rel2 (Rps.cons (p1.ext e2) p2) q2 (ret.ext (e1.trans e2))⟩
  ·exact q1.elim⟩
def dMake (C:Addr)(ex:Addr→Sto→Prop)(sd:Sd)(t:TDA):TDE:=fun dl S Q=>t dl S fun ds S1=>sd (.ref S1.length::ds) (S1++[.ins C []]) (fun d S2=>d=.non∧Q (.ref S1.length) S2) ex
theorem zru {C x dx:Addr}{r:List Addr}{S:Sto}{H:Hp}(rel:Rel X.K Z r S H)(h1:H x=none)(h2:H dx=none)(h3:dx≠x):
  Rel X.K Z (r++[x]) (S++[.ins C []]) (upd (upd H dx (.own x)) x (.ins C dx []))∧Ext r (r++[x]) H (upd (upd H dx (.own x)) x (.ins C dx [])):=by
 obtain⟨rb,e⟩:=rel.b.pushO (o:=.ins C []) (H':=upd (upd H dx (.own x)) x (.ins C dx [])) h1 (fun b u q=>by rw[zaR (zcJ q h1),zaR (zcJ q h2)]; exact q) fun _=>⟨dx,[],zbN,FR.nil⟩
 exact⟨⟨rb,rel.xw.ext e⟩,e⟩
theorem zlJ {C x:Addr}{r r':List Addr}{n:Nat}{H H':Hp}{Z:Zx}{K:PySem.W.Frag}{Q:DK}{Qv:VK}(ret:Ret K Z r H Q Qv)(e:Ext r r' H H')(hx:r'[n]?=some x):
  Ret K Z r' H' (fun d S2=>d=.non∧Q (.ref n) S2) (fun v H2=>v=.non∧Qv (.ref x) H2):=fun v H2 r2 d S2 e2 rel2 p2 q2=>by
 obtain⟨rfl,q2⟩:=q2
 cases p2
 exact⟨rfl,ret _ H2 r2 (.ref n) S2 (e.trans e2) rel2 (.ref (e2.adr _ _ hx)) q2⟩
theorem zdy {C f:Addr}{fd:FuncData}{k:Nat}{ps:List Str}{sd:Sd}{ex:Addr→Sto→Prop}{W:XK}{x:Str}{p:Pos}{e:Expr}{es:List Expr}{t:TDA}(M:Mk X.K C f)
  (F:za3 X.prog X.w X.K X.mg X.base (CXE X.prog X.w) k f fd ps (upF X.K sd))(hr:zaD (k + 1) X.A)(hg:Gl X x)(hm:X.mg x=some (.ref C))(hb:zbl X.K fd ps [])(hx:zgV (CXE X.prog X.w) X W)(ha:PDA X (Zc ex W) (e::es) t)
  (hdb:(x == ("__debug__":Str))=false:=by decide)(he:starEach (e::es) X.env=(false,eval e X.env)::starEach es X.env:=by rfl)(hpl:(backTo pos (starEach es X.env)).any (·.1)=false:=by rfl):
  PD X (Zc ex W) (.Call (.Name x p) (e::es) [] pos) (dMake C ex sd t):=
 zaN (zl8 M F hr hg hm hb .nil hx ha hdb he hpl) fun σ H Qv ⟨r,dl,S,Q,rs,rel,h,ret⟩=>⟨r,dl,S,_,rs,rel,h,fun vs H1 r1 ds S1 e1 rel1 p1 q1=>fun x dx n1 n2 n3=>by
  obtain⟨rel2,e2⟩:=zru (C:=C) rel1 n1 n2 n3
  show upF X.K sd (.ref x::(vs++[])) _ _ W
  rw[List.append_nil]
  exact⟨ex,_,_,.ref S1.length::ds,_,rel2,Rps.cons (zdP rel1.len) (p1.ext e2),q1,zlJ (C:=C) ret (e1.trans e2) (zel rel1.len)⟩⟩
end
end L3

namespace L3
open PySem PySem.Spec PyProof.Rows L2
section
variable {κ:Type} [DecidableEq κ]
end
section
variable {X:Cx}{Z:Zx}{pos:Pos}
end
end L3

namespace L3
open PySem PySem.Spec PyProof.Rows L2
section
variable {X:Cx}{Z:Zx}{pos:Pos}
def zaT (xs:List D)(lo hi:Option Int):List D:=(xs.drop (HT.sIx xs.length 0 lo)).take (HT.sIx xs.length xs.length hi - HT.sIx xs.length 0 lo)
theorem Rps.drop {r:List Addr}{H:Hp}{ds:List D}{vs:List V}(h:Rps r H ds vs)(k:Nat):Rps r H (ds.drop k) (vs.drop k):=
 ⟨by simp[h.1],fun i d v h1 h2=>h.2 (k + i) d v (by simpa using h1) (by simpa using h2)⟩
theorem Rps.take {r:List Addr}{H:Hp}{ds:List D}{vs:List V}(h:Rps r H ds vs)(k:Nat):Rps r H (ds.take k) (vs.take k):=by
 refine⟨by simp[h.1],fun i d v h1 h2=>?_⟩
 rw[List.getElem?_take] at h1 h2
 split at h1
 ·rw[if_pos (by assumption)] at h2
  exact h.2 i d v h1 h2
 ·cases h1
theorem Rps.cut {r:List Addr}{H:Hp}{ds:List D}{vs:List V}(h:Rps r H ds vs)(lo hi:Option Int):Rps r H (zaT ds lo hi) (zdB vs lo hi):=by
 unfold zaT zdB
 rw[h.1]
 exact(h.drop _).take _
@[irreducible] def zgR (te:TDE)(tl th:TDO):TDE:=fun dl S Q=>te dl S fun d S1=>tl dl S1 fun l S2=>th dl S2 fun u S3=>match d with
 | .ref n=>match lAt S3 n with
  | some o=>Q (.ref S3.length) (S3++[.lst (zaT (zah o) l u)])
  | none=>False
 | _=>False
theorem zkp {e:Expr}{te:TDE}{lo hi:Option Expr}{tl th:TDO}{p2:Pos}(he:PD X Z e te)(hl:PDO X Z lo tl)(hu:PDO X Z hi th):PD X Z (.Subscript e (.Slice lo hi none p2) pos) (zgR te tl th):=
 zaN (zpO zpZ he hl hu) fun σ H Qv ⟨r,dl,S,Q,rs,rel,h,ret⟩=>by
  unfold zgR at h
  refine⟨r,dl,S,_,rs,rel,h,fun v H1 r1 d S1 e1 rel1 p1 q1=>⟨r1,dl,S1,_,rs.ext e1,rel1,q1,fun l H2 r2 S2 e2 rel2 q2=>⟨r2,dl,S2,_,rs.ext (e1.trans e2),rel2,q2,fun u H3 r3 S3 e3 rel3 q3=>?_⟩⟩⟩
  cases p1 with
  | @ref n a hn=>
   dsimp only at q3
   split at q3
   ·rename_i o eo
    obtain⟨eo,eL⟩:=zbs eo
    obtain⟨a',ha,ob⟩:=rel3.at eo
    rw[e3.adr _ _ (e2.adr _ _ hn)] at ha; cases ha
    obtain⟨xs,sq,pr⟩:=ob.list eL
    refine⟨a,xs,rfl,sq,fun p hp=>?_⟩
    obtain⟨rel4,x⟩:=rel3.push hp (pr.cut l u)
    exact ret _ _ _ (.ref S3.length) _ (e1.trans (e2.trans (e3.trans x))) rel4 (zdP rel3.len) q3
   ·exact q3.elim
  | _=>exact(show False from q3).elim
theorem zkz {te:TDE}{tl th:TDO}{dl:Ev}{S S3:Sto}{Q:DK}{n:Nat}{o:Ob}{lo hi:Option Int}(h:∀K:DK,K (.ref n) S3→te dl S K)(hl:∀K:Option Int→Sto→Prop,K lo S3→tl dl S3 K)(hh:∀K:Option Int→Sto→Prop,K hi S3→th dl S3 K)(ho:S3[n]?=some o)
  (hq:Q (.ref S3.length) (S3++[.lst (zaT (zah o) lo hi)]))(hL:zbC o=some o:=by rfl):zgR te tl th dl S Q:=by
 unfold zgR
 refine h _ (hl _ (hh _ ?_))
 simp only[zaB ho hL]
 exact hq
end
end L3

namespace L3
open PySem PySem.Spec PyProof.Rows L2
section
variable {X:Cx}{Z:Zx}{pos:Pos}
@[irreducible] def dSetIx (to ti te:TDE):TDS:=fun E dl S=>te dl S fun v S1=>to dl S1 fun d S2=>ti dl S2 fun i S3=>match d,i with
 | .ref n,.int k=>match S3[n]? with
  | some (.lst xs)=>match ixN xs.length k with
   | some j=>E.nx dl (S3.set n (.lst (xs.set j v)))
   | none=>False
  | _=>False
 | _,_=>False
def zce (f:D→D→Option Bool):List D→D→Option (Option Nat)
 | [],_=>some none
 | y::ys,x=>match f y x,zce f ys x with
  | some true,some _=>some (some 0)
  | some false,some o=>some (o.map (· + 1))
  | _,_=>none
theorem ziH {f:D→D→Option Bool}{x:D}:∀ {ys:List D} {o:Option Nat},zce f ys x=some o→(∀y∈ys,∃c,f y x=some c)∧∀j,o=some j→(∃y,ys[j]?=some y∧f y x=some true)∧∀m y,m < j→ys[m]?=some y→f y x=some false
 | [],o,e=>by
  have h:=Option.some.inj e
  subst h
  exact⟨(fun y hy=>by cases hy),fun j z=>by cases z⟩
 | y::ys,o,e=>by
  unfold zce at e
  split at e
  ·rename_i o1 e1 e2
   have h:=Option.some.inj e
   subst h
   obtain⟨h1,_⟩:=ziH e2
   refine⟨fun z hz=>?_,fun j hj=>?_⟩
   ·rcases List.mem_cons.mp hz with rfl | hz
    ·exact⟨true,e1⟩
    ·exact h1 z hz
   ·cases hj
    exact⟨⟨y,rfl,e1⟩,fun m z hm=>by omega⟩
  ·rename_i o1 e1 e2
   have h:=Option.some.inj e
   subst h
   obtain⟨h1,h2⟩:=ziH e2
   refine⟨fun z hz=>?_,fun j hj=>?_⟩
   ·rcases List.mem_cons.mp hz with rfl | hz
    ·exact⟨false,e1⟩
    ·exact h1 z hz
   ·obtain⟨k,rfl,rfl⟩:=Option.map_eq_some_iff.mp hj
    obtain⟨⟨z,hz1,hz2⟩,h3⟩:=h2 k rfl
    refine⟨⟨z,by simpa using hz1,hz2⟩,fun m w hm hw=>?_⟩
    cases m with
    | zero=>
     have:w=y:=by simpa using hw.symm
     rw[this]; exact e1
    | succ m=>exact h3 m w (by omega) (by simpa using hw)
  ·cases e
theorem zpH {k:Nat}{pins:List (Addr×Obj)}{σ:St}{H:Hp}{s:Shared}{r:List Addr}{A:Around}{ds:List D}{vs:List V}{us:List Value}{dx:D}{x:V}{u:Value}{j:Nat}(I:Inv X pins σ H s)(hu:A.units + k < cLine)
  (p:Rps r H ds vs)(rv:zap vs us)(px:Rp r H dx x)(rx:zal x u)(e:zce (eqN k) ds dx=some (some j)):
  ∃g:Value→Bool,(∀y,y∈us.toArray→SeqAt.EqAt A s y u (g y))∧∃hj:j < us.toArray.size,g us.toArray[j]=true∧∀m (hm:m < us.toArray.size),m < j→g us.toArray[m]=false:=by
 obtain⟨h1,h2⟩:=ziH e
 obtain⟨⟨yj,hyj,htj⟩,hno⟩:=h2 j rfl
 classical
 have at_:∀(m:Nat) (hm:m < us.length),∃d v,ds[m]?=some d∧Rp r H d v∧zal v us[m]:=fun m hm=>by
  have hv:m < vs.length:=by rw[rv.length]; exact hm
  have gv:vs[m]?=some vs[m]:=by simp[hv]
  obtain⟨w,gw,rw'⟩:=rv.get gv
  obtain⟨d,gd,pd⟩:=p.get' gv
  have ew:w=us[m]:=by
   rw[List.getElem?_eq_getElem hm] at gw
   exact(Option.some.inj gw).symm
  subst ew
  exact⟨d,_,gd,pd,rw'⟩
 have val:∀(m:Nat) (hm:m < us.length) (d:D) (c:Bool),ds[m]?=some d→eqN k d dx=some c→decide (∃d v,d∈ds∧Rp r H d v∧zal v us[m]∧eqN k d dx=some true)=c:=fun m hm d c hd hc=>by
  obtain⟨d',v',gd,pd,rd⟩:=at_ m hm
  rw[hd] at gd; cases gd
  cases c with
  | true=>exact decide_eq_true ⟨d,v',List.mem_of_getElem? hd,pd,rd,hc⟩
  | false=>
   refine decide_eq_false fun ⟨d2,v2,_,pd2,rd2,hc2⟩=>?_
   have ev:=zlD rd rd2
   subst ev
   exact absurd (zi3 k d d2 dx v' false true pd pd2 hc hc2) (by decide)
 refine⟨fun y=>decide (∃d v,d∈ds∧Rp r H d v∧zal v y∧eqN k d dx=some true),fun y hy=>?_,?_⟩
 ·have hy':y∈us:=by simpa using hy
  obtain⟨m,hm,rfl⟩:=List.mem_iff_getElem.mp hy'
  obtain⟨d,v,gd,pd,rd⟩:=at_ m hm
  obtain⟨c,hc⟩:=h1 d (List.mem_of_getElem? gd)
  show SeqAt.EqAt A s us[m] u (decide _)
  rw[val m hm d c gd hc]
  exact zgj k X pins σ H s r A d dx v x _ u c I hu pd px rd rx hc
 ·have hjl:j < us.length:=by
   have:=(List.getElem?_eq_some_iff.mp hyj).1
   rw[p.1,rv.length] at this
   exact this
  refine⟨by simpa using hjl,?_,fun m hm hmj=>?_⟩
  ·have z:=val j hjl yj true hyj htj
   simpa using z
  ·have hm':m < us.length:=by simpa using hm
   obtain⟨d,v,gd,pd,rd⟩:=at_ m hm'
   have z:=val m hm' d false gd (hno m d hmj gd)
   simpa using z
def zgS (k:Nat)(d y:D)(S:Sto)(Q:DK):Prop:=match d with
 | .ref n=>match lAt S n with
  | some o=>match zce (eqN k) (zah o) y with
   | some (some j)=>Q (.int (j:Int)) S
   | _=>False
  | none=>False
 | _=>False
@[irreducible] def zgl (k:Nat)(to:TDE)(t:TDA):TDE:=fun dl S Q=>to dl S fun d S1=>(match d with
 | .ref n=>(lAt S1 n).isSome=true∧t dl S1 fun ds S2=>match ds with
  | [y]=>zgS k d y S2 Q
  | _=>False
 | _=>False)
theorem zrA {k j:Nat}(hr:zaD j X.A)(hk:k≤3):MtR X "list.index" (fun x xs H Qv=>∃(r:List Addr) (S:Sto) (d y:D) (v:V) (Q:DK),Rel X.K Z r S H∧Rp r H d x∧xs=[v]∧Rp r H y v∧zgS k d y S Q∧Ret X.K Z r H Q Qv):=by
 intro pins s σ H x xs v us Qv I rx rv h
 obtain⟨r,S,d,y,v1,Q,rel,pd,rfl,py,q,ret⟩:=h
 obtain⟨u,rfl,ru⟩:=zc8 rv
 unfold zgS at q
 split at q
 ·rename_i n
  split at q
  ·rename_i o eo
   obtain⟨eo,eL⟩:=zbs eo
   split at q
   ·rename_i i ei
    cases pd with
    | @ref n a hn=>
     cases rx
     obtain⟨a',ha,ob⟩:=rel.at eo
     rw[hn] at ha; cases ha
     obtain⟨ys,sq,pr⟩:=ob.list eL
     obtain⟨its,ri,pl,hz⟩:=I.list sq
     have hun:=hr.un
     obtain⟨g,g1,hj,g2,g3⟩:=zpH (A:=X.A.in1) I (by show X.A.units + 1 + k < _; omega) pr ri py ru ei
     obtain⟨ob2,m,e,c,hd,hdat⟩:=pl
     obtain⟨oc,od,odat,osl⟩:=ob2
     have c':oc=.type "list":=c
     have hdat':odat=.seq its.toArray m:=hdat
     subst c' hdat'
     refine call_meets PySem.F.slot_list_index ⟨_,e,rfl⟩ PySem.F.entry_list_index (PySem.F.args_list_index_2 _ _) (PySem.SeqAt.list_indexAt a its.toArray m od osl u g i hj (by
      have:its.toArray.size≤sizeLine:=by rw[List.size_toArray,← ri.length]; exact hz
      have h2:=zhB
      omega) g2 fun m hm h2=>g3 m hm h2) ⟨e,g1,?_⟩
     exact⟨.int (i:Int),H,I.tok _,⟨_,rfl⟩,ret _ H r (.int _) S Ext.refl rel (.int _) q⟩
   ·exact q.elim
  ·exact q.elim
 ·exact q.elim
theorem zkQ {k j:Nat}{o e:Expr}{to:TDE}{t:TDA}{apos cpos:Pos}(hr:zaD j X.A)(hk:k≤3)(ho:PD X Z o to)(ha:PDA X Z [e] t)(hbase:attributeBase o "index" X.env (eval o X.env)=eval o X.env:=by rfl)
  (hfew:((backTo cpos (starEach [e] X.env)).all (fun x=>!x.1) && (backToKw cpos (keywordEach [] X.env)).all (fun x=>x.1.isSome)
   && decide ([e].length + ([]:List Keyword).length + (if ([]:List Keyword).isEmpty then 0 else 1) < 30))=true:=by rfl)
  (hline:(apos.endLine == cpos.line)=true:=by rfl)(hs:starEach [e] X.env=(false,eval e X.env)::starEach [] X.env:=by rfl)(hplain:(backTo cpos (starEach [] X.env)).any (·.1)=false:=by rfl):
  PD X Z (.Call (.Attribute o "index" apos) [e] [] cpos) (zgl k to t):=
 zaN (ziw (T:="list") PySem.F.plainAttrs_list PySem.F.slot_list_index PySem.F.type_list_index (zrA (Z:=Z) hr hk) ho ha hbase hfew hline hs hplain) fun σ H Qv ⟨r,dl,S,Q,rs,rel,h,ret⟩=>by
  unfold zgl at h
  refine⟨r,dl,S,_,rs,rel,h,fun v H1 r1 d S1 e1 rel1 p1 q1=>?_⟩
  cases p1 with
  | @ref n a hn=>
   obtain⟨hsome,q1⟩:=q1
   obtain⟨o1,eo⟩:=Option.isSome_iff_exists.mp hsome
   obtain⟨eo,eL⟩:=zbs eo
   obtain⟨a',ha',ob⟩:=rel1.at eo
   rw[hn] at ha'; cases ha'
   obtain⟨xs,sq,_⟩:=ob.list eL
   refine⟨.inl ⟨rfl,xs,sq⟩,r1,dl,S1,_,rs.ext e1,rel1,q1,fun vs H2 r2 ds S2 e2 rel2 p2 q2=>?_⟩
   split at q2
   ·rename_i y
    obtain⟨v2,vs',rfl,p3,p4⟩:=p2.uncons
    have z:=p4.unnil
    subst z
    exact⟨r2,S2,.ref n,y,v2,Q,rel2,.ref (e2.adr _ _ hn),rfl,p3,q2,ret.ext (e1.trans e2)⟩
   ·exact q2.elim
  | _=>exact(show False from q1).elim
end
end L3

namespace L3
open PySem PySem.Spec PyProof.Rows L2
section
variable {X:Cx}{pins:List (Addr×Obj)}{σ:St}{H:Hp}{s:Shared}{h':Heap}
theorem zj1 {t':Nat}{ch:List Addr}{T:Addr}{xs:List V}{vals:Array Value}(I:Inv X pins σ H s)(k:∀b o,b ∉ ch→s.heap.get? b=some o→h'.get? b=some o)(hch:∀b∈ch,zbm X pins H b)
  (hT:s.heap.objs.size≤T)(ht:h'.IsTuple T vals)(rv:zap xs vals.toList)(hl:xs.length≤sizeLine):Inv X pins σ (upd H T (.tup xs)) { s with heap:=h',toks:=t' }:=by
 have hTn:H T=none:=I.hok.fresh hT
 have old:∀ {b:Addr} {o:Obj},s.heap.get? b=some o→b≠T:=fun {b o} e z=>absurd (Nat.lt_of_lt_of_le (Heap.lt_size e) hT) (by rw[z]; exact Nat.lt_irrefl _)
 have trk:∀b u,H b=some u→b ∉ ch:=fun b u e z=>by
  rw[(hch b z).1] at e; cases e
 have up:∀b u,H b=some u→(upd H T (.tup xs)) b=some u:=zca hTn
 refine I.step (g':=s.gens) (d':=s.drawn) (ch:=ch) (fun b hb=>?_) (fun b o _ _ hc e _=>k b o hc e) (fun b o _ _ hc e _=>⟨o.slots,k b o hc e⟩) (fun b o _ e n=>by rw[zaR (old e)]; exact n)
  (fun b o hc e=>⟨o,k b o hc e⟩) (fun b ys e=>up _ _ e) (fun b o u e=>up _ _ e) (fun b ps e=>⟨#[],by rw[up _ _ e]; simp⟩) (fun m hm=>?_) (fun b u e=>?_) I.bare
 ·obtain⟨_,f1,_,f3,f4,f5⟩:=hch b hb
  exact⟨f3,f1,f4,f5⟩
 ·obtain⟨o,es,ep,ho,r⟩:=hm
  exact⟨o,es,ep,k _ o (fun z=>(hch _ z).2.1 rfl) ho,r⟩
 ·by_cases hb:b=T
  ·subst hb
   rw[zbN] at e
   cases e
   exact⟨hl,vals.toList,rv,by rw[Array.toArray_toList]; exact ht⟩
  ·rw[zaR hb] at e
   refine(I.hok b u e).stay (fun c v hc q=>k c v ?_ q) (fun d z=>up _ _ z) fun d ys z=>up _ _ z
   rcases hc with z | z
   ·rw[z]; exact trk b u e
   ·exact trk c _ z
theorem zhd {t':Nat}{ch:List Addr}(I:Inv X pins σ H s)(k:∀b o,b ∉ ch→s.heap.get? b=some o→h'.get? b=some o)(hch:∀b∈ch,zbm X pins H b):Inv X pins σ H { s with heap:=h',toks:=t' }:=by
 have trk:∀b u,H b=some u→b ∉ ch:=fun b u e z=>by
  rw[(hch b z).1] at e; cases e
 refine I.step (g':=s.gens) (d':=s.drawn) (ch:=ch) (fun b hb=>?_) (fun b o _ _ hc e _=>k b o hc e) (fun b o _ _ hc e _=>⟨o.slots,k b o hc e⟩) (fun b o _ e n=>n)
  (fun b o hc e=>⟨o,k b o hc e⟩) (fun b ys e=>e) (fun b o u e=>e) (fun b ps e=>⟨#[],by rw[e]; simp⟩) (fun m hm=>?_) (fun b u e=>?_) I.bare
 ·obtain⟨_,f1,_,f3,f4,f5⟩:=hch b hb
  exact⟨f3,f1,f4,f5⟩
 ·obtain⟨o,es,ep,ho,r⟩:=hm
  exact⟨o,es,ep,k _ o (fun z=>(hch _ z).2.1 rfl) ho,r⟩
 ·refine(I.hok b u e).stay (fun c v hc q=>k c v ?_ q) (fun d z=>z) fun d ys z=>z
  rcases hc with z | z
  ·rw[z]; exact trk b u e
  ·exact trk c _ z
end
def Ite (K:PySem.W.Frag)(a:Addr):It:=
 ⟨fun i H=>∃xs x,SqL K H a xs∧xs[i]?=some x,fun i H x H'=>∃T v,x=.ref T∧H T=none∧H'=upd H T (.tup [.int (i:Int),v])∧∀xs,SqL K H a xs→xs[i]?=some v,fun i H=>∃xs,SqL K H a xs∧xs.length=i⟩
theorem zpU {P:Program}{w:World}{K:PySem.W.Frag}{elts:List Expr}{kk:Nat}{tp:Pos}(a e it:Addr)(hei:e≠it)(hae:a≠e)(hai:a≠it):
  zgh P w K (.Tuple elts kk tp) (Ite K a) [e,it] e (fun i h=>(∃old,IsEnum h e it i old)∧h.IsListIter it a i) where
 mem:=by simp
 obj:=fun i h st b hb=>by
  obtain⟨⟨old,he⟩,o,e1,c,d⟩:=st
  have hb':b=e∨b=it:=by simpa using hb
  rcases hb' with rfl | rfl
  ·exact⟨_,he,fun v z=>by cases z⟩
  ·exact⟨o,e1,fun v z=>by rw[d] at z; cases z⟩
 keep:=fun i h h' st k=>by
  obtain⟨⟨old,he⟩,hit⟩:=st
  exact⟨⟨old,k e (by simp) _ he⟩,hit.at fun o x=>k it (by simp) o x⟩
 item:=by
  intro X hP hw hK hc i pins s σ H E I hf st hg
  subst hP hw hK
  obtain⟨xs,x,hq,hx⟩:=hg
  obtain⟨its,rv,p,hz⟩:=I.list hq
  obtain⟨u,hu,ru⟩:=rv.get hx
  have hi:i < its.toArray.size:=by
   have:=(List.getElem?_eq_some_iff.mp hu).1
   simpa using this
  have W:=WalksT.enumerate (prog:=X.prog) (w:=X.w) (A:=X.A) (I.ok.hd hc) e it a hei hae hai its.toArray
  refine W.item i s _ _ hi ⟨st.1,st.2,p.isList⟩ fun T vals h' tk hP hT ht mid k1=>?_
  obtain⟨t,y,hy,rfl⟩:=hP
  have ey:y=u:=by
   have z:its[i]?=some y:=by simpa using hy
   rw[hu] at z; exact(Option.some.inj z).symm
  subst ey
  have hw:∀b∈[e,it],zbm X pins H b:=hf
  have I1:Inv X pins σ (upd H T (.tup [.int (i:Int),x])) { s with heap:=h',toks:=tk }:=zj1 I k1 hw hT ht (.cons ⟨t,rfl⟩ (.cons ru .nil)) (show 2≤sizeLine from zdI (by decide))
  have neT:∀b∈[e,it],b≠T:=fun b hb z=>W.apart i T h' mid (z ▸ hb)
  have hf1:∀b∈[e,it],zbm X pins (upd H T (.tup [.int (i:Int),x])) b:=fun b hb=>⟨by rw[zaR (neT b hb)]; exact(hf b hb).1,(hf b hb).2⟩
  refine⟨.ref T,rfl,W.go elts kk tp i T _ _ _ mid fun h2 st2 k2=>?_⟩
  have I2:Inv X pins σ (upd H T (.tup [.int (i:Int),x])) { s with heap:=h2,toks:=tk }:=zhd (s:={ s with heap:=h',toks:=tk }) (t':=tk) I1 k2 hf1
  exact⟨.ref T,_,I2,rfl,⟨T,x,rfl,I.hok.fresh hT,rfl,fun ys hy=>by rw[I.list_inj hy hq]; exact hx⟩,⟨st2.1,st2.2.1⟩,fun b hb=>(hf1 b hb).1⟩
 done:=by
  intro X hP hw hK hc i pins s σ H E I hf st hg
  subst hP hw hK
  obtain⟨xs,hq,hx⟩:=hg
  obtain⟨its,rv,p,hz⟩:=I.list hq
  have W:=WalksT.enumerate (prog:=X.prog) (w:=X.w) (A:=X.A) (I.ok.hd hc) e it a hei hae hai its.toArray
  have hi:i=its.toArray.size:=by rw[List.size_toArray,← rv.length]; exact hx.symm
  subst hi
  exact W.done s _ _ ⟨st.1,st.2,p.isList⟩ fun h' tk k1=>⟨rfl,zhd (t':=tk) I k1 hf⟩
 self:=fun A i s Q E st h=>by
  obtain⟨⟨old,he⟩,_⟩:=st
  exact wpAny_pyIter_enum he h
section
variable {X:Cx}
def zkP (K:PySem.W.Frag)(ta:TA):TI:=fun σ H R=>ta σ H fun vs H1=>∃a,vs=[.ref a]∧(∃xs,SqL K H1 a xs)∧R (Ite K a) H1
theorem zrl {a:Expr}{ta:TA}{p pos tp:Pos}{elts:List Expr}{kk:Nat}(hg:Gl X "enumerate")(hm:X.mg "enumerate"=none)(hv:bootBuiltins "enumerate"=some (.type "enumerate"))(ha:PA X [a] ta)(hs:starEach [a] X.env=[(false,eval a X.env)]:=by rfl):
  PI X (.Tuple elts kk tp) (.Call (.Name "enumerate" p) [a] [] pos) (zkP X.K ta):=by
 intro pins s σ H R I h
 refine Call_ (zdq I hg hm hv (PyProof.Rows.callWith_type1 (thn (ha pos pins s σ H _ I h) fun us s1 ⟨vs,H1,I1,r1,q1⟩=>?_) hs rfl))
 obtain⟨l,e,⟨xs,hq⟩,q⟩:=q1
 subst e
 cases r1 with
 | cons r rr=>
  cases rr
  cases r
  obtain⟨its,rv,pl,hz⟩:=I1.list hq
  have hll:l < s1.heap.objs.size:=by
   obtain⟨o,e,_⟩:=pl.isList
   exact Heap.lt_size e
  refine call_enumerate_list pl.isList fun h' he hit hsz hk=>?_
  have I2:Inv X pins σ H1 { s1 with heap:=h' }:=I1.kept (t':=s1.toks) hk
  refine wpAny_pyIter_enum he ⟨s1.heap.objs.size + 1,[s1.heap.objs.size + 1,s1.heap.objs.size],_,_,H1,rfl,I2,zpU l _ _ (Nat.succ_ne_self _) (Nat.ne_of_lt (Nat.lt_succ_of_lt hll)) (Nat.ne_of_lt hll),⟨⟨_,he⟩,hit⟩,fun b hb=>?_,q⟩
  have hb':b=s1.heap.objs.size + 1∨b=s1.heap.objs.size:=by simpa using hb
  rcases hb' with rfl | rfl
  ·exact I1.fpOk (Nat.le_succ _) (I1.hok.fresh (Nat.le_succ _))
  ·exact I1.fpOk (Nat.le_refl _) (I1.hok.fresh (Nat.le_refl _))
end
def Itz (K:PySem.W.Frag)(a b:Addr):It:=
  ⟨fun i H=>∃xs ys x y,SqL K H a xs∧SqL K H b ys∧xs[i]?=some x∧ys[i]?=some y,
   fun i H x H'=>∃T v u,x=.ref T∧H T=none∧H'=upd H T (.tup [v,u])∧(∀xs,SqL K H a xs→xs[i]?=some v)∧∀ys,SqL K H b ys→ys[i]?=some u,
   fun i H=>∃xs ys,SqL K H a xs∧SqL K H b ys∧min xs.length ys.length=i⟩
theorem zmq {P:Program}{w:World}{K:PySem.W.Frag}{elts:List Expr}{kk:Nat}{tp:Pos}(a b z TI TO i1 i2:Addr)(D:ZipApart z TI TO i1 i2 a b):
  zgh P w K (.Tuple elts kk tp) (Itz K a b) [z,TI,TO,i1,i2] z (fun i h=>IsZip h z TI TO .none∧IsPair h TI (.ref i1) (.ref i2)∧(∃p q,IsPair h TO p q)∧h.IsListIter i1 a i∧h.IsListIter i2 b i) where
 mem:=by simp
 obj:=fun i h st c hc=>by
  obtain⟨hz,hTI,⟨p,q,hTO⟩,⟨o1,e1,c1,d1⟩,o2,e2,c2,d2⟩:=st
  have hc':c=z∨c=TI∨c=TO∨c=i1∨c=i2:=by simpa using hc
  rcases hc' with rfl | rfl | rfl | rfl | rfl
  ·exact⟨_,hz,fun v y=>by cases y⟩
  ·exact⟨_,hTI,fun v y=>by cases y⟩
  ·exact⟨_,hTO,fun v y=>by cases y⟩
  ·exact⟨o1,e1,fun v y=>by rw[d1] at y; cases y⟩
  ·exact⟨o2,e2,fun v y=>by rw[d2] at y; cases y⟩
 keep:=fun i h h' st k=>by
  obtain⟨hz,hTI,⟨p,q,hTO⟩,h1,h2⟩:=st
  exact⟨k z (by simp) _ hz,k TI (by simp) _ hTI,⟨p,q,k TO (by simp) _ hTO⟩,h1.at fun o x=>k i1 (by simp) o x,h2.at fun o x=>k i2 (by simp) o x⟩
 item:=by
  intro X hP hw hK hc i pins s σ H E I hf st hg
  subst hP hw hK
  obtain⟨xs,ys,x,y,hq,hq2,hx,hy⟩:=hg
  obtain⟨its,rv,p,_⟩:=I.list hq
  obtain⟨jts,rv2,p2,_⟩:=I.list hq2
  obtain⟨u,hu,ru⟩:=rv.get hx
  obtain⟨u2,hu2,ru2⟩:=rv2.get hy
  have hi:i < min its.toArray.size jts.toArray.size:=by
   have z1:=(List.getElem?_eq_some_iff.mp hu).1
   have z2:=(List.getElem?_eq_some_iff.mp hu2).1
   have sizes:its.toArray.size=its.length∧jts.toArray.size=jts.length:=⟨by simp,by simp⟩
   omega
  have W:=WalksT.zip2 (prog:=X.prog) (w:=X.w) (A:=X.A) (I.ok.hd hc) z TI TO i1 i2 a b D its.toArray jts.toArray
  obtain⟨s1,s2,s3,s4,s5⟩:=st
  refine W.item i s _ _ hi ⟨s1,s2,s3,s4,s5,p.isList,p2.isList⟩ fun T vals h' tk hP hT ht mid k1=>?_
  obtain⟨v1,v2,hv1,hv2,rfl⟩:=hP
  have e1:v1=u:=by
   have z:its[i]?=some v1:=by simpa using hv1
   rw[hu] at z; exact(Option.some.inj z).symm
  have e2:v2=u2:=by
   have z:jts[i]?=some v2:=by simpa using hv2
   rw[hu2] at z; exact(Option.some.inj z).symm
  subst e1 e2
  have sub:∀c∈[z,TO,i1,i2],c∈[z,TI,TO,i1,i2]:=fun c hc=>by
   have hc':c=z∨c=TO∨c=i1∨c=i2:=by simpa using hc
   rcases hc' with rfl | rfl | rfl | rfl <;> simp
  have I1:Inv X pins σ (upd H T (.tup [x,y])) { s with heap:=h',toks:=tk }:=zj1 I k1 (fun c hc=>hf c (sub c hc)) hT ht (.cons ru (.cons ru2 .nil)) (show 2≤sizeLine from zdI (by decide))
  have tiT:TI≠T:=fun q=>by
   have hl:TI < s.heap.objs.size:=Heap.lt_size s2
   rw[q] at hl
   exact absurd (Nat.lt_of_lt_of_le hl hT) (Nat.lt_irrefl _)
  have neT:∀c∈[z,TI,TO,i1,i2],c≠T:=fun c hc q=>by
   have hc':c=TI∨c∈[z,TO,i1,i2]:=by
    have hc2:c=z∨c=TI∨c=TO∨c=i1∨c=i2:=by simpa using hc
    rcases hc2 with rfl | rfl | rfl | rfl | rfl <;> simp
   rcases hc' with rfl | hc'
   ·exact tiT q
   ·exact W.apart i T h' mid (q ▸ hc')
  have hf1:∀c∈[z,TI,TO,i1,i2],zbm X pins (upd H T (.tup [x,y])) c:=fun c hc=>⟨by rw[zaR (neT c hc)]; exact(hf c hc).1,(hf c hc).2⟩
  refine⟨.ref T,rfl,W.go elts kk tp i T _ _ _ mid fun h2 st2 k2=>?_⟩
  have I2:Inv X pins σ (upd H T (.tup [x,y])) { s with heap:=h2,toks:=tk }:=zhd (s:={ s with heap:=h',toks:=tk }) (t':=tk) I1 k2 fun c hc=>hf1 c (sub c hc)
  obtain⟨t1,t2,t3,t4,t5,_,_⟩:=st2
  exact⟨.ref T,_,I2,rfl,⟨T,x,y,rfl,I.hok.fresh hT,rfl,fun zs hz=>by rw[I.list_inj hz hq]; exact hx,fun zs hz=>by rw[I.list_inj hz hq2]; exact hy⟩,⟨t1,t2,t3,t4,t5⟩,fun c hc=>(hf1 c hc).1⟩
 done:=by
  intro X hP hw hK hc i pins s σ H E I hf st hg
  subst hP hw hK
  obtain⟨xs,ys,hq,hq2,hx⟩:=hg
  obtain⟨its,rv,p,_⟩:=I.list hq
  obtain⟨jts,rv2,p2,_⟩:=I.list hq2
  have W:=WalksT.zip2 (prog:=X.prog) (w:=X.w) (A:=X.A) (I.ok.hd hc) z TI TO i1 i2 a b D its.toArray jts.toArray
  have hi:i=min its.toArray.size jts.toArray.size:=by rw[List.size_toArray,List.size_toArray,← rv.length,← rv2.length]; exact hx.symm
  subst hi
  have sub:∀c∈[z,TO,i1,i2],c∈[z,TI,TO,i1,i2]:=fun c hc=>by
   have hc':c=z∨c=TO∨c=i1∨c=i2:=by simpa using hc
   rcases hc' with rfl | rfl | rfl | rfl <;> simp
  obtain⟨s1,s2,s3,s4,s5⟩:=st
  exact W.done s _ _ ⟨s1,s2,s3,s4,s5,p.isList,p2.isList⟩ fun h' tk k1=>⟨rfl,zhd (t':=tk) I k1 fun c hc=>hf c (sub c hc)⟩
 self:=fun A i s Q E st h=>wpAny_pyIter_zip st.1 h
section
variable {X:Cx}
theorem zmD {n l m:Nat}(h1:l < n)(h2:m < n):ZipApart (n + 4) (n + 2) (n + 3) n (n + 1) l m:=by
 have ne:∀ {i j:Nat},i < j∨j < i→i≠j:=fun {i j} h z=>by omega
 exact⟨ne (by omega),ne (by omega),ne (by omega),ne (by omega),ne (by omega),ne (by omega),ne (by omega),ne (by omega),ne (by omega),ne (by omega),ne (by omega),ne (by omega),ne (by omega),ne (by omega),ne (by omega),ne (by omega),ne (by omega),ne (by omega)⟩
def iZip (K:PySem.W.Frag)(ta:TA):TI:=fun σ H R=>ta σ H fun vs H1=>∃a b,vs=[.ref a,.ref b]∧(∃xs,SqL K H1 a xs)∧(∃ys,SqL K H1 b ys)∧R (Itz K a b) H1
theorem zju {a b:Expr}{ta:TA}{p pos tp:Pos}{elts:List Expr}{kk:Nat}(hg:Gl X "zip")(hm:X.mg "zip"=none)(hv:bootBuiltins "zip"=some (.type "zip"))(ha:PA X [a,b] ta)
  (hs:starEach [a,b] X.env=[(false,eval a X.env),(false,eval b X.env)]:=by rfl)(hs2:starEach [b] X.env=[(false,eval b X.env)]:=by rfl):PI X (.Tuple elts kk tp) (.Call (.Name "zip" p) [a,b] [] pos) (iZip X.K ta):=by
 intro pins s σ H R I h
 refine Call_ (zdq I hg hm hv (PyProof.Rows.callWith_type1 (thn (ha pos pins s σ H _ I h) fun us s1 ⟨vs,H1,I1,r1,q1⟩=>?_) (by rw[hs,hs2]) (by rw[hs2]; rfl)))
 obtain⟨l,m,e,⟨xs,hq⟩,⟨ys,hq2⟩,q⟩:=q1
 subst e
 cases r1 with
 | cons r rr=>
  cases rr with
  | cons r2 rr=>
   cases rr
   cases r
   cases r2
   obtain⟨its,rv,pl,_⟩:=I1.list hq
   obtain⟨jts,rv2,pl2,_⟩:=I1.list hq2
   have h1:l < s1.heap.objs.size:=by
    obtain⟨o,e,_⟩:=pl.isList
    exact Heap.lt_size e
   have h2:m < s1.heap.objs.size:=by
    obtain⟨o,e,_⟩:=pl2.isList
    exact Heap.lt_size e
   refine call_zip_2 pl.isList pl2.isList fun h' hz hTI hTO hi1 hi2 hsz hk=>?_
   have I2:Inv X pins σ H1 { s1 with heap:=h' }:=I1.kept (t':=s1.toks) hk
   have D:=zmD h1 h2
   refine wpAny_pyIter_zip hz ⟨s1.heap.objs.size + 4,[s1.heap.objs.size + 4,s1.heap.objs.size + 2,s1.heap.objs.size + 3,s1.heap.objs.size,s1.heap.objs.size + 1],_,_,H1,rfl,I2,zmq l m _ _ _ _ _ D,⟨hz,hTI,⟨_,_,hTO⟩,hi1,hi2⟩,fun c hc=>?_,q⟩
   have hge:s1.heap.objs.size≤c:=by
    have hc':c=s1.heap.objs.size + 4∨c=s1.heap.objs.size + 2∨c=s1.heap.objs.size + 3∨c=s1.heap.objs.size∨c=s1.heap.objs.size + 1:=by simpa using hc
    rcases hc' with rfl | rfl | rfl | rfl | rfl
    ·exact Nat.le_add_right _ _
    ·exact Nat.le_add_right _ _
    ·exact Nat.le_add_right _ _
    ·exact Nat.le_refl _
    ·exact Nat.le_add_right _ _
   exact I1.fpOk hge (I1.hok.fresh hge)
end
section
variable {X:Cx}{Z:Zx}{pos:Pos}
theorem zb1 {r r':List Addr}{S':Sto}{H':Hp}{n:Nat}{a:Addr}{o:Ob}(hn:r'[n]?=some a)(rel:zaH X.K r' S' H')(eo:lAt S' n=some o):∃xs,SqL X.K H' a xs∧Rps r' H' (zah o) xs:=by
 obtain⟨eo,eL⟩:=zbs eo
 obtain⟨a',ha,ob⟩:=rel.at eo
 rw[hn] at ha; cases ha
 exact ob.list eL
@[irreducible] def zdM (is:List Nat)(ta:TDA)(tb:TDS):TDS:=fun E dl S=>ta dl S fun ds S1=>match ds with
 | [.ref n,.ref n']=>((lAt S1 n).isSome=true∧(lAt S1 n').isSome=true)∧∃W:Nat→Nat→Ev→Sto→Prop,(∃m,W 0 m dl S1)∧∀k m dl S,W k m dl S→match lAt S n,lAt S n' with
  | some o,some o'=>match (zah o)[k]?,(zah o')[k]? with
   | some x,some y=>tb { nx:=fun dl' S'=>∃m',m' < m∧W (k + 1) m' dl' S',rt:=E.rt,bk:=E.nx,ct:=fun dl' S'=>∃m',m' < m∧W (k + 1) m' dl' S' } (zdw is [x,y] dl) S
   | _,_=>k=min (zah o).length (zah o').length∧E.nx dl S
  | _,_=>False
 | _=>False
theorem zrN {i1 i2:Expr}{body:List Stmt}{es:List Expr}{kk:Nat}{tp p pos2:Pos}{is:List Nat}{ta:TDA}{tb:TDS}(hp:PassesOwn (model X.prog X.w) X.A X.env X.xe)(hc:X.calm=true)(hN:X.N.Nodup)(hn:Nms X es is)(h2:is.length=2)
  (hg:Gl X "zip")(hm:X.mg "zip"=none)(hv:bootBuiltins "zip"=some (.type "zip"))(ha:PDA X Z [i1,i2] ta)(hb:zbY X Z body tb)
  (hlen:(assignEach es X.env).length=is.length:=by rfl)(hst:(assignEach es X.env).findIdx? (·.1)=none:=by rfl)(hse:starEach [i1,i2] X.env=[(false,eval i1 X.env),(false,eval i2 X.env)]:=by rfl)(hse2:starEach [i2] X.env=[(false,eval i2 X.env)]:=by rfl)
  (hs:∀y,foldedSetIterable (.Call (.Name "zip" p) [i1,i2] [] pos2) X.env y=pure y:=by intro _; rfl):PDS X Z (.For (.Tuple es kk tp) (.Call (.Name "zip" p) [i1,i2] [] pos2) body [] pos) (zdM is ta tb):=
 zbF (ziT hp hc (zju hg hm hv ha hse hse2) (zgF hc (zfD hN hn) hlen hst) hb hs) fun F σ H ⟨r,dl,S,E,rs,rel,h,ret⟩=>by
  unfold zdM at h
  refine⟨r,dl,S,_,rs,rel,h,fun vs H1 r1 ds S1 x1 rel1 p1 q1=>?_⟩
  split at q1
  ·rename_i n n'
   obtain⟨v,vs',rfl,p2,p3⟩:=p1.uncons
   obtain⟨v',vs2,rfl,p4,p5⟩:=p3.uncons
   have z:=p5.unnil
   subst z
   cases p2 with
   | @ref n a hr=>
    cases p4 with
    | @ref n' a' hr'=>
     obtain⟨⟨hsome,hsome'⟩,W,⟨m0,w0⟩,turn⟩:=q1
     obtain⟨o1,eo1⟩:=Option.isSome_iff_exists.mp hsome
     obtain⟨o2,eo2⟩:=Option.isSome_iff_exists.mp hsome'
     obtain⟨xs1,sq1,_⟩:=zb1 (r:=r1) hr rel1.b eo1
     obtain⟨ys1,sq2,_⟩:=zb1 (r:=r1) hr' rel1.b eo2
     refine⟨a,a',rfl,⟨xs1,sq1⟩,⟨ys1,sq2⟩,fun k m σ' H'=>∃r' dl' S',Ext r1 r' H1 H'∧Rs r' H' dl' σ'∧Rel X.K Z r' S' H'∧W k m dl' S',⟨m0,r1,dl,S1,Ext.refl,rs.ext x1,rel1,w0⟩,?_⟩
     rintro k m σ2 H2 ⟨r2,dl2,S2,x2,rs2,rel2,w2⟩
     have q:=turn k m dl2 S2 w2
     split at q
     ·rename_i o o' eo eo'
      obtain⟨xs,sq,pr⟩:=zb1 (r:=r2) (x2.adr _ _ hr) rel2.b eo
      obtain⟨ys,sq',pr'⟩:=zb1 (r:=r2) (x2.adr _ _ hr') rel2.b eo'
      split at q
      ·rename_i y y2 ey ey2
       obtain⟨v,hvv,pv⟩:=pr.get ey
       obtain⟨u,hvu,pu⟩:=pr'.get ey2
       refine .inr ⟨⟨xs,ys,v,u,sq,sq',hvv,hvu⟩,fun σ' H'=>∃m',m' < m∧∃r' dl' S',Ext r1 r' H1 H'∧Rs r' H' dl' σ'∧Rel X.K Z r' S' H'∧W (k + 1) m' dl' S',fun _ _ z=>z,fun v' H' y'=>?_⟩
       obtain⟨T,w,w2',rfl,hT,rfl,hw,hw2⟩:=y'
       have ew:w=v:=by
        have z:=hw xs sq
        rw[hvv] at z; exact(Option.some.inj z).symm
       have ew2:w2'=u:=by
        have z:=hw2 ys sq'
        rw[hvu] at z; exact(Option.some.inj z).symm
       subst ew ew2
       have x3:Ext r2 r2 H2 (upd H2 T (.tup [w,w2'])):=zi9 hT
       have pp:Rps r2 (upd H2 T (.tup [w,w2'])) [y,y2] [w,w2']:=Rps.cons (pv.ext x3) (Rps.cons (pu.ext x3) Rps.nil)
       have rel3:=rel2.same (zca (o:=.tup [w,w2']) hT)
       have go:∀σ' H' r' dl' S',Ext r2 r' (upd H2 T (.tup [w,w2'])) H'→Rs r' H' dl' σ'→Rel X.K Z r' S' H'→(∃m',m' < m∧W (k + 1) m' dl' S')→∃m',m' < m∧∃r' dl' S',Ext r1 r' H1 H'∧Rs r' H' dl' σ'∧Rel X.K Z r' S' H'∧W (k + 1) m' dl' S':=
        fun σ' H' r' dl' S' x rs' rel' ⟨m',hm,w'⟩=>⟨m',hm,r',dl',S',x2.trans (x3.trans x),rs',rel',w'⟩
       exact⟨T,[w,w2'],rfl,SqT.of zbN,by rw[h2]; rfl,by rw[h2]; rfl,r2,_,S2,_,zjQ (rs2.ext x3) pp,rel3,q,⟨go,fun σ' H' r' dl' S' x rs' rel' z=>ret.nx σ' H' r' dl' S' (x1.trans (x2.trans (x3.trans x))) rs' rel' z,go,ret.rt.ext (x1.trans (x2.trans x3))⟩⟩
      ·obtain⟨hk,q⟩:=q
       exact .inl ⟨⟨xs,ys,sq,sq',by rw[← pr.1,← pr'.1]; exact hk.symm⟩,ret.nx σ2 H2 r2 dl2 S2 (x1.trans x2) rs2 rel2 q⟩
     ·exact q.elim
  ·exact q1.elim
end
end L3

namespace L3
open PySem PySem.Spec PyProof.Rows L2
section
variable {X:Cx}{Z:Zx}{pos:Pos}
@[irreducible] def zif (T:String)(te:TDE):TDE:=fun dl S Q=>te dl S fun d S1=>match d with
 | .ref n=>match S1[n]? with
  | some (.lst _)=>Q (.bl (zcl "list" T)) S1
  | _=>False
 | _=>False
theorem zoB {T:String}{e:Expr}{te:TDE}{y:Str}{p p2:Pos}(KT:PySem.W.kitOne X.K (.type "list") (.type T)=some (zcl "list" T))(hg:Gl X "isinstance")(hm:X.mg "isinstance"=none)(hg2:Gl X y)(hm2:X.mg y=none)(hv2:bootBuiltins y=some (.type T))(ha:PD X Z e te)
  (hv:bootBuiltins "isinstance"=some (.builtin "isinstance"):=by exact PyProof.Rows.Boot.«isinstance»)
  (hn2:y≠"__name__":=by decide)(hd2:(y == ("__debug__":Str))=false:=by decide)(he2:starEach [e,.Name y p2] X.env=(false,eval e X.env)::starEach [.Name y p2] X.env:=by rfl)
  (he3:starEach [.Name y p2] X.env=(false,eval (.Name y p2) X.env)::starEach [] X.env:=by rfl)(hpl:(backTo pos (starEach [.Name y p2] X.env)).any (·.1)=false:=by rfl):
  PD X Z (.Call (.Name "isinstance" p) [e,.Name y p2] [] pos) (zif T te):=
 zaN (ziR zkK hg hm hv (zd3 ha (zd3 (zls (v:=.ty T) hg2 hm2 hv2 rfl hn2 hd2) zgP he3) he2) (by decide) (by decide) he2 hpl) fun σ H Qv ⟨r,dl,S,Q,rs,rel,h,ret⟩=>
  by unfold zif at h; exact⟨r,dl,S,_,rs,rel,h,fun v H1 r1 d S1 e1 rel1 p1 h1=>by
   cases p1 with
   | @ref n a hr=>
    dsimp only at h1
    split at h1
    ·rename_i xs eS
     obtain⟨ys,eH,_⟩:=rel1.b.ob n a _ hr eS
     exact⟨_,T,_,_,rfl,.lst eH,KT,ret _ _ _ _ _ e1 rel1 (.bl _) h1⟩
    ·exact h1.elim
   | _=>exact(show False from h1).elim⟩
end
theorem zmj (K:PySem.W.Frag):PySem.W.kitOne K (.type "list") (.type "list")=some (zcl "list" "list"):=by kernel_rfl
end L3

namespace L3
open PySem PySem.Spec PyProof.Rows L2
structure Dm (K:PySem.W.Frag)(C:Addr)(m qual:Str)(st:Stmt)(ps:List Str) where
 f:Addr
 fd:FuncData
 F:Fun K m qual st f fd
 m:zd6 K C m f
 b:zbl K fd ps []
structure Fm (P:Program)(w:World)(K:PySem.W.Frag)(mg:Str→Option Value)(base:Heap)(k:Nat)(C:Addr)(x:Str)(ps:List Str)(sd:Sd) where
 f:Addr
 fd:FuncData
 ok:za3 P w K mg base (CXE P w) k f fd ps (upF K sd)
 m:zd6 K C x f
 b:zbl K fd ps []
def Dm.mk' {P:Program}{w:World}{K:PySem.W.Frag}{mg:Str→Option Value}{base:Heap}{k:Nat}{C:Addr}{x qual:Str}{st:Stmt}{ps:List Str}{sd:Sd}(d:Dm K C x qual st ps)(h:za3 P w K mg base (CXE P w) k d.f d.fd ps (upF K sd)):Fm P w K mg base k C x ps sd:=
 ⟨d.f,d.fd,h,d.m,d.b⟩
theorem zd7 {P:Program}{w:World}{X:Cx}:zgV (CXE P w) X (fun _ _ _=>False):=fun _ _ _ _ _ _ _ h=>by
 obtain⟨_,_,_,_,_,_,_,_,_,_,_,_,q⟩:=h
 exact q.elim
section
variable {X:Cx}{Z:Zx}
theorem zrg {k:Nat}(hr:zaD k X.A):OpR X (compareOp .In) (upO X.K Z (zbL (wIn 1 false))):=by rw[zb4]; exact do_in 1 (by have:=hr.un; omega)
theorem zry {k:Nat}(hr:zaD k X.A):OpR X (compareOp .NotIn) (upO X.K Z (zbL (wIn 1 true))):=by rw[zb4]; exact zo3 1 (by have:=hr.un; omega)
end
end L3

namespace L3
open PySem PySem.Spec PyProof.Rows L2
section
variable {X:Cx}{Z:Zx}{pos:Pos}
theorem Rps.app {r:List Addr}{H:Hp}:∀ {ds es:List D} {xs ys:List V},Rps r H ds xs→Rps r H es ys→Rps r H (ds++es) (xs++ys)
 | [],es,xs,ys,p,q=>by
  have z:=p.unnil
  subst z
  exact q
 | d::ds,es,xs,ys,p,q=>by
  obtain⟨v,vs,rfl,p1,p2⟩:=p.uncons
  exact Rps.cons p1 (p2.app q)
def MT (X:Cx)(m:Str)(tbl:List (Addr×Sd)):Prop:=∀C sd,(C,sd)∈tbl→Cls X.K C∧∃(f:Addr) (fd:FuncData) (k:Nat) (ps:List Str),zd6 X.K C m f∧za3 X.prog X.w X.K X.mg X.base (CXE X.prog X.w) k f fd ps (upF X.K sd)∧zaD k X.A∧zbl X.K fd ps []
theorem zkZ {m:Str}:MT X m []:=fun _ _ h=>by cases h
theorem zbM {C:Addr}{m:Str}{k:Nat}{ps:List Str}{sd:Sd}{tbl:List (Addr×Sd)}(c:Cls X.K C)(G:Fm X.prog X.w X.K X.mg X.base k C m ps sd)(hr:zaD k X.A)(h:MT X m tbl):MT X m ((C,sd)::tbl):=fun C' sd' hm=>by
 rcases List.mem_cons.mp hm with e | e
 ·cases e
  exact⟨c,G.f,G.fd,k,ps,G.m,G.ok,hr,G.b⟩
 ·exact h C' sd' e
theorem zpf {m:Str}{W:St→XK}{o e:Expr}{es:List Expr}{ta:TE}{t:TA}{apos:Pos}{pl:Sem Bool}{tbl:List (Addr×Sd)}(he:PE X o ta)(M:MT X m tbl)(hx:zci X W)(ha:PA X (e::es) t)(hst:starEach (e::es) X.env=(false,eval e X.env)::starEach es X.env)(hpl:(backTo pos (starEach es X.env)).any (·.1)=false)
  (ht:eval (.Call (.Attribute o m apos) (e::es) [] pos) X.env=(do
   let ov ← eval o X.env
   standAt apos.atName
   let (f,first) ← holding [ov] (getMethod ov m pl)
   callWith pos f first (backTo pos (starEach (e::es) X.env)) (backToKw pos (keywordEach [] X.env)))):
  PE X (.Call (.Attribute o m apos) (e::es) [] pos) (fun σ H Q=>ta σ H fun x H1=>∃a C dx fs sd,x=.ref a∧H1 a=some (.ins C dx fs)∧(C,sd)∈tbl∧fs.lookup m=none∧t σ H1 fun vs H2=>upF X.K sd (x::vs) H2 Q (W σ)):=by
 intro pins s σ H Q I h
 refine PySem.W.methodCall_KW (pl:=pl) (thn (he pins s σ H _ I h) fun u s1 ⟨x,H1,I1,rx,a,C,dx,fs,sd,ex,ea,hm',l,q⟩=>?_) ht
 subst ex
 obtain rfl:u=Value.ref a:=rx
 obtain⟨c,f,fd,k,ps,hm,F,hr,hb⟩:=M C sd hm'
 refine zlj I1 ea c hm l ?_
 exact PySem.W.callWith_K (first:=[.ref a]) (h₀:=X.base) I.ok.mod.kin hm.kp (thn (ha pos pins s1 σ H1 _ I1 q) fun us s2 ⟨vs,H2,I2,r,q2⟩=>⟨I2.kIn,zji (us:=.ref a::us) (vs:=.ref a::vs) F hr hb hx I2 (.cons rfl r) q2⟩) hst hpl
@[irreducible] def zhY (tbl:List (Addr×Sd))(m:Str)(ex:Ev→Addr→Sto→Prop)(to:TDE)(t:TDA):TDE:=fun dl S Q=>to dl S fun d S1=>∃n C fs sd,d=.ref n∧S1[n]?=some (.ins C fs)∧(C,sd)∈tbl∧fs.lookup m=none∧t dl S1 fun ds S2=>sd (d::ds) S2 Q (ex dl)
theorem zly {m:Str}{o e:Expr}{es:List Expr}{to:TDE}{t:TDA}{apos:Pos}{pl:Sem Bool}{ex:Ev→Addr→Sto→Prop}{W:St→XK}{tbl:List (Addr×Sd)}(ho:PD X ⟨ex,W⟩ o to)(M:MT X m tbl)(hx:zci X W)(ha:PDA X ⟨ex,W⟩ (e::es) t)
  (hst:starEach (e::es) X.env=(false,eval e X.env)::starEach es X.env:=by rfl)(hpl:(backTo pos (starEach es X.env)).any (·.1)=false:=by rfl)
  (ht:eval (.Call (.Attribute o m apos) (e::es) [] pos) X.env=(do
   let ov ← eval o X.env
   standAt apos.atName
   let (f,first) ← holding [ov] (getMethod ov m pl)
   callWith pos f first (backTo pos (starEach (e::es) X.env)) (backToKw pos (keywordEach [] X.env))):=by rfl):PD X ⟨ex,W⟩ (.Call (.Attribute o m apos) (e::es) [] pos) (zhY tbl m ex to t):=
 zaN (zpf ho M hx ha hst hpl ht) fun σ H Qv ⟨r,dl,S,Q,rs,rel,h,ret⟩=>by
  unfold zhY at h
  refine⟨r,dl,S,_,rs,rel,h,fun v H1 r1 d S1 e1 rel1 p1 q1=>?_⟩
  obtain⟨n,C,fs,sd,rfl,eS,hm,hl,q1⟩:=q1
  obtain⟨a,dx,fs',rfl,hr1,eH,fr⟩:=zkx (C:=C) (n:=n) (fs:=fs) rel1.b p1 (by simp only[zb6,eS,if_pos])
  exact⟨a,C,dx,fs',sd,rfl,eH,hm,fr.lookup.2 hl,r1,dl,S1,_,rs.ext e1,rel1,q1,fun vs H2 r2 ds S2 e2 rel2 p2 q2=>ziu (Z:=⟨ex,W⟩) (rs.ext (e1.trans e2)) rel2 (Rps.cons (p1.ext e2) p2) q2 (ret.ext (e1.trans e2))⟩
theorem zj7 {tbl:List (Addr×Sd)}{C:Addr}{m:Str}{ex:Ev→Addr→Sto→Prop}{sd:Sd}{to:TDE}{t:TDA}{dl:Ev}{S S1:Sto}{Q:DK}{n:Nat}{fs:List (Str×D)}(hto:∀K:DK,K (.ref n) S1→to dl S K)(h:S1[n]?=some (.ins C fs))(hm:(C,sd)∈tbl)(hf:fs.lookup m=none)(hq:t dl S1 fun ds S2=>sd (.ref n::ds) S2 Q (ex dl)):zhY tbl m ex to t dl S Q:=by
 unfold zhY
 exact hto _ ⟨n,C,fs,sd,rfl,h,hm,hf,hq⟩
structure Kx (K:PySem.W.Frag)(C:Addr):Prop where
 cl:Cls K C
 ha:PySem.W.findIn K (.ref C) "__class__"=some (some (.builtin "object.__class__"))
 hn:PySem.W.specialIn K (.builtin "object.__class__") "__get__"=some (some (.builtin "getset_descriptor.__get__"))
 ht:PySem.W.takesIn K (.builtin "object.__class__")=some true
 hm:PySem.W.mroIn K C (.type "object")=some true
def KT (K:PySem.W.Frag)(cv:Value)(ans:List (Addr×Bool)):Prop:=∀C b,(C,b)∈ans→PySem.W.kitOne K (.ref C) cv=some b∧Kx K C
end
end L3

namespace L3
open PySem PySem.Spec PyProof.Rows L2
section
variable {X:Cx}{Z:Zx}
end
end L3

namespace L3
open PySem PySem.Spec PyProof.Rows L2
section
variable {n:Nat}{I:Addr}{fp wr:List Addr}{P:Nat→Value→Prop}{St:Nat→Shared→Prop}{prog:Program}{w:World}{A:Around}{s:Shared}{E:Value→Shared→Prop}{G:Array GenState→Array GenState→Prop}
end
section
variable {X:Cx}{Z:Zx}
end
end L3


namespace L3
open PySem PySem.Spec PyProof.Rows L2
structure zc6 (sc around:Scope)(own caps:List Str):Prop where
 kind:sc.kind=.function
 nocell:∀y∈sc.names,y.2≠.cell
 own:∀y∈sc.names,y.2=.local→sc.names.lookup y.1=some .local
 cap:∀y∈caps,sc.names.lookup y=some .free
 out:∀y∈sc.names,y.2=.free→around.names.lookup y.1=some .cell
def zfK (k:Nat)(caps:List Nat)(wi:TI)(gt:TG)(te:TE):TE:=fun σ H Q=>wi σ H fun J H1=>∀D,H1 D=none→∃W:Nat→Nat→Hp→Prop,(∃m,W 0 m (upd H1 D (.lst [])))∧∀i m H,W i m H→
 (J.stop i H∧Q (.ref D) H)∨(J.go i H∧∀x H',J.yld i H x H'→∀o:St,o.length=k→gt x (o++zaY caps σ) H' fun σ8 H8=>(∃o8:St,o8.length=k∧σ8=o8++zaY caps σ)∧
  te σ8 H8 fun y H3=>∃ys,H3 D=some (.lst ys)∧ys.length < sizeLine∧∃m',m' < m∧W (i + 1) m' (upd H3 D (.lst (ys++[y]))))
section
variable {X:Cx}{pins:List (Addr×Obj)}{σ:St}{H:Hp}{s:Shared}
theorem zrV {sc:Scope}{own N:List Str}{caps:List Nat}{cl:List (Str×Addr)}{fp:List Addr}{h1:Heap}{m:Str→Option Value}{tk:Nat}(I:Inv X pins σ H s)(cs:zc6 sc X.env.scope own N)
  (hN:∀(j:Nat) (y:Str),N[j]?=some y→∃i,caps[j]?=some i∧X.N[i]?=some y)(hlen:caps.length=N.length)
  (c1:∀x c,cl.lookup x=some c→X.env.cells.lookup x=some c)(c2:∀y∈sc.names,y.2=.free→cl.lookup y.1=X.env.cells.lookup y.1)
  (hf:∀b∈fp,zbm X pins H b)(hfo:∀b∈fp,b < s.heap.objs.size)(hns:h1.Ns s.heap.objs.size m)(hk:∀b o,s.heap.get? b=some o→h1.get? b=some o):
  Inv (Cx.comp X sc (own++N) cl s.heap.objs.size s H fp (X.pn++pins)) [] (List.replicate own.length none++zaY caps σ) H { s with heap:=h1,toks:=tk }:=by
 have stk:∀b∈frs X.stack,b=X.env.locals∨b∈X.fs:=fun b hb=>List.mem_cons.mp (I.stkSub b hb)
 refine⟨⟨I.ok.mod,cs.kind,I.ok.glob,I.ok.blt,Nat.le_refl _,fun a b c h1 h2=>I.ok.inj a b c (c1 _ _ h1) (c1 _ _ h2),fun y hy=>?_,fun _ _ z=>Bool.noConfusion z,I.ok.hd,I.ok.frames,.inl rfl,fun b hb=>⟨Nat.ne_of_lt (hfo b hb),fun y c e=>(hf b hb).2.2.2.2.1 y c (c1 _ _ e)⟩,
  I.bs,Nat.le_trans I.ok.bsz I.sz,fun b o e hb=>?_,fun b hb z=>?_,I.stack,I.stkFree⟩,rfl,I.bare,Un.kept hk,⟨m,hns,fun i y v e1 e2 e3=>?_⟩,fun y c e=>?_,I.hok.fresh (Nat.le_refl _),fun y c e=>I.freeC y c (c1 _ _ e),fun p hp=>?_,I.hok.kept hk,?_⟩
 ·have hfr:sc.names.lookup y=some .free:=zi8 cs.nocell hy
  have hm:=zgf hfr
  obtain⟨c,e⟩:=I.ok.has y (.inl (cs.out _ hm rfl))
  exact⟨c,(c2 _ hm rfl).trans e⟩
 ·rcases (hf b hb).2.2.2.1 with z | z
  ·exact I.ok.noex b o e z
  ·exact absurd (Nat.lt_of_lt_of_le (Heap.lt_size (I.ok.bs b o e).1) z) (Nat.lt_irrefl _)
 ·rcases stk b z with z | z
  ·exact(hf b hb).2.1 z
  ·exact(hf b hb).2.2.1 z
 ·rcases Nat.lt_or_ge i own.length with hi | hi
  ·rw[List.getElem?_append_left (by simpa using hi),List.getElem?_replicate] at e2
   simp[hi] at e2
  ·obtain⟨i,rfl⟩:∃k,i=own.length + k:=⟨i - own.length,by omega⟩
   have e1':N[i]?=some y:=by
    rw[List.getElem?_append_right hi] at e1
    simpa using e1
   have e2:(zaY caps σ)[i]?=some (some v):=by
    rw[List.getElem?_append_right (by simp)] at e2
    simpa using e2
   obtain⟨j,hj,hy⟩:=hN i y e1'
   have e2':σ[j]?=some (some v):=by
    simp only[zaY,List.getElem?_map,hj,Option.map_some,Option.some.injEq] at e2
    cases q:σ[j]? with
    | none=>rw[q] at e2; cases e2
    | some o=>rw[q] at e2; simp at e2; rw[e2]
   have hfr:sc.names.lookup y=some .free:=cs.cap y (List.mem_of_getElem? e1')
   have hm:=zgf hfr
   have hce:X.env.scope.names.lookup y=some .cell:=cs.out _ hm rfl
   obtain⟨m0,_,hl⟩:=I.loc
   obtain⟨u,r,l⟩:=hl j y v hy e2' (.inr (.inl hce))
   refine⟨u,r,.inr ⟨ziA hfr,?_⟩⟩
   rcases l with ⟨k,_⟩ | ⟨_,c,ec,hcell⟩
   ·rw[show X.env.kindOf y=some .cell from hce] at k; cases k
   ·exact⟨c,(c2 _ hm rfl).trans ec,hcell.keeps hk⟩
 ·obtain⟨v,z⟩:=I.cell y c (c1 _ _ e)
  exact⟨v,z.keeps hk⟩
 ·have hp':p∈X.pn++pins:=by simpa using hp
  obtain⟨p1,p2,p3,p4,p5⟩:=I.pin p hp'
  refine⟨hk _ _ p1,p2,Nat.ne_of_lt (Heap.lt_size p1),fun z=>?_,p5⟩
  rcases stk _ z with z | z
  ·exact p3 z
  ·exact p4 z
 ·simp[zaY,hlen]
end
section
variable {X:Cx}{elt iter:Expr}{elts:List Expr}{kk:Nat}{tp:Pos}{pos:Pos}{sc:Scope}{own N:List Str}{caps:List Nat}{wi:TI}{gt:TG}{te:TE}
theorem zjX {use:Option (Value→Sem Unit)}{Qr:Value→Shared→Prop}(hc:X.calm=true)(cs:zc6 sc X.env.scope own N)(hN:∀(j:Nat) (y:Str),N[j]?=some y→∃i,caps[j]?=some i∧X.N[i]?=some y)(hlen:caps.length=N.length)
  (hi:PI X (.Tuple elts kk tp) iter wi)(hg:∀cl C s0 H0 fp pn,PG (Cx.comp X sc (own++N) cl C s0 H0 fp pn) (.Tuple elts kk tp) gt)(he:∀cl C s0 H0 fp pn,PE (Cx.comp X sc (own++N) cl C s0 H0 fp pn) elt te)
  (hs:∀y,foldedSetIterable iter X.env y=pure y)
  {pins:List (Addr×Obj)}{s:Shared}{σ:St}{H:Hp}{Q:VK}{p2:Pos}(I:Inv X pins σ H s)(h:zfK own.length caps wi gt te σ H Q)
  (fin:∀D C s',zk9 X pins σ C Q D s'→compPost (model X.prog X.w) X.A X.xe use Qr (.ref D) C (.ok .next) s'):
  wpAny (model X.prog X.w) X.A (comprehension (.ListComp elt [⟨.Tuple elts kk tp,iter,[],0⟩] sc pos) sc X.env p2 (newList []) false (eval iter X.env) use) Qr X.xe s:=by
 obtain⟨cl,k1,k2,k3⟩:=zjJ (sc:=sc) (env:=X.env) fun y hy hf=>I.ok.has y.1 (.inl (cs.out y hy hf))
 refine wpAny_comprehension_free rfl hs k1 cs.kind cs.own (thn (hi pins s σ H _ I h) fun v s1 h1=>thn h1 fun itv s2 h2=>?_)
 obtain⟨it,fp,tn,J,H2,e,I2,T,st2,f2,body⟩:=h2
 subst e
 have hfo:∀b∈fp,b < s2.heap.objs.size:=fun b hb=>by
  obtain⟨o,e,_⟩:=T.obj _ _ st2 b hb
  exact Heap.lt_size e
 have hD:H2 s2.heap.objs.size=none:=I2.hok.fresh (Nat.le_refl _)
 obtain⟨W,⟨m0,w0⟩,turn⟩:=body _ hD
 refine wpAny_newObj_type ?_
 have I3:Inv X pins σ (upd H2 s2.heap.objs.size (.lst [])) { s2 with heap:=s2.heap.push { cls:=.type "list",dict:=none,data:=.seq ([]:List Value).toArray },toks:=s2.toks }:=
  I2.laid (t':=s2.toks) (fun b u e=>Heap.get?_push_of_some _ e) (Nat.le_refl _) ⟨Nat.zero_le _,[],0,.nil,Heap.get?_push_size _ rfl⟩
 generalize hs3:({ s2 with heap:=s2.heap.push { cls:=.type "list",dict:=none,data:=.seq ([]:List Value).toArray },toks:=s2.toks }:Shared)=s3 at I3
 have es3:({ s2 with heap:=s2.heap.push { cls:=.type "list",dict:=none,data:=.seq ([]:List Value).toArray } }:Shared)=s3:=hs3
 try rw[es3]
 have f3:∀b∈fp,zbm X pins (upd H2 s2.heap.objs.size (.lst [])) b:=fun b hb=>⟨by rw[zaR (Nat.ne_of_lt (hfo b hb))]; exact(f2 b hb).1,(f2 b hb).2⟩
 have up3:∀b o,s2.heap.get? b=some o→s3.heap.get? b=some o:=fun b o e=>by rw[← hs3]; exact Heap.get?_push_of_some _ e
 have st3:tn 0 s3.heap:=T.keep _ _ _ st2 fun b _ o e=>up3 b o e
 have hfo3:∀b∈fp,b < s3.heap.objs.size:=fun b hb=>by
  obtain⟨o,e,_⟩:=T.obj _ _ st3 b hb
  exact Heap.lt_size e
 refine wpAny_newFunctionEnv cs.nocell (fun y hy=>by simp at hy) (fun h4 ns4 sb4=>?_) cs.kind
 have hk4:∀b o,s3.heap.get? b=some o→h4.get? b=some o:=fun b o e=>(sb4.2 b (Nat.ne_of_lt (Heap.lt_size e))).trans (Heap.get?_push_of_some _ e)
 have I4:=zrV (tk:=s3.toks + ([]:List (Str×Value)).length) I3 cs hN hlen k2 k3 f3 hfo3 ns4 hk4
 generalize hs4:({ s3 with heap:=h4,toks:=s3.toks + ([]:List (Str×Value)).length }:Shared)=s4 at I4 ⊢
 have eh4:s4.heap=h4:=by rw[← hs4]
 have st4:tn 0 s4.heap:=by rw[eh4]; exact T.keep _ _ _ st3 fun b _ o e=>hk4 b o e
 have fY:∀ {H':Hp},(∀b∈fp,H' b=none)→∀b∈fp,zbm (Cx.comp X sc (own++N) cl s3.heap.objs.size s3 (upd H2 s2.heap.objs.size (.lst [])) fp (X.pn++pins)) [] H' b:=fun hn b hb=>by
  obtain⟨_,z2,z3,z4,z5,z6⟩:=f3 b hb
  refine⟨hn b hb,Nat.ne_of_lt (hfo3 b hb),fun z=>?_,.inl hb,fun y c e=>z5 y c (k2 _ _ e),fun p hp=>z6 p (by simpa using hp)⟩
  rcases List.mem_cons.mp (I3.stkSub b z) with z | z
  ·exact z2 z
  ·exact z3 z
 have loop:codeAny (model X.prog X.w) X.A (.compLoop (.ListComp elt [⟨.Tuple elts kk tp,iter,[],0⟩] sc pos) 0 (.ref it) (.ref s2.heap.objs.size) (compEnvC sc cl s3.heap.objs.size X.env))
   (compPost (model X.prog X.w) X.A X.xe use Qr (.ref s2.heap.objs.size) s3.heap.objs.size) s4:=by
  refine LCp.codeAny_compLoop_pair (fun n s'=>∃i o H',o.length=own.length∧Inv (Cx.comp X sc (own++N) cl s3.heap.objs.size s3 (upd H2 s2.heap.objs.size (.lst [])) fp (X.pn++pins)) [] (o++zaY caps σ) H' s'∧tn i s'.heap∧(∀b∈fp,H' b=none)∧W i n H') ?_ m0
   ⟨0,_,_,List.length_replicate,I4,st4,fun b hb=>(f3 b hb).1,w0⟩
  rintro n s5 ⟨i,o,H5,ho,I5,st5,fr5,w5⟩
  rcases turn i n H5 w5 with ⟨stop,q⟩ | ⟨go,step⟩
  ·refine thn (T.done (Cx.comp X sc (own++N) cl s3.heap.objs.size s3 (upd H2 s2.heap.objs.size (.lst [])) fp (X.pn++pins)) rfl rfl rfl hc i [] s5 _ H5 _ I5 (fY fr5) st5 stop) fun r s6 ⟨hr,I6⟩=>?_
   subst hr
   refine fin _ _ _ ⟨⟨H5,I3.call' I6.os I6.base I6.hok I6.bare (fun b hb=>?_),q,I6.free⟩,?_,Nat.ne_of_gt I3.lt,I3.sz,fun y c e z=>?_,fun p hp z=>?_⟩
   ·obtain⟨_,z2,z3,z4,z5,z6⟩:=f3 b hb
    exact⟨z4,z2,z5,z6⟩
   ·obtain⟨m,hm,_⟩:=I6.loc
    exact⟨m,hm⟩
   ·obtain⟨v,hv⟩:=I3.cell y c e
    exact absurd (z ▸ hv.lt) (Nat.lt_irrefl _)
   ·exact absurd (z ▸ Heap.lt_size (I3.pin p hp).1) (Nat.lt_irrefl _)
  ·refine thn (T.item (Cx.comp X sc (own++N) cl s3.heap.objs.size s3 (upd H2 s2.heap.objs.size (.lst [])) fp (X.pn++pins)) rfl rfl rfl hc i [] s5 _ H5 _ I5 (fY fr5) st5 go) fun r s6 ⟨u,hr,h6⟩=>?_
   subst hr
   refine wpAny_mono h6 (fun _ s7 ⟨y,H7,I7,r7,y7,st7,fr7⟩=>?_) fun _ _ z=>z
   have I7':=I7.pinned (fY fr7) (T.obj _ _ st7)
   refine wpAny_mono (hg _ _ _ _ _ _ _ s7 _ H7 y u _ I7' r7 (step y H7 y7 o ho)) (fun _ s8 ⟨σ8,H8,I8,⟨o8,ho8,e8⟩,q8⟩=>?_) fun _ _ z=>z.elim
   subst e8
   have stay:∀ {H':Hp} {s':Shared},Inv (Cx.comp X sc (own++N) cl s3.heap.objs.size s3 (upd H2 s2.heap.objs.size (.lst [])) fp (X.pn++pins)) ([]++zdt fp s7.heap) (o8++zaY caps σ) H' s'→∀m',m' < n→W (i + 1) m' H'→
     ∃m,m < n∧∃i o H',o.length=own.length∧Inv (Cx.comp X sc (own++N) cl s3.heap.objs.size s3 (upd H2 s2.heap.objs.size (.lst [])) fp (X.pn++pins)) [] (o++zaY caps σ) H' s'∧tn i s'.heap∧(∀b∈fp,H' b=none)∧W i m H':=fun {H' s'} J m' hm w'=>by
    refine⟨m',hm,i + 1,o8,H',ho8,J.unpinned,T.keep _ _ _ st7 fun b hb o e=>(J.pin (b,o) (List.mem_append_right _ (List.mem_append_right _ (zdm hb e)))).1,fun b hb=>?_,w'⟩
    obtain⟨o,e,d⟩:=T.obj _ _ st7 b hb
    exact(J.pin (b,o) (List.mem_append_right _ (List.mem_append_right _ (zdm hb e)))).2.1
   refine wpAny_mono (he _ _ _ _ _ _ _ s8 _ H8 _ I8 q8) (fun u2 s10 ⟨z,H10,I10,r10,q10⟩=>?_) fun _ _ z=>z.elim
   obtain⟨ys,hD10,hlt,m',hm,w10⟩:=q10
   refine wpAny_mono (zis (X:=(Cx.comp X sc (own++N) cl s3.heap.objs.size s3 (upd H2 s2.heap.objs.size (.lst [])) fp (X.pn++pins))) _ s10 _ H10 (.ref s2.heap.objs.size) [z] (.ref s2.heap.objs.size) [u2] (fun _ H'=>H'=upd H10 s2.heap.objs.size (.lst (ys++[z]))) I10 rfl (.cons r10 .nil) ⟨_,ys,z,rfl,rfl,hD10,hlt,rfl⟩) (fun _ s11 ⟨_,H11,I11,_,e11⟩=>?_) fun _ _ z=>z.elim
   subst e11
   exact stay I11 m' hm w10
 exact codeAny_compStart_list loop (T.self _ 0 s4 _ _ st4 loop)
theorem zlm (hc:X.calm=true)(cs:zc6 sc X.env.scope own N)(hN:caps.map (fun i=>X.N[i]?)=N.map some)
  (hi:PI X (.Tuple elts kk tp) iter wi)(hg:∀cl C s0 H0 fp pn,PG (Cx.comp X sc (own++N) cl C s0 H0 fp pn) (.Tuple elts kk tp) gt)(he:∀cl C s0 H0 fp pn,PE (Cx.comp X sc (own++N) cl C s0 H0 fp pn) elt te)
  (hs:∀y,foldedSetIterable iter X.env y=pure y:=by intro _; rfl):PE X (.ListComp elt [⟨.Tuple elts kk tp,iter,[],0⟩] sc pos) (zfK own.length caps wi gt te):=by
 intro pins s σ H Q I h
 rw[eval_ListComp]
 refine zjX (use:=none) hc cs (zcq hN).1 (zcq hN).2 hi hg he hs I h fun D C s' f=>?_
 obtain⟨⟨H',I',q,hC⟩,⟨m,ns⟩,l,o,c,p⟩:=f
 exact⟨m,ns,fun h' sb=>⟨.ref D,H',I'.turned (t':=s'.toks) (fun b ob hb e=>(sb.2 b hb).trans e) hC l (.inr o) c p,rfl,q⟩⟩
end
end L3

namespace L3
open PySem PySem.Spec PyProof.Rows L2
section
variable {X:Cx}{Z:Zx}{elt:Expr}{pos:Pos}{sc ar:Scope}{N:List Str}{caps:List Nat}
def zhX (caps:List Nat)(te:TDE)(k:Nat)(dl:Ev)(d1 d2:D)(S:Sto)(nx:Sto→Prop):Prop:=
 te (some d1::some d2::zbn caps dl) S fun y S2=>match S2[k]? with
  | some (.lst ys)=>ys.length < 1000∧nx (S2.set k (.lst (ys++[y])))
  | _=>False
@[irreducible] def zf2 (caps:List Nat)(ta:TDA)(te:TDE):TDE:=fun dl S Q=>ta dl S fun ds S1=>match ds with
 | [.ref n]=>(lAt S1 n).isSome=true∧∃W:Nat→Nat→Sto→Prop,(∃m,W 0 m (S1++[.lst []]))∧∀k m S2,W k m S2→match lAt S2 n with
  | some o=>match (zah o)[k]? with
   | some y=>zhX caps te S1.length dl (.int (k:Int)) y S2 fun S3=>∃m',m' < m∧W (k + 1) m' S3
   | none=>k=(zah o).length∧Q (.ref S1.length) S2
  | none=>False
 | _=>False
theorem zkR {r:List Addr}{H:Hp}{dl:Ev}{σ:St}{d1 d2:D}{v1 v2:V}(h:Rs r H dl σ)(p1:Rp r H d1 v1)(p2:Rp r H d2 v2):Rs r H (some d1::some d2::zbn caps dl) (some v1::some v2::zaY caps σ):=by
 have z:=zj8 (caps:=caps) h p2
 refine⟨by have:=z.1; simp only[List.length_cons] at this ⊢; omega,fun i e hi=>?_⟩
 cases i with
 | zero=>simp at hi; subst hi; exact⟨v1,rfl,p1⟩
 | succ i=>exact z.2 i e (by simpa using hi)
theorem zrT {ta:TDA}{te:TDE}{σ:St}{H:Hp}{Qv:VK}(h:up X.K Z (zf2 caps ta te) σ H Qv):
  zfK 2 caps (zkP X.K (upA X.K Z ta)) (zdc X.K 2 (zdu [0,1])) (up X.K Z0 te) σ H Qv:=by
 obtain⟨r,dl,S,Q,rs,rel,h,ret⟩:=h
 unfold zf2 at h
 refine⟨r,dl,S,_,rs,rel,h,fun vs H1 r1 ds S1 x1 rel1 p1 q1=>?_⟩
 split at q1
 ·rename_i n
  obtain⟨v,vs',rfl,p2,p3⟩:=p1.uncons
  have z:=p3.unnil
  subst z
  cases p2 with
  | @ref n a hr=>
   obtain⟨hsome,W,⟨m0,w0⟩,turn⟩:=q1
   obtain⟨o1,eo1⟩:=Option.isSome_iff_exists.mp hsome
   obtain⟨xs1,sq1,_⟩:=zb1 (r:=r1) hr rel1.b eo1
   refine⟨a,rfl,⟨xs1,sq1⟩,fun D0 hD=>?_⟩
   obtain⟨rel2,x2⟩:=rel1.b.push (ds:=[]) (xs:=[]) hD Rps.nil
   refine⟨fun k m H'=>∃r' S',Ext (r1++[D0]) r' (upd H1 D0 (.lst [])) H'∧zaH X.K r' S' H'∧W k m S',⟨m0,_,_,Ext.refl,rel2,w0⟩,?_⟩
   rintro k m H2 ⟨r2,S2,x3,rb2,w2⟩
   have ha2:r2[S1.length]?=some D0:=x3.adr _ _ (zel rel1.len)
   have hr2:r2[n]?=some a:=(x2.trans x3).adr _ _ hr
   have q:=turn k m S2 w2
   split at q
   ·rename_i o eo
    obtain⟨xs,sq,pr⟩:=zb1 (r:=r2) hr2 rb2 eo
    split at q
    ·rename_i y ey
     obtain⟨v,hv,pv⟩:=pr.get ey
     refine .inr ⟨⟨xs,v,sq,hv⟩,fun v' H' y' o8 ho8=>?_⟩
     obtain⟨T,w,rfl,hT,rfl,hw⟩:=y'
     have ew:w=v:=by
      have z:=hw xs sq
      rw[hv] at z; exact(Option.some.inj z).symm
     subst ew
     obtain⟨c1,c2,rfl⟩:∃c1 c2,o8=[c1,c2]:=by
      match o8,ho8 with
      | [c1,c2],_=>exact⟨c1,c2,rfl⟩
     have x4:Ext r2 r2 H2 (upd H2 T (.tup [.int (k:Int),w])):=zi9 hT
     have rb3:=rb2.same (zca (o:=.tup [.int (k:Int),w]) hT)
     have rs3:=rs.ext (x1.trans (x2.trans (x3.trans x4)))
     refine⟨T,[.int (k:Int),w],rfl,SqT.of zbN,rfl,rfl,⟨[some (.int (k:Int)),some w],rfl,rfl⟩,?_⟩
     have rsY:=zkR (caps:=caps) rs3 (.int (k:Int)) (pv.ext x4)
     refine⟨r2,_,S2,_,rsY,⟨rb3,fun _ _ _ _ _ _ _ _ _ z=>z.elim⟩,q,fun z H4 r4 dz S4 x6 rel4 p4 q4=>?_⟩
     split at q4
     ·rename_i ys eys
      obtain⟨hl,m',hm,q4⟩:=q4
      have ha4:r4[S1.length]?=some D0:=x6.adr _ _ ha2
      obtain⟨zs,hD4,pz⟩:=rel4.b.ob _ _ _ ha4 eys
      obtain⟨rel5,x7⟩:=rel4.b.set ha4 eys (pz.snoc p4)
      exact⟨zs,hD4,by rw[← pz.1]; exact zf4 (Nat.le_of_lt hl),m',hm,r4,_,x3.trans (x4.trans (x6.trans x7)),rel5,q4⟩
     ·exact q4.elim
    ·obtain⟨hk,q⟩:=q
     exact .inl ⟨⟨xs,sq,by rw[← pr.1]; exact hk.symm⟩,ret _ H2 r2 _ S2 (x1.trans (x2.trans x3)) ⟨rb2,rel.xw.ext (x1.trans (x2.trans x3))⟩ (.ref ha2) q⟩
   ·exact q.elim
 ·exact q1.elim
theorem zq1 {ta:TDA}{te:TDE}{x1 x2:Str}{p1 p2 p pos2 tp:Pos}{kk:Nat}{a:Expr}(har:X.env.scope=ar)(hc:X.calm=true)(cs:zc6 sc ar [x1,x2] N)(hl1:sc.names.lookup x1=some .local)(hl2:sc.names.lookup x2=some .local)
  (hN:caps.map (fun i=>X.N[i]?)=N.map some)(hnd:([x1,x2]++N).Nodup)(hg:Gl X "enumerate")(hm:X.mg "enumerate"=none)(hv:bootBuiltins "enumerate"=some (.type "enumerate"))(ha:PDA X Z [a] ta)
  (he:∀cl C s0 H0 fp pn,PD (Cx.comp X sc ([x1,x2]++N) cl C s0 H0 fp pn) Z0 elt te)
  (hse:starEach [a] X.env=[(false,eval a X.env)]:=by rfl)(hs:∀y,foldedSetIterable (.Call (.Name "enumerate" p) [a] [] pos2) X.env y=pure y:=by intro _; rfl):
  PD X Z (.ListComp elt [⟨.Tuple [.Name x1 p1,.Name x2 p2] kk tp,.Call (.Name "enumerate" p) [a] [] pos2,[],0⟩] sc pos) (zf2 caps ta te):=by
 subst har
 refine zaN (zlm hc cs hN (gt:=zdc X.K 2 (zdu [0,1])) (te:=up X.K Z0 te) (zrl hg hm hv ha hse) (fun cl C s0 H0 fp pn=>?_) he hs) fun _ _ _ h=>zrT h
 have l1:(Cx.comp X sc ([x1,x2]++N) cl C s0 H0 fp pn).env.scope.names.lookup x1=some .local:=lookup_relabel_local hl1
 have l2:(Cx.comp X sc ([x1,x2]++N) cl C s0 H0 fp pn).env.scope.names.lookup x2=some .local:=lookup_relabel_local hl2
 exact zgF hc (zfD hnd (.cons rfl (.inl l1) (.inr l1) (.cons rfl (.inl l2) (.inr l2) .nil))) rfl rfl
end
section
variable {X:Cx}{Z:Zx}{pos:Pos}
end
section
variable {X:Cx}{Z:Zx}
theorem zkV {A:Around}{k n m:Nat}{a a':Addr}{o o':Ob}{b:Bool}{pins:List (Addr×Obj)}{σ:St}{H:Hp}{s:Shared}{r:List Addr}{S:Sto}(I:Inv X pins σ H s)(rel:Rel X.K Z r S H)(hn:r[n]?=some a)(hm:r[m]?=some a')(eo:lAt S n=some o)(eo':lAt S m=some o')
  (e:eqL (eqN k) (zah o) (zah o')=some b)(hu:A.units + 1 + k < cLine):SeqAt.RcAt A s (.ref a) (.ref a') b:=by
 obtain⟨eo,eL⟩:=zbs eo
 obtain⟨eo',eL'⟩:=zbs eo'
 obtain⟨z,hz,ob⟩:=rel.at eo
 rw[hn] at hz; cases hz
 obtain⟨z,hz,ob'⟩:=rel.at eo'
 rw[hm] at hz; cases hz
 obtain⟨xs,sq,pr⟩:=ob.list eL
 obtain⟨ys,sq',pr'⟩:=ob'.list eL'
 obtain⟨is,ri,pl,_⟩:=I.list sq
 obtain⟨js,rj,pl',_⟩:=I.list sq'
 obtain⟨g1,g2⟩:=zik (A:=A.in1) (zgj k) I (by show A.units + 1 + k < _; omega) pr pr' ri rj e
 by_cases hs:is.toArray.size=js.toArray.size
 ·have q:=SeqAt.RcAt.lists (A:=A) pl.isList pl'.isList hs (by omega) g1
  have e2:(List.range is.toArray.size).all (zbU (eqN k) (zah o) (zah o'))=b:=by
   rw[← g2,← hs,Nat.min_self]; simp
  rw[e2] at q
  exact q
 ·have q:=SeqAt.RcAt.lists_lengths (A:=A) pl.isList pl'.isList (by simpa using hs) (by omega)
  have e2:b=false:=by
   rw[← g2,show (is.toArray.size == js.toArray.size)=false by simpa using hs,Bool.and_false]
  rw[e2]
  exact q

def wNeM:W2:=fun x y S Q=>match x,y with
 | .ref n,.ref m=>(∃ds es,S[n]?=some (.lst ds)∧S[m]?=some (.lst es)∧ds.length=es.length∧∀(k:Nat) (d e:D),ds[k]?=some d→es[k]?=some e→∃a b xs ys,d=.ref a∧e=.ref b∧S[a]?=some (.lst xs)∧S[b]?=some (.lst ys)∧eqL (eqN 1) xs ys=some true)∧Q (.bl false) S
 | _,_=>False
theorem do_neM {j:Nat}(hr:zaD j X.A):OpR X (compareOp .NotEq) (upO X.K Z wNeM):=by
 intro pins s σ H x y v u Qv I rx ry h
 obtain⟨r,S,dx,dy,Q,rel,px,py,q,ret⟩:=h
 have hun:=hr.un
 unfold wNeM at q
 split at q
 ·rename_i n m
  obtain⟨⟨ds,es,e1,e2,hl,hall⟩,q⟩:=q
  cases px with
  | @ref n a hn=>
   cases py with
   | @ref m a' hm=>
    cases rx
    cases ry
    obtain⟨z,hz,ob⟩:=rel.at e1
    rw[hn] at hz; cases hz
    obtain⟨z,hz,ob'⟩:=rel.at e2
    rw[hm] at hz; cases hz
    obtain⟨xs,sq,pr⟩:=ob.list rfl
    obtain⟨ys,sq',pr'⟩:=ob'.list rfl
    obtain⟨is,ri,pl,_⟩:=I.list sq
    obtain⟨js,rj,pl',_⟩:=I.list sq'
    have l1:ds.length=xs.length:=pr.1
    have l2:es.length=ys.length:=pr'.1
    have l3:=ri.length
    have l4:=rj.length
    have main:∀(k:Nat) (h1:k < is.toArray.size) (h2:k < js.toArray.size),SeqAt.EqAt X.A.in1 s is.toArray[k] js.toArray[k] true:=fun k h1 h2=>by
     have k1:k < is.length:=by simpa using h1
     have k2:k < js.length:=by simpa using h2
     obtain⟨d,hd,pd⟩:=pr.get' (List.getElem?_eq_getElem (l:=xs) (i:=k) (by omega))
     obtain⟨e,he,pe⟩:=pr'.get' (List.getElem?_eq_getElem (l:=ys) (i:=k) (by omega))
     obtain⟨a1,b1,xs1,ys1,rfl,rfl,s1,s2,eq⟩:=hall k d e hd he
     obtain⟨u1,hu1,ru1⟩:=ri.get (List.getElem?_eq_getElem (l:=xs) (i:=k) (by omega))
     obtain⟨u2,hu2,ru2⟩:=rj.get (List.getElem?_eq_getElem (l:=ys) (i:=k) (by omega))
     have z1:is.toArray[k]=u1:=by
      rw[List.getElem?_eq_getElem k1] at hu1
      simpa using Option.some.inj hu1
     have z2:js.toArray[k]=u2:=by
      rw[List.getElem?_eq_getElem k2] at hu2
      simpa using Option.some.inj hu2
     rw[z1,z2]
     generalize xs[k]'(by omega)=v1 at pd ru1
     generalize ys[k]'(by omega)=v2 at pe ru2
     cases pd with
     | @ref _ p hp=>
      cases pe with
      | @ref _ p' hp'=>
       cases ru1
       cases ru2
       by_cases hne:p=p'
       ·subst hne; exact SeqAt.EqAt.same _
       ·exact SeqAt.EqAt.of_refs hne (zkV (A:=X.A.in1) I rel hp hp' (zaB s1 rfl) (zaB s2 rfl) eq (by show X.A.units + 1 + 1 + 1 < _; omega))
    have q2:=SeqAt.RcNeAt.lists (A:=X.A) (e:=fun _=>true) pl.isList pl'.isList (by simp; omega) (by omega) main
    have e3:(!(List.range is.toArray.size).all fun _=>true)=false:=by simp
    rw[e3] at q2
    exact q2 X.prog X.w X.xe _ ⟨.bl false,H,I,rfl,ret _ _ _ _ _ Ext.refl rel (.bl false) q⟩
 ·exact q.elim
end
end L3

namespace L3
open PySem PySem.W PyProof.Rows PySem.Calls
def goT (tb:String→Option Builtin)(p:Program)(w:World)(n₀:Nat)(ann:Option Value):Nat→SharedT→Thread→Option SharedT
 | 0,_,_=>none
 | k + 1,s,t=>bif through t then some s else bif stepOk n₀ ann t then (stepT (denote tb) p w s t).bind (fun r=>goT tb p w n₀ ann k r.1 r.2) else none
theorem zln {tb:String→Option Builtin}{p:Program}{w:World}{n₀:Nat}{ann:Option Value}:∀ {n:Nat} {s s':SharedT} {t:Thread},goT tb p w n₀ ann n s t=some s'→topRun tb p w n₀ ann n s.abs t=some s'.abs
 | 0,_,_,_,q=>nomatch q
 | n + 1,s,s',t,q=>by
  unfold goT at q
  unfold topRun
  cases c1:through t
  ·rw[c1] at q
   cases c2:stepOk n₀ ann t
   ·rw[c2] at q
    exact nomatch q
   ·rw[c2] at q
    obtain⟨⟨s2,t2⟩,c3,q⟩:=Option.bind_eq_some_iff.mp q
    rw[stepT_spec c3]
    exact zln q
  ·rw[c1] at q
   cases q
   rfl
def zjj (os:Array Obj):Nat→Nat→Nat→BT
 | 0,_,_=>.nil
 | f + 1,a,b=>match os[b]? with
  | some o=>.node o (zjj os f (2 * a) (a + b)) (zjj os f (2 * a) (2 * a + b))
  | none=>.nil
noncomputable def bootT (P:Params):BT:=zjj (boot_heap P).objs 6 1 0
noncomputable abbrev zcj (w:World)(os:OsState):SharedT:=⟨bootT w.params,11,(boot_heap w.params).life,Array.mk [],boot_drawn,boot_toks,os⟩
def zha (s:SharedT)(a:Addr):Option Obj:=if a < s.n then (match s.tree.get a with | some o=>alive o | none=>s.abs.heap.get? a) else none
theorem znJ (s:SharedT)(a:Addr):s.abs.heap.get? a=zha s a:=by
 unfold zha
 split
 ·rename_i h
  cases e:s.tree.get a with
  | none=>rfl
  | some o=>exact abs_get h e
 ·rename_i h
  exact abs_get_none h
theorem zrQ (l:List Addr)(s:SharedT):l.map s.abs.heap.get?=l.map (zha s):=List.map_congr_left fun a _=>znJ s a
noncomputable abbrev seenT (p q:Program)(loose:List Str)(Xt:Shared→Bool){α:Type}(YT:SharedT→α)(g0:Bool)(w:World)(s:SharedT):=
 ((staticsOk (importedModules p.main.body) (boot_heap w.params) s.abs.heap && namesBound p s.abs.heap && gensDone s.abs && laidKept (boot_heap w.params) s.abs.heap),openSeen q loose (importedModules p.main.body) Xt g0 s.abs,YT s)
theorem zow {p q:Program}{loose:List Str}{Xt:Shared→Bool}{α:Type}{Yf:Shared→α}{YT:SharedT→α}{Ya:World→α}{N:Nat}{g0:Bool}{ann:Option Value}(hY:∀s:SharedT,Yf s.abs=YT s)(e:opening p=plainProg p.main.scope.names)(hN:Nat.ble 600 N=true)(f:∀s,fenceModules? p s=some s)
  (size:∀w:World,((boot_heap w.params).isNs mainGlobals && (Array.mk []:Array GenState).size == 0,(boot_heap w.params).objs.size,(boot_heap w.params).nsMap mainGlobals "__annotations__")=(true,11,ann))
  (run:∀w:World,(fun os=>(goT treeTable p w 11 ann N (zcj w os) (topStub p)).map fun s=>seenT p q loose Xt YT g0 w s)=fun _=>some (true,openGood q loose,Ya w)):LeftO p q loose Xt Yf Ya N g0:=fun w=>by
 obtain⟨⟨h,gs,d,k,os⟩,e1,e'⟩:=Option.map_eq_some_iff.mp (boot_open e hN f w)
 obtain⟨rfl,rfl,rfl,rfl⟩:h=boot_heap w.params∧gs=Array.mk []∧d=boot_drawn∧k=boot_toks:=by simpa using e'
 obtain⟨y1,y2,y3⟩:_∧_∧_:=by simpa only [Prod.mk.injEq] using size w
 obtain⟨s',r1,r2⟩:=Option.map_eq_some_iff.mp (congrFun (run w) os)
 obtain⟨l1,l2,l3⟩:_∧_∧_:=by simpa only [Prod.mk.injEq] using r2
 have r:topRun treeTable p w 11 ann N ⟨boot_heap w.params,Array.mk [],boot_drawn,boot_toks,os⟩ (topStub p)=some s'.abs:=by
  have z:=zln r1
  exact z
 have t:topFrom treeTable p w N ⟨boot_heap w.params,Array.mk [],boot_drawn,boot_toks,os⟩=some s'.abs:=by
  unfold topFrom
  dsimp only
  rw[y1,y2,y3,r]
  show (match staticsOk (importedModules p.main.body) (boot_heap w.params) s'.abs.heap && namesBound p s'.abs.heap && gensDone s'.abs && laidKept (boot_heap w.params) s'.abs.heap with | true=>_ | false=>_)=_
  rw[l1]
 unfold openEnds
 rw[e1]
 show Option.map _ (topFrom treeTable p w N _)=_
 rw[t]
 exact congrArg some (Prod.ext l2 ((hY s').trans l3))
noncomputable abbrev zjq (p:Program)(w:World)(s:SharedT):Bool:=staticsOk (importedModules p.main.body) (boot_heap w.params) s.abs.heap && namesBound p s.abs.heap && gensDone s.abs && laidKept (boot_heap w.params) s.abs.heap
theorem zqY {p q:Program}{loose:List Str}{Xt:Shared→Bool}{α:Type}{Yf:Shared→α}{YT:SharedT→α}{Ya:World→α}{N:Nat}{g0:Bool}{ann:Option Value}(hY:∀s:SharedT,Yf s.abs=YT s)(e:opening p=plainProg p.main.scope.names)(hN:Nat.ble 600 N=true)(f:∀s,fenceModules? p s=some s)
  (size:∀w:World,((boot_heap w.params).isNs mainGlobals && (Array.mk []:Array GenState).size == 0,(boot_heap w.params).objs.size,(boot_heap w.params).nsMap mainGlobals "__annotations__")=(true,11,ann))
  (ra:∀w:World,(fun os=>(goT treeTable p w 11 ann N (zcj w os) (topStub p)).map fun s=>(zjq p w s,(openSeen q loose (importedModules p.main.body) Xt g0 s.abs).1))=fun _=>some (true,(openGood q loose).1))
  (rb:∀w:World,(fun os=>(goT treeTable p w 11 ann N (zcj w os) (topStub p)).map fun s=>((openSeen q loose (importedModules p.main.body) Xt g0 s.abs).2.1,(openSeen q loose (importedModules p.main.body) Xt g0 s.abs).2.2.1))=fun _=>some ((openGood q loose).2.1,(openGood q loose).2.2.1))
  (rc:∀w:World,(fun os=>(goT treeTable p w 11 ann N (zcj w os) (topStub p)).map fun s=>(openSeen q loose (importedModules p.main.body) Xt g0 s.abs).2.2.2)=fun _=>some (openGood q loose).2.2.2)
  (objs:∀w:World,(fun os=>(goT treeTable p w 11 ann N (zcj w os) (topStub p)).map YT)=fun _=>some (Ya w)):LeftO p q loose Xt Yf Ya N g0:=by
 refine zow hY e hN f size fun w=>funext fun os=>?_
 obtain⟨s1,a1,b1⟩:=Option.map_eq_some_iff.mp (congrFun (ra w) os)
 obtain⟨s2,a2,b2⟩:=Option.map_eq_some_iff.mp (congrFun (rb w) os)
 obtain⟨s3,a3,b3⟩:=Option.map_eq_some_iff.mp (congrFun (rc w) os)
 obtain⟨s4,a4,b4⟩:=Option.map_eq_some_iff.mp (congrFun (objs w) os)
 rw[a1] at a2 a3 a4
 cases a2
 cases a3
 cases a4
 obtain⟨l1,l2⟩:=Prod.mk.inj b1
 obtain⟨l3,l4⟩:=Prod.mk.inj b2
 have l5:openSeen q loose (importedModules p.main.body) Xt g0 s1.abs=openGood q loose:=Prod.ext l2 (Prod.ext l3 (Prod.ext l4 b3))
 rw[a1]
 show some (zjq p w s1,openSeen q loose (importedModules p.main.body) Xt g0 s1.abs,YT s1)=some (true,openGood q loose,Ya w)
 rw[l1,l5,b4]
end L3

namespace L3
open PySem PySem.Spec PyProof.Rows L2
section
variable {X:Cx}{Z:Zx}{pos:Pos}
theorem zhW:∀ {us:List Value} {ms:List Int},IntsAre us ms→zap (ms.map V.int) us
 | _,_,.nil=>.nil
 | _,_,.cons n t h=>.cons ⟨t,rfl⟩ (zhW h)
def zgn:W2:=fun x y S Q=>match x,y with
 | .ref n,.int k=>match S[n]? with
  | some (.lst xs)=>(0≤k∧k≤1000∧xs.length * k.toNat≤1000)∧Q (.ref S.length) (S++[.lst (List.replicate k.toNat xs).flatten])
  | _=>False
 | _,_=>False
theorem Rps.rep {r:List Addr}{H:Hp}{ds:List D}{xs:List V}(h:Rps r H ds xs):∀k:Nat,Rps r H (List.replicate k ds).flatten (List.replicate k xs).flatten
 | 0=>Rps.nil
 | k + 1=>by
  simp only[List.replicate_succ,List.flatten_cons]
  exact h.app (Rps.rep h k)
theorem znI:OpR X (binaryOp .Mult) (upO X.K Z (zbL zgn)):=by
 rw[zb4]
 exact zgs zql fun x y H Qv ⟨r,S,dx,dy,Q,rel,px,py,q,ret⟩=>by
  unfold zgn at q
  split at q
  ·rename_i n k
   split at q
   ·rename_i xs e1
    obtain⟨⟨h0,h1,hl⟩,q⟩:=q
    cases py
    cases px with
    | @ref _ a hn=>
     obtain⟨z,hz,ob⟩:=rel.at e1
     rw[hn] at hz; cases hz
     obtain⟨us,g1,p1⟩:=ob
     refine⟨a,k,us,rfl,rfl,g1,by omega,by omega,by rw[← p1.1]; exact zdI hl,fun p hp=>?_⟩
     obtain⟨rel4,x⟩:=rel.push hp (p1.rep k.toNat)
     exact ret _ _ _ (.ref S.length) _ x rel4 (zdP rel.len) q
   ·exact q.elim
  ·exact q.elim
theorem zoS {n:Nat}{k:Int}{S:Sto}{Q:DK}{xs:List D}(h1:S[n]?=some (.lst xs))(hk:0≤k∧k≤1000)(hl:xs.length * k.toNat≤1000)(hq:Q (.ref S.length) (S++[.lst (List.replicate k.toNat xs).flatten])):zbL zgn (.ref n) (.int k) S Q:=by
 rw[zb4]
 unfold zgn
 simp only[h1]
 exact⟨⟨hk.1,hk.2,hl⟩,hq⟩
end
section
variable {X:Cx}{Z:Zx}{elt:Expr}{pos:Pos}{sc ar:Scope}{N:List Str}{caps:List Nat}
@[irreducible] def zdd (caps:List Nat)(ta:TDA)(te:TDE):TDE:=fun dl S Q=>ta dl S fun ds S1=>match ds with
 | [.ref n,.ref n']=>((lAt S1 n).isSome=true∧(lAt S1 n').isSome=true)∧∃W:Nat→Nat→Sto→Prop,(∃m,W 0 m (S1++[.lst []]))∧∀k m S2,W k m S2→match lAt S2 n,lAt S2 n' with
  | some o,some o'=>match (zah o)[k]?,(zah o')[k]? with
   | some x,some y=>zhX caps te S1.length dl x y S2 fun S3=>∃m',m' < m∧W (k + 1) m' S3
   | _,_=>k=min (zah o).length (zah o').length∧Q (.ref S1.length) S2
  | _,_=>False
 | _=>False
theorem zk4 {ta:TDA}{te:TDE}{σ:St}{H:Hp}{Qv:VK}(h:up X.K Z (zdd caps ta te) σ H Qv):
  zfK 2 caps (iZip X.K (upA X.K Z ta)) (zdc X.K 2 (zdu [0,1])) (up X.K Z0 te) σ H Qv:=by
 obtain⟨r,dl,S,Q,rs,rel,h,ret⟩:=h
 unfold zdd at h
 refine⟨r,dl,S,_,rs,rel,h,fun vs H1 r1 ds S1 x1 rel1 p1 q1=>?_⟩
 split at q1
 ·rename_i n n'
  obtain⟨v,vs',rfl,p2,p3⟩:=p1.uncons
  obtain⟨v',vs2,rfl,p4,p5⟩:=p3.uncons
  have z:=p5.unnil
  subst z
  cases p2 with
  | @ref n a hr=>
   cases p4 with
   | @ref n' a' hr'=>
    obtain⟨⟨hsome,hsome'⟩,W,⟨m0,w0⟩,turn⟩:=q1
    obtain⟨o1,eo1⟩:=Option.isSome_iff_exists.mp hsome
    obtain⟨o2,eo2⟩:=Option.isSome_iff_exists.mp hsome'
    obtain⟨xs1,sq1,_⟩:=zb1 (r:=r1) hr rel1.b eo1
    obtain⟨ys1,sq2,_⟩:=zb1 (r:=r1) hr' rel1.b eo2
    refine⟨a,a',rfl,⟨xs1,sq1⟩,⟨ys1,sq2⟩,fun D0 hD=>?_⟩
    obtain⟨rel2,x2⟩:=rel1.b.push (ds:=[]) (xs:=[]) hD Rps.nil
    refine⟨fun k m H'=>∃r' S',Ext (r1++[D0]) r' (upd H1 D0 (.lst [])) H'∧zaH X.K r' S' H'∧W k m S',⟨m0,_,_,Ext.refl,rel2,w0⟩,?_⟩
    rintro k m H2 ⟨r2,S2,x3,rb2,w2⟩
    have ha2:r2[S1.length]?=some D0:=x3.adr _ _ (zel rel1.len)
    have hr2:r2[n]?=some a:=(x2.trans x3).adr _ _ hr
    have hr2':r2[n']?=some a':=(x2.trans x3).adr _ _ hr'
    have q:=turn k m S2 w2
    split at q
    ·rename_i o o' eo eo'
     obtain⟨xs,sq,pr⟩:=zb1 (r:=r2) hr2 rb2 eo
     obtain⟨ys,sq',pr'⟩:=zb1 (r:=r2) hr2' rb2 eo'
     split at q
     ·rename_i y y2 ey ey2
      obtain⟨v,hv,pv⟩:=pr.get ey
      obtain⟨u,hvu,pu⟩:=pr'.get ey2
      refine .inr ⟨⟨xs,ys,v,u,sq,sq',hv,hvu⟩,fun v' H' y' o8 ho8=>?_⟩
      obtain⟨T,w,w2',rfl,hT,rfl,hw,hw2⟩:=y'
      have ew:w=v:=by
       have z:=hw xs sq
       rw[hv] at z; exact(Option.some.inj z).symm
      have ew2:w2'=u:=by
       have z:=hw2 ys sq'
       rw[hvu] at z; exact(Option.some.inj z).symm
      subst ew ew2
      obtain⟨c1,c2,rfl⟩:∃c1 c2,o8=[c1,c2]:=by
       match o8,ho8 with
       | [c1,c2],_=>exact⟨c1,c2,rfl⟩
      have x4:Ext r2 r2 H2 (upd H2 T (.tup [w,w2'])):=zi9 hT
      have rb3:=rb2.same (zca (o:=.tup [w,w2']) hT)
      have rs3:=rs.ext (x1.trans (x2.trans (x3.trans x4)))
      refine⟨T,[w,w2'],rfl,SqT.of zbN,rfl,rfl,⟨[some w,some w2'],rfl,rfl⟩,?_⟩
      have rsY:=zkR (caps:=caps) rs3 (pv.ext x4) (pu.ext x4)
      refine⟨r2,_,S2,_,rsY,⟨rb3,fun _ _ _ _ _ _ _ _ _ z=>z.elim⟩,q,fun z H4 r4 dz S4 x6 rel4 p4 q4=>?_⟩
      split at q4
      ·rename_i ys eys
       obtain⟨hl,m',hm,q4⟩:=q4
       have ha4:r4[S1.length]?=some D0:=x6.adr _ _ ha2
       obtain⟨zs,hD4,pz⟩:=rel4.b.ob _ _ _ ha4 eys
       obtain⟨rel5,x7⟩:=rel4.b.set ha4 eys (pz.snoc p4)
       exact⟨zs,hD4,by rw[← pz.1]; exact zf4 (Nat.le_of_lt hl),m',hm,r4,_,x3.trans (x4.trans (x6.trans x7)),rel5,q4⟩
      ·exact q4.elim
     ·obtain⟨hk,q⟩:=q
      exact .inl ⟨⟨xs,ys,sq,sq',by rw[← pr.1,← pr'.1]; exact hk.symm⟩,ret _ H2 r2 _ S2 (x1.trans (x2.trans x3)) ⟨rb2,rel.xw.ext (x1.trans (x2.trans x3))⟩ (.ref ha2) q⟩
    ·exact q.elim
 ·exact q1.elim
theorem zio {ta:TDA}{te:TDE}{x1 x2:Str}{p1 p2 p pos2 tp:Pos}{kk:Nat}{a b:Expr}(har:X.env.scope=ar)(hc:X.calm=true)(cs:zc6 sc ar [x1,x2] N)(hl1:sc.names.lookup x1=some .local)(hl2:sc.names.lookup x2=some .local)
  (hN:caps.map (fun i=>X.N[i]?)=N.map some)(hnd:([x1,x2]++N).Nodup)(hg:Gl X "zip")(hm:X.mg "zip"=none)(hv:bootBuiltins "zip"=some (.type "zip"))(ha:PDA X Z [a,b] ta)
  (he:∀cl C s0 H0 fp pn,PD (Cx.comp X sc ([x1,x2]++N) cl C s0 H0 fp pn) Z0 elt te)
  (hse:starEach [a,b] X.env=[(false,eval a X.env),(false,eval b X.env)]:=by rfl)(hse2:starEach [b] X.env=[(false,eval b X.env)]:=by rfl)(hs:∀y,foldedSetIterable (.Call (.Name "zip" p) [a,b] [] pos2) X.env y=pure y:=by intro _; rfl):
  PD X Z (.ListComp elt [⟨.Tuple [.Name x1 p1,.Name x2 p2] kk tp,.Call (.Name "zip" p) [a,b] [] pos2,[],0⟩] sc pos) (zdd caps ta te):=by
 subst har
 refine zaN (zlm hc cs hN (gt:=zdc X.K 2 (zdu [0,1])) (te:=up X.K Z0 te) (zju hg hm hv ha hse hse2) (fun cl C s0 H0 fp pn=>?_) he hs) fun _ _ _ h=>zk4 h
 have l1:(Cx.comp X sc ([x1,x2]++N) cl C s0 H0 fp pn).env.scope.names.lookup x1=some .local:=lookup_relabel_local hl1
 have l2:(Cx.comp X sc ([x1,x2]++N) cl C s0 H0 fp pn).env.scope.names.lookup x2=some .local:=lookup_relabel_local hl2
 exact zgF hc (zfD hnd (.cons rfl (.inl l1) (.inr l1) (.cons rfl (.inl l2) (.inr l2) .nil))) rfl rfl
end
end L3

namespace L3
open PySem PySem.Spec PyProof.Rows L2
section
variable {X:Cx}{Z:Zx}{pos:Pos}
def dPar (i j:Nat)(ta:TDA):TDS:=fun E dl S=>ta dl S fun ds S1=>match ds with
 | [v,w]=>E.nx ((dl.set i (some v)).set j (some w)) S1
 | _=>False
theorem zma {i j:Nat}{x y:Str}{a b:Expr}{ta:TDA}{px py pt:Pos}{kt k2 pt2}(hc:X.calm=true)(hN:X.N.Nodup)(hi:X.N[i]?=some x)(hj:X.N[j]?=some y)(hij:i≠j)
  (hx:X.env.scope.names.lookup x=some .local)(hy:X.env.scope.names.lookup y=some .local)(ha:PDA X Z [a,b] ta)
  (hw:swappedStores [.Tuple [.Name x px,.Name y py] kt pt] (.Tuple [a,b] k2 pt2) X.env=pure (some [x,y]):=by rfl)
  (hs:swapsWithSole [.Tuple [.Name x px,.Name y py] kt pt] (.Tuple [a,b] k2 pt2) pos.line X.env=pure false:=by rfl):
  PDS X Z (.Assign [.Tuple [.Name x px,.Name y py] kt pt] (.Tuple [a,b] k2 pt2) pos) (dPar i j ta):=
 zbF (zqj hc hN hi hj hij hx hy ha hw hs) fun F σ H ⟨r,dl,S,E,rs,rel,h,ret⟩=>by
  refine⟨r,dl,S,_,rs,rel,h,fun vs H1 r1 ds S1 x1 rel1 p1 q1=>?_⟩
  split at q1
  ·rename_i v w
   obtain⟨v1,vs1,rfl,p2,p3⟩:=p1.uncons
   obtain⟨v2,vs2,rfl,p4,p5⟩:=p3.uncons
   have z:=p5.unnil
   subst z
   exact⟨v1,v2,rfl,ret.nx _ H1 r1 _ S1 x1 (((rs.ext x1).set i p2).set j p4) rel1 q1⟩
  ·exact q1.elim
end
end L3

namespace L3
open PySem PySem.Spec PyProof.Rows L2
section
variable {n:Nat}{I:Addr}{fp wr:List Addr}{P:Nat→Value→Prop}{St:Nat→Shared→Prop}{prog:Program}{w:World}{A:Around}{s:Shared}{E:Value→Shared→Prop}{G:Array GenState→Array GenState→Prop}
end
section
variable {X:Cx}{Z:Zx}{pos:Pos}
end
end L3

namespace L3
open PySem PySem.Spec PyProof.Rows L2
section
variable {X:Cx}{Z:Zx}{pos:Pos}
theorem Rps.erase {r:List Addr}{H:Hp}:∀ {ds:List D} {xs:List V} (k:Nat),Rps r H ds xs→Rps r H (ds.eraseIdx k) (xs.eraseIdx k)
 | [],xs,k,h=>by
  have z:=h.unnil
  subst z
  exact h
 | d::ds,xs,0,h=>by
  obtain⟨v,vs,rfl,p1,p2⟩:=h.uncons
  exact p2
 | d::ds,xs,k + 1,h=>by
  obtain⟨v,vs,rfl,p1,p2⟩:=h.uncons
  exact Rps.cons p1 (p2.erase k)
theorem Rps.ins {r:List Addr}{H:Hp}{y:D}{w:V}(hy:Rp r H y w):∀ {ds:List D} {xs:List V} (k:Nat),Rps r H ds xs→Rps r H (ds.take k++y::ds.drop k) (xs.take k++w::xs.drop k)
 | [],xs,k,h=>by
  have z:=h.unnil
  subst z
  simpa using Rps.cons hy h
 | d::ds,xs,0,h=>Rps.cons hy h
 | d::ds,xs,k + 1,h=>by
  obtain⟨v,vs,rfl,p1,p2⟩:=h.uncons
  exact Rps.cons p1 (Rps.ins hy k p2)
theorem zpv:MtM X "list.insert" (fun x vs H Q=>∃l xs i y,x=.ref l∧vs=[.int i,y]∧H l=some (.lst xs)∧0≤i∧i≤xs.length∧xs.length < 1000∧Q .non (upd H l (.lst (xs.take i.toNat++y::xs.drop i.toNat)))):=by
 intro pins s σ H x vs v us Q I rx rv h
 obtain⟨l,xs,i,y,rfl,rfl,hH,h0,h1,h2,q⟩:=h
 cases rx
 obtain⟨t,u,rfl,ru⟩:∃t u,us=[Value.int i t,u]∧zal y u:=by
  cases rv with
  | cons p q=>
   obtain⟨t,rfl⟩:=p
   cases q with
   | cons p' q'=>
    cases q'
    exact⟨t,_,rfl,p'⟩
 obtain⟨z,its,n,r,hl,e⟩:=I.lstM hH
 have fit:Builtin.List.listFitsIndex i=true:=fitsIndex_both (by omega) (by omega)
 refine call_meets PySem.F.slot_list_insert ⟨_,e,rfl⟩ PySem.F.entry_list_insert (PySem.F.args_list_insert_3 _ _ _) (PySem.AutoSeq1.list_insert_list_int_val_1 l its.toArray n i t u (by simp[fit]) (by rw[List.size_toArray]; omega)) ⟨e,?_⟩
 refine⟨.non,_,I.lset (t':=s.toks) (ys:=xs.take i.toNat++y::xs.drop i.toNat) (its':=its.take i.toNat++u::its.drop i.toNat) hH e ?_ ((r.take _).append (.cons ru (r.drop _))) ?_,rfl,q⟩
 ·have k1:(if i < 0 then (i + (its.toArray.size:Int)).toNat else min i.toNat its.toArray.size)=i.toNat:=by
   rw[if_neg (by omega),List.size_toArray]
   omega
  show (its.toArray.extract 0 (if i < 0 then (i + (its.toArray.size:Int)).toNat else min i.toNat its.toArray.size)).push u++its.toArray.extract (if i < 0 then (i + (its.toArray.size:Int)).toNat else min i.toNat its.toArray.size)=_
  rw[k1]
  apply Array.toList_inj.mp
  simp
  refine List.take_of_length_le (?_:_≤_)
  simp
 ·rw[List.length_append,List.length_cons,List.length_take,List.length_drop]
  exact zdI (by omega)
@[irreducible] def zhJ (to:TDE)(t:TDA):TDE:=fun dl S Q=>to dl S fun d S1=>match d with
 | .ref n=>(lAt S1 n).isSome=true∧t dl S1 fun ds S2=>match ds with
  | [.int i,y]=>match S2[n]? with
   | some (.lst xs)=>(0≤i∧i≤xs.length∧xs.length < 1000)∧Q .non (S2.set n (.lst (xs.take i.toNat++y::xs.drop i.toNat)))
   | _=>False
  | _=>False
 | _=>False
theorem zrI {to:TDE}{t:TDA}{dl:Ev}{S S1 S2:Sto}{Q:DK}{n:Nat}{i:Int}{y:D}{xs ys:List D}(hto:∀K:DK,K (.ref n) S1→to dl S K)(h:S1[n]?=some (.lst ys))(ht:∀K:List D→Sto→Prop,K [.int i,y] S2→t dl S1 K)(h2:S2[n]?=some (.lst xs))(hi:0≤i∧i≤xs.length∧xs.length < 1000)(hq:Q .non (S2.set n (.lst (xs.take i.toNat++y::xs.drop i.toNat)))):zhJ to t dl S Q:=by
 unfold zhJ
 refine hto _ ⟨by rw[zaB h rfl]; rfl,ht _ ?_⟩
 simp only[h2]
 exact⟨hi,hq⟩
theorem zrd {o e e2:Expr}{to:TDE}{t:TDA}{apos cpos:Pos}(ho:PD X Z o to)(ha:PDA X Z [e,e2] t)(hbase:attributeBase o "insert" X.env (eval o X.env)=eval o X.env:=by rfl)
  (hfew:((backTo cpos (starEach [e,e2] X.env)).all (fun x=>!x.1) && (backToKw cpos (keywordEach [] X.env)).all (fun x=>x.1.isSome)
   && decide ([e,e2].length + ([]:List Keyword).length + (if ([]:List Keyword).isEmpty then 0 else 1) < 30))=true:=by rfl)
  (hline:(apos.endLine == cpos.line)=true:=by rfl)(hs:starEach [e,e2] X.env=(false,eval e X.env)::starEach [e2] X.env:=by rfl)(hplain:(backTo cpos (starEach [e2] X.env)).any (·.1)=false:=by rfl):
  PD X Z (.Call (.Attribute o "insert" apos) [e,e2] [] cpos) (zhJ to t):=
 zaN (ziw (T:="list") PySem.F.plainAttrs_list PySem.F.slot_list_insert PySem.F.type_list_insert zpv ho ha hbase hfew hline hs hplain) fun σ H Qv ⟨r,dl,S,Q,rs,rel,h,ret⟩=>by
  unfold zhJ at h
  refine⟨r,dl,S,_,rs,rel,h,fun v H1 r1 d S1 e1 rel1 p1 q1=>?_⟩
  cases p1 with
  | @ref n a hn=>
   obtain⟨hsome,q1⟩:=q1
   obtain⟨o1,eo⟩:=Option.isSome_iff_exists.mp hsome
   obtain⟨eo,eL⟩:=zbs eo
   obtain⟨a',ha',ob⟩:=rel1.at eo
   rw[hn] at ha'; cases ha'
   obtain⟨xs,sq,_⟩:=ob.list eL
   refine⟨.inl ⟨rfl,xs,sq⟩,r1,dl,S1,_,rs.ext e1,rel1,q1,fun vs H2 r2 ds S2 e2 rel2 p2 q2=>?_⟩
   split at q2
   ·rename_i i y
    obtain⟨v2,vs',rfl,p3,p4⟩:=p2.uncons
    obtain⟨v3,vs3,rfl,p5,p6⟩:=p4.uncons
    have z:=p6.unnil
    subst z
    cases p3
    split at q2
    ·rename_i zs ez
     obtain⟨⟨h0,h1,h2⟩,q⟩:=q2
     have hn2:=e2.adr _ _ hn
     obtain⟨ys,hH,pr⟩:=rel2.b.ob n a _ hn2 ez
     obtain⟨rel3,x3⟩:=rel2.set hn2 ez (Rps.ins p5 i.toNat pr)
     exact⟨a,ys,i,v3,rfl,rfl,hH,h0,by rw[← pr.1]; exact h1,by rw[← pr.1]; exact h2,ret .non _ r2 .non _ (e1.trans (e2.trans x3)) rel3 .non q⟩
    ·exact q2.elim
   ·exact q2.elim
  | _=>exact(show False from q1).elim
def Al1 (S:Sto)(d e:D):Prop:=∃a b xs ys,d=.ref a∧e=.ref b∧S[a]?=some (.lst xs)∧S[b]?=some (.lst ys)∧eqL (eqN 1) xs ys=some true
def Al2 (S:Sto)(d e:D):Prop:=Al1 S d e∨∃a b xs ys,d=.ref a∧e=.ref b∧S[a]?=some (.lst xs)∧S[b]?=some (.lst ys)∧xs.length=ys.length∧∀(k:Nat) (x y:D),xs[k]?=some x→ys[k]?=some y→Al1 S x y
theorem zkD {A:Around}{pins:List (Addr×Obj)}{σ:St}{H:Hp}{s:Shared}{r:List Addr}{S:Sto}{d e:D}{v1 v2:V}{u1 u2:Value}(I:Inv X pins σ H s)(rel:Rel X.K Z r S H)(h:Al1 S d e)(pd:Rp r H d v1)(pe:Rp r H e v2)(ru1:zal v1 u1)(ru2:zal v2 u2)(hu:A.units + 1 + 1 < cLine):SeqAt.EqAt A s u1 u2 true:=by
 obtain⟨a1,b1,xs1,ys1,rfl,rfl,s1,s2,eq⟩:=h
 cases pd with
 | @ref _ p hp=>
  cases pe with
  | @ref _ p' hp'=>
   cases ru1
   cases ru2
   by_cases hne:p=p'
   ·subst hne; exact SeqAt.EqAt.same _
   ·exact SeqAt.EqAt.of_refs hne (zkV (A:=A) I rel hp hp' (zaB s1 rfl) (zaB s2 rfl) eq hu)
theorem zlG {P:Sto→D→D→Prop}{A:Around}{H:Hp}{s:Shared}{r:List Addr}{S:Sto}{ds es:List D}{xs ys:List V}{is js:List Value}(f:∀ {d e:D} {v1 v2:V} {u1 u2:Value},P S d e→Rp r H d v1→Rp r H e v2→zal v1 u1→zal v2 u2→SeqAt.EqAt A s u1 u2 true)(pr:Rps r H ds xs)(pr':Rps r H es ys)(ri:zap xs is)(rj:zap ys js)(hall:∀(k:Nat) (d e:D),ds[k]?=some d→es[k]?=some e→P S d e):
  ∀(k:Nat) (h1:k < is.toArray.size) (h2:k < js.toArray.size),SeqAt.EqAt A s is.toArray[k] js.toArray[k] true:=fun k h1 h2=>by
 have l3:=ri.length
 have l4:=rj.length
 have k1:k < is.length:=by simpa using h1
 have k2:k < js.length:=by simpa using h2
 obtain⟨d,hd,pd⟩:=pr.get' (List.getElem?_eq_getElem (l:=xs) (i:=k) (by omega))
 obtain⟨e,he,pe⟩:=pr'.get' (List.getElem?_eq_getElem (l:=ys) (i:=k) (by omega))
 obtain⟨u1,hu1,ru1⟩:=ri.get (List.getElem?_eq_getElem (l:=xs) (i:=k) (by omega))
 obtain⟨u2,hu2,ru2⟩:=rj.get (List.getElem?_eq_getElem (l:=ys) (i:=k) (by omega))
 have z1:is.toArray[k]=u1:=by
  rw[List.getElem?_eq_getElem k1] at hu1
  simpa using Option.some.inj hu1
 have z2:js.toArray[k]=u2:=by
  rw[List.getElem?_eq_getElem k2] at hu2
  simpa using Option.some.inj hu2
 rw[z1,z2]
 exact f (hall k d e hd he) pd pe ru1 ru2
theorem zrq {A:Around}{pins:List (Addr×Obj)}{σ:St}{H:Hp}{s:Shared}{r:List Addr}{S:Sto}{d e:D}{v1 v2:V}{u1 u2:Value}(I:Inv X pins σ H s)(rel:Rel X.K Z r S H)(h:Al2 S d e)(pd:Rp r H d v1)(pe:Rp r H e v2)(ru1:zal v1 u1)(ru2:zal v2 u2)(hu:A.units + 1 + 1 + 1 < cLine):SeqAt.EqAt A s u1 u2 true:=by
 rcases h with h | ⟨a1,b1,xs1,ys1,rfl,rfl,s1,s2,hl,hall⟩
 ·exact zkD I rel h pd pe ru1 ru2 (by omega)
 ·cases pd with
  | @ref _ p hp=>
   cases pe with
   | @ref _ p' hp'=>
    cases ru1
    cases ru2
    by_cases hne:p=p'
    ·subst hne; exact SeqAt.EqAt.same _
    ·obtain⟨z,hz,ob⟩:=rel.at s1
     rw[hp] at hz; cases hz
     obtain⟨z,hz,ob'⟩:=rel.at s2
     rw[hp'] at hz; cases hz
     obtain⟨xs,sq,pr⟩:=ob.list rfl
     obtain⟨ys,sq',pr'⟩:=ob'.list rfl
     obtain⟨is,ri,pl,_⟩:=I.list sq
     obtain⟨js,rj,pl',_⟩:=I.list sq'
     have l1:xs1.length=xs.length:=pr.1
     have l2:ys1.length=ys.length:=pr'.1
     have l3:=ri.length
     have l4:=rj.length
     have main:=zlG (P:=Al1) (A:=A.in1) (fun h p1 p2 q1 q2=>zkD (A:=A.in1) I rel h p1 p2 q1 q2 (by show A.units + 1 + 1 + 1 < _; omega)) pr pr' ri rj hall
     have q2:=SeqAt.RcAt.lists (A:=A) (e:=fun _=>true) pl.isList pl'.isList (by simp; omega) (by omega) main
     have e3:((List.range is.toArray.size).all fun _=>true)=true:=by simp
     rw[e3] at q2
     exact SeqAt.EqAt.of_refs hne q2
def wNeA:W2:=fun x y S Q=>match x,y with
 | .ref n,.ref m=>(∃ds es,S[n]?=some (.lst ds)∧S[m]?=some (.lst es)∧ds.length=es.length∧∀(k:Nat) (d e:D),ds[k]?=some d→es[k]?=some e→Al2 S d e)∧Q (.bl false) S
 | _,_=>False
theorem zno {j:Nat}(hr:zaD j X.A):OpR X (compareOp .NotEq) (upO X.K Z (zbL wNeA)):=by
 rw[zb4]
 intro pins s σ H x y v u Qv I rx ry h
 obtain⟨r,S,dx,dy,Q,rel,px,py,q,ret⟩:=h
 have hun:=hr.un
 unfold wNeA at q
 split at q
 ·rename_i n m
  obtain⟨⟨ds,es,e1,e2,hl,hall⟩,q⟩:=q
  cases px with
  | @ref n a hn=>
   cases py with
   | @ref m a' hm=>
    cases rx
    cases ry
    obtain⟨z,hz,ob⟩:=rel.at e1
    rw[hn] at hz; cases hz
    obtain⟨z,hz,ob'⟩:=rel.at e2
    rw[hm] at hz; cases hz
    obtain⟨xs,sq,pr⟩:=ob.list rfl
    obtain⟨ys,sq',pr'⟩:=ob'.list rfl
    obtain⟨is,ri,pl,_⟩:=I.list sq
    obtain⟨js,rj,pl',_⟩:=I.list sq'
    have l1:ds.length=xs.length:=pr.1
    have l2:es.length=ys.length:=pr'.1
    have l3:=ri.length
    have l4:=rj.length
    have main:=zlG (P:=Al2) (A:=X.A.in1) (fun h p1 p2 q1 q2=>zrq (A:=X.A.in1) I rel h p1 p2 q1 q2 (by show X.A.units + 1 + 1 + 1 + 1 < _; omega)) pr pr' ri rj hall
    have q2:=SeqAt.RcNeAt.lists (A:=X.A) (e:=fun _=>true) pl.isList pl'.isList (by simp; omega) (by omega) main
    have e3:(!(List.range is.toArray.size).all fun _=>true)=false:=by simp
    rw[e3] at q2
    exact q2 X.prog X.w X.xe _ ⟨.bl false,H,I,rfl,ret _ _ _ _ _ Ext.refl rel (.bl false) q⟩
 ·exact q.elim
theorem zpR {n m:Nat}{S:Sto}{Q:DK}{ds es:List D}(h1:S[n]?=some (.lst ds))(h2:S[m]?=some (.lst es))(hl:ds.length=es.length)(hk:∀(k:Nat) (d e:D),ds[k]?=some d→es[k]?=some e→Al2 S d e)(hq:Q (.bl false) S):zbL wNeA (.ref n) (.ref m) S Q:=by
 rw[zb4]
 exact⟨⟨ds,es,h1,h2,hl,hk⟩,hq⟩
end
end L3

namespace L3
open PySem PySem.Spec PyProof.Rows L2
section
variable {X:Cx}{Z:Zx}{elt iter:Expr}{elts:List Expr}{kk:Nat}{tp pos:Pos}{sc ar:Scope}{own N:List Str}{caps:List Nat}{wi:TI}{gt:TG}
theorem zqk {te:TE}{i:Nat}{y:Str}{py spos:Pos}(hc:X.calm=true)(cs:zc6 sc X.env.scope own N)(hN:caps.map (fun i=>X.N[i]?)=N.map some)
  (hi:PI X (.Tuple elts kk tp) iter wi)(hg:∀cl C s0 H0 fp pn,PG (Cx.comp X sc (own++N) cl C s0 H0 fp pn) (.Tuple elts kk tp) gt)(he:∀cl C s0 H0 fp pn,PE (Cx.comp X sc (own++N) cl C s0 H0 fp pn) elt te)
  (hNd:X.N.Nodup)(hy:X.N[i]?=some y)(hl:X.env.scope.names.lookup y=some .local)
  (hsw:swapsWith (.ListComp elt [⟨.Tuple elts kk tp,iter,[],0⟩] sc pos) (some (.Name y py)) spos.line X.env=pure true)
  (hs:∀y,foldedSetIterable iter X.env y=pure y:=by intro _; rfl):PS X (.Assign [.Name y py] (.ListComp elt [⟨.Tuple elts kk tp,iter,[],0⟩] sc pos) spos) (fun E σ H=>zfK own.length caps wi gt te σ H fun v H1=>E.nx (σ.set i (some v)) H1):=by
 intro pins s σ H E I h
 rw[exec_Assign_Name_used (hs:=hsw)]
 refine wpAny_bind (wpAny_standAt ?_); refine wpAny_bind ?_; show wpAny _ _ (comprehension _ sc X.env _ (newList []) false (eval iter X.env) (some (assign (.Name y py) X.env)) >>= fun _=>pure ()) _ _ s
 refine wpAny_bind (thn (zjX (use:=some (assign (.Name y py) X.env)) (Qr:=fun _ s'=>SP X pins E .next s') hc cs (zcq hN).1 (zcq hN).2 hi hg he hs I h fun D C s' f=>?_) fun _ s' hq=>wpAny_pure (wpAny_pure hq))
 obtain⟨⟨H',I',q,hC⟩,⟨m,ns⟩,l,o,c,p⟩:=f
 refine wpAny_assign_Name (zjn (v:=.ref D) I' hNd hy (.inl hl) rfl (fun s'' I'' ⟨a,sb,ha⟩=>⟨m,ns.sameBut sb ?_,fun h' sb'=>⟨_,H',I''.turned (t':=s''.toks) (fun b ob hb e=>(sb'.2 b hb).trans e) hC l (.inr o) c p,q⟩⟩) (.inr hl))
 rcases ha with rfl | ha
 ·exact l
 ·exact Ne.symm (c _ _ ha)
theorem zo5 {ta:TDA}{te:TDE}{x1 x2:Str}{p1 p2 p pos2:Pos}{a b:Expr}{i:Nat}{y:Str}{py spos:Pos}(har:X.env.scope=ar)(hc:X.calm=true)(cs:zc6 sc ar [x1,x2] N)(hl1:sc.names.lookup x1=some .local)(hl2:sc.names.lookup x2=some .local)
  (hN:caps.map (fun i=>X.N[i]?)=N.map some)(hnd:([x1,x2]++N).Nodup)(hNd:X.N.Nodup)(hy:X.N[i]?=some y)(hlo:ar.names.lookup y=some .local)(hg:Gl X "zip")(hm:X.mg "zip"=none)(hv:bootBuiltins "zip"=some (.type "zip"))(ha:PDA X Z [a,b] ta)
  (he:∀cl C s0 H0 fp pn,PD (Cx.comp X sc ([x1,x2]++N) cl C s0 H0 fp pn) Z0 elt te)
  (hsw:swapsWith (.ListComp elt [⟨.Tuple [.Name x1 p1,.Name x2 p2] kk tp,.Call (.Name "zip" p) [a,b] [] pos2,[],0⟩] sc pos) (some (.Name y py)) spos.line X.env=pure true:=by rfl)
  (hse:starEach [a,b] X.env=[(false,eval a X.env),(false,eval b X.env)]:=by rfl)(hse2:starEach [b] X.env=[(false,eval b X.env)]:=by rfl)(hs:∀y,foldedSetIterable (.Call (.Name "zip" p) [a,b] [] pos2) X.env y=pure y:=by intro _; rfl):
  PDS X Z (.Assign [.Name y py] (.ListComp elt [⟨.Tuple [.Name x1 p1,.Name x2 p2] kk tp,.Call (.Name "zip" p) [a,b] [] pos2,[],0⟩] sc pos) spos) (zfq i (zdd caps ta te)):=by
 subst har
 refine zbF (zqk hc cs hN (gt:=zdc X.K 2 (zdu [0,1])) (te:=up X.K Z0 te) (zju hg hm hv ha hse hse2) (fun cl C s0 H0 fp pn=>?_) he hNd hy hlo hsw hs) fun F σ H h=>zjb (fun _ h=>zk4 h) h
 have l1:(Cx.comp X sc ([x1,x2]++N) cl C s0 H0 fp pn).env.scope.names.lookup x1=some .local:=lookup_relabel_local hl1
 have l2:(Cx.comp X sc ([x1,x2]++N) cl C s0 H0 fp pn).env.scope.names.lookup x2=some .local:=lookup_relabel_local hl2
 exact zgF hc (zfD hnd (.cons rfl (.inl l1) (.inr l1) (.cons rfl (.inl l2) (.inr l2) .nil))) rfl rfl
end
end L3

namespace L3
open PySem PySem.Spec PyProof.Rows L2
section
variable {X:Cx}{Z:Zx}
def zkE:WC:=fun ds S Q=>match ds with
 | [.bl b]=>Q (.int (if b then 1 else 0)) S
 | _=>False
theorem zrH:za8 X (.type "int") (upC X.K Z zkE):=by
 intro pins s σ H xs us Qv I rv h
 obtain⟨r,S,ds,Q,rel,ps,q,ret⟩:=h
 unfold zkE at q
 split at q
 ·rename_i b
  obtain⟨v,vs,rfl,p1,p2⟩:=ps.uncons
  have z:=p2.unnil
  subst z
  cases p1
  obtain⟨u,rfl,ru⟩:=zc8 rv
  cases ru
  exact call_int_bool ⟨.int _,H,I.tok _,⟨_,rfl⟩,ret _ _ _ _ _ Ext.refl rel (.int _) q⟩
 ·exact q.elim
end
end L3

namespace L3
open PySem PySem.Spec PyProof.Rows L2
section
variable {X:Cx}{Z:Zx}{pos:Pos}
end
end L3

set_option Elab.async false
set_option linter.all false
set_option maxRecDepth 100000
set_option maxHeartbeats 40000000
namespace Mine
open PySem PySem.Spec PyProof.Rows L2 L3
theorem fsc {N P:List Str}{sc:Scope}(a:sc.kind=.function:=by rfl)(b:sc.isCoroutine=false:=by rfl)(c:sc.isGenerator=false:=by rfl)(d:N.Nodup:=by decide +kernel)(e:N.take P.length=P:=by rfl)(f:∀x∈P,sc.names.lookup x=some .local∨sc.names.lookup x=some .cell:=by decide +kernel)(g:∀y∈sc.names,y.2≠.free:=by decide +kernel):zaq N P sc:=⟨a,b,c,d,e,f,g⟩
abbrev Ln (sp:Sd)(n:Nat):Prop:=∀ds S Q ex,sp ds S Q ex→ds.length=n
theorem zak {X:Cx}{x:Str}{p pos:Pos}{e:Expr}{es:List Expr}{t:TDA}{k j:Nat}{ps:List Str}{sd:Sd}{ex:Ev→Addr→Sto→Prop}(G:Fk X.prog X.w X.K X.mg X.base k x ps sd)(hr:zaD j X.A)(ha:PDA X ⟨ex,Z0.w⟩ (e::es) t)(hk:k≤j:=by decide)(hg:Gl X x:=by rfl)
  (hdb:(x == ("__debug__":Str))=false:=by decide)(he:starEach (e::es) X.env=(false,eval e X.env)::starEach es X.env:=by rfl)(hpl:(backTo pos (starEach es X.env)).any (·.1)=false:=by rfl):PD X ⟨ex,Z0.w⟩ (.Call (.Name x p) (e::es) [] pos) (zhE ex sd t):=zl4 G (hr.mono hk) zef hg ha hdb he hpl
def top (i:Nat):Stmt:=PySem.Challenge.pw_boxnarrow_k44_step_keeps_answers.main.body.getD i (.Pass ⟨0,0,0,0⟩)
abbrev zih:Stmt:=top 51
abbrev zfV:List Str:=["_law_cell_here"]
theorem zmT:zaq ["_law_cell_here"] zfV (zaj zih):=fsc
abbrev zgt:Stmt:=top 53
abbrev zei:List Str:=["_law_box","_law_parts","_law_whole_here","_law_grid_here"]
theorem zjr:zaq ["_law_box","_law_parts","_law_whole_here","_law_grid_here","_law_point_here","_law_k"] zei (zaj zgt):=fsc
abbrev zhy:Stmt:=top 47
abbrev zdz:List Str:=["_law_top","_law_bottom"]
theorem zgw:zaq ["_law_top","_law_bottom","_law_a","_law_b"] zdz (zaj zhy):=fsc
abbrev zh8:Stmt:=top 54
abbrev zc2:List Str:=["_law_nodes","_law_node"]
theorem znA:zaq ["_law_nodes","_law_node"] zc2 (zaj zh8):=fsc
abbrev zhl:Stmt:=top 55
abbrev zf5:List Str:=["_law_nodes","_law_point_here","_law_grid_here"]
theorem zfP:zaq ["_law_nodes","_law_point_here","_law_grid_here","_law_made","_law_k","_law_place","_law_number_here"] zf5 (zaj zhl):=fsc
abbrev zh7:Stmt:=top 43
abbrev zc3:List Str:=["_law_script","_law_k"]
theorem zn1:zaq ["_law_script","_law_k"] zc3 (zaj zh7):=fsc
abbrev zhQ:Stmt:=top 56
abbrev zf8:List Str:=["_law_nodes","_law_parts"]
theorem zie:zaq ["_law_nodes","_law_parts","_law_total","_law_part"] zf8 (zaj zhQ):=fsc
abbrev zic:Stmt:=top 59
abbrev zeE:List Str:=["_law_script","_law_nodes","_law_factors_here","_law_many"]
theorem zcE:zaq ["_law_script","_law_nodes","_law_factors_here","_law_many","_law_size","_law_rows","_law_j","_law_parts","_law_k","_law_one","_law_cell_here"] zeE (zaj zic):=fsc
abbrev zhV:Stmt:=top 58
abbrev zfA:List Str:=["_law_script","_law_size"]
theorem zcf:zaq ["_law_script","_law_size","_law_turn_here","_law_row","_law_entries","_law_k","_law_cell_here","_law_entry"] zfA (zaj zhV):=fsc
abbrev ze7:Stmt:=top 31
abbrev zfi:List Str:=["rows"]
theorem zpT:zaq ["rows"] zfi (zaj ze7):=fsc
abbrev zep:Stmt:=top 32
abbrev zd0:List Str:=["each","places"]
theorem zmf:zaq ["each","places"] zd0 (zaj zep):=fsc
abbrev zgC:Stmt:=top 6
abbrev zfW:List Str:=["a","b"]
theorem zmd:zaq ["a","b"] zfW (zaj zgC):=fsc
abbrev zhg:Stmt:=top 8
abbrev zcM:List Str:=["top","bottom"]
theorem zl6:zaq ["top","bottom"] zcM (zaj zhg):=fsc
abbrev zgv:Stmt:=top 9
abbrev zgd:List Str:=["low","high","grid"]
theorem znp:zaq ["low","high","grid"] zgd (zaj zgv):=fsc
abbrev zgz:Stmt:=zaC (top 18) 2
abbrev zeK:List Str:=["self","spans","box","grid"]
theorem zlA:zaq ["self","spans","box","grid","number"] zeK (zaj zgz):=fsc
abbrev zho:Stmt:=zaC (top 19) 2
abbrev zeO:List Str:=["self","spans","box","grid"]
theorem zrv:zaq ["self","spans","box","grid"] zeO (zaj zho):=fsc
abbrev zhs:Stmt:=top 10
abbrev zck:List Str:=["a","b"]
theorem zmk:zaq ["a","b"] zck (zaj zhs):=fsc
abbrev zg7:Stmt:=zaC (top 21) 1
abbrev zfz:List Str:=["self","spans","box","grid"]
theorem zmb:zaq ["self","spans","box","grid"] zfz (zaj zg7):=fsc
abbrev zhP:Stmt:=top 11
abbrev zcC:List Str:=["a","b"]
theorem zrr:zaq ["a","b"] zcC (zaj zhP):=fsc
abbrev zgZ:Stmt:=zaC (top 22) 1
abbrev zfw:List Str:=["self","spans","box","grid"]
theorem zoh:zaq ["self","spans","box","grid"] zfw (zaj zgZ):=fsc
abbrev zhM:Stmt:=top 12
abbrev zco:List Str:=["a","b","grid"]
theorem zlo:zaq ["a","b","grid","products"] zco (zaj zhM):=fsc
abbrev zhq:Stmt:=zaC (top 23) 1
abbrev zfr:List Str:=["self","spans","box","grid"]
theorem zpK:zaq ["self","spans","box","grid"] zfr (zaj zhq):=fsc
abbrev zhv:Stmt:=top 5
abbrev zeW:List Str:=["number","many"]
theorem zhS:zaq ["number","many","worth","step"] zeW (zaj zhv):=fsc
abbrev zeG:Stmt:=top 13
abbrev zeg:List Str:=["a","many","grid"]
theorem zhb:zaq ["a","many","grid","places","powers","bottom"] zeg (zaj zeG):=fsc
abbrev zg3:Stmt:=zaC (top 24) 2
abbrev zem:List Str:=["self","spans","box","grid"]
theorem zm8:zaq ["self","spans","box","grid"] zem (zaj zg3):=fsc
abbrev zhF:Stmt:=zaC (top 24) 0
abbrev ze2:List Str:=["self","one","many"]
theorem zqh:zaq ["self","one","many"] ze2 (zaj zhF):=fsc
abbrev zgr:Stmt:=zaC (top 18) 0
abbrev zeB:List Str:=["self","top","bottom"]
theorem zpa:zaq ["self","top","bottom"] zeB (zaj zgr):=fsc
abbrev zgX:Stmt:=zaC (top 19) 0
abbrev zfE:List Str:=["self","place"]
theorem znq:zaq ["self","place"] zfE (zaj zgX):=fsc
abbrev zh1:Stmt:=zaC (top 20) 0
abbrev zfI:List Str:=["self","one","other"]
theorem zp9:zaq ["self","one","other"] zfI (zaj zh1):=fsc
abbrev zhD:Stmt:=zaC (top 20) 0
abbrev zez:List Str:=["self","one","other"]
theorem zl5:zaq ["self","one","other"] zez (zaj zhD):=fsc
abbrev zhu:Stmt:=zaC (top 20) 0
abbrev zfn:List Str:=["self","one","other"]
theorem zrM:zaq ["self","one","other"] zfn (zaj zhu):=fsc
abbrev zgm:Stmt:=top 25
abbrev zdh:List Str:=["node"]
theorem zrp:zaq ["node"] zdh (zaj zgm):=fsc
abbrev zgG:Stmt:=top 27
abbrev zdv:List Str:=["nodes","box","grid"]
theorem zix:zaq ["nodes","box","grid","found","node"] zdv (zaj zgG):=fsc
abbrev zht:Stmt:=top 15
abbrev zfk:List Str:=["a"]
theorem zoK:zaq ["a"] zfk (zaj zht):=fsc
abbrev zeR:Stmt:=top 33
abbrev zeJ:List Str:=["spans"]
theorem zoF:zaq ["spans"] zeJ (zaj zeR):=fsc
abbrev zeu:Stmt:=top 34
abbrev zdT:List Str:=["box"]
theorem zqG:zaq ["box"] zdT (zaj zeu):=fsc
abbrev zhU:Stmt:=top 39
abbrev zfO:List Str:=["nodes","places","box","grid"]
theorem zo4:zaq ["nodes","places","box","grid"] zfO (zaj zhU):=fsc
abbrev zia:Stmt:=top 35
abbrev zdQ:List Str:=["ones","others","grid"]
theorem zhm:zaq ["ones","others","grid","total","one","other"] zdQ (zaj zia):=fsc
abbrev zfN:Stmt:=top 36
abbrev zfZ:List Str:=["k","column","turns","slants","grid"]
theorem ziz:zaq ["k","column","turns","slants","grid","whole","column_slants"] zfZ (zaj zfN):=fsc
abbrev zcZ:Stmt:=top 37
abbrev zfU:List Str:=["k","box","grid","entries","thin","slants"]
theorem zds:zaq ["k","box","grid","entries","thin","slants","turns","centres","moved","lacks","ways"] zfU (zaj zcZ):=fsc
abbrev zga:Stmt:=top 38
abbrev zfM:List Str:=["box","grid","turn","thin","slants"]
theorem zqo:zaq ["box","grid","turn","thin","slants"] zfM (zaj zga):=fsc
abbrev zhT:Stmt:=zaC (top 18) 4
abbrev ze6:List Str:=["self","spans","slants","unknowns","grid"]
theorem zok:zaq ["self","spans","slants","unknowns","grid"] ze6 (zaj zhT):=fsc
abbrev zes:Stmt:=zaC (top 19) 4
abbrev zfs:List Str:=["self","spans","slants","unknowns","grid"]
theorem znv:zaq ["self","spans","slants","unknowns","grid"] zfs (zaj zes):=fsc
abbrev zib:Stmt:=zaC (top 21) 4
abbrev zeQ:List Str:=["self","x","y","a","b","grid"]
theorem zlY:zaq ["self","x","y","a","b","grid"] zeQ (zaj zib):=fsc
abbrev zf7:Stmt:=zaC (top 20) 2
abbrev zfd:List Str:=["self","spans","slants","unknowns","grid"]
theorem ziI:zaq ["self","spans","slants","unknowns","grid","x","y"] zfd (zaj zf7):=fsc
abbrev zhH:Stmt:=zaC (top 22) 4
abbrev zfc:List Str:=["self","x","y","a","b","grid"]
theorem zmV:zaq ["self","x","y","a","b","grid"] zfc (zaj zhH):=fsc
abbrev zfp:Stmt:=zaC (top 20) 2
abbrev zfu:List Str:=["self","spans","slants","unknowns","grid"]
theorem ziD:zaq ["self","spans","slants","unknowns","grid","x","y"] zfu (zaj zfp):=fsc
abbrev zhA:Stmt:=zaC (top 23) 4
abbrev ze0:List Str:=["self","x","y","a","b","grid"]
theorem znQ:zaq ["self","x","y","a","b","grid"] ze0 (zaj zhA):=fsc
abbrev zeD:Stmt:=zaC (top 20) 2
abbrev zfy:List Str:=["self","spans","slants","unknowns","grid"]
theorem zjk:zaq ["self","spans","slants","unknowns","grid","x","y"] zfy (zaj zeD):=fsc
abbrev zhn:Stmt:=top 14
abbrev zeX:List Str:=["a","many"]
theorem zpe:zaq ["a","many"] zeX (zaj zhn):=fsc
abbrev zex:Stmt:=zaC (top 24) 4
abbrev zfa:List Str:=["self","spans","slants","unknowns","grid"]
theorem zit:zaq ["self","spans","slants","unknowns","grid","lower","steep"] zfa (zaj zex):=fsc
abbrev zgq:Stmt:=top 29
abbrev zeV:List Str:=["nodes","box","grid"]
theorem zhc:zaq ["nodes","box","grid","spans","found","node"] zeV (zaj zgq):=fsc
abbrev zgO:Stmt:=top 40
abbrev zeU:List Str:=["nodes","places","box","grid"]
theorem zmx:zaq ["nodes","places","box","grid"] zeU (zaj zgO):=fsc
abbrev zid:Stmt:=top 41
abbrev zfb:List Str:=["nodes","rows","box","grid","turn"]
theorem ziW:zaq ["nodes","rows","box","grid","turn","places","thin"] zfb (zaj zid):=fsc
abbrev zhz:Stmt:=top 52
abbrev ze9:List Str:=["_law_cell_here","_law_other"]
theorem zdG:zaq ["_law_cell_here","_law_other","_law_low","_law_wide"] ze9 (zaj zhz):=fsc
abbrev zhK:Stmt:=top 48
abbrev zff:List Str:=["_law_cell_here"]
theorem zm4:zaq ["_law_cell_here"] zff (zaj zhK):=fsc
abbrev zg8:Stmt:=top 49
abbrev zeS:List Str:=["_law_nodes","_law_heavy","_law_node","_law_weight"]
theorem zoI:zaq ["_law_nodes","_law_heavy","_law_node","_law_weight"] zeS (zaj zg8):=fsc
abbrev zg5:Stmt:=top 50
abbrev zfe:List Str:=["_law_nodes","_law_heavy","_law_cell_here","_law_most"]
theorem zcY:zaq ["_law_nodes","_law_heavy","_law_cell_here","_law_most","_law_one","_law_other","_law_weight","_law_a","_law_many","_law_word"] zfe (zaj zg5):=fsc
abbrev zgH:Stmt:=top 44
abbrev zf1:List Str:=["_law_found"]
theorem zri:zaq ["_law_found"] zf1 (zaj zgH):=fsc
abbrev zgY:Stmt:=top 45
abbrev zeZ:List Str:=["_law_found"]
theorem znu:zaq ["_law_found"] zeZ (zaj zgY):=fsc
abbrev zhR:Stmt:=top 46
abbrev zew:List Str:=["_law_found","_law_size"]
theorem zlH:zaq ["_law_found","_law_size","_law_span_here"] zew (zaj zhR):=fsc
abbrev zgJ:Stmt:=top 57
abbrev zfv:List Str:=["_law_span_here","_law_a","_law_grid_here"]
theorem zpJ:zaq ["_law_span_here","_law_a","_law_grid_here"] zfv (zaj zgJ):=fsc
abbrev zbO:Stmt:=top 60
abbrev zh6:List Str:=["_law_script"]
theorem zbw:zaq ["_law_script","_law_size","_law_grid_here","_law_box","_law_share","_law_point_here","_law_nodes","_law_factors_here","_law_heavy","_law_node","_law_cell_here","_law_rows","_law_turn_here","_law_handed","_law_found","_law_k"] zh6 (zaj zbO):=fsc
def vw:Program:={ PySem.Challenge.pw_boxnarrow_k44_step_keeps_answers with main:={ PySem.Challenge.pw_boxnarrow_k44_step_keeps_answers.main with body:=[top 0,top 2,top 3,top 5,top 6,top 8,top 9,top 10,top 11,top 12,top 13,top 14,top 15,top 17,top 18,top 19,top 20,top 21,top 22,top 23,top 24,top 25,top 27,top 29,top 31,top 32,top 33,top 34,top 35,top 36,top 37,top 38,top 39,top 40,top 41,top 43,top 44,top 45,top 46,top 47,top 48,top 49,top 50,top 51,top 52,top 53,top 54,top 55,top 56,top 57,top 58,top 59,top 60] } }
noncomputable abbrev de (P:Params)(s:Str)(t:Tok)(v:Value):DictEntry:=⟨PySem.PyData.keyHash P s,.str s t,v⟩
abbrev co (n q:Str)(a b c d:Tok)(i k:Int)(r s:Addr)(y z:Value)(t:Addr)(j:Int):Obj:=⟨.type "code",none,.fields #[.str n a,.str q b,.str "/claim/cut.py" c,.int i 0,.int k 0,.int 0 0,.int 0 0,.int 3 0,.ref r,.bool Bool.true,.int 181 0,.ref s,.none,y,z,.ref t,.int j 0,.int i 0,.str "/claim/cut.py" d],#[]⟩
abbrev fo (n q:Str)(st:Stmt)(m:Value)(c:Addr):Obj:=⟨.type "function",none,.func (PySem.W.fnOf n q (zcN st) (zcw st) (zaj st) .none .none .none m none (.ref c) .none),#[]⟩
theorem kfo {K:PySem.W.Frag}{f c:Addr}{m:Value}{n q:Str}{st:Stmt}(l:K.lookup f=some (fo n q st m c)):PySem.W.keepIn K (.ref f)=true:=by
 unfold PySem.W.keepIn
 simp only[l]
theorem ifo {K:PySem.W.Frag}{f c:Addr}{m:Value}{n q:Str}{st:Stmt}(l:K.lookup f=some (fo n q st m c)):PySem.W.isFn K (.ref f)=true:=by
 unfold PySem.W.isFn PySem.W.typeIn
 simp only[l]
 rfl
theorem ln1 {P:List Value→Prop}(h:∀a,P [a]):∀us:List Value,us.length=1→P us
 | [a],_=>h a
theorem ln2 {P:List Value→Prop}(h:∀a b,P [a,b]):∀us:List Value,us.length=2→P us
 | [a,b],_=>h a b
theorem ln3 {P:List Value→Prop}(h:∀a b c,P [a,b,c]):∀us:List Value,us.length=3→P us
 | [a,b,c],_=>h a b c
theorem ln4 {P:List Value→Prop}(h:∀a b c d,P [a,b,c,d]):∀us:List Value,us.length=4→P us
 | [a,b,c,d],_=>h a b c d
theorem ln5 {P:List Value→Prop}(h:∀a b c d e,P [a,b,c,d,e]):∀us:List Value,us.length=5→P us
 | [a,b,c,d,e],_=>h a b c d e
theorem ln6 {P:List Value→Prop}(h:∀a b c d e f,P [a,b,c,d,e,f]):∀us:List Value,us.length=6→P us
 | [a,b,c,d,e,f],_=>h a b c d e f
abbrev Bn (n q:Str)(st:Stmt)(ps:List Str):Prop:=∀(kV doc pm:Value) (an:Option Addr) (cdv ct:Value) (us:List Value),us.length=ps.length→bindArgs (PySem.W.fnOf n q (zcN st) (zcw st) (zaj st) .none kV doc pm an cdv ct) ⟨us,[]⟩=pure (ps.zip us)
def dfo {K:PySem.W.Frag}{mg:Str→Option Value}{h:Heap}(X:K.In h)(G:h.Ns mainGlobals mg){n:Str}{st:Stmt}{f c:Addr}{m:Value}{ps:List Str}(a:PySem.W.nsIn K mainGlobals n=some (some (.ref f)))(l:K.lookup f=some (fo n n st m c))(e:PySem.W.codeIn K (.ref c) n=true)(b:Bn n n st ps):Df K mg n st ps:=⟨_,_,zgN (st:=st) l e (kfo l),PySem.W.mg_of X G a,(zgN (st:=st) l e (kfo l)).binds b⟩
def dmo {K:PySem.W.Frag}{C:Addr}{n q:Str}{st:Stmt}{f c:Addr}{m:Value}{ps:List Str}(a:PySem.W.findIn K (.ref C) n=some (some (.ref f)))(l:K.lookup f=some (fo n q st m c))(e:PySem.W.codeIn K (.ref c) q=true)(b:Bn n q st ps):Dm K C n q st ps:=⟨_,_,zgN (st:=st) l e (kfo l),⟨a,ifo l,kfo l⟩,(zgN (st:=st) l e (kfo l)).binds b⟩
abbrev nsA (K:PySem.W.Frag)(n:Str)(f:Addr):Prop:=PySem.W.nsIn K mainGlobals n=some (some (.ref f))
abbrev fdA (K:PySem.W.Frag)(C:Addr)(n:Str)(f:Addr):Prop:=PySem.W.findIn K (.ref C) n=some (some (.ref f))
abbrev lkA (K:PySem.W.Frag)(f:Addr)(n q:Str)(st:Stmt)(m:Value)(c:Addr):Prop:=K.lookup f=some (fo n q st m c)
abbrev cdA (K:PySem.W.Frag)(c:Addr)(q:Str):Prop:=PySem.W.codeIn K (.ref c) q=true
noncomputable def kp:Params→PySem.W.Frag:=fun P=>
 (nat_lit 3,(.mk (.type "dict") none (.dict #[(de P "__name__" 165 (.str "law_boxnarrow_k44_step_keeps_answers" 901)),(de P "__doc__" 166 .none),(de P "__package__" 167 .none),(de P "__loader__" 168 (.builtin "__main__.__loader__#opaque")),(de P "__spec__" 169 .none),(de P "__annotations__" 170 (.ref 6)),(de P "__builtins__" 171 (.ref 4)),(de P "__file__" 173 (.str "/claim/cut.py" 172)),(de P "__cached__" 174 .none),(de P "_wall" 193 (.ref 21)),(de P "BoxError" 213 (.ref 31)),(de P "NoSpan" 229 (.ref 44)),(de P "raised" 241 (.ref 53)),(de P "less" 249 (.ref 60)),(de P "rounded_up" 259 (.ref 67)),(de P "span_of" 268 (.ref 74)),(de P "add_spans" 276 (.ref 81)),(de P "take_spans" 284 (.ref 88)),(de P "mul_spans" 294 (.ref 95)),(de P "raise_span" 300 (.ref 100)),(de P "scale_span" 308 (.ref 107)),(de P "middle" 315 (.ref 114)),(de P "Node" 337 (.ref 124)),(de P "Number" 405 (.ref 173)),(de P "Unknown" 465 (.ref 218)),(de P "Pair" 508 (.ref 249)),(de P "Plus" 577 (.ref 296)),(de P "Minus" 646 (.ref 343)),(de P "Times" 715 (.ref 390)),(de P "Power" 777 (.ref 435)),(de P "kind_of" 784 (.ref 444)),(de P "worths" 797 (.ref 451)),(de P "slopes" 811 (.ref 458)),(de P "equation_places" 819 (.ref 463)),(de P "picked" 825 (.ref 468)),(de P "middles" 831 (.ref 473)),(de P "box_of_middles" 837 (.ref 478)),(de P "sum_of_products" 849 (.ref 485)),(de P "lacking" 855 (.ref 490)),(de P "span_by" 861 (.ref 495)),(de P "step_by" 867 (.ref 500)),(de P "thin_worths" 877 (.ref 507)),(de P "slopes_at" 887 (.ref 514)),(de P "step" 900 (.ref 521)),(de P "_law_cell" 910 (.ref 528)),(de P "_law_whole" 917 (.ref 535)),(de P "_law_span" 924 (.ref 542)),(de P "_law_spans" 933 (.ref 549)),(de P "_law_lowest" 943 (.ref 556)),(de P "_law_number" 950 (.ref 563)),(de P "_law_put" 960 (.ref 570)),(de P "_law_grow" 976 (.ref 577)),(de P "_law_grid" 983 (.ref 584)),(de P "_law_side" 993 (.ref 591)),(de P "_law_point" 1005 (.ref 598)),(de P "_law_at" 1013 (.ref 605)),(de P "_law_factors" 1026 (.ref 612)),(de P "_law_sum" 1036 (.ref 619)),(de P "_law_holds" 1045 (.ref 626)),(de P "_law_turn" 1059 (.ref 633)),(de P "_law_equations" 1076 (.ref 640)),(de P "law" 1082 (.ref 645))] 62) #[]))::
 (nat_lit 30,(.mk (.type "dict") none (.dict #[(de P "__module__" 203 (.str "boxnarrow.errors" 194)),(de P "__firstlineno__" 207 (.int 5 206)),(de P "__static_attributes__" 208 (.ref 29)),(de P "__weakref__" 210 (.ref 32)),(de P "__doc__" 211 .none)] 3) #[]))::
 (nat_lit 31,(.mk (.type "type") none (.cls (PySem.ClassData.mk "BoxError" [(.type "ValueError")] [(.ref 31),(.type "ValueError"),(.type "Exception"),(.type "BaseException"),(.type "object")] 30 "BoxError" Bool.true [] [(.ref 44)] Bool.false none Bool.false)) #[(some (.ref 22)),none,(some (.str "BoxError" 196)),(some (.str "BoxError" 204)),(some (.builtin "ValueError.__new__")),(some (.bool Bool.true))]))::
 (nat_lit 43,(.mk (.type "dict") none (.dict #[(de P "__module__" 221 (.str "boxnarrow.errors" 194)),(de P "__firstlineno__" 225 (.int 7 224)),(de P "__static_attributes__" 226 (.ref 42)),(de P "__doc__" 227 .none)] 2) #[]))::
 (nat_lit 44,(.mk (.type "type") none (.cls (PySem.ClassData.mk "NoSpan" [(.ref 31)] [(.ref 44),(.ref 31),(.type "ValueError"),(.type "Exception"),(.type "BaseException"),(.type "object")] 43 "NoSpan" Bool.true [] [] Bool.false none Bool.false)) #[(some (.ref 35)),none,(some (.str "NoSpan" 214)),(some (.str "NoSpan" 222)),(some (.builtin "ValueError.__new__")),(some (.bool Bool.true))]))::
 (nat_lit 52,co "raised" "raised" 232 233 234 240 10 2 47 48 (.ref 49) (.ref 50) 51 239)::
 (nat_lit 53,fo "raised" "raised" (top 5) (.str "boxnarrow.fractions" 230) 52)::
 (nat_lit 59,co "less" "less" 242 243 244 248 15 2 54 55 (.ref 56) (.ref 57) 58 247)::
 (nat_lit 60,fo "less" "less" (top 6) (.str "boxnarrow.fractions" 230) 59)::
 (nat_lit 66,co "rounded_up" "rounded_up" 252 253 254 258 18 2 61 62 (.ref 63) (.ref 64) 65 257)::
 (nat_lit 67,fo "rounded_up" "rounded_up" (top 8) (.str "boxnarrow.spans" 250) 66)::
 (nat_lit 73,co "span_of" "span_of" 260 261 262 267 20 3 68 69 (.ref 70) (.ref 71) 72 266)::
 (nat_lit 74,fo "span_of" "span_of" (top 9) (.str "boxnarrow.spans" 250) 73)::
 (nat_lit 80,co "add_spans" "add_spans" 269 270 271 275 24 2 75 76 (.ref 77) (.ref 78) 79 274)::
 (nat_lit 81,fo "add_spans" "add_spans" (top 10) (.str "boxnarrow.spans" 250) 80)::
 (nat_lit 87,co "take_spans" "take_spans" 277 278 279 283 26 2 82 83 (.ref 84) (.ref 85) 86 282)::
 (nat_lit 88,fo "take_spans" "take_spans" (top 11) (.str "boxnarrow.spans" 250) 87)::
 (nat_lit 94,co "mul_spans" "mul_spans" 285 286 287 293 28 3 89 90 (.ref 91) (.ref 92) 93 292)::
 (nat_lit 95,fo "mul_spans" "mul_spans" (top 12) (.str "boxnarrow.spans" 250) 94)::
 (nat_lit 99,co "raise_span" "raise_span" 295 296 297 299 31 3 96 97 .none .none 98 298)::
 (nat_lit 100,fo "raise_span" "raise_span" (top 13) (.str "boxnarrow.spans" 250) 99)::
 (nat_lit 106,co "scale_span" "scale_span" 301 302 303 307 38 2 101 102 (.ref 103) (.ref 104) 105 306)::
 (nat_lit 107,fo "scale_span" "scale_span" (top 14) (.str "boxnarrow.spans" 250) 106)::
 (nat_lit 113,co "middle" "middle" 309 310 311 314 40 1 108 109 (.ref 110) (.ref 111) 112 313)::
 (nat_lit 114,fo "middle" "middle" (top 15) (.str "boxnarrow.spans" 250) 113)::
 (nat_lit 123,(.mk (.type "dict") none (.dict #[(de P "__module__" 325 (.str "boxnarrow.kinds" 316)),(de P "__firstlineno__" 329 (.int 43 328)),(de P "__static_attributes__" 330 (.ref 122)),(de P "__dict__" 332 (.ref 125)),(de P "__weakref__" 334 (.ref 126)),(de P "__doc__" 335 .none)] 4) #[]))::
 (nat_lit 124,(.mk (.type "type") none (.cls (PySem.ClassData.mk "Node" [(.type "object")] [(.ref 124),(.type "object")] 123 "Node" Bool.true [] [(.ref 173),(.ref 218),(.ref 249),(.ref 435)] Bool.false none Bool.false)) #[none,none,(some (.str "Node" 318)),(some (.str "Node" 326)),(some (.builtin "object.__new__")),(some (.bool Bool.true))]))::
 (nat_lit 141,co "__init__" "Number.__init__" 350 351 352 357 47 3 136 137 (.ref 138) (.ref 139) 140 356)::
 (nat_lit 142,fo "__init__" "Number.__init__" (zaC (top 18) 0) (.str "boxnarrow.kinds" 316) 141)::
 (nat_lit 155,co "forth" "Number.forth" 368 369 370 377 54 4 150 151 (.ref 152) (.ref 153) 154 376)::
 (nat_lit 156,fo "forth" "Number.forth" (zaC (top 18) 2) (.str "boxnarrow.kinds" 316) 155)::
 (nat_lit 169,co "slope" "Number.slope" 389 390 391 398 61 5 164 165 (.ref 166) (.ref 167) 168 397)::
 (nat_lit 170,fo "slope" "Number.slope" (zaC (top 18) 4) (.str "boxnarrow.kinds" 316) 169)::
 (nat_lit 172,(.mk (.type "dict") none (.dict #[(de P "__module__" 345 (.str "boxnarrow.kinds" 316)),(de P "__firstlineno__" 349 (.int 45 348)),(de P "__init__" 358 (.ref 142)),(de P "exact" 367 (.ref 149)),(de P "forth" 378 (.ref 156)),(de P "back" 388 (.ref 163)),(de P "slope" 399 (.ref 170)),(de P "__static_attributes__" 402 (.ref 171)),(de P "__doc__" 403 .none)] 2) #[]))::
 (nat_lit 173,(.mk (.type "type") none (.cls (PySem.ClassData.mk "Number" [(.ref 124)] [(.ref 173),(.ref 124),(.type "object")] 172 "Number" Bool.true [] [] Bool.false none Bool.false)) #[(some (.ref 129)),none,(some (.str "Number" 338)),(some (.str "Number" 346)),(some (.builtin "object.__new__")),(some (.bool Bool.true))]))::
 (nat_lit 188,co "__init__" "Unknown.__init__" 418 419 420 424 65 2 183 184 (.ref 185) (.ref 186) 187 423)::
 (nat_lit 189,fo "__init__" "Unknown.__init__" (zaC (top 19) 0) (.str "boxnarrow.kinds" 316) 188)::
 (nat_lit 202,co "forth" "Unknown.forth" 435 436 437 443 71 4 197 198 (.ref 199) (.ref 200) 201 442)::
 (nat_lit 203,fo "forth" "Unknown.forth" (zaC (top 19) 2) (.str "boxnarrow.kinds" 316) 202)::
 (nat_lit 214,co "slope" "Unknown.slope" 455 456 457 459 77 5 211 212 .none .none 213 458)::
 (nat_lit 215,fo "slope" "Unknown.slope" (zaC (top 19) 4) (.str "boxnarrow.kinds" 316) 214)::
 (nat_lit 217,(.mk (.type "dict") none (.dict #[(de P "__module__" 413 (.str "boxnarrow.kinds" 316)),(de P "__firstlineno__" 417 (.int 63 416)),(de P "__init__" 425 (.ref 189)),(de P "exact" 434 (.ref 196)),(de P "forth" 444 (.ref 203)),(de P "back" 454 (.ref 210)),(de P "slope" 460 (.ref 215)),(de P "__static_attributes__" 462 (.ref 216)),(de P "__doc__" 463 .none)] 2) #[]))::
 (nat_lit 218,(.mk (.type "type") none (.cls (PySem.ClassData.mk "Unknown" [(.ref 124)] [(.ref 218),(.ref 124),(.type "object")] 217 "Unknown" Bool.true [] [] Bool.false none Bool.false)) #[(some (.ref 176)),none,(some (.str "Unknown" 406)),(some (.str "Unknown" 414)),(some (.builtin "object.__new__")),(some (.bool Bool.true))]))::
 (nat_lit 233,co "__init__" "Pair.__init__" 478 479 480 485 81 3 228 229 (.ref 230) (.ref 231) 232 484)::
 (nat_lit 234,fo "__init__" "Pair.__init__" (zaC (top 20) 0) (.str "boxnarrow.kinds" 316) 233)::
 (nat_lit 245,co "slope" "Pair.slope" 497 498 499 501 88 5 242 243 .none .none 244 500)::
 (nat_lit 246,fo "slope" "Pair.slope" (zaC (top 20) 2) (.str "boxnarrow.kinds" 316) 245)::
 (nat_lit 248,(.mk (.type "dict") none (.dict #[(de P "__module__" 473 (.str "boxnarrow.kinds" 316)),(de P "__firstlineno__" 477 (.int 79 476)),(de P "__init__" 486 (.ref 234)),(de P "back" 496 (.ref 241)),(de P "slope" 502 (.ref 246)),(de P "__static_attributes__" 505 (.ref 247)),(de P "__doc__" 506 .none)] 2) #[]))::
 (nat_lit 249,(.mk (.type "type") none (.cls (PySem.ClassData.mk "Pair" [(.ref 124)] [(.ref 249),(.ref 124),(.type "object")] 248 "Pair" Bool.true [] [(.ref 296),(.ref 343),(.ref 390)] Bool.false none Bool.false)) #[(some (.ref 221)),none,(some (.str "Pair" 466)),(some (.str "Pair" 474)),(some (.builtin "object.__new__")),(some (.bool Bool.true))]))::
 (nat_lit 271,co "forth" "Plus.forth" 530 531 532 538 97 4 266 267 (.ref 268) (.ref 269) 270 537)::
 (nat_lit 272,fo "forth" "Plus.forth" (zaC (top 21) 1) (.str "boxnarrow.kinds" 316) 271)::
 (nat_lit 292,co "slope_of_both" "Plus.slope_of_both" 562 563 564 572 106 6 287 288 (.ref 289) (.ref 290) 291 571)::
 (nat_lit 293,fo "slope_of_both" "Plus.slope_of_both" (zaC (top 21) 4) (.str "boxnarrow.kinds" 316) 292)::
 (nat_lit 295,(.mk (.type "dict") none (.dict #[(de P "__module__" 516 (.str "boxnarrow.kinds" 316)),(de P "__firstlineno__" 520 (.int 92 519)),(de P "exact" 529 (.ref 265)),(de P "forth" 539 (.ref 272)),(de P "first_left" 550 (.ref 279)),(de P "second_left" 561 (.ref 286)),(de P "slope_of_both" 573 (.ref 293)),(de P "__static_attributes__" 574 (.ref 294)),(de P "__doc__" 575 .none)] 2) #[]))::
 (nat_lit 296,(.mk (.type "type") none (.cls (PySem.ClassData.mk "Plus" [(.ref 249)] [(.ref 296),(.ref 249),(.ref 124),(.type "object")] 295 "Plus" Bool.true [] [] Bool.false none Bool.false)) #[(some (.ref 252)),none,(some (.str "Plus" 509)),(some (.str "Plus" 517)),(some (.builtin "object.__new__")),(some (.bool Bool.true))]))::
 (nat_lit 318,co "forth" "Minus.forth" 599 600 601 607 113 4 313 314 (.ref 315) (.ref 316) 317 606)::
 (nat_lit 319,fo "forth" "Minus.forth" (zaC (top 22) 1) (.str "boxnarrow.kinds" 316) 318)::
 (nat_lit 339,co "slope_of_both" "Minus.slope_of_both" 631 632 633 641 122 6 334 335 (.ref 336) (.ref 337) 338 640)::
 (nat_lit 340,fo "slope_of_both" "Minus.slope_of_both" (zaC (top 22) 4) (.str "boxnarrow.kinds" 316) 339)::
 (nat_lit 342,(.mk (.type "dict") none (.dict #[(de P "__module__" 585 (.str "boxnarrow.kinds" 316)),(de P "__firstlineno__" 589 (.int 108 588)),(de P "exact" 598 (.ref 312)),(de P "forth" 608 (.ref 319)),(de P "first_left" 619 (.ref 326)),(de P "second_left" 630 (.ref 333)),(de P "slope_of_both" 642 (.ref 340)),(de P "__static_attributes__" 643 (.ref 341)),(de P "__doc__" 644 .none)] 2) #[]))::
 (nat_lit 343,(.mk (.type "type") none (.cls (PySem.ClassData.mk "Minus" [(.ref 249)] [(.ref 343),(.ref 249),(.ref 124),(.type "object")] 342 "Minus" Bool.true [] [] Bool.false none Bool.false)) #[(some (.ref 299)),none,(some (.str "Minus" 578)),(some (.str "Minus" 586)),(some (.builtin "object.__new__")),(some (.bool Bool.true))]))::
 (nat_lit 365,co "forth" "Times.forth" 668 669 670 676 129 4 360 361 (.ref 362) (.ref 363) 364 675)::
 (nat_lit 366,fo "forth" "Times.forth" (zaC (top 23) 1) (.str "boxnarrow.kinds" 316) 365)::
 (nat_lit 386,co "slope_of_both" "Times.slope_of_both" 700 701 702 710 138 6 381 382 (.ref 383) (.ref 384) 385 709)::
 (nat_lit 387,fo "slope_of_both" "Times.slope_of_both" (zaC (top 23) 4) (.str "boxnarrow.kinds" 316) 386)::
 (nat_lit 389,(.mk (.type "dict") none (.dict #[(de P "__module__" 654 (.str "boxnarrow.kinds" 316)),(de P "__firstlineno__" 658 (.int 124 657)),(de P "exact" 667 (.ref 359)),(de P "forth" 677 (.ref 366)),(de P "first_left" 688 (.ref 373)),(de P "second_left" 699 (.ref 380)),(de P "slope_of_both" 711 (.ref 387)),(de P "__static_attributes__" 712 (.ref 388)),(de P "__doc__" 713 .none)] 2) #[]))::
 (nat_lit 390,(.mk (.type "type") none (.cls (PySem.ClassData.mk "Times" [(.ref 249)] [(.ref 390),(.ref 249),(.ref 124),(.type "object")] 389 "Times" Bool.true [] [] Bool.false none Bool.false)) #[(some (.ref 346)),none,(some (.str "Times" 647)),(some (.str "Times" 655)),(some (.builtin "object.__new__")),(some (.bool Bool.true))]))::
 (nat_lit 405,co "__init__" "Power.__init__" 728 729 730 735 142 3 400 401 (.ref 402) (.ref 403) 404 734)::
 (nat_lit 406,fo "__init__" "Power.__init__" (zaC (top 24) 0) (.str "boxnarrow.kinds" 316) 405)::
 (nat_lit 419,co "forth" "Power.forth" 746 747 748 754 149 4 414 415 (.ref 416) (.ref 417) 418 753)::
 (nat_lit 420,fo "forth" "Power.forth" (zaC (top 24) 2) (.str "boxnarrow.kinds" 316) 419)::
 (nat_lit 431,co "slope" "Power.slope" 766 767 768 770 155 5 428 429 .none .none 430 769)::
 (nat_lit 432,fo "slope" "Power.slope" (zaC (top 24) 4) (.str "boxnarrow.kinds" 316) 431)::
 (nat_lit 434,(.mk (.type "dict") none (.dict #[(de P "__module__" 723 (.str "boxnarrow.kinds" 316)),(de P "__firstlineno__" 727 (.int 140 726)),(de P "__init__" 736 (.ref 406)),(de P "exact" 745 (.ref 413)),(de P "forth" 755 (.ref 420)),(de P "back" 765 (.ref 427)),(de P "slope" 771 (.ref 432)),(de P "__static_attributes__" 774 (.ref 433)),(de P "__doc__" 775 .none)] 2) #[]))::
 (nat_lit 435,(.mk (.type "type") none (.cls (PySem.ClassData.mk "Power" [(.ref 124)] [(.ref 435),(.ref 124),(.type "object")] 434 "Power" Bool.true [] [] Bool.false none Bool.false)) #[(some (.ref 393)),none,(some (.str "Power" 716)),(some (.str "Power" 724)),(some (.builtin "object.__new__")),(some (.bool Bool.true))]))::
 (nat_lit 443,co "kind_of" "kind_of" 778 779 780 783 159 1 438 439 (.ref 440) (.ref 441) 442 782)::
 (nat_lit 444,fo "kind_of" "kind_of" (top 25) (.str "boxnarrow.kinds" 316) 443)::
 (nat_lit 450,co "worths" "worths" 787 788 789 796 172 3 445 446 (.ref 447) (.ref 448) 449 795)::
 (nat_lit 451,fo "worths" "worths" (top 27) (.str "boxnarrow.worths" 785) 450)::
 (nat_lit 457,co "slopes" "slopes" 800 801 802 810 178 3 452 453 (.ref 454) (.ref 455) 456 809)::
 (nat_lit 458,fo "slopes" "slopes" (top 29) (.str "boxnarrow.sloping" 798) 457)::
 (nat_lit 462,co "equation_places" "equation_places" 814 815 816 818 185 1 459 460 .none .none 461 817)::
 (nat_lit 463,fo "equation_places" "equation_places" (top 31) (.str "boxnarrow.alone" 812) 462)::
 (nat_lit 467,co "picked" "picked" 820 821 822 824 187 2 464 465 .none .none 466 823)::
 (nat_lit 468,fo "picked" "picked" (top 32) (.str "boxnarrow.alone" 812) 467)::
 (nat_lit 472,co "middles" "middles" 826 827 828 830 189 1 469 470 .none .none 471 829)::
 (nat_lit 473,fo "middles" "middles" (top 33) (.str "boxnarrow.alone" 812) 472)::
 (nat_lit 477,co "box_of_middles" "box_of_middles" 832 833 834 836 191 1 474 475 .none .none 476 835)::
 (nat_lit 478,fo "box_of_middles" "box_of_middles" (top 34) (.str "boxnarrow.alone" 812) 477)::
 (nat_lit 484,co "sum_of_products" "sum_of_products" 838 839 840 848 193 3 479 480 (.ref 481) (.ref 482) 483 847)::
 (nat_lit 485,fo "sum_of_products" "sum_of_products" (top 35) (.str "boxnarrow.alone" 812) 484)::
 (nat_lit 489,co "lacking" "lacking" 850 851 852 854 198 5 486 487 .none .none 488 853)::
 (nat_lit 490,fo "lacking" "lacking" (top 36) (.str "boxnarrow.alone" 812) 489)::
 (nat_lit 494,co "span_by" "span_by" 856 857 858 860 202 6 491 492 .none .none 493 859)::
 (nat_lit 495,fo "span_by" "span_by" (top 37) (.str "boxnarrow.alone" 812) 494)::
 (nat_lit 499,co "step_by" "step_by" 862 863 864 866 209 5 496 497 .none .none 498 865)::
 (nat_lit 500,fo "step_by" "step_by" (top 38) (.str "boxnarrow.alone" 812) 499)::
 (nat_lit 506,co "thin_worths" "thin_worths" 868 869 870 876 211 4 501 502 (.ref 503) (.ref 504) 505 875)::
 (nat_lit 507,fo "thin_worths" "thin_worths" (top 39) (.str "boxnarrow.alone" 812) 506)::
 (nat_lit 513,co "slopes_at" "slopes_at" 878 879 880 886 213 4 508 509 (.ref 510) (.ref 511) 512 885)::
 (nat_lit 514,fo "slopes_at" "slopes_at" (top 40) (.str "boxnarrow.alone" 812) 513)::
 (nat_lit 520,co "step" "step" 888 889 890 899 215 5 515 516 (.ref 517) (.ref 518) 519 898)::
 (nat_lit 521,fo "step" "step" (top 41) (.str "boxnarrow.alone" 812) 520)::
 (nat_lit 527,co "_law_cell" "_law_cell" 903 904 905 909 220 2 522 523 (.ref 524) (.ref 525) 526 908)::
 (nat_lit 528,fo "_law_cell" "_law_cell" (top 43) (.str "law_boxnarrow_k44_step_keeps_answers" 901) 527)::
 (nat_lit 534,co "_law_whole" "_law_whole" 911 912 913 916 224 1 529 530 (.ref 531) (.ref 532) 533 915)::
 (nat_lit 535,fo "_law_whole" "_law_whole" (top 44) (.str "law_boxnarrow_k44_step_keeps_answers" 901) 534)::
 (nat_lit 541,co "_law_span" "_law_span" 918 919 920 923 226 1 536 537 (.ref 538) (.ref 539) 540 922)::
 (nat_lit 542,fo "_law_span" "_law_span" (top 45) (.str "law_boxnarrow_k44_step_keeps_answers" 901) 541)::
 (nat_lit 548,co "_law_spans" "_law_spans" 925 926 927 932 230 2 543 544 (.ref 545) (.ref 546) 547 931)::
 (nat_lit 549,fo "_law_spans" "_law_spans" (top 46) (.str "law_boxnarrow_k44_step_keeps_answers" 901) 548)::
 (nat_lit 555,co "_law_lowest" "_law_lowest" 934 935 936 942 237 2 550 551 (.ref 552) (.ref 553) 554 941)::
 (nat_lit 556,fo "_law_lowest" "_law_lowest" (top 47) (.str "law_boxnarrow_k44_step_keeps_answers" 901) 555)::
 (nat_lit 562,co "_law_number" "_law_number" 944 945 946 949 243 1 557 558 (.ref 559) (.ref 560) 561 948)::
 (nat_lit 563,fo "_law_number" "_law_number" (top 48) (.str "law_boxnarrow_k44_step_keeps_answers" 901) 562)::
 (nat_lit 569,co "_law_put" "_law_put" 951 952 953 959 249 4 564 565 (.ref 566) (.ref 567) 568 958)::
 (nat_lit 570,fo "_law_put" "_law_put" (top 49) (.str "law_boxnarrow_k44_step_keeps_answers" 901) 569)::
 (nat_lit 576,co "_law_grow" "_law_grow" 961 962 963 975 255 4 571 572 (.ref 573) (.ref 574) 575 974)::
 (nat_lit 577,fo "_law_grow" "_law_grow" (top 50) (.str "law_boxnarrow_k44_step_keeps_answers" 901) 576)::
 (nat_lit 583,co "_law_grid" "_law_grid" 977 978 979 982 269 1 578 579 (.ref 580) (.ref 581) 582 981)::
 (nat_lit 584,fo "_law_grid" "_law_grid" (top 51) (.str "law_boxnarrow_k44_step_keeps_answers" 901) 583)::
 (nat_lit 590,co "_law_side" "_law_side" 984 985 986 992 275 2 585 586 (.ref 587) (.ref 588) 589 991)::
 (nat_lit 591,fo "_law_side" "_law_side" (top 52) (.str "law_boxnarrow_k44_step_keeps_answers" 901) 590)::
 (nat_lit 597,co "_law_point" "_law_point" 994 995 996 1004 285 4 592 593 (.ref 594) (.ref 595) 596 1003)::
 (nat_lit 598,fo "_law_point" "_law_point" (top 53) (.str "law_boxnarrow_k44_step_keeps_answers" 901) 597)::
 (nat_lit 604,co "_law_at" "_law_at" 1006 1007 1008 1012 290 2 599 600 (.ref 601) (.ref 602) 603 1011)::
 (nat_lit 605,fo "_law_at" "_law_at" (top 54) (.str "law_boxnarrow_k44_step_keeps_answers" 901) 604)::
 (nat_lit 611,co "_law_factors" "_law_factors" 1014 1015 1016 1025 294 3 606 607 (.ref 608) (.ref 609) 610 1024)::
 (nat_lit 612,fo "_law_factors" "_law_factors" (top 55) (.str "law_boxnarrow_k44_step_keeps_answers" 901) 611)::
 (nat_lit 618,co "_law_sum" "_law_sum" 1027 1028 1029 1035 301 2 613 614 (.ref 615) (.ref 616) 617 1034)::
 (nat_lit 619,fo "_law_sum" "_law_sum" (top 56) (.str "law_boxnarrow_k44_step_keeps_answers" 901) 618)::
 (nat_lit 625,co "_law_holds" "_law_holds" 1037 1038 1039 1044 306 3 620 621 (.ref 622) (.ref 623) 624 1043)::
 (nat_lit 626,fo "_law_holds" "_law_holds" (top 57) (.str "law_boxnarrow_k44_step_keeps_answers" 901) 625)::
 (nat_lit 632,co "_law_turn" "_law_turn" 1046 1047 1048 1058 308 2 627 628 (.ref 629) (.ref 630) 631 1057)::
 (nat_lit 633,fo "_law_turn" "_law_turn" (top 58) (.str "law_boxnarrow_k44_step_keeps_answers" 901) 632)::
 (nat_lit 639,co "_law_equations" "_law_equations" 1060 1061 1062 1075 322 4 634 635 (.ref 636) (.ref 637) 638 1074)::
 (nat_lit 640,fo "_law_equations" "_law_equations" (top 59) (.str "law_boxnarrow_k44_step_keeps_answers" 901) 639)::
 (nat_lit 644,co "law" "law" 1077 1078 1079 1081 335 1 641 642 .none .none 643 1080)::
 (nat_lit 645,fo "law" "law" (top 60) (.str "law_boxnarrow_k44_step_keeps_answers" 901) 644)::[]
def ks:List Addr:=nat_lit 3::nat_lit 30::nat_lit 31::nat_lit 43::nat_lit 44::nat_lit 52::nat_lit 53::nat_lit 59::nat_lit 60::nat_lit 66::nat_lit 67::nat_lit 73::nat_lit 74::nat_lit 80::nat_lit 81::nat_lit 87::nat_lit 88::nat_lit 94::nat_lit 95::nat_lit 99::nat_lit 100::nat_lit 106::nat_lit 107::nat_lit 113::nat_lit 114::nat_lit 123::nat_lit 124::nat_lit 141::nat_lit 142::nat_lit 155::nat_lit 156::nat_lit 169::nat_lit 170::nat_lit 172::nat_lit 173::nat_lit 188::nat_lit 189::nat_lit 202::nat_lit 203::nat_lit 214::nat_lit 215::nat_lit 217::nat_lit 218::nat_lit 233::nat_lit 234::nat_lit 245::nat_lit 246::nat_lit 248::nat_lit 249::nat_lit 271::nat_lit 272::nat_lit 292::nat_lit 293::nat_lit 295::nat_lit 296::nat_lit 318::nat_lit 319::nat_lit 339::nat_lit 340::nat_lit 342::nat_lit 343::nat_lit 365::nat_lit 366::nat_lit 386::nat_lit 387::nat_lit 389::nat_lit 390::nat_lit 405::nat_lit 406::nat_lit 419::nat_lit 420::nat_lit 431::nat_lit 432::nat_lit 434::nat_lit 435::nat_lit 443::nat_lit 444::nat_lit 450::nat_lit 451::nat_lit 457::nat_lit 458::nat_lit 462::nat_lit 463::nat_lit 467::nat_lit 468::nat_lit 472::nat_lit 473::nat_lit 477::nat_lit 478::nat_lit 484::nat_lit 485::nat_lit 489::nat_lit 490::nat_lit 494::nat_lit 495::nat_lit 499::nat_lit 500::nat_lit 506::nat_lit 507::nat_lit 513::nat_lit 514::nat_lit 520::nat_lit 521::nat_lit 527::nat_lit 528::nat_lit 534::nat_lit 535::nat_lit 541::nat_lit 542::nat_lit 548::nat_lit 549::nat_lit 555::nat_lit 556::nat_lit 562::nat_lit 563::nat_lit 569::nat_lit 570::nat_lit 576::nat_lit 577::nat_lit 583::nat_lit 584::nat_lit 590::nat_lit 591::nat_lit 597::nat_lit 598::nat_lit 604::nat_lit 605::nat_lit 611::nat_lit 612::nat_lit 618::nat_lit 619::nat_lit 625::nat_lit 626::nat_lit 632::nat_lit 633::nat_lit 639::nat_lit 640::nat_lit 644::nat_lit 645::[]
theorem zdC (P:Params):ks=(kp P).map (·.1):=by kernel_rfl
noncomputable abbrev hk:PySem.W.Hook:=PySem.W.kHook kp ks zdC
abbrev xt (s:Shared):Bool:=PySem.W.xlAt vw [] s && PySem.W.recOk (PySem.W.RowW.records (PySem.W.OpenRow.toRowW (PySem.W.OpenLaw.row PySem.Challenge.rw_boxnarrow_k44_step_keeps_answers))) s
theorem zi7:PySem.W.opening PySem.Challenge.pw_boxnarrow_k44_step_keeps_answers=PySem.W.plainProg PySem.Challenge.pw_boxnarrow_k44_step_keeps_answers.main.scope.names:=by kernel_rfl
theorem fe_eq (s:Shared):PySem.fenceModules? PySem.Challenge.pw_boxnarrow_k44_step_keeps_answers s=some s:=by kernel_rfl
theorem si_eq (w:World):((PySem.W.boot_heap w.params).isNs mainGlobals && (Array.mk []:Array GenState).size == 0,(PySem.W.boot_heap w.params).objs.size,(PySem.W.boot_heap w.params).nsMap mainGlobals "__annotations__")=(true,11,some (.ref 6)):=by kernel_rfl
open PySem.Calls in
theorem ra_eq (w:World):(fun os=>(L3.goT PySem.treeTable PySem.Challenge.pw_boxnarrow_k44_step_keeps_answers w 11 (some (.ref 6)) 9356 (L3.zcj w os) (PySem.W.topStub PySem.Challenge.pw_boxnarrow_k44_step_keeps_answers)).map fun s=>(L3.zjq PySem.Challenge.pw_boxnarrow_k44_step_keeps_answers w s,(PySem.W.openSeen vw [] (importedModules PySem.Challenge.pw_boxnarrow_k44_step_keeps_answers.main.body) xt true s.abs).1))=fun _=>some (true,(PySem.W.openGood vw []).1):=by kernel_rfl
open PySem.Calls in
theorem rb_eq (w:World):(fun os=>(L3.goT PySem.treeTable PySem.Challenge.pw_boxnarrow_k44_step_keeps_answers w 11 (some (.ref 6)) 9356 (L3.zcj w os) (PySem.W.topStub PySem.Challenge.pw_boxnarrow_k44_step_keeps_answers)).map fun s=>((PySem.W.openSeen vw [] (importedModules PySem.Challenge.pw_boxnarrow_k44_step_keeps_answers.main.body) xt true s.abs).2.1,(PySem.W.openSeen vw [] (importedModules PySem.Challenge.pw_boxnarrow_k44_step_keeps_answers.main.body) xt true s.abs).2.2.1))=fun _=>some ((PySem.W.openGood vw []).2.1,(PySem.W.openGood vw []).2.2.1):=by kernel_rfl
open PySem.Calls in
theorem rc_eq (w:World):(fun os=>(L3.goT PySem.treeTable PySem.Challenge.pw_boxnarrow_k44_step_keeps_answers w 11 (some (.ref 6)) 9356 (L3.zcj w os) (PySem.W.topStub PySem.Challenge.pw_boxnarrow_k44_step_keeps_answers)).map fun s=>(PySem.W.openSeen vw [] (importedModules PySem.Challenge.pw_boxnarrow_k44_step_keeps_answers.main.body) xt true s.abs).2.2.2)=fun _=>some (PySem.W.openGood vw []).2.2.2:=by kernel_rfl
open PySem.Calls in
theorem ob_eq (w:World):(fun os=>(L3.goT PySem.treeTable PySem.Challenge.pw_boxnarrow_k44_step_keeps_answers w 11 (some (.ref 6)) 9356 (L3.zcj w os) (PySem.W.topStub PySem.Challenge.pw_boxnarrow_k44_step_keeps_answers)).map fun s=>ks.map (L3.zha s))=fun _=>some (hk.val w):=by kernel_rfl
theorem left:PySem.W.LeftO PySem.Challenge.pw_boxnarrow_k44_step_keeps_answers vw [] xt hk.obs hk.val 9356:=L3.zqY (L3.zrQ ks) zi7 (by decide) fe_eq si_eq ra_eq rb_eq rc_eq ob_eq

theorem zaS {C:Addr}{f:Str}{to:TDE}{dl:Ev}{S S1:Sto}{Q:DK}{n:Nat}{fs:List (Str×D)}{v:D}(hto:∀K:DK,K (.ref n) S1→to dl S K)(h:S1[n]?=some (.ins C fs))(hf:fs.lookup f=some v)(hq:Q v S1):zhh C f to dl S Q:=by
 unfold zhh
 refine hto _ ?_
 simp only[zb6,h,if_pos,hf]
 exact hq
theorem zbP {C:Addr}{f:Str}{to te:TDE}{dl:Ev}{S S1 S2:Sto}{E:zcD}{n:Nat}{fs:List (Str×D)}{v:D}(hte:∀K:DK,K v S1→te dl S K)(hto:∀K:DK,K (.ref n) S2→to dl S1 K)(h:S2[n]?=some (.ins C fs))(hl:fs.length < 1000)(hq:E.nx dl (S2.set n (.ins C (zd9 f v fs)))):zij C f to te E dl S:=by
 unfold zij
 refine hte _ (hto _ ?_)
 simp only[zb6,h,if_pos]
 exact⟨hl,hq⟩
theorem ziN {C:Addr}{m:Str}{ex:Ev→Addr→Sto→Prop}{sd:Sd}{to:TDE}{t:TDA}{dl:Ev}{S S1:Sto}{Q:DK}{n:Nat}{fs:List (Str×D)}(hto:∀K:DK,K (.ref n) S1→to dl S K)(h:S1[n]?=some (.ins C fs))(hf:fs.lookup m=none)(hq:t dl S1 fun ds S2=>sd (.ref n::ds) S2 Q (ex dl)):zgu C m ex sd to t dl S Q:=by
 unfold zgu
 refine hto _ ?_
 simp only[zb6,h,if_pos]
 exact⟨hf,hq⟩
theorem zrD {te:TDE}{dl:Ev}{S:Sto}{Q:DK}{n:Nat}{xs:List D}(ht:∀K:DK,K (.ref n) S→te dl S K)(h:S[n]?=some (.lst xs))(hq:Q (.bl true) S):zif "list" te dl S Q:=by
 unfold zif
 refine ht _ ?_
 simp only[h]
 exact hq
theorem forZ_at {is:List Nat}{ta:TDA}{tb:TDS}{E:zcD}{dl:Ev}{S:Sto}{n n':Nat}{xs ys:List D}(W:Ev→Prop)(hta:∀K:List D→Sto→Prop,K [.ref n,.ref n'] S→ta dl S K)(h1:S[n]?=some (.lst xs))(h2:S[n']?=some (.lst ys))(h0:W dl)
  (hb:∀(k:Nat) (x y:D) (dl':Ev) (nx ct:Ev→Sto→Prop),xs[k]?=some x→ys[k]?=some y→W dl'→(∀dl2,W dl2→nx dl2 S)→tb { nx:=nx,rt:=E.rt,bk:=E.nx,ct:=ct } (zdw is [x,y] dl') S)(he:∀dl',W dl'→E.nx dl' S):zdM is ta tb E dl S:=by
 unfold zdM
 refine hta _ ⟨⟨by rw[zaB h1 rfl]; rfl,by rw[zaB h2 rfl]; rfl⟩,fun k m dl' S'=>S'=S∧W dl'∧k + m=min xs.length ys.length,⟨min xs.length ys.length,rfl,h0,by simp⟩,?_⟩
 rintro k m dl' S' ⟨rfl,w,hk⟩
 simp only[zaB h1 rfl,zaB h2 rfl,zah]
 split
 ·rename_i x y e1 e2
  have l1:=(List.getElem?_eq_some_iff.mp e1).1
  have l2:=(List.getElem?_eq_some_iff.mp e2).1
  exact hb k x y dl' _ _ e1 e2 w (fun dl2 w2=>⟨m - 1,by omega,rfl,w2,by omega⟩)
 ·rename_i no
  refine⟨?_,he _ w⟩
  by_cases l:k < min xs.length ys.length
  ·exact absurd (List.getElem?_eq_getElem (l:=ys) (i:=k) (by omega)) (no _ _ (List.getElem?_eq_getElem (l:=xs) (i:=k) (by omega)))
  ·omega
theorem zbT {n:Nat}{S:Sto}{Q:DK}{xs:List D}(h:S[n]?=some (.lst xs))(hq:Q (.int (xs.length:Nat)) S):irr ze1 [.ref n] S Q:=by
 rw[zgD]
 unfold ze1
 simp only[zaB h rfl]
 exact hq
theorem za5 {S:Sto}{n a:Nat}{o u:Ob}(h:S[n]?=some o)(hn:a≠n):(S.set a u)[n]?=some o:=by rw[List.getElem?_set_ne hn]; exact h
theorem zbE {S:Sto}{n:Nat}{o u:Ob}(h:S[n]?=some o):(S.set n u)[n]?=some u:=by
 have hk:=(List.getElem?_eq_some_iff.mp h).1
 simp[hk]
theorem zao {S:Sto}{n:Nat}{o:Ob}{T:Sto}(h:S[n]?=some o):(S++T)[n]?=some o:=by
 have hk:=(List.getElem?_eq_some_iff.mp h).1
 rw[List.getElem?_append_left hk]
 exact h
theorem zbS (T R:Sto)(u:Ob):(T++u::R)[T.length]?=some u:=by simp
theorem zbX (T R:Sto)(u v:Ob):(T++u::R).set T.length v=T++v::R:=by simp
theorem za2 {S:Sto}{n:Nat}{o:Ob}(h:S[n]?=some o):n < S.length:=(List.getElem?_eq_some_iff.mp h).1
theorem zrK {xs:List Int}{lo hi:Option Int}{k:Nat}{x:D}(h:(zaT (xs.map D.int) lo hi)[k]?=some x):∃c:Int,x=.int c:=by
 have m:=List.mem_of_getElem? h
 unfold L3.zaT at m
 obtain⟨c,_,rfl⟩:=List.mem_map.mp (List.mem_of_mem_drop (List.mem_of_mem_take m))
 exact⟨c,rfl⟩
theorem zdr {i n:Nat}{tb:TDS}{E:zcD}{dl:Ev}{S:Sto}{o:Ob}(W:Nat→Ev→Sto→Prop)(h0:W 0 dl S)(hk:∀k dl' S',W k dl' S'→S'[n]?=some o)
  (ht:∀(k:Nat) (x:D) (dl':Ev) (S':Sto) (nx ct:Ev→Sto→Prop),(zah o)[k]?=some x→W k dl' S'→(∀dl2 S2,W (k + 1) dl2 S2→nx dl2 S2)→tb { nx:=nx,rt:=E.rt,bk:=E.nx,ct:=ct } (dl'.set i (some x)) S')(he:∀dl' S',W (zah o).length dl' S'→E.nx dl' S')(hL:zbC o=some o:=by rfl):
  (lAt S n).isSome=true∧∃W:Nat→Nat→Ev→Sto→Prop,(∃m,W 0 m dl S)∧∀k m dl S,W k m dl S→match lAt S n with
  | some o=>match (zah o)[k]? with
   | some x=>tb { nx:=fun dl' S'=>∃m',m' < m∧W (k + 1) m' dl' S',rt:=E.rt,bk:=E.nx,ct:=fun dl' S'=>∃m',m' < m∧W (k + 1) m' dl' S' } (dl.set i (some x)) S
   | none=>E.nx dl S
  | none=>False:=by
 refine⟨by rw[zaB (hk _ _ _ h0) hL]; rfl,fun k m dl' S'=>m + k=(zah o).length∧W k dl' S',⟨(zah o).length,by omega,h0⟩,?_⟩
 rintro k m dl' S' ⟨hm,w⟩
 rw[zaB (hk _ _ _ w) hL]
 show (match (zah o)[k]? with
   | some x=>tb { nx:=fun dl' S''=>∃m',m' < m∧(m' + (k + 1)=(zah o).length∧W (k + 1) dl' S''),rt:=E.rt,bk:=E.nx,ct:=fun dl' S''=>∃m',m' < m∧(m' + (k + 1)=(zah o).length∧W (k + 1) dl' S'') } (dl'.set i (some x)) S'
   | none=>E.nx dl' S')
 split
 ·rename_i x hx
  have hk:k < (zah o).length:=(List.getElem?_eq_some_iff.mp hx).1
  exact ht k x dl' S' _ _ hx w fun dl2 S2 w2=>⟨m - 1,by omega,by omega,w2⟩
 ·rename_i hx
  have hk:k=(zah o).length:=by
   have:=List.getElem?_eq_none_iff.mp hx
   omega
  exact he dl' S' (hk ▸ w)

inductive Nd where
 | number (t b:Int) | unknown (k:Int) | plus (i j:Int) | minus (i j:Int) | times (i j:Int) | power (i n:Int)
def Nd.d:Nd→D
 | .number t b=>.tup [.str "number",.int t,.int b]
 | .unknown k=>.tup [.str "unknown",.int k]
 | .plus i j=>.tup [.str "plus",.int i,.int j]
 | .minus i j=>.tup [.str "minus",.int i,.int j]
 | .times i j=>.tup [.str "times",.int i,.int j]
 | .power i n=>.tup [.str "power",.int i,.int n]
def Nd.ob (cN cU cP cM cT cW:Addr):Nd→Ob
 | .number t b=>.ins cN [("top",.int t),("bottom",.int b)]
 | .unknown k=>.ins cU [("place",.int k)]
 | .plus i j=>.ins cP [("one",.int i),("other",.int j)]
 | .minus i j=>.ins cM [("one",.int i),("other",.int j)]
 | .times i j=>.ins cT [("one",.int i),("other",.int j)]
 | .power i n=>.ins cW [("one",.int i),("many",.int n)]
def inR (m i:Int):Prop:=0≤i∧i < m
def Nd.ok (m q:Int):Nd→Prop
 | .number t b=>(1≤b∧b≤10 ^ 9)∧Int.gcd t b=1∧t.natAbs≤10 ^ 9
 | .unknown k=>inR q k
 | .plus i j=>inR m i∧inR m j
 | .minus i j=>inR m i∧inR m j
 | .times i j=>inR m i∧inR m j
 | .power i n=>inR m i∧2≤n∧n≤6
def frD (p:Int×Int):D:=.tup [.int p.1,.int p.2]
abbrev gt (vs:List (Int×Int))(i:Int):Int×Int:=vs.getD i.toNat (0,1)
theorem zdY {vs:List (Int×Int)}{i:Int}(h:inR vs.length i):gt vs i∈vs:=by
 obtain⟨h0,h1⟩:=h
 have hk:i.toNat < vs.length:=by omega
 have e:gt vs i=vs[i.toNat]:=by simp[gt,hk]
 rw[e]
 exact List.getElem_mem hk
theorem za0 {vs:List (Int×Int)}{i:Int}(h:inR vs.length i):atI (vs.map frD) i=some (frD (gt vs i)):=by
 obtain⟨h0,h1⟩:=h
 have hk:i.toNat < vs.length:=by omega
 have z:=zcr (xs:=vs.map frD) (j:=i.toNat) (v:=frD (gt vs i)) (by rw[List.getElem?_map,List.getElem?_eq_getElem hk]; simp[gt,hk])
 rw[show ((i.toNat:Nat):Int)=i by omega] at z
 exact z
theorem fr_eq (p q:Int×Int):eqN 1 (frD p) (frD q)=some (decide (p.1=q.1) && (decide (p.2=q.2) && true)):=by simp[frD,eqN,L3.eqT,eqL,eqF]
theorem zll:∀vs:List (Int×Int),eqL (eqN 1) (vs.map frD) (vs.map frD)=some true
 | []=>rfl
 | u::us=>by
  show (match eqN 1 (frD u) (frD u),eqL (eqN 1) (us.map frD) (us.map frD) with | some b,some c=>some (b && c) | _,_=>none)=_
  rw[fr_eq,zll us]
  simp
theorem zk5 {G:Int×Int→Prop}:∀xs:List D,(∀(k:Nat) (d:D),xs[k]?=some d→∃p,d=frD p∧G p)→∃vs:List (Int×Int),xs=vs.map frD∧∀p∈vs,G p
 | [],_=>⟨[],rfl,fun p h=>by cases h⟩
 | x::xs,h=>by
  obtain⟨p,rfl,hp⟩:=h 0 x rfl
  obtain⟨vs,rfl,hv⟩:=zk5 xs fun k d hd=>h (k + 1) d hd
  exact⟨p::vs,rfl,fun q hq=>by
   rcases List.mem_cons.mp hq with e | e
   ·subst e; exact hp
   ·exact hv q e⟩
theorem zlE {xs:List D}{d e:D}{i:Nat}{P:Nat→D→Prop}(h:(xs++[d])[i]?=some e)(hp:∀i d,xs[i]?=some d→P i d)(hd:P xs.length d):P i e:=by
 by_cases hi:i < xs.length
 ·rw[List.getElem?_append_left hi] at h
  exact hp i e h
 ·have hk:=(List.getElem?_eq_some_iff.mp h).1
  simp only[List.length_append,List.length_cons,List.length_nil] at hk
  have e1:i=xs.length:=by omega
  subst e1
  simp at h
  subst h
  exact hd
theorem zlI {caps:List Nat}{ta:TDA}{te:TDE}{dl:Ev}{S S1:Sto}{Q:DK}{j:Int}(P:Nat→D→Prop)(hta:∀K:List D→Sto→Prop,K [.int j] S1→ta dl S K)(hj:0≤j∧j≤1000)
  (ht:∀k:Nat,k < j.toNat→∀(S2:Sto) (K:DK),Pre S1 S2→(∀d,P k d→K d S2)→te (some (.int k)::zbn caps dl) S2 K)(hq:∀xs:List D,xs.length=j.toNat→(∀k d,xs[k]?=some d→P k d)→Q (.ref S1.length) (S1++[.lst xs])):zcn caps ta zbW te dl S Q:=by
 unfold zcn
 refine hta _ ⟨⟨by omega,by omega⟩,fun k S2=>(∃xs:List D,S2=S1++[.lst xs]∧xs.length=k∧∀i d,xs[i]?=some d→P i d)∧k≤j.toNat,⟨⟨[],rfl,rfl,fun i d h=>by simp at h⟩,by omega⟩,?_⟩
 rintro k S2 ⟨⟨xs,rfl,hx,hp⟩,hk⟩
 split
 ·rename_i hk'
  unfold zcm zbW
  simp only[if_true]
  refine ht k hk' _ _ Pre.refl.push fun d hd=>?_
  rw[zat]
  refine⟨by omega,⟨xs++[d],zfQ _ _ _,by simp[hx],fun i e he=>zlE he hp (hx ▸ hd)⟩,by omega⟩
 ·have e:k=j.toNat:=by omega
  subst e
  exact hq xs hx hp
theorem zla {caps:List Nat}{tl te:TDE}{dl:Ev}{S S1:Sto}{Q:DK}{n:Nat}{o:Ob}(P:Nat→D→Prop)(htl:∀K:DK,K (.ref n) S1→tl dl S K)(h1:S1[n]?=some o)(hl:(zah o).length≤1000)
  (ht:∀(k:Nat) (x:D),(zah o)[k]?=some x→∀(S2:Sto) (K:DK),Pre S1 S2→(∀d,P k d→K d S2)→te (some x::zbn caps dl) S2 K)(hq:∀xs:List D,xs.length=(zah o).length→(∀k d,xs[k]?=some d→P k d)→Q (.ref S1.length) (S1++[.lst xs]))(hL:zbC o=some o:=by rfl):zbK caps tl zbW te dl S Q:=by
 unfold zbK
 refine htl _ ⟨by rw[zaB h1 hL]; rfl,fun k m S2=>(∃xs:List D,S2=S1++[.lst xs]∧xs.length=k∧∀i d,xs[i]?=some d→P i d)∧m + k=(zah o).length,⟨(zah o).length,⟨[],rfl,rfl,fun i d h=>by simp at h⟩,by omega⟩,?_⟩
 rintro k m S2 ⟨⟨xs,rfl,hx,hp⟩,hm⟩
 rw[zaB (zcT h1) hL]
 dsimp only
 split
 ·rename_i x hk
  have hk':k < (zah o).length:=(List.getElem?_eq_some_iff.mp hk).1
  unfold zcm zbW
  simp only[if_true]
  refine ht k x hk _ _ Pre.refl.push fun d hd=>?_
  rw[zat]
  refine⟨by omega,m - 1,by omega,⟨xs++[d],zfQ _ _ _,by simp[hx],fun i e he=>zlE he hp (hx ▸ hd)⟩,by omega⟩
 ·rename_i hk
  have hk':=List.getElem?_eq_none_iff.mp hk
  exact hq xs (by omega) hp
theorem zlP {α:Type}{xs:List D}{lo hi:Option Int}:(zaT xs lo hi).length≤xs.length:=by
 unfold L3.zaT
 rw[List.length_take,List.length_drop]
 omega
theorem zjh {S T:Sto}(h:Pre S T){n:Nat}{o:Ob}(e:S[n]?=some o):T[n]?=some o:=h n o e

structure zdb (a b c d mn mx:Int):Prop where
 lo:mn=a * c∨mn=a * d∨mn=b * c∨mn=b * d
 l1:mn≤a * c
 l2:mn≤a * d
 l3:mn≤b * c
 l4:mn≤b * d
 hi:mx=a * c∨mx=a * d∨mx=b * c∨mx=b * d
 h1:a * c≤mx
 h2:a * d≤mx
 h3:b * c≤mx
 h4:b * d≤mx
theorem zdb.of {a b c d mn mx:Int}(m1:mn∈[a * c,a * d,b * c,b * d])(m2:∀y∈[a * c,a * d,b * c,b * d],mn≤y)(x1:mx∈[a * c,a * d,b * c,b * d])(x2:∀y∈[a * c,a * d,b * c,b * d],y≤mx):zdb a b c d mn mx:=by
 simp only[List.mem_cons,List.not_mem_nil,or_false] at m1 x1
 exact⟨m1,m2 _ (by simp),m2 _ (by simp),m2 _ (by simp),m2 _ (by simp),x1,x2 _ (by simp),x2 _ (by simp),x2 _ (by simp),x2 _ (by simp)⟩

structure zcz (a b:Int)(n:Nat)(m M:Int):Prop where
 lo:m=a ^ n∨m=b ^ n∨(a < 0∧0 < b∧m=0)
 l1:m≤a ^ n
 l2:m≤b ^ n
 l3:a < 0→0 < b→m≤0
 hi:M=a ^ n∨M=b ^ n
 h1:a ^ n≤M
 h2:b ^ n≤M
theorem zg6 {n:Nat}(h:1≤n):(0:Int) ^ n=0:=by
 cases n with
 | zero=>omega
 | succ k=>rw[Int.pow_succ,Int.mul_zero]
theorem zku (n:Nat):(∀x:Int,(-x) ^ n=x ^ n)∨(∀x:Int,(-x) ^ n=-(x ^ n)):=by
 induction n with
 | zero=>left; intro x; rw[Int.pow_zero,Int.pow_zero]
 | succ k ih=>
  rcases ih with e | e
  ·right; intro x; rw[Int.pow_succ,Int.pow_succ,e,Int.mul_neg]
  ·left; intro x; rw[Int.pow_succ,Int.pow_succ,e,Int.neg_mul_neg]
theorem zdp {x y:Int}(h0:0≤x)(h:x≤y)(n:Nat):x ^ n≤y ^ n:=by
 induction n with
 | zero=>rw[Int.pow_zero,Int.pow_zero]; exact Int.le_refl _
 | succ k ih=>
  rw[Int.pow_succ,Int.pow_succ]
  exact Int.mul_le_mul ih h h0 (Int.pow_nonneg (by omega))
theorem zli {y z x m M:Int}{n:Nat}(hn:1≤n)(h1:y≤x)(h2:x≤z)(m1:m≤y ^ n)(m2:m≤z ^ n)(m3:y < 0→0 < z→m≤0)(M1:y ^ n≤M)(M2:z ^ n≤M):m≤x ^ n∧x ^ n≤M:=by
 by_cases hy:0≤y
 ·have e1:=zdp hy h1 n
  have e2:=zdp (show 0≤x by omega) h2 n
  omega
 ·by_cases hz:z≤0
  ·have e1:=zdp (show 0≤-z by omega) (show -z≤-x by omega) n
   have e2:=zdp (show 0≤-x by omega) (show -x≤-y by omega) n
   rcases zku n with p | p <;> rw[p,p] at e1 e2 <;> omega
  ·have m3':=m3 (by omega) (by omega)
   have z0:(0:Int)≤z ^ n:=Int.pow_nonneg (by omega)
   by_cases hx:0≤x
   ·have e1:(0:Int)≤x ^ n:=Int.pow_nonneg hx
    have e2:=zdp hx h2 n
    omega
   ·have e1:(0:Int)≤(-x) ^ n:=Int.pow_nonneg (by omega)
    have e2:=zdp (show 0≤-x by omega) (show -x≤-y by omega) n
    rcases zku n with p | p
    ·rw[p] at e1
     rw[p,p] at e2
     omega
    ·rw[p] at e1
     rw[p,p] at e2
     omega
theorem zcz.of {a b g mn mx:Int}{n:Nat}(hg:1≤g){l:List Int}(hl:l=[a ^ n * g,b ^ n * g]∧¬ (a < 0∧0 < b)∨l=[a ^ n * g,b ^ n * g,0 ^ n * g]∧a < 0∧0 < b)(hn:1≤n)(m1:mn∈l)(m2:∀y∈l,mn≤y)(x1:mx∈l)(x2:∀y∈l,y≤mx):
  ∃m M,zcz a b n m M∧mn=m * g∧mx=M * g:=by
 have can:∀ {x y:Int},x * g≤y * g→x≤y:=fun {x y} h=>Int.le_of_mul_le_mul_right h (by omega)
 rcases hl with ⟨rfl,hz⟩ | ⟨rfl,hz1,hz2⟩
 ·simp only[List.mem_cons,List.not_mem_nil,or_false] at m1 x1
  have a1:=m2 (a ^ n * g) (by simp)
  have a2:=m2 (b ^ n * g) (by simp)
  have b1:=x2 (a ^ n * g) (by simp)
  have b2:=x2 (b ^ n * g) (by simp)
  obtain⟨m,hm,em⟩:∃m,(m=a ^ n∨m=b ^ n)∧mn=m * g:=by
   rcases m1 with e | e
   ·exact⟨_,.inl rfl,e⟩
   ·exact⟨_,.inr rfl,e⟩
  obtain⟨M,hM,eM⟩:∃m,(m=a ^ n∨m=b ^ n)∧mx=m * g:=by
   rcases x1 with e | e
   ·exact⟨_,.inl rfl,e⟩
   ·exact⟨_,.inr rfl,e⟩
  subst em eM
  exact⟨m,M,⟨hm.elim .inl fun e=>.inr (.inl e),can a1,can a2,fun c1 c2=>absurd ⟨c1,c2⟩ hz,hM,can b1,can b2⟩,rfl,rfl⟩
 ·rw[zg6 hn,Int.zero_mul] at m1 m2 x1 x2
  simp only[List.mem_cons,List.not_mem_nil,or_false] at m1 x1
  have a1:=m2 (a ^ n * g) (by simp)
  have a2:=m2 (b ^ n * g) (by simp)
  have a3:=m2 0 (by simp)
  have b1:=x2 (a ^ n * g) (by simp)
  have b2:=x2 (b ^ n * g) (by simp)
  have b3:=x2 0 (by simp)
  obtain⟨m,hm,em⟩:∃m,(m=a ^ n∨m=b ^ n∨m=0)∧mn=m * g:=by
   rcases m1 with e | e | e
   ·exact⟨_,.inl rfl,e⟩
   ·exact⟨_,.inr (.inl rfl),e⟩
   ·exact⟨0,.inr (.inr rfl),by rw[e,Int.zero_mul]⟩
  have bp:(0:Int)≤b ^ n:=Int.pow_nonneg (by omega)
  have bg:=Int.mul_nonneg bp (show 0≤g by omega)
  obtain⟨M,hM,eM⟩:∃m,(m=a ^ n∨m=b ^ n)∧mx=m * g:=by
   rcases x1 with e | e | e
   ·exact⟨_,.inl rfl,e⟩
   ·exact⟨_,.inr rfl,e⟩
   ·exact⟨_,.inr rfl,by omega⟩
  subst em eM
  refine⟨m,M,⟨?_,can a1,can a2,fun _ _=>can (by rw[Int.zero_mul]; exact a3),hM,can b1,can b2⟩,rfl,rfl⟩
  rcases hm with e | e | e
  ·exact .inl e
  ·exact .inr (.inl e)
  ·exact .inr (.inr ⟨hz1,hz2,e⟩)
theorem zdg {m g:Int}{n:Nat}(hg:1≤g)(hn:1≤n):m * g / g ^ n=m / g ^ (n - 1):=by
 obtain⟨k,rfl⟩:∃k,n=k + 1:=⟨n - 1,by omega⟩
 rw[Int.pow_succ,Nat.add_sub_cancel,Int.mul_ediv_mul_of_pos_left _ _ (by omega)]

def mn4 (a b c d:Int):Int:=min (min (a * c) (a * d)) (min (b * c) (b * d))
def mx4 (a b c d:Int):Int:=max (max (a * c) (a * d)) (max (b * c) (b * d))
theorem zdb.eq {a b c d mn mx:Int}(h:zdb a b c d mn mx):mn=mn4 a b c d∧mx=mx4 a b c d:=by
 obtain⟨h0,h1,h2,h3,h4,h5,h6,h7,h8,h9⟩:=h
 unfold mn4 mx4
 omega
def zaw (a b:Int)(n:Nat):Int:=if n % 2=0∧a≤0∧0≤b then 0 else min (a ^ n) (b ^ n)
def zaF (a b:Int)(n:Nat):Int:=max (a ^ n) (b ^ n)
theorem zb2 {n:Nat}(h:n % 2=0)(x:Int):0≤x ^ n:=by
 obtain⟨k,rfl⟩:∃k,n=k + k:=⟨n / 2,by omega⟩
 rw[Int.pow_add]
 by_cases c:0≤x ^ k
 ·exact Int.mul_nonneg c c
 ·have:=Int.mul_nonneg (show 0≤-(x ^ k) by omega) (show 0≤-(x ^ k) by omega)
  rw[Int.neg_mul_neg] at this
  exact this
theorem zfh {n:Nat}(h:n % 2=1){x:Int}(hx:x < 0):x ^ n < 0:=by
 obtain⟨k,rfl⟩:∃k,n=k + 1:=⟨n - 1,by omega⟩
 have z:=zb2 (n:=k) (by omega) x
 have nz:∀k:Nat,x ^ k≠0:=fun k=>by
  induction k with
  | zero=>rw[Int.pow_zero]; decide
  | succ k ih=>rw[Int.pow_succ]; exact Int.mul_ne_zero ih (by omega)
 have nz:=nz k
 have:=Int.mul_pos (show 0 < x ^ k by omega) (show 0 < -x by omega)
 rw[Int.mul_neg] at this
 rw[Int.pow_succ]
 omega
theorem zcz.eq {a b m M:Int}{n:Nat}(h:zcz a b n m M)(hn:1≤n):m=zaw a b n∧M=zaF a b n:=by
 obtain⟨h0,h1,h2,h3,h4,h5,h6⟩:=h
 refine⟨?_,by unfold zaF; omega⟩
 unfold zaw
 split
 ·rename_i c
  obtain⟨c1,c2,c3⟩:=c
  have e1:=zb2 c1 a
  have e2:=zb2 c1 b
  by_cases z:a < 0∧0 < b
  ·have:=h3 z.1 z.2
   omega
  ·have z':a=0∨b=0:=by omega
   rcases z' with rfl | rfl
   ·rw[zg6 hn] at h1
    omega
   ·rw[zg6 hn] at h2
    omega
 ·rename_i c
  have hz:a < 0→0 < b→m≠0:=fun a1 b1 e=>by
   by_cases p:n % 2=0
   ·exact c ⟨p,by omega,by omega⟩
   ·have:=zfh (n:=n) (by omega) a1
    omega
  omega
def Nd.fw (vs bs:List (Int×Int))(g:Int):Nd→Int×Int
 | .number t b=>(t * g / b,-(-(t * g) / b))
 | .unknown k=>gt bs k
 | .plus i j=>((gt vs i).1 + (gt vs j).1,(gt vs i).2 + (gt vs j).2)
 | .minus i j=>((gt vs i).1 - (gt vs j).2,(gt vs i).2 - (gt vs j).1)
 | .times i j=>(mn4 (gt vs i).1 (gt vs i).2 (gt vs j).1 (gt vs j).2 / g,-(-mx4 (gt vs i).1 (gt vs i).2 (gt vs j).1 (gt vs j).2 / g))
 | .power i n=>(zaw (gt vs i).1 (gt vs i).2 n.toNat / g ^ (n.toNat - 1),-(-zaF (gt vs i).1 (gt vs i).2 n.toNat / g ^ (n.toNat - 1)))
def Spn (B:Nat)(vs:List (Int×Int)):Prop:=∀p∈vs,p.1≤p.2∧Sz B p.1∧Sz B p.2
theorem Spn.at {B:Nat}{vs:List (Int×Int)}(h:Spn B vs){i:Int}(hi:inR vs.length i):(gt vs i).1≤(gt vs i).2∧Sz B (gt vs i).1∧Sz B (gt vs i).2:=h _ (zdY hi)
theorem Spn.mono {B C:Nat}{vs:List (Int×Int)}(h:Spn B vs)(hc:B≤C):Spn C vs:=fun p hp=>⟨(h p hp).1,(h p hp).2.1.mono hc,(h p hp).2.2.mono hc⟩
theorem zdO {m M g:Int}(hg:1≤g)(h:m≤M):m / g≤-(-M / g):=by
 have h1:=Int.ediv_mul_le m (show g≠0 by omega)
 have h2:=Int.ediv_mul_le (-M) (show g≠0 by omega)
 have:m / g * g≤-(-M / g) * g:=by rw[Int.neg_mul]; omega
 exact Int.le_of_mul_le_mul_right this (by omega)
theorem ziM (a b:Int)(n:Nat):zaw a b n≤zaF a b n:=by
 unfold zaw zaF
 split
 ·rename_i c
  have:=zb2 c.1 a
  omega
 ·omega
theorem zkm (a b c d:Int):mn4 a b c d≤mx4 a b c d:=by unfold mn4 mx4; omega
theorem Nd.fw_le {vs bs:List (Int×Int)}{g:Int}{B:Nat}(h1:Spn B vs)(h2:Spn B bs)(hg:1≤g):∀v:Nd,v.ok vs.length bs.length→(v.fw vs bs g).1≤(v.fw vs bs g).2
 | .number t b,ok=>zdO ok.1.1 (Int.le_refl _)
 | .unknown k,ok=>(h2.at ok).1
 | .plus i j,ok=>by
  have a:=(h1.at ok.1).1
  have b:=(h1.at ok.2).1
  show (gt vs i).1 + (gt vs j).1≤(gt vs i).2 + (gt vs j).2
  omega
 | .minus i j,ok=>by
  have a:=(h1.at ok.1).1
  have b:=(h1.at ok.2).1
  show (gt vs i).1 - (gt vs j).2≤(gt vs i).2 - (gt vs j).1
  omega
 | .times i j,ok=>zdO hg (zkm _ _ _ _)
 | .power i n,ok=>zdO (Int.pow_pos (by omega)) (ziM _ _ _)
theorem zkJ {a b c:TDS}{E:zcD}{dl:Ev}{S:Sto}(W:Ev→Sto→Prop)(ha:∀nx:Ev→Sto→Prop,(∀dl' S',W dl' S'→nx dl' S')→zgb a b { nx:=nx,rt:=E.rt,bk:=E.bk,ct:=E.ct } dl S)(hb:∀dl' S',W dl' S'→c E dl' S'):zgb a (zgb b c) E dl S:=ha _ hb
theorem zcX {n:Nat}{m g:Int}(h:Sz n m)(hg:1≤g):Sz n (-(-m / g)):=(h.neg.div hg).neg
theorem zcd {n:Nat}{a b:Int}(ha:Sz n a)(hb:Sz n b):Sz n (min a b):=by unfold Sz at *; omega
theorem zb5 {n:Nat}{a b:Int}(ha:Sz n a)(hb:Sz n b):Sz n (max a b):=by unfold Sz at *; omega
def Nd.wt (ws:List Nat):Nd→Nat
 | .number _ _=>1
 | .unknown _=>1
 | .plus i j=>ws.getD i.toNat 0 + ws.getD j.toNat 0
 | .minus i j=>ws.getD i.toNat 0 + ws.getD j.toNat 0
 | .times i j=>ws.getD i.toNat 0 + ws.getD j.toNat 0
 | .power i n=>n.toNat * ws.getD i.toNat 0
structure zaz (q:Int)(ns:List Nd)(ws:List Nat):Prop where
 len:ws.length=ns.length
 ok:∀(k:Nat) (v:Nd),ns[k]?=some v→v.ok k q∧ws.getD k 0=v.wt ws∧1≤v.wt ws∧v.wt ws≤16
theorem zaz.w1 {q:Int}{ns:List Nd}{ws:List Nat}(h:zaz q ns ws){i:Int}(hi:inR ns.length i):1≤ws.getD i.toNat 0∧ws.getD i.toNat 0≤16:=by
 obtain⟨h0,h1⟩:=hi
 have hk:i.toNat < ns.length:=(by omega)
 obtain⟨_,e,a,b⟩:=h.ok i.toNat _ (List.getElem?_eq_getElem hk)
 omega
theorem zaz.w2 {q:Int}{ns:List Nd}{ws:List Nat}(h:zaz q ns ws):∀v:Nd,v.ok ns.length q→1≤v.wt ws∧v.wt ws≤96
 | .number _ _,_=>⟨Nat.le_refl 1,show 1≤96 by decide⟩
 | .unknown _,_=>⟨Nat.le_refl 1,show 1≤96 by decide⟩
 | .plus i j,ok=>by have a:=h.w1 ok.1; have b:=h.w1 ok.2; simp only[Nd.wt]; omega
 | .minus i j,ok=>by have a:=h.w1 ok.1; have b:=h.w1 ok.2; simp only[Nd.wt]; omega
 | .times i j,ok=>by have a:=h.w1 ok.1; have b:=h.w1 ok.2; simp only[Nd.wt]; omega
 | .power i n,ok=>by
  have a:=h.w1 ok.1
  have n2:=ok.2.1
  have n6:=ok.2.2
  have m1:=Nat.mul_le_mul (show 1≤n.toNat by omega) a.1
  have m2:=Nat.mul_le_mul (show n.toNat≤6 by omega) a.2
  simp only[Nd.wt]
  omega
theorem zkH {ws:List Nat}{w:Nat}{k:Nat}(h:k < ws.length):(ws++[w]).getD k 0=ws.getD k 0:=by
 rw[List.getD_eq_getElem?_getD,List.getD_eq_getElem?_getD,List.getElem?_append_left h]
theorem zlF {ws:List Nat}{w:Nat}{q:Int}{k:Nat}(hk:k≤ws.length):∀v:Nd,v.ok k q→v.wt (ws++[w])=v.wt ws:=by
 have e:∀i:Int,inR k i→(ws++[w]).getD i.toNat 0=ws.getD i.toNat 0:=fun i hi=>zkH (by have a:=hi.1; have b:=hi.2; omega)
 intro v ok
 cases v with
 | number _ _=>rfl
 | unknown _=>rfl
 | plus i j=>show _ + _=_ + _; rw[e i ok.1,e j ok.2]
 | minus i j=>show _ + _=_ + _; rw[e i ok.1,e j ok.2]
 | times i j=>show _ + _=_ + _; rw[e i ok.1,e j ok.2]
 | power i n=>show _ * _=_ * _; rw[e i ok.1]
theorem zaz.snoc {q:Int}{ns:List Nd}{ws:List Nat}(h:zaz q ns ws){v:Nd}(ok:v.ok ns.length q)(h16:v.wt ws≤16):zaz q (ns++[v]) (ws++[v.wt ws]):=by
 refine⟨by simp[h.len],fun k u hu=>?_⟩
 by_cases hk:k < ns.length
 ·rw[List.getElem?_append_left hk] at hu
  obtain⟨a,b,c,d⟩:=h.ok k u hu
  have e:=zlF (w:=v.wt ws) (q:=q) (k:=k) (by rw[h.len]; omega) u a
  rw[e,zkH (by rw[h.len]; exact hk)]
  exact⟨a,b,c,d⟩
 ·have hl:=(List.getElem?_eq_some_iff.mp hu).1
  simp only[List.length_append,List.length_cons,List.length_nil] at hl
  have ek:k=ns.length:=by omega
  subst ek
  simp at hu
  subst hu
  have e:=zlF (w:=v.wt ws) (q:=q) (k:=ns.length) (by rw[h.len]; omega) v ok
  rw[e]
  refine⟨ok,?_,(h.w2 v ok).1,h16⟩
  rw[← h.len]
  simp
def zae (bs:List (Int×Int))(g:Int)(ns:List Nd):List (Int×Int):=ns.foldl (fun acc v=>acc++[v.fw acc bs g]) []
theorem zc7 (bs:List (Int×Int))(g:Int)(ns:List Nd)(v:Nd):zae bs g (ns++[v])=zae bs g ns++[v.fw (zae bs g ns) bs g]:=by
 unfold zae
 rw[List.foldl_append]
 rfl
theorem zbr {α:Type}{xs:List α}{k:Nat}{x:α}(h:xs[k]?=some x):xs.take (k + 1)=xs.take k++[x]:=by rw[List.take_succ,h]; rfl
theorem zbB (bs:List (Int×Int))(g:Int)(ns:List Nd):(zae bs g ns).length=ns.length:=by
 have z:∀k,k≤ns.length→(zae bs g (ns.take k)).length=k:=fun k=>by
  induction k with
  | zero=>intro _; rfl
  | succ k ih=>
   intro hk
   rw[zbr (List.getElem?_eq_getElem (show k < ns.length by omega)),zc7]
   simp[ih (by omega)]
 have:=z ns.length (Nat.le_refl _)
 rwa [List.take_length] at this
theorem zpm (bs:List (Int×Int))(g:Int)(ns:List Nd)(k:Nat):k≤ns.length→(zae bs g ns).take k=zae bs g (ns.take k):=by
 have z:∀m,k≤m→m≤ns.length→(zae bs g (ns.take m)).take k=zae bs g (ns.take k):=fun m=>by
  induction m with
  | zero=>
   intro h1 _
   have:k=0:=by omega
   subst this
   rfl
  | succ m ih=>
   intro h1 h2
   by_cases e:k=m + 1
   ·subst e
    rw[List.take_of_length_le (by rw[zbB,List.length_take]; omega)]
   ·rw[zbr (List.getElem?_eq_getElem (show m < ns.length by omega)),zc7,List.take_append_of_le_length (by rw[zbB,List.length_take]; omega)]
    exact ih (by omega) (by omega)
 intro hk
 have:=z ns.length hk (Nat.le_refl _)
 rwa [List.take_length] at this
def SzW (ws:List Nat)(vs:List (Int×Int)):Prop:=∀(k:Nat) (p:Int×Int),vs[k]?=some p→p.1≤p.2∧Sz (60 * ws.getD k 0 - 1) p.1∧Sz (60 * ws.getD k 0 - 1) p.2
theorem SzW.at {ws:List Nat}{vs:List (Int×Int)}(h:SzW ws vs){i:Int}(hi:inR vs.length i):(gt vs i).1≤(gt vs i).2∧Sz (60 * ws.getD i.toNat 0 - 1) (gt vs i).1∧Sz (60 * ws.getD i.toNat 0 - 1) (gt vs i).2:=by
 obtain⟨h0,h1⟩:=hi
 have hk:i.toNat < vs.length:=by omega
 have e:gt vs i=vs[i.toNat]:=by simp[gt,hk]
 rw[e]
 exact h _ _ (List.getElem?_eq_getElem hk)
theorem fw_w {ws:List Nat}{vs bs:List (Int×Int)}{g:Int}(hs:SzW ws vs)(hb:Spn 51 bs)(hg:1≤g∧g≤1000000)(hw:∀i:Int,inR vs.length i→1≤ws.getD i.toNat 0):∀v:Nd,v.ok vs.length bs.length→Sz (60 * v.wt ws - 1) (v.fw vs bs g).1∧Sz (60 * v.wt ws - 1) (v.fw vs bs g).2
 | .number t b,ok=>by
  have z:Sz 52 (t * g):=(Sz.of (n:=31) (10 ^ 9) ok.2.2).mul (Sz.of (n:=21) (10 ^ 6) (show g.natAbs≤_ by omega))
  exact⟨(z.div ok.1.1).mono (show 52≤60 * 1 - 1 by decide),(zcX z ok.1.1).mono (show 52≤60 * 1 - 1 by decide)⟩
 | .unknown k,ok=>⟨(hb.at ok).2.1.mono (show 51≤60 * 1 - 1 by decide),(hb.at ok).2.2.mono (show 51≤60 * 1 - 1 by decide)⟩
 | .plus i j,ok=>by
  have a:=hs.at ok.1
  have b:=hs.at ok.2
  have p:=hw i ok.1
  have q:=hw j ok.2
  exact⟨(a.2.1.add b.2.1).mono (by simp only[Nd.wt]; omega),(a.2.2.add b.2.2).mono (by simp only[Nd.wt]; omega)⟩
 | .minus i j,ok=>by
  have a:=hs.at ok.1
  have b:=hs.at ok.2
  have p:=hw i ok.1
  have q:=hw j ok.2
  exact⟨(a.2.1.sub b.2.2).mono (by simp only[Nd.wt]; omega),(a.2.2.sub b.2.1).mono (by simp only[Nd.wt]; omega)⟩
 | .times i j,ok=>by
  have a:=hs.at ok.1
  have b:=hs.at ok.2
  have p:=hw i ok.1
  have q:=hw j ok.2
  have le:∀ {x y:Int},Sz (60 * ws.getD i.toNat 0 - 1) x→Sz (60 * ws.getD j.toNat 0 - 1) y→Sz (60 * Nd.wt ws (.times i j) - 1) (x * y):=fun h1 h2=>(h1.mul h2).mono (by simp only[Nd.wt]; omega)
  have l:=zcd (zcd (le a.2.1 b.2.1) (le a.2.1 b.2.2)) (zcd (le a.2.2 b.2.1) (le a.2.2 b.2.2))
  have u:=zb5 (zb5 (le a.2.1 b.2.1) (le a.2.1 b.2.2)) (zb5 (le a.2.2 b.2.1) (le a.2.2 b.2.2))
  exact⟨l.div hg.1,zcX u hg.1⟩
 | .power i n,ok=>by
  have a:=hs.at ok.1
  have p:=hw i ok.1
  have n2:=ok.2.1
  have gp:(1:Int)≤g ^ (n.toNat - 1):=Int.pow_pos (by omega)
  have hn:(60 * ws.getD i.toNat 0 - 1) * n.toNat + 1≤60 * Nd.wt ws (.power i n) - 1:=by
   simp only[Nd.wt]
   rw[Nat.sub_mul,Nat.one_mul]
   have e:60 * ws.getD i.toNat 0 * n.toNat=60 * (n.toNat * ws.getD i.toNat 0):=by rw[Nat.mul_assoc,Nat.mul_comm (ws.getD i.toNat 0)]
   have m1:=Nat.mul_le_mul (Nat.le_refl n.toNat) p
   omega
  have p1:Sz (60 * Nd.wt ws (.power i n) - 1) ((gt vs i).1 ^ n.toNat):=(a.2.1.pow _).mono hn
  have p2:Sz (60 * Nd.wt ws (.power i n) - 1) ((gt vs i).2 ^ n.toNat):=(a.2.2.pow _).mono hn
  have l:Sz (60 * Nd.wt ws (.power i n) - 1) (zaw (gt vs i).1 (gt vs i).2 n.toNat):=by
   unfold zaw
   split
   ·exact(Sz.of (n:=1) 0 (by decide)).mono (by have:=Nat.mul_le_mul (show 1≤n.toNat by omega) p; simp only[Nd.wt]; omega)
   ·exact zcd p1 p2
  exact⟨l.div gp,zcX (zb5 p1 p2) gp⟩
theorem Spn.of_w {ws:List Nat}{vs:List (Int×Int)}(h:SzW ws vs)(hw:∀k:Nat,k < vs.length→ws.getD k 0≤16):Spn 1000 vs:=fun p hp=>by
 obtain⟨k,hk,e⟩:=List.mem_iff_getElem.mp hp
 obtain⟨a,b,c⟩:=h k p (by rw[List.getElem?_eq_getElem hk,e])
 have:=hw k hk
 exact⟨a,b.mono (by omega),c.mono (by omega)⟩
theorem zk3 {q:Int}{ns:List Nd}{ws:List Nat}{bs:List (Int×Int)}{g:Int}(h:zaz q ns ws)(hq:q=bs.length)(hb:Spn 51 bs)(hg:1≤g∧g≤1000000):∀k,k≤ns.length→SzW ws (zae bs g (ns.take k)):=fun k=>by
 induction k with
 | zero=>intro _ i p hp; simp[zae] at hp
 | succ k ih=>
  intro hk
  have hv:=List.getElem?_eq_getElem (show k < ns.length by omega)
  have s:=ih (by omega)
  have ln:(zae bs g (ns.take k)).length=k:=by rw[zbB,List.length_take]; omega
  obtain⟨ok,e,_,_⟩:=h.ok k _ hv
  rw[zbr hv,zc7]
  have okv:(ns[k]).ok (zae bs g (ns.take k)).length bs.length:=by rw[ln,← hq]; exact ok
  have w1:∀i:Int,inR (zae bs g (ns.take k)).length i→1≤ws.getD i.toNat 0:=fun i hi=>(h.w1 (i:=i) (by rw[ln] at hi; exact⟨hi.1,by have:=hi.2; omega⟩)).1
  have z:=fw_w s hb hg w1 ns[k] okv
  have l:((ns[k]).fw (zae bs g (ns.take k)) bs g).1≤((ns[k]).fw (zae bs g (ns.take k)) bs g).2:=by
   refine Nd.fw_le (B:=6000) ?_ (hb.mono (by decide)) hg.1 _ okv
   intro p hp
   obtain⟨i,hi,ei⟩:=List.mem_iff_getElem.mp hp
   obtain⟨a,b,c⟩:=s i p (by rw[List.getElem?_eq_getElem hi,ei])
   have:=(h.w1 (i:=i) ⟨by omega,by rw[ln] at hi; omega⟩).2
   rw[Int.toNat_natCast] at this
   exact⟨a,b.mono (by omega),c.mono (by omega)⟩
  intro i p hp
  by_cases hi:i < k
  ·rw[List.getElem?_append_left (by rw[ln]; exact hi)] at hp
   exact s i p hp
  ·have hl:=(List.getElem?_eq_some_iff.mp hp).1
   simp only[List.length_append,List.length_cons,List.length_nil,ln] at hl
   have ei:i=k:=by omega
   subst ei
   rw[List.getElem?_append_right (by rw[ln]; exact Nat.le_refl _),ln,Nat.sub_self] at hp
   simp at hp
   subst hp
   rw[e]
   exact⟨l,z⟩
theorem zhO {q:Int}{ns:List Nd}{ws:List Nat}{bs:List (Int×Int)}{g:Int}(h:zaz q ns ws)(hq:q=bs.length)(hb:Spn 51 bs)(hg:1≤g∧g≤1000000)(k:Nat)(hk:k≤ns.length):Spn 1000 (zae bs g (ns.take k)):=
 Spn.of_w (zk3 h hq hb hg k hk) fun i hi=>by
  rw[zbB,List.length_take] at hi
  have:=(h.w1 (i:=i) ⟨by omega,by omega⟩).2
  rwa [Int.toNat_natCast] at this
theorem zdF {S T:Sto}{n:Nat}{o:Ob}(h:Pre S T)(hn:S.length≤n):Pre S (T.set n o):=fun k u e=>by
 have hk:=(List.getElem?_eq_some_iff.mp e).1
 rw[List.getElem?_set_ne (by omega)]
 exact h k u e
theorem zdV {S T:Sto}(h:Pre S T)(U:Sto):Pre S (T++U):=fun k u e=>zao (h k u e)
theorem zqF {to te:TDE}{dl:Ev}{S S1 S2:Sto}{Q:DK}{n:Nat}{xs:List D}{y:D}(hto:∀K:DK,K (.ref n) S1→to dl S K)(h:S1[n]?=some (.lst xs))(hte:∀K:DK,K y S2→te dl S1 K)(h2:S2[n]?=some (.lst xs))(hl:xs.length < 1000)(hq:Q .non (S2.set n (.lst (xs++[y])))):zcv to te dl S Q:=by
 unfold zcv
 refine hto _ ?_
 simp only[h]
 refine hte _ ?_
 simp only[h2,if_pos hl]
 exact hq
theorem zjt (u v:Nd):∃b,eqN 1 u.d v.d=some b:=by cases u <;> cases v <;> exact⟨_,rfl⟩
theorem zjZ (u:Nd):eqN 1 u.d u.d=some true:=by cases u <;> simp[Nd.d,eqN,L3.eqT,eqL,eqF]
theorem ziS (v:Nd):∀ns:List Nd,∃b,zbu (eqN 1) (ns.map Nd.d) v.d=some b
 | []=>⟨false,rfl⟩
 | u::us=>by
  obtain⟨b,e⟩:=zjt u v
  obtain⟨c,e2⟩:=ziS v us
  refine⟨b || c,?_⟩
  show (match eqN 1 u.d v.d,zbu (eqN 1) (us.map Nd.d) v.d with | some b,some c=>some (b || c) | _,_=>none)=_
  rw[e,e2]
theorem zj6:∀ns:List Nd,eqL (eqN 1) (ns.map Nd.d) (ns.map Nd.d)=some true
 | []=>rfl
 | u::us=>by
  show (match eqN 1 u.d u.d,eqL (eqN 1) (us.map Nd.d) (us.map Nd.d) with | some b,some c=>some (b && c) | _,_=>none)=_
  rw[zjZ,zj6 us]
  rfl
def wtD (w:Nat):D:=.int (w:Int)
theorem zgE {ws:List Nat}{i:Int}(h:inR ws.length i):atI (ws.map wtD) i=some (.int ((ws.getD i.toNat 0:Nat):Int)):=by
 obtain⟨h0,h1⟩:=h
 have hk:i.toNat < ws.length:=by omega
 have z:=zcr (xs:=ws.map wtD) (j:=i.toNat) (v:=wtD (ws.getD i.toNat 0)) (by rw[List.getElem?_map,List.getElem?_eq_getElem hk]; simp[hk])
 rw[show ((i.toNat:Nat):Int)=i by omega] at z
 exact z
theorem zms (q:Nat):zaz q ((List.range q).map fun (k:Nat)=>Nd.unknown (k:Int)) ((List.range q).map fun _=>1):=by
 refine⟨by simp,fun k v hv=>?_⟩
 have hl:=(List.getElem?_eq_some_iff.mp hv).1
 simp only[List.length_map,List.length_range] at hl
 rw[List.getElem?_map,List.getElem?_range hl] at hv
 cases hv
 refine⟨⟨by omega,by omega⟩,?_,Nat.le_refl _,show 1≤16 by decide⟩
 simp[Nd.wt,hl]

theorem zq0 {u v:Nd}(h:eqN 1 u.d v.d=some true):u=v:=by
 cases u <;> cases v <;> simp[Nd.d,eqN,L3.eqT,eqL,eqF] at h
 all_goals first | (obtain⟨rfl,rfl⟩:=h; rfl) | (subst h; rfl) | exact absurd h.1 (by decide)
theorem zgU (v:Nd):∀ns:List Nd,∃o:Option Nat,zce (eqN 1) (ns.map Nd.d) v.d=some o∧zbu (eqN 1) (ns.map Nd.d) v.d=some o.isSome∧∀j,o=some j→ns[j]?=some v
 | []=>⟨none,rfl,rfl,fun j h=>by cases h⟩
 | u::us=>by
  obtain⟨b,e⟩:=zjt u v
  obtain⟨o,h1,h2,h3⟩:=zgU v us
  have f1:zce (eqN 1) ((u::us).map Nd.d) v.d=(match eqN 1 u.d v.d,zce (eqN 1) (us.map Nd.d) v.d with | some true,some _=>some (some 0) | some false,some o=>some (o.map (· + 1)) | _,_=>none):=rfl
  have f2:zbu (eqN 1) ((u::us).map Nd.d) v.d=(match eqN 1 u.d v.d,zbu (eqN 1) (us.map Nd.d) v.d with | some b,some c=>some (b || c) | _,_=>none):=rfl
  rw[f1,f2,e,h1,h2]
  cases b with
  | true=>exact⟨some 0,rfl,rfl,fun j hj=>by
    cases hj
    rw[zq0 e]
    rfl⟩
  | false=>exact⟨o.map (· + 1),rfl,by cases o <;> rfl,fun j hj=>by
    cases o with
    | none=>cases hj
    | some i=>
     cases hj
     exact h3 i rfl⟩
theorem zq8 {v:Nd}{ns:List Nd}{n:Nat}{S:Sto}{Q:DK}{o:Option Nat}(h:S[n]?=some (.lst (ns.map Nd.d)))(e:zbu (eqN 1) (ns.map Nd.d) v.d=some o.isSome)(hq:Q (.bl o.isSome) S):zbL (wIn 1 false) v.d (.ref n) S Q:=by
 rw[zb4]
 unfold wIn
 simp only[zaB h rfl,zah,e]
 exact hq
theorem zjl {v:Nd}{ns:List Nd}{n j:Nat}{to:TDE}{t:TDA}{dl:Ev}{S:Sto}{Q:DK}(hto:∀K:DK,K (.ref n) S→to dl S K)(ht:∀K:List D→Sto→Prop,K [v.d] S→t dl S K)(h:S[n]?=some (.lst (ns.map Nd.d)))(e:zce (eqN 1) (ns.map Nd.d) v.d=some (some j))(hq:Q (.int (j:Int)) S):zgl 1 to t dl S Q:=by
 unfold zgl
 refine hto _ ⟨by rw[zaB h rfl]; rfl,ht _ ?_⟩
 unfold zgS
 simp only[zaB h rfl,zah,e]
 exact hq
theorem zgW {caps:List Nat}{ta:TDA}{te:TDE}{dl:Ev}{S S1:Sto}{Q:DK}{n n':Nat}{xs ys:List D}(g:D→D→D)(hta:∀K:List D→Sto→Prop,K [.ref n,.ref n'] S1→ta dl S K)(h1:S1[n]?=some (.lst xs))(h2:S1[n']?=some (.lst ys))(hl:xs.length≤1000)
  (ht:∀(k:Nat) (x y:D),xs[k]?=some x→ys[k]?=some y→∀(S2:Sto) (K:DK),Pre S1 S2→K (g x y) S2→te (some x::some y::zbn caps dl) S2 K)(hq:Q (.ref S1.length) (S1++[.lst (List.zipWith g xs ys)])):zdd caps ta te dl S Q:=by
 unfold zdd
 refine hta _ ⟨⟨by rw[zaB h1 rfl]; rfl,by rw[zaB h2 rfl]; rfl⟩,fun k m S2=>S2=S1++[.lst (List.zipWith g (xs.take k) (ys.take k))]∧m + k=min xs.length ys.length,⟨min xs.length ys.length,by simp,by omega⟩,?_⟩
 rintro k m S2 ⟨rfl,hm⟩
 rw[zaB (zcT h1) rfl,zaB (zcT h2) rfl]
 dsimp only[zah]
 split
 ·rename_i x y hx hy
  have hk:k < xs.length:=(List.getElem?_eq_some_iff.mp hx).1
  have hk':k < ys.length:=(List.getElem?_eq_some_iff.mp hy).1
  unfold zhX
  refine ht k x y hx hy _ _ Pre.refl.push ?_
  rw[zat]
  refine⟨by simp; omega,m - 1,by omega,?_,by omega⟩
  have e:xs.take (k + 1)=xs.take k++[x]:=by rw[List.take_succ,hx]; rfl
  have e':ys.take (k + 1)=ys.take k++[y]:=by rw[List.take_succ,hy]; rfl
  rw[e,e',List.zipWith_append (by rw[List.length_take,List.length_take]; omega),zfQ]
  rfl
 ·rename_i no
  have hk:min xs.length ys.length≤k:=by
   by_cases l:k < min xs.length ys.length
   ·exact absurd (List.getElem?_eq_getElem (l:=ys) (i:=k) (by omega)) (no _ _ (List.getElem?_eq_getElem (l:=xs) (i:=k) (by omega)))
   ·omega
  refine⟨by omega,?_⟩
  have e:List.zipWith g (xs.take k) (ys.take k)=List.zipWith g xs ys:=by
   rw[← List.take_zipWith,List.take_of_length_le (by rw[List.length_zipWith]; exact hk)]
  rw[e]
  exact hq
def insB (p q:Int×Int):Bool:=decide (q.1≤p.1) && decide (p.2≤q.2)
theorem zrY (us vs:List (Int×Int)):zhx (List.zipWith (fun x y=>match x,y with | .tup [.int a,.int b],.tup [.int c,.int d]=>.bl (decide (c≤a) && decide (b≤d)) | _,_=>.non) (us.map frD) (vs.map frD))=some (List.zipWith insB us vs):=by
 induction us generalizing vs with
 | nil=>rfl
 | cons u us ih=>
  cases vs with
  | nil=>rfl
  | cons v vs=>
   show (zhx (List.zipWith _ (us.map frD) (vs.map frD))).map _=_
   rw[ih]
   rfl
theorem zrZ {vs us bs:List (Int×Int)}{g:Int}{k:Nat}{q:Int}(h:∀i:Int,inR k i→gt vs i=gt us i):∀v:Nd,v.ok k q→v.fw vs bs g=v.fw us bs g
 | .number _ _,_=>rfl
 | .unknown _,_=>rfl
 | .plus i j,ok=>by simp only[Nd.fw,h i ok.1,h j ok.2]
 | .minus i j,ok=>by simp only[Nd.fw,h i ok.1,h j ok.2]
 | .times i j,ok=>by simp only[Nd.fw,h i ok.1,h j ok.2]
 | .power i n,ok=>by simp only[Nd.fw,h i ok.1]
theorem zrs {vs:List (Int×Int)}{k:Nat}{i:Int}(h:inR k i):gt (vs.take k) i=gt vs i:=by
 have:=h.1
 have:=h.2
 unfold gt
 rw[List.getD_eq_getElem?_getD,List.getD_eq_getElem?_getD,List.getElem?_take_of_lt (by omega)]
theorem zlK {vs us:List (Int×Int)}{k:Nat}{i:Int}(h:inR k i)(hk:k≤vs.length):gt (vs++us) i=gt vs i:=by
 have:=h.1
 have:=h.2
 unfold gt
 rw[List.getD_eq_getElem?_getD,List.getD_eq_getElem?_getD,List.getElem?_append_left (by omega)]
theorem zlu {vs:List (Int×Int)}{k:Nat}{p:Int×Int}(h:vs[k]?=some p):gt vs (k:Int)=p:=by
 unfold gt
 rw[List.getD_eq_getElem?_getD,Int.toNat_natCast,h]
 rfl
theorem Sz.pow' {n:Nat}{i:Int}(h:Sz n i){k:Nat}(hk:1≤k):Sz (n * k) (i ^ k):=by
 unfold Sz at *
 rw[Int.natAbs_pow,Nat.pow_mul]
 exact Nat.pow_lt_pow_left h (by omega)
theorem SzW.spn {ws:List Nat}{vs:List (Int×Int)}(h:SzW ws vs)(hw:∀k:Nat,k < vs.length→ws.getD k 0≤16):Spn 1000 vs:=Spn.of_w h hw
theorem zp2 {caps:List Nat}{tl te:TDE}{dl:Ev}{S S1:Sto}{Q:DK}{n:Nat}{o:Ob}(W:Nat→List D→Sto→Prop)(htl:∀K:DK,K (.ref n) S1→tl dl S K)(h1:S1[n]?=some o)(hw:∀k ys S2,W k ys S2→S2[n]?=some o∧S2[S1.length]?=some (.lst ys)∧ys.length=k)(hl:(zah o).length≤1000)(h0:W 0 [] (S1++[.lst []]))
  (ht:∀(k:Nat) (x:D) (ys:List D) (S2:Sto) (K:DK),(zah o)[k]?=some x→W k ys S2→(∀y S3,S3[S1.length]?=some (.lst ys)→W (k + 1) (ys++[y]) (S3.set S1.length (.lst (ys++[y])))→K y S3)→te (some x::zbn caps dl) S2 K)
  (hq:∀ys S2,W (zah o).length ys S2→Q (.ref S1.length) S2)(hL:zbC o=some o:=by rfl):zbK caps tl zbW te dl S Q:=by
 unfold zbK
 refine htl _ ⟨by rw[zaB h1 hL]; rfl,fun k m S2=>(∃ys,W k ys S2)∧m + k=(zah o).length,⟨(zah o).length,⟨_,h0⟩,by omega⟩,?_⟩
 rintro k m S2 ⟨⟨ys,w⟩,hm⟩
 obtain⟨w1,w2,w3⟩:=hw _ _ _ w
 rw[zaB w1 hL]
 dsimp only
 split
 ·rename_i x hx
  have hk:k < (zah o).length:=(List.getElem?_eq_some_iff.mp hx).1
  unfold zcm zbW
  simp only[if_true]
  refine ht k x ys S2 _ hx w fun y S3 e3 w4=>?_
  rw[e3]
  exact⟨by omega,m - 1,by omega,⟨_,w4⟩,by omega⟩
 ·rename_i hx
  have hk:k=(zah o).length:=by
   have:=List.getElem?_eq_none_iff.mp hx
   omega
  exact hq ys S2 (hk ▸ w)
theorem zfl {S T:Sto}(h:Pre S T):S.length≤T.length:=by
 rcases Nat.eq_zero_or_pos S.length with e | e
 ·omega
 ·have z:=h (S.length - 1) _ (List.getElem?_eq_getElem (show S.length - 1 < S.length by omega))
  have:=(List.getElem?_eq_some_iff.mp z).1
  omega
theorem zhk {to te:TDE}{dl:Ev}{S:Sto}{Q:DK}{n:Nat}{xs:List D}(hto:∀K:DK,K (.ref n) S→to dl S K)(h:S[n]?=some (.lst xs))(hte:∀K:DK,(∀(y:D) (S2:Sto),S2[n]?=some (.lst xs)→Q .non (S2.set n (.lst (xs++[y])))→K y S2)→te dl S K)(hl:xs.length < 1000):zcv to te dl S Q:=by
 unfold zcv
 refine hto _ ?_
 simp only[h]
 refine hte _ fun y S2 h2 q=>?_
 simp only[h2,if_pos hl]
 exact q
def zaI (S:Sto)(lo:Nat)(ds:List D)(R:List (List (Int×Int))):Prop:=ds.length=R.length∧∀(k:Nat) (d:D) (r:List (Int×Int)),ds[k]?=some d→R[k]?=some r→∃a,d=.ref a∧lo≤a∧S[a]?=some (.lst (r.map frD))
theorem zaI.nil {S:Sto}{lo:Nat}:zaI S lo [] []:=⟨rfl,fun k d r h=>by simp at h⟩
theorem zaI.pre {S T:Sto}{lo:Nat}{ds:List D}{R:List (List (Int×Int))}(h:zaI S lo ds R)(p:Pre S T):zaI T lo ds R:=⟨h.1,fun k d r hd hr=>by
 obtain⟨a,e,l,s⟩:=h.2 k d r hd hr
 exact⟨a,e,l,p _ _ s⟩⟩
theorem zaI.low {S:Sto}{lo lo':Nat}{ds:List D}{R:List (List (Int×Int))}(h:zaI S lo ds R)(l:lo'≤lo):zaI S lo' ds R:=⟨h.1,fun k d r hd hr=>by
 obtain⟨a,e,l,s⟩:=h.2 k d r hd hr
 exact⟨a,e,by omega,s⟩⟩
theorem zaI.keep {S T:Sto}{lo:Nat}{ds:List D}{R:List (List (Int×Int))}(h:zaI S lo ds R)(p:∀(x:Nat) (o:Ob),lo≤x→S[x]?=some o→T[x]?=some o):zaI T lo ds R:=⟨h.1,fun k d r hd hr=>by
 obtain⟨a,e,l,s⟩:=h.2 k d r hd hr
 exact⟨a,e,l,p _ _ l s⟩⟩
theorem zaI.at {S:Sto}{lo:Nat}{ds:List D}{R:List (List (Int×Int))}(h:zaI S lo ds R){i:Int}(hi:inR R.length i):∃a,atI ds i=some (.ref a)∧lo≤a∧S[a]?=some (.lst ((R.getD i.toNat []).map frD)):=by
 obtain⟨h0,h1⟩:=hi
 have hk:i.toNat < R.length:=by omega
 have hk':i.toNat < ds.length:=by rw[h.1]; exact hk
 obtain⟨a,e,l,s⟩:=h.2 i.toNat _ _ (List.getElem?_eq_getElem hk') (List.getElem?_eq_getElem hk)
 refine⟨a,?_,l,?_⟩
 ·have z:=zcr (xs:=ds) (j:=i.toNat) (v:=.ref a) (by rw[List.getElem?_eq_getElem hk',e])
  rw[show ((i.toNat:Nat):Int)=i by omega] at z
  exact z
 ·rw[s]
  simp[hk]
theorem zaI.snoc {S:Sto}{lo:Nat}{ds:List D}{R:List (List (Int×Int))}{a:Nat}{r:List (Int×Int)}(h:zaI S lo ds R)(hl:lo≤a)(hs:S[a]?=some (.lst (r.map frD))):zaI S lo (ds++[.ref a]) (R++[r]):=⟨by rw[List.length_append,List.length_append,h.1]; rfl,fun k d r' hd hr=>by
 by_cases hk:k < ds.length
 ·rw[List.getElem?_append_left hk] at hd
  rw[List.getElem?_append_left (by rw[← h.1]; exact hk)] at hr
  exact h.2 k d r' hd hr
 ·have l:=(List.getElem?_eq_some_iff.mp hd).1
  simp only[List.length_append,List.length_cons,List.length_nil] at l
  have ek:k=ds.length:=by omega
  subst ek
  rw[List.getElem?_append_right (Nat.le_refl _),Nat.sub_self] at hd
  rw[h.1,List.getElem?_append_right (Nat.le_refl _),Nat.sub_self] at hr
  cases hd
  cases hr
  exact⟨a,rfl,hl,hs⟩⟩
abbrev gs (sl:List (List (Int×Int)))(i:Int)(l:Nat):Int×Int:=(sl.getD i.toNat []).getD l (0,0)
def zaG (p q:Int×Int)(g:Int):Int×Int:=(mn4 p.1 p.2 q.1 q.2 / g,-(-mx4 p.1 p.2 q.1 q.2 / g))
def za9 (p:Int×Int)(n g:Int):Int×Int:=(zaw p.1 p.2 (n - 1).toNat / g ^ ((n - 1).toNat - 1) * n,-(-zaF p.1 p.2 (n - 1).toNat / g ^ ((n - 1).toNat - 1)) * n)
def Nd.sl (vs:List (Int×Int))(sl:List (List (Int×Int)))(g:Int)(l:Nat):Nd→Int×Int
 | .number _ _=>(0,0)
 | .unknown k=>if (l:Int)=k then (g,g) else (0,0)
 | .plus i j=>((gs sl i l).1 + (gs sl j l).1,(gs sl i l).2 + (gs sl j l).2)
 | .minus i j=>((gs sl i l).1 - (gs sl j l).2,(gs sl i l).2 - (gs sl j l).1)
 | .times i j=>((zaG (gt vs i) (gs sl j l) g).1 + (zaG (gt vs j) (gs sl i l) g).1,(zaG (gt vs i) (gs sl j l) g).2 + (zaG (gt vs j) (gs sl i l) g).2)
 | .power i n=>zaG (za9 (gt vs i) n g) (gs sl i l) g
def zaX (vs:List (Int×Int))(sl:List (List (Int×Int)))(g:Int)(q:Nat)(v:Nd):List (Int×Int):=(List.range q).map fun l=>v.sl vs sl g l
theorem zo2 {vs:List (Int×Int)}{sl:List (List (Int×Int))}{g:Int}{q:Nat}{v:Nd}:(zaX vs sl g q v).length=q:=by simp[zaX]
theorem zmF {α:Type}(f:Int×Int→α)(r:List (Int×Int)){q:Nat}(h:r.length=q):r.map f=(List.range q).map fun l=>f (r.getD l (0,0)):=by
 subst h
 refine List.ext_getElem? fun k=>?_
 by_cases hk:k < r.length
 ·rw[List.getElem?_map,List.getElem?_map,List.getElem?_range hk,List.getElem?_eq_getElem hk]
  simp[hk]
 ·rw[List.getElem?_eq_none (by simpa using hk),List.getElem?_eq_none (by simpa using hk)]
theorem ziQ {α:Type}(f:Int×Int→Int×Int→α)(r s:List (Int×Int)){q:Nat}(h:r.length=q)(h':s.length=q):List.zipWith f r s=(List.range q).map fun l=>f (r.getD l (0,0)) (s.getD l (0,0)):=by
 subst h
 refine List.ext_getElem? fun k=>?_
 by_cases hk:k < r.length
 ·rw[List.getElem?_zipWith,List.getElem?_map,List.getElem?_range hk,List.getElem?_eq_getElem hk,List.getElem?_eq_getElem (show k < s.length by omega)]
  simp[hk,show k < s.length by omega]
 ·rw[List.getElem?_eq_none (by rw[List.length_zipWith]; omega),List.getElem?_eq_none (by simpa using hk)]
theorem zlS (x:D)(q:Nat):(List.replicate q [x]).flatten=(List.range q).map fun _=>x:=by
 refine List.ext_getElem? fun k=>?_
 have l:(List.replicate q [x]).flatten=List.replicate q x:=by
  induction q with
  | zero=>rfl
  | succ q ih=>rw[List.replicate_succ,List.flatten_cons,ih]; rfl
 rw[l]
 by_cases hk:k < q
 ·rw[List.getElem?_map,List.getElem?_range hk,List.getElem?_replicate,if_pos hk]
  rfl
 ·rw[List.getElem?_eq_none (by simpa using hk),List.getElem?_eq_none (by simpa using hk)]
theorem ziO (p q:Int×Int){g:Int}(hg:1≤g):(zaG p q g).1≤(zaG p q g).2:=zdO hg (zkm _ _ _ _)
theorem zng (p:Int×Int){n g:Int}(hn:0≤n)(hg:1≤g):(za9 p n g).1≤(za9 p n g).2:=Int.mul_le_mul_of_nonneg_right (zdO (Int.pow_pos (by omega)) (ziM _ _ _)) hn
def zau (vs:List (Int×Int))(g:Int)(q:Nat)(ns:List Nd):List (List (Int×Int)):=ns.foldl (fun acc v=>acc++[zaX vs acc g q v]) []
theorem zgA (vs:List (Int×Int))(g:Int)(q:Nat)(ns:List Nd)(v:Nd):zau vs g q (ns++[v])=zau vs g q ns++[zaX vs (zau vs g q ns) g q v]:=by
 unfold zau
 rw[List.foldl_append]
 rfl
theorem zcU (vs:List (Int×Int))(g:Int)(q:Nat)(ns:List Nd):(zau vs g q ns).length=ns.length:=by
 have z:∀k,k≤ns.length→(zau vs g q (ns.take k)).length=k:=fun k=>by
  induction k with
  | zero=>intro _; rfl
  | succ k ih=>
   intro hk
   rw[zbr (List.getElem?_eq_getElem (show k < ns.length by omega)),zgA]
   simp[ih (by omega)]
 have:=z ns.length (Nat.le_refl _)
 rwa [List.take_length] at this
def SlW (q:Nat)(ws:List Nat)(sl:List (List (Int×Int))):Prop:=∀(k:Nat) (r:List (Int×Int)),sl[k]?=some r→r.length=q∧∀p∈r,p.1≤p.2∧Sz (64 * ws.getD k 0 - 1) p.1∧Sz (64 * ws.getD k 0 - 1) p.2
theorem SlW.at {q:Nat}{ws:List Nat}{sl:List (List (Int×Int))}(h:SlW q ws sl){i:Int}(hi:inR sl.length i):(sl.getD i.toNat []).length=q∧∀l,l < q→(gs sl i l).1≤(gs sl i l).2∧Sz (64 * ws.getD i.toNat 0 - 1) (gs sl i l).1∧Sz (64 * ws.getD i.toNat 0 - 1) (gs sl i l).2:=by
 obtain⟨h0,h1⟩:=hi
 have hk:i.toNat < sl.length:=by omega
 obtain⟨a,b⟩:=h i.toNat _ (List.getElem?_eq_getElem hk)
 have e:sl.getD i.toNat []=sl[i.toNat]:=by simp[hk]
 refine⟨by rw[e]; exact a,fun l hl=>?_⟩
 have e2:gs sl i l=sl[i.toNat][l]'(by rw[a]; exact hl):=by
  unfold gs
  rw[e]
  simp[show l < sl[i.toNat].length by rw[a]; exact hl]
 rw[e2]
 exact b _ (List.getElem_mem _)
theorem SlW.snoc {q:Nat}{ws:List Nat}{sl:List (List (Int×Int))}{r:List (Int×Int)}(h:SlW q ws sl)(hr:r.length=q)(hp:∀p∈r,p.1≤p.2∧Sz (64 * ws.getD sl.length 0 - 1) p.1∧Sz (64 * ws.getD sl.length 0 - 1) p.2):SlW q ws (sl++[r]):=fun k u hu=>by
 by_cases hk:k < sl.length
 ·rw[List.getElem?_append_left hk] at hu
  exact h k u hu
 ·have l:=(List.getElem?_eq_some_iff.mp hu).1
  simp only[List.length_append,List.length_cons,List.length_nil] at l
  have ek:k=sl.length:=by omega
  subst ek
  rw[List.getElem?_append_right (Nat.le_refl _),Nat.sub_self] at hu
  cases hu
  exact⟨hr,hp⟩
theorem zhG {m n:Nat}{p q:Int×Int}{g:Int}(hg:1≤g)(h1:Sz m p.1)(h2:Sz m p.2)(h3:Sz n q.1)(h4:Sz n q.2):Sz (m + n) (zaG p q g).1∧Sz (m + n) (zaG p q g).2:=
 ⟨(zcd (zcd (h1.mul h3) (h1.mul h4)) (zcd (h2.mul h3) (h2.mul h4))).div hg,zcX (zb5 (zb5 (h1.mul h3) (h1.mul h4)) (zb5 (h2.mul h3) (h2.mul h4))) hg⟩
theorem zmz:∀n:Nat,2≤n→n≤6→n≤2 ^ (n - 1):=fun n h1 h2=>by
 have:n=2∨n=3∨n=4∨n=5∨n=6:=by omega
 rcases this with rfl | rfl | rfl | rfl | rfl <;> decide
theorem zhZ {m e:Nat}{x n:Int}(h:Sz m x)(hn:n.natAbs≤2 ^ e)(hp:1≤n.natAbs):Sz (m + e) (x * n):=by
 unfold Sz at *
 rw[Nat.pow_add,Int.natAbs_mul]
 exact Nat.mul_lt_mul_of_lt_of_le h hn (Nat.pow_pos (by decide))
theorem zm2 {m:Nat}{p:Int×Int}{n g:Int}(hg:1≤g)(n2:2≤n)(n6:n≤6)(h1:Sz m p.1)(h2:Sz m p.2):Sz (m * (n.toNat - 1) + (n.toNat - 1)) (za9 p n g).1∧Sz (m * (n.toNat - 1) + (n.toNat - 1)) (za9 p n g).2:=by
 have en:(n - 1).toNat=n.toNat - 1:=by omega
 have gp:(1:Int)≤g ^ ((n - 1).toNat - 1):=Int.pow_pos (by omega)
 have p1:Sz (m * (n.toNat - 1)) (p.1 ^ (n - 1).toNat):=by rw[en]; exact Sz.pow' h1 (by omega)
 have p2:Sz (m * (n.toNat - 1)) (p.2 ^ (n - 1).toNat):=by rw[en]; exact Sz.pow' h2 (by omega)
 have lo:Sz (m * (n.toNat - 1)) (zaw p.1 p.2 (n - 1).toNat):=by
  unfold zaw
  split
  ·show (0:Int).natAbs < _
   exact Nat.pow_pos (by decide)
  ·exact zcd p1 p2
 have nb:n.natAbs≤2 ^ (n.toNat - 1):=by
  have:=zmz n.toNat (by omega) (by omega)
  omega
 exact⟨zhZ (lo.div gp) nb (by omega),zhZ (zcX (zb5 p1 p2) gp) nb (by omega)⟩
theorem sl_ok {q:Nat}{ws:List Nat}{vs:List (Int×Int)}{sl:List (List (Int×Int))}{g:Int}(hs:SzW ws vs)(hl:SlW q ws sl)(hg:1≤g∧g≤1000000)(hv:sl.length≤vs.length)(hw:∀i:Int,inR vs.length i→1≤ws.getD i.toNat 0){l:Nat}(hq:l < q):∀v:Nd,v.ok sl.length q→1≤v.wt ws→(v.sl vs sl g l).1≤(v.sl vs sl g l).2∧Sz (64 * v.wt ws - 2) (v.sl vs sl g l).1∧Sz (64 * v.wt ws - 2) (v.sl vs sl g l).2
 | .number t b,ok,h1=>⟨Int.le_refl _,by show Sz _ 0; exact Nat.pow_pos (by decide),by show Sz _ 0; exact Nat.pow_pos (by decide)⟩
 | .unknown k,ok,h1=>by
  have sg:Sz (64 * Nd.wt ws (.unknown k) - 2) g:=(Sz.of (n:=21) (10 ^ 6) (show g.natAbs≤_ by omega)).mono (by show 21≤64 * 1 - 2; decide)
  show (if (l:Int)=k then (g,g) else (0,0)).1≤(if (l:Int)=k then (g,g) else (0,0)).2∧Sz _ (if (l:Int)=k then (g,g) else (0,0)).1∧Sz _ (if (l:Int)=k then (g,g) else (0,0)).2
  split
  ·exact⟨Int.le_refl _,sg,sg⟩
  ·exact⟨Int.le_refl _,Nat.pow_pos (by decide),Nat.pow_pos (by decide)⟩
 | .plus i j,ok,h1=>by
  have a:=(hl.at ok.1).2 l hq
  have b:=(hl.at ok.2).2 l hq
  have p:=hw i ⟨ok.1.1,by have:=ok.1.2; omega⟩
  have q:=hw j ⟨ok.2.1,by have:=ok.2.2; omega⟩
  refine⟨?_,(a.2.1.add b.2.1).mono (by simp only[Nd.wt]; omega),(a.2.2.add b.2.2).mono (by simp only[Nd.wt]; omega)⟩
  show (gs sl i l).1 + (gs sl j l).1≤(gs sl i l).2 + (gs sl j l).2
  omega
 | .minus i j,ok,h1=>by
  have a:=(hl.at ok.1).2 l hq
  have b:=(hl.at ok.2).2 l hq
  have p:=hw i ⟨ok.1.1,by have:=ok.1.2; omega⟩
  have q:=hw j ⟨ok.2.1,by have:=ok.2.2; omega⟩
  refine⟨?_,(a.2.1.sub b.2.2).mono (by simp only[Nd.wt]; omega),(a.2.2.sub b.2.1).mono (by simp only[Nd.wt]; omega)⟩
  show (gs sl i l).1 - (gs sl j l).2≤(gs sl i l).2 - (gs sl j l).1
  omega
 | .times i j,ok,h1=>by
  have oi:inR vs.length i:=⟨ok.1.1,by have:=ok.1.2; omega⟩
  have oj:inR vs.length j:=⟨ok.2.1,by have:=ok.2.2; omega⟩
  have a:=(hl.at ok.1).2 l hq
  have b:=(hl.at ok.2).2 l hq
  have c:=hs.at oi
  have d:=hs.at oj
  have p:=hw i oi
  have q:=hw j oj
  have z1:=zhG hg.1 c.2.1 c.2.2 b.2.1 b.2.2
  have z2:=zhG hg.1 d.2.1 d.2.2 a.2.1 a.2.2
  refine⟨?_,(z1.1.add z2.1).mono (by simp only[Nd.wt]; omega),(z1.2.add z2.2).mono (by simp only[Nd.wt]; omega)⟩
  have m1:=ziO (gt vs i) (gs sl j l) hg.1
  have m2:=ziO (gt vs j) (gs sl i l) hg.1
  show (zaG (gt vs i) (gs sl j l) g).1 + (zaG (gt vs j) (gs sl i l) g).1≤(zaG (gt vs i) (gs sl j l) g).2 + (zaG (gt vs j) (gs sl i l) g).2
  omega
 | .power i n,ok,h1=>by
  have oi:inR vs.length i:=⟨ok.1.1,by have:=ok.1.2; omega⟩
  have a:=(hl.at ok.1).2 l hq
  have c:=hs.at oi
  have p:=hw i oi
  have n2:=ok.2.1
  have f:=zm2 hg.1 ok.2.1 ok.2.2 c.2.1 c.2.2
  have z:=zhG hg.1 f.1 f.2 a.2.1 a.2.2
  have hn:(60 * ws.getD i.toNat 0 - 1) * (n.toNat - 1) + (n.toNat - 1) + (64 * ws.getD i.toNat 0 - 1)≤64 * Nd.wt ws (.power i n) - 2:=by
   simp only[Nd.wt]
   generalize ws.getD i.toNat 0=w at p
   obtain⟨k,hk⟩:∃k,n.toNat=k + 2:=⟨n.toNat - 2,by omega⟩
   rw[hk,show k + 2 - 1=k + 1 by omega,Nat.sub_mul,Nat.one_mul]
   have e1:60 * w * (k + 1)=60 * (k * w) + 60 * w:=by rw[Nat.mul_add,Nat.mul_one,Nat.mul_assoc,Nat.mul_comm w k]
   have e2:(k + 2) * w=k * w + 2 * w:=Nat.add_mul ..
   have e3:k + 1≤60 * w * (k + 1):=Nat.le_mul_of_pos_left _ (by omega)
   rw[e2]
   omega
  exact⟨ziO _ _ hg.1,z.1.mono hn,z.2.mono hn⟩
theorem ziY {q:Nat}{ns:List Nd}{ws:List Nat}{vs:List (Int×Int)}{g:Int}(h:zaz q ns ws)(hs:SzW ws vs)(hv:vs.length=ns.length)(hg:1≤g∧g≤1000000):∀k,k≤ns.length→SlW q ws (zau vs g q (ns.take k)):=fun k=>by
 induction k with
 | zero=>intro _ i p hp; simp[zau] at hp
 | succ k ih=>
  intro hk
  have hv':=List.getElem?_eq_getElem (show k < ns.length by omega)
  have s:=ih (by omega)
  have ln:(zau vs g q (ns.take k)).length=k:=by rw[zcU,List.length_take]; omega
  obtain⟨ok,e,p1,_⟩:=h.ok k _ hv'
  rw[zbr hv',zgA]
  refine s.snoc zo2 fun p hp=>?_
  obtain⟨l,hl,rfl⟩:=List.mem_map.mp hp
  have z:=sl_ok hs s hg (by omega) (fun i hi=>(h.w1 (by rw[← hv]; exact hi)).1) (List.mem_range.mp hl) ns[k] (by rw[ln]; exact ok) p1
  rw[ln,e]
  exact⟨z.1,z.2.1.mono (by omega),z.2.2.mono (by omega)⟩
theorem zjc {q:Int}{ns:List Nd}{ws:List Nat}{bs:List (Int×Int)}{g:Int}(h:zaz q ns ws)(hq:q=bs.length)(hb:Spn 51 bs)(hg:1≤g∧g≤1000000):SzW ws (zae bs g ns):=by
 have z:=zk3 h hq hb hg ns.length (Nat.le_refl _)
 rwa [List.take_length] at z
theorem SlW.spn {q:Nat}{ws:List Nat}{sl:List (List (Int×Int))}(h:SlW q ws sl)(hw:∀k:Nat,k < sl.length→ws.getD k 0≤16):∀i:Int,inR sl.length i→(sl.getD i.toNat []).length=q∧∀l,l < q→(gs sl i l).1≤(gs sl i l).2∧Sz 1100 (gs sl i l).1∧Sz 1100 (gs sl i l).2:=fun i hi=>by
 obtain⟨a,b⟩:=h.at hi
 refine⟨a,fun l hl=>?_⟩
 obtain⟨c,d,e⟩:=b l hl
 have:=hw i.toNat (by have:=hi.1; have:=hi.2; omega)
 exact⟨c,d.mono (by omega),e.mono (by omega)⟩
theorem zpj {caps:List Nat}{ta:TDA}{te:TDE}{dl:Ev}{S S1:Sto}{Q:DK}{n:Nat}{xs:List D}(g:Nat→D→D)(hta:∀K:List D→Sto→Prop,K [.ref n] S1→ta dl S K)(h1:S1[n]?=some (.lst xs))(hl:xs.length≤1000)
  (ht:∀(k:Nat) (x:D),xs[k]?=some x→∀(S2:Sto) (K:DK),Pre S1 S2→K (g k x) S2→te (some (.int (k:Int))::some x::zbn caps dl) S2 K)(hq:Q (.ref S1.length) (S1++[.lst (xs.mapIdx g)])):zf2 caps ta te dl S Q:=by
 unfold zf2
 refine hta _ ⟨by rw[zaB h1 rfl]; rfl,fun k m S2=>S2=S1++[.lst ((xs.take k).mapIdx g)]∧m + k=xs.length,⟨xs.length,by simp,by omega⟩,?_⟩
 rintro k m S2 ⟨rfl,hm⟩
 rw[zaB (zcT h1) rfl]
 dsimp only[zah]
 split
 ·rename_i x hx
  have hk:k < xs.length:=(List.getElem?_eq_some_iff.mp hx).1
  unfold zhX
  refine ht k x hx _ _ Pre.refl.push ?_
  rw[zat]
  refine⟨by simp; omega,m - 1,by omega,?_,by omega⟩
  have e:xs.take (k + 1)=xs.take k++[x]:=by rw[List.take_succ,hx]; rfl
  rw[e,List.mapIdx_append,List.set_append_right _ _ (Nat.le_refl _)]
  have l:(xs.take k).length=k:=by rw[List.length_take]; omega
  simp[l]
 ·rename_i hx
  have hk:xs.length≤k:=List.getElem?_eq_none_iff.mp hx
  refine⟨by omega,?_⟩
  rw[List.take_of_length_le hk]
  exact hq

def mid (p:Int×Int):Int:=(p.1 + p.2) / 2
def zax (p:Int×Int):Int×Int:=(mid p,mid p)
def zgk (p q:Int×Int):Int×Int:=(p.1 + q.1,p.2 + q.2)
def zbZ (p q:Int×Int):Int×Int:=(p.1 - q.2,p.2 - q.1)
def sumP (g:Int)(us vs:List (Int×Int)):Int×Int:=(List.zip us vs).foldl (fun t z=>zgk t (zaG z.1 z.2 g)) (0,0)
def rwD (r:Bool×Nat):D:=.tup [.str (if r.1 then "zero" else "least"),.int (r.2:Int)]
def eqs (rows:List (Bool×Nat)):List Nat:=rows.filterMap fun r=>if r.1 then some r.2 else none
theorem zny {caps:List Nat}{tl te:TDE}{tc:TDT}{dl:Ev}{S S1:Sto}{Q:DK}{n:Nat}{o:Ob}(f:D→Option D)(htl:∀K:DK,K (.ref n) S1→tl dl S K)(h1:S1[n]?=some o)(hl:(zah o).length≤1000)
  (hc:∀x∈zah o,∀(S2:Sto) (K:Bool→Sto→Prop),Pre S1 S2→K (f x).isSome S2→tc (some x::zbn caps dl) S2 K)(ht:∀x∈zah o,∀y,f x=some y→∀(S2:Sto) (K:DK),Pre S1 S2→K y S2→te (some x::zbn caps dl) S2 K)(hq:Q (.ref S1.length) (S1++[.lst ((zah o).filterMap f)]))(hL:zbC o=some o:=by rfl):zbK caps tl tc te dl S Q:=by
 unfold zbK
 refine htl _ ⟨by rw[zaB h1 hL]; rfl,fun k m S2=>S2=S1++[.lst (((zah o).take k).filterMap f)]∧m + k=(zah o).length,⟨(zah o).length,by simp,by omega⟩,?_⟩
 rintro k m S2 ⟨rfl,hm⟩
 rw[zaB (zcT h1) hL]
 dsimp only
 split
 ·rename_i x hx
  have hk:k < (zah o).length:=(List.getElem?_eq_some_iff.mp hx).1
  have e:(zah o).take (k + 1)=(zah o).take k++[x]:=by rw[List.take_succ,hx]; rfl
  unfold zcm
  refine hc x (List.mem_of_getElem? hx) _ _ Pre.refl.push ?_
  cases ef:f x with
  | none=>
   refine zby ?_
   refine⟨m - 1,by omega,?_,by omega⟩
   rw[e,List.filterMap_append]
   simp[ef]
  | some y=>
   refine zbQ ?_
   refine ht x (List.mem_of_getElem? hx) y ef _ _ Pre.refl.push ?_
   rw[zat]
   have ll:=List.length_filterMap_le f ((zah o).take k)
   refine⟨by rw[List.length_take] at ll; omega,m - 1,by omega,?_,by omega⟩
   rw[e,List.filterMap_append,zfQ]
   simp[ef]
 ·rename_i hx
  have hk:(zah o).length≤k:=List.getElem?_eq_none_iff.mp hx
  rw[List.take_of_length_le hk]
  exact hq
def zbt (g:Int)(k c:Nat)(ts:List (Int×Int))(R:List (List (Int×Int))):Int×Int:=zbZ (if k=c then (g,g) else (0,0)) (sumP g ts (R.map fun r=>r.getD c (0,0)))
def za1 (g:Int)(box:List (Int×Int))(thin:List (Int×Int))(R:List (List (Int×Int)))(k:Nat)(es:List Int):Int×Int:=
 zgk (zbZ (zax (gt box k)) (sumP g (es.map fun e=>(e,e)) thin)) (sumP g ((List.range box.length).map fun c=>zbt g k c (es.map fun e=>(e,e)) R) (box.map fun p=>zbZ p (zax p)))
theorem ziP (g:Int)(us vs:List (Int×Int))(k:Nat){u v:Int×Int}(hu:us[k]?=some u)(hv:vs[k]?=some v):sumP g (us.take (k + 1)) (vs.take (k + 1))=zgk (sumP g (us.take k) (vs.take k)) (zaG u v g):=by
 unfold sumP
 have l1:=(List.getElem?_eq_some_iff.mp hu).1
 have l2:=(List.getElem?_eq_some_iff.mp hv).1
 rw[zbr hu,zbr hv,List.zip_append (by rw[List.length_take,List.length_take]; omega),List.foldl_append]
 rfl
theorem zkk (g:Int)(us vs:List (Int×Int)):sumP g (us.take (min us.length vs.length)) (vs.take (min us.length vs.length))=sumP g us vs:=by
 unfold sumP
 congr 1
 show List.zipWith Prod.mk _ _=List.zipWith Prod.mk _ _
 rw[← List.take_zipWith,List.take_of_length_le (by rw[List.length_zipWith]; exact Nat.le_refl _)]
def Bd (B:Nat)(vs:List (Int×Int)):Prop:=∀p∈vs,Sz B p.1∧Sz B p.2
theorem zkn {g:Int}(hg:1≤g){us vs:List (Int×Int)}{A B:Nat}(h1:Bd A us)(h2:Bd B vs):∀k:Nat,k≤us.length→k≤vs.length→Sz (A + B + k + 1) (sumP g (us.take k) (vs.take k)).1∧Sz (A + B + k + 1) (sumP g (us.take k) (vs.take k)).2
 | 0,_,_=>⟨Nat.pow_pos (by decide),Nat.pow_pos (by decide)⟩
 | k + 1,l1,l2=>by
  have hu:=List.getElem?_eq_getElem (show k < us.length by omega)
  have hv:=List.getElem?_eq_getElem (show k < vs.length by omega)
  rw[ziP g us vs k hu hv]
  have ih:=zkn hg h1 h2 k (by omega) (by omega)
  have a:=h1 _ (List.mem_of_getElem? hu)
  have b:=h2 _ (List.mem_of_getElem? hv)
  have m:=zhG hg a.1 a.2 b.1 b.2
  exact⟨(ih.1.add m.1).mono (by omega),(ih.2.add m.2).mono (by omega)⟩
theorem zhi {g:Int}(hg:1≤g){us vs:List (Int×Int)}{A B:Nat}(h1:Bd A us)(h2:Bd B vs)(l:us.length≤60):Sz (A + B + 61) (sumP g us vs).1∧Sz (A + B + 61) (sumP g us vs).2:=by
 rw[← zkk]
 have z:=zkn hg h1 h2 (min us.length vs.length) (by omega) (by omega)
 exact⟨z.1.mono (by omega),z.2.mono (by omega)⟩

theorem zlX {is:List Nat}{ta:TDA}{tb:TDS}{E:zcD}{dl:Ev}{S:Sto}{n n':Nat}{xs ys:List D}(W:Nat→Ev→Prop)(hta:∀K:List D→Sto→Prop,K [.ref n,.ref n'] S→ta dl S K)(h1:S[n]?=some (.lst xs))(h2:S[n']?=some (.lst ys))(h0:W 0 dl)
  (hb:∀(k:Nat) (x y:D) (dl':Ev) (nx ct:Ev→Sto→Prop),xs[k]?=some x→ys[k]?=some y→W k dl'→(∀dl2,W (k + 1) dl2→nx dl2 S)→tb { nx:=nx,rt:=E.rt,bk:=E.nx,ct:=ct } (zdw is [x,y] dl') S)(he:∀dl',W (min xs.length ys.length) dl'→E.nx dl' S):zdM is ta tb E dl S:=by
 unfold zdM
 refine hta _ ⟨⟨by rw[zaB h1 rfl]; rfl,by rw[zaB h2 rfl]; rfl⟩,fun k m dl' S'=>S'=S∧W k dl'∧k + m=min xs.length ys.length,⟨min xs.length ys.length,rfl,h0,by simp⟩,?_⟩
 rintro k m dl' S' ⟨rfl,w,hk⟩
 simp only[zaB h1 rfl,zaB h2 rfl,zah]
 split
 ·rename_i x y e1 e2
  have l1:=(List.getElem?_eq_some_iff.mp e1).1
  have l2:=(List.getElem?_eq_some_iff.mp e2).1
  exact hb k x y dl' _ _ e1 e2 w (fun dl2 w2=>⟨m - 1,by omega,rfl,w2,by omega⟩)
 ·rename_i no
  have ek:k=min xs.length ys.length:=by
   by_cases l:k < min xs.length ys.length
   ·exact absurd (List.getElem?_eq_getElem (l:=ys) (i:=k) (by omega)) (no _ _ (List.getElem?_eq_getElem (l:=xs) (i:=k) (by omega)))
   ·omega
  exact⟨ek,he _ (ek ▸ w)⟩

theorem zg0 {B:Nat}{p:Int×Int}(h1:Sz B p.1)(h2:Sz B p.2):Sz (B + 1) (mid p):=(h1.add h2).div (by decide) |>.mono (by omega)
theorem zeY {B C:Nat}{p q:Int×Int}(hp:Sz B p.1∧Sz B p.2)(hq:Sz C q.1∧Sz C q.2):Sz (max B C + 1) (zbZ p q).1∧Sz (max B C + 1) (zbZ p q).2:=⟨hp.1.sub hq.2,hp.2.sub hq.1⟩
def zcV (S:Sto)(ds:List D)(M:List (List Int)):Prop:=ds.length=M.length∧∀(k:Nat) (d:D) (r:List Int),ds[k]?=some d→M[k]?=some r→∃a,d=.ref a∧S[a]?=some (.lst (r.map D.int))
theorem zcV.pre {S T:Sto}{ds:List D}{M:List (List Int)}(h:zcV S ds M)(p:Pre S T):zcV T ds M:=⟨h.1,fun k d r hd hr=>by
 obtain⟨a,e,s⟩:=h.2 k d r hd hr
 exact⟨a,e,p _ _ s⟩⟩

theorem zlB {p:Int×Int}(h:p.1≤p.2):p.1≤mid p∧mid p≤p.2:=by unfold mid; omega
theorem zi0 {B:Nat}{bs:List (Int×Int)}(h:Spn B bs):Spn B (bs.map zax):=fun p hp=>by
 obtain⟨x,hx,rfl⟩:=List.mem_map.mp hp
 obtain⟨a,b,c⟩:=h x hx
 have z:=zlB a
 have s:Sz B (mid x):=by
  unfold Sz at *
  omega
 exact⟨Int.le_refl _,s,s⟩

def Wi (p q:Int×Int):Prop:=q.1≤p.1∧p.2≤q.2
theorem zjw {A B x:Int}(y:Int)(h1:A≤x)(h2:x≤B):min (A * y) (B * y)≤x * y∧x * y≤max (A * y) (B * y):=by
 rcases Int.le_total 0 y with h | h
 ·have a:=Int.mul_le_mul_of_nonneg_right h1 h
  have b:=Int.mul_le_mul_of_nonneg_right h2 h
  omega
 ·have a:=Int.mul_le_mul_of_nonneg_right h1 (show 0≤-y by omega)
  have b:=Int.mul_le_mul_of_nonneg_right h2 (show 0≤-y by omega)
  simp only[Int.mul_neg] at a b
  omega
theorem zdZ {A B C D x y:Int}(h1:A≤x)(h2:x≤B)(h3:C≤y)(h4:y≤D):mn4 A B C D≤x * y∧x * y≤mx4 A B C D:=by
 have a:=zjw y h1 h2
 have b:=zjw A h3 h4
 have c:=zjw B h3 h4
 rw[Int.mul_comm C A,Int.mul_comm D A,Int.mul_comm y A] at b
 rw[Int.mul_comm C B,Int.mul_comm D B,Int.mul_comm y B] at c
 unfold mn4 mx4
 omega
theorem znK {a b c d A B C D:Int}(h1:A≤a)(h2:a≤b)(h3:b≤B)(h4:C≤c)(h5:c≤d)(h6:d≤D):mn4 A B C D≤mn4 a b c d∧mx4 a b c d≤mx4 A B C D:=by
 have a1:=zdZ (A:=A) (B:=B) (C:=C) (D:=D) (x:=a) (y:=c) h1 (by omega) h4 (by omega)
 have a2:=zdZ (A:=A) (B:=B) (C:=C) (D:=D) (x:=a) (y:=d) h1 (by omega) (by omega) h6
 have a3:=zdZ (A:=A) (B:=B) (C:=C) (D:=D) (x:=b) (y:=c) (by omega) h3 h4 (by omega)
 have a4:=zdZ (A:=A) (B:=B) (C:=C) (D:=D) (x:=b) (y:=d) (by omega) h3 (by omega) h6
 generalize mn4 A B C D=m at *
 generalize mx4 A B C D=M at *
 unfold mn4 mx4
 omega
theorem zk7 {A B x:Int}{n:Nat}(hn:1≤n)(h1:A≤x)(h2:x≤B):zaw A B n≤x ^ n∧x ^ n≤zaF A B n:=by
 refine zli hn h1 h2 ?_ ?_ (fun ha hb=>?_) ?_ ?_
 ·unfold zaw
  split
  ·rename_i c; exact zb2 c.1 A
  ·omega
 ·unfold zaw
  split
  ·rename_i c; exact zb2 c.1 B
  ·omega
 ·unfold zaw
  split
  ·exact Int.le_refl _
  ·rename_i c
   have:=zfh (n:=n) (by omega) ha
   omega
 ·unfold zaF; omega
 ·unfold zaF; omega
theorem pw_wi {a b A B:Int}{n:Nat}(hn:1≤n)(h1:A≤a)(h2:a≤b)(h3:b≤B):zaw A B n≤zaw a b n∧zaF a b n≤zaF A B n:=by
 have x:=zk7 (A:=A) (B:=B) hn h1 (show a≤B by omega)
 have y:=zk7 (A:=A) (B:=B) hn (show A≤b by omega) h3
 refine⟨?_,by unfold zaF at *; omega⟩
 by_cases c:n % 2=0∧a≤0∧0≤b
 ·have c':n % 2=0∧A≤0∧0≤B:=⟨c.1,by omega,by omega⟩
  unfold zaw
  rw[if_pos c,if_pos c']
  exact Int.le_refl _
 ·have e:zaw a b n=min (a ^ n) (b ^ n):=by unfold zaw; rw[if_neg c]
  rw[e]
  omega
theorem zk6 {m M m' M' g:Int}(hg:1≤g)(h1:m'≤m)(h2:M≤M'):m' / g≤m / g∧-(-M / g)≤-(-M' / g):=by
 have a:=Int.ediv_le_ediv (show 0 < g by omega) h1
 have b:=Int.ediv_le_ediv (show 0 < g by omega) (show -M'≤-M by omega)
 omega
theorem Nd.fw_wi {vs bs VS BS:List (Int×Int)}{g:Int}(hg:1≤g)(lv:vs.length=VS.length)(hv:∀i:Int,inR vs.length i→(gt vs i).1≤(gt vs i).2∧Wi (gt vs i) (gt VS i))(hb:∀i:Int,inR bs.length i→Wi (gt bs i) (gt BS i)):∀v:Nd,v.ok vs.length bs.length→Wi (v.fw vs bs g) (v.fw VS BS g)
 | .number t b,ok=>⟨Int.le_refl _,Int.le_refl _⟩
 | .unknown k,ok=>hb k ok
 | .plus i j,ok=>by
  have a:=(hv i ok.1).2
  have b:=(hv j ok.2).2
  unfold Wi at *
  simp only[Nd.fw]
  omega
 | .minus i j,ok=>by
  have a:=(hv i ok.1).2
  have b:=(hv j ok.2).2
  unfold Wi at *
  simp only[Nd.fw]
  omega
 | .times i j,ok=>by
  have a:=hv i ok.1
  have b:=hv j ok.2
  have z:=znK a.2.1 a.1 a.2.2 b.2.1 b.1 b.2.2
  exact zk6 hg z.1 z.2
 | .power i n,ok=>by
  have a:=hv i ok.1
  have z:=pw_wi (n:=n.toNat) (by have:=ok.2; omega) a.2.1 a.1 a.2.2
  exact zk6 (Int.pow_pos (by omega)) z.1 z.2
theorem zdi {vs:List (Int×Int)}{p:Int×Int}{i:Int}(h:inR vs.length i):gt (vs++[p]) i=gt vs i:=by
 have hk:i.toNat < vs.length:=by
  have:=h.1
  have:=h.2
  omega
 simp only[gt,List.getD_eq_getElem?_getD,List.getElem?_append_left hk]
theorem zc4 {vs:List (Int×Int)}{p:Int×Int}{k:Nat}(h:vs.length=k):gt (vs++[p]) (k:Int)=p:=by
 subst h
 simp[gt]
theorem zr0 {q:Int}{ns:List Nd}{ws:List Nat}{bs BS:List (Int×Int)}{g:Int}(h:zaz q ns ws)(hq:q=bs.length)(hB:bs.length=BS.length)(hb:Spn 51 bs)(hb2:Spn 51 BS)(hg:1≤g∧g≤1000000)(hw:∀i:Int,inR bs.length i→Wi (gt bs i) (gt BS i)):
  ∀k,k≤ns.length→∀i:Int,inR k i→Wi (gt (zae bs g (ns.take k)) i) (gt (zae BS g (ns.take k)) i):=by
 intro k
 induction k with
 | zero=>intro _ i hi; exact absurd hi.2 (by have:=hi.1; omega)
 | succ k ih=>
  intro hk i hi
  have hv:ns[k]?=some ns[k]:=List.getElem?_eq_getElem (by omega)
  obtain⟨ok,_⟩:=h.ok k _ hv
  have ln:(zae bs g (ns.take k)).length=k:=by rw[zbB,List.length_take]; omega
  have lN:(zae BS g (ns.take k)).length=k:=by rw[zbB,List.length_take]; omega
  rw[zbr hv,zc7,zc7]
  have sp:=zhO h hq hb hg k (by omega)
  by_cases c:i < k
  ·rw[zdi (by rw[ln]; exact⟨hi.1,c⟩),zdi (by rw[lN]; exact⟨hi.1,c⟩)]
   exact ih (by omega) i ⟨hi.1,c⟩
  ·have e:i=k:=by have:=hi.2; omega
   subst e
   rw[zc4 ln,zc4 lN]
   refine Nd.fw_wi hg.1 (by rw[ln,lN]) (fun i hi=>⟨(sp.at hi).1,ih (by omega) i (by rw[ln] at hi; exact hi)⟩) hw _ ?_
   rw[ln,← hq]
   exact ok

def Pz (B:Nat)(vs:List (Int×Int)):Prop:=∀p∈vs,1≤p.2∧Sz B p.1∧Sz B p.2
theorem Pz.at {B:Nat}{vs:List (Int×Int)}(h:Pz B vs){i:Int}(hi:inR vs.length i):1≤(gt vs i).2∧Sz B (gt vs i).1∧Sz B (gt vs i).2:=h _ (zdY hi)
def Nd.due (vs ps:List (Int×Int)):Nd→Int×Int
 | .number t b=>(t,b)
 | .unknown k=>gt ps k
 | .plus i j=>((gt vs i).1 * (gt vs j).2 + (gt vs j).1 * (gt vs i).2,(gt vs i).2 * (gt vs j).2)
 | .minus i j=>((gt vs i).1 * (gt vs j).2 - (gt vs j).1 * (gt vs i).2,(gt vs i).2 * (gt vs j).2)
 | .times i j=>((gt vs i).1 * (gt vs j).1,(gt vs i).2 * (gt vs j).2)
 | .power i n=>((gt vs i).1 ^ n.toNat,(gt vs i).2 ^ n.toNat)

def PzW (ws:List Nat)(vs:List (Int×Int)):Prop:=∀(k:Nat) (p:Int×Int),vs[k]?=some p→1≤p.2∧Sz (112 * ws.getD k 0 - 2) p.1∧Sz (112 * ws.getD k 0 - 2) p.2
theorem PzW.at {ws:List Nat}{vs:List (Int×Int)}(h:PzW ws vs){i:Int}(hi:inR vs.length i):1≤(gt vs i).2∧Sz (112 * ws.getD i.toNat 0 - 2) (gt vs i).1∧Sz (112 * ws.getD i.toNat 0 - 2) (gt vs i).2:=by
 obtain⟨h0,h1⟩:=hi
 have hk:i.toNat < vs.length:=by omega
 have e:gt vs i=vs[i.toNat]:=by simp[gt,hk]
 rw[e]
 exact h _ _ (List.getElem?_eq_getElem hk)
theorem due_w {ws:List Nat}{vs ps:List (Int×Int)}(hs:PzW ws vs)(hp:Pz 110 ps)(hw:∀i:Int,inR vs.length i→1≤ws.getD i.toNat 0):∀v:Nd,v.ok vs.length ps.length→1≤(v.due vs ps).2∧Sz (112 * v.wt ws - 2) (v.due vs ps).1∧Sz (112 * v.wt ws - 2) (v.due vs ps).2
 | .number t b,ok=>⟨ok.1.1,(Sz.of (n:=31) (10 ^ 9) ok.2.2).mono (show 31≤112 * 1 - 2 by decide),(Sz.of (n:=31) (10 ^ 9) (by have:=ok.1; show b.natAbs≤_; omega)).mono (show 31≤112 * 1 - 2 by decide)⟩
 | .unknown k,ok=>⟨(hp.at ok).1,(hp.at ok).2.1.mono (show 110≤112 * 1 - 2 by decide),(hp.at ok).2.2.mono (show 110≤112 * 1 - 2 by decide)⟩
 | .plus i j,ok=>by
  have a:=hs.at ok.1
  have b:=hs.at ok.2
  have p:=hw i ok.1
  have q:=hw j ok.2
  exact⟨Int.mul_pos (show 0 < _ by omega) (show 0 < _ by omega),((a.2.1.mul b.2.2).add (b.2.1.mul a.2.2)).mono (by simp only[Nd.wt]; omega),(a.2.2.mul b.2.2).mono (by simp only[Nd.wt]; omega)⟩
 | .minus i j,ok=>by
  have a:=hs.at ok.1
  have b:=hs.at ok.2
  have p:=hw i ok.1
  have q:=hw j ok.2
  exact⟨Int.mul_pos (show 0 < _ by omega) (show 0 < _ by omega),((a.2.1.mul b.2.2).sub (b.2.1.mul a.2.2)).mono (by simp only[Nd.wt]; omega),(a.2.2.mul b.2.2).mono (by simp only[Nd.wt]; omega)⟩
 | .times i j,ok=>by
  have a:=hs.at ok.1
  have b:=hs.at ok.2
  have p:=hw i ok.1
  have q:=hw j ok.2
  exact⟨Int.mul_pos (show 0 < _ by omega) (show 0 < _ by omega),(a.2.1.mul b.2.1).mono (by simp only[Nd.wt]; omega),(a.2.2.mul b.2.2).mono (by simp only[Nd.wt]; omega)⟩
 | .power i n,ok=>by
  have a:=hs.at ok.1
  have p:=hw i ok.1
  have n2:=ok.2.1
  have hn:(112 * ws.getD i.toNat 0 - 2) * n.toNat + 1≤112 * Nd.wt ws (.power i n) - 2:=by
   simp only[Nd.wt]
   rw[Nat.sub_mul]
   have e:112 * ws.getD i.toNat 0 * n.toNat=112 * (n.toNat * ws.getD i.toNat 0):=by rw[Nat.mul_assoc,Nat.mul_comm (ws.getD i.toNat 0)]
   have m1:=Nat.mul_le_mul (Nat.le_refl n.toNat) p
   omega
  exact⟨Int.pow_pos (show 0 < _ by omega),(a.2.1.pow _).mono hn,(a.2.2.pow _).mono hn⟩
def zai (ps:List (Int×Int))(ns:List Nd):List (Int×Int):=ns.foldl (fun acc v=>acc++[v.due acc ps]) []
theorem zcF (ps:List (Int×Int))(ns:List Nd)(v:Nd):zai ps (ns++[v])=zai ps ns++[v.due (zai ps ns) ps]:=by
 unfold zai
 rw[List.foldl_append]
 rfl
theorem zbR (ps:List (Int×Int))(ns:List Nd):(zai ps ns).length=ns.length:=by
 have z:∀k,k≤ns.length→(zai ps (ns.take k)).length=k:=fun k=>by
  induction k with
  | zero=>intro _; rfl
  | succ k ih=>
   intro hk
   rw[zbr (List.getElem?_eq_getElem (show k < ns.length by omega)),zcF]
   simp[ih (by omega)]
 have y:=z ns.length (Nat.le_refl _)
 rwa [List.take_length] at y
theorem znG {ws:List Nat}{vs:List (Int×Int)}{p:Int×Int}{k:Nat}(h:PzW ws vs)(lk:vs.length=k)(hp:1≤p.2∧Sz (112 * ws.getD k 0 - 2) p.1∧Sz (112 * ws.getD k 0 - 2) p.2):PzW ws (vs++[p]):=fun i q hq=>by
 by_cases hi:i < k
 ·rw[List.getElem?_append_left (by omega)] at hq
  exact h i q hq
 ·have hl:=(List.getElem?_eq_some_iff.mp hq).1
  simp only[List.length_append,List.length_cons,List.length_nil,lk] at hl
  have ei:i=k:=by omega
  subst ei
  rw[List.getElem?_append_right (by omega),lk,Nat.sub_self] at hq
  simp at hq
  subst hq
  exact hp
theorem zqg {q:Int}{ns:List Nd}{ws:List Nat}(h:zaz q ns ws){k:Nat}{vs:List (Int×Int)}(hk:k≤ns.length)(lv:vs.length=k):∀i:Int,inR vs.length i→1≤ws.getD i.toNat 0:=fun i hi=>(h.w1 (i:=i) ⟨hi.1,by have:=hi.2; omega⟩).1
theorem zfx {q:Int}{ns:List Nd}{ws:List Nat}{ps:List (Int×Int)}(h:zaz q ns ws)(hq:q=ps.length)(hp:Pz 110 ps):∀k,k≤ns.length→PzW ws (zai ps (ns.take k)):=by
 intro k
 induction k with
 | zero=>intro _ i p hp; simp[zai] at hp
 | succ k ih=>
  intro hk
  have hv:=List.getElem?_eq_getElem (show k < ns.length by omega)
  have s:=ih (by omega)
  have ln:(zai ps (ns.take k)).length=k:=by rw[zbR,List.length_take]; omega
  obtain⟨ok,e,_,_⟩:=h.ok k _ hv
  rw[zbr hv,zcF]
  refine znG s ln ?_
  rw[e]
  exact due_w s hp (zqg h (by omega) ln) _ (by rw[ln,← hq]; exact ok)
theorem Pz.of_w {ws:List Nat}{vs:List (Int×Int)}(h:PzW ws vs)(hw:∀k:Nat,k < vs.length→ws.getD k 0≤16):Pz 1800 vs:=fun p hp=>by
 obtain⟨k,hk,e⟩:=List.mem_iff_getElem.mp hp
 obtain⟨a,b,c⟩:=h k p (by rw[List.getElem?_eq_getElem hk,e])
 have:=hw k hk
 exact⟨a,b.mono (by omega),c.mono (by omega)⟩
theorem zct {p q k:Int}(h:0≤k):min (p * k) (q * k)=min p q * k∧max (p * k) (q * k)=max p q * k:=by
 rcases Int.le_total p q with c | c
 ·have:=Int.mul_le_mul_of_nonneg_right c h
  rw[Int.min_eq_left c,Int.max_eq_right c]
  omega
 ·have:=Int.mul_le_mul_of_nonneg_right c h
  rw[Int.min_eq_right c,Int.max_eq_left c]
  omega
theorem zig {a b c d p q:Int}(h:0≤p * q):mn4 (a * p) (b * p) (c * q) (d * q)=mn4 a b c d * (p * q)∧mx4 (a * p) (b * p) (c * q) (d * q)=mx4 a b c d * (p * q):=by
 have e:∀x y:Int,x * p * (y * q)=x * y * (p * q):=fun x y=>by grind
 unfold mn4 mx4
 rw[e,e,e,e]
 refine⟨?_,?_⟩
 ·rw[(zct h).1,(zct h).1,(zct h).1]
 ·rw[(zct h).2,(zct h).2,(zct h).2]
theorem zqU {a b p x:Int}{n:Nat}(hn:1≤n)(hp:1≤p)(h1:a * p≤x)(h2:x≤b * p):zaw a b n * p ^ n≤x ^ n∧x ^ n≤zaF a b n * p ^ n:=by
 have pp:0 < p ^ n:=Int.pow_pos (by omega)
 have lo1:zaw a b n≤a ^ n:=by
  unfold zaw
  split
  ·rename_i c; exact zb2 c.1 a
  ·omega
 have lo2:zaw a b n≤b ^ n:=by
  unfold zaw
  split
  ·rename_i c; exact zb2 c.1 b
  ·omega
 refine zli hn h1 h2 ?_ ?_ (fun ha hb=>?_) ?_ ?_
 ·rw[Int.mul_pow]; exact Int.mul_le_mul_of_nonneg_right lo1 (by omega)
 ·rw[Int.mul_pow]; exact Int.mul_le_mul_of_nonneg_right lo2 (by omega)
 ·have a0:a < 0:=by
   by_cases c:a < 0
   ·exact c
   ·have:=Int.mul_nonneg (show 0≤a by omega) (show 0≤p by omega)
    omega
  have b0:0 < b:=by
   by_cases c:0 < b
   ·exact c
   ·have:=Int.mul_nonneg (show 0≤-b by omega) (show 0≤p by omega)
    rw[Int.neg_mul] at this
    omega
  have z:zaw a b n≤0:=by
   unfold zaw
   split
   ·exact Int.le_refl _
   ·rename_i c
    have:=zfh (n:=n) (by omega) a0
    omega
  have:=Int.mul_nonneg (show 0≤-zaw a b n by omega) (show 0≤p ^ n by omega)
  rw[Int.neg_mul] at this
  omega
 ·rw[Int.mul_pow]; exact Int.mul_le_mul_of_nonneg_right (by unfold zaF; omega) (by omega)
 ·rw[Int.mul_pow]; exact Int.mul_le_mul_of_nonneg_right (by unfold zaF; omega) (by omega)
theorem ziK {m M G X B:Int}(hG:1≤G)(hB:0≤B)(h1:m * B≤X * G)(h2:X * G≤M * B):m / G * B≤X∧X≤-(-M / G) * B:=by
 have a:=Int.mul_le_mul_of_nonneg_right (zdU m (show 0 < G by omega)).1 hB
 have b:=Int.mul_le_mul_of_nonneg_right (zhf M (show 0 < G by omega)).1 hB
 have e1:m / G * G * B=m / G * B * G:=by grind
 have e2:-(-M / G) * G * B=-(-M / G) * B * G:=by grind
 rw[e1] at a
 rw[e2] at b
 exact⟨Int.le_of_mul_le_mul_right (a:=G) (by omega) (by omega),Int.le_of_mul_le_mul_right (a:=G) (by omega) (by omega)⟩
theorem zoa {lo hi w p g t b:Int}(h:lo≤hi)(hw:1≤w)(hg:1≤g)(p0:0≤p)(p1:p≤w)(hb:1≤b)(e:t * (g * w)=(lo * w + (hi - lo) * p) * b):lo * b≤t * g∧t * g≤hi * b:=by
 have a1:=Int.mul_nonneg (show 0≤hi - lo by omega) p0
 have a2:=Int.mul_le_mul_of_nonneg_left p1 (show 0≤hi - lo by omega)
 have b1:=Int.mul_le_mul_of_nonneg_right (show lo * w≤lo * w + (hi - lo) * p by omega) (show 0≤b by omega)
 have e2:(hi - lo) * w=hi * w - lo * w:=by grind
 have b2:=Int.mul_le_mul_of_nonneg_right (show lo * w + (hi - lo) * p≤hi * w by omega) (show 0≤b by omega)
 rw[← e] at b1 b2
 have c1:lo * w * b=lo * b * w:=by grind
 have c2:hi * w * b=hi * b * w:=by grind
 have c3:t * (g * w)=t * g * w:=by grind
 rw[c1,c3] at b1
 rw[c2,c3] at b2
 exact⟨Int.le_of_mul_le_mul_right b1 (by omega),Int.le_of_mul_le_mul_right b2 (by omega)⟩
theorem zmB {lo hi w p:Int}(h:lo≤hi)(s1:Sz 51 lo)(s2:Sz 51 hi)(hw:1≤w∧w≤1000000000)(p0:0≤p)(p1:p≤w):IntMulOk lo w∧IntMulOk (hi - lo) p∧Sz 84 (lo * w + (hi - lo) * p):=by
 have sw:Sz 30 w:=Sz.of 1000000000 (by omega)
 have sp:Sz 30 p:=Sz.of 1000000000 (by omega)
 have sd:Sz 52 (hi - lo):=s2.sub s1
 exact⟨zaE s1 sw,zaE sd sp,((s1.mul sw).add (sd.mul sp)).mono (by decide)⟩
def InW (g:Int)(vs ds:List (Int×Int)):Prop:=∀i:Int,inR ds.length i→(gt vs i).1 * (gt ds i).2≤(gt ds i).1 * g∧(gt ds i).1 * g≤(gt vs i).2 * (gt ds i).2
theorem zof {vs bs ds ps:List (Int×Int)}{g:Int}{B:Nat}(hg:1≤g)(h:InW g vs ds)(hp:InW g bs ps)(pd:Pz B ds)(pp:Pz B ps):∀v:Nd,v.ok ds.length ps.length→(v.fw vs bs g).1 * (v.due ds ps).2≤(v.due ds ps).1 * g∧(v.due ds ps).1 * g≤(v.fw vs bs g).2 * (v.due ds ps).2
 | .number t b,ok=>⟨(zdU (t * g) (show 0 < b by have:=ok.1.1; omega)).1,(zhf (t * g) (show 0 < b by have:=ok.1.1; omega)).1⟩
 | .unknown k,ok=>hp k ok
 | .plus i j,ok=>by
  have a:=h i ok.1
  have b:=h j ok.2
  have p1:=(pd.at ok.1).1
  have p2:=(pd.at ok.2).1
  simp only[Nd.fw,Nd.due]
  have a1:=Int.mul_le_mul_of_nonneg_right a.1 (show 0≤(gt ds j).2 by omega)
  have a2:=Int.mul_le_mul_of_nonneg_right a.2 (show 0≤(gt ds j).2 by omega)
  have b1:=Int.mul_le_mul_of_nonneg_right b.1 (show 0≤(gt ds i).2 by omega)
  have b2:=Int.mul_le_mul_of_nonneg_right b.2 (show 0≤(gt ds i).2 by omega)
  grind
 | .minus i j,ok=>by
  have a:=h i ok.1
  have b:=h j ok.2
  have p1:=(pd.at ok.1).1
  have p2:=(pd.at ok.2).1
  simp only[Nd.fw,Nd.due]
  have a1:=Int.mul_le_mul_of_nonneg_right a.1 (show 0≤(gt ds j).2 by omega)
  have a2:=Int.mul_le_mul_of_nonneg_right a.2 (show 0≤(gt ds j).2 by omega)
  have b1:=Int.mul_le_mul_of_nonneg_right b.1 (show 0≤(gt ds i).2 by omega)
  have b2:=Int.mul_le_mul_of_nonneg_right b.2 (show 0≤(gt ds i).2 by omega)
  grind
 | .times i j,ok=>by
  have a:=h i ok.1
  have b:=h j ok.2
  have p1:=(pd.at ok.1).1
  have p2:=(pd.at ok.2).1
  have pq:0≤(gt ds i).2 * (gt ds j).2:=Int.mul_nonneg (by omega) (by omega)
  have z:=zdZ a.1 a.2 b.1 b.2
  rw[(zig pq).1,(zig pq).2] at z
  have e:(gt ds i).1 * g * ((gt ds j).1 * g)=(gt ds i).1 * (gt ds j).1 * g * g:=by grind
  rw[e] at z
  exact ziK hg pq z.1 z.2
 | .power i n,ok=>by
  have a:=h i ok.1
  have p1:=(pd.at ok.1).1
  have n2:=ok.2.1
  obtain⟨k,hk⟩:∃k,n.toNat=k + 1:=⟨n.toNat - 1,by omega⟩
  have z:=zqU (n:=n.toNat) (by omega) p1 a.1 a.2
  have e:((gt ds i).1 * g) ^ n.toNat=(gt ds i).1 ^ n.toNat * g * g ^ (n.toNat - 1):=by
   rw[Int.mul_pow,hk,Nat.add_sub_cancel,Int.pow_succ g k]
   grind
  rw[e] at z
  exact ziK (Int.pow_pos (by omega)) (Int.le_of_lt (Int.pow_pos (by omega))) z.1 z.2
theorem zi2 {q:Int}{ns:List Nd}{ws:List Nat}{bs ps:List (Int×Int)}{g:Int}(h:zaz q ns ws)(hq:q=bs.length)(hqp:q=ps.length)(hg:1≤g)(hp:InW g bs ps)(pp:Pz 110 ps):∀k,k≤ns.length→InW g (zae bs g (ns.take k)) (zai ps (ns.take k)):=by
 intro k
 induction k with
 | zero=>intro _ i hi; exact absurd hi.2 (by have:=hi.1; simp[zai]; omega)
 | succ k ih=>
  intro hk i hi
  have hv:ns[k]?=some ns[k]:=List.getElem?_eq_getElem (by omega)
  obtain⟨ok,_⟩:=h.ok k _ hv
  have ln:(zae bs g (ns.take k)).length=k:=by rw[zbB,List.length_take]; omega
  have lN:(zai ps (ns.take k)).length=k:=by rw[zbR,List.length_take]; omega
  rw[zbr hv,zcF] at hi
  rw[zbr hv,zc7,zcF]
  have hi2:i < k + 1:=by have:=hi.2; simp only[List.length_append,List.length_cons,List.length_nil,lN] at this; omega
  by_cases c:i < k
  ·rw[zdi (by rw[ln]; exact⟨hi.1,c⟩),zdi (by rw[lN]; exact⟨hi.1,c⟩)]
   exact ih (by omega) i (by rw[lN]; exact⟨hi.1,c⟩)
  ·have e:i=k:=by omega
   subst e
   rw[zc4 ln,zc4 lN]
   have pz:Pz 1800 (zai ps (ns.take k)):=Pz.of_w (zfx h hqp pp k (by omega)) fun j hj=>(h.w1 (i:=j) ⟨by omega,by omega⟩).2
   refine zof (B:=1800) hg (ih (by omega)) hp pz (fun p hp=>⟨(pp p hp).1,(pp p hp).2.1.mono (by decide),(pp p hp).2.2.mono (by decide)⟩) _ ?_
   rw[lN,← hqp]
   exact ok
def hs:Nat→Int→Int→Int
 | 0,_,_=>0
 | k + 1,x,y=>x * hs k x y + y ^ k
theorem zet (x y:Int):∀n:Nat,(x - y) * hs n x y=x ^ n - y ^ n
 | 0=>by simp[hs]
 | k + 1=>by
  have z:=zet x y k
  have e:(x - y) * hs (k + 1) x y=x * ((x - y) * hs k x y) + (x - y) * y ^ k:=by
   show (x - y) * (x * hs k x y + y ^ k)=_
   grind
  rw[e,z,Int.pow_succ,Int.pow_succ]
  grind
theorem zii (x:Int):∀n:Nat,hs (n + 1) x x=((n + 1:Nat):Int) * x ^ n
 | 0=>by simp[hs]
 | k + 1=>by
  show x * hs (k + 1) x x + x ^ (k + 1)=_
  rw[zii x k,Int.pow_succ]
  have e:((k + 1 + 1:Nat):Int)=((k + 1:Nat):Int) + 1:=by omega
  rw[e]
  grind
theorem zjy (x y g:Int):∀n:Nat,hs (n + 1) (x * g) (y * g)=hs (n + 1) x y * g ^ n
 | 0=>by simp[hs]
 | k + 1=>by
  show x * g * hs (k + 1) (x * g) (y * g) + (y * g) ^ (k + 1)=(x * hs (k + 1) x y + y ^ (k + 1)) * g ^ (k + 1)
  rw[zjy x y g k,Int.mul_pow,Int.pow_succ g]
  grind
theorem zqf (x y:Int)(n:Nat):hs n x y=hs n y x:=by
 by_cases e:x=y
 ·rw[e]
 ·have a:=zet x y n
  have b:=zet y x n
  have c:(x - y) * hs n x y=(x - y) * hs n y x:=by grind
  exact Int.eq_of_mul_eq_mul_left (by omega) c
theorem zjF (x y:Int)(n:Nat):hs (n + 1) (-x) (-y)=hs (n + 1) x y * (-1) ^ n:=by
 have z:=zjy x y (-1) n
 rw[Int.mul_neg_one,Int.mul_neg_one] at z
 exact z
theorem zhN {a b:Int}(h0:0≤a)(h:a≤b):∀n:Nat,a ^ n≤b ^ n
 | 0=>by simp
 | k + 1=>by
  rw[Int.pow_succ,Int.pow_succ]
  exact Int.mul_le_mul (zhN h0 h k) h h0 (Int.pow_nonneg (by omega))
theorem zg2 {x y:Int}(hx:0≤x)(hy:0≤y):∀n:Nat,0≤hs n x y
 | 0=>Int.le_refl _
 | k + 1=>Int.add_nonneg (Int.mul_nonneg hx (zg2 hx hy k)) (Int.pow_nonneg hy)
theorem zim {x y u v:Int}(hx:0≤x)(hy:0≤y)(h1:x≤u)(h2:y≤v):∀n:Nat,hs n x y≤hs n u v
 | 0=>Int.le_refl _
 | k + 1=>Int.add_le_add (Int.mul_le_mul h1 (zim hx hy h1 h2 k) (zg2 hx hy k) (by omega)) (zhN hy h2 k)
theorem zed {n:Nat}(x:Int):(-x) ^ n=x ^ n * (-1) ^ n:=by
 rw[← Int.mul_pow,Int.mul_neg_one]
theorem zcS {n:Nat}(h:n % 2=0):(-1:Int) ^ n=1:=by
 obtain⟨k,rfl⟩:∃k,n=2 * k:=⟨n / 2,by omega⟩
 rw[Int.pow_mul]
 show (1:Int) ^ k=1
 exact Int.one_pow
theorem zjp {n:Nat}(h:n % 2=1):(-1:Int) ^ n=-1:=by
 obtain⟨k,rfl⟩:∃k,n=2 * k + 1:=⟨n / 2,by omega⟩
 rw[Int.pow_succ,zcS (by omega)]
 rfl
theorem zoi {a b:Int}(ha:0≤a)(hb:0≤b)(m:Nat):(m % 2=0→0≤hs (m + 1) (-a) b∧hs (m + 1) (-a) b≤max (a ^ m) (b ^ m))∧(m % 2=1→-(a ^ m)≤hs (m + 1) (-a) b∧hs (m + 1) (-a) b≤b ^ m):=by
 have pa:0≤a ^ m:=Int.pow_nonneg ha
 have pb:0≤b ^ m:=Int.pow_nonneg hb
 by_cases z:a + b=0
 ·have a0:a=0:=by omega
  have b0:b=0:=by omega
  subst a0 b0
  have e:hs (m + 1) (-0) 0=((m + 1:Nat):Int) * 0 ^ m:=zii 0 m
  rw[e]
  cases m with
  | zero=>simp
  | succ m=>simp[Int.pow_succ]
 have pos:0 < a + b:=by omega
 have k:=zet (-a) b (m + 1)
 have e1:(-a) ^ (m + 1)=a ^ (m + 1) * (-1) ^ (m + 1):=zed a
 have ea:a ^ (m + 1)=a ^ m * a:=Int.pow_succ a m
 have eb:b ^ (m + 1)=b ^ m * b:=Int.pow_succ b m
 have pab:=Int.mul_nonneg pa hb
 have pba:=Int.mul_nonneg pb ha
 have paa:=Int.mul_nonneg pa ha
 have pbb:=Int.mul_nonneg pb hb
 refine⟨fun ev=>?_,fun od=>?_⟩
 ·rw[e1,zjp (show (m + 1) % 2=1 by omega)] at k
  have k2:(a + b) * hs (m + 1) (-a) b=a ^ m * a + b ^ m * b:=by grind
  refine⟨?_,?_⟩
  ·have q:0 * (a + b)≤hs (m + 1) (-a) b * (a + b):=by grind
   exact Int.le_of_mul_le_mul_right q pos
  ·have m1:=Int.mul_le_mul_of_nonneg_right (show a ^ m≤max (a ^ m) (b ^ m) by omega) ha
   have m2:=Int.mul_le_mul_of_nonneg_right (show b ^ m≤max (a ^ m) (b ^ m) by omega) hb
   generalize max (a ^ m) (b ^ m)=M at m1 m2
   have q:hs (m + 1) (-a) b * (a + b)≤M * (a + b):=by grind
   exact Int.le_of_mul_le_mul_right q pos
 ·rw[e1,zcS (show (m + 1) % 2=0 by omega)] at k
  have k2:(a + b) * hs (m + 1) (-a) b=b ^ m * b - a ^ m * a:=by grind
  refine⟨?_,?_⟩
  ·have q:-(a ^ m) * (a + b)≤hs (m + 1) (-a) b * (a + b):=by grind
   exact Int.le_of_mul_le_mul_right q pos
  ·have q:hs (m + 1) (-a) b * (a + b)≤b ^ m * (a + b):=by grind
   exact Int.le_of_mul_le_mul_right q pos
theorem zh0 {L H x y:Int}(h0:0≤L)(x1:L≤x)(x2:x≤H)(y1:L≤y)(y2:y≤H)(m:Nat):((m + 1:Nat):Int) * L ^ m≤hs (m + 1) x y∧hs (m + 1) x y≤((m + 1:Nat):Int) * H ^ m:=by
 rw[← zii,← zii]
 exact⟨zim h0 h0 x1 y1 _,zim (by omega) (by omega) x2 y2 _⟩
theorem znN {L H x y:Int}(x1:L≤x)(x2:x≤H)(y1:L≤y)(y2:y≤H){m:Nat}(hm:1≤m):((m + 1:Nat):Int) * zaw L H m≤hs (m + 1) x y∧hs (m + 1) x y≤((m + 1:Nat):Int) * zaF L H m:=by
 have n0:(0:Int)≤((m + 1:Nat):Int):=by omega
 have up:∀ {u v:Int},u≤v→((m + 1:Nat):Int) * u≤((m + 1:Nat):Int) * v:=fun h=>Int.mul_le_mul_of_nonneg_left h n0
 have lo1:zaw L H m≤L ^ m:=by
  unfold zaw
  split
  ·rename_i c; exact zb2 c.1 L
  ·omega
 have lo2:zaw L H m≤H ^ m:=by
  unfold zaw
  split
  ·rename_i c; exact zb2 c.1 H
  ·omega
 have hi1:L ^ m≤zaF L H m:=by unfold zaF; omega
 have hi2:H ^ m≤zaF L H m:=by unfold zaF; omega
 have big:∀ {u:Int},0≤u→u≤((m + 1:Nat):Int) * u:=fun {u} h=>by
  have:=Int.mul_nonneg (show (0:Int)≤(m:Int) by omega) h
  have e:((m + 1:Nat):Int) * u=(m:Int) * u + u:=by
   have:((m + 1:Nat):Int)=(m:Int) + 1:=by omega
   rw[this]; grind
  omega
 -- both not below 0
 have pp:0≤x→0≤y→((m + 1:Nat):Int) * zaw L H m≤hs (m + 1) x y∧hs (m + 1) x y≤((m + 1:Nat):Int) * zaF L H m:=fun hx hy=>by
  have hiH:=(zh0 (L:=0) (Int.le_refl _) hx x2 hy y2 m).2
  refine⟨?_,Int.le_trans hiH (up hi2)⟩
  by_cases c:0≤L
  ·exact Int.le_trans (up lo1) (zh0 c x1 x2 y1 y2 m).1
  ·have nn:=zg2 hx hy (m + 1)
   have z:zaw L H m≤0:=by
    by_cases p:m % 2=0
    ·unfold zaw
     rw[if_pos ⟨p,by omega,by omega⟩]
     exact Int.le_refl _
    ·have:=zfh (n:=m) (by omega) (show L < 0 by omega)
     omega
   have:=up z
   omega
 have mm:x≤0→y≤0→((m + 1:Nat):Int) * zaw L H m≤hs (m + 1) x y∧hs (m + 1) x y≤((m + 1:Nat):Int) * zaF L H m:=fun hx hy=>by
  have top:=(zh0 (L:=0) (H:=-L) (x:=-x) (y:=-y) (Int.le_refl _) (by omega) (by omega) (by omega) (by omega) m).2
  have nn:=zg2 (x:=-x) (y:=-y) (by omega) (by omega) (m + 1)
  rw[zjF] at top nn
  rw[zed L] at top
  have low:H≤0→((m + 1:Nat):Int) * (H ^ m * (-1) ^ m)≤hs (m + 1) x y * (-1) ^ m:=fun c=>by
   have z:=(zh0 (L:=-H) (H:=-L) (x:=-x) (y:=-y) (by omega) (by omega) (by omega) (by omega) (by omega) m).1
   rw[zjF,zed H] at z
   exact z
  by_cases p:m % 2=0
  ·rw[zcS p,Int.mul_one,Int.mul_one] at top
   rw[zcS p,Int.mul_one] at nn
   refine⟨?_,Int.le_trans top (up hi1)⟩
   by_cases c:H≤0
   ·have z:=low c
    rw[zcS p,Int.mul_one,Int.mul_one] at z
    exact Int.le_trans (up lo2) z
   ·have z:zaw L H m=0:=by
     unfold zaw
     rw[if_pos ⟨p,by omega,by omega⟩]
    rw[z]
    omega
  ·have p':m % 2=1:=by omega
   rw[zjp p'] at top nn low
   have top':((m + 1:Nat):Int) * L ^ m≤hs (m + 1) x y:=by grind
   refine⟨Int.le_trans (up lo1) top',?_⟩
   by_cases c:H≤0
   ·have z:=low c
    have z':hs (m + 1) x y≤((m + 1:Nat):Int) * H ^ m:=by grind
    exact Int.le_trans z' (up hi2)
   ·have:0≤H ^ m:=Int.pow_nonneg (by omega)
    have:=up (show (0:Int)≤zaF L H m by omega)
    omega
 have mix:∀ {x y:Int},L≤x→y≤H→x≤0→0≤y→((m + 1:Nat):Int) * zaw L H m≤hs (m + 1) x y∧hs (m + 1) x y≤((m + 1:Nat):Int) * zaF L H m:=fun {x y} x1 y2 hx hy=>by
  have z:=zoi (a:=-x) (b:=y) (by omega) hy m
  rw[Int.neg_neg] at z
  have ax:=zhN (show (0:Int)≤-x by omega) (show -x≤-L by omega) m
  rw[zed x,zed L] at ax
  rw[zed x] at z
  have by':=zhN hy y2 m
  have pH:0≤H ^ m:=Int.pow_nonneg (by omega)
  by_cases p:m % 2=0
  ·obtain⟨z1,z2⟩:=z.1 p
   rw[zcS p,Int.mul_one] at z2
   rw[zcS p,Int.mul_one,Int.mul_one] at ax
   have zl:zaw L H m=0:=by
    unfold zaw
    rw[if_pos ⟨p,by omega,by omega⟩]
   rw[zl]
   refine⟨by omega,?_⟩
   have:=big (u:=zaF L H m) (by omega)
   omega
  ·have p':m % 2=1:=by omega
   obtain⟨z1,z2⟩:=z.2 p'
   rw[zjp p'] at z1 ax
   have ax':L ^ m≤x ^ m:=by grind
   have z1':x ^ m≤hs (m + 1) x y:=by grind
   refine⟨?_,?_⟩
   ·have l0:L ^ m≤0:=by
     rcases Int.lt_or_eq_of_le (show L≤0 by omega) with c | c
     ·have:=zfh (n:=m) p' c
      omega
     ·rw[c,zg6 hm]
      exact Int.le_refl _
    have b:=big (u:=-(L ^ m)) (by omega)
    have b':((m + 1:Nat):Int) * L ^ m≤L ^ m:=by grind
    have:=up lo1
    omega
   ·have:=big (u:=zaF L H m) (by omega)
    omega
 rcases Int.le_total 0 x with hx | hx
 ·rcases Int.le_total 0 y with hy | hy
  ·exact pp hx hy
  ·rw[zqf]
   exact mix y1 x2 hy hx
 ·rcases Int.le_total 0 y with hy | hy
  ·exact mix x1 y2 hx hy
  ·exact mm hx hy
theorem zlg {a b p:Int}{n:Nat}(hp:1≤p):zaw (a * p) (b * p) n=zaw a b n * p ^ n∧zaF (a * p) (b * p) n=zaF a b n * p ^ n:=by
 have pp:0≤p ^ n:=Int.pow_nonneg (by omega)
 have sgn:∀x:Int,(x * p≤0↔x≤0)∧(0≤x * p↔0≤x):=fun x=>by
  refine⟨⟨fun h=>?_,fun h=>?_⟩,⟨fun h=>?_,fun h=>Int.mul_nonneg h (by omega)⟩⟩
  ·exact Int.le_of_mul_le_mul_right (show x * p≤0 * p by omega) (by omega)
  ·have:=Int.mul_le_mul_of_nonneg_right h (show 0≤p by omega)
   omega
  ·exact Int.le_of_mul_le_mul_right (show 0 * p≤x * p by omega) (by omega)
 unfold zaw zaF
 rw[Int.mul_pow,Int.mul_pow,(zct pp).1,(zct pp).2]
 refine⟨?_,rfl⟩
 by_cases c:n % 2=0∧a≤0∧0≤b
 ·rw[if_pos c,if_pos ⟨c.1,(sgn a).1.mpr c.2.1,(sgn b).2.mpr c.2.2⟩,Int.zero_mul]
 ·rw[if_neg c,if_neg (fun z=>c ⟨z.1,(sgn a).1.mp z.2.1,(sgn b).2.mp z.2.2⟩)]
def zaK:Nat→(Nat→Int)→Int
 | 0,_=>0
 | k + 1,f=>zaK k f + f k
theorem zh2 (a b:Int)(m n s:Nat→Int):∀q,zaK q (fun k=>(a * m k + b * n k) * s k)=a * zaK q (fun k=>m k * s k) + b * zaK q (fun k=>n k * s k)
 | 0=>by simp[zaK]
 | q + 1=>by
  show zaK q _ + _=a * (zaK q _ + _) + b * (zaK q _ + _)
  rw[zh2 a b m n s q]
  grind
theorem zlc (a:Int)(m s:Nat→Int):∀q,zaK q (fun k=>(a * m k) * s k)=a * zaK q (fun k=>m k * s k)
 | 0=>by simp[zaK]
 | q + 1=>by
  show zaK q _ + _=a * (zaK q _ + _)
  rw[zlc a m s q]
  grind
def Dif (U:Int)(q:Nat)(s:Nat→Int)(f l:Int×Int)(row:Nat→Int×Int):Prop:=
 ∃(d:Int) (n:Nat→Int),1≤d∧(∀k,k < q→(row k).1 * d≤n k∧n k≤(row k).2 * d)∧(f.1 * l.2 - l.1 * f.2) * U * d=f.2 * l.2 * zaK q (fun k=>n k * s k)
theorem zpt {U:Int}{q:Nat}{s:Nat→Int}{a b c e:Int×Int}{r t:Nat→Int×Int}(h1:Dif U q s a c r)(h2:Dif U q s b e t):
  Dif U q s (a.1 * b.2 + b.1 * a.2,a.2 * b.2) (c.1 * e.2 + e.1 * c.2,c.2 * e.2) (fun k=>((r k).1 + (t k).1,(r k).2 + (t k).2)):=by
 obtain⟨d1,n1,p1,b1,e1⟩:=h1
 obtain⟨d2,n2,p2,b2,e2⟩:=h2
 refine⟨d1 * d2,fun k=>d2 * n1 k + d1 * n2 k,Int.mul_pos (by omega) (by omega),fun k hk=>?_,?_⟩
 ·obtain⟨x1,x2⟩:=b1 k hk
  obtain⟨y1,y2⟩:=b2 k hk
  have u1:=Int.mul_le_mul_of_nonneg_right x1 (show 0≤d2 by omega)
  have u2:=Int.mul_le_mul_of_nonneg_right x2 (show 0≤d2 by omega)
  have v1:=Int.mul_le_mul_of_nonneg_right y1 (show 0≤d1 by omega)
  have v2:=Int.mul_le_mul_of_nonneg_right y2 (show 0≤d1 by omega)
  try dsimp only
  constructor <;> grind
 ·rw[zh2]
  generalize zaK q (fun k=>n1 k * s k)=S1 at e1
  generalize zaK q (fun k=>n2 k * s k)=S2 at e2
  try dsimp only
  grind
theorem znz {U:Int}{q:Nat}{s:Nat→Int}{a b c e:Int×Int}{r t:Nat→Int×Int}(h1:Dif U q s a c r)(h2:Dif U q s b e t):
  Dif U q s (a.1 * b.2 - b.1 * a.2,a.2 * b.2) (c.1 * e.2 - e.1 * c.2,c.2 * e.2) (fun k=>((r k).1 - (t k).2,(r k).2 - (t k).1)):=by
 obtain⟨d1,n1,p1,b1,e1⟩:=h1
 obtain⟨d2,n2,p2,b2,e2⟩:=h2
 refine⟨d1 * d2,fun k=>d2 * n1 k + -d1 * n2 k,Int.mul_pos (by omega) (by omega),fun k hk=>?_,?_⟩
 ·obtain⟨x1,x2⟩:=b1 k hk
  obtain⟨y1,y2⟩:=b2 k hk
  have u1:=Int.mul_le_mul_of_nonneg_right x1 (show 0≤d2 by omega)
  have u2:=Int.mul_le_mul_of_nonneg_right x2 (show 0≤d2 by omega)
  have v1:=Int.mul_le_mul_of_nonneg_right y1 (show 0≤d1 by omega)
  have v2:=Int.mul_le_mul_of_nonneg_right y2 (show 0≤d1 by omega)
  try dsimp only
  constructor <;> grind
 ·rw[zh2]
  generalize zaK q (fun k=>n1 k * s k)=S1 at e1
  generalize zaK q (fun k=>n2 k * s k)=S2 at e2
  try dsimp only
  grind
theorem ziF {v r:Int×Int}{g x b n d:Int}(hg:1≤g)(hb:1≤b)(hd:1≤d)(h1:v.1 * b≤x * g)(h2:x * g≤v.2 * b)(h3:r.1 * d≤n)(h4:n≤r.2 * d):(zaG v r g).1 * (b * d)≤x * n∧x * n≤(zaG v r g).2 * (b * d):=by
 have pq:0≤b * d:=Int.mul_nonneg (by omega) (by omega)
 have z:=zdZ h1 h2 h3 h4
 rw[(zig pq).1,(zig pq).2] at z
 have e:x * g * n=x * n * g:=by grind
 rw[e] at z
 exact ziK hg pq z.1 z.2
theorem zqK {U g:Int}{q:Nat}{s:Nat→Int}{a b c e v w:Int×Int}{r t:Nat→Int×Int}(hg:1≤g)(h1:Dif U q s a c r)(h2:Dif U q s b e t)(pa:1≤a.2)(pe:1≤e.2)
  (va:v.1 * a.2≤a.1 * g∧a.1 * g≤v.2 * a.2)(we:w.1 * e.2≤e.1 * g∧e.1 * g≤w.2 * e.2):
  Dif U q s (a.1 * b.1,a.2 * b.2) (c.1 * e.1,c.2 * e.2) (fun k=>((zaG v (t k) g).1 + (zaG w (r k) g).1,(zaG v (t k) g).2 + (zaG w (r k) g).2)):=by
 obtain⟨d1,n1,p1,b1,e1⟩:=h1
 obtain⟨d2,n2,p2,b2,e2⟩:=h2
 have q1:(1:Int)≤d1 * d2:=Int.mul_pos (by omega) (by omega)
 have q2:(1:Int)≤a.2 * e.2:=Int.mul_pos (by omega) (by omega)
 refine⟨a.2 * e.2 * (d1 * d2),fun k=>(a.1 * e.2 * d1) * n2 k + (e.1 * a.2 * d2) * n1 k,Int.mul_pos (by omega) (by omega),fun k hk=>?_,?_⟩
 ·obtain⟨x1,x2⟩:=b1 k hk
  obtain⟨y1,y2⟩:=b2 k hk
  have m1:=ziF hg pa p2 va.1 va.2 y1 y2
  have m2:=ziF hg pe p1 we.1 we.2 x1 x2
  have f1:(0:Int)≤e.2 * d1:=Int.mul_nonneg (by omega) (by omega)
  have f2:(0:Int)≤a.2 * d2:=Int.mul_nonneg (by omega) (by omega)
  have u1:=Int.mul_le_mul_of_nonneg_right m1.1 f1
  have u2:=Int.mul_le_mul_of_nonneg_right m1.2 f1
  have v1:=Int.mul_le_mul_of_nonneg_right m2.1 f2
  have v2:=Int.mul_le_mul_of_nonneg_right m2.2 f2
  try dsimp only
  generalize zaG v (t k) g=M1 at u1 u2
  generalize zaG w (r k) g=M2 at v1 v2
  clear m1 m2 x1 x2 y1 y2 va we e1 e2
  constructor <;> grind
 ·rw[zh2]
  generalize zaK q (fun k=>n1 k * s k)=S1 at e1
  generalize zaK q (fun k=>n2 k * s k)=S2 at e2
  try dsimp only
  clear b1 b2 va we
  have k1:=congrArg (fun z=>z * (e.1 * b.2 * a.2 * e.2 * d2)) e1
  have k2:=congrArg (fun z=>z * (a.1 * c.2 * a.2 * e.2 * d1)) e2
  try dsimp only at k1 k2
  clear e1 e2
  grind
theorem zou {v:Int×Int}{g x y N:Int}{n:Int}(hg:1≤g)(hN:1≤N)(n2:2≤n)(h1:v.1 * N≤x * g)(h2:x * g≤v.2 * N)(h3:v.1 * N≤y * g)(h4:y * g≤v.2 * N):(za9 v n g).1 * N ^ (n.toNat - 1)≤hs n.toNat x y * g∧hs n.toNat x y * g≤(za9 v n g).2 * N ^ (n.toNat - 1):=by
 obtain⟨m,hm⟩:∃m,n.toNat=m + 2:=⟨n.toNat - 2,by omega⟩
 have en:(n - 1).toNat=m + 1:=by omega
 have nn:n=((m + 1 + 1:Nat):Int):=by omega
 have z:=znN h1 h2 h3 h4 (m:=m + 1) (by omega)
 rw[(zlg hN).1,(zlg hN).2,zjy] at z
 have gp:(0:Int) < g ^ m:=Int.pow_pos (by omega)
 have np:(0:Int)≤N ^ (m + 1):=Int.pow_nonneg (by omega)
 have l:=(zdU (zaw v.1 v.2 (m + 1)) gp).1
 have u:=(zhf (zaF v.1 v.2 (m + 1)) gp).1
 unfold za9
 rw[hm,en,show m + 2 - 1=m + 1 by omega,show m + 1 - 1=m by omega]
 have eg:g ^ (m + 1)=g ^ m * g:=Int.pow_succ g m
 rw[eg] at z
 rw[← nn] at z
 have f:(0:Int)≤n * N ^ (m + 1):=Int.mul_nonneg (by omega) np
 have l2:=Int.mul_le_mul_of_nonneg_right l f
 have u2:=Int.mul_le_mul_of_nonneg_right u f
 dsimp only
 generalize zaw v.1 v.2 (m + 1) / g ^ m=A at l2
 generalize -(-zaF v.1 v.2 (m + 1) / g ^ m)=B at u2
 generalize zaw v.1 v.2 (m + 1)=C at l2 z
 generalize zaF v.1 v.2 (m + 1)=D at u2 z
 generalize g ^ m=G at *
 generalize N ^ (m + 1)=M at *
 have z1:=z.1
 have z2:=z.2
 show _≤hs (m + 1 + 1) x y * g∧hs (m + 1 + 1) x y * g≤_
 generalize hs (m + 1 + 1) x y=P at z1 z2
 clear z h1 h2 h3 h4 l u eg
 refine⟨Int.le_of_mul_le_mul_right (a:=G) ?_ gp,Int.le_of_mul_le_mul_right (a:=G) ?_ gp⟩ <;> grind
theorem zmW {U g:Int}{q:Nat}{s:Nat→Int}{a c v:Int×Int}{r:Nat→Int×Int}{n:Int}(hg:1≤g)(n2:2≤n)(h1:Dif U q s a c r)(pa:1≤a.2)(pc:1≤c.2)
  (va:v.1 * a.2≤a.1 * g∧a.1 * g≤v.2 * a.2)(vc:v.1 * c.2≤c.1 * g∧c.1 * g≤v.2 * c.2):
  Dif U q s (a.1 ^ n.toNat,a.2 ^ n.toNat) (c.1 ^ n.toNat,c.2 ^ n.toNat) (fun k=>zaG (za9 v n g) (r k) g):=by
 obtain⟨d1,n1,p1,b1,e1⟩:=h1
 have hN:(1:Int)≤a.2 * c.2:=Int.mul_pos (by omega) (by omega)
 have w1:=Int.mul_le_mul_of_nonneg_right va.1 (show 0≤c.2 by omega)
 have w2:=Int.mul_le_mul_of_nonneg_right va.2 (show 0≤c.2 by omega)
 have w3:=Int.mul_le_mul_of_nonneg_right vc.1 (show 0≤a.2 by omega)
 have w4:=Int.mul_le_mul_of_nonneg_right vc.2 (show 0≤a.2 by omega)
 have fi:=zou (v:=v) (g:=g) (x:=a.1 * c.2) (y:=c.1 * a.2) (N:=a.2 * c.2) (n:=n) hg hN n2 (by grind) (by grind) (by grind) (by grind)
 have np:(1:Int)≤(a.2 * c.2) ^ (n.toNat - 1):=Int.pow_pos (by omega)
 refine⟨(a.2 * c.2) ^ (n.toNat - 1) * d1,fun k=>hs n.toNat (a.1 * c.2) (c.1 * a.2) * n1 k,Int.mul_pos (by omega) (by omega),fun k hk=>?_,?_⟩
 ·obtain⟨x1,x2⟩:=b1 k hk
  exact ziF hg np p1 fi.1 fi.2 x1 x2
 ·rw[zlc]
  generalize zaK q (fun k=>n1 k * s k)=S1 at e1
  have hm:=zet (a.1 * c.2) (c.1 * a.2) n.toNat
  rw[Int.mul_pow,Int.mul_pow] at hm
  obtain⟨m,hm'⟩:∃m,n.toNat=m + 1:=⟨n.toNat - 1,by omega⟩
  have eN:a.2 ^ n.toNat * c.2 ^ n.toNat=(a.2 * c.2) ^ (n.toNat - 1) * (a.2 * c.2):=by
   rw[← Int.mul_pow,hm',Nat.add_sub_cancel,Int.pow_succ]
  try dsimp only
  rw[eN]
  generalize (a.2 * c.2) ^ (n.toNat - 1)=M at *
  generalize hs n.toNat (a.1 * c.2) (c.1 * a.2)=P at *
  generalize a.1 ^ n.toNat * c.2 ^ n.toNat=u1 at *
  generalize c.1 ^ n.toNat * a.2 ^ n.toNat=u2 at *
  rw[← hm]
  have k1:=congrArg (fun z=>z * (P * M)) e1
  try dsimp only at k1
  clear b1 w1 w2 w3 w4 fi va vc eN hm e1
  grind
theorem zjG {U:Int}{q:Nat}{s:Nat→Int}{f l:Int×Int}{r t:Nat→Int×Int}(h:Dif U q s f l r)(e:∀k,k < q→r k=t k):Dif U q s f l t:=by
 obtain⟨d,n,p,b,i⟩:=h
 exact⟨d,n,p,fun k hk=>by rw[← e k hk]; exact b k hk,i⟩
theorem zjE (s:Nat→Int):∀q,zaK q (fun k=>0 * s k)=0
 | 0=>rfl
 | q + 1=>by
  show zaK q _ + 0 * s q=0
  rw[zjE s q]
  omega
theorem zlh (a:Int)(s:Nat→Int)(j:Int):∀q:Nat,zaK q (fun (l:Nat)=>(if (l:Int)=j then a else 0) * s l)=if 0≤j∧j < (q:Int) then a * s j.toNat else 0
 | 0=>by
  rw[if_neg (fun z=>by have:=z.1; have:=z.2; omega)]
  rfl
 | q + 1=>by
  show zaK q _ + (if (q:Int)=j then a else 0) * s q=_
  rw[zlh a s j q]
  by_cases e:(q:Int)=j
  ·subst e
   rw[if_pos rfl,if_neg (fun z=>by have:=z.2; omega),if_pos ⟨by omega,by omega⟩,Int.toNat_natCast]
   omega
  ·rw[if_neg e,Int.zero_mul,Int.add_zero]
   by_cases c:0≤j∧j < (q:Int)
   ·rw[if_pos c,if_pos ⟨c.1,by have:=c.2; omega⟩]
   ·rw[if_neg c,if_neg (fun z=>c ⟨z.1,by have:=z.2; omega⟩)]
theorem zlR {U:Int}{q:Nat}{s:Nat→Int}(f:Int×Int):Dif U q s f f (fun _=>(0,0)):=by
 refine⟨1,fun _=>0,by decide,fun k hk=>by dsimp only; omega,?_⟩
 rw[zjE]
 grind
theorem zp4 {sl:List (List (Int×Int))}{r:List (Int×Int)}{i:Int}{l:Nat}(h:inR sl.length i):gs (sl++[r]) i l=gs sl i l:=by
 have:=h.1
 have:=h.2
 unfold gs
 rw[List.getD_eq_getElem?_getD (l:=sl++[r]),List.getD_eq_getElem?_getD (l:=sl),List.getElem?_append_left (by omega)]
theorem zmh {sl:List (List (Int×Int))}{r:List (Int×Int)}{k l:Nat}(h:sl.length=k):gs (sl++[r]) (k:Int) l=r.getD l (0,0):=by
 unfold gs
 rw[Int.toNat_natCast,List.getD_eq_getElem?_getD (l:=sl++[r]),← h,List.getElem?_append_right (Nat.le_refl _),Nat.sub_self]
 rfl
theorem zmu {vs:List (Int×Int)}{sl:List (List (Int×Int))}{g:Int}{q l:Nat}{v:Nd}(h:l < q):(zaX vs sl g q v).getD l (0,0)=v.sl vs sl g l:=by
 unfold zaX
 rw[List.getD_eq_getElem?_getD,List.getElem?_map,show (List.range q)[l]?=some l from List.getElem?_range h]
 rfl
theorem zmN {q:Nat}{ns:List Nd}{ws:List Nat}{bs ps rs:List (Int×Int)}{g U:Int}{s:Nat→Int}(h:zaz q ns ws)(hb:q=bs.length)(hp:q=ps.length)(hr:q=rs.length)(hg:1≤g)(ip:InW g bs ps)(ir:InW g bs rs)(zp:Pz 110 ps)(zr:Pz 110 rs)
  (un:∀j:Int,inR q j→Dif U q s (gt ps j) (gt rs j) (fun l=>if (l:Int)=j then (g,g) else (0,0))):
  ∀k:Nat,k≤ns.length→∀i:Int,inR k i→Dif U q s (gt (zai ps (ns.take k)) i) (gt (zai rs (ns.take k)) i) (fun l=>gs (zau (zae bs g ns) g q (ns.take k)) i l):=by
 intro k
 induction k with
 | zero=>intro _ i hi; exact absurd hi.2 (by have:=hi.1; omega)
 | succ k ih=>
  intro hk i hi
  have hv:ns[k]?=some ns[k]:=List.getElem?_eq_getElem (by omega)
  obtain⟨ok,_⟩:=h.ok k _ hv
  have l1:(zai ps (ns.take k)).length=k:=by rw[zbR,List.length_take]; omega
  have l2:(zai rs (ns.take k)).length=k:=by rw[zbR,List.length_take]; omega
  have l3:(zau (zae bs g ns) g q (ns.take k)).length=k:=by rw[zcU,List.length_take]; omega
  rw[zbr hv,zcF,zcF,zgA]
  by_cases c:i < k
  ·rw[zdi (by rw[l1]; exact⟨hi.1,c⟩),zdi (by rw[l2]; exact⟨hi.1,c⟩)]
   exact zjG (ih (by omega) i ⟨hi.1,c⟩) fun l _=>(zp4 (by rw[l3]; exact⟨hi.1,c⟩)).symm
  ·have e:i=k:=by have:=hi.2; omega
   subst e
   rw[zc4 l1,zc4 l2]
   have w16:∀j:Nat,j < (zai ps (ns.take k)).length→ws.getD j 0≤16:=fun j hj=>(h.w1 (i:=j) ⟨by omega,by omega⟩).2
   have w16':∀j:Nat,j < (zai rs (ns.take k)).length→ws.getD j 0≤16:=fun j hj=>(h.w1 (i:=j) ⟨by omega,by omega⟩).2
   have p1:Pz 1800 (zai ps (ns.take k)):=Pz.of_w (zfx h (by rw[hp]) zp k (by omega)) w16
   have p2:Pz 1800 (zai rs (ns.take k)):=Pz.of_w (zfx h (by rw[hr]) zr k (by omega)) w16'
   have i1:=zi2 h (by rw[hb]) (by rw[hp]) hg ip zp k (by omega)
   have i2:=zi2 h (by rw[hb]) (by rw[hr]) hg ir zr k (by omega)
   have ev:∀j:Int,inR k j→gt (zae bs g (ns.take k)) j=gt (zae bs g ns) j:=fun j hj=>by
    rw[← zpm bs g ns k (by omega)]
    exact zrs hj
   have in1:∀j:Int,inR k j→(gt (zae bs g ns) j).1 * (gt (zai ps (ns.take k)) j).2≤(gt (zai ps (ns.take k)) j).1 * g∧(gt (zai ps (ns.take k)) j).1 * g≤(gt (zae bs g ns) j).2 * (gt (zai ps (ns.take k)) j).2:=fun j hj=>by
    rw[← ev j hj]
    exact i1 j (by rw[l1]; exact hj)
   have in2:∀j:Int,inR k j→(gt (zae bs g ns) j).1 * (gt (zai rs (ns.take k)) j).2≤(gt (zai rs (ns.take k)) j).1 * g∧(gt (zai rs (ns.take k)) j).1 * g≤(gt (zae bs g ns) j).2 * (gt (zai rs (ns.take k)) j).2:=fun j hj=>by
    rw[← ev j hj]
    exact i2 j (by rw[l2]; exact hj)
   have q1:∀j:Int,inR k j→1≤(gt (zai ps (ns.take k)) j).2:=fun j hj=>(p1.at (by rw[l1]; exact hj)).1
   have q2:∀j:Int,inR k j→1≤(gt (zai rs (ns.take k)) j).2:=fun j hj=>(p2.at (by rw[l2]; exact hj)).1
   have ih':=ih (by omega)
   have row:∀l,l < q→(ns[k]).sl (zae bs g ns) (zau (zae bs g ns) g q (ns.take k)) g l=gs (zau (zae bs g ns) g q (ns.take k)++[zaX (zae bs g ns) (zau (zae bs g ns) g q (ns.take k)) g q ns[k]]) (k:Int) l:=fun l hl=>by
    rw[zmh l3,zmu hl]
   refine zjG (r:=fun l=>(ns[k]).sl (zae bs g ns) (zau (zae bs g ns) g q (ns.take k)) g l) ?_ row
   clear row hv
   generalize ns[k]=v at ok
   cases v with
   | number t b=>exact zlR (t,b)
   | unknown j=>exact un j ok
   | plus a b=>exact zpt (ih' a ok.1) (ih' b ok.2)
   | minus a b=>exact znz (ih' a ok.1) (ih' b ok.2)
   | times a b=>exact zqK hg (ih' a ok.1) (ih' b ok.2) (q1 a ok.1) (q2 b ok.2) (in1 a ok.1) (in2 b ok.2)
   | power a n=>exact zmW hg ok.2.1 (ih' a ok.1) (q1 a ok.1) (q2 a ok.1) (in1 a ok.1) (in2 a ok.1)
theorem zmo {f g:Nat→Int}:∀q,(∀k,k < q→f k≤g k)→zaK q f≤zaK q g
 | 0,_=>Int.le_refl _
 | q + 1,h=>Int.add_le_add (zmo q fun k hk=>h k (by omega)) (h q (by omega))
def In (p:Int×Int)(x:Rat):Prop:=(p.1:Rat)≤x∧x≤(p.2:Rat)
theorem zhp {a b g:Rat}(hg:0 < g)(h:g * a≤g * b):a≤b:=by
 by_cases c:a≤b
 ·exact c
 ·have d:b < a:=Rat.not_le.mp c
  have z:=Rat.mul_pos hg (show 0 < a - b by grind)
  grind
theorem zd2 {a b:Int}(h:a≤b):(a:Rat)≤(b:Rat):=Rat.intCast_le_intCast.mpr h
theorem In.add {p q:Int×Int}{x y:Rat}(h1:In p x)(h2:In q y):In (zgk p q) (x + y):=by
 obtain⟨a,b⟩:=h1
 obtain⟨c,d⟩:=h2
 refine⟨?_,?_⟩
 ·show ((p.1 + q.1:Int):Rat)≤_
  rw[Rat.intCast_add]; grind
 ·show _≤((p.2 + q.2:Int):Rat)
  rw[Rat.intCast_add]; grind
theorem In.take {p q:Int×Int}{x y:Rat}(h1:In p x)(h2:In q y):In (zbZ p q) (x - y):=by
 obtain⟨a,b⟩:=h1
 obtain⟨c,d⟩:=h2
 refine⟨?_,?_⟩
 ·show ((p.1 - q.2:Int):Rat)≤_
  rw[Rat.intCast_sub]; grind
 ·show _≤((p.2 - q.1:Int):Rat)
  rw[Rat.intCast_sub]; grind
theorem zoy {A B C D x y:Rat}(h1:A≤x)(h2:x≤B)(h3:C≤y)(h4:y≤D):(A * C≤x * y∨A * D≤x * y∨B * C≤x * y∨B * D≤x * y)∧(x * y≤A * C∨x * y≤A * D∨x * y≤B * C∨x * y≤B * D):=by
 have m:∀ {u v:Rat},0≤u→0≤v→0≤u * v:=fun a b=>Rat.mul_nonneg a b
 rcases Rat.le_total (a:=0) (b:=y) with hy | hy
 ·have a1:=m (show 0≤x - A by grind) hy
  have a2:=m (show 0≤B - x by grind) hy
  refine⟨?_,?_⟩
  ·rcases Rat.le_total (a:=0) (b:=A) with hA | hA
   ·have:=m hA (show 0≤y - C by grind)
    exact .inl (by grind)
   ·have:=m (show 0≤-A by grind) (show 0≤D - y by grind)
    exact .inr (.inl (by grind))
  ·rcases Rat.le_total (a:=0) (b:=B) with hB | hB
   ·have:=m hB (show 0≤D - y by grind)
    exact .inr (.inr (.inr (by grind)))
   ·have:=m (show 0≤-B by grind) (show 0≤y - C by grind)
    exact .inr (.inr (.inl (by grind)))
 ·have a1:=m (show 0≤x - A by grind) (show 0≤-y by grind)
  have a2:=m (show 0≤B - x by grind) (show 0≤-y by grind)
  refine⟨?_,?_⟩
  ·rcases Rat.le_total (a:=0) (b:=B) with hB | hB
   ·have:=m hB (show 0≤y - C by grind)
    exact .inr (.inr (.inl (by grind)))
   ·have:=m (show 0≤-B by grind) (show 0≤D - y by grind)
    exact .inr (.inr (.inr (by grind)))
  ·rcases Rat.le_total (a:=0) (b:=A) with hA | hA
   ·have:=m hA (show 0≤D - y by grind)
    exact .inr (.inl (by grind))
   ·have:=m (show 0≤-A by grind) (show 0≤y - C by grind)
    exact .inl (by grind)
theorem In.mul {p q:Int×Int}{x y:Rat}{g:Int}(hg:1≤g)(h1:In p x)(h2:In q y):In (zaG p q g) (x * y / (g:Rat)):=by
 have gp:(0:Rat) < (g:Rat):=Rat.intCast_pos.mpr (by omega)
 have ge:(g:Rat) * (x * y / (g:Rat))=x * y:=by grind
 have c:=zoy h1.1 h1.2 h2.1 h2.2
 have lo:((mn4 p.1 p.2 q.1 q.2:Int):Rat)≤x * y:=by
  have t:∀u:Int,mn4 p.1 p.2 q.1 q.2≤u→((mn4 p.1 p.2 q.1 q.2:Int):Rat)≤(u:Rat):=fun u h=>zd2 h
  have e1:=t (p.1 * q.1) (by unfold mn4; omega)
  have e2:=t (p.1 * q.2) (by unfold mn4; omega)
  have e3:=t (p.2 * q.1) (by unfold mn4; omega)
  have e4:=t (p.2 * q.2) (by unfold mn4; omega)
  rw[Rat.intCast_mul] at e1 e2 e3 e4
  rcases c.1 with z | z | z | z <;> grind
 have hi:x * y≤((mx4 p.1 p.2 q.1 q.2:Int):Rat):=by
  have t:∀u:Int,u≤mx4 p.1 p.2 q.1 q.2→(u:Rat)≤((mx4 p.1 p.2 q.1 q.2:Int):Rat):=fun u h=>zd2 h
  have e1:=t (p.1 * q.1) (by unfold mx4; omega)
  have e2:=t (p.1 * q.2) (by unfold mx4; omega)
  have e3:=t (p.2 * q.1) (by unfold mx4; omega)
  have e4:=t (p.2 * q.2) (by unfold mx4; omega)
  rw[Rat.intCast_mul] at e1 e2 e3 e4
  rcases c.2 with z | z | z | z <;> grind
 refine⟨zhp gp ?_,zhp gp ?_⟩
 ·have z:=zd2 (zdU (mn4 p.1 p.2 q.1 q.2) (show 0 < g by omega)).1
  rw[Rat.intCast_mul] at z
  rw[ge]
  show (g:Rat) * ((mn4 p.1 p.2 q.1 q.2 / g:Int):Rat)≤_
  grind
 ·have z:=zd2 (zhf (mx4 p.1 p.2 q.1 q.2) (show 0 < g by omega)).1
  rw[Rat.intCast_mul] at z
  rw[ge]
  show _≤(g:Rat) * ((-(-mx4 p.1 p.2 q.1 q.2 / g):Int):Rat)
  grind
def zav:Nat→(Nat→Rat)→Rat
 | 0,_=>0
 | k + 1,f=>zav k f + f k
theorem In.sum {g:Int}(hg:1≤g){us vs:List (Int×Int)}{a b:Nat→Rat}(h1:∀(j:Nat) (p:Int×Int),us[j]?=some p→In p (a j))(h2:∀(j:Nat) (p:Int×Int),vs[j]?=some p→In p (b j)):∀k:Nat,k≤us.length→k≤vs.length→In (sumP g (us.take k) (vs.take k)) (zav k fun j=>a j * b j / (g:Rat))
 | 0,_,_=>⟨Rat.le_refl,Rat.le_refl⟩
 | k + 1,l1,l2=>by
  have hu:=List.getElem?_eq_getElem (show k < us.length by omega)
  have hv:=List.getElem?_eq_getElem (show k < vs.length by omega)
  rw[ziP g us vs k hu hv]
  exact(In.sum hg h1 h2 k (by omega) (by omega)).add ((h1 k _ hu).mul hg (h2 k _ hv))
theorem In.sumP {g:Int}(hg:1≤g){us vs:List (Int×Int)}{a b:Nat→Rat}{n:Nat}(l1:us.length=n)(l2:vs.length=n)(h1:∀(j:Nat) (p:Int×Int),us[j]?=some p→In p (a j))(h2:∀(j:Nat) (p:Int×Int),vs[j]?=some p→In p (b j)):In (sumP g us vs) (zav n fun j=>a j * b j / (g:Rat)):=by
 have z:=In.sum hg h1 h2 n (by omega) (by omega)
 rw[List.take_of_length_le (by omega),List.take_of_length_le (by omega)] at z
 exact z
theorem zc0 {f h:Nat→Rat}:∀n,(∀k,k < n→f k=h k)→zav n f=zav n h
 | 0,_=>rfl
 | n + 1,e=>by
  show zav n f + f n=zav n h + h n
  rw[zc0 n fun k hk=>e k (by omega),e n (by omega)]
theorem zfg (a:Rat)(f:Nat→Rat):∀n,zav n (fun k=>a * f k)=a * zav n f
 | 0=>by show (0:Rat)=a * 0; grind
 | n + 1=>by
  show zav n _ + _=a * (zav n f + f n)
  rw[zfg a f n]
  grind
theorem zjf (f h:Nat→Rat):∀n,zav n (fun k=>f k + h k)=zav n f + zav n h
 | 0=>by show (0:Rat)=0 + 0; grind
 | n + 1=>by
  show zav n _ + _=(zav n f + f n) + (zav n h + h n)
  rw[zjf f h n]
  grind
theorem zlp (f:Nat→Nat→Rat)(m:Nat):∀n,zav n (fun k=>zav m fun j=>f k j)=zav m fun j=>zav n fun k=>f k j
 | 0=>by
  show (0:Rat)=zav m fun _=>0
  have z:∀m,zav m (fun _=>(0:Rat))=0:=fun m=>by
   induction m with
   | zero=>rfl
   | succ m ih=>show zav m _ + 0=0; rw[ih]; grind
  rw[z]
 | n + 1=>by
  show zav n _ + zav m (fun j=>f n j)=zav m fun j=>zav n (fun k=>f k j) + f n j
  rw[zlp f m n,← zjf]
theorem zj5 (k:Nat)(w:Nat→Rat):∀n,zav n (fun l=>(if k=l then 1 else 0) * w l)=if k < n then w k else 0
 | 0=>rfl
 | n + 1=>by
  show zav n _ + _=_
  rw[zj5 k w n]
  by_cases c:k=n
  ·subst c
   rw[if_neg (by omega),if_pos (by omega)]
   simp
   grind
  ·by_cases d:k < n
   ·rw[if_pos d,if_pos (by omega)]
    simp[c]
    grind
   ·rw[if_neg d,if_neg (by omega)]
    simp[c]
    grind
theorem zqR {g m:Rat}(hg:g≠0){q e:Nat}{k:Nat}(hk:k < q)(T y w:Nat→Rat)(s:Nat→Nat→Rat)(rel:∀j,j < e→y j * g=-(zav q fun l=>s j l * w l)):
  m - (zav e fun j=>T j * y j / g) + (zav q fun l=>((if k=l then g else 0) - zav e fun j=>T j * s j l / g) * w l / g)=m + w k:=by
 have h1:(zav e fun j=>T j * y j / g)=zav e fun j=>-(zav q fun l=>T j * s j l * w l / (g * g)):=by
  refine zc0 e fun j hj=>?_
  have r:=rel j hj
  have c:(zav q fun l=>T j * s j l * w l / (g * g))=T j / (g * g) * zav q fun l=>s j l * w l:=by
   rw[← zfg]
   exact zc0 q fun l _=>by grind
  rw[c]
  generalize zav q (fun l=>s j l * w l)=A at r
  have e1:y j=-A / g:=by grind
  rw[e1]
  grind
 have h2:(zav q fun l=>((if k=l then g else 0) - zav e fun j=>T j * s j l / g) * w l / g)=w k + zav q fun l=>-(zav e fun j=>T j * s j l * w l / (g * g)):=by
  have d:=zj5 k w q
  rw[if_pos hk] at d
  rw[← d,← zjf]
  refine zc0 q fun l _=>?_
  have c:(zav e fun j=>T j * s j l * w l / (g * g))=w l / (g * g) * g * zav e fun j=>T j * s j l / g:=by
   rw[← zfg]
   exact zc0 e fun j _=>by grind
  rw[c]
  by_cases x:k=l
  ·rw[if_pos x,if_pos x]; grind
  ·rw[if_neg x,if_neg x]; grind
 have n1:∀(n:Nat) (f:Nat→Rat),(zav n fun j=>-(f j))=-(zav n f):=fun n f=>by
  have z:=zfg (-1) f n
  have z2:(zav n fun j=>-(f j))=zav n fun j=>-1 * f j:=zc0 n fun j _=>by grind
  rw[z2,z]
  grind
 rw[h1,h2,n1,n1,zlp (fun j l=>T j * s j l * w l / (g * g)) q e]
 grind
theorem zjz {a b:Int}{x:Int}(hb:1≤b)(h:x * b≤a):(x:Rat)≤(a:Rat) / (b:Rat):=by
 have bp:(0:Rat) < (b:Rat):=Rat.intCast_pos.mpr (by omega)
 refine zhp bp ?_
 have z:=zd2 h
 rw[Rat.intCast_mul] at z
 have e:(b:Rat) * ((a:Rat) / (b:Rat))=(a:Rat):=by grind
 rw[e,Rat.mul_comm]
 exact z
theorem zi5 {a b:Int}{x:Int}(hb:1≤b)(h:a≤x * b):(a:Rat) / (b:Rat)≤(x:Rat):=by
 have bp:(0:Rat) < (b:Rat):=Rat.intCast_pos.mpr (by omega)
 refine zhp bp ?_
 have z:=zd2 h
 rw[Rat.intCast_mul] at z
 have e:(b:Rat) * ((a:Rat) / (b:Rat))=(a:Rat):=by grind
 rw[e,Rat.mul_comm]
 exact z
theorem zmc {x t W:Int}(hW:1≤W)(h:(x:Rat)≤(t:Rat) / (W:Rat)):x * W≤t:=by
 have Wq:(0:Rat) < (W:Rat):=Rat.intCast_pos.mpr (by omega)
 have e:(W:Rat) * ((t:Rat) / (W:Rat))=(t:Rat):=by grind
 have z:=Rat.mul_nonneg (show 0≤(t:Rat) / (W:Rat) - (x:Rat) by grind) (show (0:Rat)≤(W:Rat) by grind)
 refine Rat.intCast_le_intCast.mp ?_
 rw[Rat.intCast_mul]
 generalize (t:Rat) / (W:Rat)=u at *
 grind
theorem zqA {x t W:Int}(hW:1≤W)(h:(t:Rat) / (W:Rat)≤(x:Rat)):t≤x * W:=by
 have Wq:(0:Rat) < (W:Rat):=Rat.intCast_pos.mpr (by omega)
 have e:(W:Rat) * ((t:Rat) / (W:Rat))=(t:Rat):=by grind
 have z:=Rat.mul_nonneg (show 0≤(x:Rat) - (t:Rat) / (W:Rat) by grind) (show (0:Rat)≤(W:Rat) by grind)
 refine Rat.intCast_le_intCast.mp ?_
 rw[Rat.intCast_mul]
 generalize (t:Rat) / (W:Rat)=u at *
 grind
theorem zkO (f:Nat→Int):∀n,((zaK n f:Int):Rat)=zav n fun k=>(f k:Rat)
 | 0=>rfl
 | n + 1=>by
  show ((zaK n f + f n:Int):Rat)=zav n (fun k=>(f k:Rat)) + (f n:Rat)
  rw[Rat.intCast_add,zkO f n]
theorem znV {t u g W:Int}{q:Nat}{s:Nat→Int}{j:Int}(hj:inR q j)(hs:s j.toNat=t - u * W):Dif (g * g * W) q s (t,g * W) (u * W,g * W) (fun l=>if (l:Int)=j then (g,g) else (0,0)):=by
 refine⟨1,fun l=>if (l:Int)=j then g else 0,by decide,fun k hk=>?_,?_⟩
 ·by_cases e:(k:Int)=j
  ·simp only[if_pos e]
   omega
  ·simp only[if_neg e]
   omega
 ·rw[zlh,if_pos (show 0≤j∧j < (q:Int) from hj),hs]
  try dsimp only
  grind
theorem zkt {bs:List (Int×Int)}(f:Int×Int→Int×Int){i:Int}(h:inR bs.length i):gt (bs.map f) i=f (gt bs i):=by
 have h0:=h.1
 have h1:=h.2
 have hk:i.toNat < bs.length:=by omega
 unfold gt
 simp[hk]
theorem zn6 {q:Nat}{ns:List Nd}{ws:List Nat}{bs P:List (Int×Int)}{g W:Int}(net:zaz q ns ws)(hb:q=bs.length)(hp:q=P.length)(sb:Spn 51 bs)(hg:1≤g∧g≤1000000)(hW:1≤W∧W≤60)(ip:InW g bs P)(zp:Pz 110 P)(pt:∀j:Int,inR q j→(gt P j).2=g * W)
  {is:List Nat}(his:∀i∈is,i < ns.length)(zero:∀i∈is,(gt (zai P ns) (i:Int)).1=0){k:Nat}(hk:k < q){es:List Int}(hes:es.length=is.length):
  (za1 g bs (is.map fun (i:Nat)=>gt (zae (bs.map zax) g ns) i) (is.map fun (i:Nat)=>(zau (zae bs g ns) g bs.length ns).getD i []) k es).1 * (gt P k).2≤(gt P k).1 * g∧(gt P k).1 * g≤(za1 g bs (is.map fun (i:Nat)=>gt (zae (bs.map zax) g ns) i) (is.map fun (i:Nat)=>(zau (zae bs g ns) g bs.length ns).getD i []) k es).2 * (gt P k).2:=by
 have gW:1≤g * W:=Int.mul_pos (by omega) (by omega)
 have gq:(0:Rat) < (g:Rat):=Rat.intCast_pos.mpr (by omega)
 have Wq:(0:Rat) < (W:Rat):=Rat.intCast_pos.mpr (by omega)
 -- the middles as a point
 have gC:∀j:Int,inR q j→gt (bs.map fun p=>(mid p * W,g * W)) j=(mid (gt bs j) * W,g * W):=fun j hj=>zkt _ (by rw[← hb]; exact hj)
 have lC:(bs.map fun p=>(mid p * W,g * W)).length=q:=by rw[List.length_map,hb]
 have mi:∀j:Int,inR q j→(gt bs j).1≤mid (gt bs j)∧mid (gt bs j)≤(gt bs j).2:=fun j hj=>zlB (sb.at (by rw[← hb]; exact hj)).1
 have mulle:∀ {x y:Int},x≤y→x * (g * W)≤y * W * g:=fun {x y} h=>by
  have z:=Int.mul_le_mul_of_nonneg_right h (show 0≤g * W by omega)
  have e:y * W * g=y * (g * W):=by grind
  omega
 have mulge:∀ {x y:Int},x≤y→x * W * g≤y * (g * W):=fun {x y} h=>by
  have z:=Int.mul_le_mul_of_nonneg_right h (show 0≤g * W by omega)
  have e:x * W * g=x * (g * W):=by grind
  omega
 have iC:InW g bs (bs.map fun p=>(mid p * W,g * W)):=fun j hj=>by
  rw[lC] at hj
  rw[gC j hj]
  exact⟨mulle (mi j hj).1,mulge (mi j hj).2⟩
 have iM:InW g (bs.map zax) (bs.map fun p=>(mid p * W,g * W)):=fun j hj=>by
  rw[lC] at hj
  rw[gC j hj,zkt zax (by rw[← hb]; exact hj)]
  exact⟨mulle (Int.le_refl _),mulge (Int.le_refl _)⟩
 have zC:Pz 110 (bs.map fun p=>(mid p * W,g * W)):=fun p hp'=>by
  obtain⟨x,hx,rfl⟩:=List.mem_map.mp hp'
  have b:=sb x hx
  have sm:Sz 52 (mid x):=zg0 b.2.1 b.2.2
  have sw:Sz 7 W:=Sz.of 60 (by omega)
  have sg:Sz 21 g:=Sz.of 1000000 (by omega)
  exact⟨gW,(sm.mul sw).mono (by decide),(sg.mul sw).mono (by decide)⟩
 -- differences
 have un:∀j:Int,inR q j→Dif (g * g * W) q (fun l=>(gt P (l:Int)).1 - mid (gt bs (l:Int)) * W) (gt P j) (gt (bs.map fun p=>(mid p * W,g * W)) j) (fun l=>if (l:Int)=j then (g,g) else (0,0)):=fun j hj=>by
  rw[gC j hj]
  have e:gt P j=((gt P j).1,g * W):=by rw[← pt j hj]
  rw[e]
  have ej:((j.toNat:Nat):Int)=j:=by have:=hj.1; omega
  refine znV hj ?_
  show (gt P ((j.toNat:Nat):Int)).1 - mid (gt bs ((j.toNat:Nat):Int)) * W=_
  rw[ej]
 have dif:=zmN (s:=fun l=>(gt P (l:Int)).1 - mid (gt bs (l:Int)) * W) (U:=g * g * W) net hb hp (by rw[lC]) hg.1 ip iC zp zC un ns.length (Nat.le_refl _)
 rw[List.take_length] at dif
 have thin:=zi2 net (bs:=bs.map zax) (by rw[List.length_map,hb]) (by rw[lC]) hg.1 iM zC ns.length (Nat.le_refl _)
 rw[List.take_length] at thin
 have w16:∀j:Nat,j < ns.length→ws.getD j 0≤16:=fun j hj=>(net.w1 (i:=j) ⟨by omega,by omega⟩).2
 have pzC:Pz 1800 (zai (bs.map fun p=>(mid p * W,g * W)) ns):=by
  have z:=zfx net (by rw[lC]) zC ns.length (Nat.le_refl _)
  rw[List.take_length] at z
  exact Pz.of_w z fun j hj=>w16 j (by rw[zbR] at hj; exact hj)
 have pzP:Pz 1800 (zai P ns):=by
  have z:=zfx net (by rw[hp]) zp ns.length (Nat.le_refl _)
  rw[List.take_length] at z
  exact Pz.of_w z fun j hj=>w16 j (by rw[zbR] at hj; exact hj)
 -- the numbers of the slopes
 have ex:∀j:Nat,∃dn:Int×(Nat→Int),∀i,is[j]?=some i→1≤dn.1∧(∀l,l < q→(gs (zau (zae bs g ns) g q ns) (i:Int) l).1 * dn.1≤dn.2 l∧dn.2 l≤(gs (zau (zae bs g ns) g q ns) (i:Int) l).2 * dn.1)∧((gt (zai P ns) (i:Int)).1 * (gt (zai (bs.map fun p=>(mid p * W,g * W)) ns) (i:Int)).2 - (gt (zai (bs.map fun p=>(mid p * W,g * W)) ns) (i:Int)).1 * (gt (zai P ns) (i:Int)).2) * (g * g * W) * dn.1=(gt (zai P ns) (i:Int)).2 * (gt (zai (bs.map fun p=>(mid p * W,g * W)) ns) (i:Int)).2 * zaK q (fun l=>dn.2 l * ((gt P (l:Int)).1 - mid (gt bs (l:Int)) * W)):=fun j=>by
  cases e:is[j]? with
  | none=>exact⟨(1,fun _=>0),fun i h=>by cases h⟩
  | some i=>
   have hi:=his i (List.mem_of_getElem? e)
   obtain⟨d,n,h1,h2,h3⟩:=dif (i:Int) ⟨by omega,by omega⟩
   exact⟨(d,n),fun i' h=>by cases h; exact⟨h1,h2,h3⟩⟩
 obtain⟨dn,hdn⟩:=Classical.skolem.mp ex
 -- the numbers themselves
 have yIn:∀(j:Nat) (p:Int×Int),(is.map fun (i:Nat)=>gt (zae (bs.map zax) g ns) i)[j]?=some p→In p (((gt (zai (bs.map fun p=>(mid p * W,g * W)) ns) ((is.getD j 0:Nat):Int)).1 * g:Int) / ((gt (zai (bs.map fun p=>(mid p * W,g * W)) ns) ((is.getD j 0:Nat):Int)).2:Rat)):=fun j p hj=>by
  rw[List.getElem?_map] at hj
  obtain⟨i,hi,rfl⟩:=Option.map_eq_some_iff.mp hj
  have e:is.getD j 0=i:=by rw[List.getD_eq_getElem?_getD,hi]; rfl
  rw[e]
  have him:=his i (List.mem_of_getElem? hi)
  have r:inR ((zai (bs.map fun p=>(mid p * W,g * W)) ns).length:Nat) (i:Int):=⟨by omega,by rw[zbR]; omega⟩
  have t:=thin (i:Int) r
  have z:=(pzC.at r).1
  exact⟨zjz z t.1,zi5 z t.2⟩
 have sIn:∀c:Nat,c < q→∀(j:Nat) (p:Int×Int),((is.map fun (i:Nat)=>(zau (zae bs g ns) g bs.length ns).getD i []).map fun r=>r.getD c (0,0))[j]?=some p→In p (((dn j).2 c:Rat) / ((dn j).1:Rat)):=fun c hc j p hj=>by
  rw[List.getElem?_map,List.getElem?_map] at hj
  cases e:is[j]? with
  | none=>rw[e] at hj; cases hj
  | some i=>
   rw[e] at hj
   cases hj
   obtain⟨h1,h2,_⟩:=hdn j i e
   obtain⟨h3,h4⟩:=h2 c hc
   rw[← hb]
   have z1:(gs (zau (zae bs g ns) g q ns) (i:Int) c)=((zau (zae bs g ns) g q ns).getD i []).getD c (0,0):=by
    unfold gs
    rw[Int.toNat_natCast]
   rw[z1] at h3 h4
   exact⟨zjz h1 h3,zi5 h1 h4⟩
 have tIn:∀(j:Nat) (p:Int×Int),(es.map fun e=>(e,e))[j]?=some p→In p ((es.getD j 0:Int):Rat):=fun j p hj=>by
  rw[List.getElem?_map] at hj
  obtain⟨x,hx,rfl⟩:=Option.map_eq_some_iff.mp hj
  have e:es.getD j 0=x:=by rw[List.getD_eq_getElem?_getD,hx]; rfl
  rw[e]
  exact⟨Rat.le_refl,Rat.le_refl⟩
 have lIn:∀(c:Nat) (p:Int×Int),((List.range bs.length).map fun c=>zbt g k c (es.map fun e=>(e,e)) (is.map fun (i:Nat)=>(zau (zae bs g ns) g bs.length ns).getD i []))[c]?=some p→In p ((if k=c then (g:Rat) else 0) - zav is.length fun j=>((es.getD j 0:Int):Rat) * (((dn j).2 c:Rat) / ((dn j).1:Rat)) / (g:Rat)):=fun c p hc=>by
  have hl:=(List.getElem?_eq_some_iff.mp hc).1
  rw[List.length_map,List.length_range] at hl
  rw[List.getElem?_map,show (List.range bs.length)[c]?=some c from List.getElem?_range hl] at hc
  cases hc
  unfold zbt
  refine In.take ?_ (In.sumP hg.1 (n:=is.length) (by rw[List.length_map,hes]) (by rw[List.length_map,List.length_map]) tIn (sIn c (by omega)))
  by_cases x:k=c
  ·rw[if_pos x,if_pos x]
   exact⟨Rat.le_refl,Rat.le_refl⟩
  ·rw[if_neg x,if_neg x]
   exact⟨Rat.le_refl,Rat.le_refl⟩
 have xIn:∀l:Int,inR q l→In (gt bs l) (((gt P l).1:Rat) / (W:Rat)):=fun l hl=>by
  have z:=ip l (by rw[← hp]; exact hl)
  rw[pt l hl] at z
  have c1:(gt bs l).1 * W * g≤(gt P l).1 * g:=by
   have e:(gt bs l).1 * W * g=(gt bs l).1 * (g * W):=by grind
   omega
  have c2:(gt P l).1 * g≤(gt bs l).2 * W * g:=by
   have e:(gt bs l).2 * W * g=(gt bs l).2 * (g * W):=by grind
   omega
  exact⟨zjz hW.1 (Int.le_of_mul_le_mul_right c1 (by omega)),zi5 hW.1 (Int.le_of_mul_le_mul_right c2 (by omega))⟩
 have wIn:∀(l:Nat) (p:Int×Int),(bs.map fun p=>zbZ p (zax p))[l]?=some p→In p (((gt P (l:Int)).1:Rat) / (W:Rat) - ((mid (gt bs (l:Int)):Int):Rat)):=fun l p hl=>by
  rw[List.getElem?_map] at hl
  obtain⟨x,hx,rfl⟩:=Option.map_eq_some_iff.mp hl
  have hlt:=(List.getElem?_eq_some_iff.mp hx).1
  have e:gt bs (l:Int)=x:=zlu hx
  have z:=xIn (l:Int) ⟨by omega,by omega⟩
  rw[e] at z ⊢
  exact z.take ⟨Rat.le_refl,Rat.le_refl⟩
 have moved:In (zbZ (zax (gt bs (k:Int))) (sumP g (es.map fun e=>(e,e)) (is.map fun (i:Nat)=>gt (zae (bs.map zax) g ns) i))) (((mid (gt bs (k:Int)):Int):Rat) - zav is.length fun j=>((es.getD j 0:Int):Rat) * (((gt (zai (bs.map fun p=>(mid p * W,g * W)) ns) ((is.getD j 0:Nat):Int)).1 * g:Int) / ((gt (zai (bs.map fun p=>(mid p * W,g * W)) ns) ((is.getD j 0:Nat):Int)).2:Rat)) / (g:Rat)):=
  In.take ⟨Rat.le_refl,Rat.le_refl⟩ (In.sumP hg.1 (n:=is.length) (by rw[List.length_map,hes]) (by rw[List.length_map]) tIn yIn)
 have all:In (za1 g bs (is.map fun (i:Nat)=>gt (zae (bs.map zax) g ns) i) (is.map fun (i:Nat)=>(zau (zae bs g ns) g bs.length ns).getD i []) k es) _:=
  moved.add (In.sumP hg.1 (n:=q) (by rw[List.length_map,List.length_range,hb]) (by rw[List.length_map,hb]) lIn wIn)
 have rel:∀j,j < is.length→(((gt (zai (bs.map fun p=>(mid p * W,g * W)) ns) ((is.getD j 0:Nat):Int)).1 * g:Int) / ((gt (zai (bs.map fun p=>(mid p * W,g * W)) ns) ((is.getD j 0:Nat):Int)).2:Rat)) * (g:Rat)=-(zav q fun l=>((dn j).2 l:Rat) / ((dn j).1:Rat) * (((gt P (l:Int)).1:Rat) / (W:Rat) - ((mid (gt bs (l:Int)):Int):Rat))):=fun j hj=>by
  have e:=List.getElem?_eq_getElem hj
  have e0:is.getD j 0=is[j]:=by simp[hj]
  rw[e0]
  have him:=his _ (List.getElem_mem hj)
  obtain⟨d1,_,eq⟩:=hdn j _ e
  have z0:=zero _ (List.getElem_mem hj)
  have rP:inR ((zai P ns).length:Nat) ((is[j]:Nat):Int):=⟨by omega,by rw[zbR]; omega⟩
  have rC:inR ((zai (bs.map fun p=>(mid p * W,g * W)) ns).length:Nat) ((is[j]:Nat):Int):=⟨by omega,by rw[zbR]; omega⟩
  have p1:=(pzP.at rP).1
  have p2:=(pzC.at rC).1
  rw[z0] at eq
  generalize (gt (zai P ns) ((is[j]:Nat):Int)).2=f2 at eq p1
  generalize gt (zai (bs.map fun p=>(mid p * W,g * W)) ns) ((is[j]:Nat):Int)=L at eq p2
  have c0:=congrArg (fun (z:Int)=>(z:Rat)) eq
  have c2:((f2 * L.2 * zaK q (fun l=>(dn j).2 l * ((gt P (l:Int)).1 - mid (gt bs (l:Int)) * W)):Int):Rat)=(f2:Rat) * (L.2:Rat) * zav q fun l=>(((dn j).2 l * ((gt P (l:Int)).1 - mid (gt bs (l:Int)) * W):Int):Rat):=by rw[Rat.intCast_mul,Rat.intCast_mul,zkO]
  have c3:(((0 * L.2 - L.1 * f2) * (g * g * W) * (dn j).1:Int):Rat)=-((L.1:Rat) * (f2:Rat)) * ((g:Rat) * (g:Rat) * (W:Rat)) * ((dn j).1:Rat):=by
   rw[Int.zero_mul,Int.zero_sub]
   simp only[Rat.intCast_mul,Rat.intCast_neg]
  have c:=c3.symm.trans (c0.trans c2)
  clear c0 c2 c3
  have sm:(zav q fun l=>(((dn j).2 l * ((gt P (l:Int)).1 - mid (gt bs (l:Int)) * W):Int):Rat))=(W:Rat) * ((dn j).1:Rat) * zav q fun l=>((dn j).2 l:Rat) / ((dn j).1:Rat) * (((gt P (l:Int)).1:Rat) / (W:Rat) - ((mid (gt bs (l:Int)):Int):Rat)):=by
   rw[← zfg]
   refine zc0 q fun l _=>?_
   have dq:(0:Rat) < ((dn j).1:Rat):=Rat.intCast_pos.mpr (by omega)
   rw[Rat.intCast_mul,Rat.intCast_sub,Rat.intCast_mul]
   grind
  rw[sm] at c
  have f2q:(0:Rat) < (f2:Rat):=Rat.intCast_pos.mpr (by omega)
  have Lq:(0:Rat) < (L.2:Rat):=Rat.intCast_pos.mpr (by omega)
  have dq:(0:Rat) < ((dn j).1:Rat):=Rat.intCast_pos.mpr (by omega)
  generalize zav q (fun l=>((dn j).2 l:Rat) / ((dn j).1:Rat) * (((gt P (l:Int)).1:Rat) / (W:Rat) - ((mid (gt bs (l:Int)):Int):Rat)))=A at c
  rw[Rat.intCast_mul]
  generalize (f2:Rat)=F2 at *
  generalize (L.1:Rat)=L1 at *
  generalize (L.2:Rat)=L2 at *
  generalize ((dn j).1:Rat)=d at *
  generalize (g:Rat)=G at *
  generalize (W:Rat)=w at *
  clear eq sm
  have k1:F2 * (d * w) * (L2 * A + L1 * G * G)=0:=by grind
  have k2:F2 * (d * w)≠0:=by
   have:=Rat.mul_pos f2q (Rat.mul_pos dq Wq)
   grind
  have k3:L2 * A + L1 * G * G=0:=by
   rcases Rat.mul_eq_zero.mp k1 with z | z
   ·exact absurd z k2
   ·exact z
  grind
 rw[zqR (by grind) hk (fun j=>((es.getD j 0:Int):Rat)) (fun j=>((gt (zai (bs.map fun p=>(mid p * W,g * W)) ns) ((is.getD j 0:Nat):Int)).1 * g:Int) / ((gt (zai (bs.map fun p=>(mid p * W,g * W)) ns) ((is.getD j 0:Nat):Int)).2:Rat)) (fun l=>((gt P (l:Int)).1:Rat) / (W:Rat) - ((mid (gt bs (l:Int)):Int):Rat)) (fun j l=>((dn j).2 l:Rat) / ((dn j).1:Rat)) rel] at all
 have e1:((mid (gt bs (k:Int)):Int):Rat) + (((gt P (k:Int)).1:Rat) / (W:Rat) - ((mid (gt bs (k:Int)):Int):Rat))=((gt P (k:Int)).1:Rat) / (W:Rat):=by grind
 rw[e1] at all
 obtain⟨a1,a2⟩:=all
 rw[pt (k:Int) ⟨by omega,by omega⟩]
 have b1:=Int.mul_le_mul_of_nonneg_right (zmc hW.1 a1) (show 0≤g by omega)
 have b2:=Int.mul_le_mul_of_nonneg_right (zqA hW.1 a2) (show 0≤g by omega)
 generalize (za1 g bs (is.map fun (i:Nat)=>gt (zae (bs.map zax) g ns) i) (is.map fun (i:Nat)=>(zau (zae bs g ns) g bs.length ns).getD i []) k es)=Z at b1 b2
 constructor <;> grind
theorem zqm (xs:List D)(a b:Nat):(zaT xs (some (a:Int)) (some (b:Int))).length≤b - a:=by
 unfold L3.zaT
 rw[List.length_take,List.length_drop,HT.sIx_nat,HT.sIx_nat]
 omega
theorem zm9 (r:Bool×Nat):eqN 1 (rwD r) (rwD r)=some true:=by
 obtain⟨b,n⟩:=r
 cases b <;> simp[rwD,eqN,L3.eqT,eqL,eqF]
theorem zlz:∀rows:List (Bool×Nat),eqL (eqN 1) (rows.map rwD) (rows.map rwD)=some true
 | []=>rfl
 | r::rs=>by
  show (match eqN 1 (rwD r) (rwD r),eqL (eqN 1) (rs.map rwD) (rs.map rwD) with | some b,some c=>some (b && c) | _,_=>none)=_
  rw[zm9,zlz rs]
  rfl
theorem zjL:∀xs:List Int,eqL (eqN 1) (xs.map D.int) (xs.map D.int)=some true
 | []=>rfl
 | x::xs=>by
  show (match eqN 1 (D.int x) (D.int x),eqL (eqN 1) (xs.map D.int) (xs.map D.int) with | some b,some c=>some (b && c) | _,_=>none)=_
  rw[show eqN 1 (D.int x) (D.int x)=some true by simp[eqN,L3.eqT,eqF],zjL xs]
  rfl
theorem zq5 {ns:List Nd}{ws:List Nat}{bs:List (Int×Int)}{g:Int}{is:List Nat}(net:zaz bs.length ns ws)(sb:Spn 51 bs)(hg:1≤g∧g≤1000000)(hi:∀i∈is,i < ns.length):Bd 2000 (is.map fun (i:Nat)=>gt (zae (bs.map zax) g ns) i):=fun p hp=>by
 obtain⟨i,him,rfl⟩:=List.mem_map.mp hp
 have net2:zaz ((bs.map zax).length:Nat) ns ws:=by rw[List.length_map]; exact net
 have sp:=zhO net2 rfl (zi0 sb) hg ns.length (Nat.le_refl _)
 rw[List.take_length] at sp
 have z:=sp.at (i:=(i:Int)) ⟨by omega,by rw[zbB]; have:=hi i him; omega⟩
 exact⟨z.2.1.mono (by decide),z.2.2.mono (by decide)⟩
theorem zmE {ns:List Nd}{ws:List Nat}{bs:List (Int×Int)}{g:Int}{is:List Nat}(net:zaz bs.length ns ws)(sb:Spn 51 bs)(hg:1≤g∧g≤1000000)(hi:∀i∈is,i < ns.length):∀r∈(is.map fun (i:Nat)=>(zau (zae bs g ns) g bs.length ns).getD i []),r.length=bs.length∧Bd 1023 r:=fun r hr=>by
 have szw:=zjc net rfl sb hg
 have slw:SlW bs.length ws (zau (zae bs g ns) g bs.length ns):=by
  have z:=ziY net szw (zbB _ _ _) hg ns.length (Nat.le_refl _)
  rwa [List.take_length] at z
 obtain⟨i,him,rfl⟩:=List.mem_map.mp hr
 have hin:=hi i him
 have hl:i < (zau (zae bs g ns) g bs.length ns).length:=by rw[zcU]; exact hin
 have e:(zau (zae bs g ns) g bs.length ns).getD i []=(zau (zae bs g ns) g bs.length ns)[i]:=by simp[hl]
 obtain⟨z1,z2⟩:=slw i _ (List.getElem?_eq_getElem hl)
 rw[e]
 have w:=(net.w1 (i:=(i:Int)) ⟨by omega,by omega⟩).2
 rw[Int.toNat_natCast] at w
 exact⟨z1,fun p hp=>⟨(z2 p hp).2.1.mono (by omega),(z2 p hp).2.2.mono (by omega)⟩⟩
theorem zoo {ns:List Nd}{ws:List Nat}{bs:List (Int×Int)}{g:Int}{is:List Nat}(net:zaz bs.length ns ws)(sb:Spn 51 bs)(hg:1≤g∧g≤1000000)(hi:∀i∈is,i < ns.length):∀r∈(is.map fun (i:Nat)=>(zau (zae bs g ns) g bs.length ns).getD i []),r.length=bs.length∧Bd 2000 r:=fun r hr=>by
 obtain⟨z1,z2⟩:=zmE net sb hg hi r hr
 exact⟨z1,fun p hp=>⟨(z2 p hp).1.mono (by decide),(z2 p hp).2.mono (by decide)⟩⟩
theorem zmm {g:Int}(hg:1≤g∧g≤1000000){box thin:List (Int×Int)}{R:List (List (Int×Int))}{k:Nat}{es:List Int}(ze:∀x∈es,Sz 4000 x)(e4:es.length≤4)(zt:Bd 2000 thin)(zr:∀r∈R,r.length=box.length∧Bd 2000 r)(zb:Bd 60 box)(b4:box.length≤4)(hk:k < box.length):Sz 30000 (za1 g box thin R k es).1∧Sz 30000 (za1 g box thin R k es).2:=by
 have bE:Bd 4000 (es.map fun x=>(x,x)):=fun p hp=>by
  obtain⟨x,hx,rfl⟩:=List.mem_map.mp hp
  exact⟨ze x hx,ze x hx⟩
 have lE:(es.map fun x=>(x,x)).length≤60:=by rw[List.length_map]; omega
 have zm:Bd 62 (box.map fun p=>zbZ p (zax p)):=fun p hp=>by
  obtain⟨x,hx,rfl⟩:=List.mem_map.mp hp
  have z:=zb x hx
  have zmid:=zg0 z.1 z.2
  exact(zeY (B:=60) (C:=61) z ⟨zmid,zmid⟩).imp (fun z=>z.mono (by decide)) (fun z=>z.mono (by decide))
 have zl:Bd 6100 ((List.range box.length).map fun c=>zbt g k c (es.map fun x=>(x,x)) R):=fun p hp=>by
  obtain⟨c,hc,rfl⟩:=List.mem_map.mp hp
  have hc':=List.mem_range.mp hc
  have bR:Bd 2000 (R.map fun r=>r.getD c (0,0)):=fun p hp=>by
   obtain⟨r,hr,er⟩:=List.mem_map.mp hp
   subst er
   obtain⟨hl,b⟩:=zr r hr
   have ll:c < r.length:=by rw[hl]; exact hc'
   have e:r.getD c (0,0)=r[c]:=by simp[ll]
   rw[e]
   exact b _ (List.getElem_mem ll)
  have z:=zhi hg.1 bE bR lE
  have sg:Sz 21 g:=Sz.of 1000000 (by omega)
  unfold zbt
  have w:Sz 21 (if k=c then (g,g) else (0,0)).1∧Sz 21 (if k=c then (g,g) else (0,0)).2:=by
   split
   ·exact⟨sg,sg⟩
   ·exact⟨Nat.pow_pos (by decide),Nat.pow_pos (by decide)⟩
  exact(zeY w z).imp (fun z=>z.mono (by decide)) (fun z=>z.mono (by decide))
 have m1:=zhi hg.1 bE zt lE
 have m2:=zhi hg.1 zl zm (by rw[List.length_map,List.length_range]; omega)
 have zk:=zb _ (zdY (vs:=box) (i:=(k:Int)) ⟨by omega,by omega⟩)
 have mk:=zg0 zk.1 zk.2
 have t:=zeY (p:=zax (gt box k)) ⟨mk,mk⟩ m1
 exact⟨(t.1.add m2.1).mono (by decide),(t.2.add m2.2).mono (by decide)⟩
theorem zjK {G:Int→Prop}:∀xs:List D,(∀(k:Nat) (d:D),xs[k]?=some d→∃t,d=.int t∧G t)→∃ts:List Int,xs=ts.map D.int∧∀t∈ts,G t
 | [],_=>⟨[],rfl,fun p h=>by cases h⟩
 | x::xs,h=>by
  obtain⟨p,rfl,hp⟩:=h 0 x rfl
  obtain⟨vs,rfl,hv⟩:=zjK xs fun k d hd=>h (k + 1) d hd
  exact⟨p::vs,rfl,fun q hq=>by
   rcases List.mem_cons.mp hq with e | e
   ·subst e; exact hp
   ·exact hv q e⟩
theorem zox {ts:List Int}{k:Nat}(h:k < ts.length):atI (ts.map D.int) (k:Int)=some (.int (ts.getD k 0)):=zcr (by rw[List.getElem?_map,List.getElem?_eq_getElem h]; simp[h])
def zcP (bs:List (Int×Int))(ts:List Int)(W g:Int)(k:Nat):Int×Int:=((gt bs k).1 * W + ((gt bs k).2 - (gt bs k).1) * ts.getD k 0,g * W)
def pts (bs:List (Int×Int))(ts:List Int)(W g:Int)(n:Nat):List (Int×Int):=(List.range n).map fun k=>zcP bs ts W g k
theorem zi4 (bs:List (Int×Int))(ts:List Int)(W g:Int)(n:Nat):(pts bs ts W g n).length=n:=by simp[pts]
theorem zoX (bs:List (Int×Int))(ts:List Int)(W g:Int)(n:Nat):pts bs ts W g (n + 1)=pts bs ts W g n++[zcP bs ts W g n]:=by simp[pts,List.range_succ]
theorem zjO {bs:List (Int×Int)}{ts:List Int}{W g:Int}{n:Nat}{i:Int}(h:inR n i):gt (pts bs ts W g n) i=zcP bs ts W g i.toNat:=by
 have:=h.1
 have:=h.2
 unfold gt pts
 rw[List.getD_eq_getElem?_getD,List.getElem?_map,List.getElem?_range (by omega)]
 rfl
theorem zgQ {bs:List (Int×Int)}{ts:List Int}{W g:Int}{k:Nat}(sb:Spn 51 bs)(hw:1≤W∧W≤60)(ht:∀t∈ts,0≤t∧t≤W)(hg:1≤g∧g≤1000000)(hk:k < bs.length)(hl:bs.length=ts.length):
  (0≤ts.getD k 0∧ts.getD k 0≤W)∧(gt bs k).1≤(gt bs k).2∧IntMulOk (gt bs k).1 W∧IntMulOk ((gt bs k).2 - (gt bs k).1) (ts.getD k 0)∧1≤g * W∧Sz 110 (zcP bs ts W g k).1∧Sz 110 (g * W):=by
 have hk':k < ts.length:=by omega
 have m:ts.getD k 0∈ts:=by
  have e:ts.getD k 0=ts[k]:=by simp[hk']
  rw[e]
  exact List.getElem_mem hk'
 have t:=ht _ m
 have b:=sb.at (i:=(k:Int)) ⟨by omega,by omega⟩
 have z:=zmB b.1 b.2.1 b.2.2 ⟨hw.1,by omega⟩ t.1 t.2
 refine⟨t,b.1,z.1,z.2.1,Int.mul_pos (by omega) (by omega),z.2.2.mono (by decide),?_⟩
 exact((Sz.of (n:=21) 1000000 (show g.natAbs≤_ by omega)).mul (Sz.of (n:=7) 60 (show W.natAbs≤_ by omega))).mono (by decide)
theorem znR {bs:List (Int×Int)}{ts:List Int}{W g:Int}(sb:Spn 51 bs)(hw:1≤W∧W≤60)(ht:∀t∈ts,0≤t∧t≤W)(hg:1≤g∧g≤1000000)(hl:bs.length=ts.length):Pz 110 (pts bs ts W g bs.length):=fun p hp=>by
 obtain⟨k,hk,rfl⟩:=List.mem_map.mp hp
 obtain⟨_,_,_,_,a,b,c⟩:=zgQ sb hw ht hg (List.mem_range.mp hk) hl
 exact⟨a,b,c⟩
theorem zqt {bs:List (Int×Int)}{ts:List Int}{W g:Int}(sb:Spn 51 bs)(hw:1≤W∧W≤60)(ht:∀t∈ts,0≤t∧t≤W)(hg:1≤g∧g≤1000000)(hl:bs.length=ts.length):InW g bs (pts bs ts W g bs.length):=fun i hi=>by
 rw[zi4] at hi
 rw[zjO hi]
 have h0:=hi.1
 have h1:=hi.2
 have e:((i.toNat:Nat):Int)=i:=by omega
 obtain⟨t,b,_,_,a,_,_⟩:=zgQ (k:=i.toNat) sb hw ht hg (by omega) hl
 rw[e] at b
 have z:=zoa (lo:=(gt bs i).1) (hi:=(gt bs i).2) (w:=W) (p:=ts.getD i.toNat 0) (g:=g) (t:=(zcP bs ts W g i.toNat).1) (b:=g * W) b hw.1 hg.1 t.1 t.2 a (by unfold zcP; rw[e])
 exact z

theorem zoV {v:Nd}{ns:List Nd}{n:Nat}{S:Sto}{Q:DK}{o:Option Nat}(h:S[n]?=some (.lst (ns.map Nd.d)))(e:zbu (eqN 1) (ns.map Nd.d) v.d=some o.isSome)(hq:Q (.bl (!o.isSome)) S):zbL (wIn 1 true) v.d (.ref n) S Q:=by
 rw[zb4]
 unfold wIn
 simp only[zaB h rfl,zah,e]
 exact hq
theorem any_some {v:Nd}:∀ {ns:List Nd} {k:Nat},ns[k]?=some v→zbu (eqN 1) (ns.map Nd.d) v.d≠some (none:Option Nat).isSome
 | [],k,h=>by simp at h
 | u::us,0,h=>by
  have e:u=v:=by simpa using h
  subst e
  show (match eqN 1 u.d u.d,zbu (eqN 1) (us.map Nd.d) u.d with | some b,some c=>some (b || c) | _,_=>none)≠_
  obtain⟨c,hc⟩:=ziS u us
  rw[zjZ,hc]
  simp
 | u::us,k + 1,h=>by
  have ih:=any_some (ns:=us) (k:=k) (by simpa using h)
  show (match eqN 1 u.d v.d,zbu (eqN 1) (us.map Nd.d) v.d with | some b,some c=>some (b || c) | _,_=>none)≠_
  obtain⟨b,hb⟩:=zjt u v
  obtain⟨c,hc⟩:=ziS v us
  rw[hc] at ih
  rw[hb,hc]
  cases c
  ·exact absurd rfl ih
  ·simp

theorem zmY {vs us ps:List (Int×Int)}{k:Nat}{q:Int}(h:∀i:Int,inR k i→gt vs i=gt us i):∀v:Nd,v.ok k q→v.due vs ps=v.due us ps
 | .number _ _,_=>rfl
 | .unknown _,_=>rfl
 | .plus i j,ok=>by simp only[Nd.due,h i ok.1,h j ok.2]
 | .minus i j,ok=>by simp only[Nd.due,h i ok.1,h j ok.2]
 | .times i j,ok=>by simp only[Nd.due,h i ok.1,h j ok.2]
 | .power i n,ok=>by simp only[Nd.due,h i ok.1]
theorem zjP (P:List (Int×Int))(ns:List Nd):∀ms:List Nd,∃r,zai P (ns++ms)=zai P ns++r
 | []=>⟨[],by rw[List.append_nil,List.append_nil]⟩
 | v::ms=>by
  obtain⟨r,e⟩:=zjP P (ns++[v]) ms
  rw[List.append_assoc] at e
  refine⟨v.due (zai P ns) P::r,?_⟩
  rw[show ns++v::ms=ns++([v]++ms) from rfl,e,zcF,List.append_assoc]
  rfl
theorem zbv {P:List (Int×Int)}{ns ms:List Nd}{i:Int}(h:inR ns.length i):gt (zai P (ns++ms)) i=gt (zai P ns) i:=by
 obtain⟨r,e⟩:=zjP P ns ms
 rw[e]
 exact zlK (k:=ns.length) h (by rw[zbR]; exact Nat.le_refl _)
theorem zfT {P:List (Int×Int)}{ns:List Nd}{ws:List Nat}{q:Int}{j:Nat}{v:Nd}(net:zaz q ns ws)(h:ns[j]?=some v):gt (zai P ns) (j:Int)=v.due (zai P ns) P:=by
 have hj:=(List.getElem?_eq_some_iff.mp h).1
 have e:ns=ns.take (j + 1)++ns.drop (j + 1):=(List.take_append_drop _ _).symm
 have e2:ns=ns.take j++ns.drop j:=(List.take_append_drop _ _).symm
 have l:(ns.take (j + 1)).length=j + 1:=by rw[List.length_take]; omega
 have lj:(ns.take j).length=j:=by rw[List.length_take]; omega
 have g1:gt (zai P ns) (j:Int)=gt (zai P (ns.take (j + 1))) (j:Int):=by
  have z:=zbv (P:=P) (ns:=ns.take (j + 1)) (ms:=ns.drop (j + 1)) (i:=(j:Int)) ⟨by omega,by rw[l]; omega⟩
  rw[← e] at z
  exact z
 rw[g1,zbr h,zcF,zc4 (by rw[zbR,lj])]
 refine zmY (k:=j) (q:=q) (fun i hi=>?_) v (net.ok j v h).1
 have z:=zbv (P:=P) (ns:=ns.take j) (ms:=ns.drop j) (i:=i) (by rw[lj]; exact hi)
 rw[← e2] at z
 exact z.symm
theorem zbz {ws us:List Nat}{i:Nat}(h:i < ws.length):(ws++us).getD i 0=ws.getD i 0:=by rw[List.getD_eq_getElem?_getD,List.getD_eq_getElem?_getD,List.getElem?_append_left h]

def Nd.hv:Nd→Nat
 | .minus _ _=>2
 | _=>1
theorem zld {q:Nat}{ns ms:List Nd}{ws us:List Nat}{v:Nd}(net:zaz q ns ws)(n2:zaz q (ns++ms) (ws++us))(hv:∀(i:Nat) (u:Nd),ns[i]?=some u→ws.getD i 0=u.hv)(al:∀u∈ms,u=v)(w:v.wt (ws++us)=v.hv):∀(i:Nat) (u:Nd),(ns++ms)[i]?=some u→(ws++us).getD i 0=u.hv:=fun i u hi=>by
 by_cases ci:i < ns.length
 ·rw[List.getElem?_append_left ci] at hi
  rw[zbz (by rw[net.len]; exact ci)]
  exact hv i u hi
 ·have e:=(n2.ok i u hi).2.1
  rw[List.getElem?_append_right (by omega)] at hi
  rw[al u (List.mem_of_getElem? hi)] at e ⊢
  rw[e]
  exact w

theorem zg1:∀rs:List Nat,eqs (rs.map fun i=>((true,i):Bool×Nat))=rs
 | []=>rfl
 | r::rs=>(congrArg (r::·) (zg1 rs):r::eqs (rs.map fun i=>((true,i):Bool×Nat))=r::rs)
theorem zlN (rs:List Nat)(i w:Nat):eqs ((rs.map fun i=>((true,i):Bool×Nat)).take i++(false,w)::(rs.map fun i=>((true,i):Bool×Nat)).drop i)=rs:=by
 have e:∀a b:List (Bool×Nat),eqs (a++(false,w)::b)=eqs (a++b):=fun a b=>by
  unfold eqs
  rw[List.filterMap_append,List.filterMap_append]
  rfl
 rw[e,List.take_append_drop,zg1]
theorem zm6 (xs:List D):zaT xs (some 1) none=xs.drop 1:=by
 unfold L3.zaT
 have e:HT.sIx xs.length 0 (some 1)=min 1 xs.length:=by
  have z:=HT.sIx_nat xs.length 0 1
  exact z
 rw[HT.sIx_none]
 rw[e]
 by_cases c:1≤xs.length
 ·rw[Nat.min_eq_left c]
  exact List.take_of_length_le (by rw[List.length_drop]; exact Nat.le_refl _)
 ·have z:xs=[]:=List.eq_nil_of_length_eq_zero (by omega)
  subst z
  rfl

structure zbp (K:PySem.W.Frag)(mg:Str→Option Value) where
 C:Addr
 m:mg "Number"=some (.ref C)
 cl:Cls K C
 n_bottom:zbb K C "bottom"
 n_top:zbb K C "top"
 makes:PySem.W.makesIn K C=true
 kp:PySem.W.keepIn K (.ref C)=true
structure zbq (K:PySem.W.Frag)(mg:Str→Option Value) where
 C:Addr
 m:mg "Unknown"=some (.ref C)
 cl:Cls K C
 n_place:zbb K C "place"
 makes:PySem.W.makesIn K C=true
 kp:PySem.W.keepIn K (.ref C)=true
structure zbg (K:PySem.W.Frag)(mg:Str→Option Value) where
 C:Addr
 m:mg "Plus"=some (.ref C)
 cl:Cls K C
 n_other:zbb K C "other"
 n_one:zbb K C "one"
 makes:PySem.W.makesIn K C=true
 kp:PySem.W.keepIn K (.ref C)=true
structure zbj (K:PySem.W.Frag)(mg:Str→Option Value) where
 C:Addr
 m:mg "Minus"=some (.ref C)
 cl:Cls K C
 n_other:zbb K C "other"
 n_one:zbb K C "one"
 makes:PySem.W.makesIn K C=true
 kp:PySem.W.keepIn K (.ref C)=true
structure zbi (K:PySem.W.Frag)(mg:Str→Option Value) where
 C:Addr
 m:mg "Times"=some (.ref C)
 cl:Cls K C
 n_other:zbb K C "other"
 n_one:zbb K C "one"
 makes:PySem.W.makesIn K C=true
 kp:PySem.W.keepIn K (.ref C)=true
structure zbk (K:PySem.W.Frag)(mg:Str→Option Value) where
 C:Addr
 m:mg "Power"=some (.ref C)
 cl:Cls K C
 n_many:zbb K C "many"
 n_one:zbb K C "one"
 makes:PySem.W.makesIn K C=true
 kp:PySem.W.keepIn K (.ref C)=true
def zev:Sd:=fun ds S Q ex=>match ds with
 | [.int _]=>∀g:Int,1≤g→g≤1000000→Q (.int g) S
 | _=>False
theorem znb:Ln (zev) 1:=fun ds S Q ex h=>by unfold zev at h; split at h <;> first | rfl | exact h.elim
def zfS:Sd:=fun ds S Q ex=>match ds with
 | [.ref b,.ref pa,.int W,.int g]=>∃(bs:List (Int×Int)) (ts:List Int),S[b]?=some (.lst (bs.map frD))∧S[pa]?=some (.lst (ts.map D.int))∧bs.length=ts.length∧bs.length≤900∧Spn 51 bs∧(1≤W∧W≤60)∧(∀t∈ts,0≤t∧t≤W)∧(1≤g∧g≤1000000)∧∀(T:Sto) (m:Nat),Pre S T→S.length≤m→T[m]?=some (.lst ((pts bs ts W g bs.length).map frD))→Q (.ref m) T
 | _=>False
theorem zrS:Ln (zfS) 4:=fun ds S Q ex h=>by unfold zfS at h; split at h <;> first | rfl | exact h.elim
def zd1:Sd:=fun ds S Q ex=>match ds with
 | [.int T,.int B]=>(0 < B∧Sz 4000 B)∧∀t b:Int,1≤b→Int.gcd t b=1→t * B=T * b→t.natAbs≤T.natAbs→b≤B→Q (.tup [.int t,.int b]) S
 | _=>False
theorem zrw:Ln (zd1) 2:=fun ds S Q ex h=>by unfold zd1 at h; split at h <;> first | rfl | exact h.elim
def zcO:Sd:=fun ds S Q ex=>match ds with
 | [.ref a,d]=>∃(q:Nat) (v:Nd) (ns:List Nd) (ws:List Nat),d=v.d∧S[a]?=some (.lst (ns.map Nd.d))∧ns.length < 900∧zaz q ns ws∧v.ok ns.length q∧v.wt ws≤16∧∀(T:Sto) (j:Nat) (ms:List Nd) (us:List Nat),zaz q (ns++ms) (ws++us)→ms.length≤1→(∀u∈ms,u=v)→(ns++ms)[j]?=some v→T[a]?=some (.lst ((ns++ms).map Nd.d))→S.length=T.length→(∀(x:Nat) (o:Ob),x≠a→S[x]?=some o→T[x]?=some o)→Q (.int (j:Int)) T
 | _=>False
theorem znn:Ln (zcO) 2:=fun ds S Q ex h=>by unfold zcO at h; split at h <;> first | rfl | exact h.elim
def zgi:Sd:=fun ds S Q ex=>match ds with
 | [.ref a,.ref p,.int _]=>∃(q:Nat) (P:List (Int×Int)) (ns:List Nd) (ws:List Nat),S[a]?=some (.lst (ns.map Nd.d))∧S[p]?=some (.lst (P.map frD))∧a≠p∧zaz q ns ws∧q=P.length∧q≤4∧ns.length < 700∧(∀k:Nat,k < q→ns[k]?=some (.unknown (k:Int)))∧(∀(i:Nat) (v:Nd),ns[i]?=some v→ws.getD i 0=v.hv)∧(∀p∈P,1≤p.2∧p.2≤10 ^ 9∧p.1.natAbs≤10 ^ 9)∧∀(T:Sto) (m:Nat) (ms:List Nd) (us fs:List Nat),zaz q (ns++ms) (ws++us)→ms.length≤8→T[a]?=some (.lst ((ns++ms).map Nd.d))→T[m]?=some (.lst (fs.map wtD))→fs.length=q→(∀f∈fs,f < (ns++ms).length∧(ws++us).getD f 0=2∧(gt (zai P (ns++ms)) (f:Int)).1=0)→(∀(i:Nat) (v:Nd),(ns++ms)[i]?=some v→(ws++us).getD i 0=v.hv)→S.length≤m→(∀(x:Nat) (o:Ob),x≠a→S[x]?=some o→T[x]?=some o)→Q (.ref m) T
 | _=>False
theorem znZ:Ln (zgi) 3:=fun ds S Q ex h=>by unfold zgi at h; split at h <;> first | rfl | exact h.elim
def zcQ:Sd:=fun ds S Q ex=>match ds with
 | [.ref n,.int k]=>∃ns:List Int,S[n]?=some (.frz (ns.map D.int))∧0≤k∧Q (.int (ns.getD k.toNat 0)) S
 | _=>False
theorem zoj:Ln (zcQ) 2:=fun ds S Q ex h=>by unfold zcQ at h; split at h <;> first | rfl | exact h.elim
def zey:Sd:=fun ds S Q ex=>match ds with
 | [.ref a,.ref p]=>∃(q B:Nat) (P:List (Int×Int)) (ns:List Nd) (ws is:List Nat),S[a]?=some (.lst (ns.map Nd.d))∧S[p]?=some (.lst (is.map wtD))∧a≠p∧zaz q ns ws∧(1≤is.length∧is.length≤4)∧is.length * B≤16∧ns.length < 800∧(∀i∈is,i < ns.length∧ws.getD i 0≤B∧(gt (zai P ns) (i:Int)).1=0)∧∀(T:Sto) (j:Nat) (ms:List Nd) (us:List Nat),zaz q (ns++ms) (ws++us)→ms.length≤4→T[a]?=some (.lst ((ns++ms).map Nd.d))→j < (ns++ms).length→(gt (zai P (ns++ms)) (j:Int)).1=0→S.length≤T.length→(∀(x:Nat) (o:Ob),x≠a→S[x]?=some o→T[x]?=some o)→Q (.int (j:Int)) T
 | _=>False
theorem zmL:Ln (zey) 2:=fun ds S Q ex h=>by unfold zey at h; split at h <;> first | rfl | exact h.elim
def zgc:Sd:=fun ds S Q ex=>match ds with
 | [.ref sc,.ref a,.ref f,.int mi]=>∃(cs:List Int) (q M:Nat) (P:List (Int×Int)) (ns:List Nd) (ws fs:List Nat),S[sc]?=some (.frz (cs.map D.int))∧S[a]?=some (.lst (ns.map Nd.d))∧S[f]?=some (.lst (fs.map wtD))∧a≠f∧zaz q ns ws∧mi=(ns.length:Nat)∧(1≤fs.length∧fs.length≤4)∧fs.length * (M + 2)≤16∧ns.length < 700∧(∀i:Nat,ws.getD i 0≤M)∧(∀f∈fs,f < ns.length∧ws.getD f 0=2∧(gt (zai P ns) (f:Int)).1=0)∧∀(T:Sto) (m:Nat) (ms:List Nd) (us:List Nat) (rows:List (Bool×Nat)),zaz q (ns++ms) (ws++us)→ms.length≤32→T[a]?=some (.lst ((ns++ms).map Nd.d))→T[m]?=some (.lst (rows.map rwD))→rows.length≤5→(eqs rows).length=fs.length→(∀i∈eqs rows,i < (ns++ms).length∧(gt (zai P (ns++ms)) (i:Int)).1=0)→S.length≤m→(∀(x:Nat) (o:Ob),x≠a→S[x]?=some o→T[x]?=some o)→Q (.ref m) T
 | _=>False
theorem zrP:Ln (zgc) 4:=fun ds S Q ex h=>by unfold zgc at h; split at h <;> first | rfl | exact h.elim
def ze8:Sd:=fun ds S Q ex=>match ds with
 | [.ref sc,.int qi]=>∃(cs:List Int) (q:Nat),S[sc]?=some (.frz (cs.map D.int))∧(qi=(q:Nat)∧q≤4)∧∀(T:Sto) (m:Nat) (ms:List D) (M:List (List Int)),Pre S T→S.length≤m→T[m]?=some (.lst ms)→zcV T ms M→M.length=q→(∀r∈M,r.length=q∧∀x∈r,Sz 110 x)→Q (.ref m) T
 | _=>False
theorem zqX:Ln (ze8) 2:=fun ds S Q ex h=>by unfold ze8 at h; split at h <;> first | rfl | exact h.elim
def zej:Sd:=fun ds S Q ex=>match ds with
 | [.ref r]=>∃rows:List (Bool×Nat),S[r]?=some (.lst (rows.map rwD))∧rows.length≤900∧Q (.ref S.length) (S++[.lst ((eqs rows).map wtD)])
 | _=>False
theorem zpl:Ln (zej) 1:=fun ds S Q ex h=>by unfold zej at h; split at h <;> first | rfl | exact h.elim
def zeb:Sd:=fun ds S Q ex=>match ds with
 | [.ref e,.ref p]=>∃(xs:List D) (is:List Nat),S[e]?=some (.lst xs)∧S[p]?=some (.lst (is.map wtD))∧is.length≤900∧(∀i∈is,i < xs.length)∧Q (.ref S.length) (S++[.lst (is.map fun i=>xs.getD i .non)])
 | _=>False
theorem zmC:Ln (zeb) 2:=fun ds S Q ex h=>by unfold zeb at h; split at h <;> first | rfl | exact h.elim
def zfL:Sd:=fun ds S Q ex=>match ds with
 | [.tup [.int a,.int b],.tup [.int c,.int d]]=>(IntMulOk a d∧IntMulOk c b)∧Q (.bl (decide (a * d < c * b))) S
 | _=>False
theorem zph:Ln (zfL) 2:=fun ds S Q ex h=>by unfold zfL at h; split at h <;> first | rfl | exact h.elim
def zda:Sd:=fun ds S Q ex=>match ds with
 | [.int t,.int b]=>CFd 0 b∧Q (.int (-(-t / b))) S
 | _=>False
theorem zqQ:Ln (zda) 2:=fun ds S Q ex h=>by unfold zda at h; split at h <;> first | rfl | exact h.elim
def zfY:Sd:=fun ds S Q ex=>match ds with
 | [.tup [.int a,.int b],.tup [.int c,.int d],.int g]=>((IntMulOk c b∧IntMulOk a d)∧¬ c * b < a * d∧IntMulOk a g∧IntMulOk c g∧CFd 0 b∧CFd 0 d)∧Q (.tup [.int (a * g / b),.int (-(-(c * g) / d))]) S
 | _=>False
theorem zqv:Ln (zfY) 3:=fun ds S Q ex h=>by unfold zfY at h; split at h <;> first | rfl | exact h.elim
def zdo (cNumber:Addr)(cUnknown:Addr)(cPlus:Addr)(cMinus:Addr)(cTimes:Addr)(cPower:Addr):Sd:=fun ds S Q ex=>match ds with
 | [.ref n,.ref w,.ref p,.int g]=>∃(x y:Int) (vs bs:List (Int×Int)),S[n]?=some (Nd.ob cNumber cUnknown cPlus cMinus cTimes cPower (Nd.number x y))∧S[w]?=some (.lst (vs.map frD))∧S[p]?=some (.lst (bs.map frD))∧Nd.ok vs.length bs.length (Nd.number x y)∧Spn 1400 vs∧(1≤g∧g≤1000000)∧Q (frD (Nd.fw vs bs g (Nd.number x y))) S
 | _=>False
theorem zn4 (cNumber:Addr)(cUnknown:Addr)(cPlus:Addr)(cMinus:Addr)(cTimes:Addr)(cPower:Addr):Ln (zdo cNumber cUnknown cPlus cMinus cTimes cPower) 4:=fun ds S Q ex h=>by unfold zdo at h; split at h <;> first | rfl | exact h.elim
def zdE (cNumber:Addr)(cUnknown:Addr)(cPlus:Addr)(cMinus:Addr)(cTimes:Addr)(cPower:Addr):Sd:=fun ds S Q ex=>match ds with
 | [.ref n,.ref w,.ref p,.int g]=>∃(k:Int) (vs bs:List (Int×Int)),S[n]?=some (Nd.ob cNumber cUnknown cPlus cMinus cTimes cPower (Nd.unknown k))∧S[w]?=some (.lst (vs.map frD))∧S[p]?=some (.lst (bs.map frD))∧Nd.ok vs.length bs.length (Nd.unknown k)∧Spn 1400 vs∧(1≤g∧g≤1000000)∧Q (frD (Nd.fw vs bs g (Nd.unknown k))) S
 | _=>False
theorem zoC (cNumber:Addr)(cUnknown:Addr)(cPlus:Addr)(cMinus:Addr)(cTimes:Addr)(cPower:Addr):Ln (zdE cNumber cUnknown cPlus cMinus cTimes cPower) 4:=fun ds S Q ex h=>by unfold zdE at h; split at h <;> first | rfl | exact h.elim
def zcg:Sd:=fun ds S Q ex=>match ds with
 | [.tup [.int a,.int b],.tup [.int c,.int d]]=>Q (.tup [.int (a + c),.int (b + d)]) S
 | _=>False
theorem zoG:Ln (zcg) 2:=fun ds S Q ex h=>by unfold zcg at h; split at h <;> first | rfl | exact h.elim
def zdD (cNumber:Addr)(cUnknown:Addr)(cPlus:Addr)(cMinus:Addr)(cTimes:Addr)(cPower:Addr):Sd:=fun ds S Q ex=>match ds with
 | [.ref n,.ref w,.ref p,.int g]=>∃(i j:Int) (vs bs:List (Int×Int)),S[n]?=some (Nd.ob cNumber cUnknown cPlus cMinus cTimes cPower (Nd.plus i j))∧S[w]?=some (.lst (vs.map frD))∧S[p]?=some (.lst (bs.map frD))∧Nd.ok vs.length bs.length (Nd.plus i j)∧Spn 1400 vs∧(1≤g∧g≤1000000)∧Q (frD (Nd.fw vs bs g (Nd.plus i j))) S
 | _=>False
theorem zm7 (cNumber:Addr)(cUnknown:Addr)(cPlus:Addr)(cMinus:Addr)(cTimes:Addr)(cPower:Addr):Ln (zdD cNumber cUnknown cPlus cMinus cTimes cPower) 4:=fun ds S Q ex h=>by unfold zdD at h; split at h <;> first | rfl | exact h.elim
def zcx:Sd:=fun ds S Q ex=>match ds with
 | [.tup [.int a,.int b],.tup [.int c,.int d]]=>Q (.tup [.int (a - d),.int (b - c)]) S
 | _=>False
theorem zov:Ln (zcx) 2:=fun ds S Q ex h=>by unfold zcx at h; split at h <;> first | rfl | exact h.elim
def zde (cNumber:Addr)(cUnknown:Addr)(cPlus:Addr)(cMinus:Addr)(cTimes:Addr)(cPower:Addr):Sd:=fun ds S Q ex=>match ds with
 | [.ref n,.ref w,.ref p,.int g]=>∃(i j:Int) (vs bs:List (Int×Int)),S[n]?=some (Nd.ob cNumber cUnknown cPlus cMinus cTimes cPower (Nd.minus i j))∧S[w]?=some (.lst (vs.map frD))∧S[p]?=some (.lst (bs.map frD))∧Nd.ok vs.length bs.length (Nd.minus i j)∧Spn 1400 vs∧(1≤g∧g≤1000000)∧Q (frD (Nd.fw vs bs g (Nd.minus i j))) S
 | _=>False
theorem zqP (cNumber:Addr)(cUnknown:Addr)(cPlus:Addr)(cMinus:Addr)(cTimes:Addr)(cPower:Addr):Ln (zde cNumber cUnknown cPlus cMinus cTimes cPower) 4:=fun ds S Q ex h=>by unfold zde at h; split at h <;> first | rfl | exact h.elim
def zcB:Sd:=fun ds S Q ex=>match ds with
 | [.tup [.int a,.int b],.tup [.int c,.int d],.int g]=>((IntMulOk a c∧IntMulOk a d∧IntMulOk b c∧IntMulOk b d)∧CFd 0 g)∧∀mn mx:Int,zdb a b c d mn mx→Q (.tup [.int (mn / g),.int (-(-mx / g))]) S
 | _=>False
theorem zoY:Ln (zcB) 3:=fun ds S Q ex h=>by unfold zcB at h; split at h <;> first | rfl | exact h.elim
def zdW (cNumber:Addr)(cUnknown:Addr)(cPlus:Addr)(cMinus:Addr)(cTimes:Addr)(cPower:Addr):Sd:=fun ds S Q ex=>match ds with
 | [.ref n,.ref w,.ref p,.int g]=>∃(i j:Int) (vs bs:List (Int×Int)),S[n]?=some (Nd.ob cNumber cUnknown cPlus cMinus cTimes cPower (Nd.times i j))∧S[w]?=some (.lst (vs.map frD))∧S[p]?=some (.lst (bs.map frD))∧Nd.ok vs.length bs.length (Nd.times i j)∧Spn 1400 vs∧(1≤g∧g≤1000000)∧Q (frD (Nd.fw vs bs g (Nd.times i j))) S
 | _=>False
theorem zqy (cNumber:Addr)(cUnknown:Addr)(cPlus:Addr)(cMinus:Addr)(cTimes:Addr)(cPower:Addr):Ln (zdW cNumber cUnknown cPlus cMinus cTimes cPower) 4:=fun ds S Q ex h=>by unfold zdW at h; split at h <;> first | rfl | exact h.elim
def zft:Sd:=fun ds S Q ex=>match ds with
 | [.int x,.int n]=>(0≤n∧n≤6∧Sz 2000 x)∧Q (.int (x ^ n.toNat)) S
 | _=>False
theorem znL:Ln (zft) 2:=fun ds S Q ex h=>by unfold zft at h; split at h <;> first | rfl | exact h.elim
def zd4:Sd:=fun ds S Q ex=>match ds with
 | [.tup [.int a,.int b],.int n,.int g]=>(1≤n∧n≤6∧Sz 1400 a∧Sz 1400 b∧1≤g∧Sz 1400 g)∧∀m M:Int,zcz a b n.toNat m M→Q (.tup [.int (m / g ^ (n.toNat - 1)),.int (-(-M / g ^ (n.toNat - 1)))]) S
 | _=>False
theorem zrB:Ln (zd4) 3:=fun ds S Q ex h=>by unfold zd4 at h; split at h <;> first | rfl | exact h.elim
def zd8 (cNumber:Addr)(cUnknown:Addr)(cPlus:Addr)(cMinus:Addr)(cTimes:Addr)(cPower:Addr):Sd:=fun ds S Q ex=>match ds with
 | [.ref n,.ref w,.ref p,.int g]=>∃(i m:Int) (vs bs:List (Int×Int)),S[n]?=some (Nd.ob cNumber cUnknown cPlus cMinus cTimes cPower (Nd.power i m))∧S[w]?=some (.lst (vs.map frD))∧S[p]?=some (.lst (bs.map frD))∧Nd.ok vs.length bs.length (Nd.power i m)∧Spn 1400 vs∧(1≤g∧g≤1000000)∧Q (frD (Nd.fw vs bs g (Nd.power i m))) S
 | _=>False
theorem znf (cNumber:Addr)(cUnknown:Addr)(cPlus:Addr)(cMinus:Addr)(cTimes:Addr)(cPower:Addr):Ln (zd8 cNumber cUnknown cPlus cMinus cTimes cPower) 4:=fun ds S Q ex h=>by unfold zd8 at h; split at h <;> first | rfl | exact h.elim
def zf0 (cPower:Addr):Sd:=fun ds S Q ex=>match ds with
 | [.ref n,x,y]=>∃T:Sto,S=T++[.ins cPower []]∧n=T.length∧Q .non (T++[.ins cPower [("one",x),("many",y)]])
 | _=>False
theorem zpX (cPower:Addr):Ln (zf0 cPower) 3:=fun ds S Q ex h=>by unfold zf0 at h; split at h <;> first | rfl | exact h.elim
def zeA (cNumber:Addr):Sd:=fun ds S Q ex=>match ds with
 | [.ref n,x,y]=>∃T:Sto,S=T++[.ins cNumber []]∧n=T.length∧Q .non (T++[.ins cNumber [("top",x),("bottom",y)]])
 | _=>False
theorem znT (cNumber:Addr):Ln (zeA cNumber) 3:=fun ds S Q ex h=>by unfold zeA at h; split at h <;> first | rfl | exact h.elim
def zfm (cUnknown:Addr):Sd:=fun ds S Q ex=>match ds with
 | [.ref n,x]=>∃T:Sto,S=T++[.ins cUnknown []]∧n=T.length∧Q .non (T++[.ins cUnknown [("place",x)]])
 | _=>False
theorem zrG (cUnknown:Addr):Ln (zfm cUnknown) 2:=fun ds S Q ex h=>by unfold zfm at h; split at h <;> first | rfl | exact h.elim
def zfo (cPlus:Addr):Sd:=fun ds S Q ex=>match ds with
 | [.ref n,x,y]=>∃T:Sto,S=T++[.ins cPlus []]∧n=T.length∧Q .non (T++[.ins cPlus [("one",x),("other",y)]])
 | _=>False
theorem zmr (cPlus:Addr):Ln (zfo cPlus) 3:=fun ds S Q ex h=>by unfold zfo at h; split at h <;> first | rfl | exact h.elim
def zeo (cMinus:Addr):Sd:=fun ds S Q ex=>match ds with
 | [.ref n,x,y]=>∃T:Sto,S=T++[.ins cMinus []]∧n=T.length∧Q .non (T++[.ins cMinus [("one",x),("other",y)]])
 | _=>False
theorem zoJ (cMinus:Addr):Ln (zeo cMinus) 3:=fun ds S Q ex h=>by unfold zeo at h; split at h <;> first | rfl | exact h.elim
def zfj (cTimes:Addr):Sd:=fun ds S Q ex=>match ds with
 | [.ref n,x,y]=>∃T:Sto,S=T++[.ins cTimes []]∧n=T.length∧Q .non (T++[.ins cTimes [("one",x),("other",y)]])
 | _=>False
theorem zpu (cTimes:Addr):Ln (zfj cTimes) 3:=fun ds S Q ex h=>by unfold zfj at h; split at h <;> first | rfl | exact h.elim
def zd5 (cNumber:Addr)(cUnknown:Addr)(cPlus:Addr)(cMinus:Addr)(cTimes:Addr)(cPower:Addr):Sd:=fun ds S Q ex=>match ds with
 | [d]=>∃v:Nd,d=v.d∧Q (.ref S.length) (S++[v.ob cNumber cUnknown cPlus cMinus cTimes cPower])
 | _=>False
theorem znj (cNumber:Addr)(cUnknown:Addr)(cPlus:Addr)(cMinus:Addr)(cTimes:Addr)(cPower:Addr):Ln (zd5 cNumber cUnknown cPlus cMinus cTimes cPower) 1:=fun ds S Q ex h=>by unfold zd5 at h; split at h <;> first | rfl | exact h.elim
def zdJ:Sd:=fun ds S Q ex=>match ds with
 | [.ref a,.ref b,.int g]=>∃(ns:List Nd) (ws:List Nat) (bs:List (Int×Int)),S[a]?=some (.lst (ns.map Nd.d))∧S[b]?=some (.lst (bs.map frD))∧zaz bs.length ns ws∧Spn 51 bs∧(1≤g∧g≤1000000)∧ns.length≤70∧∀(T:Sto) (m:Nat),Pre S T→S.length≤m→T[m]?=some (.lst ((zae bs g ns).map frD))→Q (.ref m) T
 | _=>False
theorem znh:Ln (zdJ) 3:=fun ds S Q ex h=>by unfold zdJ at h; split at h <;> first | rfl | exact h.elim
def zer:Sd:=fun ds S Q ex=>match ds with
 | [.tup [.int a,.int b]]=>Q (.int ((a + b) / 2)) S
 | _=>False
theorem zrh:Ln (zer) 1:=fun ds S Q ex h=>by unfold zer at h; split at h <;> first | rfl | exact h.elim
def zen:Sd:=fun ds S Q ex=>match ds with
 | [.ref s]=>∃vs:List (Int×Int),S[s]?=some (.lst (vs.map frD))∧vs.length≤900∧Q (.ref S.length) (S++[.lst (vs.map fun p=>.int (mid p))])
 | _=>False
theorem zo9:Ln (zen) 1:=fun ds S Q ex h=>by unfold zen at h; split at h <;> first | rfl | exact h.elim
def zec:Sd:=fun ds S Q ex=>match ds with
 | [.ref b]=>∃vs:List (Int×Int),S[b]?=some (.lst (vs.map frD))∧vs.length≤900∧∀(T:Sto) (m:Nat),Pre S T→S.length≤m→T[m]?=some (.lst ((vs.map zax).map frD))→Q (.ref m) T
 | _=>False
theorem zpC:Ln (zec) 1:=fun ds S Q ex h=>by unfold zec at h; split at h <;> first | rfl | exact h.elim
def zeH:Sd:=fun ds S Q ex=>match ds with
 | [.ref a,.ref p,.ref b,.int g]=>∃(ns:List Nd) (ws:List Nat) (bs:List (Int×Int)) (is:List Nat),S[a]?=some (.lst (ns.map Nd.d))∧S[b]?=some (.lst (bs.map frD))∧zaz bs.length ns ws∧Spn 51 bs∧(1≤g∧g≤1000000)∧ns.length≤70∧bs.length≤900∧S[p]?=some (.lst (is.map wtD))∧is.length≤900∧(∀i∈is,i < ns.length)∧∀(T:Sto) (m:Nat),Pre S T→S.length≤m→T[m]?=some (.lst ((is.map fun (i:Nat)=>gt (zae (bs.map zax) g ns) i).map frD))→Q (.ref m) T
 | _=>False
theorem zl0:Ln (zeH) 4:=fun ds S Q ex h=>by unfold zeH at h; split at h <;> first | rfl | exact h.elim
def zdX:Sd:=fun ds S Q ex=>match ds with
 | [.ref a,.ref b,.int g]=>∃(us vs:List (Int×Int)),S[a]?=some (.lst (us.map frD))∧S[b]?=some (.lst (vs.map frD))∧us.length≤60∧Bd 20000 us∧Bd 20000 vs∧(1≤g∧g≤1000000)∧Q (frD (sumP g us vs)) S
 | _=>False
theorem zor:Ln (zdX) 3:=fun ds S Q ex h=>by unfold zdX at h; split at h <;> first | rfl | exact h.elim
def zeq:Sd:=fun ds S Q ex=>match ds with
 | [.int k,.int c,.ref t,.ref s,.int g]=>∃(q kn cn:Nat) (ts:List (Int×Int)) (R:List (List (Int×Int))) (ds:List D),k=(kn:Nat)∧c=(cn:Nat)∧S[t]?=some (.lst (ts.map frD))∧S[s]?=some (.lst ds)∧zaI S 0 ds R∧(∀r∈R,r.length=q∧Bd 2000 r)∧cn < q∧ts.length≤60∧R.length≤60∧Bd 20000 ts∧(1≤g∧g≤1000000)∧Q (frD (zbt g kn cn ts R)) S
 | _=>False
theorem zoH:Ln (zeq) 5:=fun ds S Q ex h=>by unfold zeq at h; split at h <;> first | rfl | exact h.elim
def zek:Sd:=fun ds S Q ex=>match ds with
 | [.int ki,.ref b,.int g,.ref e,.ref t,.ref s]=>∃(k:Nat) (box thin:List (Int×Int)) (es:List Int) (R:List (List (Int×Int))) (ds:List D),ki=(k:Nat)∧k < box.length∧S[e]?=some (.lst (es.map D.int))∧es.length≤4∧(∀x∈es,Sz 4000 x)∧S[b]?=some (.lst (box.map frD))∧S[t]?=some (.lst (thin.map frD))∧S[s]?=some (.lst ds)∧zaI S 0 ds R∧(∀r∈R,r.length=box.length∧Bd 2000 r)∧(1≤box.length∧box.length≤4)∧R.length≤4∧thin.length≤4∧Bd 60 box∧Bd 2000 thin∧(1≤g∧g≤1000000)∧Q (frD (za1 g box thin R k es)) S
 | _=>False
theorem zpb:Ln (zek) 6:=fun ds S Q ex h=>by unfold zek at h; split at h <;> first | rfl | exact h.elim
def ze4:Sd:=fun ds S Q ex=>match ds with
 | [.ref b,.int g,.ref u,.ref t,.ref s]=>∃(box thin:List (Int×Int)) (M:List (List Int)) (ms:List D) (R:List (List (Int×Int))) (ds:List D),S[u]?=some (.lst ms)∧zcV S ms M∧M.length=box.length∧(∀r∈M,r.length≤4∧∀x∈r,Sz 4000 x)∧S[b]?=some (.lst (box.map frD))∧S[t]?=some (.lst (thin.map frD))∧S[s]?=some (.lst ds)∧zaI S 0 ds R∧(∀r∈R,r.length=box.length∧Bd 2000 r)∧(1≤box.length∧box.length≤4)∧R.length≤4∧thin.length≤4∧Bd 60 box∧Bd 2000 thin∧(1≤g∧g≤1000000)∧Q (.ref S.length) (S++[.lst ((M.mapIdx fun k es=>za1 g box thin R k es).map frD)])
 | _=>False
theorem znw:Ln (ze4) 5:=fun ds S Q ex h=>by unfold ze4 at h; split at h <;> first | rfl | exact h.elim
def zea (cNumber:Addr)(cUnknown:Addr)(cPlus:Addr)(cMinus:Addr)(cTimes:Addr)(cPower:Addr):Sd:=fun ds S Q ex=>match ds with
 | [.ref n,.ref w,.ref s,.int qi,.int g]=>∃(x y:Int) (q:Nat) (vs:List (Int×Int)) (sl:List (List (Int×Int))) (ds:List D),S[n]?=some (Nd.ob cNumber cUnknown cPlus cMinus cTimes cPower (Nd.number x y))∧S[w]?=some (.lst (vs.map frD))∧S[s]?=some (.lst ds)∧zaI S 0 ds sl∧(∀i:Int,inR sl.length i→(sl.getD i.toNat []).length=q∧∀l,l < q→(gs sl i l).1≤(gs sl i l).2∧Sz 1100 (gs sl i l).1∧Sz 1100 (gs sl i l).2)∧(qi=(q:Nat)∧q≤900)∧Nd.ok sl.length q (Nd.number x y)∧sl.length≤vs.length∧Spn 1000 vs∧(1≤g∧g≤1000000)∧∀(T:Sto) (mm:Nat),Pre S T→S.length≤mm→T[mm]?=some (.lst ((zaX vs sl g q (Nd.number x y)).map frD))→Q (.ref mm) T
 | _=>False
theorem zl7 (cNumber:Addr)(cUnknown:Addr)(cPlus:Addr)(cMinus:Addr)(cTimes:Addr)(cPower:Addr):Ln (zea cNumber cUnknown cPlus cMinus cTimes cPower) 5:=fun ds S Q ex h=>by unfold zea at h; split at h <;> first | rfl | exact h.elim
def zdn (cNumber:Addr)(cUnknown:Addr)(cPlus:Addr)(cMinus:Addr)(cTimes:Addr)(cPower:Addr):Sd:=fun ds S Q ex=>match ds with
 | [.ref n,.ref w,.ref s,.int qi,.int g]=>∃(k:Int) (q:Nat) (vs:List (Int×Int)) (sl:List (List (Int×Int))) (ds:List D),S[n]?=some (Nd.ob cNumber cUnknown cPlus cMinus cTimes cPower (Nd.unknown k))∧S[w]?=some (.lst (vs.map frD))∧S[s]?=some (.lst ds)∧zaI S 0 ds sl∧(∀i:Int,inR sl.length i→(sl.getD i.toNat []).length=q∧∀l,l < q→(gs sl i l).1≤(gs sl i l).2∧Sz 1100 (gs sl i l).1∧Sz 1100 (gs sl i l).2)∧(qi=(q:Nat)∧q≤900)∧Nd.ok sl.length q (Nd.unknown k)∧sl.length≤vs.length∧Spn 1000 vs∧(1≤g∧g≤1000000)∧∀(T:Sto) (mm:Nat),Pre S T→S.length≤mm→T[mm]?=some (.lst ((zaX vs sl g q (Nd.unknown k)).map frD))→Q (.ref mm) T
 | _=>False
theorem zoA (cNumber:Addr)(cUnknown:Addr)(cPlus:Addr)(cMinus:Addr)(cTimes:Addr)(cPower:Addr):Ln (zdn cNumber cUnknown cPlus cMinus cTimes cPower) 5:=fun ds S Q ex h=>by unfold zdn at h; split at h <;> first | rfl | exact h.elim
def zeL (cPlus:Addr):Sd:=fun ds S Q ex=>match ds with
 | [.ref _,_,_,.tup [.int a,.int b],.tup [.int c,.int d],.int _]=>Q (.tup [.int (a + c),.int (b + d)]) S
 | _=>False
theorem zq6 (cPlus:Addr):Ln (zeL cPlus) 6:=fun ds S Q ex h=>by unfold zeL at h; split at h <;> first | rfl | exact h.elim
def zdj (cNumber:Addr)(cUnknown:Addr)(cPlus:Addr)(cMinus:Addr)(cTimes:Addr)(cPower:Addr):Sd:=fun ds S Q ex=>match ds with
 | [.ref n,.ref w,.ref s,.int qi,.int g]=>∃(i j:Int) (q:Nat) (vs:List (Int×Int)) (sl:List (List (Int×Int))) (ds:List D),S[n]?=some (Nd.ob cNumber cUnknown cPlus cMinus cTimes cPower (Nd.plus i j))∧S[w]?=some (.lst (vs.map frD))∧S[s]?=some (.lst ds)∧zaI S 0 ds sl∧(∀i:Int,inR sl.length i→(sl.getD i.toNat []).length=q∧∀l,l < q→(gs sl i l).1≤(gs sl i l).2∧Sz 1100 (gs sl i l).1∧Sz 1100 (gs sl i l).2)∧(qi=(q:Nat)∧q≤900)∧Nd.ok sl.length q (Nd.plus i j)∧sl.length≤vs.length∧Spn 1000 vs∧(1≤g∧g≤1000000)∧∀(T:Sto) (mm:Nat),Pre S T→S.length≤mm→T[mm]?=some (.lst ((zaX vs sl g q (Nd.plus i j)).map frD))→Q (.ref mm) T
 | _=>False
theorem zmQ (cNumber:Addr)(cUnknown:Addr)(cPlus:Addr)(cMinus:Addr)(cTimes:Addr)(cPower:Addr):Ln (zdj cNumber cUnknown cPlus cMinus cTimes cPower) 5:=fun ds S Q ex h=>by unfold zdj at h; split at h <;> first | rfl | exact h.elim
def zf6 (cMinus:Addr):Sd:=fun ds S Q ex=>match ds with
 | [.ref _,_,_,.tup [.int a,.int b],.tup [.int c,.int d],.int _]=>Q (.tup [.int (a - d),.int (b - c)]) S
 | _=>False
theorem znE (cMinus:Addr):Ln (zf6 cMinus) 6:=fun ds S Q ex h=>by unfold zf6 at h; split at h <;> first | rfl | exact h.elim
def zdx (cNumber:Addr)(cUnknown:Addr)(cPlus:Addr)(cMinus:Addr)(cTimes:Addr)(cPower:Addr):Sd:=fun ds S Q ex=>match ds with
 | [.ref n,.ref w,.ref s,.int qi,.int g]=>∃(i j:Int) (q:Nat) (vs:List (Int×Int)) (sl:List (List (Int×Int))) (ds:List D),S[n]?=some (Nd.ob cNumber cUnknown cPlus cMinus cTimes cPower (Nd.minus i j))∧S[w]?=some (.lst (vs.map frD))∧S[s]?=some (.lst ds)∧zaI S 0 ds sl∧(∀i:Int,inR sl.length i→(sl.getD i.toNat []).length=q∧∀l,l < q→(gs sl i l).1≤(gs sl i l).2∧Sz 1100 (gs sl i l).1∧Sz 1100 (gs sl i l).2)∧(qi=(q:Nat)∧q≤900)∧Nd.ok sl.length q (Nd.minus i j)∧sl.length≤vs.length∧Spn 1000 vs∧(1≤g∧g≤1000000)∧∀(T:Sto) (mm:Nat),Pre S T→S.length≤mm→T[mm]?=some (.lst ((zaX vs sl g q (Nd.minus i j)).map frD))→Q (.ref mm) T
 | _=>False
theorem zq9 (cNumber:Addr)(cUnknown:Addr)(cPlus:Addr)(cMinus:Addr)(cTimes:Addr)(cPower:Addr):Ln (zdx cNumber cUnknown cPlus cMinus cTimes cPower) 5:=fun ds S Q ex h=>by unfold zdx at h; split at h <;> first | rfl | exact h.elim
def zeN (cTimes:Addr):Sd:=fun ds S Q ex=>match ds with
 | [.ref _,.tup [.int x1,.int x2],.tup [.int y1,.int y2],.tup [.int a,.int b],.tup [.int c,.int d],.int g]=>(Sz 1400 x1∧Sz 1400 x2∧Sz 1400 y1∧Sz 1400 y2∧Sz 1400 a∧Sz 1400 b∧Sz 1400 c∧Sz 1400 d∧1≤g∧g≤1000000)∧Q (.tup [.int ((zaG (x1,x2) (c,d) g).1 + (zaG (y1,y2) (a,b) g).1),.int ((zaG (x1,x2) (c,d) g).2 + (zaG (y1,y2) (a,b) g).2)]) S
 | _=>False
theorem zrn (cTimes:Addr):Ln (zeN cTimes) 6:=fun ds S Q ex h=>by unfold zeN at h; split at h <;> first | rfl | exact h.elim
def zee (cNumber:Addr)(cUnknown:Addr)(cPlus:Addr)(cMinus:Addr)(cTimes:Addr)(cPower:Addr):Sd:=fun ds S Q ex=>match ds with
 | [.ref n,.ref w,.ref s,.int qi,.int g]=>∃(i j:Int) (q:Nat) (vs:List (Int×Int)) (sl:List (List (Int×Int))) (ds:List D),S[n]?=some (Nd.ob cNumber cUnknown cPlus cMinus cTimes cPower (Nd.times i j))∧S[w]?=some (.lst (vs.map frD))∧S[s]?=some (.lst ds)∧zaI S 0 ds sl∧(∀i:Int,inR sl.length i→(sl.getD i.toNat []).length=q∧∀l,l < q→(gs sl i l).1≤(gs sl i l).2∧Sz 1100 (gs sl i l).1∧Sz 1100 (gs sl i l).2)∧(qi=(q:Nat)∧q≤900)∧Nd.ok sl.length q (Nd.times i j)∧sl.length≤vs.length∧Spn 1000 vs∧(1≤g∧g≤1000000)∧∀(T:Sto) (mm:Nat),Pre S T→S.length≤mm→T[mm]?=some (.lst ((zaX vs sl g q (Nd.times i j)).map frD))→Q (.ref mm) T
 | _=>False
theorem zqn (cNumber:Addr)(cUnknown:Addr)(cPlus:Addr)(cMinus:Addr)(cTimes:Addr)(cPower:Addr):Ln (zee cNumber cUnknown cPlus cMinus cTimes cPower) 5:=fun ds S Q ex h=>by unfold zee at h; split at h <;> first | rfl | exact h.elim
def zf9:Sd:=fun ds S Q ex=>match ds with
 | [.tup [.int a,.int b],.int m]=>(IntMulOk a m∧IntMulOk b m)∧Q (.tup [.int (if b * m < a * m then b * m else a * m),.int (if b * m > a * m then b * m else a * m)]) S
 | _=>False
theorem zpF:Ln (zf9) 2:=fun ds S Q ex h=>by unfold zf9 at h; split at h <;> first | rfl | exact h.elim
def zdL (cNumber:Addr)(cUnknown:Addr)(cPlus:Addr)(cMinus:Addr)(cTimes:Addr)(cPower:Addr):Sd:=fun ds S Q ex=>match ds with
 | [.ref n,.ref w,.ref s,.int qi,.int g]=>∃(i m:Int) (q:Nat) (vs:List (Int×Int)) (sl:List (List (Int×Int))) (ds:List D),S[n]?=some (Nd.ob cNumber cUnknown cPlus cMinus cTimes cPower (Nd.power i m))∧S[w]?=some (.lst (vs.map frD))∧S[s]?=some (.lst ds)∧zaI S 0 ds sl∧(∀i:Int,inR sl.length i→(sl.getD i.toNat []).length=q∧∀l,l < q→(gs sl i l).1≤(gs sl i l).2∧Sz 1100 (gs sl i l).1∧Sz 1100 (gs sl i l).2)∧(qi=(q:Nat)∧q≤900)∧Nd.ok sl.length q (Nd.power i m)∧sl.length≤vs.length∧Spn 1000 vs∧(1≤g∧g≤1000000)∧∀(T:Sto) (mm:Nat),Pre S T→S.length≤mm→T[mm]?=some (.lst ((zaX vs sl g q (Nd.power i m)).map frD))→Q (.ref mm) T
 | _=>False
theorem zpn (cNumber:Addr)(cUnknown:Addr)(cPlus:Addr)(cMinus:Addr)(cTimes:Addr)(cPower:Addr):Ln (zdL cNumber cUnknown cPlus cMinus cTimes cPower) 5:=fun ds S Q ex h=>by unfold zdL at h; split at h <;> first | rfl | exact h.elim
def ze5:Sd:=fun ds S Q ex=>match ds with
 | [.ref a,.ref b,.int g]=>∃(ns:List Nd) (ws:List Nat) (bs:List (Int×Int)),S[a]?=some (.lst (ns.map Nd.d))∧S[b]?=some (.lst (bs.map frD))∧zaz bs.length ns ws∧Spn 51 bs∧bs.length≤900∧(1≤g∧g≤1000000)∧ns.length≤70∧∀(T:Sto) (m:Nat) (ds:List D),Pre S T→S.length≤m→T[m]?=some (.lst ds)→zaI T (m + 1) ds (zau (zae bs g ns) g bs.length ns)→Q (.ref m) T
 | _=>False
theorem zrF:Ln (ze5) 3:=fun ds S Q ex h=>by unfold ze5 at h; split at h <;> first | rfl | exact h.elim
def zeP:Sd:=fun ds S Q ex=>match ds with
 | [.ref a,.ref p,.ref b,.int g]=>∃(ns:List Nd) (ws:List Nat) (bs:List (Int×Int)) (is:List Nat),S[a]?=some (.lst (ns.map Nd.d))∧S[b]?=some (.lst (bs.map frD))∧zaz bs.length ns ws∧Spn 51 bs∧(1≤g∧g≤1000000)∧ns.length≤70∧bs.length≤900∧S[p]?=some (.lst (is.map wtD))∧is.length≤900∧(∀i∈is,i < ns.length)∧∀(T:Sto) (m:Nat) (ds:List D),Pre S T→S.length≤m→T[m]?=some (.lst ds)→zaI T 0 ds (is.map fun (i:Nat)=>(zau (zae bs g ns) g bs.length ns).getD i [])→Q (.ref m) T
 | _=>False
theorem zlL:Ln (zeP) 4:=fun ds S Q ex h=>by unfold zeP at h; split at h <;> first | rfl | exact h.elim
def zfX:Sd:=fun ds S Q ex=>match ds with
 | [.ref a,.ref r,.ref b,.int g,.ref u]=>∃(ns:List Nd) (ws:List Nat) (bs:List (Int×Int)) (rows:List (Bool×Nat)) (M:List (List Int)) (ms:List D),S[a]?=some (.lst (ns.map Nd.d))∧S[b]?=some (.lst (bs.map frD))∧zaz bs.length ns ws∧Spn 51 bs∧(1≤g∧g≤1000000)∧ns.length≤70∧bs.length≤900∧S[r]?=some (.lst (rows.map rwD))∧rows.length≤900∧(eqs rows).length≤4∧(∀i∈eqs rows,i < ns.length)∧(1≤bs.length∧bs.length≤4)∧S[u]?=some (.lst ms)∧zcV S ms M∧M.length=bs.length∧(∀r∈M,r.length≤4∧∀x∈r,Sz 4000 x)∧∀(T:Sto) (m:Nat),Pre S T→S.length≤m→T[m]?=some (.lst ((M.mapIdx fun k es=>za1 g bs ((eqs rows).map fun (i:Nat)=>gt (zae (bs.map zax) g ns) i) ((eqs rows).map fun (i:Nat)=>(zau (zae bs g ns) g bs.length ns).getD i []) k es).map frD))→Q (.ref m) T
 | _=>False
theorem zmZ:Ln (zfX) 5:=fun ds S Q ex h=>by unfold zfX at h; split at h <;> first | rfl | exact h.elim
def zeF:Sd:=fun ds S Q ex=>match ds with
 | [.int _,.int _]=>∀lo hi:Int,lo≤hi→lo.natAbs≤2000000→hi.natAbs≤2000000→Q (.tup [.int lo,.int hi]) S
 | _=>False
theorem zp7:Ln (zeF) 2:=fun ds S Q ex h=>by unfold zeF at h; split at h <;> first | rfl | exact h.elim
def zfC:Sd:=fun ds S Q ex=>match ds with
 | [.int _]=>∀t b:Int,(1≤b∧b≤10 ^ 9)→Int.gcd t b=1→t.natAbs≤10 ^ 9→Q (.tup [.int t,.int b]) S
 | _=>False
theorem zq2:Ln (zfC) 1:=fun ds S Q ex h=>by unfold zfC at h; split at h <;> first | rfl | exact h.elim
def zeT:Sd:=fun ds S Q ex=>match ds with
 | [.ref a,.ref b,d,.int w]=>∃(v:Nd) (ns:List Nd) (ws:List Nat),d=v.d∧S[a]?=some (.lst (ns.map Nd.d))∧S[b]?=some (.lst (ws.map wtD))∧a≠b∧w=(v.wt ws:Nat)∧ns.length < 900∧ws.length < 900∧(∀j:Nat,ns[j]?=some v→Q (.int (j:Int)) S)∧∀i:Int,i=(ns.length:Nat)→Q (.int i) ((S.set a (.lst ((ns++[v]).map Nd.d))).set b (.lst ((ws++[v.wt ws]).map wtD)))
 | _=>False
theorem zoM:Ln (zeT) 4:=fun ds S Q ex h=>by unfold zeT at h; split at h <;> first | rfl | exact h.elim
def ze3:Sd:=fun ds S Q ex=>match ds with
 | [.ref a,.ref b,.int c,.int most]=>∃(qn:Nat) (ns:List Nd) (ws:List Nat),S[a]?=some (.lst (ns.map Nd.d))∧S[b]?=some (.lst (ws.map wtD))∧a≠b∧zaz qn ns ws∧1≤ns.length∧ns.length < 900∧most≤16∧∀(T:Sto) (ms:List Nd) (us:List Nat),zaz qn (ns++ms) us→(∃u2:List Nat,us=ws++u2∧∀w∈u2,w=1∨((w:Nat):Int)≤most)→ms.length≤1→T[a]?=some (.lst ((ns++ms).map Nd.d))→T[b]?=some (.lst (us.map wtD))→S.length≤T.length→(∀(x:Nat) (o:Ob),x≠a→x≠b→S[x]?=some o→T[x]?=some o)→Q .non T
 | _=>False
theorem zmI:Ln (ze3) 4:=fun ds S Q ex h=>by unfold ze3 at h; split at h <;> first | rfl | exact h.elim
def zfG:Sd:=fun ds S Q ex=>match ds with
 | [.int _]=>Q (.bl true) S
 | _=>False
theorem zol:Ln (zfG) 1:=fun ds S Q ex h=>by unfold zfG at h; split at h <;> first | rfl | exact h.elim
def zeM:Sd:=fun ds S Q ex=>match ds with
 | [.tup [.int a,.int b]]=>a≤b∧Q (.bl true) S
 | _=>False
theorem zqi:Ln (zeM) 1:=fun ds S Q ex h=>by unfold zeM at h; split at h <;> first | rfl | exact h.elim
def zfF:Sd:=fun ds S Q ex=>match ds with
 | [.ref a,.int m]=>∃vs:List (Int×Int),S[a]?=some (.lst (vs.map frD))∧m=vs.length∧(∀p∈vs,p.1≤p.2)∧Q (.bl true) S
 | _=>False
theorem znM:Ln (zfF) 2:=fun ds S Q ex h=>by unfold zfF at h; split at h <;> first | rfl | exact h.elim
def zfB:Sd:=fun ds S Q ex=>match ds with
 | [.tup [.int l,.int u],.tup [.int a,.int b],.int g]=>(Sz 30000 l∧Sz 30000 u∧Sz 200 a∧Sz 200 b∧Sz 30 g)∧(l * b≤a * g∧a * g≤u * b)∧Q (.bl true) S
 | _=>False
theorem zpk:Ln (zfB) 3:=fun ds S Q ex h=>by unfold zfB at h; split at h <;> first | rfl | exact h.elim
section
variable {P:Program}{w:World}{K:PySem.W.Frag}{mg:Str→Option Value}{base:Heap}
def zrm  (d_law_grid:Df K mg "_law_grid" zih zfV):Fk P w K mg base 1 "_law_grid" zfV zev:=
 d_law_grid.mk' (zas (k:=0) d_law_grid.F zmT (znb) fun cdv A outer s H E hr=>⟨_,(zag (zaQ (zaO (za6 hr) (zad zaJ (dv 0) zab) zab (zaL _)) (zaf (zan (zad zaZ zab (zad zaJ (zad za4 (dv 0) zab) zab)))) zaW) (zag (zaQ (zaO (za6 hr) (zad zaJ (dv 0) zab) zab (zaL _)) (zaf (zan (zad zaZ zab (zad zaJ (zad za4 (dv 0) zab) zab)))) zaW) (zaf (zan zab)))),fun ds S Q ex h=>by
  unfold zev at h
  split at h
  ·rename_i c
   refine ifD (fun e=>?_) (fun e=>?_)
   ·exact h _ (by omega) (by omega)
   ·refine ifD (fun e=>?_) (fun e=>?_)
    ·exact h _ (by omega) (by omega)
    ·exact h _ (by decide) (by decide)
  ·exact h.elim⟩)
def zp1  (d_law_point:Df K mg "_law_point" zgt zei)(z_range:mg "range"=none)(z_len:mg "len"=none):Fk P w K mg base 1 "_law_point" zei zfS:=
 d_law_point.mk' (zas (k:=0) d_law_point.F zjr (zrS) fun cdv A outer s H E hr=>⟨_,(zag (zar (i:=4) zjr.nd rfl (Or.inl rfl) (zbx zac)) (zag (zcp (i:=5) PassesOwn.never rfl zjr.nd rfl (Or.inl rfl) rfl z_range (zaa (za7 (zba zbG) rfl z_len PyProof.Rows.Boot.«len» (zaa (dv 0) zac)) zac) (zaf (zbh (zbJ (dv 4) (zaP (zaa (zad zaZ (zad zaU (zam (zaA (dv 0) (dv 5) (fun _ _=>rfl)) zab (fun _ _=>rfl)) (dv 2)) (zad zaU (zad zbD (zam (zaA (dv 0) (dv 5) (fun _ _=>rfl)) zab (fun _ _=>rfl)) (zam (zaA (dv 0) (dv 5) (fun _ _=>rfl)) zab (fun _ _=>rfl))) (zaA (dv 1) (dv 5) (fun _ _=>rfl)))) (zaa (zad zaU (dv 3) (dv 2)) zac))))))) (zaf (zan (dv 4))))),fun ds S Q ex h=>by
  unfold zfS at h
  split at h
  ·rename_i b pa W g
   obtain⟨bs,ts,hb,hp,hl,h9,sb,hw,ht,hg,h⟩:=h
   have sg:Sz 21 g:=Sz.of 1000000 (by omega)
   have sw:Sz 7 W:=Sz.of 60 (by omega)
   refine zbT (zao hb) ?_
   rw[List.length_map]
   refine⟨⟨by omega,by omega⟩,fun k dl' S'=>k≤bs.length∧Pre S S'∧S'[S.length]?=some (.lst ((pts bs ts W g k).map frD))∧∃u:Option D,dl'=[some (.ref b),some (.ref pa),some (.int W),some (.int g),some (.ref S.length),u],⟨Nat.zero_le _,Pre.refl.push,zat _ _,_,rfl⟩,?_⟩
   rintro k dl' S' ⟨hk,pr,hs,u,rfl⟩
   rw[Int.toNat_natCast]
   refine zch (fun c=>?_) (fun c=>?_)
   ·have kb:inR ((bs.length:Nat):Int) (k:Int):=⟨by omega,by omega⟩
    obtain⟨t,_,m1,m2,_⟩:=zgQ (k:=k) sb hw ht hg c hl
    refine zb0 (n:=S.length) (S1:=S') (xs:=(pts bs ts W g k).map frD) (y:=frD (zcP bs ts W g k)) (fun K hK=>by exact hK) hs (fun K hK=>?_) (by rw[List.length_map,zi4]; omega) ?_
    ·refine zay (o:=.lst (bs.map frD)) (pr _ _ hb) (za0 kb) ?_
     refine⟨m1,?_⟩
     refine zay (o:=.lst (bs.map frD)) (pr _ _ hb) (za0 kb) ?_
     refine zay (o:=.lst (bs.map frD)) (pr _ _ hb) (za0 kb) ?_
     refine zay (o:=.lst (ts.map D.int)) (pr _ _ hp) (zox (by omega)) ?_
     exact⟨m2,zaE sg sw,hK⟩
    ·refine⟨by omega,zdF pr (Nat.le_refl _),?_,_,rfl⟩
     rw[zoX,List.map_append]
     exact zbE hs
   ·have e:k=bs.length:=by omega
    subst e
    exact h _ _ pr (Nat.le_refl _) hs
  ·exact h.elim⟩)
def zrX  (d_law_lowest:Df K mg "_law_lowest" zhy zdz)(z_abs:mg "abs"=none):Fk P w K mg base 1 "_law_lowest" zdz zd1:=
 d_law_lowest.mk' (zas (k:=0) d_law_lowest.F zgw (zrw) fun cdv A outer s H E hr=>⟨_,(zag (zar (i:=2) zgw.nd rfl (Or.inl rfl) (za7 zne rfl z_abs PyProof.Rows.Boot.«abs» (zaa (dv 0) zac))) (zag (zar (i:=3) zgw.nd rfl (Or.inl rfl) (dv 1)) (zag (zqM PassesOwn.never (zaO (zhj hr) (dv 3) zab (zaL _)) (zaf (zma (i:=2) (j:=3) rfl zgw.nd rfl rfl (by decide) rfl rfl (zaa (dv 3) (zaa (zad zb7 (dv 2) (dv 3)) zac))))) (zaf (zan (zaP (zaa (zad zcy (dv 0) (dv 2)) (zaa (zad zcy (dv 1) (dv 2)) zac)))))))),fun ds S Q ex h=>by
  unfold zd1 at h
  split at h
  ·rename_i T B
   obtain⟨⟨hB,sB⟩,h⟩:=h
   have f:=zqa (T:=T) (B:=B) (d:=((Int.gcd T B:Nat):Int)) (by omega) (by rw[if_neg (by omega)])
   obtain⟨f1,f2,f3,f4,f5,f6⟩:=f
   have gp:(0:Int) < ((Int.gcd T B:Nat):Int):=by omega
   have gle:((Int.gcd T B:Nat):Int)≤B:=Int.le_of_dvd hB (Int.gcd_dvd_right T B)
   have sg:Sz 4000 ((Int.gcd T B:Nat):Int):=by
    unfold Sz at sB ⊢
    omega
   have eg:Int.gcd (zb8 T) B=Int.gcd T B:=by
    have z:=zro T B
    rw[show zb8 B=B by unfold zb8; split <;> omega] at z
    exact z
   refine⟨fun m dl' S'=>S'=S∧∃(x y:Int),dl'=[some (.int T),some (.int B),some (.int x),some (.int y)]∧0≤x∧0≤y∧Int.gcd x y=Int.gcd T B∧m=y.toNat,⟨B.toNat,rfl,zb8 T,B,rfl,zn8 T,by omega,eg,rfl⟩,?_⟩
   rintro m dl' S' ⟨rfl,x,y,rfl,hx,hy,hg,rfl⟩
   refine ifN (fun c=>?_) (fun c=>?_)
   ·have c':0 < y:=by omega
    exact⟨c',⟨(x % y).toNat,by have:=zbo (a:=x) c'; omega,rfl,y,x % y,rfl,hy,(zbo (a:=x) c').1,(zoP x y).trans hg,rfl⟩⟩
   ·subst c
    have e:((Int.gcd T B:Nat):Int)=x:=by rw[← hg,Int.gcd_zero_right]; omega
    have e1:T / ((Int.gcd T B:Nat):Int)=T.fdiv ((Int.gcd T B:Nat):Int):=(Int.fdiv_eq_ediv_of_nonneg _ (by omega)).symm
    have e2:B / ((Int.gcd T B:Nat):Int)=B.fdiv ((Int.gcd T B:Nat):Int):=(Int.fdiv_eq_ediv_of_nonneg _ (by omega)).symm
    have q:=h _ _ f4 f5 f6 (zka f1 f2) (by have:=zka f1 f3; omega)
    rw[← e1,← e2] at q
    rw[e] at q sg gp
    exact⟨sg.fd gp,sg.fd gp,q⟩
  ·exact h.elim⟩)
def zm1  (d_law_at:Df K mg "_law_at" zh8 zc2):Fk P w K mg base 1 "_law_at" zc2 zcO:=
 d_law_at.mk' (zas (k:=0) d_law_at.F znA (znn) fun cdv A outer s H E hr=>⟨_,(zag (zaQ (zaO (zry hr) (dv 1) (dv 0) rfl) (zaf (zbh (zbJ (dv 0) (dv 1)))) zaW) (zaf (zan (zkQ (k:=1) hr (by decide) (dv 0) (zaa (dv 1) zac))))),fun ds S Q ex h=>by
  unfold zcO at h
  split at h
  ·rename_i a d
   obtain⟨q,v,ns,ws,rfl,ha,l9,net,ok,h16,h⟩:=h
   obtain⟨o,e1,e2,e3⟩:=zgU v ns
   refine zoV (o:=o) ha e2 ?_
   cases o with
   | some j=>
    refine zby ?_
    refine zjl (n:=a) (v:=v) (ns:=ns) (fun K hK=>by exact hK) (fun K hK=>by exact hK) ha e1 ?_
    exact h S j [] [] (by rw[List.append_nil,List.append_nil]; exact net) (by simp) (fun u hu=>by simp at hu) (by rw[List.append_nil]; exact e3 j rfl) (by rw[List.append_nil]; exact ha) rfl fun x o _ e=>e
   | none=>
    refine zbQ ?_
    refine zb0 (n:=a) (S1:=S) (xs:=ns.map Nd.d) (y:=v.d) (fun K hK=>by exact hK) ha (fun K hK=>by exact hK) (by rw[List.length_map]; omega) ?_
    have hm:(S.set a (.lst (ns.map Nd.d++[v.d])))[a]?=some (.lst ((ns++[v]).map Nd.d)):=by
     rw[List.map_append]
     exact zbE ha
    obtain⟨o2,f1,f2,f3⟩:=zgU v (ns++[v])
    cases o2 with
    | none=>
     obtain⟨k,hk⟩:∃k,(ns++[v])[k]?=some v:=⟨ns.length,by simp⟩
     exact absurd f2 (any_some hk)
    | some j=>
     refine zjl (n:=a) (v:=v) (ns:=ns++[v]) (fun K hK=>by exact hK) (fun K hK=>by exact hK) hm f1 ?_
     exact h _ j [v] [v.wt ws] (net.snoc ok h16) (by simp) (fun u hu=>List.mem_singleton.mp hu) (f3 j rfl) hm (by simp) fun x o hx e=>za5 e (Ne.symm hx)
  ·exact h.elim⟩)
def zmw  (d_law_factors:Df K mg "_law_factors" zhl zf5)(G_law_at:Fk P w K mg base 1 "_law_at" zc2 zcO)(G_law_lowest:Fk P w K mg base 1 "_law_lowest" zdz zd1)(z_range:mg "range"=none)(z_len:mg "len"=none):Fk P w K mg base 2 "_law_factors" zf5 zgi:=
 d_law_factors.mk' (zas (k:=1) d_law_factors.F zfP (znZ) fun cdv A outer s H E hr=>⟨_,(zag (zar (i:=3) zfP.nd rfl (Or.inl rfl) (zbx zac)) (zag (zcp (i:=4) PassesOwn.never rfl zfP.nd rfl (Or.inl rfl) rfl z_range (zaa (za7 (zba zbG) rfl z_len PyProof.Rows.Boot.«len» (zaa (dv 1) zac)) zac) (zag (zar (i:=5) zfP.nd rfl (Or.inl rfl) (zak G_law_lowest hr (zaa (zam (zaA (dv 1) (dv 4) (fun _ _=>rfl)) zab (fun _ _=>rfl)) (zaa (zam (zaA (dv 1) (dv 4) (fun _ _=>rfl)) zab (fun _ _=>rfl)) zac)))) (zag (zar (i:=6) zfP.nd rfl (Or.inl rfl) (zak G_law_at hr (zaa (dv 0) (zaa (zaP (zaa zbe (zaa (zam (dv 5) zab (fun _ _=>rfl)) (zaa (zam (dv 5) zab (fun _ _=>rfl)) zac)))) zac)))) (zaf (zbh (zbJ (dv 3) (zak G_law_at hr (zaa (dv 0) (zaa (zaP (zaa zbe (zaa (dv 4) (zaa (dv 6) zac)))) zac))))))))) (zaf (zan (dv 3))))),fun ds S Q ex h=>by
  unfold zgi at h
  split at h
  ·rename_i a p g
   obtain⟨q,P,ns,ws,ha,hp,ap,net,hq,q4,l7,unk,hv,zP,h⟩:=h
   have la:=za2 ha
   refine zbT (zao hp) ?_
   rw[List.length_map]
   refine⟨⟨by omega,by omega⟩,fun k dl' S'=>k≤P.length∧(∃(ms:List Nd) (us fs:List Nat),zaz q (ns++ms) (ws++us)∧ms.length≤2 * k∧S'[a]?=some (.lst ((ns++ms).map Nd.d))∧S'[S.length]?=some (.lst (fs.map wtD))∧fs.length=k∧(∀f∈fs,f < (ns++ms).length∧(ws++us).getD f 0=2∧(gt (zai P (ns++ms)) (f:Int)).1=0)∧(∀(i:Nat) (v:Nd),(ns++ms)[i]?=some v→(ws++us).getD i 0=v.hv)∧(∀(x:Nat) (o:Ob),x≠a→S[x]?=some o→S'[x]?=some o))∧∃u4 u5 u6:Option D,dl'=[some (.ref a),some (.ref p),some (.int g),some (.ref S.length),u4,u5,u6],⟨Nat.zero_le _,⟨[],[],[],by rw[List.append_nil,List.append_nil]; exact net,by simp,by rw[List.append_nil]; exact zao ha,zat _ _,rfl,fun f hf=>by simp at hf,by rw[List.append_nil,List.append_nil]; exact hv,fun x o _ e=>zao e⟩,_,_,_,rfl⟩,?_⟩
   rintro k dl' S' ⟨hk,⟨ms,us,fs,net',lm,hS,hF,lf,zf,hv',kp⟩,u4,u5,u6,rfl⟩
   rw[Int.toNat_natCast]
   refine zch (fun c=>?_) (fun c=>?_)
   ·have kr:inR ((P.length:Nat):Int) (k:Int):=⟨by omega,by omega⟩
    have hp':=kp _ _ (Ne.symm ap) hp
    have zk:=zP _ (zdY kr)
    refine zay (o:=.lst (P.map frD)) hp' (za0 kr) ?_
    refine zay (o:=.lst (P.map frD)) hp' (za0 kr) ?_
    refine⟨⟨by omega,Sz.of (n:=4000) (10 ^ 10) (by omega)⟩,fun t b b1 tg te tt tb=>?_⟩
    have ln:ns.length≤(ns++ms).length:=by rw[List.length_append]; omega
    have lnm:(ns++ms).length < 710:=by rw[List.length_append]; omega
    refine⟨q,.number t b,ns++ms,ws++us,rfl,hS,by omega,net',⟨⟨b1,by omega⟩,tg,by omega⟩,show 1≤16 by decide,fun T j m2 u2 n2 l2 al hj hT lT kT=>?_⟩
    have hjl:=(List.getElem?_eq_some_iff.mp hj).1
    have hvT:=zld net' n2 hv' al rfl
    have hkn:k < ns.length:=(List.getElem?_eq_some_iff.mp (unk k (by omega))).1
    have unkT:(ns++ms++m2)[k]?=some (.unknown (k:Int)):=by
     rw[List.getElem?_append_left (by omega),List.getElem?_append_left hkn]
     exact unk k (by omega)
    have wk:(ws++us++u2).getD k 0=1:=hvT k _ unkT
    have wj:(ws++us++u2).getD j 0=1:=hvT j _ hj
    have lk:=(List.getElem?_eq_some_iff.mp unkT).1
    have sl:=za2 hF
    refine zhk (n:=S.length) (xs:=fs.map wtD) (fun K hK=>by exact hK) (kT _ _ (by omega) hF) (fun K hK=>?_) (by rw[List.length_map]; omega)
    refine⟨q,.minus k j,ns++ms++m2,ws++us++u2,rfl,hT,by rw[List.length_append]; omega,n2,⟨⟨by omega,by omega⟩,⟨by omega,by omega⟩⟩,?_,fun T2 j2 m3 u3 n3 l3 al3 hj2 hT2 lT2 kT2=>?_⟩
    ·show (ws++us++u2).getD ((k:Nat):Int).toNat 0 + (ws++us++u2).getD ((j:Nat):Int).toNat 0≤16
     rw[Int.toNat_natCast,Int.toNat_natCast,wk,wj]
     decide
    ·have hF2:=kT2 _ _ (show S.length≠a by omega) (kT _ _ (by omega) hF)
     have w3:Nd.wt (ws++us++u2++u3) (.minus (k:Int) (j:Int))=Nd.hv (.minus (k:Int) (j:Int)):=by
      show (ws++us++u2++u3).getD ((k:Nat):Int).toNat 0 + (ws++us++u2++u3).getD ((j:Nat):Int).toNat 0=2
      rw[Int.toNat_natCast,Int.toNat_natCast,zbz (ws:=ws++us++u2) (us:=u3) (by rw[n2.len]; omega),zbz (ws:=ws++us++u2) (us:=u3) (by rw[n2.len]; omega),wk,wj]
     have hv3:=zld n2 n3 hvT al3 w3
     have l3':=(List.getElem?_eq_some_iff.mp hj2).1
     have zj2:(gt (zai P (ns++ms++m2++m3)) (j2:Int)).1=0:=by
      rw[zfT (P:=P) n3 hj2]
      have a1:gt (zai P (ns++ms++m2++m3)) (k:Int)=gt P (k:Int):=by
       rw[zbv ⟨by omega,by omega⟩,zfT (P:=P) n2 unkT]
       rfl
      have a2:gt (zai P (ns++ms++m2++m3)) (j:Int)=(t,b):=by
       rw[zbv ⟨by omega,by omega⟩,zfT (P:=P) n2 hj]
       rfl
      show (gt (zai P (ns++ms++m2++m3)) (k:Int)).1 * (gt (zai P (ns++ms++m2++m3)) (j:Int)).2 - (gt (zai P (ns++ms++m2++m3)) (j:Int)).1 * (gt (zai P (ns++ms++m2++m3)) (k:Int)).2=0
      rw[a1,a2]
      show (gt P (k:Int)).1 * b - t * (gt P (k:Int)).2=0
      omega
     have eN:ns++ms++m2++m3=ns++(ms++(m2++m3)):=by simp
     have eW:ws++us++u2++u3=ws++(us++(u2++u3)):=by simp
     have zf3:∀f∈fs++[j2],f < (ns++ms++m2++m3).length∧(ws++us++u2++u3).getD f 0=2∧(gt (zai P (ns++ms++m2++m3)) (f:Int)).1=0:=by
      intro f hf
      rcases List.mem_append.mp hf with w | w
      ·obtain⟨z1,z2,z3⟩:=zf f w
       have g1:f < (ns++ms++m2).length:=by rw[List.length_append]; omega
       refine⟨by rw[List.length_append]; omega,?_,?_⟩
       ·rw[zbz (ws:=ws++us++u2) (us:=u3) (by rw[n2.len]; exact g1),zbz (ws:=ws++us) (us:=u2) (by rw[net'.len]; exact z1)]
        exact z2
       ·rw[zbv ⟨by omega,by omega⟩,zbv ⟨by omega,by omega⟩]
        exact z3
      ·rw[List.mem_singleton.mp w]
       exact⟨l3',by rw[hv3 j2 _ hj2]; rfl,zj2⟩
     rw[eN,eW] at n3 zf3 hv3
     rw[eN] at hT2
     refine hK _ _ hF2 ⟨by omega,⟨ms++(m2++m3),us++(u2++u3),fs++[j2],n3,by rw[List.length_append,List.length_append]; omega,za5 hT2 (by omega),by rw[List.map_append]; exact zbE hF2,by rw[List.length_append,lf]; rfl,zf3,hv3,fun x o hx e=>?_⟩,_,_,_,rfl⟩
     have:=za2 e
     exact za5 (kT2 x o hx (kT x o hx (kp x o hx e))) (by omega)
   ·have e:k=P.length:=by omega
    exact h _ _ ms us fs net' (by omega) hS hF (by omega) zf hv' (Nat.le_refl _) kp
  ·exact h.elim⟩)
def zon  (d_law_cell:Df K mg "_law_cell" zh7 zc3)(z_len:mg "len"=none):Fk P w K mg base 1 "_law_cell" zc3 zcQ:=
 d_law_cell.mk' (zas (k:=0) d_law_cell.F zn1 (zoj) fun cdv A outer s H E hr=>⟨_,(zag (zaQ (zaO zgL (dv 1) (za7 zbG rfl z_len PyProof.Rows.Boot.«len» (zaa (dv 0) zac)) (zaL _)) (zaf (zan (zam (dv 0) (dv 1) (fun _ _=>rfl)))) zaW) (zaf (zan zab))),fun ds S Q ex h=>by
  unfold zcQ at h
  split at h
  ·rename_i n k
   obtain⟨ns,h1,h2,h3⟩:=h
   simp only[zlC,zgb,zkw,dRet,dRetN,dIf,zfq,zgM,dC,dOp,dUn,wI,wI0,wIf,zgT,dNot,dAnd,dOr,zk8,dOrV,zjU,dIfE,zhw,dNil,zjM,dTup,dLst,wIx,zgB,zhE,zjH,wAbs,zcW,ze1,wEq,wNe,wIsN,wNotN,wNeg,zdk,List.map_cons,List.map_nil,List.length_cons,List.length_nil,List.cons_append,List.nil_append,Nat.reduceAdd,Nat.reduceSub,List.replicate,List.getElem?_cons_zero,List.getElem?_cons_succ,List.set_cons_zero,List.set_cons_succ,ite_true,ite_false,if_true,if_false,Nat.reduceLeDiff,eq_self,p40,p41,p20,zeI,powB,Int.reduceLT,Int.reduceLE,Int.reduceNeg,decide_true,Bool.and_self,Bool.and_true,Bool.true_and,L3.eq1,L3.eq2,L3.eqT,L3.eqF,L3.eqL]
   have hA:lAt S n=some (.frz (ns.map D.int)):=zaB h1 rfl
   simp only[hA,zah,List.length_map]
   refine zch (fun c=>?_) (fun c=>?_)
   ·have c':k < (ns.length:Int):=of_decide_eq_true c
    have hk:k.toNat < ns.length:=(by omega)
    have e:atI (ns.map D.int) k=some (.int ns[k.toNat]):=by
     have z:=zcr (xs:=ns.map D.int) (j:=k.toNat) (v:=.int ns[k.toNat]) (by simp[hk])
     rw[show ((k.toNat:Nat):Int)=k by omega] at z
     exact z
    simp only[e]
    rw[List.getD_eq_getElem?_getD,List.getElem?_eq_getElem hk] at h3
    exact h3
   ·have c':¬ k < (ns.length:Int):=fun z=>c (decide_eq_true z)
    rw[List.getD_eq_getElem?_getD,List.getElem?_eq_none (by omega)] at h3
    exact h3
  ·exact h.elim⟩)
def zmH  (d_law_sum:Df K mg "_law_sum" zhQ zf8)(G_law_at:Fk P w K mg base 1 "_law_at" zc2 zcO):Fk P w K mg base 2 "_law_sum" zf8 zey:=
 d_law_sum.mk' (zas (k:=1) d_law_sum.F zie (zmL) fun cdv A outer s H E hr=>⟨_,(zag (zar (i:=2) zie.nd rfl (Or.inl rfl) (zaA (dv 1) zab (fun _ _=>rfl))) (zag (zdA (i:=3) PassesOwn.never rfl zie.nd rfl (Or.inl rfl) (zkp (dv 1) (zjm zab) zoO) (zaf (zar (i:=2) zie.nd rfl (Or.inl rfl) (zak G_law_at hr (zaa (dv 0) (zaa (zaP (zaa zbe (zaa (dv 2) (zaa (dv 3) zac)))) zac)))))) (zaf (zan (dv 2))))),fun ds S Q ex h=>by
  unfold zey at h
  split at h
  ·rename_i a p
   obtain⟨q,B,P,ns,ws,is,ha,hp,ap,net,⟨i1,i4⟩,b16,l8,his,h⟩:=h
   have h0:is[0]?=some is[0]:=List.getElem?_eq_getElem (by omega)
   generalize is[0]=j0 at h0
   have z0:=his j0 (List.mem_of_getElem? h0)
   refine zay (o:=.lst (is.map wtD)) hp (d:=.int (j0:Int)) (zcr (j:=0) (by show (is.map wtD)[0]?=_; rw[List.getElem?_map,h0]; rfl)) ?_
   have la:=za2 ha
   refine zkz (n:=p) (o:=.lst (is.map wtD)) (lo:=some 1) (hi:=none) (S3:=S) (fun K hK=>by exact hK) (fun K hK=>by exact hK) (fun K hK=>by exact hK) hp ?_
   have ec:zaT (is.map wtD) (some 1) none=(is.drop 1).map wtD:=by rw[zm6,List.map_drop]
   have ecut:(zah (Ob.lst (zaT (is.map wtD) (some 1) none))).length=is.length - 1:=by
    show (zaT (is.map wtD) (some 1) none).length=_
    rw[ec,List.length_map,List.length_drop]
   refine zdr (n:=S.length) (o:=.lst (zaT (is.map wtD) (some 1) none)) (fun k dl' S'=>∃(j:Nat) (ms:List Nd) (us:List Nat),zaz q (ns++ms) (ws++us)∧ms.length≤k∧j < (ns++ms).length∧(ws++us).getD j 0≤(k + 1) * B∧(gt (zai P (ns++ms)) (j:Int)).1=0∧S'[a]?=some (.lst ((ns++ms).map Nd.d))∧S'.length=S.length + 1∧(∀(x:Nat) (o:Ob),x≠a→S[x]?=some o→S'[x]?=some o)∧S'[S.length]?=some (.lst (zaT (is.map wtD) (some 1) none))∧∃u:Option D,dl'=[some (.ref a),some (.ref p),some (.int (j:Int)),u]) ⟨j0,[],[],by rw[List.append_nil,List.append_nil]; exact net,by simp,by simp[z0.1],by rw[List.append_nil]; have:=z0.2.1; omega,by rw[List.append_nil]; exact z0.2.2,by rw[List.append_nil]; exact zao ha,by simp,fun x o _ e=>zao e,zat _ _,_,rfl⟩ (fun k dl' S' ⟨_,_,_,_,_,_,_,_,_,_,_,e,_⟩=>e) ?_ ?_
   ·rintro k x dl' S' nx ct ex' ⟨j,ms,us,net',lm,hj,wj,zj,hS,lS,kp,e4,u,rfl⟩ hn
    have hx:(zaT (is.map wtD) (some 1) none)[k]?=some x:=ex'
    have hk:=(List.getElem?_eq_some_iff.mp hx).1
    rw[ec] at hx
    rw[ec,List.length_map,List.length_drop] at hk
    rw[List.getElem?_map] at hx
    obtain⟨i,hi,rfl⟩:=Option.map_eq_some_iff.mp hx
    have him:=his i (List.mem_of_mem_drop (List.mem_of_getElem? hi))
    have lni:ns.length≤(ns++ms).length:=by rw[List.length_append]; omega
    have wi:(ws++us).getD i 0=ws.getD i 0:=zbz (by rw[net.len]; exact him.1)
    have zi:(gt (zai P (ns++ms)) (i:Int)).1=0:=by rw[zbv ⟨by omega,by omega⟩]; exact him.2.2
    have okv:(Nd.plus (j:Int) (i:Int)).ok ((ns++ms).length:Nat) q:=⟨⟨by omega,by omega⟩,⟨by omega,by omega⟩⟩
    have wv:Nd.wt (ws++us) (.plus (j:Int) (i:Int))≤(k + 1 + 1) * B:=by
     show (ws++us).getD ((j:Nat):Int).toNat 0 + (ws++us).getD ((i:Nat):Int).toNat 0≤_
     rw[Int.toNat_natCast,Int.toNat_natCast,wi]
     have e:(k + 1 + 1) * B=(k + 1) * B + B:=Nat.succ_mul (k + 1) B
     have:=him.2.1
     omega
    have hB:(k + 1 + 1) * B≤16:=Nat.le_trans (Nat.mul_le_mul_right B (show k + 1 + 1≤is.length by omega)) b16
    refine⟨q,.plus j i,ns++ms,ws++us,rfl,hS,by rw[List.length_append]; omega,net',okv,by omega,fun T j2 ms2 us2 net2 l2 _ hj2 hT lT kT=>?_⟩
    rw[List.append_assoc,List.append_assoc] at net2
    rw[List.append_assoc] at hj2 hT
    have hlt:=(List.getElem?_eq_some_iff.mp hj2).1
    refine hn _ _ ⟨j2,ms++ms2,us++us2,net2,by rw[List.length_append]; omega,hlt,?_,?_,hT,by omega,fun x o hx e=>kT x o hx (kp x o hx e),kT _ _ (by omega) e4,_,rfl⟩
    ·have w2:=(net2.ok j2 _ hj2).2.1
     rw[w2]
     have e:Nd.wt (ws++(us++us2)) (.plus (j:Int) (i:Int))=Nd.wt (ws++us) (.plus (j:Int) (i:Int)):=by
      rw[← List.append_assoc]
      show ((ws++us)++us2).getD ((j:Nat):Int).toNat 0 + ((ws++us)++us2).getD ((i:Nat):Int).toNat 0=(ws++us).getD ((j:Nat):Int).toNat 0 + (ws++us).getD ((i:Nat):Int).toNat 0
      rw[Int.toNat_natCast,Int.toNat_natCast,zbz (ws:=ws++us) (us:=us2) (by rw[net'.len]; exact hj),zbz (ws:=ws++us) (us:=us2) (by rw[net'.len]; omega)]
     rw[e]
     exact wv
    ·have d:=zfT (P:=P) net2 hj2
     rw[d]
     have a1:gt (zai P (ns++(ms++ms2))) (j:Int)=gt (zai P (ns++ms)) (j:Int):=by rw[← List.append_assoc]; exact zbv ⟨by omega,by omega⟩
     have a2:gt (zai P (ns++(ms++ms2))) (i:Int)=gt (zai P (ns++ms)) (i:Int):=by rw[← List.append_assoc]; exact zbv ⟨by omega,by omega⟩
     show (gt (zai P (ns++(ms++ms2))) (j:Int)).1 * (gt (zai P (ns++(ms++ms2))) (i:Int)).2 + (gt (zai P (ns++(ms++ms2))) (i:Int)).1 * (gt (zai P (ns++(ms++ms2))) (j:Int)).2=0
     rw[a1,a2,zj,zi]
     omega
   ·rintro dl' S' ⟨j,ms,us,net',lm,hj,wj,zj,hS,lS,kp,e4,u,rfl⟩
    rw[ecut] at lm
    exact h _ j ms us net' (by omega) hS hj zj (by omega) kp
  ·exact h.elim⟩)
def zqJ  (d_law_equations:Df K mg "_law_equations" zic zeE)(G_law_cell:Fk P w K mg base 1 "_law_cell" zc3 zcQ)(G_law_sum:Fk P w K mg base 2 "_law_sum" zf8 zey)(G_law_at:Fk P w K mg base 1 "_law_at" zc2 zcO)(z_len:mg "len"=none)(z_range:mg "range"=none):Fk P w K mg base 3 "_law_equations" zeE zgc:=
 d_law_equations.mk' (zas (k:=2) d_law_equations.F zcE (zrP) fun cdv A outer s H E hr=>⟨_,(zag (zar (i:=4) zcE.nd rfl (Or.inl rfl) (za7 (zba zbG) rfl z_len PyProof.Rows.Boot.«len» (zaa (dv 2) zac))) (zag (zar (i:=5) zcE.nd rfl (Or.inl rfl) (zbx zac)) (zag (zcp (i:=6) PassesOwn.never rfl zcE.nd rfl (Or.inl rfl) rfl z_range (zaa (dv 4) zac) (zag (zar (i:=7) zcE.nd rfl (Or.inl rfl) (zbx zac)) (zag (zcp (i:=8) PassesOwn.never rfl zcE.nd rfl (Or.inl rfl) rfl z_range (zaa (dv 4) zac) (zag (zar (i:=9) zcE.nd rfl (Or.inl rfl) (zad zb7 (zak G_law_cell hr (zaa (dv 0) (zaa (zad zaZ (zad zaZ zab (zad zaU zab (dv 6))) (dv 8)) zac))) (dv 3))) (zaf (zbh (zbJ (dv 7) (zak G_law_at hr (zaa (dv 1) (zaa (zaP (zaa zbe (zaa (dv 9) (zaa (zaA (dv 2) (dv 8) (fun _ _=>rfl)) zac)))) zac)))))))) (zaf (zbh (zbJ (dv 5) (zaP (zaa zbe (zaa (zak G_law_sum hr (zaa (dv 1) (zaa (dv 7) zac))) zac))))))))) (zag (zar (i:=10) zcE.nd rfl (Or.inl rfl) (zak G_law_cell hr (zaa (dv 0) (zaa zab zac)))) (zag (zaQ (zaO (zhj hr) (zad zaJ (dv 10) zab) zab (zaL _)) (zaf (zbh (zrd (dv 5) (zaa (zad zb7 (zad za4 (dv 10) zab) (zad zaZ (dv 4) zab)) (zaa (zaP (zaa zbe (zaa (zad zb7 (zad za4 (dv 10) zab) (za7 (zba zbG) rfl z_len PyProof.Rows.Boot.«len» (zaa (dv 1) zac))) zac))) zac))))) zaW) (zaf (zan (dv 5)))))))),fun ds S Q ex h=>by
  unfold zgc at h
  split at h
  ·rename_i sc a f mi
   obtain⟨cs,q,M,P,ns,ws,fs,hsc,ha,hf,af,net,rfl,⟨f1,f4⟩,b16,l7,wM,zf,h⟩:=h
   have la:=za2 ha
   have asc:sc≠a:=fun e=>by rw[e,ha] at hsc; cases hsc
   have n1:1≤ns.length:=by
    have z:=zf fs[0] (List.getElem_mem (by omega))
    omega
   refine zbT hf ?_
   rw[List.length_map]
   refine⟨⟨by omega,by omega⟩,fun k dl' S'=>k≤fs.length∧(∃(ms:List Nd) (us rs:List Nat),zaz q (ns++ms) (ws++us)∧ms.length≤8 * k∧S'[a]?=some (.lst ((ns++ms).map Nd.d))∧S'[S.length]?=some (.lst (rs.map fun i=>rwD (true,i)))∧rs.length=k∧(∀i∈rs,i < (ns++ms).length∧(gt (zai P (ns++ms)) (i:Int)).1=0)∧(∀(x:Nat) (o:Ob),x≠a→S[x]?=some o→S'[x]?=some o))∧∃u6 u7 u8 u9 u10:Option D,dl'=[some (.ref sc),some (.ref a),some (.ref f),some (.int (ns.length:Nat)),some (.int (fs.length:Nat)),some (.ref S.length),u6,u7,u8,u9,u10],⟨Nat.zero_le _,⟨[],[],[],by rw[List.append_nil,List.append_nil]; exact net,by simp,by rw[List.append_nil]; exact zao ha,zat _ _,rfl,fun i hi=>by simp at hi,fun x o _ e=>zao e⟩,_,_,_,_,_,rfl⟩,?_⟩
   rintro k dl' S' ⟨hk,⟨ms,us,rs,net',lm,hS,hR,lr,zr,kp⟩,u6,u7,u8,u9,u10,rfl⟩
   rw[Int.toNat_natCast]
   refine zch (fun c=>?_) (fun c=>?_)
   ·have lt:=za2 hR
    have la':=za2 hS
    have ln:(ns++ms).length=ns.length + ms.length:=List.length_append
    try dsimp only
    refine zkJ (fun dl2 S2=>∃(m2:List Nd) (u2 ps:List Nat),zaz q (ns++ms++m2) (ws++us++u2)∧m2.length≤fs.length∧S2[a]?=some (.lst ((ns++ms++m2).map Nd.d))∧S2[S'.length]?=some (.lst (ps.map wtD))∧ps.length=fs.length∧(∀i∈ps,i < (ns++ms++m2).length∧(ws++us++u2).getD i 0≤M + 2∧(gt (zai P (ns++ms++m2)) (i:Int)).1=0)∧(∀(x:Nat) (o:Ob),x≠a→S'[x]?=some o→S2[x]?=some o)∧∃u8 u9 u10:Option D,dl2=[some (.ref sc),some (.ref a),some (.ref f),some (.int (ns.length:Nat)),some (.int (fs.length:Nat)),some (.ref S.length),some (.int (k:Nat)),some (.ref S'.length),u8,u9,u10]) (fun nx hn=>?_) ?_
    ·refine⟨⟨by omega,by omega⟩,fun l dl2 S2=>l≤fs.length∧(∃(m2:List Nd) (u2 ps:List Nat),zaz q (ns++ms++m2) (ws++us++u2)∧m2.length≤l∧S2[a]?=some (.lst ((ns++ms++m2).map Nd.d))∧S2[S'.length]?=some (.lst (ps.map wtD))∧ps.length=l∧(∀i∈ps,i < (ns++ms++m2).length∧(ws++us++u2).getD i 0≤M + 2∧(gt (zai P (ns++ms++m2)) (i:Int)).1=0)∧(∀(x:Nat) (o:Ob),x≠a→S'[x]?=some o→S2[x]?=some o))∧∃u8 u9 u10:Option D,dl2=[some (.ref sc),some (.ref a),some (.ref f),some (.int (ns.length:Nat)),some (.int (fs.length:Nat)),some (.ref S.length),some (.int (k:Nat)),some (.ref S'.length),u8,u9,u10],⟨Nat.zero_le _,⟨[],[],[],by rw[List.append_nil,List.append_nil]; exact net',by simp,by rw[List.append_nil]; exact zao hS,zat _ _,rfl,fun i hi=>by simp at hi,fun x o _ e=>zao e⟩,_,_,_,rfl⟩,?_⟩
     rintro l dl2 S2 ⟨hl,⟨m2,u2,ps,n2,l2,hS2,hP2,lp,zp,kp2⟩,v8,v9,v10,rfl⟩
     rw[Int.toNat_natCast]
     refine zch (fun c2=>?_) (fun c2=>?_)
     ·have ln2:(ns++ms++m2).length=ns.length + ms.length + m2.length:=by rw[List.length_append,ln]
      refine⟨IntMulOk.of_left (by decide),cs,kp2 _ _ asc (kp _ _ asc hsc),show (0:Int)≤27 + 4 * (k:Int) + (l:Int) by omega,?_⟩
      generalize cs.getD (27 + 4 * (k:Int) + (l:Int)).toNat 0=x
      have np:(0:Int) < (ns.length:Nat):=by omega
      have xr:=zbo (a:=x) np
      refine⟨np,?_⟩
      obtain⟨w,hw⟩:∃w:Nat,x % ((ns.length:Nat):Int)=(w:Int):=⟨(x % ((ns.length:Nat):Int)).toNat,by omega⟩
      have wl:w < ns.length:=by omega
      have ltp:=za2 hP2
      refine zhk (n:=S'.length) (xs:=ps.map wtD) (fun K hK=>by exact hK) hP2 (fun K hK=>?_) (by rw[List.length_map]; omega)
      have h0:fs[l]?=some fs[l]:=List.getElem?_eq_getElem (by omega)
      generalize fs[l]=fl at h0
      have z0:=zf fl (List.mem_of_getElem? h0)
      refine zay (o:=.lst (fs.map wtD)) (kp2 _ _ (Ne.symm af) (kp _ _ (Ne.symm af) hf)) (d:=.int (fl:Int)) (zcr (j:=l) (by show (fs.map wtD)[l]?=_; rw[List.getElem?_map,h0]; rfl)) ?_
      have gw:∀i:Nat,i < ns.length→(ws++us++u2).getD i 0=ws.getD i 0:=fun i hi=>by
       rw[zbz (ws:=ws++us) (us:=u2) (by rw[net'.len]; omega),zbz (ws:=ws) (us:=us) (by rw[net.len]; exact hi)]
      have gd:∀ {m3:List Nd} (i:Nat),i < ns.length→gt (zai P (ns++ms++m2++m3)) (i:Int)=gt (zai P ns) (i:Int):=fun {m3} i hi=>by
       rw[zbv ⟨by omega,by omega⟩,zbv ⟨by omega,by omega⟩,zbv ⟨by omega,by omega⟩]
      have M16:M + 2≤16:=Nat.le_trans (Nat.le_mul_of_pos_left (M + 2) f1) b16
      have wv:Nd.wt (ws++us++u2) (.times (w:Int) (fl:Int))≤M + 2:=by
       show (ws++us++u2).getD ((w:Nat):Int).toNat 0 + (ws++us++u2).getD ((fl:Nat):Int).toNat 0≤M + 2
       rw[Int.toNat_natCast,Int.toNat_natCast,gw w wl,gw fl z0.1,z0.2.1]
       have:=wM w
       omega
      refine⟨q,.times w fl,ns++ms++m2,ws++us++u2,congrArg (fun z:Int=>D.tup [.str "times",.int z,.int (fl:Int)]) hw,hS2,by omega,n2,⟨⟨by omega,by omega⟩,⟨by omega,by omega⟩⟩,by omega,fun T j m3 u3 n3 l3 al hj hT lT kT=>?_⟩
      have hP3:=kT _ _ (show S'.length≠a by omega) hP2
      have lj:=(List.getElem?_eq_some_iff.mp hj).1
      have wj:(ws++us++u2++u3).getD j 0≤M + 2:=by
       rw[(n3.ok j _ hj).2.1]
       have e:Nd.wt (ws++us++u2++u3) (.times (w:Int) (fl:Int))=Nd.wt (ws++us++u2) (.times (w:Int) (fl:Int)):=by
        show (ws++us++u2++u3).getD ((w:Nat):Int).toNat 0 + (ws++us++u2++u3).getD ((fl:Nat):Int).toNat 0=(ws++us++u2).getD ((w:Nat):Int).toNat 0 + (ws++us++u2).getD ((fl:Nat):Int).toNat 0
        rw[Int.toNat_natCast,Int.toNat_natCast,zbz (ws:=ws++us++u2) (us:=u3) (by rw[n2.len]; omega),zbz (ws:=ws++us++u2) (us:=u3) (by rw[n2.len]; omega)]
       rw[e]
       exact wv
      have zj:(gt (zai P (ns++ms++m2++m3)) (j:Int)).1=0:=by
       rw[zfT (P:=P) n3 hj]
       show (gt (zai P (ns++ms++m2++m3)) (w:Int)).1 * (gt (zai P (ns++ms++m2++m3)) (fl:Int)).1=0
       rw[gd fl z0.1,z0.2.2,Int.mul_zero]
      have zp3:∀i∈ps++[j],i < (ns++ms++m2++m3).length∧(ws++us++u2++u3).getD i 0≤M + 2∧(gt (zai P (ns++ms++m2++m3)) (i:Int)).1=0:=by
       intro i hi
       rcases List.mem_append.mp hi with y | y
       ·obtain⟨z1,z2,z3⟩:=zp i y
        refine⟨by rw[List.length_append]; omega,?_,?_⟩
        ·rw[zbz (ws:=ws++us++u2) (us:=u3) (by rw[n2.len]; exact z1)]
         exact z2
        ·rw[zbv ⟨by omega,by omega⟩]
         exact z3
       ·rw[List.mem_singleton.mp y]
        exact⟨lj,wj,zj⟩
      have eN:ns++ms++m2++m3=ns++ms++(m2++m3):=by simp
      have eW:ws++us++u2++u3=ws++us++(u2++u3):=by simp
      rw[eN,eW] at n3 zp3
      rw[eN] at hT
      refine hK _ _ hP3 ⟨by omega,⟨m2++m3,u2++u3,ps++[j],n3,by rw[List.length_append]; omega,za5 hT (by omega),by rw[List.map_append]; exact zbE hP3,by rw[List.length_append,lp]; rfl,zp3,fun x o hx e=>?_⟩,_,_,_,rfl⟩
      have:=za2 e
      exact za5 (kT x o hx (kp2 x o hx e)) (by omega)
     ·have e:l=fs.length:=by omega
      subst e
      exact hn _ _ ⟨m2,u2,ps,n2,l2,hS2,hP2,lp,zp,kp2,_,_,_,rfl⟩
    ·rintro dl2 S2 ⟨m2,u2,ps,n2,l2,hS2,hP2,lp,zp,kp2,v8,v9,v10,rfl⟩
     have ln2:(ns++ms++m2).length=ns.length + ms.length + m2.length:=by rw[List.length_append,ln]
     refine zhk (n:=S.length) (xs:=rs.map fun i=>rwD (true,i)) (fun K hK=>by exact hK) (kp2 _ _ (by omega) hR) (fun K hK=>?_) (by rw[List.length_map]; omega)
     refine⟨q,M + 2,P,ns++ms++m2,ws++us++u2,ps,hS2,hP2,by omega,n2,⟨by omega,by omega⟩,by rw[lp]; exact b16,by omega,zp,fun T j m3 u3 n3 l3 hT lj zj lT kT=>?_⟩
     have hR3:=kT _ _ (show S.length≠a by omega) (kp2 _ _ (by omega) hR)
     have zr3:∀i∈rs++[j],i < (ns++ms++m2++m3).length∧(gt (zai P (ns++ms++m2++m3)) (i:Int)).1=0:=by
      intro i hi
      rcases List.mem_append.mp hi with y | y
      ·obtain⟨z1,z3⟩:=zr i y
       refine⟨by rw[List.length_append]; omega,?_⟩
       rw[zbv ⟨by omega,by omega⟩,zbv ⟨by omega,by omega⟩]
       exact z3
      ·rw[List.mem_singleton.mp y]
       exact⟨lj,zj⟩
     have eN:ns++ms++m2++m3=ns++(ms++(m2++m3)):=by simp
     have eW:ws++us++u2++u3=ws++(us++(u2++u3)):=by simp
     rw[eN] at zr3 hT
     rw[eN,eW] at n3
     refine hK _ _ hR3 ⟨by omega,⟨ms++(m2++m3),us++(u2++u3),rs++[j],n3,by rw[List.length_append,List.length_append]; omega,za5 hT (by omega),by rw[List.map_append]; exact zbE hR3,by rw[List.length_append,lr]; rfl,zr3,fun x o hx e=>?_⟩,_,_,_,_,_,rfl⟩
     have:=za2 e
     exact za5 (kT x o hx (kp2 x o hx (kp x o hx e))) (by omega)
   ·have e:k=fs.length:=by omega
    subst e
    have ln:(ns++ms).length=ns.length + ms.length:=List.length_append
    have eR:(rs.map fun i=>rwD (true,i))=(rs.map fun i=>((true,i):Bool×Nat)).map rwD:=by rw[List.map_map]; rfl
    refine⟨cs,kp _ _ asc hsc,by decide,?_⟩
    generalize cs.getD (59:Int).toNat 0=x
    refine ifN (fun e=>?_) (fun e=>?_)
    ·have np:(0:Int) < (fs.length:Nat) + 1:=by omega
     have xr:=zbo (a:=x / 3) np
     have nq:(0:Int) < ((ns++ms).length:Nat):=by omega
     have yr:=zbo (a:=x / 15) nq
     obtain⟨w,hw⟩:∃w:Nat,x / 15 % (((ns++ms).length:Nat):Int)=(w:Int):=⟨(x / 15 % (((ns++ms).length:Nat):Int)).toNat,by omega⟩
     refine zrI (n:=S.length) (S1:=S') (S2:=S') (i:=x / 3 % ((fs.length:Nat) + 1)) (y:=rwD (false,w)) (xs:=rs.map fun i=>rwD (true,i)) (fun K hK=>by exact hK) hR (fun K hK=>⟨np,?_⟩) hR ⟨xr.1,by rw[List.length_map]; omega,by rw[List.length_map]; omega⟩ ?_
     ·refine zbT hS ?_
      rw[List.length_map]
      refine⟨nq,?_⟩
      have e:D.tup [.str "least",.int (x / 15 % (((ns++ms).length:Nat):Int))]=rwD (false,w):=congrArg (fun z:Int=>D.tup [.str "least",.int z]) hw
      rw[← e] at hK
      exact hK
     ·generalize (x / 3 % ((fs.length:Nat) + 1:Int)).toNat=i at *
      have eR2:(rs.map fun i=>rwD (true,i)).take i++rwD (false,w)::(rs.map fun i=>rwD (true,i)).drop i=((rs.map fun i=>((true,i):Bool×Nat)).take i++(false,w)::(rs.map fun i=>((true,i):Bool×Nat)).drop i).map rwD:=by
       rw[eR,List.map_append,List.map_cons,List.map_take,List.map_drop]
      have eq2:eqs ((rs.map fun i=>((true,i):Bool×Nat)).take i++(false,w)::(rs.map fun i=>((true,i):Bool×Nat)).drop i)=rs:=zlN rs i w
      have:=za2 hR
      refine h _ S.length ms us ((rs.map fun i=>((true,i):Bool×Nat)).take i++(false,w)::(rs.map fun i=>((true,i):Bool×Nat)).drop i) net' (by omega) (za5 hS (by omega)) (by rw[eR2]; exact zbE hR) (by rw[List.length_append,List.length_cons,List.length_take,List.length_drop,List.length_map]; omega) (by rw[eq2]; exact lr) (by rw[eq2]; exact zr) (Nat.le_refl _) fun x o hx e=>?_
      have:=za2 e
      exact za5 (kp x o hx e) (by omega)
    ·exact h _ S.length ms us (rs.map fun i=>((true,i):Bool×Nat)) net' (by omega) hS (by rw[← eR]; exact hR) (by rw[List.length_map]; omega) (by rw[zg1]; exact lr) (by rw[zg1]; exact zr) (Nat.le_refl _) kp
  ·exact h.elim⟩)
def zpW  (d_law_turn:Df K mg "_law_turn" zhV zfA)(G_law_cell:Fk P w K mg base 1 "_law_cell" zc3 zcQ)(z_range:mg "range"=none):Fk P w K mg base 2 "_law_turn" zfA ze8:=
 d_law_turn.mk' (zas (k:=1) d_law_turn.F zcf (zqX) fun cdv A outer s H E hr=>⟨_,(zag (zar (i:=2) zcf.nd rfl (Or.inl rfl) (zbx zac)) (zag (zcp (i:=3) PassesOwn.never rfl zcf.nd rfl (Or.inl rfl) rfl z_range (zaa (dv 1) zac) (zag (zar (i:=4) zcf.nd rfl (Or.inl rfl) (zbx zac)) (zag (zcp (i:=5) PassesOwn.never rfl zcf.nd rfl (Or.inl rfl) rfl z_range (zaa (dv 1) zac) (zag (zar (i:=6) zcf.nd rfl (Or.inl rfl) (zak G_law_cell hr (zaa (dv 0) (zaa (zad zaZ (zad zaZ zab (zad zaU zab (dv 3))) (dv 5)) zac)))) (zag (zar (i:=7) zcf.nd rfl (Or.inl rfl) (zad zbD (zad zaJ (zad za4 (dv 6) zab) zab) zab)) (zag (zaQ (zaO (za6 hr) (zad zaJ (dv 6) zab) zab (zaL _)) (zaf (zar (i:=7) zcf.nd rfl (Or.inl rfl) (zad zbD (zad zb7 (zad zaZ (zad za4 (dv 6) zab) (zad ziZ zab zab)) (zad zaZ (zad zaU zab (zad ziZ zab zab)) zab)) (zad ziZ zab zab)))) zaW) (zag (zaQ (zaO (za6 hr) (zad zaJ (dv 6) zab) zab (zaL _)) (zaf (zar (i:=7) zcf.nd rfl (Or.inl rfl) (zad zbD (zad zaJ (zad za4 (dv 6) zab) zab) zab))) zaW) (zaf (zbh (zbJ (dv 4) (dv 7))))))))) (zaf (zbh (zbJ (dv 2) (dv 4))))))) (zaf (zan (dv 2))))),fun ds S Q ex h=>by
  unfold ze8 at h
  split at h
  ·rename_i sc qi
   obtain⟨cs,q,hsc,⟨rfl,q4⟩,h⟩:=h
   refine⟨⟨by omega,by omega⟩,fun k dl' S'=>k≤q∧Pre S S'∧(∃(ms:List D) (M:List (List Int)),S'[S.length]?=some (.lst ms)∧ms.length=M.length∧(∀(k:Nat) (d:D) (r:List Int),ms[k]?=some d→M[k]?=some r→∃a,d=.ref a∧S.length + 1≤a∧S'[a]?=some (.lst (r.map D.int)))∧M.length=k∧∀r∈M,r.length=q∧∀x∈r,Sz 110 x)∧∃u3 u4 u5 u6 u7:Option D,dl'=[some (.ref sc),some (.int (q:Nat)),some (.ref S.length),u3,u4,u5,u6,u7],⟨Nat.zero_le _,Pre.refl.push,⟨[],[],zat _ _,rfl,fun k d r hd=>by simp at hd,rfl,fun r hr=>by simp at hr⟩,_,_,_,_,_,rfl⟩,?_⟩
   rintro k dl' S' ⟨hk,pr,⟨ms,M,hf,lm,rows,lM,zM⟩,u3,u4,u5,u6,u7,rfl⟩
   rw[Int.toNat_natCast]
   refine zch (fun c=>?_) (fun c=>?_)
   ·have lt:=za2 hf
    try dsimp only
    refine zkJ (fun dl2 S2=>Pre S' S2∧∃(row:List Int),row.length=q∧S2[S'.length]?=some (.lst (row.map D.int))∧(∀x∈row,Sz 110 x)∧∃u5 u6 u7:Option D,dl2=[some (.ref sc),some (.int (q:Nat)),some (.ref S.length),some (.int (k:Nat)),some (.ref S'.length),u5,u6,u7]) (fun nx hn=>?_) ?_
    ·refine⟨⟨by omega,by omega⟩,fun l dl2 S2=>l≤q∧Pre S' S2∧(∃(row:List Int),row.length=l∧S2[S'.length]?=some (.lst (row.map D.int))∧∀x∈row,Sz 110 x)∧∃u5 u6 u7:Option D,dl2=[some (.ref sc),some (.int (q:Nat)),some (.ref S.length),some (.int (k:Nat)),some (.ref S'.length),u5,u6,u7],⟨Nat.zero_le _,Pre.refl.push,⟨[],rfl,zat _ _,fun x hx=>by simp at hx⟩,_,_,_,rfl⟩,?_⟩
     rintro l dl2 S2 ⟨hlq,pr2,⟨row,lrow,hrow,zrow⟩,v5,v6,v7,rfl⟩
     rw[Int.toNat_natCast]
     refine zch (fun c2=>?_) (fun c2=>?_)
     ·refine⟨IntMulOk.of_left (by decide),cs,pr2 _ _ (pr _ _ hsc),show (0:Int)≤43 + 4 * (k:Int) + (l:Int) by omega,?_⟩
      generalize cs.getD (43 + 4 * (k:Int) + (l:Int)).toNat 0=x
      have fin:∀y:Int,Sz 110 y→l + 1≤q∧Pre S' (S2.set S'.length (.lst (row.map D.int++[.int y])))∧(∃(row2:List Int),row2.length=l + 1∧(S2.set S'.length (.lst (row.map D.int++[.int y])))[S'.length]?=some (.lst (row2.map D.int))∧∀x∈row2,Sz 110 x):=fun y hy=>by
       refine⟨by omega,zdF pr2 (Nat.le_refl _),row++[y],by rw[List.length_append,lrow]; rfl,by rw[List.map_append]; exact zbE hrow,fun z hz=>?_⟩
       rcases List.mem_append.mp hz with w | w
       ·exact zrow z w
       ·rw[List.mem_singleton.mp w]; exact hy
      have p30:(0:Int) < 2 * 10 ^ Int.toNat 30 + 1:=by decide
      have m30:IntMulOk 2 (10 ^ Int.toNat 30):=IntMulOk.of_left (by decide)
      have e30:(10:Int) ^ Int.toNat 30=1000000000000000000000000000000:=rfl
      have r30:=zbo (a:=x / 3 + 10 ^ Int.toNat 30) p30
      refine ifD (fun e=>?_) (fun e=>?_)
      ·refine⟨m30,p30,?_⟩
       refine ifD (fun e1=>absurd (e.symm.trans e1) (by decide)) (fun _=>?_)
       refine zb0 (n:=S'.length) (S1:=S2) (xs:=row.map D.int) (y:=.int ((x / 3 + 10 ^ Int.toNat 30) % (2 * 10 ^ Int.toNat 30 + 1) - 10 ^ Int.toNat 30)) (fun K hK=>by exact hK) hrow (fun K hK=>by exact hK) (by rw[List.length_map]; omega) ?_
       obtain⟨f1,f2,f3⟩:=fin ((x / 3 + 10 ^ Int.toNat 30) % (2 * 10 ^ Int.toNat 30 + 1) - 10 ^ Int.toNat 30) (Sz.of (10 ^ 31) (by omega))
       exact⟨f1,f2,f3,_,_,_,rfl⟩
      ·refine ifD (fun e1=>?_) (fun e1=>?_)
       ·skip
        refine zb0 (n:=S'.length) (S1:=S2) (xs:=row.map D.int) (y:=.int (x / 3 % 2001 - 1000)) (fun K hK=>by exact hK) hrow (fun K hK=>by exact hK) (by rw[List.length_map]; omega) ?_
        obtain⟨f1,f2,f3⟩:=fin (x / 3 % 2001 - 1000) (Sz.of (10 ^ 31) (by omega))
        exact⟨f1,f2,f3,_,_,_,rfl⟩
       ·skip
        refine zb0 (n:=S'.length) (S1:=S2) (xs:=row.map D.int) (y:=.int (x / 3 % 3 - 1)) (fun K hK=>by exact hK) hrow (fun K hK=>by exact hK) (by rw[List.length_map]; omega) ?_
        obtain⟨f1,f2,f3⟩:=fin (x / 3 % 3 - 1) (Sz.of (10 ^ 31) (by omega))
        exact⟨f1,f2,f3,_,_,_,rfl⟩
     ·have e:l=q:=by omega
      subst e
      exact hn _ _ ⟨pr2,row,lrow,hrow,zrow,_,_,_,rfl⟩
    ·rintro dl2 S2 ⟨pr2,row,lrow,hrow,zrow,v5,v6,v7,rfl⟩
     refine zb0 (n:=S.length) (S1:=S2) (xs:=ms) (y:=.ref S'.length) (fun K hK=>by exact hK) (pr2 _ _ hf) (fun K hK=>by exact hK) (by omega) ?_
     refine⟨by omega,zdF (pr.trans pr2) (Nat.le_refl _),⟨ms++[.ref S'.length],M++[row],zbE (pr2 _ _ hf),by simp[lm],fun i d r hd hr=>?_,by rw[List.length_append,lM]; rfl,fun r hr=>?_⟩,_,_,_,_,_,rfl⟩
     ·by_cases hi:i < ms.length
      ·rw[List.getElem?_append_left hi] at hd
       rw[List.getElem?_append_left (by omega)] at hr
       obtain⟨a,e,la,sa⟩:=rows i d r hd hr
       exact⟨a,e,la,za5 (pr2 _ _ sa) (by omega)⟩
      ·have l:=(List.getElem?_eq_some_iff.mp hd).1
       simp only[List.length_append,List.length_cons,List.length_nil] at l
       have ei:i=ms.length:=by omega
       subst ei
       rw[List.getElem?_append_right (Nat.le_refl _),Nat.sub_self] at hd
       rw[lm,List.getElem?_append_right (Nat.le_refl _),Nat.sub_self] at hr
       cases hd
       cases hr
       exact⟨S'.length,rfl,by omega,za5 hrow (by omega)⟩
     ·rcases List.mem_append.mp hr with w | w
      ·exact zM r w
      ·rw[List.mem_singleton.mp w]; exact⟨lrow,zrow⟩
   ·have e:k=q:=by omega
    subst e
    exact h _ _ ms M pr (Nat.le_refl _) hf ⟨lm,fun k d r hd hr=>by
     obtain⟨a,e,_,s⟩:=rows k d r hd hr
     exact⟨a,e,s⟩⟩ lM zM
  ·exact h.elim⟩)
def zpM  (d_equation_places:Df K mg "equation_places" ze7 zfi):Fk P w K mg base 1 "equation_places" zfi zej:=
 d_equation_places.mk' (zas (k:=0) d_equation_places.F zpT (zpl) fun cdv A outer s H E hr=>⟨_,(zaf (zan (zcR (x:="row") (N:=[]) (caps:=[]) (ar:=zaj ze7) rfl rfl ⟨rfl,by decide +kernel,by decide +kernel,rfl,by decide +kernel,by decide +kernel⟩ rfl (by decide) (dv 0) (fun _ _ _ _ _ _=>zo8 (zaO (za6 hr) (zam (dv 0) zab (fun _ _=>rfl)) zbe (zaL _))) (fun _ _ _ _ _ _=>(zam (dv 0) zab (fun _ _=>rfl)))))),fun ds S Q ex h=>by
  unfold zej at h
  split at h
  ·rename_i r
   obtain⟨rows,hr,l9,h⟩:=h
   refine zny (n:=r) (S1:=S) (o:=.lst (rows.map rwD)) (fun d=>match d with | .tup [.str w,.int at']=>if w="zero" then some (.int at') else none | _=>none) (fun K hK=>by exact hK) hr (by show (rows.map rwD).length≤1000; rw[List.length_map]; omega) (fun x hx S2 K pr hK=>?_) (fun x hx y hy S2 K pr hK=>?_) ?_
   ·have hx':x∈rows.map rwD:=hx
    obtain⟨⟨b,n⟩,_,rfl⟩:=List.mem_map.mp hx'
    cases b
    ·exact hK
    ·exact hK
   ·have hx':x∈rows.map rwD:=hx
    obtain⟨⟨b,n⟩,_,rfl⟩:=List.mem_map.mp hx'
    cases b
    ·exact absurd hy (by
      simp[rwD]
      intro z
      exact absurd z (by decide))
    ·cases hy
     exact hK
   ·have e:(zah (.lst (rows.map rwD))).filterMap (fun d=>match d with | .tup [.str w,.int at']=>if w="zero" then some (.int at') else none | _=>none)=(eqs rows).map wtD:=by
     show (rows.map rwD).filterMap _=_
     unfold eqs
     rw[List.filterMap_map,List.map_filterMap]
     congr 1
     funext ⟨b,n⟩
     cases b <;> rfl
    rw[e]
    exact h
  ·exact h.elim⟩)
def zpI  (d_picked:Df K mg "picked" zep zd0):Fk P w K mg base 1 "picked" zd0 zeb:=
 d_picked.mk' (zas (k:=0) d_picked.F zmf (zmC) fun cdv A outer s H E hr=>⟨_,(zaf (zan (zcR (x:="place") (N:=["each"]) (caps:=[0]) (ar:=zaj zep) rfl rfl ⟨rfl,by decide +kernel,by decide +kernel,rfl,by decide +kernel,by decide +kernel⟩ rfl (by decide) (dv 1) (fun _ _ _ _ _ _=>zbI) (fun _ _ _ _ _ _=>(zaA (dv 1) (dv 0) (fun _ _=>rfl)))))),fun ds S Q ex h=>by
  unfold zeb at h
  split at h
  ·rename_i e p
   obtain⟨xs,is,he,hp,l9,hi,h⟩:=h
   refine zcs (n:=p) (S1:=S) (o:=.lst (is.map wtD)) (fun d=>match d with | .int i=>xs.getD i.toNat .non | _=>.non) (fun K hK=>by exact hK) hp (by show (is.map wtD).length≤1000; rw[List.length_map]; omega) (fun x hx S2 K pr hK=>?_) ?_
   ·have hx':x∈is.map wtD:=hx
    obtain⟨i,him,rfl⟩:=List.mem_map.mp hx'
    have hl:=hi i him
    refine zay (o:=.lst xs) (pr _ _ he) (zcr (j:=i) (v:=xs.getD i .non) (by show xs[i]?=_; rw[List.getElem?_eq_getElem hl]; simp[hl])) ?_
    exact hK
   ·have e2:(zah (.lst (is.map wtD))).map (fun d=>match d with | .int i=>xs.getD i.toNat .non | _=>.non)=is.map fun i=>xs.getD i .non:=by
     show (is.map wtD).map _=_
     rw[List.map_map]
     rfl
    rw[e2]
    exact h
  ·exact h.elim⟩)
def zpB  (d_less:Df K mg "less" zgC zfW):Fk P w K mg base 1 "less" zfW zfL:=
 d_less.mk' (zas (k:=0) d_less.F zmd (zph) fun cdv A outer s H E hr=>⟨_,(zaf (zan (ziV zgL (zad zaU (zam (dv 0) zab (fun _ _=>rfl)) (zam (dv 1) zab (fun _ _=>rfl))) (zad zaU (zam (dv 1) zab (fun _ _=>rfl)) (zam (dv 0) zab (fun _ _=>rfl))) (zaL _)))),fun ds S Q ex h=>by
  unfold zfL at h
  split at h
  ·obtain⟨⟨h1,h2⟩,h⟩:=h
   exact⟨h1,h2,h⟩
  ·exact h.elim⟩)
def zos  (d_rounded_up:Df K mg "rounded_up" zhg zcM):Fk P w K mg base 1 "rounded_up" zcM zda:=
 d_rounded_up.mk' (zas (k:=0) d_rounded_up.F zl6 (zqQ) fun cdv A outer s H E hr=>⟨_,(zaf (zan (zjR zlr (zad zcy (zjR zlr (dv 0)) (dv 1))))),fun ds S Q ex h=>by
  unfold zda at h
  split at h
  ·exact h
  ·exact h.elim⟩)
def znP  (d_span_of:Df K mg "span_of" zgv zgd)(G_rounded_up:Fk P w K mg base 1 "rounded_up" zcM zda)(G_less:Fk P w K mg base 1 "less" zfW zfL):Fk P w K mg base 2 "span_of" zgd zfY:=
 d_span_of.mk' (zas (k:=1) d_span_of.F znp (zqv) fun cdv A outer s H E hr=>⟨_,(zag (zaQ (zdN (zak G_less hr (zaa (dv 1) (zaa (dv 0) zac)))) (zaf zm0) zaW) (zaf (zan (zaP (zaa (zad zcy (zad zaU (zam (dv 0) zab (fun _ _=>rfl)) (dv 2)) (zam (dv 0) zab (fun _ _=>rfl))) (zaa (zak G_rounded_up hr (zaa (zad zaU (zam (dv 1) zab (fun _ _=>rfl)) (dv 2)) (zaa (zam (dv 1) zab (fun _ _=>rfl)) zac))) zac)))))),fun ds S Q ex h=>by
  unfold zfY at h
  split at h
  ·obtain⟨⟨⟨m1,m2⟩,nl,m3,m4,f1,f2⟩,h⟩:=h
   refine⟨⟨m1,m2⟩,ifF (decide_eq_false nl) ?_⟩
   exact⟨m3,f1,m4,f2,h⟩
  ·exact h.elim⟩)
def zqT  (C_Number:zbp K mg)(C_Unknown:zbq K mg)(C_Plus:zbg K mg)(C_Minus:zbj K mg)(C_Times:zbi K mg)(C_Power:zbk K mg)(d_Number_forth:Dm K C_Number.C "forth" "Number.forth" zgz zeK)(G_span_of:Fk P w K mg base 2 "span_of" zgd zfY):Fm P w K mg base 3 C_Number.C "forth" zeK (zdo C_Number.C C_Unknown.C C_Plus.C C_Minus.C C_Times.C C_Power.C):=
 d_Number_forth.mk' (zas (k:=2) d_Number_forth.F zlA (zn4 C_Number.C C_Unknown.C C_Plus.C C_Minus.C C_Times.C C_Power.C) fun cdv A outer s H E hr=>⟨_,(zag (zar (i:=4) zlA.nd rfl (Or.inl rfl) (zaP (zaa (zaV C_Number.cl C_Number.n_top (dv 0)) (zaa (zaV C_Number.cl C_Number.n_bottom (dv 0)) zac)))) (zaf (zan (zak G_span_of hr (zaa (dv 4) (zaa (dv 4) (zaa (dv 3) zac))))))),fun ds S Q ex h=>by
  unfold zdo at h
  split at h
  ·rename_i n w p g
   obtain⟨x,y,vs,bs,hn,hw,hp,ok,s1,hg,h⟩:=h
   have sg:Sz 21 g:=Sz.of 1000000 (by omega)
   have sx:Sz 31 x:=Sz.of (10 ^ 9) ok.2.2
   have sy:Sz 31 y:=Sz.of (10 ^ 9) (by have:=ok.1; omega)
   refine zaS (n:=n) (fun K hK=>by exact hK) hn rfl ?_
   refine zaS (n:=n) (fun K hK=>by exact hK) hn rfl ?_
   exact⟨⟨⟨zaE sx sy,zaE sx sy⟩,by omega,zaE sx sg,zaE sx sg,sy.fd (by have:=ok.1; omega),sy.fd (by have:=ok.1; omega)⟩,h⟩
  ·exact h.elim⟩)
def zmy  (C_Unknown:zbq K mg)(C_Number:zbp K mg)(C_Plus:zbg K mg)(C_Minus:zbj K mg)(C_Times:zbi K mg)(C_Power:zbk K mg)(d_Unknown_forth:Dm K C_Unknown.C "forth" "Unknown.forth" zho zeO):Fm P w K mg base 1 C_Unknown.C "forth" zeO (zdE C_Number.C C_Unknown.C C_Plus.C C_Minus.C C_Times.C C_Power.C):=
 d_Unknown_forth.mk' (zas (k:=0) d_Unknown_forth.F zrv (zoC C_Number.C C_Unknown.C C_Plus.C C_Minus.C C_Times.C C_Power.C) fun cdv A outer s H E hr=>⟨_,(zaf (zan (zaA (dv 2) (zaV C_Unknown.cl C_Unknown.n_place (dv 0)) (fun _ _=>rfl)))),fun ds S Q ex h=>by
  unfold zdE at h
  split at h
  ·rename_i n w p g
   obtain⟨k,vs,bs,hn,hw,hp,ok,s1,hg,h⟩:=h
   refine zaS (n:=n) (fun K hK=>by exact hK) hn rfl ?_
   exact zay (o:=.lst (bs.map frD)) hp (za0 ok) h
  ·exact h.elim⟩)
def zq7  (d_add_spans:Df K mg "add_spans" zhs zck):Fk P w K mg base 1 "add_spans" zck zcg:=
 d_add_spans.mk' (zas (k:=0) d_add_spans.F zmk (zoG) fun cdv A outer s H E hr=>⟨_,(zaf (zan (zaP (zaa (zad zaZ (zam (dv 0) zab (fun _ _=>rfl)) (zam (dv 1) zab (fun _ _=>rfl))) (zaa (zad zaZ (zam (dv 0) zab (fun _ _=>rfl)) (zam (dv 1) zab (fun _ _=>rfl))) zac))))),fun ds S Q ex h=>by
  unfold zcg at h
  split at h
  ·exact h
  ·exact h.elim⟩)
def zrz  (C_Plus:zbg K mg)(C_Number:zbp K mg)(C_Unknown:zbq K mg)(C_Minus:zbj K mg)(C_Times:zbi K mg)(C_Power:zbk K mg)(d_Plus_forth:Dm K C_Plus.C "forth" "Plus.forth" zg7 zfz)(G_add_spans:Fk P w K mg base 1 "add_spans" zck zcg):Fm P w K mg base 2 C_Plus.C "forth" zfz (zdD C_Number.C C_Unknown.C C_Plus.C C_Minus.C C_Times.C C_Power.C):=
 d_Plus_forth.mk' (zas (k:=1) d_Plus_forth.F zmb (zm7 C_Number.C C_Unknown.C C_Plus.C C_Minus.C C_Times.C C_Power.C) fun cdv A outer s H E hr=>⟨_,(zaf (zan (zak G_add_spans hr (zaa (zaA (dv 1) (zaV C_Plus.cl C_Plus.n_one (dv 0)) (fun _ _=>rfl)) (zaa (zaA (dv 1) (zaV C_Plus.cl C_Plus.n_other (dv 0)) (fun _ _=>rfl)) zac))))),fun ds S Q ex h=>by
  unfold zdD at h
  split at h
  ·rename_i n w p g
   obtain⟨i,j,vs,bs,hn,hw,hp,ok,s1,hg,h⟩:=h
   refine zaS (n:=n) (fun K hK=>by exact hK) hn rfl ?_
   refine zay (o:=.lst (vs.map frD)) hw (za0 ok.1) ?_
   refine zaS (n:=n) (fun K hK=>by exact hK) hn rfl ?_
   refine zay (o:=.lst (vs.map frD)) hw (za0 ok.2) ?_
   exact h
  ·exact h.elim⟩)
def zqs  (d_take_spans:Df K mg "take_spans" zhP zcC):Fk P w K mg base 1 "take_spans" zcC zcx:=
 d_take_spans.mk' (zas (k:=0) d_take_spans.F zrr (zov) fun cdv A outer s H E hr=>⟨_,(zaf (zan (zaP (zaa (zad zbD (zam (dv 0) zab (fun _ _=>rfl)) (zam (dv 1) zab (fun _ _=>rfl))) (zaa (zad zbD (zam (dv 0) zab (fun _ _=>rfl)) (zam (dv 1) zab (fun _ _=>rfl))) zac))))),fun ds S Q ex h=>by
  unfold zcx at h
  split at h
  ·exact h
  ·exact h.elim⟩)
def znC  (C_Minus:zbj K mg)(C_Number:zbp K mg)(C_Unknown:zbq K mg)(C_Plus:zbg K mg)(C_Times:zbi K mg)(C_Power:zbk K mg)(d_Minus_forth:Dm K C_Minus.C "forth" "Minus.forth" zgZ zfw)(G_take_spans:Fk P w K mg base 1 "take_spans" zcC zcx):Fm P w K mg base 2 C_Minus.C "forth" zfw (zde C_Number.C C_Unknown.C C_Plus.C C_Minus.C C_Times.C C_Power.C):=
 d_Minus_forth.mk' (zas (k:=1) d_Minus_forth.F zoh (zqP C_Number.C C_Unknown.C C_Plus.C C_Minus.C C_Times.C C_Power.C) fun cdv A outer s H E hr=>⟨_,(zaf (zan (zak G_take_spans hr (zaa (zaA (dv 1) (zaV C_Minus.cl C_Minus.n_one (dv 0)) (fun _ _=>rfl)) (zaa (zaA (dv 1) (zaV C_Minus.cl C_Minus.n_other (dv 0)) (fun _ _=>rfl)) zac))))),fun ds S Q ex h=>by
  unfold zde at h
  split at h
  ·rename_i n w p g
   obtain⟨i,j,vs,bs,hn,hw,hp,ok,s1,hg,h⟩:=h
   refine zaS (n:=n) (fun K hK=>by exact hK) hn rfl ?_
   refine zay (o:=.lst (vs.map frD)) hw (za0 ok.1) ?_
   refine zaS (n:=n) (fun K hK=>by exact hK) hn rfl ?_
   refine zay (o:=.lst (vs.map frD)) hw (za0 ok.2) ?_
   exact h
  ·exact h.elim⟩)
def zqW  (d_mul_spans:Df K mg "mul_spans" zhM zco)(G_rounded_up:Fk P w K mg base 1 "rounded_up" zcM zda)(z_max:mg "max"=none)(z_min:mg "min"=none):Fk P w K mg base 2 "mul_spans" zco zcB:=
 d_mul_spans.mk' (zgI (zas (k:=1) d_mul_spans.F zlo (zg9 (zoY)) fun cdv A outer s H E hr=>⟨_,(zag (zar (i:=3) zlo.nd rfl (Or.inl rfl) (zbx (zaa (zad zaU (zam (dv 0) zab (fun _ _=>rfl)) (zam (dv 1) zab (fun _ _=>rfl))) (zaa (zad zaU (zam (dv 0) zab (fun _ _=>rfl)) (zam (dv 1) zab (fun _ _=>rfl))) (zaa (zad zaU (zam (dv 0) zab (fun _ _=>rfl)) (zam (dv 1) zab (fun _ _=>rfl))) (zaa (zad zaU (zam (dv 0) zab (fun _ _=>rfl)) (zam (dv 1) zab (fun _ _=>rfl))) zac)))))) (zaf (zan (zaP (zaa (zad zcy (za7 (zba (ziL rfl)) rfl z_min PyProof.Rows.Boot.«min» (zaa (dv 3) zac)) (dv 2)) (zaa (zak G_rounded_up hr (zaa (za7 (zba (zjv rfl)) rfl z_max PyProof.Rows.Boot.«max» (zaa (dv 3) zac)) (zaa (dv 2) zac))) zac)))))),fun ds S Q ex h=>by
  obtain⟨Q0,ex0,rfl,rfl,h⟩:=h
  unfold zcB at h
  split at h
  ·rename_i a b c d g
   obtain⟨⟨⟨m1,m2,m3,m4⟩,hg⟩,h⟩:=h
   refine⟨m1,m2,m3,m4,?_⟩
   apply zcu
   ·exact zat _ _
   ·rfl
   ·simp
   intro mn n1 n2
   refine⟨hg,?_⟩
   apply zcu
   ·exact zat _ _
   ·rfl
   ·simp
   intro mx x1 x2
   refine⟨hg,?_⟩
   exact⟨Pre.refl.push,zdR,h mn mx (zdb.of n1 n2 x1 x2)⟩
  ·exact h.elim⟩))
def zqL  (C_Times:zbi K mg)(C_Number:zbp K mg)(C_Unknown:zbq K mg)(C_Plus:zbg K mg)(C_Minus:zbj K mg)(C_Power:zbk K mg)(d_Times_forth:Dm K C_Times.C "forth" "Times.forth" zhq zfr)(G_mul_spans:Fk P w K mg base 2 "mul_spans" zco zcB):Fm P w K mg base 3 C_Times.C "forth" zfr (zdW C_Number.C C_Unknown.C C_Plus.C C_Minus.C C_Times.C C_Power.C):=
 d_Times_forth.mk' (zas (k:=2) d_Times_forth.F zpK (zqy C_Number.C C_Unknown.C C_Plus.C C_Minus.C C_Times.C C_Power.C) fun cdv A outer s H E hr=>⟨_,(zaf (zan (zak G_mul_spans hr (zaa (zaA (dv 1) (zaV C_Times.cl C_Times.n_one (dv 0)) (fun _ _=>rfl)) (zaa (zaA (dv 1) (zaV C_Times.cl C_Times.n_other (dv 0)) (fun _ _=>rfl)) (zaa (dv 3) zac)))))),fun ds S Q ex h=>by
  unfold zdW at h
  split at h
  ·rename_i n w p g
   obtain⟨i,j,vs,bs,hn,hw,hp,ok,s1,hg,h⟩:=h
   refine zaS (n:=n) (fun K hK=>by exact hK) hn rfl ?_
   refine zay (o:=.lst (vs.map frD)) hw (za0 ok.1) ?_
   refine zaS (n:=n) (fun K hK=>by exact hK) hn rfl ?_
   refine zay (o:=.lst (vs.map frD)) hw (za0 ok.2) ?_
   have a:=s1.at ok.1
   have b:=s1.at ok.2
   have sg:Sz 21 g:=Sz.of 1000000 (by omega)
   refine⟨⟨⟨zaE a.2.1 b.2.1,zaE a.2.1 b.2.2,zaE a.2.2 b.2.1,zaE a.2.2 b.2.2⟩,sg.fd (by omega)⟩,fun mn mx hc=>?_⟩
   obtain⟨rfl,rfl⟩:=hc.eq
   exact h
  ·exact h.elim⟩)
def znd  (d_raised:Df K mg "raised" zhv zeW)(z_range:mg "range"=none):Fk P w K mg base 1 "raised" zeW zft:=
 d_raised.mk' (zas (k:=0) d_raised.F zhS (znL) fun cdv A outer s H E hr=>⟨_,(zag (zar (i:=2) zhS.nd rfl (Or.inl rfl) zab) (zag (zcp (i:=3) PassesOwn.never rfl zhS.nd rfl (Or.inl rfl) rfl z_range (zaa (dv 1) zac) (zaf (zar (i:=2) zhS.nd rfl (Or.inl rfl) (zad zaU (dv 2) (dv 0))))) (zaf (zan (dv 2))))),fun ds S Q ex h=>by
  unfold zft at h
  split at h
  ·rename_i x n
   obtain⟨⟨h0,h6,sx⟩,h⟩:=h
   refine⟨⟨by omega,by omega⟩,fun k dl' S'=>S'=S∧k≤n.toNat∧∃(z:Int) (o:Option D),z=x ^ k∧dl'=[some (.int x),some (.int n),some (.int z),o],⟨rfl,Nat.zero_le _,1,none,(Int.pow_zero x).symm,rfl⟩,?_⟩
   rintro k dl' S' ⟨rfl,hk,z,o,rfl,rfl⟩
   refine zch (fun c=>?_) (fun c=>?_)
   ·exact⟨zaE (m:=12001) (n:=2000) ((sx.pow k).mono (by omega)) sx,rfl,by omega,_,_,(Int.pow_succ x k).symm,rfl⟩
   ·have e:k=n.toNat:=by omega
    subst e
    exact h
  ·exact h.elim⟩)
def zrW  (d_raise_span:Df K mg "raise_span" zeG zeg)(G_rounded_up:Fk P w K mg base 1 "rounded_up" zcM zda)(G_raised:Fk P w K mg base 1 "raised" zeW zft)(z_max:mg "max"=none)(z_min:mg "min"=none):Fk P w K mg base 2 "raise_span" zeg zd4:=
 d_raise_span.mk' (zgI (zas (k:=1) d_raise_span.F zhb (zg9 (zrB)) fun cdv A outer s H E hr=>⟨_,(zag (zar (i:=3) zhb.nd rfl (Or.inl rfl) (zbx (zaa (zam (dv 0) zab (fun _ _=>rfl)) (zaa (zam (dv 0) zab (fun _ _=>rfl)) zac)))) (zag (zaQ (zod zgL zgL (zam (dv 0) zab (fun _ _=>rfl)) zab (zam (dv 0) zab (fun _ _=>rfl))) (zaf (zbh (zbJ (dv 3) zab))) zaW) (zag (zj4 (x:="place") (N:=["grid","many"]) (caps:=[2,1]) (ar:=zaj zeG) rfl rfl ⟨rfl,by decide +kernel,by decide +kernel,rfl,by decide +kernel,by decide +kernel⟩ rfl (by decide) (i:=4) zhb.nd rfl rfl (dv 3) (fun _ _ _ _ _ _=>zbI) (fun _ _ _ _ _ _=>(zad zaU (zak G_raised hr (zaa (dv 0) (zaa (dv 2) zac))) (dv 1)))) (zag (zar (i:=5) zhb.nd rfl (Or.inl rfl) (zak G_raised hr (zaa (dv 2) (zaa (dv 1) zac)))) (zaf (zan (zaP (zaa (zad zcy (za7 (zba (ziL rfl)) rfl z_min PyProof.Rows.Boot.«min» (zaa (dv 4) zac)) (dv 5)) (zaa (zak G_rounded_up hr (zaa (za7 (zba (zjv rfl)) rfl z_max PyProof.Rows.Boot.«max» (zaa (dv 4) zac)) (zaa (dv 5) zac))) zac))))))))),fun ds S Q ex h=>by
  obtain⟨Q0,ex0,rfl,rfl,h⟩:=h
  unfold zd4 at h
  split at h
  ·rename_i a b n g
   obtain⟨⟨n2,n6,za,zb,hg,zg⟩,h⟩:=h
   refine ifD (fun c1=>?_) (fun c1=>?_)
   ·refine ifD (fun c2=>?_) (fun c2=>?_)
    ·refine zb0 (n:=S.length) (fun K hK=>hK) (zat _ _) (fun K hK=>hK) (by simp) ?_
     refine zcs (n:=S.length) (o:=.lst [.int a,.int b,.int 0]) (fun d=>match d with | .int v=>.int (v ^ n.toNat * g) | _=>.non) (fun K hK=>hK) (by simp) (by simp[zah]) (fun x hx S2 K _ hK=>?_) ?_
     ·have hx':x=.int a∨x=.int b∨x=.int 0:=by simpa [zah] using hx
      rcases hx' with rfl | rfl | rfl
      all_goals exact⟨⟨by omega,n6,by first | exact za.mono (by decide) | exact zb.mono (by decide) | exact Sz.of (n:=2000) 0 (by decide)⟩,zaE (m:=12001) (n:=1400) (((Sz.mono (n:=2000) (by first | exact za | exact zb | exact Sz.of (n:=1400) 0 (by decide)) (by decide)).pow _).mono (by omega)) zg,hK⟩
     refine⟨⟨by omega,n6,zg.mono (by decide)⟩,?_⟩
     have gp:(0:Int) < g ^ n.toNat:=Int.pow_pos (by omega)
     have zgp:Sz 8401 (g ^ n.toNat):=(zg.pow _).mono (by omega)
     apply zcu
     ·exact zat _ _
     ·rfl
     ·simp
     intro mn q1 q2
     refine⟨zgp.fd gp,?_⟩
     apply zcu
     ·exact zat _ _
     ·rfl
     ·simp
     intro mx x1 x2
     refine⟨zgp.fd gp,?_⟩
     obtain⟨m,M,hP,rfl,rfl⟩:=zcz.of (n:=n.toNat) hg (.inr ⟨rfl,c1,c2⟩) (by omega) q1 q2 x1 x2
     have r:=h m M hP
     rw[← zdg hg (by omega),← zdg hg (by omega),Int.neg_mul] at r
     exact⟨(fun i o e=>zcT (by rw[List.set_append_right _ _ (Nat.le_refl _),List.getElem?_append_left (List.getElem?_eq_some_iff.mp e).1]; exact e)),zdR,r⟩
    ·skip
     refine zcs (n:=S.length) (o:=.lst [.int a,.int b]) (fun d=>match d with | .int v=>.int (v ^ n.toNat * g) | _=>.non) (fun K hK=>hK) (zat _ _) (by simp[zah]) (fun x hx S2 K _ hK=>?_) ?_
     ·have hx':x=.int a∨x=.int b:=by simpa [zah] using hx
      rcases hx' with rfl | rfl
      all_goals exact⟨⟨by omega,n6,by first | exact za.mono (by decide) | exact zb.mono (by decide) | exact Sz.of (n:=2000) 0 (by decide)⟩,zaE (m:=12001) (n:=1400) (((Sz.mono (n:=2000) (by first | exact za | exact zb | exact Sz.of (n:=1400) 0 (by decide)) (by decide)).pow _).mono (by omega)) zg,hK⟩
     refine⟨⟨by omega,n6,zg.mono (by decide)⟩,?_⟩
     have gp:(0:Int) < g ^ n.toNat:=Int.pow_pos (by omega)
     have zgp:Sz 8401 (g ^ n.toNat):=(zg.pow _).mono (by omega)
     apply zcu
     ·exact zat _ _
     ·rfl
     ·simp
     intro mn q1 q2
     refine⟨zgp.fd gp,?_⟩
     apply zcu
     ·exact zat _ _
     ·rfl
     ·simp
     intro mx x1 x2
     refine⟨zgp.fd gp,?_⟩
     obtain⟨m,M,hP,rfl,rfl⟩:=zcz.of (n:=n.toNat) hg (.inl ⟨rfl,fun c=>c2 c.2⟩) (by omega) q1 q2 x1 x2
     have r:=h m M hP
     rw[← zdg hg (by omega),← zdg hg (by omega),Int.neg_mul] at r
     exact⟨Pre.refl.push.push,zdR,r⟩
   ·skip
    refine zcs (n:=S.length) (o:=.lst [.int a,.int b]) (fun d=>match d with | .int v=>.int (v ^ n.toNat * g) | _=>.non) (fun K hK=>hK) (zat _ _) (by simp[zah]) (fun x hx S2 K _ hK=>?_) ?_
    ·have hx':x=.int a∨x=.int b:=by simpa [zah] using hx
     rcases hx' with rfl | rfl
     all_goals exact⟨⟨by omega,n6,by first | exact za.mono (by decide) | exact zb.mono (by decide) | exact Sz.of (n:=2000) 0 (by decide)⟩,zaE (m:=12001) (n:=1400) (((Sz.mono (n:=2000) (by first | exact za | exact zb | exact Sz.of (n:=1400) 0 (by decide)) (by decide)).pow _).mono (by omega)) zg,hK⟩
    refine⟨⟨by omega,n6,zg.mono (by decide)⟩,?_⟩
    have gp:(0:Int) < g ^ n.toNat:=Int.pow_pos (by omega)
    have zgp:Sz 8401 (g ^ n.toNat):=(zg.pow _).mono (by omega)
    apply zcu
    ·exact zat _ _
    ·rfl
    ·simp
    intro mn q1 q2
    refine⟨zgp.fd gp,?_⟩
    apply zcu
    ·exact zat _ _
    ·rfl
    ·simp
    intro mx x1 x2
    refine⟨zgp.fd gp,?_⟩
    obtain⟨m,M,hP,rfl,rfl⟩:=zcz.of (n:=n.toNat) hg (.inl ⟨rfl,fun c=>c1 c.1⟩) (by omega) q1 q2 x1 x2
    have r:=h m M hP
    rw[← zdg hg (by omega),← zdg hg (by omega),Int.neg_mul] at r
    exact⟨Pre.refl.push.push,zdR,r⟩
  ·exact h.elim⟩))
def zpP  (C_Power:zbk K mg)(C_Number:zbp K mg)(C_Unknown:zbq K mg)(C_Plus:zbg K mg)(C_Minus:zbj K mg)(C_Times:zbi K mg)(d_Power_forth:Dm K C_Power.C "forth" "Power.forth" zg3 zem)(G_raise_span:Fk P w K mg base 2 "raise_span" zeg zd4):Fm P w K mg base 3 C_Power.C "forth" zem (zd8 C_Number.C C_Unknown.C C_Plus.C C_Minus.C C_Times.C C_Power.C):=
 d_Power_forth.mk' (zas (k:=2) d_Power_forth.F zm8 (znf C_Number.C C_Unknown.C C_Plus.C C_Minus.C C_Times.C C_Power.C) fun cdv A outer s H E hr=>⟨_,(zaf (zan (zak G_raise_span hr (zaa (zaA (dv 1) (zaV C_Power.cl C_Power.n_one (dv 0)) (fun _ _=>rfl)) (zaa (zaV C_Power.cl C_Power.n_many (dv 0)) (zaa (dv 3) zac)))))),fun ds S Q ex h=>by
  unfold zd8 at h
  split at h
  ·rename_i n w p g
   obtain⟨i,m,vs,bs,hn,hw,hp,ok,s1,hg,h⟩:=h
   refine zaS (n:=n) (fun K hK=>by exact hK) hn rfl ?_
   refine zay (o:=.lst (vs.map frD)) hw (za0 ok.1) ?_
   refine zaS (n:=n) (fun K hK=>by exact hK) hn rfl ?_
   have a:=s1.at ok.1
   have sg:Sz 21 g:=Sz.of 1000000 (by omega)
   refine⟨⟨by have:=ok.2.1; omega,ok.2.2,a.2.1,a.2.2,hg.1,sg.mono (by decide)⟩,fun m' M' hP=>?_⟩
   obtain⟨rfl,rfl⟩:=hP.eq (by have:=ok.2.1; omega)
   exact h
  ·exact h.elim⟩)
def zpS  (C_Power:zbk K mg)(d_Power___init__:Dm K C_Power.C "__init__" "Power.__init__" zhF ze2):Fm P w K mg base 1 C_Power.C "__init__" ze2 (zf0 C_Power.C):=
 d_Power___init__.mk' (zas (k:=0) d_Power___init__.F zqh (zpX C_Power.C) fun cdv A outer s H E hr=>⟨_,(zag (zbV C_Power.cl C_Power.n_one (dv 0) (dv 1)) (zaf (zbV C_Power.cl C_Power.n_many (dv 0) (dv 2)))),fun ds S Q ex h=>by
  unfold zf0 at h
  split at h
  ·rename_i n x y
   obtain⟨T,rfl,rfl,h⟩:=h
   refine zbP (v:=x) (S1:=T++[Ob.ins C_Power.C []]) (S2:=T++[Ob.ins C_Power.C []]) (n:=T.length) (fs:=[]) (fun K hK=>by exact hK) (fun K hK=>by exact hK) (zbS ..) (by simp) ?_
   rw[zbX]
   refine zbP (v:=y) (S1:=T++[Ob.ins C_Power.C [("one",x)]]) (S2:=T++[Ob.ins C_Power.C [("one",x)]]) (n:=T.length) (fs:=[("one",x)]) (fun K hK=>by exact hK) (fun K hK=>by exact hK) (zbS ..) (by simp) ?_
   rw[zbX]
   exact h
  ·exact h.elim⟩)
def zrO  (C_Number:zbp K mg)(d_Number___init__:Dm K C_Number.C "__init__" "Number.__init__" zgr zeB):Fm P w K mg base 1 C_Number.C "__init__" zeB (zeA C_Number.C):=
 d_Number___init__.mk' (zas (k:=0) d_Number___init__.F zpa (znT C_Number.C) fun cdv A outer s H E hr=>⟨_,(zag (zbV C_Number.cl C_Number.n_top (dv 0) (dv 1)) (zaf (zbV C_Number.cl C_Number.n_bottom (dv 0) (dv 2)))),fun ds S Q ex h=>by
  unfold zeA at h
  split at h
  ·rename_i n x y
   obtain⟨T,rfl,rfl,h⟩:=h
   refine zbP (v:=x) (S1:=T++[Ob.ins C_Number.C []]) (S2:=T++[Ob.ins C_Number.C []]) (n:=T.length) (fs:=[]) (fun K hK=>by exact hK) (fun K hK=>by exact hK) (zbS ..) (by simp) ?_
   rw[zbX]
   refine zbP (v:=y) (S1:=T++[Ob.ins C_Number.C [("top",x)]]) (S2:=T++[Ob.ins C_Number.C [("top",x)]]) (n:=T.length) (fs:=[("top",x)]) (fun K hK=>by exact hK) (fun K hK=>by exact hK) (zbS ..) (by simp) ?_
   rw[zbX]
   exact h
  ·exact h.elim⟩)
def zpN  (C_Unknown:zbq K mg)(d_Unknown___init__:Dm K C_Unknown.C "__init__" "Unknown.__init__" zgX zfE):Fm P w K mg base 1 C_Unknown.C "__init__" zfE (zfm C_Unknown.C):=
 d_Unknown___init__.mk' (zas (k:=0) d_Unknown___init__.F znq (zrG C_Unknown.C) fun cdv A outer s H E hr=>⟨_,(zaf (zbV C_Unknown.cl C_Unknown.n_place (dv 0) (dv 1))),fun ds S Q ex h=>by
  unfold zfm at h
  split at h
  ·rename_i n x
   obtain⟨T,rfl,rfl,h⟩:=h
   refine zbP (v:=x) (S1:=T++[Ob.ins C_Unknown.C []]) (S2:=T++[Ob.ins C_Unknown.C []]) (n:=T.length) (fs:=[]) (fun K hK=>by exact hK) (fun K hK=>by exact hK) (zbS ..) (by simp) ?_
   rw[zbX]
   exact h
  ·exact h.elim⟩)
def zrj  (C_Plus:zbg K mg)(d_Plus___init__:Dm K C_Plus.C "__init__" "Pair.__init__" zh1 zfI):Fm P w K mg base 1 C_Plus.C "__init__" zfI (zfo C_Plus.C):=
 d_Plus___init__.mk' (zas (k:=0) d_Plus___init__.F zp9 (zmr C_Plus.C) fun cdv A outer s H E hr=>⟨_,(zag (zbV C_Plus.cl C_Plus.n_one (dv 0) (dv 1)) (zaf (zbV C_Plus.cl C_Plus.n_other (dv 0) (dv 2)))),fun ds S Q ex h=>by
  unfold zfo at h
  split at h
  ·rename_i n x y
   obtain⟨T,rfl,rfl,h⟩:=h
   refine zbP (v:=x) (S1:=T++[Ob.ins C_Plus.C []]) (S2:=T++[Ob.ins C_Plus.C []]) (n:=T.length) (fs:=[]) (fun K hK=>by exact hK) (fun K hK=>by exact hK) (zbS ..) (by simp) ?_
   rw[zbX]
   refine zbP (v:=y) (S1:=T++[Ob.ins C_Plus.C [("one",x)]]) (S2:=T++[Ob.ins C_Plus.C [("one",x)]]) (n:=T.length) (fs:=[("one",x)]) (fun K hK=>by exact hK) (fun K hK=>by exact hK) (zbS ..) (by simp) ?_
   rw[zbX]
   exact h
  ·exact h.elim⟩)
def zqq  (C_Minus:zbj K mg)(d_Minus___init__:Dm K C_Minus.C "__init__" "Pair.__init__" zhD zez):Fm P w K mg base 1 C_Minus.C "__init__" zez (zeo C_Minus.C):=
 d_Minus___init__.mk' (zas (k:=0) d_Minus___init__.F zl5 (zoJ C_Minus.C) fun cdv A outer s H E hr=>⟨_,(zag (zbV C_Minus.cl C_Minus.n_one (dv 0) (dv 1)) (zaf (zbV C_Minus.cl C_Minus.n_other (dv 0) (dv 2)))),fun ds S Q ex h=>by
  unfold zeo at h
  split at h
  ·rename_i n x y
   obtain⟨T,rfl,rfl,h⟩:=h
   refine zbP (v:=x) (S1:=T++[Ob.ins C_Minus.C []]) (S2:=T++[Ob.ins C_Minus.C []]) (n:=T.length) (fs:=[]) (fun K hK=>by exact hK) (fun K hK=>by exact hK) (zbS ..) (by simp) ?_
   rw[zbX]
   refine zbP (v:=y) (S1:=T++[Ob.ins C_Minus.C [("one",x)]]) (S2:=T++[Ob.ins C_Minus.C [("one",x)]]) (n:=T.length) (fs:=[("one",x)]) (fun K hK=>by exact hK) (fun K hK=>by exact hK) (zbS ..) (by simp) ?_
   rw[zbX]
   exact h
  ·exact h.elim⟩)
def znX  (C_Times:zbi K mg)(d_Times___init__:Dm K C_Times.C "__init__" "Pair.__init__" zhu zfn):Fm P w K mg base 1 C_Times.C "__init__" zfn (zfj C_Times.C):=
 d_Times___init__.mk' (zas (k:=0) d_Times___init__.F zrM (zpu C_Times.C) fun cdv A outer s H E hr=>⟨_,(zag (zbV C_Times.cl C_Times.n_one (dv 0) (dv 1)) (zaf (zbV C_Times.cl C_Times.n_other (dv 0) (dv 2)))),fun ds S Q ex h=>by
  unfold zfj at h
  split at h
  ·rename_i n x y
   obtain⟨T,rfl,rfl,h⟩:=h
   refine zbP (v:=x) (S1:=T++[Ob.ins C_Times.C []]) (S2:=T++[Ob.ins C_Times.C []]) (n:=T.length) (fs:=[]) (fun K hK=>by exact hK) (fun K hK=>by exact hK) (zbS ..) (by simp) ?_
   rw[zbX]
   refine zbP (v:=y) (S1:=T++[Ob.ins C_Times.C [("one",x)]]) (S2:=T++[Ob.ins C_Times.C [("one",x)]]) (n:=T.length) (fs:=[("one",x)]) (fun K hK=>by exact hK) (fun K hK=>by exact hK) (zbS ..) (by simp) ?_
   rw[zbX]
   exact h
  ·exact h.elim⟩)
def zpd  (C_Power:zbk K mg)(C_Times:zbi K mg)(C_Minus:zbj K mg)(C_Plus:zbg K mg)(C_Unknown:zbq K mg)(C_Number:zbp K mg)(d_kind_of:Df K mg "kind_of" zgm zdh)(G_Power___init__:Fm P w K mg base 1 C_Power.C "__init__" ze2 (zf0 C_Power.C))(G_Times___init__:Fm P w K mg base 1 C_Times.C "__init__" zfn (zfj C_Times.C))(G_Minus___init__:Fm P w K mg base 1 C_Minus.C "__init__" zez (zeo C_Minus.C))(G_Plus___init__:Fm P w K mg base 1 C_Plus.C "__init__" zfI (zfo C_Plus.C))(G_Unknown___init__:Fm P w K mg base 1 C_Unknown.C "__init__" zfE (zfm C_Unknown.C))(G_Number___init__:Fm P w K mg base 1 C_Number.C "__init__" zeB (zeA C_Number.C)):Fk P w K mg base 3 "kind_of" zdh (zd5 C_Number.C C_Unknown.C C_Plus.C C_Minus.C C_Times.C C_Power.C):=
 d_kind_of.mk' (zas (k:=2) d_kind_of.F zrp (znj C_Number.C C_Unknown.C C_Plus.C C_Minus.C C_Times.C C_Power.C) fun cdv A outer s H E hr=>⟨_,(zag (zaQ (zaO (za6 hr) (zam (dv 0) zab (fun _ _=>rfl)) zbe (zaL _)) (zaf (zan (zdy ⟨C_Number.makes,G_Number___init__.m.at_,G_Number___init__.m.fn,C_Number.kp⟩ G_Number___init__.ok (hr.mono (by decide)) rfl C_Number.m G_Number___init__.b zd7 (zaa (zam (dv 0) zab (fun _ _=>rfl)) (zaa (zam (dv 0) zab (fun _ _=>rfl)) zac))))) zaW) (zag (zaQ (zaO (za6 hr) (zam (dv 0) zab (fun _ _=>rfl)) zbe (zaL _)) (zaf (zan (zdy ⟨C_Unknown.makes,G_Unknown___init__.m.at_,G_Unknown___init__.m.fn,C_Unknown.kp⟩ G_Unknown___init__.ok (hr.mono (by decide)) rfl C_Unknown.m G_Unknown___init__.b zd7 (zaa (zam (dv 0) zab (fun _ _=>rfl)) zac)))) zaW) (zag (zaQ (zaO (za6 hr) (zam (dv 0) zab (fun _ _=>rfl)) zbe (zaL _)) (zaf (zan (zdy ⟨C_Plus.makes,G_Plus___init__.m.at_,G_Plus___init__.m.fn,C_Plus.kp⟩ G_Plus___init__.ok (hr.mono (by decide)) rfl C_Plus.m G_Plus___init__.b zd7 (zaa (zam (dv 0) zab (fun _ _=>rfl)) (zaa (zam (dv 0) zab (fun _ _=>rfl)) zac))))) zaW) (zag (zaQ (zaO (za6 hr) (zam (dv 0) zab (fun _ _=>rfl)) zbe (zaL _)) (zaf (zan (zdy ⟨C_Minus.makes,G_Minus___init__.m.at_,G_Minus___init__.m.fn,C_Minus.kp⟩ G_Minus___init__.ok (hr.mono (by decide)) rfl C_Minus.m G_Minus___init__.b zd7 (zaa (zam (dv 0) zab (fun _ _=>rfl)) (zaa (zam (dv 0) zab (fun _ _=>rfl)) zac))))) zaW) (zag (zaQ (zaO (za6 hr) (zam (dv 0) zab (fun _ _=>rfl)) zbe (zaL _)) (zaf (zan (zdy ⟨C_Times.makes,G_Times___init__.m.at_,G_Times___init__.m.fn,C_Times.kp⟩ G_Times___init__.ok (hr.mono (by decide)) rfl C_Times.m G_Times___init__.b zd7 (zaa (zam (dv 0) zab (fun _ _=>rfl)) (zaa (zam (dv 0) zab (fun _ _=>rfl)) zac))))) zaW) (zaf (zan (zdy ⟨C_Power.makes,G_Power___init__.m.at_,G_Power___init__.m.fn,C_Power.kp⟩ G_Power___init__.ok (hr.mono (by decide)) rfl C_Power.m G_Power___init__.b zd7 (zaa (zam (dv 0) zab (fun _ _=>rfl)) (zaa (zam (dv 0) zab (fun _ _=>rfl)) zac)))))))))),fun ds S Q ex h=>by
  unfold zd5 at h
  split at h
  ·obtain⟨v,rfl,h⟩:=h
   cases v <;> exact⟨S,rfl,rfl,rfl,h⟩
  ·exact h.elim⟩)
def zmg  (C_Power:zbk K mg)(C_Times:zbi K mg)(C_Minus:zbj K mg)(C_Plus:zbg K mg)(C_Unknown:zbq K mg)(C_Number:zbp K mg)(d_worths:Df K mg "worths" zgG zdv)(G_Power_forth:Fm P w K mg base 3 C_Power.C "forth" zem (zd8 C_Number.C C_Unknown.C C_Plus.C C_Minus.C C_Times.C C_Power.C))(G_Times_forth:Fm P w K mg base 3 C_Times.C "forth" zfr (zdW C_Number.C C_Unknown.C C_Plus.C C_Minus.C C_Times.C C_Power.C))(G_Minus_forth:Fm P w K mg base 2 C_Minus.C "forth" zfw (zde C_Number.C C_Unknown.C C_Plus.C C_Minus.C C_Times.C C_Power.C))(G_Plus_forth:Fm P w K mg base 2 C_Plus.C "forth" zfz (zdD C_Number.C C_Unknown.C C_Plus.C C_Minus.C C_Times.C C_Power.C))(G_Unknown_forth:Fm P w K mg base 1 C_Unknown.C "forth" zeO (zdE C_Number.C C_Unknown.C C_Plus.C C_Minus.C C_Times.C C_Power.C))(G_Number_forth:Fm P w K mg base 3 C_Number.C "forth" zeK (zdo C_Number.C C_Unknown.C C_Plus.C C_Minus.C C_Times.C C_Power.C))(G_kind_of:Fk P w K mg base 3 "kind_of" zdh (zd5 C_Number.C C_Unknown.C C_Plus.C C_Minus.C C_Times.C C_Power.C)):Fk P w K mg base 4 "worths" zdv zdJ:=
 d_worths.mk' (zas (k:=3) d_worths.F zix (znh) fun cdv A outer s H E hr=>⟨_,(zag (zar (i:=3) zix.nd rfl (Or.inl rfl) (zbx zac)) (zag (zdA (i:=4) PassesOwn.never rfl zix.nd rfl (Or.inl rfl) (dv 0) (zaf (zbh (zbJ (dv 3) (zly (zak G_kind_of hr (zaa (dv 4) zac)) (zbM C_Number.cl G_Number_forth (hr.mono (by decide)) (zbM C_Unknown.cl G_Unknown_forth (hr.mono (by decide)) (zbM C_Plus.cl G_Plus_forth (hr.mono (by decide)) (zbM C_Minus.cl G_Minus_forth (hr.mono (by decide)) (zbM C_Times.cl G_Times_forth (hr.mono (by decide)) (zbM C_Power.cl G_Power_forth (hr.mono (by decide)) zkZ)))))) zef (zaa (dv 3) (zaa (dv 1) (zaa (dv 2) zac)))))))) (zaf (zan (dv 3))))),fun ds S Q ex h=>by
  unfold zdJ at h
  split at h
  ·rename_i a b g
   obtain⟨ns,ws,bs,ha,hb,net,sb,hg,hl,h⟩:=h
   have disp:∀v:Nd,∃C fs sd,v.ob C_Number.C C_Unknown.C C_Plus.C C_Minus.C C_Times.C C_Power.C=.ins C fs∧(C,sd)∈[(C_Number.C,zdo C_Number.C C_Unknown.C C_Plus.C C_Minus.C C_Times.C C_Power.C),(C_Unknown.C,zdE C_Number.C C_Unknown.C C_Plus.C C_Minus.C C_Times.C C_Power.C),(C_Plus.C,zdD C_Number.C C_Unknown.C C_Plus.C C_Minus.C C_Times.C C_Power.C),(C_Minus.C,zde C_Number.C C_Unknown.C C_Plus.C C_Minus.C C_Times.C C_Power.C),(C_Times.C,zdW C_Number.C C_Unknown.C C_Plus.C C_Minus.C C_Times.C C_Power.C),(C_Power.C,zd8 C_Number.C C_Unknown.C C_Plus.C C_Minus.C C_Times.C C_Power.C)]∧fs.lookup ("forth":Str)=none∧∀(n w p:Nat) (g:Int) (S:Sto) (Q:DK) (ex:Addr→Sto→Prop) (vs bs:List (Int×Int)),S[n]?=some (v.ob C_Number.C C_Unknown.C C_Plus.C C_Minus.C C_Times.C C_Power.C)→S[w]?=some (.lst (vs.map frD))→S[p]?=some (.lst (bs.map frD))→v.ok vs.length bs.length→Spn 1400 vs→(1≤g∧g≤1000000)→Q (frD (v.fw vs bs g)) S→sd [.ref n,.ref w,.ref p,.int g] S Q ex:=by
    intro v
    cases v with
    | number x y=>exact⟨_,_,_,rfl,(.head _),rfl,fun n w p g S Q ex vs bs a1 a2 a3 a4 a5 a6 q=>⟨x,y,vs,bs,a1,a2,a3,a4,a5,a6,q⟩⟩
    | unknown k=>exact⟨_,_,_,rfl,(.tail _ (.head _)),rfl,fun n w p g S Q ex vs bs a1 a2 a3 a4 a5 a6 q=>⟨k,vs,bs,a1,a2,a3,a4,a5,a6,q⟩⟩
    | plus i j=>exact⟨_,_,_,rfl,(.tail _ (.tail _ (.head _))),rfl,fun n w p g S Q ex vs bs a1 a2 a3 a4 a5 a6 q=>⟨i,j,vs,bs,a1,a2,a3,a4,a5,a6,q⟩⟩
    | minus i j=>exact⟨_,_,_,rfl,(.tail _ (.tail _ (.tail _ (.head _)))),rfl,fun n w p g S Q ex vs bs a1 a2 a3 a4 a5 a6 q=>⟨i,j,vs,bs,a1,a2,a3,a4,a5,a6,q⟩⟩
    | times i j=>exact⟨_,_,_,rfl,(.tail _ (.tail _ (.tail _ (.tail _ (.head _))))),rfl,fun n w p g S Q ex vs bs a1 a2 a3 a4 a5 a6 q=>⟨i,j,vs,bs,a1,a2,a3,a4,a5,a6,q⟩⟩
    | power i m=>exact⟨_,_,_,rfl,(.tail _ (.tail _ (.tail _ (.tail _ (.tail _ (.head _)))))),rfl,fun n w p g S Q ex vs bs a1 a2 a3 a4 a5 a6 q=>⟨i,m,vs,bs,a1,a2,a3,a4,a5,a6,q⟩⟩
   have la:=za2 ha
   have lb:=za2 hb
   refine zdr (n:=a) (o:=.lst (ns.map Nd.d)) (fun k dl' S'=>k≤ns.length∧Pre S S'∧S'[S.length]?=some (.lst ((zae bs g (ns.take k)).map frD))∧∃u:Option D,dl'=[some (.ref a),some (.ref b),some (.int g),some (.ref S.length),u]) ⟨Nat.zero_le _,Pre.refl.push,zat _ _,_,rfl⟩ (fun k dl' S' w=>w.2.1 _ _ ha) ?_ ?_
   ·rintro k x dl' S' nx ct ex' ⟨hk,pr,hf,u,rfl⟩ hn
    have ex2:(ns.map Nd.d)[k]?=some x:=ex'
    rw[List.getElem?_map] at ex2
    obtain⟨v,hv,rfl⟩:=Option.map_eq_some_iff.mp ex2
    have hk':=(List.getElem?_eq_some_iff.mp hv).1
    have ln:(zae bs g (ns.take k)).length=k:=by rw[zbB,List.length_take]; omega
    have okv:v.ok (zae bs g (ns.take k)).length bs.length:=by rw[ln]; exact(net.ok k v hv).1
    obtain⟨C,fs,sd,eo,hm,hf2,go⟩:=disp v
    have N1:=zat S' (v.ob C_Number.C C_Unknown.C C_Plus.C C_Minus.C C_Times.C C_Power.C)
    refine zqF (n:=S.length) (S1:=S') (S2:=S'++[v.ob C_Number.C C_Unknown.C C_Plus.C C_Minus.C C_Times.C C_Power.C]) (xs:=(zae bs g (ns.take k)).map frD) (y:=frD (v.fw (zae bs g (ns.take k)) bs g)) (fun K hK=>by exact hK) hf (fun K hK=>?_) (zao hf) (by rw[List.length_map,ln]; omega) ?_
    ·refine zj7 (n:=S'.length) (C:=C) (sd:=sd) (fs:=fs) (S1:=S'++[v.ob C_Number.C C_Unknown.C C_Plus.C C_Minus.C C_Times.C C_Power.C]) (fun K hK=>⟨v,rfl,by exact hK⟩) (by rw[← eo]; exact N1) hm hf2 ?_
     exact go _ _ _ _ _ _ _ (zae bs g (ns.take k)) bs N1 (zao hf) (zao (pr _ _ hb)) okv ((zhO net rfl sb hg k hk).mono (by decide)) hg hK
    ·refine hn _ _ ⟨by omega,zdF (zdV pr _) (Nat.le_refl _),?_,_,rfl⟩
     rw[zbr hv,zc7,List.map_append]
     exact zbE (zao hf)
   ·rintro dl' S' ⟨hk,pr,hf,u,rfl⟩
    refine h _ _ pr (Nat.le_refl _) ?_
    have e:ns.take (zah (.lst (ns.map Nd.d))).length=ns:=by
     show ns.take (ns.map Nd.d).length=ns
     rw[List.length_map,List.take_length]
    rw[e] at hf
    exact hf
  ·exact h.elim⟩)
def zl2  (d_middle:Df K mg "middle" zht zfk):Fk P w K mg base 1 "middle" zfk zer:=
 d_middle.mk' (zas (k:=0) d_middle.F zoK (zrh) fun cdv A outer s H E hr=>⟨_,(zaf (zan (zad za4 (zad zaZ (zam (dv 0) zab (fun _ _=>rfl)) (zam (dv 0) zab (fun _ _=>rfl))) zab))),fun ds S Q ex h=>by
  unfold zer at h
  split at h
  ·exact h
  ·exact h.elim⟩)
def zlV  (d_middles:Df K mg "middles" zeR zeJ)(G_middle:Fk P w K mg base 1 "middle" zfk zer):Fk P w K mg base 2 "middles" zeJ zen:=
 d_middles.mk' (zas (k:=1) d_middles.F zoF (zo9) fun cdv A outer s H E hr=>⟨_,(zaf (zan (zcR (x:="span") (N:=[]) (caps:=[]) (ar:=zaj zeR) rfl rfl ⟨rfl,by decide +kernel,by decide +kernel,rfl,by decide +kernel,by decide +kernel⟩ rfl (by decide) (dv 0) (fun _ _ _ _ _ _=>zbI) (fun _ _ _ _ _ _=>(zak G_middle hr (zaa (dv 0) zac)))))),fun ds S Q ex h=>by
  unfold zen at h
  split at h
  ·rename_i s
   obtain⟨vs,hs,l9,h⟩:=h
   refine zcs (n:=s) (S1:=S) (o:=.lst (vs.map frD)) (fun d=>match d with | .tup [.int a,.int b]=>.int ((a + b) / 2) | _=>.non) (fun K hK=>by exact hK) hs (by show (vs.map frD).length≤1000; rw[List.length_map]; omega) (fun x hx S2 K pr hK=>?_) ?_
   ·have hx':x∈vs.map frD:=hx
    obtain⟨p,_,rfl⟩:=List.mem_map.mp hx'
    exact hK
   ·have e2:(zah (.lst (vs.map frD))).map (fun d=>match d with | .tup [.int a,.int b]=>.int ((a + b) / 2) | _=>.non)=vs.map fun p=>D.int (mid p):=by
     show (vs.map frD).map _=_
     rw[List.map_map]
     rfl
    rw[e2]
    exact h
  ·exact h.elim⟩)
def zme  (d_box_of_middles:Df K mg "box_of_middles" zeu zdT)(G_middles:Fk P w K mg base 2 "middles" zeJ zen):Fk P w K mg base 3 "box_of_middles" zdT zec:=
 d_box_of_middles.mk' (zas (k:=2) d_box_of_middles.F zqG (zpC) fun cdv A outer s H E hr=>⟨_,(zaf (zan (zcR (x:="place") (N:=[]) (caps:=[]) (ar:=zaj zeu) rfl rfl ⟨rfl,by decide +kernel,by decide +kernel,rfl,by decide +kernel,by decide +kernel⟩ rfl (by decide) (zak G_middles hr (zaa (dv 0) zac)) (fun _ _ _ _ _ _=>zbI) (fun _ _ _ _ _ _=>(zaP (zaa (dv 0) (zaa (dv 0) zac))))))),fun ds S Q ex h=>by
  unfold zec at h
  split at h
  ·rename_i b
   obtain⟨vs,hb,l9,h⟩:=h
   refine zcs (n:=S.length) (S1:=S++[.lst (vs.map fun p=>.int (mid p))]) (o:=.lst (vs.map fun p=>.int (mid p))) (fun d=>.tup [d,d]) (fun K hK=>⟨vs,hb,l9,hK⟩) (zat _ _) (by show (vs.map _).length≤1000; rw[List.length_map]; omega) (fun x hx S2 K pr hK=>by exact hK) ?_
   refine h _ _ Pre.refl.push.push (by simp) ?_
   have e:(zah (.lst (vs.map fun p=>D.int (mid p)))).map (fun d=>D.tup [d,d])=(vs.map zax).map frD:=by
    show (vs.map fun p=>D.int (mid p)).map _=_
    rw[List.map_map]
    rw[List.map_map]
    rfl
   rw[e]
   exact zat _ _
  ·exact h.elim⟩)
def znD  (d_thin_worths:Df K mg "thin_worths" zhU zfO)(G_picked:Fk P w K mg base 1 "picked" zd0 zeb)(G_worths:Fk P w K mg base 4 "worths" zdv zdJ)(G_box_of_middles:Fk P w K mg base 3 "box_of_middles" zdT zec):Fk P w K mg base 5 "thin_worths" zfO zeH:=
 d_thin_worths.mk' (zas (k:=4) d_thin_worths.F zo4 (zl0) fun cdv A outer s H E hr=>⟨_,(zaf (zan (zak G_picked hr (zaa (zak G_worths hr (zaa (dv 0) (zaa (zak G_box_of_middles hr (zaa (dv 2) zac)) (zaa (dv 3) zac)))) (zaa (dv 1) zac))))),fun ds S Q ex h=>by
  unfold zeH at h
  split at h
  ·rename_i a p b g
   obtain⟨ns,ws,bs,is,ha,hb,net,sb,hg,l7,b9,hp,i9,hi,h⟩:=h
   refine⟨bs,hb,b9,fun T m pr lm hm=>?_⟩
   refine⟨ns,ws,bs.map zax,pr _ _ ha,hm,by rw[List.length_map]; exact net,zi0 sb,hg,l7,fun T1 m1 pr1 lm1 h1=>?_⟩
   refine⟨_,is,h1,pr1 _ _ (pr _ _ hp),i9,fun i him=>by rw[List.length_map,zbB]; exact hi i him,?_⟩
   have e:(is.map fun i=>((zae (bs.map zax) g ns).map frD).getD i .non)=(is.map fun (i:Nat)=>gt (zae (bs.map zax) g ns) i).map frD:=by
    rw[List.map_map]
    refine List.map_congr_left fun i him=>?_
    have hl:i < (zae (bs.map zax) g ns).length:=by rw[zbB]; exact hi i him
    show _=frD (gt (zae (bs.map zax) g ns) (i:Int))
    unfold gt
    rw[Int.toNat_natCast]
    simp[hl]
   rw[e]
   refine h _ _ (fun x o z=>zao (pr1 _ _ (pr _ _ z))) ?_ (zat _ _)
   have:=zfl pr
   have:=zfl pr1
   omega
  ·exact h.elim⟩)
def zqw  (d_sum_of_products:Df K mg "sum_of_products" zia zdQ)(G_add_spans:Fk P w K mg base 1 "add_spans" zck zcg)(G_mul_spans:Fk P w K mg base 2 "mul_spans" zco zcB)(z_zip:mg "zip"=none):Fk P w K mg base 3 "sum_of_products" zdQ zdX:=
 d_sum_of_products.mk' (zas (k:=2) d_sum_of_products.F zhm (zor) fun cdv A outer s H E hr=>⟨_,(zag (zar (i:=3) zhm.nd rfl (Or.inl rfl) (zaP (zaa zab (zaa zab zac)))) (zag (zrN (is:=[4,5]) PassesOwn.never rfl zhm.nd (Nms.cons (i:=4) rfl (Or.inl rfl) (by first | exact .inl rfl | exact .inr rfl) (Nms.cons (i:=5) rfl (Or.inl rfl) (by first | exact .inl rfl | exact .inr rfl) Nms.nil)) rfl rfl z_zip PyProof.Rows.Boot.«zip» (zaa (dv 0) (zaa (dv 1) zac)) (zaf (zar (i:=3) zhm.nd rfl (Or.inl rfl) (zak G_add_spans hr (zaa (dv 3) (zaa (zak G_mul_spans hr (zaa (dv 4) (zaa (dv 5) (zaa (dv 2) zac)))) zac)))))) (zaf (zan (dv 3))))),fun ds S Q ex h=>by
  unfold zdX at h
  split at h
  ·rename_i a b g
   obtain⟨us,vs,ha,hb,l6,z1,z2,hg,h⟩:=h
   have sg:Sz 21 g:=Sz.of 1000000 (by omega)
   refine zlX (n:=a) (n':=b) (xs:=us.map frD) (ys:=vs.map frD) (S:=S) (fun k dl'=>∃u1 u2:Option D,dl'=[some (.ref a),some (.ref b),some (.int g),some (frD (sumP g (us.take k) (vs.take k))),u1,u2]) (fun K hK=>by exact hK) ha hb ⟨_,_,rfl⟩ ?_ ?_
   ·rintro k x y dl' nx ct hx hy ⟨u1,u2,rfl⟩ hn
    rw[List.getElem?_map] at hx hy
    obtain⟨p,hp,rfl⟩:=Option.map_eq_some_iff.mp hx
    obtain⟨r,hr,rfl⟩:=Option.map_eq_some_iff.mp hy
    have zp:=z1 _ (List.mem_of_getElem? hp)
    have zr:=z2 _ (List.mem_of_getElem? hr)
    refine⟨⟨⟨zaE zp.1 zr.1,zaE zp.1 zr.2,zaE zp.2 zr.1,zaE zp.2 zr.2⟩,sg.fd (by omega)⟩,fun mn mx hc=>?_⟩
    obtain⟨rfl,rfl⟩:=hc.eq
    refine hn _ ⟨some (frD p),some (frD r),?_⟩
    rw[ziP g us vs k hp hr]
    rfl
   ·rintro dl' ⟨u1,u2,rfl⟩
    rw[List.length_map,List.length_map,zkk]
    exact h
  ·exact h.elim⟩)
def zps  (d_lacking:Df K mg "lacking" zfN zfZ)(G_take_spans:Fk P w K mg base 1 "take_spans" zcC zcx)(G_sum_of_products:Fk P w K mg base 3 "sum_of_products" zdQ zdX):Fk P w K mg base 4 "lacking" zfZ zeq:=
 d_lacking.mk' (zgI (zas (k:=3) d_lacking.F ziz (zg9 (zoH)) fun cdv A outer s H E hr=>⟨_,(zag (zar (i:=5) ziz.nd rfl (Or.inl rfl) (zkd (zaO (za6 hr) (dv 0) (dv 1) (zaL _)) (zaP (zaa (dv 4) (zaa (dv 4) zac))) (zaP (zaa zab (zaa zab zac))))) (zag (zj4 (x:="slant") (N:=["column"]) (caps:=[1]) (ar:=zaj zfN) rfl rfl ⟨rfl,by decide +kernel,by decide +kernel,rfl,by decide +kernel,by decide +kernel⟩ rfl (by decide) (i:=6) ziz.nd rfl rfl (dv 3) (fun _ _ _ _ _ _=>zbI) (fun _ _ _ _ _ _=>(zaA (dv 0) (dv 1) (fun _ _=>rfl)))) (zaf (zan (zak G_take_spans hr (zaa (dv 5) (zaa (zak G_sum_of_products hr (zaa (dv 2) (zaa (dv 6) (zaa (dv 4) zac)))) zac))))))),fun ds S Q ex h=>by
  obtain⟨Q0,ex0,rfl,rfl,h⟩:=h
  unfold zeq at h
  split at h
  ·rename_i k c t s g
   obtain⟨q,kn,cn,ts,R,ds,rfl,rfl,ht,hs,rows,zr,hc,l6,r6,z1,hg,h⟩:=h
   have tail:∀whole:Int×Int,whole=(if kn=cn then (g,g) else (0,0))→∀K:DK,K (frD (zbt g kn cn ts R)) (S++[.lst ((R.map fun r=>r.getD cn (0,0)).map frD)])→True:=fun _ _ _ _=>trivial
   have col:∀(k:Nat) (r:List (Int×Int)),R[k]?=some r→atI (r.map frD) ((cn:Nat):Int)=some (frD (r.getD cn (0,0))):=fun k r hr=>by
    have hl:=(zr r (List.mem_of_getElem? hr)).1
    have z:=za0 (vs:=r) (i:=((cn:Nat):Int)) ⟨by omega,by rw[hl]; omega⟩
    rw[z]
    have e:gt r ((cn:Nat):Int)=r.getD cn (0,0):=by
     have ll:cn < r.length:=by rw[hl]; exact hc
     unfold gt
     rw[Int.toNat_natCast]
     simp[ll]
    rw[e]
   have bd:Bd 20000 (R.map fun r=>r.getD cn (0,0)):=fun p hp=>by
    obtain⟨r,hr,er⟩:=List.mem_map.mp hp
    subst er
    obtain⟨hl,b⟩:=zr r hr
    have ll:cn < r.length:=by rw[hl]; exact hc
    have e:r.getD cn (0,0)=r[cn]:=by simp[ll]
    rw[e]
    exact⟨(b _ (List.getElem_mem ll)).1.mono (by decide),(b _ (List.getElem_mem ll)).2.mono (by decide)⟩
   have zbd:∀whole:Int×Int,whole=(if kn=cn then (g,g) else (0,0))→Gc S Q0 (.tup [.int (whole.1 - (sumP g ts (R.map fun r=>r.getD cn (0,0))).2),.int (whole.2 - (sumP g ts (R.map fun r=>r.getD cn (0,0))).1)]) (S++[.lst ((R.map fun r=>r.getD cn (0,0)).map frD)]):=fun whole e=>by
    subst e
    exact⟨Pre.refl.push,zdR,h⟩
   refine ifD (fun e=>?_) (fun e=>?_)
   ·refine zla (n:=s) (S1:=S) (o:=.lst ds) (fun k d=>∃r,R[k]?=some r∧d=frD (r.getD cn (0,0))) (fun K hK=>by exact hK) hs (by show ds.length≤1000; rw[rows.1]; omega) (fun k x hx S2 K pr hK=>?_) (fun xs lx hx=>?_)
    ·have hx':ds[k]?=some x:=hx
     have hk:k < R.length:=by
      have:=(List.getElem?_eq_some_iff.mp hx').1
      rw[rows.1] at this
      exact this
     obtain⟨a,rfl,_,ha⟩:=rows.2 k x _ hx' (List.getElem?_eq_getElem hk)
     refine zay (o:=.lst _) (pr _ _ ha) (col k _ (List.getElem?_eq_getElem hk)) ?_
     exact hK _ ⟨_,List.getElem?_eq_getElem hk,rfl⟩
    ·have e2:xs=(R.map fun r=>r.getD cn (0,0)).map frD:=by
      refine List.ext_getElem? fun k=>?_
      by_cases hk:k < xs.length
      ·obtain⟨r,hr,e⟩:=hx k _ (List.getElem?_eq_getElem hk)
       rw[List.getElem?_eq_getElem hk,List.getElem?_map,List.getElem?_map,hr,e]
       rfl
      ·have lx':xs.length=R.length:=by rw[lx]; exact rows.1
       rw[List.getElem?_eq_none (by omega),List.getElem?_eq_none (by simp; omega)]
     subst e2
     refine⟨ts,_,zao ht,zat _ _,l6,z1,bd,hg,?_⟩
     exact zbd (g,g) (by rw[if_pos (by omega)])
   ·refine zla (n:=s) (S1:=S) (o:=.lst ds) (fun k d=>∃r,R[k]?=some r∧d=frD (r.getD cn (0,0))) (fun K hK=>by exact hK) hs (by show ds.length≤1000; rw[rows.1]; omega) (fun k x hx S2 K pr hK=>?_) (fun xs lx hx=>?_)
    ·have hx':ds[k]?=some x:=hx
     have hk:k < R.length:=by
      have:=(List.getElem?_eq_some_iff.mp hx').1
      rw[rows.1] at this
      exact this
     obtain⟨a,rfl,_,ha⟩:=rows.2 k x _ hx' (List.getElem?_eq_getElem hk)
     refine zay (o:=.lst _) (pr _ _ ha) (col k _ (List.getElem?_eq_getElem hk)) ?_
     exact hK _ ⟨_,List.getElem?_eq_getElem hk,rfl⟩
    ·have e2:xs=(R.map fun r=>r.getD cn (0,0)).map frD:=by
      refine List.ext_getElem? fun k=>?_
      by_cases hk:k < xs.length
      ·obtain⟨r,hr,e⟩:=hx k _ (List.getElem?_eq_getElem hk)
       rw[List.getElem?_eq_getElem hk,List.getElem?_map,List.getElem?_map,hr,e]
       rfl
      ·have lx':xs.length=R.length:=by rw[lx]; exact rows.1
       rw[List.getElem?_eq_none (by omega),List.getElem?_eq_none (by simp; omega)]
     subst e2
     refine⟨ts,_,zao ht,zat _ _,l6,z1,bd,hg,?_⟩
     exact zbd (0,0) (by rw[if_neg (by omega)])
  ·exact h.elim⟩))
def zl9  (d_span_by:Df K mg "span_by" zcZ zfU)(G_add_spans:Fk P w K mg base 1 "add_spans" zck zcg)(G_sum_of_products:Fk P w K mg base 3 "sum_of_products" zdQ zdX)(G_take_spans:Fk P w K mg base 1 "take_spans" zcC zcx)(G_lacking:Fk P w K mg base 4 "lacking" zfZ zeq)(G_box_of_middles:Fk P w K mg base 3 "box_of_middles" zdT zec)(z_zip:mg "zip"=none)(z_range:mg "range"=none)(z_len:mg "len"=none):Fk P w K mg base 5 "span_by" zfU zek:=
 d_span_by.mk' (zgI (zas (k:=4) d_span_by.F zds (zg9 (zpb)) fun cdv A outer s H E hr=>⟨_,(zag (zar (i:=6) zds.nd rfl (Or.inr rfl) (zcR (x:="entry") (N:=[]) (caps:=[]) (ar:=zaj zcZ) rfl rfl ⟨rfl,by decide +kernel,by decide +kernel,rfl,by decide +kernel,by decide +kernel⟩ rfl (by decide) (dv 3) (fun _ _ _ _ _ _=>zbI) (fun _ _ _ _ _ _=>(zaP (zaa (dv 0) (zaa (dv 0) zac)))))) (zag (zar (i:=7) zds.nd rfl (Or.inl rfl) (zak G_box_of_middles hr (zaa (dv 1) zac))) (zag (zar (i:=8) zds.nd rfl (Or.inl rfl) (zak G_take_spans hr (zaa (zaA (dv 7) (dv 0) (fun _ _=>rfl)) (zaa (zak G_sum_of_products hr (zaa (dv 6) (zaa (dv 4) (zaa (dv 2) zac)))) zac)))) (zag (ziG (x:="column") (N:=["k","turns","slants","grid"]) (caps:=[0,6,5,2]) (ar:=zaj zcZ) rfl rfl ⟨rfl,by decide +kernel,by decide +kernel,rfl,by decide +kernel,by decide +kernel⟩ rfl (by decide) (i:=9) zds.nd rfl rfl rfl z_range (zaa (za7 (zba zbG) rfl z_len PyProof.Rows.Boot.«len» (zaa (dv 1) zac)) zac) (fun _ _ _ _ _ _=>zbI) (fun _ _ _ _ _ _=>(zak G_lacking hr (zaa (dv 1) (zaa (dv 0) (zaa (dv 2) (zaa (dv 3) (zaa (dv 4) zac)))))))) (zag (zo5 (x1:="span") (x2:="centre") (N:=[]) (caps:=[]) (ar:=zaj zcZ) rfl rfl ⟨rfl,by decide +kernel,by decide +kernel,by decide +kernel,by decide +kernel⟩ rfl rfl rfl (by decide) (i:=10) zds.nd rfl rfl rfl z_zip PyProof.Rows.Boot.«zip» (zaa (dv 1) (zaa (dv 7) zac)) (fun _ _ _ _ _ _=>(zak G_take_spans hr (zaa (dv 0) (zaa (dv 1) zac))))) (zaf (zan (zak G_add_spans hr (zaa (dv 8) (zaa (zak G_sum_of_products hr (zaa (dv 9) (zaa (dv 10) (zaa (dv 2) zac)))) zac)))))))))),fun ds S Q ex h=>by
  obtain⟨Q0,ex0,rfl,rfl,h⟩:=h
  unfold zek at h
  split at h
  ·rename_i ki b g e t s
   obtain⟨k,box,thin,es,R,ds,rfl,hk,he,e4,ze,hb,ht,hs,rows,zr,bl,r4,t4,zb,zt,hg,h⟩:=h
   have bdE:Bd 20000 (es.map fun x=>(x,x)):=fun p hp=>by
    obtain⟨x,hx,rfl⟩:=List.mem_map.mp hp
    exact⟨(ze x hx).mono (by decide),(ze x hx).mono (by decide)⟩
   have bdT:Bd 20000 thin:=fun p hp=>⟨(zt p hp).1.mono (by decide),(zt p hp).2.mono (by decide)⟩
   have lE:(es.map fun x=>(x,x)).length≤60:=by rw[List.length_map]; omega
   refine zcs (n:=e) (S1:=S) (o:=.lst (es.map D.int)) (fun d=>.tup [d,d]) (fun K hK=>by exact hK) he (by show (es.map D.int).length≤1000; rw[List.length_map]; omega) (fun x hx S2 K pr hK=>by exact hK) ?_
   have eE:(zah (.lst (es.map D.int))).map (fun d=>D.tup [d,d])=(es.map fun x=>(x,x)).map frD:=by
    show (es.map D.int).map _=_
    rw[List.map_map]
    rw[List.map_map]
    rfl
   rw[eE]
   have T0:=zat S (.lst ((es.map fun x=>(x,x)).map frD))
   refine⟨box,zao hb,by omega,fun T m pr lm hm=>?_⟩
   have P0:Pre S T:=fun x o z=>pr _ _ (zao z)
   have hT:=pr _ _ T0
   have kc:inR (((box.map zax).length:Nat):Int) (k:Int):=⟨by omega,by rw[List.length_map]; omega⟩
   have ec:gt (box.map zax) (k:Int)=zax (gt box k):=by
    unfold gt
    rw[Int.toNat_natCast]
    simp[hk]
   have ac:=za0 kc
   rw[ec] at ac
   refine zay (o:=.lst ((box.map zax).map frD)) hm ac ?_
   refine⟨_,thin,hT,P0 _ _ ht,lE,bdE,bdT,hg,?_⟩
   have lk:∀c:Nat,c < box.length→∀(S2:Sto) (K:DK),Pre T S2→K (frD (zbt g k c (es.map fun x=>(x,x)) R)) S2→∃(q kn cn:Nat) (ts:List (Int×Int)) (R':List (List (Int×Int))) (ds':List D),((k:Nat):Int)=(kn:Nat)∧((c:Nat):Int)=(cn:Nat)∧S2[S.length]?=some (.lst (ts.map frD))∧S2[s]?=some (.lst ds')∧zaI S2 0 ds' R'∧(∀r∈R',r.length=q∧Bd 2000 r)∧cn < q∧ts.length≤60∧R'.length≤60∧Bd 20000 ts∧(1≤g∧g≤1000000)∧K (frD (zbt g kn cn ts R')) S2:=fun c hc S2 K p2 hK=>⟨box.length,k,c,_,R,ds,rfl,rfl,p2 _ _ hT,p2 _ _ (P0 _ _ hs),rows.pre fun x o z=>p2 _ _ (P0 _ _ z),zr,hc,lE,by omega,bdE,hg,hK⟩
   refine ziy (j:=((box.length:Nat):Int)) (S1:=T) (fun c=>frD (zbt g k c (es.map fun x=>(x,x)) R)) (fun K hK=>by
    refine zbT (P0 _ _ hb) ?_
    rw[List.length_map]
    exact hK) ⟨by omega,by omega⟩ (fun c hc S2 K p2 hK=>lk c (by omega) S2 K p2 hK) ?_
   rw[Int.toNat_natCast]
   have eL:((List.range box.length).map fun c=>frD (zbt g k c (es.map fun x=>(x,x)) R))=((List.range box.length).map fun c=>zbt g k c (es.map fun x=>(x,x)) R).map frD:=by
    rw[List.map_map]
    rfl
   rw[eL]
   have T1:=zat T (.lst (((List.range box.length).map fun c=>zbt g k c (es.map fun x=>(x,x)) R).map frD))
   refine zgW (n:=b) (n':=m) (S1:=T++[.lst (((List.range box.length).map fun c=>zbt g k c (es.map fun x=>(x,x)) R).map frD)]) (xs:=box.map frD) (ys:=(box.map zax).map frD) (fun x y=>match x,y with | .tup [.int a,.int b],.tup [.int c,.int d]=>.tup [.int (a - d),.int (b - c)] | _,_=>.non) (fun K hK=>by exact hK) (zao (P0 _ _ hb)) (zao hm) (by rw[List.length_map]; omega) (fun j x y hx hy S2 K p2 hK=>?_) ?_
   ·rw[List.getElem?_map] at hx hy
    obtain⟨p,hp,rfl⟩:=Option.map_eq_some_iff.mp hx
    obtain⟨r,hr,rfl⟩:=Option.map_eq_some_iff.mp hy
    exact hK
   have eW:List.zipWith (fun x y=>match x,y with | .tup [.int a,.int b],.tup [.int c,.int d]=>.tup [.int (a - d),.int (b - c)] | _,_=>.non) (box.map frD) ((box.map zax).map frD)=(box.map fun p=>zbZ p (zax p)).map frD:=by
    rw[List.map_map,List.zipWith_map,List.map_map,List.zipWith_self]
    rfl
   rw[eW]
   have zm:Bd 62 (box.map fun p=>zbZ p (zax p)):=fun p hp=>by
    obtain⟨x,hx,rfl⟩:=List.mem_map.mp hp
    have z:=zb x hx
    have zmid:=zg0 z.1 z.2
    exact(zeY (B:=60) (C:=61) z ⟨zmid,zmid⟩).imp (fun z=>z.mono (by decide)) (fun z=>z.mono (by decide))
   have zl:Bd 20000 ((List.range box.length).map fun c=>zbt g k c (es.map fun x=>(x,x)) R):=fun p hp=>by
    obtain⟨c,hc,rfl⟩:=List.mem_map.mp hp
    have hc':=List.mem_range.mp hc
    have bR:Bd 2000 (R.map fun r=>r.getD c (0,0)):=fun p hp=>by
     obtain⟨r,hr,er⟩:=List.mem_map.mp hp
     subst er
     obtain⟨hl,b⟩:=zr r hr
     have ll:c < r.length:=by rw[hl]; exact hc'
     have e:r.getD c (0,0)=r[c]:=by simp[ll]
     rw[e]
     exact b _ (List.getElem_mem ll)
    have bE:Bd 4000 (es.map fun x=>(x,x)):=fun p hp=>by
     obtain⟨x,hx,rfl⟩:=List.mem_map.mp hp
     exact⟨ze x hx,ze x hx⟩
    have z:=zhi hg.1 bE bR lE
    have sg:Sz 21 g:=Sz.of 1000000 (by omega)
    unfold zbt
    have w:Sz 21 (if k=c then (g,g) else (0,0)).1∧Sz 21 (if k=c then (g,g) else (0,0)).2:=by
     split
     ·exact⟨sg,sg⟩
     ·exact⟨Nat.pow_pos (by decide),Nat.pow_pos (by decide)⟩
    exact(zeY w z).imp (fun z=>z.mono (by decide)) (fun z=>z.mono (by decide))
   refine⟨_,_,zao T1,zat _ _,by rw[List.length_map,List.length_range]; omega,zl,fun p hp=>⟨(zm p hp).1.mono (by decide),(zm p hp).2.mono (by decide)⟩,hg,?_⟩
   exact⟨fun x o z=>zao (zao (P0 _ _ z)),zdR,h⟩
  ·exact h.elim⟩))
def zpz  (d_step_by:Df K mg "step_by" zga zfM)(G_span_by:Fk P w K mg base 5 "span_by" zfU zek)(z_enumerate:mg "enumerate"=none):Fk P w K mg base 6 "step_by" zfM ze4:=
 d_step_by.mk' (zas (k:=5) d_step_by.F zqo (znw) fun cdv A outer s H E hr=>⟨_,(zaf (zan (zq1 (x1:="k") (x2:="entries") (N:=["box","grid","thin","slants"]) (caps:=[0,1,3,4]) (ar:=zaj zga) rfl rfl ⟨rfl,by decide +kernel,by decide +kernel,by decide +kernel,by decide +kernel⟩ rfl rfl rfl (by decide) rfl z_enumerate PyProof.Rows.Boot.«enumerate» (zaa (dv 2) zac) (fun _ _ _ _ _ _=>(zak G_span_by hr (zaa (dv 0) (zaa (dv 2) (zaa (dv 3) (zaa (dv 1) (zaa (dv 4) (zaa (dv 5) zac))))))))))),fun ds S Q ex h=>by
  unfold ze4 at h
  split at h
  ·rename_i b g u t s
   obtain⟨box,thin,M,ms,R,ds,hu,mi,lM,zM,hb,ht,hs,rows,zr,bl,r4,t4,zb,zt,hg,h⟩:=h
   refine zpj (n:=u) (S1:=S) (xs:=ms) (fun k d=>frD (za1 g box thin R k (M.getD k []))) (fun K hK=>by exact hK) hu (by rw[mi.1]; omega) (fun k x hx S2 K pr hK=>?_) ?_
   ·have hk:k < M.length:=by
     have:=(List.getElem?_eq_some_iff.mp hx).1
     rw[mi.1] at this
     exact this
    obtain⟨a,rfl,ha⟩:=mi.2 k x _ hx (List.getElem?_eq_getElem hk)
    have eM:M.getD k []=M[k]:=by simp[hk]
    rw[eM] at hK
    have z:=zM _ (List.getElem_mem hk)
    exact⟨k,box,thin,M[k],R,ds,rfl,by omega,pr _ _ ha,z.1,z.2,pr _ _ hb,pr _ _ ht,pr _ _ hs,rows.pre pr,zr,bl,r4,t4,zb,zt,hg,hK⟩
   ·have e:(ms.mapIdx fun k d=>frD (za1 g box thin R k (M.getD k [])))=(M.mapIdx fun k es=>za1 g box thin R k es).map frD:=by
     refine List.ext_getElem? fun k=>?_
     rw[List.getElem?_mapIdx,List.getElem?_map,List.getElem?_mapIdx]
     by_cases hk:k < M.length
     ·rw[List.getElem?_eq_getElem (show k < ms.length by rw[mi.1]; exact hk),List.getElem?_eq_getElem hk]
      simp[hk]
     ·rw[List.getElem?_eq_none (by rw[mi.1]; omega),List.getElem?_eq_none (show M.length≤k by omega)]
      rfl
    rw[e]
    exact h
  ·exact h.elim⟩)
def zmP  (C_Number:zbp K mg)(C_Unknown:zbq K mg)(C_Plus:zbg K mg)(C_Minus:zbj K mg)(C_Times:zbi K mg)(C_Power:zbk K mg)(d_Number_slope:Dm K C_Number.C "slope" "Number.slope" zhT ze6):Fm P w K mg base 1 C_Number.C "slope" ze6 (zea C_Number.C C_Unknown.C C_Plus.C C_Minus.C C_Times.C C_Power.C):=
 d_Number_slope.mk' (zas (k:=0) d_Number_slope.F zok (zl7 C_Number.C C_Unknown.C C_Plus.C C_Minus.C C_Times.C C_Power.C) fun cdv A outer s H E hr=>⟨_,(zaf (zan (zad znI (zbx (zaa (zaP (zaa zab (zaa zab zac))) zac)) (dv 3)))),fun ds S Q ex h=>by
  unfold zea at h
  split at h
  ·rename_i n w s qi g
   obtain⟨x,y,q,vs,sl,ds,hn,hw,hs,rows,sz,⟨rfl,hq⟩,ok,lv,s1,hg,h⟩:=h
   have sg:Sz 21 g:=Sz.of 1000000 (by omega)
   have fin:∀ys:List D,ys=(zaX vs sl g q (Nd.number x y)).map frD→Q (.ref (S++[Ob.lst [frD (0,0)]]).length) ((S++[.lst [frD (0,0)]])++[.lst ys]):=fun ys e=>by
    subst e
    exact h _ _ Pre.refl.push.push (by simp) (zat _ _)
   refine zoS (n:=S.length) (k:=((q:Nat):Int)) (xs:=[frD (0,0)]) (zat _ _) ⟨by omega,by omega⟩ (by simp; omega) ?_
   refine fin _ ?_
   rw[Int.toNat_natCast,zlS]
   unfold zaX
   rw[List.map_map]
   rfl
  ·exact h.elim⟩)
def zqz  (C_Unknown:zbq K mg)(C_Number:zbp K mg)(C_Plus:zbg K mg)(C_Minus:zbj K mg)(C_Times:zbi K mg)(C_Power:zbk K mg)(d_Unknown_slope:Dm K C_Unknown.C "slope" "Unknown.slope" zes zfs)(z_range:mg "range"=none):Fm P w K mg base 1 C_Unknown.C "slope" zfs (zdn C_Number.C C_Unknown.C C_Plus.C C_Minus.C C_Times.C C_Power.C):=
 d_Unknown_slope.mk' (zas (k:=0) d_Unknown_slope.F znv (zoA C_Number.C C_Unknown.C C_Plus.C C_Minus.C C_Times.C C_Power.C) fun cdv A outer s H E hr=>⟨_,(zaf (zan (zjW (x:="k") (N:=["grid","self"]) (caps:=[4,0]) (ar:=zaj zes) rfl rfl ⟨rfl,by decide +kernel,by decide +kernel,rfl,by decide +kernel,by decide +kernel⟩ rfl (by decide) rfl z_range (zaa (dv 3) zac) (fun _ _ _ _ _ _=>zbI) (fun _ _ _ _ _ _=>(zkd (zaO (za6 hr) (dv 0) (zaV C_Unknown.cl C_Unknown.n_place (dv 2)) (zaL _)) (zaP (zaa (dv 1) (zaa (dv 1) zac))) (zaP (zaa zab (zaa zab zac)))))))),fun ds S Q ex h=>by
  unfold zdn at h
  split at h
  ·rename_i n w s qi g
   obtain⟨k,q,vs,sl,ds,hn,hw,hs,rows,sz,⟨rfl,hq⟩,ok,lv,s1,hg,h⟩:=h
   have sg:Sz 21 g:=Sz.of 1000000 (by omega)
   have fin:∀ys:List D,ys=(zaX vs sl g q (Nd.unknown k)).map frD→Q (.ref S.length) (S++[.lst ys]):=fun ys e=>by
    subst e
    exact h _ _ Pre.refl.push (by simp) (zat _ _)
   refine ziy (j:=((q:Nat):Int)) (S1:=S) (fun l=>frD (if (l:Int)=k then (g,g) else (0,0))) (fun K hK=>by exact hK) ⟨by omega,by omega⟩ (fun l hl S2 K pr hK=>?_) ?_
   ·refine zaS (n:=n) (fun K hK=>by exact hK) (pr _ _ hn) rfl ?_
    refine ifD (fun e=>?_) (fun e=>?_)
    ·rw[if_pos e] at hK
     exact hK
    ·rw[if_neg e] at hK
     exact hK
   ·refine fin _ ?_
    rw[Int.toNat_natCast]
    unfold zaX
    rw[List.map_map]
    rfl
  ·exact h.elim⟩)
def zom  (C_Plus:zbg K mg)(d_Plus_slope_of_both:Dm K C_Plus.C "slope_of_both" "Plus.slope_of_both" zib zeQ)(G_add_spans:Fk P w K mg base 1 "add_spans" zck zcg):Fm P w K mg base 2 C_Plus.C "slope_of_both" zeQ (zeL C_Plus.C):=
 d_Plus_slope_of_both.mk' (zas (k:=1) d_Plus_slope_of_both.F zlY (zq6 C_Plus.C) fun cdv A outer s H E hr=>⟨_,(zaf (zan (zak G_add_spans hr (zaa (dv 3) (zaa (dv 4) zac))))),fun ds S Q ex h=>by
  unfold zeL at h
  split at h
  ·exact h
  ·exact h.elim⟩)
def znx  (C_Plus:zbg K mg)(C_Number:zbp K mg)(C_Unknown:zbq K mg)(C_Minus:zbj K mg)(C_Times:zbi K mg)(C_Power:zbk K mg)(d_Plus_slope:Dm K C_Plus.C "slope" "Pair.slope" zf7 zfd)(G_Plus_slope_of_both:Fm P w K mg base 2 C_Plus.C "slope_of_both" zeQ (zeL C_Plus.C))(z_zip:mg "zip"=none):Fm P w K mg base 3 C_Plus.C "slope" zfd (zdj C_Number.C C_Unknown.C C_Plus.C C_Minus.C C_Times.C C_Power.C):=
 d_Plus_slope.mk' (zas (k:=2) d_Plus_slope.F ziI (zmQ C_Number.C C_Unknown.C C_Plus.C C_Minus.C C_Times.C C_Power.C) fun cdv A outer s H E hr=>⟨_,(zag (zar (i:=5) ziI.nd rfl (Or.inr rfl) (zaA (dv 1) (zaV C_Plus.cl C_Plus.n_one (dv 0)) (fun _ _=>rfl))) (zag (zar (i:=6) ziI.nd rfl (Or.inr rfl) (zaA (dv 1) (zaV C_Plus.cl C_Plus.n_other (dv 0)) (fun _ _=>rfl))) (zaf (zan (zio (x1:="a") (x2:="b") (N:=["x","y","grid","self"]) (caps:=[5,6,4,0]) (ar:=zaj zf7) rfl rfl ⟨rfl,by decide +kernel,by decide +kernel,by decide +kernel,by decide +kernel⟩ rfl rfl rfl (by decide) rfl z_zip PyProof.Rows.Boot.«zip» (zaa (zaA (dv 2) (zaV C_Plus.cl C_Plus.n_one (dv 0)) (fun _ _=>rfl)) (zaa (zaA (dv 2) (zaV C_Plus.cl C_Plus.n_other (dv 0)) (fun _ _=>rfl)) zac)) (fun _ _ _ _ _ _=>(ziB (C:=C_Plus.C) (dv 5) C_Plus.cl G_Plus_slope_of_both.m G_Plus_slope_of_both.ok (hr.mono (by decide)) G_Plus_slope_of_both.b zef (zaa (dv 2) (zaa (dv 3) (zaa (dv 0) (zaa (dv 1) (zaa (dv 4) zac)))))))))))),fun ds S Q ex h=>by
  unfold zdj at h
  split at h
  ·rename_i n w s qi g
   obtain⟨i,j,q,vs,sl,ds,hn,hw,hs,rows,sz,⟨rfl,hq⟩,ok,lv,s1,hg,h⟩:=h
   have sg:Sz 21 g:=Sz.of 1000000 (by omega)
   have fin:∀ys:List D,ys=(zaX vs sl g q (Nd.plus i j)).map frD→Q (.ref S.length) (S++[.lst ys]):=fun ys e=>by
    subst e
    exact h _ _ Pre.refl.push (by simp) (zat _ _)
   refine zaS (n:=n) (fun K hK=>by exact hK) hn rfl ?_
   refine zay (o:=.lst (vs.map frD)) hw (za0 (i:=i) ⟨ok.1.1,by have:=ok.1.2; omega⟩) ?_
   refine zaS (n:=n) (fun K hK=>by exact hK) hn rfl ?_
   refine zay (o:=.lst (vs.map frD)) hw (za0 (i:=j) ⟨ok.2.1,by have:=ok.2.2; omega⟩) ?_
   obtain⟨a1,ea,_,ha⟩:=rows.at ok.1
   obtain⟨a2,eb,_,hb⟩:=rows.at ok.2
   obtain⟨la,za⟩:=sz i ok.1
   obtain⟨lb,zb⟩:=sz j ok.2
   have ci:=s1.at (i:=i) ⟨ok.1.1,by have:=ok.1.2; omega⟩
   have cj:=s1.at (i:=j) ⟨ok.2.1,by have:=ok.2.2; omega⟩
   refine zgW (n:=a1) (n':=a2) (S1:=S) (xs:=(sl.getD i.toNat []).map frD) (ys:=(sl.getD j.toNat []).map frD) (fun x y=>match x,y with | .tup [.int a,.int b],.tup [.int c,.int d]=>.tup [.int (a + c),.int (b + d)] | _,_=>.non) (fun K hK=>by
    refine zaS (n:=n) (fun K hK=>by exact hK) hn rfl ?_
    refine zay (o:=.lst ds) hs ea ?_
    refine zaS (n:=n) (fun K hK=>by exact hK) hn rfl ?_
    exact zay (o:=.lst ds) hs eb hK) ha hb (by rw[List.length_map,la]; omega) (fun k x y hx hy S2 K pr hK=>?_) ?_
   ·rw[List.getElem?_map] at hx hy
    obtain⟨p,hp,rfl⟩:=Option.map_eq_some_iff.mp hx
    obtain⟨r,hr,rfl⟩:=Option.map_eq_some_iff.mp hy
    have kq:k < q:=by
     have:=(List.getElem?_eq_some_iff.mp hp).1
     omega
    have e1:gs sl i k=p:=by
     unfold gs
     rw[List.getD_eq_getElem?_getD,hp]
     rfl
    have e2:gs sl j k=r:=by
     unfold gs
     rw[List.getD_eq_getElem?_getD,hr]
     rfl
    have z1:=za k kq
    have z2:=zb k kq
    rw[e1] at z1
    rw[e2] at z2
    refine ziN (n:=n) (fs:=[("one",.int i),("other",.int j)]) (fun K hK=>by exact hK) (pr _ _ hn) rfl ?_
    exact hK
   ·refine fin _ ?_
    rw[List.zipWith_map]
    unfold zaX
    rw[List.map_map]
    rw[ziQ _ _ _ la lb]
    rfl
  ·exact h.elim⟩)
def znF  (C_Minus:zbj K mg)(d_Minus_slope_of_both:Dm K C_Minus.C "slope_of_both" "Minus.slope_of_both" zhH zfc)(G_take_spans:Fk P w K mg base 1 "take_spans" zcC zcx):Fm P w K mg base 2 C_Minus.C "slope_of_both" zfc (zf6 C_Minus.C):=
 d_Minus_slope_of_both.mk' (zas (k:=1) d_Minus_slope_of_both.F zmV (znE C_Minus.C) fun cdv A outer s H E hr=>⟨_,(zaf (zan (zak G_take_spans hr (zaa (dv 3) (zaa (dv 4) zac))))),fun ds S Q ex h=>by
  unfold zf6 at h
  split at h
  ·exact h
  ·exact h.elim⟩)
def znk  (C_Minus:zbj K mg)(C_Number:zbp K mg)(C_Unknown:zbq K mg)(C_Plus:zbg K mg)(C_Times:zbi K mg)(C_Power:zbk K mg)(d_Minus_slope:Dm K C_Minus.C "slope" "Pair.slope" zfp zfu)(G_Minus_slope_of_both:Fm P w K mg base 2 C_Minus.C "slope_of_both" zfc (zf6 C_Minus.C))(z_zip:mg "zip"=none):Fm P w K mg base 3 C_Minus.C "slope" zfu (zdx C_Number.C C_Unknown.C C_Plus.C C_Minus.C C_Times.C C_Power.C):=
 d_Minus_slope.mk' (zas (k:=2) d_Minus_slope.F ziD (zq9 C_Number.C C_Unknown.C C_Plus.C C_Minus.C C_Times.C C_Power.C) fun cdv A outer s H E hr=>⟨_,(zag (zar (i:=5) ziD.nd rfl (Or.inr rfl) (zaA (dv 1) (zaV C_Minus.cl C_Minus.n_one (dv 0)) (fun _ _=>rfl))) (zag (zar (i:=6) ziD.nd rfl (Or.inr rfl) (zaA (dv 1) (zaV C_Minus.cl C_Minus.n_other (dv 0)) (fun _ _=>rfl))) (zaf (zan (zio (x1:="a") (x2:="b") (N:=["x","y","grid","self"]) (caps:=[5,6,4,0]) (ar:=zaj zfp) rfl rfl ⟨rfl,by decide +kernel,by decide +kernel,by decide +kernel,by decide +kernel⟩ rfl rfl rfl (by decide) rfl z_zip PyProof.Rows.Boot.«zip» (zaa (zaA (dv 2) (zaV C_Minus.cl C_Minus.n_one (dv 0)) (fun _ _=>rfl)) (zaa (zaA (dv 2) (zaV C_Minus.cl C_Minus.n_other (dv 0)) (fun _ _=>rfl)) zac)) (fun _ _ _ _ _ _=>(ziB (C:=C_Minus.C) (dv 5) C_Minus.cl G_Minus_slope_of_both.m G_Minus_slope_of_both.ok (hr.mono (by decide)) G_Minus_slope_of_both.b zef (zaa (dv 2) (zaa (dv 3) (zaa (dv 0) (zaa (dv 1) (zaa (dv 4) zac)))))))))))),fun ds S Q ex h=>by
  unfold zdx at h
  split at h
  ·rename_i n w s qi g
   obtain⟨i,j,q,vs,sl,ds,hn,hw,hs,rows,sz,⟨rfl,hq⟩,ok,lv,s1,hg,h⟩:=h
   have sg:Sz 21 g:=Sz.of 1000000 (by omega)
   have fin:∀ys:List D,ys=(zaX vs sl g q (Nd.minus i j)).map frD→Q (.ref S.length) (S++[.lst ys]):=fun ys e=>by
    subst e
    exact h _ _ Pre.refl.push (by simp) (zat _ _)
   refine zaS (n:=n) (fun K hK=>by exact hK) hn rfl ?_
   refine zay (o:=.lst (vs.map frD)) hw (za0 (i:=i) ⟨ok.1.1,by have:=ok.1.2; omega⟩) ?_
   refine zaS (n:=n) (fun K hK=>by exact hK) hn rfl ?_
   refine zay (o:=.lst (vs.map frD)) hw (za0 (i:=j) ⟨ok.2.1,by have:=ok.2.2; omega⟩) ?_
   obtain⟨a1,ea,_,ha⟩:=rows.at ok.1
   obtain⟨a2,eb,_,hb⟩:=rows.at ok.2
   obtain⟨la,za⟩:=sz i ok.1
   obtain⟨lb,zb⟩:=sz j ok.2
   have ci:=s1.at (i:=i) ⟨ok.1.1,by have:=ok.1.2; omega⟩
   have cj:=s1.at (i:=j) ⟨ok.2.1,by have:=ok.2.2; omega⟩
   refine zgW (n:=a1) (n':=a2) (S1:=S) (xs:=(sl.getD i.toNat []).map frD) (ys:=(sl.getD j.toNat []).map frD) (fun x y=>match x,y with | .tup [.int a,.int b],.tup [.int c,.int d]=>.tup [.int (a - d),.int (b - c)] | _,_=>.non) (fun K hK=>by
    refine zaS (n:=n) (fun K hK=>by exact hK) hn rfl ?_
    refine zay (o:=.lst ds) hs ea ?_
    refine zaS (n:=n) (fun K hK=>by exact hK) hn rfl ?_
    exact zay (o:=.lst ds) hs eb hK) ha hb (by rw[List.length_map,la]; omega) (fun k x y hx hy S2 K pr hK=>?_) ?_
   ·rw[List.getElem?_map] at hx hy
    obtain⟨p,hp,rfl⟩:=Option.map_eq_some_iff.mp hx
    obtain⟨r,hr,rfl⟩:=Option.map_eq_some_iff.mp hy
    have kq:k < q:=by
     have:=(List.getElem?_eq_some_iff.mp hp).1
     omega
    have e1:gs sl i k=p:=by
     unfold gs
     rw[List.getD_eq_getElem?_getD,hp]
     rfl
    have e2:gs sl j k=r:=by
     unfold gs
     rw[List.getD_eq_getElem?_getD,hr]
     rfl
    have z1:=za k kq
    have z2:=zb k kq
    rw[e1] at z1
    rw[e2] at z2
    refine ziN (n:=n) (fs:=[("one",.int i),("other",.int j)]) (fun K hK=>by exact hK) (pr _ _ hn) rfl ?_
    exact hK
   ·refine fin _ ?_
    rw[List.zipWith_map]
    unfold zaX
    rw[List.map_map]
    rw[ziQ _ _ _ la lb]
    rfl
  ·exact h.elim⟩)
def zpi  (C_Times:zbi K mg)(d_Times_slope_of_both:Dm K C_Times.C "slope_of_both" "Times.slope_of_both" zhA ze0)(G_add_spans:Fk P w K mg base 1 "add_spans" zck zcg)(G_mul_spans:Fk P w K mg base 2 "mul_spans" zco zcB):Fm P w K mg base 3 C_Times.C "slope_of_both" ze0 (zeN C_Times.C):=
 d_Times_slope_of_both.mk' (zas (k:=2) d_Times_slope_of_both.F znQ (zrn C_Times.C) fun cdv A outer s H E hr=>⟨_,(zaf (zan (zak G_add_spans hr (zaa (zak G_mul_spans hr (zaa (dv 1) (zaa (dv 4) (zaa (dv 5) zac)))) (zaa (zak G_mul_spans hr (zaa (dv 2) (zaa (dv 3) (zaa (dv 5) zac)))) zac))))),fun ds S Q ex h=>by
  unfold zeN at h
  split at h
  ·rename_i x1 x2 y1 y2 a b c d g
   obtain⟨⟨h1,h2,h3,h4,h5,h6,h7,h8,g1,g2⟩,h⟩:=h
   have sg:Sz 21 g:=Sz.of 1000000 (by omega)
   refine⟨⟨⟨zaE h1 h7,zaE h1 h8,zaE h2 h7,zaE h2 h8⟩,sg.fd (by omega)⟩,fun mn mx hc=>?_⟩
   obtain⟨rfl,rfl⟩:=hc.eq
   refine⟨⟨⟨zaE h3 h5,zaE h3 h6,zaE h4 h5,zaE h4 h6⟩,sg.fd (by omega)⟩,fun mn mx hc=>?_⟩
   obtain⟨rfl,rfl⟩:=hc.eq
   exact h
  ·exact h.elim⟩)
def zmO  (C_Times:zbi K mg)(C_Number:zbp K mg)(C_Unknown:zbq K mg)(C_Plus:zbg K mg)(C_Minus:zbj K mg)(C_Power:zbk K mg)(d_Times_slope:Dm K C_Times.C "slope" "Pair.slope" zeD zfy)(G_Times_slope_of_both:Fm P w K mg base 3 C_Times.C "slope_of_both" ze0 (zeN C_Times.C))(z_zip:mg "zip"=none):Fm P w K mg base 4 C_Times.C "slope" zfy (zee C_Number.C C_Unknown.C C_Plus.C C_Minus.C C_Times.C C_Power.C):=
 d_Times_slope.mk' (zas (k:=3) d_Times_slope.F zjk (zqn C_Number.C C_Unknown.C C_Plus.C C_Minus.C C_Times.C C_Power.C) fun cdv A outer s H E hr=>⟨_,(zag (zar (i:=5) zjk.nd rfl (Or.inr rfl) (zaA (dv 1) (zaV C_Times.cl C_Times.n_one (dv 0)) (fun _ _=>rfl))) (zag (zar (i:=6) zjk.nd rfl (Or.inr rfl) (zaA (dv 1) (zaV C_Times.cl C_Times.n_other (dv 0)) (fun _ _=>rfl))) (zaf (zan (zio (x1:="a") (x2:="b") (N:=["x","y","grid","self"]) (caps:=[5,6,4,0]) (ar:=zaj zeD) rfl rfl ⟨rfl,by decide +kernel,by decide +kernel,by decide +kernel,by decide +kernel⟩ rfl rfl rfl (by decide) rfl z_zip PyProof.Rows.Boot.«zip» (zaa (zaA (dv 2) (zaV C_Times.cl C_Times.n_one (dv 0)) (fun _ _=>rfl)) (zaa (zaA (dv 2) (zaV C_Times.cl C_Times.n_other (dv 0)) (fun _ _=>rfl)) zac)) (fun _ _ _ _ _ _=>(ziB (C:=C_Times.C) (dv 5) C_Times.cl G_Times_slope_of_both.m G_Times_slope_of_both.ok (hr.mono (by decide)) G_Times_slope_of_both.b zef (zaa (dv 2) (zaa (dv 3) (zaa (dv 0) (zaa (dv 1) (zaa (dv 4) zac)))))))))))),fun ds S Q ex h=>by
  unfold zee at h
  split at h
  ·rename_i n w s qi g
   obtain⟨i,j,q,vs,sl,ds,hn,hw,hs,rows,sz,⟨rfl,hq⟩,ok,lv,s1,hg,h⟩:=h
   have sg:Sz 21 g:=Sz.of 1000000 (by omega)
   have fin:∀ys:List D,ys=(zaX vs sl g q (Nd.times i j)).map frD→Q (.ref S.length) (S++[.lst ys]):=fun ys e=>by
    subst e
    exact h _ _ Pre.refl.push (by simp) (zat _ _)
   refine zaS (n:=n) (fun K hK=>by exact hK) hn rfl ?_
   refine zay (o:=.lst (vs.map frD)) hw (za0 (i:=i) ⟨ok.1.1,by have:=ok.1.2; omega⟩) ?_
   refine zaS (n:=n) (fun K hK=>by exact hK) hn rfl ?_
   refine zay (o:=.lst (vs.map frD)) hw (za0 (i:=j) ⟨ok.2.1,by have:=ok.2.2; omega⟩) ?_
   obtain⟨a1,ea,_,ha⟩:=rows.at ok.1
   obtain⟨a2,eb,_,hb⟩:=rows.at ok.2
   obtain⟨la,za⟩:=sz i ok.1
   obtain⟨lb,zb⟩:=sz j ok.2
   have ci:=s1.at (i:=i) ⟨ok.1.1,by have:=ok.1.2; omega⟩
   have cj:=s1.at (i:=j) ⟨ok.2.1,by have:=ok.2.2; omega⟩
   refine zgW (n:=a1) (n':=a2) (S1:=S) (xs:=(sl.getD i.toNat []).map frD) (ys:=(sl.getD j.toNat []).map frD) (fun x y=>match x,y with | .tup [.int a,.int b],.tup [.int c,.int d]=>.tup [.int ((zaG (gt vs i) (c,d) g).1 + (zaG (gt vs j) (a,b) g).1),.int ((zaG (gt vs i) (c,d) g).2 + (zaG (gt vs j) (a,b) g).2)] | _,_=>.non) (fun K hK=>by
    refine zaS (n:=n) (fun K hK=>by exact hK) hn rfl ?_
    refine zay (o:=.lst ds) hs ea ?_
    refine zaS (n:=n) (fun K hK=>by exact hK) hn rfl ?_
    exact zay (o:=.lst ds) hs eb hK) ha hb (by rw[List.length_map,la]; omega) (fun k x y hx hy S2 K pr hK=>?_) ?_
   ·rw[List.getElem?_map] at hx hy
    obtain⟨p,hp,rfl⟩:=Option.map_eq_some_iff.mp hx
    obtain⟨r,hr,rfl⟩:=Option.map_eq_some_iff.mp hy
    have kq:k < q:=by
     have:=(List.getElem?_eq_some_iff.mp hp).1
     omega
    have e1:gs sl i k=p:=by
     unfold gs
     rw[List.getD_eq_getElem?_getD,hp]
     rfl
    have e2:gs sl j k=r:=by
     unfold gs
     rw[List.getD_eq_getElem?_getD,hr]
     rfl
    have z1:=za k kq
    have z2:=zb k kq
    rw[e1] at z1
    rw[e2] at z2
    refine ziN (n:=n) (fs:=[("one",.int i),("other",.int j)]) (fun K hK=>by exact hK) (pr _ _ hn) rfl ?_
    exact⟨⟨ci.2.1.mono (by decide),ci.2.2.mono (by decide),cj.2.1.mono (by decide),cj.2.2.mono (by decide),z1.2.1.mono (by decide),z1.2.2.mono (by decide),z2.2.1.mono (by decide),z2.2.2.mono (by decide),hg.1,hg.2⟩,hK⟩
   ·refine fin _ ?_
    rw[List.zipWith_map]
    unfold zaX
    rw[List.map_map]
    rw[ziQ _ _ _ la lb]
    rfl
  ·exact h.elim⟩)
def zpY  (d_scale_span:Df K mg "scale_span" zhn zeX)(z_max:mg "max"=none)(z_min:mg "min"=none):Fk P w K mg base 1 "scale_span" zeX zf9:=
 d_scale_span.mk' (zas (k:=0) d_scale_span.F zpe (zpF) fun cdv A outer s H E hr=>⟨_,(zaf (zan (zaP (zaa (za7 (ziL rfl) rfl z_min PyProof.Rows.Boot.«min» (zaa (zad zaU (zam (dv 0) zab (fun _ _=>rfl)) (dv 1)) (zaa (zad zaU (zam (dv 0) zab (fun _ _=>rfl)) (dv 1)) zac))) (zaa (za7 (zjv rfl) rfl z_max PyProof.Rows.Boot.«max» (zaa (zad zaU (zam (dv 0) zab (fun _ _=>rfl)) (dv 1)) (zaa (zad zaU (zam (dv 0) zab (fun _ _=>rfl)) (dv 1)) zac))) zac))))),fun ds S Q ex h=>by
  unfold zf9 at h
  split at h
  ·obtain⟨⟨h1,h2⟩,h⟩:=h
   exact⟨h1,h2,h1,h2,h⟩
  ·exact h.elim⟩)
def zo7  (C_Power:zbk K mg)(C_Number:zbp K mg)(C_Unknown:zbq K mg)(C_Plus:zbg K mg)(C_Minus:zbj K mg)(C_Times:zbi K mg)(d_Power_slope:Dm K C_Power.C "slope" "Power.slope" zex zfa)(G_mul_spans:Fk P w K mg base 2 "mul_spans" zco zcB)(G_scale_span:Fk P w K mg base 1 "scale_span" zeX zf9)(G_raise_span:Fk P w K mg base 2 "raise_span" zeg zd4):Fm P w K mg base 3 C_Power.C "slope" zfa (zdL C_Number.C C_Unknown.C C_Plus.C C_Minus.C C_Times.C C_Power.C):=
 d_Power_slope.mk' (zas (k:=2) d_Power_slope.F zit (zpn C_Number.C C_Unknown.C C_Plus.C C_Minus.C C_Times.C C_Power.C) fun cdv A outer s H E hr=>⟨_,(zag (zar (i:=5) zit.nd rfl (Or.inl rfl) (zak G_raise_span hr (zaa (zaA (dv 1) (zaV C_Power.cl C_Power.n_one (dv 0)) (fun _ _=>rfl)) (zaa (zad zbD (zaV C_Power.cl C_Power.n_many (dv 0)) zab) (zaa (dv 4) zac))))) (zag (zar (i:=6) zit.nd rfl (Or.inr rfl) (zak G_scale_span hr (zaa (dv 5) (zaa (zaV C_Power.cl C_Power.n_many (dv 0)) zac)))) (zaf (zan (zcR (x:="a") (N:=["steep","grid"]) (caps:=[6,4]) (ar:=zaj zex) rfl rfl ⟨rfl,by decide +kernel,by decide +kernel,rfl,by decide +kernel,by decide +kernel⟩ rfl (by decide) (zaA (dv 2) (zaV C_Power.cl C_Power.n_one (dv 0)) (fun _ _=>rfl)) (fun _ _ _ _ _ _=>zbI) (fun _ _ _ _ _ _=>(zak G_mul_spans hr (zaa (dv 1) (zaa (dv 0) (zaa (dv 2) zac)))))))))),fun ds S Q ex h=>by
  unfold zdL at h
  split at h
  ·rename_i n w s qi g
   obtain⟨i,m,q,vs,sl,ds,hn,hw,hs,rows,sz,⟨rfl,hq⟩,ok,lv,s1,hg,h⟩:=h
   have sg:Sz 21 g:=Sz.of 1000000 (by omega)
   have fin:∀ys:List D,ys=(zaX vs sl g q (Nd.power i m)).map frD→Q (.ref S.length) (S++[.lst ys]):=fun ys e=>by
    subst e
    exact h _ _ Pre.refl.push (by simp) (zat _ _)
   obtain⟨a1,ea,_,ha⟩:=rows.at ok.1
   obtain⟨la,za⟩:=sz i ok.1
   have ci:=s1.at (i:=i) ⟨ok.1.1,by have:=ok.1.2; omega⟩
   obtain⟨ok1,m2,m6⟩:=ok
   refine zaS (n:=n) (fun K hK=>by exact hK) hn rfl ?_
   refine zay (o:=.lst (vs.map frD)) hw (za0 (i:=i) ⟨ok1.1,by have:=ok1.2; omega⟩) ?_
   refine zaS (n:=n) (fun K hK=>by exact hK) hn rfl ?_
   refine⟨⟨by omega,by omega,ci.2.1.mono (by decide),ci.2.2.mono (by decide),hg.1,sg.mono (by decide)⟩,fun m' M' hP=>?_⟩
   obtain⟨rfl,rfl⟩:=hP.eq (by omega)
   have gp:(1:Int)≤g ^ ((m - 1).toNat - 1):=Int.pow_pos (by omega)
   have lo:=zdO gp (ziM (gt vs i).1 (gt vs i).2 (m - 1).toNat)
   have fl:=zng (gt vs i) (n:=m) (by omega) hg.1
   have p1:Sz 6000 ((gt vs i).1 ^ (m - 1).toNat):=(ci.2.1.pow _).mono (by omega)
   have p2:Sz 6000 ((gt vs i).2 ^ (m - 1).toNat):=(ci.2.2.pow _).mono (by omega)
   have pl:Sz 6000 (zaw (gt vs i).1 (gt vs i).2 (m - 1).toNat):=by
    unfold zaw
    split
    ·exact Nat.pow_pos (by decide)
    ·exact zcd p1 p2
   have sm:Sz 10 m:=Sz.of 6 (by omega)
   refine zaS (n:=n) (fun K hK=>by exact hK) hn rfl ?_
   refine⟨⟨zaE (pl.div gp) sm,zaE (zcX (zb5 p1 p2) gp) sm⟩,?_⟩
   have e1:(if -(-zaF (gt vs i).1 (gt vs i).2 (m - 1).toNat / g ^ ((m - 1).toNat - 1)) * m < zaw (gt vs i).1 (gt vs i).2 (m - 1).toNat / g ^ ((m - 1).toNat - 1) * m then -(-zaF (gt vs i).1 (gt vs i).2 (m - 1).toNat / g ^ ((m - 1).toNat - 1)) * m else zaw (gt vs i).1 (gt vs i).2 (m - 1).toNat / g ^ ((m - 1).toNat - 1) * m)=(za9 (gt vs i) m g).1:=by
    rw[if_neg (by have z:(za9 (gt vs i) m g).1≤(za9 (gt vs i) m g).2:=fl; exact Int.not_lt.mpr z)]
    rfl
   have e2:(if -(-zaF (gt vs i).1 (gt vs i).2 (m - 1).toNat / g ^ ((m - 1).toNat - 1)) * m > zaw (gt vs i).1 (gt vs i).2 (m - 1).toNat / g ^ ((m - 1).toNat - 1) * m then -(-zaF (gt vs i).1 (gt vs i).2 (m - 1).toNat / g ^ ((m - 1).toNat - 1)) * m else zaw (gt vs i).1 (gt vs i).2 (m - 1).toNat / g ^ ((m - 1).toNat - 1) * m)=(za9 (gt vs i) m g).2:=by
    split
    ·rfl
    ·rename_i c
     have z:¬ (za9 (gt vs i) m g).1 < (za9 (gt vs i) m g).2:=c
     have z2:(za9 (gt vs i) m g).1=(za9 (gt vs i) m g).2:=by omega
     exact z2
   rw[e1,e2]
   have f1:Sz 6010 (za9 (gt vs i) m g).1:=zhZ (e:=10) (pl.div gp) (by omega) (by omega)
   have f2:Sz 6010 (za9 (gt vs i) m g).2:=zhZ (e:=10) (zcX (zb5 p1 p2) gp) (by omega) (by omega)
   generalize hfc:za9 (gt vs i) m g=fc at f1 f2
   refine zcs (n:=a1) (S1:=S) (o:=.lst ((sl.getD i.toNat []).map frD)) (fun x=>match x with | .tup [.int a,.int b]=>frD (zaG fc (a,b) g) | _=>.non) (fun K hK=>by
    refine zaS (n:=n) (fun K hK=>by exact hK) hn rfl ?_
    exact zay (o:=.lst ds) hs ea hK) ha (by show ((sl.getD i.toNat []).map frD).length≤1000; rw[List.length_map,la]; omega) (fun x hx S2 K pr hK=>?_) ?_
   ·have hx':x∈(sl.getD i.toNat []).map frD:=hx
    obtain⟨p,hp,rfl⟩:=List.mem_map.mp hx'
    obtain⟨k,hk,ek⟩:=List.mem_iff_getElem.mp hp
    have z1:=za k (by omega)
    have e1:gs sl i k=p:=by
     unfold gs
     rw[List.getD_eq_getElem?_getD,List.getElem?_eq_getElem hk,ek]
     rfl
    rw[e1] at z1
    refine⟨⟨⟨zaE f1 z1.2.1,zaE f1 z1.2.2,zaE f2 z1.2.1,zaE f2 z1.2.2⟩,sg.fd (by omega)⟩,fun mn mx hc=>?_⟩
    obtain⟨rfl,rfl⟩:=hc.eq
    exact hK
   ·refine fin _ ?_
    show ((sl.getD i.toNat []).map frD).map _=_
    rw[List.map_map,zmF _ _ la]
    unfold zaX
    rw[List.map_map]
    subst hfc
    rfl
  ·exact h.elim⟩)
def zoz  (C_Power:zbk K mg)(C_Times:zbi K mg)(C_Minus:zbj K mg)(C_Plus:zbg K mg)(C_Unknown:zbq K mg)(C_Number:zbp K mg)(d_slopes:Df K mg "slopes" zgq zeV)(G_Power_slope:Fm P w K mg base 3 C_Power.C "slope" zfa (zdL C_Number.C C_Unknown.C C_Plus.C C_Minus.C C_Times.C C_Power.C))(G_Times_slope:Fm P w K mg base 4 C_Times.C "slope" zfy (zee C_Number.C C_Unknown.C C_Plus.C C_Minus.C C_Times.C C_Power.C))(G_Minus_slope:Fm P w K mg base 3 C_Minus.C "slope" zfu (zdx C_Number.C C_Unknown.C C_Plus.C C_Minus.C C_Times.C C_Power.C))(G_Plus_slope:Fm P w K mg base 3 C_Plus.C "slope" zfd (zdj C_Number.C C_Unknown.C C_Plus.C C_Minus.C C_Times.C C_Power.C))(G_Unknown_slope:Fm P w K mg base 1 C_Unknown.C "slope" zfs (zdn C_Number.C C_Unknown.C C_Plus.C C_Minus.C C_Times.C C_Power.C))(G_Number_slope:Fm P w K mg base 1 C_Number.C "slope" ze6 (zea C_Number.C C_Unknown.C C_Plus.C C_Minus.C C_Times.C C_Power.C))(G_kind_of:Fk P w K mg base 3 "kind_of" zdh (zd5 C_Number.C C_Unknown.C C_Plus.C C_Minus.C C_Times.C C_Power.C))(G_worths:Fk P w K mg base 4 "worths" zdv zdJ)(z_len:mg "len"=none):Fk P w K mg base 5 "slopes" zeV ze5:=
 d_slopes.mk' (zas (k:=4) d_slopes.F zhc (zrF) fun cdv A outer s H E hr=>⟨_,(zag (zar (i:=3) zhc.nd rfl (Or.inl rfl) (zak G_worths hr (zaa (dv 0) (zaa (dv 1) (zaa (dv 2) zac))))) (zag (zar (i:=4) zhc.nd rfl (Or.inl rfl) (zbx zac)) (zag (zdA (i:=5) PassesOwn.never rfl zhc.nd rfl (Or.inl rfl) (dv 0) (zaf (zbh (zbJ (dv 4) (zly (zak G_kind_of hr (zaa (dv 5) zac)) (zbM C_Number.cl G_Number_slope (hr.mono (by decide)) (zbM C_Unknown.cl G_Unknown_slope (hr.mono (by decide)) (zbM C_Plus.cl G_Plus_slope (hr.mono (by decide)) (zbM C_Minus.cl G_Minus_slope (hr.mono (by decide)) (zbM C_Times.cl G_Times_slope (hr.mono (by decide)) (zbM C_Power.cl G_Power_slope (hr.mono (by decide)) zkZ)))))) zef (zaa (dv 3) (zaa (dv 4) (zaa (za7 (zba zbG) rfl z_len PyProof.Rows.Boot.«len» (zaa (dv 1) zac)) (zaa (dv 2) zac))))))))) (zaf (zan (dv 4)))))),fun ds S Q ex h=>by
  unfold ze5 at h
  split at h
  ·rename_i a b g
   obtain⟨ns,ws,bs,ha,hb,net,sb,hq9,hg,hl,h⟩:=h
   have disp:∀v:Nd,∃C fs sd,v.ob C_Number.C C_Unknown.C C_Plus.C C_Minus.C C_Times.C C_Power.C=.ins C fs∧(C,sd)∈[(C_Number.C,zea C_Number.C C_Unknown.C C_Plus.C C_Minus.C C_Times.C C_Power.C),(C_Unknown.C,zdn C_Number.C C_Unknown.C C_Plus.C C_Minus.C C_Times.C C_Power.C),(C_Plus.C,zdj C_Number.C C_Unknown.C C_Plus.C C_Minus.C C_Times.C C_Power.C),(C_Minus.C,zdx C_Number.C C_Unknown.C C_Plus.C C_Minus.C C_Times.C C_Power.C),(C_Times.C,zee C_Number.C C_Unknown.C C_Plus.C C_Minus.C C_Times.C C_Power.C),(C_Power.C,zdL C_Number.C C_Unknown.C C_Plus.C C_Minus.C C_Times.C C_Power.C)]∧fs.lookup ("slope":Str)=none∧∀(n w s:Nat) (q:Nat) (g:Int) (S:Sto) (Q:DK) (ex:Addr→Sto→Prop) (vs:List (Int×Int)) (sl:List (List (Int×Int))) (ds:List D),S[n]?=some (v.ob C_Number.C C_Unknown.C C_Plus.C C_Minus.C C_Times.C C_Power.C)→S[w]?=some (.lst (vs.map frD))→S[s]?=some (.lst ds)→zaI S 0 ds sl→(∀i:Int,inR sl.length i→(sl.getD i.toNat []).length=q∧∀l,l < q→(gs sl i l).1≤(gs sl i l).2∧Sz 1100 (gs sl i l).1∧Sz 1100 (gs sl i l).2)→q≤900→v.ok sl.length q→sl.length≤vs.length→Spn 1000 vs→(1≤g∧g≤1000000)→(∀(T:Sto) (m:Nat),Pre S T→S.length≤m→T[m]?=some (.lst ((zaX vs sl g q v).map frD))→Q (.ref m) T)→sd [.ref n,.ref w,.ref s,.int (q:Nat),.int g] S Q ex:=by
    intro v
    cases v with
    | number x y=>exact⟨_,_,_,rfl,(.head _),rfl,fun n w s q g S Q ex vs sl ds a1 a2 a3 a4 a5 a6 a7 a8 a9 b1 b2=>⟨x,y,q,vs,sl,ds,a1,a2,a3,a4,a5,⟨rfl,a6⟩,a7,a8,a9,b1,b2⟩⟩
    | unknown k=>exact⟨_,_,_,rfl,(.tail _ (.head _)),rfl,fun n w s q g S Q ex vs sl ds a1 a2 a3 a4 a5 a6 a7 a8 a9 b1 b2=>⟨k,q,vs,sl,ds,a1,a2,a3,a4,a5,⟨rfl,a6⟩,a7,a8,a9,b1,b2⟩⟩
    | plus i j=>exact⟨_,_,_,rfl,(.tail _ (.tail _ (.head _))),rfl,fun n w s q g S Q ex vs sl ds a1 a2 a3 a4 a5 a6 a7 a8 a9 b1 b2=>⟨i,j,q,vs,sl,ds,a1,a2,a3,a4,a5,⟨rfl,a6⟩,a7,a8,a9,b1,b2⟩⟩
    | minus i j=>exact⟨_,_,_,rfl,(.tail _ (.tail _ (.tail _ (.head _)))),rfl,fun n w s q g S Q ex vs sl ds a1 a2 a3 a4 a5 a6 a7 a8 a9 b1 b2=>⟨i,j,q,vs,sl,ds,a1,a2,a3,a4,a5,⟨rfl,a6⟩,a7,a8,a9,b1,b2⟩⟩
    | times i j=>exact⟨_,_,_,rfl,(.tail _ (.tail _ (.tail _ (.tail _ (.head _))))),rfl,fun n w s q g S Q ex vs sl ds a1 a2 a3 a4 a5 a6 a7 a8 a9 b1 b2=>⟨i,j,q,vs,sl,ds,a1,a2,a3,a4,a5,⟨rfl,a6⟩,a7,a8,a9,b1,b2⟩⟩
    | power i m=>exact⟨_,_,_,rfl,(.tail _ (.tail _ (.tail _ (.tail _ (.tail _ (.head _)))))),rfl,fun n w s q g S Q ex vs sl ds a1 a2 a3 a4 a5 a6 a7 a8 a9 b1 b2=>⟨i,m,q,vs,sl,ds,a1,a2,a3,a4,a5,⟨rfl,a6⟩,a7,a8,a9,b1,b2⟩⟩
   refine⟨ns,ws,bs,ha,hb,net,sb,hg,hl,fun T1 w pr1 lw hw=>?_⟩
   have szw:=zjc net rfl sb hg
   have lf:(zae bs g ns).length=ns.length:=zbB _ _ _
   have spn:Spn 1000 (zae bs g ns):=szw.spn fun k hk=>by
    have z:=(net.w1 (i:=(k:Int)) ⟨by omega,by omega⟩).2
    rwa [Int.toNat_natCast] at z
   refine zdr (n:=a) (o:=.lst (ns.map Nd.d)) (fun k dl' S'=>k≤ns.length∧Pre T1 S'∧(∃ds:List D,S'[T1.length]?=some (.lst ds)∧zaI S' (T1.length + 1) ds (zau (zae bs g ns) g bs.length (ns.take k)))∧∃u:Option D,dl'=[some (.ref a),some (.ref b),some (.int g),some (.ref w),some (.ref T1.length),u]) ⟨Nat.zero_le _,Pre.refl.push,⟨[],zat _ _,zaI.nil⟩,_,rfl⟩ (fun k dl' S' z=>z.2.1 _ _ (pr1 _ _ ha)) ?_ ?_
   ·rintro k x dl' S' nx ct ex' ⟨hk,pr,⟨ds,hf,rows⟩,u,rfl⟩ hn
    have ex2:(ns.map Nd.d)[k]?=some x:=ex'
    rw[List.getElem?_map] at ex2
    obtain⟨v,hv,rfl⟩:=Option.map_eq_some_iff.mp ex2
    have hk':=(List.getElem?_eq_some_iff.mp hv).1
    have ln:(zau (zae bs g ns) g bs.length (ns.take k)).length=k:=by rw[zcU,List.length_take]; omega
    have okv:v.ok (zau (zae bs g ns) g bs.length (ns.take k)).length bs.length:=by rw[ln]; exact(net.ok k v hv).1
    have slw:=ziY net szw lf hg k hk
    have ss:=slw.spn fun i hi=>by
     have z:=(net.w1 (i:=(i:Int)) ⟨by omega,by omega⟩).2
     rwa [Int.toNat_natCast] at z
    obtain⟨C,fs,sd,eo,hm,hf2,go⟩:=disp v
    have N1:=zat S' (v.ob C_Number.C C_Unknown.C C_Plus.C C_Minus.C C_Times.C C_Power.C)
    have ld:ds.length=k:=by rw[rows.1,ln]
    have lt:=za2 hf
    refine zhk (n:=T1.length) (xs:=ds) (fun K hK=>by exact hK) hf (fun K hK=>?_) (by omega)
    refine zj7 (n:=S'.length) (C:=C) (sd:=sd) (fs:=fs) (S1:=S'++[v.ob C_Number.C C_Unknown.C C_Plus.C C_Minus.C C_Times.C C_Power.C]) (fun K hK=>⟨v,rfl,by exact hK⟩) (by rw[← eo]; exact N1) hm hf2 ?_
    refine zbT (zao (pr _ _ (pr1 _ _ hb))) ?_
    rw[List.length_map]
    refine go _ _ _ bs.length _ _ _ _ (zae bs g ns) (zau (zae bs g ns) g bs.length (ns.take k)) ds N1 (zao (pr _ _ hw)) (zao hf) ((rows.low (Nat.zero_le _)).pre (zdV Pre.refl _)) ss hq9 okv (by omega) spn hg fun T m prT lm hT=>?_
    have hf3:=prT _ _ (zao hf)
    refine hK _ _ hf3 ?_
    have lS:(S'++[v.ob C_Number.C C_Unknown.C C_Plus.C C_Minus.C C_Times.C C_Power.C]).length=S'.length + 1:=by simp
    have rows3:zaI T (T1.length + 1) ds (zau (zae bs g ns) g bs.length (ns.take k)):=rows.pre fun i o e=>prT _ _ (zao e)
    refine hn _ _ ⟨by omega,zdF (pr.trans fun i o e=>prT _ _ (zao e)) (Nat.le_refl _),⟨ds++[.ref m],zbE hf3,?_⟩,_,rfl⟩
    rw[zbr hv,zgA]
    have r4:=rows3.snoc (a:=m) (r:=zaX (zae bs g ns) (zau (zae bs g ns) g bs.length (ns.take k)) g bs.length v) (by omega) hT
    exact r4.keep fun x o hx e=>za5 e (by omega)
   ·rintro dl' S' ⟨hk,pr,⟨ds,hf,rows⟩,u,rfl⟩
    have e:ns.take (zah (.lst (ns.map Nd.d))).length=ns:=by
     show ns.take (ns.map Nd.d).length=ns
     rw[List.length_map,List.take_length]
    rw[e] at rows
    refine h _ _ ds (pr1.trans pr) ?_ hf rows
    exact zfl pr1
  ·exact h.elim⟩)
def zqp  (d_slopes_at:Df K mg "slopes_at" zgO zeU)(G_picked:Fk P w K mg base 1 "picked" zd0 zeb)(G_slopes:Fk P w K mg base 5 "slopes" zeV ze5):Fk P w K mg base 6 "slopes_at" zeU zeP:=
 d_slopes_at.mk' (zas (k:=5) d_slopes_at.F zmx (zlL) fun cdv A outer s H E hr=>⟨_,(zaf (zan (zak G_picked hr (zaa (zak G_slopes hr (zaa (dv 0) (zaa (dv 2) (zaa (dv 3) zac)))) (zaa (dv 1) zac))))),fun ds S Q ex h=>by
  unfold zeP at h
  split at h
  ·rename_i a p b g
   obtain⟨ns,ws,bs,is,ha,hb,net,sb,hg,l7,b9,hp,i9,hi,h⟩:=h
   refine⟨ns,ws,bs,ha,hb,net,sb,b9,hg,l7,fun T m ds pr lm hm rows=>?_⟩
   have ld:ds.length=ns.length:=by rw[rows.1,zcU]
   refine⟨ds,is,hm,pr _ _ hp,i9,fun i him=>by rw[ld]; exact hi i him,?_⟩
   refine h _ _ (is.map fun i=>ds.getD i .non) (fun x o z=>zao (pr _ _ z)) (zfl pr) (zat _ _) ⟨by rw[List.length_map,List.length_map],fun k d r hd hr=>?_⟩
   rw[List.getElem?_map] at hd hr
   obtain⟨i,hik,rfl⟩:=Option.map_eq_some_iff.mp hd
   rw[hik] at hr
   cases hr
   have him:=hi i (List.mem_of_getElem? hik)
   have h1:ds[i]?=some (ds.getD i .non):=by rw[List.getElem?_eq_getElem (show i < ds.length by omega)]; simp[show i < ds.length by omega]
   have ls:=zcU (zae bs g ns) g bs.length ns
   have h2:(zau (zae bs g ns) g bs.length ns)[i]?=some ((zau (zae bs g ns) g bs.length ns).getD i []):=by rw[List.getElem?_eq_getElem (show i < (zau (zae bs g ns) g bs.length ns).length by omega)]; simp[show i < (zau (zae bs g ns) g bs.length ns).length by omega]
   obtain⟨q,eq,_,sq⟩:=rows.2 i _ _ h1 h2
   exact⟨q,eq,Nat.zero_le _,zao sq⟩
  ·exact h.elim⟩)
def zm3  (d_step:Df K mg "step" zid zfb)(G_step_by:Fk P w K mg base 6 "step_by" zfM ze4)(G_slopes_at:Fk P w K mg base 6 "slopes_at" zeU zeP)(G_thin_worths:Fk P w K mg base 5 "thin_worths" zfO zeH)(G_equation_places:Fk P w K mg base 1 "equation_places" zfi zej):Fk P w K mg base 7 "step" zfb zfX:=
 d_step.mk' (zas (k:=6) d_step.F ziW (zmZ) fun cdv A outer s H E hr=>⟨_,(zag (zar (i:=5) ziW.nd rfl (Or.inl rfl) (zak G_equation_places hr (zaa (dv 1) zac))) (zag (zar (i:=6) ziW.nd rfl (Or.inl rfl) (zak G_thin_worths hr (zaa (dv 0) (zaa (dv 5) (zaa (dv 2) (zaa (dv 3) zac)))))) (zaf (zan (zak G_step_by hr (zaa (dv 2) (zaa (dv 3) (zaa (dv 4) (zaa (dv 6) (zaa (zak G_slopes_at hr (zaa (dv 0) (zaa (dv 5) (zaa (dv 2) (zaa (dv 3) zac))))) zac)))))))))),fun ds S Q ex h=>by
  unfold zfX at h
  split at h
  ·rename_i a r b g u
   obtain⟨ns,ws,bs,rows,M,ms,ha,hb,net,sb,hg,l7,b9,hr,r9,e4,hi,bl,hu,mi,lM,zM,h⟩:=h
   refine⟨rows,hr,r9,?_⟩
   have P0:Pre S (S++[Ob.lst ((eqs rows).map wtD)]):=Pre.refl.push
   have hp:=zat S (.lst ((eqs rows).map wtD))
   refine⟨ns,ws,bs,eqs rows,P0 _ _ ha,P0 _ _ hb,net,sb,hg,l7,b9,hp,by omega,hi,fun T m pr lm hm=>?_⟩
   have P1:Pre S T:=fun x o z=>pr _ _ (P0 _ _ z)
   refine⟨ns,ws,bs,eqs rows,P1 _ _ ha,P1 _ _ hb,net,sb,hg,l7,b9,pr _ _ hp,by omega,hi,fun T1 m1 ds pr1 lm1 h1 rowsT=>?_⟩
   have P2:Pre S T1:=fun x o z=>pr1 _ _ (P1 _ _ z)
   have szw:=zjc net rfl sb hg
   have w16:∀k:Nat,k < ns.length→ws.getD k 0≤16:=fun k hk=>by
    have z:=(net.w1 (i:=(k:Int)) ⟨by omega,by omega⟩).2
    rwa [Int.toNat_natCast] at z
   have slw:SlW bs.length ws (zau (zae bs g ns) g bs.length ns):=by
    have z:=ziY net szw (zbB _ _ _) hg ns.length (Nat.le_refl _)
    rwa [List.take_length] at z
   have zr:∀r∈((eqs rows).map fun (i:Nat)=>(zau (zae bs g ns) g bs.length ns).getD i []),r.length=bs.length∧Bd 2000 r:=fun r hr=>by
    obtain⟨i,him,rfl⟩:=List.mem_map.mp hr
    have hin:=hi i him
    have hl:i < (zau (zae bs g ns) g bs.length ns).length:=by rw[zcU]; exact hin
    have e:(zau (zae bs g ns) g bs.length ns).getD i []=(zau (zae bs g ns) g bs.length ns)[i]:=by simp[hl]
    obtain⟨z1,z2⟩:=slw i _ (List.getElem?_eq_getElem hl)
    rw[e]
    have w:=w16 i hin
    exact⟨z1,fun p hp=>⟨(z2 p hp).2.1.mono (by omega),(z2 p hp).2.2.mono (by omega)⟩⟩
   have zt:Bd 2000 ((eqs rows).map fun (i:Nat)=>gt (zae (bs.map zax) g ns) i):=fun p hp=>by
    obtain⟨i,him,rfl⟩:=List.mem_map.mp hp
    have net2:zaz ((bs.map zax).length:Nat) ns ws:=by rw[List.length_map]; exact net
    have sp:=zhO net2 rfl (zi0 sb) hg ns.length (Nat.le_refl _)
    rw[List.take_length] at sp
    have z:=sp.at (i:=(i:Int)) ⟨by omega,by rw[zbB]; have:=hi i him; omega⟩
    exact⟨z.2.1.mono (by decide),z.2.2.mono (by decide)⟩
   refine⟨bs,((eqs rows).map fun (i:Nat)=>gt (zae (bs.map zax) g ns) i),M,ms,((eqs rows).map fun (i:Nat)=>(zau (zae bs g ns) g bs.length ns).getD i []),ds,P2 _ _ hu,mi.pre P2,lM,zM,P2 _ _ hb,pr1 _ _ hm,h1,rowsT,zr,bl,by rw[List.length_map]; exact e4,by rw[List.length_map]; exact e4,fun p hp=>⟨(sb p hp).2.1.mono (by decide),(sb p hp).2.2.mono (by decide)⟩,zt,hg,?_⟩
   refine h _ _ (fun x o z=>zao (P2 _ _ z)) ?_ (zat _ _)
   have:=zfl P2
   omega
  ·exact h.elim⟩)
def zlU  (d_law_side:Df K mg "_law_side" zhz ze9):Fk P w K mg base 1 "_law_side" ze9 zeF:=
 d_law_side.mk' (zas (k:=0) d_law_side.F zdG (zp7) fun cdv A outer s H E hr=>⟨_,(zag (zar (i:=2) zdG.nd rfl (Or.inl rfl) (zad zbD (zad zaJ (zad za4 (dv 0) zab) zab) zab)) (zag (zaQ (zaO (za6 hr) (zad zaJ (dv 0) zab) zab (zaL _)) (zaf (zar (i:=2) zdG.nd rfl (Or.inl rfl) (zad zbD (zad zaJ (zad za4 (dv 0) zab) zab) zab))) zaW) (zag (zar (i:=3) zdG.nd rfl (Or.inl rfl) (zad zaJ (zad za4 (dv 1) zab) zab)) (zag (zaQ (zaO (za6 hr) (zad zaJ (dv 1) zab) zab (zaL _)) (zaf (zar (i:=3) zdG.nd rfl (Or.inl rfl) (zad zaJ (zad za4 (dv 1) zab) zab))) zaW) (zag (zaQ (zaO (za6 hr) (zad zaJ (dv 1) zab) zab (zaL _)) (zaf (zar (i:=3) zdG.nd rfl (Or.inl rfl) (zad zaJ (zad za4 (dv 1) zab) zab))) zaW) (zaf (zan (zaP (zaa (dv 2) (zaa (zad zaZ (dv 2) (dv 3)) zac)))))))))),fun ds S Q ex h=>by
  unfold zeF at h
  split at h
  ·rename_i c d
   refine ifD (fun e=>?_) (fun e=>?_)
   ·refine ifD (fun e1=>?_) (fun e1=>?_)
    ·refine ifD (fun e2=>absurd (e1.symm.trans e2) (by decide)) (fun e2=>?_)
     exact h _ _ (by omega) (by omega) (by omega)
    ·refine ifD (fun e2=>?_) (fun e2=>?_)
     ·exact h _ _ (by omega) (by omega) (by omega)
     ·exact h _ _ (by omega) (by omega) (by omega)
   ·refine ifD (fun e1=>?_) (fun e1=>?_)
    ·refine ifD (fun e2=>absurd (e1.symm.trans e2) (by decide)) (fun e2=>?_)
     exact h _ _ (by omega) (by omega) (by omega)
    ·refine ifD (fun e2=>?_) (fun e2=>?_)
     ·exact h _ _ (by omega) (by omega) (by omega)
     ·exact h _ _ (by omega) (by omega) (by omega)
  ·exact h.elim⟩)
def zra  (d_law_number:Df K mg "_law_number" zhK zff)(G_law_lowest:Fk P w K mg base 1 "_law_lowest" zdz zd1):Fk P w K mg base 2 "_law_number" zff zfC:=
 d_law_number.mk' (zas (k:=1) d_law_number.F zm4 (zq2) fun cdv A outer s H E hr=>⟨_,(zag (zaQ (zaO (za6 hr) (zad zaJ (dv 0) zab) zab (zaL _)) (zaf (zan (zak G_law_lowest hr (zaa (zad zbD (zad zb7 (zad za4 (dv 0) zab) zab) zab) (zaa (zad zaZ zab (zad zaJ (zad zaU (dv 0) zab) zab)) zac))))) zaW) (zag (zaQ (zaO (za6 hr) (zad zaJ (dv 0) zab) zab (zaL _)) (zaf (zan (zaP (zaa (zad zbD (zad zaJ (zad za4 (dv 0) zab) zab) zab) (zaa zab zac))))) zaW) (zaf (zan (zak G_law_lowest hr (zaa (zad zbD (zad zaJ (zad za4 (dv 0) zab) zab) zab) (zaa (zad zaZ zab (zad zaJ (zad za4 (dv 0) zab) zab)) zac))))))),fun ds S Q ex h=>by
  unfold zfC at h
  split at h
  ·rename_i c
   refine ifD (fun e=>?_) (fun e=>?_)
   ·have r1:=zbo (a:=c / 3) (b:=1999999999) (by decide)
    have r2:=zbo (a:=c * 48271) (b:=999999937) (by decide)
    refine⟨show (0:Int) < 1999999999 by decide,IntMulOk.of_right (by decide),?_⟩
    refine⟨⟨show 0 < 1 + c * 48271 % 999999937 by omega,Sz.of (10 ^ 10) (by show (1 + c * 48271 % 999999937).natAbs≤_; omega)⟩,fun t b h1 h2 _ h4 h5=>?_⟩
    exact h t b ⟨h1,by omega⟩ h2 (by omega)
   ·refine ifD (fun e=>?_) (fun e=>?_)
    ·have r1:=zbo (a:=c / 3) (b:=9) (by decide)
     exact h _ _ ⟨by decide,by decide⟩ (Int.gcd_one_right _) (by omega)
    ·have r1:=zbo (a:=c / 3) (b:=41) (by decide)
     have r2:=zbo (a:=c / 123) (b:=9) (by decide)
     refine⟨⟨show 0 < 1 + c / 123 % 9 by omega,Sz.of (10 ^ 10) (by show (1 + c / 123 % 9).natAbs≤_; omega)⟩,fun t b h1 h2 _ h4 h5=>?_⟩
     exact h t b ⟨h1,by omega⟩ h2 (by omega)
  ·exact h.elim⟩)
def zlW  (d_law_put:Df K mg "_law_put" zg8 zeS)(z_len:mg "len"=none):Fk P w K mg base 1 "_law_put" zeS zeT:=
 d_law_put.mk' (zas (k:=0) d_law_put.F zoI (zoM) fun cdv A outer s H E hr=>⟨_,(zag (zaQ (zaO (zrg hr) (dv 2) (dv 0) rfl) (zaf (zan (zkQ (k:=1) hr (by decide) (dv 0) (zaa (dv 2) zac)))) zaW) (zag (zbh (zbJ (dv 0) (dv 2))) (zag (zbh (zbJ (dv 1) (dv 3))) (zaf (zan (zad zbD (za7 (zba zbG) rfl z_len PyProof.Rows.Boot.«len» (zaa (dv 0) zac)) zab)))))),fun ds S Q ex h=>by
  unfold zeT at h
  split at h
  ·rename_i a b d w
   obtain⟨v,ns,ws,rfl,ha,hb,ne,rfl,l1,l2,h1,h2⟩:=h
   obtain⟨o,e1,e2,e3⟩:=zgU v ns
   refine zq8 (o:=o) ha e2 ?_
   cases o with
   | some j=>
    refine zbQ ?_
    exact zjl (n:=a) (v:=v) (ns:=ns) (fun K hK=>by exact hK) (fun K hK=>by exact hK) ha e1 (h1 j (e3 j rfl))
   | none=>
    refine zby ?_
    refine zb0 (n:=a) (S1:=S) (xs:=ns.map Nd.d) (y:=v.d) (fun K hK=>by exact hK) ha (fun K hK=>by exact hK) (by rw[List.length_map]; omega) ?_
    refine zb0 (n:=b) (S1:=S.set a (.lst (ns.map Nd.d++[v.d]))) (xs:=ws.map wtD) (y:=wtD (v.wt ws)) (fun K hK=>by exact hK) (za5 hb ne) (fun K hK=>by exact hK) (by rw[List.length_map]; omega) ?_
    refine zbT (xs:=ns.map Nd.d++[v.d]) (za5 (zbE ha) (Ne.symm ne)) ?_
    have q:=h2 (((ns.map Nd.d++[v.d]).length:Nat) - 1) (by simp)
    rw[List.map_append,List.map_append] at q
    exact q
  ·exact h.elim⟩)
def zqO  (d_law_grow:Df K mg "_law_grow" zg5 zfe)(G_law_put:Fk P w K mg base 1 "_law_put" zeS zeT)(G_law_number:Fk P w K mg base 2 "_law_number" zff zfC)(z_len:mg "len"=none):Fk P w K mg base 3 "_law_grow" zfe ze3:=
 d_law_grow.mk' (zas (k:=2) d_law_grow.F zcY (zmI) fun cdv A outer s H E hr=>⟨_,(zag (zar (i:=4) zcY.nd rfl (Or.inl rfl) (zad zb7 (zad zaJ (zad za4 (dv 2) zab) zab) (za7 (zba zbG) rfl z_len PyProof.Rows.Boot.«len» (zaa (dv 0) zac)))) (zag (zar (i:=5) zcY.nd rfl (Or.inl rfl) (zad zb7 (zad zaJ (zad za4 (dv 2) zab) zab) (za7 (zba zbG) rfl z_len PyProof.Rows.Boot.«len» (zaa (dv 0) zac)))) (zag (zar (i:=6) zcY.nd rfl (Or.inl rfl) (zad zaZ (zaA (dv 1) (dv 4) (fun _ _=>rfl)) (zaA (dv 1) (dv 5) (fun _ _=>rfl)))) (zaf (zaQ (zaO (za6 hr) (zad zaJ (dv 2) zab) zab (zaL _)) (zag (zar (i:=7) zcY.nd rfl (Or.inl rfl) (zak G_law_number hr (zaa (zad za4 (dv 2) zab) zac))) (zaf (zbh (zak G_law_put hr (zaa (dv 0) (zaa (dv 1) (zaa (zaP (zaa zbe (zaa (zam (dv 7) zab (fun _ _=>rfl)) (zaa (zam (dv 7) zab (fun _ _=>rfl)) zac)))) (zaa zab zac)))))))) (zaf (zaQ (zaO (za6 hr) (zad zaJ (dv 2) zab) zab (zaL _)) (zag (zar (i:=8) zcY.nd rfl (Or.inl rfl) (zad zaZ zab (zad zaJ (zad za4 (dv 2) zab) zab))) (zaf (zaQ (zaO zgg (zad zaU (dv 8) (zaA (dv 1) (dv 4) (fun _ _=>rfl))) (dv 3) (zaL _)) (zaf (zbh (zak G_law_put hr (zaa (dv 0) (zaa (dv 1) (zaa (zaP (zaa zbe (zaa (dv 4) (zaa (dv 8) zac)))) (zaa (zad zaU (dv 8) (zaA (dv 1) (dv 4) (fun _ _=>rfl))) zac))))))) zaW))) (zaf (zaQ (zaO zgg (dv 6) (dv 3) (zaL _)) (zag (zar (i:=9) zcY.nd rfl (Or.inl rfl) (zaA (zbx (zaa zbe (zaa zbe (zaa zbe zac)))) (zad zaJ (zad zaJ (dv 2) zab) zab) (fun _ _=>rfl))) (zaf (zbh (zak G_law_put hr (zaa (dv 0) (zaa (dv 1) (zaa (zaP (zaa (dv 9) (zaa (dv 4) (zaa (dv 5) zac)))) (zaa (dv 6) zac)))))))) zaW))))))))),fun ds S Q ex h=>by
  unfold ze3 at h
  split at h
  ·rename_i a b c most
   obtain⟨qn,ns,ws,ha,hb,ne,net,l1,l9,hm,h⟩:=h
   have lw:=net.len
   have pos:(0:Int) < ((ns.length:Nat):Int):=by omega
   have ro:=zbo (a:=c / 6 % 16) pos
   have rj:=zbo (a:=c / 96 % 16) pos
   have ho:inR ((ns.length:Nat):Int) (c / 6 % 16 % ((ns.length:Nat):Int)):=ro
   have hj:inR ((ns.length:Nat):Int) (c / 96 % 16 % ((ns.length:Nat):Int)):=rj
   have ho':inR ((ws.length:Nat):Int) (c / 6 % 16 % ((ns.length:Nat):Int)):=by rw[lw]; exact ho
   have hj':inR ((ws.length:Nat):Int) (c / 96 % 16 % ((ns.length:Nat):Int)):=by rw[lw]; exact hj
   have wo:=net.w1 ho
   have wj:=net.w1 hj
   have on:∀(T:Sto),(∀(x:Nat) (o:Ob),S[x]?=some o→T[x]?=some o)→S.length≤T.length→Q .non T:=fun T k l=>h T [] ws (by rw[List.append_nil]; exact net) ⟨[],by simp,fun w hw=>by simp at hw⟩ (by simp) (by rw[List.append_nil]; exact k _ _ ha) (k _ _ hb) l fun x o _ _ e=>k x o e
   have put:∀(v:Nd) (T:Sto),(∀(x:Nat) (o:Ob),S[x]?=some o→T[x]?=some o)→S.length≤T.length→v.ok ((ns.length:Nat):Int) ((qn:Nat):Int)→v.wt ws≤16→(v.wt ws=1∨((v.wt ws:Nat):Int)≤most)→Q .non ((T.set a (.lst ((ns++[v]).map Nd.d))).set b (.lst ((ws++[v.wt ws]).map wtD))):=fun v T k l ok h16 hmo=>
    h _ [v] _ (net.snoc ok h16) ⟨[v.wt ws],rfl,fun w hw=>by rw[List.mem_singleton.mp hw]; exact hmo⟩ (by simp) (za5 (zbE (k _ _ ha)) (Ne.symm ne)) (zbE (za5 (k _ _ hb) ne)) (by simpa using l) fun x o h1 h2 e=>za5 (za5 (k x o e) (Ne.symm h1)) (Ne.symm h2)
   refine zbT ha ?_
   rw[List.length_map]
   refine⟨pos,?_⟩
   refine zbT ha ?_
   rw[List.length_map]
   refine⟨pos,?_⟩
   refine zay (o:=.lst (ws.map wtD)) hb (zgE ho') ?_
   refine zay (o:=.lst (ws.map wtD)) hb (zgE hj') ?_
   refine ifD (fun e4=>?_) (fun e4=>?_)
   ·refine fun t d h1 h2 h3=>⟨.number t d,ns,ws,rfl,ha,hb,ne,rfl,by omega,by omega,fun j _=>on S (fun _ _ e=>e) (Nat.le_refl _),fun i _=>?_⟩
    exact put (.number t d) S (fun _ _ e=>e) (Nat.le_refl _) ⟨h1,h2,h3⟩ (show 1≤16 by decide) (Or.inl rfl)
   ·refine ifD (fun e3=>?_) (fun e3=>?_)
    ·have r5:=zbo (a:=c / 1536) (b:=5) (by decide)
     refine zay (o:=.lst (ws.map wtD)) hb (zgE ho') ?_
     have mo:IntMulOk (2 + c / 1536 % 5) ((ws.getD (c / 6 % 16 % ((ns.length:Nat):Int)).toNat 0:Nat):Int):=zaE (m:=400) (n:=400) (Sz.of (10 ^ 20) (by omega)) (Sz.of (10 ^ 20) (by omega))
     have ew:(2 + c / 1536 % 5) * ((ws.getD (c / 6 % 16 % ((ns.length:Nat):Int)).toNat 0:Nat):Int)=((Nd.wt ws (.power (c / 6 % 16 % ((ns.length:Nat):Int)) (2 + c / 1536 % 5)):Nat):Int):=by
      simp only[Nd.wt]
      rw[Int.natCast_mul]
      rw[Int.toNat_of_nonneg (by omega)]
     refine⟨mo,?_⟩
     refine ifD (fun e5=>?_) (fun e5=>on S (fun _ _ e=>e) (Nat.le_refl _))
     refine zay (o:=.lst (ws.map wtD)) hb (zgE ho') ?_
     refine⟨mo,?_⟩
     refine⟨.power (c / 6 % 16 % ((ns.length:Nat):Int)) (2 + c / 1536 % 5),ns,ws,rfl,ha,hb,ne,ew,by omega,by omega,fun j _=>on S (fun _ _ e=>e) (Nat.le_refl _),fun i _=>?_⟩
     exact put (.power (c / 6 % 16 % ((ns.length:Nat):Int)) (2 + c / 1536 % 5)) S (fun _ _ e=>e) (Nat.le_refl _) ⟨ho,by omega,by omega⟩ (by rw[ew] at e5; omega) (Or.inr (by rw[ew] at e5; exact e5))
    ·refine ifD (fun e5=>?_) (fun e5=>on S (fun _ _ e=>e) (Nat.le_refl _))
     have go:∀(v:Nd) (T:Sto),T=S++[.lst [.str "plus",.str "minus",.str "times"]]→v.ok ((ns.length:Nat):Int) ((qn:Nat):Int)→v.wt ws=ws.getD (c / 6 % 16 % ((ns.length:Nat):Int)).toNat 0 + ws.getD (c / 96 % 16 % ((ns.length:Nat):Int)).toNat 0→∃(v':Nd) (ns':List Nd) (ws':List Nat),v.d=v'.d∧T[a]?=some (.lst (ns'.map Nd.d))∧T[b]?=some (.lst (ws'.map wtD))∧a≠b∧((ws.getD (c / 6 % 16 % ((ns.length:Nat):Int)).toNat 0:Nat):Int) + ((ws.getD (c / 96 % 16 % ((ns.length:Nat):Int)).toNat 0:Nat):Int)=(v'.wt ws':Nat)∧ns'.length < 900∧ws'.length < 900∧(∀j:Nat,ns'[j]?=some v'→Q .non T)∧∀i:Int,i=(ns'.length:Nat)→Q .non ((T.set a (.lst ((ns'++[v']).map Nd.d))).set b (.lst ((ws'++[v'.wt ws']).map wtD))):=fun v T e ok ew=>by
      subst e
      refine⟨v,ns,ws,rfl,zao ha,zao hb,ne,by rw[ew]; omega,by omega,by omega,fun j _=>on _ (fun _ _ e=>zao e) (by simp),fun i _=>?_⟩
      exact put v _ (fun _ _ e=>zao e) (by simp) ok (by rw[ew]; omega) (Or.inr (by rw[ew]; omega))
     have three:∀i:Int,inR 3 i→i=0∨i=1∨i=2:=fun i hi=>by have:=hi.1; have:=hi.2; omega
     rcases three (c % 6 % 3) (zbo (by decide)) with e6 | e6 | e6
     ·refine zay (o:=.lst [.str "plus",.str "minus",.str "times"]) (zat _ _) (d:=.str "plus") (by rw[e6]; rfl) ?_
      exact go (.plus _ _) _ rfl ⟨ho,hj⟩ rfl
     ·refine zay (o:=.lst [.str "plus",.str "minus",.str "times"]) (zat _ _) (d:=.str "minus") (by rw[e6]; rfl) ?_
      exact go (.minus _ _) _ rfl ⟨ho,hj⟩ rfl
     ·refine zay (o:=.lst [.str "plus",.str "minus",.str "times"]) (zat _ _) (d:=.str "times") (by rw[e6]; rfl) ?_
      exact go (.times _ _) _ rfl ⟨ho,hj⟩ rfl
  ·exact h.elim⟩)
def zrf  (d_law_whole:Df K mg "_law_whole" zgH zf1)(z_isinstance:mg "isinstance"=none)(z_bool:mg "bool"=none)(z_int:mg "int"=none)(kit_bool:Kit K "bool")(kit_int:Kit K "int"):Fk P w K mg base 1 "_law_whole" zf1 zfG:=
 d_law_whole.mk' (zas (k:=0) d_law_whole.F zri (zol) fun cdv A outer s H E hr=>⟨_,(zaf (zan (ziq (zjx kit_int rfl z_isinstance rfl z_int PyProof.Rows.Boot.«int» (dv 0)) (zke (zqe (zjx kit_bool rfl z_isinstance rfl z_bool PyProof.Rows.Boot.«bool» (dv 0))))))),fun ds S Q ex h=>by
  unfold zfG at h
  split at h
  ·exact h
  ·exact h.elim⟩)
def znO  (d_law_span:Df K mg "_law_span" zgY zeZ)(G_law_whole:Fk P w K mg base 1 "_law_whole" zf1 zfG)(z_len:mg "len"=none)(z_isinstance:mg "isinstance"=none)(z_tuple:mg "tuple"=none)(kit_tuple:Kit K "tuple"):Fk P w K mg base 2 "_law_span" zeZ zeM:=
 d_law_span.mk' (zas (k:=1) d_law_span.F znu (zqi) fun cdv A outer s H E hr=>⟨_,(zag (zaQ (PDW.pt (zjg (zge (zdN (zjx kit_tuple rfl z_isinstance rfl z_tuple PyProof.Rows.Boot.«tuple» (dv 0)))) (zje (zaO (zhj hr) (za7 zbG rfl z_len PyProof.Rows.Boot.«len» (zaa (dv 0) zac)) zab (zaL _))))) (zaf (zan zc1)) zaW) (zaf (zan (ziq (zak G_law_whole hr (zaa (zam (dv 0) zab (fun _ _=>rfl)) zac)) (ziq (zak G_law_whole hr (zaa (zam (dv 0) zab (fun _ _=>rfl)) zac)) (zke (ziV zgg (zam (dv 0) zab (fun _ _=>rfl)) (zam (dv 0) zab (fun _ _=>rfl)) (zaL _)))))))),fun ds S Q ex h=>by
  unfold zeM at h
  split at h
  ·obtain⟨hab,h⟩:=h
   exact qt (Q:=Q) (decide_eq_true hab) h
  ·exact h.elim⟩)
def zmt  (d_law_spans:Df K mg "_law_spans" zhR zew)(G_law_span:Fk P w K mg base 2 "_law_span" zeZ zeM)(z_len:mg "len"=none)(z_isinstance:mg "isinstance"=none)(z_list:mg "list"=none):Fk P w K mg base 3 "_law_spans" zew zfF:=
 d_law_spans.mk' (zas (k:=2) d_law_spans.F zlH (znM) fun cdv A outer s H E hr=>⟨_,(zag (zaQ (PDW.pt (zjg (zge (zdN (zoB (zmj _) rfl z_isinstance rfl z_list PyProof.Rows.Boot.«list» (dv 0)))) (zje (zaO (zhj hr) (za7 (zba zbG) rfl z_len PyProof.Rows.Boot.«len» (zaa (dv 0) zac)) (dv 1) (zaL _))))) (zaf (zan zc1)) zaW) (zag (zdA (i:=2) PassesOwn.never rfl zlH.nd rfl (Or.inl rfl) (dv 0) (zaf (zaQ (zge (zdN (zak G_law_span hr (zaa (dv 2) zac)))) (zaf (zan zc1)) zaW))) (zaf (zan zc1)))),fun ds S Q ex h=>by
  unfold zfF at h
  split at h
  ·rename_i a m
   obtain⟨vs,h1,rfl,hp,h⟩:=h
   refine zrD (n:=a) (fun K hK=>by exact hK) h1 ?_
   refine zby ?_
   refine zbT h1 ?_
   rw[List.length_map]
   refine ifN (fun c=>absurd rfl c) (fun _=>?_)
   refine zdr (n:=a) (o:=.lst (vs.map frD)) (fun k dl' S'=>S'=S∧∃u:Option D,dl'=[some (.ref a),some (.int (vs.length:Nat)),u]) ⟨rfl,_,rfl⟩ (fun k dl' S' w=>by rw[w.1]; exact h1) ?_ (fun dl' S' w=>by rw[w.1]; exact h)
   rintro k x dl' S' nx ct ex' ⟨rfl,u,rfl⟩ hn
   obtain⟨p,hpm,rfl⟩:=List.mem_map.mp (List.mem_of_getElem? ex')
   refine⟨hp p hpm,?_⟩
   exact hn _ _ ⟨rfl,_,rfl⟩
  ·exact h.elim⟩)
def zmU  (d_law_holds:Df K mg "_law_holds" zgJ zfv):Fk P w K mg base 1 "_law_holds" zfv zfB:=
 d_law_holds.mk' (zas (k:=0) d_law_holds.F zpJ (zpk) fun cdv A outer s H E hr=>⟨_,(zaf (zan (zp6 zgg zgg (zad zaU (zam (dv 0) zab (fun _ _=>rfl)) (zam (dv 1) zab (fun _ _=>rfl))) (zad zaU (zam (dv 1) zab (fun _ _=>rfl)) (dv 2)) (zad zaU (zam (dv 0) zab (fun _ _=>rfl)) (zam (dv 1) zab (fun _ _=>rfl)))))),fun ds S Q ex h=>by
  unfold zfB at h
  split at h
  ·rename_i l u a b g
   obtain⟨⟨s1,s2,s3,s4,s5⟩,⟨h1,h2⟩,h⟩:=h
   refine⟨zaE s1 s4,zaE s3 s5,?_⟩
   refine ifD (fun _=>?_) (fun c=>absurd h1 c)
   refine⟨zaE s2 s4,?_⟩
   exact qt (Q:=Q) (decide_eq_true h2) h
  ·exact h.elim⟩)
def zqu  (d_law:Df K mg "law" zbO zh6)(G_law_holds:Fk P w K mg base 1 "_law_holds" zfv zfB)(G_law_spans:Fk P w K mg base 3 "_law_spans" zew zfF)(G_step:Fk P w K mg base 7 "step" zfb zfX)(G_law_turn:Fk P w K mg base 2 "_law_turn" zfA ze8)(G_law_equations:Fk P w K mg base 3 "_law_equations" zeE zgc)(G_law_grow:Fk P w K mg base 3 "_law_grow" zfe ze3)(G_law_factors:Fk P w K mg base 2 "_law_factors" zf5 zgi)(G_law_point:Fk P w K mg base 1 "_law_point" zei zfS)(G_law_cell:Fk P w K mg base 1 "_law_cell" zc3 zcQ)(G_law_side:Fk P w K mg base 1 "_law_side" ze9 zeF)(G_law_grid:Fk P w K mg base 1 "_law_grid" zfV zev)(z_range:mg "range"=none)(z_list:mg "list"=none)(z_len:mg "len"=none)(z_int:mg "int"=none):Fk P w K mg base 8 "law" zh6 zeh:=
 d_law.mk' (zas (k:=7) d_law.F zbw zlQ fun cdv A outer s H E hr=>⟨_,(zag (zar (i:=1) zbw.nd rfl (Or.inl rfl) (zaA (zbx (zaa zab (zaa zab (zaa zab (zaa zab (zaa zab (zaa zab (zaa zab (zaa zab zac))))))))) (zad zaJ (zak G_law_cell hr (zaa (dv 0) (zaa zab zac))) zab) (fun _ _=>rfl))) (zag (zar (i:=2) zbw.nd rfl (Or.inl rfl) (zak G_law_grid hr (zaa (zak G_law_cell hr (zaa (dv 0) (zaa zab zac))) zac))) (zag (ziG (x:="_law_k") (N:=["_law_script"]) (caps:=[0]) (ar:=zaj zbO) rfl rfl ⟨rfl,by decide +kernel,by decide +kernel,rfl,by decide +kernel,by decide +kernel⟩ rfl (by decide) (i:=3) zbw.nd rfl rfl rfl z_range (zaa (dv 1) zac) (fun _ _ _ _ _ _=>zbI) (fun _ _ _ _ _ _=>(zak G_law_side hr (zaa (zak G_law_cell hr (zaa (dv 1) (zaa (zad zaZ zab (zad zaU zab (dv 0))) zac))) (zaa (zak G_law_cell hr (zaa (dv 1) (zaa (zad zaZ zab (zad zaU zab (dv 0))) zac))) zac))))) (zag (zar (i:=4) zbw.nd rfl (Or.inr rfl) (zad zaZ zab (zad zaJ (zak G_law_cell hr (zaa (dv 0) (zaa zab zac))) zab))) (zag (zar (i:=5) zbw.nd rfl (Or.inl rfl) (zak G_law_point hr (zaa (dv 3) (zaa (zjW (x:="_law_k") (N:=["_law_script","_law_share"]) (caps:=[0,4]) (ar:=zaj zbO) rfl rfl ⟨rfl,by decide +kernel,by decide +kernel,rfl,by decide +kernel,by decide +kernel⟩ rfl (by decide) rfl z_range (zaa (dv 1) zac) (fun _ _ _ _ _ _=>zbI) (fun _ _ _ _ _ _=>(zad zb7 (zak G_law_cell hr (zaa (dv 1) (zaa (zad zaZ zab (dv 0)) zac))) (zad zaZ (dv 2) zab)))) (zaa (dv 4) (zaa (dv 2) zac)))))) (zag (ziG (x:="_law_k") (N:=[]) (caps:=[]) (ar:=zaj zbO) rfl rfl ⟨rfl,by decide +kernel,by decide +kernel,rfl,by decide +kernel,by decide +kernel⟩ rfl (by decide) (i:=6) zbw.nd rfl rfl rfl z_range (zaa (dv 1) zac) (fun _ _ _ _ _ _=>zbI) (fun _ _ _ _ _ _=>(zaP (zaa zbe (zaa (dv 0) zac))))) (zag (zar (i:=7) zbw.nd rfl (Or.inl rfl) (zak G_law_factors hr (zaa (dv 6) (zaa (dv 5) (zaa (dv 2) zac))))) (zag (zar (i:=8) zbw.nd rfl (Or.inl rfl) (zbx zac)) (zag (zdA (i:=9) PassesOwn.never rfl zbw.nd rfl (Or.inl rfl) (dv 6) (zaf (zbh (zbJ (dv 8) (zad zaZ zab (zfH zrH rfl z_int PyProof.Rows.Boot.«int» (zaa (ziV (za6 hr) (zam (dv 9) zab (fun _ _=>rfl)) zbe (zaL _)) zac))))))) (zag (zdA (i:=10) PassesOwn.never rfl zbw.nd rfl (Or.inl rfl) (zkp (dv 0) (zjm zab) (zjm zab)) (zaf (zbh (zak G_law_grow hr (zaa (dv 6) (zaa (dv 8) (zaa (dv 10) (zaa (zad zbD (zad zcy zab (dv 1)) zab) zac)))))))) (zag (zar (i:=11) zbw.nd rfl (Or.inl rfl) (zak G_law_equations hr (zaa (dv 0) (zaa (dv 6) (zaa (dv 7) (zaa (za7 (zba zbG) rfl z_len PyProof.Rows.Boot.«len» (zaa (dv 6) zac)) zac)))))) (zag (zar (i:=12) zbw.nd rfl (Or.inl rfl) (zak G_law_turn hr (zaa (dv 0) (zaa (dv 1) zac)))) (zag (zar (i:=13) zbw.nd rfl (Or.inl rfl) (zbx (zaa (zfH (zba zh9) rfl z_list PyProof.Rows.Boot.«list» (zaa (dv 6) zac)) (zaa (zfH (zba zh9) rfl z_list PyProof.Rows.Boot.«list» (zaa (dv 11) zac)) (zaa (zfH (zba zh9) rfl z_list PyProof.Rows.Boot.«list» (zaa (dv 3) zac)) (zaa (zcR (x:="_law_row") (N:=[]) (caps:=[]) (ar:=zaj zbO) rfl rfl ⟨rfl,by decide +kernel,by decide +kernel,rfl,by decide +kernel,by decide +kernel⟩ rfl (by decide) (dv 12) (fun _ _ _ _ _ _=>zbI) (fun _ _ _ _ _ _=>(zfH (zba zh9) rfl z_list PyProof.Rows.Boot.«list» (zaa (dv 0) zac)))) zac)))))) (zag (zar (i:=14) zbw.nd rfl (Or.inl rfl) (zak G_step hr (zaa (zaA (dv 13) zab (fun _ _=>rfl)) (zaa (zaA (dv 13) zab (fun _ _=>rfl)) (zaa (zaA (dv 13) zab (fun _ _=>rfl)) (zaa (dv 2) (zaa (zaA (dv 13) zab (fun _ _=>rfl)) zac))))))) (zag (zaQ (PDW.pt (zjg (zge (zdN (zak G_law_spans hr (zaa (dv 14) (zaa (dv 1) zac))))) (zje (zaO (zno hr) (dv 13) (zbx (zaa (dv 6) (zaa (dv 11) (zaa (dv 3) (zaa (dv 12) zac))))) (zaL _))))) (zaf (zan zc1)) zaW) (zag (zcp (i:=15) PassesOwn.never rfl zbw.nd rfl (Or.inl rfl) rfl z_range (zaa (dv 1) zac) (zaf (zaQ (zge (zdN (zak G_law_holds hr (zaa (zaA (dv 14) (dv 15) (fun _ _=>rfl)) (zaa (zaA (dv 5) (dv 15) (fun _ _=>rfl)) (zaa (dv 2) zac)))))) (zaf (zan zc1)) zaW))) (zaf (zan zc1)))))))))))))))))),fun ds S Q ex h=>by
  obtain⟨ns,rfl,rfl,hl,h⟩:=h
  refine⟨ns,rfl,by decide,?_⟩
  obtain⟨q,eq8,q1,q4⟩:∃q:Nat,atI [D.int 2,.int 1,.int 3,.int 2,.int 4,.int 2,.int 1,.int 3] (ns.getD (0:Int).toNat 0 % 8)=some (.int (q:Int))∧1≤q∧q≤4:=by
   have r8:=zbo (a:=ns.getD (0:Int).toNat 0) (b:=8) (by decide)
   generalize ns.getD (0:Int).toNat 0 % 8=z at r8
   have e:z=0∨z=1∨z=2∨z=3∨z=4∨z=5∨z=6∨z=7:=by omega
   rcases e with rfl | rfl | rfl | rfl | rfl | rfl | rfl | rfl
   ·exact⟨2,rfl,by decide,by decide⟩
   ·exact⟨1,rfl,by decide,by decide⟩
   ·exact⟨3,rfl,by decide,by decide⟩
   ·exact⟨2,rfl,by decide,by decide⟩
   ·exact⟨4,rfl,by decide,by decide⟩
   ·exact⟨2,rfl,by decide,by decide⟩
   ·exact⟨1,rfl,by decide,by decide⟩
   ·exact⟨3,rfl,by decide,by decide⟩
  refine zay (n:=1) (o:=.lst [D.int 2,.int 1,.int 3,.int 2,.int 4,.int 2,.int 1,.int 3]) rfl eq8 ?_
  refine⟨ns,rfl,by decide,?_⟩
  intro g hg g2
  have m2:∀k:Int,IntMulOk 2 k:=fun k=>IntMulOk.of_left (by decide)
  refine zlI (j:=(q:Nat)) (S1:=[.frz (ns.map D.int),.lst [D.int 2,.int 1,.int 3,.int 2,.int 4,.int 2,.int 1,.int 3]]) (fun _ d=>∃p,d=frD p∧(p.1≤p.2∧p.1.natAbs≤2000000∧p.2.natAbs≤2000000)) (fun K hK=>by exact hK) ⟨by omega,by omega⟩ (fun k hk S2 K pr hK=>?_) (fun xs lx hx=>?_)
  ·refine⟨m2 _,ns,zjh pr rfl,show (0:Int)≤3 + 2 * (k:Int) by omega,m2 _,ns,zjh pr rfl,show (0:Int)≤4 + 2 * (k:Int) by omega,?_⟩
   exact fun t b h1 h2 h3=>hK _ ⟨(t,b),rfl,h1,h2,h3⟩
  obtain⟨ps,rfl,gp⟩:=zk5 xs hx
  rw[List.length_map] at lx
  obtain rfl:q=ps.length:=by omega
  have sb:Spn 51 ps:=fun p hp=>⟨(gp p hp).1,Sz.of (n:=51) (10 ^ 15) (by have:=(gp p hp).2.1; omega),Sz.of (n:=51) (10 ^ 15) (by have:=(gp p hp).2.2; omega)⟩
  refine⟨ns,rfl,by decide,?_⟩
  have hW:1≤(1 + ns.getD (2:Int).toNat 0 % 60)∧(1 + ns.getD (2:Int).toNat 0 % 60)≤60:=by omega
  refine zlI (j:=((ps.length:Nat):Int)) (S1:=[.frz (ns.map D.int),.lst [D.int 2,.int 1,.int 3,.int 2,.int 4,.int 2,.int 1,.int 3],.lst (ps.map frD)]) (fun _ d=>∃t:Int,d=.int t∧(0≤t∧t≤(1 + ns.getD (2:Int).toNat 0 % 60))) (fun K hK=>by exact hK) ⟨by omega,by omega⟩ (fun k hk S2 K pr hK=>?_) (fun xs lx hx=>?_)
  ·have rz:=zbo (a:=ns.getD (11 + (k:Int)).toNat 0) (b:=(1 + ns.getD (2:Int).toNat 0 % 60) + 1) (by omega)
   exact⟨ns,zjh pr rfl,show (0:Int)≤11 + (k:Int) by omega,show (0:Int) < (1 + ns.getD (2:Int).toNat 0 % 60) + 1 by omega,hK _ ⟨_,rfl,rz.1,by omega⟩⟩
  obtain⟨ts,rfl,gts⟩:=zjK xs hx
  rw[List.length_map] at lx
  have lts:ps.length=ts.length:=by omega
  refine⟨ps,ts,rfl,rfl,lts,by omega,sb,hW,gts,⟨hg,g2⟩,fun T m pr lm hP=>?_⟩
  have zp:=znR sb hW gts ⟨hg,g2⟩ lts
  have ip:=zqt sb hW gts ⟨hg,g2⟩ lts
  have lP:(pts ps ts (1 + ns.getD (2:Int).toNat 0 % 60) g ps.length).length=ps.length:=zi4 _ _ _ _ _
  have sP:∀p∈pts ps ts (1 + ns.getD (2:Int).toNat 0 % 60) g ps.length,1≤p.2∧p.2≤10 ^ 9∧p.1.natAbs≤10 ^ 9:=fun p hp=>by
   obtain⟨k,hk,rfl⟩:=List.mem_map.mp hp
   have hk':=List.mem_range.mp hk
   obtain⟨t,b,_,_,a,_,_⟩:=zgQ sb hW gts ⟨hg,g2⟩ hk' lts
   have z:=gp _ (zdY (i:=(k:Int)) ⟨by omega,by omega⟩)
   have a1:((gt ps k).1 * (1 + ns.getD (2:Int).toNat 0 % 60)).natAbs≤2000000 * 60:=by rw[Int.natAbs_mul]; exact Nat.mul_le_mul z.2.1 (by omega)
   have a2:(((gt ps k).2 - (gt ps k).1) * ts.getD k 0).natAbs≤4000000 * 60:=by rw[Int.natAbs_mul]; exact Nat.mul_le_mul (by omega) (by omega)
   have a3:(g * (1 + ns.getD (2:Int).toNat 0 % 60)).natAbs≤1000000 * 60:=by rw[Int.natAbs_mul]; exact Nat.mul_le_mul (by omega) (by omega)
   refine⟨a,?_,?_⟩
   ·show g * (1 + ns.getD (2:Int).toNat 0 % 60)≤10 ^ 9
    omega
   ·show ((gt ps k).1 * (1 + ns.getD (2:Int).toNat 0 % 60) + ((gt ps k).2 - (gt ps k).1) * ts.getD k 0).natAbs≤10 ^ 9
    omega
  have dP:∀j:Int,inR ps.length j→(gt (pts ps ts (1 + ns.getD (2:Int).toNat 0 % 60) g ps.length) j).2=g * (1 + ns.getD (2:Int).toNat 0 % 60):=fun j hj=>by
   rw[zjO hj]
   rfl
  have h0:T[0]?=some (.frz (ns.map D.int)):=pr _ _ rfl
  have hB:T[2]?=some (.lst (ps.map frD)):=pr _ _ rfl
  have lm3:4≤m:=lm
  have lmT:=za2 hP
  generalize pts ps ts (1 + ns.getD (2:Int).toNat 0 % 60) g ps.length=P at *
  clear pr
  refine ziy (j:=(ps.length:Nat)) (S1:=T) (fun k=>.tup [.str "unknown",.int (k:Int)]) (fun K hK=>by exact hK) ⟨by omega,by omega⟩ (fun k hk S2 K pr hK=>by exact hK) ?_
  have eN:((List.range ((ps.length:Nat):Int).toNat).map fun (k:Nat)=>D.tup [.str "unknown",.int (k:Int)])=((List.range ps.length).map fun (k:Nat)=>Nd.unknown (k:Int)).map Nd.d:=by
   rw[List.map_map,Int.toNat_natCast]
   rfl
  rw[eN]
  have net0:=zms ps.length
  have hun:∀(i:Nat) (v:Nd),((List.range ps.length).map fun (k:Nat)=>Nd.unknown (k:Int))[i]?=some v→v=.unknown i:=fun i v hi=>by
   rw[List.getElem?_map] at hi
   obtain⟨j,hj,rfl⟩:=Option.map_eq_some_iff.mp hi
   obtain⟨_,e⟩:=List.getElem?_eq_some_iff.mp hj
   rw[List.getElem_range] at e
   rw[e]
  refine⟨ps.length,P,(List.range ps.length).map fun (k:Nat)=>Nd.unknown (k:Int),(List.range ps.length).map fun _=>1,zat _ _,zao hP,by omega,net0,by omega,by omega,by rw[List.length_map,List.length_range]; omega,fun k hk=>by rw[List.getElem?_map,List.getElem?_range hk]; rfl,fun i v hi=>?_,sP,fun T2 mf ms us fs net2 l8 hN hF lf zf hv lmf kp2=>?_⟩
  ·rw[hun i v hi,(net0.ok i v hi).2.1,hun i v hi]
   rfl
  have lN:=za2 hN
  have lF:=za2 hF
  have lV:1≤((List.range ps.length).map fun (k:Nat)=>Nd.unknown (k:Int)).length∧((List.range ps.length).map fun (k:Nat)=>Nd.unknown (k:Int)).length≤4:=by rw[List.length_map,List.length_range]; omega
  replace h0:=kp2 _ _ (show 0≠T.length by omega) (zao h0)
  replace hB:=kp2 _ _ (show 2≠T.length by omega) (zao hB)
  replace hP:=kp2 _ _ (show m≠T.length by omega) (zao hP)
  replace lmf:T.length + 1≤mf:=by simpa using lmf
  obtain⟨vs,ws,hvs,lvs,hws⟩:∃(vs:List Nd) (ws:List Nat),vs=((List.range ps.length).map fun (k:Nat)=>Nd.unknown (k:Int))++ms∧(1≤vs.length∧vs.length≤12)∧ws=((List.range ps.length).map fun _=>1)++us:=⟨_,_,rfl,by rw[List.length_append]; omega,rfl⟩
  rw[← hvs,← hws] at net2
  rw[← hvs] at hN
  rw[← hvs,← hws] at zf hv
  clear hun net0 eN kp2 hvs hws lV
  have lw:=net2.len
  refine zdr (n:=T.length) (o:=.lst (vs.map Nd.d)) (fun k dl' S'=>S'=T2++[.lst ((ws.take k).map wtD)]∧∃u:Option D,dl'=[some (.ref 0),some (.int ((ps.length:Nat):Int)),some (.int g),some (.ref 2),some (.int (1 + ns.getD (2:Int).toNat 0 % 60)),some (.ref m),some (.ref T.length),some (.ref mf),some (.ref T2.length),u,none,none,none,none,none,none]) ⟨rfl,_,rfl⟩ (fun k dl' S' ⟨e,_⟩=>by rw[e]; exact zao hN) ?_ ?_
  ·rintro k x dl' S' nx ct ex' ⟨rfl,u,rfl⟩ hn
   have hx:(vs.map Nd.d)[k]?=some x:=ex'
   rw[List.getElem?_map] at hx
   obtain⟨v,hy,rfl⟩:=Option.map_eq_some_iff.mp hx
   have hk:=(List.getElem?_eq_some_iff.mp hy).1
   have et:ws.take (k + 1)=ws.take k++[v.hv]:=by
    have e:=hv k v hy
    rw[List.getD_eq_getElem?_getD,List.getElem?_eq_getElem (by omega)] at e
    rw[List.take_succ_eq_append_getElem (by omega)]
    exact congrArg (fun z=>ws.take k++[z]) e
   refine zb0 (n:=T2.length) (S1:=T2++[.lst ((ws.take k).map wtD)]) (xs:=(ws.take k).map wtD) (y:=wtD v.hv) (fun K hK=>by exact hK) (zat _ _) (fun K hK=>?_) (by rw[List.length_map,List.length_take]; omega) ?_
   ·cases v <;> exact hK
   ·refine hn _ _ ⟨?_,_,rfl⟩
    rw[et,List.map_append]
    exact zfQ _ _ _
  rintro dl' S' ⟨rfl,u,rfl⟩
  have ek:ws.take (zah (.lst (vs.map Nd.d))).length=ws:=List.take_of_length_le (by show _≤(vs.map Nd.d).length; rw[List.length_map]; omega)
  rw[ek]
  obtain⟨M,eM,M2,M16⟩:∃M:Nat,(16:Int) / ((ps.length:Nat):Int) - 2=(M:Int)∧2≤M∧ps.length * (M + 2)≤16:=by
   have e:ps.length=1∨ps.length=2∨ps.length=3∨ps.length=4:=by omega
   rcases e with e | e | e | e <;> rw[e]
   ·exact⟨14,rfl,by decide,by decide⟩
   ·exact⟨6,rfl,by decide,by decide⟩
   ·exact⟨3,rfl,by decide,by decide⟩
   ·exact⟨2,rfl,by decide,by decide⟩
  have wM:∀i:Nat,ws.getD i 0≤M:=fun i=>by
   by_cases ci:i < vs.length
   ·have e:=hv i _ (List.getElem?_eq_getElem ci)
    have:vs[i].hv≤2:=by cases vs[i] <;> simp[Nd.hv]
    omega
   ·rw[List.getD_eq_getElem?_getD,List.getElem?_eq_none (by omega)]
    exact Nat.zero_le _
  refine zkz (n:=0) (o:=.frz (ns.map D.int)) (lo:=some 15) (hi:=some 27) (S3:=T2++[.lst (ws.map wtD)]) (fun K hK=>by exact hK) (fun K hK=>by exact hK) (fun K hK=>by exact hK) (zao h0) ?_
  have lc:(zaT (ns.map D.int) (some 15) (some 27)).length≤63:=by
   have z:=zlP (α:=D) (xs:=ns.map D.int) (lo:=some 15) (hi:=some 27)
   rw[List.length_map] at z
   omega
  have i1:(T2++[.lst (ws.map wtD)]++[.lst (zaT (ns.map D.int) (some 15) (some 27))])[T.length]?=some (.lst ((vs++[]).map Nd.d)):=by
   rw[List.append_nil vs]
   exact zao (zao hN)
  have i2:(T2++[.lst (ws.map wtD)]++[.lst (zaT (ns.map D.int) (some 15) (some 27))])[T2.length]?=some (.lst ((ws++[]).map wtD)):=by
   rw[List.append_nil ws]
   exact zao (zat _ _)
  have i3:(T2++[.lst (ws.map wtD)]++[.lst (zaT (ns.map D.int) (some 15) (some 27))])[(T2++[Ob.lst (ws.map wtD)]).length]?=some (.lst (zaT (ns.map D.int) (some 15) (some 27))):=zat _ _
  have eL:(T2++[Ob.lst (ws.map wtD)]).length=T2.length + 1:=by simp
  refine zdr (n:=(T2++[Ob.lst (ws.map wtD)]).length) (o:=.lst (zaT (ns.map D.int) (some 15) (some 27))) (fun k dl' S'=>(∃(ms:List Nd) (us:List Nat),zaz ps.length (vs++ms) (ws++us)∧ms.length≤k∧(∀i:Nat,(ws++us).getD i 0≤M)∧S'[T.length]?=some (.lst ((vs++ms).map Nd.d))∧S'[T2.length]?=some (.lst ((ws++us).map wtD))∧(∀(x:Nat) (o:Ob),x≠T.length→T2[x]?=some o→S'[x]?=some o)∧T2.length + 2≤S'.length)∧S'[(T2++[Ob.lst (ws.map wtD)]).length]?=some (.lst (zaT (ns.map D.int) (some 15) (some 27)))∧∃u v:Option D,dl'=[some (.ref 0),some (.int ((ps.length:Nat):Int)),some (.int g),some (.ref 2),some (.int (1 + ns.getD (2:Int).toNat 0 % 60)),some (.ref m),some (.ref T.length),some (.ref mf),some (.ref T2.length),u,v,none,none,none,none,none])
   ⟨⟨[],[],by rw[List.append_nil,List.append_nil]; exact net2,by simp,by rw[List.append_nil]; exact wM,i1,i2,fun x o _ e=>zao (zao e),by simp⟩,i3,_,_,rfl⟩ (fun k dl' S' ⟨_,e,_⟩=>e) ?_ ?_
  ·rintro k x dl' S' nx ct ex' ⟨⟨ms,us,net,lm',wM',e1,e2,kp,l2⟩,e3,u,v,rfl⟩ hn
   obtain⟨c,rfl⟩:=zrK ex'
   have hk:k < (zaT (ns.map D.int) (some 15) (some 27)).length:=(List.getElem?_eq_some_iff.mp ex').1
   refine⟨(Sz.of (n:=30) 1000 (show ((ps.length:Nat):Int).natAbs≤1000 by omega)).fd (by omega),ps.length,vs++ms,ws++us,e1,e2,by omega,net,by rw[List.length_append]; omega,by rw[List.length_append]; omega,show (16:Int) / ((ps.length:Nat):Int) - 2≤16 by rw[eM]; have:M + 2≤16:=Nat.le_trans (Nat.le_mul_of_pos_left (M + 2) q1) M16; omega,fun T3 m3 u3 n3 hu l3 t1 t2 lT kT=>?_⟩
   obtain⟨u4,rfl,hu⟩:=hu
   rw[List.append_assoc] at t1 t2
   rw[List.append_assoc,List.append_assoc] at n3
   have w3:∀i:Nat,(ws++(us++u4)).getD i 0≤M:=fun i=>by
    rw[← List.append_assoc]
    by_cases ci:i < (ws++us).length
    ·rw[zbz ci]
     exact wM' i
    ·rw[List.getD_eq_getElem?_getD,List.getElem?_append_right (by omega)]
     cases ew:u4[i - (ws++us).length]? with
     | none=>exact Nat.zero_le _
     | some w=>
      have z:=hu w (List.mem_of_getElem? ew)
      rw[eM] at z
      show w≤M
      omega
   exact hn _ _ ⟨⟨ms++m3,us++u4,n3,by rw[List.length_append]; omega,w3,t1,t2,fun x o hx e=>kT x o hx (by have:=za2 e; omega) (kp x o hx e),by omega⟩,kT _ _ (by omega) (by omega) e3,_,_,rfl⟩
  rintro dl' S' ⟨⟨ms,us,net,lm',wM',e1,e2,kp,l2⟩,e3,u,v,rfl⟩
  have lm12:ms.length≤12:=by
   have z:ms.length≤(zaT (ns.map D.int) (some 15) (some 27)).length:=lm'
   have z2:(zaT (ns.map D.int) (some 15) (some 27)).length≤27 - 15:=zqm (ns.map D.int) 15 27
   omega
  clear lm' e3 e2 i1 i2 i3 hN
  have H0:=kp _ _ (show 0≠T.length by omega) h0
  have HB:=kp _ _ (show 2≠T.length by omega) hB
  have HP:=kp _ _ (show m≠T.length by omega) hP
  have HF:=kp _ _ (show mf≠T.length by omega) hF
  have lvm:(vs++ms).length=vs.length + ms.length:=List.length_append
  refine zbT e1 ?_
  rw[List.length_map]
  refine⟨ns,ps.length,M,P,vs++ms,ws++us,fs,H0,e1,HF,by omega,net,rfl,⟨by omega,by omega⟩,by rw[lf]; exact M16,by omega,wM',fun f hf=>?_,fun T3 mr m3 u3 rows n3 l3 t1 hR r5 er zr lmr kT=>?_⟩
  ·obtain⟨z1,z2,z3⟩:=zf f hf
   refine⟨by omega,?_,?_⟩
   ·rw[zbz (by omega)]
    exact z2
   ·rw[zbv ⟨by omega,by omega⟩]
    exact z3
  have lx:(vs++ms++m3).length≤70:=by rw[List.length_append]; omega
  generalize vs++ms++m3=xs at n3 t1 zr lx
  generalize ws++us++u3=wx at n3
  refine⟨ns,ps.length,kT _ _ (show 0≠T.length by omega) H0,⟨rfl,q4⟩,fun T4 mt mts MM p4 lmt hMt riM lMM zMM=>?_⟩
  have G1:=p4 _ _ t1
  have GR:=p4 _ _ hR
  have GB:=p4 _ _ (kT _ _ (show 2≠T.length by omega) HB)
  have GP:=p4 _ _ (kT _ _ (show m≠T.length by omega) HP)
  refine zh3 (zaB G1 rfl) ?_
  refine zh3 (zaB (zao GR) rfl) ?_
  refine zh3 (zaB (zao (zao GB)) rfl) ?_
  dsimp only[zah]
  have A1:(T4++[Ob.lst (xs.map Nd.d)]++[Ob.lst (rows.map rwD)]++[Ob.lst (ps.map frD)])[T4.length]?=some (.lst (xs.map Nd.d)):=zao (zao (zat _ _))
  have A2:(T4++[Ob.lst (xs.map Nd.d)]++[Ob.lst (rows.map rwD)]++[Ob.lst (ps.map frD)])[(T4++[Ob.lst (xs.map Nd.d)]).length]?=some (.lst (rows.map rwD)):=zao (zat _ _)
  have A3:(T4++[Ob.lst (xs.map Nd.d)]++[Ob.lst (rows.map rwD)]++[Ob.lst (ps.map frD)])[(T4++[Ob.lst (xs.map Nd.d)]++[Ob.lst (rows.map rwD)]).length]?=some (.lst (ps.map frD)):=zat _ _
  have pu:Pre T4 (T4++[Ob.lst (xs.map Nd.d)]++[Ob.lst (rows.map rwD)]++[Ob.lst (ps.map frD)]):=zdV (zdV (zdV Pre.refl _) _) _
  have B1:=pu _ _ G1
  have B2:=pu _ _ GR
  have B3:=pu _ _ GB
  have B4:=pu _ _ hMt
  have BP:=pu _ _ GP
  have riU:=riM.pre pu
  generalize (T4++[Ob.lst (xs.map Nd.d)]).length=i2 at A2 ⊢
  generalize (T4++[Ob.lst (xs.map Nd.d)]++[Ob.lst (rows.map rwD)]).length=i3 at A3 ⊢
  generalize T4.length=i1 at A1 ⊢
  clear pu
  generalize T4++[Ob.lst (xs.map Nd.d)]++[Ob.lst (rows.map rwD)]++[Ob.lst (ps.map frD)]=V at A1 A2 A3 B1 B2 B3 B4 BP riU ⊢
  refine zp2 (S1:=V) (n:=mt) (o:=.lst mts) (fun k ys S2=>Pre V S2∧S2[V.length]?=some (.lst ys)∧ys.length=k∧∀(i:Nat) (d:D) (r:List Int),ys[i]?=some d→(MM.take k)[i]?=some r→∃a,d=.ref a∧V.length + 1≤a∧S2[a]?=some (.lst (r.map D.int))) (fun K hK=>by exact hK) B4 (fun k ys S2 w=>⟨w.1 _ _ B4,w.2.1,w.2.2.1⟩) (by show mts.length≤1000; rw[riM.1]; omega) ⟨Pre.refl.push,zat _ _,rfl,fun i d r hd=>by simp at hd⟩ (fun k x ys S2 K hx w hK=>?_) (fun ys S2 w=>?_)
  ·obtain⟨y1,y2,y3,y4⟩:=w
   have hx':mts[k]?=some x:=hx
   have hk:k < MM.length:=by
    have:=(List.getElem?_eq_some_iff.mp hx').1
    rw[riM.1] at this
    exact this
   have hr:=List.getElem?_eq_getElem hk
   generalize MM[k]=r at hr
   obtain⟨ar,rfl,har⟩:=riU.2 k x _ hx' hr
   refine zh3 (zaB (y1 _ _ har) rfl) ?_
   dsimp only[zah]
   have lt:=za2 y2
   refine hK _ _ (zao y2) ⟨zdF (zdV y1 _) (Nat.le_refl _),zbE (zao y2),by simp[y3],fun i d z hd hz=>?_⟩
   rw[zbr hr] at hz
   have lk:(MM.take k).length=k:=by rw[List.length_take]; omega
   by_cases hi:i < ys.length
   ·rw[List.getElem?_append_left hi] at hd
    rw[List.getElem?_append_left (by omega)] at hz
    obtain⟨a,e,la,sa⟩:=y4 i d z hd hz
    exact⟨a,e,la,za5 (zao sa) (by omega)⟩
   ·have l:=(List.getElem?_eq_some_iff.mp hd).1
    simp only[List.length_append,List.length_cons,List.length_nil] at l
    have ei:i=k:=by omega
    subst ei
    rw[List.getElem?_append_right (by omega),show i - ys.length=0 by omega] at hd
    rw[List.getElem?_append_right (by omega),lk,Nat.sub_self] at hz
    cases hd
    cases hz
    exact⟨S2.length,rfl,by omega,za5 (zat _ _) (by omega)⟩
  obtain⟨y1,y2,y3,y4⟩:=w
  have e9:MM.take (zah (.lst mts)).length=MM:=List.take_of_length_le (by show MM.length≤mts.length; rw[riM.1]; exact Nat.le_refl _)
  rw[e9] at y4
  have A1:=y1 _ _ A1
  have A2:=y1 _ _ A2
  have A3:=y1 _ _ A3
  have B1:=y1 _ _ B1
  have B2:=y1 _ _ B2
  have B3:=y1 _ _ B3
  have B4:=y1 _ _ B4
  have BP:=y1 _ _ BP
  have riU:=riU.pre y1
  have riV:zcV S2 ys MM:=⟨by rw[y3]; exact riM.1,fun k d r hd hr=>by
   obtain⟨a,e,_,s⟩:=y4 k d r hd hr
   exact⟨a,e,s⟩⟩
  clear y1 y4
  generalize V.length=i4 at y2 ⊢
  have H:=zat S2 (.lst [.ref i1,.ref i2,.ref i3,.ref i4])
  refine zay (o:=.lst [.ref i1,.ref i2,.ref i3,.ref i4]) H (d:=.ref i1) rfl ?_
  refine zay (o:=.lst [.ref i1,.ref i2,.ref i3,.ref i4]) H (d:=.ref i2) rfl ?_
  refine zay (o:=.lst [.ref i1,.ref i2,.ref i3,.ref i4]) H (d:=.ref i3) rfl ?_
  refine zay (o:=.lst [.ref i1,.ref i2,.ref i3,.ref i4]) H (d:=.ref i4) rfl ?_
  have pu2:Pre S2 (S2++[Ob.lst [.ref i1,.ref i2,.ref i3,.ref i4]]):=Pre.refl.push
  have e4:(eqs rows).length≤4:=by omega
  refine⟨xs,wx,ps,rows,MM,ys,pu2 _ _ A1,pu2 _ _ A3,n3,sb,⟨hg,g2⟩,lx,by omega,pu2 _ _ A2,by omega,e4,fun i hi=>(zr i hi).1,⟨q1,q4⟩,pu2 _ _ y2,riV.pre pu2,lMM,fun r hr=>⟨by have:=(zMM r hr).1; omega,fun x hx=>((zMM r hr).2 x hx).mono (by decide)⟩,fun T5 m5 p5 lm5 h5=>?_⟩
  have st:∀(k:Nat) (es:List Int),MM[k]?=some es→(za1 g ps ((eqs rows).map fun (i:Nat)=>gt (zae (ps.map zax) g xs) i) ((eqs rows).map fun (i:Nat)=>(zau (zae ps g xs) g ps.length xs).getD i []) k es).1 * (gt P k).2≤(gt P k).1 * g∧(gt P k).1 * g≤(za1 g ps ((eqs rows).map fun (i:Nat)=>gt (zae (ps.map zax) g xs) i) ((eqs rows).map fun (i:Nat)=>(zau (zae ps g xs) g ps.length xs).getD i []) k es).2 * (gt P k).2:=fun k es hk=>zn6 (is:=eqs rows) n3 rfl lP.symm sb ⟨hg,g2⟩ hW ip zp dP (fun i hi=>(zr i hi).1) (fun i hi=>(zr i hi).2) (by have:=(List.getElem?_eq_some_iff.mp hk).1; omega) (by rw[(zMM es (List.mem_of_getElem? hk)).1,er,lf])
  have sz:∀(k:Nat) (es:List Int),MM[k]?=some es→Sz 30000 (za1 g ps ((eqs rows).map fun (i:Nat)=>gt (zae (ps.map zax) g xs) i) ((eqs rows).map fun (i:Nat)=>(zau (zae ps g xs) g ps.length xs).getD i []) k es).1∧Sz 30000 (za1 g ps ((eqs rows).map fun (i:Nat)=>gt (zae (ps.map zax) g xs) i) ((eqs rows).map fun (i:Nat)=>(zau (zae ps g xs) g ps.length xs).getD i []) k es).2:=fun k es hk=>by
   have z:=zMM es (List.mem_of_getElem? hk)
   have:=(List.getElem?_eq_some_iff.mp hk).1
   exact zmm ⟨hg,g2⟩ (fun x hx=>(z.2 x hx).mono (by decide)) (by omega) (zq5 n3 sb ⟨hg,g2⟩ fun i hi=>(zr i hi).1) (zoo n3 sb ⟨hg,g2⟩ fun i hi=>(zr i hi).1) (fun p hp=>⟨(sb p hp).2.1.mono (by decide),(sb p hp).2.2.mono (by decide)⟩) q4 (by omega)
  have bP:∀k:Nat,k < ps.length→1≤(gt P (k:Int)).2∧Sz 200 (gt P (k:Int)).1∧Sz 200 (gt P (k:Int)).2:=fun k hk=>by
   have z:=sP _ (zdY (vs:=P) (i:=(k:Int)) ⟨by omega,by omega⟩)
   exact⟨z.1,Sz.of (n:=200) (10 ^ 9) (by omega),Sz.of (n:=200) (10 ^ 9) (by omega)⟩
  have eF:∀(k:Nat) (es:List Int),MM[k]?=some es→(MM.mapIdx fun k es=>za1 g ps ((eqs rows).map fun (i:Nat)=>gt (zae (ps.map zax) g xs) i) ((eqs rows).map fun (i:Nat)=>(zau (zae ps g xs) g ps.length xs).getD i []) k es)[k]?=some (za1 g ps ((eqs rows).map fun (i:Nat)=>gt (zae (ps.map zax) g xs) i) ((eqs rows).map fun (i:Nat)=>(zau (zae ps g xs) g ps.length xs).getD i []) k es):=fun k es hk=>by
   rw[List.getElem?_mapIdx,hk]
   rfl
  have ord:∀p∈(MM.mapIdx fun k es=>za1 g ps ((eqs rows).map fun (i:Nat)=>gt (zae (ps.map zax) g xs) i) ((eqs rows).map fun (i:Nat)=>(zau (zae ps g xs) g ps.length xs).getD i []) k es),p.1≤p.2:=fun p hp=>by
   obtain⟨k,hk⟩:=List.mem_iff_getElem?.mp hp
   rw[List.getElem?_mapIdx] at hk
   obtain⟨es,he,rfl⟩:=Option.map_eq_some_iff.mp hk
   have z:=st k es he
   have:=(List.getElem?_eq_some_iff.mp he).1
   have b:=bP k (by omega)
   exact Int.le_of_mul_le_mul_right (Int.le_trans z.1 z.2) (by omega)
  have lF5:(MM.mapIdx fun k es=>za1 g ps ((eqs rows).map fun (i:Nat)=>gt (zae (ps.map zax) g xs) i) ((eqs rows).map fun (i:Nat)=>(zau (zae ps g xs) g ps.length xs).getD i []) k es).length=ps.length:=by rw[List.length_mapIdx,lMM]
  have hF5:∀(k:Nat),k < ps.length→∃p,(MM.mapIdx fun k es=>za1 g ps ((eqs rows).map fun (i:Nat)=>gt (zae (ps.map zax) g xs) i) ((eqs rows).map fun (i:Nat)=>(zau (zae ps g xs) g ps.length xs).getD i []) k es)[k]?=some p∧(p.1 * (gt P k).2≤(gt P k).1 * g∧(gt P k).1 * g≤p.2 * (gt P k).2)∧Sz 30000 p.1∧Sz 30000 p.2:=fun k hk=>by
   have e:=List.getElem?_eq_getElem (l:=MM) (i:=k) (by omega)
   exact⟨_,eF k _ e,st k _ e,sz k _ e⟩
  clear st sz eF
  generalize (MM.mapIdx fun k es=>za1 g ps ((eqs rows).map fun (i:Nat)=>gt (zae (ps.map zax) g xs) i) ((eqs rows).map fun (i:Nat)=>(zau (zae ps g xs) g ps.length xs).getD i []) k es)=FF at h5 ord lF5 hF5
  refine⟨FF,h5,by rw[lF5],ord,?_⟩
  refine zby ?_
  have al:∀(k:Nat) (d e:D),[D.ref i1,.ref i2,.ref i3,.ref i4][k]?=some d→[D.ref T.length,.ref mr,.ref 2,.ref mt][k]?=some e→Al2 (T5++[Ob.lst [.ref T.length,.ref mr,.ref 2,.ref mt]]) d e:=fun k d e hd he=>by
   match k with
   | 0=>
    cases hd; cases he
    exact .inl ⟨_,_,_,_,rfl,rfl,zao (p5 _ _ (pu2 _ _ A1)),zao (p5 _ _ (pu2 _ _ B1)),zj6 _⟩
   | 1=>
    cases hd; cases he
    exact .inl ⟨_,_,_,_,rfl,rfl,zao (p5 _ _ (pu2 _ _ A2)),zao (p5 _ _ (pu2 _ _ B2)),zlz _⟩
   | 2=>
    cases hd; cases he
    exact .inl ⟨_,_,_,_,rfl,rfl,zao (p5 _ _ (pu2 _ _ A3)),zao (p5 _ _ (pu2 _ _ B3)),zll _⟩
   | 3=>
    cases hd; cases he
    refine .inr ⟨_,_,_,_,rfl,rfl,zao (p5 _ _ (pu2 _ _ y2)),zao (p5 _ _ (pu2 _ _ B4)),by rw[riV.1,riU.1],fun j x y hx hy=>?_⟩
    have hj:j < MM.length:=by
     have:=(List.getElem?_eq_some_iff.mp hx).1
     rw[riV.1] at this
     exact this
    obtain⟨a1,rfl,s1⟩:=riV.2 j x _ hx (List.getElem?_eq_getElem hj)
    obtain⟨a2,rfl,s2⟩:=riU.2 j y _ hy (List.getElem?_eq_getElem hj)
    exact⟨_,_,_,_,rfl,rfl,zao (p5 _ _ (pu2 _ _ s1)),zao (p5 _ _ (pu2 _ _ s2)),zjL _⟩
   | k + 4=>simp at hd
  refine zpR (ds:=[.ref i1,.ref i2,.ref i3,.ref i4]) (es:=[.ref T.length,.ref mr,.ref 2,.ref mt]) (zao (p5 _ _ H)) (zat _ _) rfl al ?_
  refine zby ?_
  have h5':(T5++[Ob.lst [.ref T.length,.ref mr,.ref 2,.ref mt]])[m5]?=some (.lst (FF.map frD)):=zao h5
  have BP':(T5++[Ob.lst [.ref T.length,.ref mr,.ref 2,.ref mt]])[m]?=some (.lst (P.map frD)):=zao (p5 _ _ (pu2 _ _ BP))
  generalize T5++[Ob.lst [.ref T.length,.ref mr,.ref 2,.ref mt]]=T6 at h5' BP' ⊢
  refine⟨⟨by omega,by omega⟩,fun k dl' S3=>T6=S3∧k≤ps.length∧∃uk:Option D,dl'=[some (.ref 0),some (.int ((ps.length:Nat):Int)),some (.int g),some (.ref 2),some (.int (1 + ns.getD (2:Int).toNat 0 % 60)),some (.ref m),some (.ref T.length),some (.ref mf),some (.ref T2.length),u,v,some (.ref mr),some (.ref mt),some (.ref S2.length),some (.ref m5),uk],⟨rfl,Nat.zero_le _,_,rfl⟩,?_⟩
  rintro k dl' S3 ⟨rfl,hk,uk,rfl⟩
  rw[Int.toNat_natCast]
  refine zch (fun c=>?_) (fun c=>h _)
  obtain⟨p,ep,hp1,sp1,sp2⟩:=hF5 k c
  have eg:gt FF (k:Int)=p:=zlu ep
  have a1:=za0 (vs:=FF) (i:=(k:Int)) ⟨by omega,by omega⟩
  rw[eg] at a1
  refine zay (o:=.lst (FF.map frD)) h5' a1 ?_
  refine zay (o:=.lst (P.map frD)) BP' (za0 (vs:=P) (i:=(k:Int)) ⟨by omega,by omega⟩) ?_
  have b:=bP k c
  refine⟨⟨sp1,sp2,b.2.1,b.2.2,Sz.of (n:=30) 1000000 (by omega)⟩,hp1,?_⟩
  refine zby ?_
  exact⟨rfl,c,_,rfl⟩⟩)
end
theorem zoe {l:PySem.W.OpenLaw}{w:World}{K:PySem.W.Frag}{h:Heap}{mg:Str→Option Value}{fa:Addr}(X:K.In h)(G:h.Ns mainGlobals mg)(hfa:mg "law"=some (.ref fa))
  {cc_Number:Addr}(nC_Number:PySem.W.nsIn K mainGlobals "Number"=some (some (.ref cc_Number)))(pg_Number:PySem.W.plainGet K cc_Number Str.empty=true)(hd_Number:PySem.W.hasDictIn K cc_Number=true)(po_Number:PySem.W.plainOver K cc_Number=true)(sa_Number:PySem.W.findIn K (.ref cc_Number) "__setattr__"=some (some (.builtin "object.__setattr__")))(mk_Number:PySem.W.makesIn K cc_Number=true)(kc_Number:PySem.W.keepIn K (.ref cc_Number)=true)
  (nf_Number_bottom:PySem.W.findIn K (.ref cc_Number) "bottom"=some none)
  (nf_Number_top:PySem.W.findIn K (.ref cc_Number) "top"=some none)
  {cc_Unknown:Addr}(nC_Unknown:PySem.W.nsIn K mainGlobals "Unknown"=some (some (.ref cc_Unknown)))(pg_Unknown:PySem.W.plainGet K cc_Unknown Str.empty=true)(hd_Unknown:PySem.W.hasDictIn K cc_Unknown=true)(po_Unknown:PySem.W.plainOver K cc_Unknown=true)(sa_Unknown:PySem.W.findIn K (.ref cc_Unknown) "__setattr__"=some (some (.builtin "object.__setattr__")))(mk_Unknown:PySem.W.makesIn K cc_Unknown=true)(kc_Unknown:PySem.W.keepIn K (.ref cc_Unknown)=true)
  (nf_Unknown_place:PySem.W.findIn K (.ref cc_Unknown) "place"=some none)
  {cc_Plus:Addr}(nC_Plus:PySem.W.nsIn K mainGlobals "Plus"=some (some (.ref cc_Plus)))(pg_Plus:PySem.W.plainGet K cc_Plus Str.empty=true)(hd_Plus:PySem.W.hasDictIn K cc_Plus=true)(po_Plus:PySem.W.plainOver K cc_Plus=true)(sa_Plus:PySem.W.findIn K (.ref cc_Plus) "__setattr__"=some (some (.builtin "object.__setattr__")))(mk_Plus:PySem.W.makesIn K cc_Plus=true)(kc_Plus:PySem.W.keepIn K (.ref cc_Plus)=true)
  (nf_Plus_other:PySem.W.findIn K (.ref cc_Plus) "other"=some none)
  (nf_Plus_one:PySem.W.findIn K (.ref cc_Plus) "one"=some none)
  {cc_Minus:Addr}(nC_Minus:PySem.W.nsIn K mainGlobals "Minus"=some (some (.ref cc_Minus)))(pg_Minus:PySem.W.plainGet K cc_Minus Str.empty=true)(hd_Minus:PySem.W.hasDictIn K cc_Minus=true)(po_Minus:PySem.W.plainOver K cc_Minus=true)(sa_Minus:PySem.W.findIn K (.ref cc_Minus) "__setattr__"=some (some (.builtin "object.__setattr__")))(mk_Minus:PySem.W.makesIn K cc_Minus=true)(kc_Minus:PySem.W.keepIn K (.ref cc_Minus)=true)
  (nf_Minus_other:PySem.W.findIn K (.ref cc_Minus) "other"=some none)
  (nf_Minus_one:PySem.W.findIn K (.ref cc_Minus) "one"=some none)
  {cc_Times:Addr}(nC_Times:PySem.W.nsIn K mainGlobals "Times"=some (some (.ref cc_Times)))(pg_Times:PySem.W.plainGet K cc_Times Str.empty=true)(hd_Times:PySem.W.hasDictIn K cc_Times=true)(po_Times:PySem.W.plainOver K cc_Times=true)(sa_Times:PySem.W.findIn K (.ref cc_Times) "__setattr__"=some (some (.builtin "object.__setattr__")))(mk_Times:PySem.W.makesIn K cc_Times=true)(kc_Times:PySem.W.keepIn K (.ref cc_Times)=true)
  (nf_Times_other:PySem.W.findIn K (.ref cc_Times) "other"=some none)
  (nf_Times_one:PySem.W.findIn K (.ref cc_Times) "one"=some none)
  {cc_Power:Addr}(nC_Power:PySem.W.nsIn K mainGlobals "Power"=some (some (.ref cc_Power)))(pg_Power:PySem.W.plainGet K cc_Power Str.empty=true)(hd_Power:PySem.W.hasDictIn K cc_Power=true)(po_Power:PySem.W.plainOver K cc_Power=true)(sa_Power:PySem.W.findIn K (.ref cc_Power) "__setattr__"=some (some (.builtin "object.__setattr__")))(mk_Power:PySem.W.makesIn K cc_Power=true)(kc_Power:PySem.W.keepIn K (.ref cc_Power)=true)
  (nf_Power_many:PySem.W.findIn K (.ref cc_Power) "many"=some none)
  (nf_Power_one:PySem.W.findIn K (.ref cc_Power) "one"=some none)
  {f0 h0:Addr}{m0:Value}(a0:nsA K "_law_grid" f0)(l0:lkA K f0 "_law_grid" "_law_grid" zih m0 h0)(c0:cdA K h0 "_law_grid")
  {f1 h1:Addr}{m1:Value}(a1:nsA K "_law_point" f1)(l1:lkA K f1 "_law_point" "_law_point" zgt m1 h1)(c1:cdA K h1 "_law_point")
  {f2 h2:Addr}{m2:Value}(a2:nsA K "_law_lowest" f2)(l2:lkA K f2 "_law_lowest" "_law_lowest" zhy m2 h2)(c2:cdA K h2 "_law_lowest")
  {f3 h3:Addr}{m3:Value}(a3:nsA K "_law_at" f3)(l3:lkA K f3 "_law_at" "_law_at" zh8 m3 h3)(c3:cdA K h3 "_law_at")
  {f4 h4:Addr}{m4:Value}(a4:nsA K "_law_factors" f4)(l4:lkA K f4 "_law_factors" "_law_factors" zhl m4 h4)(c4:cdA K h4 "_law_factors")
  {f5 h5:Addr}{m5:Value}(a5:nsA K "_law_cell" f5)(l5:lkA K f5 "_law_cell" "_law_cell" zh7 m5 h5)(c5:cdA K h5 "_law_cell")
  {f6 h6:Addr}{m6:Value}(a6:nsA K "_law_sum" f6)(l6:lkA K f6 "_law_sum" "_law_sum" zhQ m6 h6)(c6:cdA K h6 "_law_sum")
  {f7 h7:Addr}{m7:Value}(a7:nsA K "_law_equations" f7)(l7:lkA K f7 "_law_equations" "_law_equations" zic m7 h7)(c7:cdA K h7 "_law_equations")
  {f8 h8:Addr}{m8:Value}(a8:nsA K "_law_turn" f8)(l8:lkA K f8 "_law_turn" "_law_turn" zhV m8 h8)(c8:cdA K h8 "_law_turn")
  {f9 h9:Addr}{m9:Value}(a9:nsA K "equation_places" f9)(l9:lkA K f9 "equation_places" "equation_places" ze7 m9 h9)(c9:cdA K h9 "equation_places")
  {f10 h10:Addr}{m10:Value}(a10:nsA K "picked" f10)(l10:lkA K f10 "picked" "picked" zep m10 h10)(c10:cdA K h10 "picked")
  {f11 h11:Addr}{m11:Value}(a11:nsA K "less" f11)(l11:lkA K f11 "less" "less" zgC m11 h11)(c11:cdA K h11 "less")
  {f12 h12:Addr}{m12:Value}(a12:nsA K "rounded_up" f12)(l12:lkA K f12 "rounded_up" "rounded_up" zhg m12 h12)(c12:cdA K h12 "rounded_up")
  {f13 h13:Addr}{m13:Value}(a13:nsA K "span_of" f13)(l13:lkA K f13 "span_of" "span_of" zgv m13 h13)(c13:cdA K h13 "span_of")
  {f14 h14:Addr}{m14:Value}(a14:fdA K cc_Number "forth" f14)(l14:lkA K f14 "forth" "Number.forth" zgz m14 h14)(c14:cdA K h14 "Number.forth")
  {f15 h15:Addr}{m15:Value}(a15:fdA K cc_Unknown "forth" f15)(l15:lkA K f15 "forth" "Unknown.forth" zho m15 h15)(c15:cdA K h15 "Unknown.forth")
  {f16 h16:Addr}{m16:Value}(a16:nsA K "add_spans" f16)(l16:lkA K f16 "add_spans" "add_spans" zhs m16 h16)(c16:cdA K h16 "add_spans")
  {f17 h17:Addr}{m17:Value}(a17:fdA K cc_Plus "forth" f17)(l17:lkA K f17 "forth" "Plus.forth" zg7 m17 h17)(c17:cdA K h17 "Plus.forth")
  {f18 h18:Addr}{m18:Value}(a18:nsA K "take_spans" f18)(l18:lkA K f18 "take_spans" "take_spans" zhP m18 h18)(c18:cdA K h18 "take_spans")
  {f19 h19:Addr}{m19:Value}(a19:fdA K cc_Minus "forth" f19)(l19:lkA K f19 "forth" "Minus.forth" zgZ m19 h19)(c19:cdA K h19 "Minus.forth")
  {f20 h20:Addr}{m20:Value}(a20:nsA K "mul_spans" f20)(l20:lkA K f20 "mul_spans" "mul_spans" zhM m20 h20)(c20:cdA K h20 "mul_spans")
  {f21 h21:Addr}{m21:Value}(a21:fdA K cc_Times "forth" f21)(l21:lkA K f21 "forth" "Times.forth" zhq m21 h21)(c21:cdA K h21 "Times.forth")
  {f22 h22:Addr}{m22:Value}(a22:nsA K "raised" f22)(l22:lkA K f22 "raised" "raised" zhv m22 h22)(c22:cdA K h22 "raised")
  {f23 h23:Addr}{m23:Value}(a23:nsA K "raise_span" f23)(l23:lkA K f23 "raise_span" "raise_span" zeG m23 h23)(c23:cdA K h23 "raise_span")
  {f24 h24:Addr}{m24:Value}(a24:fdA K cc_Power "forth" f24)(l24:lkA K f24 "forth" "Power.forth" zg3 m24 h24)(c24:cdA K h24 "Power.forth")
  {f25 h25:Addr}{m25:Value}(a25:fdA K cc_Power "__init__" f25)(l25:lkA K f25 "__init__" "Power.__init__" zhF m25 h25)(c25:cdA K h25 "Power.__init__")
  {f26 h26:Addr}{m26:Value}(a26:fdA K cc_Number "__init__" f26)(l26:lkA K f26 "__init__" "Number.__init__" zgr m26 h26)(c26:cdA K h26 "Number.__init__")
  {f27 h27:Addr}{m27:Value}(a27:fdA K cc_Unknown "__init__" f27)(l27:lkA K f27 "__init__" "Unknown.__init__" zgX m27 h27)(c27:cdA K h27 "Unknown.__init__")
  {f28 h28:Addr}{m28:Value}(a28:fdA K cc_Plus "__init__" f28)(l28:lkA K f28 "__init__" "Pair.__init__" zh1 m28 h28)(c28:cdA K h28 "Pair.__init__")
  {f29 h29:Addr}{m29:Value}(a29:fdA K cc_Minus "__init__" f29)(l29:lkA K f29 "__init__" "Pair.__init__" zhD m29 h29)(c29:cdA K h29 "Pair.__init__")
  {f30 h30:Addr}{m30:Value}(a30:fdA K cc_Times "__init__" f30)(l30:lkA K f30 "__init__" "Pair.__init__" zhu m30 h30)(c30:cdA K h30 "Pair.__init__")
  {f31 h31:Addr}{m31:Value}(a31:nsA K "kind_of" f31)(l31:lkA K f31 "kind_of" "kind_of" zgm m31 h31)(c31:cdA K h31 "kind_of")
  {f32 h32:Addr}{m32:Value}(a32:nsA K "worths" f32)(l32:lkA K f32 "worths" "worths" zgG m32 h32)(c32:cdA K h32 "worths")
  {f33 h33:Addr}{m33:Value}(a33:nsA K "middle" f33)(l33:lkA K f33 "middle" "middle" zht m33 h33)(c33:cdA K h33 "middle")
  {f34 h34:Addr}{m34:Value}(a34:nsA K "middles" f34)(l34:lkA K f34 "middles" "middles" zeR m34 h34)(c34:cdA K h34 "middles")
  {f35 h35:Addr}{m35:Value}(a35:nsA K "box_of_middles" f35)(l35:lkA K f35 "box_of_middles" "box_of_middles" zeu m35 h35)(c35:cdA K h35 "box_of_middles")
  {f36 h36:Addr}{m36:Value}(a36:nsA K "thin_worths" f36)(l36:lkA K f36 "thin_worths" "thin_worths" zhU m36 h36)(c36:cdA K h36 "thin_worths")
  {f37 h37:Addr}{m37:Value}(a37:nsA K "sum_of_products" f37)(l37:lkA K f37 "sum_of_products" "sum_of_products" zia m37 h37)(c37:cdA K h37 "sum_of_products")
  {f38 h38:Addr}{m38:Value}(a38:nsA K "lacking" f38)(l38:lkA K f38 "lacking" "lacking" zfN m38 h38)(c38:cdA K h38 "lacking")
  {f39 h39:Addr}{m39:Value}(a39:nsA K "span_by" f39)(l39:lkA K f39 "span_by" "span_by" zcZ m39 h39)(c39:cdA K h39 "span_by")
  {f40 h40:Addr}{m40:Value}(a40:nsA K "step_by" f40)(l40:lkA K f40 "step_by" "step_by" zga m40 h40)(c40:cdA K h40 "step_by")
  {f41 h41:Addr}{m41:Value}(a41:fdA K cc_Number "slope" f41)(l41:lkA K f41 "slope" "Number.slope" zhT m41 h41)(c41:cdA K h41 "Number.slope")
  {f42 h42:Addr}{m42:Value}(a42:fdA K cc_Unknown "slope" f42)(l42:lkA K f42 "slope" "Unknown.slope" zes m42 h42)(c42:cdA K h42 "Unknown.slope")
  {f43 h43:Addr}{m43:Value}(a43:fdA K cc_Plus "slope_of_both" f43)(l43:lkA K f43 "slope_of_both" "Plus.slope_of_both" zib m43 h43)(c43:cdA K h43 "Plus.slope_of_both")
  {f44 h44:Addr}{m44:Value}(a44:fdA K cc_Plus "slope" f44)(l44:lkA K f44 "slope" "Pair.slope" zf7 m44 h44)(c44:cdA K h44 "Pair.slope")
  {f45 h45:Addr}{m45:Value}(a45:fdA K cc_Minus "slope_of_both" f45)(l45:lkA K f45 "slope_of_both" "Minus.slope_of_both" zhH m45 h45)(c45:cdA K h45 "Minus.slope_of_both")
  {f46 h46:Addr}{m46:Value}(a46:fdA K cc_Minus "slope" f46)(l46:lkA K f46 "slope" "Pair.slope" zfp m46 h46)(c46:cdA K h46 "Pair.slope")
  {f47 h47:Addr}{m47:Value}(a47:fdA K cc_Times "slope_of_both" f47)(l47:lkA K f47 "slope_of_both" "Times.slope_of_both" zhA m47 h47)(c47:cdA K h47 "Times.slope_of_both")
  {f48 h48:Addr}{m48:Value}(a48:fdA K cc_Times "slope" f48)(l48:lkA K f48 "slope" "Pair.slope" zeD m48 h48)(c48:cdA K h48 "Pair.slope")
  {f49 h49:Addr}{m49:Value}(a49:nsA K "scale_span" f49)(l49:lkA K f49 "scale_span" "scale_span" zhn m49 h49)(c49:cdA K h49 "scale_span")
  {f50 h50:Addr}{m50:Value}(a50:fdA K cc_Power "slope" f50)(l50:lkA K f50 "slope" "Power.slope" zex m50 h50)(c50:cdA K h50 "Power.slope")
  {f51 h51:Addr}{m51:Value}(a51:nsA K "slopes" f51)(l51:lkA K f51 "slopes" "slopes" zgq m51 h51)(c51:cdA K h51 "slopes")
  {f52 h52:Addr}{m52:Value}(a52:nsA K "slopes_at" f52)(l52:lkA K f52 "slopes_at" "slopes_at" zgO m52 h52)(c52:cdA K h52 "slopes_at")
  {f53 h53:Addr}{m53:Value}(a53:nsA K "step" f53)(l53:lkA K f53 "step" "step" zid m53 h53)(c53:cdA K h53 "step")
  {f54 h54:Addr}{m54:Value}(a54:nsA K "_law_side" f54)(l54:lkA K f54 "_law_side" "_law_side" zhz m54 h54)(c54:cdA K h54 "_law_side")
  {f55 h55:Addr}{m55:Value}(a55:nsA K "_law_number" f55)(l55:lkA K f55 "_law_number" "_law_number" zhK m55 h55)(c55:cdA K h55 "_law_number")
  {f56 h56:Addr}{m56:Value}(a56:nsA K "_law_put" f56)(l56:lkA K f56 "_law_put" "_law_put" zg8 m56 h56)(c56:cdA K h56 "_law_put")
  {f57 h57:Addr}{m57:Value}(a57:nsA K "_law_grow" f57)(l57:lkA K f57 "_law_grow" "_law_grow" zg5 m57 h57)(c57:cdA K h57 "_law_grow")
  {f58 h58:Addr}{m58:Value}(a58:nsA K "_law_whole" f58)(l58:lkA K f58 "_law_whole" "_law_whole" zgH m58 h58)(c58:cdA K h58 "_law_whole")
  {f59 h59:Addr}{m59:Value}(a59:nsA K "_law_span" f59)(l59:lkA K f59 "_law_span" "_law_span" zgY m59 h59)(c59:cdA K h59 "_law_span")
  {f60 h60:Addr}{m60:Value}(a60:nsA K "_law_spans" f60)(l60:lkA K f60 "_law_spans" "_law_spans" zhR m60 h60)(c60:cdA K h60 "_law_spans")
  {f61 h61:Addr}{m61:Value}(a61:nsA K "_law_holds" f61)(l61:lkA K f61 "_law_holds" "_law_holds" zgJ m61 h61)(c61:cdA K h61 "_law_holds")
  {f62 h62:Addr}{m62:Value}(a62:nsA K "law" f62)(l62:lkA K f62 "law" "law" zbO m62 h62)(c62:cdA K h62 "law")
  (z_range:PySem.W.nsIn K mainGlobals "range"=some none)
  (z_len:PySem.W.nsIn K mainGlobals "len"=some none)
  (z_abs:PySem.W.nsIn K mainGlobals "abs"=some none)
  (z_max:PySem.W.nsIn K mainGlobals "max"=some none)
  (z_min:PySem.W.nsIn K mainGlobals "min"=some none)
  (z_zip:PySem.W.nsIn K mainGlobals "zip"=some none)
  (z_enumerate:PySem.W.nsIn K mainGlobals "enumerate"=some none)
  (z_isinstance:PySem.W.nsIn K mainGlobals "isinstance"=some none)
  (z_bool:PySem.W.nsIn K mainGlobals "bool"=some none)
  (z_int:PySem.W.nsIn K mainGlobals "int"=some none)
  (z_tuple:PySem.W.nsIn K mainGlobals "tuple"=some none)
  (z_list:PySem.W.nsIn K mainGlobals "list"=some none)
  (kit_bool:Kit K "bool")
  (kit_int:Kit K "int")
  (kit_tuple:Kit K "tuple")
  :∃fd:FuncData,(∀(s:Shared) (v:Value),BindsTo s fd ⟨[v],[]⟩ [("_law_script",v)])∧∀base:Heap,K.In base→base.Ns mainGlobals mg→za3 l.prog w K mg base (CXE l.prog w) 8 fa fd ["_law_script"] (upF K zeh):=by
 have e:=hfa.symm.trans (PySem.W.mg_of X G a62)
 cases e
 let C_Number:zbp K mg:=⟨cc_Number,PySem.W.mg_of X G nC_Number,⟨pg_Number,hd_Number,po_Number,sa_Number⟩,nf_Number_bottom,nf_Number_top,mk_Number,kc_Number⟩
 let C_Unknown:zbq K mg:=⟨cc_Unknown,PySem.W.mg_of X G nC_Unknown,⟨pg_Unknown,hd_Unknown,po_Unknown,sa_Unknown⟩,nf_Unknown_place,mk_Unknown,kc_Unknown⟩
 let C_Plus:zbg K mg:=⟨cc_Plus,PySem.W.mg_of X G nC_Plus,⟨pg_Plus,hd_Plus,po_Plus,sa_Plus⟩,nf_Plus_other,nf_Plus_one,mk_Plus,kc_Plus⟩
 let C_Minus:zbj K mg:=⟨cc_Minus,PySem.W.mg_of X G nC_Minus,⟨pg_Minus,hd_Minus,po_Minus,sa_Minus⟩,nf_Minus_other,nf_Minus_one,mk_Minus,kc_Minus⟩
 let C_Times:zbi K mg:=⟨cc_Times,PySem.W.mg_of X G nC_Times,⟨pg_Times,hd_Times,po_Times,sa_Times⟩,nf_Times_other,nf_Times_one,mk_Times,kc_Times⟩
 let C_Power:zbk K mg:=⟨cc_Power,PySem.W.mg_of X G nC_Power,⟨pg_Power,hd_Power,po_Power,sa_Power⟩,nf_Power_many,nf_Power_one,mk_Power,kc_Power⟩
 let d_law_grid:Df K mg "_law_grid" zih zfV:=dfo X G a0 l0 c0 fun _ _ _ _ _ _=>ln1 fun _=>rfl
 let d_law_point:Df K mg "_law_point" zgt zei:=dfo X G a1 l1 c1 fun _ _ _ _ _ _=>ln4 fun _ _ _ _=>rfl
 let d_law_lowest:Df K mg "_law_lowest" zhy zdz:=dfo X G a2 l2 c2 fun _ _ _ _ _ _=>ln2 fun _ _=>rfl
 let d_law_at:Df K mg "_law_at" zh8 zc2:=dfo X G a3 l3 c3 fun _ _ _ _ _ _=>ln2 fun _ _=>rfl
 let d_law_factors:Df K mg "_law_factors" zhl zf5:=dfo X G a4 l4 c4 fun _ _ _ _ _ _=>ln3 fun _ _ _=>rfl
 let d_law_cell:Df K mg "_law_cell" zh7 zc3:=dfo X G a5 l5 c5 fun _ _ _ _ _ _=>ln2 fun _ _=>rfl
 let d_law_sum:Df K mg "_law_sum" zhQ zf8:=dfo X G a6 l6 c6 fun _ _ _ _ _ _=>ln2 fun _ _=>rfl
 let d_law_equations:Df K mg "_law_equations" zic zeE:=dfo X G a7 l7 c7 fun _ _ _ _ _ _=>ln4 fun _ _ _ _=>rfl
 let d_law_turn:Df K mg "_law_turn" zhV zfA:=dfo X G a8 l8 c8 fun _ _ _ _ _ _=>ln2 fun _ _=>rfl
 let d_equation_places:Df K mg "equation_places" ze7 zfi:=dfo X G a9 l9 c9 fun _ _ _ _ _ _=>ln1 fun _=>rfl
 let d_picked:Df K mg "picked" zep zd0:=dfo X G a10 l10 c10 fun _ _ _ _ _ _=>ln2 fun _ _=>rfl
 let d_less:Df K mg "less" zgC zfW:=dfo X G a11 l11 c11 fun _ _ _ _ _ _=>ln2 fun _ _=>rfl
 let d_rounded_up:Df K mg "rounded_up" zhg zcM:=dfo X G a12 l12 c12 fun _ _ _ _ _ _=>ln2 fun _ _=>rfl
 let d_span_of:Df K mg "span_of" zgv zgd:=dfo X G a13 l13 c13 fun _ _ _ _ _ _=>ln3 fun _ _ _=>rfl
 let d_Number_forth:Dm K C_Number.C "forth" "Number.forth" zgz zeK:=dmo a14 l14 c14 fun _ _ _ _ _ _=>ln4 fun _ _ _ _=>rfl
 let d_Unknown_forth:Dm K C_Unknown.C "forth" "Unknown.forth" zho zeO:=dmo a15 l15 c15 fun _ _ _ _ _ _=>ln4 fun _ _ _ _=>rfl
 let d_add_spans:Df K mg "add_spans" zhs zck:=dfo X G a16 l16 c16 fun _ _ _ _ _ _=>ln2 fun _ _=>rfl
 let d_Plus_forth:Dm K C_Plus.C "forth" "Plus.forth" zg7 zfz:=dmo a17 l17 c17 fun _ _ _ _ _ _=>ln4 fun _ _ _ _=>rfl
 let d_take_spans:Df K mg "take_spans" zhP zcC:=dfo X G a18 l18 c18 fun _ _ _ _ _ _=>ln2 fun _ _=>rfl
 let d_Minus_forth:Dm K C_Minus.C "forth" "Minus.forth" zgZ zfw:=dmo a19 l19 c19 fun _ _ _ _ _ _=>ln4 fun _ _ _ _=>rfl
 let d_mul_spans:Df K mg "mul_spans" zhM zco:=dfo X G a20 l20 c20 fun _ _ _ _ _ _=>ln3 fun _ _ _=>rfl
 let d_Times_forth:Dm K C_Times.C "forth" "Times.forth" zhq zfr:=dmo a21 l21 c21 fun _ _ _ _ _ _=>ln4 fun _ _ _ _=>rfl
 let d_raised:Df K mg "raised" zhv zeW:=dfo X G a22 l22 c22 fun _ _ _ _ _ _=>ln2 fun _ _=>rfl
 let d_raise_span:Df K mg "raise_span" zeG zeg:=dfo X G a23 l23 c23 fun _ _ _ _ _ _=>ln3 fun _ _ _=>rfl
 let d_Power_forth:Dm K C_Power.C "forth" "Power.forth" zg3 zem:=dmo a24 l24 c24 fun _ _ _ _ _ _=>ln4 fun _ _ _ _=>rfl
 let d_Power___init__:Dm K C_Power.C "__init__" "Power.__init__" zhF ze2:=dmo a25 l25 c25 fun _ _ _ _ _ _=>ln3 fun _ _ _=>rfl
 let d_Number___init__:Dm K C_Number.C "__init__" "Number.__init__" zgr zeB:=dmo a26 l26 c26 fun _ _ _ _ _ _=>ln3 fun _ _ _=>rfl
 let d_Unknown___init__:Dm K C_Unknown.C "__init__" "Unknown.__init__" zgX zfE:=dmo a27 l27 c27 fun _ _ _ _ _ _=>ln2 fun _ _=>rfl
 let d_Plus___init__:Dm K C_Plus.C "__init__" "Pair.__init__" zh1 zfI:=dmo a28 l28 c28 fun _ _ _ _ _ _=>ln3 fun _ _ _=>rfl
 let d_Minus___init__:Dm K C_Minus.C "__init__" "Pair.__init__" zhD zez:=dmo a29 l29 c29 fun _ _ _ _ _ _=>ln3 fun _ _ _=>rfl
 let d_Times___init__:Dm K C_Times.C "__init__" "Pair.__init__" zhu zfn:=dmo a30 l30 c30 fun _ _ _ _ _ _=>ln3 fun _ _ _=>rfl
 let d_kind_of:Df K mg "kind_of" zgm zdh:=dfo X G a31 l31 c31 fun _ _ _ _ _ _=>ln1 fun _=>rfl
 let d_worths:Df K mg "worths" zgG zdv:=dfo X G a32 l32 c32 fun _ _ _ _ _ _=>ln3 fun _ _ _=>rfl
 let d_middle:Df K mg "middle" zht zfk:=dfo X G a33 l33 c33 fun _ _ _ _ _ _=>ln1 fun _=>rfl
 let d_middles:Df K mg "middles" zeR zeJ:=dfo X G a34 l34 c34 fun _ _ _ _ _ _=>ln1 fun _=>rfl
 let d_box_of_middles:Df K mg "box_of_middles" zeu zdT:=dfo X G a35 l35 c35 fun _ _ _ _ _ _=>ln1 fun _=>rfl
 let d_thin_worths:Df K mg "thin_worths" zhU zfO:=dfo X G a36 l36 c36 fun _ _ _ _ _ _=>ln4 fun _ _ _ _=>rfl
 let d_sum_of_products:Df K mg "sum_of_products" zia zdQ:=dfo X G a37 l37 c37 fun _ _ _ _ _ _=>ln3 fun _ _ _=>rfl
 let d_lacking:Df K mg "lacking" zfN zfZ:=dfo X G a38 l38 c38 fun _ _ _ _ _ _=>ln5 fun _ _ _ _ _=>rfl
 let d_span_by:Df K mg "span_by" zcZ zfU:=dfo X G a39 l39 c39 fun _ _ _ _ _ _=>ln6 fun _ _ _ _ _ _=>rfl
 let d_step_by:Df K mg "step_by" zga zfM:=dfo X G a40 l40 c40 fun _ _ _ _ _ _=>ln5 fun _ _ _ _ _=>rfl
 let d_Number_slope:Dm K C_Number.C "slope" "Number.slope" zhT ze6:=dmo a41 l41 c41 fun _ _ _ _ _ _=>ln5 fun _ _ _ _ _=>rfl
 let d_Unknown_slope:Dm K C_Unknown.C "slope" "Unknown.slope" zes zfs:=dmo a42 l42 c42 fun _ _ _ _ _ _=>ln5 fun _ _ _ _ _=>rfl
 let d_Plus_slope_of_both:Dm K C_Plus.C "slope_of_both" "Plus.slope_of_both" zib zeQ:=dmo a43 l43 c43 fun _ _ _ _ _ _=>ln6 fun _ _ _ _ _ _=>rfl
 let d_Plus_slope:Dm K C_Plus.C "slope" "Pair.slope" zf7 zfd:=dmo a44 l44 c44 fun _ _ _ _ _ _=>ln5 fun _ _ _ _ _=>rfl
 let d_Minus_slope_of_both:Dm K C_Minus.C "slope_of_both" "Minus.slope_of_both" zhH zfc:=dmo a45 l45 c45 fun _ _ _ _ _ _=>ln6 fun _ _ _ _ _ _=>rfl
 let d_Minus_slope:Dm K C_Minus.C "slope" "Pair.slope" zfp zfu:=dmo a46 l46 c46 fun _ _ _ _ _ _=>ln5 fun _ _ _ _ _=>rfl
 let d_Times_slope_of_both:Dm K C_Times.C "slope_of_both" "Times.slope_of_both" zhA ze0:=dmo a47 l47 c47 fun _ _ _ _ _ _=>ln6 fun _ _ _ _ _ _=>rfl
 let d_Times_slope:Dm K C_Times.C "slope" "Pair.slope" zeD zfy:=dmo a48 l48 c48 fun _ _ _ _ _ _=>ln5 fun _ _ _ _ _=>rfl
 let d_scale_span:Df K mg "scale_span" zhn zeX:=dfo X G a49 l49 c49 fun _ _ _ _ _ _=>ln2 fun _ _=>rfl
 let d_Power_slope:Dm K C_Power.C "slope" "Power.slope" zex zfa:=dmo a50 l50 c50 fun _ _ _ _ _ _=>ln5 fun _ _ _ _ _=>rfl
 let d_slopes:Df K mg "slopes" zgq zeV:=dfo X G a51 l51 c51 fun _ _ _ _ _ _=>ln3 fun _ _ _=>rfl
 let d_slopes_at:Df K mg "slopes_at" zgO zeU:=dfo X G a52 l52 c52 fun _ _ _ _ _ _=>ln4 fun _ _ _ _=>rfl
 let d_step:Df K mg "step" zid zfb:=dfo X G a53 l53 c53 fun _ _ _ _ _ _=>ln5 fun _ _ _ _ _=>rfl
 let d_law_side:Df K mg "_law_side" zhz ze9:=dfo X G a54 l54 c54 fun _ _ _ _ _ _=>ln2 fun _ _=>rfl
 let d_law_number:Df K mg "_law_number" zhK zff:=dfo X G a55 l55 c55 fun _ _ _ _ _ _=>ln1 fun _=>rfl
 let d_law_put:Df K mg "_law_put" zg8 zeS:=dfo X G a56 l56 c56 fun _ _ _ _ _ _=>ln4 fun _ _ _ _=>rfl
 let d_law_grow:Df K mg "_law_grow" zg5 zfe:=dfo X G a57 l57 c57 fun _ _ _ _ _ _=>ln4 fun _ _ _ _=>rfl
 let d_law_whole:Df K mg "_law_whole" zgH zf1:=dfo X G a58 l58 c58 fun _ _ _ _ _ _=>ln1 fun _=>rfl
 let d_law_span:Df K mg "_law_span" zgY zeZ:=dfo X G a59 l59 c59 fun _ _ _ _ _ _=>ln1 fun _=>rfl
 let d_law_spans:Df K mg "_law_spans" zhR zew:=dfo X G a60 l60 c60 fun _ _ _ _ _ _=>ln2 fun _ _=>rfl
 let d_law_holds:Df K mg "_law_holds" zgJ zfv:=dfo X G a61 l61 c61 fun _ _ _ _ _ _=>ln3 fun _ _ _=>rfl
 let d_law:Df K mg "law" zbO zh6:=dfo X G a62 l62 c62 fun _ _ _ _ _ _=>ln1 fun _=>rfl
 have z_range:=PySem.W.mg_none_of X G z_range
 have z_len:=PySem.W.mg_none_of X G z_len
 have z_abs:=PySem.W.mg_none_of X G z_abs
 have z_max:=PySem.W.mg_none_of X G z_max
 have z_min:=PySem.W.mg_none_of X G z_min
 have z_zip:=PySem.W.mg_none_of X G z_zip
 have z_enumerate:=PySem.W.mg_none_of X G z_enumerate
 have z_isinstance:=PySem.W.mg_none_of X G z_isinstance
 have z_bool:=PySem.W.mg_none_of X G z_bool
 have z_int:=PySem.W.mg_none_of X G z_int
 have z_tuple:=PySem.W.mg_none_of X G z_tuple
 have z_list:=PySem.W.mg_none_of X G z_list
 refine⟨PySem.W.fnOf "law" "law" (zcN zbO) (zcw zbO) (zaj zbO) .none .none .none m62 none (.ref h62) .none,fun s v=>.of_eq rfl,fun base _ _=>?_⟩
 let G_law_grid:=zrm (P:=l.prog) (w:=w) (base:=base) d_law_grid
 let G_law_point:=zp1 (P:=l.prog) (w:=w) (base:=base) d_law_point z_range z_len
 let G_law_lowest:=zrX (P:=l.prog) (w:=w) (base:=base) d_law_lowest z_abs
 let G_law_at:=zm1 (P:=l.prog) (w:=w) (base:=base) d_law_at
 let G_law_factors:=zmw (P:=l.prog) (w:=w) (base:=base) d_law_factors G_law_at G_law_lowest z_range z_len
 let G_law_cell:=zon (P:=l.prog) (w:=w) (base:=base) d_law_cell z_len
 let G_law_sum:=zmH (P:=l.prog) (w:=w) (base:=base) d_law_sum G_law_at
 let G_law_equations:=zqJ (P:=l.prog) (w:=w) (base:=base) d_law_equations G_law_cell G_law_sum G_law_at z_len z_range
 let G_law_turn:=zpW (P:=l.prog) (w:=w) (base:=base) d_law_turn G_law_cell z_range
 let G_equation_places:=zpM (P:=l.prog) (w:=w) (base:=base) d_equation_places
 let G_picked:=zpI (P:=l.prog) (w:=w) (base:=base) d_picked
 let G_less:=zpB (P:=l.prog) (w:=w) (base:=base) d_less
 let G_rounded_up:=zos (P:=l.prog) (w:=w) (base:=base) d_rounded_up
 let G_span_of:=znP (P:=l.prog) (w:=w) (base:=base) d_span_of G_rounded_up G_less
 let G_Number_forth:=zqT (P:=l.prog) (w:=w) (base:=base) C_Number C_Unknown C_Plus C_Minus C_Times C_Power d_Number_forth G_span_of
 let G_Unknown_forth:=zmy (P:=l.prog) (w:=w) (base:=base) C_Unknown C_Number C_Plus C_Minus C_Times C_Power d_Unknown_forth
 let G_add_spans:=zq7 (P:=l.prog) (w:=w) (base:=base) d_add_spans
 let G_Plus_forth:=zrz (P:=l.prog) (w:=w) (base:=base) C_Plus C_Number C_Unknown C_Minus C_Times C_Power d_Plus_forth G_add_spans
 let G_take_spans:=zqs (P:=l.prog) (w:=w) (base:=base) d_take_spans
 let G_Minus_forth:=znC (P:=l.prog) (w:=w) (base:=base) C_Minus C_Number C_Unknown C_Plus C_Times C_Power d_Minus_forth G_take_spans
 let G_mul_spans:=zqW (P:=l.prog) (w:=w) (base:=base) d_mul_spans G_rounded_up z_max z_min
 let G_Times_forth:=zqL (P:=l.prog) (w:=w) (base:=base) C_Times C_Number C_Unknown C_Plus C_Minus C_Power d_Times_forth G_mul_spans
 let G_raised:=znd (P:=l.prog) (w:=w) (base:=base) d_raised z_range
 let G_raise_span:=zrW (P:=l.prog) (w:=w) (base:=base) d_raise_span G_rounded_up G_raised z_max z_min
 let G_Power_forth:=zpP (P:=l.prog) (w:=w) (base:=base) C_Power C_Number C_Unknown C_Plus C_Minus C_Times d_Power_forth G_raise_span
 let G_Power___init__:=zpS (P:=l.prog) (w:=w) (base:=base) C_Power d_Power___init__
 let G_Number___init__:=zrO (P:=l.prog) (w:=w) (base:=base) C_Number d_Number___init__
 let G_Unknown___init__:=zpN (P:=l.prog) (w:=w) (base:=base) C_Unknown d_Unknown___init__
 let G_Plus___init__:=zrj (P:=l.prog) (w:=w) (base:=base) C_Plus d_Plus___init__
 let G_Minus___init__:=zqq (P:=l.prog) (w:=w) (base:=base) C_Minus d_Minus___init__
 let G_Times___init__:=znX (P:=l.prog) (w:=w) (base:=base) C_Times d_Times___init__
 let G_kind_of:=zpd (P:=l.prog) (w:=w) (base:=base) C_Power C_Times C_Minus C_Plus C_Unknown C_Number d_kind_of G_Power___init__ G_Times___init__ G_Minus___init__ G_Plus___init__ G_Unknown___init__ G_Number___init__
 let G_worths:=zmg (P:=l.prog) (w:=w) (base:=base) C_Power C_Times C_Minus C_Plus C_Unknown C_Number d_worths G_Power_forth G_Times_forth G_Minus_forth G_Plus_forth G_Unknown_forth G_Number_forth G_kind_of
 let G_middle:=zl2 (P:=l.prog) (w:=w) (base:=base) d_middle
 let G_middles:=zlV (P:=l.prog) (w:=w) (base:=base) d_middles G_middle
 let G_box_of_middles:=zme (P:=l.prog) (w:=w) (base:=base) d_box_of_middles G_middles
 let G_thin_worths:=znD (P:=l.prog) (w:=w) (base:=base) d_thin_worths G_picked G_worths G_box_of_middles
 let G_sum_of_products:=zqw (P:=l.prog) (w:=w) (base:=base) d_sum_of_products G_add_spans G_mul_spans z_zip
 let G_lacking:=zps (P:=l.prog) (w:=w) (base:=base) d_lacking G_take_spans G_sum_of_products
 let G_span_by:=zl9 (P:=l.prog) (w:=w) (base:=base) d_span_by G_add_spans G_sum_of_products G_take_spans G_lacking G_box_of_middles z_zip z_range z_len
 let G_step_by:=zpz (P:=l.prog) (w:=w) (base:=base) d_step_by G_span_by z_enumerate
 let G_Number_slope:=zmP (P:=l.prog) (w:=w) (base:=base) C_Number C_Unknown C_Plus C_Minus C_Times C_Power d_Number_slope
 let G_Unknown_slope:=zqz (P:=l.prog) (w:=w) (base:=base) C_Unknown C_Number C_Plus C_Minus C_Times C_Power d_Unknown_slope z_range
 let G_Plus_slope_of_both:=zom (P:=l.prog) (w:=w) (base:=base) C_Plus d_Plus_slope_of_both G_add_spans
 let G_Plus_slope:=znx (P:=l.prog) (w:=w) (base:=base) C_Plus C_Number C_Unknown C_Minus C_Times C_Power d_Plus_slope G_Plus_slope_of_both z_zip
 let G_Minus_slope_of_both:=znF (P:=l.prog) (w:=w) (base:=base) C_Minus d_Minus_slope_of_both G_take_spans
 let G_Minus_slope:=znk (P:=l.prog) (w:=w) (base:=base) C_Minus C_Number C_Unknown C_Plus C_Times C_Power d_Minus_slope G_Minus_slope_of_both z_zip
 let G_Times_slope_of_both:=zpi (P:=l.prog) (w:=w) (base:=base) C_Times d_Times_slope_of_both G_add_spans G_mul_spans
 let G_Times_slope:=zmO (P:=l.prog) (w:=w) (base:=base) C_Times C_Number C_Unknown C_Plus C_Minus C_Power d_Times_slope G_Times_slope_of_both z_zip
 let G_scale_span:=zpY (P:=l.prog) (w:=w) (base:=base) d_scale_span z_max z_min
 let G_Power_slope:=zo7 (P:=l.prog) (w:=w) (base:=base) C_Power C_Number C_Unknown C_Plus C_Minus C_Times d_Power_slope G_mul_spans G_scale_span G_raise_span
 let G_slopes:=zoz (P:=l.prog) (w:=w) (base:=base) C_Power C_Times C_Minus C_Plus C_Unknown C_Number d_slopes G_Power_slope G_Times_slope G_Minus_slope G_Plus_slope G_Unknown_slope G_Number_slope G_kind_of G_worths z_len
 let G_slopes_at:=zqp (P:=l.prog) (w:=w) (base:=base) d_slopes_at G_picked G_slopes
 let G_step:=zm3 (P:=l.prog) (w:=w) (base:=base) d_step G_step_by G_slopes_at G_thin_worths G_equation_places
 let G_law_side:=zlU (P:=l.prog) (w:=w) (base:=base) d_law_side
 let G_law_number:=zra (P:=l.prog) (w:=w) (base:=base) d_law_number G_law_lowest
 let G_law_put:=zlW (P:=l.prog) (w:=w) (base:=base) d_law_put z_len
 let G_law_grow:=zqO (P:=l.prog) (w:=w) (base:=base) d_law_grow G_law_put G_law_number z_len
 let G_law_whole:=zrf (P:=l.prog) (w:=w) (base:=base) d_law_whole z_isinstance z_bool z_int kit_bool kit_int
 let G_law_span:=znO (P:=l.prog) (w:=w) (base:=base) d_law_span G_law_whole z_len z_isinstance z_tuple kit_tuple
 let G_law_spans:=zmt (P:=l.prog) (w:=w) (base:=base) d_law_spans G_law_span z_len z_isinstance z_list
 let G_law_holds:=zmU (P:=l.prog) (w:=w) (base:=base) d_law_holds
 let G_law:=zqu (P:=l.prog) (w:=w) (base:=base) d_law G_law_holds G_law_spans G_step G_law_turn G_law_equations G_law_grow G_law_factors G_law_point G_law_cell G_law_side G_law_grid z_range z_list z_len z_int
 exact G_law.ok
end Mine
open PySem PySem.W PyProof.Rows
set_option maxRecDepth 100003 in
set_option maxHeartbeats 0 in

theorem PySem.Challenge.cw_boxnarrow_k44_step_keeps_answers_holds : PySem.Challenge.rw_boxnarrow_k44_step_keeps_answers.Holds := by
 w_on; o_law
 refine PySem.W.holds_open (q:=Mine.vw) (loose:=[]) (Xt:=Mine.xt) (XP:=XL Mine.vw []) (Yf:=Hook.obs (kHook Mine.kp Mine.ks Mine.zdC)) (Ya:=Hook.val (kHook Mine.kp Mine.ks Mine.zdC))
  (YP:=Hook.says (kHook Mine.kp Mine.ks Mine.zdC)) (N:=9356) Mine.left (Hook.of (kHook Mine.kp Mine.ks Mine.zdC)) (Hook.keeps (kHook Mine.kp Mine.ks Mine.zdC)) (fun s e=>xl_of s (Bool.and_eq_true_iff.mp e).1) XL.keeps
  (by rfl) (by rfl) (by rfl) (fun s e=>recFacts_of (Bool.and_eq_true_iff.mp e).2) (by rfl) (by first | assumption | decide +kernel)
  (by decide +kernel) ⟨rfl,rfl,rfl,rfl,rfl,by decide +kernel⟩ ?hw ?hc
 (case hw=>w_witness2)
 k_fill
 refine L3.zn0 (l:=PySem.Challenge.rw_boxnarrow_k44_step_keeps_answers) (x:="_law_script") 8 rfl rfl ⟨rfl,by decide,by decide⟩ (fun w h Y=>PySem.W.kIn_of Y) ?F
 case F=>
  intro w mg fa h KX G hmg
  refine' Mine.zoe KX G hmg (nC_Number:=?nC_Number) (pg_Number:=?pg_Number) (hd_Number:=?hd_Number) (po_Number:=?po_Number) (sa_Number:=?sa_Number) (mk_Number:=?mk_Number) (kc_Number:=?kc_Number) (nf_Number_bottom:=?nf_Number_bottom) (nf_Number_top:=?nf_Number_top) (nC_Unknown:=?nC_Unknown) (pg_Unknown:=?pg_Unknown) (hd_Unknown:=?hd_Unknown) (po_Unknown:=?po_Unknown) (sa_Unknown:=?sa_Unknown) (mk_Unknown:=?mk_Unknown) (kc_Unknown:=?kc_Unknown) (nf_Unknown_place:=?nf_Unknown_place) (nC_Plus:=?nC_Plus) (pg_Plus:=?pg_Plus) (hd_Plus:=?hd_Plus) (po_Plus:=?po_Plus) (sa_Plus:=?sa_Plus) (mk_Plus:=?mk_Plus) (kc_Plus:=?kc_Plus) (nf_Plus_other:=?nf_Plus_other) (nf_Plus_one:=?nf_Plus_one) (nC_Minus:=?nC_Minus) (pg_Minus:=?pg_Minus) (hd_Minus:=?hd_Minus) (po_Minus:=?po_Minus) (sa_Minus:=?sa_Minus) (mk_Minus:=?mk_Minus) (kc_Minus:=?kc_Minus) (nf_Minus_other:=?nf_Minus_other) (nf_Minus_one:=?nf_Minus_one) (nC_Times:=?nC_Times) (pg_Times:=?pg_Times) (hd_Times:=?hd_Times) (po_Times:=?po_Times) (sa_Times:=?sa_Times) (mk_Times:=?mk_Times) (kc_Times:=?kc_Times) (nf_Times_other:=?nf_Times_other) (nf_Times_one:=?nf_Times_one) (nC_Power:=?nC_Power) (pg_Power:=?pg_Power) (hd_Power:=?hd_Power) (po_Power:=?po_Power) (sa_Power:=?sa_Power) (mk_Power:=?mk_Power) (kc_Power:=?kc_Power) (nf_Power_many:=?nf_Power_many) (nf_Power_one:=?nf_Power_one) (a0:=?a0) (l0:=?l0) (c0:=?c0) (a1:=?a1) (l1:=?l1) (c1:=?c1) (a2:=?a2) (l2:=?l2) (c2:=?c2) (a3:=?a3) (l3:=?l3) (c3:=?c3) (a4:=?a4) (l4:=?l4) (c4:=?c4) (a5:=?a5) (l5:=?l5) (c5:=?c5) (a6:=?a6) (l6:=?l6) (c6:=?c6) (a7:=?a7) (l7:=?l7) (c7:=?c7) (a8:=?a8) (l8:=?l8) (c8:=?c8) (a9:=?a9) (l9:=?l9) (c9:=?c9) (a10:=?a10) (l10:=?l10) (c10:=?c10) (a11:=?a11) (l11:=?l11) (c11:=?c11) (a12:=?a12) (l12:=?l12) (c12:=?c12) (a13:=?a13) (l13:=?l13) (c13:=?c13) (a14:=?a14) (l14:=?l14) (c14:=?c14) (a15:=?a15) (l15:=?l15) (c15:=?c15) (a16:=?a16) (l16:=?l16) (c16:=?c16) (a17:=?a17) (l17:=?l17) (c17:=?c17) (a18:=?a18) (l18:=?l18) (c18:=?c18) (a19:=?a19) (l19:=?l19) (c19:=?c19) (a20:=?a20) (l20:=?l20) (c20:=?c20) (a21:=?a21) (l21:=?l21) (c21:=?c21) (a22:=?a22) (l22:=?l22) (c22:=?c22) (a23:=?a23) (l23:=?l23) (c23:=?c23) (a24:=?a24) (l24:=?l24) (c24:=?c24) (a25:=?a25) (l25:=?l25) (c25:=?c25) (a26:=?a26) (l26:=?l26) (c26:=?c26) (a27:=?a27) (l27:=?l27) (c27:=?c27) (a28:=?a28) (l28:=?l28) (c28:=?c28) (a29:=?a29) (l29:=?l29) (c29:=?c29) (a30:=?a30) (l30:=?l30) (c30:=?c30) (a31:=?a31) (l31:=?l31) (c31:=?c31) (a32:=?a32) (l32:=?l32) (c32:=?c32) (a33:=?a33) (l33:=?l33) (c33:=?c33) (a34:=?a34) (l34:=?l34) (c34:=?c34) (a35:=?a35) (l35:=?l35) (c35:=?c35) (a36:=?a36) (l36:=?l36) (c36:=?c36) (a37:=?a37) (l37:=?l37) (c37:=?c37) (a38:=?a38) (l38:=?l38) (c38:=?c38) (a39:=?a39) (l39:=?l39) (c39:=?c39) (a40:=?a40) (l40:=?l40) (c40:=?c40) (a41:=?a41) (l41:=?l41) (c41:=?c41) (a42:=?a42) (l42:=?l42) (c42:=?c42) (a43:=?a43) (l43:=?l43) (c43:=?c43) (a44:=?a44) (l44:=?l44) (c44:=?c44) (a45:=?a45) (l45:=?l45) (c45:=?c45) (a46:=?a46) (l46:=?l46) (c46:=?c46) (a47:=?a47) (l47:=?l47) (c47:=?c47) (a48:=?a48) (l48:=?l48) (c48:=?c48) (a49:=?a49) (l49:=?l49) (c49:=?c49) (a50:=?a50) (l50:=?l50) (c50:=?c50) (a51:=?a51) (l51:=?l51) (c51:=?c51) (a52:=?a52) (l52:=?l52) (c52:=?c52) (a53:=?a53) (l53:=?l53) (c53:=?c53) (a54:=?a54) (l54:=?l54) (c54:=?c54) (a55:=?a55) (l55:=?l55) (c55:=?c55) (a56:=?a56) (l56:=?l56) (c56:=?c56) (a57:=?a57) (l57:=?l57) (c57:=?c57) (a58:=?a58) (l58:=?l58) (c58:=?c58) (a59:=?a59) (l59:=?l59) (c59:=?c59) (a60:=?a60) (l60:=?l60) (c60:=?c60) (a61:=?a61) (l61:=?l61) (c61:=?c61) (a62:=?a62) (l62:=?l62) (c62:=?c62) (z_range:=?z_range) (z_len:=?z_len) (z_abs:=?z_abs) (z_max:=?z_max) (z_min:=?z_min) (z_zip:=?z_zip) (z_enumerate:=?z_enumerate) (z_isinstance:=?z_isinstance) (z_bool:=?z_bool) (z_int:=?z_int) (z_tuple:=?z_tuple) (z_list:=?z_list) (kit_bool:=?kit_bool) (kit_int:=?kit_int) (kit_tuple:=?kit_tuple)
  (case nC_Number | pg_Number | hd_Number | po_Number | sa_Number | mk_Number | kc_Number | nf_Number_bottom | nf_Number_top | nC_Unknown | pg_Unknown | hd_Unknown | po_Unknown | sa_Unknown | mk_Unknown | kc_Unknown | nf_Unknown_place | nC_Plus | pg_Plus | hd_Plus | po_Plus | sa_Plus | mk_Plus | kc_Plus | nf_Plus_other | nf_Plus_one | nC_Minus | pg_Minus | hd_Minus | po_Minus | sa_Minus | mk_Minus | kc_Minus | nf_Minus_other | nf_Minus_one | nC_Times | pg_Times | hd_Times | po_Times | sa_Times | mk_Times | kc_Times | nf_Times_other | nf_Times_one | nC_Power | pg_Power | hd_Power | po_Power | sa_Power | mk_Power | kc_Power | nf_Power_many | nf_Power_one | z_range | z_len | z_abs | z_max | z_min | z_zip | z_enumerate | z_isinstance | z_bool | z_int | z_tuple | z_list=>k_is)
  (case a0 | a1 | a2 | a3 | a4 | a5 | a6 | a7 | a8 | a9 | a10 | a11 | a12 | a13 | a16 | a18 | a20 | a22 | a23 | a31 | a32 | a33 | a34 | a35 | a36 | a37 | a38 | a39 | a40 | a49 | a51 | a52 | a53 | a54 | a55 | a56 | a57 | a58 | a59 | a60 | a61 | a62=>delta Mine.nsA; k_is)
  (case a14 | a15 | a17 | a19 | a21 | a24 | a25 | a26 | a27 | a28 | a29 | a30 | a41 | a42 | a43 | a44 | a45 | a46 | a47 | a48 | a50=>delta Mine.fdA; k_is)
  (case l0 | l1 | l2 | l3 | l4 | l5 | l6 | l7 | l8 | l9 | l10 | l11 | l12 | l13 | l14 | l15 | l16 | l17 | l18 | l19 | l20 | l21 | l22 | l23 | l24 | l25 | l26 | l27 | l28 | l29 | l30 | l31 | l32 | l33 | l34 | l35 | l36 | l37 | l38 | l39 | l40 | l41 | l42 | l43 | l44 | l45 | l46 | l47 | l48 | l49 | l50 | l51 | l52 | l53 | l54 | l55 | l56 | l57 | l58 | l59 | l60 | l61 | l62=>delta Mine.lkA; k_is)
  (case c0 | c1 | c2 | c3 | c4 | c5 | c6 | c7 | c8 | c9 | c10 | c11 | c12 | c13 | c14 | c15 | c16 | c17 | c18 | c19 | c20 | c21 | c22 | c23 | c24 | c25 | c26 | c27 | c28 | c29 | c30 | c31 | c32 | c33 | c34 | c35 | c36 | c37 | c38 | c39 | c40 | c41 | c42 | c43 | c44 | c45 | c46 | c47 | c48 | c49 | c50 | c51 | c52 | c53 | c54 | c55 | c56 | c57 | c58 | c59 | c60 | c61 | c62=>delta Mine.cdA; k_is)
  (case kit_bool=>exact L3.zjB _ _ (by simp))
  (case kit_int=>exact L3.zjB _ _ (by simp))
  (case kit_tuple=>exact L3.zjB _ _ (by simp))

