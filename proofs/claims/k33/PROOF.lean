import PyProof.Rows.All
import Wide.All
import OpenK.AllK
import Wide.FinOn
import Lean
import PyProof.EqAt
import PyProof.EqKinds
import PyProof.TupleCall
import PySem.Challenge.RW_calmring_k33_nexts
set_option Elab.async false
set_option linter.all false
set_option maxRecDepth 100000
namespace L2
open PySem PySem.Spec PyProof.Rows
abbrev Key:=Sum Int Str
def u_:Key->Value->Bool
 | .inl k,v=>Value.isInt k v
 | .inr x,v=>Value.isStrOf x v
def AR(w:World):Key->Int
 | .inl k=>hashInt k
 | .inr x=>hashStr w x
theorem br:∀{k:Key}{v:Value},u_ k v=true->(∃i t,k=Sum.inl i/\v=Value.int i t)\/(∃x t,k=Sum.inr x/\v=Value.str x t)
 | .inl i,v,h=>by
  obtain⟨t,e⟩:=Value.isInt_shape (k:=i) (v:=v) h
  exact .inl ⟨i,t,rfl,e⟩
 | .inr x,v,h=>by
  obtain⟨t,e⟩:=Value.isStrOf_shape (x:=x) (v:=v) h
  exact .inr ⟨x,t,rfl,e⟩
theorem wA(a b:Int):decide ((Sum.inl a:Key)=Sum.inl b)=(a==b):=by
 by_cases e:a=b
 ·subst e;simp
 ·have h:¬(Sum.inl a:Key)=Sum.inl b:=fun q=>e (Sum.inl.inj q)
  rw[decide_eq_false h]
  exact(beq_eq_false_iff_ne.mpr e).symm
theorem wx(a b:Str):decide ((Sum.inr a:Key)=Sum.inr b)=decide (a=b):=by
 by_cases e:a=b
 ·subst e;simp
 ·have h:¬(Sum.inr a:Key)=Sum.inr b:=fun q=>e (Sum.inr.inj q)
  rw[decide_eq_false h,decide_eq_false e]
theorem wz(a:Int)(b:Str):decide ((Sum.inl a:Key)=Sum.inr b)=false:=decide_eq_false (fun q=>nomatch q)
theorem wy(a:Str)(b:Int):decide ((Sum.inr a:Key)=Sum.inl b)=false:=decide_eq_false (fun q=>nomatch q)
def ko(prog:Program)(w:World):PySem.KeyKind prog w Key where
 is:=u_
 hash:=AR w
 inj:=fun v a b ha hb=>by
  rcases br ha with⟨i,t,rfl,rfl⟩ |⟨x,t,rfl,rfl⟩
  ·rcases br hb with⟨j,u,rfl,e⟩ |⟨y,u,rfl,e⟩
   ·injection e with e1 _;rw[e1]
   ·exact nomatch e
  ·rcases br hb with⟨j,u,rfl,e⟩ |⟨y,u,rfl,e⟩
   ·exact nomatch e
   ·injection e with e1 _;rw[e1]
 byValue:=fun k v h=>by
  rcases br h with⟨i,t,rfl,rfl⟩ |⟨x,t,rfl,rfl⟩<;>rfl
 pyHash:=fun hv h=>by
  rcases br hv with⟨i,t,rfl,rfl⟩ |⟨x,t,rfl,rfl⟩
  ·exact wpAny_pyHash_int h
  ·exact wpAny_pyHash_str h
 eqBool:=fun hu hv h=>by
  rcases br hu with⟨i,t,rfl,rfl⟩ |⟨x,t,rfl,rfl⟩
  ·rcases br hv with⟨j,u,rfl,rfl⟩ |⟨y,u,rfl,rfl⟩
   ·rw[wA]at h;exact wpAny_eqBool_int h
   ·rw[wz]at h;exact SeqAt.EqAt.int_str i t y u _ _ _ _ h
  ·rcases br hv with⟨j,u,rfl,rfl⟩ |⟨y,u,rfl,rfl⟩
   ·rw[wy]at h;exact SeqAt.EqAt.str_int x t j u _ _ _ _ h
   ·rw[wx]at h;exact wpAny_eqBool_str h
 «strs»:=fun k x t v h=>by
  rcases br h with⟨i,u,rfl,e⟩ |⟨y,u,rfl,e⟩
  ·exact nomatch e
  ·injection e with e1 _
   subst e1
   cases v<;>rfl
end L2
namespace L2
open PySem PySem.Spec PyProof.Rows
inductive V where
 | non | bl (b:Bool) | int (i:Int) | str (x:Str) | byt (b:Array UInt8) | flt (b:UInt64) | ref (a:Addr) | ty (n:String)
 deriving DecidableEq
def aT:V->Value->Prop
 | .non,u=>u=Value.none
 | .bl b,u=>u=Value.bool b
 | .int i,u=>∃t,u=Value.int i t
 | .str x,u=>∃t,u=Value.str x t
 | .byt b,u=>∃t,u=Value.bytes b t
 | .flt b,u=>∃t,u=Value.float b t
 | .ref a,u=>u=Value.ref a
 | .ty n,u=>u=Value.type n
abbrev aw:List V->List Value->Prop:=Paired aT
theorem aw.length{xs:List V}{us:List Value}(r:aw xs us):xs.length=us.length:=Paired.length r
theorem aw.get:∀{xs:List V}{us:List Value}{i:Nat}{x:V},aw xs us->xs[i]?=some x->∃u,us[i]?=some u/\aT x u
 | _,_,_,_,.nil,e=>by simp at e
 | _,_,0,_,.cons r _,e=>by simp at e;subst e;exact⟨_,rfl,r⟩
 | _,_,i+1,x,.cons _ t,e=>by
  obtain⟨u,h1,h2⟩:=aw.get (i:=i) (x:=x) t (by simpa using e)
  exact⟨u,by simpa using h1,h2⟩
theorem aw.set{x:V}{u:Value}(r:aT x u):∀{xs:List V}{us:List Value} (i:Nat),aw xs us->aw (xs.set i x) (us.set i u)
 | _,_,_,.nil=>.nil
 | _,_,0,.cons _ t=>.cons r t
 | _,_,i+1,.cons q t=>.cons q (aw.set r i t)
theorem aw.append:∀{xs ys:List V}{us ws:List Value},aw xs us->aw ys ws->aw (xs++ys) (us++ws)
 | _,_,_,_,.nil,s=>s
 | _,_,_,_,.cons r t,s=>.cons r (aw.append t s)
theorem aw.take:∀{xs:List V}{us:List Value} (n:Nat),aw xs us->aw (xs.take n) (us.take n)
 | _,_,0,_ | _,_,_+1,.nil=>.nil
 | _,_,n+1,.cons r t=>.cons r (aw.take n t)
theorem aw.drop:∀{xs:List V}{us:List Value} (n:Nat),aw xs us->aw (xs.drop n) (us.drop n)
 | _,_,0,r=>r
 | _,_,_+1,.nil=>.nil
 | _,_,n+1,.cons _ t=>aw.drop n t
def jC:Option V->Option Value->Prop
 | some v,some u=>aT v u
 | none,none=>True
 | _,_=>False
def KV{κ:Type}:List (κ×V)->List (κ×Value)->Prop:=Paired fun(p:κ×V) (q:κ×Value)=>p.1=q.1/\aT p.2 q.2
def kV:Key->V
 | .inl i=>.int i
 | .inr x=>.str x
inductive HO where
 | lst (xs:List V)
 | tup (xs:List V)
 | dK (kvs:List (Key×V)) | dT (kvs:List (List Key×V))
 | set(S:Int->Bool) (n:Nat)
 | ins (C dx:Addr) (fs:List (Str×V))
 | own (x:Addr)
 | xd (fs:List (Str×V))
 | met (f x:Addr)
 | rng (lo hi:Int)
 | frz (o:Obj) (u:HO)
 | tbl (ps:Array Value)
 | ext (φ:Heap->Prop)
abbrev Hp:=Addr->Option HO
def upd(H:Hp)(a:Addr)(o:HO):Hp:=fun b=>if b=a then some o else H b
theorem aH{H:Hp}{a:Addr}{o:HO}:upd H a o a=some o:=by unfold upd;rw[if_pos rfl]
theorem ar{H:Hp}{a b:Addr}{o:HO}(h:b≠a):upd H a o b=H b:=by unfold upd;rw[if_neg h]
theorem a7{H:Hp}{a b:Addr}{o:HO}(h:H a=some o)(h':H b=none):a≠b:=by
 intro e;subst e;rw[h]at h';cases h'
section
variable(P:Program)(w:World)
def b5(H:Hp)(h:Heap)(a:Addr):HO->Prop
 | .lst xs=>xs.length<=sizeLine/\∃(its:List Value) (n:Nat),aw xs its/\h.get? a=some { cls:=.type "list", data:=.seq its.toArray n }
 | .tup xs=>xs.length<=sizeLine/\∃its:List Value,aw xs its/\IsTup h a its.toArray
 | .dK kvs=>kvs.length<=sizeLine/\(a==sysModules)=false/\∃vs,KV kvs vs/\h.DictOf (ko P w) a vs
 | .dT kvs=>kvs.length<=sizeLine/\(a==sysModules)=false/\∃xs:List (List Key×Addr×Value),
   Paired (fun(p:List Key×V) (q:List Key×Addr×Value)=>p.1=q.1/\H q.2.1=some (.tup (p.1.map kV))/\aT p.2 q.2.2) kvs xs /\
   ∃o es ep,h.get? a=some o/\o.ExactDict/\o.data=.dict es ep/\es.toList=xs.map (entryOfKey (tupleKind (ko P w)))/\(xs.map (·.1)).Nodup
 | .set S n=>h.SetOf (intKind P w) a S n
 | .ins C dx fs=>H dx=some (.own a)/\fs.length<=1000/\dx≠a/\h.get? a=some (PySem.W.instObj C dx)/\
   ∃mA,h.Ns1 dx mA/\(∀f,jC (fs.lookup f) (mA f))/\PySem.Within mA (fs.map (·.1))
 | .own _=>∃o,h.get? a=some o
 | .xd fs=>∃mA,h.Ns1 a mA/\∀f,jC (fs.lookup f) (mA f)
 | .rng lo hi=>∃t u v,h.get? a=some { cls:=.type "range", data:=.fields #[.int lo t,.int hi u,.int 1 v] }
 | .frz o u=>h.get? a=some o/\b5 H h a u
 | .tbl ps=>h.get? a=some { cls:=.none,data:=.fields ps }
 | .met f x=>h.get? a=some (PySem.W.methodObj (.ref f) (.ref x))
 | .ext φ=>φ h/\(∃o,h.get? a=some o)/\∀h1 h2:Heap,φ h1->(∀o,h1.get? a=some o->h2.get? a=some o)->φ h2
def HOk(H:Hp)(h:Heap):Prop:=∀a o,H a=some o->b5 P w H h a o
end
section
variable{P:Program}{w:World}{H H':Hp}{h h':Heap}{a:Addr}{o:HO}
theorem b5.lt(x:b5 P w H h a o):a < h.objs.size:=by
 cases o with
 | lst xs=>obtain⟨_,_,_,_,e⟩:=x;exact Heap.lt_size e
 | tup xs=>obtain⟨_,_,_,p⟩:=x;exact p.lt
 | dK kvs | dT kvs=>obtain⟨_,_,_,_,o,_,_,e,_⟩:=x;exact Heap.lt_size e
 | set S n=>obtain⟨o,_,_,_,e,_⟩:=x;exact Heap.lt_size e
 | ins C dx fs=>obtain⟨_,_,_,e,_⟩:=x;exact Heap.lt_size e
 | own y=>obtain⟨_,e⟩:=x;exact Heap.lt_size e
 | xd fs=>obtain⟨_,⟨_,_,_,e,_⟩,_⟩:=x;exact Heap.lt_size e
 | rng lo hi=>obtain⟨_,_,_,e⟩:=x;exact Heap.lt_size e
 | frz ob u=>obtain⟨e,_⟩:=x;exact Heap.lt_size e
 | tbl ps | met f y=>exact Heap.lt_size (show h.get? a=some _ from x)
 | ext φ=>obtain⟨_,⟨_,e⟩,_⟩:=x;exact Heap.lt_size e
theorem Paired.mapP{α β:Type}{F G:α->β->Prop}:∀{l₁:List α}{l₂:List β},Paired F l₁ l₂->(∀a b,F a b->G a b)->Paired G l₁ l₂
 | _,_,.nil,_=>.nil
 | _,_,.cons r t,f=>.cons (f _ _ r) (Paired.mapP t f)
theorem b5.stay(x:b5 P w H h a o)(k:∀b u,(b=a\/H b=some (.own a))->h.get? b=some u->h'.get? b=some u)
  (ho:∀b,H b=some (.own a)->H' b=some (.own a)) (ht:∀b xs,H b=some (.tup xs)->H' b=some (.tup xs)):b5 P w H' h' a o:=by
 induction o with
 | lst xs=>obtain⟨z,its,n,r,e⟩:=x;exact⟨z,its,n,r,k _ _ (.inl rfl) e⟩
 | tup xs=>obtain⟨z,its,r,ob,e,c⟩:=x;exact⟨z,its,r,ob,k _ _ (.inl rfl) e,c⟩
 | dK kvs=>obtain⟨z,y,vs,r,ob,es,ep,e,c⟩:=x;exact⟨z,y,vs,r,ob,es,ep,k _ _ (.inl rfl) e,c⟩
 | dT kvs =>
  obtain⟨z,y,xs,r,ob,es,ep,e,c⟩:=x
  exact⟨z,y,xs,Paired.mapP r fun p q z=>⟨z.1,ht _ _ z.2.1,z.2.2⟩,ob,es,ep,k _ _ (.inl rfl) e,c⟩
 | set S n=>obtain⟨ob,es,ep,t,e,c⟩:=x;exact⟨ob,es,ep,t,k _ _ (.inl rfl) e,c⟩
 | ins C dx fs =>
  obtain⟨d,z,ne,e,mA,⟨od,es,ep,e2,c⟩,r⟩:=x
  exact⟨ho _ d,z,ne,k _ _ (.inl rfl) e,mA,⟨od,es,ep,k _ _ (.inr d) e2,c⟩,r⟩
 | own y=>obtain⟨ob,e⟩:=x;exact⟨ob,k _ _ (.inl rfl) e⟩
 | xd fs=>obtain⟨mA,⟨od,es,ep,e,c⟩,r⟩:=x;exact⟨mA,⟨od,es,ep,k _ _ (.inl rfl) e,c⟩,r⟩
 | rng lo hi=>obtain⟨t,u,v,e⟩:=x;exact⟨t,u,v,k _ _ (.inl rfl) e⟩
 | frz ob u ih=>obtain⟨e,q⟩:=x;exact⟨k _ _ (.inl rfl) e,ih q⟩
 | tbl ps =>
  have e:h.get? a=some { cls:=.none,data:=.fields ps }:=x
  show h'.get? a=some { cls:=.none,data:=.fields ps }
  exact k a _ (.inl rfl) e
 | met f y =>
  have e:h.get? a=some (PySem.W.methodObj (.ref f) (.ref y)):=x
  show h'.get? a=some (PySem.W.methodObj (.ref f) (.ref y))
  exact k a _ (.inl rfl) e
 | ext φ=>obtain⟨p,⟨o,e⟩,st⟩:=x;exact⟨st _ _ p fun o q=>k _ _ (.inl rfl) q,⟨o,k _ _ (.inl rfl) e⟩,st⟩
theorem HOk.lt(x:HOk P w H h)(e:H a=some o):a < h.objs.size:=(x a o e).lt
theorem HOk.fresh(x:HOk P w H h)(e:h.objs.size<=a):H a=none:=by
 cases q:H a with
 | none=>rfl
 | some u=>exact absurd (Nat.lt_of_lt_of_le (x.lt q) e) (Nat.lt_irrefl _)
theorem HOk.kept(x:HOk P w H h)(k:∀b u,h.get? b=some u->h'.get? b=some u):HOk P w H h':=fun a o e =>
 (x a o e).stay (fun b u _ q=>k b u q) (fun _ q=>q) fun _ _ q=>q
theorem HOk.laid(x:HOk P w H h)(k:∀b u,h.get? b=some u->h'.get? b=some u)(hp:h.objs.size<=a)(new:b5 P w (upd H a o) h' a o):HOk P w (upd H a o) h':=fun b u e=>by
 have hn:=x.fresh hp
 by_cases hb:b=a
 ·subst hb;rw[aH]at e;cases e;exact new
 ·rw[ar hb]at e
  exact(x b u e).stay (fun c v _ q=>k c v q) (fun c q=>by rw[ar (a7 q hn)];exact q) fun c xs q=>by rw[ar (a7 q hn)];exact q
end
def Rd(H:Hp)(a:Addr)(u:HO):Prop:=H a=some u\/∃o,H a=some (.frz o u)
theorem Rd.of{H:Hp}{a:Addr}{u:HO}(h:H a=some u):Rd H a u:=.inl h
theorem Rd.ok{P:Program}{w:World}{H:Hp}{h:Heap}{a:Addr}{u:HO}(r:Rd H a u)(x:HOk P w H h):b5 P w H h a u:=by
 rcases r with r |⟨o,r⟩
 ·exact x a u r
 ·obtain⟨_,q⟩:=x a _ r
  exact q
def Mut:Option HO->Prop
 | some (.lst _) | some (.dK _) | some (.dT _) | some (.set _ _) | some (.ins _ _ _) | some (.ext _)=>True
 | _=>False
section
variable{P:Program}{w:World}{H:Hp}{h h':Heap}{x e:Addr}{o':HO}
theorem HOk.write(ok:HOk P w H h)(mu:Mut (H x))(he:e=x\/H e=some (.own x))(k:∀b u,b≠e->h.get? b=some u->h'.get? b=some u)(heo:∃u,h'.get? e=some u)
  (new:b5 P w (upd H x o') h' x o'):HOk P w (upd H x o') h':=fun b u q=>by
 have nown:∀c y,H c=some (.own y)->c≠x:=fun c y r z=>by subst z;rw[r]at mu;exact mu
 have ntup:∀c xs,H c=some (.tup xs)->c≠x:=fun c xs r z=>by subst z;rw[r]at mu;exact mu
 by_cases hb:b=x
 ·subst hb;rw[aH]at q;cases q;exact new
 ·rw[ar hb]at q
  by_cases hbe:b=e
  ·have q':H b=some (.own x):=by
    rcases he with z | z
    ·exact absurd (hbe.trans z) hb
    ·rw[hbe];exact z
   rw[q]at q';cases q'
   obtain⟨v,hv⟩:=heo
   exact⟨v,by rw[hbe];exact hv⟩
  ·refine(ok b u q).stay (fun c v hc r=>k c v ?_ r) (fun c r=>by rw[ar (nown c b r)];exact r) fun c xs r=>by rw[ar (ntup c xs r)];exact r
   rcases hc with rfl | hc
   ·exact hbe
   ·rintro rfl
    rcases he with z | z
    ·exact nown c b hc z
    ·rw[hc]at z;cases z;exact hb rfl
end
structure Un(fs ex:List Addr)(H H':Hp)(h h':Heap):Prop where
 keep:∀b o,h.get? b=some o->H b=none->b∉fs->b∉ex->h'.get? b=some o
 slot:∀b o,h.get? b=some o->H b=none->b∈fs->b∉ex->∃sl,h'.get? b=some { o with slots:=sl }
 free:∀b o,h.get? b=some o->H b=none->b∉ex->H' b=none
 there:∀b o,h.get? b=some o->b∉ex->∃o',h'.get? b=some o'
 tups:∀b xs,H b=some (.tup xs)->H' b=some (.tup xs)
 frzs:∀b o u,H b=some (.frz o u)->H' b=some (.frz o u)
 tbls:∀b ps,H b=some (.tbl ps)->∃more,H' b=some (.tbl (ps++more))
section
variable{fs fs' ex ex':List Addr}{H H1 H2:Hp}{h h1 h2 h':Heap}{a x e:Addr}{o:HO}
theorem Un.any(u:Un fs ex H H1 h h1){b:Addr}{ob:Obj}(q:h.get? b=some ob)(n:H b=none)(hx:b∉ex):∃sl,h1.get? b=some { ob with slots:=sl }:=by
 by_cases hb:b∈fs
 ·exact u.slot b ob q n hb hx
 ·exact⟨ob.slots,u.keep b ob q n hb hx⟩
theorem Un.trans(a:Un fs ex H H1 h h1)(b:Un fs ex H1 H2 h1 h2):Un fs ex H H2 h h2 where
 keep:=fun c ob q n hc hx=>b.keep c ob (a.keep c ob q n hc hx) (a.free c ob q n hx) hc hx
 slot:=fun c ob q n hc hx=>by
  obtain⟨sl,e1⟩:=a.slot c ob q n hc hx
  obtain⟨sl',e2⟩:=b.slot c _ e1 (a.free c ob q n hx) hc hx
  exact⟨sl',e2⟩
 free:=fun c ob q n hx=>by
  obtain⟨o',e1⟩:=a.there c ob q hx
  exact b.free c o' e1 (a.free c ob q n hx) hx
 there:=fun c ob q hx=>by
  obtain⟨o',e1⟩:=a.there c ob q hx
  exact b.there c o' e1 hx
 tups:=fun c xs q=>b.tups c xs (a.tups c xs q)
 frzs:=fun c ob xs q=>b.frzs c ob xs (a.frzs c ob xs q)
 tbls:=fun c ps q=>by
  obtain⟨m1,e1⟩:=a.tbls c ps q
  obtain⟨m2,e2⟩:=b.tbls c _ e1
  exact⟨m1++m2,by rw[e2,Array.append_assoc]⟩
theorem Un.kept(k:∀b u,h.get? b=some u->h'.get? b=some u):Un fs ex H H h h' :=
 ⟨fun b ob q _ _ _=>k b ob q,fun b ob q _ _ _=>⟨ob.slots,k b ob q⟩,fun _ _ _ n _=>n,fun b ob q _=>⟨ob,k b ob q⟩,fun _ _ q=>q,fun _ _ _ q=>q,fun _ ps q=>⟨#[],by rw[q];simp⟩⟩
theorem Un.refl:Un fs ex H H h h:=Un.kept fun _ _ q=>q
theorem Un.laid(k:∀b u,h.get? b=some u->h'.get? b=some u)(hp:h.objs.size<=a)(hn:H a=none):Un fs ex H (upd H a o) h h' where
 keep:=fun b u q _ _ _=>k b u q
 slot:=fun b u q _ _ _=>⟨u.slots,k b u q⟩
 free:=fun b u q n _=>by rw[ar (Nat.ne_of_lt (Nat.lt_of_lt_of_le (Heap.lt_size q) hp))];exact n
 there:=fun b u q _=>⟨u,k b u q⟩
 tups:=fun b xs q=>by rw[ar (a7 q hn)];exact q
 frzs:=fun b u xs q=>by rw[ar (a7 q hn)];exact q
 tbls:=fun b ps q=>⟨#[],by rw[ar (a7 q hn),q];simp⟩
theorem Un.write(mu:Mut (H x))(he:e=x\/H e=some (.own x))(k:∀b u,b≠e->h.get? b=some u->h'.get? b=some u)(heo:∃u,h'.get? e=some u):Un fs ex H (upd H x o) h h':=by
 have hx:∀b,H b=none->b≠x:=fun b n z=>by subst z;rw[n]at mu;exact mu
 have hb:∀b,H b=none->b≠e:=fun b n z=>by
  subst z
  rcases he with r | r
  ·exact hx b n r
  ·rw[n]at r;cases r
 have hm:∀b u,H b=some u->¬Mut (some u)->b≠x:=fun b u q nm z=>by subst z;rw[q]at mu;exact nm mu
 refine ⟨fun b u q n _ _=>k b u (hb b n) q,fun b u q n _ _=>⟨u.slots,k b u (hb b n) q⟩,fun b u q n _=>by rw [ar (hx b n)];exact n,fun b u q _=>?_,
  fun b xs q=>by rw[ar (hm b _ q fun z=>z)];exact q,fun b u xs q=>by rw[ar (hm b _ q fun z=>z)];exact q,fun b ps q=>⟨#[],by rw[ar (hm b _ q fun z=>z),q];simp⟩⟩
 by_cases hbe:b=e
 ·subst hbe;exact heo
 ·exact⟨u,k b u hbe q⟩
theorem Un.mono(u:Un fs ex H H1 h h1)(hs:∀b∈fs,b∈fs')(hx:∀b∈ex,b∈ex'):Un fs' ex' H H1 h h1 :=
 ⟨fun b ob q n hb he=>u.keep b ob q n (fun z=>hb (hs b z)) fun z=>he (hx b z),fun _ _ q n _ he=>u.any q n fun z=>he (hx _ z),fun b ob q n he=>u.free b ob q n fun z=>he (hx b z),fun b ob q he=>u.there b ob q fun z=>he (hx b z),u.tups,u.frzs,u.tbls⟩
end
def trk(h:Heap)(H:Hp):List Addr:=(List.range h.objs.size).filter fun a=>(H a).isSome
def kA(h:Heap)(H:Hp):Heap:=PySem.W.hideAll h (trk h H)
theorem pL(h:Heap)(H:Hp):(kA h H).objs.size=h.objs.size:=PySem.W.hideAll_size _ _
theorem rE{h:Heap}{H:Hp}{b:Addr}{o:Obj}(e:h.get? b=some o)(n:H b=none):(kA h H).get? b=some o :=
 PySem.W.hideAll_get _ e fun hm=>by
  have q:(H b).isSome=true:=(List.mem_filter.mp hm).2
  rw[n]at q;simp at q
theorem tW{h:Heap}{H:Hp}{b:Addr}{o:Obj}(e:(kA h H).get? b=some o):h.get? b=some o/\H b=none:=by
 have e':h.get? b=some o:=PySem.W.of_hideAll (trk h H) e
 refine⟨e',?_⟩
 cases q:H b with
 | none=>rfl
 | some x =>
  have hm:b∈trk h H:=List.mem_filter.mpr ⟨List.mem_range.mpr (Heap.lt_size e'),by simp[q]⟩
  have z:(kA h H).get? b=none:=PySem.W.hideAll_none (trk h H) hm
  rw[z]at e;cases e
def uG(g h:Heap)(L:Addr):List (Addr×Obj):=(List.range h.objs.size).filterMap fun a=>if a=L \/(g.get? a).isSome=true then none else(h.get? a).map fun o=>(a,o)
def bh(g h:Heap)(L d:Addr):List (Addr×Obj):=(uG g h L).filter fun p=>decide (p.1≠d)
end L2
namespace L2
open PySem PySem.Spec PyProof.Rows
structure Mod(K:PySem.W.Frag)(mg:Str->Option Value)(base:Heap):Prop where
 kin:K.In base
 glob:base.Ns mainGlobals mg
 blt:∃mb,base.Ns builtinsNs mb/\∀x:Str,x≠"__name__" -> mb x=bootBuiltins x
 nolimit:base.NoLimit
structure Cx where
 prog:Program
 w:World
 K:PySem.W.Frag
 mg:Str->Option Value
 base:Heap
 A:Around
 N:List Str
 s₀:Shared
 H₀:Hp
 env:Env
 outer:List Env
 stack:List Env
 ex:List Addr
 fn:Str->Bool
 calm:Bool
 pn:List (Addr×Obj)
 xe:Value->Shared->Prop
def frs(l:List Env):List Addr:=l.filterMap (·.frame)
abbrev Cx.fs(X:Cx):List Addr:=frs X.outer
def Vis(sc:Scope)(x:Str):Prop:=sc.names.lookup x=some .local\/sc.names.lookup x=some .cell\/sc.names.lookup x=some .free
def Loc(sc:Scope)(x:Str):Prop:=sc.names.lookup x=some .local\/sc.names.lookup x=some .cell
def Bc(env:Env)(h:Heap)(m:Str->Option Value)(x:Str)(u:Value):Prop :=
 (env.kindOf x=some .local/\m x=some u)\/((env.kindOf x=some .cell\/env.kindOf x=some .free)/\∃c,env.cells.lookup x=some c/\h.IsCell c (some u))
structure Cx.Ok(X:Cx):Prop where
 mod:Mod X.K X.mg X.base
 kind:X.env.scope.kind=.function
 glob:X.env.globals=mainGlobals
 blt:X.env.builtins=builtinsNs
 above:X.s₀.heap.objs.size<=X.env.locals
 inj:∀x y c,X.env.cells.lookup x=some c->X.env.cells.lookup y=some c->x=y
 has:∀x,(X.env.kindOf x=some .cell\/X.env.kindOf x=some .free)->∃c,X.env.cells.lookup x=some c
 cab:∀x c,X.fn x=true->X.env.cells.lookup x=some c->X.s₀.heap.objs.size<=c
 hd:X.calm=true->X.A.handled=none
 frames:X.A.frames=some X.stack
 stk:X.stack=X.outer \/(X.stack=X.env::X.outer/\X.env.frame=some X.env.locals)
 exf:∀b∈X.ex,b≠X.env.locals/\∀x c,X.env.cells.lookup x=some c->c≠b
 bs:∀b o,X.base.get? b=some o->X.s₀.heap.get? b=some o/\X.H₀ b=none
 bsz:X.base.objs.size<=X.s₀.heap.objs.size
 noex:∀b o,X.base.get? b=some o->b∉X.ex
 exfs:∀b∈X.ex,b∉X.fs
 funs:X.s₀.heap.FunFrames X.base X.outer
 frf:∀b∈X.fs,X.H₀ b=none
structure Inv(X:Cx)(pins:List (Addr×Obj))(σ:List (Option V))(H:Hp)(s:Shared):Prop where
 ok:X.Ok
 os:s.os=X.s₀.os
 bare:AllBare s.gens
 base:Un X.fs X.ex X.H₀ H X.s₀.heap s.heap
 loc:∃m,s.heap.Ns X.env.locals m/\∀(i:Nat) (x:Str) (v:V),X.N[i]?=some x->σ[i]?=some (some v)->Vis X.env.scope x->∃u,aT v u/\Bc X.env s.heap m x u
 cell:∀x c,X.env.cells.lookup x=some c->∃v,s.heap.IsCell c v
 free:H X.env.locals=none
 freeC:∀x c,X.env.cells.lookup x=some c->H c=none
 pin:∀p∈X.pn++pins,s.heap.get? p.1=some p.2/\H p.1=none/\p.1≠X.env.locals/\p.1∉X.fs/\∀v,p.2.data≠.cell v
 hok:HOk X.prog X.w H s.heap
 len:σ.length=X.N.length
section
variable{X:Cx}{pins:List (Addr×Obj)}{σ:List (Option V)}{H H':Hp}{s:Shared}{h':Heap}
theorem Cx.Ok.nofr(ok:X.Ok){b:Addr}{o:Obj}(e:X.base.get? b=some o):b∉X.fs:=fun hb=>by
 have:=(ok.funs.mem hb).1
 rw[e]at this;cases this
theorem Inv.bs(I:Inv X pins σ H s):∀b o,X.base.get? b=some o->s.heap.get? b=some o/\H b=none:=fun b o e =>
 ⟨I.base.keep b o (I.ok.bs b o e).1 (I.ok.bs b o e).2 (I.ok.nofr e) (I.ok.noex b o e),I.base.free b o (I.ok.bs b o e).1 (I.ok.bs b o e).2 (I.ok.noex b o e)⟩
theorem Inv.bk(I:Inv X pins σ H s):∀b o,X.base.get? b=some o->s.heap.get? b=some o:=fun b o e=>(I.bs b o e).1
theorem Inv.mod(I:Inv X pins σ H s):Mod X.K X.mg X.base:=I.ok.mod
theorem Inv.kIn(I:Inv X pins σ H s):X.K.In s.heap:=I.ok.mod.kin.keeps I.bk
theorem Inv.lt(I:Inv X pins σ H s):X.env.locals < s.heap.objs.size:=let⟨_,hn,_⟩:=I.loc;hn.lt
theorem Inv.sz(I:Inv X pins σ H s):X.s₀.heap.objs.size<=s.heap.objs.size:=Nat.le_trans I.ok.above (Nat.le_of_lt I.lt)
theorem Inv.nofs(I:Inv X pins σ H s){a:Addr}(h:s.heap.objs.size<=a):a∉X.fs:=fun hb=>by
 obtain⟨_,o,ho,_⟩:=I.ok.funs.mem hb
 exact absurd (Nat.lt_of_lt_of_le (Heap.lt_size ho) (Nat.le_trans I.sz h)) (Nat.lt_irrefl _)
theorem Inv.cne(I:Inv X pins σ H s):∀x c,X.env.cells.lookup x=some c->c≠X.env.locals:=fun x c e z=>by
 obtain⟨v,o,ho,hd⟩:=I.cell x c e
 obtain⟨m,⟨o',es,ep,ho',hd',_⟩,_⟩:=I.loc
 rw[z,ho']at ho;cases ho;rw[hd']at hd;cases hd
theorem Inv.funs(I:Inv X pins σ H s):s.heap.FunFrames X.base X.outer:=by
 have all:∀(l:List Env),(∀b∈frs l,b∈X.fs)->X.s₀.heap.FunFrames X.base l->s.heap.FunFrames X.base l:=by
  intro l
  induction l with
  | nil=>intro _ _;trivial
  | cons env r ih =>
   intro hs hl
   obtain⟨hk,⟨L,o,hf,hn,ho,hd⟩,hr⟩:=hl
   have hL:L∈X.fs:=hs L (by unfold frs;rw[List.filterMap_cons,hf];exact List.mem_cons_self)
   obtain⟨sl,e⟩:=I.base.slot L o ho (I.ok.frf L hL) hL fun z=>I.ok.exfs L z hL
   exact⟨hk,⟨L,_,hf,hn,e,hd⟩,ih (fun b hb=>hs b (by unfold frs;rw[List.filterMap_cons,hf];exact List.mem_cons_of_mem _ hb)) hr⟩
 exact all X.outer (fun _ hb=>hb) I.ok.funs
theorem Inv.stack(I:Inv X pins σ H s):s.heap.FunFrames X.base X.stack:=by
 rcases I.ok.stk with e |⟨e,hf⟩
 ·rw[e];exact I.funs
 ·rw[e]
  obtain⟨m,hn,_⟩:=I.loc
  refine .cons (by rw[I.ok.kind];decide) hf hn ?_ I.funs
  exact Heap.get?_none_of_le (Nat.le_trans I.ok.bsz I.ok.above)
theorem Inv.stkSub(I:Inv X pins σ H s):∀b∈frs X.stack,b∈X.env.locals::X.fs:=fun b hb=>by
 rcases I.ok.stk with e |⟨e,hf⟩
 ·rw[e]at hb;exact List.mem_cons_of_mem _ hb
 ·rw[e]at hb
  unfold frs at hb
  rw[List.filterMap_cons,hf]at hb
  exact hb
theorem Inv.stkFree(I:Inv X pins σ H s):∀b∈frs X.stack,H b=none:=fun b hb=>by
 rcases List.mem_cons.mp (I.stkSub b hb)with e | hb
 ·rw[e];exact I.free
 ·obtain⟨_,o,ho,_⟩:=I.ok.funs.mem hb
  exact I.base.free b o ho (I.ok.frf b hb) fun z=>I.ok.exfs b z hb
theorem Inv.step{g':Array GenState}{t':Nat}{d':Drawn}{ch:List Addr}(I:Inv X pins σ H s)
  (hch:∀b∈ch,(b∈X.ex\/X.s₀.heap.objs.size<=b)/\b≠X.env.locals/\(∀x c,X.env.cells.lookup x=some c->c≠b)/\∀p∈X.pn++pins,p.1≠b)
  (keep:∀b o,b≠X.env.locals->b∉X.fs->b∉ch->s.heap.get? b=some o->H b=none->h'.get? b=some o)
  (slot:∀b o,b≠X.env.locals->b∈X.fs->b∉ch->s.heap.get? b=some o->H b=none->∃sl,h'.get? b=some { o with slots:=sl }) (free:∀b o,b∉ch->s.heap.get? b=some o->H b=none->H' b=none)
  (there:∀b o,b∉ch->s.heap.get? b=some o->∃o',h'.get? b=some o')
  (tups:∀b xs,H b=some (.tup xs)->H' b=some (.tup xs)) (frzs:∀b o u,H b=some (.frz o u)->H' b=some (.frz o u)) (tbls:∀b ps,H b=some (.tbl ps)->∃more,H' b=some (.tbl (ps++more)))
  (ns:∀m,s.heap.Ns X.env.locals m->h'.Ns X.env.locals m) (hok:HOk X.prog X.w H' h') (hg:AllBare g') :
  Inv X pins σ H' { s with heap:=h',gens:=g',drawn:=d',toks:=t' }:=by
 have neL:∀b o,X.s₀.heap.get? b=some o->b≠X.env.locals:=fun b o e=>Nat.ne_of_lt (Nat.lt_of_lt_of_le (Heap.lt_size e) I.ok.above)
 have neC:∀b o,X.s₀.heap.get? b=some o->b∉X.ex->b∉ch:=fun b o e hx hb=>by
  rcases(hch b hb).1 with z | z
  ·exact hx z
  ·exact absurd (Nat.lt_of_lt_of_le (Heap.lt_size e) z) (Nat.lt_irrefl _)
 have cellK:∀x c,X.env.cells.lookup x=some c->∀v,s.heap.IsCell c v->h'.IsCell c v:=fun x c e v ⟨o,ho,hd⟩=>by
  have nch:c∉ch:=fun z=>(hch c z).2.2.1 x c e rfl
  by_cases hc:c∈X.fs
  ·obtain⟨sl,q⟩:=slot c o (I.cne x c e) hc nch ho (I.freeC x c e)
   exact⟨_,q,hd⟩
  ·exact⟨o,keep c o (I.cne x c e) hc nch ho (I.freeC x c e),hd⟩
 refine⟨I.ok,I.os,hg,⟨fun b o e n hb hx=>?_,fun b o e n hb hx=>?_,fun b o e n hx=>?_,fun b o e hx=>?_,fun b xs e=>tups b xs (I.base.tups b xs e),fun b o xs e=>frzs b o xs (I.base.frzs b o xs e),fun b ps e=>?_⟩,?_,fun x c e=>?_,?_,fun x c e=>?_,fun p hp=>?_,hok,I.len⟩
 ·exact keep b o (neL b o e) hb (neC b o e hx) (I.base.keep b o e n hb hx) (I.base.free b o e n hx)
 ·obtain⟨sl,e1⟩:=I.base.slot b o e n hb hx
  obtain⟨sl',e2⟩:=slot b _ (neL b o e) hb (neC b o e hx) e1 (I.base.free b o e n hx)
  exact⟨sl',e2⟩
 ·obtain⟨o',e1⟩:=I.base.there b o e hx
  exact free b o' (neC b o e hx) e1 (I.base.free b o e n hx)
 ·obtain⟨o',e1⟩:=I.base.there b o e hx
  exact there b o' (neC b o e hx) e1
 ·obtain⟨m1,e1⟩:=I.base.tbls b ps e
  obtain⟨m2,e2⟩:=tbls b _ e1
  exact⟨m1++m2,by rw[e2,Array.append_assoc]⟩
 ·obtain⟨m,hn,hl⟩:=I.loc
  refine⟨m,ns m hn,fun i x v e1 e2 e3=>?_⟩
  obtain⟨u,r,l⟩:=hl i x v e1 e2 e3
  refine⟨u,r,?_⟩
  rcases l with l |⟨k,c,e,z⟩
  ·exact .inl l
  ·exact .inr ⟨k,c,e,cellK x c e _ z⟩
 ·obtain⟨v,z⟩:=I.cell x c e
  exact⟨v,cellK x c e v z⟩
 ·obtain⟨m,⟨o,_,_,ho,_⟩,_⟩:=I.loc
  exact free _ o (fun z=>(hch _ z).2.1 rfl) ho I.free
 ·obtain⟨v,o,ho,hd⟩:=I.cell x c e
  exact free c o (fun z=>(hch c z).2.2.1 x c e rfl) ho (I.freeC x c e)
 ·obtain⟨e,n,ne,nf,d⟩:=I.pin p hp
  have nch:p.1∉ch:=fun z=>(hch p.1 z).2.2.2 p hp rfl
  exact⟨keep p.1 p.2 ne nf nch e n,free p.1 p.2 nch e n,ne,nf,d⟩
theorem Inv.un{t':Nat}(I:Inv X pins σ H s)(u:Un X.fs [] H H' s.heap h')(hok:HOk X.prog X.w H' h'):Inv X pins σ H' { s with heap:=h',toks:=t' }:=by
 obtain⟨m,⟨o,es,ep,ho,r⟩,_⟩:=id I.loc
 obtain⟨sl,hL⟩:=u.any ho I.free (by simp)
 exact I.step (g':=s.gens) (d':=s.drawn) (ch:=[]) (fun _ z=>nomatch z) (fun b o _ hb _ e n=>u.keep b o e n hb (by simp)) (fun b o _ hb _ e n=>u.slot b o e n hb (by simp)) (fun b o _ e n=>u.free b o e n (by simp)) (fun b o _ e=>u.there b o e (by simp)) u.tups u.frzs u.tbls (fun m' hm=>by
  obtain⟨o',es',ep',ho',r'⟩:=hm
  rw[ho]at ho';cases ho'
  exact⟨_,es',ep',hL,r'⟩) hok I.bare
theorem Inv.call{g':Array GenState}{t':Nat}{d':Drawn}{ch:List Addr}(I:Inv X pins σ H s)(u:Un (frs X.stack) ch H H' s.heap h')(hok:HOk X.prog X.w H' h')(hg:AllBare g')
  (hch:∀b∈ch,(b∈X.ex\/X.s₀.heap.objs.size<=b)/\b≠X.env.locals/\(∀x c,X.env.cells.lookup x=some c->c≠b)/\∀p∈X.pn++pins,p.1≠b) :
  Inv X pins σ H' { s with heap:=h',gens:=g',drawn:=d',toks:=t' }:=by
 obtain⟨m,⟨o,es,ep,ho,r⟩,_⟩:=id I.loc
 obtain⟨sl,hL⟩:=u.any ho I.free fun z=>(hch _ z).2.1 rfl
 exact I.step (ch:=ch) hch (fun b o hL hb hc e n=>u.keep b o e n (fun z=>(List.mem_cons.mp (I.stkSub b z)).elim hL hb) hc) (fun b o _ _ hc e n=>u.any e n hc) (fun b o hc e n=>u.free b o e n hc) (fun b o hc e=>u.there b o e hc) u.tups u.frzs u.tbls (fun m' hm=>by
  obtain⟨o',es',ep',ho',r'⟩:=hm
  rw[ho]at ho';cases ho'
  exact⟨_,es',ep',hL,r'⟩) hok hg
theorem Inv.turned{t':Nat}{it:Addr}(I:Inv X pins σ H s)(k:∀b o,b≠it->s.heap.get? b=some o->h'.get? b=some o)(hn:H it=none)(hL:it≠X.env.locals)
  (h1:it∈X.ex\/X.s₀.heap.objs.size<=it) (h2:∀x c,X.env.cells.lookup x=some c->c≠it) (h3:∀p∈X.pn++pins,p.1≠it):Inv X pins σ H { s with heap:=h',toks:=t' }:=by
 have nit:∀b u,H b=some u->b≠it:=fun b u e z=>by rw[z,hn]at e;cases e
 refine I.step (g':=s.gens) (d':=s.drawn) (ch:=[it]) (fun b hb=>?_) (fun b o _ _ hc e _=>k b o (fun z=>hc (by simp[z])) e) (fun b o _ _ hc e _=>⟨o.slots,k b o (fun z=>hc (by simp[z])) e⟩) (fun _ _ _ _ n=>n)
  (fun b o hc e=>⟨o,k b o (fun z=>hc (by simp[z])) e⟩) (fun _ _ e=>e) (fun _ _ _ e=>e) (fun b ps e=>⟨#[],by rw[e];simp⟩) (fun m hm=>?_) (fun b u e=>?_) I.bare
 ·have e:b=it:=by simpa using hb
  subst e
  exact⟨h1,hL,h2,h3⟩
 ·obtain⟨o,es,ep,ho,r⟩:=hm
  exact⟨o,es,ep,k _ o (Ne.symm hL) ho,r⟩
 ·refine(I.hok b u e).stay (fun c v hc q=>k c v ?_ q) (fun _ q=>q) fun _ _ q=>q
  rcases hc with z | z
  ·rw[z];exact nit b u e
  ·exact nit c _ z
theorem Inv.tok(I:Inv X pins σ H s)(t:Nat):Inv X pins σ H { s with toks:=t }:=I.un (h':=s.heap) (t':=t) Un.refl I.hok
theorem Inv.kept{t':Nat}(I:Inv X pins σ H s)(k:∀b u,s.heap.get? b=some u->h'.get? b=some u):Inv X pins σ H { s with heap:=h',toks:=t' }:=I.un (Un.kept k) (I.hok.kept k)
theorem Inv.laid{a:Addr}{o:HO}{t':Nat}(I:Inv X pins σ H s)(k:∀b u,s.heap.get? b=some u->h'.get? b=some u)(hp:s.heap.objs.size<=a)(new:b5 X.prog X.w (upd H a o) h' a o) :
  Inv X pins σ (upd H a o) { s with heap:=h',toks:=t' }:=I.un (Un.laid k hp (I.hok.fresh hp)) (I.hok.laid k hp new)
theorem Inv.write{x e:Addr}{o:HO}{t':Nat}(I:Inv X pins σ H s)(mu:Mut (H x))(he:e=x\/H e=some (.own x))(k:∀b u,b≠e->s.heap.get? b=some u->h'.get? b=some u)(heo:∃u,h'.get? e=some u)
  (new:b5 X.prog X.w (upd H x o) h' x o):Inv X pins σ (upd H x o) { s with heap:=h',toks:=t' }:=I.un (Un.write mu he k heo) (I.hok.write mu he k heo new)
theorem Inv.pins_of{pins':List (Addr×Obj)}(I:Inv X pins σ H s)(h:∀p∈pins',s.heap.get? p.1=some p.2/\H p.1=none/\p.1≠X.env.locals/\p.1∉X.fs/\∀v,p.2.data≠.cell v):Inv X pins' σ H s :=
 ⟨I.ok,I.os,I.bare,I.base,I.loc,I.cell,I.free,I.freeC,fun p hp=>(List.mem_append.mp hp).elim (fun z=>I.pin p (List.mem_append_left _ z)) (h p),I.hok,I.len⟩
theorem lh{N:List Str}(hN:N.Nodup){i j:Nat}{x:Str}(a:N[i]?=some x)(b:N[j]?=some x):i=j:=by
 obtain⟨h1,e1⟩:=List.getElem?_eq_some_iff.mp a
 obtain⟨h2,e2⟩:=List.getElem?_eq_some_iff.mp b
 exact(List.getElem_inj hN).mp (e1.trans e2.symm)
theorem jG{M:Model}{A:Around}{E:Value->Shared->Prop}{i:Nat}{x:Str}{v:V}{u:Value}{Q:Unit->Shared->Prop}(I:Inv X pins σ H s)(hN:X.N.Nodup)(hi:X.N[i]?=some x)(hx:Loc X.env.scope x)(r:aT v u)
  (h:∀s',Inv X pins (σ.set i (some v)) H s'->(∃a,Heap.SameBut a s.heap s'.heap/\(a=X.env.locals\/X.env.cells.lookup x=some a))->Q () s') (hf:X.fn x=true\/X.env.scope.names.lookup x=some .local:=by first | exact .inl rfl | exact .inr rfl | assumption):wpAny M A (storeName X.env x u) Q E s:=by
 obtain⟨m,hn,hl⟩:=id I.loc
 have hcls:(X.env.scope.kind==.class ||(X.env.scope.kind==.module&&X.env.locals != X.env.globals))=false:=by rw[I.ok.kind];rfl
 have hiσ:i < σ.length:=by rw[I.len];exact(List.getElem?_eq_some_iff.mp hi).1
 have cne:=I.cne
 have tracked:∀{a:Addr}{h':Heap},(∃o,s.heap.get? a=some o/\H a=none)->Heap.SameBut a s.heap h'->HOk X.prog X.w H h':=fun {a h'} ha hs b ob e=>by
  obtain⟨_,_,hfree⟩:=ha
  refine(I.hok b ob e).stay (fun c w' hc q=>(hs.2 c ?_).trans q) (fun _ q=>q) fun _ _ q=>q
  rintro rfl
  rcases hc with rfl | hc
  ·rw[hfree]at e;cases e
  ·rw[hfree]at hc;cases hc
 rcases hx with hk | hk
 ·refine wpAny_storeName_local hk hn (fun h' hn' hs=>?_) hcls
  obtain⟨oL,_,_,hoL,_⟩:=id hn
  refine h _ ⟨I.ok,I.os,I.bare,⟨fun b o e n hb hx=>?_,fun b o e n hb hx=>?_,I.base.free,fun b o e hx=>?_,I.base.tups,I.base.frzs,I.base.tbls⟩,⟨_,hn',fun j y v' e1 e2 e3=>?_⟩,fun y c e=>?_,I.free,I.freeC,fun p hp=>?_,tracked ⟨oL,hoL,I.free⟩ hs,by simpa using I.len⟩ ⟨_,hs,.inl rfl⟩
  ·exact(hs.2 b (Nat.ne_of_lt (Nat.lt_of_lt_of_le (Heap.lt_size e) I.ok.above))).trans (I.base.keep b o e n hb hx)
  ·obtain⟨sl,e1⟩:=I.base.slot b o e n hb hx
   exact⟨sl,(hs.2 b (Nat.ne_of_lt (Nat.lt_of_lt_of_le (Heap.lt_size e) I.ok.above))).trans e1⟩
  ·obtain⟨o',e1⟩:=I.base.there b o e hx
   exact⟨o',(hs.2 b (Nat.ne_of_lt (Nat.lt_of_lt_of_le (Heap.lt_size e) I.ok.above))).trans e1⟩
  ·by_cases hj:j=i
   ·subst hj
    rw[hi]at e1;cases e1
    rw[List.getElem?_set_self hiσ]at e2
    cases e2
    exact⟨u,r,.inl ⟨hk,by simp⟩⟩
   ·rw[List.getElem?_set_ne (Ne.symm hj)]at e2
    obtain⟨u',r',q⟩:=hl j y v' e1 e2 e3
    refine⟨u',r',?_⟩
    rcases q with⟨k,e⟩ |⟨k,c,e,z⟩
    ·refine .inl ⟨k,?_⟩
     have:y≠x:=fun e=>hj (lh hN e1 (e▸hi))
     simp[this,e]
    ·exact .inr ⟨k,c,e,z.sameBut hs (cne y c e)⟩
  ·obtain⟨w',z⟩:=I.cell y c e
   exact⟨w',z.sameBut hs (cne y c e)⟩
  ·obtain⟨e,n,ne,nf,d⟩:=I.pin p hp
   exact⟨(hs.2 p.1 ne).trans e,n,ne,nf,d⟩
 ·have hfn:X.fn x=true:=by
   rcases hf with z | z
   ·exact z
   ·rw[z]at hk;cases hk
  obtain⟨c,hc⟩:=I.ok.has x (.inl hk)
  obtain⟨w',z⟩:=I.cell x c hc
  refine wpAny_storeName_cell I.ok.kind hk hc z (fun h' hc' hs=>?_)
  obtain⟨oc,hoc,hocd⟩:=id z
  refine h { s with heap:=h' } ⟨I.ok,I.os,I.bare,⟨fun b o e n hb hx=>?_,fun b o e n hb hx=>?_,I.base.free,fun b o e hx=>?_,I.base.tups,I.base.frzs,I.base.tbls⟩,⟨m,hn.sameBut hs (Ne.symm (cne x c hc)),fun j y v' e1 e2 e3=>?_⟩,fun y c' e=>?_,I.free,I.freeC,fun p hp=>?_,tracked ⟨oc,hoc,I.freeC x c hc⟩ hs,by simpa using I.len⟩ ⟨c,hs,.inr hc⟩
  ·exact(hs.2 b (Nat.ne_of_lt (Nat.lt_of_lt_of_le (Heap.lt_size e) (I.ok.cab x c hfn hc)))).trans (I.base.keep b o e n hb hx)
  ·obtain⟨sl,e1⟩:=I.base.slot b o e n hb hx
   exact⟨sl,(hs.2 b (Nat.ne_of_lt (Nat.lt_of_lt_of_le (Heap.lt_size e) (I.ok.cab x c hfn hc)))).trans e1⟩
  ·obtain⟨o',e1⟩:=I.base.there b o e hx
   exact⟨o',(hs.2 b (Nat.ne_of_lt (Nat.lt_of_lt_of_le (Heap.lt_size e) (I.ok.cab x c hfn hc)))).trans e1⟩
  ·by_cases hj:j=i
   ·subst hj
    rw[hi]at e1;cases e1
    rw[List.getElem?_set_self hiσ]at e2
    cases e2
    exact⟨u,r,.inr ⟨.inl hk,c,hc,hc'⟩⟩
   ·rw[List.getElem?_set_ne (Ne.symm hj)]at e2
    obtain⟨u',r',q⟩:=hl j y v' e1 e2 e3
    refine⟨u',r',?_⟩
    rcases q with q |⟨k,c',e,z'⟩
    ·exact .inl q
    ·refine .inr ⟨k,c',e,z'.sameBut hs ?_⟩
     rintro rfl
     exact hj (lh hN e1 (I.ok.inj _ _ _ e hc▸hi))
  ·by_cases hcc:c'=c
   ·subst hcc;exact⟨_,hc'⟩
   ·obtain⟨w2,z2⟩:=I.cell y c' e
    exact⟨w2,z2.sameBut hs hcc⟩
  ·obtain⟨e,n,ne,nf,d⟩:=I.pin p hp
   refine⟨(hs.2 p.1 ?_).trans e,n,ne,nf,d⟩
   intro q
   rw[q,hoc]at e
   have q':oc=p.2:=Option.some.inj e
   exact d w' (by rw[<- q'];exact hocd)
theorem kQ{M:Model}{A:Around}{E:Value->Shared->Prop}{i:Nat}{x:Str}{v:V}{u:Value}{Q:Unit->Shared->Prop}(I:Inv X pins σ H s)(hN:X.N.Nodup)(hi:X.N[i]?=some x)(hx:Loc X.env.scope x)(r:aT v u)
  (h:∀s',Inv X pins (σ.set i (some v)) H s'->Q () s') (hf:X.fn x=true\/X.env.scope.names.lookup x=some .local:=by first | exact .inl rfl | exact .inr rfl | assumption):wpAny M A (storeName X.env x u) Q E s :=
 jG I hN hi hx r (fun s' I' _=>h s' I') hf
theorem Inv.call'{s':Shared}{ch:List Addr}(I:Inv X pins σ H s)(ho:s'.os=s.os)(u:Un (frs X.stack) ch H H' s.heap s'.heap)(hok:HOk X.prog X.w H' s'.heap)(hg:AllBare s'.gens)
  (hch:∀b∈ch,(b∈X.ex\/X.s₀.heap.objs.size<=b)/\b≠X.env.locals/\(∀x c,X.env.cells.lookup x=some c->c≠b)/\∀p∈X.pn++pins,p.1≠b):Inv X pins σ H' s':=by
 obtain⟨h',g',d',t',o'⟩:=s'
 have e:o'=s.os:=ho
 subst e
 exact I.call (g':=g') (t':=t') (d':=d') u hok hg hch
end
abbrev XK:=Value->Option Addr->Hp->Prop
abbrev St:=List (Option V)
abbrev VK:=V->Hp->Prop
abbrev TE:=St->Hp->VK->Prop
abbrev TT:=St->Hp->(Bool->Hp->Prop)->Prop
abbrev TA:=St->Hp->(List V->Hp->Prop)->Prop
structure Ends where
 nx:St->Hp->Prop
 rt:VK
 bk:St->Hp->Prop:=fun _ _=>False
 ct:St->Hp->Prop:=fun _ _=>False
abbrev TS:=Ends->St->Hp->Prop
def EP(X:Cx)(pins:List (Addr×Obj))(σ:St)(Q:VK)(u:Value)(s':Shared):Prop:=∃v H',Inv X pins σ H' s'/\aT v u/\Q v H'
def TP(X:Cx)(pins:List (Addr×Obj))(σ:St)(Q:Bool->Hp->Prop)(b:Bool)(s':Shared):Prop:=∃H',Inv X pins σ H' s'/\Q b H'
def AP(X:Cx)(pins:List (Addr×Obj))(σ:St)(Q:List V->Hp->Prop)(us:List Value)(s':Shared):Prop:=∃vs H',Inv X pins σ H' s'/\aw vs us/\Q vs H'
def SP(X:Cx)(pins:List (Addr×Obj))(D:Ends)(f:Flow)(s':Shared):Prop :=
 match f with
 | .next=>∃σ' H',Inv X pins σ' H' s'/\D.nx σ' H'
 | .brk=>∃σ' H',Inv X pins σ' H' s'/\D.bk σ' H'
 | .cont=>∃σ' H',Inv X pins σ' H' s'/\D.ct σ' H'
 | .ret u=>∃v σ' H',Inv X pins σ' H' s'/\aT v u/\D.rt v H'
def PE(X:Cx)(e:Expr)(t:TE):Prop :=
 ∀(pins:List (Addr×Obj)) (s:Shared) (σ:St) (H:Hp) (Q:VK),Inv X pins σ H s->t σ H Q->wpAny (model X.prog X.w) X.A (eval e X.env) (EP X pins σ Q) X.xe s
def PT(X:Cx)(e:Expr)(t:TT):Prop :=
 ∀(pins:List (Addr×Obj)) (s:Shared) (σ:St) (H:Hp) (Q:Bool->Hp->Prop),Inv X pins σ H s->t σ H Q->wpAny (model X.prog X.w) X.A (isTrue e X.env (eval e X.env)) (TP X pins σ Q) X.xe s
def PW(X:Cx)(e:Expr)(t:TT):Prop :=
 ∀(whole:Sem Value) (pins:List (Addr×Obj)) (s:Shared) (σ:St) (H:Hp) (Q:Bool->Hp->Prop),Inv X pins σ H s->t σ H Q->wpAny (model X.prog X.w) X.A (isTrue e X.env whole) (TP X pins σ Q) X.xe s
theorem PW.pt{X:Cx}{e:Expr}{t:TT}(h:PW X e t):PT X e t:=h _
def PA(X:Cx)(es:List Expr)(t:TA):Prop :=
 ∀(pos:Pos) (pins:List (Addr×Obj)) (s:Shared) (σ:St) (H:Hp) (Q:List V->Hp->Prop),Inv X pins σ H s->t σ H Q->wpAny (model X.prog X.w) X.A (spliced (backTo pos (starEach es X.env))) (AP X pins σ Q) X.xe s
def PS(X:Cx)(st:Stmt)(t:TS):Prop :=
 ∀(pins:List (Addr×Obj)) (s:Shared) (σ:St) (H:Hp) (D:Ends),Inv X pins σ H s->t D σ H->wpAny (model X.prog X.w) X.A (exec st X.env) (SP X pins D) X.xe s
def PSs(X:Cx)(st:List Stmt)(t:TS):Prop :=
 ∀(pins:List (Addr×Obj)) (s:Shared) (σ:St) (H:Hp) (D:Ends),Inv X pins σ H s->t D σ H->wpAny (model X.prog X.w) X.A (execs st X.env) (SP X pins D) X.xe s
theorem thn{α:Type}{t:Sem α}{Q Q':α->Shared->Prop}{M:Model}{A:Around}{E:Value->Shared->Prop}{s:Shared}(h:wpAny M A t Q E s)(hQ:∀a s,Q a s->Q' a s):wpAny M A t Q' E s:=wpAny_mono h hQ fun _ _ x=>x
end L2
namespace L2
open PySem PySem.Spec PyProof.Rows
section
variable{X:Cx}
theorem bin{a b:Expr}{ta tb:TE}(ha:PE X a ta)(hb:PE X b tb){pins:List (Addr×Obj)}{s:Shared}{σ:St}{H:Hp}{R:V->V->Hp->Prop}(I:Inv X pins σ H s)(h:ta σ H fun x H1=>tb σ H1 fun y H2=>R x y H2)
  {α:Type}{Q:α->Shared->Prop}{f:Value->Value->Sem α}
  (hf:∀v u s2 x y H2,Inv X pins σ H2 s2->aT x v->aT y u->R x y H2->wpAny (model X.prog X.w) X.A (f v u) Q X.xe s2) :
  wpAny (model X.prog X.w) X.A (eval a X.env) (fun v s₁=>wpAny (model X.prog X.w) X.A (eval b X.env) (fun u s₂=>wpAny (model X.prog X.w) X.A (f v u) Q X.xe s₂) X.xe s₁) X.xe s:=by
 refine thn (ha pins s σ H _ I h) fun v s1 ⟨x,H1,I1,r1,q1⟩=>?_
 refine thn (hb pins s1 σ H1 _ I1 q1) fun u s2 ⟨y,H2,I2,r2,q2⟩=>?_
 exact hf v u s2 x y H2 I2 r1 r2 q2
def oW(i:Nat):TE:=fun σ H Q=>∃v,σ[i]?=some (some v)/\Q v H
def tC(v:V):TE:=fun _ H Q=>Q v H
theorem bM{i:Nat}{x:Str}{pos:Pos}(hN:X.N[i]?=some x)(hv:Vis X.env.scope x)(hd:(x ==("__debug__" : Str))=false:=by decide)(hcd:(x ==("__classdict__" : Str))=false:=by decide):PE X (.Name x pos) (oW i):=by
 intro pins s σ H Q I h
 obtain⟨v,e,h⟩:=h
 obtain⟨m,hn,hl⟩:=I.loc
 obtain⟨u,r,l⟩:=hl i x v hN e hv
 have fin:EP X pins σ Q u s:=⟨v,H,I,r,h⟩
 rcases l with⟨hk,hm⟩ |⟨hk,c,hc,hcell⟩
 ·exact wpAny_Name (wpAny_loadName_local I.ok.kind hk hn hm fin) hd
 ·rcases hk with hk | hk
  ·exact wpAny_Name (wpAny_loadName_cell I.ok.kind hk hc hcell fin) hd
  ·exact wpAny_Name (wpAny_loadName_free I.ok.kind hk hc hcell fin hcd) hd
theorem mP{i j pos}:PE X (.Constant (.int i) j pos) (tC (.int i)):=fun _ _ _ H _ I h=>wpAny_Constant_int ⟨.int i,H,I.tok _,⟨_,rfl⟩,h⟩
theorem uT{b j pos}:PE X (.Constant (.bool b) j pos) (tC (.bl b)):=fun _ _ _ H _ I h=>Constant_bool ⟨.bl b,H,I,rfl,h⟩
theorem v3{j pos}:PE X (.Constant .none j pos) (tC .non):=fun _ _ _ H _ I h=>Constant_none ⟨.non,H,I,rfl,h⟩
theorem vX{x j pos}:PE X (.Constant (.str x) j pos) (tC (.str x)):=fun _ _ _ H _ I h=>Calls.Constant_str ⟨.str x,H,I.tok _,⟨_,rfl⟩,h⟩
def Gl(X:Cx)(x:Str):Prop:=X.env.kindOf x=some .globalImplicit
theorem el{E:Value->Shared->Prop}{pins:List (Addr×Obj)}{s:Shared}{σ:St}{H:Hp}{x:Str}{u:Value}{pos:Pos}{Q:Value->Shared->Prop}(I:Inv X pins σ H s)(hg:Gl X x)(hm:X.mg x=some u)(h:Q u s)
  (hd:(x ==("__debug__" : Str))=false:=by decide):wpAny (model X.prog X.w) X.A (eval (.Name x pos) X.env) Q E s :=
 Calls.Name_function_global I.ok.kind hg (Calls.loadGlobal_global (by rw[I.ok.glob];exact I.mod.glob.keeps I.bk) hm h) hd
theorem i6{E:Value->Shared->Prop}{pins:List (Addr×Obj)}{s:Shared}{σ:St}{H:Hp}{x:Str}{u:Value}{pos:Pos}{Q:Value->Shared->Prop}(I:Inv X pins σ H s)(hg:Gl X x)(hm:X.mg x=none)(hv:bootBuiltins x=some u)(h:Q u s)
  (hn:x≠"__name__" := by decide) (hd:(x ==("__debug__" : Str))=false:=by decide):wpAny (model X.prog X.w) X.A (eval (.Name x pos) X.env) Q E s:=by
 obtain⟨mb,h1,h2⟩:=I.mod.blt
 exact Calls.Name_function_global I.ok.kind hg (Calls.loadGlobal_builtin (by rw[I.ok.glob];exact I.mod.glob.keeps I.bk) hm (by rw[I.ok.blt];exact h1.keeps I.bk) ((h2 x hn).trans hv) h) hd
theorem kh{x:Str}{v:V}{u:Value}{pos:Pos}(hg:Gl X x)(hm:X.mg x=some u)(r:aT v u)(hd:(x ==("__debug__" : Str))=false:=by decide):PE X (.Name x pos) (tC v) :=
 fun _ _ _ H _ I h=>el I hg hm ⟨v,H,I,r,h⟩ hd
theorem tQ{x:Str}{v:V}{u:Value}{pos:Pos}(hg:Gl X x)(hm:X.mg x=none)(hv:bootBuiltins x=some u)(r:aT v u)(hn:x≠"__name__" := by decide)(hd:(x ==("__debug__" : Str))=false:=by decide):PE X (.Name x pos) (tC v) :=
 fun _ _ _ H _ I h=>i6 I hg hm hv ⟨v,H,I,r,h⟩ hn hd
variable{a b:Expr}{ta tb:TE}{pos:Pos}
variable{tA tB':TT}{bh:List Expr}
def AB(t u:TT):TT:=fun σ H Q=>t σ H fun c H1=>if c=true then u σ H1 Q else Q false H1
def tOr(t u:TT):TT:=fun σ H Q=>t σ H fun c H1=>if c=true then Q true H1 else u σ H1 Q
def Aw(t:TT):TT:=fun σ H Q=>t σ H fun c H1=>Q (!c) H1
theorem tB(ha:PT X a tA):PW X (.BoolOp .And [a] pos) tA:=by
 intro wh pins s σ H Q I h
 refine isTrue_and (thn (ha pins s σ H Q I h) fun c s1 e=>?_)
 cases c with
 | true=>exact isTrue_and_nil e
 | false=>exact e
theorem vR(ha:PT X a tA):PW X (.BoolOp .Or [a] pos) tA:=by
 intro wh pins s σ H Q I h
 refine isTrue_or (thn (ha pins s σ H Q I h) fun c s1 e=>?_)
 cases c with
 | false=>exact isTrue_or_nil e
 | true=>exact e
theorem vS(ha:PT X a tA)(hb:PW X (.BoolOp .And (b::bh) pos) tB'):PW X (.BoolOp .And (a::b::bh) pos) (AB tA tB'):=by
 intro wh pins s σ H Q I h
 refine isTrue_and (thn (ha pins s σ H _ I h) fun c s1 ⟨H1,I1,q1⟩=>?_)
 cases c with
 | true=>exact hb wh pins s1 σ H1 Q I1 q1
 | false=>exact⟨H1,I1,q1⟩
theorem yC(ha:PT X a tA)(hb:PW X (.BoolOp .Or (b::bh) pos) tB'):PW X (.BoolOp .Or (a::b::bh) pos) (tOr tA tB'):=by
 intro wh pins s σ H Q I h
 refine isTrue_or (thn (ha pins s σ H _ I h) fun c s1 ⟨H1,I1,q1⟩=>?_)
 cases c with
 | true=>exact⟨H1,I1,q1⟩
 | false=>exact hb wh pins s1 σ H1 Q I1 q1
theorem vT(ha:PT X a tA):PT X (.UnaryOp .Not a pos) (Aw tA):=by
 intro pins s σ H Q I h
 exact isTrue_not (ha pins s σ H (fun c H1=>Q (!c) H1) I h)
def yx(ta tb:TE):TE:=fun σ H Q=>ta σ H fun x H1=>∃c,x=.bl c/\if c=true then tb σ H1 Q else Q (.bl false) H1
def yq(ta:TE):TE:=fun σ H Q=>ta σ H fun x H1=>∃c,x=.bl c/\Q (.bl (!c)) H1
theorem vY{op}{t:TE}(h:PE X a t):PE X (.BoolOp op [a] pos) t:=fun pins s σ H Q I hw=>BoolOp_one (h pins s σ H Q I hw)
theorem v6(ha:PE X a ta)(hb:PE X (.BoolOp .And (b::bh) pos) tb):PE X (.BoolOp .And (a::b::bh) pos) (yx ta tb):=by
 intro pins s σ H Q I h
 refine BoolOp_and (thn (ha pins s σ H _ I h) fun v s1 ⟨x,H1,I1,r1,q1⟩=>?_)
 obtain⟨c,rfl,q1⟩:=q1
 cases r1
 refine wpAny_truthy_bool ?_
 cases c with
 | true=>exact hb pins s1 σ H1 Q I1 q1
 | false=>exact⟨.bl false,H1,I1,rfl,q1⟩
theorem vZ(ha:PE X a ta):PE X (.UnaryOp .Not a pos) (yq ta):=by
 intro pins s σ H Q I h
 refine UnaryOp_ (thn (ha pins s σ H _ I h) fun v s1 ⟨x,H1,I1,r1,q1⟩=>?_)
 obtain⟨c,rfl,q1⟩:=q1
 cases r1
 exact not_of (wpAny_truthy_bool ⟨.bl (!c),H1,I1,rfl,q1⟩)
def tIf(t:TT)(ta tb:TE):TE:=fun σ H Q=>t σ H fun c H1=>if c=true then ta σ H1 Q else tb σ H1 Q
theorem qL{c:Expr}(hc:PT X c tA)(ha:PE X a ta)(hb:PE X b tb):PE X (.IfExp c a b pos) (tIf tA ta tb):=by
 intro pins s σ H Q I h
 refine wpAny_IfExp (thn (hc pins s σ H _ I h) fun d s1 ⟨H1,I1,q1⟩=>?_)
 cases d with
 | true=>exact ha pins s1 σ H1 Q I1 q1
 | false=>exact hb pins s1 σ H1 Q I1 q1
end
end L2
namespace L2
open PySem PySem.Spec PyProof.Rows
def SqL(K:PySem.W.Frag)(H:Hp)(a:Addr)(xs:List V):Prop :=
 Rd H a (.lst xs)\/
  ∃(o:Obj) (its:Array Value) (n:Nat),K.lookup a=some o/\o.cls=.type "list" /\ o.dict=none/\o.data=.seq its n/\its.size<=sizeLine/\aw xs its.toList
def SqT(K:PySem.W.Frag)(H:Hp)(a:Addr)(xs:List V):Prop :=
 Rd H a (.tup xs)\/
  ∃(o:Obj) (its:Array Value) (n:Nat),K.lookup a=some o/\o.cls=.type "tuple" /\ o.data=.seq its n/\its.size<=sizeLine/\aw xs its.toList
def A_:Value->Option V
 | .none=>some .non
 | .bool b=>some (.bl b)
 | .int i _=>some (.int i)
 | .str x _=>some (.str x)
 | .bytes b _=>some (.byt b)
 | .float b _=>some (.flt b)
 | .ref a=>some (.ref a)
 | .type n=>some (.ty n)
 | _=>none
theorem aT.abs{x:V}{u:Value}(r:aT x u):A_ u=some x:=by
 cases x with
 | non | bl _=>cases r;rfl
 | int _ | str _ | byt _ | flt _=>obtain⟨t,rfl⟩:=r;rfl
 | ref _ | ty _=>cases r;rfl
theorem aT.inj{x y:V}{u:Value}(r:aT x u)(q:aT y u):x=y:=Option.some.inj (r.abs.symm.trans q.abs)
theorem aw.inj:∀{xs ys:List V}{us:List Value},aw xs us->aw ys us->xs=ys
 | _,_,_,.nil,.nil=>rfl
 | _,_,_,.cons r t,.cons r' t'=>by rw[r.inj r',aw.inj t t']
section
variable{X:Cx}{pins:List (Addr×Obj)}{σ:St}{H:Hp}{s:Shared}{a:Addr}{xs ys:List V}
theorem SqL.of{K:PySem.W.Frag}(h:H a=some (.lst xs)):SqL K H a xs:=.inl (.inl h)
theorem SqT.of{K:PySem.W.Frag}(h:H a=some (.tup xs)):SqT K H a xs:=.inl (.inl h)
theorem Inv.list(I:Inv X pins σ H s)(h:SqL X.K H a xs):∃its:List Value,aw xs its/\PlainL s.heap a its.toArray/\xs.length<=sizeLine:=by
 rcases h with h |⟨o,its,n,hk,hc,hd,hs,hz,r⟩
 ·obtain⟨z,its,n,r,e⟩:=h.ok I.hok
  exact⟨its,r,⟨_,n,e,rfl,rfl,rfl⟩,z⟩
 ·refine⟨its.toList,r,⟨o,n,I.kIn a o hk,hc,hd,by simpa using hs⟩,?_⟩
  have e:=r.length
  simp only[Array.length_toList]at e
  omega
theorem Inv.tuple(I:Inv X pins σ H s)(h:SqT X.K H a xs):∃its:List Value,aw xs its/\IsTup s.heap a its.toArray/\xs.length<=sizeLine:=by
 rcases h with h |⟨o,its,n,hk,hc,hs,hz,r⟩
 ·obtain⟨z,its,r,p⟩:=h.ok I.hok
  exact⟨its,r,p,z⟩
 ·refine⟨its.toList,r,⟨o,I.kIn a o hk,hc,n,by simpa using hs⟩,?_⟩
  have e:=r.length
  simp only[Array.length_toList]at e
  omega
theorem Inv.list_inj(I:Inv X pins σ H s)(h:SqL X.K H a xs)(h':SqL X.K H a ys):xs=ys:=by
 obtain⟨its,r,⟨o,n,e,_,_,d⟩,_⟩:=I.list h
 obtain⟨its',r',⟨o',n',e',_,_,d'⟩,_⟩:=I.list h'
 rw[e]at e';cases e'
 rw[d]at d'
 injection d' with d1 _
 have:its=its':=by simpa using congrArg Array.toList d1
 subst this
 exact r.inj r'
theorem Inv.tuple_inj(I:Inv X pins σ H s)(h:SqT X.K H a xs)(h':SqT X.K H a ys):xs=ys:=by
 obtain⟨its,r,⟨o,e,_,n,d⟩,_⟩:=I.tuple h
 obtain⟨its',r',⟨o',e',_,n',d'⟩,_⟩:=I.tuple h'
 rw[e]at e';cases e'
 rw[d]at d'
 injection d' with d1 _
 have:its=its':=by simpa using congrArg Array.toList d1
 subst this
 exact r.inj r'
end
abbrev Cx.wish(X:Cx)(E:Value->Shared->Prop):Cx:={ X with xe:=E }
abbrev Cx.nox(X:Cx):Cx:=X.wish fun _ _=>False
theorem Cx.Ok.wish{X:Cx}(ok:X.Ok)(E:Value->Shared->Prop):(X.wish E).Ok :=
 ⟨ok.mod,ok.kind,ok.glob,ok.blt,ok.above,ok.inj,ok.has,ok.cab,ok.hd,ok.frames,ok.stk,ok.exf,ok.bs,ok.bsz,ok.noex,ok.exfs,ok.funs,ok.frf⟩
theorem Cx.Ok.unwish{X:Cx}{E:Value->Shared->Prop}(ok:(X.wish E).Ok):X.Ok :=
 ⟨ok.mod,ok.kind,ok.glob,ok.blt,ok.above,ok.inj,ok.has,ok.cab,ok.hd,ok.frames,ok.stk,ok.exf,ok.bs,ok.bsz,ok.noex,ok.exfs,ok.funs,ok.frf⟩
section
variable{X:Cx}{pins:List (Addr×Obj)}{σ:St}{H:Hp}{s:Shared}{E:Value->Shared->Prop}
theorem Inv.wish(I:Inv X pins σ H s)(E:Value->Shared->Prop):Inv (X.wish E) pins σ H s:=⟨I.ok.wish E,I.os,I.bare,I.base,I.loc,I.cell,I.free,I.freeC,I.pin,I.hok,I.len⟩
theorem Inv.unwish(I:Inv (X.wish E) pins σ H s):Inv X pins σ H s:=⟨I.ok.unwish,I.os,I.bare,I.base,I.loc,I.cell,I.free,I.freeC,I.pin,I.hok,I.len⟩
theorem SP.unwish{D:Ends}{f:Flow}{s':Shared}(h:SP (X.wish E) pins D f s'):SP X pins D f s':=by
 cases f with
 | next | brk | cont=>obtain⟨σ',H',I,q⟩:=h;exact⟨σ',H',I.unwish,q⟩
 | ret u=>obtain⟨v,σ',H',I,r,q⟩:=h;exact⟨v,σ',H',I.unwish,r,q⟩
theorem PE.nox{e:Expr}{t:TE}(h:PE X.nox e t):PE X e t:=fun pins s σ H Q I hw =>
 wpAny_mono (h pins s σ H Q (I.wish _) hw) (fun _ _ ⟨v,H',I',r,q⟩=>⟨v,H',I'.unwish,r,q⟩) fun _ _ z=>False.elim z
theorem PT.nox{e:Expr}{t:TT}(h:PT X.nox e t):PT X e t:=fun pins s σ H Q I hw =>
 wpAny_mono (h pins s σ H Q (I.wish _) hw) (fun _ _ ⟨H',I',q⟩=>⟨H',I'.unwish,q⟩) fun _ _ z=>False.elim z
theorem PSs.nox{st:List Stmt}{t:TS}(h:PSs X.nox st t):PSs X st t:=fun pins s σ H D I hw =>
 wpAny_mono (h pins s σ H D (I.wish _) hw) (fun _ _ q=>q.unwish) fun _ _ z=>False.elim z
end
section
variable{X:Cx}{st:Stmt}{bh:List Stmt}{t u:TS}{e:Expr}{te:TE}{pos:Pos}
def yr:TS:=fun D σ H=>D.nx σ H
def Au(t u:TS):TS:=fun D σ H=>t { D with nx:=u D } σ H
theorem tD:PSs X [] yr:=fun _ _ σ H _ I h=>wpAny_execs_nil ⟨σ,H,I,h⟩
theorem k7(h1:PS X st t)(h2:PSs X bh u):PSs X (st::bh) (Au t u):=by
 intro pins s σ H D I h
 refine wpAny_execs_cons (thn (h1 pins s σ H { D with nx:=u D } I h) fun f s1 q=>?_)
 cases f with
 | next =>
  obtain⟨σ',H',I',q⟩:=q
  exact h2 pins s1 σ' H' D I' q
 | ret v | brk | cont=>exact q
theorem nX(h1:PS X st t):PSs X [st] t:=by
 intro pins s σ H D I h
 refine wpAny_execs_cons (thn (h1 pins s σ H D I h) fun f s1 q=>?_)
 cases f with
 | next=>exact wpAny_execs_nil q
 | ret v | brk | cont=>exact q
theorem Inv.quiet{pins:List (Addr×Obj)}{σ:St}{H:Hp}{s:Shared}(I:Inv X pins σ H s):interactive X.env=false:=by simp[interactive,I.ok.kind]
def yu(te:TE):TS:=fun D σ H=>te σ H fun _ H1=>D.nx σ H1
theorem ff(he:PE X e te)(hs:swapsWith e none pos.line X.env=pure false:=by rfl):PS X (.Expr e pos) (yu te):=by
 intro pins s σ H D I h
 exact wpAny_Expr_any (thn (he pins s σ H _ I h) fun v s1 ⟨x,H1,I1,r1,q1⟩=>⟨σ,H1,I1,q1⟩) I.quiet hs
def Av(te:TE):TS:=fun D σ H=>te σ H D.rt
theorem iP(he:PE X e te):PS X (.Return (some e) pos) (Av te):=by
 intro pins s σ H D I h
 exact wpAny_Return_some (thn (he pins s σ H _ I h) fun v s1 ⟨x,H1,I1,r1,q1⟩=>⟨x,σ,H1,I1,r1,q1⟩)
def yo:TS:=fun D _ H=>D.rt .non H
theorem tH:PS X (.Return none pos) yo:=fun _ _ σ H _ I h=>wpAny_Return_none ⟨.non,σ,H,I,rfl,h⟩
def Ay(c:TT)(t u:TS):TS:=fun D σ H=>c σ H fun b H1=>if b=true then t D σ H1 else u D σ H1
theorem yD{c:Expr}{a b:List Stmt}{tc:TT}(hc:PT X c tc)(ha:PSs X a t)(hb:PSs X b u):PS X (.If c a b pos) (Ay tc t u):=by
 intro pins s σ H D I h
 refine wpAny_If (thn (hc pins s σ H _ I h) fun d s1 ⟨H1,I1,q1⟩=>?_)
 cases d with
 | true=>exact ha pins s1 σ H1 D I1 q1
 | false=>exact hb pins s1 σ H1 D I1 q1
end
abbrev TG:=V->St->Hp->(St->Hp->Prop)->Prop
abbrev TGs:=List V->St->Hp->(St->Hp->Prop)->Prop
def PG(X:Cx)(target:Expr)(t:TG):Prop :=
 ∀(pins:List (Addr×Obj)) (s:Shared) (σ:St) (H:Hp) (v:V) (u:Value) (Q:St->Hp->Prop),Inv X pins σ H s->aT v u->t v σ H Q ->
  wpAny (model X.prog X.w) X.A (assign target X.env u) (fun _ s'=>∃σ' H',Inv X pins σ' H' s'/\Q σ' H') X.xe s
def PGs(X:Cx)(ts:List Expr)(t:TGs):Prop :=
 ∀(pins:List (Addr×Obj)) (s:Shared) (σ:St) (H:Hp) (vs:List V) (us:List Value) (Q:St->Hp->Prop),Inv X pins σ H s->aw vs us->t vs σ H Q ->
  wpAny (model X.prog X.w) X.A (assignInOrder ((assignEach ts X.env).map (·.2)) us) (fun _ s'=>∃σ' H',Inv X pins σ' H' s'/\Q σ' H') X.xe s
abbrev xF:=V->V->V->Hp->(Hp->Prop)->Prop
def zF(X:Cx)(t:xF):Prop :=
 ∀(pins:List (Addr×Obj)) (s:Shared) (σ:St) (H:Hp) (o i v:V) (ov iv u:Value) (Q:Hp->Prop),Inv X pins σ H s->aT o ov->aT i iv->aT v u->t o i v H Q ->
  wpAny (model X.prog X.w) X.A (setItem ov iv u) (fun _ s'=>∃H',Inv X pins σ H' s'/\Q H') X.xe s
section
variable{X:Cx}{pos:Pos}
def oG(i:Nat):TG:=fun v σ H Q=>Q (σ.set i (some v)) H
theorem gc{i:Nat}{x:Str}(hN:X.N.Nodup)(hi:X.N[i]?=some x)(hx:Loc X.env.scope x)(hf:X.fn x=true\/X.env.scope.names.lookup x=some .local:=by first | exact .inl rfl | exact .inr rfl | assumption):PG X (.Name x pos) (oG i):=by
 intro pins s σ H v u Q I r h
 exact wpAny_assign_Name (kQ I hN hi hx r (fun s' I'=>⟨_,H,I',h⟩) hf)
def AX:TGs:=fun vs σ H Q=>vs=[]/\Q σ H
def zr(t:TG)(u:TGs):TGs:=fun vs σ H Q=>∃v r,vs=v::r/\t v σ H fun σ' H'=>u r σ' H' Q
theorem n4:PGs X [] AX:=by
 intro pins s σ H vs us Q I r h
 obtain⟨e,h⟩:=h
 subst e
 cases r
 exact assignInOrder_nil ⟨σ,H,I,h⟩
theorem iR{e:Expr}{es:List Expr}{t:TG}{u:TGs}(h1:PG X e t)(h2:PGs X es u)
  (hs:(assignEach (e::es) X.env).map (·.2)=assign e X.env::(assignEach es X.env).map (·.2):=by rfl):PGs X (e::es) (zr t u):=by
 intro pins s σ H vs us Q I r h
 obtain⟨v,vr,e1,h⟩:=h
 subst e1
 cases r with
 | cons r rr =>
  rw[hs]
  refine assignInOrder_cons (thn (h1 pins s σ H _ _ _ I r h) fun _ s1 ⟨σ1,H1,I1,q1⟩=>?_)
  exact h2 pins s1 σ1 H1 _ _ Q I1 rr q1
def AV(K:PySem.W.Frag)(n:Nat)(t:TGs):TG:=fun v σ H Q=>∃a xs,v=.ref a/\SqT K H a xs/\xs.length=n/\t xs σ H Q
theorem qK{es:List Expr}{k:Nat}{t:TGs}{n:Nat}(hc:X.calm=true)(h:PGs X es t)
  (hn:(assignEach es X.env).length=n:=by rfl) (hst:(assignEach es X.env).findIdx? (·.1)=none:=by rfl):PG X (.Tuple es k pos) (AV X.K n t):=by
 intro pins s σ H v u Q I r hw
 obtain⟨a,xs,e1,hq,hl,hw⟩:=hw
 subst e1
 cases r
 obtain⟨its,rv,ht,hz⟩:=I.tuple hq
 refine assign_Tuple_tuple (I.ok.hd hc) ht (by simp[hn,<- hl,rv.length]) hst fun h' hx=>?_
 have I1:Inv X pins σ H { s with heap:=h' }:=I.kept (t':=s.toks) fun b o e=>hx b o (Nat.ne_of_lt (Heap.lt_size e)) e
 exact h pins _ σ H xs _ Q I1 (by simpa using rv) hw
def AW(to ti:TE)(t:xF):TG:=fun v σ H Q=>to σ H fun o H1=>ti σ H1 fun i H2=>t o i v H2 fun H3=>Q σ H3
theorem vW{o i:Expr}{to ti:TE}{t:xF}(ho:PE X o to)(hi:PE X i ti)(hs:zF X t)
  (ha:∀ v,assign (.Subscript o i pos) X.env v=(do
   let ov <- holding [v] (eval o X.env)
   let iv <- holding [v,ov] (eval i X.env)
   standAt pos
   holding [v,ov,iv] (setItem ov iv v)
   release [v,ov,iv] []):=by intro _;rfl):PG X (.Subscript o i pos) (AW to ti t):=by
 intro pins s σ H v u Q I r h
 rw[ha]
 refine wpAny_bind (wpAny_holding (thn (ho pins s σ H _ I h) fun ov s1 ⟨x,H1,I1,r1,q1⟩=>?_))
 refine wpAny_bind (wpAny_holding (thn (hi pins s1 σ H1 _ I1 q1) fun iv s2 ⟨y,H2,I2,r2,q2⟩=>?_))
 refine wpAny_bind (wpAny_standAt (wpAny_bind (wpAny_holding (thn (hs pins s2 σ H2 x y v ov iv u _ I2 r1 r2 r q2) fun _ s3 ⟨H3,I3,q3⟩=>?_))))
 exact wpAny_release ⟨σ,H3,I3,q3⟩
def yw(te:TE)(g:TG):TS:=fun D σ H=>te σ H fun x H1=>g x σ H1 D.nx
theorem qD{tg e:Expr}{te:TE}{g:TG}(he:PE X e te)(hg:PG X tg g)(hs:swapsWithSole [tg] e pos.line X.env=pure false:=by rfl)(hw:swappedStores [tg] e X.env=pure none:=by rfl)
  (h1:(assignEach [tg] X.env).map (·.2)=[assign tg X.env]:=by rfl):PS X (.Assign [tg] e pos) (yw te g):=by
 intro pins s σ H D I h
 refine wpAny_Assign_stores (thn (he pins s σ H _ I h) fun v s1 ⟨x,H1,I1,r1,q1⟩=>?_) hs hw
 rw[h1]
 exact thn (hg pins s1 σ H1 x v _ I1 r1 q1) fun _ s2 q=>q
theorem qB{i:Nat}{x:Str}{e:Expr}{te:TE}{pos':Pos}(hN:X.N.Nodup)(hi:X.N[i]?=some x)(hx:Loc X.env.scope x)(he:PE X e te)(hs:swapsWith e (some (.Name x pos')) pos.line X.env=pure false:=by rfl)(hf:X.fn x=true\/X.env.scope.names.lookup x=some .local:=by first | exact .inl rfl | exact .inr rfl | assumption) :
  PS X (.Assign [.Name x pos'] e pos) (yw te (oG i)):=by
 intro pins s σ H D I h
 refine wpAny_Assign_Name (thn (he pins s σ H _ I h) fun v s1 ⟨y,H1,I1,r1,q1⟩=>?_) hs
 exact kQ I1 hN hi hx r1 (fun s2 I2=>⟨_,H1,I2,q1⟩) hf
end
structure It where
 go:Nat->Hp->Prop
 yld:Nat->Hp->V->Hp->Prop
 stop:Nat->Hp->Prop
def ij(X:Cx)(pins:List (Addr×Obj))(H:Hp)(b:Addr):Prop :=
 H b=none/\b≠X.env.locals/\b∉X.fs/\(b∈X.ex\/X.s₀.heap.objs.size<=b)/\(∀x c,X.env.cells.lookup x=some c->c≠b)/\∀p∈X.pn++pins,p.1≠b
theorem Inv.fpOk{X:Cx}{pins:List (Addr×Obj)}{σ:St}{H H':Hp}{s:Shared}{b:Addr}(I:Inv X pins σ H s)(hb:s.heap.objs.size<=b)(hn:H' b=none):ij X pins H' b:=by
 refine⟨hn,Nat.ne_of_gt (Nat.lt_of_lt_of_le I.lt hb),I.nofs hb,.inr (Nat.le_trans I.sz hb),fun x c e z=>?_,fun p hp z=>?_⟩
 ·obtain⟨v,q⟩:=I.cell x c e
  exact absurd (Nat.lt_of_lt_of_le q.lt (by rw[z];exact hb)) (Nat.lt_irrefl _)
 ·exact absurd (Nat.lt_of_lt_of_le (Heap.lt_size (I.pin p hp).1) (by rw[z];exact hb)) (Nat.lt_irrefl _)
structure sB(P:Program)(w:World)(K:PySem.W.Frag)(tg:Expr)(J:It)(fp:List Addr)(it:Addr)(tn:Nat->Heap->Prop):Prop where
 mem:it∈fp
 obj:∀i h,tn i h->∀b∈fp,∃o,h.get? b=some o/\∀v,o.data≠.cell v
 keep:∀i h h',tn i h->(∀b∈fp,∀o,h.get? b=some o->h'.get? b=some o)->tn i h'
 item:∀(X:Cx),X.prog=P->X.w=w->X.K=K->X.calm=true->∀(i:Nat) (pins:List (Addr×Obj)) (s:Shared) (σ:St) (H:Hp) (E:Value->Shared->Prop),Inv X pins σ H s->(∀b∈fp,ij X pins H b)->tn i s.heap->J.go i H ->
  wpAny (model P w) X.A (pyNext (.ref it)) (fun r s1=>∃ u,r=some u /\
   wpAny (model P w) X.A (letOwnedTupleGo tg (.ref it) u) (fun _ s2=>∃x H',Inv X pins σ H' s2/\aT x u/\J.yld i H x H'/\tn (i+1) s2.heap/\∀b∈fp,H' b=none) E s1) E s
 done:∀(X:Cx),X.prog=P->X.w=w->X.K=K->X.calm=true->∀(i:Nat) (pins:List (Addr×Obj)) (s:Shared) (σ:St) (H:Hp) (E:Value->Shared->Prop),Inv X pins σ H s->(∀b∈fp,ij X pins H b)->tn i s.heap->J.stop i H ->
  wpAny (model P w) X.A (pyNext (.ref it)) (fun r s1=>r=none/\Inv X pins σ H s1) E s
 self:∀(A:Around) (i:Nat) (s:Shared) (Q:Value->Shared->Prop) (E:Value->Shared->Prop),tn i s.heap->Q (.ref it) s->wpAny (model P w) A (pyIter (.ref it)) Q E s
abbrev TI:=St->Hp->(It->Hp->Prop)->Prop
def PIE(X:Cx)(pins:List (Addr×Obj))(σ:St)(tg:Expr)(R:It->Hp->Prop)(itv:Value)(s2:Shared):Prop :=
 ∃(it:Addr) (fp:List Addr) (tn:Nat->Heap->Prop) (J:It) (H':Hp),itv=.ref it/\Inv X pins σ H' s2/\sB X.prog X.w X.K tg J fp it tn/\tn 0 s2.heap/\(∀b∈fp,ij X pins H' b)/\R J H'
def PI(X:Cx)(tg iter:Expr)(wi:TI):Prop :=
 ∀(pins:List (Addr×Obj)) (s:Shared) (σ:St) (H:Hp) (R:It->Hp->Prop),Inv X pins σ H s->wi σ H R ->
  wpAny (model X.prog X.w) X.A (eval iter X.env) (fun v s1=>wpAny (model X.prog X.w) X.A (pyIter v) (PIE X pins σ tg R) X.xe s1) X.xe s
theorem rF{M:Model}{A:Around}{E:Value->Shared->Prop}{s:Shared}{tg:Expr}{it:Addr}{u:Value}{o:Obj}{n:String}{vs:Array Value}{Q:Unit->Shared->Prop}(ho:s.heap.get? it=some o)(hc:o.cls=.type n)(hd:o.data=.fields vs)
    (hn:["enumerate", "zip", "dict_itemiterator", "dict_reverseitemiterator", "odict_iterator", "itertools.zip_longest", "itertools.pairwise"].contains n=false) (hQ:Q () s):wpAny M A (letOwnedTupleGo tg (.ref it) u) Q E s:=by
  unfold letOwnedTupleGo
  cases tg<;>first
    | exact wpAny_pure hQ
    | (cases u <;> first
        | exact wpAny_pure hQ
        | (refine wpAny_bind (wpAny_load ho ?_)
           rw[hc,hd]
           show wpAny M A (if(["enumerate", "zip", "dict_itemiterator", "dict_reverseitemiterator", "odict_iterator", "itertools.zip_longest", "itertools.pairwise"].contains n&&vs[0]?==some (rawInt _))=true then _ else _) Q E s
           rw[if_neg (by intro h;rw[hn,Bool.false_and]at h;cases h)]
           exact wpAny_pure hQ))
def Itl(K:PySem.W.Frag)(a:Addr):It :=
 ⟨fun i H=>∃xs x,SqL K H a xs/\xs[i]?=some x,fun i H x H'=>H'=H/\∀xs,SqL K H a xs->xs[i]?=some x,fun i H=>∃xs,SqL K H a xs/\xs.length<=i⟩
def Itt(K:PySem.W.Frag)(a:Addr):It :=
 ⟨fun i H=>∃xs x,SqT K H a xs/\xs[i]?=some x,fun i H x H'=>H'=H/\∀xs,SqT K H a xs->xs[i]?=some x,fun i H=>∃xs,SqT K H a xs/\xs.length<=i⟩
def Itr(lo:Int)(n:Nat):It:=⟨fun i _=>i < n,fun i H x H'=>H'=H/\x=.int (lo+i),fun i _=>n<=i⟩
theorem oT{P:Program}{w:World}{K:PySem.W.Frag}{tg:Expr}(a it:Addr):sB P w K tg (Itl K a) [it] it (fun i h=>h.IsListIter it a i) where
 mem:=by simp
 obj:=fun i h st b hb=>by
  have e:b=it:=by simpa using hb
  subst e
  obtain⟨o,e,c,d⟩:=st
  exact⟨o,e,fun v z=>by rw[d]at z;cases z⟩
 keep:=fun i h h' st k=>st.at fun o e=>k it (by simp) o e
 item:=by
  intro X hP hw hK hc i pins s σ H E I hf st hg
  subst hP hw hK
  obtain⟨xs,x,hq,hx⟩:=hg
  obtain⟨its,rv,p,hz⟩:=I.list hq
  obtain⟨u,hu,ru⟩:=rv.get hx
  obtain⟨f0,f1,f2,f3,f4,f5⟩:=hf it (by simp)
  refine wpAny_pyNext_list_item st p.isList (x:=u) (by simpa using hu) fun h' st' sb=>?_
  have I1:Inv X pins σ H { s with heap:=h' }:=I.turned (t':=s.toks) (fun b o hb e=>(sb.2 b hb).trans e) f0 f1 f3 f4 f5
  obtain⟨o,e,c,d⟩:=id st'
  exact⟨u,rfl,rF (s:={ s with heap:=h' }) e c d (by decide) ⟨x,H,I1,ru,⟨rfl,fun ys hy=>by rw[I.list_inj hy hq];exact hx⟩,st',fun b hb=>(hf b hb).1⟩⟩
 done:=by
  intro X hP hw hK hc i pins s σ H E I hf st hg
  subst hP hw hK
  obtain⟨xs,hq,hx⟩:=hg
  obtain⟨its,rv,p,hz⟩:=I.list hq
  obtain⟨f0,f1,f2,f3,f4,f5⟩:=hf it (by simp)
  have hl:=rv.length
  exact wpAny_pyNext_list_end (I.ok.hd hc) st p.isList (by simp;omega) fun h' eb=>⟨rfl,I.turned (t':=s.toks) (fun b o hb e=>eb b o hb e) f0 f1 f3 f4 f5⟩
 self:=fun _ _ _ _ _ st h=>wpAny_pyIter_listiter st h
theorem mf{P:Program}{w:World}{K:PySem.W.Frag}{tg:Expr}(a it:Addr):sB P w K tg (Itt K a) [it] it (fun i h=>h.IsTupleIter it a i) where
 mem:=by simp
 obj:=fun i h st b hb=>by
  have e:b=it:=by simpa using hb
  subst e
  obtain⟨o,e,c,d⟩:=st
  exact⟨o,e,fun v z=>by rw[d]at z;cases z⟩
 keep:=fun i h h' st k=>st.at fun o e=>k it (by simp) o e
 item:=by
  intro X hP hw hK hc i pins s σ H E I hf st hg
  subst hP hw hK
  obtain⟨xs,x,hq,hx⟩:=hg
  obtain⟨its,rv,p,hz⟩:=I.tuple hq
  obtain⟨u,hu,ru⟩:=rv.get hx
  obtain⟨f0,f1,f2,f3,f4,f5⟩:=hf it (by simp)
  refine wpAny_pyNext_tuple_item st (show s.heap.IsTuple a its.toArray from p) (x:=u) (by simpa using hu) fun h' st' sb=>?_
  have I1:Inv X pins σ H { s with heap:=h' }:=I.turned (t':=s.toks) (fun b o hb e=>(sb.2 b hb).trans e) f0 f1 f3 f4 f5
  obtain⟨o,e,c,d⟩:=id st'
  exact⟨u,rfl,rF (s:={ s with heap:=h' }) e c d (by decide) ⟨x,H,I1,ru,⟨rfl,fun ys hy=>by rw[I.tuple_inj hy hq];exact hx⟩,st',fun b hb=>(hf b hb).1⟩⟩
 done:=by
  intro X hP hw hK hc i pins s σ H E I hf st hg
  subst hP hw hK
  obtain⟨xs,hq,hx⟩:=hg
  obtain⟨its,rv,p,hz⟩:=I.tuple hq
  obtain⟨f0,f1,f2,f3,f4,f5⟩:=hf it (by simp)
  have hl:=rv.length
  exact wpAny_pyNext_tuple_end (I.ok.hd hc) st (show s.heap.IsTuple a its.toArray from p) (by simp;omega) fun h' eb=>⟨rfl,I.turned (t':=s.toks) (fun b o hb e=>eb b o hb e) f0 f1 f3 f4 f5⟩
 self:=fun _ _ _ _ _ st h=>wpAny_pyIter_tupleiter st h
theorem mj{P:Program}{w:World}{K:PySem.W.Frag}{tg:Expr}(it:Addr)(lo:Int)(n:Nat):sB P w K tg (Itr lo n) [it] it (fun i h=>IsRangeIter h it (lo+(i:Nat) * 1) ((n:Int) - (i:Nat)) 1) where
 mem:=by simp
 obj:=fun i h st b hb=>by
  have e:b=it:=by simpa using hb
  subst e
  exact ⟨_,st,fun v z=>by
   have z':Data.fields _=Data.cell v:=z
   cases z'⟩
 keep:=fun i h h' st k=>k it (by simp) _ st
 item:=by
  intro X hP hw hK hc i pins s σ H E I hf st hg
  subst hP hw hK
  obtain⟨f0,f1,f2,f3,f4,f5⟩:=hf it (by simp)
  have W:=Walks.range (prog:=X.prog) (w:=X.w) (I.ok.hd hc) it lo 1 n
  refine W.item i s _ _ hg st fun v h' tk hv st' kk=>?_
  obtain⟨t,rfl⟩:=hv
  have I1:Inv X pins σ H { s with heap:=h',toks:=tk }:=I.turned (fun b o hb e=>kk b o (by simpa using hb) e) f0 f1 f3 f4 f5
  refine⟨_,rfl,rF (s:={ s with heap:=h',toks:=tk }) (n := "range_iterator") st' rfl rfl (by decide) ⟨.int (lo+i),H,I1,⟨t,?_⟩,⟨rfl,rfl⟩,st',fun b hb=>(hf b hb).1⟩⟩
  rw[Int.mul_one]
 done:=by
  intro X hP hw hK hc i pins s σ H E I hf st hg
  subst hP hw hK
  obtain⟨f0,f1,f2,f3,f4,f5⟩:=hf it (by simp)
  exact wpAny_pyNext_range_end (I.ok.hd hc) st (by have:n<=i:=hg;omega) fun h' eb=>⟨rfl,I.turned (t':=s.toks) (fun b o hb e=>eb b o hb e) f0 f1 f3 f4 f5⟩
 self:=fun _ _ _ _ _ st h=>wpAny_pyIter_rangeiter st h
end L2
namespace L2
open PySem PySem.Spec PyProof.Rows
section
variable{X:Cx}{tg:Expr}
theorem qx{pins:List (Addr×Obj)}{σ:St}{H:Hp}{s:Shared}{R:It->Hp->Prop}{E:Value->Shared->Prop}{lo hi:Int}{t u v:Tok}{tk:Nat}(I:Inv X pins σ H s)(h1:-(2 ^ 62)<= lo)(h2:lo < 2 ^ 62)(h3:-(2 ^ 62)<= hi)(h4:hi < 2 ^ 62)
  (q:R (Itr lo (hi - lo).toNat) H):wpAny (model X.prog X.w) X.A (pyIter (.ref s.heap.objs.size)) (PIE X pins σ tg R) E { s with heap:=s.heap.push { cls:=.type "range", data:=.fields #[.int lo t,.int hi u,.int 1 v] },toks:=tk }:=by
 refine wpAny_pyIter_range (IsRange.new ..) (small_one h1 h2 h3 h4) ?_
 have I1:Inv X pins σ H { s with heap:=s.heap.push { cls:=.type "range", data:=.fields #[.int lo t,.int hi u,.int 1 v] },toks:=tk }:=I.kept fun b o e=>Heap.get?_push_of_some _ e
 refine ⟨(s.heap.push { cls:=.type "range", data:=.fields #[.int lo t,.int hi u,.int 1 v] }).objs.size,[(s.heap.push { cls:=.type "range", data:=.fields #[.int lo t,.int hi u,.int 1 v] }).objs.size],_,_,H,rfl,
  I1.kept (t':=tk) fun b o e=>Heap.get?_push_of_some _ e,mj _ lo (hi - lo).toNat,?_,fun b hb=>?_,q⟩
 ·have e1:lo+((0:Nat):Int) * 1=lo:=by simp
  have e2:(((hi - lo).toNat:Nat):Int) - ((0:Nat):Int)=Builtin.Range.rangeSize lo hi 1:=by rw[rangeSize_one];split<;>omega
  show IsRangeIter _ _ (lo+((0:Nat):Int) * 1) ((((hi - lo).toNat:Nat):Int) - ((0:Nat):Int)) 1
  rw[e1,e2]
  exact Heap.get?_push_size _ rfl
 ·have e:b=(s.heap.push { cls:=.type "range", data:=.fields #[.int lo t,.int hi u,.int 1 v] }).objs.size:=by simpa using hb
  subst e
  exact I1.fpOk (Nat.le_refl _) (I1.hok.fresh (Nat.le_refl _))
def zo(ta:TA):TI:=fun σ H R=>ta σ H fun vs H1=>∃j:Int,vs=[.int j]/\-(2 ^ 62)<= j/\j < 2 ^ 62/\R (Itr 0 j.toNat) H1
theorem jP{a:Expr}{ta:TA}{p pos:Pos}(hg:Gl X "range")(hm:X.mg "range" = none)(ha:PA X [a] ta)(hs:starEach [a] X.env=[(false,eval a X.env)]:=by rfl):PI X tg (.Call (.Name "range" p) [a] [] pos) (zo ta):=by
 intro pins s σ H R I h
 refine Call_ (i6 I hg hm boot_range (PyProof.Rows.callWith_type1 (thn (ha pos pins s σ H _ I h) fun us s1 ⟨vs,H1,I1,r1,q1⟩=>?_) hs rfl))
 obtain⟨j,e,q1,q2,q⟩:=q1
 subst e
 cases r1 with
 | cons r rr =>
  cases rr
  obtain⟨t,rfl⟩:=r
  exact call_range_1 (qx I1 (by omega) (by omega) q1 q2 (by simpa using q))
def Az(wi:TI)(g:TG)(tb:TS):TS:=fun D σ H=>wi σ H fun J H1=>∃W:Nat->Nat->St->Hp->Prop,(∃m,W 0 m σ H1)/\∀i m σ H,W i m σ H ->
 (J.stop i H/\D.nx σ H)\/(J.go i H/\∃N:St->Hp->Prop,(∀σ' H',N σ' H'->∃m',m' < m/\W (i+1) m' σ' H')/\∀x H',J.yld i H x H'->g x σ H' fun σ2 H2=>tb { D with nx:=N,ct:=N,bk:=D.nx } σ2 H2)
def gK(fp:List Addr)(h:Heap):List (Addr×Obj):=fp.filterMap fun b=>(h.get? b).map fun o=>(b,o)
theorem cI{fp:List Addr}{h:Heap}{b:Addr}{o:Obj}(hb:b∈fp)(e:h.get? b=some o):(b,o)∈ gK fp h:=List.mem_filterMap.mpr ⟨b,hb,by rw[e];rfl⟩
theorem pp{fp:List Addr}{h:Heap}{p:Addr×Obj}(hp:p∈gK fp h):p.1∈fp/\h.get? p.1=some p.2:=by
 obtain⟨b,hb,e⟩:=List.mem_filterMap.mp hp
 cases q:h.get? b with
 | none=>rw[q]at e;cases e
 | some o =>
  rw[q]at e
  have e':(b,o)=p:=Option.some.inj e
  subst e'
  exact⟨hb,q⟩
theorem Inv.pinned{pins:List (Addr×Obj)}{σ:St}{H:Hp}{s:Shared}{fp:List Addr}(I:Inv X pins σ H s)(hf:∀b∈fp,ij X pins H b)(ho:∀b∈fp,∃o,s.heap.get? b=some o/\∀v,o.data≠.cell v):Inv X (pins++gK fp s.heap) σ H s :=
 I.pins_of fun p hp=>(List.mem_append.mp hp).elim (fun z=>I.pin p (List.mem_append_right _ z)) fun z=>by
  obtain⟨hb,e⟩:=pp z
  obtain⟨f0,f1,f2,_⟩:=hf p.1 hb
  obtain⟨o,e',d⟩:=ho p.1 hb
  rw[e]at e';cases e'
  exact⟨e,f0,f1,f2,d⟩
theorem Inv.unpinned{pins pl:List (Addr×Obj)}{σ:St}{H:Hp}{s:Shared}(I:Inv X (pins++pl) σ H s):Inv X pins σ H s:=I.pins_of fun p hp=>I.pin p (List.mem_append_right _ (List.mem_append_left _ hp))
theorem qC{iter:Expr}{body:List Stmt}{wi:TI}{g:TG}{tb:TS}{pos:Pos}(hp:PassesOwn (model X.prog X.w) X.A X.env X.xe)(hc:X.calm=true)(hi:PI X tg iter wi)(hg:PG X tg g)(hb:PSs X body tb)
  (hs:∀x,foldedSetIterable iter X.env x=pure x:=by intro _;rfl):PS X (.For tg iter body [] pos) (Az wi g tb):=by
 intro pins s σ H D I h
 refine wpAny_For (thn (hi pins s σ H _ I h) fun v s1 h1=>thn h1 fun itv s2 h2=>?_) hs
 obtain⟨it,fp,tn,J,H2,e,I2,T,st2,f2,W,⟨m0,w0⟩,turn⟩:=h2
 subst e
 have stat:∀{H':Hp},(∀b∈fp,H' b=none)->∀b∈fp,ij X pins H' b:=fun hn b hb=>⟨hn b hb,(f2 b hb).2⟩
 refine codeAny_forLoop_any (fun n s'=>∃i σ' H',Inv X pins σ' H' s'/\tn i s'.heap/\(∀b∈fp,H' b=none)/\W i n σ' H') ?_ m0 ⟨0,σ,H2,I2,st2,fun b hb=>(f2 b hb).1,w0⟩
 rintro n s3 ⟨i,σ3,H3,I3,st3,fr3,w3⟩
 rcases turn i n σ3 H3 w3 with⟨stop,qn⟩ |⟨go,N,hN,step⟩
 ·refine wpAny_passesOwn hp (thn (T.done X rfl rfl rfl hc i pins s3 σ3 H3 X.xe I3 (stat fr3) st3 stop) fun r s4 ⟨hr,I4⟩=>?_)
  subst hr
  exact wpAny_execs_nil ⟨σ3,H3,I4,qn⟩
 ·refine wpAny_passesOwn hp (thn (T.item X rfl rfl rfl hc i pins s3 σ3 H3 X.xe I3 (stat fr3) st3 go) fun r s4 ⟨u,hr,h4⟩=>?_)
  subst hr
  refine wpAny_passesOwn hp (thn h4 fun _ s5 ⟨x,H5,I5,r5,y5,st5,fr5⟩=>?_)
  have I5':=I5.pinned (stat fr5) (T.obj _ _ st5)
  refine wpAny_passesOwn hp (thn (hg _ s5 σ3 H5 x u _ I5' r5 (step x H5 y5)) fun _ s6 ⟨σ6,H6,I6,q6⟩=>?_)
  refine wpAny_passesOwn hp (thn (hb _ s6 σ6 H6 _ I6 q6) fun f s7 q7=>?_)
  have again:∀{σ7:St}{H7:Hp},Inv X (pins++gK fp s5.heap) σ7 H7 s7->N σ7 H7->∃m,m < n/\∃i σ' H',Inv X pins σ' H' s7/\tn i s7.heap/\(∀b∈fp,H' b=none)/\W i m σ' H':=fun {σ7 H7} I7 n7=>by
   obtain⟨m',hm,w7⟩:=hN σ7 H7 n7
   refine⟨m',hm,i+1,σ7,H7,I7.unpinned,T.keep _ _ _ st5 fun b hb o e=>(I7.pin (b,o) (List.mem_append_right _ (List.mem_append_right _ (cI hb e)))).1,fun b hb=>?_,w7⟩
   obtain⟨o,e,d⟩:=T.obj _ _ st5 b hb
   exact(I7.pin (b,o) (List.mem_append_right _ (List.mem_append_right _ (cI hb e)))).2.1
  cases f with
  | next | cont=>obtain⟨σ7,H7,I7,n7⟩:=q7;exact again I7 n7
  | brk=>obtain⟨σ7,H7,I7,q7⟩:=q7;exact⟨σ7,H7,I7.unpinned,q7⟩
  | ret v=>obtain⟨x7,σ7,H7,I7,r7,q7⟩:=q7;exact⟨x7,σ7,H7,I7.unpinned,r7,q7⟩
end
end L2
namespace L2
open PySem PySem.Spec PyProof.Rows
abbrev R2:=V->V->Hp->VK->Prop
def OpR(X:Cx)(f:Value->Value->Sem Value)(r:R2):Prop :=
 ∀(pins:List (Addr×Obj)) (s:Shared) (σ:St) (H:Hp) (x y:V) (v u:Value) (Q:VK),Inv X pins σ H s->aT x v->aT y u->r x y H Q ->
  wpAny (model X.prog X.w) X.A (f v u) (EP X pins σ Q) X.xe s
def dC(X:Cx)(f:Value)(r:List V->Hp->VK->Prop):Prop :=
 ∀(pins:List (Addr×Obj)) (s:Shared) (σ:St) (H:Hp) (xs:List V) (us:List Value) (Q:VK),Inv X pins σ H s->aw xs us->r xs H Q ->
  wpAny (model X.prog X.w) X.A (call f us) (EP X pins σ Q) X.xe s
def Ba(X:Cx)(r:V->Hp->(Bool->Hp->Prop)->Prop):Prop :=
 ∀(pins:List (Addr×Obj)) (s:Shared) (σ:St) (H:Hp) (x:V) (v:Value) (Q:Bool->Hp->Prop),Inv X pins σ H s->aT x v->r x H Q ->
  wpAny (model X.prog X.w) X.A (truthy v) (TP X pins σ Q) X.xe s
def tOp(r:R2)(ta tb:TE):TE:=fun σ H Q=>ta σ H fun x H1=>tb σ H1 fun y H2=>r x y H2 Q
def tUn(r:V->Hp->VK->Prop)(ta:TE):TE:=fun σ H Q=>ta σ H fun x H1=>r x H1 Q
def rI(C:Int->Int->Prop)(g:Int->Int->V):R2:=fun x y H Q=>∃i j,x=.int i/\y=.int j/\C i j/\Q (g i j) H
def rI0(g:Int->Int->V):R2:=fun x y H Q=>∃i j,x=.int i/\y=.int j/\Q (g i j) H
section
variable{X:Cx}{a b c:Expr}{ta tb tc:TE}{pos:Pos}
theorem xb(ha:PE X a ta)(hb:PE X b tb){pins:List (Addr×Obj)}{s:Shared}{σ:St}{H:Hp}{R:V->V->Hp->Prop}(I:Inv X pins σ H s)
  (h:ta σ H fun x H1=>tb σ H1 fun y H2=>R x y H2) {Q:Value->Shared->Prop}{f:Value->Value->Sem Value}
  (hf:∀v u s2 x y H2,Inv X pins σ H2 s2->aT x v->aT y u->R x y H2->wpAny (model X.prog X.w) X.A (f v u) Q X.xe s2) :
  wpAny (model X.prog X.w) X.A (eval a X.env) (fun v s₁=>wpAny (model X.prog X.w) X.A (eval b X.env) (fun u s₂=>wpAny (model X.prog X.w) X.A (f v u) Q X.xe s₂) X.xe s₁) X.xe s:=by
 refine thn (ha pins s σ H _ I h) fun v s1 ⟨x,H1,I1,r1,q1⟩=>?_
 refine thn (hb pins s1 σ H1 _ I1 q1) fun u s2 ⟨y,H2,I2,r2,q2⟩=>?_
 exact hf v u s2 x y H2 I2 r1 r2 q2
theorem uQ{op:Operator}{r:R2}(ho:OpR X (binaryOp op) r)(ha:PE X a ta)(hb:PE X b tb):PE X (.BinOp a op b pos) (tOp r ta tb):=by
 intro pins s σ H Q I h
 exact wpAny_BinOp (xb ha hb I h fun v u s2 x y H2 I2 rx ry q=>ho pins s2 σ H2 x y v u Q I2 rx ry q)
theorem opI{f:Value->Value->Sem Value}{C:Int->Int->Prop}{g:Int->Int->Int}
  (rule:∀(i j:Int) (t u:Tok) (s:Shared) (Q:Value->Shared->Prop) (E:Value->Shared->Prop),C i j->Q (.int (g i j) s.toks) { s with toks:=s.toks+1 }->wpAny (model X.prog X.w) X.A (f (.int i t) (.int j u)) Q E s) :
  OpR X f (rI C fun i j=>.int (g i j)):=by
 intro pins s σ H x y v u Q I rx ry h
 obtain⟨i,j,rfl,rfl,hc,q⟩:=h
 obtain⟨t,rfl⟩:=rx
 obtain⟨t',rfl⟩:=ry
 exact rule i j t t' s _ _ hc ⟨.int (g i j),H,I.tok _,⟨_,rfl⟩,q⟩
theorem yM{f:Value->Value->Sem Value}{g:Int->Int->Int}
  (rule:∀(i j:Int) (t u:Tok) (s:Shared) (Q:Value->Shared->Prop) (E:Value->Shared->Prop),Q (.int (g i j) s.toks) { s with toks:=s.toks+1 }->wpAny (model X.prog X.w) X.A (f (.int i t) (.int j u)) Q E s) :
  OpR X f (rI0 fun i j=>.int (g i j)):=by
 intro pins s σ H x y v u Q I rx ry h
 obtain⟨i,j,rfl,rfl,q⟩:=h
 obtain⟨t,rfl⟩:=rx
 obtain⟨t',rfl⟩:=ry
 exact rule i j t t' s _ _ ⟨.int (g i j),H,I.tok _,⟨_,rfl⟩,q⟩
theorem we{f:Value->Value->Sem Value}{g:Int->Int->Bool}
  (rule:∀(i j:Int) (t u:Tok) (s:Shared) (Q:Value->Shared->Prop) (E:Value->Shared->Prop),Q (.bool (g i j)) s->wpAny (model X.prog X.w) X.A (f (.int i t) (.int j u)) Q E s) :
  OpR X f (rI0 fun i j=>.bl (g i j)):=by
 intro pins s σ H x y v u Q I rx ry h
 obtain⟨i,j,rfl,rfl,q⟩:=h
 obtain⟨t,rfl⟩:=rx
 obtain⟨t',rfl⟩:=ry
 exact rule i j t t' s _ _ ⟨.bl (g i j),H,I,rfl,q⟩
def Bj(i j:Int):Prop:=0 < j/\j < 1073741824
def xJ(i j:Int):Prop:=(-(2 ^ 64) < i/\i < 2 ^ 64)\/(-(2 ^ 64) < j/\j < 2 ^ 64)
theorem xJ.ok{i j:Int}(h:xJ i j):IntMulOk i j:=by
 rcases h with⟨h1,h2⟩ |⟨h1,h2⟩
 ·exact .of_left (intBits_le_64 h1 h2)
 ·exact .of_right (intBits_le_64 h1 h2)
theorem wd:OpR X (binaryOp .Add) (rI0 fun i j=>.int (i+j)):=yM fun _ _ _ _ _ _ _ q=>add_int q
theorem v9:OpR X (binaryOp .Sub) (rI0 fun i j=>.int (i - j)):=yM fun _ _ _ _ _ _ _ q=>sub_int q
theorem wa:OpR X (binaryOp .Mult) (rI xJ fun i j=>.int (i * j)):=opI fun _ _ _ _ _ _ _ hc q=>mul_int q hc.ok
theorem tV:OpR X (binaryOp .FloorDiv) (rI Bj fun i j=>.int (i / j)):=opI fun i j _ _ _ _ _ hc q=>by
 have h1:(0:Int) < j:=hc.1
 have h2:j < 1073741824:=hc.2
 exact floordiv_int (by omega) (by rw[Int.fdiv_eq_ediv_of_nonneg i (by omega)];exact q) (.inl (PyProof.noPylong_small (by omega)))
theorem wb:OpR X (binaryOp .Mod) (rI (fun _ j=>0 < j) fun i j=>.int (i % j)):=opI fun i j _ _ _ _ _ hc q=>by
 have h1:(0:Int) < j:=hc
 exact mod_int' (by omega) (by rw[Int.fmod_eq_emod_of_nonneg i (by omega)];exact q)
end
def scal:V->V->Bool
 | .non,.non=>true | .non,.int _=>true | .int _,.non=>true | .non,.bl _=>true | .bl _,.non=>true | .non,.str _=>true | .str _,.non=>true
 | .int _,.int _=>true | .bl _,.bl _=>true | .str _,.str _=>true | .byt _,.byt _=>true
 | .int _,.str _=>true | .str _,.int _=>true | .bl _,.str _=>true | .str _,.bl _=>true
 | _,_=>false
section
variable{X:Cx}{a b c:Expr}{ta tb tc:TE}{pos:Pos}
theorem wK{pins:List (Addr×Obj)}{σ:St}{H:Hp}{s:Shared}{Q:VK}{k k':Bool}(I:Inv X pins σ H s)(q:Q (.bl k) H)(e:k=k'):EP X pins σ Q (.bool k') s:=by
 subst e
 exact⟨.bl k,H,I,rfl,q⟩
theorem yJ:OpR X (compareOp .Lt) (rI0 fun i j=>.bl (decide (i < j))):=we fun _ _ _ _ _ _ _ q=>lt_int q
theorem yK:OpR X (compareOp .Gt) (rI0 fun i j=>.bl (decide (j < i))):=we fun _ _ _ _ _ _ _ q=>gt_int q
theorem yL:OpR X (compareOp .GtE) (rI0 fun i j=>.bl (decide (j<=i))):=we fun _ _ _ _ _ _ _ q=>ge_int q
theorem tU:OpR X (compareOp .IsNot) (fun x y H Q=>y=.non/\Q (.bl (!decide (x=.non))) H):=by
 intro pins s σ H x y v u Q I rx ry h
 obtain⟨rfl,q⟩:=h
 cases ry
 refine isnot_none_gen (wK I q ?_)
 cases x<;>first
  |(cases rx;rfl)
  |(obtain⟨t,rfl⟩:=rx;rfl)
theorem OpR.or{f:Value->Value->Sem Value}{r r':R2}(h:OpR X f r)(h':OpR X f r'):OpR X f (fun x y H Q=>r x y H Q\/r' x y H Q):=by
 intro pins s σ H x y v u Q I rx ry q
 rcases q with q | q
 ·exact h pins s σ H x y v u Q I rx ry q
 ·exact h' pins s σ H x y v u Q I rx ry q
theorem eW(b:Expr){op:CmpOp}(h:op≠.In:=by decide)(h2:op≠.NotIn:=by decide):behindInMarks op b=false:=by
 have e1:(op==CmpOp.In)=false:=by cases op<;>first | rfl | exact absurd rfl h
 have e2:(op==CmpOp.NotIn)=false:=by cases op<;>first | rfl | exact absurd rfl h2
 cases b<;>simp[behindInMarks,e1,e2]
theorem tP{op:CmpOp}{r:R2}(ho:OpR X (compareOp op) r)(ha:PE X a ta)(hb:PE X b tb)(hm:behindInMarks op b=false):PE X (.Compare a [op] [b] pos) (tOp r ta tb):=by
 intro pins s σ H Q I h
 exact wpAny_Compare1 (xb ha hb I h fun v u s2 x y H2 I2 rx ry q=>ho pins s2 σ H2 x y v u Q I2 rx ry q) hm
def yn(t:TE):TT:=fun σ H Q=>t σ H fun x H'=>∃k,x=.bl k/\Q k H'
theorem nW{op:CmpOp}{r:R2}(ho:OpR X (compareOp op) r)(ha:PE X a ta)(hb:PE X b tb)(hm:behindInMarks op b=false):PT X (.Compare a [op] [b] pos) (yn (tOp r ta tb)):=by
 intro pins s σ H Q I h
 refine wpAny_isTrue_Compare1 (thn (ha pins s σ H _ I h) fun v s1 ⟨x,H1,I1,r1,q1⟩=>thn (hb pins s1 σ H1 _ I1 q1) fun u s2 ⟨y,H2,I2,r2,q2⟩ =>
  thn (ho pins s2 σ H2 x y v u _ I2 r1 r2 q2) fun c s3 ⟨z,H3,I3,r3,k,e,q3⟩=>?_) hm
 subst e
 cases r3
 exact wpAny_truthy_bool ⟨H3,I3,q3⟩
def zE(K:PySem.W.Frag)(x:V)(H:Hp)(k:Bool):Prop :=
 match x with
 | .non=>k=false
 | .bl b=>k=b
 | .int i=>k=(i != 0)
 | .str y=>y.length<=sizeLine/\k=((y.length:Int) != 0)
 | .byt y=>y.size<=sizeLine/\k=((y.size:Int) != 0)
 | .ref p=>(∃xs,SqL K H p xs/\k=!xs.isEmpty)\/(∃xs,SqT K H p xs/\k=!xs.isEmpty)\/ ∃kvs,H p=some (.dK kvs)/\k=!kvs.isEmpty
 | _=>False
theorem mZ{κ:Type}{kvs:List (κ×V)}{vs:List (κ×Value)}(r:KV kvs vs):(!vs.isEmpty)=!kvs.isEmpty:=by
 cases r<;>rfl
theorem i8{xs:List V}{its:List Value}(r:aw xs its):(!its.toArray.isEmpty)=!xs.isEmpty:=by
 cases r<;>simp
theorem gP:(sizeLine:Nat) < 2 ^ 63:=by rw[sizeLine_eq];decide
theorem vm:Ba X (fun x H Q=>∃k,zE X.K x H k/\Q k H):=by
 intro pins s σ H x v Q I rx h
 obtain⟨k,e,q⟩:=h
 have hl:=gP
 have hs:sizeLine=16777216:=sizeLine_eq
 cases x with
 | non =>
  cases rx
  have e':k=false:=e
  subst e'
  exact truthy_none ⟨H,I,q⟩
 | bl b =>
  cases rx
  have e':k=b:=e
  subst e'
  exact wpAny_truthy_bool ⟨H,I,q⟩
 | int i =>
  obtain⟨t,rfl⟩:=rx
  have e':k=(i != 0):=e
  subst e'
  exact PySem.P.truthy_int ⟨H,I,q⟩
 | str y =>
  obtain⟨t,rfl⟩:=rx
  obtain⟨hy,e'⟩:y.length<=sizeLine/\k=((y.length:Int) != 0):=e
  subst e'
  exact PySem.P.truthy_str (by omega) ⟨H,I.tok _,q⟩
 | byt y =>
  obtain⟨t,rfl⟩:=rx
  obtain⟨hy,e'⟩:y.size<=sizeLine/\k=((y.size:Int) != 0):=e
  subst e'
  exact PySem.W.truthy_bytes (by omega) ⟨H,I.tok _,q⟩
 | ref p =>
  cases rx
  have e':(∃xs,SqL X.K H p xs/\k=!xs.isEmpty)\/(∃xs,SqT X.K H p xs/\k=!xs.isEmpty)\/ ∃kvs,H p=some (.dK kvs)/\k=!kvs.isEmpty:=e
  rcases e' with⟨xs,hx,e'⟩ |⟨xs,hx,e'⟩ |⟨kvs,hx,e'⟩
  ·subst e'
   obtain⟨its,r,pl,hz⟩:=I.list hx
   have hlen:=r.length
   exact wpAny_truthy_list pl.isList (by simp only[List.size_toArray];omega) ⟨H,I.tok _,by rw[i8 r];exact q⟩
  ·subst e'
   obtain⟨its,r,pl,hz⟩:=I.tuple hx
   have hlen:=r.length
   exact truthy_tuple pl (by simp only[List.size_toArray];omega) ⟨H,I.tok _,by rw[i8 r];exact q⟩
  ·subst e'
   obtain⟨hz,hS,vs,r,m⟩:kvs.length<=sizeLine/\(p==sysModules)=false/\∃vs,KV kvs vs/\s.heap.DictOf (ko X.prog X.w) p vs:=I.hok p _ hx
   have hlen:kvs.length=vs.length:=Paired.length r
   exact wpAny_truthy_dict hS m (by omega) ⟨H,I.tok _,by rw[mZ r];exact q⟩
 | _=>exact(show False from e).elim
theorem qA(ha:PE X a ta)(he:∀whole,isTrue a X.env whole=(do let v <- whole;standAt a.pos;holding [v] (truthy v))) :
  PT X a (fun σ H Q=>ta σ H fun x H'=>∃k,zE X.K x H' k/\Q k H'):=by
 intro pins s σ H Q I h
 exact isTrue_plain (thn (ha pins s σ H _ I h) fun v s1 ⟨x,H1,I1,r1,q1⟩=>vm pins s1 σ H1 x v Q I1 r1 q1) (he _)
theorem eR{x:V}{us:List Value}(r:aw [x] us):∃u,us=[u]/\aT x u:=by
 cases r with
 | cons r1 r2=>cases r2;exact⟨_,rfl,r1⟩
theorem yk{x y:V}{us:List Value}(r:aw [x,y] us):∃u w',us=[u,w']/\aT x u/\aT y w':=by
 cases r with
 | cons r1 r2 =>
  cases r2 with
  | cons r3 r4=>cases r4;exact⟨_,_,rfl,r1,r3⟩
theorem pS(hc:X.calm=true):dC X (.builtin "min") (fun xs H Q=>∃i j,xs=[.int i,.int j]/\Q (.int (if j < i then j else i)) H):=by
 intro pins s σ H xs us Q I r h
 obtain⟨i,j,rfl,q⟩:=h
 obtain⟨u,w',rfl,⟨t,rfl⟩,⟨t',rfl⟩⟩:=yk r
 refine min_two_ints (I.ok.hd hc) fun h' tk k=>⟨_,H,I.kept k,?_,q⟩
 by_cases hj:j < i
 ·rw[if_pos hj,if_pos hj];exact⟨_,rfl⟩
 ·rw[if_neg hj,if_neg hj];exact⟨_,rfl⟩
end
end L2
namespace L2
open PySem PySem.Spec PyProof.Rows
structure nv(h:Heap)(x dx C:Addr)(mA:Str->Option Value):Prop where
 obj:h.get? x=some (PySem.W.instObj C dx)
 ns:h.Ns1 dx mA
 ne:dx≠x
theorem pF{h:Heap}{dx:Addr}{mA:Str->Option Value}(n:h.Ns1 dx mA):∃od,h.get? dx=some od/\∀name,PySem.W.lookIn name od=some (mA name):=by
 obtain⟨o,es,ep,ho,hd,hk,_,hm⟩:=n
 refine⟨o,ho,fun name=>?_⟩
 have e:=hm name
 unfold nsFind findBy at e
 rw[<- Array.find?_toList]at e
 unfold PySem.W.lookIn
 rw[hd]
 dsimp only
 split
 ·rename_i y q
  rw[q]at e
  exact congrArg some e
 ·rename_i q
  rw[q]at e
  have a:es.toList.any (·.refKey)=false:=by
   rw[List.any_eq_false]
   intro y hy
   obtain⟨z,t,hkey⟩:=hk y (Array.mem_toList_iff.mp hy)
   simp[DictEntry.refKey,hkey]
  have a':¬es.toList.any (·.refKey)=true:=by rw[a];exact Bool.false_ne_true
  rw[if_neg a']
  exact congrArg some e
theorem nv.look{h:Heap}{x dx C:Addr}{mA:Str->Option Value}(I:nv h x dx C mA):∃od,PySem.W.InstAt h x (PySem.W.instObj C dx) C (some od)/\∀name,PySem.W.lookIn name od=some (mA name) :=
 let⟨od,ho,hl⟩:=pF I.ns
 ⟨od,⟨I.obj,rfl,rfl,ho⟩,hl⟩
section
variable{prog:Program}{w:World}{A:Around}{E:Value->Shared->Prop}{s:Shared}{K:PySem.W.Frag}{x dx C f:Addr}{mA:Str->Option Value}{name:Str}{v:Value}
theorem uf{expr:Bool}{Q:Value->Shared->Prop}(X:K.In s.heap)(I:nv s.heap x dx C mA)(hg:PySem.W.plainGet K C name=true)(hh:PySem.W.hasDictIn K C=true)
  (ha:PySem.W.findIn K (.ref C) name=some none) (hv:mA name=some v) (hv':PySem.W.handedIn v=true) (h:Q v { s with toks:=s.toks+1 }) :
  wpAny (model prog w) A (getAttr (.ref x) name expr) Q E s:=by
 obtain⟨od,J,hl⟩:=I.look
 exact PySem.W.get_value X J (PySem.W.plainGet_of hg).1 (PySem.W.findObj_own hh ha rfl (by rw[hl,hv])) hv' h
theorem rG{pl:Sem Bool}{Q:Value×List Value->Shared->Prop}(X:K.In s.heap)(I:nv s.heap x dx C mA)(hg:PySem.W.plainGet K C name=true)
  (hf:PySem.W.findIn K (.ref C) name=some (some (.ref f))) (ht:PySem.W.isFn K (.ref f)=true) (hv:mA name=none) (h:Q (.ref f,[.ref x]) s) :
  wpAny (model prog w) A (getMethod (.ref x) name pl) Q E s:=by
 obtain⟨od,J,hl⟩:=I.look
 exact PySem.W.method_fn X J (PySem.W.plainGet_of hg).1 (PySem.W.plainGet_of hg).2 hf (beq_iff_eq.mp ht) (by show(PySem.W.lookIn name od).map (·.isSome)=some false;rw[hl,hv];rfl) h
theorem sT{ns:List Str}{Q:Unit->Shared->Prop}(X:K.In s.heap)(I:nv s.heap x dx C mA)
  (hs:PySem.W.findIn K (.ref C) "__setattr__" = some (some (.builtin "object.__setattr__"))) (hp:PySem.W.plainOver K C=true) (ht:PySem.W.takerIn K C name=some none) (hh:PySem.W.hasDictIn K C=true)
  (hw:PySem.Within mA ns) (hsz:ns.length<=sizeLine)
  (h:∀h',nv h' x dx C (fun y=>if y=name then some v else mA y)->Heap.SameBut dx s.heap h'->Q () { s with heap:=h',toks:=s.toks+2 }) :
  wpAny (model prog w) A (setAttr (.ref x) name v) Q E s:=by
 obtain⟨od,J,hl⟩:=I.look
 refine PySem.W.set_plain X J hs (PySem.W.osa_open (s:={ s with toks:=s.toks+1 }) (r:=none) X J hp ht fun b=>?_)
 obtain⟨cd,hc,hd'⟩:=PySem.W.any_some hh
 have hx:s.heap.get? x=some ⟨.ref C,some dx,.plain,#[]⟩:=I.obj
 refine wpAny_bind (wpAny_pure (wpAny_bind (wpAny_bind (wpAny_loadPart hx (wpAny_bind (PySem.W.Looks.here (s:={ s with toks:=s.toks+1 }) (PySem.W.looks_clsIn X hc) ?_))))))
 rw[hd']
 refine wpAny_pure (a:=some dx) (wpAny_bind (wpAny_pure (wpAny_bind ?_)))
 refine wpAny_nsSet1 (s:={ s with toks:=s.toks+1 }) I.ns fun h' hn2 hs2=>?_
 obtain⟨oD,esD,epD,hoD,hdD,hcD⟩:=hn2.count (PySem.Within.cons name v hw)
 refine wpAny_bind (wpAny_lookBehind hoD (by rw[hdD];exact pastItsLine_dict (Nat.le_trans hcD (by rw[List.length_cons];omega))) ?_)
 exact wpAny_pure (h _ ⟨(hs2.2 _ (Ne.symm I.ne)).trans I.obj,hn2,I.ne⟩ hs2)
theorem qZ{R:Result->Shared->Prop}{vs:List Value}{kw:List (Str×Value)}(X:K.In s.heap)(hm:PySem.W.makesIn K C=true)
  (hi:PySem.W.findIn K (.ref C) "__init__" = some (some (.ref f))) (hf:PySem.W.typeIn K (.ref f)=some (.type "function"))
  (h:codeAny (model prog w) (A.under (.builtin "type.__call__" ⟨.ref C::vs,kw⟩)) (.call (.ref f) ⟨.ref (s.heap.objs.size+1)::vs,kw⟩) (PySem.W.InitBack (s.heap.objs.size+1) R)
   { s with heap:=(s.heap.push PySem.W.emptyDict).push (PySem.W.instObj C s.heap.objs.size) }) :
  codeAny (model prog w) A (.call (.ref C) ⟨vs,kw⟩) R s:=by
 obtain⟨hh,g,d,t,os⟩:=s
 exact PySem.W.make_core (PySem.W.makes_of X hm) (PySem.W.looks_findIn X hi) (fun self=>PySem.W.bind_fn X self hf) (.inl rfl) h
end
def d_(f:Str)(v:V):List (Str×V)->List (Str×V)
 | []=>[(f,v)]
 |(g,x)::r=>if g=f then(g,v)::r else(g,x)::d_ f v r
theorem h_(f g:Str)(v:V):∀fs:List (Str×V),(d_ f v fs).lookup g=if g=f then some v else fs.lookup g
 | []=>by
  show List.lookup g [(f,v)]=_
  by_cases h:g=f
  ·have hb:(g==f)=true:=beq_iff_eq.mpr h
   simp only[List.lookup,hb,if_pos h]
  ·have hb:(g==f)=false:=beq_eq_false_iff_ne.mpr h
   simp only[List.lookup,hb,if_neg h]
 |(k,x)::r=>by
  have ih:=h_ f g v r
  rw[show d_ f v ((k,x)::r)=(if k=f then(k,v)::r else(k,x)::d_ f v r)from rfl]
  by_cases hk:k=f
  ·rw[if_pos hk]
   by_cases h:g=k
   ·have hb:(g==k)=true:=beq_iff_eq.mpr h
    simp only[List.lookup,hb,if_pos (h.trans hk)]
   ·have hb:(g==k)=false:=beq_eq_false_iff_ne.mpr h
    simp only[List.lookup,hb,if_neg (fun e:g=f=>h (e.trans hk.symm))]
  ·rw[if_neg hk]
   by_cases h:g=k
   ·have hb:(g==k)=true:=beq_iff_eq.mpr h
    simp only[List.lookup,hb,if_neg (fun e:g=f=>hk (h.symm.trans e))]
   ·have hb:(g==k)=false:=beq_eq_false_iff_ne.mpr h
    simp only[List.lookup,hb]
    exact ih
theorem gQ(f:Str)(v:V):∀fs:List (Str×V),f ∈(d_ f v fs).map (·.1)/\∀g,g∈fs.map (·.1)->g ∈(d_ f v fs).map (·.1)
 | []=>⟨by simp[d_],fun g h=>by simp at h⟩
 |(k,x)::r=>by
  obtain⟨i1,i2⟩:=gQ f v r
  rw[show d_ f v ((k,x)::r)=(if k=f then(k,v)::r else(k,x)::d_ f v r)from rfl]
  by_cases hk:k=f
  ·rw[if_pos hk]
   subst hk
   exact⟨by simp,fun g h=>by simpa using h⟩
  ·rw[if_neg hk]
   refine⟨?_,fun g h=>?_⟩
   ·rw[List.map_cons]
    exact List.mem_cons_of_mem _ i1
   ·rw[List.map_cons]at h ⊢
    rcases List.mem_cons.mp h with e | e
    ·exact List.mem_cons.mpr (.inl e)
    ·exact List.mem_cons_of_mem _ (i2 g e)
theorem ic(f:Str)(v:V):∀fs:List (Str×V),(d_ f v fs).length<=fs.length+1
 | []=>by simp[d_]
 |(k,x)::r=>by
  have ih:=ic f v r
  rw[show d_ f v ((k,x)::r)=(if k=f then(k,v)::r else(k,x)::d_ f v r)from rfl]
  by_cases hk:k=f
  ·rw[if_pos hk,List.length_cons,List.length_cons];omega
  ·rw[if_neg hk,List.length_cons,List.length_cons];omega
theorem jC.some_of{v:V}{o:Option Value}(r:jC (some v) o):∃u,o=some u/\aT v u:=by
 cases o with
 | none=>exact(show False from r).elim
 | some u=>exact⟨u,rfl,r⟩
theorem jC.none_of{o:Option Value}(r:jC none o):o=none:=by
 cases o with
 | none=>rfl
 | some u=>exact(show False from r).elim
theorem pM{v:V}{u:Value}(r:aT v u):PySem.W.handedIn u=true:=by
 cases v with
 | non=>cases(show u=Value.none from r);rfl
 | bl b=>cases(show u=Value.bool b from r);rfl
 | int i=>obtain⟨t,e⟩:=(show ∃t,u=Value.int i t from r);cases e;rfl
 | str x=>obtain⟨t,e⟩:=(show ∃t,u=Value.str x t from r);cases e;rfl
 | byt b=>obtain⟨t,e⟩:=(show ∃t,u=Value.bytes b t from r);cases e;rfl
 | flt b=>obtain⟨t,e⟩:=(show ∃t,u=Value.float b t from r);cases e;rfl
 | ref a=>cases(show u=Value.ref a from r);rfl
 | ty n=>cases(show u=Value.type n from r);rfl
section
variable{P:Program}{w:World}{H H':Hp}{h h':Heap}{a C dx:Addr}{fs fs':List (Str×V)}
theorem kz(hok:HOk P w H h)(e:H a=some (.ins C dx fs)):∃mA,nv h a dx C mA/\(∀f,jC (fs.lookup f) (mA f))/\PySem.Within mA (fs.map (·.1))/\fs.length<=1000/\H dx=some (.own a):=by
 obtain⟨d,z,ne,ob,mA,n,r,q⟩:=(show b5 P w H h a (.ins C dx fs)from hok a _ e)
 exact⟨mA,⟨ob,n,ne⟩,r,q,z,d⟩
end
structure Cls(K:PySem.W.Frag)(C:Addr):Prop where
 pg:PySem.W.plainGet K C Str.empty=true
 hd:PySem.W.hasDictIn K C=true
 po:PySem.W.plainOver K C=true
 sa:PySem.W.findIn K (.ref C) "__setattr__" = some (some (.builtin "object.__setattr__"))
theorem Cls.get{K:PySem.W.Frag}{C:Addr}(c:Cls K C)(f:Str):PySem.W.plainGet K C f=true:=c.pg
def cX(K:PySem.W.Frag)(C:Addr)(f:Str):Prop:=PySem.W.findIn K (.ref C) f=some none
theorem cX.taker{K:PySem.W.Frag}{C:Addr}{f:Str}(n:cX K C f):PySem.W.takerIn K C f=some none:=by
 unfold PySem.W.takerIn
 rw[show PySem.W.findIn K (.ref C) f=some none from n]
 rfl
structure Con(K:PySem.W.Frag)(C:Addr)(f:Str)(v:V)(u:Value):Prop where
 at_:PySem.W.findIn K (.ref C) f=some (some u)
 rel:aT v u
 get:PySem.W.specialIn K u "__get__" = some none
 cp:PySem.W.copiedNames.contains f=false
structure uH(K:PySem.W.Frag)(C:Addr)(m:Str)(f:Addr):Prop where
 at_:PySem.W.findIn K (.ref C) m=some (some (.ref f))
 fn:PySem.W.isFn K (.ref f)=true
 kp:PySem.W.keepIn K (.ref f)=true
section
variable{X:Cx}{pins:List (Addr×Obj)}{σ:St}{H:Hp}{s:Shared}{a C dx:Addr}{fs:List (Str×V)}{f:Str}{v:V}{A:Around}{E:Value->Shared->Prop}
theorem ng{b:Bool}{Q:Value->Shared->Prop}(I:Inv X pins σ H s)(e:H a=some (.ins C dx fs))(c:Cls X.K C)(n:cX X.K C f)(l:fs.lookup f=some v)
  (h:∀u s',Inv X pins σ H s'->aT v u->Q u s'):wpAny (model X.prog X.w) A (getAttr (.ref a) f b) Q E s:=by
 obtain⟨mA,O,r,_,_,_⟩:=kz I.hok e
 obtain⟨u,hu,ru⟩:=jC.some_of (v:=v) (o:=mA f) (by rw[<- l];exact r f)
 exact uf I.kIn O (c.get f) c.hd n hu (pM ru) (h u _ (I.tok _) ru)
theorem m_{m:Str}{g:Addr}{pl:Sem Bool}{Q:Value×List Value->Shared->Prop}(I:Inv X pins σ H s)(e:H a=some (.ins C dx fs))(c:Cls X.K C)(k:uH X.K C m g)(l:fs.lookup m=none)
  (h:Q (.ref g,[.ref a]) s):wpAny (model X.prog X.w) A (getMethod (.ref a) m pl) Q E s:=by
 obtain⟨mA,O,r,_,_,_⟩:=kz I.hok e
 have hn:mA m=none:=jC.none_of (by rw[<- l];exact r m)
 exact rG I.kIn O (c.get m) k.at_ k.fn hn h
theorem mG{y:V}{u:Value}{Q:Unit->Shared->Prop}(I:Inv X pins σ H s)(e:H a=some (.ins C dx fs))(c:Cls X.K C)(n:cX X.K C f)(hl:fs.length < 1000)(ry:aT y u)
  (h:∀s',Inv X pins σ (upd H a (.ins C dx (d_ f y fs))) s'->Q () s'):wpAny (model X.prog X.w) A (setAttr (.ref a) f u) Q E s:=by
 obtain⟨mA,O,r,wi,_,ho⟩:=kz I.hok e
 have hz:(fs.map (·.1)).length<=sizeLine:=by rw[List.length_map,sizeLine_eq];omega
 refine sT I.kIn O c.sa c.po n.taker c.hd wi hz fun h' O' sb=>h _ ?_
 have hd:∃o,h'.get? dx=some o:=let⟨o,_,_,e',_⟩:=O'.ns;⟨o,e'⟩
 refine I.write (x:=a) (e:=dx) (by rw[e];exact True.intro) (.inr ho) (fun b q hb z=>(sb.2 b hb).trans z) hd ?_
 refine⟨by rw[ar O.ne];exact ho,?_,O.ne,O'.obj,_,O'.ns,fun g=>?_,fun g hg=>?_⟩
 ·have:=ic f y fs;omega
 ·show jC ((d_ f y fs).lookup g) (if g=f then some u else mA g)
  rw[h_]
  by_cases q:g=f
  ·rw[if_pos q,if_pos q];exact ry
  ·rw[if_neg q,if_neg q];exact r g
 ·by_cases q:g=f
  ·rw[q];exact(gQ f y fs).1
  ·refine(gQ f y fs).2 g (wi g fun z=>hg ?_)
   show(if g=f then some u else mA g)=none
   rw[if_neg q];exact z
theorem Inv.made(I:Inv X pins σ H s):Inv X pins σ (upd (upd H s.heap.objs.size (.own (s.heap.objs.size+1))) (s.heap.objs.size+1) (.ins C s.heap.objs.size []))
  { s with heap:=(s.heap.push PySem.W.emptyDict).push (PySem.W.instObj C s.heap.objs.size) }:=by
 have e1:(s.heap.push PySem.W.emptyDict).get? s.heap.objs.size=some PySem.W.emptyDict:=Heap.get?_push_size s.heap rfl
 have e2:((s.heap.push PySem.W.emptyDict).push (PySem.W.instObj C s.heap.objs.size)).get? (s.heap.objs.size+1)=some (PySem.W.instObj C s.heap.objs.size):=by
  have:=Heap.get?_push_size (s.heap.push PySem.W.emptyDict) (o:=PySem.W.instObj C s.heap.objs.size) rfl
  rwa [Heap.size_push]at this
 have e3:(s.heap.push PySem.W.emptyDict).Ns s.heap.objs.size (fun _=>none):=⟨PySem.W.emptyDict,#[],_,e1,rfl,(fun e he=>absurd he (by simp)),fun _=>rfl⟩
 have I1:=I.laid (a:=s.heap.objs.size) (o:=.own (s.heap.objs.size+1)) (h':=s.heap.push PySem.W.emptyDict) (t':=s.toks) (fun b u q=>Heap.get?_push_of_some _ q) (Nat.le_refl _) ⟨_,e1⟩
 refine I1.laid (a:=s.heap.objs.size+1) (o:=.ins C s.heap.objs.size []) (t':=s.toks) (fun b u q=>Heap.get?_push_of_some _ q) (Nat.le_of_eq (Heap.size_push _ _)) ?_
 have ne:s.heap.objs.size≠s.heap.objs.size+1:=Nat.ne_of_lt (Nat.lt_succ_self _)
 refine⟨by rw[ar ne,aH],Nat.zero_le _,ne,e2,fun _=>none,(Heap.Ns1.of_empty e3).at fun o q=>Heap.get?_push_of_some _ q,fun _=>True.intro,fun y hy=>absurd rfl hy⟩
theorem uF{prog:Program}{w:World}{env:Env}{e:Expr}{f:Str}{pos:Pos}{s:Shared}{Q:Value->Shared->Prop}(hb:attributeBase e f env (eval e env)=eval e env)
  (h:wpAny (model prog w) A (eval e env) (fun o s₁=>wpAny (model prog w) A (getAttr o f true) Q E s₁) E s):wpAny (model prog w) A (eval (.Attribute e f pos) env) Q E s :=
 Attribute_any_ h (by rw[arm_eval_Attribute,hb])
end
def yt(K:PySem.W.Frag)(ta:TE)(f:Str):TE:=fun σ H Q=>ta σ H fun x H1=>∃a C dx fs v,x=.ref a/\H1 a=some (.ins C dx fs)/\Cls K C/\cX K C f/\fs.lookup f=some v/\Q v H1
def sFld(K:PySem.W.Frag)(ta tv:TE)(f:Str):TS:=fun D σ H=>tv σ H fun y H1=>ta σ H1 fun x H2=>∃a C dx fs,x=.ref a/\H2 a=some (.ins C dx fs)/\Cls K C/\cX K C f/\fs.length < 1000 /\
 D.nx σ (upd H2 a (.ins C dx (d_ f y fs)))
section
variable{X:Cx}{o e value:Expr}{f:Str}{pos pos' tpos:Pos}{ta tv:TE}
theorem v5(he:PE X e ta)(hb:attributeBase e f X.env (eval e X.env)=eval e X.env):PE X (.Attribute e f pos) (yt X.K ta f):=by
 intro pins s σ H Q I h
 refine uF hb (thn (he pins s σ H _ I h) fun u s1 ⟨x,H1,I1,rx,a,C,dx,fs,v,ex,ea,c,n,l,q⟩=>?_)
 subst ex
 obtain rfl:u=Value.ref a:=rx
 exact ng I1 ea c n l fun u' s2 I2 ru=>⟨v,H1,I2,ru,q⟩
theorem vU(ha:PE X o ta)(hv:PE X value tv)(hs:swapsWith value (some (.Attribute o f pos')) pos.line X.env=pure false):PS X (.Assign [.Attribute o f pos'] value pos) (sFld X.K ta tv f):=by
 intro pins s σ H D I h
 refine plainObj_wpAny_Assign_Attribute (thn (hv pins s σ H _ I h) fun u s1 ⟨y,H1,I1,ry,q⟩=>thn (ha pins s1 σ H1 _ I1 q) fun ov s2 ⟨x,H2,I2,rx,a,C,dx,fs,ex,ea,c,n,l,q2⟩=>?_) hs
 subst ex
 obtain rfl:ov=Value.ref a:=rx
 exact mG I2 ea c n l ry fun s3 I3=>⟨σ,_,I3,q2⟩
end
section
variable{X:Cx}{pins:List (Addr×Obj)}{σ:St}{H:Hp}{s:Shared}{A:Around}{E:Value->Shared->Prop}{Q:Value->Shared->Prop}{c:Value}{b:Bool}
inductive jr(K:PySem.W.Frag)(H:Hp):V->Value->Prop where
 | non:jr K H .non (.type "NoneType")
 | bl (x:Bool):jr K H (.bl x) (.type "bool")
 | int (i:Int):jr K H (.int i) (.type "int")
 | str (x:Str):jr K H (.str x) (.type "str")
 | flt (x:UInt64):jr K H (.flt x) (.type "float")
 | lst {a:Addr}{xs:List V} (e:H a=some (.lst xs)):jr K H (.ref a) (.type "list")
 | frz {a:Addr}{o:Obj}{xs:List V} (e:H a=some (.frz o (.lst xs))):jr K H (.ref a) (.type "list")
 | tup {a:Addr}{xs:List V} (e:H a=some (.tup xs)):jr K H (.ref a) (.type "tuple")
 | dK {a:Addr}{kvs:List (Key×V)} (e:H a=some (.dK kvs)):jr K H (.ref a) (.type "dict")
 | dT {a:Addr}{kvs:List (List Key×V)} (e:H a=some (.dT kvs)):jr K H (.ref a) (.type "dict")
 | ins {a C dx:Addr}{fs:List (Str×V)} (e:H a=some (.ins C dx fs)) (cl:Cls K C) (ha:PySem.W.findIn K (.ref C) "__class__" = some (some (.builtin "object.__class__")))
   (hn:PySem.W.specialIn K (.builtin "object.__class__") "__get__" = some (some (.builtin "getset_descriptor.__get__"))) (htk:PySem.W.takesIn K (.builtin "object.__class__")=some true)
   (hm:PySem.W.mroIn K C (.type "object")=some true):jr K H (.ref a) (.ref C)
end
end L2
namespace L2
open PySem PySem.Spec PyProof.Rows
structure cz(k:Nat)(A:Around):Prop where
 hd:A.handled=none
 dp:A.depth+3 * k+5 < recursionLimit
 un:A.units+16 * k+200 < cLine
theorem cz.mono{j k:Nat}{A:Around}(r:cz k A)(h:j<=k):cz j A:=⟨r.hd,by have:=r.dp;omega,by have:=r.un;omega⟩
theorem cz.deeper{k:Nat}{A:Around}(r:cz (k+1) A)(env:Env):cz k (A.deeper env) :=
 ⟨r.hd,by have:=r.dp;show A.depth+1+3 * k+5 < _;omega,by have:=r.un;show A.units+3+16 * k+200 < _;omega⟩
theorem mW{A:Around}{C:Addr}{us:List Value}{kw:List (Str×Value)}:(A.under (.builtin "type.__call__" ⟨.ref C::us,kw⟩)).depth=A.depth+1:=by
 first | rfl | simp[Around.under,Code.weight,Code.isCreation,Code.isGuard,Code.isCaller,Code.frames,Code.isFrame,guardIds]
theorem mV{A:Around}{C:Addr}{us:List Value}{kw:List (Str×Value)}:(A.under (.builtin "type.__call__" ⟨.ref C::us,kw⟩)).units=A.units+1:=by
 first | rfl | simp[Around.under,Code.cUnits,Code.frames,Code.isFrame]
theorem cz.make{k:Nat}{A:Around}(r:cz (k+1) A)(C:Addr)(us:List Value)(kw:List (Str×Value)):cz k (A.under (.builtin "type.__call__" ⟨.ref C::us,kw⟩)) :=
 ⟨r.hd,by have:=r.dp;rw[mW];omega,by have:=r.un;rw[mV];omega⟩
theorem cz.depth{k:Nat}{A:Around}(r:cz k A):A.depth < recursionLimit:=by have:=r.dp;omega
theorem cz.units{k:Nat}{A:Around}(r:cz k A):A.units+64 < cLine:=by have:=r.un;omega
def sN:TA:=fun _ H Q=>Q [] H
def nD(ta:TE)(tr:TA):TA:=fun σ H Q=>ta σ H fun x H1=>tr σ H1 fun xs H2=>Q (x::xs) H2
section
variable{X:Cx}{e:Expr}{es:List Expr}{te:TE}{t:TA}{pos:Pos}
theorem fO:PA X [] sN:=fun _ _ _ _ H Q I h=>Calls.spliced_nil ⟨[],H,I,.nil,h⟩
theorem cq(ha:PE X e te)(hr:PA X es t)(hs:starEach (e::es) X.env=(false,eval e X.env)::starEach es X.env:=by rfl):PA X (e::es) (nD te t):=by
 intro pos pins s σ H Q I h
 rw[hs]
 show wpAny _ _ (spliced ((false,eval e X.env)::backTo pos (starEach es X.env))) _ _ s
 refine Calls.spliced_cons (thn (ha pins s σ H _ I h) fun u s1 ⟨x,H1,I1,r1,q1⟩=>?_)
 exact thn (hr pos pins s1 σ H1 _ I1 q1) fun us s2 ⟨xs,H2,I2,r2,q2⟩=>⟨x::xs,H2,I2,.cons r1 r2,q2⟩
def At(t:TA):TE:=fun σ H Q=>t σ H fun xs H1=>xs.length<=sizeLine/\∀p,H1 p=none->Q (.ref p) (upd H1 p (.tup xs))
def Ax(t:TA):TE:=fun σ H Q=>t σ H fun xs H1=>xs.length<=sizeLine/\∀p,H1 p=none->Q (.ref p) (upd H1 p (.lst xs))
theorem mO{x1}(h:PA X es t):PE X (.Tuple es x1 pos) (At t):=by
 intro pins s σ H Q I hq
 refine wpAny_Tuple_spliced (thn (h pos pins s σ H _ I hq) fun us s1 ⟨xs,H1,I1,r,z,q⟩=>⟨by rw[<- r.length];exact z,?_⟩)
 have hf:H1 s1.heap.objs.size=none:=I1.hok.fresh (Nat.le_refl _)
 refine⟨.ref s1.heap.objs.size,upd H1 s1.heap.objs.size (.tup xs),I1.laid (t':=s1.toks) (fun b u e=>Heap.get?_push_of_some _ e) (Nat.le_refl _) ?_,rfl,q _ hf⟩
 exact⟨z,us,r,⟨_,Heap.get?_push_size _ rfl,rfl,_,rfl⟩⟩
theorem v4(h:PA X es t):PE X (.List es pos) (Ax t):=by
 intro pins s σ H Q I hq
 refine wpAny_List_spliced (thn (h pos pins s σ H _ I hq) fun us s1 ⟨xs,H1,I1,r,z,q⟩=>⟨by rw[<- r.length];exact z,?_⟩)
 have hf:H1 s1.heap.objs.size=none:=I1.hok.fresh (Nat.le_refl _)
 refine⟨.ref s1.heap.objs.size,upd H1 s1.heap.objs.size (.lst xs),I1.laid (t':=s1.toks) (fun b u e=>Heap.get?_push_of_some _ e) (Nat.le_refl _) ?_,rfl,q _ hf⟩
 exact⟨z,us,0,r,Heap.get?_push_size _ rfl⟩
end
abbrev Sp:=List V->Hp->VK->XK->Prop
abbrev CXT:=List Env->Hp->Shared->XK->Value->Shared->Prop
structure nw(P:Program)(w:World)(K:PySem.W.Frag)(mg:Str->Option Value)(base:Heap)(A:Around)(outer:List Env)(s:Shared)(H:Hp):Prop where
 frames:A.frames=some outer
 mod:Mod K mg base
 bs:∀b o,base.get? b=some o->s.heap.get? b=some o/\H b=none
 bsz:base.objs.size<=s.heap.objs.size
 funs:s.heap.FunFrames base outer
 frf:∀b∈frs outer,H b=none
 hok:HOk P w H s.heap
 bare:AllBare s.gens
def CE(outer:List Env)(P:Program)(w:World)(H:Hp)(s:Shared)(Q:VK)(u:Value)(s':Shared):Prop :=
 ∃v H',s'.os=s.os/\AllBare s'.gens/\Un (frs outer) [] H H' s.heap s'.heap/\HOk P w H' s'.heap/\aT v u/\Q v H'
def CR(CX:CXT)(outer:List Env)(P:Program)(w:World)(H:Hp)(s:Shared)(Q:VK)(E:XK)(r:Result)(s':Shared):Prop :=
 match r with
 | .ok (.ret u)=>CE outer P w H s Q u s'
 | .ok _=>False
 | .error e=>CX outer H s E e s'
structure bC(P:Program)(w:World)(K:PySem.W.Frag)(mg:Str->Option Value)(base:Heap)(CX:CXT)(k:Nat)(f:Addr)(fd:FuncData)(ps:List Str)(sp:Sp):Prop where
 len:∀vs H Q E,sp vs H Q E->vs.length=ps.length
 run:∀(A:Around) (outer:List Env) (s:Shared) (H:Hp) (args:Args) (us:List Value) (vs:List V) (Q:VK) (E:XK),cz k A->nw P w K mg base A outer s H->BindsTo s fd args (ps.zip us)->aw vs us->sp vs H Q E ->
  codeAny (model P w) A (.call (.ref f) args) (CR CX outer P w H s Q E) s
theorem bC.mono{P:Program}{w:World}{K:PySem.W.Frag}{mg:Str->Option Value}{base:Heap}{CX:CXT}{j k:Nat}{f:Addr}{fd:FuncData}{ps:List Str}{sp:Sp}(F:bC P w K mg base CX j f fd ps sp)(h:j<=k) :
  bC P w K mg base CX k f fd ps sp:=⟨F.len,fun A outer s H args us vs Q E hr=>F.run A outer s H args us vs Q E (hr.mono h)⟩
theorem bC.imp{P:Program}{w:World}{K:PySem.W.Frag}{mg:Str->Option Value}{base:Heap}{CX:CXT}{k:Nat}{f:Addr}{fd:FuncData}{ps:List Str}{sp sp':Sp}(F:bC P w K mg base CX k f fd ps sp)
  (h:∀vs H Q E,sp' vs H Q E->sp vs H Q E):bC P w K mg base CX k f fd ps sp' :=
 ⟨fun vs H Q E q=>F.len vs H Q E (h _ _ _ _ q),fun A outer s H args us vs Q E hr he hb hv hs=>F.run A outer s H args us vs Q E hr he hb hv (h _ _ _ _ hs)⟩
theorem nw.make{P:Program}{w:World}{K:PySem.W.Frag}{mg:Str->Option Value}{base:Heap}{A:Around}{outer:List Env}{s:Shared}{H:Hp}(e:nw P w K mg base A outer s H)(C:Addr)(us:List Value)(kw:List (Str×Value)) :
  nw P w K mg base (A.under (.builtin "type.__call__" ⟨.ref C::us,kw⟩)) outer s H:=⟨by first | exact e.frames |(simpa[Around.under,Code.envs,Code.isFrame,pushEnvs]using e.frames),e.mod,e.bs,e.bsz,e.funs,e.frf,e.hok,e.bare⟩
section
variable{X:Cx}{pins:List (Addr×Obj)}{σ:St}{H:Hp}{s s':Shared}
theorem Inv.env0(I:Inv X pins σ H s):nw X.prog X.w X.K X.mg X.base X.A X.stack s H :=
 ⟨I.ok.frames,I.ok.mod,I.bs,Nat.le_trans I.ok.bsz I.sz,I.stack,I.stkFree,I.hok,I.bare⟩
theorem Inv.after{Q:VK}{u:Value}(I:Inv X pins σ H s)(h:CE X.stack X.prog X.w H s Q u s'):EP X pins σ Q u s':=by
 obtain⟨v,H',os,bare,un,hok,r,q⟩:=h
 obtain⟨hh,g,d,t,os'⟩:=s'
 obtain rfl:os'=s.os:=os
 exact⟨v,H',I.call (h':=hh) (g':=g) (d':=d) (t':=t) (ch:=[]) un hok bare (fun b z=>absurd z (by simp)),r,q⟩
end
def cE(K:PySem.W.Frag)(fd:FuncData)(ps:List Str)(ds:List Value):Prop :=
 ∀(s:Shared) (us:List Value),K.In s.heap->(us++ds).length=ps.length->BindsTo s fd ⟨us,[]⟩ (ps.zip (us++ds))
theorem cE.all{K:PySem.W.Frag}{fd:FuncData}{ps:List Str}(h:∀us:List Value,us.length=ps.length->bindArgs fd ⟨us,[]⟩=pure (ps.zip us)):cE K fd ps []:=fun s us _ hl=>by
 rw[List.append_nil]at hl ⊢
 exact .of_eq (h us hl)
section
variable{X:Cx}{CX:CXT}{k:Nat}{f C:Addr}{fd:FuncData}{ps:List Str}{sp:Sp}{dvs:List V}{ds:List Value}{E:XK}{x m:Str}{p pos apos:Pos}{e o:Expr}{es:List Expr}{ta:TE}{t:TA}
structure Mk(K:PySem.W.Frag)(C f:Addr):Prop where
 makes:PySem.W.makesIn K C=true
 init:PySem.W.findIn K (.ref C) "__init__" = some (some (.ref f))
 fn:PySem.W.isFn K (.ref f)=true
 kp:PySem.W.keepIn K (.ref C)=true
end
def PK(X:Cx)(kws:List Keyword)(t:TA):Prop :=
 ∀(pos:Pos) (pins:List (Addr×Obj)) (s:Shared) (σ:St) (H:Hp) (Q:List V->Hp->Prop),Inv X pins σ H s->t σ H Q->wpAny (model X.prog X.w) X.A (evalAll ((backToKw pos (keywordEach kws X.env)).map (·.2))) (AP X pins σ Q) X.xe s
section
variable{X:Cx}{CX:CXT}{k:Nat}{f C:Addr}{fd:FuncData}{ps ks:List Str}{sp:Sp}{E:XK}{x m:Str}{p pos apos kpos:Pos}{e o:Expr}{es:List Expr}{kws:List Keyword}{te ta:TE}{t tk:TA}{nm:Option Str}
theorem vV:PK X [] sN:=fun _ _ _ _ H Q I h=>wpAny_evalAll_nil ⟨[],H,I,.nil,h⟩
theorem tK(ha:PE X e te)(hr:PK X kws t):PK X (⟨nm,e,kpos⟩::kws) (nD te t):=by
 intro pos pins s σ H Q I h
 show wpAny _ _ (evalAll ((do let v <- eval e X.env;standAt pos;pure v)::(backToKw pos (keywordEach kws X.env)).map (·.2))) _ _ s
 refine wpAny_evalAll_cons (wpAny_bind (thn (ha pins s σ H _ I h) fun u s1 ⟨x,H1,I1,r1,q1⟩=>wpAny_bind (wpAny_standAt (wpAny_pure ?_))))
 exact thn (hr pos pins s1 σ H1 _ I1 q1) fun us s2 ⟨xs,H2,I2,r2,q2⟩=>⟨x::xs,H2,I2,.cons r1 r2,q2⟩
structure Bd(K:PySem.W.Frag)(fd:FuncData)(ps ks:List Str)(g:List Value->List Value->List Value)(gV:List V->List V->List V):Prop where
 to:∀(s:Shared) (us ws:List Value),K.In s.heap->(g us ws).length=ps.length->BindsTo s fd ⟨us,ks.zip ws⟩ (ps.zip (g us ws))
 rel:∀{vs:List V}{us:List Value}{zs:List V}{ws:List Value},aw vs us->aw zs ws->aw (gV vs zs) (g us ws)
variable{g:List Value->List Value->List Value}{gV:List V->List V->List V}
end
structure bP(N P:List Str)(sc:Scope):Prop where
 kind:sc.kind=.function
 co:sc.isCoroutine=false
 gen:sc.isGenerator=false
 nd:N.Nodup
 pre:N.take P.length=P
 par:∀x∈P,sc.names.lookup x=some .local\/sc.names.lookup x=some .cell
 nofree:∀y∈sc.names,y.2≠.free
theorem j5{kindOf:Str->Option NameKind}{x:Str}:∀{binds:List (Str×Value)}{m:Str->Option Value},(∀v,(x,v)∉ binds)->bindL kindOf binds m x=m x
 | [],_,_=>rfl
 |(n,v)::r,m,h=>by
  unfold bindL
  rw[j5 fun w hw=>h w (List.mem_cons_of_mem _ hw)]
  split
  ·have:x≠n:=by rintro rfl;exact h v List.mem_cons_self
   simp[this]
  ·rfl
theorem j7{kindOf:Str->Option NameKind}{x:Str}:∀{binds:List (Str×Value)}{m:Str->Option Value},(∀v,(x,v)∉ binds)->bindC kindOf binds m x=m x
 | [],_,_=>rfl
 |(n,v)::r,m,h=>by
  unfold bindC
  rw[j7 fun w hw=>h w (List.mem_cons_of_mem _ hw)]
  split
  ·rfl
  ·have:x≠n:=by rintro rfl;exact h v List.mem_cons_self
   simp[this]
theorem j6{kindOf:Str->Option NameKind}{x:Str}{v:Value}:∀{P:List Str}{vs:List Value}{i:Nat}{m:Str->Option Value},P.Nodup->P[i]?=some x->vs[i]?=some v->kindOf x=some .local ->
  bindL kindOf (P.zip vs) m x=some v
 | [],_,_,_,_,h,_,_ | _::_,[],_,_,_,_,h,_=>by simp at h
 | p::P,w::vs,0,m,nd,h1,h2,hk=>by
  simp at h1 h2;subst h1;subst h2
  show bindL kindOf ((p,w)::P.zip vs) m p=_
  unfold bindL
  rw[j5 fun v hv=>(List.nodup_cons.mp nd).1 (List.of_mem_zip hv).1,if_pos hk]
  simp
 | p::P,w::vs,i+1,m,nd,h1,h2,hk=>by
  show bindL kindOf ((p,w)::P.zip vs) m x=_
  unfold bindL
  exact j6 (i:=i) (List.nodup_cons.mp nd).2 (by simpa using h1) (by simpa using h2) hk
theorem j8{kindOf:Str->Option NameKind}{x:Str}{v:Value}:∀{P:List Str}{vs:List Value}{i:Nat}{m:Str->Option Value},P.Nodup->P[i]?=some x->vs[i]?=some v->kindOf x≠some .local ->
  bindC kindOf (P.zip vs) m x=some v
 | [],_,_,_,_,h,_,_ | _::_,[],_,_,_,_,h,_=>by simp at h
 | p::P,w::vs,0,m,nd,h1,h2,hk=>by
  simp at h1 h2;subst h1;subst h2
  show bindC kindOf ((p,w)::P.zip vs) m p=_
  unfold bindC
  rw[j7 fun v hv=>(List.nodup_cons.mp nd).1 (List.of_mem_zip hv).1,if_neg hk]
  simp
 | p::P,w::vs,i+1,m,nd,h1,h2,hk=>by
  show bindC kindOf ((p,w)::P.zip vs) m x=_
  unfold bindC
  exact j8 (i:=i) (List.nodup_cons.mp nd).2 (by simpa using h1) (by simpa using h2) hk
def eE(N:List Str)(vs:List V):St:=vs.map some++List.replicate (N.length - vs.length) none
def cB(CX:CXT)(P:Program)(w:World)(K:PySem.W.Frag)(mg:Str->Option Value)(base:Heap)(N:List Str)(qual:Str)(scope:Scope)(f:Addr)(cd:Value)(A:Around)(outer:List Env)(s:Shared)(H:Hp)(E:XK):Cx where
 prog:=P
 w:=w
 K:=K
 mg:=mg
 base:=base
 A:=A.deeper (envOfC qual scope s.heap.objs.size f cd)
 N:=N
 s₀:=s
 H₀:=H
 env:=envOfC qual scope s.heap.objs.size f cd
 outer:=outer
 stack:=envOfC qual scope s.heap.objs.size f cd::outer
 ex:=[]
 calm:=true
 fn:=fun _=>true
 pn:=[]
 xe:=fun e s'=>wpAny (model P w) (A.deeper (envOfC qual scope s.heap.objs.size f cd)) (leaving (envOfC qual scope s.heap.objs.size f cd) e) (fun _ s''=>CX outer H s E e s'') (fun e' s''=>CX outer H s E e' s'') s'
theorem lU{sc:Scope}{n:Nat}{x:Str}(h:sc.names.lookup x=some .cell):∃c,(cellsFrom n sc.names []).lookup x=some c:=by
 have q:=PySem.W.cellsFrom_some sc.names n [] (.inl h)
 exact Option.isSome_iff_exists.mp q
theorem pK{CX:CXT}{P:Program}{w:World}{K:PySem.W.Frag}{mg:Str->Option Value}{base:Heap}{N ps:List Str}{qual:Str}{scope:Scope}{f:Addr}{cd:Value}{A:Around}{outer:List Env}{s s1:Shared}{H:Hp}{E:XK}{us:List Value}{vs:List V}
  (S:bP N ps scope) (hd:A.handled=none) (e0:nw P w K mg base A outer s H) (hl:vs.length=ps.length) (r:aw vs us)
  (x:InCallC s s.heap.objs.size (bindL (envOfC qual scope s.heap.objs.size f cd).kindOf (ps.zip us) fun _=>none) (cellsFrom (s.heap.objs.size+1) scope.names []) (bindC (envOfC qual scope s.heap.objs.size f cd).kindOf (ps.zip us) fun _=>none) s1) :
  Inv (cB CX P w K mg base N qual scope f cd A outer s H E) [] (eE N vs) H s1:=by
 have hpl:ps.length<=N.length:=by have:=congrArg List.length S.pre;rw[List.length_take]at this;omega
 obtain⟨h1,tk,rfl,hk⟩:=x.done
 have noA:∀b:Addr,b ∉(cB CX P w K mg base N qual scope f cd A outer s H E).ex:=fun b z=>absurd (show b ∈([]:List Addr)from z) (by simp)
 refine ⟨⟨e0.mod,S.kind,rfl,rfl,Nat.le_refl _,fun y z c h1 h2=>?_,fun y hy=>?_,fun y c _ h=>?_,fun _=>hd,Around.frames_deeper e0.frames,.inr ⟨rfl,rfl⟩,fun b z=>absurd z (noA b),e0.bs,e0.bsz,fun b _ _=>noA b,fun b z=>absurd z (noA b),e0.funs,e0.frf⟩,
  rfl,e0.bare,Un.kept hk,⟨_,x.toInCall.ns,fun i y v h1 h2 h3=>?_⟩,fun y c h=>⟨_,x.cell y c h⟩,e0.hok.fresh (Nat.le_refl _),fun y c h=>?_,fun p hp=>absurd (show p ∈([]:List (Addr×Obj))from hp) (by simp),e0.hok.kept hk,?_⟩
 ·exact name_of_addr x.apart (PySem.mem_of_lookup h1) (PySem.mem_of_lookup h2)
 ·have hy:scope.names.lookup y=some .cell\/scope.names.lookup y=some .free:=hy
  rcases hy with hy | hy
  ·exact lU hy
  ·exact absurd rfl (S.nofree _ (PySem.mem_of_lookup hy))
 ·exact Nat.le_of_lt (x.above y c (PySem.mem_of_lookup h))
 ·have hi:i < vs.length:=by
   unfold eE at h2
   by_cases hi:i < vs.length
   ·exact hi
   ·rw[List.getElem?_append_right (by simpa using hi)]at h2
    rw[List.getElem?_replicate]at h2
    split at h2<;>cases h2
  have ha:vs[i]?=some v:=by
   unfold eE at h2
   rw[List.getElem?_append_left (by simpa using hi),List.getElem?_map]at h2
   cases e:vs[i]? with
   | none=>rw[e]at h2;cases h2
   | some a=>rw[e]at h2;cases h2;rfl
  obtain⟨u,hu,rv⟩:=r.get ha
  have hp:ps[i]?=some y:=by
   rw[<- S.pre,List.getElem?_take_of_lt (by omega)];exact h1
  have ndP:ps.Nodup:=by rw[<- S.pre];exact S.nd.sublist (List.take_sublist _ _)
  refine⟨u,rv,?_⟩
  rcases S.par y (List.mem_of_getElem? hp)with k | k
  ·exact .inl ⟨k,j6 ndP hp hu k⟩
  ·obtain⟨c,e⟩:=lU (n:=s.heap.objs.size+1) k
   refine .inr ⟨.inl k,c,e,?_⟩
   have q:=x.cell y c e
   rw[j8 ndP hp hu (by show scope.names.lookup y≠_;rw[k];decide)]at q
   exact q
 ·exact e0.hok.fresh (Nat.le_of_lt (x.above y c (PySem.mem_of_lookup h)))
 ·unfold eE
  show _=N.length
  rw[List.length_append,List.length_map,List.length_replicate]
  omega
theorem oH{CX:CXT}{P:Program}{w:World}{K:PySem.W.Frag}{mg:Str->Option Value}{base:Heap}{k:Nat}{f:Addr}{name qual:Str}{params:Arguments}{body:List Stmt}{scope:Scope}{dV kV doc pm cdv ct oc:Value}{an od:Option Addr}
  {osl:Array (Option Value)}{N ps:List Str}{sp:Sp} (lk:K.lookup f=some ⟨oc,od,.func (PySem.W.fnOf name qual params body scope dV kV doc pm an cdv ct),osl⟩) (hcd:PySem.W.codeIn K cdv qual=true) (S:bP N ps scope)
  (len:∀vs H Q E,sp vs H Q E->vs.length=ps.length)
  (hbody:∀ (A:Around) (outer:List Env) (s:Shared) (H:Hp) (vs:List V) (Q:VK) (E:XK),cz k (A.deeper (envOfC qual scope s.heap.objs.size f cdv))->sp vs H Q E ->
   ∃t,PSs (cB CX P w K mg base N qual scope f cdv A outer s H E) body t/\t { nx:=fun _ H'=>Q .non H',rt:=Q } (eE N vs) H) :
  bC P w K mg base CX (k+1) f (PySem.W.fnOf name qual params body scope dV kV doc pm an cdv ct) ps sp:=by
 refine⟨len,fun A outer s H args us vs Q E hr e0 hb r hsp=>?_⟩
 have hl:=len _ _ _ _ hsp
 have KX:K.In s.heap:=e0.mod.kin.keeps fun b o e=>(e0.bs b o e).1
 have lim:s.heap.NoLimit:=e0.mod.nolimit.keeps fun b o e=>(e0.bs b o e).1
 have hkind:∀y∈ps.zip us,scope.names.lookup y.1=some .local \/(scope.names.lookup y.1=some .cell/\((cellsFrom (s.heap.objs.size+1) scope.names []).lookup y.1).isSome=true):=fun⟨n,v⟩ hy=>by
  rcases S.par n (List.of_mem_zip hy).1 with q | q
  ·exact .inl q
  ·exact .inr ⟨q,PySem.W.cellsFrom_some _ _ _ (.inl q)⟩
 refine codeAny_call_function hr.depth (KX _ _ lk) rfl S.co S.gen rfl (PySem.W.codeRec_of KX hcd) (hb _ _ _ _ ?_)
 refine wpAny_newFunctionEnv_cells S.kind hkind fun env he s1 x=>?_
 subst he
 refine⟨lim.keeps x.toInCall.keep,codeAny_func ?_⟩
 obtain⟨t,ht,hq⟩:=hbody A outer s H vs Q E (hr.deeper _) hsp
 have I:Inv (cB CX P w K mg base N qual scope f cdv A outer s H E) [] (eE N vs) H s1:=pK S hr.hd e0 hl r x
 refine wpAny_mono (ht [] s1 (eE N vs) H _ I hq) (fun fl s' hs=>?_) fun e s' hs=>hs
 have fin:∀{σ':St}{H':Hp}{v:V}{u:Value},Inv (cB CX P w K mg base N qual scope f cdv A outer s H E) [] σ' H' s'->aT v u->Q v H'->CE outer P w H s Q u s' :=
  fun {σ' H' v u} J rv q=>⟨v,H',J.os,J.bare,J.base,J.hok,rv,q⟩
 cases fl with
 | ret u =>
  obtain⟨v,σ',H',J,rv,q⟩:=hs
  exact fin J rv q
 | next =>
  obtain⟨σ',H',J,q⟩:=hs
  exact fin (v:=V.non) (u:=Value.none) J rfl q
 | brk =>
  obtain⟨_,_,_,q⟩:=hs
  exact False.elim q
 | cont =>
  obtain⟨_,_,_,q⟩:=hs
  exact False.elim q
end L2
namespace L2
open PySem PySem.Spec PyProof.Rows
section
variable{X:Cx}{x:Str}{p pos:Pos}{e:Expr}{es:List Expr}{t:TA}{id T:String}{r:List V->Hp->VK->Prop}
def tCB(r:List V->Hp->VK->Prop)(t:TA):TE:=fun σ H Q=>t σ H fun vs H1=>r vs H1 Q
theorem iS(hc:dC X (.builtin id) r)(hg:Gl X x)(hm:X.mg x=none)(hv:bootBuiltins x=some (.builtin id))(ha:PA X (e::es) t)(hn:x≠"__name__" := by decide)(hdb:(x ==("__debug__" : Str))=false:=by decide)
  (he:starEach (e::es) X.env=(false,eval e X.env)::starEach es X.env:=by rfl) (hpl:(backTo pos (starEach es X.env)).any (·.1)=false:=by rfl):PE X (.Call (.Name x p) (e::es) [] pos) (tCB r t):=by
 intro pins s σ H Q I h
 refine wpAny_Call_Name_kw (i6 I hg hm hv ?_ hn hdb)
 exact PyProof.Rows.callWith_builtin1 (thn (ha pos pins s σ H _ I h) fun us s1 ⟨vs,H1,I1,r1,q1⟩=>hc pins s1 σ H1 vs us Q I1 r1 q1) he hpl
theorem jQ(hc:dC X (.type T) r)(hg:Gl X x)(hm:X.mg x=none)(hv:bootBuiltins x=some (.type T))(ha:PA X (e::es) t)(hn:x≠"__name__" := by decide)(hdb:(x ==("__debug__" : Str))=false:=by decide)
  (he:starEach (e::es) X.env=(false,eval e X.env)::starEach es X.env:=by rfl) (hpl:(backTo pos (starEach es X.env)).any (·.1)=false:=by rfl):PE X (.Call (.Name x p) (e::es) [] pos) (tCB r t):=by
 intro pins s σ H Q I h
 refine wpAny_Call_Name_kw (i6 I hg hm hv ?_ hn hdb)
 exact PyProof.Rows.callWith_type1 (thn (ha pos pins s σ H _ I h) fun us s1 ⟨vs,H1,I1,r1,q1⟩=>hc pins s1 σ H1 vs us Q I1 r1 q1) he hpl
end
end L2
namespace HT
open PySem PyProof.Rows
section
open PySem.SeqAt
open PySem.AutoSeq1 (wpAny_loadPart')
open PySem.MeetsSeq PySem.MeetsSeq2 PySem.MeetsSeq3
end
section
variable{prog:Program}{w:World}{A:Around}{E:Value->Shared->Prop}{s:Shared}
def sIx(n d:Nat):Option Int->Nat
 | none=>d
 | some v=>if v < 0 then(v+(n:Int)).toNat else min v.toNat n
theorem sIx_none(n d:Nat):sIx n d none=d:=rfl
theorem sIx_nat(n d k:Nat):sIx n d (some (k:Int))=min k n:=by
 show(if(k:Int) < 0 then((k:Int)+(n:Int)).toNat else min (k:Int).toNat n)=min k n
 rw[if_neg (by omega),Int.toNat_natCast]
end
end HT
namespace L2
open PySem PySem.Spec PyProof.Rows
abbrev TO:=St->Hp->(Option Int->Hp->Prop)->Prop
def PO(X:Cx)(e:Option Expr)(t:TO):Prop :=
 ∀(pins:List (Addr×Obj)) (s:Shared) (σ:St) (H:Hp) (Q:Option Int->Hp->Prop),Inv X pins σ H s->t σ H Q ->
  wpAny (model X.prog X.w) X.A (evalPart e X.env) (fun u s'=>∃o H',Inv X pins σ H' s'/\IsPart u o/\Q o H') X.xe s
def sM:TO:=fun _ H Q=>Q none H
def yp(t:TE):TO:=fun σ H Q=>t σ H fun x H1=>∃i,x=.int i/\Q (some i) H1
section
variable{X:Cx}{e:Expr}{te:TE}{lo hi:Option Expr}{tl th:TO}{pos p2:Pos}
theorem nZ:PO X none sM:=by
 intro pins s σ H Q I h
 rw[evalPart_none]
 exact wpAny_pure ⟨none,H,I,.none,h⟩
theorem nY(h:PE X e te):PO X (some e) (yp te):=by
 intro pins s σ H Q I hw
 rw[evalPart_some]
 refine thn (h pins s σ H _ I hw) fun u s1 ⟨x,H1,I1,r1,q1⟩=>?_
 obtain⟨i,rfl,q⟩:=q1
 obtain⟨t,rfl⟩:=r1
 exact⟨some i,H1,I1,.int i t,q⟩
def SlR(X:Cx)(r:V->Option Int->Option Int->Hp->VK->Prop):Prop :=
 ∀(pins:List (Addr×Obj)) (s:Shared) (σ:St) (H:Hp) (x:V) (v vl vu:Value) (lo hi:Option Int) (sl:Addr) (Q:VK),Inv X pins σ H s->aT x v->s.heap.IsSliceOf sl vl vu .none->IsPart vl lo->IsPart vu hi->r x lo hi H Q ->
  ∃T id,typeLookup (.type T) "__getitem__" = pure (some (.builtin id))/\s.TypeIs v T/\wpAny (model X.prog X.w) X.A (getItem v (.ref sl)) (EP X pins σ Q) X.xe s
def tSl(r:V->Option Int->Option Int->Hp->VK->Prop)(te:TE)(tl th:TO):TE:=fun σ H Q=>te σ H fun x H1=>tl σ H1 fun l H2=>th σ H2 fun u H3=>r x l u H3 Q
theorem k_{r:V->Option Int->Option Int->Hp->VK->Prop}(hr:SlR X r)(he:PE X e te)(hl:PO X lo tl)(hu:PO X hi th):PE X (.Subscript e (.Slice lo hi none p2) pos) (tSl r te tl th):=by
 intro pins s σ H Q I h
 refine Subscript_ (thn (he pins s σ H _ I h) fun v s1 ⟨x,H1,I1,r1,q1⟩=>?_)
 refine wpAny_Slice (thn (hl pins s1 σ H1 _ I1 q1) fun vl s2 ⟨l,H2,I2,pl,q2⟩=>thn (hu pins s2 σ H2 _ I2 q2) fun vu s3 ⟨u,H3,I3,pu,q3⟩=>?_)
 rw[evalPart_none]
 refine wpAny_pure ?_
 have I4:Inv X pins σ H3 { s3 with heap:=s3.heap.push { cls:=.type "slice", data:=.fields #[vl,vu,.none] } }:=I3.kept (t':=s3.toks) fun b ob q=>Heap.get?_push_of_some _ q
 obtain⟨T,id,hT,ht,hg⟩:=hr pins { s3 with heap:=s3.heap.push { cls:=.type "slice", data:=.fields #[vl,vu,.none] } } σ H3 x v vl vu l u s3.heap.objs.size Q I4 r1 (Heap.IsSliceOf.new ..) pl pu q3
 show wpAny (model X.prog X.w) X.A (subscriptTail e (.Slice lo hi none p2) v (.ref s3.heap.objs.size)) (EP X pins σ Q) X.xe { s3 with heap:=s3.heap.push { cls:=.type "slice", data:=.fields #[vl,vu,.none] } }
 exact tail_any (ops:=[.ref s3.heap.objs.size,v]) ht hT hg (by with_unfolding_all rfl)
def nk(xs:List V)(lo hi:Option Int):List V:=(xs.drop (HT.sIx xs.length 0 lo)).take (HT.sIx xs.length xs.length hi - HT.sIx xs.length 0 lo)
theorem lR(xs:List V)(lo hi:Option Int):(nk xs lo hi).length<=xs.length:=by
 unfold nk
 rw[List.length_take,List.length_drop]
 omega
end
end L2
namespace L2
open PySem PySem.Spec PyProof.Rows
def ixN(n:Nat)(i:Int):Option Nat:=if 0<=i then(if i < n then some i.toNat else none)else if -(n:Int)<= i then some (i+n).toNat else none
def atI{α:Type}(xs:List α)(i:Int):Option α:=(ixN xs.length i).bind fun j=>xs[j]?
theorem oC{n:Nat}{i:Int}{j:Nat}(h:ixN n i=some j):seqIndex? i n=some j/\j < n/\-(n:Int)<= i/\i < n:=by
 unfold ixN at h
 by_cases h0:0<=i
 ·rw[if_pos h0]at h
  by_cases h1:i < n
  ·rw[if_pos h1]at h
   have e:i.toNat=j:=Option.some.inj h
   exact⟨by rw[seqIndex_of h0 h1,e],by omega,by omega,h1⟩
  ·rw[if_neg h1]at h;cases h
 ·rw[if_neg h0]at h
  by_cases h1:-(n:Int)<= i
  ·rw[if_pos h1]at h
   have e:(i+n).toNat=j:=Option.some.inj h
   exact⟨by rw[seqIndex_neg (by omega) h1,e],by omega,h1,by omega⟩
  ·rw[if_neg h1]at h;cases h
theorem kK{α:Type}{xs:List α}{i:Int}{v:α}(h:atI xs i=some v):∃j,seqIndex? i xs.length=some j/\xs[j]?=some v/\j < xs.length/\-(xs.length:Int)<= i/\i < xs.length:=by
 unfold atI at h
 cases e:ixN xs.length i with
 | none=>rw[e]at h;cases h
 | some j =>
  rw[e]at h
  obtain⟨h1,h2,h3,h4⟩:=oC e
  exact⟨j,h1,h,h2,h3,h4⟩
def fw(b:Expr):Prop:=∀o i,subscripted b false o i=operate [o,i] (getItem o i)
def IxR(X:Cx)(r:R2):Prop :=
 ∀(value slice:Expr) (pins:List (Addr×Obj)) (s:Shared) (σ:St) (H:Hp) (x y:V) (v u:Value) (Q:VK),Inv X pins σ H s->aT x v->aT y u->r x y H Q ->
  subscripted slice false v u=operate [v,u] (getItem v u)->wpAny (model X.prog X.w) X.A (subscriptTail value slice v u) (EP X pins σ Q) X.xe s
def MtR(X:Cx)(id:String)(r:V->List V->Hp->VK->Prop):Prop :=
 ∀(pins:List (Addr×Obj)) (s:Shared) (σ:St) (H:Hp) (x:V) (xs:List V) (v:Value) (us:List Value) (Q:VK),Inv X pins σ H s->aT x v->aw xs us->r x xs H Q ->
  wpAny (model X.prog X.w) X.A (call (.builtin id) (v::us)) (EP X pins σ Q) X.xe s
section
variable{X:Cx}{a b:Expr}{ta tb:TE}{pos:Pos}
theorem IxR.or{r r':R2}(h:IxR X r)(h':IxR X r'):IxR X (fun x y H Q=>r x y H Q\/r' x y H Q):=by
 intro value slice pins s σ H x y v u Q I rx ry q hs
 rcases q with q | q
 ·exact h value slice pins s σ H x y v u Q I rx ry q hs
 ·exact h' value slice pins s σ H x y v u Q I rx ry q hs
theorem uR{r:R2}(hr:IxR X r)(ha:PE X a ta)(hb:PE X b tb)(hs:fw b):PE X (.Subscript a b pos) (tOp r ta tb):=by
 intro pins s σ H Q I h
 exact Subscript_ (xb ha hb I h fun v u s2 x y H2 I2 rx ry q=>hr a b pins s2 σ H2 x y v u Q I2 rx ry q (hs _ _))
def tw(K:PySem.W.Frag):R2:=fun x y H Q=>∃p xs i v,x=.ref p/\y=.int i/\SqL K H p xs/\atI xs i=some v/\Q v H
def tm(K:PySem.W.Frag):R2:=fun x y H Q=>∃p xs i v,x=.ref p/\y=.int i/\SqT K H p xs/\atI xs i=some v/\Q v H
def tq:R2:=fun x y H Q=>∃z i c,x=.str z/\y=.int i/\z.length<=sizeLine/\atI z.cps.toList i=some c/\Q (.str ⟨#[c]⟩) H
theorem t_:IxR X (tw X.K):=by
 intro value slice pins s σ H x y v u Q I rx ry h hs
 obtain⟨p,xs,i,z,rfl,rfl,hq,he,q⟩:=h
 cases rx
 obtain⟨t,rfl⟩:=ry
 obtain⟨its,r,pl,hz⟩:=I.list hq
 obtain⟨j,h1,h2,h3,h4,h5⟩:=kK he
 obtain⟨w,ew,rw'⟩:=r.get h2
 have hl:=r.length
 have hn:=gP
 have fin:EP X pins σ Q w s:=⟨z,H,I,rw',q⟩
 by_cases h0:0<=i
 ·have hj:i.toNat=j:=by
   rw[seqIndex_of h0 h5]at h1
   exact Option.some.inj h1
  exact item_listR pl.isList h0 (by omega) (by rw[hj];simpa using ew) fin hs
 ·have hj:(i+(its.toArray.size:Int)).toNat=j:=by
   rw[seqIndex_neg (by omega) h4]at h1
   rw[List.size_toArray,<- hl]
   exact Option.some.inj h1
  exact subscriptTail_builtinR (x:=w) pl.isList.typeIs slot_list_getitem.lookup
   (wpAny_getItem_list_neg (Q:=fun r s'=>r=w/\EP X pins σ Q r s') pl.isList (by omega) (by rw[List.size_toArray]<;>omega) (by omega) (by rw[hj];simpa using ew) ⟨rfl,fin⟩) hs
theorem wB:IxR X (tm X.K):=by
 intro value slice pins s σ H x y v u Q I rx ry h hs
 obtain⟨p,xs,i,z,rfl,rfl,hq,he,q⟩:=h
 cases rx
 obtain⟨t,rfl⟩:=ry
 obtain⟨its,r,pl,hz⟩:=I.tuple hq
 obtain⟨j,h1,h2,h3,h4,h5⟩:=kK he
 obtain⟨w,ew,rw'⟩:=r.get h2
 have hl:=r.length
 have hn:=gP
 have fin:EP X pins σ Q w s:=⟨z,H,I,rw',q⟩
 exact subscriptTail_builtinR (x:=w) pl.typeIs slot_tuple_getitem.lookup
  (getItem_tuple (j:=j) (Q:=fun r s'=>r=w/\EP X pins σ Q r s') pl (by omega) (by omega) (by rw[List.size_toArray,<- hl];exact h1) (by simpa using ew) ⟨rfl,fin⟩) hs
theorem wC:IxR X tq:=by
 intro value slice pins s σ H x y v u Q I rx ry h hs
 obtain⟨z,i,c,rfl,rfl,hz,he,q⟩:=h
 obtain⟨t,rfl⟩:=rx
 obtain⟨t',rfl⟩:=ry
 obtain⟨j,h1,h2,h3,h4,h5⟩:=kK he
 have hl:z.cps.toList.length=z.length:=by simp[Str.length]
 rw[hl]at h1 h4 h5
 have hn:=gP
 exact tail_any (typeIs_str s z t) slot_str_getitem.lookup (getItem_str (c:=c) (by
  have e1:decide (i < -(2 ^ 63:Int))=false:=decide_eq_false (by omega)
  have e2:decide (i >= 2 ^ 63)=false:=decide_eq_false (by omega)
  rw[e1,e2,Bool.or_false]) (by rw[h1];simpa using h2) ⟨.str ⟨#[c]⟩,H,I.tok _,⟨_,rfl⟩,q⟩) hs
def rIx(K:PySem.W.Frag):R2:=fun x y H Q=>tw K x y H Q\/tm K x y H Q\/tq x y H Q
theorem rq:IxR X (rIx X.K):=t_.or (wB.or wC)
theorem mU(its:List Value)(n j:Nat)(u:Value):Obj.mapSeq (·.setIfInBounds j u) { cls:=.type "list", data:=.seq its.toArray n }={ cls:=.type "list", data:=.seq (its.set j u).toArray n }:=by
 simp[Obj.mapSeq]
theorem Inv.lst{pins:List (Addr×Obj)}{σ:St}{H:Hp}{s:Shared}{p:Addr}{xs:List V}(I:Inv X pins σ H s)(h:H p=some (.lst xs)) :
  ∃(its:List Value) (n:Nat),aw xs its/\s.heap.get? p=some { cls:=.type "list", data:=.seq its.toArray n }/\xs.length<=sizeLine:=by
 obtain⟨z,its,n,r,e⟩:=I.hok p _ h
 exact⟨its,n,r,e,z⟩
theorem Inv.lstUpd{pins:List (Addr×Obj)}{σ:St}{H:Hp}{s:Shared}{p:Addr}{xs ys:List V}{its its':List Value}{n n':Nat}{f:Obj->Obj}(I:Inv X pins σ H s)(h:H p=some (.lst xs))
  (ho:s.heap.get? p=some { cls:=.type "list", data:=.seq its.toArray n }) (hf:f { cls:=.type "list", data:=.seq its.toArray n }={ cls:=.type "list", data:=.seq its'.toArray n' }) (r:aw ys its') (hz:ys.length<=sizeLine) (t:Nat) :
  Inv X pins σ (upd H p (.lst ys)) { s with heap:=s.heap.update p f,toks:=t }:=by
 have e:(s.heap.update p f).get? p=some { cls:=.type "list", data:=.seq its'.toArray n' }:=by
  rw[Heap.get?_update_self f ho (by rw[hf]<;>rfl),hf]
 refine I.write (x:=p) (e:=p) (by rw[h];trivial) (.inl rfl) (fun b u hb q=>(Heap.get?_update_other _ _ (Ne.symm hb)).trans q) ⟨_,e⟩ ?_
 exact⟨hz,its',n',r,e⟩
def yA:V->V->V->Hp->(Hp->Prop)->Prop:=fun o i v H Q=>∃p xs k j,o=.ref p/\i=.int k/\H p=some (.lst xs)/\ixN xs.length k=some j/\Q (upd H p (.lst (xs.set j v)))
theorem qj:zF X yA:=by
 intro pins s σ H o i v ov iv u Q I ro ri rv h
 obtain⟨p,xs,k,j,rfl,rfl,hp,hj,q⟩:=h
 cases ro
 obtain⟨t,rfl⟩:=ri
 obtain⟨its,n,r,ho,hz⟩:=I.lst hp
 obtain⟨h1,h2,h3,h4⟩:=oC hj
 have hl:=r.length
 have hn:=gP
 have I':Inv X pins σ (upd H p (.lst (xs.set j v))) { s with heap:=s.heap.update p (Obj.mapSeq (·.setIfInBounds j u)) } :=
  I.lstUpd hp ho (mU its n j u) (r.set rv j) (by rw[List.length_set];exact hz) s.toks
 by_cases h0:0<=k
 ·have hk:k.toNat=j:=by
   rw[seqIndex_of h0 h4]at h1
   exact Option.some.inj h1
  exact PySem.W.ki_setAt ho h0 (by omega) (by rw[List.size_toArray,<- hl];exact h4) (by rw[hk];exact⟨_,I',q⟩)
 ·have hk:(k+(its.toArray.size:Int)).toNat=j:=by
   rw[seqIndex_neg (by omega) h3]at h1
   rw[List.size_toArray,<- hl]
   exact Option.some.inj h1
  exact PySem.W.ki_setBack ho (by omega) (by rw[List.size_toArray,<- hl];exact h3) (by omega) (by rw[hk];exact⟨_,I',q⟩)
theorem kc(lo hi:Option Int)(n:Nat):(sliceBounds lo hi none n).1=((HT.sIx n 0 lo:Nat):Int)/\(sliceBounds lo hi none n).2.1=((HT.sIx n n hi:Nat):Int)/\(sliceBounds lo hi none n).2.2=1:=by
 refine⟨?_,?_,rfl⟩
 ·cases lo with
  | none=>simp[sliceBounds,HT.sIx]
  | some i =>
   simp only[sliceBounds,HT.sIx,Option.getD_none,show(1:Int) > 0 by decide,if_true]
   by_cases h:i < 0
   ·simp only[h,if_true]<;>omega
   ·simp only[h,if_false]<;>omega
 ·cases hi with
  | none=>simp[sliceBounds,HT.sIx]
  | some i =>
   simp only[sliceBounds,HT.sIx,Option.getD_none,show(1:Int) > 0 by decide,if_true]
   by_cases h:i < 0
   ·simp only[h,if_true]<;>omega
   ·simp only[h,if_false]<;>omega
theorem jt(its:List Value)(lo hi:Option Int):slicePick its.toArray lo hi none=((its.drop (HT.sIx its.length 0 lo)).take (HT.sIx its.length its.length hi - HT.sIx its.length 0 lo)).toArray:=by
 obtain⟨h1,h2,h3⟩:=kc lo hi its.toArray.size
 unfold slicePick
 rw[h1,h2,h3]
 simp only[sliceRange_one,pick_run,List.size_toArray]<;>rfl
def AD(K:PySem.W.Frag):V->Option Int->Option Int->Hp->VK->Prop:=fun x lo hi H Q=>∃a xs,x=.ref a/\SqL K H a xs/\∀p,H p=none->Q (.ref p) (upd H p (.lst (nk xs lo hi)))
theorem nK:SlR X (AD X.K):=by
 intro pins s σ H x v vl vu lo hi sl Q I rx hs pl pu h
 obtain⟨a,xs,rfl,hx,q⟩:=h
 cases rx
 obtain⟨its,r,ht,hz⟩:=I.list hx
 have hlen:=r.length
 refine⟨"list", _,slot_list_getitem.lookup,ht.isList.typeIs,?_⟩
 refine wpAny_getItem_list_slice ht.isList hs pl pu .none (by simp) ?_ (by rw[List.size_toArray]<;>omega)
 rw[jt,<- hlen]
 refine⟨.ref s.heap.objs.size,_,I.laid (t':=s.toks) (o:=.lst (nk xs lo hi)) (fun b ob q=>Heap.get?_push_of_some _ q) (Nat.le_refl _) ?_,rfl,q _ (I.hok.fresh (Nat.le_refl _))⟩
 exact⟨Nat.le_trans (lR xs lo hi) hz,_,0,(r.drop (HT.sIx xs.length 0 lo)).take (HT.sIx xs.length xs.length hi - HT.sIx xs.length 0 lo),Heap.get?_push_size _ rfl⟩
theorem kI:dC X (.builtin "len") (fun xs H Q=>∃p ys,xs=[.ref p]/\(SqL X.K H p ys\/SqT X.K H p ys)/\Q (.int ys.length) H):=by
 intro pins s σ H xs us Q I r h
 obtain⟨p,ys,rfl,hq,q⟩:=h
 obtain⟨u,rfl,rx⟩:=eR r
 cases rx
 have hn:=gP
 rcases hq with hq | hq
 ·obtain⟨its,r',pl,hz⟩:=I.list hq
  have hlen:=r'.length
  exact Calls.call_len_list pl.isList (by simp only[List.size_toArray]<;>omega) ⟨.int ys.length,H,I.tok _,⟨s.toks+1,by rw[List.size_toArray,hlen]⟩,q⟩
 ·obtain⟨its,r',pl,hz⟩:=I.tuple hq
  have hlen:=r'.length
  exact len_tuple pl (by simp only[List.size_toArray]<;>omega) ⟨.int ys.length,H,I.tok _,⟨s.toks+1,by rw[List.size_toArray,hlen]⟩,q⟩
theorem kH:dC X (.type "list") (fun xs H Q=>∃p ys,xs=[.ref p]/\(SqL X.K H p ys\/SqT X.K H p ys)/\∀l,H l=none->Q (.ref l) (upd H l (.lst ys))):=by
 intro pins s σ H xs us Q I r h
 obtain⟨p,ys,rfl,hq,q⟩:=h
 obtain⟨u,rfl,rx⟩:=eR r
 cases rx
 have fin:∀(its:List Value),aw ys its->ys.length<=sizeLine->∀(h':Heap) (c':Nat),(∀b o',s.heap.get? b=some o'->h'.get? b=some o')->
   h'.get? s.heap.objs.size=some { cls:=.type "list", dict:=none,data:=.seq its.toArray c',slots:=#[] }->EP X pins σ Q (.ref s.heap.objs.size) { s with heap:=h' }:=fun its r' hz h' c' kp e =>
  ⟨.ref s.heap.objs.size,_,I.laid (t':=s.toks) kp (Nat.le_refl _) (show b5 X.prog X.w _ h' _ (.lst ys)from⟨hz,its,c',r',e⟩),rfl,q _ (I.hok.fresh (Nat.le_refl _))⟩
 rcases hq with hq | hq
 ·obtain⟨its,r',pl,hz⟩:=I.list hq
  have hlen:=r'.length
  obtain⟨o,ho,hc,n,hd⟩:=pl.isList
  exact call_list_seq p (.inl rfl) ho hc hd (fun h' c' kp e=>fin its r' hz h' c' kp e) (by simp only[List.size_toArray]<;>omega)
 ·obtain⟨its,r',pl,hz⟩:=I.tuple hq
  have hlen:=r'.length
  obtain⟨o,ho,hc,n,hd⟩:=pl
  exact call_list_seq p (.inr rfl) ho hc hd (fun h' c' kp e=>fin its r' hz h' c' kp e) (by simp only[List.size_toArray]<;>omega)
theorem jx:dC X (.type "tuple") (fun xs H Q=>∃p ys,xs=[.ref p]/\((SqL X.K H p ys/\∀l,H l=none->Q (.ref l) (upd H l (.tup ys)))\/(SqT X.K H p ys/\Q (.ref p) H))):=by
 intro pins s σ H xs us Q I r h
 obtain⟨p,ys,rfl,h⟩:=h
 obtain⟨u,rfl,rx⟩:=eR r
 cases rx
 rcases h with⟨hq,q⟩ |⟨hq,q⟩
 ·obtain⟨its,r',pl,hz⟩:=I.list hq
  have hlen:=r'.length
  refine call_tuple_list pl.isList (fun h' kp=>?_) (by simp only[List.size_toArray]<;>omega)
  have I1:Inv X pins σ H { s with heap:=h' }:=I.kept (t':=s.toks) kp
  have I2:Inv X pins σ (upd H h'.objs.size (.tup ys)) { s with heap:=h'.push { cls:=.type "tuple", data:=.seq its.toArray } } :=
   I1.laid (t':=s.toks) (fun b o e=>Heap.get?_push_of_some _ e) (Nat.le_refl _) (show b5 X.prog X.w _ _ _ (.tup ys)from⟨hz,its,r',IsTup.new _ _⟩)
  exact⟨.ref h'.objs.size,_,I2,rfl,q _ (I1.hok.fresh (Nat.le_refl _))⟩
 ·obtain⟨its,r',pl,hz⟩:=I.tuple hq
  exact call_tuple_same pl ⟨.ref p,H,I,rfl,q⟩
def tyV(K:PySem.W.Frag)(T:String)(x:V)(H:Hp):Prop:=match x with
 | .str _=>T = "str"
 | .int _=>T = "int"
 | .ref p=>(T = "list" /\ ∃xs,SqL K H p xs)\/(T = "tuple" /\ ∃o,K.lookup p=some o/\o.cls=.type "tuple" /\ o.dict=none)\/
   (T = "dict" /\((∃kvs,H p=some (.dK kvs))\/ ∃kvs,H p=some (.dT kvs)))\/(T = "set" /\ ∃S n,H p=some (.set S n))
 | _=>False
theorem p7{pins:List (Addr×Obj)}{σ:St}{H:Hp}{s:Shared}{T:String}{x:V}{v:Value}(I:Inv X pins σ H s)(r:aT x v)(ty:tyV X.K T x H) :
  s.TypeIs v T/\∀a,v=.ref a->∃ob,s.heap.get? a=some ob/\ob.dict=none:=by
 cases x with
 | str z =>
  obtain⟨t,rfl⟩:=r
  cases(show T = "str" from ty)
  exact⟨typeIs_str s z t,fun _ e=>nomatch e⟩
 | int i =>
  obtain⟨t,rfl⟩:=r
  cases(show T = "int" from ty)
  exact⟨typeIs_int s i t,fun _ e=>nomatch e⟩
 | ref p =>
  cases r
  rcases ty with⟨rfl,xs,hq⟩ |⟨rfl,o,hk,hc,hd⟩ |⟨rfl,hk⟩ |⟨rfl,S,n,hk⟩
  ·obtain⟨its,_,pl,_⟩:=I.list hq
   refine⟨pl.isList.typeIs,fun a e=>?_⟩
   cases e
   obtain⟨o,n,e,c,hd,_⟩:=pl
   exact⟨o,e,hd⟩
  ·refine⟨⟨o,I.kIn p o hk,hc⟩,fun a e=>?_⟩
   cases e
   exact⟨o,I.kIn _ o hk,hd⟩
  ·have z:∃o,s.heap.get? p=some o/\o.ExactDict:=by
    rcases hk with⟨kvs,hk⟩ |⟨kvs,hk⟩
    ·obtain⟨_,_,_,_,o,_,_,e,ex,_⟩:=I.hok p _ hk
     exact⟨o,e,ex⟩
    ·obtain⟨_,_,_,_,o,_,_,e,ex,_⟩:=I.hok p _ hk
     exact⟨o,e,ex⟩
   obtain⟨o,e,ex⟩:=z
   refine⟨⟨o,e,ex.1⟩,fun a e2=>?_⟩
   cases e2
   exact⟨o,e,ex.2.1⟩
  ·obtain⟨o,_,_,_,e,ex,_⟩:=I.hok p _ hk
   refine⟨⟨o,e,ex.1⟩,fun a e2=>?_⟩
   cases e2
   exact⟨o,e,ex.2.1⟩
 | _=>exact False.elim ty
def AA(K:PySem.W.Frag)(T:String)(r:V->List V->Hp->VK->Prop)(to:TE):TE:=fun σ H Q=>to σ H fun x H1=>tyV K T x H1/\r x [] H1 Q
def tBM(K:PySem.W.Frag)(T:String)(r:V->List V->Hp->VK->Prop)(to:TE)(t:TA):TE:=fun σ H Q=>to σ H fun x H1=>tyV K T x H1/\t σ H1 fun xs H2=>r x xs H2 Q
variable{o e:Expr}{es:List Expr}{to:TE}{t:TA}{name:Str}{apos cpos:Pos}{T id:String}{r:V->List V->Hp->VK->Prop}
theorem qM(pa:PlainAttrs T)(slot:Slot T name id)(hty:typeOf (.builtin id)=pure (.type "method_descriptor"))(hm:MtR X id r)(ho:PE X o to)
  (hbase:attributeBase o name X.env (eval o X.env)=eval o X.env:=by rfl) (hline:(apos.endLine==cpos.line)=true:=by rfl):PE X (.Call (.Attribute o name apos) [] [] cpos) (AA X.K T r to):=by
 intro pins s σ H Q I h
 refine wpAny_Call_method0_late hbase hline (thn (ho pins s σ H _ I h) fun v s1 ⟨x,H1,I1,r1,ty,q1⟩=>?_)
 obtain⟨h1,h2⟩:=p7 I1 r1 ty
 exact⟨T,id,pa,slot,hty,h1,h2,Calls.callWith_builtin rfl (PySem.evalArgs_none (hm pins s1 σ H1 x [] v [] Q I1 r1 .nil q1))⟩
theorem uS(pa:PlainAttrs T)(slot:Slot T name id)(hty:typeOf (.builtin id)=pure (.type "method_descriptor"))(hm:MtR X id r)(ho:PE X o to)(ha:PA X (e::es) t)
  (hbase:attributeBase o name X.env (eval o X.env)=eval o X.env:=by rfl)
  (hfew:((backTo cpos (starEach (e::es) X.env)).all (fun x=>!x.1) && (backToKw cpos (keywordEach [] X.env)).all (fun x=>x.1.isSome)
   && decide ((e::es).length+([]:List Keyword).length+(if([]:List Keyword).isEmpty then 0 else 1) < 30))=true:=by rfl)
  (hline:(apos.endLine==cpos.line)=true:=by rfl) (hs:starEach (e::es) X.env=(false,eval e X.env)::starEach es X.env:=by rfl) (hplain:(backTo cpos (starEach es X.env)).any (·.1)=false:=by rfl) :
  PE X (.Call (.Attribute o name apos) (e::es) [] cpos) (tBM X.K T r to t):=by
 intro pins s σ H Q I h
 refine wpAny_Call_method_late hbase hfew hline rfl (thn (ho pins s σ H _ I h) fun v s1 ⟨x,H1,I1,r1,ty,q1⟩=>?_)
 obtain⟨h1,h2⟩:=p7 I1 r1 ty
 refine⟨T,id,pa,slot,hty,h1,h2,?_⟩
 have hA:=ha cpos pins s1 σ H1 _ I1 q1
 rw[hs]at hA ⊢
 refine Calls.callWith_builtin (by show(false ||(backTo cpos (starEach es X.env)).any (·.1))=false;rw[hplain]<;>rfl) (Calls.evalArgs_plain ?_)
 exact thn hA fun us s2 ⟨vs,H2,I2,r2,q2⟩=>hm pins s2 σ H2 x vs v us Q I2 r1 r2 q2
end
end L2
namespace L2
open PySem PySem.Spec PyProof.Rows
def MtM(X:Cx)(id:String)(r:V->List V->Hp->VK->Prop):Prop :=
 ∀(pins:List (Addr×Obj)) (s:Shared) (σ:St) (H:Hp) (x:V) (xs:List V) (v:Value) (us:List Value) (Q:VK),Inv X pins σ H s->aT x v->aw xs us->r x xs H Q ->
  wpAny (model X.prog X.w) X.A (call (.builtin id) (v::us)) (EP X pins σ Q) X.xe s
theorem aw.one:∀{x:V}{us:List Value},aw [x] us->∃u,us=[u]/\aT x u
 | _,_,.cons r .nil=>⟨_,rfl,r⟩
theorem aw.zero:∀{us:List Value},aw [] us->us=[]
 | _,.nil=>rfl
theorem aw.dropLast{xs:List V}{us:List Value}(h:aw xs us):aw xs.dropLast us.dropLast:=by
 induction h with
 | nil=>exact .nil
 | cons r t ih =>
  cases t with
  | nil=>exact .nil
  | cons q t'=>exact .cons r ih
theorem aw.eraseIdx:∀{xs:List V}{us:List Value} (i:Nat),aw xs us->aw (xs.eraseIdx i) (us.eraseIdx i)
 | _,_,_,.nil=>.nil
 | _,_,0,.cons _ t=>t
 | _,_,i+1,.cons r t=>.cons r (aw.eraseIdx i t)
theorem nh{α:Type}(l:List α):l.eraseIdx (l.length - 1)=l.dropLast:=by
 induction l with
 | nil=>rfl
 | cons a r ih =>
  cases r with
  | nil=>rfl
  | cons b r =>
   have e:(a::b::r).length - 1=((b::r).length - 1)+1:=by
    have h1:(a::b::r).length=r.length+2:=rfl
    have h2:(b::r).length=r.length+1:=rfl
    omega
   rw[e,List.eraseIdx_cons_succ,ih]
   all_goals rfl
section
variable{X:Cx}{pins:List (Addr×Obj)}{σ:St}{H:Hp}{s:Shared}{l b:Addr}{xs ys zs:List V}
theorem Inv.lset{its its':List Value}{n:Nat}{f:Array Value->Array Value}{t':Nat}(I:Inv X pins σ H s)(hH:H l=some (.lst xs))
  (e:s.heap.get? l=some { cls:=.type "list", data:=.seq its.toArray n }) (hf:f its.toArray=its'.toArray) (hv:aw ys its') (hz:ys.length<=sizeLine) :
  Inv X pins σ (upd H l (.lst ys)) { s with heap:=s.heap.update l (Obj.mapSeq f),toks:=t' }:=by
 have q:=PySem.IsL.update e f
 rw[hf]at q
 refine I.write (x:=l) (e:=l) (by rw[hH];exact trivial) (.inl rfl) (fun b' u hb hu=>(Heap.get?_update_other s.heap (Obj.mapSeq f) (Ne.symm hb)).trans hu) ⟨_,q⟩ ?_
 exact⟨hz,its',_,hv,q⟩
theorem Inv.lnew{its:List Value}{t':Nat}(I:Inv X pins σ H s)(hv:aw ys its)(hz:ys.length<=sizeLine) :
  Inv X pins σ (upd H s.heap.objs.size (.lst ys)) { s with heap:=s.heap.push { cls:=.type "list", data:=.seq its.toArray },toks:=t' } :=
 I.laid (fun _ _ q=>Heap.get?_push_of_some _ q) (Nat.le_refl _) ⟨hz,its,0,hv,Heap.get?_push_size _ rfl⟩
theorem Inv.fresh(I:Inv X pins σ H s):H s.heap.objs.size=none:=I.hok.fresh (Nat.le_refl _)
theorem Inv.lstM(I:Inv X pins σ H s)(hH:H l=some (.lst xs)):xs.length<=sizeLine/\∃(its:List Value) (n:Nat),aw xs its/\xs.length=its.length/\s.heap.get? l=some { cls:=.type "list", data:=.seq its.toArray n }:=by
 obtain⟨z,its,n,r,e⟩:=I.hok l _ hH
 exact⟨z,its,n,r,r.length,e⟩
end
section
variable{X:Cx}
def tz:V->List V->Hp->VK->Prop:=fun x vs H Q=>∃l xs y,x=.ref l/\vs=[y]/\H l=some (.lst xs)/\xs.length < sizeLine/\Q .non (upd H l (.lst (xs++[y])))
theorem fh:MtM X "list.append" tz:=by
 intro pins s σ H x vs v us Q I rx rv h
 obtain⟨l,xs,y,rfl,rfl,hH,hz,q⟩:=h
 cases rx
 obtain⟨u,rfl,ru⟩:=rv.one
 obtain⟨z,its,n,r,hl,e⟩:=I.lstM hH
 refine call_meets F.slot_list_append ⟨_,e,rfl⟩ F.entry_list_append (F.args_list_append_2 _ _) (PySem.list_append l its.toArray n u (by rw[List.size_toArray];omega)) ⟨e,?_⟩
 refine⟨.non,_,I.lset (its':=its++[u]) hH e (by simp) (r.append (.cons ru .nil)) ?_,rfl,q⟩
 rw[List.length_append,List.length_singleton]
 omega
def AE:V->List V->Hp->VK->Prop:=fun x vs H Q=>∃l xs y,x=.ref l/\vs=[]/\H l=some (.lst xs)/\xs[xs.length - 1]?=some y/\Q y (upd H l (.lst xs.dropLast))
theorem AM:MtM X "list.pop" AE:=by
 intro pins s σ H x vs v us Q I rx rv h
 obtain⟨l,xs,y,rfl,rfl,hH,hy,q⟩:=h
 cases rx
 have hus:=rv.zero
 subst hus
 obtain⟨z,its,n,r,hl,e⟩:=I.lstM hH
 obtain⟨u,hu,ru⟩:=r.get hy
 have hy':its.toArray[its.toArray.size - 1]?=some u:=by
  show its.toArray[its.length - 1]?=some u
  rw[<- Array.getElem?_toList,<- hl]
  exact hu
 refine call_meets F.slot_list_pop ⟨_,e,rfl⟩ F.entry_list_pop (F.args_list_pop_1 _) (MeetsSeq.list_pop_last l its.toArray n u hy' (by rw[List.size_toArray];omega)) ⟨e,?_⟩
 refine⟨y,_,I.lset (its':=its.dropLast) hH e ?_ r.dropLast ?_,ru,q⟩
 ·show its.toArray.eraseIdxIfInBounds (its.toArray.size - 1)=its.dropLast.toArray
  rw[List.size_toArray,List.eraseIdxIfInBounds_toArray,nh]
 ·rw[List.length_dropLast]
  omega
def vQ:V->List V->Hp->VK->Prop:=fun x vs H Q=>∃l xs,x=.ref l/\vs=[]/\H l=some (.lst xs)/\Q .non (upd H l (.lst []))
theorem lj:MtM X "list.clear" vQ:=by
 intro pins s σ H x vs v us Q I rx rv h
 obtain⟨l,xs,rfl,rfl,hH,q⟩:=h
 cases rx
 have hus:=rv.zero
 subst hus
 obtain⟨z,its,n,r,hl,e⟩:=I.lstM hH
 refine call_meets F.slot_list_clear ⟨_,e,rfl⟩ F.entry_list_clear (F.args_list_clear_1 _) (AutoSeq1.list_clear_list_0 l its.toArray n (by rw[List.size_toArray];omega)) ⟨e,?_⟩
 exact⟨.non,_,I.lset (its':=[]) (ys:=[]) hH e rfl .nil (Nat.zero_le _),rfl,q⟩
end
section
variable{prog:Program}{w:World}{A:Around}{E:Value->Shared->Prop}{s:Shared}
end
section
variable{X:Cx}
end
end L2
namespace Att
open PySem PySem.W PySem.Calls PyProof.Rows
theorem ii{P:Params}{h:Heap}:∀(ns:List Int) (vs:List Value),WellAll P h vs (ns.map WData.int)->IntsAre vs ns:=by
 intro ns
 induction ns with
 | nil =>
  intro vs w
  rw[List.map_nil]at w
  cases w
  exact .nil
 | cons n ns ih =>
  intro vs w
  rw[List.map_cons]at w
  cases w with
  | cons a b =>
   cases a
   exact .cons _ _ (ih _ b)
theorem o6{l:OpenLaw}{n:Nat}(hn:l.most=some n){P:Params}{h:Heap}{args:List WData}{vals:List Value}
  (hpre:l.row.toRowW.claim.pre args=true) (hwl:WellAll P h vals args) :
  ∃a vs ns,vals=[Value.ref a]/\args=[WData.list (ns.map WData.int)]/\h.get? a=some { cls:=.type "list", data:=.seq vs.toArray }/\IntsAre vs ns/\ns.length<=n:=by
 have hsh:WShape.hasAll [] args [.list .int]=true:=(pre_splitW hpre).1
 have hc:l.pre.holds [] { args:=args }=true:=(pre_splitW hpre).2
 obtain⟨d,r,rfl,h1,h2⟩:=hasAllW_cons hsh
 obtain rfl:=hasAllW_nil h2
 obtain⟨xs,rfl,h3⟩:=hasW_list h1
 obtain⟨ns,rfl⟩:=items_int h3
 have hlen:ns.length<=n:=by
  unfold OpenLaw.pre at hc
  have h4:(WTm.not (.lt (.lit (.int (n:Int))) (.len (.arg 0)))).holds [] { args:=[.list (ns.map .int)] }=true:=by
   have h4:=(holds_andW hc).1
   rw[hn]at h4
   exact h4
  have h5:=condW_of h4 (w_not (w_lt w_lit (w_len_list (w_arg rfl))))
  rw[List.length_map]at h5
  refine Nat.le_of_not_lt fun q=>?_
  have q':(n:Int) <((ns.length:Nat):Int):=by omega
  first
   |(rw[decide_eq_true q']at h5;exact absurd h5 (by decide))
   |(simp at h5;omega)
 cases hwl with
 | cons w1 w2 =>
  cases w2
  cases w1 with
  | list ho hall=>exact⟨_,_,ns,rfl,rfl,ho,ii ns _ hall,hlen⟩
theorem pb(l:OpenLaw)(args:List WData):l.row.toRowW.claim.post args (.bool true) args=true :=
 postW_of (r:=l.row.toRowW) (X:=(true==true))
  (show WShape.has [] (.bool true) .bool=true by first | rfl | decide | simp[WShape.has,WShape.arms,WShape.armsAll])
  (show(WTm.eq .res (.lit (.bool true))).value [] { args:=args,res:=some (.bool true),after:=args }=some (.bool (true==true))from w_eq_bool (w_res rfl) w_lit) rfl
theorem attach_call{l:OpenLaw}{n:Nat}{q:Program}{loose:List Str}{XP:(Str->Option Value)->Heap->Prop}{YP:World->Heap->Prop}{d:DefRec}
  (hn:l.most=some n) (hdf:d.params.defaults=[])
  (call:∀ (w:World) (s₀ s₁:Shared) (mg mb:Str->Option Value) (fa:Addr) (o:Obj) (pm cd doc:Value) (a:Addr) (vs:List Value) (ns:List Int),
   Ground q loose [] XP w s₀ mg mb s₁.heap->YP w s₁.heap ->
   s₁.heap.get? fa=some o->o.data=.func (docDef d.name d.params d.body d.scope pm cd doc)->s₁.heap.CodeRec cd d.name->mg d.name=some (.ref fa)->
   s₁.heap.get? a=some { cls:=.type "list", data:=.seq vs.toArray }->IntsAre vs ns->ns.length<=n->s₁.gens=#[]->
   codeAny (model l.prog w) callerA (.call (.ref fa) ⟨[.ref a],[]⟩) (fun r s'=>r=.ok (.ret (.bool true))/\OldK s₁.heap s'.heap/\s'.os=s₁.os/\AllBare s'.gens) s₁) :
  WalkO q loose XP YP l.row.toRowW d [] (fun f vs=>PySem.call f vs):=by
 intro w s₀ s₁ mg mb G Y fa o pm cd doc dV kV ho hd hcd hD hmg hg args vals as hpre hlay hrd hwl hlo
 obtain rfl:dV=.none:=Dflts.none hD hdf
 obtain rfl:kV=.none:=Dflts.noKw hD
 obtain⟨a,vs,ns,rfl,rfl,hobj,hints,hlen⟩:=o6 hn hpre hwl
 refine enter_call (codeAny_mono (call w s₀ s₁ mg mb fa o pm cd doc a vs ns G Y ho (fd_plain hd) hcd hmg hobj hints hlen hg) fun r s' hq=>?_)
 obtain⟨rfl,h2,h3,h4⟩:=hq
 exact⟨.inl ⟨.bool true,.bool true,[],rfl,fun _=>rfl,.bool true,pb l _,fun _=>⟨List.Pairwise.nil,fun _ hm=>(nomatch hm)⟩⟩,h2,h3,h4⟩
section
variable{prog:Program}{w:World}{A:Around}{E:Value->Shared->Prop}{s:Shared}{K:Frag}
end
end Att
namespace L2
open PySem PySem.Spec PyProof.Rows
theorem jE:∀{vs:List Value}{ns:List Int},IntsAre vs ns->aw (ns.map V.int) vs
 | _,_,.nil=>.nil
 | _,_,.cons n t h=>.cons ⟨t,rfl⟩ (jE h)
def xG(H:Hp):Prop:=∀b,H b=none\/∃o xs,H b=some (.frz o (.lst xs))
theorem rk{P:Program}{w:World}{K:PySem.W.Frag}{mg mb:Str->Option Value}{CX:CXT}{k:Nat}{fa a:Addr}{fd:FuncData}{x:Str}{sp:Sp}{s₁:Shared}{vs:List Value}{ns:List Int}
  (KX:K.In s₁.heap) (hns:s₁.heap.Ns mainGlobals mg) (hb:s₁.heap.Ns builtinsNs mb) (hbb:∀x:Str,x≠"__name__" -> mb x=bootBuiltins x) (hlim:s₁.heap.NoLimit) (hg:s₁.gens=#[])
  (ha:s₁.heap.get? a=some { cls:=.type "list", data:=.seq vs.toArray }) (hi:IntsAre vs ns) (hl:ns.length<=sizeLine) (hr:cz k callerA)
  (F:∀base:Heap,K.In base->base.Ns mainGlobals mg->bC P w K mg base CX k fa fd [x] sp) (hbind:∀(s:Shared) (u:Value),BindsTo s fd ⟨[u],[]⟩ [(x,u)])
  (hsp:∀H:Hp,xG H->SqL K H a (ns.map V.int)->sp [.ref a] H (fun v _=>v=.bl true) fun _ _ _=>False)
  (hCX:∀H e s',CX [] H s₁ (fun _ _ _=>False) e s'->False) :
  codeAny (model P w) callerA (.call (.ref fa) ⟨[.ref a],[]⟩) (fun r s'=>r=.ok (.ret (.bool true))/\OldK s₁.heap s'.heap/\s'.os=s₁.os/\AllBare s'.gens) s₁:=by
 have rv:=jE hi
 have lenV:=hi.length
 have core:∀H:Hp,xG H->SqL K H a (ns.map V.int)->HOk P w H s₁.heap->(∀b,H b≠none->b=a)->(H a≠none->K.lookup a=none)->
   codeAny (model P w) callerA (.call (.ref fa) ⟨[.ref a],[]⟩) (fun r s'=>r=.ok (.ret (.bool true))/\OldK s₁.heap s'.heap/\s'.os=s₁.os/\AllBare s'.gens) s₁:=by
  intro H hO hS hok hA hK
  have base_of:∀{b:Addr}{o:Obj},s₁.heap.get? b=some o->H b=none->(kA s₁.heap H).get? b=some o:=fun e n=>rE e n
  have noA:∀{b:Addr}{o:Obj}{es:Array DictEntry}{ep:Nat},s₁.heap.get? b=some o->o.data=.dict es ep->H b=none:=fun {b o es ep} e d=>by
   cases q:H b with
   | none=>rfl
   | some u =>
    have e':b=a:=hA b (by rw[q];simp)
    subst e'
    rw[ha]at e;cases e
    have d':Data.seq vs.toArray _=Data.dict es ep:=d
    cases d'
  have nsK:∀{b:Addr}{m:Str->Option Value},s₁.heap.Ns b m->(kA s₁.heap H).Ns b m:=fun {b m} ⟨o,es,ep,e,d,r⟩=>⟨o,es,ep,base_of e (noA e d),d,r⟩
  have hKb:K.In (kA s₁.heap H):=fun b o e=>base_of (KX b o e) (by
   cases q:H b with
   | none=>rfl
   | some u =>
    have e':b=a:=hA b (by rw[q];simp)
    subst e'
    rw[hK (by rw[q];simp)]at e;cases e)
  have hM:Mod K mg (kA s₁.heap H):=⟨hKb,nsK hns,⟨mb,nsK hb,hbb⟩,let⟨mc,h1,h2⟩:=hlim;⟨mc,nsK h1,h2⟩⟩
  have e0:nw P w K mg (kA s₁.heap H) callerA [] s₁ H:=⟨rfl,hM,fun b o e=>tW e,Nat.le_of_eq (pL _ _),trivial,fun b hb=>absurd (show b ∈([]:List Addr)from hb) (by simp),hok,.of_eq hg⟩
  refine codeAny_mono ((F _ hKb (nsK hns)).run callerA [] s₁ H ⟨[.ref a],[]⟩ [.ref a] [.ref a] _ _ hr e0 (hbind s₁ (.ref a)) (.cons rfl .nil) (hsp H hO hS)) fun r s' h=>?_
  cases r with
  | error e=>exact(hCX H e s' h).elim
  | ok fl =>
   cases fl with
   | next | brk | cont=>exact False.elim h
   | ret u =>
    obtain⟨v,H',os,bare,un,hok',r',q⟩:=h
    have q':v=.bl true:=q
    subst q'
    obtain rfl:u=Value.bool true:=r'
    refine⟨rfl,OldK.of_keep fun b o e=>?_,os,bare⟩
    cases q:H b with
    | none=>exact un.keep b o e q (by intro z;exact absurd (show b ∈([]:List Addr)from z) (by simp)) (by simp)
    | some u =>
     rcases hO b with z |⟨ob,xs,z⟩
     ·rw[q]at z;cases z
     ·have z2:=un.frzs b ob _ z
      obtain⟨e1,_⟩:=hok b _ z
      obtain⟨e2,_⟩:=hok' b _ z2
      rw[e]at e1;cases e1
      exact e2
 cases hk:K.lookup a with
 | some o =>
  have e:=KX a o hk
  rw[ha]at e
  cases e
  refine core (fun _=>none) (fun _=>.inl rfl) (.inr ⟨_,vs.toArray,_,hk,rfl,rfl,rfl,by rw[List.size_toArray,lenV];exact hl,by simpa using rv⟩) (fun b u z=>by have z':(none:Option HO)=some u:=z;cases z') (fun b z=>absurd rfl z) fun z=>absurd rfl z
 | none =>
  refine core (fun b=>if b=a then some (.frz { cls:=.type "list", data:=.seq vs.toArray } (.lst (ns.map V.int)))else none) (fun b=>?_) (.inl (.inr ⟨{ cls:=.type "list", data:=.seq vs.toArray },if_pos rfl⟩)) (fun b u z=>?_) (fun b z=>?_) fun _=>hk
  ·by_cases hb:b=a
   ·exact .inr ⟨_,_,if_pos hb⟩
   ·exact .inl (if_neg hb)
  ·by_cases hb:b=a
   ·have z':=(if_pos hb).symm.trans z
    cases z'
    subst hb
    exact⟨ha,by rw[List.length_map];exact hl,vs,_,rv,ha⟩
   ·have z':=(if_neg hb).symm.trans z
    cases z'
  ·by_cases hb:b=a
   ·exact hb
   ·exact absurd (if_neg hb) z
end L2
namespace L2
open PySem PySem.Spec PyProof.Rows
theorem sJ{l:PySem.W.OpenLaw}{n k:Nat}{q:Program}{loose:List Str}{XP:(Str->Option Value)->Heap->Prop}{YP:World->Heap->Prop}{d:DefRec}{K:Params->PySem.W.Frag}{CX:World->CXT}{sp:World->Sp}{x:Str}
  (hn:l.most=some n) (hn2:n<=sizeLine) (hdf:d.params.defaults=[]) (hr:cz k callerA)
  (hY:∀(w:World) (h:Heap),YP w h->(K w.params).In h)
  (F:∀ (w:World) (mg:Str->Option Value) (fa:Addr) (h:Heap),(K w.params).In h->h.Ns mainGlobals mg->mg d.name=some (.ref fa) ->
   ∃fd:FuncData,(∀(s:Shared) (u:Value),BindsTo s fd ⟨[u],[]⟩ [(x,u)])/\
    ∀base:Heap,(K w.params).In base->base.Ns mainGlobals mg->bC l.prog w (K w.params) mg base (CX w) k fa fd [x] (sp w))
  (hsp:∀(w:World) (H:Hp) (a:Addr) (ns:List Int),ns.length<=n->xG H->SqL (K w.params) H a (ns.map V.int)->sp w [.ref a] H (fun v _=>v=.bl true) fun _ _ _=>False)
  (hCX:∀(w:World) (H:Hp) (s:Shared) (e:Value) (s':Shared),CX w [] H s (fun _ _ _=>False) e s'->False) :
  PySem.W.WalkO q loose XP YP l.row.toRowW d [] (fun f vs=>PySem.call f vs):=by
 refine Att.attach_call hn hdf fun w s₀ s₁ mg mb fa o pm cd doc a vs ns G Y ho hd hcd hmg hobj hints hlen hg=>?_
 have KX:=hY w _ Y
 obtain⟨fd,hb,hF⟩:=F w mg fa _ KX G.T.g hmg
 exact rk KX G.T.g G.T.b G.T.builtins G.T.nolimit hg hobj hints (Nat.le_trans hlen hn2) hr hF hb (fun H hO hS=>hsp w H a ns hlen hO hS) fun H e s'=>hCX w H s₁ e s'
end L2
namespace L2
open PySem PySem.Spec PyProof.Rows
def ue(s:Stmt)(j:Nat):Stmt:=match s with
 | .ClassDef _ _ _ body _ _ _ _ _ _ _=>body.getD j (.Pass ⟨0,0,0,0⟩)
 | _=>.Pass ⟨0,0,0,0⟩
def bf(s:Stmt):Arguments:=match s with
 | .FunctionDef _ a _ _ _ _ _ _ _ _=>a
 | _=>{ posonlyargs:=[],args:=[],vararg:=none,kwonlyargs:=[],kw_defaults:=[],kwarg:=none,defaults:=[] }
def aG(s:Stmt):List Stmt:=match s with
 | .FunctionDef _ _ b _ _ _ _ _ _ _=>b
 | _=>[]
def ao(s:Stmt):Scope:=match s with
 | .FunctionDef _ _ _ _ _ _ sc _ _ _=>sc
 | _=>{ kind:=.function,names:=[],isGenerator:=false,isCoroutine:=false }
abbrev CX0:CXT:=fun _ _ _ _ _ _=>False
structure Fun(K:PySem.W.Frag)(x qual:Str)(st:Stmt)(f:Addr)(fd:FuncData):Prop where
 ex:∃(oc:Value) (od:Option Addr) (kV doc pm:Value) (an:Option Addr) (cdv ct:Value) (osl:Array (Option Value)),
  fd=PySem.W.fnOf x qual (bf st) (aG st) (ao st) .none kV doc pm an cdv ct/\K.lookup f=some ⟨oc,od,.func fd,osl⟩/\PySem.W.codeIn K cdv qual=true
 kp:PySem.W.keepIn K (.ref f)=true
section
variable{P:Program}{w:World}{K:PySem.W.Frag}{mg:Str->Option Value}{base:Heap}
theorem Fun.ok{x qual:Str}{st:Stmt}{f:Addr}{fd:FuncData}{N ps:List Str}{k:Nat}{sp:Sp}(F:Fun K x qual st f fd)(S:bP N ps (ao st))(len:∀vs H Q E,sp vs H Q E->vs.length=ps.length)
  (hbody:∀ (cdv:Value) (A:Around) (outer:List Env) (s:Shared) (H:Hp) (vs:List V) (Q:VK) (E:XK),cz k (A.deeper (envOfC qual (ao st) s.heap.objs.size f cdv))->sp vs H Q E ->
   ∃t,PSs (cB CX0 P w K mg base N qual (ao st) f cdv A outer s H E).nox (aG st) t/\t { nx:=fun _ H'=>Q .non H',rt:=Q } (eE N vs) H):bC P w K mg base CX0 (k+1) f fd ps sp:=by
 obtain⟨oc,od,kV,doc,pm,an,cdv,ct,osl,rfl,lk,hcd⟩:=F.ex
 refine oH lk hcd S len fun A outer s H vs Q E hr hsp=>?_
 obtain⟨t,h,q⟩:=hbody cdv A outer s H vs Q E hr hsp
 exact⟨t,h.nox,q⟩
theorem Fun.binds{x qual:Str}{st:Stmt}{f:Addr}{fd:FuncData}{ps:List Str}(F:Fun K x qual st f fd)
  (h:∀(kV doc pm:Value) (an:Option Addr) (cdv ct:Value) (us:List Value),us.length=ps.length->bindArgs (PySem.W.fnOf x qual (bf st) (aG st) (ao st) .none kV doc pm an cdv ct) ⟨us,[]⟩=pure (ps.zip us)):cE K fd ps []:=by
 obtain⟨oc,od,kV,doc,pm,an,cdv,ct,osl,rfl,lk,hcd⟩:=F.ex
 exact .all (h kV doc pm an cdv ct)
end
section
variable{X:Cx}
theorem pv(i:Nat){x:Str}{pos:Pos}(hN:X.N[i]?=some x:=by rfl)(hv:Vis X.env.scope x:=by first | exact Or.inl rfl | exact Or.inr (Or.inl rfl) | exact Or.inr (Or.inr rfl))(hd:(x ==("__debug__" : Str))=false:=by decide)
  (hcd:(x ==("__classdict__" : Str))=false:=by decide):PE X (.Name x pos) (oW i):=bM hN hv hd hcd
end
def l7(H H':Hp):Prop:=∀b o,H b=some o->H' b=some o
theorem l7.trans{H H1 H2:Hp}(a:l7 H H1)(b:l7 H1 H2):l7 H H2:=fun c o h=>b c o (a c o h)
theorem l7.free{H H':Hp}(e:l7 H H'){l:Addr}(h:H' l=Option.none):H l=Option.none:=by
 cases q:H l with
 | none=>rfl
 | some o =>
  rw[e l o q]at h
  cases h
theorem l7.seq{K:PySem.W.Frag}{H H':Hp}{a:Addr}{xs:List V}(e:l7 H H')(h:SqL K H a xs):SqL K H' a xs:=by
 rcases h with(h |⟨o,h⟩) | h
 ·exact .inl (.inl (e _ _ h))
 ·exact .inl (.inr ⟨o,e _ _ h⟩)
 ·exact .inr h
end L2
set_option maxHeartbeats 4000000
namespace PR
open PySem
inductive Fl where
 | own | frz | bor | lnt | mod
 deriving DecidableEq
inductive PV where
 | non
 | bl (b:Bool)
 | int (i:Int)
 | str (x:Str)
 | lst (f:Fl) (xs:List PV)
 | tup (xs:List PV)
 | obj (f:Fl) (c:Nat) (ks:List Nat) (vs:List PV)
 | exc (c:Nat)
mutual
def PV.mapF(g:Fl->Fl):PV->PV
 | .non=>.non
 | .bl b=>.bl b
 | .int i=>.int i
 | .str x=>.str x
 | .lst f xs=>.lst (g f) (mapL g xs)
 | .tup xs=>.tup (mapL g xs)
 | .obj f c ks vs=>.obj (g f) c ks (mapL g vs)
 | .exc c=>.exc c
def mapL(g:Fl->Fl):List PV->List PV
 | []=>[]
 | x::xs=>x.mapF g::mapL g xs
end
mutual
def PV.has(p:Fl->Bool):PV->Bool
 | .non | .bl _ | .int _ | .str _=>false
 | .lst f xs=>p f||hasL p xs
 | .tup xs=>hasL p xs
 | .obj f _ _ vs=>p f||hasL p vs
 | .exc _=>false
def hasL(p:Fl->Bool):List PV->Bool
 | []=>false
 | x::xs=>x.has p||hasL p xs
end
def Fl.isLnt:Fl->Bool
 | .lnt=>true
 | _=>false
def Fl.isBor:Fl->Bool
 | .bor=>true
 | _=>false
def Fl.lend:Fl->Fl
 | .own=>.lnt
 | f=>f
def Fl.freeze:Fl->Fl
 | .own=>.frz
 | f=>f
def Fl.toBor:Fl->Fl
 | .lnt=>.bor
 | f=>f
inductive Res(α:Type) where
 | ok (a:α)
 | exc (c:Nat)
 | stuck
def Res.bind{α β:Type}:Res α->(α->Res β)->Res β
 | .ok a,k=>k a
 | .exc c,_=>.exc c
 | .stuck,_=>.stuck
@[simp] theorem Res.ok_bind{α β:Type}(a:α)(k:α->Res β):(Res.ok a).bind k=k a:=by simp only[Res.bind]
@[simp] theorem Res.exc_bind{α β:Type}(c:Nat)(k:α->Res β):(Res.exc c:Res α).bind k=.exc c:=rfl
@[simp] theorem Res.stuck_bind{α β:Type}(k:α->Res β):(Res.stuck:Res α).bind k=.stuck:=rfl
abbrev En:=List (Option PV)
abbrev ME:=En->Res PV
abbrev MT:=En->Res Bool
abbrev MA:=En->Res (List PV)
inductive Out where
 | next (e:En)
 | ret (v:PV)
 | brk (e:En)
 | cont (e:En)
 | exc (c:Nat) (e:En)
 | stuck
abbrev MS:=En->Out
def mC(v:PV):ME:=fun _=>.ok v
def ad(i:Nat):ME:=fun env=>match env[i]? with
 | some (some v)=>.ok (v.mapF Fl.lend)
 | _=>.stuck
def aj:MA:=fun _=>.ok []
def ae(a:ME)(r:MA):MA:=fun env=>(a env).bind fun x=>(r env).bind fun xs=>.ok (x::xs)
def mUn(f:PV->Res PV)(a:ME):ME:=fun env=>(a env).bind f
def mOp(f:PV->PV->Res PV)(a b:ME):ME:=fun env=>(a env).bind fun x=>(b env).bind fun y=>f x y
def iV(g:Int->Int->PV):PV->PV->Res PV
 | .int i,.int j=>.ok (g i j)
 | _,_=>.stuck
def dI(C:Int->Int->Bool)(g:Int->Int->PV):PV->PV->Res PV
 | .int i,.int j=>if C i j then .ok (g i j)else .stuck
 | _,_=>.stuck
def ki:PV->Res Bool
 | .non=>.ok false
 | .bl b=>.ok b
 | .int i=>.ok (i != 0)
 | .lst _ xs | .tup xs=>.ok (!xs.isEmpty)
 | _=>.stuck
def ax(a:ME):MT:=fun env=>(a env).bind fun
 | .bl b=>.ok b
 | _=>.stuck
def aX(a:ME):MT:=fun env=>(a env).bind ki
def cV(a:MT):MT:=fun env=>(a env).bind fun b=>.ok (!b)
def jS(a b:MT):MT:=fun env=>(a env).bind fun x=>if x then b env else .ok false
def dL(a b:MT):MT:=fun env=>(a env).bind fun x=>if x then .ok true else b env
def lv(c:MT)(a b:ME):ME:=fun env=>(c env).bind fun x=>if x then a env else b env
def aK:MS:=.next
def aq(a b:MS):MS:=fun env=>match a env with
 | .next e=>b e
 | o=>o
def mBr(c:MT)(a b:MS):MS:=fun env=>match c env with
 | .ok true=>a env
 | .ok false=>b env
 | .exc k=>.exc k env
 | .stuck=>.stuck
def PV.noLnt(v:PV):Bool:=!v.has Fl.isLnt
def cK(env:List (Option PV)):Bool:=match env[0]? with
 | some (some (PV.obj _ _ _ _))=>true
 | _=>false
def aW(i:Nat)(env:En):Bool:=if i=0 then !cK env else true
def aF(i:Nat)(e:ME):MS:=fun env=>match e env with
 | .ok v=>if v.noLnt&&aW i env then .next (env.set i (some v))else .stuck
 | .exc k=>.exc k env
 | .stuck=>.stuck
def bA(e:ME):MS:=fun env=>match e env with
 | .ok v=>if v.noLnt then .ret v else .stuck
 | .exc k=>.exc k env
 | .stuck=>.stuck
def e7(i:Nat):MS:=fun env=>match env[i]? with
 | some (some v)=>.ret v
 | _=>.stuck
def cY(e:ME):MS:=fun env=>match e env with
 | .ok _=>.next env
 | .exc k=>.exc k env
 | .stuck=>.stuck
def gN(i:Nat):MS:=fun env=>match env[i]? with
 | some (some v)=>.next (env.set i (some (v.mapF Fl.freeze)))
 | _=>.stuck
def jw(body:PV->MS):List PV->En->Out
 | [],env=>.next env
 | x::xs,env=>match body x env with
  | .next e | .cont e=>jw body xs e
  | .brk e=>.next e
  | o=>o
end PR
namespace PR
open PySem PySem.Spec L2
structure Tb where
 K:PySem.W.Frag
 nc:Nat
 cls:Nat->Addr
 att:Nat->Str
 inj:∀i j,att i=att j->i=j
 xcl:Nat->Addr
def xI(C a:Addr):HO:=.ext fun h=>∃o,h.get? a=some o/\o.cls=.ref C
def KL(K:PySem.W.Frag)(a:Addr)(xs:List V):Prop:=∃(o:Obj) (its:Array Value) (n:Nat),K.lookup a=some o/\o.cls=.type "list" /\ o.dict=none/\o.data=.seq its n/\its.size<=sizeLine/\aw xs its.toList
def uI:Fl->Addr->List Addr->List Addr->Prop
 | .own,a,fp',fp=>fp=a::fp'
 | _,_,fp',fp=>fp'=[]/\fp=[]
def Be(F B L:Addr->Prop):Fl->Addr->Prop
 | .own,_=>True
 | .frz,a=>F a
 | .bor,a=>B a
 | .lnt,a=>L a
 | .mod,_=>False
def l8(T:Tb)(F B L:Addr->Prop)(H:Hp):Fl->Addr->List V->Prop
 | .own,a,vs=>H a=some (.lst vs)
 | .lnt,a,vs=>L a/\H a=some (.lst vs)
 | .frz,a,vs=>F a/\Rd H a (.lst vs)
 | .bor,a,vs=>B a/\Rd H a (.lst vs)
 | .mod,a,vs=>KL T.K a vs
theorem l8.sq(h:l8 T F B L H f a vs):SqL T.K H a vs:=by
 cases f with
 | own=>exact SqL.of h
 | lnt=>exact SqL.of h.2
 | frz | bor=>exact .inl h.2
 | mod=>exact .inr h
mutual
def Rel(T:Tb)(F B L:Addr->Prop)(H:Hp):PV->V->List Addr->Prop
 | .non,v,fp=>v=.non/\fp=[]
 | .bl b,v,fp=>v=.bl b/\fp=[]
 | .int i,v,fp=>v=.int i/\fp=[]
 | .str x,v,fp=>v=.str x/\fp=[]
 | .lst f xs,v,fp=>∃a vs fp',v=.ref a/\l8 T F B L H f a vs/\RelL T F B L H xs vs fp'/\uI f a fp' fp
 | .tup xs,v,fp=>∃a vs,v=.ref a/\SqT T.K H a vs/\RelL T F B L H xs vs fp
 | .obj f c ks xs,v,fp=>∃a dx vs fp',v=.ref a/\H a=some (.ins (T.cls c) dx ((ks.map T.att).zip vs))/\(ks.length=xs.length/\c < T.nc)/\RelL T F B L H xs vs fp'/\uI f a fp' fp/\Be F B L f a
 | .exc c,v,fp=>∃a,v=.ref a/\H a=some (xI (T.xcl c) a)/\fp=[]
def RelL(T:Tb)(F B L:Addr->Prop)(H:Hp):List PV->List V->List Addr->Prop
 | [],vs,fp=>vs=[]/\fp=[]
 | x::xs,vs,fp=>∃v ws f1 f2,vs=v::ws/\Rel T F B L H x v f1/\RelL T F B L H xs ws f2/\fp=f1++f2
end
def e9:HO->Prop
 | .tup _ | .frz _ (.tup _) | .ext _=>True
 | _=>False
section
variable{T:Tb}{F F' B B' L L':Addr->Prop}{H H':Hp}
theorem Rd.tr(h:∀o,H a=some o->H' a=some o)(q:Rd H a u):Rd H' a u:=by
 rcases q with q |⟨o,q⟩
 ·exact .inl (h _ q)
 ·exact .inr ⟨o,h _ q⟩
theorem SqT.tr(h:∀o,H a=some o->e9 o->H' a=some o)(q:SqT K H a vs):SqT K H' a vs:=by
 rcases q with(q |⟨o,q⟩) | q
 ·exact .inl (.inl (h _ q True.intro))
 ·exact .inl (.inr ⟨o,h _ q True.intro⟩)
 ·exact .inr q
mutual
theorem Rel.tr(hF:∀a,F a->F' a)(hB:∀a,B a->B' a)(hL:∀a,L a->L' a)(hx:∀a o,H a=some o->(F a\/B a\/L a\/e9 o)->H' a=some o) :
  ∀{x:PV}{v:V}{fp:List Addr},(∀a∈fp,∀o,H a=some o->H' a=some o)->Rel T F B L H x v fp->Rel T F' B' L' H' x v fp
 | .non,_,_,_,h | .bl _,_,_,_,h | .int _,_,_,_,h | .str _,_,_,_,h=>by unfold Rel at h ⊢;exact h
 | .lst f xs,_,fp,hp,h=>by
  unfold Rel at h ⊢
  obtain⟨a,vs,fp',e,hl,hr,hf⟩:=h
  cases f with
  | own =>
   obtain rfl:fp=a::fp':=hf
   exact⟨a,vs,fp',e,hp a List.mem_cons_self _ hl,RelL.tr hF hB hL hx (fun b hb=>hp b (List.mem_cons_of_mem _ hb)) hr,rfl⟩
  | frz =>
   obtain⟨rfl,rfl⟩:=hf
   exact⟨a,vs,[],e,⟨hF a hl.1,Rd.tr (fun o q=>hx a o q (.inl hl.1)) hl.2⟩,RelL.tr hF hB hL hx hp hr,rfl,rfl⟩
  | bor =>
   obtain⟨rfl,rfl⟩:=hf
   exact⟨a,vs,[],e,⟨hB a hl.1,Rd.tr (fun o q=>hx a o q (.inr (.inl hl.1))) hl.2⟩,RelL.tr hF hB hL hx hp hr,rfl,rfl⟩
  | lnt =>
   obtain⟨rfl,rfl⟩:=hf
   exact⟨a,vs,[],e,⟨hL a hl.1,hx a _ hl.2 (.inr (.inr (.inl hl.1)))⟩,RelL.tr hF hB hL hx hp hr,rfl,rfl⟩
  | mod =>
   obtain⟨rfl,rfl⟩:=hf
   exact⟨a,vs,[],e,hl,RelL.tr hF hB hL hx hp hr,rfl,rfl⟩
 | .tup xs,_,fp,hp,h=>by
  unfold Rel at h ⊢
  obtain⟨a,vs,e,hl,hr⟩:=h
  exact⟨a,vs,e,SqT.tr (fun o q z=>hx a o q (.inr (.inr (.inr z)))) hl,RelL.tr hF hB hL hx hp hr⟩
 | .obj f c ks xs,_,fp,hp,h=>by
  unfold Rel at h ⊢
  obtain⟨a,dx,vs,fp',e,hl,hk,hr,hf,ha⟩:=h
  cases f with
  | own =>
   obtain rfl:fp=a::fp':=hf
   exact⟨a,dx,vs,fp',e,hp a List.mem_cons_self _ hl,hk,RelL.tr hF hB hL hx (fun b hb=>hp b (List.mem_cons_of_mem _ hb)) hr,rfl,True.intro⟩
  | frz =>
   obtain⟨rfl,rfl⟩:=hf
   exact⟨a,dx,vs,[],e,hx a _ hl (.inl ha),hk,RelL.tr hF hB hL hx hp hr,⟨rfl,rfl⟩,hF a ha⟩
  | bor =>
   obtain⟨rfl,rfl⟩:=hf
   exact⟨a,dx,vs,[],e,hx a _ hl (.inr (.inl ha)),hk,RelL.tr hF hB hL hx hp hr,⟨rfl,rfl⟩,hB a ha⟩
  | lnt =>
   obtain⟨rfl,rfl⟩:=hf
   exact⟨a,dx,vs,[],e,hx a _ hl (.inr (.inr (.inl ha))),hk,RelL.tr hF hB hL hx hp hr,⟨rfl,rfl⟩,hL a ha⟩
  | mod=>exact ha.elim
 | .exc c,_,fp,hp,h=>by
  unfold Rel at h ⊢
  obtain⟨a,e,hl,hf⟩:=h
  exact⟨a,e,hx a _ hl (.inr (.inr (.inr True.intro))),hf⟩
theorem RelL.tr(hF:∀a,F a->F' a)(hB:∀a,B a->B' a)(hL:∀a,L a->L' a)(hx:∀a o,H a=some o->(F a\/B a\/L a\/e9 o)->H' a=some o) :
  ∀{xs:List PV}{vs:List V}{fp:List Addr},(∀a∈fp,∀o,H a=some o->H' a=some o)->RelL T F B L H xs vs fp->RelL T F' B' L' H' xs vs fp
 | [],_,_,_,h=>by unfold RelL at h ⊢;exact h
 | x::xs,_,fp,hp,h=>by
  unfold RelL at h ⊢
  obtain⟨v,ws,f1,f2,e,h1,h2,rfl⟩:=h
  exact⟨v,ws,f1,f2,e,Rel.tr hF hB hL hx (fun b hb=>hp b (List.mem_append_left _ hb)) h1,RelL.tr hF hB hL hx (fun b hb=>hp b (List.mem_append_right _ hb)) h2,rfl⟩
end
def Ext(H H':Hp):Prop:=∀a o,H a=some o->H' a=some o
theorem Ext.refl:Ext H H:=fun _ _ h=>h
theorem Ext.trans(a:Ext H H1)(b:Ext H1 H2):Ext H H2:=fun c o h=>b c o (a c o h)
theorem Ext.upd(h:H a=none):Ext H (L2.upd H a o):=fun b u e=>by rw[ar (a7 e h)];exact e
theorem Ext.free(x:Ext H H')(h:H' a=none):H a=none:=by
 cases e:H a with
 | none=>rfl
 | some o=>rw[x a o e]at h;cases h
theorem Rel.ext(e:Ext H H')(hF:∀a,F a->F' a)(h:Rel T F B L H x v fp):Rel T F' B L H' x v fp :=
 Rel.tr hF (fun _ h=>h) (fun _ h=>h) (fun a o q _=>e a o q) (fun a _ o q=>e a o q) h
theorem RelL.ext(e:Ext H H')(hF:∀a,F a->F' a)(h:RelL T F B L H xs vs fp):RelL T F' B L H' xs vs fp :=
 RelL.tr hF (fun _ h=>h) (fun _ h=>h) (fun a o q _=>e a o q) (fun a _ o q=>e a o q) h
theorem RelL.length:∀{xs:List PV}{vs:List V}{fp:List Addr},RelL T F B L H xs vs fp->xs.length=vs.length
 | [],_,_,h=>by unfold RelL at h;rw[h.1];rfl
 | x::xs,_,_,h=>by
  unfold RelL at h
  obtain⟨v,ws,f1,f2,rfl,_,h2,_⟩:=h
  simp[RelL.length h2]
mutual
theorem Rel.there:∀{x:PV}{v:V}{fp:List Addr},Rel T F B L H x v fp->∀a∈fp,∃o,H a=some o
 | .non,_,_,h | .bl _,_,_,h | .int _,_,_,h | .str _,_,_,h=>by unfold Rel at h;rw[h.2];exact fun _ z=>nomatch z
 | .lst f xs,_,fp,h=>by
  unfold Rel at h
  obtain⟨a,vs,fp',e,hl,hr,hf⟩:=h
  cases f with
  | own =>
   obtain rfl:fp=a::fp':=hf
   intro b hb
   rcases List.mem_cons.mp hb with rfl | hb
   ·exact⟨_,hl⟩
   ·exact RelL.there hr b hb
  | frz | bor | lnt | mod=>obtain⟨rfl,rfl⟩:=hf;exact fun _ z=>nomatch z
 | .tup xs,_,fp,h=>by
  unfold Rel at h
  obtain⟨a,vs,e,hl,hr⟩:=h
  exact RelL.there hr
 | .obj f c ks xs,_,fp,h=>by
  unfold Rel at h
  obtain⟨a,dx,vs,fp',e,hl,hk,hr,hf,ha⟩:=h
  cases f with
  | own =>
   obtain rfl:fp=a::fp':=hf
   intro b hb
   rcases List.mem_cons.mp hb with rfl | hb
   ·exact⟨_,hl⟩
   ·exact RelL.there hr b hb
  | frz | bor | lnt | mod=>obtain⟨rfl,rfl⟩:=hf;exact fun _ z=>nomatch z
 | .exc c,_,fp,h=>by
  unfold Rel at h
  obtain⟨a,e,hl,rfl⟩:=h
  exact fun _ z=>nomatch z
theorem RelL.there:∀{xs:List PV}{vs:List V}{fp:List Addr},RelL T F B L H xs vs fp->∀a∈fp,∃o,H a=some o
 | [],_,_,h=>by unfold RelL at h;rw[h.2];exact fun _ z=>nomatch z
 | x::xs,_,_,h=>by
  unfold RelL at h
  obtain⟨v,ws,f1,f2,_,h1,h2,rfl⟩:=h
  intro b hb
  rcases List.mem_append.mp hb with hb | hb
  ·exact Rel.there h1 b hb
  ·exact RelL.there h2 b hb
end
def Chg:HO->Prop
 | .lst _ | .ins _ _ _=>True
 | _=>False
mutual
theorem Rel.chg:∀{x:PV}{v:V}{fp:List Addr},Rel T F B L H x v fp->∀a∈fp,∃o,H a=some o/\Chg o
 | .non,_,_,h | .bl _,_,_,h | .int _,_,_,h | .str _,_,_,h=>by unfold Rel at h;rw[h.2];exact fun _ z=>nomatch z
 | .lst f xs,_,fp,h=>by
  unfold Rel at h
  obtain⟨a,vs,fp',e,hl,hr,hf⟩:=h
  cases f with
  | own =>
   obtain rfl:fp=a::fp':=hf
   intro b hb
   rcases List.mem_cons.mp hb with rfl | hb
   ·exact⟨_,hl,True.intro⟩
   ·exact RelL.chg hr b hb
  | frz | bor | lnt | mod=>obtain⟨rfl,rfl⟩:=hf;exact fun _ z=>nomatch z
 | .tup xs,_,fp,h=>by
  unfold Rel at h
  obtain⟨a,vs,e,hl,hr⟩:=h
  exact RelL.chg hr
 | .obj f c ks xs,_,fp,h=>by
  unfold Rel at h
  obtain⟨a,dx,vs,fp',e,hl,hk,hr,hf,ha⟩:=h
  cases f with
  | own =>
   obtain rfl:fp=a::fp':=hf
   intro b hb
   rcases List.mem_cons.mp hb with rfl | hb
   ·exact⟨_,hl,True.intro⟩
   ·exact RelL.chg hr b hb
  | frz | bor | lnt | mod=>obtain⟨rfl,rfl⟩:=hf;exact fun _ z=>nomatch z
 | .exc c,_,fp,h=>by
  unfold Rel at h
  obtain⟨a,e,hl,rfl⟩:=h
  exact fun _ z=>nomatch z
theorem RelL.chg:∀{xs:List PV}{vs:List V}{fp:List Addr},RelL T F B L H xs vs fp->∀a∈fp,∃o,H a=some o/\Chg o
 | [],_,_,h=>by unfold RelL at h;rw[h.2];exact fun _ z=>nomatch z
 | x::xs,_,_,h=>by
  unfold RelL at h
  obtain⟨v,ws,f1,f2,_,h1,h2,rfl⟩:=h
  intro b hb
  rcases List.mem_append.mp hb with hb | hb
  ·exact Rel.chg h1 b hb
  ·exact RelL.chg h2 b hb
end
mutual
theorem Rel.lend:∀{x:PV}{v:V}{fp:List Addr},(∀a∈fp,L a)->Rel T F B L H x v fp->Rel T F B L H (x.mapF Fl.lend) v []
 | .non,_,_,_,h | .bl _,_,_,_,h | .int _,_,_,_,h | .str _,_,_,_,h=>by unfold Rel at h;simp only[PV.mapF];unfold Rel;exact⟨h.1,rfl⟩
 | .lst f xs,_,fp,hp,h=>by
  unfold Rel at h
  obtain⟨a,vs,fp',e,hl,hr,hf⟩:=h
  simp only[PV.mapF]
  unfold Rel
  cases f with
  | own =>
   obtain rfl:fp=a::fp':=hf
   exact⟨a,vs,[],e,⟨hp a List.mem_cons_self,hl⟩,RelL.lend (fun b hb=>hp b (List.mem_cons_of_mem _ hb)) hr,rfl,rfl⟩
  | frz | bor | lnt | mod=>obtain⟨rfl,rfl⟩:=hf;exact⟨a,vs,[],e,hl,RelL.lend hp hr,rfl,rfl⟩
 | .tup xs,_,fp,hp,h=>by
  unfold Rel at h
  obtain⟨a,vs,e,hl,hr⟩:=h
  simp only[PV.mapF]
  unfold Rel
  exact⟨a,vs,e,hl,RelL.lend hp hr⟩
 | .obj f c ks xs,_,fp,hp,h=>by
  unfold Rel at h
  obtain⟨a,dx,vs,fp',e,hl,hk,hr,hf,ha⟩:=h
  simp only[PV.mapF]
  unfold Rel
  cases f with
  | own =>
   obtain rfl:fp=a::fp':=hf
   have r:=RelL.lend (fun b hb=>hp b (List.mem_cons_of_mem _ hb)) hr
   exact⟨a,dx,vs,[],e,hl,⟨by rw[r.length,hk.1,hr.length],hk.2⟩,r,⟨rfl,rfl⟩,hp a List.mem_cons_self⟩
  | frz | bor | lnt=>obtain⟨rfl,rfl⟩:=hf;have r:=RelL.lend hp hr;exact⟨a,dx,vs,[],e,hl,⟨by rw[r.length,hk.1,hr.length],hk.2⟩,r,⟨rfl,rfl⟩,ha⟩
  | mod=>exact ha.elim
 | .exc c,_,fp,hp,h=>by
  unfold Rel at h
  obtain⟨a,e,hl,rfl⟩:=h
  simp only[PV.mapF]
  unfold Rel
  exact⟨a,e,hl,rfl⟩
theorem RelL.lend:∀{xs:List PV}{vs:List V}{fp:List Addr},(∀a∈fp,L a)->RelL T F B L H xs vs fp->RelL T F B L H (mapL Fl.lend xs) vs []
 | [],_,_,_,h=>by unfold RelL at h;simp only[mapL];unfold RelL;exact⟨h.1,rfl⟩
 | x::xs,_,fp,hp,h=>by
  unfold RelL at h
  obtain⟨v,ws,f1,f2,e,h1,h2,rfl⟩:=h
  simp only[mapL]
  unfold RelL
  exact⟨v,ws,[],[],e,Rel.lend (fun b hb=>hp b (List.mem_append_left _ hb)) h1,RelL.lend (fun b hb=>hp b (List.mem_append_right _ hb)) h2,rfl⟩
end
end
end PR
namespace L2
open PySem PySem.Spec
theorem PE.wk(h:PE X e t)(w:∀σ H Q,t' σ H Q->t σ H Q):PE X e t':=fun pins s σ H Q I q=>h pins s σ H Q I (w σ H Q q)
theorem PA.wk(h:PA X e t)(w:∀σ H Q,t' σ H Q->t σ H Q):PA X e t':=fun pos pins s σ H Q I q=>h pos pins s σ H Q I (w σ H Q q)
theorem PT.wk(h:PT X e t)(w:∀σ H Q,t' σ H Q->t σ H Q):PT X e t':=fun pins s σ H Q I q=>h pins s σ H Q I (w σ H Q q)
theorem PW.wk(h:PW X e t)(w:∀σ H Q,t' σ H Q->t σ H Q):PW X e t':=fun wh pins s σ H Q I q=>h wh pins s σ H Q I (w σ H Q q)
theorem PS.wk(h:PS X e t)(w:∀D σ H,t' D σ H->t D σ H):PS X e t':=fun pins s σ H D I q=>h pins s σ H D I (w D σ H q)
theorem PSs.wk(h:PSs X e t)(w:∀D σ H,t' D σ H->t D σ H):PSs X e t':=fun pins s σ H D I q=>h pins s σ H D I (w D σ H q)
end L2
namespace PR
open PySem PySem.Spec L2
structure Zn where
 H0:Hp
 F0:Addr->Prop
 fp0:Addr->Prop
 B:Addr->Prop
 pin:Option V:=none
abbrev NoL:Addr->Prop:=fun _=>False
structure dB(T:Tb)(Z:Zn)(F:Addr->Prop)(H:Hp):Prop where
 bo:∀a,Z.B a->(∃o,Z.H0 a=some o)/\¬Z.fp0 a
 keep:∀a o,Z.H0 a=some o->¬Z.fp0 a->H a=some o
 f0:∀a,Z.F0 a->F a
 fn:∀a,F a->Z.F0 a\/Z.H0 a=none\/Z.fp0 a
 ft:∀a,F a->∃o,H a=some o
structure ap(T:Tb)(Z:Zn)(F:Addr->Prop)(H:Hp)(σ:St)(env:En)(fp:Nat->List Addr):Prop where
 hp:dB T Z F H
 len:σ.length=env.length
 rel:∀(i:Nat) (pv:PV),env[i]?=some (some pv)->∃v,σ[i]?=some (some v)/\Rel T F Z.B NoL H pv v (fp i)
 nd:∀i,(fp i).Nodup
 dj:∀i j,i≠j->∀a∈fp i,a∉fp j
 dis:∀i,∀a∈fp i,¬F a/\∃o,H a=some o
 new:∀i,∀a∈fp i,Z.H0 a=none\/Z.fp0 a
 ch:∀i,∀a∈fp i,∃o,H a=some o/\Chg o
 pn:∀v,Z.pin=some v->σ[0]?=some (some v)/\cK env=true
def Own(fp:Nat->List Addr):Addr->Prop:=fun a=>∃i,a∈fp i
structure Gr(F:Addr->Prop)(H:Hp)(F':Addr->Prop)(H':Hp):Prop where
 ext:Ext H H'
 mono:∀a,F a->F' a
 only:∀a,F' a->F a\/H a=none
 dom:∀a,F' a->∃o,H' a=some o
theorem Gr.refl(h:∀a,F a->∃o,H a=some o):Gr F H F H:=⟨Ext.refl,fun _ h=>h,fun _ h=>.inl h,h⟩
theorem Gr.trans(a:Gr F H F1 H1)(b:Gr F1 H1 F2 H2):Gr F H F2 H2 :=
 ⟨a.ext.trans b.ext,fun c h=>b.mono c (a.mono c h),fun c h=>(b.only c h).elim (a.only c) fun z=>.inr (a.ext.free z),b.dom⟩
theorem Gr.same(h:∀a,F a->∃o,H a=some o)(e:Ext H H'):Gr F H F H':=⟨e,fun _ h=>h,fun _ h=>.inl h,fun a q=>let⟨o,z⟩:=h a q;⟨o,e a o z⟩⟩
section
variable{T:Tb}{Z:Zn}{F F':Addr->Prop}{H H':Hp}{σ:St}{env:En}{fp:Nat->List Addr}
theorem dB.grow(S:dB T Z F H)(g:Gr F H F' H'):dB T Z F' H' :=
 ⟨S.bo,fun a o h n=>g.ext a o (S.keep a o h n),fun a h=>g.mono a (S.f0 a h),fun a h=>by
  rcases g.only a h with z | z
  ·exact S.fn a z
  ·refine .inr ?_
   by_cases q:Z.fp0 a
   ·exact .inr q
   ·refine .inl ?_
    cases w:Z.H0 a with
    | none=>rfl
    | some o=>rw[S.keep a o w q]at z;exact(nomatch z),g.dom⟩
theorem ap.grow(S:ap T Z F H σ env fp)(g:Gr F H F' H'):ap T Z F' H' σ env fp :=
 ⟨S.hp.grow g,S.len,fun i pv h=>let ⟨v,q1,q2⟩:=S.rel i pv h;⟨v,q1,q2.ext g.ext g.mono⟩,S.nd,S.dj,fun i a h=>by
  obtain⟨n,o,q⟩:=S.dis i a h
  refine⟨fun z=>?_,o,g.ext a o q⟩
  rcases g.only a z with z | z
  ·exact n z
  ·rw[q]at z;exact(nomatch z),S.new,fun i a h=>let⟨o,q,c⟩:=S.ch i a h;⟨o,g.ext a o q,c⟩,S.pn⟩
end
def GE(T:Tb)(W:Nat->St->Hp->Prop)(B F L:Addr->Prop)(σ:St)(H:Hp)(Q:VK):Res PV->Prop
 | .ok pv=>∀v H' F' f,Gr F H F' H'->Rel T F' B L H' pv v f->(∀a∈f,¬F' a)->f.Nodup->(∀a∈f,H a=none)->Q v H'
 | .exc c=>∀H',Ext H H'->W c σ H'
 | .stuck=>False
def GA(T:Tb)(W:Nat->St->Hp->Prop)(B F L:Addr->Prop)(σ:St)(H:Hp)(Q:List V->Hp->Prop):Res (List PV)->Prop
 | .ok pvs=>∀vs H' F' f,Gr F H F' H'->RelL T F' B L H' pvs vs f->(∀a∈f,¬F' a)->f.Nodup->(∀a∈f,H a=none)->Q vs H'
 | .exc c=>∀H',Ext H H'->W c σ H'
 | .stuck=>False
def GT(W:Nat->St->Hp->Prop)(F:Addr->Prop)(σ:St)(H:Hp)(Q:Bool->Hp->Prop):Res Bool->Prop
 | .ok b=>∀H' F',Gr F H F' H'->Q b H'
 | .exc c=>∀H',Ext H H'->W c σ H'
 | .stuck=>False
def tE(T:Tb)(W:Nat->St->Hp->Prop)(m:ME):TE:=fun σ H Q=>∃Z F env fp,ap T Z F H σ env fp/\GE T W Z.B F (Own fp) σ H Q (m env)
def tA(T:Tb)(W:Nat->St->Hp->Prop)(m:MA):TA:=fun σ H Q=>∃Z F env fp,ap T Z F H σ env fp/\GA T W Z.B F (Own fp) σ H Q (m env)
def tT(T:Tb)(W:Nat->St->Hp->Prop)(m:MT):TT:=fun σ H Q=>∃Z F env fp,ap T Z F H σ env fp/\GT W F σ H Q (m env)
abbrev SE(X:Cx)(T:Tb)(W:Nat->St->Hp->Prop)(e:Expr)(m:ME):Prop:=PE X e (tE T W m)
abbrev SA(X:Cx)(T:Tb)(W:Nat->St->Hp->Prop)(es:List Expr)(m:MA):Prop:=PA X es (tA T W m)
abbrev ST(X:Cx)(T:Tb)(W:Nat->St->Hp->Prop)(e:Expr)(m:MT):Prop:=PT X e (tT T W m)
section
variable{X:Cx}{T:Tb}{W:Nat->St->Hp->Prop}{Z:Zn}{F F' B L:Addr->Prop}{H H':Hp}{σ:St}{env:En}{fp:Nat->List Addr}
theorem GE.scal{Q:VK}{pv:PV}{v:V}(q:GE T W B F L σ H Q (.ok pv))(g:Gr F H F' H')(r:Rel T F' B L H' pv v []):Q v H' :=
 q v H' F' [] g r (fun _ z=>(nomatch z)) List.nodup_nil (fun _ z=>(nomatch z))
theorem iE{v:V}{pv:PV}(h:PE X e (tC v))(r:∀F B L H,Rel T F B L H pv v []):SE X T W e (mC pv):=PE.wk h fun σ H Q ⟨Z,F,env,fp,S,q⟩=>q.scal (Gr.refl S.hp.ft) (r _ _ _ _)
theorem ah{i j pos}:SE X T W (.Constant (.int i) j pos) (mC (.int i)):=iE mP fun _ _ _ _=>by unfold Rel;exact⟨rfl,rfl⟩
theorem b_{b j pos}:SE X T W (.Constant (.bool b) j pos) (mC (.bl b)):=iE uT fun _ _ _ _=>by unfold Rel;exact⟨rfl,rfl⟩
theorem mI{j pos}:SE X T W (.Constant .none j pos) (mC .non):=iE v3 fun _ _ _ _=>by unfold Rel;exact⟨rfl,rfl⟩
theorem bw{x j pos}:SE X T W (.Constant (.str x) j pos) (mC (.str x)):=iE vX fun _ _ _ _=>by unfold Rel;exact⟨rfl,rfl⟩
theorem vw(hN:X.N[i]?=some x)(hv:Vis X.env.scope x)(hd:(x ==("__debug__" : Str))=false:=by decide)(hcd:(x ==("__classdict__" : Str))=false:=by decide):SE X T W (.Name x pos) (ad i) :=
 PE.wk (bM hN hv hd hcd) fun σ H Q ⟨Z,F,env,fp,S,q⟩=>by
  unfold ad at q
  split at q
  ·rename_i pv e
   obtain⟨v,e1,r⟩:=S.rel i pv e
   refine⟨v,e1,q.scal (Gr.refl S.hp.ft) ?_⟩
   exact Rel.lend (fun a h=>⟨i,h⟩) (Rel.tr (fun _ h=>h) (fun _ h=>h) (fun _ h=>h.elim) (fun a o q _=>q) (fun a _ o q=>q) r)
  ·exact q.elim
theorem tE.bind(S:ap T Z F H σ env fp)(hx:∀c,m env=.exc c->∀H',Ext H H'->W c σ H')(hs:m env≠.stuck)
  (k:∀pv v H' F' f,m env=.ok pv->Gr F H F' H'->Rel T F' Z.B (Own fp) H' pv v f->(∀a∈f,¬F' a)->f.Nodup->(∀a∈f,H a=none)->Q v H'):tE T W m σ H Q:=by
 refine⟨Z,F,env,fp,S,?_⟩
 cases e:m env with
 | ok pv=>exact fun v H' F' f g r h1 h2 h3=>k pv v H' F' f e g r h1 h2 h3
 | exc c=>exact hx c e
 | stuck=>exact hs e
theorem tA.bind(S:ap T Z F H σ env fp)(hx:∀c,m env=.exc c->∀H',Ext H H'->W c σ H')(hs:m env≠.stuck)
  (k:∀pvs vs H' F' f,m env=.ok pvs->Gr F H F' H'->RelL T F' Z.B (Own fp) H' pvs vs f->(∀a∈f,¬F' a)->f.Nodup->(∀a∈f,H a=none)->Q vs H'):tA T W m σ H Q:=by
 refine⟨Z,F,env,fp,S,?_⟩
 cases e:m env with
 | ok pv=>exact fun v H' F' f g r h1 h2 h3=>k pv v H' F' f e g r h1 h2 h3
 | exc c=>exact hx c e
 | stuck=>exact hs e
theorem tT.bind(S:ap T Z F H σ env fp)(hx:∀c,m env=.exc c->∀H',Ext H H'->W c σ H')(hs:m env≠.stuck)
  (k:∀b H' F',m env=.ok b->Gr F H F' H'->Q b H'):tT T W m σ H Q:=by
 refine⟨Z,F,env,fp,S,?_⟩
 cases e:m env with
 | ok pv=>exact fun H' F' g=>k pv H' F' e g
 | exc c=>exact hx c e
 | stuck=>exact hs e
theorem ag:SA X T W [] aj:=PA.wk fO fun σ H Q ⟨Z,F,env,fp,S,q⟩=>q [] H F [] (Gr.refl S.hp.ft) (by unfold RelL;exact⟨rfl,rfl⟩) (fun _ z=>(nomatch z)) List.nodup_nil (fun _ z=>(nomatch z))
theorem ac(ha:SE X T W e m)(hr:SA X T W es ms)(hs:starEach (e::es) X.env=(false,eval e X.env)::starEach es X.env:=by rfl):SA X T W (e::es) (ae m ms) :=
 PA.wk (cq ha hr hs) fun σ H Q ⟨Z,F,env,fp,S,q⟩=>by
  unfold ae at q
  refine tE.bind S (fun c e=>by rw[e]at q;exact q) (fun e=>by rw[e]at q;exact q) fun x v H1 F1 f1 e1 g1 r1 n1 d1 w1=>?_
  rw[e1]at q
  simp only[Res.ok_bind]at q
  refine tA.bind (S.grow g1) (fun c e=>by rw[e]at q;exact fun H' x=>q H' (g1.ext.trans x)) (fun e=>by rw[e]at q;exact q) fun xs vs H2 F2 f2 e2 g2 r2 n2 d2 w2=>?_
  rw[e2]at q
  simp only[Res.ok_bind]at q
  have new1:∀a∈f1,¬F2 a:=fun a ha z=>by
   rcases g2.only a z with z | z
   ·exact n1 a ha z
   ·obtain⟨o,ho⟩:=r1.there a ha
    rw[ho]at z;cases z
  refine q (v::vs) H2 F2 (f1++f2) (g1.trans g2) (by unfold RelL;exact⟨v,vs,f1,f2,rfl,r1.ext g2.ext g2.mono,r2,rfl⟩) (fun a ha=>?_) ?_ (fun a ha=>?_)
  ·rcases List.mem_append.mp ha with ha | ha
   ·exact new1 a ha
   ·exact n2 a ha
  ·refine List.nodup_append.mpr ⟨d1,d2,fun a ha b hb z=>?_⟩
   subst z
   obtain⟨o,ho⟩:=r1.there a ha
   rw[w2 a hb]at ho;cases ho
  ·rcases List.mem_append.mp ha with ha | ha
   ·exact w1 a ha
   ·exact g1.ext.free (w2 a ha)
def am(f:List PV->Res PV)(ms:MA):ME:=fun env=>(ms env).bind f
def Mir(T:Tb)(W:Nat->St->Hp->Prop)(f:List PV->Res PV)(r:List V->Hp->VK->Prop):Prop :=
 ∀(B F L:Addr->Prop) (σ:St) (H:Hp) (Q:VK) (F':Addr->Prop) (H':Hp) (xs:List PV) (vs:List V) (fx:List Addr),Gr F H F' H'->RelL T F' B L H' xs vs fx->(∀a∈fx,¬F' a)->fx.Nodup->(∀a∈fx,H a=none)->
  GE T W B F L σ H Q (f xs)->r vs H' Q
theorem tA.mir(hm:Mir T W f r)(h:tE T W (am f ms) σ H Q):tA T W ms σ H fun vs H1=>r vs H1 Q:=by
 obtain⟨Z,F,env,fp,S,q⟩:=h
 unfold am at q
 refine tA.bind S (fun c e=>by rw[e]at q;exact q) (fun e=>by rw[e]at q;exact q) fun xs vs H1 F1 f1 e1 g1 r1 n1 d1 w1=>?_
 rw[e1]at q
 exact hm Z.B F (Own fp) σ H Q F1 H1 xs vs f1 g1 r1 n1 d1 w1 q
theorem eS{id:String}{x:Str}{es:List Expr}{f:List PV->Res PV}{r:List V->Hp->VK->Prop}(hc:dC X (.builtin id) r)(hmir:Mir T W f r)(hg:Gl X x)(hm:X.mg x=none)(hv:bootBuiltins x=some (.builtin id))(ha:SA X T W (e::es) ms)
  (hn:x≠"__name__" := by decide) (hdb:(x ==("__debug__" : Str))=false:=by decide)
  (he:starEach (e::es) X.env=(false,eval e X.env)::starEach es X.env:=by rfl) (hpl:(backTo pos (starEach es X.env)).any (·.1)=false:=by rfl):SE X T W (.Call (.Name x p) (e::es) [] pos) (am f ms) :=
 PE.wk (iS hc hg hm hv ha hn hdb he hpl) fun σ H Q h=>tA.mir hmir h
theorem gF{id:String}{x:Str}{es:List Expr}{f:List PV->Res PV}{r:List V->Hp->VK->Prop}(hc:dC X (.type id) r)(hmir:Mir T W f r)(hg:Gl X x)(hm:X.mg x=none)(hv:bootBuiltins x=some (.type id))(ha:SA X T W (e::es) ms)
  (hn:x≠"__name__" := by decide) (hdb:(x ==("__debug__" : Str))=false:=by decide)
  (he:starEach (e::es) X.env=(false,eval e X.env)::starEach es X.env:=by rfl) (hpl:(backTo pos (starEach es X.env)).any (·.1)=false:=by rfl):SE X T W (.Call (.Name x p) (e::es) [] pos) (am f ms) :=
 PE.wk (jQ hc hg hm hv ha hn hdb he hpl) fun σ H Q h=>tA.mir hmir h
def g7(T:Tb)(W:Nat->St->Hp->Prop)(f:PV->PV->Res PV)(r:R2):Prop :=
 ∀(B F L:Addr->Prop) (σ:St) (H:Hp) (Q:VK) (F':Addr->Prop) (H':Hp) (x y:PV) (v u:V) (fx fy:List Addr),Gr F H F' H'->Rel T F' B L H' x v fx->Rel T F' B L H' y u fy->(∀a∈fx++fy,¬F' a)->(fx++fy).Nodup->(∀a∈fx++fy,H a=none)->
  GE T W B F L σ H Q (f x y)->r v u H' Q
theorem tE.mir2(hm:g7 T W f r)(h:tE T W (mOp f ma mb) σ H Q):tOp r (tE T W ma) (tE T W mb) σ H Q:=by
 obtain⟨Z,F,env,fp,S,q⟩:=h
 unfold mOp at q
 refine tE.bind S (fun c e=>by rw[e]at q;exact q) (fun e=>by rw[e]at q;exact q) fun x v H1 F1 f1 e1 g1 r1 n1 d1 w1=>?_
 rw[e1]at q
 simp only[Res.ok_bind]at q
 refine tE.bind (S.grow g1) (fun c e=>by rw[e]at q;exact fun H' x=>q H' (g1.ext.trans x)) (fun e=>by rw[e]at q;exact q) fun y u H2 F2 f2 e2 g2 r2 n2 d2 w2=>?_
 rw[e2]at q
 simp only[Res.ok_bind]at q
 have new1:∀a∈f1,¬F2 a:=fun a ha z=>by
  rcases g2.only a z with z | z
  ·exact n1 a ha z
  ·obtain⟨o,ho⟩:=r1.there a ha
   rw[ho]at z;cases z
 refine hm Z.B F (Own fp) σ H Q F2 H2 x y v u f1 f2 (g1.trans g2) (r1.ext g2.ext g2.mono) r2 (fun a ha=>?_) ?_ (fun a ha=>?_) q
 ·rcases List.mem_append.mp ha with ha | ha
  ·exact new1 a ha
  ·exact n2 a ha
 ·refine List.nodup_append.mpr ⟨d1,d2,fun a ha b hb z=>?_⟩
  subst z
  obtain⟨o,ho⟩:=r1.there a ha
  rw[w2 a hb]at ho;cases ho
 ·rcases List.mem_append.mp ha with ha | ha
  ·exact w1 a ha
  ·exact g1.ext.free (w2 a ha)
theorem kW(ho:OpR X (binaryOp op) r)(hm:g7 T W f r)(ha:SE X T W a ma)(hb:SE X T W b mb):SE X T W (.BinOp a op b pos) (mOp f ma mb) :=
 PE.wk (uQ (pos:=pos) ho ha hb) fun σ H Q h=>tE.mir2 hm h
theorem qo(ho:OpR X (compareOp op) r)(hm:g7 T W f r)(ha:SE X T W a ma)(hb:SE X T W b mb)(hk:behindInMarks op b=false):SE X T W (.Compare a [op] [b] pos) (mOp f ma mb) :=
 PE.wk (tP (pos:=pos) ho ha hb hk) fun σ H Q h=>tE.mir2 hm h
theorem uM(hr:IxR X r)(hm:g7 T W f r)(ha:SE X T W a ma)(hb:SE X T W b mb)(hs:fw b):SE X T W (.Subscript a b pos) (mOp f ma mb) :=
 PE.wk (uR (pos:=pos) hr ha hb hs) fun σ H Q h=>tE.mir2 hm h
theorem kq(hg:∀i j F B L H,Rel T F B L H (g' i j) (g i j) []):g7 T W (iV g') (rI0 g):=by
  intro B F L σ H Q F' H' x y v u fx fy gr rx ry _ _ _ q
  cases x<;>cases y<;>first
    | exact q.elim
    | (unfold Rel at rx ry
       exact⟨_,_,rx.1,ry.1,q.scal gr (hg _ _ _ _ _ _)⟩)
theorem qY(hc:∀i j,C' i j=true->C i j)(hg:∀i j F B L H,Rel T F B L H (g' i j) (g i j) []):g7 T W (dI C' g') (rI C g):=by
  intro B F L σ H Q F' H' x y v u fx fy gr rx ry _ _ _ q
  cases x<;>cases y<;>first
    | exact q.elim
    | (unfold Rel at rx ry
       simp only[dI]at q
       split at q
       . rename_i hh
         exact⟨_,_,rx.1,ry.1,hc _ _ hh,q.scal gr (hg _ _ _ _ _ _)⟩
       . exact q.elim)
theorem d6:Rel T F B L H (.int i) (.int i) []:=by unfold Rel;exact⟨rfl,rfl⟩
theorem iM:Rel T F B L H (.bl i) (.bl i) []:=by unfold Rel;exact⟨rfl,rfl⟩
theorem vP:Rel T F B L H .non .non []:=by unfold Rel;exact⟨rfl,rfl⟩
def la:PV->PV->Res PV:=iV fun i j=>.int (i - j)
def bS:PV->PV->Res PV:=dI (fun i j=>decide ((-(2 ^ 64) < i/\i < 2 ^ 64)\/(-(2 ^ 64) < j/\j < 2 ^ 64))) fun i j=>.int (i * j)
def bT:PV->PV->Res PV:=dI (fun _ j=>decide (0 < j)) fun i j=>.int (i % j)
def cH:PV->PV->Res PV:=dI (fun _ j=>decide (0 < j/\j < 1073741824)) fun i j=>.int (i / j)
def tR:PV->PV->Res PV:=dI (fun i j=>decide (0<=j/\j<=1000000/\i.natAbs < 2 ^ 64)) fun i j=>.int (i ^ j.toNat)
def pLt:PV->PV->Res PV:=iV fun i j=>.bl (decide (i < j))
def pLe:PV->PV->Res PV:=iV fun i j=>.bl (decide (i<=j))
def pGt:PV->PV->Res PV:=iV fun i j=>.bl (decide (j < i))
def pGe:PV->PV->Res PV:=iV fun i j=>.bl (decide (j<=i))
variable{a b:Expr}{ma mb:ME}{pos:Pos}
theorem gE(ha:SE X T W a ma)(hb:SE X T W b mb):SE X T W (.BinOp a .Sub b pos) (mOp la ma mb):=kW v9 (kq fun _ _ _ _ _ _=>d6) ha hb
theorem bz(ha:SE X T W a ma)(hb:SE X T W b mb):SE X T W (.BinOp a .Mult b pos) (mOp bS ma mb):=kW wa (qY (fun i j h=>(by simpa using h:(-(2 ^ 64) < i/\i < 2 ^ 64)\/(-(2 ^ 64) < j/\j < 2 ^ 64))) fun _ _ _ _ _ _=>d6) ha hb
theorem aR(ha:SE X T W a ma)(hb:SE X T W b mb):SE X T W (.BinOp a .Mod b pos) (mOp bT ma mb):=kW wb (qY (fun _ _ h=>of_decide_eq_true h) fun _ _ _ _ _ _=>d6) ha hb
theorem cW(ha:SE X T W a ma)(hb:SE X T W b mb):SE X T W (.BinOp a .FloorDiv b pos) (mOp cH ma mb):=kW tV (qY (fun i j h=>(by simpa using h:0 < j/\j < 1073741824)) fun _ _ _ _ _ _=>d6) ha hb
end
def GS(T:Tb)(W:Nat->St->Hp->Prop)(Z:Zn)(D:Ends):Out->Prop
 | .next e=>∀F H σ fp,ap T Z F H σ e fp->D.nx σ H
 | .ret pv=>∀F H v f,dB T Z F H->Rel T F Z.B NoL H pv v f->f.Nodup->(∀a∈f,¬F a)->(∀a∈f,Z.H0 a=none\/Z.fp0 a)->D.rt v H
 | .brk e=>∀F H σ fp,ap T Z F H σ e fp->D.bk σ H
 | .cont e=>∀F H σ fp,ap T Z F H σ e fp->D.ct σ H
 | .exc c e=>∀F H σ fp,ap T Z F H σ e fp->W c σ H
 | .stuck=>False
def tS(T:Tb)(W:Nat->St->Hp->Prop)(m:MS):TS:=fun D σ H=>∃Z F env fp,ap T Z F H σ env fp/\GS T W Z D (m env)
abbrev SS(X:Cx)(T:Tb)(W:Nat->St->Hp->Prop)(st:Stmt)(m:MS):Prop:=PS X st (tS T W m)
abbrev SSs(X:Cx)(T:Tb)(W:Nat->St->Hp->Prop)(sts:List Stmt)(m:MS):Prop:=PSs X sts (tS T W m)
mutual
theorem Rel.noL:∀{x:PV}{v:V}{fp:List Addr},x.has Fl.isLnt=false->Rel T F B L H x v fp->Rel T F B L' H x v fp
 | .non,_,_,_,h | .bl _,_,_,_,h | .int _,_,_,_,h | .str _,_,_,_,h=>by unfold Rel at h ⊢;exact h
 | .lst f xs,_,fp,hp,h=>by
  unfold Rel at h ⊢
  simp only[PV.has,Bool.or_eq_false_iff]at hp
  obtain⟨a,vs,fp',e,hl,hr,hf⟩:=h
  refine⟨a,vs,fp',e,?_,RelL.noL hp.2 hr,hf⟩
  cases f with
  | lnt=>exact absurd hp.1 (by decide)
  | own | frz | bor | mod=>exact hl
 | .tup xs,_,fp,hp,h=>by
  unfold Rel at h ⊢
  simp only[PV.has]at hp
  obtain⟨a,vs,e,hl,hr⟩:=h
  exact⟨a,vs,e,hl,RelL.noL hp hr⟩
 | .obj f c ks xs,_,fp,hp,h=>by
  unfold Rel at h ⊢
  simp only[PV.has,Bool.or_eq_false_iff]at hp
  obtain⟨a,dx,vs,fp',e,hl,hk,hr,hf,ha⟩:=h
  refine⟨a,dx,vs,fp',e,hl,hk,RelL.noL hp.2 hr,hf,?_⟩
  cases f with
  | lnt=>exact absurd hp.1 (by decide)
  | own | frz | bor | mod=>exact ha
 | .exc c,_,fp,hp,h=>by
  unfold Rel at h ⊢
  exact h
theorem RelL.noL:∀{xs:List PV}{vs:List V}{fp:List Addr},hasL Fl.isLnt xs=false->RelL T F B L H xs vs fp->RelL T F B L' H xs vs fp
 | [],_,_,_,h=>by unfold RelL at h ⊢;exact h
 | x::xs,_,fp,hp,h=>by
  unfold RelL at h ⊢
  simp only[hasL,Bool.or_eq_false_iff]at hp
  obtain⟨v,ws,f1,f2,e,h1,h2,rfl⟩:=h
  exact⟨v,ws,f1,f2,e,Rel.noL hp.1 h1,RelL.noL hp.2 h2,rfl⟩
end
section
variable{X:Cx}{T:Tb}{W:Nat->St->Hp->Prop}{Z:Zn}{F F' B L:Addr->Prop}{H H':Hp}{σ:St}{env:En}{fp:Nat->List Addr}{D:Ends}
def aV(fp:Nat->List Addr)(i:Nat)(f:List Addr):Nat->List Addr:=fun j=>if j=i then f else fp j
theorem ap.put(S:ap T Z F H σ env fp){i:Nat}{pv:PV}{v:V}{f:List Addr}(r:Rel T F Z.B NoL H pv v f)(nd:f.Nodup)(nf:∀a∈f,¬F a)(new:∀a∈f,Z.H0 a=none\/Z.fp0 a)(dj:∀a∈f,∀j,j≠i->a∉fp j)(ho:aW i env=true) :
  ap T Z F H (σ.set i (some v)) (env.set i (some pv)) (aV fp i f):=by
 refine⟨S.hp,by rw[List.length_set,List.length_set,S.len],fun j pv' e=>?_,fun j=>?_,fun j k hjk a ha=>?_,fun j a ha=>?_,fun j a ha=>?_,fun j a ha=>?_,fun w hw=>?_⟩
 ·by_cases hj:j=i
  ·subst hj
   have hl:j < env.length:=by
    have:=(List.getElem?_eq_some_iff.mp e).1
    simpa using this
   rw[List.getElem?_set_self hl]at e
   cases e
   refine⟨v,List.getElem?_set_self (by rw[S.len];exact hl),?_⟩
   unfold aV
   rw[if_pos rfl]
   exact r
  ·rw[List.getElem?_set_ne (Ne.symm hj)]at e
   obtain⟨w,h1,h2⟩:=S.rel j pv' e
   refine⟨w,by rw[List.getElem?_set_ne (Ne.symm hj)];exact h1,?_⟩
   unfold aV
   rw[if_neg hj]
   exact h2
 ·unfold aV;split
  ·exact nd
  ·exact S.nd j
 ·unfold aV at ha ⊢
  by_cases h1:j=i
  ·subst h1
   rw[if_pos rfl]at ha
   rw[if_neg (Ne.symm hjk)]
   exact dj a ha k (Ne.symm hjk)
  ·rw[if_neg h1]at ha
   by_cases h2:k=i
   ·subst h2
    rw[if_pos rfl]
    exact fun z=>dj a z j h1 ha
   ·rw[if_neg h2]
    exact S.dj j k hjk a ha
 ·unfold aV at ha
  by_cases h1:j=i
  ·rw[if_pos h1]at ha;exact⟨nf a ha,r.there a ha⟩
  ·rw[if_neg h1]at ha;exact S.dis j a ha
 ·unfold aV at ha
  by_cases h1:j=i
  ·rw[if_pos h1]at ha;exact new a ha
  ·rw[if_neg h1]at ha;exact S.new j a ha
 ·unfold aV at ha
  by_cases h1:j=i
  ·rw[if_pos h1]at ha;exact r.chg a ha
  ·rw[if_neg h1]at ha;exact S.ch j a ha
 ·obtain⟨h1,h2⟩:=S.pn w hw
  have hi:i≠0:=fun z=>by
   rw[z]at ho
   simp[aW,h2]at ho
  refine⟨by rw[List.getElem?_set_ne hi];exact h1,?_⟩
  unfold cK at h2 ⊢
  rw[List.getElem?_set_ne hi]
  exact h2
theorem ap.putN(S:ap T Z F H σ env fp)(g:Gr F H F' H'){i:Nat}{pv:PV}{v:V}{f:List Addr}(ho:aW i env=true)(r:Rel T F' Z.B L H' pv v f)(hl:pv.noLnt=true)(nf:∀a∈f,¬F' a)(nd:f.Nodup)(w:∀a∈f,H a=none) :
  ap T Z F' H' (σ.set i (some v)) (env.set i (some pv)) (aV fp i f):=by
 refine(S.grow g).put (Rel.noL (by simpa[PV.noLnt]using hl) r) nd nf (fun a ha=>?_) (fun a ha j _ hj=>?_) ho
 ·by_cases q:Z.fp0 a
  ·exact .inr q
  ·refine .inl ?_
   cases e:Z.H0 a with
   | none=>rfl
   | some o =>
    have:=S.hp.keep a o e q
    rw[w a ha]at this;cases this
 ·obtain⟨_,o,ho⟩:=S.dis j a hj
  rw[w a ha]at ho;cases ho
theorem aA:SSs X T W [] aK:=PSs.wk tD fun D σ H ⟨Z,F,env,fp,S,q⟩=>q F H σ fp S
theorem af{bh:List Stmt}(h1:SS X T W st a)(h2:SSs X T W bh b):SSs X T W (st::bh) (aq a b) :=
 PSs.wk (k7 h1 h2) fun D σ H ⟨Z,F,env,fp,S,q⟩=>by
  refine⟨Z,F,env,fp,S,?_⟩
  unfold aq at q
  cases e:a env with
  | next e'=>rw[e]at q;exact fun F' H' σ' fp' S'=>⟨Z,F',e',fp',S',q⟩
  | ret v | brk e' | cont e' | exc c e' | stuck=>rw[e]at q;exact q
theorem ai(h1:SS X T W st a):SSs X T W [st] a:=nX h1
theorem aM(hc:ST X T W c mc)(ha:SSs X T W a ma)(hb:SSs X T W b mb):SS X T W (.If c a b pos) (mBr mc ma mb) :=
 PS.wk (yD (pos:=pos) hc ha hb) fun D σ H ⟨Z,F,env,fp,S,q⟩=>by
  unfold mBr at q
  refine tT.bind S (fun c e H' x=>?_) (fun e=>by rw[e]at q;exact q) fun b H' F' e g=>?_
  ·rw[e]at q
   exact q F H' σ fp (S.grow (Gr.same S.hp.ft x))
  ·cases b with
   | true=>rw[e]at q;exact(if_pos rfl).mpr ⟨Z,F',env,fp,S.grow g,q⟩
   | false=>rw[e]at q;exact(if_neg (by decide)).mpr ⟨Z,F',env,fp,S.grow g,q⟩
theorem vq(hN:X.N.Nodup)(hi:X.N[i]?=some x)(hx:Loc X.env.scope x)(he:SE X T W e m)(hs:swapsWith e (some (.Name x pos')) pos.line X.env=pure false:=by rfl)
  (hf:X.fn x=true\/X.env.scope.names.lookup x=some .local:=by first | exact .inl rfl | exact .inr rfl | assumption):SS X T W (.Assign [.Name x pos'] e pos) (aF i m) :=
 PS.wk (qB (pos:=pos) hN hi hx he hs hf) fun D σ H ⟨Z,F,env,fp,S,q⟩=>by
  unfold aF at q
  refine tE.bind S (fun c e H' x=>?_) (fun e=>by rw[e]at q;exact q) fun pv v H1 F1 f e g r h1 h2 h3=>?_
  ·rw[e]at q
   exact q F H' σ fp (S.grow (Gr.same S.hp.ft x))
  ·rw[e]at q
   simp only at q
   split at q
   ·rename_i hl
    rw[Bool.and_eq_true]at hl
    exact q F1 H1 _ _ (S.putN g hl.2 r hl.1 h1 h2 h3)
   ·exact q.elim
theorem dB.newE(S:dB T Z F H){f:List Addr}(w:∀a∈f,H a=none):∀a∈f,Z.H0 a=none\/Z.fp0 a:=fun a ha=>by
 by_cases q:Z.fp0 a
 ·exact .inr q
 ·refine .inl ?_
  cases e:Z.H0 a with
  | none=>rfl
  | some o =>
   have:=S.keep a o e q
   rw[w a ha]at this;cases this
theorem aI(he:SE X T W e m):SS X T W (.Return (some e) pos) (bA m) :=
 PS.wk (iP (pos:=pos) he) fun D σ H ⟨Z,F,env,fp,S,q⟩=>by
  unfold bA at q
  refine tE.bind S (fun c e H' x=>?_) (fun e=>by rw[e]at q;exact q) fun pv v H1 F1 f e g r h1 h2 h3=>?_
  ·rw[e]at q
   exact q F H' σ fp (S.grow (Gr.same S.hp.ft x))
  ·rw[e]at q
   simp only at q
   split at q
   ·rename_i hl
    exact q F1 H1 v f (S.hp.grow g) (Rel.noL (by simpa[PV.noLnt]using hl) r) h2 h1 (S.hp.newE h3)
   ·exact q.elim
theorem d5(hN:X.N[i]?=some x)(hv:Vis X.env.scope x)(hd:(x ==("__debug__" : Str))=false:=by decide)(hcd:(x ==("__classdict__" : Str))=false:=by decide):SS X T W (.Return (some (.Name x pos')) pos) (e7 i) :=
 PS.wk (iP (pos:=pos) (bM hN hv hd hcd)) fun D σ H ⟨Z,F,env,fp,S,q⟩=>by
  unfold e7 at q
  split at q
  ·rename_i pv e
   obtain⟨v,e1,r⟩:=S.rel i pv e
   exact⟨v,e1,q F H v (fp i) S.hp r (S.nd i) (fun a ha=>(S.dis i a ha).1) (S.new i)⟩
  ·exact q.elim
theorem zK:SS X T W (.Return none pos) (bA (mC .non)) :=
 PS.wk (tH (pos:=pos)) fun D σ H ⟨Z,F,env,fp,S,q⟩=>q F H .non [] S.hp vP List.nodup_nil (fun _ z=>(nomatch z)) (fun _ z=>(nomatch z))
theorem cM(he:SE X T W e m)(hs:swapsWith e none pos.line X.env=pure false:=by rfl):SS X T W (.Expr e pos) (cY m) :=
 PS.wk (ff (pos:=pos) he hs) fun D σ H ⟨Z,F,env,fp,S,q⟩=>by
  unfold cY at q
  refine tE.bind S (fun c e H' x=>?_) (fun e=>by rw[e]at q;exact q) fun pv v H1 F1 f e g r h1 h2 h3=>?_
  ·rw[e]at q
   exact q F H' σ fp (S.grow (Gr.same S.hp.ft x))
  ·rw[e]at q
   exact q F1 H1 σ fp (S.grow g)
mutual
theorem Rel.freeze(hF:∀a,F a->F' a):∀{x:PV}{v:V}{fp:List Addr},(∀a∈fp,F' a)->Rel T F B L H x v fp->Rel T F' B L H (x.mapF Fl.freeze) v []
 | .non,_,_,_,h | .bl _,_,_,_,h | .int _,_,_,_,h | .str _,_,_,_,h=>by unfold Rel at h;simp only[PV.mapF];unfold Rel;exact⟨h.1,rfl⟩
 | .lst f xs,_,fp,hp,h=>by
  unfold Rel at h
  obtain⟨a,vs,fp',e,hl,hr,hf⟩:=h
  simp only[PV.mapF]
  unfold Rel
  cases f with
  | own =>
   obtain rfl:fp=a::fp':=hf
   exact⟨a,vs,[],e,⟨hp a List.mem_cons_self,.inl hl⟩,RelL.freeze hF (fun b hb=>hp b (List.mem_cons_of_mem _ hb)) hr,rfl,rfl⟩
  | frz=>obtain⟨rfl,rfl⟩:=hf;exact⟨a,vs,[],e,⟨hF a hl.1,hl.2⟩,RelL.freeze hF hp hr,rfl,rfl⟩
  | bor | lnt | mod=>obtain⟨rfl,rfl⟩:=hf;exact⟨a,vs,[],e,hl,RelL.freeze hF hp hr,rfl,rfl⟩
 | .tup xs,_,fp,hp,h=>by
  unfold Rel at h
  obtain⟨a,vs,e,hl,hr⟩:=h
  simp only[PV.mapF]
  unfold Rel
  exact⟨a,vs,e,hl,RelL.freeze hF hp hr⟩
 | .obj f c ks xs,_,fp,hp,h=>by
  unfold Rel at h
  obtain⟨a,dx,vs,fp',e,hl,hk,hr,hf,ha⟩:=h
  simp only[PV.mapF]
  unfold Rel
  cases f with
  | own =>
   obtain rfl:fp=a::fp':=hf
   have r:=RelL.freeze hF (fun b hb=>hp b (List.mem_cons_of_mem _ hb)) hr
   exact⟨a,dx,vs,[],e,hl,⟨by rw[r.length,hk.1,hr.length],hk.2⟩,r,⟨rfl,rfl⟩,hp a List.mem_cons_self⟩
  | frz=>obtain⟨rfl,rfl⟩:=hf;have r:=RelL.freeze hF hp hr;exact⟨a,dx,vs,[],e,hl,⟨by rw[r.length,hk.1,hr.length],hk.2⟩,r,⟨rfl,rfl⟩,hF a ha⟩
  | bor | lnt=>obtain⟨rfl,rfl⟩:=hf;have r:=RelL.freeze hF hp hr;exact⟨a,dx,vs,[],e,hl,⟨by rw[r.length,hk.1,hr.length],hk.2⟩,r,⟨rfl,rfl⟩,ha⟩
  | mod=>exact ha.elim
 | .exc c,_,fp,hp,h=>by
  unfold Rel at h
  obtain⟨a,e,hl,rfl⟩:=h
  simp only[PV.mapF]
  unfold Rel
  exact⟨a,e,hl,rfl⟩
theorem RelL.freeze(hF:∀a,F a->F' a):∀{xs:List PV}{vs:List V}{fp:List Addr},(∀a∈fp,F' a)->RelL T F B L H xs vs fp->RelL T F' B L H (mapL Fl.freeze xs) vs []
 | [],_,_,_,h=>by unfold RelL at h;simp only[mapL];unfold RelL;exact⟨h.1,rfl⟩
 | x::xs,_,fp,hp,h=>by
  unfold RelL at h
  obtain⟨v,ws,f1,f2,e,h1,h2,rfl⟩:=h
  simp only[mapL]
  unfold RelL
  exact⟨v,ws,[],[],e,Rel.freeze hF (fun b hb=>hp b (List.mem_append_left _ hb)) h1,RelL.freeze hF (fun b hb=>hp b (List.mem_append_right _ hb)) h2,rfl⟩
end
theorem ap.frz(S:ap T Z F H σ env fp){i:Nat}{pv:PV}(e:env[i]?=some (some pv)):ap T Z (fun a=>F a\/a∈fp i) H σ (env.set i (some (pv.mapF Fl.freeze))) (aV fp i []):=by
 have hi:i < env.length:=(List.getElem?_eq_some_iff.mp e).1
 refine⟨⟨S.hp.bo,S.hp.keep,fun a h=>.inl (S.hp.f0 a h),fun a h=>h.elim (S.hp.fn a) fun z=>.inr (S.new i a z),fun a h=>h.elim (S.hp.ft a) fun z=>(S.dis i a z).2⟩,by rw[List.length_set,S.len],fun j pv' e'=>?_,fun j=>?_,fun j k hjk a ha=>?_,fun j a ha=>?_,fun j a ha=>?_,fun j a ha=>?_,fun w hw=>?_⟩
 ·by_cases hj:j=i
  ·subst hj
   rw[List.getElem?_set_self hi]at e'
   cases e'
   obtain⟨v,h1,h2⟩:=S.rel j pv e
   refine⟨v,h1,?_⟩
   unfold aV
   rw[if_pos rfl]
   exact Rel.freeze (fun _ h=>.inl h) (fun a h=>.inr h) h2
  ·rw[List.getElem?_set_ne (Ne.symm hj)]at e'
   obtain⟨w,h1,h2⟩:=S.rel j pv' e'
   refine⟨w,h1,?_⟩
   unfold aV
   rw[if_neg hj]
   exact h2.ext Ext.refl fun _ h=>.inl h
 ·unfold aV;split
  ·exact List.nodup_nil
  ·exact S.nd j
 ·unfold aV at ha ⊢
  by_cases h1:j=i
  ·rw[if_pos h1]at ha;cases ha
  ·rw[if_neg h1]at ha
   by_cases h2:k=i
   ·rw[if_pos h2];exact fun z=>nomatch z
   ·rw[if_neg h2];exact S.dj j k hjk a ha
 ·unfold aV at ha
  by_cases h1:j=i
  ·rw[if_pos h1]at ha;cases ha
  ·rw[if_neg h1]at ha
   exact⟨fun z=>z.elim (S.dis j a ha).1 fun z=>S.dj j i h1 a ha z,(S.dis j a ha).2⟩
 ·unfold aV at ha
  by_cases h1:j=i
  ·rw[if_pos h1]at ha;cases ha
  ·rw[if_neg h1]at ha;exact S.new j a ha
 ·unfold aV at ha
  by_cases h1:j=i
  ·rw[if_pos h1]at ha;cases ha
  ·rw[if_neg h1]at ha;exact S.ch j a ha
 ·obtain⟨h1,h2⟩:=S.pn w hw
  refine⟨h1,?_⟩
  unfold cK at h2 ⊢
  by_cases hi0:i=0
  ·subst hi0
   rw[e]at h2
   rw[List.getElem?_set_self hi]
   cases pv<;>first | exact h2 |(cases h2;done) | rfl
  ·rw[List.getElem?_set_ne hi0]
   exact h2
theorem fK{i:Nat}{sts:List Stmt}(h:SSs X T W sts m):SSs X T W sts (aq (gN i) m):=PSs.wk h fun D σ H ⟨Z,F,env,fp,S,q⟩=>by
 cases e:env[i]? with
 | none=>simp[aq,gN,e]at q;exact q.elim
 | some w =>
  cases w with
  | none=>simp[aq,gN,e]at q;exact q.elim
  | some pv =>
   simp only[aq,gN,e]at q
   exact⟨Z,_,_,_,S.frz e,q⟩
def Zn.re(Z:Zn)(F:Addr->Prop)(H:Hp)(fp:Nat->List Addr):Zn:=⟨H,F,Own fp,Z.B,Z.pin⟩
theorem ap.enter(S:ap T Z F H σ env fp):ap T (Z.re F H fp) F H σ env fp :=
 ⟨⟨fun a h=>by
   obtain⟨⟨o,h1⟩,h2⟩:=S.hp.bo a h
   refine⟨⟨o,S.hp.keep a o h1 h2⟩,fun⟨i,hi⟩=>?_⟩
   rcases S.new i a hi with z | z
   ·rw[h1]at z;cases z
   ·exact h2 z,fun _ _ h _=>h,fun _ h=>h,fun _ h=>.inl h,S.hp.ft⟩,S.len,S.rel,S.nd,S.dj,S.dis,fun i a ha=>.inr ⟨i,ha⟩,S.ch,S.pn⟩
theorem dB.leave(S:ap T Z F H σ env fp)(S':dB T (Z.re F H fp) F' H'):dB T Z F' H' :=
 ⟨S.hp.bo,fun a o h n=>S'.keep a o (S.hp.keep a o h n) fun ⟨i,hi⟩=>by
   rcases S.new i a hi with z | z
   ·rw[h]at z;cases z
   ·exact n z,fun a h=>S'.f0 a (S.hp.f0 a h),fun a h=>by
  rcases S'.fn a h with z | z |⟨i,hi⟩
  ·exact S.hp.fn a z
  ·refine .inr ?_
   by_cases q:Z.fp0 a
   ·exact .inr q
   ·refine .inl ?_
    cases w:Z.H0 a with
    | none=>rfl
    | some o =>
     have z':H a=none:=z
     rw[S.hp.keep a o w q]at z';cases z'
  ·exact .inr (S.new i a hi),S'.ft⟩
theorem ap.newL(S:ap T Z F H σ env fp)(h:(Z.re F H fp).H0 a=none \/(Z.re F H fp).fp0 a):Z.H0 a=none\/Z.fp0 a:=by
 rcases h with z |⟨i,hi⟩
 ·by_cases q:Z.fp0 a
  ·exact .inr q
  ·refine .inl ?_
   cases w:Z.H0 a with
   | none=>rfl
   | some o =>
    have z':H a=none:=z
    rw[S.hp.keep a o w q]at z';cases z'
 ·exact S.new i a hi
theorem ap.leave(S:ap T Z F H σ env fp)(S':ap T (Z.re F H fp) F' H' σ' env' fp'):ap T Z F' H' σ' env' fp' :=
 ⟨dB.leave S S'.hp,S'.len,S'.rel,S'.nd,S'.dj,S'.dis,fun i a ha=>S.newL (S'.new i a ha),S'.ch,S'.pn⟩
abbrev SW(X:Cx)(T:Tb)(W:Nat->St->Hp->Prop)(e:Expr)(m:MT):Prop:=PW X e (tT T W m)
theorem tT.test(h:tT T W (ax m) σ H Q):tE T W m σ H fun x H'=>∃k,x=.bl k/\Q k H':=by
 obtain⟨Z,F,env,fp,S,q⟩:=h
 unfold ax at q
 refine tE.bind S (fun c e=>by rw[e]at q;exact q) (fun e=>by rw[e]at q;exact q) fun x v H1 F1 f1 e1 g1 r1 n1 d1 w1=>?_
 rw[e1]at q
 cases x with
 | bl b =>
  unfold Rel at r1
  exact⟨b,r1.1,q H1 F1 g1⟩
 | _=>exact q.elim
theorem fJ(ho:OpR X (compareOp op) r)(hm:g7 T W f r)(ha:SE X T W a ma)(hb:SE X T W b mb)(hk:behindInMarks op b=false):ST X T W (.Compare a [op] [b] pos) (ax (mOp f ma mb)) :=
 PT.wk (nW (pos:=pos) ho ha hb hk) fun σ H Q h=>by
  obtain⟨Z,F,env,fp,S,q⟩:=tT.test h
  exact tE.mir2 hm ⟨Z,F,env,fp,S,q⟩
theorem cF(h:ST X T W a m):ST X T W (.UnaryOp .Not a pos) (cV m):=PT.wk (vT (pos:=pos) h) fun σ H Q ⟨Z,F,env,fp,S,q⟩=>by
 unfold cV at q
 refine tT.bind S (fun c e=>by rw[e]at q;exact q) (fun e=>by rw[e]at q;exact q) fun b H1 F1 e1 g1=>?_
 rw[e1]at q
 exact q H1 F1 g1
theorem ka(h:ST X T W a m):SW X T W (.BoolOp .And [a] pos) m:=tB h
theorem bL(h:ST X T W a m):SW X T W (.BoolOp .Or [a] pos) m:=vR h
theorem mq{bh:List Expr}(h:ST X T W a m)(h2:SW X T W (.BoolOp .And (b::bh) pos) n):SW X T W (.BoolOp .And (a::b::bh) pos) (jS m n):=PW.wk (vS h h2) fun σ H Q ⟨Z,F,env,fp,S,q⟩=>by
 unfold jS at q
 refine tT.bind S (fun c e=>by rw[e]at q;exact q) (fun e=>by rw[e]at q;exact q) fun b H1 F1 e1 g1=>?_
 rw[e1]at q
 cases b with
 | true =>
  refine(if_pos rfl).mpr ⟨Z,F1,env,fp,S.grow g1,?_⟩
  simp only[Res.ok_bind,if_true]at q
  cases e2:n env with
  | ok b=>rw[e2]at q;exact fun H2 F2 g2=>q H2 F2 (g1.trans g2)
  | exc c=>rw[e2]at q;exact fun H' x=>q H' (g1.ext.trans x)
  | stuck=>rw[e2]at q;exact q
 | false=>exact(if_neg (by decide)).mpr (q H1 F1 g1)
theorem cP{bh:List Expr}(h:ST X T W a m)(h2:SW X T W (.BoolOp .Or (b::bh) pos) n):SW X T W (.BoolOp .Or (a::b::bh) pos) (dL m n):=PW.wk (yC h h2) fun σ H Q ⟨Z,F,env,fp,S,q⟩=>by
 unfold dL at q
 refine tT.bind S (fun c e=>by rw[e]at q;exact q) (fun e=>by rw[e]at q;exact q) fun b H1 F1 e1 g1=>?_
 rw[e1]at q
 cases b with
 | false =>
  refine(if_neg (by decide)).mpr ⟨Z,F1,env,fp,S.grow g1,?_⟩
  simp only[Res.ok_bind,Bool.false_eq_true,if_false]at q
  cases e2:n env with
  | ok b=>rw[e2]at q;exact fun H2 F2 g2=>q H2 F2 (g1.trans g2)
  | exc c=>rw[e2]at q;exact fun H' x=>q H' (g1.ext.trans x)
  | stuck=>rw[e2]at q;exact q
 | true=>exact(if_pos rfl).mpr (q H1 F1 g1)
theorem SW.st(h:SW X T W e m):ST X T W e m:=PW.pt h
theorem aN(hK:X.K=T.K)(h:SE X T W a m)(he:∀whole,isTrue a X.env whole=(do let v <- whole;standAt a.pos;holding [v] (truthy v)):=by intro _;rfl):ST X T W a (aX m):=PT.wk (qA h he) fun σ H Q ⟨Z,F,env,fp,S,q⟩=>by
 unfold aX at q
 refine tE.bind S (fun c e=>by rw[e]at q;exact q) (fun e=>by rw[e]at q;exact q) fun x v H1 F1 f1 e1 g1 r1 n1 d1 w1=>?_
 rw[e1]at q
 rw[hK]
 cases x with
 | non=>unfold Rel at r1;rw[r1.1];exact⟨false,rfl,q H1 F1 g1⟩
 | bl b=>unfold Rel at r1;rw[r1.1];exact⟨b,rfl,q H1 F1 g1⟩
 | int i=>unfold Rel at r1;rw[r1.1];exact⟨_,rfl,q H1 F1 g1⟩
 | str i=>exact q.elim
 | lst f xs =>
  unfold Rel at r1
  obtain⟨a,vs,fp',rfl,hl,hr,_⟩:=r1
  have hl':SqL T.K H1 a vs:=hl.sq
  have e:(!xs.isEmpty)=!vs.isEmpty:=by
   have:=hr.length
   cases xs<;>cases vs<;>simp_all
  exact⟨_,.inl ⟨vs,hl',rfl⟩,by rw[<- e];exact q H1 F1 g1⟩
 | tup xs =>
  unfold Rel at r1
  obtain⟨a,vs,rfl,hl,hr⟩:=r1
  have e:(!xs.isEmpty)=!vs.isEmpty:=by
   have:=hr.length
   cases xs<;>cases vs<;>simp_all
  exact⟨_,.inr (.inl ⟨vs,hl,rfl⟩),by rw[<- e];exact q H1 F1 g1⟩
 | obj f c ks xs | exc c=>exact q.elim
theorem fY(hc:ST X T W c mc)(ha:SE X T W a ma)(hb:SE X T W b mb):SE X T W (.IfExp c a b pos) (lv mc ma mb):=PE.wk (qL (pos:=pos) hc ha hb) fun σ H Q ⟨Z,F,env,fp,S,q⟩=>by
 unfold lv at q
 refine tT.bind S (fun c e=>by rw[e]at q;exact q) (fun e=>by rw[e]at q;exact q) fun b H1 F1 e1 g1=>?_
 rw[e1]at q
 have lift:∀m:ME,GE T W Z.B F (Own fp) σ H Q (m env)->tE T W m σ H1 Q:=fun m q=>by
  refine⟨Z,F1,env,fp,S.grow g1,?_⟩
  cases e2:m env with
  | ok b=>rw[e2]at q;exact fun v H2 F2 f g2 r n d w=>q v H2 F2 f (g1.trans g2) r n d fun a ha=>g1.ext.free (w a ha)
  | exc c=>rw[e2]at q;exact fun H' x=>q H' (g1.ext.trans x)
  | stuck=>rw[e2]at q;exact q
 cases b with
 | true=>exact(if_pos rfl).mpr (lift ma q)
 | false=>exact(if_neg (by decide)).mpr (lift mb q)
def ox(a:ME):ME:=fun env=>(a env).bind fun
 | .bl b=>.ok (.bl (!b))
 | _=>.stuck
def jT(a b:ME):ME:=fun env=>(a env).bind fun
 | .bl true=>b env
 | .bl false=>.ok (.bl false)
 | _=>.stuck
def za(a b:ME):ME:=fun env=>(a env).bind fun
 | .bl false=>b env
 | .bl true=>.ok (.bl true)
 | _=>.stuck
theorem vy(ha:SE X T W a ma):SE X T W (.UnaryOp .Not a pos) (ox ma):=PE.wk (vZ (pos:=pos) ha) fun σ H Q ⟨Z,F,env,fp,S,q⟩=>by
 unfold ox at q
 refine tE.bind S (fun c e=>by rw[e]at q;exact q) (fun e=>by rw[e]at q;exact q) fun x v H1 F1 f1 e1 g1 r1 n1 d1 w1=>?_
 rw[e1]at q
 cases x with
 | bl b=>unfold Rel at r1;exact⟨b,r1.1,q.scal g1 iM⟩
 | _=>exact q.elim
theorem qk(ha:SE X T W a ma):SE X T W (.BoolOp op [a] pos) ma:=vY ha
theorem tE.later(S:ap T Z F H σ env fp)(g1:Gr F H F' H')(q:GE T W Z.B F (Own fp) σ H Q (m env)):tE T W m σ H' Q:=by
 refine⟨Z,F',env,fp,S.grow g1,?_⟩
 cases e2:m env with
 | ok b=>rw[e2]at q;exact fun v H2 F2 f g2 r n d w=>q v H2 F2 f (g1.trans g2) r n d fun a ha=>g1.ext.free (w a ha)
 | exc c=>rw[e2]at q;exact fun H' x=>q H' (g1.ext.trans x)
 | stuck=>rw[e2]at q;exact q
theorem qr{bh:List Expr}(ha:SE X T W a ma)(hb:SE X T W (.BoolOp .And (b::bh) pos) mb):SE X T W (.BoolOp .And (a::b::bh) pos) (jT ma mb):=PE.wk (v6 ha hb) fun σ H Q ⟨Z,F,env,fp,S,q⟩=>by
 unfold jT at q
 refine tE.bind S (fun c e=>by rw[e]at q;exact q) (fun e=>by rw[e]at q;exact q) fun x v H1 F1 f1 e1 g1 r1 n1 d1 w1=>?_
 rw[e1]at q
 cases x with
 | bl b =>
  unfold Rel at r1
  refine⟨b,r1.1,?_⟩
  cases b with
  | true=>exact(if_pos rfl).mpr (tE.later S g1 q)
  | false=>exact(if_neg (by decide)).mpr (q.scal g1 iM)
 | _=>exact q.elim
def xH(T:Tb)(W:Nat->St->Hp->Prop)(f:PV->Res PV)(r:V->Hp->VK->Prop):Prop :=
 ∀(B F L:Addr->Prop) (σ:St) (H:Hp) (Q:VK) (F':Addr->Prop) (H':Hp) (x:PV) (v:V) (fx:List Addr),Gr F H F' H'->Rel T F' B L H' x v fx->(∀a∈fx,¬F' a)->fx.Nodup->(∀a∈fx,H a=none)->GE T W B F L σ H Q (f x)->r v H' Q
theorem tE.mir1(hm:xH T W f r)(h:tE T W (mUn f m) σ H Q):tUn r (tE T W m) σ H Q:=by
 obtain⟨Z,F,env,fp,S,q⟩:=h
 unfold mUn at q
 refine tE.bind S (fun c e=>by rw[e]at q;exact q) (fun e=>by rw[e]at q;exact q) fun x v H1 F1 f1 e1 g1 r1 n1 d1 w1=>?_
 rw[e1]at q
 exact hm Z.B F (Own fp) σ H Q F1 H1 x v f1 g1 r1 n1 d1 w1 q
def AG:PV->Res PV
 | .int i=>.ok (.int (-i))
 | _=>.stuck
def dO(k:Nat):List Nat->List PV->Option PV
 | j::ks,v::vs=>if j=k then some v else dO k ks vs
 | _,_=>none
def Fl.isOwn:Fl->Bool
 | .own=>true
 | _=>false
def az(k:Nat):PV->Res PV
 | .obj f _ ks vs=>match dO k ks vs with
  | some v=>if f.isOwn&&v.has Fl.isOwn then .stuck else .ok v
  | none=>.stuck
 | _=>.stuck
mutual
theorem Rel.noOwn:∀{x:PV}{v:V}{fp:List Addr},x.has Fl.isOwn=false->Rel T F B L H x v fp->fp=[]
 | .non,_,_,_,h | .bl _,_,_,_,h | .int _,_,_,_,h | .str _,_,_,_,h=>by unfold Rel at h;exact h.2
 | .lst f xs,_,fp,hp,h=>by
  unfold Rel at h
  simp only[PV.has,Bool.or_eq_false_iff]at hp
  obtain⟨a,vs,fp',e,hl,hr,hf⟩:=h
  cases f with
  | own=>exact absurd hp.1 (by decide)
  | frz | bor | lnt | mod=>exact hf.2
 | .tup xs,_,fp,hp,h=>by
  unfold Rel at h
  simp only[PV.has]at hp
  obtain⟨a,vs,e,hl,hr⟩:=h
  exact RelL.noOwn hp hr
 | .obj f c ks xs,_,fp,hp,h=>by
  unfold Rel at h
  simp only[PV.has,Bool.or_eq_false_iff]at hp
  obtain⟨a,dx,vs,fp',e,hl,hk,hr,hf,ha⟩:=h
  cases f with
  | own=>exact absurd hp.1 (by decide)
  | frz | bor | lnt | mod=>exact hf.2
 | .exc c,_,fp,hp,h=>by
  unfold Rel at h
  obtain⟨a,_,_,e⟩:=h
  exact e
theorem RelL.noOwn:∀{xs:List PV}{vs:List V}{fp:List Addr},hasL Fl.isOwn xs=false->RelL T F B L H xs vs fp->fp=[]
 | [],_,_,_,h=>by unfold RelL at h;exact h.2
 | x::xs,_,fp,hp,h=>by
  unfold RelL at h
  simp only[hasL,Bool.or_eq_false_iff]at hp
  obtain⟨v,ws,f1,f2,e,h1,h2,rfl⟩:=h
  rw[Rel.noOwn hp.1 h1,RelL.noOwn hp.2 h2]
  rfl
end
theorem RelL.get:∀{xs:List PV}{vs:List V}{fp:List Addr}{i:Nat}{x:PV},RelL T F B L H xs vs fp->xs[i]?=some x->∃v f,vs[i]?=some v/\Rel T F B L H x v f/\f.Sublist fp
 | [],_,_,_,_,_,e=>by simp at e
 | y::xs,_,fp,0,x,h,e=>by
  unfold RelL at h
  obtain⟨v,ws,f1,f2,rfl,h1,h2,rfl⟩:=h
  simp at e
  subst e
  exact⟨v,f1,by simp,h1,List.sublist_append_left _ _⟩
 | y::xs,_,fp,i+1,x,h,e=>by
  unfold RelL at h
  obtain⟨v,ws,f1,f2,rfl,h1,h2,rfl⟩:=h
  obtain⟨w,f,e1,r,s⟩:=RelL.get (i:=i) h2 (by simpa using e)
  exact⟨w,f,by simpa using e1,r,s.trans (List.sublist_append_right _ _)⟩
theorem lE:∀{ks:List Nat}{xs:List PV}{vs:List V}{fp:List Addr}{x:PV},RelL T F B L H xs vs fp->dO k ks xs=some x->∃v f,((ks.map T.att).zip vs).lookup (T.att k)=some v/\Rel T F B L H x v f/\f.Sublist fp
 | [],_,_,_,_,_,e | j::ks,[],_,_,_,_,e=>by simp[dO]at e
 | j::ks,y::xs,_,fp,x,h,e=>by
  unfold RelL at h
  obtain⟨v,ws,f1,f2,rfl,h1,h2,rfl⟩:=h
  unfold dO at e
  by_cases hj:j=k
  ·rw[if_pos hj]at e
   cases e
   subst hj
   exact⟨v,f1,by simp,h1,List.sublist_append_left _ _⟩
  ·rw[if_neg hj]at e
   obtain⟨w,f,e1,r,s⟩:=lE (ks:=ks) h2 e
   refine⟨w,f,?_,r,s.trans (List.sublist_append_right _ _)⟩
   have:(T.att k==T.att j)=false:=by
    rw[beq_eq_false_iff_ne]
    exact fun z=>hj (T.inj _ _ z).symm
   rw[List.map_cons,List.zip_cons_cons,List.lookup_cons,this]
   exact e1
theorem sO(hK:X.K=T.K)(hf:T.att k=f)(hc:∀c < T.nc,Cls T.K (T.cls c))(hn:∀c < T.nc,cX T.K (T.cls c) f)(h:tE T W (mUn (az k) m) σ H Q):yt X.K (tE T W m) f σ H Q:=by
 obtain⟨Z,F,env,fp,S,q⟩:=h
 unfold mUn at q
 refine tE.bind S (fun c e=>by rw[e]at q;exact q) (fun e=>by rw[e]at q;exact q) fun x v H1 F1 f1 e1 g1 r1 n1 d1 w1=>?_
 rw[e1]at q
 cases x with
 | obj fl c ks xs =>
  simp only[Res.ok_bind,az]at q
  cases e2:dO k ks xs with
  | none=>rw[e2]at q;exact q.elim
  | some y =>
   rw[e2]at q
   dsimp only at q
   unfold Rel at r1
   obtain⟨a,dx,vs,fp',rfl,hl,hk,hr,hfl,_⟩:=r1
   obtain⟨w,f',l1,l2,l3⟩:=lE hr e2
   have e0:f'=[]:=by
    cases fl with
    | own =>
     simp only[Fl.isOwn,Bool.true_and]at q
     by_cases ho:y.has Fl.isOwn=true
     ·rw[if_pos ho]at q;exact q.elim
     ·exact Rel.noOwn (by simpa using ho) l2
    | frz | bor | lnt | mod=>obtain⟨rfl,_⟩:=hfl;exact List.sublist_nil.mp l3
   subst e0
   by_cases hb:(fl.isOwn&&y.has Fl.isOwn)=true
   ·rw[if_pos hb]at q;exact q.elim
   ·rw[if_neg hb]at q
    rw[hK]
    exact⟨a,_,dx,_,w,rfl,hl,hc c hk.2,hn c hk.2,by rw[<- hf];exact l1,q.scal g1 l2⟩
 | _=>exact q.elim
theorem s_(hK:X.K=T.K)(hf:T.att k=f)(hc:∀c < T.nc,Cls T.K (T.cls c))(hn:∀c < T.nc,cX T.K (T.cls c) f)(he:SE X T W e m)(hb:attributeBase e f X.env (eval e X.env)=eval e X.env:=by rfl) :
  SE X T W (.Attribute e f pos) (mUn (az k) m):=PE.wk (v5 (pos:=pos) he hb) fun σ H Q h=>sO hK hf hc hn h
end
end PR
namespace L2
open PySem PySem.Spec
theorem b5.there(x:b5 P w H h a o):∃u,h.get? a=some u:=by
 cases o with
 | lst xs=>obtain⟨_,_,_,_,e⟩:=x;exact⟨_,e⟩
 | tup xs=>obtain⟨_,_,_,o,e,_⟩:=x;exact⟨_,e⟩
 | dK kvs | dT kvs=>obtain⟨_,_,_,_,o,_,_,e,_⟩:=x;exact⟨_,e⟩
 | set S n=>obtain⟨o,_,_,_,e,_⟩:=x;exact⟨_,e⟩
 | ins C dx fs=>obtain⟨_,_,_,e,_⟩:=x;exact⟨_,e⟩
 | own y=>exact x
 | xd fs=>obtain⟨_,⟨_,_,_,e,_⟩,_⟩:=x;exact⟨_,e⟩
 | rng lo hi=>obtain⟨_,_,_,e⟩:=x;exact⟨_,e⟩
 | frz ob u=>obtain⟨e,_⟩:=x;exact⟨_,e⟩
 | tbl ps | met f y=>exact⟨_,(show h.get? a=some _ from x)⟩
 | ext φ=>obtain⟨_,q,_⟩:=x;exact q
end L2
namespace PR
open PySem PySem.Spec L2
structure Fly(P:Program)(w:World)(outer:List Env)(H:Hp)(s:Shared)(cls:Value)(H':Hp)(e:Value)(s':Shared):Prop where
 os:s'.os=s.os
 bare:PyProof.Rows.AllBare s'.gens
 un:Un (frs outer) [] H H' s.heap s'.heap
 hok:HOk P w H' s'.heap
 fly:∃x a0 Bh,e=.ref x/\Heap.FlyingW Bh outer x cls a0 s'.heap/\(∀b o u,H' b=some u->s'.heap.get? b=some o->Bh.get? b=some o)/\
  (∀b o o',s'.heap.get? b=some o->s.heap.get? b=some o'->b∉frs outer->Bh.get? b=some o)
def CXP(P:Program)(w:World):CXT:=fun outer H s E e s'=>∃cls H',Fly P w outer H s cls H' e s'/\E cls none H'
def XF(X:Cx)(T:Tb)(W:Nat->St->Hp->Prop):Prop:=∀(pins:List (Addr×Obj)) (σ:St) (H:Hp) (s:Shared) (c:Nat) (H':Hp) (e:Value) (s':Shared),L2.Inv X pins σ H s->Fly X.prog X.w X.stack H s (.ref (T.xcl c)) H' e s'->W c σ H'->X.xe e s'
def XM(X:Cx)(T:Tb)(W:Nat->St->Hp->Prop):Prop:=∀(pins:List (Addr×Obj)) (σ:St) (H:Hp) (s:Shared) (c:Nat) (h':Heap) (e:Addr) (vs:List Value),L2.Inv X pins σ H s->Heap.MadeExcOf s.heap h' e (.ref (T.xcl c)) vs->W c σ H->X.xe (.ref e) { s with heap:=h' }
section
variable{P:Program}{w:World}{K:PySem.W.Frag}{mg:Str->Option Value}{base:Heap}{N:List Str}{qual:Str}{scope:Scope}{f:Addr}{cd:Value}{A:Around}{outer:List Env}{s:Shared}{H:Hp}{E:XK}
theorem oI{H:Hp}{h h' Bh:Heap}(ok:HOk P w H h)(k:∀b o u,H b=some u->h.get? b=some o->Bh.get? b=some o)(st:Bh.StaysIn h'):HOk P w H h':=fun a o e =>
 (ok a o e).stay (fun b u hb q=>by
  rcases hb with rfl | hb
  ·exact st _ _ (k b u _ e q)
  ·exact st _ _ (k b u _ hb q)) (fun _ q=>q) fun _ _ q=>q
theorem jV(I:L2.Inv X pins σ H1 s1)(hst:X.stack=X.env::X.outer)(hex:X.ex=[])(hfrm:X.env.frame=some X.env.locals)
  (hos:os2=s1.os) (hb:PyProof.Rows.AllBare g2) (u2:Un (frs X.stack) [] H1 H2 s1.heap h2) (ok:HOk X.prog X.w H2 h2) (tr:∀b o u,H2 b=some u->h2.get? b=some o->Bh.get? b=some o)
  (ol:∀b o o',h2.get? b=some o->s1.heap.get? b=some o'->b∉frs X.stack->Bh.get? b=some o) (fl:Heap.FlyingW Bh X.outer x cls a0 h') (up:h2.UpToSlots h') :
  Fly X.prog X.w X.outer X.H₀ X.s₀ cls H2 (.ref x) ⟨h',g2,d2,t2,os2⟩:=by
 have u1:=I.base
 rw[hex]at u1
 have hfs:frs X.stack=X.env.locals::frs X.outer:=by
  rw[hst]
  show List.filterMap _ _=_
  rw[List.filterMap_cons,hfrm]
  rfl
 have u:Un (frs X.stack) [] X.H₀ H2 X.s₀.heap h2:=(u1.mono (fun b hb=>by rw[hfs];exact List.mem_cons_of_mem _ hb) fun _ z=>z).trans u2
 have neL:∀b o,X.s₀.heap.get? b=some o->b≠X.env.locals:=fun b o e=>Nat.ne_of_lt (Nat.lt_of_lt_of_le (Heap.lt_size e) I.ok.above)
 have nst:∀b o,X.s₀.heap.get? b=some o->b∉frs X.outer->b∉frs X.stack:=fun b o e hn hb=>by
  rw[hfs]at hb
  rcases List.mem_cons.mp hb with z | z
  ·exact neL b o e z
  ·exact hn z
 have data:∀b o,X.s₀.heap.get? b=some o->b∈frs X.outer->∀vs,o.data≠.fields vs:=fun b o e hb vs z=>by
  obtain⟨_,o',ho',hd'⟩:=I.ok.funs.mem hb
  rw[e]at ho'
  cases ho'
  exact hd' vs z
 refine⟨hos.trans I.os,hb,⟨fun b o e n hf _=>?_,fun b o e n hf _=>?_,u.free,fun b o e _=>?_,u.tups,u.frzs,u.tbls⟩,oI ok tr fl.1,⟨x,a0,Bh,rfl,fl,fun b o v e q=>?_,fun b o o' e q hf=>?_⟩⟩
 ·have q:=u.keep b o e n (nst b o e hf) (by simp)
  obtain⟨o1,e1⟩:=u1.there b o e (by simp)
  exact fl.1 b o (ol b o o1 q e1 (nst b o e hf))
 ·obtain⟨sl,q⟩:=u.slot b o e n (by rw[hfs];exact List.mem_cons_of_mem _ hf) (by simp)
  obtain⟨sl',q'⟩:=up b _ q (data b o e hf)
  exact⟨sl',q'⟩
 ·by_cases hf:b∈frs X.outer
  ·obtain⟨_,o2,ho2,_⟩:=fl.2.2.1.mem hf
   exact⟨o2,ho2⟩
  ·obtain⟨o1,e1⟩:=u1.there b o e (by simp)
   obtain⟨o2,e2⟩:=u2.there b o1 e1 (by simp)
   exact⟨o2,fl.1 b o2 (ol b o2 o1 e2 e1 (nst b o e hf))⟩
 ·have hlt:=ok.lt e
  obtain⟨o2,e2⟩:∃o2,h2.get? b=some o2:=by
   have x:=ok b v e
   exact b5.there x
  have:=fl.1 b o2 (tr b o2 v e e2)
  rw[q]at this
  cases this
  exact tr b o v e e2
 ·obtain⟨o1,e1⟩:=u1.there b o' q (by simp)
  obtain⟨o2,e2⟩:=u2.there b o1 e1 (by simp)
  have hB:=ol b o2 o1 e2 e1 (nst b o' q hf)
  have:=fl.1 b o2 hB
  rw[e]at this
  cases this
  exact hB
end
section
variable{P:Program}{w:World}{K:PySem.W.Frag}{mg:Str->Option Value}{base:Heap}{N:List Str}{qual:Str}{scope:Scope}{f:Addr}{cd:Value}{A:Around}{outer:List Env}{s:Shared}{H:Hp}{E:XK}{T:Tb}
abbrev WD(T:Tb)(E:XK):Nat->St->Hp->Prop:=fun c _ H=>E (.ref (T.xcl c)) none H
theorem vk:XF (cB (CXP P w) P w K mg base N qual scope f cd A outer s H E) T (WD T E):=by
 intro pins σ H1 s1 c H2 e s2 I fl hW
 obtain⟨x,a0,Bh,rfl,fly,tr,ol⟩:=fl.fly
 refine wpAny_leaves_onW (L:=s.heap.objs.size) I.ok.frames rfl fly fun h' fly' up=>?_
 obtain⟨h2,g2,d2,t2,os2⟩:=s2
 exact⟨_,H2,jV I rfl rfl rfl fl.os fl.bare fl.un fl.hok tr ol fly' up,hW⟩
theorem bF:XM (cB (CXP P w) P w K mg base N qual scope f cd A outer s H E) T (WD T E):=by
 intro pins σ H1 s1 c h2 e vs I mx hW
 have hin:∀env ∈(cB (CXP P w) P w K mg base N qual scope f cd A outer s H E).stack,∀b,env.frame=some b->b∈frs (cB (CXP P w) P w K mg base N qual scope f cd A outer s H E).stack:=fun env he b hb=>List.mem_filterMap.mpr ⟨env,he,hb⟩
 refine wpAny_leaves_madeW (base:=PySem.W.hideAll s1.heap (frs (cB (CXP P w) P w K mg base N qual scope f cd A outer s H E).stack)) (h:=s1.heap) (L:=s.heap.objs.size) I.ok.frames rfl (fun b o q=>PySem.W.of_hideAll _ q) (PySem.W.funFrames_hide I.stack hin) mx fun h' t fly' _ _ up=>?_
 obtain⟨h1,g1,d1,t1,os1⟩:=s1
 have fresh:∀b o,h1.get? b=some o->h2.get? b=some o:=mx.keeps
 have nfr:∀b u,H1 b=some u->b∉frs (cB (CXP P w) P w K mg base N qual scope f cd A outer s H E).stack:=fun b u e hb=>by
  rw[I.stkFree b hb]at e;cases e
 refine⟨_,H1,jV I rfl rfl rfl rfl I.bare (h2:=h2) (Bh:=PySem.W.hideAll h1 (frs (cB (CXP P w) P w K mg base N qual scope f cd A outer s H E).stack)) (Un.kept fresh) (I.hok.kept fresh) (fun b o u e q=>?_) (fun b o o' e q hb=>?_) fly' up,hW⟩
 ·obtain⟨o1,e1⟩:=b5.there (I.hok b u e)
  have:=fresh b o1 e1
  rw[q]at this;cases this
  exact PySem.W.hideAll_get _ e1 (nfr b u e)
 ·have:=fresh b o' q
  rw[e]at this;cases this
  exact PySem.W.hideAll_get _ q hb
end
structure Bb(X:Cx)(x:Str)(C:Addr):Prop where
 bm:X.mg x=some (.ref C)
 obj:∃bm N nm q bs hdct sn sub ab col dd k0 k1 k2 k3 k5 mN,X.base.get? C=some (excClassObj nm q C N bs bm hdct sn sub ab col dd k0 k1 k2 k3 k5 "ValueError.__new__")/\X.base.Ns N mN/\mN "__init__" = none /\
  OwnTail X.base [.type "ValueError", .type "Exception", .type "BaseException", .type "object"] bm
section
variable{X:Cx}{T:Tb}{W:Nat->St->Hp->Prop}
theorem qd(O:Bb X x (T.xcl c))(hx:XM X T W)(hc:X.calm=true)(hg:Gl X x)(ha:SA X T W (e::es) ms)(hne:∀env pvs,ms env=.ok pvs->pvs.length<=100)(hd:(x ==("__debug__" : Str))=false:=by decide)
  (he:starEach (e::es) X.env=(false,eval e X.env)::starEach es X.env:=by rfl) (hpl:(backTo cpos (starEach es X.env)).any (·.1)=false:=by rfl) :
  SS X T W (.Raise (some (.Call (.Name x np) (e::es) [] cpos)) none pos) (fun env=>match ms env with
   | .ok _=>.exc c env
   | .exc k=>.exc k env
   | .stuck=>.stuck):=by
 intro pins s σ H D I h
 obtain⟨Z,F,env,fp,S,q⟩:=h
 dsimp only at q
 obtain⟨tl,N,nm,qn,bs,hdct,sn,sub,ab,col,dd,k0,k1,k2,k3,k5,mN,hC,hN,hni,TL⟩:=O.obj
 refine wpAny_Raise_call_subT (C:=T.xcl c) (nm:=nm) (q:=qn) (N:=N) (bs:=bs) (bm:=tl) (hdct:=hdct) (sn:=sn) (sub:=sub) (ab:=ab) (col:=col) (dd:=dd) (k0:=k0) (k1:=k1) (k2:=k2) (k3:=k3) (k5:=k5)
  PySem.F.excBase_ValueError (mN:=mN) (TL.hasType PySem.F.excBase_ValueError.hasBase) (I.ok.hd hc) (by rw[he];show(false ||(backTo cpos (starEach es X.env)).any (·.1))=false;rw[hpl];rfl) hni (el I hg O.bm ⟨rfl,?_⟩ hd)
 have h2:=ha cpos pins s σ H (fun vs H'=>vs.length <= 100/\W c σ H') I (tA.bind S (fun k e H' x=>by rw [e] at q;exact q F H' σ fp (S.grow (Gr.same S.hp.ft x))) (fun e=>by rw [e] at q;exact q) fun pvs vs H' F' f e g r _ _ _=>by
  rw[e]at q
  exact⟨by rw[<- r.length];exact hne env pvs e,q F' H' σ fp (S.grow g)⟩)
 rw[he]at h2 ⊢
 refine Calls.evalArgs_plain (wpAny_mono h2 (fun vs s₂ h₂=>?_) fun _ _ y=>y)
 obtain⟨vs',H',I2,rv,hl,hw⟩:=h₂
 refine⟨rfl,?_,I2.bk _ _ hC,hN.keeps I2.bk,TL.keeps I2.bk,fun h' e' mx=>hx pins σ H' s₂ c h' e' vs I2 mx hw⟩
 rw[<- rv.length,sizeLine_eq]
 omega
end
def au(m:List PV->Res PV)(xs:List PV):Res PV:=match m (mapL Fl.toBor xs)with
 | .ok v=>if v.has Fl.isBor then .stuck else .ok v
 | .exc c=>.exc c
 | .stuck=>.stuck
def bg(n:Nat)(m:MS)(args:List PV):Res PV:=match m (args.map some++List.replicate (n - args.length) none)with
 | .next _=>.ok .non
 | .ret v=>.ok v
 | .exc c _=>.exc c
 | _=>.stuck
def GF(T:Tb)(Z:Zn)(Q:VK)(E:XK):Res PV->Prop
 | .ok pv=>∀F H v f,dB T Z F H->Rel T F Z.B NoL H pv v f->f.Nodup->(∀a∈f,¬F a)->(∀a∈f,Z.H0 a=none\/Z.fp0 a)->Q v H
 | .exc c=>∀H,(∀a o,Z.H0 a=some o->¬Z.fp0 a->H a=some o)->E (.ref (T.xcl c)) none H
 | .stuck=>False
structure ny(T:Tb)(F B:Addr->Prop)(H:Hp)(pvs:List PV)(vs:List V)(f:List Addr):Prop where
 rel:RelL T F B NoL H pvs vs f
 nd:f.Nodup
 nf:∀a∈f,¬F a
 bo:∀a,B a->(∃o,H a=some o)/\a∉f
 ft:∀a,F a->∃o,H a=some o
def spM(T:Tb)(n:Nat)(m:List PV->Res PV):Sp:=fun vs H Q E=>vs.length=n/\∃pvs F B f,ny T F B H pvs vs f/\GF T ⟨H,F,(·∈f),B,none⟩ Q E (m pvs)
theorem RelL.split:∀{xs:List PV}{vs:List V}{f:List Addr},RelL T F B L H xs vs f->f.Nodup ->
  ∃g:Nat->List Addr,(∀(i:Nat) x v,xs[i]?=some x->vs[i]?=some v->Rel T F B L H x v (g i))/\(∀i,(g i).Nodup)/\(∀i j,i≠j->∀a∈g i,a∉g j)/\∀i a,a∈g i->a∈f
 | [],_,_,_,_=>⟨fun _=>[],fun i x v e=>by simp at e,fun _=>List.nodup_nil,fun _ _ _ _ z=>(nomatch z),fun _ _ z=>(nomatch z)⟩
 | x::xs,_,_,h,nd=>by
  unfold RelL at h
  obtain⟨v,ws,f1,f2,rfl,h1,h2,rfl⟩:=h
  obtain⟨n1,n2,n3⟩:=List.nodup_append.mp nd
  obtain⟨g,g1,g2,g3,g4⟩:=RelL.split h2 n2
  refine⟨fun i=>match i with | 0=>f1 | j+1=>g j,fun i y u e1 e2=>?_,fun i=>?_,fun i j hij a ha=>?_,fun i a ha=>?_⟩
  ·cases i with
   | zero=>simp at e1 e2;subst e1 e2;exact h1
   | succ i=>exact g1 i y u (by simpa using e1) (by simpa using e2)
  ·cases i with
   | zero=>exact n1
   | succ i=>exact g2 i
  ·cases i with
   | zero =>
    cases j with
    | zero=>exact absurd rfl hij
    | succ j=>exact fun z=>n3 a ha a (g4 j a z) rfl
   | succ i =>
    cases j with
    | zero=>exact fun z=>n3 a z a (g4 i a ha) rfl
    | succ j=>exact g3 i j (fun z=>hij (by rw[z])) a ha
  ·cases i with
   | zero=>exact List.mem_append_left _ ha
   | succ i=>exact List.mem_append_right _ (g4 i a ha)
section
variable{P:Program}{w:World}{K:PySem.W.Frag}{mg:Str->Option Value}{base:Heap}{T:Tb}
theorem g0(N:List Str)(R:ny T F B H pvs vs f)(pin:Option V)(hpin:∀v,pin=some v->vs[0]?=some v/\∃fl c ks xs,pvs[0]?=some (.obj fl c ks xs)) :
  ∃fp,ap T ⟨H,F,(·∈f),B,pin⟩ F H (L2.eE N vs) (pvs.map some++List.replicate (N.length - pvs.length) none) fp:=by
 obtain⟨g,g1,g2,g3,g4⟩:=R.rel.split R.nd
 have hl:=R.rel.length
 refine⟨g,⟨R.bo,fun _ _ h _=>h,fun _ h=>h,fun _ h=>.inl h,R.ft⟩,?_,fun i pv e=>?_,g2,g3,fun i a ha=>⟨R.nf a (g4 i a ha),R.rel.there a (g4 i a ha)⟩,fun i a ha=>.inr (g4 i a ha),fun i a ha=>R.rel.chg a (g4 i a ha),fun v hv=>?_⟩
 ·unfold L2.eE
  simp[hl]
 ·by_cases hi:i < pvs.length
  ·rw[List.getElem?_append_left (by simpa using hi),List.getElem?_map]at e
   obtain⟨x,e1,e2⟩:=Option.map_eq_some_iff.mp e
   cases e2
   obtain⟨v,_,ev,_⟩:=R.rel.get e1
   refine⟨v,?_,g1 i pv v e1 ev⟩
   unfold L2.eE
   rw[List.getElem?_append_left (by simpa[<- hl]using hi),List.getElem?_map,ev]
   rfl
  ·rw[List.getElem?_append_right (by simpa using hi),List.getElem?_replicate]at e
   split at e<;>cases e
 ·obtain⟨h1,fl,c,ks,xs,h2⟩:=hpin v hv
  have hl0:0 < vs.length:=(List.getElem?_eq_some_iff.mp h1).1
  have hp0:0 < pvs.length:=(List.getElem?_eq_some_iff.mp h2).1
  unfold L2.eE cK
  rw[List.getElem?_append_left (by simpa using hl0),List.getElem?_append_left (by simpa using hp0),List.getElem?_map,List.getElem?_map,h1,h2]
  exact⟨rfl,rfl⟩
theorem zt(F:Fun K x qual st f fd)(S:bP N ps (ao st))
  (body:∀ (cdv:Value) (A:Around) (outer:List Env) (s:Shared) (H:Hp) (E:XK),cz k (A.deeper (PyProof.Rows.envOfC qual (ao st) s.heap.objs.size f cdv)) ->
   SSs (cB (CXP P w) P w K mg base N qual (ao st) f cdv A outer s H E) T (WD T E) (aG st) m):bC P w K mg base (CXP P w) (k+1) f fd ps (spM T ps.length (bg N.length m)):=by
 obtain⟨oc,od,kV,doc,pm,an,cdv,ct,osl,rfl,lk,hcd⟩:=F.ex
 refine oH lk hcd S (fun vs H Q E h=>h.1) fun A outer s H vs Q E hr hsp=>⟨_,body cdv A outer s H E hr,?_⟩
 obtain⟨_,pvs,F,B,fl,R,q⟩:=hsp
 obtain⟨fp,S0⟩:=g0 N R none (fun _ h=>nomatch h)
 refine⟨_,F,_,fp,S0,?_⟩
 unfold bg at q
 cases e:m (pvs.map some++List.replicate (N.length - pvs.length) none)with
 | next e'=>rw[e]at q;exact fun F' H' σ' fp' S'=>q F' H' .non [] S'.hp vP List.nodup_nil (fun _ z=>(nomatch z)) (fun _ z=>(nomatch z))
 | ret v=>rw[e]at q;exact q
 | brk e' | cont e'=>rw[e]at q;exact q.elim
 | exc c e'=>rw[e]at q;exact fun F' H' σ' fp' S'=>q H' S'.hp.keep
 | stuck=>rw[e]at q;exact q.elim
end
mutual
theorem Rel.toBor(hB:∀a,B a->B' a)(hL:∀a,L a->B' a):∀{x:PV}{v:V}{fp:List Addr},Rel T F B L H x v fp->Rel T F B' L' H (x.mapF Fl.toBor) v fp
 | .non,_,_,h | .bl _,_,_,h | .int _,_,_,h | .str _,_,_,h=>by unfold Rel at h;simp only[PV.mapF];unfold Rel;exact h
 | .lst f xs,_,fp,h=>by
  unfold Rel at h
  obtain⟨a,vs,fp',e,hl,hr,hf⟩:=h
  simp only[PV.mapF]
  unfold Rel
  cases f with
  | own | frz=>exact⟨a,vs,fp',e,hl,RelL.toBor hB hL hr,hf⟩
  | bor=>exact⟨a,vs,fp',e,⟨hB a hl.1,hl.2⟩,RelL.toBor hB hL hr,hf⟩
  | lnt=>exact⟨a,vs,fp',e,⟨hL a hl.1,.inl hl.2⟩,RelL.toBor hB hL hr,hf⟩
  | mod=>exact⟨a,vs,fp',e,hl,RelL.toBor hB hL hr,hf⟩
 | .tup xs,_,fp,h=>by
  unfold Rel at h
  obtain⟨a,vs,e,hl,hr⟩:=h
  simp only[PV.mapF]
  unfold Rel
  exact⟨a,vs,e,hl,RelL.toBor hB hL hr⟩
 | .obj f c ks xs,_,fp,h=>by
  unfold Rel at h
  obtain⟨a,dx,vs,fp',e,hl,hk,hr,hf,ha⟩:=h
  simp only[PV.mapF]
  unfold Rel
  have r:=RelL.toBor hB hL (L':=L') hr
  have hk':ks.length=(mapL Fl.toBor xs).length/\c < T.nc:=⟨by rw[r.length,hk.1,hr.length],hk.2⟩
  cases f with
  | own | frz=>exact⟨a,dx,vs,fp',e,hl,hk',r,hf,ha⟩
  | bor=>exact⟨a,dx,vs,fp',e,hl,hk',r,hf,hB a ha⟩
  | lnt=>exact⟨a,dx,vs,fp',e,hl,hk',r,hf,hL a ha⟩
  | mod=>exact ha.elim
 | .exc c,_,fp,h=>by unfold Rel at h;simp only[PV.mapF];unfold Rel;exact h
theorem RelL.toBor(hB:∀a,B a->B' a)(hL:∀a,L a->B' a):∀{xs:List PV}{vs:List V}{fp:List Addr},RelL T F B L H xs vs fp->RelL T F B' L' H (mapL Fl.toBor xs) vs fp
 | [],_,_,h=>by unfold RelL at h;simp only[mapL];unfold RelL;exact h
 | x::xs,_,fp,h=>by
  unfold RelL at h
  obtain⟨v,ws,f1,f2,e,h1,h2,rfl⟩:=h
  simp only[mapL]
  unfold RelL
  exact⟨v,ws,f1,f2,e,Rel.toBor hB hL h1,RelL.toBor hB hL h2,rfl⟩
end
mutual
theorem Rel.noB:∀{x:PV}{v:V}{fp:List Addr},x.has Fl.isBor=false->Rel T F B L H x v fp->Rel T F B' L H x v fp
 | .non,_,_,_,h | .bl _,_,_,_,h | .int _,_,_,_,h | .str _,_,_,_,h=>by unfold Rel at h ⊢;exact h
 | .lst f xs,_,fp,hp,h=>by
  unfold Rel at h ⊢
  simp only[PV.has,Bool.or_eq_false_iff]at hp
  obtain⟨a,vs,fp',e,hl,hr,hf⟩:=h
  refine⟨a,vs,fp',e,?_,RelL.noB hp.2 hr,hf⟩
  cases f with
  | bor=>exact absurd hp.1 (by decide)
  | own | frz | lnt | mod=>exact hl
 | .tup xs,_,fp,hp,h=>by
  unfold Rel at h ⊢
  simp only[PV.has]at hp
  obtain⟨a,vs,e,hl,hr⟩:=h
  exact⟨a,vs,e,hl,RelL.noB hp hr⟩
 | .obj f c ks xs,_,fp,hp,h=>by
  unfold Rel at h ⊢
  simp only[PV.has,Bool.or_eq_false_iff]at hp
  obtain⟨a,dx,vs,fp',e,hl,hk,hr,hf,ha⟩:=h
  refine⟨a,dx,vs,fp',e,hl,hk,RelL.noB hp.2 hr,hf,?_⟩
  cases f with
  | bor=>exact absurd hp.1 (by decide)
  | own | frz | lnt | mod=>exact ha
 | .exc c,_,fp,hp,h=>by
  unfold Rel at h ⊢
  exact h
theorem RelL.noB:∀{xs:List PV}{vs:List V}{fp:List Addr},hasL Fl.isBor xs=false->RelL T F B L H xs vs fp->RelL T F B' L H xs vs fp
 | [],_,_,_,h=>by unfold RelL at h ⊢;exact h
 | x::xs,_,fp,hp,h=>by
  unfold RelL at h ⊢
  simp only[hasL,Bool.or_eq_false_iff]at hp
  obtain⟨v,ws,f1,f2,e,h1,h2,rfl⟩:=h
  exact⟨v,ws,f1,f2,e,Rel.noB hp.1 h1,RelL.noB hp.2 h2,rfl⟩
end
theorem RelL.append:∀{xs ys:List PV}{vs us:List V}{f g:List Addr},RelL T F B L H xs vs f->RelL T F B L H ys us g->RelL T F B L H (xs++ys) (vs++us) (f++g)
 | [],_,_,_,_,_,h,r=>by unfold RelL at h;obtain⟨rfl,rfl⟩:=h;exact r
 | x::xs,_,_,_,_,_,h,r=>by
  unfold RelL at h
  obtain⟨v,ws,f1,f2,rfl,h1,h2,rfl⟩:=h
  show RelL T F B L H (x::(xs++_)) (v::(ws++_)) _
  unfold RelL
  exact⟨v,_,f1,_,rfl,h1,RelL.append h2 r,by rw[List.append_assoc]⟩
section
variable{X:Cx}{T:Tb}{W:Nat->St->Hp->Prop}{Z:Zn}{F F1:Addr->Prop}{H H1:Hp}{σ:St}{env:En}{fp:Nat->List Addr}
theorem uN
  (G:bC X.prog X.w X.K X.mg X.base (CXP X.prog X.w) k f fd ps (spM T ps.length m)) (hr:cz k X.A) (hb:cE X.K fd ps ds) (hd:aw dvs ds) (hdp:∀F B L H,RelL T F B L H dps dvs []) (hx:XF X T W)
  (S:ap T Z F H σ env fp) (g:Gr F H F1 H1) (r:RelL T F1 Z.B (Own fp) H1 xs vs fx) (nf:∀a∈fx,¬F1 a) (nd:fx.Nodup) (new:∀a∈fx,H a=none) (q:GE T W Z.B F (Own fp) σ H Q (au m (xs++dps)))
  (I1:L2.Inv X pins σ H1 s1) (rv:aw vs us) (hlen:vs.length+dvs.length=ps.length):wpAny (model X.prog X.w) X.A (call (.ref f) us) (EP X pins σ Q) X.xe s1:=by
 have r2:aw (vs++dvs) (us++ds):=rv.append hd
 have hl:(us++ds).length=ps.length:=by rw[<- r2.length,List.length_append];exact hlen
 have rr:RelL T F1 Z.B (Own fp) H1 (xs++dps) (vs++dvs) fx:=by
  have:=RelL.append r (hdp F1 Z.B (Own fp) H1)
  rwa [List.append_nil]at this
 have hBo:∀a,Z.B a->(∃o,H1 a=some o)/\a∉fx:=fun a h=>by
  obtain⟨⟨o,h1⟩,h2⟩:=S.hp.bo a h
  have h3:=S.hp.keep a o h1 h2
  exact⟨⟨o,g.ext a o h3⟩,fun z=>by rw[new a z]at h3;cases h3⟩
 have hOw:∀a,Own fp a->(∃o,H1 a=some o)/\a∉fx:=fun a ⟨i,hi⟩=>by
  obtain⟨_,o,ho⟩:=S.dis i a hi
  exact⟨⟨o,g.ext a o ho⟩,fun z=>by rw[new a z]at ho;cases ho⟩
 have R:ny T F1 (fun a=>(∃o,H1 a=some o)/\a∉fx) H1 (mapL Fl.toBor (xs++dps)) (vs++dvs) fx:=⟨RelL.toBor hBo hOw rr,nd,nf,fun a h=>h,g.dom⟩
 refine wpAny_call (codeAny_mono (G.run X.A X.stack s1 H1 ⟨us,[]⟩ (us ++ ds) (vs ++ dvs) Q (fun cls _ H'=>∃ c,cls=.ref (T.xcl c)/\W c σ H') hr I1.env0 (hb s1 us I1.kIn hl) r2
  ⟨by rw[r2.length,hl],_,F1,_,fx,R,?_⟩) fun rs s' hq=>?_)
 ·unfold au at q
  cases e:m (mapL Fl.toBor (xs++dps))with
  | ok v =>
   rw[e]at q
   dsimp only at q
   intro F2 H2 u f2 hp2 r3 nd2 nf2 new2
   by_cases hbr:v.has Fl.isBor=true
   ·rw[if_pos hbr]at q;exact q.elim
   ·rw[if_neg hbr]at q
    have hbr':v.has Fl.isBor=false:=by simpa using hbr
    refine q u H2 F2 f2 ⟨fun a o h=>hp2.keep a o (g.ext a o h) fun z=>(by rw[new a z]at h;cases h),fun a h=>hp2.f0 a (g.mono a h),fun a h=>?_,hp2.ft⟩ ?_ nf2 nd2 fun a ha=>?_
    ·rcases hp2.fn a h with z | z | z
     ·exact g.only a z
     ·exact .inr (g.ext.free z)
     ·exact .inr (new a z)
    ·exact Rel.tr (fun _ h=>h) (fun _ h=>h) (fun _ h=>h.elim) (fun _ _ h _=>h) (fun _ _ _ h=>h) (Rel.noB (B':=Z.B) hbr' r3)
    ·rcases new2 a ha with z | z
     ·exact g.ext.free z
     ·exact new a z
  | exc c =>
   rw[e]at q
   exact fun H' h=>⟨c,rfl,q H' fun a o z=>h a o (g.ext a o z) fun z'=>by rw[new a z']at z;cases z⟩
  | stuck=>rw[e]at q;exact q.elim
 ·cases rs with
  | error e =>
   obtain⟨cls,H',fl,c,rfl,hw⟩:=hq
   exact hx pins σ H1 s1 c H' e s' I1 fl hw
  | ok fl =>
   cases fl with
   | ret u=>exact I1.after hq
   | next | brk | cont=>exact False.elim hq
theorem nP
  (G:bC X.prog X.w X.K X.mg X.base (CXP X.prog X.w) k f fd ps (spM T ps.length m)) (hr:cz k X.A) (hg:Gl X x) (hm:X.mg x=some (.ref f)) (hk:PySem.W.keepIn X.K (.ref f)=true) (hb:cE X.K fd ps ds) (hd:aw dvs ds) (hdp:∀F B L H,RelL T F B L H dps dvs []) (hx:XF X T W)
  (hn:∀env xs,ms env=.ok xs->xs.length+dvs.length=ps.length) (ha:SA X T W (e::es) ms)
  (hdb:(x ==("__debug__" : Str))=false:=by decide) (he:starEach (e::es) X.env=(false,eval e X.env)::starEach es X.env:=by rfl) (hpl:(backTo pos (starEach es X.env)).any (·.1)=false:=by rfl) :
  SE X T W (.Call (.Name x p) (e::es) [] pos) (am (fun xs=>au m (xs++dps)) ms):=by
 intro pins s σ H Q I h
 obtain⟨Z,F,env,fp,S,q⟩:=h
 unfold am at q
 refine wpAny_Call_Name_kw (el I hg hm ?_ hdb)
 refine PySem.W.callWith_K (h₀:=X.base) I.ok.mod.kin hk (thn (ha pos pins s σ H (fun vs H1=>∀ us s1,L2.Inv X pins σ H1 s1->aw vs us->wpAny (model X.prog X.w) X.A (call (.ref f) us) (EP X pins σ Q) X.xe s1) I
  (tA.bind S (fun c e=>by rw[e]at q;exact q) (fun e=>by rw[e]at q;exact q) fun xs vs H1 F1 f1 e1 g1 r1 n1 d1 w1 us s1 I1 rv=>?_)) fun us s1 ⟨vs,H1,I1,r,q1⟩=>⟨I1.kIn,q1 us s1 I1 r⟩) he hpl
 rw[e1]at q
 exact uN G hr hb hd hdp hx S g1 r1 n1 d1 w1 q I1 rv (by rw[<- r1.length];exact hn env xs e1)
def kL(X:Cx)(T:Tb)(k:Nat)(mn:Str)(ps:List Str)(ds:List Value)(disp:Nat->Option (List PV->Res PV)):Prop :=
 ∀c m,c < T.nc->disp c=some m->∃f fd,uH X.K (T.cls c) mn f/\cE X.K fd ps ds/\bC X.prog X.w X.K X.mg X.base (CXP X.prog X.w) k f fd ps (spM T ps.length m)
def oy(disp:Nat->Option (List PV->Res PV))(dps:List PV)(o:ME)(ms:MA):ME:=fun env=>(o env).bind fun ov=>match ov with
 | .obj _ c _ _=>match disp c with
  | some m=>(ms env).bind fun xs=>au m ((ov::xs)++ dps)
  | none=>.stuck
 | _=>.stuck
theorem ib(hm:∀k,T.att k≠mn):∀(ks:List Nat) (vs:List V),((ks.map T.att).zip vs).lookup mn=none
 | [],_ | j::ks,[]=>rfl
 | j::ks,v::vs=>by
  rw[List.map_cons,List.zip_cons_cons,List.lookup_cons,show(mn==T.att j)=false by rw[beq_eq_false_iff_ne];exact(hm j).symm]
  exact ib hm ks vs
theorem t4
  (hK:X.K=T.K) (hc:∀c < T.nc,Cls T.K (T.cls c)) (hm:∀k,T.att k≠mn) (D:kL X T k mn ps ds disp) (e:disp c=some m) (r:Rel T F1 B L H1 (.obj fl c ks xs) v f1) (I1:L2.Inv X pins σ H1 s1) (ru:aT v u)
  (h:∀a f fd,u=.ref a->PySem.W.keepIn X.K (.ref f)=true->cE X.K fd ps ds->bC X.prog X.w X.K X.mg X.base (CXP X.prog X.w) k f fd ps (spM T ps.length m)->Q (.ref f,[.ref a]) s1) :
  wpAny (model X.prog X.w) X.A (getMethod u mn pl) Q X.xe s1:=by
 unfold Rel at r
 obtain⟨a,dx,vs,fp',rfl,hl,hk,hr,_,_⟩:=r
 obtain⟨f,fd,M,hb,G⟩:=D c m hk.2 e
 obtain rfl:u=Value.ref a:=ru
 refine m_ I1 hl (by rw[hK];exact hc c hk.2) M (ib hm _ _) (h a f fd rfl M.kp hb G)
theorem sV
  (hK:X.K=T.K) (hc:∀c < T.nc,Cls T.K (T.cls c)) (hm:∀k,T.att k≠mn) (D:kL X T k mn ps ds disp) (hr:cz k X.A) (hd:aw dvs ds) (hdp:∀F B L H,RelL T F B L H dps dvs []) (hx:XF X T W)
  (hn:∀env xs,ms env=.ok xs->xs.length+1+dvs.length=ps.length) (ho:SE X T W o mo) (ha:SA X T W (e::es) ms)
  (hst:starEach (e::es) X.env=(false,eval e X.env)::starEach es X.env:=by rfl) (hpl:(backTo pos (starEach es X.env)).any (·.1)=false:=by rfl)
  (ht:eval (.Call (.Attribute o mn apos) (e::es) [] pos) X.env=(do
   let ov <- eval o X.env
   standAt apos.atName
   let(f,first) <- holding [ov] (getMethod ov mn pl)
   callWith pos f first (backTo pos (starEach (e::es) X.env)) (backToKw pos (keywordEach [] X.env))):=by rfl) :
  SE X T W (.Call (.Attribute o mn apos) (e::es) [] pos) (oy disp dps mo ms):=by
 intro pins s σ H Q I h
 obtain⟨Z,F,env,fp,S,q⟩:=h
 unfold oy at q
 refine PySem.W.methodCall_KW (pl:=pl) (thn (ho pins s σ H (fun v H1=>∃ ov F1 f1,mo env=.ok ov/\Gr F H F1 H1/\Rel T F1 Z.B (Own fp) H1 ov v f1/\(∀ a ∈ f1,¬ F1 a)/\f1.Nodup/\∀ a ∈ f1,H a=none) I
  (tE.bind S (fun c e=>by rw[e]at q;exact q) (fun e=>by rw[e]at q;exact q) fun ov v H1 F1 f1 e1 g1 r1 n1 d1 w1=>⟨ov,F1,f1,e1,g1,r1,n1,d1,w1⟩)) fun u s1 ⟨v,H1,I1,ru,ov,F1,f1,e1,g1,r1,n1,d1,w1⟩=>?_) ht
 rw[e1]at q
 simp only[Res.ok_bind]at q
 by_cases hobj:∃fl c ks xs m,ov=.obj fl c ks xs/\disp c=some m
 ·obtain⟨fl,c,ks,ys,m,rfl,em⟩:=hobj
  dsimp only at q
  rw[em]at q
  dsimp only at q
  refine t4 hK hc hm D em r1 I1 ru fun a f fd eu hkp hb G=>?_
  subst eu
  refine PySem.W.callWith_K (first:=[.ref a]) (h₀:=X.base) I.ok.mod.kin hkp (thn (ha pos pins s1 σ H1 (fun vs H2=>∀ us s2,L2.Inv X pins σ H2 s2->aw vs us->wpAny (model X.prog X.w) X.A (call (.ref f) (.ref a::us)) (EP X pins σ Q) X.xe s2) I1
   (tA.bind (S.grow g1) (fun c e=>by rw[e]at q;exact fun H' x=>q H' (g1.ext.trans x)) (fun e=>by rw[e]at q;exact q) fun xs vs H2 F2 f2 e2 g2 r2 n2 d2 w2 us s2 I2 rv=>?_)) fun us s2 ⟨vs,H2,I2,r,q2⟩=>⟨I2.kIn,q2 us s2 I2 r⟩) hst hpl
  rw[e2]at q
  simp only[Res.ok_bind]at q
  have nn:∀b∈f1,¬F2 b:=fun b hb z=>by
   rcases g2.only b z with z | z
   ·exact n1 b hb z
   ·obtain⟨oo,hoo⟩:=r1.there b hb
    rw[hoo]at z;cases z
  refine uN (xs:=.obj fl c ks ys::xs) (vs:=v::vs) (us:=.ref a::us) (fx:=f1++f2) G hr hb hd hdp hx S (g1.trans g2) (by unfold RelL;exact⟨v,vs,f1,f2,rfl,r1.ext g2.ext g2.mono,r2,rfl⟩) (fun b hb=>?_) ?_ (fun b hb=>?_) q I2 (.cons ru rv) ?_
  ·rcases List.mem_append.mp hb with hb | hb
   ·exact nn b hb
   ·exact n2 b hb
  ·refine List.nodup_append.mpr ⟨d1,d2,fun b hb c hc z=>?_⟩
   subst z
   obtain⟨oo,hoo⟩:=r1.there b hb
   rw[w2 b hc]at hoo;cases hoo
  ·rcases List.mem_append.mp hb with hb | hb
   ·exact w1 b hb
   ·exact g1.ext.free (w2 b hb)
  ·have:=hn env xs e2
   rw[List.length_cons,<- r2.length]
   exact this
 ·exfalso
  cases ov with
  | obj fl c ks ys =>
   cases em:disp c with
   | none=>simp only[em]at q;exact q
   | some m=>exact hobj ⟨fl,c,ks,ys,m,rfl,em⟩
  | _=>exact q
end
def dA(ms:MA)(n:Nat):Prop:=∀env xs,ms env=.ok xs->xs.length=n
theorem bW:dA aj 0:=fun _ _ h=>by cases h;rfl
theorem bE(h:dA ms n):dA (ae m ms) (n+1):=fun env xs e=>by
 unfold ae at e
 cases e1:m env with
 | ok x =>
  rw[e1]at e
  simp only[Res.ok_bind]at e
  cases e2:ms env with
  | ok ys =>
   rw[e2]at e
   simp only[Res.ok_bind]at e
   cases e
   rw[List.length_cons,h env ys e2]
  | exc c | stuck=>rw[e2]at e;cases e
 | exc c | stuck=>rw[e1]at e;cases e
def aO:PV->Option (List PV)
 | .lst _ xs | .tup xs=>some xs
 | _=>none
section
variable{X:Cx}{T:Tb}{W:Nat->St->Hp->Prop}{Z:Zn}{F F1 B L:Addr->Prop}{H H1:Hp}{σ:St}{env:En}{fp:Nat->List Addr}{D:Ends}
theorem Rel.seq(r:Rel T F B L H x v fx)(e:aO x=some xs):∃a vs fx',v=.ref a/\(SqL T.K H a vs\/SqT T.K H a vs)/\RelL T F B L H xs vs fx'/\fx'.Sublist fx:=by
 cases x with
 | lst f ys =>
  cases e
  unfold Rel at r
  obtain⟨a,vs,fp',rfl,hl,hr,hf⟩:=r
  refine⟨a,vs,fp',rfl,.inl hl.sq,hr,?_⟩
  cases f with
  | own=>obtain rfl:fx=a::fp':=hf;exact List.sublist_cons_self _ _
  | frz | bor | lnt | mod=>obtain⟨rfl,rfl⟩:=hf;exact List.Sublist.refl _
 | tup ys =>
  cases e
  unfold Rel at r
  obtain⟨a,vs,rfl,hl,hr⟩:=r
  exact⟨a,vs,fx,rfl,.inr hl,hr,List.Sublist.refl _⟩
 | _=>cases e
theorem GE.newL(q:GE T W B F L σ H Q (.ok (.lst .own ys)))(g:Gr F H F1 H1)(r:RelL T F1 B L H1 ys vs fx)(nf:∀a∈fx,¬F1 a)(nd:fx.Nodup)(new:∀a∈fx,H a=none) :
  ∀p,H1 p=none->Q (.ref p) (upd H1 p (.lst vs)):=fun p hp=>by
 refine q (.ref p) (upd H1 p (.lst vs)) F1 (p::fx) (g.trans (Gr.same g.dom (Ext.upd hp))) ?_ (fun a ha=>?_) ?_ (fun a ha=>?_)
 ·unfold Rel
  exact⟨p,vs,fx,rfl,aH,r.ext (Ext.upd hp) fun _ h=>h,rfl⟩
 ·rcases List.mem_cons.mp ha with rfl | ha
  ·intro z
   obtain⟨o,ho⟩:=g.dom _ z
   rw[hp]at ho;cases ho
  ·exact nf a ha
 ·refine List.nodup_cons.mpr ⟨fun z=>?_,nd⟩
  obtain⟨o,ho⟩:=r.there p z
  rw[hp]at ho;cases ho
 ·rcases List.mem_cons.mp ha with rfl | ha
  ·exact g.ext.free hp
  ·exact new a ha
theorem GE.newT(q:GE T W B F L σ H Q (.ok (.tup ys)))(g:Gr F H F1 H1)(r:RelL T F1 B L H1 ys vs fx)(nf:∀a∈fx,¬F1 a)(nd:fx.Nodup)(new:∀a∈fx,H a=none) :
  ∀p,H1 p=none->Q (.ref p) (upd H1 p (.tup vs)):=fun p hp=>by
 refine q (.ref p) (upd H1 p (.tup vs)) F1 fx (g.trans (Gr.same g.dom (Ext.upd hp))) ?_ nf nd new
 unfold Rel
 exact⟨p,vs,rfl,SqT.of aH,r.ext (Ext.upd hp) fun _ h=>h⟩
theorem qg(h:n<=1000):n<=sizeLine:=by rw[sizeLine_eq];omega
def bV(ms:MA):ME:=fun env=>(ms env).bind fun xs=>.ok (.lst .own xs)
def jv(ms:MA):ME:=fun env=>(ms env).bind fun xs=>.ok (.tup xs)
theorem vD(ha:SA X T W es ms)(hn:dA ms n)(hs:n<=1000:=by decide):SE X T W (.List es pos) (bV ms):=PE.wk (v4 (pos:=pos) ha) fun σ H Q ⟨Z,F,env,fp,S,q⟩=>by
 unfold bV at q
 refine tA.bind S (fun c e=>by rw[e]at q;exact q) (fun e=>by rw[e]at q;exact q) fun xs vs H1 F1 f1 e1 g1 r1 n1 d1 w1=>?_
 rw[e1]at q
 exact⟨qg (by rw[<- r1.length,hn env xs e1];exact hs),GE.newL q g1 r1 n1 d1 w1⟩
theorem vx{x1}(ha:SA X T W es ms)(hn:dA ms n)(hs:n<=1000:=by decide):SE X T W (.Tuple es x1 pos) (jv ms):=PE.wk (mO (pos:=pos) ha) fun σ H Q ⟨Z,F,env,fp,S,q⟩=>by
 unfold jv at q
 refine tA.bind S (fun c e=>by rw[e]at q;exact q) (fun e=>by rw[e]at q;exact q) fun xs vs H1 F1 f1 e1 g1 r1 n1 d1 w1=>?_
 rw[e1]at q
 exact⟨qg (by rw[<- r1.length,hn env xs e1];exact hs),GE.newT q g1 r1 n1 d1 w1⟩
def p1(f:PV->Res PV):List PV->Res PV
 | [x]=>f x
 | _=>.stuck
theorem RelL.one(r:RelL T F B L H [x] vs f):∃v,vs=[v]/\Rel T F B L H x v f:=by
 unfold RelL at r
 obtain⟨v,ws,f1,f2,rfl,h1,h2,rfl⟩:=r
 unfold RelL at h2
 obtain⟨rfl,rfl⟩:=h2
 exact⟨v,rfl,by rwa [List.append_nil]⟩
def cT:PV->Res PV:=fun x=>match aO x with
 | some xs=>.ok (.int xs.length)
 | none=>.stuck
theorem tZ(hK:X.K=T.K):Mir T W (p1 cT) (fun xs H Q=>∃p ys,xs=[.ref p]/\(SqL X.K H p ys\/SqT X.K H p ys)/\Q (.int ys.length) H):=by
 intro B F L σ H Q F' H' xs vs fx g r _ _ _ q
 match xs,r,q with
 | [x],r,q =>
  obtain⟨v,rfl,r1⟩:=r.one
  simp only[p1,cT]at q
  cases e:aO x with
  | none=>rw[e]at q;exact q.elim
  | some ys =>
   rw[e]at q
   obtain⟨a,ws,fx',rfl,hs,hr,_⟩:=r1.seq e
   exact⟨a,ws,rfl,by rw[hK];exact hs,q.scal g (by rw[<- hr.length];exact d6)⟩
 | [],_,q | _::_::_,_,q=>exact q.elim
theorem bR(hK:X.K=T.K)(hg:Gl X "len")(hm:X.mg "len" = none)(ha:SE X T W e m)(he:starEach [e] X.env=[(false,eval e X.env)]:=by rfl):SE X T W (.Call (.Name "len" p) [e] [] pos) (am (p1 cT) (ae m aj)) :=
 eS kI (tZ hK) hg hm PySem.boot_len (ac ha ag he) (he:=he)
def gf:PV->Res PV:=fun x=>match aO x with
 | some xs=>.ok (.lst .own xs)
 | none=>.stuck
theorem qV(hK:X.K=T.K):Mir T W (p1 gf) (fun xs H Q=>∃p ys,xs=[.ref p]/\(SqL X.K H p ys\/SqT X.K H p ys)/\∀l,H l=none->Q (.ref l) (upd H l (.lst ys))):=by
 intro B F L σ H Q F' H' xs vs fx g r nf nd new q
 match xs,r,q with
 | [x],r,q =>
  obtain⟨v,rfl,r1⟩:=r.one
  simp only[p1,gf]at q
  cases e:aO x with
  | none=>rw[e]at q;exact q.elim
  | some ys =>
   rw[e]at q
   obtain⟨a,ws,fx',rfl,hs,hr,sl⟩:=r1.seq e
   exact⟨a,ws,rfl,by rw[hK];exact hs,GE.newL q g hr (fun b hb=>nf b (sl.subset hb)) (nd.sublist sl) (fun b hb=>new b (sl.subset hb))⟩
 | [],_,q | _::_::_,_,q=>exact q.elim
theorem kf(hK:X.K=T.K)(hg:Gl X "list")(hm:X.mg "list" = none)(hv:bootBuiltins "list" = some (.type "list"))(ha:SE X T W e m)(he:starEach [e] X.env=[(false,eval e X.env)]:=by rfl):SE X T W (.Call (.Name "list" p) [e] [] pos) (am (p1 gf) (ae m aj)) :=
 gF kH (qV hK) hg hm hv (ac ha ag he) (he:=he)
def df:PV->Res PV:=fun x=>match aO x with
 | some xs=>.ok (.tup xs)
 | none=>.stuck
theorem pA(hK:X.K=T.K):Mir T W (p1 df) (fun xs H Q=>∃p ys,xs=[.ref p]/\((SqL X.K H p ys/\∀l,H l=none->Q (.ref l) (upd H l (.tup ys)))\/(SqT X.K H p ys/\Q (.ref p) H))):=by
 intro B F L σ H Q F' H' xs vs fx g r nf nd new q
 match xs,r,q with
 | [x],r,q =>
  obtain⟨v,rfl,r1⟩:=r.one
  simp only[p1,df]at q
  cases x with
  | lst f ys =>
   simp only[aO]at q
   unfold Rel at r1
   obtain⟨a,ws,fp',rfl,hl,hr,hf⟩:=r1
   have sl:fp'.Sublist fx:=by
    cases f with
    | own=>obtain rfl:fx=a::fp':=hf;exact List.sublist_cons_self _ _
    | frz | bor | lnt | mod=>obtain⟨rfl,rfl⟩:=hf;exact List.Sublist.refl _
   exact⟨a,ws,rfl,.inl ⟨by rw[hK];exact hl.sq,GE.newT q g hr (fun b hb=>nf b (sl.subset hb)) (nd.sublist sl) (fun b hb=>new b (sl.subset hb))⟩⟩
  | tup ys =>
   simp only[aO]at q
   have r2:=r1
   unfold Rel at r2
   obtain⟨a,ws,rfl,hs,hr⟩:=r2
   exact⟨a,ws,rfl,.inr ⟨by rw[hK];exact hs,q _ _ _ fx g r1 nf nd new⟩⟩
  | _=>exact q.elim
 | [],_,q | _::_::_,_,q=>exact q.elim
theorem dR(hK:X.K=T.K)(hg:Gl X "tuple")(hm:X.mg "tuple" = none)(hv:bootBuiltins "tuple" = some (.type "tuple"))(ha:SE X T W e m)(he:starEach [e] X.env=[(false,eval e X.env)]:=by rfl):SE X T W (.Call (.Name "tuple" p) [e] [] pos) (am (p1 df) (ae m aj)) :=
 gF jx (pA hK) hg hm hv (ac ha ag he) (he:=he)
def aC:PV->PV->Res PV
 | x,.int i=>match aO x with
  | some xs=>match atI xs i with
   | some y=>if x.has Fl.isOwn&&y.has Fl.isOwn then .stuck else .ok y
   | none=>.stuck
  | none=>.stuck
 | _,_=>.stuck
theorem oR(r:RelL T F B L H xs vs f)(e:atI xs i=some y):∃v f',atI vs i=some v/\Rel T F B L H y v f'/\f'.Sublist f:=by
 unfold atI at e ⊢
 rw[<- r.length]
 cases e1:ixN xs.length i with
 | none=>rw[e1]at e;cases e
 | some j =>
  rw[e1]at e
  exact r.get e
theorem t3(hK:X.K=T.K):g7 T W aC (fun x y H Q=>tw X.K x y H Q \/(tm X.K x y H Q\/tq x y H Q)):=by
 intro B F L σ H Q F' H' x y v u fx fy g rx ry nf nd new q
 cases y with
 | int i =>
  unfold Rel at ry
  obtain⟨rfl,rfl⟩:=ry
  simp only[aC]at q
  cases e:aO x with
  | none=>rw[e]at q;exact q.elim
  | some xs =>
   rw[e]at q
   dsimp only at q
   obtain⟨a,ws,fx',rfl,hs,hr,sl⟩:=rx.seq e
   cases e2:atI xs i with
   | none=>rw[e2]at q;exact q.elim
   | some z =>
    rw[e2]at q
    dsimp only at q
    obtain⟨w,f',h1,h2,h3⟩:=oR hr e2
    have e0:f'=[]:=by
     by_cases ho:x.has Fl.isOwn=true
     ·by_cases hz:z.has Fl.isOwn=true
      ·rw[ho,hz]at q;exact q.elim
      ·exact Rel.noOwn (by simpa using hz) h2
     ·have:=Rel.noOwn (by simpa using ho) rx
      subst this
      exact List.sublist_nil.mp (h3.trans sl)
    subst e0
    by_cases hb:(x.has Fl.isOwn&&z.has Fl.isOwn)=true
    ·rw[if_pos hb]at q;exact q.elim
    ·rw[if_neg hb]at q
     rcases hs with hs | hs
     ·exact .inl ⟨a,ws,i,w,rfl,rfl,by rw[hK];exact hs,h1,q.scal g h2⟩
     ·exact .inr (.inl ⟨a,ws,i,w,rfl,rfl,by rw[hK];exact hs,h1,q.scal g h2⟩)
 | _=>exact q.elim
theorem vE(hK:X.K=T.K)(ha:SE X T W a ma)(hb:SE X T W b mb)(hs:fw b):SE X T W (.Subscript a b pos) (mOp aC ma mb) :=
 uM rq (t3 hK) ha hb hs
abbrev MO:=En->Res (Option Int)
def bB:MO:=fun _=>.ok none
def cD(m:ME):MO:=fun env=>(m env).bind fun
 | .int i=>.ok (some i)
 | _=>.stuck
def dX(xs:List PV)(lo hi:Option Int):List PV:=(xs.drop (HT.sIx xs.length 0 lo)).take (HT.sIx xs.length xs.length hi - HT.sIx xs.length 0 lo)
def bN(o:ME)(lo hi:MO):ME:=fun env=>(o env).bind fun x=>(lo env).bind fun l=>(hi env).bind fun h=>match x with
 | .lst _ xs=>.ok (.lst .own (dX xs l h))
 | _=>.stuck
theorem RelL.drop:∀{xs:List PV}{vs:List V}{f:List Addr} (n:Nat),RelL T F B L H xs vs f->∃f',RelL T F B L H (xs.drop n) (vs.drop n) f'/\f'.Sublist f
 | xs,vs,f,0,h=>⟨f,h,List.Sublist.refl _⟩
 | [],vs,f,n+1,h=>by unfold RelL at h;obtain⟨rfl,rfl⟩:=h;exact⟨[],by simp[RelL],List.Sublist.refl _⟩
 | x::xs,_,_,n+1,h=>by
  unfold RelL at h
  obtain⟨v,ws,f1,f2,rfl,h1,h2,rfl⟩:=h
  obtain⟨f',r,s⟩:=RelL.drop n h2
  exact⟨f',by simpa using r,s.trans (List.sublist_append_right _ _)⟩
theorem RelL.take:∀{xs:List PV}{vs:List V}{f:List Addr} (n:Nat),RelL T F B L H xs vs f->∃f',RelL T F B L H (xs.take n) (vs.take n) f'/\f'.Sublist f
 | xs,vs,f,0,h=>⟨[],by simp[RelL],List.nil_sublist _⟩
 | [],vs,f,n+1,h=>by unfold RelL at h;obtain⟨rfl,rfl⟩:=h;exact⟨[],by simp[RelL],List.Sublist.refl _⟩
 | x::xs,_,_,n+1,h=>by
  unfold RelL at h
  obtain⟨v,ws,f1,f2,rfl,h1,h2,rfl⟩:=h
  obtain⟨f',r,s⟩:=RelL.take n h2
  refine⟨f1++f',?_,List.Sublist.append (List.Sublist.refl _) s⟩
  rw[List.take_succ_cons,List.take_succ_cons]
  unfold RelL
  exact⟨v,_,f1,f',rfl,h1,r,rfl⟩
def tO(T:Tb)(W:Nat->St->Hp->Prop)(m:MO):TO:=fun σ H Q=>∃Z F env fp,ap T Z F H σ env fp/\match m env with
 | .ok o=>∀H' F',Gr F H F' H'->Q o H'
 | .exc c=>∀H',Ext H H'->W c σ H'
 | .stuck=>False
abbrev SO(X:Cx)(T:Tb)(W:Nat->St->Hp->Prop)(e:Option Expr)(m:MO):Prop:=PO X e (tO T W m)
theorem dD:SO X T W none bB:=fun pins s σ H Q I ⟨Z,F,env,fp,S,q⟩=>nZ pins s σ H Q I (q H F (Gr.refl S.hp.ft))
theorem cN(h:SE X T W e m):SO X T W (some e) (cD m):=fun pins s σ H Q I ⟨Z,F,env,fp,S,q⟩=>nY h pins s σ H Q I (by
 unfold cD at q
 refine tE.bind S (fun c e=>by rw[e]at q;exact q) (fun e=>by rw[e]at q;exact q) fun x v H1 F1 f1 e1 g1 r1 n1 d1 w1=>?_
 rw[e1]at q
 cases x with
 | int i=>unfold Rel at r1;exact⟨i,r1.1,q H1 F1 g1⟩
 | _=>exact q.elim)
theorem b9(hK:X.K=T.K)(he:SE X T W e m)(hl:SO X T W lo ml)(hu:SO X T W hi mh):SE X T W (.Subscript e (.Slice lo hi none p2) pos) (bN m ml mh) :=
 PE.wk (k_ (pos:=pos) (p2:=p2) nK he hl hu) fun σ H Q ⟨Z,F,env,fp,S,q⟩=>by
  unfold bN at q
  refine tE.bind S (fun c e=>by rw[e]at q;exact q) (fun e=>by rw[e]at q;exact q) fun x v H1 F1 f1 e1 g1 r1 n1 d1 w1=>?_
  rw[e1]at q
  simp only[Res.ok_bind]at q
  refine⟨Z,F1,env,fp,S.grow g1,?_⟩
  cases e2:ml env with
  | exc c=>rw[e2]at q;exact fun H' x=>q H' (g1.ext.trans x)
  | stuck=>rw[e2]at q;exact q
  | ok l =>
   rw[e2]at q
   intro H2 F2 g2
   refine⟨Z,F2,env,fp,(S.grow g1).grow g2,?_⟩
   simp only[Res.ok_bind]at q
   cases e3:mh env with
   | exc c=>rw[e3]at q;exact fun H' x=>q H' ((g1.ext.trans g2.ext).trans x)
   | stuck=>rw[e3]at q;exact q
   | ok h =>
    rw[e3]at q
    intro H3 F3 g3
    simp only[Res.ok_bind]at q
    cases x with
    | lst f xs =>
     have g:=(g1.trans g2).trans g3
     have r3:=(r1.ext (g2.trans g3).ext (g2.trans g3).mono)
     have nf3:∀a∈f1,¬F3 a:=fun a ha z=>by
      rcases(g2.trans g3).only a z with z | z
      ·exact n1 a ha z
      ·obtain⟨o,ho⟩:=r1.there a ha
       rw[ho]at z;cases z
     unfold Rel at r3
     obtain⟨a,ws,fp',rfl,hll,hr,hf⟩:=r3
     have sl:fp'.Sublist f1:=by
      cases f with
      | own=>obtain rfl:f1=a::fp':=hf;exact List.sublist_cons_self _ _
      | frz | bor | lnt | mod=>obtain⟨rfl,rfl⟩:=hf;exact List.Sublist.refl _
     obtain⟨f4,h4,s4⟩:=RelL.drop (HT.sIx xs.length 0 l) hr
     obtain⟨f5,h5,s5⟩:=RelL.take (HT.sIx xs.length xs.length h - HT.sIx xs.length 0 l) h4
     have sl2:=(s5.trans s4).trans sl
     refine⟨a,ws,rfl,by rw[hK];exact hll.sq,?_⟩
     unfold nk
     rw[<- hr.length]
     exact GE.newL q g h5 (fun b hb=>nf3 b (sl2.subset hb)) (d1.sublist sl2) (fun b hb=>w1 b (sl2.subset hb))
    | _=>exact q.elim
def uP(K:PySem.W.Frag):R2:=fun x y H Q=>∃l b xs zs,x=.ref l/\y=.ref b/\Rd H l (.lst xs)/\Rd H b (.lst zs)/\xs.length+zs.length<=sizeLine/\∀p,H p=none->Q (.ref p) (upd H p (.lst (xs++zs)))
theorem n_:OpR X (binaryOp .Add) (uP K):=by
 intro pins s σ H x y v u Q I rx ry h
 obtain⟨l,b,xs,zs,rfl,rfl,hH,hB,hz,q⟩:=h
 cases rx
 cases ry
 obtain⟨z,its,n,r,e⟩:=hH.ok I.hok
 obtain⟨z2,its2,n2,r2,e2⟩:=hB.ok I.hok
 have hl:=r.length
 have hl2:=r2.length
 refine PySem.P.add_list e e2 ?_ (by rw[List.size_toArray,List.size_toArray];omega)
 have ea:its.toArray++its2.toArray=(its++its2).toArray:=by simp
 rw[ea]
 exact⟨.ref _,_,I.lnew (t':=s.toks) (r.append r2) (by rw[List.length_append];omega),rfl,q _ I.fresh⟩
def ay:PV->PV->Res PV
 | .int i,.int j=>.ok (.int (i+j))
 | .lst f xs,.lst g ys=>if f=.mod\/g=.mod\/¬xs.length+ys.length<=10000000 then .stuck else .ok (.lst .own (xs++ys))
 | _,_=>.stuck
theorem l8.rd(h:l8 T F B L H f a vs)(n:f≠.mod):Rd H a (.lst vs):=by
 cases f with
 | own=>exact .inl h
 | lnt=>exact .inl h.2
 | frz | bor=>exact h.2
 | mod=>exact absurd rfl n
theorem uI.sub(hf:uI f a fp' fx):fp'.Sublist fx:=by
 cases f with
 | own=>obtain rfl:fx=a::fp':=hf;exact List.sublist_cons_self _ _
 | frz | bor | lnt | mod=>obtain⟨rfl,rfl⟩:=hf;exact List.Sublist.refl _
theorem qT:g7 T W ay (fun x y H Q=>(rI0 fun i j=>.int (i+j)) x y H Q\/uP T.K x y H Q):=by
 intro B F L σ H Q F' H' x y v u fx fy g rx ry nf nd new q
 cases x with
 | int i =>
  cases y with
  | int j=>unfold Rel at rx ry;exact .inl ⟨i,j,rx.1,ry.1,q.scal g d6⟩
  | _=>exact q.elim
 | lst f xs =>
  cases y with
  | lst f' ys =>
   simp only[ay]at q
   by_cases hc:f=.mod\/f'=.mod\/¬xs.length+ys.length<=10000000
   ·rw[if_pos hc]at q;exact q.elim
   ·rw[if_neg hc]at q
    unfold Rel at rx ry
    obtain⟨a,vs,fp1,rfl,hl1,hr1,hf1⟩:=rx
    obtain⟨b,us,fp2,rfl,hl2,hr2,hf2⟩:=ry
    have sl:=List.Sublist.append hf1.sub hf2.sub
    have h3:xs.length+ys.length<=10000000:=by
     rcases Nat.lt_or_ge 10000000 (xs.length+ys.length)with z | z
     ·exact absurd (.inr (.inr (by omega))) hc
     ·exact z
    refine .inr ⟨a,b,vs,us,rfl,rfl,hl1.rd fun z=>hc (.inl z),hl2.rd fun z=>hc (.inr (.inl z)),by rw[<- hr1.length,<- hr2.length,sizeLine_eq];omega,?_⟩
    exact GE.newL q g (RelL.append hr1 hr2) (fun b hb=>nf b (sl.subset hb)) (nd.sublist sl) (fun b hb=>new b (sl.subset hb))
  | _=>exact q.elim
 | _=>exact q.elim
theorem OpR.or(h:OpR X f r)(h':OpR X f r'):OpR X f (fun x y H Q=>r x y H Q\/r' x y H Q):=by
 intro pins s σ H x y v u Q I rx ry q
 rcases q with q | q
 ·exact h pins s σ H x y v u Q I rx ry q
 ·exact h' pins s σ H x y v u Q I rx ry q
theorem aB(ha:SE X T W a ma)(hb:SE X T W b mb):SE X T W (.BinOp a .Add b pos) (mOp ay ma mb):=kW (OpR.or wd n_) qT ha hb
end
mutual
def PV.data:PV->PyData
 | .non=>.none
 | .bl b=>.bool b
 | .int i=>.int i
 | .str x=>.str x
 | .lst _ xs=>.list (dataL xs)
 | .tup xs=>.tuple (dataL xs)
 | .obj _ _ _ _ | .exc _=>.dict []
def dataL:List PV->List PyData
 | []=>[]
 | x::xs=>x.data::dataL xs
end
def shp(x:PV):Bool:=SeqAt.shaped x.data
section
variable{X:Cx}{T:Tb}{W:Nat->St->Hp->Prop}{Z:Zn}{F F1 B L:Addr->Prop}{H H1:Hp}{σ:St}{env:En}{fp:Nat->List Addr}{D:Ends}{pins:List (Addr×Obj)}{s:Shared}
mutual
theorem Rel.reads(hK:X.K=T.K)(I:L2.Inv X pins σ H s):∀{x:PV}{v:V}{f:List Addr}{u:Value},Rel T F B L H x v f->aT v u->x.data.canLay0=true->∃as,Reads s.heap u x.data as
 | .non,_,_,_,r,ru,_=>by unfold Rel at r;obtain⟨rfl,_⟩:=r;cases ru;exact⟨[],.none⟩
 | .bl b,_,_,_,r,ru,_=>by unfold Rel at r;obtain⟨rfl,_⟩:=r;cases ru;exact⟨[],.bool b⟩
 | .int i,_,_,_,r,ru,_=>by unfold Rel at r;obtain⟨rfl,_⟩:=r;obtain⟨t,rfl⟩:=ru;exact⟨[],.int i t⟩
 | .str x,_,_,_,r,ru,_=>by unfold Rel at r;obtain⟨rfl,_⟩:=r;obtain⟨t,rfl⟩:=ru;exact⟨[],.str x t⟩
 | .lst f xs,_,_,_,r,ru,hc=>by
  unfold Rel at r
  obtain⟨a,vs,fp',rfl,hl,hr,_⟩:=r
  cases ru
  obtain⟨its,rv,⟨o,n,ho,hcl,_,hd⟩,_⟩:=I.list (by rw[hK];exact hl.sq)
  obtain⟨as,ra⟩:=RelL.reads hK I hr rv (by simpa[PV.data,PyData.canLay0]using hc)
  exact⟨_,.list ho hcl hd (by simpa using ra)⟩
 | .tup xs,_,_,_,r,ru,hc=>by
  unfold Rel at r
  obtain⟨a,vs,rfl,hl,hr⟩:=r
  cases ru
  obtain⟨its,rv,⟨o,ho,hcl,n,hd⟩,_⟩:=I.tuple (by rw[hK];exact hl)
  obtain⟨as,ra⟩:=RelL.reads hK I hr rv (by simpa[PV.data,PyData.canLay0]using hc)
  exact⟨_,.tuple ho hcl hd (by simpa using ra)⟩
 | .obj _ _ _ _,_,_,_,_,_,hc | .exc _,_,_,_,_,_,hc=>by simp[PV.data,PyData.canLay0]at hc
theorem RelL.reads(hK:X.K=T.K)(I:L2.Inv X pins σ H s):∀{xs:List PV}{vs:List V}{f:List Addr}{us:List Value},RelL T F B L H xs vs f->aw vs us->PyData.canLayAll0 (dataL xs)=true->∃as,ReadsAll s.heap us (dataL xs) as
 | [],_,_,_,r,ru,_=>by unfold RelL at r;obtain⟨rfl,_⟩:=r;cases ru;exact⟨[],.nil⟩
 | x::xs,_,_,_,r,ru,hc=>by
  unfold RelL at r
  obtain⟨v,ws,f1,f2,rfl,h1,h2,_⟩:=r
  cases ru with
  | cons r1 r2 =>
   simp only[dataL,PyData.canLayAll0,Bool.and_eq_true]at hc
   obtain⟨as,ra⟩:=Rel.reads hK I h1 r1 hc.1
   obtain⟨bs,rb⟩:=RelL.reads hK I h2 r2 hc.2
   exact⟨_,.cons ra rb⟩
end
def pEq:PV->PV->Res PV:=fun x y=>if shp x&&shp y then .ok (.bl (PyData.eqv x.data y.data))else .stuck
def pNe:PV->PV->Res PV:=fun x y=>if shp x&&shp y then .ok (.bl (!PyData.eqv x.data y.data))else .stuck
def qy(X:Cx)(T:Tb)(g:PyData->PyData->Bool):R2:=fun v u H Q=>∃x y F B L fx fy,Rel T F B L H x v fx/\Rel T F B L H y u fy/\shp x=true/\shp y=true/\Q (.bl (g x.data y.data)) H
theorem qP(hK:X.K=T.K)(hu:X.A.units+64 < cLine):OpR X (compareOp .Eq) (qy X T fun a b=>PyData.eqv a b):=by
 intro pins s σ H v u v' u' Q I rv ru h
 obtain⟨x,y,F,B,L,fx,fy,rx,ry,hx,hy,q⟩:=h
 obtain⟨as,ra⟩:=rx.reads hK I rv (SeqAt.canLay_of_shaped hx)
 obtain⟨bs,rb⟩:=ry.reads hK I ru (SeqAt.canLay_of_shaped hy)
 exact PyProof.Rows.eq_dataH ra rb hx hy hu ⟨.bl _,H,I,rfl,q⟩
theorem qO(hK:X.K=T.K)(hu:X.A.units+64 < cLine):OpR X (compareOp .NotEq) (qy X T fun a b=>!PyData.eqv a b):=by
 intro pins s σ H v u v' u' Q I rv ru h
 obtain⟨x,y,F,B,L,fx,fy,rx,ry,hx,hy,q⟩:=h
 obtain⟨as,ra⟩:=rx.reads hK I rv (SeqAt.canLay_of_shaped hx)
 obtain⟨bs,rb⟩:=ry.reads hK I ru (SeqAt.canLay_of_shaped hy)
 exact PyProof.Rows.ne_dataH ra rb hx hy hu ⟨.bl _,H,I,rfl,q⟩
theorem gn:g7 T W (fun x y=>if shp x&&shp y then .ok (.bl (g x.data y.data))else .stuck) (qy X T g):=by
 intro B F L σ H Q F' H' x y v u fx fy gr rx ry nf nd new q
 dsimp only at q
 by_cases hc:(shp x&&shp y)=true
 ·rw[if_pos hc]at q
  rw[Bool.and_eq_true]at hc
  exact⟨x,y,F',B,L,fx,fy,rx,ry,hc.1,hc.2,q.scal gr iM⟩
 ·rw[if_neg hc]at q;exact q.elim
variable{a b:Expr}{ma mb:ME}{pos:Pos}
theorem nO(hK:X.K=T.K)(hu:X.A.units+64 < cLine)(ha:SE X T W a ma)(hb:SE X T W b mb):SE X T W (.Compare a [.Eq] [b] pos) (mOp pEq ma mb):=qo (qP hK hu) gn ha hb (eW _)
theorem ql(hK:X.K=T.K)(hu:X.A.units+64 < cLine)(ha:SE X T W a ma)(hb:SE X T W b mb):SE X T W (.Compare a [.NotEq] [b] pos) (mOp pNe ma mb):=qo (qO hK hu) (gn (g:=fun a b=>!PyData.eqv a b)) ha hb (eW _)
theorem eG(hK:X.K=T.K)(hu:X.A.units+64 < cLine)(ha:SE X T W a ma)(hb:SE X T W b mb):ST X T W (.Compare a [.Eq] [b] pos) (ax (mOp pEq ma mb)):=fJ (qP hK hu) gn ha hb (eW _)
theorem fE(hK:X.K=T.K)(hu:X.A.units+64 < cLine)(ha:SE X T W a ma)(hb:SE X T W b mb):ST X T W (.Compare a [.NotEq] [b] pos) (ax (mOp pNe ma mb)):=fJ (qO hK hu) (gn (g:=fun a b=>!PyData.eqv a b)) ha hb (eW _)
theorem eF(ha:SE X T W a ma)(hb:SE X T W b mb):ST X T W (.Compare a [.Lt] [b] pos) (ax (mOp pLt ma mb)):=fJ yJ (kq fun _ _ _ _ _ _=>iM) ha hb (eW _)
theorem jH(ha:SE X T W a ma)(hb:SE X T W b mb):ST X T W (.Compare a [.Gt] [b] pos) (ax (mOp pGt ma mb)):=fJ yK (kq fun _ _ _ _ _ _=>iM) ha hb (eW _)
theorem kR(ha:SE X T W a ma)(hb:SE X T W b mb):ST X T W (.Compare a [.GtE] [b] pos) (ax (mOp pGe ma mb)):=fJ yL (kq fun _ _ _ _ _ _=>iM) ha hb (eW _)
def inL(x:PV)(ys:List PV):Bool:=ys.any fun y=>PyData.eqv y.data x.data
def pIn:PV->PV->Res PV:=fun x y=>match aO y with
 | some ys=>if shp x&&ys.all shp then .ok (.bl (inL x ys))else .stuck
 | none=>.stuck
def kj:PV->PV->Res PV:=fun x y=>match aO y with
 | some ys=>if shp x&&ys.all shp then .ok (.bl (!inL x ys))else .stuck
 | none=>.stuck
theorem lL(hK:X.K=T.K)(I:L2.Inv X pins σ H s)(hu:A.units+64 < cLine)(rx:Rel T F B L H x v fx)(ry:Rel T F B L H y u fy)(rv:aT v v')(ru:aT u u')(hx:shp x=true)(hy:shp y=true) :
  SeqAt.EqAt A s v' u' (PyData.eqv x.data y.data):=by
 obtain⟨as,ra⟩:=rx.reads hK I rv (SeqAt.canLay_of_shaped hx)
 obtain⟨bs,rb⟩:=ry.reads hK I ru (SeqAt.canLay_of_shaped hy)
 exact SeqAt.eqAt_reads _ _ A s v' u' as bs ra rb (SeqAt.canLay_of_shaped hx) (SeqAt.canLay_of_shaped hy) (SeqAt.room_of_shaped hx hu)
theorem lC(hK:X.K=T.K)(I:L2.Inv X pins σ H s)(hu:A.units+64 < cLine)(rx:Rel T F B L H x v fx)(rv:aT v v')(hx:shp x=true) :
  ∀{ys:List PV}{us:List V}{fy:List Addr}{us':List Value},RelL T F B L H ys us fy->aw us us'->ys.all shp=true->∃e:Value->Bool,(∀w∈us',SeqAt.EqAt A s w v' (e w))/\us'.any e=inL x ys:=by
 intro ys us fy us' r rv' hs
 have one:∀(ys:List PV) (us:List V) (fy:List Addr) (us':List Value),RelL T F B L H ys us fy->aw us us'->ys.all shp=true->∀w∈us',∃b,SeqAt.EqAt A s w v' b/\(b=true->inL x ys=true):=by
  intro ys
  induction ys with
  | nil =>
   intro us fy us' r rv' _ w hw
   unfold RelL at r
   obtain⟨rfl,_⟩:=r
   cases rv'
   cases hw
  | cons y ys ih =>
   intro us fy us' r rv' hs w hw
   unfold RelL at r
   obtain⟨u,ws,f1,f2,rfl,h1,h2,_⟩:=r
   cases rv' with
   | cons r1 r2 =>
    rw[List.all_cons,Bool.and_eq_true]at hs
    rcases List.mem_cons.mp hw with rfl | hw
    ·exact⟨_,lL hK I hu h1 rx r1 rv hs.1 hx,fun z=>by simp[inL,z]⟩
    ·obtain⟨b,h3,h4⟩:=ih ws f2 _ h2 r2 hs.2 w hw
     exact⟨b,h3,fun z=>by have:=h4 z;unfold inL at this ⊢;simp[this]⟩
 have some_:∀(ys:List PV) (us:List V) (fy:List Addr) (us':List Value),RelL T F B L H ys us fy->aw us us'->ys.all shp=true->inL x ys=true->∃w∈us',SeqAt.EqAt A s w v' true:=by
  intro ys
  induction ys with
  | nil=>intro us fy us' r rv' _ h;simp[inL]at h
  | cons y ys ih =>
   intro us fy us' r rv' hs h
   unfold RelL at r
   obtain⟨u,ws,f1,f2,rfl,h1,h2,_⟩:=r
   cases rv' with
   | cons r1 r2 =>
    rw[List.all_cons,Bool.and_eq_true]at hs
    by_cases hy:PyData.eqv y.data x.data=true
    ·refine⟨_,List.mem_cons_self,?_⟩
     have:=lL hK I hu h1 rx r1 rv hs.1 hx
     rwa [hy]at this
    ·have h':inL x ys=true:=by
      unfold inL at h ⊢
      rw[List.any_cons]at h
      simpa[hy]using h
     obtain⟨w,hw,q⟩:=ih ws f2 _ h2 r2 hs.2 h'
     exact⟨w,List.mem_cons_of_mem _ hw,q⟩
 by_cases hin:inL x ys=true
 ·obtain⟨w0,hw0,q0⟩:=some_ ys us fy us' r rv' hs hin
  refine⟨fun w=>@decide (SeqAt.EqAt A s w v' true) (Classical.propDecidable _),fun w hw=>?_,?_⟩
  ·obtain⟨b,h1,_⟩:=one ys us fy us' r rv' hs w hw
   by_cases ht:SeqAt.EqAt A s w v' true
   ·simp only[ht,decide_true]
   ·simp only[ht,decide_false]
    cases b with
    | true=>exact absurd h1 ht
    | false=>exact h1
  ·rw[hin,List.any_eq_true]
   exact⟨w0,hw0,by simp[q0]⟩
 ·have hin':inL x ys=false:=by simpa using hin
  refine⟨fun _=>false,fun w hw=>?_,by rw[hin'];simp⟩
  obtain⟨b,h1,h2⟩:=one ys us fy us' r rv' hs w hw
  cases b with
  | true=>exact absurd (h2 rfl) hin
  | false=>exact h1
def yB(X:Cx)(T:Tb)(neg:Bool):R2:=fun v u H Q=>∃x ys a vs F B L fx fy,u=.ref a/\(SqL T.K H a vs\/SqT T.K H a vs)/\Rel T F B L H x v fx/\RelL T F B L H ys vs fy/\shp x=true/\ys.all shp=true/\Q (.bl (if neg then !inL x ys else inL x ys)) H
theorem wc(hK:X.K=T.K)(hu:X.A.units+66 < cLine):OpR X (compareOp .In) (yB X T false):=by
 intro pins s σ H v u v' u' Q I rv ru h
 obtain⟨x,ys,a,vs,F,B,L,fx,fy,rfl,hs,rx,ry,hx,hy,q⟩:=h
 cases ru
 have hu1:X.A.in1.units+64 < cLine:=by show X.A.units+1+64 < cLine;omega
 rcases hs with hs | hs
 ·obtain⟨its,r,pl,_⟩:=I.list (by rw[hK];exact hs)
  obtain⟨e,h1,h2⟩:=lC hK I hu1 rx rv hx ry r hy
  refine SeqAt.in_listAt e pl.isList (fun w hw=>h1 w (by simpa using hw)) ⟨.bl _,H,I,rfl,?_⟩
  rw[show its.toArray.any e=its.any e by simp,h2]
  exact q
 ·obtain⟨its,r,pl,_⟩:=I.tuple (by rw[hK];exact hs)
  obtain⟨e,h1,h2⟩:=lC hK I hu1 rx rv hx ry r hy
  refine SeqAt.in_tupleAt e pl (fun w hw=>h1 w (by simpa using hw)) ⟨.bl _,H,I,rfl,?_⟩
  rw[show its.toArray.any e=its.any e by simp,h2]
  exact q
theorem wv:g7 T W (fun x y=>match aO y with
 | some ys=>if shp x&&ys.all shp then .ok (.bl (if neg then !inL x ys else inL x ys))else .stuck
 | none=>.stuck) (yB X T neg):=by
 intro B F L σ H Q F' H' x y v u fx fy gr rx ry nf nd new q
 dsimp only at q
 cases e:aO y with
 | none=>rw[e]at q;exact q.elim
 | some ys =>
  rw[e]at q
  dsimp only at q
  by_cases hc:(shp x&&ys.all shp)=true
  ·rw[if_pos hc]at q
   rw[Bool.and_eq_true]at hc
   obtain⟨a,ws,f',rfl,hs,hr,_⟩:=ry.seq e
   exact⟨x,ys,a,ws,F',B,L,fx,f',rfl,hs,rx,hr,hc.1,hc.2,q.scal gr iM⟩
  ·rw[if_neg hc]at q;exact q.elim
theorem uL(hK:X.K=T.K)(hu:X.A.units+66 < cLine)(ha:SE X T W a ma)(hb:SE X T W b mb)(hk:behindInMarks .In b=false:=by with_unfolding_all rfl):ST X T W (.Compare a [.In] [b] pos) (ax (mOp pIn ma mb)):=fJ (wc hK hu) (wv (neg:=false)) ha hb hk
def PV.isNon:PV->Bool
 | .non=>true
 | _=>false
def Bw:PV->PV->Res PV
 | x,.non=>.ok (.bl x.isNon)
 | _,_=>.stuck
def g_:PV->PV->Res PV
 | x,.non=>.ok (.bl (!x.isNon))
 | _,_=>.stuck
theorem Rel.isNon(r:Rel T F B L H x v f):decide (v=.non)=x.isNon:=by
 cases x with
 | non | bl b | int i | str i=>unfold Rel at r;rw[r.1];rfl
 | lst f xs=>unfold Rel at r;obtain⟨a,_,_,rfl,_⟩:=r;rfl
 | tup xs=>unfold Rel at r;obtain⟨a,_,rfl,_⟩:=r;rfl
 | obj f c ks xs=>unfold Rel at r;obtain⟨a,_,_,_,rfl,_⟩:=r;rfl
 | exc c=>unfold Rel at r;obtain⟨a,rfl,_⟩:=r;rfl
theorem qU:g7 T W g_ (fun x y H Q=>y=.non/\Q (.bl (!decide (x=.non))) H):=by
 intro B F L σ H Q F' H' x y v u fx fy gr rx ry nf nd new q
 cases y with
 | non=>unfold Rel at ry;refine⟨ry.1,?_⟩;rw[rx.isNon];exact GE.scal (pv:=.bl (!x.isNon)) (by simpa[g_]using q) gr iM
 | _=>simp only[g_]at q;exact q.elim
theorem nH(ha:SE X T W a ma)(hb:SE X T W b mb):ST X T W (.Compare a [.IsNot] [b] pos) (ax (mOp g_ ma mb)):=fJ tU qU ha hb (eW _)
end
abbrev TgM:=PV->En->Option En
abbrev nu:=List PV->En->Option En
def tgN(i:Nat):TgM:=fun v env=>if aW i env then some (env.set i (some v))else none
def iB:nu:=fun vs env=>match vs with
 | []=>some env
 | _=>none
def b7(t:TgM)(u:nu):nu:=fun vs env=>match vs with
 | v::r=>match t v env with
  | some e=>u r e
  | none=>none
 | []=>none
def tgT(n:Nat)(u:nu):TgM:=fun v env=>match v with
 | .tup xs=>if xs.length=n then u xs env else none
 | _=>none
structure pY(Z:Zn)(F:Addr->Prop)(fp:Nat->List Addr)(f:List Addr):Prop where
 nd:f.Nodup
 nf:∀a∈f,¬F a
 new:∀a∈f,Z.H0 a=none\/Z.fp0 a
 dj:∀a∈f,∀j,a∉fp j
theorem pY.nil:pY Z F fp []:=⟨List.nodup_nil,fun _ z=>(nomatch z),fun _ z=>(nomatch z),fun _ z=>(nomatch z)⟩
def GG(T:Tb)(Z:Zn)(F:Addr->Prop)(H:Hp)(Q:St->Hp->Prop):Option En->Prop
 | some e=>∀σ fp,ap T Z F H σ e fp->Q σ H
 | none=>False
def tG(T:Tb)(m:TgM):TG:=fun v σ H Q=>∃Z F env fp pv f,ap T Z F H σ env fp/\Rel T F Z.B NoL H pv v f/\pY Z F fp f/\GG T Z F H Q (m pv env)
def tGs(T:Tb)(m:nu):TGs:=fun vs σ H Q=>∃Z F env fp pvs f,ap T Z F H σ env fp/\RelL T F Z.B NoL H pvs vs f/\pY Z F fp f/\GG T Z F H Q (m pvs env)
abbrev SG(X:Cx)(T:Tb)(tg:Expr)(m:TgM):Prop:=PG X tg (tG T m)
abbrev SGs(X:Cx)(T:Tb)(ts:List Expr)(m:nu):Prop:=PGs X ts (tGs T m)
section
variable{X:Cx}{T:Tb}{W:Nat->St->Hp->Prop}{Z:Zn}{F F1 B L:Addr->Prop}{H H1:Hp}{σ:St}{env:En}{fp:Nat->List Addr}{D:Ends}
theorem PG.wk(h:PG X tg t)(w:∀v σ H Q,t' v σ H Q->t v σ H Q):PG X tg t':=fun pins s σ H v u Q I r q=>h pins s σ H v u Q I r (w v σ H Q q)
theorem PGs.wk(h:PGs X ts t)(w:∀v σ H Q,t' v σ H Q->t v σ H Q):PGs X ts t':=fun pins s σ H v u Q I r q=>h pins s σ H v u Q I r (w v σ H Q q)
theorem sS(hN:X.N.Nodup)(hi:X.N[i]?=some x)(hx:Loc X.env.scope x)(hf:X.fn x=true\/X.env.scope.names.lookup x=some .local:=by first | exact .inl rfl | exact .inr rfl | assumption):SG X T (.Name x pos) (tgN i) :=
 PG.wk (gc (pos:=pos) hN hi hx hf) fun v σ H Q ⟨Z,F,env,fp,pv,f,S,r,fr,q⟩=>by
  unfold tgN at q
  by_cases ho:aW i env=true
  ·rw[if_pos ho]at q
   exact q _ _ (S.put r fr.nd fr.nf fr.new (fun a ha j _=>fr.dj a ha j) ho)
  ·rw[if_neg ho]at q;exact q.elim
theorem ik:SGs X T [] iB:=PGs.wk n4 fun vs σ H Q ⟨Z,F,env,fp,pvs,f,S,r,fr,q⟩=>by
 cases pvs with
 | nil=>unfold RelL at r;exact⟨r.1,q σ fp S⟩
 | cons x xs=>exact q.elim
theorem cQ(hN:X.N.Nodup)(hi:X.N[i]?=some x)(hx:Loc X.env.scope x)(h2:SGs X T es u)
  (hs:(assignEach (.Name x pos::es) X.env).map (·.2)=assign (.Name x pos) X.env::(assignEach es X.env).map (·.2):=by rfl)
  (hf:X.fn x=true\/X.env.scope.names.lookup x=some .local:=by first | exact .inl rfl | exact .inr rfl | assumption):SGs X T (.Name x pos::es) (b7 (tgN i) u) :=
 PGs.wk (iR (gc (pos:=pos) hN hi hx hf) h2 hs) fun vs σ H Q ⟨Z,F,env,fp,pvs,f,S,r,fr,q⟩=>by
  cases pvs with
  | nil=>exact q.elim
  | cons y ys =>
   unfold RelL at r
   obtain⟨v,ws,f1,f2,rfl,r1,r2,rfl⟩:=r
   obtain⟨n1,n2,n3⟩:=List.nodup_append.mp fr.nd
   by_cases ho:aW i env=true
   case neg=>simp only[b7,tgN,if_neg ho]at q;exact q.elim
   simp only[b7,tgN,if_pos ho]at q
   refine⟨v,ws,rfl,Z,F,env.set i (some y),aV fp i f1,ys,f2,S.put r1 n1 (fun a ha=>fr.nf a (List.mem_append_left _ ha)) (fun a ha=>fr.new a (List.mem_append_left _ ha)) (fun a ha j _=>fr.dj a (List.mem_append_left _ ha) j) ho,r2,⟨n2,fun a ha=>fr.nf a (List.mem_append_right _ ha),fun a ha=>fr.new a (List.mem_append_right _ ha),fun a ha j=>?_⟩,q⟩
   unfold aV
   split
   ·exact fun z=>n3 a z a ha rfl
   ·exact fr.dj a (List.mem_append_right _ ha) j
theorem ke(hK:X.K=T.K)(hc:X.calm=true)(h:SGs X T es u)(hn:(assignEach es X.env).length=n:=by rfl)(hst:(assignEach es X.env).findIdx? (·.1)=none:=by rfl):SG X T (.Tuple es k pos) (tgT n u) :=
 PG.wk (qK (pos:=pos) (k:=k) hc h hn hst) fun v σ H Q ⟨Z,F,env,fp,pv,f,S,r,fr,q⟩=>by
  cases pv with
  | tup xs =>
   unfold Rel at r
   obtain⟨a,vs,rfl,hl,hr⟩:=r
   simp only[tgT]at q
   by_cases hx:xs.length=n
   ·rw[if_pos hx]at q
    exact⟨a,vs,rfl,by rw[hK];exact hl,by rw[<- hr.length];exact hx,Z,F,env,fp,xs,f,S,hr,fr,q⟩
   ·rw[if_neg hx]at q;exact q.elim
  | _=>exact q.elim
def q_(tg:TgM)(e:ME):MS:=fun env=>match e env with
 | .ok v=>if v.noLnt then (match tg v env with
  | some e'=>.next e'
  | none=>.stuck)else .stuck
 | .exc k=>.exc k env
 | .stuck=>.stuck
theorem vv(he:SE X T W e m)(hg:SG X T tg g)(hs:swapsWithSole [tg] e pos.line X.env=pure false:=by rfl)(hw:swappedStores [tg] e X.env=pure none:=by rfl)
  (h1:(assignEach [tg] X.env).map (·.2)=[assign tg X.env]:=by rfl):SS X T W (.Assign [tg] e pos) (q_ g m):=PS.wk (qD (pos:=pos) he hg hs hw h1) fun D σ H ⟨Z,F,env,fp,S,q⟩=>by
 unfold q_ at q
 refine tE.bind S (fun c e H' x=>?_) (fun e=>by rw[e]at q;exact q) fun pv v H1 F1 f e g r h1 h2 h3=>?_
 ·rw[e]at q
  exact q F H' σ fp (S.grow (Gr.same S.hp.ft x))
 ·rw[e]at q
  dsimp only at q
  split at q
  ·rename_i hl
   refine⟨Z,F1,env,fp,pv,f,S.grow g,Rel.noL (by simpa[PV.noLnt]using hl) r,⟨h2,h1,S.hp.newE h3,fun a ha j hj=>?_⟩,?_⟩
   ·obtain⟨_,o,ho⟩:=S.dis j a hj
    rw[h3 a ha]at ho;cases ho
   ·split at q
    ·rename_i e' he'
     rw[he']
     exact fun σ' fp' S'=>q F1 H1 σ' fp' S'
    ·exact q.elim
  ·exact q.elim
abbrev MI:=En->Res (List PV)
def ItR(T:Tb)(F B:Addr->Prop)(Ow:Addr->Prop)(H1:Hp)(J:It)(xs:List PV):Prop :=
 ∀H2,(∀a o,H1 a=some o->¬Ow a->H2 a=some o)->(∀(i:Nat) x,xs[i]?=some x->J.go i H2/\∀v H3,J.yld i H2 v H3->Ext H2 H3/\Rel T F B NoL H3 x v [])/\J.stop xs.length H2
theorem ItR.of0(h:∀H2,(∀a o,H1 a=some o->¬Ow a->H2 a=some o)->(∀(i:Nat) x,xs[i]?=some x->J.go i H2/\∀v H3,J.yld i H2 v H3->H3=H2/\Rel T F B NoL H2 x v [])/\J.stop xs.length H2):ItR T F B Ow H1 J xs:=fun H2 hk=>by
 obtain⟨a,b⟩:=h H2 hk
 refine⟨fun i x e=>⟨(a i x e).1,fun v H3 hy=>?_⟩,b⟩
 obtain⟨rfl,r⟩:=(a i x e).2 v H3 hy
 exact⟨Ext.refl,r⟩
def GI(T:Tb)(W:Nat->St->Hp->Prop)(B F Ow:Addr->Prop)(σ:St)(H:Hp)(R:It->Hp->Prop):Res (List PV)->Prop
 | .ok xs=>∀J H1 F1,Gr F H F1 H1->ItR T F1 B Ow H1 J xs->R J H1
 | .exc c=>∀H',Ext H H'->W c σ H'
 | .stuck=>False
def tI(T:Tb)(W:Nat->St->Hp->Prop)(m:MI):TI:=fun σ H R=>∃Z F env fp,ap T Z F H σ env fp/\GI T W Z.B F (Own fp) σ H R (m env)
abbrev SI(X:Cx)(T:Tb)(W:Nat->St->Hp->Prop)(tg iter:Expr)(m:MI):Prop:=PI X tg iter (tI T W m)
theorem kg(hl:PE X l tl):PI X tg l (fun σ H R=>tl σ H fun x H1=>∃a,x=.ref a/\((∃xs,SqL X.K H1 a xs/\R (Itl X.K a) H1)\/ ∃xs,SqT X.K H1 a xs/\R (Itt X.K a) H1)):=by
 intro pins s σ H R I h
 refine thn (hl pins s σ H _ I h) fun v s1 ⟨x,H1,I1,r1,q1⟩=>?_
 obtain⟨a,e,q⟩:=q1
 subst e
 cases r1
 rcases q with⟨xs,hq,q⟩ |⟨xs,hq,q⟩
 ·obtain⟨its,rv,p,hz⟩:=I1.list hq
  refine wpAny_pyIter_list p.isList ?_
  refine⟨s1.heap.objs.size,[s1.heap.objs.size],_,_,H1,rfl,I1.kept (t':=s1.toks) fun b o e=>Heap.get?_push_of_some _ e,oT a _,⟨_,Heap.get?_push_size _ rfl,rfl,rfl⟩,fun b hb=>?_,q⟩
  have e:b=s1.heap.objs.size:=by simpa using hb
  subst e
  exact I1.fpOk (Nat.le_refl _) (I1.hok.fresh (Nat.le_refl _))
 ·obtain⟨its,rv,p,hz⟩:=I1.tuple hq
  refine wpAny_pyIter_tuple (show s1.heap.IsTuple a its.toArray from p) ?_
  refine⟨s1.heap.objs.size,[s1.heap.objs.size],_,_,H1,rfl,I1.kept (t':=s1.toks) fun b o e=>Heap.get?_push_of_some _ e,mf a _,⟨_,Heap.get?_push_size _ rfl,rfl,rfl⟩,fun b hb=>?_,q⟩
  have e:b=s1.heap.objs.size:=by simpa using hb
  subst e
  exact I1.fpOk (Nat.le_refl _) (I1.hok.fresh (Nat.le_refl _))
def fP(xs:List PV):Bool:=!hasL Fl.isOwn xs&&!hasL Fl.isLnt xs
def cC(m:ME):MI:=fun env=>(m env).bind fun x=>match x with
 | .lst f xs=>if !f.isLnt&&fP xs then .ok xs else .stuck
 | .tup xs=>if fP xs then .ok xs else .stuck
 | _=>.stuck
theorem et{H2:Hp}{Ow:Addr->Prop}(hF:∀a,F1 a->¬Ow a)(hB:∀a,B a->¬Ow a)(hO:∀a o,Ow a->H1 a=some o->Chg o)(hk:∀a o,H1 a=some o->¬Ow a->H2 a=some o){xs:List PV}{vs:List V}(r:RelL T F1 B NoL H1 xs vs []){i:Nat}{x:PV}{v:V}(e:xs[i]?=some x)(ev:vs[i]?=some v):Rel T F1 B NoL H2 x v []:=by
 obtain⟨w,f,e1,r1,sl⟩:=r.get e
 rw[ev]at e1
 cases e1
 obtain rfl:=List.sublist_nil.mp sl
 refine Rel.tr (fun _ h=>h) (fun _ h=>h) (fun _ h=>h) (fun a o q h=>hk a o q ?_) (fun _ z=>(nomatch z)) r1
 rcases h with h | h | h | h
 ·exact hF a h
 ·exact hB a h
 ·exact h.elim
 ·intro z
  have:=hO a o z q
  cases o with
  | lst _ | ins _ _ _=>exact h
  | _=>exact this
theorem ap.bow(S:ap T Z F H σ env fp):∀a,Z.B a->¬Own fp a:=fun a h ⟨i,hi⟩=>by
 obtain⟨⟨o,h1⟩,h2⟩:=S.hp.bo a h
 rcases S.new i a hi with z | z
 ·rw[h1]at z;cases z
 ·exact h2 z
theorem ap.fow(S:ap T Z F H σ env fp):∀a,F a->¬Own fp a:=fun a h ⟨i,hi⟩=>(S.dis i a hi).1 h
theorem ap.oow(S:ap T Z F H σ env fp):∀a o,Own fp a->H a=some o->Chg o:=fun a o ⟨i,hi⟩ e=>by
 obtain⟨o',h1,h2⟩:=S.ch i a hi
 rw[e]at h1;cases h1;exact h2
theorem dU(h:fP xs=true)(r:RelL T F B L H xs vs f):f=[]/\RelL T F B NoL H xs vs f:=by
 simp only[fP,Bool.and_eq_true,Bool.not_eq_true']at h
 exact⟨RelL.noOwn h.1 r,RelL.noL h.2 r⟩
theorem de(hK:X.K=T.K)(he:SE X T W e m):SI X T W tg e (cC m):=fun pins s σ H R I h=>kg he pins s σ H R I (by
 obtain⟨Z,F,env,fp,S,q⟩:=h
 unfold cC at q
 refine tE.bind S (fun c e=>by rw[e]at q;exact q) (fun e=>by rw[e]at q;exact q) fun x v H1 F1 f1 e1 g1 r1 n1 d1 w1=>?_
 rw[e1]at q
 simp only[Res.ok_bind]at q
 have S1:=S.grow g1
 rw[hK]
 cases x with
 | lst f xs =>
  dsimp only at q
  by_cases hc:(!f.isLnt&&fP xs)=true
  ·rw[if_pos hc]at q
   rw[Bool.and_eq_true]at hc
   unfold Rel at r1
   obtain⟨a,vs,fp',rfl,hl,hr,hf⟩:=r1
   obtain⟨rfl,hr'⟩:=dU hc.2 hr
   refine⟨a,rfl,.inl ⟨vs,hl.sq,q _ H1 F1 g1 (ItR.of0 fun H2 hk=>?_)⟩⟩
   have na:f≠.mod->∀o,H1 a=some o->H2 a=some o:=fun hn o ho=>by
    refine hk a o ho ?_
    cases f with
    | own =>
     rintro⟨i,hi⟩
     obtain⟨_,o',ho'⟩:=S.dis i a hi
     obtain rfl:f1=[a]:=hf
     rw[w1 a List.mem_cons_self]at ho';cases ho'
    | frz=>exact S1.fow a hl.1
    | bor=>exact S1.bow a hl.1
    | lnt=>exact absurd hc.1 (by decide)
    | mod=>exact absurd rfl hn
   have hl2:SqL T.K H2 a vs:=by
    by_cases hn:f=.mod
    ·subst hn;exact .inr hl
    ·exact .inl (Rd.tr (na hn) (hl.rd hn))
   refine⟨fun i x ex=>?_,⟨vs,hl2,by rw[hr.length];exact Nat.le_refl _⟩⟩
   obtain⟨v,_,ev,_,_⟩:=hr.get ex
   refine⟨⟨vs,v,hl2,ev⟩,fun w H3 hy=>⟨hy.1,?_⟩⟩
   have e3:=hy.2 vs hl2
   exact et S1.fow S1.bow S1.oow hk hr' ex e3
  ·rw[if_neg hc]at q;exact q.elim
 | tup xs =>
  dsimp only at q
  by_cases hc:fP xs=true
  ·rw[if_pos hc]at q
   unfold Rel at r1
   obtain⟨a,vs,rfl,hl,hr⟩:=r1
   obtain⟨rfl,hr'⟩:=dU hc hr
   refine⟨a,rfl,.inr ⟨vs,hl,q _ H1 F1 g1 (ItR.of0 fun H2 hk=>?_)⟩⟩
   have hl2:SqT T.K H2 a vs:=SqT.tr (fun o ho hfx=>hk a o ho fun z=>by
    have:=S1.oow a o z ho
    cases o with
    | lst _ | ins _ _ _=>exact hfx
    | _=>exact this) hl
   refine⟨fun i x ex=>?_,⟨vs,hl2,by rw[hr.length];exact Nat.le_refl _⟩⟩
   obtain⟨v,_,ev,_,_⟩:=hr.get ex
   refine⟨⟨vs,v,hl2,ev⟩,fun w H3 hy=>⟨hy.1,?_⟩⟩
   exact et S1.fow S1.bow S1.oow hk hr' ex (hy.2 vs hl2)
  ·rw[if_neg hc]at q;exact q.elim
 | _=>exact q.elim)
def cA(lo:Int)(n:Nat):List PV:=(List.range n).map fun k=>.int (lo+(k:Nat))
def inR(i:Int):Bool:=decide (-(2 ^ 62)<= i/\i < 2 ^ 62)
def bx(ms:MA):MI:=fun env=>(ms env).bind fun xs=>match xs with
 | [.int n]=>if inR n then .ok (cA 0 n.toNat)else .stuck
 | _=>.stuck
theorem ub:ItR T F1 B Ow H1 (Itr lo n) (cA lo n):=by
 apply ItR.of0
 intro H2 _
 refine⟨fun i x ex=>?_,by simp[cA,Itr]⟩
 have hi:i < n:=by
  have:=(List.getElem?_eq_some_iff.mp ex).1
  simpa[cA]using this
 refine⟨hi,fun v H3 hy=>⟨hy.1,?_⟩⟩
 obtain⟨_,rfl⟩:=hy
 have:x=.int (lo+(i:Nat)):=by
  simp[cA,hi]at ex
  exact ex.symm
 subst this
 exact d6
theorem dQ(hg:Gl X "range")(hm:X.mg "range" = none)(ha:SA X T W [a] ms)(hs:starEach [a] X.env=[(false,eval a X.env)]:=by rfl):SI X T W tg (.Call (.Name "range" p) [a] [] pos) (bx ms):=fun pins s σ H R I h=>jP hg hm ha hs pins s σ H R I (by
 obtain⟨Z,F,env,fp,S,q⟩:=h
 unfold bx at q
 refine tA.bind S (fun c e=>by rw[e]at q;exact q) (fun e=>by rw[e]at q;exact q) fun xs vs H1 F1 f1 e1 g1 r1 n1 d1 w1=>?_
 rw[e1]at q
 simp only[Res.ok_bind]at q
 split at q
 ·rename_i n
  split at q
  ·rename_i hc
   obtain⟨v,rfl,r2⟩:=r1.one
   unfold Rel at r2
   obtain⟨rfl,_⟩:=r2
   have hc':-(2 ^ 62)<= n/\n < 2 ^ 62:=by simpa[inR]using hc
   exact⟨n,rfl,hc'.1,hc'.2,q _ H1 F1 g1 ub⟩
  ·exact q.elim
 ·exact q.elim)
def cJ(it:MI)(tg:TgM)(body:MS):MS:=fun env=>match it env with
 | .ok xs=>jw (fun x e=>match tg x e with
  | some e'=>body e'
  | none=>.stuck) xs env
 | .exc c=>.exc c env
 | .stuck=>.stuck
theorem bG(hp:PassesOwn (model X.prog X.w) X.A X.env X.xe)(hc:X.calm=true)(hi:SI X T W tg iter mi)(hg:SG X T tg g)(hb:SSs X T W body mb)
  (hs:∀x,foldedSetIterable iter X.env x=pure x:=by intro _;rfl):SS X T W (.For tg iter body [] pos) (cJ mi g mb):=PS.wk (qC (pos:=pos) hp hc hi hg hb hs) fun D σ H ⟨Z,F,env,fp,S,q⟩=>by
 unfold cJ at q
 refine⟨Z,F,env,fp,S,?_⟩
 cases em:mi env with
 | exc c=>rw[em]at q;exact fun H' x=>q F H' σ fp (S.grow (Gr.same S.hp.ft x))
 | stuck=>rw[em]at q;exact q
 | ok xs =>
  rw[em]at q
  dsimp only at q
  intro J H1 F1 g1 it
  have S1:=S.grow g1
  generalize hbd:(fun (x:PV) (e:En)=>match g x e with
   | some e'=>mb e'
   | none=>Out.stuck)=bd at q
  refine⟨fun i m σ2 H2=>m=xs.length - i/\i<=xs.length/\∃F2 env2 fp2,ap T (Z.re F1 H1 fp) F2 H2 σ2 env2 fp2/\GS T W Z D (jw bd (xs.drop i) env2),⟨xs.length,by simp,Nat.zero_le _,F1,env,fp,S1.enter,q⟩,?_⟩
  rintro i m σ2 H2 ⟨rfl,hi,F2,env2,fp2,S2,q2⟩
  obtain⟨go,stop⟩:=it H2 S2.hp.keep
  by_cases hlt:i < xs.length
  ·have hx:xs[i]?=some xs[i]:=by simp[hlt]
   obtain⟨g1',yl⟩:=go i _ hx
   refine .inr ⟨g1',fun σ3 H3=>∃F3 env3 fp3,ap T (Z.re F1 H1 fp) F3 H3 σ3 env3 fp3/\GS T W Z D (jw bd (xs.drop (i+1)) env3),fun σ3 H3 h3=>⟨xs.length - (i+1),by omega,rfl,hlt,h3⟩,fun v H3 hy=>?_⟩
   obtain⟨ex3,r⟩:=yl v H3 hy
   rw[List.drop_eq_getElem_cons hlt]at q2
   unfold jw at q2
   rw[<- hbd]at q2
   dsimp only at q2
   refine⟨Z.re F1 H1 fp,F2,env2,fp2,xs[i],[],S2.grow (Gr.same S2.hp.ft ex3),r.ext Ext.refl S2.hp.f0,pY.nil,?_⟩
   cases eg:g xs[i] env2 with
   | none=>rw[eg]at q2;exact q2
   | some e' =>
    rw[eg]at q2
    dsimp only at q2
    intro σ' fp' S'
    refine⟨Z.re F1 H1 fp,F2,e',fp',S',?_⟩
    cases eb:mb e' with
    | next e2 | cont e2=>rw[eb]at q2;exact fun F3 H3 σ3 fp3 S3=>⟨F3,e2,fp3,S3,by rw[<- hbd];exact q2⟩
    | brk e2=>rw[eb]at q2;exact fun F3 H3 σ3 fp3 S3=>q2 F3 H3 σ3 fp3 (S1.leave S3)
    | ret v=>rw[eb]at q2;exact fun F3 H3 v f hp r nd nf new=>q2 F3 H3 v f (dB.leave S1 hp) r nd nf fun a ha=>S1.newL (new a ha)
    | exc c e2=>rw[eb]at q2;exact fun F3 H3 σ3 fp3 S3=>q2 F3 H3 σ3 fp3 (S1.leave S3)
    | stuck=>rw[eb]at q2;exact q2
  ·have e:i=xs.length:=by omega
   subst e
   rw[List.drop_length]at q2
   exact .inl ⟨stop,q2 F2 H2 σ2 fp2 (S1.leave S2)⟩
end
end PR
namespace L2
open PySem PySem.Spec
def cL(cells:List (Str×Addr)):List (Str×NameKind)->List (Str×Addr)->List (Str×Addr)
 | [],acc=>acc
 | (n,k)::r,acc=>if (k == .free)=true then (match cells.lookup n with
  | some c=>cL cells r ((n,c)::acc)
  | none=>cL cells r acc)else cL cells r acc
theorem fR:∀(names:List (Str×NameKind)) (acc:List (Str×Addr)),(∀y∈names,y.2=.free->∃c,env.cells.lookup y.1=some c)->
  (forIn names acc fun (x:Str × NameKind) (cs:List (Str × Addr))=>match x with
   |(name,kind)=>if(kind==.free)=true then do let c <- cellOf env name;pure (ForInStep.yield ((name,c)::cs))else pure (ForInStep.yield cs):Sem (List (Str×Addr)))=pure (cL env.cells names acc)
 | [],acc,_=>by simp[cL]
 |(n,k)::r,acc,h=>by
  rw[List.forIn_cons]
  by_cases hk:(k==NameKind.free)=true
  ·obtain⟨c,hc⟩:=h (n,k) List.mem_cons_self (by simpa using hk)
   dsimp only at hc
   simp only[hk,if_true,cellOf,hc,pure_bind]
   rw[cL,if_pos hk,hc]
   exact fR r _ fun y hy=>h y (List.mem_cons_of_mem _ hy)
  ·simp only[hk,Bool.false_eq_true,if_false,pure_bind]
   rw[cL,if_neg hk]
   exact fR r _ fun y hy=>h y (List.mem_cons_of_mem _ hy)
theorem fI(h:∀y∈scope.names,y.2=.free->∃c,env.cells.lookup y.1=some c):closureFor scope env=pure (cL env.cells scope.names []):=by
 unfold closureFor
 simp only[]
 rw[<- fR scope.names [] h]
 simp
theorem dZ{cells:List (Str×Addr)}:∀{names:List (Str×NameKind)}{acc:List (Str×Addr)},(∀p∈acc,cells.lookup p.1=some p.2)->∀p∈cL cells names acc,cells.lookup p.1=some p.2
 | [],_,h=>h
 |(n,k)::r,acc,h=>by
  unfold cL
  split
  ·split
   ·rename_i c hc
    exact dZ fun p hp=>by
     rcases List.mem_cons.mp hp with rfl | hp
     ·exact hc
     ·exact h p hp
   ·exact dZ h
  ·exact dZ h
theorem gz:∀{names:List (Str×NameKind)}{acc:List (Str×Addr)}{p:Str×Addr},p∈acc->p∈cL cells names acc
 | [],_,_,h=>h
 |(n,k)::r,acc,p,h=>by
  unfold cL
  split
  ·split
   ·exact gz (List.mem_cons_of_mem _ h)
   ·exact gz h
  ·exact gz h
theorem fb{cells:List (Str×Addr)}{x:Str}{c:Addr}(hc:cells.lookup x=some c):∀{names:List (Str×NameKind)}{acc:List (Str×Addr)},(x,NameKind.free)∈ names->(x,c)∈ cL cells names acc
 | [],_,h=>nomatch h
 |(n,k)::r,acc,h=>by
  unfold cL
  rcases List.mem_cons.mp h with e | h
  ·cases e
   rw[if_pos (by rfl),hc]
   exact gz List.mem_cons_self
  ·split
   ·split
    ·exact fb hc h
    ·exact fb hc h
   ·exact fb hc h
theorem fH{cells l:List (Str×Addr)}(h:∀p∈l,cells.lookup p.1=some p.2){x:Str}{c:Addr}(m:(x,c)∈ l):l.lookup x=some c:=by
 induction l with
 | nil=>cases m
 | cons p r ih =>
  obtain⟨n,d⟩:=p
  rw[List.lookup_cons]
  by_cases e:x=n
  ·subst e
   simp only[beq_self_eq_true]
   have h1:=h (x,d) List.mem_cons_self
   have h2:=h (x,c) m
   dsimp only at h1 h2
   rw[h1]at h2
   exact h2
  ·rw[show(x==n)=false by simpa using e]
   refine ih (fun p hp=>h p (List.mem_cons_of_mem _ hp)) ?_
   rcases List.mem_cons.mp m with z | z
   ·cases z;exact absurd rfl e
   ·exact z
theorem dY{cells:List (Str×Addr)}{names:List (Str×NameKind)}{x:Str}{c:Addr}(h:(cL cells names []).lookup x=some c):cells.lookup x=some c :=
 dZ (names:=names) (acc:=[]) (fun _ z=>nomatch z) (x,c) (PySem.mem_of_lookup h)
theorem jo:∀(names:List (Str×NameKind)) (a:Nat) (l acc:List (Str×Addr)),cellsFrom a names (l++acc)=cellsFrom a names l++acc
 | [],_,_,_=>rfl
 |(n,k)::r,a,l,acc=>by
  unfold cellsFrom
  split
  ·exact jo r (a+1) ((n,a)::l) acc
  ·exact jo r a l acc
theorem jm:∀{names:List (Str×NameKind)}{a:Nat}{l:List (Str×Addr)}{p:Str×Addr},p∈cellsFrom a names l->p∈l \/(a<=p.2/\(p.1,NameKind.cell)∈ names)
 | [],_,_,_,h=>.inl h
 |(n,k)::r,a,l,p,h=>by
  unfold cellsFrom at h
  split at h
  ·rename_i hk
   have hk:k=.cell:=by simpa using hk
   subst hk
   rcases jm h with h | h
   ·rcases List.mem_cons.mp h with rfl | h
    ·exact .inr ⟨Nat.le_refl _,List.mem_cons_self⟩
    ·exact .inl h
   ·exact .inr ⟨by omega,List.mem_cons_of_mem _ h.2⟩
  ·rcases jm h with h | h
   ·exact .inl h
   ·exact .inr ⟨h.1,List.mem_cons_of_mem _ h.2⟩
theorem kD:∀{names:List (Str×NameKind)}{a:Nat}{l:List (Str×Addr)}{x:Str},((x,NameKind.cell)∈ names \/(l.lookup x).isSome=true)->((cellsFrom a names l).lookup x).isSome=true
 | [],_,_,_,h=>h.resolve_left (fun z=>nomatch z)
 |(n,k)::r,a,l,x,h=>by
  unfold cellsFrom
  split
  ·rename_i hk
   have hk:k=.cell:=by simpa using hk
   subst hk
   refine kD ?_
   by_cases e:x=n
   ·subst e;exact .inr (by simp)
   ·rcases h with h | h
    ·rcases List.mem_cons.mp h with z | h
     ·cases z;exact absurd rfl e
     ·exact .inl h
    ·exact .inr (by rw[List.lookup_cons,show(x==n)=false by simpa using e];exact h)
  ·rename_i hk
   refine kD ?_
   rcases h with h | h
   ·rcases List.mem_cons.mp h with z | h
    ·cases z;exact absurd rfl hk
    ·exact .inl h
   ·exact .inr h
theorem jp:∀{names:List (Str×NameKind)}{a:Nat}{l:List (Str×Addr)},(∀p∈l,p.2 < a)->(l.Pairwise fun x y=>x.2≠y.2)->(cellsFrom a names l).Pairwise fun x y=>x.2≠y.2
 | [],_,_,_,h=>h
 |(n,k)::r,a,l,hl,h=>by
  unfold cellsFrom
  split
  ·refine jp (fun p hp=>?_) (List.pairwise_cons.mpr ⟨fun y hy e=>?_,h⟩)
   ·rcases List.mem_cons.mp hp with rfl | hp
    ·exact Nat.lt_succ_self _
    ·exact Nat.lt_succ_of_lt (hl p hp)
   ·have e':a=y.2:=e
    exact Nat.lt_irrefl _ (Nat.lt_of_lt_of_eq (hl y hy) e')
  ·exact jp hl h
theorem gq{α:Type}{x:Str}:∀{l m:List (Str×α)},(l++m).lookup x=(l.lookup x).or (m.lookup x)
 | [],m=>by simp
 |(n,c)::l,m=>by
  rw[List.cons_append,List.lookup_cons,List.lookup_cons,gq (l:=l)]
  cases x==n<;>simp
abbrev kE(X:Cx)(scope:Scope)(C:Addr):List (Str×Addr):=cellsFrom (C+1) scope.names (cL X.env.cells scope.names [])
theorem gA{X:Cx}{scope:Scope}{C:Addr}{x:Str}{c:Addr}(h:(kE X scope C).lookup x=some c):(C+1<=c/\(x,NameKind.cell)∈ scope.names/\(x,c)∈ cellsFrom (C+1) scope.names [])\/(cL X.env.cells scope.names []).lookup x=some c:=by
 unfold kE at h
 rw[show cL X.env.cells scope.names []=[]++ cL X.env.cells scope.names []from rfl,jo,gq]at h
 cases e:(cellsFrom (C+1) scope.names []).lookup x with
 | some d =>
  rw[e]at h
  cases h
  have m:=PySem.mem_of_lookup e
  rcases jm m with z | z
  ·cases z
  ·exact .inl ⟨z.1,z.2,m⟩
 | none =>
  rw[e]at h
  exact .inr (by simpa using h)
theorem w5(hx:(x,NameKind.cell)∉ scope.names)(h:(cL X.env.cells scope.names []).lookup x=some c):(kE X scope C).lookup x=some c:=by
 unfold kE
 rw[show cL X.env.cells scope.names []=[]++ cL X.env.cells scope.names []from rfl,jo,gq]
 cases e:(cellsFrom (C+1) scope.names []).lookup x with
 | some d =>
  rcases jm (PySem.mem_of_lookup e)with z | z
  ·cases z
  ·exact absurd z.2 hx
 | none=>simpa using h
theorem hV{M:Model}{A:Around}{E:Value->Shared->Prop}{s:Shared}{scope:Scope}{globals:Addr}{closure:List (Str×Addr)}{qual:Str}{func:Option Addr}{code:Value}{outer:Env}{builtins:Addr}{Q:Env->Shared->Prop}
  (hQ:∀ h',h'.Ns s.heap.objs.size (fun _=>none)->(∀ b o,s.heap.get? b=some o->h'.get? b=some o)->(∀ n c,(n,c) ∈ cellsFrom (s.heap.objs.size+1) scope.names []->h'.IsCell c none) ->
   Q (newEnv scope s.heap.objs.size globals (cellsFrom (s.heap.objs.size+1) scope.names closure) qual func code (some outer) builtins) { s with heap:=h' }) :
  wpAny M A (newFunctionEnv scope globals closure [] qual func code (some outer) builtins) Q E s:=by
 simp only[newFunctionEnv,Option.isSome_some,if_true]
 refine wpAny_bind (wpAny_alloc ?_)
 refine wpAny_bind (wpAny_layCells _ (fun name kind cells=>by cases hkc:kind==NameKind.cell<;>simp[hkc]) _ _ _ _ ?_)
 have ok:=cellsFrom_ok scope.names (s.heap.push { cls:=.type "dict", data:=.dict #[] }) (s.heap.objs.size+1) [] ⟨fun _ _ hm=>(nomatch hm),List.Pairwise.nil⟩ (by rw[Heap.size_push];exact Nat.le_refl _)
 rw[Heap.size_push]at ok
 rw[show({ s with heap:=s.heap.push { cls:=.type "dict", data:=.dict #[] } }:Shared).heap.objs.size=s.heap.objs.size+1 from Heap.size_push ..]
 refine wpAny_bind ?_
 rw[List.forIn_nil]
 exact wpAny_pure (wpAny_pure (hQ _ ((Heap.Ns.new s.heap (.type "dict")).keeps (pushCells_keeps _ _)) (fun b o e=>pushCells_keeps _ _ b o (Heap.get?_push_of_some _ e)) fun n c hm=>(ok.empty n c hm).1))
def cxC(X:Cx)(scope:Scope)(C:Addr)(N:List Str)(s:Shared)(H:Hp)(ex:List Addr):Cx :=
 { X with env:=compEnvC scope (kE X scope C) C X.env,N:=N,s₀:=s,H₀:=H,outer:=X.stack,stack:=X.stack,ex:=ex,fn:=fun x=>scope.names.lookup x==some .cell,pn:=[],xe:=fun _ _=>False }
structure bQ(X:Cx)(scope:Scope)(caps:List Nat)(N tn:List Str):Prop where
 kind:scope.kind=.function
 cel:∀y∈scope.names,y.2=.cell->scope.names.lookup y.1=some .cell
 names:∀y∈scope.names,y.2=.local->scope.names.lookup y.1=some .local
 free:∀y∈scope.names,y.2=.free->X.env.kindOf y.1=some .cell\/X.env.kindOf y.1=some .free
 eN:N=caps.map (fun i=>X.N.getD i "")++ tn
 capN:∀i∈caps,i < X.N.length
 capF:∀i∈caps,∀x,X.N[i]?=some x->(x,NameKind.free)∈ scope.names/\scope.names.lookup x=some .free
 nd:N.Nodup
theorem f7{scope:Scope}{env:Env}{x:Str}{k:NameKind}(h:(relabel scope env).names.lookup x=some k)(hc:k=.cell\/k=.free):(x,NameKind.free)∈ scope.names \/(x,NameKind.cell)∈ scope.names:=by
 have m:=PySem.mem_of_lookup h
 obtain⟨⟨n,k0⟩,hm,e⟩:=List.mem_map.mp m
 dsimp only at e
 split at e
 ·rename_i hh
  cases e
  have:k0=.free:=by
   simp only[Bool.and_eq_true,beq_iff_eq]at hh
   exact hh.1.1
  subst this
  exact .inl hm
 ·cases e
  rcases hc with rfl | rfl
  ·exact .inr hm
  ·exact .inl hm
theorem f8{scope:Scope}{env:Env}{x:Str}:∀{names:List (Str×NameKind)},names.lookup x=some .free ->
  (names.map fun(n,k)=>if(k==NameKind.free&&env.scope.kind==.function&&env.kindOf n==some .cell)then(n,NameKind.cell)else(n,k)).lookup x=some .cell \/
  (names.map fun(n,k)=>if(k==NameKind.free&&env.scope.kind==.function&&env.kindOf n==some .cell)then(n,NameKind.cell)else(n,k)).lookup x=some .free
 | [],h=>by simp at h
 |(n,k)::r,h=>by
  show List.lookup x ((if(k==NameKind.free&&env.scope.kind==.function&&env.kindOf n==some .cell)=true then(n,NameKind.cell)else(n,k))::_)=_\/List.lookup x ((if(k==NameKind.free&&env.scope.kind==.function&&env.kindOf n==some .cell)=true then(n,NameKind.cell)else(n,k))::_)=_
  have ih:=@f8 scope env x r
  cases hx:x==n with
  | true =>
   simp only[List.lookup_cons,hx]at h
   cases h
   split
   ·exact .inl (by simp[List.lookup_cons,hx])
   ·exact .inr (by simp[List.lookup_cons,hx])
  | false =>
   simp only[List.lookup_cons,hx]at h
   split
   ·simpa only[List.lookup_cons,hx]using ih h
   ·simpa only[List.lookup_cons,hx]using ih h
section
variable{X:Cx}{scope:Scope}{caps:List Nat}{N tn:List Str}{pins:List (Addr×Obj)}{σ:St}{H:Hp}{s:Shared}{fp:List Addr}{C:Addr}
theorem jh(cs:bQ X scope caps N tn)(I:Inv X pins σ H s)(hf:∀b∈fp,ij X pins H b)(hlt:∀b∈fp,b < s.heap.objs.size)(hC:s.heap.objs.size<=C):(cxC X scope C N s H fp).Ok where
 mod:=I.ok.mod
 kind:=by show(relabel scope X.env).kind=_;exact cs.kind
 glob:=I.ok.glob
 blt:=I.ok.blt
 above:=hC
 inj:=fun x y c h1 h2=>by
  have old:∀z,(cL X.env.cells scope.names []).lookup z=some c->c < s.heap.objs.size:=fun z hz=>let⟨_,hv⟩:=I.cell z c (dY hz);hv.lt
  rcases gA h1 with⟨l1,_,m1⟩ | h1<;>rcases gA h2 with⟨l2,_,m2⟩ | h2
  ·exact name_of_addr (jp (l:=[]) (fun _ z=>nomatch z) List.Pairwise.nil) m1 m2
  ·exact absurd (Nat.lt_of_lt_of_le (old y h2) (Nat.le_trans hC (Nat.le_trans (Nat.le_succ _) l1))) (Nat.lt_irrefl _)
  ·exact absurd (Nat.lt_of_lt_of_le (old x h1) (Nat.le_trans hC (Nat.le_trans (Nat.le_succ _) l2))) (Nat.lt_irrefl _)
  ·exact I.ok.inj x y c (dY h1) (dY h2)
 has:=fun x hx=>by
  have hx:(relabel scope X.env).names.lookup x=some .cell \/(relabel scope X.env).names.lookup x=some .free:=hx
  have m:(x,NameKind.free)∈ scope.names \/(x,NameKind.cell)∈ scope.names:=by
   rcases hx with h | h
   ·exact f7 h (.inl rfl)
   ·exact f7 h (.inr rfl)
  refine Option.isSome_iff_exists.mp (kD (l:=cL X.env.cells scope.names []) ?_)
  rcases m with m | m
  ·obtain⟨c,hc⟩:=I.ok.has x (cs.free _ m rfl)
   exact .inr (by rw[fH (dZ (acc:=[]) fun _ z=>nomatch z) (fb hc m)];rfl)
  ·exact .inl m
 cab:=fun x c h hc=>by
  have h':(scope.names.lookup x==some NameKind.cell)=true:=h
  have hx:scope.names.lookup x=some .cell:=by simpa using h'
  have hs:s.heap.objs.size<=C:=hC
  have hc:(kE X scope C).lookup x=some c:=hc
  obtain⟨d,hd⟩:=Option.isSome_iff_exists.mp (kD (a:=C+1) (l:=[]) (.inl (PySem.mem_of_lookup hx)))
  unfold kE at hc
  rw[show cL X.env.cells scope.names []=[]++ cL X.env.cells scope.names []from rfl,jo,gq,hd]at hc
  cases hc
  rcases jm (PySem.mem_of_lookup hd)with z | z
  ·cases z
  ·exact Nat.le_trans hs (Nat.le_trans (Nat.le_succ _) z.1)
 hd:=I.ok.hd
 frames:=I.ok.frames
 stk:=.inl rfl
 exf:=fun b hb=>⟨Nat.ne_of_lt (Nat.lt_of_lt_of_le (hlt b hb) hC),fun x c h=>by
  rcases gA h with⟨l1,_,_⟩ | h
  ·exact fun z=>absurd (Nat.lt_of_lt_of_le (hlt b hb) (Nat.le_trans hC (Nat.le_trans (Nat.le_succ _) l1))) (by rw[z];exact Nat.lt_irrefl _)
  ·exact(hf b hb).2.2.2.2.1 x c (dY h)⟩
 bs:=I.bs
 bsz:=Nat.le_trans I.ok.bsz I.sz
 noex:=fun b o e hb=>by
  rcases(hf b hb).2.2.2.1 with z | z
  ·exact I.ok.noex b o e z
  ·exact absurd (Nat.lt_of_lt_of_le (Heap.lt_size e) (Nat.le_trans I.ok.bsz z)) (Nat.lt_irrefl _)
 exfs:=fun b hb hs=>by
  rcases List.mem_cons.mp (I.stkSub b hs)with z | z
  ·exact(hf b hb).2.1 z
  ·exact(hf b hb).2.2.1 z
 funs:=I.stack
 frf:=I.stkFree
def jq(caps:List Nat)(k:Nat)(σ:St):St:=caps.map (fun i=>(σ[i]?).join)++ List.replicate k none
theorem ly(cs:bQ X scope caps N tn)(I:Inv X pins σ H s)(hf:∀b∈fp,ij X pins H b)(hlt:∀b∈fp,b < s.heap.objs.size)
  (hns:h₁.Ns (s.heap.objs.size+1) fun _=>none) (hD:h₁.get? s.heap.objs.size=some { cls:=.type "list", data:=.seq ([]:List Value).toArray }) (old:∀b o,s.heap.get? b=some o->h₁.get? b=some o)
  (hcl:∀n c,(n,c)∈ cellsFrom (s.heap.objs.size+1+1) scope.names []->h₁.IsCell c none) :
  Inv (cxC X scope (s.heap.objs.size+1) N s H fp) [] (jq caps tn.length σ) (upd H s.heap.objs.size (.lst [])) { s with heap:=h₁,toks:=t }:=by
 have fresh:∀b,s.heap.objs.size<=b->H b=none:=fun b hb=>I.hok.fresh hb
 have neD:s.heap.objs.size+1≠s.heap.objs.size:=Nat.succ_ne_self _
 have ltc:∀x c,(cL X.env.cells scope.names []).lookup x=some c->∃v,s.heap.IsCell c v:=fun x c h=>I.cell x c (dY h)
 refine⟨jh cs I hf hlt (Nat.le_succ _),rfl,I.bare,Un.laid old (Nat.le_refl _) (fresh _ (Nat.le_refl _)),⟨_,hns,fun i y v h1 h2 h3=>?_⟩,fun x c h=>?_,?_,fun x c h=>?_,fun p hp=>absurd (show p ∈([]:List (Addr×Obj))from hp) (by simp),?_,?_⟩
 ·have hi:i < caps.length:=by
   unfold jq at h2
   by_cases hi:i < caps.length
   ·exact hi
   ·rw[List.getElem?_append_right (by simpa using hi),List.getElem?_replicate]at h2
    split at h2<;>cases h2
  unfold jq at h2
  rw[List.getElem?_append_left (by simpa using hi),List.getElem?_map]at h2
  obtain⟨j,hj,e2⟩:=Option.map_eq_some_iff.mp h2
  have hjc:j∈caps:=List.mem_of_getElem? hj
  have hjN:=cs.capN j hjc
  have hy:X.N[j]?=some y:=by
   have h1':N[i]?=some y:=h1
   rw[cs.eN,List.getElem?_append_left (by simpa using hi),List.getElem?_map,hj]at h1'
   have:X.N.getD j "" = y:=by simpa using h1'
   rw[<- this]
   simp[hjN]
  have hσ:σ[j]?=some (some v):=by
   cases e:σ[j]? with
   | none=>rw[e]at e2;cases e2
   | some w=>rw[e]at e2;simp only[Option.join_some]at e2;rw[e2]
  obtain⟨m0,hn0,hl⟩:=I.loc
  obtain⟨hm,hlk⟩:=cs.capF j hjc y hy
  have hk:=cs.free _ hm rfl
  dsimp only at hk
  have hvis:Vis X.env.scope y:=by
   rcases hk with z | z
   ·exact .inr (.inl z)
   ·exact .inr (.inr z)
  obtain⟨u,ru,lk⟩:=hl j y v hy hσ hvis
  refine⟨u,ru,.inr ?_⟩
  rcases lk with⟨z,_⟩ |⟨_,c,hc,hcell⟩
  ·rcases hk with w | w
   ·rw[z]at w;cases w
   ·rw[z]at w;cases w
  ·refine⟨f8 (scope:=scope) hlk,c,w5 (fun z=>?_) (fH (dZ (acc:=[]) fun _ z=>nomatch z) (fb hc hm)),hcell.keeps old⟩
   have:=cs.cel _ z rfl
   rw[hlk]at this
   cases this
 ·rcases gA h with⟨_,_,m⟩ | h
  ·exact⟨none,hcl x c m⟩
  ·obtain⟨v,hv⟩:=ltc x c h
   exact⟨v,hv.keeps old⟩
 ·show upd H _ _ (s.heap.objs.size+1)=none
  rw[ar neD]
  exact fresh _ (Nat.le_succ _)
 ·rcases gA h with⟨l1,_,_⟩ | h
  ·rw[ar (Nat.ne_of_gt (Nat.lt_of_lt_of_le (Nat.lt_succ_of_lt (Nat.lt_succ_self _)) l1))]
   exact fresh _ (Nat.le_trans (Nat.le_succ_of_le (Nat.le_succ _)) l1)
  ·obtain⟨v,hv⟩:=ltc x c h
   rw[ar (Nat.ne_of_lt hv.lt)]
   exact I.freeC x c (dY h)
 ·exact I.hok.laid old (Nat.le_refl _) ⟨Nat.zero_le _,[],_,.nil,hD⟩
 ·show(jq caps tn.length σ).length=N.length
  rw[cs.eN]
  simp[jq]
end
end L2
namespace PR
open PySem PySem.Spec L2
def Fl.borrow:Fl->Fl
 | .own | .lnt=>.bor
 | f=>f
def PV.borrow(x:PV):PV:=x.mapF Fl.borrow
mutual
theorem Rel.borrow(hB:∀a,B a->B' a)(hL:∀a,L a->B' a):∀{x:PV}{v:V}{fp:List Addr},(∀a∈fp,B' a)->Rel T F B L H x v fp->Rel T F B' L' H (x.mapF Fl.borrow) v []
 | .non,_,_,_,h | .bl _,_,_,_,h | .int _,_,_,_,h | .str _,_,_,_,h=>by unfold Rel at h;simp only[PV.mapF];unfold Rel;exact⟨h.1,rfl⟩
 | .lst f xs,_,fp,hp,h=>by
  unfold Rel at h
  obtain⟨a,vs,fp',e,hl,hr,hf⟩:=h
  simp only[PV.mapF]
  unfold Rel
  cases f with
  | own =>
   obtain rfl:fp=a::fp':=hf
   exact⟨a,vs,[],e,⟨hp a List.mem_cons_self,.inl hl⟩,RelL.borrow hB hL (fun b hb=>hp b (List.mem_cons_of_mem _ hb)) hr,rfl,rfl⟩
  | frz=>obtain⟨rfl,rfl⟩:=hf;exact⟨a,vs,[],e,hl,RelL.borrow hB hL hp hr,rfl,rfl⟩
  | bor=>obtain⟨rfl,rfl⟩:=hf;exact⟨a,vs,[],e,⟨hB a hl.1,hl.2⟩,RelL.borrow hB hL hp hr,rfl,rfl⟩
  | lnt=>obtain⟨rfl,rfl⟩:=hf;exact⟨a,vs,[],e,⟨hL a hl.1,.inl hl.2⟩,RelL.borrow hB hL hp hr,rfl,rfl⟩
  | mod=>obtain⟨rfl,rfl⟩:=hf;exact⟨a,vs,[],e,hl,RelL.borrow hB hL hp hr,rfl,rfl⟩
 | .tup xs,_,fp,hp,h=>by
  unfold Rel at h
  obtain⟨a,vs,e,hl,hr⟩:=h
  simp only[PV.mapF]
  unfold Rel
  exact⟨a,vs,e,hl,RelL.borrow hB hL hp hr⟩
 | .obj f c ks xs,_,fp,hp,h=>by
  unfold Rel at h
  obtain⟨a,dx,vs,fp',e,hl,hk,hr,hf,ha⟩:=h
  simp only[PV.mapF]
  unfold Rel
  cases f with
  | own =>
   obtain rfl:fp=a::fp':=hf
   have r:=RelL.borrow hB hL (L':=L') (fun b hb=>hp b (List.mem_cons_of_mem _ hb)) hr
   exact⟨a,dx,vs,[],e,hl,⟨by rw[r.length,hk.1,hr.length],hk.2⟩,r,⟨rfl,rfl⟩,hp a List.mem_cons_self⟩
  | frz=>obtain⟨rfl,rfl⟩:=hf;have r:=RelL.borrow hB hL (L':=L') hp hr;exact⟨a,dx,vs,[],e,hl,⟨by rw[r.length,hk.1,hr.length],hk.2⟩,r,⟨rfl,rfl⟩,ha⟩
  | bor=>obtain⟨rfl,rfl⟩:=hf;have r:=RelL.borrow hB hL (L':=L') hp hr;exact⟨a,dx,vs,[],e,hl,⟨by rw[r.length,hk.1,hr.length],hk.2⟩,r,⟨rfl,rfl⟩,hB a ha⟩
  | lnt=>obtain⟨rfl,rfl⟩:=hf;have r:=RelL.borrow hB hL (L':=L') hp hr;exact⟨a,dx,vs,[],e,hl,⟨by rw[r.length,hk.1,hr.length],hk.2⟩,r,⟨rfl,rfl⟩,hL a ha⟩
  | mod=>exact ha.elim
 | .exc c,_,fp,hp,h=>by
  unfold Rel at h
  obtain⟨a,e,hl,rfl⟩:=h
  simp only[PV.mapF]
  unfold Rel
  exact⟨a,e,hl,rfl⟩
theorem RelL.borrow(hB:∀a,B a->B' a)(hL:∀a,L a->B' a):∀{xs:List PV}{vs:List V}{fp:List Addr},(∀a∈fp,B' a)->RelL T F B L H xs vs fp->RelL T F B' L' H (mapL Fl.borrow xs) vs []
 | [],_,_,_,h=>by unfold RelL at h;simp only[mapL];unfold RelL;exact⟨h.1,rfl⟩
 | x::xs,_,fp,hp,h=>by
  unfold RelL at h
  obtain⟨v,ws,f1,f2,e,h1,h2,rfl⟩:=h
  simp only[mapL]
  unfold RelL
  exact⟨v,ws,[],[],e,Rel.borrow hB hL (fun b hb=>hp b (List.mem_append_left _ hb)) h1,RelL.borrow hB hL (fun b hb=>hp b (List.mem_append_right _ hb)) h2,rfl⟩
end
mutual
theorem fS:∀x:PV,(x.mapF Fl.borrow).has Fl.isOwn=false
 | .non | .bl _ | .int _ | .str _=>rfl
 | .lst f xs=>by simp only[PV.mapF,PV.has,borrow_ownL xs,Bool.or_false];cases f<;>rfl
 | .tup xs=>by simp only[PV.mapF,PV.has,borrow_ownL xs]
 | .obj f c ks xs=>by simp only[PV.mapF,PV.has,borrow_ownL xs,Bool.or_false];cases f<;>rfl
 | .exc _=>rfl
theorem borrow_ownL:∀xs:List PV,hasL Fl.isOwn (mapL Fl.borrow xs)=false
 | []=>rfl
 | x::xs=>by simp only[mapL,hasL,fS x,borrow_ownL xs,Bool.or_false]
end
def ItC(T:Tb)(F B L:Addr->Prop)(H1:Hp)(J:It)(xs:List PV):Prop :=
 ∀H2,Ext H1 H2->(∀(i:Nat) x,xs[i]?=some x->J.go i H2/\∀v H3,J.yld i H2 v H3->Ext H2 H3/\∃f,(∀a∈f,∃o,H1 a=some o)/\Rel T F B L H3 x v f)/\J.stop xs.length H2
theorem ItC.of0(h:∀H2,Ext H1 H2->(∀(i:Nat) x,xs[i]?=some x->J.go i H2/\∀v H3,J.yld i H2 v H3->H3=H2/\∃f,Rel T F B L H1 x v f)/\J.stop xs.length H2):ItC T F B L H1 J xs:=fun H2 hk=>by
 obtain⟨a,b⟩:=h H2 hk
 refine⟨fun i x e=>⟨(a i x e).1,fun v H3 hy=>?_⟩,b⟩
 obtain⟨rfl,f,r⟩:=(a i x e).2 v H3 hy
 exact⟨Ext.refl,f,fun a ha=>r.there a ha,r.ext hk fun _ h=>h⟩
def GIc(T:Tb)(W:Nat->St->Hp->Prop)(B F L:Addr->Prop)(σ:St)(H:Hp)(R:It->Hp->Prop):Res (List PV)->Prop
 | .ok xs=>∀J H1 F1,Gr F H F1 H1->ItC T F1 B L H1 J xs->R J H1
 | .exc c=>∀H',Ext H H'->W c σ H'
 | .stuck=>False
def tIc(T:Tb)(W:Nat->St->Hp->Prop)(m:MI):TI:=fun σ H R=>∃Z F env fp,ap T Z F H σ env fp/\GIc T W Z.B F (Own fp) σ H R (m env)
abbrev SIc(X:Cx)(T:Tb)(W:Nat->St->Hp->Prop)(tg iter:Expr)(m:MI):Prop:=PI X tg iter (tIc T W m)
def eJ(m:ME):MI:=fun env=>(m env).bind fun x=>match aO x with
 | some xs=>.ok xs
 | none=>.stuck
section
variable{X:Cx}{T:Tb}{W:Nat->St->Hp->Prop}{Z:Zn}{F F1 B L:Addr->Prop}{H H1:Hp}{σ:St}{env:En}{fp:Nat->List Addr}{D:Ends}
theorem fe(hK:X.K=T.K)(he:SE X T W e m):SIc X T W tg e (eJ m):=fun pins s σ H R I h=>kg he pins s σ H R I (by
 obtain⟨Z,F,env,fp,S,q⟩:=h
 unfold eJ at q
 refine tE.bind S (fun c e=>by rw[e]at q;exact q) (fun e=>by rw[e]at q;exact q) fun x v H1 F1 f1 e1 g1 r1 n1 d1 w1=>?_
 rw[e1]at q
 simp only[Res.ok_bind]at q
 cases es:aO x with
 | none=>rw[es]at q;exact q.elim
 | some xs =>
  rw[es]at q
  obtain⟨a,vs,f',rfl,hs,hr,_⟩:=r1.seq es
  refine⟨a,rfl,?_⟩
  rw[hK]
  rcases hs with hs | hs
  ·refine .inl ⟨vs,hs,q _ H1 F1 g1 (ItC.of0 fun H2 hx=>?_)⟩
   have h2:SqL T.K H2 a vs:=by
    rcases hs with z | z
    ·exact .inl (Rd.tr (fun o q=>hx a o q) z)
    ·exact .inr z
   refine⟨fun i x ex=>?_,⟨vs,h2,by rw[hr.length];exact Nat.le_refl _⟩⟩
   obtain⟨v,f,ev,rv,_⟩:=hr.get ex
   refine⟨⟨vs,v,h2,ev⟩,fun w H3 hy=>⟨hy.1,f,?_⟩⟩
   have:=hy.2 vs h2
   rw[ev]at this
   cases this
   exact rv
  ·refine .inr ⟨vs,hs,q _ H1 F1 g1 (ItC.of0 fun H2 hx=>?_)⟩
   have h2:SqT T.K H2 a vs:=SqT.tr (fun o q _=>hx a o q) hs
   refine⟨fun i x ex=>?_,⟨vs,h2,by rw[hr.length];exact Nat.le_refl _⟩⟩
   obtain⟨v,f,ev,rv,_⟩:=hr.get ex
   refine⟨⟨vs,v,h2,ev⟩,fun w H3 hy=>⟨hy.1,f,?_⟩⟩
   have:=hy.2 vs h2
   rw[ev]at this
   cases this
   exact rv)
theorem uc:ItC T F1 B L H1 (Itr lo n) (cA lo n):=by
 apply ItC.of0
 intro H2 _
 refine⟨fun i x ex=>?_,by simp[cA,Itr]⟩
 have hi:i < n:=by
  have:=(List.getElem?_eq_some_iff.mp ex).1
  simpa[cA]using this
 refine⟨hi,fun v H3 hy=>⟨hy.1,[],?_⟩⟩
 obtain⟨_,rfl⟩:=hy
 have:x=.int (lo+(i:Nat)):=by
  simp[cA,hi]at ex
  exact ex.symm
 subst this
 exact d6
theorem bt(hg:Gl X "range")(hm:X.mg "range" = none)(ha:SA X T W [a] ms)(hs:starEach [a] X.env=[(false,eval a X.env)]:=by rfl):SIc X T W tg (.Call (.Name "range" p) [a] [] pos) (bx ms):=fun pins s σ H R I h=>jP hg hm ha hs pins s σ H R I (by
 obtain⟨Z,F,env,fp,S,q⟩:=h
 unfold bx at q
 refine tA.bind S (fun c e=>by rw[e]at q;exact q) (fun e=>by rw[e]at q;exact q) fun xs vs H1 F1 f1 e1 g1 r1 n1 d1 w1=>?_
 rw[e1]at q
 simp only[Res.ok_bind]at q
 split at q
 ·rename_i n
  split at q
  ·rename_i hc
   obtain⟨v,rfl,r2⟩:=r1.one
   unfold Rel at r2
   obtain⟨rfl,_⟩:=r2
   have hc':-(2 ^ 62)<= n/\n < 2 ^ 62:=by simpa[inR]using hc
   exact⟨n,rfl,hc'.1,hc'.2,q _ H1 F1 g1 uc⟩
  ·exact q.elim
 ·exact q.elim)
abbrev WF:Nat->St->Hp->Prop:=fun _ _ _=>False
def STs(X:Cx)(T:Tb)(W:Nat->St->Hp->Prop)(ifs:List Expr)(m:MT):Prop :=
 ∀(pins:List (Addr×Obj)) (s:Shared) (σ:St) (H:Hp) (Q:Bool->Hp->Prop),L2.Inv X pins σ H s->tT T W m σ H Q ->
  wpAny (model X.prog X.w) X.A (forIn ifs true fun c r=>if r=true then do let ok <- isTrue c X.env (eval c X.env);pure (ForInStep.yield ok)else pure (ForInStep.yield r)) (TP X pins σ Q) X.xe s
def bI:MT:=fun _=>.ok true
theorem b8:STs X T W [] bI:=fun pins s σ H Q I ⟨Z,F,env,fp,S,q⟩=>wpAny_tests_nil ⟨H,I,q H F (Gr.refl S.hp.ft)⟩
theorem fV(h:ST X T W c m):STs X T W [c] m:=fun pins s σ H Q I q=>wpAny_tests_one (h pins s σ H Q I q)
structure fT(g:TgM)(k:Nat):Prop where
 keep:∀x env e',g x env=some e'->e'.length=env.length/\∀j < k,e'[j]?=env[j]?
 own:∀x env e',g x env=some e'->x.has Fl.isOwn=false->∀(j:Nat) pv,e'[j]?=some (some pv)->env[j]?=some (some pv)\/ pv.has Fl.isOwn=false
structure Ar(g:nu)(k:Nat):Prop where
 keep:∀x env e',g x env=some e'->e'.length=env.length/\∀j < k,e'[j]?=env[j]?
 own:∀x env e',g x env=some e'->hasL Fl.isOwn x=false->∀(j:Nat) pv,e'[j]?=some (some pv)->env[j]?=some (some pv)\/ pv.has Fl.isOwn=false
theorem p_(h:k<=i):fT (tgN i) k:=by
 refine⟨fun x env e' e=>?_,fun x env e' e hx j pv hj=>?_⟩
 ·unfold tgN at e
  split at e
  ·cases e
   exact⟨by simp,fun j hj=>List.getElem?_set_ne (by omega)⟩
  ·cases e
 ·unfold tgN at e
  split at e
  ·cases e
   by_cases hij:i=j
   ·subst hij
    have hl:i < env.length:=by
     have:=(List.getElem?_eq_some_iff.mp hj).1
     simpa using this
    rw[List.getElem?_set_self hl]at hj
    cases hj
    exact .inr hx
   ·rw[List.getElem?_set_ne hij]at hj
    exact .inl hj
  ·cases e
def bK(caps:List Nat)(k:Nat)(env:En):En:=caps.map (fun i=>((env[i]?).join).map PV.borrow)++ List.replicate k none
def bO(g:TgM)(mc:MT)(me:ME)(env:En):List PV->Res (List PV)
 | []=>.ok []
 | x::xs=>match g x.borrow env with
  | none=>.stuck
  | some e=>(mc e).bind fun b=>if b then(me e).bind fun y=>if y.has Fl.isBor||y.has Fl.isLnt then .stuck else(bO g mc me env xs).bind fun ys=>.ok (y::ys)else bO g mc me env xs
def bv(caps:List Nat)(k:Nat)(mi:MI)(g:TgM)(mc:MT)(me:ME):ME:=fun env=>(mi env).bind fun xs=>if xs.length <= 10000000 then (match bO g mc me (bK caps k env) xs with
 | .ok ys=>.ok (.lst .own ys)
 | _=>.stuck)else .stuck
end
section
variable{prog:Program}{w:World}{A:Around}{R:Result->Shared->Prop}{s:Shared}
theorem gy(I:Nat->Shared->Prop)
  (turn:∀ n s,I n s->wpAny (model prog w) A (pyNext it) (fun r s₁=>match r with
   | none=>R (.ok .next) s₁
   | some v=>wpAny (model prog w) A (letOwnedTupleGo target it v) (fun _ s₁'=>wpAny (model prog w) A (assign target env v) (fun _ s₂ =>
     wpAny (model prog w) A (forIn ifs true fun c r=>if r=true then do let ok <- isTrue c env (eval c env);pure (ForInStep.yield ok) else pure (ForInStep.yield r)) (fun ok s₃ =>
      if ok=true then wpAny (model prog w) A (eval elt env) (fun x s₄ =>
       wpAny (model prog w) A (call (.builtin "list.append") [acc,x]) (fun _ s₅=>∃m,m < n/\I m s₅) (notedBy (model prog w) A env fun e s'=>R (.error e) s') s₄) (notedBy (model prog w) A env fun e s'=>R (.error e) s') s₃
      else ∃m,m < n/\I m s₃) (notedBy (model prog w) A env fun e s'=>R (.error e) s') s₂) (notedBy (model prog w) A env fun e s'=>R (.error e) s') s₁') (notedBy (model prog w) A env fun e s'=>R (.error e) s') s₁) (notedBy (model prog w) A env fun e s'=>R (.error e) s') s)
  (n:Nat) (h:I n s) :
  codeAny (model prog w) A (.compLoop (.ListComp elt [⟨target,iter,ifs,0⟩] scope pos) 0 it acc env) R s:=by
 refine codeAny_loop rfl I (fun n s hI=>?_) n h
 show wpAny _ A ((compTurn (.ListComp elt [⟨target,iter,ifs,0⟩] scope pos) 0 it acc env).onRaise (fun x=>do noteFrame x env;theTreesLotGoes x)) _ _ s
 refine wpAny_noted ?_
 rw[compTurn_list]
 refine wpAny_bind (wpAny_standAt (wpAny_bind (wpAny_mono (turn n s hI) (fun r s₁ h₁=>?_) fun _ _ h'=>h')))
 cases r with
 | none=>exact wpAny_pure h₁
 | some v =>
  refine wpAny_bind (wpAny_mono h₁ (fun _ s₁' h₁'=>?_) fun _ _ h'=>h')
  refine wpAny_bind (wpAny_mono h₁' (fun _ s₂ h₂=>wpAny_bind (wpAny_mono h₂ (fun ok s₃ h₃=>?_) fun _ _ h'=>h')) fun _ _ h'=>h')
  cases ok with
  | false=>exact wpAny_pure ⟨rfl,h₃⟩
  | true =>
   exact wpAny_bind (wpAny_bind (wpAny_mono h₃ (fun x s₄ h₄=>wpAny_bind (wpAny_mono h₄ (fun _ s₅ h₅=>wpAny_pure (wpAny_pure ⟨rfl,h₅⟩)) fun _ _ h'=>h')) fun _ _ h'=>h'))
end
end PR
namespace L2
open PySem PySem.Spec
end L2
namespace PR
open PySem PySem.Spec L2
section
variable{X:Cx}{T:Tb}{W:Nat->St->Hp->Prop}{Z:Zn}{F F1 B L:Addr->Prop}{H H1:Hp}{σ:St}{env:En}{fp:Nat->List Addr}{D:Ends}
theorem ap.wk(S:ap T Z F H σ env fp)(hpin:Z.pin=none)(hl:e2.length=env.length)(h:∀(i:Nat) pv,e2[i]?=some (some pv)->env[i]?=some (some pv)):ap T Z F H σ e2 fp :=
 ⟨S.hp,S.len.trans hl.symm,fun i pv e=>S.rel i pv (h i pv e),S.nd,S.dj,S.dis,S.new,S.ch,fun v hv=>by rw[hpin]at hv;cases hv⟩
theorem ap.noOwn(S:ap T Z F H σ env fp)(h:∀(i:Nat) pv,env[i]?=some (some pv)->pv.has Fl.isOwn=false):ap T Z F H σ env (fun _=>[]) :=
 ⟨S.hp,S.len,fun i pv e=>by
  obtain⟨v,h1,h2⟩:=S.rel i pv e
  have:=Rel.noOwn (h i pv e) h2
  rw[this]at h2
  exact⟨v,h1,h2⟩,fun _=>List.nodup_nil,fun _ _ _ _ z=>(nomatch z),fun _ _ z=>(nomatch z),fun _ _ z=>(nomatch z),fun _ _ z=>(nomatch z),S.pn⟩
theorem ap.updD(S:ap T Z F H σ env (fun _=>[]))(hF:¬F Dd)(h0:Z.H0 Dd=none)(hD:H Dd=some o)(hfx:¬e9 o):ap T Z F (upd H Dd o') σ env (fun _=>[]):=by
 have ne:∀a u,H a=some u->(F a\/Z.B a\/NoL a\/e9 u)->a≠Dd:=fun a u e h z=>by
  subst z
  rcases h with h | h | h | h
  ·exact hF h
  ·obtain⟨⟨u',e'⟩,_⟩:=S.hp.bo _ h
   rw[h0]at e';cases e'
  ·exact h
  ·rw[hD]at e;cases e;exact hfx h
 refine⟨⟨S.hp.bo,fun a u e n=>?_,S.hp.f0,S.hp.fn,fun a h=>?_⟩,S.len,fun i pv e=>?_,S.nd,S.dj,fun _ _ z=>(nomatch z),S.new,fun _ _ z=>(nomatch z),S.pn⟩
 ·have:a≠Dd:=fun z=>by rw[z,h0]at e;cases e
  rw[ar this]
  exact S.hp.keep a u e n
 ·obtain⟨u,e⟩:=S.hp.ft a h
  exact⟨u,by rw[ar (show a≠Dd from fun z=>hF (by rw[<- z];exact h))];exact e⟩
 ·obtain⟨v,h1,h2⟩:=S.rel i pv e
  refine⟨v,h1,Rel.tr (fun _ h=>h) (fun _ h=>h) (fun _ h=>h) (fun a u q h=>?_) (fun _ z=>(nomatch z)) h2⟩
  rw[ar (ne a u q h)]
  exact q
def zC(F:Addr->Prop)(H:Hp):Zn:=⟨H,F,fun _=>False,fun a=>∃o,H a=some o,none⟩
theorem j4(S:ap T Z F H σ env fp)(hD:H Dd=none)(hFD:¬F Dd) :
  ap T (zC F H) F (upd H Dd (.lst [])) (jq caps k σ) (bK caps k env) (fun _=>[]):=by
 have ext:Ext H (upd H Dd (.lst [])):=Ext.upd hD
 refine⟨⟨fun a h=>⟨h,fun z=>z⟩,fun a o h _=>ext a o h,fun _ h=>h,fun _ h=>.inl h,fun a h=>let⟨o,e⟩:=S.hp.ft a h;⟨o,ext a o e⟩⟩,by simp[jq,bK],fun i pv e=>?_,fun _=>List.nodup_nil,fun _ _ _ _ z=>(nomatch z),fun _ _ z=>(nomatch z),fun _ _ z=>(nomatch z),fun _ _ z=>(nomatch z),fun _ h=>(nomatch h)⟩
 unfold bK at e
 unfold jq
 by_cases hi:i < caps.length
 ·rw[List.getElem?_append_left (by simpa using hi),List.getElem?_map]at e ⊢
  obtain⟨j,hj,e2⟩:=Option.map_eq_some_iff.mp e
  rw[hj]
  obtain⟨pv0,e3,rfl⟩:=Option.map_eq_some_iff.mp e2
  have e4:env[j]?=some (some pv0):=by
   cases e5:env[j]? with
   | none=>rw[e5]at e3;cases e3
   | some w=>rw[e5]at e3;simp only[Option.join_some]at e3;rw[e3]
  obtain⟨v,h1,h2⟩:=S.rel j pv0 e4
  refine⟨v,by simp[h1],?_⟩
  refine Rel.borrow (B:=fun a=>∃o,H a=some o) (L:=NoL) (fun _ h=>h) (fun _ h=>h.elim) (fun a ha=>(S.dis j a ha).2) ?_
  exact Rel.tr (fun _ h=>h) (fun a h=>let⟨⟨o,h1⟩,h2⟩:=S.hp.bo a h;⟨o,S.hp.keep a o h1 h2⟩) (fun _ h=>h) (fun a o q _=>ext a o q) (fun a _ o q=>ext a o q) h2
 ·rw[List.getElem?_append_right (by simpa using hi),List.getElem?_replicate]at e
  split at e<;>cases e
set_option maxHeartbeats 1000000 in
theorem j3
  (cs:bQ X scope caps N tn) (hc:X.calm=true) (hi:SIc X T W tg iter mi) (hk:fT g caps.length)
  (hb:∀C s H ex,SG (cxC X scope C N s H ex) T tg g/\STs (cxC X scope C N s H ex) T WF ifs mc/\SE (cxC X scope C N s H ex) T WF elt me)
  (hs:∀x,foldedSetIterable iter X.env x=pure x) (I:L2.Inv X pins σ H s) (h:tE T W (bv caps tn.length mi g mc me) σ H Q)
  (hfin:∀(Dd C:Addr) (H':Hp) (s6:Shared) (m:Str->Option Value),Q (.ref Dd) H'->L2.Inv X pins σ H' s6->s6.heap.Ns C m->H' C=none->C≠X.env.locals->C∉X.fs->X.s₀.heap.objs.size<=C->(∀x c,X.env.cells.lookup x=some c->c≠C)->(∀p∈X.pn++pins,p.1≠C)->compPost (model X.prog X.w) X.A X.xe use Q' (.ref Dd) C (.ok .next) s6) :
  wpAny (model X.prog X.w) X.A (comprehension (.ListComp elt [⟨tg,iter,ifs,0⟩] scope pos) scope X.env p' (newList []) false (eval iter X.env) use) Q' X.xe s:=by
 obtain⟨Z,F,env,fp,S,q⟩:=h
 unfold bv at q
 refine wpAny_comprehension_free (use:=use) rfl hs (fI fun y hy hf=>I.ok.has y.1 (cs.free y hy hf)) cs.kind cs.names ?_
 refine thn (hi pins s σ H (fun J H1=>∃F1 xs,mi env=.ok xs/\Gr F H F1 H1/\ItC T F1 Z.B (Own fp) H1 J xs) I ⟨Z,F,env,fp,S,?_⟩) fun xv s1 h1=>thn h1 fun itv s2 h2=>?_
 ·cases em:mi env with
  | ok xs=>exact fun J H1 F1 g1 it=>⟨F1,xs,rfl,g1,it⟩
  | exc c | stuck=>rw[em]at q;exact q
 obtain⟨it,fpi,tn_,J,H2,rfl,I2,Tn,st2,f2,F1,xs,em,g1,itc⟩:=h2
 rw[em]at q
 simp only[Res.ok_bind]at q
 split at q
 case isFalse=>exact q.elim
 rename_i hlen
 cases ec:bO g mc me (bK caps tn.length env) xs with
 | exc c | stuck=>rw[ec]at q;exact q.elim
 | ok full =>
 rw[ec]at q
 dsimp only at q
 have S2:=S.grow g1
 have hlt:∀b∈fpi,b < s2.heap.objs.size:=fun b hb=>by
  obtain⟨o,ho,_⟩:=Tn.obj 0 _ st2 b hb
  exact Heap.lt_size ho
 refine PySem.wpAny_newObj_type (hV fun h₁ hns₁ hsb₁ hcl₁=>?_)
 dsimp only at hns₁ hsb₁ hcl₁ ⊢
 generalize hH2:s2.heap.push { cls:=.type "list", dict:=none,data:=.seq ([]:List Value).toArray }=P2 at hns₁ hsb₁ hcl₁ ⊢
 have hC:P2.objs.size=s2.heap.objs.size+1:=by rw[<- hH2,Heap.size_push]
 have old:∀b o,s2.heap.get? b=some o->h₁.get? b=some o:=fun b o e=>hsb₁ b o (hH2▸Heap.get?_push_of_some _ e)
 have hDo:h₁.get? s2.heap.objs.size=some { cls:=.type "list", data:=.seq ([]:List Value).toArray }:=hsb₁ _ _ (hH2▸Heap.get?_push_size _ rfl)
 rw[hC]at hns₁ hcl₁
 have inv0:=ly (t:=s2.toks) cs I2 f2 hlt hns₁ hDo old hcl₁
 have hDH:H2 s2.heap.objs.size=none:=I2.hok.fresh (Nat.le_refl _)
 have hDF:¬F1 s2.heap.objs.size:=fun z=>by obtain⟨o,e⟩:=g1.dom _ z;rw[hDH]at e;cases e
 have SB:=j4 (caps:=caps) (k:=tn.length) S2 hDH hDF
 obtain⟨hgN,hts,hel⟩:=hb (s2.heap.objs.size+1) s2 H2 fpi
 have never:∀{α:Type}{t:Sem α}{Qa:α->Shared->Prop}{E':Value->Shared->Prop}{s':Shared},wpAny (model X.prog X.w) X.A t Qa (fun _ _=>False) s'->wpAny (model X.prog X.w) X.A t Qa E' s':=fun h=>wpAny_mono h (fun _ _ x=>x) fun _ _ z=>z.elim
 have fpok:∀{H':Hp}{pins':List (Addr×Obj)},(∀p∈pins',p.1∉fpi)->(∀b∈fpi,H' b=none)->∀b∈fpi,ij (cxC X scope (s2.heap.objs.size+1) N s2 H2 fpi) pins' H' b:=fun {H' pins'} hp hn b hb=>by
  refine⟨hn b hb,Nat.ne_of_lt (Nat.lt_succ_of_lt (hlt b hb)),(jh cs I2 f2 hlt (Nat.le_succ _)).exfs b hb,.inl hb,((jh cs I2 f2 hlt (Nat.le_succ _)).exf b hb).2,fun p hp' z=>?_⟩
  rcases List.mem_append.mp hp' with w | w
  ·exact absurd (show p ∈([]:List (Addr×Obj))from w) (by simp)
  ·exact hp p w (z▸hb)
 have key:∀s4:Shared,L2.Inv (cxC X scope (s2.heap.objs.size+1) N s2 H2 fpi) [] (jq caps tn.length σ) (upd H2 s2.heap.objs.size (.lst [])) s4->tn_ 0 s4.heap ->
   codeAny (model X.prog X.w) X.A (.compLoop (.ListComp elt [⟨tg,iter,ifs,0⟩] scope pos) 0 (.ref it) (.ref s2.heap.objs.size) (compEnvC scope (kE X scope (s2.heap.objs.size+1)) (s2.heap.objs.size+1) X.env))
    (compPost (model X.prog X.w) X.A X.xe use Q' (.ref s2.heap.objs.size) (s2.heap.objs.size+1)) s4:=by
  intro s4 inv4 st4
  refine gy (fun n s'=>∃ (i:Nat) (σ':St) (H':Hp) (Fi:Addr->Prop) (ys zs:List PV) (vs:List V) (f:List Addr),n=xs.length - i/\i <= xs.length/\L2.Inv (cxC X scope (s2.heap.objs.size+1) N s2 H2 fpi) [] σ' H' s'/\tn_ i s'.heap/\(∀ b ∈ fpi,H' b=none) /\
   ap T (zC F1 H2) Fi H' σ' (bK caps tn.length env) (fun _=>[])/\H' s2.heap.objs.size=some (.lst vs)/\RelL T Fi Z.B (Own fp) H' ys vs f/\f.Nodup/\(∀a∈f,¬Fi a/\H2 a=none/\a≠s2.heap.objs.size)/\¬Fi s2.heap.objs.size/\ys.length<=i /\
   bO g mc me (bK caps tn.length env) (xs.drop i)=.ok zs/\full=ys++zs) ?_ xs.length ?_
  case refine_2 =>
   refine⟨0,_,_,F1,[],full,[],[],by simp,Nat.zero_le _,inv4,st4,fun b hb=>?_,SB,aH,by unfold RelL;exact⟨rfl,rfl⟩,List.nodup_nil,fun _ z=>(nomatch z),hDF,Nat.zero_le _,ec,rfl⟩
   rw[ar (Nat.ne_of_lt (hlt b hb))]
   exact(f2 b hb).1
  rintro n s5 ⟨i,σ',H',Fi,ys,zs,vs,f,rfl,hil,inv5,st5,fr5,SI5,hD5,ry,nd5,nf5,nFD,hyl,ecl,efull⟩
  have ext5:Ext H2 H':=fun a o e=>SI5.hp.keep a o e fun z=>z
  have gr5:Gr F1 H2 Fi H':=⟨ext5,SI5.hp.f0,fun a h=>by
   rcases SI5.hp.fn a h with z | z | z
   ·exact .inl z
   ·exact .inr z
   ·exact z.elim,SI5.hp.ft⟩
  obtain⟨go,stop⟩:=itc H' ext5
  by_cases hlt5:i < xs.length
  ·have hx:xs[i]?=some xs[i]:=by simp[hlt5]
   obtain⟨g5,yl⟩:=go i _ hx
   rw[List.drop_eq_getElem_cons hlt5]at ecl
   unfold bO at ecl
   cases eg:g xs[i].borrow (bK caps tn.length env)with
   | none=>rw[eg]at ecl;cases ecl
   | some e' =>
   rw[eg]at ecl
   dsimp only at ecl
   refine thn (Tn.item (cxC X scope (s2.heap.objs.size+1) N s2 H2 fpi) rfl rfl rfl hc i [] s5 σ' H' _ inv5 (fpok (fun _ z=>absurd z (by simp)) fr5) st5 g5) fun r s6 ⟨u,hr,h6⟩=>?_
   subst hr
   refine thn h6 fun _ s7 ⟨v,H7,inv7,rv,yy,st7,fr7⟩=>?_
   obtain⟨ex7,fx,tx,rx⟩:=yl v H7 yy
   replace SI5:=SI5.grow (Gr.same SI5.hp.ft ex7)
   replace ry:=ry.ext ex7 fun _ h=>h
   replace hD5:=ex7 _ _ hD5
   replace gr5:=gr5.trans (Gr.same gr5.dom ex7)
   replace ext5:=gr5.ext
   have pinv:=inv7.pinned (fpok (fun _ z=>absurd z (by simp)) fr7) (Tn.obj _ _ st7)
   have rxb:Rel T Fi (zC F1 H2).B NoL H7 xs[i].borrow v []:=by
    refine Rel.borrow (B:=fun a=>∃o,H2 a=some o) (L:=Own fp) (fun _ h=>h) (fun a ⟨j,hj⟩=>(S2.dis j a hj).2) (fun a ha=>tx a ha) ?_
    exact Rel.tr SI5.hp.f0 (fun a h=>let⟨⟨o,h1⟩,h2⟩:=S2.hp.bo a h;⟨o,S2.hp.keep a o h1 h2⟩) (fun _ h=>h) (fun a o q _=>q) (fun a _ o q=>q) rx
   refine never (thn (hgN _ s7 σ' H7 v u (fun σ8 H8=>H8=H7/\∃fp8,ap T (zC F1 H2) Fi H7 σ8 e' fp8) pinv rv ⟨zC F1 H2,Fi,bK caps tn.length env,fun _=>[],xs[i].borrow,[],SI5,rxb,pY.nil,?_⟩) fun _ s8 ⟨σ8,H8,inv8,e8,fp8,S8⟩=>?_)
   ·rw[eg]
    exact fun σ8 fp8 S8=>⟨rfl,fp8,S8⟩
   subst e8
   obtain⟨kl,kk⟩:=hk.keep _ _ _ eg
   have capOwn:∀(j:Nat) pv,(bK caps tn.length env)[j]?=some (some pv)->pv.has Fl.isOwn=false:=fun j pv ej=>by
    unfold bK at ej
    by_cases hj:j < caps.length
    ·rw[List.getElem?_append_left (by simpa using hj),List.getElem?_map]at ej
     obtain⟨jj,_,e2⟩:=Option.map_eq_some_iff.mp ej
     obtain⟨pv0,_,rfl⟩:=Option.map_eq_some_iff.mp e2
     exact fS pv0
    ·rw[List.getElem?_append_right (by simpa using hj),List.getElem?_replicate]at ej
     split at ej<;>cases ej
   have S8':ap T (zC F1 H2) Fi H8 σ8 e' (fun _=>[]):=S8.noOwn fun j pv ej=>by
    rcases hk.own _ _ _ eg (fS _) j pv ej with z | z
    ·exact capOwn j pv z
    ·exact z
   have back:∀{F9:Addr->Prop}{H9:Hp},ap T (zC F1 H2) F9 H9 σ8 e' (fun _=>[])->ap T (zC F1 H2) F9 H9 σ8 (bK caps tn.length env) (fun _=>[]):=fun S9=>S9.wk rfl kl.symm fun j pv ej=>by
    have hj:j < caps.length:=by
     by_cases hj:j < caps.length
     ·exact hj
     ·unfold bK at ej
      rw[List.getElem?_append_right (by simpa using hj),List.getElem?_replicate]at ej
      split at ej<;>cases ej
    rw[kk j hj]
    exact ej
   have pinback:∀{H9:Hp}{s9:Shared},L2.Inv (cxC X scope (s2.heap.objs.size+1) N s2 H2 fpi) ([]++ gK fpi s7.heap) σ8 H9 s9->L2.Inv (cxC X scope (s2.heap.objs.size+1) N s2 H2 fpi) [] σ8 H9 s9/\tn_ (i+1) s9.heap/\∀b∈fpi,H9 b=none:=fun {H9 s9} i9 =>
    ⟨i9.unpinned,Tn.keep _ _ _ st7 fun b hb o e=>(i9.pin (b,o) (List.mem_append_right _ (List.mem_append_right _ (cI hb e)))).1,fun b hb=>by
     obtain⟨o,e,_⟩:=Tn.obj _ _ st7 b hb
     exact(i9.pin (b,o) (List.mem_append_right _ (List.mem_append_right _ (cI hb e)))).2.1⟩
   cases emc:mc e' with
   | exc c | stuck=>rw[emc]at ecl;cases ecl
   | ok bb =>
   rw[emc]at ecl
   simp only[Res.ok_bind]at ecl
   refine never (thn (hts _ s8 σ8 H8 (fun b H9=>b=bb/\∃F9,Gr Fi H8 F9 H9) inv8 ⟨zC F1 H2,Fi,e',fun _=>[],S8',?_⟩) fun ok s9 ⟨H9,inv9,eb,F9,g9⟩=>?_)
   ·rw[emc]
    exact fun H9 F9 g9=>⟨rfl,F9,g9⟩
   subst eb
   have S9:=S8'.grow g9
   have ry9:=ry.ext g9.ext g9.mono
   have nf9:∀a∈f,¬F9 a:=fun a ha z=>by
    rcases g9.only a z with z | z
    ·exact(nf5 a ha).1 z
    ·obtain⟨o,e⟩:=ry.there a ha
     rw[e]at z;cases z
   have nFD9:¬F9 s2.heap.objs.size:=fun z=>by
    rcases g9.only _ z with z | z
    ·exact nFD z
    ·rw[hD5]at z;cases z
   cases ok with
   | false =>
    simp only[Bool.false_eq_true,if_false]at ecl ⊢
    obtain⟨i10,st10,fr10⟩:=pinback inv9
    exact⟨xs.length - (i+1),by omega,i+1,σ8,H9,F9,ys,zs,vs,f,rfl,hlt5,i10,st10,fr10,back S9,g9.ext _ _ hD5,ry9,nd5,fun a ha=>⟨nf9 a ha,(nf5 a ha).2⟩,nFD9,by omega,ecl,efull⟩
   | true =>
    simp only[if_true]at ecl ⊢
    cases eme:me e' with
    | exc c | stuck=>rw[eme]at ecl;cases ecl
    | ok y =>
    rw[eme]at ecl
    simp only[Res.ok_bind]at ecl
    split at ecl
    case isTrue=>cases ecl
    rename_i hyb
    simp only[Bool.or_eq_true,not_or,Bool.not_eq_true]at hyb
    cases ecr:bO g mc me (bK caps tn.length env) (xs.drop (i+1))with
    | exc c | stuck=>rw[ecr]at ecl;cases ecl
    | ok zs' =>
    rw[ecr]at ecl
    simp only[Res.ok_bind]at ecl
    cases ecl
    refine never (thn (hel _ s9 σ8 H9 (fun v' H10=>∃F10 f10,Gr F9 H9 F10 H10/\Rel T F10 (zC F1 H2).B (Own fun _=>[]) H10 y v' f10/\(∀a∈f10,¬F10 a)/\f10.Nodup/\∀a∈f10,H9 a=none) inv9 ⟨zC F1 H2,F9,e',fun _=>[],S9,?_⟩) fun w s10 ⟨v',H10,inv10,rw10,F10,f10,g10,r10,n10,d10,w10⟩=>?_)
    ·rw[eme]
     exact fun v' H10 F10 f10 g10 r10 n10 d10 w10=>⟨F10,f10,g10,r10,n10,d10,w10⟩
    have hvl:vs.length < sizeLine:=by
     have h1:=ry.length
     have h2:sizeLine=16777216:=sizeLine_eq
     omega
    have hD10:H10 s2.heap.objs.size=some (.lst vs):=g10.ext _ _ (g9.ext _ _ hD5)
    refine never (thn (fh _ s10 σ8 H10 (.ref s2.heap.objs.size) [v'] (.ref s2.heap.objs.size) [w] (fun _ H11=>H11=upd H10 s2.heap.objs.size (.lst (vs++[v']))) inv10 rfl (.cons rw10 .nil) ⟨s2.heap.objs.size,vs,v',rfl,rfl,hD10,hvl,rfl⟩) fun _ s11 ⟨_,H11,inv11,_,e11⟩=>?_)
    subst e11
    obtain⟨i12,st12,fr12⟩:=pinback inv11
    have S10:=S9.grow g10
    have nFD10:¬F10 s2.heap.objs.size:=fun z=>by
     rcases g10.only _ z with z | z
     ·exact nFD9 z
     ·rw[g9.ext _ _ hD5]at z;cases z
    have ry10:=ry9.ext g10.ext g10.mono
    have ryy:RelL T F10 Z.B (Own fp) (upd H10 s2.heap.objs.size (.lst (vs++[v']))) (ys++[y]) (vs++[v']) (f++f10):=by
     have ry1:Rel T F10 Z.B (Own fp) H10 y v' f10:=Rel.noL hyb.2 (Rel.noB (B':=Z.B) hyb.1 r10)
     have all:RelL T F10 Z.B (Own fp) H10 (ys++[y]) (vs++[v']) (f++f10):=RelL.append ry10 (by unfold RelL;exact⟨v',[],f10,[],rfl,ry1,by unfold RelL;exact⟨rfl,rfl⟩,by simp⟩)
     refine RelL.tr (fun _ h=>h) (fun _ h=>h) (fun _ h=>h) (fun a o e h=>?_) (fun a ha o e=>?_) all
     ·refine(ar fun z=>?_).trans e
      subst z
      rcases h with h | h | h | h
      ·exact nFD10 h
      ·obtain⟨⟨o',h1⟩,h2⟩:=S2.hp.bo _ h
       rw[S2.hp.keep _ o' h1 h2]at hDH;cases hDH
      ·obtain⟨j,hj⟩:=h
       obtain⟨_,o',ho'⟩:=S2.dis j _ hj
       rw[hDH]at ho';cases ho'
      ·rw[hD10]at e;cases e;exact h
     ·refine(ar fun z=>?_).trans e
      subst z
      rcases List.mem_append.mp ha with ha | ha
      ·exact(nf5 _ ha).2.2 rfl
      ·have:=w10 _ ha
       rw[g9.ext _ _ hD5]at this;cases this
    have nf10:∀a∈f,¬F10 a:=fun a ha z=>by
     rcases g10.only a z with z | z
     ·exact nf9 a ha z
     ·obtain⟨o,e⟩:=ry9.there a ha
      rw[e]at z;cases z
    refine⟨xs.length - (i+1),by omega,i+1,σ8,_,F10,ys++[y],zs',vs++[v'],f++f10,rfl,hlt5,i12,st12,fr12,back (S10.updD nFD10 hDH hD10 (fun z=>z)),aH,ryy,?_,fun a ha=>?_,nFD10,by simp;omega,ecr,by rw[efull,List.append_assoc];rfl⟩
    ·refine List.nodup_append.mpr ⟨nd5,d10,fun a ha b hb z=>?_⟩
     subst z
     obtain⟨o,e⟩:=ry9.there a ha
     rw[w10 a hb]at e;cases e
    ·rcases List.mem_append.mp ha with ha | ha
     ·exact⟨nf10 a ha,(nf5 a ha).2⟩
     ·refine⟨n10 a ha,?_,fun z=>?_⟩
      ·have:=w10 a ha
       exact ext5.free (g9.ext.free this)
      ·subst z
       have:=w10 _ ha
       rw[g9.ext _ _ hD5]at this;cases this
  ·have e:i=xs.length:=by omega
   subst e
   rw[List.drop_length]at ecl
   unfold bO at ecl
   cases ecl
   rw[List.append_nil]at efull
   subst efull
   refine thn (Tn.done (cxC X scope (s2.heap.objs.size+1) N s2 H2 fpi) rfl rfl rfl hc xs.length [] s5 σ' H' _ inv5 (fpok (fun _ z=>absurd z (by simp)) fr5) st5 stop) fun r s6 ⟨hr,inv6⟩=>?_
   subst hr
   obtain⟨m,hn,_⟩:=id inv6.loc
   have hlc:X.env.locals < s2.heap.objs.size+1:=Nat.lt_succ_of_lt I2.lt
   have iX:L2.Inv X pins σ H' s6:=I2.call' inv6.os inv6.base inv6.hok inv6.bare fun b hb=>⟨(f2 b hb).2.2.2.1,(f2 b hb).2.1,(f2 b hb).2.2.2.2.1,(f2 b hb).2.2.2.2.2⟩
   refine hfin _ (s2.heap.objs.size+1) H' s6 m ?_ iX hn inv6.free (Nat.ne_of_gt hlc) (I2.nofs (Nat.le_succ _)) (Nat.le_trans I2.sz (Nat.le_succ _)) (fun x c e z=>?_) (fun p hp z=>?_)
   case refine_2 =>
    obtain⟨v,hv⟩:=I2.cell x c e
    rw[z]at hv
    exact absurd hv.lt (Nat.not_lt.mpr (Nat.le_succ _))
   case refine_3 =>
    have:=Heap.lt_size (I2.pin p hp).1
    rw[z]at this
    exact absurd this (Nat.not_lt.mpr (Nat.le_succ _))
   refine q (.ref s2.heap.objs.size) H' Fi (s2.heap.objs.size::f) (g1.trans gr5) ?_ (fun a ha=>?_) ?_ (fun a ha=>?_)
   ·unfold Rel
    exact⟨_,vs,f,rfl,hD5,ry,rfl⟩
   ·rcases List.mem_cons.mp ha with rfl | ha
    ·exact nFD
    ·exact(nf5 a ha).1
   ·exact List.nodup_cons.mpr ⟨fun z=>(nf5 _ z).2.2 rfl,nd5⟩
   ·rcases List.mem_cons.mp ha with rfl | ha
    ·exact g1.ext.free hDH
    ·exact g1.ext.free (nf5 a ha).2.1
 have st0:tn_ 0 h₁:=Tn.keep _ _ _ st2 fun b _ o e=>old b o e
 have lp:=key _ inv0 st0
 simp only[hC]
 exact codeAny_compStart_list lp (Tn.self _ 0 _ _ _ st0 lp)
theorem sZ
  (cs:bQ X scope caps N tn) (hc:X.calm=true) (hi:SIc X T W tg iter mi) (hk:fT g caps.length)
  (hb:∀C s H ex,SG (cxC X scope C N s H ex) T tg g/\STs (cxC X scope C N s H ex) T WF ifs mc/\SE (cxC X scope C N s H ex) T WF elt me)
  (hs:∀x,foldedSetIterable iter X.env x=pure x:=by intro _;rfl):SE X T W (.ListComp elt [⟨tg,iter,ifs,0⟩] scope pos) (bv caps tn.length mi g mc me):=by
 intro pins s σ H Q I h
 rw[eval_ListComp]
 refine j3 cs hc hi hk hb hs I h fun Dd C H' s6 m hq iX hn hCn hCl hCf hC0 hCc hCp=>⟨m,hn,fun h' hs'=>⟨.ref Dd,H',?_,rfl,hq⟩⟩
 exact iX.turned (t':=s6.toks) (fun b o hb e=>(hs'.2 b hb).trans e) hCn hCl (.inr hC0) hCc hCp
theorem sQ
  (cs:bQ X scope caps N tn) (hc:X.calm=true) (hN:X.N.Nodup) (hy:X.N[i]?=some y) (hx:Loc X.env.scope y) (hi:SIc X T W tg iter mi) (hk:fT g caps.length)
  (hb:∀C s H ex,SG (cxC X scope C N s H ex) T tg g/\STs (cxC X scope C N s H ex) T WF ifs mc/\SE (cxC X scope C N s H ex) T WF elt me)
  (hsw:swapsWith (.ListComp elt [⟨tg,iter,ifs,0⟩] scope pos) (some (.Name y py)) spos.line X.env=pure true:=by rfl)
  (hs:∀x,foldedSetIterable iter X.env x=pure x:=by intro _;rfl)
  (hf:X.fn y=true\/X.env.scope.names.lookup y=some .local:=by first | exact .inl rfl | exact .inr rfl | assumption) :
  SS X T W (.Assign [.Name y py] (.ListComp elt [⟨tg,iter,ifs,0⟩] scope pos) spos) (aF i (bv caps tn.length mi g mc me)):=by
 intro pins s σ H D I h
 obtain⟨Z,F,env,fp,S,q⟩:=h
 unfold aF at q
 rw[exec_Assign_Name_used _ _ _ _ hsw]
 refine wpAny_bind (wpAny_standAt (wpAny_bind ?_))
 show wpAny _ X.A (do let _ <- comprehension (.ListComp elt [⟨tg,iter,ifs,0⟩] scope pos) scope X.env _ (newList []) false (eval iter X.env) (some (assign (.Name y py) X.env))) _ _ s
 refine wpAny_bind (wpAny_mono (j3 (use:=some (assign (.Name y py) X.env)) (Q':=fun _ s'=>SP X pins D .next s') (Q:=fun v H1=>D.nx (σ.set i (some v)) H1) cs hc hi hk hb hs I ?_ fun Dd C H' s6 m hq iX hn hCn hCl hCf hC0 hCc hCp=>?_) (fun _ s' hq=>wpAny_pure (wpAny_pure hq)) fun _ _ e=>e)
 ·refine tE.bind S (fun c e H' x=>?_) (fun e=>by rw[e]at q;exact q) fun pv v H1 F1 f e g r h1 h2 h3=>?_
  ·rw[e]at q
   exact q F H' σ fp (S.grow (Gr.same S.hp.ft x))
  ·rw[e]at q
   simp only at q
   split at q
   ·rename_i hl
    rw[Bool.and_eq_true]at hl
    exact q F1 H1 _ _ (S.putN g hl.2 r hl.1 h1 h2 h3)
   ·exact q.elim
 ·refine wpAny_assign_Name (jG (v:=.ref Dd) (u:=.ref Dd) iX hN hy hx rfl (fun s7 i7 ⟨a,hsa,ha⟩=>?_) hf)
  have hCa:C≠a:=by
   rcases ha with ha | ha
   ·rw[ha];exact hCl
   ·exact fun z=>hCc y a ha z.symm
  refine⟨m,hn.sameBut hsa hCa,fun h' hs'=>⟨_,H',?_,hq⟩⟩
  exact i7.turned (t':=s7.toks) (fun b o hb e=>(hs'.2 b hb).trans e) hCn hCl (.inr hC0) hCc hCp
end
def GFI(T:Tb)(Z:Zn)(v0:V)(Q:VK)(E:XK):Res PV->Prop
 | .ok pv=>∀F H f,dB T Z F H->Rel T F Z.B NoL H pv v0 f->f.Nodup->(∀a∈f,¬F a)->(∀a∈f,Z.H0 a=none\/Z.fp0 a)->Q .non H
 | .exc c=>∀H,(∀a o,Z.H0 a=some o->¬Z.fp0 a->H a=some o)->E (.ref (T.xcl c)) none H
 | .stuck=>False
def spI(T:Tb)(n:Nat)(m:List PV->Res PV):Sp:=fun vs H Q E=>vs.length=n/\∃v0 pvs F B f,vs[0]?=some v0/\ny T F B H pvs vs f/\(∃fl c ks xs,pvs[0]?=some (.obj fl c ks xs))/\GFI T ⟨H,F,(·∈f),B,some v0⟩ v0 Q E (m pvs)
def iH(n:Nat)(m:MS)(args:List PV):Res PV:=match m (args.map some++List.replicate (n - args.length) none)with
 | .next e=>match e[0]? with
  | some (some o)=>.ok o
  | _=>.stuck
 | .exc c _=>.exc c
 | _=>.stuck
section
variable{P:Program}{w:World}{K:PySem.W.Frag}{mg:Str->Option Value}{base:Heap}{T:Tb}
theorem wJ(F:Fun K x qual st f fd)(S:bP N ps (ao st))
  (body:∀ (cdv:Value) (A:Around) (outer:List Env) (s:Shared) (H:Hp) (E:XK),cz k (A.deeper (PyProof.Rows.envOfC qual (ao st) s.heap.objs.size f cdv)) ->
   SSs (cB (CXP P w) P w K mg base N qual (ao st) f cdv A outer s H E) T (WD T E) (aG st) m):bC P w K mg base (CXP P w) (k+1) f fd ps (spI T ps.length (iH N.length m)):=by
 obtain⟨oc,od,kV,doc,pm,an,cdv,ct,osl,rfl,lk,hcd⟩:=F.ex
 refine oH lk hcd S (fun vs H Q E h=>h.1) fun A outer s H vs Q E hr hsp=>⟨_,body cdv A outer s H E hr,?_⟩
 obtain⟨_,v0,pvs,F,B,fl,hv0,R,hob,q⟩:=hsp
 obtain⟨fp,S0⟩:=g0 N R (some v0) (fun v hv=>by cases hv;exact⟨hv0,hob⟩)
 refine⟨_,F,_,fp,S0,?_⟩
 unfold iH at q
 cases e:m (pvs.map some++List.replicate (N.length - pvs.length) none)with
 | next e' =>
  rw[e]at q
  dsimp only at q
  intro F' H' σ' fp' S'
  obtain⟨h1,_⟩:=S'.pn v0 rfl
  cases e0:e'[0]? with
  | none=>rw[e0]at q;exact q.elim
  | some o0 =>
   cases o0 with
   | none=>rw[e0]at q;exact q.elim
   | some o =>
    rw[e0]at q
    obtain⟨v,h2,r⟩:=S'.rel 0 o e0
    rw[h1]at h2
    cases h2
    exact q F' H' (fp' 0) S'.hp r (S'.nd 0) (fun a ha=>(S'.dis 0 a ha).1) (S'.new 0)
 | ret v | brk e' | cont e'=>rw[e]at q;exact q.elim
 | exc c e'=>rw[e]at q;exact fun F' H' σ' fp' S'=>q H' S'.hp.keep
 | stuck=>rw[e]at q;exact q.elim
end
section
variable{X:Cx}{T:Tb}{W:Nat->St->Hp->Prop}{Z:Zn}{F F1 B L:Addr->Prop}{H H1:Hp}{σ:St}{env:En}{fp:Nat->List Addr}{D:Ends}
theorem vK
  (M:Mk X.K (T.cls c) f) (hcn:c < T.nc) (G:bC X.prog X.w X.K X.mg X.base (CXP X.prog X.w) k f fd ps (spI T ps.length m)) (hr:cz (k+1) X.A) (hb:cE X.K fd ps ds) (hd:aw dvs ds) (hdp:∀F B L H,RelL T F B L H dps dvs []) (hx:XF X T W)
  (S:ap T Z F H σ env fp) (g:Gr F H F1 H1) (r:RelL T F1 Z.B (Own fp) H1 xs vs fx) (nf:∀a∈fx,¬F1 a) (nd:fx.Nodup) (new:∀a∈fx,H a=none) (q:GE T W Z.B F (Own fp) σ H Q (au m (.obj .own c [] []::(xs++dps))))
  (I1:L2.Inv X pins σ H1 s1) (rv:aw vs us) (hlen:vs.length+dvs.length+1=ps.length):wpAny (model X.prog X.w) X.A (call (.ref (T.cls c)) us) (EP X pins σ Q) X.xe s1:=by
 have hxn:H1 (s1.heap.objs.size+1)=none:=I1.hok.fresh (Nat.le_succ _)
 have hdn:H1 s1.heap.objs.size=none:=I1.hok.fresh (Nat.le_refl _)
 have hne:s1.heap.objs.size≠s1.heap.objs.size+1:=Nat.ne_of_lt (Nat.lt_succ_self _)
 generalize hH2:upd (upd H1 s1.heap.objs.size (.own (s1.heap.objs.size+1))) (s1.heap.objs.size+1) (.ins (T.cls c) s1.heap.objs.size [])=H2
 have ext2:Ext H1 H2:=by
  rw[<- hH2]
  exact(Ext.upd hdn).trans (Ext.upd (by rw[ar hne.symm];exact hxn))
 have free2:∀a,H2 a=none->H1 a=none:=fun a h=>ext2.free h
 have hx2:H2 (s1.heap.objs.size+1)=some (.ins (T.cls c) s1.heap.objs.size []):=by rw[<- hH2];exact aH
 have I2:=L2.Inv.made (C:=T.cls c) I1
 rw[hH2]at I2
 have r2:aw (V.ref (s1.heap.objs.size+1)::(vs++dvs)) (Value.ref (s1.heap.objs.size+1)::(us++ds)):=.cons rfl (rv.append hd)
 have hl:(Value.ref (s1.heap.objs.size+1)::us++ds).length=ps.length:=by
  have e:=r2.length
  simp only[List.length_cons,List.length_append]at e hlen ⊢
  omega
 have rr:RelL T F1 Z.B (Own fp) H1 (xs++dps) (vs++dvs) fx:=by
  have:=RelL.append r (hdp F1 Z.B (Own fp) H1)
  rwa [List.append_nil]at this
 have nx:s1.heap.objs.size+1∉fx:=fun z=>by
  obtain⟨o,ho⟩:=r.there _ z
  rw[hxn]at ho;cases ho
 have hBo:∀a,Z.B a->(∃o,H2 a=some o)/\a ∉(s1.heap.objs.size+1)::fx:=fun a h=>by
  obtain⟨⟨o,h1⟩,h2⟩:=S.hp.bo a h
  have h3:=S.hp.keep a o h1 h2
  refine⟨⟨o,ext2 a o (g.ext a o h3)⟩,fun z=>?_⟩
  rcases List.mem_cons.mp z with z | z
  ·rw[z]at h3;rw[g.ext _ _ h3]at hxn;cases hxn
  ·rw[new a z]at h3;cases h3
 have hOw:∀a,Own fp a->(∃o,H2 a=some o)/\a ∉(s1.heap.objs.size+1)::fx:=fun a ⟨i,hi⟩=>by
  obtain⟨_,o,ho⟩:=S.dis i a hi
  refine⟨⟨o,ext2 a o (g.ext a o ho)⟩,fun z=>?_⟩
  rcases List.mem_cons.mp z with z | z
  ·rw[z]at ho;rw[g.ext _ _ ho]at hxn;cases hxn
  ·rw[new a z]at ho;cases ho
 have nF:¬F1 (s1.heap.objs.size+1):=fun z=>by
  obtain⟨o,ho⟩:=g.dom _ z
  rw[hxn]at ho;cases ho
 have R:ny T F1 (fun a=>(∃o,H2 a=some o)/\a ∉(s1.heap.objs.size+1)::fx) H2 (.obj .own c [] []::mapL Fl.toBor (xs++dps)) (.ref (s1.heap.objs.size+1)::(vs++dvs)) ((s1.heap.objs.size+1)::fx):=by
  refine⟨?_,List.nodup_cons.mpr ⟨nx,nd⟩,fun a ha=>?_,fun a h=>h,fun a h=>let⟨o,ho⟩:=g.dom a h;⟨o,ext2 a o ho⟩⟩
  ·unfold RelL
   refine⟨_,_,[s1.heap.objs.size+1],fx,rfl,?_,RelL.toBor hBo hOw (rr.ext ext2 fun _ h=>h),rfl⟩
   unfold Rel
   exact⟨_,s1.heap.objs.size,[],[],rfl,by simpa using hx2,⟨rfl,hcn⟩,by unfold RelL;exact⟨rfl,rfl⟩,rfl,True.intro⟩
  ·rcases List.mem_cons.mp ha with rfl | ha
   ·exact nF
   ·exact nf a ha
 have newx:∀a ∈(s1.heap.objs.size+1)::fx,H a=none:=fun a ha=>by
  rcases List.mem_cons.mp ha with rfl | ha
  ·exact g.ext.free hxn
  ·exact new a ha
 refine wpAny_call (qZ (f:=f) I1.kIn M.makes M.init (beq_iff_eq.mp M.fn) (codeAny_mono (G.run _ X.stack _ _ ⟨Value.ref (s1.heap.objs.size+1)::us,[]⟩ (Value.ref (s1.heap.objs.size+1)::(us ++ ds)) _ (fun v H3=>v=.non/\Q (.ref (s1.heap.objs.size+1)) H3) (fun cls _ H'=>∃ c,cls=.ref (T.xcl c)/\W c σ H') (hr.make (T.cls c) us [])
  (I2.env0.make (T.cls c) us []) (hb _ (Value.ref (s1.heap.objs.size+1)::us) I2.kIn hl) r2 ⟨by rw[r2.length];exact hl,_,_,F1,_,_,rfl,R,⟨.own,c,[],[],rfl⟩,?_⟩) fun rs s' hq'=>?_))
 ·unfold au at q
  have e0:mapL Fl.toBor (PV.obj .own c [] []::(xs++dps))=.obj .own c [] []::mapL Fl.toBor (xs++dps):=by simp[mapL,PV.mapF,Fl.toBor]
  rw[e0]at q
  cases e:m (.obj .own c [] []::mapL Fl.toBor (xs++dps))with
  | ok v =>
   rw[e]at q
   dsimp only at q
   intro F3 H3 f3 hp3 r3 nd3 nf3 new3
   refine⟨rfl,?_⟩
   by_cases hbr:v.has Fl.isBor=true
   ·rw[if_pos hbr]at q;exact q.elim
   ·rw[if_neg hbr]at q
    have hbr':v.has Fl.isBor=false:=by simpa using hbr
    refine q _ H3 F3 f3 ⟨fun a o h=>hp3.keep a o (ext2 a o (g.ext a o h)) fun z=>(by rw[newx a z]at h;cases h),fun a h=>hp3.f0 a (g.mono a h),fun a h=>?_,hp3.ft⟩ ?_ nf3 nd3 fun a ha=>?_
    ·rcases hp3.fn a h with z | z | z
     ·exact g.only a z
     ·exact .inr (g.ext.free (free2 a z))
     ·exact .inr (newx a z)
    ·exact Rel.tr (fun _ h=>h) (fun _ h=>h) (fun _ h=>h.elim) (fun _ _ h _=>h) (fun _ _ _ h=>h) (Rel.noB (B':=Z.B) hbr' r3)
    ·rcases new3 a ha with z | z
     ·exact g.ext.free (free2 a z)
     ·exact newx a z
  | exc c' =>
   rw[e]at q
   exact fun H' h=>⟨c',rfl,q H' fun a o z=>h a o (ext2 a o (g.ext a o z)) fun z'=>by rw[newx a z']at z;cases z⟩
  | stuck=>rw[e]at q;exact q.elim
 ·cases rs with
  | error e =>
   obtain⟨cls,H',fl,c',rfl,hw⟩:=hq'
   exact hx pins σ H2 _ c' H' e s' I2 fl hw
  | ok fl =>
   cases fl with
   | ret u =>
    obtain⟨v,H',I3,rv',ev,q3⟩:=I2.after hq'
    subst ev
    exact⟨rv',⟨V.ref (s1.heap.objs.size+1),H',I3,rfl,q3⟩⟩
   | next | brk | cont=>exact False.elim hq'
theorem sW
  (M:Mk X.K (T.cls c) f) (hcn:c < T.nc) (G:bC X.prog X.w X.K X.mg X.base (CXP X.prog X.w) k f fd ps (spI T ps.length m)) (hr:cz (k+1) X.A) (hg:Gl X x) (hm:X.mg x=some (.ref (T.cls c))) (hb:cE X.K fd ps ds) (hd:aw dvs ds) (hdp:∀F B L H,RelL T F B L H dps dvs []) (hx:XF X T W)
  (hn:dA ms n) (hps:n+dvs.length+1=ps.length) (ha:SA X T W (e::es) ms)
  (hdb:(x ==("__debug__" : Str))=false:=by decide) (he:starEach (e::es) X.env=(false,eval e X.env)::starEach es X.env:=by rfl) (hpl:(backTo pos (starEach es X.env)).any (·.1)=false:=by rfl) :
  SE X T W (.Call (.Name x p) (e::es) [] pos) (am (fun xs=>au m (.obj .own c [] []::(xs++dps))) ms):=by
 intro pins s σ H Q I h
 obtain⟨Z,F,env,fp,S,q⟩:=h
 unfold am at q
 refine wpAny_Call_Name_kw (el I hg hm ?_ hdb)
 refine PySem.W.callWith_K (h₀:=X.base) I.ok.mod.kin M.kp (thn (ha pos pins s σ H (fun vs H1=>∀ us s1,L2.Inv X pins σ H1 s1->aw vs us->wpAny (model X.prog X.w) X.A (call (.ref (T.cls c)) us) (EP X pins σ Q) X.xe s1) I
  (tA.bind S (fun c e=>by rw[e]at q;exact q) (fun e=>by rw[e]at q;exact q) fun xs vs H1 F1 f1 e1 g1 r1 n1 d1 w1 us s1 I1 rv=>?_)) fun us s1 ⟨vs,H1,I1,r,q1⟩=>⟨I1.kIn,q1 us s1 I1 r⟩) he hpl
 rw[e1]at q
 exact vK M hcn G hr hb hd hdp hx S g1 r1 n1 d1 w1 q I1 rv (by rw[<- r1.length,hn env xs e1];exact hps)
theorem ap.mut(S:ap T Z F H σ env fp)(hi:i < env.length)(hv:σ[i]?=some (some v))(ha:a∈fp i)(r:Rel T F Z.B NoL (upd H a o') pv' v f')(nd:f'.Nodup)(nf:∀b∈f',¬F b)
  (new:∀b∈f',Z.H0 b=none\/Z.fp0 b) (dj:∀b∈f',∀j,j≠i->b∉fp j) (ho:i=0->cK env=true->∃fl c ks xs,pv'=.obj fl c ks xs):ap T Z F (upd H a o') σ (env.set i (some pv')) (aV fp i f'):=by
 obtain⟨oa,hoa,hch⟩:=S.ch i a ha
 have nFa:¬F a:=(S.dis i a ha).1
 have nBa:¬Z.B a:=fun z=>S.bow a z ⟨i,ha⟩
 have ne:∀b u,H b=some u->(F b\/Z.B b\/NoL b\/e9 u)->b≠a:=fun b u e h z=>by
  subst z
  rcases h with h | h | h | h
  ·exact nFa h
  ·exact nBa h
  ·exact h
  ·rw[hoa]at e
   cases e
   cases oa with
   | lst _ | ins _ _ _=>exact h
   | _=>exact hch
 have nz:∀b u,Z.H0 b=some u->¬Z.fp0 b->b≠a:=fun b u e n z=>by
  subst z
  rcases S.new i _ ha with w | w
  ·rw[e]at w;cases w
  ·exact n w
 have nj:∀j,j≠i->∀b∈fp j,b≠a:=fun j hj b hb z=>by
  subst z
  exact S.dj j i hj _ hb ha
 refine⟨⟨S.hp.bo,fun b u e n=>by rw[ar (nz b u e n)];exact S.hp.keep b u e n,S.hp.f0,S.hp.fn,fun b h=>?_⟩,by rw[List.length_set,S.len],fun j pv e=>?_,fun j=>?_,fun j k hjk b hb=>?_,fun j b hb=>?_,fun j b hb=>?_,fun j b hb=>?_,fun w hw=>?_⟩
 ·obtain⟨u,e⟩:=S.hp.ft b h
  exact⟨u,by rw[ar (show b≠a from fun z=>nFa (by rw[<- z];exact h))];exact e⟩
 ·by_cases hj:j=i
  ·subst hj
   rw[List.getElem?_set_self hi]at e
   cases e
   refine⟨v,hv,?_⟩
   unfold aV
   rw[if_pos rfl]
   exact r
  ·rw[List.getElem?_set_ne (Ne.symm hj)]at e
   obtain⟨w,h1,h2⟩:=S.rel j pv e
   refine⟨w,h1,?_⟩
   unfold aV
   rw[if_neg hj]
   exact Rel.tr (fun _ h=>h) (fun _ h=>h) (fun _ h=>h) (fun b u q h=>by rw[ar (ne b u q h)];exact q) (fun b hb u q=>by rw[ar (nj j hj b hb)];exact q) h2
 ·unfold aV;split
  ·exact nd
  ·exact S.nd j
 ·unfold aV at hb ⊢
  by_cases h1:j=i
  ·subst h1
   rw[if_pos rfl]at hb
   rw[if_neg (Ne.symm hjk)]
   exact dj b hb k (Ne.symm hjk)
  ·rw[if_neg h1]at hb
   by_cases h2:k=i
   ·subst h2
    rw[if_pos rfl]
    exact fun z=>dj b z j h1 hb
   ·rw[if_neg h2]
    exact S.dj j k hjk b hb
 ·unfold aV at hb
  by_cases h1:j=i
  ·rw[if_pos h1]at hb;exact⟨nf b hb,r.there b hb⟩
  ·rw[if_neg h1]at hb
   obtain⟨n,u,e⟩:=S.dis j b hb
   exact⟨n,u,by rw[ar (nj j h1 b hb)];exact e⟩
 ·unfold aV at hb
  by_cases h1:j=i
  ·rw[if_pos h1]at hb;exact new b hb
  ·rw[if_neg h1]at hb;exact S.new j b hb
 ·unfold aV at hb
  by_cases h1:j=i
  ·rw[if_pos h1]at hb;exact r.chg b hb
  ·rw[if_neg h1]at hb
   obtain⟨u,e,c⟩:=S.ch j b hb
   exact⟨u,by rw[ar (nj j h1 b hb)];exact e,c⟩
 ·obtain⟨h1,h2⟩:=S.pn w hw
  refine⟨h1,?_⟩
  by_cases hi0:i=0
  ·obtain⟨fl,c,ks,xs,e⟩:=ho hi0 h2
   subst hi0 e
   unfold cK
   rw[List.getElem?_set_self hi]
  ·unfold cK at h2 ⊢
   rw[List.getElem?_set_ne hi0]
   exact h2
def eO(i k:Nat)(e:ME):MS:=fun env=>match e env with
 | .ok v=>(match env[i]? with
  | some (some (.obj .own c ks vs))=>if v.noLnt&&!ks.contains k&&decide (ks.length < 900)then .next (env.set i (some (.obj .own c (ks++[k]) (vs++[v]))))else .stuck
  | _=>.stuck)
 | .exc c=>.exc c env
 | .stuck=>.stuck
theorem k6:∀{ks:List Nat}{ws:List V},ks.contains k=false->ks.length=ws.length->d_ (T.att k) y ((ks.map T.att).zip ws)=((ks++[k]).map T.att).zip (ws++[y])
 | [],[],_,_=>rfl
 | j::ks,w::ws,h,hl=>by
  simp only[List.contains_cons,Bool.or_eq_false_iff,beq_eq_false_iff_ne]at h
  show d_ (T.att k) y ((T.att j,w)::(ks.map T.att).zip ws)=(T.att j,w)::((ks++[k]).map T.att).zip (ws++[y])
  unfold d_
  rw[if_neg (fun z=>h.1 (T.inj _ _ z).symm),k6 h.2 (by simpa using hl)]
 | [],_::_,_,hl | _::_,[],_,hl=>by simp at hl
theorem vt(hK:X.K=T.K)(hf:T.att k=f)(hc:∀c < T.nc,Cls T.K (T.cls c))(hn:∀c < T.nc,cX T.K (T.cls c) f)(hN:X.N[i]?=some x)(hv:Vis X.env.scope x)(he:SE X T W e m)
  (hs:swapsWith e (some (.Attribute (.Name x px) f pos')) pos.line X.env=pure false:=by rfl) (hd:(x ==("__debug__" : Str))=false:=by decide) (hcd:(x ==("__classdict__" : Str))=false:=by decide) :
  SS X T W (.Assign [.Attribute (.Name x px) f pos'] e pos) (eO i k m):=PS.wk (vU (pos:=pos) (pos':=pos') (bM (pos:=px) hN hv hd hcd) he hs) fun D σ H ⟨Z,F,env,fp,S,q⟩=>by
 unfold eO at q
 refine tE.bind S (fun c e H' x=>?_) (fun e=>by rw[e]at q;exact q) fun pv v H1 F1 f1 e g r h1 h2 h3=>?_
 ·rw[e]at q
  exact q F H' σ fp (S.grow (Gr.same S.hp.ft x))
 ·rw[e]at q
  dsimp only at q
  split at q
  ·rename_i c ks vs eo
   split at q
   ·rename_i hcnd
    simp only[Bool.and_eq_true,Bool.not_eq_true',decide_eq_true_eq]at hcnd
    obtain⟨⟨hln,hkn⟩,hkl⟩:=hcnd
    have S1:=S.grow g
    obtain⟨vo,ho1,ho2⟩:=S1.rel i _ eo
    have ho3:=ho2
    unfold Rel at ho3
    obtain⟨a,dx,ws,fp',rfl,hl,hk,hr,hfl,_⟩:=ho3
    have hfl':fp i=a::fp':=hfl
    have hil:i < env.length:=(List.getElem?_eq_some_iff.mp eo).1
    refine⟨_,ho1,a,_,dx,_,rfl,hl,by rw[hK];exact hc c hk.2,by rw[hK];exact hn c hk.2,?_,?_⟩
    ·have:=hr.length
     rw[List.length_zip,List.length_map]
     omega
    ·rw[<- hf,k6 hkn (by rw[<- hr.length];exact hk.1)]
     have ha:a∈fp i:=by rw[hfl'];exact List.mem_cons_self
     have nd:(a::fp').Nodup:=by rw[<- hfl'];exact S1.nd i
     have old:∀b∈f1,∀j,b∉fp j:=fun b hb j hj=>by
      obtain⟨_,o,e⟩:=S.dis j b hj
      rw[h3 b hb]at e;cases e
     have hrv:Rel T F1 Z.B NoL H1 pv v f1:=Rel.noL (by simpa[PV.noLnt]using hln) r
     have nea:∀b u,H1 b=some u->(F1 b\/Z.B b\/NoL b\/e9 u)->b≠a:=fun b u e h z=>by
      subst z
      rcases h with h | h | h | h
      ·exact(S1.dis i _ ha).1 h
      ·exact S1.bow _ h ⟨i,ha⟩
      ·exact h
      ·rw[hl]at e;cases e;exact h
     refine q F1 _ σ _ (S1.mut (f':=a::(fp'++f1)) hil ho1 ha ?_ ?_ (fun b hb=>?_) (fun b hb=>?_) (fun b hb j hj=>?_) fun _ _=>⟨_,_,_,_,rfl⟩)
     ·unfold Rel
      have hrr:RelL T F1 Z.B NoL H1 (vs++[pv]) (ws++[v]) (fp'++f1):=RelL.append hr (by unfold RelL;exact⟨v,[],f1,[],rfl,hrv,by unfold RelL;exact⟨rfl,rfl⟩,by simp⟩)
      refine⟨a,dx,ws++[v],fp'++f1,rfl,aH,⟨by simp[hk.1],hk.2⟩,?_,rfl,True.intro⟩
      refine RelL.tr (fun _ h=>h) (fun _ h=>h) (fun _ h=>h) (fun b u e h=>by rw[ar (nea b u e h)];exact e) (fun b hb u e=>?_) hrr
      refine(ar fun z=>?_).trans e
      subst z
      rcases List.mem_append.mp hb with hb | hb
      ·exact(List.nodup_cons.mp nd).1 hb
      ·exact old _ hb i ha
     ·refine List.nodup_cons.mpr ⟨fun z=>?_,List.nodup_append.mpr ⟨(List.nodup_cons.mp nd).2,h2,fun b hb b' hb' z=>?_⟩⟩
      ·rcases List.mem_append.mp z with z | z
       ·exact(List.nodup_cons.mp nd).1 z
       ·exact old _ z i ha
      ·subst z
       exact old b hb' i (by rw[hfl'];exact List.mem_cons_of_mem _ hb)
     ·rcases List.mem_cons.mp hb with rfl | hb
      ·exact(S1.dis i _ ha).1
      ·rcases List.mem_append.mp hb with hb | hb
       ·exact(S1.dis i b (by rw[hfl'];exact List.mem_cons_of_mem _ hb)).1
       ·exact h1 b hb
     ·rcases List.mem_cons.mp hb with rfl | hb
      ·exact S1.new i _ ha
      ·rcases List.mem_append.mp hb with hb | hb
       ·exact S1.new i b (by rw[hfl'];exact List.mem_cons_of_mem _ hb)
       ·exact S.hp.newE h3 b hb
     ·rcases List.mem_cons.mp hb with rfl | hb
      ·exact fun z=>S1.dj i j (Ne.symm hj) _ ha z
      ·rcases List.mem_append.mp hb with hb | hb
       ·exact fun z=>S1.dj i j (Ne.symm hj) b (by rw[hfl'];exact List.mem_cons_of_mem _ hb) z
       ·exact old b hb j
   ·exact q.elim
  ·exact q.elim
theorem ap.mutL{i:Nat}{xs ys:List PV}{ws us:List V}{a:Addr}{v:V}{f' fp':List Addr}(S:ap T Z F H σ env fp)(eo:env[i]?=some (some (.lst .own xs)))(hv:σ[i]?=some (some (.ref a)))(hfp:fp i=a::fp')(r:RelL T F Z.B NoL H ys us f')(nd:f'.Nodup)
  (hf:∀b∈f',(b∈fp')\/(¬F b/\(Z.H0 b=none\/Z.fp0 b)/\∀j,b∉fp j)) (hl:H a=some (.lst ws)):ap T Z F (upd H a (.lst us)) σ (env.set i (some (.lst .own ys))) (aV fp i (a::f')):=by
 have ha:a∈fp i:=by rw[hfp];exact List.mem_cons_self
 have ndi:(a::fp').Nodup:=by rw[<- hfp];exact S.nd i
 have sub:∀b∈fp',b∈fp i:=fun b hb=>by rw[hfp];exact List.mem_cons_of_mem _ hb
 have na:∀b∈f',b≠a:=fun b hb z=>by
  subst z
  rcases hf _ hb with h | h
  ·exact(List.nodup_cons.mp ndi).1 h
  ·exact h.2.2 i ha
 have hil:i < env.length:=(List.getElem?_eq_some_iff.mp eo).1
 have nea:∀b u,H b=some u->(F b\/Z.B b\/NoL b\/e9 u)->b≠a:=fun b u e h z=>by
  subst z
  rcases h with h | h | h | h
  ·exact(S.dis i _ ha).1 h
  ·exact S.bow _ h ⟨i,ha⟩
  ·exact h
  ·rw[hl]at e;cases e;exact h
 refine S.mut hil hv ha ?_ (List.nodup_cons.mpr ⟨fun z=>na a z rfl,nd⟩) (fun b hb=>?_) (fun b hb=>?_) (fun b hb j hj=>?_) fun h0 h1=>?_
 ·unfold Rel
  exact⟨a,us,f',rfl,aH,RelL.tr (fun _ h=>h) (fun _ h=>h) (fun _ h=>h) (fun b u e h=>by rw[ar (nea b u e h)];exact e) (fun b hb u e=>by rw[ar (na b hb)];exact e) r,rfl⟩
 ·rcases List.mem_cons.mp hb with rfl | hb
  ·exact(S.dis i _ ha).1
  ·rcases hf b hb with h | h
   ·exact(S.dis i b (sub b h)).1
   ·exact h.1
 ·rcases List.mem_cons.mp hb with rfl | hb
  ·exact S.new i _ ha
  ·rcases hf b hb with h | h
   ·exact S.new i b (sub b h)
   ·exact h.2.1
 ·rcases List.mem_cons.mp hb with rfl | hb
  ·exact fun z=>S.dj i j (Ne.symm hj) _ ha z
  ·rcases hf b hb with h | h
   ·exact fun z=>S.dj i j (Ne.symm hj) b (sub b h) z
   ·exact h.2.2 j
 ·subst h0
  unfold cK at h1
  rw[eo]at h1
  cases h1
theorem ap.lst{i:Nat}{xs:List PV}(S:ap T Z F H σ env fp)(eo:env[i]?=some (some (.lst .own xs))):∃a ws fp',σ[i]?=some (some (.ref a))/\H a=some (.lst ws)/\RelL T F Z.B NoL H xs ws fp'/\fp i=a::fp':=by
 obtain⟨v,h1,h2⟩:=S.rel i _ eo
 unfold Rel at h2
 obtain⟨a,ws,fp',rfl,hl,hr,hf⟩:=h2
 exact⟨a,ws,fp',h1,hl,hr,hf⟩
theorem ap.beside{f1:List Addr}(S:ap T Z F H σ env fp)(g:Gr F H F1 H1)(h1:∀ a ∈ f1,¬ F1 a)(h3:∀ a ∈ f1,H a=none):∀ b ∈ f1,¬ F1 b/\(Z.H0 b=none \/ Z.fp0 b)/\∀ j,b ∉ fp j:=fun b hb=>⟨h1 b hb,S.hp.newE h3 b hb,fun j hj=>by
 obtain⟨_,o,e⟩:=S.dis j b hj
 rw[h3 b hb]at e;cases e⟩
def bY(i:Nat)(e:ME):MS:=fun env=>match e env with
 | .ok v=>(match env[i]? with
  | some (some (.lst .own xs))=>if v.noLnt&&decide (xs.length < 10000000)then .next (env.set i (some (.lst .own (xs++[v]))))else .stuck
  | _=>.stuck)
 | .exc c=>(match env[i]? with
  | some (some (.lst .own _))=>.exc c env
  | _=>.stuck)
 | .stuck=>.stuck
theorem o3{i:Nat}{x:Str}{e:Expr}{m:ME}{pos px apos cpos:Pos}(hK:X.K=T.K)(hN:X.N[i]?=some x)(hv:Vis X.env.scope x)(he:SE X T W e m)
  (hs:swapsWith (.Call (.Attribute (.Name x px) "append" apos) [e] [] cpos) none pos.line X.env=pure false:=by rfl) (hst:starEach [e] X.env=[(false,eval e X.env)]:=by rfl)
  (hfew:((backTo cpos (starEach [e] X.env)).all (fun x=>!x.1)&&(backToKw cpos (keywordEach [] X.env)).all (fun x=>x.1.isSome)&&decide ([e].length+([]:List Keyword).length+(if([]:List Keyword).isEmpty then 0 else 1) < 30))=true:=by rfl)
  (hline:(apos.endLine==cpos.line)=true:=by rfl) (hd:(x ==("__debug__" : Str))=false:=by decide) (hcd:(x ==("__classdict__" : Str))=false:=by decide) :
  SS X T W (.Expr (.Call (.Attribute (.Name x px) "append" apos) [e] [] cpos) pos) (bY i m) :=
 PS.wk (ff (pos:=pos) (uS (cpos:=cpos) (apos:=apos) PySem.F.plainAttrs_list PySem.F.slot_list_append PySem.F.type_list_append fh (bM (pos:=px) hN hv hd hcd) (ac he ag hst) rfl hfew hline hst) hs) fun D σ H ⟨Z,F,env,fp,S,q⟩=>by
  unfold bY at q
  cases em:m env with
  | stuck=>rw[em]at q;exact q.elim
  | exc c =>
   rw[em]at q
   dsimp only at q
   split at q
   ·rename_i xs eo
    obtain⟨a,ws,fp',h1,hl,hr,hf⟩:=S.lst eo
    refine⟨_,h1,.inl ⟨rfl,ws,by rw[hK];exact SqL.of hl⟩,Z,F,env,fp,S,?_⟩
    unfold ae
    rw[em]
    exact fun H' x=>q F H' σ fp (S.grow (Gr.same S.hp.ft x))
   ·exact q.elim
  | ok v =>
   rw[em]at q
   dsimp only at q
   split at q
   ·rename_i xs eo
    split at q
    ·rename_i hc
     simp only[Bool.and_eq_true,decide_eq_true_eq]at hc
     obtain⟨a,ws,fp',h1,hl,hr,hf⟩:=S.lst eo
     refine⟨_,h1,.inl ⟨rfl,ws,by rw[hK];exact SqL.of hl⟩,Z,F,env,fp,S,?_⟩
     unfold ae aj
     rw[em]
     intro vs H1 F1 f1 g r n1 d1 w1
     obtain⟨u,rfl,ru⟩:=r.one
     have S1:=S.grow g
     have hl1:=g.ext a _ hl
     refine⟨a,ws,u,rfl,rfl,hl1,?_,?_⟩
     ·rw[<- hr.length,sizeLine_eq];omega
     ·have rone:RelL T F1 Z.B NoL H1 [v] [u] f1:=by unfold RelL;exact⟨u,[],f1,[],rfl,Rel.noL (by simpa[PV.noLnt]using hc.1) ru,by unfold RelL;exact⟨rfl,rfl⟩,by simp⟩
      refine q F1 _ σ _ (S1.mutL (v:=u) eo h1 hf (RelL.append (hr.ext g.ext g.mono) rone) ?_ (fun b hb=>?_) hl1)
      ·have ndi:(a::fp').Nodup:=by rw[<- hf];exact S.nd i
       refine List.nodup_append.mpr ⟨(List.nodup_cons.mp ndi).2,d1,fun b hb b' hb' z=>?_⟩
       subst z
       exact(S.beside g n1 w1 b hb').2.2 i (by rw[hf];exact List.mem_cons_of_mem _ hb)
      ·rcases List.mem_append.mp hb with hb | hb
       ·exact .inl hb
       ·exact .inr (S.beside g n1 w1 b hb)
    ·exact q.elim
   ·exact q.elim
def gO(i:Nat):MS:=fun env=>match env[i]? with
 | some (some (.lst .own _))=>.next (env.set i (some (.lst .own [])))
 | _=>.stuck
theorem qf{i:Nat}{x:Str}{pos px apos cpos:Pos}(hK:X.K=T.K)(hN:X.N[i]?=some x)(hv:Vis X.env.scope x)
  (hs:swapsWith (.Call (.Attribute (.Name x px) "clear" apos) [] [] cpos) none pos.line X.env=pure false:=by rfl) (hline:(apos.endLine==cpos.line)=true:=by rfl) (hd:(x ==("__debug__" : Str))=false:=by decide) (hcd:(x ==("__classdict__" : Str))=false:=by decide) :
  SS X T W (.Expr (.Call (.Attribute (.Name x px) "clear" apos) [] [] cpos) pos) (gO i) :=
 PS.wk (ff (pos:=pos) (qM (cpos:=cpos) (apos:=apos) PySem.F.plainAttrs_list PySem.F.slot_list_clear PySem.F.type_list_clear lj (bM (pos:=px) hN hv hd hcd) rfl hline) hs) fun D σ H ⟨Z,F,env,fp,S,q⟩=>by
  unfold gO at q
  split at q
  ·rename_i xs eo
   obtain⟨a,ws,fp',h1,hl,hr,hf⟩:=S.lst eo
   refine⟨_,h1,.inl ⟨rfl,ws,by rw[hK];exact SqL.of hl⟩,a,ws,rfl,rfl,hl,?_⟩
   exact q F _ σ _ (S.mutL (v:=.non) (f':=[]) eo h1 hf (by unfold RelL;exact⟨rfl,rfl⟩) List.nodup_nil (fun _ z=>(nomatch z)) hl)
  ·exact q.elim
def e6(i:Nat)(k e:ME):MS:=fun env=>match e env with
 | .ok v=>(match env[i]? with
  | some (some (.lst .own xs))=>(match k env with
   | .ok (.int j)=>(match ixN xs.length j with
    | some n=>if v.noLnt then .next (env.set i (some (.lst .own (xs.set n v))))else .stuck
    | none=>.stuck)
   | _=>.stuck)
  | _=>.stuck)
 | .exc c=>.exc c env
 | .stuck=>.stuck
theorem RelL.set{y:PV}{w:V}{g:List Addr}(ry:Rel T F B L H y w g):∀{xs:List PV}{vs:List V}{f:List Addr} (n:Nat),RelL T F B L H xs vs f->(f++g).Nodup->∃f',RelL T F B L H (xs.set n y) (vs.set n w) f'/\f'.Nodup/\∀b∈f',b∈f\/b∈g
 | [],vs,f,n,h,nd=>by unfold RelL at h;obtain⟨rfl,rfl⟩:=h;exact⟨[],by simp[RelL],List.nodup_nil,fun _ z=>(nomatch z)⟩
 | x::xs,_,_,0,h,nd=>by
  unfold RelL at h
  obtain⟨v,ws,f1,f2,rfl,h1,h2,rfl⟩:=h
  obtain⟨n1,n2,n3⟩:=List.nodup_append.mp nd
  obtain⟨m1,m2,m3⟩:=List.nodup_append.mp n1
  refine⟨g++f2,?_,List.nodup_append.mpr ⟨n2,m2,fun a ha b hb z=>n3 b (List.mem_append_right _ hb) a ha z.symm⟩,fun b hb=>?_⟩
  ·rw[List.set_cons_zero,List.set_cons_zero]
   unfold RelL
   exact⟨w,ws,g,f2,rfl,ry,h2,rfl⟩
  ·rcases List.mem_append.mp hb with hb | hb
   ·exact .inr hb
   ·exact .inl (List.mem_append_right _ hb)
 | x::xs,_,_,n+1,h,nd=>by
  unfold RelL at h
  obtain⟨v,ws,f1,f2,rfl,h1,h2,rfl⟩:=h
  obtain⟨n1,n2,n3⟩:=List.nodup_append.mp nd
  obtain⟨m1,m2,m3⟩:=List.nodup_append.mp n1
  obtain⟨f',r,d,s⟩:=RelL.set ry n h2 (List.nodup_append.mpr ⟨m2,n2,fun a ha b hb=>n3 a (List.mem_append_right _ ha) b hb⟩)
  refine⟨f1++f',?_,List.nodup_append.mpr ⟨m1,d,fun a ha b hb z=>?_⟩,fun b hb=>?_⟩
  ·rw[List.set_cons_succ,List.set_cons_succ]
   unfold RelL
   exact⟨v,_,f1,f',rfl,h1,r,rfl⟩
  ·rcases s b hb with h | h
   ·exact m3 a ha b h z
   ·exact n3 a (List.mem_append_left _ ha) b h z
  ·rcases List.mem_append.mp hb with hb | hb
   ·exact .inl (List.mem_append_left _ hb)
   ·rcases s b hb with h | h
    ·exact .inl (List.mem_append_right _ h)
    ·exact .inr h
theorem fW{i:Nat}{x:Str}{k e:Expr}{mk me:ME}{pos px tpos:Pos}(hN:X.N[i]?=some x)(hv:Vis X.env.scope x)(hk:SE X T W k mk)(he:SE X T W e me)
  (ha:∀ v,assign (.Subscript (.Name x px) k tpos) X.env v=(do
   let ov <- holding [v] (eval (.Name x px) X.env)
   let iv <- holding [v,ov] (eval k X.env)
   standAt tpos
   holding [v,ov,iv] (setItem ov iv v)
   release [v,ov,iv] []):=by intro _;rfl)
  (hs:swapsWithSole [.Subscript (.Name x px) k tpos] e pos.line X.env=pure false:=by rfl) (hw:swappedStores [.Subscript (.Name x px) k tpos] e X.env=pure none:=by rfl)
  (h1:(assignEach [.Subscript (.Name x px) k tpos] X.env).map (·.2)=[assign (.Subscript (.Name x px) k tpos) X.env]:=by rfl) (hd:(x ==("__debug__" : Str))=false:=by decide) (hcd:(x ==("__classdict__" : Str))=false:=by decide) :
  SS X T W (.Assign [.Subscript (.Name x px) k tpos] e pos) (e6 i mk me) :=
 PS.wk (qD (pos:=pos) he (vW (pos:=tpos) (bM (pos:=px) hN hv hd hcd) hk qj ha) hs hw h1) fun D σ H ⟨Z,F,env,fp,S,q⟩=>by
  unfold e6 at q
  refine tE.bind S (fun c e H' x=>?_) (fun e=>by rw[e]at q;exact q) fun pv v H1 F1 f1 e g r n1 d1 w1=>?_
  ·rw[e]at q
   exact q F H' σ fp (S.grow (Gr.same S.hp.ft x))
  ·rw[e]at q
   dsimp only at q
   split at q
   ·rename_i xs eo
    have S1:=S.grow g
    obtain⟨a,ws,fp',h1,hl,hr,hf⟩:=S1.lst eo
    cases ek:mk env with
    | stuck | exc c=>rw[ek]at q;exact q.elim
    | ok kv =>
     rw[ek]at q
     refine⟨_,h1,Z,F1,env,fp,S1,?_⟩
     rw[ek]
     intro u H2 F2 f2 g2 r2 _ _ _
     cases kv with
     | int j =>
      dsimp only at q
      unfold Rel at r2
      obtain⟨rfl,_⟩:=r2
      cases en:ixN xs.length j with
      | none=>rw[en]at q;exact q.elim
      | some n =>
       rw[en]at q
       dsimp only at q
       split at q
       ·rename_i hln
        have S2:=S1.grow g2
        have hr2:=hr.ext g2.ext g2.mono
        have ndi:(a::fp').Nodup:=by rw[<- hf];exact S.nd i
        have g12:=g.trans g2
        have nn:∀b∈f1,¬F2 b:=fun b hb z=>by
         rcases g2.only b z with z | z
         ·exact n1 b hb z
         ·obtain⟨o,ho⟩:=r.there b hb
          rw[ho]at z;cases z
        obtain ⟨f',r',nd',sub'⟩:=RelL.set (T:=T) (Rel.noL (L':=NoL) (by simpa [PV.noLnt] using hln) (r.ext g2.ext g2.mono)) n hr2 (List.nodup_append.mpr ⟨(List.nodup_cons.mp ndi).2,d1,fun b hb b' hb' z=>by
         subst z
         exact(S.beside g12 nn w1 b hb').2.2 i (by rw[hf];exact List.mem_cons_of_mem _ hb)⟩)
        refine⟨a,ws,j,n,rfl,rfl,g2.ext a _ hl,by rw[<- hr.length];exact en,?_⟩
        refine q F2 _ σ _ (S2.mutL (v:=v) eo h1 hf r' nd' (fun b hb=>?_) (g2.ext a _ hl))
        rcases sub' b hb with h | h
        ·exact .inl h
        ·exact .inr (S.beside g12 nn w1 b h)
       ·exact q.elim
     | _=>exact q.elim
   ·exact q.elim
end
def tX(i:Nat):Str:=⟨#[1114112+i]⟩
def gC(l:List Str)(i:Nat):Str:=match l[i]? with
 | some x=>x
 | none=>tX i
def gJ(x:Str):Bool:=x.cps.all fun c=>decide (c < 1114112)
theorem dJ(i:Nat):gJ (tX i)=false:=by
 simp[gJ,tX]
theorem pV(nd:l.Nodup)(h:l.all gJ=true)(i j:Nat)(e:gC l i=gC l j):i=j:=by
 have pl:∀(i:Nat) x,l[i]?=some x->gJ x=true:=fun i x hx=>List.all_eq_true.mp h x (List.mem_of_getElem? hx)
 unfold gC at e
 cases ei:l[i]? with
 | some x =>
  cases ej:l[j]? with
  | some y =>
   rw[ei,ej]at e
   dsimp only at e
   subst e
   obtain⟨h1,e1⟩:=List.getElem?_eq_some_iff.mp ei
   obtain⟨h2,e2⟩:=List.getElem?_eq_some_iff.mp ej
   exact(List.getElem_inj nd).mp (e1.trans e2.symm)
  | none =>
   rw[ei,ej]at e
   dsimp only at e
   have:=pl i x ei
   rw[e,dJ]at this
   cases this
 | none =>
  cases ej:l[j]? with
  | some y =>
   rw[ei,ej]at e
   dsimp only at e
   have:=pl j y ej
   rw[<- e,dJ]at this
   cases this
  | none =>
   rw[ei,ej]at e
   dsimp only at e
   simpa[tX]using e
theorem sA(hp:gJ m=true)(hm:m∉l)(k:Nat):gC l k≠m:=by
 unfold gC
 cases e:l[k]? with
 | some x=>exact fun z=>hm (z▸List.mem_of_getElem? e)
 | none =>
  intro z
  dsimp only at z
  rw[<- z,dJ]at hp
  cases hp
structure Ctx(X:Cx)(T:Tb)(W:Nat->St->Hp->Prop)(k:Nat):Prop where
 hK:X.K=T.K
 calm:X.calm=true
 room:cz k X.A
 xf:XF X T W
 po:PassesOwn (model X.prog X.w) X.A X.env X.xe
theorem Ctx.hu(c:Ctx X T W k):X.A.units+64 < cLine:=c.room.units
theorem Ctx.hu2(c:Ctx X T W k):X.A.units+66 < cLine:=by
 have:=c.room.un
 omega
theorem kC
  (hr:cz k (A.deeper (PyProof.Rows.envOfC qual scope s.heap.objs.size f cd))):Ctx (cB (CXP P w) P w T.K mg base N qual scope f cd A outer s H E) T (WD T E) k:=⟨rfl,rfl,hr,vk,PassesOwn.leaving⟩
theorem Ctx.comp(c:Ctx X T W k):Ctx (cxC X scope C N s H ex) T WF k:=⟨c.hK,c.calm,c.room,fun _ _ _ _ _ _ _ _ _ _ h=>h.elim,PassesOwn.never⟩
def gY(scD scope:Scope)(NX:List Str)(caps:List Nat)(N tn:List Str):Bool :=
 decide (scope.kind=.function)&&scope.names.all (fun y=>decide (y.2=.cell->scope.names.lookup y.1=some .cell))&&scope.names.all (fun y=>decide (y.2=.local->scope.names.lookup y.1=some .local)) &&
 scope.names.all (fun y=>decide (y.2=.free->scD.names.lookup y.1=some .cell\/scD.names.lookup y.1=some .free))&&decide (N=caps.map (fun i=>NX.getD i "")++ tn)&&caps.all (fun i=>decide (i < NX.length)) &&
 caps.all (fun i=>match NX[i]? with | some x=>decide ((x,NameKind.free)∈ scope.names/\scope.names.lookup x=some .free) | none=>false)&&decide N.Nodup
theorem uB(h:gY scD scope NX caps N tn=true)(hs:X.env.scope=scD)(hN:X.N=NX):bQ X scope caps N tn:=by
 simp only[gY,Bool.and_eq_true,decide_eq_true_eq,List.all_eq_true]at h
 obtain⟨⟨⟨⟨⟨⟨⟨h1,h2⟩,h3⟩,h4⟩,h5⟩,h6⟩,h7⟩,h9⟩:=h
 subst hs hN
 refine⟨h1,h2,h3,h4,h5,h6,fun i hi x hx=>?_,h9⟩
 have:=h7 i hi
 rw[hx]at this
 simpa using this
section
variable{X:Cx}{T:Tb}{W:Nat->St->Hp->Prop}
theorem sv(i:Nat)(hN:X.N[i]?=some x:=by rfl)(hv:Vis X.env.scope x:=by first | exact Or.inl rfl | exact Or.inr (Or.inl rfl) | exact Or.inr (Or.inr rfl))(hd:(x ==("__debug__" : Str))=false:=by decide)
  (hcd:(x ==("__classdict__" : Str))=false:=by decide):SE X T W (.Name x pos) (ad i):=vw hN hv hd hcd
def tyP:PV->String
 | .non => "NoneType"
 | .bl _ => "bool"
 | .int _ => "int"
 | .str _ => "str"
 | .lst _ _ => "list"
 | .tup _ => "tuple"
 | _ => ""
def gR(t c:String):Bool:=t==c ||(t=="bool"&&c=="int")
def lc(c:String):PV->Res PV:=fun x=>if tyP x = "" then .stuck else .ok (.bl (gR (tyP x) c))
def kO(m:ME)(c:String):ME:=fun env=>(m env).bind (lc c)
def pW(K:PySem.W.Frag)(c:String):Prop:=∀t∈["NoneType", "bool", "int", "str", "list", "tuple"],PySem.W.kitOne K (.type t) (.type c)=some (gR t c)
theorem ud(hK:X.K=T.K)(hc:pW T.K c)(I:L2.Inv X pins σ H s)(r:Rel T F B L H x v f)(ru:aT v u)(hx:tyP x≠"")
  (h:∀tk,Q (.bool (gR (tyP x) c)) { s with toks:=tk }):wpAny (model X.prog X.w) A (call (.builtin "isinstance") [u,.type c]) Q E s:=by
 have kin:T.K.In s.heap:=by rw[<- hK];exact I.kIn
 cases x with
 | non=>unfold Rel at r;obtain⟨rfl,_⟩:=r;cases ru;exact PySem.W.kia_one PySem.W.kitx_none kin True.intro (hc _ (by simp)) (fun z=>nomatch z) h
 | bl b=>unfold Rel at r;obtain⟨rfl,_⟩:=r;cases ru;exact PySem.W.kia_one PySem.W.kitx_bool kin True.intro (hc _ (by simp)) (fun z=>nomatch z) h
 | int i=>unfold Rel at r;obtain⟨rfl,_⟩:=r;obtain⟨t,rfl⟩:=ru;exact PySem.W.kia_one PySem.W.kitx_int kin True.intro (hc _ (by simp)) (fun z=>nomatch z) h
 | str i=>unfold Rel at r;obtain⟨rfl,_⟩:=r;obtain⟨t,rfl⟩:=ru;exact PySem.W.kia_one PySem.W.kitx_str kin True.intro (hc _ (by simp)) (fun z=>nomatch z) h
 | lst f xs =>
  unfold Rel at r
  obtain⟨a,vs,fp',rfl,hl,hr,_⟩:=r
  cases ru
  obtain⟨its,_,⟨o,n,ho,hcl,_,_⟩,_⟩:=I.list (by rw[hK];exact hl.sq)
  exact PySem.W.kia_one PySem.W.kitx_list kin ⟨_,ho,hcl⟩ (hc _ (by simp)) (fun z=>nomatch z) h
 | tup xs =>
  unfold Rel at r
  obtain⟨a,vs,rfl,hl,hr⟩:=r
  cases ru
  obtain⟨its,_,⟨o,ho,hcl,_⟩,_⟩:=I.tuple (by rw[hK];exact hl)
  exact PySem.W.kia_one PySem.W.kitx_tuple kin ⟨_,ho,hcl⟩ (hc _ (by simp)) (fun z=>nomatch z) h
 | obj f c ks xs | exc c=>exact absurd rfl hx
theorem iF(hK:X.K=T.K)(hc:pW T.K c)(hg:Gl X "isinstance")(hm:X.mg "isinstance" = none)(hb:bootBuiltins "isinstance" = some (.builtin "isinstance"))(hgc:Gl X cn)(hmc:X.mg cn=none)(hvc:bootBuiltins cn=some (.type c))(he:SE X T W e m)
  (hcn:cn≠"__name__" := by decide) (hcd:(cn ==("__debug__" : Str))=false:=by decide) (hst:starEach [e,.Name cn pc] X.env=[(false,eval e X.env),(false,eval (.Name cn pc) X.env)]:=by rfl)
  (hst2:starEach [.Name cn pc] X.env=[(false,eval (.Name cn pc) X.env)]:=by rfl):SE X T W (.Call (.Name "isinstance" p) [e,.Name cn pc] [] pos) (kO m c):=by
 have ht:PE X (.Name cn pc) (tC (.ty c)):=tQ hgc hmc hvc rfl hcn hcd
 have hcall:dC X (.builtin "isinstance") (fun vs H Q=>∃v x F B L f,vs=[v,.ty c]/\Rel T F B L H x v f/\tyP x≠"" /\ Q (.bl (gR (tyP x) c)) H):=by
  intro pins s σ H vs us Q I rv h
  obtain⟨v,x,F,B,L,f,rfl,r,hx,q⟩:=h
  cases rv with
  | cons r1 r2 =>
   cases r2 with
   | cons r3 r4 =>
    cases r4
    cases r3
    exact ud hK hc I r r1 hx fun tk=>⟨.bl _,H,I.tok tk,rfl,q⟩
 have hargs:PA X [e,.Name cn pc] (nD (tE T W m) (nD (tC (.ty c)) sN)):=cq he (cq ht fO hst2) (by rw[hst,hst2])
 refine PE.wk (iS (pos:=pos) (p:=p) hcall hg hm hb hargs (he:=by rw[hst,hst2]) (hpl:=by rw[hst2];rfl)) fun σ H Q ⟨Z,F,env,fp,S,q⟩=>?_
 unfold kO at q
 refine tE.bind S (fun c e=>by rw[e]at q;exact q) (fun e=>by rw[e]at q;exact q) fun x v H1 F1 f1 e1 g1 r1 n1 d1 w1=>?_
 rw[e1]at q
 simp only[Res.ok_bind,lc]at q
 by_cases hx:tyP x = ""
 ·rw[if_pos hx]at q;exact q.elim
 ·rw[if_neg hx]at q
  exact⟨v,x,F1,Z.B,Own fp,f1,rfl,r1,hx,q.scal g1 iM⟩
def q9(f g:PV->PV->Res PV)(a b c:ME):ME:=fun env=>(a env).bind fun x=>(b env).bind fun y=>(f x y).bind fun
 | .bl true=>(c env).bind fun z=>g y z
 | .bl false=>.ok (.bl false)
 | _=>.stuck
end
theorem qm(hg:Gl X x)(hm:X.mg x=some (.int i t))(hd:(x ==("__debug__" : Str))=false:=by decide):SE X T W (.Name x pos) (mC (.int i)) :=
 iE (v:=.int i) (kh hg hm ⟨t,rfl⟩ hd) fun _ _ _ _=>d6
end PR
namespace PR
open PySem PySem.Spec
structure Bg(K:PySem.W.Frag)(C:Addr):Prop where
 ga:PySem.W.findIn K (.ref C) "__getattribute__" = some (some (.builtin "BaseException.__getattribute__"))
 gt:PySem.W.findIn K (.ref C) "__getattr__" = some none
 ca:PySem.W.findIn K (.ref C) "__class__" = some (some (.builtin "object.__class__"))
 sb:PySem.W.mroIn K C (.type "BaseException")=some true
 so:PySem.W.mroIn K C (.type "object")=some true
 cl:(PySem.W.clsIn K C).isSome=true
section
variable{prog:Program}{w:World}{A:Around}{E:Value->Shared->Prop}{h:Heap}{g:Array GenState}{d:Drawn}{t:Nat}{os:OsState}{a C:Addr}{o:Obj}{K:PySem.W.Frag}
end
end PR
namespace L2
open PySem PySem.Spec PyProof.Rows
abbrev Cx.tryX(X:Cx)(E:Value->Shared->Prop)(pn:List (Addr×Obj)):Cx:={ X with xe:=E,pn:=pn }
abbrev Cx.hanX(X:Cx)(e:Value):Cx:={ X with A:=X.A.mark (some e),calm:=false,xe:=fun _ _=>False }
section
variable{X:Cx}{pins pins':List (Addr×Obj)}{σ:St}{H H':Hp}{s:Shared}{E:Value->Shared->Prop}{e:Value}
theorem Inv.tryX(I:Inv X pins σ H s):Inv (X.tryX E (X.pn++pins)) [] σ H s :=
 ⟨⟨I.ok.mod,I.ok.kind,I.ok.glob,I.ok.blt,I.ok.above,I.ok.inj,I.ok.has,I.ok.cab,I.ok.hd,I.ok.frames,I.ok.stk,I.ok.exf,I.ok.bs,I.ok.bsz,I.ok.noex,I.ok.exfs,I.ok.funs,I.ok.frf⟩,
  I.os,I.bare,I.base,I.loc,I.cell,I.free,I.freeC,fun p hp=>I.pin p (by simpa using hp),I.hok,I.len⟩
theorem Inv.untry(I:Inv (X.tryX E (X.pn++pins)) pins' σ H s):Inv X pins σ H s :=
 ⟨⟨I.ok.mod,I.ok.kind,I.ok.glob,I.ok.blt,I.ok.above,I.ok.inj,I.ok.has,I.ok.cab,I.ok.hd,I.ok.frames,I.ok.stk,I.ok.exf,I.ok.bs,I.ok.bsz,I.ok.noex,I.ok.exfs,I.ok.funs,I.ok.frf⟩,
  I.os,I.bare,I.base,I.loc,I.cell,I.free,I.freeC,fun p hp=>I.pin p (List.mem_append_left _ hp),I.hok,I.len⟩
theorem Inv.hanX(I:Inv X pins σ H s):Inv (X.hanX e) pins σ H s :=
 ⟨⟨I.ok.mod,I.ok.kind,I.ok.glob,I.ok.blt,I.ok.above,I.ok.inj,I.ok.has,I.ok.cab,fun z=>(nomatch z),I.ok.frames,I.ok.stk,I.ok.exf,I.ok.bs,I.ok.bsz,I.ok.noex,I.ok.exfs,I.ok.funs,I.ok.frf⟩,
  I.os,I.bare,I.base,I.loc,I.cell,I.free,I.freeC,I.pin,I.hok,I.len⟩
theorem Inv.unhan(ok:X.Ok)(I:Inv (X.hanX e) pins σ H s):Inv X pins σ H s:=⟨ok,I.os,I.bare,I.base,I.loc,I.cell,I.free,I.freeC,I.pin,I.hok,I.len⟩
end
end L2
namespace PR
open PySem PySem.Spec L2
section
variable{X:Cx}{T:Tb}{W:Nat->St->Hp->Prop}{pins:List (Addr×Obj)}{σ:St}{H H':Hp}{s s':Shared}
theorem oB(I:L2.Inv X pins σ H s)(fl:Fly X.prog X.w X.stack H s (.ref C) H' (.ref x) s')(f0:Heap.FlyingW Bh X.stack x (.ref C) a0 s'.heap)
  (tr:∀b o u,H' b=some u->s'.heap.get? b=some o->Bh.get? b=some o) (ol:∀b o o',s'.heap.get? b=some o->s.heap.get? b=some o'->b∉frs X.stack->Bh.get? b=some o)
  (f6:Heap.FlyingW Bh X.stack x (.ref C) a0 h6) (up:s'.heap.UpToSlots h6) (hg:PyProof.Rows.AllBare g) :
  L2.Inv X pins σ (upd H' x (xI C x)) ⟨h6,g,d,t,s'.os⟩/\H' x=none/\s.heap.get? x=none:=by
 obtain⟨oe,he,hc⟩:=f6.there
 obtain⟨o0,he0,_⟩:=f0.there
 have nx:H' x=none:=by
  cases e:H' x with
  | none=>rfl
  | some u =>
   have:=tr x o0 u e he0
   rw[f0.2.1]at this;cases this
 have ns:s.heap.get? x=none:=by
  cases e:s.heap.get? x with
  | none=>rfl
  | some o' =>
   by_cases hx:x∈frs X.stack
   ·obtain⟨_,o,ho,hd⟩:=f0.2.2.1.mem hx
    obtain⟨o1,vs,h1,_,h2,_⟩:=f0.first
    rw[ho]at h1;cases h1
    exact absurd h2 (hd vs)
   ·have:=ol x o0 o' he0 e hx
    rw[f0.2.1]at this;cases this
 have data:∀b o,s.heap.get? b=some o->b∈frs X.stack->∀vs,o.data≠.fields vs:=fun b o e hb vs z=>by
  obtain⟨_,o',ho',hd'⟩:=I.stack.mem hb
  rw[e]at ho';cases ho'
  exact hd' vs z
 have hok:HOk X.prog X.w (upd H' x (xI C x)) h6:=fun b u e=>by
  by_cases hb:b=x
  ·subst hb
   rw[aH]at e;cases e
   exact⟨⟨oe,he,hc⟩,⟨oe,he⟩,fun h1 h2 ⟨o,q1,q2⟩ k=>⟨o,k o q1,q2⟩⟩
  ·rw[ar hb]at e
   have nb:∀c u,H' c=some u->c≠x:=fun c u q z=>by rw[z,nx]at q;cases q
   exact(oI fl.hok tr f6.1 b u e).stay (fun _ _ _ q=>q) (fun c q=>by rw[ar (nb c _ q)];exact q) fun c xs q=>by rw[ar (nb c _ q)];exact q
 refine⟨I.call' (s':=⟨h6,g,d,t,s'.os⟩) (ch:=[]) fl.os ⟨fun b o e n hf _=>?_,fun b o e n hf _=>?_,fun b o e n _=>?_,fun b o e _=>?_,fun b xs e=>?_,fun b o u e=>?_,fun b ps e=>?_⟩ hok hg (fun _ z=>(nomatch z)),nx,ns⟩
 ·have q:=fl.un.keep b o e n hf (by simp)
  exact f6.1 b o (ol b o o q e hf)
 ·obtain⟨sl,q⟩:=fl.un.slot b o e n hf (by simp)
  obtain⟨sl',q'⟩:=up b _ q (data b o e hf)
  exact⟨sl',q'⟩
 ·rw[ar (show b≠x from fun z=>by rw[z,ns]at e;cases e)]
  exact fl.un.free b o e n (by simp)
 ·by_cases hf:b∈frs X.stack
  ·obtain⟨_,o2,ho2,_⟩:=f6.2.2.1.mem hf
   exact⟨o2,ho2⟩
  ·obtain⟨o1,e1⟩:=fl.un.there b o e (by simp)
   exact⟨o1,f6.1 b o1 (ol b o1 o e1 e hf)⟩
 ·have q:=fl.un.tups b xs e
  rw[ar (fun z=>by rw[z,nx]at q;cases q)];exact q
 ·have q:=fl.un.frzs b o u e
  rw[ar (fun z=>by rw[z,nx]at q;cases q)];exact q
 ·obtain⟨more,q⟩:=fl.un.tbls b ps e
  exact⟨more,by rw[ar (fun z=>by rw[z,nx]at q;cases q)];exact q⟩
end
section
variable{X:Cx}{T:Tb}{W:Nat->St->Hp->Prop}{Z:Zn}{F:Addr->Prop}{H:Hp}{σ:St}{env:En}{fp:Nat->List Addr}
end
section
variable{X:Cx}{T:Tb}{W:Nat->St->Hp->Prop}
end
theorem fG(F B L:Addr->Prop)(H:Hp):RelL T F B L H [] [] []:=by unfold RelL;exact⟨rfl,rfl⟩
def fQ(disp:Nat->Option (List PV->Res PV))(o:ME)(ms:MA):ME:=fun env=>(o env).bind fun ov=>match ov with
 | .obj _ c _ _=>match disp c with
  | some m=>(ms env).bind fun xs=>au m (ov::xs)
  | none=>.stuck
 | _=>.stuck
theorem t5(disp:Nat->Option (List PV->Res PV))(o:ME)(ms:MA):oy disp [] o ms=fQ disp o ms:=by
 funext env
 unfold oy fQ
 congr 1
 funext ov
 cases ov with
 | obj f c ks vs=>simp only[List.append_nil,List.cons_append]<;>rfl
 | _=>rfl
def mY(c:Nat)(m:List PV->Res PV)(ms:MA):ME:=am (fun xs=>au m (.obj .own c [] []::xs)) ms
section
variable{X:Cx}{T:Tb}{W:Nat->St->Hp->Prop}
theorem kX
  (G:bC X.prog X.w X.K X.mg X.base (CXP X.prog X.w) k f fd ps (spM T ps.length m)) (cx:Ctx X T W kk) (hk:k<=kk) (hg:Gl X x) (hm:X.mg x=some (.ref f)) (hkp:PySem.W.keepIn X.K (.ref f)=true) (hb:cE X.K fd ps [])
  (hn:dA ms n) (hps:n=ps.length) (ha:SA X T W (e::es) ms)
  (hdb:(x ==("__debug__" : Str))=false:=by decide) (he:starEach (e::es) X.env=(false,eval e X.env)::starEach es X.env:=by rfl) (hpl:(backTo pos (starEach es X.env)).any (·.1)=false:=by rfl) :
  SE X T W (.Call (.Name x p) (e::es) [] pos) (am (au m) ms):=by
 have h:=nP (dvs:=[]) (dps:=[]) (p:=p) (pos:=pos) G (cx.room.mono hk) hg hm hkp hb .nil fG cx.xf (fun env xs q=>by rw[hn env xs q];exact hps) ha hdb he hpl
 simpa using h
theorem vC
  (cx:Ctx X T W kk) (hc:∀c < T.nc,Cls T.K (T.cls c)) (hm:∀k,T.att k≠mn) (D:kL X T k mn ps [] disp) (hk:k<=kk)
  (hn:dA ms n) (hps:n+1=ps.length) (ho:SE X T W o mo) (ha:SA X T W (e::es) ms)
  (hst:starEach (e::es) X.env=(false,eval e X.env)::starEach es X.env:=by rfl) (hpl:(backTo pos (starEach es X.env)).any (·.1)=false:=by rfl)
  (ht:eval (.Call (.Attribute o mn apos) (e::es) [] pos) X.env=(do
   let ov <- eval o X.env
   standAt apos.atName
   let(f,first) <- holding [ov] (getMethod ov mn pl)
   callWith pos f first (backTo pos (starEach (e::es) X.env)) (backToKw pos (keywordEach [] X.env))):=by rfl) :
  SE X T W (.Call (.Attribute o mn apos) (e::es) [] pos) (fQ disp mo ms):=by
 rw[<- t5]
 exact sV (pl:=pl) (dvs:=[]) (dps:=[]) cx.hK hc hm D (cx.room.mono hk) .nil fG cx.xf (fun env xs q=>by rw[hn env xs q];exact hps) ho ha hst hpl ht
theorem vz
  (M:Mk X.K (T.cls c) f) (hcn:c < T.nc) (G:bC X.prog X.w X.K X.mg X.base (CXP X.prog X.w) k f fd ps (spI T ps.length m)) (cx:Ctx X T W kk) (hk:k+1<=kk) (hg:Gl X x) (hm:X.mg x=some (.ref (T.cls c))) (hb:cE X.K fd ps [])
  (hn:dA ms n) (hps:n+1=ps.length) (ha:SA X T W (e::es) ms)
  (hdb:(x ==("__debug__" : Str))=false:=by decide) (he:starEach (e::es) X.env=(false,eval e X.env)::starEach es X.env:=by rfl) (hpl:(backTo pos (starEach es X.env)).any (·.1)=false:=by rfl) :
  SE X T W (.Call (.Name x p) (e::es) [] pos) (mY c m ms):=by
 have h:=sW (dvs:=[]) (dps:=[]) (p:=p) (pos:=pos) M hcn G (cx.room.mono hk) hg hm hb .nil fG cx.xf hn hps ha hdb he hpl
 unfold mY
 simpa using h
end
theorem uq(X:K.In h)(q:PySem.W.excIn K C [.type "ValueError", .type "Exception", .type "BaseException", .type "object"] "ValueError.__new__" = true) :
  ∃bm N nm q bs hdct sn sub ab col dd k0 k1 k2 k3 k5 mN,h.get? C=some (excClassObj nm q C N bs bm hdct sn sub ab col dd k0 k1 k2 k3 k5 "ValueError.__new__")/\h.Ns N mN/\mN "__init__" = none /\
   OwnTail h [.type "ValueError", .type "Exception", .type "BaseException", .type "object"] bm:=by
 unfold PySem.W.excIn at q
 split at q
 ·rename_i dd cd sl ho
  split at q
  ·rename_i C' bm k0 k1 k2 k3 n k5 hm hs
   simp only[Bool.and_eq_true,beq_iff_eq,Bool.not_eq_true']at q
   obtain⟨⟨⟨⟨⟨rfl,rfl⟩,hdel⟩,ht⟩,hok⟩,hni⟩:=q
   cases cd
   cases sl
   dsimp only at hm hdel hok hni hs
   subst hm hdel hs
   exact⟨bm,_,_,_,_,_,_,_,_,_,dd,k0,k1,k2,k3,k5,_,X _ _ ho,.of_isNs (PySem.W.isNs_of_in X hok),PySem.W.nsMap_none_of_in X hok hni,PySem.W.tail_of_in X ht⟩
  ·cases q
 ·cases q
def aQ(c:Nat)(ms:MA):MS:=fun env=>match ms env with
 | .ok _=>.exc c env
 | .exc k=>.exc k env
 | .stuck=>.stuck
theorem oZ(cx:Ctx X T W k)(hm:X.mg x=some (.ref (T.xcl c)))(hB:T.K.In X.base)
  (hE:PySem.W.excIn T.K (T.xcl c) [.type "ValueError", .type "Exception", .type "BaseException", .type "object"] "ValueError.__new__" = true) (hx:XM X T W) (hg:Gl X x) (hn:dA ms n) (hn2:n<=100) (ha:SA X T W (e::es) ms)
  (hd:(x ==("__debug__" : Str))=false:=by decide)
  (he:starEach (e::es) X.env=(false,eval e X.env)::starEach es X.env:=by rfl) (hpl:(backTo cpos (starEach es X.env)).any (·.1)=false:=by rfl) :
  SS X T W (.Raise (some (.Call (.Name x np) (e::es) [] cpos)) none pos) (aQ c ms) :=
 qd (np:=np) (cpos:=cpos) (pos:=pos) ⟨hm,uq hB hE⟩ hx cx.calm hg ha (fun env pvs q=>by rw[hn env pvs q];exact hn2) hd he hpl
structure Scr(fl:Fl):Prop where
 is:fl=.frz\/fl=.mod
theorem Scr.lend(h:Scr fl):fl.lend=fl:=by rcases h.is with rfl | rfl<;>rfl
theorem Scr.toBor(h:Scr fl):fl.toBor=fl:=by rcases h.is with rfl | rfl<;>rfl
theorem Scr.isBor(h:Scr fl):fl.isBor=false:=by rcases h.is with rfl | rfl<;>rfl
theorem Scr.isLnt(h:Scr fl):fl.isLnt=false:=by rcases h.is with rfl | rfl<;>rfl
theorem Scr.isOwn(h:Scr fl):fl.isOwn=false:=by rcases h.is with rfl | rfl<;>rfl
theorem Scr.freeze(h:Scr fl):fl.freeze=fl:=by rcases h.is with rfl | rfl<;>rfl
theorem Scr.borrow(h:Scr fl):fl.borrow=fl:=by rcases h.is with rfl | rfl<;>rfl
theorem gI:∀ns:List Int,RelL T F B L H (ns.map PV.int) (ns.map V.int) []
 | []=>fG _ _ _ _
 | n::ns=>by
  rw[List.map_cons,List.map_cons]
  unfold RelL
  exact⟨_,_,[],[],rfl,d6,gI ns,rfl⟩
def nJ(K:PySem.W.Frag):Sp:=fun vs H Q _=>∃(a:Addr) (ns:List Int),vs=[.ref a]/\SqL K H a (ns.map V.int)/\ns.length<=63/\∀v H',v=.bl true->Q v H'
theorem ww(G:bC P w T.K mg base (CXP P w) k f fd [x] (spM T 1 m))
  (h:∀(fl:Fl) (ns:List Int),Scr fl->ns.length<=63->m [.lst fl (ns.map .int)]=.ok (.bl true)):bC P w T.K mg base (CXP P w) k f fd [x] (nJ T.K):=by
 refine G.imp fun vs H Q E q=>?_
 obtain⟨a,ns,rfl,hS,hl,hQ⟩:=q
 have fin:∀fl,Scr fl->∀Z:Zn,GF T Z Q E (m [.lst fl (ns.map .int)]):=fun fl hf Z=>by
  rw[h fl ns hf hl]
  intro F H' v f' _ r _ _ _
  unfold Rel at r
  exact hQ v H' r.1
 refine⟨rfl,?_⟩
 rcases hS with hS | hS
 ·refine⟨[.lst .frz (ns.map .int)],(·=a),fun _=>False,[],⟨?_,List.nodup_nil,fun _ z=>(nomatch z),fun _ z=>z.elim,fun b hb=>?_⟩,fin _ ⟨.inl rfl⟩ _⟩
  ·unfold RelL
   refine⟨_,_,[],[],rfl,?_,fG _ _ _ _,rfl⟩
   unfold Rel
   exact⟨a,_,[],rfl,⟨rfl,hS⟩,gI ns,rfl,rfl⟩
  ·subst hb
   rcases hS with e |⟨o,e⟩
   ·exact⟨_,e⟩
   ·exact⟨_,e⟩
 ·refine⟨[.lst .mod (ns.map .int)],fun _=>False,fun _=>False,[],⟨?_,List.nodup_nil,fun _ z=>(nomatch z),fun _ z=>z.elim,fun _ z=>z.elim⟩,fin _ ⟨.inr rfl⟩ _⟩
  unfold RelL
  refine⟨_,_,[],[],rfl,?_,fG _ _ _ _,rfl⟩
  unfold Rel
  exact⟨a,_,[],rfl,hS,gI ns,rfl,rfl⟩
theorem rj{l:PySem.W.OpenLaw}{k:Nat}{x:Str}{q:Program}{loose:List Str}{XP:(Str->Option Value)->Heap->Prop}{YP:World->Heap->Prop}{d:DefRec}{K:Params->PySem.W.Frag}(hn:l.most=some 63)(hdf:d.params.defaults=[])(hr:cz k callerA)
  (hY:∀(w:World) (h:Heap),YP w h->(K w.params).In h)
  (F:∀ (w:World) (mg:Str->Option Value) (fa:Addr) (h:Heap),(K w.params).In h->h.Ns mainGlobals mg->mg d.name=some (.ref fa) ->
   ∃fd:FuncData,(∀(s:Shared) (u:Value),BindsTo s fd ⟨[u],[]⟩ [(x,u)])/\∀base:Heap,(K w.params).In base->base.Ns mainGlobals mg->bC l.prog w (K w.params) mg base (CXP l.prog w) k fa fd [x] (nJ (K w.params))) :
  PySem.W.WalkO q loose XP YP l.row.toRowW d [] (fun f vs=>PySem.call f vs) :=
 L2.sJ (n:=63) (k:=k) (x:=x) (CX:=fun w=>CXP l.prog w) (sp:=fun w=>nJ (K w.params)) hn (by decide) hdf hr hY F (fun _ _ a ns hl _ hS=>⟨a,ns,rfl,hS,hl,fun _ _ z=>z⟩) fun _ _ _ _ _ ⟨_,_,_,z⟩=>z
theorem t9:pW K "int" := by
 intro t ht
 simp only[List.mem_cons,List.not_mem_nil,or_false]at ht
 rcases ht with rfl | rfl | rfl | rfl | rfl | rfl<;>kernel_rfl
theorem rn:pW K "bool" := by
 intro t ht
 simp only[List.mem_cons,List.not_mem_nil,or_false]at ht
 rcases ht with rfl | rfl | rfl | rfl | rfl | rfl<;>kernel_rfl
theorem lw:pW K "list" := by
 intro t ht
 simp only[List.mem_cons,List.not_mem_nil,or_false]at ht
 rcases ht with rfl | rfl | rfl | rfl | rfl | rfl<;>kernel_rfl
theorem pH:pW K "tuple" := by
 intro t ht
 simp only[List.mem_cons,List.not_mem_nil,or_false]at ht
 rcases ht with rfl | rfl | rfl | rfl | rfl | rfl<;>kernel_rfl
theorem bX:bootBuiltins "isinstance" = some (.builtin "isinstance"):=by decide +kernel
theorem sh:bootBuiltins "int" = some (.type "int"):=by decide +kernel
theorem uE:bootBuiltins "bool" = some (.type "bool"):=by decide +kernel
theorem gB:bootBuiltins "list" = some (.type "list"):=by decide +kernel
theorem dy:bootBuiltins "tuple" = some (.type "tuple"):=by decide +kernel
def pQ(K:PySem.W.Frag)(C:Addr):Bool :=
 decide (PySem.W.findIn K (.ref C) "__getattribute__" = some (some (.builtin "BaseException.__getattribute__")))&&decide (PySem.W.findIn K (.ref C) "__getattr__" = some none) &&
 decide (PySem.W.findIn K (.ref C) "__class__" = some (some (.builtin "object.__class__")))&&decide (PySem.W.mroIn K C (.type "BaseException")=some true)&&decide (PySem.W.mroIn K C (.type "object")=some true)&&(PySem.W.clsIn K C).isSome &&
 PySem.W.excIn K C [.type "ValueError", .type "Exception", .type "BaseException", .type "object"] "ValueError.__new__"
theorem ur(h:pQ K C=true):Bg K C/\PySem.W.excIn K C [.type "ValueError", .type "Exception", .type "BaseException", .type "object"] "ValueError.__new__" = true:=by
 simp only[pQ,Bool.and_eq_true,decide_eq_true_eq]at h
 obtain⟨⟨⟨⟨⟨⟨h1,h2⟩,h3⟩,h4⟩,h5⟩,h6⟩,h7⟩:=h
 exact⟨⟨h1,h2,h3,h4,h5,h6⟩,h7⟩
def tL(l:List Addr)(i:Nat):Addr:=l.getD i (l.headD 0)
def f_(l:List Bool)(i:Nat):Bool:=l.getD i (l.headD false)
theorem qI{α:Type}{f:Addr->Option α}{g:α->Bool}{l:List Addr}{bs:List Bool}{r:Bool->Option α}(hl:l≠[])(h:l.map f=bs.map r)(i:Nat):f (tL l i)=r (f_ bs i):=by
 have hlen:l.length=bs.length:=by simpa using congrArg List.length h
 unfold tL f_
 rw[List.getD_eq_getElem?_getD,List.getD_eq_getElem?_getD]
 have key:∀j,(l[j]?).map f=(bs[j]?).map r:=fun j=>by rw[<- List.getElem?_map,<- List.getElem?_map,h]
 cases e:l[i]? with
 | some C =>
  have:=key i
  rw[e]at this
  cases e2:bs[i]? with
  | some b=>rw[e2]at this;simpa using this
  | none=>rw[e2]at this;simp at this
 | none =>
  have hb:bs[i]?=none:=by
   rw[List.getElem?_eq_none_iff]at e ⊢
   omega
  rw[hb]
  cases l with
  | nil=>exact absurd rfl hl
  | cons a l =>
   cases bs with
   | nil=>simp at hlen
   | cons b bs=>simpa using key 0
def PV.isBl(c:Bool):PV->Bool
 | .bl b=>b==c
 | _=>false
def AH:PV->PV->Res PV
 | x,.bl c=>.ok (.bl (x.isBl c))
 | _,_=>.stuck
def yF:PV->PV->Res PV
 | x,.bl c=>.ok (.bl (!x.isBl c))
 | _,_=>.stuck
section
variable{X:Cx}{T:Tb}{W:Nat->St->Hp->Prop}{F B L:Addr->Prop}{H:Hp}{a b:Expr}{ma mb:ME}{pos:Pos}
theorem Rel.isBl(c:Bool)(r:Rel T F B L H x v f):decide (v=.bl c)=x.isBl c:=by
 cases x with
 | non=>unfold Rel at r;rw[r.1];rfl
 | bl b=>unfold Rel at r;rw[r.1];cases b<;>cases c<;>rfl
 | int i | str i=>unfold Rel at r;rw[r.1];rfl
 | lst f xs=>unfold Rel at r;obtain⟨a,_,_,rfl,_⟩:=r;rfl
 | tup xs=>unfold Rel at r;obtain⟨a,_,rfl,_⟩:=r;rfl
 | obj f c ks xs=>unfold Rel at r;obtain⟨a,_,_,_,rfl,_⟩:=r;rfl
 | exc c=>unfold Rel at r;obtain⟨a,rfl,_⟩:=r;rfl
end
section
variable{X:Cx}{T:Tb}{W:Nat->St->Hp->Prop}{Z:Zn}{F F1 B L:Addr->Prop}{H H1:Hp}{σ:St}{env:En}{fp:Nat->List Addr}
def n5:List PV->Res PV
 | [.int n]=>if decide (0<=n/\n<=1000000)then .ok (.lst .own (cA 0 n.toNat))else .stuck
 | _=>.stuck
end
def bu:List PV->Option (List Int)
 | []=>some []
 | .int i::xs=>(bu xs).map (i::·)
 | _::_=>none
def jY(ns:List Int):Nat:=(PyProof.Rows.firstMet (fun i=>ns.getD i 0) ns.length).length
def gg:PV->Res PV
 | .lst _ xs=>match bu xs with
  | some ns=>if decide (ns.length<=1000)then .ok (.int (jY ns))else .stuck
  | none=>.stuck
 | _=>.stuck
section
variable{X:Cx}{T:Tb}{W:Nat->St->Hp->Prop}{Z:Zn}{F F1 B L:Addr->Prop}{H H1:Hp}{σ:St}{env:En}{fp:Nat->List Addr}
theorem dr:∀{xs:List PV}{vs:List V}{f:List Addr}{ns:List Int},bu xs=some ns->RelL T F B L H xs vs f->vs=ns.map V.int
 | [],_,_,_,e,r=>by cases e;unfold RelL at r;exact r.1
 | .int i::xs,_,_,ns,e,r=>by
  unfold RelL at r
  obtain⟨v,ws,f1,f2,rfl,h1,h2,rfl⟩:=r
  simp only[bu]at e
  cases e2:bu xs with
  | none=>rw[e2]at e;cases e
  | some ms =>
   rw[e2]at e
   cases e
   unfold Rel at h1
   rw[h1.1,dr e2 h2]
   rfl
 | .non::_,_,_,_,e,_ | .bl _::_,_,_,_,e,_ | .str _::_,_,_,_,e,_ | .lst _ _::_,_,_,_,e,_ | .tup _::_,_,_,_,e,_ | .obj _ _ _ _::_,_,_,_,e,_ | .exc _::_,_,_,_,e,_=>by simp[bu]at e
theorem d3:∀{ns:List Int}{its:List Value},aw (ns.map V.int) its->PyProof.Rows.IntsAre its ns
 | [],_,r=>by cases r;exact .nil
 | n::ns,_,r=>by
  cases r with
  | cons h t =>
   obtain⟨tk,rfl⟩:=h
   exact .cons _ _ (d3 t)
theorem jy(hc:X.calm=true):dC X (.type "set") (fun xs H Q=>∃p ns,xs=[.ref p]/\SqL X.K H p (ns.map V.int)/\ns.length<=1000/\∀r S,H r=none->Q (.ref r) (upd H r (.set S (jY ns)))):=by
 intro pins s σ H xs us Q I rv h
 obtain⟨p,ns,rfl,hS,hl,q⟩:=h
 obtain⟨u,rfl,rx⟩:=eR rv
 cases rx
 obtain⟨its,r',pl,hz⟩:=I.list hS
 have hlen:=r'.length
 rw[List.length_map]at hlen
 refine call_set_list (I.ok.hd hc) pl.isList (ns:=ns) (by simpa using d3 r') (by simp only[List.size_toArray,<- hlen];unfold scanBound;omega) fun h' tk hs kp=>?_
 have e:its.toArray.size=ns.length:=by simp[hlen]
 rw[e]at hs
 exact⟨.ref s.heap.objs.size,_,I.laid (t':=tk) (o:=.set (fun k'=>(PyProof.Rows.firstMet (fun i=>ns.getD i 0) ns.length).any (·==k')) (jY ns)) (fun b o e=>kp b o (Heap.lt_size e) e) (Nat.le_refl _) hs,rfl,q _ _ (I.hok.fresh (Nat.le_refl _))⟩
theorem jz:dC X (.builtin "len") (fun xs H Q=>∃r S n,xs=[.ref r]/\H r=some (.set S n)/\Q (.int n) H):=by
 intro pins s σ H xs us Q I rv h
 obtain⟨r,S,n,rfl,hr,q⟩:=h
 obtain⟨u,rfl,rx⟩:=eR rv
 cases rx
 obtain⟨o,es,ep,t,ho,hex,hd,_,_,hb,hf,hn⟩:=I.hok r _ hr
 have hb':es.size < 4096:=hb
 exact call_len_set ho hex hd hf (by omega) ⟨.int n,H,I.tok _,⟨s.toks+1,by rw[hn]⟩,q⟩
theorem xh:bootBuiltins "set" = some (.type "set"):=by decide +kernel
theorem o4(hK:X.K=T.K)(hc:X.calm=true)(hg:Gl X "len")(hm:X.mg "len" = none)(hg2:Gl X "set")(hm2:X.mg "set" = none)(he:SE X T W e m)
  (hs:starEach [e] X.env=[(false,eval e X.env)]:=by rfl)
  (hs2:starEach [.Call (.Name "set" p2) [e] [] pos2] X.env=[(false,eval (.Call (.Name "set" p2) [e] [] pos2) X.env)]:=by rfl) :
  SE X T W (.Call (.Name "len" p) [.Call (.Name "set" p2) [e] [] pos2] [] pos) (mUn gg m):=by
 refine PE.wk (iS (p:=p) (pos:=pos) jz hg hm boot_len (cq (jQ (p:=p2) (pos:=pos2) (jy hc) hg2 hm2 xh (cq he fO (by rw[hs];rfl)) (he:=by rw[hs];rfl) (hpl:=rfl)) fO (by rw[hs2];rfl)) (he:=by rw[hs2];rfl) (hpl:=rfl)) fun σ H Q ⟨Z,F,env,fp,S,q⟩=>?_
 unfold mUn at q
 refine tE.bind S (fun c e=>by rw[e]at q;exact q) (fun e=>by rw[e]at q;exact q) fun x v H1 F1 f1 e1 g1 r1 n1 d1 w1=>?_
 rw[e1]at q
 cases x with
 | lst fl xs =>
  simp only[Res.ok_bind,gg]at q
  cases en:bu xs with
  | none=>rw[en]at q;exact q.elim
  | some ns =>
   rw[en]at q
   dsimp only at q
   unfold Rel at r1
   obtain⟨a,vs,fp',rfl,hl,hr,_⟩:=r1
   by_cases hn:decide (ns.length<=1000)=true
   ·rw[if_pos hn]at q
    have hv:=dr en hr
    subst hv
    exact⟨a,ns,rfl,by rw[hK];exact hl.sq,of_decide_eq_true hn,fun r S hr=>⟨r,S,_,rfl,aH,q.scal (g1.trans (Gr.same g1.dom (Ext.upd hr))) d6⟩⟩
   ·rw[if_neg hn]at q;exact q.elim
 | _=>exact q.elim
end
def eM:List Int->Int
 | []=>0
 | [a]=>a
 | a::b::l=>min a (eM (b::l))
def ig:List Int->Int
 | []=>0
 | [a]=>a
 | a::b::l=>max a (ig (b::l))
theorem i3:∀{l:List Int},l≠[]->eM l∈l/\∀x∈l,eM l<=x
 | [],h=>absurd rfl h
 | [a],_=>by simp[eM]
 | a::b::l,_=>by
  obtain⟨h1,h2⟩:=i3 (l:=b::l) (by simp)
  unfold eM
  refine⟨?_,fun x hx=>?_⟩
  ·rcases Int.le_total a (eM (b::l))with h | h
   ·rw[Int.min_eq_left h];exact List.mem_cons_self
   ·rw[Int.min_eq_right h];exact List.mem_cons_of_mem _ h1
  ·rcases List.mem_cons.mp hx with rfl | hx
   ·exact Int.min_le_left _ _
   ·exact Int.le_trans (Int.min_le_right _ _) (h2 x hx)
theorem lr:∀{l:List Int},l≠[]->ig l∈l/\∀x∈l,x<=ig l
 | [],h=>absurd rfl h
 | [a],_=>by simp[ig]
 | a::b::l,_=>by
  obtain⟨h1,h2⟩:=lr (l:=b::l) (by simp)
  unfold ig
  refine⟨?_,fun x hx=>?_⟩
  ·rcases Int.le_total a (ig (b::l))with h | h
   ·rw[Int.max_eq_right h];exact List.mem_cons_of_mem _ h1
   ·rw[Int.max_eq_left h];exact List.mem_cons_self
  ·rcases List.mem_cons.mp hx with rfl | hx
   ·exact Int.le_max_left _ _
   ·exact Int.le_trans (h2 x hx) (Int.le_max_right _ _)
section
variable{X:Cx}{T:Tb}{W:Nat->St->Hp->Prop}{Z:Zn}{F F1 B L:Addr->Prop}{H H1:Hp}{σ:St}{env:En}{fp:Nat->List Addr}{pins:List (Addr×Obj)}{s:Shared}
theorem i_{h':Heap}{t:Nat}(I:L2.Inv X pins σ H s)(k:∀b o,s.heap.get? b=some o->h'.get? b=some o):L2.Inv X pins σ H { s with heap:=h',toks:=t }:=I.un (Un.kept k) (I.hok.kept k)
theorem fq{its:List Value}{ns:List Int}(r:aw (ns.map V.int) its):∀(i:Nat) (v:Value),its.toArray[i]?=some v->∃t,v=.int (ns.getD i 0) t:=by
 intro i v e
 have e':its[i]?=some v:=by simpa using e
 have hi:i < ns.length:=by
  have h1:=(List.getElem?_eq_some_iff.mp e').1
  have h2:=r.length
  rw[List.length_map]at h2
  omega
 have:∀{ns:List Int}{its:List Value}{i:Nat}{v:Value},aw (ns.map V.int) its->its[i]?=some v->∃t,v=.int (ns.getD i 0) t:=by
  intro ns
  induction ns with
  | nil=>intro its i v r e;cases r;simp at e
  | cons n ns ih =>
   intro its i v r e
   cases r with
   | cons h t =>
    obtain⟨tk,rfl⟩:=h
    cases i with
    | zero=>simp at e;exact⟨tk,by rw[<- e];rfl⟩
    | succ i =>
     obtain⟨tk',h'⟩:=ih t (by simpa using e)
     exact⟨tk',by rw[h'];rfl⟩
 exact this r e'
theorem sd{ns:List Int}(h:0 < ns.length):ns.getD (argBest (fun i j=>decide (ns.getD i 0 < ns.getD j 0)) (ns.length - 1)) 0=eM ns:=by
 obtain⟨h1,h2⟩:=argBest_lt (fun i=>ns.getD i 0) (ns.length - 1)
 obtain⟨m1,m2⟩:=i3 (l:=ns) (by intro z;simp[z]at h)
 refine Int.le_antisymm ?_ (m2 _ ?_)
 ·obtain⟨i,hi,e⟩:=List.getElem_of_mem m1
  have:=h2 i (by omega)
  simp only[List.getD_eq_getElem?_getD,List.getElem?_eq_getElem hi,Option.getD_some,e]at this
  simpa[List.getD_eq_getElem?_getD]using this
 ·rw[List.getD_eq_getElem?_getD,List.getElem?_eq_getElem (by omega)]
  exact List.getElem_mem _
theorem se{ns:List Int}(h:0 < ns.length):ns.getD (argBest (fun i j=>decide (ns.getD i 0 > ns.getD j 0)) (ns.length - 1)) 0=ig ns:=by
 obtain⟨h1,h2⟩:=argBest_gt (fun i=>ns.getD i 0) (ns.length - 1)
 obtain⟨m1,m2⟩:=lr (l:=ns) (by intro z;simp[z]at h)
 refine Int.le_antisymm (m2 _ ?_) ?_
 ·rw[List.getD_eq_getElem?_getD,List.getElem?_eq_getElem (by omega)]
  exact List.getElem_mem _
 ·obtain⟨i,hi,e⟩:=List.getElem_of_mem m1
  have:=h2 i (by omega)
  simp only[List.getD_eq_getElem?_getD,List.getElem?_eq_getElem hi,Option.getD_some,e]at this
  simpa[List.getD_eq_getElem?_getD]using this
theorem j9{n:Nat}{l I:Addr}(hl:l < n)(e:I=n):∀b∈[I,l],b < n+1:=fun b hb=>by
 rcases List.mem_cons.mp hb with z | hb
 ·rw[z,e];exact Nat.lt_succ_self _
 ·rcases List.mem_cons.mp hb with rfl | hb
  ·exact Nat.lt_succ_of_lt hl
  ·cases hb
theorem gh{h h':Heap}{o:Obj}(hk:∀b u,b∉[h.objs.size]->(h.push o).get? b=some u->h'.get? b=some u):∀b u,h.get? b=some u->h'.get? b=some u:=fun b u e =>
 hk b u (fun hm=>by
  rcases List.mem_cons.mp hm with z | z
  ·exact absurd (z▸Heap.lt_size e) (Nat.lt_irrefl _)
  ·cases z) (Heap.get?_push_of_some _ e)
theorem kF(hc:X.calm=true):dC X (.builtin "min") (fun xs H Q=>∃p ns,xs=[.ref p]/\(SqL X.K H p (ns.map V.int)\/ SqT X.K H p (ns.map V.int))/\0 < ns.length/\Q (.int (eM ns)) H):=by
 intro pins s σ H xs us Q I rv h
 obtain⟨p,ns,rfl,hq,hn,q⟩:=h
 obtain⟨u,rfl,rx⟩:=eR rv
 cases rx
 have hh:=I.ok.hd hc
 have key:∀{its:List Value},aw (ns.map V.int) its->∀{v:Value}{h':Heap}{tk:Nat},its.toArray[argBest (fun i j=>decide (ns.getD i 0 < ns.getD j 0)) (its.toArray.size - 1)]?=some v->(∀b o,s.heap.get? b=some o->h'.get? b=some o)->EP X pins σ Q v { s with heap:=h',toks:=tk }:=by
  intro its r v h' tk hv k
  have hl:its.toArray.size=ns.length:=by
   have:=r.length
   simpa using this.symm
  rw[hl]at hv
  obtain⟨t,rfl⟩:=fq r _ _ hv
  rw[sd hn]
  exact⟨.int _,H,i_ I k,⟨t,rfl⟩,q⟩
 rcases hq with hq | hq
 ·obtain⟨its,r,pl,hz⟩:=I.list hq
  have hl:its.toArray.size=ns.length:=by
   have:=r.length
   simpa using this.symm
  obtain⟨o,ho,hcl,n,hd⟩:=pl.isList
  have hlt:=Heap.lt_size ho
  refine call_min_walk (wpAny_pyIter_list pl.isList ?_)
  refine⟨_,_,_,_,_,_,_,rfl,Walks.list (A:=X.A.in1) hh _ p (Nat.ne_of_lt hlt) its.toArray,⟨⟨_,Heap.get?_push_size _ rfl,rfl,rfl⟩,pl.isList.push _⟩,fun b hb=>?_,by omega,CmpOf.ints_lt (fun i=>ns.getD i 0) (fq r),fun v h' tk hP hk=>key r hP (gh hk)⟩
  show b <(s.heap.push _).objs.size
  rw[Heap.size_push]
  exact j9 hlt rfl b hb
 ·obtain⟨its,r,pl,hz⟩:=I.tuple hq
  have hl:its.toArray.size=ns.length:=by
   have:=r.length
   simpa using this.symm
  have pt:s.heap.IsTuple p its.toArray:=pl
  obtain⟨o,ho,hcl,n,hd⟩:=pl
  have hlt:=Heap.lt_size ho
  refine call_min_walk (wpAny_pyIter_tuple pt ?_)
  refine⟨_,_,_,_,_,_,_,rfl,Walks.tuple (A:=X.A.in1) hh _ p (Nat.ne_of_lt hlt) its.toArray,⟨⟨_,Heap.get?_push_size _ rfl,rfl,rfl⟩,pt.push _⟩,fun b hb=>?_,by omega,CmpOf.ints_lt (fun i=>ns.getD i 0) (fq r),fun v h' tk hP hk=>key r hP (gh hk)⟩
  show b <(s.heap.push _).objs.size
  rw[Heap.size_push]
  exact j9 hlt rfl b hb
theorem kG(hc:X.calm=true):dC X (.builtin "max") (fun xs H Q=>∃p ns,xs=[.ref p]/\(SqL X.K H p (ns.map V.int)\/ SqT X.K H p (ns.map V.int))/\0 < ns.length/\Q (.int (ig ns)) H):=by
 intro pins s σ H xs us Q I rv h
 obtain⟨p,ns,rfl,hq,hn,q⟩:=h
 obtain⟨u,rfl,rx⟩:=eR rv
 cases rx
 have hh:=I.ok.hd hc
 have key:∀{its:List Value},aw (ns.map V.int) its->∀{v:Value}{h':Heap}{tk:Nat},its.toArray[argBest (fun i j=>decide (ns.getD i 0 > ns.getD j 0)) (its.toArray.size - 1)]?=some v->(∀b o,s.heap.get? b=some o->h'.get? b=some o)->EP X pins σ Q v { s with heap:=h',toks:=tk }:=by
  intro its r v h' tk hv k
  have hl:its.toArray.size=ns.length:=by
   have:=r.length
   simpa using this.symm
  rw[hl]at hv
  obtain⟨t,rfl⟩:=fq r _ _ hv
  rw[se hn]
  exact⟨.int _,H,i_ I k,⟨t,rfl⟩,q⟩
 rcases hq with hq | hq
 ·obtain⟨its,r,pl,hz⟩:=I.list hq
  have hl:its.toArray.size=ns.length:=by
   have:=r.length
   simpa using this.symm
  obtain⟨o,ho,hcl,n,hd⟩:=pl.isList
  have hlt:=Heap.lt_size ho
  refine call_max_walk (wpAny_pyIter_list pl.isList ?_)
  refine⟨_,_,_,_,_,_,_,rfl,Walks.list (A:=X.A.in1) hh _ p (Nat.ne_of_lt hlt) its.toArray,⟨⟨_,Heap.get?_push_size _ rfl,rfl,rfl⟩,pl.isList.push _⟩,fun b hb=>?_,by omega,CmpOf.ints_gt (fun i=>ns.getD i 0) (fq r),fun v h' tk hP hk=>key r hP (gh hk)⟩
  show b <(s.heap.push _).objs.size
  rw[Heap.size_push]
  exact j9 hlt rfl b hb
 ·obtain⟨its,r,pl,hz⟩:=I.tuple hq
  have hl:its.toArray.size=ns.length:=by
   have:=r.length
   simpa using this.symm
  have pt:s.heap.IsTuple p its.toArray:=pl
  obtain⟨o,ho,hcl,n,hd⟩:=pl
  have hlt:=Heap.lt_size ho
  refine call_max_walk (wpAny_pyIter_tuple pt ?_)
  refine⟨_,_,_,_,_,_,_,rfl,Walks.tuple (A:=X.A.in1) hh _ p (Nat.ne_of_lt hlt) its.toArray,⟨⟨_,Heap.get?_push_size _ rfl,rfl,rfl⟩,pt.push _⟩,fun b hb=>?_,by omega,CmpOf.ints_gt (fun i=>ns.getD i 0) (fq r),fun v h' tk hP hk=>key r hP (gh hk)⟩
  show b <(s.heap.push _).objs.size
  rw[Heap.size_push]
  exact j9 hlt rfl b hb
def dF(g:List Int->Int):PV->Res PV:=fun x=>match aO x with
 | some xs=>match bu xs with
  | some ns=>if ns.isEmpty then .stuck else .ok (.int (g ns))
  | none=>.stuck
 | none=>.stuck
theorem lq(hK:X.K=T.K):Mir T W (p1 (dF g)) (fun xs H Q=>∃p ns,xs=[.ref p]/\(SqL X.K H p (ns.map V.int)\/ SqT X.K H p (ns.map V.int))/\0 < ns.length/\Q (.int (g ns)) H):=by
 intro B F L σ H Q F' H' xs vs fx gr r nf nd new q
 match xs,r,q with
 | [x],r,q =>
  obtain⟨v,rfl,rv⟩:=RelL.one r
  simp only[p1,dF]at q
  cases e:aO x with
  | none=>rw[e]at q;exact q.elim
  | some ys =>
   rw[e]at q
   dsimp only at q
   cases e2:bu ys with
   | none=>rw[e2]at q;exact q.elim
   | some ns =>
    rw[e2]at q
    dsimp only at q
    obtain⟨a,us,fx',rfl,hs,hr,_⟩:=rv.seq e
    have hu:=dr e2 hr
    subst hu
    cases ns with
    | nil=>exact q.elim
    | cons n ns=>exact⟨a,_,rfl,by rw[hK];exact hs,by simp,q.scal gr d6⟩
 | [],_,q=>exact q.elim
 | _::_::_,_,q=>simp only[p1]at q;exact q.elim
theorem sg:bootBuiltins "min" = some (.builtin "min"):=by decide +kernel
theorem xi:bootBuiltins "max" = some (.builtin "max"):=by decide +kernel
theorem nL(hK:X.K=T.K)(hc:X.calm=true)(hg:Gl X "min")(hm:X.mg "min" = none)(ha:SE X T W e m)(he:starEach [e] X.env=[(false,eval e X.env)]:=by rfl):SE X T W (.Call (.Name "min" p) [e] [] pos) (am (p1 (dF eM)) (ae m aj)) :=
 eS (kF hc) (lq hK) hg hm sg (ac ha ag (by rw[he];rfl)) (he:=by rw[he];rfl) (hpl:=rfl)
theorem nM(hK:X.K=T.K)(hc:X.calm=true)(hg:Gl X "max")(hm:X.mg "max" = none)(ha:SE X T W e m)(he:starEach [e] X.env=[(false,eval e X.env)]:=by rfl):SE X T W (.Call (.Name "max" p) [e] [] pos) (am (p1 (dF ig)) (ae m aj)) :=
 eS (kG hc) (lq hK) hg hm xi (ac ha ag (by rw[he];rfl)) (he:=by rw[he];rfl) (hpl:=rfl)
def ef(g:Int->Int->Int):List PV->Res PV
 | [.int i,.int j]=>.ok (.int (g i j))
 | _=>.stuck
theorem pC{g:Int->Int->Int}{g':Int->Int->Int}(hg:∀i j,g' i j=g i j):Mir T W (ef g) (fun xs H Q=>∃i j,xs=[.int i,.int j]/\Q (.int (g' i j)) H):=by
 intro B F L σ H Q F' H' xs vs fx gr r nf nd new q
 match xs,r,q with
 | [x,y],r,q =>
  cases x with
  | int i =>
   cases y with
   | int j =>
    unfold RelL at r
    obtain⟨v,ws,f1,f2,rfl,h1,h2,rfl⟩:=r
    obtain⟨u,rfl,h3⟩:=RelL.one h2
    unfold Rel at h1 h3
    obtain⟨rfl,_⟩:=h1
    obtain⟨rfl,_⟩:=h3
    exact⟨i,j,rfl,by rw[hg];exact q.scal gr d6⟩
   | _=>exact q.elim
  | _=>exact q.elim
 | [],_,q=>exact q.elim
 | [x],_,q=>cases x<;>exact q.elim
 | x::y::z::l,_,q=>cases x<;>cases y<;>exact q.elim
theorem io(hc:X.calm=true)(hg:Gl X "min")(hm:X.mg "min" = none)(ha:SA X T W [a,b] ms)(he:starEach [a,b] X.env=[(false,eval a X.env),(false,eval b X.env)]:=by rfl)(he2:starEach [b] X.env=[(false,eval b X.env)]:=by rfl) :
  SE X T W (.Call (.Name "min" p) [a,b] [] pos) (am (ef min) ms) :=
 eS (pS hc) (pC fun i j=>by simp only[Int.min_def];split<;>split<;>omega) hg hm sg ha (he:=by rw[he,he2]) (hpl:=by rw[he2];rfl)
end
end PR
namespace PR
open PySem PySem.W PyProof.Rows
structure Ord(N:Nat)(lt:Nat->Nat->Bool):Prop where
 tr:∀i j k,i < N->j < N->k < N->lt i j=true->lt j k=true->lt i k=true
 tot:∀i j,i < N->j < N->i≠j->lt i j=false->lt j i=true
 irr:∀i,i < N->lt i i=false
structure Plc(N:Nat)(p:Array Nat):Prop where
 pm:p.toList.Perm (List.range N)
abbrev at_(p:Array Nat)(i:Nat):Nat:=p.getD i 0
section
variable{N:Nat}{lt:Nat->Nat->Bool}{p:Array Nat}
theorem Plc.sz(P:Plc N p):p.size=N:=by simpa using P.pm.length_eq
theorem Plc.get(P:Plc N p)(h:i < N):p[i]?=some (at_ p i):=by
 have:i < p.size:=by rw[P.sz];exact h
 simp[at_,this]
theorem Plc.bd(P:Plc N p)(h:i < N):at_ p i < N:=by
 have hm:at_ p i∈p.toList:=by
  have:=P.get h
  exact Array.mem_toList_iff.mpr (Array.mem_of_getElem? this)
 simpa using P.pm.mem_iff.mp hm
theorem Plc.inj(P:Plc N p)(hi:i < N)(hj:j < N)(e:at_ p i=at_ p j):i=j:=by
 have nd:p.toList.Nodup:=P.pm.nodup_iff.mpr List.nodup_range
 have h1:=P.get hi
 have h2:=P.get hj
 rw[e]at h1
 have h1':p.toList[i]?=some (at_ p j):=by simpa using h1
 have h2':p.toList[j]?=some (at_ p j):=by simpa using h2
 obtain⟨a1,b1⟩:=List.getElem?_eq_some_iff.mp h1'
 obtain⟨a2,b2⟩:=List.getElem?_eq_some_iff.mp h2'
 exact(List.getElem_inj nd).mp (b1.trans b2.symm)
def Asc(lt:Nat->Nat->Bool)(p:Array Nat)(n:Nat):Prop:=∀a b,a < b->b < n->lt (at_ p a) (at_ p b)=true
def Dsc(lt:Nat->Nat->Bool)(p:Array Nat)(n:Nat):Prop:=∀a b,a < b->b < n->lt (at_ p b) (at_ p a)=true
theorem Asc.more(O:Ord N lt)(P:Plc N p)(h:Asc lt p n)(h1:1<=n)(hn:n < N)(hl:lt (at_ p (n - 1)) (at_ p n)=true):Asc lt p (n+1):=fun a b hab hb=>by
 by_cases hbn:b < n
 ·exact h a b hab hbn
 ·obtain rfl:b=n:=by omega
  by_cases ha:a=b - 1
  ·rw[ha];exact hl
  ·exact O.tr _ _ _ (P.bd (by omega)) (P.bd (by omega)) (P.bd (by omega)) (h a (b - 1) (by omega) (by omega)) hl
theorem Dsc.more(O:Ord N lt)(P:Plc N p)(h:Dsc lt p n)(h1:1<=n)(hn:n < N)(hl:lt (at_ p n) (at_ p (n - 1))=true):Dsc lt p (n+1):=fun a b hab hb=>by
 by_cases hbn:b < n
 ·exact h a b hab hbn
 ·obtain rfl:b=n:=by omega
  by_cases ha:a=b - 1
  ·rw[ha];exact hl
  ·exact O.tr _ _ _ (P.bd (by omega)) (P.bd (by omega)) (P.bd (by omega)) hl (h a (b - 1) (by omega) (by omega))
theorem Dsc.rev(P:Plc N p)(h:Dsc lt p n)(hn:n<=N):Asc lt (kas_rev p 0 n) n/\Plc N (kas_rev p 0 n):=by
 have hp:(kas_rev p 0 n).toList.Perm p.toList:=Array.perm_iff_toList_perm.mp (mirror_perm _ _ _ _)
 have P':Plc N (kas_rev p 0 n):=⟨hp.trans P.pm⟩
 have ix:∀k,k < n->at_ (kas_rev p 0 n) k=at_ p (n - 1 - k):=fun k hk=>by
  have e:=getElem?_mirror_all (xs:=p) (i:=0) (j:=n) (by rw[P.sz];exact hn) k
  have h1:(kas_rev p 0 n)[k]?=p[0+n - 1 - k]?:=by
   unfold kas_rev
   rw[e,if_pos ⟨by omega,hk⟩]
  rw[P'.get (by omega),show 0+n - 1 - k=n - 1 - k by omega,P.get (by omega)]at h1
  exact Option.some.inj h1
 refine⟨fun a b hab hb=>?_,P'⟩
 rw[ix a (by omega),ix b hb]
 exact h _ _ (by omega) (by omega)
variable{cmp:Nat->Nat->(Bool->Shared->Prop)->Shared->Prop}{s:Shared}
abbrev Cmp(N:Nat)(lt:Nat->Nat->Bool)(cmp:Nat->Nat->(Bool->Shared->Prop)->Shared->Prop)(s:Shared):Prop:=∀(i j:Nat) (C:Bool->Shared->Prop),i < N->j < N->C (lt i j) s->cmp i j C s
theorem nt(O:Ord N lt)(C:Cmp N lt cmp s)(P:Plc N p):∀(f n:Nat) (Q:Nat->Shared->Prop),1<=n->n+f=N->Asc lt p n->(∀m,n<=m->m<=N->Asc lt p m->(m < N->lt (at_ p m) (at_ p (m - 1))=true)->Q m s)->(kas_asc p f n).kasWp cmp Q s
 | 0,n,Q,h1,hn,ha,k=>k n (Nat.le_refl _) (by omega) ha (by omega)
 | f+1,n,Q,h1,hn,ha,k=>by
  refine C _ _ _ (P.bd (by omega)) (P.bd (by omega)) ?_
  cases e:lt (at_ p n) (at_ p (n - 1))with
  | true=>exact k n (Nat.le_refl _) (by omega) ha fun _=>e
  | false =>
   have hl:=O.tot _ _ (P.bd (by omega)) (P.bd (by omega)) (fun z=>by have:=P.inj (by omega) (by omega) z;omega) e
   exact nt O C P f (n+1) Q (by omega) (by omega) (ha.more O P h1 (by omega) hl) fun m hm=>k m (by omega)
theorem rU(O:Ord N lt)(C:Cmp N lt cmp s)(P:Plc N p):∀(f n:Nat) (Q:Array Nat×Nat×Nat->Shared->Prop),1<=n->n+f=N->Dsc lt p n->(∀m,n<=m->m<=N->Dsc lt p m->Q (p,m,0) s)->(kas_desc f p n 0).kasWp cmp Q s
 | 0,n,Q,h1,hn,ha,k=>k n (Nat.le_refl _) (by omega) ha
 | f+1,n,Q,h1,hn,ha,k=>by
  refine C _ _ _ (P.bd (by omega)) (P.bd (by omega)) ?_
  cases e:lt (at_ p n) (at_ p (n - 1))with
  | true=>exact rU O C P f (n+1) Q (by omega) (by omega) (ha.more O P h1 (by omega) e) fun m hm=>k m (by omega)
  | false =>
   have hl:=O.tot _ _ (P.bd (by omega)) (P.bd (by omega)) (fun z=>by have:=P.inj (by omega) (by omega) z;omega) e
   refine C _ _ _ (P.bd (by omega)) (P.bd (by omega)) ?_
   have e2:lt (p.getD (n - 1) 0) (p.getD n 0)=true:=hl
   rw[e2]
   exact k n (Nat.le_refl _) (by omega) ha
theorem rW(O:Ord N lt)(C:Cmp N lt cmp s)(P:Plc N p)(h2:2<=N)(Q:Nat×Array Nat->Shared->Prop)(k:∀m p',1<=m->m<=N->Plc N p'->Asc lt p' m->Q (m,p') s):(kas_count N p).kasWp cmp Q s:=by
 unfold kas_count
 rw[KasT.kasWp_bind]
 refine nt O C P (N - 1) 1 _ (Nat.le_refl _) (by omega) (fun a b _ hb=>by omega) fun n h1 hn ha hs=>?_
 by_cases e:n=N
 ·rw[if_pos (by simpa using e)]
  exact k n p h1 hn P ha
 ·rw[if_neg (by simpa using e)]
  by_cases hn1:n > 1
  ·rw[if_pos hn1]
   refine C _ _ _ (P.bd (by omega)) (P.bd (by omega)) ?_
   have e2:lt (p.getD 0 0) (p.getD (n - 1) 0)=true:=ha 0 (n - 1) (by omega) (by omega)
   rw[e2]
   exact k n p h1 hn P ha
  ·rw[if_neg hn1]
   obtain rfl:n=1:=by omega
   unfold kas_descPart
   rw[KasT.kasWp_bind]
   refine rU O C P (N - 2) 2 _ (by omega) (by omega) (fun a b hab hb=>?_) fun m hm1 hm2 hd=>?_
   ·obtain rfl:a=0:=by omega
    obtain rfl:b=1:=by omega
    exact hs (by omega)
   ·dsimp only
    rw[if_neg (Nat.lt_irrefl 0)]
    obtain⟨ha',P'⟩:=hd.rev P hm2
    unfold kas_tail3
    rw[KasT.kasWp_bind]
    exact nt O C P' (N - m) m _ (by omega) (by omega) ha' fun n' h1' hn' ha'' _=>k n' _ (by omega) hn' P' ha''
theorem iQ(O:Ord N lt)(C:Cmp N lt cmp s)(P:Plc N p)(hk:k < N)(ha:Asc lt p k):∀(f l r:Nat) (Q:Nat->Shared->Prop),l<=r->r<=k->r - l<=f->(∀a,a < l->lt (at_ p a) (at_ p k)=true)->(∀a,r<=a->a < k->lt (at_ p k) (at_ p a)=true)->
  (∀m,m<=k->(∀a,a < m->lt (at_ p a) (at_ p k)=true)->(∀a,m<=a->a < k->lt (at_ p k) (at_ p a)=true)->Q m s)->(kas_place p k f l r).kasWp cmp Q s
 | 0,l,r,Q,h1,h2,h3,h4,h5,q=>by
  obtain rfl:l=r:=by omega
  exact q l h2 h4 h5
 | f+1,l,r,Q,h1,h2,h3,h4,h5,q=>by
  unfold kas_place
  by_cases e:l >= r
  ·rw[if_pos e]
   obtain rfl:l=r:=by omega
   exact q l h2 h4 h5
  ·rw[if_neg e]
   have hm:(l+r) / 2 < r:=by omega
   have hm2:l <=(l+r) / 2:=by omega
   refine C _ _ _ (P.bd hk) (P.bd (by omega)) ?_
   cases e2:lt (at_ p k) (at_ p ((l+r) / 2))with
   | true =>
    refine iQ O C P hk ha f l ((l+r) / 2) Q hm2 (by omega) (by omega) h4 (fun a h6 h7=>?_) q
    by_cases hae:a=(l+r) / 2
    ·rw[hae];exact e2
    ·exact O.tr _ _ _ (P.bd hk) (P.bd (by omega)) (P.bd (by omega)) e2 (ha _ a (by omega) h7)
   | false =>
    have hl:=O.tot _ _ (P.bd hk) (P.bd (by omega)) (fun z=>by have:=P.inj hk (by omega) z;omega) e2
    refine iQ O C P hk ha f ((l+r) / 2+1) r Q (by omega) h2 (by omega) (fun a h6=>?_) h5 q
    by_cases hae:a=(l+r) / 2
    ·rw[hae];exact hl
    ·exact O.tr _ _ _ (P.bd (by omega)) (P.bd (by omega)) (P.bd hk) (ha a _ (by omega) (by omega)) hl
theorem r_(O:Ord N lt)(C:Cmp N lt cmp s):∀(f k:Nat) (p:Array Nat) (Q:Array Nat->Shared->Prop),Plc N p->Asc lt p k->k+f=N->(∀p',Plc N p'->Asc lt p' N->Q p' s)->(kas_bin f p k).kasWp cmp Q s
 | 0,k,p,Q,P,ha,hk,q=>q p P (by rw[<- hk];exact ha)
 | f+1,k,p,Q,P,ha,hk,q=>by
  unfold kas_bin
  rw[KasT.kasWp_bind]
  refine iQ O C P (by omega) ha k 0 k _ (Nat.zero_le _) (Nat.le_refl _) (by omega) (fun _ z=>absurd z (Nat.not_lt_zero _)) (fun a h1 h2=>by omega) fun m hm h1 h2=>?_
  have P':Plc N (bubble p k (k - m)):=⟨(Array.perm_iff_toList_perm.mp (bubble_perm _ _ _)).trans P.pm⟩
  have ix:=getElem?_bubble (xs:=p) (src:=k) (by rw[P.sz];omega) (k - m) (by omega)
  have g:∀i,i < k+1->at_ (bubble p k (k - m)) i=if i=m then at_ p k else if m < i then at_ p (i - 1)else at_ p i:=fun i hi=>by
   have e:=ix i
   rw[P'.get (by omega)]at e
   have hkm:k - (k - m)=m:=by omega
   rw[hkm]at e
   by_cases c1:i=m
   ·rw[if_pos c1]
    rw[if_pos c1,P.get (by omega)]at e
    exact Option.some.inj e
   ·rw[if_neg c1]at e ⊢
    by_cases c2:m < i
    ·rw[if_pos c2]
     rw[if_pos ⟨c2,by omega⟩,P.get (by omega)]at e
     exact Option.some.inj e
    ·rw[if_neg c2]
     rw[if_neg (fun z=>c2 z.1),P.get (by omega)]at e
     exact Option.some.inj e
  refine r_ O C f (k+1) _ Q P' (fun a b hab hb=>?_) (by omega) q
  rw[g a (by omega),g b hb]
  by_cases a1:a=m
  ·rw[if_pos a1,if_neg (by omega),if_pos (by omega)]
   exact h2 (b - 1) (by omega) (by omega)
  ·rw[if_neg a1]
   by_cases a2:m < a
   ·rw[if_pos a2,if_neg (by omega),if_pos (by omega)]
    exact ha _ _ (by omega) (by omega)
   ·rw[if_neg a2]
    by_cases b1:b=m
    ·rw[if_pos b1];exact h1 a (by omega)
    ·rw[if_neg b1]
     by_cases b2:m < b
     ·rw[if_pos b2]
      by_cases hh:a=b - 1
      ·omega
      ·exact ha _ _ (by omega) (by omega)
     ·rw[if_neg b2]
      exact ha _ _ hab (by omega)
theorem sR(O:Ord N lt)(C:Cmp N lt cmp s)(h2:2<=N)(Q:Array Nat->Shared->Prop)(q:∀p,Plc N p->Asc lt p N->Q p s):(kas_sort N).kasWp cmp Q s:=by
 unfold kas_sort
 rw[KasT.kasWp_bind]
 refine rW O C (p:=List.toArray (List.range N)) ⟨by simp⟩ h2 _ fun m p' h1 hm P ha=>?_
 dsimp only
 by_cases e:m < N
 ·rw[if_pos e,Nat.max_eq_left h1]
  exact r_ O C (N - m) m p' Q P ha (by omega) q
 ·rw[if_neg e]
  obtain rfl:m=N:=by omega
  exact q p' P ha
end
end PR
namespace PR
open PySem PySem.Spec L2 PyProof.Rows PySem.W
section
variable{prog:Program}{w:World}{A:Around}{E:Value->Shared->Prop}{s:Shared}
def iW(vs:List Value)(p:Array Nat):Array Value:=(p.toList.map fun i=>vs.getD i Value.none).toArray
theorem pf(N:Nat):Plc N (List.range N).toArray:=⟨by simp⟩
theorem hR:iW vs (List.range vs.length).toArray=vs.toArray:=by
 unfold iW
 congr 1
 refine List.ext_getElem (by simp) fun i h1 h2=>?_
 simp[h2]
theorem sG:∀{vs:List Value},vs.length < 2->(vs.toArray.zip vs.toArray).map (·.2)=vs.toArray
 | [],_ | [v],_=>by simp
theorem pE{κ:SortKind}(ho:s.heap.get? a=some (seqObj "list" vs.toArray n))(h64:vs.length < 64)
  (hK:2<=vs.length->∀s':Shared,(∀b o,b≠a->s.heap.get? b=some o->s'.heap.get? b=some o)->Ord vs.length lt/\(∀Q:SortKind->Shared->Prop,Q κ s'->wpAny (model prog w) A (keyKind' vs.toArray) Q E s')/\Cmp vs.length lt (kas_ask prog w A κ vs) s')
  (h:∀p,Plc vs.length p->Asc lt p vs.length->P (.done (.ret .none)) { s with heap:=sortedHeap s.heap a vs (iW vs p) }) :
  wpAny (model prog w) A (Builtin.«list.sort» ⟨[.ref a],[]⟩) P E s:=by
 have lo:=Heap.lt_size ho
 obtain⟨e1,g1⟩:∃e1,(s.heap.update a (Obj.mapSeq fun _=>#[])).get? a=some (seqObj "list" #[] e1):=⟨_,get?_update_seq ho (fun _=>#[])⟩
 have g6:(((s.heap.update a (Obj.mapSeq fun _=>#[])).push (seqObj "tuple" vs.toArray 0)).push (seqObj "list" #[] 0)).get? a=some (seqObj "list" #[] e1):=Heap.get?_push_of_some _ (Heap.get?_push_of_some _ g1)
 have kp:∀b o,b≠a->s.heap.get? b=some o->(((s.heap.update a (Obj.mapSeq fun _=>#[])).push (seqObj "tuple" vs.toArray 0)).push (seqObj "list" #[] 0)).get? b=some o:=fun b o hb q =>
  Heap.get?_push_of_some _ (Heap.get?_push_of_some _ ((Heap.get?_update_ne _ _ _ _ hb).trans q))
 rw[list_sort_plain]
 refine wpAny_bind (listItems_at ho rfl (wpAny_bind (listUpdate_at ho rfl (wpAny_bind (seqEpoch_at g1 rfl (wpAny_bind (wpAny_newTuple (wpAny_bind (wpAny_newList (wpAny_holding ?_))))))))))<;>try (simp only[List.size_toArray,sizeLine_eq];omega)
 show wpAny (model prog w) A _ P E { s with heap:=((s.heap.update a (Obj.mapSeq fun _=>#[])).push (seqObj "tuple" vs.toArray 0)).push (seqObj "list" #[] 0) }
 dsimp only
 by_cases h2:vs.toArray.size < 2
 ·have h2':vs.length < 2:=by simpa using h2
  rw[if_pos h2,if_pos h2]
  refine wpAny_bind (wpAny_pure ?_)
  rw[StateT.run_pure]
  refine wpAny_bind (wpAny_pure ?_)
  dsimp only
  have e3:(arrOf (SortSt.mk' general' (vs.toArray.zip vs.toArray) #[] 7 none)).map (·.2)=iW vs (List.range vs.length).toArray:=by
   rw[hR]
   show(vs.toArray.zip vs.toArray).map (·.2)=vs.toArray
   exact sG h2'
  rw[e3]
  refine wpAny_bind (seqEpoch_at g6 rfl (wpAny_bind (listUpdate_at g6 rfl ?_ (Nat.zero_le _) (by rw[hR];simp only[List.size_toArray,sizeLine_eq];omega))))
  simp only[bne_self_eq_false,Bool.false_eq_true,if_false]
  exact wpAny_pure (h _ (pf _) fun x y hxy hy=>by omega)
 ·have h2':2<=vs.length:=by simp at h2;omega
  rw[if_neg h2,if_neg h2]
  obtain⟨O,hk,C⟩:=hK h2' { s with heap:=((s.heap.update a (Obj.mapSeq fun _=>#[])).push (seqObj "tuple" vs.toArray 0)).push (seqObj "list" #[] 0) } kp
  refine wpAny_bind (hk _ ?_)
  refine wpAny_bind (wpAny_mono (kat_run (κ:=κ) (ks:=vs) (vs:=vs) (Q:=fun st' s'=>∃ p:Array Nat,arrOf st'=p.map (kas_item (vs.toArray.zip vs.toArray))/\failedOf st'=none/\Plc vs.length p/\Asc lt p vs.length/\s'=_) rfl h2' h64
   (fun p st' s' _ a2 a3 a4=>⟨p,a2,a3,a4⟩) (sR O C h2' _ fun p c1 c2=>⟨c1,c2,rfl⟩)) ?_ fun _ _ e=>e)
  rintro⟨⟨⟩,st'⟩ s' ⟨p,har,hf,c1,c2,rfl⟩
  dsimp only
  have e3:=kat_snds (ks:=vs) (vs:=vs) rfl har
  rw[e3]
  refine wpAny_bind (seqEpoch_at g6 rfl (wpAny_bind (listUpdate_at g6 rfl ?_ (Nat.zero_le _) (by
   rw[List.size_toArray,List.length_map,Array.length_toList,c1.sz,sizeLine_eq];omega))))
  rw[hf]
  simp only[bne_self_eq_false,Bool.false_eq_true,if_false]
  exact wpAny_pure (h _ c1 c2)
theorem mt{κ:SortKind}(hl:s.heap.IsList l vs.toArray)(h64:vs.length < 64)
  (hK:2<=vs.length->∀s':Shared,(∀b o,s.heap.get? b=some o->s'.heap.get? b=some o)->Ord vs.length lt/\(∀(E:Value->Shared->Prop) (Q:SortKind->Shared->Prop),Q κ s'->wpAny (model prog w) A.in1.in1 (keyKind' vs.toArray) Q E s')/\Cmp vs.length lt (kas_ask prog w A.in1.in1 κ vs) s')
  (h:∀p,Plc vs.length p->Asc lt p vs.length->Q (.ref (s.heap.objs.size+1)) { s with heap:=sortedAll s.heap vs (iW vs p) }) :
  wpAny (model prog w) A (call (.builtin "sorted") [.ref l]) Q E s:=by
 refine Calls.call_function_entry kind_sorted plain_sorted entry_sorted (args_sorted1 _) ?_
 unfold Builtin.«sorted»
 have sz:((s.heap.push (seqObj "list" #[] 0)).update s.heap.objs.size (Obj.mapSeq (·++vs.toArray))).objs.size=s.heap.objs.size+1:=(Heap.size_update _ _ _).trans (size_push' _ _)
 refine wpAny_bind (m:=checkCount "sorted" 1 1 _) (wpAny_pure (wpAny_bind (collect_list hl (wpAny_bind (wpAny_newList ?_ (by rw[sizeLine_eq];omega))) (by rw[sizeLine_eq];omega))))
 have g:(((s.heap.push (seqObj "list" #[] 0)).update s.heap.objs.size (Obj.mapSeq (·++vs.toArray))).push (seqObj "list" vs.toArray 0)).get? (s.heap.objs.size+1)=some (seqObj "list" vs.toArray 0):=sz▸Heap.get?_push_size _ rfl
 have kp:∀b o,s.heap.get? b=some o->(((s.heap.push (seqObj "list" #[] 0)).update s.heap.objs.size (Obj.mapSeq (·++vs.toArray))).push (seqObj "list" vs.toArray 0)).get? b=some o:=fun b o q =>
  Heap.get?_push_of_some _ ((Heap.get?_update_ne _ _ _ _ (Nat.ne_of_lt (Heap.lt_size q))).trans (Heap.get?_push_of_some _ q))
 show wpAny _ _ _ _ _ { s with heap:=((s.heap.push (seqObj "list" #[] 0)).update s.heap.objs.size (Obj.mapSeq (·++vs.toArray))).push (seqObj "list" vs.toArray 0) }
 rw[sz]
 refine wpAny_bind (wpAny_holding (wpAny_call_entry slot_list_sort ⟨_,g,rfl⟩ entry_list_sort ?body (args_list_sort _)))
 refine pE (κ:=κ) (lt:=lt) g h64 (fun h2 s' k'=>?_) fun p c1 c2=>⟨_,rfl,wpAny_pure ⟨_,rfl,h p c1 c2⟩⟩
 obtain⟨O,hk,C⟩:=hK h2 s' fun b o q=>k' b o (Nat.ne_of_lt (Nat.lt_succ_of_lt (Heap.lt_size q))) (kp b o q)
 exact⟨O,fun Q q=>hk _ Q q,C⟩
def c9(x y:Int×Int):Bool:=decide (x.1 < y.1) ||(x.1==y.1&&decide (x.2 < y.2))
theorem fN(h1:c9 x y=true)(h2:c9 y z=true):c9 x z=true:=by
 simp only[c9,Bool.or_eq_true,Bool.and_eq_true,decide_eq_true_eq,beq_iff_eq]at *
 omega
theorem k9(x:Int×Int):c9 x x=false:=by simp[c9]
theorem k8(h:x≠y):c9 x y=true\/c9 y x=true:=by
 obtain⟨a,b⟩:=x
 obtain⟨c,d⟩:=y
 have:a≠c\/b≠d:=by
  by_cases e:a=c
  ·right;intro e2;exact h (by rw[e,e2])
  ·exact .inl e
 simp only[c9,Bool.or_eq_true,Bool.and_eq_true,decide_eq_true_eq,beq_iff_eq]
 omega
def bJ(h:Heap):List Value->List (Int×Int)->Prop
 | [],[]=>True
 | v::vs,x::ps=>(∃a o n t u,v=.ref a/\h.get? a=some o/\o.cls=.type "tuple" /\ o.data=.seq #[.int x.1 t,.int x.2 u] n)/\bJ h vs ps
 | _,_=>False
theorem bJ.len:∀{vs:List Value}{ps:List (Int×Int)},bJ h vs ps->vs.length=ps.length
 | [],[],_=>rfl
 | _::_,_::_,q=>by simp[q.2.len]
theorem bJ.kept(k:∀b o,h.get? b=some o->h'.get? b=some o):∀{vs:List Value}{ps:List (Int×Int)},bJ h vs ps->bJ h' vs ps
 | [],[],_=>trivial
 | _::_,_::_,⟨⟨a,o,n,t,u,e1,e2,e3⟩,q⟩=>⟨⟨a,o,n,t,u,e1,k _ _ e2,e3⟩,q.kept k⟩
theorem bJ.at:∀{vs:List Value}{ps:List (Int×Int)},bJ h vs ps->∀i,i < ps.length->∃a o n t u,vs.getD i Value.none=.ref a/\h.get? a=some o/\o.data=.seq #[.int (ps.getD i (0,0)).1 t,.int (ps.getD i (0,0)).2 u] n
 | _::_,_::_,⟨⟨a,o,n,t,u,e1,e2,e3⟩,q⟩,0,_=>⟨a,o,n,t,u,by simp[e1],e2,by simpa using e3.2⟩
 | v::vs,x::ps,⟨_,q⟩,i+1,hi=>by
  have:=q.at i (by simpa using hi)
  simpa using this
 | [],[],_,i,hi=>by simp at hi
theorem bJ.firsts:∀{vs:List Value}{ps:List (Int×Int)},bJ h vs ps->∃fs,KatTups h vs fs/\fs.length=ps.length/\∀v∈fs,∃i t,v=.int i t
 | [],[],_=>⟨[],.nil,rfl,fun v hv=>by cases hv⟩
 | _::_,_::_,⟨⟨a,o,n,t,u,e1,e2,e3,e4⟩,q⟩=>by
  obtain⟨fs,h1,h2,h3⟩:=q.firsts
  subst e1
  refine⟨_::fs,.cons e2 e3 e4 rfl h1,by simp[h2],fun v hv=>?_⟩
  rcases List.mem_cons.mp hv with rfl | hv
  ·exact⟨_,_,rfl⟩
  ·exact h3 v hv
theorem ph{ps:List (Int×Int)}(hd:ps.Nodup):Ord ps.length (fun i j=>c9 (ps.getD i (0,0)) (ps.getD j (0,0))):=by
 refine⟨fun i j k _ _ _ h1 h2=>fN h1 h2,fun i j hi hj hn h=>?_,fun i _=>k9 _⟩
 have:ps.getD i (0,0)≠ ps.getD j (0,0):=by
  simp only[List.getD_eq_getElem?_getD,List.getElem?_eq_getElem hi,List.getElem?_eq_getElem hj,Option.getD_some]
  exact fun e=>hn ((List.getElem_inj hd).mp e)
 rcases k8 this with q | q
 ·rw[q]at h;cases h
 ·exact q
theorem jR(h:Q (decide (x < y)) s):wpAny (model prog w) A (oneLt' b (.int x t) (.int y u)) Q E s:=by
 cases b with
 | true=>exact oneLt_int h
 | false=>exact kat_one _ _ (wpAny_lt_int h)
theorem pi(hp:bJ s.heap vs ps):Cmp vs.length (fun i j=>c9 (ps.getD i (0,0)) (ps.getD j (0,0))) (kas_ask prog w A (tuples' true) vs) s:=by
 intro i j C hi hj q
 rw[hp.len]at hi hj
 obtain⟨a,o,n,t,u,e1,e2,e3⟩:=hp.at i hi
 obtain⟨a',o',n',t',u',e1',e2',e3'⟩:=hp.at j hj
 unfold kas_ask
 rw[e1,e1']
 dsimp only at q
 generalize ps.getD i (0,0)=x at *
 generalize ps.getD j (0,0)=y at *
 refine kat_lt e2 e3 e2' e3' (kat_cons (wpAny_eqBool_int (kat_go (fun h1=>kat_yes (kat_cons (wpAny_eqBool_int (kat_go (fun h2=>kat_yes (kat_nil ?_)) fun h2=>kat_no (jR ?_))))) fun h1=>kat_no (jR ?_))))
 ·simp only[beq_iff_eq]at h1 h2
  have:c9 x y=false:=by simp[c9,h1,h2]
  rw[this]at q
  exact q
 ·simp only[beq_iff_eq]at h1
  have:c9 x y=decide (x.2 < y.2):=by simp[c9,h1]
  rw[this]at q
  exact q
 ·have:c9 x y=decide (x.1 < y.1):=by simp[c9,h1]
  rw[this]at q
  exact q
theorem mQ(hp:bJ s.heap vs ps)(h2:2<=vs.length){Q:SortKind->Shared->Prop}(q:Q (tuples' true) s):wpAny (model prog w) A (keyKind' vs.toArray) Q E s:=by
 obtain⟨fs,h1,hl,hi⟩:=hp.firsts
 refine kat_kind (T:=.type "int") h1 (by rw[hl,<- hp.len];omega) (fun v hv=>?_) rfl q
 obtain⟨i,t,rfl⟩:=hi v hv
 exact Looks.of_pure rfl
theorem kb(hl:s.heap.IsList l vs.toArray)(h64:vs.length < 64)(hp:bJ s.heap vs ps)(hd:ps.Nodup)
  (h:∀p,Plc vs.length p->Asc (fun i j=>c9 (ps.getD i (0,0)) (ps.getD j (0,0))) p vs.length->Q (.ref (s.heap.objs.size+1)) { s with heap:=sortedAll s.heap vs (iW vs p) }) :
  wpAny (model prog w) A (call (.builtin "sorted") [.ref l]) Q E s :=
 mt hl h64 (fun h2 s' k=>⟨hp.len▸ph hd,fun E Q q=>mQ (hp.kept k) h2 q,pi (hp.kept k)⟩) h
end
end PR
namespace PR
open PySem PySem.Spec L2 PyProof.Rows
def m9(x:Int):List Int->List Int
 | []=>[x]
 | y::l=>if x<=y then x::y::l else y::m9 x l
def iD:List Int->List Int
 | []=>[]
 | x::l=>m9 x (iD l)
theorem gU(x:Int):∀l,(m9 x l).Perm (x::l)
 | []=>.refl _
 | y::l=>by
  unfold m9
  split
  ·exact .refl _
  ·exact((gU x l).cons y).trans (.swap x y l)
theorem fM:∀l,(iD l).Perm l
 | []=>.refl _
 | x::l=>(gU x _).trans ((fM l).cons x)
theorem lA(x:Int):∀{l:List Int},l.Pairwise (·<=·)->(m9 x l).Pairwise (·<=·)
 | [],_=>by simp[m9]
 | y::l,h=>by
  obtain⟨h1,h2⟩:=List.pairwise_cons.mp h
  unfold m9
  split
  ·refine List.pairwise_cons.mpr ⟨fun z hz=>?_,h⟩
   rcases List.mem_cons.mp hz with rfl | hz
   ·assumption
   ·have:=h1 z hz;omega
  ·refine List.pairwise_cons.mpr ⟨fun z hz=>?_,lA x h2⟩
   rcases List.mem_cons.mp ((gU x l).mem_iff.mp hz)with rfl | hz
   ·omega
   ·exact h1 z hz
theorem jJ:∀l,(iD l).Pairwise (·<=·)
 | []=>.nil
 | x::l=>lA x (jJ l)
theorem my{l l':List Int}(h1:l'.Perm l)(h2:l'.Pairwise (·<=·)):l'=iD l :=
 List.Perm.eq_of_pairwise (fun a b _ _ x y=>Int.le_antisymm x y) h2 (jJ l) (h1.trans (fM l).symm)
def m7(x:Int×Int):List (Int×Int)->List (Int×Int)
 | []=>[x]
 | y::l=>if c9 x y then x::y::l else y::m7 x l
def g8:List (Int×Int)->List (Int×Int)
 | []=>[]
 | x::l=>m7 x (g8 l)
theorem gT(x:Int×Int):∀l,(m7 x l).Perm (x::l)
 | []=>.refl _
 | y::l=>by
  unfold m7
  split
  ·exact .refl _
  ·exact((gT x l).cons y).trans (.swap x y l)
theorem fL:∀l,(g8 l).Perm l
 | []=>.refl _
 | x::l=>(gT x _).trans ((fL l).cons x)
theorem lz(x:Int×Int):∀{l:List (Int×Int)},x∉l->l.Pairwise (fun a b=>c9 a b=true)->(m7 x l).Pairwise (fun a b=>c9 a b=true)
 | [],_,_=>by simp[m7]
 | y::l,hn,h=>by
  obtain⟨h1,h2⟩:=List.pairwise_cons.mp h
  unfold m7
  split
  ·refine List.pairwise_cons.mpr ⟨fun z hz=>?_,h⟩
   rcases List.mem_cons.mp hz with rfl | hz
   ·assumption
   ·exact fN ‹_› (h1 z hz)
  ·refine List.pairwise_cons.mpr ⟨fun z hz=>?_,lz x (fun z=>hn (List.mem_cons_of_mem _ z)) h2⟩
   rcases List.mem_cons.mp ((gT x l).mem_iff.mp hz)with rfl | hz
   ·rcases k8 (x:=y) (y:=z) (fun e=>hn (e▸List.mem_cons_self))with q | q
    ·exact q
    ·contradiction
   ·exact h1 z hz
theorem jI:∀{l:List (Int×Int)},l.Nodup->(g8 l).Pairwise (fun a b=>c9 a b=true)
 | [],_=>.nil
 | x::l,h=>by
  obtain⟨h1,h2⟩:=List.nodup_cons.mp h
  exact lz x (fun z=>h1 ((fL l).mem_iff.mp z)) (jI h2)
theorem mw(hd:l.Nodup)(h1:l'.Perm l)(h2:l'.Pairwise (fun a b=>c9 a b=true)):l'=g8 l :=
 List.Perm.eq_of_pairwise (fun a b _ _ x y=>by
  have:=fN x y
  rw[k9]at this;cases this) h2 (jI hd) (h1.trans (fL l).symm)
theorem o9{α:Type}(l:List α)(d:α):(List.range l.length).map (fun i=>l.getD i d)=l:=by
 refine List.ext_getElem (by simp) fun i h1 h2=>?_
 simp[h2]
theorem pd{ps:List (Int×Int)}{p:Array Nat}(hd:ps.Nodup)(P:Plc ps.length p)(a:Asc (fun i j=>c9 (ps.getD i (0,0)) (ps.getD j (0,0))) p ps.length):p.toList.map (fun i=>ps.getD i (0,0))=g8 ps:=by
 refine mw hd (by have:=P.pm.map (fun i=>ps.getD i (0,0));rwa [o9]at this) ?_
 refine List.pairwise_iff_getElem.mpr fun i j hi hj hij=>?_
 have hs:=P.sz
 have hi':i < p.size:=by simpa using hi
 have hj':j < p.size:=by simpa using hj
 have:=a i j hij (by omega)
 simpa[at_,Array.getD,hi',hj']using this
def PrH(K:PySem.W.Frag)(H:Hp):List V->List (Int×Int)->Prop
 | [],[]=>True
 | v::vs,x::ps=>(∃a,v=.ref a/\SqT K H a [.int x.1,.int x.2])/\PrH K H vs ps
 | _,_=>False
theorem PrH.len{K:PySem.W.Frag}{H:Hp}:∀{vs:List V}{ps:List (Int×Int)},PrH K H vs ps->vs.length=ps.length
 | [],[],_=>rfl
 | _::_,_::_,q=>by simp[q.2.len]
section
variable{X:Cx}{T:Tb}{W:Nat->L2.St->Hp->Prop}{Z:Zn}{F F1 B L:Addr->Prop}{H H1:Hp}{σ:L2.St}{env:En}{fp:Nat->List Addr}{pins:List (Addr×Obj)}{s:Shared}
theorem PrH.at(I:L2.Inv X pins σ H s):∀{vs:List V}{its:List Value}{ps:List (Int×Int)},PrH X.K H vs ps->aw vs its->bJ s.heap its ps
 | [],_,[],_,r=>by cases r;trivial
 | _::_,_,_::_,⟨⟨a,e,h⟩,q⟩,r=>by
  cases r with
  | cons h1 h2 =>
   subst e
   cases h1
   refine⟨?_,q.at I h2⟩
   obtain⟨its,r,pl,_⟩:=I.tuple h
   obtain⟨u,r2,rfl,⟨t,rfl⟩,r3⟩:∃u r2,its=u::r2/\aT _ u/\aw _ r2:=by cases r with | cons a b=>exact⟨_,_,rfl,a,b⟩
   obtain⟨u',rfl,⟨t',rfl⟩⟩:=eR r3
   obtain⟨o,ho,hcl,n,hd⟩:=pl
   exact⟨a,o,n,t,t',rfl,ho,hcl,hd⟩
theorem p4{vs:List V}{its:List Value}(r:aw vs its)(q:List Nat)(hq:∀i∈q,i < vs.length):aw (q.map fun i=>vs.getD i .non) (q.map fun i=>its.getD i Value.none):=by
 induction q with
 | nil=>exact .nil
 | cons i q ih =>
  refine .cons ?_ (ih fun j hj=>hq j (List.mem_cons_of_mem _ hj))
  have hi:=hq i List.mem_cons_self
  have:∀{vs:List V}{its:List Value}{i:Nat},aw vs its->i < vs.length->aT (vs.getD i .non) (its.getD i Value.none):=by
   intro vs its i r
   induction r generalizing i with
   | nil=>intro h;simp at h
   | cons a b ih =>
    intro h
    cases i with
    | zero=>simpa using a
    | succ i=>simpa using ih (by simpa using h)
  exact this r hi
theorem ky:∀{ns:List Int}{its:List Value},PyProof.Rows.IntsAre its ns->aw (ns.map V.int) its:=by
 intro ns its h
 induction h with
 | nil=>exact .nil
 | cons=>exact .cons ⟨_,rfl⟩ ‹_›
theorem lV:dC X (.builtin "sorted") (fun xs H Q=>∃ p ys,xs=[.ref p]/\SqL X.K H p ys/\ys.length < 64 /\
    ((∃ ns,ys=ns.map V.int/\∀ l,H l=none->Q (.ref l) (upd H l (.lst ((iD ns).map V.int)))) \/
     (∃ps,PrH X.K H ys ps/\ps.Nodup/\∀l (q:List Nat),H l=none->q.Perm (List.range ys.length)->q.map (fun i=>ps.getD i (0,0))=g8 ps->Q (.ref l) (upd H l (.lst (q.map fun i=>ys.getD i .non)))))):=by
  intro pins s σ H xs us Q I rv h
  obtain⟨p,ys,rfl,hq,h64,h⟩:=h
  obtain⟨u,rfl,rx⟩:=eR rv
  cases rx
  obtain⟨its,r,pl,hz⟩:=I.list hq
  have hlen:=r.length
  have hfr:=I.hok.fresh (Nat.le_succ s.heap.objs.size)
  rcases h with⟨ns,rfl,q⟩ |⟨ps,hp,hd,q⟩
  . refine sorted_ints pl.isList (d3 r) (by omega) fun out ns' a1 a2 a3=>?_
    obtain⟨c,hc⟩:=sortedAll_at s.heap its out
    have e:=my a2 a3
    subst e
    refine⟨.ref (s.heap.objs.size+1),_,I.laid (fun b o=>sortedAll_old) (Nat.le_succ _) ?_,rfl,q _ hfr⟩
    refine⟨?_,out.toList,c,ky a1,by simpa using hc⟩
    rw[sizeLine_eq];simp[(fM ns).length_eq]at h64 ⊢;omega
  . refine kb pl.isList (by omega) (hp.at I r) hd fun p P a=>?_
    obtain⟨c,hc⟩:=sortedAll_at s.heap its (iW its p)
    have hl:=hp.len
    have pm:p.toList.Perm (List.range ys.length):=by rw[hlen];exact P.pm
    refine⟨.ref (s.heap.objs.size+1),_,I.laid (fun b o=>sortedAll_old) (Nat.le_succ _) ?_,rfl,q _ p.toList hfr pm (pd hd (by rw[<- hl,hlen];exact P) (by rw[<- hl,hlen];exact a))⟩
    refine⟨?_,_,c,p4 r p.toList (fun i hi=>by simpa using pm.mem_iff.mp hi),hc⟩
    rw[sizeLine_eq];simp[P.sz,<- hlen];omega
end
end PR
namespace PR
open PySem PySem.Spec L2
def prV(x:Int×Int):PV:=.tup [.int x.1,.int x.2]
def iU:PV->Option (Int×Int)
 | .tup [.int a,.int b]=>some (a,b)
 | _=>none
def eT:List PV->Option (List (Int×Int))
 | []=>some []
 | x::xs=>match iU x,eT xs with
  | some y,some ys=>some (y::ys)
  | _,_=>none
def ge:PV->Res PV
 | .lst _ xs=>if decide (xs.length < 64) then (match bu xs with
  | some ns=>.ok (.lst .own ((iD ns).map .int))
  | none=>match eT xs with
   | some ps=>if decide ps.Nodup then .ok (.lst .own ((g8 ps).map prV))else .stuck
   | none=>.stuck)else .stuck
 | _=>.stuck
section
variable{X:Cx}{T:Tb}{W:Nat->St->Hp->Prop}{Z:Zn}{F F1 B L:Addr->Prop}{H H1:Hp}{σ:St}{env:En}{fp:Nat->List Addr}
theorem pj(e:iU x=some y):x=prV y:=by
 unfold iU at e
 split at e
 ·cases e;rfl
 ·cases e
theorem iT:∀{xs:List PV}{vs:List V}{f:List Addr}{ps:List (Int×Int)},eT xs=some ps->RelL T F B L H xs vs f->PrH T.K H vs ps/\f=[]
 | [],_,_,_,e,r=>by cases e;unfold RelL at r;obtain⟨rfl,rfl⟩:=r;exact⟨trivial,rfl⟩
 | x::xs,_,_,ps,e,r=>by
  unfold RelL at r
  obtain⟨v,ws,f1,f2,rfl,h1,h2,rfl⟩:=r
  unfold eT at e
  cases e1:iU x with
  | none=>rw[e1]at e;cases e
  | some y =>
   cases e2:eT xs with
   | none=>rw[e1,e2]at e;cases e
   | some ys =>
    rw[e1,e2]at e
    cases e
    obtain⟨q,rfl⟩:=iT e2 h2
    have:=pj e1
    subst this
    unfold prV Rel at h1
    obtain⟨a,us,rfl,hs,hr⟩:=h1
    unfold RelL at hr
    obtain⟨v1,w1,g1,g2,rfl,k1,k2,rfl⟩:=hr
    obtain⟨v2,rfl,k3⟩:=RelL.one k2
    unfold Rel at k1 k3
    obtain⟨rfl,rfl⟩:=k1
    obtain⟨rfl,rfl⟩:=k3
    exact⟨⟨⟨a,rfl,hs⟩,q⟩,rfl⟩
theorem PrH.rel:∀{vs:List V}{ps:List (Int×Int)},PrH T.K H vs ps->RelL T F B L H (ps.map prV) vs []
 | [],[],_=>fG _ _ _ _
 | _::_,x::ps,⟨⟨a,e,h⟩,q⟩=>by
  subst e
  rw[List.map_cons]
  unfold RelL
  refine⟨_,_,[],[],rfl,?_,q.rel,rfl⟩
  unfold prV Rel
  refine⟨a,_,rfl,h,?_⟩
  unfold RelL
  refine⟨_,_,[],[],rfl,d6,?_,rfl⟩
  unfold RelL
  exact⟨_,_,[],[],rfl,d6,fG _ _ _ _,rfl⟩
theorem PrH.get:∀{vs:List V}{ps:List (Int×Int)},PrH K H vs ps->∀i,i < vs.length->∃a,vs.getD i .non=.ref a/\SqT K H a [.int (ps.getD i (0,0)).1,.int (ps.getD i (0,0)).2]
 | _::_,_::_,⟨h,q⟩,0,_=>by simpa using h
 | _::_,_::_,⟨_,q⟩,i+1,hi=>by simpa using q.get i (by simpa using hi)
 | [],[],_,_,hi=>by simp at hi
theorem PrH.map(h:PrH K H vs ps)(q:List Nat)(hq:∀i∈q,i < vs.length):PrH K H (q.map fun i=>vs.getD i .non) (q.map fun i=>ps.getD i (0,0)):=by
 induction q with
 | nil=>trivial
 | cons i q ih=>exact⟨h.get i (hq i List.mem_cons_self),ih fun j hj=>hq j (List.mem_cons_of_mem _ hj)⟩
theorem nR(ns:List Int):RelL T F B L H (ns.map PV.int) (ns.map V.int) []:=by
 induction ns with
 | nil=>exact fG _ _ _ _
 | cons a l ih =>
  rw[List.map_cons,List.map_cons]
  unfold RelL
  exact⟨_,_,[],[],rfl,d6,ih,rfl⟩
theorem RelL.len2:∀{xs:List PV}{vs:List V}{f:List Addr},RelL T F B L H xs vs f->xs.length=vs.length
 | [],_,_,r=>by unfold RelL at r;rw[r.1];rfl
 | x::xs,_,_,r=>by
  unfold RelL at r
  obtain⟨v,ws,f1,f2,rfl,_,h2,_⟩:=r
  simp[h2.len2]
theorem mS(hK:X.K=T.K):Mir T W (p1 ge) (fun xs H Q=>∃ p ys,xs=[.ref p]/\SqL X.K H p ys/\ys.length < 64 /\
    ((∃ ns,ys=ns.map V.int/\∀ l,H l=none->Q (.ref l) (upd H l (.lst ((iD ns).map V.int)))) \/
     (∃ps,PrH X.K H ys ps/\ps.Nodup/\∀l (q:List Nat),H l=none->q.Perm (List.range ys.length)->q.map (fun i=>ps.getD i (0,0))=g8 ps->Q (.ref l) (upd H l (.lst (q.map fun i=>ys.getD i .non)))))):=by
  intro B F L σ H Q F' H' xs vs fx g r nf nd new q
  match xs,r,q with
  | [x],r,q =>
    obtain⟨v,rfl,r1⟩:=r.one
    simp only[p1]at q
    cases x with
    | lst f xs =>
      unfold Rel at r1
      obtain⟨a,ws,fp',rfl,hl,hr,_⟩:=r1
      simp only[ge]at q
      by_cases hn:decide (xs.length < 64)=true
      . rw[if_pos hn]at q
        refine⟨a,ws,rfl,by rw[hK];exact hl.sq,by rw[<- hr.len2];exact of_decide_eq_true hn,?_⟩
        cases e1:bu xs with
        | some ns =>
          rw[e1]at q
          dsimp only at q
          exact .inl ⟨ns,dr e1 hr,GE.newL q g (nR _) (fun _ h=>by cases h) .nil (fun _ h=>by cases h)⟩
        | none =>
          rw[e1]at q
          dsimp only at q
          cases e2:eT xs with
          | none=>rw[e2]at q;exact q.elim
          | some ps =>
            rw[e2]at q
            dsimp only at q
            by_cases hd:decide ps.Nodup=true
            . rw[if_pos hd]at q
              obtain⟨hp,rfl⟩:=iT e2 hr
              refine .inr ⟨ps,by rw[hK];exact hp,of_decide_eq_true hd,fun l q' hl' pm e=>?_⟩
              have h2:=hp.map q' fun i hi=>by simpa using pm.mem_iff.mp hi
              rw[e]at h2
              exact GE.newL q g h2.rel (fun _ h=>by cases h) .nil (fun _ h=>by cases h) l hl'
            . rw[if_neg hd]at q;exact q.elim
      . rw[if_neg hn]at q;exact q.elim
    | _=>exact q.elim
  | [],_,q=>exact q.elim
  | _::_::_,_,q=>simp only[p1]at q;exact q.elim
theorem pU:bootBuiltins "sorted" = some (.builtin "sorted"):=by decide +kernel
theorem jL(hK:X.K=T.K)(hg:Gl X "sorted")(hm:X.mg "sorted" = none)(ha:SE X T W e m)(he:starEach [e] X.env=[(false,eval e X.env)]:=by rfl):SE X T W (.Call (.Name "sorted" p) [e] [] pos) (am (p1 ge) (ae m aj)) :=
 eS lV (mS hK) hg hm pU (ac ha ag (by rw[he];rfl)) (he:=by rw[he];rfl) (hpl:=rfl)
end
def vc:Out->Out
 | .exc _ _=>.stuck
 | o=>o
def ow(mb:MS)(hit:Nat->Bool)(mh mo:MS):MS:=fun env=>match mb env with
 | .exc c e=>if hit c then vc (mh e)else .stuck
 | .next e=>mo e
 | o=>o
section
variable{X:Cx}{T:Tb}{W:Nat->St->Hp->Prop}{Z:Zn}{F:Addr->Prop}{H:Hp}{σ:St}{env:En}{fp:Nat->List Addr}
theorem sP(cx:Ctx X T W k)
  (hst:X.stack=X.env::X.outer) (hfr:X.env.frame=some X.env.locals)
  (hg:Gl X cn) (hm:X.mg cn=some (.ref CC)) (hhit:∀c,hit c=true->PySem.W.exmOne T.K (.ref (T.xcl c)) (.ref CC)=some true)
  (hb:∀E pn Wb,Ctx (X.tryX E pn) T Wb k->SSs (X.tryX E pn) T Wb body mb) (hs:∀e,SSs (X.hanX e) T WF (b₀::suite) mh) (ho:SSs X T W orelse mo) (hd:(cn ==("__debug__" : Str))=false:=by decide) :
  SS X T W (.Try body [.ExceptHandler (some (.Name cn pc)) none (b₀::suite) hp] orelse [] pos) (ow mb hit mh mo):=by
 intro pins s σ H D I h
 obtain⟨Z,F,env,fp,S,q⟩:=h
 unfold ow at q
 refine wpAny_Try_except ?_
 generalize hEb:(fun (e:Value) (s₁:Shared)=>wpAny (model X.prog X.w) X.A (noteFrame e X.env) (fun _ s₂=>wpAny (model X.prog X.w) X.A (setFlight e none) (fun _ s₃ =>
  wpAny (model X.prog X.w) X.A (handleBy e X.env [.ExceptHandler (some (.Name cn pc)) none (b₀::suite) hp]) (SP X pins D) X.xe s₃) X.xe s₂) X.xe s₁)=Eb
 have po:PassesOwn (model X.prog X.w) X.A X.env Eb:=by rw[<- hEb];exact PassesOwn.looking
 have ctx:Ctx (X.tryX Eb (X.pn++pins)) T (fun c σ' H'=>∃Z F env fp,ap T Z F H' σ' env fp/\hit c=true/\GS T W Z D (vc (mh env))) k:=by
  refine⟨cx.hK,cx.calm,cx.room,?_,po⟩
  intro pins' σ1 H1 s1 c H2 e s2 I1 fl hW
  have I1:=I1.untry
  obtain⟨Z,F,env,fp,S,hh,q⟩:=hW
  obtain⟨x,a0,Bh,rfl,f0,tr,ol⟩:=fl.fly
  show Eb (.ref x) s2
  rw[<- hEb]
  have f0':=f0
  rw[show(X.tryX Eb (X.pn++pins)).stack=X.env::X.outer from hst]at f0'
  refine wpAny_looks_onW (hst▸I1.ok.frames) hfr f0' fun h4 held4 up4=>wpAny_landsW held4 fun h5 f5 up5=>?_
  have f5':Heap.FlyingW Bh X.stack x (.ref (T.xcl c)) a0 h5:=by rw[hst];exact f5
  obtain⟨I5,nx,_⟩:=oB (g:=s2.gens) (d:=s2.drawn) (t:=s2.toks) I1 fl f0 tr ol f5' (up4.trans up5) fl.bare
  refine wpAny_handleBy_cons (codeAny_handlers_test ?_) (by intro z;cases z)
  refine el (X:=X.hanX (.ref x)) (pins:=pins) (I:=I5.hanX) hg hm ?_ hd
  obtain⟨o5,ho5,hc5⟩:=f5.there
  have lt:PySem.W.Looks (model X.prog X.w) h5 (typeOf (.ref x)) (.ref (T.xcl c)):=hc5 ▸(PySem.W.Looks.ld ho5).andThen .now
  have kin:T.K.In h5:=by rw[<- cx.hK];exact I5.kIn
  refine(PySem.W.exm_one kin lt (hhit c hh)).at ?_
  refine codeAny_handlers_suite ?_
  refine PyProof.Rows.lands_againW f5 fun h6 f6 up6=>?_
  have f6':Heap.FlyingW Bh X.stack x (.ref (T.xcl c)) a0 h6:=by rw[hst];exact f6
  obtain⟨I6,_,_⟩:=oB (g:=s2.gens) (d:=s2.drawn) (t:=s2.toks) I1 fl f0 tr ol f6' ((up4.trans up5).trans up6) fl.bare
  refine wpAny_mono (hs (.ref x) pins _ _ _ D I6.hanX ⟨Z,F,_,_,S.grow (Gr.same S.hp.ft (Ext.upd nx)),?_⟩) (fun f s8 h8=>?_) fun _ _ z=>z.elim
  ·cases e:mh env with
   | next e' | brk e' | cont e' | ret v=>rw[e]at q;exact q
   | exc c' e' | stuck=>rw[e]at q;exact q.elim
  ·cases f with
   | next | brk | cont=>obtain⟨σ',H',I8,q8⟩:=h8;exact⟨σ',H',I8.unhan I.ok,q8⟩
   | ret u=>obtain⟨v,σ',H',I8,r8,q8⟩:=h8;exact⟨v,σ',H',I8.unhan I.ok,r8,q8⟩
 have r:=hb Eb (X.pn ++ pins) _ ctx [] s σ H ⟨fun σ' H'=>tS T W mo D σ' H',D.rt,D.bk,D.ct⟩ I.tryX ⟨Z,F,env,fp,S,by
  cases e:mb env with
  | next e'=>rw[e]at q;exact fun F' H' σ' fp' S'=>⟨Z,F',e',fp',S',q⟩
  | brk e' | cont e' | ret v=>rw[e]at q;exact q
  | exc c e' =>
   rw[e]at q
   dsimp only at q
   intro F' H' σ' fp' S'
   by_cases hh:hit c=true
   ·rw[if_pos hh]at q;exact⟨Z,F',e',fp',S',hh,q⟩
   ·rw[if_neg hh]at q;exact q.elim
  | stuck=>rw[e]at q;exact q.elim⟩
 refine wpAny_mono r (fun f s1 h1=>?_) fun e s1 h1=>?_
 ·cases f with
  | next=>obtain⟨σ',H',I1,q1⟩:=h1;exact ho pins s1 σ' H' D I1.untry q1
  | brk | cont=>obtain⟨σ',H',I1,q1⟩:=h1;exact⟨σ',H',I1.untry,q1⟩
  | ret u=>obtain⟨v,σ',H',I1,r1,q1⟩:=h1;exact⟨v,σ',H',I1.untry,r1,q1⟩
 ·exact h1
theorem cS(hg:Gl X x)(hm:∃t,X.mg x=some (.int i t))(hd:(x ==("__debug__" : Str))=false:=by decide):SE X T W (.Name x pos) (mC (.int i)):=by
 obtain⟨t,h⟩:=hm
 exact qm hg h hd
end
def nV{α:Type}(n:Nat)(y:α)(xs:List α):List α:=xs.take n++y::xs.drop n
section
variable{X:Cx}{T:Tb}{W:Nat->St->Hp->Prop}{Z:Zn}{F F1 B L:Addr->Prop}{H H1:Hp}{σ:St}{env:En}{fp:Nat->List Addr}{D:Ends}
theorem RelL.ins(hv:Rel T F B L H v u []):∀(n:Nat) {xs:List PV}{ws:List V}{f:List Addr},RelL T F B L H xs ws f->RelL T F B L H (nV n v xs) (nV n u ws) f
 | 0,xs,ws,f,h=>by
  show RelL T F B L H (v::xs) (u::ws) f
  unfold RelL
  exact⟨u,ws,[],f,rfl,hv,h,rfl⟩
 | n+1,[],ws,f,h=>by
  unfold RelL at h
  obtain⟨rfl,rfl⟩:=h
  show RelL T F B L H [v] [u] []
  unfold RelL
  exact⟨u,[],[],[],rfl,hv,fG _ _ _ _,rfl⟩
 | n+1,x::xs,ws,f,h=>by
  unfold RelL at h
  obtain⟨w,ws,f1,f2,rfl,h1,h2,rfl⟩:=h
  show RelL T F B L H (x::nV n v xs) (w::nV n u ws) _
  unfold RelL
  exact⟨w,_,f1,f2,rfl,h1,RelL.ins hv n h2,rfl⟩
end
section
variable{X:Cx}{T:Tb}{W:Nat->St->Hp->Prop}{Z:Zn}{F F1 B L:Addr->Prop}{H H1:Hp}{σ:St}{env:En}{fp:Nat->List Addr}{pins:List (Addr×Obj)}{s:Shared}{a b:Expr}{ma mb:ME}{pos:Pos}
end
def hJ:PV->PV->Res PV
 | x,.int i=>match aO x with
  | some xs=>match atI xs i with
   | some y=>.ok y
   | none=>.stuck
  | none=>.stuck
 | _,_=>.stuck
section
variable{X:Cx}{T:Tb}{W:Nat->St->Hp->Prop}
theorem qW(hK:X.K=T.K):g7 T W hJ (fun x y H Q=>tw X.K x y H Q \/(tm X.K x y H Q\/tq x y H Q)):=by
 intro B F L σ H Q F' H' x y v u fx fy g rx ry nf nd new q
 cases y with
 | int i =>
  simp only[hJ]at q
  cases e:aO x with
  | none=>rw[e]at q;exact q.elim
  | some xs =>
   rw[e]at q
   dsimp only at q
   obtain⟨a,ws,fx',rfl,hs,hr,sl⟩:=rx.seq e
   cases e2:atI xs i with
   | none=>rw[e2]at q;exact q.elim
   | some z =>
    rw[e2]at q
    dsimp only at q
    obtain⟨w,f',h1,h2,h3⟩:=oR hr e2
    unfold Rel at ry
    obtain⟨rfl,rfl⟩:=ry
    rw[List.append_nil]at nf nd new
    have s2:=h3.trans sl
    have q':Q w H':=q w H' F' f' g h2 (fun a ha=>nf a (s2.subset ha)) (nd.sublist s2) (fun a ha=>new a (s2.subset ha))
    rcases hs with hs | hs
    ·exact .inl ⟨a,ws,i,w,rfl,rfl,by rw[hK];exact hs,h1,q'⟩
    ·exact .inr (.inl ⟨a,ws,i,w,rfl,rfl,by rw[hK];exact hs,h1,q'⟩)
 | _=>exact q.elim
theorem sX(hK:X.K=T.K)(ha:SE X T W a ma)(hb:SE X T W b mb)(hs:fw b):SE X T W (.Subscript a b pos) (mOp hJ ma mb) :=
 uM rq (qW hK) ha hb hs
end
structure Sup(K:PySem.W.Frag)(C f:Addr):Prop where
 ga:PySem.W.specialIn K (.ref C) "__getattribute__" = some (some (.builtin "type.__getattribute__"))
 rd:PySem.W.readsIn K C (.type "type")=true
 fc:PySem.W.findCls K (.ref C) (.type "type") "__init__" = some (.val (.ref f))
 kp:PySem.W.keepIn K (.ref f)=true
def gL(m:List PV->Res PV)(ms:MA):MS:=fun env=>match (env[(0:Nat)]?:Option (Option PV))with
 | some (some (.obj .own c ks vs))=>match ms env with
  | .ok xs=>if hasL Fl.isLnt xs then .stuck else match m (.obj .own c ks vs::mapL Fl.toBor xs)with
   | .ok (.obj fl c' ks' vs')=>if(PV.obj fl c' ks' vs').has Fl.isBor then .stuck else .next (env.set 0 (some (.obj fl c' ks' vs')))
   | _=>.stuck
  | .exc c=>.exc c env
  | .stuck=>.stuck
 | _=>.stuck
section
variable{X:Cx}{T:Tb}{W:Nat->St->Hp->Prop}{Z:Zn}{F F1 F3:Addr->Prop}{H H1 H3:Hp}{σ:St}{env:En}{fp:Nat->List Addr}
theorem ap.sup(S:ap T Z F H σ env fp)(h0:σ[0]?=some (some v0))(hl:0 < env.length)
  (nx:∀a∈fx,Z.H0 a=none\/Z.fp0 a) (nj:∀a∈fx,∀i,a∉fp i) (nF:∀a∈fx,¬F a) (cx:∀a∈fx,∃o,H a=some o/\Chg o)
  (hp3:dB T ⟨H,F,(·∈fp 0++fx),B',some v0⟩ F3 H3) (r:Rel T F3 B' NoL H3 o v0 f3) (hb:o.has Fl.isBor=false) (nd3:f3.Nodup) (nf3:∀a∈f3,¬F3 a) (new3:∀a∈f3,H a=none\/a∈fp 0++fx)
  (ho:∃fl c ks xs,o=.obj fl c ks xs):ap T Z F3 H3 σ (env.set 0 (some o)) (aV fp 0 f3):=by
 have zfree:∀a,H a=none->Z.H0 a=none\/Z.fp0 a:=fun a z=>by
  by_cases q:Z.fp0 a
  ·exact .inr q
  ·refine .inl ?_
   cases w:Z.H0 a with
   | none=>rfl
   | some o=>rw[S.hp.keep a o w q]at z;exact(nomatch z)
 have inn:∀a∈fp 0++fx,Z.H0 a=none\/Z.fp0 a:=fun a h=>by
  rcases List.mem_append.mp h with h | h
  ·exact S.new 0 a h
  ·exact nx a h
 have jn:∀j,j≠0->∀a∈fp j,a∉fp 0++fx:=fun j hj a ha z=>by
  rcases List.mem_append.mp z with z | z
  ·exact S.dj j 0 hj a ha z
  ·exact nj a z j ha
 have chgn:∀a∈fp 0++fx,∃o,H a=some o/\Chg o:=fun a h=>by
  rcases List.mem_append.mp h with h | h
  ·exact S.ch 0 a h
  ·exact cx a h
 have rel':Rel T F3 Z.B NoL H3 o v0 f3:=Rel.noB hb r
 refine⟨⟨S.hp.bo,fun a u e n=>hp3.keep a u (S.hp.keep a u e n) fun z=>?_,fun a h=>hp3.f0 a (S.hp.f0 a h),fun a h=>?_,hp3.ft⟩,by rw[List.length_set,S.len],fun j pv e=>?_,fun j=>?_,fun j k hjk b hb=>?_,fun j b hb=>?_,fun j b hb=>?_,fun j b hb=>?_,fun w hw=>?_⟩
 ·rcases inn a z with q | q
  ·rw[e]at q;cases q
  ·exact n q
 ·rcases hp3.fn a h with z | z | z
  ·exact S.hp.fn a z
  ·exact .inr (zfree a z)
  ·exact .inr (inn a z)
 ·by_cases hj:j=0
  ·subst hj
   rw[List.getElem?_set_self hl]at e
   cases e
   refine⟨v0,h0,?_⟩
   unfold aV
   rw[if_pos rfl]
   exact rel'
  ·rw[List.getElem?_set_ne (Ne.symm hj)]at e
   obtain⟨w,h1,h2⟩:=S.rel j pv e
   refine⟨w,h1,?_⟩
   unfold aV
   rw[if_neg hj]
   refine Rel.tr (fun a h=>hp3.f0 a h) (fun _ h=>h) (fun _ h=>h) (fun b u q h=>hp3.keep b u q fun z=>?_) (fun b hb u q=>hp3.keep b u q (jn j hj b hb)) h2
   rcases h with h | h | h | h
   ·rcases List.mem_append.mp z with z | z
    ·exact(S.dis 0 b z).1 h
    ·exact nF b z h
   ·obtain⟨⟨o',e1⟩,e2⟩:=S.hp.bo b h
    rcases inn b z with q' | q'
    ·rw[e1]at q';cases q'
    ·exact e2 q'
   ·exact h
   ·obtain⟨o',e1,e2⟩:=chgn b z
    have q1:H b=some u:=q
    rw[q1]at e1
    cases e1
    cases u with
    | lst _ | ins _ _ _=>exact h
    | _=>exact e2
 ·unfold aV;split
  ·exact nd3
  ·exact S.nd j
 ·unfold aV at hb ⊢
  have fj:∀i,i≠0->∀a∈f3,a∉fp i:=fun i hi a ha z=>by
   rcases new3 a ha with q | q
   ·obtain⟨_,o',e⟩:=S.dis i a z
    rw[e]at q;cases q
   ·exact jn i hi a z q
  by_cases h1:j=0
  ·subst h1
   rw[if_pos rfl]at hb
   rw[if_neg (Ne.symm hjk)]
   exact fj k (Ne.symm hjk) b hb
  ·rw[if_neg h1]at hb
   by_cases h2:k=0
   ·subst h2
    rw[if_pos rfl]
    exact fun z=>fj j h1 b z hb
   ·rw[if_neg h2]
    exact S.dj j k hjk b hb
 ·unfold aV at hb
  by_cases h1:j=0
  ·rw[if_pos h1]at hb;exact⟨nf3 b hb,r.there b hb⟩
  ·rw[if_neg h1]at hb
   obtain⟨n,u,e⟩:=S.dis j b hb
   refine⟨fun z=>?_,u,hp3.keep b u e (jn j h1 b hb)⟩
   rcases hp3.fn b z with q | q | q
   ·exact n q
   ·have q':H b=none:=q
    rw[e]at q';cases q'
   ·exact jn j h1 b hb q
 ·unfold aV at hb
  by_cases h1:j=0
  ·rw[if_pos h1]at hb
   rcases new3 b hb with q | q
   ·exact zfree b q
   ·exact inn b q
  ·rw[if_neg h1]at hb;exact S.new j b hb
 ·unfold aV at hb
  by_cases h1:j=0
  ·rw[if_pos h1]at hb;exact r.chg b hb
  ·rw[if_neg h1]at hb
   obtain⟨u,e,c⟩:=S.ch j b hb
   exact⟨u,hp3.keep b u e (jn j h1 b hb),c⟩
 ·obtain⟨h1,h2⟩:=S.pn w hw
  refine⟨h1,?_⟩
  obtain⟨fl,c,ks,xs,e⟩:=ho
  subst e
  unfold cK
  rw[List.getElem?_set_self hl]
theorem vp
  (cx:Ctx X T W kk) (U:Sup X.K C f) (G:bC X.prog X.w X.K X.mg X.base (CXP X.prog X.w) k f fd ps (spI T ps.length m)) (hk:k<=kk) (hg:Gl X x) (hm:X.mg x=some (.ref C)) (hb:cE X.K fd ps [])
  (hN:X.N[0]?=some y) (hv:Vis X.env.scope y) (hn:dA ms n) (hps:n+1=ps.length) (ha:SA X T W es ms)
  (hdb:(x ==("__debug__" : Str))=false:=by decide) (hdy:(y ==("__debug__" : Str))=false:=by decide) (hcy:(y ==("__classdict__" : Str))=false:=by decide)
  (hst:starEach (.Name y px::es) X.env=(false,eval (.Name y px) X.env)::starEach es X.env:=by rfl) (hpl:(backTo pos (starEach es X.env)).any (·.1)=false:=by rfl)
  (ht:eval (.Call (.Attribute (.Name x p) "__init__" apos) (.Name y px::es) [] pos) X.env=(do
   let ov <- eval (.Name x p) X.env
   standAt apos.atName
   let(f,first) <- holding [ov] (getMethod ov "__init__" pl)
   callWith pos f first (backTo pos (starEach (.Name y px::es) X.env)) (backToKw pos (keywordEach [] X.env))):=by rfl)
  (hs:swapsWith (.Call (.Attribute (.Name x p) "__init__" apos) (.Name y px::es) [] pos) none pos'.line X.env=pure false:=by rfl) :
  SS X T W (.Expr (.Call (.Attribute (.Name x p) "__init__" apos) (.Name y px::es) [] pos) pos') (gL m ms):=by
 have pe:PE X (.Call (.Attribute (.Name x p) "__init__" apos) (.Name y px::es) [] pos) (fun σ H Q=>∃ Z F env fp,ap T Z F H σ env fp/\(match gL m ms env with
   | .next e=>∀F' H' fp',ap T Z F' H' σ e fp'->Q .non H'
   | .exc c e=>∀F' H' fp',ap T Z F' H' σ e fp'->W c σ H'
   | _=>False)):=by
  intro pins s σ H Q I h
  obtain⟨Z,F,env,fp,S,q⟩:=h
  refine PySem.W.methodCall_KW (pl:=pl) (el I hg hm ?_ hdb) ht
  refine PySem.W.method_cls I.kIn U.ga (PySem.W.cls_value I.kIn U.rd U.fc rfl ?_)
  have I':=I.tok (s.toks+1)
  unfold gL at q
  cases e0:env[0]? with
  | none=>rw[e0]at q;exact q.elim
  | some o0 =>
  cases o0 with
  | none=>rw[e0]at q;exact q.elim
  | some ov =>
  obtain⟨v0,hv0,r0⟩:=S.rel 0 ov e0
  have hl0:0 < env.length:=(List.getElem?_eq_some_iff.mp e0).1
  rw[e0]at q
  by_cases hob:∃c ks vs,ov=.obj .own c ks vs
  case neg =>
   exfalso
   cases ov with
   | obj fl c ks vs =>
    cases fl with
    | own=>exact hob ⟨_,_,_,rfl⟩
    | _=>exact q
   | _=>exact q
  obtain⟨c,ks,vs0,rfl⟩:=hob
  dsimp only at q
  have pa:=cq (X:=X) (bM (pos:=px) hN hv hdy hcy) ha hst
  refine PySem.W.callWith_K (first:=[]) (h₀:=X.base) I'.ok.mod.kin U.kp (thn (pa pos pins _ σ H (fun vs H1=>∀ us s1,L2.Inv X pins σ H1 s1->aw vs us->wpAny (model X.prog X.w) X.A (call (.ref f) us) (EP X pins σ Q) X.xe s1) I'
   ⟨v0,hv0,tA.bind S (fun c e=>?_) (fun e=>by rw[e]at q;exact q) fun xs vs H1 F1 f1 e1 g1 r1 n1 d1 w1 us s1 I1 rv=>?_⟩) fun us s1 ⟨vs,H1,I1,r,q1⟩=>⟨I1.kIn,q1 us s1 I1 r⟩) hst hpl
  ·rw[e]at q
   exact fun H' x=>q F H' fp (S.grow (Gr.same S.hp.ft x))
  rw[e1]at q
  dsimp only at q
  by_cases hln:hasL Fl.isLnt xs=true
  ·rw[if_pos hln]at q;exact q.elim
  rw[if_neg hln]at q
  have hln':hasL Fl.isLnt xs=false:=by simpa using hln
  have S1:=S.grow g1
  obtain⟨v0',hv0',r0'⟩:=S1.rel 0 _ e0
  rw[hv0]at hv0'
  cases hv0'
  have xn:∀a∈f1,∀i,a∉fp i:=fun a ha i hi=>by
   obtain⟨_,o,e⟩:=S.dis i a hi
   rw[w1 a ha]at e;cases e
  have xz:∀a∈f1,Z.H0 a=none\/Z.fp0 a:=fun a ha=>by
   by_cases q:Z.fp0 a
   ·exact .inr q
   ·refine .inl ?_
    cases w:Z.H0 a with
    | none=>rfl
    | some o =>
     have:=w1 a ha
     rw[S.hp.keep a o w q]at this;cases this
  have hBo:∀a,Z.B a->(∃o,H1 a=some o)/\a∉fp 0++f1:=fun a h=>by
   obtain⟨⟨o,h1⟩,h2⟩:=S.hp.bo a h
   have h3:=S.hp.keep a o h1 h2
   refine⟨⟨o,g1.ext a o h3⟩,fun z=>?_⟩
   rcases List.mem_append.mp z with z | z
   ·exact S.bow a h ⟨0,z⟩
   ·rw[w1 a z]at h3;cases h3
  have R:ny T F1 (fun a=>(∃o,H1 a=some o)/\a∉fp 0++f1) H1 (.obj .own c ks vs0::mapL Fl.toBor xs) (v0::vs) (fp 0++f1):=by
   refine⟨?_,List.nodup_append.mpr ⟨S.nd 0,d1,fun a ha b hb z=>by subst z;exact xn a hb 0 ha⟩,fun a ha=>?_,fun a h=>h,g1.dom⟩
   ·unfold RelL
    refine⟨v0,vs,fp 0,f1,rfl,Rel.tr (fun _ h=>h) hBo (fun _ h=>h) (fun _ _ q _=>q) (fun _ _ _ q=>q) r0',?_,rfl⟩
    exact RelL.toBor hBo (fun _ h=>h.elim) (RelL.noL (L':=NoL) hln' r1)
   ·rcases List.mem_append.mp ha with ha | ha
    ·exact(S1.dis 0 a ha).1
    ·exact n1 a ha
  have r2:aw (v0::vs) us:=rv
  have hl:us.length=ps.length:=by
   rw[<- r2.length,List.length_cons,<- r1.length,hn env xs e1]
   exact hps
  refine wpAny_call (codeAny_mono (G.run X.A X.stack s1 H1 ⟨us,[]⟩ us (v0::vs) Q (fun cls _ H'=>∃ c,cls=.ref (T.xcl c)/\W c σ H') (cx.room.mono hk) I1.env0 (by simpa using hb s1 us I1.kIn (by simpa using hl)) r2
   ⟨by rw[r2.length,hl],v0,_,F1,_,_,rfl,R,⟨.own,c,ks,vs0,rfl⟩,?_⟩) fun rs s' hq=>?_)
  ·cases e:m (.obj .own c ks vs0::mapL Fl.toBor xs)with
   | ok o =>
    rw[e]at q
    cases o with
    | obj fl c' ks' vs' =>
     dsimp only at q
     by_cases hbr:(PV.obj fl c' ks' vs').has Fl.isBor=true
     ·rw[if_pos hbr]at q;exact q.elim
     ·rw[if_neg hbr]at q
      dsimp only at q
      have hbr':(PV.obj fl c' ks' vs').has Fl.isBor=false:=by simpa using hbr
      intro F3 H3 f3 hp3 r3 nd3 nf3 new3
      exact q F3 H3 _ (S1.sup hv0 hl0 xz xn n1 r1.chg hp3 r3 hbr' nd3 nf3 new3 ⟨_,_,_,_,rfl⟩)
    | _=>exact q.elim
   | exc c | stuck=>rw[e]at q;exact q.elim
  ·cases rs with
   | error e =>
    obtain⟨cls,H',fl,c,rfl,hw⟩:=hq
    exact cx.xf pins σ H1 s1 c H' e s' I1 fl hw
   | ok fl =>
    cases fl with
    | ret u=>exact I1.after hq
    | next | brk | cont=>exact False.elim hq
 exact PS.wk (ff (pos:=pos') pe hs) fun D σ H ⟨Z,F,env,fp,S,q⟩=>by
  refine⟨Z,F,env,fp,S,?_⟩
  cases e:gL m ms env with
  | next e' | exc c e'=>rw[e]at q;exact fun F' H' fp' S'=>q F' H' σ fp' S'
  | ret v =>
   exfalso
   revert e
   unfold gL
   split
   ·split
    ·split
     ·simp
     ·split
      ·split<;>simp
      ·simp
    ·simp
    ·simp
   ·simp
  | brk e' =>
   exfalso
   revert e
   unfold gL
   split
   ·split
    ·split
     ·simp
     ·split
      ·split<;>simp
      ·simp
    ·simp
    ·simp
   ·simp
  | cont e' =>
   exfalso
   revert e
   unfold gL
   split
   ·split
    ·split
     ·simp
     ·split
      ·split<;>simp
      ·simp
    ·simp
    ·simp
   ·simp
  | stuck=>rw[e]at q;exact q
end
@[irreducible] def Bx(p:Prop):Prop:=p
theorem Bx.mk(h:p):Bx p:=by unfold Bx;exact h
section
variable{X:Cx}{T:Tb}{W:Nat->St->Hp->Prop}
end
end PR
namespace PR
open PySem PySem.Spec L2 PyProof.Rows
section
variable{X:Cx}{T:Tb}{W:Nat->L2.St->Hp->Prop}{Z:Zn}{F F1 B L:Addr->Prop}{H H1:Hp}{σ:L2.St}{env:En}{fp:Nat->List Addr}{D:Ends}
end
end PR
namespace L2
open PySem PySem.Spec PyProof.Rows
section
variable{X:Cx}{e st:Expr}{te ts:TE}{pos p2:Pos}
end
end L2
namespace PR
open PySem PySem.Spec L2
section
variable{X:Cx}{T:Tb}{W:Nat->St->Hp->Prop}{Z:Zn}{F F1 B L:Addr->Prop}{H H1:Hp}{σ:St}{env:En}{fp:Nat->List Addr}
end
section
variable{X:Cx}{T:Tb}{W:Nat->St->Hp->Prop}
end
def r6:List PV->Option (List Bool)
 | []=>some []
 | .bl b::xs=>(r6 xs).map (b::·)
 | _=>none
section
variable{X:Cx}{T:Tb}{W:Nat->St->Hp->Prop}{Z:Zn}{F F1 B L:Addr->Prop}{H H1:Hp}{σ:St}{env:En}{fp:Nat->List Addr}{pins:List (Addr×Obj)}{s:Shared}
end
section
variable{X:Cx}{T:Tb}{W:Nat->St->Hp->Prop}{Z:Zn}{F:Addr->Prop}{H:Hp}{σ:St}{env:En}{fp:Nat->List Addr}
end
end PR
namespace L2
open PySem PySem.Spec PyProof.Rows
section
variable{X:Cx}{a b c d:Expr}{ta tb tc td:TE}{pos:Pos}
end
end L2
namespace PR
open PySem PySem.Spec L2
section
variable{X:Cx}{T:Tb}{W:Nat->St->Hp->Prop}
end
def dh:PV->Res PV
 | .bl b=>.ok (.int (if b then 1 else 0))
 | .int i=>.ok (.int i)
 | _=>.stuck
section
variable{X:Cx}{T:Tb}{W:Nat->St->Hp->Prop}
theorem lW:dC X (.type "int") (fun xs H Q=>(∃b,xs=[.bl b]/\Q (.int (if b then 1 else 0)) H)\/ ∃i,xs=[.int i]/\Q (.int i) H):=by
 intro pins s σ H xs us Q I rv h
 rcases h with⟨b,rfl,q⟩ |⟨i,rfl,q⟩
 ·obtain⟨u,rfl,rx⟩:=eR rv
  cases rx
  exact PySem.call_int_bool ⟨.int _,H,i_ I fun _ _ e=>e,⟨_,rfl⟩,q⟩
 ·obtain⟨u,rfl,rx⟩:=eR rv
  obtain⟨t,rfl⟩:=rx
  exact PySem.call_int_int ⟨.int _,H,I,⟨_,rfl⟩,q⟩
theorem pB:Mir T W (p1 dh) (fun xs H Q=>(∃b,xs=[.bl b]/\Q (.int (if b then 1 else 0)) H)\/ ∃i,xs=[.int i]/\Q (.int i) H):=by
 intro B F L σ H Q F' H' xs vs fx g r nf nd new q
 match xs,r,q with
 | [x],r,q =>
  obtain⟨v,rfl,r1⟩:=r.one
  cases x with
  | bl b =>
   unfold Rel at r1
   obtain⟨rfl,_⟩:=r1
   exact .inl ⟨b,rfl,q.scal g d6⟩
  | int i =>
   unfold Rel at r1
   obtain⟨rfl,_⟩:=r1
   exact .inr ⟨i,rfl,q.scal g d6⟩
  | _=>exact q.elim
 | [],_,q | _::_::_,_,q=>exact q.elim
theorem iG(hg:Gl X "int")(hm:X.mg "int" = none)(ha:SE X T W e m)(he:starEach [e] X.env=[(false,eval e X.env)]:=by rfl):SE X T W (.Call (.Name "int" p) [e] [] pos) (am (p1 dh) (ae m aj)) :=
 gF lW pB hg hm sh (ac ha ag he) (he:=he)
end
open AutoSeq1 (wpAny_loadPart')
section
variable{prog:Program}{w:World}{A:Around}{E:Value->Shared->Prop}{s:Shared}
theorem pT(ft:TypeCalled T nI iI)
  (c1:checkTypeCall T ⟨us,kw⟩=pure ()) (c2:checkBuiltinCall nI ⟨.type T::us,kw⟩=pure ()) (eN:entryFor table nI=some Bn) (eI:entryFor table iI=some Bi) (g:Meets (Bn ⟨.type T::us,kw⟩) S)
  (h:S A.in1 (wants Q1 E) s) (nx:∀ob s1,Q1 ob s1->s1.TypeIs ob T/\argsOk iI ⟨ob::us,kw⟩/\∃Si,Meets (Bi ⟨ob::us,kw⟩) Si/\Si A.in1 (wants (fun r s2=>r=.none/\Q ob s2) E) s1) :
  wpAny (model prog w) A (call (.type T) us kw) Q E s:=by
 obtain⟨cc,tt,hmro⟩:=ft.mro
 have hmade:=ft.made;have hsub:=ft.sub;have h1:=ft.notType;have h2:=ft.canCreate
 refine wpAny_call (codeAny_of_tree (show wpAny _ _ (callAny (.type T) _) _ _ _ from wpAny_pure ⟨Code.quiet_builtin _ (by decide +kernel),codeAny_builtin F.entry_type_call ?_⟩))
 rw[Around.under_plain (weight_type_call_type T us kw) (units_type_call_type T us kw)]
 repeat (any_goals (first | assumption | wp_step | fail))
 refine codeAny_mono (codeAny_call_builtin ft.plain eN (wpAny_of_eq c2 (g prog w A.in1 _ s h))) fun r s1 hr=>?_
 cases r with
 | error e=>exact hr
 | ok fl =>
  cases fl with
  | ret ob =>
   obtain⟨hT,hok,Si,gi,hsi⟩:=nx _ _ hr
   have hli:=ft.init.lookup;have hbi:=ft.init.bind ob
   repeat (any_goals (first | assumption | wp_step | fail))
   refine codeAny_mono (codeAny_call_builtin ft.init.plain eI (ft.init.check _ _ _ _ _ _ _ _ hT hok (gi prog w A.in1 _ s1 hsi))) fun r2 s2 hr2=>?_
   cases r2 with
   | error e=>exact hr2
   | ok fl2 =>
    cases fl2 with
    | ret r =>
     obtain⟨rfl,hq⟩:=hr2
     repeat (any_goals (first | assumption | wp_step | fail))
    | _=>exact hr2.elim
  | _=>exact hr.elim
abbrev itO(n:String)(l:Addr):Obj:={ cls:=.type n,data:=.fields #[.ref l,.int 0 0] }
inductive zG(h:Heap)(it l:Addr)(its:Array Value)(i:Nat):Prop
 | lst (a:h.IsListIter it l i) (b:h.IsList l its)
 | tup (a:h.IsTupleIter it l i) (b:h.IsTuple l its)
theorem zG.obj(x:zG h it l its i):∃o,h.get? it=some o/\∀v,o.data≠.cell v:=by
 rcases x with⟨⟨o,e,_,d⟩,_⟩ |⟨⟨o,e,_,d⟩,_⟩
 ·exact⟨o,e,fun v z=>by rw[d]at z;cases z⟩
 ·exact⟨o,e,fun v z=>by rw[d]at z;cases z⟩
end
section
variable{X:Cx}{T:Tb}{W:Nat->St->Hp->Prop}{Z:Zn}{F F1 B L:Addr->Prop}{H H1:Hp}{σ:St}{env:En}{pins:List (Addr×Obj)}{s:Shared}
theorem pI{fp:List Addr}{vs:List V}(I:L2.Inv X pins σ H s)(hf:∀b∈fp,ij X pins H b)(k:∀b o,b∉fp->s.heap.get? b=some o->h'.get? b=some o)(hp:s.heap.objs.size<=a)(new:b5 X.prog X.w (upd H a (.tup vs)) h' a (.tup vs)) :
  L2.Inv X pins σ (upd H a (.tup vs)) { s with heap:=h',toks:=t' }:=by
 have hn:H a=none:=I.hok.fresh hp
 have nit:∀b u,H b=some u->b∉fp:=fun b u e z=>by rw[(hf b z).1]at e;cases e
 refine I.step (g':=s.gens) (d':=s.drawn) (ch:=fp) (fun b hb=>?_) (fun b o _ _ hc e _=>k b o hc e) (fun b o _ _ hc e _=>⟨o.slots,k b o hc e⟩) (fun b o _ e n=>?_) (fun b o hc e=>⟨o,k b o hc e⟩)
  (fun b xs e=>by rw[ar (a7 e hn)];exact e) (fun b o u e=>by rw[ar (a7 e hn)];exact e) (fun b ps e=>⟨#[],by rw[ar (a7 e hn),e];simp⟩) (fun m hm=>?_) (fun b u e=>?_) I.bare
 ·obtain⟨_,q1,_,q3,q4,q5⟩:=hf b hb
  exact⟨q3,q1,q4,q5⟩
 ·rw[ar (Nat.ne_of_lt (Nat.lt_of_lt_of_le (Heap.lt_size e) hp))];exact n
 ·obtain⟨o,es,ep,ho,r⟩:=hm
  exact⟨o,es,ep,k _ o (fun z=>(hf _ z).2.1 rfl) ho,r⟩
 ·by_cases hb:b=a
  ·subst hb;rw[aH]at e;cases e;exact new
  ·rw[ar hb]at e
   refine(I.hok b u e).stay (fun c v hc q=>k c v ?_ q) (fun c q=>by rw[ar (a7 q hn)];exact q) fun c xs q=>by rw[ar (a7 q hn)];exact q
   rcases hc with z | z
   ·rw[z];exact nit b u e
   ·exact nit c _ z
end
section
variable{X:Cx}{T:Tb}{W:Nat->St->Hp->Prop}{Z:Zn}{F F1 B L:Addr->Prop}{H H1:Hp}{σ:St}{env:En}{fp:Nat->List Addr}
end
section
variable{X:Cx}{T:Tb}{W:Nat->St->Hp->Prop}{Z:Zn}{F F1 B L:Addr->Prop}{H H1:Hp}{σ:St}{env:En}{fp:Nat->List Addr}{D:Ends}
end
open AutoSeq1 (wpAny_loadPart')
section
variable{prog:Program}{w:World}{A:Around}{E:Value->Shared->Prop}{s:Shared}
abbrev zTI(n:Addr):Obj:={ cls:=.type "tuple", data:=.seq #[.ref n,.ref (n+1)] }
abbrev zTO:Obj:={ cls:=.type "tuple", data:=.seq #[.none,.none] }
abbrev zO(n:Addr):Obj:={ cls:=.type "zip", data:=.fields #[.none,.bool false,.bool false,.ref (n+2),.ref (n+3)] }
abbrev uK(h:Heap)(l1 l2:Addr):Heap:=((((h.push (itO "list_iterator" l1)).push (itO "list_iterator" l2)).push (zTI h.objs.size)).push zTO).push (zO h.objs.size)
theorem yj(hl:typeLookup (.type T) "__init__" = pure (some (.builtin "object.__init__")))(hm:Bind.madeBy (.type T)=pure (some nI))(hne:(some nI != some "object.__new__")=true) :
  Meets (Builtin.«object.__init__» ⟨[self,a,b],[]⟩) (fun _ R s=>s.TypeIs self T/\R (.ok (.ret .none)) s):=by
 refine Meets.of_wp fun pr w A R s0 hs=>?_
 obtain⟨hT,hq⟩:=hs
 repeat (any_goals (first | assumption | wp_step | fail))
 exact⟨_,rfl,hq⟩
theorem As(l1 l2:Addr)(xs ys:Array Value) :
  Meets (Builtin.«zip.__new__» ⟨[.type "zip", .ref l1,.ref l2],[]⟩) (fun _ R s=>s.heap.IsList l1 xs/\s.heap.IsList l2 ys/\R (.ok (.ret (.ref (s.heap.objs.size+4)))) { s with heap:=uK s.heap l1 l2 }) :=
 .of_wp fun pr w A R s0 h=>by
  obtain⟨hp,g,d,tk,os⟩:=s0
  obtain⟨h1,h2,h⟩:=h
  have hsub:=sub_zip
  have h2':(hp.push (itO "list_iterator" l1)).IsList l2 ys:=by
   obtain⟨o,e,r⟩:=h2
   exact⟨o,Heap.get?_push_of_some _ e,r⟩
  have hz1:(hp.push (itO "list_iterator" l1)).objs.size=hp.objs.size+1:=Heap.size_push ..
  have hJ1:∀{Q:Value->Shared->Prop}{E:Value->Shared->Prop},Q (.ref hp.objs.size) ⟨hp.push (itO "list_iterator" l1),g,d,tk,os⟩->wpAny (model pr w) A.in1 (pyIter (.ref l1)) Q E ⟨hp,g,d,tk,os⟩:=fun {Q E} q=>wpAny_pyIter_list h1 q
  have hJ2:∀{Q:Value->Shared->Prop}{E:Value->Shared->Prop},Q (.ref (hp.push (itO "list_iterator" l1)).objs.size) ⟨(hp.push (itO "list_iterator" l1)).push (itO "list_iterator" l2),g,d,tk,os⟩->wpAny (model pr w) A.in1 (pyIter (.ref l2)) Q E ⟨hp.push (itO "list_iterator" l1),g,d,tk,os⟩:=fun {Q E} q=>wpAny_pyIter_list h2' q
  wp_walk using hJ1,hJ2
  refine⟨_,rfl,?_⟩
  simp only[Heap.size_push]
  exact h
theorem uC(h1:s.heap.IsList l1 xs)(h2:s.heap.IsList l2 ys)(h:Q (.ref (s.heap.objs.size+4)) { s with heap:=uK s.heap l1 l2 }) :
  wpAny (model prog w) A (call (.type "zip") [.ref l1,.ref l2] []) Q E s:=by
 have hz:((((s.heap.push (itO "list_iterator" l1)).push (itO "list_iterator" l2)).push (zTI s.heap.objs.size)).push zTO).objs.size=s.heap.objs.size+4:=by simp only[Heap.size_push]
 refine pT (Q1:=fun ob s1=>s1.TypeIs ob "zip" /\ Q ob s1) F.called_zip (F.typeCall_zip_2 _ _) (F.newCall_zip_2 _ _) F.entry_zip_new F.entry_object_init (As l1 l2 xs ys) ⟨h1,h2,?_⟩ fun ob s1 hq=>⟨hq.1,?_,_,yj F.called_zip.init.lookup F.called_zip.made (by decide),hq.1,rfl,hq.2⟩
 ·have:=Heap.get?_push_size ((((s.heap.push (itO "list_iterator" l1)).push (itO "list_iterator" l2)).push (zTI s.heap.objs.size)).push zTO) (o:=zO s.heap.objs.size) rfl
  rw[hz]at this
  exact⟨⟨_,this,rfl⟩,h⟩
 ·exact F.args_object_init_3 _ _ _
end
section
variable{X:Cx}{T:Tb}{W:Nat->St->Hp->Prop}{Z:Zn}{F F1 B L:Addr->Prop}{H H1:Hp}{σ:St}{env:En}{pins:List (Addr×Obj)}{s:Shared}
theorem pJ{fp:List Addr}(I:L2.Inv X pins σ H s)(hf:∀b∈fp,ij X pins H b)(k:∀b o,b∉fp->s.heap.get? b=some o->h'.get? b=some o) :
  L2.Inv X pins σ H { s with heap:=h',toks:=t' }:=by
 have nit:∀b u,H b=some u->b∉fp:=fun b u e z=>by rw[(hf b z).1]at e;cases e
 refine I.step (g':=s.gens) (d':=s.drawn) (ch:=fp) (fun b hb=>?_) (fun b o _ _ hc e _=>k b o hc e) (fun b o _ _ hc e _=>⟨o.slots,k b o hc e⟩) (fun _ _ _ _ n=>n) (fun b o hc e=>⟨o,k b o hc e⟩)
  (fun _ _ e=>e) (fun _ _ _ e=>e) (fun b ps e=>⟨#[],by rw[e];simp⟩) (fun m hm=>?_) (fun b u e=>?_) I.bare
 ·obtain⟨_,q1,_,q3,q4,q5⟩:=hf b hb
  exact⟨q3,q1,q4,q5⟩
 ·obtain⟨o,es,ep,ho,r⟩:=hm
  exact⟨o,es,ep,k _ o (fun z=>(hf _ z).2.1 rfl) ho,r⟩
 ·refine(I.hok b u e).stay (fun c v hc q=>k c v ?_ q) (fun _ q=>q) fun _ _ q=>q
  rcases hc with z | z
  ·rw[z];exact nit b u e
  ·exact nit c _ z
def Itz(K:PySem.W.Frag)(l1 l2:Addr):It :=
  ⟨fun i H=>∃ xs ys x y,SqL K H l1 xs/\SqL K H l2 ys/\xs[i]?=some x/\ys[i]?=some y,
   fun i H v H'=>∃p x y,H p=none/\v=.ref p/\H'=upd H p (.tup [x,y])/\(∀xs,SqL K H l1 xs->xs[i]?=some x)/\∀ys,SqL K H l2 ys->ys[i]?=some y,
   fun i H=>∃xs ys,SqL K H l1 xs/\SqL K H l2 ys/\(xs.length<=i\/ys.length<=i)⟩
theorem gs{h h':Heap}{it l:Addr}{i:Nat}(a:h.IsListIter it l i)(k:∀o,h.get? it=some o->h'.get? it=some o):h'.IsListIter it l i:=by
 obtain⟨o,e,r⟩:=a
 exact⟨o,k o e,r⟩
theorem p8{P:Program}{w:World}{K:PySem.W.Frag}{els:List Expr}{x1}(l1 l2 z ti to i1 i2:Addr)(D:ZipApart z ti to i1 i2 l1 l2) :
  sB P w K (.Tuple els x1 tpos) (Itz K l1 l2) [z,ti,to,i1,i2] z (fun i h=>IsZip h z ti to .none/\IsPair h ti (.ref i1) (.ref i2)/\(∃a b,IsPair h to a b)/\h.IsListIter i1 l1 i/\h.IsListIter i2 l2 i) where
 mem:=by simp
 obj:=fun i h st b hb=>by
  obtain⟨hz,ht,⟨a',b',ho⟩,h1,h2⟩:=st
  simp only[List.mem_cons,List.not_mem_nil,or_false]at hb
  rcases hb with rfl | rfl | rfl | rfl | rfl
  ·exact⟨_,hz,fun v z=>by cases z⟩
  ·exact⟨_,ht,fun v z=>by cases z⟩
  ·exact⟨_,ho,fun v z=>by cases z⟩
  ·obtain⟨o,e,c,d⟩:=id h1
   exact⟨o,e,fun v z=>by rw[d]at z;cases z⟩
  ·obtain⟨o,e,c,d⟩:=id h2
   exact⟨o,e,fun v z=>by rw[d]at z;cases z⟩
 keep:=fun i h h' st k=>by
  obtain⟨hz,ht,⟨a',b',ho⟩,h1,h2⟩:=st
  exact⟨k z (by simp) _ hz,k ti (by simp) _ ht,⟨a',b',k to (by simp) _ ho⟩,gs h1 (k i1 (by simp)),gs h2 (k i2 (by simp))⟩
 item:=by
  intro X hP hw hK hc i pins s σ H E I hf stt hg
  subst hP hw hK
  obtain⟨hz,ht,⟨a',b',ho⟩,h1,h2⟩:=stt
  obtain⟨xs,ys,x,y,hq1,hq2,hx,hy⟩:=hg
  obtain⟨its1,rv1,pl1,_⟩:=I.list hq1
  obtain⟨its2,rv2,pl2,_⟩:=I.list hq2
  obtain⟨u1,hu1,ru1⟩:=rv1.get hx
  obtain⟨u2,hu2,ru2⟩:=rv2.get hy
  refine wpAny_pyNext_zip_item D hz ht ho h1 h2 pl1.isList pl2.isList (x:=u1) (y:=u2) (by simpa using hu1) (by simpa using hu2) fun h' z' to' i1' i2' pr sz kp=>?_
  refine⟨_,rfl,wpAny_letOwnedTupleGo_zip z' fun h3 z3 s3=>?_⟩
  replace s3:Heap.SameBut z h' h3:=s3
  have ltz:z < s.heap.objs.size:=Heap.lt_size hz
  have kp2:∀b o,b∉[z,ti,to,i1,i2]->s.heap.get? b=some o->h3.get? b=some o:=fun b o hb q=>by
   simp only[List.mem_cons,List.not_mem_nil,or_false,not_or]at hb
   exact s3.extBut b o hb.1 (kp b o hb.1 hb.2.2.1 hb.2.2.2.1 hb.2.2.2.2 q)
  have tu2:h3.get? s.heap.objs.size=some { cls:=.type "tuple", data:=.seq #[u1,u2] }:=s3.extBut _ _ (Nat.ne_of_gt ltz) pr
  refine⟨.ref s.heap.objs.size,upd H s.heap.objs.size (.tup [x,y]),(pI (h':=h3) (t':=s.toks) (vs:=[x,y]) I hf kp2 (Nat.le_refl _) ⟨by rw[sizeLine_eq];simp,[u1,u2],.cons ru1 (.cons ru2 .nil),⟨_,tu2,rfl,_,rfl⟩⟩ :),rfl,⟨_,x,y,I.hok.fresh (Nat.le_refl _),rfl,rfl,fun zs hz=>by rw[I.list_inj hz hq1];exact hx,fun zs hz=>by rw[I.list_inj hz hq2];exact hy⟩,⟨z3,s3.extBut ti _ D.TIz (kp ti _ D.TIz D.TITO D.TIi1 D.TIi2 ht),⟨_,_,s3.extBut to _ D.TOz to'⟩,gs i1' fun o q=>s3.extBut i1 o D.i1z q,gs i2' fun o q=>s3.extBut i2 o D.i2z q⟩,fun b hb=>?_⟩
  have:b < s.heap.objs.size:=by
   simp only[List.mem_cons,List.not_mem_nil,or_false]at hb
   rcases hb with rfl | rfl | rfl | rfl | rfl
   ·exact ltz
   ·exact Heap.lt_size ht
   ·exact Heap.lt_size ho
   ·obtain⟨o,e,_⟩:=id h1;exact Heap.lt_size e
   ·obtain⟨o,e,_⟩:=id h2;exact Heap.lt_size e
  rw[ar (Nat.ne_of_lt this)]
  exact(hf b hb).1
 done:=by
  intro X hP hw hK hc i pins s σ H E I hf stt hg
  subst hP hw hK
  obtain⟨hz,ht,⟨a',b',ho⟩,h1,h2⟩:=stt
  obtain⟨xs,ys,hq1,hq2,hx⟩:=hg
  obtain⟨its1,rv1,pl1,_⟩:=I.list hq1
  obtain⟨its2,rv2,pl2,_⟩:=I.list hq2
  have l1':=rv1.length
  have l2':=rv2.length
  refine wpAny_pyNext_zip_end (I.ok.hd hc) D hz ht ho h1 h2 pl1.isList pl2.isList (by simp;omega) fun h' kp=>⟨rfl,pJ (t':=s.toks) I hf fun b o hb q=>?_⟩
  simp only[List.mem_cons,List.not_mem_nil,or_false,not_or]at hb
  exact kp b o hb.1 hb.2.2.1 hb.2.2.2.1 hb.2.2.2.2 q
 self:=fun _ _ _ _ _ st h=>wpAny_pyIter_zip st.1 h
theorem xc:bootBuiltins "zip" = some (.type "zip"):=by decide +kernel
theorem qJ{x1}(hg:Gl X "zip")(hm:X.mg "zip" = none)(ha:PA X [a,b] ta)(hs:starEach [a,b] X.env=[(false,eval a X.env),(false,eval b X.env)]:=by rfl)(hs2:starEach [b] X.env=[(false,eval b X.env)]:=by rfl) :
  PI X (.Tuple els x1 tpos) (.Call (.Name "zip" p) [a,b] [] pos) (fun σ H R=>ta σ H fun vs H1=>∃l1 l2 xs ys,vs=[V.ref l1,V.ref l2]/\SqL X.K H1 l1 xs/\SqL X.K H1 l2 ys/\R (Itz X.K l1 l2) H1):=by
 intro pins s σ H R I h
 refine PyProof.Rows.Call_ (i6 I hg hm xc (PyProof.Rows.callWith_type1 (thn (ha pos pins s σ H _ I h) fun us s1 ⟨vs,H1,I1,r1,q1⟩=>?_) (by rw[hs,hs2]) (by rw[hs2];rfl)))
 obtain⟨l1,l2,xs,ys,e,hq1,hq2,q⟩:=q1
 subst e
 cases r1 with
 | cons r rr =>
  cases rr with
  | cons r' rr =>
   cases rr
   cases r
   cases r'
   obtain⟨its1,rv1,pl1,_⟩:=I1.list hq1
   obtain⟨its2,rv2,pl2,_⟩:=I1.list hq2
   have hl1:l1 < s1.heap.objs.size:=by obtain⟨o,e,_⟩:=id pl1.isList;exact Heap.lt_size e
   have hl2:l2 < s1.heap.objs.size:=by obtain⟨o,e,_⟩:=id pl2.isList;exact Heap.lt_size e
   have z1:(s1.heap.push (itO "list_iterator" l1)).objs.size=s1.heap.objs.size+1:=Heap.size_push ..
   have z2:((s1.heap.push (itO "list_iterator" l1)).push (itO "list_iterator" l2)).objs.size=s1.heap.objs.size+2:=by simp only[Heap.size_push]
   have z3:(((s1.heap.push (itO "list_iterator" l1)).push (itO "list_iterator" l2)).push (zTI s1.heap.objs.size)).objs.size=s1.heap.objs.size+3:=by simp only[Heap.size_push]
   have z4:((((s1.heap.push (itO "list_iterator" l1)).push (itO "list_iterator" l2)).push (zTI s1.heap.objs.size)).push zTO).objs.size=s1.heap.objs.size+4:=by simp only[Heap.size_push]
   have e4:=Heap.get?_push_size ((((s1.heap.push (itO "list_iterator" l1)).push (itO "list_iterator" l2)).push (zTI s1.heap.objs.size)).push zTO) (o:=zO s1.heap.objs.size) rfl
   have e3:=Heap.get?_push_size (((s1.heap.push (itO "list_iterator" l1)).push (itO "list_iterator" l2)).push (zTI s1.heap.objs.size)) (o:=zTO) rfl
   have e2:=Heap.get?_push_size ((s1.heap.push (itO "list_iterator" l1)).push (itO "list_iterator" l2)) (o:=zTI s1.heap.objs.size) rfl
   have e1:=Heap.get?_push_size (s1.heap.push (itO "list_iterator" l1)) (o:=itO "list_iterator" l2) rfl
   have e0:=Heap.get?_push_size s1.heap (o:=itO "list_iterator" l1) rfl
   rw[z4]at e4
   rw[z3]at e3
   rw[z2]at e2
   rw[z1]at e1
   refine uC pl1.isList pl2.isList (wpAny_pyIter_zip (f0:=.none) e4 ?_)
   refine⟨s1.heap.objs.size+4,[s1.heap.objs.size+4,s1.heap.objs.size+2,s1.heap.objs.size+3,s1.heap.objs.size,s1.heap.objs.size+1],_,_,H1,rfl,I1.kept (t':=s1.toks) fun b o e=>Heap.get?_push_of_some _ (Heap.get?_push_of_some _ (Heap.get?_push_of_some _ (Heap.get?_push_of_some _ (Heap.get?_push_of_some _ e)))),p8 l1 l2 _ _ _ _ _ (PyProof.Rows.zipApart_new hl1 hl2),⟨e4,Heap.get?_push_of_some _ (Heap.get?_push_of_some _ e2),⟨.none,.none,Heap.get?_push_of_some _ e3⟩,⟨_,Heap.get?_push_of_some _ (Heap.get?_push_of_some _ (Heap.get?_push_of_some _ (Heap.get?_push_of_some _ e0))),rfl,rfl⟩,⟨_,Heap.get?_push_of_some _ (Heap.get?_push_of_some _ (Heap.get?_push_of_some _ e1)),rfl,rfl⟩⟩,fun b hb=>?_,q⟩
   simp only[List.mem_cons,List.not_mem_nil,or_false]at hb
   have hb':s1.heap.objs.size<=b:=by rcases hb with rfl | rfl | rfl | rfl | rfl<;>omega
   exact I1.fpOk hb' (I1.hok.fresh hb')
end
def fC:List PV->List PV->List PV
 | x::xs,y::ys=>.tup [x,y]::fC xs ys
 | _,_=>[]
theorem iA:∀(xs ys:List PV) (i:Nat) {p:PV},(fC xs ys)[i]?=some p->∃x y,xs[i]?=some x/\ys[i]?=some y/\p=.tup [x,y]
 | [],_,i,_,h | _::_,[],i,_,h=>by simp[fC]at h
 | x::xs,y::ys,0,p,h=>by
  simp only[fC,List.getElem?_cons_zero]at h
  exact⟨x,y,rfl,rfl,(Option.some.inj h).symm⟩
 | x::xs,y::ys,i+1,p,h=>by
  simp only[fC,List.getElem?_cons_succ]at h
  exact iA xs ys i h
theorem iz:∀(xs ys:List PV),(fC xs ys).length=min xs.length ys.length
 | [],_ | _::_,[]=>by simp[fC]
 | _::xs,_::ys=>by simp only[fC,List.length_cons,iz xs ys];omega
def hZ(ms:MA):MI:=fun env=>(ms env).bind fun zs=>match zs with
 | [.lst f xs,.lst g ys]=>if !f.isLnt&&!g.isLnt&&fP xs&&fP ys then .ok (fC xs ys)else .stuck
 | _=>.stuck
def u9(ms:MA):MI:=fun env=>(ms env).bind fun zs=>match zs with
 | [.lst _ xs,.lst _ ys]=>if fP xs&&fP ys then .ok (fC xs ys)else .stuck
 | _=>.stuck
section
variable{X:Cx}{T:Tb}{W:Nat->St->Hp->Prop}{Z:Zn}{F F1 B L:Addr->Prop}{H H1:Hp}{σ:St}{env:En}{fp:Nat->List Addr}
theorem jO(hp:H2 p=none)(r:Rel T F B L H2 x v [])(r':Rel T F B L H2 y u []):Rel T F B L (upd H2 p (.tup [v,u])) (.tup [x,y]) (.ref p) []:=by
 unfold Rel
 refine⟨p,_,rfl,SqT.of aH,?_⟩
 have r1:Rel T F B L (upd H2 p (.tup [v,u])) x v []:=r.ext (Ext.upd hp) fun _ h=>h
 have r2:Rel T F B L (upd H2 p (.tup [v,u])) y u []:=r'.ext (Ext.upd hp) fun _ h=>h
 unfold RelL
 refine⟨v,[u],[],[],rfl,r1,?_,rfl⟩
 unfold RelL
 exact⟨u,[],[],[],rfl,r2,by unfold RelL;exact⟨rfl,rfl⟩,by simp⟩
theorem ir{xs:List PV}{vs:List V}{i:Nat}{x:PV}(h:RelL T F B L H xs vs [])(e:xs[i]?=some x):∃v,vs[i]?=some v/\Rel T F B L H x v []:=by
 obtain⟨v,f,ev,rv,sl⟩:=h.get e
 have:f=[]:=List.eq_nil_of_sublist_nil sl
 subst this
 exact⟨v,ev,rv⟩
theorem zL{els:List Expr}{x1}(hK:X.K=T.K)(hg:Gl X "zip")(hm:X.mg "zip" = none)(ha:SA X T W [a,b] ms)(hs:starEach [a,b] X.env=[(false,eval a X.env),(false,eval b X.env)]:=by rfl)(hs2:starEach [b] X.env=[(false,eval b X.env)]:=by rfl) :
  SIc X T W (.Tuple els x1 tpos) (.Call (.Name "zip" p) [a,b] [] pos) (u9 ms):=fun pins s σ H R I h=>qJ hg hm ha hs hs2 pins s σ H R I (by
 obtain⟨Z,F,env,fp,S,q⟩:=h
 unfold u9 at q
 refine tA.bind S (fun c e=>by rw[e]at q;exact q) (fun e=>by rw[e]at q;exact q) fun zs vs H1 F1 f1 e1 g1 r1 n1 d1 w1=>?_
 rw[e1]at q
 simp only[Res.ok_bind]at q
 split at q
 ·rename_i f xs g ys
  split at q
  ·rename_i hc
   rw[Bool.and_eq_true]at hc
   unfold RelL at r1
   obtain⟨v1,ws,f2,f3,rfl,ra,rb,_⟩:=r1
   obtain⟨v2,rfl,rc⟩:=rb.one
   unfold Rel at ra rc
   obtain⟨a1,us,fp1,rfl,hl1,hr1,_⟩:=ra
   obtain⟨a2,ws,fp2,rfl,hl2,hr2,_⟩:=rc
   obtain⟨rfl,_⟩:=dU hc.1 hr1
   obtain⟨rfl,_⟩:=dU hc.2 hr2
   rw[hK]
   refine⟨a1,a2,us,ws,rfl,hl1.sq,hl2.sq,q _ H1 F1 g1 fun H2 hx=>?_⟩
   have up:∀{a:Addr}{us:List V},SqL T.K H1 a us->SqL T.K H2 a us:=fun {a us} hs=>by
    rcases hs with z | z
    ·exact .inl (Rd.tr (fun o q=>hx a o q) z)
    ·exact .inr z
   have s1:=up hl1.sq
   have s2:=up hl2.sq
   have ln1:=hr1.length
   have ln2:=hr2.length
   refine⟨fun i x ex=>?_,⟨us,ws,s1,s2,by rw[iz];omega⟩⟩
   obtain⟨x1,y1,ex1,ey1,rfl⟩:=iA xs ys i ex
   obtain⟨v,ev,rv⟩:=ir hr1 ex1
   obtain⟨u,eu,ru⟩:=ir hr2 ey1
   refine⟨⟨us,ws,v,u,s1,s2,ev,eu⟩,fun w H3 hy=>?_⟩
   obtain⟨p,v',u',hp,rfl,rfl,hall1,hall2⟩:=hy
   have q1:=hall1 us s1
   have q2:=hall2 ws s2
   rw[ev]at q1
   rw[eu]at q2
   cases q1
   cases q2
   exact⟨Ext.upd hp,[],fun b hb=>(nomatch hb),jO hp (rv.ext hx fun _ h=>h) (ru.ext hx fun _ h=>h)⟩
  ·exact q.elim
 ·exact q.elim)
theorem qh{els:List Expr}{x1}(hK:X.K=T.K)(hg:Gl X "zip")(hm:X.mg "zip" = none)(ha:SA X T W [a,b] ms)(hs:starEach [a,b] X.env=[(false,eval a X.env),(false,eval b X.env)]:=by rfl)(hs2:starEach [b] X.env=[(false,eval b X.env)]:=by rfl) :
  SI X T W (.Tuple els x1 tpos) (.Call (.Name "zip" p) [a,b] [] pos) (hZ ms):=fun pins s σ H R I h=>qJ hg hm ha hs hs2 pins s σ H R I (by
 obtain⟨Z,F,env,fp,S,q⟩:=h
 unfold hZ at q
 refine tA.bind S (fun c e=>by rw[e]at q;exact q) (fun e=>by rw[e]at q;exact q) fun zs vs H1 F1 f1 e1 g1 r1 n1 d1 w1=>?_
 rw[e1]at q
 simp only[Res.ok_bind]at q
 have S1:=S.grow g1
 split at q
 ·rename_i f xs g ys
  split at q
  ·rename_i hc
   simp only[Bool.and_eq_true]at hc
   obtain⟨⟨⟨c1,c2⟩,c3⟩,c4⟩:=hc
   unfold RelL at r1
   obtain⟨v1,ws,f2,f3,rfl,ra,rb,e1⟩:=r1
   obtain⟨v2,rfl,rc⟩:=rb.one
   unfold Rel at ra rc
   obtain⟨a1,us,fp1,rfl,hl1,hr1,hf1⟩:=ra
   obtain⟨a2,ws,fp2,rfl,hl2,hr2,hf2⟩:=rc
   obtain⟨rfl,hr1'⟩:=dU c3 hr1
   obtain⟨rfl,hr2'⟩:=dU c4 hr2
   rw[hK]
   refine⟨a1,a2,us,ws,rfl,hl1.sq,hl2.sq,q _ H1 F1 g1 fun H2 hk=>?_⟩
   have na1:f≠.mod->∀o,H1 a1=some o->H2 a1=some o:=fun hn o ho=>by
    refine hk a1 o ho ?_
    cases f with
    | own =>
     rintro⟨i,hi⟩
     obtain⟨_,o',ho'⟩:=S.dis i a1 hi
     obtain rfl:f2=[a1]:=hf1
     rw[w1 a1 (by rw[e1];simp)]at ho';cases ho'
    | frz=>exact S1.fow a1 hl1.1
    | bor=>exact S1.bow a1 hl1.1
    | lnt=>exact absurd c1 (by decide)
    | mod=>exact absurd rfl hn
   have na2:g≠.mod->∀o,H1 a2=some o->H2 a2=some o:=fun hn o ho=>by
    refine hk a2 o ho ?_
    cases g with
    | own =>
     rintro⟨i,hi⟩
     obtain⟨_,o',ho'⟩:=S.dis i a2 hi
     obtain rfl:f3=[a2]:=hf2
     rw[w1 a2 (by rw[e1];simp)]at ho';cases ho'
    | frz=>exact S1.fow a2 hl2.1
    | bor=>exact S1.bow a2 hl2.1
    | lnt=>exact absurd c2 (by decide)
    | mod=>exact absurd rfl hn
   have s1:SqL T.K H2 a1 us:=by
    by_cases hn:f=.mod
    ·subst hn;exact .inr hl1
    ·exact .inl (Rd.tr (na1 hn) (hl1.rd hn))
   have s2:SqL T.K H2 a2 ws:=by
    by_cases hn:g=.mod
    ·subst hn;exact .inr hl2
    ·exact .inl (Rd.tr (na2 hn) (hl2.rd hn))
   have ln1:=hr1.length
   have ln2:=hr2.length
   refine⟨fun i x ex=>?_,⟨us,ws,s1,s2,by rw[iz];omega⟩⟩
   obtain⟨x1,y1,ex1,ey1,rfl⟩:=iA xs ys i ex
   obtain⟨v,ev,rv⟩:=ir hr1' ex1
   obtain⟨u,eu,ru⟩:=ir hr2' ey1
   refine⟨⟨us,ws,v,u,s1,s2,ev,eu⟩,fun w H3 hy=>?_⟩
   obtain⟨p,v',u',hp,rfl,rfl,hall1,hall2⟩:=hy
   have q1:=hall1 us s1
   have q2:=hall2 ws s2
   rw[ev]at q1
   rw[eu]at q2
   cases q1
   cases q2
   exact⟨Ext.upd hp,jO hp (et S1.fow S1.bow S1.oow hk hr1' ex1 ev) (et S1.fow S1.bow S1.oow hk hr2' ey1 eu)⟩
  ·exact q.elim
 ·exact q.elim)
end
section
variable{X:Cx}{T:Tb}{W:Nat->St->Hp->Prop}{F B L:Addr->Prop}{H:Hp}
end
section
variable{prog:Program}{w:World}{A:Around}{R:Result->Shared->Prop}{ia:Addr}{fps wrs:List Addr}{len:Nat}{Pv:Nat->Value->Prop}{Sv:Nat->Heap->Prop}
end
section
variable{prog:Program}{w:World}{A:Around}{E:Value->Shared->Prop}{s:Shared}
end
section
variable{X:Cx}{T:Tb}{W:Nat->St->Hp->Prop}{Z:Zn}{F F1 B L:Addr->Prop}{H H1:Hp}{σ:St}{env:En}{fp:Nat->List Addr}{pins:List (Addr×Obj)}{s:Shared}
end
section
variable{X:Cx}{T:Tb}{W:Nat->St->Hp->Prop}{Z:Zn}{F F1 B L:Addr->Prop}{H H1:Hp}{σ:St}{env:En}{fp:Nat->List Addr}{D:Ends}
end
open AutoSeq1 (wpAny_loadPart')
section
variable{prog:Program}{w:World}{A:Around}{E:Value->Shared->Prop}{s:Shared}
end
section
variable{X:Cx}{T:Tb}{W:Nat->St->Hp->Prop}{Z:Zn}{F F1 B L:Addr->Prop}{H H1:Hp}{σ:St}{env:En}{fp:Nat->List Addr}{pins:List (Addr×Obj)}{s:Shared}
end
def lP(P:Params):List DictEntry->List (Str×Int)->Prop
 | [],[]=>True
 | e::es,kv::kvs=>(∃t u,e=⟨PyData.keyHash P kv.1,.str kv.1 t,.int kv.2 u⟩)/\lP P es kvs
 | _,_=>False
structure ie(w:World)(K:PySem.W.Frag)(d:Addr)(kvs:List (Str×Int)):Prop where
 ne:(d==sysModules)=false
 ex:∃(es:List DictEntry) (ep:Nat),K.lookup d=some { cls:=.type "dict", dict:=none,data:=.dict es.toArray ep,slots:=#[] }/\lP w.params es kvs
def look(kvs:List (Str×Int))(k:Str):Option Int:=(kvs.find? fun p=>p.1==k).map (·.2)
def zH(f:Str->Option Value)(kvs:List (Str×Int)):Prop:=∀k,match look kvs k with
 | some i=>∃u,f k=some (.int i u)
 | none=>f k=none
theorem lN:∀{es:List DictEntry}{kvs:List (Str×Int)},lP P es kvs->zH (fun k=>(es.find? fun e=>Value.isStrOf k e.key).map (·.val)) kvs
 | [],[],_=>fun k=>rfl
 | [],_::_,h | _::_,[],h=>h.elim
 | e::es,kv::kvs,h=>fun k=>by
  obtain⟨⟨t,u,rfl⟩,h2⟩:=h
  have ih:=lN h2 k
  simp only[look,List.find?_cons,Value.isStrOf]at ih ⊢
  by_cases q:(kv.1==k)=true
  ·simp only[q,Option.map_some]
   exact⟨u,rfl⟩
  ·simp only[q]
   exact ih
theorem lO:∀{es:List DictEntry}{kvs:List (Str×Int)},lP P es kvs->∀e∈es,∃k t,e.key=.str k t/\e.hash=PyData.keyHash P k
 | [],_,_=>fun e he=>nomatch he
 | _::_,[],h=>h.elim
 | e::es,kv::kvs,h=>fun e' he=>by
  obtain⟨⟨t,u,rfl⟩,h2⟩:=h
  rcases List.mem_cons.mp he with rfl | he
  ·exact⟨kv.1,t,rfl,rfl⟩
  ·exact lO h2 e' he
theorem ie.map(hD:ie w K d kvs)(hI:K.In h):∃f,h.MapOf (strKind prog w) d f/\zH f kvs:=by
 obtain⟨es,ep,hl,he⟩:=hD.ex
 refine⟨_,⟨_,es.toArray,ep,hI _ _ hl,⟨rfl,rfl,rfl⟩,rfl,fun e hm=>?_,fun k=>rfl⟩,?_⟩
 ·obtain⟨k,t,h1,h2⟩:=lO he e (by simpa using hm)
  refine⟨k,?_,h2⟩
  rw[h1]
  show(k==k)=true
  simp
 ·intro k
  have:=lN he k
  simpa[findBy,strKind]using this
section
variable{X:Cx}{T:Tb}{W:Nat->St->Hp->Prop}{Z:Zn}{F F1 B L:Addr->Prop}{H H1:Hp}{σ:St}{env:En}{fp:Nat->List Addr}{d:Addr}{kvs:List (Str×Int)}
def nU(d:Addr)(kvs:List (Str×Int)):R2:=fun x y H Q=>∃k,x=.str k/\y=.ref d/\Q (.bl (!(look kvs k).isSome)) H
theorem v_(hD:ie X.w X.K d kvs):OpR X (compareOp .NotIn) (nU d kvs):=by
 intro pins s σ H x y v u Q I rx ry h
 obtain⟨k,rfl,rfl,q⟩:=h
 obtain⟨t,rfl⟩:=rx
 cases ry
 obtain⟨f,hm,hf⟩:=hD.map (prog:=X.prog) I.kIn
 refine wpAny_notIn_of (knd:=strKind X.prog X.w) (k:=k) (by show(k==k)=true;simp) hD.ne hm ⟨.bl (!(look kvs k).isSome),H,I.tok _,?_,q⟩
 have:=hf k
 cases e:look kvs k with
 | none=>rw[e]at this;rw[show f k=none from this];rfl
 | some i =>
  rw[e]at this
  obtain⟨u,hu⟩:=this
  rw[hu]
  rfl
def uO(d:Addr)(kvs:List (Str×Int)):R2:=fun x y H Q=>∃k i,x=.ref d/\y=.str k/\look kvs k=some i/\Q (.int i) H
theorem ua(hD:ie X.w X.K d kvs):IxR X (uO d kvs):=by
 intro value slice pins s σ H x y v u Q I rx ry h hs
 obtain⟨k,i,rfl,rfl,e,q⟩:=h
 cases rx
 obtain⟨t,rfl⟩:=ry
 obtain⟨f,hm,hf⟩:=hD.map (prog:=X.prog) I.kIn
 have:=hf k
 rw[e]at this
 obtain⟨u,hu⟩:=this
 exact PyProof.Rows.subscriptTail_builtinR (x:=.int i u) hm.typeIs PySem.F.slot_dict_getitem.lookup
  (wpAny_getItem_of (knd:=strKind X.prog X.w) (k:=k) (Q:=fun r s'=>r=.int i u/\EP X pins σ Q r s') (by show(k==k)=true;simp) hm hu ⟨rfl,.int i,H,I.tok _,⟨u,rfl⟩,q⟩) hs
def iq(kvs:List (Str×Int)):PV->Res PV
 | .str k=>.ok (.bl (!(look kvs k).isSome))
 | _=>.stuck
def lg(kvs:List (Str×Int)):PV->Res PV
 | .str k=>(match look kvs k with
  | some i=>.ok (.int i)
  | none=>.stuck)
 | _=>.stuck
theorem mT:xH T W (iq kvs) (fun x H Q=>nU d kvs x (.ref d) H Q):=by
 intro B F L σ H Q F' H' x v fx g rx nf nd new q
 cases x with
 | str k =>
  unfold Rel at rx
  exact⟨k,rx.1,rfl,q.scal g iM⟩
 | _=>exact q.elim
theorem qX:xH T W (lg kvs) (fun x H Q=>uO d kvs (.ref d) x H Q):=by
 intro B F L σ H Q F' H' x v fx g rx nf nd new q
 cases x with
 | str k =>
  unfold Rel at rx
  unfold lg at q
  dsimp only at q
  cases e:look kvs k with
  | none=>rw[e]at q;exact q.elim
  | some i=>rw[e]at q;exact⟨k,i,rfl,rx.1,e,q.scal g d6⟩
 | _=>exact q.elim
theorem sY(hg:Gl X x)(hm:X.mg x=some (.ref d))(hD:ie X.w X.K d kvs)(he:SE X T W e m)(hs:fw e)(hd:(x ==("__debug__" : Str))=false:=by decide):SE X T W (.Subscript (.Name x px) e pos) (mUn (lg kvs) m) :=
 PE.wk (uR (pos:=pos) (ua hD) (kh (v:=.ref d) (pos:=px) hg hm rfl hd) he hs) fun _ _ _ h=>tE.mir1 qX h
theorem oX(hg:Gl X x)(hm:X.mg x=some (.ref d))(hD:ie X.w X.K d kvs)(he:SE X T W e m)(hd:(x ==("__debug__" : Str))=false:=by decide):ST X T W (.Compare e [.NotIn] [.Name x px] pos) (ax (mUn (iq kvs) m)) :=
 PT.wk (nW (pos:=pos) (v_ hD) he (kh (v:=.ref d) (pos:=px) hg hm rfl hd) rfl) fun σ H Q h=>by
  obtain⟨Z,F,env,fp,S,q⟩:=tT.test h
  exact tE.mir1 mT ⟨Z,F,env,fp,S,q⟩
end
section
variable{X:Cx}{T:Tb}{W:Nat->St->Hp->Prop}{Z:Zn}{F F1 B L:Addr->Prop}{H H1:Hp}{σ:St}{env:En}{fp:Nat->List Addr}{D:Ends}
end
def mX(i j:Nat):MS:=fun env=>match env[i]?,env[j]? with
 | some (some v),some (some w)=>if i=j then .stuck else .ret (.tup [v,w])
 | _,_=>.stuck
section
variable{X:Cx}{T:Tb}{W:Nat->St->Hp->Prop}{Z:Zn}{F F1 B L:Addr->Prop}{H H1:Hp}{σ:St}{env:En}{fp:Nat->List Addr}{D:Ends}
theorem qb{x1}(hN:X.N[i]?=some x)(hv:Vis X.env.scope x)(hN2:X.N[j]?=some y)(hv2:Vis X.env.scope y)(hd:(x ==("__debug__" : Str))=false:=by decide)(hcd:(x ==("__classdict__" : Str))=false:=by decide)(hd2:(y ==("__debug__" : Str))=false:=by decide)(hcd2:(y ==("__classdict__" : Str))=false:=by decide) :
  SS X T W (.Return (some (.Tuple [.Name x px,.Name y py] x1 tpos)) pos) (mX i j) :=
 PS.wk (iP (pos:=pos) (mO (pos:=tpos) (cq (te:=oW i) (bM (pos:=px) hN hv hd hcd) (cq (te:=oW j) (bM (pos:=py) hN2 hv2 hd2 hcd2) fO)))) fun D σ H ⟨Z,F,env,fp,S,q⟩=>by
  unfold mX at q
  split at q
  case h_2=>exact q.elim
  rename_i pv pw ei ej
  split at q
  case isTrue=>exact q.elim
  rename_i hij
  obtain⟨v,e1,r1⟩:=S.rel i pv ei
  obtain⟨w,e2,r2⟩:=S.rel j pw ej
  refine⟨v,e1,w,e2,qg (by simp),fun p hp=>?_⟩
  have g:Gr F H F (upd H p (.tup [v,w])):=Gr.same S.hp.ft (Ext.upd hp)
  have S2:=S.grow g
  obtain⟨v',e1',r1'⟩:=S2.rel i pv ei
  obtain⟨w',e2',r2'⟩:=S2.rel j pw ej
  rw[e1]at e1'
  cases e1'
  rw[e2]at e2'
  cases e2'
  refine q F (upd H p (.tup [v,w])) (.ref p) (fp i++fp j) S2.hp ?_ (List.nodup_append.mpr ⟨S.nd i,S.nd j,fun a ha b hb z=>?_⟩) (fun a ha=>?_) (fun a ha=>?_)
  ·unfold Rel
   refine⟨p,_,rfl,SqT.of aH,?_⟩
   unfold RelL
   refine⟨v,[w],fp i,fp j,rfl,r1',?_,rfl⟩
   unfold RelL
   exact⟨w,[],fp j,[],rfl,r2',by unfold RelL;exact⟨rfl,rfl⟩,by simp⟩
  ·subst z
   exact S.dj i j hij a ha hb
  ·rcases List.mem_append.mp ha with h | h
   ·exact(S2.dis i a h).1
   ·exact(S2.dis j a h).1
  ·rcases List.mem_append.mp ha with h | h
   ·exact S.new i a h
   ·exact S.new j a h
end
section
variable{P:Program}{w:World}{mg:Str->Option Value}{base:Heap}{T:Tb}
theorem wI(F:Fun T.K x qual st f fd)(S:bP N ps (ao st))
  (body:∀ (cdv:Value) (A:Around) (outer:List Env) (s:Shared) (H:Hp) (E:XK),Ctx (cB (CXP P w) P w T.K mg base N qual (ao st) f cdv A outer s H E) T (WD T E) k ->
   SSs (cB (CXP P w) P w T.K mg base N qual (ao st) f cdv A outer s H E) T (WD T E) (aG st) m):bC P w T.K mg base (CXP P w) (k+1) f fd ps (spM T ps.length (bg N.length m)) :=
 zt F S fun cdv A outer s H E hr=>body cdv A outer s H E (kC hr)
theorem uh(F:Fun T.K x qual st f fd)(S:bP N ps (ao st))
  (body:∀ (cdv:Value) (A:Around) (outer:List Env) (s:Shared) (H:Hp) (E:XK),Ctx (cB (CXP P w) P w T.K mg base N qual (ao st) f cdv A outer s H E) T (WD T E) k ->
   SSs (cB (CXP P w) P w T.K mg base N qual (ao st) f cdv A outer s H E) T (WD T E) (aG st) m):bC P w T.K mg base (CXP P w) (k+1) f fd ps (spI T ps.length (iH N.length m)) :=
 wJ F S fun cdv A outer s H E hr=>body cdv A outer s H E (kC hr)
end
section
variable{prog:Program}{w:World}{A:Around}{E:Value->Shared->Prop}{s:Shared}
end
section
variable{X:Cx}{T:Tb}{W:Nat->St->Hp->Prop}{Z:Zn}{F F1 B L:Addr->Prop}{H H1:Hp}{σ:St}{env:En}{fp:Nat->List Addr}{pins:List (Addr×Obj)}{s:Shared}
end
section
variable{X:Cx}{T:Tb}{W:Nat->St->Hp->Prop}
end
section
variable{X:Cx}{T:Tb}{W:Nat->St->Hp->Prop}{Z:Zn}{F F1 F' B L:Addr->Prop}{H H1 H':Hp}{σ:St}{env:En}{fp:Nat->List Addr}{js:List Nat}{t:Nat}
def AL(js:List Nat)(t:Nat)(σ:St)(env:En):Prop:=∀j∈js,env[j]?=some none->σ[j]?=σ[t]?
theorem AL.set{i:Nat}{v:V}{pv:PV}(h:AL js t σ env)(hi:i≠t):AL js t (σ.set i (some v)) (env.set i (some pv)):=fun j hj e=>by
 by_cases q:i=j
 ·subst q
  exfalso
  rw[List.getElem?_set]at e
  by_cases z:i < env.length<;>simp[z]at e
 ·rw[List.getElem?_set_ne q]at e ⊢
  rw[List.getElem?_set_ne hi]
  exact h j hj e
def GSA(T:Tb)(W:Nat->St->Hp->Prop)(js:List Nat)(t:Nat)(Z:Zn)(D:Ends):Out->Prop
 | .next e=>∀F H σ fp,ap T Z F H σ e fp->AL js t σ e->D.nx σ H
 | .ret pv=>GS T W Z D (.ret pv)
 | .brk e=>GS T W Z D (.brk e)
 | .cont e=>GS T W Z D (.cont e)
 | .exc c e=>GS T W Z D (.exc c e)
 | .stuck=>False
theorem GSA.of(h:GS T W Z D o):GSA T W js t Z D o:=by
 cases o with
 | next e=>exact fun F H σ fp S _=>h F H σ fp S
 | _=>exact h
end
section
variable{X:Cx}{T:Tb}{W:Nat->St->Hp->Prop}{Z:Zn}{F F1 B L:Addr->Prop}{H H1:Hp}{σ:St}{env:En}{fp:Nat->List Addr}
end
section
variable{prog:Program}{w:World}{A:Around}{E:Value->Shared->Prop}{s:Shared}
end
section
variable{X:Cx}{T:Tb}{W:Nat->St->Hp->Prop}{Z:Zn}{F F1 B L:Addr->Prop}{H H1:Hp}{σ:St}{env:En}{fp:Nat->List Addr}
section
variable{o k:Expr}{mo mk:ME}{apos cpos:Pos}
end
variable{d:Addr}{kvs:List (Str×Int)}
end
end PR
namespace L2
open PySem PySem.Spec PyProof.Rows
section
variable{X:Cx}{pins:List (Addr×Obj)}{σ:St}{H:Hp}{s:Shared}{E:Value->Shared->Prop}
end
end L2
namespace PR
open PySem PySem.Spec L2
section
variable{M:Model}{A:Around}{E:Value->Shared->Prop}{s:Shared}{B:Heap}{l:List Env}{e:Addr}{cls a0 fl:Value}
def zI(B:Heap)(l:List Env)(e:Addr)(cls a0 fl:Value)(h:Heap):Prop:=B.StaysIn h/\B.get? e=none/\h.FunFrames B l/\h.TracedAtW B e cls a0 fl
end
structure BA(P:Program)(w:World)(outer:List Env)(H:Hp)(s:Shared)(cls:Value)(H':Hp)(e:Value)(s':Shared):Prop where
 os:s'.os=s.os
 bare:PyProof.Rows.AllBare s'.gens
 un:Un (frs outer) [] H H' s.heap s'.heap
 hok:HOk P w H' s'.heap
 fly:∃x a0 fl Bh,e=.ref x/\zI Bh outer x cls a0 fl s'.heap/\(∀b o u,H' b=some u->s'.heap.get? b=some o->Bh.get? b=some o)/\
  (∀b o o',s'.heap.get? b=some o->s.heap.get? b=some o'->b∉frs outer->Bh.get? b=some o)
section
variable{P:Program}{w:World}{K:PySem.W.Frag}{mg:Str->Option Value}{base:Heap}{N:List Str}{qual:Str}{scope:Scope}{f:Addr}{cd:Value}{A:Around}{outer:List Env}{s:Shared}{H:Hp}{E:XK}{T:Tb}
end
section
variable{X:Cx}{T:Tb}{W:Nat->St->Hp->Prop}{pins:List (Addr×Obj)}{σ:St}{H2:Hp}{s2:Shared}{fpi:List Addr}{scope:Scope}{caps:List Nat}{N tn:List Str}{use:Option (Value->Sem Unit)}{Q':Value->Shared->Prop}{acc:Value}
end
section
variable{X:Cx}{T:Tb}{W:Nat->St->Hp->Prop}{Z:Zn}{F F1 B L:Addr->Prop}{H H1:Hp}{σ:St}{env:En}{fp:Nat->List Addr}{D:Ends}
end
section
variable{X:Cx}{T:Tb}{W:Nat->St->Hp->Prop}
end
section
variable{X:Cx}{T:Tb}{W:Nat->St->Hp->Prop}{Z:Zn}{F F1 B L:Addr->Prop}{H H1:Hp}{σ:St}{env:En}{fp:Nat->List Addr}{D:Ends}{ks:List Nat}
theorem RelL.cut:∀{xs ys:List PV}{vs:List V}{f:List Addr},RelL T F B L H (xs++ys) vs f->∃v1 v2 f1 f2,vs=v1++v2/\f=f1++f2/\RelL T F B L H xs v1 f1/\RelL T F B L H ys v2 f2
 | [],ys,vs,f,h=>⟨[],vs,[],f,rfl,rfl,by unfold RelL;exact⟨rfl,rfl⟩,h⟩
 | x::xs,ys,vs,f,h=>by
  rw[List.cons_append]at h
  unfold RelL at h
  obtain⟨v,ws,f1,f2,rfl,h1,h2,rfl⟩:=h
  obtain⟨w1,w2,g1,g2,rfl,rfl,r1,r2⟩:=RelL.cut h2
  refine⟨v::w1,w2,f1++g1,g2,rfl,by simp,?_,r2⟩
  unfold RelL
  exact⟨v,w1,f1,g1,rfl,h1,r1,rfl⟩
theorem ap.drop(S:ap T Z F H σ env fp)(h0:n≠0):ap T Z F H σ (env.set n none) (aV fp n []):=by
 refine⟨S.hp,by rw[List.length_set,S.len],fun i pv e=>?_,fun i=>?_,fun i j hij a ha hb=>?_,fun i a ha=>?_,fun i a ha=>?_,fun i a ha=>?_,fun v hv=>?_⟩
 ·by_cases hi:i=n
  ·subst hi
   rw[List.getElem?_set]at e
   simp at e
  ·rw[List.getElem?_set_ne (Ne.symm hi)]at e
   obtain⟨v,h1,h2⟩:=S.rel i pv e
   exact⟨v,h1,by unfold aV;rw[if_neg hi];exact h2⟩
 ·unfold aV;split;exact List.nodup_nil;exact S.nd i
 ·unfold aV at ha hb
  split at ha
  ·cases ha
  ·split at hb
   ·cases hb
   ·exact S.dj i j hij a ha hb
 ·unfold aV at ha;split at ha;cases ha;exact S.dis i a ha
 ·unfold aV at ha;split at ha;cases ha;exact S.new i a ha
 ·unfold aV at ha;split at ha;cases ha;exact S.ch i a ha
 ·obtain⟨h1,h2⟩:=S.pn v hv
  refine⟨h1,?_⟩
  unfold cK at h2 ⊢
  rw[List.getElem?_set_ne h0];exact h2
theorem qi{α:Type}{l:List α}{i:Nat}{x:α}(h:l[i]?=some x):l.set i x=l:=by
 obtain⟨hi,e⟩:=List.getElem?_eq_some_iff.mp h
 rw[<- e]
 exact List.set_getElem_self hi
structure Orp(Z:Zn)(F:Addr->Prop)(fp:Nat->List Addr)(f:List Addr):Prop where
 nd:f.Nodup
 nf:∀b∈f,¬F b
 new:∀b∈f,Z.H0 b=none\/Z.fp0 b
 dj:∀b∈f,∀j,b∉fp j
end
section
variable{P:Program}{w:World}{mg:Str->Option Value}{base:Heap}{T:Tb}{K:PySem.W.Frag}
end
section
variable{X:Cx}{T:Tb}{W:Nat->St->Hp->Prop}{Z:Zn}{F F1 B L:Addr->Prop}{H H1:Hp}{σ:St}{env:En}{fp:Nat->List Addr}
end
open AutoSeq1 (wpAny_loadPart')
section
variable{prog:Program}{w:World}{A:Around}{E:Value->Shared->Prop}{s:Shared}
end
section
variable{X:Cx}{T:Tb}{W:Nat->St->Hp->Prop}{Z:Zn}{F F1 B L:Addr->Prop}{H H1:Hp}{σ:St}{env:En}{pins:List (Addr×Obj)}{s:Shared}
end
section
variable{X:Cx}{T:Tb}{W:Nat->St->Hp->Prop}{Z:Zn}{F F1 B L:Addr->Prop}{H H1:Hp}{σ:St}{env:En}{fp:Nat->List Addr}
end
section
variable{X:Cx}{T:Tb}{W:Nat->St->Hp->Prop}{Z:Zn}{F F1 B L:Addr->Prop}{H H1:Hp}{σ:St}{env:En}{fp:Nat->List Addr}{D:Ends}
end
structure l9(K:PySem.W.Frag)(x qual:Str)(st:Stmt)(f:Addr)(fd:FuncData)(dT:Addr)(ds:List Value):Prop where
 ex:∃(oc:Value) (od:Option Addr) (kV doc pm:Value) (an:Option Addr) (cdv ct:Value) (osl:Array (Option Value)),
  fd=PySem.W.fnOf x qual (bf st) (aG st) (ao st) (.ref dT) kV doc pm an cdv ct/\K.lookup f=some ⟨oc,od,.func fd,osl⟩/\PySem.W.codeIn K cdv qual=true
 kp:PySem.W.keepIn K (.ref f)=true
 dl:∃(o:Obj) (n:Nat),K.lookup dT=some o/\o.data=.seq ds.toArray n
section
variable{P:Program}{w:World}{mg:Str->Option Value}{base:Heap}{T:Tb}
theorem wH(F:l9 T.K x qual st f fd dT ds)(S:bP N ps (ao st))
  (body:∀ (cdv:Value) (A:Around) (outer:List Env) (s:Shared) (H:Hp) (E:XK),Ctx (cB (CXP P w) P w T.K mg base N qual (ao st) f cdv A outer s H E) T (WD T E) k ->
   SSs (cB (CXP P w) P w T.K mg base N qual (ao st) f cdv A outer s H E) T (WD T E) (aG st) m):bC P w T.K mg base (CXP P w) (k+1) f fd ps (spM T ps.length (bg N.length m)):=by
 obtain⟨oc,od,kV,doc,pm,an,cdv,ct,osl,rfl,lk,hcd⟩:=F.ex
 refine oH lk hcd S (fun vs H Q E h=>h.1) fun A outer s H vs Q E hr hsp=>⟨_,body cdv A outer s H E (kC hr),?_⟩
 obtain⟨_,pvs,F,B,fl,R,q⟩:=hsp
 obtain⟨fp,S0⟩:=g0 N R none (fun _ h=>nomatch h)
 refine⟨_,F,_,fp,S0,?_⟩
 unfold bg at q
 cases e:m (pvs.map some++List.replicate (N.length - pvs.length) none)with
 | next e'=>rw[e]at q;exact fun F' H' σ' fp' S'=>q F' H' .non [] S'.hp vP List.nodup_nil (fun _ z=>(nomatch z)) (fun _ z=>(nomatch z))
 | ret v=>rw[e]at q;exact q
 | brk e' | cont e'=>rw[e]at q;exact q.elim
 | exc c e'=>rw[e]at q;exact fun F' H' σ' fp' S'=>q H' S'.hp.keep
 | stuck=>rw[e]at q;exact q.elim
theorem l9.binds(F:l9 K x qual st f fd dT ds)
  (h:∀(kV doc pm:Value) (an:Option Addr) (cdv ct:Value) (us:List Value),(us++es).length=ps.length->∃k:Option (Array Value)->Sem (List (Str×Value)),bindArgs (PySem.W.fnOf x qual (bf st) (aG st) (ao st) (.ref dT) kV doc pm an cdv ct) ⟨us,[]⟩=seqItems? (.ref dT) >>= k/\k (some ds.toArray)=pure (ps.zip (us++es))):cE K fd ps es:=by
 obtain⟨oc,od,kV,doc,pm,an,cdv,ct,osl,rfl,lk,hcd⟩:=F.ex
 obtain⟨o,n,lo,hd⟩:=F.dl
 intro s us KI hl
 obtain⟨k,h1,h2⟩:=h kV doc pm an cdv ct us hl
 exact BindsTo.of_defaults rfl (KI _ _ lo) hd h1 h2
end
section
variable{X:Cx}{T:Tb}{W:Nat->St->Hp->Prop}{Z:Zn}{F F1 B L:Addr->Prop}{H H1:Hp}{σ:St}{env:En}{fp:Nat->List Addr}
theorem qq
  (G:bC X.prog X.w X.K X.mg X.base (CXP X.prog X.w) k f fd ps (spM T ps.length m)) (cx:Ctx X T W kk) (hk:k<=kk) (hg:Gl X x) (hm:X.mg x=some (.ref f)) (hkp:PySem.W.keepIn X.K (.ref f)=true) (hb:cE X.K fd ps ds) (hd:aw dvs ds) (hdp:∀F B L H,RelL T F B L H dps dvs [])
  (hn:dA ms n) (hps:n+dvs.length=ps.length) (ha:SA X T W (e::es) ms)
  (hdb:(x ==("__debug__" : Str))=false:=by decide) (he:starEach (e::es) X.env=(false,eval e X.env)::starEach es X.env:=by rfl) (hpl:(backTo pos (starEach es X.env)).any (·.1)=false:=by rfl) :
  SE X T W (.Call (.Name x p) (e::es) [] pos) (am (fun xs=>au m (xs++dps)) ms) :=
 nP (p:=p) (pos:=pos) G (cx.room.mono hk) hg hm hkp hb hd hdp cx.xf (fun env xs q=>by rw[hn env xs q];exact hps) ha hdb he hpl
theorem sK(b:Bool):aw [.bl b] [.bool b]:=.cons rfl .nil
theorem nS(b:Bool):∀F B L H,RelL T F B L H [.bl b] [.bl b] []:=fun F B L H=>by
 unfold RelL
 exact⟨_,_,[],[],rfl,iM,by unfold RelL;exact⟨rfl,rfl⟩,rfl⟩
def mFz(m:ME):ME:=fun env=>(m env).bind fun v=>.ok (v.mapF Fl.freeze)
theorem nN(he:SE X T W e m):SE X T W e (mFz m):=PE.wk he fun σ H Q ⟨Z,F,env,fp,S,q⟩=>by
 unfold mFz at q
 refine⟨Z,F,env,fp,S,?_⟩
 cases em:m env with
 | stuck | exc c=>rw[em]at q;exact q
 | ok pv =>
  rw[em]at q
  simp only[Res.ok_bind]at q
  intro v H' F' f g r nf nd new
  refine q v H' (fun a=>F' a\/a∈f) [] ⟨g.ext,fun a h=>.inl (g.mono a h),fun a h=>h.elim (g.only a) fun z=>.inr (new a z),fun a h=>h.elim (g.dom a) fun z=>r.there a z⟩ (Rel.freeze (fun _ h=>.inl h) (fun a h=>.inr h) r) (fun _ h=>nomatch h) List.nodup_nil fun _ h=>nomatch h
end
section
variable{X:Cx}{T:Tb}{W:Nat->St->Hp->Prop}{Z:Zn}{F F1:Addr->Prop}{H H1:Hp}{σ:St}{env:En}{fp:Nat->List Addr}
theorem vL
  (G:bC X.prog X.w X.K X.mg X.base (CXP X.prog X.w) k f fd ps (spM T ps.length m)) (hr:cz k X.A) (hb:∀s:Shared,X.K.In s.heap->BindsTo s fd ⟨us,kw⟩ (ps.zip (us++ds))) (hd:aw dvs ds) (hdp:∀F B L H,RelL T F B L H dps dvs []) (hx:XF X T W)
  (S:ap T Z F H σ env fp) (g:Gr F H F1 H1) (r:RelL T F1 Z.B (Own fp) H1 xs vs fx) (nf:∀a∈fx,¬F1 a) (nd:fx.Nodup) (new:∀a∈fx,H a=none) (q:GE T W Z.B F (Own fp) σ H Q (au m (xs++dps)))
  (I1:L2.Inv X pins σ H1 s1) (rv:aw vs us) (hlen:vs.length+dvs.length=ps.length):wpAny (model X.prog X.w) X.A (call (.ref f) us kw) (EP X pins σ Q) X.xe s1:=by
 have r2:aw (vs++dvs) (us++ds):=rv.append hd
 have hl:(us++ds).length=ps.length:=by rw[<- r2.length,List.length_append];exact hlen
 have rr:RelL T F1 Z.B (Own fp) H1 (xs++dps) (vs++dvs) fx:=by
  have:=RelL.append r (hdp F1 Z.B (Own fp) H1)
  rwa [List.append_nil]at this
 have hBo:∀a,Z.B a->(∃o,H1 a=some o)/\a∉fx:=fun a h=>by
  obtain⟨⟨o,h1⟩,h2⟩:=S.hp.bo a h
  have h3:=S.hp.keep a o h1 h2
  exact⟨⟨o,g.ext a o h3⟩,fun z=>by rw[new a z]at h3;cases h3⟩
 have hOw:∀a,Own fp a->(∃o,H1 a=some o)/\a∉fx:=fun a ⟨i,hi⟩=>by
  obtain⟨_,o,ho⟩:=S.dis i a hi
  exact⟨⟨o,g.ext a o ho⟩,fun z=>by rw[new a z]at ho;cases ho⟩
 have R:ny T F1 (fun a=>(∃o,H1 a=some o)/\a∉fx) H1 (mapL Fl.toBor (xs++dps)) (vs++dvs) fx:=⟨RelL.toBor hBo hOw rr,nd,nf,fun a h=>h,g.dom⟩
 refine wpAny_call (codeAny_mono (G.run X.A X.stack s1 H1 ⟨us,kw⟩ (us ++ ds) (vs ++ dvs) Q (fun cls _ H'=>∃ c,cls=.ref (T.xcl c)/\W c σ H') hr I1.env0 (hb s1 I1.kIn) r2
  ⟨by rw[r2.length,hl],_,F1,_,fx,R,?_⟩) fun rs s' hq=>?_)
 ·unfold au at q
  cases e:m (mapL Fl.toBor (xs++dps))with
  | ok v =>
   rw[e]at q
   dsimp only at q
   intro F2 H2 u f2 hp2 r3 nd2 nf2 new2
   by_cases hbr:v.has Fl.isBor=true
   ·rw[if_pos hbr]at q;exact q.elim
   ·rw[if_neg hbr]at q
    have hbr':v.has Fl.isBor=false:=by simpa using hbr
    refine q u H2 F2 f2 ⟨fun a o h=>hp2.keep a o (g.ext a o h) fun z=>(by rw[new a z]at h;cases h),fun a h=>hp2.f0 a (g.mono a h),fun a h=>?_,hp2.ft⟩ ?_ nf2 nd2 fun a ha=>?_
    ·rcases hp2.fn a h with z | z | z
     ·exact g.only a z
     ·exact .inr (g.ext.free z)
     ·exact .inr (new a z)
    ·exact Rel.tr (fun _ h=>h) (fun _ h=>h) (fun _ h=>h.elim) (fun _ _ h _=>h) (fun _ _ _ h=>h) (Rel.noB (B':=Z.B) hbr' r3)
    ·rcases new2 a ha with z | z
     ·exact g.ext.free z
     ·exact new a z
  | exc c =>
   rw[e]at q
   exact fun H' h=>⟨c,rfl,q H' fun a o z=>h a o (g.ext a o z) fun z'=>by rw[new a z']at z;cases z⟩
  | stuck=>rw[e]at q;exact q.elim
 ·cases rs with
  | error e =>
   obtain⟨cls,H',fl,c,rfl,hw⟩:=hq
   exact hx pins σ H1 s1 c H' e s' I1 fl hw
  | ok fl =>
   cases fl with
   | ret u=>exact I1.after hq
   | next | brk | cont=>exact False.elim hq
def sD(K:PySem.W.Frag)(fd:FuncData)(ps:List Str)(kn:Str)(v:Value):Prop :=
 ∀(s:Shared) (us:List Value),K.In s.heap->us.length+1=ps.length->BindsTo s fd ⟨us,[(kn,v)]⟩ (ps.zip (us++[v]))
theorem qp{cj}
  (G:bC X.prog X.w X.K X.mg X.base (CXP X.prog X.w) k f fd ps (spM T ps.length m)) (cx:Ctx X T W kk) (hk:k<=kk) (hg:Gl X x) (hm:X.mg x=some (.ref f)) (hkp:PySem.W.keepIn X.K (.ref f)=true) (hb:sD X.K fd ps kn (.bool b))
  (hn:dA ms n) (hps:n+1=ps.length) (ha:SA X T W (e::es) ms)
  (hall:(backToKw pos (keywordEach [⟨some kn,.Constant (.bool b) cj cpos,kpos⟩] X.env)).all (·.1.isSome)=true:=by rfl) (hks:(backToKw pos (keywordEach [⟨some kn,.Constant (.bool b) cj cpos,kpos⟩] X.env)).filterMap (·.1)=[kn]:=by rfl)
  (hdb:(x ==("__debug__" : Str))=false:=by decide) (he:starEach (e::es) X.env=(false,eval e X.env)::starEach es X.env:=by rfl)
  (hpl:((backTo pos (starEach (e::es) X.env)).any (·.1) ||(backToKw pos (keywordEach [⟨some kn,.Constant (.bool b) cj cpos,kpos⟩] X.env)).any (·.1.isNone))=false:=by rfl) :
  SE X T W (.Call (.Name x p) (e::es) [⟨some kn,.Constant (.bool b) cj cpos,kpos⟩] pos) (am (fun xs=>au m (xs++[.bl b])) ms):=by
 intro pins s σ H Q I h
 obtain⟨Z,F,env,fp,S,q⟩:=h
 unfold am at q
 refine wpAny_Call_Name_kw (el I hg hm ?_ hdb)
 refine PySem.W.callWith_KW (h₀:=X.base) I.ok.mod.kin hkp hall (thn (ha pos pins s σ H (fun vs H1=>∀ us s1,L2.Inv X pins σ H1 s1->aw vs us->wpAny (model X.prog X.w) X.A (call (.ref f) us [(kn,.bool b)]) (EP X pins σ Q) X.xe s1) I
  (tA.bind S (fun c e=>by rw[e]at q;exact q) (fun e=>by rw[e]at q;exact q) fun xs vs H1 F1 f1 e1 g1 r1 n1 d1 w1 us s1 I1 rv=>?_)) fun us s1 ⟨vs,H1,I1,r,q1⟩=>?_) hpl he
 ·rw[e1]at q
  have hl:vs.length+1=ps.length:=by rw[<- r1.length,hn env xs e1];exact hps
  exact vL (ds:=[.bool b]) (dvs:=[.bl b]) (dps:=[.bl b]) G (cx.room.mono hk) (fun s2 K2=>hb s2 us K2 (by rw[<- rv.length];exact hl)) (.cons rfl .nil) (nS b) cx.xf S g1 r1 n1 d1 w1 q I1 rv hl
 ·rw[hks]
  refine thn (tK (t:=sN) uT vV pos pins s1 σ H1 (fun zs H2=>zs=[.bl b]/\H2=H1) I1 ⟨rfl,rfl⟩) fun ws s2 ⟨zs,H2,I2,rz,e1,e2⟩=>⟨I2.kIn,?_⟩
  subst e1 e2
  cases rz with
  | cons a t =>
   cases t
   cases a
   exact q1 us s2 I2 r
end
theorem l9.bindsK(F:l9 K x qual st f fd dT ds)
  (h:∀(kV doc pm:Value) (an:Option Addr) (cdv ct:Value) (us:List Value),us.length+1=ps.length->∃k:Option (Array Value)->Sem (List (Str×Value)),bindArgs (PySem.W.fnOf x qual (bf st) (aG st) (ao st) (.ref dT) kV doc pm an cdv ct) ⟨us,[(kn,v)]⟩=seqItems? (.ref dT) >>= k/\k (some ds.toArray)=pure (ps.zip (us++[v]))):sD K fd ps kn v:=by
 obtain⟨oc,od,kV,doc,pm,an,cdv,ct,osl,rfl,lk,hcd⟩:=F.ex
 obtain⟨o,n,lo,hd⟩:=F.dl
 intro s us KI hl
 obtain⟨k,h1,h2⟩:=h kV doc pm an cdv ct us hl
 exact BindsTo.of_defaults rfl (KI _ _ lo) hd h1 h2
section
variable{X:Cx}{T:Tb}{W:Nat->St->Hp->Prop}{Z:Zn}{F F1 B L:Addr->Prop}{H H1:Hp}{σ:St}{env:En}{fp:Nat->List Addr}{D:Ends}
end
section
variable{X:Cx}{T:Tb}{W:Nat->St->Hp->Prop}{Z:Zn}{F F1 B L:Addr->Prop}{H H1:Hp}{σ:St}{env:En}{fp:Nat->List Addr}{D:Ends}{ks:List Nat}
end
open PySem.W (findIn fnOf keepIn nsIn codeIn isFn Frag)
structure FS where
 q:Str
 s:Stmt
 k:Nat
 N:List Str
 c:Option Nat
def aE(s:Stmt):Str:=match s with
 | .FunctionDef n _ _ _ _ _ _ _ _ _=>n
 | _ => ""
structure PT where
 F:List FS
 C:List Str
 X:List Str
 A:List Str
 M:List (Nat×Str×Nat)
 Mk:List (Nat×Nat)
 U:List (Nat×Nat)
 B:List Str
 I:List (Str×Int)
 KT:List (Option Nat×String×List Bool)
 HT:List (Nat×List Bool)
def fs0:FS:=⟨"", .Pass ⟨0,0,0,0⟩,0,[],none⟩
def pk{α:Type}(d:α)(l:List α)(i:Nat):α:=l.getD i (l.headD d)
theorem ee{α:Type}{d:α}{p:α->Prop}{l:List α}(hl:l≠[])(h:∀x∈l,p x)(i:Nat):p (pk d l i):=by
 unfold pk
 rw[List.getD_eq_getElem?_getD]
 cases e:l[i]? with
 | some C=>exact h C (List.mem_of_getElem? e)
 | none =>
  cases l with
  | nil=>exact absurd rfl hl
  | cons a l=>exact h a List.mem_cons_self
section
variable(p:PT)(K:Frag)
def gAt(x:Str):Addr:=match nsIn K mainGlobals x with
 | some (some (.ref a))=>a
 | _=>0
def mAt(c:Addr)(x:Str):Addr:=match findIn K (.ref c) x with
 | some (some (.ref a))=>a
 | _=>0
def dAt(f:Addr):FuncData:=match K.lookup f with
 | some ⟨_,_,.func d,_⟩=>d
 | _=>default
def PT.fs(i:Nat):FS:=pk fs0 p.F i
def PT.ps(i:Nat):List Str:=(p.fs i).N.take (p.fs i).k
def PT.ca(c:Nat):Addr:=gAt K (pk "" p.C c)
def PT.xa(c:Nat):Addr:=gAt K (pk "" p.X c)
def PT.fx(x:FS):Addr:=match x.c with
 | none=>gAt K (aE x.s)
 | some c=>mAt K (p.ca K c) (aE x.s)
def PT.fa(i:Nat):Addr:=p.fx K (p.fs i)
def lit(x:FS):Obj->Obj
 |⟨oc,od,.func d,sl⟩=>⟨oc,od,.func (fnOf (aE x.s) x.q (bf x.s) (aG x.s) (ao x.s) .none d.kwdefaults d.doc d.pyModule d.annotations d.code d.closureTuple),sl⟩
 | o=>o
def zh:Option Obj->Bool
 | some ⟨_,_,.func _,_⟩=>true
 | _=>false
def scB(x:FS):Bool:=decide ((ao x.s).kind=.function)&&!(ao x.s).isCoroutine&&!(ao x.s).isGenerator&&decide x.N.Nodup&&decide (x.k<=x.N.length) &&
 (x.N.take x.k).all (fun y=>decide ((ao x.s).names.lookup y=some .local \/(ao x.s).names.lookup y=some .cell))&&(ao x.s).names.all (fun y=>decide (y.2≠.free))
def PT.chF(x:FS):Bool:=zh (K.lookup (p.fx K x))&&codeIn K (dAt K (p.fx K x)).code x.q&&keepIn K (.ref (p.fx K x))&&(match x.c with | none=>decide (nsIn K mainGlobals (aE x.s)=some (some (.ref (p.fx K x)))) | some _=>true)
def chC(A:List Str)(x:Str):Bool:=PySem.W.plainGet K (gAt K x) Str.empty&&PySem.W.hasDictIn K (gAt K x)&&PySem.W.plainOver K (gAt K x)&&decide (findIn K (.ref (gAt K x)) "__setattr__" = some (some (.builtin "object.__setattr__"))) &&
 decide (nsIn K mainGlobals x=some (some (.ref (gAt K x))))&&A.all (fun y=>decide (findIn K (.ref (gAt K x)) y=some none))
def PT.chM(x:Nat×Str×Nat):Bool:=decide (findIn K (.ref (p.ca K x.1)) x.2.1=some (some (.ref (p.fa K x.2.2))))&&isFn K (.ref (p.fa K x.2.2))&&keepIn K (.ref (p.fa K x.2.2))
def PT.chK(x:Nat×Nat):Bool:=PySem.W.makesIn K (p.ca K x.1)&&decide (findIn K (.ref (p.ca K x.1)) "__init__" = some (some (.ref (p.fa K x.2))))&&isFn K (.ref (p.fa K x.2))&&keepIn K (.ref (p.ca K x.1))
def vd(f:Addr):Option PySem.W.CFound->Bool
 | some (.val (.ref a))=>decide (a=f)
 | _=>false
def PT.chU(x:Nat×Nat):Bool:=decide (PySem.W.specialIn K (.ref (p.ca K x.1)) "__getattribute__" = some (some (.builtin "type.__getattribute__")))&&PySem.W.readsIn K (p.ca K x.1) (.type "type")&&vd (p.fa K x.2) (PySem.W.findCls K (.ref (p.ca K x.1)) (.type "type") "__init__")&&keepIn K (.ref (p.fa K x.2))
def tgV(y:Option Nat×String×List Bool):Value:=match y.1 with
 | some x=>.ref (p.xa K x)
 | none=>.type y.2.1
def chX(x:Str):Bool:=decide (nsIn K mainGlobals x=some (some (.ref (gAt K x))))&&pQ K (gAt K x)
def chI(x:Str×Int):Bool:=match nsIn K mainGlobals x.1 with
 | some (some (.int i _))=>decide (i=x.2)
 | _=>false
def PT.chT(y:Option Nat×String×List Bool):Bool:=decide (p.X.map (fun x=>PySem.W.kitOne K (.ref (gAt K x)) (tgV p K y))=y.2.2.map some)
def PT.chH(y:Nat×List Bool):Bool:=decide (p.X.map (fun x=>PySem.W.exmOne K (.ref (gAt K x)) (.ref (p.xa K y.1)))=y.2.map some)
def PT.ch1:Bool:=p.F.all (p.chF K)
def PT.ch2:Bool:=p.C.all (chC K p.A)&&p.Mk.all (p.chK K)&&p.U.all (p.chU K)&&p.X.all (chX K)&&p.B.all (fun x=>decide (nsIn K mainGlobals x=some none))&&p.I.all (chI K)&&p.KT.all (p.chT K)&&p.HT.all (p.chH K)
def PT.ch3:Bool:=p.M.all (p.chM K)
def PT.ob:List (Option Obj):=p.F.map fun x=>K.lookup (p.fx K x)
def PT.ol:List (Option Obj):=p.F.map fun x=>(K.lookup (p.fx K x)).map (lit x)
end
structure Tx(p:PT)(K:Frag)(mg:Str->Option Value):Prop where
 fn:∀i,Fun K (aE (p.fs i).s) (p.fs i).q (p.fs i).s (p.fa K i) (dAt K (p.fa K i))
 sc:∀i,bP (p.fs i).N (p.ps i) (ao (p.fs i).s)
 bn:∀i,cE K (dAt K (p.fa K i)) (p.ps i) []
 gl:∀i,(p.fs i).c=none->mg (aE (p.fs i).s)=some (.ref (p.fa K i))
 cl:∀c,Cls K (p.ca K c)
 cg:∀c,mg (pk "" p.C c)=some (.ref (p.ca K c))
 cn:∀c,∀x∈p.A,cX K (p.ca K c) x
 me:∀x∈p.M,uH K (p.ca K x.1) x.2.1 (p.fa K x.2.2)
 mm:∀x∈p.Mk,Mk K (p.ca K x.1) (p.fa K x.2)
 su:∀x∈p.U,Sup K (p.ca K x.1) (p.fa K x.2)
 xg:∀c,mg (pk "" p.X c)=some (.ref (p.xa K c))
 xe:∀c,pQ K (p.xa K c)=true
 bi:∀x∈p.B,mg x=none
 ci:∀x∈p.I,∃tk,mg x.1=some (.int x.2 tk)
 kt:∀y∈p.KT,∀c,PySem.W.kitOne K (.ref (p.xa K c)) (tgV p K y)=some (f_ y.2.2 c)
 ht:∀y∈p.HT,∀c,PySem.W.exmOne K (.ref (p.xa K c)) (.ref (p.xa K y.1))=some (f_ y.2 c)
def Bnd(x:FS):Prop:=∀(kV doc pm:Value) (an:Option Addr) (cdv ct:Value) (us:List Value),us.length=(x.N.take x.k).length->bindArgs (fnOf (aE x.s) x.q (bf x.s) (aG x.s) (ao x.s) .none kV doc pm an cdv ct) ⟨us,[]⟩=pure ((x.N.take x.k).zip us)
def sF:List FS->Prop
 | []=>True
 | x::l=>Bnd x/\sF l
theorem sF.get:∀{l:List FS},sF l->∀x∈l,Bnd x
 | [],_,_,h=>nomatch h
 | y::l,⟨h1,h2⟩,x,h=>by
  rcases List.mem_cons.mp h with rfl | h
  ·exact h1
  ·exact h2.get x h
section
variable{x:FS}
theorem lsS{us:List Value}(h:us.length=n+1):∃a r,us=a::r/\r.length=n:=by
 cases us with
 | nil=>cases h
 | cons a r=>exact⟨a,r,rfl,Nat.succ.inj h⟩
theorem bn1(h:∀(kV doc pm:Value) (an:Option Addr) (cdv ct u1:Value),bindArgs (fnOf (aE x.s) x.q (bf x.s) (aG x.s) (ao x.s) .none kV doc pm an cdv ct) ⟨[u1],[]⟩=pure ((x.N.take x.k).zip [u1]):=by intros;rfl)(hk:(x.N.take x.k).length=1:=by rfl):Bnd x:=fun kV doc pm an cdv ct us hl=>by
 rw[hk]at hl
 obtain⟨_,_,rfl,l1⟩:=lsS hl
 cases List.eq_nil_of_length_eq_zero l1
 exact h ..
theorem bn2(h:∀(kV doc pm:Value) (an:Option Addr) (cdv ct u1 u2:Value),bindArgs (fnOf (aE x.s) x.q (bf x.s) (aG x.s) (ao x.s) .none kV doc pm an cdv ct) ⟨[u1,u2],[]⟩=pure ((x.N.take x.k).zip [u1,u2]):=by intros;rfl)(hk:(x.N.take x.k).length=2:=by rfl):Bnd x:=fun kV doc pm an cdv ct us hl=>by
 rw[hk]at hl
 obtain⟨_,_,rfl,l1⟩:=lsS hl
 obtain⟨_,_,rfl,l2⟩:=lsS l1
 cases List.eq_nil_of_length_eq_zero l2
 exact h ..
theorem bn3(h:∀(kV doc pm:Value) (an:Option Addr) (cdv ct u1 u2 u3:Value),bindArgs (fnOf (aE x.s) x.q (bf x.s) (aG x.s) (ao x.s) .none kV doc pm an cdv ct) ⟨[u1,u2,u3],[]⟩=pure ((x.N.take x.k).zip [u1,u2,u3]):=by intros;rfl)(hk:(x.N.take x.k).length=3:=by rfl):Bnd x:=fun kV doc pm an cdv ct us hl=>by
 rw[hk]at hl
 obtain⟨_,_,rfl,l1⟩:=lsS hl
 obtain⟨_,_,rfl,l2⟩:=lsS l1
 obtain⟨_,_,rfl,l3⟩:=lsS l2
 cases List.eq_nil_of_length_eq_zero l3
 exact h ..
theorem bn4(h:∀(kV doc pm:Value) (an:Option Addr) (cdv ct u1 u2 u3 u4:Value),bindArgs (fnOf (aE x.s) x.q (bf x.s) (aG x.s) (ao x.s) .none kV doc pm an cdv ct) ⟨[u1,u2,u3,u4],[]⟩=pure ((x.N.take x.k).zip [u1,u2,u3,u4]):=by intros;rfl)(hk:(x.N.take x.k).length=4:=by rfl):Bnd x:=fun kV doc pm an cdv ct us hl=>by
 rw[hk]at hl
 obtain⟨_,_,rfl,l1⟩:=lsS hl
 obtain⟨_,_,rfl,l2⟩:=lsS l1
 obtain⟨_,_,rfl,l3⟩:=lsS l2
 obtain⟨_,_,rfl,l4⟩:=lsS l3
 cases List.eq_nil_of_length_eq_zero l4
 exact h ..
theorem bn5(h:∀(kV doc pm:Value) (an:Option Addr) (cdv ct u1 u2 u3 u4 u5:Value),bindArgs (fnOf (aE x.s) x.q (bf x.s) (aG x.s) (ao x.s) .none kV doc pm an cdv ct) ⟨[u1,u2,u3,u4,u5],[]⟩=pure ((x.N.take x.k).zip [u1,u2,u3,u4,u5]):=by intros;rfl)(hk:(x.N.take x.k).length=5:=by rfl):Bnd x:=fun kV doc pm an cdv ct us hl=>by
 rw[hk]at hl
 obtain⟨_,_,rfl,l1⟩:=lsS hl
 obtain⟨_,_,rfl,l2⟩:=lsS l1
 obtain⟨_,_,rfl,l3⟩:=lsS l2
 obtain⟨_,_,rfl,l4⟩:=lsS l3
 obtain⟨_,_,rfl,l5⟩:=lsS l4
 cases List.eq_nil_of_length_eq_zero l5
 exact h ..
theorem bn6(h:∀(kV doc pm:Value) (an:Option Addr) (cdv ct u1 u2 u3 u4 u5 u6:Value),bindArgs (fnOf (aE x.s) x.q (bf x.s) (aG x.s) (ao x.s) .none kV doc pm an cdv ct) ⟨[u1,u2,u3,u4,u5,u6],[]⟩=pure ((x.N.take x.k).zip [u1,u2,u3,u4,u5,u6]):=by intros;rfl)(hk:(x.N.take x.k).length=6:=by rfl):Bnd x:=fun kV doc pm an cdv ct us hl=>by
 rw[hk]at hl
 obtain⟨_,_,rfl,l1⟩:=lsS hl
 obtain⟨_,_,rfl,l2⟩:=lsS l1
 obtain⟨_,_,rfl,l3⟩:=lsS l2
 obtain⟨_,_,rfl,l4⟩:=lsS l3
 obtain⟨_,_,rfl,l5⟩:=lsS l4
 obtain⟨_,_,rfl,l6⟩:=lsS l5
 cases List.eq_nil_of_length_eq_zero l6
 exact h ..
end
theorem qa{l:List Str}{α:Type}{f:Addr->Option Bool}{bs:List Bool}(hl:l≠[])(h:l.map (fun x=>f (gAt K x))=bs.map some)(c:Nat):f (gAt K (pk "" l c))=some (f_ bs c):=by
 have e:gAt K (pk "" l c)=tL (l.map (gAt K)) c:=by
  unfold pk tL
  cases l with
  | nil=>exact absurd rfl hl
  | cons a l =>
   rw[List.getD_eq_getElem?_getD,List.getD_eq_getElem?_getD,List.getElem?_map]
   cases(a::l)[c]?<;>rfl
 rw[e]
 exact qI (g:=id) (by simpa using hl) (by rw[List.map_map];exact h) c
theorem Tx.of{p:PT}{K:Frag}{h:Heap}{mg:Str->Option Value}(X:K.In h)(N:h.Ns mainGlobals mg)(hb:sF p.F)(hs:p.F.all scB=true)(hF:p.F≠[])(hC:p.C≠[])(hX:p.X≠[])
  (e:p.ob K=p.ol K) (h1:p.ch1 K=true) (h2:p.ch2 K=true) (h3:p.ch3 K=true):Tx p K mg:=by
 simp only[PT.ch2,Bool.and_eq_true,List.all_eq_true,decide_eq_true_eq]at h2
 obtain⟨⟨⟨⟨⟨⟨⟨c1,c2⟩,c3⟩,c4⟩,c5⟩,c6⟩,c7⟩,c8⟩:=h2
 simp only[PT.ch1,PT.ch3,List.all_eq_true]at h1 h3 hs
 have fnx:∀x∈p.F,Fun K (aE x.s) x.q x.s (p.fx K x) (dAt K (p.fx K x)):=fun x hx=>by
  have q:=h1 x hx
  simp only[PT.chF,Bool.and_eq_true]at q
  obtain⟨⟨⟨q1,q2⟩,q3⟩,_⟩:=q
  have e1:K.lookup (p.fx K x)=(K.lookup (p.fx K x)).map (lit x):=List.map_inj_left.mp e x hx
  cases eo:K.lookup (p.fx K x)with
  | none=>rw[eo]at q1;cases q1
  | some o =>
   rw[eo]at e1 q1
   obtain⟨oc,od,dt,sl⟩:=o
   cases dt with
   | func d =>
    have e2:(⟨oc,od,.func d,sl⟩:Obj)=lit x ⟨oc,od,.func d,sl⟩:=Option.some.inj e1
    simp only[lit,Obj.mk.injEq,Data.func.injEq,true_and,and_true]at e2
    have ed:dAt K (p.fx K x)=d:=by unfold dAt;rw[eo]
    rw[ed]at q2 ⊢
    exact⟨⟨oc,od,d.kwdefaults,d.doc,d.pyModule,d.annotations,d.code,d.closureTuple,sl,e2,eo,q2⟩,q3⟩
   | _=>cases q1
 have scx:∀x∈p.F,bP x.N (x.N.take x.k) (ao x.s):=fun x hx=>by
  have q:=hs x hx
  simp only[scB,Bool.and_eq_true,decide_eq_true_eq,List.all_eq_true,Bool.not_eq_true']at q
  obtain⟨⟨⟨⟨⟨⟨q1,q2⟩,q3⟩,q4⟩,q5⟩,q6⟩,q7⟩:=q
  exact⟨q1,q2,q3,q4,by rw[List.length_take,Nat.min_eq_left q5],q6,q7⟩
 have clx:∀x∈p.C,(Cls K (gAt K x)/\mg x=some (.ref (gAt K x)))/\∀y∈p.A,cX K (gAt K x) y:=fun x hx=>by
  have q:=c1 x hx
  simp only[chC,Bool.and_eq_true,decide_eq_true_eq,List.all_eq_true]at q
  obtain⟨⟨⟨⟨⟨q1,q2⟩,q3⟩,q4⟩,q5⟩,q6⟩:=q
  exact⟨⟨⟨q1,q2,q3,q4⟩,PySem.W.mg_of X N q5⟩,q6⟩
 have xx:∀x∈p.X,mg x=some (.ref (gAt K x))/\pQ K (gAt K x)=true:=fun x hx=>by
  have q:=c4 x hx
  simp only[chX,Bool.and_eq_true,decide_eq_true_eq]at q
  exact⟨PySem.W.mg_of X N q.1,q.2⟩
 refine ⟨ee (p:=fun x=>Fun K (aE x.s) x.q x.s (p.fx K x) (dAt K (p.fx K x))) hF fnx,ee (p:=fun x=>bP x.N (x.N.take x.k) (ao x.s)) hF scx,ee (p:=fun x=>cE K (dAt K (p.fx K x)) (x.N.take x.k) []) hF fun x hx=>(fnx x hx).binds (hb.get x hx),
  ee (p:=fun x=>x.c=none->mg (aE x.s)=some (.ref (p.fx K x))) hF fun x hx hc=>?_,ee (p:=fun x=>Cls K (gAt K x)) hC fun x hx=>(clx x hx).1.1,ee (p:=fun x=>mg x=some (.ref (gAt K x))) hC fun x hx=>(clx x hx).1.2,
  ee (p:=fun x=>∀y∈p.A,cX K (gAt K x) y) hC fun x hx=>(clx x hx).2,fun x hx=>?_,fun x hx=>?_,fun x hx=>?_,ee (p:=fun x=>mg x=some (.ref (gAt K x))) hX fun x hx=>(xx x hx).1,ee (p:=fun x=>pQ K (gAt K x)=true) hX fun x hx=>(xx x hx).2,
  fun x hx=>PySem.W.mg_none_of X N (c5 x hx),fun x hx=>?_,fun y hy c=>?_,fun y hy c=>?_⟩
 ·have q:=h1 x hx
  simp only[PT.chF,Bool.and_eq_true]at q
  have q:=q.2
  rw[hc]at q
  exact PySem.W.mg_of X N (of_decide_eq_true q)
 ·have q:=h3 x hx
  simp only[PT.chM,Bool.and_eq_true,decide_eq_true_eq]at q
  exact⟨q.1.1,q.1.2,q.2⟩
 ·have q:=c2 x hx
  simp only[PT.chK,Bool.and_eq_true,decide_eq_true_eq]at q
  exact⟨q.1.1.1,q.1.1.2,q.1.2,q.2⟩
 ·have q:=c3 x hx
  simp only[PT.chU,Bool.and_eq_true,decide_eq_true_eq]at q
  refine⟨q.1.1.1,q.1.1.2,?_,q.2⟩
  have q:=q.1.2
  unfold vd at q
  split at q
  ·rename_i a e
   rw[e,of_decide_eq_true q]
  ·cases q
 ·have q:=c6 x hx
  unfold chI at q
  split at q
  ·rename_i i tk e
   exact⟨tk,by rw[<- of_decide_eq_true q];exact PySem.W.mg_of X N e⟩
  ·cases q
 ·exact qa (α:=Bool) (f:=fun a=>PySem.W.kitOne K (.ref a) (tgV p K y)) hX (of_decide_eq_true (c7 y hy)) c
 ·exact qa (α:=Bool) (f:=fun a=>PySem.W.exmOne K (.ref a) (.ref (p.xa K y.1))) hX (of_decide_eq_true (c8 y hy)) c
def PT.attOk(p:PT):Prop:=p.A.Nodup/\p.A.all gJ=true
@[reducible] def PT.T(p:PT)(h:p.attOk)(K:Frag):Tb where
 K:=K
 nc:=p.C.length
 cls:=p.ca K
 att:=gC p.A
 inj:=pV h.1 h.2
 xcl:=p.xa K
section
variable{p:PT}{K:Frag}{mg:Str->Option Value}
theorem Tx.cls(t:Tx p K mg)(n:Nat):∀c < n,Cls K (p.ca K c):=fun c _=>t.cl c
theorem Tx.b(t:Tx p K mg)(j:Nat)(h:p.B[j]?=some x:=by rfl):mg x=none:=t.bi x (List.mem_of_getElem? h)
theorem Tx.c(t:Tx p K mg)(j:Nat)(h:p.I[j]?=some (x,i):=by rfl):∃tk,mg x=some (.int i tk):=t.ci (x,i) (List.mem_of_getElem? h)
theorem Tx.k(t:Tx p K mg)(j:Nat)(h:p.KT[j]?=some y:=by rfl)(c:Nat):PySem.W.kitOne K (.ref (p.xa K c)) (tgV p K y)=some (f_ y.2.2 c):=t.kt y (List.mem_of_getElem? h) c
end
open PySem.W (keepIn Frag)
section
variable{P:Program}{w:World}{K:Frag}{mg:Str->Option Value}{base:Heap}{p:PT}{hA:p.attOk}
abbrev OkF(p:PT)(hA:p.attOk)(P:Program)(w:World)(K:Frag)(mg:Str->Option Value)(base:Heap)(k i:Nat)(m:List PV->Res PV):Prop:=bC P w K mg base (CXP P w) k (p.fa K i) (dAt K (p.fa K i)) (p.ps i) (spM (p.T hA K) (p.ps i).length m)
abbrev OkI(p:PT)(hA:p.attOk)(P:Program)(w:World)(K:Frag)(mg:Str->Option Value)(base:Heap)(k i:Nat)(m:List PV->Res PV):Prop:=bC P w K mg base (CXP P w) k (p.fa K i) (dAt K (p.fa K i)) (p.ps i) (spI (p.T hA K) (p.ps i).length m)
theorem okC(i:Nat)(t:Tx p K mg)(body:∀ (cdv:Value) (A:Around) (outer:List Env) (s:Shared) (H:Hp) (E:XK),Ctx (cB (CXP P w) P w K mg base (p.fs i).N (p.fs i).q (ao (p.fs i).s) (p.fa K i) cdv A outer s H E) (p.T hA K) (WD (p.T hA K) E) k->(p.fs i).N.Nodup ->
  SSs (cB (CXP P w) P w K mg base (p.fs i).N (p.fs i).q (ao (p.fs i).s) (p.fa K i) cdv A outer s H E) (p.T hA K) (WD (p.T hA K) E) (aG (p.fs i).s) m):OkF p hA P w K mg base (k+1) i (bg (p.fs i).N.length m) :=
 wI (T:=p.T hA K) (t.fn i) (t.sc i) fun a b c d e f g=>body a b c d e f g (t.sc i).nd
theorem okI(i:Nat)(t:Tx p K mg)(body:∀ (cdv:Value) (A:Around) (outer:List Env) (s:Shared) (H:Hp) (E:XK),Ctx (cB (CXP P w) P w K mg base (p.fs i).N (p.fs i).q (ao (p.fs i).s) (p.fa K i) cdv A outer s H E) (p.T hA K) (WD (p.T hA K) E) k->(p.fs i).N.Nodup ->
  SSs (cB (CXP P w) P w K mg base (p.fs i).N (p.fs i).q (ao (p.fs i).s) (p.fa K i) cdv A outer s H E) (p.T hA K) (WD (p.T hA K) E) (aG (p.fs i).s) m):OkI p hA P w K mg base (k+1) i (iH (p.fs i).N.length m) :=
 uh (T:=p.T hA K) (t.fn i) (t.sc i) fun a b c d e f g=>body a b c d e f g (t.sc i).nd
theorem dm{X:Cx}{k k2 i c:Nat}{mn:Str}{m m':List PV->Res PV}{ps:List Str}(j:Nat)(t:Tx p X.K X.mg)(G:bC X.prog X.w X.K X.mg X.base (CXP X.prog X.w) k (p.fa X.K i) (dAt X.K (p.fa X.K i)) ps (spM (p.T hA X.K) ps.length m))(e:some m=some m')(hj:p.M[j]?=some (c,mn,i):=by rfl)(hp:p.ps i=ps:=by rfl)(hk:k<=k2:=by decide) :
  ∃f fd,uH X.K (p.ca X.K c) mn f/\cE X.K fd ps []/\bC X.prog X.w X.K X.mg X.base (CXP X.prog X.w) k2 f fd ps (spM (p.T hA X.K) ps.length m'):=by
 cases e
 exact⟨_,_,t.me _ (List.mem_of_getElem? hj),hp▸t.bn i,G.mono hk⟩
end
theorem dno{n c:Nat}{q:Prop}(h:c < n)(hc:n<=c:=by exact Nat.le_add_left _ _):q:=absurd h (Nat.not_lt.mpr hc)
section
variable{X:Cx}{W:Nat->St->Hp->Prop}{p:PT}{hA:p.attOk}
theorem aP(t:Tx p X.K X.mg)
  (G:bC X.prog X.w X.K X.mg X.base (CXP X.prog X.w) k (p.fa X.K i) (dAt X.K (p.fa X.K i)) (p.ps i) (spM (p.T hA X.K) (p.ps i).length m)) (cx:Ctx X (p.T hA X.K) W kk) (ha:SA X (p.T hA X.K) W (e::es) ms)
  (hk:k<=kk:=by decide) (hx:aE (p.fs i).s=x:=by rfl) (hc:(p.fs i).c=none:=by rfl) (hg:Gl X x:=by rfl) (hn:dA ms n:=by repeat' first | exact bW | apply bE) (hps:n=(p.ps i).length:=by rfl)
  (hdb:(x ==("__debug__" : Str))=false:=by decide) (he:starEach (e::es) X.env=(false,eval e X.env)::starEach es X.env:=by rfl) (hpl:(backTo pos (starEach es X.env)).any (·.1)=false:=by rfl) :
  SE X (p.T hA X.K) W (.Call (.Name x np) (e::es) [] pos) (am (au m) ms) :=
 kX G cx hk hg (by subst hx;exact t.gl i hc) (t.fn i).kp (t.bn i) hn hps ha hdb he hpl
theorem mJ(t:Tx p X.K X.mg)
  (D:kL X (p.T hA X.K) k mn ps [] disp) (cx:Ctx X (p.T hA X.K) W kk) (ho:SE X (p.T hA X.K) W o mo) (ha:SA X (p.T hA X.K) W (e::es) ms)
  (hm:∀k,gC p.A k≠mn:=by exact sA (by decide +kernel) (by decide +kernel)) (hk:k<=kk:=by decide) (hn:dA ms n:=by repeat' first | exact bW | apply bE) (hps:n+1=ps.length:=by rfl)
  (hst:starEach (e::es) X.env=(false,eval e X.env)::starEach es X.env:=by rfl) (hpl:(backTo pos (starEach es X.env)).any (·.1)=false:=by rfl)
  (ht:eval (.Call (.Attribute o mn apos) (e::es) [] pos) X.env=(do
   let ov <- eval o X.env
   standAt apos.atName
   let(f,first) <- holding [ov] (getMethod ov mn pl)
   callWith pos f first (backTo pos (starEach (e::es) X.env)) (backToKw pos (keywordEach [] X.env))):=by rfl) :
  SE X (p.T hA X.K) W (.Call (.Attribute o mn apos) (e::es) [] pos) (fQ disp mo ms) :=
 vC (pl:=pl) cx (t.cls _) hm D hk hn hps ho ha hst hpl ht
theorem vH(c:Nat)(t:Tx p X.K X.mg)
  (G:bC X.prog X.w X.K X.mg X.base (CXP X.prog X.w) k (p.fa X.K i) (dAt X.K (p.fa X.K i)) (p.ps i) (spI (p.T hA X.K) (p.ps i).length m)) (cx:Ctx X (p.T hA X.K) W kk) (ha:SA X (p.T hA X.K) W (e::es) ms)
  (hM:(c,i)∈ p.Mk:=by decide) (hcn:c < p.C.length:=by decide) (hk:k+1<=kk:=by decide) (hx:pk ("" : Str) p.C c=x:=by rfl) (hg:Gl X x:=by rfl) (hn:dA ms n:=by repeat' first | exact bW | apply bE) (hps:n+1=(p.ps i).length:=by rfl)
  (hdb:(x ==("__debug__" : Str))=false:=by decide) (he:starEach (e::es) X.env=(false,eval e X.env)::starEach es X.env:=by rfl) (hpl:(backTo pos (starEach es X.env)).any (·.1)=false:=by rfl) :
  SE X (p.T hA X.K) W (.Call (.Name x np) (e::es) [] pos) (mY c m ms) :=
 vz (t.mm _ hM) hcn G cx hk hg (by subst hx;exact t.cg c) (t.bn i) hn hps ha hdb he hpl
theorem aZ(k:Nat)(t:Tx p X.K X.mg)(cx:Ctx X (p.T hA X.K) W kk)(he:SE X (p.T hA X.K) W e m)(hf:gC p.A k=f:=by rfl)(hm:f∈p.A:=by decide)(hb:attributeBase e f X.env (eval e X.env)=eval e X.env:=by rfl) :
  SE X (p.T hA X.K) W (.Attribute e f pos) (mUn (az k) m):=s_ cx.hK hf (t.cls _) (fun c _=>t.cn c f hm) he hb
theorem dS(ha:SA X T W es ms)(hn:dA ms n:=by repeat' first | exact bW | apply bE)(hs:n<=1000:=by decide):SE X T W (.List es pos) (bV ms):=vD ha hn hs
theorem qt{x1}(ha:SA X T W es ms)(hn:dA ms n:=by repeat' first | exact bW | apply bE)(hs:n<=1000:=by decide):SE X T W (.Tuple es x1 pos) (jv ms):=vx ha hn hs
theorem bD(cx:Ctx X T W kk)(ha:SE X T W a ma)(hb:SE X T W b mb)(hs:fw b:=by exact fun _ _=>rfl):SE X T W (.Subscript a b pos) (mOp aC ma mb):=vE cx.hK ha hb hs
theorem aY(hN:X.N.Nodup)(he:SE X T W e m)(hi:X.N[i]?=some x:=by rfl)(hx:Loc X.env.scope x:=by first | exact .inl rfl | exact .inr rfl)(hs:swapsWith e (some (.Name x pos')) pos.line X.env=pure false:=by rfl)
  (hf:X.fn x=true\/X.env.scope.names.lookup x=some .local:=by first | exact .inl rfl | exact .inr rfl | assumption):SS X T W (.Assign [.Name x pos'] e pos) (aF i m):=vq hN hi hx he hs hf
theorem sgN(hN:X.N.Nodup)(hi:X.N[i]?=some x:=by rfl)(hx:Loc X.env.scope x:=by first | exact .inl rfl | exact .inr rfl)(hf:X.fn x=true\/X.env.scope.names.lookup x=some .local:=by first | exact .inl rfl | exact .inr rfl | assumption):SG X T (.Name x pos) (tgN i):=sS hN hi hx hf
theorem fD(h:k<=i:=by decide):fT (tgN i) k:=p_ h
theorem o7(cx:Ctx X T W kk)(he:SE X T W e m)(hN:X.N[i]?=some x:=by rfl)(hv:Vis X.env.scope x:=by first | exact Or.inl rfl | exact Or.inr (Or.inl rfl) | exact Or.inr (Or.inr rfl))
  (hs:swapsWith (.Call (.Attribute (.Name x px) "append" apos) [e] [] cpos) none pos.line X.env=pure false:=by rfl) (hst:starEach [e] X.env=[(false,eval e X.env)]:=by rfl)
  (hfew:((backTo cpos (starEach [e] X.env)).all (fun x=>!x.1)&&(backToKw cpos (keywordEach [] X.env)).all (fun x=>x.1.isSome)&&decide ([e].length+([]:List Keyword).length+(if([]:List Keyword).isEmpty then 0 else 1) < 30))=true:=by rfl)
  (hline:(apos.endLine==cpos.line)=true:=by rfl) (hd:(x ==("__debug__" : Str))=false:=by decide) (hcd:(x ==("__classdict__" : Str))=false:=by decide) :
  SS X T W (.Expr (.Call (.Attribute (.Name x px) "append" apos) [e] [] cpos) pos) (bY i m):=o3 cx.hK hN hv he hs hst hfew hline hd hcd
theorem sFld(k:Nat)(t:Tx p X.K X.mg)(cx:Ctx X (p.T hA X.K) W kk)(he:SE X (p.T hA X.K) W e m)(hf:gC p.A k=f:=by rfl)(hm:f∈p.A:=by decide)(hN:X.N[i]?=some x:=by rfl)
  (hv:Vis X.env.scope x:=by first | exact Or.inl rfl | exact Or.inr (Or.inl rfl) | exact Or.inr (Or.inr rfl))
  (hs:swapsWith e (some (.Attribute (.Name x px) f pos')) pos.line X.env=pure false:=by rfl) (hd:(x ==("__debug__" : Str))=false:=by decide) (hcd:(x ==("__classdict__" : Str))=false:=by decide) :
  SS X (p.T hA X.K) W (.Assign [.Attribute (.Name x px) f pos'] e pos) (eO i k m):=vt cx.hK hf (t.cls _) (fun c _=>t.cn c f hm) hN hv he hs hd hcd
theorem bH(c:Nat)(t:Tx p X.K X.mg)(cx:Ctx X (p.T hA X.K) W k)(hB:X.K.In X.base)(hx:XM X (p.T hA X.K) W)(ha:SA X (p.T hA X.K) W (e::es) ms)
  (hm:pk ("" : Str) p.X c=x:=by rfl) (hg:Gl X x:=by rfl) (hn:dA ms n:=by repeat' first | exact bW | apply bE) (hn2:n<=100:=by decide) (hd:(x ==("__debug__" : Str))=false:=by decide)
  (he:starEach (e::es) X.env=(false,eval e X.env)::starEach es X.env:=by rfl) (hpl:(backTo cpos (starEach es X.env)).any (·.1)=false:=by rfl) :
  SS X (p.T hA X.K) W (.Raise (some (.Call (.Name x np) (e::es) [] cpos)) none pos) (aQ c ms) :=
 oZ cx (by subst hm;exact t.xg c) hB (ur (t.xe c)).2 hx hg hn hn2 ha hd he hpl
theorem vF(c:Nat)(t:Tx p X.K X.mg)
  (G:bC X.prog X.w X.K X.mg X.base (CXP X.prog X.w) k (p.fa X.K i) (dAt X.K (p.fa X.K i)) (p.ps i) (spI (p.T hA X.K) (p.ps i).length m)) (cx:Ctx X (p.T hA X.K) W kk) (ha:SA X (p.T hA X.K) W es ms)
  (hU:(c,i)∈ p.U:=by decide) (hk:k<=kk:=by decide) (hx:pk ("" : Str) p.C c=x:=by rfl) (hg:Gl X x:=by rfl) (hN:X.N[0]?=some y:=by rfl) (hv:Vis X.env.scope y:=by first | exact Or.inl rfl | exact Or.inr (Or.inl rfl) | exact Or.inr (Or.inr rfl))
  (hn:dA ms n:=by repeat' first | exact bW | apply bE) (hps:n+1=(p.ps i).length:=by rfl)
  (hdb:(x ==("__debug__" : Str))=false:=by decide) (hdy:(y ==("__debug__" : Str))=false:=by decide) (hcy:(y ==("__classdict__" : Str))=false:=by decide)
  (hst:starEach (.Name y px::es) X.env=(false,eval (.Name y px) X.env)::starEach es X.env:=by rfl) (hpl:(backTo pos (starEach es X.env)).any (·.1)=false:=by rfl)
  (ht:eval (.Call (.Attribute (.Name x q) "__init__" apos) (.Name y px::es) [] pos) X.env=(do
   let ov <- eval (.Name x q) X.env
   standAt apos.atName
   let(f,first) <- holding [ov] (getMethod ov "__init__" pl)
   callWith pos f first (backTo pos (starEach (.Name y px::es) X.env)) (backToKw pos (keywordEach [] X.env))):=by rfl)
  (hs:swapsWith (.Call (.Attribute (.Name x q) "__init__" apos) (.Name y px::es) [] pos) none pos'.line X.env=pure false:=by rfl) :
  SS X (p.T hA X.K) W (.Expr (.Call (.Attribute (.Name x q) "__init__" apos) (.Name y px::es) [] pos) pos') (gL m ms) :=
 vp (pl:=pl) cx (t.su _ hU) G hk hg (by subst hx;exact t.cg c) (t.bn i) hN hv hn hps ha hdb hdy hcy hst hpl ht hs
end
section
variable{X:Cx}{W:Nat->St->Hp->Prop}{T:Tb}
abbrev nmC(X:Cx)(caps:List Nat)(tn:List Str):List Str:=caps.map (fun i=>X.N.getD i "")++ tn
theorem cOf(h:gY X.env.scope scope X.N caps (nmC X caps tn) tn=true):bQ X scope caps (nmC X caps tn) tn:=uB h rfl rfl
theorem jM(tn:List Str)(cx:Ctx X T W kk)(hi:SIc X T W tg iter mi)(hk:fT g caps.length)
  (hb:∀C s H ex,(nmC X caps tn).Nodup->SG (cxC X scope C (nmC X caps tn) s H ex) T tg g/\STs (cxC X scope C (nmC X caps tn) s H ex) T WF ifs mc/\SE (cxC X scope C (nmC X caps tn) s H ex) T WF elt me)
  (h:gY X.env.scope scope X.N caps (nmC X caps tn) tn=true:=by kernel_rfl) (hs:∀x,foldedSetIterable iter X.env x=pure x:=by intro _;rfl):SE X T W (.ListComp elt [⟨tg,iter,ifs,0⟩] scope pos) (bv caps tn.length mi g mc me) :=
 sZ (cOf h) cx.calm hi hk (fun C s H ex=>hb C s H ex (cOf h).nd) hs
theorem fF(tn:List Str)(cx:Ctx X T W kk)(hN:X.N.Nodup)(hi:SIc X T W tg iter mi)(hk:fT g caps.length)
  (hb:∀C s H ex,(nmC X caps tn).Nodup->SG (cxC X scope C (nmC X caps tn) s H ex) T tg g/\STs (cxC X scope C (nmC X caps tn) s H ex) T WF ifs mc/\SE (cxC X scope C (nmC X caps tn) s H ex) T WF elt me)
  (h:gY X.env.scope scope X.N caps (nmC X caps tn) tn=true:=by kernel_rfl) (hy:X.N[i]?=some y:=by rfl) (hx:Loc X.env.scope y:=by first | exact .inl rfl | exact .inr rfl)
  (hsw:swapsWith (.ListComp elt [⟨tg,iter,ifs,0⟩] scope pos) (some (.Name y py)) spos.line X.env=pure true:=by rfl)
  (hs:∀x,foldedSetIterable iter X.env x=pure x:=by intro _;rfl)
  (hf:X.fn y=true\/X.env.scope.names.lookup y=some .local:=by first | exact .inl rfl | exact .inr rfl | assumption) :
  SS X T W (.Assign [.Name y py] (.ListComp elt [⟨tg,iter,ifs,0⟩] scope pos) spos) (aF i (bv caps tn.length mi g mc me)) :=
 sQ (cOf h) cx.calm hN hy hx hi hk (fun C s H ex=>hb C s H ex (cOf h).nd) hsw hs hf
end
end PR
namespace PR
open PySem PySem.Spec L2 PyProof.Rows
section
variable{X:Cx}{tg:Expr}
end
section
variable{X:Cx}{T:Tb}{W:Nat->L2.St->Hp->Prop}{F1 B:Addr->Prop}{H1:Hp}
end
end PR
namespace PR
open PySem PySem.Spec L2
section
variable{X:Cx}{T:Tb}{W:Nat->St->Hp->Prop}{Z:Zn}{F:Addr->Prop}{H:Hp}{σ:St}{env:En}{fp:Nat->List Addr}
inductive sC(X:Cx)(T:Tb)(n:Str)(c:Nat)(mh:MS):List ExceptHandler->Prop
 | hit {cn:Str}{CC:Addr}{pc hp:Pos}{b₀:Stmt}{suite:List Stmt}{bh:List ExceptHandler} (hg:Gl X cn) (hm:X.mg cn=some (.ref CC)) (hh:PySem.W.exmOne T.K (.ref (T.xcl c)) (.ref CC)=some true)
   (hs:∀e,SSs (X.hanX e) T WF (b₀::suite) mh) (hd:(cn ==("__debug__" : Str))=false):sC X T n c mh (.ExceptHandler (some (.Name cn pc)) (some n) (b₀::suite) hp::bh)
 | miss {cn:Str}{CC:Addr}{pc hp:Pos}{nm:Option Str}{bd:List Stmt}{bh:List ExceptHandler} (hg:Gl X cn) (hm:X.mg cn=some (.ref CC)) (hh:PySem.W.exmOne T.K (.ref (T.xcl c)) (.ref CC)=some false)
   (hd:(cn ==("__debug__" : Str))=false) (r:sC X T n c mh bh):sC X T n c mh (.ExceptHandler (some (.Name cn pc)) nm bd hp::bh)
end
open PySem.W (findIn fnOf keepIn nsIn codeIn isFn Frag)
structure PE where
 D:List (FS×Bool)
 G:List (Str×List (Str×Int))
def PE.at(q:PE)(j:Nat):FS×Bool:=q.D.getD j (fs0,false)
def PT.hk(p:PT)(j:Nat):Nat×List Bool:=p.HT.getD j (0,[])
def PE.gk(q:PE)(j:Nat):Str×List (Str×Int):=q.G.getD j ("", [])
theorem PE.gk_mem(q:PE)(h:j < q.G.length):q.gk j∈q.G:=by unfold PE.gk;rw[List.getD_eq_getElem?_getD,List.getElem?_eq_getElem h];exact List.getElem_mem h
def dfA(K:Frag)(f:Addr):Addr:=match (dAt K f).defaults with
 | .ref a=>a
 | _=>0
def t6(x:FS)(a:Addr):Obj->Obj
 |⟨oc,od,.func d,sl⟩=>⟨oc,od,.func (fnOf (aE x.s) x.q (bf x.s) (aG x.s) (ao x.s) (.ref a) d.kwdefaults d.doc d.pyModule d.annotations d.code d.closureTuple),sl⟩
 | o=>o
def yz(b:Bool):Option Obj->Bool
 | some ⟨_,_,.seq a _,_⟩=>decide (a.toList=[.bool b])
 | _=>false
def ni(P:Params):List DictEntry->List (Str×Int)->List DictEntry
 |⟨_,.str _ t,.int _ u⟩::es,(k,v)::kvs=>⟨PyData.keyHash P k,.str k t,.int v u⟩::ni P es kvs
 | _,_=>[]
theorem uv:(ni P es kvs).length=kvs.length->lP P (ni P es kvs) kvs:=by
 fun_induction ni P es kvs with
 | case1=>rename_i ih;exact fun e=>⟨⟨_,_,rfl⟩,ih (by simpa using e)⟩
 | case2 =>
  intro e
  have e:=List.eq_nil_of_length_eq_zero e.symm
  subst e;trivial
def zc(P:Params)(kvs:List (Str×Int)):Obj->Obj
 |⟨_,_,.dict es ep,_⟩=>{ cls:=.type "dict", dict:=none,data:=.dict (ni P es.toList kvs).toArray ep,slots:=#[] }
 | o=>o
def okG(P:Params)(kvs:List (Str×Int)):Option Obj->Bool
 | some ⟨_,_,.dict es _,_⟩=>decide ((ni P es.toList kvs).length=kvs.length)
 | _=>false
structure FD(p:PT)(K:Frag)(mg:Str->Option Value)(y:FS×Bool):Prop where
 fn:l9 K (aE y.1.s) y.1.q y.1.s (p.fx K y.1) (dAt K (p.fx K y.1)) (dfA K (p.fx K y.1)) [.bool y.2]
 sc:bP y.1.N (y.1.N.take y.1.k) (ao y.1.s)
 bn:cE K (dAt K (p.fx K y.1)) (y.1.N.take y.1.k) []
 gl:mg (aE y.1.s)=some (.ref (p.fx K y.1))
structure Ty(p:PT)(q:PE)(w:World)(K:Frag)(mg:Str->Option Value):Prop where
 tx:Tx p K mg
 fd:∀y∈q.D,FD p K mg y
 dc:∀y∈q.G,mg y.1=some (.ref (gAt K y.1))/\ie w K (gAt K y.1) y.2
section
variable{p:PT}{q:PE}{w:World}{K:Frag}{mg:Str->Option Value}
theorem Ty.d(t:Ty p q w K mg)(j:Nat)(h:j < q.D.length:=by decide):FD p K mg (q.at j):=t.fd _ (by unfold PE.at;rw[List.getD_eq_getElem?_getD,List.getElem?_eq_getElem h];exact List.getElem_mem h)
theorem Ty.gm(t:Ty p q w K mg)(j:Nat)(h:j < q.G.length:=by decide):mg (q.gk j).1=some (.ref (gAt K (q.gk j).1)):=(t.dc _ (q.gk_mem h)).1
theorem Ty.gd(t:Ty p q w K mg)(j:Nat)(h:j < q.G.length:=by decide):ie w K (gAt K (q.gk j).1) (q.gk j).2:=(t.dc _ (q.gk_mem h)).2
theorem Tx.g(t:Tx p K mg)(j:Nat)(h:j < p.HT.length:=by decide)(c:Nat):PySem.W.exmOne K (.ref (p.xa K c)) (.ref (p.xa K (p.hk j).1))=some (f_ (p.hk j).2 c):=t.ht _ (by unfold PT.hk;rw[List.getD_eq_getElem?_getD,List.getElem?_eq_getElem h];exact List.getElem_mem h) c
theorem Tx.hO(t:Tx p K mg)(j:Nat)(h:j < p.HT.length:=by decide)(c:Nat)(hc:f_ (p.hk j).2 c=true):PySem.W.exmOne K (.ref (p.xa K c)) (.ref (p.xa K (p.hk j).1))=some true:=hc▸t.g j h c
end
def xK(y:FS×Bool):Prop:=∀(dT:Addr) (kV doc pm:Value) (an:Option Addr) (cdv ct:Value) (us:List Value),(us++[]).length=(y.1.N.take y.1.k).length ->
 ∃k:Option (Array Value)->Sem (List (Str×Value)),bindArgs (fnOf (aE y.1.s) y.1.q (bf y.1.s) (aG y.1.s) (ao y.1.s) (.ref dT) kV doc pm an cdv ct) ⟨us,[]⟩=seqItems? (.ref dT) >>= k/\k (some [Value.bool y.2].toArray)=pure ((y.1.N.take y.1.k).zip (us++[]))
theorem bd3(h:∀(dT:Addr) (kV doc pm:Value) (an:Option Addr) (cdv ct u1 u2 u3:Value),∃k:Option (Array Value)->Sem (List (Str×Value)),bindArgs (fnOf (aE y.1.s) y.1.q (bf y.1.s) (aG y.1.s) (ao y.1.s) (.ref dT) kV doc pm an cdv ct) ⟨[u1,u2,u3],[]⟩=seqItems? (.ref dT) >>= k/\k (some [Value.bool y.2].toArray)=pure ((y.1.N.take y.1.k).zip [u1,u2,u3]):=by intros;exact⟨_,rfl,rfl⟩)
  (hk:(y.1.N.take y.1.k).length=3:=by rfl):xK y:=fun dT kV doc pm an cdv ct us hl=>by
 rw[hk]at hl
 match us,hl with
 | [_,_,_],_=>exact h ..
def sE:List (FS×Bool)->Prop
 | []=>True
 | x::l=>xK x/\sE l
theorem sE.get:∀{l:List (FS×Bool)},sE l->∀x∈l,xK x
 | [],_,_,h=>nomatch h
 | y::l,⟨h1,h2⟩,x,h=>by
  rcases List.mem_cons.mp h with rfl | h
  ·exact h1
  ·exact h2.get x h
section
variable(p:PT)(q:PE)(P:Params)(K:Frag)
def PE.ob:List (Option Obj):=q.D.map fun y=>K.lookup (p.fx K y.1)
def PE.ol:List (Option Obj):=q.D.map fun y=>(K.lookup (p.fx K y.1)).map (t6 y.1 (dfA K (p.fx K y.1)))
def PE.ch:Bool:=q.D.all fun y=>p.chF K y.1&&y.1.c.isNone&&yz y.2 (K.lookup (dfA K (p.fx K y.1)))
def PE.gb:List (Option Obj):=q.G.map fun y=>K.lookup (gAt K y.1)
def PE.gl:List (Option Obj):=q.G.map fun y=>(K.lookup (gAt K y.1)).map (zc P y.2)
def PE.cg:Bool:=q.G.all fun y=>decide (nsIn K mainGlobals y.1=some (some (.ref (gAt K y.1))))&&!(gAt K y.1==sysModules)&&okG P y.2 (K.lookup (gAt K y.1))
end
theorem Ty.of(X:K.In h)(N:h.Ns mainGlobals mg)(t:Tx p K mg)(hb:sE q.D)(hs:q.D.all (fun y=>scB y.1)=true)
  (e:q.ob p K=q.ol p K) (h1:q.ch p K=true) (e2:q.gb K=q.gl w.params K) (h2:q.cg w.params K=true):Ty p q w K mg:=by
 simp only[PE.ch,PE.cg,Bool.and_eq_true,List.all_eq_true,decide_eq_true_eq]at h1 h2 hs
 refine⟨t,fun y hy=>?_,fun y hy=>?_⟩
 ·obtain⟨⟨a1,a2⟩,a3⟩:=h1 y hy
  simp only[PT.chF,Bool.and_eq_true]at a1
  obtain⟨⟨⟨q1,q2⟩,q3⟩,q4⟩:=a1
  have e1:K.lookup (p.fx K y.1)=(K.lookup (p.fx K y.1)).map (t6 y.1 (dfA K (p.fx K y.1))):=List.map_inj_left.mp e y hy
  have F:l9 K (aE y.1.s) y.1.q y.1.s (p.fx K y.1) (dAt K (p.fx K y.1)) (dfA K (p.fx K y.1)) [.bool y.2]:=by
   have dl:∃(o:Obj) (n:Nat),K.lookup (dfA K (p.fx K y.1))=some o/\o.data=.seq [Value.bool y.2].toArray n:=by
    unfold yz at a3
    split at a3
    ·rename_i a n _ eo
     exact⟨_,n,eo,by rw[<- of_decide_eq_true a3]⟩
    ·cases a3
   generalize dfA K (p.fx K y.1)=dT at e1 dl
   cases eo:K.lookup (p.fx K y.1)with
   | none=>rw[eo]at q1;cases q1
   | some o =>
    rw[eo]at e1 q1
    obtain⟨oc,od,dt,sl⟩:=o
    cases dt with
    | func d =>
     have e2:(⟨oc,od,.func d,sl⟩:Obj)=t6 y.1 dT ⟨oc,od,.func d,sl⟩:=Option.some.inj e1
     simp only[t6,Obj.mk.injEq,Data.func.injEq,true_and,and_true]at e2
     have ed:dAt K (p.fx K y.1)=d:=by unfold dAt;rw[eo]
     rw[ed]at q2 ⊢
     exact⟨⟨oc,od,d.kwdefaults,d.doc,d.pyModule,d.annotations,d.code,d.closureTuple,sl,e2,eo,q2⟩,q3,dl⟩
    | _=>cases q1
  have sc:bP y.1.N (y.1.N.take y.1.k) (ao y.1.s):=by
   have q:=hs y hy
   simp only[scB,Bool.and_eq_true,decide_eq_true_eq,List.all_eq_true,Bool.not_eq_true']at q
   obtain⟨⟨⟨⟨⟨⟨q1,q2⟩,q3⟩,q4⟩,q5⟩,q6⟩,q7⟩:=q
   exact⟨q1,q2,q3,q4,by rw[List.length_take,Nat.min_eq_left q5],q6,q7⟩
  refine⟨F,sc,F.binds (es:=[]) (hb.get y hy _),?_⟩
  rw[Option.isNone_iff_eq_none.mp a2]at q4
  exact PySem.W.mg_of X N (of_decide_eq_true q4)
 ·obtain⟨⟨a1,a2⟩,a3⟩:=h2 y hy
  refine⟨PySem.W.mg_of X N a1,by simpa using a2,?_⟩
  have e1:K.lookup (gAt K y.1)=(K.lookup (gAt K y.1)).map (zc w.params y.2):=List.map_inj_left.mp e2 y hy
  unfold okG at a3
  split at a3
  ·rename_i a b es ep sl eo
   rw[eo]at e1
   exact⟨ni w.params es.toList y.2,ep,by rw[eo];exact e1,uv (of_decide_eq_true a3)⟩
  ·cases a3
section
variable{P:Program}{w:World}{K:Frag}{mg:Str->Option Value}{base:Heap}{p:PT}{hA:p.attOk}{q:PE}
abbrev OkD(p:PT)(hA:p.attOk)(P:Program)(w:World)(K:Frag)(mg:Str->Option Value)(base:Heap)(k:Nat)(x:FS)(m:List PV->Res PV):Prop :=
 bC P w K mg base (CXP P w) k (p.fx K x) (dAt K (p.fx K x)) (x.N.take x.k) (spM (p.T hA K) (x.N.take x.k).length m)
theorem okD(F:FD p K mg y)(body:∀ (cdv:Value) (A:Around) (outer:List Env) (s:Shared) (H:Hp) (E:XK),Ctx (cB (CXP P w) P w K mg base y.1.N y.1.q (ao y.1.s) (p.fx K y.1) cdv A outer s H E) (p.T hA K) (WD (p.T hA K) E) k->y.1.N.Nodup ->
  SSs (cB (CXP P w) P w K mg base y.1.N y.1.q (ao y.1.s) (p.fx K y.1) cdv A outer s H E) (p.T hA K) (WD (p.T hA K) E) (aG y.1.s) m):OkD p hA P w K mg base (k+1) y.1 (bg y.1.N.length m) :=
 wH (T:=p.T hA K) F.fn F.sc fun a b c d e f g=>body a b c d e f g F.sc.nd
theorem mK(F:FD p X.K X.mg y)
  (G:OkD p hA X.prog X.w X.K X.mg X.base k y.1 m) (cx:Ctx X (p.T hA X.K) W kk) (ha:SA X (p.T hA X.K) W (e::es) ms)
  (hk:k<=kk:=by decide) (hx:aE y.1.s=x:=by rfl) (hg:Gl X x:=by rfl) (hn:dA ms n:=by repeat' first | exact bW | apply bE) (hps:n=(y.1.N.take y.1.k).length:=by rfl)
  (hdb:(x ==("__debug__" : Str))=false:=by decide) (he:starEach (e::es) X.env=(false,eval e X.env)::starEach es X.env:=by rfl) (hpl:(backTo pos (starEach es X.env)).any (·.1)=false:=by rfl) :
  SE X (p.T hA X.K) W (.Call (.Name x np) (e::es) [] pos) (am (au m) ms) :=
 kX G cx hk hg (by subst hx;exact F.gl) F.fn.kp F.bn hn hps ha hdb he hpl
end
section
variable{X:Cx}{T:Tb}{W:Nat->St->Hp->Prop}{Z:Zn}{F F1 B L:Addr->Prop}{H H1:Hp}{σ:St}{env:En}{fp:Nat->List Addr}{D:Ends}
def yv(caps:List Nat)(k:Nat)(ti:TI)(gt:TG)(te:TE):TE:=fun σ H Q=>ti σ H fun J H1=>∀Dd,H1 Dd=none->∃(n:Nat) (P:Nat->St->Hp->List V->Prop),P 0 (jq caps k σ) (upd H1 Dd (.lst [])) []/\
 ∀i σ' H' vs,P i σ' H' vs->vs.length < sizeLine/\((J.stop i H'/\Q (.ref Dd) H')\/(J.go i H'/\i < n/\∀x H7,J.yld i H' x H7->gt x σ' H7 fun σ8 H8=>te σ8 H8 fun v' H10=>H10 Dd=some (.lst vs)/\P (i+1) σ8 (upd H10 Dd (.lst (vs++[v']))) (vs++[v'])))
set_option maxHeartbeats 1000000 in
theorem tN(cs:bQ X scope caps N tn)(hc:X.calm=true)(hi:PI X tg iter ti)
  (hb:∀C s H ex,PG (cxC X scope C N s H ex) tg gt/\L2.PE (cxC X scope C N s H ex) elt te)
  (hs:∀x,foldedSetIterable iter X.env x=pure x:=by intro _;rfl):L2.PE X (.ListComp elt [⟨tg,iter,[],0⟩] scope pos) (yv caps tn.length ti gt te):=by
 intro pins s σ H Q I h
 rw[eval_ListComp]
 refine wpAny_comprehension_free (use:=none) rfl hs (fI fun y hy hf=>I.ok.has y.1 (cs.free y hy hf)) cs.kind cs.names ?_
 refine thn (hi pins s σ H _ I h) fun xv s1 h1=>thn h1 fun itv s2 h2=>?_
 obtain⟨it,fpi,tn_,J,H2,rfl,I2,Tn,st2,f2,hP⟩:=h2
 have hlt:∀b∈fpi,b < s2.heap.objs.size:=fun b hb=>by
  obtain⟨o,ho,_⟩:=Tn.obj 0 _ st2 b hb
  exact Heap.lt_size ho
 refine PySem.wpAny_newObj_type (hV fun h₁ hns₁ hsb₁ hcl₁=>?_)
 dsimp only at hns₁ hsb₁ hcl₁ ⊢
 generalize hH2:s2.heap.push { cls:=.type "list", dict:=none,data:=.seq ([]:List Value).toArray }=P2 at hns₁ hsb₁ hcl₁ ⊢
 have hC:P2.objs.size=s2.heap.objs.size+1:=by rw[<- hH2,Heap.size_push]
 have old:∀b o,s2.heap.get? b=some o->h₁.get? b=some o:=fun b o e=>hsb₁ b o (hH2▸Heap.get?_push_of_some _ e)
 have hDo:h₁.get? s2.heap.objs.size=some { cls:=.type "list", data:=.seq ([]:List Value).toArray }:=hsb₁ _ _ (hH2▸Heap.get?_push_size _ rfl)
 rw[hC]at hns₁ hcl₁
 have inv0:=ly (t:=s2.toks) cs I2 f2 hlt hns₁ hDo old hcl₁
 have hDH:H2 s2.heap.objs.size=none:=I2.hok.fresh (Nat.le_refl _)
 obtain⟨n0,P,P0,step⟩:=hP _ hDH
 obtain⟨hgN,hel⟩:=hb (s2.heap.objs.size+1) s2 H2 fpi
 have never:∀{α:Type}{t:Sem α}{Qa:α->Shared->Prop}{E':Value->Shared->Prop}{s':Shared},wpAny (model X.prog X.w) X.A t Qa (fun _ _=>False) s'->wpAny (model X.prog X.w) X.A t Qa E' s':=fun h=>wpAny_mono h (fun _ _ x=>x) fun _ _ z=>z.elim
 have fpok:∀{H':Hp}{pins':List (Addr×Obj)},(∀p∈pins',p.1∉fpi)->(∀b∈fpi,H' b=none)->∀b∈fpi,ij (cxC X scope (s2.heap.objs.size+1) N s2 H2 fpi) pins' H' b:=fun {H' pins'} hp hn b hb=>by
  refine⟨hn b hb,Nat.ne_of_lt (Nat.lt_succ_of_lt (hlt b hb)),(jh cs I2 f2 hlt (Nat.le_succ _)).exfs b hb,.inl hb,((jh cs I2 f2 hlt (Nat.le_succ _)).exf b hb).2,fun p hp' z=>?_⟩
  rcases List.mem_append.mp hp' with w | w
  ·exact absurd (show p ∈([]:List (Addr×Obj))from w) (by simp)
  ·exact hp p w (z▸hb)
 have key:∀s4:Shared,L2.Inv (cxC X scope (s2.heap.objs.size+1) N s2 H2 fpi) [] (jq caps tn.length σ) (upd H2 s2.heap.objs.size (.lst [])) s4->tn_ 0 s4.heap ->
   codeAny (model X.prog X.w) X.A (.compLoop (.ListComp elt [⟨tg,iter,[],0⟩] scope pos) 0 (.ref it) (.ref s2.heap.objs.size) (compEnvC scope (kE X scope (s2.heap.objs.size+1)) (s2.heap.objs.size+1) X.env))
    (compPost (model X.prog X.w) X.A X.xe none (EP X pins σ Q) (.ref s2.heap.objs.size) (s2.heap.objs.size+1)) s4:=by
  intro s4 inv4 st4
  refine gy (fun n s'=>∃(i:Nat) (σ':St) (H':Hp) (vs:List V),n=n0 - i/\L2.Inv (cxC X scope (s2.heap.objs.size+1) N s2 H2 fpi) [] σ' H' s'/\tn_ i s'.heap/\(∀b∈fpi,H' b=none)/\P i σ' H' vs) ?_ n0 ?_
  case refine_2 =>
   refine⟨0,_,_,[],by simp,inv4,st4,fun b hb=>?_,P0⟩
   rw[ar (Nat.ne_of_lt (hlt b hb))]
   exact(f2 b hb).1
  rintro n s5 ⟨i,σ',H',vs,rfl,inv5,st5,fr5,p5⟩
  obtain⟨hvl,stop |⟨g5,hin,yl⟩⟩:=step i σ' H' vs p5
  ·refine thn (Tn.done (cxC X scope (s2.heap.objs.size+1) N s2 H2 fpi) rfl rfl rfl hc i [] s5 σ' H' _ inv5 (fpok (fun _ z=>absurd z (by simp)) fr5) st5 stop.1) fun r s6 ⟨hr,inv6⟩=>?_
   subst hr
   obtain⟨m,hn,_⟩:=id inv6.loc
   have hlc:X.env.locals < s2.heap.objs.size+1:=Nat.lt_succ_of_lt I2.lt
   have iX:L2.Inv X pins σ H' s6:=I2.call' inv6.os inv6.base inv6.hok inv6.bare fun b hb=>⟨(f2 b hb).2.2.2.1,(f2 b hb).2.1,(f2 b hb).2.2.2.2.1,(f2 b hb).2.2.2.2.2⟩
   refine⟨m,hn,fun h' hs'=>⟨.ref s2.heap.objs.size,H',?_,rfl,stop.2⟩⟩
   refine iX.turned (t':=s6.toks) (fun b o hb e=>(hs'.2 b hb).trans e) inv6.free (Nat.ne_of_gt hlc) (.inr (Nat.le_trans I2.sz (Nat.le_succ _))) (fun x c e z=>?_) (fun p hp z=>?_)
   ·obtain⟨v,hv⟩:=I2.cell x c e
    rw[z]at hv
    exact absurd hv.lt (Nat.not_lt.mpr (Nat.le_succ _))
   ·have:=Heap.lt_size (I2.pin p hp).1
    rw[z]at this
    exact absurd this (Nat.not_lt.mpr (Nat.le_succ _))
  ·refine thn (Tn.item (cxC X scope (s2.heap.objs.size+1) N s2 H2 fpi) rfl rfl rfl hc i [] s5 σ' H' _ inv5 (fpok (fun _ z=>absurd z (by simp)) fr5) st5 g5) fun r s6 ⟨u,hr,h6⟩=>?_
   subst hr
   refine thn h6 fun _ s7 ⟨v,H7,inv7,rv,yy,st7,fr7⟩=>?_
   have pinv:=inv7.pinned (fpok (fun _ z=>absurd z (by simp)) fr7) (Tn.obj _ _ st7)
   refine never (thn (hgN _ s7 σ' H7 v u _ pinv rv (yl v H7 yy)) fun _ s8 ⟨σ8,H8,inv8,t8⟩=>?_)
   have pinback:∀{H9:Hp}{s9:Shared},L2.Inv (cxC X scope (s2.heap.objs.size+1) N s2 H2 fpi) ([]++ gK fpi s7.heap) σ8 H9 s9->L2.Inv (cxC X scope (s2.heap.objs.size+1) N s2 H2 fpi) [] σ8 H9 s9/\tn_ (i+1) s9.heap/\∀b∈fpi,H9 b=none:=fun {H9 s9} i9 =>
    ⟨i9.unpinned,Tn.keep _ _ _ st7 fun b hb o e=>(i9.pin (b,o) (List.mem_append_right _ (List.mem_append_right _ (cI hb e)))).1,fun b hb=>by
     obtain⟨o,e,_⟩:=Tn.obj _ _ st7 b hb
     exact(i9.pin (b,o) (List.mem_append_right _ (List.mem_append_right _ (cI hb e)))).2.1⟩
   refine never (wpAny_tests_nil ?_)
   simp only[if_true]
   refine never (thn (hel _ s8 σ8 H8 _ inv8 t8) fun w s10 ⟨v',H10,inv10,rw10,hD10,p10⟩=>?_)
   refine never (thn (fh _ s10 σ8 H10 (.ref s2.heap.objs.size) [v'] (.ref s2.heap.objs.size) [w] (fun _ H11=>H11=upd H10 s2.heap.objs.size (.lst (vs++[v']))) inv10 rfl (.cons rw10 .nil) ⟨s2.heap.objs.size,vs,v',rfl,rfl,hD10,hvl,rfl⟩) fun _ s11 ⟨_,H11,inv11,_,e11⟩=>?_)
   subst e11
   obtain⟨i12,st12,fr12⟩:=pinback inv11
   exact⟨n0 - (i+1),by omega,i+1,σ8,_,vs++[v'],rfl,i12,st12,fr12,p10⟩
 have st0:tn_ 0 h₁:=Tn.keep _ _ _ st2 fun b _ o e=>old b o e
 have lp:=key _ inv0 st0
 simp only[hC]
 exact codeAny_compStart_list lp (Tn.self _ 0 _ _ _ st0 lp)
theorem ap.fresh(S:ap T Z F H σ env fp)(hp:H p=none):¬F p/\(Z.H0 p=none\/Z.fp0 p):=by
 refine⟨fun z=>?_,?_⟩
 ·obtain⟨o,e⟩:=S.hp.ft p z
  rw[hp]at e;cases e
 ·cases e:Z.H0 p with
  | none=>exact .inl rfl
  | some o =>
   by_cases z:Z.fp0 p
   ·exact .inr z
   ·have:=S.hp.keep p o e z
    rw[hp]at this;cases this
theorem iK(r:RelL T F B L H xs vs f)(hp:H p=none):p∉f:=fun z=>by
 obtain⟨o,e⟩:=r.there p z
 rw[hp]at e;cases e
def gp(i:Nat)(k:Int):MS:=fun env=>match env[i]? with
 | some (some (.lst .own xs))=>.ret (.lst .own (dX xs (some k) none))
 | _=>.stuck
theorem oY(hK:X.K=T.K)(hN:X.N[i]?=some x)(hv:Vis X.env.scope x)(hd:(x ==("__debug__" : Str))=false:=by decide)(hcd:(x ==("__classdict__" : Str))=false:=by decide) :
  SS X T W (.Return (some (.Subscript (.Name x px) (.Slice (some (.Constant (.int k) jj py)) none none p2) pos)) rpos) (gp i k) :=
 PS.wk (iP (pos:=rpos) (k_ (pos:=pos) (p2:=p2) nK (bM (pos:=px) hN hv hd hcd) (nY mP) nZ)) fun D σ H ⟨Z,F,env,fp,S,q⟩=>by
  unfold gp at q
  split at q
  case h_2=>exact q.elim
  rename_i xs eo
  obtain⟨a,ws,fo,h1,hl,hr,hf⟩:=S.lst eo
  refine⟨.ref a,h1,k,rfl,a,ws,rfl,by rw[hK];exact SqL.of hl,fun p hp=>?_⟩
  obtain⟨f4,h4,s4⟩:=RelL.drop (HT.sIx xs.length 0 (some k)) hr
  obtain⟨f5,h5,s5⟩:=RelL.take (HT.sIx xs.length xs.length none - HT.sIx xs.length 0 (some k)) h4
  have sl:=s5.trans s4
  have sub:∀b∈f5,b∈fp i:=fun b hb=>by rw[hf];exact List.mem_cons_of_mem _ (sl.subset hb)
  have ndo:fo.Nodup:=by have:=S.nd i;rw[hf]at this;exact(List.nodup_cons.mp this).2
  have ec:nk ws (some k) none=(ws.drop (HT.sIx xs.length 0 (some k))).take (HT.sIx xs.length xs.length none - HT.sIx xs.length 0 (some k)):=by
   unfold nk
   rw[<- hr.length]
  rw[ec]
  generalize(ws.drop (HT.sIx xs.length 0 (some k))).take (HT.sIx xs.length xs.length none - HT.sIx xs.length 0 (some k))=us at h5
  have ex:Ext H (upd H p (.lst us)):=Ext.upd hp
  refine q F _ (.ref p) (p::f5) (S.grow (Gr.same S.hp.ft ex)).hp ?_ (List.nodup_cons.mpr ⟨iK h5 hp,ndo.sublist sl⟩) (fun b hb=>?_) fun b hb=>?_
  ·unfold Rel
   exact⟨p,us,f5,rfl,aH,h5.ext ex fun _ h=>h,rfl⟩
  ·rcases List.mem_cons.mp hb with rfl | hb
   ·exact(S.fresh hp).1
   ·exact(S.dis i b (sub b hb)).1
  ·rcases List.mem_cons.mp hb with rfl | hb
   ·exact(S.fresh hp).2
   ·exact S.new i b (sub b hb)
def eZ(i:Nat)(m:ME):MS:=fun env=>match env[i]?,m env with
 | some (some (.lst .own xs)),.ok (.lst .own ys)=>if(PV.lst .own ys).noLnt&&aW i env&&decide (xs.length+ys.length<=10000000)then .next (env.set i (some (.lst .own (xs++ys))))else .stuck
 | _,_=>.stuck
theorem mr(hN:X.N.Nodup)(hi:X.N[i]?=some x)(hx:Loc X.env.scope x)(hv:Vis X.env.scope x)(he:SE X T W e m)(hs:swapsWith (.BinOp (.Name x px) .Add e bpos) (some (.Name x pos')) pos.line X.env=pure false:=by rfl)
  (hf:X.fn x=true\/X.env.scope.names.lookup x=some .local:=by first | exact .inl rfl | exact .inr rfl | assumption) (hd:(x ==("__debug__" : Str))=false:=by decide) (hcd:(x ==("__classdict__" : Str))=false:=by decide) :
  SS X T W (.Assign [.Name x pos'] (.BinOp (.Name x px) .Add e bpos) pos) (eZ i m) :=
 PS.wk (qB (pos:=pos) hN hi hx (uQ (pos:=bpos) (n_ (K:=T.K)) (bM (pos:=px) hi hv hd hcd) he) hs hf) fun D σ H ⟨Z,F,env,fp,S,q⟩=>by
  unfold eZ at q
  split at q
  case h_2=>exact q.elim
  rename_i xs ys eo em
  split at q
  case isFalse=>exact q.elim
  rename_i hc
  simp only[Bool.and_eq_true,decide_eq_true_eq]at hc
  obtain⟨⟨hc1,hc2⟩,hc3⟩:=hc
  obtain⟨a,ws,fo,h1,hl,hr,hfp⟩:=S.lst eo
  refine⟨.ref a,h1,Z,F,env,fp,S,?_⟩
  rw[em]
  intro v H1 F1 f g r n1 d1 w1
  have r':=Rel.noL (L':=NoL) (by simpa[PV.noLnt]using hc1) r
  unfold Rel at r'
  obtain⟨b,us,f2,rfl,hb,hr2,hf2⟩:=r'
  obtain rfl:f=b::f2:=hf2
  refine⟨a,b,ws,us,rfl,rfl,.inl (g.ext a _ hl),.inl hb,by rw[<- hr.length,<- hr2.length,sizeLine_eq];omega,fun p hp=>?_⟩
  have S1:=S.grow g
  have ex:Ext H1 (upd H1 p (.lst (ws++us))):=Ext.upd hp
  have S2:=S1.grow (Gr.same S1.hp.ft ex)
  have rr:=RelL.append (hr.ext g.ext g.mono) hr2
  have so:∀c∈fo,c∈fp i:=fun c hc=>by rw[hfp];exact List.mem_cons_of_mem _ hc
  have sf:∀c∈f2,c∈b::f2:=fun c hc=>List.mem_cons_of_mem _ hc
  have ndo:fo.Nodup:=by have:=S.nd i;rw[hfp]at this;exact(List.nodup_cons.mp this).2
  have nd2:(fo ++ f2).Nodup:=List.nodup_append.mpr ⟨ndo,(List.nodup_cons.mp d1).2,fun c hc c' hc' z=>by
   subst z
   exact(S.beside g n1 w1 c (sf c hc')).2.2 i (so c hc)⟩
  refine q F1 _ _ _ (S2.put (i:=i) (pv:=.lst .own (xs++ys)) (v:=.ref p) (f:=p::(fo++f2)) ?_ (List.nodup_cons.mpr ⟨iK rr hp,nd2⟩) (fun c hc=>?_) (fun c hc=>?_) (fun c hc j hj z=>?_) hc2)
  ·unfold Rel
   exact⟨p,ws++us,fo++f2,rfl,aH,rr.ext ex fun _ h=>h,rfl⟩
  ·rcases List.mem_cons.mp hc with rfl | hc
   ·exact(S1.fresh hp).1
   ·rcases List.mem_append.mp hc with hc | hc
    ·exact(S1.dis i c (so c hc)).1
    ·exact n1 c (sf c hc)
  ·rcases List.mem_cons.mp hc with rfl | hc
   ·exact(S1.fresh hp).2
   ·rcases List.mem_append.mp hc with hc | hc
    ·exact S1.new i c (so c hc)
    ·exact(S.fresh (w1 c (sf c hc))).2
  ·rcases List.mem_cons.mp hc with rfl | hc
   ·obtain⟨_,o,e⟩:=S1.dis j c z
    rw[hp]at e;cases e
   ·rcases List.mem_append.mp hc with hc | hc
    ·exact S1.dj i j (Ne.symm hj) c (so c hc) z
    ·exact(S.beside g n1 w1 c (sf c hc)).2.2 j z
end
def l_:List PV->List PV->List PV
 | x::xs,z::zs=>.tup [x,z]::l_ xs zs
 | _,_=>[]
def gM(i:Nat)(caps:List Nat)(me:ME):MS:=fun env=>match env[i]? with
 | some (some (.lst .own xs))=>if xs.length <= 10000000 then (match bO (tgN caps.length) bI me (bK caps 1 env) xs with
  | .ok zs=>.ret (.lst .own (l_ xs zs))
  | _=>.stuck)else .stuck
 | _=>.stuck
section
variable{X:Cx}{T:Tb}{W:Nat->St->Hp->Prop}{Z:Zn}{F F1 B L:Addr->Prop}{H H1:Hp}{σ:St}{env:En}{fp:Nat->List Addr}{D:Ends}
theorem lT{g:TgM}{me:ME}{e:En}:∀{xs zs:List PV},bO g bI me e xs=.ok zs->zs.length=xs.length/\∀(i:Nat) x,xs[i]?=some x->∃e' y,g x.borrow e=some e'/\me e'=.ok y/\zs[i]?=some y/\y.has Fl.isBor=false/\y.has Fl.isLnt=false
 | [],zs,h=>by unfold bO at h;cases h;exact⟨rfl,fun i x e=>by simp at e⟩
 | a::xs,zs,h=>by
  unfold bO at h
  split at h
  ·cases h
  rename_i e1 eg
  rw[show bI e1=.ok true from rfl]at h
  simp only[Res.ok_bind,if_true]at h
  cases em:me e1 with
  | exc c | stuck=>rw[em]at h;cases h
  | ok y =>
   rw[em]at h
   simp only[Res.ok_bind]at h
   split at h
   ·cases h
   rename_i hb
   simp only[Bool.or_eq_true,not_or,Bool.not_eq_true]at hb
   cases er:bO g bI me e xs with
   | exc c | stuck=>rw[er]at h;cases h
   | ok zs' =>
    rw[er]at h
    cases h
    obtain⟨h1,h2⟩:=lT er
    refine⟨by simp[h1],fun i x ex=>?_⟩
    cases i with
    | zero=>cases ex;exact⟨e1,y,eg,em,rfl,hb.1,hb.2⟩
    | succ i=>exact h2 i x ex
theorem nT:∀{xs:List PV}{ws:List V}{f:List Addr}{i:Nat}{x:PV},RelL T F B L H xs ws f->xs[i]?=some x->∃w fx,ws[i]?=some w/\Rel T F B L H x w fx/\∀b∈fx,b∈f
 | [],_,_,i,x,_,e=>by simp at e
 | a::xs,ws,f,i,x,h,e=>by
  unfold RelL at h
  obtain⟨v,ws',f1,f2,rfl,h1,h2,rfl⟩:=h
  cases i with
  | zero=>cases e;exact⟨v,f1,rfl,h1,fun b hb=>List.mem_append_left _ hb⟩
  | succ i =>
   obtain⟨w,fx,e1,r,s⟩:=nT h2 e
   exact⟨w,fx,e1,r,fun b hb=>List.mem_append_right _ (s b hb)⟩
def Tps(K:PySem.W.Frag)(H:Hp)(ws us vs:List V):Prop:=vs.length=us.length/\∀(j:Nat) (w u:V),ws[j]?=some w->us[j]?=some u->∃p:Addr,vs[j]?=some (V.ref p)/\SqT K H p [w,u]
theorem nA:∀{xs zs:List PV}{ws us vs:List V}{f g:List Addr},RelL T F B L H xs ws f->RelL T F B L H zs us g->xs.length=zs.length->Tps T.K H ws us vs->∃k,RelL T F B L H (l_ xs zs) vs k/\k.Perm (f++g)
 | [],[],ws,us,vs,f,g,h1,h2,_,⟨t1,_⟩=>by
  unfold RelL at h1 h2
  obtain⟨rfl,rfl⟩:=h1
  obtain⟨rfl,rfl⟩:=h2
  cases vs with
  | nil=>exact⟨[],by unfold l_ RelL;exact⟨rfl,rfl⟩,.refl _⟩
  | cons v vs=>simp at t1
 | [],_::_,_,_,_,_,_,_,_,hl,_ | _::_,[],_,_,_,_,_,_,_,hl,_=>by simp at hl
 | x::xs,z::zs,ws,us,vs,f,g,h1,h2,hl,⟨t1,t2⟩=>by
  unfold RelL at h1 h2
  obtain⟨w,ws',f1,f2,rfl,a1,a2,rfl⟩:=h1
  obtain⟨u,us',g1,g2,rfl,b1,b2,rfl⟩:=h2
  obtain⟨p,e,sq⟩:=t2 0 w u rfl rfl
  cases vs with
  | nil=>simp at e
  | cons v vs =>
   obtain rfl:v=.ref p:=by simpa using e
   obtain⟨k,r,pm⟩:=nA (vs:=vs) a2 b2 (by simpa using hl) ⟨by simpa using t1,fun j w u e1 e2=>t2 (j+1) w u e1 e2⟩
   refine⟨(f1++g1)++ k,?_,?_⟩
   ·unfold l_ RelL
    refine⟨.ref p,vs,f1++g1,k,rfl,?_,r,rfl⟩
    unfold Rel
    refine⟨p,[w,u],rfl,sq,?_⟩
    unfold RelL
    refine⟨w,[u],f1,g1,rfl,a1,?_,rfl⟩
    unfold RelL
    exact⟨u,[],g1,[],rfl,b1,by unfold RelL;exact⟨rfl,rfl⟩,by simp⟩
   ·refine(List.Perm.append_left _ pm).trans ?_
    rw[List.append_assoc,List.append_assoc]
    refine List.Perm.append_left f1 ?_
    rw[<- List.append_assoc,<- List.append_assoc]
    exact List.Perm.append_right g2 List.perm_append_comm
set_option maxHeartbeats 1000000 in
theorem qc(cs:bQ X scope caps N [tn])(hc:X.calm=true)(hK:X.K=T.K)(hN:X.N[i]?=some x)(hv:Vis X.env.scope x)
  (hb:∀C s H ex,PG (cxC X scope C N s H ex) (.Name tn pt) (oG caps.length)/\L2.PE (cxC X scope C N s H ex) (.Name tn pn) (oW caps.length)/\SE (cxC X scope C N s H ex) T WF e me/\starEach [.Name tn pn,e] (cxC X scope C N s H ex).env=(false,eval (.Name tn pn) (cxC X scope C N s H ex).env)::starEach [e] (cxC X scope C N s H ex).env/\starEach [e] (cxC X scope C N s H ex).env=[(false,eval e (cxC X scope C N s H ex).env)])
  (hs:∀y,foldedSetIterable (.Name x px) X.env y=pure y:=by intro _;rfl) (hd:(x ==("__debug__" : Str))=false:=by decide) (hcd:(x ==("__classdict__" : Str))=false:=by decide) :
  SS X T W (.Return (some (.ListComp (.Tuple [.Name tn pn,e] x1 tpos) [⟨.Name tn pt,.Name x px,[],0⟩] scope pos)) rpos) (gM i caps me) :=
 PS.wk (iP (pos:=rpos) (tN (pos:=pos) cs hc (kg (bM (pos:=px) hN hv hd hcd)) (fun C s H ex=>⟨(hb C s H ex).1,mO (pos:=tpos) (cq (hb C s H ex).2.1 (cq (hb C s H ex).2.2.1 fO (hb C s H ex).2.2.2.2) (hb C s H ex).2.2.2.1)⟩) hs)) fun D σ H ⟨Z,F,env,fp,S,q⟩=>by
  unfold gM at q
  split at q
  case h_2=>exact q.elim
  rename_i xs eo
  split at q
  case isFalse=>exact q.elim
  rename_i hlen
  split at q
  case h_2=>exact q.elim
  rename_i zs ez
  obtain⟨zl,zat⟩:=lT ez
  obtain⟨a,ws,fo,h1,hl,hr,hf⟩:=S.lst eo
  have wl:=hr.length
  have so:∀c∈fo,c∈fp i:=fun c hc=>by rw[hf];exact List.mem_cons_of_mem _ hc
  have ndo:fo.Nodup:=by have:=S.nd i;rw[hf]at this;exact(List.nodup_cons.mp this).2
  refine ⟨.ref a,h1,a,rfl,.inl ⟨ws,by rw [hK];exact SqL.of hl,fun Dd hDd=>⟨xs.length,fun k σ' H' vs=>∃ Fi us f,ap T (zC F H) Fi H' σ' (bK caps 1 env) (fun _=>[])/\H' Dd=some (.lst vs)/\¬ Fi Dd/\us.length=k/\k <= xs.length/\Tps T.K H' ws us vs/\RelL T Fi Z.B NoL H' (zs.take k) us f/\f.Nodup/\(∀ c ∈ f,¬ Fi c/\H c=none/\c ≠ Dd),
   ⟨F,[],[],j4 S hDd (S.fresh hDd).1,aH,(S.fresh hDd).1,rfl,Nat.zero_le _,⟨rfl,fun j w u _ e=>by simp at e⟩,by unfold RelL;exact⟨rfl,rfl⟩,List.nodup_nil,fun _ z=>(nomatch z)⟩,?_⟩⟩⟩
  rintro k σ' H' vs ⟨Fi,us,f,SI,hD,nFD,ul,kl,tp,ru,ndf,nf⟩
  have ext:Ext H H':=fun c o e=>SI.hp.keep c o e fun z=>z
  have gr:Gr F H Fi H':=⟨ext,SI.hp.f0,fun c h=>by
   rcases SI.hp.fn c h with z | z | z
   ·exact .inl z
   ·exact .inr z
   ·exact z.elim,SI.hp.ft⟩
  refine⟨by rw[tp.1,ul];have:=sizeLine_eq;omega,?_⟩
  by_cases hk:k < xs.length
  ·obtain⟨e',y,eg,eme,ezk,yb,yln⟩:=zat k xs[k] (by simp[hk])
   obtain⟨w,fx,ew,rx,sx⟩:=nT hr (show xs[k]?=some xs[k] by simp[hk])
   refine .inr ⟨⟨ws,w,by rw[hK];exact SqL.of (ext a _ hl),ew⟩,hk,?_⟩
   rintro x H7 ⟨rfl,hx⟩
   have hx:=hx ws (by rw[hK];exact SqL.of (ext a _ hl))
   rw[ew]at hx
   cases hx
   unfold tgN at eg
   split at eg
   case isFalse=>cases eg
   rename_i okc
   cases eg
   have rxb:Rel T Fi (zC F H).B NoL H7 xs[k].borrow w []:=by
    refine Rel.borrow (B:=fun c=>∃o,H c=some o) (L:=NoL) (fun _ h=>h) (fun _ h=>h.elim) (fun c hc=>(S.dis i c (so c (sx c hc))).2) ?_
    exact Rel.tr gr.mono (fun c h=>let⟨⟨o,h1⟩,h2⟩:=S.hp.bo c h;⟨o,S.hp.keep c o h1 h2⟩) (fun _ h=>h) (fun c o q _=>ext c o q) (fun c _ o q=>ext c o q) rx
   have S8:=SI.put (i:=caps.length) (pv:=xs[k].borrow) (v:=w) (f:=[]) rxb List.nodup_nil (fun _ z=>(nomatch z)) (fun _ z=>(nomatch z)) (fun _ z=>(nomatch z)) okc
   have e0:aV (fun _=>[]) caps.length ([]:List Addr)=fun _=>[]:=by funext j;unfold aV;split<;>rfl
   rw[e0]at S8
   have sl:(σ'.set caps.length (some w))[caps.length]?=some (some w):=by
    have:σ'.length=caps.length+1:=by rw[SI.len];simp[bK]
    rw[List.getElem?_set_self (by omega)]
   refine⟨w,sl,zC F H,Fi,_,fun _=>[],S8,?_⟩
   rw[eme]
   intro v2 H9 F9 f9 g9 r9 n9 d9 w9
   refine⟨by rw[sizeLine_eq];simp,fun p hp=>?_⟩
   have ex9:Ext H9 (upd H9 p (.tup [w,v2])):=Ext.upd hp
   have pD:p≠Dd:=fun z=>by rw[z,g9.ext _ _ hD]at hp;cases hp
   have hD10:upd H9 p (.tup [w,v2]) Dd=some (.lst vs):=ex9 _ _ (g9.ext _ _ hD)
   have nFD9:¬F9 Dd:=fun z=>by
    rcases g9.only _ z with z | z
    ·exact nFD z
    ·rw[hD]at z;cases z
   have S9:=(S8.grow g9).grow (Gr.same (S8.grow g9).hp.ft ex9)
   have S10:=S9.updD (Dd:=Dd) (o':=.lst (vs++[.ref p])) nFD9 hDd hD10 (fun z=>z)
   refine⟨hD10,F9,us++[v2],f++f9,S10.wk rfl (by simp) fun j pv ej=>?_,aH,nFD9,by simp[ul],hk,⟨by simp[tp.1],fun j w' u' e1 e2=>?_⟩,?_,?_,fun c hc=>?_⟩
   ·have hj:j≠caps.length:=by
     rintro rfl
     unfold bK at ej
     rw[List.getElem?_append_right (by simp),List.getElem?_replicate]at ej
     split at ej<;>cases ej
    rw[List.getElem?_set_ne (Ne.symm hj)]
    exact ej
   ·by_cases q1:j < us.length
    ·rw[List.getElem?_append_left q1]at e2
     obtain⟨p',e3,sq⟩:=tp.2 j w' u' e1 e2
     refine⟨p',by rw[List.getElem?_append_left (by rw[tp.1];exact q1)];exact e3,SqT.tr (fun o h1 h2=>?_) sq⟩
     have:p'≠Dd:=fun z=>by
      rw[z,hD]at h1
      cases h1
      exact h2
     rw[ar this]
     exact ex9 _ _ (g9.ext _ _ h1)
    ·rw[List.getElem?_append_right (by omega)]at e2
     obtain⟨j0,e4⟩:j - us.length=0/\v2=u':=by
      cases hj:j - us.length with
      | zero=>rw[hj]at e2;cases e2;exact⟨rfl,rfl⟩
      | succ m=>rw[hj]at e2;simp at e2
     obtain rfl:j=k:=by omega
     rw[ew]at e1
     cases e1
     cases e4
     refine⟨p,by rw[List.getElem?_append_right (by rw[tp.1];omega),tp.1,j0];rfl,SqT.of ?_⟩
     rw[ar pD]
     exact aH
   ·have e5:zs.take (k+1)=zs.take k++[y]:=by rw[List.take_succ,ezk];rfl
    rw[e5]
    have ry:Rel T F9 Z.B NoL H9 y v2 f9:=Rel.noL yln (Rel.noB (B':=Z.B) yb r9)
    have all:RelL T F9 Z.B NoL H9 (zs.take k++[y]) (us++[v2]) (f++f9):=RelL.append (ru.ext g9.ext g9.mono) (by unfold RelL;exact⟨v2,[],f9,[],rfl,ry,by unfold RelL;exact⟨rfl,rfl⟩,by simp⟩)
    refine RelL.tr (fun _ h=>h) (fun _ h=>h) (fun _ h=>h) (fun c o e h=>?_) (fun c hc o e=>?_) (all.ext ex9 fun _ h=>h)
    ·refine(ar fun z=>?_).trans e
     subst z
     rcases h with h | h | h | h
     ·exact nFD9 h
     ·obtain⟨⟨o',h1⟩,h2⟩:=S.hp.bo _ h
      rw[S.hp.keep _ o' h1 h2]at hDd;cases hDd
     ·exact h
     ·rw[hD10]at e;cases e;exact h
    ·refine(ar fun z=>?_).trans e
     subst z
     rcases List.mem_append.mp hc with hc | hc
     ·exact(nf _ hc).2.2 rfl
     ·have:=w9 _ hc
      rw[hD]at this;cases this
   ·refine List.nodup_append.mpr ⟨ndf,d9,fun c hc c' hc' z=>?_⟩
    subst z
    obtain⟨o,e⟩:=ru.there c hc
    rw[w9 c hc']at e;cases e
   ·rcases List.mem_append.mp hc with hc | hc
    ·refine⟨fun z=>?_,(nf c hc).2⟩
     rcases g9.only c z with z | z
     ·exact(nf c hc).1 z
     ·obtain⟨o,e⟩:=ru.there c hc
      rw[e]at z;cases z
    ·refine⟨n9 c hc,ext.free (w9 c hc),fun z=>?_⟩
     subst z
     have:=w9 _ hc
     rw[hD]at this;cases this
  ·obtain rfl:k=xs.length:=by omega
   refine .inl ⟨⟨ws,by rw[hK];exact SqL.of (ext a _ hl),by omega⟩,?_⟩
   rw[List.take_of_length_le (by omega)]at ru
   obtain⟨g,rz,pm⟩:=nA (hr.ext gr.ext gr.mono) ru zl.symm tp
   have S1:=S.grow gr
   have mem:∀c∈g,c∈fo\/c∈f:=fun c hc=>List.mem_append.mp (pm.mem_iff.mp hc)
   refine q Fi H' (.ref Dd) (Dd::g) S1.hp (by unfold Rel;exact⟨Dd,vs,g,rfl,hD,rz,rfl⟩) (List.nodup_cons.mpr ⟨fun z=>?_,pm.nodup_iff.mpr (List.nodup_append.mpr ⟨ndo,ndf,fun c hc c' hc' z=>?_⟩)⟩) (fun c hc=>?_) fun c hc=>?_
   ·rcases mem _ z with z | z
    ·exact iK hr hDd z
    ·exact(nf _ z).2.2 rfl
   ·subst z
    obtain⟨o,e⟩:=hr.there c hc
    rw[(nf c hc').2.1]at e;cases e
   ·rcases List.mem_cons.mp hc with rfl | hc
    ·exact nFD
    ·rcases mem c hc with hc | hc
     ·exact(S1.dis i c (so c hc)).1
     ·exact(nf c hc).1
   ·rcases List.mem_cons.mp hc with rfl | hc
    ·exact(S.fresh hDd).2
    ·rcases mem c hc with hc | hc
     ·exact S.new i c (so c hc)
     ·exact(S.fresh (nf c hc).2.1).2
end
def ca1(z:Int):PV->Option PV
 | .tup [.lst .own _,.lst .own ys]=>(match bu ys with
  | some ns=>if ns.length<=1000000 then some (.tup [.lst .own [],.lst .own ((ns++[z]).map .int)])else none
  | none=>none)
 | _=>none
def caL(z:Int):List PV->Option (List PV)
 | []=>some []
 | x::xs=>match ca1 z x with
  | some y=>(match caL z xs with
   | some ys=>some (y::ys)
   | none=>none)
  | none=>none
def i5(i t u:Nat)(z:Int):MS:=fun env=>match env[i]? with
 | some (some (.lst .own xs))=>if t < env.length/\u < env.length then (match caL z xs with
  | some ys=>.next ((((env.set i none).set t none).set u none).set i (some (.lst .own ys)))
  | none=>.stuck)else .stuck
 | _=>.stuck
section
variable{X:Cx}{T:Tb}{W:Nat->St->Hp->Prop}{Z:Zn}{F F1 B L:Addr->Prop}{H H1:Hp}{σ:St}{env:En}{fp:Nat->List Addr}{D:Ends}
theorem uD{z:Int}{x y:PV}(h:ca1 z x=some y):∃xs ys ns,x=.tup [.lst .own xs,.lst .own ys]/\bu ys=some ns/\ns.length<=1000000/\y=.tup [.lst .own [],.lst .own ((ns++[z]).map .int)]:=by
 unfold ca1 at h
 split at h
 case h_2=>cases h
 rename_i xs ys
 split at h
 case h_2=>cases h
 rename_i ns e
 split at h
 case isFalse=>cases h
 rename_i hl
 cases h
 exact⟨xs,ys,ns,rfl,e,hl,rfl⟩
theorem ap.setN(S:ap T Z F H σ env fp)(h:env[t]?=some none)(t0:t≠0):ap T Z F H (σ.set t (some v)) env fp :=
 ⟨S.hp,by rw [List.length_set,S.len],fun j pv e=>by
  have:j≠t:=by rintro rfl;rw[h]at e;cases e
  obtain⟨v',h1,h2⟩:=S.rel j pv e
  exact⟨v',by rw[List.getElem?_set_ne (Ne.symm this)];exact h1,h2⟩,S.nd,S.dj,S.dis,S.new,S.ch,fun w hw=>let⟨a,b⟩:=S.pn w hw;⟨by rw[List.getElem?_set_ne t0];exact a,b⟩⟩
theorem ap.updO(S:ap T Z F H σ env fp)(hj:∀j,b∉fp j)(hF:¬F b)(hn:Z.H0 b=none\/Z.fp0 b)(hb:H b=some o)(hfx:¬e9 o):ap T Z F (upd H b o') σ env fp:=by
 have nB:¬Z.B b:=fun h=>by
  obtain⟨⟨u,e⟩,n⟩:=S.hp.bo b h
  rcases hn with z | z
  ·rw[e]at z;cases z
  ·exact n z
 have ne:∀a u,H a=some u->(F a\/Z.B a\/NoL a\/e9 u)->a≠b:=fun a u e h z=>by
  subst z
  rcases h with h | h | h | h
  ·exact hF h
  ·exact nB h
  ·exact h
  ·rw[hb]at e;cases e;exact hfx h
 refine⟨⟨S.hp.bo,fun a u e n=>?_,S.hp.f0,S.hp.fn,fun a h=>?_⟩,S.len,fun i pv e=>?_,S.nd,S.dj,fun i a ha=>?_,S.new,fun i a ha=>?_,S.pn⟩
 ·have:a≠b:=fun z=>by
   subst z
   rcases hn with z | z
   ·rw[e]at z;cases z
   ·exact n z
  rw[ar this]
  exact S.hp.keep a u e n
 ·obtain⟨u,e⟩:=S.hp.ft a h
  exact⟨u,by rw[ar (show a≠b from fun z=>hF (by rw[<- z];exact h))];exact e⟩
 ·obtain⟨v,h1,h2⟩:=S.rel i pv e
  refine⟨v,h1,Rel.tr (fun _ h=>h) (fun _ h=>h) (fun _ h=>h) (fun a u q h=>?_) (fun a ha u q=>?_) h2⟩
  ·rw[ar (ne a u q h)]
   exact q
  ·rw[ar (show a≠b from fun z=>hj i (by rw[<- z];exact ha))]
   exact q
 ·obtain⟨n,u,e⟩:=S.dis i a ha
  exact⟨n,u,by rw[ar (show a≠b from fun z=>hj i (by rw[<- z];exact ha))];exact e⟩
 ·obtain⟨u,e,c⟩:=S.ch i a ha
  exact⟨u,by rw[ar (show a≠b from fun z=>hj i (by rw[<- z];exact ha))];exact e,c⟩
set_option maxHeartbeats 1000000 in
theorem qe{i t u k:Nat}{x tn un:Str}(hp:PassesOwn (model X.prog X.w) X.A X.env X.xe)(hc:X.calm=true)(hK:X.K=T.K)(hN:X.N.Nodup)
  (hi:X.N[i]?=some x) (hv:Vis X.env.scope x) (ht:X.N[t]?=some tn) (hx:Loc X.env.scope tn) (hvt:Vis X.env.scope tn) (hu:X.N[u]?=some un) (hxu:Loc X.env.scope un) (hvu:Vis X.env.scope un)
  (hit:i≠t) (hiu:i≠u) (htu:t≠u) (i0:i≠0) (t0:t≠0) (u0:u≠0)
  (hs1:swapsWith (.Call (.Attribute (.Name tn q1) "clear" a1) [] [] c1) none e1.line X.env=pure false:=by rfl) (hl1:(a1.endLine==c1.line)=true:=by rfl)
  (hs2:swapsWith (.Call (.Attribute (.Name un q2) "append" a2) [.Constant (.int z) jj pz] [] c2) none e2.line X.env=pure false:=by rfl) (hst:starEach [.Constant (.int z) jj pz] X.env=[(false,eval (.Constant (.int z) jj pz) X.env)]:=by rfl)
  (hfew:((backTo c2 (starEach [.Constant (.int z) jj pz] X.env)).all (fun x=>!x.1)&&(backToKw c2 (keywordEach [] X.env)).all (fun x=>x.1.isSome)&&decide ([Expr.Constant (.int z) jj pz].length+([]:List Keyword).length+(if([]:List Keyword).isEmpty then 0 else 1) < 30))=true:=by rfl)
  (hl2:(a2.endLine==c2.line)=true:=by rfl)
  (hf:X.fn tn=true\/X.env.scope.names.lookup tn=some .local:=by first | exact .inl rfl | exact .inr rfl | assumption) (hf2:X.fn un=true\/X.env.scope.names.lookup un=some .local:=by first | exact .inl rfl | exact .inr rfl | assumption)
  (hd:(x ==("__debug__" : Str))=false:=by decide) (hcd:(x ==("__classdict__" : Str))=false:=by decide) (hdt:(tn ==("__debug__" : Str))=false:=by decide) (hcdt:(tn ==("__classdict__" : Str))=false:=by decide) (hdu:(un ==("__debug__" : Str))=false:=by decide) (hcdu:(un ==("__classdict__" : Str))=false:=by decide)
  (hs:∀y,foldedSetIterable (.Name x px) X.env y=pure y:=by intro _;rfl) :
  SS X T W (.For (.Tuple [.Name tn pt,.Name un pu] k tpos) (.Name x px) [.Expr (.Call (.Attribute (.Name tn q1) "clear" a1) [] [] c1) e1,.Expr (.Call (.Attribute (.Name un q2) "append" a2) [.Constant (.int z) jj pz] [] c2) e2] [] pos) (i5 i t u z) :=
 PS.wk (qC (pos:=pos) hp hc (kg (bM (pos:=px) hi hv hd hcd)) (qK hc (iR (gc (pos:=pt) hN ht hx hf) (iR (gc (pos:=pu) hN hu hxu hf2) n4)))
  (k7 (ff (pos:=e1) (qM (cpos:=c1) (apos:=a1) PySem.F.plainAttrs_list PySem.F.slot_list_clear PySem.F.type_list_clear lj (bM (pos:=q1) ht hvt hdt hcdt) rfl hl1) hs1)
   (nX (ff (pos:=e2) (uS (cpos:=c2) (apos:=a2) PySem.F.plainAttrs_list PySem.F.slot_list_append PySem.F.type_list_append fh (bM (pos:=q2) hu hvu hdu hcdu) (cq mP fO hst) rfl hfew hl2 hst) hs2))) hs) fun D σ H ⟨Z,F,env,fp,S,q⟩=>by
  unfold i5 at q
  split at q
  case h_2=>exact q.elim
  rename_i xs eo
  split at q
  case isFalse=>exact q.elim
  rename_i htl
  obtain⟨tl,ul⟩:=htl
  split at q
  case h_2=>exact q.elim
  rename_i ys ec
  obtain⟨a,ws,fo0,h1,hl,hr,hfp⟩:=S.lst eo
  have il:i < env.length:=(List.getElem?_eq_some_iff.mp eo).1
  have S1:=((S.drop i0).drop t0).drop u0
  generalize hE:((env.set i none).set t none).set u none=E at S1 q
  have out:∀c∈fp i,∀j,c∉aV (aV (aV fp i []) t []) u [] j:=fun c hc j hj=>by
   unfold aV at hj
   split at hj
   ·cases hj
   ·split at hj
    ·cases hj
    ·split at hj
     ·cases hj
     ·rename_i h _ _
      exact S.dj i j (Ne.symm (by assumption)) c hc hj
  generalize aV (aV (aV fp i []) t []) u []=FP at S1 out
  refine⟨_,h1,a,rfl,.inl ⟨ws,by rw[hK];exact SqL.of hl,?_⟩⟩
  refine ⟨fun kk n σ2 H2=>n=ws.length - kk/\kk <= ws.length/\∃ done bh rys fo,ap T Z F H2 σ2 E FP/\σ2[i]?=some (some (.ref a))/\H2 a=some (.lst ws)/\RelL T F Z.B NoL H2 (done ++ bh) ws fo/\Orp Z F FP ([a] ++ fo)/\done.length=kk/\caL z bh=some rys/\done ++ rys=ys,
   ⟨ws.length,by simp,Nat.zero_le _,[],xs,ys,fo0,S1,h1,hl,hr,⟨by have:=S.nd i;rw[hfp]at this;exact this,fun c hc=>(S.dis i c (by rw[hfp];exact hc)).1,fun c hc=>S.new i c (by rw[hfp];exact hc),fun c hc=>out c (by rw[hfp];exact hc)⟩,rfl,ec,rfl⟩,?_⟩
  rintro kk n σ2 H2 ⟨rfl,hk,done,bh,rys,fo,S2,hσ,ha,rl,op,hd',ec',ey⟩
  cases bh with
  | nil =>
   unfold caL at ec'
   cases ec'
   rw[List.append_nil]at rl ey
   subst ey
   have e1:=rl.length
   refine .inl ⟨⟨ws,by rw[hK];exact SqL.of ha,by omega⟩,?_⟩
   have S6:=S2.put (i:=i) (pv:=.lst .own done) (v:=.ref a) (f:=a::fo) (by unfold Rel;exact⟨a,ws,fo,rfl,ha,rl,rfl⟩) op.nd op.nf op.new (fun c hc j _=>op.dj c hc j) (by simp[aW,i0])
   rw[qi hσ]at S6
   exact q _ _ _ _ S6
  | cons x r =>
   unfold caL at ec'
   split at ec'
   case h_2=>cases ec'
   rename_i y ey1
   split at ec'
   case h_2=>cases ec'
   rename_i rys' er
   cases ec'
   obtain⟨A,Bs,ns,rfl,eB,lB,rfl⟩:=uD ey1
   obtain⟨v1,v2,f1,f2,rfl,rfl,r1,r2⟩:=RelL.cut rl
   unfold RelL at r2
   obtain⟨v,w2,fx,fr,rfl,rx,rr,rfl⟩:=r2
   unfold Rel at rx
   obtain⟨p,vs2,rfl,sq,rp⟩:=rx
   unfold RelL at rp
   obtain⟨va,vs3,fA,fx',rfl,rA,rp,rfl⟩:=rp
   unfold RelL at rp
   obtain⟨vb,vs4,fB,fx'',rfl,rB,rp,rfl⟩:=rp
   unfold RelL at rp
   obtain⟨rfl,rfl⟩:=rp
   unfold Rel at rA rB
   obtain⟨a1,vA,fA',rfl,hA,rA',hfA⟩:=rA
   obtain⟨b1,vB,fB',rfl,hB,rB',hfB⟩:=rB
   obtain rfl:fA=a1::fA':=hfA
   obtain rfl:fB=b1::fB':=hfB
   have hA:H2 a1=some (.lst vA):=hA
   have hB:H2 b1=some (.lst vB):=hB
   obtain rfl:=dr eB rB'
   have l1:v1.length=kk:=by rw[<- r1.length,hd']
   have ndo:=op.nd
   have mA:a1∈[a]++(f1 ++(a1::fA' ++(b1::fB'++[])++ fr)):=by simp
   have mB:b1∈[a]++(f1 ++(a1::fA' ++(b1::fB'++[])++ fr)):=by simp
   have nd1:=(List.nodup_append.mp ndo)
   have nd2:=(List.nodup_append.mp nd1.2.1)
   have nd3:=(List.nodup_append.mp nd2.2.1)
   have nd4:=(List.nodup_append.mp nd3.1)
   have ab:a1≠b1:=fun z=>nd4.2.2 a1 (by simp) b1 (by simp) z
   have aa:a≠a1:=fun z=>nd1.2.2 a (by simp) a1 (by simp) z
   have a_b:a≠b1:=fun z=>nd1.2.2 a (by simp) b1 (by simp) z
   have hkv:(v1++.ref p::w2)[kk]?=some (.ref p):=by rw[<- l1];simp
   have kl:kk <(v1++.ref p::w2).length:=by simp;omega
   refine .inr ⟨⟨_,_,by rw[hK];exact SqL.of ha,hkv⟩,fun σ' H'=>∃done bh rys fo,ap T Z F H' σ' E FP/\σ'[i]?=some (some (.ref a))/\H' a=some (.lst (v1++.ref p::w2))/\RelL T F Z.B NoL H' (done++bh) (v1++.ref p::w2) fo/\Orp Z F FP ([a]++ fo)/\done.length=kk+1/\caL z bh=some rys/\done++rys=ys,fun σ' H' h=>⟨_,by omega,rfl,kl,h⟩,fun x' H' hy=>?_⟩
   obtain⟨rfl,hx'⟩:=hy
   have hx':=hx' _ (by rw[hK];exact SqL.of ha)
   rw[hkv]at hx'
   cases hx'
   have Et:E[t]?=some none:=by rw[<- hE,List.getElem?_set_ne (Ne.symm htu),List.getElem?_set_self (by simpa using tl)]
   have Eu:E[u]?=some none:=by rw[<- hE,List.getElem?_set_self (by simpa using ul)]
   have len2:σ2.length=env.length:=by rw[S2.len,<- hE];simp
   have S3:=(S2.setN (v:=.ref a1) Et t0).setN (v:=.ref b1) Eu u0
   have st:((σ2.set t (some (.ref a1))).set u (some (.ref b1)))[t]?=some (some (.ref a1)):=by rw[List.getElem?_set_ne (Ne.symm htu),List.getElem?_set_self (by omega)]
   have su:((σ2.set t (some (.ref a1))).set u (some (.ref b1)))[u]?=some (some (.ref b1)):=by rw[List.getElem?_set_self (by simp;omega)]
   have hB':upd H' a1 (.lst []) b1=some (.lst (ns.map V.int)):=by rw[ar (Ne.symm ab)];exact hB
   refine⟨p,[.ref a1,.ref b1],rfl,by rw[hK];exact sq,rfl,_,_,rfl,_,_,rfl,rfl,?_⟩
   refine⟨_,st,.inl ⟨rfl,vA,by rw[hK];exact SqL.of hA⟩,a1,vA,rfl,rfl,hA,?_⟩
   refine⟨_,su,.inl ⟨rfl,ns.map V.int,by rw[hK];exact SqL.of hB'⟩,b1,ns.map V.int,.int z,rfl,rfl,hB',by rw[List.length_map,sizeLine_eq];omega,?_⟩
   have S4:=S3.updO (o':=.lst []) (fun j=>op.dj a1 mA j) (op.nf a1 mA) (op.new a1 mA) hA (fun z=>z)
   have S5:=S4.updO (o':=.lst (ns.map V.int++[.int z])) (fun j=>op.dj b1 mB j) (op.nf b1 mB) (op.new b1 mB) hB' (fun z=>z)
   have keep:∀c o,H' c=some o->c≠a1->c≠b1->upd (upd H' a1 (.lst [])) b1 (.lst (ns.map V.int++[.int z])) c=some o:=fun c o e n1 n2=>by rw[ar n2,ar n1];exact e
   have own:∀c,c=a1\/c=b1->∀o,H' c=some o->(F c\/Z.B c\/NoL c\/e9 o)->False:=fun c hc o e h=>by
    have m:c∈[a]++(f1 ++(a1::fA' ++(b1::fB'++[])++ fr)):=by rcases hc with rfl | rfl;exact mA;exact mB
    rcases h with h | h | h | h
    ·exact op.nf c m h
    ·obtain⟨⟨o',h1⟩,h2⟩:=S2.hp.bo c h
     rcases op.new c m with z | z
     ·rw[h1]at z;cases z
     ·exact h2 z
    ·exact h
    ·rcases hc with rfl | rfl
     ·rw[hA]at e;cases e;exact h
     ·rw[hB]at e;cases e;exact h
   have trL:∀{xs:List PV}{vs:List V}{f:List Addr},RelL T F Z.B NoL H' xs vs f->a1∉f->b1∉f->RelL T F Z.B NoL (upd (upd H' a1 (.lst [])) b1 (.lst (ns.map V.int++[.int z]))) xs vs f:=fun r n1 n2=>RelL.tr (fun _ h=>h) (fun _ h=>h) (fun _ h=>h) (fun c o e h=>keep c o e (fun z=>own c (.inl z) o e h) (fun z=>own c (.inr z) o e h)) (fun c hc o e=>keep c o e (fun z=>n1 (by rw[<- z];exact hc)) (fun z=>n2 (by rw[<- z];exact hc))) r
   refine⟨done++[.tup [.lst .own [],.lst .own ((ns++[z]).map .int)]],r,rys',f1 ++(([a1]++([b1]++ []))++ fr),S5,?_,keep a _ ha aa a_b,?_,?_,by simp[hd'],er,by rw[List.append_assoc];exact ey⟩
   ·rw[List.getElem?_set_ne (Ne.symm hiu),List.getElem?_set_ne (Ne.symm hit)]
    exact hσ
   ·rw[List.append_assoc]
    refine RelL.append (trL r1 (fun z=>nd2.2.2 a1 z a1 (by simp) rfl) (fun z=>nd2.2.2 b1 z b1 (by simp) rfl)) ?_
    show RelL T F Z.B NoL _ (.tup [.lst .own [],.lst .own ((ns++[z]).map .int)]::r) _ _
    unfold RelL
    refine⟨.ref p,w2,_,fr,rfl,?_,trL rr (fun z=>nd3.2.2 a1 (by simp) a1 z rfl) (fun z=>nd3.2.2 b1 (by simp) b1 z rfl),rfl⟩
    unfold Rel
    refine⟨p,[.ref a1,.ref b1],rfl,SqT.tr (fun o e h=>keep p o e (fun z=>own p (.inl z) o e (.inr (.inr (.inr h)))) (fun z=>own p (.inr z) o e (.inr (.inr (.inr h))))) sq,?_⟩
    unfold RelL
    refine⟨.ref a1,[.ref b1],[a1],[b1]++ [],rfl,?_,?_,rfl⟩
    ·unfold Rel
     refine⟨a1,[],[],rfl,?_,by unfold RelL;exact⟨rfl,rfl⟩,rfl⟩
     show upd (upd H' a1 (.lst [])) b1 _ a1=_
     rw[ar ab]
     exact aH
    ·unfold RelL
     refine⟨.ref b1,[],[b1],[],rfl,?_,by unfold RelL;exact⟨rfl,rfl⟩,rfl⟩
     unfold Rel
     refine⟨b1,ns.map V.int++[V.int z],[],rfl,aH,?_,rfl⟩
     have:=nR (T:=T) (F:=F) (B:=Z.B) (L:=NoL) (H:=upd (upd H' a1 (.lst [])) b1 (.lst (ns.map V.int++[.int z]))) (ns++[z])
     rwa [List.map_append (f:=V.int)]at this
   ·have sub:([a]++(f1 ++(([a1]++([b1]++ []))++ fr))).Sublist ([a]++(f1 ++(a1::fA' ++(b1::fB'++[])++ fr))):=by
     refine List.Sublist.append (List.Sublist.refl _) (List.Sublist.append (List.Sublist.refl _) (List.Sublist.append (List.Sublist.append ?_ (List.Sublist.append ?_ (List.Sublist.refl _))) (List.Sublist.refl _)))
     ·exact List.Sublist.cons_cons _ (List.nil_sublist _)
     ·exact List.Sublist.cons_cons _ (List.nil_sublist _)
    exact⟨op.nd.sublist sub,fun c hc=>op.nf c (sub.subset hc),fun c hc=>op.new c (sub.subset hc),fun c hc=>op.dj c (sub.subset hc)⟩
end
section
variable{X:Cx}{T:Tb}{W:Nat->St->Hp->Prop}
theorem vG(tn:Str)(cx:Ctx X T W kk)
  (hb:∀C s H ex,(nmC X caps [tn]).Nodup->PG (cxC X scope C (nmC X caps [tn]) s H ex) (.Name tn pt) (oG caps.length)/\L2.PE (cxC X scope C (nmC X caps [tn]) s H ex) (.Name tn pn) (oW caps.length)/\SE (cxC X scope C (nmC X caps [tn]) s H ex) T WF e me/\starEach [.Name tn pn,e] (cxC X scope C (nmC X caps [tn]) s H ex).env=(false,eval (.Name tn pn) (cxC X scope C (nmC X caps [tn]) s H ex).env)::starEach [e] (cxC X scope C (nmC X caps [tn]) s H ex).env/\starEach [e] (cxC X scope C (nmC X caps [tn]) s H ex).env=[(false,eval e (cxC X scope C (nmC X caps [tn]) s H ex).env)])
  (h:gY X.env.scope scope X.N caps (nmC X caps [tn]) [tn]=true:=by kernel_rfl) (hN:X.N[i]?=some x:=by rfl) (hv:Vis X.env.scope x:=by first | exact .inl rfl | exact .inr (.inl rfl) | exact .inr (.inr rfl))
  (hs:∀y,foldedSetIterable (.Name x px) X.env y=pure y:=by intro _;rfl) (hd:(x ==("__debug__" : Str))=false:=by decide) (hcd:(x ==("__classdict__" : Str))=false:=by decide) :
  SS X T W (.Return (some (.ListComp (.Tuple [.Name tn pn,e] x1 tpos) [⟨.Name tn pt,.Name x px,[],0⟩] scope pos)) rpos) (gM i caps me) :=
 qc (cOf h) cx.calm cx.hK hN hv (fun C s H ex=>hb C s H ex (cOf h).nd) hs hd hcd
end
open PySem.W (fnOf Frag)
section
variable{X:Cx}{W:Nat->St->Hp->Prop}{p:PT}{hA:p.attOk}
def Bl(y:FS×Bool)(us:List Value):Prop:=∀(dT:Addr) (kV doc pm:Value) (an:Option Addr) (cdv ct:Value),
 ∃k:Option (Array Value)->Sem (List (Str×Value)),bindArgs (fnOf (aE y.1.s) y.1.q (bf y.1.s) (aG y.1.s) (ao y.1.s) (.ref dT) kV doc pm an cdv ct) ⟨us,[]⟩=seqItems? (.ref dT) >>= k/\k (some [Value.bool y.2].toArray)=pure ((y.1.N.take y.1.k).zip (us++[.bool y.2]))
def Bk(y:FS×Bool)(kn:Str)(b:Bool)(us:List Value):Prop:=∀(dT:Addr) (kV doc pm:Value) (an:Option Addr) (cdv ct:Value),
 ∃k:Option (Array Value)->Sem (List (Str×Value)),bindArgs (fnOf (aE y.1.s) y.1.q (bf y.1.s) (aG y.1.s) (ao y.1.s) (.ref dT) kV doc pm an cdv ct) ⟨us,[(kn,.bool b)]⟩=seqItems? (.ref dT) >>= k/\k (some [Value.bool y.2].toArray)=pure ((y.1.N.take y.1.k).zip (us++[.bool b]))
theorem vJ{d:Bool}(F:FD p X.K X.mg y)
  (G:OkD p hA X.prog X.w X.K X.mg X.base k y.1 m) (cx:Ctx X (p.T hA X.K) W kk) (ha:SA X (p.T hA X.K) W (e::es) ms)
  (hbd:∀us,us.length+1=(y.1.N.take y.1.k).length->Bl y us)
  (hy:y.2=d:=by rfl) (hk:k<=kk:=by decide) (hx:aE y.1.s=x:=by rfl) (hg:Gl X x:=by rfl) (hn:dA ms n:=by repeat' first | exact bW | apply bE) (hps:n+1=(y.1.N.take y.1.k).length:=by rfl)
  (hdb:(x ==("__debug__" : Str))=false:=by decide) (he:starEach (e::es) X.env=(false,eval e X.env)::starEach es X.env:=by rfl) (hpl:(backTo pos (starEach es X.env)).any (·.1)=false:=by rfl) :
  SE X (p.T hA X.K) W (.Call (.Name x np) (e::es) [] pos) (am (fun xs=>au m (xs++[.bl d])) ms):=by
 subst hy
 exact qq G cx hk hg (by subst hx;exact F.gl) F.fn.kp (F.fn.binds (es:=[.bool y.2]) fun kV doc pm an cdv ct us hl=>hbd us (by simpa using hl) _ kV doc pm an cdv ct) (sK _) (nS _) hn hps ha hdb he hpl
theorem vI(F:FD p X.K X.mg y)
  (G:OkD p hA X.prog X.w X.K X.mg X.base k y.1 m) (cx:Ctx X (p.T hA X.K) W kk) (ha:SA X (p.T hA X.K) W (e::es) ms)
  (hbd:∀us,us.length+1=(y.1.N.take y.1.k).length->Bk y kn b us)
  (hk:k<=kk:=by decide) (hx:aE y.1.s=x:=by rfl) (hg:Gl X x:=by rfl) (hn:dA ms n:=by repeat' first | exact bW | apply bE) (hps:n+1=(y.1.N.take y.1.k).length:=by rfl)
  (hall:(backToKw pos (keywordEach [⟨some kn,.Constant (.bool b) cj cpos,kpos⟩] X.env)).all (·.1.isSome)=true:=by rfl) (hks:(backToKw pos (keywordEach [⟨some kn,.Constant (.bool b) cj cpos,kpos⟩] X.env)).filterMap (·.1)=[kn]:=by rfl)
  (hdb:(x ==("__debug__" : Str))=false:=by decide) (he:starEach (e::es) X.env=(false,eval e X.env)::starEach es X.env:=by rfl)
  (hpl:((backTo pos (starEach (e::es) X.env)).any (·.1) ||(backToKw pos (keywordEach [⟨some kn,.Constant (.bool b) cj cpos,kpos⟩] X.env)).any (·.1.isNone))=false:=by rfl) :
  SE X (p.T hA X.K) W (.Call (.Name x np) (e::es) [⟨some kn,.Constant (.bool b) cj cpos,kpos⟩] pos) (am (fun xs=>au m (xs++[.bl b])) ms) :=
 qp G cx hk hg (by subst hx;exact F.gl) F.fn.kp (l9.bindsK F.fn fun kV doc pm an cdv ct us hl=>hbd us hl _ kV doc pm an cdv ct) hn hps ha hall hks hdb he hpl
end
section
variable{env e e':En}{v:PV}{i:Nat}{r:Out}
@[simp] theorem uu:mC v env=.ok v:=rfl
@[simp] theorem je:aj env=.ok []:=rfl
@[simp] theorem gx:ae a m env=(a env).bind fun x=>(m env).bind fun xs=>.ok (x::xs):=rfl
@[simp] theorem Bt:mUn f a env=(a env).bind f:=rfl
@[simp] theorem oK:mOp f a b env=(a env).bind fun x=>(b env).bind fun y=>f x y:=rfl
@[simp] theorem oM:am f m env=(m env).bind f:=rfl
@[simp] theorem wW:bV m env=(m env).bind fun xs=>.ok (.lst .own xs):=rfl
@[simp] theorem rR:jv m env=(m env).bind fun xs=>.ok (.tup xs):=rfl
@[simp] theorem Am:cV a env=(a env).bind fun b=>.ok (!b):=rfl
@[simp] theorem lJ:aX a env=(a env).bind ki:=rfl
@[simp] theorem A1:kO a c env=(a env).bind (lc c):=rfl
@[simp] theorem fv:bB env=.ok none:=rfl
@[simp] theorem ut:bI env=.ok true:=rfl
def yE:Option (Option PV)->Res PV
 | some (some v)=>.ok (v.mapF Fl.lend)
 | _=>.stuck
@[simp] theorem cG(v:PV):yE (some (some v))=.ok (v.mapF Fl.lend):=rfl
@[simp] theorem eC:ad i env=yE env[i]?:=by
 unfold ad
 cases env[i]? with
 | none=>rfl
 | some w=>cases w<;>rfl
def pBl:PV->Res Bool
 | .bl b=>.ok b
 | _=>.stuck
@[simp] theorem AI(b:Bool):pBl (.bl b)=.ok b:=rfl
@[simp] theorem Aj:ax a env=(a env).bind pBl:=by
 rfl
def yG:PV->Res PV
 | .bl b=>.ok (.bl (!b))
 | _=>.stuck
@[simp] theorem zU(b:Bool):yG (.bl b)=.ok (.bl (!b)):=rfl
@[simp] theorem An:ox a env=(a env).bind yG:=by
 rfl
def v8(r:Res PV):PV->Res PV
 | .bl b=>if b then r else .ok (.bl false)
 | _=>.stuck
@[simp] theorem zV(r:Res PV)(b:Bool):v8 r (.bl b)=if b then r else .ok (.bl false):=rfl
@[simp] theorem Ap:jT a b env=(a env).bind (v8 (b env)):=by
 unfold jT
 congr 1
 funext x
 cases x with
 | bl b=>cases b<;>rfl
 | _=>rfl
def pOr(r:Res PV):PV->Res PV
 | .bl b=>if b then .ok (.bl true)else r
 | _=>.stuck
@[simp] theorem AF(r:Res PV)(b:Bool):pOr r (.bl b)=if b then .ok (.bl true)else r:=rfl
@[simp] theorem AZ:za a b env=(a env).bind (pOr (b env)):=by
 unfold za
 congr 1
 funext x
 cases x with
 | bl b=>cases b<;>rfl
 | _=>rfl
@[simp] theorem zy:q9 f g a b c env=(a env).bind fun x=>(b env).bind fun y=>(f x y).bind (v8 ((c env).bind fun z=>g y z)):=by
 unfold q9
 congr 1
 funext x
 congr 1
 funext y
 congr 1
 funext z
 cases z with
 | bl b=>cases b<;>rfl
 | _=>rfl
@[simp] theorem zn(g:Int->Int->PV)(i j:Int):iV g (.int i) (.int j)=.ok (g i j):=rfl
def uU:PV->Res (Option Int)
 | .int i=>.ok (some i)
 | _=>.stuck
@[simp] theorem fg(i:Int):uU (.int i)=.ok (some i):=rfl
@[simp] theorem iw:cD a env=(a env).bind uU:=by
 rfl
def yI(l h:Option Int):PV->Res PV
 | .lst _ xs=>.ok (.lst .own (dX xs l h))
 | _=>.stuck
@[simp] theorem eU(l h:Option Int)(f:Fl)(xs:List PV):yI l h (.lst f xs)=.ok (.lst .own (dX xs l h)):=rfl
@[simp] theorem gw:bN o lo hi env=(o env).bind fun x=>(lo env).bind fun l=>(hi env).bind fun h=>yI l h x:=by
 rfl
def aU(v:PV):Res PV:=if v.has Fl.isBor then .stuck else .ok v
@[simp] theorem lX:au f xs=(f (mapL Fl.toBor xs)).bind aU:=by
 unfold au
 cases f (mapL Fl.toBor xs)<;>rfl
def ju(disp:Nat->Option (List PV->Res PV))(r:Res (List PV)):PV->Res PV
 | .obj fl c ks vs=>match disp c with
  | some m=>r.bind fun xs=>au m (.obj fl c ks vs::xs)
  | none=>.stuck
 | _=>.stuck
@[simp] theorem yH(disp:Nat->Option (List PV->Res PV))(r:Res (List PV))(fl:Fl)(c:Nat)(ks:List Nat)(vs:List PV):ju disp r (.obj fl c ks vs)=match disp c with
  | some m=>r.bind fun xs=>au m (.obj fl c ks vs::xs)
  | none=>.stuck:=rfl
@[simp] theorem A0:fQ disp o ms env=(o env).bind (ju disp (ms env)):=by
 unfold fQ
 congr 1
 funext x
 cases x<;>rfl
@[simp] theorem Ak:cC m env=(m env).bind fun x=>match x with
 | .lst f xs=>if !f.isLnt&&fP xs then .ok xs else .stuck
 | .tup xs=>if fP xs then .ok xs else .stuck
 | _=>.stuck:=rfl
def qN(x:PV):Res (List PV):=match aO x with
 | some xs=>.ok xs
 | none=>.stuck
@[simp] theorem xQ(f:Fl)(xs:List PV):qN (.lst f xs)=.ok xs:=rfl
@[simp] theorem xP(xs:List PV):qN (.tup xs)=.ok xs:=rfl
@[simp] theorem Al:eJ m env=(m env).bind qN:=rfl
@[simp] theorem Ao:jS a b env=(a env).bind fun x=>if x then b env else .ok false:=rfl
@[simp] theorem AY:dL a b env=(a env).bind fun x=>if x then .ok true else b env:=rfl
@[simp] theorem rS:lv c a b env=(c env).bind fun x=>if x then a env else b env:=rfl
@[simp] theorem wV:mY c f m env=(m env).bind fun xs=>au f (.obj .own c [] []::xs):=rfl
theorem ak(h1:a env=.next e)(h2:b e=r):aq a b env=r:=by unfold aq;rw[h1];exact h2
theorem im(h1:a env=.ret v):aq a b env=.ret v:=by unfold aq;rw[h1]
theorem sU(h1:a env=.exc c e):aq a b env=.exc c e:=by unfold aq;rw[h1]
theorem jA(h:c env=.ok true)(h2:a env=r):mBr c a b env=r:=by unfold mBr;rw[h];exact h2
theorem b6(h:c env=.ok false)(h2:b env=r):mBr c a b env=r:=by unfold mBr;rw[h];exact h2
theorem av(h:m env=.ok v)(hl:v.noLnt=true)(ho:aW i env=true):aF i m env=.next (env.set i (some v)):=by
 unfold aF;rw[h];simp[hl,ho]
theorem ce(h:m env=.ok v)(hl:v.noLnt=true):bA m env=.ret v:=by unfold bA;rw[h];simp[hl]
theorem gH(h:env[i]?=some (some v)):e7 i env=.ret v:=by unfold e7;rw[h]
theorem iy(h:m env=.ok v):cY m env=.next env:=by unfold cY;rw[h]
theorem lQ(h:m env=.exc c):cY m env=.exc c env:=by unfold cY;rw[h]
theorem o_(h:m env=.ok xs):aQ c m env=.exc c env:=by unfold aQ;rw[h]
theorem aD:aK env=.next env:=rfl
theorem gX(h:m env=.ok v)(ho:env[i]?=some (some (.obj .own c ks vs)))(hl:v.noLnt=true)(hk:ks.contains k=false)(hn:ks.length < 900) :
  eO i k m env=.next (env.set i (some (.obj .own c (ks++[k]) (vs++[v])))):=by
 unfold eO;rw[h,ho];simp only[hl,hk];simp[hn]
theorem d0(h:m env=.ok v)(ho:env[i]?=some (some (.lst .own xs)))(hl:v.noLnt=true)(hn:xs.length < 10000000):bY i m env=.next (env.set i (some (.lst .own (xs++[v])))):=by
 unfold bY;rw[h,ho];simp[hl,hn]
theorem rX(ho:env[i]?=some (some (.lst .own xs))):gO i env=.next (env.set i (some (.lst .own []))):=by
 unfold gO;rw[ho]
theorem kU(h:m env=.ok v)(ho:env[i]?=some (some (.lst .own xs)))(hk:mk env=.ok (.int j))(hj:ixN xs.length j=some n)(hl:v.noLnt=true) :
  e6 i mk m env=.next (env.set i (some (.lst .own (xs.set n v)))):=by
 unfold e6;rw[h,ho,hk];simp[hj,hl]
theorem kB(h:env[i]?=some (some v)):gN i env=.next (env.set i (some (v.mapF Fl.freeze))):=by unfold gN;rw[h]
theorem xE(h:m env=.ok v)(hl:v.noLnt=true)(hg:g v env=some e):q_ g m env=.next e:=by
 unfold q_;rw[h];simp[hl,hg]
theorem aJ(h:m (args.map some++List.replicate (n - args.length) none)=.ret v):bg n m args=.ok v:=by unfold bg;rw[h]
theorem kY(h:m (args.map some++List.replicate (n - args.length) none)=.exc c e):bg n m args=.exc c:=by unfold bg;rw[h]
theorem o8(h:m (args.map some++List.replicate (n - args.length) none)=.next e):bg n m args=.ok .non:=by unfold bg;rw[h]
theorem nQ(h:m (args.map some++List.replicate (n - args.length) none)=.next e)(ho:e[0]?=some (some v)):iH n m args=.ok v:=by unfold iH;rw[h];simp[ho]
theorem iu(P:Nat->En->Prop)(h:it env=.ok xs)(h0:P 0 env)
  (step:∀(k:Nat) (x:PV) (e:En),xs[k]?=some x->P k e->∃e1 e2,g x e=some e1/\(body e1=.next e2\/body e1=.cont e2)/\P (k+1) e2):∃e2,cJ it g body env=.next e2/\P xs.length e2:=by
 unfold cJ
 rw[h]
 dsimp only
 have key:∀ (ys pre:List PV) (e:En),pre ++ ys=xs->P pre.length e->∃ e2,jw (fun x e=>match g x e with
  | some e'=>body e'
  | none=>.stuck) ys e=.next e2/\P xs.length e2:=by
  intro ys
  induction ys with
  | nil=>intro pre e hp hP;simp at hp;subst hp;exact⟨e,rfl,hP⟩
  | cons y ys ih =>
   intro pre e hp hP
   obtain⟨e1,e2,h1,h2,h3⟩:=step pre.length y e (by rw[<- hp];simp) hP
   obtain⟨e3,h4,h5⟩:=ih (pre++[y]) e2 (by rw[<- hp];simp) (by simpa using h3)
   refine⟨e3,?_,h5⟩
   unfold jw
   simp only[h1]
   rcases h2 with h2 | h2<;>rw[h2]<;>exact h4
 exact key xs [] env rfl h0
theorem ug(P:Nat->En->Prop)(R:Out->Prop)(h:it env=.ok xs)(h0:P 0 env)
  (step:∀(k:Nat) (x:PV) (e:En),xs[k]?=some x->P k e->∃e1,g x e=some e1/\((∃e2,(body e1=.next e2\/body e1=.cont e2)/\P (k+1) e2)\/(∃e2,body e1=.brk e2/\R (.next e2))\/(∃v,body e1=.ret v/\R (.ret v))\/ ∃c e2,body e1=.exc c e2/\R (.exc c e2)))
  (fin:∀e,P xs.length e->R (.next e)):R (cJ it g body env):=by
 unfold cJ
 rw[h]
 dsimp only
 have key:∀ (ys pre:List PV) (e:En),pre ++ ys=xs->P pre.length e->R (jw (fun x e=>match g x e with
  | some e'=>body e'
  | none=>.stuck) ys e):=by
  intro ys
  induction ys with
  | nil=>intro pre e hp hP;simp at hp;subst hp;exact fin e hP
  | cons y ys ih =>
   intro pre e hp hP
   obtain⟨e1,h1,h2⟩:=step pre.length y e (by rw[<- hp];simp) hP
   unfold jw
   simp only[h1]
   rcases h2 with⟨e2,h2,h3⟩ |⟨e2,h2,h3⟩ |⟨v,h2,h3⟩ |⟨c,e2,h2,h3⟩
   ·have:=ih (pre++[y]) e2 (by rw[<- hp];simp) (by simpa using h3)
    rcases h2 with h2 | h2<;>rw[h2]<;>exact this
   ·rw[h2];exact h3
   ·rw[h2];exact h3
   ·rw[h2];exact h3
 exact key xs [] env rfl h0
theorem da(h:mi env=.ok xs)(hl:xs.length<=10000000)(hc:bO g mc me (bK caps k env) xs=.ok ys):bv caps k mi g mc me env=.ok (.lst .own ys):=by
 unfold bv;rw[h];simp only[Res.ok_bind,hl,if_true,hc]
theorem db{α:Type}{a:α->PV}{f:α->PV}:∀(xs:List α),(∀x∈xs,∃e1,g (a x).borrow env=some e1/\me e1=.ok (f x)/\(f x).has Fl.isBor=false/\(f x).has Fl.isLnt=false)->
  bO g bI me env (xs.map a)=.ok (xs.map f)
 | [],_=>rfl
 | x::xs,h=>by
  obtain⟨e1,h1,h2,h3,h4⟩:=h x List.mem_cons_self
  rw[List.map_cons,bO,h1]
  simp only[ut,Res.ok_bind,if_true,h2,h3,h4,Bool.or_self,Bool.false_eq_true,if_false,db xs fun y hy=>h y (List.mem_cons_of_mem _ hy)]
  rfl
theorem eD{α:Type}{a:α->PV}{f:α->PV}{p:α->Bool}:∀(xs:List α),(∀x∈xs,∃e1,g (a x).borrow env=some e1/\mc e1=.ok (p x)/\(p x=true->me e1=.ok (f x)/\(f x).has Fl.isBor=false/\(f x).has Fl.isLnt=false))->
  bO g mc me env (xs.map a)=.ok ((xs.filter p).map f)
 | [],_=>rfl
 | x::xs,h=>by
  obtain⟨e1,h1,h2,h3⟩:=h x List.mem_cons_self
  have ih:=eD (g:=g) (mc:=mc) (me:=me) (a:=a) (f:=f) (p:=p) xs fun y hy=>h y (List.mem_cons_of_mem _ hy)
  rw[List.map_cons,bO,h1]
  cases hp:p x with
  | true =>
   obtain⟨h4,h5,h6⟩:=h3 hp
   simp only[h2,hp,Res.ok_bind,if_true,h4,h5,h6,Bool.or_self,Bool.false_eq_true,if_false,ih]
   rw[List.filter_cons_of_pos hp]
   rfl
  | false =>
   simp only[h2,hp,Res.ok_bind,Bool.false_eq_true,if_false,ih]
   rw[List.filter_cons_of_neg (by simp[hp])]
end
def iL(ns:List Int):List PV:=ns.map .int
theorem rC(ns:List Int):ns.map PV.int=iL ns:=rfl
section
variable(ns ms:List Int)(g:Fl->Fl)(p:Fl->Bool)
@[simp] theorem zj:iL []=[]:=rfl
@[simp] theorem fk(n:Int):iL (n::ns)=.int n::iL ns:=rfl
@[simp] theorem a9:(iL ns).length=ns.length:=by simp[iL]
@[simp] theorem zm:iL ns++iL ms=iL (ns++ms):=by simp[iL]
@[simp] theorem gS(k:Nat):(iL ns).drop k=iL (ns.drop k):=by simp[iL]
@[simp] theorem jU(k:Nat):(iL ns).take k=iL (ns.take k):=by simp[iL]
@[simp] theorem zk(k:Nat):(iL ns)[k]?=(ns[k]?).map .int:=by simp[iL]
@[simp] theorem zi(k:Nat)(n:Int):(iL ns).set k (.int n)=iL (ns.set k n):=by simp[iL,List.map_set]
@[simp] theorem dW:mapL g (iL ns)=iL ns:=by
 induction ns with
 | nil=>rfl
 | cons n ns ih=>simp[mapL,PV.mapF,ih]
@[simp] theorem yd:hasL p (iL ns)=false:=by
 induction ns with
 | nil=>rfl
 | cons n ns ih=>simp[hasL,PV.has,ih]
@[simp] theorem yg:PyData.canLayAll0 (dataL (iL ns))=true:=by
 induction ns with
 | nil=>rfl
 | cons n ns ih=>simp only[fk,dataL,PV.data,PyData.canLayAll0,ih];rfl
@[simp] theorem yf:PyData.depthAll (dataL (iL ns))=0:=by
 induction ns with
 | nil=>rfl
 | cons n ns ih=>simp only[fk,dataL,PV.data,PyData.depthAll,ih];rfl
@[simp] theorem fX(i:Int):shp (.int i)=true:=rfl
@[simp] theorem AC(b:Bool):shp (.bl b)=true:=rfl
@[simp] theorem zM:shp .non=true:=rfl
@[simp] theorem kS(f:Fl):shp (.lst f (iL ns))=true:=by
 simp[shp,SeqAt.shaped,PV.data,PyData.canLay0,PyData.depth]
@[simp] theorem jK:(iL ns).all shp=true:=by
 induction ns with
 | nil=>rfl
 | cons n ns ih=>simp only[fk,List.all_cons,fX,ih];rfl
mutual
theorem lK:∀d:PyData,d.canLay0=true->PyData.eqv d d=true
 | .none,_=>rfl
 | .bool b,_ | .int b,_ | .str b,_=>by simp[PyData.eqv]
 | .list xs,h=>by
  simp only[PyData.canLay0]at h
  simp only[PyData.eqv]
  exact eqvL_self xs h
 | .tuple xs,h=>by
  simp only[PyData.canLay0]at h
  simp only[PyData.eqv]
  exact eqvL_self xs h
 | .dict xs,h=>by simp[PyData.canLay0]at h
theorem eqvL_self:∀ds:List PyData,PyData.canLayAll0 ds=true->PyData.eqvAll ds ds=true
 | [],_=>rfl
 | d::ds,h=>by
  simp only[PyData.canLayAll0,Bool.and_eq_true]at h
  simp only[PyData.eqvAll,lK d h.1,eqvL_self ds h.2]
  rfl
end
theorem tY(h:x.data=y.data)(hs:shp x=true):pNe x y=.ok (.bl false):=by
 have hy:shp y=true:=by unfold shp at hs ⊢;rw[<- h];exact hs
 have hc:=SeqAt.canLay_of_shaped hs
 unfold pNe
 rw[hs,hy,<- h,lK _ hc]
 rfl
@[simp] theorem A2(i j:Int):pEq (.int i) (.int j)=.ok (.bl (decide (i=j))):=by
 unfold pEq
 simp only[fX,Bool.and_self,if_true,PV.data,PyData.eqv]
 congr 2
@[simp] theorem AK(i j:Int):pNe (.int i) (.int j)=.ok (.bl (!decide (i=j))):=by
 unfold pNe
 simp only[fX,Bool.and_self,if_true,PV.data,PyData.eqv]
 congr 2
@[simp] theorem Bu(i j:Bool):pEq (.bl i) (.bl j)=.ok (.bl (decide (i=j))):=by cases i<;>cases j<;>rfl
@[simp] theorem Bp(i j:Bool):pNe (.bl i) (.bl j)=.ok (.bl (!decide (i=j))):=by cases i<;>cases j<;>rfl
theorem jW:PyData.eqvAll (dataL (iL ns)) (dataL (iL ms))=decide (ns=ms):=by
 induction ns generalizing ms with
 | nil=>cases ms<;>simp[dataL,PyData.eqvAll]
 | cons n ns ih =>
  cases ms with
  | nil=>simp[dataL,PyData.eqvAll]
  | cons m ms=>simp only[fk,dataL,PV.data,PyData.eqvAll,PyData.eqv,ih];by_cases h:n=m<;>simp[h]
@[simp] theorem Aq(f f':Fl):pEq (.lst f (iL ns)) (.lst f' (iL ms))=.ok (.bl (decide (ns=ms))):=by
 unfold pEq
 simp only[kS,Bool.and_self,if_true,PV.data,PyData.eqv,jW]
@[simp] theorem zY(f f':Fl):pNe (.lst f (iL ns)) (.lst f' (iL ms))=.ok (.bl (!decide (ns=ms))):=by
 unfold pNe
 simp only[kS,Bool.and_self,if_true,PV.data,PyData.eqv,jW]
@[simp] theorem lt_int(i j:Int):pLt (.int i) (.int j)=.ok (.bl (decide (i < j))):=rfl
@[simp] theorem AQ(i j:Int):pLe (.int i) (.int j)=.ok (.bl (decide (i<=j))):=rfl
@[simp] theorem gt_int(i j:Int):pGt (.int i) (.int j)=.ok (.bl (decide (j < i))):=rfl
@[simp] theorem ge_int(i j:Int):pGe (.int i) (.int j)=.ok (.bl (decide (j<=i))):=rfl
@[simp] theorem qG(i j:Int):ay (.int i) (.int j)=.ok (.int (i+j)):=rfl
@[simp] theorem sub_int(i j:Int):la (.int i) (.int j)=.ok (.int (i - j)):=rfl
@[simp] theorem zX(i:Int):AG (.int i)=.ok (.int (-i)):=rfl
theorem aS(h:0 < j):bT (.int i) (.int j)=.ok (.int (i % j)):=by simp[bT,dI,h]
theorem dw(h:0 < j)(h2:j < 1073741824):cH (.int i) (.int j)=.ok (.int (i / j)):=by simp[cH,dI,h,h2]
theorem eh(h:(-(2 ^ 64) < i/\i < 2 ^ 64)\/(-(2 ^ 64) < j/\j < 2 ^ 64)):bS (.int i) (.int j)=.ok (.int (i * j)):=by
 unfold bS dI
 dsimp only
 rw[if_pos (by simpa using h)]
theorem qF(h0:0<=j)(h1:j<=1000000)(h2:i.natAbs < 2 ^ 64):tR (.int i) (.int j)=.ok (.int (i ^ j.toNat)):=by
 unfold tR dI
 dsimp only
 rw[if_pos (by simp only[decide_eq_true_eq];exact⟨h0,h1,h2⟩)]
@[simp] theorem Bm:tR (.int 10) (.int 60)=.ok (.int (10 ^ 60)):=qF (by decide) (by decide) (by decide)
@[simp] theorem z7(f:Fl)(xs:List PV):cT (.lst f xs)=.ok (.int xs.length):=rfl
@[simp] theorem z6(xs:List PV):cT (.tup xs)=.ok (.int xs.length):=rfl
@[simp] theorem zd(f:Fl)(xs:List PV):gf (.lst f xs)=.ok (.lst .own xs):=rfl
@[simp] theorem AJ(f:PV->Res PV)(x:PV):p1 f [x]=f x:=by simp only[p1]
@[simp] theorem Aa(c:String)(i:Int):lc c (.int i)=.ok (.bl (gR "int" c)):=rfl
@[simp] theorem AS(c:String)(i:Bool):lc c (.bl i)=.ok (.bl (gR "bool" c)):=rfl
@[simp] theorem z9(c:String):lc c .non=.ok (.bl (gR "NoneType" c)):=rfl
@[simp] theorem z_(c:String)(f:Fl)(xs:List PV):lc c (.lst f xs)=.ok (.bl (gR "list" c)):=rfl
@[simp] theorem z8(c:String)(xs:List PV):lc c (.tup xs)=.ok (.bl (gR "tuple" c)):=rfl
@[simp] theorem kN(b:Bool):ki (.bl b)=.ok b:=rfl
@[simp] theorem xL(i:Int):ki (.int i)=.ok (i != 0):=rfl
@[simp] theorem eY(i:Int):(PV.int i).mapF g=.int i:=by simp[PV.mapF]
@[simp] theorem kr(b:Bool):(PV.bl b).mapF g=.bl b:=by simp[PV.mapF]
@[simp] theorem y9:PV.non.mapF g=.non:=by simp[PV.mapF]
@[simp] theorem y6(x:Str):(PV.str x).mapF g=.str x:=by simp[PV.mapF]
@[simp] theorem y_(x:Nat):(PV.exc x).mapF g=.exc x:=by simp[PV.mapF]
@[simp] theorem cu(f:Fl)(xs:List PV):(PV.lst f xs).mapF g=.lst (g f) (mapL g xs):=by simp[PV.mapF]
@[simp] theorem ls(xs:List PV):(PV.tup xs).mapF g=.tup (mapL g xs):=by simp[PV.mapF]
@[simp] theorem lu(f:Fl)(c:Nat)(ks:List Nat)(xs:List PV):(PV.obj f c ks xs).mapF g=.obj (g f) c ks (mapL g xs):=by simp[PV.mapF]
@[simp] theorem i4:mapL g []=[]:=by simp[mapL]
@[simp] theorem fi(x:PV)(xs:List PV):mapL g (x::xs)=x.mapF g::mapL g xs:=by simp[mapL]
@[simp] theorem Ah(i:Int):(PV.int i).has p=false:=by simp[PV.has]
@[simp] theorem AU(b:Bool):(PV.bl b).has p=false:=by simp[PV.has]
@[simp] theorem Ag:PV.non.has p=false:=by simp[PV.has]
@[simp] theorem Ae(x:Str):(PV.str x).has p=false:=by simp[PV.has]
@[simp] theorem Ai(x:Nat):(PV.exc x).has p=false:=by simp[PV.has]
@[simp] theorem dG(f:Fl)(xs:List PV):(PV.lst f xs).has p=(p f||hasL p xs):=by simp[PV.has]
@[simp] theorem Ad(xs:List PV):(PV.tup xs).has p=hasL p xs:=by simp[PV.has]
@[simp] theorem Af(f:Fl)(c:Nat)(ks:List Nat)(xs:List PV):(PV.obj f c ks xs).has p=(p f||hasL p xs):=by simp[PV.has]
@[simp] theorem zq:hasL p []=false:=by simp[hasL]
@[simp] theorem ye(x:PV)(xs:List PV):hasL p (x::xs)=(x.has p||hasL p xs):=by simp[hasL]
@[simp] theorem cU(x:PV):x.noLnt=!x.has Fl.isLnt:=rfl
@[simp] theorem yh(x:PV):x.borrow=x.mapF Fl.borrow:=rfl
@[simp] theorem rh:Fl.own.lend=.lnt:=rfl
@[simp] theorem zf:Fl.frz.lend=.frz:=rfl
@[simp] theorem zg:Fl.bor.lend=.bor:=rfl
@[simp] theorem ze:Fl.lnt.lend=.lnt:=rfl
@[simp] theorem xM:Fl.own.toBor=.own:=rfl
@[simp] theorem xN:Fl.frz.toBor=.frz:=rfl
@[simp] theorem xO:Fl.bor.toBor=.bor:=rfl
@[simp] theorem oU:Fl.lnt.toBor=.bor:=rfl
@[simp] theorem vi:Fl.own.borrow=.bor:=rfl
@[simp] theorem w8:Fl.frz.borrow=.frz:=rfl
@[simp] theorem w_:Fl.bor.borrow=.bor:=rfl
@[simp] theorem w6:Fl.lnt.borrow=.bor:=rfl
@[simp] theorem xS:Fl.own.isOwn=true:=rfl
@[simp] theorem xU:Fl.frz.isOwn=false:=rfl
@[simp] theorem xV:Fl.bor.isOwn=false:=rfl
@[simp] theorem xT:Fl.lnt.isOwn=false:=rfl
@[simp] theorem xW:Fl.own.isLnt=false:=rfl
@[simp] theorem xY:Fl.frz.isLnt=false:=rfl
@[simp] theorem xZ:Fl.bor.isLnt=false:=rfl
@[simp] theorem xX:Fl.lnt.isLnt=true:=rfl
@[simp] theorem x0:Fl.own.isBor=false:=rfl
@[simp] theorem ya:Fl.frz.isBor=false:=rfl
@[simp] theorem yc:Fl.bor.isBor=true:=rfl
@[simp] theorem x_:Fl.lnt.isBor=false:=rfl
@[simp] theorem eA:Fl.own.freeze=.frz:=rfl
@[simp] theorem wF:Fl.frz.freeze=.frz:=rfl
@[simp] theorem wG:Fl.bor.freeze=.bor:=rfl
@[simp] theorem wE:Fl.lnt.freeze=.lnt:=rfl
theorem lD(h0:0<=i)(h:ns[i.toNat]?=some n):aC (.lst f (iL ns)) (.int i)=.ok (.int n):=by
 have hl:i.toNat < ns.length:=(List.getElem?_eq_some_iff.mp h).1
 unfold aC
 simp only[aO,atI,ixN,a9,h0,if_true]
 rw[if_pos (by omega)]
 simp[h]
end
section
variable{env:En}{r:Out}
def pX(o:Out)(Q:En->Prop):Prop:=∃e,(o=.next e\/o=.cont e)/\Q e
theorem a_(h1:a env=.next e)(h2:pX (b e) Q):pX (aq a b env) Q:=by
 obtain⟨e2,h3,h4⟩:=h2
 refine⟨e2,?_,h4⟩
 unfold aq
 rw[h1]
 exact h3
theorem bj(h1:o=.next e)(h2:Q e):pX o Q:=⟨e,.inl h1,h2⟩
theorem dE{it:MI}{g:TgM}{body bh:MS}{xs:List PV}(P:Nat->En->Prop)(h:it env=.ok xs)(h0:P 0 env)
  (step:∀(k:Nat) (x:PV) (e:En),xs[k]?=some x->P k e->∃e1,g x e=some e1/\pX (body e1) (P (k+1))) (fin:∀e,P xs.length e->bh e=r):aq (cJ it g body) bh env=r:=by
 obtain⟨e2,h1,h2⟩:=iu P h h0 fun k x e h1 h2=>by
  obtain⟨e1,h3,e2,h4,h5⟩:=step k x e h1 h2
  exact⟨e1,e2,h3,h4,h5⟩
 exact ak h1 (fin e2 h2)
theorem wD(h:-1000000<=i/\i<=1000000):inR i=true:=by
 have e:(2:Int) ^ 62=4611686018427387904:=by decide
 unfold inR
 rw[decide_eq_true_eq,e]
 omega
theorem tj(hi:inR n=true)(h:ms env=.ok [.int n]):bx ms env=.ok (cA 0 n.toNat):=by
 unfold bx
 rw[h,Res.ok_bind]
 dsimp only
 rw[if_pos hi]
theorem qw{n:Nat}(hi:inR (n:Int)=true)(h:ms env=.ok [.int n]):bx ms env=.ok (cA 0 n):=by
 have:=tj hi h
 rw[Int.toNat_natCast]at this
 exact this
theorem wu{n:Nat}(hn:n<=1000000):-1000000 <=(n:Int)/\(n:Int)<= 1000000:=by omega
theorem cZ{n:Nat}(h:ms env=.ok [.int n])(hn:n<=1000000):bx ms env=.ok (cA 0 n):=qw (wD (wu hn)) h
theorem cb(lo:Int)(n:Nat):(cA lo n).length=n:=by simp[cA]
theorem iJ(h:(cA lo n)[k]?=some x):k < n/\x=.int (lo+k):=by
 have hk:k < n:=by
  have:=(List.getElem?_eq_some_iff.mp h).1
  rwa [cb]at this
 refine⟨hk,?_⟩
 simp[cA,hk]at h
 exact h.symm
theorem gW{ns:List Int}{k:Nat}{x:PV}(h:(iL ns)[k]?=some x):∃n,ns[k]?=some n/\x=.int n:=by
 simp at h
 obtain⟨n,h1,h2⟩:=h
 exact⟨n,h1,h2.symm⟩
theorem dH(h:aW i e=true):tgN i v e=some (e.set i (some v)):=by simp[tgN,h]
end
theorem wZ(ns:List Int)(lo hi:Nat){l h:Int}(hl:l=lo)(hh:h=hi):dX (iL ns) (some l) (some h)=iL ((ns.take hi).drop lo):=by
 subst hl hh
 unfold dX
 rw[HT.sIx_nat,HT.sIx_nat]
 simp only[a9,gS,jU]
 congr 1
 rw[List.drop_take]
 rcases Nat.le_total lo ns.length with h1 | h1
 ·rw[Nat.min_eq_left h1]
  rcases Nat.le_total hi ns.length with h2 | h2
  ·rw[Nat.min_eq_left h2]
  ·rw[Nat.min_eq_right h2,List.take_of_length_le (by simp),List.take_of_length_le (by simp;omega)]
 ·rw[Nat.min_eq_right h1,List.drop_eq_nil_of_le (Nat.le_refl _),List.drop_eq_nil_of_le h1]
  simp
theorem oO(ns:List Int)(lo:Nat){l:Int}(hl:l=lo):dX (iL ns) (some l) none=iL (ns.drop lo):=by
 subst hl
 unfold dX
 rw[HT.sIx_nat,HT.sIx_none]
 simp only[a9,gS,jU]
 congr 1
 rcases Nat.le_total lo ns.length with h1 | h1
 ·rw[Nat.min_eq_left h1,List.take_of_length_le (by simp)]
 ·rw[Nat.min_eq_right h1,List.drop_eq_nil_of_le (Nat.le_refl _),List.drop_eq_nil_of_le h1]
  simp
theorem cm(hf:f≠.mod)(hg:g≠.mod)(h:xs.length+ys.length<=10000000):ay (.lst f xs) (.lst g ys)=.ok (.lst .own (xs++ys)):=by
 unfold ay
 dsimp only
 rw[if_neg (by simp only[hf,hg,h,not_true_eq_false,or_self,not_false_eq_true])]
theorem kx(h:k < n):ixN n (k:Int)=some k:=by
 unfold ixN
 rw[if_pos (by omega),if_pos (by omega),Int.toNat_natCast]
def llL(f:Fl)(xss:List (List Int)):List PV:=xss.map fun xs=>.lst f (iL xs)
section
variable(xss yss:List (List Int))(g:Fl->Fl)(p:Fl->Bool)(f:Fl)
@[simp] theorem zZ:llL f []=[]:=rfl
@[simp] theorem zb(xs:List Int):llL f (xs::xss)=.lst f (iL xs)::llL f xss:=rfl
@[simp] theorem oA:(llL f xss).length=xss.length:=by simp[llL]
@[simp] theorem z5:llL f xss++llL f yss=llL f (xss++yss):=by simp[llL]
@[simp] theorem y4:mapL g (llL f xss)=llL (g f) xss:=by
 induction xss with
 | nil=>rfl
 | cons n ns ih=>simp[ih]
theorem jb(h:p f=false):hasL p (llL f xss)=false:=by
 induction xss with
 | nil=>rfl
 | cons n ns ih=>simp[ih,h]
end
theorem vO(lo:Int)(n:Nat):cA lo n=iL ((List.range n).map fun k=>lo+(k:Nat)):=by simp[cA,iL]
def p6(n:Nat):List Int:=(List.range n).map fun(k:Nat)=>(k:Int)
@[simp] theorem ym(n:Nat):(p6 n).length=n:=by simp[p6]
theorem qv(n:Nat):cA 0 n=iL (p6 n):=by rw[vO];simp[p6]
@[simp] theorem xR{n:Nat}(h:n<=1000000):n5 [.int n]=.ok (.lst .own (iL (p6 n))):=by
 unfold n5
 dsimp only
 rw[if_pos (by simp;omega),Int.toNat_natCast,qv]
@[simp] theorem AT(b c:Bool):AH (.bl b) (.bl c)=.ok (.bl (b==c)):=rfl
@[simp] theorem zW(b c:Bool):yF (.bl b) (.bl c)=.ok (.bl (!(b==c))):=rfl
@[simp] theorem fu(ns:List Int):bu (iL ns)=some ns:=by
 induction ns with
 | nil=>rfl
 | cons n ns ih=>simp[bu,ih]
theorem pG(h:ns.length<=1000):gg (.lst f (iL ns))=.ok (.int (jY ns)):=by
 unfold gg
 simp only[fu]
 rw[if_pos (by simpa using h)]
theorem oN:∀(l acc:List Int),(acc++l).Nodup->l.foldl PyProof.Rows.step_dedup acc=acc++l
 | [],acc,_=>by simp
 | x::l,acc,h=>by
  have h':((acc++[x])++ l).Nodup:=by simpa using h
  rw[List.foldl_cons]
  have hx:x∉acc:=fun hm=>by
   rw[List.nodup_append]at h
   exact h.2.2 x hm x List.mem_cons_self rfl
  have:PyProof.Rows.step_dedup acc x=acc++[x]:=by
   unfold PyProof.Rows.step_dedup
   rw[if_neg]
   simpa using hx
  rw[this,oN l _ h']
  simp
theorem uz(ns:List Int):(List.range ns.length).map (fun i=>ns.getD i 0)=ns:=by
 apply List.ext_getElem?
 intro i
 by_cases h:i < ns.length
 ·simp[h]
 ·simp[h]
theorem rV(h:ns.Nodup):jY ns=ns.length:=by
 unfold jY PyProof.Rows.firstMet
 rw[uz,oN ns [] (by simpa using h)]
 rfl
theorem oE(i:Int)(ns:List Int):inL (.int i) (iL ns)=ns.contains i:=by
 induction ns with
 | nil=>rfl
 | cons n ns ih =>
  have e:inL (.int i) (iL (n::ns))=(PyData.eqv (PV.int n).data (PV.int i).data||inL (.int i) (iL ns)):=rfl
  rw[e,ih,List.contains_cons]
  congr 1
  simp only[PV.data,PyData.eqv]
  exact Bool.beq_comm
@[simp] theorem Br(i:Int)(ns:List Int)(f:Fl):pIn (.int i) (.lst f (iL ns))=.ok (.bl (ns.contains i)):=by
 unfold pIn
 simp only[aO,fX,jK,Bool.and_self,if_true,oE]
@[simp] theorem y2(i:Int)(ns:List Int)(f:Fl):kj (.int i) (.lst f (iL ns))=.ok (.bl (!ns.contains i)):=by
 unfold kj
 simp only[aO,fX,jK,Bool.and_self,if_true,oE]
def Ends(o:Out):Prop:=∃e,o=.next e
section
variable{env e:En}
theorem gG(h:Ends (m (args.map some++List.replicate (n - args.length) none))):bg n m args=.ok .non:=by
 obtain⟨e,h⟩:=h
 exact o8 h
theorem jf(h1:a env=.next e)(h2:Ends (b e)):Ends (aq a b env):=by
 obtain⟨e2,h2⟩:=h2
 exact⟨e2,ak h1 h2⟩
theorem jX(h:o=.next e):Ends o:=⟨e,h⟩
theorem rT{it:MI}{g:TgM}{body bh:MS}{xs:List PV}(P:Nat->En->Prop)(h:it env=.ok xs)(h0:P 0 env)
  (step:∀(k:Nat) (x:PV) (e:En),xs[k]?=some x->P k e->∃e1,g x e=some e1/\pX (body e1) (P (k+1))) (fin:∀e,P xs.length e->Ends (bh e)):Ends (aq (cJ it g body) bh env):=by
 obtain⟨e2,h1,h2⟩:=iu P h h0 fun k x e h1 h2=>by
  obtain⟨e1,h3,e2,h4,h5⟩:=step k x e h1 h2
  exact⟨e1,e2,h3,h4,h5⟩
 exact jf h1 (fin e2 h2)
end
theorem cR(h:m env=.ok (.lst f xs))(hf:f.isLnt=false)(h1:hasL Fl.isOwn xs=false)(h2:hasL Fl.isLnt xs=false):cC m env=.ok xs:=by
 unfold cC
 rw[h]
 simp[hf,fP,h1,h2]
end PR
namespace PR
section
variable{n r s k o:Nat}{adj:Nat->Nat->Prop}{far:List Int}
def gt(far:List Int)(i:Nat):Int:=far.getD i 0
structure Far(n r:Nat)(adj:Nat->Nat->Prop)(s k:Nat)(d:Nat->Prop)(far:List Int):Prop where
 len:far.length=n
 rt:gt far r=0
 rng:∀i < n,0<=gt far i/\(gt far i<=s+1\/gt far i=n)
 top:∀i < n,gt far i<=n
 up:∀i < n,∀j < n,gt far i < s->adj i j->gt far j<=gt far i+1
 upk:∀i < k,∀j < n,gt far i=s->adj i j->gt far j<=s+1
 upd:∀j < n,d j->gt far j<=s+1
 dn:∀i < n,i≠r->gt far i < n->1<=gt far i/\∃j < n,adj i j/\gt far j=gt far i - 1
theorem Far.none(F:Far n r adj s k (fun _=>False) far)(hd:∀j,¬d j):Far n r adj s k d far where
 len:=F.len
 rt:=F.rt
 rng:=F.rng
 top:=F.top
 up:=F.up
 upk:=F.upk
 upd:=fun j _ z=>absurd z (hd j)
 dn:=F.dn
theorem Far.next(F:Far n r adj s n (fun _=>False) far):Far n r adj (s+1) 0 (fun _=>False) far where
 len:=F.len
 rt:=F.rt
 rng:=fun i hi=>by have:=F.rng i hi;omega
 top:=F.top
 up:=fun i hi j hj hv a=>by
  by_cases h:gt far i < s
  ·exact F.up i hi j hj h a
  ·have e:gt far i=s:=by omega
   have:=F.upk i hi j hj e a
   omega
 upk:=fun i hi=>absurd hi (Nat.not_lt_zero _)
 upd:=fun _ _ z=>z.elim
 dn:=F.dn
structure uJ(n r:Nat)(adj:Nat->Nat->Prop)(far:List Int):Prop where
 len:far.length=n
 rt:gt far r=0
 rng:∀i < n,0<=gt far i/\gt far i<=n
 up:∀i < n,∀j < n,adj i j->gt far j<=gt far i+1
 dn:∀i < n,i≠r->gt far i < n->1<=gt far i/\∃j < n,adj i j/\gt far j=gt far i - 1
theorem oq:∀{l l':List Int},l.Nodup->(∀x∈l,x∈l')->l.length<=l'.length
 | [],_,_,_=>Nat.zero_le _
 | x::l,l',nd,sub=>by
  obtain⟨h1,h2⟩:=List.nodup_cons.mp nd
  have hx:=sub x List.mem_cons_self
  have:=oq (l':=l'.erase x) h2 fun y hy=>(List.mem_erase_of_ne (show y≠x from fun z=>h1 (z▸hy))).mpr (sub y (List.mem_cons_of_mem _ hy))
  rw[List.length_erase_of_mem hx]at this
  have:=List.length_pos_of_mem hx
  rw[List.length_cons]
  omega
theorem uJ.below(D:uJ n r adj far)(hr:r < n):∀(m:Nat),(∃i < n,gt far i=m)->m < n->∀v,v<=m->∃i < n,gt far i=v
 | 0,h,_,v,hv=>by
  have:v=0:=by omega
  subst this;exact h
 | m+1,⟨i,hi,e⟩,hm,v,hv=>by
  rcases Nat.lt_or_ge v (m+1)with h | h
  ·have hir:i≠r:=fun z=>by subst z;have:=D.rt;omega
   obtain⟨_,j,hj,_,ej⟩:=D.dn i hi hir (by omega)
   exact D.below hr m ⟨j,hj,by omega⟩ (by omega) v (by omega)
  ·have:v=m+1:=by omega
   subst this
   exact⟨i,hi,e⟩
theorem bZ(h:i < far.length):gt far i∈far:=by
 simp[gt,h]
theorem uJ.all(D:uJ n r adj far)(hr:r < n)(conn:∀S:Nat->Prop,S r->(∀i < n,∀j < n,adj i j->S i->S j)->∀i < n,S i):∀i < n,gt far i < n:=by
 refine conn (fun i=>gt far i < n) (by show gt far r < n;rw[D.rt];omega) fun i hi j hj a hv=>?_
 show gt far j < n
 rcases Int.lt_or_le (gt far j) n with h | h
 ·exact h
 exfalso
 have h1:=D.up i hi j hj a
 have h2:=(D.rng j hj).2
 have e:gt far i=((n - 1:Nat):Int):=by omega
 have all:∀v:Nat,v < n+1->(v:Int)∈ far:=fun v hv=>by
  rcases Nat.lt_or_ge v n with h | h
  ·obtain⟨x,hx,ex⟩:=D.below hr (n - 1) ⟨i,hi,e⟩ (by omega) v (by omega)
   rw[<- ex]
   exact bZ (by rw[D.len];exact hx)
  ·have:(v:Int)=gt far j:=by omega
   rw[this]
   exact bZ (by rw[D.len];exact hj)
 have:=oq (l:=(List.range (n+1)).map fun k:Nat=>(k:Int)) (l':=far) (List.Pairwise.map _ (fun a b h z=>h (by omega)) List.nodup_range) fun x hx=>by
  obtain⟨v,hv,rfl⟩:=List.mem_map.mp hx
  exact all v (List.mem_range.mp hv)
 rw[List.length_map,List.length_range,D.len]at this
 omega
end
end PR
namespace PR
open PySem PySem.Spec L2
def prL(ps:List (Int×Int)):List PV:=ps.map prV
section
variable{ps qs:List (Int×Int)}{x:Int×Int}{f:Fl}{g:Fl->Fl}{p:Fl->Bool}
@[simp] theorem zQ:prL []=[]:=rfl
@[simp] theorem qE:prL (x::ps)=prV x::prL ps:=rfl
@[simp] theorem zR:(prL ps).length=ps.length:=by simp[prL]
@[simp] theorem zT:prL ps++prL qs=prL (ps++qs):=by simp[prL]
@[simp] theorem zS(k:Nat):(prL ps)[k]?=(ps[k]?).map prV:=by simp[prL]
@[simp] theorem zN:PV.mapF g (prV x)=prV x:=rfl
@[simp] theorem zP:(prV x).has p=false:=rfl
@[simp] theorem y3:mapL g (prL ps)=prL ps:=by
 induction ps with
 | nil=>rfl
 | cons n ns ih=>simp[mapL,ih]
@[simp] theorem zp:hasL p (prL ps)=false:=by
 induction ps with
 | nil=>rfl
 | cons n ns ih=>simp[hasL,ih]
@[simp] theorem mD:shp (prV x)=true:=rfl
@[simp] theorem kT:(prL ps).all shp=true:=by
 induction ps with
 | nil=>rfl
 | cons n ns ih=>simp only[qE,List.all_cons,mD,ih];rfl
theorem wX(x y:Int×Int):PyData.eqv (prV x).data (prV y).data=decide (x=y):=by
 obtain⟨a,b⟩:=x
 obtain⟨c,d⟩:=y
 simp only[prV,PV.data,dataL,PyData.eqv,PyData.eqvAll]
 by_cases h1:a=c<;>by_cases h2:b=d<;>simp[h1,h2]
theorem rD:inL (prV x) (prL ps)=ps.contains x:=by
 induction ps with
 | nil=>rfl
 | cons n ns ih =>
  have e:inL (prV x) (prL (n::ns))=(PyData.eqv (prV n).data (prV x).data||inL (prV x) (prL ns)):=rfl
  rw[e,ih,List.contains_cons,wX]
  congr 1
  by_cases h:n=x
  ·subst h;simp
  ·rw[decide_eq_false h]
   exact(beq_eq_false_iff_ne.mpr (Ne.symm h)).symm
@[simp] theorem Bq:pIn (prV x) (.lst f (prL ps))=.ok (.bl (ps.contains x)):=by
 unfold pIn
 simp only[aO,mD,kT,Bool.and_self,if_true,rD]
@[simp] theorem y0:kj (prV x) (.lst f (prL ps))=.ok (.bl (!ps.contains x)):=by
 unfold kj
 simp only[aO,mD,kT,Bool.and_self,if_true,rD]
@[simp] theorem Ac:aC (prV x) (.int 0)=.ok (.int x.1):=rfl
@[simp] theorem Ab:aC (prV x) (.int 1)=.ok (.int x.2):=rfl
@[simp] theorem AN:dF eM (prV x)=.ok (.int (min x.1 x.2)):=rfl
@[simp] theorem AO:dF ig (prV x)=.ok (.int (max x.1 x.2)):=rfl
@[simp] theorem v7:eT (prL ps)=some ps:=by
 induction ps with
 | nil=>rfl
 | cons n ns ih =>
  have:iU (prV n)=some n:=rfl
  simp[eT,ih,this]
end
theorem ja{x:PV}{xs:List PV}{k:Nat}{y:PV}(hs:aO x=some xs)(h:xs[k]?=some y)(ho:y.has Fl.isOwn=false):aC x (.int k)=.ok y:=by
 have hl:k < xs.length:=(List.getElem?_eq_some_iff.mp h).1
 unfold aC
 simp only[hs,atI]
 rw[kx hl]
 simp[h,ho]
def mm(w:Int×Int):Int×Int:=(min w.1 w.2,max w.1 w.2)
structure Bz(n:Nat)(ws:List (Int×Int)):Prop where
 rg:∀w∈ws,0<=w.1/\w.1 < n/\0<=w.2/\w.2 < n/\w.1≠w.2
 nd:(ws.map mm).Nodup
 sz:ws.length < 64
end PR
namespace PR
structure By(n:Nat)(od:List Int)(k:Nat)(ws:List (Int×Int)):Prop where
 rg:∀w∈ws,w.1∈od.take k/\w.2∈od.take k/\w.1≠w.2
 nd:(ws.map mm).Nodup
 ln:ws.length+1=k
 cn:∀S:Int->Prop,(∀w∈ws,(S w.1↔S w.2))->∀a∈od.take k,(S a↔S (od.getD 0 0))
structure Bv(n m:Nat)(ws:List (Int×Int)):Prop where
 rg:∀w∈ws,0<=w.1/\w.1 < n/\0<=w.2/\w.2 < n/\w.1≠w.2
 nd:(ws.map mm).Nodup
 ln:ws.length<=m
 cn:∀S:Int->Prop,(∀w∈ws,(S w.1↔S w.2))->∀i j:Nat,i < n->j < n->S i->S j
open PySem L2 in
def jB(o:Out)(Q:PV->Prop):Prop:=∃v,o=.ret v/\Q v
section
open PySem L2
variable{env e:En}{Q:PV->Prop}
theorem bq{a b:MS}(h1:a env=.next e)(h2:jB (b e) Q):jB (aq a b env) Q:=by
 obtain⟨v,h,q⟩:=h2
 exact⟨v,ak h1 h,q⟩
theorem fZ{c:MT}{a b bh:MS}(hc:c env=.ok true)(h:jB (a env) Q):jB (aq (mBr c a b) bh env) Q:=by
 obtain⟨v,h1,h2⟩:=h
 exact⟨v,im (jA hc h1),h2⟩
theorem b0{o:Out}{v:PV}(h:o=.ret v)(q:Q v):jB o Q:=⟨v,h,q⟩
theorem k4{it:MI}{g:TgM}{body bh:MS}{xs:List PV}(P:Nat->En->Prop)(h:it env=.ok xs)(h0:P 0 env)
  (step:∀(k:Nat) (x:PV) (e:En),xs[k]?=some x->P k e->∃e1,g x e=some e1/\pX (body e1) (P (k+1))) (fin:∀e,P xs.length e->jB (bh e) Q):jB (aq (cJ it g body) bh env) Q:=by
 obtain⟨e2,h1,h2⟩:=iu P h h0 fun k x e h1 h2=>by
  obtain⟨e1,h3,e2,h4,h5⟩:=step k x e h1 h2
  exact⟨e1,e2,h3,h4,h5⟩
 exact bq h1 (fin e2 h2)
end
end PR
namespace PR
open PySem L2
section
variable{env:En}
theorem vn(ho:env[0]?=some (some (.obj .own c ks vs)))(ha:ms env=.ok xs)(hl:hasL Fl.isLnt xs=false)
  (hm:m (.obj .own c ks vs::mapL Fl.toBor xs)=.ok (.obj fl c' ks' vs')) (hb:(PV.obj fl c' ks' vs').has Fl.isBor=false):gL m ms env=.next (env.set 0 (some (.obj fl c' ks' vs'))):=by
 unfold gL
 rw[ho]
 dsimp only
 rw[ha]
 dsimp only
 rw[hl,if_neg (by decide),hm]
 dsimp only
 rw[hb,if_neg (by decide)]
end
@[simp] theorem Bo:tR (.int 10) (.int 59)=.ok (.int (10 ^ 59)):=qF (by decide) (by decide) (by decide)
section
variable{env:En}{g:TgM}{me:ME}
theorem nq(f:Int->Int)(row:List Int)(h:∀x∈row,∃e1,g (.int x) env=some e1/\me e1=.ok (.int (f x))):bO g bI me env (iL row)=.ok (iL (row.map f)):=by
 rw[show iL (row.map f)=row.map fun x=>PV.int (f x) by simp[iL]]
 exact db (a:=PV.int) (f:=fun x=>.int (f x)) row fun x hx=>let⟨e1,h1,h2⟩:=h x hx;⟨e1,h1,h2,rfl,rfl⟩
theorem gZ(lo:Int)(f:Nat->Int)(n:Nat)(h:∀k < n,∃e1,g (.int (lo+(k:Int))) env=some e1/\me e1=.ok (.int (f k))):bO g bI me env (cA lo n)=.ok (iL ((List.range n).map f)):=by
 rw[show iL ((List.range n).map f)=(List.range n).map fun k=>PV.int (f k) by simp[iL]]
 exact db (a:=fun k:Nat=>PV.int (lo+(k:Int))) (f:=fun k=>.int (f k)) (List.range n) fun k hk=>let⟨e1,h1,h2⟩:=h k (List.mem_range.mp hk);⟨e1,h1,h2,rfl,rfl⟩
theorem jk(p:Nat->Bool)(f:Nat->Int)(n:Nat)(h:∀k < n,∃e1,g (.int (0+(k:Int))) env=some e1/\mc e1=.ok (p k)/\(p k=true->me e1=.ok (.int (f k)))):bO g mc me env (cA 0 n)=.ok (iL (((List.range n).filter p).map f)):=by
 rw[show iL (((List.range n).filter p).map f)=((List.range n).filter p).map fun k=>PV.int (f k) by simp[iL]]
 exact eD (a:=fun k:Nat=>PV.int (0+(k:Int))) (f:=fun k=>.int (f k)) (p:=p) (List.range n) fun k hk=>let⟨e1,h1,h2,h3⟩:=h k (List.mem_range.mp hk);⟨e1,h1,h2,fun z=>⟨h3 z,rfl,rfl⟩⟩
end
theorem dM(h0:0<=i)(h:i < cs.length):aC (.lst f (iL cs)) (.int i)=.ok (.int (gt cs i.toNat)):=by
 have:i.toNat < cs.length:=by omega
 exact lD _ h0 (by simp[gt,this])
theorem wY(xs:List PV)(k:Nat)(h:k<=xs.length):dX xs none (some (k:Int))=xs.take k:=by
 unfold dX
 rw[HT.sIx_nat,HT.sIx_none]
 simp[Nat.min_eq_left h]
theorem ji(xs:List PV)(k:Nat)(h:k<=xs.length):dX xs (some (k:Int)) none=xs.drop k:=by
 unfold dX
 rw[HT.sIx_nat,HT.sIx_none]
 rw[Nat.min_eq_left h,List.take_of_length_le (by simp)]
theorem lS(p:Int->Bool)(f:Int->Int)(row:List Int)(h:∀x∈row,∃e1,g (.int x) env=some e1/\mc e1=.ok (p x)/\(p x=true->me e1=.ok (.int (f x)))):bO g mc me env (iL row)=.ok (iL ((row.filter p).map f)):=by
 rw[show iL ((row.filter p).map f)=(row.filter p).map fun x=>PV.int (f x) by simp[iL]]
 exact eD (a:=PV.int) (f:=fun x=>.int (f x)) (p:=p) row fun x hx=>let⟨e1,h1,h2,h3⟩:=h x hx;⟨e1,h1,h2,fun z=>⟨h3 z,rfl,rfl⟩⟩
section
variable{env:En}{r:Out}
end
theorem pR(cs:List Int)(k:Nat)(h:k<=cs.length):dX (iL cs) (some (k:Int)) none=iL (cs.drop k):=by
 rw[ji _ k (by rw[a9];exact h),gS]
@[simp] theorem yi(bs:List Bool):r6 (bs.map .bl)=some bs:=by
 induction bs with
 | nil=>rfl
 | cons b bs ih=>simp[r6,ih]
end PR
namespace G
open PySem L2 PR
def pN:Nat->Bool:=f_ [false,false,false,false,true]
def xo:MS :=
 (aq (mBr (ax (mOp pLt (ad 1) (am (p1 cT) (ae (ad 0) aj))))
  (bA (mOp aC (ad 0) (ad 1)))
  aK)
 (bA (mC (.int (0)))))
def eP:List PV->Res PV:=bg 2 xo
def xk:MS :=
 (aq (aF 4 (mOp cH (ad 2) (mOp bS (ad 1) (ad 1))))
 (aq (aF 5 (mOp bT (mOp cH (ad 2) (ad 1)) (ad 1)))
 (aq (mBr (ax (mOp pEq (ad 0) (mC (.int (0)))))
  (e7 4)
  aK)
 (aq (mBr (ax (mOp pEq (ad 0) (mC (.int (1)))))
  (e7 5)
  aK)
 (aq (mBr (ax (mOp pEq (ad 0) (mC (.int (2)))))
  (bA (mOp bT (mOp ay (ad 4) (am (p1 dh) (ae (mOp pEq (ad 4) (ad 5)) aj))) (ad 1)))
  aK)
 (aq (aF 6 (mOp bS (mOp ay (mOp ay (mOp bT (ad 3) (mC (.int (1000003)))) (mC (.int (1)))) (ad 2)) (mOp ay (mOp ay (mOp bT (ad 3) (mC (.int (999983)))) (mC (.int (7)))) (mOp bS (mC (.int (3))) (ad 2)))))
 (aq (aF 6 (mOp bT (mOp bS (ad 6) (mC (.int (48271)))) (mC (.int (2147483647)))))
 (aq (mBr (ax (mOp pEq (ad 0) (mC (.int (3)))))
  (bA (am (ef min) (ae (ad 4) (ae (mOp bT (ad 6) (ad 1)) aj))))
  aK)
 (bA (mOp bT (ad 6) (ad 1)))))))))))
def pP:List PV->Res PV:=bg 7 xk
def xm:MS :=
 (aq (aF 2 (mOp cH (am (au eP) (ae (ad 0) (ae (mC (.int (0))) aj))) (mC (.int (96)))))
 (aq (aF 3 (mOp bS (mOp bS (ad 1) (ad 1)) (ad 1)))
 (aq (aF 4 (bv [2,1,0] 1 (bx (ae (ad 3) aj)) (tgN 3) bI (am (au pP) (ae (mOp bT (ad 0) (mC (.int (5)))) (ae (ad 1) (ae (ad 3) (ae (am (au eP) (ae (ad 2) (ae (mC (.int (2))) aj))) aj)))))))
 (aq (aF 5 (bv [2,1,0] 1 (bx (ae (ad 3) aj)) (tgN 3) bI (am (au pP) (ae (mOp bT (mOp cH (ad 0) (mC (.int (5)))) (mC (.int (5)))) (ae (ad 1) (ae (ad 3) (ae (am (au eP) (ae (ad 2) (ae (mC (.int (3))) aj))) aj)))))))
 (aq (cJ (cC (bN (ad 0) (cD (mC (.int (4)))) bB)) (tgN 6)
  (aq (aF 7 (mOp bT (ad 6) (mOp bS (mC (.int (2))) (ad 3))))
 (mBr (ax (mOp pLt (ad 7) (ad 3)))
  (e6 4 (ad 7) (mOp bT (mOp cH (ad 6) (mOp bS (mC (.int (2))) (ad 3))) (ad 1)))
  (e6 5 (mOp la (ad 7) (ad 3)) (mOp bT (mOp cH (ad 6) (mOp bS (mC (.int (2))) (ad 3))) (ad 1))))))
 (mX 4 5))))))
def wM:List PV->Res PV:=bg 8 xm
def xy:MS :=
 (aq (mBr (ax (mOp pNe (am (p1 cT) (ae (ad 0) aj)) (mOp bS (mOp bS (ad 1) (ad 1)) (ad 1))))
  (aQ 2 (ae (mC (.str "a table has not an entry for each own, left and right cell")) aj))
  aK)
 (cJ (cC (ad 0)) (tgN 2)
  (mBr ((dL (ax (mOp pLt (ad 2) (mC (.int (0))))) (ax (mOp pGe (ad 2) (ad 1)))))
  (aQ 2 (ae (mC (.str "an entry of a table is out of bounds")) aj))
  aK)))
def uo:List PV->Res PV:=bg 3 xy
def sw:MS :=
 (aq (eO 0 0 (ad 1))
 (aq (eO 0 7 (ad 2))
 (eO 0 8 (ad 3))))
def lI:List PV->Res PV:=iH 4 sw
def xC:MS :=
 (aq (mBr ((dL (ax (mOp pLt (ad 1) (mC (.int (2))))) (ax (mOp pGt (ad 1) (mC (.int (8)))))))
  (aQ 2 (ae (mC (.str "the number of machines is out of bounds")) aj))
  aK)
 (aq (mBr ((dL (ax (mOp pLt (ad 2) (mC (.int (2))))) (ax (mOp pGt (ad 2) (mC (.int (4)))))))
  (aQ 2 (ae (mC (.str "the span is out of bounds")) aj))
  aK)
 (aq (mBr (ax (mUn (iq [("none", (0)),("one", (1))]) (ad 3)))
  (aQ 2 (ae (mC (.str "the word is another one than none and one")) aj))
  aK)
 (aq (cY (am (au uo) (ae (ad 4) (ae (ad 2) aj))))
 (aq (cY (am (au uo) (ae (ad 5) (ae (ad 2) aj))))
 (aq (eO 0 9 (mUn (lg [("none", (0)),("one", (1))]) (ad 3)))
 (aq (eO 0 10 (am (p1 df) (ae (ad 4) aj)))
 (aq (eO 0 11 (am (p1 df) (ae (ad 5) aj)))
 (gL lI (ae (ad 1) (ae (ad 2) (ae (mC (.bl false)) aj))))))))))))
def wU:List PV->Res PV:=iH 6 xC
def sm:MS :=
 (aq (aF 3 (bV aj))
 (aq (cJ (bx (ae (ad 1) aj)) (tgN 4)
  (aq (aF 3 (mOp ay (bV (ae (mOp bT (ad 0) (ad 2)) aj)) (ad 3)))
 (aF 0 (mOp cH (ad 0) (ad 2)))))
 (e7 3)))
def rN:List PV->Res PV:=bg 5 sm
def sk:MS :=
 (aq (aF 4 (bV aj))
 (aq (cJ (bx (ae (am (p1 cT) (ae (ad 0) aj)) aj)) (tgN 5)
  (aq (aF 6 (mOp aC (ad 0) (mOp la (ad 5) (mC (.int (1))))))
 (aq (aF 7 (mOp aC (ad 0) (mOp bT (mOp ay (ad 5) (mC (.int (1)))) (am (p1 cT) (ae (ad 0) aj)))))
 (aq (aF 8 (mOp ay (mOp ay (mOp bS (mOp bS (mOp aC (ad 0) (ad 5)) (ad 1)) (ad 1)) (mOp bS (ad 6) (ad 1))) (ad 7)))
 (bY 4 (mOp aC (mOp hJ (bV (ae (ad 3) (ae (ad 2) aj))) (am (p1 dh) (ae (mOp pEq (ad 5) (mC (.int (0)))) aj))) (ad 8)))))))
 (e7 4)))
def rM:List PV->Res PV:=bg 9 sk
def oQ:MS :=
 (aq (aF 3 (bv [1,0] 1 (bx (ae (am (p1 cT) (ae (ad 0) aj)) aj)) (tgN 2) (ax (mOp pNe (mOp aC (ad 0) (ad 2)) (mOp aC (ad 1) (ad 2)))) (ad 2)))
 (aq (aF 4 (bV aj))
 (aq (mBr (cV (aX (ad 2)))
  (aq (gN 3) (aq (cJ (cC (ad 3)) (tgN 5)
  (bY 4 (jv (ae (bV (ae (ad 5) aj)) (ae (mOp ay (mOp ay (bN (ad 0) bB (cD (ad 5))) (bV (ae (mOp aC (ad 1) (ad 5)) aj))) (bN (ad 0) (cD (mOp ay (ad 5) (mC (.int (1))))) bB)) aj)))))
 (e7 4)))
  aK)
 (aq (aF 4 (bV (ae (jv (ae (bV aj) (ae (am (p1 gf) (ae (ad 0) aj)) aj))) aj)))
 (aq (gN 3) (aq (cJ (cC (ad 3)) (tgN 5)
  (aq (aF 6 (bV aj))
 (aq (gN 4) (aq (cJ (cC (ad 4)) (tgT 2 (b7 (tgN 7) (b7 (tgN 8) iB)))
  (bY 6 (jv (ae (mOp ay (ad 7) (bV (ae (ad 5) aj))) (ae (mOp ay (mOp ay (bN (ad 8) bB (cD (ad 5))) (bV (ae (mOp aC (ad 1) (ad 5)) aj))) (bN (ad 8) (cD (mOp ay (ad 5) (mC (.int (1))))) bB)) aj)))))
 (aq (gN 6) (aF 4 (mOp ay (ad 4) (ad 6))))))))
 (bA (bN (ad 4) (cD (mC (.int (1)))) bB))))))))
def rO:List PV->Res PV:=bg 9 oQ
def si:MS :=
 (mBr ((jS (aX (ad 1)) (aX (mUn (az 8) (ad 0)))))
  (aQ 4 (ae (mC (.str "a rule that is alone gets one machine at a turn")) aj))
  aK)
def uk:List PV->Res PV:=bg 2 si
def zA:MS :=
 (bA (mOp aC (ad 1) (ad 2)))
def ve:List PV->Res PV:=bg 3 zA
def xl:MS :=
 (bA (am (p1 gf) (ae (mOp aC (mUn (az 2) (ad 0)) (ad 1)) aj)))
def uj:List PV->Res PV:=bg 2 xl
def c_:Nat->Option (List PV->Res PV)
 | 3=>some uj
 | _=>none
def xD:MS :=
 (bA ((jT (mOp pNe (ad 1) (mUn (az 3) (ad 0))) (mOp pNe (mOp bT (mOp ay (ad 1) (mC (.int (1)))) (mUn (az 6) (ad 0))) (mC (.int (0)))))))
def rQ:List PV->Res PV:=bg 2 xD
def cv:Nat->Option (List PV->Res PV)
 | 1 | 2=>some rQ
 | _=>none
def xB:MS :=
 (aq (aF 3 (bv [1] 1 (eJ (fQ c_ (mUn (az 4) (ad 0)) (ae (ad 2) aj))) (tgN 1) bI (mOp aC (ad 0) (ad 1))))
 (aq (aF 4 (bv [0] 1 (eJ (ad 3)) (tgN 1) (aX (fQ cv (ad 0) (ae (ad 1) aj))) (mOp ay (ad 1) (mC (.int (1))))))
 (aq (mBr (ax (mOp g_ (mOp aC (mUn (az 5) (ad 0)) (ad 2)) (mC .non)))
  (bY 4 (mOp aC (mUn (az 5) (ad 0)) (ad 2)))
  aK)
 (bA (am (p1 (dF eM)) (ae (mOp ay (ad 4) (bV (ae (mUn (az 3) (ad 0)) aj))) aj))))))
def rK:List PV->Res PV:=bg 5 xB
def xA:MS :=
 (aq (aF 3 (mOp aC (ad 1) (mOp bT (mOp la (ad 2) (mC (.int (1)))) (mUn (az 0) (ad 0)))))
 (aq (aF 4 (mOp aC (ad 1) (mOp bT (mOp ay (ad 2) (mC (.int (1)))) (mUn (az 0) (ad 0)))))
 (aq (aF 5 (mOp ay (mOp ay (mOp bS (mOp bS (mOp aC (ad 1) (ad 2)) (mUn (az 7) (ad 0))) (mUn (az 7) (ad 0))) (mOp bS (ad 3) (mUn (az 7) (ad 0)))) (ad 4)))
 (bA (lv (ax (mOp pEq (ad 2) (mC (.int (0))))) (mOp aC (mUn (az 10) (ad 0)) (ad 5)) (mOp aC (mUn (az 11) (ad 0)) (ad 5)))))))
def wT:List PV->Res PV:=bg 6 xA
def bp:Nat->Option (List PV->Res PV)
 | 0=>some ve
 | 1 | 2=>some rK
 | 4=>some wT
 | _=>none
def xp:MS :=
 (bA (bv [0,1] 1 (bx (ae (mUn (az 0) (ad 0)) aj)) (tgN 2) (ax (mOp pNe (fQ bp (ad 0) (ae (ad 1) (ae (ad 2) aj))) (mOp aC (ad 1) (ad 2)))) (ad 2)))
def lG:List PV->Res PV:=bg 2 xp
def bc:Nat->Option (List PV->Res PV)
 | 0 | 1 | 2 | 4=>some lG
 | _=>none
def sj:MS :=
 (aq (aF 1 (bV (ae (bV aj) aj)))
 (aq (cJ (cC (ad 0)) (tgN 2)
  (eZ 1 (bv [2] 1 (eJ (ad 1)) (tgN 1) bI (mOp ay (ad 1) (bV (ae (ad 0) aj))))))
 (gp 1 1)))
def oJ:List PV->Res PV:=bg 3 sj
def xr:MS :=
 (aq (mBr ((jS (aX (mUn (az 8) (ad 0))) (ax (mOp pGt (am (p1 cT) (ae (ad 1) aj)) (mC (.int (1)))))))
  (aQ 4 (ae (mC (.str "a rule that is alone gets one machine at a turn")) aj))
  aK)
 (aq (cJ (cC (ad 1)) (tgN 2)
  (mBr ((dL (ax (mOp pLt (ad 2) (mC (.int (0))))) (ax (mOp pGe (ad 2) (mUn (az 0) (ad 0))))))
  (aQ 4 (ae (mC (.str "a name is no machine")) aj))
  aK))
 (mBr (ax (mOp pNe (mUn gg (ad 1)) (am (p1 cT) (ae (ad 1) aj))))
  (aQ 4 (ae (mC (.str "a machine is named twice")) aj))
  aK)))
def wP:List PV->Res PV:=bg 3 xr
def xq:MS :=
 (aq (cY (am (au wP) (ae (ad 0) (ae (ad 2) aj))))
 (bA (bv [2,0,1] 1 (bx (ae (mUn (az 0) (ad 0)) aj)) (tgN 3) bI (lv (ax (mOp pIn (ad 3) (ad 0))) (fQ bp (ad 1) (ae (ad 2) (ae (ad 3) aj))) (mOp aC (ad 2) (ad 3))))))
def lH:List PV->Res PV:=bg 3 xq
def aL:Nat->Option (List PV->Res PV)
 | 0 | 1 | 2 | 4=>some lH
 | _=>none
def lY:MS :=
 (aq (cY (am (au uk) (ae (ad 0) (ae (ad 2) aj))))
 (aq (aF 3 (fQ bc (ad 0) (ae (ad 1) aj)))
 (aq (aF 4 (lv (aX (ad 2)) (am (au oJ) (ae (ad 3) aj)) (bv [] 1 (eJ (ad 3)) (tgN 0) bI (bV (ae (ad 0) aj)))))
 (gM 4 [0,1] (fQ aL (ad 0) (ae (ad 1) (ae (ad 2) aj)))))))
def gv:List PV->Res PV:=bg 5 lY
def ss:MS :=
 (bA ((jT (kO (ad 0) "int") (ox (kO (ad 0) "bool")))))
def rP:List PV->Res PV:=bg 1 ss
def xu:MS :=
 (aq (mBr ((dL (cV (aX (kO (ad 0) "list"))) (ax (mOp pNe (am (p1 cT) (ae (ad 0) aj)) (am (p1 cT) (ae (ad 1) aj))))))
  (bA (mC (.bl false)))
  aK)
 (aq (cJ (hZ (ae (ad 0) (ae (ad 1) aj))) (tgT 2 (b7 (tgN 2) (b7 (tgN 3) iB)))
  (mBr ((dL (cV (aX (am (au rP) (ae (ad 2) aj)))) (ax (mOp pNe (ad 2) (ad 3)))))
  (bA (mC (.bl false)))
  aK))
 (bA (mC (.bl true)))))
def um:List PV->Res PV:=bg 4 xu
def sr:MS :=
 (aq (mBr ((dL (cV (aX (kO (ad 0) "list"))) (ax (mOp pNe (am (p1 cT) (ae (ad 0) aj)) (am (p1 cT) (ae (ad 1) aj))))))
  (bA (mC (.bl false)))
  aK)
 (aq (cJ (hZ (ae (ad 0) (ae (ad 1) aj))) (tgT 2 (b7 (tgN 2) (b7 (tgN 3) iB)))
  (aq (mBr ((dL (cV (aX (kO (ad 2) "tuple"))) (ax (mOp pNe (am (p1 cT) (ae (ad 2) aj)) (mC (.int (2)))))))
  (bA (mC (.bl false)))
  aK)
 (mBr ((dL (cV (aX (am (au um) (ae (mOp aC (ad 2) (mC (.int (0)))) (ae (mOp aC (ad 3) (mC (.int (0)))) aj))))) (cV (aX (am (au um) (ae (mOp aC (ad 2) (mC (.int (1)))) (ae (mOp aC (ad 3) (mC (.int (1)))) aj)))))))
  (bA (mC (.bl false)))
  aK)))
 (bA (mC (.bl true)))))
def jd:List PV->Res PV:=bg 4 sr
def xj:MS :=
 (aq (aF 4 (am (p1 gf) (ae (ad 1) aj)))
 (aq (aF 5 (am (au rO) (ae (ad 1) (ae (ad 2) (ae (ad 3) aj)))))
 (aq (mBr (aX (ad 3))
  (aF 6 (am (fun xs=>au gv (xs++[.bl true])) (ae (ad 0) (ae (ad 4) aj))))
  (aq (aF 6 (am (fun xs=>au gv (xs ++ [.bl false])) (ae (ad 0) (ae (ad 4) aj))))
 (mBr (cV (aX (mFz (am (au jd) (ae (mFz (am (au gv) (ae (ad 0) (ae (ad 4) (ae (mC (.bl false)) aj))))) (ae (ad 5) aj))))))
  (bA (mC (.bl false)))
  aK)))
 (aq (mBr ((dL (cV (aX (am (au jd) (ae (ad 6) (ae (ad 5) aj))))) (ax (mOp pNe (ad 4) (ad 1)))))
  (bA (mC (.bl false)))
  aK)
 (aq (i5 6 7 8 (0))
 (aq (gO 6)
 (bA (mFz (am (au jd) (ae (mFz (am (au gv) (ae (ad 0) (ae (ad 4) (ae (ad 3) aj))))) (ae (ad 5) aj)))))))))))
def pO:List PV->Res PV:=bg 9 xj
def A4:MS :=
 (mBr ((dL (ax (mOp pLt (ad 0) (ad 1))) (ax (mOp pGt (ad 0) (mC (.int (10)))))))
  (aQ 1 (ae (mC (.str "the number of machines is out of bounds")) aj))
  aK)
def wN:List PV->Res PV:=bg 2 A4
def A8:MS :=
 (aq (aF 2 (bV aj))
 (aq (cJ (cC (ad 1)) (tgN 3)
  (aq (aF 4 (jv (ae (am (p1 (dF eM)) (ae (ad 3) aj)) (ae (am (p1 (dF ig)) (ae (ad 3) aj)) aj))))
 (aq (mBr ((dL (ax (mOp pLt (mOp aC (ad 4) (mC (.int (0)))) (mC (.int (0))))) (ax (mOp pGe (mOp aC (ad 4) (mC (.int (1)))) (ad 0)))))
  (aQ 1 (ae (mC (.str "a way has a number that is no machine")) aj))
  aK)
 (aq (mBr (ax (mOp pEq (mOp aC (ad 4) (mC (.int (0)))) (mOp aC (ad 4) (mC (.int (1))))))
  (aQ 1 (ae (mC (.str "a way has twice the same machine")) aj))
  aK)
 (aq (mBr (ax (mOp pIn (ad 4) (ad 2)))
  (aQ 1 (ae (mC (.str "a way is told twice")) aj))
  aK)
 (bY 2 (ad 4)))))))
 (bA (am (p1 ge) (ae (ad 2) aj)))))
def zw:List PV->Res PV:=bg 5 A8
def A3:MS :=
 (aq (aF 2 (bv [1] 1 (eJ (ad 0)) (tgN 1) (ax (mOp pEq (mOp aC (ad 1) (mC (.int (1)))) (ad 0))) (mOp aC (ad 1) (mC (.int (0))))))
 (aq (aF 3 (bv [1] 1 (eJ (ad 0)) (tgN 1) (ax (mOp pEq (mOp aC (ad 1) (mC (.int (0)))) (ad 0))) (mOp aC (ad 1) (mC (.int (1))))))
 (bA (am (p1 ge) (ae (mOp ay (ad 2) (ad 3)) aj)))))
def zu:List PV->Res PV:=bg 4 A3
def zD:MS :=
 (aq (aF 2 (bv [0] 1 (bx (ae (mUn (az 0) (ad 0)) aj)) (tgN 1) bI (mUn (az 0) (ad 0))))
 (aq (e6 2 (ad 1) (mC (.int (0))))
 (aq (cJ (bx (ae (mUn (az 0) (ad 0)) aj)) (tgN 3)
  (cJ (bx (ae (mUn (az 0) (ad 0)) aj)) (tgN 4)
  (mBr (ax (mOp pEq (mOp aC (ad 2) (ad 4)) (ad 3)))
  (cJ (cC (fQ c_ (ad 0) (ae (ad 4) aj))) (tgN 5)
  (e6 2 (ad 5) (am (ef min) (ae (mOp aC (ad 2) (ad 5)) (ae (mOp ay (ad 3) (mC (.int (1)))) aj)))))
  aK)))
 (e7 2))))
def vg:List PV->Res PV:=bg 6 zD
def zB:MS :=
 (aq (cY (am (au wN) (ae (ad 1) (ae (mC (.int (1))) aj))))
 (aq (eO 0 0 (ad 1))
 (aq (eO 0 1 (am (p1 df) (ae (am (au zw) (ae (ad 1) (ae (ad 2) aj))) aj)))
 (aq (eO 0 2 (am (p1 df) (ae (bv [0] 1 (bx (ae (ad 1) aj)) (tgN 1) bI (am (p1 df) (ae (am (au zu) (ae (mUn (az 1) (ad 0)) (ae (ad 1) aj))) aj))) aj)))
 (mBr (ax (mOp pEq (am (p1 (dF ig)) (ae (am (au vg) (ae (ad 0) (ae (mC (.int (0))) aj))) aj)) (ad 1)))
  (aQ 1 (ae (mC (.str "not every machine can be come to from machine 0")) aj))
  aK)))))
def vf:List PV->Res PV:=iH 3 zB
def zz:MS :=
 (aq (cY (am (au wN) (ae (ad 0) (ae (mC (.int (1))) aj))))
 (bA (mY 3 vf (ae (ad 0) (ae (bv [] 1 (bx (ae (mOp la (ad 0) (mC (.int (1)))) aj)) (tgN 0) bI (jv (ae (ad 0) (ae (mOp ay (ad 0) (mC (.int (1)))) aj)))) aj)))))
def rL:List PV->Res PV:=bg 1 zz
def A5:MS :=
 (mBr ((dL (ax (mOp pLt (ad 0) (mC (.int (1))))) (ax (mOp pGt (ad 0) (mC (.int (10)))))))
  (aQ 2 (ae (mC (.str "the stretch or the number of blocks is out of bounds")) aj))
  aK)
def wO:List PV->Res PV:=bg 1 A5
def A7:MS :=
 (aq (mBr (ax (mOp pNe (am (p1 cT) (ae (ad 1) aj)) (mUn (az 0) (ad 0))))
  (aQ 2 (ae (mC (.str "there are not as many starts as machines")) aj))
  aK)
 (cJ (cC (ad 1)) (tgN 3)
  (mBr ((jS (ax (mOp g_ (ad 3) (mC .non))) ((dL (ax (mOp pLt (ad 3) (mC (.int (0))))) (ax (mOp pGe (ad 3) (ad 2)))))))
  (aQ 2 (ae (mC (.str "a start is out of bounds")) aj))
  aK)))
def zv:List PV->Res PV:=bg 4 A7
def A9:MS :=
 (aq (cY (am (au wO) (ae (ad 3) aj)))
 (aq (cY (am (au wO) (ae (ad 4) aj)))
 (aq (eO 0 3 (mOp bS (ad 3) (ad 4)))
 (aq (cY (am (au zv) (ae (ad 1) (ae (ad 2) (ae (mUn (az 3) (ad 0)) aj)))))
 (aq (gN 1) (aq (eO 0 4 (ad 1))
 (aq (eO 0 5 (am (p1 df) (ae (ad 2) aj)))
 (aq (eO 0 6 (ad 3))
 (gL lI (ae (mUn (az 0) (ad 1)) (ae (mOp ay (mUn (az 3) (ad 0)) (mC (.int (1)))) (ae (mC (.bl true)) aj))))))))))))
def zx:List PV->Res PV:=iH 5 A9
def A6:MS :=
 (aq (mBr ((dL (ax (mOp pLt (ad 2) (mC (.int (0))))) (ax (mOp pGe (ad 2) (mUn (az 0) (ad 1))))))
  (aQ 2 (ae (mC (.str "the root is no machine")) aj))
  aK)
 (aq (aF 3 (bv [2] 1 (bx (ae (mUn (az 0) (ad 1)) aj)) (tgN 1) bI (lv (ax (mOp pEq (ad 1) (ad 0))) (mC (.int (0))) (mC .non))))
 (aq (gN 3) (aq (gN 1) (gL zx (ae (ad 1) (ae (ad 3) (ae (mUn (az 0) (ad 1)) (ae (mC (.int (1))) aj)))))))))
def wS:List PV->Res PV:=iH 4 A6
def xw:MS :=
 (aq (aF 2 (bV aj))
 (aq (cJ (bx (ae (am (p1 cT) (ae (ad 0) aj)) aj)) (tgN 3)
  (aq (aF 4 (am (p1 cT) (ae (ad 0) aj)))
 (aq (mBr (ax (mOp pGt (ad 3) (mC (.int (0)))))
  (aF 4 (am (ef min) (ae (ad 4) (ae (mOp ay (mOp aC (ad 0) (mOp la (ad 3) (mC (.int (1))))) (mC (.int (1)))) aj))))
  aK)
 (aq (mBr (ax (mOp pLt (ad 3) (mOp la (am (p1 cT) (ae (ad 0) aj)) (mC (.int (1))))))
  (aF 4 (am (ef min) (ae (ad 4) (ae (mOp ay (mOp aC (ad 0) (mOp ay (ad 3) (mC (.int (1))))) (mC (.int (1)))) aj))))
  aK)
 (bY 2 (mOp bS (ad 4) (am (p1 dh) (ae (mOp pNe (ad 3) (ad 1)) aj))))))))
 (e7 2)))
def wR:List PV->Res PV:=bg 5 xw
def xt:MS :=
 (aq (ow (cY (am (au gv) (ae (ad 0) (ae (ad 1) (ae (mC (.bl true)) aj))))) pN
  (bA (mC (.bl true))) aK)
 (bA (mC (.bl false))))
def wQ:List PV->Res PV:=bg 2 xt
def sy:MS :=
 (aq (aF 1 (am (au eP) (ae (ad 0) (ae (mC (.int (0))) aj))))
 (aq (aF 2 (mOp ay (mC (.int (2))) (mOp bT (ad 1) (mC (.int (4))))))
 (aq (aF 3 (mOp ay (mC (.int (2))) (mOp bT (mOp cH (ad 1) (mC (.int (4)))) (mC (.int (3))))))
 (aq (aF 4 (mC (.int (6))))
 (aq (mBr (ax (mOp pEq (mOp bT (mOp cH (ad 1) (mC (.int (12)))) (mC (.int (8)))) (mC (.int (3)))))
  (aq (aF 2 (mC (.int (8))))
 (aq (aF 3 (mC (.int (2))))
 (aF 4 (mC (.int (1))))))
  aK)
 (aq (q_ (tgT 2 (b7 (tgN 5) (b7 (tgN 6) iB))) (am (au wM) (ae (ad 0) (ae (ad 3) aj))))
 (aq (aF 7 (mY 4 wU (ae (ad 2) (ae (ad 3) (ae (mOp aC (bV (ae (mC (.str "none")) (ae (mC (.str "one")) aj))) (mOp bT (ad 1) (mC (.int (2))))) (ae (ad 5) (ae (ad 6) aj)))))))
 (aq (cJ (cC (bN (mOp ay (bN (ad 0) (cD (mC (.int (4)))) bB) (bN (ad 0) (cD (mC (.int (1)))) (cD (mC (.int (4)))))) bB (cD (ad 4)))) (tgN 8)
  (aq (aF 9 (am (au rN) (ae (mOp bT (mOp cH (ad 8) (mC (.int (7)))) (mC (.int (65536)))) (ae (ad 2) (ae (ad 3) aj)))))
 (aq (aF 10 (am (au rM) (ae (ad 9) (ae (ad 3) (ae (ad 5) (ae (ad 6) aj))))))
 (mBr ((dL (cV (aX (am (au pO) (ae (ad 7) (ae (ad 9) (ae (ad 10) (ae (mOp pEq (mOp bT (ad 8) (mC (.int (2)))) (mC (.int (1)))) aj))))))) (cV (aX (am (au pO) (ae (ad 7) (ae (ad 9) (ae (ad 10) (ae (mOp pEq (mOp bT (ad 8) (mC (.int (2)))) (mC (.int (0)))) aj)))))))))
  (bA (mC (.bl false)))
  aK))))
 (aq (aF 11 (mOp ay (mC (.int (1))) (mOp bT (am (au eP) (ae (ad 0) (ae (mC (.int (1))) aj))) (mC (.int (8))))))
 (aq (aF 12 (mOp bT (mOp cH (am (au eP) (ae (ad 0) (ae (mC (.int (1))) aj))) (mC (.int (8)))) (ad 11)))
 (aq (aF 13 (mY 2 wS (ae (am (au rL) (ae (ad 11) aj)) (ae (ad 12) aj))))
 (aq (aF 9 (bv [0,11] 1 (bx (ae (ad 11) aj)) (tgN 2) bI (mOp bT (mOp ay (mOp cH (am (au eP) (ae (ad 0) (ae (mOp ay (mC (.int (2))) (ad 2)) aj))) (mOp ay (ad 2) (mC (.int (1))))) (ad 2)) (mOp ay (ad 1) (mC (.int (1)))))))
 (aq (aF 10 (am (au wR) (ae (ad 9) (ae (ad 12) aj))))
 (aq (mBr ((dL (cV (aX (am (au pO) (ae (ad 13) (ae (ad 9) (ae (ad 10) (ae (mC (.bl false)) aj))))))) (cV (aX (am (au wQ) (ae (ad 13) (ae (ad 9) aj)))))))
  (bA (mC (.bl false)))
  aK)
 (bA (am (au pO) (ae (ad 13) (ae (ad 9) (ae (ad 10) (ae (mC (.bl false)) aj))))))))))))))))))))
def vh:List PV->Res PV:=bg 14 sy
end G
namespace G
open PySem L2 PR
def top(i:Nat):Stmt:=PySem.Challenge.pw_calmring_k33_nexts.main.body.getD i (.Pass ⟨0,0,0,0⟩)
def tF(q:Str)(i k:Nat)(N:List Str):FS:=⟨q,top i,k,N,none⟩
def tM(c:Nat)(q:Str)(i j k:Nat)(N:List Str):FS:=⟨q,ue (top i) j,k,N,some c⟩
def mE(c:Nat)(n:Str)(i:Nat):Nat×Str×Nat:=(c,n,i)
def pt:PT:={
 F:=[tF "_law_cell_at" 38 2 ["_law_script", "_law_k"],
  tF "_law_entry" 40 4 ["_law_kind", "_law_span", "_law_place", "_law_cell", "_law_own", "_law_left", "_law_number"],
  tF "_law_tables" 41 2 ["_law_script", "_law_span", "_law_cell", "_law_crowd", "_law_firsts", "_law_others", "_law_one", "_law_place"],
  tF "refuse_table" 36 2 ["table", "span", "number"],
  tM 0 "Rule.__init__" 12 0 4 ["self", "size", "span", "alone"],
  tM 4 "TableRule.__init__" 35 0 6 ["self", "size", "span", "word", "firsts", "others"],
  tF "_law_cells" 42 3 ["_law_number", "_law_size", "_law_span", "_law_cells_here", "_law_k"],
  tF "_law_dues" 43 4 ["_law_cells_here", "_law_span", "_law_firsts", "_law_others", "_law_dues_here", "_law_at", "_law_left", "_law_right_here", "_law_place"],
  tF "_law_nexts" 45 3 ["_law_cells_here", "_law_dues_here", "_law_crowd", "_law_movers", "_law_rows", "_law_mover", "_law_more", "_law_named", "_law_behind"],
  tF "refuse_many" 9 2 ["rule", "many"],
  tM 0 "Rule.due" 12 2 3 ["self", "cells", "at"],
  tM 3 "Net.beside" 23 1 2 ["self", "at"],
  tM 1 "LeastRule.has_offer" 16 2 2 ["self", "cell"],
  tM 1 "LeastRule.due" 16 1 3 ["self", "cells", "at", "near", "offers"],
  tM 4 "TableRule.due" 35 1 3 ["self", "cells", "at", "left", "right", "entry"],
  tM 0 "Rule.movers" 12 3 2 ["self", "cells"],
  tF "sets_of" 10 1 ["movers", "sets", "at"],
  tF "refuse_turn" 13 2 ["rule", "named", "at"],
  tM 0 "Rule.turned" 12 5 3 ["self", "cells", "named"],
  tF "_law_whole" 39 1 ["_law_found"],
  tF "_law_numbers" 46 2 ["_law_found", "_law_due", "_law_one", "_law_other"],
  tF "_law_alike" 47 2 ["_law_found", "_law_due", "_law_one", "_law_other"],
  tF "_law_right" 48 4 ["_law_rule", "_law_cells_here", "_law_dues_here", "_law_crowd", "_law_handed", "_law_due", "_law_found", "_law_named", "_law_behind"],
  tF "refuse_size" 26 2 ["size", "least"],
  tF "ordered_pairs" 27 2 ["size", "ways", "pairs", "way", "pair"],
  tF "neighbours" 28 2 ["pairs", "at", "lower", "higher"],
  tF "far_from" 25 2 ["net", "root", "far", "steps", "at", "other"],
  tM 3 "Net.__init__" 23 0 3 ["self", "size", "ways"],
  tF "line" 24 1 ["size"],
  tF "refuse_part" 18 1 ["part"],
  tF "refuse_starts" 19 3 ["net", "starts", "top", "start"],
  tM 1 "LeastRule.__init__" 16 0 5 ["self", "net", "starts", "stretch", "blocks"],
  tM 2 "FarRule.__init__" 17 0 3 ["self", "net", "root", "starts"],
  tF "_law_far_dues" 44 2 ["_law_cells_here", "_law_root", "_law_dues_here", "_law_at", "_law_due"],
  tF "_law_refused" 49 2 ["_law_rule", "_law_cells_here"],
  tF "law" 50 1 ["_law_script", "_law_head", "_law_size", "_law_span", "_law_most", "_law_firsts", "_law_others", "_law_rule", "_law_cell", "_law_cells_here", "_law_dues_here", "_law_long", "_law_root", "_law_far"]]
 C:=["Rule", "LeastRule", "FarRule", "Net", "TableRule"]
 X:=["CalmError", "BadNet", "BadRule", "BadState", "BadTurn"]
 A:=["size", "pairs", "near", "top", "net", "starts", "stretch", "span", "alone", "calm_movers", "firsts", "others"]
 M:=[mE 3 "beside" 11,mE 1 "has_offer" 12,mE 2 "has_offer" 12,mE 0 "due" 10,mE 1 "due" 13,mE 2 "due" 13,mE 4 "due" 14,mE 0 "movers" 15,mE 1 "movers" 15,mE 2 "movers" 15,mE 4 "movers" 15,mE 0 "turned" 18,mE 1 "turned" 18,mE 2 "turned" 18,mE 4 "turned" 18]
 Mk:=[(2,32),(3,27),(4,5)]
 U:=[(1,31),(0,4)]
 B:=["len", "range", "int", "min", "tuple", "list", "set", "isinstance", "zip", "bool", "max", "sorted"]
 I:=[("LEAST_RING", 2),("GREATEST_RING", 8),("LEAST_SPAN", 2),("GREATEST_SPAN", 4),("GREATEST_NET", 10),("LEAST_NET", 1),("GREATEST_PART", 10)]
 KT:=[]
 HT:=[(4,[false,false,false,false,true])] }
def pe:PE:=⟨[(tF "nexts" 8 3 ["rule", "cells", "many", "movers", "turns"],false)],[("CALM_MOVERS", [("none",(0)),("one",(1))])]⟩
theorem hA:pt.attOk:=⟨by decide +kernel,by decide +kernel⟩
abbrev T(K:PySem.W.Frag):Tb:=pt.T hA K
section
variable{P:Program}{w:World}{K:PySem.W.Frag}{mg:Str->Option Value}{base:Heap}(t:Ty pt pe w K mg)(hB:K.In base)
include t hB
theorem iY:OkF pt hA P w K mg base 1 0 eP:=okC 0 t.tx fun _ _ _ _ _ _ cx nd =>
 (af (aM (eF (sv 1) (bR cx.hK rfl (t.tx.b 0) (sv 0))) (ai (aI (bD cx (sv 0) (sv 1) (fun _ _=>rfl)))) aA)
 (ai (aI (ah))))
theorem uV:OkF pt hA P w K mg base 1 1 pP:=okC 1 t.tx fun _ _ _ _ _ _ cx nd =>
 (af (aY nd (cW (sv 2) (bz (sv 1) (sv 1))))
 (af (aY nd (aR (cW (sv 2) (sv 1)) (sv 1)))
 (af (aM (eG cx.hK cx.hu (sv 0) (ah)) (ai (d5 rfl (Or.inl rfl))) aA)
 (af (aM (eG cx.hK cx.hu (sv 0) (ah)) (ai (d5 rfl (Or.inl rfl))) aA)
 (af (aM (eG cx.hK cx.hu (sv 0) (ah)) (ai (aI (aR (aB (sv 4) (iG rfl (t.tx.b 2) (nO cx.hK cx.hu (sv 4) (sv 5)))) (sv 1)))) aA)
 (af (aY nd (bz (aB (aB (aR (sv 3) (ah)) (ah)) (sv 2)) (aB (aB (aR (sv 3) (ah)) (ah)) (bz (ah) (sv 2)))))
 (af (aY nd (aR (bz (sv 6) (ah)) (ah)))
 (af (aM (eG cx.hK cx.hu (sv 0) (ah)) (ai (aI (io cx.calm rfl (t.tx.b 3) (ac (sv 4) (ac (aR (sv 6) (sv 1)) ag))))) aA)
 (ai (aI (aR (sv 6) (sv 1))))))))))))
theorem yO:OkF pt hA P w K mg base 2 2 wM:=okC 2 t.tx fun _ _ _ _ _ _ cx nd =>
 (af (aY nd (cW (aP t.tx (iY t hB) cx (ac (sv 0) (ac (ah) ag))) (ah)))
 (af (aY nd (bz (bz (sv 1) (sv 1)) (sv 1)))
 (af (fF ["_law_place"] cx nd (bt rfl (t.tx.b 1) (ac (sv 3) ag)) fD (fun _ _ _ _ nd=>⟨(sgN nd),b8,(aP t.tx (uV t hB) cx.comp (ac (aR (sv 0) (ah)) (ac (sv 1) (ac (sv 3) (ac (aP t.tx (iY t hB) cx.comp (ac (sv 2) (ac (ah) ag))) ag)))))⟩))
 (af (fF ["_law_place"] cx nd (bt rfl (t.tx.b 1) (ac (sv 3) ag)) fD (fun _ _ _ _ nd=>⟨(sgN nd),b8,(aP t.tx (uV t hB) cx.comp (ac (aR (cW (sv 0) (ah)) (ah)) (ac (sv 1) (ac (sv 3) (ac (aP t.tx (iY t hB) cx.comp (ac (sv 2) (ac (ah) ag))) ag)))))⟩))
 (af (bG cx.po cx.calm (de cx.hK (b9 cx.hK (sv 0) (cN (ah)) dD)) (sgN nd) (af (aY nd (aR (sv 6) (bz (ah) (sv 3))))
 (ai (aM (eF (sv 7) (sv 3)) (ai (fW rfl (Or.inl rfl) (sv 7) (aR (cW (sv 6) (bz (ah) (sv 3))) (sv 1)))) (ai (fW rfl (Or.inl rfl) (gE (sv 7) (sv 3)) (aR (cW (sv 6) (bz (ah) (sv 3))) (sv 1))))))))
 (ai (qb rfl (Or.inl rfl) rfl (Or.inl rfl))))))))
theorem uZ:OkF pt hA P w K mg base 1 3 uo:=okC 3 t.tx fun _ _ _ _ _ _ cx nd =>
 (af (aM (fE cx.hK cx.hu (bR cx.hK rfl (t.tx.b 0) (sv 0)) (bz (bz (sv 1) (sv 1)) (sv 1))) (ai (bH 2 t.tx cx hB bF (ac (bw) ag))) aA)
 (ai (bG cx.po cx.calm (de cx.hK (sv 0)) (sgN nd) (ai (aM (SW.st (cP (eF (sv 2) (ah)) (bL (kR (sv 2) (sv 1))))) (ai (bH 2 t.tx cx hB bF (ac (bw) ag))) aA)))))
theorem qQ:OkI pt hA P w K mg base 1 4 lI:=okI 4 t.tx fun _ _ _ _ _ _ cx nd =>
 (af (sFld 0 t.tx cx (sv 1))
 (af (sFld 7 t.tx cx (sv 2))
 (ai (sFld 8 t.tx cx (sv 3)))))
theorem yZ:OkI pt hA P w K mg base 3 5 wU:=okI 5 t.tx fun _ _ _ _ _ _ cx nd =>
 (af (aM (SW.st (cP (eF (sv 1) (cS rfl (t.tx.c 0))) (bL (jH (sv 1) (cS rfl (t.tx.c 1)))))) (ai (bH 2 t.tx cx hB bF (ac (bw) ag))) aA)
 (af (aM (SW.st (cP (eF (sv 2) (cS rfl (t.tx.c 2))) (bL (jH (sv 2) (cS rfl (t.tx.c 3)))))) (ai (bH 2 t.tx cx hB bF (ac (bw) ag))) aA)
 (af (aM (oX rfl (t.gm 0) (t.gd 0) (sv 3)) (ai (bH 2 t.tx cx hB bF (ac (bw) ag))) aA)
 (af (cM (aP t.tx (uZ t hB) cx (ac (sv 4) (ac (sv 2) ag))))
 (af (cM (aP t.tx (uZ t hB) cx (ac (sv 5) (ac (sv 2) ag))))
 (af (sFld 9 t.tx cx (sY rfl (t.gm 0) (t.gd 0) (sv 3) (fun _ _=>rfl)))
 (af (sFld 10 t.tx cx (dR cx.hK rfl (t.tx.b 4) dy (sv 4)))
 (af (sFld 11 t.tx cx (dR cx.hK rfl (t.tx.b 4) dy (sv 5)))
 (ai (vF 0 t.tx (qQ t hB) cx (ac (sv 1) (ac (sv 2) (ac (b_) ag)))))))))))))
theorem wp:OkF pt hA P w K mg base 1 6 rN:=okC 6 t.tx fun _ _ _ _ _ _ cx nd =>
 (af (aY nd (dS ag))
 (af (bG cx.po cx.calm (dQ rfl (t.tx.b 1) (ac (sv 1) ag)) (sgN nd) (af (aY nd (aB (dS (ac (aR (sv 0) (sv 2)) ag)) (sv 3)))
 (ai (aY nd (cW (sv 0) (sv 2))))))
 (ai (d5 rfl (Or.inl rfl)))))
theorem wn:OkF pt hA P w K mg base 1 7 rM:=okC 7 t.tx fun _ _ _ _ _ _ cx nd =>
 (af (aY nd (dS ag))
 (af (bG cx.po cx.calm (dQ rfl (t.tx.b 1) (ac (bR cx.hK rfl (t.tx.b 0) (sv 0)) ag)) (sgN nd) (af (aY nd (bD cx (sv 0) (gE (sv 5) (ah)) (fun _ _=>rfl)))
 (af (aY nd (bD cx (sv 0) (aR (aB (sv 5) (ah)) (bR cx.hK rfl (t.tx.b 0) (sv 0))) (fun _ _=>rfl)))
 (af (aY nd (aB (aB (bz (bz (bD cx (sv 0) (sv 5) (fun _ _=>rfl)) (sv 1)) (sv 1)) (bz (sv 6) (sv 1))) (sv 7)))
 (ai (o7 cx (bD cx (sX cx.hK (dS (ac (sv 3) (ac (sv 2) ag))) (iG rfl (t.tx.b 2) (nO cx.hK cx.hu (sv 5) (ah))) (fun _ _=>rfl)) (sv 8) (fun _ _=>rfl))))))))
 (ai (d5 rfl (Or.inl rfl)))))
theorem wq:OkF pt hA P w K mg base 1 8 rO:=okC 8 t.tx fun _ _ _ _ _ _ cx nd =>
 (af (fF ["_law_at"] cx nd (bt rfl (t.tx.b 1) (ac (bR cx.hK rfl (t.tx.b 0) (sv 0)) ag)) fD (fun _ _ _ _ nd=>⟨(sgN nd),(fV (fE cx.comp.hK cx.comp.hu (bD cx.comp (sv 0) (sv 2) (fun _ _=>rfl)) (bD cx.comp (sv 1) (sv 2) (fun _ _=>rfl)))),(sv 2)⟩))
 (af (aY nd (dS ag))
 (af (aM (cF (aN cx.hK (sv 2))) (fK (i:=3) (af (bG cx.po cx.calm (de cx.hK (sv 3)) (sgN nd) (ai (o7 cx (qt (ac (dS (ac (sv 5) ag)) (ac (aB (aB (b9 cx.hK (sv 0) dD (cN (sv 5))) (dS (ac (bD cx (sv 1) (sv 5) (fun _ _=>rfl)) ag))) (b9 cx.hK (sv 0) (cN (aB (sv 5) (ah))) dD)) ag))))))
 (ai (d5 rfl (Or.inl rfl))))) aA)
 (af (aY nd (dS (ac (qt (ac (dS ag) (ac (kf cx.hK rfl (t.tx.b 5) gB (sv 0)) ag))) ag)))
 (fK (i:=3) (af (bG cx.po cx.calm (de cx.hK (sv 3)) (sgN nd) (af (aY nd (dS ag))
 (fK (i:=4) (af (bG cx.po cx.calm (de cx.hK (sv 4)) (ke cx.hK cx.calm (cQ nd rfl (Or.inl rfl) (cQ nd rfl (Or.inl rfl) ik))) (ai (o7 cx (qt (ac (aB (sv 7) (dS (ac (sv 5) ag))) (ac (aB (aB (b9 cx.hK (sv 8) dD (cN (sv 5))) (dS (ac (bD cx (sv 1) (sv 5) (fun _ _=>rfl)) ag))) (b9 cx.hK (sv 8) (cN (aB (sv 5) (ah))) dD)) ag))))))
 (fK (i:=6) (ai (aY nd (aB (sv 4) (sv 6)))))))))
 (ai (aI (b9 cx.hK (sv 4) (cN (ah)) dD)))))))))
theorem yQ:OkF pt hA P w K mg base 1 9 uk:=okC 9 t.tx fun _ _ _ _ _ _ cx nd =>
 (ai (aM (SW.st (mq (aN cx.hK (sv 1)) (ka (aN cx.hK (aZ 8 t.tx cx (sv 0)))))) (ai (bH 4 t.tx cx hB bF (ac (bw) ag))) aA))
theorem wj:OkF pt hA P w K mg base 1 10 ve:=okC 10 t.tx fun _ _ _ _ _ _ cx nd =>
 (ai (aI (bD cx (sv 1) (sv 2) (fun _ _=>rfl))))
theorem yN:OkF pt hA P w K mg base 1 11 uj:=okC 11 t.tx fun _ _ _ _ _ _ cx nd =>
 (ai (aI (kf cx.hK rfl (t.tx.b 5) gB (bD cx (aZ 2 t.tx cx (sv 0)) (sv 1) (fun _ _=>rfl)))))
omit t hB in
theorem eH{X:Cx}(t:Ty pt pe X.w X.K X.mg)(hB:X.K.In X.base):kL X (T X.K) 1 "beside" ["self", "at"] [] c_:=fun c _ hc e=>match c,hc,e with
 | 3,_,e=>dm 0 t.tx (yN t hB) e
 | 0,_,e | 1,_,e | 2,_,e | 4,_,e=>nomatch e
 | _+5,h,_=>dno (n:=5) h
theorem u8:OkF pt hA P w K mg base 1 12 rQ:=okC 12 t.tx fun _ _ _ _ _ _ cx nd =>
 (ai (aI ((qr (ql cx.hK cx.hu (sv 1) (aZ 3 t.tx cx (sv 0))) (qk (ql cx.hK cx.hu (aR (aB (sv 1) (ah)) (aZ 6 t.tx cx (sv 0))) (ah)))))))
omit t hB in
theorem eV{X:Cx}(t:Ty pt pe X.w X.K X.mg)(hB:X.K.In X.base):kL X (T X.K) 1 "has_offer" ["self", "cell"] [] cv:=fun c _ hc e=>match c,hc,e with
 | 1,_,e=>dm 1 t.tx (u8 t hB) e
 | 2,_,e=>dm 2 t.tx (u8 t hB) e
 | 0,_,e | 3,_,e | 4,_,e=>nomatch e
 | _+5,h,_=>dno (n:=5) h
theorem u7:OkF pt hA P w K mg base 2 13 rK:=okC 13 t.tx fun _ _ _ _ _ _ cx nd =>
 (af (fF ["other"] cx nd (fe cx.hK (mJ t.tx (eH t hB) cx (aZ 4 t.tx cx (sv 0)) (ac (sv 2) ag))) fD (fun _ _ _ _ nd=>⟨(sgN nd),b8,(bD cx.comp (sv 0) (sv 1) (fun _ _=>rfl))⟩))
 (af (fF ["cell"] cx nd (fe cx.hK (sv 3)) fD (fun _ _ _ _ nd=>⟨(sgN nd),(fV (aN cx.comp.hK (mJ t.tx (eV t hB) cx.comp (sv 0) (ac (sv 1) ag)))),(aB (sv 1) (ah))⟩))
 (af (aM (nH (bD cx (aZ 5 t.tx cx (sv 0)) (sv 2) (fun _ _=>rfl)) (mI)) (ai (o7 cx (bD cx (aZ 5 t.tx cx (sv 0)) (sv 2) (fun _ _=>rfl)))) aA)
 (ai (aI (nL cx.hK cx.calm rfl (t.tx.b 3) (aB (sv 4) (dS (ac (aZ 3 t.tx cx (sv 0)) ag)))))))))
theorem yW:OkF pt hA P w K mg base 1 14 wT:=okC 14 t.tx fun _ _ _ _ _ _ cx nd =>
 (af (aY nd (bD cx (sv 1) (aR (gE (sv 2) (ah)) (aZ 0 t.tx cx (sv 0))) (fun _ _=>rfl)))
 (af (aY nd (bD cx (sv 1) (aR (aB (sv 2) (ah)) (aZ 0 t.tx cx (sv 0))) (fun _ _=>rfl)))
 (af (aY nd (aB (aB (bz (bz (bD cx (sv 1) (sv 2) (fun _ _=>rfl)) (aZ 7 t.tx cx (sv 0))) (aZ 7 t.tx cx (sv 0))) (bz (sv 3) (aZ 7 t.tx cx (sv 0)))) (sv 4)))
 (ai (aI (fY (eG cx.hK cx.hu (sv 2) (ah)) (bD cx (aZ 10 t.tx cx (sv 0)) (sv 5) (fun _ _=>rfl)) (bD cx (aZ 11 t.tx cx (sv 0)) (sv 5) (fun _ _=>rfl))))))))
omit t hB in
theorem di{X:Cx}(t:Ty pt pe X.w X.K X.mg)(hB:X.K.In X.base):kL X (T X.K) 2 "due" ["self", "cells", "at"] [] bp:=fun c _ hc e=>match c,hc,e with
 | 0,_,e=>dm 3 t.tx (wj t hB) e
 | 1,_,e=>dm 4 t.tx (u7 t hB) e
 | 2,_,e=>dm 5 t.tx (u7 t hB) e
 | 4,_,e=>dm 6 t.tx (yW t hB) e
 | 3,_,e=>nomatch e
 | _+5,h,_=>dno (n:=5) h
theorem oh:OkF pt hA P w K mg base 3 15 lG:=okC 15 t.tx fun _ _ _ _ _ _ cx nd =>
 (ai (aI (jM ["at"] cx (bt rfl (t.tx.b 1) (ac (aZ 0 t.tx cx (sv 0)) ag)) fD (fun _ _ _ _ nd=>⟨(sgN nd),(fV (fE cx.comp.hK cx.comp.hu (mJ t.tx (di t hB) cx.comp (sv 0) (ac (sv 1) (ac (sv 2) ag))) (bD cx.comp (sv 1) (sv 2) (fun _ _=>rfl)))),(sv 2)⟩))))
omit t hB in
theorem eL{X:Cx}(t:Ty pt pe X.w X.K X.mg)(hB:X.K.In X.base):kL X (T X.K) 3 "movers" ["self", "cells"] [] bc:=fun c _ hc e=>match c,hc,e with
 | 0,_,e=>dm 7 t.tx (oh t hB) e
 | 1,_,e=>dm 8 t.tx (oh t hB) e
 | 2,_,e=>dm 9 t.tx (oh t hB) e
 | 4,_,e=>dm 10 t.tx (oh t hB) e
 | 3,_,e=>nomatch e
 | _+5,h,_=>dno (n:=5) h
theorem wg:OkF pt hA P w K mg base 1 16 oJ:=okC 16 t.tx fun _ _ _ _ _ _ cx nd =>
 (af (aY nd (dS (ac (dS ag) ag)))
 (af (bG cx.po cx.calm (de cx.hK (sv 0)) (sgN nd) (ai (mr nd rfl (Or.inl rfl) (Or.inl rfl) (jM ["named"] cx (fe cx.hK (sv 1)) fD (fun _ _ _ _ nd=>⟨(sgN nd),b8,(aB (sv 1) (dS (ac (sv 0) ag)))⟩)))))
 (ai (oY cx.hK rfl (Or.inl rfl)))))
theorem yR:OkF pt hA P w K mg base 1 17 wP:=okC 17 t.tx fun _ _ _ _ _ _ cx nd =>
 (af (aM (SW.st (mq (aN cx.hK (aZ 8 t.tx cx (sv 0))) (ka (jH (bR cx.hK rfl (t.tx.b 0) (sv 1)) (ah))))) (ai (bH 4 t.tx cx hB bF (ac (bw) ag))) aA)
 (af (bG cx.po cx.calm (de cx.hK (sv 1)) (sgN nd) (ai (aM (SW.st (cP (eF (sv 2) (ah)) (bL (kR (sv 2) (aZ 0 t.tx cx (sv 0)))))) (ai (bH 4 t.tx cx hB bF (ac (bw) ag))) aA)))
 (ai (aM (fE cx.hK cx.hu (o4 cx.hK cx.calm rfl (t.tx.b 0) rfl (t.tx.b 6) (sv 1)) (bR cx.hK rfl (t.tx.b 0) (sv 1))) (ai (bH 4 t.tx cx hB bF (ac (bw) ag))) aA))))
theorem oi:OkF pt hA P w K mg base 3 18 lH:=okC 18 t.tx fun _ _ _ _ _ _ cx nd =>
 (af (cM (aP t.tx (yR t hB) cx (ac (sv 0) (ac (sv 2) ag))))
 (ai (aI (jM ["at"] cx (bt rfl (t.tx.b 1) (ac (aZ 0 t.tx cx (sv 0)) ag)) fD (fun _ _ _ _ nd=>⟨(sgN nd),b8,(fY (uL cx.comp.hK cx.comp.hu2 (sv 3) (sv 0)) (mJ t.tx (di t hB) cx.comp (sv 1) (ac (sv 2) (ac (sv 3) ag))) (bD cx.comp (sv 2) (sv 3) (fun _ _=>rfl)))⟩)))))
omit t hB in
theorem eK{X:Cx}(t:Ty pt pe X.w X.K X.mg)(hB:X.K.In X.base):kL X (T X.K) 3 "turned" ["self", "cells", "named"] [] aL:=fun c _ hc e=>match c,hc,e with
 | 0,_,e=>dm 11 t.tx (oi t hB) e
 | 1,_,e=>dm 12 t.tx (oi t hB) e
 | 2,_,e=>dm 13 t.tx (oi t hB) e
 | 4,_,e=>dm 14 t.tx (oi t hB) e
 | 3,_,e=>nomatch e
 | _+5,h,_=>dno (n:=5) h
theorem iZ:OkD pt hA P w K mg base 4 (pe.at 0).1 gv:=okD (t.d 0) fun _ _ _ _ _ _ cx nd =>
 (af (cM (aP t.tx (yQ t hB) cx (ac (sv 0) (ac (sv 2) ag))))
 (af (aY nd (mJ t.tx (eL t hB) cx (sv 0) (ac (sv 1) ag)))
 (af (aY nd (fY (aN cx.hK (sv 2)) (aP t.tx (wg t hB) cx (ac (sv 3) ag)) (jM ["at"] cx (fe cx.hK (sv 3)) fD (fun _ _ _ _ nd=>⟨(sgN nd),b8,(dS (ac (sv 0) ag))⟩))))
 (ai (vG "named" cx (fun _ _ _ _ nd=>⟨gc nd rfl (Or.inl rfl),bM rfl (Or.inl rfl),(mJ t.tx (eK t hB) cx.comp (sv 0) (ac (sv 1) (ac (sv 2) ag))),rfl,rfl⟩))))))
theorem wr:OkF pt hA P w K mg base 1 19 rP:=okC 19 t.tx fun _ _ _ _ _ _ cx nd =>
 (ai (aI ((qr (iF cx.hK t9 rfl (t.tx.b 7) bX rfl (t.tx.b 2) sh (sv 0)) (qk (vy (iF cx.hK rn rfl (t.tx.b 7) bX rfl (t.tx.b 9) uE (sv 0))))))))
theorem uY:OkF pt hA P w K mg base 2 20 um:=okC 20 t.tx fun _ _ _ _ _ _ cx nd =>
 (af (aM (SW.st (cP (cF (aN cx.hK (iF cx.hK lw rfl (t.tx.b 7) bX rfl (t.tx.b 5) gB (sv 0)))) (bL (fE cx.hK cx.hu (bR cx.hK rfl (t.tx.b 0) (sv 0)) (bR cx.hK rfl (t.tx.b 0) (sv 1)))))) (ai (aI (b_))) aA)
 (af (bG cx.po cx.calm (qh cx.hK rfl (t.tx.b 8) (ac (sv 0) (ac (sv 1) ag))) (ke cx.hK cx.calm (cQ nd rfl (Or.inl rfl) (cQ nd rfl (Or.inl rfl) ik))) (ai (aM (SW.st (cP (cF (aN cx.hK (aP t.tx (wr t hB) cx (ac (sv 2) ag)))) (bL (fE cx.hK cx.hu (sv 2) (sv 3))))) (ai (aI (b_))) aA)))
 (ai (aI (b_)))))
theorem mR:OkF pt hA P w K mg base 3 21 jd:=okC 21 t.tx fun _ _ _ _ _ _ cx nd =>
 (af (aM (SW.st (cP (cF (aN cx.hK (iF cx.hK lw rfl (t.tx.b 7) bX rfl (t.tx.b 5) gB (sv 0)))) (bL (fE cx.hK cx.hu (bR cx.hK rfl (t.tx.b 0) (sv 0)) (bR cx.hK rfl (t.tx.b 0) (sv 1)))))) (ai (aI (b_))) aA)
 (af (bG cx.po cx.calm (qh cx.hK rfl (t.tx.b 8) (ac (sv 0) (ac (sv 1) ag))) (ke cx.hK cx.calm (cQ nd rfl (Or.inl rfl) (cQ nd rfl (Or.inl rfl) ik))) (af (aM (SW.st (cP (cF (aN cx.hK (iF cx.hK pH rfl (t.tx.b 7) bX rfl (t.tx.b 4) dy (sv 2)))) (bL (fE cx.hK cx.hu (bR cx.hK rfl (t.tx.b 0) (sv 2)) (ah))))) (ai (aI (b_))) aA)
 (ai (aM (SW.st (cP (cF (aN cx.hK (aP t.tx (uY t hB) cx (ac (bD cx (sv 2) (ah) (fun _ _=>rfl)) (ac (bD cx (sv 3) (ah) (fun _ _=>rfl)) ag))))) (bL (cF (aN cx.hK (aP t.tx (uY t hB) cx (ac (bD cx (sv 2) (ah) (fun _ _=>rfl)) (ac (bD cx (sv 3) (ah) (fun _ _=>rfl)) ag)))))))) (ai (aI (b_))) aA))))
 (ai (aI (b_)))))
theorem og:OkF pt hA P w K mg base 5 22 pO:=okC 22 t.tx fun _ _ _ _ _ _ cx nd =>
 (af (aY nd (kf cx.hK rfl (t.tx.b 5) gB (sv 1)))
 (af (aY nd (aP t.tx (wq t hB) cx (ac (sv 1) (ac (sv 2) (ac (sv 3) ag)))))
 (af (aM (aN cx.hK (sv 3)) (ai (aY nd (vI (t.d 0) (iZ t hB) cx (ac (sv 0) (ac (sv 4) ag)) (fun us hl=>match us,hl with | [_,_],_=>fun _ _ _ _ _ _ _=>⟨_,rfl,rfl⟩)))) (af (aY nd (vJ (t.d 0) (iZ t hB) cx (ac (sv 0) (ac (sv 4) ag)) (fun us hl=>match us,hl with | [_,_],_=>fun _ _ _ _ _ _ _=>⟨_,rfl,rfl⟩)))
 (ai (aM (cF (aN cx.hK (nN (aP t.tx (mR t hB) cx (ac (nN (mK (t.d 0) (iZ t hB) cx (ac (sv 0) (ac (sv 4) (ac (b_) ag))))) (ac (sv 5) ag)))))) (ai (aI (b_))) aA))))
 (af (aM (SW.st (cP (cF (aN cx.hK (aP t.tx (mR t hB) cx (ac (sv 6) (ac (sv 5) ag))))) (bL (fE cx.hK cx.hu (sv 4) (sv 1))))) (ai (aI (b_))) aA)
 (af (qe cx.po cx.calm cx.hK nd rfl (Or.inl rfl) rfl (Or.inl rfl) (Or.inl rfl) rfl (Or.inl rfl) (Or.inl rfl) (by decide) (by decide) (by decide) (by decide) (by decide) (by decide))
 (af (qf cx.hK rfl (Or.inl rfl))
 (ai (aI (nN (aP t.tx (mR t hB) cx (ac (nN (mK (t.d 0) (iZ t hB) cx (ac (sv 0) (ac (sv 4) (ac (sv 3) ag))))) (ac (sv 5) ag))))))))))))
theorem uW:OkF pt hA P w K mg base 1 23 wN:=okC 23 t.tx fun _ _ _ _ _ _ cx nd =>
 (ai (aM (SW.st (cP (eF (sv 0) (sv 1)) (bL (jH (sv 0) (cS rfl (t.tx.c 4)))))) (ai (bH 1 t.tx cx hB bF (ac (bw) ag))) aA))
theorem yX:OkF pt hA P w K mg base 1 24 zw:=okC 24 t.tx fun _ _ _ _ _ _ cx nd =>
 (af (aY nd (dS ag))
 (af (bG cx.po cx.calm (de cx.hK (sv 1)) (sgN nd) (af (aY nd (qt (ac (nL cx.hK cx.calm rfl (t.tx.b 3) (sv 3)) (ac (nM cx.hK cx.calm rfl (t.tx.b 10) (sv 3)) ag))))
 (af (aM (SW.st (cP (eF (bD cx (sv 4) (ah) (fun _ _=>rfl)) (ah)) (bL (kR (bD cx (sv 4) (ah) (fun _ _=>rfl)) (sv 0))))) (ai (bH 1 t.tx cx hB bF (ac (bw) ag))) aA)
 (af (aM (eG cx.hK cx.hu (bD cx (sv 4) (ah) (fun _ _=>rfl)) (bD cx (sv 4) (ah) (fun _ _=>rfl))) (ai (bH 1 t.tx cx hB bF (ac (bw) ag))) aA)
 (af (aM (uL cx.hK cx.hu2 (sv 4) (sv 2)) (ai (bH 1 t.tx cx hB bF (ac (bw) ag))) aA)
 (ai (o7 cx (sv 4))))))))
 (ai (aI (jL cx.hK rfl (t.tx.b 11) (sv 2))))))
theorem yP:OkF pt hA P w K mg base 1 25 zu:=okC 25 t.tx fun _ _ _ _ _ _ cx nd =>
 (af (fF ["pair"] cx nd (fe cx.hK (sv 0)) fD (fun _ _ _ _ nd=>⟨(sgN nd),(fV (eG cx.comp.hK cx.comp.hu (bD cx.comp (sv 1) (ah) (fun _ _=>rfl)) (sv 0))),(bD cx.comp (sv 1) (ah) (fun _ _=>rfl))⟩))
 (af (fF ["pair"] cx nd (fe cx.hK (sv 0)) fD (fun _ _ _ _ nd=>⟨(sgN nd),(fV (eG cx.comp.hK cx.comp.hu (bD cx.comp (sv 1) (ah) (fun _ _=>rfl)) (sv 0))),(bD cx.comp (sv 1) (ah) (fun _ _=>rfl))⟩))
 (ai (aI (jL cx.hK rfl (t.tx.b 11) (aB (sv 2) (sv 3)))))))
theorem wo:OkF pt hA P w K mg base 2 26 vg:=okC 26 t.tx fun _ _ _ _ _ _ cx nd =>
 (af (fF ["at"] cx nd (bt rfl (t.tx.b 1) (ac (aZ 0 t.tx cx (sv 0)) ag)) fD (fun _ _ _ _ nd=>⟨(sgN nd),b8,(aZ 0 t.tx cx.comp (sv 0))⟩))
 (af (fW rfl (Or.inl rfl) (sv 1) (ah))
 (af (bG cx.po cx.calm (dQ rfl (t.tx.b 1) (ac (aZ 0 t.tx cx (sv 0)) ag)) (sgN nd) (ai (bG cx.po cx.calm (dQ rfl (t.tx.b 1) (ac (aZ 0 t.tx cx (sv 0)) ag)) (sgN nd) (ai (aM (eG cx.hK cx.hu (bD cx (sv 2) (sv 4) (fun _ _=>rfl)) (sv 3)) (ai (bG cx.po cx.calm (de cx.hK (mJ t.tx (eH t hB) cx (sv 0) (ac (sv 4) ag))) (sgN nd) (ai (fW rfl (Or.inl rfl) (sv 5) (io cx.calm rfl (t.tx.b 3) (ac (bD cx (sv 2) (sv 5) (fun _ _=>rfl)) (ac (aB (sv 3) (ah)) ag))))))) aA)))))
 (ai (d5 rfl (Or.inl rfl))))))
theorem wm:OkI pt hA P w K mg base 3 27 vf:=okI 27 t.tx fun _ _ _ _ _ _ cx nd =>
 (af (cM (aP t.tx (uW t hB) cx (ac (sv 1) (ac (cS rfl (t.tx.c 5)) ag))))
 (af (sFld 0 t.tx cx (sv 1))
 (af (sFld 1 t.tx cx (dR cx.hK rfl (t.tx.b 4) dy (aP t.tx (yX t hB) cx (ac (sv 1) (ac (sv 2) ag)))))
 (af (sFld 2 t.tx cx (dR cx.hK rfl (t.tx.b 4) dy (jM ["at"] cx (bt rfl (t.tx.b 1) (ac (sv 1) ag)) fD (fun _ _ _ _ nd=>⟨(sgN nd),b8,(dR cx.comp.hK rfl (t.tx.b 4) dy (aP t.tx (yP t hB) cx.comp (ac (aZ 1 t.tx cx.comp (sv 0)) (ac (sv 1) ag))))⟩))))
 (ai (aM (eG cx.hK cx.hu (nM cx.hK cx.calm rfl (t.tx.b 10) (aP t.tx (wo t hB) cx (ac (sv 0) (ac (ah) ag)))) (sv 1)) (ai (bH 1 t.tx cx hB bF (ac (bw) ag))) aA))))))
theorem wf:OkF pt hA P w K mg base 5 28 rL:=okC 28 t.tx fun _ _ _ _ _ _ cx nd =>
 (af (cM (aP t.tx (uW t hB) cx (ac (sv 0) (ac (cS rfl (t.tx.c 5)) ag))))
 (ai (aI (vH 3 t.tx (wm t hB) cx (ac (sv 0) (ac (jM ["at"] cx (bt rfl (t.tx.b 1) (ac (gE (sv 0) (ah)) ag)) fD (fun _ _ _ _ nd=>⟨(sgN nd),b8,(qt (ac (sv 0) (ac (aB (sv 0) (ah)) ag)))⟩)) ag))))))
theorem uX:OkF pt hA P w K mg base 1 29 wO:=okC 29 t.tx fun _ _ _ _ _ _ cx nd =>
 (ai (aM (SW.st (cP (eF (sv 0) (ah)) (bL (jH (sv 0) (cS rfl (t.tx.c 6)))))) (ai (bH 2 t.tx cx hB bF (ac (bw) ag))) aA))
theorem yV:OkF pt hA P w K mg base 1 30 zv:=okC 30 t.tx fun _ _ _ _ _ _ cx nd =>
 (af (aM (fE cx.hK cx.hu (bR cx.hK rfl (t.tx.b 0) (sv 1)) (aZ 0 t.tx cx (sv 0))) (ai (bH 2 t.tx cx hB bF (ac (bw) ag))) aA)
 (ai (bG cx.po cx.calm (de cx.hK (sv 1)) (sgN nd) (ai (aM (SW.st (mq (nH (sv 3) (mI)) (ka (SW.st (cP (eF (sv 3) (ah)) (bL (kR (sv 3) (sv 2)))))))) (ai (bH 2 t.tx cx hB bF (ac (bw) ag))) aA)))))
theorem yY:OkI pt hA P w K mg base 3 31 zx:=okI 31 t.tx fun _ _ _ _ _ _ cx nd =>
 (af (cM (aP t.tx (uX t hB) cx (ac (sv 3) ag)))
 (af (cM (aP t.tx (uX t hB) cx (ac (sv 4) ag)))
 (af (sFld 3 t.tx cx (bz (sv 3) (sv 4)))
 (af (cM (aP t.tx (yV t hB) cx (ac (sv 1) (ac (sv 2) (ac (aZ 3 t.tx cx (sv 0)) ag)))))
 (fK (i:=1) (af (sFld 4 t.tx cx (sv 1))
 (af (sFld 5 t.tx cx (dR cx.hK rfl (t.tx.b 4) dy (sv 2)))
 (af (sFld 6 t.tx cx (sv 3))
 (ai (vF 0 t.tx (qQ t hB) cx (ac (aZ 0 t.tx cx (sv 1)) (ac (aB (aZ 3 t.tx cx (sv 0)) (ah)) (ac (b_) ag)))))))))))))
theorem yU:OkI pt hA P w K mg base 5 32 wS:=okI 32 t.tx fun _ _ _ _ _ _ cx nd =>
 (af (aM (SW.st (cP (eF (sv 2) (ah)) (bL (kR (sv 2) (aZ 0 t.tx cx (sv 1)))))) (ai (bH 2 t.tx cx hB bF (ac (bw) ag))) aA)
 (af (fF ["at"] cx nd (bt rfl (t.tx.b 1) (ac (aZ 0 t.tx cx (sv 1)) ag)) fD (fun _ _ _ _ nd=>⟨(sgN nd),b8,(fY (eG cx.comp.hK cx.comp.hu (sv 1) (sv 0)) (ah) (mI))⟩))
 (fK (i:=3) (fK (i:=1) (ai (vF 1 t.tx (yY t hB) cx (ac (sv 1) (ac (sv 3) (ac (aZ 0 t.tx cx (sv 1)) (ac (ah) ag))))))))))
theorem yT:OkF pt hA P w K mg base 1 33 wR:=okC 33 t.tx fun _ _ _ _ _ _ cx nd =>
 (af (aY nd (dS ag))
 (af (bG cx.po cx.calm (dQ rfl (t.tx.b 1) (ac (bR cx.hK rfl (t.tx.b 0) (sv 0)) ag)) (sgN nd) (af (aY nd (bR cx.hK rfl (t.tx.b 0) (sv 0)))
 (af (aM (jH (sv 3) (ah)) (ai (aY nd (io cx.calm rfl (t.tx.b 3) (ac (sv 4) (ac (aB (bD cx (sv 0) (gE (sv 3) (ah)) (fun _ _=>rfl)) (ah)) ag))))) aA)
 (af (aM (eF (sv 3) (gE (bR cx.hK rfl (t.tx.b 0) (sv 0)) (ah))) (ai (aY nd (io cx.calm rfl (t.tx.b 3) (ac (sv 4) (ac (aB (bD cx (sv 0) (aB (sv 3) (ah)) (fun _ _=>rfl)) (ah)) ag))))) aA)
 (ai (o7 cx (bz (sv 4) (iG rfl (t.tx.b 2) (ql cx.hK cx.hu (sv 3) (sv 1))))))))))
 (ai (d5 rfl (Or.inl rfl)))))
theorem yS:OkF pt hA P w K mg base 5 34 wQ:=okC 34 t.tx fun _ _ _ _ _ _ cx nd =>
 (af (sP cx rfl rfl rfl (t.tx.xg 4) (t.tx.hO 0) (fun E pn Wb cy=>(ai (cM (mK (t.d 0) (iZ t hB) cy (ac (sv 0) (ac (sv 1) (ac (b_) ag))))))) (fun _=>(ai (aI (b_)))) aA)
 (ai (aI (b_))))
theorem wt:OkF pt hA P w K mg base 7 35 vh:=okC 35 t.tx fun _ _ _ _ _ _ cx nd =>
 (af (aY nd (aP t.tx (iY t hB) cx (ac (sv 0) (ac (ah) ag))))
 (af (aY nd (aB (ah) (aR (sv 1) (ah))))
 (af (aY nd (aB (ah) (aR (cW (sv 1) (ah)) (ah))))
 (af (aY nd (ah))
 (af (aM (eG cx.hK cx.hu (aR (cW (sv 1) (ah)) (ah)) (ah)) (af (aY nd (ah))
 (af (aY nd (ah))
 (ai (aY nd (ah))))) aA)
 (af (vv (aP t.tx (yO t hB) cx (ac (sv 0) (ac (sv 3) ag))) (ke cx.hK cx.calm (cQ nd rfl (Or.inl rfl) (cQ nd rfl (Or.inl rfl) ik))))
 (af (aY nd (vH 4 t.tx (yZ t hB) cx (ac (sv 2) (ac (sv 3) (ac (bD cx (dS (ac (bw) (ac (bw) ag))) (aR (sv 1) (ah)) (fun _ _=>rfl)) (ac (sv 5) (ac (sv 6) ag)))))))
 (af (bG cx.po cx.calm (de cx.hK (b9 cx.hK (aB (b9 cx.hK (sv 0) (cN (ah)) dD) (b9 cx.hK (sv 0) (cN (ah)) (cN (ah)))) dD (cN (sv 4)))) (sgN nd) (af (aY nd (aP t.tx (wp t hB) cx (ac (aR (cW (sv 8) (ah)) (ah)) (ac (sv 2) (ac (sv 3) ag)))))
 (af (aY nd (aP t.tx (wn t hB) cx (ac (sv 9) (ac (sv 3) (ac (sv 5) (ac (sv 6) ag))))))
 (ai (aM (SW.st (cP (cF (aN cx.hK (aP t.tx (og t hB) cx (ac (sv 7) (ac (sv 9) (ac (sv 10) (ac (nO cx.hK cx.hu (aR (sv 8) (ah)) (ah)) ag))))))) (bL (cF (aN cx.hK (aP t.tx (og t hB) cx (ac (sv 7) (ac (sv 9) (ac (sv 10) (ac (nO cx.hK cx.hu (aR (sv 8) (ah)) (ah)) ag)))))))))) (ai (aI (b_))) aA)))))
 (af (aY nd (aB (ah) (aR (aP t.tx (iY t hB) cx (ac (sv 0) (ac (ah) ag))) (ah))))
 (af (aY nd (aR (cW (aP t.tx (iY t hB) cx (ac (sv 0) (ac (ah) ag))) (ah)) (sv 11)))
 (af (aY nd (vH 2 t.tx (yU t hB) cx (ac (aP t.tx (wf t hB) cx (ac (sv 11) ag)) (ac (sv 12) ag))))
 (af (fF ["_law_k"] cx nd (bt rfl (t.tx.b 1) (ac (sv 11) ag)) fD (fun _ _ _ _ nd=>⟨(sgN nd),b8,(aR (aB (cW (aP t.tx (iY t hB) cx.comp (ac (sv 0) (ac (aB (ah) (sv 2)) ag))) (aB (sv 2) (ah))) (sv 2)) (aB (sv 1) (ah)))⟩))
 (af (aY nd (aP t.tx (yT t hB) cx (ac (sv 9) (ac (sv 12) ag))))
 (af (aM (SW.st (cP (cF (aN cx.hK (aP t.tx (og t hB) cx (ac (sv 13) (ac (sv 9) (ac (sv 10) (ac (b_) ag))))))) (bL (cF (aN cx.hK (aP t.tx (yS t hB) cx (ac (sv 13) (ac (sv 9) ag)))))))) (ai (aI (b_))) aA)
 (ai (aI (aP t.tx (og t hB) cx (ac (sv 13) (ac (sv 9) (ac (sv 10) (ac (b_) ag)))))))))))))))))))))
end
end G
namespace G
open PySem L2 PR
def cell(ns:List Int)(k:Nat):Int:=ns.getD k 0
theorem oP{fl:Fl}(ns:List Int)(k:Nat)(h:Scr fl):eP [.lst fl (iL ns),.int k]=.ok (.int (cell ns k)):=by
 refine aJ ?_
 show xo [some (.lst fl (iL ns)),some (.int k)]=_
 unfold xo cell
 by_cases hk:k < ns.length
 ·refine im (jA (by simp[h.lend,hk]) (ce ?_ (by simp)))
  simp only[oK,eC]
  simp[h.lend]
  rw[lD ns (by omega) (n:=ns.getD k 0) (by simp[hk])]
  simp[hk]
 ·refine ak (b6 (by simp[h.lend,hk]) aD) (ce (by simp[List.getElem?_eq_none (Nat.le_of_not_lt hk)]) (by simp))
theorem p0(n:Int):rP [.int n]=.ok (.bl true):=by
 refine aJ (v:=.bl true) ?_
 show ss [some (.int n)]=_
 unfold ss
 exact ce (by simp[gR]) (by simp)
abbrev tab(fl:Fl)(n:Nat)(sp wi:Int)(fs os:List Int):PV:=.obj fl 4 [9,10,11,0,7,8] [.int wi,.tup (iL fs),.tup (iL os),.int n,.int sp,.bl false]
def Wd(w:Str)(wi:Int):Prop:=w = "none" /\ wi=0\/w = "one" /\ wi=1
structure cw(sp:Int)(t:List Int):Prop where
 len:(t.length:Int)=sp * sp * sp
 rng:∀x∈t,0<=x/\x < sp
theorem iC{sp:Int}(h1:2<=sp)(h2:sp<=4):sp=2\/sp=3\/sp=4:=by omega
theorem w4{sp:Int}(h1:2<=sp)(h2:sp<=4):bS (.int sp) (.int sp)=.ok (.int (sp * sp))/\bS (.int (sp * sp)) (.int sp)=.ok (.int (sp * sp * sp))/\4<=sp * sp/\sp * sp<=16/\8<=sp * sp * sp/\sp * sp * sp<=64:=by
 rcases iC h1 h2 with rfl | rfl | rfl<;>exact⟨rfl,rfl,by decide,by decide,by decide,by decide⟩
def plc(sp c l r:Int):Int:=c * sp * sp+l * sp+r
theorem mM{sp c l r:Int}(h1:2<=sp)(h2:sp<=4)(hc:0<=c/\c < sp)(hl:0<=l/\l < sp)(hr:0<=r/\r < sp):0<=plc sp c l r/\plc sp c l r < sp * sp * sp:=by
 unfold plc
 rcases iC h1 h2 with rfl | rfl | rfl<;>omega
theorem qH{sp c l r:Int}(h1:2<=sp)(h2:sp<=4):bS (.int c) (.int sp)=.ok (.int (c * sp))/\bS (.int (c * sp)) (.int sp)=.ok (.int (c * sp * sp))/\bS (.int l) (.int sp)=.ok (.int (l * sp)) :=
 ⟨eh (.inr ⟨by omega,by omega⟩),eh (.inr ⟨by omega,by omega⟩),eh (.inr ⟨by omega,by omega⟩)⟩
def lft(n i:Nat):Nat:=if i=0 then n - 1 else i - 1
def rgt(n i:Nat):Nat:=if i+1 < n then i+1 else 0
def jg(n:Nat)(sp:Int)(fs os cs:List Int)(i:Nat):Int:=gt (if i=0 then fs else os) (plc sp (gt cs i) (gt cs (lft n i)) (gt cs (rgt n i))).toNat
def InC(sp:Int)(cs:List Int):Prop:=∀c∈cs,0<=c/\c < sp
theorem jN{sp:Int}{t:List Int}{f:Fl}(hf:f=.bor\/f=.frz)(h1:2<=sp)(h2:sp<=4)(ht:cw sp t):uo [.lst f (iL t),.int sp]=.ok .non:=by
 obtain⟨m1,m2,_⟩:=w4 h1 h2
 have hf1:f.lend=f:=by rcases hf with rfl | rfl<;>rfl
 have hf2:f.isLnt=false:=by rcases hf with rfl | rfl<;>rfl
 refine gG ?_
 show Ends (xy [some (.lst f (iL t)),some (.int sp),none])
 unfold xy
 refine jf (b6 (by simp[hf1,p1,cT,aO,m1,m2,ht.len]) aD) ?_
 refine ug (fun _ e=>∃x,e=[some (.lst f (iL t)),some (.int sp),x]) (fun r=>∃e,r=.next e) (xs:=iL t) (cR (f:=f) (by simp[hf1]) hf2 (by simp) (by simp)) ⟨_,rfl⟩ (fun k x e hx hP=>?_) (fun e hP=>⟨e,rfl⟩)
 obtain⟨y,rfl⟩:=hP
 obtain⟨z,hz,rfl⟩:=gW hx
 have:=ht.rng z (List.mem_of_getElem? hz)
 exact⟨_,dH rfl,.inl ⟨_,.inl (b6 (by simp[show ¬z < 0 by omega,show ¬sp<=z by omega]) aD),_,rfl⟩⟩
theorem p9{n:Nat}{sp wi:Int}{w:Str}{fs os:List Int}(n2:2<=n)(n8:n<=8)(h1:2<=sp)(h2:sp<=4)(hw:Wd w wi)(hf:cw sp fs)(ho:cw sp os):wU [.obj .own 4 [] [],.int n,.int sp,.str w,.lst .bor (iL fs),.lst .bor (iL os)]=.ok (tab .own n sp wi fs os):=by
 refine nQ (e:=[some (tab .own n sp wi fs os),some (.int n),some (.int sp),some (.str w),some (.lst .bor (iL fs)),some (.lst .bor (iL os))]) ?_ rfl
 show xC [some (.obj .own 4 [] []),some (.int n),some (.int sp),some (.str w),some (.lst .bor (iL fs)),some (.lst .bor (iL os))]=_
 unfold xC
 have r1:=jN (f:=.bor) (.inl rfl) h1 h2 hf
 have r2:=jN (f:=.bor) (.inl rfl) h1 h2 ho
 have d1:iq [("none",(0)),("one",(1))] (.str w)=.ok (.bl false):=by rcases hw with⟨rfl,_⟩ |⟨rfl,_⟩<;>rfl
 have d2:lg [("none",(0)),("one",(1))] (.str w)=.ok (.int wi):=by rcases hw with⟨rfl,rfl⟩ |⟨rfl,rfl⟩<;>rfl
 refine ak (b6 (by simp[show ¬(n:Int) < 2 by omega,show ¬(8:Int) < n by omega]) aD) ?_
 refine ak (b6 (by simp[show ¬sp < 2 by omega,show ¬(4:Int) < sp by omega]) aD) ?_
 refine ak (b6 (by simp[d1]) aD) ?_
 refine ak (iy (v:=.non) (by simp[r1,aU,Fl.lend,Fl.toBor])) ?_
 refine ak (iy (v:=.non) (by simp[r2,aU,Fl.lend,Fl.toBor])) ?_
 refine ak (gX (v:=.int wi) (ks:=[]) (vs:=[]) (by simp[d2]) rfl (by simp) rfl (by decide)) ?_
 simp only[List.set_cons_zero,List.set_cons_succ]
 refine ak (gX (v:=.tup (iL fs)) (ks:=[9]) (vs:=[.int wi]) (by simp[p1,df,aO]) rfl (by simp[PV.noLnt,PV.has]) rfl (by decide)) ?_
 simp only[List.set_cons_zero,List.set_cons_succ]
 refine ak (gX (v:=.tup (iL os)) (ks:=[9,10]) (vs:=[.int wi,.tup (iL fs)]) (by simp[p1,df,aO]) rfl (by simp[PV.noLnt,PV.has]) rfl (by decide)) ?_
 simp only[List.set_cons_zero,List.set_cons_succ]
 have ri:lI [.obj .own 4 [9,10,11] [.int wi,.tup (iL fs),.tup (iL os)],.int n,.int sp,.bl false]=.ok (tab .own n sp wi fs os):=by
  refine nQ (e:=[some (tab .own n sp wi fs os),some (.int n),some (.int sp),some (.bl false)]) ?_ rfl
  show sw [some (.obj .own 4 [9,10,11] [.int wi,.tup (iL fs),.tup (iL os)]),some (.int n),some (.int sp),some (.bl false)]=_
  unfold sw
  refine ak (gX (v:=.int n) (ks:=[9,10,11]) (vs:=[.int wi,.tup (iL fs),.tup (iL os)]) (by simp) rfl (by simp) rfl (by decide)) ?_
  refine ak (gX (v:=.int sp) (ks:=[9,10,11,0]) (vs:=[.int wi,.tup (iL fs),.tup (iL os),.int n]) (by simp) rfl (by simp) rfl (by decide)) ?_
  exact gX (v:=.bl false) (ks:=[9,10,11,0,7]) (vs:=[.int wi,.tup (iL fs),.tup (iL os),.int n,.int sp]) (by simp) rfl (by simp) rfl (by decide)
 have:=vn (env:=[some (.obj .own 4 [9,10,11] [.int wi,.tup (iL fs),.tup (iL os)]),some (.int n),some (.int sp),some (.str w),some (.lst .bor (iL fs)),some (.lst .bor (iL os))]) (m:=lI) (ms:=ae (ad 1) (ae (ad 2) (ae (mC (.bl false)) aj))) (xs:=[.int n,.int sp,.bl false]) rfl (by simp) (by simp) (by simpa using ri) (by simp[PV.has])
 simpa using this
section
variable{n:Nat}{sp wi:Int}{fs os cs:List Int}
theorem j_{sp:Int}{t:List Int}{p:Int}(ht:cw sp t)(h:0<=p/\p < sp * sp * sp):(aC (.tup (iL t)) (.int p)=.ok (.int (gt t p.toNat)))/\∀f,aC (.lst f (iL t)) (.int p)=.ok (.int (gt t p.toNat)):=by
 obtain⟨k,rfl⟩:∃k:Nat,p=(k:Int):=⟨p.toNat,by omega⟩
 have hl:k < t.length:=by have:=ht.len;omega
 refine⟨?_,fun f=>dM h.1 (by omega)⟩
 exact ja rfl (by simp[iL,gt,hl]) (by simp)
theorem ux{fl fc:Fl}(hfl:fl=.frz\/fl=.bor)(hfc:fc=.bor\/fc=.frz)(n2:2<=n)(n8:n<=8)(h1:2<=sp)(h2:sp<=4)(hf:cw sp fs)(ho:cw sp os)(hn:cs.length=n)(hc:InC sp cs){i:Nat}(hi:i < n):wT [tab fl n sp wi fs os,.lst fc (iL cs),.int i]=.ok (.int (jg n sp fs os cs i)):=by
 have np:(0:Int) < n:=by omega
 have hl:((i:Int) - 1) % (n:Int)=(lft n i:Nat):=by
  unfold lft
  split
  ·rename_i e
   subst e
   have:((0:Nat):Int) - 1=((n:Int) - 1)+n * (-1):=by omega
   rw[this,Int.add_mul_emod_self_left,Int.emod_eq_of_lt (by omega) (by omega)]
   omega
  ·rw[Int.emod_eq_of_lt (by omega) (by omega)];omega
 have hr:((i:Int)+1) % (n:Int)=(rgt n i:Nat):=by
  unfold rgt
  split
  ·rw[Int.emod_eq_of_lt (by omega) (by omega)];omega
  ·have:(i:Int)+1=n:=by omega
   rw[this,Int.emod_self];rfl
 have ll:lft n i < n:=by unfold lft;split<;>omega
 have rl:rgt n i < n:=by unfold rgt;split<;>omega
 have ix:∀(k:Nat),k < n->∀f,aC (.lst f (iL cs)) (.int (k:Int))=.ok (.int (gt cs k)):=fun k hk f=>by simpa using dM (f:=f) (cs:=cs) (i:=k) (by omega) (by omega)
 have ci:=hc _ (bZ (far:=cs) (i:=i) (by omega))
 have cl:=hc _ (bZ (far:=cs) (i:=lft n i) (by omega))
 have cr:=hc _ (bZ (far:=cs) (i:=rgt n i) (by omega))
 have pin:=mM h1 h2 ci cl cr
 obtain⟨q1,q2,q3⟩:=qH (c:=gt cs i) (l:=gt cs (lft n i)) (r:=gt cs (rgt n i)) h1 h2
 obtain⟨tf,_⟩:=j_ hf pin
 obtain⟨to,_⟩:=j_ ho pin
 have ft:fl.lend=fl:=by rcases hfl with rfl | rfl<;>rfl
 refine aJ ?_
 show xA [some (tab fl n sp wi fs os),some (.lst fc (iL cs)),some (.int i),none,none,none]=_
 unfold xA
 refine ak (av (v:=.int (gt cs (lft n i))) (by rcases hfc with rfl | rfl<;>simp[ft,az,dO,aS np,hl,ix _ ll]) (by simp) rfl) ?_
 simp only[List.set_cons_zero,List.set_cons_succ]
 refine ak (av (v:=.int (gt cs (rgt n i))) (by rcases hfc with rfl | rfl<;>simp[ft,az,dO,aS np,hr,ix _ rl]) (by simp) rfl) ?_
 simp only[List.set_cons_zero,List.set_cons_succ]
 refine ak (av (v:=.int (plc sp (gt cs i) (gt cs (lft n i)) (gt cs (rgt n i)))) (by rcases hfc with rfl | rfl<;>simp[ft,az,dO,ix _ hi,q1,q2,q3,plc]) (by simp) rfl) ?_
 simp only[List.set_cons_zero,List.set_cons_succ]
 refine ce ?_ (by simp)
 unfold jg
 by_cases e:i=0
 ·subst e
  rcases hfl with rfl | rfl<;>simp[az,dO,tf]
 ·rcases hfl with rfl | rfl<;>simp[az,dO,to,e,show ¬(i:Int)=0 by omega]
end
theorem lM{sp p:Int}(kd c:Int)(h1:2<=sp)(h2:sp<=4)(hp:0<=p/\p < sp * sp * sp):∃v:Int,pP [.int kd,.int sp,.int p,.int c]=.ok (.int v)/\0<=v/\v < sp:=by
 obtain⟨m1,m2,b1,b2,b3,b4⟩:=w4 h1 h2
 have sp0:0 < sp:=by omega
 suffices hh:jB (xk [some (.int kd),some (.int sp),some (.int p),some (.int c),none,none,none]) (fun x=>∃v:Int,x=.int v/\0<=v/\v < sp) by
  obtain⟨x,e,v,rfl,h⟩:=hh
  exact⟨v,aJ e,h⟩
 unfold xk
 have dq:cH (.int p) (.int (sp * sp))=.ok (.int (p / (sp * sp))):=dw (by omega) (by omega)
 have ds:cH (.int p) (.int sp)=.ok (.int (p / sp)):=dw sp0 (by omega)
 have o1:0<=p / (sp * sp)/\p / (sp * sp) < sp:=by
  rcases iC h1 h2 with rfl | rfl | rfl<;>omega
 have o2:0<=p / sp % sp/\p / sp % sp < sp:=⟨Int.emod_nonneg _ (by omega),Int.emod_lt_of_pos _ sp0⟩
 refine bq (av (v:=.int (p / (sp * sp))) (by simp[m1,dq]) (by simp) rfl) ?_
 simp only[List.set_cons_zero,List.set_cons_succ]
 refine bq (av (v:=.int (p / sp % sp)) (by simp[ds,aS sp0]) (by simp) rfl) ?_
 simp only[List.set_cons_zero,List.set_cons_succ]
 generalize p / (sp * sp)=a at *
 generalize p / sp % sp=b at *
 by_cases k0:kd=0
 ·exact fZ (by simp[k0]) (b0 (v:=.int a) (gH rfl) ⟨a,rfl,o1⟩)
 refine bq (b6 (by simp[k0]) aD) ?_
 by_cases k1:kd=1
 ·exact fZ (by simp[k1]) (b0 (v:=.int b) (gH rfl) ⟨b,rfl,o2⟩)
 refine bq (b6 (by simp[k1]) aD) ?_
 have md:∀x:Int,0<=x % sp/\x % sp < sp:=fun x=>⟨Int.emod_nonneg _ (by omega),Int.emod_lt_of_pos _ sp0⟩
 by_cases k2:kd=2
 ·refine fZ (by simp[k2]) ?_
  by_cases e:a=b
  ·exact b0 (v:=.int ((a+1) % sp)) (ce (by simp[e,p1,dh,aS sp0]) (by simp)) ⟨_,rfl,md _⟩
  ·exact b0 (v:=.int ((a+0) % sp)) (ce (by simp[e,p1,dh,aS sp0]) (by simp)) ⟨_,rfl,md _⟩
 refine bq (b6 (by simp[k2]) aD) ?_
 have m3:bS (.int 3) (.int p)=.ok (.int (3 * p)):=eh (.inl ⟨by decide,by decide⟩)
 have m4:bS (.int (c % 1000003+1+p)) (.int (c % 999983+7+3 * p))=.ok (.int ((c % 1000003+1+p) * (c % 999983+7+3 * p))):=eh (.inl ⟨by omega,by omega⟩)
 generalize(c % 1000003+1+p) * (c % 999983+7+3 * p)=y at *
 have m5:bS (.int y) (.int 48271)=.ok (.int (y * 48271)):=eh (.inr ⟨by decide,by decide⟩)
 refine bq (av (v:=.int y) (by simp[aS,m3,m4]) (by simp) rfl) ?_
 simp only[List.set_cons_zero,List.set_cons_succ]
 refine bq (av (v:=.int (y * 48271 % 2147483647)) (by simp[aS,m5]) (by simp) rfl) ?_
 simp only[List.set_cons_zero,List.set_cons_succ]
 generalize y * 48271 % 2147483647=u
 by_cases k3:kd=3
 ·exact fZ (by simp[k3]) (b0 (v:=.int (min a (u % sp))) (ce (by simp[aS sp0,ef]) (by simp)) ⟨_,rfl,by have:=md u;omega⟩)
 ·exact bq (b6 (by simp[k3]) aD) (b0 (v:=.int (u % sp)) (ce (by simp[aS sp0]) (by simp)) ⟨_,rfl,md u⟩)
theorem jZ{caps:List Nat}{k:Nat}{mi:MI}{g:TgM}{me:ME}{env:En}{N:Nat}{P:Int->Prop}(h:mi env=.ok (cA 0 N))(hN:N<=1000)(hs:∀j < N,∃e1 v,g (.int (0+(j:Int))) (bK caps k env)=some e1/\me e1=.ok (.int v)/\P v):∃l:List Int,bv caps k mi g bI me env=.ok (.lst .own (iL l))/\l.length=N/\∀x∈l,P x:=by
 have hs':∀j:Nat,∃v:Int,j < N->∃e1,g (.int (0+(j:Int))) (bK caps k env)=some e1/\me e1=.ok (.int v)/\P v:=fun j=>by
  by_cases q:j < N
  ·obtain⟨e1,v,h1,h2,h3⟩:=hs j q
   exact⟨v,fun _=>⟨e1,h1,h2,h3⟩⟩
  ·exact⟨0,fun z=>absurd z q⟩
 obtain⟨f,hf⟩:=Classical.axiomOfChoice hs'
 refine⟨(List.range N).map f,da (xs:=cA 0 N) h (by rw[cb];omega) (gZ 0 f N fun j hj=>?_),by simp,fun x hx=>?_⟩
 ·obtain⟨e1,h1,h2,_⟩:=hf j hj
  exact⟨e1,h1,h2⟩
 ·obtain⟨j,hj,rfl⟩:=List.mem_map.mp hx
  obtain⟨_,_,_,h3⟩:=hf j (List.mem_range.mp hj)
  exact h3
theorem cw.set{sp v:Int}{t:List Int}(ht:cw sp t)(hv:0 <= v/\v < sp)(k:Nat):cw sp (t.set k v):=⟨by simpa using ht.len,fun x hx=>by
 rcases List.mem_or_eq_of_mem_set hx with hx | rfl
 ·exact ht.rng x hx
 ·exact hv⟩
theorem oV{fl:Fl}{ns:List Int}{sp:Int}(h:Scr fl)(h1:2<=sp)(h2:sp<=4):∃fs os:List Int,wM [.lst fl (iL ns),.int sp]=.ok (.tup [.lst .own (iL fs),.lst .own (iL os)])/\cw sp fs/\cw sp os:=by
 obtain⟨m1,m2,b1,b2,b3,b4⟩:=w4 h1 h2
 have sp0:0 < sp:=by omega
 have cl:∀k:Nat,eP [.lst fl (iL ns),.int k]=.ok (.int (cell ns k)):=fun k=>oP ns k h
 have c0:eP [.lst fl (iL ns),.int 0]=.ok (.int (cell ns 0)):=cl 0
 have c2:eP [.lst fl (iL ns),.int 2]=.ok (.int (cell ns 2)):=cl 2
 have c3:eP [.lst fl (iL ns),.int 3]=.ok (.int (cell ns 3)):=cl 3
 obtain⟨N,hN⟩:∃N:Nat,sp * sp * sp=N:=⟨(sp * sp * sp).toNat,by omega⟩
 have d48:cH (.int (cell ns 0)) (.int 96)=.ok (.int (cell ns 0 / 96)):=dw (by decide) (by decide)
 suffices hh:jB (xm [some (.lst fl (iL ns)),some (.int sp),none,none,none,none,none,none]) (fun x=>∃fs os:List Int,x=.tup [.lst .own (iL fs),.lst .own (iL os)]/\cw sp fs/\cw sp os) by
  obtain⟨x,e,fs,os,rfl,q⟩:=hh
  exact⟨fs,os,aJ e,q⟩
 unfold xm
 refine bq (av (v:=.int (cell ns 0 / 96)) (by simp[h.lend,h.toBor,c0,d48,aU]) (by simp) rfl) ?_
 simp only[List.set_cons_zero,List.set_cons_succ]
 generalize cell ns 0 / 96=z
 refine bq (av (v:=.int N) (by simp[m1,m2,hN]) (by simp) rfl) ?_
 simp only[List.set_cons_zero,List.set_cons_succ]
 have dz:cH (.int z) (.int 5)=.ok (.int (z / 5)):=dw (by decide) (by decide)
 obtain⟨fs,hf1,hf2,hf3⟩:=jZ (caps:=[2,1,0]) (k:=1) (mi:=bx (ae (ad 3) aj)) (g:=tgN 3) (me:=am (au pP) (ae (mOp bT (ad 0) (mC (.int (5)))) (ae (ad 1) (ae (ad 3) (ae (am (au eP) (ae (ad 2) (ae (mC (.int (2))) aj))) aj))))) (env:=[some (.lst fl (iL ns)),some (.int sp),some (.int z),some (.int N),none,none,none,none]) (N:=N) (P:=fun v=>0<=v/\v < sp) (cZ (n:=N) (by simp) (by omega)) (by omega) fun j hj=>by
  obtain⟨v,e1,e2⟩:=lM (p:=j) (z % 5) (cell ns 2) h1 h2 (by omega)
  exact⟨[some (.int z),some (.int sp),some (.lst fl (iL ns)),some (.int (0+j))],v,by simp[tgN,aW,bK,h.borrow],by simp[aS,h.lend,h.toBor,c2,e1,aU],e2⟩
 refine bq (av (v:=.lst .own (iL fs)) hf1 (by simp) rfl) ?_
 simp only[List.set_cons_zero,List.set_cons_succ]
 obtain⟨os,ho1,ho2,ho3⟩:=jZ (caps:=[2,1,0]) (k:=1) (mi:=bx (ae (ad 3) aj)) (g:=tgN 3) (me:=am (au pP) (ae (mOp bT (mOp cH (ad 0) (mC (.int (5)))) (mC (.int (5)))) (ae (ad 1) (ae (ad 3) (ae (am (au eP) (ae (ad 2) (ae (mC (.int (3))) aj))) aj))))) (env:=[some (.lst fl (iL ns)),some (.int sp),some (.int z),some (.int N),some (.lst .own (iL fs)),none,none,none]) (N:=N) (P:=fun v=>0<=v/\v < sp) (cZ (n:=N) (by simp) (by omega)) (by omega) fun j hj=>by
  obtain⟨v,e1,e2⟩:=lM (p:=j) (z / 5 % 5) (cell ns 3) h1 h2 (by omega)
  exact⟨[some (.int z),some (.int sp),some (.lst fl (iL ns)),some (.int (0+j))],v,by simp[tgN,aW,bK,h.borrow],by simp[aS,dz,h.lend,h.toBor,c3,e1,aU],e2⟩
 refine bq (av (v:=.lst .own (iL os)) ho1 (by simp) rfl) ?_
 simp only[List.set_cons_zero,List.set_cons_succ]
 have key:∀e:En,e[0]?=some (some (.lst fl (iL ns)))->cC (bN (ad 0) (cD (mC (.int (4)))) bB) e=.ok (iL (ns.drop 4)):=fun e he=>by
  refine cR (f:=.own) ?_ rfl (by simp) (by simp)
  have ec:dX (iL ns) (some 4) none=iL (ns.drop 4):=oO ns 4 rfl
  simp only[uu,gw,eC,iw,fv,he]
  simp[h.lend,ec]
 refine k4 (fun _ e=>∃fs os x6 x7,e=[some (.lst fl (iL ns)),some (.int sp),some (.int z),some (.int N),some (.lst .own (iL fs)),some (.lst .own (iL os)),x6,x7]/\cw sp fs/\cw sp os) (key _ rfl) ⟨fs,os,_,_,rfl,⟨by omega,hf3⟩,⟨by omega,ho3⟩⟩ (fun k x e hx hP=>?_) (fun e hP=>?_)
 ·clear hf1 hf2 hf3 ho1 ho2 ho3 fs os
  obtain⟨fs,os,x6,x7,rfl,hf,ho⟩:=hP
  obtain⟨y,_,rfl⟩:=gW hx
  have mN:bS (.int 2) (.int (N:Int))=.ok (.int (2 * (N:Int))):=eh (.inl ⟨by decide,by decide⟩)
  have n2:(0:Int) < 2 * (N:Int):=by omega
  have dN:cH (.int y) (.int (2 * (N:Int)))=.ok (.int (y / (2 * (N:Int)))):=dw n2 (by omega)
  obtain⟨p,hp⟩:∃p:Nat,y % (2 * (N:Int))=p:=⟨(y % (2 * (N:Int))).toNat,by have:=Int.emod_nonneg y (show 2 * (N:Int)≠ 0 by omega);omega⟩
  have hp2:p < 2 * N:=by have:=Int.emod_lt_of_pos y n2;omega
  have sI:∀(rs:List Int) (c:Nat) (v:Int),(iL rs).set c (.int v)=iL (rs.set c v):=fun rs c v=>by simp[iL,List.map_set]
  have vr:∀x:Int,0<=x % sp/\x % sp < sp:=fun x=>⟨Int.emod_nonneg _ (by omega),Int.emod_lt_of_pos _ sp0⟩
  have lf:=hf.len
  have lo:=ho.len
  refine⟨_,dH rfl,?_⟩
  simp only[List.set_cons_zero,List.set_cons_succ]
  refine a_ (av (v:=.int p) (by simp[mN,aS n2,hp]) (by simp) rfl) ?_
  simp only[List.set_cons_zero,List.set_cons_succ]
  by_cases q:p < N
  ·refine bj (jA (by simp[q]) (kU (v:=.int (y / (2 * (N:Int)) % sp)) (xs:=iL fs) (j:=p) (n:=p) (by simp[mN,dN,aS sp0]) rfl (by simp) (kx (by rw[a9];omega)) (by simp))) ?_
   simp only[List.set_cons_zero,List.set_cons_succ,sI]
   exact⟨_,_,_,_,rfl,hf.set (vr _) p,ho⟩
  ·refine bj (b6 (by simp[q]) (kU (v:=.int (y / (2 * (N:Int)) % sp)) (xs:=iL os) (j:=((p - N:Nat):Int)) (n:=p - N) (by simp[mN,dN,aS sp0]) rfl (by simp;omega) (kx (by rw[a9];omega)) (by simp))) ?_
   simp only[List.set_cons_zero,List.set_cons_succ,sI]
   exact⟨_,_,_,_,rfl,hf,ho.set (vr _) (p - N)⟩
 ·obtain⟨fs,os,x6,x7,rfl,hf,ho⟩:=hP
  exact b0 (v:=.tup [.lst .own (iL fs),.lst .own (iL os)]) rfl ⟨fs,os,rfl,hf,ho⟩
theorem rY{n:Nat}{sp:Int}(z:Int)(h1:2<=sp)(h2:sp<=4)(n8:n<=8):∃cs:List Int,rN [.int z,.int n,.int sp]=.ok (.lst .own (iL cs))/\cs.length=n/\InC sp cs:=by
 have sp0:0 < sp:=by omega
 suffices hh:jB (sm [some (.int z),some (.int n),some (.int sp),none,none]) (fun x=>∃cs:List Int,x=.lst .own (iL cs)/\cs.length=n/\InC sp cs) by
  obtain⟨x,e,cs,rfl,q⟩:=hh
  exact⟨cs,aJ e,q⟩
 unfold sm
 refine bq (av (v:=.lst .own []) (by simp) (by simp) rfl) ?_
 simp only[List.set_cons_zero,List.set_cons_succ]
 refine k4 (fun k e=>∃(y:Int) (cs:List Int) (x4:Option PV),e=[some (.int y),some (.int n),some (.int sp),some (.lst .own (iL cs)),x4]/\cs.length=k/\InC sp cs/\k<=n) (cZ (n:=n) (by simp) (by omega)) ⟨z,[],none,rfl,rfl,fun _ w=>(nomatch w),by omega⟩ (fun k x e hx hP=>?_) (fun e hP=>?_)
 ·obtain⟨y,cs,x4,rfl,hl,hc,_⟩:=hP
  obtain⟨hk,rfl⟩:=iJ hx
  have pl:∀f,f≠.mod->ay (.lst .own [.int (y % sp)]) (.lst f (iL cs))=.ok (.lst .own (iL (y % sp::cs))):=fun f hf=>by
   rw[cm (by decide) hf (by simp;omega)]
   rfl
  have dv:cH (.int y) (.int sp)=.ok (.int (y / sp)):=dw sp0 (by omega)
  refine⟨_,dH rfl,?_⟩
  simp only[List.set_cons_zero,List.set_cons_succ]
  refine a_ (av (v:=.lst .own (iL (y % sp::cs))) (by simp[aS sp0,pl]) (by simp) rfl) ?_
  simp only[List.set_cons_zero,List.set_cons_succ]
  refine bj (av (v:=.int (y / sp)) (by simp[dv]) (by simp) rfl) ?_
  simp only[List.set_cons_zero,List.set_cons_succ]
  refine⟨_,_,_,rfl,by simp[hl],fun c hc'=>?_,by omega⟩
  rcases List.mem_cons.mp hc' with rfl | hc'
  ·exact⟨Int.emod_nonneg _ (by omega),Int.emod_lt_of_pos _ sp0⟩
  ·exact hc c hc'
 ·obtain⟨y,cs,x4,rfl,hl,hc,_⟩:=hP
  rw[cb]at hl
  exact b0 (gH rfl) ⟨cs,rfl,hl,hc⟩
structure Bf(f:Fl):Prop where
 le:f.lend=f
 tb:f.toBor=f
 bo:f.borrow=f
 fz:f.freeze=f
 nl:f.isLnt=false
 no:f.isOwn=false
 nm:f≠.mod
theorem dP:Bf .bor:=⟨rfl,rfl,rfl,rfl,rfl,rfl,by decide⟩
theorem kJ:Bf .frz:=⟨rfl,rfl,rfl,rfl,rfl,rfl,by decide⟩
structure Ce(n:Nat)(s:Int)(cs:List Int):Prop where
 len:cs.length=n
 inn:InC s cs
def mv(n:Nat)(D:List Int->Nat->Int)(cs:List Int):List Int:=((List.range n).filter fun i=>decide (D cs i≠gt cs i)).map fun i:Nat=>(i:Int)
def stp(n:Nat)(D:List Int->Nat->Int)(cs nm:List Int):List Int:=(List.range n).map fun i:Nat=>if nm.contains (i:Int)then D cs i else gt cs i
def bU(l:List Int):List (List Int):=l.foldl (fun S a=>S++S.map (·++[a])) [[]]
def trn(n:Nat)(D:List Int->Nat->Int)(many:Bool)(cs:List Int):List (List Int):=if many then(bU (mv n D cs)).drop 1 else(mv n D cs).map fun a=>[a]
structure gD(l0:List Int)(S:List (List Int)):Prop where
 ex:∃S',S=[]::S'/\(∀nm∈S',nm≠[]/\(∀a∈nm,a∈l0)/\nm.Nodup)/\(l0≠[]->S'≠[])
 len:S.length=2 ^ l0.length
theorem gD.step{l0:List Int}{S:List (List Int)}{a:Int}(h:gD l0 S)(ha:a∉l0):gD (l0++[a]) (S++S.map (·++[a])):=by
 obtain⟨⟨S',rfl,h1,h2⟩,hl⟩:=h
 refine⟨⟨S' ++([]::S').map (·++[a]),rfl,fun nm hm=>?_,fun _=>by simp⟩,?_⟩
 ·rcases List.mem_append.mp hm with hm | hm
  ·obtain⟨p1,p2,p3⟩:=h1 nm hm
   exact⟨p1,fun x hx=>List.mem_append_left _ (p2 x hx),p3⟩
  ·obtain⟨m,hm2,rfl⟩:=List.mem_map.mp hm
   have hm':(∀x∈m,x∈l0)/\m.Nodup:=by
    rcases List.mem_cons.mp hm2 with e | hm2
    ·subst e
     exact⟨fun x hx=>(nomatch hx),List.nodup_nil⟩
    ·exact(h1 m hm2).2
   refine⟨by simp,fun x hx=>?_,?_⟩
   ·rcases List.mem_append.mp hx with hx | hx
    ·exact List.mem_append_left _ (hm'.1 x hx)
    ·exact List.mem_append_right _ hx
   ·rw[List.nodup_append]
    exact⟨hm'.2,by simp,fun x hx y hy e=>ha (by rw[List.mem_singleton]at hy;rw[<- hy,<- e];exact hm'.1 x hx)⟩
 ·rw[List.length_append,List.length_map,hl,List.length_append,List.length_singleton,Nat.pow_succ]
  omega
theorem gD.fold:∀(l l0:List Int) (S:List (List Int)),gD l0 S->(l0++l).Nodup->gD (l0++l) (l.foldl (fun S a=>S++S.map (·++[a])) S)
 | [],l0,S,h,_=>by simpa using h
 | a::l,l0,S,h,hn=>by
  have hn':((l0++[a])++ l).Nodup:=by simpa using hn
  have ha:a∉l0:=fun hm=>by
   rw[List.nodup_append]at hn
   exact hn.2.2 a hm a List.mem_cons_self rfl
  have:=gD.fold l (l0++[a]) _ (h.step ha) hn'
  simpa using this
theorem fU{l:List Int}(h:l.Nodup):gD l (bU l):=by
 have:=gD.fold l [] [[]] ⟨⟨[],rfl,fun _ w=>(nomatch w),fun w=>absurd rfl w⟩,rfl⟩ (by simpa using h)
 rw[List.nil_append]at this
 exact this
structure Ru(r:PV)(n:Nat)(s:Int)(al:Bool)(D:List Int->Nat->Int):Prop where
 le:r.mapF Fl.lend=r
 tb:r.mapF Fl.toBor=r
 bo:r.mapF Fl.borrow=r
 a0:az 0 r=.ok (.int n)
 a8:az 8 r=.ok (.bl al)
 n1:1<=n
 n3:n<=8
 due:∀fc cs k,Bf fc->Ce n s cs->k < n->ju bp (.ok [.lst fc (iL cs),.int k]) r=.ok (.int (D cs k))/\0<=D cs k/\D cs k < s
 mv:∀x,ju bc x r=x.bind fun xs=>au lG (r::xs)
 tu:∀x,ju aL x r=x.bind fun xs=>au lH (r::xs)
def Md(al many:Bool):Prop:=many=true->al=false
section
variable{r:PV}{al:Bool}{z n:Nat}{s:Int}{D:List Int->Nat->Int}{cs:List Int}{fc:Fl}
theorem gj:(mv n D cs).Nodup:=by
 unfold mv
 have:((List.range n).filter fun i=>decide (D cs i≠gt cs i)).Nodup:=List.Pairwise.filter _ List.nodup_range
 exact List.Pairwise.map _ (fun a b (h:a≠b)=>by omega) this
theorem qS{a:Int}(h:a∈mv n D cs):∃i:Nat,a=i/\i < n/\D cs i≠gt cs i:=by
 unfold mv at h
 obtain⟨i,hi,rfl⟩:=List.mem_map.mp h
 obtain⟨h1,h2⟩:=List.mem_filter.mp hi
 exact⟨i,rfl,List.mem_range.mp h1,by simpa using h2⟩
theorem km:(mv n D cs).length<=n:=by
 unfold mv
 rw[List.length_map]
 have:=List.length_filter_le (fun i=>decide (D cs i≠gt cs i)) (List.range n)
 rwa [List.length_range]at this
theorem sL{many:Bool}{nm:List Int}(h:nm∈trn n D many cs):nm≠[]/\(∀a∈nm,a∈mv n D cs)/\nm.Nodup:=by
 unfold trn at h
 cases many with
 | true =>
  obtain⟨⟨S',e,h1,_⟩,_⟩:=fU (gj (n:=n) (D:=D) (cs:=cs))
  rw[if_pos rfl,e]at h
  exact h1 nm h
 | false =>
  rw[if_neg (by decide)]at h
  obtain⟨a,ha,rfl⟩:=List.mem_map.mp h
  exact⟨by simp,fun x hx=>by rw[List.mem_singleton.mp hx];exact ha,by simp⟩
theorem nC{many:Bool}(h:n<=8):(trn n D many cs).length<=256:=by
 have hm:=km (n:=n) (D:=D) (cs:=cs)
 unfold trn
 cases many with
 | true =>
  obtain⟨_,hl⟩:=fU (gj (n:=n) (D:=D) (cs:=cs))
  have:2 ^ (mv n D cs).length<=2 ^ 8:=Nat.pow_le_pow_right (by decide) (by omega)
  simp
  omega
 | false=>simp;omega
theorem pq(hB:Bf fc)(K:Ru r n s al D)(C:Ce n s cs):lG [r,.lst fc (iL cs)]=.ok (.lst .own (iL (mv n D cs))):=by
 have hn:=C.len
 have n6:=K.n3
 refine aJ ?_
 show xp [some r,some (.lst fc (iL cs))]=_
 unfold xp mv
 refine ce ?_ (by simp)
 refine da (xs:=cA 0 n) (cZ (n:=n) (by simp[K.le,K.a0]) (by omega)) (by rw[cb];omega) (jk (fun k=>decide (D cs k≠gt cs k)) (fun k=>(k:Int)) n fun k hk=>⟨[some r,some (.lst fc (iL cs)),some (.int (0+k))],by simp[tgN,aW,bK,PV.borrow,K.bo,hB.bo],?_,fun _=>by simp⟩)
 have gk:aC (.lst fc (iL cs)) (.int (k:Int))=.ok (.int (gt cs k)):=by simpa using dM (f:=fc) (cs:=cs) (i:=k) (by omega) (by omega)
 simp[K.le,hB.le,(K.due fc cs k hB C hk).1,gk]
theorem iN{nm:List Int}{f:Fl}(K:Ru r n s al D)(hf:Bf f)(hd:nm.Nodup)(hr:∀x∈nm,0<=x/\x < n)(ha:al=true->nm.length<=1)(hl:nm.length<=1000):wP [r,.lst f (iL nm)]=.ok .non:=by
 refine gG ?_
 show Ends (xr [some r,some (.lst f (iL nm)),none])
 unfold xr
 refine jf (b6 ?_ aD) ?_
 ·cases al with
  | false=>simp[K.le,K.a8]
  | true =>
   have:=ha rfl
   simp[K.le,K.a8]
   omega
 refine rT (fun _ e=>∃x,e=[some r,some (.lst f (iL nm)),x]) (xs:=iL nm) (cR (f:=f) (by simp[hf.le]) hf.nl (by simp) (by simp)) ⟨_,rfl⟩ (fun k x e hx hP=>?_) (fun e hP=>?_)
 ·obtain⟨y,rfl⟩:=hP
  obtain⟨m,hm,rfl⟩:=gW hx
  obtain⟨h1,h2⟩:=hr m (List.mem_of_getElem? hm)
  refine⟨_,dH rfl,bj (b6 ?_ aD) ⟨_,rfl⟩⟩
  simp[K.le,K.a0,show ¬m < 0 by omega,show ¬(n:Int)<= m by omega]
 ·obtain⟨y,rfl⟩:=hP
  exact jX (b6 (by simp[hf.le,pG hl,rV hd]) aD)
theorem on{many:Bool}{nm:List Int}(hm:Md al many)(h:nm∈trn n D many cs):nm.Nodup/\(∀x∈nm,0<=x/\x < n)/\nm.length<=n/\(al=true->nm.length<=1):=by
 obtain⟨_,h2,h3⟩:=sL h
 refine⟨h3,fun x hx=>?_,?_,fun ha=>?_⟩
 ·obtain⟨i,rfl,hi,_⟩:=qS (h2 x hx)
  omega
 ·exact Nat.le_trans (oq h3 h2) km
 ·cases many with
  | true=>rw[hm rfl]at ha;cases ha
  | false =>
   unfold trn at h
   rw[if_neg (by decide)]at h
   obtain⟨a,_,rfl⟩:=List.mem_map.mp h
   simp
theorem oS{many:Bool}{nm:List Int}(hm:Md al many)(hB:Bf fc)(K:Ru r n s al D)(C:Ce n s cs)(h:nm∈trn n D many cs):lH [r,.lst fc (iL cs),.lst .bor (iL nm)]=.ok (.lst .own (iL (stp n D cs nm))):=by
 obtain⟨g1,g2,g3,g4⟩:=on hm h
 have hn:=C.len
 have n6:=K.n3
 refine aJ ?_
 show xq [some r,some (.lst fc (iL cs)),some (.lst .bor (iL nm))]=_
 unfold xq stp
 have rf:=iN K dP g1 g2 g4 (by omega)
 refine ak (iy (v:=.non) (by simp[K.le,K.tb,rf,aU])) (ce ?_ (by simp))
 refine da (xs:=cA 0 n) (cZ (n:=n) (by simp[K.le,K.a0]) (by omega)) (by rw[cb];omega) (gZ 0 (fun i:Nat=>if nm.contains (i:Int)then D cs i else gt cs i) n fun k hk=>⟨[some (.lst .bor (iL nm)),some r,some (.lst fc (iL cs)),some (.int (0+k))],by simp[tgN,aW,bK,PV.borrow,K.bo,hB.bo],?_⟩)
 have gk:aC (.lst fc (iL cs)) (.int (k:Int))=.ok (.int (gt cs k)):=by simpa using dM (f:=fc) (cs:=cs) (i:=k) (by omega) (by omega)
 have dk:=(K.due fc cs k hB C hk).1
 by_cases q:nm.contains (k:Int)=true
 ·simp only[q,if_true]
  simp at q
  simp[q,K.le,hB.le,dk,aU]
 ·simp only[q]
  simp at q
  simp[q,hB.le,gk]
theorem mH{env:En}{i:Nat}{m:ME}{xs ys:List PV}(h1:env[i]?=some (some (.lst .own xs)))(h2:m env=.ok (.lst .own ys))(h3:(PV.lst .own ys).noLnt=true)(h4:aW i env=true)(h5:xs.length+ys.length<=10000000):eZ i m env=.next (env.set i (some (.lst .own (xs++ys)))):=by
 unfold eZ
 rw[h1,h2]
 simp only[h3,h4,Bool.and_self,Bool.true_and,decide_eq_true_eq]
 rw[if_pos h5]
theorem kM{α:Type}(f g:α->PV):∀l:List α,l_ (l.map f) (l.map g)=l.map fun x=>.tup [f x,g x]
 | []=>rfl
 | a::l=>by simp[l_,kM f g l]
def rwF(f:Fl)(p:List Int×List Int):PV:=.tup [.lst f (iL p.1),.lst f (iL p.2)]
theorem cO{p:Fl->Bool}{f:Fl}(h:p f=false)(ps:List (List Int×List Int)):hasL p (ps.map (rwF f))=false:=by
 induction ps with
 | nil=>simp
 | cons a l ih=>simp[ih,rwF,h]
@[simp] theorem ip{g:Fl->Fl}{f:Fl}(ps:List (List Int×List Int)):mapL g (ps.map (rwF f))=ps.map (rwF (g f)):=by
 induction ps with
 | nil=>simp
 | cons a l ih=>simp[ih,rwF]
def prs(n:Nat)(D:List Int->Nat->Int)(many:Bool)(cs:List Int):List (List Int×List Int):=(trn n D many cs).map fun nm=>(nm,stp n D cs nm)
theorem kP{l:List Int}(hl:l.length<=8)(hd:l.Nodup)(k:Nat):(bU (l.take k)).length<=256/\∀nm∈bU (l.take k),nm.length<=8:=by
 have S:=fU (List.Sublist.nodup (List.take_sublist k l) hd)
 constructor
 ·rw[S.len]
  have:2 ^ (l.take k).length<=2 ^ 8:=Nat.pow_le_pow_right (by decide) (by rw[List.length_take];omega)
  omega
 ·intro nm hm
  obtain⟨⟨S',e,h1,_⟩,_⟩:=S
  rw[e]at hm
  rcases List.mem_cons.mp hm with rfl | hm
  ·simp
  ·obtain⟨_,h2,h3⟩:=h1 nm hm
   have:=oq h3 h2
   rw[List.length_take]at this
   omega
theorem jF{l:List Int}{k:Nat}{a:Int}(ha:l[k]?=some a):bU (l.take (k+1))=bU (l.take k)++(bU (l.take k)).map (·++[a]):=by
 unfold bU
 rw[List.take_succ,ha]
 simp
theorem mF{l:List Int}(hl:l.length<=8)(hd:l.Nodup):oJ [.lst .bor (iL l)]=.ok (.lst .own (llL .own ((bU l).drop 1))):=by
 refine aJ ?_
 show sj [some (.lst .bor (iL l)),none,none]=_
 unfold sj
 refine ak (av (v:=.lst .own (llL .own [[]])) (by simp[llL]) (by simp[llL]) rfl) ?_
 simp only[List.set_cons_zero,List.set_cons_succ]
 refine dE (fun k e=>∃x2,e=[some (.lst .bor (iL l)),some (.lst .own (llL .own (bU (l.take k)))),x2]) (xs:=iL l) (cR (f:=.bor) (by simp) rfl (by simp) (by simp)) ⟨none,by simp[bU]⟩ (fun k x e hx hP=>?_) (fun e hP=>?_)
 ·obtain⟨x2,rfl⟩:=hP
  obtain⟨a,ha,rfl⟩:=gW hx
  obtain⟨hS,hN⟩:=kP hl hd k
  rw[jF ha]
  refine⟨_,dH rfl,?_⟩
  simp only[List.set_cons_zero,List.set_cons_succ]
  generalize bU (l.take k)=S at *
  have cp:bv [2] 1 (eJ (ad 1)) (tgN 1) bI (mOp ay (ad 1) (bV (ae (ad 0) aj))) [some (.lst .bor (iL l)),some (.lst .own (llL .own S)),some (.int a)]=.ok (.lst .own (llL .own (S.map (·++[a])))):=by
   refine da (xs:=llL .lnt S) (by simp) (by simp;omega) ?_
   have:=db (env:=bK [2] 1 [some (.lst .bor (iL l)),some (.lst .own (llL .own S)),some (.int a)]) (g:=tgN 1) (me:=mOp ay (ad 1) (bV (ae (ad 0) aj))) (a:=fun nm:List Int=>PV.lst .lnt (iL nm)) (f:=fun nm=>PV.lst .own (iL (nm++[a]))) S fun nm hm=>⟨[some (.int a),some (.lst .bor (iL nm))],by simp[tgN,aW,bK,PV.borrow],?_,by simp,by simp⟩
   ·rw[show llL .own (S.map (·++[a]))=S.map fun nm=>PV.lst .own (iL (nm++[a])) by simp[llL]]
    exact this
   ·have:=hN nm hm
    simp
    rw[cm (by decide) (by decide) (by simp;omega)]
    simp[iL]
  refine bj (mH rfl cp (by simp only[cU,dG];rw[jb _ _ _ rfl];rfl) rfl (by simp;omega)) ⟨some (.int a),?_⟩
  simp only[List.set_cons_zero,List.set_cons_succ]
  simp[llL]
 ·obtain⟨x2,rfl⟩:=hP
  rw[a9,List.take_length]
  have:=ji (llL .own (bU l)) 1 (by rw[oA,(fU hd).len];exact Nat.pow_pos (by decide))
  rw[show((1:Nat):Int)=1 from rfl]at this
  show gp 1 1 _=_
  unfold gp
  dsimp only[List.getElem?_cons_succ,List.getElem?_cons_zero]
  rw[this]
  simp[llL]
theorem iO{many:Bool}(K:Ru r n s al D)(hm:Md al many):uk [r,.bl many]=.ok .non:=by
 refine gG ?_
 show Ends (si [some r,some (.bl many)])
 unfold si
 refine jX (b6 ?_ aD)
 cases many with
 | false=>simp
 | true=>simp[K.le,K.a8,hm rfl]
theorem qR{many:Bool}(hm:Md al many)(hB:Bf fc)(K:Ru r n s al D)(C:Ce n s cs):gv [r,.lst fc (iL cs),.bl many]=.ok (.lst .own ((prs n D many cs).map (rwF .own))):=by
 have n6:=K.n3
 have ml:=km (n:=n) (D:=D) (cs:=cs)
 have md:=gj (n:=n) (D:=D) (cs:=cs)
 refine aJ ?_
 show lY [some r,some (.lst fc (iL cs)),some (.bl many),none,none]=_
 unfold lY
 refine ak (iy (v:=.non) (by simp[K.le,K.tb,iO K hm,aU])) ?_
 refine ak (av (v:=.lst .own (iL (mv n D cs))) (by simp[K.le,K.tb,K.mv,hB.le,hB.tb,pq hB K C,aU]) (by simp) rfl) ?_
 simp only[List.set_cons_zero,List.set_cons_succ]
 have e:(lv (aX (ad 2)) (am (au oJ) (ae (ad 3) aj)) (bv [] 1 (eJ (ad 3)) (tgN 0) bI (bV (ae (ad 0) aj)))) [some r,some (.lst fc (iL cs)),some (.bl many),some (.lst .own (iL (mv n D cs))),none]=.ok (.lst .own (llL .own (trn n D many cs))):=by
  cases many with
  | true =>
   have:=mF (l:=mv n D cs) (by omega) md
   have hb:hasL Fl.isBor (llL .own ((bU (mv n D cs)).drop 1))=false:=jb _ _ _ rfl
   simp only[rS,lJ,eC,oM,gx,je,lX]
   simp only[List.getElem?_cons_zero,List.getElem?_cons_succ,cG,kr,cu,dW,Res.ok_bind,kN,if_true,rh,fi,i4,lX,oU,this,trn]
   unfold aU
   rw[dG,hb]
   rfl
  | false =>
   have:=db (env:=bK [] 1 [some r,some (.lst fc (iL cs)),some (.bl false),some (.lst .own (iL (mv n D cs))),none]) (g:=tgN 0) (me:=bV (ae (ad 0) aj)) (a:=PV.int) (f:=fun a=>PV.lst .own (iL [a])) (mv n D cs) fun a ha=>⟨[some (.int a)],by simp[tgN,aW,cK,bK],by simp,by simp,by simp⟩
   have c:=da (caps:=[]) (k:=1) (mi:=eJ (ad 3)) (env:=[some r,some (.lst fc (iL cs)),some (.bl false),some (.lst .own (iL (mv n D cs))),none]) (xs:=iL (mv n D cs)) (by simp) (by simp;omega) this
   simp only[rS,lJ,eC]
   simp only[List.getElem?_cons_zero,List.getElem?_cons_succ,cG,kr,Res.ok_bind,kN,Bool.false_eq_true,if_false,c]
   simp[trn,llL]
 refine ak (av e (by simp only[cU,dG];rw[jb _ _ _ rfl];rfl) rfl) ?_
 simp only[List.set_cons_zero,List.set_cons_succ]
 have tl:=nC (n:=n) (D:=D) (cs:=cs) (many:=many) n6
 have cp:=db (env:=bK [0,1] 1 [some r,some (.lst fc (iL cs)),some (.bl many),some (.lst .own (iL (mv n D cs))),some (.lst .own (llL .own (trn n D many cs)))]) (g:=tgN 2) (me:=fQ aL (ad 0) (ae (ad 1) (ae (ad 2) aj))) (a:=fun nm:List Int=>PV.lst .own (iL nm)) (f:=fun nm=>PV.lst .own (iL (stp n D cs nm))) (trn n D many cs) fun nm hnm=>⟨[some r,some (.lst fc (iL cs)),some (.lst .bor (iL nm))],by simp[tgN,aW,bK,PV.borrow,K.bo,hB.bo],by simp[K.le,K.tb,K.tu,hB.le,hB.tb,oS hm hB K C hnm,aU],by simp,by simp⟩
 show gM 4 [0,1] _ _=_
 unfold gM
 dsimp only[List.getElem?_cons_succ,List.getElem?_cons_zero]
 rw[if_pos (by rw[oA];omega)]
 have cp':bO (tgN [0,1].length) bI (fQ aL (ad 0) (ae (ad 1) (ae (ad 2) aj))) (bK [0,1] 1 [some r,some (.lst fc (iL cs)),some (.bl many),some (.lst .own (iL (mv n D cs))),some (.lst .own (llL .own (trn n D many cs)))]) (llL .own (trn n D many cs))=_:=cp
 rw[cp',show llL .own (trn n D many cs)=(trn n D many cs).map fun nm=>PV.lst .own (iL nm)from rfl]
 dsimp only
 rw[kM]
 simp[prs,rwF,Function.comp_def]
end
abbrev lnV(f:Fl)(n:Nat):PV:=.obj f 3 [0,1,2] [.int n,.tup ((List.range (n - 1)).map fun k:Nat=>.tup [.int k,.int ((k:Int)+1)]),.tup ((List.range n).map fun k:Nat=>.tup (iL ((if 0 < k then [(k:Int) - 1]else [])++(if k+1 < n then [(k:Int)+1]else []))))]
abbrev jc(f:Fl)(n root:Nat):PV:=.obj f 2 [3,4,5,6,0,7,8] [.int n,lnV .frz n,.tup ((List.range n).map fun k:Nat=>if k=root then .int 0 else .non),.int n,.int n,.int ((n:Int)+1),.bl true]
theorem t7{n:Nat}(n1:1<=n)(n10:n<=10):au rL [.int n]=.ok (lnV .own n):=by
 have hn:n=1\/n=2\/n=3\/n=4\/n=5\/n=6\/n=7\/n=8\/n=9\/n=10:=by omega
 rcases hn with rfl | rfl | rfl | rfl | rfl | rfl | rfl | rfl | rfl | rfl<;>kernel_rfl
theorem wL{n root:Nat}(n1:1<=n)(n10:n<=10)(h:root < n):au wS [.obj .own 2 [] [],lnV .own n,.int root]=.ok (jc .own n root):=by
 have hn:n=1\/n=2\/n=3\/n=4\/n=5\/n=6\/n=7\/n=8\/n=9\/n=10:=by omega
 have hr:root=0\/root=1\/root=2\/root=3\/root=4\/root=5\/root=6\/root=7\/root=8\/root=9:=by omega
 rcases hn with rfl | rfl | rfl | rfl | rfl | rfl | rfl | rfl | rfl | rfl<;>rcases hr with rfl | rfl | rfl | rfl | rfl | rfl | rfl | rfl | rfl | rfl<;>first |(exfalso;omega) | kernel_rfl
theorem ou{g:Fl->Fl}:∀{xs:List PV},(∀x∈xs,x.mapF g=x)->mapL g xs=xs
 | [],_=>by simp
 | x::xs,h=>by
  rw[fi,h x List.mem_cons_self,ou fun y hy=>h y (List.mem_cons_of_mem _ hy)]
theorem eX{α:Type}{g:Fl->Fl}{l:List α}{f:α->PV}(h:∀x,(f x).mapF g=f x):mapL g (l.map f)=l.map f:=ou fun y hy=>by
 obtain⟨x,_,rfl⟩:=List.mem_map.mp hy
 exact h x
theorem e_{g:Fl->Fl}{f:Fl}{n root:Nat}(hg:g .frz=.frz):(jc f n root).mapF g=jc (g f) n root:=by
 have h1:mapL g ((List.range (n - 1)).map fun k:Nat=>PV.tup [.int k,.int ((k:Int)+1)])=_:=eX fun k=>by simp
 have h2:mapL g ((List.range n).map fun k:Nat=>PV.tup (iL ((if 0 < k then [(k:Int) - 1]else [])++(if k+1 < n then [(k:Int)+1]else []))))=_:=eX fun k=>by simp
 have h3:mapL g ((List.range n).map fun k:Nat=>if k=root then PV.int 0 else .non)=_:=eX fun k=>by split<;>simp
 simp only[lu,fi,i4,eY,ls,kr,h1,h2,h3,hg]
theorem gu{α:Type}{p:Fl->Bool}{f:α->PV}:∀{l:List α},(∀x,(f x).has p=false)->hasL p (l.map f)=false
 | [],_=>by simp
 | x::l,h=>by simp[h x,gu (l:=l) h]
theorem rJ{p:Fl->Bool}{f:Fl}{n root:Nat}(hp:p .frz=false):(jc f n root).has p=p f:=by
 have h1:hasL p ((List.range (n - 1)).map fun k:Nat=>PV.tup [.int k,.int ((k:Int)+1)])=false:=gu fun k=>by simp
 have h2:hasL p ((List.range n).map fun k:Nat=>PV.tup (iL ((if 0 < k then [(k:Int) - 1]else [])++(if k+1 < n then [(k:Int)+1]else []))))=false:=gu fun k=>by simp
 have h3:hasL p ((List.range n).map fun k:Nat=>if k=root then PV.int 0 else .non)=false:=gu fun k=>by split<;>simp
 simp[h1,h2,h3,hp]
def nbF(n i:Nat):List Int:=(if 0 < i then [(i:Int) - 1]else [])++(if i+1 < n then [(i:Int)+1]else [])
def stF(n root:Nat):List PV:=(List.range n).map fun k:Nat=>if k=root then PV.int 0 else .non
def eQ(n root:Nat)(cs:List Int)(i:Nat):Int :=
 (if i+1 < n then min (if 0 < i then min (n:Int) (gt cs (i - 1)+1)else n) (gt cs (i+1)+1)else(if 0 < i then min (n:Int) (gt cs (i - 1)+1)else n)) * (if i=root then 0 else 1)
theorem oz{g:Fl->Fl}{f:Fl}{n:Nat}:(lnV f n).mapF g=lnV (g f) n:=by
 have h1:mapL g ((List.range (n - 1)).map fun k:Nat=>PV.tup [.int k,.int ((k:Int)+1)])=_:=eX fun k=>by simp
 have h2:mapL g ((List.range n).map fun k:Nat=>PV.tup (iL ((if 0 < k then [(k:Int) - 1]else [])++(if k+1 < n then [(k:Int)+1]else []))))=_:=eX fun k=>by simp
 simp only[lu,fi,i4,eY,ls,h1,h2]
structure zJ(r ln:PV)(n root:Nat):Prop where
 le:r.mapF Fl.lend=r
 tb:r.mapF Fl.toBor=r
 bo:r.mapF Fl.borrow=r
 a0:az 0 r=.ok (.int n)
 a3:az 3 r=.ok (.int n)
 a4:az 4 r=.ok ln
 a5:az 5 r=.ok (.tup (stF n root))
 a6:az 6 r=.ok (.int n)
 a8:az 8 r=.ok (.bl true)
 lb:ln.mapF Fl.toBor=ln
 of:∀x,ju cv x r=x.bind fun xs=>au rQ (r::xs)
 be:∀x,ju c_ x ln=x.bind fun xs=>au uj (ln::xs)
 ba:∀i:Nat,i < n->uj [ln,.int i]=.ok (.lst .own (iL (nbF n i)))
 du:∀x,ju bp x r=x.bind fun xs=>au rK (r::xs)
 mv:∀x,ju bc x r=x.bind fun xs=>au lG (r::xs)
 tu:∀x,ju aL x r=x.bind fun xs=>au lH (r::xs)
theorem lF{n root:Nat}:zJ (jc .bor n root) (lnV .frz n) n root where
 le:=e_ rfl
 tb:=e_ rfl
 bo:=e_ rfl
 a0:=by simp[az,dO]
 a3:=by simp[az,dO]
 a4:=by simp[az,dO]
 a5:=by simp[az,dO,stF]
 a6:=by simp[az,dO]
 a8:=by simp[az,dO]
 lb:=oz
 of:=fun x=>rfl
 be:=fun x=>rfl
 ba:=fun i hi=>by
  refine aJ (v:=.lst .own (iL (nbF n i))) ?_
  show xl [some (lnV .frz n),some (.int i)]=_
  unfold xl
  refine ce ?_ (by simp)
  have lm:(lnV .frz n).mapF Fl.lend=lnV .frz n:=oz
  have a2:az 2 (lnV .frz n)=.ok (.tup ((List.range n).map fun k:Nat=>PV.tup (iL (nbF n k)))):=by simp[az,dO,nbF]
  have ix:aC (.tup ((List.range n).map fun k:Nat=>PV.tup (iL (nbF n k)))) (.int i)=.ok (.tup (iL (nbF n i))):=ja rfl (by simp[hi]) (by simp)
  generalize lnV .frz n=ln at lm a2
  simp[lm,a2,ix,p1,gf,aO]
 du:=fun x=>rfl
 mv:=fun x=>rfl
 tu:=fun x=>rfl
theorem ot{l:List Int}{d:Int}(h1:d∈l)(h2:∀x∈l,d<=x):eM l=d:=by
 obtain⟨a1,a2⟩:=i3 (l:=l) (fun z=>by rw[z]at h1;cases h1)
 exact Int.le_antisymm (a2 _ h1) (h2 _ a1)
def ofF(n:Nat)(c:Int):Bool:=decide (c≠n)&&decide ((c+1) % n≠0)
theorem ui{r ln:PV}{n root:Nat}{cs:List Int}{fc:Fl}(P:zJ r ln n root)(hB:Bf fc)(n1:1<=n)(n8:n<=8)(hr:root < n)(C:Ce n ((n:Int)+1) cs){i:Nat}(hi:i < n):rK [r,.lst fc (iL cs),.int i]=.ok (.int (eQ n root cs i)):=by
 have hn:=C.len
 have nb:∀x∈nbF n i,0<=x/\x < n/\((0 < i/\x=(i:Int) - 1)\/(i+1 < n/\x=(i:Int)+1)):=fun x hx=>by
  unfold nbF at hx
  rcases List.mem_append.mp hx with hx | hx
  ·split at hx
   ·have:=List.mem_singleton.mp hx;omega
   ·cases hx
  ·split at hx
   ·have:=List.mem_singleton.mp hx;omega
   ·cases hx
 have nl:(nbF n i).length<=2:=by
  unfold nbF
  rw[List.length_append]
  split<;>split<;>simp
 have npos:(0:Int) < n:=by omega
 have hof:∀c:Int,rQ [r,.int c]=.ok (.bl (ofF n c)):=fun c=>by
  refine aJ ?_
  show xD [some r,some (.int c)]=_
  unfold xD ofF
  refine ce ?_ (by simp)
  by_cases h:c=n
  ·simp[P.le,P.a3,h]
  ·simp[P.le,P.a3,P.a6,h,aS npos]
 obtain⟨nr,hnr⟩:∃nr:List Int,nr=(nbF n i).map fun o=>gt cs o.toNat:=⟨_,rfl⟩
 have nrl:nr.length<=2:=by rw[hnr,List.length_map];exact nl
 obtain⟨os,hos⟩:∃os:List Int,os=(nr.filter (ofF n)).map (· + 1):=⟨_,rfl⟩
 have osl:os.length<=2:=by
  rw[hos,List.length_map]
  exact Nat.le_trans (List.length_filter_le _ _) nrl
 have key:eM (os ++(if i=root then [0]else [])++ [(n:Int)])=eQ n root cs i:=by
  have om:∀x,x∈os↔∃o∈nbF n i,ofF n (gt cs o.toNat)=true/\x=gt cs o.toNat+1:=fun x=>by
   rw[hos,hnr]
   simp only[List.mem_map,List.mem_filter]
   constructor
   ·rintro⟨c,⟨⟨o,ho,rfl⟩,hc⟩,rfl⟩
    exact⟨o,ho,hc,rfl⟩
   ·rintro⟨o,ho,hc,rfl⟩
    exact⟨_,⟨⟨o,ho,rfl⟩,hc⟩,rfl⟩
  have cr:∀k:Nat,k < n->0<=gt cs k/\gt cs k<=n:=fun k hk=>by have:=C.inn _ (bZ (far:=cs) (i:=k) (by omega));omega
  have off:∀c:Int,0<=c->c+1 < n->ofF n c=true:=fun c h0 h1=>by
   simp only[ofF,Bool.and_eq_true,decide_eq_true_eq]
   rw[Int.emod_eq_of_lt (by omega) h1]
   omega
  by_cases q:i=root
  ·subst q
   rw[if_pos rfl]
   unfold eQ
   rw[if_pos rfl,Int.mul_zero]
   refine ot (by simp) fun x hx=>?_
   simp only[List.mem_append,List.mem_singleton]at hx
   rcases hx with(hx | hx) | hx
   ·obtain⟨o,ho,_,rfl⟩:=(om x).mp hx
    have:=nb o ho
    have:=cr o.toNat (by omega)
    omega
   ·omega
   ·omega
  ·rw[if_neg q,List.append_nil]
   unfold eQ
   rw[if_neg q,Int.mul_one]
   have lm:0 < i->((i:Int) - 1)∈ nbF n i:=fun h=>by unfold nbF;rw[if_pos h];simp
   have rm:i+1 < n->((i:Int)+1)∈ nbF n i:=fun h=>by unfold nbF;rw[if_pos h];simp
   have le1:((i:Int) - 1).toNat=i - 1:=by omega
   have re1:((i:Int)+1).toNat=i+1:=by omega
   refine ot ?_ fun x hx=>?_
   ·simp only[List.mem_append,List.mem_singleton,om]
    have c1:=cr (i - 1) (by omega)
    by_cases h1:0 < i<;>by_cases h2:i+1 < n
    ·have c2:=cr (i+1) h2
     rw[if_pos h2,if_pos h1]
     by_cases z1:gt cs (i - 1)+1 < n/\gt cs (i - 1)<= gt cs (i+1)
     ·exact .inl ⟨_,lm h1,by rw[le1];exact off _ (by omega) (by omega),by rw[le1];omega⟩
     ·by_cases z2:gt cs (i+1)+1 < n
      ·exact .inl ⟨_,rm h2,by rw[re1];exact off _ (by omega) (by omega),by rw[re1];omega⟩
      ·exact .inr (by omega)
    ·rw[if_neg h2,if_pos h1]
     by_cases z1:gt cs (i - 1)+1 < n
     ·exact .inl ⟨_,lm h1,by rw[le1];exact off _ (by omega) (by omega),by rw[le1];omega⟩
     ·exact .inr (by omega)
    ·have c2:=cr (i+1) h2
     rw[if_pos h2,if_neg h1]
     by_cases z2:gt cs (i+1)+1 < n
     ·exact .inl ⟨_,rm h2,by rw[re1];exact off _ (by omega) (by omega),by rw[re1];omega⟩
     ·exact .inr (by omega)
    ·rw[if_neg h2,if_neg h1]
     exact .inr rfl
   ·simp only[List.mem_append,List.mem_singleton]at hx
    rcases hx with hx | hx
    ·obtain⟨o,ho,_,rfl⟩:=(om x).mp hx
     rcases(nb o ho).2.2 with⟨h,rfl⟩ |⟨h,rfl⟩
     ·rw[le1,if_pos h]
      split<;>omega
     ·rw[re1,if_pos h]
      split<;>omega
    ·subst hx
     split<;>split<;>omega
 refine aJ ?_
 show xB [some r,some (.lst fc (iL cs)),some (.int i),none,none]=_
 unfold xB
 refine ak (av (v:=.lst .own (iL nr)) ?_ (by simp) rfl) ?_
 ·rw[hnr]
  refine da (xs:=iL (nbF n i)) (by simp[P.le,P.a4,P.be,P.lb,P.ba i hi,aU]) (by rw[a9];omega) (nq (fun o=>gt cs o.toNat) _ fun x hx=>⟨[some (.lst fc (iL cs)),some (.int x)],by simp[tgN,aW,bK,hB.bo],?_⟩)
  have:=nb x hx
  simp[hB.le,dM (f:=fc) (cs:=cs) (i:=x) (by omega) (by omega)]
 simp only[List.set_cons_zero,List.set_cons_succ]
 refine ak (av (v:=.lst .own (iL os)) ?_ (by simp) rfl) ?_
 ·rw[hos]
  exact da (xs:=iL nr) (by simp) (by rw[a9];omega) (lS (ofF n) (· + 1) _ fun x hx=>⟨[some r,some (.int x)],by simp[tgN,aW,bK,P.bo],by simp[P.le,P.tb,P.of,hof,aU],fun _=>by simp⟩)
 simp only[List.set_cons_zero,List.set_cons_succ]
 have ix:aC (.tup (stF n root)) (.int (i:Int))=.ok (if i=root then .int 0 else .non):=ja rfl (by simp[stF,hi]) (by split<;>simp)
 by_cases q:i=root
 ·rw[if_pos q]at ix key
  refine ak (jA (by simp[P.le,P.a5,ix,g_,PV.isNon]) (d0 (v:=.int 0) (xs:=iL os) (by simp[P.le,P.a5,ix]) rfl (by simp) (by rw[a9];omega))) ?_
  simp only[List.set_cons_zero,List.set_cons_succ]
  rw[show iL os++[PV.int 0]=iL (os++[0]) by simp[iL]]
  refine ce ?_ (by simp)
  have pl:ay (.lst .lnt (iL (os++[0]))) (.lst .own [.int (n:Int)])=.ok (.lst .own (iL (os++[0]++ [(n:Int)]))):=by
   rw[cm (by decide) (by decide) (by simp;omega)]
   simp[iL]
  have pm:dF eM (.lst .own (iL (os++[0]++ [(n:Int)])))=.ok (.int (eM (os++[0]++ [(n:Int)]))):=by
   unfold dF
   simp only[aO,fu]
   rw[if_neg (by simp)]
  rw[key]at pm
  generalize os++[0]=o2 at *
  simp[P.le,P.a3,pl,p1,pm]
 ·rw[if_neg q]at ix key
  rw[List.append_nil]at key
  refine ak (b6 (by simp[P.le,P.a5,ix,g_,PV.isNon]) aD) (ce ?_ (by simp))
  have pl:ay (.lst .lnt (iL os)) (.lst .own [.int (n:Int)])=.ok (.lst .own (iL (os++[(n:Int)]))):=by
   rw[cm (by decide) (by decide) (by simp;omega)]
   simp[iL]
  have pm:dF eM (.lst .own (iL (os++[(n:Int)])))=.ok (.int (eM (os++[(n:Int)]))):=by
   unfold dF
   simp only[aO,fu]
   rw[if_neg (by simp)]
  rw[key]at pm
  simp[P.le,P.a3,pl,p1,pm]
theorem uy{n root:Nat}{cs:List Int}{i:Nat}(C:Ce n ((n:Int)+1) cs)(hi:i < n):0<=eQ n root cs i/\eQ n root cs i <(n:Int)+1:=by
 have cr:∀k:Nat,k < n->0<=gt cs k:=fun k hk=>(C.inn _ (bZ (far:=cs) (i:=k) (by have:=C.len;omega))).1
 have c1:=cr (i - 1) (by omega)
 have c2:i+1 < n->0<=gt cs (i+1):=fun h=>cr _ h
 unfold eQ
 by_cases q:i=root
 ·rw[if_pos q,Int.mul_zero];omega
 ·rw[if_neg q,Int.mul_one]
  split
  ·have:=c2 ‹_›
   split<;>omega
  ·split<;>omega
theorem vN{n root:Nat}(n1:1<=n)(n8:n<=8)(hr:root < n):Ru (jc .bor n root) n ((n:Int)+1) true (eQ n root) where
 le:=lF.le (ln:=lnV .frz n) (root:=root)
 tb:=lF.tb (ln:=lnV .frz n) (root:=root)
 bo:=lF.bo (ln:=lnV .frz n) (root:=root)
 a0:=lF.a0 (ln:=lnV .frz n) (root:=root)
 a8:=lF.a8 (ln:=lnV .frz n) (root:=root)
 n1:=n1
 n3:=n8
 due:=fun fc cs k hf C hk=>⟨by
  have P:=lF (n:=n) (root:=root)
  rw[P.du]
  simp[P.tb,hf.tb,ui P hf n1 n8 hr C hk,aU],uy C hk⟩
 mv:=lF.mv (ln:=lnV .frz n) (root:=root)
 tu:=lF.tu (ln:=lnV .frz n) (root:=root)
theorem vM{n:Nat}{sp wi:Int}{fs os:List Int}(n2:2<=n)(n8:n<=8)(h1:2<=sp)(h2:sp<=4)(hf:cw sp fs)(ho:cw sp os):Ru (tab .bor n sp wi fs os) n sp false (jg n sp fs os) where
 le:=by simp
 tb:=by simp
 bo:=by simp
 a0:=by simp[az,dO]
 a8:=by simp[az,dO]
 n1:=by omega
 n3:=n8
 due:=fun fc cs k hB C hk=>⟨by
  have hfc:fc=.bor\/fc=.frz:=by
   cases fc<;>first | exact .inl rfl | exact .inr rfl | exact absurd hB.no (by decide) | exact absurd hB.nl (by decide) | exact absurd rfl hB.nm
  simp[bp,hB.tb,ux (fl:=.bor) (.inr rfl) hfc n2 n8 h1 h2 hf ho C.len C.inn hk,aU],by
  have ll:lft n k < n:=by unfold lft;split<;>omega
  have rl:rgt n k < n:=by unfold rgt;split<;>omega
  have hn:=C.len
  have pin:=mM h1 h2 (C.inn _ (bZ (far:=cs) (i:=k) (by omega))) (C.inn _ (bZ (far:=cs) (i:=lft n k) (by omega))) (C.inn _ (bZ (far:=cs) (i:=rgt n k) (by omega)))
  unfold jg
  split
  ·exact hf.rng _ (bZ (by have:=hf.len;omega))
  ·exact ho.rng _ (bZ (by have:=ho.len;omega))⟩
 mv:=fun x=>by simp[bc]
 tu:=fun x=>by simp[aL]
theorem oF{f:Fl}{xs:List PV}{k:Nat}{y:PV}(h:xs[k]?=some y):hJ (.lst f xs) (.int k)=.ok y:=by
 obtain⟨hl,rfl⟩:=List.getElem?_eq_some_iff.mp h
 simp[hJ,aO,atI,ixN,hl]
theorem vj(F:Nat->Int)(k:Nat):iL ((List.range k).map F)++ [PV.int (F k)]=iL ((List.range (k+1)).map F):=by
 rw[List.range_succ]
 simp[iL]
theorem uw{n:Nat}{sp:Int}{fs os cs:List Int}(n2:2<=n)(n8:n<=8)(h1:2<=sp)(h2:sp<=4)(hf:cw sp fs)(ho:cw sp os)(hn:cs.length=n)(hc:InC sp cs):rM [.lst .bor (iL cs),.int sp,.lst .bor (iL fs),.lst .bor (iL os)]=.ok (.lst .own (iL ((List.range n).map (jg n sp fs os cs)))):=by
 refine aJ ?_
 show sk [some (.lst .bor (iL cs)),some (.int sp),some (.lst .bor (iL fs)),some (.lst .bor (iL os)),none,none,none,none,none]=_
 unfold sk
 have np:(0:Int) < n:=by omega
 have ix:∀(k:Nat),k < n->aC (.lst .bor (iL cs)) (.int (k:Int))=.ok (.int (gt cs k)):=fun k hk=>by simpa using dM (f:=.bor) (cs:=cs) (i:=k) (by omega) (by omega)
 have ixl:aC (.lst .bor (iL cs)) (.int (-1))=.ok (.int (gt cs (n - 1))):=by
  unfold aC
  simp only[aO]
  have:atI (iL cs) (-1)=some (.int (gt cs (n - 1))):=by
   unfold atI
   have e:ixN (iL cs).length (-1)=some (n - 1):=by
    rw[a9,hn]
    unfold ixN
    rw[if_neg (by omega),if_pos (by omega)]
    congr 1
    omega
   rw[e]
   simp[iL,gt,show n - 1 < cs.length by omega]
  rw[this]
  simp
 refine ak (av (v:=.lst .own []) (by simp) (by simp) rfl) ?_
 simp only[List.set_cons_zero,List.set_cons_succ]
 refine dE (fun k e=>∃x5 x6 x7 x8,e=[some (.lst .bor (iL cs)),some (.int sp),some (.lst .bor (iL fs)),some (.lst .bor (iL os)),some (.lst .own (iL ((List.range k).map (jg n sp fs os cs)))),x5,x6,x7,x8]) (cZ (n:=n) (by simp[hn]) (by omega)) ⟨_,_,_,_,rfl⟩ (fun k x e hx hP=>?_) (fun e hP=>?_)
 ·obtain⟨x5,x6,x7,x8,rfl⟩:=hP
  obtain⟨hk,rfl⟩:=iJ hx
  have ll:lft n k < n:=by unfold lft;split<;>omega
  have rl:rgt n k < n:=by unfold rgt;split<;>omega
  have lx:aC (.lst .bor (iL cs)) (.int ((k:Int) - 1))=.ok (.int (gt cs (lft n k))):=by
   unfold lft
   by_cases e:k=0
   ·rw[if_pos e,e];exact ixl
   ·rw[if_neg e,<- ix (k - 1) (by omega)]
    congr 2
    omega
  have rx:((k:Int)+1) % (n:Int)=(rgt n k:Nat):=by
   unfold rgt
   split
   ·rw[Int.emod_eq_of_lt (by omega) (by omega)];omega
   ·have:(k:Int)+1=n:=by omega
    rw[this,Int.emod_self];rfl
  have pin:=mM h1 h2 (hc _ (bZ (far:=cs) (i:=k) (by omega))) (hc _ (bZ (far:=cs) (i:=lft n k) (by omega))) (hc _ (bZ (far:=cs) (i:=rgt n k) (by omega)))
  obtain⟨q1,q2,q3⟩:=qH (c:=gt cs k) (l:=gt cs (lft n k)) (r:=gt cs (rgt n k)) h1 h2
  have tf:=(j_ hf pin).2 .bor
  have to:=(j_ ho pin).2 .bor
  refine⟨_,dH rfl,?_⟩
  simp only[List.set_cons_zero,List.set_cons_succ,Int.zero_add]
  refine a_ (av (v:=.int (gt cs (lft n k))) (by simp[lx]) (by simp) rfl) ?_
  simp only[List.set_cons_zero,List.set_cons_succ]
  refine a_ (av (v:=.int (gt cs (rgt n k))) (by simp[hn,aS np,rx,ix _ rl]) (by simp) rfl) ?_
  simp only[List.set_cons_zero,List.set_cons_succ]
  refine a_ (av (v:=.int (plc sp (gt cs k) (gt cs (lft n k)) (gt cs (rgt n k)))) (by simp[ix _ hk,q1,q2,q3,plc]) (by simp) rfl) ?_
  simp only[List.set_cons_zero,List.set_cons_succ]
  refine bj (d0 (v:=.int (jg n sp fs os cs k)) (xs:=iL ((List.range k).map (jg n sp fs os cs))) ?_ rfl (by simp) (by simp;omega)) ⟨_,_,_,_,by simp only[List.set_cons_zero,List.set_cons_succ];rw[vj]⟩
  have o0:hJ (.lst .own [.lst .bor (iL os),.lst .bor (iL fs)]) (.int 0)=.ok (.lst .bor (iL os)):=oF (k:=0) rfl
  have o1:hJ (.lst .own [.lst .bor (iL os),.lst .bor (iL fs)]) (.int 1)=.ok (.lst .bor (iL fs)):=oF (k:=1) rfl
  unfold jg
  by_cases e:k=0
  ·simp[e,p1,dh,o1]
   rw[e]at tf
   exact tf
  ·simp[e,p1,dh,o0,to]
 ·obtain⟨x5,x6,x7,x8,rfl⟩:=hP
  rw[cb]
  exact gH rfl
theorem rH{n root:Nat}{cs:List Int}(n8:n<=8)(hn:cs.length=n):wR [.lst .bor (iL cs),.int root]=.ok (.lst .own (iL ((List.range n).map (eQ n root cs)))):=by
 refine aJ ?_
 show xw [some (.lst .bor (iL cs)),some (.int root),none,none,none]=_
 unfold xw
 have ix:∀(k:Nat),k < n->aC (.lst .bor (iL cs)) (.int (k:Int))=.ok (.int (gt cs k)):=fun k hk=>by simpa using dM (f:=.bor) (cs:=cs) (i:=k) (by omega) (by omega)
 refine ak (av (v:=.lst .own []) (by simp) (by simp) rfl) ?_
 simp only[List.set_cons_zero,List.set_cons_succ]
 refine dE (fun k e=>∃x3 x4,e=[some (.lst .bor (iL cs)),some (.int root),some (.lst .own (iL ((List.range k).map (eQ n root cs)))),x3,x4]) (cZ (n:=n) (by simp[hn]) (by omega)) ⟨_,_,rfl⟩ (fun k x e hx hP=>?_) (fun e hP=>?_)
 ·obtain⟨x3,x4,rfl⟩:=hP
  obtain⟨hk,rfl⟩:=iJ hx
  refine⟨_,dH rfl,?_⟩
  simp only[List.set_cons_zero,List.set_cons_succ,Int.zero_add]
  refine a_ (av (v:=.int n) (by simp[hn]) (by simp) rfl) ?_
  simp only[List.set_cons_zero,List.set_cons_succ]
  obtain⟨A,hA⟩:∃A:Int,(if 0 < k then min (n:Int) (gt cs (k - 1)+1)else n)=A:=⟨_,rfl⟩
  refine a_ (e:=[some (.lst .bor (iL cs)),some (.int root),some (.lst .own (iL ((List.range k).map (eQ n root cs)))),some (.int k),some (.int A)]) ?_ ?_
  ·by_cases h:0 < k
   ·rw[if_pos h]at hA
    have lx:aC (.lst .bor (iL cs)) (.int ((k:Int) - 1))=.ok (.int (gt cs (k - 1))):=by
     rw[<- ix (k - 1) (by omega)]
     congr 2
     omega
    exact jA (by simp[h]) (av (v:=.int A) (by simp[lx,ef,hA]) (by simp) rfl)
   ·rw[if_neg h]at hA
    subst hA
    exact b6 (by simp[h]) aD
  obtain⟨B,hB⟩:∃B:Int,(if k+1 < n then min A (gt cs (k+1)+1)else A)=B:=⟨_,rfl⟩
  refine a_ (e:=[some (.lst .bor (iL cs)),some (.int root),some (.lst .own (iL ((List.range k).map (eQ n root cs)))),some (.int k),some (.int B)]) ?_ ?_
  ·by_cases h:k+1 < n
   ·rw[if_pos h]at hB
    have rx:aC (.lst .bor (iL cs)) (.int ((k:Int)+1))=.ok (.int (gt cs (k+1))):=by simpa using ix (k+1) h
    exact jA (by simp[hn];omega) (av (v:=.int B) (by simp[rx,ef,hB]) (by simp) rfl)
   ·rw[if_neg h]at hB
    subst hB
    exact b6 (by simp[hn];omega) aD
  have ed:eQ n root cs k=B * (if k=root then 0 else 1):=by unfold eQ;rw[hA,hB]
  refine bj (d0 (v:=.int (eQ n root cs k)) (xs:=iL ((List.range k).map (eQ n root cs))) ?_ rfl (by simp) (by simp;omega)) ⟨_,_,by simp only[List.set_cons_zero,List.set_cons_succ];rw[vj]⟩
  rw[ed]
  by_cases e:k=root
  ·have mu:bS (.int B) (.int 0)=.ok (.int (B * 0)):=eh (.inr ⟨by decide,by decide⟩)
   simp[e,p1,dh]
   simpa using mu
  ·have mu:bS (.int B) (.int 1)=.ok (.int (B * 1)):=eh (.inr ⟨by decide,by decide⟩)
   simp[e,p1,dh,show ¬(k:Int)=root by omega]
   simpa using mu
 ·obtain⟨x3,x4,rfl⟩:=hP
  rw[cb]
  exact gH rfl
section
variable{n:Nat}{D:List Int->Nat->Int}{cs:List Int}
theorem nG{nm:List Int}{i:Nat}(hi:i < n):stp n D cs (nm++[(i:Int)])=(stp n D cs nm).set i (D cs i):=by
 refine List.ext_getElem (by simp[stp]) fun j a b=>?_
 have hj:j < n:=by simpa[stp]using a
 simp only[stp,List.getElem_map,List.getElem_range,List.getElem_set]
 by_cases e:i=j
 ·subst e;simp
 ·rw[if_neg e]
  have:(nm++[(i:Int)]).contains (j:Int)=nm.contains (j:Int):=by
   simp
   intro z
   exact absurd z.symm (by omega)
  rw[this]
theorem nE(hn:cs.length=n):stp n D cs []=cs:=by
 refine List.ext_getElem (by simp[stp,hn]) fun j a b=>?_
 simp[stp,gt,b]
theorem uA{xs:List Int}{i:Nat}{d:Int}(hi:i < xs.length):xs.take i++[d]++ xs.drop (i+1)=xs.set i d:=by
 rw[List.set_eq_take_append_cons_drop,if_pos hi]
 simp
theorem qz{env:En}{b d:Nat}{f g:Fl}{xs ds:List Int}{i k:Nat}(hB:Bf f)(hG:Bf g)(h1:env[b]?=some (some (.lst f (iL xs))))(h2:env[d]?=some (some (.lst g (iL ds))))(h3:env[k]?=some (some (.int i)))(hi:i < xs.length)(hd:i < ds.length)(hx:xs.length<=1000) :
  mOp ay (mOp ay (bN (ad b) bB (cD (ad k))) (bV (ae (mOp aC (ad d) (ad k)) aj))) (bN (ad b) (cD (mOp ay (ad k) (mC (.int (1))))) bB) env=.ok (.lst .own (iL (xs.set i (gt ds i)))):=by
 have c1:dX (iL xs) none (some (i:Int))=iL (xs.take i):=by rw[wY _ i (by rw[a9];omega)];simp[iL]
 have c2:dX (iL xs) (some ((i:Int)+1)) none=iL (xs.drop (i+1)):=by simpa using pR xs (i+1) (by omega)
 have ix:aC (.lst g (iL ds)) (.int (i:Int))=.ok (.int (gt ds i)):=by simpa using dM (f:=g) (cs:=ds) (i:=i) (by omega) (by omega)
 simp only[oK,gw,iw,fv,eC,wW,gx,je,uu,h1,h2,h3]
 simp only[cG,cu,dW,eY,Res.ok_bind,hB.le,hG.le,fg,eU,c1,ix]
 rw[cm (by decide) (by decide) (by simp;omega)]
 simp only[Res.ok_bind,qG,fg,eU,c2]
 rw[cm (by decide) (by decide) (by simp;omega)]
 rw[<- uA hi]
 simp[iL]
theorem ku{many:Bool}(n1:1<=n)(n8:n<=8)(hn:cs.length=n):∃g,(g=.own\/g=.frz)/\rO [.lst .bor (iL cs),.lst .bor (iL ((List.range n).map (D cs))),.bl many]=.ok (.lst .own ((prs n D many cs).map (rwF g))):=by
 have ml:=km (n:=n) (D:=D) (cs:=cs)
 have md:=gj (n:=n) (D:=D) (cs:=cs)
 have dl:((List.range n).map (D cs)).length=n:=by simp
 have dg:∀k,k < n->gt ((List.range n).map (D cs)) k=D cs k:=fun k hk=>by simp[gt,hk]
 have mm:bv [1,0] 1 (bx (ae (am (p1 cT) (ae (ad 0) aj)) aj)) (tgN 2) (ax (mOp pNe (mOp aC (ad 0) (ad 2)) (mOp aC (ad 1) (ad 2)))) (ad 2) [some (.lst .bor (iL cs)),some (.lst .bor (iL ((List.range n).map (D cs)))),some (.bl many),none,none,none,none,none,none]=.ok (.lst .own (iL (mv n D cs))):=by
  unfold mv
  refine da (xs:=cA 0 n) (cZ (n:=n) (by simp[hn]) (by omega)) (by rw[cb];omega) (jk (fun k=>decide (D cs k≠gt cs k)) (fun k=>(k:Int)) n fun k hk=>⟨[some (.lst .bor (iL ((List.range n).map (D cs)))),some (.lst .bor (iL cs)),some (.int (0+k))],by simp[tgN,aW,bK,PV.borrow],?_,fun _=>by simp⟩)
  have g1:aC (.lst .bor (iL ((List.range n).map (D cs)))) (.int (k:Int))=.ok (.int (D cs k)):=by
   rw[<- dg k hk]
   simpa using dM (f:=.bor) (cs:=(List.range n).map (D cs)) (i:=k) (by omega) (by omega)
  have g2:aC (.lst .bor (iL cs)) (.int (k:Int))=.ok (.int (gt cs k)):=by simpa using dM (f:=.bor) (cs:=cs) (i:=k) (by omega) (by omega)
  simp[g1,g2]
 suffices hh:∃g,(g=.own\/g=.frz)/\oQ [some (.lst .bor (iL cs)),some (.lst .bor (iL ((List.range n).map (D cs)))),some (.bl many),none,none,none,none,none,none]=.ret (.lst .own ((prs n D many cs).map (rwF g))) by
  obtain⟨g,h1,h2⟩:=hh
  exact⟨g,h1,aJ h2⟩
 have gi:∀{k:Nat}{x:PV},(iL (mv n D cs))[k]?=some x->∃i:Nat,(mv n D cs)[k]?=some (i:Int)/\x=.int i/\i < n:=fun hx=>by
  obtain⟨a,ha,rfl⟩:=gW hx
  obtain⟨i,rfl,hi,_⟩:=qS (List.mem_of_getElem? ha)
  exact⟨i,ha,rfl,hi⟩
 generalize hds:(List.range n).map (D cs)=ds at *
 cases many with
 | false =>
  refine⟨.own,.inl rfl,?_⟩
  unfold oQ
  refine ak (av mm (by simp) rfl) ?_
  simp only[List.set_cons_zero,List.set_cons_succ]
  refine ak (av (v:=.lst .own (([]:List (List Int×List Int)).map (rwF .own))) (by simp) (by simp) rfl) ?_
  simp only[List.set_cons_zero,List.set_cons_succ]
  refine im (jA (by simp) (ak (kB (v:=.lst .own (iL (mv n D cs))) rfl) ?_))
  simp only[List.set_cons_zero,List.set_cons_succ,cu,dW,eA]
  refine dE (fun k e=>∃x5,e=[some (.lst .bor (iL cs)),some (.lst .bor (iL ds)),some (.bl false),some (.lst .frz (iL (mv n D cs))),some (.lst .own ((((mv n D cs).take k).map fun a=>([a],stp n D cs [a])).map (rwF .own))),x5,none,none,none]) (xs:=iL (mv n D cs)) (cR (f:=.frz) (by simp) rfl (by simp) (by simp)) ⟨none,by simp⟩ (fun k x e hx hP=>?_) (fun e hP=>?_)
  ·obtain⟨x5,rfl⟩:=hP
   obtain⟨i,hi1,rfl,hi⟩:=gi hx
   have kl:k <(mv n D cs).length:=(List.getElem?_eq_some_iff.mp hi1).1
   refine⟨_,dH rfl,?_⟩
   simp only[List.set_cons_zero,List.set_cons_succ]
   have pk:=qz (env:=[some (.lst .bor (iL cs)),some (.lst .bor (iL ds)),some (.bl false),some (.lst .frz (iL (mv n D cs))),some (.lst .own ((((mv n D cs).take k).map fun a=>([a],stp n D cs [a])).map (rwF .own))),some (.int i),none,none,none]) (b:=0) (d:=1) (k:=5) dP dP rfl rfl rfl (show i < cs.length by omega) (by omega) (by omega)
   have e0:stp n D cs [(i:Int)]=cs.set i (D cs i):=by
    have:=nG (D:=D) (cs:=cs) (nm:=[]) hi
    rwa [nE hn]at this
   rw[dg i hi,<- e0]at pk
   refine bj (d0 (v:=rwF .own ([(i:Int)],stp n D cs [(i:Int)])) (xs:=(((mv n D cs).take k).map fun a=>([a],stp n D cs [a])).map (rwF .own)) ?_ rfl (by simp[rwF]) (by simp;omega)) ⟨some (.int i),?_⟩
   ·simp only[rR,gx,je,pk]
    simp[rwF]
   ·simp only[List.set_cons_zero,List.set_cons_succ]
    rw[List.take_succ,hi1]
    simp
  ·obtain⟨x5,rfl⟩:=hP
   rw[a9,List.take_length]
   refine(gH rfl).trans ?_
   simp[prs,trn,Function.comp_def]
 | true =>
  refine⟨.frz,.inr rfl,?_⟩
  unfold oQ
  refine ak (av mm (by simp) rfl) ?_
  simp only[List.set_cons_zero,List.set_cons_succ]
  refine ak (av (v:=.lst .own []) (by simp) (by simp) rfl) ?_
  simp only[List.set_cons_zero,List.set_cons_succ]
  refine ak (b6 (by simp) aD) ?_
  refine ak (av (v:=.lst .own ([([],cs)].map (rwF .own))) (by simp[rwF]) (by simp[rwF]) rfl) ?_
  simp only[List.set_cons_zero,List.set_cons_succ]
  refine ak (kB (v:=.lst .own (iL (mv n D cs))) rfl) ?_
  simp only[List.set_cons_zero,List.set_cons_succ,cu,dW,eA]
  have Sd:∀S:List (List Int),(S.map fun nm=>(nm,stp n D cs nm)).length=S.length:=fun S=>by simp
  refine dE (fun k e=>∃g x5 x6 x7 x8,Fl.freeze g=.frz/\(g=.frz\/k=0)/\e=[some (.lst .bor (iL cs)),some (.lst .bor (iL ds)),some (.bl true),some (.lst .frz (iL (mv n D cs))),some (.lst .own (((bU ((mv n D cs).take k)).map fun nm=>(nm,stp n D cs nm)).map (rwF g))),x5,x6,x7,x8]) (xs:=iL (mv n D cs)) (cR (f:=.frz) (by simp) rfl (by simp) (by simp)) ⟨.own,none,none,none,none,rfl,.inr rfl,by simp[bU,nE hn]⟩ (fun k x e hx hP=>?_) (fun e hP=>?_)
  ·obtain⟨g,x5,x6,x7,x8,hg,_,rfl⟩:=hP
   obtain⟨i,hi1,rfl,hi⟩:=gi hx
   obtain⟨hS,hN⟩:=kP (l:=mv n D cs) (by omega) md k
   rw[jF hi1]
   generalize bU ((mv n D cs).take k)=S at *
   refine⟨_,dH rfl,?_⟩
   simp only[List.set_cons_zero,List.set_cons_succ]
   refine a_ (av (v:=.lst .own (([]:List (List Int)).map fun nm=>rwF .own (nm++[(i:Int)],stp n D cs (nm++[(i:Int)])))) (by simp) (by simp) rfl) ?_
   simp only[List.set_cons_zero,List.set_cons_succ]
   refine a_ (kB (v:=.lst .own ((S.map fun nm=>(nm,stp n D cs nm)).map (rwF g))) rfl) ?_
   simp only[List.set_cons_zero,List.set_cons_succ,cu,ip,eA,hg]
   have inner:=iu (env:=[some (.lst .bor (iL cs)),some (.lst .bor (iL ds)),some (.bl true),some (.lst .frz (iL (mv n D cs))),some (.lst .frz ((S.map fun nm=>(nm,stp n D cs nm)).map (rwF .frz))),some (.int i),some (.lst .own (([]:List (List Int)).map fun nm=>rwF .own (nm++[(i:Int)],stp n D cs (nm++[(i:Int)])))),x7,x8]) (it:=cC (ad 4)) (g:=tgT 2 (b7 (tgN 7) (b7 (tgN 8) iB))) (body:=bY 6 (jv (ae (mOp ay (ad 7) (bV (ae (ad 5) aj))) (ae (mOp ay (mOp ay (bN (ad 8) bB (cD (ad 5))) (bV (ae (mOp aC (ad 1) (ad 5)) aj))) (bN (ad 8) (cD (mOp ay (ad 5) (mC (.int (1))))) bB)) aj))))
    (fun j e=>∃y7 y8,e=[some (.lst .bor (iL cs)),some (.lst .bor (iL ds)),some (.bl true),some (.lst .frz (iL (mv n D cs))),some (.lst .frz ((S.map fun nm=>(nm,stp n D cs nm)).map (rwF .frz))),some (.int i),some (.lst .own ((S.take j).map fun nm=>rwF .own (nm++[(i:Int)],stp n D cs (nm++[(i:Int)])))),y7,y8])
    (xs:=(S.map fun nm=>(nm,stp n D cs nm)).map (rwF .frz)) (cR (f:=.frz) (by simp [-List.map_map,Fl.lend]) rfl (cO rfl _) (cO rfl _)) ⟨x7,x8,by simp⟩ (fun j y e hy hP=>by
     obtain⟨y7,y8,rfl⟩:=hP
     rw[List.getElem?_map,List.getElem?_map]at hy
     obtain⟨p,hp,rfl⟩:=Option.map_eq_some_iff.mp hy
     obtain⟨nm,hnm,rfl⟩:=Option.map_eq_some_iff.mp hp
     have jl:j < S.length:=(List.getElem?_eq_some_iff.mp hnm).1
     have nl:=hN nm (List.mem_of_getElem? hnm)
     have pk:=qz (env:=[some (.lst .bor (iL cs)),some (.lst .bor (iL ds)),some (.bl true),some (.lst .frz (iL (mv n D cs))),some (.lst .frz ((S.map fun nm=>(nm,stp n D cs nm)).map (rwF .frz))),some (.int i),some (.lst .own ((S.take j).map fun nm=>rwF .own (nm++[(i:Int)],stp n D cs (nm++[(i:Int)])))),some (.lst .frz (iL nm)),some (.lst .frz (iL (stp n D cs nm)))]) (b:=8) (d:=1) (k:=5) kJ dP rfl rfl rfl (show i <(stp n D cs nm).length by simp[stp];exact hi) (by omega) (by simp[stp];omega)
     rw[dg i hi,<- nG hi]at pk
     have pl:mOp ay (ad 7) (bV (ae (ad 5) aj)) [some (.lst .bor (iL cs)),some (.lst .bor (iL ds)),some (.bl true),some (.lst .frz (iL (mv n D cs))),some (.lst .frz ((S.map fun nm=>(nm,stp n D cs nm)).map (rwF .frz))),some (.int i),some (.lst .own ((S.take j).map fun nm=>rwF .own (nm++[(i:Int)],stp n D cs (nm++[(i:Int)])))),some (.lst .frz (iL nm)),some (.lst .frz (iL (stp n D cs nm)))]=.ok (.lst .own (iL (nm++[(i:Int)]))):=by
      simp
      rw[cm (by decide) (by decide) (by simp;omega)]
      simp[iL]
     refine⟨[some (.lst .bor (iL cs)),some (.lst .bor (iL ds)),some (.bl true),some (.lst .frz (iL (mv n D cs))),some (.lst .frz ((S.map fun nm=>(nm,stp n D cs nm)).map (rwF .frz))),some (.int i),some (.lst .own ((S.take j).map fun nm=>rwF .own (nm++[(i:Int)],stp n D cs (nm++[(i:Int)])))),some (.lst .frz (iL nm)),some (.lst .frz (iL (stp n D cs nm)))],_,rfl,.inl (d0 (v:=rwF .own (nm++[(i:Int)],stp n D cs (nm++[(i:Int)]))) (xs:=(S.take j).map fun nm=>rwF .own (nm++[(i:Int)],stp n D cs (nm++[(i:Int)]))) ?_ rfl (by simp[rwF]) (by simp;omega)),some (.lst .frz (iL nm)),some (.lst .frz (iL (stp n D cs nm))),?_⟩
     ·simp only[rR,gx,je,pl,pk]
      rfl
     ·simp only[List.set_cons_zero,List.set_cons_succ]
      rw[List.take_succ,hnm]
      simp)
   obtain⟨e2,f1,y7,y8,rfl⟩:=inner
   rw[List.length_map,List.length_map,List.take_length]at f1
   refine a_ f1 (a_ (kB (v:=.lst .own (S.map fun nm=>rwF .own (nm++[(i:Int)],stp n D cs (nm++[(i:Int)])))) rfl) ?_)
   have em:∀f,(S.map fun nm=>rwF f (nm++[(i:Int)],stp n D cs (nm++[(i:Int)])))=((S.map (·++[(i:Int)])).map fun nm=>(nm,stp n D cs nm)).map (rwF f):=fun f=>by simp[Function.comp_def]
   rw[em]
   simp only[List.set_cons_zero,List.set_cons_succ,cu,ip,eA]
   refine bj (av (v:=.lst .own (((S++S.map (·++[(i:Int)])).map fun nm=>(nm,stp n D cs nm)).map (rwF .frz))) ?_ (by simp only[cU,dG];rw[cO rfl];rfl) rfl) ⟨.frz,_,_,_,_,rfl,.inl rfl,rfl⟩
   simp only[oK,eC,List.getElem?_cons_zero,List.getElem?_cons_succ,cG,Res.ok_bind,cu,ip]
   rw[cm (by decide) (by decide) (by simp;omega)]
   simp[Fl.lend]
  ·obtain⟨g,x5,x6,x7,x8,hg,hk,rfl⟩:=hP
   rw[a9,List.take_length]
   have len:=(fU md).len
   have pos:1 <=(bU (mv n D cs)).length:=by rw[len];exact Nat.pow_pos (by decide)
   have cf:=ji (((bU (mv n D cs)).map fun nm=>(nm,stp n D cs nm)).map (rwF (Fl.lend g))) 1 (by simpa using pos)
   rw[show((1:Nat):Int)=1 from rfl]at cf
   have ed:(((bU (mv n D cs)).map fun nm=>(nm,stp n D cs nm)).map (rwF (Fl.lend g))).drop 1=(prs n D true cs).map (rwF .frz):=by
    rw[a9]at hk
    rcases hk with rfl | hk
    ·simp[prs,trn,Fl.lend]
    ·have e0:mv n D cs=[]:=List.eq_nil_of_length_eq_zero hk
     simp[prs,trn,e0,bU]
   refine ce (v:=.lst .own ((prs n D true cs).map (rwF .frz))) ?_ (by simp only[cU,dG];rw[cO rfl];rfl)
   simp only[gw,iw,fv,eC,uu,List.getElem?_cons_zero,List.getElem?_cons_succ,cG,Res.ok_bind,cu,ip,fg,eU,cf,ed]
end
theorem jD:∀l:List Int,fC (iL l) (iL l)=l.map fun x=>PV.tup [.int x,.int x]
 | []=>rfl
 | x::l=>by
  have:=jD l
  simp only[iL,List.map_cons,fC]at this ⊢
  rw[this]
theorem pZ(f g:Fl):∀ps:List (List Int×List Int),fC (ps.map (rwF f)) (ps.map (rwF g))=ps.map fun p=>PV.tup [rwF f p,rwF g p]
 | []=>rfl
 | p::ps=>by
  have:=pZ f g ps
  simp only[List.map_cons,fC]at this ⊢
  rw[this]
theorem oj{f g:Fl}(hf:Bf f)(hg:Bf g)(l:List Int)(hl:l.length<=1000):um [.lst f (iL l),.lst g (iL l)]=.ok (.bl true):=by
 refine aJ (v:=.bl true) ?_
 show xu [some (.lst f (iL l)),some (.lst g (iL l)),none,none]=_
 unfold xu
 refine ak (b6 (by simp[p1,cT,aO,gR]) aD) ?_
 have mz:hZ (ae (ad 0) (ae (ad 1) aj)) [some (.lst f (iL l)),some (.lst g (iL l)),none,none]=.ok (l.map fun x=>PV.tup [.int x,.int x]):=by
  unfold hZ
  simp[hf.le,hg.le,fP,hf.nl,hg.nl,jD]
 refine dE (fun k e=>∃x2 x3,e=[some (.lst f (iL l)),some (.lst g (iL l)),x2,x3]) mz ⟨_,_,rfl⟩ (fun k x e hx hP=>?_) (fun e hP=>ce (by simp) (by simp))
 obtain⟨x2,x3,rfl⟩:=hP
 rw[List.getElem?_map]at hx
 obtain⟨o,_,rfl⟩:=Option.map_eq_some_iff.mp hx
 exact⟨[some (.lst f (iL l)),some (.lst g (iL l)),some (.int o),some (.int o)],rfl,bj (b6 (by simp[p0,aU]) aD) ⟨_,_,rfl⟩⟩
theorem qu(f:Fl)(hf:Bf f)(p:List Int×List Int):aC (rwF f p) (.int 0)=.ok (.lst f (iL p.1))/\aC (rwF f p) (.int 1)=.ok (.lst f (iL p.2)) :=
 ⟨ja (k:=0) rfl rfl (by simp[hf.no]),ja (k:=1) rfl rfl (by simp[hf.no])⟩
theorem lZ{f g f' g':Fl}(hf:Bf f)(hg:Bf g)(hf':Bf f')(hg':Bf g'){ps:List (List Int×List Int)}(hp:∀p∈ps,p.1.length<=1000/\p.2.length<=1000)(hl:ps.length<=1000):jd [.lst f (ps.map (rwF f')),.lst g (ps.map (rwF g'))]=.ok (.bl true):=by
 refine aJ (v:=.bl true) ?_
 show sr [some (.lst f (ps.map (rwF f'))),some (.lst g (ps.map (rwF g'))),none,none]=_
 unfold sr
 have h1:∀p,hasL p (ps.map (rwF f'))=hasL p (ps.map (rwF f')):=fun _=>rfl
 refine ak (b6 (by simp[p1,cT,aO,gR,hf.le,hg.le,hf'.le,hg'.le]) aD) ?_
 have mz:hZ (ae (ad 0) (ae (ad 1) aj)) [some (.lst f (ps.map (rwF f'))),some (.lst g (ps.map (rwF g'))),none,none]=.ok (ps.map fun p=>PV.tup [rwF f' p,rwF g' p]):=by
  unfold hZ
  simp[hf.le,hg.le,hf'.le,hg'.le,fP,hf.nl,hg.nl,pZ,cO (p:=Fl.isOwn) hf'.no,cO (p:=Fl.isOwn) hg'.no,cO (p:=Fl.isLnt) hf'.nl,cO (p:=Fl.isLnt) hg'.nl]
 refine dE (fun k e=>∃x2 x3,e=[some (.lst f (ps.map (rwF f'))),some (.lst g (ps.map (rwF g'))),x2,x3]) mz ⟨_,_,rfl⟩ (fun k x e hx hP=>?_) (fun e hP=>ce (by simp) (by simp))
 obtain⟨x2,x3,rfl⟩:=hP
 rw[List.getElem?_map]at hx
 obtain⟨p,hpm,rfl⟩:=Option.map_eq_some_iff.mp hx
 obtain⟨l1,l2⟩:=hp p (List.mem_of_getElem? hpm)
 obtain⟨i1,i2⟩:=qu f' hf' p
 obtain⟨j1,j2⟩:=qu g' hg' p
 have m1:(rwF f' p).mapF Fl.lend=rwF f' p:=by simp[rwF,hf'.le]
 have m2:(rwF g' p).mapF Fl.lend=rwF g' p:=by simp[rwF,hg'.le]
 have it:(rwF f' p)=.tup [.lst f' (iL p.1),.lst f' (iL p.2)]:=rfl
 refine⟨[some (.lst f (ps.map (rwF f'))),some (.lst g (ps.map (rwF g'))),some (rwF f' p),some (rwF g' p)],by simp[tgT,b7,tgN,iB,aW,cK],?_⟩
 refine a_ (b6 (by simp[p1,cT,aO,gR,rwF,hf'.le]) aD) (bj (b6 ?_ aD) ⟨_,_,rfl⟩)
 simp[m1,m2,i1,i2,j1,j2,hf'.tb,hg'.tb,oj hf' hg' _ l1,oj hf' hg' _ l2,aU]
section
variable{r:PV}{al:Bool}{n:Nat}{s:Int}{D:List Int->Nat->Int}{cs:List Int}
theorem rZ:∀{ps:List (List Int×List Int)},(∀p∈ps,p.1.length<=1000/\p.2.length<=1000)->∃ys,caL 0 (ps.map (rwF .own))=some ys
 | [],_=>⟨[],rfl⟩
 | p::ps,h=>by
  obtain⟨ys,e⟩:=rZ fun q hq=>h q (List.mem_cons_of_mem _ hq)
  have c:ca1 0 (rwF .own p)=some (.tup [.lst .own [],.lst .own ((p.2++[0]).map .int)]):=by
   unfold rwF ca1
   dsimp only
   rw[fu]
   dsimp only
   rw[if_pos (by have:=(h p List.mem_cons_self).2;omega)]
  exact⟨.tup [.lst .own [],.lst .own ((p.2++[0]).map .int)]::ys,by simp only[List.map_cons,caL,c,e]⟩
theorem tJ{many:Bool}(K:Ru r n s al D)(C:Ce n s cs)(hm:Md al many):(prs n D many cs).length<=256/\∀p∈prs n D many cs,p.1.length<=1000/\p.2.length<=1000:=by
 have n8:=K.n3
 refine⟨by unfold prs;rw[List.length_map];exact nC n8,fun p hp=>?_⟩
 obtain⟨nm,hnm,rfl⟩:=List.mem_map.mp hp
 have:=(on hm hnm).2.2.1
 exact⟨by show nm.length<=1000;omega,by show(stp n D cs nm).length<=1000;simp[stp];omega⟩
theorem kZ{many:Bool}(K:Ru r n s al D)(C:Ce n s cs)(hm:Md al many):pO [r,.lst .bor (iL cs),.lst .bor (iL ((List.range n).map (D cs))),.bl many]=.ok (.bl true):=by
 have n8:=K.n3
 have hn:=C.len
 obtain⟨g,hg,ln⟩:=ku (D:=D) (many:=many) K.n1 n8 hn
 obtain⟨pl,pm⟩:=tJ K C hm
 have nx:=qR (fc:=.bor) hm dP K C
 obtain⟨ys,ey⟩:=rZ pm
 have hgb:Bf g.lend.toBor:=by rcases hg with rfl | rfl;exact dP;exact kJ
 have hgl:Fl.isLnt g=false/\Fl.isBor g=false:=by rcases hg with rfl | rfl<;>exact⟨rfl,rfl⟩
 have a1:=lZ (f:=.frz) (g:=.bor) (f':=.frz) (g':=g.lend.toBor) kJ dP kJ hgb pm (by omega)
 have a2:=lZ (f:=.bor) (g:=.bor) (f':=.bor) (g':=g.lend.toBor) dP dP dP hgb pm (by omega)
 have ne:pNe (.lst .lnt (iL cs)) (.lst .bor (iL cs))=.ok (.bl false):=tY rfl (by simp[shp,SeqAt.shaped,PV.data,PyData.canLay0,PyData.depth])
 have hb:∀f:Fl,Fl.isBor f=false->hasL Fl.isBor ((prs n D many cs).map (rwF f))=false:=fun f h=>cO h _
 have hlt:∀f:Fl,Fl.isLnt f=false->hasL Fl.isLnt ((prs n D many cs).map (rwF f))=false:=fun f h=>cO h _
 generalize hds:(List.range n).map (D cs)=ds at *
 generalize prs n D many cs=ps at *
 refine aJ (v:=.bl true) ?_
 show xj [some r,some (.lst .bor (iL cs)),some (.lst .bor (iL ds)),some (.bl many),none,none,none,none,none]=_
 unfold xj
 refine ak (av (v:=.lst .own (iL cs)) (by simp[p1,gf,aO]) (by simp) rfl) ?_
 simp only[List.set_cons_zero,List.set_cons_succ]
 refine ak (av (v:=.lst .own (ps.map (rwF g))) (by simp[ln,aU,hb g hgl.2]) (by simp only[cU,dG];rw[hlt g hgl.1];rfl) rfl) ?_
 simp only[List.set_cons_zero,List.set_cons_succ]
 have fin:∀x7 x8,aq (mBr ((dL (cV (aX (am (au jd) (ae (ad 6) (ae (ad 5) aj))))) (ax (mOp pNe (ad 4) (ad 1))))) (bA (mC (.bl false))) aK)
   (aq (i5 6 7 8 (0)) (aq (gO 6) (bA (mFz (am (au jd) (ae (mFz (am (au gv) (ae (ad 0) (ae (ad 4) (ae (ad 3) aj))))) (ae (ad 5) aj))))))) [some r,some (.lst .bor (iL cs)),some (.lst .bor (iL ds)),some (.bl many),some (.lst .own (iL cs)),some (.lst .own (ps.map (rwF g))),some (.lst .own (ps.map (rwF .own))),x7,x8]=.ret (.bl true):=fun x7 x8=>by
  refine ak (b6 (by simp[a2,ne,aU]) aD) ?_
  refine ak (e:=[some r,some (.lst .bor (iL cs)),some (.lst .bor (iL ds)),some (.bl many),some (.lst .own (iL cs)),some (.lst .own (ps.map (rwF g))),some (.lst .own ys),none,none]) ?_ ?_
  ·unfold i5
   dsimp only[List.getElem?_cons_succ,List.getElem?_cons_zero]
   rw[if_pos (by simp),ey]
   rfl
  refine ak (rX rfl) ?_
  simp only[List.set_cons_zero,List.set_cons_succ]
  refine ce (v:=.bl true) ?_ (by simp)
  unfold mFz
  simp[K.le,K.tb,nx,aU,hb .own rfl,Fl.freeze,a1]
 cases many with
 | true =>
  refine ak (jA (by simp) (av (v:=.lst .own (ps.map (rwF .own))) ?_ (by simp only[cU,dG];rw[hlt .own rfl];rfl) rfl)) (fin _ _)
  simp[K.le,K.tb,nx,aU,hb .own rfl]
 | false =>
  refine ak (b6 (by simp) (ak (av (v:=.lst .own (ps.map (rwF .own))) ?_ (by simp only[cU,dG];rw[hlt .own rfl];rfl) rfl) (b6 ?_ aD))) (fin _ _)
  ·simp[K.le,K.tb,nx,aU,hb .own rfl]
  ·simp only[List.set_cons_zero,List.set_cons_succ]
   unfold mFz
   simp[K.le,K.tb,nx,aU,hb .own rfl,Fl.freeze,a1]
theorem mL(K:Ru r n s true D):wQ [r,.lst .bor (iL cs)]=.ok (.bl true):=by
 have e:uk [r,.bl true]=.exc 4:=by
  refine kY (e:=[some r,some (.bl true)]) ?_
  show si [some r,some (.bl true)]=_
  unfold si
  exact jA (by simp[K.le,K.a8]) (o_ (xs:=[.str "a rule that is alone gets one machine at a turn"]) (by simp))
 have e2:gv [r,.lst .bor (iL cs),.bl true]=.exc 4:=by
  refine kY (e:=[some r,some (.lst .bor (iL cs)),some (.bl true),none,none]) ?_
  show lY [some r,some (.lst .bor (iL cs)),some (.bl true),none,none]=_
  unfold lY
  exact sU (lQ (by simp[K.le,K.tb,e]))
 refine aJ (v:=.bl true) ?_
 show xt [some r,some (.lst .bor (iL cs))]=_
 unfold xt
 refine im ?_
 unfold ow
 rw[lQ (c:=4) (by simp[K.le,K.tb,e2])]
 rfl
end
theorem sH{x:Int}(h:x=0\/x=1):∃(w:Str) (wi:Int),aC (.lst .own [.str "none", .str "one"]) (.int x)=.ok (.str w)/\Wd w wi:=by
 rcases h with rfl | rfl
 ·exact⟨"none", 0,rfl,.inl ⟨rfl,rfl⟩⟩
 ·exact⟨"one", 1,rfl,.inr ⟨rfl,rfl⟩⟩
theorem law_true(fl:Fl)(ns:List Int)(h:Scr fl)(hl:ns.length<=63):vh [.lst fl (ns.map .int)]=.ok (.bl true):=by
 rw[rC]
 have cl:∀k:Nat,eP [.lst fl (iL ns),.int k]=.ok (.int (cell ns k)):=fun k=>oP ns k h
 have c0:eP [.lst fl (iL ns),.int 0]=.ok (.int (cell ns 0)):=cl 0
 have c1:eP [.lst fl (iL ns),.int 1]=.ok (.int (cell ns 1)):=cl 1
 generalize cell ns 0=z0 at c0
 generalize cell ns 1=z1 at c1
 have d4:cH (.int z0) (.int 4)=.ok (.int (z0 / 4)):=dw (by decide) (by decide)
 have d12:cH (.int z0) (.int 12)=.ok (.int (z0 / 12)):=dw (by decide) (by decide)
 have d8:cH (.int z1) (.int 8)=.ok (.int (z1 / 8)):=dw (by decide) (by decide)
 refine aJ (v:=.bl true) ?_
 show sy [some (.lst fl (iL ns)),none,none,none,none,none,none,none,none,none,none,none,none,none]=_
 unfold sy
 refine ak (av (v:=.int z0) (by simp[h.lend,h.toBor,c0,aU]) (by simp) rfl) ?_
 simp only[List.set_cons_zero,List.set_cons_succ]
 refine ak (av (v:=.int (2+z0 % 4)) (by simp[aS]) (by simp) rfl) ?_
 simp only[List.set_cons_zero,List.set_cons_succ]
 refine ak (av (v:=.int (2+z0 / 4 % 3)) (by simp[aS,d4]) (by simp) rfl) ?_
 simp only[List.set_cons_zero,List.set_cons_succ]
 refine ak (av (v:=.int 6) (by simp) (by simp) rfl) ?_
 simp only[List.set_cons_zero,List.set_cons_succ]
 obtain⟨n,sp,mo,hb,n2,n8,h1,h2,m6⟩:∃(n:Nat) (sp:Int) (mo:Nat),mBr (ax (mOp pEq (mOp bT (mOp cH (ad 1) (mC (.int (12)))) (mC (.int (8)))) (mC (.int (3))))) (aq (aF 2 (mC (.int (8)))) (aq (aF 3 (mC (.int (2)))) (aF 4 (mC (.int (1)))))) aK [some (.lst fl (iL ns)),some (.int z0),some (.int (2+z0 % 4)),some (.int (2+z0 / 4 % 3)),some (.int 6),none,none,none,none,none,none,none,none,none]=.next [some (.lst fl (iL ns)),some (.int z0),some (.int n),some (.int sp),some (.int mo),none,none,none,none,none,none,none,none,none]/\2<=n/\n<=8/\2<=sp/\sp<=4/\mo<=6:=by
  by_cases q:z0 / 12 % 8=3
  ·exact⟨8,2,1,jA (by simp[d12,aS,q]) (ak (av (v:=.int 8) (by simp) (by simp) rfl) (ak (av (v:=.int 2) (by simp) (by simp) rfl) (av (v:=.int 1) (by simp) (by simp) rfl))),by omega,by omega,by omega,by omega,by omega⟩
  ·refine⟨(2+z0 % 4).toNat,2+z0 / 4 % 3,6,(b6 (by simp[d12,aS,q]) aD).trans ?_,by omega,by omega,by omega,by omega,by omega⟩
   rw[show((2+z0 % 4).toNat:Int)=2+z0 % 4 by omega]
   rfl
 refine ak hb ?_
 clear hb
 obtain⟨fs,os,ht,hf,ho⟩:=oV (ns:=ns) h h1 h2
 refine ak (xE (v:=.tup [.lst .own (iL fs),.lst .own (iL os)]) (e:=[some (.lst fl (iL ns)),some (.int z0),some (.int n),some (.int sp),some (.int mo),some (.lst .own (iL fs)),some (.lst .own (iL os)),none,none,none,none,none,none,none]) (by simp[h.lend,h.toBor,ht,aU,PV.has,hasL]) (by simp[PV.noLnt,PV.has,hasL]) rfl) ?_
 obtain⟨w,wi,hw1,hw⟩:=sH (x:=z0 % 2) (by omega)
 have i1:=p9 n2 n8 h1 h2 hw hf ho
 refine ak (av (v:=tab .own n sp wi fs os) (by simp[aS,hw1,i1,aU]) (by simp) rfl) ?_
 simp only[List.set_cons_zero,List.set_cons_succ]
 have K:=vM (wi:=wi) n2 n8 h1 h2 hf ho
 have e1:dX (iL ns) (some 4) none=iL (ns.drop 4):=oO ns 4 rfl
 have e2:dX (iL ns) (some 1) (some 4)=iL ((ns.take 4).drop 1):=wZ ns 1 4 rfl rfl
 obtain⟨zs,hzs⟩:∃zs:List Int,zs=ns.drop 4 ++(ns.take 4).drop 1:=⟨_,rfl⟩
 have zl:zs.length<=70:=by rw[hzs];simp;omega
 have e3:∃us:List Int,dX (iL zs) none (some (mo:Int))=iL us:=⟨(zs.drop (HT.sIx (iL zs).length 0 none)).take (HT.sIx (iL zs).length (iL zs).length (some (mo:Int)) - HT.sIx (iL zs).length 0 none),by unfold dX;simp[iL]⟩
 obtain⟨us,e3⟩:=e3
 refine dE (fun _ e=>∃x8 x9 x10,e=[some (.lst fl (iL ns)),some (.int z0),some (.int n),some (.int sp),some (.int mo),some (.lst .own (iL fs)),some (.lst .own (iL os)),some (tab .own n sp wi fs os),x8,x9,x10,none,none,none]) (xs:=iL us) ?_ ⟨_,_,_,rfl⟩ (fun k x e hx hP=>?_) (fun e hP=>?_)
 ·refine cR (f:=.own) ?_ rfl (by simp) (by simp)
  simp only[gw,oK,iw,fv,eC,uu,List.getElem?_cons_zero,List.getElem?_cons_succ,cG,cu,dW,eY,Res.ok_bind,fg,eU,h.lend,e1,e2]
  rw[cm (by decide) (by decide) (by simp;omega),show iL (ns.drop 4)++ iL ((ns.take 4).drop 1)=iL zs by rw[hzs];simp[iL]]
  simp only[Res.ok_bind,eU,e3]
 ·obtain⟨x8,x9,x10,rfl⟩:=hP
  obtain⟨z,_,rfl⟩:=gW hx
  have d7:cH (.int z) (.int 7)=.ok (.int (z / 7)):=dw (by decide) (by decide)
  obtain⟨cs,hcs,cl1,cl2⟩:=rY (n:=n) (sp:=sp) (z / 7 % 65536) h1 h2 n8
  have C:Ce n sp cs:=⟨cl1,cl2⟩
  have du:=uw n2 n8 h1 h2 hf ho cl1 cl2
  have r1:=fun b=>kZ (many:=b) K C fun _=>rfl
  refine⟨_,dH rfl,?_⟩
  simp only[List.set_cons_zero,List.set_cons_succ]
  refine a_ (av (v:=.lst .own (iL cs)) (by simp[d7,aS,hcs,aU]) (by simp) rfl) ?_
  simp only[List.set_cons_zero,List.set_cons_succ]
  refine a_ (av (v:=.lst .own (iL ((List.range n).map (jg n sp fs os cs)))) (by simp[du,aU]) (by simp) rfl) ?_
  simp only[List.set_cons_zero,List.set_cons_succ]
  generalize(List.range n).map (jg n sp fs os cs)=ds at *
  exact bj (b6 (by simp[aS,r1,aU]) aD) ⟨_,_,_,rfl⟩
 obtain⟨x8,x9,x10,rfl⟩:=hP
 obtain⟨m,hm,m1,m8⟩:∃m:Nat,1+z1 % 8=m/\1<=m/\m<=8:=⟨(1+z1 % 8).toNat,by omega,by omega,by omega⟩
 have mp:(0:Int) < m:=by omega
 obtain ⟨rt,hr,hr2⟩:∃ rt:Nat,z1 / 8 % (m:Int)=(rt:Int)/\rt < m:=⟨(z1 / 8 % (m:Int)).toNat,by
  have h0:=Int.emod_nonneg (z1 / 8) (show(m:Int)≠ 0 by omega)
  have h1:=Int.emod_lt_of_pos (z1 / 8) mp
  omega⟩
 refine ak (av (v:=.int m) (by simp[h.lend,h.toBor,c1,aS,hm,aU]) (by simp) rfl) ?_
 simp only[List.set_cons_zero,List.set_cons_succ]
 refine ak (av (v:=.int rt) (by simp[h.lend,h.toBor,c1,d8,aS mp,hr,aU]) (by simp) rfl) ?_
 simp only[List.set_cons_zero,List.set_cons_succ]
 have li:=t7 m1 (show m<=10 by omega)
 have fo:=wL m1 (show m<=10 by omega) hr2
 refine ak (av (v:=jc .own m rt) (by simp only[wV,gx,oM,eC,je,List.getElem?_cons_zero,List.getElem?_cons_succ,cG,eY,Res.ok_bind,li,fo]) (by rw[cU,rJ rfl];rfl) rfl) ?_
 simp only[List.set_cons_zero,List.set_cons_succ]
 obtain⟨cs,hcs⟩:∃cs:List Int,cs=(List.range m).map fun k:Nat=>(cell ns (2+k) / ((k:Int)+1)+k) % ((m:Int)+1):=⟨_,rfl⟩
 refine ak (av (v:=.lst .own (iL cs)) ?_ (by simp) rfl) ?_
 ·rw[hcs]
  refine da (xs:=cA 0 m) (cZ (n:=m) (by simp) (by omega)) (by rw[cb];omega) (gZ 0 (fun k:Nat=>(cell ns (2+k) / ((k:Int)+1)+k) % ((m:Int)+1)) m fun k hk=>⟨[some (.lst fl (iL ns)),some (.int m),some (.int (0+k))],by simp[tgN,aW,bK,PV.borrow,h.borrow],?_⟩)
  have ck:=cl (2+k)
  rw[show((2+k:Nat):Int)=2+(k:Int) by omega]at ck
  simp[h.lend,h.toBor,ck,aU,dw (i:=cell ns (2+k)) (show(0:Int) <(k:Int)+1 by omega) (by omega),aS (show(0:Int) <(m:Int)+1 by omega)]
 simp only[List.set_cons_zero,List.set_cons_succ]
 have C:Ce m ((m:Int)+1) cs:=⟨by rw [hcs];simp,fun c hc=>by
  rw[hcs]at hc
  obtain⟨k,_,rfl⟩:=List.mem_map.mp hc
  exact⟨Int.emod_nonneg _ (by omega),Int.emod_lt_of_pos _ (by omega)⟩⟩
 have KF:=vN m1 m8 hr2
 have fd:=rH (root:=rt) m8 C.len
 have r1:=kZ (many:=false) KF C fun z=>by cases z
 have rf:=mL (cs:=cs) KF
 clear hcs
 refine ak (av (v:=.lst .own (iL ((List.range m).map (eQ m rt cs)))) (by simp[fd,aU]) (by simp) rfl) ?_
 simp only[List.set_cons_zero,List.set_cons_succ]
 generalize(List.range m).map (eQ m rt cs)=ds at *
 have fm:((jc .own m rt).mapF Fl.lend).mapF Fl.toBor=jc .bor m rt:=by rw[e_ rfl,e_ rfl];rfl
 generalize jc .own m rt=FO at *
 generalize jc .bor m rt=FB at *
 refine ak (b6 (by simp[fm,r1,rf,aU]) aD) ?_
 exact ce (v:=.bl true) (by simp[fm,r1,aU]) (by simp)
end G
namespace G
open PySem L2 PR
theorem hb:sF pt.F:=⟨bn2,bn4,bn2,bn2,bn4,bn6,bn3,bn4,bn3,bn2,bn3,bn2,bn2,bn3,bn3,bn2,bn1,bn2,bn3,bn1,bn2,bn2,bn4,bn2,bn2,bn2,bn2,bn3,bn1,bn1,bn3,bn5,bn3,bn2,bn2,bn1,trivial⟩
theorem hd:sE pe.D:=⟨bd3,trivial⟩
theorem hds:pe.D.all (fun y=>scB y.1)=true:=by decide +kernel
theorem hs:pt.F.all scB=true:=by decide +kernel
theorem fin{l:PySem.W.OpenLaw}{w:World}{K:PySem.W.Frag}{mg:Str->Option Value}{fa:Addr}(t:Ty pt pe w K mg)(hfa:mg "law" = some (.ref fa)) :
  ∃fd:FuncData,(∀(s:Shared) (u:Value),BindsTo s fd ⟨[u],[]⟩ [("_law_script", u)])/\∀base:Heap,K.In base->base.Ns mainGlobals mg->bC l.prog w K mg base (CXP l.prog w) 7 fa fd ["_law_script"] (nJ K):=by
 have e:=hfa.symm.trans (t.tx.gl 35 rfl)
 cases e
 refine⟨dAt K (pt.fa K 35),fun s u=>?_,fun base hB _=>ww (T:=T K) (wt t hB) law_true⟩
 obtain⟨oc,od,kV,doc,pm,an,cdv,ct,osl,e,_⟩:=(t.tx.fn 35).ex
 rw[e]
 exact .of_eq rfl
end G
def PySem.W.Fast.tw18401989014632207952 : Unit := ()
def PySem.W.Fast.tw9432010616792455912 : Unit := ()
def PySem.W.Fast.tw11584396959894955250 : Unit := ()
def PySem.W.Fast.tw16892908646285956446 : Unit := ()
def PySem.W.Fast.tw10977519078568755693 : Unit := ()
def PySem.W.Fast.tw11054165791607115211 : Unit := ()
def PySem.W.Fast.tw6749669987378919081 : Unit := ()
def PySem.W.Fast.tw1203294657214811759 : Unit := ()
def PySem.W.Fast.tw15957461951480079040 : Unit := ()
def PySem.W.Fast.tw5362316377204512350 : Unit := ()
def PySem.W.Fast.tw11608702736062071674 : Unit := ()
def PySem.W.Fast.tw7539044979414839847 : Unit := ()
def PySem.W.Fast.tw9760322937458911587 : Unit := ()
def PySem.W.Fast.tw2878345254055083861 : Unit := ()
def PySem.W.Fast.tw11052060709724361602 : Unit := ()
def PySem.W.Fast.tw10976064802754780937 : Unit := ()
def PySem.W.Fast.tw16216438591966239393 : Unit := ()
def PySem.W.Fast.tw3417715607717033395 : Unit := ()
def PySem.W.Fast.tw847133599318820592 : Unit := ()
def PySem.W.Fast.tw10668581414326631442 : Unit := ()
def PySem.W.Fast.tw14095829297824683922 : Unit := ()
def PySem.W.Fast.tw4838563316073213740 : Unit := ()
def PySem.W.Fast.tw3127257305191311223 : Unit := ()
def PySem.W.Fast.tw7015296463641340363 : Unit := ()
def PySem.W.Fast.tw6636120545323454251 : Unit := ()
def PySem.W.Fast.tw15797476819186704812 : Unit := ()
def PySem.W.Fast.tw12293823699300140255 : Unit := ()
def PySem.W.Fast.tw14345196049063401642 : Unit := ()
def PySem.W.Fast.tw8923798749791349840 : Unit := ()
def PySem.W.Fast.tw11418855047772746982 : Unit := ()
def PySem.W.Fast.tw16540872962234734611 : Unit := ()
def PySem.W.Fast.tw8457712562442852278 : Unit := ()
def PySem.W.Fast.tw6608240035377904290 : Unit := ()
def PySem.W.Fast.tw16177465763502169793 : Unit := ()
def PySem.W.Fast.tw9817647268898994764 : Unit := ()
def PySem.W.Fast.tw10411257297440547726 : Unit := ()
def PySem.W.Fast.tw2070239238923763126 : Unit := ()
def PySem.W.Fast.tw885004153606027825 : Unit := ()
def PySem.W.Fast.tw9626517872657160094 : Unit := ()
def PySem.W.Fast.tw10511892420084927130 : Unit := ()
def PySem.W.Fast.tw5013553247187168712 : Unit := ()
def PySem.W.Fast.tw1991881706782455926 : Unit := ()
def PySem.W.Fast.tw12653806282056890328 : Unit := ()
def PySem.W.Fast.tw15464100083193503813 : Unit := ()
def PySem.W.Fast.tw15339976926740155543 : Unit := ()
def PySem.W.Fast.tw7304466951186609538 : Unit := ()
def PySem.W.Fast.tw11697254518769477874 : Unit := ()
def PySem.W.Fast.tw298609176261422115 : Unit := ()
def PySem.W.Fast.tw10326572677493366935 : Unit := ()
def PySem.W.Fast.tw2047350925866510187 : Unit := ()
def PySem.W.Fast.tw14021027540031024641 : Unit := ()
def PySem.W.Fast.tw5241271437672855868 : Unit := ()
open PySem PySem.W PyProof.Rows
set_option maxRecDepth 100000 in
set_option maxHeartbeats 0 in
theorem PySem.Challenge.cw_calmring_k33_nexts_holds : PySem.Challenge.rw_calmring_k33_nexts.Holds := by
 w_on;o_law;k_head;(case hw=>w_witness2)
 k_fill
 refine PR.rj (l:=PySem.Challenge.rw_calmring_k33_nexts) (k:=7) (x := "_law_script") rfl rfl ⟨rfl,by decide,by decide⟩ (fun w h Y=>PySem.W.kIn_of Y) ?F
 case F =>
  intro w mg fa h KX G hmg
  refine' _root_.G.fin (_root_.PR.Ty.of KX G (_root_.PR.Tx.of KX G _root_.G.hb _root_.G.hs ?a ?b ?c ?d ?e ?f ?g) _root_.G.hd _root_.G.hds ?h ?i ?j ?k) hmg
  (case a=>exact fun z=>nomatch z)
  (case b=>exact fun z=>nomatch z)
  (case c=>exact fun z=>nomatch z)
  (case d=>kernel_rfl)
  (case e=>kernel_rfl)
  (case f=>kernel_rfl)
  (case g=>kernel_rfl)
  (case h=>kernel_rfl)
  (case i=>kernel_rfl)
  (case j=>kernel_rfl)
  (case k=>kernel_rfl)
