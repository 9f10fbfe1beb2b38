import PyProof.Rows.All
import Wide.All
import OpenK.AllK
import Wide.FinOn
import Lean
import PyProof.EqAt
import PyProof.EqKinds
import PyProof.TupleCall
import PySem.Challenge.RW_calmring_k39_run_refused
set_option Elab.async false
set_option linter.all false
set_option maxRecDepth 100000
noncomputable section
set_option genSizeOf false
set_option bootstrap.genMatcherCode false
namespace L2
open PySem PySem.Spec PyProof.Rows
abbrev Key:=Sum Int Str
def vy:Key->Value->Bool
 | .inl k,v=>Value.isInt k v
 | .inr x,v=>Value.isStrOf x v
def Bj(w:World):Key->Int
 | .inl k=>hashInt k
 | .inr x=>hashStr w x
def bv:∀{k:Key}{v:Value},vy k v=true->(∃i t,k=Sum.inl i/\v=Value.int i t)\/(∃x t,k=Sum.inr x/\v=Value.str x t)
 | .inl i,v,h=>by
  obtain⟨t,e⟩:=Value.isInt_shape (k:=i) (v:=v) h
  exact .inl ⟨i,t,rfl,e⟩
 | .inr x,v,h=>by
  obtain⟨t,e⟩:=Value.isStrOf_shape (x:=x) (v:=v) h
  exact .inr ⟨x,t,rfl,e⟩
def w6(a b:Int):decide ((Sum.inl a:Key)=Sum.inl b)=(a==b):=by
 by_cases e:a=b
 ·subst e;simp
 ·have h:¬(Sum.inl a:Key)=Sum.inl b:=fun q=>e (Sum.inl.inj q)
  rw[decide_eq_false h]
  exact(beq_eq_false_iff_ne.mpr e).symm
def wZ(a b:Str):decide ((Sum.inr a:Key)=Sum.inr b)=decide (a=b):=by
 by_cases e:a=b
 ·subst e;simp
 ·have h:¬(Sum.inr a:Key)=Sum.inr b:=fun q=>e (Sum.inr.inj q)
  rw[decide_eq_false h,decide_eq_false e]
def w5(a:Int)(b:Str):decide ((Sum.inl a:Key)=Sum.inr b)=false:=decide_eq_false (fun q=>nomatch q)
def w4(a:Str)(b:Int):decide ((Sum.inr a:Key)=Sum.inl b)=false:=decide_eq_false (fun q=>nomatch q)
def kH(prog:Program)(w:World):PySem.KeyKind prog w Key where
 is:=vy
 hash:=Bj w
 inj:=fun v a b ha hb=>by
  rcases bv ha with⟨i,t,rfl,rfl⟩ |⟨x,t,rfl,rfl⟩
  ·rcases bv hb with⟨j,u,rfl,e⟩ |⟨y,u,rfl,e⟩
   ·injection e with e1 _;rw[e1]
   ·exact nomatch e
  ·rcases bv hb with⟨j,u,rfl,e⟩ |⟨y,u,rfl,e⟩
   ·exact nomatch e
   ·injection e with e1 _;rw[e1]
 byValue:=fun k v h=>by
  rcases bv h with⟨i,t,rfl,rfl⟩ |⟨x,t,rfl,rfl⟩<;>rfl
 pyHash:=fun hv h=>by
  rcases bv hv with⟨i,t,rfl,rfl⟩ |⟨x,t,rfl,rfl⟩
  ·exact wpAny_pyHash_int h
  ·exact wpAny_pyHash_str h
 eqBool:=fun hu hv h=>by
  rcases bv hu with⟨i,t,rfl,rfl⟩ |⟨x,t,rfl,rfl⟩
  ·rcases bv hv with⟨j,u,rfl,rfl⟩ |⟨y,u,rfl,rfl⟩
   ·rw[w6]at h;exact wpAny_eqBool_int h
   ·rw[w5]at h;exact SeqAt.EqAt.int_str i t y u _ _ _ _ h
  ·rcases bv hv with⟨j,u,rfl,rfl⟩ |⟨y,u,rfl,rfl⟩
   ·rw[w4]at h;exact SeqAt.EqAt.str_int x t j u _ _ _ _ h
   ·rw[wZ]at h;exact wpAny_eqBool_str h
 «strs»:=fun k x t v h=>by
  rcases bv h with⟨i,u,rfl,e⟩ |⟨y,u,rfl,e⟩
  ·exact nomatch e
  ·injection e with e1 _
   subst e1
   cases v<;>rfl
end L2
namespace L2
open PySem PySem.Spec PyProof.Rows
inductive V where
 | non | bl (b:Bool) | int (i:Int) | str (x:Str) | byt (b:Array UInt8) | flt (b:UInt64) | ref (a:Addr) | ty (n:String)
 deriving DecidableEq
def aT:V->Value->Prop
 | .non,u=>u=Value.none
 | .bl b,u=>u=Value.bool b
 | .int i,u=>∃t,u=Value.int i t
 | .str x,u=>∃t,u=Value.str x t
 | .byt b,u=>∃t,u=Value.bytes b t
 | .flt b,u=>∃t,u=Value.float b t
 | .ref a,u=>u=Value.ref a
 | .ty n,u=>u=Value.type n
abbrev aB:List V->List Value->Prop:=Paired aT
def aB.length{xs:List V}{us:List Value}(r:aB xs us):xs.length=us.length:=Paired.length r
def aB.get:∀{xs:List V}{us:List Value}{i:Nat}{x:V},aB xs us->xs[i]?=some x->∃u,us[i]?=some u/\aT x u
 | _,_,_,_,.nil,e=>by simp at e
 | _,_,0,_,.cons r _,e=>by simp at e;subst e;exact⟨_,rfl,r⟩
 | _,_,i+1,x,.cons _ t,e=>by
  obtain⟨u,h1,h2⟩:=aB.get (i:=i) (x:=x) t (by simpa using e)
  exact⟨u,by simpa using h1,h2⟩
def aB.set{x:V}{u:Value}(r:aT x u):∀{xs:List V}{us:List Value} (i:Nat),aB xs us->aB (xs.set i x) (us.set i u)
 | _,_,_,.nil=>.nil
 | _,_,0,.cons _ t=>.cons r t
 | _,_,i+1,.cons q t=>.cons q (aB.set r i t)
def aB.append:∀{xs ys:List V}{us ws:List Value},aB xs us->aB ys ws->aB (xs++ys) (us++ws)
 | _,_,_,_,.nil,s=>s
 | _,_,_,_,.cons r t,s=>.cons r (aB.append t s)
def aB.take:∀{xs:List V}{us:List Value} (n:Nat),aB xs us->aB (xs.take n) (us.take n)
 | _,_,0,_ | _,_,_+1,.nil=>.nil
 | _,_,n+1,.cons r t=>.cons r (aB.take n t)
def aB.drop:∀{xs:List V}{us:List Value} (n:Nat),aB xs us->aB (xs.drop n) (us.drop n)
 | _,_,0,r=>r
 | _,_,_+1,.nil=>.nil
 | _,_,n+1,.cons _ t=>aB.drop n t
def jB:Option V->Option Value->Prop
 | some v,some u=>aT v u
 | none,none=>True
 | _,_=>False
def KV{κ:Type}:List (κ×V)->List (κ×Value)->Prop:=Paired fun(p:κ×V) (q:κ×Value)=>p.1=q.1/\aT p.2 q.2
def kV:Key->V
 | .inl i=>.int i
 | .inr x=>.str x
inductive HO where
 | lst (xs:List V)
 | tup (xs:List V)
 | dK (kvs:List (Key×V)) | dT (kvs:List (List Key×V))
 | set(S:Int->Bool) (n:Nat)
 | ins (C dx:Addr) (fs:List (Str×V))
 | own (x:Addr)
 | xd (fs:List (Str×V))
 | met (f x:Addr)
 | rng (lo hi:Int)
 | frz (o:Obj) (u:HO)
 | tbl (ps:Array Value)
 | ext (φ:Heap->Prop)
abbrev Hp:=Addr->Option HO
def upd(H:Hp)(a:Addr)(o:HO):Hp:=fun b=>if b=a then some o else H b
def aJ{H:Hp}{a:Addr}{o:HO}:upd H a o a=some o:=by unfold upd;rw[if_pos rfl]
def ax{H:Hp}{a b:Addr}{o:HO}(h:b≠a):upd H a o b=H b:=by unfold upd;rw[if_neg h]
def bA{H:Hp}{a b:Addr}{o:HO}(h:H a=some o)(h':H b=none):a≠b:=by
 intro e;subst e;rw[h]at h';cases h'
section
variable(P:Program)(w:World)
def Kp:HO->Prop
 | .tup _ | .frz _ _=>True
 | _=>False
def Tab(H:Hp)(ps qs:Array Value):Prop:=qs=#[]\/ ∃l c q t0 c' oc u vs t,ps=#[l,c,.str q t0]/\qs=#[l,c,.ref c']/\H c'=some (.frz oc u)/\oc.data=.fields vs/\vs[1]?=some (.str q t)
def cb(H:Hp)(h:Heap)(a:Addr):HO->Prop
 | .lst xs=>xs.length<=sizeLine/\∃(its:List Value) (n:Nat),aB xs its/\h.get? a=some { cls:=.type "list", data:=.seq its.toArray n }
 | .tup xs=>xs.length<=sizeLine/\∃its:List Value,aB xs its/\IsTup h a its.toArray
 | .dK kvs=>kvs.length<=sizeLine/\(a==sysModules)=false/\∃vs,KV kvs vs/\h.DictOf (kH P w) a vs
 | .dT kvs=>kvs.length<=sizeLine/\(a==sysModules)=false/\∃xs:List (List Key×Addr×Value),
   Paired (fun(p:List Key×V) (q:List Key×Addr×Value)=>p.1=q.1/\H q.2.1=some (.tup (p.1.map kV))/\aT p.2 q.2.2) kvs xs /\
   ∃o es ep,h.get? a=some o/\o.ExactDict/\o.data=.dict es ep/\es.toList=xs.map (entryOfKey (tupleKind (kH P w)))/\(xs.map (·.1)).Nodup
 | .set S n=>h.SetOf (intKind P w) a S n
 | .ins C dx fs=>H dx=some (.own a)/\fs.length<=1000/\dx≠a/\h.get? a=some (PySem.W.instObj C dx)/\
   ∃mA,h.Ns1 dx mA/\(∀f,jB (fs.lookup f) (mA f))/\PySem.Within mA (fs.map (·.1))
 | .own _=>∃o,h.get? a=some o
 | .xd fs=>∃mA,h.Ns1 a mA/\∀f,jB (fs.lookup f) (mA f)
 | .rng lo hi=>∃t u v,h.get? a=some { cls:=.type "range", data:=.fields #[.int lo t,.int hi u,.int 1 v] }
 | .frz o u=>h.get? a=some o/\cb H h a u
 | .tbl ps=>∃qs,h.get? a=some { cls:=.none,data:=.fields qs }/\Tab H ps qs
 | .met f x=>h.get? a=some (PySem.W.methodObj (.ref f) (.ref x))
 | .ext φ=>φ h/\(∃o,h.get? a=some o)/\∀h1 h2:Heap,φ h1->(∀o,h1.get? a=some o->h2.get? a=some o)->φ h2
def HOk(H:Hp)(h:Heap):Prop:=∀a o,H a=some o->cb P w H h a o
end
section
variable{P:Program}{w:World}{H H':Hp}{h h':Heap}{a:Addr}{o:HO}
def cb.lt(x:cb P w H h a o):a < h.objs.size:=by
 cases o with
 | lst xs=>obtain⟨_,_,_,_,e⟩:=x;exact Heap.lt_size e
 | tup xs=>obtain⟨_,_,_,p⟩:=x;exact p.lt
 | dK kvs | dT kvs=>obtain⟨_,_,_,_,o,_,_,e,_⟩:=x;exact Heap.lt_size e
 | set S n=>obtain⟨o,_,_,_,e,_⟩:=x;exact Heap.lt_size e
 | ins C dx fs=>obtain⟨_,_,_,e,_⟩:=x;exact Heap.lt_size e
 | own y=>obtain⟨_,e⟩:=x;exact Heap.lt_size e
 | xd fs=>obtain⟨_,⟨_,_,_,e,_⟩,_⟩:=x;exact Heap.lt_size e
 | rng lo hi=>obtain⟨_,_,_,e⟩:=x;exact Heap.lt_size e
 | frz ob u=>obtain⟨e,_⟩:=x;exact Heap.lt_size e
 | tbl ps=>obtain⟨_,e,_⟩:=x;exact Heap.lt_size e
 | met f y=>exact Heap.lt_size (show h.get? a=some _ from x)
 | ext φ=>obtain⟨_,⟨_,e⟩,_⟩:=x;exact Heap.lt_size e
def Paired.mapP{α β:Type}{F G:α->β->Prop}:∀{l₁:List α}{l₂:List β},Paired F l₁ l₂->(∀a b,F a b->G a b)->Paired G l₁ l₂
 | _,_,.nil,_=>.nil
 | _,_,.cons r t,f=>.cons (f _ _ r) (Paired.mapP t f)
def cb.stay(x:cb P w H h a o)(k:∀b u,(b=a\/H b=some (.own a))->h.get? b=some u->h'.get? b=some u)
  (ho:∀b,H b=some (.own a)->H' b=some (.own a)) (ht:∀b u,Kp u->H b=some u->H' b=some u):cb P w H' h' a o:=by
 induction o with
 | lst xs=>obtain⟨z,its,n,r,e⟩:=x;exact⟨z,its,n,r,k _ _ (.inl rfl) e⟩
 | tup xs=>obtain⟨z,its,r,ob,e,c⟩:=x;exact⟨z,its,r,ob,k _ _ (.inl rfl) e,c⟩
 | dK kvs=>obtain⟨z,y,vs,r,ob,es,ep,e,c⟩:=x;exact⟨z,y,vs,r,ob,es,ep,k _ _ (.inl rfl) e,c⟩
 | dT kvs =>
  obtain⟨z,y,xs,r,ob,es,ep,e,c⟩:=x
  exact⟨z,y,xs,Paired.mapP r fun p q z=>⟨z.1,ht _ _ True.intro z.2.1,z.2.2⟩,ob,es,ep,k _ _ (.inl rfl) e,c⟩
 | set S n=>obtain⟨ob,es,ep,t,e,c⟩:=x;exact⟨ob,es,ep,t,k _ _ (.inl rfl) e,c⟩
 | ins C dx fs =>
  obtain⟨d,z,ne,e,mA,⟨od,es,ep,e2,c⟩,r⟩:=x
  exact⟨ho _ d,z,ne,k _ _ (.inl rfl) e,mA,⟨od,es,ep,k _ _ (.inr d) e2,c⟩,r⟩
 | own y=>obtain⟨ob,e⟩:=x;exact⟨ob,k _ _ (.inl rfl) e⟩
 | xd fs=>obtain⟨mA,⟨od,es,ep,e,c⟩,r⟩:=x;exact⟨mA,⟨od,es,ep,k _ _ (.inl rfl) e,c⟩,r⟩
 | rng lo hi=>obtain⟨t,u,v,e⟩:=x;exact⟨t,u,v,k _ _ (.inl rfl) e⟩
 | frz ob u ih=>obtain⟨e,q⟩:=x;exact⟨k _ _ (.inl rfl) e,ih q⟩
 | tbl ps =>
  obtain⟨qs,e,c⟩:=x
  exact⟨qs,k a _ (.inl rfl) e,c.imp (fun z=>z) fun⟨l,c,q,t0,c',oc,u,vs,t,e1,e2,e3,r⟩=>⟨l,c,q,t0,c',oc,u,vs,t,e1,e2,ht _ _ True.intro e3,r⟩⟩
 | met f y =>
  have e:h.get? a=some (PySem.W.methodObj (.ref f) (.ref y)):=x
  show h'.get? a=some (PySem.W.methodObj (.ref f) (.ref y))
  exact k a _ (.inl rfl) e
 | ext φ=>obtain⟨p,⟨o,e⟩,st⟩:=x;exact⟨st _ _ p fun o q=>k _ _ (.inl rfl) q,⟨o,k _ _ (.inl rfl) e⟩,st⟩
def HOk.lt(x:HOk P w H h)(e:H a=some o):a < h.objs.size:=(x a o e).lt
def HOk.fresh(x:HOk P w H h)(e:h.objs.size<=a):H a=none:=by
 cases q:H a with
 | none=>rfl
 | some u=>exact absurd (Nat.lt_of_lt_of_le (x.lt q) e) (Nat.lt_irrefl _)
def HOk.kept(x:HOk P w H h)(k:∀b u,h.get? b=some u->h'.get? b=some u):HOk P w H h':=fun a o e =>
 (x a o e).stay (fun b u _ q=>k b u q) (fun _ q=>q) fun _ _ _ q=>q
def HOk.laid(x:HOk P w H h)(k:∀b u,h.get? b=some u->h'.get? b=some u)(hp:h.objs.size<=a)(new:cb P w (upd H a o) h' a o):HOk P w (upd H a o) h':=fun b u e=>by
 have hn:=x.fresh hp
 by_cases hb:b=a
 ·subst hb;rw[aJ]at e;cases e;exact new
 ·rw[ax hb]at e
  exact(x b u e).stay (fun c v _ q=>k c v q) (fun c q=>by rw[ax (bA q hn)];exact q) fun c xs _ q=>by rw[ax (bA q hn)];exact q
end
def Rd(H:Hp)(a:Addr)(u:HO):Prop:=H a=some u\/∃o,H a=some (.frz o u)
def Rd.ok{P:Program}{w:World}{H:Hp}{h:Heap}{a:Addr}{u:HO}(r:Rd H a u)(x:HOk P w H h):cb P w H h a u:=by
 rcases r with r |⟨o,r⟩
 ·exact x a u r
 ·obtain⟨_,q⟩:=x a _ r
  exact q
def Mut:Option HO->Prop
 | some (.lst _) | some (.dK _) | some (.dT _) | some (.set _ _) | some (.ins _ _ _) | some (.ext _)=>True
 | _=>False
section
variable{P:Program}{w:World}{H:Hp}{h h':Heap}{x e:Addr}{o':HO}
def HOk.write(ok:HOk P w H h)(mu:Mut (H x))(he:e=x\/H e=some (.own x))(k:∀b u,b≠e->h.get? b=some u->h'.get? b=some u)(heo:∃u,h'.get? e=some u)
  (new:cb P w (upd H x o') h' x o'):HOk P w (upd H x o') h':=fun b u q=>by
 have nown:∀c y,H c=some (.own y)->c≠x:=fun c y r z=>by subst z;rw[r]at mu;exact mu
 have ntup:∀c u,Kp u->H c=some u->c≠x:=fun c u h r z=>by subst z;rw[r]at mu;cases u<;>first | exact h | exact mu
 by_cases hb:b=x
 ·subst hb;rw[aJ]at q;cases q;exact new
 ·rw[ax hb]at q
  by_cases hbe:b=e
  ·have q':H b=some (.own x):=by
    rcases he with z | z
    ·exact absurd (hbe.trans z) hb
    ·rw[hbe];exact z
   rw[q]at q';cases q'
   obtain⟨v,hv⟩:=heo
   exact⟨v,by rw[hbe];exact hv⟩
  ·refine(ok b u q).stay (fun c v hc r=>k c v ?_ r) (fun c r=>by rw[ax (nown c b r)];exact r) fun c xs h r=>by rw[ax (ntup c xs h r)];exact r
   rcases hc with rfl | hc
   ·exact hbe
   ·rintro rfl
    rcases he with z | z
    ·exact nown c b hc z
    ·rw[hc]at z;cases z;exact hb rfl
end
structure Un(fs ex:List Addr)(H H':Hp)(h h':Heap):Prop where
 keep:∀b o,h.get? b=some o->H b=none->b∉fs->b∉ex->h'.get? b=some o
 slot:∀b o,h.get? b=some o->H b=none->b∈fs->b∉ex->∃sl,h'.get? b=some { o with slots:=sl }
 free:∀b o,h.get? b=some o->H b=none->b∉ex->H' b=none
 there:∀b o,h.get? b=some o->b∉ex->∃o',h'.get? b=some o'
 tups:∀b xs,H b=some (.tup xs)->H' b=some (.tup xs)
 frzs:∀b o u,H b=some (.frz o u)->H' b=some (.frz o u)
 tbls:∀b ps,H b=some (.tbl ps)->∃more,H' b=some (.tbl (ps++more))
section
variable{fs fs' ex ex':List Addr}{H H1 H2:Hp}{h h1 h2 h':Heap}{a x e:Addr}{o:HO}
def Un.any(u:Un fs ex H H1 h h1){b:Addr}{ob:Obj}(q:h.get? b=some ob)(n:H b=none)(hx:b∉ex):∃sl,h1.get? b=some { ob with slots:=sl }:=by
 by_cases hb:b∈fs
 ·exact u.slot b ob q n hb hx
 ·exact⟨ob.slots,u.keep b ob q n hb hx⟩
def Un.trans(a:Un fs ex H H1 h h1)(b:Un fs ex H1 H2 h1 h2):Un fs ex H H2 h h2 where
 keep:=fun c ob q n hc hx=>b.keep c ob (a.keep c ob q n hc hx) (a.free c ob q n hx) hc hx
 slot:=fun c ob q n hc hx=>by
  obtain⟨sl,e1⟩:=a.slot c ob q n hc hx
  obtain⟨sl',e2⟩:=b.slot c _ e1 (a.free c ob q n hx) hc hx
  exact⟨sl',e2⟩
 free:=fun c ob q n hx=>by
  obtain⟨o',e1⟩:=a.there c ob q hx
  exact b.free c o' e1 (a.free c ob q n hx) hx
 there:=fun c ob q hx=>by
  obtain⟨o',e1⟩:=a.there c ob q hx
  exact b.there c o' e1 hx
 tups:=fun c xs q=>b.tups c xs (a.tups c xs q)
 frzs:=fun c ob xs q=>b.frzs c ob xs (a.frzs c ob xs q)
 tbls:=fun c ps q=>by
  obtain⟨m1,e1⟩:=a.tbls c ps q
  obtain⟨m2,e2⟩:=b.tbls c _ e1
  exact⟨m1++m2,by rw[e2,Array.append_assoc]⟩
def Un.kept(k:∀b u,h.get? b=some u->h'.get? b=some u):Un fs ex H H h h' :=
 ⟨fun b ob q _ _ _=>k b ob q,fun b ob q _ _ _=>⟨ob.slots,k b ob q⟩,fun _ _ _ n _=>n,fun b ob q _=>⟨ob,k b ob q⟩,fun _ _ q=>q,fun _ _ _ q=>q,fun _ ps q=>⟨#[],by rw[q];simp⟩⟩
def Un.refl:Un fs ex H H h h:=Un.kept fun _ _ q=>q
def Un.laid(k:∀b u,h.get? b=some u->h'.get? b=some u)(hp:h.objs.size<=a)(hn:H a=none):Un fs ex H (upd H a o) h h' where
 keep:=fun b u q _ _ _=>k b u q
 slot:=fun b u q _ _ _=>⟨u.slots,k b u q⟩
 free:=fun b u q n _=>by rw[ax (Nat.ne_of_lt (Nat.lt_of_lt_of_le (Heap.lt_size q) hp))];exact n
 there:=fun b u q _=>⟨u,k b u q⟩
 tups:=fun b xs q=>by rw[ax (bA q hn)];exact q
 frzs:=fun b u xs q=>by rw[ax (bA q hn)];exact q
 tbls:=fun b ps q=>⟨#[],by rw[ax (bA q hn),q];simp⟩
def Un.write(mu:Mut (H x))(he:e=x\/H e=some (.own x))(k:∀b u,b≠e->h.get? b=some u->h'.get? b=some u)(heo:∃u,h'.get? e=some u):Un fs ex H (upd H x o) h h':=by
 have hx:∀b,H b=none->b≠x:=fun b n z=>by subst z;rw[n]at mu;exact mu
 have hb:∀b,H b=none->b≠e:=fun b n z=>by
  subst z
  rcases he with r | r
  ·exact hx b n r
  ·rw[n]at r;cases r
 have hm:∀b u,H b=some u->¬Mut (some u)->b≠x:=fun b u q nm z=>by subst z;rw[q]at mu;exact nm mu
 refine ⟨fun b u q n _ _=>k b u (hb b n) q,fun b u q n _ _=>⟨u.slots,k b u (hb b n) q⟩,fun b u q n _=>by rw [ax (hx b n)];exact n,fun b u q _=>?_,
  fun b xs q=>by rw[ax (hm b _ q fun z=>z)];exact q,fun b u xs q=>by rw[ax (hm b _ q fun z=>z)];exact q,fun b ps q=>⟨#[],by rw[ax (hm b _ q fun z=>z),q];simp⟩⟩
 by_cases hbe:b=e
 ·subst hbe;exact heo
 ·exact⟨u,k b u hbe q⟩
def Un.mono(u:Un fs ex H H1 h h1)(hs:∀b∈fs,b∈fs')(hx:∀b∈ex,b∈ex'):Un fs' ex' H H1 h h1 :=
 ⟨fun b ob q n hb he=>u.keep b ob q n (fun z=>hb (hs b z)) fun z=>he (hx b z),fun _ _ q n _ he=>u.any q n fun z=>he (hx _ z),fun b ob q n he=>u.free b ob q n fun z=>he (hx b z),fun b ob q he=>u.there b ob q fun z=>he (hx b z),u.tups,u.frzs,u.tbls⟩
end
def trk(h:Heap)(H:Hp):List Addr:=(List.range h.objs.size).filter fun a=>(H a).isSome
def i6(h:Heap)(H:Hp):Heap:=PySem.W.hideAll h (trk h H)
def pG(h:Heap)(H:Hp):(i6 h H).objs.size=h.objs.size:=PySem.W.hideAll_size _ _
def rC{h:Heap}{H:Hp}{b:Addr}{o:Obj}(e:h.get? b=some o)(n:H b=none):(i6 h H).get? b=some o :=
 PySem.W.hideAll_get _ e fun hm=>by
  have q:(H b).isSome=true:=(List.mem_filter.mp hm).2
  rw[n]at q;simp at q
def ue{h:Heap}{H:Hp}{b:Addr}{o:Obj}(e:(i6 h H).get? b=some o):h.get? b=some o/\H b=none:=by
 have e':h.get? b=some o:=PySem.W.of_hideAll (trk h H) e
 refine⟨e',?_⟩
 cases q:H b with
 | none=>rfl
 | some x =>
  have hm:b∈trk h H:=List.mem_filter.mpr ⟨List.mem_range.mpr (Heap.lt_size e'),by simp[q]⟩
  have z:(i6 h H).get? b=none:=PySem.W.hideAll_none (trk h H) hm
  rw[z]at e;cases e
def vb(g h:Heap)(L:Addr):List (Addr×Obj):=(List.range h.objs.size).filterMap fun a=>if a=L \/(g.get? a).isSome=true then none else(h.get? a).map fun o=>(a,o)
def aV(g h:Heap)(L d:Addr):List (Addr×Obj):=(vb g h L).filter fun p=>decide (p.1≠d)
end L2
namespace L2
open PySem PySem.Spec PyProof.Rows
structure Mod(K:PySem.W.Frag)(mg:Str->Option Value)(base:Heap):Prop where
 kin:K.In base
 glob:base.Ns mainGlobals mg
 blt:∃mb,base.Ns builtinsNs mb/\∀x:Str,x≠"__name__" -> mb x=bootBuiltins x
 nolimit:base.NoLimit
structure Cx where
 prog:Program
 w:World
 K:PySem.W.Frag
 mg:Str->Option Value
 base:Heap
 A:Around
 N:List Str
 s₀:Shared
 H₀:Hp
 env:Env
 outer:List Env
 stack:List Env
 ex:List Addr
 fn:Str->Bool
 calm:Bool
 pn:List (Addr×Obj)
 xe:Value->Shared->Prop
def frs(l:List Env):List Addr:=l.filterMap (·.frame)
abbrev Cx.fs(X:Cx):List Addr:=frs X.outer
def Vis(sc:Scope)(x:Str):Prop:=sc.names.lookup x=some .local\/sc.names.lookup x=some .cell\/sc.names.lookup x=some .free
def Loc(sc:Scope)(x:Str):Prop:=sc.names.lookup x=some .local\/sc.names.lookup x=some .cell
def Bz(env:Env)(h:Heap)(m:Str->Option Value)(x:Str)(u:Value):Prop :=
 (env.kindOf x=some .local/\m x=some u)\/((env.kindOf x=some .cell\/env.kindOf x=some .free)/\∃c,env.cells.lookup x=some c/\h.IsCell c (some u))
structure Cx.Ok(X:Cx):Prop where
 mod:Mod X.K X.mg X.base
 kind:X.env.scope.kind=.function
 glob:X.env.globals=mainGlobals
 blt:X.env.builtins=builtinsNs
 above:X.s₀.heap.objs.size<=X.env.locals
 inj:∀x y c,X.env.cells.lookup x=some c->X.env.cells.lookup y=some c->x=y
 has:∀x,(X.env.kindOf x=some .cell\/X.env.kindOf x=some .free)->∃c,X.env.cells.lookup x=some c
 cab:∀x c,X.fn x=true->X.env.cells.lookup x=some c->X.s₀.heap.objs.size<=c
 hd:X.calm=true->X.A.handled=none
 frames:X.A.frames=some X.stack
 stk:X.stack=X.outer \/(X.stack=X.env::X.outer/\X.env.frame=some X.env.locals)
 exf:∀b∈X.ex,b≠X.env.locals/\∀x c,X.env.cells.lookup x=some c->c≠b
 bs:∀b o,X.base.get? b=some o->X.s₀.heap.get? b=some o/\X.H₀ b=none
 bsz:X.base.objs.size<=X.s₀.heap.objs.size
 noex:∀b o,X.base.get? b=some o->b∉X.ex
 exfs:∀b∈X.ex,b∉X.fs
 funs:X.s₀.heap.FunFrames X.base X.outer
 frf:∀b∈X.fs,X.H₀ b=none
structure Inv(X:Cx)(gV:List (Addr×Obj))(Y:List (Option V))(H:Hp)(s:Shared):Prop where
 ok:X.Ok
 os:s.os=X.s₀.os
 bare:AllBare s.gens
 base:Un X.fs X.ex X.H₀ H X.s₀.heap s.heap
 loc:∃m,s.heap.Ns X.env.locals m/\∀(i:Nat) (x:Str) (v:V),X.N[i]?=some x->Y[i]?=some (some v)->Vis X.env.scope x->∃u,aT v u/\Bz X.env s.heap m x u
 cell:∀x c,X.env.cells.lookup x=some c->∃v,s.heap.IsCell c v
 free:H X.env.locals=none
 freeC:∀x c,X.env.cells.lookup x=some c->H c=none\/X.fn x=false/\∃o u,H c=some (.frz o u)
 pin:∀p∈X.pn++gV,s.heap.get? p.1=some p.2/\H p.1=none/\p.1≠X.env.locals/\p.1∉X.fs/\∀v,p.2.data≠.cell v
 hok:HOk X.prog X.w H s.heap
 len:Y.length=X.N.length
section
variable{X:Cx}{gV:List (Addr×Obj)}{Y:List (Option V)}{H H':Hp}{s:Shared}{h':Heap}
def Cx.Ok.nofr(ok:X.Ok){b:Addr}{o:Obj}(e:X.base.get? b=some o):b∉X.fs:=fun hb=>by
 have:=(ok.funs.mem hb).1
 rw[e]at this;cases this
def Inv.bs(I:Inv X gV Y H s):∀b o,X.base.get? b=some o->s.heap.get? b=some o/\H b=none:=fun b o e =>
 ⟨I.base.keep b o (I.ok.bs b o e).1 (I.ok.bs b o e).2 (I.ok.nofr e) (I.ok.noex b o e),I.base.free b o (I.ok.bs b o e).1 (I.ok.bs b o e).2 (I.ok.noex b o e)⟩
def Inv.bk(I:Inv X gV Y H s):∀b o,X.base.get? b=some o->s.heap.get? b=some o:=fun b o e=>(I.bs b o e).1
def Inv.mod(I:Inv X gV Y H s):Mod X.K X.mg X.base:=I.ok.mod
def Inv.kIn(I:Inv X gV Y H s):X.K.In s.heap:=I.ok.mod.kin.keeps I.bk
def Inv.lt(I:Inv X gV Y H s):X.env.locals < s.heap.objs.size:=let⟨_,hn,_⟩:=I.loc;hn.lt
def Inv.sz(I:Inv X gV Y H s):X.s₀.heap.objs.size<=s.heap.objs.size:=Nat.le_trans I.ok.above (Nat.le_of_lt I.lt)
def Inv.nofs(I:Inv X gV Y H s){a:Addr}(h:s.heap.objs.size<=a):a∉X.fs:=fun hb=>by
 obtain⟨_,o,ho,_⟩:=I.ok.funs.mem hb
 exact absurd (Nat.lt_of_lt_of_le (Heap.lt_size ho) (Nat.le_trans I.sz h)) (Nat.lt_irrefl _)
def Inv.cne(I:Inv X gV Y H s):∀x c,X.env.cells.lookup x=some c->c≠X.env.locals:=fun x c e z=>by
 obtain⟨v,o,ho,hd⟩:=I.cell x c e
 obtain⟨m,⟨o',es,ep,ho',hd',_⟩,_⟩:=I.loc
 rw[z,ho']at ho;cases ho;rw[hd']at hd;cases hd
def Inv.funs(I:Inv X gV Y H s):s.heap.FunFrames X.base X.outer:=by
 have all:∀(l:List Env),(∀b∈frs l,b∈X.fs)->X.s₀.heap.FunFrames X.base l->s.heap.FunFrames X.base l:=by
  intro l
  induction l with
  | nil=>intro _ _;trivial
  | cons env r ih =>
   intro hs hl
   obtain⟨hk,⟨L,o,hf,hn,ho,hd⟩,hr⟩:=hl
   have hL:L∈X.fs:=hs L (by unfold frs;rw[List.filterMap_cons,hf];exact List.mem_cons_self)
   obtain⟨sl,e⟩:=I.base.slot L o ho (I.ok.frf L hL) hL fun z=>I.ok.exfs L z hL
   exact⟨hk,⟨L,_,hf,hn,e,hd⟩,ih (fun b hb=>hs b (by unfold frs;rw[List.filterMap_cons,hf];exact List.mem_cons_of_mem _ hb)) hr⟩
 exact all X.outer (fun _ hb=>hb) I.ok.funs
def Inv.stack(I:Inv X gV Y H s):s.heap.FunFrames X.base X.stack:=by
 rcases I.ok.stk with e |⟨e,hf⟩
 ·rw[e];exact I.funs
 ·rw[e]
  obtain⟨m,hn,_⟩:=I.loc
  refine .cons (by rw[I.ok.kind];decide) hf hn ?_ I.funs
  exact Heap.get?_none_of_le (Nat.le_trans I.ok.bsz I.ok.above)
def Inv.stkSub(I:Inv X gV Y H s):∀b∈frs X.stack,b∈X.env.locals::X.fs:=fun b hb=>by
 rcases I.ok.stk with e |⟨e,hf⟩
 ·rw[e]at hb;exact List.mem_cons_of_mem _ hb
 ·rw[e]at hb
  unfold frs at hb
  rw[List.filterMap_cons,hf]at hb
  exact hb
def Inv.stkFree(I:Inv X gV Y H s):∀b∈frs X.stack,H b=none:=fun b hb=>by
 rcases List.mem_cons.mp (I.stkSub b hb)with e | hb
 ·rw[e];exact I.free
 ·obtain⟨_,o,ho,_⟩:=I.ok.funs.mem hb
  exact I.base.free b o ho (I.ok.frf b hb) fun z=>I.ok.exfs b z hb
def Inv.step{g':Array GenState}{t':Nat}{d':Drawn}{ch:List Addr}(I:Inv X gV Y H s)
  (hch:∀b∈ch,(b∈X.ex\/X.s₀.heap.objs.size<=b)/\b≠X.env.locals/\(∀x c,X.env.cells.lookup x=some c->c≠b)/\∀p∈X.pn++gV,p.1≠b)
  (keep:∀b o,b≠X.env.locals->b∉X.fs->b∉ch->s.heap.get? b=some o->H b=none->h'.get? b=some o)
  (slot:∀b o,b≠X.env.locals->b∈X.fs->b∉ch->s.heap.get? b=some o->H b=none->∃sl,h'.get? b=some { o with slots:=sl }) (free:∀b o,b∉ch->s.heap.get? b=some o->H b=none->H' b=none)
  (there:∀b o,b∉ch->s.heap.get? b=some o->∃o',h'.get? b=some o')
  (tups:∀b xs,H b=some (.tup xs)->H' b=some (.tup xs)) (frzs:∀b o u,H b=some (.frz o u)->H' b=some (.frz o u)) (tbls:∀b ps,H b=some (.tbl ps)->∃more,H' b=some (.tbl (ps++more)))
  (ns:∀m,s.heap.Ns X.env.locals m->h'.Ns X.env.locals m) (hok:HOk X.prog X.w H' h') (hg:AllBare g') :
  Inv X gV Y H' { s with heap:=h',gens:=g',drawn:=d',toks:=t' }:=by
 have neL:∀b o,X.s₀.heap.get? b=some o->b≠X.env.locals:=fun b o e=>Nat.ne_of_lt (Nat.lt_of_lt_of_le (Heap.lt_size e) I.ok.above)
 have neC:∀b o,X.s₀.heap.get? b=some o->b∉X.ex->b∉ch:=fun b o e hx hb=>by
  rcases(hch b hb).1 with z | z
  ·exact hx z
  ·exact absurd (Nat.lt_of_lt_of_le (Heap.lt_size e) z) (Nat.lt_irrefl _)
 have cellK:∀x c,X.env.cells.lookup x=some c->∀v,s.heap.IsCell c v->h'.IsCell c v:=fun x c e v ⟨o,ho,hd⟩=>by
  have nch:c∉ch:=fun z=>(hch c z).2.2.1 x c e rfl
  rcases I.freeC x c e with n |⟨_,o',u,q⟩
  ·by_cases hc:c∈X.fs
   ·obtain⟨sl,q⟩:=slot c o (I.cne x c e) hc nch ho n
    exact⟨_,q,hd⟩
   ·exact⟨o,keep c o (I.cne x c e) hc nch ho n,hd⟩
  ·obtain⟨q1,_⟩:=I.hok c _ q
   obtain⟨q2,_⟩:=hok c _ (frzs c o' u q)
   rw[ho]at q1
   cases q1
   exact⟨o,q2,hd⟩
 refine⟨I.ok,I.os,hg,⟨fun b o e n hb hx=>?_,fun b o e n hb hx=>?_,fun b o e n hx=>?_,fun b o e hx=>?_,fun b xs e=>tups b xs (I.base.tups b xs e),fun b o xs e=>frzs b o xs (I.base.frzs b o xs e),fun b ps e=>?_⟩,?_,fun x c e=>?_,?_,fun x c e=>?_,fun p hp=>?_,hok,I.len⟩
 ·exact keep b o (neL b o e) hb (neC b o e hx) (I.base.keep b o e n hb hx) (I.base.free b o e n hx)
 ·obtain⟨sl,e1⟩:=I.base.slot b o e n hb hx
  obtain⟨sl',e2⟩:=slot b _ (neL b o e) hb (neC b o e hx) e1 (I.base.free b o e n hx)
  exact⟨sl',e2⟩
 ·obtain⟨o',e1⟩:=I.base.there b o e hx
  exact free b o' (neC b o e hx) e1 (I.base.free b o e n hx)
 ·obtain⟨o',e1⟩:=I.base.there b o e hx
  exact there b o' (neC b o e hx) e1
 ·obtain⟨m1,e1⟩:=I.base.tbls b ps e
  obtain⟨m2,e2⟩:=tbls b _ e1
  exact⟨m1++m2,by rw[e2,Array.append_assoc]⟩
 ·obtain⟨m,hn,hl⟩:=I.loc
  refine⟨m,ns m hn,fun i x v e1 e2 e3=>?_⟩
  obtain⟨u,r,l⟩:=hl i x v e1 e2 e3
  refine⟨u,r,?_⟩
  rcases l with l |⟨k,c,e,z⟩
  ·exact .inl l
  ·exact .inr ⟨k,c,e,cellK x c e _ z⟩
 ·obtain⟨v,z⟩:=I.cell x c e
  exact⟨v,cellK x c e v z⟩
 ·obtain⟨m,⟨o,_,_,ho,_⟩,_⟩:=I.loc
  exact free _ o (fun z=>(hch _ z).2.1 rfl) ho I.free
 ·obtain⟨v,o,ho,hd⟩:=I.cell x c e
  rcases I.freeC x c e with n |⟨n,o',u,q⟩
  ·exact .inl (free c o (fun z=>(hch c z).2.2.1 x c e rfl) ho n)
  ·exact .inr ⟨n,o',u,frzs c o' u q⟩
 ·obtain⟨e,n,ne,nf,d⟩:=I.pin p hp
  have nch:p.1∉ch:=fun z=>(hch p.1 z).2.2.2 p hp rfl
  exact⟨keep p.1 p.2 ne nf nch e n,free p.1 p.2 nch e n,ne,nf,d⟩
def Inv.un{t':Nat}(I:Inv X gV Y H s)(u:Un X.fs [] H H' s.heap h')(hok:HOk X.prog X.w H' h'):Inv X gV Y H' { s with heap:=h',toks:=t' }:=by
 obtain⟨m,⟨o,es,ep,ho,r⟩,_⟩:=id I.loc
 obtain⟨sl,hL⟩:=u.any ho I.free (by simp)
 exact I.step (g':=s.gens) (d':=s.drawn) (ch:=[]) (fun _ z=>nomatch z) (fun b o _ hb _ e n=>u.keep b o e n hb (by simp)) (fun b o _ hb _ e n=>u.slot b o e n hb (by simp)) (fun b o _ e n=>u.free b o e n (by simp)) (fun b o _ e=>u.there b o e (by simp)) u.tups u.frzs u.tbls (fun m' hm=>by
  obtain⟨o',es',ep',ho',r'⟩:=hm
  rw[ho]at ho';cases ho'
  exact⟨_,es',ep',hL,r'⟩) hok I.bare
def Inv.call{g':Array GenState}{t':Nat}{d':Drawn}{ch:List Addr}(I:Inv X gV Y H s)(u:Un (frs X.stack) ch H H' s.heap h')(hok:HOk X.prog X.w H' h')(hg:AllBare g')
  (hch:∀b∈ch,(b∈X.ex\/X.s₀.heap.objs.size<=b)/\b≠X.env.locals/\(∀x c,X.env.cells.lookup x=some c->c≠b)/\∀p∈X.pn++gV,p.1≠b) :
  Inv X gV Y H' { s with heap:=h',gens:=g',drawn:=d',toks:=t' }:=by
 obtain⟨m,⟨o,es,ep,ho,r⟩,_⟩:=id I.loc
 obtain⟨sl,hL⟩:=u.any ho I.free fun z=>(hch _ z).2.1 rfl
 exact I.step (ch:=ch) hch (fun b o hL hb hc e n=>u.keep b o e n (fun z=>(List.mem_cons.mp (I.stkSub b z)).elim hL hb) hc) (fun b o _ _ hc e n=>u.any e n hc) (fun b o hc e n=>u.free b o e n hc) (fun b o hc e=>u.there b o e hc) u.tups u.frzs u.tbls (fun m' hm=>by
  obtain⟨o',es',ep',ho',r'⟩:=hm
  rw[ho]at ho';cases ho'
  exact⟨_,es',ep',hL,r'⟩) hok hg
def Inv.turned{t':Nat}{it:Addr}(I:Inv X gV Y H s)(k:∀b o,b≠it->s.heap.get? b=some o->h'.get? b=some o)(hn:H it=none)(hL:it≠X.env.locals)
  (h1:it∈X.ex\/X.s₀.heap.objs.size<=it) (h2:∀x c,X.env.cells.lookup x=some c->c≠it) (h3:∀p∈X.pn++gV,p.1≠it):Inv X gV Y H { s with heap:=h',toks:=t' }:=by
 have nit:∀b u,H b=some u->b≠it:=fun b u e z=>by rw[z,hn]at e;cases e
 refine I.step (g':=s.gens) (d':=s.drawn) (ch:=[it]) (fun b hb=>?_) (fun b o _ _ hc e _=>k b o (fun z=>hc (by simp[z])) e) (fun b o _ _ hc e _=>⟨o.slots,k b o (fun z=>hc (by simp[z])) e⟩) (fun _ _ _ _ n=>n)
  (fun b o hc e=>⟨o,k b o (fun z=>hc (by simp[z])) e⟩) (fun _ _ e=>e) (fun _ _ _ e=>e) (fun b ps e=>⟨#[],by rw[e];simp⟩) (fun m hm=>?_) (fun b u e=>?_) I.bare
 ·have e:b=it:=by simpa using hb
  subst e
  exact⟨h1,hL,h2,h3⟩
 ·obtain⟨o,es,ep,ho,r⟩:=hm
  exact⟨o,es,ep,k _ o (Ne.symm hL) ho,r⟩
 ·refine(I.hok b u e).stay (fun c v hc q=>k c v ?_ q) (fun _ q=>q) fun _ _ _ q=>q
  rcases hc with z | z
  ·rw[z];exact nit b u e
  ·exact nit c _ z
def Inv.tok(I:Inv X gV Y H s)(t:Nat):Inv X gV Y H { s with toks:=t }:=I.un (h':=s.heap) (t':=t) Un.refl I.hok
def Inv.kept{t':Nat}(I:Inv X gV Y H s)(k:∀b u,s.heap.get? b=some u->h'.get? b=some u):Inv X gV Y H { s with heap:=h',toks:=t' }:=I.un (Un.kept k) (I.hok.kept k)
def Inv.laid{a:Addr}{o:HO}{t':Nat}(I:Inv X gV Y H s)(k:∀b u,s.heap.get? b=some u->h'.get? b=some u)(hp:s.heap.objs.size<=a)(new:cb X.prog X.w (upd H a o) h' a o) :
  Inv X gV Y (upd H a o) { s with heap:=h',toks:=t' }:=I.un (Un.laid k hp (I.hok.fresh hp)) (I.hok.laid k hp new)
def Inv.write{x e:Addr}{o:HO}{t':Nat}(I:Inv X gV Y H s)(mu:Mut (H x))(he:e=x\/H e=some (.own x))(k:∀b u,b≠e->s.heap.get? b=some u->h'.get? b=some u)(heo:∃u,h'.get? e=some u)
  (new:cb X.prog X.w (upd H x o) h' x o):Inv X gV Y (upd H x o) { s with heap:=h',toks:=t' }:=I.un (Un.write mu he k heo) (I.hok.write mu he k heo new)
def Inv.pins_of{pins':List (Addr×Obj)}(I:Inv X gV Y H s)(h:∀p∈pins',s.heap.get? p.1=some p.2/\H p.1=none/\p.1≠X.env.locals/\p.1∉X.fs/\∀v,p.2.data≠.cell v):Inv X pins' Y H s :=
 ⟨I.ok,I.os,I.bare,I.base,I.loc,I.cell,I.free,I.freeC,fun p hp=>(List.mem_append.mp hp).elim (fun z=>I.pin p (List.mem_append_left _ z)) (h p),I.hok,I.len⟩
def iP{N:List Str}(hN:N.Nodup){i j:Nat}{x:Str}(a:N[i]?=some x)(b:N[j]?=some x):i=j:=by
 obtain⟨h1,e1⟩:=List.getElem?_eq_some_iff.mp a
 obtain⟨h2,e2⟩:=List.getElem?_eq_some_iff.mp b
 exact(List.getElem_inj hN).mp (e1.trans e2.symm)
def jF{M:Model}{A:Around}{E:Value->Shared->Prop}{i:Nat}{x:Str}{v:V}{u:Value}{Q:Unit->Shared->Prop}(I:Inv X gV Y H s)(hN:X.N.Nodup)(hi:X.N[i]?=some x)(hx:Loc X.env.scope x)(r:aT v u)
  (h:∀s',Inv X gV (Y.set i (some v)) H s'->(∃a,Heap.SameBut a s.heap s'.heap/\(a=X.env.locals\/X.env.cells.lookup x=some a))->Q () s') (hf:X.fn x=true\/X.env.scope.names.lookup x=some .local:=by first | exact .inl rfl | exact .inr rfl | assumption):wpAny M A (storeName X.env x u) Q E s:=by
 obtain⟨m,hn,hl⟩:=id I.loc
 have hcls:(X.env.scope.kind==.class ||(X.env.scope.kind==.module&&X.env.locals != X.env.globals))=false:=by rw[I.ok.kind];rfl
 have hiσ:i < Y.length:=by rw[I.len];exact(List.getElem?_eq_some_iff.mp hi).1
 have cne:=I.cne
 have tracked:∀{a:Addr}{h':Heap},(∃o,s.heap.get? a=some o/\H a=none)->Heap.SameBut a s.heap h'->HOk X.prog X.w H h':=fun {a h'} ha hs b ob e=>by
  obtain⟨_,_,hfree⟩:=ha
  refine(I.hok b ob e).stay (fun c w' hc q=>(hs.2 c ?_).trans q) (fun _ q=>q) fun _ _ _ q=>q
  rintro rfl
  rcases hc with rfl | hc
  ·rw[hfree]at e;cases e
  ·rw[hfree]at hc;cases hc
 rcases hx with hk | hk
 ·refine wpAny_storeName_local hk hn (fun h' hn' hs=>?_) hcls
  obtain⟨oL,_,_,hoL,_⟩:=id hn
  refine h _ ⟨I.ok,I.os,I.bare,⟨fun b o e n hb hx=>?_,fun b o e n hb hx=>?_,I.base.free,fun b o e hx=>?_,I.base.tups,I.base.frzs,I.base.tbls⟩,⟨_,hn',fun j y v' e1 e2 e3=>?_⟩,fun y c e=>?_,I.free,I.freeC,fun p hp=>?_,tracked ⟨oL,hoL,I.free⟩ hs,by simpa using I.len⟩ ⟨_,hs,.inl rfl⟩
  ·exact(hs.2 b (Nat.ne_of_lt (Nat.lt_of_lt_of_le (Heap.lt_size e) I.ok.above))).trans (I.base.keep b o e n hb hx)
  ·obtain⟨sl,e1⟩:=I.base.slot b o e n hb hx
   exact⟨sl,(hs.2 b (Nat.ne_of_lt (Nat.lt_of_lt_of_le (Heap.lt_size e) I.ok.above))).trans e1⟩
  ·obtain⟨o',e1⟩:=I.base.there b o e hx
   exact⟨o',(hs.2 b (Nat.ne_of_lt (Nat.lt_of_lt_of_le (Heap.lt_size e) I.ok.above))).trans e1⟩
  ·by_cases hj:j=i
   ·subst hj
    rw[hi]at e1;cases e1
    rw[List.getElem?_set_self hiσ]at e2
    cases e2
    exact⟨u,r,.inl ⟨hk,by simp⟩⟩
   ·rw[List.getElem?_set_ne (Ne.symm hj)]at e2
    obtain⟨u',r',q⟩:=hl j y v' e1 e2 e3
    refine⟨u',r',?_⟩
    rcases q with⟨k,e⟩ |⟨k,c,e,z⟩
    ·refine .inl ⟨k,?_⟩
     have:y≠x:=fun e=>hj (iP hN e1 (e▸hi))
     simp[this,e]
    ·exact .inr ⟨k,c,e,z.sameBut hs (cne y c e)⟩
  ·obtain⟨w',z⟩:=I.cell y c e
   exact⟨w',z.sameBut hs (cne y c e)⟩
  ·obtain⟨e,n,ne,nf,d⟩:=I.pin p hp
   exact⟨(hs.2 p.1 ne).trans e,n,ne,nf,d⟩
 ·have hfn:X.fn x=true:=by
   rcases hf with z | z
   ·exact z
   ·rw[z]at hk;cases hk
  obtain⟨c,hc⟩:=I.ok.has x (.inl hk)
  obtain⟨w',z⟩:=I.cell x c hc
  refine wpAny_storeName_cell I.ok.kind hk hc z (fun h' hc' hs=>?_)
  obtain⟨oc,hoc,hocd⟩:=id z
  refine h { s with heap:=h' } ⟨I.ok,I.os,I.bare,⟨fun b o e n hb hx=>?_,fun b o e n hb hx=>?_,I.base.free,fun b o e hx=>?_,I.base.tups,I.base.frzs,I.base.tbls⟩,⟨m,hn.sameBut hs (Ne.symm (cne x c hc)),fun j y v' e1 e2 e3=>?_⟩,fun y c' e=>?_,I.free,I.freeC,fun p hp=>?_,tracked ⟨oc,hoc,(I.freeC x c hc).resolve_right fun q=>by rw[hfn]at q;cases q.1⟩ hs,by simpa using I.len⟩ ⟨c,hs,.inr hc⟩
  ·exact(hs.2 b (Nat.ne_of_lt (Nat.lt_of_lt_of_le (Heap.lt_size e) (I.ok.cab x c hfn hc)))).trans (I.base.keep b o e n hb hx)
  ·obtain⟨sl,e1⟩:=I.base.slot b o e n hb hx
   exact⟨sl,(hs.2 b (Nat.ne_of_lt (Nat.lt_of_lt_of_le (Heap.lt_size e) (I.ok.cab x c hfn hc)))).trans e1⟩
  ·obtain⟨o',e1⟩:=I.base.there b o e hx
   exact⟨o',(hs.2 b (Nat.ne_of_lt (Nat.lt_of_lt_of_le (Heap.lt_size e) (I.ok.cab x c hfn hc)))).trans e1⟩
  ·by_cases hj:j=i
   ·subst hj
    rw[hi]at e1;cases e1
    rw[List.getElem?_set_self hiσ]at e2
    cases e2
    exact⟨u,r,.inr ⟨.inl hk,c,hc,hc'⟩⟩
   ·rw[List.getElem?_set_ne (Ne.symm hj)]at e2
    obtain⟨u',r',q⟩:=hl j y v' e1 e2 e3
    refine⟨u',r',?_⟩
    rcases q with q |⟨k,c',e,z'⟩
    ·exact .inl q
    ·refine .inr ⟨k,c',e,z'.sameBut hs ?_⟩
     rintro rfl
     exact hj (iP hN e1 (I.ok.inj _ _ _ e hc▸hi))
  ·by_cases hcc:c'=c
   ·subst hcc;exact⟨_,hc'⟩
   ·obtain⟨w2,z2⟩:=I.cell y c' e
    exact⟨w2,z2.sameBut hs hcc⟩
  ·obtain⟨e,n,ne,nf,d⟩:=I.pin p hp
   refine⟨(hs.2 p.1 ?_).trans e,n,ne,nf,d⟩
   intro q
   rw[q,hoc]at e
   have q':oc=p.2:=Option.some.inj e
   exact d w' (by rw[<- q'];exact hocd)
def fS{M:Model}{A:Around}{E:Value->Shared->Prop}{i:Nat}{x:Str}{v:V}{u:Value}{Q:Unit->Shared->Prop}(I:Inv X gV Y H s)(hN:X.N.Nodup)(hi:X.N[i]?=some x)(hx:Loc X.env.scope x)(r:aT v u)
  (h:∀s',Inv X gV (Y.set i (some v)) H s'->Q () s') (hf:X.fn x=true\/X.env.scope.names.lookup x=some .local:=by first | exact .inl rfl | exact .inr rfl | assumption):wpAny M A (storeName X.env x u) Q E s :=
 jF I hN hi hx r (fun s' I' _=>h s' I') hf
def Inv.call'{s':Shared}{ch:List Addr}(I:Inv X gV Y H s)(ho:s'.os=s.os)(u:Un (frs X.stack) ch H H' s.heap s'.heap)(hok:HOk X.prog X.w H' s'.heap)(hg:AllBare s'.gens)
  (hch:∀b∈ch,(b∈X.ex\/X.s₀.heap.objs.size<=b)/\b≠X.env.locals/\(∀x c,X.env.cells.lookup x=some c->c≠b)/\∀p∈X.pn++gV,p.1≠b):Inv X gV Y H' s':=by
 obtain⟨h',g',d',t',o'⟩:=s'
 have e:o'=s.os:=ho
 subst e
 exact I.call (g':=g') (t':=t') (d':=d') u hok hg hch
end
abbrev XK:=Value->Option Addr->Hp->Prop
abbrev St:=List (Option V)
abbrev VK:=V->Hp->Prop
abbrev TE:=St->Hp->VK->Prop
abbrev TT:=St->Hp->(Bool->Hp->Prop)->Prop
abbrev TA:=St->Hp->(List V->Hp->Prop)->Prop
structure Ends where
 nx:St->Hp->Prop
 rt:VK
 bk:St->Hp->Prop:=fun _ _=>False
 ct:St->Hp->Prop:=fun _ _=>False
abbrev TS:=Ends->St->Hp->Prop
def EP(X:Cx)(gV:List (Addr×Obj))(Y:St)(Q:VK)(u:Value)(s':Shared):Prop:=∃v H',Inv X gV Y H' s'/\aT v u/\Q v H'
def TP(X:Cx)(gV:List (Addr×Obj))(Y:St)(Q:Bool->Hp->Prop)(b:Bool)(s':Shared):Prop:=∃H',Inv X gV Y H' s'/\Q b H'
def AP(X:Cx)(gV:List (Addr×Obj))(Y:St)(Q:List V->Hp->Prop)(us:List Value)(s':Shared):Prop:=∃vs H',Inv X gV Y H' s'/\aB vs us/\Q vs H'
def SP(X:Cx)(gV:List (Addr×Obj))(D:Ends)(f:Flow)(s':Shared):Prop :=
 match f with
 | .next=>∃σ' H',Inv X gV σ' H' s'/\D.nx σ' H'
 | .brk=>∃σ' H',Inv X gV σ' H' s'/\D.bk σ' H'
 | .cont=>∃σ' H',Inv X gV σ' H' s'/\D.ct σ' H'
 | .ret u=>∃v σ' H',Inv X gV σ' H' s'/\aT v u/\D.rt v H'
def PE(X:Cx)(e:Expr)(t:TE):Prop :=
 ∀(gV:List (Addr×Obj)) (s:Shared) (Y:St) (H:Hp) (Q:VK),Inv X gV Y H s->t Y H Q->wpAny (model X.prog X.w) X.A (eval e X.env) (EP X gV Y Q) X.xe s
def PT(X:Cx)(e:Expr)(t:TT):Prop :=
 ∀(gV:List (Addr×Obj)) (s:Shared) (Y:St) (H:Hp) (Q:Bool->Hp->Prop),Inv X gV Y H s->t Y H Q->wpAny (model X.prog X.w) X.A (isTrue e X.env (eval e X.env)) (TP X gV Y Q) X.xe s
def PW(X:Cx)(e:Expr)(t:TT):Prop :=
 ∀(whole:Sem Value) (gV:List (Addr×Obj)) (s:Shared) (Y:St) (H:Hp) (Q:Bool->Hp->Prop),Inv X gV Y H s->t Y H Q->wpAny (model X.prog X.w) X.A (isTrue e X.env whole) (TP X gV Y Q) X.xe s
def PW.pt{X:Cx}{e:Expr}{t:TT}(h:PW X e t):PT X e t:=h _
def PA(X:Cx)(es:List Expr)(t:TA):Prop :=
 ∀(pos:Pos) (gV:List (Addr×Obj)) (s:Shared) (Y:St) (H:Hp) (Q:List V->Hp->Prop),Inv X gV Y H s->t Y H Q->wpAny (model X.prog X.w) X.A (spliced (backTo pos (starEach es X.env))) (AP X gV Y Q) X.xe s
def PS(X:Cx)(st:Stmt)(t:TS):Prop :=
 ∀(gV:List (Addr×Obj)) (s:Shared) (Y:St) (H:Hp) (D:Ends),Inv X gV Y H s->t D Y H->wpAny (model X.prog X.w) X.A (exec st X.env) (SP X gV D) X.xe s
def PSs(X:Cx)(st:List Stmt)(t:TS):Prop :=
 ∀(gV:List (Addr×Obj)) (s:Shared) (Y:St) (H:Hp) (D:Ends),Inv X gV Y H s->t D Y H->wpAny (model X.prog X.w) X.A (execs st X.env) (SP X gV D) X.xe s
def thn{α:Type}{t:Sem α}{Q Q':α->Shared->Prop}{M:Model}{A:Around}{E:Value->Shared->Prop}{s:Shared}(h:wpAny M A t Q E s)(hQ:∀a s,Q a s->Q' a s):wpAny M A t Q' E s:=wpAny_mono h hQ fun _ _ x=>x
end L2
namespace L2
open PySem PySem.Spec PyProof.Rows
section
variable{X:Cx}
def vQ(i:Nat):TE:=fun Y H Q=>∃v,Y[i]?=some (some v)/\Q v H
def tC(v:V):TE:=fun _ H Q=>Q v H
def dv{i:Nat}{x:Str}{pos:Pos}(hN:X.N[i]?=some x)(hv:Vis X.env.scope x)(hd:(x ==("__debug__" : Str))=false:=by decide)(hcd:(x ==("__classdict__" : Str))=false:=by decide):PE X (.Name x pos) (vQ i):=by
 intro gV s Y H Q I h
 obtain⟨v,e,h⟩:=h
 obtain⟨m,hn,hl⟩:=I.loc
 obtain⟨u,r,l⟩:=hl i x v hN e hv
 have fin:EP X gV Y Q u s:=⟨v,H,I,r,h⟩
 rcases l with⟨hk,hm⟩ |⟨hk,c,hc,hcell⟩
 ·exact wpAny_Name (wpAny_loadName_local I.ok.kind hk hn hm fin) hd
 ·rcases hk with hk | hk
  ·exact wpAny_Name (wpAny_loadName_cell I.ok.kind hk hc hcell fin) hd
  ·exact wpAny_Name (wpAny_loadName_free I.ok.kind hk hc hcell fin hcd) hd
def wB{i j pos}:PE X (.Constant (.int i) j pos) (tC (.int i)):=fun _ _ _ H _ I h=>wpAny_Constant_int ⟨.int i,H,I.tok _,⟨_,rfl⟩,h⟩
def zp{b j pos}:PE X (.Constant (.bool b) j pos) (tC (.bl b)):=fun _ _ _ H _ I h=>Constant_bool ⟨.bl b,H,I,rfl,h⟩
def wz{j pos}:PE X (.Constant .none j pos) (tC .non):=fun _ _ _ H _ I h=>Constant_none ⟨.non,H,I,rfl,h⟩
def ww{x j pos}:PE X (.Constant (.str x) j pos) (tC (.str x)):=fun _ _ _ H _ I h=>Calls.Constant_str ⟨.str x,H,I.tok _,⟨_,rfl⟩,h⟩
def Gl(X:Cx)(x:Str):Prop:=X.env.kindOf x=some .globalImplicit
def e9{E:Value->Shared->Prop}{gV:List (Addr×Obj)}{s:Shared}{Y:St}{H:Hp}{x:Str}{u:Value}{pos:Pos}{Q:Value->Shared->Prop}(I:Inv X gV Y H s)(hg:Gl X x)(hm:X.mg x=some u)(h:Q u s)
  (hd:(x ==("__debug__" : Str))=false:=by decide):wpAny (model X.prog X.w) X.A (eval (.Name x pos) X.env) Q E s :=
 Calls.Name_function_global I.ok.kind hg (Calls.loadGlobal_global (by rw[I.ok.glob];exact I.mod.glob.keeps I.bk) hm h) hd
def iZ{E:Value->Shared->Prop}{gV:List (Addr×Obj)}{s:Shared}{Y:St}{H:Hp}{x:Str}{u:Value}{pos:Pos}{Q:Value->Shared->Prop}(I:Inv X gV Y H s)(hg:Gl X x)(hm:X.mg x=none)(hv:bootBuiltins x=some u)(h:Q u s)
  (hn:x≠"__name__" := by decide) (hd:(x ==("__debug__" : Str))=false:=by decide):wpAny (model X.prog X.w) X.A (eval (.Name x pos) X.env) Q E s:=by
 obtain⟨mb,h1,h2⟩:=I.mod.blt
 exact Calls.Name_function_global I.ok.kind hg (Calls.loadGlobal_builtin (by rw[I.ok.glob];exact I.mod.glob.keeps I.bk) hm (by rw[I.ok.blt];exact h1.keeps I.bk) ((h2 x hn).trans hv) h) hd
def n0{x:Str}{v:V}{u:Value}{pos:Pos}(hg:Gl X x)(hm:X.mg x=some u)(r:aT v u)(hd:(x ==("__debug__" : Str))=false:=by decide):PE X (.Name x pos) (tC v) :=
 fun _ _ _ H _ I h=>e9 I hg hm ⟨v,H,I,r,h⟩ hd
def t5{x:Str}{v:V}{u:Value}{pos:Pos}(hg:Gl X x)(hm:X.mg x=none)(hv:bootBuiltins x=some u)(r:aT v u)(hn:x≠"__name__" := by decide)(hd:(x ==("__debug__" : Str))=false:=by decide):PE X (.Name x pos) (tC v) :=
 fun _ _ _ H _ I h=>iZ I hg hm hv ⟨v,H,I,r,h⟩ hn hd
variable{a b:Expr}{ta tb:TE}{pos:Pos}
variable{tA tB':TT}{aV:List Expr}
def A4(t u:TT):TT:=fun Y H Q=>t Y H fun c H1=>if c=true then u Y H1 Q else Q false H1
def tOr(t u:TT):TT:=fun Y H Q=>t Y H fun c H1=>if c=true then Q true H1 else u Y H1 Q
def tP(ha:PT X a tA):PW X (.BoolOp .And [a] pos) tA:=by
 intro wh gV s Y H Q I h
 refine isTrue_and (thn (ha gV s Y H Q I h) fun c s1 e=>?_)
 cases c with
 | true=>exact isTrue_and_nil e
 | false=>exact e
def wn(ha:PT X a tA):PW X (.BoolOp .Or [a] pos) tA:=by
 intro wh gV s Y H Q I h
 refine isTrue_or (thn (ha gV s Y H Q I h) fun c s1 e=>?_)
 cases c with
 | false=>exact isTrue_or_nil e
 | true=>exact e
def wo(ha:PT X a tA)(hb:PW X (.BoolOp .And (b::aV) pos) tB'):PW X (.BoolOp .And (a::b::aV) pos) (A4 tA tB'):=by
 intro wh gV s Y H Q I h
 refine isTrue_and (thn (ha gV s Y H _ I h) fun c s1 ⟨H1,I1,q1⟩=>?_)
 cases c with
 | true=>exact hb wh gV s1 Y H1 Q I1 q1
 | false=>exact⟨H1,I1,q1⟩
def zg(ha:PT X a tA)(hb:PW X (.BoolOp .Or (b::aV) pos) tB'):PW X (.BoolOp .Or (a::b::aV) pos) (tOr tA tB'):=by
 intro wh gV s Y H Q I h
 refine isTrue_or (thn (ha gV s Y H _ I h) fun c s1 ⟨H1,I1,q1⟩=>?_)
 cases c with
 | true=>exact⟨H1,I1,q1⟩
 | false=>exact hb wh gV s1 Y H1 Q I1 q1
def y1(ta tb:TE):TE:=fun Y H Q=>ta Y H fun x H1=>∃c,x=.bl c/\if c=true then tb Y H1 Q else Q (.bl false) H1
def A0(ta tb:TE):TE:=fun Y H Q=>ta Y H fun x H1=>∃c,x=.bl c/\if c=true then Q (.bl true) H1 else tb Y H1 Q
def yV(ta:TE):TE:=fun Y H Q=>ta Y H fun x H1=>∃c,x=.bl c/\Q (.bl (!c)) H1
def wx{op}{t:TE}(h:PE X a t):PE X (.BoolOp op [a] pos) t:=fun gV s Y H Q I hw=>BoolOp_one (h gV s Y H Q I hw)
def wD(ha:PE X a ta)(hb:PE X (.BoolOp .And (b::aV) pos) tb):PE X (.BoolOp .And (a::b::aV) pos) (y1 ta tb):=by
 intro gV s Y H Q I h
 refine BoolOp_and (thn (ha gV s Y H _ I h) fun v s1 ⟨x,H1,I1,r1,q1⟩=>?_)
 obtain⟨c,rfl,q1⟩:=q1
 cases r1
 refine wpAny_truthy_bool ?_
 cases c with
 | true=>exact hb gV s1 Y H1 Q I1 q1
 | false=>exact⟨.bl false,H1,I1,rfl,q1⟩
def zm(ha:PE X a ta)(hb:PE X (.BoolOp .Or (b::aV) pos) tb):PE X (.BoolOp .Or (a::b::aV) pos) (A0 ta tb):=by
 intro gV s Y H Q I h
 refine BoolOp_or (thn (ha gV s Y H _ I h) fun v s1 ⟨x,H1,I1,r1,q1⟩=>?_)
 obtain⟨c,rfl,q1⟩:=q1
 cases r1
 refine wpAny_truthy_bool ?_
 cases c with
 | false=>exact hb gV s1 Y H1 Q I1 q1
 | true=>exact⟨.bl true,H1,I1,rfl,q1⟩
def wy(ha:PE X a ta):PE X (.UnaryOp .Not a pos) (yV ta):=by
 intro gV s Y H Q I h
 refine UnaryOp_ (thn (ha gV s Y H _ I h) fun v s1 ⟨x,H1,I1,r1,q1⟩=>?_)
 obtain⟨c,rfl,q1⟩:=q1
 cases r1
 exact not_of (wpAny_truthy_bool ⟨.bl (!c),H1,I1,rfl,q1⟩)
def tIf(t:TT)(ta tb:TE):TE:=fun Y H Q=>t Y H fun c H1=>if c=true then ta Y H1 Q else tb Y H1 Q
def qy{c:Expr}(hc:PT X c tA)(ha:PE X a ta)(hb:PE X b tb):PE X (.IfExp c a b pos) (tIf tA ta tb):=by
 intro gV s Y H Q I h
 refine wpAny_IfExp (thn (hc gV s Y H _ I h) fun d s1 ⟨H1,I1,q1⟩=>?_)
 cases d with
 | true=>exact ha gV s1 Y H1 Q I1 q1
 | false=>exact hb gV s1 Y H1 Q I1 q1
end
end L2
namespace L2
open PySem PySem.Spec PyProof.Rows
def SqL(K:PySem.W.Frag)(H:Hp)(a:Addr)(xs:List V):Prop :=
 Rd H a (.lst xs)\/
  ∃(o:Obj) (its:Array Value) (n:Nat),K.lookup a=some o/\o.cls=.type "list" /\ o.dict=none/\o.data=.seq its n/\its.size<=sizeLine/\aB xs its.toList
def SqT(K:PySem.W.Frag)(H:Hp)(a:Addr)(xs:List V):Prop :=
 Rd H a (.tup xs)\/
  ∃(o:Obj) (its:Array Value) (n:Nat),K.lookup a=some o/\o.cls=.type "tuple" /\ o.data=.seq its n/\its.size<=sizeLine/\aB xs its.toList
def Bv:Value->Option V
 | .none=>some .non
 | .bool b=>some (.bl b)
 | .int i _=>some (.int i)
 | .str x _=>some (.str x)
 | .bytes b _=>some (.byt b)
 | .float b _=>some (.flt b)
 | .ref a=>some (.ref a)
 | .type n=>some (.ty n)
 | _=>none
def aT.abs{x:V}{u:Value}(r:aT x u):Bv u=some x:=by
 cases x with
 | non | bl _=>cases r;rfl
 | int _ | str _ | byt _ | flt _=>obtain⟨t,rfl⟩:=r;rfl
 | ref _ | ty _=>cases r;rfl
def aT.inj{x y:V}{u:Value}(r:aT x u)(q:aT y u):x=y:=Option.some.inj (r.abs.symm.trans q.abs)
def aB.inj:∀{xs ys:List V}{us:List Value},aB xs us->aB ys us->xs=ys
 | _,_,_,.nil,.nil=>rfl
 | _,_,_,.cons r t,.cons r' t'=>by rw[r.inj r',aB.inj t t']
section
variable{X:Cx}{gV:List (Addr×Obj)}{Y:St}{H:Hp}{s:Shared}{a:Addr}{xs ys:List V}
def SqL.of{K:PySem.W.Frag}(h:H a=some (.lst xs)):SqL K H a xs:=.inl (.inl h)
def SqT.of{K:PySem.W.Frag}(h:H a=some (.tup xs)):SqT K H a xs:=.inl (.inl h)
def Inv.list(I:Inv X gV Y H s)(h:SqL X.K H a xs):∃its:List Value,aB xs its/\PlainL s.heap a its.toArray/\xs.length<=sizeLine:=by
 rcases h with h |⟨o,its,n,hk,hc,hd,hs,hz,r⟩
 ·obtain⟨z,its,n,r,e⟩:=h.ok I.hok
  exact⟨its,r,⟨_,n,e,rfl,rfl,rfl⟩,z⟩
 ·refine⟨its.toList,r,⟨o,n,I.kIn a o hk,hc,hd,by simpa using hs⟩,?_⟩
  have e:=r.length
  simp only[Array.length_toList]at e
  omega
def Inv.tuple(I:Inv X gV Y H s)(h:SqT X.K H a xs):∃its:List Value,aB xs its/\IsTup s.heap a its.toArray/\xs.length<=sizeLine:=by
 rcases h with h |⟨o,its,n,hk,hc,hs,hz,r⟩
 ·obtain⟨z,its,r,p⟩:=h.ok I.hok
  exact⟨its,r,p,z⟩
 ·refine⟨its.toList,r,⟨o,I.kIn a o hk,hc,n,by simpa using hs⟩,?_⟩
  have e:=r.length
  simp only[Array.length_toList]at e
  omega
def Inv.list_inj(I:Inv X gV Y H s)(h:SqL X.K H a xs)(h':SqL X.K H a ys):xs=ys:=by
 obtain⟨its,r,⟨o,n,e,_,_,d⟩,_⟩:=I.list h
 obtain⟨its',r',⟨o',n',e',_,_,d'⟩,_⟩:=I.list h'
 rw[e]at e';cases e'
 rw[d]at d'
 injection d' with d1 _
 have:its=its':=by simpa using congrArg Array.toList d1
 subst this
 exact r.inj r'
def Inv.tuple_inj(I:Inv X gV Y H s)(h:SqT X.K H a xs)(h':SqT X.K H a ys):xs=ys:=by
 obtain⟨its,r,⟨o,e,_,n,d⟩,_⟩:=I.tuple h
 obtain⟨its',r',⟨o',e',_,n',d'⟩,_⟩:=I.tuple h'
 rw[e]at e';cases e'
 rw[d]at d'
 injection d' with d1 _
 have:its=its':=by simpa using congrArg Array.toList d1
 subst this
 exact r.inj r'
end
section
variable{X:Cx}{st:Stmt}{aV:List Stmt}{t u:TS}{e:Expr}{te:TE}{pos:Pos}
def yX:TS:=fun D Y H=>D.nx Y H
def AY(t u:TS):TS:=fun D Y H=>t { D with nx:=u D } Y H
def tU:PSs X [] yX:=fun _ _ Y H _ I h=>wpAny_execs_nil ⟨Y,H,I,h⟩
def qm(h1:PS X st t)(h2:PSs X aV u):PSs X (st::aV) (AY t u):=by
 intro gV s Y H D I h
 refine wpAny_execs_cons (thn (h1 gV s Y H { D with nx:=u D } I h) fun f s1 q=>?_)
 cases f with
 | next =>
  obtain⟨σ',H',I',q⟩:=q
  exact h2 gV s1 σ' H' D I' q
 | ret v | brk | cont=>exact q
def tR(h1:PS X st t):PSs X [st] t:=by
 intro gV s Y H D I h
 refine wpAny_execs_cons (thn (h1 gV s Y H D I h) fun f s1 q=>?_)
 cases f with
 | next=>exact wpAny_execs_nil q
 | ret v | brk | cont=>exact q
def Inv.quiet{gV:List (Addr×Obj)}{Y:St}{H:Hp}{s:Shared}(I:Inv X gV Y H s):interactive X.env=false:=by simp[interactive,I.ok.kind]
def yZ(te:TE):TS:=fun D Y H=>te Y H fun _ H1=>D.nx Y H1
def gd(he:PE X e te)(hs:swapsWith e none pos.line X.env=pure false:=by rfl):PS X (.Expr e pos) (yZ te):=by
 intro gV s Y H D I h
 exact wpAny_Expr_any (thn (he gV s Y H _ I h) fun v s1 ⟨x,H1,I1,r1,q1⟩=>⟨Y,H1,I1,q1⟩) I.quiet hs
def AZ(te:TE):TS:=fun D Y H=>te Y H D.rt
def mX(he:PE X e te):PS X (.Return (some e) pos) (AZ te):=by
 intro gV s Y H D I h
 exact wpAny_Return_some (thn (he gV s Y H _ I h) fun v s1 ⟨x,H1,I1,r1,q1⟩=>⟨x,Y,H1,I1,r1,q1⟩)
def A2(c:TT)(t u:TS):TS:=fun D Y H=>c Y H fun b H1=>if b=true then t D Y H1 else u D Y H1
def zh{c:Expr}{a b:List Stmt}{tc:TT}(hc:PT X c tc)(ha:PSs X a t)(hb:PSs X b u):PS X (.If c a b pos) (A2 tc t u):=by
 intro gV s Y H D I h
 refine wpAny_If (thn (hc gV s Y H _ I h) fun d s1 ⟨H1,I1,q1⟩=>?_)
 cases d with
 | true=>exact ha gV s1 Y H1 D I1 q1
 | false=>exact hb gV s1 Y H1 D I1 q1
end
abbrev TG:=V->St->Hp->(St->Hp->Prop)->Prop
abbrev TGs:=List V->St->Hp->(St->Hp->Prop)->Prop
def PG(X:Cx)(target:Expr)(t:TG):Prop :=
 ∀(gV:List (Addr×Obj)) (s:Shared) (Y:St) (H:Hp) (v:V) (u:Value) (Q:St->Hp->Prop),Inv X gV Y H s->aT v u->t v Y H Q ->
  wpAny (model X.prog X.w) X.A (assign target X.env u) (fun _ s'=>∃σ' H',Inv X gV σ' H' s'/\Q σ' H') X.xe s
def PGs(X:Cx)(ts:List Expr)(t:TGs):Prop :=
 ∀(gV:List (Addr×Obj)) (s:Shared) (Y:St) (H:Hp) (vs:List V) (us:List Value) (Q:St->Hp->Prop),Inv X gV Y H s->aB vs us->t vs Y H Q ->
  wpAny (model X.prog X.w) X.A (assignInOrder ((assignEach ts X.env).map (·.2)) us) (fun _ s'=>∃σ' H',Inv X gV σ' H' s'/\Q σ' H') X.xe s
abbrev yi:=V->V->V->Hp->(Hp->Prop)->Prop
def As(X:Cx)(t:yi):Prop :=
 ∀(gV:List (Addr×Obj)) (s:Shared) (Y:St) (H:Hp) (o i v:V) (ov iv u:Value) (Q:Hp->Prop),Inv X gV Y H s->aT o ov->aT i iv->aT v u->t o i v H Q ->
  wpAny (model X.prog X.w) X.A (setItem ov iv u) (fun _ s'=>∃H',Inv X gV Y H' s'/\Q H') X.xe s
section
variable{X:Cx}{pos:Pos}
def vA(i:Nat):TG:=fun v Y H Q=>Q (Y.set i (some v)) H
def nZ{i:Nat}{x:Str}(hN:X.N.Nodup)(hi:X.N[i]?=some x)(hx:Loc X.env.scope x)(hf:X.fn x=true\/X.env.scope.names.lookup x=some .local:=by first | exact .inl rfl | exact .inr rfl | assumption):PG X (.Name x pos) (vA i):=by
 intro gV s Y H v u Q I r h
 exact wpAny_assign_Name (fS I hN hi hx r (fun s' I'=>⟨_,H,I',h⟩) hf)
def Bn:TGs:=fun vs Y H Q=>vs=[]/\Q Y H
def Ah(t:TG)(u:TGs):TGs:=fun vs Y H Q=>∃v r,vs=v::r/\t v Y H fun σ' H'=>u r σ' H' Q
def t3:PGs X [] Bn:=by
 intro gV s Y H vs us Q I r h
 obtain⟨e,h⟩:=h
 subst e
 cases r
 exact assignInOrder_nil ⟨Y,H,I,h⟩
def qv{e:Expr}{es:List Expr}{t:TG}{u:TGs}(h1:PG X e t)(h2:PGs X es u)
  (hs:(assignEach (e::es) X.env).map (·.2)=assign e X.env::(assignEach es X.env).map (·.2):=by rfl):PGs X (e::es) (Ah t u):=by
 intro gV s Y H vs us Q I r h
 obtain⟨v,vr,e1,h⟩:=h
 subst e1
 cases r with
 | cons r rr =>
  rw[hs]
  refine assignInOrder_cons (thn (h1 gV s Y H _ _ _ I r h) fun _ s1 ⟨σ1,H1,I1,q1⟩=>?_)
  exact h2 gV s1 σ1 H1 _ _ Q I1 rr q1
def Bl(K:PySem.W.Frag)(n:Nat)(t:TGs):TG:=fun v Y H Q=>∃a xs,v=.ref a/\SqT K H a xs/\xs.length=n/\t xs Y H Q
def wu{es:List Expr}{k:Nat}{t:TGs}{n:Nat}(hc:X.calm=true)(h:PGs X es t)
  (hn:(assignEach es X.env).length=n:=by rfl) (hst:(assignEach es X.env).findIdx? (·.1)=none:=by rfl):PG X (.Tuple es k pos) (Bl X.K n t):=by
 intro gV s Y H v u Q I r hw
 obtain⟨a,xs,e1,hq,hl,hw⟩:=hw
 subst e1
 cases r
 obtain⟨its,rv,ht,hz⟩:=I.tuple hq
 refine assign_Tuple_tuple (I.ok.hd hc) ht (by simp[hn,<- hl,rv.length]) hst fun h' hx=>?_
 have I1:Inv X gV Y H { s with heap:=h' }:=I.kept (t':=s.toks) fun b o e=>hx b o (Nat.ne_of_lt (Heap.lt_size e)) e
 exact h gV _ Y H xs _ Q I1 (by simpa using rv) hw
def Bm(to ti:TE)(t:yi):TG:=fun v Y H Q=>to Y H fun o H1=>ti Y H1 fun i H2=>t o i v H2 fun H3=>Q Y H3
def wv{o i:Expr}{to ti:TE}{t:yi}(ho:PE X o to)(hi:PE X i ti)(hs:As X t)
  (ha:∀ v,assign (.Subscript o i pos) X.env v=(do
   let ov <- holding [v] (eval o X.env)
   let iv <- holding [v,ov] (eval i X.env)
   standAt pos
   holding [v,ov,iv] (setItem ov iv v)
   release [v,ov,iv] []):=by intro _;rfl):PG X (.Subscript o i pos) (Bm to ti t):=by
 intro gV s Y H v u Q I r h
 rw[ha]
 refine wpAny_bind (wpAny_holding (thn (ho gV s Y H _ I h) fun ov s1 ⟨x,H1,I1,r1,q1⟩=>?_))
 refine wpAny_bind (wpAny_holding (thn (hi gV s1 Y H1 _ I1 q1) fun iv s2 ⟨y,H2,I2,r2,q2⟩=>?_))
 refine wpAny_bind (wpAny_standAt (wpAny_bind (wpAny_holding (thn (hs gV s2 Y H2 x y v ov iv u _ I2 r1 r2 r q2) fun _ s3 ⟨H3,I3,q3⟩=>?_))))
 exact wpAny_release ⟨Y,H3,I3,q3⟩
def y0(te:TE)(g:TG):TS:=fun D Y H=>te Y H fun x H1=>g x Y H1 D.nx
def wt{tg e:Expr}{te:TE}{g:TG}(he:PE X e te)(hg:PG X tg g)(hs:swapsWithSole [tg] e pos.line X.env=pure false:=by rfl)(hw:swappedStores [tg] e X.env=pure none:=by rfl)
  (h1:(assignEach [tg] X.env).map (·.2)=[assign tg X.env]:=by rfl):PS X (.Assign [tg] e pos) (y0 te g):=by
 intro gV s Y H D I h
 refine wpAny_Assign_stores (thn (he gV s Y H _ I h) fun v s1 ⟨x,H1,I1,r1,q1⟩=>?_) hs hw
 rw[h1]
 exact thn (hg gV s1 Y H1 x v _ I1 r1 q1) fun _ s2 q=>q
def wp{i:Nat}{x:Str}{e:Expr}{te:TE}{pos':Pos}(hN:X.N.Nodup)(hi:X.N[i]?=some x)(hx:Loc X.env.scope x)(he:PE X e te)(hs:swapsWith e (some (.Name x pos')) pos.line X.env=pure false:=by rfl)(hf:X.fn x=true\/X.env.scope.names.lookup x=some .local:=by first | exact .inl rfl | exact .inr rfl | assumption) :
  PS X (.Assign [.Name x pos'] e pos) (y0 te (vA i)):=by
 intro gV s Y H D I h
 refine wpAny_Assign_Name (thn (he gV s Y H _ I h) fun v s1 ⟨y,H1,I1,r1,q1⟩=>?_) hs
 exact fS I1 hN hi hx r1 (fun s2 I2=>⟨_,H1,I2,q1⟩) hf
def vP(c:TT)(tb:TS):TS:=fun D Y H=>∃W:Nat->St->Hp->Prop,(∃m,W m Y H)/\∀m Y H,W m Y H ->
 c Y H fun b H1=>if b=true then ∃N:St->Hp->Prop,(∀σ' H',N σ' H'->∃m',m' < m/\W m' σ' H')/\tb { D with nx:=N,ct:=N,bk:=D.nx } Y H1 else D.nx Y H1
def qo{c:Expr}{body:List Stmt}{tc:TT}{tb:TS}(hp:PassesOwn (model X.prog X.w) X.A X.env X.xe)(hc:PT X c tc)(hb:PSs X body tb):PS X (.While c body [] pos) (vP tc tb):=by
 intro gV s Y H D I h
 obtain⟨W,⟨m0,w0⟩,turn⟩:=h
 refine wpAny_While (codeAny_whileLoop (fun n s'=>∃σ' H',Inv X gV σ' H' s'/\W n σ' H') ?_ m0 ⟨Y,H,I,w0⟩)
 rintro n s1 ⟨σ1,H1,I1,w1⟩
 refine wpAny_passesOwn hp (thn (hc gV s1 σ1 H1 _ I1 (turn n σ1 H1 w1)) fun b s2 ⟨H2,I2,q2⟩=>?_)
 cases b with
 | true =>
  obtain⟨N,hN,q2⟩:=q2
  rw[if_pos rfl]
  refine wpAny_passesOwn hp (thn (hb gV s2 σ1 H2 _ I2 q2) fun f s3 q3=>?_)
  cases f with
  | next =>
   obtain⟨σ3,H3,I3,n3⟩:=q3
   obtain⟨m',hm,w3⟩:=hN σ3 H3 n3
   exact⟨m',hm,σ3,H3,I3,w3⟩
  | cont =>
   obtain⟨σ3,H3,I3,n3⟩:=q3
   obtain⟨m',hm,w3⟩:=hN σ3 H3 n3
   exact⟨m',hm,σ3,H3,I3,w3⟩
  | brk | ret v=>exact q3
 | false =>
  rw[if_neg Bool.false_ne_true]
  exact wpAny_execs_nil ⟨σ1,H2,I2,q2⟩
end
structure It where
 go:Nat->Hp->Prop
 yld:Nat->Hp->V->Hp->Prop
 stop:Nat->Hp->Prop
def lf(X:Cx)(gV:List (Addr×Obj))(H:Hp)(b:Addr):Prop :=
 H b=none/\b≠X.env.locals/\b∉X.fs/\(b∈X.ex\/X.s₀.heap.objs.size<=b)/\(∀x c,X.env.cells.lookup x=some c->c≠b)/\∀p∈X.pn++gV,p.1≠b
def Inv.fpOk{X:Cx}{gV:List (Addr×Obj)}{Y:St}{H H':Hp}{s:Shared}{b:Addr}(I:Inv X gV Y H s)(hb:s.heap.objs.size<=b)(hn:H' b=none):lf X gV H' b:=by
 refine⟨hn,Nat.ne_of_gt (Nat.lt_of_lt_of_le I.lt hb),I.nofs hb,.inr (Nat.le_trans I.sz hb),fun x c e z=>?_,fun p hp z=>?_⟩
 ·obtain⟨v,q⟩:=I.cell x c e
  exact absurd (Nat.lt_of_lt_of_le q.lt (by rw[z];exact hb)) (Nat.lt_irrefl _)
 ·exact absurd (Nat.lt_of_lt_of_le (Heap.lt_size (I.pin p hp).1) (by rw[z];exact hb)) (Nat.lt_irrefl _)
structure vd(P:Program)(w:World)(K:PySem.W.Frag)(tg:Expr)(J:It)(fp:List Addr)(it:Addr)(tn:Nat->Heap->Prop):Prop where
 mem:it∈fp
 obj:∀i h,tn i h->∀b∈fp,∃o,h.get? b=some o/\∀v,o.data≠.cell v
 keep:∀i h h',tn i h->(∀b∈fp,∀o,h.get? b=some o->h'.get? b=some o)->tn i h'
 item:∀(X:Cx),X.prog=P->X.w=w->X.K=K->X.calm=true->∀(i:Nat) (gV:List (Addr×Obj)) (s:Shared) (Y:St) (H:Hp) (E:Value->Shared->Prop),Inv X gV Y H s->(∀b∈fp,lf X gV H b)->tn i s.heap->J.go i H ->
  wpAny (model P w) X.A (pyNext (.ref it)) (fun r s1=>∃ u,r=some u /\
   wpAny (model P w) X.A (letOwnedTupleGo tg (.ref it) u) (fun _ s2=>∃x H',Inv X gV Y H' s2/\aT x u/\J.yld i H x H'/\tn (i+1) s2.heap/\∀b∈fp,H' b=none) E s1) E s
 done:∀(X:Cx),X.prog=P->X.w=w->X.K=K->X.calm=true->∀(i:Nat) (gV:List (Addr×Obj)) (s:Shared) (Y:St) (H:Hp) (E:Value->Shared->Prop),Inv X gV Y H s->(∀b∈fp,lf X gV H b)->tn i s.heap->J.stop i H ->
  wpAny (model P w) X.A (pyNext (.ref it)) (fun r s1=>r=none/\Inv X gV Y H s1) E s
 self:∀(A:Around) (i:Nat) (s:Shared) (Q:Value->Shared->Prop) (E:Value->Shared->Prop),tn i s.heap->Q (.ref it) s->wpAny (model P w) A (pyIter (.ref it)) Q E s
abbrev TI:=St->Hp->(It->Hp->Prop)->Prop
def PIE(X:Cx)(gV:List (Addr×Obj))(Y:St)(tg:Expr)(R:It->Hp->Prop)(itv:Value)(s2:Shared):Prop :=
 ∃(it:Addr) (fp:List Addr) (tn:Nat->Heap->Prop) (J:It) (H':Hp),itv=.ref it/\Inv X gV Y H' s2/\vd X.prog X.w X.K tg J fp it tn/\tn 0 s2.heap/\(∀b∈fp,lf X gV H' b)/\R J H'
def PI(X:Cx)(tg iter:Expr)(wi:TI):Prop :=
 ∀(gV:List (Addr×Obj)) (s:Shared) (Y:St) (H:Hp) (R:It->Hp->Prop),Inv X gV Y H s->wi Y H R ->
  wpAny (model X.prog X.w) X.A (eval iter X.env) (fun v s1=>wpAny (model X.prog X.w) X.A (pyIter v) (PIE X gV Y tg R) X.xe s1) X.xe s
def rF{M:Model}{A:Around}{E:Value->Shared->Prop}{s:Shared}{tg:Expr}{it:Addr}{u:Value}{o:Obj}{n:String}{vs:Array Value}{Q:Unit->Shared->Prop}(ho:s.heap.get? it=some o)(hc:o.cls=.type n)(hd:o.data=.fields vs)
    (hn:["enumerate", "zip", "dict_itemiterator", "dict_reverseitemiterator", "odict_iterator", "itertools.zip_longest", "itertools.pairwise"].contains n=false) (hQ:Q () s):wpAny M A (letOwnedTupleGo tg (.ref it) u) Q E s:=by
  unfold letOwnedTupleGo
  cases tg<;>first
    | exact wpAny_pure hQ
    | (cases u <;> first
        | exact wpAny_pure hQ
        | (refine wpAny_bind (wpAny_load ho ?_)
           rw[hc,hd]
           show wpAny M A (if(["enumerate", "zip", "dict_itemiterator", "dict_reverseitemiterator", "odict_iterator", "itertools.zip_longest", "itertools.pairwise"].contains n&&vs[0]?==some (rawInt _))=true then _ else _) Q E s
           rw[if_neg (by intro h;rw[hn,Bool.false_and]at h;cases h)]
           exact wpAny_pure hQ))
def Itl(K:PySem.W.Frag)(a:Addr):It :=
 ⟨fun i H=>∃xs x,SqL K H a xs/\xs[i]?=some x,fun i H x H'=>H'=H/\∀xs,SqL K H a xs->xs[i]?=some x,fun i H=>∃xs,SqL K H a xs/\xs.length<=i⟩
def Itt(K:PySem.W.Frag)(a:Addr):It :=
 ⟨fun i H=>∃xs x,SqT K H a xs/\xs[i]?=some x,fun i H x H'=>H'=H/\∀xs,SqT K H a xs->xs[i]?=some x,fun i H=>∃xs,SqT K H a xs/\xs.length<=i⟩
def Itr(lo:Int)(n:Nat):It:=⟨fun i _=>i < n,fun i H x H'=>H'=H/\x=.int (lo+i),fun i _=>n<=i⟩
def oP{P:Program}{w:World}{K:PySem.W.Frag}{tg:Expr}(a it:Addr):vd P w K tg (Itl K a) [it] it (fun i h=>h.IsListIter it a i) where
 mem:=by simp
 obj:=fun i h st b hb=>by
  have e:b=it:=by simpa using hb
  subst e
  obtain⟨o,e,c,d⟩:=st
  exact⟨o,e,fun v z=>by rw[d]at z;cases z⟩
 keep:=fun i h h' st k=>st.at fun o e=>k it (by simp) o e
 item:=by
  intro X hP hw hK hc i gV s Y H E I hf st hg
  subst hP hw hK
  obtain⟨xs,x,hq,hx⟩:=hg
  obtain⟨its,rv,p,hz⟩:=I.list hq
  obtain⟨u,hu,ru⟩:=rv.get hx
  obtain⟨f0,f1,f2,f3,f4,f5⟩:=hf it (by simp)
  refine wpAny_pyNext_list_item st p.isList (x:=u) (by simpa using hu) fun h' st' sb=>?_
  have I1:Inv X gV Y H { s with heap:=h' }:=I.turned (t':=s.toks) (fun b o hb e=>(sb.2 b hb).trans e) f0 f1 f3 f4 f5
  obtain⟨o,e,c,d⟩:=id st'
  exact⟨u,rfl,rF (s:={ s with heap:=h' }) e c d (by decide) ⟨x,H,I1,ru,⟨rfl,fun ys hy=>by rw[I.list_inj hy hq];exact hx⟩,st',fun b hb=>(hf b hb).1⟩⟩
 done:=by
  intro X hP hw hK hc i gV s Y H E I hf st hg
  subst hP hw hK
  obtain⟨xs,hq,hx⟩:=hg
  obtain⟨its,rv,p,hz⟩:=I.list hq
  obtain⟨f0,f1,f2,f3,f4,f5⟩:=hf it (by simp)
  have hl:=rv.length
  exact wpAny_pyNext_list_end (I.ok.hd hc) st p.isList (by simp;omega) fun h' eb=>⟨rfl,I.turned (t':=s.toks) (fun b o hb e=>eb b o hb e) f0 f1 f3 f4 f5⟩
 self:=fun _ _ _ _ _ st h=>wpAny_pyIter_listiter st h
def mG{P:Program}{w:World}{K:PySem.W.Frag}{tg:Expr}(a it:Addr):vd P w K tg (Itt K a) [it] it (fun i h=>h.IsTupleIter it a i) where
 mem:=by simp
 obj:=fun i h st b hb=>by
  have e:b=it:=by simpa using hb
  subst e
  obtain⟨o,e,c,d⟩:=st
  exact⟨o,e,fun v z=>by rw[d]at z;cases z⟩
 keep:=fun i h h' st k=>st.at fun o e=>k it (by simp) o e
 item:=by
  intro X hP hw hK hc i gV s Y H E I hf st hg
  subst hP hw hK
  obtain⟨xs,x,hq,hx⟩:=hg
  obtain⟨its,rv,p,hz⟩:=I.tuple hq
  obtain⟨u,hu,ru⟩:=rv.get hx
  obtain⟨f0,f1,f2,f3,f4,f5⟩:=hf it (by simp)
  refine wpAny_pyNext_tuple_item st (show s.heap.IsTuple a its.toArray from p) (x:=u) (by simpa using hu) fun h' st' sb=>?_
  have I1:Inv X gV Y H { s with heap:=h' }:=I.turned (t':=s.toks) (fun b o hb e=>(sb.2 b hb).trans e) f0 f1 f3 f4 f5
  obtain⟨o,e,c,d⟩:=id st'
  exact⟨u,rfl,rF (s:={ s with heap:=h' }) e c d (by decide) ⟨x,H,I1,ru,⟨rfl,fun ys hy=>by rw[I.tuple_inj hy hq];exact hx⟩,st',fun b hb=>(hf b hb).1⟩⟩
 done:=by
  intro X hP hw hK hc i gV s Y H E I hf st hg
  subst hP hw hK
  obtain⟨xs,hq,hx⟩:=hg
  obtain⟨its,rv,p,hz⟩:=I.tuple hq
  obtain⟨f0,f1,f2,f3,f4,f5⟩:=hf it (by simp)
  have hl:=rv.length
  exact wpAny_pyNext_tuple_end (I.ok.hd hc) st (show s.heap.IsTuple a its.toArray from p) (by simp;omega) fun h' eb=>⟨rfl,I.turned (t':=s.toks) (fun b o hb e=>eb b o hb e) f0 f1 f3 f4 f5⟩
 self:=fun _ _ _ _ _ st h=>wpAny_pyIter_tupleiter st h
def mH{P:Program}{w:World}{K:PySem.W.Frag}{tg:Expr}(it:Addr)(lo:Int)(n:Nat):vd P w K tg (Itr lo n) [it] it (fun i h=>IsRangeIter h it (lo+(i:Nat) * 1) ((n:Int) - (i:Nat)) 1) where
 mem:=by simp
 obj:=fun i h st b hb=>by
  have e:b=it:=by simpa using hb
  subst e
  exact ⟨_,st,fun v z=>by
   have z':Data.fields _=Data.cell v:=z
   cases z'⟩
 keep:=fun i h h' st k=>k it (by simp) _ st
 item:=by
  intro X hP hw hK hc i gV s Y H E I hf st hg
  subst hP hw hK
  obtain⟨f0,f1,f2,f3,f4,f5⟩:=hf it (by simp)
  have W:=Walks.range (prog:=X.prog) (w:=X.w) (I.ok.hd hc) it lo 1 n
  refine W.item i s _ _ hg st fun v h' tk hv st' kk=>?_
  obtain⟨t,rfl⟩:=hv
  have I1:Inv X gV Y H { s with heap:=h',toks:=tk }:=I.turned (fun b o hb e=>kk b o (by simpa using hb) e) f0 f1 f3 f4 f5
  refine⟨_,rfl,rF (s:={ s with heap:=h',toks:=tk }) (n := "range_iterator") st' rfl rfl (by decide) ⟨.int (lo+i),H,I1,⟨t,?_⟩,⟨rfl,rfl⟩,st',fun b hb=>(hf b hb).1⟩⟩
  rw[Int.mul_one]
 done:=by
  intro X hP hw hK hc i gV s Y H E I hf st hg
  subst hP hw hK
  obtain⟨f0,f1,f2,f3,f4,f5⟩:=hf it (by simp)
  exact wpAny_pyNext_range_end (I.ok.hd hc) st (by have:n<=i:=hg;omega) fun h' eb=>⟨rfl,I.turned (t':=s.toks) (fun b o hb e=>eb b o hb e) f0 f1 f3 f4 f5⟩
 self:=fun _ _ _ _ _ st h=>wpAny_pyIter_rangeiter st h
end L2
namespace L2
open PySem PySem.Spec PyProof.Rows
section
variable{X:Cx}{tg:Expr}
def lB{gV:List (Addr×Obj)}{Y:St}{H:Hp}{s:Shared}{R:It->Hp->Prop}{E:Value->Shared->Prop}{lo hi:Int}{t u v:Tok}{tk:Nat}(I:Inv X gV Y H s)(h1:-(2 ^ 62)<= lo)(h2:lo < 2 ^ 62)(h3:-(2 ^ 62)<= hi)(h4:hi < 2 ^ 62)
  (q:R (Itr lo (hi - lo).toNat) H):wpAny (model X.prog X.w) X.A (pyIter (.ref s.heap.objs.size)) (PIE X gV Y tg R) E { s with heap:=s.heap.push { cls:=.type "range", data:=.fields #[.int lo t,.int hi u,.int 1 v] },toks:=tk }:=by
 refine wpAny_pyIter_range (IsRange.new ..) (small_one h1 h2 h3 h4) ?_
 have I1:Inv X gV Y H { s with heap:=s.heap.push { cls:=.type "range", data:=.fields #[.int lo t,.int hi u,.int 1 v] },toks:=tk }:=I.kept fun b o e=>Heap.get?_push_of_some _ e
 refine ⟨(s.heap.push { cls:=.type "range", data:=.fields #[.int lo t,.int hi u,.int 1 v] }).objs.size,[(s.heap.push { cls:=.type "range", data:=.fields #[.int lo t,.int hi u,.int 1 v] }).objs.size],_,_,H,rfl,
  I1.kept (t':=tk) fun b o e=>Heap.get?_push_of_some _ e,mH _ lo (hi - lo).toNat,?_,fun b hb=>?_,q⟩
 ·have e1:lo+((0:Nat):Int) * 1=lo:=by simp
  have e2:(((hi - lo).toNat:Nat):Int) - ((0:Nat):Int)=Builtin.Range.rangeSize lo hi 1:=by rw[rangeSize_one];split<;>omega
  show IsRangeIter _ _ (lo+((0:Nat):Int) * 1) ((((hi - lo).toNat:Nat):Int) - ((0:Nat):Int)) 1
  rw[e1,e2]
  exact Heap.get?_push_size _ rfl
 ·have e:b=(s.heap.push { cls:=.type "range", data:=.fields #[.int lo t,.int hi u,.int 1 v] }).objs.size:=by simpa using hb
  subst e
  exact I1.fpOk (Nat.le_refl _) (I1.hok.fresh (Nat.le_refl _))
def Ae(ta:TA):TI:=fun Y H R=>ta Y H fun vs H1=>∃j:Int,vs=[.int j]/\-(2 ^ 62)<= j/\j < 2 ^ 62/\R (Itr 0 j.toNat) H1
def Ad(ta:TA):TI:=fun Y H R=>ta Y H fun vs H1=>∃i j:Int,vs=[.int i,.int j]/\(-(2 ^ 62)<= i/\i < 2 ^ 62/\-(2 ^ 62)<= j/\j < 2 ^ 62)/\R (Itr i (j - i).toNat) H1
def jQ{a:Expr}{ta:TA}{p pos:Pos}(hg:Gl X "range")(hm:X.mg "range" = none)(ha:PA X [a] ta)(hs:starEach [a] X.env=[(false,eval a X.env)]:=by rfl):PI X tg (.Call (.Name "range" p) [a] [] pos) (Ae ta):=by
 intro gV s Y H R I h
 refine Call_ (iZ I hg hm boot_range (PyProof.Rows.callWith_type1 (thn (ha pos gV s Y H _ I h) fun us s1 ⟨vs,H1,I1,r1,q1⟩=>?_) hs rfl))
 obtain⟨j,e,q1,q2,q⟩:=q1
 subst e
 cases r1 with
 | cons r rr =>
  cases rr
  obtain⟨t,rfl⟩:=r
  exact call_range_1 (lB I1 (by omega) (by omega) q1 q2 (by simpa using q))
def o8{a b:Expr}{ta:TA}{p pos:Pos}(hg:Gl X "range")(hm:X.mg "range" = none)(ha:PA X [a,b] ta)(hs:starEach [a,b] X.env=[(false,eval a X.env),(false,eval b X.env)]:=by rfl)(hs2:starEach [b] X.env=[(false,eval b X.env)]:=by rfl) :
  PI X tg (.Call (.Name "range" p) [a,b] [] pos) (Ad ta):=by
 intro gV s Y H R I h
 refine Call_ (iZ I hg hm boot_range (PyProof.Rows.callWith_type1 (thn (ha pos gV s Y H _ I h) fun us s1 ⟨vs,H1,I1,r1,q1⟩=>?_) (by rw[hs,hs2]) (by rw[hs2];rfl)))
 obtain⟨i,j,e,⟨q1,q2,q3,q4⟩,q⟩:=q1
 subst e
 cases r1 with
 | cons r rr =>
  cases rr with
  | cons r' rr =>
   cases rr
   obtain⟨t,rfl⟩:=r
   obtain⟨t',rfl⟩:=r'
   exact call_range_2 (lB I1 q1 q2 q3 q4 q)
def A3(wi:TI)(g:TG)(tb:TS):TS:=fun D Y H=>wi Y H fun J H1=>∃W:Nat->Nat->St->Hp->Prop,(∃m,W 0 m Y H1)/\∀i m Y H,W i m Y H ->
 (J.stop i H/\D.nx Y H)\/(J.go i H/\∃N:St->Hp->Prop,(∀σ' H',N σ' H'->∃m',m' < m/\W (i+1) m' σ' H')/\∀x H',J.yld i H x H'->g x Y H' fun σ2 H2=>tb { D with nx:=N,ct:=N,bk:=D.nx } σ2 H2)
def iH(fp:List Addr)(h:Heap):List (Addr×Obj):=fp.filterMap fun b=>(h.get? b).map fun o=>(b,o)
def ez{fp:List Addr}{h:Heap}{b:Addr}{o:Obj}(hb:b∈fp)(e:h.get? b=some o):(b,o)∈ iH fp h:=List.mem_filterMap.mpr ⟨b,hb,by rw[e];rfl⟩
def pj{fp:List Addr}{h:Heap}{p:Addr×Obj}(hp:p∈iH fp h):p.1∈fp/\h.get? p.1=some p.2:=by
 obtain⟨b,hb,e⟩:=List.mem_filterMap.mp hp
 cases q:h.get? b with
 | none=>rw[q]at e;cases e
 | some o =>
  rw[q]at e
  have e':(b,o)=p:=Option.some.inj e
  subst e'
  exact⟨hb,q⟩
def Inv.pinned{gV:List (Addr×Obj)}{Y:St}{H:Hp}{s:Shared}{fp:List Addr}(I:Inv X gV Y H s)(hf:∀b∈fp,lf X gV H b)(ho:∀b∈fp,∃o,s.heap.get? b=some o/\∀v,o.data≠.cell v):Inv X (gV++iH fp s.heap) Y H s :=
 I.pins_of fun p hp=>(List.mem_append.mp hp).elim (fun z=>I.pin p (List.mem_append_right _ z)) fun z=>by
  obtain⟨hb,e⟩:=pj z
  obtain⟨f0,f1,f2,_⟩:=hf p.1 hb
  obtain⟨o,e',d⟩:=ho p.1 hb
  rw[e]at e';cases e'
  exact⟨e,f0,f1,f2,d⟩
def Inv.unpinned{gV pl:List (Addr×Obj)}{Y:St}{H:Hp}{s:Shared}(I:Inv X (gV++pl) Y H s):Inv X gV Y H s:=I.pins_of fun p hp=>I.pin p (List.mem_append_right _ (List.mem_append_left _ hp))
def wq{iter:Expr}{body:List Stmt}{wi:TI}{g:TG}{tb:TS}{pos:Pos}(hp:PassesOwn (model X.prog X.w) X.A X.env X.xe)(hc:X.calm=true)(hi:PI X tg iter wi)(hg:PG X tg g)(hb:PSs X body tb)
  (hs:∀x,foldedSetIterable iter X.env x=pure x:=by intro _;rfl):PS X (.For tg iter body [] pos) (A3 wi g tb):=by
 intro gV s Y H D I h
 refine wpAny_For (thn (hi gV s Y H _ I h) fun v s1 h1=>thn h1 fun itv s2 h2=>?_) hs
 obtain⟨it,fp,tn,J,H2,e,I2,T,st2,f2,W,⟨m0,w0⟩,turn⟩:=h2
 subst e
 have stat:∀{H':Hp},(∀b∈fp,H' b=none)->∀b∈fp,lf X gV H' b:=fun hn b hb=>⟨hn b hb,(f2 b hb).2⟩
 refine codeAny_forLoop_any (fun n s'=>∃i σ' H',Inv X gV σ' H' s'/\tn i s'.heap/\(∀b∈fp,H' b=none)/\W i n σ' H') ?_ m0 ⟨0,Y,H2,I2,st2,fun b hb=>(f2 b hb).1,w0⟩
 rintro n s3 ⟨i,σ3,H3,I3,st3,fr3,w3⟩
 rcases turn i n σ3 H3 w3 with⟨stop,qn⟩ |⟨go,N,hN,step⟩
 ·refine wpAny_passesOwn hp (thn (T.done X rfl rfl rfl hc i gV s3 σ3 H3 X.xe I3 (stat fr3) st3 stop) fun r s4 ⟨hr,I4⟩=>?_)
  subst hr
  exact wpAny_execs_nil ⟨σ3,H3,I4,qn⟩
 ·refine wpAny_passesOwn hp (thn (T.item X rfl rfl rfl hc i gV s3 σ3 H3 X.xe I3 (stat fr3) st3 go) fun r s4 ⟨u,hr,h4⟩=>?_)
  subst hr
  refine wpAny_passesOwn hp (thn h4 fun _ s5 ⟨x,H5,I5,r5,y5,st5,fr5⟩=>?_)
  have I5':=I5.pinned (stat fr5) (T.obj _ _ st5)
  refine wpAny_passesOwn hp (thn (hg _ s5 σ3 H5 x u _ I5' r5 (step x H5 y5)) fun _ s6 ⟨σ6,H6,I6,q6⟩=>?_)
  refine wpAny_passesOwn hp (thn (hb _ s6 σ6 H6 _ I6 q6) fun f s7 q7=>?_)
  have again:∀{σ7:St}{H7:Hp},Inv X (gV++iH fp s5.heap) σ7 H7 s7->N σ7 H7->∃m,m < n/\∃i σ' H',Inv X gV σ' H' s7/\tn i s7.heap/\(∀b∈fp,H' b=none)/\W i m σ' H':=fun {σ7 H7} I7 n7=>by
   obtain⟨m',hm,w7⟩:=hN σ7 H7 n7
   refine⟨m',hm,i+1,σ7,H7,I7.unpinned,T.keep _ _ _ st5 fun b hb o e=>(I7.pin (b,o) (List.mem_append_right _ (List.mem_append_right _ (ez hb e)))).1,fun b hb=>?_,w7⟩
   obtain⟨o,e,d⟩:=T.obj _ _ st5 b hb
   exact(I7.pin (b,o) (List.mem_append_right _ (List.mem_append_right _ (ez hb e)))).2.1
  cases f with
  | next | cont=>obtain⟨σ7,H7,I7,n7⟩:=q7;exact again I7 n7
  | brk=>obtain⟨σ7,H7,I7,q7⟩:=q7;exact⟨σ7,H7,I7.unpinned,q7⟩
  | ret v=>obtain⟨x7,σ7,H7,I7,r7,q7⟩:=q7;exact⟨x7,σ7,H7,I7.unpinned,r7,q7⟩
end
end L2
namespace L2
open PySem PySem.Spec PyProof.Rows
abbrev R2:=V->V->Hp->VK->Prop
def OpR(X:Cx)(f:Value->Value->Sem Value)(r:R2):Prop :=
 ∀(gV:List (Addr×Obj)) (s:Shared) (Y:St) (H:Hp) (x y:V) (v u:Value) (Q:VK),Inv X gV Y H s->aT x v->aT y u->r x y H Q ->
  wpAny (model X.prog X.w) X.A (f v u) (EP X gV Y Q) X.xe s
def UnR(X:Cx)(f:Value->Sem Value)(r:V->Hp->VK->Prop):Prop :=
 ∀(gV:List (Addr×Obj)) (s:Shared) (Y:St) (H:Hp) (x:V) (v:Value) (Q:VK),Inv X gV Y H s->aT x v->r x H Q ->
  wpAny (model X.prog X.w) X.A (f v) (EP X gV Y Q) X.xe s
def dz(X:Cx)(f:Value)(r:List V->Hp->VK->Prop):Prop :=
 ∀(gV:List (Addr×Obj)) (s:Shared) (Y:St) (H:Hp) (xs:List V) (us:List Value) (Q:VK),Inv X gV Y H s->aB xs us->r xs H Q ->
  wpAny (model X.prog X.w) X.A (call f us) (EP X gV Y Q) X.xe s
def Bw(X:Cx)(r:V->Hp->(Bool->Hp->Prop)->Prop):Prop :=
 ∀(gV:List (Addr×Obj)) (s:Shared) (Y:St) (H:Hp) (x:V) (v:Value) (Q:Bool->Hp->Prop),Inv X gV Y H s->aT x v->r x H Q ->
  wpAny (model X.prog X.w) X.A (truthy v) (TP X gV Y Q) X.xe s
def tOp(r:R2)(ta tb:TE):TE:=fun Y H Q=>ta Y H fun x H1=>tb Y H1 fun y H2=>r x y H2 Q
def tUn(r:V->Hp->VK->Prop)(ta:TE):TE:=fun Y H Q=>ta Y H fun x H1=>r x H1 Q
def rI(C:Int->Int->Prop)(g:Int->Int->V):R2:=fun x y H Q=>∃i j,x=.int i/\y=.int j/\C i j/\Q (g i j) H
def rI0(g:Int->Int->V):R2:=fun x y H Q=>∃i j,x=.int i/\y=.int j/\Q (g i j) H
def rU(g:Int->V):V->Hp->VK->Prop:=fun x H Q=>∃i,x=.int i/\Q (g i) H
section
variable{X:Cx}{a b c:Expr}{ta tb tc:TE}{pos:Pos}
def xL(ha:PE X a ta)(hb:PE X b tb){gV:List (Addr×Obj)}{s:Shared}{Y:St}{H:Hp}{R:V->V->Hp->Prop}(I:Inv X gV Y H s)
  (h:ta Y H fun x H1=>tb Y H1 fun y H2=>R x y H2) {Q:Value->Shared->Prop}{f:Value->Value->Sem Value}
  (hf:∀v u s2 x y H2,Inv X gV Y H2 s2->aT x v->aT y u->R x y H2->wpAny (model X.prog X.w) X.A (f v u) Q X.xe s2) :
  wpAny (model X.prog X.w) X.A (eval a X.env) (fun v s₁=>wpAny (model X.prog X.w) X.A (eval b X.env) (fun u s₂=>wpAny (model X.prog X.w) X.A (f v u) Q X.xe s₂) X.xe s₁) X.xe s:=by
 refine thn (ha gV s Y H _ I h) fun v s1 ⟨x,H1,I1,r1,q1⟩=>?_
 refine thn (hb gV s1 Y H1 _ I1 q1) fun u s2 ⟨y,H2,I2,r2,q2⟩=>?_
 exact hf v u s2 x y H2 I2 r1 r2 q2
def zn{op:Operator}{r:R2}(ho:OpR X (binaryOp op) r)(ha:PE X a ta)(hb:PE X b tb):PE X (.BinOp a op b pos) (tOp r ta tb):=by
 intro gV s Y H Q I h
 exact wpAny_BinOp (xL ha hb I h fun v u s2 x y H2 I2 rx ry q=>ho gV s2 Y H2 x y v u Q I2 rx ry q)
def zk{op:UnaryOp}{r:V->Hp->VK->Prop}(ho:UnR X (unaryOp op) r)(ha:PE X a ta):PE X (.UnaryOp op a pos) (tUn r ta):=by
 intro gV s Y H Q I h
 exact UnaryOp_ (thn (ha gV s Y H _ I h) fun v s1 ⟨x,H1,I1,r1,q1⟩=>ho gV s1 Y H1 x v Q I1 r1 q1)
def opI{f:Value->Value->Sem Value}{C:Int->Int->Prop}{g:Int->Int->Int}
  (rule:∀(i j:Int) (t u:Tok) (s:Shared) (Q:Value->Shared->Prop) (E:Value->Shared->Prop),C i j->Q (.int (g i j) s.toks) { s with toks:=s.toks+1 }->wpAny (model X.prog X.w) X.A (f (.int i t) (.int j u)) Q E s) :
  OpR X f (rI C fun i j=>.int (g i j)):=by
 intro gV s Y H x y v u Q I rx ry h
 obtain⟨i,j,rfl,rfl,hc,q⟩:=h
 obtain⟨t,rfl⟩:=rx
 obtain⟨t',rfl⟩:=ry
 exact rule i j t t' s _ _ hc ⟨.int (g i j),H,I.tok _,⟨_,rfl⟩,q⟩
def zy{f:Value->Value->Sem Value}{g:Int->Int->Int}
  (rule:∀(i j:Int) (t u:Tok) (s:Shared) (Q:Value->Shared->Prop) (E:Value->Shared->Prop),Q (.int (g i j) s.toks) { s with toks:=s.toks+1 }->wpAny (model X.prog X.w) X.A (f (.int i t) (.int j u)) Q E s) :
  OpR X f (rI0 fun i j=>.int (g i j)):=by
 intro gV s Y H x y v u Q I rx ry h
 obtain⟨i,j,rfl,rfl,q⟩:=h
 obtain⟨t,rfl⟩:=rx
 obtain⟨t',rfl⟩:=ry
 exact rule i j t t' s _ _ ⟨.int (g i j),H,I.tok _,⟨_,rfl⟩,q⟩
def wM{f:Value->Value->Sem Value}{g:Int->Int->Bool}
  (rule:∀(i j:Int) (t u:Tok) (s:Shared) (Q:Value->Shared->Prop) (E:Value->Shared->Prop),Q (.bool (g i j)) s->wpAny (model X.prog X.w) X.A (f (.int i t) (.int j u)) Q E s) :
  OpR X f (rI0 fun i j=>.bl (g i j)):=by
 intro gV s Y H x y v u Q I rx ry h
 obtain⟨i,j,rfl,rfl,q⟩:=h
 obtain⟨t,rfl⟩:=rx
 obtain⟨t',rfl⟩:=ry
 exact rule i j t t' s _ _ ⟨.bl (g i j),H,I,rfl,q⟩
def BB(i j:Int):Prop:=0 < j/\j < 1073741824
def BA(i j:Int):Prop:=0<=j/\j<=1000000/\i.natAbs < 2 ^ 64
def ym(i j:Int):Prop:=(-(2 ^ 64) < i/\i < 2 ^ 64)\/(-(2 ^ 64) < j/\j < 2 ^ 64)
def ym.ok{i j:Int}(h:ym i j):IntMulOk i j:=by
 rcases h with⟨h1,h2⟩ |⟨h1,h2⟩
 ·exact .of_left (intBits_le_64 h1 h2)
 ·exact .of_right (intBits_le_64 h1 h2)
def mF(k:Nat):(0:Int)<= 2 ^ k:=by
 rw[two_pow_cast]
 exact Int.natCast_nonneg _
def wL:OpR X (binaryOp .Add) (rI0 fun i j=>.int (i+j)):=zy fun _ _ _ _ _ _ _ q=>add_int q
def wE:OpR X (binaryOp .Sub) (rI0 fun i j=>.int (i - j)):=zy fun _ _ _ _ _ _ _ q=>sub_int q
def wI:OpR X (binaryOp .Mult) (rI ym fun i j=>.int (i * j)):=opI fun _ _ _ _ _ _ _ hc q=>mul_int q hc.ok
def ub:OpR X (binaryOp .FloorDiv) (rI BB fun i j=>.int (i / j)):=opI fun i j _ _ _ _ _ hc q=>by
 have h1:(0:Int) < j:=hc.1
 have h2:j < 1073741824:=hc.2
 exact floordiv_int (by omega) (by rw[Int.fdiv_eq_ediv_of_nonneg i (by omega)];exact q) (.inl (PyProof.noPylong_small (by omega)))
def wJ:OpR X (binaryOp .Mod) (rI (fun _ j=>0 < j) fun i j=>.int (i % j)):=opI fun i j _ _ _ _ _ hc q=>by
 have h1:(0:Int) < j:=hc
 exact mod_int' (by omega) (by rw[Int.fmod_eq_emod_of_nonneg i (by omega)];exact q)
def wH:OpR X (binaryOp .Pow) (rI BA fun i j=>.int (i ^ j.toNat)):=opI fun _ _ _ _ _ _ _ hc q=>pow_int_small hc.1 hc.2.1 hc.2.2 q
def wF:OpR X (binaryOp .RShift) (rI (fun _ j=>0<=j) fun i j=>.int (i / 2 ^ j.toNat)):=opI fun i j _ _ _ _ _ hc q =>
 rshift_int hc (by rw[Int.fdiv_eq_ediv_of_nonneg i (mF _)];exact q)
def unI{f:Value->Sem Value}{g:Int->Int}
  (rule:∀(i:Int) (t:Tok) (s:Shared) (Q:Value->Shared->Prop) (E:Value->Shared->Prop),Q (.int (g i) s.toks) { s with toks:=s.toks+1 }->wpAny (model X.prog X.w) X.A (f (.int i t)) Q E s) :
  UnR X f (rU fun i=>.int (g i)):=by
 intro gV s Y H x v Q I rx h
 obtain⟨i,rfl,q⟩:=h
 obtain⟨t,rfl⟩:=rx
 exact rule i t s _ _ ⟨.int (g i),H,I.tok _,⟨_,rfl⟩,q⟩
def vM:UnR X (unaryOp .USub) (rU fun i=>.int (-i)):=unI fun _ _ _ _ _ q=>neg_int q
def rM{gV:List (Addr×Obj)}{Y:St}{H:Hp}{s:Shared}{Q:VK}{k k':Bool}(I:Inv X gV Y H s)(q:Q (.bl k) H)(e:k=k'):EP X gV Y Q (.bool k') s:=by
 subst e
 exact⟨.bl k,H,I,rfl,q⟩
def vk:OpR X (compareOp .Lt) (rI0 fun i j=>.bl (decide (i < j))):=wM fun _ _ _ _ _ _ _ q=>lt_int q
def zw:OpR X (compareOp .Gt) (rI0 fun i j=>.bl (decide (j < i))):=wM fun _ _ _ _ _ _ _ q=>gt_int q
def zx:OpR X (compareOp .GtE) (rI0 fun i j=>.bl (decide (j<=i))):=wM fun _ _ _ _ _ _ _ q=>ge_int q
def wK:OpR X (compareOp .Is) (fun x y H Q=>y=.non/\Q (.bl (decide (x=.non))) H):=by
 intro gV s Y H x y v u Q I rx ry h
 obtain⟨rfl,q⟩:=h
 cases ry
 refine is_none_gen (rM I q ?_)
 cases x<;>first
  |(cases rx;rfl)
  |(obtain⟨t,rfl⟩:=rx;rfl)
def ua:OpR X (compareOp .IsNot) (fun x y H Q=>y=.non/\Q (.bl (!decide (x=.non))) H):=by
 intro gV s Y H x y v u Q I rx ry h
 obtain⟨rfl,q⟩:=h
 cases ry
 refine isnot_none_gen (rM I q ?_)
 cases x<;>first
  |(cases rx;rfl)
  |(obtain⟨t,rfl⟩:=rx;rfl)
def OpR.or{f:Value->Value->Sem Value}{r r':R2}(h:OpR X f r)(h':OpR X f r'):OpR X f (fun x y H Q=>r x y H Q\/r' x y H Q):=by
 intro gV s Y H x y v u Q I rx ry q
 rcases q with q | q
 ·exact h gV s Y H x y v u Q I rx ry q
 ·exact h' gV s Y H x y v u Q I rx ry q
def dJ(b:Expr){op:CmpOp}(h:op≠.In:=by decide)(h2:op≠.NotIn:=by decide):behindInMarks op b=false:=by
 have e1:(op==CmpOp.In)=false:=by cases op<;>first | rfl | exact absurd rfl h
 have e2:(op==CmpOp.NotIn)=false:=by cases op<;>first | rfl | exact absurd rfl h2
 cases b<;>simp[behindInMarks,e1,e2]
def t4{op:CmpOp}{r:R2}(ho:OpR X (compareOp op) r)(ha:PE X a ta)(hb:PE X b tb)(hm:behindInMarks op b=false):PE X (.Compare a [op] [b] pos) (tOp r ta tb):=by
 intro gV s Y H Q I h
 exact wpAny_Compare1 (xL ha hb I h fun v u s2 x y H2 I2 rx ry q=>ho gV s2 Y H2 x y v u Q I2 rx ry q) hm
def yT(t:TE):TT:=fun Y H Q=>t Y H fun x H'=>∃k,x=.bl k/\Q k H'
def tQ{op:CmpOp}{r:R2}(ho:OpR X (compareOp op) r)(ha:PE X a ta)(hb:PE X b tb)(hm:behindInMarks op b=false):PT X (.Compare a [op] [b] pos) (yT (tOp r ta tb)):=by
 intro gV s Y H Q I h
 refine wpAny_isTrue_Compare1 (thn (ha gV s Y H _ I h) fun v s1 ⟨x,H1,I1,r1,q1⟩=>thn (hb gV s1 Y H1 _ I1 q1) fun u s2 ⟨y,H2,I2,r2,q2⟩ =>
  thn (ho gV s2 Y H2 x y v u _ I2 r1 r2 q2) fun c s3 ⟨z,H3,I3,r3,k,e,q3⟩=>?_) hm
 subst e
 cases r3
 exact wpAny_truthy_bool ⟨H3,I3,q3⟩
def Ar(K:PySem.W.Frag)(x:V)(H:Hp)(k:Bool):Prop :=
 match x with
 | .non=>k=false
 | .bl b=>k=b
 | .int i=>k=(i != 0)
 | .str y=>y.length<=sizeLine/\k=((y.length:Int) != 0)
 | .byt y=>y.size<=sizeLine/\k=((y.size:Int) != 0)
 | .ref p=>(∃xs,SqL K H p xs/\k=!xs.isEmpty)\/(∃xs,SqT K H p xs/\k=!xs.isEmpty)\/ ∃kvs,H p=some (.dK kvs)/\k=!kvs.isEmpty
 | _=>False
def nu{κ:Type}{kvs:List (κ×V)}{vs:List (κ×Value)}(r:KV kvs vs):(!vs.isEmpty)=!kvs.isEmpty:=by
 cases r<;>rfl
def i4{xs:List V}{its:List Value}(r:aB xs its):(!its.toArray.isEmpty)=!xs.isEmpty:=by
 cases r<;>simp
def gK:(sizeLine:Nat) < 2 ^ 63:=by rw[sizeLine_eq];decide
def vO:Bw X (fun x H Q=>∃k,Ar X.K x H k/\Q k H):=by
 intro gV s Y H x v Q I rx h
 obtain⟨k,e,q⟩:=h
 have hl:=gK
 have hs:sizeLine=16777216:=sizeLine_eq
 cases x with
 | non =>
  cases rx
  have e':k=false:=e
  subst e'
  exact truthy_none ⟨H,I,q⟩
 | bl b =>
  cases rx
  have e':k=b:=e
  subst e'
  exact wpAny_truthy_bool ⟨H,I,q⟩
 | int i =>
  obtain⟨t,rfl⟩:=rx
  have e':k=(i != 0):=e
  subst e'
  exact PySem.P.truthy_int ⟨H,I,q⟩
 | str y =>
  obtain⟨t,rfl⟩:=rx
  obtain⟨hy,e'⟩:y.length<=sizeLine/\k=((y.length:Int) != 0):=e
  subst e'
  exact PySem.P.truthy_str (by omega) ⟨H,I.tok _,q⟩
 | byt y =>
  obtain⟨t,rfl⟩:=rx
  obtain⟨hy,e'⟩:y.size<=sizeLine/\k=((y.size:Int) != 0):=e
  subst e'
  exact PySem.W.truthy_bytes (by omega) ⟨H,I.tok _,q⟩
 | ref p =>
  cases rx
  have e':(∃xs,SqL X.K H p xs/\k=!xs.isEmpty)\/(∃xs,SqT X.K H p xs/\k=!xs.isEmpty)\/ ∃kvs,H p=some (.dK kvs)/\k=!kvs.isEmpty:=e
  rcases e' with⟨xs,hx,e'⟩ |⟨xs,hx,e'⟩ |⟨kvs,hx,e'⟩
  ·subst e'
   obtain⟨its,r,pl,hz⟩:=I.list hx
   have hlen:=r.length
   exact wpAny_truthy_list pl.isList (by simp only[List.size_toArray];omega) ⟨H,I.tok _,by rw[i4 r];exact q⟩
  ·subst e'
   obtain⟨its,r,pl,hz⟩:=I.tuple hx
   have hlen:=r.length
   exact truthy_tuple pl (by simp only[List.size_toArray];omega) ⟨H,I.tok _,by rw[i4 r];exact q⟩
  ·subst e'
   obtain⟨hz,hS,vs,r,m⟩:kvs.length<=sizeLine/\(p==sysModules)=false/\∃vs,KV kvs vs/\s.heap.DictOf (kH X.prog X.w) p vs:=I.hok p _ hx
   have hlen:kvs.length=vs.length:=Paired.length r
   exact wpAny_truthy_dict hS m (by omega) ⟨H,I.tok _,by rw[nu r];exact q⟩
 | _=>exact(show False from e).elim
def ql(ha:PE X a ta)(he:∀whole,isTrue a X.env whole=(do let v <- whole;standAt a.pos;holding [v] (truthy v))) :
  PT X a (fun Y H Q=>ta Y H fun x H'=>∃k,Ar X.K x H' k/\Q k H'):=by
 intro gV s Y H Q I h
 exact isTrue_plain (thn (ha gV s Y H _ I h) fun v s1 ⟨x,H1,I1,r1,q1⟩=>vO gV s1 Y H1 x v Q I1 r1 q1) (he _)
def eK{x:V}{us:List Value}(r:aB [x] us):∃u,us=[u]/\aT x u:=by
 cases r with
 | cons r1 r2=>cases r2;exact⟨_,rfl,r1⟩
def yR{x y:V}{us:List Value}(r:aB [x,y] us):∃u w',us=[u,w']/\aT x u/\aT y w':=by
 cases r with
 | cons r1 r2 =>
  cases r2 with
  | cons r3 r4=>cases r4;exact⟨_,_,rfl,r1,r3⟩
def pN(hc:X.calm=true):dz X (.builtin "min") (fun xs H Q=>∃i j,xs=[.int i,.int j]/\Q (.int (if j < i then j else i)) H):=by
 intro gV s Y H xs us Q I r h
 obtain⟨i,j,rfl,q⟩:=h
 obtain⟨u,w',rfl,⟨t,rfl⟩,⟨t',rfl⟩⟩:=yR r
 refine min_two_ints (I.ok.hd hc) fun h' tk k=>⟨_,H,I.kept k,?_,q⟩
 by_cases hj:j < i
 ·rw[if_pos hj,if_pos hj];exact⟨_,rfl⟩
 ·rw[if_neg hj,if_neg hj];exact⟨_,rfl⟩
end
end L2
namespace L2
open PySem PySem.Spec PyProof.Rows
structure nL(h:Heap)(x dx C:Addr)(mA:Str->Option Value):Prop where
 obj:h.get? x=some (PySem.W.instObj C dx)
 ns:h.Ns1 dx mA
 ne:dx≠x
def pC{h:Heap}{dx:Addr}{mA:Str->Option Value}(n:h.Ns1 dx mA):∃od,h.get? dx=some od/\∀name,PySem.W.lookIn name od=some (mA name):=by
 obtain⟨o,es,ep,ho,hd,hk,_,hm⟩:=n
 refine⟨o,ho,fun name=>?_⟩
 have e:=hm name
 unfold nsFind findBy at e
 rw[<- Array.find?_toList]at e
 unfold PySem.W.lookIn
 rw[hd]
 dsimp only
 split
 ·rename_i y q
  rw[q]at e
  exact congrArg some e
 ·rename_i q
  rw[q]at e
  have a:es.toList.any (·.refKey)=false:=by
   rw[List.any_eq_false]
   intro y hy
   obtain⟨z,t,hkey⟩:=hk y (Array.mem_toList_iff.mp hy)
   simp[DictEntry.refKey,hkey]
  have a':¬es.toList.any (·.refKey)=true:=by rw[a];exact Bool.false_ne_true
  rw[if_neg a']
  exact congrArg some e
def nL.look{h:Heap}{x dx C:Addr}{mA:Str->Option Value}(I:nL h x dx C mA):∃od,PySem.W.InstAt h x (PySem.W.instObj C dx) C (some od)/\∀name,PySem.W.lookIn name od=some (mA name) :=
 let⟨od,ho,hl⟩:=pC I.ns
 ⟨od,⟨I.obj,rfl,rfl,ho⟩,hl⟩
section
variable{prog:Program}{w:World}{A:Around}{E:Value->Shared->Prop}{s:Shared}{K:PySem.W.Frag}{x dx C f:Addr}{mA:Str->Option Value}{name:Str}{v:Value}
def uB{expr:Bool}{Q:Value->Shared->Prop}(X:K.In s.heap)(I:nL s.heap x dx C mA)(hg:PySem.W.plainGet K C name=true)(hh:PySem.W.hasDictIn K C=true)
  (ha:PySem.W.findIn K (.ref C) name=some none) (hv:mA name=some v) (hv':PySem.W.handedIn v=true) (h:Q v { s with toks:=s.toks+1 }) :
  wpAny (model prog w) A (getAttr (.ref x) name expr) Q E s:=by
 obtain⟨od,J,hl⟩:=I.look
 exact PySem.W.get_value X J (PySem.W.plainGet_of hg).1 (PySem.W.findObj_own hh ha rfl (by rw[hl,hv])) hv' h
def rG{pl:Sem Bool}{Q:Value×List Value->Shared->Prop}(X:K.In s.heap)(I:nL s.heap x dx C mA)(hg:PySem.W.plainGet K C name=true)
  (hf:PySem.W.findIn K (.ref C) name=some (some (.ref f))) (ht:PySem.W.isFn K (.ref f)=true) (hv:mA name=none) (h:Q (.ref f,[.ref x]) s) :
  wpAny (model prog w) A (getMethod (.ref x) name pl) Q E s:=by
 obtain⟨od,J,hl⟩:=I.look
 exact PySem.W.method_fn X J (PySem.W.plainGet_of hg).1 (PySem.W.plainGet_of hg).2 hf (beq_iff_eq.mp ht) (by show(PySem.W.lookIn name od).map (·.isSome)=some false;rw[hl,hv];rfl) h
def sW{ns:List Str}{Q:Unit->Shared->Prop}(X:K.In s.heap)(I:nL s.heap x dx C mA)
  (hs:PySem.W.findIn K (.ref C) "__setattr__" = some (some (.builtin "object.__setattr__"))) (hp:PySem.W.plainOver K C=true) (ht:PySem.W.takerIn K C name=some none) (hh:PySem.W.hasDictIn K C=true)
  (hw:PySem.Within mA ns) (hsz:ns.length<=sizeLine)
  (h:∀h',nL h' x dx C (fun y=>if y=name then some v else mA y)->Heap.SameBut dx s.heap h'->Q () { s with heap:=h',toks:=s.toks+2 }) :
  wpAny (model prog w) A (setAttr (.ref x) name v) Q E s:=by
 obtain⟨od,J,hl⟩:=I.look
 refine PySem.W.set_plain X J hs (PySem.W.osa_open (s:={ s with toks:=s.toks+1 }) (r:=none) X J hp ht fun b=>?_)
 obtain⟨cd,hc,hd'⟩:=PySem.W.any_some hh
 have hx:s.heap.get? x=some ⟨.ref C,some dx,.plain,#[]⟩:=I.obj
 refine wpAny_bind (wpAny_pure (wpAny_bind (wpAny_bind (wpAny_loadPart hx (wpAny_bind (PySem.W.Looks.here (s:={ s with toks:=s.toks+1 }) (PySem.W.looks_clsIn X hc) ?_))))))
 rw[hd']
 refine wpAny_pure (a:=some dx) (wpAny_bind (wpAny_pure (wpAny_bind ?_)))
 refine wpAny_nsSet1 (s:={ s with toks:=s.toks+1 }) I.ns fun h' hn2 hs2=>?_
 obtain⟨oD,esD,epD,hoD,hdD,hcD⟩:=hn2.count (PySem.Within.cons name v hw)
 refine wpAny_bind (wpAny_lookBehind hoD (by rw[hdD];exact pastItsLine_dict (Nat.le_trans hcD (by rw[List.length_cons];omega))) ?_)
 exact wpAny_pure (h _ ⟨(hs2.2 _ (Ne.symm I.ne)).trans I.obj,hn2,I.ne⟩ hs2)
def qW{R:Result->Shared->Prop}{vs:List Value}{kw:List (Str×Value)}(X:K.In s.heap)(hm:PySem.W.makesIn K C=true)
  (hi:PySem.W.findIn K (.ref C) "__init__" = some (some (.ref f))) (hf:PySem.W.typeIn K (.ref f)=some (.type "function"))
  (h:codeAny (model prog w) (A.under (.builtin "type.__call__" ⟨.ref C::vs,kw⟩)) (.call (.ref f) ⟨.ref (s.heap.objs.size+1)::vs,kw⟩) (PySem.W.InitBack (s.heap.objs.size+1) R)
   { s with heap:=(s.heap.push PySem.W.emptyDict).push (PySem.W.instObj C s.heap.objs.size) }) :
  codeAny (model prog w) A (.call (.ref C) ⟨vs,kw⟩) R s:=by
 obtain⟨hh,g,d,t,os⟩:=s
 exact PySem.W.make_core (PySem.W.makes_of X hm) (PySem.W.looks_findIn X hi) (fun self=>PySem.W.bind_fn X self hf) (.inl rfl) h
end
def et(f:Str)(v:V):List (Str×V)->List (Str×V)
 | []=>[(f,v)]
 |(g,x)::r=>if g=f then(g,v)::r else(g,x)::et f v r
def hV(f g:Str)(v:V):∀fs:List (Str×V),(et f v fs).lookup g=if g=f then some v else fs.lookup g
 | []=>by
  show List.lookup g [(f,v)]=_
  by_cases h:g=f
  ·have hb:(g==f)=true:=beq_iff_eq.mpr h
   simp only[List.lookup,hb,if_pos h]
  ·have hb:(g==f)=false:=beq_eq_false_iff_ne.mpr h
   simp only[List.lookup,hb,if_neg h]
 |(k,x)::r=>by
  have ih:=hV f g v r
  rw[show et f v ((k,x)::r)=(if k=f then(k,v)::r else(k,x)::et f v r)from rfl]
  by_cases hk:k=f
  ·rw[if_pos hk]
   by_cases h:g=k
   ·have hb:(g==k)=true:=beq_iff_eq.mpr h
    simp only[List.lookup,hb,if_pos (h.trans hk)]
   ·have hb:(g==k)=false:=beq_eq_false_iff_ne.mpr h
    simp only[List.lookup,hb,if_neg (fun e:g=f=>h (e.trans hk.symm))]
  ·rw[if_neg hk]
   by_cases h:g=k
   ·have hb:(g==k)=true:=beq_iff_eq.mpr h
    simp only[List.lookup,hb,if_neg (fun e:g=f=>hk (h.symm.trans e))]
   ·have hb:(g==k)=false:=beq_eq_false_iff_ne.mpr h
    simp only[List.lookup,hb]
    exact ih
def gL(f:Str)(v:V):∀fs:List (Str×V),f ∈(et f v fs).map (·.1)/\∀g,g∈fs.map (·.1)->g ∈(et f v fs).map (·.1)
 | []=>⟨by simp[et],fun g h=>by simp at h⟩
 |(k,x)::r=>by
  obtain⟨i1,i2⟩:=gL f v r
  rw[show et f v ((k,x)::r)=(if k=f then(k,v)::r else(k,x)::et f v r)from rfl]
  by_cases hk:k=f
  ·rw[if_pos hk]
   subst hk
   exact⟨by simp,fun g h=>by simpa using h⟩
  ·rw[if_neg hk]
   refine⟨?_,fun g h=>?_⟩
   ·rw[List.map_cons]
    exact List.mem_cons_of_mem _ i1
   ·rw[List.map_cons]at h ⊢
    rcases List.mem_cons.mp h with e | e
    ·exact List.mem_cons.mpr (.inl e)
    ·exact List.mem_cons_of_mem _ (i2 g e)
def h_(f:Str)(v:V):∀fs:List (Str×V),(et f v fs).length<=fs.length+1
 | []=>by simp[et]
 |(k,x)::r=>by
  have ih:=h_ f v r
  rw[show et f v ((k,x)::r)=(if k=f then(k,v)::r else(k,x)::et f v r)from rfl]
  by_cases hk:k=f
  ·rw[if_pos hk,List.length_cons,List.length_cons];omega
  ·rw[if_neg hk,List.length_cons,List.length_cons];omega
def jB.some_of{v:V}{o:Option Value}(r:jB (some v) o):∃u,o=some u/\aT v u:=by
 cases o with
 | none=>exact(show False from r).elim
 | some u=>exact⟨u,rfl,r⟩
def jB.none_of{o:Option Value}(r:jB none o):o=none:=by
 cases o with
 | none=>rfl
 | some u=>exact(show False from r).elim
def pH{v:V}{u:Value}(r:aT v u):PySem.W.handedIn u=true:=by
 cases v with
 | non=>cases(show u=Value.none from r);rfl
 | bl b=>cases(show u=Value.bool b from r);rfl
 | int i=>obtain⟨t,e⟩:=(show ∃t,u=Value.int i t from r);cases e;rfl
 | str x=>obtain⟨t,e⟩:=(show ∃t,u=Value.str x t from r);cases e;rfl
 | byt b=>obtain⟨t,e⟩:=(show ∃t,u=Value.bytes b t from r);cases e;rfl
 | flt b=>obtain⟨t,e⟩:=(show ∃t,u=Value.float b t from r);cases e;rfl
 | ref a=>cases(show u=Value.ref a from r);rfl
 | ty n=>cases(show u=Value.type n from r);rfl
section
variable{P:Program}{w:World}{H H':Hp}{h h':Heap}{a C dx:Addr}{fs fs':List (Str×V)}
def kM(hok:HOk P w H h)(e:H a=some (.ins C dx fs)):∃mA,nL h a dx C mA/\(∀f,jB (fs.lookup f) (mA f))/\PySem.Within mA (fs.map (·.1))/\fs.length<=1000/\H dx=some (.own a):=by
 obtain⟨d,z,ne,ob,mA,n,r,q⟩:=(show cb P w H h a (.ins C dx fs)from hok a _ e)
 exact⟨mA,⟨ob,n,ne⟩,r,q,z,d⟩
end
structure Cls(K:PySem.W.Frag)(C:Addr):Prop where
 pg:PySem.W.plainGet K C Str.empty=true
 hd:PySem.W.hasDictIn K C=true
 po:PySem.W.plainOver K C=true
 sa:PySem.W.findIn K (.ref C) "__setattr__" = some (some (.builtin "object.__setattr__"))
def Cls.get{K:PySem.W.Frag}{C:Addr}(c:Cls K C)(f:Str):PySem.W.plainGet K C f=true:=c.pg
def db(K:PySem.W.Frag)(C:Addr)(f:Str):Prop:=PySem.W.findIn K (.ref C) f=some none
def db.taker{K:PySem.W.Frag}{C:Addr}{f:Str}(n:db K C f):PySem.W.takerIn K C f=some none:=by
 unfold PySem.W.takerIn
 rw[show PySem.W.findIn K (.ref C) f=some none from n]
 rfl
structure vf(K:PySem.W.Frag)(C:Addr)(m:Str)(f:Addr):Prop where
 at_:PySem.W.findIn K (.ref C) m=some (some (.ref f))
 fn:PySem.W.isFn K (.ref f)=true
 kp:PySem.W.keepIn K (.ref f)=true
section
variable{X:Cx}{gV:List (Addr×Obj)}{Y:St}{H:Hp}{s:Shared}{a C dx:Addr}{fs:List (Str×V)}{f:Str}{v:V}{A:Around}{E:Value->Shared->Prop}
def nC{b:Bool}{Q:Value->Shared->Prop}(I:Inv X gV Y H s)(e:H a=some (.ins C dx fs))(c:Cls X.K C)(n:db X.K C f)(l:fs.lookup f=some v)
  (h:∀u s',Inv X gV Y H s'->aT v u->Q u s'):wpAny (model X.prog X.w) A (getAttr (.ref a) f b) Q E s:=by
 obtain⟨mA,O,r,_,_,_⟩:=kM I.hok e
 obtain⟨u,hu,ru⟩:=jB.some_of (v:=v) (o:=mA f) (by rw[<- l];exact r f)
 exact uB I.kIn O (c.get f) c.hd n hu (pH ru) (h u _ (I.tok _) ru)
def nB{m:Str}{g:Addr}{pl:Sem Bool}{Q:Value×List Value->Shared->Prop}(I:Inv X gV Y H s)(e:H a=some (.ins C dx fs))(c:Cls X.K C)(k:vf X.K C m g)(l:fs.lookup m=none)
  (h:Q (.ref g,[.ref a]) s):wpAny (model X.prog X.w) A (getMethod (.ref a) m pl) Q E s:=by
 obtain⟨mA,O,r,_,_,_⟩:=kM I.hok e
 have hn:mA m=none:=jB.none_of (by rw[<- l];exact r m)
 exact rG I.kIn O (c.get m) k.at_ k.fn hn h
def mP{y:V}{u:Value}{Q:Unit->Shared->Prop}(I:Inv X gV Y H s)(e:H a=some (.ins C dx fs))(c:Cls X.K C)(n:db X.K C f)(hl:fs.length < 1000)(ry:aT y u)
  (h:∀s',Inv X gV Y (upd H a (.ins C dx (et f y fs))) s'->Q () s'):wpAny (model X.prog X.w) A (setAttr (.ref a) f u) Q E s:=by
 obtain⟨mA,O,r,wi,_,ho⟩:=kM I.hok e
 have hz:(fs.map (·.1)).length<=sizeLine:=by rw[List.length_map,sizeLine_eq];omega
 refine sW I.kIn O c.sa c.po n.taker c.hd wi hz fun h' O' sb=>h _ ?_
 have hd:∃o,h'.get? dx=some o:=let⟨o,_,_,e',_⟩:=O'.ns;⟨o,e'⟩
 refine I.write (x:=a) (e:=dx) (by rw[e];exact True.intro) (.inr ho) (fun b q hb z=>(sb.2 b hb).trans z) hd ?_
 refine⟨by rw[ax O.ne];exact ho,?_,O.ne,O'.obj,_,O'.ns,fun g=>?_,fun g hg=>?_⟩
 ·have:=h_ f y fs;omega
 ·show jB ((et f y fs).lookup g) (if g=f then some u else mA g)
  rw[hV]
  by_cases q:g=f
  ·rw[if_pos q,if_pos q];exact ry
  ·rw[if_neg q,if_neg q];exact r g
 ·by_cases q:g=f
  ·rw[q];exact(gL f y fs).1
  ·refine(gL f y fs).2 g (wi g fun z=>hg ?_)
   show(if g=f then some u else mA g)=none
   rw[if_neg q];exact z
def Inv.made(I:Inv X gV Y H s):Inv X gV Y (upd (upd H s.heap.objs.size (.own (s.heap.objs.size+1))) (s.heap.objs.size+1) (.ins C s.heap.objs.size []))
  { s with heap:=(s.heap.push PySem.W.emptyDict).push (PySem.W.instObj C s.heap.objs.size) }:=by
 have e1:(s.heap.push PySem.W.emptyDict).get? s.heap.objs.size=some PySem.W.emptyDict:=Heap.get?_push_size s.heap rfl
 have e2:((s.heap.push PySem.W.emptyDict).push (PySem.W.instObj C s.heap.objs.size)).get? (s.heap.objs.size+1)=some (PySem.W.instObj C s.heap.objs.size):=by
  have:=Heap.get?_push_size (s.heap.push PySem.W.emptyDict) (o:=PySem.W.instObj C s.heap.objs.size) rfl
  rwa [Heap.size_push]at this
 have e3:(s.heap.push PySem.W.emptyDict).Ns s.heap.objs.size (fun _=>none):=⟨PySem.W.emptyDict,#[],_,e1,rfl,(fun e he=>absurd he (by simp)),fun _=>rfl⟩
 have I1:=I.laid (a:=s.heap.objs.size) (o:=.own (s.heap.objs.size+1)) (h':=s.heap.push PySem.W.emptyDict) (t':=s.toks) (fun b u q=>Heap.get?_push_of_some _ q) (Nat.le_refl _) ⟨_,e1⟩
 refine I1.laid (a:=s.heap.objs.size+1) (o:=.ins C s.heap.objs.size []) (t':=s.toks) (fun b u q=>Heap.get?_push_of_some _ q) (Nat.le_of_eq (Heap.size_push _ _)) ?_
 have ne:s.heap.objs.size≠s.heap.objs.size+1:=Nat.ne_of_lt (Nat.lt_succ_self _)
 refine⟨by rw[ax ne,aJ],Nat.zero_le _,ne,e2,fun _=>none,(Heap.Ns1.of_empty e3).at fun o q=>Heap.get?_push_of_some _ q,fun _=>True.intro,fun y hy=>absurd rfl hy⟩
def u_{prog:Program}{w:World}{env:Env}{e:Expr}{f:Str}{pos:Pos}{s:Shared}{Q:Value->Shared->Prop}(hb:attributeBase e f env (eval e env)=eval e env)
  (h:wpAny (model prog w) A (eval e env) (fun o s₁=>wpAny (model prog w) A (getAttr o f true) Q E s₁) E s):wpAny (model prog w) A (eval (.Attribute e f pos) env) Q E s :=
 Attribute_any_ h (by rw[arm_eval_Attribute,hb])
end
def yY(K:PySem.W.Frag)(ta:TE)(f:Str):TE:=fun Y H Q=>ta Y H fun x H1=>∃a C dx fs v,x=.ref a/\H1 a=some (.ins C dx fs)/\Cls K C/\db K C f/\fs.lookup f=some v/\Q v H1
def sFld(K:PySem.W.Frag)(ta tv:TE)(f:Str):TS:=fun D Y H=>tv Y H fun y H1=>ta Y H1 fun x H2=>∃a C dx fs,x=.ref a/\H2 a=some (.ins C dx fs)/\Cls K C/\db K C f/\fs.length < 1000 /\
 D.nx Y (upd H2 a (.ins C dx (et f y fs)))
section
variable{X:Cx}{o e value:Expr}{f:Str}{pos pos' tpos:Pos}{ta tv:TE}
def wC(he:PE X e ta)(hb:attributeBase e f X.env (eval e X.env)=eval e X.env):PE X (.Attribute e f pos) (yY X.K ta f):=by
 intro gV s Y H Q I h
 refine u_ hb (thn (he gV s Y H _ I h) fun u s1 ⟨x,H1,I1,rx,a,C,dx,fs,v,ex,ea,c,n,l,q⟩=>?_)
 subst ex
 obtain rfl:u=Value.ref a:=rx
 exact nC I1 ea c n l fun u' s2 I2 ru=>⟨v,H1,I2,ru,q⟩
def wr(ha:PE X o ta)(hv:PE X value tv)(hs:swapsWith value (some (.Attribute o f pos')) pos.line X.env=pure false):PS X (.Assign [.Attribute o f pos'] value pos) (sFld X.K ta tv f):=by
 intro gV s Y H D I h
 refine plainObj_wpAny_Assign_Attribute (thn (hv gV s Y H _ I h) fun u s1 ⟨y,H1,I1,ry,q⟩=>thn (ha gV s1 Y H1 _ I1 q) fun ov s2 ⟨x,H2,I2,rx,a,C,dx,fs,ex,ea,c,n,l,q2⟩=>?_) hs
 subst ex
 obtain rfl:ov=Value.ref a:=rx
 exact mP I2 ea c n l ry fun s3 I3=>⟨Y,_,I3,q2⟩
end
end L2
namespace L2
open PySem PySem.Spec PyProof.Rows
structure ck(k:Nat)(A:Around):Prop where
 hd:A.handled=none
 dp:A.depth+3 * k+5 < recursionLimit
 un:A.units+16 * k+200 < cLine
def ck.mono{j k:Nat}{A:Around}(r:ck k A)(h:j<=k):ck j A:=⟨r.hd,by have:=r.dp;omega,by have:=r.un;omega⟩
def ck.deeper{k:Nat}{A:Around}(r:ck (k+1) A)(env:Env):ck k (A.deeper env) :=
 ⟨r.hd,by have:=r.dp;show A.depth+1+3 * k+5 < _;omega,by have:=r.un;show A.units+3+16 * k+200 < _;omega⟩
def nq{A:Around}{C:Addr}{us:List Value}{kw:List (Str×Value)}:(A.under (.builtin "type.__call__" ⟨.ref C::us,kw⟩)).depth=A.depth+1:=by
 first | rfl | simp[Around.under,Code.weight,Code.isCreation,Code.isGuard,Code.isCaller,Code.frames,Code.isFrame,guardIds]
def ni{A:Around}{C:Addr}{us:List Value}{kw:List (Str×Value)}:(A.under (.builtin "type.__call__" ⟨.ref C::us,kw⟩)).units=A.units+1:=by
 first | rfl | simp[Around.under,Code.cUnits,Code.frames,Code.isFrame]
def ck.make{k:Nat}{A:Around}(r:ck (k+1) A)(C:Addr)(us:List Value)(kw:List (Str×Value)):ck k (A.under (.builtin "type.__call__" ⟨.ref C::us,kw⟩)) :=
 ⟨r.hd,by have:=r.dp;rw[nq];omega,by have:=r.un;rw[ni];omega⟩
def ck.depth{k:Nat}{A:Around}(r:ck k A):A.depth < recursionLimit:=by have:=r.dp;omega
def ck.units{k:Nat}{A:Around}(r:ck k A):A.units+64 < cLine:=by have:=r.un;omega
def yW:TA:=fun _ H Q=>Q [] H
def pY(ta:TE)(tr:TA):TA:=fun Y H Q=>ta Y H fun x H1=>tr Y H1 fun xs H2=>Q (x::xs) H2
section
variable{X:Cx}{e:Expr}{es:List Expr}{te:TE}{t:TA}{pos:Pos}
def iJ:PA X [] yW:=fun _ _ _ _ H Q I h=>Calls.spliced_nil ⟨[],H,I,.nil,h⟩
def dD(ha:PE X e te)(hr:PA X es t)(hs:starEach (e::es) X.env=(false,eval e X.env)::starEach es X.env:=by rfl):PA X (e::es) (pY te t):=by
 intro pos gV s Y H Q I h
 rw[hs]
 show wpAny _ _ (spliced ((false,eval e X.env)::backTo pos (starEach es X.env))) _ _ s
 refine Calls.spliced_cons (thn (ha gV s Y H _ I h) fun u s1 ⟨x,H1,I1,r1,q1⟩=>?_)
 exact thn (hr pos gV s1 Y H1 _ I1 q1) fun us s2 ⟨xs,H2,I2,r2,q2⟩=>⟨x::xs,H2,I2,.cons r1 r2,q2⟩
def AX(t:TA):TE:=fun Y H Q=>t Y H fun xs H1=>xs.length<=sizeLine/\∀p,H1 p=none->Q (.ref p) (upd H1 p (.tup xs))
def A1(t:TA):TE:=fun Y H Q=>t Y H fun xs H1=>xs.length<=sizeLine/\∀p,H1 p=none->Q (.ref p) (upd H1 p (.lst xs))
def qw{x1}(h:PA X es t):PE X (.Tuple es x1 pos) (AX t):=by
 intro gV s Y H Q I hq
 refine wpAny_Tuple_spliced (thn (h pos gV s Y H _ I hq) fun us s1 ⟨xs,H1,I1,r,z,q⟩=>⟨by rw[<- r.length];exact z,?_⟩)
 have hf:H1 s1.heap.objs.size=none:=I1.hok.fresh (Nat.le_refl _)
 refine⟨.ref s1.heap.objs.size,upd H1 s1.heap.objs.size (.tup xs),I1.laid (t':=s1.toks) (fun b u e=>Heap.get?_push_of_some _ e) (Nat.le_refl _) ?_,rfl,q _ hf⟩
 exact⟨z,us,r,⟨_,Heap.get?_push_size _ rfl,rfl,_,rfl⟩⟩
def wA(h:PA X es t):PE X (.List es pos) (A1 t):=by
 intro gV s Y H Q I hq
 refine wpAny_List_spliced (thn (h pos gV s Y H _ I hq) fun us s1 ⟨xs,H1,I1,r,z,q⟩=>⟨by rw[<- r.length];exact z,?_⟩)
 have hf:H1 s1.heap.objs.size=none:=I1.hok.fresh (Nat.le_refl _)
 refine⟨.ref s1.heap.objs.size,upd H1 s1.heap.objs.size (.lst xs),I1.laid (t':=s1.toks) (fun b u e=>Heap.get?_push_of_some _ e) (Nat.le_refl _) ?_,rfl,q _ hf⟩
 exact⟨z,us,0,r,Heap.get?_push_size _ rfl⟩
end
abbrev Sp:=List V->Hp->VK->XK->Prop
abbrev CXT:=List Env->Hp->Shared->XK->Value->Shared->Prop
structure lh(P:Program)(w:World)(K:PySem.W.Frag)(mg:Str->Option Value)(base:Heap)(A:Around)(outer:List Env)(s:Shared)(H:Hp):Prop where
 frames:A.frames=some outer
 mod:Mod K mg base
 bs:∀b o,base.get? b=some o->s.heap.get? b=some o/\H b=none
 bsz:base.objs.size<=s.heap.objs.size
 funs:s.heap.FunFrames base outer
 frf:∀b∈frs outer,H b=none
 hok:HOk P w H s.heap
 bare:AllBare s.gens
def CE(outer:List Env)(P:Program)(w:World)(H:Hp)(s:Shared)(Q:VK)(u:Value)(s':Shared):Prop :=
 ∃v H',s'.os=s.os/\AllBare s'.gens/\Un (frs outer) [] H H' s.heap s'.heap/\HOk P w H' s'.heap/\aT v u/\Q v H'
def CR(CX:CXT)(outer:List Env)(P:Program)(w:World)(H:Hp)(s:Shared)(Q:VK)(E:XK)(r:Result)(s':Shared):Prop :=
 match r with
 | .ok (.ret u)=>CE outer P w H s Q u s'
 | .ok _=>False
 | .error e=>CX outer H s E e s'
structure bX(P:Program)(w:World)(K:PySem.W.Frag)(mg:Str->Option Value)(base:Heap)(CX:CXT)(k:Nat)(f:Addr)(fd:FuncData)(ps:List Str)(sp:Sp):Prop where
 len:∀vs H Q E,sp vs H Q E->vs.length=ps.length
 run:∀(A:Around) (outer:List Env) (s:Shared) (H:Hp) (args:Args) (us:List Value) (vs:List V) (Q:VK) (E:XK),ck k A->lh P w K mg base A outer s H->BindsTo s fd args (ps.zip us)->aB vs us->sp vs H Q E ->
  codeAny (model P w) A (.call (.ref f) args) (CR CX outer P w H s Q E) s
def bX.mono{P:Program}{w:World}{K:PySem.W.Frag}{mg:Str->Option Value}{base:Heap}{CX:CXT}{j k:Nat}{f:Addr}{fd:FuncData}{ps:List Str}{sp:Sp}(F:bX P w K mg base CX j f fd ps sp)(h:j<=k) :
  bX P w K mg base CX k f fd ps sp:=⟨F.len,fun A outer s H args us vs Q E hr=>F.run A outer s H args us vs Q E (hr.mono h)⟩
def bX.imp{P:Program}{w:World}{K:PySem.W.Frag}{mg:Str->Option Value}{base:Heap}{CX:CXT}{k:Nat}{f:Addr}{fd:FuncData}{ps:List Str}{sp sp':Sp}(F:bX P w K mg base CX k f fd ps sp)
  (h:∀vs H Q E,sp' vs H Q E->sp vs H Q E):bX P w K mg base CX k f fd ps sp' :=
 ⟨fun vs H Q E q=>F.len vs H Q E (h _ _ _ _ q),fun A outer s H args us vs Q E hr he hb hv hs=>F.run A outer s H args us vs Q E hr he hb hv (h _ _ _ _ hs)⟩
def lh.make{P:Program}{w:World}{K:PySem.W.Frag}{mg:Str->Option Value}{base:Heap}{A:Around}{outer:List Env}{s:Shared}{H:Hp}(e:lh P w K mg base A outer s H)(C:Addr)(us:List Value)(kw:List (Str×Value)) :
  lh P w K mg base (A.under (.builtin "type.__call__" ⟨.ref C::us,kw⟩)) outer s H:=⟨by first | exact e.frames |(simpa[Around.under,Code.envs,Code.isFrame,pushEnvs]using e.frames),e.mod,e.bs,e.bsz,e.funs,e.frf,e.hok,e.bare⟩
section
variable{X:Cx}{gV:List (Addr×Obj)}{Y:St}{H:Hp}{s s':Shared}
def Inv.env0(I:Inv X gV Y H s):lh X.prog X.w X.K X.mg X.base X.A X.stack s H :=
 ⟨I.ok.frames,I.ok.mod,I.bs,Nat.le_trans I.ok.bsz I.sz,I.stack,I.stkFree,I.hok,I.bare⟩
def Inv.after{Q:VK}{u:Value}(I:Inv X gV Y H s)(h:CE X.stack X.prog X.w H s Q u s'):EP X gV Y Q u s':=by
 obtain⟨v,H',os,bare,un,hok,r,q⟩:=h
 obtain⟨hh,g,d,t,os'⟩:=s'
 obtain rfl:os'=s.os:=os
 exact⟨v,H',I.call (h':=hh) (g':=g) (d':=d) (t':=t) (ch:=[]) un hok bare (fun b z=>absurd z (by simp)),r,q⟩
end
def dA(K:PySem.W.Frag)(fd:FuncData)(ps:List Str)(ds:List Value):Prop :=
 ∀(s:Shared) (us:List Value),K.In s.heap->(us++ds).length=ps.length->BindsTo s fd ⟨us,[]⟩ (ps.zip (us++ds))
def dA.all{K:PySem.W.Frag}{fd:FuncData}{ps:List Str}(h:∀us:List Value,us.length=ps.length->bindArgs fd ⟨us,[]⟩=pure (ps.zip us)):dA K fd ps []:=fun s us _ hl=>by
 rw[List.append_nil]at hl ⊢
 exact .of_eq (h us hl)
section
variable{X:Cx}{CX:CXT}{k:Nat}{f C:Addr}{fd:FuncData}{ps:List Str}{sp:Sp}{dvs:List V}{ds:List Value}{E:XK}{x m:Str}{p pos apos:Pos}{e o:Expr}{es:List Expr}{ta:TE}{t:TA}
structure Mk(K:PySem.W.Frag)(C f:Addr):Prop where
 makes:PySem.W.makesIn K C=true
 init:PySem.W.findIn K (.ref C) "__init__" = some (some (.ref f))
 fn:PySem.W.isFn K (.ref f)=true
 kp:PySem.W.keepIn K (.ref C)=true
end
structure cI(N P:List Str)(sc:Scope):Prop where
 kind:sc.kind=.function
 co:sc.isCoroutine=false
 gen:sc.isGenerator=false
 nd:N.Nodup
 pre:N.take P.length=P
 par:∀x∈P,sc.names.lookup x=some .local\/sc.names.lookup x=some .cell
 nofree:∀y∈sc.names,y.2≠.free
def kc{kindOf:Str->Option NameKind}{x:Str}:∀{binds:List (Str×Value)}{m:Str->Option Value},(∀v,(x,v)∉ binds)->bindL kindOf binds m x=m x
 | [],_,_=>rfl
 |(n,v)::r,m,h=>by
  unfold bindL
  rw[kc fun w hw=>h w (List.mem_cons_of_mem _ hw)]
  split
  ·have:x≠n:=by rintro rfl;exact h v List.mem_cons_self
   simp[this]
  ·rfl
def ke{kindOf:Str->Option NameKind}{x:Str}:∀{binds:List (Str×Value)}{m:Str->Option Value},(∀v,(x,v)∉ binds)->bindC kindOf binds m x=m x
 | [],_,_=>rfl
 |(n,v)::r,m,h=>by
  unfold bindC
  rw[ke fun w hw=>h w (List.mem_cons_of_mem _ hw)]
  split
  ·rfl
  ·have:x≠n:=by rintro rfl;exact h v List.mem_cons_self
   simp[this]
def kd{kindOf:Str->Option NameKind}{x:Str}{v:Value}:∀{P:List Str}{vs:List Value}{i:Nat}{m:Str->Option Value},P.Nodup->P[i]?=some x->vs[i]?=some v->kindOf x=some .local ->
  bindL kindOf (P.zip vs) m x=some v
 | [],_,_,_,_,h,_,_ | _::_,[],_,_,_,_,h,_=>by simp at h
 | p::P,w::vs,0,m,nd,h1,h2,hk=>by
  simp at h1 h2;subst h1;subst h2
  show bindL kindOf ((p,w)::P.zip vs) m p=_
  unfold bindL
  rw[kc fun v hv=>(List.nodup_cons.mp nd).1 (List.of_mem_zip hv).1,if_pos hk]
  simp
 | p::P,w::vs,i+1,m,nd,h1,h2,hk=>by
  show bindL kindOf ((p,w)::P.zip vs) m x=_
  unfold bindL
  exact kd (i:=i) (List.nodup_cons.mp nd).2 (by simpa using h1) (by simpa using h2) hk
def kf{kindOf:Str->Option NameKind}{x:Str}{v:Value}:∀{P:List Str}{vs:List Value}{i:Nat}{m:Str->Option Value},P.Nodup->P[i]?=some x->vs[i]?=some v->kindOf x≠some .local ->
  bindC kindOf (P.zip vs) m x=some v
 | [],_,_,_,_,h,_,_ | _::_,[],_,_,_,_,h,_=>by simp at h
 | p::P,w::vs,0,m,nd,h1,h2,hk=>by
  simp at h1 h2;subst h1;subst h2
  show bindC kindOf ((p,w)::P.zip vs) m p=_
  unfold bindC
  rw[ke fun v hv=>(List.nodup_cons.mp nd).1 (List.of_mem_zip hv).1,if_neg hk]
  simp
 | p::P,w::vs,i+1,m,nd,h1,h2,hk=>by
  show bindC kindOf ((p,w)::P.zip vs) m x=_
  unfold bindC
  exact kf (i:=i) (List.nodup_cons.mp nd).2 (by simpa using h1) (by simpa using h2) hk
def start(N:List Str)(vs:List V):St:=vs.map some++List.replicate (N.length - vs.length) none
def cr(CX:CXT)(P:Program)(w:World)(K:PySem.W.Frag)(mg:Str->Option Value)(base:Heap)(N:List Str)(qual:Str)(scope:Scope)(f:Addr)(cd:Value)(A:Around)(outer:List Env)(s:Shared)(H:Hp)(E:XK):Cx where
 prog:=P
 w:=w
 K:=K
 mg:=mg
 base:=base
 A:=A.deeper (envOfC qual scope s.heap.objs.size f cd)
 N:=N
 s₀:=s
 H₀:=H
 env:=envOfC qual scope s.heap.objs.size f cd
 outer:=outer
 stack:=envOfC qual scope s.heap.objs.size f cd::outer
 ex:=[]
 calm:=true
 fn:=fun _=>true
 pn:=[]
 xe:=fun e s'=>wpAny (model P w) (A.deeper (envOfC qual scope s.heap.objs.size f cd)) (leaving (envOfC qual scope s.heap.objs.size f cd) e) (fun _ s''=>CX outer H s E e s'') (fun e' s''=>CX outer H s E e' s'') s'
def jo{sc:Scope}{n:Nat}{x:Str}(h:sc.names.lookup x=some .cell):∃c,(cellsFrom n sc.names []).lookup x=some c:=by
 have q:=PySem.W.cellsFrom_some sc.names n [] (.inl h)
 exact Option.isSome_iff_exists.mp q
def pF{CX:CXT}{P:Program}{w:World}{K:PySem.W.Frag}{mg:Str->Option Value}{base:Heap}{N ps:List Str}{qual:Str}{scope:Scope}{f:Addr}{cd:Value}{A:Around}{outer:List Env}{s s1:Shared}{H:Hp}{E:XK}{us:List Value}{vs:List V}
  (S:cI N ps scope) (hd:A.handled=none) (e0:lh P w K mg base A outer s H) (hl:vs.length=ps.length) (r:aB vs us)
  (x:InCallC s s.heap.objs.size (bindL (envOfC qual scope s.heap.objs.size f cd).kindOf (ps.zip us) fun _=>none) (cellsFrom (s.heap.objs.size+1) scope.names []) (bindC (envOfC qual scope s.heap.objs.size f cd).kindOf (ps.zip us) fun _=>none) s1) :
  Inv (cr CX P w K mg base N qual scope f cd A outer s H E) [] (start N vs) H s1:=by
 have hpl:ps.length<=N.length:=by have:=congrArg List.length S.pre;rw[List.length_take]at this;omega
 obtain⟨h1,tk,rfl,hk⟩:=x.done
 have noA:∀b:Addr,b ∉(cr CX P w K mg base N qual scope f cd A outer s H E).ex:=fun b z=>absurd (show b ∈([]:List Addr)from z) (by simp)
 refine ⟨⟨e0.mod,S.kind,rfl,rfl,Nat.le_refl _,fun y z c h1 h2=>?_,fun y hy=>?_,fun y c _ h=>?_,fun _=>hd,Around.frames_deeper e0.frames,.inr ⟨rfl,rfl⟩,fun b z=>absurd z (noA b),e0.bs,e0.bsz,fun b _ _=>noA b,fun b z=>absurd z (noA b),e0.funs,e0.frf⟩,
  rfl,e0.bare,Un.kept hk,⟨_,x.toInCall.ns,fun i y v h1 h2 h3=>?_⟩,fun y c h=>⟨_,x.cell y c h⟩,e0.hok.fresh (Nat.le_refl _),fun y c h=>?_,fun p hp=>absurd (show p ∈([]:List (Addr×Obj))from hp) (by simp),e0.hok.kept hk,?_⟩
 ·exact name_of_addr x.apart (PySem.mem_of_lookup h1) (PySem.mem_of_lookup h2)
 ·have hy:scope.names.lookup y=some .cell\/scope.names.lookup y=some .free:=hy
  rcases hy with hy | hy
  ·exact jo hy
  ·exact absurd rfl (S.nofree _ (PySem.mem_of_lookup hy))
 ·exact Nat.le_of_lt (x.above y c (PySem.mem_of_lookup h))
 ·have hi:i < vs.length:=by
   unfold start at h2
   by_cases hi:i < vs.length
   ·exact hi
   ·rw[List.getElem?_append_right (by simpa using hi)]at h2
    rw[List.getElem?_replicate]at h2
    split at h2<;>cases h2
  have ha:vs[i]?=some v:=by
   unfold start at h2
   rw[List.getElem?_append_left (by simpa using hi),List.getElem?_map]at h2
   cases e:vs[i]? with
   | none=>rw[e]at h2;cases h2
   | some a=>rw[e]at h2;cases h2;rfl
  obtain⟨u,hu,rv⟩:=r.get ha
  have hp:ps[i]?=some y:=by
   rw[<- S.pre,List.getElem?_take_of_lt (by omega)];exact h1
  have ndP:ps.Nodup:=by rw[<- S.pre];exact S.nd.sublist (List.take_sublist _ _)
  refine⟨u,rv,?_⟩
  rcases S.par y (List.mem_of_getElem? hp)with k | k
  ·exact .inl ⟨k,kd ndP hp hu k⟩
  ·obtain⟨c,e⟩:=jo (n:=s.heap.objs.size+1) k
   refine .inr ⟨.inl k,c,e,?_⟩
   have q:=x.cell y c e
   rw[kf ndP hp hu (by show scope.names.lookup y≠_;rw[k];decide)]at q
   exact q
 ·exact .inl (e0.hok.fresh (Nat.le_of_lt (x.above y c (PySem.mem_of_lookup h))))
 ·unfold start
  show _=N.length
  rw[List.length_append,List.length_map,List.length_replicate]
  omega
def Cx.low(X:Cx)(g:Str->Bool):Cx:={ X with fn:=g }
def Inv.low(I:Inv X gV Y H s)(hf:∀x,X.fn x=true)(g:Str->Bool):Inv (X.low g) gV Y H s :=
 ⟨⟨I.ok.mod,I.ok.kind,I.ok.glob,I.ok.blt,I.ok.above,I.ok.inj,I.ok.has,fun x c _ h=>I.ok.cab x c (hf x) h,I.ok.hd,I.ok.frames,I.ok.stk,I.ok.exf,I.ok.bs,I.ok.bsz,I.ok.noex,I.ok.exfs,I.ok.funs,I.ok.frf⟩,
  I.os,I.bare,I.base,I.loc,I.cell,I.free,fun x c h=>.inl ((I.freeC x c h).resolve_right fun q=>by rw[hf]at q;cases q.1),I.pin,I.hok,I.len⟩
def rH(g:Str->Bool){CX:CXT}{P:Program}{w:World}{K:PySem.W.Frag}{mg:Str->Option Value}{base:Heap}{k:Nat}{f:Addr}{name qual:Str}{params:Arguments}{body:List Stmt}{scope:Scope}{dV kV doc pm cdv ct oc:Value}{an od:Option Addr}
  {osl:Array (Option Value)}{N ps:List Str}{sp:Sp} (lk:K.lookup f=some ⟨oc,od,.func (PySem.W.fnOf name qual params body scope dV kV doc pm an cdv ct),osl⟩) (hcd:PySem.W.codeIn K cdv qual=true) (S:cI N ps scope)
  (len:∀vs H Q E,sp vs H Q E->vs.length=ps.length)
  (hbody:∀ (A:Around) (outer:List Env) (s:Shared) (H:Hp) (vs:List V) (Q:VK) (E:XK),ck k (A.deeper (envOfC qual scope s.heap.objs.size f cdv))->sp vs H Q E ->
   ∃t,PSs ((cr CX P w K mg base N qual scope f cdv A outer s H E).low g) body t/\t { nx:=fun _ H'=>Q .non H',rt:=Q } (start N vs) H) :
  bX P w K mg base CX (k+1) f (PySem.W.fnOf name qual params body scope dV kV doc pm an cdv ct) ps sp:=by
 refine⟨len,fun A outer s H args us vs Q E hr e0 hb r hsp=>?_⟩
 have hl:=len _ _ _ _ hsp
 have KX:K.In s.heap:=e0.mod.kin.keeps fun b o e=>(e0.bs b o e).1
 have lim:s.heap.NoLimit:=e0.mod.nolimit.keeps fun b o e=>(e0.bs b o e).1
 have hkind:∀y∈ps.zip us,scope.names.lookup y.1=some .local \/(scope.names.lookup y.1=some .cell/\((cellsFrom (s.heap.objs.size+1) scope.names []).lookup y.1).isSome=true):=fun⟨n,v⟩ hy=>by
  rcases S.par n (List.of_mem_zip hy).1 with q | q
  ·exact .inl q
  ·exact .inr ⟨q,PySem.W.cellsFrom_some _ _ _ (.inl q)⟩
 refine codeAny_call_function hr.depth (KX _ _ lk) rfl S.co S.gen rfl (PySem.W.codeRec_of KX hcd) (hb _ _ _ _ ?_)
 refine wpAny_newFunctionEnv_cells S.kind hkind fun env he s1 x=>?_
 subst he
 refine⟨lim.keeps x.toInCall.keep,codeAny_func ?_⟩
 obtain⟨t,ht,hq⟩:=hbody A outer s H vs Q E (hr.deeper _) hsp
 have I:Inv ((cr CX P w K mg base N qual scope f cdv A outer s H E).low g) [] (start N vs) H s1:=(pF S hr.hd e0 hl r x).low (fun _=>rfl) g
 refine wpAny_mono (ht [] s1 (start N vs) H _ I hq) (fun fl s' hs=>?_) fun e s' hs=>hs
 have fin:∀{σ':St}{H':Hp}{v:V}{u:Value},Inv ((cr CX P w K mg base N qual scope f cdv A outer s H E).low g) [] σ' H' s'->aT v u->Q v H'->CE outer P w H s Q u s' :=
  fun {σ' H' v u} J rv q=>⟨v,H',J.os,J.bare,J.base,J.hok,rv,q⟩
 cases fl with
 | ret u =>
  obtain⟨v,σ',H',J,rv,q⟩:=hs
  exact fin J rv q
 | next =>
  obtain⟨σ',H',J,q⟩:=hs
  exact fin (v:=V.non) (u:=Value.none) J rfl q
 | brk =>
  obtain⟨_,_,_,q⟩:=hs
  exact False.elim q
 | cont =>
  obtain⟨_,_,_,q⟩:=hs
  exact False.elim q
def vB{CX:CXT}{P:Program}{w:World}{K:PySem.W.Frag}{mg:Str->Option Value}{base:Heap}{k:Nat}{f:Addr}{name qual:Str}{params:Arguments}{body:List Stmt}{scope:Scope}{dV kV doc pm cdv ct oc:Value}{an od:Option Addr}
  {osl:Array (Option Value)}{N ps:List Str}{sp:Sp} (lk:K.lookup f=some ⟨oc,od,.func (PySem.W.fnOf name qual params body scope dV kV doc pm an cdv ct),osl⟩) (hcd:PySem.W.codeIn K cdv qual=true) (S:cI N ps scope)
  (len:∀vs H Q E,sp vs H Q E->vs.length=ps.length)
  (hbody:∀ (A:Around) (outer:List Env) (s:Shared) (H:Hp) (vs:List V) (Q:VK) (E:XK),ck k (A.deeper (envOfC qual scope s.heap.objs.size f cdv))->sp vs H Q E ->
   ∃t,PSs (cr CX P w K mg base N qual scope f cdv A outer s H E) body t/\t { nx:=fun _ H'=>Q .non H',rt:=Q } (start N vs) H) :
  bX P w K mg base CX (k+1) f (PySem.W.fnOf name qual params body scope dV kV doc pm an cdv ct) ps sp:=rH (fun _=>true) lk hcd S len hbody
end L2
namespace L2
open PySem PySem.Spec PyProof.Rows
section
variable{X:Cx}{x:Str}{p pos:Pos}{e:Expr}{es:List Expr}{t:TA}{id T:String}{r:List V->Hp->VK->Prop}
def tCB(r:List V->Hp->VK->Prop)(t:TA):TE:=fun Y H Q=>t Y H fun vs H1=>r vs H1 Q
def iI(hc:dz X (.builtin id) r)(hg:Gl X x)(hm:X.mg x=none)(hv:bootBuiltins x=some (.builtin id))(ha:PA X (e::es) t)(hn:x≠"__name__" := by decide)(hdb:(x ==("__debug__" : Str))=false:=by decide)
  (he:starEach (e::es) X.env=(false,eval e X.env)::starEach es X.env:=by rfl) (hpl:(backTo pos (starEach es X.env)).any (·.1)=false:=by rfl):PE X (.Call (.Name x p) (e::es) [] pos) (tCB r t):=by
 intro gV s Y H Q I h
 refine wpAny_Call_Name_kw (iZ I hg hm hv ?_ hn hdb)
 exact PyProof.Rows.callWith_builtin1 (thn (ha pos gV s Y H _ I h) fun us s1 ⟨vs,H1,I1,r1,q1⟩=>hc gV s1 Y H1 vs us Q I1 r1 q1) he hpl
def jR(hc:dz X (.type T) r)(hg:Gl X x)(hm:X.mg x=none)(hv:bootBuiltins x=some (.type T))(ha:PA X (e::es) t)(hn:x≠"__name__" := by decide)(hdb:(x ==("__debug__" : Str))=false:=by decide)
  (he:starEach (e::es) X.env=(false,eval e X.env)::starEach es X.env:=by rfl) (hpl:(backTo pos (starEach es X.env)).any (·.1)=false:=by rfl):PE X (.Call (.Name x p) (e::es) [] pos) (tCB r t):=by
 intro gV s Y H Q I h
 refine wpAny_Call_Name_kw (iZ I hg hm hv ?_ hn hdb)
 exact PyProof.Rows.callWith_type1 (thn (ha pos gV s Y H _ I h) fun us s1 ⟨vs,H1,I1,r1,q1⟩=>hc gV s1 Y H1 vs us Q I1 r1 q1) he hpl
end
end L2
namespace HT
open PySem PyProof.Rows
section
variable{prog:Program}{w:World}{A:Around}{E:Value->Shared->Prop}{s:Shared}
def sIx(n d:Nat):Option Int->Nat
 | none=>d
 | some v=>if v < 0 then(v+(n:Int)).toNat else min v.toNat n
def sIx_none(n d:Nat):sIx n d none=d:=rfl
def sIx_nat(n d k:Nat):sIx n d (some (k:Int))=min k n:=by
 show(if(k:Int) < 0 then((k:Int)+(n:Int)).toNat else min (k:Int).toNat n)=min k n
 rw[if_neg (by omega),Int.toNat_natCast]
end
end HT
namespace L2
open PySem PySem.Spec PyProof.Rows
abbrev TO:=St->Hp->(Option Int->Hp->Prop)->Prop
def PO(X:Cx)(e:Option Expr)(t:TO):Prop :=
 ∀(gV:List (Addr×Obj)) (s:Shared) (Y:St) (H:Hp) (Q:Option Int->Hp->Prop),Inv X gV Y H s->t Y H Q ->
  wpAny (model X.prog X.w) X.A (evalPart e X.env) (fun u s'=>∃o H',Inv X gV Y H' s'/\IsPart u o/\Q o H') X.xe s
def sM:TO:=fun _ H Q=>Q none H
def yU(t:TE):TO:=fun Y H Q=>t Y H fun x H1=>∃i,x=.int i/\Q (some i) H1
section
variable{X:Cx}{e:Expr}{te:TE}{lo hi:Option Expr}{tl th:TO}{pos p2:Pos}
def tY:PO X none sM:=by
 intro gV s Y H Q I h
 rw[evalPart_none]
 exact wpAny_pure ⟨none,H,I,.none,h⟩
def tX(h:PE X e te):PO X (some e) (yU te):=by
 intro gV s Y H Q I hw
 rw[evalPart_some]
 refine thn (h gV s Y H _ I hw) fun u s1 ⟨x,H1,I1,r1,q1⟩=>?_
 obtain⟨i,rfl,q⟩:=q1
 obtain⟨t,rfl⟩:=r1
 exact⟨some i,H1,I1,.int i t,q⟩
def SlR(X:Cx)(r:V->Option Int->Option Int->Hp->VK->Prop):Prop :=
 ∀(gV:List (Addr×Obj)) (s:Shared) (Y:St) (H:Hp) (x:V) (v vl vu:Value) (lo hi:Option Int) (sl:Addr) (Q:VK),Inv X gV Y H s->aT x v->s.heap.IsSliceOf sl vl vu .none->IsPart vl lo->IsPart vu hi->r x lo hi H Q ->
  ∃T id,typeLookup (.type T) "__getitem__" = pure (some (.builtin id))/\s.TypeIs v T/\wpAny (model X.prog X.w) X.A (getItem v (.ref sl)) (EP X gV Y Q) X.xe s
def tSl(r:V->Option Int->Option Int->Hp->VK->Prop)(te:TE)(tl th:TO):TE:=fun Y H Q=>te Y H fun x H1=>tl Y H1 fun l H2=>th Y H2 fun u H3=>r x l u H3 Q
def qx{r:V->Option Int->Option Int->Hp->VK->Prop}(hr:SlR X r)(he:PE X e te)(hl:PO X lo tl)(hu:PO X hi th):PE X (.Subscript e (.Slice lo hi none p2) pos) (tSl r te tl th):=by
 intro gV s Y H Q I h
 refine Subscript_ (thn (he gV s Y H _ I h) fun v s1 ⟨x,H1,I1,r1,q1⟩=>?_)
 refine wpAny_Slice (thn (hl gV s1 Y H1 _ I1 q1) fun vl s2 ⟨l,H2,I2,pl,q2⟩=>thn (hu gV s2 Y H2 _ I2 q2) fun vu s3 ⟨u,H3,I3,pu,q3⟩=>?_)
 rw[evalPart_none]
 refine wpAny_pure ?_
 have I4:Inv X gV Y H3 { s3 with heap:=s3.heap.push { cls:=.type "slice", data:=.fields #[vl,vu,.none] } }:=I3.kept (t':=s3.toks) fun b ob q=>Heap.get?_push_of_some _ q
 obtain⟨T,id,hT,ht,hg⟩:=hr gV { s3 with heap:=s3.heap.push { cls:=.type "slice", data:=.fields #[vl,vu,.none] } } Y H3 x v vl vu l u s3.heap.objs.size Q I4 r1 (Heap.IsSliceOf.new ..) pl pu q3
 show wpAny (model X.prog X.w) X.A (subscriptTail e (.Slice lo hi none p2) v (.ref s3.heap.objs.size)) (EP X gV Y Q) X.xe { s3 with heap:=s3.heap.push { cls:=.type "slice", data:=.fields #[vl,vu,.none] } }
 exact tail_any (ops:=[.ref s3.heap.objs.size,v]) ht hT hg (by with_unfolding_all rfl)
def rY(xs:List V)(lo hi:Option Int):List V:=(xs.drop (HT.sIx xs.length 0 lo)).take (HT.sIx xs.length xs.length hi - HT.sIx xs.length 0 lo)
def l0(xs:List V)(lo hi:Option Int):(rY xs lo hi).length<=xs.length:=by
 unfold rY
 rw[List.length_take,List.length_drop]
 omega
end
end L2
namespace L2
open PySem PySem.Spec PyProof.Rows
def ixN(n:Nat)(i:Int):Option Nat:=if 0<=i then(if i < n then some i.toNat else none)else if -(n:Int)<= i then some (i+n).toNat else none
def atI{α:Type}(xs:List α)(i:Int):Option α:=(ixN xs.length i).bind fun j=>xs[j]?
def oj{n:Nat}{i:Int}{j:Nat}(h:ixN n i=some j):seqIndex? i n=some j/\j < n/\-(n:Int)<= i/\i < n:=by
 unfold ixN at h
 by_cases h0:0<=i
 ·rw[if_pos h0]at h
  by_cases h1:i < n
  ·rw[if_pos h1]at h
   have e:i.toNat=j:=Option.some.inj h
   exact⟨by rw[seqIndex_of h0 h1,e],by omega,by omega,h1⟩
  ·rw[if_neg h1]at h;cases h
 ·rw[if_neg h0]at h
  by_cases h1:-(n:Int)<= i
  ·rw[if_pos h1]at h
   have e:(i+n).toNat=j:=Option.some.inj h
   exact⟨by rw[seqIndex_neg (by omega) h1,e],by omega,h1,by omega⟩
  ·rw[if_neg h1]at h;cases h
def k_{α:Type}{xs:List α}{i:Int}{v:α}(h:atI xs i=some v):∃j,seqIndex? i xs.length=some j/\xs[j]?=some v/\j < xs.length/\-(xs.length:Int)<= i/\i < xs.length:=by
 unfold atI at h
 cases e:ixN xs.length i with
 | none=>rw[e]at h;cases h
 | some j =>
  rw[e]at h
  obtain⟨h1,h2,h3,h4⟩:=oj e
  exact⟨j,h1,h,h2,h3,h4⟩
def ir(b:Expr):Prop:=∀o i,subscripted b false o i=operate [o,i] (getItem o i)
def IxR(X:Cx)(r:R2):Prop :=
 ∀(value slice:Expr) (gV:List (Addr×Obj)) (s:Shared) (Y:St) (H:Hp) (x y:V) (v u:Value) (Q:VK),Inv X gV Y H s->aT x v->aT y u->r x y H Q ->
  subscripted slice false v u=operate [v,u] (getItem v u)->wpAny (model X.prog X.w) X.A (subscriptTail value slice v u) (EP X gV Y Q) X.xe s
def MtR(X:Cx)(id:String)(r:V->List V->Hp->VK->Prop):Prop :=
 ∀(gV:List (Addr×Obj)) (s:Shared) (Y:St) (H:Hp) (x:V) (xs:List V) (v:Value) (us:List Value) (Q:VK),Inv X gV Y H s->aT x v->aB xs us->r x xs H Q ->
  wpAny (model X.prog X.w) X.A (call (.builtin id) (v::us)) (EP X gV Y Q) X.xe s
section
variable{X:Cx}{a b:Expr}{ta tb:TE}{pos:Pos}
def IxR.or{r r':R2}(h:IxR X r)(h':IxR X r'):IxR X (fun x y H Q=>r x y H Q\/r' x y H Q):=by
 intro value slice gV s Y H x y v u Q I rx ry q hs
 rcases q with q | q
 ·exact h value slice gV s Y H x y v u Q I rx ry q hs
 ·exact h' value slice gV s Y H x y v u Q I rx ry q hs
def zo{r:R2}(hr:IxR X r)(ha:PE X a ta)(hb:PE X b tb)(hs:ir b):PE X (.Subscript a b pos) (tOp r ta tb):=by
 intro gV s Y H Q I h
 exact Subscript_ (xL ha hb I h fun v u s2 x y H2 I2 rx ry q=>hr a b gV s2 Y H2 x y v u Q I2 rx ry q (hs _ _))
def wj(K:PySem.W.Frag):R2:=fun x y H Q=>∃p xs i v,x=.ref p/\y=.int i/\SqL K H p xs/\atI xs i=some v/\Q v H
def wf(K:PySem.W.Frag):R2:=fun x y H Q=>∃p xs i v,x=.ref p/\y=.int i/\SqT K H p xs/\atI xs i=some v/\Q v H
def wg:R2:=fun x y H Q=>∃z i c,x=.str z/\y=.int i/\z.length<=sizeLine/\atI z.cps.toList i=some c/\Q (.str ⟨#[c]⟩) H
def uw:IxR X (wj X.K):=by
 intro value slice gV s Y H x y v u Q I rx ry h hs
 obtain⟨p,xs,i,z,rfl,rfl,hq,he,q⟩:=h
 cases rx
 obtain⟨t,rfl⟩:=ry
 obtain⟨its,r,pl,hz⟩:=I.list hq
 obtain⟨j,h1,h2,h3,h4,h5⟩:=k_ he
 obtain⟨w,ew,rw'⟩:=r.get h2
 have hl:=r.length
 have hn:=gK
 have fin:EP X gV Y Q w s:=⟨z,H,I,rw',q⟩
 by_cases h0:0<=i
 ·have hj:i.toNat=j:=by
   rw[seqIndex_of h0 h5]at h1
   exact Option.some.inj h1
  exact item_listR pl.isList h0 (by omega) (by rw[hj];simpa using ew) fin hs
 ·have hj:(i+(its.toArray.size:Int)).toNat=j:=by
   rw[seqIndex_neg (by omega) h4]at h1
   rw[List.size_toArray,<- hl]
   exact Option.some.inj h1
  exact subscriptTail_builtinR (x:=w) pl.isList.typeIs slot_list_getitem.lookup
   (wpAny_getItem_list_neg (Q:=fun r s'=>r=w/\EP X gV Y Q r s') pl.isList (by omega) (by rw[List.size_toArray]<;>omega) (by omega) (by rw[hj];simpa using ew) ⟨rfl,fin⟩) hs
def w8:IxR X (wf X.K):=by
 intro value slice gV s Y H x y v u Q I rx ry h hs
 obtain⟨p,xs,i,z,rfl,rfl,hq,he,q⟩:=h
 cases rx
 obtain⟨t,rfl⟩:=ry
 obtain⟨its,r,pl,hz⟩:=I.tuple hq
 obtain⟨j,h1,h2,h3,h4,h5⟩:=k_ he
 obtain⟨w,ew,rw'⟩:=r.get h2
 have hl:=r.length
 have hn:=gK
 have fin:EP X gV Y Q w s:=⟨z,H,I,rw',q⟩
 exact subscriptTail_builtinR (x:=w) pl.typeIs slot_tuple_getitem.lookup
  (getItem_tuple (j:=j) (Q:=fun r s'=>r=w/\EP X gV Y Q r s') pl (by omega) (by omega) (by rw[List.size_toArray,<- hl];exact h1) (by simpa using ew) ⟨rfl,fin⟩) hs
def w9:IxR X wg:=by
 intro value slice gV s Y H x y v u Q I rx ry h hs
 obtain⟨z,i,c,rfl,rfl,hz,he,q⟩:=h
 obtain⟨t,rfl⟩:=rx
 obtain⟨t',rfl⟩:=ry
 obtain⟨j,h1,h2,h3,h4,h5⟩:=k_ he
 have hl:z.cps.toList.length=z.length:=by simp[Str.length]
 rw[hl]at h1 h4 h5
 have hn:=gK
 exact tail_any (typeIs_str s z t) slot_str_getitem.lookup (getItem_str (c:=c) (by
  have e1:decide (i < -(2 ^ 63:Int))=false:=decide_eq_false (by omega)
  have e2:decide (i >= 2 ^ 63)=false:=decide_eq_false (by omega)
  rw[e1,e2,Bool.or_false]) (by rw[h1];simpa using h2) ⟨.str ⟨#[c]⟩,H,I.tok _,⟨_,rfl⟩,q⟩) hs
def rIx(K:PySem.W.Frag):R2:=fun x y H Q=>wj K x y H Q\/wf K x y H Q\/wg x y H Q
def w_:IxR X (rIx X.K):=uw.or (w8.or w9)
def nh(its:List Value)(n j:Nat)(u:Value):Obj.mapSeq (·.setIfInBounds j u) { cls:=.type "list", data:=.seq its.toArray n }={ cls:=.type "list", data:=.seq (its.set j u).toArray n }:=by
 simp[Obj.mapSeq]
def Inv.lst{gV:List (Addr×Obj)}{Y:St}{H:Hp}{s:Shared}{p:Addr}{xs:List V}(I:Inv X gV Y H s)(h:H p=some (.lst xs)) :
  ∃(its:List Value) (n:Nat),aB xs its/\s.heap.get? p=some { cls:=.type "list", data:=.seq its.toArray n }/\xs.length<=sizeLine:=by
 obtain⟨z,its,n,r,e⟩:=I.hok p _ h
 exact⟨its,n,r,e,z⟩
def Inv.lstUpd{gV:List (Addr×Obj)}{Y:St}{H:Hp}{s:Shared}{p:Addr}{xs ys:List V}{its its':List Value}{n n':Nat}{f:Obj->Obj}(I:Inv X gV Y H s)(h:H p=some (.lst xs))
  (ho:s.heap.get? p=some { cls:=.type "list", data:=.seq its.toArray n }) (hf:f { cls:=.type "list", data:=.seq its.toArray n }={ cls:=.type "list", data:=.seq its'.toArray n' }) (r:aB ys its') (hz:ys.length<=sizeLine) (t:Nat) :
  Inv X gV Y (upd H p (.lst ys)) { s with heap:=s.heap.update p f,toks:=t }:=by
 have e:(s.heap.update p f).get? p=some { cls:=.type "list", data:=.seq its'.toArray n' }:=by
  rw[Heap.get?_update_self f ho (by rw[hf]<;>rfl),hf]
 refine I.write (x:=p) (e:=p) (by rw[h];trivial) (.inl rfl) (fun b u hb q=>(Heap.get?_update_other _ _ (Ne.symm hb)).trans q) ⟨_,e⟩ ?_
 exact⟨hz,its',n',r,e⟩
def zc:V->V->V->Hp->(Hp->Prop)->Prop:=fun o i v H Q=>∃p xs k j,o=.ref p/\i=.int k/\H p=some (.lst xs)/\ixN xs.length k=some j/\Q (upd H p (.lst (xs.set j v)))
def qa:As X zc:=by
 intro gV s Y H o i v ov iv u Q I ro ri rv h
 obtain⟨p,xs,k,j,rfl,rfl,hp,hj,q⟩:=h
 cases ro
 obtain⟨t,rfl⟩:=ri
 obtain⟨its,n,r,ho,hz⟩:=I.lst hp
 obtain⟨h1,h2,h3,h4⟩:=oj hj
 have hl:=r.length
 have hn:=gK
 have I':Inv X gV Y (upd H p (.lst (xs.set j v))) { s with heap:=s.heap.update p (Obj.mapSeq (·.setIfInBounds j u)) } :=
  I.lstUpd hp ho (nh its n j u) (r.set rv j) (by rw[List.length_set];exact hz) s.toks
 by_cases h0:0<=k
 ·have hk:k.toNat=j:=by
   rw[seqIndex_of h0 h4]at h1
   exact Option.some.inj h1
  exact PySem.W.ki_setAt ho h0 (by omega) (by rw[List.size_toArray,<- hl];exact h4) (by rw[hk];exact⟨_,I',q⟩)
 ·have hk:(k+(its.toArray.size:Int)).toNat=j:=by
   rw[seqIndex_neg (by omega) h3]at h1
   rw[List.size_toArray,<- hl]
   exact Option.some.inj h1
  exact PySem.W.ki_setBack ho (by omega) (by rw[List.size_toArray,<- hl];exact h3) (by omega) (by rw[hk];exact⟨_,I',q⟩)
def kr(lo hi:Option Int)(n:Nat):(sliceBounds lo hi none n).1=((HT.sIx n 0 lo:Nat):Int)/\(sliceBounds lo hi none n).2.1=((HT.sIx n n hi:Nat):Int)/\(sliceBounds lo hi none n).2.2=1:=by
 refine⟨?_,?_,rfl⟩
 ·cases lo with
  | none=>simp[sliceBounds,HT.sIx]
  | some i =>
   simp only[sliceBounds,HT.sIx,Option.getD_none,show(1:Int) > 0 by decide,if_true]
   by_cases h:i < 0
   ·simp only[h,if_true]<;>omega
   ·simp only[h,if_false]<;>omega
 ·cases hi with
  | none=>simp[sliceBounds,HT.sIx]
  | some i =>
   simp only[sliceBounds,HT.sIx,Option.getD_none,show(1:Int) > 0 by decide,if_true]
   by_cases h:i < 0
   ·simp only[h,if_true]<;>omega
   ·simp only[h,if_false]<;>omega
def jt(its:List Value)(lo hi:Option Int):slicePick its.toArray lo hi none=((its.drop (HT.sIx its.length 0 lo)).take (HT.sIx its.length its.length hi - HT.sIx its.length 0 lo)).toArray:=by
 obtain⟨h1,h2,h3⟩:=kr lo hi its.toArray.size
 unfold slicePick
 rw[h1,h2,h3]
 simp only[sliceRange_one,pick_run,List.size_toArray]<;>rfl
def A6(K:PySem.W.Frag):V->Option Int->Option Int->Hp->VK->Prop:=fun x lo hi H Q=>∃a xs,x=.ref a/\SqL K H a xs/\∀p,H p=none->Q (.ref p) (upd H p (.lst (rY xs lo hi)))
def sR:SlR X (A6 X.K):=by
 intro gV s Y H x v vl vu lo hi sl Q I rx hs pl pu h
 obtain⟨a,xs,rfl,hx,q⟩:=h
 cases rx
 obtain⟨its,r,ht,hz⟩:=I.list hx
 have hlen:=r.length
 refine⟨"list", _,slot_list_getitem.lookup,ht.isList.typeIs,?_⟩
 refine wpAny_getItem_list_slice ht.isList hs pl pu .none (by simp) ?_ (by rw[List.size_toArray]<;>omega)
 rw[jt,<- hlen]
 refine⟨.ref s.heap.objs.size,_,I.laid (t':=s.toks) (o:=.lst (rY xs lo hi)) (fun b ob q=>Heap.get?_push_of_some _ q) (Nat.le_refl _) ?_,rfl,q _ (I.hok.fresh (Nat.le_refl _))⟩
 exact⟨Nat.le_trans (l0 xs lo hi) hz,_,0,(r.drop (HT.sIx xs.length 0 lo)).take (HT.sIx xs.length xs.length hi - HT.sIx xs.length 0 lo),Heap.get?_push_size _ rfl⟩
def k6:dz X (.builtin "len") (fun xs H Q=>∃p ys,xs=[.ref p]/\(SqL X.K H p ys\/SqT X.K H p ys)/\Q (.int ys.length) H):=by
 intro gV s Y H xs us Q I r h
 obtain⟨p,ys,rfl,hq,q⟩:=h
 obtain⟨u,rfl,rx⟩:=eK r
 cases rx
 have hn:=gK
 rcases hq with hq | hq
 ·obtain⟨its,r',pl,hz⟩:=I.list hq
  have hlen:=r'.length
  exact Calls.call_len_list pl.isList (by simp only[List.size_toArray]<;>omega) ⟨.int ys.length,H,I.tok _,⟨s.toks+1,by rw[List.size_toArray,hlen]⟩,q⟩
 ·obtain⟨its,r',pl,hz⟩:=I.tuple hq
  have hlen:=r'.length
  exact len_tuple pl (by simp only[List.size_toArray]<;>omega) ⟨.int ys.length,H,I.tok _,⟨s.toks+1,by rw[List.size_toArray,hlen]⟩,q⟩
def kZ:dz X (.type "list") (fun xs H Q=>∃p ys,xs=[.ref p]/\(SqL X.K H p ys\/SqT X.K H p ys)/\∀l,H l=none->Q (.ref l) (upd H l (.lst ys))):=by
 intro gV s Y H xs us Q I r h
 obtain⟨p,ys,rfl,hq,q⟩:=h
 obtain⟨u,rfl,rx⟩:=eK r
 cases rx
 have fin:∀(its:List Value),aB ys its->ys.length<=sizeLine->∀(h':Heap) (c':Nat),(∀b o',s.heap.get? b=some o'->h'.get? b=some o')->
   h'.get? s.heap.objs.size=some { cls:=.type "list", dict:=none,data:=.seq its.toArray c',slots:=#[] }->EP X gV Y Q (.ref s.heap.objs.size) { s with heap:=h' }:=fun its r' hz h' c' kp e =>
  ⟨.ref s.heap.objs.size,_,I.laid (t':=s.toks) kp (Nat.le_refl _) (show cb X.prog X.w _ h' _ (.lst ys)from⟨hz,its,c',r',e⟩),rfl,q _ (I.hok.fresh (Nat.le_refl _))⟩
 rcases hq with hq | hq
 ·obtain⟨its,r',pl,hz⟩:=I.list hq
  have hlen:=r'.length
  obtain⟨o,ho,hc,n,hd⟩:=pl.isList
  exact call_list_seq p (.inl rfl) ho hc hd (fun h' c' kp e=>fin its r' hz h' c' kp e) (by simp only[List.size_toArray]<;>omega)
 ·obtain⟨its,r',pl,hz⟩:=I.tuple hq
  have hlen:=r'.length
  obtain⟨o,ho,hc,n,hd⟩:=pl
  exact call_list_seq p (.inr rfl) ho hc hd (fun h' c' kp e=>fin its r' hz h' c' kp e) (by simp only[List.size_toArray]<;>omega)
def jx:dz X (.type "tuple") (fun xs H Q=>∃p ys,xs=[.ref p]/\((SqL X.K H p ys/\∀l,H l=none->Q (.ref l) (upd H l (.tup ys)))\/(SqT X.K H p ys/\Q (.ref p) H))):=by
 intro gV s Y H xs us Q I r h
 obtain⟨p,ys,rfl,h⟩:=h
 obtain⟨u,rfl,rx⟩:=eK r
 cases rx
 rcases h with⟨hq,q⟩ |⟨hq,q⟩
 ·obtain⟨its,r',pl,hz⟩:=I.list hq
  have hlen:=r'.length
  refine call_tuple_list pl.isList (fun h' kp=>?_) (by simp only[List.size_toArray]<;>omega)
  have I1:Inv X gV Y H { s with heap:=h' }:=I.kept (t':=s.toks) kp
  have I2:Inv X gV Y (upd H h'.objs.size (.tup ys)) { s with heap:=h'.push { cls:=.type "tuple", data:=.seq its.toArray } } :=
   I1.laid (t':=s.toks) (fun b o e=>Heap.get?_push_of_some _ e) (Nat.le_refl _) (show cb X.prog X.w _ _ _ (.tup ys)from⟨hz,its,r',IsTup.new _ _⟩)
  exact⟨.ref h'.objs.size,_,I2,rfl,q _ (I1.hok.fresh (Nat.le_refl _))⟩
 ·obtain⟨its,r',pl,hz⟩:=I.tuple hq
  exact call_tuple_same pl ⟨.ref p,H,I,rfl,q⟩
def tyV(K:PySem.W.Frag)(T:String)(x:V)(H:Hp):Prop:=match x with
 | .str _=>T = "str"
 | .int _=>T = "int"
 | .ref p=>(T = "list" /\ ∃xs,SqL K H p xs)\/(T = "tuple" /\ ∃o,K.lookup p=some o/\o.cls=.type "tuple" /\ o.dict=none)\/
   (T = "dict" /\((∃kvs,H p=some (.dK kvs))\/ ∃kvs,H p=some (.dT kvs)))\/(T = "set" /\ ∃S n,H p=some (.set S n))
 | _=>False
def vN{gV:List (Addr×Obj)}{Y:St}{H:Hp}{s:Shared}{T:String}{x:V}{v:Value}(I:Inv X gV Y H s)(r:aT x v)(ty:tyV X.K T x H) :
  s.TypeIs v T/\∀a,v=.ref a->∃ob,s.heap.get? a=some ob/\ob.dict=none:=by
 cases x with
 | str z =>
  obtain⟨t,rfl⟩:=r
  cases(show T = "str" from ty)
  exact⟨typeIs_str s z t,fun _ e=>nomatch e⟩
 | int i =>
  obtain⟨t,rfl⟩:=r
  cases(show T = "int" from ty)
  exact⟨typeIs_int s i t,fun _ e=>nomatch e⟩
 | ref p =>
  cases r
  rcases ty with⟨rfl,xs,hq⟩ |⟨rfl,o,hk,hc,hd⟩ |⟨rfl,hk⟩ |⟨rfl,S,n,hk⟩
  ·obtain⟨its,_,pl,_⟩:=I.list hq
   refine⟨pl.isList.typeIs,fun a e=>?_⟩
   cases e
   obtain⟨o,n,e,c,hd,_⟩:=pl
   exact⟨o,e,hd⟩
  ·refine⟨⟨o,I.kIn p o hk,hc⟩,fun a e=>?_⟩
   cases e
   exact⟨o,I.kIn _ o hk,hd⟩
  ·have z:∃o,s.heap.get? p=some o/\o.ExactDict:=by
    rcases hk with⟨kvs,hk⟩ |⟨kvs,hk⟩
    ·obtain⟨_,_,_,_,o,_,_,e,ex,_⟩:=I.hok p _ hk
     exact⟨o,e,ex⟩
    ·obtain⟨_,_,_,_,o,_,_,e,ex,_⟩:=I.hok p _ hk
     exact⟨o,e,ex⟩
   obtain⟨o,e,ex⟩:=z
   refine⟨⟨o,e,ex.1⟩,fun a e2=>?_⟩
   cases e2
   exact⟨o,e,ex.2.1⟩
  ·obtain⟨o,_,_,_,e,ex,_⟩:=I.hok p _ hk
   refine⟨⟨o,e,ex.1⟩,fun a e2=>?_⟩
   cases e2
   exact⟨o,e,ex.2.1⟩
 | _=>exact False.elim ty
def tBM(K:PySem.W.Frag)(T:String)(r:V->List V->Hp->VK->Prop)(to:TE)(t:TA):TE:=fun Y H Q=>to Y H fun x H1=>tyV K T x H1/\t Y H1 fun xs H2=>r x xs H2 Q
variable{o e:Expr}{es:List Expr}{to:TE}{t:TA}{name:Str}{apos cpos:Pos}{T id:String}{r:V->List V->Hp->VK->Prop}
def qz(pa:PlainAttrs T)(slot:Slot T name id)(hty:typeOf (.builtin id)=pure (.type "method_descriptor"))(hm:MtR X id r)(ho:PE X o to)(ha:PA X (e::es) t)
  (hbase:attributeBase o name X.env (eval o X.env)=eval o X.env:=by rfl)
  (hfew:((backTo cpos (starEach (e::es) X.env)).all (fun x=>!x.1) && (backToKw cpos (keywordEach [] X.env)).all (fun x=>x.1.isSome)
   && decide ((e::es).length+([]:List Keyword).length+(if([]:List Keyword).isEmpty then 0 else 1) < 30))=true:=by rfl)
  (hline:(apos.endLine==cpos.line)=true:=by rfl) (hs:starEach (e::es) X.env=(false,eval e X.env)::starEach es X.env:=by rfl) (hplain:(backTo cpos (starEach es X.env)).any (·.1)=false:=by rfl) :
  PE X (.Call (.Attribute o name apos) (e::es) [] cpos) (tBM X.K T r to t):=by
 intro gV s Y H Q I h
 refine wpAny_Call_method_late hbase hfew hline rfl (thn (ho gV s Y H _ I h) fun v s1 ⟨x,H1,I1,r1,ty,q1⟩=>?_)
 obtain⟨h1,h2⟩:=vN I1 r1 ty
 refine⟨T,id,pa,slot,hty,h1,h2,?_⟩
 have hA:=ha cpos gV s1 Y H1 _ I1 q1
 rw[hs]at hA ⊢
 refine Calls.callWith_builtin (by show(false ||(backTo cpos (starEach es X.env)).any (·.1))=false;rw[hplain]<;>rfl) (Calls.evalArgs_plain ?_)
 exact thn hA fun us s2 ⟨vs,H2,I2,r2,q2⟩=>hm gV s2 Y H2 x vs v us Q I2 r1 r2 q2
end
end L2
namespace L2
open PySem PySem.Spec PyProof.Rows
def MtM(X:Cx)(id:String)(r:V->List V->Hp->VK->Prop):Prop :=
 ∀(gV:List (Addr×Obj)) (s:Shared) (Y:St) (H:Hp) (x:V) (xs:List V) (v:Value) (us:List Value) (Q:VK),Inv X gV Y H s->aT x v->aB xs us->r x xs H Q ->
  wpAny (model X.prog X.w) X.A (call (.builtin id) (v::us)) (EP X gV Y Q) X.xe s
def aB.one:∀{x:V}{us:List Value},aB [x] us->∃u,us=[u]/\aT x u
 | _,_,.cons r .nil=>⟨_,rfl,r⟩
def aB.eraseIdx:∀{xs:List V}{us:List Value} (i:Nat),aB xs us->aB (xs.eraseIdx i) (us.eraseIdx i)
 | _,_,_,.nil=>.nil
 | _,_,0,.cons _ t=>t
 | _,_,i+1,.cons r t=>.cons r (aB.eraseIdx i t)
def aB.rep{xs:List V}{us:List Value}(h:aB xs us):∀k:Nat,aB (List.replicate k xs).flatten (List.replicate k us).flatten
 | 0=>.nil
 | k+1=>by
  rw[List.replicate_succ,List.replicate_succ,List.flatten_cons,List.flatten_cons]
  exact aB.append h (aB.rep h k)
def jZ{α:Type}:∀(l:List α) (i:Nat),(l.eraseIdx i).length<=l.length
 | [],_=>Nat.le_refl _
 | _::_,0=>Nat.le_succ _
 | _::r,i+1=>Nat.succ_le_succ (jZ r i)
def j5(its:List Value):∀(k:Nat) (acc:List Value),
  List.foldl (fun x1 x2=>x1++x2) acc.toArray (List.replicate k its.toArray)=(acc ++(List.replicate k its).flatten).toArray
 | 0,acc=>by simp
 | k+1,acc=>by
  have e:acc.toArray++its.toArray=(acc++its).toArray:=by simp
  have e2:(acc++its)++(List.replicate k its).flatten=acc ++(List.replicate (k+1) its).flatten:=by
   rw[List.replicate_succ,List.flatten_cons,List.append_assoc]
  rw[<- e2,<- j5 its k (acc++its),<- e,List.replicate_succ,List.foldl_cons]
section
variable{X:Cx}{gV:List (Addr×Obj)}{Y:St}{H:Hp}{s:Shared}{l b:Addr}{xs ys zs:List V}
def Inv.lset{its its':List Value}{n:Nat}{f:Array Value->Array Value}{t':Nat}(I:Inv X gV Y H s)(hH:H l=some (.lst xs))
  (e:s.heap.get? l=some { cls:=.type "list", data:=.seq its.toArray n }) (hf:f its.toArray=its'.toArray) (hv:aB ys its') (hz:ys.length<=sizeLine) :
  Inv X gV Y (upd H l (.lst ys)) { s with heap:=s.heap.update l (Obj.mapSeq f),toks:=t' }:=by
 have q:=PySem.IsL.update e f
 rw[hf]at q
 refine I.write (x:=l) (e:=l) (by rw[hH];exact trivial) (.inl rfl) (fun b' u hb hu=>(Heap.get?_update_other s.heap (Obj.mapSeq f) (Ne.symm hb)).trans hu) ⟨_,q⟩ ?_
 exact⟨hz,its',_,hv,q⟩
def Inv.lnew{its:List Value}{t':Nat}(I:Inv X gV Y H s)(hv:aB ys its)(hz:ys.length<=sizeLine) :
  Inv X gV Y (upd H s.heap.objs.size (.lst ys)) { s with heap:=s.heap.push { cls:=.type "list", data:=.seq its.toArray },toks:=t' } :=
 I.laid (fun _ _ q=>Heap.get?_push_of_some _ q) (Nat.le_refl _) ⟨hz,its,0,hv,Heap.get?_push_size _ rfl⟩
def Inv.fresh(I:Inv X gV Y H s):H s.heap.objs.size=none:=I.hok.fresh (Nat.le_refl _)
def Inv.lstM(I:Inv X gV Y H s)(hH:H l=some (.lst xs)):xs.length<=sizeLine/\∃(its:List Value) (n:Nat),aB xs its/\xs.length=its.length/\s.heap.get? l=some { cls:=.type "list", data:=.seq its.toArray n }:=by
 obtain⟨z,its,n,r,e⟩:=I.hok l _ hH
 exact⟨z,its,n,r,r.length,e⟩
def qK{n:Nat}(h:n<=sizeLine):Builtin.List.listTooLong n=false:=by
 unfold Builtin.List.listTooLong
 exact decide_eq_false (by omega)
end
section
variable{X:Cx}
def tN:V->List V->Hp->VK->Prop:=fun x vs H Q=>∃l xs y,x=.ref l/\vs=[y]/\H l=some (.lst xs)/\xs.length < sizeLine/\Q .non (upd H l (.lst (xs++[y])))
def jU:MtM X "list.append" tN:=by
 intro gV s Y H x vs v us Q I rx rv h
 obtain⟨l,xs,y,rfl,rfl,hH,hz,q⟩:=h
 cases rx
 obtain⟨u,rfl,ru⟩:=rv.one
 obtain⟨z,its,n,r,hl,e⟩:=I.lstM hH
 refine call_meets F.slot_list_append ⟨_,e,rfl⟩ F.entry_list_append (F.args_list_append_2 _ _) (PySem.list_append l its.toArray n u (by rw[List.size_toArray];omega)) ⟨e,?_⟩
 refine⟨.non,_,I.lset (its':=its++[u]) hH e (by simp) (r.append (.cons ru .nil)) ?_,rfl,q⟩
 rw[List.length_append,List.length_singleton]
 omega
def we:V->List V->Hp->VK->Prop:=fun x vs H Q=>∃l xs i k y,x=.ref l/\vs=[.int i]/\H l=some (.lst xs)/\-(2 ^ 63)<= i/\i < 2 ^ 63/\seqIndex? i xs.length=some k/\xs[k]?=some y/\Q y (upd H l (.lst (xs.eraseIdx k)))
def qN:MtM X "list.pop" we:=by
 intro gV s Y H x vs v us Q I rx rv h
 obtain⟨l,xs,i,k,y,rfl,rfl,hH,h1,h2,hk,hy,q⟩:=h
 cases rx
 obtain⟨u,rfl,ru⟩:=rv.one
 obtain⟨t,rfl⟩:=ru
 obtain⟨z,its,n,r,hl,e⟩:=I.lstM hH
 obtain⟨w,hw,rw'⟩:=r.get hy
 refine call_meets F.slot_list_pop ⟨_,e,rfl⟩ F.entry_list_pop (F.args_list_pop_2 _ _)
  (MeetsSeq.list_pop_at l its.toArray n i t k w (fitsIndex_both h1 h2) (by rw[List.size_toArray,<- hl];exact hk) (by rw[<- Array.getElem?_toList];exact hw) (by rw[List.size_toArray];omega)) ⟨e,?_⟩
 refine⟨y,_,I.lset (its':=its.eraseIdx k) hH e ?_ (r.eraseIdx k) ?_,rw',q⟩
 ·show its.toArray.eraseIdxIfInBounds k=(its.eraseIdx k).toArray
  rw[List.eraseIdxIfInBounds_toArray]
 ·have:=jZ xs k
  omega
def zd:R2:=fun x y H Q=>∃l k xs,x=.ref l/\y=.int k/\H l=some (.lst xs)/\-(2 ^ 63)<= k/\k < 2 ^ 63/\xs.length * k.toNat<=sizeLine /\
 ∀p,H p=none->Q (.ref p) (upd H p (.lst (List.replicate k.toNat xs).flatten))
def uv{α:Type}(xs:List α)(k:Nat):(List.replicate k xs).flatten.length=k * xs.length:=by
 induction k with
 | zero=>simp
 | succ k ih=>rw[List.replicate_succ,List.flatten_cons,List.length_append,ih,Nat.succ_mul,Nat.add_comm]
def wG:OpR X (binaryOp .Mult) zd:=by
 intro gV s Y H x y v u Q I rx ry h
 obtain⟨l,k,xs,rfl,rfl,hH,h1,h2,hz,q⟩:=h
 cases rx
 obtain⟨t,rfl⟩:=ry
 obtain⟨z,its,n,r,hl,e⟩:=I.lstM hH
 have hlen:its.toArray.size * k.toNat<=sizeLine:=by rw[List.size_toArray,<- hl];exact hz
 have hcap:¬its.toArray.size * k.toNat >(2 ^ 63 - 1) / 8:=by
  have:(sizeLine:Nat)<=(2 ^ 63 - 1) / 8:=by decide
  omega
 have hfit:¬(!Builtin.List.listFitsIndex k)=true:=by
  rw[fitsIndex_both h1 h2]
  exact Bool.false_ne_true
 have hlong:¬Builtin.List.listTooLong (its.toArray.size * k.toNat)=true:=by
  rw[qK hlen]
  exact Bool.false_ne_true
 have hnew:List.foldl (fun x1 x2=>x1++x2) #[] (List.replicate (if its.toArray.isEmpty=true then 0 else k.toNat) its.toArray)=(List.replicate k.toNat its).flatten.toArray:=by
  have f0:∀m:Nat,List.foldl (fun x1 x2=>x1++x2) #[] (List.replicate m its.toArray)=(List.replicate m its).flatten.toArray:=fun m=>by
   have:=j5 its m []
   rw[List.nil_append]at this
   exact this
  rw[f0]
  cases its with
  | nil=>simp
  | cons a r'=>rw[if_neg (by simp)]
 refine wpAny_binaryOp_repeat_ref (T := "list") (U := "int") (by decide) ⟨_,e,rfl⟩ (fun s'=>typeIs_int s' k t) noFill_list_mul F.fills_int_mul F.slot_int_rmul repeat_list F.slot_int_index.lookup
  (call_meets F.slot_int_rmul (typeIs_int s k t) F.entry_int_rmul (F.args_int_rmul_2 _ _) (int___rmul___int_list k t l its.toArray n)
   ⟨e,rfl,⟨_,e,rfl⟩,call_meets F.slot_list_mul ⟨_,e,rfl⟩ F.entry_list_mul (F.args_list_mul_2 _ _) (AutoListH.list___mul___list_int_3 l its.toArray n k t hfit hcap hlong) ⟨e,?_⟩⟩)
 rw[hnew]
 exact⟨.ref _,_,I.lnew (t':=s.toks) (r.rep k.toNat) (by rw[uv,Nat.mul_comm];exact hz),rfl,q _ I.fresh⟩
end
end L2
namespace Att
open PySem PySem.W PySem.Calls PyProof.Rows
def ij{P:Params}{h:Heap}:∀(ns:List Int) (vs:List Value),WellAll P h vs (ns.map WData.int)->IntsAre vs ns:=by
 intro ns
 induction ns with
 | nil =>
  intro vs w
  rw[List.map_nil]at w
  cases w
  exact .nil
 | cons n ns ih =>
  intro vs w
  rw[List.map_cons]at w
  cases w with
  | cons a b =>
   cases a
   exact .cons _ _ (ih _ b)
def oW{l:OpenLaw}{n:Nat}(hn:l.most=some n){P:Params}{h:Heap}{args:List WData}{vals:List Value}
  (hpre:l.row.toRowW.claim.pre args=true) (hwl:WellAll P h vals args) :
  ∃a vs ns,vals=[Value.ref a]/\args=[WData.list (ns.map WData.int)]/\h.get? a=some { cls:=.type "list", data:=.seq vs.toArray }/\IntsAre vs ns/\ns.length<=n:=by
 have hsh:WShape.hasAll [] args [.list .int]=true:=(pre_splitW hpre).1
 have hc:l.pre.holds [] { args:=args }=true:=(pre_splitW hpre).2
 obtain⟨d,r,rfl,h1,h2⟩:=hasAllW_cons hsh
 obtain rfl:=hasAllW_nil h2
 obtain⟨xs,rfl,h3⟩:=hasW_list h1
 obtain⟨ns,rfl⟩:=items_int h3
 have hlen:ns.length<=n:=by
  unfold OpenLaw.pre at hc
  have h4:(WTm.not (.lt (.lit (.int (n:Int))) (.len (.arg 0)))).holds [] { args:=[.list (ns.map .int)] }=true:=by
   have h4:=(holds_andW hc).1
   rw[hn]at h4
   exact h4
  have h5:=condW_of h4 (w_not (w_lt w_lit (w_len_list (w_arg rfl))))
  rw[List.length_map]at h5
  refine Nat.le_of_not_lt fun q=>?_
  have q':(n:Int) <((ns.length:Nat):Int):=by omega
  first
   |(rw[decide_eq_true q']at h5;exact absurd h5 (by decide))
   |(simp at h5;omega)
 cases hwl with
 | cons w1 w2 =>
  cases w2
  cases w1 with
  | list ho hall=>exact⟨_,_,ns,rfl,rfl,ho,ij ns _ hall,hlen⟩
def o4(l:OpenLaw)(args:List WData):l.row.toRowW.claim.post args (.bool true) args=true :=
 postW_of (r:=l.row.toRowW) (X:=(true==true))
  (show WShape.has [] (.bool true) .bool=true by first | rfl | decide | simp[WShape.has,WShape.arms,WShape.armsAll])
  (show(WTm.eq .res (.lit (.bool true))).value [] { args:=args,res:=some (.bool true),after:=args }=some (.bool (true==true))from w_eq_bool (w_res rfl) w_lit) rfl
def attach_call{l:OpenLaw}{n:Nat}{q:Program}{loose:List Str}{XP:(Str->Option Value)->Heap->Prop}{YP:World->Heap->Prop}{d:DefRec}
  (hn:l.most=some n) (hdf:d.params.defaults=[])
  (call:∀ (w:World) (s₀ s₁:Shared) (mg mb:Str->Option Value) (fa:Addr) (o:Obj) (pm cd doc:Value) (a:Addr) (vs:List Value) (ns:List Int),
   Ground q loose [] XP w s₀ mg mb s₁.heap->YP w s₁.heap ->
   s₁.heap.get? fa=some o->o.data=.func (docDef d.name d.params d.body d.scope pm cd doc)->s₁.heap.CodeRec cd d.name->mg d.name=some (.ref fa)->
   s₁.heap.get? a=some { cls:=.type "list", data:=.seq vs.toArray }->IntsAre vs ns->ns.length<=n->s₁.gens=#[]->
   codeAny (model l.prog w) callerA (.call (.ref fa) ⟨[.ref a],[]⟩) (fun r s'=>r=.ok (.ret (.bool true))/\OldK s₁.heap s'.heap/\s'.os=s₁.os/\AllBare s'.gens) s₁) :
  WalkO q loose XP YP l.row.toRowW d [] (fun f vs=>PySem.call f vs):=by
 intro w s₀ s₁ mg mb G ia fa o pm cd doc dV kV ho hd hcd hD hmg hg args vals as hpre hlay hrd hwl hlo
 obtain rfl:dV=.none:=Dflts.none hD hdf
 obtain rfl:kV=.none:=Dflts.noKw hD
 obtain⟨a,vs,ns,rfl,rfl,hobj,hints,hlen⟩:=oW hn hpre hwl
 refine enter_call (codeAny_mono (call w s₀ s₁ mg mb fa o pm cd doc a vs ns G ia ho (fd_plain hd) hcd hmg hobj hints hlen hg) fun r s' hq=>?_)
 obtain⟨rfl,h2,h3,h4⟩:=hq
 exact⟨.inl ⟨.bool true,.bool true,[],rfl,fun _=>rfl,.bool true,o4 l _,fun _=>⟨List.Pairwise.nil,fun _ hm=>(nomatch hm)⟩⟩,h2,h3,h4⟩
end Att
namespace L2
open PySem PySem.Spec PyProof.Rows
def jE:∀{vs:List Value}{ns:List Int},IntsAre vs ns->aB (ns.map V.int) vs
 | _,_,.nil=>.nil
 | _,_,.cons n t h=>.cons ⟨t,rfl⟩ (jE h)
end L2
namespace L2
open PySem PySem.Spec PyProof.Rows
def uz(s:Stmt)(j:Nat):Stmt:=match s with
 | .ClassDef _ _ _ body _ _ _ _ _ _ _=>body.getD j (.Pass ⟨0,0,0,0⟩)
 | _=>.Pass ⟨0,0,0,0⟩
def cS(s:Stmt):Arguments:=match s with
 | .FunctionDef _ a _ _ _ _ _ _ _ _=>a
 | _=>{ posonlyargs:=[],args:=[],vararg:=none,kwonlyargs:=[],kw_defaults:=[],kwarg:=none,defaults:=[] }
def a9(s:Stmt):List Stmt:=match s with
 | .FunctionDef _ _ b _ _ _ _ _ _ _=>b
 | _=>[]
def au(s:Stmt):Scope:=match s with
 | .FunctionDef _ _ _ _ _ _ sc _ _ _=>sc
 | _=>{ kind:=.function,names:=[],isGenerator:=false,isCoroutine:=false }
structure Fun(K:PySem.W.Frag)(x qual:Str)(st:Stmt)(f:Addr)(fd:FuncData):Prop where
 ex:∃(oc:Value) (od:Option Addr) (kV doc pm:Value) (an:Option Addr) (cdv ct:Value) (osl:Array (Option Value)),
  fd=PySem.W.fnOf x qual (cS st) (a9 st) (au st) .none kV doc pm an cdv ct/\K.lookup f=some ⟨oc,od,.func fd,osl⟩/\PySem.W.codeIn K cdv qual=true
 kp:PySem.W.keepIn K (.ref f)=true
section
variable{P:Program}{w:World}{K:PySem.W.Frag}{mg:Str->Option Value}{base:Heap}
def Fun.binds{x qual:Str}{st:Stmt}{f:Addr}{fd:FuncData}{ps:List Str}(F:Fun K x qual st f fd)
  (h:∀(kV doc pm:Value) (an:Option Addr) (cdv ct:Value) (us:List Value),us.length=ps.length->bindArgs (PySem.W.fnOf x qual (cS st) (a9 st) (au st) .none kV doc pm an cdv ct) ⟨us,[]⟩=pure (ps.zip us)):dA K fd ps []:=by
 obtain⟨oc,od,kV,doc,pm,an,cdv,ct,osl,rfl,lk,hcd⟩:=F.ex
 exact .all (h kV doc pm an cdv ct)
end
end L2
set_option maxHeartbeats 4000000
namespace PR
open PySem
inductive Fl where
 | own | frz | bor | lnt | mod
 deriving DecidableEq
inductive PV where
 | non
 | bl (b:Bool)
 | int (i:Int)
 | str (x:Str)
 | lst (f:Fl) (xs:List PV)
 | tup (xs:List PV)
 | obj (f:Fl) (c:Nat) (ks:List Nat) (vs:List PV)
 | exc (c:Nat)
 | box (k:Nat) (xs:List PV)
mutual
def PV.mapF(g:Fl->Fl):PV->PV
 | .non=>.non
 | .bl b=>.bl b
 | .int i=>.int i
 | .str x=>.str x
 | .lst f xs=>.lst (g f) (mapL g xs)
 | .tup xs=>.tup (mapL g xs)
 | .obj f c ks vs=>.obj (g f) c ks (mapL g vs)
 | .exc c=>.exc c
 | .box k xs=>.box k (mapL g xs)
def mapL(g:Fl->Fl):List PV->List PV
 | []=>[]
 | x::xs=>x.mapF g::mapL g xs
end
mutual
def PV.has(p:Fl->Bool):PV->Bool
 | .non | .bl _ | .int _ | .str _=>false
 | .lst f xs=>p f||hasL p xs
 | .tup xs=>hasL p xs
 | .obj f _ _ vs=>p f||hasL p vs
 | .exc _=>false
 | .box _ xs=>hasL p xs
def hasL(p:Fl->Bool):List PV->Bool
 | []=>false
 | x::xs=>x.has p||hasL p xs
end
def Fl.isLnt:Fl->Bool
 | .lnt=>true
 | _=>false
def Fl.isBor:Fl->Bool
 | .bor=>true
 | _=>false
def Fl.lend:Fl->Fl
 | .own=>.lnt
 | f=>f
def Fl.freeze:Fl->Fl
 | .own=>.frz
 | f=>f
def Fl.toBor:Fl->Fl
 | .lnt=>.bor
 | f=>f
inductive Res(α:Type) where
 | ok (a:α)
 | exc (c:Nat)
 | stuck
noncomputable def Res.bind{α β:Type}:Res α->(α->Res β)->Res β
 | .ok a,k=>k a
 | .exc c,_=>.exc c
 | .stuck,_=>.stuck
@[simp] def Res.ok_bind{α β:Type}(a:α)(k:α->Res β):(Res.ok a).bind k=k a:=by simp only[Res.bind]
@[simp] def Res.exc_bind{α β:Type}(c:Nat)(k:α->Res β):(Res.exc c:Res α).bind k=.exc c:=rfl
@[simp] def Res.stuck_bind{α β:Type}(k:α->Res β):(Res.stuck:Res α).bind k=.stuck:=rfl
abbrev En:=List (Option PV)
abbrev ME:=En->Res PV
abbrev MT:=En->Res Bool
abbrev MA:=En->Res (List PV)
inductive Out where
 | next (e:En)
 | ret (v:PV)
 | brk (e:En)
 | cont (e:En)
 | exc (c:Nat) (e:En)
 | stuck
abbrev MS:=En->Out
def mC(v:PV):ME:=fun _=>.ok v
def ac(i:Nat):ME:=fun env=>match env[i]? with
 | some (some v)=>.ok (v.mapF Fl.lend)
 | _=>.stuck
def ak:MA:=fun _=>.ok []
def ae(a:ME)(r:MA):MA:=fun env=>(a env).bind fun x=>(r env).bind fun xs=>.ok (x::xs)
def mUn(f:PV->Res PV)(a:ME):ME:=fun env=>(a env).bind f
def mOp(f:PV->PV->Res PV)(a b:ME):ME:=fun env=>(a env).bind fun x=>(b env).bind fun y=>f x y
def jS(g:Int->Int->PV):PV->PV->Res PV
 | .int i,.int j=>.ok (g i j)
 | _,_=>.stuck
def c_(C:Int->Int->Bool)(g:Int->Int->PV):PV->PV->Res PV
 | .int i,.int j=>if C i j then .ok (g i j)else .stuck
 | _,_=>.stuck
def kA:PV->Res Bool
 | .non=>.ok false
 | .bl b=>.ok b
 | .int i=>.ok (i != 0)
 | .lst _ xs | .tup xs=>.ok (!xs.isEmpty)
 | _=>.stuck
def ar(a:ME):MT:=fun env=>(a env).bind fun
 | .bl b=>.ok b
 | _=>.stuck
def cM(a:ME):MT:=fun env=>(a env).bind kA
def df(a b:MT):MT:=fun env=>(a env).bind fun x=>if x then b env else .ok false
def fm(a b:MT):MT:=fun env=>(a env).bind fun x=>if x then .ok true else b env
def pA(c:MT)(a b:ME):ME:=fun env=>(c env).bind fun x=>if x then a env else b env
def aF:MS:=.next
def aq(a b:MS):MS:=fun env=>match a env with
 | .next e=>b e
 | o=>o
def mBr(c:MT)(a b:MS):MS:=fun env=>match c env with
 | .ok true=>a env
 | .ok false=>b env
 | .exc k=>.exc k env
 | .stuck=>.stuck
def PV.noLnt(v:PV):Bool:=!v.has Fl.isLnt
def cE(env:List (Option PV)):Bool:=match env[0]? with
 | some (some (PV.obj _ _ _ _))=>true
 | _=>false
def aY(i:Nat)(env:En):Bool:=if i=0 then !cE env else true
def aE(i:Nat)(e:ME):MS:=fun env=>match e env with
 | .ok v=>if v.noLnt&&aY i env then .next (env.set i (some v))else .stuck
 | .exc k=>.exc k env
 | .stuck=>.stuck
def bI(e:ME):MS:=fun env=>match e env with
 | .ok v=>if v.noLnt then .ret v else .stuck
 | .exc k=>.exc k env
 | .stuck=>.stuck
def cm(i:Nat):MS:=fun env=>match env[i]? with
 | some (some v)=>.ret v
 | _=>.stuck
def eF(e:ME):MS:=fun env=>match e env with
 | .ok _=>.next env
 | .exc k=>.exc k env
 | .stuck=>.stuck
def iV(i:Nat):MS:=fun env=>match env[i]? with
 | some (some v)=>.next (env.set i (some (v.mapF Fl.freeze)))
 | _=>.stuck
def da(body:PV->MS):List PV->En->Out
 | [],env=>.next env
 | x::xs,env=>match body x env with
  | .next e | .cont e=>da body xs e
  | .brk e=>.next e
  | o=>o
end PR
namespace PR
open PySem PySem.Spec L2
structure Tb where
 K:PySem.W.Frag
 nc:Nat
 cls:Nat->Addr
 att:Nat->Str
 inj:∀i j,att i=att j->i=j
 xcl:Nat->Addr
 dk:Nat->List Str:=fun _=>[]
 bx:Nat->Hp->Addr->List V->Prop:=fun k H a vs=>∃o,H a=some (.frz o (.dK (((dk k).map Sum.inr).zip vs)))/\(dk k).length=vs.length
 bxs:∀k (H H':Hp) a vs,(∀b o u,H b=some (.frz o u)->H' b=some (.frz o u))->bx k H a vs->bx k H' a vs:=by exact fun _ _ _ _ _ h ⟨o,q,l⟩=>⟨o,h _ _ _ q,l⟩
 tb:Addr->Option (Array Value):=fun _=>none
def sG(C a:Addr):HO:=.ext fun h=>∃o,h.get? a=some o/\o.cls=.ref C
def KL(K:PySem.W.Frag)(a:Addr)(xs:List V):Prop:=∃(o:Obj) (its:Array Value) (n:Nat),K.lookup a=some o/\o.cls=.type "list" /\ o.dict=none/\o.data=.seq its n/\its.size<=sizeLine/\aB xs its.toList
def mB:Fl->Addr->List Addr->List Addr->Prop
 | .own,a,fp',fp=>fp=a::fp'
 | _,_,fp',fp=>fp'=[]/\fp=[]
def yk(F B L:Addr->Prop):Fl->Addr->Prop
 | .own,_=>True
 | .frz,a=>F a
 | .bor,a=>B a
 | .lnt,a=>L a
 | .mod,_=>False
def jr(T:Tb)(F B L:Addr->Prop)(H:Hp):Fl->Addr->List V->Prop
 | .own,a,vs=>H a=some (.lst vs)
 | .lnt,a,vs=>L a/\H a=some (.lst vs)
 | .frz,a,vs=>F a/\Rd H a (.lst vs)
 | .bor,a,vs=>B a/\Rd H a (.lst vs)
 | .mod,a,vs=>KL T.K a vs
def jr.sq(h:jr T F B L H f a vs):SqL T.K H a vs:=by
 cases f with
 | own=>exact SqL.of h
 | lnt=>exact SqL.of h.2
 | frz | bor=>exact .inl h.2
 | mod=>exact .inr h
mutual
def Rel(T:Tb)(F B L:Addr->Prop)(H:Hp):PV->V->List Addr->Prop
 | .non,v,fp=>v=.non/\fp=[]
 | .bl b,v,fp=>v=.bl b/\fp=[]
 | .int i,v,fp=>v=.int i/\fp=[]
 | .str x,v,fp=>v=.str x/\fp=[]
 | .lst f xs,v,fp=>∃a vs fp',v=.ref a/\jr T F B L H f a vs/\RelL T F B L H xs vs fp'/\mB f a fp' fp
 | .tup xs,v,fp=>∃a vs,v=.ref a/\SqT T.K H a vs/\RelL T F B L H xs vs fp
 | .obj f c ks xs,v,fp=>∃a dx vs fp',v=.ref a/\H a=some (.ins (T.cls c) dx ((ks.map T.att).zip vs))/\(ks.length=xs.length/\c < T.nc)/\RelL T F B L H xs vs fp'/\mB f a fp' fp/\yk F B L f a
 | .exc c,v,fp=>∃a,v=.ref a/\H a=some (sG (T.xcl c) a)/\fp=[]
 | .box k xs,v,fp=>∃a vs,v=.ref a/\T.bx k H a vs/\RelL T F B L H xs vs fp
def RelL(T:Tb)(F B L:Addr->Prop)(H:Hp):List PV->List V->List Addr->Prop
 | [],vs,fp=>vs=[]/\fp=[]
 | x::xs,vs,fp=>∃v ws f1 f2,vs=v::ws/\Rel T F B L H x v f1/\RelL T F B L H xs ws f2/\fp=f1++f2
end
def fz:HO->Prop
 | .tup _ | .frz _ _ | .ext _=>True
 | _=>False
section
variable{T:Tb}{F F' B B' L L':Addr->Prop}{H H':Hp}
def Rd.tr(h:∀o,H a=some o->H' a=some o)(q:Rd H a u):Rd H' a u:=by
 rcases q with q |⟨o,q⟩
 ·exact .inl (h _ q)
 ·exact .inr ⟨o,h _ q⟩
def SqT.tr(h:∀o,H a=some o->fz o->H' a=some o)(q:SqT K H a vs):SqT K H' a vs:=by
 rcases q with(q |⟨o,q⟩) | q
 ·exact .inl (.inl (h _ q True.intro))
 ·exact .inl (.inr ⟨o,h _ q True.intro⟩)
 ·exact .inr q
def RelL.length:∀{xs:List PV}{vs:List V}{fp:List Addr},RelL T F B L H xs vs fp->xs.length=vs.length
 | [],_,_,h=>by unfold RelL at h;rw[h.1];rfl
 | x::xs,_,_,h=>by
  unfold RelL at h
  obtain⟨v,ws,f1,f2,rfl,_,h2,_⟩:=h
  simp[RelL.length h2]
def mB.all{P:Addr->Prop}(h:mB f a fp' fp)(hp:∀b∈fp,P b):(f=.own->P a)/\∀b∈fp',P b:=by
 cases f with
 | own =>
  obtain rfl:fp=a::fp':=h
  grind
 | _=>exact⟨fun z=>(nomatch z),by rw[h.1];exact fun _ z=>nomatch z⟩
structure Mp(T:Tb)(g:Fl->Fl)(p:Fl->Bool)(E:List Addr->List Addr)(C F B L:Addr->Prop)(H:Hp)(F' B' L':Addr->Prop)(H':Hp):Prop where
 hl:∀f a vs,p f=false->(f=.own->C a)->jr T F B L H f a vs->jr T F' B' L' H' (g f) a vs
 hb:∀f a,p f=false->(f=.own->C a)->yk F B L f a->yk F' B' L' (g f) a/\∀o,H a=some o->H' a=some o
 hf:∀f a x y,mB f a x y->mB (g f) a (E x) (E y)
 he:E []=[]
 ha:∀x y,E (x++y)=E x++E y
 hx:∀a o,H a=some o->fz o->H' a=some o
mutual
def Mp.rel(M:Mp T g p E C F B L H F' B' L' H') :
  ∀{x:PV}{v:V}{fp:List Addr},x.has p=false->(∀a∈fp,C a)->Rel T F B L H x v fp->Rel T F' B' L' H' (x.mapF g) v (E fp)
 | .non,_,_,_,_,h | .bl _,_,_,_,_,h | .int _,_,_,_,_,h | .str _,_,_,_,_,h=>by unfold Rel at h;simp only[PV.mapF];unfold Rel;exact⟨h.1,by rw[h.2,M.he]⟩
 | .lst f xs,_,fp,hp,hc,h=>by
  unfold Rel at h
  obtain⟨a,vs,fp',e,h1,h2,h3⟩:=h
  simp only[PV.has,Bool.or_eq_false_iff]at hp
  obtain⟨c1,c2⟩:=h3.all hc
  simp only[PV.mapF]
  unfold Rel
  exact⟨a,vs,E fp',e,M.hl f a vs hp.1 c1 h1,Mp.rels M hp.2 c2 h2,M.hf f a fp' fp h3⟩
 | .tup xs,_,fp,hp,hc,h=>by
  unfold Rel at h
  obtain⟨a,vs,e,h1,h2⟩:=h
  simp only[PV.mapF]
  unfold Rel
  exact⟨a,vs,e,SqT.tr (fun o q z=>M.hx a o q z) h1,Mp.rels M hp hc h2⟩
 | .obj f c ks xs,_,fp,hp,hc,h=>by
  unfold Rel at h
  obtain⟨a,dx,vs,fp',e,h1,hk,h2,h3,h4⟩:=h
  simp only[PV.has,Bool.or_eq_false_iff]at hp
  obtain⟨c1,c2⟩:=h3.all hc
  obtain⟨q1,q2⟩:=M.hb f a hp.1 c1 h4
  simp only[PV.mapF]
  unfold Rel
  have r:=Mp.rels M hp.2 c2 h2
  exact⟨a,dx,vs,E fp',e,q2 _ h1,⟨by rw[r.length,hk.1,h2.length],hk.2⟩,r,M.hf f a fp' fp h3,q1⟩
 | .exc c,_,fp,_,_,h=>by
  unfold Rel at h
  obtain⟨a,e,h1,rfl⟩:=h
  simp only[PV.mapF]
  unfold Rel
  exact⟨a,e,M.hx a _ h1 True.intro,M.he⟩
 | .box k xs,_,fp,hp,hc,h=>by
  unfold Rel at h
  obtain⟨a,vs,e,h1,h2⟩:=h
  simp only[PV.mapF]
  unfold Rel
  exact⟨a,vs,e,T.bxs k H H' a vs (fun b o u q=>M.hx b _ q True.intro) h1,Mp.rels M hp hc h2⟩
def Mp.rels(M:Mp T g p E C F B L H F' B' L' H') :
  ∀{xs:List PV}{vs:List V}{fp:List Addr},hasL p xs=false->(∀a∈fp,C a)->RelL T F B L H xs vs fp->RelL T F' B' L' H' (mapL g xs) vs (E fp)
 | [],_,_,_,_,h=>by unfold RelL at h;simp only[mapL];unfold RelL;exact⟨h.1,by rw[h.2,M.he]⟩
 | x::xs,_,fp,hp,hc,h=>by
  unfold RelL at h
  obtain⟨v,ws,f1,f2,e,h1,h2,rfl⟩:=h
  simp only[hasL,Bool.or_eq_false_iff]at hp
  simp only[mapL]
  unfold RelL
  exact⟨v,ws,E f1,E f2,e,Mp.rel M hp.1 (fun b hb=>hc b (List.mem_append_left _ hb)) h1,Mp.rels M hp.2 (fun b hb=>hc b (List.mem_append_right _ hb)) h2,M.ha f1 f2⟩
end
mutual
def im:∀x:PV,x.mapF (fun f=>f)=x
 | .non | .bl _ | .int _ | .str _ | .exc _=>rfl
 | .lst f xs | .tup xs | .obj f c ks xs | .box k xs=>by simp only[PV.mapF,mapL_id xs]
def mapL_id:∀xs:List PV,mapL (fun f=>f) xs=xs
 | []=>rfl
 | x::xs=>by simp only[mapL,im x,mapL_id xs]
end
mutual
def i8:∀x:PV,x.has (fun _=>false)=false
 | .non | .bl _ | .int _ | .str _ | .exc _=>rfl
 | .lst f xs=>by simp only[PV.has,has_noL xs,Bool.or_false]
 | .tup xs=>by simp only[PV.has,has_noL xs]
 | .obj f c ks xs=>by simp only[PV.has,has_noL xs,Bool.or_false]
 | .box k xs=>by simp only[PV.has,has_noL xs]
def has_noL:∀xs:List PV,hasL (fun _=>false) xs=false
 | []=>rfl
 | x::xs=>by simp only[hasL,i8 x,has_noL xs,Bool.or_false]
end
def vw(hF:∀a,F a->F' a)(hB:∀a,B a->B' a)(hL:∀a,L a->L' a)(hx:∀a o,H a=some o->(F a\/B a\/L a\/fz o)->H' a=some o):Mp T (fun f=>f) (fun _=>false) (fun x=>x) (fun a=>∀o,H a=some o->H' a=some o) F B L H F' B' L' H' :=
 ⟨fun f a vs _ c h=>by
  cases f with
  | own=>exact c rfl _ h
  | frz=>exact⟨hF a h.1,Rd.tr (fun o q=>hx a o q (.inl h.1)) h.2⟩
  | bor=>exact⟨hB a h.1,Rd.tr (fun o q=>hx a o q (.inr (.inl h.1))) h.2⟩
  | lnt=>exact⟨hL a h.1,hx a _ h.2 (.inr (.inr (.inl h.1)))⟩
  | mod=>exact h,fun f a _ c h=>by
  cases f with
  | own=>exact⟨True.intro,c rfl⟩
  | frz=>exact⟨hF a h,fun o q=>hx a o q (.inl h)⟩
  | bor=>exact⟨hB a h,fun o q=>hx a o q (.inr (.inl h))⟩
  | lnt=>exact⟨hL a h,fun o q=>hx a o q (.inr (.inr (.inl h)))⟩
  | mod=>exact h.elim,fun _ _ _ _ h=>h,rfl,fun _ _=>rfl,fun a o q z=>hx a o q (.inr (.inr (.inr z)))⟩
def Rel.tr(hF:∀a,F a->F' a)(hB:∀a,B a->B' a)(hL:∀a,L a->L' a)(hx:∀a o,H a=some o->(F a\/B a\/L a\/fz o)->H' a=some o)(hp:∀a∈fp,∀o,H a=some o->H' a=some o)(h:Rel T F B L H x v fp):Rel T F' B' L' H' x v fp:=by
 have:=(vw hF hB hL hx).rel (i8 x) hp h
 rwa [im]at this
def RelL.tr(hF:∀a,F a->F' a)(hB:∀a,B a->B' a)(hL:∀a,L a->L' a)(hx:∀a o,H a=some o->(F a\/B a\/L a\/fz o)->H' a=some o)(hp:∀a∈fp,∀o,H a=some o->H' a=some o)(h:RelL T F B L H x v fp):RelL T F' B' L' H' x v fp:=by
 have:=(vw hF hB hL hx).rels (has_noL x) hp h
 rwa [mapL_id]at this
def Ext(H H':Hp):Prop:=∀a o,H a=some o->H' a=some o
def Ext.refl:Ext H H:=fun _ _ h=>h
def Ext.trans(a:Ext H H1)(b:Ext H1 H2):Ext H H2:=fun c o h=>b c o (a c o h)
def Ext.upd(h:H a=none):Ext H (L2.upd H a o):=fun b u e=>by rw[ax (bA e h)];exact e
def Ext.free(x:Ext H H')(h:H' a=none):H a=none:=by
 cases e:H a with
 | none=>rfl
 | some o=>rw[x a o e]at h;cases h
def Rel.ext(e:Ext H H')(hF:∀a,F a->F' a)(h:Rel T F B L H x v fp):Rel T F' B L H' x v fp :=
 Rel.tr hF (fun _ h=>h) (fun _ h=>h) (fun a o q _=>e a o q) (fun a _ o q=>e a o q) h
def RelL.ext(e:Ext H H')(hF:∀a,F a->F' a)(h:RelL T F B L H xs vs fp):RelL T F' B L H' xs vs fp :=
 RelL.tr hF (fun _ h=>h) (fun _ h=>h) (fun a o q _=>e a o q) (fun a _ o q=>e a o q) h
def Chg:HO->Prop
 | .lst _ | .ins _ _ _=>True
 | _=>False
mutual
def Rel.chg:∀{x:PV}{v:V}{fp:List Addr},Rel T F B L H x v fp->∀a∈fp,∃o,H a=some o/\Chg o
 | .non,_,_,h | .bl _,_,_,h | .int _,_,_,h | .str _,_,_,h=>by unfold Rel at h;rw[h.2];exact fun _ z=>nomatch z
 | .lst f xs,_,fp,h=>by
  unfold Rel at h
  obtain⟨a,vs,fp',e,hl,hr,hf⟩:=h
  cases f with
  | own =>
   obtain rfl:fp=a::fp':=hf
   intro b hb
   rcases List.mem_cons.mp hb with rfl | hb
   ·exact⟨_,hl,True.intro⟩
   ·exact RelL.chg hr b hb
  | frz | bor | lnt | mod=>obtain⟨rfl,rfl⟩:=hf;exact fun _ z=>nomatch z
 | .tup xs,_,fp,h=>by
  unfold Rel at h
  obtain⟨a,vs,e,hl,hr⟩:=h
  exact RelL.chg hr
 | .obj f c ks xs,_,fp,h=>by
  unfold Rel at h
  obtain⟨a,dx,vs,fp',e,hl,hk,hr,hf,ha⟩:=h
  cases f with
  | own =>
   obtain rfl:fp=a::fp':=hf
   intro b hb
   rcases List.mem_cons.mp hb with rfl | hb
   ·exact⟨_,hl,True.intro⟩
   ·exact RelL.chg hr b hb
  | frz | bor | lnt | mod=>obtain⟨rfl,rfl⟩:=hf;exact fun _ z=>nomatch z
 | .exc c,_,fp,h=>by
  unfold Rel at h
  obtain⟨a,e,hl,rfl⟩:=h
  exact fun _ z=>nomatch z
 | .box k xs,_,fp,h=>by
  unfold Rel at h
  obtain⟨a,vs,e,hl,hr⟩:=h
  exact RelL.chg hr
def RelL.chg:∀{xs:List PV}{vs:List V}{fp:List Addr},RelL T F B L H xs vs fp->∀a∈fp,∃o,H a=some o/\Chg o
 | [],_,_,h=>by unfold RelL at h;rw[h.2];exact fun _ z=>nomatch z
 | x::xs,_,_,h=>by
  unfold RelL at h
  obtain⟨v,ws,f1,f2,_,h1,h2,rfl⟩:=h
  intro b hb
  rcases List.mem_append.mp hb with hb | hb
  ·exact Rel.chg h1 b hb
  ·exact RelL.chg h2 b hb
end
def Rel.there(h:Rel T F B L H x v fp)(a:Addr)(ha:a∈fp):∃o,H a=some o:=let⟨o,q,_⟩:=h.chg a ha;⟨o,q⟩
def RelL.there(h:RelL T F B L H xs vs fp)(a:Addr)(ha:a∈fp):∃o,H a=some o:=let⟨o,q,_⟩:=h.chg a ha;⟨o,q⟩
def uj:Mp T Fl.lend (fun _=>false) (fun _=>[]) L F B L H F B L H :=
 ⟨fun f a vs _ c h=>by
  cases f with
  | own=>exact⟨c rfl,h⟩
  | _=>exact h,fun f a _ c h=>⟨by
  cases f with
  | own=>exact c rfl
  | _=>exact h,fun _ q=>q⟩,fun f a x y h=>by cases f<;>exact⟨rfl,rfl⟩,rfl,fun _ _=>rfl,fun _ _ q _=>q⟩
def Rel.lend(hp:∀a∈fp,L a)(h:Rel T F B L H x v fp):Rel T F B L H (x.mapF Fl.lend) v []:=uj.rel (i8 x) hp h
end
end PR
namespace L2
open PySem PySem.Spec
def PE.wk(h:PE X e t)(w:∀Y H Q,t' Y H Q->t Y H Q):PE X e t':=fun gV s Y H Q I q=>h gV s Y H Q I (w Y H Q q)
def PA.wk(h:PA X e t)(w:∀Y H Q,t' Y H Q->t Y H Q):PA X e t':=fun pos gV s Y H Q I q=>h pos gV s Y H Q I (w Y H Q q)
def PT.wk(h:PT X e t)(w:∀Y H Q,t' Y H Q->t Y H Q):PT X e t':=fun gV s Y H Q I q=>h gV s Y H Q I (w Y H Q q)
def PW.wk(h:PW X e t)(w:∀Y H Q,t' Y H Q->t Y H Q):PW X e t':=fun wh gV s Y H Q I q=>h wh gV s Y H Q I (w Y H Q q)
def PS.wk(h:PS X e t)(w:∀D Y H,t' D Y H->t D Y H):PS X e t':=fun gV s Y H D I q=>h gV s Y H D I (w D Y H q)
def PSs.wk(h:PSs X e t)(w:∀D Y H,t' D Y H->t D Y H):PSs X e t':=fun gV s Y H D I q=>h gV s Y H D I (w D Y H q)
end L2
namespace PR
open PySem PySem.Spec L2
structure Zn where
 H0:Hp
 F0:Addr->Prop
 fp0:Addr->Prop
 B:Addr->Prop
 pin:Option V:=none
abbrev NoL:Addr->Prop:=fun _=>False
def ve(T:Tb)(H:Hp)(f:Addr->Prop):Prop:=∀a ps,T.tb a=some ps->H a=some (.tbl ps)/\¬f a
structure bz(T:Tb)(Z:Zn)(F:Addr->Prop)(H:Hp):Prop where
 bo:(∀a,Z.B a->(∃o,Z.H0 a=some o)/\¬Z.fp0 a)/\ve T Z.H0 Z.fp0
 keep:∀a o,Z.H0 a=some o->¬Z.fp0 a->H a=some o
 f0:∀a,Z.F0 a->F a
 fn:∀a,F a->Z.F0 a\/Z.H0 a=none\/Z.fp0 a
 ft:∀a,F a->∃o,H a=some o
structure ap(T:Tb)(Z:Zn)(F:Addr->Prop)(H:Hp)(Y:St)(env:En)(fp:Nat->List Addr):Prop where
 hp:bz T Z F H
 len:Y.length=env.length
 rel:∀(i:Nat) (pv:PV),env[i]?=some (some pv)->∃v,Y[i]?=some (some v)/\Rel T F Z.B NoL H pv v (fp i)
 nd:∀i,(fp i).Nodup
 dj:∀i j,i≠j->∀a∈fp i,a∉fp j
 dis:∀i,∀a∈fp i,¬F a/\∃o,H a=some o
 new:∀i,∀a∈fp i,Z.H0 a=none\/Z.fp0 a
 ch:∀i,∀a∈fp i,∃o,H a=some o/\Chg o
 pn:∀v,Z.pin=some v->Y[0]?=some (some v)/\cE env=true
def Own(fp:Nat->List Addr):Addr->Prop:=fun a=>∃i,a∈fp i
structure Gr(F:Addr->Prop)(H:Hp)(F':Addr->Prop)(H':Hp):Prop where
 ext:Ext H H'
 mono:∀a,F a->F' a
 only:∀a,F' a->F a\/H a=none
 dom:∀a,F' a->∃o,H' a=some o
def Gr.refl(h:∀a,F a->∃o,H a=some o):Gr F H F H:=⟨Ext.refl,fun _ h=>h,fun _ h=>.inl h,h⟩
def Gr.trans(a:Gr F H F1 H1)(b:Gr F1 H1 F2 H2):Gr F H F2 H2 :=
 ⟨a.ext.trans b.ext,fun c h=>b.mono c (a.mono c h),fun c h=>(b.only c h).elim (a.only c) fun z=>.inr (a.ext.free z),b.dom⟩
def Gr.same(h:∀a,F a->∃o,H a=some o)(e:Ext H H'):Gr F H F H':=⟨e,fun _ h=>h,fun _ h=>.inl h,fun a q=>let⟨o,z⟩:=h a q;⟨o,e a o z⟩⟩
section
variable{T:Tb}{Z:Zn}{F F':Addr->Prop}{H H':Hp}{Y:St}{env:En}{fp:Nat->List Addr}
def bz.tb(S:bz T Z F H)(h:T.tb a=some ps):H a=some (.tbl ps):=let⟨h1,h2⟩:=S.bo.2 a ps h;S.keep a _ h1 h2
def ap.tbo(S:ap T Z F H Y env fp)(e:Ext H H')(hn:∀ a,f a->H a=none \/ Own fp a):ve T H' f:=fun a ps h=>⟨e a _ (S.hp.tb h),fun z=>by
 have q:=S.hp.tb h
 rcases hn a z with n |⟨i,hi⟩
 ·rw[q]at n;cases n
 ·obtain⟨o,h1,h2⟩:=S.ch i a hi
  rw[q]at h1;cases h1;exact h2⟩
def bz.grow(S:bz T Z F H)(g:Gr F H F' H'):bz T Z F' H' :=
 ⟨S.bo,fun a o h n=>g.ext a o (S.keep a o h n),fun a h=>g.mono a (S.f0 a h),fun a h=>by
  rcases g.only a h with z | z
  ·exact S.fn a z
  ·refine .inr ?_
   by_cases q:Z.fp0 a
   ·exact .inr q
   ·refine .inl ?_
    cases w:Z.H0 a with
    | none=>rfl
    | some o=>rw[S.keep a o w q]at z;exact(nomatch z),g.dom⟩
def ap.grow(S:ap T Z F H Y env fp)(g:Gr F H F' H'):ap T Z F' H' Y env fp :=
 ⟨S.hp.grow g,S.len,fun i pv h=>let ⟨v,q1,q2⟩:=S.rel i pv h;⟨v,q1,q2.ext g.ext g.mono⟩,S.nd,S.dj,fun i a h=>by
  obtain⟨n,o,q⟩:=S.dis i a h
  refine⟨fun z=>?_,o,g.ext a o q⟩
  rcases g.only a z with z | z
  ·exact n z
  ·rw[q]at z;exact(nomatch z),S.new,fun i a h=>let⟨o,q,c⟩:=S.ch i a h;⟨o,g.ext a o q,c⟩,S.pn⟩
end
def GE(T:Tb)(W:Nat->St->Hp->Prop)(B F L:Addr->Prop)(Y:St)(H:Hp)(Q:VK):Res PV->Prop
 | .ok pv=>∀v H' F' f,Gr F H F' H'->Rel T F' B L H' pv v f->(∀a∈f,¬F' a)->f.Nodup->(∀a∈f,H a=none)->Q v H'
 | .exc c=>∀H',Ext H H'->W c Y H'
 | .stuck=>False
def GA(T:Tb)(W:Nat->St->Hp->Prop)(B F L:Addr->Prop)(Y:St)(H:Hp)(Q:List V->Hp->Prop):Res (List PV)->Prop
 | .ok pvs=>∀vs H' F' f,Gr F H F' H'->RelL T F' B L H' pvs vs f->(∀a∈f,¬F' a)->f.Nodup->(∀a∈f,H a=none)->Q vs H'
 | .exc c=>∀H',Ext H H'->W c Y H'
 | .stuck=>False
def GT(W:Nat->St->Hp->Prop)(F:Addr->Prop)(Y:St)(H:Hp)(Q:Bool->Hp->Prop):Res Bool->Prop
 | .ok b=>∀H' F',Gr F H F' H'->Q b H'
 | .exc c=>∀H',Ext H H'->W c Y H'
 | .stuck=>False
def tE(T:Tb)(W:Nat->St->Hp->Prop)(m:ME):TE:=fun Y H Q=>∃Z F env fp,ap T Z F H Y env fp/\GE T W Z.B F (Own fp) Y H Q (m env)
def tA(T:Tb)(W:Nat->St->Hp->Prop)(m:MA):TA:=fun Y H Q=>∃Z F env fp,ap T Z F H Y env fp/\GA T W Z.B F (Own fp) Y H Q (m env)
def tT(T:Tb)(W:Nat->St->Hp->Prop)(m:MT):TT:=fun Y H Q=>∃Z F env fp,ap T Z F H Y env fp/\GT W F Y H Q (m env)
abbrev SE(X:Cx)(T:Tb)(W:Nat->St->Hp->Prop)(e:Expr)(m:ME):Prop:=PE X e (tE T W m)
abbrev SA(X:Cx)(T:Tb)(W:Nat->St->Hp->Prop)(es:List Expr)(m:MA):Prop:=PA X es (tA T W m)
abbrev ST(X:Cx)(T:Tb)(W:Nat->St->Hp->Prop)(e:Expr)(m:MT):Prop:=PT X e (tT T W m)
section
variable{X:Cx}{T:Tb}{W:Nat->St->Hp->Prop}{Z:Zn}{F F' B L:Addr->Prop}{H H':Hp}{Y:St}{env:En}{fp:Nat->List Addr}
def GE.scal{Q:VK}{pv:PV}{v:V}(q:GE T W B F L Y H Q (.ok pv))(g:Gr F H F' H')(r:Rel T F' B L H' pv v []):Q v H' :=
 q v H' F' [] g r (fun _ z=>(nomatch z)) List.nodup_nil (fun _ z=>(nomatch z))
def iz{v:V}{pv:PV}(h:PE X e (tC v))(r:∀F B L H,Rel T F B L H pv v []):SE X T W e (mC pv):=PE.wk h fun Y H Q ⟨Z,F,env,fp,S,q⟩=>q.scal (Gr.refl S.hp.ft) (r _ _ _ _)
def ag{i j pos}:SE X T W (.Constant (.int i) j pos) (mC (.int i)):=iz wB fun _ _ _ _=>by unfold Rel;exact⟨rfl,rfl⟩
def ly{b j pos}:SE X T W (.Constant (.bool b) j pos) (mC (.bl b)):=iz zp fun _ _ _ _=>by unfold Rel;exact⟨rfl,rfl⟩
def ku{j pos}:SE X T W (.Constant .none j pos) (mC .non):=iz wz fun _ _ _ _=>by unfold Rel;exact⟨rfl,rfl⟩
def b0{x j pos}:SE X T W (.Constant (.str x) j pos) (mC (.str x)):=iz ww fun _ _ _ _=>by unfold Rel;exact⟨rfl,rfl⟩
def vX(hN:X.N[i]?=some x)(hv:Vis X.env.scope x)(hd:(x ==("__debug__" : Str))=false:=by decide)(hcd:(x ==("__classdict__" : Str))=false:=by decide):SE X T W (.Name x pos) (ac i) :=
 PE.wk (dv hN hv hd hcd) fun Y H Q ⟨Z,F,env,fp,S,q⟩=>by
  unfold ac at q
  split at q
  ·rename_i pv e
   obtain⟨v,e1,r⟩:=S.rel i pv e
   refine⟨v,e1,q.scal (Gr.refl S.hp.ft) ?_⟩
   exact Rel.lend (fun a h=>⟨i,h⟩) (Rel.tr (fun _ h=>h) (fun _ h=>h) (fun _ h=>h.elim) (fun a o q _=>q) (fun a _ o q=>q) r)
  ·exact q.elim
def tE.bind(S:ap T Z F H Y env fp)(hx:∀c,m env=.exc c->∀H',Ext H H'->W c Y H')(hs:m env≠.stuck)
  (k:∀pv v H' F' f,m env=.ok pv->Gr F H F' H'->Rel T F' Z.B (Own fp) H' pv v f->(∀a∈f,¬F' a)->f.Nodup->(∀a∈f,H a=none)->Q v H'):tE T W m Y H Q:=by
 refine⟨Z,F,env,fp,S,?_⟩
 cases e:m env with
 | ok pv=>exact fun v H' F' f g r h1 h2 h3=>k pv v H' F' f e g r h1 h2 h3
 | exc c=>exact hx c e
 | stuck=>exact hs e
def tA.bind(S:ap T Z F H Y env fp)(hx:∀c,m env=.exc c->∀H',Ext H H'->W c Y H')(hs:m env≠.stuck)
  (k:∀pvs vs H' F' f,m env=.ok pvs->Gr F H F' H'->RelL T F' Z.B (Own fp) H' pvs vs f->(∀a∈f,¬F' a)->f.Nodup->(∀a∈f,H a=none)->Q vs H'):tA T W m Y H Q:=by
 refine⟨Z,F,env,fp,S,?_⟩
 cases e:m env with
 | ok pv=>exact fun v H' F' f g r h1 h2 h3=>k pv v H' F' f e g r h1 h2 h3
 | exc c=>exact hx c e
 | stuck=>exact hs e
def tT.bind(S:ap T Z F H Y env fp)(hx:∀c,m env=.exc c->∀H',Ext H H'->W c Y H')(hs:m env≠.stuck)
  (k:∀b H' F',m env=.ok b->Gr F H F' H'->Q b H'):tT T W m Y H Q:=by
 refine⟨Z,F,env,fp,S,?_⟩
 cases e:m env with
 | ok pv=>exact fun H' F' g=>k pv H' F' e g
 | exc c=>exact hx c e
 | stuck=>exact hs e
def ai:SA X T W [] ak:=PA.wk iJ fun Y H Q ⟨Z,F,env,fp,S,q⟩=>q [] H F [] (Gr.refl S.hp.ft) (by unfold RelL;exact⟨rfl,rfl⟩) (fun _ z=>(nomatch z)) List.nodup_nil (fun _ z=>(nomatch z))
def aa(ha:SE X T W e m)(hr:SA X T W es ms)(hs:starEach (e::es) X.env=(false,eval e X.env)::starEach es X.env:=by rfl):SA X T W (e::es) (ae m ms) :=
 PA.wk (dD ha hr hs) fun Y H Q ⟨Z,F,env,fp,S,q⟩=>by
  unfold ae at q
  refine tE.bind S (fun c e=>by rw[e]at q;exact q) (fun e=>by rw[e]at q;exact q) fun x v H1 F1 f1 e1 g1 r1 n1 d1 w1=>?_
  rw[e1]at q
  simp only[Res.ok_bind]at q
  refine tA.bind (S.grow g1) (fun c e=>by rw[e]at q;exact fun H' x=>q H' (g1.ext.trans x)) (fun e=>by rw[e]at q;exact q) fun xs vs H2 F2 f2 e2 g2 r2 n2 d2 w2=>?_
  rw[e2]at q
  simp only[Res.ok_bind]at q
  have new1:∀a∈f1,¬F2 a:=fun a ha z=>by
   rcases g2.only a z with z | z
   ·exact n1 a ha z
   ·obtain⟨o,ho⟩:=r1.there a ha
    rw[ho]at z;cases z
  refine q (v::vs) H2 F2 (f1++f2) (g1.trans g2) (by unfold RelL;exact⟨v,vs,f1,f2,rfl,r1.ext g2.ext g2.mono,r2,rfl⟩) (fun a ha=>?_) ?_ (fun a ha=>?_)
  ·rcases List.mem_append.mp ha with ha | ha
   ·exact new1 a ha
   ·exact n2 a ha
  ·refine List.nodup_append.mpr ⟨d1,d2,fun a ha b hb z=>?_⟩
   subst z
   obtain⟨o,ho⟩:=r1.there a ha
   rw[w2 a hb]at ho;cases ho
  ·rcases List.mem_append.mp ha with ha | ha
   ·exact w1 a ha
   ·exact g1.ext.free (w2 a ha)
def ao(f:List PV->Res PV)(ms:MA):ME:=fun env=>(ms env).bind f
def Mir(T:Tb)(W:Nat->St->Hp->Prop)(f:List PV->Res PV)(r:List V->Hp->VK->Prop):Prop :=
 ∀(B F L:Addr->Prop) (Y:St) (H:Hp) (Q:VK) (F':Addr->Prop) (H':Hp) (xs:List PV) (vs:List V) (fx:List Addr),Gr F H F' H'->RelL T F' B L H' xs vs fx->(∀a∈fx,¬F' a)->fx.Nodup->(∀a∈fx,H a=none)->
  GE T W B F L Y H Q (f xs)->r vs H' Q
def tA.mir(hm:Mir T W f r)(h:tE T W (ao f ms) Y H Q):tA T W ms Y H fun vs H1=>r vs H1 Q:=by
 obtain⟨Z,F,env,fp,S,q⟩:=h
 unfold ao at q
 refine tA.bind S (fun c e=>by rw[e]at q;exact q) (fun e=>by rw[e]at q;exact q) fun xs vs H1 F1 f1 e1 g1 r1 n1 d1 w1=>?_
 rw[e1]at q
 exact hm Z.B F (Own fp) Y H Q F1 H1 xs vs f1 g1 r1 n1 d1 w1 q
def dP{id:String}{x:Str}{es:List Expr}{f:List PV->Res PV}{r:List V->Hp->VK->Prop}(hc:dz X (.builtin id) r)(hmir:Mir T W f r)(hg:Gl X x)(hm:X.mg x=none)(hv:bootBuiltins x=some (.builtin id))(ha:SA X T W (e::es) ms)
  (hn:x≠"__name__" := by decide) (hdb:(x ==("__debug__" : Str))=false:=by decide)
  (he:starEach (e::es) X.env=(false,eval e X.env)::starEach es X.env:=by rfl) (hpl:(backTo pos (starEach es X.env)).any (·.1)=false:=by rfl):SE X T W (.Call (.Name x p) (e::es) [] pos) (ao f ms) :=
 PE.wk (iI hc hg hm hv ha hn hdb he hpl) fun Y H Q h=>tA.mir hmir h
def jL{id:String}{x:Str}{es:List Expr}{f:List PV->Res PV}{r:List V->Hp->VK->Prop}(hc:dz X (.type id) r)(hmir:Mir T W f r)(hg:Gl X x)(hm:X.mg x=none)(hv:bootBuiltins x=some (.type id))(ha:SA X T W (e::es) ms)
  (hn:x≠"__name__" := by decide) (hdb:(x ==("__debug__" : Str))=false:=by decide)
  (he:starEach (e::es) X.env=(false,eval e X.env)::starEach es X.env:=by rfl) (hpl:(backTo pos (starEach es X.env)).any (·.1)=false:=by rfl):SE X T W (.Call (.Name x p) (e::es) [] pos) (ao f ms) :=
 PE.wk (jR hc hg hm hv ha hn hdb he hpl) fun Y H Q h=>tA.mir hmir h
def gB(T:Tb)(W:Nat->St->Hp->Prop)(f:PV->PV->Res PV)(r:R2):Prop :=
 ∀(B F L:Addr->Prop) (Y:St) (H:Hp) (Q:VK) (F':Addr->Prop) (H':Hp) (x y:PV) (v u:V) (fx fy:List Addr),Gr F H F' H'->Rel T F' B L H' x v fx->Rel T F' B L H' y u fy->(∀a∈fx++fy,¬F' a)->(fx++fy).Nodup->(∀a∈fx++fy,H a=none)->
  GE T W B F L Y H Q (f x y)->r v u H' Q
def tE.mir2(hm:gB T W f r)(h:tE T W (mOp f ma mb) Y H Q):tOp r (tE T W ma) (tE T W mb) Y H Q:=by
 obtain⟨Z,F,env,fp,S,q⟩:=h
 unfold mOp at q
 refine tE.bind S (fun c e=>by rw[e]at q;exact q) (fun e=>by rw[e]at q;exact q) fun x v H1 F1 f1 e1 g1 r1 n1 d1 w1=>?_
 rw[e1]at q
 simp only[Res.ok_bind]at q
 refine tE.bind (S.grow g1) (fun c e=>by rw[e]at q;exact fun H' x=>q H' (g1.ext.trans x)) (fun e=>by rw[e]at q;exact q) fun y u H2 F2 f2 e2 g2 r2 n2 d2 w2=>?_
 rw[e2]at q
 simp only[Res.ok_bind]at q
 have new1:∀a∈f1,¬F2 a:=fun a ha z=>by
  rcases g2.only a z with z | z
  ·exact n1 a ha z
  ·obtain⟨o,ho⟩:=r1.there a ha
   rw[ho]at z;cases z
 refine hm Z.B F (Own fp) Y H Q F2 H2 x y v u f1 f2 (g1.trans g2) (r1.ext g2.ext g2.mono) r2 (fun a ha=>?_) ?_ (fun a ha=>?_) q
 ·rcases List.mem_append.mp ha with ha | ha
  ·exact new1 a ha
  ·exact n2 a ha
 ·refine List.nodup_append.mpr ⟨d1,d2,fun a ha b hb z=>?_⟩
  subst z
  obtain⟨o,ho⟩:=r1.there a ha
  rw[w2 a hb]at ho;cases ho
 ·rcases List.mem_append.mp ha with ha | ha
  ·exact w1 a ha
  ·exact g1.ext.free (w2 a ha)
def g8(ho:OpR X (binaryOp op) r)(hm:gB T W f r)(ha:SE X T W a ma)(hb:SE X T W b mb):SE X T W (.BinOp a op b pos) (mOp f ma mb) :=
 PE.wk (zn (pos:=pos) ho ha hb) fun Y H Q h=>tE.mir2 hm h
def ky(ho:OpR X (compareOp op) r)(hm:gB T W f r)(ha:SE X T W a ma)(hb:SE X T W b mb)(hk:behindInMarks op b=false):SE X T W (.Compare a [op] [b] pos) (mOp f ma mb) :=
 PE.wk (t4 (pos:=pos) ho ha hb hk) fun Y H Q h=>tE.mir2 hm h
def y6(hr:IxR X r)(hm:gB T W f r)(ha:SE X T W a ma)(hb:SE X T W b mb)(hs:ir b):SE X T W (.Subscript a b pos) (mOp f ma mb) :=
 PE.wk (zo (pos:=pos) hr ha hb hs) fun Y H Q h=>tE.mir2 hm h
def iQ(hg:∀i j F B L H,Rel T F B L H (g' i j) (g i j) []):gB T W (jS g') (rI0 g):=by
  intro B F L Y H Q F' H' x y v u fx fy gr rx ry _ _ _ q
  cases x<;>cases y<;>first
    | exact q.elim
    | (unfold Rel at rx ry
       exact⟨_,_,rx.1,ry.1,q.scal gr (hg _ _ _ _ _ _)⟩)
def lH(hc:∀i j,C' i j=true->C i j)(hg:∀i j F B L H,Rel T F B L H (g' i j) (g i j) []):gB T W (c_ C' g') (rI C g):=by
  intro B F L Y H Q F' H' x y v u fx fy gr rx ry _ _ _ q
  cases x<;>cases y<;>first
    | exact q.elim
    | (unfold Rel at rx ry
       simp only[c_]at q
       split at q
       . rename_i hh
         exact⟨_,_,rx.1,ry.1,hc _ _ hh,q.scal gr (hg _ _ _ _ _ _)⟩
       . exact q.elim)
def el:Rel T F B L H (.int i) (.int i) []:=by unfold Rel;exact⟨rfl,rfl⟩
def gE:Rel T F B L H (.bl i) (.bl i) []:=by unfold Rel;exact⟨rfl,rfl⟩
def wd:Rel T F B L H .non .non []:=by unfold Rel;exact⟨rfl,rfl⟩
def qA:PV->PV->Res PV:=jS fun i j=>.int (i - j)
def iK:PV->PV->Res PV:=c_ (fun i j=>decide ((-(2 ^ 64) < i/\i < 2 ^ 64)\/(-(2 ^ 64) < j/\j < 2 ^ 64))) fun i j=>.int (i * j)
def aW:PV->PV->Res PV:=c_ (fun _ j=>decide (0 < j)) fun i j=>.int (i % j)
def aS:PV->PV->Res PV:=c_ (fun _ j=>decide (0 < j/\j < 1073741824)) fun i j=>.int (i / j)
def ju:PV->PV->Res PV:=c_ (fun i j=>decide (0<=j/\j<=1000000/\i.natAbs < 2 ^ 64)) fun i j=>.int (i ^ j.toNat)
def pLt:PV->PV->Res PV:=jS fun i j=>.bl (decide (i < j))
def pGt:PV->PV->Res PV:=jS fun i j=>.bl (decide (j < i))
def pGe:PV->PV->Res PV:=jS fun i j=>.bl (decide (j<=i))
variable{a b:Expr}{ma mb:ME}{pos:Pos}
def mQ(ha:SE X T W a ma)(hb:SE X T W b mb):SE X T W (.BinOp a .Sub b pos) (mOp qA ma mb):=g8 wE (iQ fun _ _ _ _ _ _=>el) ha hb
def kx(ha:SE X T W a ma)(hb:SE X T W b mb):SE X T W (.BinOp a .Mult b pos) (mOp iK ma mb):=g8 wI (lH (fun i j h=>(by simpa using h:(-(2 ^ 64) < i/\i < 2 ^ 64)\/(-(2 ^ 64) < j/\j < 2 ^ 64))) fun _ _ _ _ _ _=>el) ha hb
def aC(ha:SE X T W a ma)(hb:SE X T W b mb):SE X T W (.BinOp a .Mod b pos) (mOp aW ma mb):=g8 wJ (lH (fun _ _ h=>of_decide_eq_true h) fun _ _ _ _ _ _=>el) ha hb
def aR(ha:SE X T W a ma)(hb:SE X T W b mb):SE X T W (.BinOp a .FloorDiv b pos) (mOp aS ma mb):=g8 ub (lH (fun i j h=>(by simpa using h:0 < j/\j < 1073741824)) fun _ _ _ _ _ _=>el) ha hb
def mR(ha:SE X T W a ma)(hb:SE X T W b mb):SE X T W (.BinOp a .Pow b pos) (mOp ju ma mb):=g8 wH (lH (fun i j h=>(by simpa using h:0<=j/\j<=1000000/\i.natAbs < 2 ^ 64)) fun _ _ _ _ _ _=>el) ha hb
def y2(ha:SE X T W a ma)(hb:SE X T W b mb):SE X T W (.Compare a [.Lt] [b] pos) (mOp pLt ma mb):=ky vk (iQ fun _ _ _ _ _ _=>gE) ha hb (dJ _)
end
def GS(T:Tb)(W:Nat->St->Hp->Prop)(Z:Zn)(D:Ends):Out->Prop
 | .next e=>∀F H Y fp,ap T Z F H Y e fp->D.nx Y H
 | .ret pv=>∀F H v f,bz T Z F H->Rel T F Z.B NoL H pv v f->f.Nodup->(∀a∈f,¬F a)->(∀a∈f,Z.H0 a=none\/Z.fp0 a)->D.rt v H
 | .brk e=>∀F H Y fp,ap T Z F H Y e fp->D.bk Y H
 | .cont e=>∀F H Y fp,ap T Z F H Y e fp->D.ct Y H
 | .exc c e=>∀F H Y fp,ap T Z F H Y e fp->W c Y H
 | .stuck=>False
def tS(T:Tb)(W:Nat->St->Hp->Prop)(m:MS):TS:=fun D Y H=>∃Z F env fp,ap T Z F H Y env fp/\GS T W Z D (m env)
abbrev SS(X:Cx)(T:Tb)(W:Nat->St->Hp->Prop)(st:Stmt)(m:MS):Prop:=PS X st (tS T W m)
abbrev SSs(X:Cx)(T:Tb)(W:Nat->St->Hp->Prop)(sts:List Stmt)(m:MS):Prop:=PSs X sts (tS T W m)
def qP{p:Fl->Bool}(hL:p .lnt=false->∀a,L a->L' a)(hB:p .bor=false->∀a,B a->B' a):Mp T (fun f=>f) p (fun x=>x) (fun _=>True) F B L H F B' L' H :=
 ⟨fun f a vs q _ h=>by
  cases f with
  | lnt=>exact⟨hL q a h.1,h.2⟩
  | bor=>exact⟨hB q a h.1,h.2⟩
  | _=>exact h,fun f a q _ h=>⟨by
  cases f with
  | lnt=>exact hL q a h
  | bor=>exact hB q a h
  | _=>exact h,fun _ q=>q⟩,fun _ _ _ _ h=>h,rfl,fun _ _=>rfl,fun _ _ q _=>q⟩
def Rel.noL(hp:x.has Fl.isLnt=false)(h:Rel T F B L H x v fo):Rel T F B L' H x v fo:=by
 have:=(qP (p:=Fl.isLnt) (L':=L') (fun z=>(nomatch z)) (fun _ _ q=>q)).rel hp (fun _ _=>True.intro) h
 rwa [im]at this
def RelL.noL(hp:hasL Fl.isLnt x=false)(h:RelL T F B L H x v fo):RelL T F B L' H x v fo:=by
 have:=(qP (p:=Fl.isLnt) (L':=L') (fun z=>(nomatch z)) (fun _ _ q=>q)).rels hp (fun _ _=>True.intro) h
 rwa [mapL_id]at this
section
variable{X:Cx}{T:Tb}{W:Nat->St->Hp->Prop}{Z:Zn}{F F' B L:Addr->Prop}{H H':Hp}{Y:St}{env:En}{fp:Nat->List Addr}{D:Ends}
def a5(fp:Nat->List Addr)(i:Nat)(f:List Addr):Nat->List Addr:=fun j=>if j=i then f else fp j
def ap.put(S:ap T Z F H Y env fp){i:Nat}{pv:PV}{v:V}{f:List Addr}(r:Rel T F Z.B NoL H pv v f)(nd:f.Nodup)(nf:∀a∈f,¬F a)(new:∀a∈f,Z.H0 a=none\/Z.fp0 a)(dj:∀a∈f,∀j,j≠i->a∉fp j)(ho:aY i env=true) :
  ap T Z F H (Y.set i (some v)) (env.set i (some pv)) (a5 fp i f):=by
 refine⟨S.hp,by rw[List.length_set,List.length_set,S.len],fun j pv' e=>?_,fun j=>?_,fun j k hjk a ha=>?_,fun j a ha=>?_,fun j a ha=>?_,fun j a ha=>?_,fun w hw=>?_⟩
 ·grind[a5,ap,bz,Gr]
 ·unfold a5;split
  ·exact nd
  ·exact S.nd j
 ·grind[a5,ap,bz,Gr]
 ·unfold a5 at ha
  by_cases h1:j=i
  ·rw[if_pos h1]at ha;exact⟨nf a ha,r.there a ha⟩
  ·rw[if_neg h1]at ha;exact S.dis j a ha
 ·unfold a5 at ha
  by_cases h1:j=i
  ·rw[if_pos h1]at ha;exact new a ha
  ·rw[if_neg h1]at ha;exact S.new j a ha
 ·unfold a5 at ha
  by_cases h1:j=i
  ·rw[if_pos h1]at ha;exact r.chg a ha
  ·rw[if_neg h1]at ha;exact S.ch j a ha
 ·obtain⟨h1,h2⟩:=S.pn w hw
  have hi:i≠0:=fun z=>by
   rw[z]at ho
   simp[aY,h2]at ho
  refine⟨by rw[List.getElem?_set_ne hi];exact h1,?_⟩
  unfold cE at h2 ⊢
  rw[List.getElem?_set_ne hi]
  exact h2
def ap.putN(S:ap T Z F H Y env fp)(g:Gr F H F' H'){i:Nat}{pv:PV}{v:V}{f:List Addr}(ho:aY i env=true)(r:Rel T F' Z.B L H' pv v f)(hl:pv.noLnt=true)(nf:∀a∈f,¬F' a)(nd:f.Nodup)(w:∀a∈f,H a=none) :
  ap T Z F' H' (Y.set i (some v)) (env.set i (some pv)) (a5 fp i f):=by
 refine(S.grow g).put (Rel.noL (by simpa[PV.noLnt]using hl) r) nd nf (fun a ha=>?_) (fun a ha j _ hj=>?_) ho
 ·by_cases q:Z.fp0 a
  ·exact .inr q
  ·refine .inl ?_
   cases e:Z.H0 a with
   | none=>rfl
   | some o =>
    have:=S.hp.keep a o e q
    rw[w a ha]at this;cases this
 ·obtain⟨_,o,ho⟩:=S.dis j a hj
  rw[w a ha]at ho;cases ho
def aG:SSs X T W [] aF:=PSs.wk tU fun D Y H ⟨Z,F,env,fp,S,q⟩=>q F H Y fp S
def af{aV:List Stmt}(h1:SS X T W st a)(h2:SSs X T W aV b):SSs X T W (st::aV) (aq a b) :=
 PSs.wk (qm h1 h2) fun D Y H ⟨Z,F,env,fp,S,q⟩=>by
  refine⟨Z,F,env,fp,S,?_⟩
  unfold aq at q
  cases e:a env with
  | next e'=>rw[e]at q;exact fun F' H' σ' fp' S'=>⟨Z,F',e',fp',S',q⟩
  | ret v | brk e' | cont e' | exc c e' | stuck=>rw[e]at q;exact q
def am(h1:SS X T W st a):SSs X T W [st] a:=tR h1
def aO(hc:ST X T W c mc)(ha:SSs X T W a ma)(hb:SSs X T W b mb):SS X T W (.If c a b pos) (mBr mc ma mb) :=
 PS.wk (zh (pos:=pos) hc ha hb) fun D Y H ⟨Z,F,env,fp,S,q⟩=>by
  unfold mBr at q
  refine tT.bind S (fun c e H' x=>?_) (fun e=>by rw[e]at q;exact q) fun b H' F' e g=>?_
  ·rw[e]at q
   exact q F H' Y fp (S.grow (Gr.same S.hp.ft x))
  ·cases b with
   | true=>rw[e]at q;exact(if_pos rfl).mpr ⟨Z,F',env,fp,S.grow g,q⟩
   | false=>rw[e]at q;exact(if_neg (by decide)).mpr ⟨Z,F',env,fp,S.grow g,q⟩
def vU(hN:X.N.Nodup)(hi:X.N[i]?=some x)(hx:Loc X.env.scope x)(he:SE X T W e m)(hs:swapsWith e (some (.Name x pos')) pos.line X.env=pure false:=by rfl)
  (hf:X.fn x=true\/X.env.scope.names.lookup x=some .local:=by first | exact .inl rfl | exact .inr rfl | assumption):SS X T W (.Assign [.Name x pos'] e pos) (aE i m) :=
 PS.wk (wp (pos:=pos) hN hi hx he hs hf) fun D Y H ⟨Z,F,env,fp,S,q⟩=>by
  unfold aE at q
  refine tE.bind S (fun c e H' x=>?_) (fun e=>by rw[e]at q;exact q) fun pv v H1 F1 f e g r h1 h2 h3=>?_
  ·rw[e]at q
   exact q F H' Y fp (S.grow (Gr.same S.hp.ft x))
  ·rw[e]at q
   simp only at q
   split at q
   ·rename_i hl
    rw[Bool.and_eq_true]at hl
    exact q F1 H1 _ _ (S.putN g hl.2 r hl.1 h1 h2 h3)
   ·exact q.elim
def bz.newE(S:bz T Z F H){f:List Addr}(w:∀a∈f,H a=none):∀a∈f,Z.H0 a=none\/Z.fp0 a:=fun a ha=>by
 by_cases q:Z.fp0 a
 ·exact .inr q
 ·refine .inl ?_
  cases e:Z.H0 a with
  | none=>rfl
  | some o =>
   have:=S.keep a o e q
   rw[w a ha]at this;cases this
def aK(he:SE X T W e m):SS X T W (.Return (some e) pos) (bI m) :=
 PS.wk (mX (pos:=pos) he) fun D Y H ⟨Z,F,env,fp,S,q⟩=>by
  unfold bI at q
  refine tE.bind S (fun c e H' x=>?_) (fun e=>by rw[e]at q;exact q) fun pv v H1 F1 f e g r h1 h2 h3=>?_
  ·rw[e]at q
   exact q F H' Y fp (S.grow (Gr.same S.hp.ft x))
  ·rw[e]at q
   simp only at q
   split at q
   ·rename_i hl
    exact q F1 H1 v f (S.hp.grow g) (Rel.noL (by simpa[PV.noLnt]using hl) r) h2 h1 (S.hp.newE h3)
   ·exact q.elim
def cw(hN:X.N[i]?=some x)(hv:Vis X.env.scope x)(hd:(x ==("__debug__" : Str))=false:=by decide)(hcd:(x ==("__classdict__" : Str))=false:=by decide):SS X T W (.Return (some (.Name x pos')) pos) (cm i) :=
 PS.wk (mX (pos:=pos) (dv hN hv hd hcd)) fun D Y H ⟨Z,F,env,fp,S,q⟩=>by
  unfold cm at q
  split at q
  ·rename_i pv e
   obtain⟨v,e1,r⟩:=S.rel i pv e
   exact⟨v,e1,q F H v (fp i) S.hp r (S.nd i) (fun a ha=>(S.dis i a ha).1) (S.new i)⟩
  ·exact q.elim
def eY(he:SE X T W e m)(hs:swapsWith e none pos.line X.env=pure false:=by rfl):SS X T W (.Expr e pos) (eF m) :=
 PS.wk (gd (pos:=pos) he hs) fun D Y H ⟨Z,F,env,fp,S,q⟩=>by
  unfold eF at q
  refine tE.bind S (fun c e H' x=>?_) (fun e=>by rw[e]at q;exact q) fun pv v H1 F1 f e g r h1 h2 h3=>?_
  ·rw[e]at q
   exact q F H' Y fp (S.grow (Gr.same S.hp.ft x))
  ·rw[e]at q
   exact q F1 H1 Y fp (S.grow g)
def jV(hF:∀a,F a->F' a):Mp T Fl.freeze (fun _=>false) (fun _=>[]) F' F B L H F' B L H :=
 ⟨fun f a vs _ c h=>by
  cases f with
  | own=>exact⟨c rfl,.inl h⟩
  | frz=>exact⟨hF a h.1,h.2⟩
  | _=>exact h,fun f a _ c h=>⟨by
  cases f with
  | own=>exact c rfl
  | frz=>exact hF a h
  | _=>exact h,fun _ q=>q⟩,fun f a x y h=>by cases f<;>exact⟨rfl,rfl⟩,rfl,fun _ _=>rfl,fun _ _ q _=>q⟩
def Rel.freeze(hF:∀a,F a->F' a)(hp:∀a∈fo,F' a)(h:Rel T F B L H x v fo):Rel T F' B L H (x.mapF Fl.freeze) v []:=(jV hF).rel (i8 x) hp h
def RelL.freeze(hF:∀a,F a->F' a)(hp:∀a∈fo,F' a)(h:RelL T F B L H x v fo):RelL T F' B L H (mapL Fl.freeze x) v []:=(jV hF).rels (has_noL x) hp h
def ap.frz(S:ap T Z F H Y env fp){i:Nat}{pv:PV}(e:env[i]?=some (some pv)):ap T Z (fun a=>F a\/a∈fp i) H Y (env.set i (some (pv.mapF Fl.freeze))) (a5 fp i []):=by
 have hi:i < env.length:=(List.getElem?_eq_some_iff.mp e).1
 refine⟨⟨S.hp.bo,S.hp.keep,fun a h=>.inl (S.hp.f0 a h),fun a h=>h.elim (S.hp.fn a) fun z=>.inr (S.new i a z),fun a h=>h.elim (S.hp.ft a) fun z=>(S.dis i a z).2⟩,by rw[List.length_set,S.len],fun j pv' e'=>?_,fun j=>?_,fun j k hjk a ha=>?_,fun j a ha=>?_,fun j a ha=>?_,fun j a ha=>?_,fun w hw=>?_⟩
 ·by_cases hj:j=i
  ·subst hj
   rw[List.getElem?_set_self hi]at e'
   cases e'
   obtain⟨v,h1,h2⟩:=S.rel j pv e
   refine⟨v,h1,?_⟩
   unfold a5
   rw[if_pos rfl]
   exact Rel.freeze (fun _ h=>.inl h) (fun a h=>.inr h) h2
  ·rw[List.getElem?_set_ne (Ne.symm hj)]at e'
   obtain⟨w,h1,h2⟩:=S.rel j pv' e'
   refine⟨w,h1,?_⟩
   unfold a5
   rw[if_neg hj]
   exact h2.ext Ext.refl fun _ h=>.inl h
 ·unfold a5;split
  ·exact List.nodup_nil
  ·exact S.nd j
 ·grind[a5,ap,bz,Gr]
 ·unfold a5 at ha
  by_cases h1:j=i
  ·rw[if_pos h1]at ha;cases ha
  ·rw[if_neg h1]at ha
   exact⟨fun z=>z.elim (S.dis j a ha).1 fun z=>S.dj j i h1 a ha z,(S.dis j a ha).2⟩
 ·unfold a5 at ha
  by_cases h1:j=i
  ·rw[if_pos h1]at ha;cases ha
  ·rw[if_neg h1]at ha;exact S.new j a ha
 ·unfold a5 at ha
  by_cases h1:j=i
  ·rw[if_pos h1]at ha;cases ha
  ·rw[if_neg h1]at ha;exact S.ch j a ha
 ·obtain⟨h1,h2⟩:=S.pn w hw
  refine⟨h1,?_⟩
  unfold cE at h2 ⊢
  by_cases hi0:i=0
  ·subst hi0
   rw[e]at h2
   rw[List.getElem?_set_self hi]
   cases pv<;>first | exact h2 |(cases h2;done) | rfl
  ·rw[List.getElem?_set_ne hi0]
   exact h2
def iu{i:Nat}{sts:List Stmt}(h:SSs X T W sts m):SSs X T W sts (aq (iV i) m):=PSs.wk h fun D Y H ⟨Z,F,env,fp,S,q⟩=>by
 cases e:env[i]? with
 | none=>simp[aq,iV,e]at q;exact q.elim
 | some w =>
  cases w with
  | none=>simp[aq,iV,e]at q;exact q.elim
  | some pv =>
   simp only[aq,iV,e]at q
   exact⟨Z,_,_,_,S.frz e,q⟩
def Zn.re(Z:Zn)(F:Addr->Prop)(H:Hp)(fp:Nat->List Addr):Zn:=⟨H,F,Own fp,Z.B,Z.pin⟩
def ap.enter(S:ap T Z F H Y env fp):ap T (Z.re F H fp) F H Y env fp :=
 ⟨⟨⟨fun a h=>by
   obtain⟨⟨o,h1⟩,h2⟩:=S.hp.bo.1 a h
   refine⟨⟨o,S.hp.keep a o h1 h2⟩,fun⟨i,hi⟩=>?_⟩
   rcases S.new i a hi with z | z
   ·rw[h1]at z;cases z
   ·exact h2 z,S.tbo Ext.refl fun _ z=>.inr z⟩,fun _ _ h _=>h,fun _ h=>h,fun _ h=>.inl h,S.hp.ft⟩,S.len,S.rel,S.nd,S.dj,S.dis,fun i a ha=>.inr ⟨i,ha⟩,S.ch,S.pn⟩
def bz.leave(S:ap T Z F H Y env fp)(S':bz T (Z.re F H fp) F' H'):bz T Z F' H' :=
 ⟨S.hp.bo,fun a o h n=>S'.keep a o (S.hp.keep a o h n) fun ⟨i,hi⟩=>by
   rcases S.new i a hi with z | z
   ·rw[h]at z;cases z
   ·exact n z,fun a h=>S'.f0 a (S.hp.f0 a h),fun a h=>by
  rcases S'.fn a h with z | z |⟨i,hi⟩
  ·exact S.hp.fn a z
  ·refine .inr ?_
   by_cases q:Z.fp0 a
   ·exact .inr q
   ·refine .inl ?_
    cases w:Z.H0 a with
    | none=>rfl
    | some o =>
     have z':H a=none:=z
     rw[S.hp.keep a o w q]at z';cases z'
  ·exact .inr (S.new i a hi),S'.ft⟩
def ap.newL(S:ap T Z F H Y env fp)(h:(Z.re F H fp).H0 a=none \/(Z.re F H fp).fp0 a):Z.H0 a=none\/Z.fp0 a:=by
 rcases h with z |⟨i,hi⟩
 ·by_cases q:Z.fp0 a
  ·exact .inr q
  ·refine .inl ?_
   cases w:Z.H0 a with
   | none=>rfl
   | some o =>
    have z':H a=none:=z
    rw[S.hp.keep a o w q]at z';cases z'
 ·exact S.new i a hi
def ap.leave(S:ap T Z F H Y env fp)(S':ap T (Z.re F H fp) F' H' σ' env' fp'):ap T Z F' H' σ' env' fp' :=
 ⟨bz.leave S S'.hp,S'.len,S'.rel,S'.nd,S'.dj,S'.dis,fun i a ha=>S.newL (S'.new i a ha),S'.ch,S'.pn⟩
abbrev SW(X:Cx)(T:Tb)(W:Nat->St->Hp->Prop)(e:Expr)(m:MT):Prop:=PW X e (tT T W m)
def tT.test(h:tT T W (ar m) Y H Q):tE T W m Y H fun x H'=>∃k,x=.bl k/\Q k H':=by
 obtain⟨Z,F,env,fp,S,q⟩:=h
 unfold ar at q
 refine tE.bind S (fun c e=>by rw[e]at q;exact q) (fun e=>by rw[e]at q;exact q) fun x v H1 F1 f1 e1 g1 r1 n1 d1 w1=>?_
 rw[e1]at q
 cases x with
 | bl b =>
  unfold Rel at r1
  exact⟨b,r1.1,q H1 F1 g1⟩
 | _=>exact q.elim
def d_(ho:OpR X (compareOp op) r)(hm:gB T W f r)(ha:SE X T W a ma)(hb:SE X T W b mb)(hk:behindInMarks op b=false):ST X T W (.Compare a [op] [b] pos) (ar (mOp f ma mb)) :=
 PT.wk (tQ (pos:=pos) ho ha hb hk) fun Y H Q h=>by
  obtain⟨Z,F,env,fp,S,q⟩:=tT.test h
  exact tE.mir2 hm ⟨Z,F,env,fp,S,q⟩
def dg(h:ST X T W a m):SW X T W (.BoolOp .And [a] pos) m:=tP h
def d6(h:ST X T W a m):SW X T W (.BoolOp .Or [a] pos) m:=wn h
def dG{aV:List Expr}(h:ST X T W a m)(h2:SW X T W (.BoolOp .And (b::aV) pos) n):SW X T W (.BoolOp .And (a::b::aV) pos) (df m n):=PW.wk (wo h h2) fun Y H Q ⟨Z,F,env,fp,S,q⟩=>by
 unfold df at q
 refine tT.bind S (fun c e=>by rw[e]at q;exact q) (fun e=>by rw[e]at q;exact q) fun b H1 F1 e1 g1=>?_
 rw[e1]at q
 cases b with
 | true =>
  refine(if_pos rfl).mpr ⟨Z,F1,env,fp,S.grow g1,?_⟩
  simp only[Res.ok_bind,if_true]at q
  cases e2:n env with
  | ok b=>rw[e2]at q;exact fun H2 F2 g2=>q H2 F2 (g1.trans g2)
  | exc c=>rw[e2]at q;exact fun H' x=>q H' (g1.ext.trans x)
  | stuck=>rw[e2]at q;exact q
 | false=>exact(if_neg (by decide)).mpr (q H1 F1 g1)
def fR{aV:List Expr}(h:ST X T W a m)(h2:SW X T W (.BoolOp .Or (b::aV) pos) n):SW X T W (.BoolOp .Or (a::b::aV) pos) (fm m n):=PW.wk (zg h h2) fun Y H Q ⟨Z,F,env,fp,S,q⟩=>by
 unfold fm at q
 refine tT.bind S (fun c e=>by rw[e]at q;exact q) (fun e=>by rw[e]at q;exact q) fun b H1 F1 e1 g1=>?_
 rw[e1]at q
 cases b with
 | false =>
  refine(if_neg (by decide)).mpr ⟨Z,F1,env,fp,S.grow g1,?_⟩
  simp only[Res.ok_bind,Bool.false_eq_true,if_false]at q
  cases e2:n env with
  | ok b=>rw[e2]at q;exact fun H2 F2 g2=>q H2 F2 (g1.trans g2)
  | exc c=>rw[e2]at q;exact fun H' x=>q H' (g1.ext.trans x)
  | stuck=>rw[e2]at q;exact q
 | true=>exact(if_pos rfl).mpr (q H1 F1 g1)
def SW.st(h:SW X T W e m):ST X T W e m:=PW.pt h
def cU(hK:X.K=T.K)(h:SE X T W a m)(he:∀whole,isTrue a X.env whole=(do let v <- whole;standAt a.pos;holding [v] (truthy v)):=by intro _;rfl):ST X T W a (cM m):=PT.wk (ql h he) fun Y H Q ⟨Z,F,env,fp,S,q⟩=>by
 unfold cM at q
 refine tE.bind S (fun c e=>by rw[e]at q;exact q) (fun e=>by rw[e]at q;exact q) fun x v H1 F1 f1 e1 g1 r1 n1 d1 w1=>?_
 rw[e1]at q
 rw[hK]
 cases x with
 | non=>unfold Rel at r1;rw[r1.1];exact⟨false,rfl,q H1 F1 g1⟩
 | bl b=>unfold Rel at r1;rw[r1.1];exact⟨b,rfl,q H1 F1 g1⟩
 | int i=>unfold Rel at r1;rw[r1.1];exact⟨_,rfl,q H1 F1 g1⟩
 | str i=>exact q.elim
 | lst f xs =>
  unfold Rel at r1
  obtain⟨a,vs,fp',rfl,hl,hr,_⟩:=r1
  have hl':SqL T.K H1 a vs:=hl.sq
  have e:(!xs.isEmpty)=!vs.isEmpty:=by
   have:=hr.length
   cases xs<;>cases vs<;>simp_all
  exact⟨_,.inl ⟨vs,hl',rfl⟩,by rw[<- e];exact q H1 F1 g1⟩
 | tup xs =>
  unfold Rel at r1
  obtain⟨a,vs,rfl,hl,hr⟩:=r1
  have e:(!xs.isEmpty)=!vs.isEmpty:=by
   have:=hr.length
   cases xs<;>cases vs<;>simp_all
  exact⟨_,.inr (.inl ⟨vs,hl,rfl⟩),by rw[<- e];exact q H1 F1 g1⟩
 | obj f c ks xs | exc c | box k xs=>exact q.elim
def iB(hc:ST X T W c mc)(ha:SE X T W a ma)(hb:SE X T W b mb):SE X T W (.IfExp c a b pos) (pA mc ma mb):=PE.wk (qy (pos:=pos) hc ha hb) fun Y H Q ⟨Z,F,env,fp,S,q⟩=>by
 unfold pA at q
 refine tT.bind S (fun c e=>by rw[e]at q;exact q) (fun e=>by rw[e]at q;exact q) fun b H1 F1 e1 g1=>?_
 rw[e1]at q
 have lift:∀m:ME,GE T W Z.B F (Own fp) Y H Q (m env)->tE T W m Y H1 Q:=fun m q=>by
  refine⟨Z,F1,env,fp,S.grow g1,?_⟩
  cases e2:m env with
  | ok b=>rw[e2]at q;exact fun v H2 F2 f g2 r n d w=>q v H2 F2 f (g1.trans g2) r n d fun a ha=>g1.ext.free (w a ha)
  | exc c=>rw[e2]at q;exact fun H' x=>q H' (g1.ext.trans x)
  | stuck=>rw[e2]at q;exact q
 cases b with
 | true=>exact(if_pos rfl).mpr (lift ma q)
 | false=>exact(if_neg (by decide)).mpr (lift mb q)
def iU(a:ME):ME:=fun env=>(a env).bind fun
 | .bl b=>.ok (.bl (!b))
 | _=>.stuck
def eG(a b:ME):ME:=fun env=>(a env).bind fun
 | .bl true=>b env
 | .bl false=>.ok (.bl false)
 | _=>.stuck
def eJ(a b:ME):ME:=fun env=>(a env).bind fun
 | .bl false=>b env
 | .bl true=>.ok (.bl true)
 | _=>.stuck
def qc(ha:SE X T W a ma):SE X T W (.UnaryOp .Not a pos) (iU ma):=PE.wk (wy (pos:=pos) ha) fun Y H Q ⟨Z,F,env,fp,S,q⟩=>by
 unfold iU at q
 refine tE.bind S (fun c e=>by rw[e]at q;exact q) (fun e=>by rw[e]at q;exact q) fun x v H1 F1 f1 e1 g1 r1 n1 d1 w1=>?_
 rw[e1]at q
 cases x with
 | bl b=>unfold Rel at r1;exact⟨b,r1.1,q.scal g1 gE⟩
 | _=>exact q.elim
def fD(ha:SE X T W a ma):SE X T W (.BoolOp op [a] pos) ma:=wx ha
def tE.later(S:ap T Z F H Y env fp)(g1:Gr F H F' H')(q:GE T W Z.B F (Own fp) Y H Q (m env)):tE T W m Y H' Q:=by
 refine⟨Z,F',env,fp,S.grow g1,?_⟩
 cases e2:m env with
 | ok b=>rw[e2]at q;exact fun v H2 F2 f g2 r n d w=>q v H2 F2 f (g1.trans g2) r n d fun a ha=>g1.ext.free (w a ha)
 | exc c=>rw[e2]at q;exact fun H' x=>q H' (g1.ext.trans x)
 | stuck=>rw[e2]at q;exact q
def iC{aV:List Expr}(ha:SE X T W a ma)(hb:SE X T W (.BoolOp .And (b::aV) pos) mb):SE X T W (.BoolOp .And (a::b::aV) pos) (eG ma mb):=PE.wk (wD ha hb) fun Y H Q ⟨Z,F,env,fp,S,q⟩=>by
 unfold eG at q
 refine tE.bind S (fun c e=>by rw[e]at q;exact q) (fun e=>by rw[e]at q;exact q) fun x v H1 F1 f1 e1 g1 r1 n1 d1 w1=>?_
 rw[e1]at q
 cases x with
 | bl b =>
  unfold Rel at r1
  refine⟨b,r1.1,?_⟩
  cases b with
  | true=>exact(if_pos rfl).mpr (tE.later S g1 q)
  | false=>exact(if_neg (by decide)).mpr (q.scal g1 gE)
 | _=>exact q.elim
def lx{aV:List Expr}(ha:SE X T W a ma)(hb:SE X T W (.BoolOp .Or (b::aV) pos) mb):SE X T W (.BoolOp .Or (a::b::aV) pos) (eJ ma mb):=PE.wk (zm ha hb) fun Y H Q ⟨Z,F,env,fp,S,q⟩=>by
 unfold eJ at q
 refine tE.bind S (fun c e=>by rw[e]at q;exact q) (fun e=>by rw[e]at q;exact q) fun x v H1 F1 f1 e1 g1 r1 n1 d1 w1=>?_
 rw[e1]at q
 cases x with
 | bl b =>
  unfold Rel at r1
  refine⟨b,r1.1,?_⟩
  cases b with
  | false=>exact(if_neg (by decide)).mpr (tE.later S g1 q)
  | true=>exact(if_pos rfl).mpr (q.scal g1 gE)
 | _=>exact q.elim
def By(T:Tb)(W:Nat->St->Hp->Prop)(f:PV->Res PV)(r:V->Hp->VK->Prop):Prop :=
 ∀(B F L:Addr->Prop) (Y:St) (H:Hp) (Q:VK) (F':Addr->Prop) (H':Hp) (x:PV) (v:V) (fx:List Addr),Gr F H F' H'->Rel T F' B L H' x v fx->(∀a∈fx,¬F' a)->fx.Nodup->(∀a∈fx,H a=none)->GE T W B F L Y H Q (f x)->r v H' Q
def tE.mir1(hm:By T W f r)(h:tE T W (mUn f m) Y H Q):tUn r (tE T W m) Y H Q:=by
 obtain⟨Z,F,env,fp,S,q⟩:=h
 unfold mUn at q
 refine tE.bind S (fun c e=>by rw[e]at q;exact q) (fun e=>by rw[e]at q;exact q) fun x v H1 F1 f1 e1 g1 r1 n1 d1 w1=>?_
 rw[e1]at q
 exact hm Z.B F (Own fp) Y H Q F1 H1 x v f1 g1 r1 n1 d1 w1 q
def m4:PV->Res PV
 | .int i=>.ok (.int (-i))
 | _=>.stuck
def mS(ha:SE X T W a m):SE X T W (.UnaryOp .USub a pos) (mUn m4 m):=PE.wk (zk (pos:=pos) vM ha) fun Y H Q h=>tE.mir1 (fun B F L Y H Q F' H' x v fx g r _ _ _ q=>by
 cases x with
 | int i=>unfold Rel at r;exact⟨i,r.1,q.scal g el⟩
 | _=>exact q.elim) h
def bU(k:Nat):List Nat->List PV->Option PV
 | j::ks,v::vs=>if j=k then some v else bU k ks vs
 | _,_=>none
def Fl.isOwn:Fl->Bool
 | .own=>true
 | _=>false
def av(k:Nat):PV->Res PV
 | .obj f _ ks vs=>match bU k ks vs with
  | some v=>if f.isOwn&&v.has Fl.isOwn then .stuck else .ok v
  | none=>.stuck
 | _=>.stuck
mutual
def Rel.noOwn:∀{x:PV}{v:V}{fp:List Addr},x.has Fl.isOwn=false->Rel T F B L H x v fp->fp=[]
 | .non,_,_,_,h | .bl _,_,_,_,h | .int _,_,_,_,h | .str _,_,_,_,h=>by unfold Rel at h;exact h.2
 | .lst f xs,_,fp,hp,h=>by
  unfold Rel at h
  simp only[PV.has,Bool.or_eq_false_iff]at hp
  obtain⟨a,vs,fp',e,hl,hr,hf⟩:=h
  cases f with
  | own=>exact absurd hp.1 (by decide)
  | frz | bor | lnt | mod=>exact hf.2
 | .tup xs,_,fp,hp,h=>by
  unfold Rel at h
  simp only[PV.has]at hp
  obtain⟨a,vs,e,hl,hr⟩:=h
  exact RelL.noOwn hp hr
 | .obj f c ks xs,_,fp,hp,h=>by
  unfold Rel at h
  simp only[PV.has,Bool.or_eq_false_iff]at hp
  obtain⟨a,dx,vs,fp',e,hl,hk,hr,hf,ha⟩:=h
  cases f with
  | own=>exact absurd hp.1 (by decide)
  | frz | bor | lnt | mod=>exact hf.2
 | .exc c,_,fp,hp,h=>by
  unfold Rel at h
  obtain⟨a,_,_,e⟩:=h
  exact e
 | .box k xs,_,fp,hp,h=>by
  unfold Rel at h
  obtain⟨a,vs,e,hl,hr⟩:=h
  exact RelL.noOwn hp hr
def RelL.noOwn:∀{xs:List PV}{vs:List V}{fp:List Addr},hasL Fl.isOwn xs=false->RelL T F B L H xs vs fp->fp=[]
 | [],_,_,_,h=>by unfold RelL at h;exact h.2
 | x::xs,_,fp,hp,h=>by
  unfold RelL at h
  simp only[hasL,Bool.or_eq_false_iff]at hp
  obtain⟨v,ws,f1,f2,e,h1,h2,rfl⟩:=h
  rw[Rel.noOwn hp.1 h1,RelL.noOwn hp.2 h2]
  rfl
end
def RelL.get:∀{xs:List PV}{vs:List V}{fp:List Addr}{i:Nat}{x:PV},RelL T F B L H xs vs fp->xs[i]?=some x->∃v f,vs[i]?=some v/\Rel T F B L H x v f/\f.Sublist fp
 | [],_,_,_,_,_,e=>by simp at e
 | y::xs,_,fp,0,x,h,e=>by
  unfold RelL at h
  grind
 | y::xs,_,fp,i+1,x,h,e=>by
  unfold RelL at h
  obtain⟨v,ws,f1,f2,rfl,h1,h2,rfl⟩:=h
  obtain⟨w,f,e1,r,s⟩:=RelL.get (i:=i) h2 (by simpa using e)
  exact⟨w,f,by simpa using e1,r,s.trans (List.sublist_append_right _ _)⟩
def lP:∀{ks:List Nat}{xs:List PV}{vs:List V}{fp:List Addr}{x:PV},RelL T F B L H xs vs fp->bU k ks xs=some x->∃v f,((ks.map T.att).zip vs).lookup (T.att k)=some v/\Rel T F B L H x v f/\f.Sublist fp
 | [],_,_,_,_,_,e | j::ks,[],_,_,_,_,e=>by simp[bU]at e
 | j::ks,y::xs,_,fp,x,h,e=>by
  unfold RelL at h
  obtain⟨v,ws,f1,f2,rfl,h1,h2,rfl⟩:=h
  unfold bU at e
  by_cases hj:j=k
  ·rw[if_pos hj]at e
   cases e
   subst hj
   exact⟨v,f1,by simp,h1,List.sublist_append_left _ _⟩
  ·rw[if_neg hj]at e
   obtain⟨w,f,e1,r,s⟩:=lP (ks:=ks) h2 e
   refine⟨w,f,?_,r,s.trans (List.sublist_append_right _ _)⟩
   have:(T.att k==T.att j)=false:=by
    rw[beq_eq_false_iff_ne]
    exact fun z=>hj (T.inj _ _ z).symm
   rw[List.map_cons,List.zip_cons_cons,List.lookup_cons,this]
   exact e1
def sN(hK:X.K=T.K)(hf:T.att k=f)(hc:∀c < T.nc,Cls T.K (T.cls c))(hn:∀c < T.nc,db T.K (T.cls c) f)(h:tE T W (mUn (av k) m) Y H Q):yY X.K (tE T W m) f Y H Q:=by
 obtain⟨Z,F,env,fp,S,q⟩:=h
 unfold mUn at q
 refine tE.bind S (fun c e=>by rw[e]at q;exact q) (fun e=>by rw[e]at q;exact q) fun x v H1 F1 f1 e1 g1 r1 n1 d1 w1=>?_
 rw[e1]at q
 cases x with
 | obj fl c ks xs =>
  simp only[Res.ok_bind,av]at q
  cases e2:bU k ks xs with
  | none=>rw[e2]at q;exact q.elim
  | some y =>
   rw[e2]at q
   dsimp only at q
   unfold Rel at r1
   obtain⟨a,dx,vs,fp',rfl,hl,hk,hr,hfl,_⟩:=r1
   obtain⟨w,f',l1,l2,l3⟩:=lP hr e2
   have e0:f'=[]:=by
    cases fl with
    | own =>
     simp only[Fl.isOwn,Bool.true_and]at q
     by_cases ho:y.has Fl.isOwn=true
     ·rw[if_pos ho]at q;exact q.elim
     ·exact Rel.noOwn (by simpa using ho) l2
    | frz | bor | lnt | mod=>obtain⟨rfl,_⟩:=hfl;exact List.sublist_nil.mp l3
   subst e0
   by_cases hb:(fl.isOwn&&y.has Fl.isOwn)=true
   ·rw[if_pos hb]at q;exact q.elim
   ·rw[if_neg hb]at q
    rw[hK]
    exact⟨a,_,dx,_,w,rfl,hl,hc c hk.2,hn c hk.2,by rw[<- hf];exact l1,q.scal g1 l2⟩
 | _=>exact q.elim
def tq(hK:X.K=T.K)(hf:T.att k=f)(hc:∀c < T.nc,Cls T.K (T.cls c))(hn:∀c < T.nc,db T.K (T.cls c) f)(he:SE X T W e m)(hb:attributeBase e f X.env (eval e X.env)=eval e X.env:=by rfl) :
  SE X T W (.Attribute e f pos) (mUn (av k) m):=PE.wk (wC (pos:=pos) he hb) fun Y H Q h=>sN hK hf hc hn h
end
end PR
namespace L2
open PySem PySem.Spec
def cb.there(x:cb P w H h a o):∃u,h.get? a=some u:=by
 cases o with
 | lst xs=>obtain⟨_,_,_,_,e⟩:=x;exact⟨_,e⟩
 | tup xs=>obtain⟨_,_,_,o,e,_⟩:=x;exact⟨_,e⟩
 | dK kvs | dT kvs=>obtain⟨_,_,_,_,o,_,_,e,_⟩:=x;exact⟨_,e⟩
 | set S n=>obtain⟨o,_,_,_,e,_⟩:=x;exact⟨_,e⟩
 | ins C dx fs=>obtain⟨_,_,_,e,_⟩:=x;exact⟨_,e⟩
 | own y=>exact x
 | xd fs=>obtain⟨_,⟨_,_,_,e,_⟩,_⟩:=x;exact⟨_,e⟩
 | rng lo hi=>obtain⟨_,_,_,e⟩:=x;exact⟨_,e⟩
 | frz ob u=>obtain⟨e,_⟩:=x;exact⟨_,e⟩
 | tbl ps=>obtain⟨_,e,_⟩:=x;exact⟨_,e⟩
 | met f y=>exact⟨_,(show h.get? a=some _ from x)⟩
 | ext φ=>obtain⟨_,q,_⟩:=x;exact q
end L2
namespace PR
open PySem PySem.Spec L2
structure Fly(P:Program)(w:World)(outer:List Env)(H:Hp)(s:Shared)(cls:Value)(H':Hp)(e:Value)(s':Shared):Prop where
 os:s'.os=s.os
 bare:PyProof.Rows.AllBare s'.gens
 un:Un (frs outer) [] H H' s.heap s'.heap
 hok:HOk P w H' s'.heap
 fly:∃x a0 Bh,e=.ref x/\Heap.FlyingW Bh outer x cls a0 s'.heap/\(∀b o u,H' b=some u->s'.heap.get? b=some o->Bh.get? b=some o)/\
  (∀b o o',s'.heap.get? b=some o->s.heap.get? b=some o'->b∉frs outer->Bh.get? b=some o)
def CXP(P:Program)(w:World):CXT:=fun outer H s E e s'=>∃cls H',Fly P w outer H s cls H' e s'/\E cls none H'
def XF(X:Cx)(T:Tb)(W:Nat->St->Hp->Prop):Prop:=∀(gV:List (Addr×Obj)) (Y:St) (H:Hp) (s:Shared) (c:Nat) (H':Hp) (e:Value) (s':Shared),L2.Inv X gV Y H s->Fly X.prog X.w X.stack H s (.ref (T.xcl c)) H' e s'->W c Y H'->X.xe e s'
def XM(X:Cx)(T:Tb)(W:Nat->St->Hp->Prop):Prop:=∀(gV:List (Addr×Obj)) (Y:St) (H:Hp) (s:Shared) (c:Nat) (h':Heap) (e:Addr) (vs:List Value),L2.Inv X gV Y H s->Heap.MadeExcOf s.heap h' e (.ref (T.xcl c)) vs->W c Y H->X.xe (.ref e) { s with heap:=h' }
section
variable{P:Program}{w:World}{K:PySem.W.Frag}{mg:Str->Option Value}{base:Heap}{N:List Str}{qual:Str}{scope:Scope}{f:Addr}{cd:Value}{A:Around}{outer:List Env}{s:Shared}{H:Hp}{E:XK}
def oq{H:Hp}{h h' Bh:Heap}(ok:HOk P w H h)(k:∀b o u,H b=some u->h.get? b=some o->Bh.get? b=some o)(st:Bh.StaysIn h'):HOk P w H h':=fun a o e =>
 (ok a o e).stay (fun b u hb q=>by
  rcases hb with rfl | hb
  ·exact st _ _ (k b u _ e q)
  ·exact st _ _ (k b u _ hb q)) (fun _ q=>q) fun _ _ _ q=>q
def fh(I:L2.Inv X gV Y H1 s1)(hst:X.stack=X.env::X.outer)(hex:X.ex=[])(hfrm:X.env.frame=some X.env.locals)
  (hos:os2=s1.os) (hb:PyProof.Rows.AllBare g2) (u2:Un (frs X.stack) [] H1 H2 s1.heap h2) (ok:HOk X.prog X.w H2 h2) (tr:∀b o u,H2 b=some u->h2.get? b=some o->Bh.get? b=some o)
  (ol:∀b o o',h2.get? b=some o->s1.heap.get? b=some o'->b∉frs X.stack->Bh.get? b=some o) (fl:Heap.FlyingW Bh X.outer x cls a0 h') (up:h2.UpToSlots h') :
  Fly X.prog X.w X.outer X.H₀ X.s₀ cls H2 (.ref x) ⟨h',g2,d2,t2,os2⟩:=by
 have u1:=I.base
 rw[hex]at u1
 have hfs:frs X.stack=X.env.locals::frs X.outer:=by
  rw[hst]
  show List.filterMap _ _=_
  rw[List.filterMap_cons,hfrm]
  rfl
 have u:Un (frs X.stack) [] X.H₀ H2 X.s₀.heap h2:=(u1.mono (fun b hb=>by rw[hfs];exact List.mem_cons_of_mem _ hb) fun _ z=>z).trans u2
 have neL:∀b o,X.s₀.heap.get? b=some o->b≠X.env.locals:=fun b o e=>Nat.ne_of_lt (Nat.lt_of_lt_of_le (Heap.lt_size e) I.ok.above)
 have nst:∀b o,X.s₀.heap.get? b=some o->b∉frs X.outer->b∉frs X.stack:=fun b o e hn hb=>by
  rw[hfs]at hb
  rcases List.mem_cons.mp hb with z | z
  ·exact neL b o e z
  ·exact hn z
 have data:∀b o,X.s₀.heap.get? b=some o->b∈frs X.outer->∀vs,o.data≠.fields vs:=fun b o e hb vs z=>by
  obtain⟨_,o',ho',hd'⟩:=I.ok.funs.mem hb
  rw[e]at ho'
  cases ho'
  exact hd' vs z
 refine⟨hos.trans I.os,hb,⟨fun b o e n hf _=>?_,fun b o e n hf _=>?_,u.free,fun b o e _=>?_,u.tups,u.frzs,u.tbls⟩,oq ok tr fl.1,⟨x,a0,Bh,rfl,fl,fun b o v e q=>?_,fun b o o' e q hf=>?_⟩⟩
 ·have q:=u.keep b o e n (nst b o e hf) (by simp)
  obtain⟨o1,e1⟩:=u1.there b o e (by simp)
  exact fl.1 b o (ol b o o1 q e1 (nst b o e hf))
 ·obtain⟨sl,q⟩:=u.slot b o e n (by rw[hfs];exact List.mem_cons_of_mem _ hf) (by simp)
  obtain⟨sl',q'⟩:=up b _ q (data b o e hf)
  exact⟨sl',q'⟩
 ·by_cases hf:b∈frs X.outer
  ·obtain⟨_,o2,ho2,_⟩:=fl.2.2.1.mem hf
   exact⟨o2,ho2⟩
  ·obtain⟨o1,e1⟩:=u1.there b o e (by simp)
   obtain⟨o2,e2⟩:=u2.there b o1 e1 (by simp)
   exact⟨o2,fl.1 b o2 (ol b o2 o1 e2 e1 (nst b o e hf))⟩
 ·have hlt:=ok.lt e
  obtain⟨o2,e2⟩:∃o2,h2.get? b=some o2:=by
   have x:=ok b v e
   exact cb.there x
  have:=fl.1 b o2 (tr b o2 v e e2)
  rw[q]at this
  cases this
  exact tr b o v e e2
 ·obtain⟨o1,e1⟩:=u1.there b o' q (by simp)
  obtain⟨o2,e2⟩:=u2.there b o1 e1 (by simp)
  have hB:=ol b o2 o1 e2 e1 (nst b o' q hf)
  have:=fl.1 b o2 hB
  rw[e]at this
  cases this
  exact hB
end
section
variable{P:Program}{w:World}{K:PySem.W.Frag}{mg:Str->Option Value}{base:Heap}{N:List Str}{qual:Str}{scope:Scope}{f:Addr}{cd:Value}{A:Around}{outer:List Env}{s:Shared}{H:Hp}{E:XK}{T:Tb}
abbrev WD(T:Tb)(E:XK):Nat->St->Hp->Prop:=fun c _ H=>E (.ref (T.xcl c)) none H
def vL:XF (cr (CXP P w) P w K mg base N qual scope f cd A outer s H E) T (WD T E):=by
 intro gV Y H1 s1 c H2 e s2 I fl hW
 obtain⟨x,a0,Bh,rfl,fly,tr,ol⟩:=fl.fly
 refine wpAny_leaves_onW (L:=s.heap.objs.size) I.ok.frames rfl fly fun h' fly' up=>?_
 obtain⟨h2,g2,d2,t2,os2⟩:=s2
 exact⟨_,H2,fh I rfl rfl rfl fl.os fl.bare fl.un fl.hok tr ol fly' up,hW⟩
def bY:XM (cr (CXP P w) P w K mg base N qual scope f cd A outer s H E) T (WD T E):=by
 intro gV Y H1 s1 c h2 e vs I mx hW
 have hin:∀env ∈(cr (CXP P w) P w K mg base N qual scope f cd A outer s H E).stack,∀b,env.frame=some b->b∈frs (cr (CXP P w) P w K mg base N qual scope f cd A outer s H E).stack:=fun env he b hb=>List.mem_filterMap.mpr ⟨env,he,hb⟩
 refine wpAny_leaves_madeW (base:=PySem.W.hideAll s1.heap (frs (cr (CXP P w) P w K mg base N qual scope f cd A outer s H E).stack)) (h:=s1.heap) (L:=s.heap.objs.size) I.ok.frames rfl (fun b o q=>PySem.W.of_hideAll _ q) (PySem.W.funFrames_hide I.stack hin) mx fun h' t fly' _ _ up=>?_
 obtain⟨h1,g1,d1,t1,os1⟩:=s1
 have fresh:∀b o,h1.get? b=some o->h2.get? b=some o:=mx.keeps
 have nfr:∀b u,H1 b=some u->b∉frs (cr (CXP P w) P w K mg base N qual scope f cd A outer s H E).stack:=fun b u e hb=>by
  rw[I.stkFree b hb]at e;cases e
 refine⟨_,H1,fh I rfl rfl rfl rfl I.bare (h2:=h2) (Bh:=PySem.W.hideAll h1 (frs (cr (CXP P w) P w K mg base N qual scope f cd A outer s H E).stack)) (Un.kept fresh) (I.hok.kept fresh) (fun b o u e q=>?_) (fun b o o' e q hb=>?_) fly' up,hW⟩
 ·obtain⟨o1,e1⟩:=cb.there (I.hok b u e)
  have:=fresh b o1 e1
  rw[q]at this;cases this
  exact PySem.W.hideAll_get _ e1 (nfr b u e)
 ·have:=fresh b o' q
  rw[e]at this;cases this
  exact PySem.W.hideAll_get _ q hb
end
structure Bx(X:Cx)(x:Str)(C:Addr):Prop where
 bm:X.mg x=some (.ref C)
 obj:∃bm N nm q bs hdct sn sub ab col dd k0 k1 k2 k3 k5 mN,X.base.get? C=some (excClassObj nm q C N bs bm hdct sn sub ab col dd k0 k1 k2 k3 k5 "ValueError.__new__")/\X.base.Ns N mN/\mN "__init__" = none /\
  OwnTail X.base [.type "ValueError", .type "Exception", .type "BaseException", .type "object"] bm
section
variable{X:Cx}{T:Tb}{W:Nat->St->Hp->Prop}
def p5(O:Bx X x (T.xcl c))(hx:XM X T W)(hc:X.calm=true)(hg:Gl X x)(ha:SA X T W (e::es) ms)(hne:∀env pvs,ms env=.ok pvs->pvs.length<=100)(hd:(x ==("__debug__" : Str))=false:=by decide)
  (he:starEach (e::es) X.env=(false,eval e X.env)::starEach es X.env:=by rfl) (hpl:(backTo cpos (starEach es X.env)).any (·.1)=false:=by rfl) :
  SS X T W (.Raise (some (.Call (.Name x np) (e::es) [] cpos)) none pos) (fun env=>match ms env with
   | .ok _=>.exc c env
   | .exc k=>.exc k env
   | .stuck=>.stuck):=by
 intro gV s Y H D I h
 obtain⟨Z,F,env,fp,S,q⟩:=h
 dsimp only at q
 obtain⟨tl,N,nm,qn,bs,hdct,sn,sub,ab,col,dd,k0,k1,k2,k3,k5,mN,hC,hN,hni,TL⟩:=O.obj
 refine wpAny_Raise_call_subT (C:=T.xcl c) (nm:=nm) (q:=qn) (N:=N) (bs:=bs) (bm:=tl) (hdct:=hdct) (sn:=sn) (sub:=sub) (ab:=ab) (col:=col) (dd:=dd) (k0:=k0) (k1:=k1) (k2:=k2) (k3:=k3) (k5:=k5)
  PySem.F.excBase_ValueError (mN:=mN) (TL.hasType PySem.F.excBase_ValueError.hasBase) (I.ok.hd hc) (by rw[he];show(false ||(backTo cpos (starEach es X.env)).any (·.1))=false;rw[hpl];rfl) hni (e9 I hg O.bm ⟨rfl,?_⟩ hd)
 have h2:=ha cpos gV s Y H (fun vs H'=>vs.length <= 100/\W c Y H') I (tA.bind S (fun k e H' x=>by rw [e] at q;exact q F H' Y fp (S.grow (Gr.same S.hp.ft x))) (fun e=>by rw [e] at q;exact q) fun pvs vs H' F' f e g r _ _ _=>by
  rw[e]at q
  exact⟨by rw[<- r.length];exact hne env pvs e,q F' H' Y fp (S.grow g)⟩)
 rw[he]at h2 ⊢
 refine Calls.evalArgs_plain (wpAny_mono h2 (fun vs s₂ h₂=>?_) fun _ _ y=>y)
 obtain⟨vs',H',I2,rv,hl,hw⟩:=h₂
 refine⟨rfl,?_,I2.bk _ _ hC,hN.keeps I2.bk,TL.keeps I2.bk,fun h' e' mx=>hx gV Y H' s₂ c h' e' vs I2 mx hw⟩
 rw[<- rv.length,sizeLine_eq]
 omega
end
def aA(m:List PV->Res PV)(xs:List PV):Res PV:=match m (mapL Fl.toBor xs)with
 | .ok v=>if v.has Fl.isBor then .stuck else .ok v
 | .exc c=>.exc c
 | .stuck=>.stuck
def a6(n:Nat)(m:MS)(args:List PV):Res PV:=match m (args.map some++List.replicate (n - args.length) none)with
 | .next _=>.ok .non
 | .ret v=>.ok v
 | .exc c _=>.exc c
 | _=>.stuck
def GF(T:Tb)(Z:Zn)(Q:VK)(E:XK):Res PV->Prop
 | .ok pv=>∀F H v f,bz T Z F H->Rel T F Z.B NoL H pv v f->f.Nodup->(∀a∈f,¬F a)->(∀a∈f,Z.H0 a=none\/Z.fp0 a)->Q v H
 | .exc c=>∀H,(∀a o,Z.H0 a=some o->¬Z.fp0 a->H a=some o)->E (.ref (T.xcl c)) none H
 | .stuck=>False
structure nN(T:Tb)(F B:Addr->Prop)(H:Hp)(pvs:List PV)(vs:List V)(f:List Addr):Prop where
 rel:RelL T F B NoL H pvs vs f
 nd:f.Nodup
 nf:∀a∈f,¬F a
 bo:(∀a,B a->(∃o,H a=some o)/\a∉f)/\ve T H (·∈f)
 ft:∀a,F a->∃o,H a=some o
def spM(T:Tb)(n:Nat)(m:List PV->Res PV):Sp:=fun vs H Q E=>vs.length=n/\∃pvs F B f,nN T F B H pvs vs f/\GF T ⟨H,F,(·∈f),B,none⟩ Q E (m pvs)
def RelL.split:∀{xs:List PV}{vs:List V}{f:List Addr},RelL T F B L H xs vs f->f.Nodup ->
  ∃g:Nat->List Addr,(∀(i:Nat) x v,xs[i]?=some x->vs[i]?=some v->Rel T F B L H x v (g i))/\(∀i,(g i).Nodup)/\(∀i j,i≠j->∀a∈g i,a∉g j)/\∀i a,a∈g i->a∈f
 | [],_,_,_,_=>⟨fun _=>[],fun i x v e=>by simp at e,fun _=>List.nodup_nil,fun _ _ _ _ z=>(nomatch z),fun _ _ z=>(nomatch z)⟩
 | x::xs,_,_,h,nd=>by
  unfold RelL at h
  obtain⟨v,ws,f1,f2,rfl,h1,h2,rfl⟩:=h
  obtain⟨n1,n2,n3⟩:=List.nodup_append.mp nd
  obtain⟨g,g1,g2,g3,g4⟩:=RelL.split h2 n2
  refine⟨fun i=>match i with | 0=>f1 | j+1=>g j,fun i y u e1 e2=>?_,fun i=>?_,fun i j hij a ha=>?_,fun i a ha=>?_⟩
  ·cases i with
   | zero=>simp at e1 e2;subst e1 e2;exact h1
   | succ i=>exact g1 i y u (by simpa using e1) (by simpa using e2)
  ·cases i with
   | zero=>exact n1
   | succ i=>exact g2 i
  ·grind
  grind
section
variable{P:Program}{w:World}{K:PySem.W.Frag}{mg:Str->Option Value}{base:Heap}{T:Tb}
def fj(N:List Str)(R:nN T F B H pvs vs f)(pin:Option V)(hpin:∀v,pin=some v->vs[0]?=some v/\∃fl c ks xs,pvs[0]?=some (.obj fl c ks xs)) :
  ∃fp,ap T ⟨H,F,(·∈f),B,pin⟩ F H (L2.start N vs) (pvs.map some++List.replicate (N.length - pvs.length) none) fp:=by
 obtain⟨g,g1,g2,g3,g4⟩:=R.rel.split R.nd
 have hl:=R.rel.length
 refine⟨g,⟨R.bo,fun _ _ h _=>h,fun _ h=>h,fun _ h=>.inl h,R.ft⟩,?_,fun i pv e=>?_,g2,g3,fun i a ha=>⟨R.nf a (g4 i a ha),R.rel.there a (g4 i a ha)⟩,fun i a ha=>.inr (g4 i a ha),fun i a ha=>R.rel.chg a (g4 i a ha),fun v hv=>?_⟩
 ·unfold L2.start
  simp[hl]
 ·by_cases hi:i < pvs.length
  ·rw[List.getElem?_append_left (by simpa using hi),List.getElem?_map]at e
   obtain⟨x,e1,e2⟩:=Option.map_eq_some_iff.mp e
   cases e2
   obtain⟨v,_,ev,_⟩:=R.rel.get e1
   refine⟨v,?_,g1 i pv v e1 ev⟩
   unfold L2.start
   rw[List.getElem?_append_left (by simpa[<- hl]using hi),List.getElem?_map,ev]
   rfl
  ·rw[List.getElem?_append_right (by simpa using hi),List.getElem?_replicate]at e
   split at e<;>cases e
 ·obtain⟨h1,fl,c,ks,xs,h2⟩:=hpin v hv
  have hl0:0 < vs.length:=(List.getElem?_eq_some_iff.mp h1).1
  have hp0:0 < pvs.length:=(List.getElem?_eq_some_iff.mp h2).1
  unfold L2.start cE
  rw[List.getElem?_append_left (by simpa using hl0),List.getElem?_append_left (by simpa using hp0),List.getElem?_map,List.getElem?_map,h1,h2]
  exact⟨rfl,rfl⟩
def Aj(F:Fun K x qual st f fd)(S:cI N ps (au st))
  (body:∀ (cdv:Value) (A:Around) (outer:List Env) (s:Shared) (H:Hp) (E:XK),ck k (A.deeper (PyProof.Rows.envOfC qual (au st) s.heap.objs.size f cdv)) ->
   SSs (cr (CXP P w) P w K mg base N qual (au st) f cdv A outer s H E) T (WD T E) (a9 st) m):bX P w K mg base (CXP P w) (k+1) f fd ps (spM T ps.length (a6 N.length m)):=by
 obtain⟨oc,od,kV,doc,pm,an,cdv,ct,osl,rfl,lk,hcd⟩:=F.ex
 refine vB lk hcd S (fun vs H Q E h=>h.1) fun A outer s H vs Q E hr hsp=>⟨_,body cdv A outer s H E hr,?_⟩
 obtain⟨_,pvs,F,B,fl,R,q⟩:=hsp
 obtain⟨fp,S0⟩:=fj N R none (fun _ h=>nomatch h)
 refine⟨_,F,_,fp,S0,?_⟩
 unfold a6 at q
 cases e:m (pvs.map some++List.replicate (N.length - pvs.length) none)with
 | next e'=>rw[e]at q;exact fun F' H' σ' fp' S'=>q F' H' .non [] S'.hp wd List.nodup_nil (fun _ z=>(nomatch z)) (fun _ z=>(nomatch z))
 | ret v=>rw[e]at q;exact q
 | brk e' | cont e'=>rw[e]at q;exact q.elim
 | exc c e'=>rw[e]at q;exact fun F' H' σ' fp' S'=>q H' S'.hp.keep
 | stuck=>rw[e]at q;exact q.elim
end
def qO(hB:∀a,B a->B' a)(hL:∀a,L a->B' a):Mp T Fl.toBor (fun _=>false) (fun x=>x) (fun _=>True) F B L H F B' L' H :=
 ⟨fun f a vs _ c h=>by
  cases f with
  | bor=>exact⟨hB a h.1,h.2⟩
  | lnt=>exact⟨hL a h.1,.inl h.2⟩
  | _=>exact h,fun f a _ c h=>⟨by
  cases f with
  | bor=>exact hB a h
  | lnt=>exact hL a h
  | _=>exact h,fun _ q=>q⟩,fun f a x y h=>by cases f<;>exact h,rfl,fun _ _=>rfl,fun _ _ q _=>q⟩
def RelL.toBor(hB:∀a,B a->B' a)(hL:∀a,L a->B' a)(h:RelL T F B L H x v fo):RelL T F B' L' H (mapL Fl.toBor x) v fo:=(qO hB hL).rels (has_noL x) (fun _ _=>True.intro) h
def Rel.noB(hp:x.has Fl.isBor=false)(h:Rel T F B L H x v fo):Rel T F B' L H x v fo:=by
 have:=(qP (p:=Fl.isBor) (B':=B') (fun _ _ q=>q) (fun z=>(nomatch z))).rel hp (fun _ _=>True.intro) h
 rwa [im]at this
def RelL.append:∀{xs ys:List PV}{vs us:List V}{f g:List Addr},RelL T F B L H xs vs f->RelL T F B L H ys us g->RelL T F B L H (xs++ys) (vs++us) (f++g)
 | [],_,_,_,_,_,h,r=>by unfold RelL at h;obtain⟨rfl,rfl⟩:=h;exact r
 | x::xs,_,_,_,_,_,h,r=>by
  unfold RelL at h
  obtain⟨v,ws,f1,f2,rfl,h1,h2,rfl⟩:=h
  show RelL T F B L H (x::(xs++_)) (v::(ws++_)) _
  unfold RelL
  exact⟨v,_,f1,_,rfl,h1,RelL.append h2 r,by rw[List.append_assoc]⟩
section
variable{X:Cx}{T:Tb}{W:Nat->St->Hp->Prop}{Z:Zn}{F F1:Addr->Prop}{H H1:Hp}{Y:St}{env:En}{fp:Nat->List Addr}
def vh
  (G:bX X.prog X.w X.K X.mg X.base (CXP X.prog X.w) k f fd ps (spM T ps.length m)) (hr:ck k X.A) (hb:dA X.K fd ps ds) (hd:aB dvs ds) (hdp:∀F B L H,RelL T F B L H dps dvs []) (hx:XF X T W)
  (S:ap T Z F H Y env fp) (g:Gr F H F1 H1) (r:RelL T F1 Z.B (Own fp) H1 xs vs fx) (nf:∀a∈fx,¬F1 a) (nd:fx.Nodup) (new:∀a∈fx,H a=none) (q:GE T W Z.B F (Own fp) Y H Q (aA m (xs++dps)))
  (I1:L2.Inv X gV Y H1 s1) (rv:aB vs us) (hlen:vs.length+dvs.length=ps.length):wpAny (model X.prog X.w) X.A (call (.ref f) us) (EP X gV Y Q) X.xe s1:=by
 have r2:aB (vs++dvs) (us++ds):=rv.append hd
 have hl:(us++ds).length=ps.length:=by rw[<- r2.length,List.length_append];exact hlen
 have rr:RelL T F1 Z.B (Own fp) H1 (xs++dps) (vs++dvs) fx:=by
  have:=RelL.append r (hdp F1 Z.B (Own fp) H1)
  rwa [List.append_nil]at this
 have hBo:∀a,Z.B a->(∃o,H1 a=some o)/\a∉fx:=fun a h=>by
  obtain⟨⟨o,h1⟩,h2⟩:=S.hp.bo.1 a h
  have h3:=S.hp.keep a o h1 h2
  exact⟨⟨o,g.ext a o h3⟩,fun z=>by rw[new a z]at h3;cases h3⟩
 have hOw:∀a,Own fp a->(∃o,H1 a=some o)/\a∉fx:=fun a ⟨i,hi⟩=>by
  obtain⟨_,o,ho⟩:=S.dis i a hi
  exact⟨⟨o,g.ext a o ho⟩,fun z=>by rw[new a z]at ho;cases ho⟩
 have R:nN T F1 (fun a=>(∃o,H1 a=some o)/\a∉fx) H1 (mapL Fl.toBor (xs++dps)) (vs++dvs) fx:=⟨RelL.toBor hBo hOw rr,nd,nf,⟨fun a h=>h,S.tbo g.ext fun a z=>.inl (new a z)⟩,g.dom⟩
 refine wpAny_call (codeAny_mono (G.run X.A X.stack s1 H1 ⟨us,[]⟩ (us ++ ds) (vs ++ dvs) Q (fun cls _ H'=>∃ c,cls=.ref (T.xcl c)/\W c Y H') hr I1.env0 (hb s1 us I1.kIn hl) r2
  ⟨by rw[r2.length,hl],_,F1,_,fx,R,?_⟩) fun rs s' hq=>?_)
 ·unfold aA at q
  cases e:m (mapL Fl.toBor (xs++dps))with
  | ok v =>
   rw[e]at q
   dsimp only at q
   intro F2 H2 u f2 hp2 r3 nd2 nf2 new2
   by_cases hbr:v.has Fl.isBor=true
   ·rw[if_pos hbr]at q;exact q.elim
   ·rw[if_neg hbr]at q
    have hbr':v.has Fl.isBor=false:=by simpa using hbr
    refine q u H2 F2 f2 ⟨fun a o h=>hp2.keep a o (g.ext a o h) fun z=>(by rw[new a z]at h;cases h),fun a h=>hp2.f0 a (g.mono a h),fun a h=>?_,hp2.ft⟩ ?_ nf2 nd2 fun a ha=>?_
    ·rcases hp2.fn a h with z | z | z
     ·exact g.only a z
     ·exact .inr (g.ext.free z)
     ·exact .inr (new a z)
    ·exact Rel.tr (fun _ h=>h) (fun _ h=>h) (fun _ h=>h.elim) (fun _ _ h _=>h) (fun _ _ _ h=>h) (Rel.noB (B':=Z.B) hbr' r3)
    ·rcases new2 a ha with z | z
     ·exact g.ext.free z
     ·exact new a z
  | exc c =>
   rw[e]at q
   exact fun H' h=>⟨c,rfl,q H' fun a o z=>h a o (g.ext a o z) fun z'=>by rw[new a z']at z;cases z⟩
  | stuck=>rw[e]at q;exact q.elim
 ·cases rs with
  | error e =>
   obtain⟨cls,H',fl,c,rfl,hw⟩:=hq
   exact hx gV Y H1 s1 c H' e s' I1 fl hw
  | ok fl =>
   cases fl with
   | ret u=>exact I1.after hq
   | next | brk | cont=>exact False.elim hq
def tm
  (G:bX X.prog X.w X.K X.mg X.base (CXP X.prog X.w) k f fd ps (spM T ps.length m)) (hr:ck k X.A) (hg:Gl X x) (hm:X.mg x=some (.ref f)) (hk:PySem.W.keepIn X.K (.ref f)=true) (hb:dA X.K fd ps ds) (hd:aB dvs ds) (hdp:∀F B L H,RelL T F B L H dps dvs []) (hx:XF X T W)
  (hn:∀env xs,ms env=.ok xs->xs.length+dvs.length=ps.length) (ha:SA X T W (e::es) ms)
  (hdb:(x ==("__debug__" : Str))=false:=by decide) (he:starEach (e::es) X.env=(false,eval e X.env)::starEach es X.env:=by rfl) (hpl:(backTo pos (starEach es X.env)).any (·.1)=false:=by rfl) :
  SE X T W (.Call (.Name x p) (e::es) [] pos) (ao (fun xs=>aA m (xs++dps)) ms):=by
 intro gV s Y H Q I h
 obtain⟨Z,F,env,fp,S,q⟩:=h
 unfold ao at q
 refine wpAny_Call_Name_kw (e9 I hg hm ?_ hdb)
 refine PySem.W.callWith_K (h₀:=X.base) I.ok.mod.kin hk (thn (ha pos gV s Y H (fun vs H1=>∀ us s1,L2.Inv X gV Y H1 s1->aB vs us->wpAny (model X.prog X.w) X.A (call (.ref f) us) (EP X gV Y Q) X.xe s1) I
  (tA.bind S (fun c e=>by rw[e]at q;exact q) (fun e=>by rw[e]at q;exact q) fun xs vs H1 F1 f1 e1 g1 r1 n1 d1 w1 us s1 I1 rv=>?_)) fun us s1 ⟨vs,H1,I1,r,q1⟩=>⟨I1.kIn,q1 us s1 I1 r⟩) he hpl
 rw[e1]at q
 exact vh G hr hb hd hdp hx S g1 r1 n1 d1 w1 q I1 rv (by rw[<- r1.length];exact hn env xs e1)
def jD(X:Cx)(T:Tb)(k:Nat)(mn:Str)(ps:List Str)(ds:List Value)(disp:Nat->Option (List PV->Res PV)):Prop :=
 ∀c m,c < T.nc->disp c=some m->∃f fd,vf X.K (T.cls c) mn f/\dA X.K fd ps ds/\bX X.prog X.w X.K X.mg X.base (CXP X.prog X.w) k f fd ps (spM T ps.length m)
def oh(disp:Nat->Option (List PV->Res PV))(dps:List PV)(o:ME)(ms:MA):ME:=fun env=>(o env).bind fun ov=>match ov with
 | .obj _ c _ _=>match disp c with
  | some m=>(ms env).bind fun xs=>aA m ((ov::xs)++ dps)
  | none=>.stuck
 | _=>.stuck
def hZ(hm:∀k,T.att k≠mn):∀(ks:List Nat) (vs:List V),((ks.map T.att).zip vs).lookup mn=none
 | [],_ | j::ks,[]=>rfl
 | j::ks,v::vs=>by
  rw[List.map_cons,List.zip_cons_cons,List.lookup_cons,show(mn==T.att j)=false by rw[beq_eq_false_iff_ne];exact(hm j).symm]
  exact hZ hm ks vs
def ur
  (hK:X.K=T.K) (hc:∀c < T.nc,Cls T.K (T.cls c)) (hm:∀k,T.att k≠mn) (D:jD X T k mn ps ds disp) (e:disp c=some m) (r:Rel T F1 B L H1 (.obj fl c ks xs) v f1) (I1:L2.Inv X gV Y H1 s1) (ru:aT v u)
  (h:∀a f fd,u=.ref a->PySem.W.keepIn X.K (.ref f)=true->dA X.K fd ps ds->bX X.prog X.w X.K X.mg X.base (CXP X.prog X.w) k f fd ps (spM T ps.length m)->Q (.ref f,[.ref a]) s1) :
  wpAny (model X.prog X.w) X.A (getMethod u mn pl) Q X.xe s1:=by
 unfold Rel at r
 obtain⟨a,dx,vs,fp',rfl,hl,hk,hr,_,_⟩:=r
 obtain⟨f,fd,M,hb,G⟩:=D c m hk.2 e
 obtain rfl:u=Value.ref a:=ru
 refine nB I1 hl (by rw[hK];exact hc c hk.2) M (hZ hm _ _) (h a f fd rfl M.kp hb G)
def sY
  (hK:X.K=T.K) (hc:∀c < T.nc,Cls T.K (T.cls c)) (hm:∀k,T.att k≠mn) (D:jD X T k mn ps ds disp) (hr:ck k X.A) (hd:aB dvs ds) (hdp:∀F B L H,RelL T F B L H dps dvs []) (hx:XF X T W)
  (hn:∀env xs,ms env=.ok xs->xs.length+1+dvs.length=ps.length) (ho:SE X T W o mo) (ha:SA X T W (e::es) ms)
  (hst:starEach (e::es) X.env=(false,eval e X.env)::starEach es X.env:=by rfl) (hpl:(backTo pos (starEach es X.env)).any (·.1)=false:=by rfl)
  (ht:eval (.Call (.Attribute o mn apos) (e::es) [] pos) X.env=(do
   let ov <- eval o X.env
   standAt apos.atName
   let(f,first) <- holding [ov] (getMethod ov mn pl)
   callWith pos f first (backTo pos (starEach (e::es) X.env)) (backToKw pos (keywordEach [] X.env))):=by rfl) :
  SE X T W (.Call (.Attribute o mn apos) (e::es) [] pos) (oh disp dps mo ms):=by
 intro gV s Y H Q I h
 obtain⟨Z,F,env,fp,S,q⟩:=h
 unfold oh at q
 refine PySem.W.methodCall_KW (pl:=pl) (thn (ho gV s Y H (fun v H1=>∃ ov F1 f1,mo env=.ok ov/\Gr F H F1 H1/\Rel T F1 Z.B (Own fp) H1 ov v f1/\(∀ a ∈ f1,¬ F1 a)/\f1.Nodup/\∀ a ∈ f1,H a=none) I
  (tE.bind S (fun c e=>by rw[e]at q;exact q) (fun e=>by rw[e]at q;exact q) fun ov v H1 F1 f1 e1 g1 r1 n1 d1 w1=>⟨ov,F1,f1,e1,g1,r1,n1,d1,w1⟩)) fun u s1 ⟨v,H1,I1,ru,ov,F1,f1,e1,g1,r1,n1,d1,w1⟩=>?_) ht
 rw[e1]at q
 simp only[Res.ok_bind]at q
 by_cases hobj:∃fl c ks xs m,ov=.obj fl c ks xs/\disp c=some m
 ·obtain⟨fl,c,ks,ys,m,rfl,em⟩:=hobj
  dsimp only at q
  rw[em]at q
  dsimp only at q
  refine ur hK hc hm D em r1 I1 ru fun a f fd eu hkp hb G=>?_
  subst eu
  refine PySem.W.callWith_K (first:=[.ref a]) (h₀:=X.base) I.ok.mod.kin hkp (thn (ha pos gV s1 Y H1 (fun vs H2=>∀ us s2,L2.Inv X gV Y H2 s2->aB vs us->wpAny (model X.prog X.w) X.A (call (.ref f) (.ref a::us)) (EP X gV Y Q) X.xe s2) I1
   (tA.bind (S.grow g1) (fun c e=>by rw[e]at q;exact fun H' x=>q H' (g1.ext.trans x)) (fun e=>by rw[e]at q;exact q) fun xs vs H2 F2 f2 e2 g2 r2 n2 d2 w2 us s2 I2 rv=>?_)) fun us s2 ⟨vs,H2,I2,r,q2⟩=>⟨I2.kIn,q2 us s2 I2 r⟩) hst hpl
  rw[e2]at q
  simp only[Res.ok_bind]at q
  have nn:∀b∈f1,¬F2 b:=fun b hb z=>by
   rcases g2.only b z with z | z
   ·exact n1 b hb z
   ·obtain⟨oo,hoo⟩:=r1.there b hb
    rw[hoo]at z;cases z
  refine vh (xs:=.obj fl c ks ys::xs) (vs:=v::vs) (us:=.ref a::us) (fx:=f1++f2) G hr hb hd hdp hx S (g1.trans g2) (by unfold RelL;exact⟨v,vs,f1,f2,rfl,r1.ext g2.ext g2.mono,r2,rfl⟩) (fun b hb=>?_) ?_ (fun b hb=>?_) q I2 (.cons ru rv) ?_
  ·rcases List.mem_append.mp hb with hb | hb
   ·exact nn b hb
   ·exact n2 b hb
  ·refine List.nodup_append.mpr ⟨d1,d2,fun b hb c hc z=>?_⟩
   subst z
   obtain⟨oo,hoo⟩:=r1.there b hb
   rw[w2 b hc]at hoo;cases hoo
  ·rcases List.mem_append.mp hb with hb | hb
   ·exact w1 b hb
   ·exact g1.ext.free (w2 b hb)
  ·have:=hn env xs e2
   rw[List.length_cons,<- r2.length]
   exact this
 ·exfalso
  cases ov with
  | obj fl c ks ys =>
   cases em:disp c with
   | none=>simp only[em]at q;exact q
   | some m=>exact hobj ⟨fl,c,ks,ys,m,rfl,em⟩
  | _=>exact q
end
def eD(ms:MA)(n:Nat):Prop:=∀env xs,ms env=.ok xs->xs.length=n
def cX:eD ak 0:=fun _ _ h=>by cases h;rfl
def cq(h:eD ms n):eD (ae m ms) (n+1):=fun env xs e=>by
 unfold ae at e
 cases e1:m env with
 | ok x =>
  rw[e1]at e
  simp only[Res.ok_bind]at e
  cases e2:ms env with
  | ok ys =>
   rw[e2]at e
   simp only[Res.ok_bind]at e
   cases e
   rw[List.length_cons,h env ys e2]
  | exc c | stuck=>rw[e2]at e;cases e
 | exc c | stuck=>rw[e1]at e;cases e
def aQ:PV->Option (List PV)
 | .lst _ xs | .tup xs=>some xs
 | _=>none
section
variable{X:Cx}{T:Tb}{W:Nat->St->Hp->Prop}{Z:Zn}{F F1 B L:Addr->Prop}{H H1:Hp}{Y:St}{env:En}{fp:Nat->List Addr}{D:Ends}
def Rel.seq(r:Rel T F B L H x v fx)(e:aQ x=some xs):∃a vs fx',v=.ref a/\(SqL T.K H a vs\/SqT T.K H a vs)/\RelL T F B L H xs vs fx'/\fx'.Sublist fx:=by
 cases x with
 | lst f ys =>
  cases e
  unfold Rel at r
  obtain⟨a,vs,fp',rfl,hl,hr,hf⟩:=r
  refine⟨a,vs,fp',rfl,.inl hl.sq,hr,?_⟩
  cases f with
  | own=>obtain rfl:fx=a::fp':=hf;exact List.sublist_cons_self _ _
  | frz | bor | lnt | mod=>obtain⟨rfl,rfl⟩:=hf;exact List.Sublist.refl _
 | tup ys =>
  cases e
  unfold Rel at r
  obtain⟨a,vs,rfl,hl,hr⟩:=r
  exact⟨a,vs,fx,rfl,.inr hl,hr,List.Sublist.refl _⟩
 | _=>cases e
def GE.newL(q:GE T W B F L Y H Q (.ok (.lst .own ys)))(g:Gr F H F1 H1)(r:RelL T F1 B L H1 ys vs fx)(nf:∀a∈fx,¬F1 a)(nd:fx.Nodup)(new:∀a∈fx,H a=none) :
  ∀p,H1 p=none->Q (.ref p) (upd H1 p (.lst vs)):=fun p hp=>by
 refine q (.ref p) (upd H1 p (.lst vs)) F1 (p::fx) (g.trans (Gr.same g.dom (Ext.upd hp))) ?_ (fun a ha=>?_) ?_ (fun a ha=>?_)
 ·unfold Rel
  exact⟨p,vs,fx,rfl,aJ,r.ext (Ext.upd hp) fun _ h=>h,rfl⟩
 ·grind[a5,ap,bz,Gr]
 ·refine List.nodup_cons.mpr ⟨fun z=>?_,nd⟩
  obtain⟨o,ho⟩:=r.there p z
  rw[hp]at ho;cases ho
 ·rcases List.mem_cons.mp ha with rfl | ha
  ·exact g.ext.free hp
  ·exact new a ha
def GE.newT(q:GE T W B F L Y H Q (.ok (.tup ys)))(g:Gr F H F1 H1)(r:RelL T F1 B L H1 ys vs fx)(nf:∀a∈fx,¬F1 a)(nd:fx.Nodup)(new:∀a∈fx,H a=none) :
  ∀p,H1 p=none->Q (.ref p) (upd H1 p (.tup vs)):=fun p hp=>by
 refine q (.ref p) (upd H1 p (.tup vs)) F1 fx (g.trans (Gr.same g.dom (Ext.upd hp))) ?_ nf nd new
 unfold Rel
 exact⟨p,vs,rfl,SqT.of aJ,r.ext (Ext.upd hp) fun _ h=>h⟩
def p_(h:n<=1000):n<=sizeLine:=by rw[sizeLine_eq];omega
def dN(ms:MA):ME:=fun env=>(ms env).bind fun xs=>.ok (.lst .own xs)
def dW(ms:MA):ME:=fun env=>(ms env).bind fun xs=>.ok (.tup xs)
def v6(ha:SA X T W es ms)(hn:eD ms n)(hs:n<=1000:=by decide):SE X T W (.List es pos) (dN ms):=PE.wk (wA (pos:=pos) ha) fun Y H Q ⟨Z,F,env,fp,S,q⟩=>by
 unfold dN at q
 refine tA.bind S (fun c e=>by rw[e]at q;exact q) (fun e=>by rw[e]at q;exact q) fun xs vs H1 F1 f1 e1 g1 r1 n1 d1 w1=>?_
 rw[e1]at q
 exact⟨p_ (by rw[<- r1.length,hn env xs e1];exact hs),GE.newL q g1 r1 n1 d1 w1⟩
def vY{x1}(ha:SA X T W es ms)(hn:eD ms n)(hs:n<=1000:=by decide):SE X T W (.Tuple es x1 pos) (dW ms):=PE.wk (qw (pos:=pos) ha) fun Y H Q ⟨Z,F,env,fp,S,q⟩=>by
 unfold dW at q
 refine tA.bind S (fun c e=>by rw[e]at q;exact q) (fun e=>by rw[e]at q;exact q) fun xs vs H1 F1 f1 e1 g1 r1 n1 d1 w1=>?_
 rw[e1]at q
 exact⟨p_ (by rw[<- r1.length,hn env xs e1];exact hs),GE.newT q g1 r1 n1 d1 w1⟩
def p1(f:PV->Res PV):List PV->Res PV
 | [x]=>f x
 | _=>.stuck
def RelL.one(r:RelL T F B L H [x] vs f):∃v,vs=[v]/\Rel T F B L H x v f:=by
 unfold RelL at r
 obtain⟨v,ws,f1,f2,rfl,h1,h2,rfl⟩:=r
 unfold RelL at h2
 obtain⟨rfl,rfl⟩:=h2
 exact⟨v,rfl,by rwa [List.append_nil]⟩
def b9:PV->Res PV:=fun x=>match aQ x with
 | some xs=>.ok (.int xs.length)
 | none=>.stuck
def ul(hK:X.K=T.K):Mir T W (p1 b9) (fun xs H Q=>∃p ys,xs=[.ref p]/\(SqL X.K H p ys\/SqT X.K H p ys)/\Q (.int ys.length) H):=by
 intro B F L Y H Q F' H' xs vs fx g r _ _ _ q
 match xs,r,q with
 | [x],r,q =>
  obtain⟨v,rfl,r1⟩:=r.one
  simp only[p1,b9]at q
  cases e:aQ x with
  | none=>rw[e]at q;exact q.elim
  | some ys =>
   rw[e]at q
   obtain⟨a,ws,fx',rfl,hs,hr,_⟩:=r1.seq e
   exact⟨a,ws,rfl,by rw[hK];exact hs,q.scal g (by rw[<- hr.length];exact el)⟩
 | [],_,q | _::_::_,_,q=>exact q.elim
def b7(hK:X.K=T.K)(hg:Gl X "len")(hm:X.mg "len" = none)(ha:SE X T W e m)(he:starEach [e] X.env=[(false,eval e X.env)]:=by rfl):SE X T W (.Call (.Name "len" p) [e] [] pos) (ao (p1 b9) (ae m ak)) :=
 dP k6 (ul hK) hg hm PySem.boot_len (aa ha ai he) (he:=he)
def cD:PV->Res PV:=fun x=>match aQ x with
 | some xs=>.ok (.lst .own xs)
 | none=>.stuck
def qS(hK:X.K=T.K):Mir T W (p1 cD) (fun xs H Q=>∃p ys,xs=[.ref p]/\(SqL X.K H p ys\/SqT X.K H p ys)/\∀l,H l=none->Q (.ref l) (upd H l (.lst ys))):=by
 intro B F L Y H Q F' H' xs vs fx g r nf nd new q
 match xs,r,q with
 | [x],r,q =>
  obtain⟨v,rfl,r1⟩:=r.one
  simp only[p1,cD]at q
  cases e:aQ x with
  | none=>rw[e]at q;exact q.elim
  | some ys =>
   rw[e]at q
   obtain⟨a,ws,fx',rfl,hs,hr,sl⟩:=r1.seq e
   exact⟨a,ws,rfl,by rw[hK];exact hs,GE.newL q g hr (fun b hb=>nf b (sl.subset hb)) (nd.sublist sl) (fun b hb=>new b (sl.subset hb))⟩
 | [],_,q | _::_::_,_,q=>exact q.elim
def cR(hK:X.K=T.K)(hg:Gl X "list")(hm:X.mg "list" = none)(hv:bootBuiltins "list" = some (.type "list"))(ha:SE X T W e m)(he:starEach [e] X.env=[(false,eval e X.env)]:=by rfl):SE X T W (.Call (.Name "list" p) [e] [] pos) (ao (p1 cD) (ae m ak)) :=
 jL kZ (qS hK) hg hm hv (aa ha ai he) (he:=he)
def dw:PV->Res PV:=fun x=>match aQ x with
 | some xs=>.ok (.tup xs)
 | none=>.stuck
def pr(hK:X.K=T.K):Mir T W (p1 dw) (fun xs H Q=>∃p ys,xs=[.ref p]/\((SqL X.K H p ys/\∀l,H l=none->Q (.ref l) (upd H l (.tup ys)))\/(SqT X.K H p ys/\Q (.ref p) H))):=by
 intro B F L Y H Q F' H' xs vs fx g r nf nd new q
 match xs,r,q with
 | [x],r,q =>
  obtain⟨v,rfl,r1⟩:=r.one
  simp only[p1,dw]at q
  cases x with
  | lst f ys =>
   simp only[aQ]at q
   unfold Rel at r1
   obtain⟨a,ws,fp',rfl,hl,hr,hf⟩:=r1
   have sl:fp'.Sublist fx:=by
    cases f with
    | own=>obtain rfl:fx=a::fp':=hf;exact List.sublist_cons_self _ _
    | frz | bor | lnt | mod=>obtain⟨rfl,rfl⟩:=hf;exact List.Sublist.refl _
   exact⟨a,ws,rfl,.inl ⟨by rw[hK];exact hl.sq,GE.newT q g hr (fun b hb=>nf b (sl.subset hb)) (nd.sublist sl) (fun b hb=>new b (sl.subset hb))⟩⟩
  | tup ys =>
   simp only[aQ]at q
   have r2:=r1
   unfold Rel at r2
   obtain⟨a,ws,rfl,hs,hr⟩:=r2
   exact⟨a,ws,rfl,.inr ⟨by rw[hK];exact hs,q _ _ _ fx g r1 nf nd new⟩⟩
  | _=>exact q.elim
 | [],_,q | _::_::_,_,q=>exact q.elim
def fZ(hK:X.K=T.K)(hg:Gl X "tuple")(hm:X.mg "tuple" = none)(hv:bootBuiltins "tuple" = some (.type "tuple"))(ha:SE X T W e m)(he:starEach [e] X.env=[(false,eval e X.env)]:=by rfl):SE X T W (.Call (.Name "tuple" p) [e] [] pos) (ao (p1 dw) (ae m ak)) :=
 jL jx (pr hK) hg hm hv (aa ha ai he) (he:=he)
def aI:PV->PV->Res PV
 | x,.int i=>match aQ x with
  | some xs=>match atI xs i with
   | some y=>if x.has Fl.isOwn&&y.has Fl.isOwn then .stuck else .ok y
   | none=>.stuck
  | none=>.stuck
 | _,_=>.stuck
def va(r:RelL T F B L H xs vs f)(e:atI xs i=some y):∃v f',atI vs i=some v/\Rel T F B L H y v f'/\f'.Sublist f:=by
 unfold atI at e ⊢
 rw[<- r.length]
 cases e1:ixN xs.length i with
 | none=>rw[e1]at e;cases e
 | some j =>
  rw[e1]at e
  exact r.get e
def uo(hK:X.K=T.K):gB T W aI (fun x y H Q=>wj X.K x y H Q \/(wf X.K x y H Q\/wg x y H Q)):=by
 intro B F L Y H Q F' H' x y v u fx fy g rx ry nf nd new q
 cases y with
 | int i =>
  unfold Rel at ry
  obtain⟨rfl,rfl⟩:=ry
  simp only[aI]at q
  cases e:aQ x with
  | none=>rw[e]at q;exact q.elim
  | some xs =>
   rw[e]at q
   dsimp only at q
   obtain⟨a,ws,fx',rfl,hs,hr,sl⟩:=rx.seq e
   cases e2:atI xs i with
   | none=>rw[e2]at q;exact q.elim
   | some z =>
    rw[e2]at q
    dsimp only at q
    obtain⟨w,f',h1,h2,h3⟩:=va hr e2
    have e0:f'=[]:=by
     by_cases ho:x.has Fl.isOwn=true
     ·by_cases hz:z.has Fl.isOwn=true
      ·rw[ho,hz]at q;exact q.elim
      ·exact Rel.noOwn (by simpa using hz) h2
     ·have:=Rel.noOwn (by simpa using ho) rx
      subst this
      exact List.sublist_nil.mp (h3.trans sl)
    subst e0
    by_cases hb:(x.has Fl.isOwn&&z.has Fl.isOwn)=true
    ·rw[if_pos hb]at q;exact q.elim
    ·rw[if_neg hb]at q
     rcases hs with hs | hs
     ·exact .inl ⟨a,ws,i,w,rfl,rfl,by rw[hK];exact hs,h1,q.scal g h2⟩
     ·exact .inr (.inl ⟨a,ws,i,w,rfl,rfl,by rw[hK];exact hs,h1,q.scal g h2⟩)
 | _=>exact q.elim
def v7(hK:X.K=T.K)(ha:SE X T W a ma)(hb:SE X T W b mb)(hs:ir b):SE X T W (.Subscript a b pos) (mOp aI ma mb) :=
 y6 w_ (uo hK) ha hb hs
abbrev MO:=En->Res (Option Int)
def gi:MO:=fun _=>.ok none
def jX(m:ME):MO:=fun env=>(m env).bind fun
 | .int i=>.ok (some i)
 | _=>.stuck
def jd(xs:List PV)(lo hi:Option Int):List PV:=(xs.drop (HT.sIx xs.length 0 lo)).take (HT.sIx xs.length xs.length hi - HT.sIx xs.length 0 lo)
def gI(o:ME)(lo hi:MO):ME:=fun env=>(o env).bind fun x=>(lo env).bind fun l=>(hi env).bind fun h=>match x with
 | .lst _ xs=>.ok (.lst .own (jd xs l h))
 | _=>.stuck
def RelL.drop:∀{xs:List PV}{vs:List V}{f:List Addr} (n:Nat),RelL T F B L H xs vs f->∃f',RelL T F B L H (xs.drop n) (vs.drop n) f'/\f'.Sublist f
 | xs,vs,f,0,h=>⟨f,h,List.Sublist.refl _⟩
 | [],vs,f,n+1,h=>by unfold RelL at h;obtain⟨rfl,rfl⟩:=h;exact⟨[],by simp[RelL],List.Sublist.refl _⟩
 | x::xs,_,_,n+1,h=>by
  unfold RelL at h
  obtain⟨v,ws,f1,f2,rfl,h1,h2,rfl⟩:=h
  obtain⟨f',r,s⟩:=RelL.drop n h2
  exact⟨f',by simpa using r,s.trans (List.sublist_append_right _ _)⟩
def RelL.take:∀{xs:List PV}{vs:List V}{f:List Addr} (n:Nat),RelL T F B L H xs vs f->∃f',RelL T F B L H (xs.take n) (vs.take n) f'/\f'.Sublist f
 | xs,vs,f,0,h=>⟨[],by simp[RelL],List.nil_sublist _⟩
 | [],vs,f,n+1,h=>by unfold RelL at h;obtain⟨rfl,rfl⟩:=h;exact⟨[],by simp[RelL],List.Sublist.refl _⟩
 | x::xs,_,_,n+1,h=>by
  unfold RelL at h
  obtain⟨v,ws,f1,f2,rfl,h1,h2,rfl⟩:=h
  obtain⟨f',r,s⟩:=RelL.take n h2
  refine⟨f1++f',?_,List.Sublist.append (List.Sublist.refl _) s⟩
  rw[List.take_succ_cons,List.take_succ_cons]
  unfold RelL
  exact⟨v,_,f1,f',rfl,h1,r,rfl⟩
def tO(T:Tb)(W:Nat->St->Hp->Prop)(m:MO):TO:=fun Y H Q=>∃Z F env fp,ap T Z F H Y env fp/\match m env with
 | .ok o=>∀H' F',Gr F H F' H'->Q o H'
 | .exc c=>∀H',Ext H H'->W c Y H'
 | .stuck=>False
abbrev SO(X:Cx)(T:Tb)(W:Nat->St->Hp->Prop)(e:Option Expr)(m:MO):Prop:=PO X e (tO T W m)
def kq:SO X T W none gi:=fun gV s Y H Q I ⟨Z,F,env,fp,S,q⟩=>tY gV s Y H Q I (q H F (Gr.refl S.hp.ft))
def kn(h:SE X T W e m):SO X T W (some e) (jX m):=fun gV s Y H Q I ⟨Z,F,env,fp,S,q⟩=>tX h gV s Y H Q I (by
 unfold jX at q
 refine tE.bind S (fun c e=>by rw[e]at q;exact q) (fun e=>by rw[e]at q;exact q) fun x v H1 F1 f1 e1 g1 r1 n1 d1 w1=>?_
 rw[e1]at q
 cases x with
 | int i=>unfold Rel at r1;exact⟨i,r1.1,q H1 F1 g1⟩
 | _=>exact q.elim)
def iA(hK:X.K=T.K)(he:SE X T W e m)(hl:SO X T W lo ml)(hu:SO X T W hi mh):SE X T W (.Subscript e (.Slice lo hi none p2) pos) (gI m ml mh) :=
 PE.wk (qx (pos:=pos) (p2:=p2) sR he hl hu) fun Y H Q ⟨Z,F,env,fp,S,q⟩=>by
  unfold gI at q
  refine tE.bind S (fun c e=>by rw[e]at q;exact q) (fun e=>by rw[e]at q;exact q) fun x v H1 F1 f1 e1 g1 r1 n1 d1 w1=>?_
  rw[e1]at q
  simp only[Res.ok_bind]at q
  refine⟨Z,F1,env,fp,S.grow g1,?_⟩
  cases e2:ml env with
  | exc c=>rw[e2]at q;exact fun H' x=>q H' (g1.ext.trans x)
  | stuck=>rw[e2]at q;exact q
  | ok l =>
   rw[e2]at q
   intro H2 F2 g2
   refine⟨Z,F2,env,fp,(S.grow g1).grow g2,?_⟩
   simp only[Res.ok_bind]at q
   cases e3:mh env with
   | exc c=>rw[e3]at q;exact fun H' x=>q H' ((g1.ext.trans g2.ext).trans x)
   | stuck=>rw[e3]at q;exact q
   | ok h =>
    rw[e3]at q
    intro H3 F3 g3
    simp only[Res.ok_bind]at q
    cases x with
    | lst f xs =>
     have g:=(g1.trans g2).trans g3
     have r3:=(r1.ext (g2.trans g3).ext (g2.trans g3).mono)
     have nf3:∀a∈f1,¬F3 a:=fun a ha z=>by
      rcases(g2.trans g3).only a z with z | z
      ·exact n1 a ha z
      ·obtain⟨o,ho⟩:=r1.there a ha
       rw[ho]at z;cases z
     unfold Rel at r3
     obtain⟨a,ws,fp',rfl,hll,hr,hf⟩:=r3
     have sl:fp'.Sublist f1:=by
      cases f with
      | own=>obtain rfl:f1=a::fp':=hf;exact List.sublist_cons_self _ _
      | frz | bor | lnt | mod=>obtain⟨rfl,rfl⟩:=hf;exact List.Sublist.refl _
     obtain⟨f4,h4,s4⟩:=RelL.drop (HT.sIx xs.length 0 l) hr
     obtain⟨f5,h5,s5⟩:=RelL.take (HT.sIx xs.length xs.length h - HT.sIx xs.length 0 l) h4
     have sl2:=(s5.trans s4).trans sl
     refine⟨a,ws,rfl,by rw[hK];exact hll.sq,?_⟩
     unfold rY
     rw[<- hr.length]
     exact GE.newL q g h5 (fun b hb=>nf3 b (sl2.subset hb)) (d1.sublist sl2) (fun b hb=>w1 b (sl2.subset hb))
    | _=>exact q.elim
def vi(K:PySem.W.Frag):R2:=fun x y H Q=>∃l b xs zs,x=.ref l/\y=.ref b/\Rd H l (.lst xs)/\Rd H b (.lst zs)/\xs.length+zs.length<=sizeLine/\∀p,H p=none->Q (.ref p) (upd H p (.lst (xs++zs)))
def ud:OpR X (binaryOp .Add) (vi K):=by
 intro gV s Y H x y v u Q I rx ry h
 obtain⟨l,b,xs,zs,rfl,rfl,hH,hB,hz,q⟩:=h
 cases rx
 cases ry
 obtain⟨z,its,n,r,e⟩:=hH.ok I.hok
 obtain⟨z2,its2,n2,r2,e2⟩:=hB.ok I.hok
 have hl:=r.length
 have hl2:=r2.length
 refine PySem.P.add_list e e2 ?_ (by rw[List.size_toArray,List.size_toArray];omega)
 have ea:its.toArray++its2.toArray=(its++its2).toArray:=by simp
 rw[ea]
 exact⟨.ref _,_,I.lnew (t':=s.toks) (r.append r2) (by rw[List.length_append];omega),rfl,q _ I.fresh⟩
def aZ:PV->PV->Res PV
 | .int i,.int j=>.ok (.int (i+j))
 | .lst f xs,.lst g ys=>if f=.mod\/g=.mod\/¬xs.length+ys.length<=10000000 then .stuck else .ok (.lst .own (xs++ys))
 | _,_=>.stuck
def jr.rd(h:jr T F B L H f a vs)(n:f≠.mod):Rd H a (.lst vs):=by
 cases f with
 | own=>exact .inl h
 | lnt=>exact .inl h.2
 | frz | bor=>exact h.2
 | mod=>exact absurd rfl n
def mB.sub(hf:mB f a fp' fx):fp'.Sublist fx:=by
 cases f with
 | own=>obtain rfl:fx=a::fp':=hf;exact List.sublist_cons_self _ _
 | frz | bor | lnt | mod=>obtain⟨rfl,rfl⟩:=hf;exact List.Sublist.refl _
def qQ:gB T W aZ (fun x y H Q=>(rI0 fun i j=>.int (i+j)) x y H Q\/vi T.K x y H Q):=by
 intro B F L Y H Q F' H' x y v u fx fy g rx ry nf nd new q
 cases x with
 | int i =>
  cases y with
  | int j=>unfold Rel at rx ry;exact .inl ⟨i,j,rx.1,ry.1,q.scal g el⟩
  | _=>exact q.elim
 | lst f xs =>
  cases y with
  | lst f' ys =>
   simp only[aZ]at q
   by_cases hc:f=.mod\/f'=.mod\/¬xs.length+ys.length<=10000000
   ·rw[if_pos hc]at q;exact q.elim
   ·rw[if_neg hc]at q
    unfold Rel at rx ry
    obtain⟨a,vs,fp1,rfl,hl1,hr1,hf1⟩:=rx
    obtain⟨b,us,fp2,rfl,hl2,hr2,hf2⟩:=ry
    have sl:=List.Sublist.append hf1.sub hf2.sub
    have h3:xs.length+ys.length<=10000000:=by
     rcases Nat.lt_or_ge 10000000 (xs.length+ys.length)with z | z
     ·exact absurd (.inr (.inr (by omega))) hc
     ·exact z
    refine .inr ⟨a,b,vs,us,rfl,rfl,hl1.rd fun z=>hc (.inl z),hl2.rd fun z=>hc (.inr (.inl z)),by rw[<- hr1.length,<- hr2.length,sizeLine_eq];omega,?_⟩
    exact GE.newL q g (RelL.append hr1 hr2) (fun b hb=>nf b (sl.subset hb)) (nd.sublist sl) (fun b hb=>new b (sl.subset hb))
  | _=>exact q.elim
 | _=>exact q.elim
def OpR.or(h:OpR X f r)(h':OpR X f r'):OpR X f (fun x y H Q=>r x y H Q\/r' x y H Q):=by
 intro gV s Y H x y v u Q I rx ry q
 rcases q with q | q
 ·exact h gV s Y H x y v u Q I rx ry q
 ·exact h' gV s Y H x y v u Q I rx ry q
def bj(ha:SE X T W a ma)(hb:SE X T W b mb):SE X T W (.BinOp a .Add b pos) (mOp aZ ma mb):=g8 (OpR.or wL ud) qQ ha hb
end
mutual
def PV.data:PV->PyData
 | .non=>.none
 | .bl b=>.bool b
 | .int i=>.int i
 | .str x=>.str x
 | .lst _ xs=>.list (dataL xs)
 | .tup xs=>.tuple (dataL xs)
 | .obj _ _ _ _ | .exc _ | .box _ _=>.dict []
def dataL:List PV->List PyData
 | []=>[]
 | x::xs=>x.data::dataL xs
end
def shp(x:PV):Bool:=SeqAt.shaped x.data
section
variable{X:Cx}{T:Tb}{W:Nat->St->Hp->Prop}{Z:Zn}{F F1 B L:Addr->Prop}{H H1:Hp}{Y:St}{env:En}{fp:Nat->List Addr}{D:Ends}{gV:List (Addr×Obj)}{s:Shared}
mutual
def Rel.reads(hK:X.K=T.K)(I:L2.Inv X gV Y H s):∀{x:PV}{v:V}{f:List Addr}{u:Value},Rel T F B L H x v f->aT v u->x.data.canLay0=true->∃as,Reads s.heap u x.data as
 | .non,_,_,_,r,ru,_=>by unfold Rel at r;obtain⟨rfl,_⟩:=r;cases ru;exact⟨[],.none⟩
 | .bl b,_,_,_,r,ru,_=>by unfold Rel at r;obtain⟨rfl,_⟩:=r;cases ru;exact⟨[],.bool b⟩
 | .int i,_,_,_,r,ru,_=>by unfold Rel at r;obtain⟨rfl,_⟩:=r;obtain⟨t,rfl⟩:=ru;exact⟨[],.int i t⟩
 | .str x,_,_,_,r,ru,_=>by unfold Rel at r;obtain⟨rfl,_⟩:=r;obtain⟨t,rfl⟩:=ru;exact⟨[],.str x t⟩
 | .lst f xs,_,_,_,r,ru,hc=>by
  unfold Rel at r
  obtain⟨a,vs,fp',rfl,hl,hr,_⟩:=r
  cases ru
  obtain⟨its,rv,⟨o,n,ho,hcl,_,hd⟩,_⟩:=I.list (by rw[hK];exact hl.sq)
  obtain⟨as,ra⟩:=RelL.reads hK I hr rv (by simpa[PV.data,PyData.canLay0]using hc)
  exact⟨_,.list ho hcl hd (by simpa using ra)⟩
 | .tup xs,_,_,_,r,ru,hc=>by
  unfold Rel at r
  obtain⟨a,vs,rfl,hl,hr⟩:=r
  cases ru
  obtain⟨its,rv,⟨o,ho,hcl,n,hd⟩,_⟩:=I.tuple (by rw[hK];exact hl)
  obtain⟨as,ra⟩:=RelL.reads hK I hr rv (by simpa[PV.data,PyData.canLay0]using hc)
  exact⟨_,.tuple ho hcl hd (by simpa using ra)⟩
 | .obj _ _ _ _,_,_,_,_,_,hc | .exc _,_,_,_,_,_,hc | .box _ _,_,_,_,_,_,hc=>by simp[PV.data,PyData.canLay0]at hc
def RelL.reads(hK:X.K=T.K)(I:L2.Inv X gV Y H s):∀{xs:List PV}{vs:List V}{f:List Addr}{us:List Value},RelL T F B L H xs vs f->aB vs us->PyData.canLayAll0 (dataL xs)=true->∃as,ReadsAll s.heap us (dataL xs) as
 | [],_,_,_,r,ru,_=>by unfold RelL at r;obtain⟨rfl,_⟩:=r;cases ru;exact⟨[],.nil⟩
 | x::xs,_,_,_,r,ru,hc=>by
  unfold RelL at r
  obtain⟨v,ws,f1,f2,rfl,h1,h2,_⟩:=r
  cases ru with
  | cons r1 r2 =>
   simp only[dataL,PyData.canLayAll0,Bool.and_eq_true]at hc
   obtain⟨as,ra⟩:=Rel.reads hK I h1 r1 hc.1
   obtain⟨bs,rb⟩:=RelL.reads hK I h2 r2 hc.2
   exact⟨_,.cons ra rb⟩
end
def pEq:PV->PV->Res PV:=fun x y=>if shp x&&shp y then .ok (.bl (PyData.eqv x.data y.data))else .stuck
def pNe:PV->PV->Res PV:=fun x y=>if shp x&&shp y then .ok (.bl (!PyData.eqv x.data y.data))else .stuck
def qk(X:Cx)(T:Tb)(g:PyData->PyData->Bool):R2:=fun v u H Q=>∃x y F B L fx fy,Rel T F B L H x v fx/\Rel T F B L H y u fy/\shp x=true/\shp y=true/\Q (.bl (g x.data y.data)) H
def qG(hK:X.K=T.K)(hu:X.A.units+64 < cLine):OpR X (compareOp .Eq) (qk X T fun a b=>PyData.eqv a b):=by
 intro gV s Y H v u v' u' Q I rv ru h
 obtain⟨x,y,F,B,L,fx,fy,rx,ry,hx,hy,q⟩:=h
 obtain⟨as,ra⟩:=rx.reads hK I rv (SeqAt.canLay_of_shaped hx)
 obtain⟨bs,rb⟩:=ry.reads hK I ru (SeqAt.canLay_of_shaped hy)
 exact PyProof.Rows.eq_dataH ra rb hx hy hu ⟨.bl _,H,I,rfl,q⟩
def qE(hK:X.K=T.K)(hu:X.A.units+64 < cLine):OpR X (compareOp .NotEq) (qk X T fun a b=>!PyData.eqv a b):=by
 intro gV s Y H v u v' u' Q I rv ru h
 obtain⟨x,y,F,B,L,fx,fy,rx,ry,hx,hy,q⟩:=h
 obtain⟨as,ra⟩:=rx.reads hK I rv (SeqAt.canLay_of_shaped hx)
 obtain⟨bs,rb⟩:=ry.reads hK I ru (SeqAt.canLay_of_shaped hy)
 exact PyProof.Rows.ne_dataH ra rb hx hy hu ⟨.bl _,H,I,rfl,q⟩
def gg:gB T W (fun x y=>if shp x&&shp y then .ok (.bl (g x.data y.data))else .stuck) (qk X T g):=by
 intro B F L Y H Q F' H' x y v u fx fy gr rx ry nf nd new q
 dsimp only at q
 by_cases hc:(shp x&&shp y)=true
 ·rw[if_pos hc]at q
  rw[Bool.and_eq_true]at hc
  exact⟨x,y,F',B,L,fx,fy,rx,ry,hc.1,hc.2,q.scal gr gE⟩
 ·rw[if_neg hc]at q;exact q.elim
variable{a b:Expr}{ma mb:ME}{pos:Pos}
def jK(hK:X.K=T.K)(hu:X.A.units+64 < cLine)(ha:SE X T W a ma)(hb:SE X T W b mb):SE X T W (.Compare a [.Eq] [b] pos) (mOp pEq ma mb):=ky (qG hK hu) gg ha hb (dJ _)
def vg(hK:X.K=T.K)(hu:X.A.units+64 < cLine)(ha:SE X T W a ma)(hb:SE X T W b mb):SE X T W (.Compare a [.NotEq] [b] pos) (mOp pNe ma mb):=ky (qE hK hu) (gg (g:=fun a b=>!PyData.eqv a b)) ha hb (dJ _)
def bP(hK:X.K=T.K)(hu:X.A.units+64 < cLine)(ha:SE X T W a ma)(hb:SE X T W b mb):ST X T W (.Compare a [.Eq] [b] pos) (ar (mOp pEq ma mb)):=d_ (qG hK hu) gg ha hb (dJ _)
def fT(hK:X.K=T.K)(hu:X.A.units+64 < cLine)(ha:SE X T W a ma)(hb:SE X T W b mb):ST X T W (.Compare a [.NotEq] [b] pos) (ar (mOp pNe ma mb)):=d_ (qE hK hu) (gg (g:=fun a b=>!PyData.eqv a b)) ha hb (dJ _)
def eL(ha:SE X T W a ma)(hb:SE X T W b mb):ST X T W (.Compare a [.Lt] [b] pos) (ar (mOp pLt ma mb)):=d_ vk (iQ fun _ _ _ _ _ _=>gE) ha hb (dJ _)
def ll(ha:SE X T W a ma)(hb:SE X T W b mb):ST X T W (.Compare a [.Gt] [b] pos) (ar (mOp pGt ma mb)):=d_ zw (iQ fun _ _ _ _ _ _=>gE) ha hb (dJ _)
def lm(ha:SE X T W a ma)(hb:SE X T W b mb):ST X T W (.Compare a [.GtE] [b] pos) (ar (mOp pGe ma mb)):=d_ zx (iQ fun _ _ _ _ _ _=>gE) ha hb (dJ _)
def inL(x:PV)(ys:List PV):Bool:=ys.any fun y=>PyData.eqv y.data x.data
def pIn:PV->PV->Res PV:=fun x y=>match aQ y with
 | some ys=>if shp x&&ys.all shp then .ok (.bl (inL x ys))else .stuck
 | none=>.stuck
def fG:PV->PV->Res PV:=fun x y=>match aQ y with
 | some ys=>if shp x&&ys.all shp then .ok (.bl (!inL x ys))else .stuck
 | none=>.stuck
def lW(hK:X.K=T.K)(I:L2.Inv X gV Y H s)(hu:A.units+64 < cLine)(rx:Rel T F B L H x v fx)(ry:Rel T F B L H y u fy)(rv:aT v v')(ru:aT u u')(hx:shp x=true)(hy:shp y=true) :
  SeqAt.EqAt A s v' u' (PyData.eqv x.data y.data):=by
 obtain⟨as,ra⟩:=rx.reads hK I rv (SeqAt.canLay_of_shaped hx)
 obtain⟨bs,rb⟩:=ry.reads hK I ru (SeqAt.canLay_of_shaped hy)
 exact SeqAt.eqAt_reads _ _ A s v' u' as bs ra rb (SeqAt.canLay_of_shaped hx) (SeqAt.canLay_of_shaped hy) (SeqAt.room_of_shaped hx hu)
def gn(hK:X.K=T.K)(I:L2.Inv X gV Y H s)(hu:A.units+64 < cLine)(rx:Rel T F B L H x v fx)(rv:aT v v')(hx:shp x=true) :
  ∀{ys:List PV}{us:List V}{fy:List Addr}{us':List Value},RelL T F B L H ys us fy->aB us us'->ys.all shp=true->∃e:Value->Bool,(∀w∈us',SeqAt.EqAt A s w v' (e w))/\us'.any e=inL x ys:=by
 intro ys us fy us' r rv' hs
 have one:∀(ys:List PV) (us:List V) (fy:List Addr) (us':List Value),RelL T F B L H ys us fy->aB us us'->ys.all shp=true->∀w∈us',∃b,SeqAt.EqAt A s w v' b/\(b=true->inL x ys=true):=by
  intro ys
  induction ys with
  | nil =>
   intro us fy us' r rv' _ w hw
   unfold RelL at r
   obtain⟨rfl,_⟩:=r
   cases rv'
   cases hw
  | cons y ys ih =>
   intro us fy us' r rv' hs w hw
   unfold RelL at r
   obtain⟨u,ws,f1,f2,rfl,h1,h2,_⟩:=r
   cases rv' with
   | cons r1 r2 =>
    rw[List.all_cons,Bool.and_eq_true]at hs
    rcases List.mem_cons.mp hw with rfl | hw
    ·exact⟨_,lW hK I hu h1 rx r1 rv hs.1 hx,fun z=>by simp[inL,z]⟩
    ·obtain⟨b,h3,h4⟩:=ih ws f2 _ h2 r2 hs.2 w hw
     exact⟨b,h3,fun z=>by have:=h4 z;unfold inL at this ⊢;simp[this]⟩
 have some_:∀(ys:List PV) (us:List V) (fy:List Addr) (us':List Value),RelL T F B L H ys us fy->aB us us'->ys.all shp=true->inL x ys=true->∃w∈us',SeqAt.EqAt A s w v' true:=by
  intro ys
  induction ys with
  | nil=>intro us fy us' r rv' _ h;simp[inL]at h
  | cons y ys ih =>
   intro us fy us' r rv' hs h
   unfold RelL at r
   obtain⟨u,ws,f1,f2,rfl,h1,h2,_⟩:=r
   cases rv' with
   | cons r1 r2 =>
    rw[List.all_cons,Bool.and_eq_true]at hs
    by_cases hy:PyData.eqv y.data x.data=true
    ·refine⟨_,List.mem_cons_self,?_⟩
     have:=lW hK I hu h1 rx r1 rv hs.1 hx
     rwa [hy]at this
    ·have h':inL x ys=true:=by
      unfold inL at h ⊢
      rw[List.any_cons]at h
      simpa[hy]using h
     grind
 by_cases hin:inL x ys=true
 ·obtain⟨w0,hw0,q0⟩:=some_ ys us fy us' r rv' hs hin
  refine⟨fun w=>@decide (SeqAt.EqAt A s w v' true) (Classical.propDecidable _),fun w hw=>?_,?_⟩
  ·obtain⟨b,h1,_⟩:=one ys us fy us' r rv' hs w hw
   by_cases ht:SeqAt.EqAt A s w v' true
   ·simp only[ht,decide_true]
   ·simp only[ht,decide_false]
    cases b with
    | true=>exact absurd h1 ht
    | false=>exact h1
  ·rw[hin,List.any_eq_true]
   exact⟨w0,hw0,by simp[q0]⟩
 ·have hin':inL x ys=false:=by simpa using hin
  refine⟨fun _=>false,fun w hw=>?_,by rw[hin'];simp⟩
  grind
def wm(X:Cx)(T:Tb)(neg:Bool):R2:=fun v u H Q=>∃x ys a vs F B L fx fy,u=.ref a/\(SqL T.K H a vs\/SqT T.K H a vs)/\Rel T F B L H x v fx/\RelL T F B L H ys vs fy/\shp x=true/\ys.all shp=true/\Q (.bl (if neg then !inL x ys else inL x ys)) H
def qF(hK:X.K=T.K)(hu:X.A.units+66 < cLine):OpR X (compareOp .In) (wm X T false):=by
 intro gV s Y H v u v' u' Q I rv ru h
 obtain⟨x,ys,a,vs,F,B,L,fx,fy,rfl,hs,rx,ry,hx,hy,q⟩:=h
 cases ru
 have hu1:X.A.in1.units+64 < cLine:=by show X.A.units+1+64 < cLine;omega
 rcases hs with hs | hs
 ·obtain⟨its,r,pl,_⟩:=I.list (by rw[hK];exact hs)
  obtain⟨e,h1,h2⟩:=gn hK I hu1 rx rv hx ry r hy
  refine SeqAt.in_listAt e pl.isList (fun w hw=>h1 w (by simpa using hw)) ⟨.bl _,H,I,rfl,?_⟩
  rw[show its.toArray.any e=its.any e by simp,h2]
  exact q
 ·obtain⟨its,r,pl,_⟩:=I.tuple (by rw[hK];exact hs)
  obtain⟨e,h1,h2⟩:=gn hK I hu1 rx rv hx ry r hy
  refine SeqAt.in_tupleAt e pl (fun w hw=>h1 w (by simpa using hw)) ⟨.bl _,H,I,rfl,?_⟩
  rw[show its.toArray.any e=its.any e by simp,h2]
  exact q
def ph(hK:X.K=T.K)(hu:X.A.units+66 < cLine):OpR X (compareOp .NotIn) (wm X T true):=by
 intro gV s Y H v u v' u' Q I rv ru h
 obtain⟨x,ys,a,vs,F,B,L,fx,fy,rfl,hs,rx,ry,hx,hy,q⟩:=h
 cases ru
 have hu1:X.A.in1.units+64 < cLine:=by show X.A.units+1+64 < cLine;omega
 rcases hs with hs | hs
 ·obtain⟨its,r,pl,_⟩:=I.list (by rw[hK];exact hs)
  obtain⟨e,h1,h2⟩:=gn hK I hu1 rx rv hx ry r hy
  refine SeqAt.notIn_listAt e pl.isList (fun w hw=>h1 w (by simpa using hw)) ⟨.bl _,H,I,rfl,?_⟩
  rw[show its.toArray.any e=its.any e by simp,h2]
  exact q
 ·obtain⟨its,r,pl,_⟩:=I.tuple (by rw[hK];exact hs)
  obtain⟨e,h1,h2⟩:=gn hK I hu1 rx rv hx ry r hy
  refine SeqAt.notIn_tupleAt e pl (fun w hw=>h1 w (by simpa using hw)) ⟨.bl _,H,I,rfl,?_⟩
  rw[show its.toArray.any e=its.any e by simp,h2]
  exact q
def ng:gB T W (fun x y=>match aQ y with
 | some ys=>if shp x&&ys.all shp then .ok (.bl (if neg then !inL x ys else inL x ys))else .stuck
 | none=>.stuck) (wm X T neg):=by
 intro B F L Y H Q F' H' x y v u fx fy gr rx ry nf nd new q
 dsimp only at q
 cases e:aQ y with
 | none=>rw[e]at q;exact q.elim
 | some ys =>
  rw[e]at q
  dsimp only at q
  by_cases hc:(shp x&&ys.all shp)=true
  ·rw[if_pos hc]at q
   rw[Bool.and_eq_true]at hc
   obtain⟨a,ws,f',rfl,hs,hr,_⟩:=ry.seq e
   exact⟨x,ys,a,ws,F',B,L,fx,f',rfl,hs,rx,hr,hc.1,hc.2,q.scal gr gE⟩
  ·rw[if_neg hc]at q;exact q.elim
def y7(hK:X.K=T.K)(hu:X.A.units+66 < cLine)(ha:SE X T W a ma)(hb:SE X T W b mb)(hk:behindInMarks .In b=false:=by with_unfolding_all rfl):SE X T W (.Compare a [.In] [b] pos) (mOp pIn ma mb):=ky (qF hK hu) (ng (neg:=false)) ha hb hk
def pZ(hK:X.K=T.K)(hu:X.A.units+66 < cLine)(ha:SE X T W a ma)(hb:SE X T W b mb)(hk:behindInMarks .In b=false:=by with_unfolding_all rfl):ST X T W (.Compare a [.In] [b] pos) (ar (mOp pIn ma mb)):=d_ (qF hK hu) (ng (neg:=false)) ha hb hk
def lj(hK:X.K=T.K)(hu:X.A.units+66 < cLine)(ha:SE X T W a ma)(hb:SE X T W b mb)(hk:behindInMarks .NotIn b=false:=by with_unfolding_all rfl):ST X T W (.Compare a [.NotIn] [b] pos) (ar (mOp fG ma mb)):=d_ (ph hK hu) (ng (neg:=true)) ha hb hk
def PV.isNon:PV->Bool
 | .non=>true
 | _=>false
def qD:PV->PV->Res PV
 | x,.non=>.ok (.bl x.isNon)
 | _,_=>.stuck
def fv:PV->PV->Res PV
 | x,.non=>.ok (.bl (!x.isNon))
 | _,_=>.stuck
def Rel.isNon(r:Rel T F B L H x v f):decide (v=.non)=x.isNon:=by
 cases x with
 | non | bl b | int i | str i=>unfold Rel at r;rw[r.1];rfl
 | lst f xs=>unfold Rel at r;obtain⟨a,_,_,rfl,_⟩:=r;rfl
 | tup xs=>unfold Rel at r;obtain⟨a,_,rfl,_⟩:=r;rfl
 | obj f c ks xs=>unfold Rel at r;obtain⟨a,_,_,_,rfl,_⟩:=r;rfl
 | exc c=>unfold Rel at r;obtain⟨a,rfl,_⟩:=r;rfl
 | box k xs=>unfold Rel at r;obtain⟨a,vs,rfl,_⟩:=r;rfl
def um:gB T W qD (fun x y H Q=>y=.non/\Q (.bl (decide (x=.non))) H):=by
 intro B F L Y H Q F' H' x y v u fx fy gr rx ry nf nd new q
 cases y with
 | non=>unfold Rel at ry;refine⟨ry.1,?_⟩;rw[rx.isNon];exact GE.scal (pv:=.bl x.isNon) (by simpa[qD]using q) gr gE
 | _=>simp only[qD]at q;exact q.elim
def qR:gB T W fv (fun x y H Q=>y=.non/\Q (.bl (!decide (x=.non))) H):=by
 intro B F L Y H Q F' H' x y v u fx fy gr rx ry nf nd new q
 cases y with
 | non=>unfold Rel at ry;refine⟨ry.1,?_⟩;rw[rx.isNon];exact GE.scal (pv:=.bl (!x.isNon)) (by simpa[fv]using q) gr gE
 | _=>simp only[fv]at q;exact q.elim
def vR(ha:SE X T W a ma)(hb:SE X T W b mb):ST X T W (.Compare a [.Is] [b] pos) (ar (mOp qD ma mb)):=d_ wK um ha hb (dJ _)
def nO(ha:SE X T W a ma)(hb:SE X T W b mb):ST X T W (.Compare a [.IsNot] [b] pos) (ar (mOp fv ma mb)):=d_ ua qR ha hb (dJ _)
end
abbrev TgM:=PV->En->Option En
abbrev pS:=List PV->En->Option En
def tgN(i:Nat):TgM:=fun v env=>if aY i env then some (env.set i (some v))else none
def pW:pS:=fun vs env=>match vs with
 | []=>some env
 | _=>none
def fA(t:TgM)(u:pS):pS:=fun vs env=>match vs with
 | v::r=>match t v env with
  | some e=>u r e
  | none=>none
 | []=>none
def tgT(n:Nat)(u:pS):TgM:=fun v env=>match v with
 | .tup xs=>if xs.length=n then u xs env else none
 | _=>none
structure pT(Z:Zn)(F:Addr->Prop)(fp:Nat->List Addr)(f:List Addr):Prop where
 nd:f.Nodup
 nf:∀a∈f,¬F a
 new:∀a∈f,Z.H0 a=none\/Z.fp0 a
 dj:∀a∈f,∀j,a∉fp j
def pT.nil:pT Z F fp []:=⟨List.nodup_nil,fun _ z=>(nomatch z),fun _ z=>(nomatch z),fun _ z=>(nomatch z)⟩
def GG(T:Tb)(Z:Zn)(F:Addr->Prop)(H:Hp)(Q:St->Hp->Prop):Option En->Prop
 | some e=>∀Y fp,ap T Z F H Y e fp->Q Y H
 | none=>False
def tG(T:Tb)(m:TgM):TG:=fun v Y H Q=>∃Z F env fp pv f,ap T Z F H Y env fp/\Rel T F Z.B NoL H pv v f/\pT Z F fp f/\GG T Z F H Q (m pv env)
def tGs(T:Tb)(m:pS):TGs:=fun vs Y H Q=>∃Z F env fp pvs f,ap T Z F H Y env fp/\RelL T F Z.B NoL H pvs vs f/\pT Z F fp f/\GG T Z F H Q (m pvs env)
abbrev SG(X:Cx)(T:Tb)(tg:Expr)(m:TgM):Prop:=PG X tg (tG T m)
abbrev SGs(X:Cx)(T:Tb)(ts:List Expr)(m:pS):Prop:=PGs X ts (tGs T m)
section
variable{X:Cx}{T:Tb}{W:Nat->St->Hp->Prop}{Z:Zn}{F F1 B L:Addr->Prop}{H H1:Hp}{Y:St}{env:En}{fp:Nat->List Addr}{D:Ends}
def PG.wk(h:PG X tg t)(w:∀v Y H Q,t' v Y H Q->t v Y H Q):PG X tg t':=fun gV s Y H v u Q I r q=>h gV s Y H v u Q I r (w v Y H Q q)
def PGs.wk(h:PGs X ts t)(w:∀v Y H Q,t' v Y H Q->t v Y H Q):PGs X ts t':=fun gV s Y H v u Q I r q=>h gV s Y H v u Q I r (w v Y H Q q)
def sV(hN:X.N.Nodup)(hi:X.N[i]?=some x)(hx:Loc X.env.scope x)(hf:X.fn x=true\/X.env.scope.names.lookup x=some .local:=by first | exact .inl rfl | exact .inr rfl | assumption):SG X T (.Name x pos) (tgN i) :=
 PG.wk (nZ (pos:=pos) hN hi hx hf) fun v Y H Q ⟨Z,F,env,fp,pv,f,S,r,fr,q⟩=>by
  unfold tgN at q
  by_cases ho:aY i env=true
  ·rw[if_pos ho]at q
   exact q _ _ (S.put r fr.nd fr.nf fr.new (fun a ha j _=>fr.dj a ha j) ho)
  ·rw[if_neg ho]at q;exact q.elim
def sU:SGs X T [] pW:=PGs.wk t3 fun vs Y H Q ⟨Z,F,env,fp,pvs,f,S,r,fr,q⟩=>by
 cases pvs with
 | nil=>unfold RelL at r;exact⟨r.1,q Y fp S⟩
 | cons x xs=>exact q.elim
def lw(hN:X.N.Nodup)(hi:X.N[i]?=some x)(hx:Loc X.env.scope x)(h2:SGs X T es u)
  (hs:(assignEach (.Name x pos::es) X.env).map (·.2)=assign (.Name x pos) X.env::(assignEach es X.env).map (·.2):=by rfl)
  (hf:X.fn x=true\/X.env.scope.names.lookup x=some .local:=by first | exact .inl rfl | exact .inr rfl | assumption):SGs X T (.Name x pos::es) (fA (tgN i) u) :=
 PGs.wk (qv (nZ (pos:=pos) hN hi hx hf) h2 hs) fun vs Y H Q ⟨Z,F,env,fp,pvs,f,S,r,fr,q⟩=>by
  cases pvs with
  | nil=>exact q.elim
  | cons y ys =>
   unfold RelL at r
   obtain⟨v,ws,f1,f2,rfl,r1,r2,rfl⟩:=r
   obtain⟨n1,n2,n3⟩:=List.nodup_append.mp fr.nd
   by_cases ho:aY i env=true
   case neg=>simp only[fA,tgN,if_neg ho]at q;exact q.elim
   simp only[fA,tgN,if_pos ho]at q
   refine⟨v,ws,rfl,Z,F,env.set i (some y),a5 fp i f1,ys,f2,S.put r1 n1 (fun a ha=>fr.nf a (List.mem_append_left _ ha)) (fun a ha=>fr.new a (List.mem_append_left _ ha)) (fun a ha j _=>fr.dj a (List.mem_append_left _ ha) j) ho,r2,⟨n2,fun a ha=>fr.nf a (List.mem_append_right _ ha),fun a ha=>fr.new a (List.mem_append_right _ ha),fun a ha j=>?_⟩,q⟩
   unfold a5
   split
   ·exact fun z=>n3 a z a ha rfl
   ·exact fr.dj a (List.mem_append_right _ ha) j
def vW(hK:X.K=T.K)(hc:X.calm=true)(h:SGs X T es u)(hn:(assignEach es X.env).length=n:=by rfl)(hst:(assignEach es X.env).findIdx? (·.1)=none:=by rfl):SG X T (.Tuple es k pos) (tgT n u) :=
 PG.wk (wu (pos:=pos) (k:=k) hc h hn hst) fun v Y H Q ⟨Z,F,env,fp,pv,f,S,r,fr,q⟩=>by
  cases pv with
  | tup xs =>
   unfold Rel at r
   obtain⟨a,vs,rfl,hl,hr⟩:=r
   simp only[tgT]at q
   by_cases hx:xs.length=n
   ·rw[if_pos hx]at q
    exact⟨a,vs,rfl,by rw[hK];exact hl,by rw[<- hr.length];exact hx,Z,F,env,fp,xs,f,S,hr,fr,q⟩
   ·rw[if_neg hx]at q;exact q.elim
  | _=>exact q.elim
abbrev MI:=En->Res (List PV)
def ItR(T:Tb)(F B:Addr->Prop)(Ow:Addr->Prop)(H1:Hp)(J:It)(xs:List PV):Prop :=
 ∀H2,(∀a o,H1 a=some o->¬Ow a->H2 a=some o)->(∀(i:Nat) x,xs[i]?=some x->J.go i H2/\∀v H3,J.yld i H2 v H3->Ext H2 H3/\Rel T F B NoL H3 x v [])/\J.stop xs.length H2
def ItR.of0(h:∀H2,(∀a o,H1 a=some o->¬Ow a->H2 a=some o)->(∀(i:Nat) x,xs[i]?=some x->J.go i H2/\∀v H3,J.yld i H2 v H3->H3=H2/\Rel T F B NoL H2 x v [])/\J.stop xs.length H2):ItR T F B Ow H1 J xs:=fun H2 hk=>by
 obtain⟨a,b⟩:=h H2 hk
 refine⟨fun i x e=>⟨(a i x e).1,fun v H3 hy=>?_⟩,b⟩
 obtain⟨rfl,r⟩:=(a i x e).2 v H3 hy
 exact⟨Ext.refl,r⟩
def GI(T:Tb)(W:Nat->St->Hp->Prop)(B F Ow:Addr->Prop)(Y:St)(H:Hp)(R:It->Hp->Prop):Res (List PV)->Prop
 | .ok xs=>∀J H1 F1,Gr F H F1 H1->ItR T F1 B Ow H1 J xs->R J H1
 | .exc c=>∀H',Ext H H'->W c Y H'
 | .stuck=>False
def tI(T:Tb)(W:Nat->St->Hp->Prop)(m:MI):TI:=fun Y H R=>∃Z F env fp,ap T Z F H Y env fp/\GI T W Z.B F (Own fp) Y H R (m env)
abbrev SI(X:Cx)(T:Tb)(W:Nat->St->Hp->Prop)(tg iter:Expr)(m:MI):Prop:=PI X tg iter (tI T W m)
def qu(hl:PE X l tl):PI X tg l (fun Y H R=>tl Y H fun x H1=>∃a,x=.ref a/\((∃xs,SqL X.K H1 a xs/\R (Itl X.K a) H1)\/ ∃xs,SqT X.K H1 a xs/\R (Itt X.K a) H1)):=by
 intro gV s Y H R I h
 refine thn (hl gV s Y H _ I h) fun v s1 ⟨x,H1,I1,r1,q1⟩=>?_
 obtain⟨a,e,q⟩:=q1
 subst e
 cases r1
 rcases q with⟨xs,hq,q⟩ |⟨xs,hq,q⟩
 ·obtain⟨its,rv,p,hz⟩:=I1.list hq
  refine wpAny_pyIter_list p.isList ?_
  refine⟨s1.heap.objs.size,[s1.heap.objs.size],_,_,H1,rfl,I1.kept (t':=s1.toks) fun b o e=>Heap.get?_push_of_some _ e,oP a _,⟨_,Heap.get?_push_size _ rfl,rfl,rfl⟩,fun b hb=>?_,q⟩
  have e:b=s1.heap.objs.size:=by simpa using hb
  subst e
  exact I1.fpOk (Nat.le_refl _) (I1.hok.fresh (Nat.le_refl _))
 ·obtain⟨its,rv,p,hz⟩:=I1.tuple hq
  refine wpAny_pyIter_tuple (show s1.heap.IsTuple a its.toArray from p) ?_
  refine⟨s1.heap.objs.size,[s1.heap.objs.size],_,_,H1,rfl,I1.kept (t':=s1.toks) fun b o e=>Heap.get?_push_of_some _ e,mG a _,⟨_,Heap.get?_push_size _ rfl,rfl,rfl⟩,fun b hb=>?_,q⟩
  have e:b=s1.heap.objs.size:=by simpa using hb
  subst e
  exact I1.fpOk (Nat.le_refl _) (I1.hok.fresh (Nat.le_refl _))
def cW(xs:List PV):Bool:=!hasL Fl.isOwn xs&&!hasL Fl.isLnt xs
def cL(m:ME):MI:=fun env=>(m env).bind fun x=>match x with
 | .lst f xs=>if !f.isLnt&&cW xs then .ok xs else .stuck
 | .tup xs=>if cW xs then .ok xs else .stuck
 | _=>.stuck
def i3{H2:Hp}{Ow:Addr->Prop}(hF:∀a,F1 a->¬Ow a)(hB:∀a,B a->¬Ow a)(hO:∀a o,Ow a->H1 a=some o->Chg o)(hk:∀a o,H1 a=some o->¬Ow a->H2 a=some o){xs:List PV}{vs:List V}(r:RelL T F1 B NoL H1 xs vs []){i:Nat}{x:PV}{v:V}(e:xs[i]?=some x)(ev:vs[i]?=some v):Rel T F1 B NoL H2 x v []:=by
 obtain⟨w,f,e1,r1,sl⟩:=r.get e
 rw[ev]at e1
 cases e1
 obtain rfl:=List.sublist_nil.mp sl
 refine Rel.tr (fun _ h=>h) (fun _ h=>h) (fun _ h=>h) (fun a o q h=>hk a o q ?_) (fun _ z=>(nomatch z)) r1
 rcases h with h | h | h | h
 ·exact hF a h
 ·exact hB a h
 ·exact h.elim
 ·intro z
  have:=hO a o z q
  cases o with
  | lst _ | ins _ _ _=>exact h
  | _=>exact this
def ap.bow(S:ap T Z F H Y env fp):∀a,Z.B a->¬Own fp a:=fun a h ⟨i,hi⟩=>by
 obtain⟨⟨o,h1⟩,h2⟩:=S.hp.bo.1 a h
 rcases S.new i a hi with z | z
 ·rw[h1]at z;cases z
 ·exact h2 z
def ap.fow(S:ap T Z F H Y env fp):∀a,F a->¬Own fp a:=fun a h ⟨i,hi⟩=>(S.dis i a hi).1 h
def ap.oow(S:ap T Z F H Y env fp):∀a o,Own fp a->H a=some o->Chg o:=fun a o ⟨i,hi⟩ e=>by
 obtain⟨o',h1,h2⟩:=S.ch i a hi
 rw[e]at h1;cases h1;exact h2
def dU(h:cW xs=true)(r:RelL T F B L H xs vs f):f=[]/\RelL T F B NoL H xs vs f:=by
 simp only[cW,Bool.and_eq_true,Bool.not_eq_true']at h
 exact⟨RelL.noOwn h.1 r,RelL.noL h.2 r⟩
def fC(hK:X.K=T.K)(he:SE X T W e m):SI X T W tg e (cL m):=fun gV s Y H R I h=>qu he gV s Y H R I (by
 obtain⟨Z,F,env,fp,S,q⟩:=h
 unfold cL at q
 refine tE.bind S (fun c e=>by rw[e]at q;exact q) (fun e=>by rw[e]at q;exact q) fun x v H1 F1 f1 e1 g1 r1 n1 d1 w1=>?_
 rw[e1]at q
 simp only[Res.ok_bind]at q
 have S1:=S.grow g1
 rw[hK]
 cases x with
 | lst f xs =>
  dsimp only at q
  by_cases hc:(!f.isLnt&&cW xs)=true
  ·rw[if_pos hc]at q
   rw[Bool.and_eq_true]at hc
   unfold Rel at r1
   obtain⟨a,vs,fp',rfl,hl,hr,hf⟩:=r1
   obtain⟨rfl,hr'⟩:=dU hc.2 hr
   refine⟨a,rfl,.inl ⟨vs,hl.sq,q _ H1 F1 g1 (ItR.of0 fun H2 hk=>?_)⟩⟩
   have na:f≠.mod->∀o,H1 a=some o->H2 a=some o:=fun hn o ho=>by
    refine hk a o ho ?_
    cases f with
    | own =>
     rintro⟨i,hi⟩
     obtain⟨_,o',ho'⟩:=S.dis i a hi
     obtain rfl:f1=[a]:=hf
     rw[w1 a List.mem_cons_self]at ho';cases ho'
    | frz=>exact S1.fow a hl.1
    | bor=>exact S1.bow a hl.1
    | lnt=>exact absurd hc.1 (by decide)
    | mod=>exact absurd rfl hn
   have hl2:SqL T.K H2 a vs:=by
    by_cases hn:f=.mod
    ·subst hn;exact .inr hl
    ·exact .inl (Rd.tr (na hn) (hl.rd hn))
   refine⟨fun i x ex=>?_,⟨vs,hl2,by rw[hr.length];exact Nat.le_refl _⟩⟩
   obtain⟨v,_,ev,_,_⟩:=hr.get ex
   refine⟨⟨vs,v,hl2,ev⟩,fun w H3 hy=>⟨hy.1,?_⟩⟩
   have e3:=hy.2 vs hl2
   exact i3 S1.fow S1.bow S1.oow hk hr' ex e3
  ·rw[if_neg hc]at q;exact q.elim
 | tup xs =>
  dsimp only at q
  by_cases hc:cW xs=true
  ·rw[if_pos hc]at q
   unfold Rel at r1
   obtain⟨a,vs,rfl,hl,hr⟩:=r1
   obtain⟨rfl,hr'⟩:=dU hc hr
   refine⟨a,rfl,.inr ⟨vs,hl,q _ H1 F1 g1 (ItR.of0 fun H2 hk=>?_)⟩⟩
   have hl2:SqT T.K H2 a vs:=SqT.tr (fun o ho hfx=>hk a o ho fun z=>by
    have:=S1.oow a o z ho
    cases o with
    | lst _ | ins _ _ _=>exact hfx
    | _=>exact this) hl
   refine⟨fun i x ex=>?_,⟨vs,hl2,by rw[hr.length];exact Nat.le_refl _⟩⟩
   obtain⟨v,_,ev,_,_⟩:=hr.get ex
   refine⟨⟨vs,v,hl2,ev⟩,fun w H3 hy=>⟨hy.1,?_⟩⟩
   exact i3 S1.fow S1.bow S1.oow hk hr' ex (hy.2 vs hl2)
  ·rw[if_neg hc]at q;exact q.elim
 | _=>exact q.elim)
def cB(lo:Int)(n:Nat):List PV:=(List.range n).map fun k=>.int (lo+(k:Nat))
def inR(i:Int):Bool:=decide (-(2 ^ 62)<= i/\i < 2 ^ 62)
def bS(ms:MA):MI:=fun env=>(ms env).bind fun xs=>match xs with
 | [.int n]=>if inR n then .ok (cB 0 n.toNat)else .stuck
 | _=>.stuck
def jW(ms:MA):MI:=fun env=>(ms env).bind fun xs=>match xs with
 | [.int i,.int j]=>if inR i&&inR j then .ok (cB i (j - i).toNat)else .stuck
 | _=>.stuck
def om:ItR T F1 B Ow H1 (Itr lo n) (cB lo n):=by
 apply ItR.of0
 intro H2 _
 refine⟨fun i x ex=>?_,by simp[cB,Itr]⟩
 have hi:i < n:=by
  have:=(List.getElem?_eq_some_iff.mp ex).1
  simpa[cB]using this
 refine⟨hi,fun v H3 hy=>⟨hy.1,?_⟩⟩
 obtain⟨_,rfl⟩:=hy
 have:x=.int (lo+(i:Nat)):=by
  simp[cB,hi]at ex
  exact ex.symm
 subst this
 exact el
def dl(hg:Gl X "range")(hm:X.mg "range" = none)(ha:SA X T W [a] ms)(hs:starEach [a] X.env=[(false,eval a X.env)]:=by rfl):SI X T W tg (.Call (.Name "range" p) [a] [] pos) (bS ms):=fun gV s Y H R I h=>jQ hg hm ha hs gV s Y H R I (by
 obtain⟨Z,F,env,fp,S,q⟩:=h
 unfold bS at q
 refine tA.bind S (fun c e=>by rw[e]at q;exact q) (fun e=>by rw[e]at q;exact q) fun xs vs H1 F1 f1 e1 g1 r1 n1 d1 w1=>?_
 rw[e1]at q
 simp only[Res.ok_bind]at q
 split at q
 ·rename_i n
  split at q
  ·rename_i hc
   obtain⟨v,rfl,r2⟩:=r1.one
   unfold Rel at r2
   obtain⟨rfl,_⟩:=r2
   have hc':-(2 ^ 62)<= n/\n < 2 ^ 62:=by simpa[inR]using hc
   exact⟨n,rfl,hc'.1,hc'.2,q _ H1 F1 g1 om⟩
  ·exact q.elim
 ·exact q.elim)
def oT(hg:Gl X "range")(hm:X.mg "range" = none)(ha:SA X T W [a,b] ms)(hs:starEach [a,b] X.env=[(false,eval a X.env),(false,eval b X.env)]:=by rfl)(hs2:starEach [b] X.env=[(false,eval b X.env)]:=by rfl) :
  SI X T W tg (.Call (.Name "range" p) [a,b] [] pos) (jW ms):=fun gV s Y H R I h=>o8 hg hm ha hs hs2 gV s Y H R I (by
 obtain⟨Z,F,env,fp,S,q⟩:=h
 unfold jW at q
 refine tA.bind S (fun c e=>by rw[e]at q;exact q) (fun e=>by rw[e]at q;exact q) fun xs vs H1 F1 f1 e1 g1 r1 n1 d1 w1=>?_
 rw[e1]at q
 simp only[Res.ok_bind]at q
 split at q
 ·rename_i i j
  split at q
  ·rename_i hc
   unfold RelL at r1
   obtain⟨v,ws,f1,f2,rfl,h1,h2,_⟩:=r1
   obtain⟨v2,rfl,h3⟩:=h2.one
   unfold Rel at h1 h3
   obtain⟨rfl,_⟩:=h1
   obtain⟨rfl,_⟩:=h3
   have hc':(-(2 ^ 62)<= i/\i < 2 ^ 62)/\(-(2 ^ 62)<= j/\j < 2 ^ 62):=by simpa[inR]using hc
   exact⟨i,j,rfl,⟨hc'.1.1,hc'.1.2,hc'.2.1,hc'.2.2⟩,q _ H1 F1 g1 om⟩
  ·exact q.elim
 ·exact q.elim)
def b_(it:MI)(tg:TgM)(body:MS):MS:=fun env=>match it env with
 | .ok xs=>da (fun x e=>match tg x e with
  | some e'=>body e'
  | none=>.stuck) xs env
 | .exc c=>.exc c env
 | .stuck=>.stuck
def cz(hp:PassesOwn (model X.prog X.w) X.A X.env X.xe)(hc:X.calm=true)(hi:SI X T W tg iter mi)(hg:SG X T tg g)(hb:SSs X T W body mb)
  (hs:∀x,foldedSetIterable iter X.env x=pure x:=by intro _;rfl):SS X T W (.For tg iter body [] pos) (b_ mi g mb):=PS.wk (wq (pos:=pos) hp hc hi hg hb hs) fun D Y H ⟨Z,F,env,fp,S,q⟩=>by
 unfold b_ at q
 refine⟨Z,F,env,fp,S,?_⟩
 cases em:mi env with
 | exc c=>rw[em]at q;exact fun H' x=>q F H' Y fp (S.grow (Gr.same S.hp.ft x))
 | stuck=>rw[em]at q;exact q
 | ok xs =>
  rw[em]at q
  dsimp only at q
  intro J H1 F1 g1 it
  have S1:=S.grow g1
  generalize hbd:(fun (x:PV) (e:En)=>match g x e with
   | some e'=>mb e'
   | none=>Out.stuck)=bd at q
  refine⟨fun i m σ2 H2=>m=xs.length - i/\i<=xs.length/\∃F2 env2 fp2,ap T (Z.re F1 H1 fp) F2 H2 σ2 env2 fp2/\GS T W Z D (da bd (xs.drop i) env2),⟨xs.length,by simp,Nat.zero_le _,F1,env,fp,S1.enter,q⟩,?_⟩
  rintro i m σ2 H2 ⟨rfl,hi,F2,env2,fp2,S2,q2⟩
  obtain⟨go,stop⟩:=it H2 S2.hp.keep
  by_cases hlt:i < xs.length
  ·have hx:xs[i]?=some xs[i]:=by simp[hlt]
   obtain⟨g1',yl⟩:=go i _ hx
   refine .inr ⟨g1',fun σ3 H3=>∃F3 env3 fp3,ap T (Z.re F1 H1 fp) F3 H3 σ3 env3 fp3/\GS T W Z D (da bd (xs.drop (i+1)) env3),fun σ3 H3 h3=>⟨xs.length - (i+1),by omega,rfl,hlt,h3⟩,fun v H3 hy=>?_⟩
   obtain⟨ex3,r⟩:=yl v H3 hy
   rw[List.drop_eq_getElem_cons hlt]at q2
   unfold da at q2
   rw[<- hbd]at q2
   dsimp only at q2
   refine⟨Z.re F1 H1 fp,F2,env2,fp2,xs[i],[],S2.grow (Gr.same S2.hp.ft ex3),r.ext Ext.refl S2.hp.f0,pT.nil,?_⟩
   cases eg:g xs[i] env2 with
   | none=>rw[eg]at q2;exact q2
   | some e' =>
    rw[eg]at q2
    dsimp only at q2
    intro σ' fp' S'
    refine⟨Z.re F1 H1 fp,F2,e',fp',S',?_⟩
    cases eb:mb e' with
    | next e2 | cont e2=>rw[eb]at q2;exact fun F3 H3 σ3 fp3 S3=>⟨F3,e2,fp3,S3,by rw[<- hbd];exact q2⟩
    | brk e2=>rw[eb]at q2;exact fun F3 H3 σ3 fp3 S3=>q2 F3 H3 σ3 fp3 (S1.leave S3)
    | ret v=>rw[eb]at q2;exact fun F3 H3 v f hp r nd nf new=>q2 F3 H3 v f (bz.leave S1 hp) r nd nf fun a ha=>S1.newL (new a ha)
    | exc c e2=>rw[eb]at q2;exact fun F3 H3 σ3 fp3 S3=>q2 F3 H3 σ3 fp3 (S1.leave S3)
    | stuck=>rw[eb]at q2;exact q2
  ·have e:i=xs.length:=by omega
   subst e
   rw[List.drop_length]at q2
   exact .inl ⟨stop,q2 F2 H2 σ2 fp2 (S1.leave S2)⟩
end
end PR
namespace L2
open PySem PySem.Spec
def cO(cells:List (Str×Addr)):List (Str×NameKind)->List (Str×Addr)->List (Str×Addr)
 | [],acc=>acc
 | (n,k)::r,acc=>if (k == .free)=true then (match cells.lookup n with
  | some c=>cO cells r ((n,c)::acc)
  | none=>cO cells r acc)else cO cells r acc
def fN:∀(names:List (Str×NameKind)) (acc:List (Str×Addr)),(∀y∈names,y.2=.free->∃c,env.cells.lookup y.1=some c)->
  (forIn names acc fun (x:Str × NameKind) (cs:List (Str × Addr))=>match x with
   |(name,kind)=>if(kind==.free)=true then do let c <- cellOf env name;pure (ForInStep.yield ((name,c)::cs))else pure (ForInStep.yield cs):Sem (List (Str×Addr)))=pure (cO env.cells names acc)
 | [],acc,_=>by simp[cO]
 |(n,k)::r,acc,h=>by
  rw[List.forIn_cons]
  by_cases hk:(k==NameKind.free)=true
  ·obtain⟨c,hc⟩:=h (n,k) List.mem_cons_self (by simpa using hk)
   dsimp only at hc
   simp only[hk,if_true,cellOf,hc,pure_bind]
   rw[cO,if_pos hk,hc]
   exact fN r _ fun y hy=>h y (List.mem_cons_of_mem _ hy)
  ·simp only[hk,Bool.false_eq_true,if_false,pure_bind]
   rw[cO,if_neg hk]
   exact fN r _ fun y hy=>h y (List.mem_cons_of_mem _ hy)
def jw(h:∀y∈scope.names,y.2=.free->∃c,env.cells.lookup y.1=some c):closureFor scope env=pure (cO env.cells scope.names []):=by
 unfold closureFor
 simp only[]
 rw[<- fN scope.names [] h]
 simp
def d0{cells:List (Str×Addr)}:∀{names:List (Str×NameKind)}{acc:List (Str×Addr)},(∀p∈acc,cells.lookup p.1=some p.2)->∀p∈cO cells names acc,cells.lookup p.1=some p.2
 | [],_,h=>h
 |(n,k)::r,acc,h=>by
  unfold cO
  split
  ·split
   ·rename_i c hc
    exact d0 (by grind)
   ·exact d0 h
  ·exact d0 h
def gx:∀{names:List (Str×NameKind)}{acc:List (Str×Addr)}{p:Str×Addr},p∈acc->p∈cO cells names acc
 | [],_,_,h=>h
 |(n,k)::r,acc,p,h=>by
  unfold cO
  split
  ·split
   ·exact gx (List.mem_cons_of_mem _ h)
   ·exact gx h
  ·exact gx h
def eW{cells:List (Str×Addr)}{x:Str}{c:Addr}(hc:cells.lookup x=some c):∀{names:List (Str×NameKind)}{acc:List (Str×Addr)},(x,NameKind.free)∈ names->(x,c)∈ cO cells names acc
 | [],_,h=>nomatch h
 |(n,k)::r,acc,h=>by
  unfold cO
  rcases List.mem_cons.mp h with e | h
  ·cases e
   rw[if_pos (by rfl),hc]
   exact gx List.mem_cons_self
  ·split
   ·split
    ·exact eW hc h
    ·exact eW hc h
   ·exact eW hc h
def fw{cells l:List (Str×Addr)}(h:∀p∈l,cells.lookup p.1=some p.2){x:Str}{c:Addr}(m:(x,c)∈ l):l.lookup x=some c:=by
 induction l with
 | nil=>cases m
 | cons p r ih =>
  grind
def dZ{cells:List (Str×Addr)}{names:List (Str×NameKind)}{x:Str}{c:Addr}(h:(cO cells names []).lookup x=some c):cells.lookup x=some c :=
 d0 (names:=names) (acc:=[]) (fun _ z=>nomatch z) (x,c) (PySem.mem_of_lookup h)
def ji:∀(names:List (Str×NameKind)) (a:Nat) (l acc:List (Str×Addr)),cellsFrom a names (l++acc)=cellsFrom a names l++acc
 | [],_,_,_=>rfl
 |(n,k)::r,a,l,acc=>by
  unfold cellsFrom
  split
  ·exact ji r (a+1) ((n,a)::l) acc
  ·exact ji r a l acc
def jh:∀{names:List (Str×NameKind)}{a:Nat}{l:List (Str×Addr)}{p:Str×Addr},p∈cellsFrom a names l->p∈l \/(a<=p.2/\(p.1,NameKind.cell)∈ names)
 | [],_,_,_,h=>.inl h
 |(n,k)::r,a,l,p,h=>by
  unfold cellsFrom at h
  split at h
  ·rename_i hk
   have hk:k=.cell:=by simpa using hk
   subst hk
   rcases jh h with h | h
   ·grind
   ·exact .inr ⟨by omega,List.mem_cons_of_mem _ h.2⟩
  ·rcases jh h with h | h
   ·exact .inl h
   ·exact .inr ⟨h.1,List.mem_cons_of_mem _ h.2⟩
def kT:∀{names:List (Str×NameKind)}{a:Nat}{l:List (Str×Addr)}{x:Str},((x,NameKind.cell)∈ names \/(l.lookup x).isSome=true)->((cellsFrom a names l).lookup x).isSome=true
 | [],_,_,_,h=>h.resolve_left (fun z=>nomatch z)
 |(n,k)::r,a,l,x,h=>by
  unfold cellsFrom
  split
  ·rename_i hk
   have hk:k=.cell:=by simpa using hk
   subst hk
   refine kT ?_
   grind
  ·rename_i hk
   refine kT ?_
   grind
def jk:∀{names:List (Str×NameKind)}{a:Nat}{l:List (Str×Addr)},(∀p∈l,p.2 < a)->(l.Pairwise fun x y=>x.2≠y.2)->(cellsFrom a names l).Pairwise fun x y=>x.2≠y.2
 | [],_,_,_,h=>h
 |(n,k)::r,a,l,hl,h=>by
  unfold cellsFrom
  split
  ·refine jk (fun p hp=>?_) (List.pairwise_cons.mpr ⟨fun y hy e=>?_,h⟩)
   ·grind
   ·have e':a=y.2:=e
    exact Nat.lt_irrefl _ (Nat.lt_of_lt_of_eq (hl y hy) e')
  ·exact jk hl h
def iY{α:Type}{x:Str}:∀{l m:List (Str×α)},(l++m).lookup x=(l.lookup x).or (m.lookup x)
 | [],m=>by simp
 |(n,c)::l,m=>by
  grind
abbrev l6(X:Cx)(scope:Scope)(C:Addr):List (Str×Addr):=cellsFrom (C+1) scope.names (cO X.env.cells scope.names [])
def gy{X:Cx}{scope:Scope}{C:Addr}{x:Str}{c:Addr}(h:(l6 X scope C).lookup x=some c):(C+1<=c/\(x,NameKind.cell)∈ scope.names/\(x,c)∈ cellsFrom (C+1) scope.names [])\/(cO X.env.cells scope.names []).lookup x=some c:=by
 unfold l6 at h
 rw[show cO X.env.cells scope.names []=[]++ cO X.env.cells scope.names []from rfl,ji,iY]at h
 cases e:(cellsFrom (C+1) scope.names []).lookup x with
 | some d =>
  rw[e]at h
  cases h
  have m:=PySem.mem_of_lookup e
  rcases jh m with z | z
  ·cases z
  ·exact .inl ⟨z.1,z.2,m⟩
 | none =>
  rw[e]at h
  exact .inr (by simpa using h)
def xG(hx:(x,NameKind.cell)∉ scope.names)(h:(cO X.env.cells scope.names []).lookup x=some c):(l6 X scope C).lookup x=some c:=by
 unfold l6
 rw[show cO X.env.cells scope.names []=[]++ cO X.env.cells scope.names []from rfl,ji,iY]
 cases e:(cellsFrom (C+1) scope.names []).lookup x with
 | some d =>
  rcases jh (PySem.mem_of_lookup e)with z | z
  ·cases z
  ·exact absurd z.2 hx
 | none=>simpa using h
def lF{M:Model}{A:Around}{E:Value->Shared->Prop}{s:Shared}{scope:Scope}{globals:Addr}{closure:List (Str×Addr)}{qual:Str}{func:Option Addr}{code:Value}{outer:Env}{builtins:Addr}{Q:Env->Shared->Prop}
  (hQ:∀ h',h'.Ns s.heap.objs.size (fun _=>none)->(∀ b o,s.heap.get? b=some o->h'.get? b=some o)->(∀ n c,(n,c) ∈ cellsFrom (s.heap.objs.size+1) scope.names []->h'.IsCell c none) ->
   Q (newEnv scope s.heap.objs.size globals (cellsFrom (s.heap.objs.size+1) scope.names closure) qual func code (some outer) builtins) { s with heap:=h' }) :
  wpAny M A (newFunctionEnv scope globals closure [] qual func code (some outer) builtins) Q E s:=by
 simp only[newFunctionEnv,Option.isSome_some,if_true]
 refine wpAny_bind (wpAny_alloc ?_)
 refine wpAny_bind (wpAny_layCells _ (fun name kind cells=>by cases hkc:kind==NameKind.cell<;>simp[hkc]) _ _ _ _ ?_)
 have ok:=cellsFrom_ok scope.names (s.heap.push { cls:=.type "dict", data:=.dict #[] }) (s.heap.objs.size+1) [] ⟨fun _ _ hm=>(nomatch hm),List.Pairwise.nil⟩ (by rw[Heap.size_push];exact Nat.le_refl _)
 rw[Heap.size_push]at ok
 rw[show({ s with heap:=s.heap.push { cls:=.type "dict", data:=.dict #[] } }:Shared).heap.objs.size=s.heap.objs.size+1 from Heap.size_push ..]
 refine wpAny_bind ?_
 rw[List.forIn_nil]
 exact wpAny_pure (wpAny_pure (hQ _ ((Heap.Ns.new s.heap (.type "dict")).keeps (pushCells_keeps _ _)) (fun b o e=>pushCells_keeps _ _ b o (Heap.get?_push_of_some _ e)) fun n c hm=>(ok.empty n c hm).1))
def cxC(X:Cx)(scope:Scope)(C:Addr)(N:List Str)(s:Shared)(H:Hp)(ex:List Addr):Cx :=
 { X with env:=compEnvC scope (l6 X scope C) C X.env,N:=N,s₀:=s,H₀:=H,outer:=X.stack,stack:=X.stack,ex:=ex,fn:=fun x=>scope.names.lookup x==some .cell,pn:=[],xe:=fun _ _=>False }
structure cQ(X:Cx)(scope:Scope)(caps:List Nat)(N tn:List Str):Prop where
 kind:scope.kind=.function
 cel:∀y∈scope.names,y.2=.cell->scope.names.lookup y.1=some .cell
 names:∀y∈scope.names,y.2=.local->scope.names.lookup y.1=some .local
 free:∀y∈scope.names,y.2=.free->X.env.kindOf y.1=some .cell\/X.env.kindOf y.1=some .free
 eN:N=caps.map (fun i=>X.N.getD i "")++ tn
 capN:∀i∈caps,i < X.N.length
 capF:∀i∈caps,∀x,X.N[i]?=some x->(x,NameKind.free)∈ scope.names/\scope.names.lookup x=some .free
 nd:N.Nodup
def f_{scope:Scope}{env:Env}{x:Str}{k:NameKind}(h:(relabel scope env).names.lookup x=some k)(hc:k=.cell\/k=.free):(x,NameKind.free)∈ scope.names \/(x,NameKind.cell)∈ scope.names:=by
 have m:=PySem.mem_of_lookup h
 obtain⟨⟨n,k0⟩,hm,e⟩:=List.mem_map.mp m
 grind
def gb{scope:Scope}{env:Env}{x:Str}:∀{names:List (Str×NameKind)},names.lookup x=some .free ->
  (names.map fun(n,k)=>if(k==NameKind.free&&env.scope.kind==.function&&env.kindOf n==some .cell)then(n,NameKind.cell)else(n,k)).lookup x=some .cell \/
  (names.map fun(n,k)=>if(k==NameKind.free&&env.scope.kind==.function&&env.kindOf n==some .cell)then(n,NameKind.cell)else(n,k)).lookup x=some .free
 | [],h=>by simp at h
 |(n,k)::r,h=>by
  show List.lookup x ((if(k==NameKind.free&&env.scope.kind==.function&&env.kindOf n==some .cell)=true then(n,NameKind.cell)else(n,k))::_)=_\/List.lookup x ((if(k==NameKind.free&&env.scope.kind==.function&&env.kindOf n==some .cell)=true then(n,NameKind.cell)else(n,k))::_)=_
  have ih:=@gb scope env x r
  grind
section
variable{X:Cx}{scope:Scope}{caps:List Nat}{N tn:List Str}{gV:List (Addr×Obj)}{Y:St}{H:Hp}{s:Shared}{fp:List Addr}{C:Addr}
def kR(cs:cQ X scope caps N tn)(I:Inv X gV Y H s)(hf:∀b∈fp,lf X gV H b)(hlt:∀b∈fp,b < s.heap.objs.size)(hC:s.heap.objs.size<=C):(cxC X scope C N s H fp).Ok where
 mod:=I.ok.mod
 kind:=by show(relabel scope X.env).kind=_;exact cs.kind
 glob:=I.ok.glob
 blt:=I.ok.blt
 above:=hC
 inj:=fun x y c h1 h2=>by
  have old:∀z,(cO X.env.cells scope.names []).lookup z=some c->c < s.heap.objs.size:=fun z hz=>let⟨_,hv⟩:=I.cell z c (dZ hz);hv.lt
  rcases gy h1 with⟨l1,_,m1⟩ | h1<;>rcases gy h2 with⟨l2,_,m2⟩ | h2
  ·exact name_of_addr (jk (l:=[]) (fun _ z=>nomatch z) List.Pairwise.nil) m1 m2
  ·grind
  ·grind
  ·exact I.ok.inj x y c (dZ h1) (dZ h2)
 has:=fun x hx=>by
  have hx:(relabel scope X.env).names.lookup x=some .cell \/(relabel scope X.env).names.lookup x=some .free:=hx
  have m:(x,NameKind.free)∈ scope.names \/(x,NameKind.cell)∈ scope.names:=by
   rcases hx with h | h
   ·exact f_ h (.inl rfl)
   ·exact f_ h (.inr rfl)
  refine Option.isSome_iff_exists.mp (kT (l:=cO X.env.cells scope.names []) ?_)
  rcases m with m | m
  ·obtain⟨c,hc⟩:=I.ok.has x (cs.free _ m rfl)
   exact .inr (by rw[fw (d0 (acc:=[]) fun _ z=>nomatch z) (eW hc m)];rfl)
  ·exact .inl m
 cab:=fun x c h hc=>by
  have h':(scope.names.lookup x==some NameKind.cell)=true:=h
  have hx:scope.names.lookup x=some .cell:=by simpa using h'
  have hs:s.heap.objs.size<=C:=hC
  have hc:(l6 X scope C).lookup x=some c:=hc
  obtain⟨d,hd⟩:=Option.isSome_iff_exists.mp (kT (a:=C+1) (l:=[]) (.inl (PySem.mem_of_lookup hx)))
  unfold l6 at hc
  rw[show cO X.env.cells scope.names []=[]++ cO X.env.cells scope.names []from rfl,ji,iY,hd]at hc
  cases hc
  rcases jh (PySem.mem_of_lookup hd)with z | z
  ·cases z
  ·exact Nat.le_trans hs (Nat.le_trans (Nat.le_succ _) z.1)
 hd:=I.ok.hd
 frames:=I.ok.frames
 stk:=.inl rfl
 exf:=fun b hb=>⟨Nat.ne_of_lt (Nat.lt_of_lt_of_le (hlt b hb) hC),fun x c h=>by
  rcases gy h with⟨l1,_,_⟩ | h
  ·exact fun z=>absurd (Nat.lt_of_lt_of_le (hlt b hb) (Nat.le_trans hC (Nat.le_trans (Nat.le_succ _) l1))) (by rw[z];exact Nat.lt_irrefl _)
  ·exact(hf b hb).2.2.2.2.1 x c (dZ h)⟩
 bs:=I.bs
 bsz:=Nat.le_trans I.ok.bsz I.sz
 noex:=fun b o e hb=>by
  rcases(hf b hb).2.2.2.1 with z | z
  ·exact I.ok.noex b o e z
  ·exact absurd (Nat.lt_of_lt_of_le (Heap.lt_size e) (Nat.le_trans I.ok.bsz z)) (Nat.lt_irrefl _)
 exfs:=fun b hb hs=>by
  rcases List.mem_cons.mp (I.stkSub b hs)with z | z
  ·exact(hf b hb).2.1 z
  ·exact(hf b hb).2.2.1 z
 funs:=I.stack
 frf:=I.stkFree
def kU(caps:List Nat)(k:Nat)(Y:St):St:=caps.map (fun i=>(Y[i]?).join)++ List.replicate k none
def rk(cs:cQ X scope caps N tn)(I:Inv X gV Y H s)(hf:∀b∈fp,lf X gV H b)(hlt:∀b∈fp,b < s.heap.objs.size)
  (hns:h₁.Ns (s.heap.objs.size+1) fun _=>none) (hD:h₁.get? s.heap.objs.size=some { cls:=.type "list", data:=.seq ([]:List Value).toArray }) (old:∀b o,s.heap.get? b=some o->h₁.get? b=some o)
  (hcl:∀n c,(n,c)∈ cellsFrom (s.heap.objs.size+1+1) scope.names []->h₁.IsCell c none) :
  Inv (cxC X scope (s.heap.objs.size+1) N s H fp) [] (kU caps tn.length Y) (upd H s.heap.objs.size (.lst [])) { s with heap:=h₁,toks:=t }:=by
 have fresh:∀b,s.heap.objs.size<=b->H b=none:=fun b hb=>I.hok.fresh hb
 have neD:s.heap.objs.size+1≠s.heap.objs.size:=Nat.succ_ne_self _
 have ltc:∀x c,(cO X.env.cells scope.names []).lookup x=some c->∃v,s.heap.IsCell c v:=fun x c h=>I.cell x c (dZ h)
 refine⟨kR cs I hf hlt (Nat.le_succ _),rfl,I.bare,Un.laid old (Nat.le_refl _) (fresh _ (Nat.le_refl _)),⟨_,hns,fun i y v h1 h2 h3=>?_⟩,fun x c h=>?_,?_,fun x c h=>?_,fun p hp=>absurd (show p ∈([]:List (Addr×Obj))from hp) (by simp),?_,?_⟩
 ·have hi:i < caps.length:=by
   unfold kU at h2
   by_cases hi:i < caps.length
   ·exact hi
   ·rw[List.getElem?_append_right (by simpa using hi),List.getElem?_replicate]at h2
    split at h2<;>cases h2
  unfold kU at h2
  rw[List.getElem?_append_left (by simpa using hi),List.getElem?_map]at h2
  obtain⟨j,hj,e2⟩:=Option.map_eq_some_iff.mp h2
  have hjc:j∈caps:=List.mem_of_getElem? hj
  have hjN:=cs.capN j hjc
  have hy:X.N[j]?=some y:=by
   have h1':N[i]?=some y:=h1
   rw[cs.eN,List.getElem?_append_left (by simpa using hi),List.getElem?_map,hj]at h1'
   have:X.N.getD j "" = y:=by simpa using h1'
   rw[<- this]
   simp[hjN]
  have hσ:Y[j]?=some (some v):=by
   cases e:Y[j]? with
   | none=>rw[e]at e2;cases e2
   | some w=>rw[e]at e2;simp only[Option.join_some]at e2;rw[e2]
  obtain⟨m0,hn0,hl⟩:=I.loc
  obtain⟨hm,hlk⟩:=cs.capF j hjc y hy
  have hk:=cs.free _ hm rfl
  dsimp only at hk
  have hvis:Vis X.env.scope y:=by
   rcases hk with z | z
   ·exact .inr (.inl z)
   ·exact .inr (.inr z)
  obtain⟨u,ru,lk⟩:=hl j y v hy hσ hvis
  refine⟨u,ru,.inr ?_⟩
  rcases lk with⟨z,_⟩ |⟨_,c,hc,hcell⟩
  ·rcases hk with w | w
   ·rw[z]at w;cases w
   ·rw[z]at w;cases w
  ·refine⟨gb (scope:=scope) hlk,c,xG (fun z=>?_) (fw (d0 (acc:=[]) fun _ z=>nomatch z) (eW hc hm)),hcell.keeps old⟩
   have:=cs.cel _ z rfl
   rw[hlk]at this
   cases this
 ·rcases gy h with⟨_,_,m⟩ | h
  ·exact⟨none,hcl x c m⟩
  ·obtain⟨v,hv⟩:=ltc x c h
   exact⟨v,hv.keeps old⟩
 ·show upd H _ _ (s.heap.objs.size+1)=none
  rw[ax neD]
  exact fresh _ (Nat.le_succ _)
 ·rcases gy h with⟨l1,_,_⟩ | h2
  ·rw[ax (Nat.ne_of_gt (Nat.lt_of_lt_of_le (Nat.lt_succ_of_lt (Nat.lt_succ_self _)) l1))]
   exact .inl (fresh _ (Nat.le_trans (Nat.le_succ_of_le (Nat.le_succ _)) l1))
  ·obtain⟨v,hv⟩:=ltc x c h2
   rw[ax (Nat.ne_of_lt hv.lt)]
   exact(I.freeC x c (dZ h2)).imp (fun z=>z) fun q=>⟨Bool.eq_false_iff.mpr fun e=>Nat.lt_irrefl _ (Nat.lt_of_lt_of_le hv.lt ((kR cs I hf hlt (Nat.le_succ _)).cab x c e h)),q.2⟩
 ·exact I.hok.laid old (Nat.le_refl _) ⟨Nat.zero_le _,[],_,.nil,hD⟩
 ·show(kU caps tn.length Y).length=N.length
  rw[cs.eN]
  simp[kU]
end
end L2
namespace PR
open PySem PySem.Spec L2
def Fl.borrow:Fl->Fl
 | .own | .lnt=>.bor
 | f=>f
def PV.borrow(x:PV):PV:=x.mapF Fl.borrow
def pq(hB:∀a,B a->B' a)(hL:∀a,L a->B' a):Mp T Fl.borrow (fun _=>false) (fun _=>[]) B' F B L H F B' L' H :=
 ⟨fun f a vs _ c h=>by
  cases f with
  | own=>exact⟨c rfl,.inl h⟩
  | bor=>exact⟨hB a h.1,h.2⟩
  | lnt=>exact⟨hL a h.1,.inl h.2⟩
  | _=>exact h,fun f a _ c h=>⟨by
  cases f with
  | own=>exact c rfl
  | bor=>exact hB a h
  | lnt=>exact hL a h
  | _=>exact h,fun _ q=>q⟩,fun f a x y h=>by cases f<;>exact⟨rfl,rfl⟩,rfl,fun _ _=>rfl,fun _ _ q _=>q⟩
def Rel.borrow(hB:∀a,B a->B' a)(hL:∀a,L a->B' a)(hp:∀a∈fo,B' a)(h:Rel T F B L H x v fo):Rel T F B' L' H (x.mapF Fl.borrow) v []:=(pq hB hL).rel (i8 x) hp h
mutual
def fO:∀x:PV,(x.mapF Fl.borrow).has Fl.isOwn=false
 | .non | .bl _ | .int _ | .str _=>rfl
 | .lst f xs=>by simp only[PV.mapF,PV.has,borrow_ownL xs,Bool.or_false];cases f<;>rfl
 | .tup xs=>by simp only[PV.mapF,PV.has,borrow_ownL xs]
 | .obj f c ks xs=>by simp only[PV.mapF,PV.has,borrow_ownL xs,Bool.or_false];cases f<;>rfl
 | .exc _=>rfl
 | .box k xs=>by simp only[PV.mapF,PV.has,borrow_ownL xs]
def borrow_ownL:∀xs:List PV,hasL Fl.isOwn (mapL Fl.borrow xs)=false
 | []=>rfl
 | x::xs=>by simp only[mapL,hasL,fO x,borrow_ownL xs,Bool.or_false]
end
def ItC(T:Tb)(F B L:Addr->Prop)(H1:Hp)(J:It)(xs:List PV):Prop :=
 ∀H2,Ext H1 H2->(∀(i:Nat) x,xs[i]?=some x->J.go i H2/\∀v H3,J.yld i H2 v H3->Ext H2 H3/\∃f,(∀a∈f,∃o,H1 a=some o)/\Rel T F B L H3 x v f)/\J.stop xs.length H2
def ItC.of0(h:∀H2,Ext H1 H2->(∀(i:Nat) x,xs[i]?=some x->J.go i H2/\∀v H3,J.yld i H2 v H3->H3=H2/\∃f,Rel T F B L H1 x v f)/\J.stop xs.length H2):ItC T F B L H1 J xs:=fun H2 hk=>by
 obtain⟨a,b⟩:=h H2 hk
 refine⟨fun i x e=>⟨(a i x e).1,fun v H3 hy=>?_⟩,b⟩
 obtain⟨rfl,f,r⟩:=(a i x e).2 v H3 hy
 exact⟨Ext.refl,f,fun a ha=>r.there a ha,r.ext hk fun _ h=>h⟩
def GIc(T:Tb)(W:Nat->St->Hp->Prop)(B F L:Addr->Prop)(Y:St)(H:Hp)(R:It->Hp->Prop):Res (List PV)->Prop
 | .ok xs=>∀J H1 F1,Gr F H F1 H1->ItC T F1 B L H1 J xs->R J H1
 | .exc c=>∀H',Ext H H'->W c Y H'
 | .stuck=>False
def tIc(T:Tb)(W:Nat->St->Hp->Prop)(m:MI):TI:=fun Y H R=>∃Z F env fp,ap T Z F H Y env fp/\GIc T W Z.B F (Own fp) Y H R (m env)
abbrev SIc(X:Cx)(T:Tb)(W:Nat->St->Hp->Prop)(tg iter:Expr)(m:MI):Prop:=PI X tg iter (tIc T W m)
def de(m:ME):MI:=fun env=>(m env).bind fun x=>match aQ x with
 | some xs=>.ok xs
 | none=>.stuck
section
variable{X:Cx}{T:Tb}{W:Nat->St->Hp->Prop}{Z:Zn}{F F1 B L:Addr->Prop}{H H1:Hp}{Y:St}{env:En}{fp:Nat->List Addr}{D:Ends}
def cA(hK:X.K=T.K)(he:SE X T W e m):SIc X T W tg e (de m):=fun gV s Y H R I h=>qu he gV s Y H R I (by
 obtain⟨Z,F,env,fp,S,q⟩:=h
 unfold de at q
 refine tE.bind S (fun c e=>by rw[e]at q;exact q) (fun e=>by rw[e]at q;exact q) fun x v H1 F1 f1 e1 g1 r1 n1 d1 w1=>?_
 rw[e1]at q
 simp only[Res.ok_bind]at q
 cases es:aQ x with
 | none=>rw[es]at q;exact q.elim
 | some xs =>
  rw[es]at q
  obtain⟨a,vs,f',rfl,hs,hr,_⟩:=r1.seq es
  refine⟨a,rfl,?_⟩
  rw[hK]
  rcases hs with hs | hs
  ·refine .inl ⟨vs,hs,q _ H1 F1 g1 (ItC.of0 fun H2 hx=>?_)⟩
   have h2:SqL T.K H2 a vs:=by
    rcases hs with z | z
    ·exact .inl (Rd.tr (fun o q=>hx a o q) z)
    ·exact .inr z
   refine⟨fun i x ex=>?_,⟨vs,h2,by rw[hr.length];exact Nat.le_refl _⟩⟩
   obtain⟨v,f,ev,rv,_⟩:=hr.get ex
   refine⟨⟨vs,v,h2,ev⟩,fun w H3 hy=>⟨hy.1,f,?_⟩⟩
   have:=hy.2 vs h2
   rw[ev]at this
   cases this
   exact rv
  ·refine .inr ⟨vs,hs,q _ H1 F1 g1 (ItC.of0 fun H2 hx=>?_)⟩
   have h2:SqT T.K H2 a vs:=SqT.tr (fun o q _=>hx a o q) hs
   refine⟨fun i x ex=>?_,⟨vs,h2,by rw[hr.length];exact Nat.le_refl _⟩⟩
   obtain⟨v,f,ev,rv,_⟩:=hr.get ex
   refine⟨⟨vs,v,h2,ev⟩,fun w H3 hy=>⟨hy.1,f,?_⟩⟩
   have:=hy.2 vs h2
   rw[ev]at this
   cases this
   exact rv)
def ux:ItC T F1 B L H1 (Itr lo n) (cB lo n):=by
 apply ItC.of0
 intro H2 _
 refine⟨fun i x ex=>?_,by simp[cB,Itr]⟩
 have hi:i < n:=by
  have:=(List.getElem?_eq_some_iff.mp ex).1
  simpa[cB]using this
 refine⟨hi,fun v H3 hy=>⟨hy.1,[],?_⟩⟩
 obtain⟨_,rfl⟩:=hy
 have:x=.int (lo+(i:Nat)):=by
  simp[cB,hi]at ex
  exact ex.symm
 subst this
 exact el
def cf(hg:Gl X "range")(hm:X.mg "range" = none)(ha:SA X T W [a] ms)(hs:starEach [a] X.env=[(false,eval a X.env)]:=by rfl):SIc X T W tg (.Call (.Name "range" p) [a] [] pos) (bS ms):=fun gV s Y H R I h=>jQ hg hm ha hs gV s Y H R I (by
 obtain⟨Z,F,env,fp,S,q⟩:=h
 unfold bS at q
 refine tA.bind S (fun c e=>by rw[e]at q;exact q) (fun e=>by rw[e]at q;exact q) fun xs vs H1 F1 f1 e1 g1 r1 n1 d1 w1=>?_
 rw[e1]at q
 simp only[Res.ok_bind]at q
 split at q
 ·rename_i n
  split at q
  ·rename_i hc
   obtain⟨v,rfl,r2⟩:=r1.one
   unfold Rel at r2
   obtain⟨rfl,_⟩:=r2
   have hc':-(2 ^ 62)<= n/\n < 2 ^ 62:=by simpa[inR]using hc
   exact⟨n,rfl,hc'.1,hc'.2,q _ H1 F1 g1 ux⟩
  ·exact q.elim
 ·exact q.elim)
abbrev WF:Nat->St->Hp->Prop:=fun _ _ _=>False
def STs(X:Cx)(T:Tb)(W:Nat->St->Hp->Prop)(ifs:List Expr)(m:MT):Prop :=
 ∀(gV:List (Addr×Obj)) (s:Shared) (Y:St) (H:Hp) (Q:Bool->Hp->Prop),L2.Inv X gV Y H s->tT T W m Y H Q ->
  wpAny (model X.prog X.w) X.A (forIn ifs true fun c r=>if r=true then do let ok <- isTrue c X.env (eval c X.env);pure (ForInStep.yield ok)else pure (ForInStep.yield r)) (TP X gV Y Q) X.xe s
def cK:MT:=fun _=>.ok true
def cu:STs X T W [] cK:=fun gV s Y H Q I ⟨Z,F,env,fp,S,q⟩=>wpAny_tests_nil ⟨H,I,q H F (Gr.refl S.hp.ft)⟩
def d7(h:ST X T W c m):STs X T W [c] m:=fun gV s Y H Q I q=>wpAny_tests_one (h gV s Y H Q I q)
structure fP(g:TgM)(k:Nat):Prop where
 keep:∀x env e',g x env=some e'->e'.length=env.length/\∀j < k,e'[j]?=env[j]?
 own:∀x env e',g x env=some e'->x.has Fl.isOwn=false->∀(j:Nat) pv,e'[j]?=some (some pv)->env[j]?=some (some pv)\/ pv.has Fl.isOwn=false
def pV(h:k<=i):fP (tgN i) k:=by
 refine⟨fun x env e' e=>?_,fun x env e' e hx j pv hj=>?_⟩
 ·unfold tgN at e
  split at e
  ·cases e
   exact⟨by simp,fun j hj=>List.getElem?_set_ne (by omega)⟩
  ·cases e
 ·unfold tgN at e
  split at e
  ·cases e
   by_cases hij:i=j
   ·subst hij
    have hl:i < env.length:=by
     have:=(List.getElem?_eq_some_iff.mp hj).1
     simpa using this
    rw[List.getElem?_set_self hl]at hj
    cases hj
    exact .inr hx
   ·rw[List.getElem?_set_ne hij]at hj
    exact .inl hj
  ·cases e
def cj(caps:List Nat)(k:Nat)(env:En):En:=caps.map (fun i=>((env[i]?).join).map PV.borrow)++ List.replicate k none
def cY(g:TgM)(mc:MT)(me:ME)(env:En):List PV->Res (List PV)
 | []=>.ok []
 | x::xs=>match g x.borrow env with
  | none=>.stuck
  | some e=>(mc e).bind fun b=>if b then(me e).bind fun y=>if y.has Fl.isBor||y.has Fl.isLnt then .stuck else(cY g mc me env xs).bind fun ys=>.ok (y::ys)else cY g mc me env xs
def bD(caps:List Nat)(k:Nat)(mi:MI)(g:TgM)(mc:MT)(me:ME):ME:=fun env=>(mi env).bind fun xs=>if xs.length <= 10000000 then (match cY g mc me (cj caps k env) xs with
 | .ok ys=>.ok (.lst .own ys)
 | _=>.stuck)else .stuck
end
section
variable{prog:Program}{w:World}{A:Around}{R:Result->Shared->Prop}{s:Shared}
def kS(I:Nat->Shared->Prop)
  (turn:∀ n s,I n s->wpAny (model prog w) A (pyNext it) (fun r s₁=>match r with
   | none=>R (.ok .next) s₁
   | some v=>wpAny (model prog w) A (letOwnedTupleGo target it v) (fun _ s₁'=>wpAny (model prog w) A (assign target env v) (fun _ s₂ =>
     wpAny (model prog w) A (forIn ifs true fun c r=>if r=true then do let ok <- isTrue c env (eval c env);pure (ForInStep.yield ok) else pure (ForInStep.yield r)) (fun ok s₃ =>
      if ok=true then wpAny (model prog w) A (eval elt env) (fun x s₄ =>
       wpAny (model prog w) A (call (.builtin "list.append") [acc,x]) (fun _ s₅=>∃m,m < n/\I m s₅) (notedBy (model prog w) A env fun e s'=>R (.error e) s') s₄) (notedBy (model prog w) A env fun e s'=>R (.error e) s') s₃
      else ∃m,m < n/\I m s₃) (notedBy (model prog w) A env fun e s'=>R (.error e) s') s₂) (notedBy (model prog w) A env fun e s'=>R (.error e) s') s₁') (notedBy (model prog w) A env fun e s'=>R (.error e) s') s₁) (notedBy (model prog w) A env fun e s'=>R (.error e) s') s)
  (n:Nat) (h:I n s) :
  codeAny (model prog w) A (.compLoop (.ListComp elt [⟨target,iter,ifs,0⟩] scope pos) 0 it acc env) R s:=by
 refine codeAny_loop rfl I (fun n s hI=>?_) n h
 show wpAny _ A ((compTurn (.ListComp elt [⟨target,iter,ifs,0⟩] scope pos) 0 it acc env).onRaise (fun x=>do noteFrame x env;theTreesLotGoes x)) _ _ s
 refine wpAny_noted ?_
 rw[compTurn_list]
 refine wpAny_bind (wpAny_standAt (wpAny_bind (wpAny_mono (turn n s hI) (fun r s₁ h₁=>?_) fun _ _ h'=>h')))
 cases r with
 | none=>exact wpAny_pure h₁
 | some v =>
  refine wpAny_bind (wpAny_mono h₁ (fun _ s₁' h₁'=>?_) fun _ _ h'=>h')
  refine wpAny_bind (wpAny_mono h₁' (fun _ s₂ h₂=>wpAny_bind (wpAny_mono h₂ (fun ok s₃ h₃=>?_) fun _ _ h'=>h')) fun _ _ h'=>h')
  cases ok with
  | false=>exact wpAny_pure ⟨rfl,h₃⟩
  | true =>
   exact wpAny_bind (wpAny_bind (wpAny_mono h₃ (fun x s₄ h₄=>wpAny_bind (wpAny_mono h₄ (fun _ s₅ h₅=>wpAny_pure (wpAny_pure ⟨rfl,h₅⟩)) fun _ _ h'=>h')) fun _ _ h'=>h'))
end
end PR
namespace PR
open PySem PySem.Spec L2
section
variable{X:Cx}{T:Tb}{W:Nat->St->Hp->Prop}{Z:Zn}{F F1 B L:Addr->Prop}{H H1:Hp}{Y:St}{env:En}{fp:Nat->List Addr}{D:Ends}
def ap.wk(S:ap T Z F H Y env fp)(hpin:Z.pin=none)(hl:e2.length=env.length)(h:∀(i:Nat) pv,e2[i]?=some (some pv)->env[i]?=some (some pv)):ap T Z F H Y e2 fp :=
 ⟨S.hp,S.len.trans hl.symm,fun i pv e=>S.rel i pv (h i pv e),S.nd,S.dj,S.dis,S.new,S.ch,fun v hv=>by rw[hpin]at hv;cases hv⟩
def ap.noOwn(S:ap T Z F H Y env fp)(h:∀(i:Nat) pv,env[i]?=some (some pv)->pv.has Fl.isOwn=false):ap T Z F H Y env (fun _=>[]) :=
 ⟨S.hp,S.len,fun i pv e=>by
  obtain⟨v,h1,h2⟩:=S.rel i pv e
  have:=Rel.noOwn (h i pv e) h2
  rw[this]at h2
  exact⟨v,h1,h2⟩,fun _=>List.nodup_nil,fun _ _ _ _ z=>(nomatch z),fun _ _ z=>(nomatch z),fun _ _ z=>(nomatch z),fun _ _ z=>(nomatch z),S.pn⟩
def ap.updD(S:ap T Z F H Y env (fun _=>[]))(hF:¬F Dd)(h0:Z.H0 Dd=none)(hD:H Dd=some o)(hfx:¬fz o):ap T Z F (upd H Dd o') Y env (fun _=>[]):=by
 have ne:∀a u,H a=some u->(F a\/Z.B a\/NoL a\/fz u)->a≠Dd:=(by grind[a5,ap,bz,Gr])
 refine⟨⟨S.hp.bo,fun a u e n=>?_,S.hp.f0,S.hp.fn,fun a h=>?_⟩,S.len,fun i pv e=>?_,S.nd,S.dj,fun _ _ z=>(nomatch z),S.new,fun _ _ z=>(nomatch z),S.pn⟩
 ·have:a≠Dd:=fun z=>by rw[z,h0]at e;cases e
  rw[ax this]
  exact S.hp.keep a u e n
 ·obtain⟨u,e⟩:=S.hp.ft a h
  exact⟨u,by rw[ax (show a≠Dd from fun z=>hF (by rw[<- z];exact h))];exact e⟩
 ·obtain⟨v,h1,h2⟩:=S.rel i pv e
  refine⟨v,h1,Rel.tr (fun _ h=>h) (fun _ h=>h) (fun _ h=>h) (fun a u q h=>?_) (fun _ z=>(nomatch z)) h2⟩
  rw[ax (ne a u q h)]
  exact q
def zC(F:Addr->Prop)(H:Hp):Zn:=⟨H,F,fun _=>False,fun a=>∃o,H a=some o,none⟩
def pM(S:ap T Z F H Y env fp)(hD:H Dd=none)(hFD:¬F Dd) :
  ap T (zC F H) F (upd H Dd (.lst [])) (kU caps k Y) (cj caps k env) (fun _=>[]):=by
 have ext:Ext H (upd H Dd (.lst [])):=Ext.upd hD
 refine⟨⟨⟨fun a h=>⟨h,fun z=>z⟩,S.tbo Ext.refl fun _ z=>False.elim z⟩,fun a o h _=>ext a o h,fun _ h=>h,fun _ h=>.inl h,fun a h=>let⟨o,e⟩:=S.hp.ft a h;⟨o,ext a o e⟩⟩,by simp[kU,cj],fun i pv e=>?_,fun _=>List.nodup_nil,fun _ _ _ _ z=>(nomatch z),fun _ _ z=>(nomatch z),fun _ _ z=>(nomatch z),fun _ _ z=>(nomatch z),fun _ h=>(nomatch h)⟩
 unfold cj at e
 unfold kU
 by_cases hi:i < caps.length
 ·rw[List.getElem?_append_left (by simpa using hi),List.getElem?_map]at e ⊢
  obtain⟨j,hj,e2⟩:=Option.map_eq_some_iff.mp e
  rw[hj]
  obtain⟨pv0,e3,rfl⟩:=Option.map_eq_some_iff.mp e2
  have e4:env[j]?=some (some pv0):=by
   cases e5:env[j]? with
   | none=>rw[e5]at e3;cases e3
   | some w=>rw[e5]at e3;simp only[Option.join_some]at e3;rw[e3]
  obtain⟨v,h1,h2⟩:=S.rel j pv0 e4
  refine⟨v,by simp[h1],?_⟩
  refine Rel.borrow (B:=fun a=>∃o,H a=some o) (L:=NoL) (fun _ h=>h) (fun _ h=>h.elim) (fun a ha=>(S.dis j a ha).2) ?_
  exact Rel.tr (fun _ h=>h) (fun a h=>let⟨⟨o,h1⟩,h2⟩:=S.hp.bo.1 a h;⟨o,S.hp.keep a o h1 h2⟩) (fun _ h=>h) (fun a o q _=>ext a o q) (fun a _ o q=>ext a o q) h2
 ·rw[List.getElem?_append_right (by simpa using hi),List.getElem?_replicate]at e
  split at e<;>cases e
set_option maxHeartbeats 1000000 in
def j8
  (cs:cQ X scope caps N tn) (hc:X.calm=true) (hi:SIc X T W tg iter mi) (hk:fP g caps.length)
  (hb:∀C s H ex,SG (cxC X scope C N s H ex) T tg g/\STs (cxC X scope C N s H ex) T WF ifs mc/\SE (cxC X scope C N s H ex) T WF elt me)
  (hs:∀x,foldedSetIterable iter X.env x=pure x) (I:L2.Inv X gV Y H s) (h:tE T W (bD caps tn.length mi g mc me) Y H Q)
  (hfin:∀(Dd C:Addr) (H':Hp) (s6:Shared) (m:Str->Option Value),Q (.ref Dd) H'->L2.Inv X gV Y H' s6->s6.heap.Ns C m->H' C=none->C≠X.env.locals->C∉X.fs->X.s₀.heap.objs.size<=C->(∀x c,X.env.cells.lookup x=some c->c≠C)->(∀p∈X.pn++gV,p.1≠C)->compPost (model X.prog X.w) X.A X.xe use Q' (.ref Dd) C (.ok .next) s6) :
  wpAny (model X.prog X.w) X.A (comprehension (.ListComp elt [⟨tg,iter,ifs,0⟩] scope pos) scope X.env p' (newList []) false (eval iter X.env) use) Q' X.xe s:=by
 obtain⟨Z,F,env,fp,S,q⟩:=h
 unfold bD at q
 refine wpAny_comprehension_free (use:=use) rfl hs (jw fun y hy hf=>I.ok.has y.1 (cs.free y hy hf)) cs.kind cs.names ?_
 refine thn (hi gV s Y H (fun J H1=>∃F1 xs,mi env=.ok xs/\Gr F H F1 H1/\ItC T F1 Z.B (Own fp) H1 J xs) I ⟨Z,F,env,fp,S,?_⟩) fun xv s1 h1=>thn h1 fun itv s2 h2=>?_
 ·cases em:mi env with
  | ok xs=>exact fun J H1 F1 g1 it=>⟨F1,xs,rfl,g1,it⟩
  | exc c | stuck=>rw[em]at q;exact q
 obtain⟨it,fpi,tn_,J,H2,rfl,I2,Tn,st2,f2,F1,xs,em,g1,itc⟩:=h2
 rw[em]at q
 simp only[Res.ok_bind]at q
 split at q
 case isFalse=>exact q.elim
 rename_i hlen
 cases ec:cY g mc me (cj caps tn.length env) xs with
 | exc c | stuck=>rw[ec]at q;exact q.elim
 | ok full =>
 rw[ec]at q
 dsimp only at q
 have S2:=S.grow g1
 have hlt:∀b∈fpi,b < s2.heap.objs.size:=fun b hb=>by
  obtain⟨o,ho,_⟩:=Tn.obj 0 _ st2 b hb
  exact Heap.lt_size ho
 refine PySem.wpAny_newObj_type (lF fun h₁ hns₁ hsb₁ hcl₁=>?_)
 dsimp only at hns₁ hsb₁ hcl₁ ⊢
 generalize hH2:s2.heap.push { cls:=.type "list", dict:=none,data:=.seq ([]:List Value).toArray }=P2 at hns₁ hsb₁ hcl₁ ⊢
 have hC:P2.objs.size=s2.heap.objs.size+1:=by rw[<- hH2,Heap.size_push]
 have old:∀b o,s2.heap.get? b=some o->h₁.get? b=some o:=fun b o e=>hsb₁ b o (hH2▸Heap.get?_push_of_some _ e)
 have hDo:h₁.get? s2.heap.objs.size=some { cls:=.type "list", data:=.seq ([]:List Value).toArray }:=hsb₁ _ _ (hH2▸Heap.get?_push_size _ rfl)
 rw[hC]at hns₁ hcl₁
 have inv0:=rk (t:=s2.toks) cs I2 f2 hlt hns₁ hDo old hcl₁
 have hDH:H2 s2.heap.objs.size=none:=I2.hok.fresh (Nat.le_refl _)
 have hDF:¬F1 s2.heap.objs.size:=fun z=>by obtain⟨o,e⟩:=g1.dom _ z;rw[hDH]at e;cases e
 have SB:=pM (caps:=caps) (k:=tn.length) S2 hDH hDF
 obtain⟨hgN,hts,hel⟩:=hb (s2.heap.objs.size+1) s2 H2 fpi
 have never:∀{α:Type}{t:Sem α}{Qa:α->Shared->Prop}{E':Value->Shared->Prop}{s':Shared},wpAny (model X.prog X.w) X.A t Qa (fun _ _=>False) s'->wpAny (model X.prog X.w) X.A t Qa E' s':=fun h=>wpAny_mono h (fun _ _ x=>x) fun _ _ z=>z.elim
 have fpok:∀{H':Hp}{pins':List (Addr×Obj)},(∀p∈pins',p.1∉fpi)->(∀b∈fpi,H' b=none)->∀b∈fpi,lf (cxC X scope (s2.heap.objs.size+1) N s2 H2 fpi) pins' H' b:=fun {H' pins'} hp hn b hb=>by
  refine⟨hn b hb,Nat.ne_of_lt (Nat.lt_succ_of_lt (hlt b hb)),(kR cs I2 f2 hlt (Nat.le_succ _)).exfs b hb,.inl hb,((kR cs I2 f2 hlt (Nat.le_succ _)).exf b hb).2,fun p hp' z=>?_⟩
  rcases List.mem_append.mp hp' with w | w
  ·exact absurd (show p ∈([]:List (Addr×Obj))from w) (by simp)
  ·exact hp p w (z▸hb)
 have key:∀s4:Shared,L2.Inv (cxC X scope (s2.heap.objs.size+1) N s2 H2 fpi) [] (kU caps tn.length Y) (upd H2 s2.heap.objs.size (.lst [])) s4->tn_ 0 s4.heap ->
   codeAny (model X.prog X.w) X.A (.compLoop (.ListComp elt [⟨tg,iter,ifs,0⟩] scope pos) 0 (.ref it) (.ref s2.heap.objs.size) (compEnvC scope (l6 X scope (s2.heap.objs.size+1)) (s2.heap.objs.size+1) X.env))
    (compPost (model X.prog X.w) X.A X.xe use Q' (.ref s2.heap.objs.size) (s2.heap.objs.size+1)) s4:=by
  intro s4 inv4 st4
  refine kS (fun n s'=>∃ (i:Nat) (σ':St) (H':Hp) (Fi:Addr->Prop) (ys zs:List PV) (vs:List V) (f:List Addr),n=xs.length - i/\i <= xs.length/\L2.Inv (cxC X scope (s2.heap.objs.size+1) N s2 H2 fpi) [] σ' H' s'/\tn_ i s'.heap/\(∀ b ∈ fpi,H' b=none) /\
   ap T (zC F1 H2) Fi H' σ' (cj caps tn.length env) (fun _=>[])/\H' s2.heap.objs.size=some (.lst vs)/\RelL T Fi Z.B (Own fp) H' ys vs f/\f.Nodup/\(∀a∈f,¬Fi a/\H2 a=none/\a≠s2.heap.objs.size)/\¬Fi s2.heap.objs.size/\ys.length<=i /\
   cY g mc me (cj caps tn.length env) (xs.drop i)=.ok zs/\full=ys++zs) ?_ xs.length ?_
  case refine_2 =>
   refine⟨0,_,_,F1,[],full,[],[],by simp,Nat.zero_le _,inv4,st4,fun b hb=>?_,SB,aJ,by unfold RelL;exact⟨rfl,rfl⟩,List.nodup_nil,fun _ z=>(nomatch z),hDF,Nat.zero_le _,ec,rfl⟩
   rw[ax (Nat.ne_of_lt (hlt b hb))]
   exact(f2 b hb).1
  rintro n s5 ⟨i,σ',H',Fi,ys,zs,vs,f,rfl,hil,inv5,st5,fr5,SI5,hD5,ry,nd5,nf5,nFD,hyl,ecl,efull⟩
  have ext5:Ext H2 H':=fun a o e=>SI5.hp.keep a o e fun z=>z
  have gr5:Gr F1 H2 Fi H':=⟨ext5,SI5.hp.f0,fun a h=>by
   rcases SI5.hp.fn a h with z | z | z
   ·exact .inl z
   ·exact .inr z
   ·exact z.elim,SI5.hp.ft⟩
  obtain⟨go,stop⟩:=itc H' ext5
  by_cases hlt5:i < xs.length
  ·have hx:xs[i]?=some xs[i]:=by simp[hlt5]
   obtain⟨g5,yl⟩:=go i _ hx
   rw[List.drop_eq_getElem_cons hlt5]at ecl
   unfold cY at ecl
   cases eg:g xs[i].borrow (cj caps tn.length env)with
   | none=>rw[eg]at ecl;cases ecl
   | some e' =>
   rw[eg]at ecl
   dsimp only at ecl
   refine thn (Tn.item (cxC X scope (s2.heap.objs.size+1) N s2 H2 fpi) rfl rfl rfl hc i [] s5 σ' H' _ inv5 (fpok (fun _ z=>absurd z (by simp)) fr5) st5 g5) fun r s6 ⟨u,hr,h6⟩=>?_
   subst hr
   refine thn h6 fun _ s7 ⟨v,H7,inv7,rv,yy,st7,fr7⟩=>?_
   obtain⟨ex7,fx,tx,rx⟩:=yl v H7 yy
   replace SI5:=SI5.grow (Gr.same SI5.hp.ft ex7)
   replace ry:=ry.ext ex7 fun _ h=>h
   replace hD5:=ex7 _ _ hD5
   replace gr5:=gr5.trans (Gr.same gr5.dom ex7)
   replace ext5:=gr5.ext
   have pinv:=inv7.pinned (fpok (fun _ z=>absurd z (by simp)) fr7) (Tn.obj _ _ st7)
   have rxb:Rel T Fi (zC F1 H2).B NoL H7 xs[i].borrow v []:=by
    refine Rel.borrow (B:=fun a=>∃o,H2 a=some o) (L:=Own fp) (fun _ h=>h) (fun a ⟨j,hj⟩=>(S2.dis j a hj).2) (fun a ha=>tx a ha) ?_
    exact Rel.tr SI5.hp.f0 (fun a h=>let⟨⟨o,h1⟩,h2⟩:=S2.hp.bo.1 a h;⟨o,S2.hp.keep a o h1 h2⟩) (fun _ h=>h) (fun a o q _=>q) (fun a _ o q=>q) rx
   refine never (thn (hgN _ s7 σ' H7 v u (fun σ8 H8=>H8=H7/\∃fp8,ap T (zC F1 H2) Fi H7 σ8 e' fp8) pinv rv ⟨zC F1 H2,Fi,cj caps tn.length env,fun _=>[],xs[i].borrow,[],SI5,rxb,pT.nil,?_⟩) fun _ s8 ⟨σ8,H8,inv8,e8,fp8,S8⟩=>?_)
   ·rw[eg]
    exact fun σ8 fp8 S8=>⟨rfl,fp8,S8⟩
   subst e8
   obtain⟨kl,kk⟩:=hk.keep _ _ _ eg
   have capOwn:∀(j:Nat) pv,(cj caps tn.length env)[j]?=some (some pv)->pv.has Fl.isOwn=false:=fun j pv ej=>by
    unfold cj at ej
    by_cases hj:j < caps.length
    ·rw[List.getElem?_append_left (by simpa using hj),List.getElem?_map]at ej
     obtain⟨jj,_,e2⟩:=Option.map_eq_some_iff.mp ej
     obtain⟨pv0,_,rfl⟩:=Option.map_eq_some_iff.mp e2
     exact fO pv0
    ·rw[List.getElem?_append_right (by simpa using hj),List.getElem?_replicate]at ej
     split at ej<;>cases ej
   have S8':ap T (zC F1 H2) Fi H8 σ8 e' (fun _=>[]):=S8.noOwn fun j pv ej=>by
    rcases hk.own _ _ _ eg (fO _) j pv ej with z | z
    ·exact capOwn j pv z
    ·exact z
   have back:∀{F9:Addr->Prop}{H9:Hp},ap T (zC F1 H2) F9 H9 σ8 e' (fun _=>[])->ap T (zC F1 H2) F9 H9 σ8 (cj caps tn.length env) (fun _=>[]):=fun S9=>S9.wk rfl kl.symm fun j pv ej=>by
    have hj:j < caps.length:=by
     by_cases hj:j < caps.length
     ·exact hj
     ·unfold cj at ej
      rw[List.getElem?_append_right (by simpa using hj),List.getElem?_replicate]at ej
      split at ej<;>cases ej
    rw[kk j hj]
    exact ej
   have pinback:∀{H9:Hp}{s9:Shared},L2.Inv (cxC X scope (s2.heap.objs.size+1) N s2 H2 fpi) ([]++ iH fpi s7.heap) σ8 H9 s9->L2.Inv (cxC X scope (s2.heap.objs.size+1) N s2 H2 fpi) [] σ8 H9 s9/\tn_ (i+1) s9.heap/\∀b∈fpi,H9 b=none:=fun {H9 s9} i9 =>
    ⟨i9.unpinned,Tn.keep _ _ _ st7 fun b hb o e=>(i9.pin (b,o) (List.mem_append_right _ (List.mem_append_right _ (ez hb e)))).1,fun b hb=>by
     obtain⟨o,e,_⟩:=Tn.obj _ _ st7 b hb
     exact(i9.pin (b,o) (List.mem_append_right _ (List.mem_append_right _ (ez hb e)))).2.1⟩
   cases emc:mc e' with
   | exc c | stuck=>rw[emc]at ecl;cases ecl
   | ok bb =>
   rw[emc]at ecl
   simp only[Res.ok_bind]at ecl
   refine never (thn (hts _ s8 σ8 H8 (fun b H9=>b=bb/\∃F9,Gr Fi H8 F9 H9) inv8 ⟨zC F1 H2,Fi,e',fun _=>[],S8',?_⟩) fun ok s9 ⟨H9,inv9,eb,F9,g9⟩=>?_)
   ·rw[emc]
    exact fun H9 F9 g9=>⟨rfl,F9,g9⟩
   subst eb
   have S9:=S8'.grow g9
   have ry9:=ry.ext g9.ext g9.mono
   have nf9:∀a∈f,¬F9 a:=fun a ha z=>by
    rcases g9.only a z with z | z
    ·exact(nf5 a ha).1 z
    ·obtain⟨o,e⟩:=ry.there a ha
     rw[e]at z;cases z
   have nFD9:¬F9 s2.heap.objs.size:=fun z=>by
    rcases g9.only _ z with z | z
    ·exact nFD z
    ·rw[hD5]at z;cases z
   cases ok with
   | false =>
    simp only[Bool.false_eq_true,if_false]at ecl ⊢
    obtain⟨i10,st10,fr10⟩:=pinback inv9
    exact⟨xs.length - (i+1),by omega,i+1,σ8,H9,F9,ys,zs,vs,f,rfl,hlt5,i10,st10,fr10,back S9,g9.ext _ _ hD5,ry9,nd5,fun a ha=>⟨nf9 a ha,(nf5 a ha).2⟩,nFD9,by omega,ecl,efull⟩
   | true =>
    simp only[if_true]at ecl ⊢
    cases eme:me e' with
    | exc c | stuck=>rw[eme]at ecl;cases ecl
    | ok y =>
    rw[eme]at ecl
    simp only[Res.ok_bind]at ecl
    split at ecl
    case isTrue=>cases ecl
    rename_i hyb
    simp only[Bool.or_eq_true,not_or,Bool.not_eq_true]at hyb
    cases ecr:cY g mc me (cj caps tn.length env) (xs.drop (i+1))with
    | exc c | stuck=>rw[ecr]at ecl;cases ecl
    | ok zs' =>
    rw[ecr]at ecl
    simp only[Res.ok_bind]at ecl
    cases ecl
    refine never (thn (hel _ s9 σ8 H9 (fun v' H10=>∃F10 f10,Gr F9 H9 F10 H10/\Rel T F10 (zC F1 H2).B (Own fun _=>[]) H10 y v' f10/\(∀a∈f10,¬F10 a)/\f10.Nodup/\∀a∈f10,H9 a=none) inv9 ⟨zC F1 H2,F9,e',fun _=>[],S9,?_⟩) fun w s10 ⟨v',H10,inv10,rw10,F10,f10,g10,r10,n10,d10,w10⟩=>?_)
    ·rw[eme]
     exact fun v' H10 F10 f10 g10 r10 n10 d10 w10=>⟨F10,f10,g10,r10,n10,d10,w10⟩
    have hvl:vs.length < sizeLine:=by
     have h1:=ry.length
     have h2:sizeLine=16777216:=sizeLine_eq
     omega
    have hD10:H10 s2.heap.objs.size=some (.lst vs):=g10.ext _ _ (g9.ext _ _ hD5)
    refine never (thn (jU _ s10 σ8 H10 (.ref s2.heap.objs.size) [v'] (.ref s2.heap.objs.size) [w] (fun _ H11=>H11=upd H10 s2.heap.objs.size (.lst (vs++[v']))) inv10 rfl (.cons rw10 .nil) ⟨s2.heap.objs.size,vs,v',rfl,rfl,hD10,hvl,rfl⟩) fun _ s11 ⟨_,H11,inv11,_,e11⟩=>?_)
    subst e11
    obtain⟨i12,st12,fr12⟩:=pinback inv11
    have S10:=S9.grow g10
    have nFD10:¬F10 s2.heap.objs.size:=fun z=>by
     rcases g10.only _ z with z | z
     ·exact nFD9 z
     ·rw[g9.ext _ _ hD5]at z;cases z
    have ry10:=ry9.ext g10.ext g10.mono
    have ryy:RelL T F10 Z.B (Own fp) (upd H10 s2.heap.objs.size (.lst (vs++[v']))) (ys++[y]) (vs++[v']) (f++f10):=by
     have ry1:Rel T F10 Z.B (Own fp) H10 y v' f10:=Rel.noL hyb.2 (Rel.noB (B':=Z.B) hyb.1 r10)
     have all:RelL T F10 Z.B (Own fp) H10 (ys++[y]) (vs++[v']) (f++f10):=RelL.append ry10 (by unfold RelL;exact⟨v',[],f10,[],rfl,ry1,by unfold RelL;exact⟨rfl,rfl⟩,by simp⟩)
     refine RelL.tr (fun _ h=>h) (fun _ h=>h) (fun _ h=>h) (fun a o e h=>?_) (fun a ha o e=>?_) all
     ·refine(ax fun z=>?_).trans e
      subst z
      rcases h with h | h | h | h
      ·exact nFD10 h
      ·obtain⟨⟨o',h1⟩,h2⟩:=S2.hp.bo.1 _ h
       rw[S2.hp.keep _ o' h1 h2]at hDH;cases hDH
      ·obtain⟨j,hj⟩:=h
       obtain⟨_,o',ho'⟩:=S2.dis j _ hj
       rw[hDH]at ho';cases ho'
      ·rw[hD10]at e;cases e;exact h
     ·refine(ax fun z=>?_).trans e
      subst z
      rcases List.mem_append.mp ha with ha | ha
      ·exact(nf5 _ ha).2.2 rfl
      ·have:=w10 _ ha
       rw[g9.ext _ _ hD5]at this;cases this
    have nf10:∀a∈f,¬F10 a:=fun a ha z=>by
     rcases g10.only a z with z | z
     ·exact nf9 a ha z
     ·obtain⟨o,e⟩:=ry9.there a ha
      rw[e]at z;cases z
    refine⟨xs.length - (i+1),by omega,i+1,σ8,_,F10,ys++[y],zs',vs++[v'],f++f10,rfl,hlt5,i12,st12,fr12,back (S10.updD nFD10 hDH hD10 (fun z=>z)),aJ,ryy,?_,fun a ha=>?_,nFD10,by simp;omega,ecr,by rw[efull,List.append_assoc];rfl⟩
    ·refine List.nodup_append.mpr ⟨nd5,d10,fun a ha b hb z=>?_⟩
     subst z
     obtain⟨o,e⟩:=ry9.there a ha
     rw[w10 a hb]at e;cases e
    ·rcases List.mem_append.mp ha with ha | ha
     ·exact⟨nf10 a ha,(nf5 a ha).2⟩
     ·refine⟨n10 a ha,?_,fun z=>?_⟩
      ·have:=w10 a ha
       exact ext5.free (g9.ext.free this)
      ·subst z
       have:=w10 _ ha
       rw[g9.ext _ _ hD5]at this;cases this
  ·have e:i=xs.length:=by omega
   subst e
   rw[List.drop_length]at ecl
   unfold cY at ecl
   cases ecl
   rw[List.append_nil]at efull
   subst efull
   refine thn (Tn.done (cxC X scope (s2.heap.objs.size+1) N s2 H2 fpi) rfl rfl rfl hc xs.length [] s5 σ' H' _ inv5 (fpok (fun _ z=>absurd z (by simp)) fr5) st5 stop) fun r s6 ⟨hr,inv6⟩=>?_
   subst hr
   obtain⟨m,hn,_⟩:=id inv6.loc
   have hlc:X.env.locals < s2.heap.objs.size+1:=Nat.lt_succ_of_lt I2.lt
   have iX:L2.Inv X gV Y H' s6:=I2.call' inv6.os inv6.base inv6.hok inv6.bare fun b hb=>⟨(f2 b hb).2.2.2.1,(f2 b hb).2.1,(f2 b hb).2.2.2.2.1,(f2 b hb).2.2.2.2.2⟩
   refine hfin _ (s2.heap.objs.size+1) H' s6 m ?_ iX hn inv6.free (Nat.ne_of_gt hlc) (I2.nofs (Nat.le_succ _)) (Nat.le_trans I2.sz (Nat.le_succ _)) (fun x c e z=>?_) (fun p hp z=>?_)
   case refine_2 =>
    obtain⟨v,hv⟩:=I2.cell x c e
    rw[z]at hv
    exact absurd hv.lt (Nat.not_lt.mpr (Nat.le_succ _))
   case refine_3 =>
    have:=Heap.lt_size (I2.pin p hp).1
    rw[z]at this
    exact absurd this (Nat.not_lt.mpr (Nat.le_succ _))
   refine q (.ref s2.heap.objs.size) H' Fi (s2.heap.objs.size::f) (g1.trans gr5) ?_ (fun a ha=>?_) ?_ (fun a ha=>?_)
   ·unfold Rel
    exact⟨_,vs,f,rfl,hD5,ry,rfl⟩
   ·grind
   ·exact List.nodup_cons.mpr ⟨fun z=>(nf5 _ z).2.2 rfl,nd5⟩
   ·rcases List.mem_cons.mp ha with rfl | ha
    ·exact g1.ext.free hDH
    ·exact g1.ext.free (nf5 a ha).2.1
 have st0:tn_ 0 h₁:=Tn.keep _ _ _ st2 fun b _ o e=>old b o e
 have lp:=key _ inv0 st0
 simp only[hC]
 exact codeAny_compStart_list lp (Tn.self _ 0 _ _ _ st0 lp)
def tj
  (cs:cQ X scope caps N tn) (hc:X.calm=true) (hi:SIc X T W tg iter mi) (hk:fP g caps.length)
  (hb:∀C s H ex,SG (cxC X scope C N s H ex) T tg g/\STs (cxC X scope C N s H ex) T WF ifs mc/\SE (cxC X scope C N s H ex) T WF elt me)
  (hs:∀x,foldedSetIterable iter X.env x=pure x:=by intro _;rfl):SE X T W (.ListComp elt [⟨tg,iter,ifs,0⟩] scope pos) (bD caps tn.length mi g mc me):=by
 intro gV s Y H Q I h
 rw[eval_ListComp]
 refine j8 cs hc hi hk hb hs I h fun Dd C H' s6 m hq iX hn hCn hCl hCf hC0 hCc hCp=>⟨m,hn,fun h' hs'=>⟨.ref Dd,H',?_,rfl,hq⟩⟩
 exact iX.turned (t':=s6.toks) (fun b o hb e=>(hs'.2 b hb).trans e) hCn hCl (.inr hC0) hCc hCp
def sO
  (cs:cQ X scope caps N tn) (hc:X.calm=true) (hN:X.N.Nodup) (hy:X.N[i]?=some y) (hx:Loc X.env.scope y) (hi:SIc X T W tg iter mi) (hk:fP g caps.length)
  (hb:∀C s H ex,SG (cxC X scope C N s H ex) T tg g/\STs (cxC X scope C N s H ex) T WF ifs mc/\SE (cxC X scope C N s H ex) T WF elt me)
  (hsw:swapsWith (.ListComp elt [⟨tg,iter,ifs,0⟩] scope pos) (some (.Name y py)) spos.line X.env=pure true:=by rfl)
  (hs:∀x,foldedSetIterable iter X.env x=pure x:=by intro _;rfl)
  (hf:X.fn y=true\/X.env.scope.names.lookup y=some .local:=by first | exact .inl rfl | exact .inr rfl | assumption) :
  SS X T W (.Assign [.Name y py] (.ListComp elt [⟨tg,iter,ifs,0⟩] scope pos) spos) (aE i (bD caps tn.length mi g mc me)):=by
 intro gV s Y H D I h
 obtain⟨Z,F,env,fp,S,q⟩:=h
 unfold aE at q
 rw[exec_Assign_Name_used _ _ _ _ hsw]
 refine wpAny_bind (wpAny_standAt (wpAny_bind ?_))
 show wpAny _ X.A (do let _ <- comprehension (.ListComp elt [⟨tg,iter,ifs,0⟩] scope pos) scope X.env _ (newList []) false (eval iter X.env) (some (assign (.Name y py) X.env))) _ _ s
 refine wpAny_bind (wpAny_mono (j8 (use:=some (assign (.Name y py) X.env)) (Q':=fun _ s'=>SP X gV D .next s') (Q:=fun v H1=>D.nx (Y.set i (some v)) H1) cs hc hi hk hb hs I ?_ fun Dd C H' s6 m hq iX hn hCn hCl hCf hC0 hCc hCp=>?_) (fun _ s' hq=>wpAny_pure (wpAny_pure hq)) fun _ _ e=>e)
 ·refine tE.bind S (fun c e H' x=>?_) (fun e=>by rw[e]at q;exact q) fun pv v H1 F1 f e g r h1 h2 h3=>?_
  ·rw[e]at q
   exact q F H' Y fp (S.grow (Gr.same S.hp.ft x))
  ·rw[e]at q
   simp only at q
   split at q
   ·rename_i hl
    rw[Bool.and_eq_true]at hl
    exact q F1 H1 _ _ (S.putN g hl.2 r hl.1 h1 h2 h3)
   ·exact q.elim
 ·refine wpAny_assign_Name (jF (v:=.ref Dd) (u:=.ref Dd) iX hN hy hx rfl (fun s7 i7 ⟨a,hsa,ha⟩=>?_) hf)
  have hCa:C≠a:=by
   rcases ha with ha | ha
   ·rw[ha];exact hCl
   ·exact fun z=>hCc y a ha z.symm
  refine⟨m,hn.sameBut hsa hCa,fun h' hs'=>⟨_,H',?_,hq⟩⟩
  exact i7.turned (t':=s7.toks) (fun b o hb e=>(hs'.2 b hb).trans e) hCn hCl (.inr hC0) hCc hCp
end
def GFI(T:Tb)(Z:Zn)(v0:V)(Q:VK)(E:XK):Res PV->Prop
 | .ok pv=>∀F H f,bz T Z F H->Rel T F Z.B NoL H pv v0 f->f.Nodup->(∀a∈f,¬F a)->(∀a∈f,Z.H0 a=none\/Z.fp0 a)->Q .non H
 | .exc c=>∀H,(∀a o,Z.H0 a=some o->¬Z.fp0 a->H a=some o)->E (.ref (T.xcl c)) none H
 | .stuck=>False
def spI(T:Tb)(n:Nat)(m:List PV->Res PV):Sp:=fun vs H Q E=>vs.length=n/\∃v0 pvs F B f,vs[0]?=some v0/\nN T F B H pvs vs f/\(∃fl c ks xs,pvs[0]?=some (.obj fl c ks xs))/\GFI T ⟨H,F,(·∈f),B,some v0⟩ v0 Q E (m pvs)
def iE(n:Nat)(m:MS)(args:List PV):Res PV:=match m (args.map some++List.replicate (n - args.length) none)with
 | .next e=>match e[0]? with
  | some (some o)=>.ok o
  | _=>.stuck
 | .exc c _=>.exc c
 | _=>.stuck
section
variable{P:Program}{w:World}{K:PySem.W.Frag}{mg:Str->Option Value}{base:Heap}{T:Tb}
def xo(F:Fun K x qual st f fd)(S:cI N ps (au st))
  (body:∀ (cdv:Value) (A:Around) (outer:List Env) (s:Shared) (H:Hp) (E:XK),ck k (A.deeper (PyProof.Rows.envOfC qual (au st) s.heap.objs.size f cdv)) ->
   SSs (cr (CXP P w) P w K mg base N qual (au st) f cdv A outer s H E) T (WD T E) (a9 st) m):bX P w K mg base (CXP P w) (k+1) f fd ps (spI T ps.length (iE N.length m)):=by
 obtain⟨oc,od,kV,doc,pm,an,cdv,ct,osl,rfl,lk,hcd⟩:=F.ex
 refine vB lk hcd S (fun vs H Q E h=>h.1) fun A outer s H vs Q E hr hsp=>⟨_,body cdv A outer s H E hr,?_⟩
 obtain⟨_,v0,pvs,F,B,fl,hv0,R,hob,q⟩:=hsp
 obtain⟨fp,S0⟩:=fj N R (some v0) (fun v hv=>by cases hv;exact⟨hv0,hob⟩)
 refine⟨_,F,_,fp,S0,?_⟩
 unfold iE at q
 cases e:m (pvs.map some++List.replicate (N.length - pvs.length) none)with
 | next e' =>
  rw[e]at q
  dsimp only at q
  intro F' H' σ' fp' S'
  obtain⟨h1,_⟩:=S'.pn v0 rfl
  cases e0:e'[0]? with
  | none=>rw[e0]at q;exact q.elim
  | some o0 =>
   cases o0 with
   | none=>rw[e0]at q;exact q.elim
   | some o =>
    rw[e0]at q
    obtain⟨v,h2,r⟩:=S'.rel 0 o e0
    rw[h1]at h2
    cases h2
    exact q F' H' (fp' 0) S'.hp r (S'.nd 0) (fun a ha=>(S'.dis 0 a ha).1) (S'.new 0)
 | ret v | brk e' | cont e'=>rw[e]at q;exact q.elim
 | exc c e'=>rw[e]at q;exact fun F' H' σ' fp' S'=>q H' S'.hp.keep
 | stuck=>rw[e]at q;exact q.elim
end
section
variable{X:Cx}{T:Tb}{W:Nat->St->Hp->Prop}{Z:Zn}{F F1 B L:Addr->Prop}{H H1:Hp}{Y:St}{env:En}{fp:Nat->List Addr}{D:Ends}
def wc
  (M:Mk X.K (T.cls c) f) (hcn:c < T.nc) (G:bX X.prog X.w X.K X.mg X.base (CXP X.prog X.w) k f fd ps (spI T ps.length m)) (hr:ck (k+1) X.A) (hb:dA X.K fd ps ds) (hd:aB dvs ds) (hdp:∀F B L H,RelL T F B L H dps dvs []) (hx:XF X T W)
  (S:ap T Z F H Y env fp) (g:Gr F H F1 H1) (r:RelL T F1 Z.B (Own fp) H1 xs vs fx) (nf:∀a∈fx,¬F1 a) (nd:fx.Nodup) (new:∀a∈fx,H a=none) (q:GE T W Z.B F (Own fp) Y H Q (aA m (.obj .own c [] []::(xs++dps))))
  (I1:L2.Inv X gV Y H1 s1) (rv:aB vs us) (hlen:vs.length+dvs.length+1=ps.length):wpAny (model X.prog X.w) X.A (call (.ref (T.cls c)) us) (EP X gV Y Q) X.xe s1:=by
 have hxn:H1 (s1.heap.objs.size+1)=none:=I1.hok.fresh (Nat.le_succ _)
 have hdn:H1 s1.heap.objs.size=none:=I1.hok.fresh (Nat.le_refl _)
 have hne:s1.heap.objs.size≠s1.heap.objs.size+1:=Nat.ne_of_lt (Nat.lt_succ_self _)
 generalize hH2:upd (upd H1 s1.heap.objs.size (.own (s1.heap.objs.size+1))) (s1.heap.objs.size+1) (.ins (T.cls c) s1.heap.objs.size [])=H2
 have ext2:Ext H1 H2:=by
  rw[<- hH2]
  exact(Ext.upd hdn).trans (Ext.upd (by rw[ax hne.symm];exact hxn))
 have free2:∀a,H2 a=none->H1 a=none:=fun a h=>ext2.free h
 have hx2:H2 (s1.heap.objs.size+1)=some (.ins (T.cls c) s1.heap.objs.size []):=by rw[<- hH2];exact aJ
 have I2:=L2.Inv.made (C:=T.cls c) I1
 rw[hH2]at I2
 have r2:aB (V.ref (s1.heap.objs.size+1)::(vs++dvs)) (Value.ref (s1.heap.objs.size+1)::(us++ds)):=.cons rfl (rv.append hd)
 have hl:(Value.ref (s1.heap.objs.size+1)::us++ds).length=ps.length:=by
  have e:=r2.length
  simp only[List.length_cons,List.length_append]at e hlen ⊢
  omega
 have rr:RelL T F1 Z.B (Own fp) H1 (xs++dps) (vs++dvs) fx:=by
  have:=RelL.append r (hdp F1 Z.B (Own fp) H1)
  rwa [List.append_nil]at this
 have nx:s1.heap.objs.size+1∉fx:=fun z=>by
  obtain⟨o,ho⟩:=r.there _ z
  rw[hxn]at ho;cases ho
 have hBo:∀a,Z.B a->(∃o,H2 a=some o)/\a ∉(s1.heap.objs.size+1)::fx:=fun a h=>by
  obtain⟨⟨o,h1⟩,h2⟩:=S.hp.bo.1 a h
  have h3:=S.hp.keep a o h1 h2
  refine⟨⟨o,ext2 a o (g.ext a o h3)⟩,fun z=>?_⟩
  rcases List.mem_cons.mp z with z | z
  ·rw[z]at h3;rw[g.ext _ _ h3]at hxn;cases hxn
  ·rw[new a z]at h3;cases h3
 have hOw:∀a,Own fp a->(∃o,H2 a=some o)/\a ∉(s1.heap.objs.size+1)::fx:=fun a ⟨i,hi⟩=>by
  obtain⟨_,o,ho⟩:=S.dis i a hi
  refine⟨⟨o,ext2 a o (g.ext a o ho)⟩,fun z=>?_⟩
  rcases List.mem_cons.mp z with z | z
  ·rw[z]at ho;rw[g.ext _ _ ho]at hxn;cases hxn
  ·rw[new a z]at ho;cases ho
 have nF:¬F1 (s1.heap.objs.size+1):=fun z=>by
  obtain⟨o,ho⟩:=g.dom _ z
  rw[hxn]at ho;cases ho
 have R:nN T F1 (fun a=>(∃o,H2 a=some o)/\a ∉(s1.heap.objs.size+1)::fx) H2 (.obj .own c [] []::mapL Fl.toBor (xs++dps)) (.ref (s1.heap.objs.size+1)::(vs++dvs)) ((s1.heap.objs.size+1)::fx):=by
  refine⟨?_,List.nodup_cons.mpr ⟨nx,nd⟩,fun a ha=>?_,⟨fun a h=>h,S.tbo (g.ext.trans ext2) fun a z=>.inl ((List.mem_cons.mp z).elim (fun z=>by rw[z];exact g.ext.free hxn) (new a))⟩,fun a h=>let⟨o,ho⟩:=g.dom a h;⟨o,ext2 a o ho⟩⟩
  ·unfold RelL
   refine⟨_,_,[s1.heap.objs.size+1],fx,rfl,?_,RelL.toBor hBo hOw (rr.ext ext2 fun _ h=>h),rfl⟩
   unfold Rel
   exact⟨_,s1.heap.objs.size,[],[],rfl,by simpa using hx2,⟨rfl,hcn⟩,by unfold RelL;exact⟨rfl,rfl⟩,rfl,True.intro⟩
  ·rcases List.mem_cons.mp ha with rfl | ha
   ·exact nF
   ·exact nf a ha
 have newx:∀a ∈(s1.heap.objs.size+1)::fx,H a=none:=fun a ha=>by
  rcases List.mem_cons.mp ha with rfl | ha
  ·exact g.ext.free hxn
  ·exact new a ha
 refine wpAny_call (qW (f:=f) I1.kIn M.makes M.init (beq_iff_eq.mp M.fn) (codeAny_mono (G.run _ X.stack _ _ ⟨Value.ref (s1.heap.objs.size+1)::us,[]⟩ (Value.ref (s1.heap.objs.size+1)::(us ++ ds)) _ (fun v H3=>v=.non/\Q (.ref (s1.heap.objs.size+1)) H3) (fun cls _ H'=>∃ c,cls=.ref (T.xcl c)/\W c Y H') (hr.make (T.cls c) us [])
  (I2.env0.make (T.cls c) us []) (hb _ (Value.ref (s1.heap.objs.size+1)::us) I2.kIn hl) r2 ⟨by rw[r2.length];exact hl,_,_,F1,_,_,rfl,R,⟨.own,c,[],[],rfl⟩,?_⟩) fun rs s' hq'=>?_))
 ·unfold aA at q
  have e0:mapL Fl.toBor (PV.obj .own c [] []::(xs++dps))=.obj .own c [] []::mapL Fl.toBor (xs++dps):=by simp[mapL,PV.mapF,Fl.toBor]
  rw[e0]at q
  cases e:m (.obj .own c [] []::mapL Fl.toBor (xs++dps))with
  | ok v =>
   rw[e]at q
   dsimp only at q
   intro F3 H3 f3 hp3 r3 nd3 nf3 new3
   refine⟨rfl,?_⟩
   by_cases hbr:v.has Fl.isBor=true
   ·rw[if_pos hbr]at q;exact q.elim
   ·rw[if_neg hbr]at q
    have hbr':v.has Fl.isBor=false:=by simpa using hbr
    refine q _ H3 F3 f3 ⟨fun a o h=>hp3.keep a o (ext2 a o (g.ext a o h)) fun z=>(by rw[newx a z]at h;cases h),fun a h=>hp3.f0 a (g.mono a h),fun a h=>?_,hp3.ft⟩ ?_ nf3 nd3 fun a ha=>?_
    ·rcases hp3.fn a h with z | z | z
     ·exact g.only a z
     ·exact .inr (g.ext.free (free2 a z))
     ·exact .inr (newx a z)
    ·exact Rel.tr (fun _ h=>h) (fun _ h=>h) (fun _ h=>h.elim) (fun _ _ h _=>h) (fun _ _ _ h=>h) (Rel.noB (B':=Z.B) hbr' r3)
    ·rcases new3 a ha with z | z
     ·exact g.ext.free (free2 a z)
     ·exact newx a z
  | exc c' =>
   rw[e]at q
   exact fun H' h=>⟨c',rfl,q H' fun a o z=>h a o (ext2 a o (g.ext a o z)) fun z'=>by rw[newx a z']at z;cases z⟩
  | stuck=>rw[e]at q;exact q.elim
 ·cases rs with
  | error e =>
   obtain⟨cls,H',fl,c',rfl,hw⟩:=hq'
   exact hx gV Y H2 _ c' H' e s' I2 fl hw
  | ok fl =>
   cases fl with
   | ret u =>
    obtain⟨v,H',I3,rv',ev,q3⟩:=I2.after hq'
    subst ev
    exact⟨rv',⟨V.ref (s1.heap.objs.size+1),H',I3,rfl,q3⟩⟩
   | next | brk | cont=>exact False.elim hq'
def sZ
  (M:Mk X.K (T.cls c) f) (hcn:c < T.nc) (G:bX X.prog X.w X.K X.mg X.base (CXP X.prog X.w) k f fd ps (spI T ps.length m)) (hr:ck (k+1) X.A) (hg:Gl X x) (hm:X.mg x=some (.ref (T.cls c))) (hb:dA X.K fd ps ds) (hd:aB dvs ds) (hdp:∀F B L H,RelL T F B L H dps dvs []) (hx:XF X T W)
  (hn:eD ms n) (hps:n+dvs.length+1=ps.length) (ha:SA X T W (e::es) ms)
  (hdb:(x ==("__debug__" : Str))=false:=by decide) (he:starEach (e::es) X.env=(false,eval e X.env)::starEach es X.env:=by rfl) (hpl:(backTo pos (starEach es X.env)).any (·.1)=false:=by rfl) :
  SE X T W (.Call (.Name x p) (e::es) [] pos) (ao (fun xs=>aA m (.obj .own c [] []::(xs++dps))) ms):=by
 intro gV s Y H Q I h
 obtain⟨Z,F,env,fp,S,q⟩:=h
 unfold ao at q
 refine wpAny_Call_Name_kw (e9 I hg hm ?_ hdb)
 refine PySem.W.callWith_K (h₀:=X.base) I.ok.mod.kin M.kp (thn (ha pos gV s Y H (fun vs H1=>∀ us s1,L2.Inv X gV Y H1 s1->aB vs us->wpAny (model X.prog X.w) X.A (call (.ref (T.cls c)) us) (EP X gV Y Q) X.xe s1) I
  (tA.bind S (fun c e=>by rw[e]at q;exact q) (fun e=>by rw[e]at q;exact q) fun xs vs H1 F1 f1 e1 g1 r1 n1 d1 w1 us s1 I1 rv=>?_)) fun us s1 ⟨vs,H1,I1,r,q1⟩=>⟨I1.kIn,q1 us s1 I1 r⟩) he hpl
 rw[e1]at q
 exact wc M hcn G hr hb hd hdp hx S g1 r1 n1 d1 w1 q I1 rv (by rw[<- r1.length,hn env xs e1];exact hps)
def ap.mut(S:ap T Z F H Y env fp)(hi:i < env.length)(hv:Y[i]?=some (some v))(ha:a∈fp i)(r:Rel T F Z.B NoL (upd H a o') pv' v f')(nd:f'.Nodup)(nf:∀b∈f',¬F b)
  (new:∀b∈f',Z.H0 b=none\/Z.fp0 b) (dj:∀b∈f',∀j,j≠i->b∉fp j) (ho:i=0->cE env=true->∃fl c ks xs,pv'=.obj fl c ks xs):ap T Z F (upd H a o') Y (env.set i (some pv')) (a5 fp i f'):=by
 obtain⟨oa,hoa,hch⟩:=S.ch i a ha
 have nFa:¬F a:=(S.dis i a ha).1
 have nBa:¬Z.B a:=fun z=>S.bow a z ⟨i,ha⟩
 have ne:∀b u,H b=some u->(F b\/Z.B b\/NoL b\/fz u)->b≠a:=fun b u e h z=>by
  subst z
  rcases h with h | h | h | h
  ·exact nFa h
  ·exact nBa h
  ·exact h
  ·rw[hoa]at e
   cases e
   cases oa with
   | lst _ | ins _ _ _=>exact h
   | _=>exact hch
 have nz:∀b u,Z.H0 b=some u->¬Z.fp0 b->b≠a:=(by grind[a5,ap,bz,Gr])
 have nj:∀j,j≠i->∀b∈fp j,b≠a:=fun j hj b hb z=>by
  subst z
  exact S.dj j i hj _ hb ha
 refine⟨⟨S.hp.bo,fun b u e n=>by rw[ax (nz b u e n)];exact S.hp.keep b u e n,S.hp.f0,S.hp.fn,fun b h=>?_⟩,by rw[List.length_set,S.len],fun j pv e=>?_,fun j=>?_,fun j k hjk b hb=>?_,fun j b hb=>?_,fun j b hb=>?_,fun j b hb=>?_,fun w hw=>?_⟩
 ·obtain⟨u,e⟩:=S.hp.ft b h
  exact⟨u,by rw[ax (show b≠a from fun z=>nFa (by rw[<- z];exact h))];exact e⟩
 ·by_cases hj:j=i
  ·subst hj
   rw[List.getElem?_set_self hi]at e
   cases e
   refine⟨v,hv,?_⟩
   unfold a5
   rw[if_pos rfl]
   exact r
  ·rw[List.getElem?_set_ne (Ne.symm hj)]at e
   obtain⟨w,h1,h2⟩:=S.rel j pv e
   refine⟨w,h1,?_⟩
   unfold a5
   rw[if_neg hj]
   exact Rel.tr (fun _ h=>h) (fun _ h=>h) (fun _ h=>h) (fun b u q h=>by rw[ax (ne b u q h)];exact q) (fun b hb u q=>by rw[ax (nj j hj b hb)];exact q) h2
 ·unfold a5;split
  ·exact nd
  ·exact S.nd j
 ·grind[a5,ap,bz,Gr]
 ·unfold a5 at hb
  by_cases h1:j=i
  ·rw[if_pos h1]at hb;exact⟨nf b hb,r.there b hb⟩
  ·rw[if_neg h1]at hb
   obtain⟨n,u,e⟩:=S.dis j b hb
   exact⟨n,u,by rw[ax (nj j h1 b hb)];exact e⟩
 ·unfold a5 at hb
  by_cases h1:j=i
  ·rw[if_pos h1]at hb;exact new b hb
  ·rw[if_neg h1]at hb;exact S.new j b hb
 ·unfold a5 at hb
  by_cases h1:j=i
  ·rw[if_pos h1]at hb;exact r.chg b hb
  ·rw[if_neg h1]at hb
   obtain⟨u,e,c⟩:=S.ch j b hb
   exact⟨u,by rw[ax (nj j h1 b hb)];exact e,c⟩
 ·obtain⟨h1,h2⟩:=S.pn w hw
  refine⟨h1,?_⟩
  by_cases hi0:i=0
  ·obtain⟨fl,c,ks,xs,e⟩:=ho hi0 h2
   subst hi0 e
   unfold cE
   rw[List.getElem?_set_self hi]
  ·unfold cE at h2 ⊢
   rw[List.getElem?_set_ne hi0]
   exact h2
def fH(i k:Nat)(e:ME):MS:=fun env=>match e env with
 | .ok v=>(match env[i]? with
  | some (some (.obj .own c ks vs))=>if v.noLnt&&!ks.contains k&&decide (ks.length < 900)then .next (env.set i (some (.obj .own c (ks++[k]) (vs++[v]))))else .stuck
  | _=>.stuck)
 | .exc c=>.exc c env
 | .stuck=>.stuck
def lC:∀{ks:List Nat}{ws:List V},ks.contains k=false->ks.length=ws.length->et (T.att k) y ((ks.map T.att).zip ws)=((ks++[k]).map T.att).zip (ws++[y])
 | [],[],_,_=>rfl
 | j::ks,w::ws,h,hl=>by
  simp only[List.contains_cons,Bool.or_eq_false_iff,beq_eq_false_iff_ne]at h
  show et (T.att k) y ((T.att j,w)::(ks.map T.att).zip ws)=(T.att j,w)::((ks++[k]).map T.att).zip (ws++[y])
  unfold et
  rw[if_neg (fun z=>h.1 (T.inj _ _ z).symm),lC h.2 (by simpa using hl)]
 | [],_::_,_,hl | _::_,[],_,hl=>by simp at hl
def vV(hK:X.K=T.K)(hf:T.att k=f)(hc:∀c < T.nc,Cls T.K (T.cls c))(hn:∀c < T.nc,db T.K (T.cls c) f)(hN:X.N[i]?=some x)(hv:Vis X.env.scope x)(he:SE X T W e m)
  (hs:swapsWith e (some (.Attribute (.Name x px) f pos')) pos.line X.env=pure false:=by rfl) (hd:(x ==("__debug__" : Str))=false:=by decide) (hcd:(x ==("__classdict__" : Str))=false:=by decide) :
  SS X T W (.Assign [.Attribute (.Name x px) f pos'] e pos) (fH i k m):=PS.wk (wr (pos:=pos) (pos':=pos') (dv (pos:=px) hN hv hd hcd) he hs) fun D Y H ⟨Z,F,env,fp,S,q⟩=>by
 unfold fH at q
 refine tE.bind S (fun c e H' x=>?_) (fun e=>by rw[e]at q;exact q) fun pv v H1 F1 f1 e g r h1 h2 h3=>?_
 ·rw[e]at q
  exact q F H' Y fp (S.grow (Gr.same S.hp.ft x))
 ·rw[e]at q
  dsimp only at q
  split at q
  ·rename_i c ks vs eo
   split at q
   ·rename_i hcnd
    simp only[Bool.and_eq_true,Bool.not_eq_true',decide_eq_true_eq]at hcnd
    obtain⟨⟨hln,hkn⟩,hkl⟩:=hcnd
    have S1:=S.grow g
    obtain⟨vo,ho1,ho2⟩:=S1.rel i _ eo
    have ho3:=ho2
    unfold Rel at ho3
    obtain⟨a,dx,ws,fp',rfl,hl,hk,hr,hfl,_⟩:=ho3
    have hfl':fp i=a::fp':=hfl
    have hil:i < env.length:=(List.getElem?_eq_some_iff.mp eo).1
    refine⟨_,ho1,a,_,dx,_,rfl,hl,by rw[hK];exact hc c hk.2,by rw[hK];exact hn c hk.2,?_,?_⟩
    ·have:=hr.length
     rw[List.length_zip,List.length_map]
     omega
    ·rw[<- hf,lC hkn (by rw[<- hr.length];exact hk.1)]
     have ha:a∈fp i:=by rw[hfl'];exact List.mem_cons_self
     have nd:(a::fp').Nodup:=by rw[<- hfl'];exact S1.nd i
     have old:∀b∈f1,∀j,b∉fp j:=fun b hb j hj=>by
      obtain⟨_,o,e⟩:=S.dis j b hj
      rw[h3 b hb]at e;cases e
     have hrv:Rel T F1 Z.B NoL H1 pv v f1:=Rel.noL (by simpa[PV.noLnt]using hln) r
     have nea:∀b u,H1 b=some u->(F1 b\/Z.B b\/NoL b\/fz u)->b≠a:=fun b u e h z=>by
      subst z
      rcases h with h | h | h | h
      ·exact(S1.dis i _ ha).1 h
      ·exact S1.bow _ h ⟨i,ha⟩
      ·exact h
      ·rw[hl]at e;cases e;exact h
     refine q F1 _ Y _ (S1.mut (f':=a::(fp'++f1)) hil ho1 ha ?_ ?_ (fun b hb=>?_) (fun b hb=>?_) (fun b hb j hj=>?_) fun _ _=>⟨_,_,_,_,rfl⟩)
     ·unfold Rel
      have hrr:RelL T F1 Z.B NoL H1 (vs++[pv]) (ws++[v]) (fp'++f1):=RelL.append hr (by unfold RelL;exact⟨v,[],f1,[],rfl,hrv,by unfold RelL;exact⟨rfl,rfl⟩,by simp⟩)
      refine⟨a,dx,ws++[v],fp'++f1,rfl,aJ,⟨by simp[hk.1],hk.2⟩,?_,rfl,True.intro⟩
      refine RelL.tr (fun _ h=>h) (fun _ h=>h) (fun _ h=>h) (fun b u e h=>by rw[ax (nea b u e h)];exact e) (fun b hb u e=>?_) hrr
      refine(ax fun z=>?_).trans e
      grind
     ·grind
     ·grind[a5,ap,bz,Gr]
     ·rcases List.mem_cons.mp hb with rfl | hb
      ·exact S1.new i _ ha
      ·rcases List.mem_append.mp hb with hb | hb
       ·exact S1.new i b (by rw[hfl'];exact List.mem_cons_of_mem _ hb)
       ·exact S.hp.newE h3 b hb
     grind[a5,ap,bz,Gr]
   ·exact q.elim
  ·exact q.elim
def ap.mutL{i:Nat}{xs ys:List PV}{ws us:List V}{a:Addr}{v:V}{f' fp':List Addr}(S:ap T Z F H Y env fp)(eo:env[i]?=some (some (.lst .own xs)))(hv:Y[i]?=some (some (.ref a)))(hfp:fp i=a::fp')(r:RelL T F Z.B NoL H ys us f')(nd:f'.Nodup)
  (hf:∀b∈f',(b∈fp')\/(¬F b/\(Z.H0 b=none\/Z.fp0 b)/\∀j,b∉fp j)) (hl:H a=some (.lst ws)):ap T Z F (upd H a (.lst us)) Y (env.set i (some (.lst .own ys))) (a5 fp i (a::f')):=by
 have ha:a∈fp i:=by rw[hfp];exact List.mem_cons_self
 have ndi:(a::fp').Nodup:=by rw[<- hfp];exact S.nd i
 have sub:∀b∈fp',b∈fp i:=fun b hb=>by rw[hfp];exact List.mem_cons_of_mem _ hb
 have na:∀b∈f',b≠a:=(by grind)
 have hil:i < env.length:=(List.getElem?_eq_some_iff.mp eo).1
 have nea:∀b u,H b=some u->(F b\/Z.B b\/NoL b\/fz u)->b≠a:=fun b u e h z=>by
  subst z
  rcases h with h | h | h | h
  ·exact(S.dis i _ ha).1 h
  ·exact S.bow _ h ⟨i,ha⟩
  ·exact h
  ·rw[hl]at e;cases e;exact h
 refine S.mut hil hv ha ?_ (List.nodup_cons.mpr ⟨fun z=>na a z rfl,nd⟩) (fun b hb=>?_) (fun b hb=>?_) (fun b hb j hj=>?_) fun h0 h1=>?_
 ·unfold Rel
  exact⟨a,us,f',rfl,aJ,RelL.tr (fun _ h=>h) (fun _ h=>h) (fun _ h=>h) (fun b u e h=>by rw[ax (nea b u e h)];exact e) (fun b hb u e=>by rw[ax (na b hb)];exact e) r,rfl⟩
 ·rcases List.mem_cons.mp hb with rfl | hb
  ·exact(S.dis i _ ha).1
  ·rcases hf b hb with h | h
   ·exact(S.dis i b (sub b h)).1
   ·exact h.1
 ·grind[a5,ap,bz,Gr]
 ·grind[a5,ap,bz,Gr]
 ·subst h0
  unfold cE at h1
  rw[eo]at h1
  cases h1
def ap.lst{i:Nat}{xs:List PV}(S:ap T Z F H Y env fp)(eo:env[i]?=some (some (.lst .own xs))):∃a ws fp',Y[i]?=some (some (.ref a))/\H a=some (.lst ws)/\RelL T F Z.B NoL H xs ws fp'/\fp i=a::fp':=by
 obtain⟨v,h1,h2⟩:=S.rel i _ eo
 unfold Rel at h2
 obtain⟨a,ws,fp',rfl,hl,hr,hf⟩:=h2
 exact⟨a,ws,fp',h1,hl,hr,hf⟩
def ap.beside{f1:List Addr}(S:ap T Z F H Y env fp)(g:Gr F H F1 H1)(h1:∀ a ∈ f1,¬ F1 a)(h3:∀ a ∈ f1,H a=none):∀ b ∈ f1,¬ F1 b/\(Z.H0 b=none \/ Z.fp0 b)/\∀ j,b ∉ fp j:=fun b hb=>⟨h1 b hb,S.hp.newE h3 b hb,fun j hj=>by
 obtain⟨_,o,e⟩:=S.dis j b hj
 rw[h3 b hb]at e;cases e⟩
def bE(i:Nat)(e:ME):MS:=fun env=>match e env with
 | .ok v=>(match env[i]? with
  | some (some (.lst .own xs))=>if v.noLnt&&decide (xs.length < 10000000)then .next (env.set i (some (.lst .own (xs++[v]))))else .stuck
  | _=>.stuck)
 | .exc c=>(match env[i]? with
  | some (some (.lst .own _))=>.exc c env
  | _=>.stuck)
 | .stuck=>.stuck
def oR{i:Nat}{x:Str}{e:Expr}{m:ME}{pos px apos cpos:Pos}(hK:X.K=T.K)(hN:X.N[i]?=some x)(hv:Vis X.env.scope x)(he:SE X T W e m)
  (hs:swapsWith (.Call (.Attribute (.Name x px) "append" apos) [e] [] cpos) none pos.line X.env=pure false:=by rfl) (hst:starEach [e] X.env=[(false,eval e X.env)]:=by rfl)
  (hfew:((backTo cpos (starEach [e] X.env)).all (fun x=>!x.1)&&(backToKw cpos (keywordEach [] X.env)).all (fun x=>x.1.isSome)&&decide ([e].length+([]:List Keyword).length+(if([]:List Keyword).isEmpty then 0 else 1) < 30))=true:=by rfl)
  (hline:(apos.endLine==cpos.line)=true:=by rfl) (hd:(x ==("__debug__" : Str))=false:=by decide) (hcd:(x ==("__classdict__" : Str))=false:=by decide) :
  SS X T W (.Expr (.Call (.Attribute (.Name x px) "append" apos) [e] [] cpos) pos) (bE i m) :=
 PS.wk (gd (pos:=pos) (qz (cpos:=cpos) (apos:=apos) PySem.F.plainAttrs_list PySem.F.slot_list_append PySem.F.type_list_append jU (dv (pos:=px) hN hv hd hcd) (aa he ai hst) rfl hfew hline hst) hs) fun D Y H ⟨Z,F,env,fp,S,q⟩=>by
  unfold bE at q
  cases em:m env with
  | stuck=>rw[em]at q;exact q.elim
  | exc c =>
   rw[em]at q
   dsimp only at q
   split at q
   ·rename_i xs eo
    obtain⟨a,ws,fp',h1,hl,hr,hf⟩:=S.lst eo
    refine⟨_,h1,.inl ⟨rfl,ws,by rw[hK];exact SqL.of hl⟩,Z,F,env,fp,S,?_⟩
    unfold ae
    rw[em]
    exact fun H' x=>q F H' Y fp (S.grow (Gr.same S.hp.ft x))
   ·exact q.elim
  | ok v =>
   rw[em]at q
   dsimp only at q
   split at q
   ·rename_i xs eo
    split at q
    ·rename_i hc
     simp only[Bool.and_eq_true,decide_eq_true_eq]at hc
     obtain⟨a,ws,fp',h1,hl,hr,hf⟩:=S.lst eo
     refine⟨_,h1,.inl ⟨rfl,ws,by rw[hK];exact SqL.of hl⟩,Z,F,env,fp,S,?_⟩
     unfold ae ak
     rw[em]
     intro vs H1 F1 f1 g r n1 d1 w1
     obtain⟨u,rfl,ru⟩:=r.one
     have S1:=S.grow g
     have hl1:=g.ext a _ hl
     refine⟨a,ws,u,rfl,rfl,hl1,?_,?_⟩
     ·rw[<- hr.length,sizeLine_eq];omega
     ·have rone:RelL T F1 Z.B NoL H1 [v] [u] f1:=by unfold RelL;exact⟨u,[],f1,[],rfl,Rel.noL (by simpa[PV.noLnt]using hc.1) ru,by unfold RelL;exact⟨rfl,rfl⟩,by simp⟩
      refine q F1 _ Y _ (S1.mutL (v:=u) eo h1 hf (RelL.append (hr.ext g.ext g.mono) rone) ?_ (fun b hb=>?_) hl1)
      ·have ndi:(a::fp').Nodup:=by rw[<- hf];exact S.nd i
       refine List.nodup_append.mpr ⟨(List.nodup_cons.mp ndi).2,d1,fun b hb b' hb' z=>?_⟩
       subst z
       exact(S.beside g n1 w1 b hb').2.2 i (by rw[hf];exact List.mem_cons_of_mem _ hb)
      ·rcases List.mem_append.mp hb with hb | hb
       ·exact .inl hb
       ·exact .inr (S.beside g n1 w1 b hb)
    ·exact q.elim
   ·exact q.elim
def dL(i:Nat)(k e:ME):MS:=fun env=>match e env with
 | .ok v=>(match env[i]? with
  | some (some (.lst .own xs))=>(match k env with
   | .ok (.int j)=>(match ixN xs.length j with
    | some n=>if v.noLnt then .next (env.set i (some (.lst .own (xs.set n v))))else .stuck
    | none=>.stuck)
   | _=>.stuck)
  | _=>.stuck)
 | .exc c=>.exc c env
 | .stuck=>.stuck
def RelL.set{y:PV}{w:V}{g:List Addr}(ry:Rel T F B L H y w g):∀{xs:List PV}{vs:List V}{f:List Addr} (n:Nat),RelL T F B L H xs vs f->(f++g).Nodup->∃f',RelL T F B L H (xs.set n y) (vs.set n w) f'/\f'.Nodup/\∀b∈f',b∈f\/b∈g
 | [],vs,f,n,h,nd=>by unfold RelL at h;obtain⟨rfl,rfl⟩:=h;exact⟨[],by simp[RelL],List.nodup_nil,fun _ z=>(nomatch z)⟩
 | x::xs,_,_,0,h,nd=>by
  unfold RelL at h
  obtain⟨v,ws,f1,f2,rfl,h1,h2,rfl⟩:=h
  obtain⟨n1,n2,n3⟩:=List.nodup_append.mp nd
  obtain⟨m1,m2,m3⟩:=List.nodup_append.mp n1
  refine⟨g++f2,?_,(by grind),fun b hb=>?_⟩
  ·rw[List.set_cons_zero,List.set_cons_zero]
   unfold RelL
   exact⟨w,ws,g,f2,rfl,ry,h2,rfl⟩
  grind
 | x::xs,_,_,n+1,h,nd=>by
  unfold RelL at h
  obtain⟨v,ws,f1,f2,rfl,h1,h2,rfl⟩:=h
  obtain⟨n1,n2,n3⟩:=List.nodup_append.mp nd
  obtain⟨m1,m2,m3⟩:=List.nodup_append.mp n1
  obtain⟨f',r,d,s⟩:=RelL.set ry n h2 (List.nodup_append.mpr ⟨m2,n2,fun a ha b hb=>n3 a (List.mem_append_right _ ha) b hb⟩)
  refine⟨f1++f',?_,List.nodup_append.mpr ⟨m1,d,fun a ha b hb z=>?_⟩,fun b hb=>?_⟩
  ·rw[List.set_cons_succ,List.set_cons_succ]
   unfold RelL
   exact⟨v,_,f1,f',rfl,h1,r,rfl⟩
  ·grind
  grind
def fU{i:Nat}{x:Str}{k e:Expr}{mk me:ME}{pos px tpos:Pos}(hN:X.N[i]?=some x)(hv:Vis X.env.scope x)(hk:SE X T W k mk)(he:SE X T W e me)
  (ha:∀ v,assign (.Subscript (.Name x px) k tpos) X.env v=(do
   let ov <- holding [v] (eval (.Name x px) X.env)
   let iv <- holding [v,ov] (eval k X.env)
   standAt tpos
   holding [v,ov,iv] (setItem ov iv v)
   release [v,ov,iv] []):=by intro _;rfl)
  (hs:swapsWithSole [.Subscript (.Name x px) k tpos] e pos.line X.env=pure false:=by rfl) (hw:swappedStores [.Subscript (.Name x px) k tpos] e X.env=pure none:=by rfl)
  (h1:(assignEach [.Subscript (.Name x px) k tpos] X.env).map (·.2)=[assign (.Subscript (.Name x px) k tpos) X.env]:=by rfl) (hd:(x ==("__debug__" : Str))=false:=by decide) (hcd:(x ==("__classdict__" : Str))=false:=by decide) :
  SS X T W (.Assign [.Subscript (.Name x px) k tpos] e pos) (dL i mk me) :=
 PS.wk (wt (pos:=pos) he (wv (pos:=tpos) (dv (pos:=px) hN hv hd hcd) hk qa ha) hs hw h1) fun D Y H ⟨Z,F,env,fp,S,q⟩=>by
  unfold dL at q
  refine tE.bind S (fun c e H' x=>?_) (fun e=>by rw[e]at q;exact q) fun pv v H1 F1 f1 e g r n1 d1 w1=>?_
  ·rw[e]at q
   exact q F H' Y fp (S.grow (Gr.same S.hp.ft x))
  ·rw[e]at q
   dsimp only at q
   split at q
   ·rename_i xs eo
    have S1:=S.grow g
    obtain⟨a,ws,fp',h1,hl,hr,hf⟩:=S1.lst eo
    cases ek:mk env with
    | stuck | exc c=>rw[ek]at q;exact q.elim
    | ok kv =>
     rw[ek]at q
     refine⟨_,h1,Z,F1,env,fp,S1,?_⟩
     rw[ek]
     intro u H2 F2 f2 g2 r2 _ _ _
     cases kv with
     | int j =>
      dsimp only at q
      unfold Rel at r2
      obtain⟨rfl,_⟩:=r2
      cases en:ixN xs.length j with
      | none=>rw[en]at q;exact q.elim
      | some n =>
       rw[en]at q
       dsimp only at q
       split at q
       ·rename_i hln
        have S2:=S1.grow g2
        have hr2:=hr.ext g2.ext g2.mono
        have ndi:(a::fp').Nodup:=by rw[<- hf];exact S.nd i
        have g12:=g.trans g2
        have nn:∀b∈f1,¬F2 b:=fun b hb z=>by
         rcases g2.only b z with z | z
         ·exact n1 b hb z
         ·obtain⟨o,ho⟩:=r.there b hb
          rw[ho]at z;cases z
        obtain ⟨f',r',nd',sub'⟩:=RelL.set (T:=T) (Rel.noL (L':=NoL) (by simpa [PV.noLnt] using hln) (r.ext g2.ext g2.mono)) n hr2 (List.nodup_append.mpr ⟨(List.nodup_cons.mp ndi).2,d1,fun b hb b' hb' z=>by
         subst z
         exact(S.beside g12 nn w1 b hb').2.2 i (by rw[hf];exact List.mem_cons_of_mem _ hb)⟩)
        refine⟨a,ws,j,n,rfl,rfl,g2.ext a _ hl,by rw[<- hr.length];exact en,?_⟩
        refine q F2 _ Y _ (S2.mutL (v:=v) eo h1 hf r' nd' (fun b hb=>?_) (g2.ext a _ hl))
        rcases sub' b hb with h | h
        ·exact .inl h
        ·exact .inr (S.beside g12 nn w1 b h)
       ·exact q.elim
     | _=>exact q.elim
   ·exact q.elim
end
def uf(i:Nat):Str:=⟨#[1114112+i]⟩
def gA(l:List Str)(i:Nat):Str:=match l[i]? with
 | some x=>x
 | none=>uf i
def gF(x:Str):Bool:=x.cps.all fun c=>decide (c < 1114112)
def dI(i:Nat):gF (uf i)=false:=by
 simp[gF,uf]
def pR(nd:l.Nodup)(h:l.all gF=true)(i j:Nat)(e:gA l i=gA l j):i=j:=by
 have pl:∀(i:Nat) x,l[i]?=some x->gF x=true:=fun i x hx=>List.all_eq_true.mp h x (List.mem_of_getElem? hx)
 unfold gA at e
 cases ei:l[i]? with
 | some x =>
  cases ej:l[j]? with
  | some y =>
   rw[ei,ej]at e
   dsimp only at e
   subst e
   obtain⟨h1,e1⟩:=List.getElem?_eq_some_iff.mp ei
   obtain⟨h2,e2⟩:=List.getElem?_eq_some_iff.mp ej
   exact(List.getElem_inj nd).mp (e1.trans e2.symm)
  | none =>
   rw[ei,ej]at e
   dsimp only at e
   have:=pl i x ei
   rw[e,dI]at this
   cases this
 | none =>
  cases ej:l[j]? with
  | some y =>
   rw[ei,ej]at e
   dsimp only at e
   have:=pl j y ej
   rw[<- e,dI]at this
   cases this
  | none =>
   rw[ei,ej]at e
   dsimp only at e
   simpa[uf]using e
def sF(hp:gF m=true)(hm:m∉l)(k:Nat):gA l k≠m:=by
 unfold gA
 cases e:l[k]? with
 | some x=>exact fun z=>hm (z▸List.mem_of_getElem? e)
 | none =>
  intro z
  dsimp only at z
  rw[<- z,dI]at hp
  cases hp
structure Ctx(X:Cx)(T:Tb)(W:Nat->St->Hp->Prop)(k:Nat):Prop where
 hK:X.K=T.K
 calm:X.calm=true
 room:ck k X.A
 xf:XF X T W
 po:PassesOwn (model X.prog X.w) X.A X.env X.xe
def Ctx.hu(c:Ctx X T W k):X.A.units+64 < cLine:=c.room.units
def Ctx.hu2(c:Ctx X T W k):X.A.units+66 < cLine:=by
 have:=c.room.un
 omega
def oH
  (hr:ck k (A.deeper (PyProof.Rows.envOfC qual scope s.heap.objs.size f cd))):Ctx (cr (CXP P w) P w T.K mg base N qual scope f cd A outer s H E) T (WD T E) k:=⟨rfl,rfl,hr,vL,PassesOwn.leaving⟩
def Ctx.comp(c:Ctx X T W k):Ctx (cxC X scope C N s H ex) T WF k:=⟨c.hK,c.calm,c.room,fun _ _ _ _ _ _ _ _ _ _ h=>h.elim,PassesOwn.never⟩
def je(scD scope:Scope)(NX:List Str)(caps:List Nat)(N tn:List Str):Bool :=
 decide (scope.kind=.function)&&scope.names.all (fun y=>decide (y.2=.cell->scope.names.lookup y.1=some .cell))&&scope.names.all (fun y=>decide (y.2=.local->scope.names.lookup y.1=some .local)) &&
 scope.names.all (fun y=>decide (y.2=.free->scD.names.lookup y.1=some .cell\/scD.names.lookup y.1=some .free))&&decide (N=caps.map (fun i=>NX.getD i "")++ tn)&&caps.all (fun i=>decide (i < NX.length)) &&
 caps.all (fun i=>match NX[i]? with | some x=>decide ((x,NameKind.free)∈ scope.names/\scope.names.lookup x=some .free) | none=>false)&&decide N.Nodup
def u7(h:je scD scope NX caps N tn=true)(hs:X.env.scope=scD)(hN:X.N=NX):cQ X scope caps N tn:=by
 simp only[je,Bool.and_eq_true,decide_eq_true_eq,List.all_eq_true]at h
 obtain⟨⟨⟨⟨⟨⟨⟨h1,h2⟩,h3⟩,h4⟩,h5⟩,h6⟩,h7⟩,h9⟩:=h
 subst hs hN
 refine⟨h1,h2,h3,h4,h5,h6,fun i hi x hx=>?_,h9⟩
 have:=h7 i hi
 rw[hx]at this
 simpa using this
section
variable{X:Cx}{T:Tb}{W:Nat->St->Hp->Prop}
def sv(i:Nat)(hN:X.N[i]?=some x:=by rfl)(hv:Vis X.env.scope x:=by first | exact Or.inl rfl | exact Or.inr (Or.inl rfl) | exact Or.inr (Or.inr rfl))(hd:(x ==("__debug__" : Str))=false:=by decide)
  (hcd:(x ==("__classdict__" : Str))=false:=by decide):SE X T W (.Name x pos) (ac i):=vX hN hv hd hcd
end
def qd(hg:Gl X x)(hm:X.mg x=some (.int i t))(hd:(x ==("__debug__" : Str))=false:=by decide):SE X T W (.Name x pos) (mC (.int i)) :=
 iz (v:=.int i) (n0 hg hm ⟨t,rfl⟩ hd) fun _ _ _ _=>el
end PR
namespace PR
open PySem PySem.Spec
structure jC(K:PySem.W.Frag)(C:Addr):Prop where
 ga:PySem.W.findIn K (.ref C) "__getattribute__" = some (some (.builtin "BaseException.__getattribute__"))
 gt:PySem.W.findIn K (.ref C) "__getattr__" = some none
 ca:PySem.W.findIn K (.ref C) "__class__" = some (some (.builtin "object.__class__"))
 sb:PySem.W.mroIn K C (.type "BaseException")=some true
 so:PySem.W.mroIn K C (.type "object")=some true
 cl:(PySem.W.clsIn K C).isSome=true
section
variable{prog:Program}{w:World}{A:Around}{E:Value->Shared->Prop}{h:Heap}{g:Array GenState}{d:Drawn}{t:Nat}{os:OsState}{a C:Addr}{o:Obj}{K:PySem.W.Frag}
def rP(O:jC K C)(X:K.In h)(hx:h.get? a=some o)(hc:o.cls=.ref C)(hq:Q (.done (.ret (.ref C))) ⟨h,g,d,t,os⟩) :
  wpAny (model prog w) A (Builtin.«object.__getattribute__» ⟨[.ref a,.str "__class__" tk],[]⟩) Q E ⟨h,g,d,t,os⟩:=by
 have k1:(⟨h,g,d,t,os⟩:Shared).TypeIs (.builtin "object.__class__") "getset_descriptor" := F.typeOf_object_class
 have k2:=F.typeOf_object_class
 have k3:=F.slot_gs_get.lookup
 have k4:=F.slot_gs_set.lookup
 have lc:=PySem.W.looks_findIn (M:=model prog w) X O.ca
 have ls:=PySem.W.looks_mroIn (M:=model prog w) X O.so
 repeat (any_goals (first | assumption |(with_reducible refine wpAny_loadPart_at hx ?_;rw[hc]) | with_reducible refine PySem.W.Looks.at lc ?_ | wp_step))
 refine codeAny_call_builtin F.slot_gs_get.plain F.entry_gs_get (F.slot_gs_get.check _ _ _ _ _ _ _ _ k1 (F.args_gs_get _ _ _) ?_)
 rw[<- F.owner_object_class]at ls
 repeat (any_goals (first | assumption |(with_reducible refine wpAny_loadPart_at hx ?_;rw[hc]) | with_reducible refine PySem.W.Looks.at ls ?_ | wp_step))
 refine⟨Code.quiet_builtin _ (by decide +kernel),codeAny_builtin F.entry_object_class ?_⟩
 repeat (any_goals (first | assumption |(with_reducible refine wpAny_loadPart_at hx ?_;rw[hc]) | wp_step))
def xB(O:jC K C)(X:K.In h)(hx:h.get? a=some o)(hc:o.cls=.ref C)(hq:Q () ⟨h,g,d,t,os⟩):wpAny M A (checkBuiltinCall "BaseException.__getattribute__" ⟨[.ref a,v],[]⟩) Q E ⟨h,g,d,t,os⟩:=by
 have ka:=F.args_bexc_ga (.ref a) v
 have lb:=PySem.W.looks_mroIn (M:=M) X O.sb
 simp only[checkBuiltinCall,show builtinKind "BaseException.__getattribute__" = some .slot by decide +kernel,show splitId "BaseException.__getattribute__" = some ("BaseException", "__getattribute__") by decide +kernel]
 refine wpAny_bind ?_
 unfold isInstance
 repeat (first |(with_reducible refine wpAny_loadPart_at hx ?_;rw[hc]) | with_reducible refine PySem.W.Looks.at lb ?_ | wp_step)
 exact hq
def Ak(O:jC K C)(X:K.In h)(hx:h.get? a=some o)(hc:o.cls=.ref C)(hq:Q (.ref C) ⟨h,g,d,t,os⟩) :
  wpAny (model prog w) A (getAttrBy (.ref a) (.str "__class__" tk) false) Q E ⟨h,g,d,t,os⟩:=by
 have k1:=PySem.F.excAttr_ValueError.ga.bind (.ref a)
 have k2:(false&&onTheHeap (Value.builtin "BaseException.__getattribute__"))=false:=rfl
 have k3:(onTheHeap (Value.ref C)&&Value.builtin "BaseException.__getattribute__"==Value.builtin "object.__getattribute__")=false:=by
  rw[show(Value.builtin "BaseException.__getattribute__"==Value.builtin "object.__getattribute__")=false by decide +kernel];rfl
 have lg:=PySem.W.looks_findIn (M:=model prog w) X O.ga
 have lt:=PySem.W.looks_findIn (M:=model prog w) X O.gt
 repeat (any_goals (first | assumption |(with_reducible refine wpAny_loadPart_at hx ?_;rw[hc]) | with_reducible refine PySem.W.Looks.at lg ?_ | with_reducible refine PySem.W.Looks.at lt ?_ | wp_step))
 refine codeAny_call_builtin PySem.F.excAttr_ValueError.ga.plain F.entry_bexc_ga (xB O X hx hc (rP O X hx hc ?_))
 repeat (any_goals (first | assumption | wp_step))
def uP(O:jC K C)(X:K.In h)(hx:h.get? a=some o)(hc:o.cls=.ref C)(hq:Q (some (.ref C)) ⟨h,g,d,t+1,os⟩):wpAny (model prog w) A (getAttr? (.ref a) "__class__") Q E ⟨h,g,d,t,os⟩:=by
 unfold getAttr? getAttrBy?
 repeat (any_goals (first | assumption | with_reducible apply Ak O X hx hc | wp_step))
def j9(h:(PySem.W.clsIn K C).isSome=true):∃c dd cd sl,K.lookup C=some ⟨c,dd,.cls cd,sl⟩:=by
 unfold PySem.W.clsIn at h
 split at h
 ·exact⟨_,_,_,_,by assumption⟩
 ·cases h
def q_(O:jC K C):PySem.W.KitX K (.ref a) (.ref C) (fun h=>∃o,h.get? a=some o/\o.cls=.ref C) where
 ty:=fun M h _ ⟨o,hx,hc⟩=>hc ▸(PySem.W.Looks.ld hx).andThen .now
 it:=fun M h X _=>by
  obtain⟨c,dd,cd,sl,ho⟩:=j9 O.cl
  intro A' Q' E' s' k q
  unfold isType loadHead
  exact wpAny_bind (wpAny_loadPart (k _ _ (X _ _ ho)) (wpAny_pure q))
 ne:=fun h tp dd its n sl X htp=>by
  obtain⟨c,dd',cd,sl',ho⟩:=j9 O.cl
  refine Bool.eq_false_iff.mpr fun q=>?_
  obtain rfl:C=tp:=Value.ref.inj (beq_iff_eq.mp q)
  have z:=(X _ _ ho).symm.trans htp
  cases z
 ca:=fun {_ _ _ _ _ s} X p k=>by
  obtain⟨h,g,d,t,os⟩:=s
  obtain⟨o,hx,hc⟩:=p
  exact uP O X hx hc k
end
end PR
namespace L2
open PySem PySem.Spec PyProof.Rows
abbrev Cx.tryX(X:Cx)(E:Value->Shared->Prop)(pn:List (Addr×Obj)):Cx:={ X with xe:=E,pn:=pn }
abbrev Cx.hanX(X:Cx)(e:Value):Cx:={ X with A:=X.A.mark (some e),calm:=false,xe:=fun _ _=>False }
section
variable{X:Cx}{gV pins':List (Addr×Obj)}{Y:St}{H H':Hp}{s:Shared}{E:Value->Shared->Prop}{e:Value}
def Inv.tryX(I:Inv X gV Y H s):Inv (X.tryX E (X.pn++gV)) [] Y H s :=
 ⟨⟨I.ok.mod,I.ok.kind,I.ok.glob,I.ok.blt,I.ok.above,I.ok.inj,I.ok.has,I.ok.cab,I.ok.hd,I.ok.frames,I.ok.stk,I.ok.exf,I.ok.bs,I.ok.bsz,I.ok.noex,I.ok.exfs,I.ok.funs,I.ok.frf⟩,
  I.os,I.bare,I.base,I.loc,I.cell,I.free,I.freeC,fun p hp=>I.pin p (by simpa using hp),I.hok,I.len⟩
def Inv.untry(I:Inv (X.tryX E (X.pn++gV)) pins' Y H s):Inv X gV Y H s :=
 ⟨⟨I.ok.mod,I.ok.kind,I.ok.glob,I.ok.blt,I.ok.above,I.ok.inj,I.ok.has,I.ok.cab,I.ok.hd,I.ok.frames,I.ok.stk,I.ok.exf,I.ok.bs,I.ok.bsz,I.ok.noex,I.ok.exfs,I.ok.funs,I.ok.frf⟩,
  I.os,I.bare,I.base,I.loc,I.cell,I.free,I.freeC,fun p hp=>I.pin p (List.mem_append_left _ hp),I.hok,I.len⟩
def Inv.hanX(I:Inv X gV Y H s):Inv (X.hanX e) gV Y H s :=
 ⟨⟨I.ok.mod,I.ok.kind,I.ok.glob,I.ok.blt,I.ok.above,I.ok.inj,I.ok.has,I.ok.cab,fun z=>(nomatch z),I.ok.frames,I.ok.stk,I.ok.exf,I.ok.bs,I.ok.bsz,I.ok.noex,I.ok.exfs,I.ok.funs,I.ok.frf⟩,
  I.os,I.bare,I.base,I.loc,I.cell,I.free,I.freeC,I.pin,I.hok,I.len⟩
def Inv.unhan(ok:X.Ok)(I:Inv (X.hanX e) gV Y H s):Inv X gV Y H s:=⟨ok,I.os,I.bare,I.base,I.loc,I.cell,I.free,I.freeC,I.pin,I.hok,I.len⟩
def io(I:Inv X gV Y H s)(hN:X.N.Nodup)(hi:X.N[i]?=some x)(hk:X.env.scope.names.lookup x=some .local)
  (h:∀s',Inv X gV (Y.set i none) H s'->Q () s'):wpAny M A (do bindName X.env x .none;unbindBehindTheSuite X.env x pos) Q E s:=by
 obtain⟨m,hn,hl⟩:=id I.loc
 obtain⟨oL,_,_,hoL,_⟩:=id hn
 have hcls:(X.env.scope.kind==.class ||(X.env.scope.kind==.module&&X.env.locals != X.env.globals))=false:=by rw[I.ok.kind];rfl
 refine wpAny_nameGoes_keeps hk hn hcls fun h' v hn' hs=>h _ ?_
 have ne:∀b o,X.s₀.heap.get? b=some o->b≠X.env.locals:=fun b o e=>Nat.ne_of_lt (Nat.lt_of_lt_of_le (Heap.lt_size e) I.ok.above)
 refine⟨I.ok,I.os,I.bare,⟨fun b o e n hb hx=>(hs.2 b (ne b o e)).trans (I.base.keep b o e n hb hx),fun b o e n hb hx=>?_,I.base.free,fun b o e hx=>?_,I.base.tups,I.base.frzs,I.base.tbls⟩,⟨_,hn',fun j y v' e1 e2 e3=>?_⟩,fun y c e=>?_,I.free,I.freeC,fun p hp=>?_,fun b ob e=>?_,by simpa using I.len⟩
 ·obtain⟨sl,e1⟩:=I.base.slot b o e n hb hx
  exact⟨sl,(hs.2 b (ne b o e)).trans e1⟩
 ·obtain⟨o',e1⟩:=I.base.there b o e hx
  exact⟨o',(hs.2 b (ne b o e)).trans e1⟩
 ·by_cases hj:j=i
  ·subst hj
   rw[List.getElem?_set]at e2
   simp at e2
  ·rw[List.getElem?_set_ne (Ne.symm hj)]at e2
   obtain⟨u,r,q⟩:=hl j y v' e1 e2 e3
   refine⟨u,r,?_⟩
   rcases q with⟨k,z⟩ |⟨k,c,z,w⟩
   ·have hy:y≠x:=fun q=>hj (iP hN e1 (q▸hi))
    exact .inl ⟨k,by simp[hy,z]⟩
   ·exact .inr ⟨k,c,z,w.sameBut hs (I.cne y c z)⟩
 ·obtain⟨w,z⟩:=I.cell y c e
  exact⟨w,z.sameBut hs (I.cne y c e)⟩
 ·obtain⟨e,n,np,nf,d⟩:=I.pin p hp
  exact⟨(hs.2 p.1 np).trans e,n,np,nf,d⟩
 ·refine(I.hok b ob e).stay (fun c w hc q=>(hs.2 c ?_).trans q) (fun _ q=>q) fun _ _ _ q=>q
  rintro rfl
  rcases hc with z | z
  ·rw[<- z,I.free]at e;cases e
  ·rw[I.free]at z;cases z
end
end L2
namespace PR
open PySem PySem.Spec L2
section
variable{X:Cx}{T:Tb}{W:Nat->St->Hp->Prop}{gV:List (Addr×Obj)}{Y:St}{H H':Hp}{s s':Shared}
def oi(I:L2.Inv X gV Y H s)(fl:Fly X.prog X.w X.stack H s (.ref C) H' (.ref x) s')(f0:Heap.FlyingW Bh X.stack x (.ref C) a0 s'.heap)
  (tr:∀b o u,H' b=some u->s'.heap.get? b=some o->Bh.get? b=some o) (ol:∀b o o',s'.heap.get? b=some o->s.heap.get? b=some o'->b∉frs X.stack->Bh.get? b=some o)
  (f6:Heap.FlyingW Bh X.stack x (.ref C) a0 h6) (up:s'.heap.UpToSlots h6) (hg:PyProof.Rows.AllBare g) :
  L2.Inv X gV Y (upd H' x (sG C x)) ⟨h6,g,d,t,s'.os⟩/\H' x=none/\s.heap.get? x=none:=by
 obtain⟨oe,he,hc⟩:=f6.there
 obtain⟨o0,he0,_⟩:=f0.there
 have nx:H' x=none:=by
  cases e:H' x with
  | none=>rfl
  | some u =>
   have:=tr x o0 u e he0
   rw[f0.2.1]at this;cases this
 have ns:s.heap.get? x=none:=by
  cases e:s.heap.get? x with
  | none=>rfl
  | some o' =>
   by_cases hx:x∈frs X.stack
   ·obtain⟨_,o,ho,hd⟩:=f0.2.2.1.mem hx
    obtain⟨o1,vs,h1,_,h2,_⟩:=f0.first
    rw[ho]at h1;cases h1
    exact absurd h2 (hd vs)
   ·have:=ol x o0 o' he0 e hx
    rw[f0.2.1]at this;cases this
 have data:∀b o,s.heap.get? b=some o->b∈frs X.stack->∀vs,o.data≠.fields vs:=fun b o e hb vs z=>by
  obtain⟨_,o',ho',hd'⟩:=I.stack.mem hb
  rw[e]at ho';cases ho'
  exact hd' vs z
 have hok:HOk X.prog X.w (upd H' x (sG C x)) h6:=fun b u e=>by
  by_cases hb:b=x
  ·subst hb
   rw[aJ]at e;cases e
   exact⟨⟨oe,he,hc⟩,⟨oe,he⟩,fun h1 h2 ⟨o,q1,q2⟩ k=>⟨o,k o q1,q2⟩⟩
  ·rw[ax hb]at e
   have nb:∀c u,H' c=some u->c≠x:=fun c u q z=>by rw[z,nx]at q;cases q
   exact(oq fl.hok tr f6.1 b u e).stay (fun _ _ _ q=>q) (fun c q=>by rw[ax (nb c _ q)];exact q) fun c xs _ q=>by rw[ax (nb c _ q)];exact q
 refine⟨I.call' (s':=⟨h6,g,d,t,s'.os⟩) (ch:=[]) fl.os ⟨fun b o e n hf _=>?_,fun b o e n hf _=>?_,fun b o e n _=>?_,fun b o e _=>?_,fun b xs e=>?_,fun b o u e=>?_,fun b ps e=>?_⟩ hok hg (fun _ z=>(nomatch z)),nx,ns⟩
 ·have q:=fl.un.keep b o e n hf (by simp)
  exact f6.1 b o (ol b o o q e hf)
 ·obtain⟨sl,q⟩:=fl.un.slot b o e n hf (by simp)
  obtain⟨sl',q'⟩:=up b _ q (data b o e hf)
  exact⟨sl',q'⟩
 ·rw[ax (show b≠x from fun z=>by rw[z,ns]at e;cases e)]
  exact fl.un.free b o e n (by simp)
 ·by_cases hf:b∈frs X.stack
  ·obtain⟨_,o2,ho2,_⟩:=f6.2.2.1.mem hf
   exact⟨o2,ho2⟩
  ·obtain⟨o1,e1⟩:=fl.un.there b o e (by simp)
   exact⟨o1,f6.1 b o1 (ol b o1 o e1 e hf)⟩
 ·have q:=fl.un.tups b xs e
  rw[ax (fun z=>by rw[z,nx]at q;cases q)];exact q
 ·have q:=fl.un.frzs b o u e
  rw[ax (fun z=>by rw[z,nx]at q;cases q)];exact q
 ·obtain⟨more,q⟩:=fl.un.tbls b ps e
  exact⟨more,by rw[ax (fun z=>by rw[z,nx]at q;cases q)];exact q⟩
end
def mD(n:Nat):Out->Out
 | .next e=>.next (e.set n none)
 | .brk e=>.brk (e.set n none)
 | .cont e=>.cont (e.set n none)
 | .ret v=>.ret v
 | .exc _ _ | .stuck=>.stuck
def qX(mb:MS)(hit:Nat->Bool)(n:Nat)(mh mo:MS):MS:=fun env=>match mb env with
 | .exc c e=>if hit c then mD n (mh (e.set n (some (.exc c))))else .stuck
 | .next e=>mo e
 | o=>o
section
variable{X:Cx}{T:Tb}{W:Nat->St->Hp->Prop}{Z:Zn}{F:Addr->Prop}{H:Hp}{Y:St}{env:En}{fp:Nat->List Addr}
def ap.unset(S:ap T Z F H Y env fp)(h0:n≠0):ap T Z F H (Y.set n none) (env.set n none) fp:=by
 refine⟨S.hp,by rw[List.length_set,List.length_set,S.len],fun i pv e=>?_,S.nd,S.dj,S.dis,S.new,S.ch,fun v hv=>?_⟩
 ·by_cases hi:i=n
  ·subst hi
   rw[List.getElem?_set]at e
   simp at e
  ·rw[List.getElem?_set_ne (Ne.symm hi)]at e ⊢
   exact S.rel i pv e
 ·obtain⟨h1,h2⟩:=S.pn v hv
  refine⟨by rw[List.getElem?_set_ne h0];exact h1,?_⟩
  unfold cE at h2 ⊢
  rw[List.getElem?_set_ne h0];exact h2
def ap.caught(S:ap T Z F H Y env fp)(h0:n≠0)(hx:H x=none) :
  ap T Z F (upd H x (sG (T.xcl c) x)) (Y.set n (some (.ref x))) (env.set n (some (.exc c))) (a5 fp n []) :=
 (S.grow (Gr.same S.hp.ft (Ext.upd hx))).put (by unfold Rel;exact⟨x,rfl,aJ,rfl⟩) List.nodup_nil (fun _ z=>(nomatch z)) (fun _ z=>(nomatch z)) (fun _ z=>(nomatch z)) (by simp[aY,h0])
def vS(cx:Ctx X T W k)
  (hst:X.stack=X.env::X.outer) (hfr:X.env.frame=some X.env.locals) (hN:X.N.Nodup) (hi:X.N[i]?=some n) (hl:X.env.scope.names.lookup n=some .local) (h0:i≠0)
  (hg:Gl X cn) (hm:X.mg cn=some (.ref CC)) (hhit:∀c,hit c=true->PySem.W.exmOne T.K (.ref (T.xcl c)) (.ref CC)=some true)
  (hb:∀E pn Wb,Ctx (X.tryX E pn) T Wb k->SSs (X.tryX E pn) T Wb body mb) (hs:∀e,SSs (X.hanX e) T WF (b₀::suite) mh) (ho:SSs X T W orelse mo) (hd:(cn ==("__debug__" : Str))=false:=by decide) :
  SS X T W (.Try body [.ExceptHandler (some (.Name cn pc)) (some n) (b₀::suite) hp] orelse [] pos) (qX mb hit i mh mo):=by
 intro gV s Y H D I h
 obtain⟨Z,F,env,fp,S,q⟩:=h
 unfold qX at q
 refine wpAny_Try_except ?_
 generalize hEb:(fun (e:Value) (s₁:Shared)=>wpAny (model X.prog X.w) X.A (noteFrame e X.env) (fun _ s₂=>wpAny (model X.prog X.w) X.A (setFlight e none) (fun _ s₃ =>
  wpAny (model X.prog X.w) X.A (handleBy e X.env [.ExceptHandler (some (.Name cn pc)) (some n) (b₀::suite) hp]) (SP X gV D) X.xe s₃) X.xe s₂) X.xe s₁)=Eb
 have po:PassesOwn (model X.prog X.w) X.A X.env Eb:=by rw[<- hEb];exact PassesOwn.looking
 have ctx:Ctx (X.tryX Eb (X.pn++gV)) T (fun c σ' H'=>∃Z F env fp,ap T Z F H' σ' env fp/\hit c=true/\GS T W Z D (mD i (mh (env.set i (some (.exc c)))))) k:=by
  refine⟨cx.hK,cx.calm,cx.room,?_,po⟩
  intro pins' σ1 H1 s1 c H2 e s2 I1 fl hW
  have I1:=I1.untry
  obtain⟨Z,F,env,fp,S,hh,q⟩:=hW
  obtain⟨x,a0,Bh,rfl,f0,tr,ol⟩:=fl.fly
  show Eb (.ref x) s2
  rw[<- hEb]
  have f0':=f0
  rw[show(X.tryX Eb (X.pn++gV)).stack=X.env::X.outer from hst]at f0'
  refine wpAny_looks_onW (hst▸I1.ok.frames) hfr f0' fun h4 held4 up4=>wpAny_landsW held4 fun h5 f5 up5=>?_
  have f5':Heap.FlyingW Bh X.stack x (.ref (T.xcl c)) a0 h5:=by rw[hst];exact f5
  obtain⟨I5,nx,_⟩:=oi (g:=s2.gens) (d:=s2.drawn) (t:=s2.toks) I1 fl f0 tr ol f5' (up4.trans up5) fl.bare
  refine wpAny_handleBy_cons (codeAny_handlers_test ?_) (by intro z;cases z)
  refine e9 (X:=X.hanX (.ref x)) (gV:=gV) (I:=I5.hanX) hg hm ?_ hd
  obtain⟨o5,ho5,hc5⟩:=f5.there
  have lt:PySem.W.Looks (model X.prog X.w) h5 (typeOf (.ref x)) (.ref (T.xcl c)):=hc5 ▸(PySem.W.Looks.ld ho5).andThen .now
  have kin:T.K.In h5:=by rw[<- cx.hK];exact I5.kIn
  refine(PySem.W.exm_one kin lt (hhit c hh)).at ?_
  refine codeAny_handlers_suite_as ?_
  refine PyProof.Rows.lands_againW f5 fun h6 f6 up6=>?_
  have f6':Heap.FlyingW Bh X.stack x (.ref (T.xcl c)) a0 h6:=by rw[hst];exact f6
  obtain⟨I6,_,_⟩:=oi (g:=s2.gens) (d:=s2.drawn) (t:=s2.toks) I1 fl f0 tr ol f6' ((up4.trans up5).trans up6) fl.bare
  refine fS (X:=X.hanX (.ref x)) (I:=I6.hanX) hN hi (.inl hl) (v:=.ref x) rfl (fun s7 I7=>?_) (.inr hl)
  have S7:=S.caught (c:=c) h0 nx
  refine wpAny_mono (hs (.ref x) gV s7 _ _ ⟨fun σ' H'=>D.nx (σ'.set i none) H',D.rt,fun σ' H'=>D.bk (σ'.set i none) H',fun σ' H'=>D.ct (σ'.set i none) H'⟩ I7 ⟨Z,F,_,_,S7,?_⟩) (fun f s8 h8=>?_) fun _ _ z=>z.elim
  ·cases e:mh (env.set i (some (.exc c)))with
   | next e' | brk e' | cont e'=>rw[e]at q;exact fun F' H' σ' fp' S'=>q F' H' _ fp' (S'.unset h0)
   | ret v=>rw[e]at q;exact q
   | exc c' e' | stuck=>rw[e]at q;exact q.elim
  ·cases f with
   | next | brk | cont=>obtain⟨σ',H',I8,q8⟩:=h8;exact io (I8.unhan I.ok) hN hi hl fun s9 I9=>⟨_,H',I9,q8⟩
   | ret u=>obtain⟨v,σ',H',I8,r8,q8⟩:=h8;exact io (I8.unhan I.ok) hN hi hl fun s9 I9=>⟨v,_,H',I9,r8,q8⟩
 have r:=hb Eb (X.pn ++ gV) _ ctx [] s Y H ⟨fun σ' H'=>tS T W mo D σ' H',D.rt,D.bk,D.ct⟩ I.tryX ⟨Z,F,env,fp,S,by
  cases e:mb env with
  | next e'=>rw[e]at q;exact fun F' H' σ' fp' S'=>⟨Z,F',e',fp',S',q⟩
  | brk e' | cont e' | ret v=>rw[e]at q;exact q
  | exc c e' =>
   rw[e]at q
   dsimp only at q
   intro F' H' σ' fp' S'
   by_cases hh:hit c=true
   ·rw[if_pos hh]at q;exact⟨Z,F',e',fp',S',hh,q⟩
   ·rw[if_neg hh]at q;exact q.elim
  | stuck=>rw[e]at q;exact q.elim⟩
 refine wpAny_mono r (fun f s1 h1=>?_) fun e s1 h1=>?_
 ·cases f with
  | next=>obtain⟨σ',H',I1,q1⟩:=h1;exact ho gV s1 σ' H' D I1.untry q1
  | brk | cont=>obtain⟨σ',H',I1,q1⟩:=h1;exact⟨σ',H',I1.untry,q1⟩
  | ret u=>obtain⟨v,σ',H',I1,r1,q1⟩:=h1;exact⟨v,σ',H',I1.untry,r1,q1⟩
 ·exact h1
end
def bG(tab:Nat->Bool):PV->Res PV
 | .exc c=>.ok (.bl (tab c))
 | _=>.stuck
section
variable{X:Cx}{T:Tb}{W:Nat->St->Hp->Prop}
def nT(hK:X.K=T.K)(hx:∀c,jC T.K (T.xcl c))(ht:∀c,PySem.W.kitOne T.K (.ref (T.xcl c)) uc=some (tab c))
  (hg:Gl X "isinstance") (hm:X.mg "isinstance" = none) (hb:bootBuiltins "isinstance" = some (.builtin "isinstance")) (hv:PE X (.Name cn pc) (tC vc)) (hu:∀u,aT vc u->u=uc) (he:SE X T W e m)
  (hst:starEach [e,.Name cn pc] X.env=[(false,eval e X.env),(false,eval (.Name cn pc) X.env)]:=by rfl)
  (hst2:starEach [.Name cn pc] X.env=[(false,eval (.Name cn pc) X.env)]:=by rfl):SE X T W (.Call (.Name "isinstance" p) [e,.Name cn pc] [] pos) (mUn (bG tab) m):=by
 have hcall:dz X (.builtin "isinstance") (fun vs H Q=>∃a c,vs=[.ref a,vc]/\H a=some (sG (T.xcl c) a)/\Q (.bl (tab c)) H):=by
  intro gV s Y H vs us Q I rv h
  obtain⟨a,c,rfl,ha,q⟩:=h
  cases rv with
  | cons r1 r2 =>
   cases r2 with
   | cons r3 r4 =>
    cases r4
    cases r1
    rw[hu _ r3]
    have kin:T.K.In s.heap:=by rw[<- hK];exact I.kIn
    obtain⟨hφ,_,_⟩:=I.hok a _ ha
    exact PySem.W.kia_one (q_ (hx c)) kin hφ (ht c) (fun z=>nomatch z) fun tk=>⟨.bl _,H,I.tok tk,rfl,q⟩
 have hargs:PA X [e,.Name cn pc] (pY (tE T W m) (pY (tC vc) yW)):=dD he (dD hv iJ hst2) (by rw[hst,hst2])
 refine PE.wk (iI (pos:=pos) (p:=p) hcall hg hm hb hargs (he:=by rw[hst,hst2]) (hpl:=by rw[hst2];rfl)) fun Y H Q ⟨Z,F,env,fp,S,q⟩=>?_
 unfold mUn at q
 refine tE.bind S (fun c e=>by rw[e]at q;exact q) (fun e=>by rw[e]at q;exact q) fun x v H1 F1 f1 e1 g1 r1 n1 d1 w1=>?_
 rw[e1]at q
 cases x with
 | exc c =>
  unfold Rel at r1
  obtain⟨a,rfl,ha,_⟩:=r1
  exact⟨a,c,rfl,ha,q.scal g1 gE⟩
 | _=>exact q.elim
def eh(hK:X.K=T.K)(hx:∀c,jC T.K (T.xcl c))(ht:∀c,PySem.W.kitOne T.K (.ref (T.xcl c)) (.ref D)=some (tab c))
  (hg:Gl X "isinstance") (hm:X.mg "isinstance" = none) (hb:bootBuiltins "isinstance" = some (.builtin "isinstance")) (hgc:Gl X cn) (hmc:X.mg cn=some (.ref D)) (he:SE X T W e m) (hcd:(cn ==("__debug__" : Str))=false:=by decide)
  (hst:starEach [e,.Name cn pc] X.env=[(false,eval e X.env),(false,eval (.Name cn pc) X.env)]:=by rfl)
  (hst2:starEach [.Name cn pc] X.env=[(false,eval (.Name cn pc) X.env)]:=by rfl):SE X T W (.Call (.Name "isinstance" p) [e,.Name cn pc] [] pos) (mUn (bG tab) m) :=
 nT hK hx ht hg hm hb (n0 (v:=.ref D) hgc hmc rfl hcd) (fun _ h=>h) he hst hst2
def s_(hK:X.K=T.K)(hx:∀c,jC T.K (T.xcl c))(ht:∀i,PySem.W.kitOne T.K (.ref (T.xcl i)) (.type c)=some (tab i))
  (hg:Gl X "isinstance") (hm:X.mg "isinstance" = none) (hb:bootBuiltins "isinstance" = some (.builtin "isinstance")) (hgc:Gl X cn) (hmc:X.mg cn=none) (hvc:bootBuiltins cn=some (.type c)) (he:SE X T W e m)
  (hcn:cn≠"__name__" := by decide) (hcd:(cn ==("__debug__" : Str))=false:=by decide)
  (hst:starEach [e,.Name cn pc] X.env=[(false,eval e X.env),(false,eval (.Name cn pc) X.env)]:=by rfl)
  (hst2:starEach [.Name cn pc] X.env=[(false,eval (.Name cn pc) X.env)]:=by rfl):SE X T W (.Call (.Name "isinstance" p) [e,.Name cn pc] [] pos) (mUn (bG tab) m) :=
 nT hK hx ht hg hm hb (t5 (v:=.ty c) hgc hmc hvc rfl hcn hcd) (fun _ h=>h) he hst hst2
end
def dQ(F B L:Addr->Prop)(H:Hp):RelL T F B L H [] [] []:=by unfold RelL;exact⟨rfl,rfl⟩
def dM(disp:Nat->Option (List PV->Res PV))(o:ME)(ms:MA):ME:=fun env=>(o env).bind fun ov=>match ov with
 | .obj _ c _ _=>match disp c with
  | some m=>(ms env).bind fun xs=>aA m (ov::xs)
  | none=>.stuck
 | _=>.stuck
def ut(disp:Nat->Option (List PV->Res PV))(o:ME)(ms:MA):oh disp [] o ms=dM disp o ms:=by
 funext env
 unfold oh dM
 congr 1
 funext ov
 cases ov with
 | obj f c ks vs=>simp only[List.append_nil,List.cons_append]<;>rfl
 | _=>rfl
def kI(c:Nat)(m:List PV->Res PV)(ms:MA):ME:=ao (fun xs=>aA m (.obj .own c [] []::xs)) ms
section
variable{X:Cx}{T:Tb}{W:Nat->St->Hp->Prop}
def qf
  (G:bX X.prog X.w X.K X.mg X.base (CXP X.prog X.w) k f fd ps (spM T ps.length m)) (cx:Ctx X T W kk) (hk:k<=kk) (hg:Gl X x) (hm:X.mg x=some (.ref f)) (hkp:PySem.W.keepIn X.K (.ref f)=true) (hb:dA X.K fd ps [])
  (hn:eD ms n) (hps:n=ps.length) (ha:SA X T W (e::es) ms)
  (hdb:(x ==("__debug__" : Str))=false:=by decide) (he:starEach (e::es) X.env=(false,eval e X.env)::starEach es X.env:=by rfl) (hpl:(backTo pos (starEach es X.env)).any (·.1)=false:=by rfl) :
  SE X T W (.Call (.Name x p) (e::es) [] pos) (ao (aA m) ms):=by
 have h:=tm (dvs:=[]) (dps:=[]) (p:=p) (pos:=pos) G (cx.room.mono hk) hg hm hkp hb .nil dQ cx.xf (fun env xs q=>by rw[hn env xs q];exact hps) ha hdb he hpl
 simpa using h
def v5
  (cx:Ctx X T W kk) (hc:∀c < T.nc,Cls T.K (T.cls c)) (hm:∀k,T.att k≠mn) (D:jD X T k mn ps [] disp) (hk:k<=kk)
  (hn:eD ms n) (hps:n+1=ps.length) (ho:SE X T W o mo) (ha:SA X T W (e::es) ms)
  (hst:starEach (e::es) X.env=(false,eval e X.env)::starEach es X.env:=by rfl) (hpl:(backTo pos (starEach es X.env)).any (·.1)=false:=by rfl)
  (ht:eval (.Call (.Attribute o mn apos) (e::es) [] pos) X.env=(do
   let ov <- eval o X.env
   standAt apos.atName
   let(f,first) <- holding [ov] (getMethod ov mn pl)
   callWith pos f first (backTo pos (starEach (e::es) X.env)) (backToKw pos (keywordEach [] X.env))):=by rfl) :
  SE X T W (.Call (.Attribute o mn apos) (e::es) [] pos) (dM disp mo ms):=by
 rw[<- ut]
 exact sY (pl:=pl) (dvs:=[]) (dps:=[]) cx.hK hc hm D (cx.room.mono hk) .nil dQ cx.xf (fun env xs q=>by rw[hn env xs q];exact hps) ho ha hst hpl ht
def v4
  (M:Mk X.K (T.cls c) f) (hcn:c < T.nc) (G:bX X.prog X.w X.K X.mg X.base (CXP X.prog X.w) k f fd ps (spI T ps.length m)) (cx:Ctx X T W kk) (hk:k+1<=kk) (hg:Gl X x) (hm:X.mg x=some (.ref (T.cls c))) (hb:dA X.K fd ps [])
  (hn:eD ms n) (hps:n+1=ps.length) (ha:SA X T W (e::es) ms)
  (hdb:(x ==("__debug__" : Str))=false:=by decide) (he:starEach (e::es) X.env=(false,eval e X.env)::starEach es X.env:=by rfl) (hpl:(backTo pos (starEach es X.env)).any (·.1)=false:=by rfl) :
  SE X T W (.Call (.Name x p) (e::es) [] pos) (kI c m ms):=by
 have h:=sZ (dvs:=[]) (dps:=[]) (p:=p) (pos:=pos) M hcn G (cx.room.mono hk) hg hm hb .nil dQ cx.xf hn hps ha hdb he hpl
 unfold kI
 simpa using h
end
def uO(X:K.In h)(q:PySem.W.excIn K C [.type "ValueError", .type "Exception", .type "BaseException", .type "object"] "ValueError.__new__" = true) :
  ∃bm N nm q bs hdct sn sub ab col dd k0 k1 k2 k3 k5 mN,h.get? C=some (excClassObj nm q C N bs bm hdct sn sub ab col dd k0 k1 k2 k3 k5 "ValueError.__new__")/\h.Ns N mN/\mN "__init__" = none /\
   OwnTail h [.type "ValueError", .type "Exception", .type "BaseException", .type "object"] bm:=by
 unfold PySem.W.excIn at q
 split at q
 ·rename_i dd cd sl ho
  split at q
  ·rename_i C' bm k0 k1 k2 k3 n k5 hm hs
   simp only[Bool.and_eq_true,beq_iff_eq,Bool.not_eq_true']at q
   obtain⟨⟨⟨⟨⟨rfl,rfl⟩,hdel⟩,ht⟩,hok⟩,hni⟩:=q
   cases cd
   cases sl
   dsimp only at hm hdel hok hni hs
   subst hm hdel hs
   exact⟨bm,_,_,_,_,_,_,_,_,_,dd,k0,k1,k2,k3,k5,_,X _ _ ho,.of_isNs (PySem.W.isNs_of_in X hok),PySem.W.nsMap_none_of_in X hok hni,PySem.W.tail_of_in X ht⟩
  ·cases q
 ·cases q
def aN(c:Nat)(ms:MA):MS:=fun env=>match ms env with
 | .ok _=>.exc c env
 | .exc k=>.exc k env
 | .stuck=>.stuck
def oQ(cx:Ctx X T W k)(hm:X.mg x=some (.ref (T.xcl c)))(hB:T.K.In X.base)
  (hE:PySem.W.excIn T.K (T.xcl c) [.type "ValueError", .type "Exception", .type "BaseException", .type "object"] "ValueError.__new__" = true) (hx:XM X T W) (hg:Gl X x) (hn:eD ms n) (hn2:n<=100) (ha:SA X T W (e::es) ms)
  (hd:(x ==("__debug__" : Str))=false:=by decide)
  (he:starEach (e::es) X.env=(false,eval e X.env)::starEach es X.env:=by rfl) (hpl:(backTo cpos (starEach es X.env)).any (·.1)=false:=by rfl) :
  SS X T W (.Raise (some (.Call (.Name x np) (e::es) [] cpos)) none pos) (aN c ms) :=
 p5 (np:=np) (cpos:=cpos) (pos:=pos) ⟨hm,uO hB hE⟩ hx cx.calm hg ha (fun env pvs q=>by rw[hn env pvs q];exact hn2) hd he hpl
structure Scr(fl:Fl):Prop where
 is:fl=.frz\/fl=.mod
def Scr.lend(h:Scr fl):fl.lend=fl:=by rcases h.is with rfl | rfl<;>rfl
def Scr.toBor(h:Scr fl):fl.toBor=fl:=by rcases h.is with rfl | rfl<;>rfl
def gD:∀ns:List Int,RelL T F B L H (ns.map PV.int) (ns.map V.int) []
 | []=>dQ _ _ _ _
 | n::ns=>by
  rw[List.map_cons,List.map_cons]
  unfold RelL
  exact⟨_,_,[],[],rfl,el,gD ns,rfl⟩
def p8(K:PySem.W.Frag)(tb:Addr->Option (Array Value):=fun _=>none):Sp:=fun vs H Q _=>(∀b ps,tb b=some ps->H b=some (.tbl ps))/\∃(a:Addr) (ns:List Int),vs=[.ref a]/\SqL K H a (ns.map V.int)/\ns.length<=63/\∀v H',v=.bl true->Q v H'
def wY(G:bX P w T.K mg base (CXP P w) k f fd [x] (spM T 1 m))
  (h:∀(fl:Fl) (ns:List Int),Scr fl->ns.length<=63->m [.lst fl (ns.map .int)]=.ok (.bl true)):bX P w T.K mg base (CXP P w) k f fd [x] (p8 T.K T.tb):=by
 refine G.imp fun vs H Q E q=>?_
 obtain⟨hT,a,ns,rfl,hS,hl,hQ⟩:=q
 have hTb:ve T H (· ∈([]:List Addr)):=fun b ps h=>⟨hT b ps h,fun z=>nomatch z⟩
 have fin:∀fl,Scr fl->∀Z:Zn,GF T Z Q E (m [.lst fl (ns.map .int)]):=fun fl hf Z=>by
  rw[h fl ns hf hl]
  intro F H' v f' _ r _ _ _
  unfold Rel at r
  exact hQ v H' r.1
 refine⟨rfl,?_⟩
 rcases hS with hS | hS
 ·refine⟨[.lst .frz (ns.map .int)],(·=a),fun _=>False,[],⟨?_,List.nodup_nil,fun _ z=>(nomatch z),⟨fun _ z=>False.elim z,hTb⟩,fun b hb=>?_⟩,fin _ ⟨.inl rfl⟩ _⟩
  ·unfold RelL
   refine⟨_,_,[],[],rfl,?_,dQ _ _ _ _,rfl⟩
   unfold Rel
   exact⟨a,_,[],rfl,⟨rfl,hS⟩,gD ns,rfl,rfl⟩
  ·subst hb
   rcases hS with e |⟨o,e⟩
   ·exact⟨_,e⟩
   ·exact⟨_,e⟩
 ·refine⟨[.lst .mod (ns.map .int)],fun _=>False,fun _=>False,[],⟨?_,List.nodup_nil,fun _ z=>(nomatch z),⟨fun _ z=>False.elim z,hTb⟩,fun _ z=>z.elim⟩,fin _ ⟨.inr rfl⟩ _⟩
  unfold RelL
  refine⟨_,_,[],[],rfl,?_,dQ _ _ _ _,rfl⟩
  unfold Rel
  exact⟨a,_,[],rfl,hS,gD ns,rfl,rfl⟩
def ba:bootBuiltins "isinstance" = some (.builtin "isinstance"):=by decide +kernel
def cT:bootBuiltins "list" = some (.type "list"):=by decide +kernel
def gz:bootBuiltins "tuple" = some (.type "tuple"):=by decide +kernel
def jA:bootBuiltins "ValueError" = some (.type "ValueError"):=by decide +kernel
def pJ(K:PySem.W.Frag)(C:Addr):Bool :=
 decide (PySem.W.findIn K (.ref C) "__getattribute__" = some (some (.builtin "BaseException.__getattribute__")))&&decide (PySem.W.findIn K (.ref C) "__getattr__" = some none) &&
 decide (PySem.W.findIn K (.ref C) "__class__" = some (some (.builtin "object.__class__")))&&decide (PySem.W.mroIn K C (.type "BaseException")=some true)&&decide (PySem.W.mroIn K C (.type "object")=some true)&&(PySem.W.clsIn K C).isSome &&
 PySem.W.excIn K C [.type "ValueError", .type "Exception", .type "BaseException", .type "object"] "ValueError.__new__"
def oy(h:pJ K C=true):jC K C/\PySem.W.excIn K C [.type "ValueError", .type "Exception", .type "BaseException", .type "object"] "ValueError.__new__" = true:=by
 simp only[pJ,Bool.and_eq_true,decide_eq_true_eq]at h
 obtain⟨⟨⟨⟨⟨⟨h1,h2⟩,h3⟩,h4⟩,h5⟩,h6⟩,h7⟩:=h
 exact⟨⟨h1,h2,h3,h4,h5,h6⟩,h7⟩
def tZ(l:List Addr)(i:Nat):Addr:=l.getD i (l.headD 0)
def cJ(l:List Bool)(i:Nat):Bool:=l.getD i (l.headD false)
def qt{α:Type}{f:Addr->Option α}{g:α->Bool}{l:List Addr}{bs:List Bool}{r:Bool->Option α}(hl:l≠[])(h:l.map f=bs.map r)(i:Nat):f (tZ l i)=r (cJ bs i):=by
 have hlen:l.length=bs.length:=by simpa using congrArg List.length h
 unfold tZ cJ
 rw[List.getD_eq_getElem?_getD,List.getD_eq_getElem?_getD]
 have key:∀j,(l[j]?).map f=(bs[j]?).map r:=fun j=>by rw[<- List.getElem?_map,<- List.getElem?_map,h]
 cases e:l[i]? with
 | some C =>
  have:=key i
  rw[e]at this
  cases e2:bs[i]? with
  | some b=>rw[e2]at this;simpa using this
  | none=>rw[e2]at this;simp at this
 | none =>
  have hb:bs[i]?=none:=by
   rw[List.getElem?_eq_none_iff]at e ⊢
   omega
  rw[hb]
  cases l with
  | nil=>exact absurd rfl hl
  | cons a l =>
   cases bs with
   | nil=>simp at hlen
   | cons b bs=>simpa using key 0
def bB:List PV->Option (List Int)
 | []=>some []
 | .int i::xs=>(bB xs).map (i::·)
 | _::_=>none
def ie(ns:List Int):Nat:=(PyProof.Rows.firstMet (fun i=>ns.getD i 0) ns.length).length
def e6:PV->Res PV
 | .lst _ xs=>match bB xs with
  | some ns=>if decide (ns.length<=1000)then .ok (.int (ie ns))else .stuck
  | none=>.stuck
 | _=>.stuck
section
variable{X:Cx}{T:Tb}{W:Nat->St->Hp->Prop}{Z:Zn}{F F1 B L:Addr->Prop}{H H1:Hp}{Y:St}{env:En}{fp:Nat->List Addr}
def eB:∀{xs:List PV}{vs:List V}{f:List Addr}{ns:List Int},bB xs=some ns->RelL T F B L H xs vs f->vs=ns.map V.int
 | [],_,_,_,e,r=>by cases e;unfold RelL at r;exact r.1
 | .int i::xs,_,_,ns,e,r=>by
  unfold RelL at r
  obtain⟨v,ws,f1,f2,rfl,h1,h2,rfl⟩:=r
  simp only[bB]at e
  cases e2:bB xs with
  | none=>rw[e2]at e;cases e
  | some ms =>
   rw[e2]at e
   cases e
   unfold Rel at h1
   rw[h1.1,eB e2 h2]
   rfl
 | .non::_,_,_,_,e,_ | .bl _::_,_,_,_,e,_ | .str _::_,_,_,_,e,_ | .lst _ _::_,_,_,_,e,_ | .tup _::_,_,_,_,e,_ | .obj _ _ _ _::_,_,_,_,e,_ | .exc _::_,_,_,_,e,_ | .box _ _::_,_,_,_,e,_=>by simp[bB]at e
def d5:∀{ns:List Int}{its:List Value},aB (ns.map V.int) its->PyProof.Rows.IntsAre its ns
 | [],_,r=>by cases r;exact .nil
 | n::ns,_,r=>by
  cases r with
  | cons h t =>
   obtain⟨tk,rfl⟩:=h
   exact .cons _ _ (d5 t)
def jy(hc:X.calm=true):dz X (.type "set") (fun xs H Q=>∃p ns,xs=[.ref p]/\SqL X.K H p (ns.map V.int)/\ns.length<=1000/\∀r S,H r=none->Q (.ref r) (upd H r (.set S (ie ns)))):=by
 intro gV s Y H xs us Q I rv h
 obtain⟨p,ns,rfl,hS,hl,q⟩:=h
 obtain⟨u,rfl,rx⟩:=eK rv
 cases rx
 obtain⟨its,r',pl,hz⟩:=I.list hS
 have hlen:=r'.length
 rw[List.length_map]at hlen
 refine call_set_list (I.ok.hd hc) pl.isList (ns:=ns) (by simpa using d5 r') (by simp only[List.size_toArray,<- hlen];unfold scanBound;omega) fun h' tk hs kp=>?_
 have e:its.toArray.size=ns.length:=by simp[hlen]
 rw[e]at hs
 exact⟨.ref s.heap.objs.size,_,I.laid (t':=tk) (o:=.set (fun k'=>(PyProof.Rows.firstMet (fun i=>ns.getD i 0) ns.length).any (·==k')) (ie ns)) (fun b o e=>kp b o (Heap.lt_size e) e) (Nat.le_refl _) hs,rfl,q _ _ (I.hok.fresh (Nat.le_refl _))⟩
def jz:dz X (.builtin "len") (fun xs H Q=>∃r S n,xs=[.ref r]/\H r=some (.set S n)/\Q (.int n) H):=by
 intro gV s Y H xs us Q I rv h
 obtain⟨r,S,n,rfl,hr,q⟩:=h
 obtain⟨u,rfl,rx⟩:=eK rv
 cases rx
 obtain⟨o,es,ep,t,ho,hex,hd,_,_,hb,hf,hn⟩:=I.hok r _ hr
 have hb':es.size < 4096:=hb
 exact call_len_set ho hex hd hf (by omega) ⟨.int n,H,I.tok _,⟨s.toks+1,by rw[hn]⟩,q⟩
def xM:bootBuiltins "set" = some (.type "set"):=by decide +kernel
def oU(hK:X.K=T.K)(hc:X.calm=true)(hg:Gl X "len")(hm:X.mg "len" = none)(hg2:Gl X "set")(hm2:X.mg "set" = none)(he:SE X T W e m)
  (hs:starEach [e] X.env=[(false,eval e X.env)]:=by rfl)
  (hs2:starEach [.Call (.Name "set" p2) [e] [] pos2] X.env=[(false,eval (.Call (.Name "set" p2) [e] [] pos2) X.env)]:=by rfl) :
  SE X T W (.Call (.Name "len" p) [.Call (.Name "set" p2) [e] [] pos2] [] pos) (mUn e6 m):=by
 refine PE.wk (iI (p:=p) (pos:=pos) jz hg hm boot_len (dD (jR (p:=p2) (pos:=pos2) (jy hc) hg2 hm2 xM (dD he iJ (by rw[hs];rfl)) (he:=by rw[hs];rfl) (hpl:=rfl)) iJ (by rw[hs2];rfl)) (he:=by rw[hs2];rfl) (hpl:=rfl)) fun Y H Q ⟨Z,F,env,fp,S,q⟩=>?_
 unfold mUn at q
 refine tE.bind S (fun c e=>by rw[e]at q;exact q) (fun e=>by rw[e]at q;exact q) fun x v H1 F1 f1 e1 g1 r1 n1 d1 w1=>?_
 rw[e1]at q
 cases x with
 | lst fl xs =>
  simp only[Res.ok_bind,e6]at q
  cases en:bB xs with
  | none=>rw[en]at q;exact q.elim
  | some ns =>
   rw[en]at q
   dsimp only at q
   unfold Rel at r1
   obtain⟨a,vs,fp',rfl,hl,hr,_⟩:=r1
   by_cases hn:decide (ns.length<=1000)=true
   ·rw[if_pos hn]at q
    have hv:=eB en hr
    subst hv
    exact⟨a,ns,rfl,by rw[hK];exact hl.sq,of_decide_eq_true hn,fun r S hr=>⟨r,S,_,rfl,aJ,q.scal (g1.trans (Gr.same g1.dom (Ext.upd hr))) el⟩⟩
   ·rw[if_neg hn]at q;exact q.elim
 | _=>exact q.elim
end
def fk:List Int->Int
 | []=>0
 | [a]=>a
 | a::b::l=>min a (fk (b::l))
def gh:List Int->Int
 | []=>0
 | [a]=>a
 | a::b::l=>max a (gh (b::l))
def iR:∀{l:List Int},l≠[]->fk l∈l/\∀x∈l,fk l<=x
 | [],h=>absurd rfl h
 | [a],_=>by simp[fk]
 | a::b::l,_=>by
  obtain⟨h1,h2⟩:=iR (l:=b::l) (by simp)
  unfold fk
  grind
def iS:∀{l:List Int},l≠[]->gh l∈l/\∀x∈l,x<=gh l
 | [],h=>absurd rfl h
 | [a],_=>by simp[gh]
 | a::b::l,_=>by
  obtain⟨h1,h2⟩:=iS (l:=b::l) (by simp)
  unfold gh
  refine⟨?_,fun x hx=>?_⟩
  ·rcases Int.le_total a (gh (b::l))with h | h
   ·rw[Int.max_eq_right h];exact List.mem_cons_of_mem _ h1
   ·rw[Int.max_eq_left h];exact List.mem_cons_self
  ·rcases List.mem_cons.mp hx with rfl | hx
   ·exact Int.le_max_left _ _
   ·exact Int.le_trans (h2 x hx) (Int.le_max_right _ _)
section
variable{X:Cx}{T:Tb}{W:Nat->St->Hp->Prop}{Z:Zn}{F F1 B L:Addr->Prop}{H H1:Hp}{Y:St}{env:En}{fp:Nat->List Addr}{gV:List (Addr×Obj)}{s:Shared}
def i5{h':Heap}{t:Nat}(I:L2.Inv X gV Y H s)(k:∀b o,s.heap.get? b=some o->h'.get? b=some o):L2.Inv X gV Y H { s with heap:=h',toks:=t }:=I.un (Un.kept k) (I.hok.kept k)
def fe{its:List Value}{ns:List Int}(r:aB (ns.map V.int) its):∀(i:Nat) (v:Value),its.toArray[i]?=some v->∃t,v=.int (ns.getD i 0) t:=by
 intro i v e
 have e':its[i]?=some v:=by simpa using e
 have hi:i < ns.length:=by
  have h1:=(List.getElem?_eq_some_iff.mp e').1
  have h2:=r.length
  rw[List.length_map]at h2
  omega
 have:∀{ns:List Int}{its:List Value}{i:Nat}{v:Value},aB (ns.map V.int) its->its[i]?=some v->∃t,v=.int (ns.getD i 0) t:=by
  intro ns
  induction ns with
  | nil=>intro its i v r e;cases r;simp at e
  | cons n ns ih =>
   intro its i v r e
   cases r with
   | cons h t =>
    obtain⟨tk,rfl⟩:=h
    cases i with
    | zero=>simp at e;exact⟨tk,by rw[<- e];rfl⟩
    | succ i =>
     obtain⟨tk',h'⟩:=ih t (by simpa using e)
     exact⟨tk',by rw[h'];rfl⟩
 exact this r e'
def sf{ns:List Int}(h:0 < ns.length):ns.getD (argBest (fun i j=>decide (ns.getD i 0 < ns.getD j 0)) (ns.length - 1)) 0=fk ns:=by
 obtain⟨h1,h2⟩:=argBest_lt (fun i=>ns.getD i 0) (ns.length - 1)
 obtain⟨m1,m2⟩:=iR (l:=ns) (by intro z;simp[z]at h)
 refine Int.le_antisymm ?_ (m2 _ ?_)
 ·obtain⟨i,hi,e⟩:=List.getElem_of_mem m1
  have:=h2 i (by omega)
  grind
 ·rw[List.getD_eq_getElem?_getD,List.getElem?_eq_getElem (by omega)]
  exact List.getElem_mem _
def sg{ns:List Int}(h:0 < ns.length):ns.getD (argBest (fun i j=>decide (ns.getD i 0 > ns.getD j 0)) (ns.length - 1)) 0=gh ns:=by
 obtain⟨h1,h2⟩:=argBest_gt (fun i=>ns.getD i 0) (ns.length - 1)
 obtain⟨m1,m2⟩:=iS (l:=ns) (by intro z;simp[z]at h)
 refine Int.le_antisymm (m2 _ ?_) ?_
 ·rw[List.getD_eq_getElem?_getD,List.getElem?_eq_getElem (by omega)]
  exact List.getElem_mem _
 ·obtain⟨i,hi,e⟩:=List.getElem_of_mem m1
  have:=h2 i (by omega)
  grind
def kh{n:Nat}{l I:Addr}(hl:l < n)(e:I=n):∀b∈[I,l],b < n+1:=(by grind)
def eS{h h':Heap}{o:Obj}(hk:∀b u,b∉[h.objs.size]->(h.push o).get? b=some u->h'.get? b=some u):∀b u,h.get? b=some u->h'.get? b=some u:=fun b u e =>
 hk b u (fun hm=>by
  rcases List.mem_cons.mp hm with z | z
  ·exact absurd (z▸Heap.lt_size e) (Nat.lt_irrefl _)
  ·cases z) (Heap.get?_push_of_some _ e)
def kX(hc:X.calm=true):dz X (.builtin "min") (fun xs H Q=>∃p ns,xs=[.ref p]/\(SqL X.K H p (ns.map V.int)\/ SqT X.K H p (ns.map V.int))/\0 < ns.length/\Q (.int (fk ns)) H):=by
 intro gV s Y H xs us Q I rv h
 obtain⟨p,ns,rfl,hq,hn,q⟩:=h
 obtain⟨u,rfl,rx⟩:=eK rv
 cases rx
 have hh:=I.ok.hd hc
 have key:∀{its:List Value},aB (ns.map V.int) its->∀{v:Value}{h':Heap}{tk:Nat},its.toArray[argBest (fun i j=>decide (ns.getD i 0 < ns.getD j 0)) (its.toArray.size - 1)]?=some v->(∀b o,s.heap.get? b=some o->h'.get? b=some o)->EP X gV Y Q v { s with heap:=h',toks:=tk }:=by
  intro its r v h' tk hv k
  have hl:its.toArray.size=ns.length:=by
   have:=r.length
   simpa using this.symm
  rw[hl]at hv
  obtain⟨t,rfl⟩:=fe r _ _ hv
  rw[sf hn]
  exact⟨.int _,H,i5 I k,⟨t,rfl⟩,q⟩
 rcases hq with hq | hq
 ·obtain⟨its,r,pl,hz⟩:=I.list hq
  have hl:its.toArray.size=ns.length:=by
   have:=r.length
   simpa using this.symm
  obtain⟨o,ho,hcl,n,hd⟩:=pl.isList
  have hlt:=Heap.lt_size ho
  refine call_min_walk (wpAny_pyIter_list pl.isList ?_)
  refine⟨_,_,_,_,_,_,_,rfl,Walks.list (A:=X.A.in1) hh _ p (Nat.ne_of_lt hlt) its.toArray,⟨⟨_,Heap.get?_push_size _ rfl,rfl,rfl⟩,pl.isList.push _⟩,fun b hb=>?_,by omega,CmpOf.ints_lt (fun i=>ns.getD i 0) (fe r),fun v h' tk hP hk=>key r hP (eS hk)⟩
  show b <(s.heap.push _).objs.size
  rw[Heap.size_push]
  exact kh hlt rfl b hb
 ·obtain⟨its,r,pl,hz⟩:=I.tuple hq
  have hl:its.toArray.size=ns.length:=by
   have:=r.length
   simpa using this.symm
  have pt:s.heap.IsTuple p its.toArray:=pl
  obtain⟨o,ho,hcl,n,hd⟩:=pl
  have hlt:=Heap.lt_size ho
  refine call_min_walk (wpAny_pyIter_tuple pt ?_)
  refine⟨_,_,_,_,_,_,_,rfl,Walks.tuple (A:=X.A.in1) hh _ p (Nat.ne_of_lt hlt) its.toArray,⟨⟨_,Heap.get?_push_size _ rfl,rfl,rfl⟩,pt.push _⟩,fun b hb=>?_,by omega,CmpOf.ints_lt (fun i=>ns.getD i 0) (fe r),fun v h' tk hP hk=>key r hP (eS hk)⟩
  show b <(s.heap.push _).objs.size
  rw[Heap.size_push]
  exact kh hlt rfl b hb
def kY(hc:X.calm=true):dz X (.builtin "max") (fun xs H Q=>∃p ns,xs=[.ref p]/\(SqL X.K H p (ns.map V.int)\/ SqT X.K H p (ns.map V.int))/\0 < ns.length/\Q (.int (gh ns)) H):=by
 intro gV s Y H xs us Q I rv h
 obtain⟨p,ns,rfl,hq,hn,q⟩:=h
 obtain⟨u,rfl,rx⟩:=eK rv
 cases rx
 have hh:=I.ok.hd hc
 have key:∀{its:List Value},aB (ns.map V.int) its->∀{v:Value}{h':Heap}{tk:Nat},its.toArray[argBest (fun i j=>decide (ns.getD i 0 > ns.getD j 0)) (its.toArray.size - 1)]?=some v->(∀b o,s.heap.get? b=some o->h'.get? b=some o)->EP X gV Y Q v { s with heap:=h',toks:=tk }:=by
  intro its r v h' tk hv k
  have hl:its.toArray.size=ns.length:=by
   have:=r.length
   simpa using this.symm
  rw[hl]at hv
  obtain⟨t,rfl⟩:=fe r _ _ hv
  rw[sg hn]
  exact⟨.int _,H,i5 I k,⟨t,rfl⟩,q⟩
 rcases hq with hq | hq
 ·obtain⟨its,r,pl,hz⟩:=I.list hq
  have hl:its.toArray.size=ns.length:=by
   have:=r.length
   simpa using this.symm
  obtain⟨o,ho,hcl,n,hd⟩:=pl.isList
  have hlt:=Heap.lt_size ho
  refine call_max_walk (wpAny_pyIter_list pl.isList ?_)
  refine⟨_,_,_,_,_,_,_,rfl,Walks.list (A:=X.A.in1) hh _ p (Nat.ne_of_lt hlt) its.toArray,⟨⟨_,Heap.get?_push_size _ rfl,rfl,rfl⟩,pl.isList.push _⟩,fun b hb=>?_,by omega,CmpOf.ints_gt (fun i=>ns.getD i 0) (fe r),fun v h' tk hP hk=>key r hP (eS hk)⟩
  show b <(s.heap.push _).objs.size
  rw[Heap.size_push]
  exact kh hlt rfl b hb
 ·obtain⟨its,r,pl,hz⟩:=I.tuple hq
  have hl:its.toArray.size=ns.length:=by
   have:=r.length
   simpa using this.symm
  have pt:s.heap.IsTuple p its.toArray:=pl
  obtain⟨o,ho,hcl,n,hd⟩:=pl
  have hlt:=Heap.lt_size ho
  refine call_max_walk (wpAny_pyIter_tuple pt ?_)
  refine⟨_,_,_,_,_,_,_,rfl,Walks.tuple (A:=X.A.in1) hh _ p (Nat.ne_of_lt hlt) its.toArray,⟨⟨_,Heap.get?_push_size _ rfl,rfl,rfl⟩,pt.push _⟩,fun b hb=>?_,by omega,CmpOf.ints_gt (fun i=>ns.getD i 0) (fe r),fun v h' tk hP hk=>key r hP (eS hk)⟩
  show b <(s.heap.push _).objs.size
  rw[Heap.size_push]
  exact kh hlt rfl b hb
def dS(g:List Int->Int):PV->Res PV:=fun x=>match aQ x with
 | some xs=>match bB xs with
  | some ns=>if ns.isEmpty then .stuck else .ok (.int (g ns))
  | none=>.stuck
 | none=>.stuck
def lG(hK:X.K=T.K):Mir T W (p1 (dS g)) (fun xs H Q=>∃p ns,xs=[.ref p]/\(SqL X.K H p (ns.map V.int)\/ SqT X.K H p (ns.map V.int))/\0 < ns.length/\Q (.int (g ns)) H):=by
 intro B F L Y H Q F' H' xs vs fx gr r nf nd new q
 match xs,r,q with
 | [x],r,q =>
  obtain⟨v,rfl,rv⟩:=RelL.one r
  simp only[p1,dS]at q
  cases e:aQ x with
  | none=>rw[e]at q;exact q.elim
  | some ys =>
   rw[e]at q
   dsimp only at q
   cases e2:bB ys with
   | none=>rw[e2]at q;exact q.elim
   | some ns =>
    rw[e2]at q
    dsimp only at q
    obtain⟨a,us,fx',rfl,hs,hr,_⟩:=rv.seq e
    have hu:=eB e2 hr
    subst hu
    cases ns with
    | nil=>exact q.elim
    | cons n ns=>exact⟨a,_,rfl,by rw[hK];exact hs,by simp,q.scal gr el⟩
 | [],_,q=>exact q.elim
 | _::_::_,_,q=>simp only[p1]at q;exact q.elim
def si:bootBuiltins "min" = some (.builtin "min"):=by decide +kernel
def xN:bootBuiltins "max" = some (.builtin "max"):=by decide +kernel
def nR(hK:X.K=T.K)(hc:X.calm=true)(hg:Gl X "min")(hm:X.mg "min" = none)(ha:SE X T W e m)(he:starEach [e] X.env=[(false,eval e X.env)]:=by rfl):SE X T W (.Call (.Name "min" p) [e] [] pos) (ao (p1 (dS fk)) (ae m ak)) :=
 dP (kX hc) (lG hK) hg hm si (aa ha ai (by rw[he];rfl)) (he:=by rw[he];rfl) (hpl:=rfl)
def nS(hK:X.K=T.K)(hc:X.calm=true)(hg:Gl X "max")(hm:X.mg "max" = none)(ha:SE X T W e m)(he:starEach [e] X.env=[(false,eval e X.env)]:=by rfl):SE X T W (.Call (.Name "max" p) [e] [] pos) (ao (p1 (dS gh)) (ae m ak)) :=
 dP (kY hc) (lG hK) hg hm xN (aa ha ai (by rw[he];rfl)) (he:=by rw[he];rfl) (hpl:=rfl)
def iM(g:Int->Int->Int):List PV->Res PV
 | [.int i,.int j]=>.ok (.int (g i j))
 | _=>.stuck
def pz{g:Int->Int->Int}{g':Int->Int->Int}(hg:∀i j,g' i j=g i j):Mir T W (iM g) (fun xs H Q=>∃i j,xs=[.int i,.int j]/\Q (.int (g' i j)) H):=by
 intro B F L Y H Q F' H' xs vs fx gr r nf nd new q
 match xs,r,q with
 | [x,y],r,q =>
  cases x with
  | int i =>
   cases y with
   | int j =>
    unfold RelL at r
    obtain⟨v,ws,f1,f2,rfl,h1,h2,rfl⟩:=r
    obtain⟨u,rfl,h3⟩:=RelL.one h2
    unfold Rel at h1 h3
    obtain⟨rfl,_⟩:=h1
    obtain⟨rfl,_⟩:=h3
    exact⟨i,j,rfl,by rw[hg];exact q.scal gr el⟩
   | _=>exact q.elim
  | _=>exact q.elim
 | [],_,q=>exact q.elim
 | [x],_,q=>cases x<;>exact q.elim
 | x::y::z::l,_,q=>cases x<;>cases y<;>exact q.elim
def sX(hc:X.calm=true)(hg:Gl X "min")(hm:X.mg "min" = none)(ha:SA X T W [a,b] ms)(he:starEach [a,b] X.env=[(false,eval a X.env),(false,eval b X.env)]:=by rfl)(he2:starEach [b] X.env=[(false,eval b X.env)]:=by rfl) :
  SE X T W (.Call (.Name "min" p) [a,b] [] pos) (ao (iM min) ms) :=
 dP (pN hc) (pz fun i j=>by simp only[Int.min_def];split<;>split<;>omega) hg hm si ha (he:=by rw[he,he2]) (hpl:=by rw[he2];rfl)
end
end PR
namespace PR
open PySem PySem.W PyProof.Rows
structure Ord(N:Nat)(lt:Nat->Nat->Bool):Prop where
 tr:∀i j k,i < N->j < N->k < N->lt i j=true->lt j k=true->lt i k=true
 tot:∀i j,i < N->j < N->i≠j->lt i j=false->lt j i=true
 irr:∀i,i < N->lt i i=false
structure Plc(N:Nat)(p:Array Nat):Prop where
 pm:p.toList.Perm (List.range N)
abbrev at_(p:Array Nat)(i:Nat):Nat:=p.getD i 0
section
variable{N:Nat}{lt:Nat->Nat->Bool}{p:Array Nat}
def Plc.sz(P:Plc N p):p.size=N:=by simpa using P.pm.length_eq
def Plc.get(P:Plc N p)(h:i < N):p[i]?=some (at_ p i):=by
 have:i < p.size:=by rw[P.sz];exact h
 simp[at_,this]
def Plc.bd(P:Plc N p)(h:i < N):at_ p i < N:=by
 have hm:at_ p i∈p.toList:=by
  have:=P.get h
  exact Array.mem_toList_iff.mpr (Array.mem_of_getElem? this)
 simpa using P.pm.mem_iff.mp hm
def Plc.inj(P:Plc N p)(hi:i < N)(hj:j < N)(e:at_ p i=at_ p j):i=j:=by
 have nd:p.toList.Nodup:=P.pm.nodup_iff.mpr List.nodup_range
 have h1:=P.get hi
 have h2:=P.get hj
 rw[e]at h1
 have h1':p.toList[i]?=some (at_ p j):=by simpa using h1
 have h2':p.toList[j]?=some (at_ p j):=by simpa using h2
 obtain⟨a1,b1⟩:=List.getElem?_eq_some_iff.mp h1'
 obtain⟨a2,b2⟩:=List.getElem?_eq_some_iff.mp h2'
 exact(List.getElem_inj nd).mp (b1.trans b2.symm)
def Asc(lt:Nat->Nat->Bool)(p:Array Nat)(n:Nat):Prop:=∀a b,a < b->b < n->lt (at_ p a) (at_ p b)=true
def Dsc(lt:Nat->Nat->Bool)(p:Array Nat)(n:Nat):Prop:=∀a b,a < b->b < n->lt (at_ p b) (at_ p a)=true
def Asc.more(O:Ord N lt)(P:Plc N p)(h:Asc lt p n)(h1:1<=n)(hn:n < N)(hl:lt (at_ p (n - 1)) (at_ p n)=true):Asc lt p (n+1):=fun a b hab hb=>by
 by_cases hbn:b < n
 ·exact h a b hab hbn
 ·obtain rfl:b=n:=by omega
  by_cases ha:a=b - 1
  ·rw[ha];exact hl
  ·exact O.tr _ _ _ (P.bd (by omega)) (P.bd (by omega)) (P.bd (by omega)) (h a (b - 1) (by omega) (by omega)) hl
def Dsc.more(O:Ord N lt)(P:Plc N p)(h:Dsc lt p n)(h1:1<=n)(hn:n < N)(hl:lt (at_ p n) (at_ p (n - 1))=true):Dsc lt p (n+1):=fun a b hab hb=>by
 by_cases hbn:b < n
 ·exact h a b hab hbn
 ·obtain rfl:b=n:=by omega
  by_cases ha:a=b - 1
  ·rw[ha];exact hl
  ·exact O.tr _ _ _ (P.bd (by omega)) (P.bd (by omega)) (P.bd (by omega)) hl (h a (b - 1) (by omega) (by omega))
def Dsc.rev(P:Plc N p)(h:Dsc lt p n)(hn:n<=N):Asc lt (kas_rev p 0 n) n/\Plc N (kas_rev p 0 n):=by
 have hp:(kas_rev p 0 n).toList.Perm p.toList:=Array.perm_iff_toList_perm.mp (mirror_perm _ _ _ _)
 have P':Plc N (kas_rev p 0 n):=⟨hp.trans P.pm⟩
 have ix:∀k,k < n->at_ (kas_rev p 0 n) k=at_ p (n - 1 - k):=fun k hk=>by
  have e:=getElem?_mirror_all (xs:=p) (i:=0) (j:=n) (by rw[P.sz];exact hn) k
  have h1:(kas_rev p 0 n)[k]?=p[0+n - 1 - k]?:=by
   unfold kas_rev
   rw[e,if_pos ⟨by omega,hk⟩]
  rw[P'.get (by omega),show 0+n - 1 - k=n - 1 - k by omega,P.get (by omega)]at h1
  exact Option.some.inj h1
 refine⟨fun a b hab hb=>?_,P'⟩
 rw[ix a (by omega),ix b hb]
 exact h _ _ (by omega) (by omega)
variable{cmp:Nat->Nat->(Bool->Shared->Prop)->Shared->Prop}{s:Shared}
abbrev Cmp(N:Nat)(lt:Nat->Nat->Bool)(cmp:Nat->Nat->(Bool->Shared->Prop)->Shared->Prop)(s:Shared):Prop:=∀(i j:Nat) (C:Bool->Shared->Prop),i < N->j < N->C (lt i j) s->cmp i j C s
def nJ(O:Ord N lt)(C:Cmp N lt cmp s)(P:Plc N p):∀(f n:Nat) (Q:Nat->Shared->Prop),1<=n->n+f=N->Asc lt p n->(∀m,n<=m->m<=N->Asc lt p m->(m < N->lt (at_ p m) (at_ p (m - 1))=true)->Q m s)->(kas_asc p f n).kasWp cmp Q s
 | 0,n,Q,h1,hn,ha,k=>k n (Nat.le_refl _) (by omega) ha (by omega)
 | f+1,n,Q,h1,hn,ha,k=>by
  refine C _ _ _ (P.bd (by omega)) (P.bd (by omega)) ?_
  cases e:lt (at_ p n) (at_ p (n - 1))with
  | true=>exact k n (Nat.le_refl _) (by omega) ha fun _=>e
  | false =>
   have hl:=O.tot _ _ (P.bd (by omega)) (P.bd (by omega)) (fun z=>by have:=P.inj (by omega) (by omega) z;omega) e
   exact nJ O C P f (n+1) Q (by omega) (by omega) (ha.more O P h1 (by omega) hl) fun m hm=>k m (by omega)
def rR(O:Ord N lt)(C:Cmp N lt cmp s)(P:Plc N p):∀(f n:Nat) (Q:Array Nat×Nat×Nat->Shared->Prop),1<=n->n+f=N->Dsc lt p n->(∀m,n<=m->m<=N->Dsc lt p m->Q (p,m,0) s)->(kas_desc f p n 0).kasWp cmp Q s
 | 0,n,Q,h1,hn,ha,k=>k n (Nat.le_refl _) (by omega) ha
 | f+1,n,Q,h1,hn,ha,k=>by
  refine C _ _ _ (P.bd (by omega)) (P.bd (by omega)) ?_
  cases e:lt (at_ p n) (at_ p (n - 1))with
  | true=>exact rR O C P f (n+1) Q (by omega) (by omega) (ha.more O P h1 (by omega) e) fun m hm=>k m (by omega)
  | false =>
   have hl:=O.tot _ _ (P.bd (by omega)) (P.bd (by omega)) (fun z=>by have:=P.inj (by omega) (by omega) z;omega) e
   refine C _ _ _ (P.bd (by omega)) (P.bd (by omega)) ?_
   have e2:lt (p.getD (n - 1) 0) (p.getD n 0)=true:=hl
   rw[e2]
   exact k n (Nat.le_refl _) (by omega) ha
def rZ(O:Ord N lt)(C:Cmp N lt cmp s)(P:Plc N p)(h2:2<=N)(Q:Nat×Array Nat->Shared->Prop)(k:∀m p',1<=m->m<=N->Plc N p'->Asc lt p' m->Q (m,p') s):(kas_count N p).kasWp cmp Q s:=by
 unfold kas_count
 rw[KasT.kasWp_bind]
 refine nJ O C P (N - 1) 1 _ (Nat.le_refl _) (by omega) (fun a b _ hb=>by omega) fun n h1 hn ha hs=>?_
 by_cases e:n=N
 ·rw[if_pos (by simpa using e)]
  exact k n p h1 hn P ha
 ·rw[if_neg (by simpa using e)]
  by_cases hn1:n > 1
  ·rw[if_pos hn1]
   refine C _ _ _ (P.bd (by omega)) (P.bd (by omega)) ?_
   have e2:lt (p.getD 0 0) (p.getD (n - 1) 0)=true:=ha 0 (n - 1) (by omega) (by omega)
   rw[e2]
   exact k n p h1 hn P ha
  ·rw[if_neg hn1]
   obtain rfl:n=1:=by omega
   unfold kas_descPart
   rw[KasT.kasWp_bind]
   refine rR O C P (N - 2) 2 _ (by omega) (by omega) (fun a b hab hb=>?_) fun m hm1 hm2 hd=>?_
   ·obtain rfl:a=0:=by omega
    obtain rfl:b=1:=by omega
    exact hs (by omega)
   ·dsimp only
    rw[if_neg (Nat.lt_irrefl 0)]
    obtain⟨ha',P'⟩:=hd.rev P hm2
    unfold kas_tail3
    rw[KasT.kasWp_bind]
    exact nJ O C P' (N - m) m _ (by omega) (by omega) ha' fun n' h1' hn' ha'' _=>k n' _ (by omega) hn' P' ha''
def iG(O:Ord N lt)(C:Cmp N lt cmp s)(P:Plc N p)(hk:k < N)(ha:Asc lt p k):∀(f l r:Nat) (Q:Nat->Shared->Prop),l<=r->r<=k->r - l<=f->(∀a,a < l->lt (at_ p a) (at_ p k)=true)->(∀a,r<=a->a < k->lt (at_ p k) (at_ p a)=true)->
  (∀m,m<=k->(∀a,a < m->lt (at_ p a) (at_ p k)=true)->(∀a,m<=a->a < k->lt (at_ p k) (at_ p a)=true)->Q m s)->(kas_place p k f l r).kasWp cmp Q s
 | 0,l,r,Q,h1,h2,h3,h4,h5,q=>by
  obtain rfl:l=r:=by omega
  exact q l h2 h4 h5
 | f+1,l,r,Q,h1,h2,h3,h4,h5,q=>by
  unfold kas_place
  by_cases e:l >= r
  ·rw[if_pos e]
   obtain rfl:l=r:=by omega
   exact q l h2 h4 h5
  ·rw[if_neg e]
   have hm:(l+r) / 2 < r:=by omega
   have hm2:l <=(l+r) / 2:=by omega
   refine C _ _ _ (P.bd hk) (P.bd (by omega)) ?_
   cases e2:lt (at_ p k) (at_ p ((l+r) / 2))with
   | true =>
    refine iG O C P hk ha f l ((l+r) / 2) Q hm2 (by omega) (by omega) h4 (fun a h6 h7=>?_) q
    by_cases hae:a=(l+r) / 2
    ·rw[hae];exact e2
    ·exact O.tr _ _ _ (P.bd hk) (P.bd (by omega)) (P.bd (by omega)) e2 (ha _ a (by omega) h7)
   | false =>
    have hl:=O.tot _ _ (P.bd hk) (P.bd (by omega)) (fun z=>by have:=P.inj hk (by omega) z;omega) e2
    refine iG O C P hk ha f ((l+r) / 2+1) r Q (by omega) h2 (by omega) (fun a h6=>?_) h5 q
    by_cases hae:a=(l+r) / 2
    ·rw[hae];exact hl
    ·exact O.tr _ _ _ (P.bd (by omega)) (P.bd (by omega)) (P.bd hk) (ha a _ (by omega) (by omega)) hl
def se(O:Ord N lt)(C:Cmp N lt cmp s):∀(f k:Nat) (p:Array Nat) (Q:Array Nat->Shared->Prop),Plc N p->Asc lt p k->k+f=N->(∀p',Plc N p'->Asc lt p' N->Q p' s)->(kas_bin f p k).kasWp cmp Q s
 | 0,k,p,Q,P,ha,hk,q=>q p P (by rw[<- hk];exact ha)
 | f+1,k,p,Q,P,ha,hk,q=>by
  unfold kas_bin
  rw[KasT.kasWp_bind]
  refine iG O C P (by omega) ha k 0 k _ (Nat.zero_le _) (Nat.le_refl _) (by omega) (fun _ z=>absurd z (Nat.not_lt_zero _)) (fun a h1 h2=>by omega) fun m hm h1 h2=>?_
  have P':Plc N (bubble p k (k - m)):=⟨(Array.perm_iff_toList_perm.mp (bubble_perm _ _ _)).trans P.pm⟩
  have ix:=getElem?_bubble (xs:=p) (src:=k) (by rw[P.sz];omega) (k - m) (by omega)
  have g:∀i,i < k+1->at_ (bubble p k (k - m)) i=if i=m then at_ p k else if m < i then at_ p (i - 1)else at_ p i:=fun i hi=>by
   have e:=ix i
   rw[P'.get (by omega)]at e
   have hkm:k - (k - m)=m:=by omega
   rw[hkm]at e
   by_cases c1:i=m
   ·rw[if_pos c1]
    rw[if_pos c1,P.get (by omega)]at e
    exact Option.some.inj e
   ·rw[if_neg c1]at e ⊢
    by_cases c2:m < i
    ·rw[if_pos c2]
     rw[if_pos ⟨c2,by omega⟩,P.get (by omega)]at e
     exact Option.some.inj e
    ·rw[if_neg c2]
     rw[if_neg (fun z=>c2 z.1),P.get (by omega)]at e
     exact Option.some.inj e
  refine se O C f (k+1) _ Q P' (fun a b hab hb=>?_) (by omega) q
  rw[g a (by omega),g b hb]
  by_cases a1:a=m
  ·rw[if_pos a1,if_neg (by omega),if_pos (by omega)]
   exact h2 (b - 1) (by omega) (by omega)
  ·rw[if_neg a1]
   by_cases a2:m < a
   ·rw[if_pos a2,if_neg (by omega),if_pos (by omega)]
    exact ha _ _ (by omega) (by omega)
   ·rw[if_neg a2]
    by_cases b1:b=m
    ·rw[if_pos b1];exact h1 a (by omega)
    ·rw[if_neg b1]
     by_cases b2:m < b
     ·rw[if_pos b2]
      by_cases hh:a=b - 1
      ·omega
      ·exact ha _ _ (by omega) (by omega)
     ·rw[if_neg b2]
      exact ha _ _ hab (by omega)
def sQ(O:Ord N lt)(C:Cmp N lt cmp s)(h2:2<=N)(Q:Array Nat->Shared->Prop)(q:∀p,Plc N p->Asc lt p N->Q p s):(kas_sort N).kasWp cmp Q s:=by
 unfold kas_sort
 rw[KasT.kasWp_bind]
 refine rZ O C (p:=List.toArray (List.range N)) ⟨by simp⟩ h2 _ fun m p' h1 hm P ha=>?_
 dsimp only
 by_cases e:m < N
 ·rw[if_pos e,Nat.max_eq_left h1]
  exact se O C (N - m) m p' Q P ha (by omega) q
 ·rw[if_neg e]
  obtain rfl:m=N:=by omega
  exact q p' P ha
end
end PR
namespace PR
open PySem PySem.Spec L2 PyProof.Rows PySem.W
section
variable{prog:Program}{w:World}{A:Around}{E:Value->Shared->Prop}{s:Shared}
def iN(vs:List Value)(p:Array Nat):Array Value:=(p.toList.map fun i=>vs.getD i Value.none).toArray
def o7(N:Nat):Plc N (List.range N).toArray:=⟨by simp⟩
def hJ:iN vs (List.range vs.length).toArray=vs.toArray:=by
 unfold iN
 congr 1
 refine List.ext_getElem (by simp) fun i h1 h2=>?_
 simp[h2]
def sI:∀{vs:List Value},vs.length < 2->(vs.toArray.zip vs.toArray).map (·.2)=vs.toArray
 | [],_ | [v],_=>by simp
def pB{κ:SortKind}(ho:s.heap.get? a=some (seqObj "list" vs.toArray n))(h64:vs.length < 64)
  (hK:2<=vs.length->∀s':Shared,(∀b o,b≠a->s.heap.get? b=some o->s'.heap.get? b=some o)->Ord vs.length lt/\(∀Q:SortKind->Shared->Prop,Q κ s'->wpAny (model prog w) A (keyKind' vs.toArray) Q E s')/\Cmp vs.length lt (kas_ask prog w A κ vs) s')
  (h:∀p,Plc vs.length p->Asc lt p vs.length->P (.done (.ret .none)) { s with heap:=sortedHeap s.heap a vs (iN vs p) }) :
  wpAny (model prog w) A (Builtin.«list.sort» ⟨[.ref a],[]⟩) P E s:=by
 have lo:=Heap.lt_size ho
 obtain⟨e1,g1⟩:∃e1,(s.heap.update a (Obj.mapSeq fun _=>#[])).get? a=some (seqObj "list" #[] e1):=⟨_,get?_update_seq ho (fun _=>#[])⟩
 have g6:(((s.heap.update a (Obj.mapSeq fun _=>#[])).push (seqObj "tuple" vs.toArray 0)).push (seqObj "list" #[] 0)).get? a=some (seqObj "list" #[] e1):=Heap.get?_push_of_some _ (Heap.get?_push_of_some _ g1)
 have kp:∀b o,b≠a->s.heap.get? b=some o->(((s.heap.update a (Obj.mapSeq fun _=>#[])).push (seqObj "tuple" vs.toArray 0)).push (seqObj "list" #[] 0)).get? b=some o:=fun b o hb q =>
  Heap.get?_push_of_some _ (Heap.get?_push_of_some _ ((Heap.get?_update_ne _ _ _ _ hb).trans q))
 rw[list_sort_plain]
 refine wpAny_bind (listItems_at ho rfl (wpAny_bind (listUpdate_at ho rfl (wpAny_bind (seqEpoch_at g1 rfl (wpAny_bind (wpAny_newTuple (wpAny_bind (wpAny_newList (wpAny_holding ?_))))))))))<;>try (simp only[List.size_toArray,sizeLine_eq];omega)
 show wpAny (model prog w) A _ P E { s with heap:=((s.heap.update a (Obj.mapSeq fun _=>#[])).push (seqObj "tuple" vs.toArray 0)).push (seqObj "list" #[] 0) }
 dsimp only
 by_cases h2:vs.toArray.size < 2
 ·have h2':vs.length < 2:=by simpa using h2
  rw[if_pos h2,if_pos h2]
  refine wpAny_bind (wpAny_pure ?_)
  rw[StateT.run_pure]
  refine wpAny_bind (wpAny_pure ?_)
  dsimp only
  have e3:(arrOf (SortSt.mk' general' (vs.toArray.zip vs.toArray) #[] 7 none)).map (·.2)=iN vs (List.range vs.length).toArray:=by
   rw[hJ]
   show(vs.toArray.zip vs.toArray).map (·.2)=vs.toArray
   exact sI h2'
  rw[e3]
  refine wpAny_bind (seqEpoch_at g6 rfl (wpAny_bind (listUpdate_at g6 rfl ?_ (Nat.zero_le _) (by rw[hJ];simp only[List.size_toArray,sizeLine_eq];omega))))
  simp only[bne_self_eq_false,Bool.false_eq_true,if_false]
  exact wpAny_pure (h _ (o7 _) fun x y hxy hy=>by omega)
 ·have h2':2<=vs.length:=by simp at h2;omega
  rw[if_neg h2,if_neg h2]
  obtain⟨O,hk,C⟩:=hK h2' { s with heap:=((s.heap.update a (Obj.mapSeq fun _=>#[])).push (seqObj "tuple" vs.toArray 0)).push (seqObj "list" #[] 0) } kp
  refine wpAny_bind (hk _ ?_)
  refine wpAny_bind (wpAny_mono (kat_run (κ:=κ) (ks:=vs) (vs:=vs) (Q:=fun st' s'=>∃ p:Array Nat,arrOf st'=p.map (kas_item (vs.toArray.zip vs.toArray))/\failedOf st'=none/\Plc vs.length p/\Asc lt p vs.length/\s'=_) rfl h2' h64
   (fun p st' s' _ a2 a3 a4=>⟨p,a2,a3,a4⟩) (sQ O C h2' _ fun p c1 c2=>⟨c1,c2,rfl⟩)) ?_ fun _ _ e=>e)
  rintro⟨⟨⟩,st'⟩ s' ⟨p,har,hf,c1,c2,rfl⟩
  dsimp only
  have e3:=kat_snds (ks:=vs) (vs:=vs) rfl har
  rw[e3]
  refine wpAny_bind (seqEpoch_at g6 rfl (wpAny_bind (listUpdate_at g6 rfl ?_ (Nat.zero_le _) (by
   rw[List.size_toArray,List.length_map,Array.length_toList,c1.sz,sizeLine_eq];omega))))
  rw[hf]
  simp only[bne_self_eq_false,Bool.false_eq_true,if_false]
  exact wpAny_pure (h _ c1 c2)
def mK{κ:SortKind}(hl:s.heap.IsList l vs.toArray)(h64:vs.length < 64)
  (hK:2<=vs.length->∀s':Shared,(∀b o,s.heap.get? b=some o->s'.heap.get? b=some o)->Ord vs.length lt/\(∀(E:Value->Shared->Prop) (Q:SortKind->Shared->Prop),Q κ s'->wpAny (model prog w) A.in1.in1 (keyKind' vs.toArray) Q E s')/\Cmp vs.length lt (kas_ask prog w A.in1.in1 κ vs) s')
  (h:∀p,Plc vs.length p->Asc lt p vs.length->Q (.ref (s.heap.objs.size+1)) { s with heap:=sortedAll s.heap vs (iN vs p) }) :
  wpAny (model prog w) A (call (.builtin "sorted") [.ref l]) Q E s:=by
 refine Calls.call_function_entry kind_sorted plain_sorted entry_sorted (args_sorted1 _) ?_
 unfold Builtin.«sorted»
 have sz:((s.heap.push (seqObj "list" #[] 0)).update s.heap.objs.size (Obj.mapSeq (·++vs.toArray))).objs.size=s.heap.objs.size+1:=(Heap.size_update _ _ _).trans (size_push' _ _)
 refine wpAny_bind (m:=checkCount "sorted" 1 1 _) (wpAny_pure (wpAny_bind (collect_list hl (wpAny_bind (wpAny_newList ?_ (by rw[sizeLine_eq];omega))) (by rw[sizeLine_eq];omega))))
 have g:(((s.heap.push (seqObj "list" #[] 0)).update s.heap.objs.size (Obj.mapSeq (·++vs.toArray))).push (seqObj "list" vs.toArray 0)).get? (s.heap.objs.size+1)=some (seqObj "list" vs.toArray 0):=sz▸Heap.get?_push_size _ rfl
 have kp:∀b o,s.heap.get? b=some o->(((s.heap.push (seqObj "list" #[] 0)).update s.heap.objs.size (Obj.mapSeq (·++vs.toArray))).push (seqObj "list" vs.toArray 0)).get? b=some o:=fun b o q =>
  Heap.get?_push_of_some _ ((Heap.get?_update_ne _ _ _ _ (Nat.ne_of_lt (Heap.lt_size q))).trans (Heap.get?_push_of_some _ q))
 show wpAny _ _ _ _ _ { s with heap:=((s.heap.push (seqObj "list" #[] 0)).update s.heap.objs.size (Obj.mapSeq (·++vs.toArray))).push (seqObj "list" vs.toArray 0) }
 rw[sz]
 refine wpAny_bind (wpAny_holding (wpAny_call_entry slot_list_sort ⟨_,g,rfl⟩ entry_list_sort ?body (args_list_sort _)))
 refine pB (κ:=κ) (lt:=lt) g h64 (fun h2 s' k'=>?_) fun p c1 c2=>⟨_,rfl,wpAny_pure ⟨_,rfl,h p c1 c2⟩⟩
 obtain⟨O,hk,C⟩:=hK h2 s' fun b o q=>k' b o (Nat.ne_of_lt (Nat.lt_succ_of_lt (Heap.lt_size q))) (kp b o q)
 exact⟨O,fun Q q=>hk _ Q q,C⟩
def dh(x y:Int×Int):Bool:=decide (x.1 < y.1) ||(x.1==y.1&&decide (x.2 < y.2))
def fE(h1:dh x y=true)(h2:dh y z=true):dh x z=true:=by
 simp only[dh,Bool.or_eq_true,Bool.and_eq_true,decide_eq_true_eq,beq_iff_eq]at *
 omega
def lE(x:Int×Int):dh x x=false:=by simp[dh]
def lD(h:x≠y):dh x y=true\/dh y x=true:=by
 obtain⟨a,b⟩:=x
 obtain⟨c,d⟩:=y
 have:a≠c\/b≠d:=by
  by_cases e:a=c
  ·right;intro e2;exact h (by rw[e,e2])
  ·exact .inl e
 simp only[dh,Bool.or_eq_true,Bool.and_eq_true,decide_eq_true_eq,beq_iff_eq]
 omega
def bQ(h:Heap):List Value->List (Int×Int)->Prop
 | [],[]=>True
 | v::vs,x::ps=>(∃a o n t u,v=.ref a/\h.get? a=some o/\o.cls=.type "tuple" /\ o.data=.seq #[.int x.1 t,.int x.2 u] n)/\bQ h vs ps
 | _,_=>False
def bQ.len:∀{vs:List Value}{ps:List (Int×Int)},bQ h vs ps->vs.length=ps.length
 | [],[],_=>rfl
 | _::_,_::_,q=>by simp[q.2.len]
def bQ.kept(k:∀b o,h.get? b=some o->h'.get? b=some o):∀{vs:List Value}{ps:List (Int×Int)},bQ h vs ps->bQ h' vs ps
 | [],[],_=>trivial
 | _::_,_::_,⟨⟨a,o,n,t,u,e1,e2,e3⟩,q⟩=>⟨⟨a,o,n,t,u,e1,k _ _ e2,e3⟩,q.kept k⟩
def bQ.at:∀{vs:List Value}{ps:List (Int×Int)},bQ h vs ps->∀i,i < ps.length->∃a o n t u,vs.getD i Value.none=.ref a/\h.get? a=some o/\o.data=.seq #[.int (ps.getD i (0,0)).1 t,.int (ps.getD i (0,0)).2 u] n
 | _::_,_::_,⟨⟨a,o,n,t,u,e1,e2,e3⟩,q⟩,0,_=>⟨a,o,n,t,u,by simp[e1],e2,by simpa using e3.2⟩
 | v::vs,x::ps,⟨_,q⟩,i+1,hi=>by
  have:=q.at i (by simpa using hi)
  simpa using this
 | [],[],_,i,hi=>by simp at hi
def bQ.firsts:∀{vs:List Value}{ps:List (Int×Int)},bQ h vs ps->∃fs,KatTups h vs fs/\fs.length=ps.length/\∀v∈fs,∃i t,v=.int i t
 | [],[],_=>⟨[],.nil,rfl,fun v hv=>by cases hv⟩
 | _::_,_::_,⟨⟨a,o,n,t,u,e1,e2,e3,e4⟩,q⟩=>by
  obtain⟨fs,h1,h2,h3⟩:=q.firsts
  subst e1
  refine⟨_::fs,.cons e2 e3 e4 rfl h1,by simp[h2],fun v hv=>?_⟩
  rcases List.mem_cons.mp hv with rfl | hv
  ·exact⟨_,_,rfl⟩
  ·exact h3 v hv
def o9{ps:List (Int×Int)}(hd:ps.Nodup):Ord ps.length (fun i j=>dh (ps.getD i (0,0)) (ps.getD j (0,0))):=by
 refine⟨fun i j k _ _ _ h1 h2=>fE h1 h2,fun i j hi hj hn h=>?_,fun i _=>lE _⟩
 have:ps.getD i (0,0)≠ ps.getD j (0,0):=by
  simp only[List.getD_eq_getElem?_getD,List.getElem?_eq_getElem hi,List.getElem?_eq_getElem hj,Option.getD_some]
  exact fun e=>hn ((List.getElem_inj hd).mp e)
 rcases lD this with q | q
 ·rw[q]at h;cases h
 ·exact q
def jT(h:Q (decide (x < y)) s):wpAny (model prog w) A (oneLt' b (.int x t) (.int y u)) Q E s:=by
 cases b with
 | true=>exact oneLt_int h
 | false=>exact kat_one _ _ (wpAny_lt_int h)
def o_(hp:bQ s.heap vs ps):Cmp vs.length (fun i j=>dh (ps.getD i (0,0)) (ps.getD j (0,0))) (kas_ask prog w A (tuples' true) vs) s:=by
 intro i j C hi hj q
 rw[hp.len]at hi hj
 obtain⟨a,o,n,t,u,e1,e2,e3⟩:=hp.at i hi
 obtain⟨a',o',n',t',u',e1',e2',e3'⟩:=hp.at j hj
 unfold kas_ask
 rw[e1,e1']
 dsimp only at q
 generalize ps.getD i (0,0)=x at *
 generalize ps.getD j (0,0)=y at *
 refine kat_lt e2 e3 e2' e3' (kat_cons (wpAny_eqBool_int (kat_go (fun h1=>kat_yes (kat_cons (wpAny_eqBool_int (kat_go (fun h2=>kat_yes (kat_nil ?_)) fun h2=>kat_no (jT ?_))))) fun h1=>kat_no (jT ?_))))
 ·simp only[beq_iff_eq]at h1 h2
  have:dh x y=false:=by simp[dh,h1,h2]
  rw[this]at q
  exact q
 ·simp only[beq_iff_eq]at h1
  have:dh x y=decide (x.2 < y.2):=by simp[dh,h1]
  rw[this]at q
  exact q
 ·have:dh x y=decide (x.1 < y.1):=by simp[dh,h1]
  rw[this]at q
  exact q
def mY(hp:bQ s.heap vs ps)(h2:2<=vs.length){Q:SortKind->Shared->Prop}(q:Q (tuples' true) s):wpAny (model prog w) A (keyKind' vs.toArray) Q E s:=by
 obtain⟨fs,h1,hl,hi⟩:=hp.firsts
 refine kat_kind (T:=.type "int") h1 (by rw[hl,<- hp.len];omega) (fun v hv=>?_) rfl q
 obtain⟨i,t,rfl⟩:=hi v hv
 exact Looks.of_pure rfl
def km(hl:s.heap.IsList l vs.toArray)(h64:vs.length < 64)(hp:bQ s.heap vs ps)(hd:ps.Nodup)
  (h:∀p,Plc vs.length p->Asc (fun i j=>dh (ps.getD i (0,0)) (ps.getD j (0,0))) p vs.length->Q (.ref (s.heap.objs.size+1)) { s with heap:=sortedAll s.heap vs (iN vs p) }) :
  wpAny (model prog w) A (call (.builtin "sorted") [.ref l]) Q E s :=
 mK hl h64 (fun h2 s' k=>⟨hp.len▸o9 hd,fun E Q q=>mY (hp.kept k) h2 q,o_ (hp.kept k)⟩) h
end
end PR
namespace PR
open PySem PySem.Spec L2 PyProof.Rows
def ny(x:Int):List Int->List Int
 | []=>[x]
 | y::l=>if x<=y then x::y::l else y::ny x l
def fV:List Int->List Int
 | []=>[]
 | x::l=>ny x (fV l)
def gR(x:Int):∀l,(ny x l).Perm (x::l)
 | []=>.refl _
 | y::l=>by
  unfold ny
  split
  ·exact .refl _
  ·exact((gR x l).cons y).trans (.swap x y l)
def dq:∀l,(fV l).Perm l
 | []=>.refl _
 | x::l=>(gR x _).trans ((dq l).cons x)
def lN(x:Int):∀{l:List Int},l.Pairwise (·<=·)->(ny x l).Pairwise (·<=·)
 | [],_=>by simp[ny]
 | y::l,h=>by
  obtain⟨h1,h2⟩:=List.pairwise_cons.mp h
  unfold ny
  split
  ·refine List.pairwise_cons.mpr ⟨fun z hz=>?_,h⟩
   rcases List.mem_cons.mp hz with rfl | hz
   ·assumption
   ·have:=h1 z hz;omega
  ·refine List.pairwise_cons.mpr ⟨fun z hz=>?_,lN x h2⟩
   rcases List.mem_cons.mp ((gR x l).mem_iff.mp hz)with rfl | hz
   ·omega
   ·exact h1 z hz
def jH:∀l,(fV l).Pairwise (·<=·)
 | []=>.nil
 | x::l=>lN x (jH l)
def mM{l l':List Int}(h1:l'.Perm l)(h2:l'.Pairwise (·<=·)):l'=fV l :=
 List.Perm.eq_of_pairwise (fun a b _ _ x y=>Int.le_antisymm x y) h2 (jH l) (h1.trans (dq l).symm)
def nw(x:Int×Int):List (Int×Int)->List (Int×Int)
 | []=>[x]
 | y::l=>if dh x y then x::y::l else y::nw x l
def bK:List (Int×Int)->List (Int×Int)
 | []=>[]
 | x::l=>nw x (bK l)
def gQ(x:Int×Int):∀l,(nw x l).Perm (x::l)
 | []=>.refl _
 | y::l=>by
  unfold nw
  split
  ·exact .refl _
  ·exact((gQ x l).cons y).trans (.swap x y l)
def bR:∀l,(bK l).Perm l
 | []=>.refl _
 | x::l=>(gQ x _).trans ((bR l).cons x)
def lM(x:Int×Int):∀{l:List (Int×Int)},x∉l->l.Pairwise (fun a b=>dh a b=true)->(nw x l).Pairwise (fun a b=>dh a b=true)
 | [],_,_=>by simp[nw]
 | y::l,hn,h=>by
  obtain⟨h1,h2⟩:=List.pairwise_cons.mp h
  unfold nw
  split
  ·refine List.pairwise_cons.mpr ⟨fun z hz=>?_,h⟩
   rcases List.mem_cons.mp hz with rfl | hz
   ·assumption
   ·exact fE ‹_› (h1 z hz)
  ·refine List.pairwise_cons.mpr ⟨fun z hz=>?_,lM x (fun z=>hn (List.mem_cons_of_mem _ z)) h2⟩
   rcases List.mem_cons.mp ((gQ x l).mem_iff.mp hz)with rfl | hz
   ·rcases lD (x:=y) (y:=z) (fun e=>hn (e▸List.mem_cons_self))with q | q
    ·exact q
    ·contradiction
   ·exact h1 z hz
def jG:∀{l:List (Int×Int)},l.Nodup->(bK l).Pairwise (fun a b=>dh a b=true)
 | [],_=>.nil
 | x::l,h=>by
  obtain⟨h1,h2⟩:=List.nodup_cons.mp h
  exact lM x (fun z=>h1 ((bR l).mem_iff.mp z)) (jG h2)
def mL(hd:l.Nodup)(h1:l'.Perm l)(h2:l'.Pairwise (fun a b=>dh a b=true)):l'=bK l :=
 List.Perm.eq_of_pairwise (fun a b _ _ x y=>by
  have:=fE x y
  rw[lE]at this;cases this) h2 (jG hd) (h1.trans (bR l).symm)
def o3{α:Type}(l:List α)(d:α):(List.range l.length).map (fun i=>l.getD i d)=l:=by
 refine List.ext_getElem (by simp) fun i h1 h2=>?_
 simp[h2]
def o6{ps:List (Int×Int)}{p:Array Nat}(hd:ps.Nodup)(P:Plc ps.length p)(a:Asc (fun i j=>dh (ps.getD i (0,0)) (ps.getD j (0,0))) p ps.length):p.toList.map (fun i=>ps.getD i (0,0))=bK ps:=by
 refine mL hd (by have:=P.pm.map (fun i=>ps.getD i (0,0));rwa [o3]at this) ?_
 refine List.pairwise_iff_getElem.mpr fun i j hi hj hij=>?_
 have hs:=P.sz
 have hi':i < p.size:=by simpa using hi
 have hj':j < p.size:=by simpa using hj
 have:=a i j hij (by omega)
 simpa[at_,Array.getD,hi',hj']using this
def PrH(K:PySem.W.Frag)(H:Hp):List V->List (Int×Int)->Prop
 | [],[]=>True
 | v::vs,x::ps=>(∃a,v=.ref a/\SqT K H a [.int x.1,.int x.2])/\PrH K H vs ps
 | _,_=>False
def PrH.len{K:PySem.W.Frag}{H:Hp}:∀{vs:List V}{ps:List (Int×Int)},PrH K H vs ps->vs.length=ps.length
 | [],[],_=>rfl
 | _::_,_::_,q=>by simp[q.2.len]
section
variable{X:Cx}{T:Tb}{W:Nat->L2.St->Hp->Prop}{Z:Zn}{F F1 B L:Addr->Prop}{H H1:Hp}{Y:L2.St}{env:En}{fp:Nat->List Addr}{gV:List (Addr×Obj)}{s:Shared}
def PrH.at(I:L2.Inv X gV Y H s):∀{vs:List V}{its:List Value}{ps:List (Int×Int)},PrH X.K H vs ps->aB vs its->bQ s.heap its ps
 | [],_,[],_,r=>by cases r;trivial
 | _::_,_,_::_,⟨⟨a,e,h⟩,q⟩,r=>by
  cases r with
  | cons h1 h2 =>
   subst e
   cases h1
   refine⟨?_,q.at I h2⟩
   obtain⟨its,r,pl,_⟩:=I.tuple h
   obtain⟨u,r2,rfl,⟨t,rfl⟩,r3⟩:∃u r2,its=u::r2/\aT _ u/\aB _ r2:=by cases r with | cons a b=>exact⟨_,_,rfl,a,b⟩
   obtain⟨u',rfl,⟨t',rfl⟩⟩:=eK r3
   obtain⟨o,ho,hcl,n,hd⟩:=pl
   exact⟨a,o,n,t,t',rfl,ho,hcl,hd⟩
def pU{vs:List V}{its:List Value}(r:aB vs its)(q:List Nat)(hq:∀i∈q,i < vs.length):aB (q.map fun i=>vs.getD i .non) (q.map fun i=>its.getD i Value.none):=by
 induction q with
 | nil=>exact .nil
 | cons i q ih =>
  refine .cons ?_ (ih fun j hj=>hq j (List.mem_cons_of_mem _ hj))
  have hi:=hq i List.mem_cons_self
  have:∀{vs:List V}{its:List Value}{i:Nat},aB vs its->i < vs.length->aT (vs.getD i .non) (its.getD i Value.none):=by
   intro vs its i r
   induction r generalizing i with
   | nil=>intro h;simp at h
   | cons a b ih =>
    intro h
    cases i with
    | zero=>simpa using a
    | succ i=>simpa using ih (by simpa using h)
  exact this r hi
def kL:∀{ns:List Int}{its:List Value},PyProof.Rows.IntsAre its ns->aB (ns.map V.int) its:=by
 intro ns its h
 induction h with
 | nil=>exact .nil
 | cons=>exact .cons ⟨_,rfl⟩ ‹_›
def l_:dz X (.builtin "sorted") (fun xs H Q=>∃ p ys,xs=[.ref p]/\SqL X.K H p ys/\ys.length < 64 /\
    ((∃ ns,ys=ns.map V.int/\∀ l,H l=none->Q (.ref l) (upd H l (.lst ((fV ns).map V.int)))) \/
     (∃ps,PrH X.K H ys ps/\ps.Nodup/\∀l (q:List Nat),H l=none->q.Perm (List.range ys.length)->q.map (fun i=>ps.getD i (0,0))=bK ps->Q (.ref l) (upd H l (.lst (q.map fun i=>ys.getD i .non)))))):=by
  intro gV s Y H xs us Q I rv h
  obtain⟨p,ys,rfl,hq,h64,h⟩:=h
  obtain⟨u,rfl,rx⟩:=eK rv
  cases rx
  obtain⟨its,r,pl,hz⟩:=I.list hq
  have hlen:=r.length
  have hfr:=I.hok.fresh (Nat.le_succ s.heap.objs.size)
  rcases h with⟨ns,rfl,q⟩ |⟨ps,hp,hd,q⟩
  . refine sorted_ints pl.isList (d5 r) (by omega) fun out ns' a1 a2 a3=>?_
    obtain⟨c,hc⟩:=sortedAll_at s.heap its out
    have e:=mM a2 a3
    subst e
    refine⟨.ref (s.heap.objs.size+1),_,I.laid (fun b o=>sortedAll_old) (Nat.le_succ _) ?_,rfl,q _ hfr⟩
    refine⟨?_,out.toList,c,kL a1,by simpa using hc⟩
    rw[sizeLine_eq];simp[(dq ns).length_eq]at h64 ⊢;omega
  . refine km pl.isList (by omega) (hp.at I r) hd fun p P a=>?_
    obtain⟨c,hc⟩:=sortedAll_at s.heap its (iN its p)
    have hl:=hp.len
    have pm:p.toList.Perm (List.range ys.length):=by rw[hlen];exact P.pm
    refine⟨.ref (s.heap.objs.size+1),_,I.laid (fun b o=>sortedAll_old) (Nat.le_succ _) ?_,rfl,q _ p.toList hfr pm (o6 hd (by rw[<- hl,hlen];exact P) (by rw[<- hl,hlen];exact a))⟩
    refine⟨?_,_,c,pU r p.toList (fun i hi=>by simpa using pm.mem_iff.mp hi),hc⟩
    rw[sizeLine_eq];simp[P.sz,<- hlen];omega
end
end PR
namespace PR
open PySem PySem.Spec L2
def prV(x:Int×Int):PV:=.tup [.int x.1,.int x.2]
def eR:PV->Option (Int×Int)
 | .tup [.int a,.int b]=>some (a,b)
 | _=>none
def dH:List PV->Option (List (Int×Int))
 | []=>some []
 | x::xs=>match eR x,dH xs with
  | some y,some ys=>some (y::ys)
  | _,_=>none
def di:PV->Res PV
 | .lst _ xs=>if decide (xs.length < 64) then (match bB xs with
  | some ns=>.ok (.lst .own ((fV ns).map .int))
  | none=>match dH xs with
   | some ps=>if decide ps.Nodup then .ok (.lst .own ((bK ps).map prV))else .stuck
   | none=>.stuck)else .stuck
 | _=>.stuck
section
variable{X:Cx}{T:Tb}{W:Nat->St->Hp->Prop}{Z:Zn}{F F1 B L:Addr->Prop}{H H1:Hp}{Y:St}{env:En}{fp:Nat->List Addr}
def pb(e:eR x=some y):x=prV y:=by
 unfold eR at e
 split at e
 ·cases e;rfl
 ·cases e
def fF:∀{xs:List PV}{vs:List V}{f:List Addr}{ps:List (Int×Int)},dH xs=some ps->RelL T F B L H xs vs f->PrH T.K H vs ps/\f=[]
 | [],_,_,_,e,r=>by cases e;unfold RelL at r;obtain⟨rfl,rfl⟩:=r;exact⟨trivial,rfl⟩
 | x::xs,_,_,ps,e,r=>by
  unfold RelL at r
  obtain⟨v,ws,f1,f2,rfl,h1,h2,rfl⟩:=r
  unfold dH at e
  cases e1:eR x with
  | none=>rw[e1]at e;cases e
  | some y =>
   cases e2:dH xs with
   | none=>rw[e1,e2]at e;cases e
   | some ys =>
    rw[e1,e2]at e
    cases e
    obtain⟨q,rfl⟩:=fF e2 h2
    have:=pb e1
    subst this
    unfold prV Rel at h1
    obtain⟨a,us,rfl,hs,hr⟩:=h1
    unfold RelL at hr
    obtain⟨v1,w1,g1,g2,rfl,k1,k2,rfl⟩:=hr
    obtain⟨v2,rfl,k3⟩:=RelL.one k2
    unfold Rel at k1 k3
    obtain⟨rfl,rfl⟩:=k1
    obtain⟨rfl,rfl⟩:=k3
    exact⟨⟨⟨a,rfl,hs⟩,q⟩,rfl⟩
def PrH.rel:∀{vs:List V}{ps:List (Int×Int)},PrH T.K H vs ps->RelL T F B L H (ps.map prV) vs []
 | [],[],_=>dQ _ _ _ _
 | _::_,x::ps,⟨⟨a,e,h⟩,q⟩=>by
  subst e
  rw[List.map_cons]
  unfold RelL
  refine⟨_,_,[],[],rfl,?_,q.rel,rfl⟩
  unfold prV Rel
  refine⟨a,_,rfl,h,?_⟩
  unfold RelL
  refine⟨_,_,[],[],rfl,el,?_,rfl⟩
  unfold RelL
  exact⟨_,_,[],[],rfl,el,dQ _ _ _ _,rfl⟩
def PrH.get:∀{vs:List V}{ps:List (Int×Int)},PrH K H vs ps->∀i,i < vs.length->∃a,vs.getD i .non=.ref a/\SqT K H a [.int (ps.getD i (0,0)).1,.int (ps.getD i (0,0)).2]
 | _::_,_::_,⟨h,q⟩,0,_=>by simpa using h
 | _::_,_::_,⟨_,q⟩,i+1,hi=>by simpa using q.get i (by simpa using hi)
 | [],[],_,_,hi=>by simp at hi
def PrH.map(h:PrH K H vs ps)(q:List Nat)(hq:∀i∈q,i < vs.length):PrH K H (q.map fun i=>vs.getD i .non) (q.map fun i=>ps.getD i (0,0)):=by
 induction q with
 | nil=>trivial
 | cons i q ih=>exact⟨h.get i (hq i List.mem_cons_self),ih fun j hj=>hq j (List.mem_cons_of_mem _ hj)⟩
def tK(ns:List Int):RelL T F B L H (ns.map PV.int) (ns.map V.int) []:=by
 induction ns with
 | nil=>exact dQ _ _ _ _
 | cons a l ih =>
  rw[List.map_cons,List.map_cons]
  unfold RelL
  exact⟨_,_,[],[],rfl,el,ih,rfl⟩
def RelL.len2:∀{xs:List PV}{vs:List V}{f:List Addr},RelL T F B L H xs vs f->xs.length=vs.length
 | [],_,_,r=>by unfold RelL at r;rw[r.1];rfl
 | x::xs,_,_,r=>by
  unfold RelL at r
  obtain⟨v,ws,f1,f2,rfl,_,h2,_⟩:=r
  simp[h2.len2]
def m_(hK:X.K=T.K):Mir T W (p1 di) (fun xs H Q=>∃ p ys,xs=[.ref p]/\SqL X.K H p ys/\ys.length < 64 /\
    ((∃ ns,ys=ns.map V.int/\∀ l,H l=none->Q (.ref l) (upd H l (.lst ((fV ns).map V.int)))) \/
     (∃ps,PrH X.K H ys ps/\ps.Nodup/\∀l (q:List Nat),H l=none->q.Perm (List.range ys.length)->q.map (fun i=>ps.getD i (0,0))=bK ps->Q (.ref l) (upd H l (.lst (q.map fun i=>ys.getD i .non)))))):=by
  intro B F L Y H Q F' H' xs vs fx g r nf nd new q
  match xs,r,q with
  | [x],r,q =>
    obtain⟨v,rfl,r1⟩:=r.one
    simp only[p1]at q
    cases x with
    | lst f xs =>
      unfold Rel at r1
      obtain⟨a,ws,fp',rfl,hl,hr,_⟩:=r1
      simp only[di]at q
      by_cases hn:decide (xs.length < 64)=true
      . rw[if_pos hn]at q
        refine⟨a,ws,rfl,by rw[hK];exact hl.sq,by rw[<- hr.len2];exact of_decide_eq_true hn,?_⟩
        cases e1:bB xs with
        | some ns =>
          rw[e1]at q
          dsimp only at q
          exact .inl ⟨ns,eB e1 hr,GE.newL q g (tK _) (fun _ h=>by cases h) .nil (fun _ h=>by cases h)⟩
        | none =>
          rw[e1]at q
          dsimp only at q
          cases e2:dH xs with
          | none=>rw[e2]at q;exact q.elim
          | some ps =>
            rw[e2]at q
            dsimp only at q
            by_cases hd:decide ps.Nodup=true
            . rw[if_pos hd]at q
              obtain⟨hp,rfl⟩:=fF e2 hr
              refine .inr ⟨ps,by rw[hK];exact hp,of_decide_eq_true hd,fun l q' hl' pm e=>?_⟩
              have h2:=hp.map q' fun i hi=>by simpa using pm.mem_iff.mp hi
              rw[e]at h2
              exact GE.newL q g h2.rel (fun _ h=>by cases h) .nil (fun _ h=>by cases h) l hl'
            . rw[if_neg hd]at q;exact q.elim
      . rw[if_neg hn]at q;exact q.elim
    | _=>exact q.elim
  | [],_,q=>exact q.elim
  | _::_::_,_,q=>simp only[p1]at q;exact q.elim
def pQ:bootBuiltins "sorted" = some (.builtin "sorted"):=by decide +kernel
def jJ(hK:X.K=T.K)(hg:Gl X "sorted")(hm:X.mg "sorted" = none)(ha:SE X T W e m)(he:starEach [e] X.env=[(false,eval e X.env)]:=by rfl):SE X T W (.Call (.Name "sorted" p) [e] [] pos) (ao (p1 di) (ae m ak)) :=
 dP l_ (m_ hK) hg hm pQ (aa ha ai (by rw[he];rfl)) (he:=by rw[he];rfl) (hpl:=rfl)
end
section
variable{X:Cx}{T:Tb}{W:Nat->St->Hp->Prop}{Z:Zn}{F:Addr->Prop}{H:Hp}{Y:St}{env:En}{fp:Nat->List Addr}
def eM(hg:Gl X x)(hm:∃t,X.mg x=some (.int i t))(hd:(x ==("__debug__" : Str))=false:=by decide):SE X T W (.Name x pos) (mC (.int i)):=by
 obtain⟨t,h⟩:=hm
 exact qd hg h hd
end
def bH{α:Type}(n:Nat)(y:α)(xs:List α):List α:=xs.take n++y::xs.drop n
def tL:V->List V->Hp->VK->Prop:=fun x vs H Q=>∃l xs k y,x=.ref l/\vs=[.int k,y]/\H l=some (.lst xs)/\xs.length < sizeLine/\(0<=k/\k<=xs.length)/\Q .non (upd H l (.lst (bH k.toNat y xs)))
def oK(r:aB xs its)(n:Nat):aB (xs.take n) (its.take n):=by
 induction r generalizing n with
 | nil=>simp;exact .nil
 | cons a b ih=>cases n with
  | zero=>exact .nil
  | succ n=>exact .cons a (ih n)
def oM(r:aB xs its)(n:Nat):aB (xs.drop n) (its.drop n):=by
 induction r generalizing n with
 | nil=>simp;exact .nil
 | cons a b ih=>cases n with
  | zero=>exact .cons a b
  | succ n=>exact ih n
section
variable{X:Cx}{T:Tb}{W:Nat->St->Hp->Prop}{Z:Zn}{F F1 B L:Addr->Prop}{H H1:Hp}{Y:St}{env:En}{fp:Nat->List Addr}{D:Ends}
def pp:MtM X "list.insert" tL:=by
 intro gV s Y H x vs v us Q I rx rv h
 obtain⟨l,xs,k,y,rfl,rfl,hH,hz,⟨h0,h1⟩,q⟩:=h
 cases rx
 obtain⟨u0,u,rfl,⟨t,rfl⟩,ru⟩:∃u0 u,us=[u0,u]/\aT (.int k) u0/\aT y u:=by
  cases rv with
  | cons a b=>obtain⟨u,rfl,ru⟩:=eK b;exact⟨_,u,rfl,a,ru⟩
 obtain⟨z,its,n,r,hl,e⟩:=I.lstM hH
 have hlen:=r.length
 have fits:¬(!Builtin.List.listFitsIndex k)=true:=by
  rw[sizeLine_eq]at hz
  simp[Builtin.List.listFitsIndex]
  omega
 refine call_meets PySem.F.slot_list_insert ⟨_,e,rfl⟩ PySem.F.entry_list_insert (PySem.F.args_list_insert_3 _ _ _) (PySem.AutoSeq1.list_insert_list_int_val_1 l its.toArray n k t u fits (by rw[List.size_toArray];omega)) ⟨e,?_⟩
 refine⟨.non,_,I.lset (its':=bH k.toNat u its) hH e ?_ ?_ ?_,rfl,q⟩
 ·have hk:min k.toNat its.toArray.size=k.toNat:=by rw[List.size_toArray];omega
  dsimp only
  rw[if_neg (by omega),hk]
  apply Array.toList_inj.mp
  simp[bH,List.take_of_length_le]
 ·exact(oK r _).append (.cons ru (oM r _))
 ·simp[bH];omega
def RelL.ins(hv:Rel T F B L H v u []):∀(n:Nat) {xs:List PV}{ws:List V}{f:List Addr},RelL T F B L H xs ws f->RelL T F B L H (bH n v xs) (bH n u ws) f
 | 0,xs,ws,f,h=>by
  show RelL T F B L H (v::xs) (u::ws) f
  unfold RelL
  exact⟨u,ws,[],f,rfl,hv,h,rfl⟩
 | n+1,[],ws,f,h=>by
  unfold RelL at h
  obtain⟨rfl,rfl⟩:=h
  show RelL T F B L H [v] [u] []
  unfold RelL
  exact⟨u,[],[],[],rfl,hv,dQ _ _ _ _,rfl⟩
 | n+1,x::xs,ws,f,h=>by
  unfold RelL at h
  obtain⟨w,ws,f1,f2,rfl,h1,h2,rfl⟩:=h
  show RelL T F B L H (x::bH n v xs) (w::bH n u ws) _
  unfold RelL
  exact⟨w,_,f1,f2,rfl,h1,RelL.ins hv n h2,rfl⟩
def ot:PV->Bool
 | .int _=>true
 | x=>(eR x).isSome
def rJ(h:ot v=true)(r:Rel T F B L H v u f):f=[]:=by
 have two:∀{v:PV},(eR v).isSome=true->Rel T F B L H v u f->f=[]:=fun {v} h r=>by
  obtain⟨y,e⟩:=Option.isSome_iff_exists.mp h
  have:dH [v]=some [y]:=by simp[dH,e]
  refine(fF (T:=T) (F:=F) (B:=B) (L:=L) (H:=H) (vs:=[u]) this ?_).2
  unfold RelL
  exact⟨u,[],f,[],rfl,r,dQ _ _ _ _,by simp⟩
 cases v with
 | int i=>unfold Rel at r;exact r.2
 | tup xs=>exact two h r
 | _=>simp[ot,eR]at h
def dE(i:Nat)(k e:ME):MS:=fun env=>match k env with
 | .ok (.int j)=>(match e env with
  | .ok v=>(match env[i]? with
   | some (some (.lst .own xs))=>if ot v&&v.noLnt&&decide (0<=j/\j<=xs.length)&&decide (xs.length < 10000000)then .next (env.set i (some (.lst .own (bH j.toNat v xs))))else .stuck
   | _=>.stuck)
  | _=>.stuck)
 | _=>.stuck
def eX(hK:X.K=T.K)(hN:X.N[i]?=some x)(hv:Vis X.env.scope x)(hk:SE X T W k mk)(he:SE X T W e m)
  (hs:swapsWith (.Call (.Attribute (.Name x px) "insert" apos) [k,e] [] cpos) none pos.line X.env=pure false:=by rfl) (hst:starEach [k,e] X.env=[(false,eval k X.env),(false,eval e X.env)]:=by rfl) (hst2:starEach [e] X.env=[(false,eval e X.env)]:=by rfl)
  (hfew:((backTo cpos (starEach [k,e] X.env)).all (fun x=>!x.1)&&(backToKw cpos (keywordEach [] X.env)).all (fun x=>x.1.isSome)&&decide ([k,e].length+([]:List Keyword).length+(if([]:List Keyword).isEmpty then 0 else 1) < 30))=true:=by rfl)
  (hline:(apos.endLine==cpos.line)=true:=by rfl) (hd:(x ==("__debug__" : Str))=false:=by decide) (hcd:(x ==("__classdict__" : Str))=false:=by decide) :
  SS X T W (.Expr (.Call (.Attribute (.Name x px) "insert" apos) [k,e] [] cpos) pos) (dE i mk m) :=
 PS.wk (gd (pos:=pos) (qz (cpos:=cpos) (apos:=apos) PySem.F.plainAttrs_list PySem.F.slot_list_insert PySem.F.type_list_insert pp (dv (pos:=px) hN hv hd hcd) (aa hk (aa he ai (by rw[hst2];rfl)) (by rw[hst,hst2])) rfl hfew hline (by rw[hst,hst2]) (by rw[hst2];rfl)) hs) fun D Y H ⟨Z,F,env,fp,S,q⟩=>by
  unfold dE at q
  split at q
  ·rename_i j ek
   split at q
   ·rename_i v em
    split at q
    ·rename_i xs eo
     split at q
     ·rename_i hc
      simp only[Bool.and_eq_true,decide_eq_true_eq]at hc
      obtain⟨⟨⟨c1,c2⟩,c3⟩,c4⟩:=hc
      obtain⟨a,ws,fp',h1,hl,hr,hf⟩:=S.lst eo
      refine⟨_,h1,.inl ⟨rfl,ws,by rw[hK];exact SqL.of hl⟩,Z,F,env,fp,S,?_⟩
      unfold ae ak
      rw[ek,em]
      intro vs H1 F1 f1 g r n1 d1 w1
      unfold RelL at r
      obtain⟨u0,us,f2,f3,rfl,r0,r1,rfl⟩:=r
      obtain⟨u,rfl,ru⟩:=r1.one
      unfold Rel at r0
      obtain⟨rfl,rfl⟩:=r0
      have f0:=rJ c1 ru
      subst f0
      have S1:=S.grow g
      have hl1:=g.ext a _ hl
      have hln:=hr.length
      refine⟨a,ws,j,u,rfl,rfl,hl1,?_,by omega,?_⟩
      ·rw[<- hln,sizeLine_eq];omega
      ·have ndi:(a::fp').Nodup:=by rw[<- hf];exact S.nd i
       exact q F1 _ Y _ (S1.mutL (v:=u) eo h1 hf (RelL.ins (Rel.noL (by simpa[PV.noLnt]using c2) ru) j.toNat (hr.ext g.ext g.mono)) (List.nodup_cons.mp ndi).2 (fun b hb=>.inl hb) hl1)
     ·exact q.elim
    ·exact q.elim
   ·exact q.elim
  ·exact q.elim
end
def t8:PV->PV->Res PV:=c_ (fun _ j=>decide (0<=j)) fun i j=>.int (i / 2 ^ j.toNat)
section
variable{X:Cx}{T:Tb}{W:Nat->St->Hp->Prop}{Z:Zn}{F F1 B L:Addr->Prop}{H H1:Hp}{Y:St}{env:En}{fp:Nat->List Addr}{gV:List (Addr×Obj)}{s:Shared}{a b:Expr}{ma mb:ME}{pos:Pos}
def vZ(ha:SE X T W a ma)(hb:SE X T W b mb):SE X T W (.BinOp a .RShift b pos) (mOp t8 ma mb):=g8 wF (lH (fun _ _ h=>of_decide_eq_true h) fun _ _ _ _ _ _=>el) ha hb
end
structure Sup(K:PySem.W.Frag)(C f:Addr):Prop where
 ga:PySem.W.specialIn K (.ref C) "__getattribute__" = some (some (.builtin "type.__getattribute__"))
 rd:PySem.W.readsIn K C (.type "type")=true
 fc:PySem.W.findCls K (.ref C) (.type "type") "__init__" = some (.val (.ref f))
 kp:PySem.W.keepIn K (.ref f)=true
def gH(m:List PV->Res PV)(ms:MA):MS:=fun env=>match (env[(0:Nat)]?:Option (Option PV))with
 | some (some (.obj .own c ks vs))=>match ms env with
  | .ok xs=>if hasL Fl.isLnt xs then .stuck else match m (.obj .own c ks vs::mapL Fl.toBor xs)with
   | .ok (.obj fl c' ks' vs')=>if(PV.obj fl c' ks' vs').has Fl.isBor then .stuck else .next (env.set 0 (some (.obj fl c' ks' vs')))
   | _=>.stuck
  | .exc c=>.exc c env
  | .stuck=>.stuck
 | _=>.stuck
section
variable{X:Cx}{T:Tb}{W:Nat->St->Hp->Prop}{Z:Zn}{F F1 F3:Addr->Prop}{H H1 H3:Hp}{Y:St}{env:En}{fp:Nat->List Addr}
def ap.sup(S:ap T Z F H Y env fp)(h0:Y[0]?=some (some v0))(hl:0 < env.length)
  (nx:∀a∈fx,Z.H0 a=none\/Z.fp0 a) (nj:∀a∈fx,∀i,a∉fp i) (nF:∀a∈fx,¬F a) (cx:∀a∈fx,∃o,H a=some o/\Chg o)
  (hp3:bz T ⟨H,F,(·∈fp 0++fx),B',some v0⟩ F3 H3) (r:Rel T F3 B' NoL H3 o v0 f3) (hb:o.has Fl.isBor=false) (nd3:f3.Nodup) (nf3:∀a∈f3,¬F3 a) (new3:∀a∈f3,H a=none\/a∈fp 0++fx)
  (ho:∃fl c ks xs,o=.obj fl c ks xs):ap T Z F3 H3 Y (env.set 0 (some o)) (a5 fp 0 f3):=by
 have zfree:∀a,H a=none->Z.H0 a=none\/Z.fp0 a:=fun a z=>by
  by_cases q:Z.fp0 a
  ·exact .inr q
  ·refine .inl ?_
   cases w:Z.H0 a with
   | none=>rfl
   | some o=>rw[S.hp.keep a o w q]at z;exact(nomatch z)
 have inn:∀a∈fp 0++fx,Z.H0 a=none\/Z.fp0 a:=fun a h=>by
  rcases List.mem_append.mp h with h | h
  ·exact S.new 0 a h
  ·exact nx a h
 have jn:∀j,j≠0->∀a∈fp j,a∉fp 0++fx:=fun j hj a ha z=>by
  rcases List.mem_append.mp z with z | z
  ·exact S.dj j 0 hj a ha z
  ·exact nj a z j ha
 have chgn:∀a∈fp 0++fx,∃o,H a=some o/\Chg o:=fun a h=>by
  rcases List.mem_append.mp h with h | h
  ·exact S.ch 0 a h
  ·exact cx a h
 have rel':Rel T F3 Z.B NoL H3 o v0 f3:=Rel.noB hb r
 refine⟨⟨S.hp.bo,fun a u e n=>hp3.keep a u (S.hp.keep a u e n) fun z=>?_,fun a h=>hp3.f0 a (S.hp.f0 a h),fun a h=>?_,hp3.ft⟩,by rw[List.length_set,S.len],fun j pv e=>?_,fun j=>?_,fun j k hjk b hb=>?_,fun j b hb=>?_,fun j b hb=>?_,fun j b hb=>?_,fun w hw=>?_⟩
 ·rcases inn a z with q | q
  ·rw[e]at q;cases q
  ·exact n q
 ·rcases hp3.fn a h with z | z | z
  ·exact S.hp.fn a z
  ·exact .inr (zfree a z)
  ·exact .inr (inn a z)
 ·by_cases hj:j=0
  ·subst hj
   rw[List.getElem?_set_self hl]at e
   cases e
   refine⟨v0,h0,?_⟩
   unfold a5
   rw[if_pos rfl]
   exact rel'
  ·rw[List.getElem?_set_ne (Ne.symm hj)]at e
   obtain⟨w,h1,h2⟩:=S.rel j pv e
   refine⟨w,h1,?_⟩
   unfold a5
   rw[if_neg hj]
   refine Rel.tr (fun a h=>hp3.f0 a h) (fun _ h=>h) (fun _ h=>h) (fun b u q h=>hp3.keep b u q fun z=>?_) (fun b hb u q=>hp3.keep b u q (jn j hj b hb)) h2
   rcases h with h | h | h | h
   ·rcases List.mem_append.mp z with z | z
    ·exact(S.dis 0 b z).1 h
    ·exact nF b z h
   ·obtain⟨⟨o',e1⟩,e2⟩:=S.hp.bo.1 b h
    rcases inn b z with q' | q'
    ·rw[e1]at q';cases q'
    ·exact e2 q'
   ·exact h
   ·obtain⟨o',e1,e2⟩:=chgn b z
    have q1:H b=some u:=q
    rw[q1]at e1
    cases e1
    cases u with
    | lst _ | ins _ _ _=>exact h
    | _=>exact e2
 ·unfold a5;split
  ·exact nd3
  ·exact S.nd j
 ·grind[a5,ap,bz,Gr]
 ·unfold a5 at hb
  by_cases h1:j=0
  ·rw[if_pos h1]at hb;exact⟨nf3 b hb,r.there b hb⟩
  ·rw[if_neg h1]at hb
   obtain⟨n,u,e⟩:=S.dis j b hb
   refine⟨fun z=>?_,u,hp3.keep b u e (jn j h1 b hb)⟩
   rcases hp3.fn b z with q | q | q
   ·exact n q
   ·have q':H b=none:=q
    rw[e]at q';cases q'
   ·exact jn j h1 b hb q
 ·unfold a5 at hb
  by_cases h1:j=0
  ·rw[if_pos h1]at hb
   rcases new3 b hb with q | q
   ·exact zfree b q
   ·exact inn b q
  ·rw[if_neg h1]at hb;exact S.new j b hb
 ·unfold a5 at hb
  by_cases h1:j=0
  ·rw[if_pos h1]at hb;exact r.chg b hb
  ·rw[if_neg h1]at hb
   obtain⟨u,e,c⟩:=S.ch j b hb
   exact⟨u,hp3.keep b u e (jn j h1 b hb),c⟩
 ·obtain⟨h1,h2⟩:=S.pn w hw
  refine⟨h1,?_⟩
  obtain⟨fl,c,ks,xs,e⟩:=ho
  subst e
  unfold cE
  rw[List.getElem?_set_self hl]
def vT
  (cx:Ctx X T W kk) (U:Sup X.K C f) (G:bX X.prog X.w X.K X.mg X.base (CXP X.prog X.w) k f fd ps (spI T ps.length m)) (hk:k<=kk) (hg:Gl X x) (hm:X.mg x=some (.ref C)) (hb:dA X.K fd ps [])
  (hN:X.N[0]?=some y) (hv:Vis X.env.scope y) (hn:eD ms n) (hps:n+1=ps.length) (ha:SA X T W es ms)
  (hdb:(x ==("__debug__" : Str))=false:=by decide) (hdy:(y ==("__debug__" : Str))=false:=by decide) (hcy:(y ==("__classdict__" : Str))=false:=by decide)
  (hst:starEach (.Name y px::es) X.env=(false,eval (.Name y px) X.env)::starEach es X.env:=by rfl) (hpl:(backTo pos (starEach es X.env)).any (·.1)=false:=by rfl)
  (ht:eval (.Call (.Attribute (.Name x p) "__init__" apos) (.Name y px::es) [] pos) X.env=(do
   let ov <- eval (.Name x p) X.env
   standAt apos.atName
   let(f,first) <- holding [ov] (getMethod ov "__init__" pl)
   callWith pos f first (backTo pos (starEach (.Name y px::es) X.env)) (backToKw pos (keywordEach [] X.env))):=by rfl)
  (hs:swapsWith (.Call (.Attribute (.Name x p) "__init__" apos) (.Name y px::es) [] pos) none pos'.line X.env=pure false:=by rfl) :
  SS X T W (.Expr (.Call (.Attribute (.Name x p) "__init__" apos) (.Name y px::es) [] pos) pos') (gH m ms):=by
 have pe:PE X (.Call (.Attribute (.Name x p) "__init__" apos) (.Name y px::es) [] pos) (fun Y H Q=>∃ Z F env fp,ap T Z F H Y env fp/\(match gH m ms env with
   | .next e=>∀F' H' fp',ap T Z F' H' Y e fp'->Q .non H'
   | .exc c e=>∀F' H' fp',ap T Z F' H' Y e fp'->W c Y H'
   | _=>False)):=by
  intro gV s Y H Q I h
  obtain⟨Z,F,env,fp,S,q⟩:=h
  refine PySem.W.methodCall_KW (pl:=pl) (e9 I hg hm ?_ hdb) ht
  refine PySem.W.method_cls I.kIn U.ga (PySem.W.cls_value I.kIn U.rd U.fc rfl ?_)
  have I':=I.tok (s.toks+1)
  unfold gH at q
  cases e0:env[0]? with
  | none=>rw[e0]at q;exact q.elim
  | some o0 =>
  cases o0 with
  | none=>rw[e0]at q;exact q.elim
  | some ov =>
  obtain⟨v0,hv0,r0⟩:=S.rel 0 ov e0
  have hl0:0 < env.length:=(List.getElem?_eq_some_iff.mp e0).1
  rw[e0]at q
  by_cases hob:∃c ks vs,ov=.obj .own c ks vs
  case neg =>
   exfalso
   cases ov with
   | obj fl c ks vs =>
    cases fl with
    | own=>exact hob ⟨_,_,_,rfl⟩
    | _=>exact q
   | _=>exact q
  obtain⟨c,ks,vs0,rfl⟩:=hob
  dsimp only at q
  have pa:=dD (X:=X) (dv (pos:=px) hN hv hdy hcy) ha hst
  refine PySem.W.callWith_K (first:=[]) (h₀:=X.base) I'.ok.mod.kin U.kp (thn (pa pos gV _ Y H (fun vs H1=>∀ us s1,L2.Inv X gV Y H1 s1->aB vs us->wpAny (model X.prog X.w) X.A (call (.ref f) us) (EP X gV Y Q) X.xe s1) I'
   ⟨v0,hv0,tA.bind S (fun c e=>?_) (fun e=>by rw[e]at q;exact q) fun xs vs H1 F1 f1 e1 g1 r1 n1 d1 w1 us s1 I1 rv=>?_⟩) fun us s1 ⟨vs,H1,I1,r,q1⟩=>⟨I1.kIn,q1 us s1 I1 r⟩) hst hpl
  ·rw[e]at q
   exact fun H' x=>q F H' fp (S.grow (Gr.same S.hp.ft x))
  rw[e1]at q
  dsimp only at q
  by_cases hln:hasL Fl.isLnt xs=true
  ·rw[if_pos hln]at q;exact q.elim
  rw[if_neg hln]at q
  have hln':hasL Fl.isLnt xs=false:=by simpa using hln
  have S1:=S.grow g1
  obtain⟨v0',hv0',r0'⟩:=S1.rel 0 _ e0
  rw[hv0]at hv0'
  cases hv0'
  have xn:∀a∈f1,∀i,a∉fp i:=fun a ha i hi=>by
   obtain⟨_,o,e⟩:=S.dis i a hi
   rw[w1 a ha]at e;cases e
  have xz:∀a∈f1,Z.H0 a=none\/Z.fp0 a:=fun a ha=>by
   by_cases q:Z.fp0 a
   ·exact .inr q
   ·refine .inl ?_
    cases w:Z.H0 a with
    | none=>rfl
    | some o =>
     have:=w1 a ha
     rw[S.hp.keep a o w q]at this;cases this
  have hBo:∀a,Z.B a->(∃o,H1 a=some o)/\a∉fp 0++f1:=fun a h=>by
   obtain⟨⟨o,h1⟩,h2⟩:=S.hp.bo.1 a h
   have h3:=S.hp.keep a o h1 h2
   refine⟨⟨o,g1.ext a o h3⟩,fun z=>?_⟩
   rcases List.mem_append.mp z with z | z
   ·exact S.bow a h ⟨0,z⟩
   ·rw[w1 a z]at h3;cases h3
  have R:nN T F1 (fun a=>(∃o,H1 a=some o)/\a∉fp 0++f1) H1 (.obj .own c ks vs0::mapL Fl.toBor xs) (v0::vs) (fp 0++f1):=by
   refine⟨?_,List.nodup_append.mpr ⟨S.nd 0,d1,fun a ha b hb z=>by subst z;exact xn a hb 0 ha⟩,fun a ha=>?_,⟨fun a h=>h,S.tbo g1.ext fun a z=>(List.mem_append.mp z).elim (fun z=>.inr ⟨0,z⟩) fun z=>.inl (w1 a z)⟩,g1.dom⟩
   ·unfold RelL
    refine⟨v0,vs,fp 0,f1,rfl,Rel.tr (fun _ h=>h) hBo (fun _ h=>h) (fun _ _ q _=>q) (fun _ _ _ q=>q) r0',?_,rfl⟩
    exact RelL.toBor hBo (fun _ h=>h.elim) (RelL.noL (L':=NoL) hln' r1)
   ·rcases List.mem_append.mp ha with ha | ha
    ·exact(S1.dis 0 a ha).1
    ·exact n1 a ha
  have r2:aB (v0::vs) us:=rv
  have hl:us.length=ps.length:=by
   rw[<- r2.length,List.length_cons,<- r1.length,hn env xs e1]
   exact hps
  refine wpAny_call (codeAny_mono (G.run X.A X.stack s1 H1 ⟨us,[]⟩ us (v0::vs) Q (fun cls _ H'=>∃ c,cls=.ref (T.xcl c)/\W c Y H') (cx.room.mono hk) I1.env0 (by simpa using hb s1 us I1.kIn (by simpa using hl)) r2
   ⟨by rw[r2.length,hl],v0,_,F1,_,_,rfl,R,⟨.own,c,ks,vs0,rfl⟩,?_⟩) fun rs s' hq=>?_)
  ·cases e:m (.obj .own c ks vs0::mapL Fl.toBor xs)with
   | ok o =>
    rw[e]at q
    cases o with
    | obj fl c' ks' vs' =>
     dsimp only at q
     by_cases hbr:(PV.obj fl c' ks' vs').has Fl.isBor=true
     ·rw[if_pos hbr]at q;exact q.elim
     ·rw[if_neg hbr]at q
      dsimp only at q
      have hbr':(PV.obj fl c' ks' vs').has Fl.isBor=false:=by simpa using hbr
      intro F3 H3 f3 hp3 r3 nd3 nf3 new3
      exact q F3 H3 _ (S1.sup hv0 hl0 xz xn n1 r1.chg hp3 r3 hbr' nd3 nf3 new3 ⟨_,_,_,_,rfl⟩)
    | _=>exact q.elim
   | exc c | stuck=>rw[e]at q;exact q.elim
  ·cases rs with
   | error e =>
    obtain⟨cls,H',fl,c,rfl,hw⟩:=hq
    exact cx.xf gV Y H1 s1 c H' e s' I1 fl hw
   | ok fl =>
    cases fl with
    | ret u=>exact I1.after hq
    | next | brk | cont=>exact False.elim hq
 exact PS.wk (gd (pos:=pos') pe hs) fun D Y H ⟨Z,F,env,fp,S,q⟩=>by
  refine⟨Z,F,env,fp,S,?_⟩
  cases e:gH m ms env with
  | next e' | exc c e'=>rw[e]at q;exact fun F' H' fp' S'=>q F' H' Y fp' S'
  | ret v =>
   exfalso
   revert e
   unfold gH
   split
   ·split
    ·split
     ·simp
     ·split
      ·split<;>simp
      ·simp
    ·simp
    ·simp
   ·simp
  | brk e' =>
   exfalso
   revert e
   unfold gH
   split
   ·split
    ·split
     ·simp
     ·split
      ·split<;>simp
      ·simp
    ·simp
    ·simp
   ·simp
  | cont e' =>
   exfalso
   revert e
   unfold gH
   split
   ·split
    ·split
     ·simp
     ·split
      ·split<;>simp
      ·simp
    ·simp
    ·simp
   ·simp
  | stuck=>rw[e]at q;exact q
end
end PR
namespace PR
open PySem PySem.Spec L2
def whL(c:MT)(b:MS):Nat->MS
 | 0,_=>.stuck
 | k+1,env=>match c env with
  | .ok true=>match b env with
   | .next e | .cont e=>whL c b k e
   | .brk e=>.next e
   | .ret v=>.ret v
   | .exc x e=>.exc x e
   | .stuck=>.stuck
  | .ok false=>.next env
  | .exc x=>.exc x env
  | .stuck=>.stuck
def nr(c:MT)(b:MS):MS:=whL c b 100000
section
variable{X:Cx}{T:Tb}{W:Nat->St->Hp->Prop}
def p3(hp:PassesOwn (model X.prog X.w) X.A X.env X.xe)(hc:ST X T W c mc)(hb:SSs X T W body mb):SS X T W (.While c body [] pos) (nr mc mb) :=
 PS.wk (qo (pos:=pos) hp hc hb) fun D Y H ⟨Z,F,env,fp,S,q⟩=>by
  unfold nr at q
  refine⟨fun m σ' H'=>∃F' env' fp',ap T Z F' H' σ' env' fp'/\GS T W Z D (whL mc mb m env'),⟨100000,F,env,fp,S,q⟩,?_⟩
  rintro m σ' H' ⟨F',env',fp',S',q'⟩
  cases m with
  | zero=>exact q'.elim
  | succ k =>
   unfold whL at q'
   refine tT.bind S' (fun c e H2 x=>?_) (fun e=>by rw[e]at q';exact q') fun b H1 F1 e g=>?_
   ·rw[e]at q'
    exact q' F' H2 σ' fp' (S'.grow (Gr.same S'.hp.ft x))
   ·cases b with
    | false=>rw[e]at q';exact(if_neg (by decide)).mpr (q' F1 H1 σ' fp' (S'.grow g))
    | true =>
     rw[e]at q'
     dsimp only at q'
     refine(if_pos rfl).mpr ⟨fun σ2 H2=>∃F2 env2 fp2,ap T Z F2 H2 σ2 env2 fp2/\GS T W Z D (whL mc mb k env2),fun σ2 H2 h=>⟨k,Nat.lt_succ_self k,h⟩,Z,F1,env',fp',S'.grow g,?_⟩
     cases eb:mb env' with
     | next e2 | cont e2=>rw[eb]at q';exact fun F3 H3 σ3 fp3 S3=>⟨F3,e2,fp3,S3,q'⟩
     | brk e2 | ret v | exc c e2 | stuck=>rw[eb]at q';exact q'
end
def cZ:List PV->Option (List Bool)
 | []=>some []
 | .bl b::xs=>(cZ xs).map (b::·)
 | _=>none
def t9(f:List Bool->Bool):PV->Res PV
 | .lst _ xs=>match cZ xs with
  | some bs=>.ok (.bl (f bs))
  | none=>.stuck
 | _=>.stuck
def nK(bs:List Bool):Bool:=bs.any id
section
variable{X:Cx}{T:Tb}{W:Nat->St->Hp->Prop}{Z:Zn}{F F1 B L:Addr->Prop}{H H1:Hp}{Y:St}{env:En}{fp:Nat->List Addr}{gV:List (Addr×Obj)}{s:Shared}
def j_:∀{xs:List PV}{vs:List V}{f:List Addr}{bs:List Bool},cZ xs=some bs->RelL T F B L H xs vs f->vs=bs.map V.bl
 | [],_,_,_,e,h=>by
  simp only[cZ,Option.some.injEq]at e
  subst e
  unfold RelL at h
  rw[h.1];rfl
 | .bl b::xs,_,_,bs,e,h=>by
  simp only[cZ]at e
  cases e2:cZ xs with
  | none=>rw[e2]at e;cases e
  | some ms =>
   rw[e2]at e
   cases e
   unfold RelL at h
   obtain⟨v,ws,f1,f2,rfl,h1,h2,_⟩:=h
   unfold Rel at h1
   rw[h1.1,j_ e2 h2]
   rfl
 | .non::_,_,_,_,e,_ | .int _::_,_,_,_,e,_ | .str _::_,_,_,_,e,_ | .lst _ _::_,_,_,_,e,_ | .tup _::_,_,_,_,e,_ | .obj _ _ _ _::_,_,_,_,e,_ | .exc _::_,_,_,_,e,_ | .box _ _::_,_,_,_,e,_=>by simp[cZ]at e
def sd:∀{bs:List Bool}{its:List Value},aB (bs.map V.bl) its->∀(i:Nat) (v:Value),its.toArray[i]?=some v->v=.bool (bs.getD i false)
 | [],_,r,i,v,e=>by cases r;simp at e
 | b::bs,_,r,i,v,e=>by
  cases r with
  | cons r1 r2 =>
   cases i with
   | zero =>
    simp at e
    subst e
    exact r1
   | succ i=>exact sd r2 i v (by simpa using e)
def tw(bs:List Bool)(n:Nat)(h:n=bs.length):(List.range n).any (fun i=>bs.getD i false)=nK bs:=by
 subst h
 unfold nK
 rw[Bool.eq_iff_iff,List.any_eq_true,List.any_eq_true]
 refine⟨fun⟨i,hi,z⟩=>?_,fun⟨x,hx,z⟩=>?_⟩
 ·have hi':=List.mem_range.mp hi
  exact⟨bs[i],List.getElem_mem hi',by simpa[hi']using z⟩
 ·obtain⟨i,hi,e⟩:=List.getElem_of_mem hx
  exact⟨i,List.mem_range.mpr hi,by rw[<- e]at z;simpa[hi]using z⟩
def pO{bs:List Bool}{its:List Value}(r:aB (bs.map V.bl) its):TruthOf X.prog X.w A (fun i v=>its.toArray[i]?=some v) (fun i=>bs.getD i false):=fun i v s Q E hP hQ=>by
 rw[sd r i v hP]
 exact wpAny_truthy_bool hQ
def k7(hc:X.calm=true):dz X (.builtin "any") (fun xs H Q=>∃p bs,xs=[.ref p]/\SqL X.K H p (bs.map V.bl)/\Q (.bl (nK bs)) H):=by
 intro gV s Y H xs us Q I rv h
 obtain⟨p,bs,rfl,hq,q⟩:=h
 obtain⟨u,rfl,rx⟩:=eK rv
 cases rx
 have hh:=I.ok.hd hc
 obtain⟨its,r,pl,hz⟩:=I.list hq
 have hl:its.toArray.size=bs.length:=by
  have:=r.length
  simpa using this.symm
 obtain⟨o,ho,hcl,n,hd⟩:=pl.isList
 have hlt:=Heap.lt_size ho
 have key:∀{h':Heap}{tk:Nat},(∀b o,s.heap.get? b=some o->h'.get? b=some o)->EP X gV Y Q (.bool (nK bs)) { s with heap:=h',toks:=tk }:=fun k=>⟨.bl _,H,i5 I k,rfl,q⟩
 refine call_any_walk (wpAny_pyIter_list pl.isList ?_)
 refine⟨_,_,_,_,_,_,(fun i=>bs.getD i false),rfl,Walks.list (A:=X.A.in1) hh _ p (Nat.ne_of_lt hlt) its.toArray,⟨⟨_,Heap.get?_push_size _ rfl,rfl,rfl⟩,pl.isList.push _⟩,pO r,fun h' tk hk=>?_⟩
 rw[tw bs _ hl]
 exact key (eS hk)
def uq(hK:X.K=T.K)(f:List Bool->Bool):Mir T W (p1 (t9 f)) (fun xs H Q=>∃p bs,xs=[.ref p]/\SqL X.K H p (bs.map V.bl)/\Q (.bl (f bs)) H):=by
 intro B F L Y H Q F' H' xs vs fx gr r nf nd new q
 match xs,r,q with
 | [x],r,q =>
  obtain⟨v,rfl,rv⟩:=RelL.one r
  simp only[p1]at q
  cases x with
  | lst fl ys =>
   simp only[t9]at q
   cases e2:cZ ys with
   | none=>rw[e2]at q;exact q.elim
   | some bs =>
    rw[e2]at q
    dsimp only at q
    unfold Rel at rv
    obtain⟨a,us,fp',rfl,hl,hr,_⟩:=rv
    have hu:=j_ e2 hr
    subst hu
    exact⟨a,_,rfl,by rw[hK];exact hl.sq,q.scal gr gE⟩
  | _=>exact q.elim
 | [],_,q=>exact q.elim
 | _::_::_,_,q=>simp only[p1]at q;exact q.elim
def xO:bootBuiltins "any" = some (.builtin "any"):=by decide +kernel
def v8(hK:X.K=T.K)(hc:X.calm=true)(hg:Gl X "any")(hm:X.mg "any" = none)(ha:SE X T W e m)(he:starEach [e] X.env=[(false,eval e X.env)]:=by rfl):SE X T W (.Call (.Name "any" p) [e] [] pos) (ao (p1 (t9 nK)) (ae m ak)) :=
 dP (k7 hc) (uq hK nK) hg hm xO (aa ha ai (by rw[he];rfl)) (he:=by rw[he];rfl) (hpl:=rfl)
end
end PR
namespace PR
open PySem PySem.Spec L2
open AutoSeq1 (wpAny_loadPart')
section
variable{X:Cx}{T:Tb}{W:Nat->St->Hp->Prop}{Z:Zn}{F F1 B L:Addr->Prop}{H H1:Hp}{Y:St}{env:En}{fp:Nat->List Addr}{D:Ends}
def RelL.erase:∀{xs:List PV}{ws:List V} (n:Nat),RelL T F B L H xs ws []->RelL T F B L H (xs.eraseIdx n) (ws.eraseIdx n) []
 | [],ws,n,h=>by
  unfold RelL at h
  obtain⟨rfl,_⟩:=h
  simpa using dQ F B L H
 | x::xs,ws,n,h=>by
  unfold RelL at h
  obtain⟨w,ws,f1,f2,rfl,h1,h2,e⟩:=h
  obtain⟨rfl,rfl⟩:=List.append_eq_nil_iff.mp e.symm
  cases n with
  | zero=>simpa using h2
  | succ n =>
   rw[List.eraseIdx_cons_succ,List.eraseIdx_cons_succ]
   unfold RelL
   exact⟨w,_,[],[],rfl,h1,RelL.erase n h2,rfl⟩
def iT(i:Nat)(k:ME):MS:=fun env=>match k env with
 | .ok (.int j)=>(match env[i]? with
  | some (some (.lst .own xs))=>if cW xs&&decide (0<=j/\j < xs.length)&&decide (xs.length < 10000000)then .next (env.set i (some (.lst .own (xs.eraseIdx j.toNat))))else .stuck
  | _=>.stuck)
 | _=>.stuck
def p6(hK:X.K=T.K)(hN:X.N[i]?=some x)(hv:Vis X.env.scope x)(hk:SE X T W k mk)
  (hs:swapsWith (.Call (.Attribute (.Name x px) "pop" apos) [k] [] cpos) none pos.line X.env=pure false:=by rfl) (hst:starEach [k] X.env=[(false,eval k X.env)]:=by rfl)
  (hfew:((backTo cpos (starEach [k] X.env)).all (fun x=>!x.1)&&(backToKw cpos (keywordEach [] X.env)).all (fun x=>x.1.isSome)&&decide ([k].length+([]:List Keyword).length+(if([]:List Keyword).isEmpty then 0 else 1) < 30))=true:=by rfl)
  (hline:(apos.endLine==cpos.line)=true:=by rfl) (hd:(x ==("__debug__" : Str))=false:=by decide) (hcd:(x ==("__classdict__" : Str))=false:=by decide) :
  SS X T W (.Expr (.Call (.Attribute (.Name x px) "pop" apos) [k] [] cpos) pos) (iT i mk) :=
 PS.wk (gd (pos:=pos) (qz (cpos:=cpos) (apos:=apos) PySem.F.plainAttrs_list PySem.F.slot_list_pop PySem.F.type_list_pop qN (dv (pos:=px) hN hv hd hcd) (aa hk ai hst) rfl hfew hline hst) hs) fun D Y H ⟨Z,F,env,fp,S,q⟩=>by
  unfold iT at q
  split at q
  ·rename_i j ek
   split at q
   ·rename_i xs eo
    split at q
    ·rename_i hc
     simp only[Bool.and_eq_true,decide_eq_true_eq]at hc
     obtain⟨⟨c1,c2⟩,c3⟩:=hc
     obtain⟨a,ws,fp',h1,hl,hr,hf⟩:=S.lst eo
     refine⟨_,h1,.inl ⟨rfl,ws,by rw[hK];exact SqL.of hl⟩,Z,F,env,fp,S,?_⟩
     unfold ae ak
     rw[ek]
     intro vs H1 F1 f1 g r n1 d1 w1
     obtain⟨u,rfl,ru⟩:=r.one
     unfold Rel at ru
     obtain⟨rfl,rfl⟩:=ru
     have S1:=S.grow g
     have hl1:=g.ext a _ hl
     have hln:=hr.length
     have f0:=(dU c1 hr).1
     subst f0
     have hj:j.toNat < ws.length:=by omega
     have c3':ws.length < 10000000:=by omega
     refine⟨a,ws,j,j.toNat,ws[j.toNat],rfl,rfl,hl1,by omega,by omega,?_,List.getElem?_eq_getElem hj,?_⟩
     ·exact PySem.StrLaws.seqIndex_nonneg (by omega) (by omega)
     ·exact q F1 _ Y _ (S1.mutL (v:=.non) eo h1 hf (RelL.erase j.toNat (hr.ext g.ext g.mono)) List.nodup_nil (fun _ z=>(nomatch z)) hl1)
    ·exact q.elim
   ·exact q.elim
  ·exact q.elim
end
open AutoSeq1 (wpAny_loadPart')
section
variable{X:Cx}{T:Tb}{W:Nat->St->Hp->Prop}{F B L:Addr->Prop}{H:Hp}
def tJ{α:Type}(k:Nat)(xs:List α):List α:=(List.replicate k xs).flatten
def qC:PV->PV->Res PV
 | .lst .own xs,.int k=>if cW xs&&decide (0<=k/\k<=1000000)&&decide (xs.length * k.toNat<=10000000)then .ok (.lst .own (tJ k.toNat xs))else .stuck
 | _,_=>.stuck
def RelL.rep(r:RelL T F B L H xs vs []):∀k:Nat,RelL T F B L H (tJ k xs) (tJ k vs) []
 | 0=>dQ F B L H
 | k+1=>by
  have:=RelL.append r (RelL.rep r k)
  simpa[tJ,List.replicate_succ]using this
def uk:gB T W qC zd:=by
 intro B F L Y H Q F' H' x y v u fx fy g rx ry nf nd new q
 cases x with
 | lst f xs =>
  cases f with
  | own =>
   cases y with
   | int k =>
    simp only[qC]at q
    split at q
    ·rename_i hc
     simp only[Bool.and_eq_true,decide_eq_true_eq]at hc
     obtain⟨⟨c1,c2⟩,c3⟩:=hc
     unfold Rel at rx ry
     obtain⟨a,vs,fp1,rfl,hl1,hr1,hf1⟩:=rx
     obtain⟨rfl,rfl⟩:=ry
     obtain⟨rfl,_⟩:=dU c1 hr1
     have ln:=hr1.length
     refine⟨a,k,vs,rfl,rfl,hl1,by omega,by omega,by rw[<- ln,sizeLine_eq];omega,?_⟩
     exact GE.newL q g (RelL.rep hr1 k.toNat) (fun b hb=>(nomatch hb)) List.nodup_nil (fun b hb=>(nomatch hb))
    ·exact q.elim
   | _=>exact q.elim
  | _=>cases y<;>exact q.elim
 | _=>exact q.elim
def v3(ha:SE X T W a ma)(hb:SE X T W b mb):SE X T W (.BinOp a .Mult b pos) (mOp qC ma mb):=g8 wG uk ha hb
end
open AutoSeq1 (wpAny_loadPart')
def nt(i j:Nat):MS:=fun env=>match env[i]?,env[j]? with
 | some (some v),some (some w)=>if i=j then .stuck else .ret (.tup [v,w])
 | _,_=>.stuck
section
variable{X:Cx}{T:Tb}{W:Nat->St->Hp->Prop}{Z:Zn}{F F1 B L:Addr->Prop}{H H1:Hp}{Y:St}{env:En}{fp:Nat->List Addr}{D:Ends}
def p4{x1}(hN:X.N[i]?=some x)(hv:Vis X.env.scope x)(hN2:X.N[j]?=some y)(hv2:Vis X.env.scope y)(hd:(x ==("__debug__" : Str))=false:=by decide)(hcd:(x ==("__classdict__" : Str))=false:=by decide)(hd2:(y ==("__debug__" : Str))=false:=by decide)(hcd2:(y ==("__classdict__" : Str))=false:=by decide) :
  SS X T W (.Return (some (.Tuple [.Name x px,.Name y py] x1 tpos)) pos) (nt i j) :=
 PS.wk (mX (pos:=pos) (qw (pos:=tpos) (dD (te:=vQ i) (dv (pos:=px) hN hv hd hcd) (dD (te:=vQ j) (dv (pos:=py) hN2 hv2 hd2 hcd2) iJ)))) fun D Y H ⟨Z,F,env,fp,S,q⟩=>by
  unfold nt at q
  split at q
  case h_2=>exact q.elim
  rename_i pv pw ei ej
  split at q
  case isTrue=>exact q.elim
  rename_i hij
  obtain⟨v,e1,r1⟩:=S.rel i pv ei
  obtain⟨w,e2,r2⟩:=S.rel j pw ej
  refine⟨v,e1,w,e2,p_ (by simp),fun p hp=>?_⟩
  have g:Gr F H F (upd H p (.tup [v,w])):=Gr.same S.hp.ft (Ext.upd hp)
  have S2:=S.grow g
  obtain⟨v',e1',r1'⟩:=S2.rel i pv ei
  obtain⟨w',e2',r2'⟩:=S2.rel j pw ej
  rw[e1]at e1'
  cases e1'
  rw[e2]at e2'
  cases e2'
  refine q F (upd H p (.tup [v,w])) (.ref p) (fp i++fp j) S2.hp ?_ (List.nodup_append.mpr ⟨S.nd i,S.nd j,fun a ha b hb z=>?_⟩) (fun a ha=>?_) (fun a ha=>?_)
  ·unfold Rel
   refine⟨p,_,rfl,SqT.of aJ,?_⟩
   unfold RelL
   refine⟨v,[w],fp i,fp j,rfl,r1',?_,rfl⟩
   unfold RelL
   exact⟨w,[],fp j,[],rfl,r2',by unfold RelL;exact⟨rfl,rfl⟩,by simp⟩
  ·subst z
   exact S.dj i j hij a ha hb
  ·rcases List.mem_append.mp ha with h | h
   ·exact(S2.dis i a h).1
   ·exact(S2.dis j a h).1
  ·rcases List.mem_append.mp ha with h | h
   ·exact S.new i a h
   ·exact S.new j a h
end
section
variable{P:Program}{w:World}{mg:Str->Option Value}{base:Heap}{T:Tb}
def xm(F:Fun T.K x qual st f fd)(S:cI N ps (au st))
  (body:∀ (cdv:Value) (A:Around) (outer:List Env) (s:Shared) (H:Hp) (E:XK),Ctx (cr (CXP P w) P w T.K mg base N qual (au st) f cdv A outer s H E) T (WD T E) k ->
   SSs (cr (CXP P w) P w T.K mg base N qual (au st) f cdv A outer s H E) T (WD T E) (a9 st) m):bX P w T.K mg base (CXP P w) (k+1) f fd ps (spM T ps.length (a6 N.length m)) :=
 Aj F S fun cdv A outer s H E hr=>body cdv A outer s H E (oH hr)
def uC(F:Fun T.K x qual st f fd)(S:cI N ps (au st))
  (body:∀ (cdv:Value) (A:Around) (outer:List Env) (s:Shared) (H:Hp) (E:XK),Ctx (cr (CXP P w) P w T.K mg base N qual (au st) f cdv A outer s H E) T (WD T E) k ->
   SSs (cr (CXP P w) P w T.K mg base N qual (au st) f cdv A outer s H E) T (WD T E) (a9 st) m):bX P w T.K mg base (CXP P w) (k+1) f fd ps (spI T ps.length (iE N.length m)) :=
 xo F S fun cdv A outer s H E hr=>body cdv A outer s H E (oH hr)
end
end PR
namespace PR
open PySem PySem.Spec L2
section
variable{X:Cx}{T:Tb}{W:Nat->St->Hp->Prop}{Z:Zn}{F F1 B L:Addr->Prop}{H H1:Hp}{Y:St}{env:En}{fp:Nat->List Addr}
def gJ(i:Nat):MS:=fun env=>match env[i]? with
 | some (some (.lst .own xs))=>.next (env.set i (some (.lst .own (mapL Fl.freeze xs))))
 | _=>.stuck
def ap.frzIn(S:ap T Z F H Y env fp)(e:env[i]?=some (some (.lst .own xs))):∃F' fp',ap T Z F' H Y (env.set i (some (.lst .own (mapL Fl.freeze xs)))) fp':=by
 obtain⟨a,vs,fo,h1,hl,hr,hfp⟩:=S.lst e
 have hi:i < env.length:=(List.getElem?_eq_some_iff.mp e).1
 have nd:=S.nd i
 rw[hfp]at nd
 have na:=(List.nodup_cons.mp nd).1
 have mem:∀b∈fo,b∈fp i:=fun b hb=>by rw[hfp];exact List.mem_cons_of_mem _ hb
 refine⟨fun b=>F b\/b∈fo,a5 fp i [a],⟨S.hp.bo,S.hp.keep,fun b h=>.inl (S.hp.f0 b h),fun b h=>h.elim (S.hp.fn b) fun z=>.inr (S.new i b (mem b z)),fun b h=>h.elim (S.hp.ft b) fun z=>(S.dis i b (mem b z)).2⟩,by rw[List.length_set,S.len],fun j pv' e'=>?_,fun j=>?_,fun j k hjk b hb=>?_,fun j b hb=>?_,fun j b hb=>?_,fun j b hb=>?_,fun v hv=>?_⟩
 ·by_cases hj:j=i
  ·subst hj
   rw[List.getElem?_set_self hi]at e'
   cases e'
   refine⟨.ref a,h1,?_⟩
   unfold a5
   rw[if_pos rfl]
   unfold Rel
   exact⟨a,vs,[],rfl,hl,RelL.freeze (fun _ h=>.inl h) (fun b h=>.inr h) hr,rfl⟩
  ·rw[List.getElem?_set_ne (Ne.symm hj)]at e'
   obtain⟨w,h1,h2⟩:=S.rel j pv' e'
   refine⟨w,h1,?_⟩
   unfold a5
   rw[if_neg hj]
   exact h2.ext Ext.refl fun _ h=>.inl h
 ·unfold a5;split
  ·simp
  ·exact S.nd j
 ·unfold a5 at hb ⊢
  by_cases h1:j=i
  ·rw[if_pos h1]at hb
   rw[if_neg (fun z=>hjk (h1.trans z.symm)),List.mem_singleton.mp hb]
   exact S.dj i k (fun z=>hjk (h1.trans z)) a (by rw[hfp];simp)
  ·rw[if_neg h1]at hb
   by_cases h2:k=i
   ·rw[if_pos h2]
    intro z
    rw[List.mem_singleton.mp z]at hb
    exact S.dj j i h1 a hb (by rw[hfp];simp)
   ·rw[if_neg h2];exact S.dj j k hjk b hb
 ·unfold a5 at hb
  split at hb
  ·rw[List.mem_singleton.mp hb]
   have:=S.dis i a (by rw[hfp];simp)
   exact⟨fun z=>z.elim this.1 na,this.2⟩
  ·rename_i hj
   have:=S.dis j b hb
   exact⟨fun z=>z.elim this.1 fun z=>S.dj j i hj b hb (mem b z),this.2⟩
 ·unfold a5 at hb
  split at hb
  ·rw[List.mem_singleton.mp hb];exact S.new i a (by rw[hfp];simp)
  ·exact S.new j b hb
 ·unfold a5 at hb
  split at hb
  ·rw[List.mem_singleton.mp hb];exact S.ch i a (by rw[hfp];simp)
  ·exact S.ch j b hb
 ·obtain⟨h1,h2⟩:=S.pn v hv
  refine⟨h1,?_⟩
  unfold cE at h2 ⊢
  by_cases h0:i=0
  ·subst h0
   rw[e]at h2
   exact absurd h2 (by simp)
  ·rw[List.getElem?_set_ne h0];exact h2
def p7(h:SSs X T W sts m):SSs X T W sts (aq (gJ i) m):=PSs.wk h fun D Y H ⟨Z,F,env,fp,S,q⟩=>by
 have key:(∃xs,env[i]?=some (some (.lst .own xs))/\gJ i env=.next (env.set i (some (.lst .own (mapL Fl.freeze xs)))))\/ gJ i env=.stuck:=by
  unfold gJ
  split
  ·rename_i xs eo
   exact .inl ⟨xs,eo,rfl⟩
  ·exact .inr rfl
 unfold aq at q
 rcases key with⟨xs,eo,em⟩ | em
 ·rw[em]at q
  obtain⟨F',fp',S'⟩:=S.frzIn eo
  exact⟨Z,F',_,fp',S',q⟩
 ·rw[em]at q
  exact q.elim
end
open AutoSeq1 (wpAny_loadPart')
section
variable{X:Cx}{T:Tb}{W:Nat->St->Hp->Prop}{Z:Zn}{F F1 B L:Addr->Prop}{H H1:Hp}{Y:St}{env:En}{fp:Nat->List Addr}
def qY:ME:=fun _=>.stuck
def qb:SE X T W e qY:=fun gV s Y H Q I h=>by
 obtain⟨_,_,_,_,_,z⟩:=h
 exact z.elim
def mFz(m:ME):ME:=fun env=>(m env).bind fun v=>.ok (v.mapF Fl.freeze)
def qe(he:SE X T W e m):SE X T W e (mFz m):=PE.wk he fun Y H Q ⟨Z,F,env,fp,S,q⟩=>by
 unfold mFz at q
 refine⟨Z,F,env,fp,S,?_⟩
 cases em:m env with
 | stuck | exc c=>rw[em]at q;exact q
 | ok pv =>
  rw[em]at q
  simp only[Res.ok_bind]at q
  intro v H' F' f g r nf nd new
  refine q v H' (fun a=>F' a\/a∈f) [] ⟨g.ext,fun a h=>.inl (g.mono a h),fun a h=>h.elim (g.only a) fun z=>.inr (new a z),fun a h=>h.elim (g.dom a) fun z=>r.there a z⟩ (Rel.freeze (fun _ h=>.inl h) (fun a h=>.inr h) r) (fun _ h=>nomatch h) List.nodup_nil fun _ h=>nomatch h
end
open PySem.W (findIn fnOf keepIn nsIn codeIn isFn Frag)
structure FS where
 q:Str
 s:Stmt
 k:Nat
 N:List Str
 c:Option Nat
def aU(s:Stmt):Str:=match s with
 | .FunctionDef n _ _ _ _ _ _ _ _ _=>n
 | _ => ""
structure Clo(H:Hp)(fr:List Str)(cl:List (Str×Addr))(cvs:List V):Prop where
 inj:∀x y c,cl.lookup x=some c->cl.lookup y=some c->x=y
 sub:∀x c,cl.lookup x=some c->x∈fr
 len:cvs.length=fr.length
 val:∀(i:Nat) x v,fr[i]?=some x->cvs[i]?=some v->∃c o u z,cl.lookup x=some c/\H c=some (.frz o u)/\o.data=.cell (some z)/\aT v z
def Clo.tr(C:Clo H fr cl cvs)(h:∀b o u,H b=some (.frz o u)->H' b=some (.frz o u)):Clo H' fr cl cvs :=
 ⟨C.inj,C.sub,C.len,fun i x v h1 h2=>let⟨c,o,u,z,q1,q2,q3⟩:=C.val i x v h1 h2;⟨c,o,u,z,q1,h _ _ _ q2,q3⟩⟩
def Clo.at(C:Clo H fr cl cvs)(h:cl.lookup x=some c):∃o u z,H c=some (.frz o u)/\o.data=.cell (some z):=by
 obtain⟨i,hi,e⟩:=List.getElem_of_mem (C.sub x c h)
 have hv:i < cvs.length:=by rw[C.len];exact hi
 obtain⟨c',o,u,z,q1,q2,q3,_⟩:=C.val i x cvs[i] (by rw[List.getElem?_eq_getElem hi,e]) (List.getElem?_eq_getElem hv)
 rw[h]at q1;cases q1
 exact⟨o,u,z,q2,q3⟩
structure FI where
 name:Str
 qual:Str
 params:Arguments
 body:List Stmt
 scope:Scope
 fr:List Str
def FI.bx(i:FI)(H:Hp)(f:Addr)(cvs:List V):Prop:=∃cl doc pm ctv c' oc u u' vs t,H f=some (.frz (PySem.W.fnMade i.name i.qual i.params i.body i.scope cl doc pm c' ctv) u)/\
 H c'=some (.frz oc u')/\oc.data=.fields vs/\vs[1]?=some (.str i.qual t)/\Clo H i.fr cl cvs
def FI.bxs{i:FI}(h:∀b o u,H b=some (.frz o u)->H' b=some (.frz o u))(q:i.bx H f cvs):i.bx H' f cvs :=
 let⟨cl,doc,pm,ctv,c',oc,u,u',vs,t,h1,h2,h3,h4,C⟩:=q
 ⟨cl,doc,pm,ctv,c',oc,u,u',vs,t,h _ _ _ h1,h _ _ _ h2,h3,h4,C.tr h⟩
structure NFd where
 i:Nat
 j:Nat
 q:Str
 k:Nat
 fr:List Str
 N:List Str
structure PT where
 F:List FS
 C:List Str
 X:List Str
 A:List Str
 M:List (Nat×Str×Nat)
 Mk:List (Nat×Nat)
 U:List (Nat×Nat)
 B:List Str
 I:List (Str×Int)
 KT:List (Option Nat×String×List Bool)
 HT:List (Nat×List Bool)
 D:List (List Str):=[]
 G:Option NFd:=none
def fs0:FS:=⟨"", .Pass ⟨0,0,0,0⟩,0,[],none⟩
def pk{α:Type}(d:α)(l:List α)(i:Nat):α:=l.getD i (l.headD d)
def ey{α:Type}{d:α}{p:α->Prop}{l:List α}(hl:l≠[])(h:∀x∈l,p x)(i:Nat):p (pk d l i):=by
 unfold pk
 rw[List.getD_eq_getElem?_getD]
 cases e:l[i]? with
 | some C=>exact h C (List.mem_of_getElem? e)
 | none =>
  cases l with
  | nil=>exact absurd rfl hl
  | cons a l=>exact h a List.mem_cons_self
section
variable(p:PT)(K:Frag)
def gAt(x:Str):Addr:=match nsIn K mainGlobals x with
 | some (some (.ref a))=>a
 | _=>0
def mAt(c:Addr)(x:Str):Addr:=match findIn K (.ref c) x with
 | some (some (.ref a))=>a
 | _=>0
def dAt(f:Addr):FuncData:=match K.lookup f with
 | some ⟨_,_,.func d,_⟩=>d
 | _=>default
def PT.fs(i:Nat):FS:=pk fs0 p.F i
def PT.ps(i:Nat):List Str:=(p.fs i).N.take (p.fs i).k
def PT.ca(c:Nat):Addr:=gAt K (pk "" p.C c)
def PT.xa(c:Nat):Addr:=gAt K (pk "" p.X c)
def PT.fx(x:FS):Addr:=match x.c with
 | none=>gAt K (aU x.s)
 | some c=>mAt K (p.ca K c) (aU x.s)
def PT.fa(i:Nat):Addr:=p.fx K (p.fs i)
def lit(x:FS):Obj->Obj
 |⟨oc,od,.func d,sl⟩=>⟨oc,od,.func (fnOf (aU x.s) x.q (cS x.s) (a9 x.s) (au x.s) .none d.kwdefaults d.doc d.pyModule d.annotations d.code d.closureTuple),sl⟩
 | o=>o
def z_:Option Obj->Bool
 | some ⟨_,_,.func _,_⟩=>true
 | _=>false
def scB(x:FS):Bool:=decide ((au x.s).kind=.function)&&!(au x.s).isCoroutine&&!(au x.s).isGenerator&&decide x.N.Nodup&&decide (x.k<=x.N.length) &&
 (x.N.take x.k).all (fun y=>decide ((au x.s).names.lookup y=some .local \/(au x.s).names.lookup y=some .cell))&&(au x.s).names.all (fun y=>decide (y.2≠.free))
def PT.chF(x:FS):Bool:=z_ (K.lookup (p.fx K x))&&codeIn K (dAt K (p.fx K x)).code x.q&&keepIn K (.ref (p.fx K x))&&(match x.c with | none=>decide (nsIn K mainGlobals (aU x.s)=some (some (.ref (p.fx K x)))) | some _=>true)
def chC(A:List Str)(x:Str):Bool:=PySem.W.plainGet K (gAt K x) Str.empty&&PySem.W.hasDictIn K (gAt K x)&&PySem.W.plainOver K (gAt K x)&&decide (findIn K (.ref (gAt K x)) "__setattr__" = some (some (.builtin "object.__setattr__"))) &&
 decide (nsIn K mainGlobals x=some (some (.ref (gAt K x))))&&A.all (fun y=>decide (findIn K (.ref (gAt K x)) y=some none))
def PT.chM(x:Nat×Str×Nat):Bool:=decide (findIn K (.ref (p.ca K x.1)) x.2.1=some (some (.ref (p.fa K x.2.2))))&&isFn K (.ref (p.fa K x.2.2))&&keepIn K (.ref (p.fa K x.2.2))
def PT.chK(x:Nat×Nat):Bool:=PySem.W.makesIn K (p.ca K x.1)&&decide (findIn K (.ref (p.ca K x.1)) "__init__" = some (some (.ref (p.fa K x.2))))&&isFn K (.ref (p.fa K x.2))&&keepIn K (.ref (p.ca K x.1))
def vz(f:Addr):Option PySem.W.CFound->Bool
 | some (.val (.ref a))=>decide (a=f)
 | _=>false
def PT.chU(x:Nat×Nat):Bool:=decide (PySem.W.specialIn K (.ref (p.ca K x.1)) "__getattribute__" = some (some (.builtin "type.__getattribute__")))&&PySem.W.readsIn K (p.ca K x.1) (.type "type")&&vz (p.fa K x.2) (PySem.W.findCls K (.ref (p.ca K x.1)) (.type "type") "__init__")&&keepIn K (.ref (p.fa K x.2))
def tgV(y:Option Nat×String×List Bool):Value:=match y.1 with
 | some x=>.ref (p.xa K x)
 | none=>.type y.2.1
def chX(x:Str):Bool:=decide (nsIn K mainGlobals x=some (some (.ref (gAt K x))))&&pJ K (gAt K x)
def chI(x:Str×Int):Bool:=match nsIn K mainGlobals x.1 with
 | some (some (.int i _))=>decide (i=x.2)
 | _=>false
def PT.chT(y:Option Nat×String×List Bool):Bool:=decide (p.X.map (fun x=>PySem.W.kitOne K (.ref (gAt K x)) (tgV p K y))=y.2.2.map some)
def PT.chH(y:Nat×List Bool):Bool:=decide (p.X.map (fun x=>PySem.W.exmOne K (.ref (gAt K x)) (.ref (p.xa K y.1)))=y.2.map some)
def PT.ch1:Bool:=p.F.all (p.chF K)
def PT.ch2:Bool:=p.C.all (chC K p.A)&&p.Mk.all (p.chK K)&&p.U.all (p.chU K)&&p.X.all (chX K)&&p.B.all (fun x=>decide (nsIn K mainGlobals x=some none))&&p.I.all (chI K)&&p.KT.all (p.chT K)&&p.HT.all (p.chH K)
def PT.ch3:Bool:=p.M.all (p.chM K)
def PT.ob:List (Option Obj):=p.F.map fun x=>K.lookup (p.fx K x)
def PT.ol:List (Option Obj):=p.F.map fun x=>(K.lookup (p.fx K x)).map (lit x)
end
structure Tx(p:PT)(K:Frag)(mg:Str->Option Value):Prop where
 fn:∀i,Fun K (aU (p.fs i).s) (p.fs i).q (p.fs i).s (p.fa K i) (dAt K (p.fa K i))
 sc:∀i,cI (p.fs i).N (p.ps i) (au (p.fs i).s)
 bn:∀i,dA K (dAt K (p.fa K i)) (p.ps i) []
 gl:∀i,(p.fs i).c=none->mg (aU (p.fs i).s)=some (.ref (p.fa K i))
 cl:∀c,Cls K (p.ca K c)
 cg:∀c,mg (pk "" p.C c)=some (.ref (p.ca K c))
 cn:∀c,∀x∈p.A,db K (p.ca K c) x
 me:∀x∈p.M,vf K (p.ca K x.1) x.2.1 (p.fa K x.2.2)
 mm:∀x∈p.Mk,Mk K (p.ca K x.1) (p.fa K x.2)
 su:∀x∈p.U,Sup K (p.ca K x.1) (p.fa K x.2)
 xg:∀c,mg (pk "" p.X c)=some (.ref (p.xa K c))
 xe:∀c,pJ K (p.xa K c)=true
 bi:∀x∈p.B,mg x=none
 ci:∀x∈p.I,∃tk,mg x.1=some (.int x.2 tk)
 kt:∀y∈p.KT,∀c,PySem.W.kitOne K (.ref (p.xa K c)) (tgV p K y)=some (cJ y.2.2 c)
 ht:∀y∈p.HT,∀c,PySem.W.exmOne K (.ref (p.xa K c)) (.ref (p.xa K y.1))=some (cJ y.2 c)
def Bnd(x:FS):Prop:=∀(kV doc pm:Value) (an:Option Addr) (cdv ct:Value) (us:List Value),us.length=(x.N.take x.k).length->bindArgs (fnOf (aU x.s) x.q (cS x.s) (a9 x.s) (au x.s) .none kV doc pm an cdv ct) ⟨us,[]⟩=pure ((x.N.take x.k).zip us)
def sH:List FS->Prop
 | []=>True
 | x::l=>Bnd x/\sH l
def sH.get:∀{l:List FS},sH l->∀x∈l,Bnd x
 | [],_,_,h=>nomatch h
 | y::l,⟨h1,h2⟩,x,h=>by
  rcases List.mem_cons.mp h with rfl | h
  ·exact h1
  ·exact h2.get x h
section
variable{x:FS}
def lsS{us:List Value}(h:us.length=n+1):∃a r,us=a::r/\r.length=n:=by
 cases us with
 | nil=>cases h
 | cons a r=>exact⟨a,r,rfl,Nat.succ.inj h⟩
def bn1(h:∀(kV doc pm:Value) (an:Option Addr) (cdv ct u1:Value),bindArgs (fnOf (aU x.s) x.q (cS x.s) (a9 x.s) (au x.s) .none kV doc pm an cdv ct) ⟨[u1],[]⟩=pure ((x.N.take x.k).zip [u1]):=by intros;rfl)(hk:(x.N.take x.k).length=1:=by rfl):Bnd x:=fun kV doc pm an cdv ct us hl=>by
 rw[hk]at hl
 obtain⟨_,_,rfl,l1⟩:=lsS hl
 cases List.eq_nil_of_length_eq_zero l1
 exact h ..
def bn2(h:∀(kV doc pm:Value) (an:Option Addr) (cdv ct u1 u2:Value),bindArgs (fnOf (aU x.s) x.q (cS x.s) (a9 x.s) (au x.s) .none kV doc pm an cdv ct) ⟨[u1,u2],[]⟩=pure ((x.N.take x.k).zip [u1,u2]):=by intros;rfl)(hk:(x.N.take x.k).length=2:=by rfl):Bnd x:=fun kV doc pm an cdv ct us hl=>by
 rw[hk]at hl
 obtain⟨_,_,rfl,l1⟩:=lsS hl
 obtain⟨_,_,rfl,l2⟩:=lsS l1
 cases List.eq_nil_of_length_eq_zero l2
 exact h ..
def bn3(h:∀(kV doc pm:Value) (an:Option Addr) (cdv ct u1 u2 u3:Value),bindArgs (fnOf (aU x.s) x.q (cS x.s) (a9 x.s) (au x.s) .none kV doc pm an cdv ct) ⟨[u1,u2,u3],[]⟩=pure ((x.N.take x.k).zip [u1,u2,u3]):=by intros;rfl)(hk:(x.N.take x.k).length=3:=by rfl):Bnd x:=fun kV doc pm an cdv ct us hl=>by
 rw[hk]at hl
 obtain⟨_,_,rfl,l1⟩:=lsS hl
 obtain⟨_,_,rfl,l2⟩:=lsS l1
 obtain⟨_,_,rfl,l3⟩:=lsS l2
 cases List.eq_nil_of_length_eq_zero l3
 exact h ..
def bn4(h:∀(kV doc pm:Value) (an:Option Addr) (cdv ct u1 u2 u3 u4:Value),bindArgs (fnOf (aU x.s) x.q (cS x.s) (a9 x.s) (au x.s) .none kV doc pm an cdv ct) ⟨[u1,u2,u3,u4],[]⟩=pure ((x.N.take x.k).zip [u1,u2,u3,u4]):=by intros;rfl)(hk:(x.N.take x.k).length=4:=by rfl):Bnd x:=fun kV doc pm an cdv ct us hl=>by
 rw[hk]at hl
 obtain⟨_,_,rfl,l1⟩:=lsS hl
 obtain⟨_,_,rfl,l2⟩:=lsS l1
 obtain⟨_,_,rfl,l3⟩:=lsS l2
 obtain⟨_,_,rfl,l4⟩:=lsS l3
 cases List.eq_nil_of_length_eq_zero l4
 exact h ..
def bn5(h:∀(kV doc pm:Value) (an:Option Addr) (cdv ct u1 u2 u3 u4 u5:Value),bindArgs (fnOf (aU x.s) x.q (cS x.s) (a9 x.s) (au x.s) .none kV doc pm an cdv ct) ⟨[u1,u2,u3,u4,u5],[]⟩=pure ((x.N.take x.k).zip [u1,u2,u3,u4,u5]):=by intros;rfl)(hk:(x.N.take x.k).length=5:=by rfl):Bnd x:=fun kV doc pm an cdv ct us hl=>by
 rw[hk]at hl
 obtain⟨_,_,rfl,l1⟩:=lsS hl
 obtain⟨_,_,rfl,l2⟩:=lsS l1
 obtain⟨_,_,rfl,l3⟩:=lsS l2
 obtain⟨_,_,rfl,l4⟩:=lsS l3
 obtain⟨_,_,rfl,l5⟩:=lsS l4
 cases List.eq_nil_of_length_eq_zero l5
 exact h ..
end
def pX{l:List Str}{α:Type}{f:Addr->Option Bool}{bs:List Bool}(hl:l≠[])(h:l.map (fun x=>f (gAt K x))=bs.map some)(c:Nat):f (gAt K (pk "" l c))=some (cJ bs c):=by
 have e:gAt K (pk "" l c)=tZ (l.map (gAt K)) c:=by
  unfold pk tZ
  cases l with
  | nil=>exact absurd rfl hl
  | cons a l =>
   rw[List.getD_eq_getElem?_getD,List.getD_eq_getElem?_getD,List.getElem?_map]
   cases(a::l)[c]?<;>rfl
 rw[e]
 exact qt (g:=id) (by simpa using hl) (by rw[List.map_map];exact h) c
def Tx.of{p:PT}{K:Frag}{h:Heap}{mg:Str->Option Value}(X:K.In h)(N:h.Ns mainGlobals mg)(hb:sH p.F)(hs:p.F.all scB=true)(hF:p.F≠[])(hC:p.C≠[])(hX:p.X≠[])
  (e:p.ob K=p.ol K) (h1:p.ch1 K=true) (h2:p.ch2 K=true) (h3:p.ch3 K=true):Tx p K mg:=by
 simp only[PT.ch2,Bool.and_eq_true,List.all_eq_true,decide_eq_true_eq]at h2
 obtain⟨⟨⟨⟨⟨⟨⟨c1,c2⟩,c3⟩,c4⟩,c5⟩,c6⟩,c7⟩,c8⟩:=h2
 simp only[PT.ch1,PT.ch3,List.all_eq_true]at h1 h3 hs
 have fnx:∀x∈p.F,Fun K (aU x.s) x.q x.s (p.fx K x) (dAt K (p.fx K x)):=fun x hx=>by
  have q:=h1 x hx
  simp only[PT.chF,Bool.and_eq_true]at q
  obtain⟨⟨⟨q1,q2⟩,q3⟩,_⟩:=q
  have e1:K.lookup (p.fx K x)=(K.lookup (p.fx K x)).map (lit x):=List.map_inj_left.mp e x hx
  cases eo:K.lookup (p.fx K x)with
  | none=>rw[eo]at q1;cases q1
  | some o =>
   rw[eo]at e1 q1
   obtain⟨oc,od,dt,sl⟩:=o
   cases dt with
   | func d =>
    have e2:(⟨oc,od,.func d,sl⟩:Obj)=lit x ⟨oc,od,.func d,sl⟩:=Option.some.inj e1
    simp only[lit,Obj.mk.injEq,Data.func.injEq,true_and,and_true]at e2
    have ed:dAt K (p.fx K x)=d:=by unfold dAt;rw[eo]
    rw[ed]at q2 ⊢
    exact⟨⟨oc,od,d.kwdefaults,d.doc,d.pyModule,d.annotations,d.code,d.closureTuple,sl,e2,eo,q2⟩,q3⟩
   | _=>cases q1
 have scx:∀x∈p.F,cI x.N (x.N.take x.k) (au x.s):=fun x hx=>by
  have q:=hs x hx
  simp only[scB,Bool.and_eq_true,decide_eq_true_eq,List.all_eq_true,Bool.not_eq_true']at q
  obtain⟨⟨⟨⟨⟨⟨q1,q2⟩,q3⟩,q4⟩,q5⟩,q6⟩,q7⟩:=q
  exact⟨q1,q2,q3,q4,by rw[List.length_take,Nat.min_eq_left q5],q6,q7⟩
 have clx:∀x∈p.C,(Cls K (gAt K x)/\mg x=some (.ref (gAt K x)))/\∀y∈p.A,db K (gAt K x) y:=fun x hx=>by
  have q:=c1 x hx
  simp only[chC,Bool.and_eq_true,decide_eq_true_eq,List.all_eq_true]at q
  obtain⟨⟨⟨⟨⟨q1,q2⟩,q3⟩,q4⟩,q5⟩,q6⟩:=q
  exact⟨⟨⟨q1,q2,q3,q4⟩,PySem.W.mg_of X N q5⟩,q6⟩
 have xx:∀x∈p.X,mg x=some (.ref (gAt K x))/\pJ K (gAt K x)=true:=fun x hx=>by
  have q:=c4 x hx
  simp only[chX,Bool.and_eq_true,decide_eq_true_eq]at q
  exact⟨PySem.W.mg_of X N q.1,q.2⟩
 refine ⟨ey (p:=fun x=>Fun K (aU x.s) x.q x.s (p.fx K x) (dAt K (p.fx K x))) hF fnx,ey (p:=fun x=>cI x.N (x.N.take x.k) (au x.s)) hF scx,ey (p:=fun x=>dA K (dAt K (p.fx K x)) (x.N.take x.k) []) hF fun x hx=>(fnx x hx).binds (hb.get x hx),
  ey (p:=fun x=>x.c=none->mg (aU x.s)=some (.ref (p.fx K x))) hF fun x hx hc=>?_,ey (p:=fun x=>Cls K (gAt K x)) hC fun x hx=>(clx x hx).1.1,ey (p:=fun x=>mg x=some (.ref (gAt K x))) hC fun x hx=>(clx x hx).1.2,
  ey (p:=fun x=>∀y∈p.A,db K (gAt K x) y) hC fun x hx=>(clx x hx).2,fun x hx=>?_,fun x hx=>?_,fun x hx=>?_,ey (p:=fun x=>mg x=some (.ref (gAt K x))) hX fun x hx=>(xx x hx).1,ey (p:=fun x=>pJ K (gAt K x)=true) hX fun x hx=>(xx x hx).2,
  fun x hx=>PySem.W.mg_none_of X N (c5 x hx),fun x hx=>?_,fun y hy c=>?_,fun y hy c=>?_⟩
 ·have q:=h1 x hx
  simp only[PT.chF,Bool.and_eq_true]at q
  have q:=q.2
  rw[hc]at q
  exact PySem.W.mg_of X N (of_decide_eq_true q)
 ·have q:=h3 x hx
  simp only[PT.chM,Bool.and_eq_true,decide_eq_true_eq]at q
  exact⟨q.1.1,q.1.2,q.2⟩
 ·have q:=c2 x hx
  simp only[PT.chK,Bool.and_eq_true,decide_eq_true_eq]at q
  exact⟨q.1.1.1,q.1.1.2,q.1.2,q.2⟩
 ·have q:=c3 x hx
  simp only[PT.chU,Bool.and_eq_true,decide_eq_true_eq]at q
  refine⟨q.1.1.1,q.1.1.2,?_,q.2⟩
  have q:=q.1.2
  unfold vz at q
  split at q
  ·rename_i a e
   rw[e,of_decide_eq_true q]
  ·cases q
 ·have q:=c6 x hx
  unfold chI at q
  split at q
  ·rename_i i tk e
   exact⟨tk,by rw[<- of_decide_eq_true q];exact PySem.W.mg_of X N e⟩
  ·cases q
 ·exact pX (α:=Bool) (f:=fun a=>PySem.W.kitOne K (.ref a) (tgV p K y)) hX (of_decide_eq_true (c7 y hy)) c
 ·exact pX (α:=Bool) (f:=fun a=>PySem.W.exmOne K (.ref a) (.ref (p.xa K y.1))) hX (of_decide_eq_true (c8 y hy)) c
def PT.attOk(p:PT):Prop:=p.A.Nodup/\p.A.all gF=true
def PT.gs(p:PT):NFd:=p.G.getD ⟨0,0, "", 0,[],[]⟩
def PT.gst(p:PT):Stmt:=(a9 (p.fs p.gs.i).s).getD p.gs.j (.Pass ⟨0,0,0,0⟩)
def PT.fi(p:PT):FI:=⟨aU p.gst,p.gs.q,cS p.gst,a9 p.gst,au p.gst,p.gs.fr⟩
def PT.gpos(p:PT):Pos:=match p.gst with
 | .FunctionDef _ _ _ _ _ _ _ _ _ pos=>pos
 | _=>⟨0,0,0,0⟩
def PT.gt(p:PT)(K:Frag):Addr×Addr:=(PySem.W.tabIn K (aU (p.fs p.gs.i).s)).getD (0,0)
@[reducible] def PT.T(p:PT)(h:p.attOk)(K:Frag):Tb where
 K:=K
 nc:=p.C.length
 cls:=p.ca K
 att:=gA p.A
 inj:=pR h.1 h.2
 xcl:=p.xa K
 dk:=fun k=>p.D.getD k []
 bx:=fun k H a vs=>if k=99 then p.fi.bx H a vs else ∃o,H a=some (.frz o (.dK (((p.D.getD k []).map Sum.inr).zip vs)))/\(p.D.getD k []).length=vs.length
 bxs:=fun k H H' a vs h q=>by
  split at q
  ·rw[if_pos ‹_›];exact FI.bxs h q
  ·rw[if_neg ‹_›];obtain⟨o,z,l⟩:=q;exact⟨o,h _ _ _ z,l⟩
 tb:=fun a=>if p.G.isSome=true/\a=(p.gt K).2 then some #[rawInt p.gpos.line,rawInt p.gpos.col,.str p.gs.q 0]else none
section
variable{p:PT}{K:Frag}{mg:Str->Option Value}
def Tx.cls(t:Tx p K mg)(n:Nat):∀c < n,Cls K (p.ca K c):=fun c _=>t.cl c
def Tx.xc(t:Tx p K mg)(c:Nat):jC K (p.xa K c):=(oy (t.xe c)).1
def Tx.b(t:Tx p K mg)(j:Nat)(h:p.B[j]?=some x:=by rfl):mg x=none:=t.bi x (List.mem_of_getElem? h)
def Tx.c(t:Tx p K mg)(j:Nat)(h:p.I[j]?=some (x,i):=by rfl):∃tk,mg x=some (.int i tk):=t.ci (x,i) (List.mem_of_getElem? h)
end
open PySem.W (keepIn Frag)
section
variable{P:Program}{w:World}{K:Frag}{mg:Str->Option Value}{base:Heap}{p:PT}{hA:p.attOk}
abbrev OkF(p:PT)(hA:p.attOk)(P:Program)(w:World)(K:Frag)(mg:Str->Option Value)(base:Heap)(k i:Nat)(m:List PV->Res PV):Prop:=bX P w K mg base (CXP P w) k (p.fa K i) (dAt K (p.fa K i)) (p.ps i) (spM (p.T hA K) (p.ps i).length m)
abbrev OkI(p:PT)(hA:p.attOk)(P:Program)(w:World)(K:Frag)(mg:Str->Option Value)(base:Heap)(k i:Nat)(m:List PV->Res PV):Prop:=bX P w K mg base (CXP P w) k (p.fa K i) (dAt K (p.fa K i)) (p.ps i) (spI (p.T hA K) (p.ps i).length m)
def okC(i:Nat)(t:Tx p K mg)(body:∀ (cdv:Value) (A:Around) (outer:List Env) (s:Shared) (H:Hp) (E:XK),Ctx (cr (CXP P w) P w K mg base (p.fs i).N (p.fs i).q (au (p.fs i).s) (p.fa K i) cdv A outer s H E) (p.T hA K) (WD (p.T hA K) E) k->(p.fs i).N.Nodup ->
  SSs (cr (CXP P w) P w K mg base (p.fs i).N (p.fs i).q (au (p.fs i).s) (p.fa K i) cdv A outer s H E) (p.T hA K) (WD (p.T hA K) E) (a9 (p.fs i).s) m):OkF p hA P w K mg base (k+1) i (a6 (p.fs i).N.length m) :=
 xm (T:=p.T hA K) (t.fn i) (t.sc i) fun a b c d e f g=>body a b c d e f g (t.sc i).nd
def okI(i:Nat)(t:Tx p K mg)(body:∀ (cdv:Value) (A:Around) (outer:List Env) (s:Shared) (H:Hp) (E:XK),Ctx (cr (CXP P w) P w K mg base (p.fs i).N (p.fs i).q (au (p.fs i).s) (p.fa K i) cdv A outer s H E) (p.T hA K) (WD (p.T hA K) E) k->(p.fs i).N.Nodup ->
  SSs (cr (CXP P w) P w K mg base (p.fs i).N (p.fs i).q (au (p.fs i).s) (p.fa K i) cdv A outer s H E) (p.T hA K) (WD (p.T hA K) E) (a9 (p.fs i).s) m):OkI p hA P w K mg base (k+1) i (iE (p.fs i).N.length m) :=
 uC (T:=p.T hA K) (t.fn i) (t.sc i) fun a b c d e f g=>body a b c d e f g (t.sc i).nd
def dm{X:Cx}{k k2 i c:Nat}{mn:Str}{m m':List PV->Res PV}{ps:List Str}(j:Nat)(t:Tx p X.K X.mg)(G:bX X.prog X.w X.K X.mg X.base (CXP X.prog X.w) k (p.fa X.K i) (dAt X.K (p.fa X.K i)) ps (spM (p.T hA X.K) ps.length m))(e:some m=some m')(hj:p.M[j]?=some (c,mn,i):=by rfl)(hp:p.ps i=ps:=by rfl)(hk:k<=k2:=by decide) :
  ∃f fd,vf X.K (p.ca X.K c) mn f/\dA X.K fd ps []/\bX X.prog X.w X.K X.mg X.base (CXP X.prog X.w) k2 f fd ps (spM (p.T hA X.K) ps.length m'):=by
 cases e
 exact⟨_,_,t.me _ (List.mem_of_getElem? hj),hp▸t.bn i,G.mono hk⟩
end
def dno{n c:Nat}{q:Prop}(h:c < n)(hc:n<=c:=by exact Nat.le_add_left _ _):q:=absurd h (Nat.not_lt.mpr hc)
section
variable{X:Cx}{W:Nat->St->Hp->Prop}{p:PT}{hA:p.attOk}
def aP(t:Tx p X.K X.mg)
  (G:bX X.prog X.w X.K X.mg X.base (CXP X.prog X.w) k (p.fa X.K i) (dAt X.K (p.fa X.K i)) (p.ps i) (spM (p.T hA X.K) (p.ps i).length m)) (cx:Ctx X (p.T hA X.K) W kk) (ha:SA X (p.T hA X.K) W (e::es) ms)
  (hk:k<=kk:=by decide) (hx:aU (p.fs i).s=x:=by rfl) (hc:(p.fs i).c=none:=by rfl) (hg:Gl X x:=by rfl) (hn:eD ms n:=by repeat' first | exact cX | apply cq) (hps:n=(p.ps i).length:=by rfl)
  (hdb:(x ==("__debug__" : Str))=false:=by decide) (he:starEach (e::es) X.env=(false,eval e X.env)::starEach es X.env:=by rfl) (hpl:(backTo pos (starEach es X.env)).any (·.1)=false:=by rfl) :
  SE X (p.T hA X.K) W (.Call (.Name x np) (e::es) [] pos) (ao (aA m) ms) :=
 qf G cx hk hg (by subst hx;exact t.gl i hc) (t.fn i).kp (t.bn i) hn hps ha hdb he hpl
def iD(t:Tx p X.K X.mg)
  (D:jD X (p.T hA X.K) k mn ps [] disp) (cx:Ctx X (p.T hA X.K) W kk) (ho:SE X (p.T hA X.K) W o mo) (ha:SA X (p.T hA X.K) W (e::es) ms)
  (hm:∀k,gA p.A k≠mn:=by exact sF (by decide +kernel) (by decide +kernel)) (hk:k<=kk:=by decide) (hn:eD ms n:=by repeat' first | exact cX | apply cq) (hps:n+1=ps.length:=by rfl)
  (hst:starEach (e::es) X.env=(false,eval e X.env)::starEach es X.env:=by rfl) (hpl:(backTo pos (starEach es X.env)).any (·.1)=false:=by rfl)
  (ht:eval (.Call (.Attribute o mn apos) (e::es) [] pos) X.env=(do
   let ov <- eval o X.env
   standAt apos.atName
   let(f,first) <- holding [ov] (getMethod ov mn pl)
   callWith pos f first (backTo pos (starEach (e::es) X.env)) (backToKw pos (keywordEach [] X.env))):=by rfl) :
  SE X (p.T hA X.K) W (.Call (.Attribute o mn apos) (e::es) [] pos) (dM disp mo ms) :=
 v5 (pl:=pl) cx (t.cls _) hm D hk hn hps ho ha hst hpl ht
def v_(c:Nat)(t:Tx p X.K X.mg)
  (G:bX X.prog X.w X.K X.mg X.base (CXP X.prog X.w) k (p.fa X.K i) (dAt X.K (p.fa X.K i)) (p.ps i) (spI (p.T hA X.K) (p.ps i).length m)) (cx:Ctx X (p.T hA X.K) W kk) (ha:SA X (p.T hA X.K) W (e::es) ms)
  (hM:(c,i)∈ p.Mk:=by decide) (hcn:c < p.C.length:=by decide) (hk:k+1<=kk:=by decide) (hx:pk ("" : Str) p.C c=x:=by rfl) (hg:Gl X x:=by rfl) (hn:eD ms n:=by repeat' first | exact cX | apply cq) (hps:n+1=(p.ps i).length:=by rfl)
  (hdb:(x ==("__debug__" : Str))=false:=by decide) (he:starEach (e::es) X.env=(false,eval e X.env)::starEach es X.env:=by rfl) (hpl:(backTo pos (starEach es X.env)).any (·.1)=false:=by rfl) :
  SE X (p.T hA X.K) W (.Call (.Name x np) (e::es) [] pos) (kI c m ms) :=
 v4 (t.mm _ hM) hcn G cx hk hg (by subst hx;exact t.cg c) (t.bn i) hn hps ha hdb he hpl
def a_(k:Nat)(t:Tx p X.K X.mg)(cx:Ctx X (p.T hA X.K) W kk)(he:SE X (p.T hA X.K) W e m)(hf:gA p.A k=f:=by rfl)(hm:f∈p.A:=by decide)(hb:attributeBase e f X.env (eval e X.env)=eval e X.env:=by rfl) :
  SE X (p.T hA X.K) W (.Attribute e f pos) (mUn (av k) m):=tq cx.hK hf (t.cls _) (fun c _=>t.cn c f hm) he hb
def eO(ha:SA X T W es ms)(hn:eD ms n:=by repeat' first | exact cX | apply cq)(hs:n<=1000:=by decide):SE X T W (.List es pos) (dN ms):=v6 ha hn hs
def f8{x1}(ha:SA X T W es ms)(hn:eD ms n:=by repeat' first | exact cX | apply cq)(hs:n<=1000:=by decide):SE X T W (.Tuple es x1 pos) (dW ms):=vY ha hn hs
def bN(cx:Ctx X T W kk)(ha:SE X T W a ma)(hb:SE X T W b mb)(hs:ir b:=by exact fun _ _=>rfl):SE X T W (.Subscript a b pos) (mOp aI ma mb):=v7 cx.hK ha hb hs
def bc(hN:X.N.Nodup)(he:SE X T W e m)(hi:X.N[i]?=some x:=by rfl)(hx:Loc X.env.scope x:=by first | exact .inl rfl | exact .inr rfl)(hs:swapsWith e (some (.Name x pos')) pos.line X.env=pure false:=by rfl)
  (hf:X.fn x=true\/X.env.scope.names.lookup x=some .local:=by first | exact .inl rfl | exact .inr rfl | assumption):SS X T W (.Assign [.Name x pos'] e pos) (aE i m):=vU hN hi hx he hs hf
def sgN(hN:X.N.Nodup)(hi:X.N[i]?=some x:=by rfl)(hx:Loc X.env.scope x:=by first | exact .inl rfl | exact .inr rfl)(hf:X.fn x=true\/X.env.scope.names.lookup x=some .local:=by first | exact .inl rfl | exact .inr rfl | assumption):SG X T (.Name x pos) (tgN i):=sV hN hi hx hf
def eH(h:k<=i:=by decide):fP (tgN i) k:=pV h
def mT(cx:Ctx X T W kk)(he:SE X T W e m)(hN:X.N[i]?=some x:=by rfl)(hv:Vis X.env.scope x:=by first | exact Or.inl rfl | exact Or.inr (Or.inl rfl) | exact Or.inr (Or.inr rfl))
  (hs:swapsWith (.Call (.Attribute (.Name x px) "append" apos) [e] [] cpos) none pos.line X.env=pure false:=by rfl) (hst:starEach [e] X.env=[(false,eval e X.env)]:=by rfl)
  (hfew:((backTo cpos (starEach [e] X.env)).all (fun x=>!x.1)&&(backToKw cpos (keywordEach [] X.env)).all (fun x=>x.1.isSome)&&decide ([e].length+([]:List Keyword).length+(if([]:List Keyword).isEmpty then 0 else 1) < 30))=true:=by rfl)
  (hline:(apos.endLine==cpos.line)=true:=by rfl) (hd:(x ==("__debug__" : Str))=false:=by decide) (hcd:(x ==("__classdict__" : Str))=false:=by decide) :
  SS X T W (.Expr (.Call (.Attribute (.Name x px) "append" apos) [e] [] cpos) pos) (bE i m):=oR cx.hK hN hv he hs hst hfew hline hd hcd
def sFld(k:Nat)(t:Tx p X.K X.mg)(cx:Ctx X (p.T hA X.K) W kk)(he:SE X (p.T hA X.K) W e m)(hf:gA p.A k=f:=by rfl)(hm:f∈p.A:=by decide)(hN:X.N[i]?=some x:=by rfl)
  (hv:Vis X.env.scope x:=by first | exact Or.inl rfl | exact Or.inr (Or.inl rfl) | exact Or.inr (Or.inr rfl))
  (hs:swapsWith e (some (.Attribute (.Name x px) f pos')) pos.line X.env=pure false:=by rfl) (hd:(x ==("__debug__" : Str))=false:=by decide) (hcd:(x ==("__classdict__" : Str))=false:=by decide) :
  SS X (p.T hA X.K) W (.Assign [.Attribute (.Name x px) f pos'] e pos) (fH i k m):=vV cx.hK hf (t.cls _) (fun c _=>t.cn c f hm) hN hv he hs hd hcd
def b8(c:Nat)(t:Tx p X.K X.mg)(cx:Ctx X (p.T hA X.K) W k)(hB:X.K.In X.base)(hx:XM X (p.T hA X.K) W)(ha:SA X (p.T hA X.K) W (e::es) ms)
  (hm:pk ("" : Str) p.X c=x:=by rfl) (hg:Gl X x:=by rfl) (hn:eD ms n:=by repeat' first | exact cX | apply cq) (hn2:n<=100:=by decide) (hd:(x ==("__debug__" : Str))=false:=by decide)
  (he:starEach (e::es) X.env=(false,eval e X.env)::starEach es X.env:=by rfl) (hpl:(backTo cpos (starEach es X.env)).any (·.1)=false:=by rfl) :
  SS X (p.T hA X.K) W (.Raise (some (.Call (.Name x np) (e::es) [] cpos)) none pos) (aN c ms) :=
 oQ cx (by subst hm;exact t.xg c) hB (oy (t.xe c)).2 hx hg hn hn2 ha hd he hpl
def v9(c:Nat)(t:Tx p X.K X.mg)
  (G:bX X.prog X.w X.K X.mg X.base (CXP X.prog X.w) k (p.fa X.K i) (dAt X.K (p.fa X.K i)) (p.ps i) (spI (p.T hA X.K) (p.ps i).length m)) (cx:Ctx X (p.T hA X.K) W kk) (ha:SA X (p.T hA X.K) W es ms)
  (hU:(c,i)∈ p.U:=by decide) (hk:k<=kk:=by decide) (hx:pk ("" : Str) p.C c=x:=by rfl) (hg:Gl X x:=by rfl) (hN:X.N[0]?=some y:=by rfl) (hv:Vis X.env.scope y:=by first | exact Or.inl rfl | exact Or.inr (Or.inl rfl) | exact Or.inr (Or.inr rfl))
  (hn:eD ms n:=by repeat' first | exact cX | apply cq) (hps:n+1=(p.ps i).length:=by rfl)
  (hdb:(x ==("__debug__" : Str))=false:=by decide) (hdy:(y ==("__debug__" : Str))=false:=by decide) (hcy:(y ==("__classdict__" : Str))=false:=by decide)
  (hst:starEach (.Name y px::es) X.env=(false,eval (.Name y px) X.env)::starEach es X.env:=by rfl) (hpl:(backTo pos (starEach es X.env)).any (·.1)=false:=by rfl)
  (ht:eval (.Call (.Attribute (.Name x q) "__init__" apos) (.Name y px::es) [] pos) X.env=(do
   let ov <- eval (.Name x q) X.env
   standAt apos.atName
   let(f,first) <- holding [ov] (getMethod ov "__init__" pl)
   callWith pos f first (backTo pos (starEach (.Name y px::es) X.env)) (backToKw pos (keywordEach [] X.env))):=by rfl)
  (hs:swapsWith (.Call (.Attribute (.Name x q) "__init__" apos) (.Name y px::es) [] pos) none pos'.line X.env=pure false:=by rfl) :
  SS X (p.T hA X.K) W (.Expr (.Call (.Attribute (.Name x q) "__init__" apos) (.Name y px::es) [] pos) pos') (gH m ms) :=
 vT (pl:=pl) cx (t.su _ hU) G hk hg (by subst hx;exact t.cg c) (t.bn i) hN hv hn hps ha hdb hdy hcy hst hpl ht hs
end
section
variable{X:Cx}{W:Nat->St->Hp->Prop}{T:Tb}
abbrev nmC(X:Cx)(caps:List Nat)(tn:List Str):List Str:=caps.map (fun i=>X.N.getD i "")++ tn
def cOf(h:je X.env.scope scope X.N caps (nmC X caps tn) tn=true):cQ X scope caps (nmC X caps tn) tn:=u7 h rfl rfl
def g_(tn:List Str)(cx:Ctx X T W kk)(hi:SIc X T W tg iter mi)(hk:fP g caps.length)
  (hb:∀C s H ex,(nmC X caps tn).Nodup->SG (cxC X scope C (nmC X caps tn) s H ex) T tg g/\STs (cxC X scope C (nmC X caps tn) s H ex) T WF ifs mc/\SE (cxC X scope C (nmC X caps tn) s H ex) T WF elt me)
  (h:je X.env.scope scope X.N caps (nmC X caps tn) tn=true:=by kernel_rfl) (hs:∀x,foldedSetIterable iter X.env x=pure x:=by intro _;rfl):SE X T W (.ListComp elt [⟨tg,iter,ifs,0⟩] scope pos) (bD caps tn.length mi g mc me) :=
 tj (cOf h) cx.calm hi hk (fun C s H ex=>hb C s H ex (cOf h).nd) hs
def fq(tn:List Str)(cx:Ctx X T W kk)(hN:X.N.Nodup)(hi:SIc X T W tg iter mi)(hk:fP g caps.length)
  (hb:∀C s H ex,(nmC X caps tn).Nodup->SG (cxC X scope C (nmC X caps tn) s H ex) T tg g/\STs (cxC X scope C (nmC X caps tn) s H ex) T WF ifs mc/\SE (cxC X scope C (nmC X caps tn) s H ex) T WF elt me)
  (h:je X.env.scope scope X.N caps (nmC X caps tn) tn=true:=by kernel_rfl) (hy:X.N[i]?=some y:=by rfl) (hx:Loc X.env.scope y:=by first | exact .inl rfl | exact .inr rfl)
  (hsw:swapsWith (.ListComp elt [⟨tg,iter,ifs,0⟩] scope pos) (some (.Name y py)) spos.line X.env=pure true:=by rfl)
  (hs:∀x,foldedSetIterable iter X.env x=pure x:=by intro _;rfl)
  (hf:X.fn y=true\/X.env.scope.names.lookup y=some .local:=by first | exact .inl rfl | exact .inr rfl | assumption) :
  SS X T W (.Assign [.Name y py] (.ListComp elt [⟨tg,iter,ifs,0⟩] scope pos) spos) (aE i (bD caps tn.length mi g mc me)) :=
 sO (cOf h) cx.calm hN hy hx hi hk (fun C s H ex=>hb C s H ex (cOf h).nd) hsw hs hf
end
end PR
namespace PR
open PySem PySem.Spec L2
open PySem.W (findIn fnOf keepIn nsIn codeIn isFn Frag)
structure PE where
 D:List (FS×Bool)
 G:List (Str×List (Str×Int))
 S:List (Str×Str)
 P:List (Str×List Str)
def PT.hk(p:PT)(j:Nat):Nat×List Bool:=p.HT.getD j (0,[])
def PT.kk(p:PT)(j:Nat):Option Nat×String×List Bool:=p.KT.getD j (none, "", [])
def qU{α:Type}{l:List α}{d:α}{j:Nat}(h:j < l.length):l.getD j d∈l:=by rw[List.getD_eq_getElem?_getD,List.getElem?_eq_getElem h];exact List.getElem_mem h
section
variable{p:PT}{q:PE}{w:World}{K:Frag}{mg:Str->Option Value}
def Tx.kO(t:Tx p K mg)(j:Nat)(h:j < p.KT.length:=by decide)(e:(p.kk j).1=some c0:=by rfl)(c:Nat):PySem.W.kitOne K (.ref (p.xa K c)) (.ref (p.xa K c0))=some (cJ (p.kk j).2.2 c):=by
 have q:=t.kt (p.kk j) (by unfold PT.kk;rw[List.getD_eq_getElem?_getD,List.getElem?_eq_getElem h];exact List.getElem_mem h) c
 unfold tgV at q
 rw[e]at q
 exact q
def Tx.g(t:Tx p K mg)(j:Nat)(h:j < p.HT.length:=by decide)(c:Nat):PySem.W.exmOne K (.ref (p.xa K c)) (.ref (p.xa K (p.hk j).1))=some (cJ (p.hk j).2 c):=t.ht _ (by unfold PT.hk;rw[List.getD_eq_getElem?_getD,List.getElem?_eq_getElem h];exact List.getElem_mem h) c
def Tx.hO(t:Tx p K mg)(j:Nat)(h:j < p.HT.length:=by decide)(c:Nat)(hc:cJ (p.hk j).2 c=true):PySem.W.exmOne K (.ref (p.xa K c)) (.ref (p.xa K (p.hk j).1))=some true:=hc▸t.g j h c
end
open PySem.W (fnOf Frag)
section
variable{X:Cx}{W:Nat->St->Hp->Prop}{p:PT}{hA:p.attOk}{T:Tb}
def Tx.kB{K:PySem.W.Frag}{mg:Str->Option Value}(t:Tx p K mg)(j:Nat)(h:j < p.KT.length:=by decide)(e:(p.kk j).1=none:=by rfl)(c:Nat):PySem.W.kitOne K (.ref (p.xa K c)) (.type (p.kk j).2.1)=some (cJ (p.kk j).2.2 c):=by
 have q:=t.kt (p.kk j) (qU h) c
 unfold tgV at q
 rw[e]at q
 exact q
end
end PR
namespace PR
open PySem PySem.Spec L2
def cxF(P:Program)(w:World)(K:PySem.W.Frag)(mg:Str->Option Value)(base:Heap)(N:List Str)(qual:Str)(scope:Scope)(f:Addr)(cd:Value)(cl:List (Str×Addr))(A:Around)(outer:List Env)(s:Shared)(H:Hp)(E:XK):Cx where
 prog:=P
 w:=w
 K:=K
 mg:=mg
 base:=base
 A:=A.deeper (PySem.W.envX qual scope s.heap.objs.size f cd cl)
 N:=N
 s₀:=s
 H₀:=H
 env:=PySem.W.envX qual scope s.heap.objs.size f cd cl
 outer:=outer
 stack:=PySem.W.envX qual scope s.heap.objs.size f cd cl::outer
 ex:=[]
 calm:=true
 fn:=fun _=>false
 pn:=[]
 xe:=fun e s'=>wpAny (model P w) (A.deeper (PySem.W.envX qual scope s.heap.objs.size f cd cl)) (leaving (PySem.W.envX qual scope s.heap.objs.size f cd cl) e) (fun _ s''=>CXP P w outer H s E e s'') (fun e' s''=>CXP P w outer H s E e' s'') s'
structure mz(N ps fr:List Str)(sc:Scope):Prop where
 kind:sc.kind=.function
 co:sc.isCoroutine=false
 gen:sc.isGenerator=false
 nd:N.Nodup
 pre:N.take (ps++fr).length=ps++fr
 par:∀x∈ps,sc.names.lookup x=some .local
 fre:∀x∈fr,sc.names.lookup x=some .free
 only:∀y∈sc.names,y.2=.free->y.1∈fr
 nocell:∀y∈sc.names,y.2≠.cell
section
variable{P:Program}{w:World}{K:PySem.W.Frag}{mg:Str->Option Value}{base:Heap}{N ps fr:List Str}{qual:Str}{scope:Scope}{f:Addr}{cd:Value}{cl:List (Str×Addr)}{A:Around}{outer:List Env}{s:Shared}{H:Hp}{E:XK}
def iW:∀{ps:List Str}{us:List Value}{i:Nat}{y:Str}{u:Value},ps.Nodup->ps.length<=us.length->ps[i]?=some y->us[i]?=some u->(ps.zip us).reverse.lookup y=some u:=by
 intro ps us i y u nd hl h1 h2
 have key:∀(l:List (Str×Value)),(l.map (·.1)).Nodup->(y,u)∈ l->l.lookup y=some u:=by
  intro l
  induction l with
  | nil=>intro _ h;cases h
  | cons p l ih =>
   intro n h
   obtain⟨a,b⟩:=p
   rw[List.map_cons,List.nodup_cons]at n
   rw[List.lookup_cons]
   by_cases e:y=a
   ·subst e
    rw[beq_self_eq_true]
    rcases List.mem_cons.mp h with h | h
    ·cases h;rfl
    ·exact absurd (List.mem_map_of_mem (f:=(·.1)) h) n.1
   ·rw[beq_eq_false_iff_ne.mpr e]
    rcases List.mem_cons.mp h with h | h
    ·cases h;exact absurd rfl e
    ·exact ih n.2 h
 refine key _ ?_ (List.mem_reverse.mpr ?_)
 ·rw[List.map_reverse]
  refine(List.reverse_perm _).nodup_iff.mpr ?_
  rw[List.map_fst_zip hl]
  exact nd
 ·have:(ps.zip us)[i]?=some (y,u):=by rw[List.getElem?_zip_eq_some];exact⟨h1,h2⟩
  exact List.mem_of_getElem? this
def nv(S:mz N ps fr scope)(hd:A.handled=none)(e0:lh P w K mg base A outer s H)(C:Clo H fr cl cvs)(hl:vs.length=ps.length)(r:aB vs us)
  (hns:h'.Ns s.heap.objs.size fun x=>(ps.zip us).reverse.lookup x) (hk:∀b o,s.heap.get? b=some o->h'.get? b=some o) :
  Inv (cxF P w K mg base N qual scope f cd cl A outer s H E) [] (start N (vs++cvs)) H { s with heap:=h',toks:=t }:=by
 have hpl:(ps++fr).length<=N.length:=by have:=congrArg List.length S.pre;rw[List.length_take]at this;omega
 have noA:∀b:Addr,b ∉(cxF P w K mg base N qual scope f cd cl A outer s H E).ex:=fun b z=>absurd (show b ∈([]:List Addr)from z) (by simp)
 have ndN:=S.nd
 rw[<- List.take_append_drop (ps++fr).length N,S.pre]at ndN
 have ndP:ps.Nodup:=(List.nodup_append.mp (List.nodup_append.mp ndN).1).1
 refine ⟨⟨e0.mod,S.kind,rfl,rfl,Nat.le_refl _,C.inj,fun y hy=>?_,fun y c h=>(nomatch h),fun _=>hd,Around.frames_deeper e0.frames,.inr ⟨rfl,rfl⟩,fun b z=>absurd z (noA b),e0.bs,e0.bsz,fun b _ _=>noA b,fun b z=>absurd z (noA b),e0.funs,e0.frf⟩,
  rfl,e0.bare,Un.kept hk,⟨_,hns,fun i y v h1 h2 h3=>?_⟩,fun y c h=>?_,e0.hok.fresh (Nat.le_refl _),fun y c h=>?_,fun p hp=>absurd (show p ∈([]:List (Addr×Obj))from hp) (by simp),e0.hok.kept hk,?_⟩
 ·have hy:scope.names.lookup y=some .cell\/scope.names.lookup y=some .free:=hy
  rcases hy with hy | hy
  ·exact absurd rfl (S.nocell _ (PySem.mem_of_lookup hy))
  ·obtain⟨i,hi,e⟩:=List.getElem_of_mem (S.only _ (PySem.mem_of_lookup hy) rfl)
   have hv:i < cvs.length:=by rw[C.len];exact hi
   obtain⟨c',_,_,_,q1,_⟩:=C.val i y cvs[i] (by rw[List.getElem?_eq_getElem hi,e]) (List.getElem?_eq_getElem hv)
   exact⟨c',q1⟩
 ·have hi:i <(vs++cvs).length:=by
   unfold L2.start at h2
   by_cases hi:i <(vs++cvs).length
   ·exact hi
   ·rw[List.getElem?_append_right (by simpa using hi)]at h2
    rw[List.getElem?_replicate]at h2
    split at h2<;>cases h2
  have ha:(vs++cvs)[i]?=some v:=by
   unfold L2.start at h2
   rw[List.getElem?_append_left (by simpa using hi),List.getElem?_map]at h2
   cases e:(vs++cvs)[i]? with
   | none=>rw[e]at h2;cases h2
   | some a=>rw[e]at h2;cases h2;rfl
  have hpf:(ps++fr)[i]?=some y:=by
   rw[<- S.pre,List.getElem?_take_of_lt (by rw[List.length_append]at hi ⊢;rw[<- hl,<- C.len];exact hi)];exact h1
  by_cases hip:i < vs.length
  ·rw[List.getElem?_append_left hip]at ha
   rw[List.getElem?_append_left (by rw[<- hl];exact hip)]at hpf
   obtain⟨u,hu,rv⟩:=r.get ha
   exact⟨u,rv,.inl ⟨S.par y (List.mem_of_getElem? hpf),iW ndP (by rw[<- r.length,hl];exact Nat.le_refl _) hpf hu⟩⟩
  ·rw[List.getElem?_append_right (by omega)]at ha
   rw[List.getElem?_append_right (by omega),<- hl]at hpf
   obtain⟨c,o,u,z,q1,q2,q3,q4⟩:=C.val _ y v hpf ha
   exact⟨z,q4,.inr ⟨.inr (S.fre y (List.mem_of_getElem? hpf)),c,q1,o,hk c o (e0.hok c _ q2).1,q3⟩⟩
 ·obtain⟨o,u,z,q1,q2⟩:=C.at h
  exact⟨_,o,hk c o (e0.hok c _ q1).1,q2⟩
 ·obtain⟨o,u,z,q1,q2⟩:=C.at h
  exact .inr ⟨rfl,o,u,q1⟩
 ·unfold L2.start
  show _=N.length
  rw[List.length_append,List.length_map,List.length_replicate]
  have:(vs++cvs).length=(ps++fr).length:=by rw[List.length_append,List.length_append,hl,C.len]
  omega
def AW:XF (cxF P w K mg base N qual scope f cd cl A outer s H E) T (WD T E):=by
 intro gV Y H1 s1 c H2 e s2 I fl hW
 obtain⟨x,a0,Bh,rfl,fly,tr,ol⟩:=fl.fly
 refine wpAny_leaves_onW (L:=s.heap.objs.size) I.ok.frames rfl fly fun h' fly' up=>?_
 obtain⟨h2,g2,d2,t2,os2⟩:=s2
 exact⟨_,H2,fh I rfl rfl rfl fl.os fl.bare fl.un fl.hok tr ol fly' up,hW⟩
def Ao{T:Tb}(hr:ck k (A.deeper (PySem.W.envX qual scope s.heap.objs.size f cd cl))):Ctx (cxF P w T.K mg base N qual scope f cd cl A outer s H E) T (WD T E) k:=⟨rfl,rfl,hr,AW,PassesOwn.leaving⟩
def FnF(P:Program)(w:World)(K:PySem.W.Frag)(mg:Str->Option Value)(base:Heap)(k:Nat)(name qual:Str)(params:Arguments)(body:List Stmt)(scope:Scope)(ps fr:List Str)(sp:Sp):Prop :=
 ∀(A:Around) (outer:List Env) (s:Shared) (H:Hp) (f:Addr) (o:Obj) (cl:List (Str×Addr)) (doc pm ctv cdv:Value) (cvs vs:List V) (us:List Value) (args:Args) (Q:VK) (E:XK),
  ck k A->lh P w K mg base A outer s H->s.heap.get? f=some o->o.data=.func (PySem.W.fnX name qual params body scope cl .none .none doc pm none cdv ctv)->s.heap.CodeRec cdv qual->Clo H fr cl cvs ->
  BindsTo s (PySem.W.fnX name qual params body scope cl .none .none doc pm none cdv ctv) args (ps.zip us)->aB vs us->vs.length=ps.length->sp (vs++cvs) H Q E ->
  codeAny (model P w) A (.call (.ref f) args) (CR (CXP P w) outer P w H s Q E) s
def Bo{T:Tb}(S:mz N ps fr scope)
  (body:∀ (f:Addr) (cdv:Value) (cl:List (Str × Addr)) (A:Around) (outer:List Env) (s:Shared) (H:Hp) (E:XK),Ctx (cxF P w T.K mg base N qual scope f cdv cl A outer s H E) T (WD T E) k ->
   SSs (cxF P w T.K mg base N qual scope f cdv cl A outer s H E) T (WD T E) bd m) :
  FnF P w T.K mg base (k+1) name qual params bd scope ps fr (spM T (ps.length+fr.length) (a6 N.length m)):=by
 intro A outer s H f o cl doc pm ctv cdv cvs vs us args Q E hr e0 ho hd hcd C hb r hl hsp
 have lim:s.heap.NoLimit:=e0.mod.nolimit.keeps fun b o e=>(e0.bs b o e).1
 refine codeAny_call_function hr.depth ho hd S.co S.gen rfl hcd (hb _ _ _ _ ?_)
 refine wpAny_newFunctionEnv S.nocell (fun x hx=>S.par x.1 (List.of_mem_zip hx).1) (fun h' hns hsb=>?_) S.kind
 have hk:∀b o,s.heap.get? b=some o->h'.get? b=some o:=fun b o e=>(hsb.2 b (Nat.ne_of_lt (Heap.lt_size e))).trans (Heap.get?_push_of_some _ e)
 refine⟨lim.keeps hk,codeAny_func ?_⟩
 obtain⟨_,pvs,F,B,fl,R,q⟩:=hsp
 obtain⟨fp,S0⟩:=fj N R none (fun _ h=>nomatch h)
 have I:=nv (t:=s.toks+(ps.zip us).length) (f:=f) (cd:=cdv) (qual:=qual) (E:=E) S hr.hd e0 C hl r hns hk
 have ht:=body f cdv cl A outer s H E (Ao (hr.deeper _)) [] _ _ H { nx:=fun _ H'=>Q .non H',rt:=Q } I ⟨_,F,_,fp,S0,by
  unfold a6 at q
  cases e:m (pvs.map some++List.replicate (N.length - pvs.length) none)with
  | next e'=>rw[e]at q;exact fun F' H' σ' fp' S'=>q F' H' .non [] S'.hp wd List.nodup_nil (fun _ z=>(nomatch z)) (fun _ z=>(nomatch z))
  | ret v=>rw[e]at q;exact q
  | brk e' | cont e'=>rw[e]at q;exact q.elim
  | exc c e'=>rw[e]at q;exact fun F' H' σ' fp' S'=>q H' S'.hp.keep
  | stuck=>rw[e]at q;exact q.elim⟩
 refine wpAny_mono ht (fun fl s' hs=>?_) fun e s' hs=>hs
 have fin:∀{σ':St}{H':Hp}{v:V}{u:Value},Inv (cxF P w T.K mg base N qual scope f cdv cl A outer s H E) [] σ' H' s'->aT v u->Q v H'->CE outer P w H s Q u s' :=
  fun {σ' H' v u} J rv q=>⟨v,H',J.os,J.bare,J.base,J.hok,rv,q⟩
 cases fl with
 | ret u =>
  obtain⟨v,σ',H',J,rv,q⟩:=hs
  exact fin J rv q
 | next =>
  obtain⟨σ',H',J,q⟩:=hs
  exact fin (v:=V.non) (u:=Value.none) J rfl q
 | brk =>
  obtain⟨_,_,_,q⟩:=hs
  exact False.elim q
 | cont =>
  obtain⟨_,_,_,q⟩:=hs
  exact False.elim q
end
section
variable{X:Cx}{T:Tb}{W:Nat->St->Hp->Prop}{Z:Zn}{F F1:Addr->Prop}{H H1:Hp}{Y:St}{env:En}{fp:Nat->List Addr}
def za(hc:∀E,spM T n m (vs++dvs) H1 Q E->codeAny (model X.prog X.w) X.A (.call (.ref f) ⟨us,kw⟩) (CR (CXP X.prog X.w) X.stack X.prog X.w H1 s1 Q E) s1)(hdp:RelL T F1 Z.B (Own fp) H1 dps dvs [])(hx:XF X T W)
  (S:ap T Z F H Y env fp) (g:Gr F H F1 H1) (r:RelL T F1 Z.B (Own fp) H1 xs vs fx) (nf:∀a∈fx,¬F1 a) (nd:fx.Nodup) (new:∀a∈fx,H a=none) (q:GE T W Z.B F (Own fp) Y H Q (aA m (xs++dps)))
  (I1:L2.Inv X gV Y H1 s1) (hlen:vs.length+dvs.length=n):wpAny (model X.prog X.w) X.A (call (.ref f) us kw) (EP X gV Y Q) X.xe s1:=by
 have rr:RelL T F1 Z.B (Own fp) H1 (xs++dps) (vs++dvs) fx:=by
  have:=RelL.append r hdp
  rwa [List.append_nil]at this
 have hBo:∀a,Z.B a->(∃o,H1 a=some o)/\a∉fx:=fun a h=>by
  obtain⟨⟨o,h1⟩,h2⟩:=S.hp.bo.1 a h
  have h3:=S.hp.keep a o h1 h2
  exact⟨⟨o,g.ext a o h3⟩,fun z=>by rw[new a z]at h3;cases h3⟩
 have hOw:∀a,Own fp a->(∃o,H1 a=some o)/\a∉fx:=fun a ⟨i,hi⟩=>by
  obtain⟨_,o,ho⟩:=S.dis i a hi
  exact⟨⟨o,g.ext a o ho⟩,fun z=>by rw[new a z]at ho;cases ho⟩
 have R:nN T F1 (fun a=>(∃o,H1 a=some o)/\a∉fx) H1 (mapL Fl.toBor (xs++dps)) (vs++dvs) fx:=⟨RelL.toBor hBo hOw rr,nd,nf,⟨fun a h=>h,S.tbo g.ext fun a z=>.inl (new a z)⟩,g.dom⟩
 refine wpAny_call (codeAny_mono (hc (fun cls _ H'=>∃c,cls=.ref (T.xcl c)/\W c Y H') ⟨by rw[List.length_append];exact hlen,_,F1,_,fx,R,?_⟩) fun rs s' hq=>?_)
 ·unfold aA at q
  cases e:m (mapL Fl.toBor (xs++dps))with
  | ok v =>
   rw[e]at q
   dsimp only at q
   intro F2 H2 u f2 hp2 r3 nd2 nf2 new2
   by_cases hbr:v.has Fl.isBor=true
   ·rw[if_pos hbr]at q;exact q.elim
   ·rw[if_neg hbr]at q
    have hbr':v.has Fl.isBor=false:=by simpa using hbr
    refine q u H2 F2 f2 ⟨fun a o h=>hp2.keep a o (g.ext a o h) fun z=>(by rw[new a z]at h;cases h),fun a h=>hp2.f0 a (g.mono a h),fun a h=>?_,hp2.ft⟩ ?_ nf2 nd2 fun a ha=>?_
    ·rcases hp2.fn a h with z | z | z
     ·exact g.only a z
     ·exact .inr (g.ext.free z)
     ·exact .inr (new a z)
    ·exact Rel.tr (fun _ h=>h) (fun _ h=>h) (fun _ h=>h.elim) (fun _ _ h _=>h) (fun _ _ _ h=>h) (Rel.noB (B':=Z.B) hbr' r3)
    ·rcases new2 a ha with z | z
     ·exact g.ext.free z
     ·exact new a z
  | exc c =>
   rw[e]at q
   exact fun H' h=>⟨c,rfl,q H' fun a o z=>h a o (g.ext a o z) fun z'=>by rw[new a z']at z;cases z⟩
  | stuck=>rw[e]at q;exact q.elim
 ·cases rs with
  | error e =>
   obtain⟨cls,H',fl,c,rfl,hw⟩:=hq
   exact hx gV Y H1 s1 c H' e s' I1 fl hw
  | ok fl =>
   cases fl with
   | ret u=>exact I1.after hq
   | next | brk | cont=>exact False.elim hq
def fI(i kb:Nat)(m:List PV->Res PV)(ms:MA):ME:=fun env=>match (env[i]?).join with
 | some (.box k cps)=>if k=kb/\cW cps=true then(ms env).bind fun xs=>aA m (xs++cps)else .stuck
 | _=>.stuck
def qg{fi:FI}(G:FnF X.prog X.w X.K X.mg X.base k fi.name fi.qual fi.params fi.body fi.scope ps fi.fr (spM T (ps.length+fi.fr.length) m))(hr:ck k X.A)(hbx:∀H f cvs,T.bx kb H f cvs->fi.bx H f cvs)
  (hb:∀(cl:List (Str×Addr)) (doc pm ctv cdv:Value) (us:List Value),us.length=ps.length->bindArgs (PySem.W.fnX fi.name fi.qual fi.params fi.body fi.scope cl .none .none doc pm none cdv ctv) ⟨us,[]⟩=pure (ps.zip us))
  (hx:XF X T W) (hN:X.N[i]?=some x) (hv:Vis X.env.scope x) (hn:∀env xs,ms env=.ok xs->xs.length=ps.length) (ha:SA X T W (e::es) ms)
  (hd:(x ==("__debug__" : Str))=false:=by decide) (hcd:(x ==("__classdict__" : Str))=false:=by decide)
  (he:starEach (e::es) X.env=(false,eval e X.env)::starEach es X.env:=by rfl) (hpl:(backTo pos (starEach es X.env)).any (·.1)=false:=by rfl) :
  SE X T W (.Call (.Name x p) (e::es) [] pos) (fI i kb m ms):=by
 intro gV s Y H Q I h
 obtain⟨Z,F,env,fp,S,q⟩:=h
 unfold fI at q
 split at q
 ·rename_i kk cps hi
  split at q
  ·rename_i hc
   obtain⟨rfl,hno⟩:=hc
   have hi':env[i]?=some (some (.box kk cps)):=by
    cases e0:env[i]? with
    | none=>rw[e0]at hi;cases hi
    | some z=>rw[e0]at hi;simp only[Option.join_some]at hi;rw[hi]
   obtain⟨v0,hs0,rv0⟩:=S.rel i _ hi'
   unfold Rel at rv0
   obtain⟨f,cvs,rfl,hbf,rc⟩:=rv0
   obtain⟨hf0,rc⟩:=dU hno rc
   rw[hf0]at rc
   refine wpAny_Call_Name_kw (thn (dv (pos:=p) hN hv hd hcd gV s Y H (fun v H1=>v=.ref f/\H1=H) I ⟨_,hs0,rfl,rfl⟩) fun u s0 ⟨v,H0,I0,rv,e1,e2⟩=>?_)
   subst e1 e2
   obtain rfl:u=.ref f:=rv
   have fnAt:∀(H1:Hp) (s1:Shared),Ext H0 H1->L2.Inv X gV Y H1 s1->PySem.W.FnAt f s1.heap:=fun H1 s1 ex I1=>by
    obtain⟨_,_,_,_,_,_,_,_,_,_,h1,_⟩:=hbx _ _ _ hbf
    obtain⟨g1,_⟩:=I1.hok f _ (ex _ _ h1)
    exact⟨_,_,_,_,g1⟩
   refine PySem.W.callWith_F (first:=[]) (fnAt H0 s0 Ext.refl I0) (thn (ha pos gV s0 Y H0 (fun vs H1=>∀ us s1,L2.Inv X gV Y H1 s1->aB vs us->PySem.W.FnAt f s1.heap/\wpAny (model X.prog X.w) X.A (call (.ref f) us) (EP X gV Y Q) X.xe s1) I0
    (tA.bind S (fun c e=>by rw[e]at q;exact q) (fun e=>by rw[e]at q;exact q) fun xs vs H1 F1 f1 e1 g1 r1 n1 d1 w1 us s1 I1 rv=>?_)) fun us s1 ⟨vs,H1,I1,r,q1⟩=>q1 us s1 I1 r) he hpl
   rw[e1]at q
   refine⟨fnAt H1 s1 g1.ext I1,?_⟩
   have lv:vs.length=ps.length:=by rw[<- r1.length];exact hn env xs e1
   refine za (n:=ps.length+fi.fr.length) (fun E hsp=>?_) ((rc.ext g1.ext g1.mono).tr (fun _ h=>h) (fun _ h=>h) (fun _ h=>h.elim) (fun _ _ h _=>h) (fun _ _ _ h=>h)) hx S g1 r1 n1 d1 w1 q I1 ?_
   ·obtain⟨cl,doc,pm,ctv,c',oc,u,u',ws,t,h1,h2,h3,h4,C⟩:=FI.bxs (fun b o u z=>g1.ext b _ z) (hbx _ _ _ hbf)
    obtain⟨o1,_⟩:=I1.hok f _ h1
    obtain⟨o2,_⟩:=I1.hok c' _ h2
    exact G X.A X.stack s1 H1 f _ cl doc pm ctv (.ref c') cvs vs us ⟨us,[]⟩ Q E hr I1.env0 o1 rfl ⟨c',oc,ws,t,rfl,o2,h3,h4⟩ C (.of_eq (hb cl doc pm ctv (.ref c') us (by rw[<- rv.length,lv]))) rv lv hsp
   ·obtain⟨_,_,_,_,_,_,_,_,_,_,_,_,_,_,C⟩:=hbx _ _ _ hbf
    rw[lv,C.len]
  ·exact q.elim
 ·exact q.elim
end
end PR
namespace L2
open PySem PySem.Spec
def uT:HO:=.ext fun _=>True
def n9{P:Program}{w:World}{H:Hp}{h:Heap}{a:Addr}{o:Obj}(e:h.get? a=some o):cb P w H h a (.frz o uT):=⟨e,True.intro,⟨o,e⟩,fun _ _ _ _=>True.intro⟩
section
variable{X:Cx}{gV:List (Addr×Obj)}{Y:List (Option V)}{H:Hp}{s:Shared}
def Inv.frzC{x:Str}{c:Addr}(I:Inv X gV Y H s)(hc:X.env.cells.lookup x=some c)(hf:X.fn x=false)(ha:X.s₀.heap.objs.size<=c) :
  ∃H' o u,(∀b z,H b=some z->H' b=some z)/\H' c=some (.frz o u)/\s.heap.get? c=some o/\Inv X gV Y H' s:=by
 rcases I.freeC x c hc with hn |⟨_,o,u,hn⟩
 ·obtain⟨v,o,ho,hd⟩:=I.cell x c hc
  have ext:∀b z,H b=some z->upd H c (.frz o uT) b=some z:=fun b z e=>by rw[ax (bA e hn)];exact e
  have old:∀b ob,X.s₀.heap.get? b=some ob->b≠c:=fun b ob e=>Nat.ne_of_lt (Nat.lt_of_lt_of_le (Heap.lt_size e) ha)
  refine⟨upd H c (.frz o uT),o,uT,ext,aJ,ho,⟨I.ok,I.os,I.bare,⟨I.base.keep,I.base.slot,fun b ob e n hx=>?_,I.base.there,fun b xs e=>ext _ _ (I.base.tups b xs e),fun b ob u e=>ext _ _ (I.base.frzs b ob u e),fun b ps e=>?_⟩,I.loc,I.cell,?_,fun y d hy=>?_,fun p hp=>?_,fun b z e=>?_,I.len⟩⟩
  ·rw[ax (old b ob e)];exact I.base.free b ob e n hx
  ·obtain⟨m,e'⟩:=I.base.tbls b ps e
   exact⟨m,ext _ _ e'⟩
  ·rw[ax (Ne.symm (I.cne x c hc))];exact I.free
  ·by_cases q:d=c
   ·subst q
    obtain rfl:=I.ok.inj x y d hc hy
    exact .inr ⟨hf,o,uT,aJ⟩
   ·rw[ax q];exact I.freeC y d hy
  ·obtain⟨e,n,np,nf,nd⟩:=I.pin p hp
   refine⟨e,?_,np,nf,nd⟩
   rw[ax fun q=>?_];exact n
   rw[q,ho]at e
   cases e
   exact nd v hd
  ·by_cases q:b=c
   ·subst q;rw[aJ]at e;cases e;exact n9 ho
   ·rw[ax q]at e
    exact(I.hok b z e).stay (fun _ _ _ h=>h) (fun d h=>ext _ _ h) fun d u _ h=>ext _ _ h
 ·exact⟨H,o,u,fun _ _ e=>e,hn,(I.hok c _ hn).1,I⟩
end
end L2
namespace L2
open PySem PySem.Spec
section
variable{X:Cx}{gV:List (Addr×Obj)}{Y:List (Option V)}{H:Hp}{s:Shared}{M:Model}{A:Around}{E:Value->Shared->Prop}{Q:Value->Shared->Prop}{name qual:Str}{params:Arguments}{body:List Stmt}{scope:Scope}{c0 Pt:Addr}{pos:Pos}{fl:Nat}{clos:List (Str×Addr)}
def sJ(I:Inv X gV Y H s)(hP:H Pt=some (.tbl #[rawInt pos.line,rawInt pos.col,.str qual 0]))(C:PySem.W.CodeHd X.base c0 Pt)(hcode:X.env.code=.ref c0)(hbt:X.base.BuiltinsAt X.mg Pt)(hcl:closureFor scope X.env=pure clos)
  (h:∀ f c' oc u vs t ctv doc H' s',(∀ b z,H b=some z->H' b=some z)->H' f=some (.frz (PySem.W.fnMade name qual params body scope clos doc ((X.mg "__name__").getD .none) c' ctv) uT)->H' c'=some (.frz oc u) ->
   oc.data=.fields vs->vs[1]?=some (.str qual t)->Inv X gV Y H' s'->Q (.ref f) s') :
  wpAny M A (makeFunction name qual params (.stmts body) scope X.env [] [] [] pos fl) Q E s:=by
 obtain⟨qs,hq,tab⟩:=I.hok Pt _ hP
 have hg:s.heap.Ns mainGlobals X.mg:=I.mod.glob.keeps I.bk
 have C':=C.keeps I.bk
 have hgP:mainGlobals≠Pt:=fun z=>by
  obtain⟨o,es,ep,e,hd,_⟩:=hg
  rw[z,hq]at e;cases e;cases hd
 obtain⟨bm,ob,b1,b2,b3,b4,b5,b6⟩:=hbt
 have bt:s.heap.BuiltinsAt X.mg Pt:=⟨bm,ob,b1,b2,b3,b4,I.bk _ _ b5,b6⟩
 have nP:∀b,H b=none->b≠Pt:=fun b n z=>by rw[z,hP]at n;cases n
 rcases tab with rfl |⟨l,c,q,t0,c',oc,u,vs,t,e1,rfl,e3,e4,e5⟩
 ·refine PySem.W.makeFunction_K (mg:=X.mg) hcl I.ok.glob hg hcode C' hq True.intro rfl hgP bt fun c' ctv doc h' tk hx hge hlt hrec htb=>?_
  obtain⟨c2,oc,vs,t,e2,hoc,hd,hv⟩:=hrec
  cases e2
  have hn:=I.hok.fresh hge
  have ext:∀b z,H b=some z->upd H c' (.frz oc uT) b=some z:=fun b z e=>by rw[ax (bA e hn)];exact e
  have kp:∀b o,s.heap.get? b=some o->H b=none->h'.get? b=some o:=fun b o e n=>hx b o (nP b n) e
  have I1:Inv X gV Y (upd H c' (.frz oc uT)) { s with heap:=h',toks:=tk }:=I.un
   ⟨fun b o e n _ _=>kp b o e n,fun b o e n _ _=>⟨o.slots,kp b o e n⟩,fun b o e n _=>by rw [ax (Nat.ne_of_lt (Nat.lt_of_lt_of_le (Heap.lt_size e) hge))];exact n,
    fun b o e _=>by
     by_cases z:b=Pt
     ·subst z;exact⟨_,htb⟩
     ·exact⟨o,hx b o z e⟩,fun b xs e=>ext _ _ e,fun b o u e=>ext _ _ e,fun b ps e=>⟨#[],by rw[ext _ _ e];simp⟩⟩
   fun b z e=>by
    by_cases hb:b=c'
    ·subst hb;rw[aJ]at e;cases e;exact n9 hoc
    ·rw[ax hb]at e
     by_cases hp:b=Pt
     ·subst hp
      rw[hP]at e;cases e
      exact⟨_,htb,.inr ⟨_,_,_,_,c',oc,uT,vs,t,rfl,rfl,aJ,hd,hv⟩⟩
     ·refine(I.hok b z e).stay (fun d o hd r=>hx d o ?_ r) (fun d r=>ext _ _ r) fun d u _ r=>ext _ _ r
      rcases hd with rfl | hd
      ·exact hp
      ·rintro rfl
       rw[hP]at hd;cases hd
  have hf:=I1.hok.fresh (Nat.le_refl _)
  have I2:=I1.laid (t':=tk) (fun b u e=>Heap.get?_push_of_some (PySem.W.fnMade name qual params body scope clos doc ((X.mg "__name__").getD .none) c' ctv) e) (Nat.le_refl _) (n9 (Heap.get?_push_size _ rfl))
  refine h _ c' oc uT vs t ctv doc _ _ (fun b z e=>?_) aJ ?_ hd hv I2
  ·have:=ext b z e
   rw[ax (bA this hf)];exact this
  ·rw[ax (Nat.ne_of_lt hlt),aJ]
 ·have e1:rawInt pos.line=l/\rawInt pos.col=c/\Value.str qual 0=.str q t0:=by simpa using e1
  obtain⟨rfl,rfl,e1⟩:=e1
  cases e1
  refine PySem.W.makeFunction_hit (mg:=X.mg) (cv:=.ref c') hcl I.ok.glob hg hcode C' hq True.intro (by simp[codeAmong,rawInt]) bt fun ctv doc h' tk hk hsz=>?_
  have I1:Inv X gV Y H { s with heap:=h',toks:=tk }:=I.kept hk
  have hf:=I1.hok.fresh (Nat.le_refl _)
  have I2:=I1.laid (t':=tk) (fun b u e=>Heap.get?_push_of_some (PySem.W.fnMade name qual params body scope clos doc ((X.mg "__name__").getD .none) c' ctv) e) (Nat.le_refl _) (n9 (Heap.get?_push_size _ rfl))
  have ext:∀b z,H b=some z->upd H h'.objs.size (.frz (PySem.W.fnMade name qual params body scope clos doc ((X.mg "__name__").getD .none) c' ctv) uT) b=some z:=fun b z e=>by rw[ax (bA e hf)];exact e
  exact h _ c' oc u vs t ctv doc _ _ ext aJ (ext _ _ e3) e4 e5 I2
end
end L2
namespace L2
open PySem PySem.Spec
section
variable{X:Cx}{gV:List (Addr×Obj)}{Y:List (Option V)}{s:Shared}
def Inv.frzL:∀(l:List (Str×Addr)),(∀p∈l,X.env.cells.lookup p.1=some p.2/\X.fn p.1=false/\X.s₀.heap.objs.size<=p.2)->∀{H:Hp},Inv X gV Y H s ->
  ∃H',(∀b z,H b=some z->H' b=some z)/\(∀p∈l,∃o u,H' p.2=some (.frz o u)/\s.heap.get? p.2=some o)/\Inv X gV Y H' s
 | [],_,H,I=>⟨H,fun _ _ e=>e,fun _ z=>(nomatch z),I⟩
 | p::l,h,H,I=>by
  obtain⟨h1,h2,h3⟩:=h p (.head _)
  obtain⟨H1,o,u,e1,q1,g1,I1⟩:=I.frzC h1 h2 h3
  obtain⟨H2,e2,q2,I2⟩:=Inv.frzL l (fun q hq=>h q (.tail _ hq)) I1
  refine⟨H2,fun b z e=>e2 b z (e1 b z e),fun q hq=>?_,I2⟩
  rcases List.mem_cons.mp hq with rfl | hq
  ·exact⟨o,u,e2 _ _ q1,g1⟩
  ·exact q2 q hq
end
end L2
namespace PR
open PySem PySem.Spec L2
structure vJ(X:Cx)(fr:List Str)(caps:List Nat)(clos:List (Str×Addr)):Prop where
 len:caps.length=fr.length
 nm:∀(k:Nat) x,fr[k]?=some x->∃j,caps[k]?=some j/\X.N[j]?=some x/\X.env.kindOf x=some .cell/\∃c,(x,c)∈ clos/\clos.lookup x=some c
 cl:∀x c,clos.lookup x=some c->x∈fr
 mem:∀p∈clos,X.env.cells.lookup p.1=some p.2/\X.fn p.1=false/\X.s₀.heap.objs.size<=p.2
def r9:List Nat->En->Option (List PV)
 | [],_=>some []
 | j::r,env=>match (env[j]?).join,r9 r env with
  | some x,some xs=>some (x::xs)
  | _,_=>none
def jY(i kb:Nat)(caps:List Nat):MS:=fun env=>match r9 caps env with
 | some cps=>if cW cps&&aY i env then .next (env.set i (some (.box kb cps)))else .stuck
 | none=>.stuck
section
variable{X:Cx}{T:Tb}{W:Nat->St->Hp->Prop}{Z:Zn}{F:Addr->Prop}{H:Hp}{Y:St}{env:En}{fp:Nat->List Addr}
def l7(S:ap T Z F H Y env fp):∀{caps:List Nat}{cps:List PV},r9 caps env=some cps->cW cps=true ->
  ∃cvs,RelL T F Z.B NoL H cps cvs []/\cvs.length=caps.length/\∀(k j:Nat),caps[k]?=some j->∃v,cvs[k]?=some v/\Y[j]?=some (some v)
 | [],cps,h,_=>by
  cases h
  exact⟨[],by unfold RelL;exact⟨rfl,rfl⟩,rfl,fun k j e=>by simp at e⟩
 | j::r,cps,h,hn=>by
  unfold r9 at h
  split at h
  ·rename_i x xs hx hxs
   cases h
   have hn':cW [x]=true/\cW xs=true:=by
    simp only[cW,hasL,Bool.or_false,Bool.not_or,Bool.and_eq_true,Bool.not_eq_true']at hn ⊢
    obtain⟨⟨a,b⟩,c,d⟩:=hn
    exact⟨⟨a,c⟩,b,d⟩
   obtain⟨cvs,r1,l1,v1⟩:=l7 S hxs hn'.2
   have hj:env[j]?=some (some x):=by
    cases e0:env[j]? with
    | none=>rw[e0]at hx;cases hx
    | some z=>rw[e0]at hx;simp only[Option.join_some]at hx;rw[hx]
   obtain⟨v,sv,rv⟩:=S.rel j x hj
   have rl:RelL T F Z.B NoL H [x] [v] (fp j++[]):=by
    unfold RelL
    exact⟨v,[],fp j,[],rfl,rv,by unfold RelL;exact⟨rfl,rfl⟩,rfl⟩
   obtain⟨e,_⟩:=dU hn'.1 rl
   rw[List.append_nil]at e
   rw[e]at rv
   refine⟨v::cvs,by unfold RelL;exact⟨v,cvs,[],[],rfl,rv,r1,rfl⟩,by simp[l1],fun k i e=>?_⟩
   cases k with
   | zero=>simp at e;subst e;exact⟨v,rfl,sv⟩
   | succ k=>simp at e;simpa using v1 k i e
  ·cases h
def sP{fi:FI}(hN:X.N.Nodup)(hi:X.N[i]?=some fi.name)(hl:Loc X.env.scope fi.name)(hbx:∀H f cvs,fi.bx H f cvs->T.bx kb H f cvs)
  (hT:T.tb Pt=some #[rawInt pos.line,rawInt pos.col,.str fi.qual 0]) (C:PySem.W.CodeHd X.base c0 Pt) (hcode:X.env.code=.ref c0) (hbt:X.base.BuiltinsAt X.mg Pt) (hcl:closureFor fi.scope X.env=pure clos) (hc:vJ X fi.fr caps clos)
  (hq:qualnameIn X.env fi.name fi.name=fi.qual) (hd0:fi.params.defaults=[]) (hk0:fi.params.kw_defaults=[]) (ha:annTrees fi.params none X.env=[]) (hf:X.fn fi.name=true\/X.env.scope.names.lookup fi.name=some .local) :
  SS X T W (.FunctionDef fi.name fi.params fi.body [] none [] fi.scope none fi.name pos) (jY i kb caps):=by
 intro gV s Y H D I ⟨Z,F,env,fp,S,q⟩
 unfold jY at q
 split at q
 ·rename_i cps hc1
  split at q
  ·rename_i hg
   rw[Bool.and_eq_true]at hg
   obtain⟨cvs,rc,lc,vc⟩:=l7 S hc1 hg.1
   obtain⟨H1,x1,k1,I1⟩:=I.frzL clos hc.mem
   refine PySem.W.nestDef_K hd0 hk0 ha ?_
   rw[hq]
   refine sJ I1 (x1 _ _ (S.hp.tb hT)) C hcode hbt hcl fun f c' oc u vs t ctv doc H2 s2 x2 hf2 hc2 hd2 hv2 I2=>?_
   have ext:Ext H H2:=fun b z e=>x2 b z (x1 b z e)
   have clo:Clo H2 fi.fr clos cvs:=by
    refine⟨fun x y c a b=>I.ok.inj x y c (hc.mem _ (PySem.mem_of_lookup a)).1 (hc.mem _ (PySem.mem_of_lookup b)).1,hc.cl,lc.trans hc.len,fun k x v e1 e2=>?_⟩
    obtain⟨j,hj,hNj,hk,c,hm,hlk⟩:=hc.nm k x e1
    obtain⟨v',ev,sv⟩:=vc k j hj
    rw[e2]at ev;cases ev
    obtain⟨m,hn,hloc⟩:=I1.loc
    obtain⟨z,rz,lk⟩:=hloc j x v hNj sv (.inr (.inl hk))
    rcases lk with⟨kl,_⟩ |⟨_,c2,h2,o2,g2,d2⟩
    ·rw[hk]at kl;cases kl
    ·have:=(hc.mem _ hm).1
     rw[h2]at this;cases this
     obtain⟨o,u,q1,q2⟩:=k1 _ hm
     rw[g2]at q2;cases q2
     exact⟨_,o2,u,z,hlk,x2 _ _ q1,d2,rz⟩
   refine fS I2 hN hi hl (v:=.ref f) rfl (fun s3 I3=>⟨_,H2,I3,q F H2 _ _ (S.putN (Gr.same S.hp.ft ext) hg.2 (L:=NoL) (f:=[]) ?_ ?_ (fun _ z=>(nomatch z)) List.nodup_nil (fun _ z=>(nomatch z)))⟩) hf
   ·unfold Rel
    exact⟨f,cvs,rfl,hbx _ _ _ ⟨clos,doc,_,ctv,c',oc,uT,u,vs,t,hf2,hc2,hd2,hv2,clo⟩,rc.ext ext (fun _ h=>h)⟩
   ·have:=hg.1
    simp only[cW,Bool.and_eq_true,Bool.not_eq_true']at this
    simp[PV.noLnt,PV.has,this.2]
  ·exact q.elim
 ·exact q.elim
end
section
variable{P:Program}{w:World}{K:PySem.W.Frag}{mg:Str->Option Value}{base:Heap}{N:List Str}{qual:Str}{scope:Scope}{f:Addr}{cd:Value}{A:Around}{outer:List Env}{s:Shared}{H:Hp}{E:XK}
def vK:XF ((cr (CXP P w) P w K mg base N qual scope f cd A outer s H E).low g) T (WD T E):=by
 intro gV Y H1 s1 c H2 e s2 I fl hW
 obtain⟨x,a0,Bh,rfl,fly,tr,ol⟩:=fl.fly
 refine wpAny_leaves_onW (L:=s.heap.objs.size) I.ok.frames rfl fly fun h' fly' up=>?_
 obtain⟨h2,g2,d2,t2,os2⟩:=s2
 exact⟨_,H2,fh I rfl rfl rfl fl.os fl.bare fl.un fl.hok tr ol fly' up,hW⟩
def uZ{T:Tb}(hr:ck k (A.deeper (PyProof.Rows.envOfC qual scope s.heap.objs.size f cd))):Ctx ((cr (CXP P w) P w T.K mg base N qual scope f cd A outer s H E).low g) T (WD T E) k:=⟨rfl,rfl,hr,vK,PassesOwn.leaving⟩
def xl{T:Tb}(g:Str->Bool)(F:Fun T.K x qual st f fd)(S:cI N ps (au st))
  (body:∀ (A:Around) (outer:List Env) (s:Shared) (H:Hp) (E:XK),Ctx ((cr (CXP P w) P w T.K mg base N qual (au st) f fd.code A outer s H E).low g) T (WD T E) k ->
   SSs ((cr (CXP P w) P w T.K mg base N qual (au st) f fd.code A outer s H E).low g) T (WD T E) (a9 st) m):bX P w T.K mg base (CXP P w) (k+1) f fd ps (spM T ps.length (a6 N.length m)):=by
 obtain⟨oc,od,kV,doc,pm,an,cdv,ct,osl,rfl,lk,hcd⟩:=F.ex
 refine rH g lk hcd S (fun vs H Q E h=>h.1) fun A outer s H vs Q E hr hsp=>⟨_,body A outer s H E (uZ hr),?_⟩
 obtain⟨_,pvs,F,B,fl,R,q⟩:=hsp
 obtain⟨fp,S0⟩:=fj N R none (fun _ h=>nomatch h)
 refine⟨_,F,_,fp,S0,?_⟩
 unfold a6 at q
 cases e:m (pvs.map some++List.replicate (N.length - pvs.length) none)with
 | next e'=>rw[e]at q;exact fun F' H' σ' fp' S'=>q F' H' .non [] S'.hp wd List.nodup_nil (fun _ z=>(nomatch z)) (fun _ z=>(nomatch z))
 | ret v=>rw[e]at q;exact q
 | brk e' | cont e'=>rw[e]at q;exact q.elim
 | exc c e'=>rw[e]at q;exact fun F' H' σ' fp' S'=>q H' S'.hp.keep
 | stuck=>rw[e]at q;exact q.elim
end
open PySem.W (keepIn Frag)
structure TG(p:PT)(K:Frag)(mg:Str->Option Value)(base:Heap):Prop where
 cd:PySem.W.CodeHd base (p.gt K).1 (p.gt K).2
 bt:base.BuiltinsAt mg (p.gt K).2
 co:(dAt K (p.fa K p.gs.i)).code=.ref (p.gt K).1
 so:p.G.isSome=true
def PT.bx99{p:PT}{hA:p.attOk}{K:Frag}{H:Hp}{f:Addr}{cvs:List V}:(p.T hA K).bx 99 H f cvs=p.fi.bx H f cvs:=by
 dsimp only[PT.T]
 rw[if_pos rfl]
def jm{x:Str}{c:Addr}:∀(names:List (Str×NameKind)) (n:Nat) (acc:List (Str×Addr)),(cellsFrom n names acc).lookup x=some c->n<=c\/acc.lookup x=some c
 | [],n,acc,h=>.inr h
 |(y,k)::r,n,acc,h=>by
  unfold cellsFrom at h
  split at h
  ·rcases jm r (n+1) _ h with q | q
   ·exact .inl (Nat.le_of_succ_le q)
   ·rw[List.lookup_cons]at q
    split at q
    ·cases q;exact .inl (Nat.le_refl _)
    ·exact .inr q
  ·exact jm r n acc h
def nH(N:List Str)(names:List (Str×NameKind)):List Str->List Nat->Bool
 | [],[]=>true
 | x::fr,j::caps=>decide (N[j]?=some x)&&decide (names.lookup x=some .cell)&&nH N names fr caps
 | _,_=>false
def l8{N:List Str}{names:List (Str×NameKind)}:∀{fr:List Str}{caps:List Nat},nH N names fr caps=true->caps.length=fr.length
 | [],[],_=>rfl
 | x::fr,j::caps,h=>by
  simp only[nH,Bool.and_eq_true]at h
  simp[l8 h.2]
 | [],_::_,h | _::_,[],h=>nomatch h
def kW{N:List Str}{names:List (Str×NameKind)}:∀{fr:List Str}{caps:List Nat},nH N names fr caps=true->∀(k:Nat) x,fr[k]?=some x->∃j,caps[k]?=some j/\N[j]?=some x/\names.lookup x=some .cell
 | [],[],_,k,x,e=>by simp at e
 | y::fr,j::caps,h,k,x,e=>by
  simp only[nH,Bool.and_eq_true,decide_eq_true_eq]at h
  cases k with
  | zero=>simp at e;subst e;exact⟨j,rfl,h.1.1,h.1.2⟩
  | succ k=>simp at e;simpa using kW h.2 k x e
 | [],_::_,h,_,_,_ | _::_,[],h,_,_,_=>nomatch h
def r_(X:Cx)(fr:List Str):List (Str×Addr):=(fr.map fun x=>(x,(X.env.cells.lookup x).getD 0)).reverse
def lJ{x:Str}{f:Str->Addr}:∀{l:List (Str×Addr)},(∀p∈l,p.2=f p.1)->(∃c,(x,c)∈ l)->l.lookup x=some (f x)
 | [],_,h=>by obtain⟨_,h⟩:=h;cases h
 |(y,c)::l,h,⟨d,m⟩=>by
  rw[List.lookup_cons]
  by_cases e:x=y
  ·subst e;rw[beq_self_eq_true];exact congrArg some (h _ (.head _))
  ·rw[beq_eq_false_iff_ne.mpr e]
   rcases List.mem_cons.mp m with m | m
   ·cases m;exact absurd rfl e
   ·exact lJ (fun p hp=>h p (.tail _ hp)) ⟨d,m⟩
section
variable{X:Cx}{W:Nat->St->Hp->Prop}{p:PT}{hA:p.attOk}
def xH(hce:X.env.cells=cellsFrom (X.s₀.heap.objs.size+1) X.env.scope.names [])(hfn:∀x,X.fn x=false)(h:nH X.N X.env.scope.names fr caps=true):vJ X fr caps (r_ X fr):=by
 have mem:∀q,q∈r_ X fr↔∃x∈fr,(x,(X.env.cells.lookup x).getD 0)=q:=fun q=>by simp[r_]
 have cell:∀x∈fr,X.env.scope.names.lookup x=some .cell:=fun x hx=>by
  obtain⟨k,hk,e⟩:=List.getElem_of_mem hx
  obtain⟨_,_,_,q⟩:=kW h k x (by rw[List.getElem?_eq_getElem hk,e])
  exact q
 refine⟨l8 h,fun k x e=>?_,fun x c e=>?_,fun q hq=>?_⟩
 ·obtain⟨j,h1,h2,h3⟩:=kW h k x e
  have hm:(x,(X.env.cells.lookup x).getD 0)∈ r_ X fr:=(mem _).mpr ⟨x,List.mem_of_getElem? e,rfl⟩
  refine⟨j,h1,h2,h3,_,hm,lJ (f:=fun x=>(X.env.cells.lookup x).getD 0) (fun q hq=>?_) ⟨_,hm⟩⟩
  obtain⟨y,_,rfl⟩:=(mem q).mp hq
  rfl
 ·obtain⟨y,hy,e2⟩:=(mem _).mp (PySem.mem_of_lookup e)
  cases e2;exact hy
 ·obtain⟨y,hy,rfl⟩:=(mem q).mp hq
  obtain⟨c,hc⟩:=jo (n:=X.s₀.heap.objs.size+1) (cell y hy)
  have hc':X.env.cells.lookup y=some c:=by rw[hce];exact hc
  refine⟨by rw[hc'];rfl,hfn y,?_⟩
  show _ <=(X.env.cells.lookup y).getD 0
  rw[hc']
  rcases jm _ _ _ hc with q | q
  ·exact Nat.le_of_succ_le q
  ·cases q
def y8(i:Nat)(caps:List Nat)(g:TG p X.K X.mg X.base)(nd:X.N.Nodup)(hi:X.N[i]?=some p.fi.name:=by rfl)(hce:X.env.cells=cellsFrom (X.s₀.heap.objs.size+1) X.env.scope.names []:=by rfl)(hfn:∀x,X.fn x=false:=by intro _;rfl)
  (hst:p.gst=.FunctionDef p.fi.name p.fi.params p.fi.body [] none [] p.fi.scope none p.fi.name p.gpos:=by rfl) (hcode:X.env.code=(dAt X.K (p.fa X.K p.gs.i)).code:=by rfl) (hcl:closureFor p.fi.scope X.env=pure (r_ X p.fi.fr):=by rfl)
  (hc:nH X.N X.env.scope.names p.fi.fr caps=true:=by kernel_rfl) (hq:qualnameIn X.env p.fi.name p.fi.name=p.fi.qual:=by rfl) (hd0:p.fi.params.defaults=[]:=by rfl) (hk0:p.fi.params.kw_defaults=[]:=by rfl)
  (ha:annTrees p.fi.params none X.env=[]:=by rfl) (hf:X.env.scope.names.lookup p.fi.name=some .local:=by rfl) :
  SS X (p.T hA X.K) W p.gst (jY i 99 caps):=by
 rw[hst]
 exact sP (fi:=p.fi) (T:=p.T hA X.K) nd hi (.inl hf) (fun H f cvs h=>PT.bx99▸h) (if_pos ⟨g.so,rfl⟩) g.cd (hcode.trans g.co) g.bt hcl (xH hce hfn hc) hq hd0 hk0 ha (.inr hf)
end
section
variable{P:Program}{w:World}{K:Frag}{mg:Str->Option Value}{base:Heap}{p:PT}{hA:p.attOk}
def A_(i:Nat)(t:Tx p K mg)(body:∀ (A:Around) (outer:List Env) (s:Shared) (H:Hp) (E:XK),Ctx ((cr (CXP P w) P w K mg base (p.fs i).N (p.fs i).q (au (p.fs i).s) (p.fa K i) (dAt K (p.fa K i)).code A outer s H E).low fun _=>false) (p.T hA K) (WD (p.T hA K) E) k->(p.fs i).N.Nodup ->
  SSs ((cr (CXP P w) P w K mg base (p.fs i).N (p.fs i).q (au (p.fs i).s) (p.fa K i) (dAt K (p.fa K i)).code A outer s H E).low fun _=>false) (p.T hA K) (WD (p.T hA K) E) (a9 (p.fs i).s) m):OkF p hA P w K mg base (k+1) i (a6 (p.fs i).N.length m) :=
 xl (T:=p.T hA K) (fun _=>false) (t.fn i) (t.sc i) fun a b c d e f=>body a b c d e f (t.sc i).nd
def PT.gp(p:PT):List Str:=p.gs.N.take p.gs.k
def PT.scF(p:PT):Bool:=decide (p.fi.scope.kind=.function)&&!p.fi.scope.isCoroutine&&!p.fi.scope.isGenerator&&decide p.gs.N.Nodup&&decide (p.gs.N.take (p.gp++p.gs.fr).length=p.gp++p.gs.fr) &&
 p.gp.all (fun y=>decide (p.fi.scope.names.lookup y=some .local))&&p.gs.fr.all (fun y=>decide (p.fi.scope.names.lookup y=some .free))&&p.fi.scope.names.all (fun y=>decide (y.2≠.cell/\(y.2=.free->y.1∈p.gs.fr)))
abbrev OkN(p:PT)(hA:p.attOk)(P:Program)(w:World)(K:Frag)(mg:Str->Option Value)(base:Heap)(k:Nat)(m:List PV->Res PV):Prop:=FnF P w K mg base k p.fi.name p.fi.qual p.fi.params p.fi.body p.fi.scope p.gp p.fi.fr (spM (p.T hA K) (p.gp.length+p.fi.fr.length) m)
def okN(hs:p.scF=true)(body:∀ (f:Addr) (cdv:Value) (cl:List (Str × Addr)) (A:Around) (outer:List Env) (s:Shared) (H:Hp) (E:XK),Ctx (cxF P w K mg base p.gs.N p.fi.qual p.fi.scope f cdv cl A outer s H E) (p.T hA K) (WD (p.T hA K) E) k->p.gs.N.Nodup ->
  SSs (cxF P w K mg base p.gs.N p.fi.qual p.fi.scope f cdv cl A outer s H E) (p.T hA K) (WD (p.T hA K) E) p.fi.body m):OkN p hA P w K mg base (k+1) (a6 p.gs.N.length m):=by
 simp only[PT.scF,Bool.and_eq_true,decide_eq_true_eq,List.all_eq_true,Bool.not_eq_true']at hs
 obtain⟨⟨⟨⟨⟨⟨⟨q1,q2⟩,q3⟩,q4⟩,q5⟩,q6⟩,q7⟩,q8⟩:=hs
 exact Bo (T:=p.T hA K) ⟨q1,q2,q3,q4,q5,q6,q7,fun y hy=>(q8 y hy).2,fun y hy=>(q8 y hy).1⟩ fun a b c d e f g h i=>body a b c d e f g h i q4
def At(p:PT):Prop:=∀(cl:List (Str×Addr)) (doc pm ctv cdv:Value) (us:List Value),us.length=p.gp.length->bindArgs (PySem.W.fnX p.fi.name p.fi.qual p.fi.params p.fi.body p.fi.scope cl .none .none doc pm none cdv ctv) ⟨us,[]⟩=pure (p.gp.zip us)
end
section
variable{X:Cx}{W:Nat->St->Hp->Prop}{p:PT}{hA:p.attOk}
def wa(G:OkN p hA X.prog X.w X.K X.mg X.base k m)(hb:At p)(cx:Ctx X (p.T hA X.K) W kk)(ha:SA X (p.T hA X.K) W (e::es) ms)(hk:k<=kk:=by decide)(hN:X.N[i]?=some x:=by rfl)
  (hv:Vis X.env.scope x:=by first | exact Or.inl rfl | exact Or.inr (Or.inl rfl) | exact Or.inr (Or.inr rfl)) (hn:eD ms n:=by repeat' first | exact cX | apply cq) (hps:n=p.gp.length:=by rfl)
  (hd:(x ==("__debug__" : Str))=false:=by decide) (hcd:(x ==("__classdict__" : Str))=false:=by decide) (he:starEach (e::es) X.env=(false,eval e X.env)::starEach es X.env:=by rfl) (hpl:(backTo pos (starEach es X.env)).any (·.1)=false:=by rfl) :
  SE X (p.T hA X.K) W (.Call (.Name x np) (e::es) [] pos) (fI i 99 m ms) :=
 qg (fi:=p.fi) (T:=p.T hA X.K) G (cx.room.mono hk) (fun H f cvs h=>PT.bx99 (hA:=hA) (K:=X.K)▸ h) hb cx.xf hN hv (fun env xs h=>(hn env xs h).trans hps) ha hd hcd he hpl
end
end PR
namespace PR
open PySem PySem.Spec PyProof.Rows L2
open PySem.W (Frag)
def pE{P:Program}{w:World}{K:Frag}{mg mb:Str->Option Value}{CX:CXT}{k:Nat}{fa a c0 Pt:Addr}{ps:Array Value}{fd:FuncData}{x:Str}{sp:Sp}{s₁:Shared}{vs:List Value}{ns:List Int}
  (KX:K.In s₁.heap) (hns:s₁.heap.Ns mainGlobals mg) (hb:s₁.heap.Ns builtinsNs mb) (hbb:∀x:Str,x≠"__name__" -> mb x=bootBuiltins x) (hlim:s₁.heap.NoLimit) (hg:s₁.gens=#[])
  (ha:s₁.heap.get? a=some { cls:=.type "list", data:=.seq vs.toArray }) (hi:IntsAre vs ns) (hl:ns.length<=sizeLine) (hr:ck k callerA)
  (hC:PySem.W.CodeHd s₁.heap c0 Pt) (hP:s₁.heap.get? Pt=some (PySem.W.tabObj #[])) (hPk:K.lookup Pt=none) (hB:s₁.heap.BuiltinsAt mg Pt)
  (F:∀base:Heap,K.In base->base.Ns mainGlobals mg->PySem.W.CodeHd base c0 Pt->base.BuiltinsAt mg Pt->bX P w K mg base CX k fa fd [x] sp) (hbind:∀(s:Shared) (u:Value),BindsTo s fd ⟨[u],[]⟩ [(x,u)])
  (hsp:∀H:Hp,H Pt=some (.tbl ps)->SqL K H a (ns.map V.int)->sp [.ref a] H (fun v _=>v=.bl true) fun _ _ _=>False)
  (hCX:∀H e s',CX [] H s₁ (fun _ _ _=>False) e s'->False) :
  codeAny (model P w) callerA (.call (.ref fa) ⟨[.ref a],[]⟩) (fun r s'=>r=.ok (.ret (.bool true))/\OldK s₁.heap s'.heap/\s'.os=s₁.os/\AllBare s'.gens) s₁:=by
 have rv:=jE hi
 have lenV:=hi.length
 have nPa:Pt≠a:=fun z=>by rw[z,ha]at hP;cases hP
 have core:∀H:Hp,H Pt=some (.tbl ps)->(∀b,b≠Pt->H b=none\/∃o xs,H b=some (.frz o (.lst xs)))->SqL K H a (ns.map V.int)->HOk P w H s₁.heap->(∀b,b≠Pt->H b≠none->b=a)->(H a≠none->K.lookup a=none)->
   codeAny (model P w) callerA (.call (.ref fa) ⟨[.ref a],[]⟩) (fun r s'=>r=.ok (.ret (.bool true))/\OldK s₁.heap s'.heap/\s'.os=s₁.os/\AllBare s'.gens) s₁:=by
  intro H hT hO hS hok hA hK
  have base_of:∀{b:Addr}{o:Obj},s₁.heap.get? b=some o->H b=none->(i6 s₁.heap H).get? b=some o:=fun e n=>rC e n
  have out:∀{b:Addr}{o:Obj},s₁.heap.get? b=some o->b≠Pt->o.cls≠.type "list" -> H b=none:=fun {b o} e n d=>by
   cases q:H b with
   | none=>rfl
   | some u =>
    have e':b=a:=hA b n (by rw[q];simp)
    subst e'
    rw[ha]at e;cases e
    exact absurd rfl d
  have noA:∀{b:Addr}{o:Obj}{es:Array DictEntry}{ep:Nat},s₁.heap.get? b=some o->o.data=.dict es ep->H b=none:=fun {b o es ep} e d=>by
   cases q:H b with
   | none=>rfl
   | some u =>
    by_cases z:b=Pt
    ·subst z;rw[hP]at e;cases e;cases d
    ·have e':b=a:=hA b z (by rw[q];simp)
     subst e'
     rw[ha]at e;cases e
     cases d
  have nsK:∀{b:Addr}{m:Str->Option Value},s₁.heap.Ns b m->(i6 s₁.heap H).Ns b m:=fun {b m} ⟨o,es,ep,e,d,r⟩=>⟨o,es,ep,base_of e (noA e d),d,r⟩
  have hKb:K.In (i6 s₁.heap H):=fun b o e=>base_of (KX b o e) (by
   cases q:H b with
   | none=>rfl
   | some u =>
    by_cases z:b=Pt
    ·subst z;rw[hPk]at e;cases e
    ·have e':b=a:=hA b z (by rw[q];simp)
     subst e'
     rw[hK (by rw[q];simp)]at e;cases e)
  have hCb:PySem.W.CodeHd (i6 s₁.heap H) c0 Pt:=by
   obtain⟨o,us,file,tf,flags,tg,inF,text,tt,e1,r1,r2,r3,r4,r5,r6,r7,r8,hne⟩:=hC
   exact⟨o,us,file,tf,flags,tg,inF,text,tt,base_of e1 (out e1 hne (by rw[r1];simp)),r1,r2,r3,r4,r5,r6,r7,r8,hne⟩
  have hBb:(i6 s₁.heap H).BuiltinsAt mg Pt:=by
   obtain⟨bm,o,b1,b2,b3,b4,b5,b6,r⟩:=hB
   exact⟨bm,o,b1,b2,b3,b4,base_of b5 (out b5 b4 (by rw[b6];simp)),b6,r⟩
  have hM:Mod K mg (i6 s₁.heap H):=⟨hKb,nsK hns,⟨mb,nsK hb,hbb⟩,let⟨mc,h1,h2⟩:=hlim;⟨mc,nsK h1,h2⟩⟩
  have e0:lh P w K mg (i6 s₁.heap H) callerA [] s₁ H:=⟨rfl,hM,fun b o e=>ue e,Nat.le_of_eq (pG _ _),trivial,fun b hb=>absurd (show b ∈([]:List Addr)from hb) (by simp),hok,.of_eq hg⟩
  refine codeAny_mono ((F _ hKb (nsK hns) hCb hBb).run callerA [] s₁ H ⟨[.ref a],[]⟩ [.ref a] [.ref a] _ _ hr e0 (hbind s₁ (.ref a)) (.cons rfl .nil) (hsp H hT hS)) fun r s' h=>?_
  cases r with
  | error e=>exact(hCX H e s' h).elim
  | ok fl =>
   cases fl with
   | next | brk | cont=>exact False.elim h
   | ret u =>
    obtain⟨v,H',os,bare,un,hok',r',q⟩:=h
    have q':v=.bl true:=q
    subst q'
    obtain rfl:u=Value.bool true:=r'
    have keep:∀b o,b≠Pt->s₁.heap.get? b=some o->s'.heap.get? b=some o:=fun b o n e=>by
     cases q:H b with
     | none=>exact un.keep b o e q (by intro z;exact absurd (show b ∈([]:List Addr)from z) (by simp)) (by simp)
     | some u =>
      rcases hO b n with z |⟨ob,xs,z⟩
      ·rw[q]at z;cases z
      ·have z2:=un.frzs b ob _ z
       obtain⟨e1,_⟩:=hok b _ z
       obtain⟨e2,_⟩:=hok' b _ z2
       rw[e]at e1;cases e1
       exact e2
    obtain⟨more,hT'⟩:=un.tbls Pt ps hT
    obtain⟨qs,hq,_⟩:=hok' Pt _ hT'
    refine⟨rfl,⟨fun b o e=>?_,fun b o e=>?_⟩,os,bare⟩
    ·by_cases z:b=Pt
     ·subst z
      rw[hP]at e;cases e
      exact .inr (.inl ⟨(hC.tab hP).isCodeTable,rfl,#[],qs,rfl,by rw[Array.empty_append];exact hq⟩)
     ·exact .inl (keep b o z e)
    ·by_cases z:b=Pt
     ·subst z;exact⟨_,hq⟩
     ·exact⟨o,keep b o z e⟩
 have tOk:∀H:Hp,cb P w H s₁.heap Pt (.tbl ps):=fun H=>⟨#[],hP,.inl rfl⟩
 cases hk:K.lookup a with
 | some o =>
  have e:=KX a o hk
  rw[ha]at e
  cases e
  refine core (fun b=>if b=Pt then some (.tbl ps)else none) (if_pos rfl) (fun b n=>.inl (if_neg n)) (.inr ⟨_,vs.toArray,_,hk,rfl,rfl,rfl,by rw[List.size_toArray,lenV];exact hl,by simpa using rv⟩) (fun b u z=>?_) (fun b n z=>absurd (if_neg n) z) fun z=>absurd (if_neg (Ne.symm nPa)) z
  by_cases hb:b=Pt
  ·have z':=(if_pos hb).symm.trans z
   cases z'
   subst hb
   exact tOk _
  ·have z':=(if_neg hb).symm.trans z
   cases z'
 | none =>
  refine core (fun b=>if b=Pt then some (.tbl ps)else if b=a then some (.frz { cls:=.type "list", data:=.seq vs.toArray } (.lst (ns.map V.int)))else none) (if_pos rfl) (fun b n=>?_) (.inl (.inr ⟨{ cls:=.type "list", data:=.seq vs.toArray },(if_neg (Ne.symm nPa)).trans (if_pos rfl)⟩)) (fun b u z=>?_) (fun b n z=>?_) fun _=>hk
  ·by_cases hb:b=a
   ·exact .inr ⟨_,_,(if_neg n).trans (if_pos hb)⟩
   ·exact .inl ((if_neg n).trans (if_neg hb))
  ·by_cases hp:b=Pt
   ·have z':=(if_pos hp).symm.trans z
    cases z'
    subst hp
    exact tOk _
   ·by_cases hb:b=a
    ·have z':=((if_neg hp).trans (if_pos hb)).symm.trans z
     cases z'
     subst hb
     exact⟨ha,by rw[List.length_map];exact hl,vs,_,rv,ha⟩
    ·have z':=((if_neg hp).trans (if_neg hb)).symm.trans z
     cases z'
  ·by_cases hb:b=a
   ·exact hb
   ·exact absurd ((if_neg n).trans (if_neg hb)) z
def PT.chG(p:PT)(K:Frag):Bool:=(PySem.W.tabIn K (aU (p.fs p.gs.i).s)).isSome&&(K.lookup (p.gt K).2).isNone&&decide ((dAt K (p.fa K p.gs.i)).code=.ref (p.gt K).1)&&p.G.isSome
def pD{l:PySem.W.OpenLaw}{k:Nat}{x:Str}{q:Program}{loose:List Str}{XP:(Str->Option Value)->Heap->Prop}{YP:World->Heap->Prop}{d:DefRec}{K:Params->Frag}(p:PT)(hA:p.attOk)(hn:l.most=some 63)(hdf:d.params.defaults=[])(hr:ck k callerA)
  (hY:∀(w:World) (h:Heap),YP w h->(K w.params).In h) (hrec:((recsOf q).find? fun e=>e.name==aU (p.fs p.gs.i).s).isSome=true) (hG:∀w:World,p.chG (K w.params)=true)
  (F:∀ (w:World) (mg:Str->Option Value) (fa:Addr) (h:Heap),(K w.params).In h->h.Ns mainGlobals mg->mg d.name=some (.ref fa) ->
   ∃fd:FuncData,(∀(s:Shared) (u:Value),BindsTo s fd ⟨[u],[]⟩ [(x,u)])/\∀base:Heap,(K w.params).In base->TG p (K w.params) mg base->bX l.prog w (K w.params) mg base (CXP l.prog w) k fa fd [x] (p8 (K w.params) (p.T hA (K w.params)).tb)) :
  PySem.W.WalkO q loose XP YP l.row.toRowW d [] (fun f vs=>PySem.call f vs):=by
 refine Att.attach_call hn hdf fun w s₀ s₁ mg mb fa o pm cd doc a vs ns G ia ho hd hcd hmg hobj hints hlen hg=>?_
 have KX:=hY w _ ia
 obtain⟨fd,hb,hF⟩:=F w mg fa _ KX G.T.g hmg
 have h:=hG w
 simp only[PT.chG,Bool.and_eq_true,decide_eq_true_eq]at h
 obtain⟨⟨⟨h1,h2⟩,h3⟩,h4⟩:=h
 have ht:PySem.W.tabIn (K w.params) (aU (p.fs p.gs.i).s)=some ((p.gt (K w.params)).1,(p.gt (K w.params)).2):=by
  unfold PT.gt
  cases e:PySem.W.tabIn (K w.params) (aU (p.fs p.gs.i).s)with
  | none=>rw[e]at h1;cases h1
  | some z=>rfl
 obtain⟨d',hd'⟩:=Option.isSome_iff_exists.mp hrec
 obtain⟨hC,hP⟩:=PySem.W.tab_of G.T KX hd' ht
 have hB:s₁.heap.BuiltinsAt mg (p.gt (K w.params)).2:=by
  obtain⟨bm,ob,b1,b2,b3,b4,b5,b6⟩:=G.T.bmain
  refine⟨bm,ob,b1,b2,fun z=>?_,fun z=>?_,b3,b4,b5,b6⟩
  ·obtain⟨o,es,ep,e,hd,_⟩:=G.T.g
   rw[<- z,b3]at e;cases e;rw[hd]at b6;cases b6
  ·rw[z,hP]at b3;cases b3;cases b4
 exact pE (c0:=(p.gt (K w.params)).1) (Pt:=(p.gt (K w.params)).2) (ps:=#[rawInt p.gpos.line,rawInt p.gpos.col,.str p.gs.q 0]) KX G.T.g G.T.b G.T.builtins G.T.nolimit hg hobj hints (Nat.le_trans hlen (by decide)) hr hC hP (by simpa using h2) hB
  (fun base b1 _ b3 b4=>hF base b1 ⟨b3,b4,h3,h4⟩) hb (fun H hT hS=>⟨fun b ps e=>(by
   change (if p.G.isSome=true/\b=(p.gt (K w.params)).2 then _ else none)=some ps at e
   split at e
   ·rename_i z;rw[z.2];cases e;exact hT
   ·cases e),a,ns,rfl,hS,hlen,fun _ _ z=>z⟩) fun H e s' ⟨_,_,_,z⟩=>z
end PR
namespace PR
open PySem PySem.Spec L2
section
variable{env e e':En}{v:PV}{i:Nat}{r:Out}
@[simp] def uU:mC v env=.ok v:=rfl
@[simp] def kQ:ak env=.ok []:=rfl
@[simp] def ip:ae a m env=(a env).bind fun x=>(m env).bind fun xs=>.ok (x::xs):=rfl
@[simp] def BG:mUn f a env=(a env).bind f:=rfl
@[simp] def ic:mOp f a b env=(a env).bind fun x=>(b env).bind fun y=>f x y:=rfl
@[simp] def iq:ao f m env=(m env).bind f:=rfl
@[simp] def xD:dN m env=(m env).bind fun xs=>.ok (.lst .own xs):=rfl
@[simp] def xC:dW m env=(m env).bind fun xs=>.ok (.tup xs):=rfl
@[simp] def Al:cM a env=(a env).bind kA:=rfl
@[simp] def j7:gi env=.ok none:=rfl
@[simp] def uQ:cK env=.ok true:=rfl
def zq:Option (Option PV)->Res PV
 | some (some v)=>.ok (v.mapF Fl.lend)
 | _=>.stuck
@[simp] def pd(v:PV):zq (some (some v))=.ok (v.mapF Fl.lend):=rfl
@[simp] def eC:ac i env=zq env[i]?:=by
 unfold ac
 cases env[i]? with
 | none=>rfl
 | some w=>cases w<;>rfl
def pBl:PV->Res Bool
 | .bl b=>.ok b
 | _=>.stuck
@[simp] def A8(b:Bool):pBl (.bl b)=.ok b:=rfl
@[simp] def oz:ar a env=(a env).bind pBl:=by
 rfl
def zr:PV->Res PV
 | .bl b=>.ok (.bl (!b))
 | _=>.stuck
@[simp] def Ay(b:Bool):zr (.bl b)=.ok (.bl (!b)):=rfl
@[simp] def AS:iU a env=(a env).bind zr:=by
 rfl
def t_(r:Res PV):PV->Res PV
 | .bl b=>if b then r else .ok (.bl false)
 | _=>.stuck
@[simp] def Az(r:Res PV)(b:Bool):t_ r (.bl b)=if b then r else .ok (.bl false):=rfl
@[simp] def AU:eG a b env=(a env).bind (t_ (b env)):=by
 unfold eG
 congr 1
 funext x
 cases x with
 | bl b=>cases b<;>rfl
 | _=>rfl
def pOr(r:Res PV):PV->Res PV
 | .bl b=>if b then .ok (.bl true)else r
 | _=>.stuck
@[simp] def A7(r:Res PV)(b:Bool):pOr r (.bl b)=if b then .ok (.bl true)else r:=rfl
@[simp] def Bq:eJ a b env=(a env).bind (pOr (b env)):=by
 unfold eJ
 congr 1
 funext x
 cases x with
 | bl b=>cases b<;>rfl
 | _=>rfl
@[simp] def Ac(g:Int->Int->PV)(i j:Int):jS g (.int i) (.int j)=.ok (g i j):=rfl
def vj:PV->Res (Option Int)
 | .int i=>.ok (some i)
 | _=>.stuck
@[simp] def yt(i:Int):vj (.int i)=.ok (some i):=rfl
@[simp] def oA:jX a env=(a env).bind vj:=by
 rfl
def zv(l h:Option Int):PV->Res PV
 | .lst _ xs=>.ok (.lst .own (jd xs l h))
 | _=>.stuck
@[simp] def zu(l h:Option Int)(f:Fl)(xs:List PV):zv l h (.lst f xs)=.ok (.lst .own (jd xs l h)):=rfl
@[simp] def lU:gI o lo hi env=(o env).bind fun x=>(lo env).bind fun l=>(hi env).bind fun h=>zv l h x:=by
 rfl
def aM(v:PV):Res PV:=if v.has Fl.isBor then .stuck else .ok v
@[simp] def Ap:aA f xs=(f (mapL Fl.toBor xs)).bind aM:=by
 unfold aA
 cases f (mapL Fl.toBor xs)<;>rfl
def pf(disp:Nat->Option (List PV->Res PV))(r:Res (List PV)):PV->Res PV
 | .obj fl c ks vs=>match disp c with
  | some m=>r.bind fun xs=>aA m (.obj fl c ks vs::xs)
  | none=>.stuck
 | _=>.stuck
@[simp] def zt(disp:Nat->Option (List PV->Res PV))(r:Res (List PV))(fl:Fl)(c:Nat)(ks:List Nat)(vs:List PV):pf disp r (.obj fl c ks vs)=match disp c with
  | some m=>r.bind fun xs=>aA m (.obj fl c ks vs::xs)
  | none=>.stuck:=rfl
@[simp] def Bs:dM disp o ms env=(o env).bind (pf disp (ms env)):=by
 unfold dM
 congr 1
 funext x
 cases x<;>rfl
@[simp] def uR:cL m env=(m env).bind fun x=>match x with
 | .lst f xs=>if !f.isLnt&&cW xs then .ok xs else .stuck
 | .tup xs=>if cW xs then .ok xs else .stuck
 | _=>.stuck:=rfl
def qB(x:PV):Res (List PV):=match aQ x with
 | some xs=>.ok xs
 | none=>.stuck
@[simp] def yv(f:Fl)(xs:List PV):qB (.lst f xs)=.ok xs:=rfl
@[simp] def yu(xs:List PV):qB (.tup xs)=.ok xs:=rfl
@[simp] def uS:de m env=(m env).bind qB:=rfl
@[simp] def AT:df a b env=(a env).bind fun x=>if x then b env else .ok false:=rfl
@[simp] def Bp:fm a b env=(a env).bind fun x=>if x then .ok true else b env:=rfl
@[simp] def Bt:pA c a b env=(c env).bind fun x=>if x then a env else b env:=rfl
@[simp] def Br:kI c f m env=(m env).bind fun xs=>aA f (.obj .own c [] []::xs):=rfl
def ah(h1:a env=.next e)(h2:b e=r):aq a b env=r:=by unfold aq;rw[h1];exact h2
def ee(h1:a env=.ret v):aq a b env=.ret v:=by unfold aq;rw[h1]
def bh(h1:a env=.exc c e):aq a b env=.exc c e:=by unfold aq;rw[h1]
def dO(h:c env=.ok true)(h2:a env=r):mBr c a b env=r:=by unfold mBr;rw[h];exact h2
def bp(h:c env=.ok false)(h2:b env=r):mBr c a b env=r:=by unfold mBr;rw[h];exact h2
def vH(h:c env=.ok x):mBr c a b env=if x then a env else b env:=by unfold mBr;rw[h];cases x<;>rfl
def az(h:m env=.ok v)(hl:v.noLnt=true)(ho:aY i env=true):aE i m env=.next (env.set i (some v)):=by
 unfold aE;rw[h];simp[hl,ho]
def bF(h:m env=.ok v)(hl:v.noLnt=true):bI m env=.ret v:=by unfold bI;rw[h];simp[hl]
def du(h:env[i]?=some (some v)):cm i env=.ret v:=by unfold cm;rw[h]
def gw(h:m env=.ok v):eF m env=.next env:=by unfold eF;rw[h]
def lX(h:m env=.exc c):eF m env=.exc c env:=by unfold eF;rw[h]
def fX(h:m env=.exc c):aE i m env=.exc c env:=by unfold aE;rw[h]
def ik(h:m env=.exc c):bI m env=.exc c env:=by unfold bI;rw[h]
def dR(h:m env=.ok xs):aN c m env=.exc c env:=by unfold aN;rw[h]
def aw:aF env=.next env:=rfl
def cN(h:m env=.ok v)(ho:env[i]?=some (some (.obj .own c ks vs)))(hl:v.noLnt=true)(hk:ks.contains k=false)(hn:ks.length < 900) :
  fH i k m env=.next (env.set i (some (.obj .own c (ks++[k]) (vs++[v])))):=by
 unfold fH;rw[h,ho];simp only[hl,hk];simp[hn]
def cP(h:m env=.ok v)(ho:env[i]?=some (some (.lst .own xs)))(hl:v.noLnt=true)(hn:xs.length < 10000000):bE i m env=.next (env.set i (some (.lst .own (xs++[v])))):=by
 unfold bE;rw[h,ho];simp[hl,hn]
def fY(h:m env=.ok v)(ho:env[i]?=some (some (.lst .own xs)))(hk:mk env=.ok (.int j))(hj:ixN xs.length j=some n)(hl:v.noLnt=true) :
  dL i mk m env=.next (env.set i (some (.lst .own (xs.set n v)))):=by
 unfold dL;rw[h,ho,hk];simp[hj,hl]
def sL(h:mb env=.exc c e)(hh:hit c=true)(h2:mD i (mh (e.set i (some (.exc c))))=r):qX mb hit i mh mo env=r:=by
 unfold qX;rw[h];simp only[hh,if_true];exact h2
def i_(h:env[i]?=some (some v)):iV i env=.next (env.set i (some (v.mapF Fl.freeze))):=by unfold iV;rw[h]
def aH(h:m (args.map some++List.replicate (n - args.length) none)=.ret v):a6 n m args=.ok v:=by unfold a6;rw[h]
def bL(h:m (args.map some++List.replicate (n - args.length) none)=.exc c e):a6 n m args=.exc c:=by unfold a6;rw[h]
def jN(h:m (args.map some++List.replicate (n - args.length) none)=.next e):a6 n m args=.ok .non:=by unfold a6;rw[h]
def eZ(h:m (args.map some++List.replicate (n - args.length) none)=.next e)(ho:e[0]?=some (some v)):iE n m args=.ok v:=by unfold iE;rw[h];simp[ho]
def gu(P:Nat->En->Prop)(h:it env=.ok xs)(h0:P 0 env)
  (step:∀(k:Nat) (x:PV) (e:En),xs[k]?=some x->P k e->∃e1 e2,g x e=some e1/\(body e1=.next e2\/body e1=.cont e2)/\P (k+1) e2):∃e2,b_ it g body env=.next e2/\P xs.length e2:=by
 unfold b_
 rw[h]
 dsimp only
 have key:∀ (ys pre:List PV) (e:En),pre ++ ys=xs->P pre.length e->∃ e2,da (fun x e=>match g x e with
  | some e'=>body e'
  | none=>.stuck) ys e=.next e2/\P xs.length e2:=by
  intro ys
  induction ys with
  | nil=>intro pre e hp hP;simp at hp;subst hp;exact⟨e,rfl,hP⟩
  | cons y ys ih =>
   intro pre e hp hP
   obtain⟨e1,e2,h1,h2,h3⟩:=step pre.length y e (by rw[<- hp];simp) hP
   obtain⟨e3,h4,h5⟩:=ih (pre++[y]) e2 (by rw[<- hp];simp) (by simpa using h3)
   refine⟨e3,?_,h5⟩
   unfold da
   simp only[h1]
   rcases h2 with h2 | h2<;>rw[h2]<;>exact h4
 exact key xs [] env rfl h0
def kP(P:Nat->En->Prop)(R:Out->Prop)(h:it env=.ok xs)(h0:P 0 env)
  (step:∀(k:Nat) (x:PV) (e:En),xs[k]?=some x->P k e->∃e1,g x e=some e1/\((∃e2,(body e1=.next e2\/body e1=.cont e2)/\P (k+1) e2)\/(∃e2,body e1=.brk e2/\R (.next e2))\/(∃v,body e1=.ret v/\R (.ret v))\/ ∃c e2,body e1=.exc c e2/\R (.exc c e2)))
  (fin:∀e,P xs.length e->R (.next e)):R (b_ it g body env):=by
 unfold b_
 rw[h]
 dsimp only
 have key:∀ (ys pre:List PV) (e:En),pre ++ ys=xs->P pre.length e->R (da (fun x e=>match g x e with
  | some e'=>body e'
  | none=>.stuck) ys e):=by
  intro ys
  induction ys with
  | nil=>intro pre e hp hP;simp at hp;subst hp;exact fin e hP
  | cons y ys ih =>
   intro pre e hp hP
   obtain⟨e1,h1,h2⟩:=step pre.length y e (by rw[<- hp];simp) hP
   unfold da
   simp only[h1]
   rcases h2 with⟨e2,h2,h3⟩ |⟨e2,h2,h3⟩ |⟨v,h2,h3⟩ |⟨c,e2,h2,h3⟩
   ·have:=ih (pre++[y]) e2 (by rw[<- hp];simp) (by simpa using h3)
    rcases h2 with h2 | h2<;>rw[h2]<;>exact this
   ·rw[h2];exact h3
   ·rw[h2];exact h3
   ·rw[h2];exact h3
 exact key xs [] env rfl h0
def bJ(h:mi env=.ok xs)(hl:xs.length<=10000000)(hc:cY g mc me (cj caps k env) xs=.ok ys):bD caps k mi g mc me env=.ok (.lst .own ys):=by
 unfold bD;rw[h];simp only[Res.ok_bind,hl,if_true,hc]
def bW{α:Type}{a:α->PV}{f:α->PV}:∀(xs:List α),(∀x∈xs,∃e1,g (a x).borrow env=some e1/\me e1=.ok (f x)/\(f x).has Fl.isBor=false/\(f x).has Fl.isLnt=false)->
  cY g cK me env (xs.map a)=.ok (xs.map f)
 | [],_=>rfl
 | x::xs,h=>by
  obtain⟨e1,h1,h2,h3,h4⟩:=h x List.mem_cons_self
  rw[List.map_cons,cY,h1]
  simp only[uQ,Res.ok_bind,if_true,h2,h3,h4,Bool.or_self,Bool.false_eq_true,if_false,bW xs fun y hy=>h y (List.mem_cons_of_mem _ hy)]
  rfl
def cH{α:Type}{a:α->PV}{f:α->PV}{p:α->Bool}:∀(xs:List α),(∀x∈xs,∃e1,g (a x).borrow env=some e1/\mc e1=.ok (p x)/\(p x=true->me e1=.ok (f x)/\(f x).has Fl.isBor=false/\(f x).has Fl.isLnt=false))->
  cY g mc me env (xs.map a)=.ok ((xs.filter p).map f)
 | [],_=>rfl
 | x::xs,h=>by
  obtain⟨e1,h1,h2,h3⟩:=h x List.mem_cons_self
  have ih:=cH (g:=g) (mc:=mc) (me:=me) (a:=a) (f:=f) (p:=p) xs fun y hy=>h y (List.mem_cons_of_mem _ hy)
  rw[List.map_cons,cY,h1]
  cases hp:p x with
  | true =>
   obtain⟨h4,h5,h6⟩:=h3 hp
   simp only[h2,hp,Res.ok_bind,if_true,h4,h5,h6,Bool.or_self,Bool.false_eq_true,if_false,ih]
   rw[List.filter_cons_of_pos hp]
   rfl
  | false =>
   simp only[h2,hp,Res.ok_bind,Bool.false_eq_true,if_false,ih]
   rw[List.filter_cons_of_neg (by simp[hp])]
end
def iL(ns:List Int):List PV:=ns.map .int
def rq(ns:List Int):ns.map PV.int=iL ns:=rfl
section
variable(ns ms:List Int)(g:Fl->Fl)(p:Fl->Bool)
@[simp] def Aa:iL []=[]:=rfl
@[simp] def e_(n:Int):iL (n::ns)=.int n::iL ns:=rfl
@[simp] def bw:(iL ns).length=ns.length:=by simp[iL]
@[simp] def Ab:iL ns++iL ms=iL (ns++ms):=by simp[iL]
@[simp] def j2(k:Nat):(iL ns).drop k=iL (ns.drop k):=by simp[iL]
@[simp] def j1(k:Nat):(iL ns).take k=iL (ns.take k):=by simp[iL]
@[simp] def rn(k:Nat):(iL ns)[k]?=(ns[k]?).map .int:=by simp[iL]
@[simp] def lL(k:Nat)(n:Int):(iL ns).set k (.int n)=iL (ns.set k n):=by simp[iL,List.map_set]
@[simp] def yw:mapL g (iL ns)=iL ns:=by
 induction ns with
 | nil=>rfl
 | cons n ns ih=>simp[mapL,PV.mapF,ih]
@[simp] def yL:hasL p (iL ns)=false:=by
 induction ns with
 | nil=>rfl
 | cons n ns ih=>simp[hasL,PV.has,ih]
@[simp] def yO:PyData.canLayAll0 (dataL (iL ns))=true:=by
 induction ns with
 | nil=>rfl
 | cons n ns ih=>simp only[e_,dataL,PV.data,PyData.canLayAll0,ih];rfl
@[simp] def yN:PyData.depthAll (dataL (iL ns))=0:=by
 induction ns with
 | nil=>rfl
 | cons n ns ih=>simp only[e_,dataL,PV.data,PyData.depthAll,ih];rfl
@[simp] def fW(i:Int):shp (.int i)=true:=rfl
@[simp] def A5(b:Bool):shp (.bl b)=true:=rfl
@[simp] def Au:shp .non=true:=rfl
@[simp] def lr(f:Fl):shp (.lst f (iL ns))=true:=by
 simp[shp,SeqAt.shaped,PV.data,PyData.canLay0,PyData.depth]
@[simp] def jI:(iL ns).all shp=true:=by
 induction ns with
 | nil=>rfl
 | cons n ns ih=>simp only[e_,List.all_cons,fW,ih];rfl
mutual
def lV:∀d:PyData,d.canLay0=true->PyData.eqv d d=true
 | .none,_=>rfl
 | .bool b,_ | .int b,_ | .str b,_=>by simp[PyData.eqv]
 | .list xs,h=>by
  simp only[PyData.canLay0]at h
  simp only[PyData.eqv]
  exact eqvL_self xs h
 | .tuple xs,h=>by
  simp only[PyData.canLay0]at h
  simp only[PyData.eqv]
  exact eqvL_self xs h
 | .dict xs,h=>by simp[PyData.canLay0]at h
def eqvL_self:∀ds:List PyData,PyData.canLayAll0 ds=true->PyData.eqvAll ds ds=true
 | [],_=>rfl
 | d::ds,h=>by
  simp only[PyData.canLayAll0,Bool.and_eq_true]at h
  simp only[PyData.eqvAll,lV d h.1,eqvL_self ds h.2]
  rfl
end
def ug(h:x.data=y.data)(hs:shp x=true):pNe x y=.ok (.bl false):=by
 have hy:shp y=true:=by unfold shp at hs ⊢;rw[<- h];exact hs
 have hc:=SeqAt.canLay_of_shaped hs
 unfold pNe
 rw[hs,hy,<- h,lV _ hc]
 rfl
@[simp] def Bu(i j:Int):pEq (.int i) (.int j)=.ok (.bl (decide (i=j))):=by
 unfold pEq
 simp only[fW,Bool.and_self,if_true,PV.data,PyData.eqv]
 congr 2
@[simp] def Bf(i j:Int):pNe (.int i) (.int j)=.ok (.bl (!decide (i=j))):=by
 unfold pNe
 simp only[fW,Bool.and_self,if_true,PV.data,PyData.eqv]
 congr 2
@[simp] def BI(i j:Bool):pEq (.bl i) (.bl j)=.ok (.bl (decide (i=j))):=by cases i<;>cases j<;>rfl
@[simp] def BD(i j:Bool):pNe (.bl i) (.bl j)=.ok (.bl (!decide (i=j))):=by cases i<;>cases j<;>rfl
def gU:PyData.eqvAll (dataL (iL ns)) (dataL (iL ms))=decide (ns=ms):=by
 induction ns generalizing ms with
 | nil=>cases ms<;>simp[dataL,PyData.eqvAll]
 | cons n ns ih =>
  cases ms with
  | nil=>simp[dataL,PyData.eqvAll]
  | cons m ms=>simp only[e_,dataL,PV.data,PyData.eqvAll,PyData.eqv,ih];by_cases h:n=m<;>simp[h]
@[simp] def AV(f f':Fl):pEq (.lst f (iL ns)) (.lst f' (iL ms))=.ok (.bl (decide (ns=ms))):=by
 unfold pEq
 simp only[lr,Bool.and_self,if_true,PV.data,PyData.eqv,gU]
@[simp] def AB(f f':Fl):pNe (.lst f (iL ns)) (.lst f' (iL ms))=.ok (.bl (!decide (ns=ms))):=by
 unfold pNe
 simp only[lr,Bool.and_self,if_true,PV.data,PyData.eqv,gU]
@[simp] def lt_int(i j:Int):pLt (.int i) (.int j)=.ok (.bl (decide (i < j))):=rfl
@[simp] def gt_int(i j:Int):pGt (.int i) (.int j)=.ok (.bl (decide (j < i))):=rfl
@[simp] def ge_int(i j:Int):pGe (.int i) (.int j)=.ok (.bl (decide (j<=i))):=rfl
@[simp] def zj(i j:Int):aZ (.int i) (.int j)=.ok (.int (i+j)):=rfl
@[simp] def sub_int(i j:Int):qA (.int i) (.int j)=.ok (.int (i - j)):=rfl
@[simp] def neg_int(i:Int):m4 (.int i)=.ok (.int (-i)):=rfl
def ay(h:0 < j):aW (.int i) (.int j)=.ok (.int (i % j)):=by simp[aW,c_,h]
def bC(h:0 < j)(h2:j < 1073741824):aS (.int i) (.int j)=.ok (.int (i / j)):=by simp[aS,c_,h,h2]
def kG(h:(-(2 ^ 64) < i/\i < 2 ^ 64)\/(-(2 ^ 64) < j/\j < 2 ^ 64)):iK (.int i) (.int j)=.ok (.int (i * j)):=by
 unfold iK c_
 dsimp only
 rw[if_pos (by simpa using h)]
def qp(h0:0<=j)(h1:j<=1000000)(h2:i.natAbs < 2 ^ 64):ju (.int i) (.int j)=.ok (.int (i ^ j.toNat)):=by
 unfold ju c_
 dsimp only
 rw[if_pos (by simp only[decide_eq_true_eq];exact⟨h0,h1,h2⟩)]
@[simp] def zi:ju (.int 10) (.int 60)=.ok (.int (10 ^ 60)):=qp (by decide) (by decide) (by decide)
@[simp] def AH(f:Fl)(xs:List PV):b9 (.lst f xs)=.ok (.int xs.length):=rfl
@[simp] def AG(xs:List PV):b9 (.tup xs)=.ok (.int xs.length):=rfl
@[simp] def z5(f:Fl)(xs:List PV):cD (.lst f xs)=.ok (.lst .own xs):=rfl
@[simp] def A9(f:PV->Res PV)(x:PV):p1 f [x]=f x:=by simp only[p1]
@[simp] def yS(b:Bool):kA (.bl b)=.ok b:=rfl
@[simp] def yn(i:Int):kA (.int i)=.ok (i != 0):=rfl
@[simp] def qV(i:Int):(PV.int i).mapF g=.int i:=by simp[PV.mapF]
@[simp] def AE(b:Bool):(PV.bl b).mapF g=.bl b:=by simp[PV.mapF]
@[simp] def zY:PV.non.mapF g=.non:=by simp[PV.mapF]
@[simp] def zW(x:Str):(PV.str x).mapF g=.str x:=by simp[PV.mapF]
@[simp] def z3(x:Nat):(PV.exc x).mapF g=.exc x:=by simp[PV.mapF]
@[simp] def zZ(f:Fl)(xs:List PV):(PV.lst f xs).mapF g=.lst (g f) (mapL g xs):=by simp[PV.mapF]
@[simp] def zV(xs:List PV):(PV.tup xs).mapF g=.tup (mapL g xs):=by simp[PV.mapF]
@[simp] def zX(f:Fl)(c:Nat)(ks:List Nat)(xs:List PV):(PV.obj f c ks xs).mapF g=.obj (g f) c ks (mapL g xs):=by simp[PV.mapF]
@[simp] def zT:mapL g []=[]:=by simp[mapL]
@[simp] def yx(x:PV)(xs:List PV):mapL g (x::xs)=x.mapF g::mapL g xs:=by simp[mapL]
@[simp] def AQ(i:Int):(PV.int i).has p=false:=by simp[PV.has]
@[simp] def Bk(b:Bool):(PV.bl b).has p=false:=by simp[PV.has]
@[simp] def AN:PV.non.has p=false:=by simp[PV.has]
@[simp] def AL(x:Str):(PV.str x).has p=false:=by simp[PV.has]
@[simp] def AR(x:Nat):(PV.exc x).has p=false:=by simp[PV.has]
@[simp] def AO(f:Fl)(xs:List PV):(PV.lst f xs).has p=(p f||hasL p xs):=by simp[PV.has]
@[simp] def AK(xs:List PV):(PV.tup xs).has p=hasL p xs:=by simp[PV.has]
@[simp] def AM(f:Fl)(c:Nat)(ks:List Nat)(xs:List PV):(PV.obj f c ks xs).has p=(p f||hasL p xs):=by simp[PV.has]
@[simp] def Ag:hasL p []=false:=by simp[hasL]
@[simp] def yM(x:PV)(xs:List PV):hasL p (x::xs)=(x.has p||hasL p xs):=by simp[hasL]
@[simp] def zR(x:PV):x.noLnt=!x.has Fl.isLnt:=rfl
@[simp] def yP(x:PV):x.borrow=x.mapF Fl.borrow:=rfl
@[simp] def z6:Fl.own.lend=.lnt:=rfl
@[simp] def z8:Fl.frz.lend=.frz:=rfl
@[simp] def z9:Fl.bor.lend=.bor:=rfl
@[simp] def z7:Fl.lnt.lend=.lnt:=rfl
@[simp] def yo:Fl.own.toBor=.own:=rfl
@[simp] def yq:Fl.frz.toBor=.frz:=rfl
@[simp] def yr:Fl.bor.toBor=.bor:=rfl
@[simp] def yp:Fl.lnt.toBor=.bor:=rfl
@[simp] def vI:Fl.own.borrow=.bor:=rfl
@[simp] def xJ:Fl.frz.borrow=.frz:=rfl
@[simp] def xK:Fl.bor.borrow=.bor:=rfl
@[simp] def xI:Fl.lnt.borrow=.bor:=rfl
@[simp] def yz:Fl.own.isOwn=true:=rfl
@[simp] def yB:Fl.frz.isOwn=false:=rfl
@[simp] def yC:Fl.bor.isOwn=false:=rfl
@[simp] def yA:Fl.lnt.isOwn=false:=rfl
@[simp] def yD:Fl.own.isLnt=false:=rfl
@[simp] def yF:Fl.frz.isLnt=false:=rfl
@[simp] def yG:Fl.bor.isLnt=false:=rfl
@[simp] def yE:Fl.lnt.isLnt=true:=rfl
@[simp] def yH:Fl.own.isBor=false:=rfl
@[simp] def yJ:Fl.frz.isBor=false:=rfl
@[simp] def yK:Fl.bor.isBor=true:=rfl
@[simp] def yI:Fl.lnt.isBor=false:=rfl
@[simp] def xh:Fl.own.freeze=.frz:=rfl
@[simp] def xj:Fl.frz.freeze=.frz:=rfl
@[simp] def xk:Fl.bor.freeze=.bor:=rfl
@[simp] def xi:Fl.lnt.freeze=.lnt:=rfl
def dY(h0:0<=i)(h:ns[i.toNat]?=some n):aI (.lst f (iL ns)) (.int i)=.ok (.int n):=by
 have hl:i.toNat < ns.length:=(List.getElem?_eq_some_iff.mp h).1
 unfold aI
 simp only[aQ,atI,ixN,bw,h0,if_true]
 rw[if_pos (by omega)]
 simp[h]
end
section
variable{env:En}{r:Out}
def gY(o:Out)(Q:En->Prop):Prop:=∃e,(o=.next e\/o=.cont e)/\Q e
def cF(h1:a env=.next e)(h2:gY (b e) Q):gY (aq a b env) Q:=by
 obtain⟨e2,h3,h4⟩:=h2
 refine⟨e2,?_,h4⟩
 unfold aq
 rw[h1]
 exact h3
def bM(h1:o=.next e)(h2:Q e):gY o Q:=⟨e,.inl h1,h2⟩
def gT(P:Nat->En->Prop)(h:it env=.ok xs)(h0:P 0 env)
  (step:∀(k:Nat) (x:PV) (e:En),xs[k]?=some x->P k e->∃e1,g x e=some e1/\gY (body e1) (P (k+1))) (fin:∀e,P xs.length e->Q e):gY (b_ it g body env) Q:=by
 obtain⟨e2,h1,h2⟩:=gu P h h0 fun k x e h1 h2=>by
  obtain⟨e1,h3,e2,h4,h5⟩:=step k x e h1 h2
  exact⟨e1,e2,h3,h4,h5⟩
 exact⟨e2,.inl h1,fin e2 h2⟩
def nQ{it:MI}{g:TgM}{body aV:MS}{xs:List PV}(P:Nat->En->Prop)(h:it env=.ok xs)(h0:P 0 env)
  (step:∀(k:Nat) (x:PV) (e:En),xs[k]?=some x->P k e->∃e1,g x e=some e1/\gY (body e1) (P (k+1))) (fin:∀e,P xs.length e->aV e=r):aq (b_ it g body) aV env=r:=by
 obtain⟨e2,h1,h2⟩:=gu P h h0 fun k x e h1 h2=>by
  obtain⟨e1,h3,e2,h4,h5⟩:=step k x e h1 h2
  exact⟨e1,e2,h3,h4,h5⟩
 exact ah h1 (fin e2 h2)
def nA(h:-1000000<=i/\i<=1000000):inR i=true:=by
 have e:(2:Int) ^ 62=4611686018427387904:=by decide
 unfold inR
 rw[decide_eq_true_eq,e]
 omega
def tD(hi:inR n=true)(h:ms env=.ok [.int n]):bS ms env=.ok (cB 0 n.toNat):=by
 unfold bS
 rw[h,Res.ok_bind]
 dsimp only
 rw[if_pos hi]
def qi{n:Nat}(hi:inR (n:Int)=true)(h:ms env=.ok [.int n]):bS ms env=.ok (cB 0 n):=by
 have:=tD hi h
 rw[Int.toNat_natCast]at this
 exact this
def wW{n:Nat}(hn:n<=1000000):-1000000 <=(n:Int)/\(n:Int)<= 1000000:=by omega
def ce{n:Nat}(h:ms env=.ok [.int n])(hn:n<=1000000):bS ms env=.ok (cB 0 n):=qi (nA (wW hn)) h
def tB(hh:(inR lo&&inR hi)=true)(h:ms env=.ok [.int lo,.int hi]):jW ms env=.ok (cB lo (hi - lo).toNat):=by
 unfold jW
 rw[h,Res.ok_bind]
 dsimp only
 rw[if_pos hh]
def tz(h:ms env=.ok [.int lo,.int hi])(hl:-1000000<=lo/\lo<=1000000)(hh:-1000000<=hi/\hi<=1000000):jW ms env=.ok (cB lo (hi - lo).toNat) :=
 tB (by rw[nA hl,nA hh];rfl) h
def bu(lo:Int)(n:Nat):(cB lo n).length=n:=by simp[cB]
def dr(h:(cB lo n)[k]?=some x):k < n/\x=.int (lo+k):=by
 have hk:k < n:=by
  have:=(List.getElem?_eq_some_iff.mp h).1
  rwa [bu]at this
 refine⟨hk,?_⟩
 simp[cB,hk]at h
 exact h.symm
def kN{ns:List Int}{k:Nat}{x:PV}(h:(iL ns)[k]?=some x):∃n,ns[k]?=some n/\x=.int n:=by
 simp at h
 obtain⟨n,h1,h2⟩:=h
 exact⟨n,h1,h2.symm⟩
def bZ(h:aY i e=true):tgN i v e=some (e.set i (some v)):=by simp[tgN,h]
end
def xF(ns:List Int)(lo hi:Nat){l h:Int}(hl:l=lo)(hh:h=hi):jd (iL ns) (some l) (some h)=iL ((ns.take hi).drop lo):=by
 subst hl hh
 unfold jd
 rw[HT.sIx_nat,HT.sIx_nat]
 simp only[bw,j2,j1]
 congr 1
 rw[List.drop_take]
 rcases Nat.le_total lo ns.length with h1 | h1
 ·rw[Nat.min_eq_left h1]
  rcases Nat.le_total hi ns.length with h2 | h2
  ·rw[Nat.min_eq_left h2]
  ·rw[Nat.min_eq_right h2,List.take_of_length_le (by simp),List.take_of_length_le (by simp;omega)]
 ·rw[Nat.min_eq_right h1,List.drop_eq_nil_of_le (Nat.le_refl _),List.drop_eq_nil_of_le h1]
  simp
def uY(ns:List Int)(lo:Nat){l:Int}(hl:l=lo):jd (iL ns) (some l) none=iL (ns.drop lo):=by
 subst hl
 unfold jd
 rw[HT.sIx_nat,HT.sIx_none]
 simp only[bw,j2,j1]
 congr 1
 rcases Nat.le_total lo ns.length with h1 | h1
 ·rw[Nat.min_eq_left h1,List.take_of_length_le (by simp)]
 ·rw[Nat.min_eq_right h1,List.drop_eq_nil_of_le (Nat.le_refl _),List.drop_eq_nil_of_le h1]
  simp
def eQ(hf:f≠.mod)(hg:g≠.mod)(h:xs.length+ys.length<=10000000):aZ (.lst f xs) (.lst g ys)=.ok (.lst .own (xs++ys)):=by
 unfold aZ
 grind
def gm(h:k < n):ixN n (k:Int)=some k:=by
 unfold ixN
 rw[if_pos (by omega),if_pos (by omega),Int.toNat_natCast]
def llL(f:Fl)(xss:List (List Int)):List PV:=xss.map fun xs=>.lst f (iL xs)
section
variable(xss yss:List (List Int))(g:Fl->Fl)(p:Fl->Bool)(f:Fl)
@[simp] def AF:llL f []=[]:=rfl
@[simp] def dX(xs:List Int):llL f (xs::xss)=.lst f (iL xs)::llL f xss:=rfl
@[simp] def kK:(llL f xss).length=xss.length:=by simp[llL]
@[simp] def uu:llL f xss++llL f yss=llL f (xss++yss):=by simp[llL]
@[simp] def zU:mapL g (llL f xss)=llL (g f) xss:=by
 induction xss with
 | nil=>rfl
 | cons n ns ih=>simp[ih]
def bT(h:p f=false):hasL p (llL f xss)=false:=by
 induction xss with
 | nil=>rfl
 | cons n ns ih=>simp[ih,h]
end
@[simp] def gP(ns:List Int):bB (iL ns)=some ns:=by
 induction ns with
 | nil=>rfl
 | cons n ns ih=>simp[bB,ih]
def j0(h:ns.length<=1000):e6 (.lst f (iL ns))=.ok (.int (ie ns)):=by
 unfold e6
 simp only[gP]
 rw[if_pos (by simpa using h)]
def oF:∀(l acc:List Int),(acc++l).Nodup->l.foldl PyProof.Rows.step_dedup acc=acc++l
 | [],acc,_=>by simp
 | x::l,acc,h=>by
  have h':((acc++[x])++ l).Nodup:=by simpa using h
  rw[List.foldl_cons]
  have hx:x∉acc:=fun hm=>by
   rw[List.nodup_append]at h
   exact h.2.2 x hm x List.mem_cons_self rfl
  have:PyProof.Rows.step_dedup acc x=acc++[x]:=by
   unfold PyProof.Rows.step_dedup
   rw[if_neg]
   simpa using hx
  rw[this,oF l _ h']
  simp
def oE(ns:List Int):(List.range ns.length).map (fun i=>ns.getD i 0)=ns:=by
 apply List.ext_getElem?
 intro i
 by_cases h:i < ns.length
 ·simp[h]
 ·simp[h]
def rX(h:ns.Nodup):ie ns=ns.length:=by
 unfold ie PyProof.Rows.firstMet
 rw[oE,oF ns [] (by simpa using h)]
 rfl
def vF:∀(l acc:List Int),(l.foldl PyProof.Rows.step_dedup acc).length<=acc.length+l.length
 | [],acc=>by simp
 | x::l,acc=>by
  rw[List.foldl_cons]
  have:=vF l (PyProof.Rows.step_dedup acc x)
  have h2:(PyProof.Rows.step_dedup acc x).length<=acc.length+1:=by
   unfold PyProof.Rows.step_dedup
   split<;>simp
  simp only[List.length_cons]
  omega
def rW:∀(l acc:List Int),acc.Nodup->(l.foldl PyProof.Rows.step_dedup acc).length=acc.length+l.length->(acc++l).Nodup
 | [],acc,h,_=>by simpa using h
 | x::l,acc,h,e=>by
  rw[List.foldl_cons]at e
  have h1:=vF l (PyProof.Rows.step_dedup acc x)
  by_cases hx:x∈acc
  ·have:PyProof.Rows.step_dedup acc x=acc:=by
    unfold PyProof.Rows.step_dedup
    rw[if_pos (by simpa using hx)]
   rw[this]at h1 e
   simp only[List.length_cons]at e
   omega
  ·have:PyProof.Rows.step_dedup acc x=acc++[x]:=by
    unfold PyProof.Rows.step_dedup
    rw[if_neg (by simpa using hx)]
   rw[this]at e
   have:=rW l (acc ++ [x]) (by
    rw[List.nodup_append]
    exact⟨h,by simp,fun a ha b hb z=>hx (by simp at hb;rw[<- hb,<- z];exact ha)⟩) (by simp only[List.length_append,List.length_cons,List.length_nil]at e ⊢;omega)
   simpa using this
def rV(h:¬ns.Nodup):ie ns≠ns.length:=fun e=>by
 unfold ie PyProof.Rows.firstMet at e
 rw[oE]at e
 exact h (by simpa using rW ns [] List.nodup_nil (by simpa using e))
def on(i:Int)(ns:List Int):inL (.int i) (iL ns)=ns.contains i:=by
 induction ns with
 | nil=>rfl
 | cons n ns ih =>
  have e:inL (.int i) (iL (n::ns))=(PyData.eqv (PV.int n).data (PV.int i).data||inL (.int i) (iL ns)):=rfl
  rw[e,ih,List.contains_cons]
  congr 1
  simp only[PV.data,PyData.eqv]
  exact Bool.beq_comm
@[simp] def BF(i:Int)(ns:List Int)(f:Fl):pIn (.int i) (.lst f (iL ns))=.ok (.bl (ns.contains i)):=by
 unfold pIn
 simp only[aQ,fW,jI,Bool.and_self,if_true,on]
@[simp] def zQ(i:Int)(ns:List Int)(f:Fl):fG (.int i) (.lst f (iL ns))=.ok (.bl (!ns.contains i)):=by
 unfold fG
 simp only[aQ,fW,jI,Bool.and_self,if_true,on]
def Ends(o:Out):Prop:=∃e,o=.next e
section
variable{env e:En}
def gC(h:Ends (m (args.map some++List.replicate (n - args.length) none))):a6 n m args=.ok .non:=by
 obtain⟨e,h⟩:=h
 exact jN h
def jb(h1:a env=.next e)(h2:Ends (b e)):Ends (aq a b env):=by
 obtain⟨e2,h2⟩:=h2
 exact⟨e2,ah h1 h2⟩
def pK(h:o=.next e):Ends o:=⟨e,h⟩
def rQ{it:MI}{g:TgM}{body aV:MS}{xs:List PV}(P:Nat->En->Prop)(h:it env=.ok xs)(h0:P 0 env)
  (step:∀(k:Nat) (x:PV) (e:En),xs[k]?=some x->P k e->∃e1,g x e=some e1/\gY (body e1) (P (k+1))) (fin:∀e,P xs.length e->Ends (aV e)):Ends (aq (b_ it g body) aV env):=by
 obtain⟨e2,h1,h2⟩:=gu P h h0 fun k x e h1 h2=>by
  obtain⟨e1,h3,e2,h4,h5⟩:=step k x e h1 h2
  exact⟨e1,e2,h3,h4,h5⟩
 exact jb h1 (fin e2 h2)
end
def cV(h:m env=.ok (.lst f xs))(hf:f.isLnt=false)(h1:hasL Fl.isOwn xs=false)(h2:hasL Fl.isLnt xs=false):cL m env=.ok xs:=by
 unfold cL
 rw[h]
 simp[hf,cW,h1,h2]
end PR
namespace PR
section
variable{n r s k o:Nat}{adj:Nat->Nat->Prop}{far:List Int}
def gt(far:List Int)(i:Nat):Int:=far.getD i 0
def rD(x:Int)(h:o < far.length)(i:Nat):gt (far.set o x) i=if i=o then x else gt far i:=by
 simp only[gt,List.getD_eq_getElem?_getD,List.getElem?_set]
 by_cases e:o=i
 ·subst e;simp[h]
 ·rw[if_neg e,if_neg (Ne.symm e)]
structure Far(n r:Nat)(adj:Nat->Nat->Prop)(s k:Nat)(d:Nat->Prop)(far:List Int):Prop where
 len:far.length=n
 rt:gt far r=0
 rng:∀i < n,0<=gt far i/\(gt far i<=s+1\/gt far i=n)
 top:∀i < n,gt far i<=n
 up:∀i < n,∀j < n,gt far i < s->adj i j->gt far j<=gt far i+1
 upk:∀i < k,∀j < n,gt far i=s->adj i j->gt far j<=s+1
 upd:∀j < n,d j->gt far j<=s+1
 dn:∀i < n,i≠r->gt far i < n->1<=gt far i/\∃j < n,adj i j/\gt far j=gt far i - 1
def Far.start(hr:r < n)(h:∀i < n,gt far i=if i=r then 0 else(n:Int))(hl:far.length=n):Far n r adj 0 0 (fun _=>False) far where
 len:=hl
 rt:=by rw[h r hr,if_pos rfl]
 rng:=fun i hi=>by rw[h i hi];split<;>omega
 top:=fun i hi=>by rw[h i hi];split<;>omega
 up:=fun i hi j _ hv _=>by
  have:=h i hi
  split at this<;>omega
 upk:=fun i hi=>absurd hi (Nat.not_lt_zero _)
 upd:=fun _ _ z=>z.elim
 dn:=fun i hi hn hv=>by
  rw[h i hi,if_neg hn]at hv
  omega
def Far.skip(F:Far n r adj s k (fun _=>False) far)(hk:gt far k≠s):Far n r adj s (k+1) (fun _=>False) far where
 len:=F.len
 rt:=F.rt
 rng:=F.rng
 top:=F.top
 up:=F.up
 upk:=fun i hi j hj e a=>by
  rcases Nat.lt_or_ge i k with h | h
  ·exact F.upk i h j hj e a
  ·have:i=k:=by omega
   subst this
   exact absurd e hk
 upd:=F.upd
 dn:=F.dn
def Far.close(F:Far n r adj s k d far)(hd:∀j,j < n->adj k j->d j):Far n r adj s (k+1) (fun _=>False) far where
 len:=F.len
 rt:=F.rt
 rng:=F.rng
 top:=F.top
 up:=F.up
 upk:=fun i hi j hj e a=>by
  rcases Nat.lt_or_ge i k with h | h
  ·exact F.upk i h j hj e a
  ·have:i=k:=by omega
   subst this
   exact F.upd j hj (hd j hj a)
 upd:=fun _ _ z=>z.elim
 dn:=F.dn
def Far.none(F:Far n r adj s k (fun _=>False) far)(hd:∀j,¬d j):Far n r adj s k d far where
 len:=F.len
 rt:=F.rt
 rng:=F.rng
 top:=F.top
 up:=F.up
 upk:=F.upk
 upd:=fun j _ z=>absurd z (hd j)
 dn:=F.dn
def Far.relax(F:Far n r adj s k d far)(hk:k < n)(ek:gt far k=s)(ho:o < n)(a:adj o k)(hs:s < n) :
  Far n r adj s k (fun j=>d j\/j=o) (far.set o (min (gt far o) (s+1)))/\gt (far.set o (min (gt far o) (s+1))) k=s:=by
 have hol:o < far.length:=by rw[F.len];exact ho
 have g:=rD (min (gt far o) ((s:Int)+1)) hol
 by_cases hw:gt far o<=s+1
 ·have e:∀i,gt (far.set o (min (gt far o) ((s:Int)+1))) i=gt far i:=fun i=>by
   rw[g i]
   split
   ·rename_i z;subst z;omega
   ·rfl
  refine⟨⟨by rw[List.length_set];exact F.len,by rw[e];exact F.rt,fun i hi=>by rw[e];exact F.rng i hi,fun i hi=>by rw[e];exact F.top i hi,fun i hi j hj=>by rw[e,e];exact F.up i hi j hj,fun i hi j hj=>by rw[e,e];exact F.upk i hi j hj,fun j hj z=>?_,fun i hi hn=>?_⟩,by rw[e];exact ek⟩
  ·rw[e]
   rcases z with z | z
   ·exact F.upd j hj z
   ·subst z;exact hw
  ·rw[e]
   intro hv
   obtain⟨h1,j,hj,aj,ej⟩:=F.dn i hi hn hv
   exact⟨h1,j,hj,aj,by rw[e];exact ej⟩
 ·have hn:gt far o=n:=by have:=(F.rng o ho).2;omega
  have hm:min (gt far o) ((s:Int)+1)=s+1:=by omega
  rw[hm]at g ⊢
  have hlt:(s:Int)+1 < n:=by omega
  have ko:k≠o:=fun z=>by subst z;omega
  have ro:r≠o:=fun z=>by subst z;have:=F.rt;omega
  have le:∀i,gt (far.set o ((s:Int)+1)) i<=gt far i:=fun i=>by
   rw[g i];split
   ·rename_i z;subst z;omega
   ·exact Int.le_refl _
  have ne:∀i,i≠o->gt (far.set o ((s:Int)+1)) i=gt far i:=fun i z=>by rw[g i,if_neg z]
  have eo:gt (far.set o ((s:Int)+1)) o=s+1:=by rw[g o,if_pos rfl]
  refine⟨⟨by rw[List.length_set];exact F.len,by rw[ne r ro];exact F.rt,fun i hi=>?_,fun i hi=>Int.le_trans (le i) (F.top i hi),fun i hi j hj hv aj=>?_,fun i hi j hj hv aj=>?_,fun j hj z=>?_,fun i hi hn' hv=>?_⟩,by rw[ne k ko];exact ek⟩
  ·by_cases z:i=o
   ·subst z;rw[eo];omega
   ·rw[ne i z];exact F.rng i hi
  ·have z:i≠o:=fun z=>by subst z;rw[eo]at hv;omega
   rw[ne i z]at hv ⊢
   exact Int.le_trans (le j) (F.up i hi j hj hv aj)
  ·have z:i≠o:=fun z=>by subst z;rw[eo]at hv;omega
   rw[ne i z]at hv
   exact Int.le_trans (le j) (F.upk i hi j hj hv aj)
  ·rcases z with z | z
   ·exact Int.le_trans (le j) (F.upd j hj z)
   ·subst z;rw[eo];exact Int.le_refl _
  ·by_cases z:i=o
   ·subst z
    rw[eo]
    exact⟨by omega,k,hk,a,by rw[ne k ko];omega⟩
   ·rw[ne i z]at hv ⊢
    obtain⟨h1,j,hj,aj,ej⟩:=F.dn i hi hn' hv
    refine⟨h1,j,hj,aj,?_⟩
    rw[ne j fun q=>by subst q;omega]
    exact ej
def Far.next(F:Far n r adj s n (fun _=>False) far):Far n r adj (s+1) 0 (fun _=>False) far where
 len:=F.len
 rt:=F.rt
 rng:=fun i hi=>by have:=F.rng i hi;omega
 top:=F.top
 up:=fun i hi j hj hv a=>by
  by_cases h:gt far i < s
  ·exact F.up i hi j hj h a
  ·have e:gt far i=s:=by omega
   have:=F.upk i hi j hj e a
   omega
 upk:=fun i hi=>absurd hi (Nat.not_lt_zero _)
 upd:=fun _ _ z=>z.elim
 dn:=F.dn
structure nM(n r:Nat)(adj:Nat->Nat->Prop)(far:List Int):Prop where
 len:far.length=n
 rt:gt far r=0
 rng:∀i < n,0<=gt far i/\gt far i<=n
 up:∀i < n,∀j < n,adj i j->gt far j<=gt far i+1
 dn:∀i < n,i≠r->gt far i < n->1<=gt far i/\∃j < n,adj i j/\gt far j=gt far i - 1
def Far.dist(F:Far n r adj n 0 (fun _=>False) far):nM n r adj far where
 len:=F.len
 rt:=F.rt
 rng:=fun i hi=>⟨(F.rng i hi).1,F.top i hi⟩
 up:=fun i hi j hj a=>by
  by_cases h:gt far i < n
  ·exact F.up i hi j hj h a
  ·have:=F.top j hj;omega
 dn:=F.dn
def vv:∀{l l':List Int},l.Nodup->(∀x∈l,x∈l')->l.length<=l'.length
 | [],_,_,_=>Nat.zero_le _
 | x::l,l',nd,sub=>by
  obtain⟨h1,h2⟩:=List.nodup_cons.mp nd
  have hx:=sub x List.mem_cons_self
  have:=vv (l':=l'.erase x) h2 (by grind)
  rw[List.length_erase_of_mem hx]at this
  have:=List.length_pos_of_mem hx
  rw[List.length_cons]
  omega
def nM.below(D:nM n r adj far)(hr:r < n):∀(m:Nat),(∃i < n,gt far i=m)->m < n->∀v,v<=m->∃i < n,gt far i=v
 | 0,h,_,v,hv=>by
  have:v=0:=by omega
  subst this;exact h
 | m+1,⟨i,hi,e⟩,hm,v,hv=>by
  rcases Nat.lt_or_ge v (m+1)with h | h
  ·have hir:i≠r:=fun z=>by subst z;have:=D.rt;omega
   obtain⟨_,j,hj,_,ej⟩:=D.dn i hi hir (by omega)
   exact D.below hr m ⟨j,hj,by omega⟩ (by omega) v (by omega)
  ·have:v=m+1:=by omega
   subst this
   exact⟨i,hi,e⟩
def fL(h:i < far.length):gt far i∈far:=by
 simp[gt,h]
def nM.all(D:nM n r adj far)(hr:r < n)(conn:∀S:Nat->Prop,S r->(∀i < n,∀j < n,adj i j->S i->S j)->∀i < n,S i):∀i < n,gt far i < n:=by
 refine conn (fun i=>gt far i < n) (by show gt far r < n;rw[D.rt];omega) fun i hi j hj a hv=>?_
 show gt far j < n
 rcases Int.lt_or_le (gt far j) n with h | h
 ·exact h
 exfalso
 have h1:=D.up i hi j hj a
 have h2:=(D.rng j hj).2
 have e:gt far i=((n - 1:Nat):Int):=by omega
 have all:∀v:Nat,v < n+1->(v:Int)∈ far:=fun v hv=>by
  rcases Nat.lt_or_ge v n with h | h
  ·obtain⟨x,hx,ex⟩:=D.below hr (n - 1) ⟨i,hi,e⟩ (by omega) v (by omega)
   rw[<- ex]
   exact fL (by rw[D.len];exact hx)
  ·have:(v:Int)=gt far j:=by omega
   rw[this]
   exact fL (by rw[D.len];exact hj)
 have:=vv (l:=(List.range (n+1)).map fun k:Nat=>(k:Int)) (l':=far) (List.Pairwise.map _ (fun a b h z=>h (by omega)) List.nodup_range) (by grind)
 rw[List.length_map,List.length_range,D.len]at this
 omega
end
end PR
namespace PR
open PySem PySem.Spec L2
def prL(ps:List (Int×Int)):List PV:=ps.map prV
section
variable{ps qs:List (Int×Int)}{x:Int×Int}{f:Fl}{g:Fl->Fl}{p:Fl->Bool}
@[simp] def Ax:prL []=[]:=rfl
@[simp] def ge:prL (x::ps)=prV x::prL ps:=rfl
@[simp] def il:(prL ps).length=ps.length:=by simp[prL]
@[simp] def tW:prL ps++prL qs=prL (ps++qs):=by simp[prL]
@[simp] def tV(k:Nat):(prL ps)[k]?=(ps[k]?).map prV:=by simp[prL]
@[simp] def Av:PV.mapF g (prV x)=prV x:=rfl
@[simp] def Aw:(prV x).has p=false:=rfl
@[simp] def zS:mapL g (prL ps)=prL ps:=by
 induction ps with
 | nil=>rfl
 | cons n ns ih=>simp[mapL,ih]
@[simp] def Af:hasL p (prL ps)=false:=by
 induction ps with
 | nil=>rfl
 | cons n ns ih=>simp[hasL,ih]
@[simp] def mO:shp (prV x)=true:=rfl
@[simp] def lu:(prL ps).all shp=true:=by
 induction ps with
 | nil=>rfl
 | cons n ns ih=>simp only[ge,List.all_cons,mO,ih];rfl
def xE(x y:Int×Int):PyData.eqv (prV x).data (prV y).data=decide (x=y):=by
 obtain⟨a,b⟩:=x
 obtain⟨c,d⟩:=y
 simp only[prV,PV.data,dataL,PyData.eqv,PyData.eqvAll]
 by_cases h1:a=c<;>by_cases h2:b=d<;>simp[h1,h2]
def rA:inL (prV x) (prL ps)=ps.contains x:=by
 induction ps with
 | nil=>rfl
 | cons n ns ih =>
  have e:inL (prV x) (prL (n::ns))=(PyData.eqv (prV n).data (prV x).data||inL (prV x) (prL ns)):=rfl
  rw[e,ih,List.contains_cons,xE]
  congr 1
  by_cases h:n=x
  ·subst h;simp
  ·rw[decide_eq_false h]
   exact(beq_eq_false_iff_ne.mpr (Ne.symm h)).symm
@[simp] def BE:pIn (prV x) (.lst f (prL ps))=.ok (.bl (ps.contains x)):=by
 unfold pIn
 simp only[aQ,mO,lu,Bool.and_self,if_true,rA]
@[simp] def zP:fG (prV x) (.lst f (prL ps))=.ok (.bl (!ps.contains x)):=by
 unfold fG
 simp only[aQ,mO,lu,Bool.and_self,if_true,rA]
@[simp] def AJ:aI (prV x) (.int 0)=.ok (.int x.1):=rfl
@[simp] def AI:aI (prV x) (.int 1)=.ok (.int x.2):=rfl
def ki(a b:Int):PV.tup [.int a,.int b]=prV (a,b):=rfl
@[simp] def Bg:dS fk (prV x)=.ok (.int (min x.1 x.2)):=rfl
@[simp] def Bi:dS gh (prV x)=.ok (.int (max x.1 x.2)):=rfl
@[simp] def mZ:dH (prL ps)=some ps:=by
 induction ps with
 | nil=>rfl
 | cons n ns ih =>
  have:eR (prV n)=some n:=rfl
  simp[dH,ih,this]
def oS(ns:List Int)(h:ns.length < 64):di (.lst f (iL ns))=.ok (.lst .own (iL (fV ns))):=by
 simp[di,h,gP]
 rfl
def mJ(h:ps.length < 64)(hd:ps.Nodup):di (.lst f (prL ps))=.ok (.lst .own (prL (bK ps))):=by
 cases ps with
 | nil=>rfl
 | cons n ns =>
  have e:bB (prL (n::ns))=none:=rfl
  simp only[di,e,mZ,il]
  rw[if_pos (decide_eq_true h),if_pos (decide_eq_true hd)]
  rfl
def kz(n:Nat)(i:Int)(ns:List Int):bH n (.int i) (iL ns)=iL (bH n i ns):=by simp[bH,iL]
def gc{α:Type}{n:Nat}{y z:α}{l:List α}:z∈bH n y l↔z=y\/z∈l:=by
 unfold bH
 rw[List.mem_append,List.mem_cons]
 constructor
 ·rintro(h | h | h)
  ·exact .inr (List.mem_of_mem_take h)
  ·exact .inl h
  ·exact .inr (List.mem_of_mem_drop h)
 ·rintro(h | h)
  ·exact .inr (.inl h)
  ·rw[<- List.take_append_drop n l]at h
   rcases List.mem_append.mp h with h | h
   ·exact .inl h
   ·exact .inr (.inr h)
def cC{α:Type}(n:Nat)(y:α)(l:List α):(bH n y l).Perm (y::l):=by
 unfold bH
 refine List.perm_middle.trans ?_
 rw[List.take_append_drop]
def fg{i n:Nat}{mk m:ME}{env:En}{xs:List PV}{v:PV}{j:Int}(hk:mk env=.ok (.int j))(h:m env=.ok v)(ho:env[i]?=some (some (.lst .own xs)))(hf:ot v=true)(hl:v.noLnt=true)(hj:j=n)(hn:n<=xs.length)(hx:xs.length < 10000000) :
  dE i mk m env=.next (env.set i (some (.lst .own (bH n v xs)))):=by
 subst hj
 unfold dE
 rw[hk,h,ho]
 simp only[hf,hl]
 simp[hx,hn]
end
def gS{x:PV}{xs:List PV}{k:Nat}{y:PV}(hs:aQ x=some xs)(h:xs[k]?=some y)(ho:y.has Fl.isOwn=false):aI x (.int k)=.ok y:=by
 have hl:k < xs.length:=(List.getElem?_eq_some_iff.mp h).1
 unfold aI
 simp only[hs,atI]
 rw[gm hl]
 simp[h,ho]
def nbL(ps:List (Int×Int))(at_:Int):List Int:=fV ((ps.filter fun x=>decide (x.2=at_)).map (·.1)++(ps.filter fun x=>decide (x.1=at_)).map (·.2))
def m8{ps:List (Int×Int)}{a o:Int}:o∈nbL ps a ↔(o,a)∈ ps \/(a,o)∈ ps:=by
 unfold nbL
 rw[(dq _).mem_iff,List.mem_append]
 simp only[List.mem_map,List.mem_filter,decide_eq_true_eq]
 constructor
 ·rintro(⟨⟨x,y⟩,⟨h1,h2⟩,h3⟩ |⟨⟨x,y⟩,⟨h1,h2⟩,h3⟩)
  ·dsimp only at h2 h3;subst h2 h3;exact .inl h1
  ·dsimp only at h2 h3;subst h2 h3;exact .inr h1
 ·rintro(h | h)
  ·exact .inl ⟨_,⟨h,rfl⟩,rfl⟩
  ·exact .inr ⟨_,⟨h,rfl⟩,rfl⟩
def mm(w:Int×Int):Int×Int:=(min w.1 w.2,max w.1 w.2)
structure yj(n:Nat)(ws:List (Int×Int)):Prop where
 rg:∀w∈ws,0<=w.1/\w.1 < n/\0<=w.2/\w.2 < n/\w.1≠w.2
 nd:(ws.map mm).Nodup
 sz:ws.length < 64
end PR
namespace PR
def vx{w u:Int×Int}(h:mm w=mm u):w=u\/w=(u.2,u.1):=by
 obtain⟨a,b⟩:=w
 obtain⟨c,d⟩:=u
 simp only[mm,Prod.mk.injEq]at h ⊢
 omega
def og{w u:Int×Int}(h:mm w=mm u):(w.1=u.1/\w.2=u.2)\/(w.1=u.2/\w.2=u.1):=by
 rcases vx h with rfl | rfl
 ·exact .inl ⟨rfl,rfl⟩
 ·exact .inr ⟨rfl,rfl⟩
structure la(n:Nat)(od:List Int)(k:Nat)(ws:List (Int×Int)):Prop where
 rg:∀w∈ws,w.1∈od.take k/\w.2∈od.take k/\w.1≠w.2
 nd:(ws.map mm).Nodup
 ln:ws.length+1=k
 cn:∀S:Int->Prop,(∀w∈ws,(S w.1↔S w.2))->∀a∈od.take k,(S a↔S (od.getD 0 0))
def la.start{n:Nat}{od:List Int}(h:od.length=n)(hn:1<=n):la n od 1 [] where
 rg:=fun w hw=>by cases hw
 nd:=.nil
 ln:=rfl
 cn:=fun S _ a ha=>by
  cases od with
  | nil=>simp at h;omega
  | cons x l =>
   have:a=x:=by simpa using ha
   subst this
   simp
def la.more{n:Nat}{od:List Int}{k j:Nat}{ws:List (Int×Int)}{w:Int×Int}{p:Nat}(T:la n od k ws)(hod:od.Nodup)(hk:k < od.length)(hj:j < k)(hw:w=(od.getD k 0,od.getD j 0)\/ w=(od.getD j 0,od.getD k 0)):la n od (k+1) (bH p w ws):=by
 have hjl:j < od.length:=by omega
 have e1:od.getD k 0=od[k]:=by simp[hk]
 have e2:od.getD j 0=od[j]:=by simp[hjl]
 rw[e1,e2]at hw
 have tk:od.take (k+1)=od.take k++[od[k]]:=by rw[List.take_add_one];simp[hk]
 have mj:od[j]∈ od.take k:=List.mem_take_iff_getElem.mpr ⟨j,by omega,rfl⟩
 have nk:od[k]∉ od.take k:=fun z=>by
  obtain⟨i,hi,e⟩:=List.mem_take_iff_getElem.mp z
  have:=(List.getElem_inj hod).mp e
  omega
 have ne:od[k]≠ od[j]:=fun z=>nk (z▸mj)
 have mem:∀u∈bH p w ws,u=w\/u∈ws:=fun u hu=>gc.mp hu
 refine⟨fun u hu=>?_,?_,?_,fun S hS a ha=>?_⟩
 ·rcases mem u hu with rfl | hu
  ·grind
  ·obtain⟨h1,h2,h3⟩:=T.rg u hu
   rw[tk]
   exact⟨List.mem_append_left _ h1,List.mem_append_left _ h2,h3⟩
 ·have:((bH p w ws).map mm).Perm (mm w::ws.map mm):=(cC p w ws).map mm
  refine this.symm.nodup (List.nodup_cons.mpr ⟨fun z=>?_,T.nd⟩)
  obtain⟨u,hu,e⟩:=List.mem_map.mp z
  obtain⟨h1,h2,_⟩:=T.rg u hu
  rcases hw with rfl | rfl
  ·rcases og e with⟨q1,q2⟩ |⟨q1,q2⟩
   ·exact nk (by rw[q1]at h1;exact h1)
   ·exact nk (by rw[q2]at h2;exact h2)
  ·rcases og e with⟨q1,q2⟩ |⟨q1,q2⟩
   ·exact nk (by rw[q2]at h2;exact h2)
   ·exact nk (by rw[q1]at h1;exact h1)
 ·rw[(cC p w ws).length_eq,List.length_cons,T.ln]
 ·have hw':=hS w (gc.mpr (.inl rfl))
  have cn:=T.cn S fun u hu=>hS u (gc.mpr (.inr hu))
  grind
structure dF(n m:Nat)(ws:List (Int×Int)):Prop where
 rg:∀w∈ws,0<=w.1/\w.1 < n/\0<=w.2/\w.2 < n/\w.1≠w.2
 nd:(ws.map mm).Nodup
 ln:ws.length<=m
 cn:∀S:Int->Prop,(∀w∈ws,(S w.1↔S w.2))->∀i j:Nat,i < n->j < n->S i->S j
def la.whole{n:Nat}{od:List Int}{ws:List (Int×Int)}(T:la n od n ws)(hp:od.Perm ((List.range n).map fun k:Nat=>(k:Int))):dF n n ws:=by
 have hl:od.length=n:=by simpa using hp.length_eq
 have ht:od.take n=od:=by rw[<- hl,List.take_length]
 have hm:∀a,a∈od↔∃k:Nat,k < n/\(k:Int)=a:=fun a=>by rw[hp.mem_iff];simp
 refine⟨fun w hw=>?_,T.nd,by have:=T.ln;omega,fun S hS i j hi hj hs=>?_⟩
 ·obtain⟨h1,h2,h3⟩:=T.rg w hw
  rw[ht]at h1 h2
  obtain⟨a,ha,ea⟩:=(hm _).mp h1
  obtain⟨b,hb,eb⟩:=(hm _).mp h2
  omega
 ·have cn:=T.cn S hS
  rw[ht]at cn
  exact(cn j ((hm _).mpr ⟨j,hj,rfl⟩)).mpr ((cn i ((hm _).mpr ⟨i,hi,rfl⟩)).mp hs)
def dF.more{n m p:Nat}{ws:List (Int×Int)}{a b:Int}(h:dF n m ws)(ha:0<=a/\a < n)(hb:0<=b/\b < n)(hne:a≠b)(h1:(a,b)∉ ws)(h2:(b,a)∉ ws):dF n (m+1) (bH p (a,b) ws):=by
 refine⟨fun u hu=>?_,?_,?_,fun S hS=>h.cn S fun u hu=>hS u (gc.mpr (.inr hu))⟩
 ·rcases gc.mp hu with rfl | hu
  ·exact⟨ha.1,ha.2,hb.1,hb.2,hne⟩
  ·exact h.rg u hu
 ·have:((bH p (a,b) ws).map mm).Perm (mm (a,b)::ws.map mm):=(cC p (a,b) ws).map mm
  refine this.symm.nodup (List.nodup_cons.mpr ⟨fun z=>?_,h.nd⟩)
  obtain⟨u,hu,e⟩:=List.mem_map.mp z
  rcases vx e with rfl | rfl
  ·exact h1 hu
  ·exact h2 hu
 ·rw[(cC p (a,b) ws).length_eq,List.length_cons];have:=h.ln;omega
def dF.keep{n m:Nat}{ws:List (Int×Int)}(h:dF n m ws):dF n (m+1) ws:=⟨h.rg,h.nd,Nat.le_succ_of_le h.ln,h.cn⟩
def dF.good{n m:Nat}{ws:List (Int×Int)}(h:dF n m ws)(hm:m < 64):yj n ws:=⟨h.rg,h.nd,by have:=h.ln;omega⟩
open PySem L2 in
def gX(o:Out)(Q:PV->Prop):Prop:=∃v,o=.ret v/\Q v
section
open PySem L2
variable{env e:En}{Q:PV->Prop}
def aL{a b:MS}(h1:a env=.next e)(h2:gX (b e) Q):gX (aq a b env) Q:=by
 obtain⟨v,h,q⟩:=h2
 exact⟨v,ah h1 h,q⟩
def eP{c:MT}{a b aV:MS}(hc:c env=.ok true)(h:gX (a env) Q):gX (aq (mBr c a b) aV env) Q:=by
 obtain⟨v,h1,h2⟩:=h
 exact⟨v,ee (dO hc h1),h2⟩
def bq{o:Out}{v:PV}(h:o=.ret v)(q:Q v):gX o Q:=⟨v,h,q⟩
def f9{it:MI}{g:TgM}{body aV:MS}{xs:List PV}(P:Nat->En->Prop)(h:it env=.ok xs)(h0:P 0 env)
  (step:∀(k:Nat) (x:PV) (e:En),xs[k]?=some x->P k e->∃e1,g x e=some e1/\gY (body e1) (P (k+1))) (fin:∀e,P xs.length e->gX (aV e) Q):gX (aq (b_ it g body) aV env) Q:=by
 obtain⟨e2,h1,h2⟩:=gu P h h0 fun k x e h1 h2=>by
  obtain⟨e1,h3,e2,h4,h5⟩:=step k x e h1 h2
  exact⟨e1,e2,h3,h4,h5⟩
 exact aL h1 (fin e2 h2)
end
end PR
namespace PR
open PySem L2
section
variable{env:En}
def mI(ho:env[0]?=some (some (.obj .own c ks vs)))(ha:ms env=.ok xs)(hl:hasL Fl.isLnt xs=false)
  (hm:m (.obj .own c ks vs::mapL Fl.toBor xs)=.ok (.obj fl c' ks' vs')) (hb:(PV.obj fl c' ks' vs').has Fl.isBor=false):gH m ms env=.next (env.set 0 (some (.obj fl c' ks' vs'))):=by
 unfold gH
 rw[ho]
 dsimp only
 rw[ha]
 dsimp only
 rw[hl,if_neg (by decide),hm]
 dsimp only
 rw[hb,if_neg (by decide)]
end
def j3(h:c env=.ok true)(h2:gY (a env) Q):gY (mBr c a b env) Q:=by
 rw[vH h];exact h2
def j4(h:c env=.ok false)(h2:gY (b env) Q):gY (mBr c a b env) Q:=by
 rw[vH h];exact h2
@[simp] def BC:ju (.int 10) (.int 59)=.ok (.int (10 ^ 59)):=qp (by decide) (by decide) (by decide)
section
variable{env:En}{g:TgM}{me:ME}
def jg(f:Int->Int)(row:List Int)(h:∀x∈row,∃e1,g (.int x) env=some e1/\me e1=.ok (.int (f x))):cY g cK me env (iL row)=.ok (iL (row.map f)):=by
 rw[show iL (row.map f)=row.map fun x=>PV.int (f x) by simp[iL]]
 exact bW (a:=PV.int) (f:=fun x=>.int (f x)) row fun x hx=>let⟨e1,h1,h2⟩:=h x hx;⟨e1,h1,h2,rfl,rfl⟩
def pL(lo:Int)(f:Nat->Int)(n:Nat)(h:∀k < n,∃e1,g (.int (lo+(k:Int))) env=some e1/\me e1=.ok (.int (f k))):cY g cK me env (cB lo n)=.ok (iL ((List.range n).map f)):=by
 rw[show iL ((List.range n).map f)=(List.range n).map fun k=>PV.int (f k) by simp[iL]]
 exact bW (a:=fun k:Nat=>PV.int (lo+(k:Int))) (f:=fun k=>.int (f k)) (List.range n) fun k hk=>let⟨e1,h1,h2⟩:=h k (List.mem_range.mp hk);⟨e1,h1,h2,rfl,rfl⟩
def jf(p:Nat->Bool)(f:Nat->Int)(n:Nat)(h:∀k < n,∃e1,g (.int (0+(k:Int))) env=some e1/\mc e1=.ok (p k)/\(p k=true->me e1=.ok (.int (f k)))):cY g mc me env (cB 0 n)=.ok (iL (((List.range n).filter p).map f)):=by
 rw[show iL (((List.range n).filter p).map f)=((List.range n).filter p).map fun k=>PV.int (f k) by simp[iL]]
 exact cH (a:=fun k:Nat=>PV.int (0+(k:Int))) (f:=fun k=>.int (f k)) (p:=p) (List.range n) fun k hk=>let⟨e1,h1,h2,h3⟩:=h k (List.mem_range.mp hk);⟨e1,h1,h2,fun z=>⟨h3 z,rfl,rfl⟩⟩
end
def fM(h0:0<=i)(h:i < cs.length):aI (.lst f (iL cs)) (.int i)=.ok (.int (gt cs i.toNat)):=by
 have:i.toNat < cs.length:=by omega
 exact dY _ h0 (by simp[gt,this])
def ig(p:Int->Bool)(f:Int->Int)(row:List Int)(h:∀x∈row,∃e1,g (.int x) env=some e1/\mc e1=.ok (p x)/\(p x=true->me e1=.ok (.int (f x)))):cY g mc me env (iL row)=.ok (iL ((row.filter p).map f)):=by
 rw[show iL ((row.filter p).map f)=(row.filter p).map fun x=>PV.int (f x) by simp[iL]]
 exact cH (a:=PV.int) (f:=fun x=>.int (f x)) (p:=p) row fun x hx=>let⟨e1,h1,h2,h3⟩:=h x hx;⟨e1,h1,h2,fun z=>⟨h3 z,rfl,rfl⟩⟩
@[simp] def yQ(bs:List Bool):cZ (bs.map .bl)=some bs:=by
 induction bs with
 | nil=>rfl
 | cons b bs ih=>simp[cZ,ih]
end PR
namespace PR
def s0_{α:Type}{a b:α}{l:List α}:(a::l).set 0 b=b::l:=rfl
def s1_{α:Type}{a b:α}{l:List α}{n:Nat}:(a::l).set (n+1) b=a::l.set n b:=rfl
end PR
namespace G
open PySem L2 PR
def gN:Nat->Bool:=cJ [false,false,false,false,false,true,false,false]
def gO:Nat->Bool:=cJ [false,false,true,false,false,false,false,false]
def i0:Nat->Bool:=cJ [false,true,false,false,false,false,false,false]
def fJ:Nat->Bool:=cJ [false,false,false,false,false,false,true,false]
def eU:Nat->Bool:=cJ [false,false,false,false,false,false,false,true]
def eA:Nat->Bool:=cJ [true,true,true,true,true,true,true,true]
def gM:Nat->Bool:=cJ [false,false,false,false,true,false,false,false]
def fK:Nat->Bool:=cJ [false,false,false,true,false,false,false,false]
def lO:Nat->Bool:=cJ [true,true,true,true,true,true,true,true]
def xQ:MS :=
 (aq (mBr (ar (mOp pLt (ac 1) (ao (p1 b9) (ae (ac 0) ak))))
  (bI (mOp aI (ac 0) (ac 1)))
  aF)
 (bI (mC (.int (0)))))
def jv:List PV->Res PV:=a6 2 xQ
def sj:MS :=
 (aq (fH 0 0 (ac 1))
 (aq (fH 0 7 (ac 2))
 (fH 0 8 (ac 3))))
def nD:List PV->Res PV:=iE 4 sj
def x_:MS :=
 (aq (mBr ((fm (ar (mOp pLt (ac 1) (mC (.int (2))))) (ar (mOp pGt (ac 1) (mC (.int (20)))))))
  (aN 2 (ae (mC (.str "the number of machines is out of bounds")) ak))
  aF)
 (aq (mBr (ar (mOp pLt (ac 2) (ac 1)))
  (aN 2 (ae (mC (.str "the span is less than the size")) ak))
  aF)
 (gH nD (ae (ac 1) (ae (ac 2) (ae (mC (.bl false)) ak))))))
def xu:List PV->Res PV:=iE 3 x_
def xS:MS :=
 (aq (aE 2 (mOp aW (ac 0) (mC (.int (998244353)))))
 (aq (aE 3 (dN ak))
 (aq (b_ (bS (ae (ac 1) ak)) (tgN 4)
  (aq (aE 2 (mOp aW (mOp aZ (mOp aZ (mOp iK (ac 2) (mOp aZ (mOp aZ (ac 2) (mOp iK (mC (.int (2))) (ac 4))) (mC (.int (40503))))) (mOp iK (mC (.int (12553))) (ac 4))) (mC (.int (1)))) (mC (.int (998244353)))))
 (bE 3 (ac 2))))
 (cm 3))))
def uF:List PV->Res PV:=a6 5 xS
def sC:MS :=
 (aq (aE 2 (ao (aA uF) (ae (ac 1) (ae (ac 0) ak))))
 (aq (aE 3 (dN ak))
 (aq (b_ (bS (ae (ac 0) ak)) (tgN 4)
  (dE 3 (mOp aW (mOp aI (ac 2) (ac 4)) (mOp aZ (ac 4) (mC (.int (1))))) (ac 4)))
 (aq (aE 5 (dN ak))
 (aq (b_ (jW (ae (mC (.int (1))) (ae (ac 0) ak))) (tgN 4)
  (bE 5 (dW (ae (mOp aI (ac 3) (ac 4)) (ae (mOp aI (ac 3) (mOp aW (mOp aS (mOp aI (ac 2) (ac 4)) (mC (.int (16)))) (ac 4))) ak)))))
 (aq (b_ (bS (ae (ac 0) ak)) (tgN 4)
  (b_ (bS (ae (ac 4) ak)) (tgN 6)
  (aq (aE 7 ((eJ (mOp pEq (mOp aW (ac 1) (mC (.int (7)))) (mC (.int (3)))) ((eG (mOp pEq (mOp aW (mOp aZ (mOp aS (mOp aI (ac 2) (ac 4)) (mC (.int (512)))) (ac 6)) (ac 0)) (mC (.int (1)))) (mOp pEq (mOp aW (mOp aS (mOp aI (ac 2) (ac 4)) (mC (.int (8192)))) (mC (.int (3)))) (mC (.int (0)))))))))
 (mBr ((df (cM (ac 7)) (df (ar (mOp fG (dW (ae (ac 6) (ae (ac 4) ak))) (ac 5))) (ar (mOp fG (dW (ae (ac 4) (ae (ac 6) ak))) (ac 5))))))
  (bE 5 (dW (ae (ac 6) (ae (ac 4) ak))))
  aF))))
 (cm 5)))))))
def ox:List PV->Res PV:=a6 8 sC
def xU:MS :=
 (mBr ((fm (ar (mOp pLt (ac 0) (ac 1))) (ar (mOp pGt (ac 0) (mC (.int (10)))))))
  (aN 1 (ae (mC (.str "the number of machines is out of bounds")) ak))
  aF)
def xr:List PV->Res PV:=a6 2 xU
def yc:MS :=
 (aq (aE 2 (dN ak))
 (aq (b_ (cL (ac 1)) (tgN 3)
  (aq (aE 4 (dW (ae (ao (p1 (dS fk)) (ae (ac 3) ak)) (ae (ao (p1 (dS gh)) (ae (ac 3) ak)) ak))))
 (aq (mBr ((fm (ar (mOp pLt (mOp aI (ac 4) (mC (.int (0)))) (mC (.int (0))))) (ar (mOp pGe (mOp aI (ac 4) (mC (.int (1)))) (ac 0)))))
  (aN 1 (ae (mC (.str "a way has a number that is no machine")) ak))
  aF)
 (aq (mBr (ar (mOp pEq (mOp aI (ac 4) (mC (.int (0)))) (mOp aI (ac 4) (mC (.int (1))))))
  (aN 1 (ae (mC (.str "a way has twice the same machine")) ak))
  aF)
 (aq (mBr (ar (mOp pIn (ac 4) (ac 2)))
  (aN 1 (ae (mC (.str "a way is told twice")) ak))
  aF)
 (bE 2 (ac 4)))))))
 (bI (ao (p1 di) (ae (ac 2) ak)))))
def xA:List PV->Res PV:=a6 5 yc
def xP:MS :=
 (aq (aE 2 (bD [1] 1 (de (ac 0)) (tgN 1) (ar (mOp pEq (mOp aI (ac 1) (mC (.int (1)))) (ac 0))) (mOp aI (ac 1) (mC (.int (0))))))
 (aq (aE 3 (bD [1] 1 (de (ac 0)) (tgN 1) (ar (mOp pEq (mOp aI (ac 1) (mC (.int (0)))) (ac 0))) (mOp aI (ac 1) (mC (.int (1))))))
 (bI (ao (p1 di) (ae (mOp aZ (ac 2) (ac 3)) ak)))))
def uD:List PV->Res PV:=a6 4 xP
def sm:MS :=
 (bI (ao (p1 cD) (ae (mOp aI (mUn (av 2) (ac 0)) (ac 1)) ak)))
def uE:List PV->Res PV:=a6 2 sm
def bV:Nat->Option (List PV->Res PV)
 | 3=>some uE
 | _=>none
def sx:MS :=
 (aq (aE 2 (bD [0] 1 (bS (ae (mUn (av 0) (ac 0)) ak)) (tgN 1) cK (mUn (av 0) (ac 0))))
 (aq (dL 2 (ac 1) (mC (.int (0))))
 (aq (b_ (bS (ae (mUn (av 0) (ac 0)) ak)) (tgN 3)
  (b_ (bS (ae (mUn (av 0) (ac 0)) ak)) (tgN 4)
  (mBr (ar (mOp pEq (mOp aI (ac 2) (ac 4)) (ac 3)))
  (b_ (cL (dM bV (ac 0) (ae (ac 4) ak))) (tgN 5)
  (dL 2 (ac 5) (ao (iM min) (ae (mOp aI (ac 2) (ac 5)) (ae (mOp aZ (ac 3) (mC (.int (1)))) ak)))))
  aF)))
 (cm 2))))
def ou:List PV->Res PV:=a6 6 sx
def sA:MS :=
 (aq (eF (ao (aA xr) (ae (ac 1) (ae (mC (.int (1))) ak))))
 (aq (fH 0 0 (ac 1))
 (aq (fH 0 1 (ao (p1 dw) (ae (ao (aA xA) (ae (ac 1) (ae (ac 2) ak))) ak)))
 (aq (fH 0 2 (ao (p1 dw) (ae (bD [0] 1 (bS (ae (ac 1) ak)) (tgN 1) cK (ao (p1 dw) (ae (ao (aA uD) (ae (mUn (av 1) (ac 0)) (ae (ac 1) ak))) ak))) ak)))
 (mBr (ar (mOp pEq (ao (p1 (dS gh)) (ae (ao (aA ou) (ae (ac 0) (ae (mC (.int (0))) ak))) ak)) (ac 1)))
  (aN 1 (ae (mC (.str "not every machine can be come to from machine 0")) ak))
  aF)))))
def ow:List PV->Res PV:=iE 3 sA
def xW:MS :=
 (mBr ((fm (ar (mOp pLt (ac 0) (mC (.int (1))))) (ar (mOp pGt (ac 0) (mC (.int (10)))))))
  (aN 2 (ae (mC (.str "the stretch or the number of blocks is out of bounds")) ak))
  aF)
def uH:List PV->Res PV:=a6 1 xW
def yb:MS :=
 (aq (mBr (ar (mOp pNe (ao (p1 b9) (ae (ac 1) ak)) (mUn (av 0) (ac 0))))
  (aN 2 (ae (mC (.str "there are not as many starts as machines")) ak))
  aF)
 (b_ (cL (ac 1)) (tgN 3)
  (mBr ((df (ar (mOp fv (ac 3) (mC .non))) ((fm (ar (mOp pLt (ac 3) (mC (.int (0))))) (ar (mOp pGe (ac 3) (ac 2)))))))
  (aN 2 (ae (mC (.str "a start is out of bounds")) ak))
  aF)))
def xy:List PV->Res PV:=a6 4 yb
def yg:MS :=
 (aq (eF (ao (aA uH) (ae (ac 3) ak)))
 (aq (eF (ao (aA uH) (ae (ac 4) ak)))
 (aq (fH 0 3 (mOp iK (ac 3) (ac 4)))
 (aq (eF (ao (aA xy) (ae (ac 1) (ae (ac 2) (ae (mUn (av 3) (ac 0)) ak)))))
 (aq (iV 1) (aq (fH 0 4 (ac 1))
 (aq (fH 0 5 (ao (p1 dw) (ae (ac 2) ak)))
 (aq (fH 0 6 (ac 3))
 (gH nD (ae (mUn (av 0) (ac 1)) (ae (mOp aZ (mUn (av 3) (ac 0)) (mC (.int (1)))) (ae (mC (.bl true)) ak))))))))))))
def uN:List PV->Res PV:=iE 5 yg
def xY:MS :=
 (aq (mBr ((fm (ar (mOp pLt (ac 2) (mC (.int (0))))) (ar (mOp pGe (ac 2) (mUn (av 0) (ac 1))))))
  (aN 2 (ae (mC (.str "the root is no machine")) ak))
  aF)
 (aq (aE 3 (bD [2] 1 (bS (ae (mUn (av 0) (ac 1)) ak)) (tgN 1) cK (pA (ar (mOp pEq (ac 1) (ac 0))) (mC (.int (0))) (mC .non))))
 (aq (iV 3) (aq (iV 1) (gH uN (ae (ac 1) (ae (ac 3) (ae (mUn (av 0) (ac 1)) (ae (mC (.int (1))) ak)))))))))
def uJ:List PV->Res PV:=iE 4 xY
def ye:MS :=
 (aq (aE 3 (mOp aW (mOp aS (ac 2) (mC (.int (8)))) (ac 0)))
 (aq (mBr ((fm (cM (ac 1)) (ar (mOp pEq (mOp aW (mOp aS (ac 2) (mC (.int (128)))) (mC (.int (2)))) (mC (.int (0)))))))
  (bI (dN (ae (ac 3) ak)))
  aF)
 (bI (mOp aZ (dN (ae (ac 3) ak)) (bD [3,2] 1 (bS (ae (ac 0) ak)) (tgN 2) ((df (ar (mOp pNe (ac 2) (ac 0))) (ar (mOp pEq (mOp aW (mOp t8 (ac 1) (ac 2)) (mC (.int (2)))) (mC (.int (1))))))) (ac 2))))))
def uL:List PV->Res PV:=a6 4 ye
def my:MS :=
 (aq (mBr (ar (mOp pNe (ao (p1 b9) (ae (ac 1) ak)) (mUn (av 0) (ac 0))))
  (aN 3 (ae (mC (.str "there are not as many registers as machines")) ak))
  aF)
 (bI (bD [0] 1 (de (ac 1)) (tgN 1) cK (mOp aW (ac 1) (mUn (av 7) (ac 0))))))
def ib:List PV->Res PV:=a6 2 my
def bf:Nat->Option (List PV->Res PV)
 | 0 | 1 | 2 | 4=>some ib
 | _=>none
def ss:MS :=
 (aq (mBr ((df (cM (mUn (av 8) (ac 0))) (ar (mOp pGt (ao (p1 b9) (ae (ac 1) ak)) (mC (.int (1)))))))
  (aN 4 (ae (mC (.str "a rule that is alone gets one machine at a turn")) ak))
  aF)
 (aq (b_ (cL (ac 1)) (tgN 2)
  (mBr ((fm (ar (mOp pLt (ac 2) (mC (.int (0))))) (ar (mOp pGe (ac 2) (mUn (av 0) (ac 0))))))
  (aN 4 (ae (mC (.str "a name is no machine")) ak))
  aF))
 (mBr (ar (mOp pNe (mUn e6 (ac 1)) (ao (p1 b9) (ae (ac 1) ak))))
  (aN 4 (ae (mC (.str "a machine is named twice")) ak))
  aF)))
def uG:List PV->Res PV:=a6 3 ss
def Aq:MS :=
 (bI (mOp aI (ac 1) (ac 2)))
def vC:List PV->Res PV:=a6 3 Aq
def yh:MS :=
 (bI ((eG (mOp pNe (ac 1) (mUn (av 3) (ac 0))) (mOp pNe (mOp aW (mOp aZ (ac 1) (mC (.int (1)))) (mUn (av 6) (ac 0))) (mC (.int (0)))))))
def rO:List PV->Res PV:=a6 2 yh
def cG:Nat->Option (List PV->Res PV)
 | 1 | 2=>some rO
 | _=>none
def yf:MS :=
 (aq (aE 3 (bD [1] 1 (de (dM bV (mUn (av 4) (ac 0)) (ae (ac 2) ak))) (tgN 1) cK (mOp aI (ac 0) (ac 1))))
 (aq (aE 4 (bD [0] 1 (de (ac 3)) (tgN 1) (cM (dM cG (ac 0) (ae (ac 1) ak))) (mOp aZ (ac 1) (mC (.int (1))))))
 (aq (mBr (ar (mOp fv (mOp aI (mUn (av 5) (ac 0)) (ac 2)) (mC .non)))
  (bE 4 (mOp aI (mUn (av 5) (ac 0)) (ac 2)))
  aF)
 (bI (ao (p1 (dS fk)) (ae (mOp aZ (ac 4) (dN (ae (mUn (av 3) (ac 0)) ak))) ak))))))
def uM:List PV->Res PV:=a6 5 yf
def xZ:MS :=
 (aq (mBr (ar (mOp pNe (ac 2) (mC (.int (0)))))
  (bI (mOp aI (ac 1) (mOp qA (ac 2) (mC (.int (1))))))
  aF)
 (aq (mBr (ar (mOp pEq (mOp aI (ac 1) (mC (.int (0)))) (mOp aI (ac 1) (mOp qA (mUn (av 0) (ac 0)) (mC (.int (1)))))))
  (bI (mOp aW (mOp aZ (mOp aI (ac 1) (mC (.int (0)))) (mC (.int (1)))) (mUn (av 7) (ac 0))))
  aF)
 (bI (mOp aI (ac 1) (mC (.int (0)))))))
def xt:List PV->Res PV:=a6 3 xZ
def br:Nat->Option (List PV->Res PV)
 | 0=>some vC
 | 1 | 2=>some uM
 | 4=>some xt
 | _=>none
def sr:MS :=
 (aq (eF (ao (aA uG) (ae (ac 0) (ae (ac 2) ak))))
 (bI (bD [2,0,1] 1 (bS (ae (mUn (av 0) (ac 0)) ak)) (tgN 3) cK (pA (ar (mOp pIn (ac 3) (ac 0))) (dM br (ac 1) (ae (ac 2) (ae (ac 3) ak))) (mOp aI (ac 2) (ac 3))))))
def lQ:List PV->Res PV:=a6 3 sr
def bg:Nat->Option (List PV->Res PV)
 | 0 | 1 | 2 | 4=>some lQ
 | _=>none
def xR:MS :=
 (bI (bD [0,1] 1 (bS (ae (mUn (av 0) (ac 0)) ak)) (tgN 2) (ar (mOp pNe (dM br (ac 0) (ae (ac 1) (ae (ac 2) ak))) (mOp aI (ac 1) (ac 2)))) (ac 2)))
def nE:List PV->Res PV:=a6 2 xR
def aD:Nat->Option (List PV->Res PV)
 | 0 | 1 | 2 | 4=>some nE
 | _=>none
def mw:MS :=
 (aq (aE 3 (dM bg (ac 0) (ae (ac 1) (ae (ac 2) ak))))
 (aq (aE 4 (bD [2] 1 (de (dM aD (ac 0) (ae (ac 1) ak))) (tgN 1) (ar (mOp pIn (ac 1) (ac 0))) (ac 1)))
 (nt 4 3)))
def ja:List PV->Res PV:=a6 5 mw
def ii:MS :=
 (aq (aE 3 (dM bf (ac 0) (ae (ac 1) ak)))
 (aq (aE 4 (dN ak))
 (aq (iV 2) (aq (b_ (cL (ac 2)) (tgN 5)
  (aq (bE 4 (mFz (ao (aA ja) (ae (ac 0) (ae (ac 3) (ae (ac 5) ak))))))
 (aE 3 (mOp aI (mOp aI (ac 4) (mUn m4 (mC (.int (1))))) (mC (.int (1)))))))
 (cm 4)))))
def eV:List PV->Res PV:=a6 6 ii
def sw:MS :=
 (aq (aE 2 (mOp aW (mOp aS (ac 1) (mC (.int (2)))) (mOp ju (mC (.int (10))) (mC (.int (59))))))
 (aq (mBr (ar (mOp pEq (mOp aW (ac 2) (mC (.int (3)))) (mC (.int (0)))))
  (aE 2 (mC (.int (0))))
  aF)
 (aq (mBr (ar (mOp pEq (mOp aW (ac 1) (mC (.int (2)))) (mC (.int (0)))))
  (bI (mOp aZ (ac 0) (ac 2)))
  aF)
 (bI (mOp qA (mUn m4 (mC (.int (1)))) (ac 2))))))
def j6:List PV->Res PV:=a6 3 sw
def xX:MS :=
 (aq (aE 4 (ao (p1 cD) (ae (ac 2) ak)))
 (aq (aE 5 (mOp aW (mOp aS (ac 3) (mC (.int (3)))) (mOp aZ (ao (p1 b9) (ae (ac 4) ak)) (mC (.int (1))))))
 (aq (mBr ((df (ar (mOp pEq (mOp aW (ac 3) (mC (.int (3)))) (mC (.int (0))))) (cM (ac 1))))
  (bI (dN (ae (mOp aW (mOp aS (ac 3) (mC (.int (3)))) (ac 0)) (ae (mOp aW (mOp aZ (mOp aS (ac 3) (mC (.int (3)))) (mC (.int (1)))) (ac 0)) ak))))
  aF)
 (aq (mBr (ar (mOp pEq (mOp aW (ac 3) (mC (.int (3)))) (mC (.int (1)))))
  (aq (dE 4 (ac 5) (mOp aI (ac 4) (mOp aW (mOp aS (ac 3) (mC (.int (9)))) (ao (p1 b9) (ae (ac 4) ak)))))
 (cm 4))
  aF)
 (aq (mBr (cM (ac 1))
  (bI (dN (ae (ao (aA j6) (ae (ac 0) (ae (mOp aS (ac 3) (mC (.int (9)))) ak))) ak)))
  aF)
 (aq (dE 4 (ac 5) (ao (aA j6) (ae (ac 0) (ae (mOp aS (ac 3) (mC (.int (9)))) ak))))
 (cm 4)))))))
def uI:List PV->Res PV:=a6 6 xX
def yd:MS :=
 (aq (aE 4 (bD [] 1 (de (ac 2)) (tgN 0) cK (ao (p1 cD) (ae (ac 0) ak))))
 (aq (gJ 4) (aq (aE 5 (mOp aW (ac 3) (ao (p1 b9) (ae (ac 4) ak))))
 (aq (dL 4 (ac 5) (mFz (ao (aA uI) (ae (ac 0) (ae (ac 1) (ae (mOp aI (ac 4) (ac 5)) (ae (mOp aS (ac 3) (ao (p1 b9) (ae (ac 4) ak))) ak)))))))
 (cm 4)))))
def uK:List PV->Res PV:=a6 6 yd
def sD:MS :=
 (bI (ao (p1 cD) (ae (mOp aI (ac 2) (ac 0)) ak)))
def lT:List PV->Res PV:=a6 3 sD
def mt:MS :=
 (aq (aE 4 (dM bf (ac 0) (ae (ac 1) ak)))
 (aq (aE 5 (dN ak))
 (aq (nr ((df (ar (mOp pLt (ao (p1 b9) (ae (ac 5) ak)) (ac 3))) (ar (mOp pGt (ao (p1 b9) (ae (dM aD (ac 0) (ae (ac 4) ak)) ak)) (mC (.int (0)))))))
  (aq (aE 6 (fI 2 99 lT (ae (ao (p1 b9) (ae (ac 5) ak)) (ae (dM aD (ac 0) (ae (ac 4) ak)) ak))))
 (aq (bE 5 (mFz (ao (aA ja) (ae (ac 0) (ae (ac 4) (ae (ac 6) ak))))))
 (aE 4 (mOp aI (mOp aI (ac 5) (mUn m4 (mC (.int (1))))) (mC (.int (1))))))))
 (cm 5))))
def lS:List PV->Res PV:=a6 7 mt
def kg:MS :=
 (aq (aE 2 (ao (p1 cD) (ae (ac 0) ak)))
 (aq (iV 1) (aq (b_ (cL (ac 1)) (tgT 2 (fA (tgN 3) (fA (tgN 4) pW)))
  (aq (mBr ((fm (ar (mOp pLt (ac 3) (mC (.int (0))))) (ar (mOp pGe (ac 3) (ao (p1 b9) (ae (ac 2) ak))))))
  (aN 3 (ae (mC (.str "a fault is at a machine that is none")) ak))
  aF)
 (dL 2 (ac 3) (ac 4))))
 (cm 2))))
def gv:List PV->Res PV:=a6 5 kg
def mr:MS :=
 (aq (aE 4 (ao (aA gv) (ae (ac 1) (ae (ac 2) ak))))
 (aq (aE 5 (ao (aA eV) (ae (ac 0) (ae (ac 4) (ae (ac 3) ak)))))
 (aq (aE 6 (qY))
 (aq (aE 7 (pA (ar (mOp qD (ac 6) (mC .non))) (ac 5) (gI (ac 5) gi (jX (ac 6)))))
 (aq (aE 8 (bD [7] 1 (bS (ae (mUn (av 0) (ac 0)) ak)) (tgN 1) (cM (ao (p1 (t9 nK)) (ae (bD [1] 1 (de (ac 0)) (tgN 1) cK (mOp pIn (ac 0) (mOp aI (ac 1) (mC (.int (0)))))) ak))) (ac 1)))
 (bI (dW (ae (ac 8) (ae (ac 6) ak)))))))))
def lR:List PV->Res PV:=a6 9 mr
def sy:MS :=
 (aq (jY 5 99 [4])
 (aq (mBr (ar (mOp pEq (ac 0) (mC (.int (0)))))
  (bI (ao (aA eV) (ae (ac 1) (ae (ac 2) (ae (ac 4) ak)))))
  aF)
 (aq (mBr (ar (mOp pEq (ac 0) (mC (.int (1)))))
  (bI (ao (aA lS) (ae (ac 1) (ae (ac 2) (ae (ac 5) (ae (ao (p1 b9) (ae (ac 4) ak)) ak))))))
  aF)
 (aq (mBr (ar (mOp pEq (ac 0) (mC (.int (2)))))
  (bI (ao (aA lR) (ae (ac 1) (ae (ac 2) (ae (ac 3) (ae (ac 4) ak))))))
  aF)
 (bI (ao (aA gv) (ae (ac 2) (ae (ac 3) ak))))))))
def rN:List PV->Res PV:=a6 6 sy
def xV:MS :=
 (aq (aE 5 (dW ak))
 (aq (qX (eF (ao (aA rN) (ae (ac 0) (ae (ac 1) (ae (ac 2) (ae (ac 3) (ae (ac 4) ak))))))) lO 6
  (aq (aE 7 ((eJ (mUn (bG i0) (ac 6)) (eJ (mUn (bG gO) (ac 6)) (mUn (bG gN) (ac 6))))))
 (aq (aE 7 ((eJ (ac 7) (eJ (mUn (bG eU) (ac 6)) (mUn (bG fJ) (ac 6))))))
 (aE 5 (dW (ae (mUn (bG fK) (ac 6)) (ae (mUn (bG gM) (ac 6)) (ae ((eG (mUn (bG eA) (ac 6)) (iU (ac 7)))) ak))))))) aF)
 (cm 5)))
def pI:List PV->Res PV:=a6 8 xV
def ya:MS :=
 (aq (aE 2 (ao (p1 cD) (ae (ac 0) ak)))
 (aq (mBr (ar (mOp pEq (mOp aW (ac 1) (mC (.int (2)))) (mC (.int (0)))))
  (iT 2 (mOp aW (mOp aS (ac 1) (mC (.int (2)))) (ao (p1 b9) (ae (ac 2) ak))))
  (dE 2 (mOp aW (mOp aS (ac 1) (mC (.int (2)))) (mOp aZ (ao (p1 b9) (ae (ac 2) ak)) (mC (.int (1))))) (mOp aW (mOp aS (ac 1) (mC (.int (2)))) (mOp ju (mC (.int (10))) (mC (.int (9)))))))
 (cm 2)))
def xw:List PV->Res PV:=a6 3 ya
def xT:MS :=
 (aq (aE 4 (mUn (av 0) (ac 0)))
 (aq (aE 5 (mOp aW (ac 3) (mC (.int (4)))))
 (aq (mBr ((df (ar (mOp pEq (ac 5) (mC (.int (1))))) (cM (mUn (av 8) (ac 0)))))
  (aE 5 (mC (.int (0))))
  aF)
 (aq (aE 6 (mOp aS (ac 3) (mC (.int (16)))))
 (aq (aE 7 (ac 2))
 (aq (mBr (ar (mOp pEq (mOp aW (mOp aS (ac 3) (mC (.int (4)))) (mC (.int (2)))) (mC (.int (0)))))
  (aE 7 (ao (aA uK) (ae (ac 4) (ae (mUn (av 8) (ac 0)) (ae (ac 2) (ae (ac 6) ak))))))
  aF)
 (aq (mBr (ar (mOp pEq (ac 5) (mC (.int (3)))))
  (bI (ao (aA pI) (ae (mC (.int (3))) (ae (ac 0) (ae (ac 1) (ae (mOp aZ (mOp qC (dN (ae (dW (ae (mC (.int (0))) (ae (mC (.int (1))) ak))) ak)) (mOp aW (mOp aS (ac 6) (mC (.int (2)))) (mC (.int (3))))) (dN (ae (dW (ae (ao (aA j6) (ae (ac 4) (ae (ac 6) ak))) (ae (mC (.int (7))) ak))) ak))) (ae (ac 2) ak)))))))
  aF)
 (aq (mBr ((df (ar (mOp pEq (mOp aW (mOp aS (ac 3) (mC (.int (8)))) (mC (.int (2)))) (mC (.int (0))))) (ar (mOp pNe (ac 7) (ac 2)))))
  (bI (ao (aA pI) (ae (ac 5) (ae (ac 0) (ae (ac 1) (ae (dN (ae (dW (ae (mOp aW (ac 6) (ac 4)) (ae (mOp aW (ac 6) (mOp ju (mC (.int (10))) (mC (.int (60))))) ak))) ak)) (ae (ac 7) ak)))))))
  aF)
 (aq (mBr ((df (ar (mOp pEq (ac 5) (mC (.int (2))))) (ar (mOp pEq (mOp aW (mOp aS (ac 6) (mC (.int (2)))) (mC (.int (2)))) (mC (.int (0)))))))
  (aq (aE 8 (dN (ae (dW (ae (ao (aA j6) (ae (ac 4) (ae (mOp aS (ac 6) (mC (.int (4)))) ak))) (ae (mC (.int (3))) ak))) (ae (dW (ae (mOp aW (ac 6) (ac 4)) (ae (mC (.int (5))) ak))) ak))))
 (bI (ao (aA pI) (ae (mC (.int (2))) (ae (ac 0) (ae (ac 1) (ae (ac 8) (ae (ac 7) ak))))))))
  aF)
 (bI (ao (aA pI) (ae (ac 5) (ae (ac 0) (ae (ao (aA xw) (ae (ac 1) (ae (ac 6) ak))) (ae (dN ak) (ae (ac 7) ak))))))))))))))))
def xq:List PV->Res PV:=a6 9 xT
def sE:MS :=
 (aq (aE 1 (ao (aA jv) (ae (ac 0) (ae (mC (.int (0))) ak))))
 (aq (aE 2 (mOp aZ (mC (.int (2))) (mOp aW (ac 1) (mC (.int (9))))))
 (aq (aE 3 (kI 4 xu (ae (ac 2) (ae (mOp aZ (ac 2) (mOp aW (mOp aS (ac 1) (mC (.int (18)))) (mC (.int (4))))) ak))))
 (aq (mBr (ar (mOp pEq (mOp aW (mOp aS (ac 1) (mC (.int (9)))) (mC (.int (2)))) (mC (.int (1)))))
  (aE 3 (kI 2 uJ (ae (kI 3 ow (ae (ac 2) (ae (ao (aA ox) (ae (ac 2) (ae (ao (aA jv) (ae (ac 0) (ae (mC (.int (1))) ak))) ak))) ak))) (ae (mOp aW (mOp aS (ac 1) (mC (.int (18)))) (ac 2)) ak))))
  aF)
 (aq (aE 4 (ao (aA uF) (ae (ao (aA jv) (ae (ac 0) (ae (mC (.int (2))) ak))) (ae (ac 2) ak))))
 (aq (aE 5 (bD [2,3] 1 (de (gI (ac 4) gi (jX (mOp aZ (mC (.int (1))) (mOp aW (mOp aS (ac 1) (mC (.int (180)))) (mC (.int (4)))))))) (tgN 2) cK (ao (aA uL) (ae (ac 0) (ae (mUn (av 8) (ac 1)) (ae (ac 2) ak))))))
 (aq (aE 6 (ao (aA eV) (ae (ac 3) (ae (ao (p1 cD) (ae (ac 4) ak)) (ae (bD [] 1 (de (ac 5)) (tgN 0) cK (ao (p1 cD) (ae (ac 0) ak))) ak)))))
 (aq (b_ (cL (gI (ac 0) (jX (mC (.int (3)))) gi)) (tgN 7)
  (aq (aE 8 (ao (aA xq) (ae (ac 3) (ae (ac 4) (ae (ac 5) (ae (ac 7) ak))))))
 (aq (aE 9 ((eG (mOp pLt (mOp aW (ac 7) (mC (.int (4)))) (mC (.int (3)))) (eG (mOp pEq (mOp aW (mOp aS (ac 7) (mC (.int (4)))) (mC (.int (2)))) (mC (.int (0)))) (mOp pEq (mOp aW (mOp aS (ac 7) (mC (.int (8)))) (mC (.int (2)))) (mC (.int (0))))))))
 (aq (mBr (ar (mOp pNe (ac 8) (dW (ae (iU (ac 9)) (ae (ac 9) (ae (mC (.bl true)) ak))))))
  (bI (mC (.bl false)))
  aF)
 (mBr (ar (mOp pNe (ao (aA eV) (ae (ac 3) (ae (ao (p1 cD) (ae (ac 4) ak)) (ae (bD [] 1 (de (ac 5)) (tgN 0) cK (ao (p1 cD) (ae (ac 0) ak))) ak)))) (ac 6)))
  (bI (mC (.bl false)))
  aF)))))
 (bI (mOp pEq (ao (aA gv) (ae (ac 4) (ae (dN ak) ak))) (ac 4)))))))))))
def vD:List PV->Res PV:=a6 10 sE
end G
namespace G
open PySem L2 PR
def top(i:Nat):Stmt:=PySem.Challenge.pw_calmring_k39_run_refused.main.body.getD i (.Pass ⟨0,0,0,0⟩)
def tF(q:Str)(i k:Nat)(N:List Str):FS:=⟨q,top i,k,N,none⟩
def tM(c:Nat)(q:Str)(i j k:Nat)(N:List Str):FS:=⟨q,uz (top i) j,k,N,some c⟩
def mE(c:Nat)(n:Str)(i:Nat):Nat×Str×Nat:=(c,n,i)
noncomputable def pt:PT:={
 F:=[tF "_law_cell_at" 44 2 ["_law_script", "_law_k"],
  tM 0 "Rule.__init__" 21 0 4 ["self", "size", "span", "alone"],
  tM 4 "PassRule.__init__" 40 0 3 ["self", "size", "span"],
  tF "_law_numbers" 45 2 ["_law_cell", "_law_many", "_law_number", "_law_found", "_law_k"],
  tF "_law_ways" 46 2 ["_law_size", "_law_cell", "_law_numbers_here", "_law_order", "_law_k", "_law_ways_here", "_law_j", "_law_more"],
  tF "refuse_size" 34 2 ["size", "least"],
  tF "ordered_pairs" 35 2 ["size", "ways", "pairs", "way", "pair"],
  tF "neighbours" 36 2 ["pairs", "at", "lower", "higher"],
  tM 3 "Net.beside" 32 1 2 ["self", "at"],
  tF "far_from" 33 2 ["net", "root", "far", "steps", "at", "other"],
  tM 3 "Net.__init__" 32 0 3 ["self", "size", "ways"],
  tF "refuse_part" 27 1 ["part"],
  tF "refuse_starts" 28 3 ["net", "starts", "top", "start"],
  tM 1 "LeastRule.__init__" 25 0 5 ["self", "net", "starts", "stretch", "blocks"],
  tM 2 "FarRule.__init__" 26 0 3 ["self", "net", "root", "starts"],
  tF "_law_good_turn" 50 3 ["_law_size", "_law_alone", "_law_number", "_law_one"],
  tM 0 "Rule.read" 21 1 2 ["self", "registers"],
  tF "refuse_turn" 22 2 ["rule", "named", "at"],
  tM 0 "Rule.due" 21 2 3 ["self", "cells", "at"],
  tM 1 "LeastRule.has_offer" 25 2 2 ["self", "cell"],
  tM 1 "LeastRule.due" 25 1 3 ["self", "cells", "at", "near", "offers"],
  tM 4 "PassRule.due" 40 1 3 ["self", "cells", "at"],
  tM 0 "Rule.turned" 21 5 3 ["self", "cells", "named"],
  tM 0 "Rule.movers" 21 3 2 ["self", "cells"],
  tF "row_of" 5 3 ["rule", "cells", "named", "behind", "done"],
  tF "run" 2 3 ["rule", "registers", "turns", "cells", "rows", "named"],
  tF "_law_out" 49 2 ["_law_many", "_law_number", "_law_far"],
  tF "_law_bad_turn" 51 4 ["_law_size", "_law_alone", "_law_named", "_law_number", "_law_found", "_law_at"],
  tF "_law_bad_turns" 52 4 ["_law_size", "_law_alone", "_law_turns", "_law_number", "_law_found", "_law_at"],
  tF "drive" 3 4 ["rule", "registers", "hand", "most", "cells", "rows", "named"],
  tF "spoil" 16 2 ["registers", "faults", "spoiled", "at", "number"],
  tF "mend" 17 4 ["rule", "cells", "faults", "turns", "spoiled", "rows", "behind", "wild", "touched"],
  tF "_law_done" 47 5 ["_law_which", "_law_rule", "_law_registers", "_law_faults", "_law_turns", "_law_hand"],
  tF "_law_refusal" 48 5 ["_law_which", "_law_rule", "_law_registers", "_law_faults", "_law_turns", "_law_kept", "e", "_law_other"],
  tF "_law_bad_state" 53 2 ["_law_registers", "_law_number", "_law_found"],
  tF "_law_refused" 54 4 ["_law_rule", "_law_registers", "_law_turns", "_law_cell", "_law_size", "_law_which", "_law_number", "_law_bad_turns_here", "_law_faults"],
  tF "law" 55 1 ["_law_script", "_law_first", "_law_size", "_law_rule", "_law_registers", "_law_turns", "_law_rows", "_law_cell", "_law_kept", "_law_by_turn"]]
 C:=["Rule", "LeastRule", "FarRule", "Net", "PassRule"]
 X:=["CalmError", "BadNet", "BadRule", "BadState", "BadTurn", "BadText", "TooGreat", "NoMeasure"]
 A:=["size", "pairs", "near", "top", "net", "starts", "stretch", "span", "alone"]
 M:=[mE 3 "beside" 8,mE 0 "read" 16,mE 1 "read" 16,mE 2 "read" 16,mE 4 "read" 16,mE 1 "has_offer" 19,mE 2 "has_offer" 19,mE 0 "due" 18,mE 1 "due" 20,mE 2 "due" 20,mE 4 "due" 21,mE 0 "turned" 22,mE 1 "turned" 22,mE 2 "turned" 22,mE 4 "turned" 22,mE 0 "movers" 23,mE 1 "movers" 23,mE 2 "movers" 23,mE 4 "movers" 23]
 Mk:=[(2,14),(3,10),(4,2)]
 U:=[(1,13),(0,1)]
 B:=["len", "range", "max", "min", "sorted", "tuple", "list", "set", "any", "isinstance", "ValueError"]
 I:=[("LEAST_RING", 2),("GREATEST_RING", 20),("GREATEST_NET", 10),("LEAST_NET", 1),("GREATEST_PART", 10)]
 KT:=[(some 1, "BadNet", [false,true,false,false,false,false,false,false]),(some 2, "BadRule", [false,false,true,false,false,false,false,false]),(some 5, "BadText", [false,false,false,false,false,true,false,false]),(some 7, "NoMeasure", [false,false,false,false,false,false,false,true]),(some 6, "TooGreat", [false,false,false,false,false,false,true,false]),(some 3, "BadState", [false,false,false,true,false,false,false,false]),(some 4, "BadTurn", [false,false,false,false,true,false,false,false]),(none, "ValueError", [true,true,true,true,true,true,true,true])]
 HT:=[(0,[true,true,true,true,true,true,true,true])]
 G:=some ⟨32,0, "_law_done.<locals>._law_hand", 2,["_law_turns"],["_law_number", "_law_movers", "_law_turns"]⟩ }
def hA:pt.attOk:=⟨by decide +kernel,by decide +kernel⟩
abbrev T(K:PySem.W.Frag):Tb:=pt.T hA K
section
variable{P:Program}{w:World}{K:PySem.W.Frag}{mg:Str->Option Value}{base:Heap}(t:Tx pt K mg)(hB:K.In base)(tg:TG pt K mg base)
include t hB tg
theorem qH:OkF pt hA P w K mg base 1 0 jv:=okC 0 t fun _ _ _ _ _ _ cx nd =>
 (af (aO (eL (sv 1) (b7 cx.hK rfl (t.b 0) (sv 0))) (am (aK (bN cx (sv 0) (sv 1) (fun _ _=>rfl)))) aG)
 (am (aK (ag))))
theorem vm:OkI pt hA P w K mg base 1 1 nD:=okI 1 t fun _ _ _ _ _ _ cx nd =>
 (af (sFld 0 t cx (sv 1))
 (af (sFld 7 t cx (sv 2))
 (am (sFld 8 t cx (sv 3)))))
theorem zI:OkI pt hA P w K mg base 3 2 xu:=okI 2 t fun _ _ _ _ _ _ cx nd =>
 (af (aO (SW.st (fR (eL (sv 1) (eM rfl (t.c 0))) (d6 (ll (sv 1) (eM rfl (t.c 1)))))) (am (b8 2 t cx hB bY (aa (b0) ai))) aG)
 (af (aO (eL (sv 2) (sv 1)) (am (b8 2 t cx hB bY (aa (b0) ai))) aG)
 (am (v9 0 t (vm t hB tg) cx (aa (sv 1) (aa (sv 2) (aa (ly) ai)))))))
theorem vn:OkF pt hA P w K mg base 1 3 uF:=okC 3 t fun _ _ _ _ _ _ cx nd =>
 (af (bc nd (aC (sv 0) (ag)))
 (af (bc nd (eO ai))
 (af (cz cx.po cx.calm (dl rfl (t.b 1) (aa (sv 1) ai)) (sgN nd) (af (bc nd (aC (bj (bj (kx (sv 2) (bj (bj (sv 2) (kx (ag) (sv 4))) (ag))) (kx (ag) (sv 4))) (ag)) (ag)))
 (am (mT cx (sv 2)))))
 (am (cw rfl (Or.inl rfl))))))
theorem wT:OkF pt hA P w K mg base 2 4 ox:=okC 4 t fun _ _ _ _ _ _ cx nd =>
 (af (bc nd (aP t (vn t hB tg) cx (aa (sv 1) (aa (sv 0) ai))))
 (af (bc nd (eO ai))
 (af (cz cx.po cx.calm (dl rfl (t.b 1) (aa (sv 0) ai)) (sgN nd) (am (eX cx.hK rfl (Or.inl rfl) (aC (bN cx (sv 2) (sv 4) (fun _ _=>rfl)) (bj (sv 4) (ag))) (sv 4))))
 (af (bc nd (eO ai))
 (af (cz cx.po cx.calm (oT rfl (t.b 1) (aa (ag) (aa (sv 0) ai))) (sgN nd) (am (mT cx (f8 (aa (bN cx (sv 3) (sv 4) (fun _ _=>rfl)) (aa (bN cx (sv 3) (aC (aR (bN cx (sv 2) (sv 4) (fun _ _=>rfl)) (ag)) (sv 4)) (fun _ _=>rfl)) ai))))))
 (af (cz cx.po cx.calm (dl rfl (t.b 1) (aa (sv 0) ai)) (sgN nd) (am (cz cx.po cx.calm (dl rfl (t.b 1) (aa (sv 4) ai)) (sgN nd) (af (bc nd ((lx (jK cx.hK cx.hu (aC (sv 1) (ag)) (ag)) (fD ((iC (jK cx.hK cx.hu (aC (bj (aR (bN cx (sv 2) (sv 4) (fun _ _=>rfl)) (ag)) (sv 6)) (sv 0)) (ag)) (fD (jK cx.hK cx.hu (aC (aR (bN cx (sv 2) (sv 4) (fun _ _=>rfl)) (ag)) (ag)) (ag)))))))))
 (am (aO (SW.st (dG (cU cx.hK (sv 7)) (dG (lj cx.hK cx.hu2 (f8 (aa (sv 6) (aa (sv 4) ai))) (sv 5)) (dg (lj cx.hK cx.hu2 (f8 (aa (sv 4) (aa (sv 6) ai))) (sv 5)))))) (am (mT cx (f8 (aa (sv 6) (aa (sv 4) ai))))) aG))))))
 (am (cw rfl (Or.inl rfl)))))))))
theorem zD:OkF pt hA P w K mg base 1 5 xr:=okC 5 t fun _ _ _ _ _ _ cx nd =>
 (am (aO (SW.st (fR (eL (sv 0) (sv 1)) (d6 (ll (sv 0) (eM rfl (t.c 2)))))) (am (b8 1 t cx hB bY (aa (b0) ai))) aG))
theorem zL:OkF pt hA P w K mg base 1 6 xA:=okC 6 t fun _ _ _ _ _ _ cx nd =>
 (af (bc nd (eO ai))
 (af (cz cx.po cx.calm (fC cx.hK (sv 1)) (sgN nd) (af (bc nd (f8 (aa (nR cx.hK cx.calm rfl (t.b 3) (sv 3)) (aa (nS cx.hK cx.calm rfl (t.b 2) (sv 3)) ai))))
 (af (aO (SW.st (fR (eL (bN cx (sv 4) (ag) (fun _ _=>rfl)) (ag)) (d6 (lm (bN cx (sv 4) (ag) (fun _ _=>rfl)) (sv 0))))) (am (b8 1 t cx hB bY (aa (b0) ai))) aG)
 (af (aO (bP cx.hK cx.hu (bN cx (sv 4) (ag) (fun _ _=>rfl)) (bN cx (sv 4) (ag) (fun _ _=>rfl))) (am (b8 1 t cx hB bY (aa (b0) ai))) aG)
 (af (aO (pZ cx.hK cx.hu2 (sv 4) (sv 2)) (am (b8 1 t cx hB bY (aa (b0) ai))) aG)
 (am (mT cx (sv 4))))))))
 (am (aK (jJ cx.hK rfl (t.b 4) (sv 2))))))
theorem zz:OkF pt hA P w K mg base 1 7 uD:=okC 7 t fun _ _ _ _ _ _ cx nd =>
 (af (fq ["pair"] cx nd (cA cx.hK (sv 0)) eH (fun _ _ _ _ nd=>⟨(sgN nd),(d7 (bP cx.comp.hK cx.comp.hu (bN cx.comp (sv 1) (ag) (fun _ _=>rfl)) (sv 0))),(bN cx.comp (sv 1) (ag) (fun _ _=>rfl))⟩))
 (af (fq ["pair"] cx nd (cA cx.hK (sv 0)) eH (fun _ _ _ _ nd=>⟨(sgN nd),(d7 (bP cx.comp.hK cx.comp.hu (bN cx.comp (sv 1) (ag) (fun _ _=>rfl)) (sv 0))),(bN cx.comp (sv 1) (ag) (fun _ _=>rfl))⟩))
 (am (aK (jJ cx.hK rfl (t.b 4) (bj (sv 2) (sv 3)))))))
theorem zA:OkF pt hA P w K mg base 1 8 uE:=okC 8 t fun _ _ _ _ _ _ cx nd =>
 (am (aK (cR cx.hK rfl (t.b 6) cT (bN cx (a_ 2 t cx (sv 0)) (sv 1) (fun _ _=>rfl)))))
omit t hB tg in
theorem eE{X:Cx}(t:Tx pt X.K X.mg)(hB:X.K.In X.base)(tg:TG pt X.K X.mg X.base):jD X (T X.K) 1 "beside" ["self", "at"] [] bV:=fun c _ hc e=>match c,hc,e with
 | 3,_,e=>dm 0 t (zA t hB tg) e
 | 0,_,e | 1,_,e | 2,_,e | 4,_,e=>nomatch e
 | _+5,h,_=>dno (n:=5) h
theorem wQ:OkF pt hA P w K mg base 2 9 ou:=okC 9 t fun _ _ _ _ _ _ cx nd =>
 (af (fq ["at"] cx nd (cf rfl (t.b 1) (aa (a_ 0 t cx (sv 0)) ai)) eH (fun _ _ _ _ nd=>⟨(sgN nd),cu,(a_ 0 t cx.comp (sv 0))⟩))
 (af (fU rfl (Or.inl rfl) (sv 1) (ag))
 (af (cz cx.po cx.calm (dl rfl (t.b 1) (aa (a_ 0 t cx (sv 0)) ai)) (sgN nd) (am (cz cx.po cx.calm (dl rfl (t.b 1) (aa (a_ 0 t cx (sv 0)) ai)) (sgN nd) (am (aO (bP cx.hK cx.hu (bN cx (sv 2) (sv 4) (fun _ _=>rfl)) (sv 3)) (am (cz cx.po cx.calm (fC cx.hK (iD t (eE t hB tg) cx (sv 0) (aa (sv 4) ai))) (sgN nd) (am (fU rfl (Or.inl rfl) (sv 5) (sX cx.calm rfl (t.b 3) (aa (bN cx (sv 2) (sv 5) (fun _ _=>rfl)) (aa (bj (sv 3) (ag)) ai))))))) aG)))))
 (am (cw rfl (Or.inl rfl))))))
theorem wS:OkI pt hA P w K mg base 3 10 ow:=okI 10 t fun _ _ _ _ _ _ cx nd =>
 (af (eY (aP t (zD t hB tg) cx (aa (sv 1) (aa (eM rfl (t.c 3)) ai))))
 (af (sFld 0 t cx (sv 1))
 (af (sFld 1 t cx (fZ cx.hK rfl (t.b 5) gz (aP t (zL t hB tg) cx (aa (sv 1) (aa (sv 2) ai)))))
 (af (sFld 2 t cx (fZ cx.hK rfl (t.b 5) gz (g_ ["at"] cx (cf rfl (t.b 1) (aa (sv 1) ai)) eH (fun _ _ _ _ nd=>⟨(sgN nd),cu,(fZ cx.comp.hK rfl (t.b 5) gz (aP t (zz t hB tg) cx.comp (aa (a_ 1 t cx.comp (sv 0)) (aa (sv 1) ai))))⟩))))
 (am (aO (bP cx.hK cx.hu (nS cx.hK cx.calm rfl (t.b 2) (aP t (wQ t hB tg) cx (aa (sv 0) (aa (ag) ai)))) (sv 1)) (am (b8 1 t cx hB bY (aa (b0) ai))) aG))))))
theorem vp:OkF pt hA P w K mg base 1 11 uH:=okC 11 t fun _ _ _ _ _ _ cx nd =>
 (am (aO (SW.st (fR (eL (sv 0) (ag)) (d6 (ll (sv 0) (eM rfl (t.c 4)))))) (am (b8 2 t cx hB bY (aa (b0) ai))) aG))
theorem zK:OkF pt hA P w K mg base 1 12 xy:=okC 12 t fun _ _ _ _ _ _ cx nd =>
 (af (aO (fT cx.hK cx.hu (b7 cx.hK rfl (t.b 0) (sv 1)) (a_ 0 t cx (sv 0))) (am (b8 2 t cx hB bY (aa (b0) ai))) aG)
 (am (cz cx.po cx.calm (fC cx.hK (sv 1)) (sgN nd) (am (aO (SW.st (dG (nO (sv 3) (ku)) (dg (SW.st (fR (eL (sv 3) (ag)) (d6 (lm (sv 3) (sv 2)))))))) (am (b8 2 t cx hB bY (aa (b0) ai))) aG)))))
theorem zO:OkI pt hA P w K mg base 3 13 uN:=okI 13 t fun _ _ _ _ _ _ cx nd =>
 (af (eY (aP t (vp t hB tg) cx (aa (sv 3) ai)))
 (af (eY (aP t (vp t hB tg) cx (aa (sv 4) ai)))
 (af (sFld 3 t cx (kx (sv 3) (sv 4)))
 (af (eY (aP t (zK t hB tg) cx (aa (sv 1) (aa (sv 2) (aa (a_ 3 t cx (sv 0)) ai)))))
 (iu (i:=1) (af (sFld 4 t cx (sv 1))
 (af (sFld 5 t cx (fZ cx.hK rfl (t.b 5) gz (sv 2)))
 (af (sFld 6 t cx (sv 3))
 (am (v9 0 t (vm t hB tg) cx (aa (a_ 0 t cx (sv 1)) (aa (bj (a_ 3 t cx (sv 0)) (ag)) (aa (ly) ai)))))))))))))
theorem zG:OkI pt hA P w K mg base 5 14 uJ:=okI 14 t fun _ _ _ _ _ _ cx nd =>
 (af (aO (SW.st (fR (eL (sv 2) (ag)) (d6 (lm (sv 2) (a_ 0 t cx (sv 1)))))) (am (b8 2 t cx hB bY (aa (b0) ai))) aG)
 (af (fq ["at"] cx nd (cf rfl (t.b 1) (aa (a_ 0 t cx (sv 1)) ai)) eH (fun _ _ _ _ nd=>⟨(sgN nd),cu,(iB (bP cx.comp.hK cx.comp.hu (sv 1) (sv 0)) (ag) (ku))⟩))
 (iu (i:=3) (iu (i:=1) (am (v9 1 t (zO t hB tg) cx (aa (sv 1) (aa (sv 3) (aa (a_ 0 t cx (sv 1)) (aa (ag) ai))))))))))
theorem zN:OkF pt hA P w K mg base 1 15 uL:=okC 15 t fun _ _ _ _ _ _ cx nd =>
 (af (bc nd (aC (aR (sv 2) (ag)) (sv 0)))
 (af (aO (SW.st (fR (cU cx.hK (sv 1)) (d6 (bP cx.hK cx.hu (aC (aR (sv 2) (ag)) (ag)) (ag))))) (am (aK (eO (aa (sv 3) ai)))) aG)
 (am (aK (bj (eO (aa (sv 3) ai)) (g_ ["_law_at"] cx (cf rfl (t.b 1) (aa (sv 0) ai)) eH (fun _ _ _ _ nd=>⟨(sgN nd),(d7 (SW.st (dG (fT cx.comp.hK cx.comp.hu (sv 2) (sv 0)) (dg (bP cx.comp.hK cx.comp.hu (aC (vZ (sv 1) (sv 2)) (ag)) (ag)))))),(sv 2)⟩)))))))
theorem kD:OkF pt hA P w K mg base 1 16 ib:=okC 16 t fun _ _ _ _ _ _ cx nd =>
 (af (aO (fT cx.hK cx.hu (b7 cx.hK rfl (t.b 0) (sv 1)) (a_ 0 t cx (sv 0))) (am (b8 3 t cx hB bY (aa (b0) ai))) aG)
 (am (aK (g_ ["number"] cx (cA cx.hK (sv 1)) eH (fun _ _ _ _ nd=>⟨(sgN nd),cu,(aC (sv 1) (a_ 7 t cx.comp (sv 0)))⟩)))))
omit t hB tg in
theorem dc{X:Cx}(t:Tx pt X.K X.mg)(hB:X.K.In X.base)(tg:TG pt X.K X.mg X.base):jD X (T X.K) 1 "read" ["self", "registers"] [] bf:=fun c _ hc e=>match c,hc,e with
 | 0,_,e=>dm 1 t (kD t hB tg) e
 | 1,_,e=>dm 2 t (kD t hB tg) e
 | 2,_,e=>dm 3 t (kD t hB tg) e
 | 4,_,e=>dm 4 t (kD t hB tg) e
 | 3,_,e=>nomatch e
 | _+5,h,_=>dno (n:=5) h
theorem zE:OkF pt hA P w K mg base 1 17 uG:=okC 17 t fun _ _ _ _ _ _ cx nd =>
 (af (aO (SW.st (dG (cU cx.hK (a_ 8 t cx (sv 0))) (dg (ll (b7 cx.hK rfl (t.b 0) (sv 1)) (ag))))) (am (b8 4 t cx hB bY (aa (b0) ai))) aG)
 (af (cz cx.po cx.calm (fC cx.hK (sv 1)) (sgN nd) (am (aO (SW.st (fR (eL (sv 2) (ag)) (d6 (lm (sv 2) (a_ 0 t cx (sv 0)))))) (am (b8 4 t cx hB bY (aa (b0) ai))) aG)))
 (am (aO (fT cx.hK cx.hu (oU cx.hK cx.calm rfl (t.b 0) rfl (t.b 7) (sv 1)) (b7 cx.hK rfl (t.b 0) (sv 1))) (am (b8 4 t cx hB bY (aa (b0) ai))) aG))))
theorem wP:OkF pt hA P w K mg base 1 18 vC:=okC 18 t fun _ _ _ _ _ _ cx nd =>
 (am (aK (bN cx (sv 1) (sv 2) (fun _ _=>rfl))))
theorem vt:OkF pt hA P w K mg base 1 19 rO:=okC 19 t fun _ _ _ _ _ _ cx nd =>
 (am (aK ((iC (vg cx.hK cx.hu (sv 1) (a_ 3 t cx (sv 0))) (fD (vg cx.hK cx.hu (aC (bj (sv 1) (ag)) (a_ 6 t cx (sv 0))) (ag)))))))
omit t hB tg in
theorem eT{X:Cx}(t:Tx pt X.K X.mg)(hB:X.K.In X.base)(tg:TG pt X.K X.mg X.base):jD X (T X.K) 1 "has_offer" ["self", "cell"] [] cG:=fun c _ hc e=>match c,hc,e with
 | 1,_,e=>dm 5 t (vt t hB tg) e
 | 2,_,e=>dm 6 t (vt t hB tg) e
 | 0,_,e | 3,_,e | 4,_,e=>nomatch e
 | _+5,h,_=>dno (n:=5) h
theorem vq:OkF pt hA P w K mg base 2 20 uM:=okC 20 t fun _ _ _ _ _ _ cx nd =>
 (af (fq ["other"] cx nd (cA cx.hK (iD t (eE t hB tg) cx (a_ 4 t cx (sv 0)) (aa (sv 2) ai))) eH (fun _ _ _ _ nd=>⟨(sgN nd),cu,(bN cx.comp (sv 0) (sv 1) (fun _ _=>rfl))⟩))
 (af (fq ["cell"] cx nd (cA cx.hK (sv 3)) eH (fun _ _ _ _ nd=>⟨(sgN nd),(d7 (cU cx.comp.hK (iD t (eT t hB tg) cx.comp (sv 0) (aa (sv 1) ai)))),(bj (sv 1) (ag))⟩))
 (af (aO (nO (bN cx (a_ 5 t cx (sv 0)) (sv 2) (fun _ _=>rfl)) (ku)) (am (mT cx (bN cx (a_ 5 t cx (sv 0)) (sv 2) (fun _ _=>rfl)))) aG)
 (am (aK (nR cx.hK cx.calm rfl (t.b 3) (bj (sv 4) (eO (aa (a_ 3 t cx (sv 0)) ai)))))))))
theorem zH:OkF pt hA P w K mg base 1 21 xt:=okC 21 t fun _ _ _ _ _ _ cx nd =>
 (af (aO (fT cx.hK cx.hu (sv 2) (ag)) (am (aK (bN cx (sv 1) (mQ (sv 2) (ag)) (fun _ _=>rfl)))) aG)
 (af (aO (bP cx.hK cx.hu (bN cx (sv 1) (ag) (fun _ _=>rfl)) (bN cx (sv 1) (mQ (a_ 0 t cx (sv 0)) (ag)) (fun _ _=>rfl))) (am (aK (aC (bj (bN cx (sv 1) (ag) (fun _ _=>rfl)) (ag)) (a_ 7 t cx (sv 0))))) aG)
 (am (aK (bN cx (sv 1) (ag) (fun _ _=>rfl))))))
omit t hB tg in
theorem dy{X:Cx}(t:Tx pt X.K X.mg)(hB:X.K.In X.base)(tg:TG pt X.K X.mg X.base):jD X (T X.K) 2 "due" ["self", "cells", "at"] [] br:=fun c _ hc e=>match c,hc,e with
 | 0,_,e=>dm 7 t (wP t hB tg) e
 | 1,_,e=>dm 8 t (vq t hB tg) e
 | 2,_,e=>dm 9 t (vq t hB tg) e
 | 4,_,e=>dm 10 t (zH t hB tg) e
 | 3,_,e=>nomatch e
 | _+5,h,_=>dno (n:=5) h
theorem n6:OkF pt hA P w K mg base 3 22 lQ:=okC 22 t fun _ _ _ _ _ _ cx nd =>
 (af (eY (aP t (zE t hB tg) cx (aa (sv 0) (aa (sv 2) ai))))
 (am (aK (g_ ["at"] cx (cf rfl (t.b 1) (aa (a_ 0 t cx (sv 0)) ai)) eH (fun _ _ _ _ nd=>⟨(sgN nd),cu,(iB (pZ cx.comp.hK cx.comp.hu2 (sv 3) (sv 0)) (iD t (dy t hB tg) cx.comp (sv 1) (aa (sv 2) (aa (sv 3) ai))) (bN cx.comp (sv 2) (sv 3) (fun _ _=>rfl)))⟩)))))
omit t hB tg in
theorem eI{X:Cx}(t:Tx pt X.K X.mg)(hB:X.K.In X.base)(tg:TG pt X.K X.mg X.base):jD X (T X.K) 3 "turned" ["self", "cells", "named"] [] bg:=fun c _ hc e=>match c,hc,e with
 | 0,_,e=>dm 11 t (n6 t hB tg) e
 | 1,_,e=>dm 12 t (n6 t hB tg) e
 | 2,_,e=>dm 13 t (n6 t hB tg) e
 | 4,_,e=>dm 14 t (n6 t hB tg) e
 | 3,_,e=>nomatch e
 | _+5,h,_=>dno (n:=5) h
theorem n5:OkF pt hA P w K mg base 3 23 nE:=okC 23 t fun _ _ _ _ _ _ cx nd =>
 (am (aK (g_ ["at"] cx (cf rfl (t.b 1) (aa (a_ 0 t cx (sv 0)) ai)) eH (fun _ _ _ _ nd=>⟨(sgN nd),(d7 (fT cx.comp.hK cx.comp.hu (iD t (dy t hB tg) cx.comp (sv 0) (aa (sv 1) (aa (sv 2) ai))) (bN cx.comp (sv 1) (sv 2) (fun _ _=>rfl)))),(sv 2)⟩))))
omit t hB tg in
theorem bO{X:Cx}(t:Tx pt X.K X.mg)(hB:X.K.In X.base)(tg:TG pt X.K X.mg X.base):jD X (T X.K) 3 "movers" ["self", "cells"] [] aD:=fun c _ hc e=>match c,hc,e with
 | 0,_,e=>dm 15 t (n5 t hB tg) e
 | 1,_,e=>dm 16 t (n5 t hB tg) e
 | 2,_,e=>dm 17 t (n5 t hB tg) e
 | 4,_,e=>dm 18 t (n5 t hB tg) e
 | 3,_,e=>nomatch e
 | _+5,h,_=>dno (n:=5) h
theorem qI:OkF pt hA P w K mg base 4 24 ja:=okC 24 t fun _ _ _ _ _ _ cx nd =>
 (af (bc nd (iD t (eI t hB tg) cx (sv 0) (aa (sv 1) (aa (sv 2) ai))))
 (af (fq ["at"] cx nd (cA cx.hK (iD t (bO t hB tg) cx (sv 0) (aa (sv 1) ai))) eH (fun _ _ _ _ nd=>⟨(sgN nd),(d7 (pZ cx.comp.hK cx.comp.hu2 (sv 1) (sv 0))),(sv 1)⟩))
 (am (p4 rfl (Or.inl rfl) rfl (Or.inl rfl)))))
theorem kE:OkF pt hA P w K mg base 5 25 eV:=okC 25 t fun _ _ _ _ _ _ cx nd =>
 (af (bc nd (iD t (dc t hB tg) cx (sv 0) (aa (sv 1) ai)))
 (af (bc nd (eO ai))
 (iu (i:=2) (af (cz cx.po cx.calm (fC cx.hK (sv 2)) (sgN nd) (af (mT cx (qe (aP t (qI t hB tg) cx (aa (sv 0) (aa (sv 3) (aa (sv 5) ai))))))
 (am (bc nd (bN cx (bN cx (sv 4) (mS (ag)) (fun _ _=>rfl)) (ag) (fun _ _=>rfl))))))
 (am (cw rfl (Or.inl rfl)))))))
theorem kC:OkF pt hA P w K mg base 1 26 j6:=okC 26 t fun _ _ _ _ _ _ cx nd =>
 (af (bc nd (aC (aR (sv 1) (ag)) (mR (ag) (ag))))
 (af (aO (bP cx.hK cx.hu (aC (sv 2) (ag)) (ag)) (am (bc nd (ag))) aG)
 (af (aO (bP cx.hK cx.hu (aC (sv 1) (ag)) (ag)) (am (aK (bj (sv 0) (sv 2)))) aG)
 (am (aK (mQ (mS (ag)) (sv 2)))))))
theorem zF:OkF pt hA P w K mg base 2 27 uI:=okC 27 t fun _ _ _ _ _ _ cx nd =>
 (af (bc nd (cR cx.hK rfl (t.b 6) cT (sv 2)))
 (af (bc nd (aC (aR (sv 3) (ag)) (bj (b7 cx.hK rfl (t.b 0) (sv 4)) (ag))))
 (af (aO (SW.st (dG (bP cx.hK cx.hu (aC (sv 3) (ag)) (ag)) (dg (cU cx.hK (sv 1))))) (am (aK (eO (aa (aC (aR (sv 3) (ag)) (sv 0)) (aa (aC (bj (aR (sv 3) (ag)) (ag)) (sv 0)) ai))))) aG)
 (af (aO (bP cx.hK cx.hu (aC (sv 3) (ag)) (ag)) (af (eX cx.hK rfl (Or.inl rfl) (sv 5) (bN cx (sv 4) (aC (aR (sv 3) (ag)) (b7 cx.hK rfl (t.b 0) (sv 4))) (fun _ _=>rfl)))
 (am (cw rfl (Or.inl rfl)))) aG)
 (af (aO (cU cx.hK (sv 1)) (am (aK (eO (aa (aP t (kC t hB tg) cx (aa (sv 0) (aa (aR (sv 3) (ag)) ai))) ai)))) aG)
 (af (eX cx.hK rfl (Or.inl rfl) (sv 5) (aP t (kC t hB tg) cx (aa (sv 0) (aa (aR (sv 3) (ag)) ai))))
 (am (cw rfl (Or.inl rfl)))))))))
theorem zM:OkF pt hA P w K mg base 3 28 uK:=okC 28 t fun _ _ _ _ _ _ cx nd =>
 (af (fq ["_law_named"] cx nd (cA cx.hK (sv 2)) eH (fun _ _ _ _ nd=>⟨(sgN nd),cu,(cR cx.comp.hK rfl (t.b 6) cT (sv 0))⟩))
 (p7 (i:=4) (af (bc nd (aC (sv 3) (b7 cx.hK rfl (t.b 0) (sv 4))))
 (af (fU rfl (Or.inl rfl) (sv 5) (qe (aP t (zF t hB tg) cx (aa (sv 0) (aa (sv 1) (aa (bN cx (sv 4) (sv 5) (fun _ _=>rfl)) (aa (aR (sv 3) (b7 cx.hK rfl (t.b 0) (sv 4))) ai)))))))
 (am (cw rfl (Or.inl rfl)))))))
omit t hB tg in
theorem u9:At pt:=fun _ _ _ _ _ us hl=>match us,hl with | [_,_],_=>rfl
theorem wU:OkN pt hA P w K mg base 1 lT:=okN (by decide +kernel) fun _ _ _ _ _ _ _ _ cx nd =>
 (am (aK (cR cx.hK rfl (t.b 6) cT (bN cx (sv 2) (sv 0) (fun _ _=>rfl)))))
theorem wO:OkF pt hA P w K mg base 5 29 lS:=okC 29 t fun _ _ _ _ _ _ cx nd =>
 (af (bc nd (iD t (dc t hB tg) cx (sv 0) (aa (sv 1) ai)))
 (af (bc nd (eO ai))
 (af (p3 cx.po (SW.st (dG (eL (b7 cx.hK rfl (t.b 0) (sv 5)) (sv 3)) (dg (ll (b7 cx.hK rfl (t.b 0) (iD t (bO t hB tg) cx (sv 0) (aa (sv 4) ai))) (ag))))) (af (bc nd (wa (wU t hB tg) u9 cx (aa (b7 cx.hK rfl (t.b 0) (sv 5)) (aa (iD t (bO t hB tg) cx (sv 0) (aa (sv 4) ai)) ai))))
 (af (mT cx (qe (aP t (qI t hB tg) cx (aa (sv 0) (aa (sv 4) (aa (sv 6) ai))))))
 (am (bc nd (bN cx (bN cx (sv 5) (mS (ag)) (fun _ _=>rfl)) (ag) (fun _ _=>rfl)))))))
 (am (cw rfl (Or.inl rfl))))))
theorem m7:OkF pt hA P w K mg base 1 30 gv:=okC 30 t fun _ _ _ _ _ _ cx nd =>
 (af (bc nd (cR cx.hK rfl (t.b 6) cT (sv 0)))
 (iu (i:=1) (af (cz cx.po cx.calm (fC cx.hK (sv 1)) (vW cx.hK cx.calm (lw nd rfl (Or.inl rfl) (lw nd rfl (Or.inl rfl) sU))) (af (aO (SW.st (fR (eL (sv 3) (ag)) (d6 (lm (sv 3) (b7 cx.hK rfl (t.b 0) (sv 2)))))) (am (b8 3 t cx hB bY (aa (b0) ai))) aG)
 (am (fU rfl (Or.inl rfl) (sv 3) (sv 4)))))
 (am (cw rfl (Or.inl rfl))))))
theorem wN:OkF pt hA P w K mg base 6 31 lR:=okC 31 t fun _ _ _ _ _ _ cx nd =>
 (af (bc nd (aP t (m7 t hB tg) cx (aa (sv 1) (aa (sv 2) ai))))
 (af (bc nd (aP t (kE t hB tg) cx (aa (sv 0) (aa (sv 4) (aa (sv 3) ai)))))
 (af (bc nd (qb))
 (af (bc nd (iB (vR (sv 6) (ku)) (sv 5) (iA cx.hK (sv 5) kq (kn (sv 6)))))
 (af (fq ["at"] cx nd (cf rfl (t.b 1) (aa (a_ 0 t cx (sv 0)) ai)) eH (fun _ _ _ _ nd=>⟨(sgN nd),(d7 (cU cx.comp.hK (v8 cx.comp.hK cx.comp.calm rfl (t.b 8) (g_ ["row"] cx.comp (cA cx.comp.hK (sv 0)) eH (fun _ _ _ _ nd=>⟨(sgN nd),cu,(y7 cx.comp.comp.hK cx.comp.comp.hu2 (sv 0) (bN cx.comp.comp (sv 1) (ag) (fun _ _=>rfl)))⟩))))),(sv 1)⟩))
 (am (aK (f8 (aa (sv 8) (aa (sv 6) ai))))))))))
theorem wR:OkF pt hA P w K mg base 7 32 rN:=A_ 32 t fun _ _ _ _ _ cx nd =>
 (af (y8 5 [4] tg nd)
 (af (aO (bP cx.hK cx.hu (sv 0) (ag)) (am (aK (aP t (kE t hB tg) cx (aa (sv 1) (aa (sv 2) (aa (sv 4) ai)))))) aG)
 (af (aO (bP cx.hK cx.hu (sv 0) (ag)) (am (aK (aP t (wO t hB tg) cx (aa (sv 1) (aa (sv 2) (aa (sv 5) (aa (b7 cx.hK rfl (t.b 0) (sv 4)) ai))))))) aG)
 (af (aO (bP cx.hK cx.hu (sv 0) (ag)) (am (aK (aP t (wN t hB tg) cx (aa (sv 1) (aa (sv 2) (aa (sv 3) (aa (sv 4) ai))))))) aG)
 (am (aK (aP t (m7 t hB tg) cx (aa (sv 2) (aa (sv 3) ai)))))))))
theorem n8:OkF pt hA P w K mg base 8 33 pI:=okC 33 t fun _ _ _ _ _ _ cx nd =>
 (af (bc nd (f8 ai))
 (af (vS cx rfl rfl nd rfl rfl (by decide) rfl (t.xg 0) (t.hO 0) (fun E pn Wb cy=>(am (eY (aP t (wR t hB tg) cy (aa (sv 0) (aa (sv 1) (aa (sv 2) (aa (sv 3) (aa (sv 4) ai))))))))) (fun _=>(af (bc nd ((lx (eh cx.hK t.xc (t.kO 0) rfl (t.b 9) ba rfl (t.xg 1) (sv 6)) (lx (eh cx.hK t.xc (t.kO 1) rfl (t.b 9) ba rfl (t.xg 2) (sv 6)) (fD (eh cx.hK t.xc (t.kO 2) rfl (t.b 9) ba rfl (t.xg 5) (sv 6)))))))
 (af (bc nd ((lx (sv 7) (lx (eh cx.hK t.xc (t.kO 3) rfl (t.b 9) ba rfl (t.xg 7) (sv 6)) (fD (eh cx.hK t.xc (t.kO 4) rfl (t.b 9) ba rfl (t.xg 6) (sv 6)))))))
 (am (bc nd (f8 (aa (eh cx.hK t.xc (t.kO 5) rfl (t.b 9) ba rfl (t.xg 3) (sv 6)) (aa (eh cx.hK t.xc (t.kO 6) rfl (t.b 9) ba rfl (t.xg 4) (sv 6)) (aa ((iC (s_ cx.hK t.xc (t.kB 7) rfl (t.b 9) ba rfl (t.b 10) jA (sv 6)) (fD (qc (sv 7))))) ai))))))))) aG)
 (am (cw rfl (Or.inl rfl)))))
theorem zJ:OkF pt hA P w K mg base 1 34 xw:=okC 34 t fun _ _ _ _ _ _ cx nd =>
 (af (bc nd (cR cx.hK rfl (t.b 6) cT (sv 0)))
 (af (aO (bP cx.hK cx.hu (aC (sv 1) (ag)) (ag)) (am (p6 cx.hK rfl (Or.inl rfl) (aC (aR (sv 1) (ag)) (b7 cx.hK rfl (t.b 0) (sv 2))))) (am (eX cx.hK rfl (Or.inl rfl) (aC (aR (sv 1) (ag)) (bj (b7 cx.hK rfl (t.b 0) (sv 2)) (ag))) (aC (aR (sv 1) (ag)) (mR (ag) (ag))))))
 (am (cw rfl (Or.inl rfl)))))
theorem zB:OkF pt hA P w K mg base 9 35 xq:=okC 35 t fun _ _ _ _ _ _ cx nd =>
 (af (bc nd (a_ 0 t cx (sv 0)))
 (af (bc nd (aC (sv 3) (ag)))
 (af (aO (SW.st (dG (bP cx.hK cx.hu (sv 5) (ag)) (dg (cU cx.hK (a_ 8 t cx (sv 0)))))) (am (bc nd (ag))) aG)
 (af (bc nd (aR (sv 3) (ag)))
 (af (bc nd (sv 2))
 (af (aO (bP cx.hK cx.hu (aC (aR (sv 3) (ag)) (ag)) (ag)) (am (bc nd (aP t (zM t hB tg) cx (aa (sv 4) (aa (a_ 8 t cx (sv 0)) (aa (sv 2) (aa (sv 6) ai))))))) aG)
 (af (aO (bP cx.hK cx.hu (sv 5) (ag)) (am (aK (aP t (n8 t hB tg) cx (aa (ag) (aa (sv 0) (aa (sv 1) (aa (bj (v3 (eO (aa (f8 (aa (ag) (aa (ag) ai))) ai)) (aC (aR (sv 6) (ag)) (ag))) (eO (aa (f8 (aa (aP t (kC t hB tg) cx (aa (sv 4) (aa (sv 6) ai))) (aa (ag) ai))) ai))) (aa (sv 2) ai)))))))) aG)
 (af (aO (SW.st (dG (bP cx.hK cx.hu (aC (aR (sv 3) (ag)) (ag)) (ag)) (dg (fT cx.hK cx.hu (sv 7) (sv 2))))) (am (aK (aP t (n8 t hB tg) cx (aa (sv 5) (aa (sv 0) (aa (sv 1) (aa (eO (aa (f8 (aa (aC (sv 6) (sv 4)) (aa (aC (sv 6) (mR (ag) (ag))) ai))) ai)) (aa (sv 7) ai)))))))) aG)
 (af (aO (SW.st (dG (bP cx.hK cx.hu (sv 5) (ag)) (dg (bP cx.hK cx.hu (aC (aR (sv 6) (ag)) (ag)) (ag))))) (af (bc nd (eO (aa (f8 (aa (aP t (kC t hB tg) cx (aa (sv 4) (aa (aR (sv 6) (ag)) ai))) (aa (ag) ai))) (aa (f8 (aa (aC (sv 6) (sv 4)) (aa (ag) ai))) ai))))
 (am (aK (aP t (n8 t hB tg) cx (aa (ag) (aa (sv 0) (aa (sv 1) (aa (sv 8) (aa (sv 7) ai))))))))) aG)
 (am (aK (aP t (n8 t hB tg) cx (aa (sv 5) (aa (sv 0) (aa (aP t (zJ t hB tg) cx (aa (sv 1) (aa (sv 6) ai))) (aa (eO ai) (aa (sv 7) ai)))))))))))))))))
theorem wV:OkF pt hA P w K mg base 10 36 vD:=okC 36 t fun _ _ _ _ _ _ cx nd =>
 (af (bc nd (aP t (qH t hB tg) cx (aa (sv 0) (aa (ag) ai))))
 (af (bc nd (bj (ag) (aC (sv 1) (ag))))
 (af (bc nd (v_ 4 t (zI t hB tg) cx (aa (sv 2) (aa (bj (sv 2) (aC (aR (sv 1) (ag)) (ag))) ai))))
 (af (aO (bP cx.hK cx.hu (aC (aR (sv 1) (ag)) (ag)) (ag)) (am (bc nd (v_ 2 t (zG t hB tg) cx (aa (v_ 3 t (wS t hB tg) cx (aa (sv 2) (aa (aP t (wT t hB tg) cx (aa (sv 2) (aa (aP t (qH t hB tg) cx (aa (sv 0) (aa (ag) ai))) ai))) ai))) (aa (aC (aR (sv 1) (ag)) (sv 2)) ai))))) aG)
 (af (bc nd (aP t (vn t hB tg) cx (aa (aP t (qH t hB tg) cx (aa (sv 0) (aa (ag) ai))) (aa (sv 2) ai))))
 (af (fq ["_law_number"] cx nd (cA cx.hK (iA cx.hK (sv 4) kq (kn (bj (ag) (aC (aR (sv 1) (ag)) (ag)))))) eH (fun _ _ _ _ nd=>⟨(sgN nd),cu,(aP t (zN t hB tg) cx.comp (aa (sv 0) (aa (a_ 8 t cx.comp (sv 1)) (aa (sv 2) ai))))⟩))
 (af (bc nd (aP t (kE t hB tg) cx (aa (sv 3) (aa (cR cx.hK rfl (t.b 6) cT (sv 4)) (aa (g_ ["_law_named"] cx (cA cx.hK (sv 5)) eH (fun _ _ _ _ nd=>⟨(sgN nd),cu,(cR cx.comp.hK rfl (t.b 6) cT (sv 0))⟩)) ai)))))
 (af (cz cx.po cx.calm (fC cx.hK (iA cx.hK (sv 0) (kn (ag)) kq)) (sgN nd) (af (bc nd (aP t (zB t hB tg) cx (aa (sv 3) (aa (sv 4) (aa (sv 5) (aa (sv 7) ai))))))
 (af (bc nd ((iC (y2 (aC (sv 7) (ag)) (ag)) (iC (jK cx.hK cx.hu (aC (aR (sv 7) (ag)) (ag)) (ag)) (fD (jK cx.hK cx.hu (aC (aR (sv 7) (ag)) (ag)) (ag)))))))
 (af (aO (fT cx.hK cx.hu (sv 8) (f8 (aa (qc (sv 9)) (aa (sv 9) (aa (ly) ai))))) (am (aK (ly))) aG)
 (am (aO (fT cx.hK cx.hu (aP t (kE t hB tg) cx (aa (sv 3) (aa (cR cx.hK rfl (t.b 6) cT (sv 4)) (aa (g_ ["_law_named"] cx (cA cx.hK (sv 5)) eH (fun _ _ _ _ nd=>⟨(sgN nd),cu,(cR cx.comp.hK rfl (t.b 6) cT (sv 0))⟩)) ai)))) (sv 6)) (am (aK (ly))) aG))))))
 (am (aK (jK cx.hK cx.hu (aP t (m7 t hB tg) cx (aa (sv 4) (aa (eO ai) ai))) (sv 4))))))))))))
end
end G
namespace G
open PySem L2 PR
def mW(n k:Int)(h1:k<=n)(h2:n<=10):xr [.int n,.int k]=.ok .non:=by
 refine jN (e:=[some (.int n),some (.int k)]) ?_
 show xU [some (.int n),some (.int k)]=_
 unfold xU
 exact bp (by simp;rw[if_neg (by omega),decide_eq_false (by omega)]) aw
def m6{fl:Fl}{n:Nat}{ws:List (Int×Int)}(g:yj n ws)(hf:fl.lend=fl)(hl:fl.isLnt=false):xA [.int n,.lst fl (prL ws)]=.ok (.lst .own (prL (bK (ws.map mm)))):=by
 refine aH (v:=.lst .own (prL (bK (ws.map mm)))) ?_
 show yc [some (.int n),some (.lst fl (prL ws)),none,none,none]=_
 unfold yc
 refine ah (az (v:=.lst .own []) (by simp) (by simp) rfl) ?_
 simp only[s0_,s1_]
 refine nQ (fun k e=>∃c d,e=[some (.int n),some (.lst fl (prL ws)),some (.lst .own (prL ((ws.take k).map mm))),c,d]) (xs:=prL ws) (cV (by simp[hf]) hl (by simp) (by simp)) ⟨_,_,rfl⟩ (fun k x e hx hP=>?_) (fun e hP=>?_)
 ·obtain⟨c,d,rfl⟩:=hP
  rw[tV]at hx
  obtain⟨w,hw,rfl⟩:∃w,ws[k]?=some w/\x=prV w:=by
   cases e:ws[k]? with
   | none=>rw[e]at hx;cases hx
   | some w=>rw[e]at hx;cases hx;exact⟨w,rfl,rfl⟩
  have hk:k < ws.length:=(List.getElem?_eq_some_iff.mp hw).1
  obtain⟨r1,r2,r3,r4,r5⟩:=g.rg w (List.mem_of_getElem? hw)
  have hn:((ws.take k).map mm).contains (mm w)=false:=by
   rw[Bool.eq_false_iff]
   intro z
   have z':mm w ∈(ws.take k).map mm:=by simpa using z
   have nd:=g.nd
   rw[<- List.take_append_drop k ws,List.map_append,List.nodup_append]at nd
   refine nd.2.2 _ z' (mm w) (List.mem_map_of_mem ?_) rfl
   rw[List.drop_eq_getElem_cons hk]
   obtain⟨_,e⟩:=List.getElem?_eq_some_iff.mp hw
   rw[e]
   exact List.mem_cons_self
  have hn':mm w ∉(ws.map mm).take k:=by
   rw[<- List.map_take]
   simpa using hn
  have ht:(ws.take (k+1)).map mm=(ws.take k).map mm++[mm w]:=by rw[List.take_add_one,hw];simp
  have hz:=g.sz
  refine⟨_,bZ rfl,cF (az (v:=prV (mm w)) (by simp[p1,ki,mm]) (by simp) rfl) ?_⟩
  simp only[s0_,s1_]
  refine cF (bp (by simp[mm];rw[if_neg (by omega),decide_eq_false (by omega)]) aw) ?_
  refine cF (bp (by simp[mm];omega) aw) ?_
  refine cF (bp (by simp only[oz,ic,eC];simp[hn']) aw) ?_
  refine bM (cP (v:=prV (mm w)) (xs:=prL ((ws.take k).map mm)) (by simp) rfl (by simp) (by simp;omega)) ⟨some (prV w),some (prV (mm w)),?_⟩
  simp only[s0_,s1_]
  rw[ht,<- tW]
  rfl
 ·obtain⟨c,d,rfl⟩:=hP
  refine bF ?_ (by simp)
  have e:ws.take (prL ws).length=ws:=by rw[il,List.take_length]
  simp only[e]
  simp[p1,mJ (f:=.lnt) (ps:=ws.map mm) (by simpa using g.sz) g.nd]
def gZ(a:Int):∀(ps:List (Int×Int)),(∀x∈ps,x.1≠x.2)->(ps.filter fun x=>decide (x.2=a)).length+(ps.filter fun x=>decide (x.1=a)).length<=ps.length
 | [],_=>Nat.le_refl _
 | x::ps,h=>by
  have:=gZ a ps fun y hy=>h y (List.mem_cons_of_mem _ hy)
  have hx:=h x List.mem_cons_self
  rw[List.filter_cons,List.filter_cons]
  by_cases h1:x.2=a
  ·have h2:x.1≠a:=fun z=>hx (z.trans h1.symm)
   simp[h1,h2];omega
  ·by_cases h2:x.1=a
   ·simp[h1,h2];omega
   ·simp[h1,h2];omega
def qL(ps:List (Int×Int))(a:Int)(h:ps.length < 64)(hne:∀x∈ps,x.1≠x.2):uD [.tup (prL ps),.int a]=.ok (.lst .own (iL (nbL ps a))):=by
 refine aH (v:=.lst .own (iL (nbL ps a))) ?_
 show xP [some (.tup (prL ps)),some (.int a),none,none]=_
 unfold xP
 refine ah (az (v:=.lst .own (iL ((ps.filter fun x=>decide (x.2=a)).map (·.1)))) ?_ (by simp) rfl) ?_
 ·refine bJ (xs:=prL ps) (by simp) (by simp;omega) ?_
  unfold iL prL
  rw[List.map_map]
  exact cH (a:=prV) (f:=PV.int ∘ Prod.fst) (p:=fun x=>decide (x.2=a)) ps fun x _=>⟨[some (.int a),some (prV x)],by simp[tgN,aY,cj],by simp,fun _=>⟨by simp,rfl,rfl⟩⟩
 simp only[s0_,s1_]
 refine ah (az (v:=.lst .own (iL ((ps.filter fun x=>decide (x.1=a)).map (·.2)))) ?_ (by simp) rfl) ?_
 ·refine bJ (xs:=prL ps) (by simp) (by simp;omega) ?_
  rw[show iL ((ps.filter fun x=>decide (x.1=a)).map (·.2))=(ps.filter fun x=>decide (x.1=a)).map (PV.int ∘ Prod.snd)from List.map_map ..]
  exact cH (a:=prV) (f:=PV.int ∘ Prod.snd) (p:=fun x=>decide (x.1=a)) ps fun x _=>⟨[some (.int a),some (prV x)],by simp[tgN,aY,cj],by simp,fun _=>⟨by simp,rfl,rfl⟩⟩
 simp only[s0_,s1_]
 refine bF ?_ (by simp)
 have h1:=gZ a ps hne
 simp only[iq,ip,ic,eC,kQ]
 simp[p1]
 rw[eQ (by decide) (by decide) (by simp;omega)]
 simp
 rw[oS _ (by simp;omega)]
 rfl
abbrev net(fl:Fl)(n:Nat)(ps:List (Int×Int)):PV:=.obj fl 3 [0,1,2] [.int n,.tup (prL ps),.tup ((List.range n).map fun k:Nat=>.tup (iL (nbL ps k)))]
@[simp] def AD{n:Nat}{ps:List (Int×Int)}{p:Fl->Bool}:hasL p ((List.range n).map fun k:Nat=>PV.tup (iL (nbL ps k)))=false:=by
 induction List.range n with
 | nil=>rfl
 | cons a l ih=>simp[hasL,PV.has,ih]
@[simp] def AC{n:Nat}{ps:List (Int×Int)}{g:Fl->Fl}:mapL g ((List.range n).map fun k:Nat=>PV.tup (iL (nbL ps k)))=(List.range n).map fun k:Nat=>PV.tup (iL (nbL ps k)):=by
 induction List.range n with
 | nil=>rfl
 | cons a l ih=>simp[mapL,PV.mapF,ih]
def pP{n:Nat}{ps:List (Int×Int)}{k:Nat}(hk:k < n):uE [net .bor n ps,.int k]=.ok (.lst .own (iL (nbL ps k))):=by
 refine aH (v:=.lst .own (iL (nbL ps k))) ?_
 show sm [some (net .bor n ps),some (.int k)]=_
 unfold sm
 refine bF ?_ (by simp)
 have e:aI (.tup ((List.range n).map fun k:Nat=>PV.tup (iL (nbL ps k)))) (.int k)=.ok (.tup (iL (nbL ps k))):=by
  have hk':((List.range n).map fun k:Nat=>PV.tup (iL (nbL ps k)))[k]?=some (.tup (iL (nbL ps k))):=by simp[hk]
  exact gS rfl hk' (by simp[PV.has])
 simp[av,bU,p1,cD,e,aQ]
def jq(ps:List (Int×Int))(i j:Nat):Prop:=((i:Int),(j:Int))∈ ps \/((j:Int),(i:Int))∈ ps
def xp{n r:Nat}{ps:List (Int×Int)}(hr:r < n)(hn:n<=10)(g:∀x∈ps,0<=x.1/\x.1 < n/\0<=x.2/\x.2 < n) :
  ∃far,ou [net .bor n ps,.int r]=.ok (.lst .own (iL far))/\nM n r (jq ps) far:=by
 have a0:av 0 (net .bor n ps)=.ok (.int n):=by simp[av,bU]
 have end_:∀e:En,(∃far a b c,e=[some (net .bor n ps),some (.int r),some (.lst .own (iL far)),a,b,c]/\Far n r (jq ps) n 0 (fun _=>False) far)->∃far,cm 2 e=.ret (.lst .own (iL far))/\nM n r (jq ps) far:=fun e ⟨far,a,b,c,he,F⟩=>⟨far,by subst he;exact du rfl,F.dist⟩
 let P:Nat->En->Prop:=fun s e=>∃far a b c,e=[some (net .bor n ps),some (.int r),some (.lst .own (iL far)),a,b,c]/\Far n r (jq ps) s 0 (fun _=>False) far
 have loop:∃e2,b_ (bS (ae (mUn (av 0) (ac 0)) ak)) (tgN 3)
   (b_ (bS (ae (mUn (av 0) (ac 0)) ak)) (tgN 4)
   (mBr (ar (mOp pEq (mOp aI (ac 2) (ac 4)) (ac 3)))
   (b_ (cL (dM bV (ac 0) (ae (ac 4) ak))) (tgN 5)
   (dL 2 (ac 5) (ao (iM min) (ae (mOp aI (ac 2) (ac 5)) (ae (mOp aZ (ac 3) (mC (.int (1)))) ak)))))
   aF)) [some (net .bor n ps),some (.int r),some (.lst .own (iL (((List.range n).map fun _=>(n:Int)).set r 0))),none,none,none]=.next e2/\P (cB 0 n).length e2:=by
  refine gu P (ce (n:=n) (by simp[a0]) (by omega)) ⟨_,_,_,_,rfl,Far.start hr (fun i hi=>?_) (by simp)⟩ (fun s x e hx hP=>?_)
  ·rw[rD _ (by simpa using hr)]
   simp[gt,hi]
  ·obtain⟨far,a,b,c,rfl,F⟩:=hP
   obtain⟨hs,rfl⟩:=dr hx
   suffices gY _ _ by
    obtain⟨e2,h1,h2⟩:=this
    exact⟨_,e2,bZ rfl,h1,h2⟩
   refine gT (fun k e=>∃far b c,e=[some (net .bor n ps),some (.int r),some (.lst .own (iL far)),some (.int (0+(s:Int))),b,c]/\Far n r (jq ps) s k (fun _=>False) far) (ce (n:=n) (by simp[a0]) (by omega)) ⟨_,_,_,rfl,F⟩ (fun k x e hx hP=>?_) (fun e hP=>?_)
   ·obtain⟨far,b,c,rfl,F⟩:=hP
    obtain⟨hk,rfl⟩:=dr hx
    have ix:∀ (f:Fl) (i:Nat),i < n->aI (.lst f (iL far)) (.int i)=.ok (.int (gt far i)):=fun f i hi=>dY _ (by omega) (by
     have:i < far.length:=by rw[F.len];exact hi
     simp[gt,this])
    refine⟨_,bZ rfl,?_⟩
    simp only[s0_,s1_]
    by_cases hv:gt far k=s
    ·refine j3 (by simp[ix _ k hk,hv]) ?_
     have nbs:∀o∈nbL ps k,∃j:Nat,o=j/\j < n/\jq ps j k:=fun o ho=>by
      rcases m8.mp ho with q | q
      ·have:=g _ q
       exact⟨o.toNat,by omega,by omega,.inl (by rw[show((o.toNat:Nat):Int)=o by omega];exact q)⟩
      ·have:=g _ q
       exact⟨o.toNat,by omega,by omega,.inr (by rw[show((o.toNat:Nat):Int)=o by omega];exact q)⟩
     refine gT (fun q e=>∃far c,e=[some (net .bor n ps),some (.int r),some (.lst .own (iL far)),some (.int (0+(s:Int))),some (.int (0+(k:Int))),c]/\Far n r (jq ps) s k (fun j=>(j:Int)∈(nbL ps k).take q) far/\gt far k=s) (xs:=iL (nbL ps k)) ?_ ⟨far,_,rfl,F.none (by simp),hv⟩ (fun q x e hx hP=>?_) (fun e hP=>?_)
     ·have bk:=pP (ps:=ps) hk
      refine cV (f:=.own) ?_ rfl (by simp) (by simp)
      simp[bV,bk,aM]
     ·obtain⟨far,c,rfl,F,hv⟩:=hP
      rw[rn]at hx
      obtain⟨o,ho,rfl⟩:∃o,(nbL ps k)[q]?=some o/\x=.int o:=by
       cases e:(nbL ps k)[q]? with
       | none=>rw[e]at hx;cases hx
       | some w=>rw[e]at hx;cases hx;exact⟨w,rfl,rfl⟩
      obtain⟨j,rfl,hj,aj⟩:=nbs o (List.mem_of_getElem? ho)
      have ix:∀ (f:Fl) (i:Nat),i < n->aI (.lst f (iL far)) (.int i)=.ok (.int (gt far i)):=fun f i hi=>dY _ (by omega) (by
       have:i < far.length:=by rw[F.len];exact hi
       simp[gt,this])
      obtain⟨F',hv'⟩:=F.relax hk hv hj aj hs
      refine⟨_,bZ rfl,bM (fY (v:=.int (min (gt far j) ((s:Int)+1))) (xs:=iL far) (j:=j) (n:=j) (by simp[ix _ j hj,iM]) rfl (by simp) (gm (by rw[bw,F.len];exact hj)) (by simp)) ⟨_,some (.int j),?_,?_,hv'⟩⟩
      ·rw[lL];rfl
      ·have e:∀i:Nat,((i:Int)∈(nbL ps k).take (q+1))=((i:Int)∈(nbL ps k).take q\/i=j):=fun i=>by
        rw[List.take_add_one,ho]
        simp
        exact or_congr_right ⟨fun h=>by omega,fun h=>by omega⟩
       simp only[e]
       exact F'
     ·obtain⟨far,c,rfl,F,hv⟩:=hP
      refine⟨far,_,_,rfl,F.close fun j hj a=>?_⟩
      rw[bw,List.take_length]
      exact m8.mpr (a.elim .inr .inl)
    ·refine j4 (by simp[ix _ k hk,hv]) (bM aw ⟨far,_,_,rfl,F.skip hv⟩)
   ·obtain⟨far,b,c,rfl,F⟩:=hP
    rw[bu]at F
    exact⟨far,_,_,_,rfl,F.next⟩
 obtain⟨e2,h1,h2⟩:=loop
 rw[bu]at h2
 obtain⟨far,h3,h4⟩:=end_ e2 h2
 refine⟨far,aH (v:=.lst .own (iL far)) ?_,h4⟩
 show sx [some (net .bor n ps),some (.int r),none,none,none,none]=_
 unfold sx
 refine ah (az (v:=.lst .own (iL ((List.range n).map fun _=>(n:Int)))) ?_ (by simp) rfl) ?_
 ·refine bJ (xs:=cB 0 n) (ce (n:=n) (by simp[a0]) (by omega)) (by rw[bu];omega) ?_
  rw[show iL ((List.range n).map fun _=>(n:Int))=(List.range n).map (fun _=>PV.int n)from by simp[iL]]
  exact bW (a:=fun k:Nat=>PV.int (0+(k:Int))) (f:=fun _=>PV.int n) (List.range n) fun k _=>⟨[some (net .bor n ps),some (.int (0+k))],by simp[tgN,aY,cj,PV.borrow],by simp[a0],rfl,rfl⟩
 simp only[s0_,s1_]
 refine ah (fY (v:=.int 0) (xs:=iL ((List.range n).map fun _=>(n:Int))) (j:=r) (n:=r) (by simp) rfl (by simp) (gm (by simpa using hr)) (by simp)) ?_
 rw[lL]
 exact ah h1 h3
def wX{far:List Int}{b:Int}(h:far≠[])(hb:∀x∈far,x < b):gh far < b:=hb _ (iS h).1
def uy{fl:Fl}{n:Nat}{ws:List (Int×Int)}(g:yj n ws)(h1:1<=n)(hn:n<=10)(hf:fl.lend.toBor=.bor\/fl.lend.toBor=.frz)(conn:∀S:Nat->Prop,S 0->(∀i < n,∀j < n,jq (bK (ws.map mm)) i j->S i->S j)->∀i < n,S i) :
  ow [.obj .own 3 [] [],.int n,.lst fl (prL ws)]=.ok (net .own n (bK (ws.map mm))):=by
 have hfl:fl.lend.toBor.lend=fl.lend.toBor:=by rcases hf with e | e<;>rw[e]<;>rfl
 have hfi:fl.lend.toBor.isLnt=false:=by rcases hf with e | e<;>rw[e]<;>rfl
 have o1:=m6 (fl:=fl.lend.toBor) g hfl hfi
 have rg:∀x∈bK (ws.map mm),0<=x.1/\x.1 < n/\0<=x.2/\x.2 < n/\x.1≠x.2:=fun x hx=>by
  obtain⟨w,hw,rfl⟩:=List.mem_map.mp ((bR _).mem_iff.mp hx)
  have:=g.rg w hw
  simp only[mm]
  omega
 have sz:(bK (ws.map mm)).length < 64:=by rw[(bR _).length_eq,List.length_map];exact g.sz
 generalize hps:bK (ws.map mm)=ps at *
 have nb:∀k:Nat,uD [.tup (prL ps),.int k]=.ok (.lst .own (iL (nbL ps k))):=fun k=>qL ps k sz fun x hx=>(rg x hx).2.2.2.2
 obtain⟨far,e1,D⟩:=xp (n:=n) (r:=0) (ps:=ps) (by omega) hn fun x hx=>⟨(rg x hx).1,(rg x hx).2.1,(rg x hx).2.2.1,(rg x hx).2.2.2.1⟩
 have hall:=D.all (by omega) conn
 have hne:far≠[]:=fun z=>by have:=D.len;rw[z]at this;simp at this;omega
 have hmx:gh far < n:=wX hne fun x hx=>by
  obtain⟨i,hi,rfl⟩:=List.getElem_of_mem hx
  have:=hall i (by rw[<- D.len];exact hi)
  simpa[gt,hi]using this
 refine eZ (e:=[some (net .own n ps),some (.int n),some (.lst fl (prL ws))]) ?_ rfl
 show sA [some (.obj .own 3 [] []),some (.int n),some (.lst fl (prL ws))]=_
 unfold sA
 have rf:=mW n 1 (by omega) (by omega)
 refine ah (gw (v:=.non) (by simp[rf,aM])) ?_
 refine ah (cN (v:=.int n) (ks:=[]) (vs:=[]) (by simp) rfl (by simp) rfl (by decide)) ?_
 simp only[s0_,s1_]
 refine ah (cN (v:=.tup (prL ps)) (ks:=[0]) (vs:=[.int n]) ?_ rfl (by simp) rfl (by decide)) ?_
 ·simp[o1,aM,p1,dw,aQ]
 simp only[s0_,s1_]
 refine ah (cN (v:=.tup ((List.range n).map fun k:Nat=>.tup (iL (nbL ps k)))) (ks:=[0,1]) (vs:=[.int n,.tup (prL ps)]) ?_ rfl (by simp) rfl (by decide)) ?_
 ·simp only[iq,ip,kQ]
  rw [bJ (xs:=cB 0 n) (ys:=(List.range n).map fun k:Nat=>.tup (iL (nbL ps k))) (ce (n:=n) (by simp) (by omega)) (by rw [bu];omega)
   (bW (a:=fun k:Nat=>PV.int (0+(k:Int))) (f:=fun k:Nat=>.tup (iL (nbL ps k))) (List.range n) fun k _=>⟨[some (.obj .bor 3 [0,1] [.int n,.tup (prL ps)]),some (.int (0+k))],by simp[tgN,aY,cj],by simp[av,bU,nb,aM,p1,dw,aQ],by simp[PV.has],by simp[PV.has]⟩)]
  simp[p1,dw,aQ]
 simp only[s0_,s1_]
 refine bp ?_ aw
 have hi:far.isEmpty=false:=by cases far with | nil=>exact absurd rfl hne | cons a l=>rfl
 have e2:ou [net .bor n ps,.int 0]=.ok (.lst .own (iL far)):=e1
 simp[e2,aM,p1,dS,aQ,hi]
 omega
def cell(ns:List Int)(k:Nat):Int:=ns.getD k 0
def u8{fl:Fl}(ns:List Int)(k:Nat)(h:Scr fl):jv [.lst fl (iL ns),.int k]=.ok (.int (cell ns k)):=by
 refine aH ?_
 show xQ [some (.lst fl (iL ns)),some (.int k)]=_
 unfold xQ cell
 by_cases hk:k < ns.length
 ·refine ee (dO (by simp[h.lend,hk]) (bF ?_ (by simp)))
  simp only[ic,eC]
  simp[h.lend]
  rw[dY ns (by omega) (n:=ns.getD k 0) (by simp[hk])]
  simp[hk]
 ·refine ah (bp (by simp[h.lend,hk]) aw) (bF (by simp[List.getElem?_eq_none (Nat.le_of_not_lt hk)]) (by simp))
def u6{n m r:Nat}{ws:List (Int×Int)}(Wh:dF n m ws)(hr:r < n)(S:Nat->Prop)(h0:S r)(hc:∀i < n,∀j < n,jq (bK (ws.map mm)) i j->S i->S j):∀i < n,S i:=fun i hi=>by
 have:=Wh.cn (fun x=>S x.toNat) (fun w hw=>?_) r i hr hi (by simpa using h0)
 ·simpa using this
 ·have rg:=Wh.rg w hw
  have hm:mm w∈bK (ws.map mm):=(bR _).mem_iff.mpr (List.mem_map_of_mem hw)
  have e1:((w.1.toNat:Nat):Int)=w.1:=by omega
  have e2:((w.2.toNat:Nat):Int)=w.2:=by omega
  have ad:jq (bK (ws.map mm)) w.1.toNat w.2.toNat:=by
   unfold jq
   rw[e1,e2]
   rcases Int.le_total w.1 w.2 with h | h
   ·left
    rw[show(w.1,w.2)=mm w by simp only[mm,Prod.mk.injEq];omega]
    exact hm
   ·right
    rw[show(w.2,w.1)=mm w by simp only[mm,Prod.mk.injEq];omega]
    exact hm
  exact⟨hc _ (by omega) _ (by omega) ad,hc _ (by omega) _ (by omega) (ad.elim .inr .inl)⟩
def fnd(ws:List (Int×Int))(a:Int):List Int:=ws.flatMap fun w=>(if w.1=a then [w.2]else [])++(if w.2=a then [w.1]else [])
def iO(c:Int)(m:Nat)(hm:m<=1000):∃l:List Int,uF [.int c,.int m]=.ok (.lst .own (iL l))/\l.length=m/\∀x∈l,0<=x/\x < 998244353:=by
 suffices hh:gX (xS [some (.int c),some (.int m),none,none,none]) (fun v=>∃l:List Int,v=.lst .own (iL l)/\l.length=m/\∀x∈l,0<=x/\x < 998244353) by
  obtain⟨v,h1,l,rfl,h2⟩:=hh
  exact⟨l,aH h1,h2⟩
 unfold xS
 have c1:=Int.emod_nonneg c (show(998244353:Int)≠ 0 by decide)
 have c2:=Int.emod_lt_of_pos c (show(0:Int) < 998244353 by decide)
 refine aL (az (v:=.int (c % 998244353)) (by simp[ay]) (by simp) rfl) ?_
 simp only[s0_,s1_]
 refine aL (az (v:=.lst .own []) (by simp) (by simp) rfl) ?_
 simp only[s0_,s1_]
 refine f9 (fun k e=>∃z l x4,e=[some (.int c),some (.int m),some (.int z),some (.lst .own (iL l)),x4]/\l.length=k/\k<=m/\(0<=z/\z < 998244353)/\∀x∈l,0<=x/\x < 998244353) (ce (n:=m) (by simp) (by omega)) ⟨c % 998244353,[],none,rfl,rfl,by omega,⟨c1,c2⟩,fun _ z=>nomatch z⟩ (fun k x e hx hP=>?_) (fun e hP=>?_)
 ·obtain⟨z,l,x4,rfl,hk,_,⟨z1,z2⟩,hl⟩:=hP
  obtain⟨hkm,rfl⟩:=dr hx
  have e1:iK (.int 2) (.int (k:Int))=.ok (.int (2 * (k:Int))):=kG (.inl ⟨by decide,by decide⟩)
  have e2:iK (.int 12553) (.int (k:Int))=.ok (.int (12553 * (k:Int))):=kG (.inl ⟨by decide,by decide⟩)
  have e3:iK (.int z) (.int (z+2 * (k:Int)+40503))=.ok (.int (z * (z+2 * (k:Int)+40503))):=kG (.inl ⟨by omega,by omega⟩)
  generalize hw:(z * (z+2 * (k:Int)+40503)+12553 * (k:Int)+1) % 998244353=w
  have w1:0<=w:=by rw[<- hw];exact Int.emod_nonneg _ (by decide)
  have w2:w < 998244353:=by rw[<- hw];exact Int.emod_lt_of_pos _ (by decide)
  refine⟨_,bZ rfl,?_⟩
  simp only[s0_,s1_]
  refine cF (az (v:=.int w) (by simp[e1,e2,e3,ay,hw]) (by simp) rfl) ?_
  simp only[s0_,s1_]
  refine bM (cP (v:=.int w) (xs:=iL l) (by simp) rfl (by simp) (by rw[bw];omega)) ⟨w,l++[w],_,by simp[iL];rfl,by simp[hk],by omega,⟨w1,w2⟩,fun x hx=>?_⟩
  rcases List.mem_append.mp hx with hx | hx
  ·exact hl x hx
  ·simp at hx;subst hx;exact⟨w1,w2⟩
 ·obtain⟨z,l,x4,rfl,hk,_,_,hl⟩:=hP
  rw[bu]at hk
  exact bq (du rfl) ⟨l,rfl,hk,hl⟩
def tri:Nat->Nat
 | 0=>0
 | k+1=>tri k+k
def nX{α:Type}(y:α)(xs:List α):PR.bH xs.length y xs=xs++[y]:=by simp[PR.bH]
def sK{n:Nat}(c:Int)(n1:1<=n)(n2:n<=10):∃ws:List (Int×Int),ox [.int n,.int c]=.ok (.lst .own (prL ws))/\dF n 55 ws:=by
 obtain⟨l,hl1,hl2,hl3⟩:=iO c n (by omega)
 suffices hh:gX (sC [some (.int n),some (.int c),none,none,none,none,none,none]) (fun v=>∃ws:List (Int×Int),v=.lst .own (prL ws)/\dF n 55 ws) by
  obtain⟨v,h1,ws,rfl,h2⟩:=hh
  exact⟨ws,aH h1,h2⟩
 unfold sC
 have np:(0:Int) < n:=by omega
 have gl:∀(f:Fl) (k:Nat),k < n->aI (.lst f (iL l)) (.int (k:Int))=.ok (.int (gt l k)):=fun f k hk=>by simpa using fM (f:=f) (cs:=l) (i:=k) (by omega) (by omega)
 refine aL (az (v:=.lst .own (iL l)) (by simp[hl1,aM]) (by simp) rfl) ?_
 simp only[s0_,s1_]
 refine aL (az (v:=.lst .own []) (by simp) (by simp) rfl) ?_
 simp only[s0_,s1_]
 refine f9 (fun k e=>∃od a,e=[some (.int n),some (.int c),some (.lst .own (iL l)),some (.lst .own (iL od)),a,none,none,none]/\od.Perm ((List.range k).map fun k:Nat=>(k:Int))) (ce (n:=n) (by simp) (by omega)) ⟨[],_,rfl,.refl _⟩ (fun k x e hx hP=>?_) (fun e hP=>?_)
 ·obtain⟨od,a,rfl,hp⟩:=hP
  obtain⟨hk,rfl⟩:=dr hx
  have hlen:od.length=k:=by simpa using hp.length_eq
  have b1:=Int.emod_nonneg (gt l k) (show(k:Int)+1≠0 by omega)
  have b2:=Int.emod_lt_of_pos (gt l k) (show(0:Int) <(k:Int)+1 by omega)
  refine⟨_,bZ rfl,bM (fg (v:=.int k) (xs:=iL od) (j:=gt l k % ((k:Int)+1)) (n:=(gt l k % ((k:Int)+1)).toNat) ?_ (by simp) rfl rfl rfl (by omega) (by rw[bw,hlen];omega) (by rw[bw];omega)) ⟨PR.bH (gt l k % ((k:Int)+1)).toNat (k:Int) od,some (.int (0+k)),?_,?_⟩⟩
  ·simp[gl _ k hk,ay (show(0:Int) <(k:Int)+1 by omega)]
  ·rw[kz];rfl
  ·refine(cC _ _ _).trans ((hp.cons _).trans ?_)
   rw[List.range_succ,List.map_append]
   exact(List.perm_append_singleton _ _).symm
 obtain⟨od,a,rfl,hp⟩:=hP
 rw[bu]at hp
 have hlen:od.length=n:=by simpa using hp.length_eq
 have hod:od.Nodup:=hp.symm.nodup (List.Pairwise.map _ (fun a b h z=>h (by omega)) List.nodup_range)
 have ix:∀ (f:Fl) (i:Nat),i < n->aI (.lst f (iL od)) (.int i)=.ok (.int (od.getD i 0)):=fun f i hi=>dY _ (by omega) (by
  have:i < od.length:=by rw[hlen];exact hi
  simp[this])
 refine aL (az (v:=.lst .own []) (by simp) (by simp) rfl) ?_
 simp only[s0_,s1_]
 refine f9 (fun q e=>∃ws a,e=[some (.int n),some (.int c),some (.lst .own (iL l)),some (.lst .own (iL od)),a,some (.lst .own (prL ws)),none,none]/\PR.la n od (q+1) ws) (xs:=cB 1 (n - 1)) ?_ ⟨[],_,rfl,PR.la.start hlen n1⟩ (fun q x e hx hP=>?_) (fun e hP=>?_)
 ·rw[tz (lo:=1) (hi:=n) (by simp) (by omega) (by omega)]
  rw[show((n:Int) - 1).toNat=n - 1 by omega]
 ·obtain⟨ws,a,rfl,T⟩:=hP
  obtain⟨hq,rfl⟩:=dr hx
  have lt:=T.ln
  have kp:(0:Int) < 1+(q:Int):=by omega
  have g1:∀f:Fl,aI (.lst f (iL l)) (.int (1+(q:Int)))=.ok (.int (gt l (q+1))):=fun f=>by
   have:=gl f (q+1) (by omega)
   rwa [show((q+1:Nat):Int)=1+(q:Int) by omega]at this
  have d16:aS (.int (gt l (q+1))) (.int 16)=.ok (.int (gt l (q+1) / 16)):=bC (by decide) (by decide)
  generalize gt l (q+1) / 16=z at d16
  have b1:=Int.emod_nonneg z (show(1:Int)+q≠0 by omega)
  have b2:=Int.emod_lt_of_pos z kp
  have i1:∀f:Fl,aI (.lst f (iL od)) (.int (1+(q:Int)))=.ok (.int (od.getD (q+1) 0)):=fun f=>by
   have:=ix f (q+1) (by omega)
   rwa [show((q+1:Nat):Int)=1+(q:Int) by omega]at this
  have i2:∀f:Fl,aI (.lst f (iL od)) (.int (z % (1+(q:Int))))=.ok (.int (od.getD (z % (1+(q:Int))).toNat 0)):=fun f=>by
   have:=ix f (z % (1+(q:Int))).toNat (by omega)
   rwa [show(((z % (1+(q:Int))).toNat:Nat):Int)=z % (1+(q:Int)) by omega]at this
  refine⟨_,bZ rfl,bM (cP (v:=prV (od.getD (q+1) 0,od.getD (z % (1+(q:Int))).toNat 0)) (xs:=prL ws) (by simp[i1,i2,g1,d16,ay kp,prV]) rfl (by simp) (by rw[il];omega)) ⟨ws++[(od.getD (q+1) 0,od.getD (z % (1+(q:Int))).toNat 0)],some (.int (1+(q:Int))),by simp[prL],?_⟩⟩
  rw[<- nX]
  exact T.more (j:=(z % (1+(q:Int))).toNat) hod (by omega) (by omega) (.inl rfl)
 obtain⟨ws,a,rfl,T⟩:=hP
 rw[bu,show n - 1+1=n by omega]at T
 have Wh:=T.whole hp
 have t10:∀k,k<=10->tri k<=45:=by decide
 refine f9 (fun k e=>∃ws a b d,e=[some (.int n),some (.int c),some (.lst .own (iL l)),some (.lst .own (iL od)),a,some (.lst .own (prL ws)),b,d]/\dF n (10+tri k) ws) (ce (n:=n) (by simp) (by omega)) ⟨ws,_,_,_,rfl,⟨Wh.rg,Wh.nd,Nat.le_trans Wh.ln n2,Wh.cn⟩⟩ (fun k x e hx hP=>?_) (fun e hP=>?_)
 ·obtain⟨ws,a,b,d,rfl,Wh⟩:=hP
  obtain⟨hk,rfl⟩:=dr hx
  refine⟨_,bZ rfl,?_⟩
  simp only[s0_,s1_,Int.zero_add]
  have tk:=t10 k (by omega)
  refine gT (fun j e=>∃ws b d,e=[some (.int n),some (.int c),some (.lst .own (iL l)),some (.lst .own (iL od)),some (.int k),some (.lst .own (prL ws)),b,d]/\dF n (10+tri k+j) ws) (ce (n:=k) (by simp) (by omega)) ⟨ws,_,_,rfl,Wh⟩ (fun j y e hy hP=>?_) (fun e hP=>?_)
  ·obtain⟨ws,b,d,rfl,Wh⟩:=hP
   obtain⟨hj,rfl⟩:=dr hy
   have wl:=Wh.ln
   have d512:aS (.int (gt l k)) (.int 512)=.ok (.int (gt l k / 512)):=bC (by decide) (by decide)
   have d8192:aS (.int (gt l k)) (.int 8192)=.ok (.int (gt l k / 8192)):=bC (by decide) (by decide)
   refine⟨_,bZ rfl,?_⟩
   simp only[s0_,s1_,Int.zero_add]
   obtain⟨m,hm⟩:∃m:Bool,eJ (mOp pEq (mOp aW (ac 1) (mC (.int (7)))) (mC (.int (3)))) ((eG (mOp pEq (mOp aW (mOp aZ (mOp aS (mOp aI (ac 2) (ac 4)) (mC (.int (512)))) (ac 6)) (ac 0)) (mC (.int (1)))) (mOp pEq (mOp aW (mOp aS (mOp aI (ac 2) (ac 4)) (mC (.int (8192)))) (mC (.int (3)))) (mC (.int (0)))))) [some (.int n),some (.int c),some (.lst .own (iL l)),some (.lst .own (iL od)),some (.int k),some (.lst .own (prL ws)),some (.int j),d]=.ok (.bl m):=by
    refine⟨decide (c % 7=3) ||(decide ((gt l k / 512+(j:Int)) % n=1)&&decide (gt l k / 8192 % 3=0)),?_⟩
    by_cases h7:c % 7=3
    ·simp[ay,h7,pOr]
    ·by_cases h8:(gt l k / 512+(j:Int)) % n=1
     ·simp[ay,ay np,h7,pOr,gl _ k hk,d512,d8192,h8,t_]
     ·simp[ay,ay np,h7,pOr,gl _ k hk,d512,d8192,h8,t_]
   refine cF (az (v:=.bl m) hm (by simp) rfl) ?_
   simp only[s0_,s1_]
   by_cases hc:m=true/\((j:Int),(k:Int))∉ ws/\((k:Int),(j:Int))∉ ws
   ·obtain⟨c1,c2,c3⟩:=hc
    refine j3 (by simp[ki,c1,c2,c3]) (bM (cP (v:=prV ((j:Int),(k:Int))) (xs:=prL ws) (by simp;rfl) rfl (by simp) (by rw[il];omega)) ⟨ws++[((j:Int),(k:Int))],some (.int j),some (.bl m),by simp[prL],?_⟩)
    rw[<- nX]
    exact Wh.more ⟨by omega,by omega⟩ ⟨by omega,by omega⟩ (by omega) c2 c3
   ·refine j4 ?_ (bM aw ⟨ws,some (.int j),some (.bl m),rfl,Wh.keep⟩)
    by_cases c1:m=true
    ·by_cases c2:((j:Int),(k:Int))∈ ws
     ·simp[ki,c1,c2]
     ·have c3:((k:Int),(j:Int))∈ ws:=by
       by_cases q:((k:Int),(j:Int))∈ ws
       ·exact q
       ·exact absurd ⟨c1,c2,q⟩ hc
      simp[ki,c1,c2,c3]
    ·simp[c1]
  ·obtain⟨ws,b,d,rfl,Wh⟩:=hP
   rw[bu]at Wh
   exact⟨ws,_,_,_,rfl,by rw[show 10+tri (k+1)=10+tri k+k by simp[tri];omega];exact Wh⟩
 ·obtain⟨ws,a,b,d,rfl,Wh⟩:=hP
  rw[bu]at Wh
  have tn:=t10 n n2
  exact bq (du rfl) ⟨ws,rfl,⟨Wh.rg,Wh.nd,by have:=Wh.ln;omega,Wh.cn⟩⟩
def oV:Option Int->PV
 | none=>.non
 | some s=>.int s
def oL(os:List (Option Int)):List PV:=os.map oV
@[simp] def Bb(os:List (Option Int)):(oL os).length=os.length:=by simp[oL]
@[simp] def Bc{p:Fl->Bool}{os:List (Option Int)}:hasL p (oL os)=false:=by
 induction os with
 | nil=>rfl
 | cons o os ih=>cases o<;>simpa[oL,oV,hasL,PV.has]using ih
@[simp] def Ba{g:Fl->Fl}{os:List (Option Int)}:mapL g (oL os)=oL os:=by
 induction os with
 | nil=>rfl
 | cons o os ih=>cases o<;>simpa[oL,oV,mapL,PV.mapF]using ih
@[simp] def Be{os:List (Option Int)}:PyData.canLayAll0 (dataL (oL os))=true:=by
 induction os with
 | nil=>rfl
 | cons o os ih=>cases o <;>(simp only[oL,List.map_cons,oV,dataL,PV.data,PyData.canLayAll0]at ih ⊢;rw[ih];rfl)
@[simp] def Bd{os:List (Option Int)}:PyData.depthAll (dataL (oL os))=0:=by
 induction os with
 | nil=>rfl
 | cons o os ih=>cases o <;>(simp only[oL,List.map_cons,oV,dataL,PV.data,PyData.depthAll]at ih ⊢;rw[ih];rfl)
def OkS(tp:Int)(os:List (Option Int)):Prop:=∀s,some s∈os->0<=s/\s < tp
def Fc(f:Fl):Prop:=f=.bor\/f=.frz
def Fc.le{f:Fl}(h:Fc f):f.lend=f:=by rcases h with rfl | rfl<;>rfl
def Fc.tb{f:Fl}(h:Fc f):f.toBor=f:=by rcases h with rfl | rfl<;>rfl
def Fc.bo{f:Fl}(h:Fc f):f.borrow=f:=by rcases h with rfl | rfl<;>rfl
def Fc.nl{f:Fl}(h:Fc f):f.isLnt=false:=by rcases h with rfl | rfl<;>rfl
def Fc.of{f:Fl}(h:Fc f\/f=.own):Fc f.borrow:=by
 rcases h with(rfl | rfl) | rfl
 ·exact .inl rfl
 ·exact .inr rfl
 ·exact .inl rfl
def nI{n:Nat}{ps:List (Int×Int)}{k:Nat}(hk:k < n):uE [net .frz n ps,.int k]=.ok (.lst .own (iL (nbL ps k))):=by
 refine aH (v:=.lst .own (iL (nbL ps k))) ?_
 show sm [some (net .frz n ps),some (.int k)]=_
 unfold sm
 refine bF ?_ (by simp)
 have e:aI (.tup ((List.range n).map fun k:Nat=>PV.tup (iL (nbL ps k)))) (.int k)=.ok (.tup (iL (nbL ps k))):=by
  have hk':((List.range n).map fun k:Nat=>PV.tup (iL (nbL ps k)))[k]?=some (.tup (iL (nbL ps k))):=by simp[hk]
  exact gS rfl hk' (by simp[PV.has])
 simp[av,bU,p1,cD,e,aQ]
abbrev lea(fl:Fl)(c:Nat)(n:Nat)(ps:List (Int×Int))(os:List (Option Int))(st tp:Int):PV:=.obj fl c [3,4,5,6,0,7,8] [.int tp,net .frz n ps,.tup (oL os),.int st,.int n,.int (tp+1),.bl true]
def n4{x:Int}(h1:1<=x)(h2:x<=10):uH [.int x]=.ok .non:=by
 refine gC ⟨[some (.int x)],?_⟩
 show xW [some (.int x)]=_
 unfold xW
 exact bp (by simp[show ¬x < 1 by omega,show ¬10 < x by omega]) aw
def mU{n:Nat}{ps:List (Int×Int)}{os:List (Option Int)}{tp:Int}{f gf:Fl}(hg:gf=.bor\/gf=.frz)(hf:f=.bor\/f=.frz)(hn:os.length=n)(ho:OkS tp os):xy [net gf n ps,.lst f (oL os),.int tp]=.ok .non:=by
 have hf1:f.lend=f:=by rcases hf with rfl | rfl<;>rfl
 have hf2:f.isLnt=false:=by rcases hf with rfl | rfl<;>rfl
 have hg1:gf.lend=gf:=by rcases hg with rfl | rfl<;>rfl
 refine gC ?_
 show Ends (yb [some (net gf n ps),some (.lst f (oL os)),some (.int tp),none])
 unfold yb
 refine jb (bp (by simp[hf1,hg1,p1,b9,aQ,av,bU,hn]) aw) ?_
 refine kP (fun _ e=>∃x,e=[some (net gf n ps),some (.lst f (oL os)),some (.int tp),x]) (fun r=>∃e,r=.next e) (xs:=oL os) (cV (f:=f) (by simp[hf1]) hf2 (by simp) (by simp)) ⟨_,rfl⟩ (fun k x e hx hP=>?_) (fun e hP=>⟨e,rfl⟩)
 obtain⟨y,rfl⟩:=hP
 simp only[oL,List.getElem?_map]at hx
 obtain⟨o,ho1,rfl⟩:=Option.map_eq_some_iff.mp hx
 refine⟨_,bZ rfl,.inl ⟨_,.inl (bp ?_ aw),_,rfl⟩⟩
 cases o with
 | none=>simp[oV,fv,PV.isNon]
 | some s =>
  have:=ho s (List.mem_of_getElem? ho1)
  simp[oV,fv,PV.isNon,show ¬s < 0 by omega,show ¬tp<=s by omega]
def oX{cc n:Nat}{ps:List (Int×Int)}{os:List (Option Int)}{st tp:Int}:nD [.obj .own cc [3,4,5,6] [.int tp,net .frz n ps,.tup (oL os),.int st],.int n,.int (tp+1),.bl true]=.ok (lea .own cc n ps os st tp):=by
 refine eZ (e:=[some (lea .own cc n ps os st tp),some (.int n),some (.int (tp+1)),some (.bl true)]) ?_ rfl
 show sj [some (.obj .own cc [3,4,5,6] [.int tp,net .frz n ps,.tup (oL os),.int st]),some (.int n),some (.int (tp+1)),some (.bl true)]=_
 unfold sj
 refine ah (cN (v:=.int n) (ks:=[3,4,5,6]) (vs:=[.int tp,net .frz n ps,.tup (oL os),.int st]) (by simp) rfl (by simp) rfl (by decide)) ?_
 refine ah (cN (v:=.int (tp+1)) (ks:=[3,4,5,6,0]) (vs:=[.int tp,net .frz n ps,.tup (oL os),.int st,.int n]) (by simp) rfl (by simp) rfl (by decide)) ?_
 exact cN (v:=.bl true) (ks:=[3,4,5,6,0,7]) (vs:=[.int tp,net .frz n ps,.tup (oL os),.int st,.int n,.int (tp+1)]) (by simp) rfl (by simp) rfl (by decide)
def qZ{cc n:Nat}{ps:List (Int×Int)}{os:List (Option Int)}{st bk:Int}{f:Fl}(hf:f.lend.toBor=.bor\/f.lend.toBor=.frz)(h1:1<=st)(h2:st<=10)(h3:1<=bk)(h4:bk<=10)(hn:os.length=n)(ho:OkS (st * bk) os):uN [.obj .own cc [] [],net .frz n ps,.lst f (oL os),.int st,.int bk]=.ok (lea .own cc n ps os st (st * bk)):=by
 refine eZ (e:=[some (lea .own cc n ps os st (st * bk)),some (net .frz n ps),some (.lst f (oL os)),some (.int st),some (.int bk)]) ?_ rfl
 show yg [some (.obj .own cc [] []),some (net .frz n ps),some (.lst f (oL os)),some (.int st),some (.int bk)]=_
 unfold yg
 have r1:=n4 h1 h2
 have r2:=n4 h3 h4
 have r3:=mU (ps:=ps) (gf:=.frz) (.inr rfl) hf hn ho
 have mu:iK (.int st) (.int bk)=.ok (.int (st * bk)):=kG (.inl ⟨by omega,by omega⟩)
 generalize st * bk=tp at *
 refine ah (gw (v:=.non) (by simp[r1,aM])) ?_
 refine ah (gw (v:=.non) (by simp[r2,aM])) ?_
 refine ah (cN (v:=.int tp) (ks:=[]) (vs:=[]) (by simp[mu]) rfl (by simp) rfl (by decide)) ?_
 simp only[s0_,s1_]
 refine ah (gw (v:=.non) (by simp[av,bU,r3,aM])) ?_
 refine ah (i_ (v:=net .frz n ps) rfl) ?_
 simp only[s0_,s1_]
 refine ah (cN (v:=net .frz n ps) (ks:=[3]) (vs:=[.int tp]) (by simp[PV.mapF,Fl.freeze]) rfl (by simp[PV.noLnt,PV.has]) rfl (by decide)) ?_
 simp only[s0_,s1_]
 refine ah (cN (v:=.tup (oL os)) (ks:=[3,4]) (vs:=[.int tp,net .frz n ps]) (by simp[p1,dw,aQ]) rfl (by simp[PV.noLnt,PV.has]) rfl (by decide)) ?_
 simp only[s0_,s1_]
 refine ah (cN (v:=.int st) (ks:=[3,4,5]) (vs:=[.int tp,net .frz n ps,.tup (oL os)]) (by simp) rfl (by simp) rfl (by decide)) ?_
 simp only[s0_,s1_]
 have:=mI (env:=[some (.obj .own cc [3,4,5,6] [.int tp,net .frz n ps,.tup (oL os),.int st]),some (net .frz n ps),some (.lst f (oL os)),some (.int st),some (.int bk)]) (m:=nD) (ms:=ae (mUn (av 0) (ac 1)) (ae (mOp aZ (mUn (av 3) (ac 0)) (mC (.int (1)))) (ae (mC (.bl true)) ak))) (xs:=[.int n,.int (tp+1),.bl true]) rfl (by simp[av,bU]) (by simp) (by simpa using oX (cc:=cc) (n:=n) (ps:=ps) (os:=os) (st:=st) (tp:=tp)) (by simp[PV.has])
 simpa[PV.mapF,Fl.freeze]using this
def n_(st tp c:Int):Bool:=decide (c≠tp)&&decide ((c+1) % st≠0)
def kF(ps:List (Int×Int))(st tp:Int)(cs:List Int)(i:Nat):List Int:=(((nbL ps i).map fun o=>gt cs o.toNat).filter (n_ st tp)).map (· + 1)
def nG(ps:List (Int×Int))(os:List (Option Int))(st tp:Int)(cs:List Int)(i:Nat):Int:=fk (kF ps st tp cs i ++(os.getD i none).toList++[tp])
def nY{f:Fl}{l:List Int}(h:l≠[]):dS fk (.lst f (iL l))=.ok (.int (fk l)):=by
 unfold dS
 simp only[aQ,gP]
 rw[if_neg (by simpa using h)]
def qJ{cc n:Nat}{ps:List (Int×Int)}{os:List (Option Int)}{st tp c:Int}(hs:0 < st):rO [lea .bor cc n ps os st tp,.int c]=.ok (.bl (n_ st tp c)):=by
 refine aH ?_
 show yh [some (lea .bor cc n ps os st tp),some (.int c)]=_
 unfold yh n_
 refine bF ?_ (by simp)
 by_cases h:c=tp
 ·simp[av,bU,h]
 ·simp[av,bU,h,ay hs]
def q9{fc:Fl}(hfc:Fc fc){cc n:Nat}{ps:List (Int×Int)}{os:List (Option Int)}{st tp:Int}{cs:List Int}{i:Nat}(hcc:cG cc=some rO)(hnb:∀x∈nbL ps i,0<=x/\x < n)(hl:(nbL ps i).length<=1000)(hs:0 < st)(hn:cs.length=n)(ho:os.length=n)(hi:i < n):uM [lea .bor cc n ps os st tp,.lst fc (iL cs),.int i]=.ok (.int (nG ps os st tp cs i)):=by
 refine aH ?_
 show yf [some (lea .bor cc n ps os st tp),some (.lst fc (iL cs)),some (.int i),none,none]=_
 unfold yf
 have e3:=hfc.bo
 have be:=nI (ps:=ps) hi
 have l1:((nbL ps i).map fun o=>gt cs o.toNat).length<=1000:=by simpa using hl
 refine ah (az (v:=.lst .own (iL ((nbL ps i).map fun o=>gt cs o.toNat))) ?_ (by simp) rfl) ?_
 ·refine bJ (xs:=iL (nbL ps i)) (by simp[av,bU,bV,be,aM]) (by rw[bw];omega) (jg (fun o=>gt cs o.toNat) _ fun x hx=>⟨[some (.lst fc (iL cs)),some (.int x)],by simp[tgN,aY,cj,e3],?_⟩)
  obtain⟨h1,h2⟩:=hnb x hx
  simp[hfc.le,fM (f:=fc) (cs:=cs) (i:=x) (by omega) (by omega)]
 simp only[s0_,s1_]
 have l2:(kF ps st tp cs i).length<=1000:=by
  unfold kF
  rw[List.length_map]
  exact Nat.le_trans (List.length_filter_le _ _) l1
 refine ah (az (v:=.lst .own (iL (kF ps st tp cs i))) ?_ (by simp) rfl) ?_
 ·unfold kF
  exact bJ (xs:=iL ((nbL ps i).map fun o=>gt cs o.toNat)) (by simp) (by rw[bw];omega) (ig (n_ st tp) (· + 1) _ fun x hx=>⟨[some (lea .bor cc n ps os st tp),some (.int x)],by simp[tgN,aY,cj],by simp[hcc,qJ hs,aM],fun _=>by simp⟩)
 simp only[s0_,s1_]
 have hio:i < os.length:=by omega
 have ix:aI (.tup (oL os)) (.int (i:Int))=.ok (oV os[i]):=gS rfl (by simp[oL,hio]) (by cases os[i]<;>rfl)
 have eg:os.getD i none=os[i]:=by simp[hio]
 unfold nG
 rw[eg]
 generalize os[i]=o at *
 generalize kF ps st tp cs i=of at *
 cases o with
 | none =>
  refine ah (bp (by simp[av,bU,ix,oV,fv,PV.isNon]) aw) (bF ?_ (by simp))
  have pl:aZ (.lst .lnt (iL of)) (.lst .own [.int tp])=.ok (.lst .own (iL (of++[tp]))):=by
   rw[eQ (by decide) (by decide) (by simp;omega)]
   simp[iL]
  simp[av,bU,pl,p1,nY (l:=of++[tp]) (by simp)]
 | some s =>
  refine ah (dO (by simp[av,bU,ix,oV,fv,PV.isNon]) (cP (v:=.int s) (xs:=iL of) (by simp[av,bU,ix,oV]) rfl (by simp) (by rw[bw];omega))) ?_
  simp only[s0_,s1_]
  rw[show iL of++[PV.int s]=iL (of++[s]) by simp[iL]]
  refine bF ?_ (by simp)
  have pl:aZ (.lst .lnt (iL (of++[s]))) (.lst .own [.int tp])=.ok (.lst .own (iL (of++[s]++ [tp]))):=by
   rw[eQ (by decide) (by decide) (by simp;omega)]
   simp[iL]
  have pm:=nY (f:=.own) (l:=of++[s]++ [tp]) (by simp)
  show _=Res.ok (PV.int (fk (of++[s]++ [tp])))
  generalize of++[s]=of2 at *
  simp[av,bU,pl,p1]
  exact pm
def fs(n r:Nat):List (Option Int):=(List.range n).map fun i=>if i=r then some 0 else none
def Ai{n r:Nat}:oL (fs n r)=(List.range n).map fun i=>oV (if i=r then some 0 else none):=by simp[oL,fs]
def rK{f:Fl}{n r:Nat}{ps:List (Int×Int)}(hf:f=.frz\/f=.own)(n1:1<=n)(n10:n<=10)(hr:r < n):uJ [.obj .own 2 [] [],net f n ps,.int r]=.ok (lea .own 2 n ps (fs n r) n n):=by
 refine eZ (e:=[some (lea .own 2 n ps (fs n r) n n),some (net .frz n ps),some (.int r),some (.lst .frz (oL (fs n r)))]) ?_ rfl
 show xY [some (.obj .own 2 [] []),some (net f n ps),some (.int r),none]=_
 unfold xY
 refine ah (bp (by simp[av,bU,show ¬(r:Int) < 0 by omega,show ¬(n:Int)<= r by omega]) aw) ?_
 refine ah (az (v:=.lst .own (oL (fs n r))) ?_ (by simp[PV.noLnt,PV.has]) rfl) ?_
 ·refine bJ (xs:=cB 0 n) (ce (n:=n) (by simp[av,bU]) (by omega)) (by rw[bu];omega) ?_
  rw[Ai]
  refine bW (a:=fun k:Nat=>PV.int (0+(k:Int))) (f:=fun i=>oV (if i=r then some 0 else none)) (List.range n) fun k hk=>⟨[some (.int r),some (.int (0+k))],by simp[tgN,aY,cj],?_,?_,?_⟩
  ·by_cases e:k=r
   ·simp[e,oV]
   ·simp[e,oV,show ¬(k:Int)=r by omega]
  ·by_cases e:k=r<;>simp[e,oV,PV.has]
  ·by_cases e:k=r<;>simp[e,oV,PV.has]
 simp only[s0_,s1_]
 refine ah (i_ (v:=.lst .own (oL (fs n r))) rfl) ?_
 simp only[s0_,s1_]
 refine ah (i_ (v:=net f n ps) rfl) ?_
 have efz:(net f n ps).mapF Fl.freeze=net .frz n ps:=by rcases hf with rfl | rfl<;>simp[PV.mapF,Fl.freeze]
 simp only[s0_,s1_,efz]
 have li:=qZ (cc:=2) (n:=n) (ps:=ps) (os:=fs n r) (st:=n) (bk:=1) (f:=.frz) (.inr rfl) (by omega) (by omega) (by decide) (by decide) (by simp [fs]) (fun s hs=>by
  simp only[fs,List.mem_map,List.mem_range]at hs
  obtain⟨i,_,e⟩:=hs
  split at e
  ·cases e;omega
  ·cases e)
 rw[Int.mul_one]at li
 have:=mI (env:=[some (.obj .own 2 [] []),some (net .frz n ps),some (.int r),some (.lst .frz (oL (fs n r)))]) (m:=uN) (ms:=ae (ac 1) (ae (ac 3) (ae (mUn (av 0) (ac 1)) (ae (mC (.int (1))) ak)))) (xs:=[net .frz n ps,.lst .frz (oL (fs n r)),.int n,.int 1]) rfl (by simp[av,bU,Fl.lend]) (by simp[PV.has]) (by simpa[Fl.toBor]using li) (by simp[PV.has])
 simpa[PV.mapF,Fl.freeze]using this
def InS(sp:Int)(cs:List Int):Prop:=∀c∈cs,0<=c/\c < sp
structure Rl(o:PV)(n:Nat)(sp:Int)(al:Bool)(D:List Int->Nat->Int):Prop where
 le:o.mapF Fl.lend=o
 tb:o.mapF Fl.toBor=o
 bo:o.mapF Fl.borrow=o
 a0:av 0 o=.ok (.int n)
 a7:av 7 o=.ok (.int sp)
 a8:av 8 o=.ok (.bl al)
 s0:0 < sp
 n1:1<=n
 n20:n<=20
 due:∀fc cs k,Fc fc->cs.length=n->InS sp cs->k < n->pf br (.ok [.lst fc (iL cs),.int k]) o=.ok (.int (D cs k))/\0<=D cs k/\D cs k < sp
 rd:∀r,pf bf r o=r.bind fun xs=>aA ib (o::xs)
 mv:∀r,pf aD r o=r.bind fun xs=>aA nE (o::xs)
 tu:∀r,pf bg r o=r.bind fun xs=>aA lQ (o::xs)
def mvR(n:Nat)(D:List Int->Nat->Int)(cs:List Int):List Int:=((List.range n).filter fun i=>decide (D cs i≠gt cs i)).map fun i:Nat=>(i:Int)
def stR(n:Nat)(D:List Int->Nat->Int)(cs nm:List Int):List Int:=(List.range n).map fun i:Nat=>if nm.contains (i:Int)then D cs i else gt cs i
def c9(n:Nat)(al:Bool)(nm:List Int):Prop:=nm.Nodup/\(∀x∈nm,0<=x/\x < n)/\(al=true->nm.length<=1)/\nm.length<=1000
section
variable{o:PV}{n:Nat}{sp:Int}{al:Bool}{D:List Int->Nat->Int}{cs nm:List Int}{f fn:Fl}
def p0(r:Rl o n sp al D)(hn:cs.length=n)(hc:InS sp cs)(nm:List Int):(stR n D cs nm).length=n/\InS sp (stR n D cs nm):=by
 refine⟨by simp[stR],fun c hc'=>?_⟩
 unfold stR at hc'
 obtain⟨i,hi,rfl⟩:=List.mem_map.mp hc'
 have hi:=List.mem_range.mp hi
 split
 ·exact(r.due .bor cs i (.inl rfl) hn hc hi).2
 ·exact hc _ (fL (by omega))
def ui:(mvR n D cs).length<=n:=by
 unfold mvR
 rw[List.length_map]
 have:=List.length_filter_le (fun i=>decide (D cs i≠gt cs i)) (List.range n)
 rwa [List.length_range]at this
def gG(r:Rl o n sp al D)(hf:Fc f\/f=.own)(hn:cs.length=n)(hc:InS sp cs):nE [o,.lst f (iL cs)]=.ok (.lst .own (iL (mvR n D cs))):=by
 have n20:=r.n20
 have fb:=Fc.of hf
 refine aH ?_
 show xR [some o,some (.lst f (iL cs))]=_
 unfold xR mvR
 refine bF ?_ (by simp)
 refine bJ (xs:=cB 0 n) (ce (n:=n) (by simp[r.le,r.a0]) (by omega)) (by rw[bu];omega) (jf (fun k=>decide (D cs k≠gt cs k)) (fun k=>(k:Int)) n fun k hk=>⟨[some o,some (.lst f.borrow (iL cs)),some (.int (0+k))],by simp[tgN,aY,cj,PV.borrow,r.bo],?_,fun _=>by simp⟩)
 generalize f.borrow=fc at *
 have gk:aI (.lst fc (iL cs)) (.int (k:Int))=.ok (.int (gt cs k)):=by simpa using fM (f:=fc) (cs:=cs) (i:=k) (by omega) (by omega)
 simp[r.le,fb.le,(r.due fc cs k fb hn hc hk).1,gk]
def oY(r:Rl o n sp al D)(hf:Fc fn)(hg:c9 n al nm):uG [o,.lst fn (iL nm)]=.ok .non:=by
 obtain⟨hd,hr,ha,hl⟩:=hg
 refine gC ?_
 show Ends (ss [some o,some (.lst fn (iL nm)),none])
 unfold ss
 refine jb (bp ?_ aw) ?_
 ·cases al with
  | false=>simp[r.le,r.a8]
  | true =>
   have:=ha rfl
   simp[r.le,r.a8]
   omega
 refine rQ (fun _ e=>∃x,e=[some o,some (.lst fn (iL nm)),x]) (xs:=iL nm) (cV (f:=fn) (by simp[hf.le]) hf.nl (by simp) (by simp)) ⟨_,rfl⟩ (fun k x e hx hP=>?_) (fun e hP=>?_)
 ·obtain⟨y,rfl⟩:=hP
  obtain⟨m,hm,rfl⟩:=kN hx
  obtain⟨h1,h2⟩:=hr m (List.mem_of_getElem? hm)
  refine⟨_,bZ rfl,bM (bp ?_ aw) ⟨_,rfl⟩⟩
  simp[r.le,r.a0,show ¬m < 0 by omega,show ¬(n:Int)<= m by omega]
 ·obtain⟨y,rfl⟩:=hP
  exact pK (bp (by simp[j0 hl,rX hd]) aw)
def Fc.call{f:Fl}(h:Fc f\/f=.own):Fc f.lend.toBor:=by
 rcases h with(rfl | rfl) | rfl
 ·exact .inl rfl
 ·exact .inr rfl
 ·exact .inl rfl
def oN(r:Rl o n sp al D)(hf:Fc f\/f=.own)(hfn:Fc fn\/fn=.own)(hn:cs.length=n)(hc:InS sp cs)(hg:c9 n al nm):lQ [o,.lst f (iL cs),.lst fn (iL nm)]=.ok (.lst .own (iL (stR n D cs nm))):=by
 have n20:=r.n20
 have fb:=Fc.of hf
 refine aH ?_
 show sr [some o,some (.lst f (iL cs)),some (.lst fn (iL nm))]=_
 unfold sr stR
 refine ah (gw (v:=.non) (by simp[r.le,r.tb,oY r (Fc.call hfn) hg,aM])) (bF ?_ (by simp))
 refine bJ (xs:=cB 0 n) (ce (n:=n) (by simp[r.le,r.a0]) (by omega)) (by rw[bu];omega) (pL 0 (fun i:Nat=>if nm.contains (i:Int)then D cs i else gt cs i) n fun k hk=>⟨[some (.lst fn.borrow (iL nm)),some o,some (.lst f.borrow (iL cs)),some (.int (0+k))],by simp[tgN,aY,cj,PV.borrow,r.bo],?_⟩)
 generalize f.borrow=fc at *
 have gk:∀f,aI (.lst f (iL cs)) (.int (k:Int))=.ok (.int (gt cs k)):=fun f=>by simpa using fM (f:=f) (cs:=cs) (i:=k) (by omega) (by omega)
 have dk:=(r.due fc cs k fb hn hc hk).1
 by_cases q:nm.contains (k:Int)=true
 ·simp only[q,if_true]
  simp at q
  simp[q,r.le,fb.le,dk,aM]
 ·simp only[q]
  simp at q
  simp[q,gk]
def dnR(n:Nat)(D:List Int->Nat->Int)(cs nm:List Int):List Int:=(mvR n D cs).filter fun a=>nm.contains a
def jO(r:Rl o n sp al D)(hf:Fc f)(hfn:Fc fn)(hn:cs.length=n)(hc:InS sp cs)(hg:c9 n al nm):ja [o,.lst f (iL cs),.lst fn (iL nm)]=.ok (.tup [.lst .own (iL (dnR n D cs nm)),.lst .own (iL (stR n D cs nm))]):=by
 have n20:=r.n20
 have ml:=ui (n:=n) (D:=D) (cs:=cs)
 refine aH ?_
 show mw [some o,some (.lst f (iL cs)),some (.lst fn (iL nm)),none,none]=_
 unfold mw
 refine ah (az (v:=.lst .own (iL (stR n D cs nm))) (by simp[r.le,r.tb,r.tu,hf.le,hf.tb,hfn.le,hfn.tb,oN r (.inl hf) (.inl hfn) hn hc hg,aM]) (by simp) rfl) ?_
 simp only[s0_,s1_]
 refine ah (az (v:=.lst .own (iL (dnR n D cs nm))) ?_ (by simp) rfl) ?_
 ·refine bJ (xs:=iL (mvR n D cs)) (by simp[r.le,r.tb,r.mv,hf.le,hf.tb,gG r (.inl hf) hn hc,aM]) (by simp;omega) ?_
  have:=ig (env:=cj [2] 1 [some o,some (.lst f (iL cs)),some (.lst fn (iL nm)),some (.lst .own (iL (stR n D cs nm))),none]) (g:=tgN 1) (mc:=ar (mOp pIn (ac 1) (ac 0))) (me:=ac 1) (fun a=>nm.contains a) (fun a=>a) (mvR n D cs) fun x hx=>⟨[some (.lst fn (iL nm)),some (.int x)],by simp[tgN,aY,cj,PV.borrow,hfn.bo],by simp,fun _=>by simp⟩
  unfold dnR
  rw[List.map_id']at this
  exact this
 ·simp only[s0_,s1_]
  rfl
def aX(f:Fl)(p:List Int×List Int):PV:=.tup [.lst f (iL p.1),.lst f (iL p.2)]
def fu(n:Nat)(D:List Int->Nat->Int):List Int->List (List Int)->List (List Int×List Int)
 | _,[]=>[]
 | cs,nm::tns=>(dnR n D cs nm,stR n D cs nm)::fu n D (stR n D cs nm) tns
def lA{p:Fl->Bool}(h:p f=false)(ps:List (List Int×List Int)):hasL p (ps.map (aX f))=false:=by
 induction ps with
 | nil=>simp
 | cons a l ih=>simp[ih,aX,h]
@[simp] def zb{g:Fl->Fl}(ps:List (List Int×List Int)):mapL g (ps.map (aX f))=ps.map (aX (g f)):=by
 induction ps with
 | nil=>simp
 | cons a l ih=>simp[ih,aX]
def nV{rs:List Int}(r:Rl o n sp al D)(hn:rs.length=n):ib [o,.lst f (iL rs)]=.ok (.lst .own (iL (rs.map (· % sp)))):=by
 have n20:=r.n20
 refine aH ?_
 show my [some o,some (.lst f (iL rs))]=_
 unfold my
 refine ah (bp (by simp[r.le,r.a0,hn]) aw) (bF ?_ (by simp))
 refine bJ (xs:=iL rs) (by simp) (by simp;omega) ?_
 exact jg (· % sp) rs fun x hx=>⟨[some o,some (.int x)],by simp[tgN,aY,cj,PV.borrow,r.bo],by simp[r.le,r.a7,ay r.s0]⟩
def m9{rs:List Int}(r:Rl o n sp al D):InS sp (rs.map (· % sp)):=fun c hc=>by
 obtain⟨x,_,rfl⟩:=List.mem_map.mp hc
 have:=r.s0
 exact⟨Int.emod_nonneg _ (by omega),Int.emod_lt_of_pos _ r.s0⟩
end
abbrev iF(f:Fl)(size span:Int):PV:=.obj f 4 [0,7,8] [.int size,.int span,.bl false]
def qr{size span:Int}(h1:2<=size)(h2:size<=20)(h3:size<=span):xu [.obj .own 4 [] [],.int size,.int span]=.ok (iF .own size span):=by
 refine eZ (e:=[some (iF .own size span),some (.int size),some (.int span)]) ?_ rfl
 show x_ [some (.obj .own 4 [] []),some (.int size),some (.int span)]=_
 unfold x_
 refine ah (bp (by simp[show ¬size < 2 by omega,show ¬20 < size by omega]) aw) ?_
 refine ah (bp (by simp[show ¬span < size by omega]) aw) ?_
 have ri:nD [.obj .own 4 [] [],.int size,.int span,.bl false]=.ok (iF .own size span):=by
  refine eZ (e:=[some (iF .own size span),some (.int size),some (.int span),some (.bl false)]) ?_ rfl
  show sj [some (.obj .own 4 [] []),some (.int size),some (.int span),some (.bl false)]=_
  unfold sj
  refine ah (cN (v:=.int size) (ks:=[]) (vs:=[]) (by simp) rfl (by simp) rfl (by decide)) ?_
  refine ah (cN (v:=.int span) (ks:=[0]) (vs:=[.int size]) (by simp) rfl (by simp) rfl (by decide)) ?_
  exact cN (v:=.bl false) (ks:=[0,7]) (vs:=[.int size,.int span]) (by simp) rfl (by simp) rfl (by decide)
 have:=mI (env:=[some (.obj .own 4 [] []),some (.int size),some (.int span)]) (m:=nD) (ms:=ae (ac 1) (ae (ac 2) (ae (mC (.bl false)) ak))) (xs:=[.int size,.int span,.bl false]) rfl (by simp) (by simp) (by simpa using ri) (by simp[PV.has])
 simpa using this
def gW(sp:Int)(cs:List Int)(i:Nat):Int:=if i=0 then(if gt cs 0=gt cs (cs.length - 1)then(gt cs 0+1) % sp else gt cs 0)else gt cs (i - 1)
def t6{n:Nat}{sp:Int}{cs:List Int}{i:Nat}{fc:Fl}(hfc:Fc fc)(hn:cs.length=n)(hi:i < n)(hs:0 < sp):xt [iF .bor n sp,.lst fc (iL cs),.int i]=.ok (.int (gW sp cs i)):=by
 refine aH ?_
 show xZ [some (iF .bor n sp),some (.lst fc (iL cs)),some (.int i)]=_
 unfold xZ gW
 by_cases h0:i=0
 ·subst h0
  rw[if_pos rfl]
  have g0:aI (.lst fc (iL cs)) (.int 0)=.ok (.int (gt cs 0)):=fM (by omega) (by omega)
  have gl:aI (.lst fc (iL cs)) (.int ((n:Int) - 1))=.ok (.int (gt cs (cs.length - 1))):=by
   rw[fM (by omega) (by omega)]
   congr 3
   omega
  refine ah (bp (by simp) aw) ?_
  by_cases hc:gt cs 0=gt cs (cs.length - 1)
  ·rw[if_pos hc]
   exact ee (dO (by simp[av,bU,hfc.le,g0,gl,<- hc]) (bF (by simp[av,bU,hfc.le,g0,ay hs]) (by simp)))
  ·rw[if_neg hc]
   exact ah (bp (by simp[av,bU,hfc.le,g0,gl,hc]) aw) (bF (by simp[hfc.le,g0]) (by simp))
 ·rw[if_neg h0]
  have gl:aI (.lst fc (iL cs)) (.int ((i:Int) - 1))=.ok (.int (gt cs (i - 1))):=by
   rw[fM (by omega) (by omega)]
   congr 3
   omega
  exact ee (dO (by simp;omega) (bF (by simp[hfc.le,gl]) (by simp)))
def uV{n:Nat}{sp:Int}{cs:List Int}{i:Nat}(hn:cs.length=n)(hc:InS sp cs)(hi:i < n)(hs:0 < sp):0<=gW sp cs i/\gW sp cs i < sp:=by
 unfold gW
 split
 ·split
  ·exact⟨Int.emod_nonneg _ (by omega),Int.emod_lt_of_pos _ hs⟩
  ·exact hc _ (fL (by omega))
 ·exact hc _ (fL (by omega))
def tH{n:Nat}{sp:Int}(h1:1<=n)(h20:n<=20)(hs:0 < sp):Rl (iF .bor n sp) n sp false (gW sp) where
 le:=by simp
 tb:=by simp
 bo:=by simp
 a0:=by simp[av,bU]
 a7:=by simp[av,bU]
 a8:=by simp[av,bU]
 s0:=hs
 n1:=h1
 n20:=h20
 due:=fun fc cs k hfc hn hc hk=>⟨by simp[br,hfc.tb,t6 hfc hn hk hs,aM],uV hn hc hk hs⟩
 rd:=fun r=>by simp[bf]
 mv:=fun r=>by simp[aD]
 tu:=fun r=>by simp[bg]
def uW{n:Nat}{ps:List (Int×Int)}{os:List (Option Int)}{st tp:Int}{cs:List Int}{i:Nat}(ht:0<=tp)(ho:OkS tp os)(hn:cs.length=n)(hnb:∀x∈nbL ps i,0<=x/\x < n)(hc:∀c∈cs,0<=c):0<=nG ps os st tp cs i/\nG ps os st tp cs i<=tp:=by
 unfold nG
 obtain⟨m1,m2⟩:=iR (l:=kF ps st tp cs i ++(os.getD i none).toList++[tp]) (by simp)
 have h2:=m2 tp (by simp)
 generalize fk (kF ps st tp cs i ++(os.getD i none).toList++[tp])=M at *
 refine⟨?_,h2⟩
 rcases List.mem_append.mp m1 with q | q
 ·rcases List.mem_append.mp q with q | q
  ·unfold kF at q
   obtain⟨c,hc1,rfl⟩:=List.mem_map.mp q
   obtain⟨o,ho1,rfl⟩:=List.mem_map.mp (List.mem_filter.mp hc1).1
   have:=hnb o ho1
   have:=hc _ (fL (far:=cs) (i:=o.toNat) (by omega))
   omega
  ·have e:os.getD i none=some M:=by
    cases eo:os.getD i none with
    | none=>rw[eo]at q;cases q
    | some s=>rw[eo]at q;exact congrArg some (List.mem_singleton.mp q).symm
   have hm:some M∈os:=by
    rw[List.getD_eq_getElem?_getD]at e
    cases e2:os[i]? with
    | none=>rw[e2]at e;cases e
    | some x=>rw[e2]at e;rw[<- show x=some M from e];exact List.mem_of_getElem? e2
   exact(ho M hm).1
 ·have:=List.mem_singleton.mp q
  omega
def qj{cc n:Nat}{ps:List (Int×Int)}{os:List (Option Int)}{st tp:Int}(hcc:cc=2)(h1:1<=n)(h20:n<=20)(hst:0 < st)(ht:0<=tp)(ho:OkS tp os)(hol:os.length=n)(hnb:∀i:Nat,∀x∈nbL ps i,0<=x/\x < n)(hl:∀i,(nbL ps i).length<=1000):Rl (lea .bor cc n ps os st tp) n (tp+1) true (nG ps os st tp) where
 le:=by simp
 tb:=by simp
 bo:=by simp
 a0:=by simp[av,bU]
 a7:=by simp[av,bU]
 a8:=by simp[av,bU]
 s0:=by omega
 n1:=h1
 n20:=h20
 due:=fun fc cs k hfc hn hc hk=>by
  have d:=q9 (cc:=cc) (ps:=ps) (os:=os) (st:=st) (tp:=tp) (cs:=cs) (i:=k) hfc (by subst hcc;rfl) (hnb k) (hl k) hst hn hol hk
  have b:=uW (st:=st) (i:=k) ht ho hn (hnb k) fun c hc'=>(hc c hc').1
  refine⟨?_,b.1,by omega⟩
  subst hcc;simp[br,hfc.tb,d,aM]
 rd:=fun r=>by subst hcc;simp[bf]
 mv:=fun r=>by subst hcc;simp[aD]
 tu:=fun r=>by subst hcc;simp[bg]
def xb{n r:Nat}(h:1<=n):OkS n (fs n r):=fun s hs=>by
 simp only[fs,List.mem_map,List.mem_range]at hs
 obtain⟨i,_,e⟩:=hs
 split at e
 ·cases e;omega
 ·cases e
def fQ(n:Nat)(al:Bool)(nm:List Int):Prop:=(∃x∈nm,x < 0 \/(n:Int)<= x)\/ ¬nm.Nodup \/(al=true/\1 < nm.length)
section
variable{o:PV}{n:Nat}{sp:Int}{al:Bool}{D:List Int->Nat->Int}{cs nm:List Int}{f fn:Fl}
def oZ(r:Rl o n sp al D)(hf:Fc fn)(hb:fQ n al nm)(hl:nm.length<=1000):uG [o,.lst fn (iL nm)]=.exc 4:=by
 have key:∃e,ss [some o,some (.lst fn (iL nm)),none]=.exc 4 e:=by
  unfold ss
  by_cases ha:al=true/\1 < nm.length
  ·refine⟨_,bh (dO ?_ (dR (xs:=[.str "a rule that is alone gets one machine at a turn"]) rfl))⟩
   simp[r.le,r.a8,p1,b9,aQ,ha.1]
   omega
  have s1:∀(a b:MS),mBr (df (cM (mUn (av 8) (ac 0))) (ar (mOp pGt (ao (p1 b9) (ae (ac 1) ak)) (mC (.int 1))))) a aF [some o,some (.lst fn (iL nm)),none]=.next [some o,some (.lst fn (iL nm)),none]:=fun a b=>by
   refine bp ?_ aw
   cases al with
   | false=>simp[r.le,r.a8]
   | true =>
    simp[r.le,r.a8,p1,b9,aQ]
    have:¬1 < nm.length:=fun z=>ha ⟨rfl,z⟩
    omega
  suffices hh:∃e,aq (b_ (cL (ac 1)) (tgN 2) (mBr ((fm (ar (mOp pLt (ac 2) (mC (.int (0))))) (ar (mOp pGe (ac 2) (mUn (av 0) (ac 0)))))) (aN 4 (ae (mC (.str "a name is no machine")) ak)) aF))
    (mBr (ar (mOp pNe (mUn e6 (ac 1)) (ao (p1 b9) (ae (ac 1) ak)))) (aN 4 (ae (mC (.str "a machine is named twice")) ak)) aF) [some o,some (.lst fn (iL nm)),none]=.exc 4 e by
   obtain⟨e,h⟩:=hh
   exact⟨e,ah (s1 _ aF) h⟩
  by_cases hr:∃x∈nm,x < 0 \/(n:Int)<= x
  ·suffices h2:∃e,b_ (cL (ac 1)) (tgN 2) (mBr ((fm (ar (mOp pLt (ac 2) (mC (.int (0))))) (ar (mOp pGe (ac 2) (mUn (av 0) (ac 0)))))) (aN 4 (ae (mC (.str "a name is no machine")) ak)) aF) [some o,some (.lst fn (iL nm)),none]=.exc 4 e by
    obtain⟨e,h⟩:=h2
    exact⟨e,bh h⟩
   refine kP (fun k e=>(∀x∈nm.take k,¬(x < 0 \/(n:Int)<= x))/\∃y,e=[some o,some (.lst fn (iL nm)),y]) (fun o=>∃e,o=.exc 4 e) (xs:=iL nm) (cV (f:=fn) (by simp[hf.le]) hf.nl (by simp) (by simp)) ⟨by simp,_,rfl⟩ (fun k x e hx hP=>?_) (fun e hP=>?_)
   ·obtain⟨hk,y,rfl⟩:=hP
    obtain⟨m,hm,rfl⟩:=kN hx
    refine⟨_,bZ rfl,?_⟩
    simp only[s0_,s1_]
    by_cases hc:m < 0 \/(n:Int)<= m
    ·refine .inr (.inr (.inr ⟨4,_,dO ?_ (dR (xs:=[.str "a name is no machine"]) rfl),_,rfl⟩))
     rcases hc with hc | hc
     ·simp[r.le,r.a0,hc]
     ·by_cases h0:m < 0
      ·simp[r.le,r.a0,h0]
      ·simp[r.le,r.a0,h0,hc]
    ·refine .inl ⟨_,.inl (bp ?_ aw),fun x hx=>?_,_,rfl⟩
     ·simp[r.le,r.a0,show ¬m < 0 by omega,show ¬(n:Int)<= m by omega]
     ·rw[List.take_add_one,hm]at hx
      simp at hx
      rcases hx with hx | rfl
      ·exact hk x hx
      ·exact hc
   ·obtain⟨hk,y,rfl⟩:=hP
    obtain⟨x,hx,hc⟩:=hr
    exact absurd hc (hk x (by rw[show(iL nm).length=nm.length from bw _,List.take_length];exact hx))
  ·have hnd:¬nm.Nodup:=by
    rcases hb with hb | hb | hb
    ·exact absurd hb hr
    ·exact hb
    ·exact absurd hb ha
   have dt:=rV hnd
   suffices h2:∃y,b_ (cL (ac 1)) (tgN 2) (mBr ((fm (ar (mOp pLt (ac 2) (mC (.int (0))))) (ar (mOp pGe (ac 2) (mUn (av 0) (ac 0)))))) (aN 4 (ae (mC (.str "a name is no machine")) ak)) aF) [some o,some (.lst fn (iL nm)),none]=.next [some o,some (.lst fn (iL nm)),y] by
    obtain⟨y,h⟩:=h2
    refine⟨_,ah h (dO ?_ (dR (xs:=[.str "a machine is named twice"]) rfl))⟩
    simp[p1,b9,aQ,j0 hl]
    omega
   refine kP (fun _ e=>∃y,e=[some o,some (.lst fn (iL nm)),y]) (fun r=>∃y,r=.next [some o,some (.lst fn (iL nm)),y]) (xs:=iL nm) (cV (f:=fn) (by simp[hf.le]) hf.nl (by simp) (by simp)) ⟨_,rfl⟩ (fun k x e hx hP=>?_) (fun e hP=>?_)
   ·obtain⟨y,rfl⟩:=hP
    obtain⟨m,hm,rfl⟩:=kN hx
    have hc:¬(m < 0 \/(n:Int)<= m):=fun z=>hr ⟨m,List.mem_of_getElem? hm,z⟩
    refine⟨_,bZ rfl,.inl ⟨_,.inl (bp ?_ aw),_,rfl⟩⟩
    simp[r.le,r.a0,show ¬m < 0 by omega,show ¬(n:Int)<= m by omega]
   ·obtain⟨y,rfl⟩:=hP
    exact⟨y,rfl⟩
 obtain⟨e,h⟩:=key
 exact bL h
def oO(r:Rl o n sp al D)(hfn:Fc fn)(hb:fQ n al nm)(hl:nm.length<=1000):lQ [o,.lst f (iL cs),.lst fn (iL nm)]=.exc 4:=by
 refine bL (e:=[some o,some (.lst f (iL cs)),some (.lst fn (iL nm))]) ?_
 show sr [some o,some (.lst f (iL cs)),some (.lst fn (iL nm))]=_
 unfold sr
 refine bh (lX ?_)
 simp[r.le,r.tb,hfn.le,hfn.tb,oZ r hfn hb hl]
def jP(r:Rl o n sp al D)(hf:Fc f)(hfn:Fc fn)(hb:fQ n al nm)(hl:nm.length<=1000):ja [o,.lst f (iL cs),.lst fn (iL nm)]=.exc 4:=by
 refine bL (e:=[some o,some (.lst f (iL cs)),some (.lst fn (iL nm)),none,none]) ?_
 show mw [some o,some (.lst f (iL cs)),some (.lst fn (iL nm)),none,none]=_
 unfold mw
 refine bh (fX ?_)
 simp[r.le,r.tb,r.tu,hf.le,hf.tb,hfn.le,hfn.tb,oO r hfn hb hl]
def nW{rs:List Int}(r:Rl o n sp al D)(hn:rs.length≠n):ib [o,.lst f (iL rs)]=.exc 3:=by
 refine bL (e:=[some o,some (.lst f (iL rs))]) ?_
 show my [some o,some (.lst f (iL rs))]=_
 unfold my
 exact bh (dO (by simp[r.le,r.a0];omega) (dR (xs:=[.str "there are not as many registers as machines"]) rfl))
def jp{m:ME}{env:En}{i c:Nat}{xs:List PV}(ho:env[i]?=some (some (.lst .own xs)))(h:m env=.exc c):bE i m env=.exc c env:=by unfold bE;rw[h,ho]
@[simp] def BH{m:ME}{env:En}:mFz m env=(m env).bind fun v=>.ok (v.mapF Fl.freeze):=rfl
def rj{n:Nat}(h:0 < n):ixN n (-1)=some (n - 1):=by
 unfold ixN
 rw[if_neg (by decide),if_pos (by omega)]
 congr 1
 omega
def lK{f g:Fl}(hg:g.isOwn=false)(ps:List (List Int×List Int))(p:List Int×List Int):aI (.lst f (ps.map (aX g)++ [aX g p])) (.int (-1))=.ok (aX g p):=by
 unfold aI
 simp only[aQ,atI]
 rw[rj (by simp)]
 simp[aX,hg]
def nU{g:Fl}(hg:g.isOwn=false)(p:List Int×List Int):aI (aX g p) (.int 1)=.ok (.lst g (iL p.2)):=by
 exact gS (k:=1) rfl rfl (by simp[hg])
def rB:MS:=(aq (bE 4 (mFz (ao (aA ja) (ae (ac 0) (ae (ac 3) (ae (ac 5) ak))))))
 (aE 3 (mOp aI (mOp aI (ac 4) (mUn m4 (mC (.int (1))))) (mC (.int (1))))))
def ze(r:Rl o n sp al D)(hf:Fc f\/f=.own)(hfn:Fc fn)(hn:cs.length=n)(hc:InS sp cs)(hg:c9 n al nm){x1 x2:Option PV}{ps:List (List Int×List Int)}(hl:ps.length < 1000) :
  rB [some o,x1,x2,some (.lst f (iL cs)),some (.lst .own (ps.map (aX .frz))),some (.lst fn (iL nm))]=.next [some o,x1,x2,some (.lst .frz (iL (stR n D cs nm))),some (.lst .own ((ps++[(dnR n D cs nm,stR n D cs nm)]).map (aX .frz))),some (.lst fn (iL nm))]:=by
 have fc:=Fc.call hf
 have ro:=jO r fc hfn hn hc hg
 unfold rB
 refine ah (cP (v:=aX .frz (dnR n D cs nm,stR n D cs nm)) (xs:=ps.map (aX .frz)) ?_ rfl (by simp[aX]) (by simp;omega)) ?_
 ·simp[r.le,r.tb,hfn.le,hfn.tb,ro,aM,aX]
 simp only[s0_,s1_]
 have e:ps.map (aX .frz)++ [aX .frz (dnR n D cs nm,stR n D cs nm)]=(ps++[(dnR n D cs nm,stR n D cs nm)]).map (aX .frz):=by simp
 rw[e]
 have li:=lK (f:=.lnt) (g:=.frz) rfl ps (dnR n D cs nm,stR n D cs nm)
 rw[e]at li
 refine az (v:=.lst .frz (iL (stR n D cs nm))) ?_ (by simp) rfl
 generalize(ps++[(dnR n D cs nm,stR n D cs nm)])=qs at *
 simp[li,nU (g:=.frz) rfl]
def zf(r:Rl o n sp al D)(hf:Fc f\/f=.own)(hfn:Fc fn)(hb:fQ n al nm)(hl:nm.length<=1000){x1 x2:Option PV}{rows:List PV}:∃e,rB [some o,x1,x2,some (.lst f (iL cs)),some (.lst .own rows),some (.lst fn (iL nm))]=.exc 4 e:=by
 have ro:=jP (cs:=cs) r (Fc.call hf) hfn hb hl
 unfold rB
 refine⟨_,bh (jp (xs:=rows) rfl ?_)⟩
 simp[r.le,r.tb,hfn.le,hfn.tb,ro]
abbrev rL:PV->MS:=fun x e=>match tgN 5 x e with
 | some e'=>rB e'
 | none=>.stuck
def kJ(r:Rl o n sp al D)(hfn:Fc fn){x1 x2:Option PV}{aV:List PV}:∀(tns:List (List Int)) (f:Fl) (cs:List Int) (ps:List (List Int×List Int)) (x5:Option PV),Fc f\/f=.own->cs.length=n->InS sp cs->(∀nm∈tns,c9 n al nm)->ps.length+tns.length < 1000 ->
  ∃f' cs' y5,(Fc f'\/f'=.own)/\cs'.length=n/\da rL (llL fn tns++aV) [some o,x1,x2,some (.lst f (iL cs)),some (.lst .own (ps.map (aX .frz))),x5]=da rL aV [some o,x1,x2,some (.lst f' (iL cs')),some (.lst .own ((ps++fu n D cs tns).map (aX .frz))),y5]
 | [],f,cs,ps,x5,hf,hn,_,_,_=>⟨f,cs,x5,hf,hn,by simp[fu]⟩
 | nm::tns,f,cs,ps,x5,hf,hn,hc,hg,hl=>by
  obtain⟨h1,h2⟩:=p0 r hn hc nm
  rw[List.length_cons]at hl
  have b:=ze (x1:=x1) (x2:=x2) (ps:=ps) r hf hfn hn hc (hg nm List.mem_cons_self) (by omega)
  obtain⟨f',cs',y5,g1,g2,ih⟩:=kJ r hfn (x1:=x1) (x2:=x2) (aV:=aV) tns .frz (stR n D cs nm) (ps++[(dnR n D cs nm,stR n D cs nm)]) (some (.lst fn (iL nm))) (.inl (.inr rfl)) h1 h2 (fun m hm=>hg m (List.mem_cons_of_mem _ hm)) (by simp;omega)
  refine⟨f',cs',y5,g1,g2,?_⟩
  rw[dX,List.cons_append]
  conv=>lhs;unfold da
  have e5:rL (.lst fn (iL nm)) [some o,x1,x2,some (.lst f (iL cs)),some (.lst .own (ps.map (aX .frz))),x5]=rB [some o,x1,x2,some (.lst f (iL cs)),some (.lst .own (ps.map (aX .frz))),some (.lst fn (iL nm))]:=by
   show(match tgN 5 _ _ with | some e'=>rB e' | none=>.stuck)=_
   rw[bZ rfl]
   rfl
  rw[e5,b]
  dsimp only
  rw[ih]
  simp[fu]
def lz{rs:List Int}{tns:List (List Int)}{ft fi:Fl}(r:Rl o n sp al D)(ht:Fc ft.freeze)(hi:Fc fi.freeze)(hn:rs.length=n){R:Out->Prop}(h:R (aq (fun e=>da rL (llL fi.freeze tns) e) (cm 4) [some o,some (.lst f (iL rs)),some (.lst ft.freeze (llL fi.freeze tns)),some (.lst .own (iL (rs.map (· % sp)))),some (.lst .own []),none])) :
  R (ii [some o,some (.lst f (iL rs)),some (.lst ft (llL fi tns)),none,none,none]):=by
 have e:ii [some o,some (.lst f (iL rs)),some (.lst ft (llL fi tns)),none,none,none]=aq (fun e=>da rL (llL fi.freeze tns) e) (cm 4) [some o,some (.lst f (iL rs)),some (.lst ft.freeze (llL fi.freeze tns)),some (.lst .own (iL (rs.map (· % sp)))),some (.lst .own []),none]:=by
  unfold ii
  refine ah (az (v:=.lst .own (iL (rs.map (· % sp)))) (by simp[r.le,r.tb,r.rd,nV r hn,aM]) (by simp) rfl) ?_
  simp only[s0_,s1_]
  refine ah (az (v:=.lst .own []) (by simp) (by simp) rfl) ?_
  simp only[s0_,s1_]
  refine ah (i_ (v:=.lst ft (llL fi tns)) rfl) ?_
  simp only[s0_,s1_]
  have efz:(PV.lst ft (llL fi tns)).mapF Fl.freeze=.lst ft.freeze (llL fi.freeze tns):=by simp
  rw[efz]
  have ho:fi.freeze.isOwn=false:=by rcases hi with h | h<;>rw[h]<;>rfl
  have it:cL (ac 2) [some o,some (.lst f (iL rs)),some (.lst ft.freeze (llL fi.freeze tns)),some (.lst .own (iL (rs.map (· % sp)))),some (.lst .own []),none]=.ok (llL fi.freeze tns):=cV (f:=ft.freeze) (by simp[ht.le,hi.le]) ht.nl (bT _ _ _ ho) (bT _ _ _ hi.nl)
  unfold aq b_
  rw[it]
  rfl
 rw[e];exact h
def wb{rs:List Int}{tns:List (List Int)}{ft fi:Fl}(r:Rl o n sp al D)(ht:Fc ft.freeze)(hi:Fc fi.freeze)(hn:rs.length=n)(hg:∀nm∈tns,c9 n al nm)(hl:tns.length < 1000):eV [o,.lst f (iL rs),.lst ft (llL fi tns)]=.ok (.lst .own ((fu n D (rs.map (· % sp)) tns).map (aX .frz))):=by
 refine aH ?_
 show ii [some o,some (.lst f (iL rs)),some (.lst ft (llL fi tns)),none,none,none]=_
 refine lz (R:=fun x=>x=_) r ht hi hn ?_
 obtain⟨f',cs',y5,_,_,e⟩:=kJ r hi (x1:=some (.lst f (iL rs))) (x2:=some (.lst ft.freeze (llL fi.freeze tns))) (aV:=[]) tns .own (rs.map (· % sp)) [] none (.inr rfl) (by simpa using hn) (m9 r) hg (by simpa using hl)
 rw[List.append_nil]at e
 simp only[List.map_nil,List.nil_append]at e
 refine ah (e:=[some o,some (.lst f (iL rs)),some (.lst ft.freeze (llL fi.freeze tns)),some (.lst f' (iL cs')),some (.lst .own ((fu n D (rs.map (· % sp)) tns).map (aX .frz))),y5]) ?_ (du rfl)
 exact e
def qh{rs:List Int}{pre post:List (List Int)}{ft fi:Fl}(r:Rl o n sp al D)(ht:Fc ft.freeze)(hi:Fc fi.freeze)(hn:rs.length=n)(hg:∀nm∈pre,c9 n al nm)(hb:fQ n al nm)(hm:nm.length<=1000)(hl:pre.length < 1000):eV [o,.lst f (iL rs),.lst ft (llL fi (pre++nm::post))]=.exc 4:=by
 suffices h:∃e,ii [some o,some (.lst f (iL rs)),some (.lst ft (llL fi (pre++nm::post))),none,none,none]=.exc 4 e by
  obtain⟨e,h⟩:=h
  exact bL h
 refine lz (R:=fun x=>∃e,x=.exc 4 e) r ht hi hn ?_
 obtain⟨f',cs',y5,g1,g2,e⟩:=kJ r hi (x1:=some (.lst f (iL rs))) (x2:=some (.lst ft.freeze (llL fi.freeze (pre++nm::post)))) (aV:=llL fi.freeze (nm::post)) pre .own (rs.map (· % sp)) [] none (.inr rfl) (by simpa using hn) (m9 r) hg (by simpa using hl)
 rw[uu]at e
 simp only[List.map_nil]at e
 obtain⟨e2,b⟩:=zf (cs:=cs') (x1:=some (.lst f (iL rs))) (x2:=some (.lst ft.freeze (llL fi.freeze (pre++nm::post)))) (rows:=(([]++ fu n D (rs.map (· % sp)) pre).map (aX .frz))) r g1 hi hb hm
 refine⟨e2,bh ?_⟩
 show da rL _ _=_
 rw[e,dX]
 unfold da
 have e5:∀(L:PV),rL (.lst fi.freeze (iL nm)) [some o,some (.lst f (iL rs)),some L,some (.lst f' (iL cs')),some (.lst .own (([]++ fu n D (rs.map (· % sp)) pre).map (aX .frz))),y5]=rB [some o,some (.lst f (iL rs)),some L,some (.lst f' (iL cs')),some (.lst .own (([]++ fu n D (rs.map (· % sp)) pre).map (aX .frz))),some (.lst fi.freeze (iL nm))]:=fun L=>by
  show(match tgN 5 _ _ with | some e'=>rB e' | none=>.stuck)=_
  rw[bZ rfl]
  rfl
 rw[e5,b]
def jM{rs:List Int}{ts:PV}(r:Rl o n sp al D)(hn:rs.length≠n):eV [o,.lst f (iL rs),ts]=.exc 3:=by
 refine bL (e:=[some o,some (.lst f (iL rs)),some ts,none,none,none]) ?_
 show ii [some o,some (.lst f (iL rs)),some ts,none,none,none]=_
 unfold ii
 refine bh (fX ?_)
 simp[r.le,r.tb,r.rd,nW r hn]
end
section
variable{o:PV}{n:Nat}{sp:Int}{al:Bool}{D:List Int->Nat->Int}{cs nm:List Int}{f fn ft fi:Fl}
def uA{k:Nat}{mv:PV}{tns:List (List Int)}(hfi:Fc fi)(hft:Fc ft)(h:tns[k]?=some nm):lT [.int k,mv,.lst ft (llL fi tns)]=.ok (.lst .own (iL nm)):=by
 refine aH ?_
 show sD [some (.int k),some mv,some (.lst ft (llL fi tns))]=_
 unfold sD
 have ho:fi.isOwn=false:=by rcases hfi with h | h<;>rw[h]<;>rfl
 have ix:aI (.lst ft (llL fi tns)) (.int (k:Int))=.ok (.lst fi (iL nm)):=gS rfl (by simp[llL,h]) (by simp[ho])
 exact bF (by simp[hft.le,hfi.le,ix]) (by simp)
def dC:MT:=((df (ar (mOp pLt (ao (p1 b9) (ae (ac 5) ak)) (ac 3))) (ar (mOp pGt (ao (p1 b9) (ae (dM aD (ac 0) (ae (ac 4) ak)) ak)) (mC (.int (0)))))))
def dB:MS:=(aq (aE 6 (fI 2 99 lT (ae (ao (p1 b9) (ae (ac 5) ak)) (ae (dM aD (ac 0) (ae (ac 4) ak)) ak))))
 (aq (bE 5 (mFz (ao (aA ja) (ae (ac 0) (ae (ac 4) (ae (ac 6) ak))))))
 (aE 4 (mOp aI (mOp aI (ac 5) (mUn m4 (mC (.int (1))))) (mC (.int (1)))))))
def vG{x1 x2 x6:Option PV}{m:Int}{ps:List (List Int×List Int)}(r:Rl o n sp al D)(hf:Fc f\/f=.own)(hn:cs.length=n)(hc:InS sp cs)(hm:(ps.length:Int) < m)(mv:mvR n D cs≠[]) :
  dC [some o,x1,x2,some (.int m),some (.lst f (iL cs)),some (.lst .own (ps.map (aX .frz))),x6]=.ok true:=by
 have fc:=Fc.call hf
 have mo:=gG r (.inl fc) hn hc
 unfold dC
 have:0 <(mvR n D cs).length:=List.length_pos_iff.mpr mv
 simp[r.le,r.tb,r.mv,mo,aM,hm]
 omega
def oG{x1 x3 x6:Option PV}{ps:List (List Int×List Int)}{tns:List (List Int)}{aV:MS}(r:Rl o n sp al D)(hft:Fc ft)(hfi:Fc fi)(hf:Fc f\/f=.own)(hn:cs.length=n)(hc:InS sp cs)(ht:tns[ps.length]?=some nm) :
  aq (aE 6 (fI 2 99 lT (ae (ao (p1 b9) (ae (ac 5) ak)) (ae (dM aD (ac 0) (ae (ac 4) ak)) ak)))) aV [some o,x1,some (.box 99 [.lst ft (llL fi tns)]),x3,some (.lst f (iL cs)),some (.lst .own (ps.map (aX .frz))),x6]
   = aV [some o,x1,some (.box 99 [.lst ft (llL fi tns)]),x3,some (.lst f (iL cs)),some (.lst .own (ps.map (aX .frz))),some (.lst .own (iL nm))]:=by
 have fc:=Fc.call hf
 have mo:=gG r (.inl fc) hn hc
 have ho:ft.isOwn=false:=by rcases hft with h | h<;>rw[h]<;>rfl
 have ho2:fi.isOwn=false:=by rcases hfi with h | h<;>rw[h]<;>rfl
 have hd:=uA (mv:=.lst .own (iL (mvR n D cs))) hfi hft ht
 refine ah (az (v:=.lst .own (iL nm)) ?_ (by simp) rfl) rfl
 unfold fI
 have no:cW [PV.lst ft (llL fi tns)]=true:=by simp[cW,ho,hft.nl,bT _ _ _ ho2,bT _ _ _ hfi.nl]
 simp[no,r.le,r.tb,r.mv,mo,aM,hft.tb,hfi.tb,hd]
def Am{x1 x3 x6:Option PV}{ps:List (List Int×List Int)}{tns:List (List Int)}(r:Rl o n sp al D)(hft:Fc ft)(hfi:Fc fi)(hf:Fc f\/f=.own)(hn:cs.length=n)(hc:InS sp cs)(ht:tns[ps.length]?=some nm)(hg:c9 n al nm)(hl:ps.length < 1000) :
  dB [some o,x1,some (.box 99 [.lst ft (llL fi tns)]),x3,some (.lst f (iL cs)),some (.lst .own (ps.map (aX .frz))),x6]=.next [some o,x1,some (.box 99 [.lst ft (llL fi tns)]),x3,some (.lst .frz (iL (stR n D cs nm))),some (.lst .own ((ps++[(dnR n D cs nm,stR n D cs nm)]).map (aX .frz))),some (.lst .own (iL nm))]:=by
 unfold dB
 rw[oG r hft hfi hf hn hc ht]
 have fc:=Fc.call hf
 have ro:=jO r fc (.inl rfl) hn hc hg
 refine ah (cP (v:=aX .frz (dnR n D cs nm,stR n D cs nm)) (xs:=ps.map (aX .frz)) ?_ rfl (by simp[aX]) (by simp;omega)) ?_
 ·simp[r.le,r.tb,ro,aM,aX]
 simp only[s0_,s1_]
 have e:ps.map (aX .frz)++ [aX .frz (dnR n D cs nm,stR n D cs nm)]=(ps++[(dnR n D cs nm,stR n D cs nm)]).map (aX .frz):=by simp
 rw[e]
 have li:=lK (f:=.lnt) (g:=.frz) rfl ps (dnR n D cs nm,stR n D cs nm)
 rw[e]at li
 refine az (v:=.lst .frz (iL (stR n D cs nm))) ?_ (by simp) rfl
 generalize(ps++[(dnR n D cs nm,stR n D cs nm)])=qs at *
 simp[li,nU (g:=.frz) rfl]
def An{x1 x3 x6:Option PV}{ps:List (List Int×List Int)}{tns:List (List Int)}(r:Rl o n sp al D)(hft:Fc ft)(hfi:Fc fi)(hf:Fc f\/f=.own)(hn:cs.length=n)(hc:InS sp cs)(ht:tns[ps.length]?=some nm)(hb:fQ n al nm)(hm:nm.length<=1000) :
  ∃e,dB [some o,x1,some (.box 99 [.lst ft (llL fi tns)]),x3,some (.lst f (iL cs)),some (.lst .own (ps.map (aX .frz))),x6]=.exc 4 e:=by
 unfold dB
 rw[oG r hft hfi hf hn hc ht]
 have ro:=jP (cs:=cs) r (Fc.call hf) (.inl rfl:Fc .bor) hb hm
 refine⟨_,bh (jp (xs:=ps.map (aX .frz)) rfl ?_)⟩
 simp[r.le,r.tb,ro]
def jc{x1:Option PV}{post:List (List Int)}(r:Rl o n sp al D)(hft:Fc ft)(hfi:Fc fi)(mv:∀cs,cs.length=n->InS sp cs->mvR n D cs≠[])(hb:fQ n al nm)(hm:nm.length<=1000) :
  ∀(pre dn:List (List Int)) (tns:List (List Int)) (f:Fl) (cs:List Int) (ps:List (List Int×List Int)) (x6:Option PV) (k:Nat),tns=dn ++(pre++nm::post)->ps.length=dn.length->Fc f\/f=.own->cs.length=n->InS sp cs->(∀m∈pre,c9 n al m)->pre.length < k->tns.length < 1000 ->
   ∃e,whL dC dB k [some o,x1,some (.box 99 [.lst ft (llL fi tns)]),some (.int tns.length),some (.lst f (iL cs)),some (.lst .own (ps.map (aX .frz))),x6]=.exc 4 e
 | _,_,_,_,_,_,_,0,_,_,_,_,_,_,hk,_=>absurd hk (Nat.not_lt_zero _)
 | [],dn,tns,f,cs,ps,x6,k+1,ht,hp,hf,hn,hc,hg,hk,hl=>by
  have tl:ps.length < tns.length:=by rw[ht,hp];simp
  have tg:tns[ps.length]?=some nm:=by rw[ht,hp];simp
  unfold whL
  rw[vG (x1:=x1) (x2:=some (.box 99 [.lst ft (llL fi tns)])) (x6:=x6) (m:=tns.length) (ps:=ps) r hf hn hc (by omega) (mv cs hn hc)]
  obtain⟨e,h⟩:=An (x1:=x1) (x3:=some (.int tns.length)) (x6:=x6) r hft hfi hf hn hc tg hb hm
  exact⟨e,by dsimp only;rw[h]⟩
 | m::pre,dn,tns,f,cs,ps,x6,k+1,ht,hp,hf,hn,hc,hg,hk,hl=>by
  have tl:ps.length < tns.length:=by rw[ht,hp];simp
  have tg:tns[ps.length]?=some m:=by rw[ht,hp];simp
  obtain⟨h1,h2⟩:=p0 r hn hc m
  unfold whL
  rw[vG (x1:=x1) (x2:=some (.box 99 [.lst ft (llL fi tns)])) (x6:=x6) (m:=tns.length) (ps:=ps) r hf hn hc (by omega) (mv cs hn hc)]
  have h:=Am (x1:=x1) (x3:=some (.int tns.length)) (x6:=x6) r hft hfi hf hn hc tg (hg m List.mem_cons_self) (by omega)
  obtain⟨e,ih⟩:=jc (x1:=x1) (post:=post) r hft hfi mv hb hm pre (dn++[m]) tns .frz (stR n D cs m) (ps++[(dnR n D cs m,stR n D cs m)]) (some (.lst .own (iL m))) k (by rw[ht];simp) (by simp[hp]) (.inl (.inr rfl)) h1 h2 (fun z hz=>hg z (List.mem_cons_of_mem _ hz)) (by simp at hk;omega) hl
  refine⟨e,?_⟩
  dsimp only
  rw[h]
  exact ih
def rS{rs:List Int}{pre post:List (List Int)}(r:Rl o n sp al D)(hft:Fc ft)(hfi:Fc fi)(mv:∀cs,cs.length=n->InS sp cs->mvR n D cs≠[])(hn:rs.length=n)(hg:∀m∈pre,c9 n al m)(hb:fQ n al nm)(hm:nm.length<=1000)(hl:(pre++nm::post).length < 1000) :
  lS [o,.lst f (iL rs),.box 99 [.lst ft (llL fi (pre++nm::post))],.int (pre++nm::post).length]=.exc 4:=by
 suffices h:∃e,mt [some o,some (.lst f (iL rs)),some (.box 99 [.lst ft (llL fi (pre++nm::post))]),some (.int (pre++nm::post).length),none,none,none]=.exc 4 e by
  obtain⟨e,h⟩:=h
  exact bL h
 obtain⟨e,w⟩:=jc (x1:=some (.lst f (iL rs))) (post:=post) r hft hfi mv hb hm pre [] (pre++nm::post) .own (rs.map (· % sp)) [] none 100000 rfl rfl (.inr rfl) (by simpa using hn) (m9 r) hg (by simp at hl;omega) hl
 refine⟨e,?_⟩
 unfold mt
 refine ah (az (v:=.lst .own (iL (rs.map (· % sp)))) (by simp[r.le,r.tb,r.rd,nV r hn,aM]) (by simp) rfl) ?_
 simp only[s0_,s1_]
 refine ah (az (v:=.lst .own []) (by simp) (by simp) rfl) ?_
 simp only[s0_,s1_]
 exact bh w
def lY{rs:List Int}{h:PV}{m:Int}(r:Rl o n sp al D)(hn:rs.length≠n):lS [o,.lst f (iL rs),h,.int m]=.exc 3:=by
 refine bL (e:=[some o,some (.lst f (iL rs)),some h,some (.int m),none,none,none]) ?_
 show mt [some o,some (.lst f (iL rs)),some h,some (.int m),none,none,none]=_
 unfold mt
 refine bh (fX ?_)
 simp[r.le,r.tb,r.rd,nW r hn]
def spo:List Int->List (Int×Int)->List Int
 | xs,[]=>xs
 | xs,(a,v)::r=>spo (xs.set a.toNat v) r
def kj:∀(fs:List (Int×Int)) (xs:List Int),(spo xs fs).length=xs.length
 | [],_=>rfl
 |(a,v)::r,xs=>by unfold spo;rw[kj r];simp
def sB:MS:=(aq (mBr ((fm (ar (mOp pLt (ac 3) (mC (.int (0))))) (ar (mOp pGe (ac 3) (ao (p1 b9) (ae (ac 2) ak))))))
  (aN 3 (ae (mC (.str "a fault is at a machine that is none")) ak))
  aF)
 (dL 2 (ac 3) (ac 4)))
abbrev sT:TgM:=tgT 2 (fA (tgN 3) (fA (tgN 4) pW))
abbrev sL':PV->MS:=fun x e=>match sT x e with
 | some e'=>sB e'
 | none=>.stuck
def y9{a v:Int}{xs:List Int}{x0 x1:Option PV}(h0:0<=a)(h1:a < xs.length):sB [x0,x1,some (.lst .own (iL xs)),some (.int a),some (.int v)]=.next [x0,x1,some (.lst .own (iL (xs.set a.toNat v))),some (.int a),some (.int v)]:=by
 unfold sB
 refine ah (bp (by simp[show ¬a < 0 by omega,show ¬(xs.length:Int)<= a by omega]) aw) ?_
 have:=fY (env:=[x0,x1,some (.lst .own (iL xs)),some (.int a),some (.int v)]) (i:=2) (m:=ac 4) (mk:=ac 3) (v:=.int v) (xs:=iL xs) (j:=a) (n:=a.toNat) rfl rfl rfl (by
  rw[bw]
  have:=gm (k:=a.toNat) (n:=xs.length) (by omega)
  rwa [Int.toNat_of_nonneg h0]at this) rfl
 rw[this]
 simp
def y_{a v:Int}{xs:List Int}{x0 x1:Option PV}(h:a < 0 \/(xs.length:Int)<= a):∃e,sB [x0,x1,some (.lst .own (iL xs)),some (.int a),some (.int v)]=.exc 3 e:=by
 unfold sB
 refine⟨_,bh (dO ?_ (dR (xs:=[.str "a fault is at a machine that is none"]) rfl))⟩
 by_cases h0:a < 0
 ·simp[h0]
 ·simp[h0];omega
def fB{x0 x1:Option PV}{aV:List PV}:∀(fs:List (Int×Int)) (xs:List Int) (x3 x4:Option PV),(∀p∈fs,0<=p.1/\p.1 < xs.length)->∃y3 y4,da sL' (prL fs++aV) [x0,x1,some (.lst .own (iL xs)),x3,x4]=da sL' aV [x0,x1,some (.lst .own (iL (spo xs fs))),y3,y4]
 | [],xs,x3,x4,_=>⟨x3,x4,rfl⟩
 |(a,v)::fs,xs,x3,x4,h=>by
  obtain⟨h0,h1⟩:=h (a,v) List.mem_cons_self
  obtain⟨y3,y4,ih⟩:=fB (x0:=x0) (x1:=x1) (aV:=aV) fs (xs.set a.toNat v) (some (.int a)) (some (.int v)) (fun p hp=>by simpa using h p (List.mem_cons_of_mem _ hp))
  refine⟨y3,y4,?_⟩
  rw[ge,List.cons_append]
  conv=>lhs;unfold da
  have e:sL' (prV (a,v)) [x0,x1,some (.lst .own (iL xs)),x3,x4]=sB [x0,x1,some (.lst .own (iL xs)),some (.int a),some (.int v)]:=rfl
  rw[e,y9 h0 h1]
  exact ih
def iy{rs:List Int}{ff:Fl}{fs:List (Int×Int)}{R:Out->Prop}(hff:Fc ff.freeze)(h:R (aq (fun e=>da sL' (prL fs) e) (cm 2) [some (.lst f (iL rs)),some (.lst ff.freeze (prL fs)),some (.lst .own (iL rs)),none,none])):R (kg [some (.lst f (iL rs)),some (.lst ff (prL fs)),none,none,none]):=by
 have e:kg [some (.lst f (iL rs)),some (.lst ff (prL fs)),none,none,none]=aq (fun e=>da sL' (prL fs) e) (cm 2) [some (.lst f (iL rs)),some (.lst ff.freeze (prL fs)),some (.lst .own (iL rs)),none,none]:=by
  unfold kg
  refine ah (az (v:=.lst .own (iL rs)) (by simp) (by simp) rfl) ?_
  simp only[s0_,s1_]
  refine ah (i_ (v:=.lst ff (prL fs)) rfl) ?_
  simp only[s0_,s1_]
  have efz:(PV.lst ff (prL fs)).mapF Fl.freeze=.lst ff.freeze (prL fs):=by simp
  rw[efz]
  have it:cL (ac 1) [some (.lst f (iL rs)),some (.lst ff.freeze (prL fs)),some (.lst .own (iL rs)),none,none]=.ok (prL fs):=cV (f:=ff.freeze) (by simp[hff.le]) hff.nl (by simp) (by simp)
  unfold aq b_
  rw[it]
  rfl
 rw[e];exact h
def iw{rs:List Int}{ff:Fl}{fs:List (Int×Int)}(hff:Fc ff.freeze)(h:∀p∈fs,0<=p.1/\p.1 < rs.length):gv [.lst f (iL rs),.lst ff (prL fs)]=.ok (.lst .own (iL (spo rs fs))):=by
 refine aH ?_
 show kg [some (.lst f (iL rs)),some (.lst ff (prL fs)),none,none,none]=_
 refine iy (R:=fun x=>x=_) hff ?_
 obtain⟨y3,y4,e⟩:=fB (x0:=some (.lst f (iL rs))) (x1:=some (.lst ff.freeze (prL fs))) (aV:=[]) fs rs none none h
 rw[List.append_nil]at e
 exact ah (a:=fun e=>da sL' (prL fs) e) e (du rfl)
def lq{rs:List Int}{ff:Fl}{fs gs:List (Int×Int)}{a v:Int}(hff:Fc ff.freeze)(h:∀p∈fs,0<=p.1/\p.1 < rs.length)(ha:a < 0 \/(rs.length:Int)<= a):gv [.lst f (iL rs),.lst ff (prL (fs ++(a,v)::gs))]=.exc 3:=by
 suffices h:∃e,kg [some (.lst f (iL rs)),some (.lst ff (prL (fs ++(a,v)::gs))),none,none,none]=.exc 3 e by
  obtain⟨e,h⟩:=h
  exact bL h
 refine iy (R:=fun x=>∃e,x=.exc 3 e) hff ?_
 obtain⟨y3,y4,e⟩:=fB (x0:=some (.lst f (iL rs))) (x1:=some (.lst ff.freeze (prL (fs ++(a,v)::gs)))) (aV:=prL ((a,v)::gs)) fs rs none none h
 obtain⟨e2,b⟩:=y_ (v:=v) (xs:=spo rs fs) (x0:=some (.lst f (iL rs))) (x1:=some (.lst ff.freeze (prL (fs ++(a,v)::gs)))) (by rw[kj];exact ha)
 refine⟨e2,bh ?_⟩
 show da sL' _ _=_
 rw[show prL (fs ++(a,v)::gs)=prL fs++prL ((a,v)::gs) by simp[prL]]
 rw[show prL (fs ++(a,v)::gs)=prL fs++prL ((a,v)::gs) by simp[prL]]at e b
 rw[e,ge]
 unfold da
 have e3:∀L,sL' (prV (a,v)) [some (.lst f (iL rs)),L,some (.lst .own (iL (spo rs fs))),y3,y4]=sB [some (.lst f (iL rs)),L,some (.lst .own (iL (spo rs fs))),some (.int a),some (.int v)]:=fun _=>rfl
 rw[ge]at b
 rw[e3,b]
end
section
variable{o:PV}{n:Nat}{sp:Int}{al:Bool}{D:List Int->Nat->Int}{rs nm:List Int}{f fi:Fl}{c:Nat}
def qT{F T:PV}(hF:F.mapF Fl.lend=F)(hF2:F.mapF Fl.toBor=F)(h:gv [.lst .bor (iL rs),F]=.exc c):lR [o,.lst .bor (iL rs),F,T]=.exc c:=by
 refine bL (e:=[some o,some (.lst .bor (iL rs)),some F,some T,none,none,none,none,none]) ?_
 show mr [some o,some (.lst .bor (iL rs)),some F,some T,none,none,none,none,none]=_
 unfold mr
 refine bh (fX ?_)
 simp[hF,hF2,h]
def lI{F T:PV}{xs:List Int}(r:Rl o n sp al D)(hF:F.mapF Fl.lend=F)(hF2:F.mapF Fl.toBor=F)(hT:T.mapF Fl.lend=T)(hT2:T.mapF Fl.toBor=T)(h:gv [.lst .bor (iL rs),F]=.ok (.lst .own (iL xs)))(h2:eV [o,.lst .bor (iL xs),T]=.exc c):lR [o,.lst .bor (iL rs),F,T]=.exc c:=by
 refine bL (e:=[some o,some (.lst .bor (iL rs)),some F,some T,some (.lst .own (iL xs)),none,none,none,none]) ?_
 show mr [some o,some (.lst .bor (iL rs)),some F,some T,none,none,none,none,none]=_
 unfold mr
 refine ah (az (v:=.lst .own (iL xs)) (by simp[hF,hF2,h,aM]) (by simp) rfl) ?_
 simp only[s0_,s1_]
 refine bh (fX ?_)
 simp[r.le,r.tb,hT,hT2,h2]
abbrev tsV(fi:Fl)(tns:List (List Int)):PV:=.lst .bor (llL fi tns)
@[simp] def z4{g:Fl->Fl}{k:Nat}{xs:List PV}:(PV.box k xs).mapF g=.box k (mapL g xs):=by simp[PV.mapF]
def oJ(w:Nat)(o:PV)(rs:List Int)(fs:List (Int×Int))(fi:Fl)(tns:List (List Int))(c:Nat):Prop :=
 (w=0/\eV [o,.lst .bor (iL rs),tsV fi tns]=.exc c)\/(w=1/\lS [o,.lst .bor (iL rs),.box 99 [tsV fi tns],.int tns.length]=.exc c)\/
 (w=2/\lR [o,.lst .bor (iL rs),.lst .bor (prL fs),tsV fi tns]=.exc c)\/(w=3/\gv [.lst .bor (iL rs),.lst .bor (prL fs)]=.exc c)
def rT{w:Nat}{fs:List (Int×Int)}{tns:List (List Int)}(r:Rl o n sp al D)(hfi:Fc fi)(h:oJ w o rs fs fi tns c):rN [.int w,o,.lst .bor (iL rs),.lst .bor (prL fs),tsV fi tns]=.exc c:=by
 have ho:fi.isOwn=false:=by rcases hfi with h | h<;>rw[h]<;>rfl
 suffices h:∃e,sy [some (.int w),some o,some (.lst .bor (iL rs)),some (.lst .bor (prL fs)),some (tsV fi tns),none]=.exc c e by
  obtain⟨e,h⟩:=h
  exact bL h
 have dd:jY 5 99 [4] [some (.int w),some o,some (.lst .bor (iL rs)),some (.lst .bor (prL fs)),some (tsV fi tns),none]=.next [some (.int w),some o,some (.lst .bor (iL rs)),some (.lst .bor (prL fs)),some (tsV fi tns),some (.box 99 [tsV fi tns])]:=by
  unfold jY
  have e:r9 [4] [some (.int w),some o,some (.lst .bor (iL rs)),some (.lst .bor (prL fs)),some (tsV fi tns),none]=some [tsV fi tns]:=rfl
  rw[e]
  have no:cW [tsV fi tns]=true:=by simp[cW,bT _ _ _ ho,bT _ _ _ hfi.nl]
  dsimp only
  rw[no]
  rfl
 unfold sy
 rcases h with⟨rfl,h⟩ |⟨rfl,h⟩ |⟨rfl,h⟩ |⟨rfl,h⟩
 ·exact⟨_,ah dd (bh (dO (by simp) (ik (by simp[r.le,r.tb,hfi.le,hfi.tb,h]))))⟩
 ·exact⟨_,ah dd (ah (bp (by simp) aw) (bh (dO (by simp) (ik (by simp[r.le,r.tb,hfi.le,hfi.tb,h])))))⟩
 ·exact⟨_,ah dd (ah (bp (by simp) aw) (ah (bp (by simp) aw) (bh (dO (by simp) (ik (by simp[r.le,r.tb,hfi.le,hfi.tb,h]))))))⟩
 ·exact⟨_,ah dd (ah (bp (by simp) aw) (ah (bp (by simp) aw) (ah (bp (by simp) aw) (ik (by simp[h])))))⟩
def er{w:Nat}{fs:List (Int×Int)}{tns:List (List Int)}{f1 f2:Fl}(r:Rl o n sp al D)(hfi:Fc fi)(h1:f1.lend.toBor=.bor)(h2:f2.lend.toBor=.bor)(hc:c=3\/c=4)(h:oJ w o rs fs fi tns c) :
  pI [.int w,o,.lst f1 (iL rs),.lst f2 (prL fs),tsV fi tns]=.ok (.tup [.bl (decide (c=3)),.bl (decide (c=4)),.bl true]):=by
 have d:=rT r hfi h
 refine aH ?_
 show xV [some (.int w),some o,some (.lst f1 (iL rs)),some (.lst f2 (prL fs)),some (tsV fi tns),none,none,none]=_
 unfold xV
 refine ah (az (v:=.tup []) (by simp) (by simp) rfl) ?_
 simp only[s0_,s1_]
 refine ah (e:=[some (.int w),some o,some (.lst f1 (iL rs)),some (.lst f2 (prL fs)),some (tsV fi tns),some (.tup [.bl (decide (c=3)),.bl (decide (c=4)),.bl true]),none,some (.bl false)]) (sL (lX (c:=c) ?_) ?_ ?_) (du rfl)
 ·simp[r.le,r.tb,hfi.le,hfi.tb,h1,h2,d]
 ·rcases hc with rfl | rfl<;>rfl
 ·simp only[s0_,s1_]
  rcases hc with rfl | rfl
  ·have e:(aq (aE 7 ((eJ (mUn (bG i0) (ac 6)) (eJ (mUn (bG gO) (ac 6)) (mUn (bG gN) (ac 6))))))
 (aq (aE 7 ((eJ (ac 7) (eJ (mUn (bG eU) (ac 6)) (mUn (bG fJ) (ac 6))))))
 (aE 5 (dW (ae (mUn (bG fK) (ac 6)) (ae (mUn (bG gM) (ac 6)) (ae ((eG (mUn (bG eA) (ac 6)) (iU (ac 7)))) ak))))))) [some (.int w),some o,some (.lst f1 (iL rs)),some (.lst f2 (prL fs)),some (tsV fi tns),some (.tup []),some (.exc 3),none]=.next [some (.int w),some o,some (.lst f1 (iL rs)),some (.lst f2 (prL fs)),some (tsV fi tns),some (.tup [.bl true,.bl false,.bl true]),some (.exc 3),some (.bl false)]:=rfl
   rw[e];rfl
  ·have e:(aq (aE 7 ((eJ (mUn (bG i0) (ac 6)) (eJ (mUn (bG gO) (ac 6)) (mUn (bG gN) (ac 6))))))
 (aq (aE 7 ((eJ (ac 7) (eJ (mUn (bG eU) (ac 6)) (mUn (bG fJ) (ac 6))))))
 (aE 5 (dW (ae (mUn (bG fK) (ac 6)) (ae (mUn (bG gM) (ac 6)) (ae ((eG (mUn (bG eA) (ac 6)) (iU (ac 7)))) ak))))))) [some (.int w),some o,some (.lst f1 (iL rs)),some (.lst f2 (prL fs)),some (tsV fi tns),some (.tup []),some (.exc 4),none]=.next [some (.int w),some o,some (.lst f1 (iL rs)),some (.lst f2 (prL fs)),some (tsV fi tns),some (.tup [.bl false,.bl true,.bl true]),some (.exc 4),some (.bl false)]:=rfl
   rw[e];rfl
def m5{n:Nat}(z:Int):∃x:Int,j6 [.int n,.int z]=.ok (.int x)/\(x < 0 \/(n:Int)<= x):=by
 suffices hh:gX (sw [some (.int n),some (.int z),none]) (fun v=>∃x:Int,v=.int x/\(x < 0 \/(n:Int)<= x)) by
  obtain⟨v,h1,x,rfl,h2⟩:=hh
  exact⟨x,aH h1,h2⟩
 unfold sw
 have d2:aS (.int z) (.int 2)=.ok (.int (z / 2)):=bC (by decide) (by decide)
 have m0:=Int.emod_nonneg (z / 2) (show(10:Int) ^ 59≠0 by decide)
 have p59:ju (.int 10) (.int 59)=.ok (.int (10 ^ 59)):=by rfl
 have md:aW (.int (z / 2)) (.int (10 ^ 59))=.ok (.int (z / 2 % 10 ^ 59)):=ay (by decide)
 generalize z / 2 % 10 ^ 59=w at m0 md
 refine aL (az (v:=.int w) ?_ (by simp) rfl) ?_
 ·simp only[ic,eC,uU,Res.ok_bind]
  rw[p59]
  generalize(10 ^ 59:Int)=P at *
  simp[d2,md]
 simp only[s0_,s1_]
 obtain⟨u,hu,hs⟩:∃u:Int,0<=u/\mBr (ar (mOp pEq (mOp aW (ac 2) (mC (.int (3)))) (mC (.int (0))))) (aE 2 (mC (.int (0)))) aF [some (.int n),some (.int z),some (.int w)]=.next [some (.int n),some (.int z),some (.int u)]:=by
  by_cases q:w % 3=0
  ·exact⟨0,by omega,dO (by simp[ay,q]) (az (v:=.int 0) (by simp) (by simp) rfl)⟩
  ·exact⟨w,m0,bp (by simp[ay,q]) aw⟩
 refine aL hs ?_
 by_cases q:z % 2=0
 ·exact eP (by simp[ay,q]) (bq (v:=.int (n+u)) (bF (by simp) (by simp)) ⟨_,rfl,.inr (by omega)⟩)
 ·exact aL (bp (by simp[ay,q]) aw) (bq (v:=.int (-1 - u)) (bF (by simp) (by simp)) ⟨_,rfl,.inl (by omega)⟩)
def mq{k:Nat}{w:Int}(h:fQ n al (w::nm)):fQ n al (bH k w nm):=by
 have pm:=cC k w nm
 rcases h with⟨x,hx,h⟩ | h |⟨h1,h2⟩
 ·exact .inl ⟨x,pm.mem_iff.mpr hx,h⟩
 ·exact .inr (.inl fun q=>h (pm.nodup q))
 ·exact .inr (.inr ⟨h1,by rw[pm.length_eq];exact h2⟩)
def mf{ff:Fl}(hf:Fc ff)(z:Int)(n1:1<=n)(h0:nm≠[])(hl:nm.length<=20):∃b:List Int,uI [.int n,.bl al,.lst ff (iL nm),.int z]=.ok (.lst .own (iL b))/\fQ n al b/\b.length<=21:=by
 suffices hh:gX (xX [some (.int n),some (.bl al),some (.lst ff (iL nm)),some (.int z),none,none]) (fun v=>∃b:List Int,v=.lst .own (iL b)/\fQ n al b/\b.length<=21) by
  obtain⟨v,h1,b,rfl,h2⟩:=hh
  exact⟨b,aH h1,h2⟩
 unfold xX
 have d3:aS (.int z) (.int 3)=.ok (.int (z / 3)):=bC (by decide) (by decide)
 have d9:aS (.int z) (.int 9)=.ok (.int (z / 9)):=bC (by decide) (by decide)
 have lp:(0:Int) < nm.length:=by have:=List.length_pos_iff.mpr h0;omega
 have lp1:(0:Int) < nm.length+1:=by omega
 obtain⟨k,hk⟩:∃k:Nat,z / 3 % ((nm.length:Int)+1)=k:=⟨(z / 3 % ((nm.length:Int)+1)).toNat,by have:=Int.emod_nonneg (z / 3) (show(nm.length:Int)+1≠0 by omega);omega⟩
 have kl:k<=nm.length:=by have:=Int.emod_lt_of_pos (z / 3) lp1;omega
 obtain⟨j,hj⟩:∃j:Nat,z / 9 % (nm.length:Int)=j:=⟨(z / 9 % (nm.length:Int)).toNat,by have:=Int.emod_nonneg (z / 9) (show(nm.length:Int)≠ 0 by omega);omega⟩
 have jl:j < nm.length:=by have:=Int.emod_lt_of_pos (z / 9) lp;omega
 have np:(0:Int) < n:=by omega
 refine aL (az (v:=.lst .own (iL nm)) (by simp) (by simp) rfl) ?_
 simp only[s0_,s1_]
 refine aL (az (v:=.int k) (by simp[d3,ay lp1,hk]) (by simp) rfl) ?_
 simp only[s0_,s1_]
 by_cases q0:z % 3=0/\al=true
 ·refine eP (by simp[ay,q0.1,q0.2]) (bq (v:=.lst .own (iL [z / 3 % n,(z / 3+1) % n])) (bF (by simp[d3,ay np]) (by simp)) ⟨_,rfl,.inr (.inr ⟨q0.2,by simp⟩),by simp⟩)
 refine aL (bp (by
  by_cases q:z % 3=0
  ·have:al=false:=by cases al<;>simp_all
   simp[ay,q,this]
  ·simp[ay,q]) aw) ?_
 by_cases q1:z % 3=1
 ·have gj:aI (.lst .lnt (iL nm)) (.int (j:Int))=.ok (.int nm[j]):=dY _ (by omega) (by simp[jl])
  refine eP (by simp[ay,q1]) (aL (fg (v:=.int nm[j]) (xs:=iL nm) (j:=k) (n:=k) (by simp) (by simp[d9,ay lp,hj,gj]) rfl rfl (by simp) rfl (by simpa using kl) (by simp;omega)) ?_)
  simp only[s0_,s1_,kz]
  exact bq (du rfl) ⟨_,rfl,mq (.inr (.inl fun q=>(List.nodup_cons.mp q).1 (List.getElem_mem jl))),by rw[(cC k _ nm).length_eq];simp;omega⟩
 refine aL (bp (by simp[ay,q1]) aw) ?_
 obtain⟨x,hx,hx2⟩:=m5 (n:=n) (z / 9)
 cases al with
 | true=>exact eP (by simp) (bq (v:=.lst .own (iL [x])) (bF (by simp[d9,hx,aM]) (by simp)) ⟨_,rfl,.inl ⟨x,by simp,hx2⟩,by simp⟩)
 | false =>
  refine aL (bp (by simp) aw) ?_
  refine aL (fg (v:=.int x) (xs:=iL nm) (j:=k) (n:=k) (by simp) (by simp[d9,hx,aM]) rfl rfl (by simp) rfl (by simpa using kl) (by simp;omega)) ?_
  simp only[s0_,s1_,kz]
  exact bq (du rfl) ⟨_,rfl,mq (.inl ⟨x,by simp,hx2⟩),by rw[(cC k _ nm).length_eq];simp;omega⟩
def k8{tns:List (List Int)}(z:Int)(n1:1<=n)(ht0:tns≠[])(htl:tns.length<=20)(h:∀nm∈tns,nm≠[]/\nm.length<=20):∃(k:Nat) (b:List Int),k < tns.length/\uK [.int n,.bl al,.lst .bor (llL .bor tns),.int z]=.ok (.lst .own (llL .frz (tns.set k b)))/\fQ n al b/\b.length<=21:=by
 have lp:(0:Int) < tns.length:=by have:=List.length_pos_iff.mpr ht0;omega
 have l2:(tns.length:Int) < 1073741824:=by omega
 obtain⟨k,hk⟩:∃k:Nat,z % (tns.length:Int)=k:=⟨(z % (tns.length:Int)).toNat,by have:=Int.emod_nonneg z (show(tns.length:Int)≠ 0 by omega);omega⟩
 have kl:k < tns.length:=by have:=Int.emod_lt_of_pos z lp;omega
 obtain⟨h1,h2⟩:=h tns[k] (List.getElem_mem kl)
 obtain⟨b,hb,hb2,hb3⟩:=mf (n:=n) (al:=al) (nm:=tns[k]) (ff:=.frz) (.inr rfl) (z / tns.length) n1 h1 h2
 refine⟨k,b,kl,?_,hb2,hb3⟩
 refine aH ?_
 show yd [some (.int n),some (.bl al),some (.lst .bor (llL .bor tns)),some (.int z),none,none]=_
 unfold yd
 refine ah (az (v:=.lst .own (llL .own tns)) ?_ (by simp[PV.noLnt,PV.has,bT _ Fl.isLnt .own rfl]) rfl) ?_
 ·refine bJ (xs:=llL .bor tns) (by simp) (by rw[kK];omega) ?_
  exact bW (a:=fun nm=>PV.lst .bor (iL nm)) (f:=fun nm=>PV.lst .own (iL nm)) tns fun nm _=>⟨[some (.lst .bor (iL nm))],by simp[tgN,aY,cj,cE,PV.borrow,Fl.borrow],by simp,by simp,by simp⟩
 simp only[s0_,s1_]
 refine ah (e:=[some (.int n),some (.bl al),some (.lst .bor (llL .bor tns)),some (.int z),some (.lst .own (llL .frz tns)),none]) (by unfold gJ;simp) ?_
 refine ah (az (v:=.int k) (by simp[ay lp,hk]) (by simp) rfl) ?_
 simp only[s0_,s1_]
 have ix:aI (.lst .lnt (llL .frz tns)) (.int (k:Int))=.ok (.lst .frz (iL tns[k])):=gS rfl (by simp[llL,kl]) (by simp)
 have:=fY (env:=[some (.int n),some (.bl al),some (.lst .bor (llL .bor tns)),some (.int z),some (.lst .own (llL .frz tns)),some (.int k)]) (i:=4) (m:=mFz (ao (aA uI) (ae (ac 0) (ae (ac 1) (ae (mOp aI (ac 4) (ac 5)) (ae (mOp aS (ac 3) (ao (p1 b9) (ae (ac 4) ak))) ak)))))) (mk:=ac 5) (v:=.lst .frz (iL b)) (xs:=llL .frz tns) (j:=k) (n:=k) (by simp[ix,bC lp l2,hb,aM]) rfl rfl (by rw[kK];exact gm kl) (by simp)
 refine ah this ?_
 simp only[s0_,s1_]
 rw[show(llL .frz tns).set k (.lst .frz (iL b))=llL .frz (tns.set k b) by simp[llL,List.map_set]]
 exact du rfl
def qq{i n:Nat}{mk:ME}{env:En}{xs:List PV}{j:Int}(hk:mk env=.ok (.int j))(ho:env[i]?=some (some (.lst .own xs)))(hx:cW xs=true)(hj:j=n)(hn:n < xs.length)(hl:xs.length < 10000000):iT i mk env=.next (env.set i (some (.lst .own (xs.eraseIdx n)))):=by
 subst hj
 unfold iT
 rw[hk,ho]
 dsimp only
 rw[if_pos (by simp[hx];omega)]
 simp
@[simp] def AA(l:List Int):cW (iL l)=true:=by simp[cW]
def vE:∀(l:List Int) (k:Nat),(iL l).eraseIdx k=iL (l.eraseIdx k)
 | [],_ | _::_,0=>rfl
 | a::l,k+1=>by simp[vE l k]
def k9(z:Int)(h0:rs≠[])(hl:rs.length<=20):∃xs:List Int,xw [.lst .bor (iL rs),.int z]=.ok (.lst .own (iL xs))/\xs.length≠rs.length:=by
 suffices hh:gX (ya [some (.lst .bor (iL rs)),some (.int z),none]) (fun v=>∃xs:List Int,v=.lst .own (iL xs)/\xs.length≠rs.length) by
  obtain⟨v,h1,b,rfl,h2⟩:=hh
  exact⟨b,aH h1,h2⟩
 unfold ya
 have d2:aS (.int z) (.int 2)=.ok (.int (z / 2)):=bC (by decide) (by decide)
 have lp:(0:Int) < rs.length:=by have:=List.length_pos_iff.mpr h0;omega
 have lp1:(0:Int) < rs.length+1:=by omega
 refine aL (az (v:=.lst .own (iL rs)) (by simp) (by simp) rfl) ?_
 simp only[s0_,s1_]
 by_cases q:z % 2=0
 ·obtain⟨k,hk⟩:∃k:Nat,z / 2 % (rs.length:Int)=k:=⟨(z / 2 % (rs.length:Int)).toNat,by have:=Int.emod_nonneg (z / 2) (show(rs.length:Int)≠ 0 by omega);omega⟩
  have kl:k < rs.length:=by have:=Int.emod_lt_of_pos (z / 2) lp;omega
  refine aL (dO (by simp[ay,q]) (qq (xs:=iL rs) (j:=k) (n:=k) (by simp[d2,ay lp,hk]) rfl (by simp[cW]) rfl (by simpa using kl) (by simp;omega))) ?_
  simp only[s0_,s1_]
  rw[vE]
  exact bq (du rfl) ⟨_,rfl,by rw[List.length_eraseIdx_of_lt kl];omega⟩
 ·obtain⟨k,hk⟩:∃k:Nat,z / 2 % ((rs.length:Int)+1)=k:=⟨(z / 2 % ((rs.length:Int)+1)).toNat,by have:=Int.emod_nonneg (z / 2) (show(rs.length:Int)+1≠0 by omega);omega⟩
  have kl:k<=rs.length:=by have:=Int.emod_lt_of_pos (z / 2) lp1;omega
  have p9:ju (.int 10) (.int 9)=.ok (.int 1000000000):=by rfl
  refine aL (bp (by simp[ay,q]) (fg (v:=.int (z / 2 % 1000000000)) (xs:=iL rs) (j:=k) (n:=k) (by simp[d2,ay lp1,hk]) (by simp[d2,p9,ay]) rfl rfl (by simp) rfl (by simpa using kl) (by simp;omega))) ?_
  simp only[s0_,s1_,kz]
  exact bq (du rfl) ⟨_,rfl,by rw[(cC k _ rs).length_eq];simp⟩
def oI(f:Fl):∀(xss:List (List Int)),PyData.canLayAll0 (dataL (llL f xss))=true
 | []=>rfl
 | xs::xss=>by
  rw[dX]
  unfold dataL PyData.canLayAll0
  rw[oI f xss]
  simp[PV.data,PyData.canLay0]
def oC(f:Fl):∀(xss:List (List Int)),PyData.depthAll (dataL (llL f xss))<= 1
 | []=>by simp[llL,dataL,PyData.depthAll]
 | xs::xss=>by
  have:=oC f xss
  rw[dX]
  unfold dataL PyData.depthAll
  simp[PV.data,PyData.depth]
  omega
def sS(f g:Fl)(xss:List (List Int)):shp (.lst f (llL g xss))=true:=by
 have:=oC g xss
 simp[shp,SeqAt.shaped,PV.data,PyData.canLay0,PyData.depth,oI]
 omega
def oB(f g:Fl):∀(xss yss:List (List Int)),PyData.eqvAll (dataL (llL f xss)) (dataL (llL g yss))=decide (xss=yss)
 | [],[] | [],_::_ | _::_,[]=>rfl
 | x::xss,y::yss=>by
  rw[dX,dX]
  unfold dataL PyData.eqvAll
  rw[oB f g xss yss]
  have:PyData.eqv (PV.data (.lst f (iL x))) (PV.data (.lst g (iL y)))=decide (x=y):=by
   simp only[PV.data,PyData.eqv,gU]
  rw[this]
  by_cases h1:x=y<;>by_cases h2:xss=yss<;>simp[h1,h2]
def qM(f g f' g':Fl)(xss yss:List (List Int)):pNe (.lst f (llL f' xss)) (.lst g (llL g' yss))=.ok (.bl (!decide (xss=yss))):=by
 unfold pNe
 simp only[sS,Bool.and_self,if_true]
 simp[PV.data,PyData.eqv,oB]
def bt(z:Int):Bool:=decide (z % 4 < 3)&&(decide (z / 4 % 2=0)&&decide (z / 8 % 2=0))
def rE(h:c9 n al nm)(hb:fQ n al nm):False:=by
 obtain⟨h1,h2,h3,_⟩:=h
 rcases hb with⟨x,hx,h⟩ | h |⟨h,h'⟩
 ·have:=h2 x hx;omega
 ·exact h h1
 ·have:=h3 h;omega
def mV{tns:List (List Int)}(r:Rl o n sp al D)(hmv:al=false->∀cs,cs.length=n->InS sp cs->mvR n D cs≠[])(hn:rs.length=n)(ht0:tns≠[])(htl:tns.length<=4)(hg:∀nm∈tns,c9 n al nm)(hne:∀nm∈tns,nm≠[]/\nm.length<=20)(z:Int) :
  xq [o,.lst .bor (iL rs),.lst .bor (llL .bor tns),.int z]=.ok (.tup [.bl (!bt z),.bl (bt z),.bl true]):=by
 have n1:=r.n1
 have n20:=r.n20
 have np:(0:Int) < n:=by omega
 refine aH ?_
 show xT [some o,some (.lst .bor (iL rs)),some (.lst .bor (llL .bor tns)),some (.int z),none,none,none,none,none]=_
 unfold xT
 have d4:aS (.int z) (.int 4)=.ok (.int (z / 4)):=bC (by decide) (by decide)
 have d8:aS (.int z) (.int 8)=.ok (.int (z / 8)):=bC (by decide) (by decide)
 have d16:aS (.int z) (.int 16)=.ok (.int (z / 16)):=bC (by decide) (by decide)
 refine ah (az (v:=.int n) (by simp[r.le,r.a0]) (by simp) rfl) ?_
 simp only[s0_,s1_]
 refine ah (az (v:=.int (z % 4)) (by simp[ay]) (by simp) rfl) ?_
 simp only[s0_,s1_]
 obtain⟨w,hw3,hw1,hw4,hw⟩:∃w:Nat,(w=3↔z % 4=3)/\(w=1->al=false)/\w < 4/\mBr ((df (ar (mOp pEq (ac 5) (mC (.int (1))))) (cM (mUn (av 8) (ac 0))))) (aE 5 (mC (.int (0)))) aF [some o,some (.lst .bor (iL rs)),some (.lst .bor (llL .bor tns)),some (.int z),some (.int n),some (.int (z % 4)),none,none,none]=.next [some o,some (.lst .bor (iL rs)),some (.lst .bor (llL .bor tns)),some (.int z),some (.int n),some (.int w),none,none,none]:=by
  by_cases q:z % 4=1
  ·cases al with
   | true=>exact⟨0,by omega,by omega,by omega,dO (by simp[q,r.le,r.a8]) (az (v:=.int 0) (by simp) (by simp) rfl)⟩
   | false =>
    refine⟨1,by omega,by simp,by omega,bp (by simp[q,r.le,r.a8]) ?_⟩
    rw[q];exact aw
  ·refine⟨(z % 4).toNat,by omega,by omega,by omega,bp (by simp[q]) ?_⟩
   rw[show((z % 4).toNat:Int)=z % 4 by omega];exact aw
 refine ah hw ?_
 refine ah (az (v:=.int (z / 16)) (by simp[d16]) (by simp) rfl) ?_
 simp only[s0_,s1_]
 refine ah (az (v:=.lst .bor (llL .bor tns)) (by simp) (by simp[PV.noLnt,PV.has,bT _ Fl.isLnt .bor rfl]) rfl) ?_
 simp only[s0_,s1_]
 obtain⟨f7,g7,ts7,h7,hg7,hl7,ha,hb,hs⟩:∃f7 g7 ts7,Fl.toBor (Fl.lend f7)=.bor/\Fc g7/\ts7.length<=4/\(decide (ts7=tns)=!decide (z / 4 % 2=0))/\(z / 4 % 2=0->∃pre nm post,ts7=pre++nm::post/\(∀m∈pre,c9 n al m)/\fQ n al nm/\nm.length<=21)/\
   mBr (ar (mOp pEq (mOp aW (mOp aS (ac 3) (mC (.int (4)))) (mC (.int (2)))) (mC (.int (0))))) (aE 7 (ao (aA uK) (ae (ac 4) (ae (mUn (av 8) (ac 0)) (ae (ac 2) (ae (ac 6) ak)))))) aF [some o,some (.lst .bor (iL rs)),some (.lst .bor (llL .bor tns)),some (.int z),some (.int n),some (.int w),some (.int (z / 16)),some (.lst .bor (llL .bor tns)),none]
    = .next [some o,some (.lst .bor (iL rs)),some (.lst .bor (llL .bor tns)),some (.int z),some (.int n),some (.int w),some (.int (z / 16)),some (.lst f7 (llL g7 ts7)),none]:=by
  by_cases q:z / 4 % 2=0
  ·obtain⟨k,b,hk,hb,hb2,hb3⟩:=k8 (n:=n) (al:=al) (z / 16) n1 ht0 (by omega) hne
   refine⟨.own,.frz,tns.set k b,rfl,.inr rfl,by simpa using htl,?_,fun _=>⟨tns.take k,b,tns.drop (k+1),List.set_eq_take_append_cons_drop.trans (if_pos hk),fun m hm=>hg m (List.mem_of_mem_take hm),hb2,hb3⟩,dO (by simp[d4,ay,q]) (az (v:=.lst .own (llL .frz (tns.set k b))) (by simp[r.le,r.a8,hb,aM,bT _ Fl.isBor .frz rfl]) (by simp[PV.noLnt,PV.has,bT _ Fl.isLnt .frz rfl]) rfl)⟩
   have:tns.set k b≠tns:=fun e=>by
    have e2:(tns.set k b)[k]?=tns[k]?:=by rw[e]
    rw[List.getElem?_set_self hk,List.getElem?_eq_getElem hk]at e2
    exact rE (hg tns[k] (List.getElem_mem hk)) (by rw[<- Option.some.inj e2];exact hb2)
   simp[this,q]
  ·exact⟨.bor,.bor,tns,rfl,.inl rfl,htl,by simp[q],fun e=>absurd e q,bp (by simp[d4,ay,q]) aw⟩
 refine ah hs ?_
 have lb:∀xs:List (List Int),xs.length<=4->xs.length < 1000:=fun _ h=>by omega
 have tb7:Fc g7.freeze:=by
  rcases hg7 with h | h<;>rw[h]
  ·exact .inl rfl
  ·exact .inr rfl
 have bb:Fc (Fl.freeze .bor):=.inl rfl
 have sh7:(PV.lst .bor (llL g7 ts7)).mapF Fl.lend=.lst .bor (llL g7 ts7)/\(PV.lst .bor (llL g7 ts7)).mapF Fl.toBor=.lst .bor (llL g7 ts7):=⟨by simp[hg7.le],by simp[hg7.tb]⟩
 by_cases q3:z % 4=3
 ·have hw':=hw3.mpr q3
  subst hw'
  have d2:aS (.int (z / 16)) (.int 2)=.ok (.int (z / 16 / 2)):=bC (by decide) (by decide)
  obtain⟨k,hk⟩:∃k:Nat,z / 16 / 2 % 3=k:=⟨(z / 16 / 2 % 3).toNat,by omega⟩
  obtain⟨x,hx,hx2⟩:=m5 (n:=n) (z / 16)
  have sp:=lq (f:=.bor) (ff:=.bor) (rs:=rs) (fs:=List.replicate k (0,1)) (gs:=[]) (a:=x) (v:=7) bb (fun p hp=>by
   have:=(List.mem_replicate.mp hp).2
   subst this
   exact⟨by simp,by simp;omega⟩) (by rw[hn];exact hx2)
  have rf:=er (w:=3) (tns:=tns) (fs:=List.replicate k (0,1)++ [(x,7)]) (f1:=.bor) (f2:=.own) r (.inl rfl:Fc .bor) rfl rfl (.inl rfl) (.inr (.inr (.inr ⟨rfl,sp⟩)))
  have rp:qC (.lst .own [.tup [.int 0,.int 1]]) (.int (k:Int))=.ok (.lst .own (prL (List.replicate k (0,1)))):=by
   have:k=0\/k=1\/k=2:=by omega
   rcases this with rfl | rfl | rfl<;>rfl
  have pl:aZ (.lst .own (prL (List.replicate k (0,1)))) (.lst .own [.tup [.int x,.int 7]])=.ok (.lst .own (prL (List.replicate k (0,1)++ [(x,7)]))):=by
   rw[eQ (by decide) (by decide) (by simp[prL];omega)]
   simp[prL,prV]
  refine ee (dO (by simp) (bF (v:=.tup [.bl (!bt z),.bl (bt z),.bl true]) ?_ (by simp)))
  simp[d2,ay,hk,hx,rp,pl,r.le,r.tb,aM]
  rw[show(3:Int)=((3:Nat):Int)from rfl,rf]
  simp[bt,q3,aM]
 have w3:w≠3:=fun e=>q3 (hw3.mp e)
 refine ah (bp (by simp;omega) aw) ?_
 by_cases q4:z / 8 % 2=0/\z / 4 % 2=0
 ·obtain⟨pre,b,post,e7,hp,hb1,hb2⟩:=hb q4.2
  have hbt:bt z=true:=by simp[bt,q4.1,q4.2];omega
  have ha':ts7≠tns:=by simpa[q4.2]using ha
  have pl:=lb _ hl7
  have pll:pre.length < 1000:=by rw[e7]at pl;simp at pl;omega
  have nn:(0:Int)<= z / 16 % n/\z / 16 % n < n:=⟨Int.emod_nonneg _ (by omega),Int.emod_lt_of_pos _ np⟩
  have m60:aW (.int (z / 16)) (.int (10 ^ 60))=.ok (.int (z / 16 % 10 ^ 60)):=ay (by decide)
  generalize z / 16 % 10 ^ 60=v at m60
  generalize hu:z / 16 % (n:Int)=u at nn
  have sk:=iw (f:=.bor) (ff:=.bor) (rs:=rs) (fs:=[(u,v)]) bb (fun p hp=>by
   have:=List.mem_singleton.mp hp
   subst this
   exact⟨nn.1,by rw[hn];exact nn.2⟩)
  have ask:oJ w o rs [(u,v)] g7 ts7 4:=by
   have:w=0\/w=1\/w=2:=by omega
   rcases this with rfl | rfl | rfl
   ·refine .inl ⟨rfl,?_⟩
    rw[e7]
    exact qh r bb tb7 hn hp hb1 (by omega) pll
   ·refine .inr (.inl ⟨rfl,?_⟩)
    rw[e7]at pl ⊢
    exact rS r (.inl rfl) hg7 (hmv (hw1 rfl)) hn hp hb1 (by omega) pl
   ·refine .inr (.inr (.inl ⟨rfl,lI r (by simp) (by simp) sh7.1 sh7.2 sk ?_⟩))
    rw[e7]
    exact qh r bb tb7 (by rw[kj];exact hn) hp hb1 (by omega) pll
  have rf:=er (f1:=.bor) (f2:=.own) r hg7 rfl rfl (.inr rfl) ask
  refine ee (dO (by simp[d8,ay,q4.1,qM,ha']) (bF (v:=.tup [.bl (!bt z),.bl (bt z),.bl true]) ?_ (by simp)))
  have e:prL [(u,v)]=[.tup [.int u,.int v]]:=rfl
  rw[e]at rf
  simp only[iq,ip,eC,xD,xC,ic,uU,kQ,Res.ok_bind,zi]
  simp only[List.getElem?_cons_zero,List.getElem?_cons_succ,pd,qV,Res.ok_bind]
  rw[m60]
  simp[ay np,hu,r.le,r.tb,h7,hg7.le,hg7.tb,rf,aM,hbt]
 have hbt:bt z=false:=by
  by_cases e1:z / 8 % 2=0
  ·have:¬z / 4 % 2=0:=fun e=>q4 ⟨e1,e⟩
   simp[bt,this]
  ·simp[bt,e1]
 refine ah (bp (by
  by_cases e1:z / 8 % 2=0
  ·have:¬z / 4 % 2=0:=fun e=>q4 ⟨e1,e⟩
   have:ts7=tns:=by simpa[this]using ha
   simp[d8,ay,e1,qM,this]
  ·simp[d8,ay,e1]) aw) ?_
 have d2:aS (.int (z / 16)) (.int 2)=.ok (.int (z / 16 / 2)):=bC (by decide) (by decide)
 have d44:aS (.int (z / 16)) (.int 4)=.ok (.int (z / 16 / 4)):=bC (by decide) (by decide)
 by_cases q5:w=2/\z / 16 / 2 % 2=0
 ·obtain⟨rfl,q5⟩:=q5
  obtain⟨x,hx,hx2⟩:=m5 (n:=n) (z / 16 / 4)
  have sn:=lq (f:=.bor) (ff:=.bor) (rs:=rs) (fs:=[]) (gs:=[(z / 16 % n,5)]) (a:=x) (v:=3) bb (fun p hp=>nomatch hp) (by rw[hn];exact hx2)
  have rf:=er (w:=2) (tns:=ts7) (fs:=[(x,3),(z / 16 % n,5)]) (f1:=.bor) (f2:=.bor) r hg7 rfl rfl (.inl rfl) (.inr (.inr (.inl ⟨rfl,qT (by simp) (by simp) sn⟩)))
  refine ee (dO (by simp[d2,ay,q5]) (ah (az (v:=.lst .own (prL [(x,3),(z / 16 % n,5)])) (by simp[d44,hx,aM,ay np,prV]) (by simp) rfl) ?_))
  simp only[s0_,s1_]
  refine bF (v:=.tup [.bl (!bt z),.bl (bt z),.bl true]) ?_ (by simp)
  generalize [(x,(3:Int)),(z / 16 % (n:Int),5)]=Q at *
  rw[show((2:Nat):Int)=2 from rfl]at rf
  simp[r.le,r.tb,h7,hg7.le,hg7.tb,rf,aM,hbt]
 ·refine ah (bp (by
   by_cases e1:w=2
   ·have:¬z / 16 / 2 % 2=0:=fun e=>q5 ⟨e1,e⟩
    simp[d2,ay,e1,this]
   ·simp[show ¬(w:Int)=2 by omega]) aw) ?_
  obtain⟨xs,hx,hxl⟩:=k9 (rs:=rs) (z / 16) (fun e=>by rw[e]at hn;simp at hn;omega) (by omega)
  rw[hn]at hxl
  have sk:=iw (f:=.bor) (ff:=.bor) (rs:=xs) (fs:=[]) bb (fun p hp=>nomatch hp)
  have ask:oJ w o xs [] g7 ts7 3:=by
   have:w=0\/w=1\/w=2:=by omega
   rcases this with rfl | rfl | rfl
   ·exact .inl ⟨rfl,jM r hxl⟩
   ·exact .inr (.inl ⟨rfl,lY r hxl⟩)
   ·exact .inr (.inr (.inl ⟨rfl,lI r (by simp) (by simp) sh7.1 sh7.2 sk (jM r hxl)⟩))
  have rf:=er (f1:=.own) (f2:=.own) r hg7 rfl rfl (.inl rfl) ask
  refine bF (v:=.tup [.bl (!bt z),.bl (bt z),.bl true]) ?_ (by simp)
  rw[show prL []=[]from rfl]at rf
  simp[r.le,r.tb,h7,hg7.le,hg7.tb,hx,rf,aM,hbt]
end
def t7{n:Nat}{sp:Int}(h2:2<=n)(hs:2<=sp)(cs:List Int)(hn:cs.length=n)(hc:InS sp cs):mvR n (gW sp) cs≠[]:=by
 intro e
 have all:∀i,i < n->gW sp cs i=gt cs i:=fun i hi=>by
  by_cases q:gW sp cs i=gt cs i
  ·exact q
  ·have:(i:Int)∈ mvR n (gW sp) cs:=by
    unfold mvR
    exact List.mem_map.mpr ⟨i,List.mem_filter.mpr ⟨List.mem_range.mpr hi,by simpa using q⟩,rfl⟩
   rw[e]at this;cases this
 have same:∀i,i < n->gt cs i=gt cs 0:=fun i=>by
  induction i with
  | zero=>intro _;rfl
  | succ i ih =>
   intro hi
   have a:=all (i+1) hi
   unfold gW at a
   rw[if_neg (by omega)]at a
   rw[<- a]
   exact ih (by omega)
 have a:=all 0 (by omega)
 unfold gW at a
 rw[if_pos rfl,if_pos (by rw[hn];exact(same (n - 1) (by omega)).symm)]at a
 have c0:=hc _ (fL (far:=cs) (i:=0) (by omega))
 by_cases q:gt cs 0+1 < sp
 ·rw[Int.emod_eq_of_lt (by omega) q]at a;omega
 ·have:gt cs 0+1=sp:=by omega
  rw[this,Int.emod_self]at a
  omega
def gq{n:Nat}{al:Bool}(z:Int)(n1:1<=n)(n10:n<=10):∃nm:List Int,uL [.int n,.bl al,.int z]=.ok (.lst .own (iL nm))/\c9 n al nm/\nm≠[]/\nm.length<=20:=by
 suffices hh:gX (ye [some (.int n),some (.bl al),some (.int z),none]) (fun v=>∃nm:List Int,v=.lst .own (iL nm)/\c9 n al nm/\nm≠[]/\nm.length<=20) by
  obtain⟨v,h1,b,rfl,h2⟩:=hh
  exact⟨b,aH h1,h2⟩
 unfold ye
 have np:(0:Int) < n:=by omega
 have d8:aS (.int z) (.int 8)=.ok (.int (z / 8)):=bC (by decide) (by decide)
 have d128:aS (.int z) (.int 128)=.ok (.int (z / 128)):=bC (by decide) (by decide)
 have c0:=Int.emod_nonneg (z / 8) (show(n:Int)≠ 0 by omega)
 have c1:=Int.emod_lt_of_pos (z / 8) np
 generalize hc:z / 8 % (n:Int)=c at c0 c1
 refine aL (az (v:=.int c) (by simp[d8,ay np,hc]) (by simp) rfl) ?_
 simp only[s0_,s1_]
 by_cases q:al=true\/z / 128 % 2=0
 ·refine eP (by
   by_cases ha:al=true
   ·simp[ha]
   ·have:z / 128 % 2=0:=by rcases q with q | q;exact absurd q ha;exact q
    simp[ha,d128,ay,this]) (bq (v:=.lst .own (iL [c])) (bF (by simp) (by simp)) ⟨[c],rfl,⟨by simp,fun x hx=>by simp at hx;omega,fun _=>by simp,by simp⟩,by simp,by simp⟩)
 have ha:al=false:=by cases al<;>simp_all
 have q2:¬z / 128 % 2=0:=fun e=>q (.inr e)
 refine aL (bp (by simp[ha,d128,ay,q2]) aw) ?_
 obtain⟨row,hrow⟩:∃row:List Int,row=((List.range n).filter fun k:Nat=>decide ((k:Int)≠ c/\z / 2 ^ k % 2=1)).map fun k:Nat=>(k:Int):=⟨_,rfl⟩
 have rln:row.length<=n:=by
  rw[hrow,List.length_map]
  exact Nat.le_trans (List.length_filter_le _ _) (by simp)
 have rm:∀x∈row,(0<=x/\x < n)/\x≠c:=fun x hx=>by
  rw[hrow]at hx
  obtain⟨k,hk,rfl⟩:=List.mem_map.mp hx
  have h1:=List.mem_range.mp (List.mem_filter.mp hk).1
  have h2:=(List.mem_filter.mp hk).2
  simp at h2
  exact⟨by omega,h2.1⟩
 have rnd:row.Nodup:=by
  rw[hrow]
  exact List.Pairwise.map _ (fun a b h e=>h (by omega)) (List.nodup_range.filter _)
 refine bq (v:=.lst .own (iL ([c]++ row))) (bF ?_ (by simp)) ⟨_,rfl,⟨?_,fun x hx=>?_,fun z=>(by rw[ha]at z;cases z),by simp;omega⟩,by simp,by simp;omega⟩
 ·simp only[ic]
  rw [bJ (xs:=cB 0 n) (ys:=iL row) (ce (n:=n) (by simp) (by omega)) (by rw [bu];omega) (by
   rw[hrow]
   refine jf (fun k:Nat=>decide ((k:Int)≠ c/\z / 2 ^ k % 2=1)) (fun k=>(k:Int)) n fun k hk=>⟨[some (.int c),some (.int z),some (.int (0+k))],by simp[tgN,aY,cj,PV.borrow],?_,fun _=>by simp⟩
   have sh:t8 (.int z) (.int (k:Int))=.ok (.int (z / 2 ^ k)):=by simp[t8,c_]
   by_cases q:(k:Int)=c<;>simp[sh,ay,q])]
  simp
  rw[show [PV.int c]=iL [c]from rfl,eQ (by decide) (by decide) (by simp;omega)]
  simp
 ·rw[List.singleton_append,List.nodup_cons]
  exact⟨fun h=>(rm c h).2 rfl,rnd⟩
 ·rcases List.mem_append.mp hx with h | h
  ·simp at h;omega
  ·exact(rm x h).1
def l9:∀(ps:List (List Int×List Int)),PyData.canLayAll0 (dataL (ps.map (aX .frz)))=true
 | []=>rfl
 | p::ps=>by
  rw[List.map_cons]
  unfold dataL PyData.canLayAll0
  rw[l9 ps]
  simp[aX,PV.data,PyData.canLay0,dataL,PyData.canLayAll0]
def lZ:∀(ps:List (List Int×List Int)),PyData.depthAll (dataL (ps.map (aX .frz)))<= 2
 | []=>by simp[dataL,PyData.depthAll]
 | p::ps=>by
  have:=lZ ps
  rw[List.map_cons]
  unfold dataL PyData.depthAll
  simp[aX,PV.data,PyData.depth,dataL,PyData.depthAll]
  omega
def uh(f g:Fl)(ps:List (List Int×List Int)):pNe (.lst f (ps.map (aX .frz))) (.lst g (ps.map (aX .frz)))=.ok (.bl false):=by
 refine ug rfl ?_
 have:=lZ ps
 simp[shp,SeqAt.shaped,PV.data,PyData.canLay0,PyData.depth,l9]
 omega
def uX(ns:List Int)(hi:Nat){h:Int}(hh:h=hi):jd (iL ns) none (some h)=iL (ns.take hi):=by
 have e:jd (iL ns) none (some h)=jd (iL ns) (some 0) (some h):=by
  unfold jd
  rw[show(0:Int)=((0:Nat):Int)from rfl,HT.sIx_nat,HT.sIx_none]
  simp
 rw[e,xF ns 0 hi (l:=0) rfl hh]
 simp
structure KR(O o:PV)(n:Nat)(sp:Int)(al:Bool)(D:List Int->Nat->Int):Prop where
 own:O.has Fl.isBor=false
 nl:O.noLnt=true
 lb:(O.mapF Fl.lend).mapF Fl.toBor=o
 bo:O.mapF Fl.borrow=o
 r:Rl o n sp al D
 mv:al=false->∀cs,cs.length=n->InS sp cs->mvR n D cs≠[]
def law_true(fl:Fl)(ns:List Int)(h:Scr fl)(hl:ns.length<=63):vD [.lst fl (ns.map .int)]=.ok (.bl true):=by
 rw[rq]
 have cl:∀k:Nat,jv [.lst fl (iL ns),.int k]=.ok (.int (cell ns k)):=fun k=>u8 ns k h
 have c0:jv [.lst fl (iL ns),.int 0]=.ok (.int (cell ns 0)):=cl 0
 have c1:jv [.lst fl (iL ns),.int 1]=.ok (.int (cell ns 1)):=cl 1
 have c2:jv [.lst fl (iL ns),.int 2]=.ok (.int (cell ns 2)):=cl 2
 generalize cell ns 0=z0 at c0
 have d9:aS (.int z0) (.int 9)=.ok (.int (z0 / 9)):=bC (by decide) (by decide)
 have d18:aS (.int z0) (.int 18)=.ok (.int (z0 / 18)):=bC (by decide) (by decide)
 have d180:aS (.int z0) (.int 180)=.ok (.int (z0 / 180)):=bC (by decide) (by decide)
 obtain⟨n,hn⟩:∃n:Nat,2+z0 % 9=n:=⟨(2+z0 % 9).toNat,by omega⟩
 have n2:2<=n:=by omega
 have n10:n<=10:=by omega
 have np:(0:Int) < n:=by omega
 obtain⟨l,hl1,hl2,hl3⟩:=iO (cell ns 2) n (by omega)
 refine aH (v:=.bl true) ?_
 show sE [some (.lst fl (iL ns)),none,none,none,none,none,none,none,none,none]=_
 unfold sE
 refine ah (az (v:=.int z0) (by simp[h.lend,h.toBor,c0,aM]) (by simp) rfl) ?_
 simp only[s0_,s1_]
 refine ah (az (v:=.int n) (by simp[ay,hn]) (by simp) rfl) ?_
 simp only[s0_,s1_]
 have pi:=qr (size:=n) (span:=(n:Int)+z0 / 18 % 4) (by omega) (by omega) (by omega)
 refine ah (az (v:=iF .own n ((n:Int)+z0 / 18 % 4)) (by simp[d18,ay,pi,aM,PV.has]) (by simp[PV.noLnt,PV.has]) rfl) ?_
 simp only[s0_,s1_]
 obtain⟨O,o,sp,al,D,K,hs⟩:∃O o sp al D,KR O o n sp al D/\mBr (ar (mOp pEq (mOp aW (mOp aS (ac 1) (mC (.int (9)))) (mC (.int (2)))) (mC (.int (1)))))
  (aE 3 (kI 2 uJ (ae (kI 3 ow (ae (ac 2) (ae (ao (aA ox) (ae (ac 2) (ae (ao (aA jv) (ae (ac 0) (ae (mC (.int (1))) ak))) ak))) ak))) (ae (mOp aW (mOp aS (ac 1) (mC (.int (18)))) (ac 2)) ak))))
  aF [some (.lst fl (iL ns)),some (.int z0),some (.int n),some (iF .own n ((n:Int)+z0 / 18 % 4)),none,none,none,none,none,none]=.next [some (.lst fl (iL ns)),some (.int z0),some (.int n),some O,none,none,none,none,none,none]:=by
  by_cases q:z0 / 9 % 2=1
  ·obtain⟨ws,hw,Wh⟩:=sK (n:=n) (cell ns 1) (by omega) n10
   have Gd:=Wh.good (by omega)
   have hin:=uy (fl:=.own) Gd (by omega) n10 (.inl rfl) fun S h0 hc=>u6 Wh (by omega) S h0 hc
   have rg:∀x∈bK (ws.map mm),0<=x.1/\x.1 < n/\0<=x.2/\x.2 < n/\x.1≠x.2:=fun x hx=>by
    obtain⟨w,hw,rfl⟩:=List.mem_map.mp ((bR _).mem_iff.mp hx)
    have:=Gd.rg w hw
    simp only[mm]
    omega
   have hnl:∀i,(nbL (bK (ws.map mm)) i).length<=1000:=fun i=>by
    unfold nbL
    rw[(dq _).length_eq,List.length_append,List.length_map,List.length_map]
    have h1:=List.length_filter_le (fun x:Int×Int=>decide (x.2=(i:Int))) (bK (ws.map mm))
    have h2:=List.length_filter_le (fun x:Int×Int=>decide (x.1=(i:Int))) (bK (ws.map mm))
    have h3:(bK (ws.map mm)).length < 64:=by rw[(bR _).length_eq,List.length_map];exact Gd.sz
    omega
   generalize bK (ws.map mm)=ps at *
   have hnb:∀i:Nat,∀x∈nbL ps i,0<=x/\x < n:=fun i x hx=>by
    rcases m8.mp hx with q | q
    ·have:=rg _ q;omega
    ·have:=rg _ q;omega
   obtain⟨rt,hr0⟩:∃r:Nat,z0 / 18 % (n:Int)=r:=⟨(z0 / 18 % (n:Int)).toNat,by have:=Int.emod_nonneg (z0 / 18) (show(n:Int)≠ 0 by omega);omega⟩
   have hr:rt < n:=by have:=Int.emod_lt_of_pos (z0 / 18) np;omega
   have fi:=rK (f:=.own) (ps:=ps) (.inr rfl) (by omega) n10 hr
   refine⟨lea .own 2 n ps (fs n rt) n n,lea .bor 2 n ps (fs n rt) n n,_,true,nG ps (fs n rt) n n,⟨by simp[PV.has],by simp[PV.noLnt,PV.has],by simp[Fl.lend,Fl.toBor],by simp,qj (os:=fs n rt) rfl (by omega) (by omega) np (by omega) (xb (by omega)) (by simp[fs]) hnb hnl,fun z=>by cases z⟩,dO (by simp[d9,ay,q]) (az (v:=lea .own 2 n ps (fs n rt) n n) ?_ (by simp[PV.noLnt,PV.has]) rfl)⟩
   simp[h.lend,h.toBor,c1,hw,hin,d18,ay np,hr0,fi,aM,PV.has]
  ·exact⟨iF .own n ((n:Int)+z0 / 18 % 4),iF .bor n ((n:Int)+z0 / 18 % 4),_,false,gW ((n:Int)+z0 / 18 % 4),⟨by simp[PV.has],by simp[PV.noLnt,PV.has],by simp[Fl.lend,Fl.toBor],by simp,tH (by omega) (by omega) (by omega),fun _ cs hc hi=>t7 n2 (by omega) cs hc hi⟩,bp (by simp[d9,ay,q]) aw⟩
 refine ah hs ?_
 have r:=K.r
 refine ah (az (v:=.lst .own (iL l)) (by simp[h.lend,h.toBor,c2,hl1,aM]) (by simp) rfl) ?_
 simp only[s0_,s1_]
 obtain⟨k,hk⟩:∃k:Nat,1+z0 / 180 % 4=k:=⟨(1+z0 / 180 % 4).toNat,by omega⟩
 obtain⟨NM,hNM⟩:∃F:Int->List Int,∀z,uL [.int n,.bl al,.int z]=.ok (.lst .own (iL (F z)))/\c9 n al (F z)/\F z≠[]/\(F z).length<=20:=⟨fun z=>Classical.choose (gq (al:=al) z (by omega) n10),fun z=>Classical.choose_spec (gq (al:=al) z (by omega) n10)⟩
 have zl:(l.take k).length<=4:=by rw[List.length_take];omega
 have z0':l.take k≠[]:=fun e=>by
  have:(l.take k).length=0:=by rw[e];rfl
  rw[List.length_take]at this
  omega
 have ec:=uX l k hk
 generalize l.take k=zs at zl z0' ec
 refine ah (az (v:=.lst .own (llL .own (zs.map NM))) ?_ (by simp[PV.noLnt,PV.has,bT _ Fl.isLnt .own rfl]) rfl) ?_
 ·refine bJ (xs:=iL zs) (by simp only[uS,lU,eC,oA,j7,ic,uU];simp[d180,ay,ec]) (by rw[bw];omega) ?_
  rw[show llL .own (zs.map NM)=zs.map fun z=>PV.lst .own (iL (NM z)) by simp[llL]]
  exact bW (a:=PV.int) (f:=fun z=>PV.lst .own (iL (NM z))) zs fun z _=>⟨[some (.int n),some o,some (.int z)],by simp[tgN,aY,cj,PV.borrow,K.bo],by simp[r.le,r.a8,(hNM z).1,aM],by simp,by simp⟩
 simp only[s0_,s1_]
 have hgd:∀nm∈zs.map NM,c9 n al nm:=fun nm hm=>by
  obtain⟨z,_,rfl⟩:=List.mem_map.mp hm
  exact(hNM z).2.1
 have hne:∀nm∈zs.map NM,nm≠[]/\nm.length<=20:=fun nm hm=>by
  obtain⟨z,_,rfl⟩:=List.mem_map.mp hm
  exact(hNM z).2.2
 have htl:(zs.map NM).length<=4:=by simpa using zl
 have ht0:zs.map NM≠[]:=by simpa using z0'
 generalize zs.map NM=tns at *
 have cp:∀e:En,e[5]?=some (some (.lst .own (llL .own tns)))->bD [] 1 (de (ac 5)) (tgN 0) cK (ao (p1 cD) (ae (ac 0) ak)) e=.ok (.lst .own (llL .own tns)):=fun e he=>by
  refine bJ (xs:=llL .lnt tns) (by simp[he]) (by rw[kK];omega) ?_
  exact bW (a:=fun nm=>PV.lst .lnt (iL nm)) (f:=fun nm=>PV.lst .own (iL nm)) tns fun nm _=>⟨[some (.lst .bor (iL nm))],by simp[tgN,aY,cj,cE,PV.borrow,Fl.borrow],by simp,by simp,by simp⟩
 have ru:=wb (f:=.own) (ft:=.own) (fi:=.own) (rs:=l) r (.inr rfl) (.inr rfl) hl2 hgd (by omega)
 generalize hR:(fu n D (l.map (· % sp)) tns)=R at ru
 have rh:=lA (f:=.frz) (p:=Fl.isBor) rfl R
 have rh2:=lA (f:=.frz) (p:=Fl.isLnt) rfl R
 have rc:∀e:En,e[3]?=some (some O)->e[4]?=some (some (.lst .own (iL l)))->e[5]?=some (some (.lst .own (llL .own tns)))->ao (aA eV) (ae (ac 3) (ae (ao (p1 cD) (ae (ac 4) ak)) (ae (bD [] 1 (de (ac 5)) (tgN 0) cK (ao (p1 cD) (ae (ac 0) ak))) ak))) e=.ok (.lst .own (R.map (aX .frz))):=fun e e3 e4 e5=>by
  have c5:=cp e e5
  simp only[iq,ip,kQ,c5,eC,e3,e4]
  simp[K.lb,ru,aM,rh]
 refine ah (az (v:=.lst .own (R.map (aX .frz))) (rc _ rfl rfl rfl) (by simp[PV.noLnt,PV.has,rh2]) rfl) ?_
 simp only[s0_,s1_]
 have ef:=uY ns 3 (l:=3) rfl
 refine nQ (fun _ e=>∃x7 x8 x9,e=[some (.lst fl (iL ns)),some (.int z0),some (.int n),some O,some (.lst .own (iL l)),some (.lst .own (llL .own tns)),some (.lst .own (R.map (aX .frz))),x7,x8,x9]) (xs:=iL (ns.drop 3)) (by simp only[uR,lU,eC,oA,j7,uU];simp[h.lend,ef]) ⟨_,_,_,rfl⟩ (fun j x e hx hP=>?_) (fun e hP=>?_)
 ·obtain⟨x7,x8,x9,rfl⟩:=hP
  obtain⟨z,hz,rfl⟩:=kN hx
  refine⟨_,bZ rfl,?_⟩
  simp only[s0_,s1_]
  have rf:=mV r K.mv hl2 ht0 htl hgd hne z
  have d4:aS (.int z) (.int 4)=.ok (.int (z / 4)):=bC (by decide) (by decide)
  have d8:aS (.int z) (.int 8)=.ok (.int (z / 8)):=bC (by decide) (by decide)
  refine cF (az (v:=.tup [.bl (!bt z),.bl (bt z),.bl true]) (by simp[K.lb,rf,aM]) (by simp) rfl) ?_
  simp only[s0_,s1_]
  refine cF (az (v:=.bl (bt z)) (by
   by_cases q1:z % 4 < 3<;>by_cases q2:z / 4 % 2=0<;>by_cases q3:z / 8 % 2=0<;>simp[d4,d8,ay,bt,q1,q2,q3]) (by simp) rfl) ?_
  simp only[s0_,s1_]
  have e1:pNe (.tup [.bl (!bt z),.bl (bt z),.bl true]) (.tup [.bl (!bt z),.bl (bt z),.bl true])=.ok (.bl false):=by
   cases bt z<;>rfl
  refine cF (bp (by simp[e1]) aw) ?_
  refine bM (bp ?_ aw) ⟨_,_,_,rfl⟩
  have rr:=rc [some (.lst fl (iL ns)),some (.int z0),some (.int n),some O,some (.lst .own (iL l)),some (.lst .own (llL .own tns)),some (.lst .own (R.map (aX .frz))),some (.int z),some (.tup [.bl (!bt z),.bl (bt z),.bl true]),some (.bl (bt z))] rfl rfl rfl
  simp only[oz,ic,rr,eC]
  simp[uh]
 ·obtain⟨x7,x8,x9,rfl⟩:=hP
  have sk:=iw (f:=.bor) (ff:=.own) (rs:=l) (fs:=[]) (.inr rfl) (fun p hp=>nomatch hp)
  rw[show prL []=[]from rfl]at sk
  exact bF (by simp[sk,aM,spo]) (by simp)
end G
namespace G
open PySem L2 PR
def hb:sH pt.F:=⟨bn2,bn4,bn3,bn2,bn2,bn2,bn2,bn2,bn2,bn2,bn3,bn1,bn3,bn5,bn3,bn3,bn2,bn2,bn3,bn2,bn3,bn3,bn3,bn2,bn3,bn3,bn2,bn4,bn4,bn4,bn2,bn4,bn5,bn5,bn2,bn4,bn1,trivial⟩
def hs:pt.F.all scB=true:=by decide +kernel
def fin{l:PySem.W.OpenLaw}{w:World}{K:PySem.W.Frag}{mg:Str->Option Value}{fa:Addr}(t:Tx pt K mg)(hfa:mg "law" = some (.ref fa)) :
  ∃fd:FuncData,(∀(s:Shared) (u:Value),BindsTo s fd ⟨[u],[]⟩ [("_law_script", u)])/\∀base:Heap,K.In base->TG pt K mg base->bX l.prog w K mg base (CXP l.prog w) 10 fa fd ["_law_script"] (p8 K (pt.T hA K).tb):=by
 have e:=hfa.symm.trans (t.gl 36 rfl)
 cases e
 refine⟨dAt K (pt.fa K 36),fun s u=>?_,fun base hB tg=>wY (T:=T K) (wV t hB tg) law_true⟩
 obtain⟨oc,od,kV,doc,pm,an,cdv,ct,osl,e,_⟩:=(t.fn 36).ex
 rw[e]
 exact .of_eq rfl
end G
def PySem.W.Fast.tw14523972454935417992 : Unit := ()
def PySem.W.Fast.tw9123102085474097153 : Unit := ()
def PySem.W.Fast.tw12120105845495325034 : Unit := ()
def PySem.W.Fast.tw6666124307342646584 : Unit := ()
def PySem.W.Fast.tw5264760945599220809 : Unit := ()
def PySem.W.Fast.tw16545062997848205050 : Unit := ()
def PySem.W.Fast.tw13062818510451737593 : Unit := ()
def PySem.W.Fast.tw15594974756055027169 : Unit := ()
def PySem.W.Fast.tw8061415126317146896 : Unit := ()
def PySem.W.Fast.tw1729613766491811420 : Unit := ()
def PySem.W.Fast.tw9129900926447147290 : Unit := ()
def PySem.W.Fast.tw7929521609269453498 : Unit := ()
def PySem.W.Fast.tw17963314149316073081 : Unit := ()
def PySem.W.Fast.tw18103389918763396712 : Unit := ()
def PySem.W.Fast.tw13031156613252284436 : Unit := ()
def PySem.W.Fast.tw1882693499070269565 : Unit := ()
def PySem.W.Fast.tw13707649096227481158 : Unit := ()
def PySem.W.Fast.tw13738165580704460508 : Unit := ()
def PySem.W.Fast.tw12393709191965207230 : Unit := ()
def PySem.W.Fast.tw11544468383056189588 : Unit := ()
def PySem.W.Fast.tw5523244824004080011 : Unit := ()
def PySem.W.Fast.tw14638006512617339722 : Unit := ()
def PySem.W.Fast.tw17777391403812058234 : Unit := ()
def PySem.W.Fast.tw5593112216387964038 : Unit := ()
def PySem.W.Fast.tw7453246554090331375 : Unit := ()
def PySem.W.Fast.tw10400931450006538466 : Unit := ()
def PySem.W.Fast.tw5698398689264065394 : Unit := ()
def PySem.W.Fast.tw16138663378401151225 : Unit := ()
def PySem.W.Fast.tw14920131307259655181 : Unit := ()
def PySem.W.Fast.tw5813583899416522773 : Unit := ()
def PySem.W.Fast.tw10620662697357848681 : Unit := ()
def PySem.W.Fast.tw4087144196615913422 : Unit := ()
def PySem.W.Fast.tw3043540925380913073 : Unit := ()
def PySem.W.Fast.tw18107511013070372764 : Unit := ()
def PySem.W.Fast.tw9033901734967037955 : Unit := ()
def PySem.W.Fast.tw13874194684916611861 : Unit := ()
def PySem.W.Fast.tw1070687276332651545 : Unit := ()
def PySem.W.Fast.tw672362217689585680 : Unit := ()
def PySem.W.Fast.tw7224819284859231933 : Unit := ()
def PySem.W.Fast.tw6123100636260225106 : Unit := ()
def PySem.W.Fast.tw15793475207143864461 : Unit := ()
def PySem.W.Fast.tw1500894760029604834 : Unit := ()
def PySem.W.Fast.tw5698945892125460034 : Unit := ()
def PySem.W.Fast.tw16564286449234463091 : Unit := ()
def PySem.W.Fast.tw5813455219342007781 : Unit := ()
def PySem.W.Fast.tw7553776086312010572 : Unit := ()
def PySem.W.Fast.tw7646356742568152611 : Unit := ()
def PySem.W.Fast.tw17025448266748300321 : Unit := ()
def PySem.W.Fast.tw2150299795458323670 : Unit := ()
def PySem.W.Fast.tw6844835688285470683 : Unit := ()
def PySem.W.Fast.tw15729271425805595859 : Unit := ()
def PySem.W.Fast.tw6104989328548826102 : Unit := ()
def PySem.W.Fast.tw11328614437281829653 : Unit := ()
def PySem.W.Fast.tw7488194995013168374 : Unit := ()
def PySem.W.Fast.tw18339731925643506610 : Unit := ()
def PySem.W.Fast.tw13251109500556841040 : Unit := ()
def PySem.W.Fast.tw13832550264088857181 : Unit := ()
def PySem.W.Fast.tw15358077487095700673 : Unit := ()
def PySem.W.Fast.tw16314372643272994189 : Unit := ()
def PySem.W.Fast.tw5513403927300459373 : Unit := ()
def PySem.W.Fast.tw7569988337422712347 : Unit := ()
def PySem.W.Fast.tw12440965003523404282 : Unit := ()
def PySem.W.Fast.tw2212752446120361052 : Unit := ()
def PySem.W.Fast.tw12637028478816903887 : Unit := ()
def PySem.W.Fast.tw6743361019752309641 : Unit := ()
def PySem.W.Fast.tw790381962005839134 : Unit := ()
def PySem.W.Fast.tw14656376496067221106 : Unit := ()
def PySem.W.Fast.tw4804627572834275860 : Unit := ()
def PySem.W.Fast.tw10116653649171177852 : Unit := ()
def PySem.W.Fast.tw5054611899632144874 : Unit := ()
def PySem.W.Fast.tw8254473747450636812 : Unit := ()
def PySem.W.Fast.tw5608126325127748956 : Unit := ()
def PySem.W.Fast.tw18002738707012312798 : Unit := ()
def PySem.W.Fast.tw15442467004948443999 : Unit := ()
def PySem.W.Fast.tw6673195084007472531 : Unit := ()
def PySem.W.Fast.tw8096842455122676506 : Unit := ()
def PySem.W.Fast.tw2224812156139939 : Unit := ()
def PySem.W.Fast.tw8156217835088162462 : Unit := ()
def PySem.W.Fast.tw2075211770670121551 : Unit := ()
def PySem.W.Fast.tw9485557754135824928 : Unit := ()
def PySem.W.Fast.tw15977013712184113950 : Unit := ()
def PySem.W.Fast.tw11395389254343157729 : Unit := ()
def PySem.W.Fast.tw5889126129921384045 : Unit := ()
def PySem.W.Fast.tw7750884679742629994 : Unit := ()
def PySem.W.Fast.tw3807424939377903908 : Unit := ()
def PySem.W.Fast.tw17586931829126093168 : Unit := ()
def PySem.W.Fast.tw13274709652342268596 : Unit := ()
def PySem.W.Fast.tw2029021315340725397 : Unit := ()
def PySem.W.Fast.tw12551349219945148773 : Unit := ()
def PySem.W.Fast.tw9381051482316805080 : Unit := ()
def PySem.W.Fast.tw6759555875597354596 : Unit := ()
def PySem.W.Fast.tw1986862110461545455 : Unit := ()
def PySem.W.Fast.tw9519018914428102060 : Unit := ()
def PySem.W.Fast.tw17368144359250317681 : Unit := ()
def PySem.W.Fast.tw9560045692282439890 : Unit := ()
def PySem.W.Fast.tw2782289949789037178 : Unit := ()
def PySem.W.Fast.tw11766161054392912553 : Unit := ()
def PySem.W.Fast.tw18337403931067353837 : Unit := ()
def PySem.W.Fast.tw4825163943006973997 : Unit := ()
def PySem.W.Fast.tw4787728078725508242 : Unit := ()
def PySem.W.Fast.tw4508886488910521107 : Unit := ()
def PySem.W.Fast.tw9439402934381408318 : Unit := ()
def PySem.W.Fast.tw13028835430971484077 : Unit := ()
def PySem.W.Fast.tw17219450412414521397 : Unit := ()
def PySem.W.Fast.tw12294083342024300695 : Unit := ()
def PySem.W.Fast.tw13212386953314713277 : Unit := ()
def PySem.W.Fast.tw12347465357491900397 : Unit := ()
def PySem.W.Fast.tw10216025534294504222 : Unit := ()
def PySem.W.Fast.tw877577867938660625 : Unit := ()
def PySem.W.Fast.tw13220806409646014085 : Unit := ()
def PySem.W.Fast.tw525279790316909528 : Unit := ()
def PySem.W.Fast.tw4469006071250337714 : Unit := ()
def PySem.W.Fast.tw11879524001628409701 : Unit := ()
def PySem.W.Fast.tw1914063724582604692 : Unit := ()
def PySem.W.Fast.tw17683755968319000720 : Unit := ()
def PySem.W.Fast.tw7225548817709246374 : Unit := ()
def PySem.W.Fast.tw12936030658902836827 : Unit := ()
def PySem.W.Fast.tw10173139718057541066 : Unit := ()
def PySem.W.Fast.tw8912651417540043932 : Unit := ()
def PySem.W.Fast.tw13938070940989806934 : Unit := ()
def PySem.W.Fast.tw14679933527463806840 : Unit := ()
def PySem.W.Fast.tw13469098608109247942 : Unit := ()
def PySem.W.Fast.tw3717175867631875317 : Unit := ()
def PySem.W.Fast.tw11703061234061393126 : Unit := ()
def PySem.W.Fast.tw10499456866027892173 : Unit := ()
def PySem.W.Fast.tw15805525226836746173 : Unit := ()
def PySem.W.Fast.tw7563849806661763277 : Unit := ()
def PySem.W.Fast.tw409424697069949276 : Unit := ()
def PySem.W.Fast.tw13758781327468866893 : Unit := ()
def PySem.W.Fast.tw640868801679951368 : Unit := ()
def PySem.W.Fast.tw3158200684228480587 : Unit := ()
def PySem.W.Fast.tw4405494487463017825 : Unit := ()
def PySem.W.Fast.tw12662796420574476341 : Unit := ()
def PySem.W.Fast.tw15213277562936481883 : Unit := ()
def PySem.W.Fast.tw14428013861983425815 : Unit := ()
def PySem.W.Fast.tw1283053505080038543 : Unit := ()
def PySem.W.Fast.tw14208720197305759220 : Unit := ()
def PySem.W.Fast.tw6886157141572893565 : Unit := ()
def PySem.W.Fast.tw847154073497018015 : Unit := ()
def PySem.W.Fast.tw13489519367845369966 : Unit := ()
def PySem.W.Fast.tw1745833507842912024 : Unit := ()
def PySem.W.Fast.tw17778769598409379583 : Unit := ()
def PySem.W.Fast.tw13424221455229961323 : Unit := ()
def PySem.W.Fast.tw15572646991371697768 : Unit := ()
def PySem.W.Fast.tw14489997000670653016 : Unit := ()
def PySem.W.Fast.tw13311009900054387118 : Unit := ()
def PySem.W.Fast.tw15969809618159676032 : Unit := ()
def PySem.W.Fast.tw3062643855216226576 : Unit := ()
def PySem.W.Fast.tw14961926771001089801 : Unit := ()
def PySem.W.Fast.tw10527375870260632184 : Unit := ()
def PySem.W.Fast.tw10696332060553943115 : Unit := ()
def PySem.W.Fast.tw47256328608909914 : Unit := ()
def PySem.W.Fast.tw15592526162522228727 : Unit := ()
def PySem.W.Fast.tw8961448611000302705 : Unit := ()
def PySem.W.Fast.tw11552430158825377772 : Unit := ()
def PySem.W.Fast.tw16380123391545087109 : Unit := ()
def PySem.W.Fast.tw10449404421011185551 : Unit := ()
def PySem.W.Fast.tw6264830175060557836 : Unit := ()
def PySem.W.Fast.tw17092817639210922731 : Unit := ()
def PySem.W.Fast.tw13902068844381650369 : Unit := ()
def PySem.W.Fast.tw1441889737973571872 : Unit := ()
def PySem.W.Fast.tw14657594235624929984 : Unit := ()
def PySem.W.Fast.tw2663009220043765017 : Unit := ()
def PySem.W.Fast.tw7831503567133003314 : Unit := ()
def PySem.W.Fast.tw158825187076444987 : Unit := ()
def PySem.W.Fast.tw11728515098488952411 : Unit := ()
def PySem.W.Fast.tw5986674477037263894 : Unit := ()
def PySem.W.Fast.tw13738440931842106923 : Unit := ()
def PySem.W.Fast.tw13357937894248148593 : Unit := ()
def PySem.W.Fast.tw16884879124174682628 : Unit := ()
def PySem.W.Fast.tw4249925185871316217 : Unit := ()
def PySem.W.Fast.tw2467168544125116612 : Unit := ()
def PySem.W.Fast.tw12082846574426344573 : Unit := ()
def PySem.W.Fast.tw5208564343006598493 : Unit := ()
def PySem.W.Fast.tw6667252681882128060 : Unit := ()
def PySem.W.Fast.tw16535663640102350235 : Unit := ()
def PySem.W.Fast.tw1385867680232258753 : Unit := ()
def PySem.W.Fast.tw10309651067860087244 : Unit := ()
def PySem.W.Fast.tw15462200460718478490 : Unit := ()
def PySem.W.Fast.tw8434156704710671598 : Unit := ()
def PySem.W.Fast.tw1687648591430765843 : Unit := ()
def PySem.W.Fast.tw12683765815559322930 : Unit := ()
def PySem.W.Fast.tw7870759008372734694 : Unit := ()
def PySem.W.Fast.tw3239721048517854021 : Unit := ()
def PySem.W.Fast.tw10663708168401060006 : Unit := ()
def PySem.W.Fast.tw16619703524498831466 : Unit := ()
def PySem.W.Fast.tw9658386943016332775 : Unit := ()
def PySem.W.Fast.tw10594092422659292512 : Unit := ()
def PySem.W.Fast.tw879690796133802633 : Unit := ()
def PySem.W.Fast.tw12315815012578282004 : Unit := ()
def PySem.W.Fast.tw7721935115013794172 : Unit := ()
def PySem.W.Fast.tw2547665298360666283 : Unit := ()
def PySem.W.Fast.tw18113693830239318185 : Unit := ()
def PySem.W.Fast.tw4961480539952630331 : Unit := ()
def PySem.W.Fast.tw12268734861107545988 : Unit := ()
def PySem.W.Fast.tw8906934894116318085 : Unit := ()
def PySem.W.Fast.tw9265175928701866627 : Unit := ()
def PySem.W.Fast.tw1385606626204522150 : Unit := ()
def PySem.W.Fast.tw4657098397108063016 : Unit := ()
def PySem.W.Fast.tw16823000244377318379 : Unit := ()
def PySem.W.Fast.tw8331204933657236016 : Unit := ()
def PySem.W.Fast.tw6072821918368768385 : Unit := ()
open PySem PySem.W PyProof.Rows
set_option maxRecDepth 100000 in
set_option maxHeartbeats 0 in
theorem PySem.Challenge.cw_calmring_k39_run_refused_holds : PySem.Challenge.rw_calmring_k39_run_refused.Holds := by
 w_on;o_law;k_head;(case hw=>w_witness2)
 k_fill
 refine PR.pD _root_.G.pt _root_.G.hA (l:=PySem.Challenge.rw_calmring_k39_run_refused) (k:=10) (x := "_law_script") rfl rfl ⟨rfl,by decide,by decide⟩ (fun w h Y=>PySem.W.km_in_of Y) ?r ?G ?F
 (case r=>kernel_rfl)
 (case G=>exact fun w=>by kernel_rfl)
 case F =>
  intro w mg fa h KX G hmg
  refine' _root_.G.fin (_root_.PR.Tx.of KX G _root_.G.hb _root_.G.hs ?a ?b ?c ?d ?e ?f ?g) hmg
  (case a=>exact fun z=>nomatch z)
  (case b=>exact fun z=>nomatch z)
  (case c=>exact fun z=>nomatch z)
  (case d=>kernel_rfl)
  (case e=>kernel_rfl)
  (case f=>kernel_rfl)
  (case g=>kernel_rfl)
