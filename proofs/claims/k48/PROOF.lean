import PyProof.Rows.All
import Wide.All
import OpenK.AllK
import Wide.FinOn
import Lean
import PyProof.EqAt
import PyProof.EqKinds
import PyProof.TupleCall
import PySem.Challenge.RW_calmring_k48_play_refused
set_option Elab.async false
set_option linter.all false
set_option maxRecDepth 100000
namespace L2
open PySem PySem.Spec PyProof.Rows
abbrev Key:=Sum Int Str
def wD:Key->Value->Bool
 | .inl k,v=>Value.isInt k v
 | .inr x,v=>Value.isStrOf x v
def DF(w:World):Key->Int
 | .inl k=>hashInt k
 | .inr x=>hashStr w x
theorem bu:∀{k:Key}{v:Value},wD k v=true->(∃i t,k=Sum.inl i/\v=Value.int i t)\/(∃x t,k=Sum.inr x/\v=Value.str x t)
 | .inl i,v,h=>by
  obtain⟨t,e⟩:=Value.isInt_shape (k:=i) (v:=v) h
  exact .inl ⟨i,t,rfl,e⟩
 | .inr x,v,h=>by
  obtain⟨t,e⟩:=Value.isStrOf_shape (x:=x) (v:=v) h
  exact .inr ⟨x,t,rfl,e⟩
theorem y4(a b:Int):decide ((Sum.inl a:Key)=Sum.inl b)=(a==b):=by
 by_cases e:a=b
 ·subst e;simp
 ·have h:¬(Sum.inl a:Key)=Sum.inl b:=fun q=>e (Sum.inl.inj q)
  rw[decide_eq_false h]
  exact(beq_eq_false_iff_ne.mpr e).symm
theorem y1(a b:Str):decide ((Sum.inr a:Key)=Sum.inr b)=decide (a=b):=by
 by_cases e:a=b
 ·subst e;simp
 ·have h:¬(Sum.inr a:Key)=Sum.inr b:=fun q=>e (Sum.inr.inj q)
  rw[decide_eq_false h,decide_eq_false e]
theorem y3(a:Int)(b:Str):decide ((Sum.inl a:Key)=Sum.inr b)=false:=decide_eq_false (fun q=>nomatch q)
theorem y2(a:Str)(b:Int):decide ((Sum.inr a:Key)=Sum.inl b)=false:=decide_eq_false (fun q=>nomatch q)
def kL(prog:Program)(w:World):PySem.KeyKind prog w Key where
 is:=wD
 hash:=DF w
 inj:=fun v a b ha hb=>by
  rcases bu ha with⟨i,t,rfl,rfl⟩ |⟨x,t,rfl,rfl⟩
  ·rcases bu hb with⟨j,u,rfl,e⟩ |⟨y,u,rfl,e⟩
   ·injection e with e1 _;rw[e1]
   ·exact nomatch e
  ·rcases bu hb with⟨j,u,rfl,e⟩ |⟨y,u,rfl,e⟩
   ·exact nomatch e
   ·injection e with e1 _;rw[e1]
 byValue:=fun k v h=>by
  rcases bu h with⟨i,t,rfl,rfl⟩ |⟨x,t,rfl,rfl⟩<;>rfl
 pyHash:=fun hv h=>by
  rcases bu hv with⟨i,t,rfl,rfl⟩ |⟨x,t,rfl,rfl⟩
  ·exact wpAny_pyHash_int h
  ·exact wpAny_pyHash_str h
 eqBool:=fun hu hv h=>by
  rcases bu hu with⟨i,t,rfl,rfl⟩ |⟨x,t,rfl,rfl⟩
  ·rcases bu hv with⟨j,u,rfl,rfl⟩ |⟨y,u,rfl,rfl⟩
   ·rw[y4]at h;exact wpAny_eqBool_int h
   ·rw[y3]at h;exact SeqAt.EqAt.int_str i t y u _ _ _ _ h
  ·rcases bu hv with⟨j,u,rfl,rfl⟩ |⟨y,u,rfl,rfl⟩
   ·rw[y2]at h;exact SeqAt.EqAt.str_int x t j u _ _ _ _ h
   ·rw[y1]at h;exact wpAny_eqBool_str h
 «strs»:=fun k x t v h=>by
  rcases bu h with⟨i,u,rfl,e⟩ |⟨y,u,rfl,e⟩
  ·exact nomatch e
  ·injection e with e1 _
   subst e1
   cases v<;>rfl
end L2
namespace L2
open PySem PySem.Spec PyProof.Rows
inductive V where
 | non | bl (b:Bool) | int (i:Int) | str (x:Str) | byt (b:Array UInt8) | flt (b:UInt64) | ref (a:Addr) | ty (n:String)
 deriving DecidableEq
def aW:V->Value->Prop
 | .non,u=>u=Value.none
 | .bl b,u=>u=Value.bool b
 | .int i,u=>∃t,u=Value.int i t
 | .str x,u=>∃t,u=Value.str x t
 | .byt b,u=>∃t,u=Value.bytes b t
 | .flt b,u=>∃t,u=Value.float b t
 | .ref a,u=>u=Value.ref a
 | .ty n,u=>u=Value.type n
abbrev aI:List V->List Value->Prop:=Paired aW
theorem aI.length{xs:List V}{us:List Value}(r:aI xs us):xs.length=us.length:=Paired.length r
theorem aI.get:∀{xs:List V}{us:List Value}{i:Nat}{x:V},aI xs us->xs[i]?=some x->∃u,us[i]?=some u/\aW x u
 | _,_,_,_,.nil,e=>by simp at e
 | _,_,0,_,.cons r _,e=>by simp at e;subst e;exact⟨_,rfl,r⟩
 | _,_,i+1,x,.cons _ t,e=>by
  obtain⟨u,h1,h2⟩:=aI.get (i:=i) (x:=x) t (by simpa using e)
  exact⟨u,by simpa using h1,h2⟩
theorem aI.set{x:V}{u:Value}(r:aW x u):∀{xs:List V}{us:List Value} (i:Nat),aI xs us->aI (xs.set i x) (us.set i u)
 | _,_,_,.nil=>.nil
 | _,_,0,.cons _ t=>.cons r t
 | _,_,i+1,.cons q t=>.cons q (aI.set r i t)
theorem aI.append:∀{xs ys:List V}{us ws:List Value},aI xs us->aI ys ws->aI (xs++ys) (us++ws)
 | _,_,_,_,.nil,s=>s
 | _,_,_,_,.cons r t,s=>.cons r (aI.append t s)
theorem aI.take:∀{xs:List V}{us:List Value} (n:Nat),aI xs us->aI (xs.take n) (us.take n)
 | _,_,0,_ | _,_,_+1,.nil=>.nil
 | _,_,n+1,.cons r t=>.cons r (aI.take n t)
theorem aI.drop:∀{xs:List V}{us:List Value} (n:Nat),aI xs us->aI (xs.drop n) (us.drop n)
 | _,_,0,r=>r
 | _,_,_+1,.nil=>.nil
 | _,_,n+1,.cons _ t=>aI.drop n t
def jM:Option V->Option Value->Prop
 | some v,some u=>aW v u
 | none,none=>True
 | _,_=>False
def KV{κ:Type}:List (κ×V)->List (κ×Value)->Prop:=Paired fun(p:κ×V) (q:κ×Value)=>p.1=q.1/\aW p.2 q.2
def kV:Key->V
 | .inl i=>.int i
 | .inr x=>.str x
inductive HO where
 | lst (xs:List V)
 | tup (xs:List V)
 | dK (kvs:List (Key×V)) | dT (kvs:List (List Key×V))
 | set(S:Int->Bool) (n:Nat)
 | ins (C dx:Addr) (fs:List (Str×V))
 | own (x:Addr)
 | xd (fs:List (Str×V))
 | met (f x:Addr)
 | rng (lo hi:Int)
 | frz (o:Obj) (u:HO)
 | tbl (ps:Array Value)
 | ext (φ:Heap->Prop)
abbrev Hp:=Addr->Option HO
def upd(H:Hp)(a:Addr)(o:HO):Hp:=fun b=>if b=a then some o else H b
theorem aX{H:Hp}{a:Addr}{o:HO}:upd H a o a=some o:=by unfold upd;rw[if_pos rfl]
theorem aE{H:Hp}{a b:Addr}{o:HO}(h:b≠a):upd H a o b=H b:=by unfold upd;rw[if_neg h]
theorem bj{H:Hp}{a b:Addr}{o:HO}(h:H a=some o)(h':H b=none):a≠b:=by
 intro e;subst e;rw[h]at h';cases h'
section
variable(P:Program)(w:World)
def bW(H:Hp)(h:Heap)(a:Addr):HO->Prop
 | .lst xs=>xs.length<=sizeLine/\∃(its:List Value) (n:Nat),aI xs its/\h.get? a=some { cls:=.type "list", data:=.seq its.toArray n }
 | .tup xs=>xs.length<=sizeLine/\∃its:List Value,aI xs its/\IsTup h a its.toArray
 | .dK kvs=>kvs.length<=sizeLine/\(a==sysModules)=false/\∃vs,KV kvs vs/\h.DictOf (kL P w) a vs
 | .dT kvs=>kvs.length<=sizeLine/\(a==sysModules)=false/\∃xs:List (List Key×Addr×Value),
   Paired (fun(p:List Key×V) (q:List Key×Addr×Value)=>p.1=q.1/\H q.2.1=some (.tup (p.1.map kV))/\aW p.2 q.2.2) kvs xs /\
   ∃o es ep,h.get? a=some o/\o.ExactDict/\o.data=.dict es ep/\es.toList=xs.map (entryOfKey (tupleKind (kL P w)))/\(xs.map (·.1)).Nodup
 | .set S n=>h.SetOf (intKind P w) a S n
 | .ins C dx fs=>H dx=some (.own a)/\fs.length<=1000/\dx≠a/\h.get? a=some (PySem.W.instObj C dx)/\
   ∃mA,h.Ns1 dx mA/\(∀f,jM (fs.lookup f) (mA f))/\PySem.Within mA (fs.map (·.1))
 | .own _=>∃o,h.get? a=some o
 | .xd fs=>∃mA,h.Ns1 a mA/\∀f,jM (fs.lookup f) (mA f)
 | .rng lo hi=>∃t u v,h.get? a=some { cls:=.type "range", data:=.fields #[.int lo t,.int hi u,.int 1 v] }
 | .frz o u=>h.get? a=some o/\bW H h a u
 | .tbl ps=>h.get? a=some { cls:=.none,data:=.fields ps }
 | .met f x=>h.get? a=some (PySem.W.methodObj (.ref f) (.ref x))
 | .ext φ=>φ h/\(∃o,h.get? a=some o)/\∀h1 h2:Heap,φ h1->(∀o,h1.get? a=some o->h2.get? a=some o)->φ h2
def HOk(H:Hp)(h:Heap):Prop:=∀a o,H a=some o->bW P w H h a o
end
section
variable{P:Program}{w:World}{H H':Hp}{h h':Heap}{a:Addr}{o:HO}
theorem bW.lt(x:bW P w H h a o):a < h.objs.size:=by
 cases o with
 | lst xs=>obtain⟨_,_,_,_,e⟩:=x;exact Heap.lt_size e
 | tup xs=>obtain⟨_,_,_,p⟩:=x;exact p.lt
 | dK kvs | dT kvs=>obtain⟨_,_,_,_,o,_,_,e,_⟩:=x;exact Heap.lt_size e
 | set S n=>obtain⟨o,_,_,_,e,_⟩:=x;exact Heap.lt_size e
 | ins C dx fs=>obtain⟨_,_,_,e,_⟩:=x;exact Heap.lt_size e
 | own y=>obtain⟨_,e⟩:=x;exact Heap.lt_size e
 | xd fs=>obtain⟨_,⟨_,_,_,e,_⟩,_⟩:=x;exact Heap.lt_size e
 | rng lo hi=>obtain⟨_,_,_,e⟩:=x;exact Heap.lt_size e
 | frz ob u=>obtain⟨e,_⟩:=x;exact Heap.lt_size e
 | tbl ps | met f y=>exact Heap.lt_size (show h.get? a=some _ from x)
 | ext φ=>obtain⟨_,⟨_,e⟩,_⟩:=x;exact Heap.lt_size e
theorem Paired.mapP{α β:Type}{F G:α->β->Prop}:∀{l₁:List α}{l₂:List β},Paired F l₁ l₂->(∀a b,F a b->G a b)->Paired G l₁ l₂
 | _,_,.nil,_=>.nil
 | _,_,.cons r t,f=>.cons (f _ _ r) (Paired.mapP t f)
theorem bW.stay(x:bW P w H h a o)(k:∀b u,(b=a\/H b=some (.own a))->h.get? b=some u->h'.get? b=some u)
  (ho:∀b,H b=some (.own a)->H' b=some (.own a)) (ht:∀b xs,H b=some (.tup xs)->H' b=some (.tup xs)):bW P w H' h' a o:=by
 induction o with
 | lst xs=>obtain⟨z,its,n,r,e⟩:=x;exact⟨z,its,n,r,k _ _ (.inl rfl) e⟩
 | tup xs=>obtain⟨z,its,r,ob,e,c⟩:=x;exact⟨z,its,r,ob,k _ _ (.inl rfl) e,c⟩
 | dK kvs=>obtain⟨z,y,vs,r,ob,es,ep,e,c⟩:=x;exact⟨z,y,vs,r,ob,es,ep,k _ _ (.inl rfl) e,c⟩
 | dT kvs =>
  obtain⟨z,y,xs,r,ob,es,ep,e,c⟩:=x
  exact⟨z,y,xs,Paired.mapP r fun p q z=>⟨z.1,ht _ _ z.2.1,z.2.2⟩,ob,es,ep,k _ _ (.inl rfl) e,c⟩
 | set S n=>obtain⟨ob,es,ep,t,e,c⟩:=x;exact⟨ob,es,ep,t,k _ _ (.inl rfl) e,c⟩
 | ins C dx fs =>
  obtain⟨d,z,ne,e,mA,⟨od,es,ep,e2,c⟩,r⟩:=x
  exact⟨ho _ d,z,ne,k _ _ (.inl rfl) e,mA,⟨od,es,ep,k _ _ (.inr d) e2,c⟩,r⟩
 | own y=>obtain⟨ob,e⟩:=x;exact⟨ob,k _ _ (.inl rfl) e⟩
 | xd fs=>obtain⟨mA,⟨od,es,ep,e,c⟩,r⟩:=x;exact⟨mA,⟨od,es,ep,k _ _ (.inl rfl) e,c⟩,r⟩
 | rng lo hi=>obtain⟨t,u,v,e⟩:=x;exact⟨t,u,v,k _ _ (.inl rfl) e⟩
 | frz ob u ih=>obtain⟨e,q⟩:=x;exact⟨k _ _ (.inl rfl) e,ih q⟩
 | tbl ps =>
  have e:h.get? a=some { cls:=.none,data:=.fields ps }:=x
  show h'.get? a=some { cls:=.none,data:=.fields ps }
  exact k a _ (.inl rfl) e
 | met f y =>
  have e:h.get? a=some (PySem.W.methodObj (.ref f) (.ref y)):=x
  show h'.get? a=some (PySem.W.methodObj (.ref f) (.ref y))
  exact k a _ (.inl rfl) e
 | ext φ=>obtain⟨p,⟨o,e⟩,st⟩:=x;exact⟨st _ _ p fun o q=>k _ _ (.inl rfl) q,⟨o,k _ _ (.inl rfl) e⟩,st⟩
theorem HOk.lt(x:HOk P w H h)(e:H a=some o):a < h.objs.size:=(x a o e).lt
theorem HOk.fresh(x:HOk P w H h)(e:h.objs.size<=a):H a=none:=by
 cases q:H a with
 | none=>rfl
 | some u=>exact absurd (Nat.lt_of_lt_of_le (x.lt q) e) (Nat.lt_irrefl _)
theorem HOk.kept(x:HOk P w H h)(k:∀b u,h.get? b=some u->h'.get? b=some u):HOk P w H h':=fun a o e =>
 (x a o e).stay (fun b u _ q=>k b u q) (fun _ q=>q) fun _ _ q=>q
theorem HOk.laid(x:HOk P w H h)(k:∀b u,h.get? b=some u->h'.get? b=some u)(hp:h.objs.size<=a)(new:bW P w (upd H a o) h' a o):HOk P w (upd H a o) h':=fun b u e=>by
 have hn:=x.fresh hp
 by_cases hb:b=a
 ·subst hb;rw[aX]at e;cases e;exact new
 ·rw[aE hb]at e
  exact(x b u e).stay (fun c v _ q=>k c v q) (fun c q=>by rw[aE (bj q hn)];exact q) fun c xs q=>by rw[aE (bj q hn)];exact q
end
def Rd(H:Hp)(a:Addr)(u:HO):Prop:=H a=some u\/∃o,H a=some (.frz o u)
theorem Rd.of{H:Hp}{a:Addr}{u:HO}(h:H a=some u):Rd H a u:=.inl h
theorem Rd.ok{P:Program}{w:World}{H:Hp}{h:Heap}{a:Addr}{u:HO}(r:Rd H a u)(x:HOk P w H h):bW P w H h a u:=by
 rcases r with r |⟨o,r⟩
 ·exact x a u r
 ·obtain⟨_,q⟩:=x a _ r
  exact q
def Mut:Option HO->Prop
 | some (.lst _) | some (.dK _) | some (.dT _) | some (.set _ _) | some (.ins _ _ _) | some (.ext _)=>True
 | _=>False
section
variable{P:Program}{w:World}{H:Hp}{h h':Heap}{x e:Addr}{o':HO}
theorem HOk.write(ok:HOk P w H h)(mu:Mut (H x))(he:e=x\/H e=some (.own x))(k:∀b u,b≠e->h.get? b=some u->h'.get? b=some u)(heo:∃u,h'.get? e=some u)
  (new:bW P w (upd H x o') h' x o'):HOk P w (upd H x o') h':=fun b u q=>by
 have nown:∀c y,H c=some (.own y)->c≠x:=fun c y r z=>by subst z;rw[r]at mu;exact mu
 have ntup:∀c xs,H c=some (.tup xs)->c≠x:=fun c xs r z=>by subst z;rw[r]at mu;exact mu
 by_cases hb:b=x
 ·subst hb;rw[aX]at q;cases q;exact new
 ·rw[aE hb]at q
  by_cases hbe:b=e
  ·have q':H b=some (.own x):=by
    rcases he with z | z
    ·exact absurd (hbe.trans z) hb
    ·rw[hbe];exact z
   rw[q]at q';cases q'
   obtain⟨v,hv⟩:=heo
   exact⟨v,by rw[hbe];exact hv⟩
  ·refine(ok b u q).stay (fun c v hc r=>k c v ?_ r) (fun c r=>by rw[aE (nown c b r)];exact r) fun c xs r=>by rw[aE (ntup c xs r)];exact r
   rcases hc with rfl | hc
   ·exact hbe
   ·rintro rfl
    rcases he with z | z
    ·exact nown c b hc z
    ·rw[hc]at z;cases z;exact hb rfl
end
structure Un(fs ex:List Addr)(H H':Hp)(h h':Heap):Prop where
 keep:∀b o,h.get? b=some o->H b=none->b∉fs->b∉ex->h'.get? b=some o
 slot:∀b o,h.get? b=some o->H b=none->b∈fs->b∉ex->∃sl,h'.get? b=some { o with slots:=sl }
 free:∀b o,h.get? b=some o->H b=none->b∉ex->H' b=none
 there:∀b o,h.get? b=some o->b∉ex->∃o',h'.get? b=some o'
 tups:∀b xs,H b=some (.tup xs)->H' b=some (.tup xs)
 frzs:∀b o u,H b=some (.frz o u)->H' b=some (.frz o u)
 tbls:∀b ps,H b=some (.tbl ps)->∃more,H' b=some (.tbl (ps++more))
section
variable{fs fs' ex ex':List Addr}{H H1 H2:Hp}{h h1 h2 h':Heap}{a x e:Addr}{o:HO}
theorem Un.any(u:Un fs ex H H1 h h1){b:Addr}{ob:Obj}(q:h.get? b=some ob)(n:H b=none)(hx:b∉ex):∃sl,h1.get? b=some { ob with slots:=sl }:=by
 by_cases hb:b∈fs
 ·exact u.slot b ob q n hb hx
 ·exact⟨ob.slots,u.keep b ob q n hb hx⟩
theorem Un.trans(a:Un fs ex H H1 h h1)(b:Un fs ex H1 H2 h1 h2):Un fs ex H H2 h h2 where
 keep:=fun c ob q n hc hx=>b.keep c ob (a.keep c ob q n hc hx) (a.free c ob q n hx) hc hx
 slot:=fun c ob q n hc hx=>by
  obtain⟨sl,e1⟩:=a.slot c ob q n hc hx
  obtain⟨sl',e2⟩:=b.slot c _ e1 (a.free c ob q n hx) hc hx
  exact⟨sl',e2⟩
 free:=fun c ob q n hx=>by
  obtain⟨o',e1⟩:=a.there c ob q hx
  exact b.free c o' e1 (a.free c ob q n hx) hx
 there:=fun c ob q hx=>by
  obtain⟨o',e1⟩:=a.there c ob q hx
  exact b.there c o' e1 hx
 tups:=fun c xs q=>b.tups c xs (a.tups c xs q)
 frzs:=fun c ob xs q=>b.frzs c ob xs (a.frzs c ob xs q)
 tbls:=fun c ps q=>by
  obtain⟨m1,e1⟩:=a.tbls c ps q
  obtain⟨m2,e2⟩:=b.tbls c _ e1
  exact⟨m1++m2,by rw[e2,Array.append_assoc]⟩
theorem Un.kept(k:∀b u,h.get? b=some u->h'.get? b=some u):Un fs ex H H h h' :=
 ⟨fun b ob q _ _ _=>k b ob q,fun b ob q _ _ _=>⟨ob.slots,k b ob q⟩,fun _ _ _ n _=>n,fun b ob q _=>⟨ob,k b ob q⟩,fun _ _ q=>q,fun _ _ _ q=>q,fun _ ps q=>⟨#[],by rw[q];simp⟩⟩
theorem Un.refl:Un fs ex H H h h:=Un.kept fun _ _ q=>q
theorem Un.laid(k:∀b u,h.get? b=some u->h'.get? b=some u)(hp:h.objs.size<=a)(hn:H a=none):Un fs ex H (upd H a o) h h' where
 keep:=fun b u q _ _ _=>k b u q
 slot:=fun b u q _ _ _=>⟨u.slots,k b u q⟩
 free:=fun b u q n _=>by rw[aE (Nat.ne_of_lt (Nat.lt_of_lt_of_le (Heap.lt_size q) hp))];exact n
 there:=fun b u q _=>⟨u,k b u q⟩
 tups:=fun b xs q=>by rw[aE (bj q hn)];exact q
 frzs:=fun b u xs q=>by rw[aE (bj q hn)];exact q
 tbls:=fun b ps q=>⟨#[],by rw[aE (bj q hn),q];simp⟩
theorem Un.write(mu:Mut (H x))(he:e=x\/H e=some (.own x))(k:∀b u,b≠e->h.get? b=some u->h'.get? b=some u)(heo:∃u,h'.get? e=some u):Un fs ex H (upd H x o) h h':=by
 have hx:∀b,H b=none->b≠x:=fun b n z=>by subst z;rw[n]at mu;exact mu
 have hb:∀b,H b=none->b≠e:=fun b n z=>by
  subst z
  rcases he with r | r
  ·exact hx b n r
  ·rw[n]at r;cases r
 have hm:∀b u,H b=some u->¬Mut (some u)->b≠x:=fun b u q nm z=>by subst z;rw[q]at mu;exact nm mu
 refine ⟨fun b u q n _ _=>k b u (hb b n) q,fun b u q n _ _=>⟨u.slots,k b u (hb b n) q⟩,fun b u q n _=>by rw [aE (hx b n)];exact n,fun b u q _=>?_,
  fun b xs q=>by rw[aE (hm b _ q fun z=>z)];exact q,fun b u xs q=>by rw[aE (hm b _ q fun z=>z)];exact q,fun b ps q=>⟨#[],by rw[aE (hm b _ q fun z=>z),q];simp⟩⟩
 by_cases hbe:b=e
 ·subst hbe;exact heo
 ·exact⟨u,k b u hbe q⟩
theorem Un.mono(u:Un fs ex H H1 h h1)(hs:∀b∈fs,b∈fs')(hx:∀b∈ex,b∈ex'):Un fs' ex' H H1 h h1 :=
 ⟨fun b ob q n hb he=>u.keep b ob q n (fun z=>hb (hs b z)) fun z=>he (hx b z),fun _ _ q n _ he=>u.any q n fun z=>he (hx _ z),fun b ob q n he=>u.free b ob q n fun z=>he (hx b z),fun b ob q he=>u.there b ob q fun z=>he (hx b z),u.tups,u.frzs,u.tbls⟩
end
def trk(h:Heap)(H:Hp):List Addr:=(List.range h.objs.size).filter fun a=>(H a).isSome
def kR(h:Heap)(H:Hp):Heap:=PySem.W.hideAll h (trk h H)
theorem qc(h:Heap)(H:Hp):(kR h H).objs.size=h.objs.size:=PySem.W.hideAll_size _ _
theorem sT{h:Heap}{H:Hp}{b:Addr}{o:Obj}(e:h.get? b=some o)(n:H b=none):(kR h H).get? b=some o :=
 PySem.W.hideAll_get _ e fun hm=>by
  have q:(H b).isSome=true:=(List.mem_filter.mp hm).2
  rw[n]at q;simp at q
theorem vh{h:Heap}{H:Hp}{b:Addr}{o:Obj}(e:(kR h H).get? b=some o):h.get? b=some o/\H b=none:=by
 have e':h.get? b=some o:=PySem.W.of_hideAll (trk h H) e
 refine⟨e',?_⟩
 cases q:H b with
 | none=>rfl
 | some x =>
  have hm:b∈trk h H:=List.mem_filter.mpr ⟨List.mem_range.mpr (Heap.lt_size e'),by simp[q]⟩
  have z:(kR h H).get? b=none:=PySem.W.hideAll_none (trk h H) hm
  rw[z]at e;cases e
def v_(g h:Heap)(L:Addr):List (Addr×Obj):=(List.range h.objs.size).filterMap fun a=>if a=L \/(g.get? a).isSome=true then none else(h.get? a).map fun o=>(a,o)
def bf(g h:Heap)(L d:Addr):List (Addr×Obj):=(v_ g h L).filter fun p=>decide (p.1≠d)
end L2
namespace L2
open PySem PySem.Spec PyProof.Rows
structure Mod(K:PySem.W.Frag)(mg:Str->Option Value)(base:Heap):Prop where
 kin:K.In base
 glob:base.Ns mainGlobals mg
 blt:∃mb,base.Ns builtinsNs mb/\∀x:Str,x≠"__name__" -> mb x=bootBuiltins x
 nolimit:base.NoLimit
structure Cx where
 prog:Program
 w:World
 K:PySem.W.Frag
 mg:Str->Option Value
 base:Heap
 A:Around
 N:List Str
 s₀:Shared
 H₀:Hp
 env:Env
 outer:List Env
 stack:List Env
 ex:List Addr
 fn:Str->Bool
 calm:Bool
 pn:List (Addr×Obj)
 xe:Value->Shared->Prop
def frs(l:List Env):List Addr:=l.filterMap (·.frame)
abbrev Cx.fs(X:Cx):List Addr:=frs X.outer
def Vis(sc:Scope)(x:Str):Prop:=sc.names.lookup x=some .local\/sc.names.lookup x=some .cell\/sc.names.lookup x=some .free
def Loc(sc:Scope)(x:Str):Prop:=sc.names.lookup x=some .local\/sc.names.lookup x=some .cell
def Eh(env:Env)(h:Heap)(m:Str->Option Value)(x:Str)(u:Value):Prop :=
 (env.kindOf x=some .local/\m x=some u)\/((env.kindOf x=some .cell\/env.kindOf x=some .free)/\∃c,env.cells.lookup x=some c/\h.IsCell c (some u))
structure Cx.Ok(X:Cx):Prop where
 mod:Mod X.K X.mg X.base
 kind:X.env.scope.kind=.function
 glob:X.env.globals=mainGlobals
 blt:X.env.builtins=builtinsNs
 above:X.s₀.heap.objs.size<=X.env.locals
 inj:∀x y c,X.env.cells.lookup x=some c->X.env.cells.lookup y=some c->x=y
 has:∀x,(X.env.kindOf x=some .cell\/X.env.kindOf x=some .free)->∃c,X.env.cells.lookup x=some c
 cab:∀x c,X.fn x=true->X.env.cells.lookup x=some c->X.s₀.heap.objs.size<=c
 hd:X.calm=true->X.A.handled=none
 frames:X.A.frames=some X.stack
 stk:X.stack=X.outer \/(X.stack=X.env::X.outer/\X.env.frame=some X.env.locals)
 exf:∀b∈X.ex,b≠X.env.locals/\∀x c,X.env.cells.lookup x=some c->c≠b
 bs:∀b o,X.base.get? b=some o->X.s₀.heap.get? b=some o/\X.H₀ b=none
 bsz:X.base.objs.size<=X.s₀.heap.objs.size
 noex:∀b o,X.base.get? b=some o->b∉X.ex
 exfs:∀b∈X.ex,b∉X.fs
 funs:X.s₀.heap.FunFrames X.base X.outer
 frf:∀b∈X.fs,X.H₀ b=none
structure Inv(X:Cx)(pins:List (Addr×Obj))(σ:List (Option V))(H:Hp)(s:Shared):Prop where
 ok:X.Ok
 os:s.os=X.s₀.os
 bare:AllBare s.gens
 base:Un X.fs X.ex X.H₀ H X.s₀.heap s.heap
 loc:∃m,s.heap.Ns X.env.locals m/\∀(i:Nat) (x:Str) (v:V),X.N[i]?=some x->σ[i]?=some (some v)->Vis X.env.scope x->∃u,aW v u/\Eh X.env s.heap m x u
 cell:∀x c,X.env.cells.lookup x=some c->∃v,s.heap.IsCell c v
 free:H X.env.locals=none
 freeC:∀x c,X.env.cells.lookup x=some c->H c=none
 pin:∀p∈X.pn++pins,s.heap.get? p.1=some p.2/\H p.1=none/\p.1≠X.env.locals/\p.1∉X.fs/\∀v,p.2.data≠.cell v
 hok:HOk X.prog X.w H s.heap
 len:σ.length=X.N.length
section
variable{X:Cx}{pins:List (Addr×Obj)}{σ:List (Option V)}{H H':Hp}{s:Shared}{h':Heap}
theorem Cx.Ok.nofr(ok:X.Ok){b:Addr}{o:Obj}(e:X.base.get? b=some o):b∉X.fs:=fun hb=>by
 have:=(ok.funs.mem hb).1
 rw[e]at this;cases this
theorem Inv.bs(I:Inv X pins σ H s):∀b o,X.base.get? b=some o->s.heap.get? b=some o/\H b=none:=fun b o e =>
 ⟨I.base.keep b o (I.ok.bs b o e).1 (I.ok.bs b o e).2 (I.ok.nofr e) (I.ok.noex b o e),I.base.free b o (I.ok.bs b o e).1 (I.ok.bs b o e).2 (I.ok.noex b o e)⟩
theorem Inv.bk(I:Inv X pins σ H s):∀b o,X.base.get? b=some o->s.heap.get? b=some o:=fun b o e=>(I.bs b o e).1
theorem Inv.mod(I:Inv X pins σ H s):Mod X.K X.mg X.base:=I.ok.mod
theorem Inv.kIn(I:Inv X pins σ H s):X.K.In s.heap:=I.ok.mod.kin.keeps I.bk
theorem Inv.lt(I:Inv X pins σ H s):X.env.locals < s.heap.objs.size:=let⟨_,hn,_⟩:=I.loc;hn.lt
theorem Inv.sz(I:Inv X pins σ H s):X.s₀.heap.objs.size<=s.heap.objs.size:=Nat.le_trans I.ok.above (Nat.le_of_lt I.lt)
theorem Inv.nofs(I:Inv X pins σ H s){a:Addr}(h:s.heap.objs.size<=a):a∉X.fs:=fun hb=>by
 obtain⟨_,o,ho,_⟩:=I.ok.funs.mem hb
 exact absurd (Nat.lt_of_lt_of_le (Heap.lt_size ho) (Nat.le_trans I.sz h)) (Nat.lt_irrefl _)
theorem Inv.cne(I:Inv X pins σ H s):∀x c,X.env.cells.lookup x=some c->c≠X.env.locals:=fun x c e z=>by
 obtain⟨v,o,ho,hd⟩:=I.cell x c e
 obtain⟨m,⟨o',es,ep,ho',hd',_⟩,_⟩:=I.loc
 rw[z,ho']at ho;cases ho;rw[hd']at hd;cases hd
theorem Inv.funs(I:Inv X pins σ H s):s.heap.FunFrames X.base X.outer:=by
 have all:∀(l:List Env),(∀b∈frs l,b∈X.fs)->X.s₀.heap.FunFrames X.base l->s.heap.FunFrames X.base l:=by
  intro l
  induction l with
  | nil=>intro _ _;trivial
  | cons env r ih =>
   intro hs hl
   obtain⟨hk,⟨L,o,hf,hn,ho,hd⟩,hr⟩:=hl
   have hL:L∈X.fs:=hs L (by unfold frs;rw[List.filterMap_cons,hf];exact List.mem_cons_self)
   obtain⟨sl,e⟩:=I.base.slot L o ho (I.ok.frf L hL) hL fun z=>I.ok.exfs L z hL
   exact⟨hk,⟨L,_,hf,hn,e,hd⟩,ih (fun b hb=>hs b (by unfold frs;rw[List.filterMap_cons,hf];exact List.mem_cons_of_mem _ hb)) hr⟩
 exact all X.outer (fun _ hb=>hb) I.ok.funs
theorem Inv.stack(I:Inv X pins σ H s):s.heap.FunFrames X.base X.stack:=by
 rcases I.ok.stk with e |⟨e,hf⟩
 ·rw[e];exact I.funs
 ·rw[e]
  obtain⟨m,hn,_⟩:=I.loc
  refine .cons (by rw[I.ok.kind];decide) hf hn ?_ I.funs
  exact Heap.get?_none_of_le (Nat.le_trans I.ok.bsz I.ok.above)
theorem Inv.stkSub(I:Inv X pins σ H s):∀b∈frs X.stack,b∈X.env.locals::X.fs:=fun b hb=>by
 rcases I.ok.stk with e |⟨e,hf⟩
 ·rw[e]at hb;exact List.mem_cons_of_mem _ hb
 ·rw[e]at hb
  unfold frs at hb
  rw[List.filterMap_cons,hf]at hb
  exact hb
theorem Inv.stkFree(I:Inv X pins σ H s):∀b∈frs X.stack,H b=none:=fun b hb=>by
 rcases List.mem_cons.mp (I.stkSub b hb)with e | hb
 ·rw[e];exact I.free
 ·obtain⟨_,o,ho,_⟩:=I.ok.funs.mem hb
  exact I.base.free b o ho (I.ok.frf b hb) fun z=>I.ok.exfs b z hb
theorem Inv.step{g':Array GenState}{t':Nat}{d':Drawn}{ch:List Addr}(I:Inv X pins σ H s)
  (hch:∀b∈ch,(b∈X.ex\/X.s₀.heap.objs.size<=b)/\b≠X.env.locals/\(∀x c,X.env.cells.lookup x=some c->c≠b)/\∀p∈X.pn++pins,p.1≠b)
  (keep:∀b o,b≠X.env.locals->b∉X.fs->b∉ch->s.heap.get? b=some o->H b=none->h'.get? b=some o)
  (slot:∀b o,b≠X.env.locals->b∈X.fs->b∉ch->s.heap.get? b=some o->H b=none->∃sl,h'.get? b=some { o with slots:=sl }) (free:∀b o,b∉ch->s.heap.get? b=some o->H b=none->H' b=none)
  (there:∀b o,b∉ch->s.heap.get? b=some o->∃o',h'.get? b=some o')
  (tups:∀b xs,H b=some (.tup xs)->H' b=some (.tup xs)) (frzs:∀b o u,H b=some (.frz o u)->H' b=some (.frz o u)) (tbls:∀b ps,H b=some (.tbl ps)->∃more,H' b=some (.tbl (ps++more)))
  (ns:∀m,s.heap.Ns X.env.locals m->h'.Ns X.env.locals m) (hok:HOk X.prog X.w H' h') (hg:AllBare g') :
  Inv X pins σ H' { s with heap:=h',gens:=g',drawn:=d',toks:=t' }:=by
 have neL:∀b o,X.s₀.heap.get? b=some o->b≠X.env.locals:=fun b o e=>Nat.ne_of_lt (Nat.lt_of_lt_of_le (Heap.lt_size e) I.ok.above)
 have neC:∀b o,X.s₀.heap.get? b=some o->b∉X.ex->b∉ch:=fun b o e hx hb=>by
  rcases(hch b hb).1 with z | z
  ·exact hx z
  ·exact absurd (Nat.lt_of_lt_of_le (Heap.lt_size e) z) (Nat.lt_irrefl _)
 have cellK:∀x c,X.env.cells.lookup x=some c->∀v,s.heap.IsCell c v->h'.IsCell c v:=fun x c e v ⟨o,ho,hd⟩=>by
  have nch:c∉ch:=fun z=>(hch c z).2.2.1 x c e rfl
  by_cases hc:c∈X.fs
  ·obtain⟨sl,q⟩:=slot c o (I.cne x c e) hc nch ho (I.freeC x c e)
   exact⟨_,q,hd⟩
  ·exact⟨o,keep c o (I.cne x c e) hc nch ho (I.freeC x c e),hd⟩
 refine⟨I.ok,I.os,hg,⟨fun b o e n hb hx=>?_,fun b o e n hb hx=>?_,fun b o e n hx=>?_,fun b o e hx=>?_,fun b xs e=>tups b xs (I.base.tups b xs e),fun b o xs e=>frzs b o xs (I.base.frzs b o xs e),fun b ps e=>?_⟩,?_,fun x c e=>?_,?_,fun x c e=>?_,fun p hp=>?_,hok,I.len⟩
 ·exact keep b o (neL b o e) hb (neC b o e hx) (I.base.keep b o e n hb hx) (I.base.free b o e n hx)
 ·obtain⟨sl,e1⟩:=I.base.slot b o e n hb hx
  obtain⟨sl',e2⟩:=slot b _ (neL b o e) hb (neC b o e hx) e1 (I.base.free b o e n hx)
  exact⟨sl',e2⟩
 ·obtain⟨o',e1⟩:=I.base.there b o e hx
  exact free b o' (neC b o e hx) e1 (I.base.free b o e n hx)
 ·obtain⟨o',e1⟩:=I.base.there b o e hx
  exact there b o' (neC b o e hx) e1
 ·obtain⟨m1,e1⟩:=I.base.tbls b ps e
  obtain⟨m2,e2⟩:=tbls b _ e1
  exact⟨m1++m2,by rw[e2,Array.append_assoc]⟩
 ·obtain⟨m,hn,hl⟩:=I.loc
  refine⟨m,ns m hn,fun i x v e1 e2 e3=>?_⟩
  obtain⟨u,r,l⟩:=hl i x v e1 e2 e3
  refine⟨u,r,?_⟩
  rcases l with l |⟨k,c,e,z⟩
  ·exact .inl l
  ·exact .inr ⟨k,c,e,cellK x c e _ z⟩
 ·obtain⟨v,z⟩:=I.cell x c e
  exact⟨v,cellK x c e v z⟩
 ·obtain⟨m,⟨o,_,_,ho,_⟩,_⟩:=I.loc
  exact free _ o (fun z=>(hch _ z).2.1 rfl) ho I.free
 ·obtain⟨v,o,ho,hd⟩:=I.cell x c e
  exact free c o (fun z=>(hch c z).2.2.1 x c e rfl) ho (I.freeC x c e)
 ·obtain⟨e,n,ne,nf,d⟩:=I.pin p hp
  have nch:p.1∉ch:=fun z=>(hch p.1 z).2.2.2 p hp rfl
  exact⟨keep p.1 p.2 ne nf nch e n,free p.1 p.2 nch e n,ne,nf,d⟩
theorem Inv.un{t':Nat}(I:Inv X pins σ H s)(u:Un X.fs [] H H' s.heap h')(hok:HOk X.prog X.w H' h'):Inv X pins σ H' { s with heap:=h',toks:=t' }:=by
 obtain⟨m,⟨o,es,ep,ho,r⟩,_⟩:=id I.loc
 obtain⟨sl,hL⟩:=u.any ho I.free (by simp)
 exact I.step (g':=s.gens) (d':=s.drawn) (ch:=[]) (fun _ z=>nomatch z) (fun b o _ hb _ e n=>u.keep b o e n hb (by simp)) (fun b o _ hb _ e n=>u.slot b o e n hb (by simp)) (fun b o _ e n=>u.free b o e n (by simp)) (fun b o _ e=>u.there b o e (by simp)) u.tups u.frzs u.tbls (fun m' hm=>by
  obtain⟨o',es',ep',ho',r'⟩:=hm
  rw[ho]at ho';cases ho'
  exact⟨_,es',ep',hL,r'⟩) hok I.bare
theorem Inv.call{g':Array GenState}{t':Nat}{d':Drawn}{ch:List Addr}(I:Inv X pins σ H s)(u:Un (frs X.stack) ch H H' s.heap h')(hok:HOk X.prog X.w H' h')(hg:AllBare g')
  (hch:∀b∈ch,(b∈X.ex\/X.s₀.heap.objs.size<=b)/\b≠X.env.locals/\(∀x c,X.env.cells.lookup x=some c->c≠b)/\∀p∈X.pn++pins,p.1≠b) :
  Inv X pins σ H' { s with heap:=h',gens:=g',drawn:=d',toks:=t' }:=by
 obtain⟨m,⟨o,es,ep,ho,r⟩,_⟩:=id I.loc
 obtain⟨sl,hL⟩:=u.any ho I.free fun z=>(hch _ z).2.1 rfl
 exact I.step (ch:=ch) hch (fun b o hL hb hc e n=>u.keep b o e n (fun z=>(List.mem_cons.mp (I.stkSub b z)).elim hL hb) hc) (fun b o _ _ hc e n=>u.any e n hc) (fun b o hc e n=>u.free b o e n hc) (fun b o hc e=>u.there b o e hc) u.tups u.frzs u.tbls (fun m' hm=>by
  obtain⟨o',es',ep',ho',r'⟩:=hm
  rw[ho]at ho';cases ho'
  exact⟨_,es',ep',hL,r'⟩) hok hg
theorem Inv.turned{t':Nat}{it:Addr}(I:Inv X pins σ H s)(k:∀b o,b≠it->s.heap.get? b=some o->h'.get? b=some o)(hn:H it=none)(hL:it≠X.env.locals)
  (h1:it∈X.ex\/X.s₀.heap.objs.size<=it) (h2:∀x c,X.env.cells.lookup x=some c->c≠it) (h3:∀p∈X.pn++pins,p.1≠it):Inv X pins σ H { s with heap:=h',toks:=t' }:=by
 have nit:∀b u,H b=some u->b≠it:=fun b u e z=>by rw[z,hn]at e;cases e
 refine I.step (g':=s.gens) (d':=s.drawn) (ch:=[it]) (fun b hb=>?_) (fun b o _ _ hc e _=>k b o (fun z=>hc (by simp[z])) e) (fun b o _ _ hc e _=>⟨o.slots,k b o (fun z=>hc (by simp[z])) e⟩) (fun _ _ _ _ n=>n)
  (fun b o hc e=>⟨o,k b o (fun z=>hc (by simp[z])) e⟩) (fun _ _ e=>e) (fun _ _ _ e=>e) (fun b ps e=>⟨#[],by rw[e];simp⟩) (fun m hm=>?_) (fun b u e=>?_) I.bare
 ·have e:b=it:=by simpa using hb
  subst e
  exact⟨h1,hL,h2,h3⟩
 ·obtain⟨o,es,ep,ho,r⟩:=hm
  exact⟨o,es,ep,k _ o (Ne.symm hL) ho,r⟩
 ·refine(I.hok b u e).stay (fun c v hc q=>k c v ?_ q) (fun _ q=>q) fun _ _ q=>q
  rcases hc with z | z
  ·rw[z];exact nit b u e
  ·exact nit c _ z
theorem Inv.tok(I:Inv X pins σ H s)(t:Nat):Inv X pins σ H { s with toks:=t }:=I.un (h':=s.heap) (t':=t) Un.refl I.hok
theorem Inv.kept{t':Nat}(I:Inv X pins σ H s)(k:∀b u,s.heap.get? b=some u->h'.get? b=some u):Inv X pins σ H { s with heap:=h',toks:=t' }:=I.un (Un.kept k) (I.hok.kept k)
theorem Inv.laid{a:Addr}{o:HO}{t':Nat}(I:Inv X pins σ H s)(k:∀b u,s.heap.get? b=some u->h'.get? b=some u)(hp:s.heap.objs.size<=a)(new:bW X.prog X.w (upd H a o) h' a o) :
  Inv X pins σ (upd H a o) { s with heap:=h',toks:=t' }:=I.un (Un.laid k hp (I.hok.fresh hp)) (I.hok.laid k hp new)
theorem Inv.write{x e:Addr}{o:HO}{t':Nat}(I:Inv X pins σ H s)(mu:Mut (H x))(he:e=x\/H e=some (.own x))(k:∀b u,b≠e->s.heap.get? b=some u->h'.get? b=some u)(heo:∃u,h'.get? e=some u)
  (new:bW X.prog X.w (upd H x o) h' x o):Inv X pins σ (upd H x o) { s with heap:=h',toks:=t' }:=I.un (Un.write mu he k heo) (I.hok.write mu he k heo new)
theorem Inv.pins_of{pins':List (Addr×Obj)}(I:Inv X pins σ H s)(h:∀p∈pins',s.heap.get? p.1=some p.2/\H p.1=none/\p.1≠X.env.locals/\p.1∉X.fs/\∀v,p.2.data≠.cell v):Inv X pins' σ H s :=
 ⟨I.ok,I.os,I.bare,I.base,I.loc,I.cell,I.free,I.freeC,fun p hp=>(List.mem_append.mp hp).elim (fun z=>I.pin p (List.mem_append_left _ z)) (h p),I.hok,I.len⟩
theorem je{N:List Str}(hN:N.Nodup){i j:Nat}{x:Str}(a:N[i]?=some x)(b:N[j]?=some x):i=j:=by
 obtain⟨h1,e1⟩:=List.getElem?_eq_some_iff.mp a
 obtain⟨h2,e2⟩:=List.getElem?_eq_some_iff.mp b
 exact(List.getElem_inj hN).mp (e1.trans e2.symm)
theorem jS{M:Model}{A:Around}{E:Value->Shared->Prop}{i:Nat}{x:Str}{v:V}{u:Value}{Q:Unit->Shared->Prop}(I:Inv X pins σ H s)(hN:X.N.Nodup)(hi:X.N[i]?=some x)(hx:Loc X.env.scope x)(r:aW v u)
  (h:∀s',Inv X pins (σ.set i (some v)) H s'->(∃a,Heap.SameBut a s.heap s'.heap/\(a=X.env.locals\/X.env.cells.lookup x=some a))->Q () s') (hf:X.fn x=true\/X.env.scope.names.lookup x=some .local:=by first | exact .inl rfl | exact .inr rfl | assumption):wpAny M A (storeName X.env x u) Q E s:=by
 obtain⟨m,hn,hl⟩:=id I.loc
 have hcls:(X.env.scope.kind==.class ||(X.env.scope.kind==.module&&X.env.locals != X.env.globals))=false:=by rw[I.ok.kind];rfl
 have hiσ:i < σ.length:=by rw[I.len];exact(List.getElem?_eq_some_iff.mp hi).1
 have cne:=I.cne
 have tracked:∀{a:Addr}{h':Heap},(∃o,s.heap.get? a=some o/\H a=none)->Heap.SameBut a s.heap h'->HOk X.prog X.w H h':=fun {a h'} ha hs b ob e=>by
  obtain⟨_,_,hfree⟩:=ha
  refine(I.hok b ob e).stay (fun c w' hc q=>(hs.2 c ?_).trans q) (fun _ q=>q) fun _ _ q=>q
  rintro rfl
  rcases hc with rfl | hc
  ·rw[hfree]at e;cases e
  ·rw[hfree]at hc;cases hc
 rcases hx with hk | hk
 ·refine wpAny_storeName_local hk hn (fun h' hn' hs=>?_) hcls
  obtain⟨oL,_,_,hoL,_⟩:=id hn
  refine h _ ⟨I.ok,I.os,I.bare,⟨fun b o e n hb hx=>?_,fun b o e n hb hx=>?_,I.base.free,fun b o e hx=>?_,I.base.tups,I.base.frzs,I.base.tbls⟩,⟨_,hn',fun j y v' e1 e2 e3=>?_⟩,fun y c e=>?_,I.free,I.freeC,fun p hp=>?_,tracked ⟨oL,hoL,I.free⟩ hs,by simpa using I.len⟩ ⟨_,hs,.inl rfl⟩
  ·exact(hs.2 b (Nat.ne_of_lt (Nat.lt_of_lt_of_le (Heap.lt_size e) I.ok.above))).trans (I.base.keep b o e n hb hx)
  ·obtain⟨sl,e1⟩:=I.base.slot b o e n hb hx
   exact⟨sl,(hs.2 b (Nat.ne_of_lt (Nat.lt_of_lt_of_le (Heap.lt_size e) I.ok.above))).trans e1⟩
  ·obtain⟨o',e1⟩:=I.base.there b o e hx
   exact⟨o',(hs.2 b (Nat.ne_of_lt (Nat.lt_of_lt_of_le (Heap.lt_size e) I.ok.above))).trans e1⟩
  ·by_cases hj:j=i
   ·subst hj
    rw[hi]at e1;cases e1
    rw[List.getElem?_set_self hiσ]at e2
    cases e2
    exact⟨u,r,.inl ⟨hk,by simp⟩⟩
   ·rw[List.getElem?_set_ne (Ne.symm hj)]at e2
    obtain⟨u',r',q⟩:=hl j y v' e1 e2 e3
    refine⟨u',r',?_⟩
    rcases q with⟨k,e⟩ |⟨k,c,e,z⟩
    ·refine .inl ⟨k,?_⟩
     have:y≠x:=fun e=>hj (je hN e1 (e▸hi))
     simp[this,e]
    ·exact .inr ⟨k,c,e,z.sameBut hs (cne y c e)⟩
  ·obtain⟨w',z⟩:=I.cell y c e
   exact⟨w',z.sameBut hs (cne y c e)⟩
  ·obtain⟨e,n,ne,nf,d⟩:=I.pin p hp
   exact⟨(hs.2 p.1 ne).trans e,n,ne,nf,d⟩
 ·have hfn:X.fn x=true:=by
   rcases hf with z | z
   ·exact z
   ·rw[z]at hk;cases hk
  obtain⟨c,hc⟩:=I.ok.has x (.inl hk)
  obtain⟨w',z⟩:=I.cell x c hc
  refine wpAny_storeName_cell I.ok.kind hk hc z (fun h' hc' hs=>?_)
  obtain⟨oc,hoc,hocd⟩:=id z
  refine h { s with heap:=h' } ⟨I.ok,I.os,I.bare,⟨fun b o e n hb hx=>?_,fun b o e n hb hx=>?_,I.base.free,fun b o e hx=>?_,I.base.tups,I.base.frzs,I.base.tbls⟩,⟨m,hn.sameBut hs (Ne.symm (cne x c hc)),fun j y v' e1 e2 e3=>?_⟩,fun y c' e=>?_,I.free,I.freeC,fun p hp=>?_,tracked ⟨oc,hoc,I.freeC x c hc⟩ hs,by simpa using I.len⟩ ⟨c,hs,.inr hc⟩
  ·exact(hs.2 b (Nat.ne_of_lt (Nat.lt_of_lt_of_le (Heap.lt_size e) (I.ok.cab x c hfn hc)))).trans (I.base.keep b o e n hb hx)
  ·obtain⟨sl,e1⟩:=I.base.slot b o e n hb hx
   exact⟨sl,(hs.2 b (Nat.ne_of_lt (Nat.lt_of_lt_of_le (Heap.lt_size e) (I.ok.cab x c hfn hc)))).trans e1⟩
  ·obtain⟨o',e1⟩:=I.base.there b o e hx
   exact⟨o',(hs.2 b (Nat.ne_of_lt (Nat.lt_of_lt_of_le (Heap.lt_size e) (I.ok.cab x c hfn hc)))).trans e1⟩
  ·by_cases hj:j=i
   ·subst hj
    rw[hi]at e1;cases e1
    rw[List.getElem?_set_self hiσ]at e2
    cases e2
    exact⟨u,r,.inr ⟨.inl hk,c,hc,hc'⟩⟩
   ·rw[List.getElem?_set_ne (Ne.symm hj)]at e2
    obtain⟨u',r',q⟩:=hl j y v' e1 e2 e3
    refine⟨u',r',?_⟩
    rcases q with q |⟨k,c',e,z'⟩
    ·exact .inl q
    ·refine .inr ⟨k,c',e,z'.sameBut hs ?_⟩
     rintro rfl
     exact hj (je hN e1 (I.ok.inj _ _ _ e hc▸hi))
  ·by_cases hcc:c'=c
   ·subst hcc;exact⟨_,hc'⟩
   ·obtain⟨w2,z2⟩:=I.cell y c' e
    exact⟨w2,z2.sameBut hs hcc⟩
  ·obtain⟨e,n,ne,nf,d⟩:=I.pin p hp
   refine⟨(hs.2 p.1 ?_).trans e,n,ne,nf,d⟩
   intro q
   rw[q,hoc]at e
   have q':oc=p.2:=Option.some.inj e
   exact d w' (by rw[<- q'];exact hocd)
theorem iK{M:Model}{A:Around}{E:Value->Shared->Prop}{i:Nat}{x:Str}{v:V}{u:Value}{Q:Unit->Shared->Prop}(I:Inv X pins σ H s)(hN:X.N.Nodup)(hi:X.N[i]?=some x)(hx:Loc X.env.scope x)(r:aW v u)
  (h:∀s',Inv X pins (σ.set i (some v)) H s'->Q () s') (hf:X.fn x=true\/X.env.scope.names.lookup x=some .local:=by first | exact .inl rfl | exact .inr rfl | assumption):wpAny M A (storeName X.env x u) Q E s :=
 jS I hN hi hx r (fun s' I' _=>h s' I') hf
theorem Inv.call'{s':Shared}{ch:List Addr}(I:Inv X pins σ H s)(ho:s'.os=s.os)(u:Un (frs X.stack) ch H H' s.heap s'.heap)(hok:HOk X.prog X.w H' s'.heap)(hg:AllBare s'.gens)
  (hch:∀b∈ch,(b∈X.ex\/X.s₀.heap.objs.size<=b)/\b≠X.env.locals/\(∀x c,X.env.cells.lookup x=some c->c≠b)/\∀p∈X.pn++pins,p.1≠b):Inv X pins σ H' s':=by
 obtain⟨h',g',d',t',o'⟩:=s'
 have e:o'=s.os:=ho
 subst e
 exact I.call (g':=g') (t':=t') (d':=d') u hok hg hch
end
abbrev XK:=Value->Option Addr->Hp->Prop
abbrev St:=List (Option V)
abbrev VK:=V->Hp->Prop
abbrev TE:=St->Hp->VK->Prop
abbrev TT:=St->Hp->(Bool->Hp->Prop)->Prop
abbrev TA:=St->Hp->(List V->Hp->Prop)->Prop
structure Ends where
 nx:St->Hp->Prop
 rt:VK
 bk:St->Hp->Prop:=fun _ _=>False
 ct:St->Hp->Prop:=fun _ _=>False
abbrev TS:=Ends->St->Hp->Prop
def EP(X:Cx)(pins:List (Addr×Obj))(σ:St)(Q:VK)(u:Value)(s':Shared):Prop:=∃v H',Inv X pins σ H' s'/\aW v u/\Q v H'
def TP(X:Cx)(pins:List (Addr×Obj))(σ:St)(Q:Bool->Hp->Prop)(b:Bool)(s':Shared):Prop:=∃H',Inv X pins σ H' s'/\Q b H'
def AP(X:Cx)(pins:List (Addr×Obj))(σ:St)(Q:List V->Hp->Prop)(us:List Value)(s':Shared):Prop:=∃vs H',Inv X pins σ H' s'/\aI vs us/\Q vs H'
def SP(X:Cx)(pins:List (Addr×Obj))(D:Ends)(f:Flow)(s':Shared):Prop :=
 match f with
 | .next=>∃σ' H',Inv X pins σ' H' s'/\D.nx σ' H'
 | .brk=>∃σ' H',Inv X pins σ' H' s'/\D.bk σ' H'
 | .cont=>∃σ' H',Inv X pins σ' H' s'/\D.ct σ' H'
 | .ret u=>∃v σ' H',Inv X pins σ' H' s'/\aW v u/\D.rt v H'
def PE(X:Cx)(e:Expr)(t:TE):Prop :=
 ∀(pins:List (Addr×Obj)) (s:Shared) (σ:St) (H:Hp) (Q:VK),Inv X pins σ H s->t σ H Q->wpAny (model X.prog X.w) X.A (eval e X.env) (EP X pins σ Q) X.xe s
def PT(X:Cx)(e:Expr)(t:TT):Prop :=
 ∀(pins:List (Addr×Obj)) (s:Shared) (σ:St) (H:Hp) (Q:Bool->Hp->Prop),Inv X pins σ H s->t σ H Q->wpAny (model X.prog X.w) X.A (isTrue e X.env (eval e X.env)) (TP X pins σ Q) X.xe s
def PW(X:Cx)(e:Expr)(t:TT):Prop :=
 ∀(whole:Sem Value) (pins:List (Addr×Obj)) (s:Shared) (σ:St) (H:Hp) (Q:Bool->Hp->Prop),Inv X pins σ H s->t σ H Q->wpAny (model X.prog X.w) X.A (isTrue e X.env whole) (TP X pins σ Q) X.xe s
theorem PW.pt{X:Cx}{e:Expr}{t:TT}(h:PW X e t):PT X e t:=h _
def PA(X:Cx)(es:List Expr)(t:TA):Prop :=
 ∀(pos:Pos) (pins:List (Addr×Obj)) (s:Shared) (σ:St) (H:Hp) (Q:List V->Hp->Prop),Inv X pins σ H s->t σ H Q->wpAny (model X.prog X.w) X.A (spliced (backTo pos (starEach es X.env))) (AP X pins σ Q) X.xe s
def PS(X:Cx)(st:Stmt)(t:TS):Prop :=
 ∀(pins:List (Addr×Obj)) (s:Shared) (σ:St) (H:Hp) (D:Ends),Inv X pins σ H s->t D σ H->wpAny (model X.prog X.w) X.A (exec st X.env) (SP X pins D) X.xe s
def PSs(X:Cx)(st:List Stmt)(t:TS):Prop :=
 ∀(pins:List (Addr×Obj)) (s:Shared) (σ:St) (H:Hp) (D:Ends),Inv X pins σ H s->t D σ H->wpAny (model X.prog X.w) X.A (execs st X.env) (SP X pins D) X.xe s
theorem thn{α:Type}{t:Sem α}{Q Q':α->Shared->Prop}{M:Model}{A:Around}{E:Value->Shared->Prop}{s:Shared}(h:wpAny M A t Q E s)(hQ:∀a s,Q a s->Q' a s):wpAny M A t Q' E s:=wpAny_mono h hQ fun _ _ x=>x
end L2
namespace L2
open PySem PySem.Spec PyProof.Rows
section
variable{X:Cx}
theorem bin{a b:Expr}{ta tb:TE}(ha:PE X a ta)(hb:PE X b tb){pins:List (Addr×Obj)}{s:Shared}{σ:St}{H:Hp}{R:V->V->Hp->Prop}(I:Inv X pins σ H s)(h:ta σ H fun x H1=>tb σ H1 fun y H2=>R x y H2)
  {α:Type}{Q:α->Shared->Prop}{f:Value->Value->Sem α}
  (hf:∀v u s2 x y H2,Inv X pins σ H2 s2->aW x v->aW y u->R x y H2->wpAny (model X.prog X.w) X.A (f v u) Q X.xe s2) :
  wpAny (model X.prog X.w) X.A (eval a X.env) (fun v s₁=>wpAny (model X.prog X.w) X.A (eval b X.env) (fun u s₂=>wpAny (model X.prog X.w) X.A (f v u) Q X.xe s₂) X.xe s₁) X.xe s:=by
 refine thn (ha pins s σ H _ I h) fun v s1 ⟨x,H1,I1,r1,q1⟩=>?_
 refine thn (hb pins s1 σ H1 _ I1 q1) fun u s2 ⟨y,H2,I2,r2,q2⟩=>?_
 exact hf v u s2 x y H2 I2 r1 r2 q2
def ue(i:Nat):TE:=fun σ H Q=>∃v,σ[i]?=some (some v)/\Q v H
def tC(v:V):TE:=fun _ H Q=>Q v H
theorem dO{i:Nat}{x:Str}{pos:Pos}(hN:X.N[i]?=some x)(hv:Vis X.env.scope x)(hd:(x ==("__debug__" : Str))=false:=by decide)(hcd:(x ==("__classdict__" : Str))=false:=by decide):PE X (.Name x pos) (ue i):=by
 intro pins s σ H Q I h
 obtain⟨v,e,h⟩:=h
 obtain⟨m,hn,hl⟩:=I.loc
 obtain⟨u,r,l⟩:=hl i x v hN e hv
 have fin:EP X pins σ Q u s:=⟨v,H,I,r,h⟩
 rcases l with⟨hk,hm⟩ |⟨hk,c,hc,hcell⟩
 ·exact wpAny_Name (wpAny_loadName_local I.ok.kind hk hn hm fin) hd
 ·rcases hk with hk | hk
  ·exact wpAny_Name (wpAny_loadName_cell I.ok.kind hk hc hcell fin) hd
  ·exact wpAny_Name (wpAny_loadName_free I.ok.kind hk hc hcell fin hcd) hd
theorem rR{i j pos}:PE X (.Constant (.int i) j pos) (tC (.int i)):=fun _ _ _ H _ I h=>wpAny_Constant_int ⟨.int i,H,I.tok _,⟨_,rfl⟩,h⟩
theorem AJ{b j pos}:PE X (.Constant (.bool b) j pos) (tC (.bl b)):=fun _ _ _ H _ I h=>Constant_bool ⟨.bl b,H,I,rfl,h⟩
theorem x_{j pos}:PE X (.Constant .none j pos) (tC .non):=fun _ _ _ H _ I h=>Constant_none ⟨.non,H,I,rfl,h⟩
theorem x8{x j pos}:PE X (.Constant (.str x) j pos) (tC (.str x)):=fun _ _ _ H _ I h=>Calls.Constant_str ⟨.str x,H,I.tok _,⟨_,rfl⟩,h⟩
def Gl(X:Cx)(x:Str):Prop:=X.env.kindOf x=some .globalImplicit
theorem eB{E:Value->Shared->Prop}{pins:List (Addr×Obj)}{s:Shared}{σ:St}{H:Hp}{x:Str}{u:Value}{pos:Pos}{Q:Value->Shared->Prop}(I:Inv X pins σ H s)(hg:Gl X x)(hm:X.mg x=some u)(h:Q u s)
  (hd:(x ==("__debug__" : Str))=false:=by decide):wpAny (model X.prog X.w) X.A (eval (.Name x pos) X.env) Q E s :=
 Calls.Name_function_global I.ok.kind hg (Calls.loadGlobal_global (by rw[I.ok.glob];exact I.mod.glob.keeps I.bk) hm h) hd
theorem jl{E:Value->Shared->Prop}{pins:List (Addr×Obj)}{s:Shared}{σ:St}{H:Hp}{x:Str}{u:Value}{pos:Pos}{Q:Value->Shared->Prop}(I:Inv X pins σ H s)(hg:Gl X x)(hm:X.mg x=none)(hv:bootBuiltins x=some u)(h:Q u s)
  (hn:x≠"__name__" := by decide) (hd:(x ==("__debug__" : Str))=false:=by decide):wpAny (model X.prog X.w) X.A (eval (.Name x pos) X.env) Q E s:=by
 obtain⟨mb,h1,h2⟩:=I.mod.blt
 exact Calls.Name_function_global I.ok.kind hg (Calls.loadGlobal_builtin (by rw[I.ok.glob];exact I.mod.glob.keeps I.bk) hm (by rw[I.ok.blt];exact h1.keeps I.bk) ((h2 x hn).trans hv) h) hd
theorem d_{x:Str}{v:V}{u:Value}{pos:Pos}(hg:Gl X x)(hm:X.mg x=some u)(r:aW v u)(hd:(x ==("__debug__" : Str))=false:=by decide):PE X (.Name x pos) (tC v) :=
 fun _ _ _ H _ I h=>eB I hg hm ⟨v,H,I,r,h⟩ hd
theorem u0{x:Str}{v:V}{u:Value}{pos:Pos}(hg:Gl X x)(hm:X.mg x=none)(hv:bootBuiltins x=some u)(r:aW v u)(hn:x≠"__name__" := by decide)(hd:(x ==("__debug__" : Str))=false:=by decide):PE X (.Name x pos) (tC v) :=
 fun _ _ _ H _ I h=>jl I hg hm hv ⟨v,H,I,r,h⟩ hn hd
variable{a b:Expr}{ta tb:TE}{pos:Pos}
variable{tA tB':TT}{bf:List Expr}
def Dr(t u:TT):TT:=fun σ H Q=>t σ H fun c H1=>if c=true then u σ H1 Q else Q false H1
def tOr(t u:TT):TT:=fun σ H Q=>t σ H fun c H1=>if c=true then Q true H1 else u σ H1 Q
def Dl(t:TT):TT:=fun σ H Q=>t σ H fun c H1=>Q (!c) H1
theorem uO(ha:PT X a tA):PW X (.BoolOp .And [a] pos) tA:=by
 intro wh pins s σ H Q I h
 refine isTrue_and (thn (ha pins s σ H Q I h) fun c s1 e=>?_)
 cases c with
 | true=>exact isTrue_and_nil e
 | false=>exact e
theorem xO(ha:PT X a tA):PW X (.BoolOp .Or [a] pos) tA:=by
 intro wh pins s σ H Q I h
 refine isTrue_or (thn (ha pins s σ H Q I h) fun c s1 e=>?_)
 cases c with
 | false=>exact isTrue_or_nil e
 | true=>exact e
theorem xP(ha:PT X a tA)(hb:PW X (.BoolOp .And (b::bf) pos) tB'):PW X (.BoolOp .And (a::b::bf) pos) (Dr tA tB'):=by
 intro wh pins s σ H Q I h
 refine isTrue_and (thn (ha pins s σ H _ I h) fun c s1 ⟨H1,I1,q1⟩=>?_)
 cases c with
 | true=>exact hb wh pins s1 σ H1 Q I1 q1
 | false=>exact⟨H1,I1,q1⟩
theorem AF(ha:PT X a tA)(hb:PW X (.BoolOp .Or (b::bf) pos) tB'):PW X (.BoolOp .Or (a::b::bf) pos) (tOr tA tB'):=by
 intro wh pins s σ H Q I h
 refine isTrue_or (thn (ha pins s σ H _ I h) fun c s1 ⟨H1,I1,q1⟩=>?_)
 cases c with
 | true=>exact⟨H1,I1,q1⟩
 | false=>exact hb wh pins s1 σ H1 Q I1 q1
theorem xQ(ha:PT X a tA):PT X (.UnaryOp .Not a pos) (Dl tA):=by
 intro pins s σ H Q I h
 exact isTrue_not (ha pins s σ H (fun c H1=>Q (!c) H1) I h)
def Av(ta tb:TE):TE:=fun σ H Q=>ta σ H fun x H1=>∃c,x=.bl c/\if c=true then tb σ H1 Q else Q (.bl false) H1
theorem x9{op}{t:TE}(h:PE X a t):PE X (.BoolOp op [a] pos) t:=fun pins s σ H Q I hw=>BoolOp_one (h pins s σ H Q I hw)
theorem yd(ha:PE X a ta)(hb:PE X (.BoolOp .And (b::bf) pos) tb):PE X (.BoolOp .And (a::b::bf) pos) (Av ta tb):=by
 intro pins s σ H Q I h
 refine BoolOp_and (thn (ha pins s σ H _ I h) fun v s1 ⟨x,H1,I1,r1,q1⟩=>?_)
 obtain⟨c,rfl,q1⟩:=q1
 cases r1
 refine wpAny_truthy_bool ?_
 cases c with
 | true=>exact hb pins s1 σ H1 Q I1 q1
 | false=>exact⟨.bl false,H1,I1,rfl,q1⟩
def tIf(t:TT)(ta tb:TE):TE:=fun σ H Q=>t σ H fun c H1=>if c=true then ta σ H1 Q else tb σ H1 Q
theorem rS{c:Expr}(hc:PT X c tA)(ha:PE X a ta)(hb:PE X b tb):PE X (.IfExp c a b pos) (tIf tA ta tb):=by
 intro pins s σ H Q I h
 refine wpAny_IfExp (thn (hc pins s σ H _ I h) fun d s1 ⟨H1,I1,q1⟩=>?_)
 cases d with
 | true=>exact ha pins s1 σ H1 Q I1 q1
 | false=>exact hb pins s1 σ H1 Q I1 q1
end
end L2
namespace L2
open PySem PySem.Spec PyProof.Rows
def SqL(K:PySem.W.Frag)(H:Hp)(a:Addr)(xs:List V):Prop :=
 Rd H a (.lst xs)\/
  ∃(o:Obj) (its:Array Value) (n:Nat),K.lookup a=some o/\o.cls=.type "list" /\ o.dict=none/\o.data=.seq its n/\its.size<=sizeLine/\aI xs its.toList
def SqT(K:PySem.W.Frag)(H:Hp)(a:Addr)(xs:List V):Prop :=
 Rd H a (.tup xs)\/
  ∃(o:Obj) (its:Array Value) (n:Nat),K.lookup a=some o/\o.cls=.type "tuple" /\ o.data=.seq its n/\its.size<=sizeLine/\aI xs its.toList
def CA:Value->Option V
 | .none=>some .non
 | .bool b=>some (.bl b)
 | .int i _=>some (.int i)
 | .str x _=>some (.str x)
 | .bytes b _=>some (.byt b)
 | .float b _=>some (.flt b)
 | .ref a=>some (.ref a)
 | .type n=>some (.ty n)
 | _=>none
theorem aW.abs{x:V}{u:Value}(r:aW x u):CA u=some x:=by
 cases x with
 | non | bl _=>cases r;rfl
 | int _ | str _ | byt _ | flt _=>obtain⟨t,rfl⟩:=r;rfl
 | ref _ | ty _=>cases r;rfl
theorem aW.inj{x y:V}{u:Value}(r:aW x u)(q:aW y u):x=y:=Option.some.inj (r.abs.symm.trans q.abs)
theorem aI.inj:∀{xs ys:List V}{us:List Value},aI xs us->aI ys us->xs=ys
 | _,_,_,.nil,.nil=>rfl
 | _,_,_,.cons r t,.cons r' t'=>by rw[r.inj r',aI.inj t t']
section
variable{X:Cx}{pins:List (Addr×Obj)}{σ:St}{H:Hp}{s:Shared}{a:Addr}{xs ys:List V}
theorem SqL.of{K:PySem.W.Frag}(h:H a=some (.lst xs)):SqL K H a xs:=.inl (.inl h)
theorem SqT.of{K:PySem.W.Frag}(h:H a=some (.tup xs)):SqT K H a xs:=.inl (.inl h)
theorem Inv.list(I:Inv X pins σ H s)(h:SqL X.K H a xs):∃its:List Value,aI xs its/\PlainL s.heap a its.toArray/\xs.length<=sizeLine:=by
 rcases h with h |⟨o,its,n,hk,hc,hd,hs,hz,r⟩
 ·obtain⟨z,its,n,r,e⟩:=h.ok I.hok
  exact⟨its,r,⟨_,n,e,rfl,rfl,rfl⟩,z⟩
 ·refine⟨its.toList,r,⟨o,n,I.kIn a o hk,hc,hd,by simpa using hs⟩,?_⟩
  have e:=r.length
  simp only[Array.length_toList]at e
  omega
theorem Inv.tuple(I:Inv X pins σ H s)(h:SqT X.K H a xs):∃its:List Value,aI xs its/\IsTup s.heap a its.toArray/\xs.length<=sizeLine:=by
 rcases h with h |⟨o,its,n,hk,hc,hs,hz,r⟩
 ·obtain⟨z,its,r,p⟩:=h.ok I.hok
  exact⟨its,r,p,z⟩
 ·refine⟨its.toList,r,⟨o,I.kIn a o hk,hc,n,by simpa using hs⟩,?_⟩
  have e:=r.length
  simp only[Array.length_toList]at e
  omega
theorem Inv.list_inj(I:Inv X pins σ H s)(h:SqL X.K H a xs)(h':SqL X.K H a ys):xs=ys:=by
 obtain⟨its,r,⟨o,n,e,_,_,d⟩,_⟩:=I.list h
 obtain⟨its',r',⟨o',n',e',_,_,d'⟩,_⟩:=I.list h'
 rw[e]at e';cases e'
 rw[d]at d'
 injection d' with d1 _
 have:its=its':=by simpa using congrArg Array.toList d1
 subst this
 exact r.inj r'
theorem Inv.tuple_inj(I:Inv X pins σ H s)(h:SqT X.K H a xs)(h':SqT X.K H a ys):xs=ys:=by
 obtain⟨its,r,⟨o,e,_,n,d⟩,_⟩:=I.tuple h
 obtain⟨its',r',⟨o',e',_,n',d'⟩,_⟩:=I.tuple h'
 rw[e]at e';cases e'
 rw[d]at d'
 injection d' with d1 _
 have:its=its':=by simpa using congrArg Array.toList d1
 subst this
 exact r.inj r'
end
abbrev Cx.wish(X:Cx)(E:Value->Shared->Prop):Cx:={ X with xe:=E }
abbrev Cx.nox(X:Cx):Cx:=X.wish fun _ _=>False
theorem Cx.Ok.wish{X:Cx}(ok:X.Ok)(E:Value->Shared->Prop):(X.wish E).Ok :=
 ⟨ok.mod,ok.kind,ok.glob,ok.blt,ok.above,ok.inj,ok.has,ok.cab,ok.hd,ok.frames,ok.stk,ok.exf,ok.bs,ok.bsz,ok.noex,ok.exfs,ok.funs,ok.frf⟩
theorem Cx.Ok.unwish{X:Cx}{E:Value->Shared->Prop}(ok:(X.wish E).Ok):X.Ok :=
 ⟨ok.mod,ok.kind,ok.glob,ok.blt,ok.above,ok.inj,ok.has,ok.cab,ok.hd,ok.frames,ok.stk,ok.exf,ok.bs,ok.bsz,ok.noex,ok.exfs,ok.funs,ok.frf⟩
section
variable{X:Cx}{pins:List (Addr×Obj)}{σ:St}{H:Hp}{s:Shared}{E:Value->Shared->Prop}
theorem Inv.wish(I:Inv X pins σ H s)(E:Value->Shared->Prop):Inv (X.wish E) pins σ H s:=⟨I.ok.wish E,I.os,I.bare,I.base,I.loc,I.cell,I.free,I.freeC,I.pin,I.hok,I.len⟩
theorem Inv.unwish(I:Inv (X.wish E) pins σ H s):Inv X pins σ H s:=⟨I.ok.unwish,I.os,I.bare,I.base,I.loc,I.cell,I.free,I.freeC,I.pin,I.hok,I.len⟩
theorem SP.unwish{D:Ends}{f:Flow}{s':Shared}(h:SP (X.wish E) pins D f s'):SP X pins D f s':=by
 cases f with
 | next | brk | cont=>obtain⟨σ',H',I,q⟩:=h;exact⟨σ',H',I.unwish,q⟩
 | ret u=>obtain⟨v,σ',H',I,r,q⟩:=h;exact⟨v,σ',H',I.unwish,r,q⟩
theorem PE.nox{e:Expr}{t:TE}(h:PE X.nox e t):PE X e t:=fun pins s σ H Q I hw =>
 wpAny_mono (h pins s σ H Q (I.wish _) hw) (fun _ _ ⟨v,H',I',r,q⟩=>⟨v,H',I'.unwish,r,q⟩) fun _ _ z=>False.elim z
theorem PT.nox{e:Expr}{t:TT}(h:PT X.nox e t):PT X e t:=fun pins s σ H Q I hw =>
 wpAny_mono (h pins s σ H Q (I.wish _) hw) (fun _ _ ⟨H',I',q⟩=>⟨H',I'.unwish,q⟩) fun _ _ z=>False.elim z
theorem PSs.nox{st:List Stmt}{t:TS}(h:PSs X.nox st t):PSs X st t:=fun pins s σ H D I hw =>
 wpAny_mono (h pins s σ H D (I.wish _) hw) (fun _ _ q=>q.unwish) fun _ _ z=>False.elim z
end
section
variable{X:Cx}{st:Stmt}{bf:List Stmt}{t u:TS}{e:Expr}{te:TE}{pos:Pos}
def Ar:TS:=fun D σ H=>D.nx σ H
def Dj(t u:TS):TS:=fun D σ H=>t { D with nx:=u D } σ H
theorem uQ:PSs X [] Ar:=fun _ _ σ H _ I h=>wpAny_execs_nil ⟨σ,H,I,h⟩
theorem rF(h1:PS X st t)(h2:PSs X bf u):PSs X (st::bf) (Dj t u):=by
 intro pins s σ H D I h
 refine wpAny_execs_cons (thn (h1 pins s σ H { D with nx:=u D } I h) fun f s1 q=>?_)
 cases f with
 | next =>
  obtain⟨σ',H',I',q⟩:=q
  exact h2 pins s1 σ' H' D I' q
 | ret v | brk | cont=>exact q
theorem uP(h1:PS X st t):PSs X [st] t:=by
 intro pins s σ H D I h
 refine wpAny_execs_cons (thn (h1 pins s σ H D I h) fun f s1 q=>?_)
 cases f with
 | next=>exact wpAny_execs_nil q
 | ret v | brk | cont=>exact q
def xm:TS:=fun D σ H=>D.bk σ H
theorem rG:PS X (.Break pos) xm:=fun _ _ σ H _ I h=>wpAny_Break ⟨σ,H,I,h⟩
theorem Inv.quiet{pins:List (Addr×Obj)}{σ:St}{H:Hp}{s:Shared}(I:Inv X pins σ H s):interactive X.env=false:=by simp[interactive,I.ok.kind]
def At(te:TE):TS:=fun D σ H=>te σ H fun _ H1=>D.nx σ H1
theorem iE(he:PE X e te)(hs:swapsWith e none pos.line X.env=pure false:=by rfl):PS X (.Expr e pos) (At te):=by
 intro pins s σ H D I h
 exact wpAny_Expr_any (thn (he pins s σ H _ I h) fun v s1 ⟨x,H1,I1,r1,q1⟩=>⟨σ,H1,I1,q1⟩) I.quiet hs
def Dk(te:TE):TS:=fun D σ H=>te σ H D.rt
theorem m8(he:PE X e te):PS X (.Return (some e) pos) (Dk te):=by
 intro pins s σ H D I h
 exact wpAny_Return_some (thn (he pins s σ H _ I h) fun v s1 ⟨x,H1,I1,r1,q1⟩=>⟨x,σ,H1,I1,r1,q1⟩)
def Ap:TS:=fun D _ H=>D.rt .non H
theorem uR:PS X (.Return none pos) Ap:=fun _ _ σ H _ I h=>wpAny_Return_none ⟨.non,σ,H,I,rfl,h⟩
def Do(c:TT)(t u:TS):TS:=fun D σ H=>c σ H fun b H1=>if b=true then t D σ H1 else u D σ H1
theorem AG{c:Expr}{a b:List Stmt}{tc:TT}(hc:PT X c tc)(ha:PSs X a t)(hb:PSs X b u):PS X (.If c a b pos) (Do tc t u):=by
 intro pins s σ H D I h
 refine wpAny_If (thn (hc pins s σ H _ I h) fun d s1 ⟨H1,I1,q1⟩=>?_)
 cases d with
 | true=>exact ha pins s1 σ H1 D I1 q1
 | false=>exact hb pins s1 σ H1 D I1 q1
end
abbrev TG:=V->St->Hp->(St->Hp->Prop)->Prop
abbrev TGs:=List V->St->Hp->(St->Hp->Prop)->Prop
def PG(X:Cx)(target:Expr)(t:TG):Prop :=
 ∀(pins:List (Addr×Obj)) (s:Shared) (σ:St) (H:Hp) (v:V) (u:Value) (Q:St->Hp->Prop),Inv X pins σ H s->aW v u->t v σ H Q ->
  wpAny (model X.prog X.w) X.A (assign target X.env u) (fun _ s'=>∃σ' H',Inv X pins σ' H' s'/\Q σ' H') X.xe s
def PGs(X:Cx)(ts:List Expr)(t:TGs):Prop :=
 ∀(pins:List (Addr×Obj)) (s:Shared) (σ:St) (H:Hp) (vs:List V) (us:List Value) (Q:St->Hp->Prop),Inv X pins σ H s->aI vs us->t vs σ H Q ->
  wpAny (model X.prog X.w) X.A (assignInOrder ((assignEach ts X.env).map (·.2)) us) (fun _ s'=>∃σ' H',Inv X pins σ' H' s'/\Q σ' H') X.xe s
abbrev zO:=V->V->V->Hp->(Hp->Prop)->Prop
def CD(X:Cx)(t:zO):Prop :=
 ∀(pins:List (Addr×Obj)) (s:Shared) (σ:St) (H:Hp) (o i v:V) (ov iv u:Value) (Q:Hp->Prop),Inv X pins σ H s->aW o ov->aW i iv->aW v u->t o i v H Q ->
  wpAny (model X.prog X.w) X.A (setItem ov iv u) (fun _ s'=>∃H',Inv X pins σ H' s'/\Q H') X.xe s
section
variable{X:Cx}{pos:Pos}
def wJ(i:Nat):TG:=fun v σ H Q=>Q (σ.set i (some v)) H
theorem oI{i:Nat}{x:Str}(hN:X.N.Nodup)(hi:X.N[i]?=some x)(hx:Loc X.env.scope x)(hf:X.fn x=true\/X.env.scope.names.lookup x=some .local:=by first | exact .inl rfl | exact .inr rfl | assumption):PG X (.Name x pos) (wJ i):=by
 intro pins s σ H v u Q I r h
 exact wpAny_assign_Name (iK I hN hi hx r (fun s' I'=>⟨_,H,I',h⟩) hf)
def DL:TGs:=fun vs σ H Q=>vs=[]/\Q σ H
def BH(t:TG)(u:TGs):TGs:=fun vs σ H Q=>∃v r,vs=v::r/\t v σ H fun σ' H'=>u r σ' H' Q
theorem uY:PGs X [] DL:=by
 intro pins s σ H vs us Q I r h
 obtain⟨e,h⟩:=h
 subst e
 cases r
 exact assignInOrder_nil ⟨σ,H,I,h⟩
theorem rP{e:Expr}{es:List Expr}{t:TG}{u:TGs}(h1:PG X e t)(h2:PGs X es u)
  (hs:(assignEach (e::es) X.env).map (·.2)=assign e X.env::(assignEach es X.env).map (·.2):=by rfl):PGs X (e::es) (BH t u):=by
 intro pins s σ H vs us Q I r h
 obtain⟨v,vr,e1,h⟩:=h
 subst e1
 cases r with
 | cons r rr =>
  rw[hs]
  refine assignInOrder_cons (thn (h1 pins s σ H _ _ _ I r h) fun _ s1 ⟨σ1,H1,I1,q1⟩=>?_)
  exact h2 pins s1 σ1 H1 _ _ Q I1 rr q1
def DJ(K:PySem.W.Frag)(n:Nat)(t:TGs):TG:=fun v σ H Q=>∃a xs,v=.ref a/\SqT K H a xs/\xs.length=n/\t xs σ H Q
theorem xY{es:List Expr}{k:Nat}{t:TGs}{n:Nat}(hc:X.calm=true)(h:PGs X es t)
  (hn:(assignEach es X.env).length=n:=by rfl) (hst:(assignEach es X.env).findIdx? (·.1)=none:=by rfl):PG X (.Tuple es k pos) (DJ X.K n t):=by
 intro pins s σ H v u Q I r hw
 obtain⟨a,xs,e1,hq,hl,hw⟩:=hw
 subst e1
 cases r
 obtain⟨its,rv,ht,hz⟩:=I.tuple hq
 refine assign_Tuple_tuple (I.ok.hd hc) ht (by simp[hn,<- hl,rv.length]) hst fun h' hx=>?_
 have I1:Inv X pins σ H { s with heap:=h' }:=I.kept (t':=s.toks) fun b o e=>hx b o (Nat.ne_of_lt (Heap.lt_size e)) e
 exact h pins _ σ H xs _ Q I1 (by simpa using rv) hw
def DK(to ti:TE)(t:zO):TG:=fun v σ H Q=>to σ H fun o H1=>ti σ H1 fun i H2=>t o i v H2 fun H3=>Q σ H3
theorem xZ{o i:Expr}{to ti:TE}{t:zO}(ho:PE X o to)(hi:PE X i ti)(hs:CD X t)
  (ha:∀ v,assign (.Subscript o i pos) X.env v=(do
   let ov <- holding [v] (eval o X.env)
   let iv <- holding [v,ov] (eval i X.env)
   standAt pos
   holding [v,ov,iv] (setItem ov iv v)
   release [v,ov,iv] []):=by intro _;rfl):PG X (.Subscript o i pos) (DK to ti t):=by
 intro pins s σ H v u Q I r h
 rw[ha]
 refine wpAny_bind (wpAny_holding (thn (ho pins s σ H _ I h) fun ov s1 ⟨x,H1,I1,r1,q1⟩=>?_))
 refine wpAny_bind (wpAny_holding (thn (hi pins s1 σ H1 _ I1 q1) fun iv s2 ⟨y,H2,I2,r2,q2⟩=>?_))
 refine wpAny_bind (wpAny_standAt (wpAny_bind (wpAny_holding (thn (hs pins s2 σ H2 x y v ov iv u _ I2 r1 r2 r q2) fun _ s3 ⟨H3,I3,q3⟩=>?_))))
 exact wpAny_release ⟨σ,H3,I3,q3⟩
def Au(te:TE)(g:TG):TS:=fun D σ H=>te σ H fun x H1=>g x σ H1 D.nx
theorem xU{tg e:Expr}{te:TE}{g:TG}(he:PE X e te)(hg:PG X tg g)(hs:swapsWithSole [tg] e pos.line X.env=pure false:=by rfl)(hw:swappedStores [tg] e X.env=pure none:=by rfl)
  (h1:(assignEach [tg] X.env).map (·.2)=[assign tg X.env]:=by rfl):PS X (.Assign [tg] e pos) (Au te g):=by
 intro pins s σ H D I h
 refine wpAny_Assign_stores (thn (he pins s σ H _ I h) fun v s1 ⟨x,H1,I1,r1,q1⟩=>?_) hs hw
 rw[h1]
 exact thn (hg pins s1 σ H1 x v _ I1 r1 q1) fun _ s2 q=>q
theorem xR{i:Nat}{x:Str}{e:Expr}{te:TE}{pos':Pos}(hN:X.N.Nodup)(hi:X.N[i]?=some x)(hx:Loc X.env.scope x)(he:PE X e te)(hs:swapsWith e (some (.Name x pos')) pos.line X.env=pure false:=by rfl)(hf:X.fn x=true\/X.env.scope.names.lookup x=some .local:=by first | exact .inl rfl | exact .inr rfl | assumption) :
  PS X (.Assign [.Name x pos'] e pos) (Au te (wJ i)):=by
 intro pins s σ H D I h
 refine wpAny_Assign_Name (thn (he pins s σ H _ I h) fun v s1 ⟨y,H1,I1,r1,q1⟩=>?_) hs
 exact iK I1 hN hi hx r1 (fun s2 I2=>⟨_,H1,I2,q1⟩) hf
end
structure It where
 go:Nat->Hp->Prop
 yld:Nat->Hp->V->Hp->Prop
 stop:Nat->Hp->Prop
def iA(X:Cx)(pins:List (Addr×Obj))(H:Hp)(b:Addr):Prop :=
 H b=none/\b≠X.env.locals/\b∉X.fs/\(b∈X.ex\/X.s₀.heap.objs.size<=b)/\(∀x c,X.env.cells.lookup x=some c->c≠b)/\∀p∈X.pn++pins,p.1≠b
theorem Inv.fpOk{X:Cx}{pins:List (Addr×Obj)}{σ:St}{H H':Hp}{s:Shared}{b:Addr}(I:Inv X pins σ H s)(hb:s.heap.objs.size<=b)(hn:H' b=none):iA X pins H' b:=by
 refine⟨hn,Nat.ne_of_gt (Nat.lt_of_lt_of_le I.lt hb),I.nofs hb,.inr (Nat.le_trans I.sz hb),fun x c e z=>?_,fun p hp z=>?_⟩
 ·obtain⟨v,q⟩:=I.cell x c e
  exact absurd (Nat.lt_of_lt_of_le q.lt (by rw[z];exact hb)) (Nat.lt_irrefl _)
 ·exact absurd (Nat.lt_of_lt_of_le (Heap.lt_size (I.pin p hp).1) (by rw[z];exact hb)) (Nat.lt_irrefl _)
structure qr(P:Program)(w:World)(K:PySem.W.Frag)(tg:Expr)(J:It)(fp:List Addr)(it:Addr)(tn:Nat->Heap->Prop):Prop where
 mem:it∈fp
 obj:∀i h,tn i h->∀b∈fp,∃o,h.get? b=some o/\∀v,o.data≠.cell v
 keep:∀i h h',tn i h->(∀b∈fp,∀o,h.get? b=some o->h'.get? b=some o)->tn i h'
 item:∀(X:Cx),X.prog=P->X.w=w->X.K=K->X.calm=true->∀(i:Nat) (pins:List (Addr×Obj)) (s:Shared) (σ:St) (H:Hp) (E:Value->Shared->Prop),Inv X pins σ H s->(∀b∈fp,iA X pins H b)->tn i s.heap->J.go i H ->
  wpAny (model P w) X.A (pyNext (.ref it)) (fun r s1=>∃ u,r=some u /\
   wpAny (model P w) X.A (letOwnedTupleGo tg (.ref it) u) (fun _ s2=>∃x H',Inv X pins σ H' s2/\aW x u/\J.yld i H x H'/\tn (i+1) s2.heap/\∀b∈fp,H' b=none) E s1) E s
 done:∀(X:Cx),X.prog=P->X.w=w->X.K=K->X.calm=true->∀(i:Nat) (pins:List (Addr×Obj)) (s:Shared) (σ:St) (H:Hp) (E:Value->Shared->Prop),Inv X pins σ H s->(∀b∈fp,iA X pins H b)->tn i s.heap->J.stop i H ->
  wpAny (model P w) X.A (pyNext (.ref it)) (fun r s1=>r=none/\Inv X pins σ H s1) E s
 self:∀(A:Around) (i:Nat) (s:Shared) (Q:Value->Shared->Prop) (E:Value->Shared->Prop),tn i s.heap->Q (.ref it) s->wpAny (model P w) A (pyIter (.ref it)) Q E s
abbrev TI:=St->Hp->(It->Hp->Prop)->Prop
def PIE(X:Cx)(pins:List (Addr×Obj))(σ:St)(tg:Expr)(R:It->Hp->Prop)(itv:Value)(s2:Shared):Prop :=
 ∃(it:Addr) (fp:List Addr) (tn:Nat->Heap->Prop) (J:It) (H':Hp),itv=.ref it/\Inv X pins σ H' s2/\qr X.prog X.w X.K tg J fp it tn/\tn 0 s2.heap/\(∀b∈fp,iA X pins H' b)/\R J H'
def PI(X:Cx)(tg iter:Expr)(wi:TI):Prop :=
 ∀(pins:List (Addr×Obj)) (s:Shared) (σ:St) (H:Hp) (R:It->Hp->Prop),Inv X pins σ H s->wi σ H R ->
  wpAny (model X.prog X.w) X.A (eval iter X.env) (fun v s1=>wpAny (model X.prog X.w) X.A (pyIter v) (PIE X pins σ tg R) X.xe s1) X.xe s
theorem oU{M:Model}{A:Around}{E:Value->Shared->Prop}{s:Shared}{tg:Expr}{it:Addr}{u:Value}{o:Obj}{n:String}{vs:Array Value}{Q:Unit->Shared->Prop}(ho:s.heap.get? it=some o)(hc:o.cls=.type n)(hd:o.data=.fields vs)
    (hn:["enumerate", "zip", "dict_itemiterator", "dict_reverseitemiterator", "odict_iterator", "itertools.zip_longest", "itertools.pairwise"].contains n=false) (hQ:Q () s):wpAny M A (letOwnedTupleGo tg (.ref it) u) Q E s:=by
  unfold letOwnedTupleGo
  cases tg<;>first
    | exact wpAny_pure hQ
    | (cases u <;> first
        | exact wpAny_pure hQ
        | (refine wpAny_bind (wpAny_load ho ?_)
           rw[hc,hd]
           show wpAny M A (if(["enumerate", "zip", "dict_itemiterator", "dict_reverseitemiterator", "odict_iterator", "itertools.zip_longest", "itertools.pairwise"].contains n&&vs[0]?==some (rawInt _))=true then _ else _) Q E s
           rw[if_neg (by intro h;rw[hn,Bool.false_and]at h;cases h)]
           exact wpAny_pure hQ))
def Itl(K:PySem.W.Frag)(a:Addr):It :=
 ⟨fun i H=>∃xs x,SqL K H a xs/\xs[i]?=some x,fun i H x H'=>H'=H/\∀xs,SqL K H a xs->xs[i]?=some x,fun i H=>∃xs,SqL K H a xs/\xs.length<=i⟩
def Itt(K:PySem.W.Frag)(a:Addr):It :=
 ⟨fun i H=>∃xs x,SqT K H a xs/\xs[i]?=some x,fun i H x H'=>H'=H/\∀xs,SqT K H a xs->xs[i]?=some x,fun i H=>∃xs,SqT K H a xs/\xs.length<=i⟩
def Itr(lo:Int)(n:Nat):It:=⟨fun i _=>i < n,fun i H x H'=>H'=H/\x=.int (lo+i),fun i _=>n<=i⟩
theorem pp{P:Program}{w:World}{K:PySem.W.Frag}{tg:Expr}(a it:Addr):qr P w K tg (Itl K a) [it] it (fun i h=>h.IsListIter it a i) where
 mem:=by simp
 obj:=fun i h st b hb=>by
  have e:b=it:=by simpa using hb
  subst e
  obtain⟨o,e,c,d⟩:=st
  exact⟨o,e,fun v z=>by rw[d]at z;cases z⟩
 keep:=fun i h h' st k=>st.at fun o e=>k it (by simp) o e
 item:=by
  intro X hP hw hK hc i pins s σ H E I hf st hg
  subst hP hw hK
  obtain⟨xs,x,hq,hx⟩:=hg
  obtain⟨its,rv,p,hz⟩:=I.list hq
  obtain⟨u,hu,ru⟩:=rv.get hx
  obtain⟨f0,f1,f2,f3,f4,f5⟩:=hf it (by simp)
  refine wpAny_pyNext_list_item st p.isList (x:=u) (by simpa using hu) fun h' st' sb=>?_
  have I1:Inv X pins σ H { s with heap:=h' }:=I.turned (t':=s.toks) (fun b o hb e=>(sb.2 b hb).trans e) f0 f1 f3 f4 f5
  obtain⟨o,e,c,d⟩:=id st'
  exact⟨u,rfl,oU (s:={ s with heap:=h' }) e c d (by decide) ⟨x,H,I1,ru,⟨rfl,fun ys hy=>by rw[I.list_inj hy hq];exact hx⟩,st',fun b hb=>(hf b hb).1⟩⟩
 done:=by
  intro X hP hw hK hc i pins s σ H E I hf st hg
  subst hP hw hK
  obtain⟨xs,hq,hx⟩:=hg
  obtain⟨its,rv,p,hz⟩:=I.list hq
  obtain⟨f0,f1,f2,f3,f4,f5⟩:=hf it (by simp)
  have hl:=rv.length
  exact wpAny_pyNext_list_end (I.ok.hd hc) st p.isList (by simp;omega) fun h' eb=>⟨rfl,I.turned (t':=s.toks) (fun b o hb e=>eb b o hb e) f0 f1 f3 f4 f5⟩
 self:=fun _ _ _ _ _ st h=>wpAny_pyIter_listiter st h
theorem mP{P:Program}{w:World}{K:PySem.W.Frag}{tg:Expr}(a it:Addr):qr P w K tg (Itt K a) [it] it (fun i h=>h.IsTupleIter it a i) where
 mem:=by simp
 obj:=fun i h st b hb=>by
  have e:b=it:=by simpa using hb
  subst e
  obtain⟨o,e,c,d⟩:=st
  exact⟨o,e,fun v z=>by rw[d]at z;cases z⟩
 keep:=fun i h h' st k=>st.at fun o e=>k it (by simp) o e
 item:=by
  intro X hP hw hK hc i pins s σ H E I hf st hg
  subst hP hw hK
  obtain⟨xs,x,hq,hx⟩:=hg
  obtain⟨its,rv,p,hz⟩:=I.tuple hq
  obtain⟨u,hu,ru⟩:=rv.get hx
  obtain⟨f0,f1,f2,f3,f4,f5⟩:=hf it (by simp)
  refine wpAny_pyNext_tuple_item st (show s.heap.IsTuple a its.toArray from p) (x:=u) (by simpa using hu) fun h' st' sb=>?_
  have I1:Inv X pins σ H { s with heap:=h' }:=I.turned (t':=s.toks) (fun b o hb e=>(sb.2 b hb).trans e) f0 f1 f3 f4 f5
  obtain⟨o,e,c,d⟩:=id st'
  exact⟨u,rfl,oU (s:={ s with heap:=h' }) e c d (by decide) ⟨x,H,I1,ru,⟨rfl,fun ys hy=>by rw[I.tuple_inj hy hq];exact hx⟩,st',fun b hb=>(hf b hb).1⟩⟩
 done:=by
  intro X hP hw hK hc i pins s σ H E I hf st hg
  subst hP hw hK
  obtain⟨xs,hq,hx⟩:=hg
  obtain⟨its,rv,p,hz⟩:=I.tuple hq
  obtain⟨f0,f1,f2,f3,f4,f5⟩:=hf it (by simp)
  have hl:=rv.length
  exact wpAny_pyNext_tuple_end (I.ok.hd hc) st (show s.heap.IsTuple a its.toArray from p) (by simp;omega) fun h' eb=>⟨rfl,I.turned (t':=s.toks) (fun b o hb e=>eb b o hb e) f0 f1 f3 f4 f5⟩
 self:=fun _ _ _ _ _ st h=>wpAny_pyIter_tupleiter st h
theorem mQ{P:Program}{w:World}{K:PySem.W.Frag}{tg:Expr}(it:Addr)(lo:Int)(n:Nat):qr P w K tg (Itr lo n) [it] it (fun i h=>IsRangeIter h it (lo+(i:Nat) * 1) ((n:Int) - (i:Nat)) 1) where
 mem:=by simp
 obj:=fun i h st b hb=>by
  have e:b=it:=by simpa using hb
  subst e
  exact ⟨_,st,fun v z=>by
   have z':Data.fields _=Data.cell v:=z
   cases z'⟩
 keep:=fun i h h' st k=>k it (by simp) _ st
 item:=by
  intro X hP hw hK hc i pins s σ H E I hf st hg
  subst hP hw hK
  obtain⟨f0,f1,f2,f3,f4,f5⟩:=hf it (by simp)
  have W:=Walks.range (prog:=X.prog) (w:=X.w) (I.ok.hd hc) it lo 1 n
  refine W.item i s _ _ hg st fun v h' tk hv st' kk=>?_
  obtain⟨t,rfl⟩:=hv
  have I1:Inv X pins σ H { s with heap:=h',toks:=tk }:=I.turned (fun b o hb e=>kk b o (by simpa using hb) e) f0 f1 f3 f4 f5
  refine⟨_,rfl,oU (s:={ s with heap:=h',toks:=tk }) (n := "range_iterator") st' rfl rfl (by decide) ⟨.int (lo+i),H,I1,⟨t,?_⟩,⟨rfl,rfl⟩,st',fun b hb=>(hf b hb).1⟩⟩
  rw[Int.mul_one]
 done:=by
  intro X hP hw hK hc i pins s σ H E I hf st hg
  subst hP hw hK
  obtain⟨f0,f1,f2,f3,f4,f5⟩:=hf it (by simp)
  exact wpAny_pyNext_range_end (I.ok.hd hc) st (by have:n<=i:=hg;omega) fun h' eb=>⟨rfl,I.turned (t':=s.toks) (fun b o hb e=>eb b o hb e) f0 f1 f3 f4 f5⟩
 self:=fun _ _ _ _ _ st h=>wpAny_pyIter_rangeiter st h
end L2
namespace L2
open PySem PySem.Spec PyProof.Rows
section
variable{X:Cx}{tg:Expr}
theorem rA{pins:List (Addr×Obj)}{σ:St}{H:Hp}{s:Shared}{R:It->Hp->Prop}{E:Value->Shared->Prop}{lo hi:Int}{t u v:Tok}{tk:Nat}(I:Inv X pins σ H s)(h1:-(2 ^ 62)<= lo)(h2:lo < 2 ^ 62)(h3:-(2 ^ 62)<= hi)(h4:hi < 2 ^ 62)
  (q:R (Itr lo (hi - lo).toNat) H):wpAny (model X.prog X.w) X.A (pyIter (.ref s.heap.objs.size)) (PIE X pins σ tg R) E { s with heap:=s.heap.push { cls:=.type "range", data:=.fields #[.int lo t,.int hi u,.int 1 v] },toks:=tk }:=by
 refine wpAny_pyIter_range (IsRange.new ..) (small_one h1 h2 h3 h4) ?_
 have I1:Inv X pins σ H { s with heap:=s.heap.push { cls:=.type "range", data:=.fields #[.int lo t,.int hi u,.int 1 v] },toks:=tk }:=I.kept fun b o e=>Heap.get?_push_of_some _ e
 refine ⟨(s.heap.push { cls:=.type "range", data:=.fields #[.int lo t,.int hi u,.int 1 v] }).objs.size,[(s.heap.push { cls:=.type "range", data:=.fields #[.int lo t,.int hi u,.int 1 v] }).objs.size],_,_,H,rfl,
  I1.kept (t':=tk) fun b o e=>Heap.get?_push_of_some _ e,mQ _ lo (hi - lo).toNat,?_,fun b hb=>?_,q⟩
 ·have e1:lo+((0:Nat):Int) * 1=lo:=by simp
  have e2:(((hi - lo).toNat:Nat):Int) - ((0:Nat):Int)=Builtin.Range.rangeSize lo hi 1:=by rw[rangeSize_one];split<;>omega
  show IsRangeIter _ _ (lo+((0:Nat):Int) * 1) ((((hi - lo).toNat:Nat):Int) - ((0:Nat):Int)) 1
  rw[e1,e2]
  exact Heap.get?_push_size _ rfl
 ·have e:b=(s.heap.push { cls:=.type "range", data:=.fields #[.int lo t,.int hi u,.int 1 v] }).objs.size:=by simpa using hb
  subst e
  exact I1.fpOk (Nat.le_refl _) (I1.hok.fresh (Nat.le_refl _))
def BE(ta:TA):TI:=fun σ H R=>ta σ H fun vs H1=>∃j:Int,vs=[.int j]/\-(2 ^ 62)<= j/\j < 2 ^ 62/\R (Itr 0 j.toNat) H1
theorem jZ{a:Expr}{ta:TA}{p pos:Pos}(hg:Gl X "range")(hm:X.mg "range" = none)(ha:PA X [a] ta)(hs:starEach [a] X.env=[(false,eval a X.env)]:=by rfl):PI X tg (.Call (.Name "range" p) [a] [] pos) (BE ta):=by
 intro pins s σ H R I h
 refine Call_ (jl I hg hm boot_range (PyProof.Rows.callWith_type1 (thn (ha pos pins s σ H _ I h) fun us s1 ⟨vs,H1,I1,r1,q1⟩=>?_) hs rfl))
 obtain⟨j,e,q1,q2,q⟩:=q1
 subst e
 cases r1 with
 | cons r rr =>
  cases rr
  obtain⟨t,rfl⟩:=r
  exact call_range_1 (rA I1 (by omega) (by omega) q1 q2 (by simpa using q))
def Dp(wi:TI)(g:TG)(tb:TS):TS:=fun D σ H=>wi σ H fun J H1=>∃W:Nat->Nat->St->Hp->Prop,(∃m,W 0 m σ H1)/\∀i m σ H,W i m σ H ->
 (J.stop i H/\D.nx σ H)\/(J.go i H/\∃N:St->Hp->Prop,(∀σ' H',N σ' H'->∃m',m' < m/\W (i+1) m' σ' H')/\∀x H',J.yld i H x H'->g x σ H' fun σ2 H2=>tb { D with nx:=N,ct:=N,bk:=D.nx } σ2 H2)
def gR(fp:List Addr)(h:Heap):List (Addr×Obj):=fp.filterMap fun b=>(h.get? b).map fun o=>(b,o)
theorem cE{fp:List Addr}{h:Heap}{b:Addr}{o:Obj}(hb:b∈fp)(e:h.get? b=some o):(b,o)∈ gR fp h:=List.mem_filterMap.mpr ⟨b,hb,by rw[e];rfl⟩
theorem pV{fp:List Addr}{h:Heap}{p:Addr×Obj}(hp:p∈gR fp h):p.1∈fp/\h.get? p.1=some p.2:=by
 obtain⟨b,hb,e⟩:=List.mem_filterMap.mp hp
 cases q:h.get? b with
 | none=>rw[q]at e;cases e
 | some o =>
  rw[q]at e
  have e':(b,o)=p:=Option.some.inj e
  subst e'
  exact⟨hb,q⟩
theorem Inv.pinned{pins:List (Addr×Obj)}{σ:St}{H:Hp}{s:Shared}{fp:List Addr}(I:Inv X pins σ H s)(hf:∀b∈fp,iA X pins H b)(ho:∀b∈fp,∃o,s.heap.get? b=some o/\∀v,o.data≠.cell v):Inv X (pins++gR fp s.heap) σ H s :=
 I.pins_of fun p hp=>(List.mem_append.mp hp).elim (fun z=>I.pin p (List.mem_append_right _ z)) fun z=>by
  obtain⟨hb,e⟩:=pV z
  obtain⟨f0,f1,f2,_⟩:=hf p.1 hb
  obtain⟨o,e',d⟩:=ho p.1 hb
  rw[e]at e';cases e'
  exact⟨e,f0,f1,f2,d⟩
theorem Inv.unpinned{pins pl:List (Addr×Obj)}{σ:St}{H:Hp}{s:Shared}(I:Inv X (pins++pl) σ H s):Inv X pins σ H s:=I.pins_of fun p hp=>I.pin p (List.mem_append_right _ (List.mem_append_left _ hp))
theorem xS{iter:Expr}{body:List Stmt}{wi:TI}{g:TG}{tb:TS}{pos:Pos}(hp:PassesOwn (model X.prog X.w) X.A X.env X.xe)(hc:X.calm=true)(hi:PI X tg iter wi)(hg:PG X tg g)(hb:PSs X body tb)
  (hs:∀x,foldedSetIterable iter X.env x=pure x:=by intro _;rfl):PS X (.For tg iter body [] pos) (Dp wi g tb):=by
 intro pins s σ H D I h
 refine wpAny_For (thn (hi pins s σ H _ I h) fun v s1 h1=>thn h1 fun itv s2 h2=>?_) hs
 obtain⟨it,fp,tn,J,H2,e,I2,T,st2,f2,W,⟨m0,w0⟩,turn⟩:=h2
 subst e
 have stat:∀{H':Hp},(∀b∈fp,H' b=none)->∀b∈fp,iA X pins H' b:=fun hn b hb=>⟨hn b hb,(f2 b hb).2⟩
 refine codeAny_forLoop_any (fun n s'=>∃i σ' H',Inv X pins σ' H' s'/\tn i s'.heap/\(∀b∈fp,H' b=none)/\W i n σ' H') ?_ m0 ⟨0,σ,H2,I2,st2,fun b hb=>(f2 b hb).1,w0⟩
 rintro n s3 ⟨i,σ3,H3,I3,st3,fr3,w3⟩
 rcases turn i n σ3 H3 w3 with⟨stop,qn⟩ |⟨go,N,hN,step⟩
 ·refine wpAny_passesOwn hp (thn (T.done X rfl rfl rfl hc i pins s3 σ3 H3 X.xe I3 (stat fr3) st3 stop) fun r s4 ⟨hr,I4⟩=>?_)
  subst hr
  exact wpAny_execs_nil ⟨σ3,H3,I4,qn⟩
 ·refine wpAny_passesOwn hp (thn (T.item X rfl rfl rfl hc i pins s3 σ3 H3 X.xe I3 (stat fr3) st3 go) fun r s4 ⟨u,hr,h4⟩=>?_)
  subst hr
  refine wpAny_passesOwn hp (thn h4 fun _ s5 ⟨x,H5,I5,r5,y5,st5,fr5⟩=>?_)
  have I5':=I5.pinned (stat fr5) (T.obj _ _ st5)
  refine wpAny_passesOwn hp (thn (hg _ s5 σ3 H5 x u _ I5' r5 (step x H5 y5)) fun _ s6 ⟨σ6,H6,I6,q6⟩=>?_)
  refine wpAny_passesOwn hp (thn (hb _ s6 σ6 H6 _ I6 q6) fun f s7 q7=>?_)
  have again:∀{σ7:St}{H7:Hp},Inv X (pins++gR fp s5.heap) σ7 H7 s7->N σ7 H7->∃m,m < n/\∃i σ' H',Inv X pins σ' H' s7/\tn i s7.heap/\(∀b∈fp,H' b=none)/\W i m σ' H':=fun {σ7 H7} I7 n7=>by
   obtain⟨m',hm,w7⟩:=hN σ7 H7 n7
   refine⟨m',hm,i+1,σ7,H7,I7.unpinned,T.keep _ _ _ st5 fun b hb o e=>(I7.pin (b,o) (List.mem_append_right _ (List.mem_append_right _ (cE hb e)))).1,fun b hb=>?_,w7⟩
   obtain⟨o,e,d⟩:=T.obj _ _ st5 b hb
   exact(I7.pin (b,o) (List.mem_append_right _ (List.mem_append_right _ (cE hb e)))).2.1
  cases f with
  | next | cont=>obtain⟨σ7,H7,I7,n7⟩:=q7;exact again I7 n7
  | brk=>obtain⟨σ7,H7,I7,q7⟩:=q7;exact⟨σ7,H7,I7.unpinned,q7⟩
  | ret v=>obtain⟨x7,σ7,H7,I7,r7,q7⟩:=q7;exact⟨x7,σ7,H7,I7.unpinned,r7,q7⟩
end
end L2
namespace L2
open PySem PySem.Spec PyProof.Rows
abbrev R2:=V->V->Hp->VK->Prop
def OpR(X:Cx)(f:Value->Value->Sem Value)(r:R2):Prop :=
 ∀(pins:List (Addr×Obj)) (s:Shared) (σ:St) (H:Hp) (x y:V) (v u:Value) (Q:VK),Inv X pins σ H s->aW x v->aW y u->r x y H Q ->
  wpAny (model X.prog X.w) X.A (f v u) (EP X pins σ Q) X.xe s
def UnR(X:Cx)(f:Value->Sem Value)(r:V->Hp->VK->Prop):Prop :=
 ∀(pins:List (Addr×Obj)) (s:Shared) (σ:St) (H:Hp) (x:V) (v:Value) (Q:VK),Inv X pins σ H s->aW x v->r x H Q ->
  wpAny (model X.prog X.w) X.A (f v) (EP X pins σ Q) X.xe s
def cb(X:Cx)(f:Value)(r:List V->Hp->VK->Prop):Prop :=
 ∀(pins:List (Addr×Obj)) (s:Shared) (σ:St) (H:Hp) (xs:List V) (us:List Value) (Q:VK),Inv X pins σ H s->aI xs us->r xs H Q ->
  wpAny (model X.prog X.w) X.A (call f us) (EP X pins σ Q) X.xe s
def Ef(X:Cx)(r:V->Hp->(Bool->Hp->Prop)->Prop):Prop :=
 ∀(pins:List (Addr×Obj)) (s:Shared) (σ:St) (H:Hp) (x:V) (v:Value) (Q:Bool->Hp->Prop),Inv X pins σ H s->aW x v->r x H Q ->
  wpAny (model X.prog X.w) X.A (truthy v) (TP X pins σ Q) X.xe s
def tOp(r:R2)(ta tb:TE):TE:=fun σ H Q=>ta σ H fun x H1=>tb σ H1 fun y H2=>r x y H2 Q
def tUn(r:V->Hp->VK->Prop)(ta:TE):TE:=fun σ H Q=>ta σ H fun x H1=>r x H1 Q
def rI(C:Int->Int->Prop)(g:Int->Int->V):R2:=fun x y H Q=>∃i j,x=.int i/\y=.int j/\C i j/\Q (g i j) H
def rI0(g:Int->Int->V):R2:=fun x y H Q=>∃i j,x=.int i/\y=.int j/\Q (g i j) H
def rU(g:Int->V):V->Hp->VK->Prop:=fun x H Q=>∃i,x=.int i/\Q (g i) H
section
variable{X:Cx}{a b c:Expr}{ta tb tc:TE}{pos:Pos}
theorem zG(ha:PE X a ta)(hb:PE X b tb){pins:List (Addr×Obj)}{s:Shared}{σ:St}{H:Hp}{R:V->V->Hp->Prop}(I:Inv X pins σ H s)
  (h:ta σ H fun x H1=>tb σ H1 fun y H2=>R x y H2) {Q:Value->Shared->Prop}{f:Value->Value->Sem Value}
  (hf:∀v u s2 x y H2,Inv X pins σ H2 s2->aW x v->aW y u->R x y H2->wpAny (model X.prog X.w) X.A (f v u) Q X.xe s2) :
  wpAny (model X.prog X.w) X.A (eval a X.env) (fun v s₁=>wpAny (model X.prog X.w) X.A (eval b X.env) (fun u s₂=>wpAny (model X.prog X.w) X.A (f v u) Q X.xe s₂) X.xe s₁) X.xe s:=by
 refine thn (ha pins s σ H _ I h) fun v s1 ⟨x,H1,I1,r1,q1⟩=>?_
 refine thn (hb pins s1 σ H1 _ I1 q1) fun u s2 ⟨y,H2,I2,r2,q2⟩=>?_
 exact hf v u s2 x y H2 I2 r1 r2 q2
theorem AI{op:Operator}{r:R2}(ho:OpR X (binaryOp op) r)(ha:PE X a ta)(hb:PE X b tb):PE X (.BinOp a op b pos) (tOp r ta tb):=by
 intro pins s σ H Q I h
 exact wpAny_BinOp (zG ha hb I h fun v u s2 x y H2 I2 rx ry q=>ho pins s2 σ H2 x y v u Q I2 rx ry q)
theorem AH{op:UnaryOp}{r:V->Hp->VK->Prop}(ho:UnR X (unaryOp op) r)(ha:PE X a ta):PE X (.UnaryOp op a pos) (tUn r ta):=by
 intro pins s σ H Q I h
 exact UnaryOp_ (thn (ha pins s σ H _ I h) fun v s1 ⟨x,H1,I1,r1,q1⟩=>ho pins s1 σ H1 x v Q I1 r1 q1)
theorem opI{f:Value->Value->Sem Value}{C:Int->Int->Prop}{g:Int->Int->Int}
  (rule:∀(i j:Int) (t u:Tok) (s:Shared) (Q:Value->Shared->Prop) (E:Value->Shared->Prop),C i j->Q (.int (g i j) s.toks) { s with toks:=s.toks+1 }->wpAny (model X.prog X.w) X.A (f (.int i t) (.int j u)) Q E s) :
  OpR X f (rI C fun i j=>.int (g i j)):=by
 intro pins s σ H x y v u Q I rx ry h
 obtain⟨i,j,rfl,rfl,hc,q⟩:=h
 obtain⟨t,rfl⟩:=rx
 obtain⟨t',rfl⟩:=ry
 exact rule i j t t' s _ _ hc ⟨.int (g i j),H,I.tok _,⟨_,rfl⟩,q⟩
theorem AU{f:Value->Value->Sem Value}{g:Int->Int->Int}
  (rule:∀(i j:Int) (t u:Tok) (s:Shared) (Q:Value->Shared->Prop) (E:Value->Shared->Prop),Q (.int (g i j) s.toks) { s with toks:=s.toks+1 }->wpAny (model X.prog X.w) X.A (f (.int i t) (.int j u)) Q E s) :
  OpR X f (rI0 fun i j=>.int (g i j)):=by
 intro pins s σ H x y v u Q I rx ry h
 obtain⟨i,j,rfl,rfl,q⟩:=h
 obtain⟨t,rfl⟩:=rx
 obtain⟨t',rfl⟩:=ry
 exact rule i j t t' s _ _ ⟨.int (g i j),H,I.tok _,⟨_,rfl⟩,q⟩
theorem vg{f:Value->Value->Sem Value}{g:Int->Int->Bool}
  (rule:∀(i j:Int) (t u:Tok) (s:Shared) (Q:Value->Shared->Prop) (E:Value->Shared->Prop),Q (.bool (g i j)) s->wpAny (model X.prog X.w) X.A (f (.int i t) (.int j u)) Q E s) :
  OpR X f (rI0 fun i j=>.bl (g i j)):=by
 intro pins s σ H x y v u Q I rx ry h
 obtain⟨i,j,rfl,rfl,q⟩:=h
 obtain⟨t,rfl⟩:=rx
 obtain⟨t',rfl⟩:=ry
 exact rule i j t t' s _ _ ⟨.bl (g i j),H,I,rfl,q⟩
def zQ(i j:Int):Prop:=(-(2 ^ 64) < i/\i < 2 ^ 64)\/(-(2 ^ 64) < j/\j < 2 ^ 64)
theorem zQ.ok{i j:Int}(h:zQ i j):IntMulOk i j:=by
 rcases h with⟨h1,h2⟩ |⟨h1,h2⟩
 ·exact .of_left (intBits_le_64 h1 h2)
 ·exact .of_right (intBits_le_64 h1 h2)
theorem yp:OpR X (binaryOp .Add) (rI0 fun i j=>.int (i+j)):=AU fun _ _ _ _ _ _ _ q=>add_int q
theorem yg:OpR X (binaryOp .Sub) (rI0 fun i j=>.int (i - j)):=AU fun _ _ _ _ _ _ _ q=>sub_int q
theorem yi:OpR X (binaryOp .Mult) (rI zQ fun i j=>.int (i * j)):=opI fun _ _ _ _ _ _ _ hc q=>mul_int q hc.ok
theorem yj:OpR X (binaryOp .Mod) (rI (fun _ j=>0 < j) fun i j=>.int (i % j)):=opI fun i j _ _ _ _ _ hc q=>by
 have h1:(0:Int) < j:=hc
 exact mod_int' (by omega) (by rw[Int.fmod_eq_emod_of_nonneg i (by omega)];exact q)
theorem unI{f:Value->Sem Value}{g:Int->Int}
  (rule:∀(i:Int) (t:Tok) (s:Shared) (Q:Value->Shared->Prop) (E:Value->Shared->Prop),Q (.int (g i) s.toks) { s with toks:=s.toks+1 }->wpAny (model X.prog X.w) X.A (f (.int i t)) Q E s) :
  UnR X f (rU fun i=>.int (g i)):=by
 intro pins s σ H x v Q I rx h
 obtain⟨i,rfl,q⟩:=h
 obtain⟨t,rfl⟩:=rx
 exact rule i t s _ _ ⟨.int (g i),H,I.tok _,⟨_,rfl⟩,q⟩
theorem xj:UnR X (unaryOp .USub) (rU fun i=>.int (-i)):=unI fun _ _ _ _ _ q=>neg_int q
end
def scal:V->V->Bool
 | .non,.non=>true | .non,.int _=>true | .int _,.non=>true | .non,.bl _=>true | .bl _,.non=>true | .non,.str _=>true | .str _,.non=>true
 | .int _,.int _=>true | .bl _,.bl _=>true | .str _,.str _=>true | .byt _,.byt _=>true
 | .int _,.str _=>true | .str _,.int _=>true | .bl _,.str _=>true | .str _,.bl _=>true
 | _,_=>false
section
variable{X:Cx}{a b c:Expr}{ta tb tc:TE}{pos:Pos}
theorem nO{pins:List (Addr×Obj)}{σ:St}{H:Hp}{s:Shared}{Q:VK}{k k':Bool}(I:Inv X pins σ H s)(q:Q (.bl k) H)(e:k=k'):EP X pins σ Q (.bool k') s:=by
 subst e
 exact⟨.bl k,H,I,rfl,q⟩
theorem AS:OpR X (compareOp .Lt) (rI0 fun i j=>.bl (decide (i < j))):=vg fun _ _ _ _ _ _ _ q=>lt_int q
theorem wt:OpR X (compareOp .LtE) (rI0 fun i j=>.bl (decide (i<=j))):=vg fun _ _ _ _ _ _ _ q=>le_int q
theorem wu:OpR X (compareOp .Gt) (rI0 fun i j=>.bl (decide (j < i))):=vg fun _ _ _ _ _ _ _ q=>gt_int q
theorem AT:OpR X (compareOp .GtE) (rI0 fun i j=>.bl (decide (j<=i))):=vg fun _ _ _ _ _ _ _ q=>ge_int q
theorem pU:OpR X (compareOp .In) (fun x y H Q=>∃i j,x=.str i/\y=.str j/\Q (.bl (!(Builtin.Str.occurrences j i 0 j.length 1).isEmpty)) H):=by
 intro pins s σ H x y v u Q I rx ry h
 obtain⟨i,j,rfl,rfl,q⟩:=h
 obtain⟨t,rfl⟩:=rx
 obtain⟨t',rfl⟩:=ry
 exact in_str (nO I q rfl)
theorem yk:OpR X (compareOp .Is) (fun x y H Q=>y=.non/\Q (.bl (decide (x=.non))) H):=by
 intro pins s σ H x y v u Q I rx ry h
 obtain⟨rfl,q⟩:=h
 cases ry
 refine is_none_gen (nO I q ?_)
 cases x<;>first
  |(cases rx;rfl)
  |(obtain⟨t,rfl⟩:=rx;rfl)
theorem va:OpR X (compareOp .IsNot) (fun x y H Q=>y=.non/\Q (.bl (!decide (x=.non))) H):=by
 intro pins s σ H x y v u Q I rx ry h
 obtain⟨rfl,q⟩:=h
 cases ry
 refine isnot_none_gen (nO I q ?_)
 cases x<;>first
  |(cases rx;rfl)
  |(obtain⟨t,rfl⟩:=rx;rfl)
theorem OpR.or{f:Value->Value->Sem Value}{r r':R2}(h:OpR X f r)(h':OpR X f r'):OpR X f (fun x y H Q=>r x y H Q\/r' x y H Q):=by
 intro pins s σ H x y v u Q I rx ry q
 rcases q with q | q
 ·exact h pins s σ H x y v u Q I rx ry q
 ·exact h' pins s σ H x y v u Q I rx ry q
theorem cP(b:Expr){op:CmpOp}(h:op≠.In:=by decide)(h2:op≠.NotIn:=by decide):behindInMarks op b=false:=by
 have e1:(op==CmpOp.In)=false:=by cases op<;>first | rfl | exact absurd rfl h
 have e2:(op==CmpOp.NotIn)=false:=by cases op<;>first | rfl | exact absurd rfl h2
 cases b<;>simp[behindInMarks,e1,e2]
theorem uZ{op:CmpOp}{r:R2}(ho:OpR X (compareOp op) r)(ha:PE X a ta)(hb:PE X b tb)(hm:behindInMarks op b=false):PE X (.Compare a [op] [b] pos) (tOp r ta tb):=by
 intro pins s σ H Q I h
 exact wpAny_Compare1 (zG ha hb I h fun v u s2 x y H2 I2 rx ry q=>ho pins s2 σ H2 x y v u Q I2 rx ry q) hm
def Ao(t:TE):TT:=fun σ H Q=>t σ H fun x H'=>∃k,x=.bl k/\Q k H'
theorem kD{op:CmpOp}{r:R2}(ho:OpR X (compareOp op) r)(ha:PE X a ta)(hb:PE X b tb)(hm:behindInMarks op b=false):PT X (.Compare a [op] [b] pos) (Ao (tOp r ta tb)):=by
 intro pins s σ H Q I h
 refine wpAny_isTrue_Compare1 (thn (ha pins s σ H _ I h) fun v s1 ⟨x,H1,I1,r1,q1⟩=>thn (hb pins s1 σ H1 _ I1 q1) fun u s2 ⟨y,H2,I2,r2,q2⟩ =>
  thn (ho pins s2 σ H2 x y v u _ I2 r1 r2 q2) fun c s3 ⟨z,H3,I3,r3,k,e,q3⟩=>?_) hm
 subst e
 cases r3
 exact wpAny_truthy_bool ⟨H3,I3,q3⟩
def CB(K:PySem.W.Frag)(x:V)(H:Hp)(k:Bool):Prop :=
 match x with
 | .non=>k=false
 | .bl b=>k=b
 | .int i=>k=(i != 0)
 | .str y=>y.length<=sizeLine/\k=((y.length:Int) != 0)
 | .byt y=>y.size<=sizeLine/\k=((y.size:Int) != 0)
 | .ref p=>(∃xs,SqL K H p xs/\k=!xs.isEmpty)\/(∃xs,SqT K H p xs/\k=!xs.isEmpty)\/ ∃kvs,H p=some (.dK kvs)/\k=!kvs.isEmpty
 | _=>False
theorem nD{κ:Type}{kvs:List (κ×V)}{vs:List (κ×Value)}(r:KV kvs vs):(!vs.isEmpty)=!kvs.isEmpty:=by
 cases r<;>rfl
theorem jq{xs:List V}{its:List Value}(r:aI xs its):(!its.toArray.isEmpty)=!xs.isEmpty:=by
 cases r<;>simp
theorem fT:(sizeLine:Nat) < 2 ^ 63:=by rw[sizeLine_eq];decide
theorem xk:Ef X (fun x H Q=>∃k,CB X.K x H k/\Q k H):=by
 intro pins s σ H x v Q I rx h
 obtain⟨k,e,q⟩:=h
 have hl:=fT
 have hs:sizeLine=16777216:=sizeLine_eq
 cases x with
 | non =>
  cases rx
  have e':k=false:=e
  subst e'
  exact truthy_none ⟨H,I,q⟩
 | bl b =>
  cases rx
  have e':k=b:=e
  subst e'
  exact wpAny_truthy_bool ⟨H,I,q⟩
 | int i =>
  obtain⟨t,rfl⟩:=rx
  have e':k=(i != 0):=e
  subst e'
  exact PySem.P.truthy_int ⟨H,I,q⟩
 | str y =>
  obtain⟨t,rfl⟩:=rx
  obtain⟨hy,e'⟩:y.length<=sizeLine/\k=((y.length:Int) != 0):=e
  subst e'
  exact PySem.P.truthy_str (by omega) ⟨H,I.tok _,q⟩
 | byt y =>
  obtain⟨t,rfl⟩:=rx
  obtain⟨hy,e'⟩:y.size<=sizeLine/\k=((y.size:Int) != 0):=e
  subst e'
  exact PySem.W.truthy_bytes (by omega) ⟨H,I.tok _,q⟩
 | ref p =>
  cases rx
  have e':(∃xs,SqL X.K H p xs/\k=!xs.isEmpty)\/(∃xs,SqT X.K H p xs/\k=!xs.isEmpty)\/ ∃kvs,H p=some (.dK kvs)/\k=!kvs.isEmpty:=e
  rcases e' with⟨xs,hx,e'⟩ |⟨xs,hx,e'⟩ |⟨kvs,hx,e'⟩
  ·subst e'
   obtain⟨its,r,pl,hz⟩:=I.list hx
   have hlen:=r.length
   exact wpAny_truthy_list pl.isList (by simp only[List.size_toArray];omega) ⟨H,I.tok _,by rw[jq r];exact q⟩
  ·subst e'
   obtain⟨its,r,pl,hz⟩:=I.tuple hx
   have hlen:=r.length
   exact truthy_tuple pl (by simp only[List.size_toArray];omega) ⟨H,I.tok _,by rw[jq r];exact q⟩
  ·subst e'
   obtain⟨hz,hS,vs,r,m⟩:kvs.length<=sizeLine/\(p==sysModules)=false/\∃vs,KV kvs vs/\s.heap.DictOf (kL X.prog X.w) p vs:=I.hok p _ hx
   have hlen:kvs.length=vs.length:=Paired.length r
   exact wpAny_truthy_dict hS m (by omega) ⟨H,I.tok _,by rw[nD r];exact q⟩
 | _=>exact(show False from e).elim
theorem rE(ha:PE X a ta)(he:∀whole,isTrue a X.env whole=(do let v <- whole;standAt a.pos;holding [v] (truthy v))) :
  PT X a (fun σ H Q=>ta σ H fun x H'=>∃k,CB X.K x H' k/\Q k H'):=by
 intro pins s σ H Q I h
 exact isTrue_plain (thn (ha pins s σ H _ I h) fun v s1 ⟨x,H1,I1,r1,q1⟩=>xk pins s1 σ H1 x v Q I1 r1 q1) (he _)
theorem nk:OpR X (binaryOp .Add) (fun x y H Q=>∃i j,x=.str i/\y=.str j/\i.length+j.length<=sizeLine/\Q (.str (i++j)) H):=by
 intro pins s σ H x y v u Q I rx ry h
 obtain⟨i,j,rfl,rfl,hz,q⟩:=h
 obtain⟨t,rfl⟩:=rx
 obtain⟨t',rfl⟩:=ry
 exact add_str (fun t' tk=>⟨.str (i++j),H,I.tok _,⟨_,rfl⟩,q⟩) hz
theorem cT{x:V}{us:List Value}(r:aI [x] us):∃u,us=[u]/\aW x u:=by
 cases r with
 | cons r1 r2=>cases r2;exact⟨_,rfl,r1⟩
theorem Al{x y:V}{us:List Value}(r:aI [x,y] us):∃u w',us=[u,w']/\aW x u/\aW y w':=by
 cases r with
 | cons r1 r2 =>
  cases r2 with
  | cons r3 r4=>cases r4;exact⟨_,_,rfl,r1,r3⟩
theorem qk(hc:X.calm=true):cb X (.builtin "min") (fun xs H Q=>∃i j,xs=[.int i,.int j]/\Q (.int (if j < i then j else i)) H):=by
 intro pins s σ H xs us Q I r h
 obtain⟨i,j,rfl,q⟩:=h
 obtain⟨u,w',rfl,⟨t,rfl⟩,⟨t',rfl⟩⟩:=Al r
 refine min_two_ints (I.ok.hd hc) fun h' tk k=>⟨_,H,I.kept k,?_,q⟩
 by_cases hj:j < i
 ·rw[if_pos hj,if_pos hj];exact⟨_,rfl⟩
 ·rw[if_neg hj,if_neg hj];exact⟨_,rfl⟩
theorem gG:cb X (.type "str") (fun xs H Q=>∃i,xs=[.int i]/\i.natAbs.log2 < 1920/\Q (.str (toString i)) H):=by
 intro pins s σ H xs us Q I r h
 obtain⟨i,rfl,hz,q⟩:=h
 obtain⟨u,rfl,t,rfl⟩:=cT r
 exact PySem.P.str_of_int hz ⟨.str _,H,I.tok _,⟨_,rfl⟩,q⟩
end
end L2
namespace L2
open PySem PySem.Spec PyProof.Rows
structure nX(h:Heap)(x dx C:Addr)(mA:Str->Option Value):Prop where
 obj:h.get? x=some (PySem.W.instObj C dx)
 ns:h.Ns1 dx mA
 ne:dx≠x
theorem p5{h:Heap}{dx:Addr}{mA:Str->Option Value}(n:h.Ns1 dx mA):∃od,h.get? dx=some od/\∀name,PySem.W.lookIn name od=some (mA name):=by
 obtain⟨o,es,ep,ho,hd,hk,_,hm⟩:=n
 refine⟨o,ho,fun name=>?_⟩
 have e:=hm name
 unfold nsFind findBy at e
 rw[<- Array.find?_toList]at e
 unfold PySem.W.lookIn
 rw[hd]
 dsimp only
 split
 ·rename_i y q
  rw[q]at e
  exact congrArg some e
 ·rename_i q
  rw[q]at e
  have a:es.toList.any (·.refKey)=false:=by
   rw[List.any_eq_false]
   intro y hy
   obtain⟨z,t,hkey⟩:=hk y (Array.mem_toList_iff.mp hy)
   simp[DictEntry.refKey,hkey]
  have a':¬es.toList.any (·.refKey)=true:=by rw[a];exact Bool.false_ne_true
  rw[if_neg a']
  exact congrArg some e
theorem nX.look{h:Heap}{x dx C:Addr}{mA:Str->Option Value}(I:nX h x dx C mA):∃od,PySem.W.InstAt h x (PySem.W.instObj C dx) C (some od)/\∀name,PySem.W.lookIn name od=some (mA name) :=
 let⟨od,ho,hl⟩:=p5 I.ns
 ⟨od,⟨I.obj,rfl,rfl,ho⟩,hl⟩
section
variable{prog:Program}{w:World}{A:Around}{E:Value->Shared->Prop}{s:Shared}{K:PySem.W.Frag}{x dx C f:Addr}{mA:Str->Option Value}{name:Str}{v:Value}
theorem vK{expr:Bool}{Q:Value->Shared->Prop}(X:K.In s.heap)(I:nX s.heap x dx C mA)(hg:PySem.W.plainGet K C name=true)(hh:PySem.W.hasDictIn K C=true)
  (ha:PySem.W.findIn K (.ref C) name=some none) (hv:mA name=some v) (hv':PySem.W.handedIn v=true) (h:Q v { s with toks:=s.toks+1 }) :
  wpAny (model prog w) A (getAttr (.ref x) name expr) Q E s:=by
 obtain⟨od,J,hl⟩:=I.look
 exact PySem.W.get_value X J (PySem.W.plainGet_of hg).1 (PySem.W.findObj_own hh ha rfl (by rw[hl,hv])) hv' h
theorem sW{pl:Sem Bool}{Q:Value×List Value->Shared->Prop}(X:K.In s.heap)(I:nX s.heap x dx C mA)(hg:PySem.W.plainGet K C name=true)
  (hf:PySem.W.findIn K (.ref C) name=some (some (.ref f))) (ht:PySem.W.isFn K (.ref f)=true) (hv:mA name=none) (h:Q (.ref f,[.ref x]) s) :
  wpAny (model prog w) A (getMethod (.ref x) name pl) Q E s:=by
 obtain⟨od,J,hl⟩:=I.look
 exact PySem.W.method_fn X J (PySem.W.plainGet_of hg).1 (PySem.W.plainGet_of hg).2 hf (beq_iff_eq.mp ht) (by show(PySem.W.lookIn name od).map (·.isSome)=some false;rw[hl,hv];rfl) h
theorem ur{ns:List Str}{Q:Unit->Shared->Prop}(X:K.In s.heap)(I:nX s.heap x dx C mA)
  (hs:PySem.W.findIn K (.ref C) "__setattr__" = some (some (.builtin "object.__setattr__"))) (hp:PySem.W.plainOver K C=true) (ht:PySem.W.takerIn K C name=some none) (hh:PySem.W.hasDictIn K C=true)
  (hw:PySem.Within mA ns) (hsz:ns.length<=sizeLine)
  (h:∀h',nX h' x dx C (fun y=>if y=name then some v else mA y)->Heap.SameBut dx s.heap h'->Q () { s with heap:=h',toks:=s.toks+2 }) :
  wpAny (model prog w) A (setAttr (.ref x) name v) Q E s:=by
 obtain⟨od,J,hl⟩:=I.look
 refine PySem.W.set_plain X J hs (PySem.W.osa_open (s:={ s with toks:=s.toks+1 }) (r:=none) X J hp ht fun b=>?_)
 obtain⟨cd,hc,hd'⟩:=PySem.W.any_some hh
 have hx:s.heap.get? x=some ⟨.ref C,some dx,.plain,#[]⟩:=I.obj
 refine wpAny_bind (wpAny_pure (wpAny_bind (wpAny_bind (wpAny_loadPart hx (wpAny_bind (PySem.W.Looks.here (s:={ s with toks:=s.toks+1 }) (PySem.W.looks_clsIn X hc) ?_))))))
 rw[hd']
 refine wpAny_pure (a:=some dx) (wpAny_bind (wpAny_pure (wpAny_bind ?_)))
 refine wpAny_nsSet1 (s:={ s with toks:=s.toks+1 }) I.ns fun h' hn2 hs2=>?_
 obtain⟨oD,esD,epD,hoD,hdD,hcD⟩:=hn2.count (PySem.Within.cons name v hw)
 refine wpAny_bind (wpAny_lookBehind hoD (by rw[hdD];exact pastItsLine_dict (Nat.le_trans hcD (by rw[List.length_cons];omega))) ?_)
 exact wpAny_pure (h _ ⟨(hs2.2 _ (Ne.symm I.ne)).trans I.obj,hn2,I.ne⟩ hs2)
theorem sG{R:Result->Shared->Prop}{vs:List Value}{kw:List (Str×Value)}(X:K.In s.heap)(hm:PySem.W.makesIn K C=true)
  (hi:PySem.W.findIn K (.ref C) "__init__" = some (some (.ref f))) (hf:PySem.W.typeIn K (.ref f)=some (.type "function"))
  (h:codeAny (model prog w) (A.under (.builtin "type.__call__" ⟨.ref C::vs,kw⟩)) (.call (.ref f) ⟨.ref (s.heap.objs.size+1)::vs,kw⟩) (PySem.W.InitBack (s.heap.objs.size+1) R)
   { s with heap:=(s.heap.push PySem.W.emptyDict).push (PySem.W.instObj C s.heap.objs.size) }) :
  codeAny (model prog w) A (.call (.ref C) ⟨vs,kw⟩) R s:=by
 obtain⟨hh,g,d,t,os⟩:=s
 exact PySem.W.make_core (PySem.W.makes_of X hm) (PySem.W.looks_findIn X hi) (fun self=>PySem.W.bind_fn X self hf) (.inl rfl) h
end
def d8(f:Str)(v:V):List (Str×V)->List (Str×V)
 | []=>[(f,v)]
 |(g,x)::r=>if g=f then(g,v)::r else(g,x)::d8 f v r
theorem io(f g:Str)(v:V):∀fs:List (Str×V),(d8 f v fs).lookup g=if g=f then some v else fs.lookup g
 | []=>by
  show List.lookup g [(f,v)]=_
  by_cases h:g=f
  ·have hb:(g==f)=true:=beq_iff_eq.mpr h
   simp only[List.lookup,hb,if_pos h]
  ·have hb:(g==f)=false:=beq_eq_false_iff_ne.mpr h
   simp only[List.lookup,hb,if_neg h]
 |(k,x)::r=>by
  have ih:=io f g v r
  rw[show d8 f v ((k,x)::r)=(if k=f then(k,v)::r else(k,x)::d8 f v r)from rfl]
  by_cases hk:k=f
  ·rw[if_pos hk]
   by_cases h:g=k
   ·have hb:(g==k)=true:=beq_iff_eq.mpr h
    simp only[List.lookup,hb,if_pos (h.trans hk)]
   ·have hb:(g==k)=false:=beq_eq_false_iff_ne.mpr h
    simp only[List.lookup,hb,if_neg (fun e:g=f=>h (e.trans hk.symm))]
  ·rw[if_neg hk]
   by_cases h:g=k
   ·have hb:(g==k)=true:=beq_iff_eq.mpr h
    simp only[List.lookup,hb,if_neg (fun e:g=f=>hk (h.symm.trans e))]
   ·have hb:(g==k)=false:=beq_eq_false_iff_ne.mpr h
    simp only[List.lookup,hb]
    exact ih
theorem gZ(f:Str)(v:V):∀fs:List (Str×V),f ∈(d8 f v fs).map (·.1)/\∀g,g∈fs.map (·.1)->g ∈(d8 f v fs).map (·.1)
 | []=>⟨by simp[d8],fun g h=>by simp at h⟩
 |(k,x)::r=>by
  obtain⟨i1,i2⟩:=gZ f v r
  rw[show d8 f v ((k,x)::r)=(if k=f then(k,v)::r else(k,x)::d8 f v r)from rfl]
  by_cases hk:k=f
  ·rw[if_pos hk]
   subst hk
   exact⟨by simp,fun g h=>by simpa using h⟩
  ·rw[if_neg hk]
   refine⟨?_,fun g h=>?_⟩
   ·rw[List.map_cons]
    exact List.mem_cons_of_mem _ i1
   ·rw[List.map_cons]at h ⊢
    rcases List.mem_cons.mp h with e | e
    ·exact List.mem_cons.mpr (.inl e)
    ·exact List.mem_cons_of_mem _ (i2 g e)
theorem iq(f:Str)(v:V):∀fs:List (Str×V),(d8 f v fs).length<=fs.length+1
 | []=>by simp[d8]
 |(k,x)::r=>by
  have ih:=iq f v r
  rw[show d8 f v ((k,x)::r)=(if k=f then(k,v)::r else(k,x)::d8 f v r)from rfl]
  by_cases hk:k=f
  ·rw[if_pos hk,List.length_cons,List.length_cons];omega
  ·rw[if_neg hk,List.length_cons,List.length_cons];omega
theorem jM.some_of{v:V}{o:Option Value}(r:jM (some v) o):∃u,o=some u/\aW v u:=by
 cases o with
 | none=>exact(show False from r).elim
 | some u=>exact⟨u,rfl,r⟩
theorem jM.none_of{o:Option Value}(r:jM none o):o=none:=by
 cases o with
 | none=>rfl
 | some u=>exact(show False from r).elim
theorem qd{v:V}{u:Value}(r:aW v u):PySem.W.handedIn u=true:=by
 cases v with
 | non=>cases(show u=Value.none from r);rfl
 | bl b=>cases(show u=Value.bool b from r);rfl
 | int i=>obtain⟨t,e⟩:=(show ∃t,u=Value.int i t from r);cases e;rfl
 | str x=>obtain⟨t,e⟩:=(show ∃t,u=Value.str x t from r);cases e;rfl
 | byt b=>obtain⟨t,e⟩:=(show ∃t,u=Value.bytes b t from r);cases e;rfl
 | flt b=>obtain⟨t,e⟩:=(show ∃t,u=Value.float b t from r);cases e;rfl
 | ref a=>cases(show u=Value.ref a from r);rfl
 | ty n=>cases(show u=Value.type n from r);rfl
section
variable{P:Program}{w:World}{H H':Hp}{h h':Heap}{a C dx:Addr}{fs fs':List (Str×V)}
theorem kQ(hok:HOk P w H h)(e:H a=some (.ins C dx fs)):∃mA,nX h a dx C mA/\(∀f,jM (fs.lookup f) (mA f))/\PySem.Within mA (fs.map (·.1))/\fs.length<=1000/\H dx=some (.own a):=by
 obtain⟨d,z,ne,ob,mA,n,r,q⟩:=(show bW P w H h a (.ins C dx fs)from hok a _ e)
 exact⟨mA,⟨ob,n,ne⟩,r,q,z,d⟩
end
structure Cls(K:PySem.W.Frag)(C:Addr):Prop where
 pg:PySem.W.plainGet K C Str.empty=true
 hd:PySem.W.hasDictIn K C=true
 po:PySem.W.plainOver K C=true
 sa:PySem.W.findIn K (.ref C) "__setattr__" = some (some (.builtin "object.__setattr__"))
theorem Cls.get{K:PySem.W.Frag}{C:Addr}(c:Cls K C)(f:Str):PySem.W.plainGet K C f=true:=c.pg
def cS(K:PySem.W.Frag)(C:Addr)(f:Str):Prop:=PySem.W.findIn K (.ref C) f=some none
theorem cS.taker{K:PySem.W.Frag}{C:Addr}{f:Str}(n:cS K C f):PySem.W.takerIn K C f=some none:=by
 unfold PySem.W.takerIn
 rw[show PySem.W.findIn K (.ref C) f=some none from n]
 rfl
structure Con(K:PySem.W.Frag)(C:Addr)(f:Str)(v:V)(u:Value):Prop where
 at_:PySem.W.findIn K (.ref C) f=some (some u)
 rel:aW v u
 get:PySem.W.specialIn K u "__get__" = some none
 cp:PySem.W.copiedNames.contains f=false
structure wb(K:PySem.W.Frag)(C:Addr)(m:Str)(f:Addr):Prop where
 at_:PySem.W.findIn K (.ref C) m=some (some (.ref f))
 fn:PySem.W.isFn K (.ref f)=true
 kp:PySem.W.keepIn K (.ref f)=true
section
variable{X:Cx}{pins:List (Addr×Obj)}{σ:St}{H:Hp}{s:Shared}{a C dx:Addr}{fs:List (Str×V)}{f:Str}{v:V}{A:Around}{E:Value->Shared->Prop}
theorem nM{b:Bool}{Q:Value->Shared->Prop}(I:Inv X pins σ H s)(e:H a=some (.ins C dx fs))(c:Cls X.K C)(n:cS X.K C f)(l:fs.lookup f=some v)
  (h:∀u s',Inv X pins σ H s'->aW v u->Q u s'):wpAny (model X.prog X.w) A (getAttr (.ref a) f b) Q E s:=by
 obtain⟨mA,O,r,_,_,_⟩:=kQ I.hok e
 obtain⟨u,hu,ru⟩:=jM.some_of (v:=v) (o:=mA f) (by rw[<- l];exact r f)
 exact vK I.kIn O (c.get f) c.hd n hu (qd ru) (h u _ (I.tok _) ru)
theorem nL{m:Str}{g:Addr}{pl:Sem Bool}{Q:Value×List Value->Shared->Prop}(I:Inv X pins σ H s)(e:H a=some (.ins C dx fs))(c:Cls X.K C)(k:wb X.K C m g)(l:fs.lookup m=none)
  (h:Q (.ref g,[.ref a]) s):wpAny (model X.prog X.w) A (getMethod (.ref a) m pl) Q E s:=by
 obtain⟨mA,O,r,_,_,_⟩:=kQ I.hok e
 have hn:mA m=none:=jM.none_of (by rw[<- l];exact r m)
 exact sW I.kIn O (c.get m) k.at_ k.fn hn h
theorem mY{y:V}{u:Value}{Q:Unit->Shared->Prop}(I:Inv X pins σ H s)(e:H a=some (.ins C dx fs))(c:Cls X.K C)(n:cS X.K C f)(hl:fs.length < 1000)(ry:aW y u)
  (h:∀s',Inv X pins σ (upd H a (.ins C dx (d8 f y fs))) s'->Q () s'):wpAny (model X.prog X.w) A (setAttr (.ref a) f u) Q E s:=by
 obtain⟨mA,O,r,wi,_,ho⟩:=kQ I.hok e
 have hz:(fs.map (·.1)).length<=sizeLine:=by rw[List.length_map,sizeLine_eq];omega
 refine ur I.kIn O c.sa c.po n.taker c.hd wi hz fun h' O' sb=>h _ ?_
 have hd:∃o,h'.get? dx=some o:=let⟨o,_,_,e',_⟩:=O'.ns;⟨o,e'⟩
 refine I.write (x:=a) (e:=dx) (by rw[e];exact True.intro) (.inr ho) (fun b q hb z=>(sb.2 b hb).trans z) hd ?_
 refine⟨by rw[aE O.ne];exact ho,?_,O.ne,O'.obj,_,O'.ns,fun g=>?_,fun g hg=>?_⟩
 ·have:=iq f y fs;omega
 ·show jM ((d8 f y fs).lookup g) (if g=f then some u else mA g)
  rw[io]
  by_cases q:g=f
  ·rw[if_pos q,if_pos q];exact ry
  ·rw[if_neg q,if_neg q];exact r g
 ·by_cases q:g=f
  ·rw[q];exact(gZ f y fs).1
  ·refine(gZ f y fs).2 g (wi g fun z=>hg ?_)
   show(if g=f then some u else mA g)=none
   rw[if_neg q];exact z
theorem Inv.made(I:Inv X pins σ H s):Inv X pins σ (upd (upd H s.heap.objs.size (.own (s.heap.objs.size+1))) (s.heap.objs.size+1) (.ins C s.heap.objs.size []))
  { s with heap:=(s.heap.push PySem.W.emptyDict).push (PySem.W.instObj C s.heap.objs.size) }:=by
 have e1:(s.heap.push PySem.W.emptyDict).get? s.heap.objs.size=some PySem.W.emptyDict:=Heap.get?_push_size s.heap rfl
 have e2:((s.heap.push PySem.W.emptyDict).push (PySem.W.instObj C s.heap.objs.size)).get? (s.heap.objs.size+1)=some (PySem.W.instObj C s.heap.objs.size):=by
  have:=Heap.get?_push_size (s.heap.push PySem.W.emptyDict) (o:=PySem.W.instObj C s.heap.objs.size) rfl
  rwa [Heap.size_push]at this
 have e3:(s.heap.push PySem.W.emptyDict).Ns s.heap.objs.size (fun _=>none):=⟨PySem.W.emptyDict,#[],_,e1,rfl,(fun e he=>absurd he (by simp)),fun _=>rfl⟩
 have I1:=I.laid (a:=s.heap.objs.size) (o:=.own (s.heap.objs.size+1)) (h':=s.heap.push PySem.W.emptyDict) (t':=s.toks) (fun b u q=>Heap.get?_push_of_some _ q) (Nat.le_refl _) ⟨_,e1⟩
 refine I1.laid (a:=s.heap.objs.size+1) (o:=.ins C s.heap.objs.size []) (t':=s.toks) (fun b u q=>Heap.get?_push_of_some _ q) (Nat.le_of_eq (Heap.size_push _ _)) ?_
 have ne:s.heap.objs.size≠s.heap.objs.size+1:=Nat.ne_of_lt (Nat.lt_succ_self _)
 refine⟨by rw[aE ne,aX],Nat.zero_le _,ne,e2,fun _=>none,(Heap.Ns1.of_empty e3).at fun o q=>Heap.get?_push_of_some _ q,fun _=>True.intro,fun y hy=>absurd rfl hy⟩
theorem v8{prog:Program}{w:World}{env:Env}{e:Expr}{f:Str}{pos:Pos}{s:Shared}{Q:Value->Shared->Prop}(hb:attributeBase e f env (eval e env)=eval e env)
  (h:wpAny (model prog w) A (eval e env) (fun o s₁=>wpAny (model prog w) A (getAttr o f true) Q E s₁) E s):wpAny (model prog w) A (eval (.Attribute e f pos) env) Q E s :=
 Attribute_any_ h (by rw[arm_eval_Attribute,hb])
end
def As(K:PySem.W.Frag)(ta:TE)(f:Str):TE:=fun σ H Q=>ta σ H fun x H1=>∃a C dx fs v,x=.ref a/\H1 a=some (.ins C dx fs)/\Cls K C/\cS K C f/\fs.lookup f=some v/\Q v H1
def sFld(K:PySem.W.Frag)(ta tv:TE)(f:Str):TS:=fun D σ H=>tv σ H fun y H1=>ta σ H1 fun x H2=>∃a C dx fs,x=.ref a/\H2 a=some (.ins C dx fs)/\Cls K C/\cS K C f/\fs.length < 1000 /\
 D.nx σ (upd H2 a (.ins C dx (d8 f y fs)))
section
variable{X:Cx}{o e value:Expr}{f:Str}{pos pos' tpos:Pos}{ta tv:TE}
theorem yb(he:PE X e ta)(hb:attributeBase e f X.env (eval e X.env)=eval e X.env):PE X (.Attribute e f pos) (As X.K ta f):=by
 intro pins s σ H Q I h
 refine v8 hb (thn (he pins s σ H _ I h) fun u s1 ⟨x,H1,I1,rx,a,C,dx,fs,v,ex,ea,c,n,l,q⟩=>?_)
 subst ex
 obtain rfl:u=Value.ref a:=rx
 exact nM I1 ea c n l fun u' s2 I2 ru=>⟨v,H1,I2,ru,q⟩
theorem xT(ha:PE X o ta)(hv:PE X value tv)(hs:swapsWith value (some (.Attribute o f pos')) pos.line X.env=pure false):PS X (.Assign [.Attribute o f pos'] value pos) (sFld X.K ta tv f):=by
 intro pins s σ H D I h
 refine plainObj_wpAny_Assign_Attribute (thn (hv pins s σ H _ I h) fun u s1 ⟨y,H1,I1,ry,q⟩=>thn (ha pins s1 σ H1 _ I1 q) fun ov s2 ⟨x,H2,I2,rx,a,C,dx,fs,ex,ea,c,n,l,q2⟩=>?_) hs
 subst ex
 obtain rfl:ov=Value.ref a:=rx
 exact mY I2 ea c n l ry fun s3 I3=>⟨σ,_,I3,q2⟩
end
section
variable{X:Cx}{pins:List (Addr×Obj)}{σ:St}{H:Hp}{s:Shared}{A:Around}{E:Value->Shared->Prop}{Q:Value->Shared->Prop}{c:Value}{b:Bool}
inductive jC(K:PySem.W.Frag)(H:Hp):V->Value->Prop where
 | non:jC K H .non (.type "NoneType")
 | bl (x:Bool):jC K H (.bl x) (.type "bool")
 | int (i:Int):jC K H (.int i) (.type "int")
 | str (x:Str):jC K H (.str x) (.type "str")
 | flt (x:UInt64):jC K H (.flt x) (.type "float")
 | lst {a:Addr}{xs:List V} (e:H a=some (.lst xs)):jC K H (.ref a) (.type "list")
 | frz {a:Addr}{o:Obj}{xs:List V} (e:H a=some (.frz o (.lst xs))):jC K H (.ref a) (.type "list")
 | tup {a:Addr}{xs:List V} (e:H a=some (.tup xs)):jC K H (.ref a) (.type "tuple")
 | dK {a:Addr}{kvs:List (Key×V)} (e:H a=some (.dK kvs)):jC K H (.ref a) (.type "dict")
 | dT {a:Addr}{kvs:List (List Key×V)} (e:H a=some (.dT kvs)):jC K H (.ref a) (.type "dict")
 | ins {a C dx:Addr}{fs:List (Str×V)} (e:H a=some (.ins C dx fs)) (cl:Cls K C) (ha:PySem.W.findIn K (.ref C) "__class__" = some (some (.builtin "object.__class__")))
   (hn:PySem.W.specialIn K (.builtin "object.__class__") "__get__" = some (some (.builtin "getset_descriptor.__get__"))) (htk:PySem.W.takesIn K (.builtin "object.__class__")=some true)
   (hm:PySem.W.mroIn K C (.type "object")=some true):jC K H (.ref a) (.ref C)
end
end L2
namespace L2
open PySem PySem.Spec PyProof.Rows
structure cj(k:Nat)(A:Around):Prop where
 hd:A.handled=none
 dp:A.depth+3 * k+5 < recursionLimit
 un:A.units+16 * k+200 < cLine
theorem cj.mono{j k:Nat}{A:Around}(r:cj k A)(h:j<=k):cj j A:=⟨r.hd,by have:=r.dp;omega,by have:=r.un;omega⟩
theorem cj.deeper{k:Nat}{A:Around}(r:cj (k+1) A)(env:Env):cj k (A.deeper env) :=
 ⟨r.hd,by have:=r.dp;show A.depth+1+3 * k+5 < _;omega,by have:=r.un;show A.units+3+16 * k+200 < _;omega⟩
theorem nA{A:Around}{C:Addr}{us:List Value}{kw:List (Str×Value)}:(A.under (.builtin "type.__call__" ⟨.ref C::us,kw⟩)).depth=A.depth+1:=by
 first | rfl | simp[Around.under,Code.weight,Code.isCreation,Code.isGuard,Code.isCaller,Code.frames,Code.isFrame,guardIds]
theorem ny{A:Around}{C:Addr}{us:List Value}{kw:List (Str×Value)}:(A.under (.builtin "type.__call__" ⟨.ref C::us,kw⟩)).units=A.units+1:=by
 first | rfl | simp[Around.under,Code.cUnits,Code.frames,Code.isFrame]
theorem cj.make{k:Nat}{A:Around}(r:cj (k+1) A)(C:Addr)(us:List Value)(kw:List (Str×Value)):cj k (A.under (.builtin "type.__call__" ⟨.ref C::us,kw⟩)) :=
 ⟨r.hd,by have:=r.dp;rw[nA];omega,by have:=r.un;rw[ny];omega⟩
theorem cj.depth{k:Nat}{A:Around}(r:cj k A):A.depth < recursionLimit:=by have:=r.dp;omega
theorem cj.units{k:Nat}{A:Around}(r:cj k A):A.units+64 < cLine:=by have:=r.un;omega
def xl:TA:=fun _ H Q=>Q [] H
def n6(ta:TE)(tr:TA):TA:=fun σ H Q=>ta σ H fun x H1=>tr σ H1 fun xs H2=>Q (x::xs) H2
section
variable{X:Cx}{e:Expr}{es:List Expr}{te:TE}{t:TA}{pos:Pos}
theorem gT:PA X [] xl:=fun _ _ _ _ H Q I h=>Calls.spliced_nil ⟨[],H,I,.nil,h⟩
theorem cZ(ha:PE X e te)(hr:PA X es t)(hs:starEach (e::es) X.env=(false,eval e X.env)::starEach es X.env:=by rfl):PA X (e::es) (n6 te t):=by
 intro pos pins s σ H Q I h
 rw[hs]
 show wpAny _ _ (spliced ((false,eval e X.env)::backTo pos (starEach es X.env))) _ _ s
 refine Calls.spliced_cons (thn (ha pins s σ H _ I h) fun u s1 ⟨x,H1,I1,r1,q1⟩=>?_)
 exact thn (hr pos pins s1 σ H1 _ I1 q1) fun us s2 ⟨xs,H2,I2,r2,q2⟩=>⟨x::xs,H2,I2,.cons r1 r2,q2⟩
def Di(t:TA):TE:=fun σ H Q=>t σ H fun xs H1=>xs.length<=sizeLine/\∀p,H1 p=none->Q (.ref p) (upd H1 p (.tup xs))
def Dm(t:TA):TE:=fun σ H Q=>t σ H fun xs H1=>xs.length<=sizeLine/\∀p,H1 p=none->Q (.ref p) (upd H1 p (.lst xs))
theorem rQ{x1}(h:PA X es t):PE X (.Tuple es x1 pos) (Di t):=by
 intro pins s σ H Q I hq
 refine wpAny_Tuple_spliced (thn (h pos pins s σ H _ I hq) fun us s1 ⟨xs,H1,I1,r,z,q⟩=>⟨by rw[<- r.length];exact z,?_⟩)
 have hf:H1 s1.heap.objs.size=none:=I1.hok.fresh (Nat.le_refl _)
 refine⟨.ref s1.heap.objs.size,upd H1 s1.heap.objs.size (.tup xs),I1.laid (t':=s1.toks) (fun b u e=>Heap.get?_push_of_some _ e) (Nat.le_refl _) ?_,rfl,q _ hf⟩
 exact⟨z,us,r,⟨_,Heap.get?_push_size _ rfl,rfl,_,rfl⟩⟩
theorem ya(h:PA X es t):PE X (.List es pos) (Dm t):=by
 intro pins s σ H Q I hq
 refine wpAny_List_spliced (thn (h pos pins s σ H _ I hq) fun us s1 ⟨xs,H1,I1,r,z,q⟩=>⟨by rw[<- r.length];exact z,?_⟩)
 have hf:H1 s1.heap.objs.size=none:=I1.hok.fresh (Nat.le_refl _)
 refine⟨.ref s1.heap.objs.size,upd H1 s1.heap.objs.size (.lst xs),I1.laid (t':=s1.toks) (fun b u e=>Heap.get?_push_of_some _ e) (Nat.le_refl _) ?_,rfl,q _ hf⟩
 exact⟨z,us,0,r,Heap.get?_push_size _ rfl⟩
end
abbrev Sp:=List V->Hp->VK->XK->Prop
abbrev CXT:=List Env->Hp->Shared->XK->Value->Shared->Prop
structure nZ(P:Program)(w:World)(K:PySem.W.Frag)(mg:Str->Option Value)(base:Heap)(A:Around)(outer:List Env)(s:Shared)(H:Hp):Prop where
 frames:A.frames=some outer
 mod:Mod K mg base
 bs:∀b o,base.get? b=some o->s.heap.get? b=some o/\H b=none
 bsz:base.objs.size<=s.heap.objs.size
 funs:s.heap.FunFrames base outer
 frf:∀b∈frs outer,H b=none
 hok:HOk P w H s.heap
 bare:AllBare s.gens
def CE(outer:List Env)(P:Program)(w:World)(H:Hp)(s:Shared)(Q:VK)(u:Value)(s':Shared):Prop :=
 ∃v H',s'.os=s.os/\AllBare s'.gens/\Un (frs outer) [] H H' s.heap s'.heap/\HOk P w H' s'.heap/\aW v u/\Q v H'
def CR(CX:CXT)(outer:List Env)(P:Program)(w:World)(H:Hp)(s:Shared)(Q:VK)(E:XK)(r:Result)(s':Shared):Prop :=
 match r with
 | .ok (.ret u)=>CE outer P w H s Q u s'
 | .ok _=>False
 | .error e=>CX outer H s E e s'
structure bH(P:Program)(w:World)(K:PySem.W.Frag)(mg:Str->Option Value)(base:Heap)(CX:CXT)(k:Nat)(f:Addr)(fd:FuncData)(ps:List Str)(sp:Sp):Prop where
 len:∀vs H Q E,sp vs H Q E->vs.length=ps.length
 run:∀(A:Around) (outer:List Env) (s:Shared) (H:Hp) (args:Args) (us:List Value) (vs:List V) (Q:VK) (E:XK),cj k A->nZ P w K mg base A outer s H->BindsTo s fd args (ps.zip us)->aI vs us->sp vs H Q E ->
  codeAny (model P w) A (.call (.ref f) args) (CR CX outer P w H s Q E) s
theorem bH.mono{P:Program}{w:World}{K:PySem.W.Frag}{mg:Str->Option Value}{base:Heap}{CX:CXT}{j k:Nat}{f:Addr}{fd:FuncData}{ps:List Str}{sp:Sp}(F:bH P w K mg base CX j f fd ps sp)(h:j<=k) :
  bH P w K mg base CX k f fd ps sp:=⟨F.len,fun A outer s H args us vs Q E hr=>F.run A outer s H args us vs Q E (hr.mono h)⟩
theorem bH.imp{P:Program}{w:World}{K:PySem.W.Frag}{mg:Str->Option Value}{base:Heap}{CX:CXT}{k:Nat}{f:Addr}{fd:FuncData}{ps:List Str}{sp sp':Sp}(F:bH P w K mg base CX k f fd ps sp)
  (h:∀vs H Q E,sp' vs H Q E->sp vs H Q E):bH P w K mg base CX k f fd ps sp' :=
 ⟨fun vs H Q E q=>F.len vs H Q E (h _ _ _ _ q),fun A outer s H args us vs Q E hr he hb hv hs=>F.run A outer s H args us vs Q E hr he hb hv (h _ _ _ _ hs)⟩
theorem nZ.make{P:Program}{w:World}{K:PySem.W.Frag}{mg:Str->Option Value}{base:Heap}{A:Around}{outer:List Env}{s:Shared}{H:Hp}(e:nZ P w K mg base A outer s H)(C:Addr)(us:List Value)(kw:List (Str×Value)) :
  nZ P w K mg base (A.under (.builtin "type.__call__" ⟨.ref C::us,kw⟩)) outer s H:=⟨by first | exact e.frames |(simpa[Around.under,Code.envs,Code.isFrame,pushEnvs]using e.frames),e.mod,e.bs,e.bsz,e.funs,e.frf,e.hok,e.bare⟩
section
variable{X:Cx}{pins:List (Addr×Obj)}{σ:St}{H:Hp}{s s':Shared}
theorem Inv.env0(I:Inv X pins σ H s):nZ X.prog X.w X.K X.mg X.base X.A X.stack s H :=
 ⟨I.ok.frames,I.ok.mod,I.bs,Nat.le_trans I.ok.bsz I.sz,I.stack,I.stkFree,I.hok,I.bare⟩
theorem Inv.after{Q:VK}{u:Value}(I:Inv X pins σ H s)(h:CE X.stack X.prog X.w H s Q u s'):EP X pins σ Q u s':=by
 obtain⟨v,H',os,bare,un,hok,r,q⟩:=h
 obtain⟨hh,g,d,t,os'⟩:=s'
 obtain rfl:os'=s.os:=os
 exact⟨v,H',I.call (h':=hh) (g':=g) (d':=d) (t':=t) (ch:=[]) un hok bare (fun b z=>absurd z (by simp)),r,q⟩
end
def cC(K:PySem.W.Frag)(fd:FuncData)(ps:List Str)(ds:List Value):Prop :=
 ∀(s:Shared) (us:List Value),K.In s.heap->(us++ds).length=ps.length->BindsTo s fd ⟨us,[]⟩ (ps.zip (us++ds))
theorem cC.all{K:PySem.W.Frag}{fd:FuncData}{ps:List Str}(h:∀us:List Value,us.length=ps.length->bindArgs fd ⟨us,[]⟩=pure (ps.zip us)):cC K fd ps []:=fun s us _ hl=>by
 rw[List.append_nil]at hl ⊢
 exact .of_eq (h us hl)
section
variable{X:Cx}{CX:CXT}{k:Nat}{f C:Addr}{fd:FuncData}{ps:List Str}{sp:Sp}{dvs:List V}{ds:List Value}{E:XK}{x m:Str}{p pos apos:Pos}{e o:Expr}{es:List Expr}{ta:TE}{t:TA}
structure Mk(K:PySem.W.Frag)(C f:Addr):Prop where
 makes:PySem.W.makesIn K C=true
 init:PySem.W.findIn K (.ref C) "__init__" = some (some (.ref f))
 fn:PySem.W.isFn K (.ref f)=true
 kp:PySem.W.keepIn K (.ref C)=true
end
def PK(X:Cx)(kws:List Keyword)(t:TA):Prop :=
 ∀(pos:Pos) (pins:List (Addr×Obj)) (s:Shared) (σ:St) (H:Hp) (Q:List V->Hp->Prop),Inv X pins σ H s->t σ H Q->wpAny (model X.prog X.w) X.A (evalAll ((backToKw pos (keywordEach kws X.env)).map (·.2))) (AP X pins σ Q) X.xe s
section
variable{X:Cx}{CX:CXT}{k:Nat}{f C:Addr}{fd:FuncData}{ps ks:List Str}{sp:Sp}{E:XK}{x m:Str}{p pos apos kpos:Pos}{e o:Expr}{es:List Expr}{kws:List Keyword}{te ta:TE}{t tk:TA}{nm:Option Str}
theorem xW:PK X [] xl:=fun _ _ _ _ H Q I h=>wpAny_evalAll_nil ⟨[],H,I,.nil,h⟩
theorem uV(ha:PE X e te)(hr:PK X kws t):PK X (⟨nm,e,kpos⟩::kws) (n6 te t):=by
 intro pos pins s σ H Q I h
 show wpAny _ _ (evalAll ((do let v <- eval e X.env;standAt pos;pure v)::(backToKw pos (keywordEach kws X.env)).map (·.2))) _ _ s
 refine wpAny_evalAll_cons (wpAny_bind (thn (ha pins s σ H _ I h) fun u s1 ⟨x,H1,I1,r1,q1⟩=>wpAny_bind (wpAny_standAt (wpAny_pure ?_))))
 exact thn (hr pos pins s1 σ H1 _ I1 q1) fun us s2 ⟨xs,H2,I2,r2,q2⟩=>⟨x::xs,H2,I2,.cons r1 r2,q2⟩
structure Ei(K:PySem.W.Frag)(fd:FuncData)(ps ks:List Str)(g:List Value->List Value->List Value)(gV:List V->List V->List V):Prop where
 to:∀(s:Shared) (us ws:List Value),K.In s.heap->(g us ws).length=ps.length->BindsTo s fd ⟨us,ks.zip ws⟩ (ps.zip (g us ws))
 rel:∀{vs:List V}{us:List Value}{zs:List V}{ws:List Value},aI vs us->aI zs ws->aI (gV vs zs) (g us ws)
variable{g:List Value->List Value->List Value}{gV:List V->List V->List V}
end
structure bT(N P:List Str)(sc:Scope):Prop where
 kind:sc.kind=.function
 co:sc.isCoroutine=false
 gen:sc.isGenerator=false
 nd:N.Nodup
 pre:N.take P.length=P
 par:∀x∈P,sc.names.lookup x=some .local\/sc.names.lookup x=some .cell
 nofree:∀y∈sc.names,y.2≠.free
theorem kf{kindOf:Str->Option NameKind}{x:Str}:∀{binds:List (Str×Value)}{m:Str->Option Value},(∀v,(x,v)∉ binds)->bindL kindOf binds m x=m x
 | [],_,_=>rfl
 |(n,v)::r,m,h=>by
  unfold bindL
  rw[kf fun w hw=>h w (List.mem_cons_of_mem _ hw)]
  split
  ·have:x≠n:=by rintro rfl;exact h v List.mem_cons_self
   simp[this]
  ·rfl
theorem kh{kindOf:Str->Option NameKind}{x:Str}:∀{binds:List (Str×Value)}{m:Str->Option Value},(∀v,(x,v)∉ binds)->bindC kindOf binds m x=m x
 | [],_,_=>rfl
 |(n,v)::r,m,h=>by
  unfold bindC
  rw[kh fun w hw=>h w (List.mem_cons_of_mem _ hw)]
  split
  ·rfl
  ·have:x≠n:=by rintro rfl;exact h v List.mem_cons_self
   simp[this]
theorem kg{kindOf:Str->Option NameKind}{x:Str}{v:Value}:∀{P:List Str}{vs:List Value}{i:Nat}{m:Str->Option Value},P.Nodup->P[i]?=some x->vs[i]?=some v->kindOf x=some .local ->
  bindL kindOf (P.zip vs) m x=some v
 | [],_,_,_,_,h,_,_ | _::_,[],_,_,_,_,h,_=>by simp at h
 | p::P,w::vs,0,m,nd,h1,h2,hk=>by
  simp at h1 h2;subst h1;subst h2
  show bindL kindOf ((p,w)::P.zip vs) m p=_
  unfold bindL
  rw[kf fun v hv=>(List.nodup_cons.mp nd).1 (List.of_mem_zip hv).1,if_pos hk]
  simp
 | p::P,w::vs,i+1,m,nd,h1,h2,hk=>by
  show bindL kindOf ((p,w)::P.zip vs) m x=_
  unfold bindL
  exact kg (i:=i) (List.nodup_cons.mp nd).2 (by simpa using h1) (by simpa using h2) hk
theorem ki{kindOf:Str->Option NameKind}{x:Str}{v:Value}:∀{P:List Str}{vs:List Value}{i:Nat}{m:Str->Option Value},P.Nodup->P[i]?=some x->vs[i]?=some v->kindOf x≠some .local ->
  bindC kindOf (P.zip vs) m x=some v
 | [],_,_,_,_,h,_,_ | _::_,[],_,_,_,_,h,_=>by simp at h
 | p::P,w::vs,0,m,nd,h1,h2,hk=>by
  simp at h1 h2;subst h1;subst h2
  show bindC kindOf ((p,w)::P.zip vs) m p=_
  unfold bindC
  rw[kh fun v hv=>(List.nodup_cons.mp nd).1 (List.of_mem_zip hv).1,if_neg hk]
  simp
 | p::P,w::vs,i+1,m,nd,h1,h2,hk=>by
  show bindC kindOf ((p,w)::P.zip vs) m x=_
  unfold bindC
  exact ki (i:=i) (List.nodup_cons.mp nd).2 (by simpa using h1) (by simpa using h2) hk
def eF(N:List Str)(vs:List V):St:=vs.map some++List.replicate (N.length - vs.length) none
def cz(CX:CXT)(P:Program)(w:World)(K:PySem.W.Frag)(mg:Str->Option Value)(base:Heap)(N:List Str)(qual:Str)(scope:Scope)(f:Addr)(cd:Value)(A:Around)(outer:List Env)(s:Shared)(H:Hp)(E:XK):Cx where
 prog:=P
 w:=w
 K:=K
 mg:=mg
 base:=base
 A:=A.deeper (envOfC qual scope s.heap.objs.size f cd)
 N:=N
 s₀:=s
 H₀:=H
 env:=envOfC qual scope s.heap.objs.size f cd
 outer:=outer
 stack:=envOfC qual scope s.heap.objs.size f cd::outer
 ex:=[]
 calm:=true
 fn:=fun _=>true
 pn:=[]
 xe:=fun e s'=>wpAny (model P w) (A.deeper (envOfC qual scope s.heap.objs.size f cd)) (leaving (envOfC qual scope s.heap.objs.size f cd) e) (fun _ s''=>CX outer H s E e s'') (fun e' s''=>CX outer H s E e' s'') s'
theorem mz{sc:Scope}{n:Nat}{x:Str}(h:sc.names.lookup x=some .cell):∃c,(cellsFrom n sc.names []).lookup x=some c:=by
 have q:=PySem.W.cellsFrom_some sc.names n [] (.inl h)
 exact Option.isSome_iff_exists.mp q
theorem p_{CX:CXT}{P:Program}{w:World}{K:PySem.W.Frag}{mg:Str->Option Value}{base:Heap}{N ps:List Str}{qual:Str}{scope:Scope}{f:Addr}{cd:Value}{A:Around}{outer:List Env}{s s1:Shared}{H:Hp}{E:XK}{us:List Value}{vs:List V}
  (S:bT N ps scope) (hd:A.handled=none) (e0:nZ P w K mg base A outer s H) (hl:vs.length=ps.length) (r:aI vs us)
  (x:InCallC s s.heap.objs.size (bindL (envOfC qual scope s.heap.objs.size f cd).kindOf (ps.zip us) fun _=>none) (cellsFrom (s.heap.objs.size+1) scope.names []) (bindC (envOfC qual scope s.heap.objs.size f cd).kindOf (ps.zip us) fun _=>none) s1) :
  Inv (cz CX P w K mg base N qual scope f cd A outer s H E) [] (eF N vs) H s1:=by
 have hpl:ps.length<=N.length:=by have:=congrArg List.length S.pre;rw[List.length_take]at this;omega
 obtain⟨h1,tk,rfl,hk⟩:=x.done
 have noA:∀b:Addr,b ∉(cz CX P w K mg base N qual scope f cd A outer s H E).ex:=fun b z=>absurd (show b ∈([]:List Addr)from z) (by simp)
 refine ⟨⟨e0.mod,S.kind,rfl,rfl,Nat.le_refl _,fun y z c h1 h2=>?_,fun y hy=>?_,fun y c _ h=>?_,fun _=>hd,Around.frames_deeper e0.frames,.inr ⟨rfl,rfl⟩,fun b z=>absurd z (noA b),e0.bs,e0.bsz,fun b _ _=>noA b,fun b z=>absurd z (noA b),e0.funs,e0.frf⟩,
  rfl,e0.bare,Un.kept hk,⟨_,x.toInCall.ns,fun i y v h1 h2 h3=>?_⟩,fun y c h=>⟨_,x.cell y c h⟩,e0.hok.fresh (Nat.le_refl _),fun y c h=>?_,fun p hp=>absurd (show p ∈([]:List (Addr×Obj))from hp) (by simp),e0.hok.kept hk,?_⟩
 ·exact name_of_addr x.apart (PySem.mem_of_lookup h1) (PySem.mem_of_lookup h2)
 ·have hy:scope.names.lookup y=some .cell\/scope.names.lookup y=some .free:=hy
  rcases hy with hy | hy
  ·exact mz hy
  ·exact absurd rfl (S.nofree _ (PySem.mem_of_lookup hy))
 ·exact Nat.le_of_lt (x.above y c (PySem.mem_of_lookup h))
 ·have hi:i < vs.length:=by
   unfold eF at h2
   by_cases hi:i < vs.length
   ·exact hi
   ·rw[List.getElem?_append_right (by simpa using hi)]at h2
    rw[List.getElem?_replicate]at h2
    split at h2<;>cases h2
  have ha:vs[i]?=some v:=by
   unfold eF at h2
   rw[List.getElem?_append_left (by simpa using hi),List.getElem?_map]at h2
   cases e:vs[i]? with
   | none=>rw[e]at h2;cases h2
   | some a=>rw[e]at h2;cases h2;rfl
  obtain⟨u,hu,rv⟩:=r.get ha
  have hp:ps[i]?=some y:=by
   rw[<- S.pre,List.getElem?_take_of_lt (by omega)];exact h1
  have ndP:ps.Nodup:=by rw[<- S.pre];exact S.nd.sublist (List.take_sublist _ _)
  refine⟨u,rv,?_⟩
  rcases S.par y (List.mem_of_getElem? hp)with k | k
  ·exact .inl ⟨k,kg ndP hp hu k⟩
  ·obtain⟨c,e⟩:=mz (n:=s.heap.objs.size+1) k
   refine .inr ⟨.inl k,c,e,?_⟩
   have q:=x.cell y c e
   rw[ki ndP hp hu (by show scope.names.lookup y≠_;rw[k];decide)]at q
   exact q
 ·exact e0.hok.fresh (Nat.le_of_lt (x.above y c (PySem.mem_of_lookup h)))
 ·unfold eF
  show _=N.length
  rw[List.length_append,List.length_map,List.length_replicate]
  omega
theorem oX{CX:CXT}{P:Program}{w:World}{K:PySem.W.Frag}{mg:Str->Option Value}{base:Heap}{k:Nat}{f:Addr}{name qual:Str}{params:Arguments}{body:List Stmt}{scope:Scope}{dV kV doc pm cdv ct oc:Value}{an od:Option Addr}
  {osl:Array (Option Value)}{N ps:List Str}{sp:Sp} (lk:K.lookup f=some ⟨oc,od,.func (PySem.W.fnOf name qual params body scope dV kV doc pm an cdv ct),osl⟩) (hcd:PySem.W.codeIn K cdv qual=true) (S:bT N ps scope)
  (len:∀vs H Q E,sp vs H Q E->vs.length=ps.length)
  (hbody:∀ (A:Around) (outer:List Env) (s:Shared) (H:Hp) (vs:List V) (Q:VK) (E:XK),cj k (A.deeper (envOfC qual scope s.heap.objs.size f cdv))->sp vs H Q E ->
   ∃t,PSs (cz CX P w K mg base N qual scope f cdv A outer s H E) body t/\t { nx:=fun _ H'=>Q .non H',rt:=Q } (eF N vs) H) :
  bH P w K mg base CX (k+1) f (PySem.W.fnOf name qual params body scope dV kV doc pm an cdv ct) ps sp:=by
 refine⟨len,fun A outer s H args us vs Q E hr e0 hb r hsp=>?_⟩
 have hl:=len _ _ _ _ hsp
 have KX:K.In s.heap:=e0.mod.kin.keeps fun b o e=>(e0.bs b o e).1
 have lim:s.heap.NoLimit:=e0.mod.nolimit.keeps fun b o e=>(e0.bs b o e).1
 have hkind:∀y∈ps.zip us,scope.names.lookup y.1=some .local \/(scope.names.lookup y.1=some .cell/\((cellsFrom (s.heap.objs.size+1) scope.names []).lookup y.1).isSome=true):=fun⟨n,v⟩ hy=>by
  rcases S.par n (List.of_mem_zip hy).1 with q | q
  ·exact .inl q
  ·exact .inr ⟨q,PySem.W.cellsFrom_some _ _ _ (.inl q)⟩
 refine codeAny_call_function hr.depth (KX _ _ lk) rfl S.co S.gen rfl (PySem.W.codeRec_of KX hcd) (hb _ _ _ _ ?_)
 refine wpAny_newFunctionEnv_cells S.kind hkind fun env he s1 x=>?_
 subst he
 refine⟨lim.keeps x.toInCall.keep,codeAny_func ?_⟩
 obtain⟨t,ht,hq⟩:=hbody A outer s H vs Q E (hr.deeper _) hsp
 have I:Inv (cz CX P w K mg base N qual scope f cdv A outer s H E) [] (eF N vs) H s1:=p_ S hr.hd e0 hl r x
 refine wpAny_mono (ht [] s1 (eF N vs) H _ I hq) (fun fl s' hs=>?_) fun e s' hs=>hs
 have fin:∀{σ':St}{H':Hp}{v:V}{u:Value},Inv (cz CX P w K mg base N qual scope f cdv A outer s H E) [] σ' H' s'->aW v u->Q v H'->CE outer P w H s Q u s' :=
  fun {σ' H' v u} J rv q=>⟨v,H',J.os,J.bare,J.base,J.hok,rv,q⟩
 cases fl with
 | ret u =>
  obtain⟨v,σ',H',J,rv,q⟩:=hs
  exact fin J rv q
 | next =>
  obtain⟨σ',H',J,q⟩:=hs
  exact fin (v:=V.non) (u:=Value.none) J rfl q
 | brk =>
  obtain⟨_,_,_,q⟩:=hs
  exact False.elim q
 | cont =>
  obtain⟨_,_,_,q⟩:=hs
  exact False.elim q
end L2
namespace L2
open PySem PySem.Spec PyProof.Rows
section
variable{X:Cx}{x:Str}{p pos:Pos}{e:Expr}{es:List Expr}{t:TA}{id T:String}{r:List V->Hp->VK->Prop}
def tCB(r:List V->Hp->VK->Prop)(t:TA):TE:=fun σ H Q=>t σ H fun vs H1=>r vs H1 Q
theorem i4(hc:cb X (.builtin id) r)(hg:Gl X x)(hm:X.mg x=none)(hv:bootBuiltins x=some (.builtin id))(ha:PA X (e::es) t)(hn:x≠"__name__" := by decide)(hdb:(x ==("__debug__" : Str))=false:=by decide)
  (he:starEach (e::es) X.env=(false,eval e X.env)::starEach es X.env:=by rfl) (hpl:(backTo pos (starEach es X.env)).any (·.1)=false:=by rfl):PE X (.Call (.Name x p) (e::es) [] pos) (tCB r t):=by
 intro pins s σ H Q I h
 refine wpAny_Call_Name_kw (jl I hg hm hv ?_ hn hdb)
 exact PyProof.Rows.callWith_builtin1 (thn (ha pos pins s σ H _ I h) fun us s1 ⟨vs,H1,I1,r1,q1⟩=>hc pins s1 σ H1 vs us Q I1 r1 q1) he hpl
theorem j0(hc:cb X (.type T) r)(hg:Gl X x)(hm:X.mg x=none)(hv:bootBuiltins x=some (.type T))(ha:PA X (e::es) t)(hn:x≠"__name__" := by decide)(hdb:(x ==("__debug__" : Str))=false:=by decide)
  (he:starEach (e::es) X.env=(false,eval e X.env)::starEach es X.env:=by rfl) (hpl:(backTo pos (starEach es X.env)).any (·.1)=false:=by rfl):PE X (.Call (.Name x p) (e::es) [] pos) (tCB r t):=by
 intro pins s σ H Q I h
 refine wpAny_Call_Name_kw (jl I hg hm hv ?_ hn hdb)
 exact PyProof.Rows.callWith_type1 (thn (ha pos pins s σ H _ I h) fun us s1 ⟨vs,H1,I1,r1,q1⟩=>hc pins s1 σ H1 vs us Q I1 r1 q1) he hpl
end
end L2
namespace HT
open PySem PyProof.Rows
section
variable{prog:Program}{w:World}{A:Around}{E:Value->Shared->Prop}{s:Shared}
def sIx(n d:Nat):Option Int->Nat
 | none=>d
 | some v=>if v < 0 then(v+(n:Int)).toNat else min v.toNat n
theorem sIx_none(n d:Nat):sIx n d none=d:=rfl
theorem sIx_nat(n d k:Nat):sIx n d (some (k:Int))=min k n:=by
 show(if(k:Int) < 0 then((k:Int)+(n:Int)).toNat else min (k:Int).toNat n)=min k n
 rw[if_neg (by omega),Int.toNat_natCast]
end
end HT
namespace L2
open PySem PySem.Spec PyProof.Rows
abbrev TO:=St->Hp->(Option Int->Hp->Prop)->Prop
def PO(X:Cx)(e:Option Expr)(t:TO):Prop :=
 ∀(pins:List (Addr×Obj)) (s:Shared) (σ:St) (H:Hp) (Q:Option Int->Hp->Prop),Inv X pins σ H s->t σ H Q ->
  wpAny (model X.prog X.w) X.A (evalPart e X.env) (fun u s'=>∃o H',Inv X pins σ H' s'/\IsPart u o/\Q o H') X.xe s
def uf:TO:=fun _ H Q=>Q none H
def Aq(t:TE):TO:=fun σ H Q=>t σ H fun x H1=>∃i,x=.int i/\Q (some i) H1
section
variable{X:Cx}{e:Expr}{te:TE}{lo hi:Option Expr}{tl th:TO}{pos p2:Pos}
theorem uT:PO X none uf:=by
 intro pins s σ H Q I h
 rw[evalPart_none]
 exact wpAny_pure ⟨none,H,I,.none,h⟩
theorem uS(h:PE X e te):PO X (some e) (Aq te):=by
 intro pins s σ H Q I hw
 rw[evalPart_some]
 refine thn (h pins s σ H _ I hw) fun u s1 ⟨x,H1,I1,r1,q1⟩=>?_
 obtain⟨i,rfl,q⟩:=q1
 obtain⟨t,rfl⟩:=r1
 exact⟨some i,H1,I1,.int i t,q⟩
def SlR(X:Cx)(r:V->Option Int->Option Int->Hp->VK->Prop):Prop :=
 ∀(pins:List (Addr×Obj)) (s:Shared) (σ:St) (H:Hp) (x:V) (v vl vu:Value) (lo hi:Option Int) (sl:Addr) (Q:VK),Inv X pins σ H s->aW x v->s.heap.IsSliceOf sl vl vu .none->IsPart vl lo->IsPart vu hi->r x lo hi H Q ->
  ∃T id,typeLookup (.type T) "__getitem__" = pure (some (.builtin id))/\s.TypeIs v T/\wpAny (model X.prog X.w) X.A (getItem v (.ref sl)) (EP X pins σ Q) X.xe s
def tSl(r:V->Option Int->Option Int->Hp->VK->Prop)(te:TE)(tl th:TO):TE:=fun σ H Q=>te σ H fun x H1=>tl σ H1 fun l H2=>th σ H2 fun u H3=>r x l u H3 Q
theorem lF{r:V->Option Int->Option Int->Hp->VK->Prop}(hr:SlR X r)(he:PE X e te)(hl:PO X lo tl)(hu:PO X hi th):PE X (.Subscript e (.Slice lo hi none p2) pos) (tSl r te tl th):=by
 intro pins s σ H Q I h
 refine Subscript_ (thn (he pins s σ H _ I h) fun v s1 ⟨x,H1,I1,r1,q1⟩=>?_)
 refine wpAny_Slice (thn (hl pins s1 σ H1 _ I1 q1) fun vl s2 ⟨l,H2,I2,pl,q2⟩=>thn (hu pins s2 σ H2 _ I2 q2) fun vu s3 ⟨u,H3,I3,pu,q3⟩=>?_)
 rw[evalPart_none]
 refine wpAny_pure ?_
 have I4:Inv X pins σ H3 { s3 with heap:=s3.heap.push { cls:=.type "slice", data:=.fields #[vl,vu,.none] } }:=I3.kept (t':=s3.toks) fun b ob q=>Heap.get?_push_of_some _ q
 obtain⟨T,id,hT,ht,hg⟩:=hr pins { s3 with heap:=s3.heap.push { cls:=.type "slice", data:=.fields #[vl,vu,.none] } } σ H3 x v vl vu l u s3.heap.objs.size Q I4 r1 (Heap.IsSliceOf.new ..) pl pu q3
 show wpAny (model X.prog X.w) X.A (subscriptTail e (.Slice lo hi none p2) v (.ref s3.heap.objs.size)) (EP X pins σ Q) X.xe { s3 with heap:=s3.heap.push { cls:=.type "slice", data:=.fields #[vl,vu,.none] } }
 exact tail_any (ops:=[.ref s3.heap.objs.size,v]) ht hT hg (by with_unfolding_all rfl)
def tD(xs:List V)(lo hi:Option Int):List V:=(xs.drop (HT.sIx xs.length 0 lo)).take (HT.sIx xs.length xs.length hi - HT.sIx xs.length 0 lo)
theorem my(xs:List V)(lo hi:Option Int):(tD xs lo hi).length<=xs.length:=by
 unfold tD
 rw[List.length_take,List.length_drop]
 omega
end
end L2
namespace L2
open PySem PySem.Spec PyProof.Rows
def ixN(n:Nat)(i:Int):Option Nat:=if 0<=i then(if i < n then some i.toNat else none)else if -(n:Int)<= i then some (i+n).toNat else none
def atI{α:Type}(xs:List α)(i:Int):Option α:=(ixN xs.length i).bind fun j=>xs[j]?
theorem oP{n:Nat}{i:Int}{j:Nat}(h:ixN n i=some j):seqIndex? i n=some j/\j < n/\-(n:Int)<= i/\i < n:=by
 unfold ixN at h
 by_cases h0:0<=i
 ·rw[if_pos h0]at h
  by_cases h1:i < n
  ·rw[if_pos h1]at h
   have e:i.toNat=j:=Option.some.inj h
   exact⟨by rw[seqIndex_of h0 h1,e],by omega,by omega,h1⟩
  ·rw[if_neg h1]at h;cases h
 ·rw[if_neg h0]at h
  by_cases h1:-(n:Int)<= i
  ·rw[if_pos h1]at h
   have e:(i+n).toNat=j:=Option.some.inj h
   exact⟨by rw[seqIndex_neg (by omega) h1,e],by omega,h1,by omega⟩
  ·rw[if_neg h1]at h;cases h
theorem k_{α:Type}{xs:List α}{i:Int}{v:α}(h:atI xs i=some v):∃j,seqIndex? i xs.length=some j/\xs[j]?=some v/\j < xs.length/\-(xs.length:Int)<= i/\i < xs.length:=by
 unfold atI at h
 cases e:ixN xs.length i with
 | none=>rw[e]at h;cases h
 | some j =>
  rw[e]at h
  obtain⟨h1,h2,h3,h4⟩:=oP e
  exact⟨j,h1,h,h2,h3,h4⟩
def gI(b:Expr):Prop:=∀o i,subscripted b false o i=operate [o,i] (getItem o i)
def IxR(X:Cx)(r:R2):Prop :=
 ∀(value slice:Expr) (pins:List (Addr×Obj)) (s:Shared) (σ:St) (H:Hp) (x y:V) (v u:Value) (Q:VK),Inv X pins σ H s->aW x v->aW y u->r x y H Q ->
  subscripted slice false v u=operate [v,u] (getItem v u)->wpAny (model X.prog X.w) X.A (subscriptTail value slice v u) (EP X pins σ Q) X.xe s
def MtR(X:Cx)(id:String)(r:V->List V->Hp->VK->Prop):Prop :=
 ∀(pins:List (Addr×Obj)) (s:Shared) (σ:St) (H:Hp) (x:V) (xs:List V) (v:Value) (us:List Value) (Q:VK),Inv X pins σ H s->aW x v->aI xs us->r x xs H Q ->
  wpAny (model X.prog X.w) X.A (call (.builtin id) (v::us)) (EP X pins σ Q) X.xe s
section
variable{X:Cx}{a b:Expr}{ta tb:TE}{pos:Pos}
theorem IxR.or{r r':R2}(h:IxR X r)(h':IxR X r'):IxR X (fun x y H Q=>r x y H Q\/r' x y H Q):=by
 intro value slice pins s σ H x y v u Q I rx ry q hs
 rcases q with q | q
 ·exact h value slice pins s σ H x y v u Q I rx ry q hs
 ·exact h' value slice pins s σ H x y v u Q I rx ry q hs
theorem wq{r:R2}(hr:IxR X r)(ha:PE X a ta)(hb:PE X b tb)(hs:gI b):PE X (.Subscript a b pos) (tOp r ta tb):=by
 intro pins s σ H Q I h
 exact Subscript_ (zG ha hb I h fun v u s2 x y H2 I2 rx ry q=>hr a b pins s2 σ H2 x y v u Q I2 rx ry q (hs _ _))
def xL(K:PySem.W.Frag):R2:=fun x y H Q=>∃p xs i v,x=.ref p/\y=.int i/\SqL K H p xs/\atI xs i=some v/\Q v H
def xJ(K:PySem.W.Frag):R2:=fun x y H Q=>∃p xs i v,x=.ref p/\y=.int i/\SqT K H p xs/\atI xs i=some v/\Q v H
def xK:R2:=fun x y H Q=>∃z i c,x=.str z/\y=.int i/\z.length<=sizeLine/\atI z.cps.toList i=some c/\Q (.str ⟨#[c]⟩) H
theorem vB:IxR X (xL X.K):=by
 intro value slice pins s σ H x y v u Q I rx ry h hs
 obtain⟨p,xs,i,z,rfl,rfl,hq,he,q⟩:=h
 cases rx
 obtain⟨t,rfl⟩:=ry
 obtain⟨its,r,pl,hz⟩:=I.list hq
 obtain⟨j,h1,h2,h3,h4,h5⟩:=k_ he
 obtain⟨w,ew,rw'⟩:=r.get h2
 have hl:=r.length
 have hn:=fT
 have fin:EP X pins σ Q w s:=⟨z,H,I,rw',q⟩
 by_cases h0:0<=i
 ·have hj:i.toNat=j:=by
   rw[seqIndex_of h0 h5]at h1
   exact Option.some.inj h1
  exact item_listR pl.isList h0 (by omega) (by rw[hj];simpa using ew) fin hs
 ·have hj:(i+(its.toArray.size:Int)).toNat=j:=by
   rw[seqIndex_neg (by omega) h4]at h1
   rw[List.size_toArray,<- hl]
   exact Option.some.inj h1
  exact subscriptTail_builtinR (x:=w) pl.isList.typeIs slot_list_getitem.lookup
   (wpAny_getItem_list_neg (Q:=fun r s'=>r=w/\EP X pins σ Q r s') pl.isList (by omega) (by rw[List.size_toArray]<;>omega) (by omega) (by rw[hj];simpa using ew) ⟨rfl,fin⟩) hs
theorem y6:IxR X (xJ X.K):=by
 intro value slice pins s σ H x y v u Q I rx ry h hs
 obtain⟨p,xs,i,z,rfl,rfl,hq,he,q⟩:=h
 cases rx
 obtain⟨t,rfl⟩:=ry
 obtain⟨its,r,pl,hz⟩:=I.tuple hq
 obtain⟨j,h1,h2,h3,h4,h5⟩:=k_ he
 obtain⟨w,ew,rw'⟩:=r.get h2
 have hl:=r.length
 have hn:=fT
 have fin:EP X pins σ Q w s:=⟨z,H,I,rw',q⟩
 exact subscriptTail_builtinR (x:=w) pl.typeIs slot_tuple_getitem.lookup
  (getItem_tuple (j:=j) (Q:=fun r s'=>r=w/\EP X pins σ Q r s') pl (by omega) (by omega) (by rw[List.size_toArray,<- hl];exact h1) (by simpa using ew) ⟨rfl,fin⟩) hs
theorem y7:IxR X xK:=by
 intro value slice pins s σ H x y v u Q I rx ry h hs
 obtain⟨z,i,c,rfl,rfl,hz,he,q⟩:=h
 obtain⟨t,rfl⟩:=rx
 obtain⟨t',rfl⟩:=ry
 obtain⟨j,h1,h2,h3,h4,h5⟩:=k_ he
 have hl:z.cps.toList.length=z.length:=by simp[Str.length]
 rw[hl]at h1 h4 h5
 have hn:=fT
 exact tail_any (typeIs_str s z t) slot_str_getitem.lookup (getItem_str (c:=c) (by
  have e1:decide (i < -(2 ^ 63:Int))=false:=decide_eq_false (by omega)
  have e2:decide (i >= 2 ^ 63)=false:=decide_eq_false (by omega)
  rw[e1,e2,Bool.or_false]) (by rw[h1];simpa using h2) ⟨.str ⟨#[c]⟩,H,I.tok _,⟨_,rfl⟩,q⟩) hs
def rIx(K:PySem.W.Frag):R2:=fun x y H Q=>xL K x y H Q\/xJ K x y H Q\/xK x y H Q
theorem y8:IxR X (rIx X.K):=vB.or (y6.or y7)
theorem nw(its:List Value)(n j:Nat)(u:Value):Obj.mapSeq (·.setIfInBounds j u) { cls:=.type "list", data:=.seq its.toArray n }={ cls:=.type "list", data:=.seq (its.set j u).toArray n }:=by
 simp[Obj.mapSeq]
theorem Inv.lst{pins:List (Addr×Obj)}{σ:St}{H:Hp}{s:Shared}{p:Addr}{xs:List V}(I:Inv X pins σ H s)(h:H p=some (.lst xs)) :
  ∃(its:List Value) (n:Nat),aI xs its/\s.heap.get? p=some { cls:=.type "list", data:=.seq its.toArray n }/\xs.length<=sizeLine:=by
 obtain⟨z,its,n,r,e⟩:=I.hok p _ h
 exact⟨its,n,r,e,z⟩
theorem Inv.lstUpd{pins:List (Addr×Obj)}{σ:St}{H:Hp}{s:Shared}{p:Addr}{xs ys:List V}{its its':List Value}{n n':Nat}{f:Obj->Obj}(I:Inv X pins σ H s)(h:H p=some (.lst xs))
  (ho:s.heap.get? p=some { cls:=.type "list", data:=.seq its.toArray n }) (hf:f { cls:=.type "list", data:=.seq its.toArray n }={ cls:=.type "list", data:=.seq its'.toArray n' }) (r:aI ys its') (hz:ys.length<=sizeLine) (t:Nat) :
  Inv X pins σ (upd H p (.lst ys)) { s with heap:=s.heap.update p f,toks:=t }:=by
 have e:(s.heap.update p f).get? p=some { cls:=.type "list", data:=.seq its'.toArray n' }:=by
  rw[Heap.get?_update_self f ho (by rw[hf]<;>rfl),hf]
 refine I.write (x:=p) (e:=p) (by rw[h];trivial) (.inl rfl) (fun b u hb q=>(Heap.get?_update_other _ _ (Ne.symm hb)).trans q) ⟨_,e⟩ ?_
 exact⟨hz,its',n',r,e⟩
def AD:V->V->V->Hp->(Hp->Prop)->Prop:=fun o i v H Q=>∃p xs k j,o=.ref p/\i=.int k/\H p=some (.lst xs)/\ixN xs.length k=some j/\Q (upd H p (.lst (xs.set j v)))
theorem qR:CD X AD:=by
 intro pins s σ H o i v ov iv u Q I ro ri rv h
 obtain⟨p,xs,k,j,rfl,rfl,hp,hj,q⟩:=h
 cases ro
 obtain⟨t,rfl⟩:=ri
 obtain⟨its,n,r,ho,hz⟩:=I.lst hp
 obtain⟨h1,h2,h3,h4⟩:=oP hj
 have hl:=r.length
 have hn:=fT
 have I':Inv X pins σ (upd H p (.lst (xs.set j v))) { s with heap:=s.heap.update p (Obj.mapSeq (·.setIfInBounds j u)) } :=
  I.lstUpd hp ho (nw its n j u) (r.set rv j) (by rw[List.length_set];exact hz) s.toks
 by_cases h0:0<=k
 ·have hk:k.toNat=j:=by
   rw[seqIndex_of h0 h4]at h1
   exact Option.some.inj h1
  exact PySem.W.ki_setAt ho h0 (by omega) (by rw[List.size_toArray,<- hl];exact h4) (by rw[hk];exact⟨_,I',q⟩)
 ·have hk:(k+(its.toArray.size:Int)).toNat=j:=by
   rw[seqIndex_neg (by omega) h3]at h1
   rw[List.size_toArray,<- hl]
   exact Option.some.inj h1
  exact PySem.W.ki_setBack ho (by omega) (by rw[List.size_toArray,<- hl];exact h3) (by omega) (by rw[hk];exact⟨_,I',q⟩)
theorem kr(lo hi:Option Int)(n:Nat):(sliceBounds lo hi none n).1=((HT.sIx n 0 lo:Nat):Int)/\(sliceBounds lo hi none n).2.1=((HT.sIx n n hi:Nat):Int)/\(sliceBounds lo hi none n).2.2=1:=by
 refine⟨?_,?_,rfl⟩
 ·cases lo with
  | none=>simp[sliceBounds,HT.sIx]
  | some i =>
   simp only[sliceBounds,HT.sIx,Option.getD_none,show(1:Int) > 0 by decide,if_true]
   by_cases h:i < 0
   ·simp only[h,if_true]<;>omega
   ·simp only[h,if_false]<;>omega
 ·cases hi with
  | none=>simp[sliceBounds,HT.sIx]
  | some i =>
   simp only[sliceBounds,HT.sIx,Option.getD_none,show(1:Int) > 0 by decide,if_true]
   by_cases h:i < 0
   ·simp only[h,if_true]<;>omega
   ·simp only[h,if_false]<;>omega
theorem jD(its:List Value)(lo hi:Option Int):slicePick its.toArray lo hi none=((its.drop (HT.sIx its.length 0 lo)).take (HT.sIx its.length its.length hi - HT.sIx its.length 0 lo)).toArray:=by
 obtain⟨h1,h2,h3⟩:=kr lo hi its.toArray.size
 unfold slicePick
 rw[h1,h2,h3]
 simp only[sliceRange_one,pick_run,List.size_toArray]<;>rfl
def Dw(K:PySem.W.Frag):V->Option Int->Option Int->Hp->VK->Prop:=fun x lo hi H Q=>∃a xs,x=.ref a/\SqL K H a xs/\∀p,H p=none->Q (.ref p) (upd H p (.lst (tD xs lo hi)))
theorem um:SlR X (Dw X.K):=by
 intro pins s σ H x v vl vu lo hi sl Q I rx hs pl pu h
 obtain⟨a,xs,rfl,hx,q⟩:=h
 cases rx
 obtain⟨its,r,ht,hz⟩:=I.list hx
 have hlen:=r.length
 refine⟨"list", _,slot_list_getitem.lookup,ht.isList.typeIs,?_⟩
 refine wpAny_getItem_list_slice ht.isList hs pl pu .none (by simp) ?_ (by rw[List.size_toArray]<;>omega)
 rw[jD,<- hlen]
 refine⟨.ref s.heap.objs.size,_,I.laid (t':=s.toks) (o:=.lst (tD xs lo hi)) (fun b ob q=>Heap.get?_push_of_some _ q) (Nat.le_refl _) ?_,rfl,q _ (I.hok.fresh (Nat.le_refl _))⟩
 exact⟨Nat.le_trans (my xs lo hi) hz,_,0,(r.drop (HT.sIx xs.length 0 lo)).take (HT.sIx xs.length xs.length hi - HT.sIx xs.length 0 lo),Heap.get?_push_size _ rfl⟩
theorem k7:cb X (.builtin "len") (fun xs H Q=>∃p ys,xs=[.ref p]/\(SqL X.K H p ys\/SqT X.K H p ys)/\Q (.int ys.length) H):=by
 intro pins s σ H xs us Q I r h
 obtain⟨p,ys,rfl,hq,q⟩:=h
 obtain⟨u,rfl,rx⟩:=cT r
 cases rx
 have hn:=fT
 rcases hq with hq | hq
 ·obtain⟨its,r',pl,hz⟩:=I.list hq
  have hlen:=r'.length
  exact Calls.call_len_list pl.isList (by simp only[List.size_toArray]<;>omega) ⟨.int ys.length,H,I.tok _,⟨s.toks+1,by rw[List.size_toArray,hlen]⟩,q⟩
 ·obtain⟨its,r',pl,hz⟩:=I.tuple hq
  have hlen:=r'.length
  exact len_tuple pl (by simp only[List.size_toArray]<;>omega) ⟨.int ys.length,H,I.tok _,⟨s.toks+1,by rw[List.size_toArray,hlen]⟩,q⟩
theorem k6:cb X (.builtin "len") (fun xs H Q=>∃z,xs=[.str z]/\z.length<=sizeLine/\Q (.int z.length) H):=by
 intro pins s σ H xs us Q I r h
 obtain⟨z,rfl,hz,q⟩:=h
 obtain⟨u,rfl,t,rfl⟩:=cT r
 have hn:=fT
 exact len_str (by omega) ⟨.int z.length,H,I.tok _,⟨_,rfl⟩,q⟩
theorem kZ:cb X (.type "list") (fun xs H Q=>∃p ys,xs=[.ref p]/\(SqL X.K H p ys\/SqT X.K H p ys)/\∀l,H l=none->Q (.ref l) (upd H l (.lst ys))):=by
 intro pins s σ H xs us Q I r h
 obtain⟨p,ys,rfl,hq,q⟩:=h
 obtain⟨u,rfl,rx⟩:=cT r
 cases rx
 have fin:∀(its:List Value),aI ys its->ys.length<=sizeLine->∀(h':Heap) (c':Nat),(∀b o',s.heap.get? b=some o'->h'.get? b=some o')->
   h'.get? s.heap.objs.size=some { cls:=.type "list", dict:=none,data:=.seq its.toArray c',slots:=#[] }->EP X pins σ Q (.ref s.heap.objs.size) { s with heap:=h' }:=fun its r' hz h' c' kp e =>
  ⟨.ref s.heap.objs.size,_,I.laid (t':=s.toks) kp (Nat.le_refl _) (show bW X.prog X.w _ h' _ (.lst ys)from⟨hz,its,c',r',e⟩),rfl,q _ (I.hok.fresh (Nat.le_refl _))⟩
 rcases hq with hq | hq
 ·obtain⟨its,r',pl,hz⟩:=I.list hq
  have hlen:=r'.length
  obtain⟨o,ho,hc,n,hd⟩:=pl.isList
  exact call_list_seq p (.inl rfl) ho hc hd (fun h' c' kp e=>fin its r' hz h' c' kp e) (by simp only[List.size_toArray]<;>omega)
 ·obtain⟨its,r',pl,hz⟩:=I.tuple hq
  have hlen:=r'.length
  obtain⟨o,ho,hc,n,hd⟩:=pl
  exact call_list_seq p (.inr rfl) ho hc hd (fun h' c' kp e=>fin its r' hz h' c' kp e) (by simp only[List.size_toArray]<;>omega)
theorem jI:cb X (.type "tuple") (fun xs H Q=>∃p ys,xs=[.ref p]/\((SqL X.K H p ys/\∀l,H l=none->Q (.ref l) (upd H l (.tup ys)))\/(SqT X.K H p ys/\Q (.ref p) H))):=by
 intro pins s σ H xs us Q I r h
 obtain⟨p,ys,rfl,h⟩:=h
 obtain⟨u,rfl,rx⟩:=cT r
 cases rx
 rcases h with⟨hq,q⟩ |⟨hq,q⟩
 ·obtain⟨its,r',pl,hz⟩:=I.list hq
  have hlen:=r'.length
  refine call_tuple_list pl.isList (fun h' kp=>?_) (by simp only[List.size_toArray]<;>omega)
  have I1:Inv X pins σ H { s with heap:=h' }:=I.kept (t':=s.toks) kp
  have I2:Inv X pins σ (upd H h'.objs.size (.tup ys)) { s with heap:=h'.push { cls:=.type "tuple", data:=.seq its.toArray } } :=
   I1.laid (t':=s.toks) (fun b o e=>Heap.get?_push_of_some _ e) (Nat.le_refl _) (show bW X.prog X.w _ _ _ (.tup ys)from⟨hz,its,r',IsTup.new _ _⟩)
  exact⟨.ref h'.objs.size,_,I2,rfl,q _ (I1.hok.fresh (Nat.le_refl _))⟩
 ·obtain⟨its,r',pl,hz⟩:=I.tuple hq
  exact call_tuple_same pl ⟨.ref p,H,I,rfl,q⟩
def tyV(K:PySem.W.Frag)(T:String)(x:V)(H:Hp):Prop:=match x with
 | .str _=>T = "str"
 | .int _=>T = "int"
 | .ref p=>(T = "list" /\ ∃xs,SqL K H p xs)\/(T = "tuple" /\ ∃o,K.lookup p=some o/\o.cls=.type "tuple" /\ o.dict=none)\/
   (T = "dict" /\((∃kvs,H p=some (.dK kvs))\/ ∃kvs,H p=some (.dT kvs)))\/(T = "set" /\ ∃S n,H p=some (.set S n))
 | _=>False
theorem qx{pins:List (Addr×Obj)}{σ:St}{H:Hp}{s:Shared}{T:String}{x:V}{v:Value}(I:Inv X pins σ H s)(r:aW x v)(ty:tyV X.K T x H) :
  s.TypeIs v T/\∀a,v=.ref a->∃ob,s.heap.get? a=some ob/\ob.dict=none:=by
 cases x with
 | str z =>
  obtain⟨t,rfl⟩:=r
  cases(show T = "str" from ty)
  exact⟨typeIs_str s z t,fun _ e=>nomatch e⟩
 | int i =>
  obtain⟨t,rfl⟩:=r
  cases(show T = "int" from ty)
  exact⟨typeIs_int s i t,fun _ e=>nomatch e⟩
 | ref p =>
  cases r
  rcases ty with⟨rfl,xs,hq⟩ |⟨rfl,o,hk,hc,hd⟩ |⟨rfl,hk⟩ |⟨rfl,S,n,hk⟩
  ·obtain⟨its,_,pl,_⟩:=I.list hq
   refine⟨pl.isList.typeIs,fun a e=>?_⟩
   cases e
   obtain⟨o,n,e,c,hd,_⟩:=pl
   exact⟨o,e,hd⟩
  ·refine⟨⟨o,I.kIn p o hk,hc⟩,fun a e=>?_⟩
   cases e
   exact⟨o,I.kIn _ o hk,hd⟩
  ·have z:∃o,s.heap.get? p=some o/\o.ExactDict:=by
    rcases hk with⟨kvs,hk⟩ |⟨kvs,hk⟩
    ·obtain⟨_,_,_,_,o,_,_,e,ex,_⟩:=I.hok p _ hk
     exact⟨o,e,ex⟩
    ·obtain⟨_,_,_,_,o,_,_,e,ex,_⟩:=I.hok p _ hk
     exact⟨o,e,ex⟩
   obtain⟨o,e,ex⟩:=z
   refine⟨⟨o,e,ex.1⟩,fun a e2=>?_⟩
   cases e2
   exact⟨o,e,ex.2.1⟩
  ·obtain⟨o,_,_,_,e,ex,_⟩:=I.hok p _ hk
   refine⟨⟨o,e,ex.1⟩,fun a e2=>?_⟩
   cases e2
   exact⟨o,e,ex.2.1⟩
 | _=>exact False.elim ty
def Dq(K:PySem.W.Frag)(T:String)(r:V->List V->Hp->VK->Prop)(to:TE):TE:=fun σ H Q=>to σ H fun x H1=>tyV K T x H1/\r x [] H1 Q
def tBM(K:PySem.W.Frag)(T:String)(r:V->List V->Hp->VK->Prop)(to:TE)(t:TA):TE:=fun σ H Q=>to σ H fun x H1=>tyV K T x H1/\t σ H1 fun xs H2=>r x xs H2 Q
variable{o e:Expr}{es:List Expr}{to:TE}{t:TA}{name:Str}{apos cpos:Pos}{T id:String}{r:V->List V->Hp->VK->Prop}
theorem yc(pa:PlainAttrs T)(slot:Slot T name id)(hty:typeOf (.builtin id)=pure (.type "method_descriptor"))(hm:MtR X id r)(ho:PE X o to)
  (hbase:attributeBase o name X.env (eval o X.env)=eval o X.env:=by rfl) (hline:(apos.endLine==cpos.line)=true:=by rfl):PE X (.Call (.Attribute o name apos) [] [] cpos) (Dq X.K T r to):=by
 intro pins s σ H Q I h
 refine wpAny_Call_method0_late hbase hline (thn (ho pins s σ H _ I h) fun v s1 ⟨x,H1,I1,r1,ty,q1⟩=>?_)
 obtain⟨h1,h2⟩:=qx I1 r1 ty
 exact⟨T,id,pa,slot,hty,h1,h2,Calls.callWith_builtin rfl (PySem.evalArgs_none (hm pins s1 σ H1 x [] v [] Q I1 r1 .nil q1))⟩
theorem oJ(pa:PlainAttrs T)(slot:Slot T name id)(hty:typeOf (.builtin id)=pure (.type "method_descriptor"))(hm:MtR X id r)(ho:PE X o to)(ha:PA X (e::es) t)
  (hbase:attributeBase o name X.env (eval o X.env)=eval o X.env:=by rfl)
  (hfew:((backTo cpos (starEach (e::es) X.env)).all (fun x=>!x.1) && (backToKw cpos (keywordEach [] X.env)).all (fun x=>x.1.isSome)
   && decide ((e::es).length+([]:List Keyword).length+(if([]:List Keyword).isEmpty then 0 else 1) < 30))=true:=by rfl)
  (hline:(apos.endLine==cpos.line)=true:=by rfl) (hs:starEach (e::es) X.env=(false,eval e X.env)::starEach es X.env:=by rfl) (hplain:(backTo cpos (starEach es X.env)).any (·.1)=false:=by rfl) :
  PE X (.Call (.Attribute o name apos) (e::es) [] cpos) (tBM X.K T r to t):=by
 intro pins s σ H Q I h
 refine wpAny_Call_method_late hbase hfew hline rfl (thn (ho pins s σ H _ I h) fun v s1 ⟨x,H1,I1,r1,ty,q1⟩=>?_)
 obtain⟨h1,h2⟩:=qx I1 r1 ty
 refine⟨T,id,pa,slot,hty,h1,h2,?_⟩
 have hA:=ha cpos pins s1 σ H1 _ I1 q1
 rw[hs]at hA ⊢
 refine Calls.callWith_builtin (by show(false ||(backTo cpos (starEach es X.env)).any (·.1))=false;rw[hplain]<;>rfl) (Calls.evalArgs_plain ?_)
 exact thn hA fun us s2 ⟨vs,H2,I2,r2,q2⟩=>hm pins s2 σ H2 x vs v us Q I2 r1 r2 q2
end
end L2
namespace L2
open PySem PySem.Spec PyProof.Rows
def MtM(X:Cx)(id:String)(r:V->List V->Hp->VK->Prop):Prop :=
 ∀(pins:List (Addr×Obj)) (s:Shared) (σ:St) (H:Hp) (x:V) (xs:List V) (v:Value) (us:List Value) (Q:VK),Inv X pins σ H s->aW x v->aI xs us->r x xs H Q ->
  wpAny (model X.prog X.w) X.A (call (.builtin id) (v::us)) (EP X pins σ Q) X.xe s
theorem aI.one:∀{x:V}{us:List Value},aI [x] us->∃u,us=[u]/\aW x u
 | _,_,.cons r .nil=>⟨_,rfl,r⟩
theorem aI.zero:∀{us:List Value},aI [] us->us=[]
 | _,.nil=>rfl
theorem aI.eraseIdx:∀{xs:List V}{us:List Value} (i:Nat),aI xs us->aI (xs.eraseIdx i) (us.eraseIdx i)
 | _,_,_,.nil=>.nil
 | _,_,0,.cons _ t=>t
 | _,_,i+1,.cons r t=>.cons r (aI.eraseIdx i t)
section
variable{X:Cx}{pins:List (Addr×Obj)}{σ:St}{H:Hp}{s:Shared}{l b:Addr}{xs ys zs:List V}
theorem Inv.lset{its its':List Value}{n:Nat}{f:Array Value->Array Value}{t':Nat}(I:Inv X pins σ H s)(hH:H l=some (.lst xs))
  (e:s.heap.get? l=some { cls:=.type "list", data:=.seq its.toArray n }) (hf:f its.toArray=its'.toArray) (hv:aI ys its') (hz:ys.length<=sizeLine) :
  Inv X pins σ (upd H l (.lst ys)) { s with heap:=s.heap.update l (Obj.mapSeq f),toks:=t' }:=by
 have q:=PySem.IsL.update e f
 rw[hf]at q
 refine I.write (x:=l) (e:=l) (by rw[hH];exact trivial) (.inl rfl) (fun b' u hb hu=>(Heap.get?_update_other s.heap (Obj.mapSeq f) (Ne.symm hb)).trans hu) ⟨_,q⟩ ?_
 exact⟨hz,its',_,hv,q⟩
theorem Inv.lnew{its:List Value}{t':Nat}(I:Inv X pins σ H s)(hv:aI ys its)(hz:ys.length<=sizeLine) :
  Inv X pins σ (upd H s.heap.objs.size (.lst ys)) { s with heap:=s.heap.push { cls:=.type "list", data:=.seq its.toArray },toks:=t' } :=
 I.laid (fun _ _ q=>Heap.get?_push_of_some _ q) (Nat.le_refl _) ⟨hz,its,0,hv,Heap.get?_push_size _ rfl⟩
theorem Inv.fresh(I:Inv X pins σ H s):H s.heap.objs.size=none:=I.hok.fresh (Nat.le_refl _)
theorem Inv.lstM(I:Inv X pins σ H s)(hH:H l=some (.lst xs)):xs.length<=sizeLine/\∃(its:List Value) (n:Nat),aI xs its/\xs.length=its.length/\s.heap.get? l=some { cls:=.type "list", data:=.seq its.toArray n }:=by
 obtain⟨z,its,n,r,e⟩:=I.hok l _ hH
 exact⟨z,its,n,r,r.length,e⟩
end
section
variable{X:Cx}
def uN:V->List V->Hp->VK->Prop:=fun x vs H Q=>∃l xs y,x=.ref l/\vs=[y]/\H l=some (.lst xs)/\xs.length < sizeLine/\Q .non (upd H l (.lst (xs++[y])))
theorem gX:MtM X "list.append" uN:=by
 intro pins s σ H x vs v us Q I rx rv h
 obtain⟨l,xs,y,rfl,rfl,hH,hz,q⟩:=h
 cases rx
 obtain⟨u,rfl,ru⟩:=rv.one
 obtain⟨z,its,n,r,hl,e⟩:=I.lstM hH
 refine call_meets F.slot_list_append ⟨_,e,rfl⟩ F.entry_list_append (F.args_list_append_2 _ _) (PySem.list_append l its.toArray n u (by rw[List.size_toArray];omega)) ⟨e,?_⟩
 refine⟨.non,_,I.lset (its':=its++[u]) hH e (by simp) (r.append (.cons ru .nil)) ?_,rfl,q⟩
 rw[List.length_append,List.length_singleton]
 omega
def xN:V->List V->Hp->VK->Prop:=fun x vs H Q=>∃l xs,x=.ref l/\vs=[]/\H l=some (.lst xs)/\Q .non (upd H l (.lst []))
theorem sj:MtM X "list.clear" xN:=by
 intro pins s σ H x vs v us Q I rx rv h
 obtain⟨l,xs,rfl,rfl,hH,q⟩:=h
 cases rx
 have hus:=rv.zero
 subst hus
 obtain⟨z,its,n,r,hl,e⟩:=I.lstM hH
 refine call_meets F.slot_list_clear ⟨_,e,rfl⟩ F.entry_list_clear (F.args_list_clear_1 _) (AutoSeq1.list_clear_list_0 l its.toArray n (by rw[List.size_toArray];omega)) ⟨e,?_⟩
 exact⟨.non,_,I.lset (its':=[]) (ys:=[]) hH e rfl .nil (Nat.zero_le _),rfl,q⟩
end
end L2
namespace Att
open PySem PySem.W PySem.Calls PyProof.Rows
theorem iy{P:Params}{h:Heap}:∀(ns:List Int) (vs:List Value),WellAll P h vs (ns.map WData.int)->IntsAre vs ns:=by
 intro ns
 induction ns with
 | nil =>
  intro vs w
  rw[List.map_nil]at w
  cases w
  exact .nil
 | cons n ns ih =>
  intro vs w
  rw[List.map_cons]at w
  cases w with
  | cons a b =>
   cases a
   exact .cons _ _ (ih _ b)
theorem pH{l:OpenLaw}{n:Nat}(hn:l.most=some n){P:Params}{h:Heap}{args:List WData}{vals:List Value}
  (hpre:l.row.toRowW.claim.pre args=true) (hwl:WellAll P h vals args) :
  ∃a vs ns,vals=[Value.ref a]/\args=[WData.list (ns.map WData.int)]/\h.get? a=some { cls:=.type "list", data:=.seq vs.toArray }/\IntsAre vs ns/\ns.length<=n:=by
 have hsh:WShape.hasAll [] args [.list .int]=true:=(pre_splitW hpre).1
 have hc:l.pre.holds [] { args:=args }=true:=(pre_splitW hpre).2
 obtain⟨d,r,rfl,h1,h2⟩:=hasAllW_cons hsh
 obtain rfl:=hasAllW_nil h2
 obtain⟨xs,rfl,h3⟩:=hasW_list h1
 obtain⟨ns,rfl⟩:=items_int h3
 have hlen:ns.length<=n:=by
  unfold OpenLaw.pre at hc
  have h4:(WTm.not (.lt (.lit (.int (n:Int))) (.len (.arg 0)))).holds [] { args:=[.list (ns.map .int)] }=true:=by
   have h4:=(holds_andW hc).1
   rw[hn]at h4
   exact h4
  have h5:=condW_of h4 (w_not (w_lt w_lit (w_len_list (w_arg rfl))))
  rw[List.length_map]at h5
  refine Nat.le_of_not_lt fun q=>?_
  have q':(n:Int) <((ns.length:Nat):Int):=by omega
  first
   |(rw[decide_eq_true q']at h5;exact absurd h5 (by decide))
   |(simp at h5;omega)
 cases hwl with
 | cons w1 w2 =>
  cases w2
  cases w1 with
  | list ho hall=>exact⟨_,_,ns,rfl,rfl,ho,iy ns _ hall,hlen⟩
theorem pL(l:OpenLaw)(args:List WData):l.row.toRowW.claim.post args (.bool true) args=true :=
 postW_of (r:=l.row.toRowW) (X:=(true==true))
  (show WShape.has [] (.bool true) .bool=true by first | rfl | decide | simp[WShape.has,WShape.arms,WShape.armsAll])
  (show(WTm.eq .res (.lit (.bool true))).value [] { args:=args,res:=some (.bool true),after:=args }=some (.bool (true==true))from w_eq_bool (w_res rfl) w_lit) rfl
theorem attach_call{l:OpenLaw}{n:Nat}{q:Program}{loose:List Str}{XP:(Str->Option Value)->Heap->Prop}{YP:World->Heap->Prop}{d:DefRec}
  (hn:l.most=some n) (hdf:d.params.defaults=[])
  (call:∀ (w:World) (s₀ s₁:Shared) (mg mb:Str->Option Value) (fa:Addr) (o:Obj) (pm cd doc:Value) (a:Addr) (vs:List Value) (ns:List Int),
   Ground q loose [] XP w s₀ mg mb s₁.heap->YP w s₁.heap ->
   s₁.heap.get? fa=some o->o.data=.func (docDef d.name d.params d.body d.scope pm cd doc)->s₁.heap.CodeRec cd d.name->mg d.name=some (.ref fa)->
   s₁.heap.get? a=some { cls:=.type "list", data:=.seq vs.toArray }->IntsAre vs ns->ns.length<=n->s₁.gens=#[]->
   codeAny (model l.prog w) callerA (.call (.ref fa) ⟨[.ref a],[]⟩) (fun r s'=>r=.ok (.ret (.bool true))/\OldK s₁.heap s'.heap/\s'.os=s₁.os/\AllBare s'.gens) s₁) :
  WalkO q loose XP YP l.row.toRowW d [] (fun f vs=>PySem.call f vs):=by
 intro w s₀ s₁ mg mb G Y fa o pm cd doc dV kV ho hd hcd hD hmg hg args vals as hpre hlay hrd hwl hlo
 obtain rfl:dV=.none:=Dflts.none hD hdf
 obtain rfl:kV=.none:=Dflts.noKw hD
 obtain⟨a,vs,ns,rfl,rfl,hobj,hints,hlen⟩:=pH hn hpre hwl
 refine enter_call (codeAny_mono (call w s₀ s₁ mg mb fa o pm cd doc a vs ns G Y ho (fd_plain hd) hcd hmg hobj hints hlen hg) fun r s' hq=>?_)
 obtain⟨rfl,h2,h3,h4⟩:=hq
 exact⟨.inl ⟨.bool true,.bool true,[],rfl,fun _=>rfl,.bool true,pL l _,fun _=>⟨List.Pairwise.nil,fun _ hm=>(nomatch hm)⟩⟩,h2,h3,h4⟩
end Att
namespace L2
open PySem PySem.Spec PyProof.Rows
theorem jO:∀{vs:List Value}{ns:List Int},IntsAre vs ns->aI (ns.map V.int) vs
 | _,_,.nil=>.nil
 | _,_,.cons n t h=>.cons ⟨t,rfl⟩ (jO h)
def zP(H:Hp):Prop:=∀b,H b=none\/∃o xs,H b=some (.frz o (.lst xs))
theorem sM{P:Program}{w:World}{K:PySem.W.Frag}{mg mb:Str->Option Value}{CX:CXT}{k:Nat}{fa a:Addr}{fd:FuncData}{x:Str}{sp:Sp}{s₁:Shared}{vs:List Value}{ns:List Int}
  (KX:K.In s₁.heap) (hns:s₁.heap.Ns mainGlobals mg) (hb:s₁.heap.Ns builtinsNs mb) (hbb:∀x:Str,x≠"__name__" -> mb x=bootBuiltins x) (hlim:s₁.heap.NoLimit) (hg:s₁.gens=#[])
  (ha:s₁.heap.get? a=some { cls:=.type "list", data:=.seq vs.toArray }) (hi:IntsAre vs ns) (hl:ns.length<=sizeLine) (hr:cj k callerA)
  (F:∀base:Heap,K.In base->base.Ns mainGlobals mg->bH P w K mg base CX k fa fd [x] sp) (hbind:∀(s:Shared) (u:Value),BindsTo s fd ⟨[u],[]⟩ [(x,u)])
  (hsp:∀H:Hp,zP H->SqL K H a (ns.map V.int)->sp [.ref a] H (fun v _=>v=.bl true) fun _ _ _=>False)
  (hCX:∀H e s',CX [] H s₁ (fun _ _ _=>False) e s'->False) :
  codeAny (model P w) callerA (.call (.ref fa) ⟨[.ref a],[]⟩) (fun r s'=>r=.ok (.ret (.bool true))/\OldK s₁.heap s'.heap/\s'.os=s₁.os/\AllBare s'.gens) s₁:=by
 have rv:=jO hi
 have lenV:=hi.length
 have core:∀H:Hp,zP H->SqL K H a (ns.map V.int)->HOk P w H s₁.heap->(∀b,H b≠none->b=a)->(H a≠none->K.lookup a=none)->
   codeAny (model P w) callerA (.call (.ref fa) ⟨[.ref a],[]⟩) (fun r s'=>r=.ok (.ret (.bool true))/\OldK s₁.heap s'.heap/\s'.os=s₁.os/\AllBare s'.gens) s₁:=by
  intro H hO hS hok hA hK
  have base_of:∀{b:Addr}{o:Obj},s₁.heap.get? b=some o->H b=none->(kR s₁.heap H).get? b=some o:=fun e n=>sT e n
  have noA:∀{b:Addr}{o:Obj}{es:Array DictEntry}{ep:Nat},s₁.heap.get? b=some o->o.data=.dict es ep->H b=none:=fun {b o es ep} e d=>by
   cases q:H b with
   | none=>rfl
   | some u =>
    have e':b=a:=hA b (by rw[q];simp)
    subst e'
    rw[ha]at e;cases e
    have d':Data.seq vs.toArray _=Data.dict es ep:=d
    cases d'
  have nsK:∀{b:Addr}{m:Str->Option Value},s₁.heap.Ns b m->(kR s₁.heap H).Ns b m:=fun {b m} ⟨o,es,ep,e,d,r⟩=>⟨o,es,ep,base_of e (noA e d),d,r⟩
  have hKb:K.In (kR s₁.heap H):=fun b o e=>base_of (KX b o e) (by
   cases q:H b with
   | none=>rfl
   | some u =>
    have e':b=a:=hA b (by rw[q];simp)
    subst e'
    rw[hK (by rw[q];simp)]at e;cases e)
  have hM:Mod K mg (kR s₁.heap H):=⟨hKb,nsK hns,⟨mb,nsK hb,hbb⟩,let⟨mc,h1,h2⟩:=hlim;⟨mc,nsK h1,h2⟩⟩
  have e0:nZ P w K mg (kR s₁.heap H) callerA [] s₁ H:=⟨rfl,hM,fun b o e=>vh e,Nat.le_of_eq (qc _ _),trivial,fun b hb=>absurd (show b ∈([]:List Addr)from hb) (by simp),hok,.of_eq hg⟩
  refine codeAny_mono ((F _ hKb (nsK hns)).run callerA [] s₁ H ⟨[.ref a],[]⟩ [.ref a] [.ref a] _ _ hr e0 (hbind s₁ (.ref a)) (.cons rfl .nil) (hsp H hO hS)) fun r s' h=>?_
  cases r with
  | error e=>exact(hCX H e s' h).elim
  | ok fl =>
   cases fl with
   | next | brk | cont=>exact False.elim h
   | ret u =>
    obtain⟨v,H',os,bare,un,hok',r',q⟩:=h
    have q':v=.bl true:=q
    subst q'
    obtain rfl:u=Value.bool true:=r'
    refine⟨rfl,OldK.of_keep fun b o e=>?_,os,bare⟩
    cases q:H b with
    | none=>exact un.keep b o e q (by intro z;exact absurd (show b ∈([]:List Addr)from z) (by simp)) (by simp)
    | some u =>
     rcases hO b with z |⟨ob,xs,z⟩
     ·rw[q]at z;cases z
     ·have z2:=un.frzs b ob _ z
      obtain⟨e1,_⟩:=hok b _ z
      obtain⟨e2,_⟩:=hok' b _ z2
      rw[e]at e1;cases e1
      exact e2
 cases hk:K.lookup a with
 | some o =>
  have e:=KX a o hk
  rw[ha]at e
  cases e
  refine core (fun _=>none) (fun _=>.inl rfl) (.inr ⟨_,vs.toArray,_,hk,rfl,rfl,rfl,by rw[List.size_toArray,lenV];exact hl,by simpa using rv⟩) (fun b u z=>by have z':(none:Option HO)=some u:=z;cases z') (fun b z=>absurd rfl z) fun z=>absurd rfl z
 | none =>
  refine core (fun b=>if b=a then some (.frz { cls:=.type "list", data:=.seq vs.toArray } (.lst (ns.map V.int)))else none) (fun b=>?_) (.inl (.inr ⟨{ cls:=.type "list", data:=.seq vs.toArray },if_pos rfl⟩)) (fun b u z=>?_) (fun b z=>?_) fun _=>hk
  ·by_cases hb:b=a
   ·exact .inr ⟨_,_,if_pos hb⟩
   ·exact .inl (if_neg hb)
  ·by_cases hb:b=a
   ·have z':=(if_pos hb).symm.trans z
    cases z'
    subst hb
    exact⟨ha,by rw[List.length_map];exact hl,vs,_,rv,ha⟩
   ·have z':=(if_neg hb).symm.trans z
    cases z'
  ·by_cases hb:b=a
   ·exact hb
   ·exact absurd (if_neg hb) z
end L2
namespace L2
open PySem PySem.Spec PyProof.Rows
theorem t_{l:PySem.W.OpenLaw}{n k:Nat}{q:Program}{loose:List Str}{XP:(Str->Option Value)->Heap->Prop}{YP:World->Heap->Prop}{d:DefRec}{K:Params->PySem.W.Frag}{CX:World->CXT}{sp:World->Sp}{x:Str}
  (hn:l.most=some n) (hn2:n<=sizeLine) (hdf:d.params.defaults=[]) (hr:cj k callerA)
  (hY:∀(w:World) (h:Heap),YP w h->(K w.params).In h)
  (F:∀ (w:World) (mg:Str->Option Value) (fa:Addr) (h:Heap),(K w.params).In h->h.Ns mainGlobals mg->mg d.name=some (.ref fa) ->
   ∃fd:FuncData,(∀(s:Shared) (u:Value),BindsTo s fd ⟨[u],[]⟩ [(x,u)])/\
    ∀base:Heap,(K w.params).In base->base.Ns mainGlobals mg->bH l.prog w (K w.params) mg base (CX w) k fa fd [x] (sp w))
  (hsp:∀(w:World) (H:Hp) (a:Addr) (ns:List Int),ns.length<=n->zP H->SqL (K w.params) H a (ns.map V.int)->sp w [.ref a] H (fun v _=>v=.bl true) fun _ _ _=>False)
  (hCX:∀(w:World) (H:Hp) (s:Shared) (e:Value) (s':Shared),CX w [] H s (fun _ _ _=>False) e s'->False) :
  PySem.W.WalkO q loose XP YP l.row.toRowW d [] (fun f vs=>PySem.call f vs):=by
 refine Att.attach_call hn hdf fun w s₀ s₁ mg mb fa o pm cd doc a vs ns G Y ho hd hcd hmg hobj hints hlen hg=>?_
 have KX:=hY w _ Y
 obtain⟨fd,hb,hF⟩:=F w mg fa _ KX G.T.g hmg
 exact sM KX G.T.g G.T.b G.T.builtins G.T.nolimit hg hobj hints (Nat.le_trans hlen hn2) hr hF hb (fun H hO hS=>hsp w H a ns hlen hO hS) fun H e s'=>hCX w H s₁ e s'
end L2
namespace L2
open PySem PySem.Spec PyProof.Rows
def vG(s:Stmt)(j:Nat):Stmt:=match s with
 | .ClassDef _ _ _ body _ _ _ _ _ _ _=>body.getD j (.Pass ⟨0,0,0,0⟩)
 | _=>.Pass ⟨0,0,0,0⟩
def bF(s:Stmt):Arguments:=match s with
 | .FunctionDef _ a _ _ _ _ _ _ _ _=>a
 | _=>{ posonlyargs:=[],args:=[],vararg:=none,kwonlyargs:=[],kw_defaults:=[],kwarg:=none,defaults:=[] }
def aV(s:Stmt):List Stmt:=match s with
 | .FunctionDef _ _ b _ _ _ _ _ _ _=>b
 | _=>[]
def au(s:Stmt):Scope:=match s with
 | .FunctionDef _ _ _ _ _ _ sc _ _ _=>sc
 | _=>{ kind:=.function,names:=[],isGenerator:=false,isCoroutine:=false }
abbrev CX0:CXT:=fun _ _ _ _ _ _=>False
structure Fun(K:PySem.W.Frag)(x qual:Str)(st:Stmt)(f:Addr)(fd:FuncData):Prop where
 ex:∃(oc:Value) (od:Option Addr) (kV doc pm:Value) (an:Option Addr) (cdv ct:Value) (osl:Array (Option Value)),
  fd=PySem.W.fnOf x qual (bF st) (aV st) (au st) .none kV doc pm an cdv ct/\K.lookup f=some ⟨oc,od,.func fd,osl⟩/\PySem.W.codeIn K cdv qual=true
 kp:PySem.W.keepIn K (.ref f)=true
section
variable{P:Program}{w:World}{K:PySem.W.Frag}{mg:Str->Option Value}{base:Heap}
theorem Fun.ok{x qual:Str}{st:Stmt}{f:Addr}{fd:FuncData}{N ps:List Str}{k:Nat}{sp:Sp}(F:Fun K x qual st f fd)(S:bT N ps (au st))(len:∀vs H Q E,sp vs H Q E->vs.length=ps.length)
  (hbody:∀ (cdv:Value) (A:Around) (outer:List Env) (s:Shared) (H:Hp) (vs:List V) (Q:VK) (E:XK),cj k (A.deeper (envOfC qual (au st) s.heap.objs.size f cdv))->sp vs H Q E ->
   ∃t,PSs (cz CX0 P w K mg base N qual (au st) f cdv A outer s H E).nox (aV st) t/\t { nx:=fun _ H'=>Q .non H',rt:=Q } (eF N vs) H):bH P w K mg base CX0 (k+1) f fd ps sp:=by
 obtain⟨oc,od,kV,doc,pm,an,cdv,ct,osl,rfl,lk,hcd⟩:=F.ex
 refine oX lk hcd S len fun A outer s H vs Q E hr hsp=>?_
 obtain⟨t,h,q⟩:=hbody cdv A outer s H vs Q E hr hsp
 exact⟨t,h.nox,q⟩
theorem Fun.binds{x qual:Str}{st:Stmt}{f:Addr}{fd:FuncData}{ps:List Str}(F:Fun K x qual st f fd)
  (h:∀(kV doc pm:Value) (an:Option Addr) (cdv ct:Value) (us:List Value),us.length=ps.length->bindArgs (PySem.W.fnOf x qual (bF st) (aV st) (au st) .none kV doc pm an cdv ct) ⟨us,[]⟩=pure (ps.zip us)):cC K fd ps []:=by
 obtain⟨oc,od,kV,doc,pm,an,cdv,ct,osl,rfl,lk,hcd⟩:=F.ex
 exact .all (h kV doc pm an cdv ct)
end
section
variable{X:Cx}
theorem pv(i:Nat){x:Str}{pos:Pos}(hN:X.N[i]?=some x:=by rfl)(hv:Vis X.env.scope x:=by first | exact Or.inl rfl | exact Or.inr (Or.inl rfl) | exact Or.inr (Or.inr rfl))(hd:(x ==("__debug__" : Str))=false:=by decide)
  (hcd:(x ==("__classdict__" : Str))=false:=by decide):PE X (.Name x pos) (ue i):=dO hN hv hd hcd
end
def mI(H H':Hp):Prop:=∀b o,H b=some o->H' b=some o
theorem mI.trans{H H1 H2:Hp}(a:mI H H1)(b:mI H1 H2):mI H H2:=fun c o h=>b c o (a c o h)
theorem mI.free{H H':Hp}(e:mI H H'){l:Addr}(h:H' l=Option.none):H l=Option.none:=by
 cases q:H l with
 | none=>rfl
 | some o =>
  rw[e l o q]at h
  cases h
theorem mI.seq{K:PySem.W.Frag}{H H':Hp}{a:Addr}{xs:List V}(e:mI H H')(h:SqL K H a xs):SqL K H' a xs:=by
 rcases h with(h |⟨o,h⟩) | h
 ·exact .inl (.inl (e _ _ h))
 ·exact .inl (.inr ⟨o,e _ _ h⟩)
 ·exact .inr h
end L2
set_option maxHeartbeats 4000000
namespace PR
open PySem
inductive Fl where
 | own | frz | bor | lnt | mod
 deriving DecidableEq
inductive PV where
 | non
 | bl (b:Bool)
 | int (i:Int)
 | str (x:Str)
 | lst (f:Fl) (xs:List PV)
 | tup (xs:List PV)
 | obj (f:Fl) (c:Nat) (ks:List Nat) (vs:List PV)
 | exc (c:Nat)
mutual
def PV.mapF(g:Fl->Fl):PV->PV
 | .non=>.non
 | .bl b=>.bl b
 | .int i=>.int i
 | .str x=>.str x
 | .lst f xs=>.lst (g f) (mapL g xs)
 | .tup xs=>.tup (mapL g xs)
 | .obj f c ks vs=>.obj (g f) c ks (mapL g vs)
 | .exc c=>.exc c
def mapL(g:Fl->Fl):List PV->List PV
 | []=>[]
 | x::xs=>x.mapF g::mapL g xs
end
mutual
def PV.has(p:Fl->Bool):PV->Bool
 | .non | .bl _ | .int _ | .str _=>false
 | .lst f xs=>p f||hasL p xs
 | .tup xs=>hasL p xs
 | .obj f _ _ vs=>p f||hasL p vs
 | .exc _=>false
def hasL(p:Fl->Bool):List PV->Bool
 | []=>false
 | x::xs=>x.has p||hasL p xs
end
def Fl.isLnt:Fl->Bool
 | .lnt=>true
 | _=>false
def Fl.isBor:Fl->Bool
 | .bor=>true
 | _=>false
def Fl.lend:Fl->Fl
 | .own=>.lnt
 | f=>f
def Fl.freeze:Fl->Fl
 | .own=>.frz
 | f=>f
def Fl.toBor:Fl->Fl
 | .lnt=>.bor
 | f=>f
inductive Res(α:Type) where
 | ok (a:α)
 | exc (c:Nat)
 | stuck
def Res.bind{α β:Type}:Res α->(α->Res β)->Res β
 | .ok a,k=>k a
 | .exc c,_=>.exc c
 | .stuck,_=>.stuck
@[simp] theorem Res.ok_bind{α β:Type}(a:α)(k:α->Res β):(Res.ok a).bind k=k a:=by simp only[Res.bind]
@[simp] theorem Res.exc_bind{α β:Type}(c:Nat)(k:α->Res β):(Res.exc c:Res α).bind k=.exc c:=rfl
@[simp] theorem Res.stuck_bind{α β:Type}(k:α->Res β):(Res.stuck:Res α).bind k=.stuck:=rfl
abbrev En:=List (Option PV)
abbrev ME:=En->Res PV
abbrev MT:=En->Res Bool
abbrev MA:=En->Res (List PV)
inductive Out where
 | next (e:En)
 | ret (v:PV)
 | brk (e:En)
 | cont (e:En)
 | exc (c:Nat) (e:En)
 | stuck
abbrev MS:=En->Out
def mC(v:PV):ME:=fun _=>.ok v
def ad(i:Nat):ME:=fun env=>match env[i]? with
 | some (some v)=>.ok (v.mapF Fl.lend)
 | _=>.stuck
def aj:MA:=fun _=>.ok []
def aa(a:ME)(r:MA):MA:=fun env=>(a env).bind fun x=>(r env).bind fun xs=>.ok (x::xs)
def mUn(f:PV->Res PV)(a:ME):ME:=fun env=>(a env).bind f
def mOp(f:PV->PV->Res PV)(a b:ME):ME:=fun env=>(a env).bind fun x=>(b env).bind fun y=>f x y
def ja(g:Int->Int->PV):PV->PV->Res PV
 | .int i,.int j=>.ok (g i j)
 | _,_=>.stuck
def fP(C:Int->Int->Bool)(g:Int->Int->PV):PV->PV->Res PV
 | .int i,.int j=>if C i j then .ok (g i j)else .stuck
 | _,_=>.stuck
def kE:PV->Res Bool
 | .non=>.ok false
 | .bl b=>.ok b
 | .int i=>.ok (i != 0)
 | .lst _ xs | .tup xs=>.ok (!xs.isEmpty)
 | _=>.stuck
def ar(a:ME):MT:=fun env=>(a env).bind fun
 | .bl b=>.ok b
 | _=>.stuck
def bV(a:ME):MT:=fun env=>(a env).bind kE
def im(a:MT):MT:=fun env=>(a env).bind fun b=>.ok (!b)
def eL(a b:MT):MT:=fun env=>(a env).bind fun x=>if x then b env else .ok false
def eO(a b:MT):MT:=fun env=>(a env).bind fun x=>if x then .ok true else b env
def ji(c:MT)(a b:ME):ME:=fun env=>(c env).bind fun x=>if x then a env else b env
def aB:MS:=.next
def ap(a b:MS):MS:=fun env=>match a env with
 | .next e=>b e
 | o=>o
def mBr(c:MT)(a b:MS):MS:=fun env=>match c env with
 | .ok true=>a env
 | .ok false=>b env
 | .exc k=>.exc k env
 | .stuck=>.stuck
def PV.noLnt(v:PV):Bool:=!v.has Fl.isLnt
def b0(env:List (Option PV)):Bool:=match env[0]? with
 | some (some (PV.obj _ _ _ _))=>true
 | _=>false
def bO(i:Nat)(env:En):Bool:=if i=0 then !b0 env else true
def aD(i:Nat)(e:ME):MS:=fun env=>match e env with
 | .ok v=>if v.noLnt&&bO i env then .next (env.set i (some v))else .stuck
 | .exc k=>.exc k env
 | .stuck=>.stuck
def aS(e:ME):MS:=fun env=>match e env with
 | .ok v=>if v.noLnt then .ret v else .stuck
 | .exc k=>.exc k env
 | .stuck=>.stuck
def cN(i:Nat):MS:=fun env=>match env[i]? with
 | some (some v)=>.ret v
 | _=>.stuck
def bL(e:ME):MS:=fun env=>match e env with
 | .ok _=>.next env
 | .exc k=>.exc k env
 | .stuck=>.stuck
def dW(i:Nat):MS:=fun env=>match env[i]? with
 | some (some v)=>.next (env.set i (some (v.mapF Fl.freeze)))
 | _=>.stuck
def jF(body:PV->MS):List PV->En->Out
 | [],env=>.next env
 | x::xs,env=>match body x env with
  | .next e | .cont e=>jF body xs e
  | .brk e=>.next e
  | o=>o
end PR
namespace PR
open PySem PySem.Spec L2
structure Tb where
 K:PySem.W.Frag
 nc:Nat
 cls:Nat->Addr
 att:Nat->Str
 inj:∀i j,att i=att j->i=j
 xcl:Nat->Addr
def t5(C a:Addr):HO:=.ext fun h=>∃o,h.get? a=some o/\o.cls=.ref C
def KL(K:PySem.W.Frag)(a:Addr)(xs:List V):Prop:=∃(o:Obj) (its:Array Value) (n:Nat),K.lookup a=some o/\o.cls=.type "list" /\ o.dict=none/\o.data=.seq its n/\its.size<=sizeLine/\aI xs its.toList
def we:Fl->Addr->List Addr->List Addr->Prop
 | .own,a,fp',fp=>fp=a::fp'
 | _,_,fp',fp=>fp'=[]/\fp=[]
def Ek(F B L:Addr->Prop):Fl->Addr->Prop
 | .own,_=>True
 | .frz,a=>F a
 | .bor,a=>B a
 | .lnt,a=>L a
 | .mod,_=>False
def mJ(T:Tb)(F B L:Addr->Prop)(H:Hp):Fl->Addr->List V->Prop
 | .own,a,vs=>H a=some (.lst vs)
 | .lnt,a,vs=>L a/\H a=some (.lst vs)
 | .frz,a,vs=>F a/\Rd H a (.lst vs)
 | .bor,a,vs=>B a/\Rd H a (.lst vs)
 | .mod,a,vs=>KL T.K a vs
theorem mJ.sq(h:mJ T F B L H f a vs):SqL T.K H a vs:=by
 cases f with
 | own=>exact SqL.of h
 | lnt=>exact SqL.of h.2
 | frz | bor=>exact .inl h.2
 | mod=>exact .inr h
mutual
def Rel(T:Tb)(F B L:Addr->Prop)(H:Hp):PV->V->List Addr->Prop
 | .non,v,fp=>v=.non/\fp=[]
 | .bl b,v,fp=>v=.bl b/\fp=[]
 | .int i,v,fp=>v=.int i/\fp=[]
 | .str x,v,fp=>v=.str x/\fp=[]
 | .lst f xs,v,fp=>∃a vs fp',v=.ref a/\mJ T F B L H f a vs/\RelL T F B L H xs vs fp'/\we f a fp' fp
 | .tup xs,v,fp=>∃a vs,v=.ref a/\SqT T.K H a vs/\RelL T F B L H xs vs fp
 | .obj f c ks xs,v,fp=>∃a dx vs fp',v=.ref a/\H a=some (.ins (T.cls c) dx ((ks.map T.att).zip vs))/\(ks.length=xs.length/\c < T.nc)/\RelL T F B L H xs vs fp'/\we f a fp' fp/\Ek F B L f a
 | .exc c,v,fp=>∃a,v=.ref a/\H a=some (t5 (T.xcl c) a)/\fp=[]
def RelL(T:Tb)(F B L:Addr->Prop)(H:Hp):List PV->List V->List Addr->Prop
 | [],vs,fp=>vs=[]/\fp=[]
 | x::xs,vs,fp=>∃v ws f1 f2,vs=v::ws/\Rel T F B L H x v f1/\RelL T F B L H xs ws f2/\fp=f1++f2
end
def ir:HO->Prop
 | .tup _ | .frz _ (.tup _) | .ext _=>True
 | _=>False
section
variable{T:Tb}{F F' B B' L L':Addr->Prop}{H H':Hp}
theorem Rd.tr(h:∀o,H a=some o->H' a=some o)(q:Rd H a u):Rd H' a u:=by
 rcases q with q |⟨o,q⟩
 ·exact .inl (h _ q)
 ·exact .inr ⟨o,h _ q⟩
theorem SqT.tr(h:∀o,H a=some o->ir o->H' a=some o)(q:SqT K H a vs):SqT K H' a vs:=by
 rcases q with(q |⟨o,q⟩) | q
 ·exact .inl (.inl (h _ q True.intro))
 ·exact .inl (.inr ⟨o,h _ q True.intro⟩)
 ·exact .inr q
mutual
theorem Rel.tr(hF:∀a,F a->F' a)(hB:∀a,B a->B' a)(hL:∀a,L a->L' a)(hx:∀a o,H a=some o->(F a\/B a\/L a\/ir o)->H' a=some o) :
  ∀{x:PV}{v:V}{fp:List Addr},(∀a∈fp,∀o,H a=some o->H' a=some o)->Rel T F B L H x v fp->Rel T F' B' L' H' x v fp
 | .non,_,_,_,h | .bl _,_,_,_,h | .int _,_,_,_,h | .str _,_,_,_,h=>by unfold Rel at h ⊢;exact h
 | .lst f xs,_,fp,hp,h=>by
  unfold Rel at h ⊢
  obtain⟨a,vs,fp',e,hl,hr,hf⟩:=h
  cases f with
  | own =>
   obtain rfl:fp=a::fp':=hf
   exact⟨a,vs,fp',e,hp a List.mem_cons_self _ hl,RelL.tr hF hB hL hx (fun b hb=>hp b (List.mem_cons_of_mem _ hb)) hr,rfl⟩
  | frz =>
   obtain⟨rfl,rfl⟩:=hf
   exact⟨a,vs,[],e,⟨hF a hl.1,Rd.tr (fun o q=>hx a o q (.inl hl.1)) hl.2⟩,RelL.tr hF hB hL hx hp hr,rfl,rfl⟩
  | bor =>
   obtain⟨rfl,rfl⟩:=hf
   exact⟨a,vs,[],e,⟨hB a hl.1,Rd.tr (fun o q=>hx a o q (.inr (.inl hl.1))) hl.2⟩,RelL.tr hF hB hL hx hp hr,rfl,rfl⟩
  | lnt =>
   obtain⟨rfl,rfl⟩:=hf
   exact⟨a,vs,[],e,⟨hL a hl.1,hx a _ hl.2 (.inr (.inr (.inl hl.1)))⟩,RelL.tr hF hB hL hx hp hr,rfl,rfl⟩
  | mod =>
   obtain⟨rfl,rfl⟩:=hf
   exact⟨a,vs,[],e,hl,RelL.tr hF hB hL hx hp hr,rfl,rfl⟩
 | .tup xs,_,fp,hp,h=>by
  unfold Rel at h ⊢
  obtain⟨a,vs,e,hl,hr⟩:=h
  exact⟨a,vs,e,SqT.tr (fun o q z=>hx a o q (.inr (.inr (.inr z)))) hl,RelL.tr hF hB hL hx hp hr⟩
 | .obj f c ks xs,_,fp,hp,h=>by
  unfold Rel at h ⊢
  obtain⟨a,dx,vs,fp',e,hl,hk,hr,hf,ha⟩:=h
  cases f with
  | own =>
   obtain rfl:fp=a::fp':=hf
   exact⟨a,dx,vs,fp',e,hp a List.mem_cons_self _ hl,hk,RelL.tr hF hB hL hx (fun b hb=>hp b (List.mem_cons_of_mem _ hb)) hr,rfl,True.intro⟩
  | frz =>
   obtain⟨rfl,rfl⟩:=hf
   exact⟨a,dx,vs,[],e,hx a _ hl (.inl ha),hk,RelL.tr hF hB hL hx hp hr,⟨rfl,rfl⟩,hF a ha⟩
  | bor =>
   obtain⟨rfl,rfl⟩:=hf
   exact⟨a,dx,vs,[],e,hx a _ hl (.inr (.inl ha)),hk,RelL.tr hF hB hL hx hp hr,⟨rfl,rfl⟩,hB a ha⟩
  | lnt =>
   obtain⟨rfl,rfl⟩:=hf
   exact⟨a,dx,vs,[],e,hx a _ hl (.inr (.inr (.inl ha))),hk,RelL.tr hF hB hL hx hp hr,⟨rfl,rfl⟩,hL a ha⟩
  | mod=>exact ha.elim
 | .exc c,_,fp,hp,h=>by
  unfold Rel at h ⊢
  obtain⟨a,e,hl,hf⟩:=h
  exact⟨a,e,hx a _ hl (.inr (.inr (.inr True.intro))),hf⟩
theorem RelL.tr(hF:∀a,F a->F' a)(hB:∀a,B a->B' a)(hL:∀a,L a->L' a)(hx:∀a o,H a=some o->(F a\/B a\/L a\/ir o)->H' a=some o) :
  ∀{xs:List PV}{vs:List V}{fp:List Addr},(∀a∈fp,∀o,H a=some o->H' a=some o)->RelL T F B L H xs vs fp->RelL T F' B' L' H' xs vs fp
 | [],_,_,_,h=>by unfold RelL at h ⊢;exact h
 | x::xs,_,fp,hp,h=>by
  unfold RelL at h ⊢
  obtain⟨v,ws,f1,f2,e,h1,h2,rfl⟩:=h
  exact⟨v,ws,f1,f2,e,Rel.tr hF hB hL hx (fun b hb=>hp b (List.mem_append_left _ hb)) h1,RelL.tr hF hB hL hx (fun b hb=>hp b (List.mem_append_right _ hb)) h2,rfl⟩
end
def Ext(H H':Hp):Prop:=∀a o,H a=some o->H' a=some o
theorem Ext.refl:Ext H H:=fun _ _ h=>h
theorem Ext.trans(a:Ext H H1)(b:Ext H1 H2):Ext H H2:=fun c o h=>b c o (a c o h)
theorem Ext.upd(h:H a=none):Ext H (L2.upd H a o):=fun b u e=>by rw[aE (bj e h)];exact e
theorem Ext.free(x:Ext H H')(h:H' a=none):H a=none:=by
 cases e:H a with
 | none=>rfl
 | some o=>rw[x a o e]at h;cases h
theorem Rel.ext(e:Ext H H')(hF:∀a,F a->F' a)(h:Rel T F B L H x v fp):Rel T F' B L H' x v fp :=
 Rel.tr hF (fun _ h=>h) (fun _ h=>h) (fun a o q _=>e a o q) (fun a _ o q=>e a o q) h
theorem RelL.ext(e:Ext H H')(hF:∀a,F a->F' a)(h:RelL T F B L H xs vs fp):RelL T F' B L H' xs vs fp :=
 RelL.tr hF (fun _ h=>h) (fun _ h=>h) (fun a o q _=>e a o q) (fun a _ o q=>e a o q) h
theorem RelL.length:∀{xs:List PV}{vs:List V}{fp:List Addr},RelL T F B L H xs vs fp->xs.length=vs.length
 | [],_,_,h=>by unfold RelL at h;rw[h.1];rfl
 | x::xs,_,_,h=>by
  unfold RelL at h
  obtain⟨v,ws,f1,f2,rfl,_,h2,_⟩:=h
  simp[RelL.length h2]
mutual
theorem Rel.there:∀{x:PV}{v:V}{fp:List Addr},Rel T F B L H x v fp->∀a∈fp,∃o,H a=some o
 | .non,_,_,h | .bl _,_,_,h | .int _,_,_,h | .str _,_,_,h=>by unfold Rel at h;rw[h.2];exact fun _ z=>nomatch z
 | .lst f xs,_,fp,h=>by
  unfold Rel at h
  obtain⟨a,vs,fp',e,hl,hr,hf⟩:=h
  cases f with
  | own =>
   obtain rfl:fp=a::fp':=hf
   intro b hb
   rcases List.mem_cons.mp hb with rfl | hb
   ·exact⟨_,hl⟩
   ·exact RelL.there hr b hb
  | frz | bor | lnt | mod=>obtain⟨rfl,rfl⟩:=hf;exact fun _ z=>nomatch z
 | .tup xs,_,fp,h=>by
  unfold Rel at h
  obtain⟨a,vs,e,hl,hr⟩:=h
  exact RelL.there hr
 | .obj f c ks xs,_,fp,h=>by
  unfold Rel at h
  obtain⟨a,dx,vs,fp',e,hl,hk,hr,hf,ha⟩:=h
  cases f with
  | own =>
   obtain rfl:fp=a::fp':=hf
   intro b hb
   rcases List.mem_cons.mp hb with rfl | hb
   ·exact⟨_,hl⟩
   ·exact RelL.there hr b hb
  | frz | bor | lnt | mod=>obtain⟨rfl,rfl⟩:=hf;exact fun _ z=>nomatch z
 | .exc c,_,fp,h=>by
  unfold Rel at h
  obtain⟨a,e,hl,rfl⟩:=h
  exact fun _ z=>nomatch z
theorem RelL.there:∀{xs:List PV}{vs:List V}{fp:List Addr},RelL T F B L H xs vs fp->∀a∈fp,∃o,H a=some o
 | [],_,_,h=>by unfold RelL at h;rw[h.2];exact fun _ z=>nomatch z
 | x::xs,_,_,h=>by
  unfold RelL at h
  obtain⟨v,ws,f1,f2,_,h1,h2,rfl⟩:=h
  intro b hb
  rcases List.mem_append.mp hb with hb | hb
  ·exact Rel.there h1 b hb
  ·exact RelL.there h2 b hb
end
def Chg:HO->Prop
 | .lst _ | .ins _ _ _=>True
 | _=>False
mutual
theorem Rel.chg:∀{x:PV}{v:V}{fp:List Addr},Rel T F B L H x v fp->∀a∈fp,∃o,H a=some o/\Chg o
 | .non,_,_,h | .bl _,_,_,h | .int _,_,_,h | .str _,_,_,h=>by unfold Rel at h;rw[h.2];exact fun _ z=>nomatch z
 | .lst f xs,_,fp,h=>by
  unfold Rel at h
  obtain⟨a,vs,fp',e,hl,hr,hf⟩:=h
  cases f with
  | own =>
   obtain rfl:fp=a::fp':=hf
   intro b hb
   rcases List.mem_cons.mp hb with rfl | hb
   ·exact⟨_,hl,True.intro⟩
   ·exact RelL.chg hr b hb
  | frz | bor | lnt | mod=>obtain⟨rfl,rfl⟩:=hf;exact fun _ z=>nomatch z
 | .tup xs,_,fp,h=>by
  unfold Rel at h
  obtain⟨a,vs,e,hl,hr⟩:=h
  exact RelL.chg hr
 | .obj f c ks xs,_,fp,h=>by
  unfold Rel at h
  obtain⟨a,dx,vs,fp',e,hl,hk,hr,hf,ha⟩:=h
  cases f with
  | own =>
   obtain rfl:fp=a::fp':=hf
   intro b hb
   rcases List.mem_cons.mp hb with rfl | hb
   ·exact⟨_,hl,True.intro⟩
   ·exact RelL.chg hr b hb
  | frz | bor | lnt | mod=>obtain⟨rfl,rfl⟩:=hf;exact fun _ z=>nomatch z
 | .exc c,_,fp,h=>by
  unfold Rel at h
  obtain⟨a,e,hl,rfl⟩:=h
  exact fun _ z=>nomatch z
theorem RelL.chg:∀{xs:List PV}{vs:List V}{fp:List Addr},RelL T F B L H xs vs fp->∀a∈fp,∃o,H a=some o/\Chg o
 | [],_,_,h=>by unfold RelL at h;rw[h.2];exact fun _ z=>nomatch z
 | x::xs,_,_,h=>by
  unfold RelL at h
  obtain⟨v,ws,f1,f2,_,h1,h2,rfl⟩:=h
  intro b hb
  rcases List.mem_append.mp hb with hb | hb
  ·exact Rel.chg h1 b hb
  ·exact RelL.chg h2 b hb
end
mutual
theorem Rel.lend:∀{x:PV}{v:V}{fp:List Addr},(∀a∈fp,L a)->Rel T F B L H x v fp->Rel T F B L H (x.mapF Fl.lend) v []
 | .non,_,_,_,h | .bl _,_,_,_,h | .int _,_,_,_,h | .str _,_,_,_,h=>by unfold Rel at h;simp only[PV.mapF];unfold Rel;exact⟨h.1,rfl⟩
 | .lst f xs,_,fp,hp,h=>by
  unfold Rel at h
  obtain⟨a,vs,fp',e,hl,hr,hf⟩:=h
  simp only[PV.mapF]
  unfold Rel
  cases f with
  | own =>
   obtain rfl:fp=a::fp':=hf
   exact⟨a,vs,[],e,⟨hp a List.mem_cons_self,hl⟩,RelL.lend (fun b hb=>hp b (List.mem_cons_of_mem _ hb)) hr,rfl,rfl⟩
  | frz | bor | lnt | mod=>obtain⟨rfl,rfl⟩:=hf;exact⟨a,vs,[],e,hl,RelL.lend hp hr,rfl,rfl⟩
 | .tup xs,_,fp,hp,h=>by
  unfold Rel at h
  obtain⟨a,vs,e,hl,hr⟩:=h
  simp only[PV.mapF]
  unfold Rel
  exact⟨a,vs,e,hl,RelL.lend hp hr⟩
 | .obj f c ks xs,_,fp,hp,h=>by
  unfold Rel at h
  obtain⟨a,dx,vs,fp',e,hl,hk,hr,hf,ha⟩:=h
  simp only[PV.mapF]
  unfold Rel
  cases f with
  | own =>
   obtain rfl:fp=a::fp':=hf
   have r:=RelL.lend (fun b hb=>hp b (List.mem_cons_of_mem _ hb)) hr
   exact⟨a,dx,vs,[],e,hl,⟨by rw[r.length,hk.1,hr.length],hk.2⟩,r,⟨rfl,rfl⟩,hp a List.mem_cons_self⟩
  | frz | bor | lnt=>obtain⟨rfl,rfl⟩:=hf;have r:=RelL.lend hp hr;exact⟨a,dx,vs,[],e,hl,⟨by rw[r.length,hk.1,hr.length],hk.2⟩,r,⟨rfl,rfl⟩,ha⟩
  | mod=>exact ha.elim
 | .exc c,_,fp,hp,h=>by
  unfold Rel at h
  obtain⟨a,e,hl,rfl⟩:=h
  simp only[PV.mapF]
  unfold Rel
  exact⟨a,e,hl,rfl⟩
theorem RelL.lend:∀{xs:List PV}{vs:List V}{fp:List Addr},(∀a∈fp,L a)->RelL T F B L H xs vs fp->RelL T F B L H (mapL Fl.lend xs) vs []
 | [],_,_,_,h=>by unfold RelL at h;simp only[mapL];unfold RelL;exact⟨h.1,rfl⟩
 | x::xs,_,fp,hp,h=>by
  unfold RelL at h
  obtain⟨v,ws,f1,f2,e,h1,h2,rfl⟩:=h
  simp only[mapL]
  unfold RelL
  exact⟨v,ws,[],[],e,Rel.lend (fun b hb=>hp b (List.mem_append_left _ hb)) h1,RelL.lend (fun b hb=>hp b (List.mem_append_right _ hb)) h2,rfl⟩
end
end
end PR
namespace L2
open PySem PySem.Spec
theorem PE.wk(h:PE X e t)(w:∀σ H Q,t' σ H Q->t σ H Q):PE X e t':=fun pins s σ H Q I q=>h pins s σ H Q I (w σ H Q q)
theorem PA.wk(h:PA X e t)(w:∀σ H Q,t' σ H Q->t σ H Q):PA X e t':=fun pos pins s σ H Q I q=>h pos pins s σ H Q I (w σ H Q q)
theorem PT.wk(h:PT X e t)(w:∀σ H Q,t' σ H Q->t σ H Q):PT X e t':=fun pins s σ H Q I q=>h pins s σ H Q I (w σ H Q q)
theorem PW.wk(h:PW X e t)(w:∀σ H Q,t' σ H Q->t σ H Q):PW X e t':=fun wh pins s σ H Q I q=>h wh pins s σ H Q I (w σ H Q q)
theorem PS.wk(h:PS X e t)(w:∀D σ H,t' D σ H->t D σ H):PS X e t':=fun pins s σ H D I q=>h pins s σ H D I (w D σ H q)
theorem PSs.wk(h:PSs X e t)(w:∀D σ H,t' D σ H->t D σ H):PSs X e t':=fun pins s σ H D I q=>h pins s σ H D I (w D σ H q)
end L2
namespace PR
open PySem PySem.Spec L2
structure Zn where
 H0:Hp
 F0:Addr->Prop
 fp0:Addr->Prop
 B:Addr->Prop
 pin:Option V:=none
abbrev NoL:Addr->Prop:=fun _=>False
structure dC(T:Tb)(Z:Zn)(F:Addr->Prop)(H:Hp):Prop where
 bo:∀a,Z.B a->(∃o,Z.H0 a=some o)/\¬Z.fp0 a
 keep:∀a o,Z.H0 a=some o->¬Z.fp0 a->H a=some o
 f0:∀a,Z.F0 a->F a
 fn:∀a,F a->Z.F0 a\/Z.H0 a=none\/Z.fp0 a
 ft:∀a,F a->∃o,H a=some o
structure aw(T:Tb)(Z:Zn)(F:Addr->Prop)(H:Hp)(σ:St)(env:En)(fp:Nat->List Addr):Prop where
 hp:dC T Z F H
 len:σ.length=env.length
 rel:∀(i:Nat) (pv:PV),env[i]?=some (some pv)->∃v,σ[i]?=some (some v)/\Rel T F Z.B NoL H pv v (fp i)
 nd:∀i,(fp i).Nodup
 dj:∀i j,i≠j->∀a∈fp i,a∉fp j
 dis:∀i,∀a∈fp i,¬F a/\∃o,H a=some o
 new:∀i,∀a∈fp i,Z.H0 a=none\/Z.fp0 a
 ch:∀i,∀a∈fp i,∃o,H a=some o/\Chg o
 pn:∀v,Z.pin=some v->σ[0]?=some (some v)/\b0 env=true
def Own(fp:Nat->List Addr):Addr->Prop:=fun a=>∃i,a∈fp i
structure Gr(F:Addr->Prop)(H:Hp)(F':Addr->Prop)(H':Hp):Prop where
 ext:Ext H H'
 mono:∀a,F a->F' a
 only:∀a,F' a->F a\/H a=none
 dom:∀a,F' a->∃o,H' a=some o
theorem Gr.refl(h:∀a,F a->∃o,H a=some o):Gr F H F H:=⟨Ext.refl,fun _ h=>h,fun _ h=>.inl h,h⟩
theorem Gr.trans(a:Gr F H F1 H1)(b:Gr F1 H1 F2 H2):Gr F H F2 H2 :=
 ⟨a.ext.trans b.ext,fun c h=>b.mono c (a.mono c h),fun c h=>(b.only c h).elim (a.only c) fun z=>.inr (a.ext.free z),b.dom⟩
theorem Gr.same(h:∀a,F a->∃o,H a=some o)(e:Ext H H'):Gr F H F H':=⟨e,fun _ h=>h,fun _ h=>.inl h,fun a q=>let⟨o,z⟩:=h a q;⟨o,e a o z⟩⟩
section
variable{T:Tb}{Z:Zn}{F F':Addr->Prop}{H H':Hp}{σ:St}{env:En}{fp:Nat->List Addr}
theorem dC.grow(S:dC T Z F H)(g:Gr F H F' H'):dC T Z F' H' :=
 ⟨S.bo,fun a o h n=>g.ext a o (S.keep a o h n),fun a h=>g.mono a (S.f0 a h),fun a h=>by
  rcases g.only a h with z | z
  ·exact S.fn a z
  ·refine .inr ?_
   by_cases q:Z.fp0 a
   ·exact .inr q
   ·refine .inl ?_
    cases w:Z.H0 a with
    | none=>rfl
    | some o=>rw[S.keep a o w q]at z;exact(nomatch z),g.dom⟩
theorem aw.grow(S:aw T Z F H σ env fp)(g:Gr F H F' H'):aw T Z F' H' σ env fp :=
 ⟨S.hp.grow g,S.len,fun i pv h=>let ⟨v,q1,q2⟩:=S.rel i pv h;⟨v,q1,q2.ext g.ext g.mono⟩,S.nd,S.dj,fun i a h=>by
  obtain⟨n,o,q⟩:=S.dis i a h
  refine⟨fun z=>?_,o,g.ext a o q⟩
  rcases g.only a z with z | z
  ·exact n z
  ·rw[q]at z;exact(nomatch z),S.new,fun i a h=>let⟨o,q,c⟩:=S.ch i a h;⟨o,g.ext a o q,c⟩,S.pn⟩
end
def GE(T:Tb)(W:Nat->St->Hp->Prop)(B F L:Addr->Prop)(σ:St)(H:Hp)(Q:VK):Res PV->Prop
 | .ok pv=>∀v H' F' f,Gr F H F' H'->Rel T F' B L H' pv v f->(∀a∈f,¬F' a)->f.Nodup->(∀a∈f,H a=none)->Q v H'
 | .exc c=>∀H',Ext H H'->W c σ H'
 | .stuck=>False
def GA(T:Tb)(W:Nat->St->Hp->Prop)(B F L:Addr->Prop)(σ:St)(H:Hp)(Q:List V->Hp->Prop):Res (List PV)->Prop
 | .ok pvs=>∀vs H' F' f,Gr F H F' H'->RelL T F' B L H' pvs vs f->(∀a∈f,¬F' a)->f.Nodup->(∀a∈f,H a=none)->Q vs H'
 | .exc c=>∀H',Ext H H'->W c σ H'
 | .stuck=>False
def GT(W:Nat->St->Hp->Prop)(F:Addr->Prop)(σ:St)(H:Hp)(Q:Bool->Hp->Prop):Res Bool->Prop
 | .ok b=>∀H' F',Gr F H F' H'->Q b H'
 | .exc c=>∀H',Ext H H'->W c σ H'
 | .stuck=>False
def tE(T:Tb)(W:Nat->St->Hp->Prop)(m:ME):TE:=fun σ H Q=>∃Z F env fp,aw T Z F H σ env fp/\GE T W Z.B F (Own fp) σ H Q (m env)
def tA(T:Tb)(W:Nat->St->Hp->Prop)(m:MA):TA:=fun σ H Q=>∃Z F env fp,aw T Z F H σ env fp/\GA T W Z.B F (Own fp) σ H Q (m env)
def tT(T:Tb)(W:Nat->St->Hp->Prop)(m:MT):TT:=fun σ H Q=>∃Z F env fp,aw T Z F H σ env fp/\GT W F σ H Q (m env)
abbrev SE(X:Cx)(T:Tb)(W:Nat->St->Hp->Prop)(e:Expr)(m:ME):Prop:=PE X e (tE T W m)
abbrev SA(X:Cx)(T:Tb)(W:Nat->St->Hp->Prop)(es:List Expr)(m:MA):Prop:=PA X es (tA T W m)
abbrev ST(X:Cx)(T:Tb)(W:Nat->St->Hp->Prop)(e:Expr)(m:MT):Prop:=PT X e (tT T W m)
section
variable{X:Cx}{T:Tb}{W:Nat->St->Hp->Prop}{Z:Zn}{F F' B L:Addr->Prop}{H H':Hp}{σ:St}{env:En}{fp:Nat->List Addr}
theorem GE.scal{Q:VK}{pv:PV}{v:V}(q:GE T W B F L σ H Q (.ok pv))(g:Gr F H F' H')(r:Rel T F' B L H' pv v []):Q v H' :=
 q v H' F' [] g r (fun _ z=>(nomatch z)) List.nodup_nil (fun _ z=>(nomatch z))
theorem fM{v:V}{pv:PV}(h:PE X e (tC v))(r:∀F B L H,Rel T F B L H pv v []):SE X T W e (mC pv):=PE.wk h fun σ H Q ⟨Z,F,env,fp,S,q⟩=>q.scal (Gr.refl S.hp.ft) (r _ _ _ _)
theorem am{i j pos}:SE X T W (.Constant (.int i) j pos) (mC (.int i)):=fM rR fun _ _ _ _=>by unfold Rel;exact⟨rfl,rfl⟩
theorem iV{b j pos}:SE X T W (.Constant (.bool b) j pos) (mC (.bl b)):=fM AJ fun _ _ _ _=>by unfold Rel;exact⟨rfl,rfl⟩
theorem iT{j pos}:SE X T W (.Constant .none j pos) (mC .non):=fM x_ fun _ _ _ _=>by unfold Rel;exact⟨rfl,rfl⟩
theorem af{x j pos}:SE X T W (.Constant (.str x) j pos) (mC (.str x)):=fM x8 fun _ _ _ _=>by unfold Rel;exact⟨rfl,rfl⟩
theorem xu(hN:X.N[i]?=some x)(hv:Vis X.env.scope x)(hd:(x ==("__debug__" : Str))=false:=by decide)(hcd:(x ==("__classdict__" : Str))=false:=by decide):SE X T W (.Name x pos) (ad i) :=
 PE.wk (dO hN hv hd hcd) fun σ H Q ⟨Z,F,env,fp,S,q⟩=>by
  unfold ad at q
  split at q
  ·rename_i pv e
   obtain⟨v,e1,r⟩:=S.rel i pv e
   refine⟨v,e1,q.scal (Gr.refl S.hp.ft) ?_⟩
   exact Rel.lend (fun a h=>⟨i,h⟩) (Rel.tr (fun _ h=>h) (fun _ h=>h) (fun _ h=>h.elim) (fun a o q _=>q) (fun a _ o q=>q) r)
  ·exact q.elim
theorem tE.bind(S:aw T Z F H σ env fp)(hx:∀c,m env=.exc c->∀H',Ext H H'->W c σ H')(hs:m env≠.stuck)
  (k:∀pv v H' F' f,m env=.ok pv->Gr F H F' H'->Rel T F' Z.B (Own fp) H' pv v f->(∀a∈f,¬F' a)->f.Nodup->(∀a∈f,H a=none)->Q v H'):tE T W m σ H Q:=by
 refine⟨Z,F,env,fp,S,?_⟩
 cases e:m env with
 | ok pv=>exact fun v H' F' f g r h1 h2 h3=>k pv v H' F' f e g r h1 h2 h3
 | exc c=>exact hx c e
 | stuck=>exact hs e
theorem tA.bind(S:aw T Z F H σ env fp)(hx:∀c,m env=.exc c->∀H',Ext H H'->W c σ H')(hs:m env≠.stuck)
  (k:∀pvs vs H' F' f,m env=.ok pvs->Gr F H F' H'->RelL T F' Z.B (Own fp) H' pvs vs f->(∀a∈f,¬F' a)->f.Nodup->(∀a∈f,H a=none)->Q vs H'):tA T W m σ H Q:=by
 refine⟨Z,F,env,fp,S,?_⟩
 cases e:m env with
 | ok pv=>exact fun v H' F' f g r h1 h2 h3=>k pv v H' F' f e g r h1 h2 h3
 | exc c=>exact hx c e
 | stuck=>exact hs e
theorem tT.bind(S:aw T Z F H σ env fp)(hx:∀c,m env=.exc c->∀H',Ext H H'->W c σ H')(hs:m env≠.stuck)
  (k:∀b H' F',m env=.ok b->Gr F H F' H'->Q b H'):tT T W m σ H Q:=by
 refine⟨Z,F,env,fp,S,?_⟩
 cases e:m env with
 | ok pv=>exact fun H' F' g=>k pv H' F' e g
 | exc c=>exact hx c e
 | stuck=>exact hs e
theorem ag:SA X T W [] aj:=PA.wk gT fun σ H Q ⟨Z,F,env,fp,S,q⟩=>q [] H F [] (Gr.refl S.hp.ft) (by unfold RelL;exact⟨rfl,rfl⟩) (fun _ z=>(nomatch z)) List.nodup_nil (fun _ z=>(nomatch z))
theorem ac(ha:SE X T W e m)(hr:SA X T W es ms)(hs:starEach (e::es) X.env=(false,eval e X.env)::starEach es X.env:=by rfl):SA X T W (e::es) (aa m ms) :=
 PA.wk (cZ ha hr hs) fun σ H Q ⟨Z,F,env,fp,S,q⟩=>by
  unfold aa at q
  refine tE.bind S (fun c e=>by rw[e]at q;exact q) (fun e=>by rw[e]at q;exact q) fun x v H1 F1 f1 e1 g1 r1 n1 d1 w1=>?_
  rw[e1]at q
  simp only[Res.ok_bind]at q
  refine tA.bind (S.grow g1) (fun c e=>by rw[e]at q;exact fun H' x=>q H' (g1.ext.trans x)) (fun e=>by rw[e]at q;exact q) fun xs vs H2 F2 f2 e2 g2 r2 n2 d2 w2=>?_
  rw[e2]at q
  simp only[Res.ok_bind]at q
  have new1:∀a∈f1,¬F2 a:=fun a ha z=>by
   rcases g2.only a z with z | z
   ·exact n1 a ha z
   ·obtain⟨o,ho⟩:=r1.there a ha
    rw[ho]at z;cases z
  refine q (v::vs) H2 F2 (f1++f2) (g1.trans g2) (by unfold RelL;exact⟨v,vs,f1,f2,rfl,r1.ext g2.ext g2.mono,r2,rfl⟩) (fun a ha=>?_) ?_ (fun a ha=>?_)
  ·rcases List.mem_append.mp ha with ha | ha
   ·exact new1 a ha
   ·exact n2 a ha
  ·refine List.nodup_append.mpr ⟨d1,d2,fun a ha b hb z=>?_⟩
   subst z
   obtain⟨o,ho⟩:=r1.there a ha
   rw[w2 a hb]at ho;cases ho
  ·rcases List.mem_append.mp ha with ha | ha
   ·exact w1 a ha
   ·exact g1.ext.free (w2 a ha)
def ao(f:List PV->Res PV)(ms:MA):ME:=fun env=>(ms env).bind f
def Mir(T:Tb)(W:Nat->St->Hp->Prop)(f:List PV->Res PV)(r:List V->Hp->VK->Prop):Prop :=
 ∀(B F L:Addr->Prop) (σ:St) (H:Hp) (Q:VK) (F':Addr->Prop) (H':Hp) (xs:List PV) (vs:List V) (fx:List Addr),Gr F H F' H'->RelL T F' B L H' xs vs fx->(∀a∈fx,¬F' a)->fx.Nodup->(∀a∈fx,H a=none)->
  GE T W B F L σ H Q (f xs)->r vs H' Q
theorem tA.mir(hm:Mir T W f r)(h:tE T W (ao f ms) σ H Q):tA T W ms σ H fun vs H1=>r vs H1 Q:=by
 obtain⟨Z,F,env,fp,S,q⟩:=h
 unfold ao at q
 refine tA.bind S (fun c e=>by rw[e]at q;exact q) (fun e=>by rw[e]at q;exact q) fun xs vs H1 F1 f1 e1 g1 r1 n1 d1 w1=>?_
 rw[e1]at q
 exact hm Z.B F (Own fp) σ H Q F1 H1 xs vs f1 g1 r1 n1 d1 w1 q
theorem dg{id:String}{x:Str}{es:List Expr}{f:List PV->Res PV}{r:List V->Hp->VK->Prop}(hc:cb X (.builtin id) r)(hmir:Mir T W f r)(hg:Gl X x)(hm:X.mg x=none)(hv:bootBuiltins x=some (.builtin id))(ha:SA X T W (e::es) ms)
  (hn:x≠"__name__" := by decide) (hdb:(x ==("__debug__" : Str))=false:=by decide)
  (he:starEach (e::es) X.env=(false,eval e X.env)::starEach es X.env:=by rfl) (hpl:(backTo pos (starEach es X.env)).any (·.1)=false:=by rfl):SE X T W (.Call (.Name x p) (e::es) [] pos) (ao f ms) :=
 PE.wk (i4 hc hg hm hv ha hn hdb he hpl) fun σ H Q h=>tA.mir hmir h
theorem c_{id:String}{x:Str}{es:List Expr}{f:List PV->Res PV}{r:List V->Hp->VK->Prop}(hc:cb X (.type id) r)(hmir:Mir T W f r)(hg:Gl X x)(hm:X.mg x=none)(hv:bootBuiltins x=some (.type id))(ha:SA X T W (e::es) ms)
  (hn:x≠"__name__" := by decide) (hdb:(x ==("__debug__" : Str))=false:=by decide)
  (he:starEach (e::es) X.env=(false,eval e X.env)::starEach es X.env:=by rfl) (hpl:(backTo pos (starEach es X.env)).any (·.1)=false:=by rfl):SE X T W (.Call (.Name x p) (e::es) [] pos) (ao f ms) :=
 PE.wk (j0 hc hg hm hv ha hn hdb he hpl) fun σ H Q h=>tA.mir hmir h
def gJ(T:Tb)(W:Nat->St->Hp->Prop)(f:PV->PV->Res PV)(r:R2):Prop :=
 ∀(B F L:Addr->Prop) (σ:St) (H:Hp) (Q:VK) (F':Addr->Prop) (H':Hp) (x y:PV) (v u:V) (fx fy:List Addr),Gr F H F' H'->Rel T F' B L H' x v fx->Rel T F' B L H' y u fy->(∀a∈fx++fy,¬F' a)->(fx++fy).Nodup->(∀a∈fx++fy,H a=none)->
  GE T W B F L σ H Q (f x y)->r v u H' Q
theorem tE.mir2(hm:gJ T W f r)(h:tE T W (mOp f ma mb) σ H Q):tOp r (tE T W ma) (tE T W mb) σ H Q:=by
 obtain⟨Z,F,env,fp,S,q⟩:=h
 unfold mOp at q
 refine tE.bind S (fun c e=>by rw[e]at q;exact q) (fun e=>by rw[e]at q;exact q) fun x v H1 F1 f1 e1 g1 r1 n1 d1 w1=>?_
 rw[e1]at q
 simp only[Res.ok_bind]at q
 refine tE.bind (S.grow g1) (fun c e=>by rw[e]at q;exact fun H' x=>q H' (g1.ext.trans x)) (fun e=>by rw[e]at q;exact q) fun y u H2 F2 f2 e2 g2 r2 n2 d2 w2=>?_
 rw[e2]at q
 simp only[Res.ok_bind]at q
 have new1:∀a∈f1,¬F2 a:=fun a ha z=>by
  rcases g2.only a z with z | z
  ·exact n1 a ha z
  ·obtain⟨o,ho⟩:=r1.there a ha
   rw[ho]at z;cases z
 refine hm Z.B F (Own fp) σ H Q F2 H2 x y v u f1 f2 (g1.trans g2) (r1.ext g2.ext g2.mono) r2 (fun a ha=>?_) ?_ (fun a ha=>?_) q
 ·rcases List.mem_append.mp ha with ha | ha
  ·exact new1 a ha
  ·exact n2 a ha
 ·refine List.nodup_append.mpr ⟨d1,d2,fun a ha b hb z=>?_⟩
  subst z
  obtain⟨o,ho⟩:=r1.there a ha
  rw[w2 a hb]at ho;cases ho
 ·rcases List.mem_append.mp ha with ha | ha
  ·exact w1 a ha
  ·exact g1.ext.free (w2 a ha)
theorem lu(ho:OpR X (binaryOp op) r)(hm:gJ T W f r)(ha:SE X T W a ma)(hb:SE X T W b mb):SE X T W (.BinOp a op b pos) (mOp f ma mb) :=
 PE.wk (AI (pos:=pos) ho ha hb) fun σ H Q h=>tE.mir2 hm h
theorem iU(ho:OpR X (compareOp op) r)(hm:gJ T W f r)(ha:SE X T W a ma)(hb:SE X T W b mb)(hk:behindInMarks op b=false):SE X T W (.Compare a [op] [b] pos) (mOp f ma mb) :=
 PE.wk (uZ (pos:=pos) ho ha hb hk) fun σ H Q h=>tE.mir2 hm h
theorem AA(hr:IxR X r)(hm:gJ T W f r)(ha:SE X T W a ma)(hb:SE X T W b mb)(hs:gI b):SE X T W (.Subscript a b pos) (mOp f ma mb) :=
 PE.wk (wq (pos:=pos) hr ha hb hs) fun σ H Q h=>tE.mir2 hm h
theorem fR(hg:∀i j F B L H,Rel T F B L H (g' i j) (g i j) []):gJ T W (ja g') (rI0 g):=by
  intro B F L σ H Q F' H' x y v u fx fy gr rx ry _ _ _ q
  cases x<;>cases y<;>first
    | exact q.elim
    | (unfold Rel at rx ry
       exact⟨_,_,rx.1,ry.1,q.scal gr (hg _ _ _ _ _ _)⟩)
theorem wC(hc:∀i j,C' i j=true->C i j)(hg:∀i j F B L H,Rel T F B L H (g' i j) (g i j) []):gJ T W (fP C' g') (rI C g):=by
  intro B F L σ H Q F' H' x y v u fx fy gr rx ry _ _ _ q
  cases x<;>cases y<;>first
    | exact q.elim
    | (unfold Rel at rx ry
       simp only[fP]at q
       split at q
       . rename_i hh
         exact⟨_,_,rx.1,ry.1,hc _ _ hh,q.scal gr (hg _ _ _ _ _ _)⟩
       . exact q.elim)
theorem cX:Rel T F B L H (.int i) (.int i) []:=by unfold Rel;exact⟨rfl,rfl⟩
theorem eV:Rel T F B L H (.bl i) (.bl i) []:=by unfold Rel;exact⟨rfl,rfl⟩
theorem xH:Rel T F B L H .non .non []:=by unfold Rel;exact⟨rfl,rfl⟩
def ng:PV->PV->Res PV:=ja fun i j=>.int (i - j)
def i8:PV->PV->Res PV:=fP (fun i j=>decide ((-(2 ^ 64) < i/\i < 2 ^ 64)\/(-(2 ^ 64) < j/\j < 2 ^ 64))) fun i j=>.int (i * j)
def i_:PV->PV->Res PV:=fP (fun _ j=>decide (0 < j)) fun i j=>.int (i % j)
def u8:PV->PV->Res PV:=fP (fun i j=>decide (0<=j/\j<=1000000/\i.natAbs < 2 ^ 64)) fun i j=>.int (i ^ j.toNat)
def pLt:PV->PV->Res PV:=ja fun i j=>.bl (decide (i < j))
def pLe:PV->PV->Res PV:=ja fun i j=>.bl (decide (i<=j))
def pGt:PV->PV->Res PV:=ja fun i j=>.bl (decide (j < i))
def pGe:PV->PV->Res PV:=ja fun i j=>.bl (decide (j<=i))
variable{a b:Expr}{ma mb:ME}{pos:Pos}
theorem iR(ha:SE X T W a ma)(hb:SE X T W b mb):SE X T W (.BinOp a .Sub b pos) (mOp ng ma mb):=lu yg (fR fun _ _ _ _ _ _=>cX) ha hb
theorem d6(ha:SE X T W a ma)(hb:SE X T W b mb):SE X T W (.BinOp a .Mult b pos) (mOp i8 ma mb):=lu yi (wC (fun i j h=>(by simpa using h:(-(2 ^ 64) < i/\i < 2 ^ 64)\/(-(2 ^ 64) < j/\j < 2 ^ 64))) fun _ _ _ _ _ _=>cX) ha hb
theorem fN(ha:SE X T W a ma)(hb:SE X T W b mb):SE X T W (.BinOp a .Mod b pos) (mOp i_ ma mb):=lu yj (wC (fun _ _ h=>of_decide_eq_true h) fun _ _ _ _ _ _=>cX) ha hb
theorem Az(ha:SE X T W a ma)(hb:SE X T W b mb):SE X T W (.Compare a [.LtE] [b] pos) (mOp pLe ma mb):=iU wt (fR fun _ _ _ _ _ _=>eV) ha hb (cP _)
theorem AB(ha:SE X T W a ma)(hb:SE X T W b mb):SE X T W (.Compare a [.Gt] [b] pos) (mOp pGt ma mb):=iU wu (fR fun _ _ _ _ _ _=>eV) ha hb (cP _)
end
def GS(T:Tb)(W:Nat->St->Hp->Prop)(Z:Zn)(D:Ends):Out->Prop
 | .next e=>∀F H σ fp,aw T Z F H σ e fp->D.nx σ H
 | .ret pv=>∀F H v f,dC T Z F H->Rel T F Z.B NoL H pv v f->f.Nodup->(∀a∈f,¬F a)->(∀a∈f,Z.H0 a=none\/Z.fp0 a)->D.rt v H
 | .brk e=>∀F H σ fp,aw T Z F H σ e fp->D.bk σ H
 | .cont e=>∀F H σ fp,aw T Z F H σ e fp->D.ct σ H
 | .exc c e=>∀F H σ fp,aw T Z F H σ e fp->W c σ H
 | .stuck=>False
def tS(T:Tb)(W:Nat->St->Hp->Prop)(m:MS):TS:=fun D σ H=>∃Z F env fp,aw T Z F H σ env fp/\GS T W Z D (m env)
abbrev SS(X:Cx)(T:Tb)(W:Nat->St->Hp->Prop)(st:Stmt)(m:MS):Prop:=PS X st (tS T W m)
abbrev SSs(X:Cx)(T:Tb)(W:Nat->St->Hp->Prop)(sts:List Stmt)(m:MS):Prop:=PSs X sts (tS T W m)
mutual
theorem Rel.noL:∀{x:PV}{v:V}{fp:List Addr},x.has Fl.isLnt=false->Rel T F B L H x v fp->Rel T F B L' H x v fp
 | .non,_,_,_,h | .bl _,_,_,_,h | .int _,_,_,_,h | .str _,_,_,_,h=>by unfold Rel at h ⊢;exact h
 | .lst f xs,_,fp,hp,h=>by
  unfold Rel at h ⊢
  simp only[PV.has,Bool.or_eq_false_iff]at hp
  obtain⟨a,vs,fp',e,hl,hr,hf⟩:=h
  refine⟨a,vs,fp',e,?_,RelL.noL hp.2 hr,hf⟩
  cases f with
  | lnt=>exact absurd hp.1 (by decide)
  | own | frz | bor | mod=>exact hl
 | .tup xs,_,fp,hp,h=>by
  unfold Rel at h ⊢
  simp only[PV.has]at hp
  obtain⟨a,vs,e,hl,hr⟩:=h
  exact⟨a,vs,e,hl,RelL.noL hp hr⟩
 | .obj f c ks xs,_,fp,hp,h=>by
  unfold Rel at h ⊢
  simp only[PV.has,Bool.or_eq_false_iff]at hp
  obtain⟨a,dx,vs,fp',e,hl,hk,hr,hf,ha⟩:=h
  refine⟨a,dx,vs,fp',e,hl,hk,RelL.noL hp.2 hr,hf,?_⟩
  cases f with
  | lnt=>exact absurd hp.1 (by decide)
  | own | frz | bor | mod=>exact ha
 | .exc c,_,fp,hp,h=>by
  unfold Rel at h ⊢
  exact h
theorem RelL.noL:∀{xs:List PV}{vs:List V}{fp:List Addr},hasL Fl.isLnt xs=false->RelL T F B L H xs vs fp->RelL T F B L' H xs vs fp
 | [],_,_,_,h=>by unfold RelL at h ⊢;exact h
 | x::xs,_,fp,hp,h=>by
  unfold RelL at h ⊢
  simp only[hasL,Bool.or_eq_false_iff]at hp
  obtain⟨v,ws,f1,f2,e,h1,h2,rfl⟩:=h
  exact⟨v,ws,f1,f2,e,Rel.noL hp.1 h1,RelL.noL hp.2 h2,rfl⟩
end
section
variable{X:Cx}{T:Tb}{W:Nat->St->Hp->Prop}{Z:Zn}{F F' B L:Addr->Prop}{H H':Hp}{σ:St}{env:En}{fp:Nat->List Addr}{D:Ends}
def bv(fp:Nat->List Addr)(i:Nat)(f:List Addr):Nat->List Addr:=fun j=>if j=i then f else fp j
theorem aw.put(S:aw T Z F H σ env fp){i:Nat}{pv:PV}{v:V}{f:List Addr}(r:Rel T F Z.B NoL H pv v f)(nd:f.Nodup)(nf:∀a∈f,¬F a)(new:∀a∈f,Z.H0 a=none\/Z.fp0 a)(dj:∀a∈f,∀j,j≠i->a∉fp j)(ho:bO i env=true) :
  aw T Z F H (σ.set i (some v)) (env.set i (some pv)) (bv fp i f):=by
 refine⟨S.hp,by rw[List.length_set,List.length_set,S.len],fun j pv' e=>?_,fun j=>?_,fun j k hjk a ha=>?_,fun j a ha=>?_,fun j a ha=>?_,fun j a ha=>?_,fun w hw=>?_⟩
 ·by_cases hj:j=i
  ·subst hj
   have hl:j < env.length:=by
    have:=(List.getElem?_eq_some_iff.mp e).1
    simpa using this
   rw[List.getElem?_set_self hl]at e
   cases e
   refine⟨v,List.getElem?_set_self (by rw[S.len];exact hl),?_⟩
   unfold bv
   rw[if_pos rfl]
   exact r
  ·rw[List.getElem?_set_ne (Ne.symm hj)]at e
   obtain⟨w,h1,h2⟩:=S.rel j pv' e
   refine⟨w,by rw[List.getElem?_set_ne (Ne.symm hj)];exact h1,?_⟩
   unfold bv
   rw[if_neg hj]
   exact h2
 ·unfold bv;split
  ·exact nd
  ·exact S.nd j
 ·unfold bv at ha ⊢
  by_cases h1:j=i
  ·subst h1
   rw[if_pos rfl]at ha
   rw[if_neg (Ne.symm hjk)]
   exact dj a ha k (Ne.symm hjk)
  ·rw[if_neg h1]at ha
   by_cases h2:k=i
   ·subst h2
    rw[if_pos rfl]
    exact fun z=>dj a z j h1 ha
   ·rw[if_neg h2]
    exact S.dj j k hjk a ha
 ·unfold bv at ha
  by_cases h1:j=i
  ·rw[if_pos h1]at ha;exact⟨nf a ha,r.there a ha⟩
  ·rw[if_neg h1]at ha;exact S.dis j a ha
 ·unfold bv at ha
  by_cases h1:j=i
  ·rw[if_pos h1]at ha;exact new a ha
  ·rw[if_neg h1]at ha;exact S.new j a ha
 ·unfold bv at ha
  by_cases h1:j=i
  ·rw[if_pos h1]at ha;exact r.chg a ha
  ·rw[if_neg h1]at ha;exact S.ch j a ha
 ·obtain⟨h1,h2⟩:=S.pn w hw
  have hi:i≠0:=fun z=>by
   rw[z]at ho
   simp[bO,h2]at ho
  refine⟨by rw[List.getElem?_set_ne hi];exact h1,?_⟩
  unfold b0 at h2 ⊢
  rw[List.getElem?_set_ne hi]
  exact h2
theorem aw.putN(S:aw T Z F H σ env fp)(g:Gr F H F' H'){i:Nat}{pv:PV}{v:V}{f:List Addr}(ho:bO i env=true)(r:Rel T F' Z.B L H' pv v f)(hl:pv.noLnt=true)(nf:∀a∈f,¬F' a)(nd:f.Nodup)(w:∀a∈f,H a=none) :
  aw T Z F' H' (σ.set i (some v)) (env.set i (some pv)) (bv fp i f):=by
 refine(S.grow g).put (Rel.noL (by simpa[PV.noLnt]using hl) r) nd nf (fun a ha=>?_) (fun a ha j _ hj=>?_) ho
 ·by_cases q:Z.fp0 a
  ·exact .inr q
  ·refine .inl ?_
   cases e:Z.H0 a with
   | none=>rfl
   | some o =>
    have:=S.hp.keep a o e q
    rw[w a ha]at this;cases this
 ·obtain⟨_,o,ho⟩:=S.dis j a hj
  rw[w a ha]at ho;cases ho
theorem ay:SSs X T W [] aB:=PSs.wk uQ fun D σ H ⟨Z,F,env,fp,S,q⟩=>q F H σ fp S
theorem ah{bf:List Stmt}(h1:SS X T W st a)(h2:SSs X T W bf b):SSs X T W (st::bf) (ap a b) :=
 PSs.wk (rF h1 h2) fun D σ H ⟨Z,F,env,fp,S,q⟩=>by
  refine⟨Z,F,env,fp,S,?_⟩
  unfold ap at q
  cases e:a env with
  | next e'=>rw[e]at q;exact fun F' H' σ' fp' S'=>⟨Z,F',e',fp',S',q⟩
  | ret v | brk e' | cont e' | exc c e' | stuck=>rw[e]at q;exact q
theorem ak(h1:SS X T W st a):SSs X T W [st] a:=uP h1
def sJ:MS:=.brk
theorem qJ:SS X T W (.Break pos) sJ:=PS.wk rG fun D σ H ⟨Z,F,env,fp,S,q⟩=>q F H σ fp S
theorem aH(hc:ST X T W c mc)(ha:SSs X T W a ma)(hb:SSs X T W b mb):SS X T W (.If c a b pos) (mBr mc ma mb) :=
 PS.wk (AG (pos:=pos) hc ha hb) fun D σ H ⟨Z,F,env,fp,S,q⟩=>by
  unfold mBr at q
  refine tT.bind S (fun c e H' x=>?_) (fun e=>by rw[e]at q;exact q) fun b H' F' e g=>?_
  ·rw[e]at q
   exact q F H' σ fp (S.grow (Gr.same S.hp.ft x))
  ·cases b with
   | true=>rw[e]at q;exact(if_pos rfl).mpr ⟨Z,F',env,fp,S.grow g,q⟩
   | false=>rw[e]at q;exact(if_neg (by decide)).mpr ⟨Z,F',env,fp,S.grow g,q⟩
theorem qG(hN:X.N.Nodup)(hi:X.N[i]?=some x)(hx:Loc X.env.scope x)(he:SE X T W e m)(hs:swapsWith e (some (.Name x pos')) pos.line X.env=pure false:=by rfl)
  (hf:X.fn x=true\/X.env.scope.names.lookup x=some .local:=by first | exact .inl rfl | exact .inr rfl | assumption):SS X T W (.Assign [.Name x pos'] e pos) (aD i m) :=
 PS.wk (xR (pos:=pos) hN hi hx he hs hf) fun D σ H ⟨Z,F,env,fp,S,q⟩=>by
  unfold aD at q
  refine tE.bind S (fun c e H' x=>?_) (fun e=>by rw[e]at q;exact q) fun pv v H1 F1 f e g r h1 h2 h3=>?_
  ·rw[e]at q
   exact q F H' σ fp (S.grow (Gr.same S.hp.ft x))
  ·rw[e]at q
   simp only at q
   split at q
   ·rename_i hl
    rw[Bool.and_eq_true]at hl
    exact q F1 H1 _ _ (S.putN g hl.2 r hl.1 h1 h2 h3)
   ·exact q.elim
theorem dC.newE(S:dC T Z F H){f:List Addr}(w:∀a∈f,H a=none):∀a∈f,Z.H0 a=none\/Z.fp0 a:=fun a ha=>by
 by_cases q:Z.fp0 a
 ·exact .inr q
 ·refine .inl ?_
  cases e:Z.H0 a with
  | none=>rfl
  | some o =>
   have:=S.keep a o e q
   rw[w a ha]at this;cases this
theorem aA(he:SE X T W e m):SS X T W (.Return (some e) pos) (aS m) :=
 PS.wk (m8 (pos:=pos) he) fun D σ H ⟨Z,F,env,fp,S,q⟩=>by
  unfold aS at q
  refine tE.bind S (fun c e H' x=>?_) (fun e=>by rw[e]at q;exact q) fun pv v H1 F1 f e g r h1 h2 h3=>?_
  ·rw[e]at q
   exact q F H' σ fp (S.grow (Gr.same S.hp.ft x))
  ·rw[e]at q
   simp only at q
   split at q
   ·rename_i hl
    exact q F1 H1 v f (S.hp.grow g) (Rel.noL (by simpa[PV.noLnt]using hl) r) h2 h1 (S.hp.newE h3)
   ·exact q.elim
theorem dE(hN:X.N[i]?=some x)(hv:Vis X.env.scope x)(hd:(x ==("__debug__" : Str))=false:=by decide)(hcd:(x ==("__classdict__" : Str))=false:=by decide):SS X T W (.Return (some (.Name x pos')) pos) (cN i) :=
 PS.wk (m8 (pos:=pos) (dO hN hv hd hcd)) fun D σ H ⟨Z,F,env,fp,S,q⟩=>by
  unfold cN at q
  split at q
  ·rename_i pv e
   obtain⟨v,e1,r⟩:=S.rel i pv e
   exact⟨v,e1,q F H v (fp i) S.hp r (S.nd i) (fun a ha=>(S.dis i a ha).1) (S.new i)⟩
  ·exact q.elim
theorem CI:SS X T W (.Return none pos) (aS (mC .non)) :=
 PS.wk (uR (pos:=pos)) fun D σ H ⟨Z,F,env,fp,S,q⟩=>q F H .non [] S.hp xH List.nodup_nil (fun _ z=>(nomatch z)) (fun _ z=>(nomatch z))
theorem bt(he:SE X T W e m)(hs:swapsWith e none pos.line X.env=pure false:=by rfl):SS X T W (.Expr e pos) (bL m) :=
 PS.wk (iE (pos:=pos) he hs) fun D σ H ⟨Z,F,env,fp,S,q⟩=>by
  unfold bL at q
  refine tE.bind S (fun c e H' x=>?_) (fun e=>by rw[e]at q;exact q) fun pv v H1 F1 f e g r h1 h2 h3=>?_
  ·rw[e]at q
   exact q F H' σ fp (S.grow (Gr.same S.hp.ft x))
  ·rw[e]at q
   exact q F1 H1 σ fp (S.grow g)
mutual
theorem Rel.freeze(hF:∀a,F a->F' a):∀{x:PV}{v:V}{fp:List Addr},(∀a∈fp,F' a)->Rel T F B L H x v fp->Rel T F' B L H (x.mapF Fl.freeze) v []
 | .non,_,_,_,h | .bl _,_,_,_,h | .int _,_,_,_,h | .str _,_,_,_,h=>by unfold Rel at h;simp only[PV.mapF];unfold Rel;exact⟨h.1,rfl⟩
 | .lst f xs,_,fp,hp,h=>by
  unfold Rel at h
  obtain⟨a,vs,fp',e,hl,hr,hf⟩:=h
  simp only[PV.mapF]
  unfold Rel
  cases f with
  | own =>
   obtain rfl:fp=a::fp':=hf
   exact⟨a,vs,[],e,⟨hp a List.mem_cons_self,.inl hl⟩,RelL.freeze hF (fun b hb=>hp b (List.mem_cons_of_mem _ hb)) hr,rfl,rfl⟩
  | frz=>obtain⟨rfl,rfl⟩:=hf;exact⟨a,vs,[],e,⟨hF a hl.1,hl.2⟩,RelL.freeze hF hp hr,rfl,rfl⟩
  | bor | lnt | mod=>obtain⟨rfl,rfl⟩:=hf;exact⟨a,vs,[],e,hl,RelL.freeze hF hp hr,rfl,rfl⟩
 | .tup xs,_,fp,hp,h=>by
  unfold Rel at h
  obtain⟨a,vs,e,hl,hr⟩:=h
  simp only[PV.mapF]
  unfold Rel
  exact⟨a,vs,e,hl,RelL.freeze hF hp hr⟩
 | .obj f c ks xs,_,fp,hp,h=>by
  unfold Rel at h
  obtain⟨a,dx,vs,fp',e,hl,hk,hr,hf,ha⟩:=h
  simp only[PV.mapF]
  unfold Rel
  cases f with
  | own =>
   obtain rfl:fp=a::fp':=hf
   have r:=RelL.freeze hF (fun b hb=>hp b (List.mem_cons_of_mem _ hb)) hr
   exact⟨a,dx,vs,[],e,hl,⟨by rw[r.length,hk.1,hr.length],hk.2⟩,r,⟨rfl,rfl⟩,hp a List.mem_cons_self⟩
  | frz=>obtain⟨rfl,rfl⟩:=hf;have r:=RelL.freeze hF hp hr;exact⟨a,dx,vs,[],e,hl,⟨by rw[r.length,hk.1,hr.length],hk.2⟩,r,⟨rfl,rfl⟩,hF a ha⟩
  | bor | lnt=>obtain⟨rfl,rfl⟩:=hf;have r:=RelL.freeze hF hp hr;exact⟨a,dx,vs,[],e,hl,⟨by rw[r.length,hk.1,hr.length],hk.2⟩,r,⟨rfl,rfl⟩,ha⟩
  | mod=>exact ha.elim
 | .exc c,_,fp,hp,h=>by
  unfold Rel at h
  obtain⟨a,e,hl,rfl⟩:=h
  simp only[PV.mapF]
  unfold Rel
  exact⟨a,e,hl,rfl⟩
theorem RelL.freeze(hF:∀a,F a->F' a):∀{xs:List PV}{vs:List V}{fp:List Addr},(∀a∈fp,F' a)->RelL T F B L H xs vs fp->RelL T F' B L H (mapL Fl.freeze xs) vs []
 | [],_,_,_,h=>by unfold RelL at h;simp only[mapL];unfold RelL;exact⟨h.1,rfl⟩
 | x::xs,_,fp,hp,h=>by
  unfold RelL at h
  obtain⟨v,ws,f1,f2,e,h1,h2,rfl⟩:=h
  simp only[mapL]
  unfold RelL
  exact⟨v,ws,[],[],e,Rel.freeze hF (fun b hb=>hp b (List.mem_append_left _ hb)) h1,RelL.freeze hF (fun b hb=>hp b (List.mem_append_right _ hb)) h2,rfl⟩
end
theorem aw.frz(S:aw T Z F H σ env fp){i:Nat}{pv:PV}(e:env[i]?=some (some pv)):aw T Z (fun a=>F a\/a∈fp i) H σ (env.set i (some (pv.mapF Fl.freeze))) (bv fp i []):=by
 have hi:i < env.length:=(List.getElem?_eq_some_iff.mp e).1
 refine⟨⟨S.hp.bo,S.hp.keep,fun a h=>.inl (S.hp.f0 a h),fun a h=>h.elim (S.hp.fn a) fun z=>.inr (S.new i a z),fun a h=>h.elim (S.hp.ft a) fun z=>(S.dis i a z).2⟩,by rw[List.length_set,S.len],fun j pv' e'=>?_,fun j=>?_,fun j k hjk a ha=>?_,fun j a ha=>?_,fun j a ha=>?_,fun j a ha=>?_,fun w hw=>?_⟩
 ·by_cases hj:j=i
  ·subst hj
   rw[List.getElem?_set_self hi]at e'
   cases e'
   obtain⟨v,h1,h2⟩:=S.rel j pv e
   refine⟨v,h1,?_⟩
   unfold bv
   rw[if_pos rfl]
   exact Rel.freeze (fun _ h=>.inl h) (fun a h=>.inr h) h2
  ·rw[List.getElem?_set_ne (Ne.symm hj)]at e'
   obtain⟨w,h1,h2⟩:=S.rel j pv' e'
   refine⟨w,h1,?_⟩
   unfold bv
   rw[if_neg hj]
   exact h2.ext Ext.refl fun _ h=>.inl h
 ·unfold bv;split
  ·exact List.nodup_nil
  ·exact S.nd j
 ·unfold bv at ha ⊢
  by_cases h1:j=i
  ·rw[if_pos h1]at ha;cases ha
  ·rw[if_neg h1]at ha
   by_cases h2:k=i
   ·rw[if_pos h2];exact fun z=>nomatch z
   ·rw[if_neg h2];exact S.dj j k hjk a ha
 ·unfold bv at ha
  by_cases h1:j=i
  ·rw[if_pos h1]at ha;cases ha
  ·rw[if_neg h1]at ha
   exact⟨fun z=>z.elim (S.dis j a ha).1 fun z=>S.dj j i h1 a ha z,(S.dis j a ha).2⟩
 ·unfold bv at ha
  by_cases h1:j=i
  ·rw[if_pos h1]at ha;cases ha
  ·rw[if_neg h1]at ha;exact S.new j a ha
 ·unfold bv at ha
  by_cases h1:j=i
  ·rw[if_pos h1]at ha;cases ha
  ·rw[if_neg h1]at ha;exact S.ch j a ha
 ·obtain⟨h1,h2⟩:=S.pn w hw
  refine⟨h1,?_⟩
  unfold b0 at h2 ⊢
  by_cases hi0:i=0
  ·subst hi0
   rw[e]at h2
   rw[List.getElem?_set_self hi]
   cases pv<;>first | exact h2 |(cases h2;done) | rfl
  ·rw[List.getElem?_set_ne hi0]
   exact h2
theorem eS{i:Nat}{sts:List Stmt}(h:SSs X T W sts m):SSs X T W sts (ap (dW i) m):=PSs.wk h fun D σ H ⟨Z,F,env,fp,S,q⟩=>by
 cases e:env[i]? with
 | none=>simp[ap,dW,e]at q;exact q.elim
 | some w =>
  cases w with
  | none=>simp[ap,dW,e]at q;exact q.elim
  | some pv =>
   simp only[ap,dW,e]at q
   exact⟨Z,_,_,_,S.frz e,q⟩
def Zn.re(Z:Zn)(F:Addr->Prop)(H:Hp)(fp:Nat->List Addr):Zn:=⟨H,F,Own fp,Z.B,Z.pin⟩
theorem aw.enter(S:aw T Z F H σ env fp):aw T (Z.re F H fp) F H σ env fp :=
 ⟨⟨fun a h=>by
   obtain⟨⟨o,h1⟩,h2⟩:=S.hp.bo a h
   refine⟨⟨o,S.hp.keep a o h1 h2⟩,fun⟨i,hi⟩=>?_⟩
   rcases S.new i a hi with z | z
   ·rw[h1]at z;cases z
   ·exact h2 z,fun _ _ h _=>h,fun _ h=>h,fun _ h=>.inl h,S.hp.ft⟩,S.len,S.rel,S.nd,S.dj,S.dis,fun i a ha=>.inr ⟨i,ha⟩,S.ch,S.pn⟩
theorem dC.leave(S:aw T Z F H σ env fp)(S':dC T (Z.re F H fp) F' H'):dC T Z F' H' :=
 ⟨S.hp.bo,fun a o h n=>S'.keep a o (S.hp.keep a o h n) fun ⟨i,hi⟩=>by
   rcases S.new i a hi with z | z
   ·rw[h]at z;cases z
   ·exact n z,fun a h=>S'.f0 a (S.hp.f0 a h),fun a h=>by
  rcases S'.fn a h with z | z |⟨i,hi⟩
  ·exact S.hp.fn a z
  ·refine .inr ?_
   by_cases q:Z.fp0 a
   ·exact .inr q
   ·refine .inl ?_
    cases w:Z.H0 a with
    | none=>rfl
    | some o =>
     have z':H a=none:=z
     rw[S.hp.keep a o w q]at z';cases z'
  ·exact .inr (S.new i a hi),S'.ft⟩
theorem aw.newL(S:aw T Z F H σ env fp)(h:(Z.re F H fp).H0 a=none \/(Z.re F H fp).fp0 a):Z.H0 a=none\/Z.fp0 a:=by
 rcases h with z |⟨i,hi⟩
 ·by_cases q:Z.fp0 a
  ·exact .inr q
  ·refine .inl ?_
   cases w:Z.H0 a with
   | none=>rfl
   | some o =>
    have z':H a=none:=z
    rw[S.hp.keep a o w q]at z';cases z'
 ·exact S.new i a hi
theorem aw.leave(S:aw T Z F H σ env fp)(S':aw T (Z.re F H fp) F' H' σ' env' fp'):aw T Z F' H' σ' env' fp' :=
 ⟨dC.leave S S'.hp,S'.len,S'.rel,S'.nd,S'.dj,S'.dis,fun i a ha=>S.newL (S'.new i a ha),S'.ch,S'.pn⟩
abbrev SW(X:Cx)(T:Tb)(W:Nat->St->Hp->Prop)(e:Expr)(m:MT):Prop:=PW X e (tT T W m)
theorem tT.test(h:tT T W (ar m) σ H Q):tE T W m σ H fun x H'=>∃k,x=.bl k/\Q k H':=by
 obtain⟨Z,F,env,fp,S,q⟩:=h
 unfold ar at q
 refine tE.bind S (fun c e=>by rw[e]at q;exact q) (fun e=>by rw[e]at q;exact q) fun x v H1 F1 f1 e1 g1 r1 n1 d1 w1=>?_
 rw[e1]at q
 cases x with
 | bl b =>
  unfold Rel at r1
  exact⟨b,r1.1,q H1 F1 g1⟩
 | _=>exact q.elim
theorem dN(ho:OpR X (compareOp op) r)(hm:gJ T W f r)(ha:SE X T W a ma)(hb:SE X T W b mb)(hk:behindInMarks op b=false):ST X T W (.Compare a [op] [b] pos) (ar (mOp f ma mb)) :=
 PT.wk (kD (pos:=pos) ho ha hb hk) fun σ H Q h=>by
  obtain⟨Z,F,env,fp,S,q⟩:=tT.test h
  exact tE.mir2 hm ⟨Z,F,env,fp,S,q⟩
theorem mR(h:ST X T W a m):ST X T W (.UnaryOp .Not a pos) (im m):=PT.wk (xQ (pos:=pos) h) fun σ H Q ⟨Z,F,env,fp,S,q⟩=>by
 unfold im at q
 refine tT.bind S (fun c e=>by rw[e]at q;exact q) (fun e=>by rw[e]at q;exact q) fun b H1 F1 e1 g1=>?_
 rw[e1]at q
 exact q H1 F1 g1
theorem d5(h:ST X T W a m):SW X T W (.BoolOp .And [a] pos) m:=uO h
theorem bX(h:ST X T W a m):SW X T W (.BoolOp .Or [a] pos) m:=xO h
theorem fI{bf:List Expr}(h:ST X T W a m)(h2:SW X T W (.BoolOp .And (b::bf) pos) n):SW X T W (.BoolOp .And (a::b::bf) pos) (eL m n):=PW.wk (xP h h2) fun σ H Q ⟨Z,F,env,fp,S,q⟩=>by
 unfold eL at q
 refine tT.bind S (fun c e=>by rw[e]at q;exact q) (fun e=>by rw[e]at q;exact q) fun b H1 F1 e1 g1=>?_
 rw[e1]at q
 cases b with
 | true =>
  refine(if_pos rfl).mpr ⟨Z,F1,env,fp,S.grow g1,?_⟩
  simp only[Res.ok_bind,if_true]at q
  cases e2:n env with
  | ok b=>rw[e2]at q;exact fun H2 F2 g2=>q H2 F2 (g1.trans g2)
  | exc c=>rw[e2]at q;exact fun H' x=>q H' (g1.ext.trans x)
  | stuck=>rw[e2]at q;exact q
 | false=>exact(if_neg (by decide)).mpr (q H1 F1 g1)
theorem da{bf:List Expr}(h:ST X T W a m)(h2:SW X T W (.BoolOp .Or (b::bf) pos) n):SW X T W (.BoolOp .Or (a::b::bf) pos) (eO m n):=PW.wk (AF h h2) fun σ H Q ⟨Z,F,env,fp,S,q⟩=>by
 unfold eO at q
 refine tT.bind S (fun c e=>by rw[e]at q;exact q) (fun e=>by rw[e]at q;exact q) fun b H1 F1 e1 g1=>?_
 rw[e1]at q
 cases b with
 | false =>
  refine(if_neg (by decide)).mpr ⟨Z,F1,env,fp,S.grow g1,?_⟩
  simp only[Res.ok_bind,Bool.false_eq_true,if_false]at q
  cases e2:n env with
  | ok b=>rw[e2]at q;exact fun H2 F2 g2=>q H2 F2 (g1.trans g2)
  | exc c=>rw[e2]at q;exact fun H' x=>q H' (g1.ext.trans x)
  | stuck=>rw[e2]at q;exact q
 | true=>exact(if_pos rfl).mpr (q H1 F1 g1)
theorem SW.st(h:SW X T W e m):ST X T W e m:=PW.pt h
theorem bN(hK:X.K=T.K)(h:SE X T W a m)(he:∀whole,isTrue a X.env whole=(do let v <- whole;standAt a.pos;holding [v] (truthy v)):=by intro _;rfl):ST X T W a (bV m):=PT.wk (rE h he) fun σ H Q ⟨Z,F,env,fp,S,q⟩=>by
 unfold bV at q
 refine tE.bind S (fun c e=>by rw[e]at q;exact q) (fun e=>by rw[e]at q;exact q) fun x v H1 F1 f1 e1 g1 r1 n1 d1 w1=>?_
 rw[e1]at q
 rw[hK]
 cases x with
 | non=>unfold Rel at r1;rw[r1.1];exact⟨false,rfl,q H1 F1 g1⟩
 | bl b=>unfold Rel at r1;rw[r1.1];exact⟨b,rfl,q H1 F1 g1⟩
 | int i=>unfold Rel at r1;rw[r1.1];exact⟨_,rfl,q H1 F1 g1⟩
 | str i=>exact q.elim
 | lst f xs =>
  unfold Rel at r1
  obtain⟨a,vs,fp',rfl,hl,hr,_⟩:=r1
  have hl':SqL T.K H1 a vs:=hl.sq
  have e:(!xs.isEmpty)=!vs.isEmpty:=by
   have:=hr.length
   cases xs<;>cases vs<;>simp_all
  exact⟨_,.inl ⟨vs,hl',rfl⟩,by rw[<- e];exact q H1 F1 g1⟩
 | tup xs =>
  unfold Rel at r1
  obtain⟨a,vs,rfl,hl,hr⟩:=r1
  have e:(!xs.isEmpty)=!vs.isEmpty:=by
   have:=hr.length
   cases xs<;>cases vs<;>simp_all
  exact⟨_,.inr (.inl ⟨vs,hl,rfl⟩),by rw[<- e];exact q H1 F1 g1⟩
 | obj f c ks xs | exc c=>exact q.elim
theorem cL(hc:ST X T W c mc)(ha:SE X T W a ma)(hb:SE X T W b mb):SE X T W (.IfExp c a b pos) (ji mc ma mb):=PE.wk (rS (pos:=pos) hc ha hb) fun σ H Q ⟨Z,F,env,fp,S,q⟩=>by
 unfold ji at q
 refine tT.bind S (fun c e=>by rw[e]at q;exact q) (fun e=>by rw[e]at q;exact q) fun b H1 F1 e1 g1=>?_
 rw[e1]at q
 have lift:∀m:ME,GE T W Z.B F (Own fp) σ H Q (m env)->tE T W m σ H1 Q:=fun m q=>by
  refine⟨Z,F1,env,fp,S.grow g1,?_⟩
  cases e2:m env with
  | ok b=>rw[e2]at q;exact fun v H2 F2 f g2 r n d w=>q v H2 F2 f (g1.trans g2) r n d fun a ha=>g1.ext.free (w a ha)
  | exc c=>rw[e2]at q;exact fun H' x=>q H' (g1.ext.trans x)
  | stuck=>rw[e2]at q;exact q
 cases b with
 | true=>exact(if_pos rfl).mpr (lift ma q)
 | false=>exact(if_neg (by decide)).mpr (lift mb q)
def Bm(a:ME):ME:=fun env=>(a env).bind fun
 | .bl b=>.ok (.bl (!b))
 | _=>.stuck
def jk(a b:ME):ME:=fun env=>(a env).bind fun
 | .bl true=>b env
 | .bl false=>.ok (.bl false)
 | _=>.stuck
def Bl(a b:ME):ME:=fun env=>(a env).bind fun
 | .bl false=>b env
 | .bl true=>.ok (.bl true)
 | _=>.stuck
theorem qT(ha:SE X T W a ma):SE X T W (.BoolOp op [a] pos) ma:=x9 ha
theorem tE.later(S:aw T Z F H σ env fp)(g1:Gr F H F' H')(q:GE T W Z.B F (Own fp) σ H Q (m env)):tE T W m σ H' Q:=by
 refine⟨Z,F',env,fp,S.grow g1,?_⟩
 cases e2:m env with
 | ok b=>rw[e2]at q;exact fun v H2 F2 f g2 r n d w=>q v H2 F2 f (g1.trans g2) r n d fun a ha=>g1.ext.free (w a ha)
 | exc c=>rw[e2]at q;exact fun H' x=>q H' (g1.ext.trans x)
 | stuck=>rw[e2]at q;exact q
theorem mZ{bf:List Expr}(ha:SE X T W a ma)(hb:SE X T W (.BoolOp .And (b::bf) pos) mb):SE X T W (.BoolOp .And (a::b::bf) pos) (jk ma mb):=PE.wk (yd ha hb) fun σ H Q ⟨Z,F,env,fp,S,q⟩=>by
 unfold jk at q
 refine tE.bind S (fun c e=>by rw[e]at q;exact q) (fun e=>by rw[e]at q;exact q) fun x v H1 F1 f1 e1 g1 r1 n1 d1 w1=>?_
 rw[e1]at q
 cases x with
 | bl b =>
  unfold Rel at r1
  refine⟨b,r1.1,?_⟩
  cases b with
  | true=>exact(if_pos rfl).mpr (tE.later S g1 q)
  | false=>exact(if_neg (by decide)).mpr (q.scal g1 eV)
 | _=>exact q.elim
def wa(T:Tb)(W:Nat->St->Hp->Prop)(f:PV->Res PV)(r:V->Hp->VK->Prop):Prop :=
 ∀(B F L:Addr->Prop) (σ:St) (H:Hp) (Q:VK) (F':Addr->Prop) (H':Hp) (x:PV) (v:V) (fx:List Addr),Gr F H F' H'->Rel T F' B L H' x v fx->(∀a∈fx,¬F' a)->fx.Nodup->(∀a∈fx,H a=none)->GE T W B F L σ H Q (f x)->r v H' Q
theorem tE.mir1(hm:wa T W f r)(h:tE T W (mUn f m) σ H Q):tUn r (tE T W m) σ H Q:=by
 obtain⟨Z,F,env,fp,S,q⟩:=h
 unfold mUn at q
 refine tE.bind S (fun c e=>by rw[e]at q;exact q) (fun e=>by rw[e]at q;exact q) fun x v H1 F1 f1 e1 g1 r1 n1 d1 w1=>?_
 rw[e1]at q
 exact hm Z.B F (Own fp) σ H Q F1 H1 x v f1 g1 r1 n1 d1 w1 q
def u9:PV->Res PV
 | .int i=>.ok (.int (-i))
 | _=>.stuck
theorem qU(ha:SE X T W a m):SE X T W (.UnaryOp .USub a pos) (mUn u9 m):=PE.wk (AH (pos:=pos) xj ha) fun σ H Q h=>tE.mir1 (fun B F L σ H Q F' H' x v fx g r _ _ _ q=>by
 cases x with
 | int i=>unfold Rel at r;exact⟨i,r.1,q.scal g cX⟩
 | _=>exact q.elim) h
def nN(k:Nat):List Nat->List PV->Option PV
 | j::ks,v::vs=>if j=k then some v else nN k ks vs
 | _,_=>none
def Fl.isOwn:Fl->Bool
 | .own=>true
 | _=>false
def aQ(k:Nat):PV->Res PV
 | .obj f _ ks vs=>match nN k ks vs with
  | some v=>if f.isOwn&&v.has Fl.isOwn then .stuck else .ok v
  | none=>.stuck
 | _=>.stuck
mutual
theorem Rel.noOwn:∀{x:PV}{v:V}{fp:List Addr},x.has Fl.isOwn=false->Rel T F B L H x v fp->fp=[]
 | .non,_,_,_,h | .bl _,_,_,_,h | .int _,_,_,_,h | .str _,_,_,_,h=>by unfold Rel at h;exact h.2
 | .lst f xs,_,fp,hp,h=>by
  unfold Rel at h
  simp only[PV.has,Bool.or_eq_false_iff]at hp
  obtain⟨a,vs,fp',e,hl,hr,hf⟩:=h
  cases f with
  | own=>exact absurd hp.1 (by decide)
  | frz | bor | lnt | mod=>exact hf.2
 | .tup xs,_,fp,hp,h=>by
  unfold Rel at h
  simp only[PV.has]at hp
  obtain⟨a,vs,e,hl,hr⟩:=h
  exact RelL.noOwn hp hr
 | .obj f c ks xs,_,fp,hp,h=>by
  unfold Rel at h
  simp only[PV.has,Bool.or_eq_false_iff]at hp
  obtain⟨a,dx,vs,fp',e,hl,hk,hr,hf,ha⟩:=h
  cases f with
  | own=>exact absurd hp.1 (by decide)
  | frz | bor | lnt | mod=>exact hf.2
 | .exc c,_,fp,hp,h=>by
  unfold Rel at h
  obtain⟨a,_,_,e⟩:=h
  exact e
theorem RelL.noOwn:∀{xs:List PV}{vs:List V}{fp:List Addr},hasL Fl.isOwn xs=false->RelL T F B L H xs vs fp->fp=[]
 | [],_,_,_,h=>by unfold RelL at h;exact h.2
 | x::xs,_,fp,hp,h=>by
  unfold RelL at h
  simp only[hasL,Bool.or_eq_false_iff]at hp
  obtain⟨v,ws,f1,f2,e,h1,h2,rfl⟩:=h
  rw[Rel.noOwn hp.1 h1,RelL.noOwn hp.2 h2]
  rfl
end
theorem RelL.get:∀{xs:List PV}{vs:List V}{fp:List Addr}{i:Nat}{x:PV},RelL T F B L H xs vs fp->xs[i]?=some x->∃v f,vs[i]?=some v/\Rel T F B L H x v f/\f.Sublist fp
 | [],_,_,_,_,_,e=>by simp at e
 | y::xs,_,fp,0,x,h,e=>by
  unfold RelL at h
  obtain⟨v,ws,f1,f2,rfl,h1,h2,rfl⟩:=h
  simp at e
  subst e
  exact⟨v,f1,by simp,h1,List.sublist_append_left _ _⟩
 | y::xs,_,fp,i+1,x,h,e=>by
  unfold RelL at h
  obtain⟨v,ws,f1,f2,rfl,h1,h2,rfl⟩:=h
  obtain⟨w,f,e1,r,s⟩:=RelL.get (i:=i) h2 (by simpa using e)
  exact⟨w,f,by simpa using e1,r,s.trans (List.sublist_append_right _ _)⟩
theorem mf:∀{ks:List Nat}{xs:List PV}{vs:List V}{fp:List Addr}{x:PV},RelL T F B L H xs vs fp->nN k ks xs=some x->∃v f,((ks.map T.att).zip vs).lookup (T.att k)=some v/\Rel T F B L H x v f/\f.Sublist fp
 | [],_,_,_,_,_,e | j::ks,[],_,_,_,_,e=>by simp[nN]at e
 | j::ks,y::xs,_,fp,x,h,e=>by
  unfold RelL at h
  obtain⟨v,ws,f1,f2,rfl,h1,h2,rfl⟩:=h
  unfold nN at e
  by_cases hj:j=k
  ·rw[if_pos hj]at e
   cases e
   subst hj
   exact⟨v,f1,by simp,h1,List.sublist_append_left _ _⟩
  ·rw[if_neg hj]at e
   obtain⟨w,f,e1,r,s⟩:=mf (ks:=ks) h2 e
   refine⟨w,f,?_,r,s.trans (List.sublist_append_right _ _)⟩
   have:(T.att k==T.att j)=false:=by
    rw[beq_eq_false_iff_ne]
    exact fun z=>hj (T.inj _ _ z).symm
   rw[List.map_cons,List.zip_cons_cons,List.lookup_cons,this]
   exact e1
theorem ug(hK:X.K=T.K)(hf:T.att k=f)(hc:∀c < T.nc,Cls T.K (T.cls c))(hn:∀c < T.nc,cS T.K (T.cls c) f)(h:tE T W (mUn (aQ k) m) σ H Q):As X.K (tE T W m) f σ H Q:=by
 obtain⟨Z,F,env,fp,S,q⟩:=h
 unfold mUn at q
 refine tE.bind S (fun c e=>by rw[e]at q;exact q) (fun e=>by rw[e]at q;exact q) fun x v H1 F1 f1 e1 g1 r1 n1 d1 w1=>?_
 rw[e1]at q
 cases x with
 | obj fl c ks xs =>
  simp only[Res.ok_bind,aQ]at q
  cases e2:nN k ks xs with
  | none=>rw[e2]at q;exact q.elim
  | some y =>
   rw[e2]at q
   dsimp only at q
   unfold Rel at r1
   obtain⟨a,dx,vs,fp',rfl,hl,hk,hr,hfl,_⟩:=r1
   obtain⟨w,f',l1,l2,l3⟩:=mf hr e2
   have e0:f'=[]:=by
    cases fl with
    | own =>
     simp only[Fl.isOwn,Bool.true_and]at q
     by_cases ho:y.has Fl.isOwn=true
     ·rw[if_pos ho]at q;exact q.elim
     ·exact Rel.noOwn (by simpa using ho) l2
    | frz | bor | lnt | mod=>obtain⟨rfl,_⟩:=hfl;exact List.sublist_nil.mp l3
   subst e0
   by_cases hb:(fl.isOwn&&y.has Fl.isOwn)=true
   ·rw[if_pos hb]at q;exact q.elim
   ·rw[if_neg hb]at q
    rw[hK]
    exact⟨a,_,dx,_,w,rfl,hl,hc c hk.2,hn c hk.2,by rw[<- hf];exact l1,q.scal g1 l2⟩
 | _=>exact q.elim
theorem uD(hK:X.K=T.K)(hf:T.att k=f)(hc:∀c < T.nc,Cls T.K (T.cls c))(hn:∀c < T.nc,cS T.K (T.cls c) f)(he:SE X T W e m)(hb:attributeBase e f X.env (eval e X.env)=eval e X.env:=by rfl) :
  SE X T W (.Attribute e f pos) (mUn (aQ k) m):=PE.wk (yb (pos:=pos) he hb) fun σ H Q h=>ug hK hf hc hn h
end
end PR
namespace L2
open PySem PySem.Spec
theorem bW.there(x:bW P w H h a o):∃u,h.get? a=some u:=by
 cases o with
 | lst xs=>obtain⟨_,_,_,_,e⟩:=x;exact⟨_,e⟩
 | tup xs=>obtain⟨_,_,_,o,e,_⟩:=x;exact⟨_,e⟩
 | dK kvs | dT kvs=>obtain⟨_,_,_,_,o,_,_,e,_⟩:=x;exact⟨_,e⟩
 | set S n=>obtain⟨o,_,_,_,e,_⟩:=x;exact⟨_,e⟩
 | ins C dx fs=>obtain⟨_,_,_,e,_⟩:=x;exact⟨_,e⟩
 | own y=>exact x
 | xd fs=>obtain⟨_,⟨_,_,_,e,_⟩,_⟩:=x;exact⟨_,e⟩
 | rng lo hi=>obtain⟨_,_,_,e⟩:=x;exact⟨_,e⟩
 | frz ob u=>obtain⟨e,_⟩:=x;exact⟨_,e⟩
 | tbl ps | met f y=>exact⟨_,(show h.get? a=some _ from x)⟩
 | ext φ=>obtain⟨_,q,_⟩:=x;exact q
end L2
namespace PR
open PySem PySem.Spec L2
structure Fly(P:Program)(w:World)(outer:List Env)(H:Hp)(s:Shared)(cls:Value)(H':Hp)(e:Value)(s':Shared):Prop where
 os:s'.os=s.os
 bare:PyProof.Rows.AllBare s'.gens
 un:Un (frs outer) [] H H' s.heap s'.heap
 hok:HOk P w H' s'.heap
 fly:∃x a0 Bh,e=.ref x/\Heap.FlyingW Bh outer x cls a0 s'.heap/\(∀b o u,H' b=some u->s'.heap.get? b=some o->Bh.get? b=some o)/\
  (∀b o o',s'.heap.get? b=some o->s.heap.get? b=some o'->b∉frs outer->Bh.get? b=some o)
def CXP(P:Program)(w:World):CXT:=fun outer H s E e s'=>∃cls H',Fly P w outer H s cls H' e s'/\E cls none H'
def XF(X:Cx)(T:Tb)(W:Nat->St->Hp->Prop):Prop:=∀(pins:List (Addr×Obj)) (σ:St) (H:Hp) (s:Shared) (c:Nat) (H':Hp) (e:Value) (s':Shared),L2.Inv X pins σ H s->Fly X.prog X.w X.stack H s (.ref (T.xcl c)) H' e s'->W c σ H'->X.xe e s'
def XM(X:Cx)(T:Tb)(W:Nat->St->Hp->Prop):Prop:=∀(pins:List (Addr×Obj)) (σ:St) (H:Hp) (s:Shared) (c:Nat) (h':Heap) (e:Addr) (vs:List Value),L2.Inv X pins σ H s->Heap.MadeExcOf s.heap h' e (.ref (T.xcl c)) vs->W c σ H->X.xe (.ref e) { s with heap:=h' }
section
variable{P:Program}{w:World}{K:PySem.W.Frag}{mg:Str->Option Value}{base:Heap}{N:List Str}{qual:Str}{scope:Scope}{f:Addr}{cd:Value}{A:Around}{outer:List Env}{s:Shared}{H:Hp}{E:XK}
theorem kS{H:Hp}{h h' Bh:Heap}(ok:HOk P w H h)(k:∀b o u,H b=some u->h.get? b=some o->Bh.get? b=some o)(st:Bh.StaysIn h'):HOk P w H h':=fun a o e =>
 (ok a o e).stay (fun b u hb q=>by
  rcases hb with rfl | hb
  ·exact st _ _ (k b u _ e q)
  ·exact st _ _ (k b u _ hb q)) (fun _ q=>q) fun _ _ q=>q
theorem h_(I:L2.Inv X pins σ H1 s1)(hst:X.stack=X.env::X.outer)(hex:X.ex=[])(hfrm:X.env.frame=some X.env.locals)
  (hos:os2=s1.os) (hb:PyProof.Rows.AllBare g2) (u2:Un (frs X.stack) [] H1 H2 s1.heap h2) (ok:HOk X.prog X.w H2 h2) (tr:∀b o u,H2 b=some u->h2.get? b=some o->Bh.get? b=some o)
  (ol:∀b o o',h2.get? b=some o->s1.heap.get? b=some o'->b∉frs X.stack->Bh.get? b=some o) (fl:Heap.FlyingW Bh X.outer x cls a0 h') (up:h2.UpToSlots h') :
  Fly X.prog X.w X.outer X.H₀ X.s₀ cls H2 (.ref x) ⟨h',g2,d2,t2,os2⟩:=by
 have u1:=I.base
 rw[hex]at u1
 have hfs:frs X.stack=X.env.locals::frs X.outer:=by
  rw[hst]
  show List.filterMap _ _=_
  rw[List.filterMap_cons,hfrm]
  rfl
 have u:Un (frs X.stack) [] X.H₀ H2 X.s₀.heap h2:=(u1.mono (fun b hb=>by rw[hfs];exact List.mem_cons_of_mem _ hb) fun _ z=>z).trans u2
 have neL:∀b o,X.s₀.heap.get? b=some o->b≠X.env.locals:=fun b o e=>Nat.ne_of_lt (Nat.lt_of_lt_of_le (Heap.lt_size e) I.ok.above)
 have nst:∀b o,X.s₀.heap.get? b=some o->b∉frs X.outer->b∉frs X.stack:=fun b o e hn hb=>by
  rw[hfs]at hb
  rcases List.mem_cons.mp hb with z | z
  ·exact neL b o e z
  ·exact hn z
 have data:∀b o,X.s₀.heap.get? b=some o->b∈frs X.outer->∀vs,o.data≠.fields vs:=fun b o e hb vs z=>by
  obtain⟨_,o',ho',hd'⟩:=I.ok.funs.mem hb
  rw[e]at ho'
  cases ho'
  exact hd' vs z
 refine⟨hos.trans I.os,hb,⟨fun b o e n hf _=>?_,fun b o e n hf _=>?_,u.free,fun b o e _=>?_,u.tups,u.frzs,u.tbls⟩,kS ok tr fl.1,⟨x,a0,Bh,rfl,fl,fun b o v e q=>?_,fun b o o' e q hf=>?_⟩⟩
 ·have q:=u.keep b o e n (nst b o e hf) (by simp)
  obtain⟨o1,e1⟩:=u1.there b o e (by simp)
  exact fl.1 b o (ol b o o1 q e1 (nst b o e hf))
 ·obtain⟨sl,q⟩:=u.slot b o e n (by rw[hfs];exact List.mem_cons_of_mem _ hf) (by simp)
  obtain⟨sl',q'⟩:=up b _ q (data b o e hf)
  exact⟨sl',q'⟩
 ·by_cases hf:b∈frs X.outer
  ·obtain⟨_,o2,ho2,_⟩:=fl.2.2.1.mem hf
   exact⟨o2,ho2⟩
  ·obtain⟨o1,e1⟩:=u1.there b o e (by simp)
   obtain⟨o2,e2⟩:=u2.there b o1 e1 (by simp)
   exact⟨o2,fl.1 b o2 (ol b o2 o1 e2 e1 (nst b o e hf))⟩
 ·have hlt:=ok.lt e
  obtain⟨o2,e2⟩:∃o2,h2.get? b=some o2:=by
   have x:=ok b v e
   exact bW.there x
  have:=fl.1 b o2 (tr b o2 v e e2)
  rw[q]at this
  cases this
  exact tr b o v e e2
 ·obtain⟨o1,e1⟩:=u1.there b o' q (by simp)
  obtain⟨o2,e2⟩:=u2.there b o1 e1 (by simp)
  have hB:=ol b o2 o1 e2 e1 (nst b o' q hf)
  have:=fl.1 b o2 hB
  rw[e]at this
  cases this
  exact hB
end
section
variable{P:Program}{w:World}{K:PySem.W.Frag}{mg:Str->Option Value}{base:Heap}{N:List Str}{qual:Str}{scope:Scope}{f:Addr}{cd:Value}{A:Around}{outer:List Env}{s:Shared}{H:Hp}{E:XK}{T:Tb}
abbrev WD(T:Tb)(E:XK):Nat->St->Hp->Prop:=fun c _ H=>E (.ref (T.xcl c)) none H
theorem xh:XF (cz (CXP P w) P w K mg base N qual scope f cd A outer s H E) T (WD T E):=by
 intro pins σ H1 s1 c H2 e s2 I fl hW
 obtain⟨x,a0,Bh,rfl,fly,tr,ol⟩:=fl.fly
 refine wpAny_leaves_onW (L:=s.heap.objs.size) I.ok.frames rfl fly fun h' fly' up=>?_
 obtain⟨h2,g2,d2,t2,os2⟩:=s2
 exact⟨_,H2,h_ I rfl rfl rfl fl.os fl.bare fl.un fl.hok tr ol fly' up,hW⟩
theorem aN:XM (cz (CXP P w) P w K mg base N qual scope f cd A outer s H E) T (WD T E):=by
 intro pins σ H1 s1 c h2 e vs I mx hW
 have hin:∀env ∈(cz (CXP P w) P w K mg base N qual scope f cd A outer s H E).stack,∀b,env.frame=some b->b∈frs (cz (CXP P w) P w K mg base N qual scope f cd A outer s H E).stack:=fun env he b hb=>List.mem_filterMap.mpr ⟨env,he,hb⟩
 refine wpAny_leaves_madeW (base:=PySem.W.hideAll s1.heap (frs (cz (CXP P w) P w K mg base N qual scope f cd A outer s H E).stack)) (h:=s1.heap) (L:=s.heap.objs.size) I.ok.frames rfl (fun b o q=>PySem.W.of_hideAll _ q) (PySem.W.funFrames_hide I.stack hin) mx fun h' t fly' _ _ up=>?_
 obtain⟨h1,g1,d1,t1,os1⟩:=s1
 have fresh:∀b o,h1.get? b=some o->h2.get? b=some o:=mx.keeps
 have nfr:∀b u,H1 b=some u->b∉frs (cz (CXP P w) P w K mg base N qual scope f cd A outer s H E).stack:=fun b u e hb=>by
  rw[I.stkFree b hb]at e;cases e
 refine⟨_,H1,h_ I rfl rfl rfl rfl I.bare (h2:=h2) (Bh:=PySem.W.hideAll h1 (frs (cz (CXP P w) P w K mg base N qual scope f cd A outer s H E).stack)) (Un.kept fresh) (I.hok.kept fresh) (fun b o u e q=>?_) (fun b o o' e q hb=>?_) fly' up,hW⟩
 ·obtain⟨o1,e1⟩:=bW.there (I.hok b u e)
  have:=fresh b o1 e1
  rw[q]at this;cases this
  exact PySem.W.hideAll_get _ e1 (nfr b u e)
 ·have:=fresh b o' q
  rw[e]at this;cases this
  exact PySem.W.hideAll_get _ q hb
end
structure Eg(X:Cx)(x:Str)(C:Addr):Prop where
 bm:X.mg x=some (.ref C)
 obj:∃bm N nm q bs hdct sn sub ab col dd k0 k1 k2 k3 k5 mN,X.base.get? C=some (excClassObj nm q C N bs bm hdct sn sub ab col dd k0 k1 k2 k3 k5 "ValueError.__new__")/\X.base.Ns N mN/\mN "__init__" = none /\
  OwnTail X.base [.type "ValueError", .type "Exception", .type "BaseException", .type "object"] bm
section
variable{X:Cx}{T:Tb}{W:Nat->St->Hp->Prop}
theorem qI(O:Eg X x (T.xcl c))(hx:XM X T W)(hc:X.calm=true)(hg:Gl X x)(ha:SA X T W (e::es) ms)(hne:∀env pvs,ms env=.ok pvs->pvs.length<=100)(hd:(x ==("__debug__" : Str))=false:=by decide)
  (he:starEach (e::es) X.env=(false,eval e X.env)::starEach es X.env:=by rfl) (hpl:(backTo cpos (starEach es X.env)).any (·.1)=false:=by rfl) :
  SS X T W (.Raise (some (.Call (.Name x np) (e::es) [] cpos)) none pos) (fun env=>match ms env with
   | .ok _=>.exc c env
   | .exc k=>.exc k env
   | .stuck=>.stuck):=by
 intro pins s σ H D I h
 obtain⟨Z,F,env,fp,S,q⟩:=h
 dsimp only at q
 obtain⟨tl,N,nm,qn,bs,hdct,sn,sub,ab,col,dd,k0,k1,k2,k3,k5,mN,hC,hN,hni,TL⟩:=O.obj
 refine wpAny_Raise_call_subT (C:=T.xcl c) (nm:=nm) (q:=qn) (N:=N) (bs:=bs) (bm:=tl) (hdct:=hdct) (sn:=sn) (sub:=sub) (ab:=ab) (col:=col) (dd:=dd) (k0:=k0) (k1:=k1) (k2:=k2) (k3:=k3) (k5:=k5)
  PySem.F.excBase_ValueError (mN:=mN) (TL.hasType PySem.F.excBase_ValueError.hasBase) (I.ok.hd hc) (by rw[he];show(false ||(backTo cpos (starEach es X.env)).any (·.1))=false;rw[hpl];rfl) hni (eB I hg O.bm ⟨rfl,?_⟩ hd)
 have h2:=ha cpos pins s σ H (fun vs H'=>vs.length <= 100/\W c σ H') I (tA.bind S (fun k e H' x=>by rw [e] at q;exact q F H' σ fp (S.grow (Gr.same S.hp.ft x))) (fun e=>by rw [e] at q;exact q) fun pvs vs H' F' f e g r _ _ _=>by
  rw[e]at q
  exact⟨by rw[<- r.length];exact hne env pvs e,q F' H' σ fp (S.grow g)⟩)
 rw[he]at h2 ⊢
 refine Calls.evalArgs_plain (wpAny_mono h2 (fun vs s₂ h₂=>?_) fun _ _ y=>y)
 obtain⟨vs',H',I2,rv,hl,hw⟩:=h₂
 refine⟨rfl,?_,I2.bk _ _ hC,hN.keeps I2.bk,TL.keeps I2.bk,fun h' e' mx=>hx pins σ H' s₂ c h' e' vs I2 mx hw⟩
 rw[<- rv.length,sizeLine_eq]
 omega
end
def ax(m:List PV->Res PV)(xs:List PV):Res PV:=match m (mapL Fl.toBor xs)with
 | .ok v=>if v.has Fl.isBor then .stuck else .ok v
 | .exc c=>.exc c
 | .stuck=>.stuck
def aR(n:Nat)(m:MS)(args:List PV):Res PV:=match m (args.map some++List.replicate (n - args.length) none)with
 | .next _=>.ok .non
 | .ret v=>.ok v
 | .exc c _=>.exc c
 | _=>.stuck
def GF(T:Tb)(Z:Zn)(Q:VK)(E:XK):Res PV->Prop
 | .ok pv=>∀F H v f,dC T Z F H->Rel T F Z.B NoL H pv v f->f.Nodup->(∀a∈f,¬F a)->(∀a∈f,Z.H0 a=none\/Z.fp0 a)->Q v H
 | .exc c=>∀H,(∀a o,Z.H0 a=some o->¬Z.fp0 a->H a=some o)->E (.ref (T.xcl c)) none H
 | .stuck=>False
structure qt(T:Tb)(F B:Addr->Prop)(H:Hp)(pvs:List PV)(vs:List V)(f:List Addr):Prop where
 rel:RelL T F B NoL H pvs vs f
 nd:f.Nodup
 nf:∀a∈f,¬F a
 bo:∀a,B a->(∃o,H a=some o)/\a∉f
 ft:∀a,F a->∃o,H a=some o
def spM(T:Tb)(n:Nat)(m:List PV->Res PV):Sp:=fun vs H Q E=>vs.length=n/\∃pvs F B f,qt T F B H pvs vs f/\GF T ⟨H,F,(·∈f),B,none⟩ Q E (m pvs)
theorem RelL.split:∀{xs:List PV}{vs:List V}{f:List Addr},RelL T F B L H xs vs f->f.Nodup ->
  ∃g:Nat->List Addr,(∀(i:Nat) x v,xs[i]?=some x->vs[i]?=some v->Rel T F B L H x v (g i))/\(∀i,(g i).Nodup)/\(∀i j,i≠j->∀a∈g i,a∉g j)/\∀i a,a∈g i->a∈f
 | [],_,_,_,_=>⟨fun _=>[],fun i x v e=>by simp at e,fun _=>List.nodup_nil,fun _ _ _ _ z=>(nomatch z),fun _ _ z=>(nomatch z)⟩
 | x::xs,_,_,h,nd=>by
  unfold RelL at h
  obtain⟨v,ws,f1,f2,rfl,h1,h2,rfl⟩:=h
  obtain⟨n1,n2,n3⟩:=List.nodup_append.mp nd
  obtain⟨g,g1,g2,g3,g4⟩:=RelL.split h2 n2
  refine⟨fun i=>match i with | 0=>f1 | j+1=>g j,fun i y u e1 e2=>?_,fun i=>?_,fun i j hij a ha=>?_,fun i a ha=>?_⟩
  ·cases i with
   | zero=>simp at e1 e2;subst e1 e2;exact h1
   | succ i=>exact g1 i y u (by simpa using e1) (by simpa using e2)
  ·cases i with
   | zero=>exact n1
   | succ i=>exact g2 i
  ·cases i with
   | zero =>
    cases j with
    | zero=>exact absurd rfl hij
    | succ j=>exact fun z=>n3 a ha a (g4 j a z) rfl
   | succ i =>
    cases j with
    | zero=>exact fun z=>n3 a z a (g4 i a ha) rfl
    | succ j=>exact g3 i j (fun z=>hij (by rw[z])) a ha
  ·cases i with
   | zero=>exact List.mem_append_left _ ha
   | succ i=>exact List.mem_append_right _ (g4 i a ha)
section
variable{P:Program}{w:World}{K:PySem.W.Frag}{mg:Str->Option Value}{base:Heap}{T:Tb}
theorem ig(N:List Str)(R:qt T F B H pvs vs f)(pin:Option V)(hpin:∀v,pin=some v->vs[0]?=some v/\∃fl c ks xs,pvs[0]?=some (.obj fl c ks xs)) :
  ∃fp,aw T ⟨H,F,(·∈f),B,pin⟩ F H (L2.eF N vs) (pvs.map some++List.replicate (N.length - pvs.length) none) fp:=by
 obtain⟨g,g1,g2,g3,g4⟩:=R.rel.split R.nd
 have hl:=R.rel.length
 refine⟨g,⟨R.bo,fun _ _ h _=>h,fun _ h=>h,fun _ h=>.inl h,R.ft⟩,?_,fun i pv e=>?_,g2,g3,fun i a ha=>⟨R.nf a (g4 i a ha),R.rel.there a (g4 i a ha)⟩,fun i a ha=>.inr (g4 i a ha),fun i a ha=>R.rel.chg a (g4 i a ha),fun v hv=>?_⟩
 ·unfold L2.eF
  simp[hl]
 ·by_cases hi:i < pvs.length
  ·rw[List.getElem?_append_left (by simpa using hi),List.getElem?_map]at e
   obtain⟨x,e1,e2⟩:=Option.map_eq_some_iff.mp e
   cases e2
   obtain⟨v,_,ev,_⟩:=R.rel.get e1
   refine⟨v,?_,g1 i pv v e1 ev⟩
   unfold L2.eF
   rw[List.getElem?_append_left (by simpa[<- hl]using hi),List.getElem?_map,ev]
   rfl
  ·rw[List.getElem?_append_right (by simpa using hi),List.getElem?_replicate]at e
   split at e<;>cases e
 ·obtain⟨h1,fl,c,ks,xs,h2⟩:=hpin v hv
  have hl0:0 < vs.length:=(List.getElem?_eq_some_iff.mp h1).1
  have hp0:0 < pvs.length:=(List.getElem?_eq_some_iff.mp h2).1
  unfold L2.eF b0
  rw[List.getElem?_append_left (by simpa using hl0),List.getElem?_append_left (by simpa using hp0),List.getElem?_map,List.getElem?_map,h1,h2]
  exact⟨rfl,rfl⟩
theorem BI(F:Fun K x qual st f fd)(S:bT N ps (au st))
  (body:∀ (cdv:Value) (A:Around) (outer:List Env) (s:Shared) (H:Hp) (E:XK),cj k (A.deeper (PyProof.Rows.envOfC qual (au st) s.heap.objs.size f cdv)) ->
   SSs (cz (CXP P w) P w K mg base N qual (au st) f cdv A outer s H E) T (WD T E) (aV st) m):bH P w K mg base (CXP P w) (k+1) f fd ps (spM T ps.length (aR N.length m)):=by
 obtain⟨oc,od,kV,doc,pm,an,cdv,ct,osl,rfl,lk,hcd⟩:=F.ex
 refine oX lk hcd S (fun vs H Q E h=>h.1) fun A outer s H vs Q E hr hsp=>⟨_,body cdv A outer s H E hr,?_⟩
 obtain⟨_,pvs,F,B,fl,R,q⟩:=hsp
 obtain⟨fp,S0⟩:=ig N R none (fun _ h=>nomatch h)
 refine⟨_,F,_,fp,S0,?_⟩
 unfold aR at q
 cases e:m (pvs.map some++List.replicate (N.length - pvs.length) none)with
 | next e'=>rw[e]at q;exact fun F' H' σ' fp' S'=>q F' H' .non [] S'.hp xH List.nodup_nil (fun _ z=>(nomatch z)) (fun _ z=>(nomatch z))
 | ret v=>rw[e]at q;exact q
 | brk e' | cont e'=>rw[e]at q;exact q.elim
 | exc c e'=>rw[e]at q;exact fun F' H' σ' fp' S'=>q H' S'.hp.keep
 | stuck=>rw[e]at q;exact q.elim
end
mutual
theorem Rel.toBor(hB:∀a,B a->B' a)(hL:∀a,L a->B' a):∀{x:PV}{v:V}{fp:List Addr},Rel T F B L H x v fp->Rel T F B' L' H (x.mapF Fl.toBor) v fp
 | .non,_,_,h | .bl _,_,_,h | .int _,_,_,h | .str _,_,_,h=>by unfold Rel at h;simp only[PV.mapF];unfold Rel;exact h
 | .lst f xs,_,fp,h=>by
  unfold Rel at h
  obtain⟨a,vs,fp',e,hl,hr,hf⟩:=h
  simp only[PV.mapF]
  unfold Rel
  cases f with
  | own | frz=>exact⟨a,vs,fp',e,hl,RelL.toBor hB hL hr,hf⟩
  | bor=>exact⟨a,vs,fp',e,⟨hB a hl.1,hl.2⟩,RelL.toBor hB hL hr,hf⟩
  | lnt=>exact⟨a,vs,fp',e,⟨hL a hl.1,.inl hl.2⟩,RelL.toBor hB hL hr,hf⟩
  | mod=>exact⟨a,vs,fp',e,hl,RelL.toBor hB hL hr,hf⟩
 | .tup xs,_,fp,h=>by
  unfold Rel at h
  obtain⟨a,vs,e,hl,hr⟩:=h
  simp only[PV.mapF]
  unfold Rel
  exact⟨a,vs,e,hl,RelL.toBor hB hL hr⟩
 | .obj f c ks xs,_,fp,h=>by
  unfold Rel at h
  obtain⟨a,dx,vs,fp',e,hl,hk,hr,hf,ha⟩:=h
  simp only[PV.mapF]
  unfold Rel
  have r:=RelL.toBor hB hL (L':=L') hr
  have hk':ks.length=(mapL Fl.toBor xs).length/\c < T.nc:=⟨by rw[r.length,hk.1,hr.length],hk.2⟩
  cases f with
  | own | frz=>exact⟨a,dx,vs,fp',e,hl,hk',r,hf,ha⟩
  | bor=>exact⟨a,dx,vs,fp',e,hl,hk',r,hf,hB a ha⟩
  | lnt=>exact⟨a,dx,vs,fp',e,hl,hk',r,hf,hL a ha⟩
  | mod=>exact ha.elim
 | .exc c,_,fp,h=>by unfold Rel at h;simp only[PV.mapF];unfold Rel;exact h
theorem RelL.toBor(hB:∀a,B a->B' a)(hL:∀a,L a->B' a):∀{xs:List PV}{vs:List V}{fp:List Addr},RelL T F B L H xs vs fp->RelL T F B' L' H (mapL Fl.toBor xs) vs fp
 | [],_,_,h=>by unfold RelL at h;simp only[mapL];unfold RelL;exact h
 | x::xs,_,fp,h=>by
  unfold RelL at h
  obtain⟨v,ws,f1,f2,e,h1,h2,rfl⟩:=h
  simp only[mapL]
  unfold RelL
  exact⟨v,ws,f1,f2,e,Rel.toBor hB hL h1,RelL.toBor hB hL h2,rfl⟩
end
mutual
theorem Rel.noB:∀{x:PV}{v:V}{fp:List Addr},x.has Fl.isBor=false->Rel T F B L H x v fp->Rel T F B' L H x v fp
 | .non,_,_,_,h | .bl _,_,_,_,h | .int _,_,_,_,h | .str _,_,_,_,h=>by unfold Rel at h ⊢;exact h
 | .lst f xs,_,fp,hp,h=>by
  unfold Rel at h ⊢
  simp only[PV.has,Bool.or_eq_false_iff]at hp
  obtain⟨a,vs,fp',e,hl,hr,hf⟩:=h
  refine⟨a,vs,fp',e,?_,RelL.noB hp.2 hr,hf⟩
  cases f with
  | bor=>exact absurd hp.1 (by decide)
  | own | frz | lnt | mod=>exact hl
 | .tup xs,_,fp,hp,h=>by
  unfold Rel at h ⊢
  simp only[PV.has]at hp
  obtain⟨a,vs,e,hl,hr⟩:=h
  exact⟨a,vs,e,hl,RelL.noB hp hr⟩
 | .obj f c ks xs,_,fp,hp,h=>by
  unfold Rel at h ⊢
  simp only[PV.has,Bool.or_eq_false_iff]at hp
  obtain⟨a,dx,vs,fp',e,hl,hk,hr,hf,ha⟩:=h
  refine⟨a,dx,vs,fp',e,hl,hk,RelL.noB hp.2 hr,hf,?_⟩
  cases f with
  | bor=>exact absurd hp.1 (by decide)
  | own | frz | lnt | mod=>exact ha
 | .exc c,_,fp,hp,h=>by
  unfold Rel at h ⊢
  exact h
theorem RelL.noB:∀{xs:List PV}{vs:List V}{fp:List Addr},hasL Fl.isBor xs=false->RelL T F B L H xs vs fp->RelL T F B' L H xs vs fp
 | [],_,_,_,h=>by unfold RelL at h ⊢;exact h
 | x::xs,_,fp,hp,h=>by
  unfold RelL at h ⊢
  simp only[hasL,Bool.or_eq_false_iff]at hp
  obtain⟨v,ws,f1,f2,e,h1,h2,rfl⟩:=h
  exact⟨v,ws,f1,f2,e,Rel.noB hp.1 h1,RelL.noB hp.2 h2,rfl⟩
end
theorem RelL.append:∀{xs ys:List PV}{vs us:List V}{f g:List Addr},RelL T F B L H xs vs f->RelL T F B L H ys us g->RelL T F B L H (xs++ys) (vs++us) (f++g)
 | [],_,_,_,_,_,h,r=>by unfold RelL at h;obtain⟨rfl,rfl⟩:=h;exact r
 | x::xs,_,_,_,_,_,h,r=>by
  unfold RelL at h
  obtain⟨v,ws,f1,f2,rfl,h1,h2,rfl⟩:=h
  show RelL T F B L H (x::(xs++_)) (v::(ws++_)) _
  unfold RelL
  exact⟨v,_,f1,_,rfl,h1,RelL.append h2 r,by rw[List.append_assoc]⟩
section
variable{X:Cx}{T:Tb}{W:Nat->St->Hp->Prop}{Z:Zn}{F F1:Addr->Prop}{H H1:Hp}{σ:St}{env:En}{fp:Nat->List Addr}
theorem wm
  (G:bH X.prog X.w X.K X.mg X.base (CXP X.prog X.w) k f fd ps (spM T ps.length m)) (hr:cj k X.A) (hb:cC X.K fd ps ds) (hd:aI dvs ds) (hdp:∀F B L H,RelL T F B L H dps dvs []) (hx:XF X T W)
  (S:aw T Z F H σ env fp) (g:Gr F H F1 H1) (r:RelL T F1 Z.B (Own fp) H1 xs vs fx) (nf:∀a∈fx,¬F1 a) (nd:fx.Nodup) (new:∀a∈fx,H a=none) (q:GE T W Z.B F (Own fp) σ H Q (ax m (xs++dps)))
  (I1:L2.Inv X pins σ H1 s1) (rv:aI vs us) (hlen:vs.length+dvs.length=ps.length):wpAny (model X.prog X.w) X.A (call (.ref f) us) (EP X pins σ Q) X.xe s1:=by
 have r2:aI (vs++dvs) (us++ds):=rv.append hd
 have hl:(us++ds).length=ps.length:=by rw[<- r2.length,List.length_append];exact hlen
 have rr:RelL T F1 Z.B (Own fp) H1 (xs++dps) (vs++dvs) fx:=by
  have:=RelL.append r (hdp F1 Z.B (Own fp) H1)
  rwa [List.append_nil]at this
 have hBo:∀a,Z.B a->(∃o,H1 a=some o)/\a∉fx:=fun a h=>by
  obtain⟨⟨o,h1⟩,h2⟩:=S.hp.bo a h
  have h3:=S.hp.keep a o h1 h2
  exact⟨⟨o,g.ext a o h3⟩,fun z=>by rw[new a z]at h3;cases h3⟩
 have hOw:∀a,Own fp a->(∃o,H1 a=some o)/\a∉fx:=fun a ⟨i,hi⟩=>by
  obtain⟨_,o,ho⟩:=S.dis i a hi
  exact⟨⟨o,g.ext a o ho⟩,fun z=>by rw[new a z]at ho;cases ho⟩
 have R:qt T F1 (fun a=>(∃o,H1 a=some o)/\a∉fx) H1 (mapL Fl.toBor (xs++dps)) (vs++dvs) fx:=⟨RelL.toBor hBo hOw rr,nd,nf,fun a h=>h,g.dom⟩
 refine wpAny_call (codeAny_mono (G.run X.A X.stack s1 H1 ⟨us,[]⟩ (us ++ ds) (vs ++ dvs) Q (fun cls _ H'=>∃ c,cls=.ref (T.xcl c)/\W c σ H') hr I1.env0 (hb s1 us I1.kIn hl) r2
  ⟨by rw[r2.length,hl],_,F1,_,fx,R,?_⟩) fun rs s' hq=>?_)
 ·unfold ax at q
  cases e:m (mapL Fl.toBor (xs++dps))with
  | ok v =>
   rw[e]at q
   dsimp only at q
   intro F2 H2 u f2 hp2 r3 nd2 nf2 new2
   by_cases hbr:v.has Fl.isBor=true
   ·rw[if_pos hbr]at q;exact q.elim
   ·rw[if_neg hbr]at q
    have hbr':v.has Fl.isBor=false:=by simpa using hbr
    refine q u H2 F2 f2 ⟨fun a o h=>hp2.keep a o (g.ext a o h) fun z=>(by rw[new a z]at h;cases h),fun a h=>hp2.f0 a (g.mono a h),fun a h=>?_,hp2.ft⟩ ?_ nf2 nd2 fun a ha=>?_
    ·rcases hp2.fn a h with z | z | z
     ·exact g.only a z
     ·exact .inr (g.ext.free z)
     ·exact .inr (new a z)
    ·exact Rel.tr (fun _ h=>h) (fun _ h=>h) (fun _ h=>h.elim) (fun _ _ h _=>h) (fun _ _ _ h=>h) (Rel.noB (B':=Z.B) hbr' r3)
    ·rcases new2 a ha with z | z
     ·exact g.ext.free z
     ·exact new a z
  | exc c =>
   rw[e]at q
   exact fun H' h=>⟨c,rfl,q H' fun a o z=>h a o (g.ext a o z) fun z'=>by rw[new a z']at z;cases z⟩
  | stuck=>rw[e]at q;exact q.elim
 ·cases rs with
  | error e =>
   obtain⟨cls,H',fl,c,rfl,hw⟩:=hq
   exact hx pins σ H1 s1 c H' e s' I1 fl hw
  | ok fl =>
   cases fl with
   | ret u=>exact I1.after hq
   | next | brk | cont=>exact False.elim hq
theorem oz
  (G:bH X.prog X.w X.K X.mg X.base (CXP X.prog X.w) k f fd ps (spM T ps.length m)) (hr:cj k X.A) (hg:Gl X x) (hm:X.mg x=some (.ref f)) (hk:PySem.W.keepIn X.K (.ref f)=true) (hb:cC X.K fd ps ds) (hd:aI dvs ds) (hdp:∀F B L H,RelL T F B L H dps dvs []) (hx:XF X T W)
  (hn:∀env xs,ms env=.ok xs->xs.length+dvs.length=ps.length) (ha:SA X T W (e::es) ms)
  (hdb:(x ==("__debug__" : Str))=false:=by decide) (he:starEach (e::es) X.env=(false,eval e X.env)::starEach es X.env:=by rfl) (hpl:(backTo pos (starEach es X.env)).any (·.1)=false:=by rfl) :
  SE X T W (.Call (.Name x p) (e::es) [] pos) (ao (fun xs=>ax m (xs++dps)) ms):=by
 intro pins s σ H Q I h
 obtain⟨Z,F,env,fp,S,q⟩:=h
 unfold ao at q
 refine wpAny_Call_Name_kw (eB I hg hm ?_ hdb)
 refine PySem.W.callWith_K (h₀:=X.base) I.ok.mod.kin hk (thn (ha pos pins s σ H (fun vs H1=>∀ us s1,L2.Inv X pins σ H1 s1->aI vs us->wpAny (model X.prog X.w) X.A (call (.ref f) us) (EP X pins σ Q) X.xe s1) I
  (tA.bind S (fun c e=>by rw[e]at q;exact q) (fun e=>by rw[e]at q;exact q) fun xs vs H1 F1 f1 e1 g1 r1 n1 d1 w1 us s1 I1 rv=>?_)) fun us s1 ⟨vs,H1,I1,r,q1⟩=>⟨I1.kIn,q1 us s1 I1 r⟩) he hpl
 rw[e1]at q
 exact wm G hr hb hd hdp hx S g1 r1 n1 d1 w1 q I1 rv (by rw[<- r1.length];exact hn env xs e1)
def iB(X:Cx)(T:Tb)(k:Nat)(mn:Str)(ps:List Str)(ds:List Value)(disp:Nat->Option (List PV->Res PV)):Prop :=
 ∀c m,c < T.nc->disp c=some m->∃f fd,wb X.K (T.cls c) mn f/\cC X.K fd ps ds/\bH X.prog X.w X.K X.mg X.base (CXP X.prog X.w) k f fd ps (spM T ps.length m)
def oN(disp:Nat->Option (List PV->Res PV))(dps:List PV)(o:ME)(ms:MA):ME:=fun env=>(o env).bind fun ov=>match ov with
 | .obj _ c _ _=>match disp c with
  | some m=>(ms env).bind fun xs=>ax m ((ov::xs)++ dps)
  | none=>.stuck
 | _=>.stuck
theorem ip(hm:∀k,T.att k≠mn):∀(ks:List Nat) (vs:List V),((ks.map T.att).zip vs).lookup mn=none
 | [],_ | j::ks,[]=>rfl
 | j::ks,v::vs=>by
  rw[List.map_cons,List.zip_cons_cons,List.lookup_cons,show(mn==T.att j)=false by rw[beq_eq_false_iff_ne];exact(hm j).symm]
  exact ip hm ks vs
theorem vw
  (hK:X.K=T.K) (hc:∀c < T.nc,Cls T.K (T.cls c)) (hm:∀k,T.att k≠mn) (D:iB X T k mn ps ds disp) (e:disp c=some m) (r:Rel T F1 B L H1 (.obj fl c ks xs) v f1) (I1:L2.Inv X pins σ H1 s1) (ru:aW v u)
  (h:∀a f fd,u=.ref a->PySem.W.keepIn X.K (.ref f)=true->cC X.K fd ps ds->bH X.prog X.w X.K X.mg X.base (CXP X.prog X.w) k f fd ps (spM T ps.length m)->Q (.ref f,[.ref a]) s1) :
  wpAny (model X.prog X.w) X.A (getMethod u mn pl) Q X.xe s1:=by
 unfold Rel at r
 obtain⟨a,dx,vs,fp',rfl,hl,hk,hr,_,_⟩:=r
 obtain⟨f,fd,M,hb,G⟩:=D c m hk.2 e
 obtain rfl:u=Value.ref a:=ru
 refine nL I1 hl (by rw[hK];exact hc c hk.2) M (ip hm _ _) (h a f fd rfl M.kp hb G)
theorem uy
  (hK:X.K=T.K) (hc:∀c < T.nc,Cls T.K (T.cls c)) (hm:∀k,T.att k≠mn) (D:iB X T k mn ps ds disp) (hr:cj k X.A) (hd:aI dvs ds) (hdp:∀F B L H,RelL T F B L H dps dvs []) (hx:XF X T W)
  (hn:∀env xs,ms env=.ok xs->xs.length+1+dvs.length=ps.length) (ho:SE X T W o mo) (ha:SA X T W (e::es) ms)
  (hst:starEach (e::es) X.env=(false,eval e X.env)::starEach es X.env:=by rfl) (hpl:(backTo pos (starEach es X.env)).any (·.1)=false:=by rfl)
  (ht:eval (.Call (.Attribute o mn apos) (e::es) [] pos) X.env=(do
   let ov <- eval o X.env
   standAt apos.atName
   let(f,first) <- holding [ov] (getMethod ov mn pl)
   callWith pos f first (backTo pos (starEach (e::es) X.env)) (backToKw pos (keywordEach [] X.env))):=by rfl) :
  SE X T W (.Call (.Attribute o mn apos) (e::es) [] pos) (oN disp dps mo ms):=by
 intro pins s σ H Q I h
 obtain⟨Z,F,env,fp,S,q⟩:=h
 unfold oN at q
 refine PySem.W.methodCall_KW (pl:=pl) (thn (ho pins s σ H (fun v H1=>∃ ov F1 f1,mo env=.ok ov/\Gr F H F1 H1/\Rel T F1 Z.B (Own fp) H1 ov v f1/\(∀ a ∈ f1,¬ F1 a)/\f1.Nodup/\∀ a ∈ f1,H a=none) I
  (tE.bind S (fun c e=>by rw[e]at q;exact q) (fun e=>by rw[e]at q;exact q) fun ov v H1 F1 f1 e1 g1 r1 n1 d1 w1=>⟨ov,F1,f1,e1,g1,r1,n1,d1,w1⟩)) fun u s1 ⟨v,H1,I1,ru,ov,F1,f1,e1,g1,r1,n1,d1,w1⟩=>?_) ht
 rw[e1]at q
 simp only[Res.ok_bind]at q
 by_cases hobj:∃fl c ks xs m,ov=.obj fl c ks xs/\disp c=some m
 ·obtain⟨fl,c,ks,ys,m,rfl,em⟩:=hobj
  dsimp only at q
  rw[em]at q
  dsimp only at q
  refine vw hK hc hm D em r1 I1 ru fun a f fd eu hkp hb G=>?_
  subst eu
  refine PySem.W.callWith_K (first:=[.ref a]) (h₀:=X.base) I.ok.mod.kin hkp (thn (ha pos pins s1 σ H1 (fun vs H2=>∀ us s2,L2.Inv X pins σ H2 s2->aI vs us->wpAny (model X.prog X.w) X.A (call (.ref f) (.ref a::us)) (EP X pins σ Q) X.xe s2) I1
   (tA.bind (S.grow g1) (fun c e=>by rw[e]at q;exact fun H' x=>q H' (g1.ext.trans x)) (fun e=>by rw[e]at q;exact q) fun xs vs H2 F2 f2 e2 g2 r2 n2 d2 w2 us s2 I2 rv=>?_)) fun us s2 ⟨vs,H2,I2,r,q2⟩=>⟨I2.kIn,q2 us s2 I2 r⟩) hst hpl
  rw[e2]at q
  simp only[Res.ok_bind]at q
  have nn:∀b∈f1,¬F2 b:=fun b hb z=>by
   rcases g2.only b z with z | z
   ·exact n1 b hb z
   ·obtain⟨oo,hoo⟩:=r1.there b hb
    rw[hoo]at z;cases z
  refine wm (xs:=.obj fl c ks ys::xs) (vs:=v::vs) (us:=.ref a::us) (fx:=f1++f2) G hr hb hd hdp hx S (g1.trans g2) (by unfold RelL;exact⟨v,vs,f1,f2,rfl,r1.ext g2.ext g2.mono,r2,rfl⟩) (fun b hb=>?_) ?_ (fun b hb=>?_) q I2 (.cons ru rv) ?_
  ·rcases List.mem_append.mp hb with hb | hb
   ·exact nn b hb
   ·exact n2 b hb
  ·refine List.nodup_append.mpr ⟨d1,d2,fun b hb c hc z=>?_⟩
   subst z
   obtain⟨oo,hoo⟩:=r1.there b hb
   rw[w2 b hc]at hoo;cases hoo
  ·rcases List.mem_append.mp hb with hb | hb
   ·exact w1 b hb
   ·exact g1.ext.free (w2 b hb)
  ·have:=hn env xs e2
   rw[List.length_cons,<- r2.length]
   exact this
 ·exfalso
  cases ov with
  | obj fl c ks ys =>
   cases em:disp c with
   | none=>simp only[em]at q;exact q
   | some m=>exact hobj ⟨fl,c,ks,ys,m,rfl,em⟩
  | _=>exact q
end
def dB(ms:MA)(n:Nat):Prop:=∀env xs,ms env=.ok xs->xs.length=n
theorem aq:dB aj 0:=fun _ _ h=>by cases h;rfl
theorem ae(h:dB ms n):dB (aa m ms) (n+1):=fun env xs e=>by
 unfold aa at e
 cases e1:m env with
 | ok x =>
  rw[e1]at e
  simp only[Res.ok_bind]at e
  cases e2:ms env with
  | ok ys =>
   rw[e2]at e
   simp only[Res.ok_bind]at e
   cases e
   rw[List.length_cons,h env ys e2]
  | exc c | stuck=>rw[e2]at e;cases e
 | exc c | stuck=>rw[e1]at e;cases e
def bA:PV->Option (List PV)
 | .lst _ xs | .tup xs=>some xs
 | _=>none
section
variable{X:Cx}{T:Tb}{W:Nat->St->Hp->Prop}{Z:Zn}{F F1 B L:Addr->Prop}{H H1:Hp}{σ:St}{env:En}{fp:Nat->List Addr}{D:Ends}
theorem Rel.seq(r:Rel T F B L H x v fx)(e:bA x=some xs):∃a vs fx',v=.ref a/\(SqL T.K H a vs\/SqT T.K H a vs)/\RelL T F B L H xs vs fx'/\fx'.Sublist fx:=by
 cases x with
 | lst f ys =>
  cases e
  unfold Rel at r
  obtain⟨a,vs,fp',rfl,hl,hr,hf⟩:=r
  refine⟨a,vs,fp',rfl,.inl hl.sq,hr,?_⟩
  cases f with
  | own=>obtain rfl:fx=a::fp':=hf;exact List.sublist_cons_self _ _
  | frz | bor | lnt | mod=>obtain⟨rfl,rfl⟩:=hf;exact List.Sublist.refl _
 | tup ys =>
  cases e
  unfold Rel at r
  obtain⟨a,vs,rfl,hl,hr⟩:=r
  exact⟨a,vs,fx,rfl,.inr hl,hr,List.Sublist.refl _⟩
 | _=>cases e
theorem GE.newL(q:GE T W B F L σ H Q (.ok (.lst .own ys)))(g:Gr F H F1 H1)(r:RelL T F1 B L H1 ys vs fx)(nf:∀a∈fx,¬F1 a)(nd:fx.Nodup)(new:∀a∈fx,H a=none) :
  ∀p,H1 p=none->Q (.ref p) (upd H1 p (.lst vs)):=fun p hp=>by
 refine q (.ref p) (upd H1 p (.lst vs)) F1 (p::fx) (g.trans (Gr.same g.dom (Ext.upd hp))) ?_ (fun a ha=>?_) ?_ (fun a ha=>?_)
 ·unfold Rel
  exact⟨p,vs,fx,rfl,aX,r.ext (Ext.upd hp) fun _ h=>h,rfl⟩
 ·rcases List.mem_cons.mp ha with rfl | ha
  ·intro z
   obtain⟨o,ho⟩:=g.dom _ z
   rw[hp]at ho;cases ho
  ·exact nf a ha
 ·refine List.nodup_cons.mpr ⟨fun z=>?_,nd⟩
  obtain⟨o,ho⟩:=r.there p z
  rw[hp]at ho;cases ho
 ·rcases List.mem_cons.mp ha with rfl | ha
  ·exact g.ext.free hp
  ·exact new a ha
theorem GE.newT(q:GE T W B F L σ H Q (.ok (.tup ys)))(g:Gr F H F1 H1)(r:RelL T F1 B L H1 ys vs fx)(nf:∀a∈fx,¬F1 a)(nd:fx.Nodup)(new:∀a∈fx,H a=none) :
  ∀p,H1 p=none->Q (.ref p) (upd H1 p (.tup vs)):=fun p hp=>by
 refine q (.ref p) (upd H1 p (.tup vs)) F1 fx (g.trans (Gr.same g.dom (Ext.upd hp))) ?_ nf nd new
 unfold Rel
 exact⟨p,vs,rfl,SqT.of aX,r.ext (Ext.upd hp) fun _ h=>h⟩
theorem qO(h:n<=1000):n<=sizeLine:=by rw[sizeLine_eq];omega
def aZ(ms:MA):ME:=fun env=>(ms env).bind fun xs=>.ok (.lst .own xs)
def ba(ms:MA):ME:=fun env=>(ms env).bind fun xs=>.ok (.tup xs)
theorem qW(ha:SA X T W es ms)(hn:dB ms n)(hs:n<=1000:=by decide):SE X T W (.List es pos) (aZ ms):=PE.wk (ya (pos:=pos) ha) fun σ H Q ⟨Z,F,env,fp,S,q⟩=>by
 unfold aZ at q
 refine tA.bind S (fun c e=>by rw[e]at q;exact q) (fun e=>by rw[e]at q;exact q) fun xs vs H1 F1 f1 e1 g1 r1 n1 d1 w1=>?_
 rw[e1]at q
 exact⟨qO (by rw[<- r1.length,hn env xs e1];exact hs),GE.newL q g1 r1 n1 d1 w1⟩
theorem qS{x1}(ha:SA X T W es ms)(hn:dB ms n)(hs:n<=1000:=by decide):SE X T W (.Tuple es x1 pos) (ba ms):=PE.wk (rQ (pos:=pos) ha) fun σ H Q ⟨Z,F,env,fp,S,q⟩=>by
 unfold ba at q
 refine tA.bind S (fun c e=>by rw[e]at q;exact q) (fun e=>by rw[e]at q;exact q) fun xs vs H1 F1 f1 e1 g1 r1 n1 d1 w1=>?_
 rw[e1]at q
 exact⟨qO (by rw[<- r1.length,hn env xs e1];exact hs),GE.newT q g1 r1 n1 d1 w1⟩
def p1(f:PV->Res PV):List PV->Res PV
 | [x]=>f x
 | _=>.stuck
theorem RelL.one(r:RelL T F B L H [x] vs f):∃v,vs=[v]/\Rel T F B L H x v f:=by
 unfold RelL at r
 obtain⟨v,ws,f1,f2,rfl,h1,h2,rfl⟩:=r
 unfold RelL at h2
 obtain⟨rfl,rfl⟩:=h2
 exact⟨v,rfl,by rwa [List.append_nil]⟩
def ck:PV->Res PV:=fun x=>match bA x with
 | some xs=>.ok (.int xs.length)
 | none=>.stuck
theorem vp(hK:X.K=T.K):Mir T W (p1 ck) (fun xs H Q=>∃p ys,xs=[.ref p]/\(SqL X.K H p ys\/SqT X.K H p ys)/\Q (.int ys.length) H):=by
 intro B F L σ H Q F' H' xs vs fx g r _ _ _ q
 match xs,r,q with
 | [x],r,q =>
  obtain⟨v,rfl,r1⟩:=r.one
  simp only[p1,ck]at q
  cases e:bA x with
  | none=>rw[e]at q;exact q.elim
  | some ys =>
   rw[e]at q
   obtain⟨a,ws,fx',rfl,hs,hr,_⟩:=r1.seq e
   exact⟨a,ws,rfl,by rw[hK];exact hs,q.scal g (by rw[<- hr.length];exact cX)⟩
 | [],_,q | _::_::_,_,q=>exact q.elim
theorem bh(hK:X.K=T.K)(hg:Gl X "len")(hm:X.mg "len" = none)(ha:SE X T W e m)(he:starEach [e] X.env=[(false,eval e X.env)]:=by rfl):SE X T W (.Call (.Name "len" p) [e] [] pos) (ao (p1 ck) (aa m aj)) :=
 dg k7 (vp hK) hg hm PySem.boot_len (ac ha ag he) (he:=he)
def j3:PV->Res PV:=fun x=>match bA x with
 | some xs=>.ok (.lst .own xs)
 | none=>.stuck
theorem sA(hK:X.K=T.K):Mir T W (p1 j3) (fun xs H Q=>∃p ys,xs=[.ref p]/\(SqL X.K H p ys\/SqT X.K H p ys)/\∀l,H l=none->Q (.ref l) (upd H l (.lst ys))):=by
 intro B F L σ H Q F' H' xs vs fx g r nf nd new q
 match xs,r,q with
 | [x],r,q =>
  obtain⟨v,rfl,r1⟩:=r.one
  simp only[p1,j3]at q
  cases e:bA x with
  | none=>rw[e]at q;exact q.elim
  | some ys =>
   rw[e]at q
   obtain⟨a,ws,fx',rfl,hs,hr,sl⟩:=r1.seq e
   exact⟨a,ws,rfl,by rw[hK];exact hs,GE.newL q g hr (fun b hb=>nf b (sl.subset hb)) (nd.sublist sl) (fun b hb=>new b (sl.subset hb))⟩
 | [],_,q | _::_::_,_,q=>exact q.elim
theorem oq(hK:X.K=T.K)(hg:Gl X "list")(hm:X.mg "list" = none)(hv:bootBuiltins "list" = some (.type "list"))(ha:SE X T W e m)(he:starEach [e] X.env=[(false,eval e X.env)]:=by rfl):SE X T W (.Call (.Name "list" p) [e] [] pos) (ao (p1 j3) (aa m aj)) :=
 c_ kZ (sA hK) hg hm hv (ac ha ag he) (he:=he)
def dq:PV->Res PV:=fun x=>match bA x with
 | some xs=>.ok (.tup xs)
 | none=>.stuck
theorem pY(hK:X.K=T.K):Mir T W (p1 dq) (fun xs H Q=>∃p ys,xs=[.ref p]/\((SqL X.K H p ys/\∀l,H l=none->Q (.ref l) (upd H l (.tup ys)))\/(SqT X.K H p ys/\Q (.ref p) H))):=by
 intro B F L σ H Q F' H' xs vs fx g r nf nd new q
 match xs,r,q with
 | [x],r,q =>
  obtain⟨v,rfl,r1⟩:=r.one
  simp only[p1,dq]at q
  cases x with
  | lst f ys =>
   simp only[bA]at q
   unfold Rel at r1
   obtain⟨a,ws,fp',rfl,hl,hr,hf⟩:=r1
   have sl:fp'.Sublist fx:=by
    cases f with
    | own=>obtain rfl:fx=a::fp':=hf;exact List.sublist_cons_self _ _
    | frz | bor | lnt | mod=>obtain⟨rfl,rfl⟩:=hf;exact List.Sublist.refl _
   exact⟨a,ws,rfl,.inl ⟨by rw[hK];exact hl.sq,GE.newT q g hr (fun b hb=>nf b (sl.subset hb)) (nd.sublist sl) (fun b hb=>new b (sl.subset hb))⟩⟩
  | tup ys =>
   simp only[bA]at q
   have r2:=r1
   unfold Rel at r2
   obtain⟨a,ws,rfl,hs,hr⟩:=r2
   exact⟨a,ws,rfl,.inr ⟨by rw[hK];exact hs,q _ _ _ fx g r1 nf nd new⟩⟩
  | _=>exact q.elim
 | [],_,q | _::_::_,_,q=>exact q.elim
theorem cK(hK:X.K=T.K)(hg:Gl X "tuple")(hm:X.mg "tuple" = none)(hv:bootBuiltins "tuple" = some (.type "tuple"))(ha:SE X T W e m)(he:starEach [e] X.env=[(false,eval e X.env)]:=by rfl):SE X T W (.Call (.Name "tuple" p) [e] [] pos) (ao (p1 dq) (aa m aj)) :=
 c_ jI (pY hK) hg hm hv (ac ha ag he) (he:=he)
def az:PV->PV->Res PV
 | x,.int i=>match bA x with
  | some xs=>match atI xs i with
   | some y=>if x.has Fl.isOwn&&y.has Fl.isOwn then .stuck else .ok y
   | none=>.stuck
  | none=>.stuck
 | _,_=>.stuck
theorem v9(r:RelL T F B L H xs vs f)(e:atI xs i=some y):∃v f',atI vs i=some v/\Rel T F B L H y v f'/\f'.Sublist f:=by
 unfold atI at e ⊢
 rw[<- r.length]
 cases e1:ixN xs.length i with
 | none=>rw[e1]at e;cases e
 | some j =>
  rw[e1]at e
  exact r.get e
theorem vt(hK:X.K=T.K):gJ T W az (fun x y H Q=>xL X.K x y H Q \/(xJ X.K x y H Q\/xK x y H Q)):=by
 intro B F L σ H Q F' H' x y v u fx fy g rx ry nf nd new q
 cases y with
 | int i =>
  unfold Rel at ry
  obtain⟨rfl,rfl⟩:=ry
  simp only[az]at q
  cases e:bA x with
  | none=>rw[e]at q;exact q.elim
  | some xs =>
   rw[e]at q
   dsimp only at q
   obtain⟨a,ws,fx',rfl,hs,hr,sl⟩:=rx.seq e
   cases e2:atI xs i with
   | none=>rw[e2]at q;exact q.elim
   | some z =>
    rw[e2]at q
    dsimp only at q
    obtain⟨w,f',h1,h2,h3⟩:=v9 hr e2
    have e0:f'=[]:=by
     by_cases ho:x.has Fl.isOwn=true
     ·by_cases hz:z.has Fl.isOwn=true
      ·rw[ho,hz]at q;exact q.elim
      ·exact Rel.noOwn (by simpa using hz) h2
     ·have:=Rel.noOwn (by simpa using ho) rx
      subst this
      exact List.sublist_nil.mp (h3.trans sl)
    subst e0
    by_cases hb:(x.has Fl.isOwn&&z.has Fl.isOwn)=true
    ·rw[if_pos hb]at q;exact q.elim
    ·rw[if_neg hb]at q
     rcases hs with hs | hs
     ·exact .inl ⟨a,ws,i,w,rfl,rfl,by rw[hK];exact hs,h1,q.scal g h2⟩
     ·exact .inr (.inl ⟨a,ws,i,w,rfl,rfl,by rw[hK];exact hs,h1,q.scal g h2⟩)
 | _=>exact q.elim
theorem xB(hK:X.K=T.K)(ha:SE X T W a ma)(hb:SE X T W b mb)(hs:gI b):SE X T W (.Subscript a b pos) (mOp az ma mb) :=
 AA y8 (vt hK) ha hb hs
abbrev MO:=En->Res (Option Int)
def bS:MO:=fun _=>.ok none
def cV(m:ME):MO:=fun env=>(m env).bind fun
 | .int i=>.ok (some i)
 | _=>.stuck
def iz(xs:List PV)(lo hi:Option Int):List PV:=(xs.drop (HT.sIx xs.length 0 lo)).take (HT.sIx xs.length xs.length hi - HT.sIx xs.length 0 lo)
def cq(o:ME)(lo hi:MO):ME:=fun env=>(o env).bind fun x=>(lo env).bind fun l=>(hi env).bind fun h=>match x with
 | .lst _ xs=>.ok (.lst .own (iz xs l h))
 | _=>.stuck
theorem RelL.drop:∀{xs:List PV}{vs:List V}{f:List Addr} (n:Nat),RelL T F B L H xs vs f->∃f',RelL T F B L H (xs.drop n) (vs.drop n) f'/\f'.Sublist f
 | xs,vs,f,0,h=>⟨f,h,List.Sublist.refl _⟩
 | [],vs,f,n+1,h=>by unfold RelL at h;obtain⟨rfl,rfl⟩:=h;exact⟨[],by simp[RelL],List.Sublist.refl _⟩
 | x::xs,_,_,n+1,h=>by
  unfold RelL at h
  obtain⟨v,ws,f1,f2,rfl,h1,h2,rfl⟩:=h
  obtain⟨f',r,s⟩:=RelL.drop n h2
  exact⟨f',by simpa using r,s.trans (List.sublist_append_right _ _)⟩
theorem RelL.take:∀{xs:List PV}{vs:List V}{f:List Addr} (n:Nat),RelL T F B L H xs vs f->∃f',RelL T F B L H (xs.take n) (vs.take n) f'/\f'.Sublist f
 | xs,vs,f,0,h=>⟨[],by simp[RelL],List.nil_sublist _⟩
 | [],vs,f,n+1,h=>by unfold RelL at h;obtain⟨rfl,rfl⟩:=h;exact⟨[],by simp[RelL],List.Sublist.refl _⟩
 | x::xs,_,_,n+1,h=>by
  unfold RelL at h
  obtain⟨v,ws,f1,f2,rfl,h1,h2,rfl⟩:=h
  obtain⟨f',r,s⟩:=RelL.take n h2
  refine⟨f1++f',?_,List.Sublist.append (List.Sublist.refl _) s⟩
  rw[List.take_succ_cons,List.take_succ_cons]
  unfold RelL
  exact⟨v,_,f1,f',rfl,h1,r,rfl⟩
def tO(T:Tb)(W:Nat->St->Hp->Prop)(m:MO):TO:=fun σ H Q=>∃Z F env fp,aw T Z F H σ env fp/\match m env with
 | .ok o=>∀H' F',Gr F H F' H'->Q o H'
 | .exc c=>∀H',Ext H H'->W c σ H'
 | .stuck=>False
abbrev SO(X:Cx)(T:Tb)(W:Nat->St->Hp->Prop)(e:Option Expr)(m:MO):Prop:=PO X e (tO T W m)
theorem fq:SO X T W none bS:=fun pins s σ H Q I ⟨Z,F,env,fp,S,q⟩=>uT pins s σ H Q I (q H F (Gr.refl S.hp.ft))
theorem dF(h:SE X T W e m):SO X T W (some e) (cV m):=fun pins s σ H Q I ⟨Z,F,env,fp,S,q⟩=>uS h pins s σ H Q I (by
 unfold cV at q
 refine tE.bind S (fun c e=>by rw[e]at q;exact q) (fun e=>by rw[e]at q;exact q) fun x v H1 F1 f1 e1 g1 r1 n1 d1 w1=>?_
 rw[e1]at q
 cases x with
 | int i=>unfold Rel at r1;exact⟨i,r1.1,q H1 F1 g1⟩
 | _=>exact q.elim)
theorem dR(hK:X.K=T.K)(he:SE X T W e m)(hl:SO X T W lo ml)(hu:SO X T W hi mh):SE X T W (.Subscript e (.Slice lo hi none p2) pos) (cq m ml mh) :=
 PE.wk (lF (pos:=pos) (p2:=p2) um he hl hu) fun σ H Q ⟨Z,F,env,fp,S,q⟩=>by
  unfold cq at q
  refine tE.bind S (fun c e=>by rw[e]at q;exact q) (fun e=>by rw[e]at q;exact q) fun x v H1 F1 f1 e1 g1 r1 n1 d1 w1=>?_
  rw[e1]at q
  simp only[Res.ok_bind]at q
  refine⟨Z,F1,env,fp,S.grow g1,?_⟩
  cases e2:ml env with
  | exc c=>rw[e2]at q;exact fun H' x=>q H' (g1.ext.trans x)
  | stuck=>rw[e2]at q;exact q
  | ok l =>
   rw[e2]at q
   intro H2 F2 g2
   refine⟨Z,F2,env,fp,(S.grow g1).grow g2,?_⟩
   simp only[Res.ok_bind]at q
   cases e3:mh env with
   | exc c=>rw[e3]at q;exact fun H' x=>q H' ((g1.ext.trans g2.ext).trans x)
   | stuck=>rw[e3]at q;exact q
   | ok h =>
    rw[e3]at q
    intro H3 F3 g3
    simp only[Res.ok_bind]at q
    cases x with
    | lst f xs =>
     have g:=(g1.trans g2).trans g3
     have r3:=(r1.ext (g2.trans g3).ext (g2.trans g3).mono)
     have nf3:∀a∈f1,¬F3 a:=fun a ha z=>by
      rcases(g2.trans g3).only a z with z | z
      ·exact n1 a ha z
      ·obtain⟨o,ho⟩:=r1.there a ha
       rw[ho]at z;cases z
     unfold Rel at r3
     obtain⟨a,ws,fp',rfl,hll,hr,hf⟩:=r3
     have sl:fp'.Sublist f1:=by
      cases f with
      | own=>obtain rfl:f1=a::fp':=hf;exact List.sublist_cons_self _ _
      | frz | bor | lnt | mod=>obtain⟨rfl,rfl⟩:=hf;exact List.Sublist.refl _
     obtain⟨f4,h4,s4⟩:=RelL.drop (HT.sIx xs.length 0 l) hr
     obtain⟨f5,h5,s5⟩:=RelL.take (HT.sIx xs.length xs.length h - HT.sIx xs.length 0 l) h4
     have sl2:=(s5.trans s4).trans sl
     refine⟨a,ws,rfl,by rw[hK];exact hll.sq,?_⟩
     unfold tD
     rw[<- hr.length]
     exact GE.newL q g h5 (fun b hb=>nf3 b (sl2.subset hb)) (d1.sublist sl2) (fun b hb=>w1 b (sl2.subset hb))
    | _=>exact q.elim
def wp(K:PySem.W.Frag):R2:=fun x y H Q=>∃l b xs zs,x=.ref l/\y=.ref b/\Rd H l (.lst xs)/\Rd H b (.lst zs)/\xs.length+zs.length<=sizeLine/\∀p,H p=none->Q (.ref p) (upd H p (.lst (xs++zs)))
theorem vd:OpR X (binaryOp .Add) (wp K):=by
 intro pins s σ H x y v u Q I rx ry h
 obtain⟨l,b,xs,zs,rfl,rfl,hH,hB,hz,q⟩:=h
 cases rx
 cases ry
 obtain⟨z,its,n,r,e⟩:=hH.ok I.hok
 obtain⟨z2,its2,n2,r2,e2⟩:=hB.ok I.hok
 have hl:=r.length
 have hl2:=r2.length
 refine PySem.P.add_list e e2 ?_ (by rw[List.size_toArray,List.size_toArray];omega)
 have ea:its.toArray++its2.toArray=(its++its2).toArray:=by simp
 rw[ea]
 exact⟨.ref _,_,I.lnew (t':=s.toks) (r.append r2) (by rw[List.length_append];omega),rfl,q _ I.fresh⟩
def aM:PV->PV->Res PV
 | .int i,.int j=>.ok (.int (i+j))
 | .lst f xs,.lst g ys=>if f=.mod\/g=.mod\/¬xs.length+ys.length<=10000000 then .stuck else .ok (.lst .own (xs++ys))
 | _,_=>.stuck
theorem mJ.rd(h:mJ T F B L H f a vs)(n:f≠.mod):Rd H a (.lst vs):=by
 cases f with
 | own=>exact .inl h
 | lnt=>exact .inl h.2
 | frz | bor=>exact h.2
 | mod=>exact absurd rfl n
theorem we.sub(hf:we f a fp' fx):fp'.Sublist fx:=by
 cases f with
 | own=>obtain rfl:fx=a::fp':=hf;exact List.sublist_cons_self _ _
 | frz | bor | lnt | mod=>obtain⟨rfl,rfl⟩:=hf;exact List.Sublist.refl _
theorem sx:gJ T W aM (fun x y H Q=>(rI0 fun i j=>.int (i+j)) x y H Q\/wp T.K x y H Q):=by
 intro B F L σ H Q F' H' x y v u fx fy g rx ry nf nd new q
 cases x with
 | int i =>
  cases y with
  | int j=>unfold Rel at rx ry;exact .inl ⟨i,j,rx.1,ry.1,q.scal g cX⟩
  | _=>exact q.elim
 | lst f xs =>
  cases y with
  | lst f' ys =>
   simp only[aM]at q
   by_cases hc:f=.mod\/f'=.mod\/¬xs.length+ys.length<=10000000
   ·rw[if_pos hc]at q;exact q.elim
   ·rw[if_neg hc]at q
    unfold Rel at rx ry
    obtain⟨a,vs,fp1,rfl,hl1,hr1,hf1⟩:=rx
    obtain⟨b,us,fp2,rfl,hl2,hr2,hf2⟩:=ry
    have sl:=List.Sublist.append hf1.sub hf2.sub
    have h3:xs.length+ys.length<=10000000:=by
     rcases Nat.lt_or_ge 10000000 (xs.length+ys.length)with z | z
     ·exact absurd (.inr (.inr (by omega))) hc
     ·exact z
    refine .inr ⟨a,b,vs,us,rfl,rfl,hl1.rd fun z=>hc (.inl z),hl2.rd fun z=>hc (.inr (.inl z)),by rw[<- hr1.length,<- hr2.length,sizeLine_eq];omega,?_⟩
    exact GE.newL q g (RelL.append hr1 hr2) (fun b hb=>nf b (sl.subset hb)) (nd.sublist sl) (fun b hb=>new b (sl.subset hb))
  | _=>exact q.elim
 | _=>exact q.elim
theorem OpR.or(h:OpR X f r)(h':OpR X f r'):OpR X f (fun x y H Q=>r x y H Q\/r' x y H Q):=by
 intro pins s σ H x y v u Q I rx ry q
 rcases q with q | q
 ·exact h pins s σ H x y v u Q I rx ry q
 ·exact h' pins s σ H x y v u Q I rx ry q
theorem a_(ha:SE X T W a ma)(hb:SE X T W b mb):SE X T W (.BinOp a .Add b pos) (mOp aM ma mb):=lu (OpR.or yp vd) sx ha hb
end
mutual
def PV.data:PV->PyData
 | .non=>.none
 | .bl b=>.bool b
 | .int i=>.int i
 | .str x=>.str x
 | .lst _ xs=>.list (dataL xs)
 | .tup xs=>.tuple (dataL xs)
 | .obj _ _ _ _ | .exc _=>.dict []
def dataL:List PV->List PyData
 | []=>[]
 | x::xs=>x.data::dataL xs
end
def shp(x:PV):Bool:=SeqAt.shaped x.data
section
variable{X:Cx}{T:Tb}{W:Nat->St->Hp->Prop}{Z:Zn}{F F1 B L:Addr->Prop}{H H1:Hp}{σ:St}{env:En}{fp:Nat->List Addr}{D:Ends}{pins:List (Addr×Obj)}{s:Shared}
mutual
theorem Rel.reads(hK:X.K=T.K)(I:L2.Inv X pins σ H s):∀{x:PV}{v:V}{f:List Addr}{u:Value},Rel T F B L H x v f->aW v u->x.data.canLay0=true->∃as,Reads s.heap u x.data as
 | .non,_,_,_,r,ru,_=>by unfold Rel at r;obtain⟨rfl,_⟩:=r;cases ru;exact⟨[],.none⟩
 | .bl b,_,_,_,r,ru,_=>by unfold Rel at r;obtain⟨rfl,_⟩:=r;cases ru;exact⟨[],.bool b⟩
 | .int i,_,_,_,r,ru,_=>by unfold Rel at r;obtain⟨rfl,_⟩:=r;obtain⟨t,rfl⟩:=ru;exact⟨[],.int i t⟩
 | .str x,_,_,_,r,ru,_=>by unfold Rel at r;obtain⟨rfl,_⟩:=r;obtain⟨t,rfl⟩:=ru;exact⟨[],.str x t⟩
 | .lst f xs,_,_,_,r,ru,hc=>by
  unfold Rel at r
  obtain⟨a,vs,fp',rfl,hl,hr,_⟩:=r
  cases ru
  obtain⟨its,rv,⟨o,n,ho,hcl,_,hd⟩,_⟩:=I.list (by rw[hK];exact hl.sq)
  obtain⟨as,ra⟩:=RelL.reads hK I hr rv (by simpa[PV.data,PyData.canLay0]using hc)
  exact⟨_,.list ho hcl hd (by simpa using ra)⟩
 | .tup xs,_,_,_,r,ru,hc=>by
  unfold Rel at r
  obtain⟨a,vs,rfl,hl,hr⟩:=r
  cases ru
  obtain⟨its,rv,⟨o,ho,hcl,n,hd⟩,_⟩:=I.tuple (by rw[hK];exact hl)
  obtain⟨as,ra⟩:=RelL.reads hK I hr rv (by simpa[PV.data,PyData.canLay0]using hc)
  exact⟨_,.tuple ho hcl hd (by simpa using ra)⟩
 | .obj _ _ _ _,_,_,_,_,_,hc | .exc _,_,_,_,_,_,hc=>by simp[PV.data,PyData.canLay0]at hc
theorem RelL.reads(hK:X.K=T.K)(I:L2.Inv X pins σ H s):∀{xs:List PV}{vs:List V}{f:List Addr}{us:List Value},RelL T F B L H xs vs f->aI vs us->PyData.canLayAll0 (dataL xs)=true->∃as,ReadsAll s.heap us (dataL xs) as
 | [],_,_,_,r,ru,_=>by unfold RelL at r;obtain⟨rfl,_⟩:=r;cases ru;exact⟨[],.nil⟩
 | x::xs,_,_,_,r,ru,hc=>by
  unfold RelL at r
  obtain⟨v,ws,f1,f2,rfl,h1,h2,_⟩:=r
  cases ru with
  | cons r1 r2 =>
   simp only[dataL,PyData.canLayAll0,Bool.and_eq_true]at hc
   obtain⟨as,ra⟩:=Rel.reads hK I h1 r1 hc.1
   obtain⟨bs,rb⟩:=RelL.reads hK I h2 r2 hc.2
   exact⟨_,.cons ra rb⟩
end
def pEq:PV->PV->Res PV:=fun x y=>if shp x&&shp y then .ok (.bl (PyData.eqv x.data y.data))else .stuck
def pNe:PV->PV->Res PV:=fun x y=>if shp x&&shp y then .ok (.bl (!PyData.eqv x.data y.data))else .stuck
def rD(X:Cx)(T:Tb)(g:PyData->PyData->Bool):R2:=fun v u H Q=>∃x y F B L fx fy,Rel T F B L H x v fx/\Rel T F B L H y u fy/\shp x=true/\shp y=true/\Q (.bl (g x.data y.data)) H
theorem rY(hK:X.K=T.K)(hu:X.A.units+64 < cLine):OpR X (compareOp .Eq) (rD X T fun a b=>PyData.eqv a b):=by
 intro pins s σ H v u v' u' Q I rv ru h
 obtain⟨x,y,F,B,L,fx,fy,rx,ry,hx,hy,q⟩:=h
 obtain⟨as,ra⟩:=rx.reads hK I rv (SeqAt.canLay_of_shaped hx)
 obtain⟨bs,rb⟩:=ry.reads hK I ru (SeqAt.canLay_of_shaped hy)
 exact PyProof.Rows.eq_dataH ra rb hx hy hu ⟨.bl _,H,I,rfl,q⟩
theorem rX(hK:X.K=T.K)(hu:X.A.units+64 < cLine):OpR X (compareOp .NotEq) (rD X T fun a b=>!PyData.eqv a b):=by
 intro pins s σ H v u v' u' Q I rv ru h
 obtain⟨x,y,F,B,L,fx,fy,rx,ry,hx,hy,q⟩:=h
 obtain⟨as,ra⟩:=rx.reads hK I rv (SeqAt.canLay_of_shaped hx)
 obtain⟨bs,rb⟩:=ry.reads hK I ru (SeqAt.canLay_of_shaped hy)
 exact PyProof.Rows.ne_dataH ra rb hx hy hu ⟨.bl _,H,I,rfl,q⟩
theorem gu:gJ T W (fun x y=>if shp x&&shp y then .ok (.bl (g x.data y.data))else .stuck) (rD X T g):=by
 intro B F L σ H Q F' H' x y v u fx fy gr rx ry nf nd new q
 dsimp only at q
 by_cases hc:(shp x&&shp y)=true
 ·rw[if_pos hc]at q
  rw[Bool.and_eq_true]at hc
  exact⟨x,y,F',B,L,fx,fy,rx,ry,hc.1,hc.2,q.scal gr eV⟩
 ·rw[if_neg hc]at q;exact q.elim
variable{a b:Expr}{ma mb:ME}{pos:Pos}
theorem lv(hK:X.K=T.K)(hu:X.A.units+64 < cLine)(ha:SE X T W a ma)(hb:SE X T W b mb):SE X T W (.Compare a [.Eq] [b] pos) (mOp pEq ma mb):=iU (rY hK hu) gu ha hb (cP _)
theorem wl(hK:X.K=T.K)(hu:X.A.units+64 < cLine)(ha:SE X T W a ma)(hb:SE X T W b mb):SE X T W (.Compare a [.NotEq] [b] pos) (mOp pNe ma mb):=iU (rX hK hu) (gu (g:=fun a b=>!PyData.eqv a b)) ha hb (cP _)
theorem br(hK:X.K=T.K)(hu:X.A.units+64 < cLine)(ha:SE X T W a ma)(hb:SE X T W b mb):ST X T W (.Compare a [.Eq] [b] pos) (ar (mOp pEq ma mb)):=dN (rY hK hu) gu ha hb (cP _)
theorem cJ(hK:X.K=T.K)(hu:X.A.units+64 < cLine)(ha:SE X T W a ma)(hb:SE X T W b mb):ST X T W (.Compare a [.NotEq] [b] pos) (ar (mOp pNe ma mb)):=dN (rX hK hu) (gu (g:=fun a b=>!PyData.eqv a b)) ha hb (cP _)
theorem db(ha:SE X T W a ma)(hb:SE X T W b mb):ST X T W (.Compare a [.Lt] [b] pos) (ar (mOp pLt ma mb)):=dN AS (fR fun _ _ _ _ _ _=>eV) ha hb (cP _)
theorem Aw(ha:SE X T W a ma)(hb:SE X T W b mb):ST X T W (.Compare a [.LtE] [b] pos) (ar (mOp pLe ma mb)):=dN wt (fR fun _ _ _ _ _ _=>eV) ha hb (cP _)
theorem eG(ha:SE X T W a ma)(hb:SE X T W b mb):ST X T W (.Compare a [.Gt] [b] pos) (ar (mOp pGt ma mb)):=dN wu (fR fun _ _ _ _ _ _=>eV) ha hb (cP _)
theorem iN(ha:SE X T W a ma)(hb:SE X T W b mb):ST X T W (.Compare a [.GtE] [b] pos) (ar (mOp pGe ma mb)):=dN AT (fR fun _ _ _ _ _ _=>eV) ha hb (cP _)
def inL(x:PV)(ys:List PV):Bool:=ys.any fun y=>PyData.eqv y.data x.data
def pIn:PV->PV->Res PV:=fun x y=>match bA y with
 | some ys=>if shp x&&ys.all shp then .ok (.bl (inL x ys))else .stuck
 | none=>.stuck
def du:PV->PV->Res PV:=fun x y=>match bA y with
 | some ys=>if shp x&&ys.all shp then .ok (.bl (!inL x ys))else .stuck
 | none=>.stuck
theorem jv(hK:X.K=T.K)(I:L2.Inv X pins σ H s)(hu:A.units+64 < cLine)(rx:Rel T F B L H x v fx)(ry:Rel T F B L H y u fy)(rv:aW v v')(ru:aW u u')(hx:shp x=true)(hy:shp y=true) :
  SeqAt.EqAt A s v' u' (PyData.eqv x.data y.data):=by
 obtain⟨as,ra⟩:=rx.reads hK I rv (SeqAt.canLay_of_shaped hx)
 obtain⟨bs,rb⟩:=ry.reads hK I ru (SeqAt.canLay_of_shaped hy)
 exact SeqAt.eqAt_reads _ _ A s v' u' as bs ra rb (SeqAt.canLay_of_shaped hx) (SeqAt.canLay_of_shaped hy) (SeqAt.room_of_shaped hx hu)
theorem gA(hK:X.K=T.K)(I:L2.Inv X pins σ H s)(hu:A.units+64 < cLine)(rx:Rel T F B L H x v fx)(rv:aW v v')(hx:shp x=true) :
  ∀{ys:List PV}{us:List V}{fy:List Addr}{us':List Value},RelL T F B L H ys us fy->aI us us'->ys.all shp=true->∃e:Value->Bool,(∀w∈us',SeqAt.EqAt A s w v' (e w))/\us'.any e=inL x ys:=by
 intro ys us fy us' r rv' hs
 have one:∀(ys:List PV) (us:List V) (fy:List Addr) (us':List Value),RelL T F B L H ys us fy->aI us us'->ys.all shp=true->∀w∈us',∃b,SeqAt.EqAt A s w v' b/\(b=true->inL x ys=true):=by
  intro ys
  induction ys with
  | nil =>
   intro us fy us' r rv' _ w hw
   unfold RelL at r
   obtain⟨rfl,_⟩:=r
   cases rv'
   cases hw
  | cons y ys ih =>
   intro us fy us' r rv' hs w hw
   unfold RelL at r
   obtain⟨u,ws,f1,f2,rfl,h1,h2,_⟩:=r
   cases rv' with
   | cons r1 r2 =>
    rw[List.all_cons,Bool.and_eq_true]at hs
    rcases List.mem_cons.mp hw with rfl | hw
    ·exact⟨_,jv hK I hu h1 rx r1 rv hs.1 hx,fun z=>by simp[inL,z]⟩
    ·obtain⟨b,h3,h4⟩:=ih ws f2 _ h2 r2 hs.2 w hw
     exact⟨b,h3,fun z=>by have:=h4 z;unfold inL at this ⊢;simp[this]⟩
 have some_:∀(ys:List PV) (us:List V) (fy:List Addr) (us':List Value),RelL T F B L H ys us fy->aI us us'->ys.all shp=true->inL x ys=true->∃w∈us',SeqAt.EqAt A s w v' true:=by
  intro ys
  induction ys with
  | nil=>intro us fy us' r rv' _ h;simp[inL]at h
  | cons y ys ih =>
   intro us fy us' r rv' hs h
   unfold RelL at r
   obtain⟨u,ws,f1,f2,rfl,h1,h2,_⟩:=r
   cases rv' with
   | cons r1 r2 =>
    rw[List.all_cons,Bool.and_eq_true]at hs
    by_cases hy:PyData.eqv y.data x.data=true
    ·refine⟨_,List.mem_cons_self,?_⟩
     have:=jv hK I hu h1 rx r1 rv hs.1 hx
     rwa [hy]at this
    ·have h':inL x ys=true:=by
      unfold inL at h ⊢
      rw[List.any_cons]at h
      simpa[hy]using h
     obtain⟨w,hw,q⟩:=ih ws f2 _ h2 r2 hs.2 h'
     exact⟨w,List.mem_cons_of_mem _ hw,q⟩
 by_cases hin:inL x ys=true
 ·obtain⟨w0,hw0,q0⟩:=some_ ys us fy us' r rv' hs hin
  refine⟨fun w=>@decide (SeqAt.EqAt A s w v' true) (Classical.propDecidable _),fun w hw=>?_,?_⟩
  ·obtain⟨b,h1,_⟩:=one ys us fy us' r rv' hs w hw
   by_cases ht:SeqAt.EqAt A s w v' true
   ·simp only[ht,decide_true]
   ·simp only[ht,decide_false]
    cases b with
    | true=>exact absurd h1 ht
    | false=>exact h1
  ·rw[hin,List.any_eq_true]
   exact⟨w0,hw0,by simp[q0]⟩
 ·have hin':inL x ys=false:=by simpa using hin
  refine⟨fun _=>false,fun w hw=>?_,by rw[hin'];simp⟩
  obtain⟨b,h1,h2⟩:=one ys us fy us' r rv' hs w hw
  cases b with
  | true=>exact absurd (h2 rfl) hin
  | false=>exact h1
def xM(X:Cx)(T:Tb)(neg:Bool):R2:=fun v u H Q=>∃x ys a vs F B L fx fy,u=.ref a/\(SqL T.K H a vs\/SqT T.K H a vs)/\Rel T F B L H x v fx/\RelL T F B L H ys vs fy/\shp x=true/\ys.all shp=true/\Q (.bl (if neg then !inL x ys else inL x ys)) H
theorem yo(hK:X.K=T.K)(hu:X.A.units+66 < cLine):OpR X (compareOp .In) (xM X T false):=by
 intro pins s σ H v u v' u' Q I rv ru h
 obtain⟨x,ys,a,vs,F,B,L,fx,fy,rfl,hs,rx,ry,hx,hy,q⟩:=h
 cases ru
 have hu1:X.A.in1.units+64 < cLine:=by show X.A.units+1+64 < cLine;omega
 rcases hs with hs | hs
 ·obtain⟨its,r,pl,_⟩:=I.list (by rw[hK];exact hs)
  obtain⟨e,h1,h2⟩:=gA hK I hu1 rx rv hx ry r hy
  refine SeqAt.in_listAt e pl.isList (fun w hw=>h1 w (by simpa using hw)) ⟨.bl _,H,I,rfl,?_⟩
  rw[show its.toArray.any e=its.any e by simp,h2]
  exact q
 ·obtain⟨its,r,pl,_⟩:=I.tuple (by rw[hK];exact hs)
  obtain⟨e,h1,h2⟩:=gA hK I hu1 rx rv hx ry r hy
  refine SeqAt.in_tupleAt e pl (fun w hw=>h1 w (by simpa using hw)) ⟨.bl _,H,I,rfl,?_⟩
  rw[show its.toArray.any e=its.any e by simp,h2]
  exact q
theorem pT(hK:X.K=T.K)(hu:X.A.units+66 < cLine):OpR X (compareOp .NotIn) (xM X T true):=by
 intro pins s σ H v u v' u' Q I rv ru h
 obtain⟨x,ys,a,vs,F,B,L,fx,fy,rfl,hs,rx,ry,hx,hy,q⟩:=h
 cases ru
 have hu1:X.A.in1.units+64 < cLine:=by show X.A.units+1+64 < cLine;omega
 rcases hs with hs | hs
 ·obtain⟨its,r,pl,_⟩:=I.list (by rw[hK];exact hs)
  obtain⟨e,h1,h2⟩:=gA hK I hu1 rx rv hx ry r hy
  refine SeqAt.notIn_listAt e pl.isList (fun w hw=>h1 w (by simpa using hw)) ⟨.bl _,H,I,rfl,?_⟩
  rw[show its.toArray.any e=its.any e by simp,h2]
  exact q
 ·obtain⟨its,r,pl,_⟩:=I.tuple (by rw[hK];exact hs)
  obtain⟨e,h1,h2⟩:=gA hK I hu1 rx rv hx ry r hy
  refine SeqAt.notIn_tupleAt e pl (fun w hw=>h1 w (by simpa using hw)) ⟨.bl _,H,I,rfl,?_⟩
  rw[show its.toArray.any e=its.any e by simp,h2]
  exact q
theorem sC:gJ T W (fun x y=>match bA y with
 | some ys=>if shp x&&ys.all shp then .ok (.bl (if neg then !inL x ys else inL x ys))else .stuck
 | none=>.stuck) (xM X T neg):=by
 intro B F L σ H Q F' H' x y v u fx fy gr rx ry nf nd new q
 dsimp only at q
 cases e:bA y with
 | none=>rw[e]at q;exact q.elim
 | some ys =>
  rw[e]at q
  dsimp only at q
  by_cases hc:(shp x&&ys.all shp)=true
  ·rw[if_pos hc]at q
   rw[Bool.and_eq_true]at hc
   obtain⟨a,ws,f',rfl,hs,hr,_⟩:=ry.seq e
   exact⟨x,ys,a,ws,F',B,L,fx,f',rfl,hs,rx,hr,hc.1,hc.2,q.scal gr eV⟩
  ·rw[if_neg hc]at q;exact q.elim
theorem og(hK:X.K=T.K)(hu:X.A.units+66 < cLine)(ha:SE X T W a ma)(hb:SE X T W b mb)(hk:behindInMarks .In b=false:=by with_unfolding_all rfl):ST X T W (.Compare a [.In] [b] pos) (ar (mOp pIn ma mb)):=dN (yo hK hu) (sC (neg:=false)) ha hb hk
theorem iM(hK:X.K=T.K)(hu:X.A.units+66 < cLine)(ha:SE X T W a ma)(hb:SE X T W b mb)(hk:behindInMarks .NotIn b=false:=by with_unfolding_all rfl):ST X T W (.Compare a [.NotIn] [b] pos) (ar (mOp du ma mb)):=dN (pT hK hu) (sC (neg:=true)) ha hb hk
def PV.isNon:PV->Bool
 | .non=>true
 | _=>false
def pR:PV->PV->Res PV
 | x,.non=>.ok (.bl x.isNon)
 | _,_=>.stuck
def j2:PV->PV->Res PV
 | x,.non=>.ok (.bl (!x.isNon))
 | _,_=>.stuck
theorem Rel.isNon(r:Rel T F B L H x v f):decide (v=.non)=x.isNon:=by
 cases x with
 | non | bl b | int i | str i=>unfold Rel at r;rw[r.1];rfl
 | lst f xs=>unfold Rel at r;obtain⟨a,_,_,rfl,_⟩:=r;rfl
 | tup xs=>unfold Rel at r;obtain⟨a,_,rfl,_⟩:=r;rfl
 | obj f c ks xs=>unfold Rel at r;obtain⟨a,_,_,_,rfl,_⟩:=r;rfl
 | exc c=>unfold Rel at r;obtain⟨a,rfl,_⟩:=r;rfl
theorem vq:gJ T W pR (fun x y H Q=>y=.non/\Q (.bl (decide (x=.non))) H):=by
 intro B F L σ H Q F' H' x y v u fx fy gr rx ry nf nd new q
 cases y with
 | non=>unfold Rel at ry;refine⟨ry.1,?_⟩;rw[rx.isNon];exact GE.scal (pv:=.bl x.isNon) (by simpa[pR]using q) gr eV
 | _=>simp only[pR]at q;exact q.elim
theorem sy:gJ T W j2 (fun x y H Q=>y=.non/\Q (.bl (!decide (x=.non))) H):=by
 intro B F L σ H Q F' H' x y v u fx fy gr rx ry nf nd new q
 cases y with
 | non=>unfold Rel at ry;refine⟨ry.1,?_⟩;rw[rx.isNon];exact GE.scal (pv:=.bl (!x.isNon)) (by simpa[j2]using q) gr eV
 | _=>simp only[j2]at q;exact q.elim
theorem qE(ha:SE X T W a ma)(hb:SE X T W b mb):ST X T W (.Compare a [.Is] [b] pos) (ar (mOp pR ma mb)):=dN yk vq ha hb (cP _)
theorem n_(ha:SE X T W a ma)(hb:SE X T W b mb):ST X T W (.Compare a [.IsNot] [b] pos) (ar (mOp j2 ma mb)):=dN va sy ha hb (cP _)
end
abbrev TgM:=PV->En->Option En
abbrev nW:=List PV->En->Option En
def tgN(i:Nat):TgM:=fun v env=>if bO i env then some (env.set i (some v))else none
def qA:nW:=fun vs env=>match vs with
 | []=>some env
 | _=>none
def fH(t:TgM)(u:nW):nW:=fun vs env=>match vs with
 | v::r=>match t v env with
  | some e=>u r e
  | none=>none
 | []=>none
def tgT(n:Nat)(u:nW):TgM:=fun v env=>match v with
 | .tup xs=>if xs.length=n then u xs env else none
 | _=>none
structure nY(Z:Zn)(F:Addr->Prop)(fp:Nat->List Addr)(f:List Addr):Prop where
 nd:f.Nodup
 nf:∀a∈f,¬F a
 new:∀a∈f,Z.H0 a=none\/Z.fp0 a
 dj:∀a∈f,∀j,a∉fp j
theorem nY.nil:nY Z F fp []:=⟨List.nodup_nil,fun _ z=>(nomatch z),fun _ z=>(nomatch z),fun _ z=>(nomatch z)⟩
def GG(T:Tb)(Z:Zn)(F:Addr->Prop)(H:Hp)(Q:St->Hp->Prop):Option En->Prop
 | some e=>∀σ fp,aw T Z F H σ e fp->Q σ H
 | none=>False
def tG(T:Tb)(m:TgM):TG:=fun v σ H Q=>∃Z F env fp pv f,aw T Z F H σ env fp/\Rel T F Z.B NoL H pv v f/\nY Z F fp f/\GG T Z F H Q (m pv env)
def tGs(T:Tb)(m:nW):TGs:=fun vs σ H Q=>∃Z F env fp pvs f,aw T Z F H σ env fp/\RelL T F Z.B NoL H pvs vs f/\nY Z F fp f/\GG T Z F H Q (m pvs env)
abbrev SG(X:Cx)(T:Tb)(tg:Expr)(m:TgM):Prop:=PG X tg (tG T m)
abbrev SGs(X:Cx)(T:Tb)(ts:List Expr)(m:nW):Prop:=PGs X ts (tGs T m)
section
variable{X:Cx}{T:Tb}{W:Nat->St->Hp->Prop}{Z:Zn}{F F1 B L:Addr->Prop}{H H1:Hp}{σ:St}{env:En}{fp:Nat->List Addr}{D:Ends}
theorem PG.wk(h:PG X tg t)(w:∀v σ H Q,t' v σ H Q->t v σ H Q):PG X tg t':=fun pins s σ H v u Q I r q=>h pins s σ H v u Q I r (w v σ H Q q)
theorem PGs.wk(h:PGs X ts t)(w:∀v σ H Q,t' v σ H Q->t v σ H Q):PGs X ts t':=fun pins s σ H v u Q I r q=>h pins s σ H v u Q I r (w v σ H Q q)
theorem uq(hN:X.N.Nodup)(hi:X.N[i]?=some x)(hx:Loc X.env.scope x)(hf:X.fn x=true\/X.env.scope.names.lookup x=some .local:=by first | exact .inl rfl | exact .inr rfl | assumption):SG X T (.Name x pos) (tgN i) :=
 PG.wk (oI (pos:=pos) hN hi hx hf) fun v σ H Q ⟨Z,F,env,fp,pv,f,S,r,fr,q⟩=>by
  unfold tgN at q
  by_cases ho:bO i env=true
  ·rw[if_pos ho]at q
   exact q _ _ (S.put r fr.nd fr.nf fr.new (fun a ha j _=>fr.dj a ha j) ho)
  ·rw[if_neg ho]at q;exact q.elim
theorem om:SGs X T [] qA:=PGs.wk uY fun vs σ H Q ⟨Z,F,env,fp,pvs,f,S,r,fr,q⟩=>by
 cases pvs with
 | nil=>unfold RelL at r;exact⟨r.1,q σ fp S⟩
 | cons x xs=>exact q.elim
theorem f9(hN:X.N.Nodup)(hi:X.N[i]?=some x)(hx:Loc X.env.scope x)(h2:SGs X T es u)
  (hs:(assignEach (.Name x pos::es) X.env).map (·.2)=assign (.Name x pos) X.env::(assignEach es X.env).map (·.2):=by rfl)
  (hf:X.fn x=true\/X.env.scope.names.lookup x=some .local:=by first | exact .inl rfl | exact .inr rfl | assumption):SGs X T (.Name x pos::es) (fH (tgN i) u) :=
 PGs.wk (rP (oI (pos:=pos) hN hi hx hf) h2 hs) fun vs σ H Q ⟨Z,F,env,fp,pvs,f,S,r,fr,q⟩=>by
  cases pvs with
  | nil=>exact q.elim
  | cons y ys =>
   unfold RelL at r
   obtain⟨v,ws,f1,f2,rfl,r1,r2,rfl⟩:=r
   obtain⟨n1,n2,n3⟩:=List.nodup_append.mp fr.nd
   by_cases ho:bO i env=true
   case neg=>simp only[fH,tgN,if_neg ho]at q;exact q.elim
   simp only[fH,tgN,if_pos ho]at q
   refine⟨v,ws,rfl,Z,F,env.set i (some y),bv fp i f1,ys,f2,S.put r1 n1 (fun a ha=>fr.nf a (List.mem_append_left _ ha)) (fun a ha=>fr.new a (List.mem_append_left _ ha)) (fun a ha j _=>fr.dj a (List.mem_append_left _ ha) j) ho,r2,⟨n2,fun a ha=>fr.nf a (List.mem_append_right _ ha),fun a ha=>fr.new a (List.mem_append_right _ ha),fun a ha j=>?_⟩,q⟩
   unfold bv
   split
   ·exact fun z=>n3 a z a ha rfl
   ·exact fr.dj a (List.mem_append_right _ ha) j
theorem qP(hK:X.K=T.K)(hc:X.calm=true)(h:SGs X T es u)(hn:(assignEach es X.env).length=n:=by rfl)(hst:(assignEach es X.env).findIdx? (·.1)=none:=by rfl):SG X T (.Tuple es k pos) (tgT n u) :=
 PG.wk (xY (pos:=pos) (k:=k) hc h hn hst) fun v σ H Q ⟨Z,F,env,fp,pv,f,S,r,fr,q⟩=>by
  cases pv with
  | tup xs =>
   unfold Rel at r
   obtain⟨a,vs,rfl,hl,hr⟩:=r
   simp only[tgT]at q
   by_cases hx:xs.length=n
   ·rw[if_pos hx]at q
    exact⟨a,vs,rfl,by rw[hK];exact hl,by rw[<- hr.length];exact hx,Z,F,env,fp,xs,f,S,hr,fr,q⟩
   ·rw[if_neg hx]at q;exact q.elim
  | _=>exact q.elim
abbrev MI:=En->Res (List PV)
def ItR(T:Tb)(F B:Addr->Prop)(Ow:Addr->Prop)(H1:Hp)(J:It)(xs:List PV):Prop :=
 ∀H2,(∀a o,H1 a=some o->¬Ow a->H2 a=some o)->(∀(i:Nat) x,xs[i]?=some x->J.go i H2/\∀v H3,J.yld i H2 v H3->Ext H2 H3/\Rel T F B NoL H3 x v [])/\J.stop xs.length H2
theorem ItR.of0(h:∀H2,(∀a o,H1 a=some o->¬Ow a->H2 a=some o)->(∀(i:Nat) x,xs[i]?=some x->J.go i H2/\∀v H3,J.yld i H2 v H3->H3=H2/\Rel T F B NoL H2 x v [])/\J.stop xs.length H2):ItR T F B Ow H1 J xs:=fun H2 hk=>by
 obtain⟨a,b⟩:=h H2 hk
 refine⟨fun i x e=>⟨(a i x e).1,fun v H3 hy=>?_⟩,b⟩
 obtain⟨rfl,r⟩:=(a i x e).2 v H3 hy
 exact⟨Ext.refl,r⟩
def GI(T:Tb)(W:Nat->St->Hp->Prop)(B F Ow:Addr->Prop)(σ:St)(H:Hp)(R:It->Hp->Prop):Res (List PV)->Prop
 | .ok xs=>∀J H1 F1,Gr F H F1 H1->ItR T F1 B Ow H1 J xs->R J H1
 | .exc c=>∀H',Ext H H'->W c σ H'
 | .stuck=>False
def tI(T:Tb)(W:Nat->St->Hp->Prop)(m:MI):TI:=fun σ H R=>∃Z F env fp,aw T Z F H σ env fp/\GI T W Z.B F (Own fp) σ H R (m env)
abbrev SI(X:Cx)(T:Tb)(W:Nat->St->Hp->Prop)(tg iter:Expr)(m:MI):Prop:=PI X tg iter (tI T W m)
theorem rO(hl:PE X l tl):PI X tg l (fun σ H R=>tl σ H fun x H1=>∃a,x=.ref a/\((∃xs,SqL X.K H1 a xs/\R (Itl X.K a) H1)\/ ∃xs,SqT X.K H1 a xs/\R (Itt X.K a) H1)):=by
 intro pins s σ H R I h
 refine thn (hl pins s σ H _ I h) fun v s1 ⟨x,H1,I1,r1,q1⟩=>?_
 obtain⟨a,e,q⟩:=q1
 subst e
 cases r1
 rcases q with⟨xs,hq,q⟩ |⟨xs,hq,q⟩
 ·obtain⟨its,rv,p,hz⟩:=I1.list hq
  refine wpAny_pyIter_list p.isList ?_
  refine⟨s1.heap.objs.size,[s1.heap.objs.size],_,_,H1,rfl,I1.kept (t':=s1.toks) fun b o e=>Heap.get?_push_of_some _ e,pp a _,⟨_,Heap.get?_push_size _ rfl,rfl,rfl⟩,fun b hb=>?_,q⟩
  have e:b=s1.heap.objs.size:=by simpa using hb
  subst e
  exact I1.fpOk (Nat.le_refl _) (I1.hok.fresh (Nat.le_refl _))
 ·obtain⟨its,rv,p,hz⟩:=I1.tuple hq
  refine wpAny_pyIter_tuple (show s1.heap.IsTuple a its.toArray from p) ?_
  refine⟨s1.heap.objs.size,[s1.heap.objs.size],_,_,H1,rfl,I1.kept (t':=s1.toks) fun b o e=>Heap.get?_push_of_some _ e,mP a _,⟨_,Heap.get?_push_size _ rfl,rfl,rfl⟩,fun b hb=>?_,q⟩
  have e:b=s1.heap.objs.size:=by simpa using hb
  subst e
  exact I1.fpOk (Nat.le_refl _) (I1.hok.fresh (Nat.le_refl _))
def gq(xs:List PV):Bool:=!hasL Fl.isOwn xs&&!hasL Fl.isLnt xs
def b9(m:ME):MI:=fun env=>(m env).bind fun x=>match x with
 | .lst f xs=>if !f.isLnt&&gq xs then .ok xs else .stuck
 | .tup xs=>if gq xs then .ok xs else .stuck
 | _=>.stuck
theorem fW{H2:Hp}{Ow:Addr->Prop}(hF:∀a,F1 a->¬Ow a)(hB:∀a,B a->¬Ow a)(hO:∀a o,Ow a->H1 a=some o->Chg o)(hk:∀a o,H1 a=some o->¬Ow a->H2 a=some o){xs:List PV}{vs:List V}(r:RelL T F1 B NoL H1 xs vs []){i:Nat}{x:PV}{v:V}(e:xs[i]?=some x)(ev:vs[i]?=some v):Rel T F1 B NoL H2 x v []:=by
 obtain⟨w,f,e1,r1,sl⟩:=r.get e
 rw[ev]at e1
 cases e1
 obtain rfl:=List.sublist_nil.mp sl
 refine Rel.tr (fun _ h=>h) (fun _ h=>h) (fun _ h=>h) (fun a o q h=>hk a o q ?_) (fun _ z=>(nomatch z)) r1
 rcases h with h | h | h | h
 ·exact hF a h
 ·exact hB a h
 ·exact h.elim
 ·intro z
  have:=hO a o z q
  cases o with
  | lst _ | ins _ _ _=>exact h
  | _=>exact this
theorem aw.bow(S:aw T Z F H σ env fp):∀a,Z.B a->¬Own fp a:=fun a h ⟨i,hi⟩=>by
 obtain⟨⟨o,h1⟩,h2⟩:=S.hp.bo a h
 rcases S.new i a hi with z | z
 ·rw[h1]at z;cases z
 ·exact h2 z
theorem aw.fow(S:aw T Z F H σ env fp):∀a,F a->¬Own fp a:=fun a h ⟨i,hi⟩=>(S.dis i a hi).1 h
theorem aw.oow(S:aw T Z F H σ env fp):∀a o,Own fp a->H a=some o->Chg o:=fun a o ⟨i,hi⟩ e=>by
 obtain⟨o',h1,h2⟩:=S.ch i a hi
 rw[e]at h1;cases h1;exact h2
theorem gn(h:gq xs=true)(r:RelL T F B L H xs vs f):f=[]/\RelL T F B NoL H xs vs f:=by
 simp only[gq,Bool.and_eq_true,Bool.not_eq_true']at h
 exact⟨RelL.noOwn h.1 r,RelL.noL h.2 r⟩
theorem de(hK:X.K=T.K)(he:SE X T W e m):SI X T W tg e (b9 m):=fun pins s σ H R I h=>rO he pins s σ H R I (by
 obtain⟨Z,F,env,fp,S,q⟩:=h
 unfold b9 at q
 refine tE.bind S (fun c e=>by rw[e]at q;exact q) (fun e=>by rw[e]at q;exact q) fun x v H1 F1 f1 e1 g1 r1 n1 d1 w1=>?_
 rw[e1]at q
 simp only[Res.ok_bind]at q
 have S1:=S.grow g1
 rw[hK]
 cases x with
 | lst f xs =>
  dsimp only at q
  by_cases hc:(!f.isLnt&&gq xs)=true
  ·rw[if_pos hc]at q
   rw[Bool.and_eq_true]at hc
   unfold Rel at r1
   obtain⟨a,vs,fp',rfl,hl,hr,hf⟩:=r1
   obtain⟨rfl,hr'⟩:=gn hc.2 hr
   refine⟨a,rfl,.inl ⟨vs,hl.sq,q _ H1 F1 g1 (ItR.of0 fun H2 hk=>?_)⟩⟩
   have na:f≠.mod->∀o,H1 a=some o->H2 a=some o:=fun hn o ho=>by
    refine hk a o ho ?_
    cases f with
    | own =>
     rintro⟨i,hi⟩
     obtain⟨_,o',ho'⟩:=S.dis i a hi
     obtain rfl:f1=[a]:=hf
     rw[w1 a List.mem_cons_self]at ho';cases ho'
    | frz=>exact S1.fow a hl.1
    | bor=>exact S1.bow a hl.1
    | lnt=>exact absurd hc.1 (by decide)
    | mod=>exact absurd rfl hn
   have hl2:SqL T.K H2 a vs:=by
    by_cases hn:f=.mod
    ·subst hn;exact .inr hl
    ·exact .inl (Rd.tr (na hn) (hl.rd hn))
   refine⟨fun i x ex=>?_,⟨vs,hl2,by rw[hr.length];exact Nat.le_refl _⟩⟩
   obtain⟨v,_,ev,_,_⟩:=hr.get ex
   refine⟨⟨vs,v,hl2,ev⟩,fun w H3 hy=>⟨hy.1,?_⟩⟩
   have e3:=hy.2 vs hl2
   exact fW S1.fow S1.bow S1.oow hk hr' ex e3
  ·rw[if_neg hc]at q;exact q.elim
 | tup xs =>
  dsimp only at q
  by_cases hc:gq xs=true
  ·rw[if_pos hc]at q
   unfold Rel at r1
   obtain⟨a,vs,rfl,hl,hr⟩:=r1
   obtain⟨rfl,hr'⟩:=gn hc hr
   refine⟨a,rfl,.inr ⟨vs,hl,q _ H1 F1 g1 (ItR.of0 fun H2 hk=>?_)⟩⟩
   have hl2:SqT T.K H2 a vs:=SqT.tr (fun o ho hfx=>hk a o ho fun z=>by
    have:=S1.oow a o z ho
    cases o with
    | lst _ | ins _ _ _=>exact hfx
    | _=>exact this) hl
   refine⟨fun i x ex=>?_,⟨vs,hl2,by rw[hr.length];exact Nat.le_refl _⟩⟩
   obtain⟨v,_,ev,_,_⟩:=hr.get ex
   refine⟨⟨vs,v,hl2,ev⟩,fun w H3 hy=>⟨hy.1,?_⟩⟩
   exact fW S1.fow S1.bow S1.oow hk hr' ex (hy.2 vs hl2)
  ·rw[if_neg hc]at q;exact q.elim
 | _=>exact q.elim)
def gO(lo:Int)(n:Nat):List PV:=(List.range n).map fun k=>.int (lo+(k:Nat))
def inR(i:Int):Bool:=decide (-(2 ^ 62)<= i/\i < 2 ^ 62)
def dU(ms:MA):MI:=fun env=>(ms env).bind fun xs=>match xs with
 | [.int n]=>if inR n then .ok (gO 0 n.toNat)else .stuck
 | _=>.stuck
theorem vE:ItR T F1 B Ow H1 (Itr lo n) (gO lo n):=by
 apply ItR.of0
 intro H2 _
 refine⟨fun i x ex=>?_,by simp[gO,Itr]⟩
 have hi:i < n:=by
  have:=(List.getElem?_eq_some_iff.mp ex).1
  simpa[gO]using this
 refine⟨hi,fun v H3 hy=>⟨hy.1,?_⟩⟩
 obtain⟨_,rfl⟩:=hy
 have:x=.int (lo+(i:Nat)):=by
  simp[gO,hi]at ex
  exact ex.symm
 subst this
 exact cX
theorem gL(hg:Gl X "range")(hm:X.mg "range" = none)(ha:SA X T W [a] ms)(hs:starEach [a] X.env=[(false,eval a X.env)]:=by rfl):SI X T W tg (.Call (.Name "range" p) [a] [] pos) (dU ms):=fun pins s σ H R I h=>jZ hg hm ha hs pins s σ H R I (by
 obtain⟨Z,F,env,fp,S,q⟩:=h
 unfold dU at q
 refine tA.bind S (fun c e=>by rw[e]at q;exact q) (fun e=>by rw[e]at q;exact q) fun xs vs H1 F1 f1 e1 g1 r1 n1 d1 w1=>?_
 rw[e1]at q
 simp only[Res.ok_bind]at q
 split at q
 ·rename_i n
  split at q
  ·rename_i hc
   obtain⟨v,rfl,r2⟩:=r1.one
   unfold Rel at r2
   obtain⟨rfl,_⟩:=r2
   have hc':-(2 ^ 62)<= n/\n < 2 ^ 62:=by simpa[inR]using hc
   exact⟨n,rfl,hc'.1,hc'.2,q _ H1 F1 g1 vE⟩
  ·exact q.elim
 ·exact q.elim)
def cv(it:MI)(tg:TgM)(body:MS):MS:=fun env=>match it env with
 | .ok xs=>jF (fun x e=>match tg x e with
  | some e'=>body e'
  | none=>.stuck) xs env
 | .exc c=>.exc c env
 | .stuck=>.stuck
theorem bY(hp:PassesOwn (model X.prog X.w) X.A X.env X.xe)(hc:X.calm=true)(hi:SI X T W tg iter mi)(hg:SG X T tg g)(hb:SSs X T W body mb)
  (hs:∀x,foldedSetIterable iter X.env x=pure x:=by intro _;rfl):SS X T W (.For tg iter body [] pos) (cv mi g mb):=PS.wk (xS (pos:=pos) hp hc hi hg hb hs) fun D σ H ⟨Z,F,env,fp,S,q⟩=>by
 unfold cv at q
 refine⟨Z,F,env,fp,S,?_⟩
 cases em:mi env with
 | exc c=>rw[em]at q;exact fun H' x=>q F H' σ fp (S.grow (Gr.same S.hp.ft x))
 | stuck=>rw[em]at q;exact q
 | ok xs =>
  rw[em]at q
  dsimp only at q
  intro J H1 F1 g1 it
  have S1:=S.grow g1
  generalize hbd:(fun (x:PV) (e:En)=>match g x e with
   | some e'=>mb e'
   | none=>Out.stuck)=bd at q
  refine⟨fun i m σ2 H2=>m=xs.length - i/\i<=xs.length/\∃F2 env2 fp2,aw T (Z.re F1 H1 fp) F2 H2 σ2 env2 fp2/\GS T W Z D (jF bd (xs.drop i) env2),⟨xs.length,by simp,Nat.zero_le _,F1,env,fp,S1.enter,q⟩,?_⟩
  rintro i m σ2 H2 ⟨rfl,hi,F2,env2,fp2,S2,q2⟩
  obtain⟨go,stop⟩:=it H2 S2.hp.keep
  by_cases hlt:i < xs.length
  ·have hx:xs[i]?=some xs[i]:=by simp[hlt]
   obtain⟨g1',yl⟩:=go i _ hx
   refine .inr ⟨g1',fun σ3 H3=>∃F3 env3 fp3,aw T (Z.re F1 H1 fp) F3 H3 σ3 env3 fp3/\GS T W Z D (jF bd (xs.drop (i+1)) env3),fun σ3 H3 h3=>⟨xs.length - (i+1),by omega,rfl,hlt,h3⟩,fun v H3 hy=>?_⟩
   obtain⟨ex3,r⟩:=yl v H3 hy
   rw[List.drop_eq_getElem_cons hlt]at q2
   unfold jF at q2
   rw[<- hbd]at q2
   dsimp only at q2
   refine⟨Z.re F1 H1 fp,F2,env2,fp2,xs[i],[],S2.grow (Gr.same S2.hp.ft ex3),r.ext Ext.refl S2.hp.f0,nY.nil,?_⟩
   cases eg:g xs[i] env2 with
   | none=>rw[eg]at q2;exact q2
   | some e' =>
    rw[eg]at q2
    dsimp only at q2
    intro σ' fp' S'
    refine⟨Z.re F1 H1 fp,F2,e',fp',S',?_⟩
    cases eb:mb e' with
    | next e2 | cont e2=>rw[eb]at q2;exact fun F3 H3 σ3 fp3 S3=>⟨F3,e2,fp3,S3,by rw[<- hbd];exact q2⟩
    | brk e2=>rw[eb]at q2;exact fun F3 H3 σ3 fp3 S3=>q2 F3 H3 σ3 fp3 (S1.leave S3)
    | ret v=>rw[eb]at q2;exact fun F3 H3 v f hp r nd nf new=>q2 F3 H3 v f (dC.leave S1 hp) r nd nf fun a ha=>S1.newL (new a ha)
    | exc c e2=>rw[eb]at q2;exact fun F3 H3 σ3 fp3 S3=>q2 F3 H3 σ3 fp3 (S1.leave S3)
    | stuck=>rw[eb]at q2;exact q2
  ·have e:i=xs.length:=by omega
   subst e
   rw[List.drop_length]at q2
   exact .inl ⟨stop,q2 F2 H2 σ2 fp2 (S1.leave S2)⟩
end
end PR
namespace L2
open PySem PySem.Spec
def cG(cells:List (Str×Addr)):List (Str×NameKind)->List (Str×Addr)->List (Str×Addr)
 | [],acc=>acc
 | (n,k)::r,acc=>if (k == .free)=true then (match cells.lookup n with
  | some c=>cG cells r ((n,c)::acc)
  | none=>cG cells r acc)else cG cells r acc
theorem fY:∀(names:List (Str×NameKind)) (acc:List (Str×Addr)),(∀y∈names,y.2=.free->∃c,env.cells.lookup y.1=some c)->
  (forIn names acc fun (x:Str × NameKind) (cs:List (Str × Addr))=>match x with
   |(name,kind)=>if(kind==.free)=true then do let c <- cellOf env name;pure (ForInStep.yield ((name,c)::cs))else pure (ForInStep.yield cs):Sem (List (Str×Addr)))=pure (cG env.cells names acc)
 | [],acc,_=>by simp[cG]
 |(n,k)::r,acc,h=>by
  rw[List.forIn_cons]
  by_cases hk:(k==NameKind.free)=true
  ·obtain⟨c,hc⟩:=h (n,k) List.mem_cons_self (by simpa using hk)
   dsimp only at hc
   simp only[hk,if_true,cellOf,hc,pure_bind]
   rw[cG,if_pos hk,hc]
   exact fY r _ fun y hy=>h y (List.mem_cons_of_mem _ hy)
  ·simp only[hk,Bool.false_eq_true,if_false,pure_bind]
   rw[cG,if_neg hk]
   exact fY r _ fun y hy=>h y (List.mem_cons_of_mem _ hy)
theorem fE(h:∀y∈scope.names,y.2=.free->∃c,env.cells.lookup y.1=some c):closureFor scope env=pure (cG env.cells scope.names []):=by
 unfold closureFor
 simp only[]
 rw[<- fY scope.names [] h]
 simp
theorem d0{cells:List (Str×Addr)}:∀{names:List (Str×NameKind)}{acc:List (Str×Addr)},(∀p∈acc,cells.lookup p.1=some p.2)->∀p∈cG cells names acc,cells.lookup p.1=some p.2
 | [],_,h=>h
 |(n,k)::r,acc,h=>by
  unfold cG
  split
  ·split
   ·rename_i c hc
    exact d0 fun p hp=>by
     rcases List.mem_cons.mp hp with rfl | hp
     ·exact hc
     ·exact h p hp
   ·exact d0 h
  ·exact d0 h
theorem gF:∀{names:List (Str×NameKind)}{acc:List (Str×Addr)}{p:Str×Addr},p∈acc->p∈cG cells names acc
 | [],_,_,h=>h
 |(n,k)::r,acc,p,h=>by
  unfold cG
  split
  ·split
   ·exact gF (List.mem_cons_of_mem _ h)
   ·exact gF h
  ·exact gF h
theorem fo{cells:List (Str×Addr)}{x:Str}{c:Addr}(hc:cells.lookup x=some c):∀{names:List (Str×NameKind)}{acc:List (Str×Addr)},(x,NameKind.free)∈ names->(x,c)∈ cG cells names acc
 | [],_,h=>nomatch h
 |(n,k)::r,acc,h=>by
  unfold cG
  rcases List.mem_cons.mp h with e | h
  ·cases e
   rw[if_pos (by rfl),hc]
   exact gF List.mem_cons_self
  ·split
   ·split
    ·exact fo hc h
    ·exact fo hc h
   ·exact fo hc h
theorem fC{cells l:List (Str×Addr)}(h:∀p∈l,cells.lookup p.1=some p.2){x:Str}{c:Addr}(m:(x,c)∈ l):l.lookup x=some c:=by
 induction l with
 | nil=>cases m
 | cons p r ih =>
  obtain⟨n,d⟩:=p
  rw[List.lookup_cons]
  by_cases e:x=n
  ·subst e
   simp only[beq_self_eq_true]
   have h1:=h (x,d) List.mem_cons_self
   have h2:=h (x,c) m
   dsimp only at h1 h2
   rw[h1]at h2
   exact h2
  ·rw[show(x==n)=false by simpa using e]
   refine ih (fun p hp=>h p (List.mem_cons_of_mem _ hp)) ?_
   rcases List.mem_cons.mp m with z | z
   ·cases z;exact absurd rfl e
   ·exact z
theorem dZ{cells:List (Str×Addr)}{names:List (Str×NameKind)}{x:Str}{c:Addr}(h:(cG cells names []).lookup x=some c):cells.lookup x=some c :=
 d0 (names:=names) (acc:=[]) (fun _ z=>nomatch z) (x,c) (PySem.mem_of_lookup h)
theorem jz:∀(names:List (Str×NameKind)) (a:Nat) (l acc:List (Str×Addr)),cellsFrom a names (l++acc)=cellsFrom a names l++acc
 | [],_,_,_=>rfl
 |(n,k)::r,a,l,acc=>by
  unfold cellsFrom
  split
  ·exact jz r (a+1) ((n,a)::l) acc
  ·exact jz r a l acc
theorem jy:∀{names:List (Str×NameKind)}{a:Nat}{l:List (Str×Addr)}{p:Str×Addr},p∈cellsFrom a names l->p∈l \/(a<=p.2/\(p.1,NameKind.cell)∈ names)
 | [],_,_,_,h=>.inl h
 |(n,k)::r,a,l,p,h=>by
  unfold cellsFrom at h
  split at h
  ·rename_i hk
   have hk:k=.cell:=by simpa using hk
   subst hk
   rcases jy h with h | h
   ·rcases List.mem_cons.mp h with rfl | h
    ·exact .inr ⟨Nat.le_refl _,List.mem_cons_self⟩
    ·exact .inl h
   ·exact .inr ⟨by omega,List.mem_cons_of_mem _ h.2⟩
  ·rcases jy h with h | h
   ·exact .inl h
   ·exact .inr ⟨h.1,List.mem_cons_of_mem _ h.2⟩
theorem kW:∀{names:List (Str×NameKind)}{a:Nat}{l:List (Str×Addr)}{x:Str},((x,NameKind.cell)∈ names \/(l.lookup x).isSome=true)->((cellsFrom a names l).lookup x).isSome=true
 | [],_,_,_,h=>h.resolve_left (fun z=>nomatch z)
 |(n,k)::r,a,l,x,h=>by
  unfold cellsFrom
  split
  ·rename_i hk
   have hk:k=.cell:=by simpa using hk
   subst hk
   refine kW ?_
   by_cases e:x=n
   ·subst e;exact .inr (by simp)
   ·rcases h with h | h
    ·rcases List.mem_cons.mp h with z | h
     ·cases z;exact absurd rfl e
     ·exact .inl h
    ·exact .inr (by rw[List.lookup_cons,show(x==n)=false by simpa using e];exact h)
  ·rename_i hk
   refine kW ?_
   rcases h with h | h
   ·rcases List.mem_cons.mp h with z | h
    ·cases z;exact absurd rfl hk
    ·exact .inl h
   ·exact .inr h
theorem jA:∀{names:List (Str×NameKind)}{a:Nat}{l:List (Str×Addr)},(∀p∈l,p.2 < a)->(l.Pairwise fun x y=>x.2≠y.2)->(cellsFrom a names l).Pairwise fun x y=>x.2≠y.2
 | [],_,_,_,h=>h
 |(n,k)::r,a,l,hl,h=>by
  unfold cellsFrom
  split
  ·refine jA (fun p hp=>?_) (List.pairwise_cons.mpr ⟨fun y hy e=>?_,h⟩)
   ·rcases List.mem_cons.mp hp with rfl | hp
    ·exact Nat.lt_succ_self _
    ·exact Nat.lt_succ_of_lt (hl p hp)
   ·have e':a=y.2:=e
    exact Nat.lt_irrefl _ (Nat.lt_of_lt_of_eq (hl y hy) e')
  ·exact jA hl h
theorem gx{α:Type}{x:Str}:∀{l m:List (Str×α)},(l++m).lookup x=(l.lookup x).or (m.lookup x)
 | [],m=>by simp
 |(n,c)::l,m=>by
  rw[List.cons_append,List.lookup_cons,List.lookup_cons,gx (l:=l)]
  cases x==n<;>simp
abbrev jG(X:Cx)(scope:Scope)(C:Addr):List (Str×Addr):=cellsFrom (C+1) scope.names (cG X.env.cells scope.names [])
theorem jB{X:Cx}{scope:Scope}{C:Addr}{x:Str}{c:Addr}(h:(jG X scope C).lookup x=some c):(C+1<=c/\(x,NameKind.cell)∈ scope.names/\(x,c)∈ cellsFrom (C+1) scope.names [])\/(cG X.env.cells scope.names []).lookup x=some c:=by
 unfold jG at h
 rw[show cG X.env.cells scope.names []=[]++ cG X.env.cells scope.names []from rfl,jz,gx]at h
 cases e:(cellsFrom (C+1) scope.names []).lookup x with
 | some d =>
  rw[e]at h
  cases h
  have m:=PySem.mem_of_lookup e
  rcases jy m with z | z
  ·cases z
  ·exact .inl ⟨z.1,z.2,m⟩
 | none =>
  rw[e]at h
  exact .inr (by simpa using h)
theorem zw(hx:(x,NameKind.cell)∉ scope.names)(h:(cG X.env.cells scope.names []).lookup x=some c):(jG X scope C).lookup x=some c:=by
 unfold jG
 rw[show cG X.env.cells scope.names []=[]++ cG X.env.cells scope.names []from rfl,jz,gx]
 cases e:(cellsFrom (C+1) scope.names []).lookup x with
 | some d =>
  rcases jy (PySem.mem_of_lookup e)with z | z
  ·cases z
  ·exact absurd z.2 hx
 | none=>simpa using h
theorem il{M:Model}{A:Around}{E:Value->Shared->Prop}{s:Shared}{scope:Scope}{globals:Addr}{closure:List (Str×Addr)}{qual:Str}{func:Option Addr}{code:Value}{outer:Env}{builtins:Addr}{Q:Env->Shared->Prop}
  (hQ:∀ h',h'.Ns s.heap.objs.size (fun _=>none)->(∀ b o,s.heap.get? b=some o->h'.get? b=some o)->(∀ n c,(n,c) ∈ cellsFrom (s.heap.objs.size+1) scope.names []->h'.IsCell c none) ->
   Q (newEnv scope s.heap.objs.size globals (cellsFrom (s.heap.objs.size+1) scope.names closure) qual func code (some outer) builtins) { s with heap:=h' }) :
  wpAny M A (newFunctionEnv scope globals closure [] qual func code (some outer) builtins) Q E s:=by
 simp only[newFunctionEnv,Option.isSome_some,if_true]
 refine wpAny_bind (wpAny_alloc ?_)
 refine wpAny_bind (wpAny_layCells _ (fun name kind cells=>by cases hkc:kind==NameKind.cell<;>simp[hkc]) _ _ _ _ ?_)
 have ok:=cellsFrom_ok scope.names (s.heap.push { cls:=.type "dict", data:=.dict #[] }) (s.heap.objs.size+1) [] ⟨fun _ _ hm=>(nomatch hm),List.Pairwise.nil⟩ (by rw[Heap.size_push];exact Nat.le_refl _)
 rw[Heap.size_push]at ok
 rw[show({ s with heap:=s.heap.push { cls:=.type "dict", data:=.dict #[] } }:Shared).heap.objs.size=s.heap.objs.size+1 from Heap.size_push ..]
 refine wpAny_bind ?_
 rw[List.forIn_nil]
 exact wpAny_pure (wpAny_pure (hQ _ ((Heap.Ns.new s.heap (.type "dict")).keeps (pushCells_keeps _ _)) (fun b o e=>pushCells_keeps _ _ b o (Heap.get?_push_of_some _ e)) fun n c hm=>(ok.empty n c hm).1))
def cxC(X:Cx)(scope:Scope)(C:Addr)(N:List Str)(s:Shared)(H:Hp)(ex:List Addr):Cx :=
 { X with env:=compEnvC scope (jG X scope C) C X.env,N:=N,s₀:=s,H₀:=H,outer:=X.stack,stack:=X.stack,ex:=ex,fn:=fun x=>scope.names.lookup x==some .cell,pn:=[],xe:=fun _ _=>False }
structure bU(X:Cx)(scope:Scope)(caps:List Nat)(N tn:List Str):Prop where
 kind:scope.kind=.function
 cel:∀y∈scope.names,y.2=.cell->scope.names.lookup y.1=some .cell
 names:∀y∈scope.names,y.2=.local->scope.names.lookup y.1=some .local
 free:∀y∈scope.names,y.2=.free->X.env.kindOf y.1=some .cell\/X.env.kindOf y.1=some .free
 eN:N=caps.map (fun i=>X.N.getD i "")++ tn
 capN:∀i∈caps,i < X.N.length
 capF:∀i∈caps,∀x,X.N[i]?=some x->(x,NameKind.free)∈ scope.names/\scope.names.lookup x=some .free
 nd:N.Nodup
theorem f_{scope:Scope}{env:Env}{x:Str}{k:NameKind}(h:(relabel scope env).names.lookup x=some k)(hc:k=.cell\/k=.free):(x,NameKind.free)∈ scope.names \/(x,NameKind.cell)∈ scope.names:=by
 have m:=PySem.mem_of_lookup h
 obtain⟨⟨n,k0⟩,hm,e⟩:=List.mem_map.mp m
 dsimp only at e
 split at e
 ·rename_i hh
  cases e
  have:k0=.free:=by
   simp only[Bool.and_eq_true,beq_iff_eq]at hh
   exact hh.1.1
  subst this
  exact .inl hm
 ·cases e
  rcases hc with rfl | rfl
  ·exact .inr hm
  ·exact .inl hm
theorem gc{scope:Scope}{env:Env}{x:Str}:∀{names:List (Str×NameKind)},names.lookup x=some .free ->
  (names.map fun(n,k)=>if(k==NameKind.free&&env.scope.kind==.function&&env.kindOf n==some .cell)then(n,NameKind.cell)else(n,k)).lookup x=some .cell \/
  (names.map fun(n,k)=>if(k==NameKind.free&&env.scope.kind==.function&&env.kindOf n==some .cell)then(n,NameKind.cell)else(n,k)).lookup x=some .free
 | [],h=>by simp at h
 |(n,k)::r,h=>by
  show List.lookup x ((if(k==NameKind.free&&env.scope.kind==.function&&env.kindOf n==some .cell)=true then(n,NameKind.cell)else(n,k))::_)=_\/List.lookup x ((if(k==NameKind.free&&env.scope.kind==.function&&env.kindOf n==some .cell)=true then(n,NameKind.cell)else(n,k))::_)=_
  have ih:=@gc scope env x r
  cases hx:x==n with
  | true =>
   simp only[List.lookup_cons,hx]at h
   cases h
   split
   ·exact .inl (by simp[List.lookup_cons,hx])
   ·exact .inr (by simp[List.lookup_cons,hx])
  | false =>
   simp only[List.lookup_cons,hx]at h
   split
   ·simpa only[List.lookup_cons,hx]using ih h
   ·simpa only[List.lookup_cons,hx]using ih h
section
variable{X:Cx}{scope:Scope}{caps:List Nat}{N tn:List Str}{pins:List (Addr×Obj)}{σ:St}{H:Hp}{s:Shared}{fp:List Addr}{C:Addr}
theorem jx(cs:bU X scope caps N tn)(I:Inv X pins σ H s)(hf:∀b∈fp,iA X pins H b)(hlt:∀b∈fp,b < s.heap.objs.size)(hC:s.heap.objs.size<=C):(cxC X scope C N s H fp).Ok where
 mod:=I.ok.mod
 kind:=by show(relabel scope X.env).kind=_;exact cs.kind
 glob:=I.ok.glob
 blt:=I.ok.blt
 above:=hC
 inj:=fun x y c h1 h2=>by
  have old:∀z,(cG X.env.cells scope.names []).lookup z=some c->c < s.heap.objs.size:=fun z hz=>let⟨_,hv⟩:=I.cell z c (dZ hz);hv.lt
  rcases jB h1 with⟨l1,_,m1⟩ | h1<;>rcases jB h2 with⟨l2,_,m2⟩ | h2
  ·exact name_of_addr (jA (l:=[]) (fun _ z=>nomatch z) List.Pairwise.nil) m1 m2
  ·exact absurd (Nat.lt_of_lt_of_le (old y h2) (Nat.le_trans hC (Nat.le_trans (Nat.le_succ _) l1))) (Nat.lt_irrefl _)
  ·exact absurd (Nat.lt_of_lt_of_le (old x h1) (Nat.le_trans hC (Nat.le_trans (Nat.le_succ _) l2))) (Nat.lt_irrefl _)
  ·exact I.ok.inj x y c (dZ h1) (dZ h2)
 has:=fun x hx=>by
  have hx:(relabel scope X.env).names.lookup x=some .cell \/(relabel scope X.env).names.lookup x=some .free:=hx
  have m:(x,NameKind.free)∈ scope.names \/(x,NameKind.cell)∈ scope.names:=by
   rcases hx with h | h
   ·exact f_ h (.inl rfl)
   ·exact f_ h (.inr rfl)
  refine Option.isSome_iff_exists.mp (kW (l:=cG X.env.cells scope.names []) ?_)
  rcases m with m | m
  ·obtain⟨c,hc⟩:=I.ok.has x (cs.free _ m rfl)
   exact .inr (by rw[fC (d0 (acc:=[]) fun _ z=>nomatch z) (fo hc m)];rfl)
  ·exact .inl m
 cab:=fun x c h hc=>by
  have h':(scope.names.lookup x==some NameKind.cell)=true:=h
  have hx:scope.names.lookup x=some .cell:=by simpa using h'
  have hs:s.heap.objs.size<=C:=hC
  have hc:(jG X scope C).lookup x=some c:=hc
  obtain⟨d,hd⟩:=Option.isSome_iff_exists.mp (kW (a:=C+1) (l:=[]) (.inl (PySem.mem_of_lookup hx)))
  unfold jG at hc
  rw[show cG X.env.cells scope.names []=[]++ cG X.env.cells scope.names []from rfl,jz,gx,hd]at hc
  cases hc
  rcases jy (PySem.mem_of_lookup hd)with z | z
  ·cases z
  ·exact Nat.le_trans hs (Nat.le_trans (Nat.le_succ _) z.1)
 hd:=I.ok.hd
 frames:=I.ok.frames
 stk:=.inl rfl
 exf:=fun b hb=>⟨Nat.ne_of_lt (Nat.lt_of_lt_of_le (hlt b hb) hC),fun x c h=>by
  rcases jB h with⟨l1,_,_⟩ | h
  ·exact fun z=>absurd (Nat.lt_of_lt_of_le (hlt b hb) (Nat.le_trans hC (Nat.le_trans (Nat.le_succ _) l1))) (by rw[z];exact Nat.lt_irrefl _)
  ·exact(hf b hb).2.2.2.2.1 x c (dZ h)⟩
 bs:=I.bs
 bsz:=Nat.le_trans I.ok.bsz I.sz
 noex:=fun b o e hb=>by
  rcases(hf b hb).2.2.2.1 with z | z
  ·exact I.ok.noex b o e z
  ·exact absurd (Nat.lt_of_lt_of_le (Heap.lt_size e) (Nat.le_trans I.ok.bsz z)) (Nat.lt_irrefl _)
 exfs:=fun b hb hs=>by
  rcases List.mem_cons.mp (I.stkSub b hs)with z | z
  ·exact(hf b hb).2.1 z
  ·exact(hf b hb).2.2.1 z
 funs:=I.stack
 frf:=I.stkFree
def jH(caps:List Nat)(k:Nat)(σ:St):St:=caps.map (fun i=>(σ[i]?).join)++ List.replicate k none
theorem lW(cs:bU X scope caps N tn)(I:Inv X pins σ H s)(hf:∀b∈fp,iA X pins H b)(hlt:∀b∈fp,b < s.heap.objs.size)
  (hns:h₁.Ns (s.heap.objs.size+1) fun _=>none) (hD:h₁.get? s.heap.objs.size=some { cls:=.type "list", data:=.seq ([]:List Value).toArray }) (old:∀b o,s.heap.get? b=some o->h₁.get? b=some o)
  (hcl:∀n c,(n,c)∈ cellsFrom (s.heap.objs.size+1+1) scope.names []->h₁.IsCell c none) :
  Inv (cxC X scope (s.heap.objs.size+1) N s H fp) [] (jH caps tn.length σ) (upd H s.heap.objs.size (.lst [])) { s with heap:=h₁,toks:=t }:=by
 have fresh:∀b,s.heap.objs.size<=b->H b=none:=fun b hb=>I.hok.fresh hb
 have neD:s.heap.objs.size+1≠s.heap.objs.size:=Nat.succ_ne_self _
 have ltc:∀x c,(cG X.env.cells scope.names []).lookup x=some c->∃v,s.heap.IsCell c v:=fun x c h=>I.cell x c (dZ h)
 refine⟨jx cs I hf hlt (Nat.le_succ _),rfl,I.bare,Un.laid old (Nat.le_refl _) (fresh _ (Nat.le_refl _)),⟨_,hns,fun i y v h1 h2 h3=>?_⟩,fun x c h=>?_,?_,fun x c h=>?_,fun p hp=>absurd (show p ∈([]:List (Addr×Obj))from hp) (by simp),?_,?_⟩
 ·have hi:i < caps.length:=by
   unfold jH at h2
   by_cases hi:i < caps.length
   ·exact hi
   ·rw[List.getElem?_append_right (by simpa using hi),List.getElem?_replicate]at h2
    split at h2<;>cases h2
  unfold jH at h2
  rw[List.getElem?_append_left (by simpa using hi),List.getElem?_map]at h2
  obtain⟨j,hj,e2⟩:=Option.map_eq_some_iff.mp h2
  have hjc:j∈caps:=List.mem_of_getElem? hj
  have hjN:=cs.capN j hjc
  have hy:X.N[j]?=some y:=by
   have h1':N[i]?=some y:=h1
   rw[cs.eN,List.getElem?_append_left (by simpa using hi),List.getElem?_map,hj]at h1'
   have:X.N.getD j "" = y:=by simpa using h1'
   rw[<- this]
   simp[hjN]
  have hσ:σ[j]?=some (some v):=by
   cases e:σ[j]? with
   | none=>rw[e]at e2;cases e2
   | some w=>rw[e]at e2;simp only[Option.join_some]at e2;rw[e2]
  obtain⟨m0,hn0,hl⟩:=I.loc
  obtain⟨hm,hlk⟩:=cs.capF j hjc y hy
  have hk:=cs.free _ hm rfl
  dsimp only at hk
  have hvis:Vis X.env.scope y:=by
   rcases hk with z | z
   ·exact .inr (.inl z)
   ·exact .inr (.inr z)
  obtain⟨u,ru,lk⟩:=hl j y v hy hσ hvis
  refine⟨u,ru,.inr ?_⟩
  rcases lk with⟨z,_⟩ |⟨_,c,hc,hcell⟩
  ·rcases hk with w | w
   ·rw[z]at w;cases w
   ·rw[z]at w;cases w
  ·refine⟨gc (scope:=scope) hlk,c,zw (fun z=>?_) (fC (d0 (acc:=[]) fun _ z=>nomatch z) (fo hc hm)),hcell.keeps old⟩
   have:=cs.cel _ z rfl
   rw[hlk]at this
   cases this
 ·rcases jB h with⟨_,_,m⟩ | h
  ·exact⟨none,hcl x c m⟩
  ·obtain⟨v,hv⟩:=ltc x c h
   exact⟨v,hv.keeps old⟩
 ·show upd H _ _ (s.heap.objs.size+1)=none
  rw[aE neD]
  exact fresh _ (Nat.le_succ _)
 ·rcases jB h with⟨l1,_,_⟩ | h
  ·rw[aE (Nat.ne_of_gt (Nat.lt_of_lt_of_le (Nat.lt_succ_of_lt (Nat.lt_succ_self _)) l1))]
   exact fresh _ (Nat.le_trans (Nat.le_succ_of_le (Nat.le_succ _)) l1)
  ·obtain⟨v,hv⟩:=ltc x c h
   rw[aE (Nat.ne_of_lt hv.lt)]
   exact I.freeC x c (dZ h)
 ·exact I.hok.laid old (Nat.le_refl _) ⟨Nat.zero_le _,[],_,.nil,hD⟩
 ·show(jH caps tn.length σ).length=N.length
  rw[cs.eN]
  simp[jH]
end
end L2
namespace PR
open PySem PySem.Spec L2
def Fl.borrow:Fl->Fl
 | .own | .lnt=>.bor
 | f=>f
def PV.borrow(x:PV):PV:=x.mapF Fl.borrow
mutual
theorem Rel.borrow(hB:∀a,B a->B' a)(hL:∀a,L a->B' a):∀{x:PV}{v:V}{fp:List Addr},(∀a∈fp,B' a)->Rel T F B L H x v fp->Rel T F B' L' H (x.mapF Fl.borrow) v []
 | .non,_,_,_,h | .bl _,_,_,_,h | .int _,_,_,_,h | .str _,_,_,_,h=>by unfold Rel at h;simp only[PV.mapF];unfold Rel;exact⟨h.1,rfl⟩
 | .lst f xs,_,fp,hp,h=>by
  unfold Rel at h
  obtain⟨a,vs,fp',e,hl,hr,hf⟩:=h
  simp only[PV.mapF]
  unfold Rel
  cases f with
  | own =>
   obtain rfl:fp=a::fp':=hf
   exact⟨a,vs,[],e,⟨hp a List.mem_cons_self,.inl hl⟩,RelL.borrow hB hL (fun b hb=>hp b (List.mem_cons_of_mem _ hb)) hr,rfl,rfl⟩
  | frz=>obtain⟨rfl,rfl⟩:=hf;exact⟨a,vs,[],e,hl,RelL.borrow hB hL hp hr,rfl,rfl⟩
  | bor=>obtain⟨rfl,rfl⟩:=hf;exact⟨a,vs,[],e,⟨hB a hl.1,hl.2⟩,RelL.borrow hB hL hp hr,rfl,rfl⟩
  | lnt=>obtain⟨rfl,rfl⟩:=hf;exact⟨a,vs,[],e,⟨hL a hl.1,.inl hl.2⟩,RelL.borrow hB hL hp hr,rfl,rfl⟩
  | mod=>obtain⟨rfl,rfl⟩:=hf;exact⟨a,vs,[],e,hl,RelL.borrow hB hL hp hr,rfl,rfl⟩
 | .tup xs,_,fp,hp,h=>by
  unfold Rel at h
  obtain⟨a,vs,e,hl,hr⟩:=h
  simp only[PV.mapF]
  unfold Rel
  exact⟨a,vs,e,hl,RelL.borrow hB hL hp hr⟩
 | .obj f c ks xs,_,fp,hp,h=>by
  unfold Rel at h
  obtain⟨a,dx,vs,fp',e,hl,hk,hr,hf,ha⟩:=h
  simp only[PV.mapF]
  unfold Rel
  cases f with
  | own =>
   obtain rfl:fp=a::fp':=hf
   have r:=RelL.borrow hB hL (L':=L') (fun b hb=>hp b (List.mem_cons_of_mem _ hb)) hr
   exact⟨a,dx,vs,[],e,hl,⟨by rw[r.length,hk.1,hr.length],hk.2⟩,r,⟨rfl,rfl⟩,hp a List.mem_cons_self⟩
  | frz=>obtain⟨rfl,rfl⟩:=hf;have r:=RelL.borrow hB hL (L':=L') hp hr;exact⟨a,dx,vs,[],e,hl,⟨by rw[r.length,hk.1,hr.length],hk.2⟩,r,⟨rfl,rfl⟩,ha⟩
  | bor=>obtain⟨rfl,rfl⟩:=hf;have r:=RelL.borrow hB hL (L':=L') hp hr;exact⟨a,dx,vs,[],e,hl,⟨by rw[r.length,hk.1,hr.length],hk.2⟩,r,⟨rfl,rfl⟩,hB a ha⟩
  | lnt=>obtain⟨rfl,rfl⟩:=hf;have r:=RelL.borrow hB hL (L':=L') hp hr;exact⟨a,dx,vs,[],e,hl,⟨by rw[r.length,hk.1,hr.length],hk.2⟩,r,⟨rfl,rfl⟩,hL a ha⟩
  | mod=>exact ha.elim
 | .exc c,_,fp,hp,h=>by
  unfold Rel at h
  obtain⟨a,e,hl,rfl⟩:=h
  simp only[PV.mapF]
  unfold Rel
  exact⟨a,e,hl,rfl⟩
theorem RelL.borrow(hB:∀a,B a->B' a)(hL:∀a,L a->B' a):∀{xs:List PV}{vs:List V}{fp:List Addr},(∀a∈fp,B' a)->RelL T F B L H xs vs fp->RelL T F B' L' H (mapL Fl.borrow xs) vs []
 | [],_,_,_,h=>by unfold RelL at h;simp only[mapL];unfold RelL;exact⟨h.1,rfl⟩
 | x::xs,_,fp,hp,h=>by
  unfold RelL at h
  obtain⟨v,ws,f1,f2,e,h1,h2,rfl⟩:=h
  simp only[mapL]
  unfold RelL
  exact⟨v,ws,[],[],e,Rel.borrow hB hL (fun b hb=>hp b (List.mem_append_left _ hb)) h1,RelL.borrow hB hL (fun b hb=>hp b (List.mem_append_right _ hb)) h2,rfl⟩
end
mutual
theorem dA:∀x:PV,(x.mapF Fl.borrow).has Fl.isOwn=false
 | .non | .bl _ | .int _ | .str _=>rfl
 | .lst f xs=>by simp only[PV.mapF,PV.has,borrow_ownL xs,Bool.or_false];cases f<;>rfl
 | .tup xs=>by simp only[PV.mapF,PV.has,borrow_ownL xs]
 | .obj f c ks xs=>by simp only[PV.mapF,PV.has,borrow_ownL xs,Bool.or_false];cases f<;>rfl
 | .exc _=>rfl
theorem borrow_ownL:∀xs:List PV,hasL Fl.isOwn (mapL Fl.borrow xs)=false
 | []=>rfl
 | x::xs=>by simp only[mapL,hasL,dA x,borrow_ownL xs,Bool.or_false]
end
def ItC(T:Tb)(F B L:Addr->Prop)(H1:Hp)(J:It)(xs:List PV):Prop :=
 ∀H2,Ext H1 H2->(∀(i:Nat) x,xs[i]?=some x->J.go i H2/\∀v H3,J.yld i H2 v H3->Ext H2 H3/\∃f,(∀a∈f,∃o,H1 a=some o)/\Rel T F B L H3 x v f)/\J.stop xs.length H2
theorem ItC.of0(h:∀H2,Ext H1 H2->(∀(i:Nat) x,xs[i]?=some x->J.go i H2/\∀v H3,J.yld i H2 v H3->H3=H2/\∃f,Rel T F B L H1 x v f)/\J.stop xs.length H2):ItC T F B L H1 J xs:=fun H2 hk=>by
 obtain⟨a,b⟩:=h H2 hk
 refine⟨fun i x e=>⟨(a i x e).1,fun v H3 hy=>?_⟩,b⟩
 obtain⟨rfl,f,r⟩:=(a i x e).2 v H3 hy
 exact⟨Ext.refl,f,fun a ha=>r.there a ha,r.ext hk fun _ h=>h⟩
def GIc(T:Tb)(W:Nat->St->Hp->Prop)(B F L:Addr->Prop)(σ:St)(H:Hp)(R:It->Hp->Prop):Res (List PV)->Prop
 | .ok xs=>∀J H1 F1,Gr F H F1 H1->ItC T F1 B L H1 J xs->R J H1
 | .exc c=>∀H',Ext H H'->W c σ H'
 | .stuck=>False
def tIc(T:Tb)(W:Nat->St->Hp->Prop)(m:MI):TI:=fun σ H R=>∃Z F env fp,aw T Z F H σ env fp/\GIc T W Z.B F (Own fp) σ H R (m env)
abbrev SIc(X:Cx)(T:Tb)(W:Nat->St->Hp->Prop)(tg iter:Expr)(m:MI):Prop:=PI X tg iter (tIc T W m)
def cr(m:ME):MI:=fun env=>(m env).bind fun x=>match bA x with
 | some xs=>.ok xs
 | none=>.stuck
section
variable{X:Cx}{T:Tb}{W:Nat->St->Hp->Prop}{Z:Zn}{F F1 B L:Addr->Prop}{H H1:Hp}{σ:St}{env:En}{fp:Nat->List Addr}{D:Ends}
theorem bK(hK:X.K=T.K)(he:SE X T W e m):SIc X T W tg e (cr m):=fun pins s σ H R I h=>rO he pins s σ H R I (by
 obtain⟨Z,F,env,fp,S,q⟩:=h
 unfold cr at q
 refine tE.bind S (fun c e=>by rw[e]at q;exact q) (fun e=>by rw[e]at q;exact q) fun x v H1 F1 f1 e1 g1 r1 n1 d1 w1=>?_
 rw[e1]at q
 simp only[Res.ok_bind]at q
 cases es:bA x with
 | none=>rw[es]at q;exact q.elim
 | some xs =>
  rw[es]at q
  obtain⟨a,vs,f',rfl,hs,hr,_⟩:=r1.seq es
  refine⟨a,rfl,?_⟩
  rw[hK]
  rcases hs with hs | hs
  ·refine .inl ⟨vs,hs,q _ H1 F1 g1 (ItC.of0 fun H2 hx=>?_)⟩
   have h2:SqL T.K H2 a vs:=by
    rcases hs with z | z
    ·exact .inl (Rd.tr (fun o q=>hx a o q) z)
    ·exact .inr z
   refine⟨fun i x ex=>?_,⟨vs,h2,by rw[hr.length];exact Nat.le_refl _⟩⟩
   obtain⟨v,f,ev,rv,_⟩:=hr.get ex
   refine⟨⟨vs,v,h2,ev⟩,fun w H3 hy=>⟨hy.1,f,?_⟩⟩
   have:=hy.2 vs h2
   rw[ev]at this
   cases this
   exact rv
  ·refine .inr ⟨vs,hs,q _ H1 F1 g1 (ItC.of0 fun H2 hx=>?_)⟩
   have h2:SqT T.K H2 a vs:=SqT.tr (fun o q _=>hx a o q) hs
   refine⟨fun i x ex=>?_,⟨vs,h2,by rw[hr.length];exact Nat.le_refl _⟩⟩
   obtain⟨v,f,ev,rv,_⟩:=hr.get ex
   refine⟨⟨vs,v,h2,ev⟩,fun w H3 hy=>⟨hy.1,f,?_⟩⟩
   have:=hy.2 vs h2
   rw[ev]at this
   cases this
   exact rv)
theorem vF:ItC T F1 B L H1 (Itr lo n) (gO lo n):=by
 apply ItC.of0
 intro H2 _
 refine⟨fun i x ex=>?_,by simp[gO,Itr]⟩
 have hi:i < n:=by
  have:=(List.getElem?_eq_some_iff.mp ex).1
  simpa[gO]using this
 refine⟨hi,fun v H3 hy=>⟨hy.1,[],?_⟩⟩
 obtain⟨_,rfl⟩:=hy
 have:x=.int (lo+(i:Nat)):=by
  simp[gO,hi]at ex
  exact ex.symm
 subst this
 exact cX
theorem cD(hg:Gl X "range")(hm:X.mg "range" = none)(ha:SA X T W [a] ms)(hs:starEach [a] X.env=[(false,eval a X.env)]:=by rfl):SIc X T W tg (.Call (.Name "range" p) [a] [] pos) (dU ms):=fun pins s σ H R I h=>jZ hg hm ha hs pins s σ H R I (by
 obtain⟨Z,F,env,fp,S,q⟩:=h
 unfold dU at q
 refine tA.bind S (fun c e=>by rw[e]at q;exact q) (fun e=>by rw[e]at q;exact q) fun xs vs H1 F1 f1 e1 g1 r1 n1 d1 w1=>?_
 rw[e1]at q
 simp only[Res.ok_bind]at q
 split at q
 ·rename_i n
  split at q
  ·rename_i hc
   obtain⟨v,rfl,r2⟩:=r1.one
   unfold Rel at r2
   obtain⟨rfl,_⟩:=r2
   have hc':-(2 ^ 62)<= n/\n < 2 ^ 62:=by simpa[inR]using hc
   exact⟨n,rfl,hc'.1,hc'.2,q _ H1 F1 g1 vF⟩
  ·exact q.elim
 ·exact q.elim)
abbrev WF:Nat->St->Hp->Prop:=fun _ _ _=>False
def STs(X:Cx)(T:Tb)(W:Nat->St->Hp->Prop)(ifs:List Expr)(m:MT):Prop :=
 ∀(pins:List (Addr×Obj)) (s:Shared) (σ:St) (H:Hp) (Q:Bool->Hp->Prop),L2.Inv X pins σ H s->tT T W m σ H Q ->
  wpAny (model X.prog X.w) X.A (forIn ifs true fun c r=>if r=true then do let ok <- isTrue c X.env (eval c X.env);pure (ForInStep.yield ok)else pure (ForInStep.yield r)) (TP X pins σ Q) X.xe s
def bG:MT:=fun _=>.ok true
theorem bC:STs X T W [] bG:=fun pins s σ H Q I ⟨Z,F,env,fp,S,q⟩=>wpAny_tests_nil ⟨H,I,q H F (Gr.refl S.hp.ft)⟩
theorem f7(h:ST X T W c m):STs X T W [c] m:=fun pins s σ H Q I q=>wpAny_tests_one (h pins s σ H Q I q)
structure dQ(g:TgM)(k:Nat):Prop where
 keep:∀x env e',g x env=some e'->e'.length=env.length/\∀j < k,e'[j]?=env[j]?
 own:∀x env e',g x env=some e'->x.has Fl.isOwn=false->∀(j:Nat) pv,e'[j]?=some (some pv)->env[j]?=some (some pv)\/ pv.has Fl.isOwn=false
structure Dh(g:nW)(k:Nat):Prop where
 keep:∀x env e',g x env=some e'->e'.length=env.length/\∀j < k,e'[j]?=env[j]?
 own:∀x env e',g x env=some e'->hasL Fl.isOwn x=false->∀(j:Nat) pv,e'[j]?=some (some pv)->env[j]?=some (some pv)\/ pv.has Fl.isOwn=false
theorem qz(h:k<=i):dQ (tgN i) k:=by
 refine⟨fun x env e' e=>?_,fun x env e' e hx j pv hj=>?_⟩
 ·unfold tgN at e
  split at e
  ·cases e
   exact⟨by simp,fun j hj=>List.getElem?_set_ne (by omega)⟩
  ·cases e
 ·unfold tgN at e
  split at e
  ·cases e
   by_cases hij:i=j
   ·subst hij
    have hl:i < env.length:=by
     have:=(List.getElem?_eq_some_iff.mp hj).1
     simpa using this
    rw[List.getElem?_set_self hl]at hj
    cases hj
    exact .inr hx
   ·rw[List.getElem?_set_ne hij]at hj
    exact .inl hj
  ·cases e
def cA(caps:List Nat)(k:Nat)(env:En):En:=caps.map (fun i=>((env[i]?).join).map PV.borrow)++ List.replicate k none
def b_(g:TgM)(mc:MT)(me:ME)(env:En):List PV->Res (List PV)
 | []=>.ok []
 | x::xs=>match g x.borrow env with
  | none=>.stuck
  | some e=>(mc e).bind fun b=>if b then(me e).bind fun y=>if y.has Fl.isBor||y.has Fl.isLnt then .stuck else(b_ g mc me env xs).bind fun ys=>.ok (y::ys)else b_ g mc me env xs
def bz(caps:List Nat)(k:Nat)(mi:MI)(g:TgM)(mc:MT)(me:ME):ME:=fun env=>(mi env).bind fun xs=>if xs.length <= 10000000 then (match b_ g mc me (cA caps k env) xs with
 | .ok ys=>.ok (.lst .own ys)
 | _=>.stuck)else .stuck
end
section
variable{prog:Program}{w:World}{A:Around}{R:Result->Shared->Prop}{s:Shared}
theorem gE(I:Nat->Shared->Prop)
  (turn:∀ n s,I n s->wpAny (model prog w) A (pyNext it) (fun r s₁=>match r with
   | none=>R (.ok .next) s₁
   | some v=>wpAny (model prog w) A (letOwnedTupleGo target it v) (fun _ s₁'=>wpAny (model prog w) A (assign target env v) (fun _ s₂ =>
     wpAny (model prog w) A (forIn ifs true fun c r=>if r=true then do let ok <- isTrue c env (eval c env);pure (ForInStep.yield ok) else pure (ForInStep.yield r)) (fun ok s₃ =>
      if ok=true then wpAny (model prog w) A (eval elt env) (fun x s₄ =>
       wpAny (model prog w) A (call (.builtin "list.append") [acc,x]) (fun _ s₅=>∃m,m < n/\I m s₅) (notedBy (model prog w) A env fun e s'=>R (.error e) s') s₄) (notedBy (model prog w) A env fun e s'=>R (.error e) s') s₃
      else ∃m,m < n/\I m s₃) (notedBy (model prog w) A env fun e s'=>R (.error e) s') s₂) (notedBy (model prog w) A env fun e s'=>R (.error e) s') s₁') (notedBy (model prog w) A env fun e s'=>R (.error e) s') s₁) (notedBy (model prog w) A env fun e s'=>R (.error e) s') s)
  (n:Nat) (h:I n s) :
  codeAny (model prog w) A (.compLoop (.ListComp elt [⟨target,iter,ifs,0⟩] scope pos) 0 it acc env) R s:=by
 refine codeAny_loop rfl I (fun n s hI=>?_) n h
 show wpAny _ A ((compTurn (.ListComp elt [⟨target,iter,ifs,0⟩] scope pos) 0 it acc env).onRaise (fun x=>do noteFrame x env;theTreesLotGoes x)) _ _ s
 refine wpAny_noted ?_
 rw[compTurn_list]
 refine wpAny_bind (wpAny_standAt (wpAny_bind (wpAny_mono (turn n s hI) (fun r s₁ h₁=>?_) fun _ _ h'=>h')))
 cases r with
 | none=>exact wpAny_pure h₁
 | some v =>
  refine wpAny_bind (wpAny_mono h₁ (fun _ s₁' h₁'=>?_) fun _ _ h'=>h')
  refine wpAny_bind (wpAny_mono h₁' (fun _ s₂ h₂=>wpAny_bind (wpAny_mono h₂ (fun ok s₃ h₃=>?_) fun _ _ h'=>h')) fun _ _ h'=>h')
  cases ok with
  | false=>exact wpAny_pure ⟨rfl,h₃⟩
  | true =>
   exact wpAny_bind (wpAny_bind (wpAny_mono h₃ (fun x s₄ h₄=>wpAny_bind (wpAny_mono h₄ (fun _ s₅ h₅=>wpAny_pure (wpAny_pure ⟨rfl,h₅⟩)) fun _ _ h'=>h')) fun _ _ h'=>h'))
end
end PR
namespace PR
open PySem PySem.Spec L2
section
variable{X:Cx}{T:Tb}{W:Nat->St->Hp->Prop}{Z:Zn}{F F1 B L:Addr->Prop}{H H1:Hp}{σ:St}{env:En}{fp:Nat->List Addr}{D:Ends}
theorem aw.wk(S:aw T Z F H σ env fp)(hpin:Z.pin=none)(hl:e2.length=env.length)(h:∀(i:Nat) pv,e2[i]?=some (some pv)->env[i]?=some (some pv)):aw T Z F H σ e2 fp :=
 ⟨S.hp,S.len.trans hl.symm,fun i pv e=>S.rel i pv (h i pv e),S.nd,S.dj,S.dis,S.new,S.ch,fun v hv=>by rw[hpin]at hv;cases hv⟩
theorem aw.noOwn(S:aw T Z F H σ env fp)(h:∀(i:Nat) pv,env[i]?=some (some pv)->pv.has Fl.isOwn=false):aw T Z F H σ env (fun _=>[]) :=
 ⟨S.hp,S.len,fun i pv e=>by
  obtain⟨v,h1,h2⟩:=S.rel i pv e
  have:=Rel.noOwn (h i pv e) h2
  rw[this]at h2
  exact⟨v,h1,h2⟩,fun _=>List.nodup_nil,fun _ _ _ _ z=>(nomatch z),fun _ _ z=>(nomatch z),fun _ _ z=>(nomatch z),fun _ _ z=>(nomatch z),S.pn⟩
theorem aw.updD(S:aw T Z F H σ env (fun _=>[]))(hF:¬F Dd)(h0:Z.H0 Dd=none)(hD:H Dd=some o)(hfx:¬ir o):aw T Z F (upd H Dd o') σ env (fun _=>[]):=by
 have ne:∀a u,H a=some u->(F a\/Z.B a\/NoL a\/ir u)->a≠Dd:=fun a u e h z=>by
  subst z
  rcases h with h | h | h | h
  ·exact hF h
  ·obtain⟨⟨u',e'⟩,_⟩:=S.hp.bo _ h
   rw[h0]at e';cases e'
  ·exact h
  ·rw[hD]at e;cases e;exact hfx h
 refine⟨⟨S.hp.bo,fun a u e n=>?_,S.hp.f0,S.hp.fn,fun a h=>?_⟩,S.len,fun i pv e=>?_,S.nd,S.dj,fun _ _ z=>(nomatch z),S.new,fun _ _ z=>(nomatch z),S.pn⟩
 ·have:a≠Dd:=fun z=>by rw[z,h0]at e;cases e
  rw[aE this]
  exact S.hp.keep a u e n
 ·obtain⟨u,e⟩:=S.hp.ft a h
  exact⟨u,by rw[aE (show a≠Dd from fun z=>hF (by rw[<- z];exact h))];exact e⟩
 ·obtain⟨v,h1,h2⟩:=S.rel i pv e
  refine⟨v,h1,Rel.tr (fun _ h=>h) (fun _ h=>h) (fun _ h=>h) (fun a u q h=>?_) (fun _ z=>(nomatch z)) h2⟩
  rw[aE (ne a u q h)]
  exact q
def zC(F:Addr->Prop)(H:Hp):Zn:=⟨H,F,fun _=>False,fun a=>∃o,H a=some o,none⟩
theorem kc(S:aw T Z F H σ env fp)(hD:H Dd=none)(hFD:¬F Dd) :
  aw T (zC F H) F (upd H Dd (.lst [])) (jH caps k σ) (cA caps k env) (fun _=>[]):=by
 have ext:Ext H (upd H Dd (.lst [])):=Ext.upd hD
 refine⟨⟨fun a h=>⟨h,fun z=>z⟩,fun a o h _=>ext a o h,fun _ h=>h,fun _ h=>.inl h,fun a h=>let⟨o,e⟩:=S.hp.ft a h;⟨o,ext a o e⟩⟩,by simp[jH,cA],fun i pv e=>?_,fun _=>List.nodup_nil,fun _ _ _ _ z=>(nomatch z),fun _ _ z=>(nomatch z),fun _ _ z=>(nomatch z),fun _ _ z=>(nomatch z),fun _ h=>(nomatch h)⟩
 unfold cA at e
 unfold jH
 by_cases hi:i < caps.length
 ·rw[List.getElem?_append_left (by simpa using hi),List.getElem?_map]at e ⊢
  obtain⟨j,hj,e2⟩:=Option.map_eq_some_iff.mp e
  rw[hj]
  obtain⟨pv0,e3,rfl⟩:=Option.map_eq_some_iff.mp e2
  have e4:env[j]?=some (some pv0):=by
   cases e5:env[j]? with
   | none=>rw[e5]at e3;cases e3
   | some w=>rw[e5]at e3;simp only[Option.join_some]at e3;rw[e3]
  obtain⟨v,h1,h2⟩:=S.rel j pv0 e4
  refine⟨v,by simp[h1],?_⟩
  refine Rel.borrow (B:=fun a=>∃o,H a=some o) (L:=NoL) (fun _ h=>h) (fun _ h=>h.elim) (fun a ha=>(S.dis j a ha).2) ?_
  exact Rel.tr (fun _ h=>h) (fun a h=>let⟨⟨o,h1⟩,h2⟩:=S.hp.bo a h;⟨o,S.hp.keep a o h1 h2⟩) (fun _ h=>h) (fun a o q _=>ext a o q) (fun a _ o q=>ext a o q) h2
 ·rw[List.getElem?_append_right (by simpa using hi),List.getElem?_replicate]at e
  split at e<;>cases e
set_option maxHeartbeats 1000000 in
theorem j9
  (cs:bU X scope caps N tn) (hc:X.calm=true) (hi:SIc X T W tg iter mi) (hk:dQ g caps.length)
  (hb:∀C s H ex,SG (cxC X scope C N s H ex) T tg g/\STs (cxC X scope C N s H ex) T WF ifs mc/\SE (cxC X scope C N s H ex) T WF elt me)
  (hs:∀x,foldedSetIterable iter X.env x=pure x) (I:L2.Inv X pins σ H s) (h:tE T W (bz caps tn.length mi g mc me) σ H Q)
  (hfin:∀(Dd C:Addr) (H':Hp) (s6:Shared) (m:Str->Option Value),Q (.ref Dd) H'->L2.Inv X pins σ H' s6->s6.heap.Ns C m->H' C=none->C≠X.env.locals->C∉X.fs->X.s₀.heap.objs.size<=C->(∀x c,X.env.cells.lookup x=some c->c≠C)->(∀p∈X.pn++pins,p.1≠C)->compPost (model X.prog X.w) X.A X.xe use Q' (.ref Dd) C (.ok .next) s6) :
  wpAny (model X.prog X.w) X.A (comprehension (.ListComp elt [⟨tg,iter,ifs,0⟩] scope pos) scope X.env p' (newList []) false (eval iter X.env) use) Q' X.xe s:=by
 obtain⟨Z,F,env,fp,S,q⟩:=h
 unfold bz at q
 refine wpAny_comprehension_free (use:=use) rfl hs (fE fun y hy hf=>I.ok.has y.1 (cs.free y hy hf)) cs.kind cs.names ?_
 refine thn (hi pins s σ H (fun J H1=>∃F1 xs,mi env=.ok xs/\Gr F H F1 H1/\ItC T F1 Z.B (Own fp) H1 J xs) I ⟨Z,F,env,fp,S,?_⟩) fun xv s1 h1=>thn h1 fun itv s2 h2=>?_
 ·cases em:mi env with
  | ok xs=>exact fun J H1 F1 g1 it=>⟨F1,xs,rfl,g1,it⟩
  | exc c | stuck=>rw[em]at q;exact q
 obtain⟨it,fpi,tn_,J,H2,rfl,I2,Tn,st2,f2,F1,xs,em,g1,itc⟩:=h2
 rw[em]at q
 simp only[Res.ok_bind]at q
 split at q
 case isFalse=>exact q.elim
 rename_i hlen
 cases ec:b_ g mc me (cA caps tn.length env) xs with
 | exc c | stuck=>rw[ec]at q;exact q.elim
 | ok full =>
 rw[ec]at q
 dsimp only at q
 have S2:=S.grow g1
 have hlt:∀b∈fpi,b < s2.heap.objs.size:=fun b hb=>by
  obtain⟨o,ho,_⟩:=Tn.obj 0 _ st2 b hb
  exact Heap.lt_size ho
 refine PySem.wpAny_newObj_type (il fun h₁ hns₁ hsb₁ hcl₁=>?_)
 dsimp only at hns₁ hsb₁ hcl₁ ⊢
 generalize hH2:s2.heap.push { cls:=.type "list", dict:=none,data:=.seq ([]:List Value).toArray }=P2 at hns₁ hsb₁ hcl₁ ⊢
 have hC:P2.objs.size=s2.heap.objs.size+1:=by rw[<- hH2,Heap.size_push]
 have old:∀b o,s2.heap.get? b=some o->h₁.get? b=some o:=fun b o e=>hsb₁ b o (hH2▸Heap.get?_push_of_some _ e)
 have hDo:h₁.get? s2.heap.objs.size=some { cls:=.type "list", data:=.seq ([]:List Value).toArray }:=hsb₁ _ _ (hH2▸Heap.get?_push_size _ rfl)
 rw[hC]at hns₁ hcl₁
 have inv0:=lW (t:=s2.toks) cs I2 f2 hlt hns₁ hDo old hcl₁
 have hDH:H2 s2.heap.objs.size=none:=I2.hok.fresh (Nat.le_refl _)
 have hDF:¬F1 s2.heap.objs.size:=fun z=>by obtain⟨o,e⟩:=g1.dom _ z;rw[hDH]at e;cases e
 have SB:=kc (caps:=caps) (k:=tn.length) S2 hDH hDF
 obtain⟨hgN,hts,hel⟩:=hb (s2.heap.objs.size+1) s2 H2 fpi
 have never:∀{α:Type}{t:Sem α}{Qa:α->Shared->Prop}{E':Value->Shared->Prop}{s':Shared},wpAny (model X.prog X.w) X.A t Qa (fun _ _=>False) s'->wpAny (model X.prog X.w) X.A t Qa E' s':=fun h=>wpAny_mono h (fun _ _ x=>x) fun _ _ z=>z.elim
 have fpok:∀{H':Hp}{pins':List (Addr×Obj)},(∀p∈pins',p.1∉fpi)->(∀b∈fpi,H' b=none)->∀b∈fpi,iA (cxC X scope (s2.heap.objs.size+1) N s2 H2 fpi) pins' H' b:=fun {H' pins'} hp hn b hb=>by
  refine⟨hn b hb,Nat.ne_of_lt (Nat.lt_succ_of_lt (hlt b hb)),(jx cs I2 f2 hlt (Nat.le_succ _)).exfs b hb,.inl hb,((jx cs I2 f2 hlt (Nat.le_succ _)).exf b hb).2,fun p hp' z=>?_⟩
  rcases List.mem_append.mp hp' with w | w
  ·exact absurd (show p ∈([]:List (Addr×Obj))from w) (by simp)
  ·exact hp p w (z▸hb)
 have key:∀s4:Shared,L2.Inv (cxC X scope (s2.heap.objs.size+1) N s2 H2 fpi) [] (jH caps tn.length σ) (upd H2 s2.heap.objs.size (.lst [])) s4->tn_ 0 s4.heap ->
   codeAny (model X.prog X.w) X.A (.compLoop (.ListComp elt [⟨tg,iter,ifs,0⟩] scope pos) 0 (.ref it) (.ref s2.heap.objs.size) (compEnvC scope (jG X scope (s2.heap.objs.size+1)) (s2.heap.objs.size+1) X.env))
    (compPost (model X.prog X.w) X.A X.xe use Q' (.ref s2.heap.objs.size) (s2.heap.objs.size+1)) s4:=by
  intro s4 inv4 st4
  refine gE (fun n s'=>∃ (i:Nat) (σ':St) (H':Hp) (Fi:Addr->Prop) (ys zs:List PV) (vs:List V) (f:List Addr),n=xs.length - i/\i <= xs.length/\L2.Inv (cxC X scope (s2.heap.objs.size+1) N s2 H2 fpi) [] σ' H' s'/\tn_ i s'.heap/\(∀ b ∈ fpi,H' b=none) /\
   aw T (zC F1 H2) Fi H' σ' (cA caps tn.length env) (fun _=>[])/\H' s2.heap.objs.size=some (.lst vs)/\RelL T Fi Z.B (Own fp) H' ys vs f/\f.Nodup/\(∀a∈f,¬Fi a/\H2 a=none/\a≠s2.heap.objs.size)/\¬Fi s2.heap.objs.size/\ys.length<=i /\
   b_ g mc me (cA caps tn.length env) (xs.drop i)=.ok zs/\full=ys++zs) ?_ xs.length ?_
  case refine_2 =>
   refine⟨0,_,_,F1,[],full,[],[],by simp,Nat.zero_le _,inv4,st4,fun b hb=>?_,SB,aX,by unfold RelL;exact⟨rfl,rfl⟩,List.nodup_nil,fun _ z=>(nomatch z),hDF,Nat.zero_le _,ec,rfl⟩
   rw[aE (Nat.ne_of_lt (hlt b hb))]
   exact(f2 b hb).1
  rintro n s5 ⟨i,σ',H',Fi,ys,zs,vs,f,rfl,hil,inv5,st5,fr5,SI5,hD5,ry,nd5,nf5,nFD,hyl,ecl,efull⟩
  have ext5:Ext H2 H':=fun a o e=>SI5.hp.keep a o e fun z=>z
  have gr5:Gr F1 H2 Fi H':=⟨ext5,SI5.hp.f0,fun a h=>by
   rcases SI5.hp.fn a h with z | z | z
   ·exact .inl z
   ·exact .inr z
   ·exact z.elim,SI5.hp.ft⟩
  obtain⟨go,stop⟩:=itc H' ext5
  by_cases hlt5:i < xs.length
  ·have hx:xs[i]?=some xs[i]:=by simp[hlt5]
   obtain⟨g5,yl⟩:=go i _ hx
   rw[List.drop_eq_getElem_cons hlt5]at ecl
   unfold b_ at ecl
   cases eg:g xs[i].borrow (cA caps tn.length env)with
   | none=>rw[eg]at ecl;cases ecl
   | some e' =>
   rw[eg]at ecl
   dsimp only at ecl
   refine thn (Tn.item (cxC X scope (s2.heap.objs.size+1) N s2 H2 fpi) rfl rfl rfl hc i [] s5 σ' H' _ inv5 (fpok (fun _ z=>absurd z (by simp)) fr5) st5 g5) fun r s6 ⟨u,hr,h6⟩=>?_
   subst hr
   refine thn h6 fun _ s7 ⟨v,H7,inv7,rv,yy,st7,fr7⟩=>?_
   obtain⟨ex7,fx,tx,rx⟩:=yl v H7 yy
   replace SI5:=SI5.grow (Gr.same SI5.hp.ft ex7)
   replace ry:=ry.ext ex7 fun _ h=>h
   replace hD5:=ex7 _ _ hD5
   replace gr5:=gr5.trans (Gr.same gr5.dom ex7)
   replace ext5:=gr5.ext
   have pinv:=inv7.pinned (fpok (fun _ z=>absurd z (by simp)) fr7) (Tn.obj _ _ st7)
   have rxb:Rel T Fi (zC F1 H2).B NoL H7 xs[i].borrow v []:=by
    refine Rel.borrow (B:=fun a=>∃o,H2 a=some o) (L:=Own fp) (fun _ h=>h) (fun a ⟨j,hj⟩=>(S2.dis j a hj).2) (fun a ha=>tx a ha) ?_
    exact Rel.tr SI5.hp.f0 (fun a h=>let⟨⟨o,h1⟩,h2⟩:=S2.hp.bo a h;⟨o,S2.hp.keep a o h1 h2⟩) (fun _ h=>h) (fun a o q _=>q) (fun a _ o q=>q) rx
   refine never (thn (hgN _ s7 σ' H7 v u (fun σ8 H8=>H8=H7/\∃fp8,aw T (zC F1 H2) Fi H7 σ8 e' fp8) pinv rv ⟨zC F1 H2,Fi,cA caps tn.length env,fun _=>[],xs[i].borrow,[],SI5,rxb,nY.nil,?_⟩) fun _ s8 ⟨σ8,H8,inv8,e8,fp8,S8⟩=>?_)
   ·rw[eg]
    exact fun σ8 fp8 S8=>⟨rfl,fp8,S8⟩
   subst e8
   obtain⟨kl,kk⟩:=hk.keep _ _ _ eg
   have capOwn:∀(j:Nat) pv,(cA caps tn.length env)[j]?=some (some pv)->pv.has Fl.isOwn=false:=fun j pv ej=>by
    unfold cA at ej
    by_cases hj:j < caps.length
    ·rw[List.getElem?_append_left (by simpa using hj),List.getElem?_map]at ej
     obtain⟨jj,_,e2⟩:=Option.map_eq_some_iff.mp ej
     obtain⟨pv0,_,rfl⟩:=Option.map_eq_some_iff.mp e2
     exact dA pv0
    ·rw[List.getElem?_append_right (by simpa using hj),List.getElem?_replicate]at ej
     split at ej<;>cases ej
   have S8':aw T (zC F1 H2) Fi H8 σ8 e' (fun _=>[]):=S8.noOwn fun j pv ej=>by
    rcases hk.own _ _ _ eg (dA _) j pv ej with z | z
    ·exact capOwn j pv z
    ·exact z
   have back:∀{F9:Addr->Prop}{H9:Hp},aw T (zC F1 H2) F9 H9 σ8 e' (fun _=>[])->aw T (zC F1 H2) F9 H9 σ8 (cA caps tn.length env) (fun _=>[]):=fun S9=>S9.wk rfl kl.symm fun j pv ej=>by
    have hj:j < caps.length:=by
     by_cases hj:j < caps.length
     ·exact hj
     ·unfold cA at ej
      rw[List.getElem?_append_right (by simpa using hj),List.getElem?_replicate]at ej
      split at ej<;>cases ej
    rw[kk j hj]
    exact ej
   have pinback:∀{H9:Hp}{s9:Shared},L2.Inv (cxC X scope (s2.heap.objs.size+1) N s2 H2 fpi) ([]++ gR fpi s7.heap) σ8 H9 s9->L2.Inv (cxC X scope (s2.heap.objs.size+1) N s2 H2 fpi) [] σ8 H9 s9/\tn_ (i+1) s9.heap/\∀b∈fpi,H9 b=none:=fun {H9 s9} i9 =>
    ⟨i9.unpinned,Tn.keep _ _ _ st7 fun b hb o e=>(i9.pin (b,o) (List.mem_append_right _ (List.mem_append_right _ (cE hb e)))).1,fun b hb=>by
     obtain⟨o,e,_⟩:=Tn.obj _ _ st7 b hb
     exact(i9.pin (b,o) (List.mem_append_right _ (List.mem_append_right _ (cE hb e)))).2.1⟩
   cases emc:mc e' with
   | exc c | stuck=>rw[emc]at ecl;cases ecl
   | ok bb =>
   rw[emc]at ecl
   simp only[Res.ok_bind]at ecl
   refine never (thn (hts _ s8 σ8 H8 (fun b H9=>b=bb/\∃F9,Gr Fi H8 F9 H9) inv8 ⟨zC F1 H2,Fi,e',fun _=>[],S8',?_⟩) fun ok s9 ⟨H9,inv9,eb,F9,g9⟩=>?_)
   ·rw[emc]
    exact fun H9 F9 g9=>⟨rfl,F9,g9⟩
   subst eb
   have S9:=S8'.grow g9
   have ry9:=ry.ext g9.ext g9.mono
   have nf9:∀a∈f,¬F9 a:=fun a ha z=>by
    rcases g9.only a z with z | z
    ·exact(nf5 a ha).1 z
    ·obtain⟨o,e⟩:=ry.there a ha
     rw[e]at z;cases z
   have nFD9:¬F9 s2.heap.objs.size:=fun z=>by
    rcases g9.only _ z with z | z
    ·exact nFD z
    ·rw[hD5]at z;cases z
   cases ok with
   | false =>
    simp only[Bool.false_eq_true,if_false]at ecl ⊢
    obtain⟨i10,st10,fr10⟩:=pinback inv9
    exact⟨xs.length - (i+1),by omega,i+1,σ8,H9,F9,ys,zs,vs,f,rfl,hlt5,i10,st10,fr10,back S9,g9.ext _ _ hD5,ry9,nd5,fun a ha=>⟨nf9 a ha,(nf5 a ha).2⟩,nFD9,by omega,ecl,efull⟩
   | true =>
    simp only[if_true]at ecl ⊢
    cases eme:me e' with
    | exc c | stuck=>rw[eme]at ecl;cases ecl
    | ok y =>
    rw[eme]at ecl
    simp only[Res.ok_bind]at ecl
    split at ecl
    case isTrue=>cases ecl
    rename_i hyb
    simp only[Bool.or_eq_true,not_or,Bool.not_eq_true]at hyb
    cases ecr:b_ g mc me (cA caps tn.length env) (xs.drop (i+1))with
    | exc c | stuck=>rw[ecr]at ecl;cases ecl
    | ok zs' =>
    rw[ecr]at ecl
    simp only[Res.ok_bind]at ecl
    cases ecl
    refine never (thn (hel _ s9 σ8 H9 (fun v' H10=>∃F10 f10,Gr F9 H9 F10 H10/\Rel T F10 (zC F1 H2).B (Own fun _=>[]) H10 y v' f10/\(∀a∈f10,¬F10 a)/\f10.Nodup/\∀a∈f10,H9 a=none) inv9 ⟨zC F1 H2,F9,e',fun _=>[],S9,?_⟩) fun w s10 ⟨v',H10,inv10,rw10,F10,f10,g10,r10,n10,d10,w10⟩=>?_)
    ·rw[eme]
     exact fun v' H10 F10 f10 g10 r10 n10 d10 w10=>⟨F10,f10,g10,r10,n10,d10,w10⟩
    have hvl:vs.length < sizeLine:=by
     have h1:=ry.length
     have h2:sizeLine=16777216:=sizeLine_eq
     omega
    have hD10:H10 s2.heap.objs.size=some (.lst vs):=g10.ext _ _ (g9.ext _ _ hD5)
    refine never (thn (gX _ s10 σ8 H10 (.ref s2.heap.objs.size) [v'] (.ref s2.heap.objs.size) [w] (fun _ H11=>H11=upd H10 s2.heap.objs.size (.lst (vs++[v']))) inv10 rfl (.cons rw10 .nil) ⟨s2.heap.objs.size,vs,v',rfl,rfl,hD10,hvl,rfl⟩) fun _ s11 ⟨_,H11,inv11,_,e11⟩=>?_)
    subst e11
    obtain⟨i12,st12,fr12⟩:=pinback inv11
    have S10:=S9.grow g10
    have nFD10:¬F10 s2.heap.objs.size:=fun z=>by
     rcases g10.only _ z with z | z
     ·exact nFD9 z
     ·rw[g9.ext _ _ hD5]at z;cases z
    have ry10:=ry9.ext g10.ext g10.mono
    have ryy:RelL T F10 Z.B (Own fp) (upd H10 s2.heap.objs.size (.lst (vs++[v']))) (ys++[y]) (vs++[v']) (f++f10):=by
     have ry1:Rel T F10 Z.B (Own fp) H10 y v' f10:=Rel.noL hyb.2 (Rel.noB (B':=Z.B) hyb.1 r10)
     have all:RelL T F10 Z.B (Own fp) H10 (ys++[y]) (vs++[v']) (f++f10):=RelL.append ry10 (by unfold RelL;exact⟨v',[],f10,[],rfl,ry1,by unfold RelL;exact⟨rfl,rfl⟩,by simp⟩)
     refine RelL.tr (fun _ h=>h) (fun _ h=>h) (fun _ h=>h) (fun a o e h=>?_) (fun a ha o e=>?_) all
     ·refine(aE fun z=>?_).trans e
      subst z
      rcases h with h | h | h | h
      ·exact nFD10 h
      ·obtain⟨⟨o',h1⟩,h2⟩:=S2.hp.bo _ h
       rw[S2.hp.keep _ o' h1 h2]at hDH;cases hDH
      ·obtain⟨j,hj⟩:=h
       obtain⟨_,o',ho'⟩:=S2.dis j _ hj
       rw[hDH]at ho';cases ho'
      ·rw[hD10]at e;cases e;exact h
     ·refine(aE fun z=>?_).trans e
      subst z
      rcases List.mem_append.mp ha with ha | ha
      ·exact(nf5 _ ha).2.2 rfl
      ·have:=w10 _ ha
       rw[g9.ext _ _ hD5]at this;cases this
    have nf10:∀a∈f,¬F10 a:=fun a ha z=>by
     rcases g10.only a z with z | z
     ·exact nf9 a ha z
     ·obtain⟨o,e⟩:=ry9.there a ha
      rw[e]at z;cases z
    refine⟨xs.length - (i+1),by omega,i+1,σ8,_,F10,ys++[y],zs',vs++[v'],f++f10,rfl,hlt5,i12,st12,fr12,back (S10.updD nFD10 hDH hD10 (fun z=>z)),aX,ryy,?_,fun a ha=>?_,nFD10,by simp;omega,ecr,by rw[efull,List.append_assoc];rfl⟩
    ·refine List.nodup_append.mpr ⟨nd5,d10,fun a ha b hb z=>?_⟩
     subst z
     obtain⟨o,e⟩:=ry9.there a ha
     rw[w10 a hb]at e;cases e
    ·rcases List.mem_append.mp ha with ha | ha
     ·exact⟨nf10 a ha,(nf5 a ha).2⟩
     ·refine⟨n10 a ha,?_,fun z=>?_⟩
      ·have:=w10 a ha
       exact ext5.free (g9.ext.free this)
      ·subst z
       have:=w10 _ ha
       rw[g9.ext _ _ hD5]at this;cases this
  ·have e:i=xs.length:=by omega
   subst e
   rw[List.drop_length]at ecl
   unfold b_ at ecl
   cases ecl
   rw[List.append_nil]at efull
   subst efull
   refine thn (Tn.done (cxC X scope (s2.heap.objs.size+1) N s2 H2 fpi) rfl rfl rfl hc xs.length [] s5 σ' H' _ inv5 (fpok (fun _ z=>absurd z (by simp)) fr5) st5 stop) fun r s6 ⟨hr,inv6⟩=>?_
   subst hr
   obtain⟨m,hn,_⟩:=id inv6.loc
   have hlc:X.env.locals < s2.heap.objs.size+1:=Nat.lt_succ_of_lt I2.lt
   have iX:L2.Inv X pins σ H' s6:=I2.call' inv6.os inv6.base inv6.hok inv6.bare fun b hb=>⟨(f2 b hb).2.2.2.1,(f2 b hb).2.1,(f2 b hb).2.2.2.2.1,(f2 b hb).2.2.2.2.2⟩
   refine hfin _ (s2.heap.objs.size+1) H' s6 m ?_ iX hn inv6.free (Nat.ne_of_gt hlc) (I2.nofs (Nat.le_succ _)) (Nat.le_trans I2.sz (Nat.le_succ _)) (fun x c e z=>?_) (fun p hp z=>?_)
   case refine_2 =>
    obtain⟨v,hv⟩:=I2.cell x c e
    rw[z]at hv
    exact absurd hv.lt (Nat.not_lt.mpr (Nat.le_succ _))
   case refine_3 =>
    have:=Heap.lt_size (I2.pin p hp).1
    rw[z]at this
    exact absurd this (Nat.not_lt.mpr (Nat.le_succ _))
   refine q (.ref s2.heap.objs.size) H' Fi (s2.heap.objs.size::f) (g1.trans gr5) ?_ (fun a ha=>?_) ?_ (fun a ha=>?_)
   ·unfold Rel
    exact⟨_,vs,f,rfl,hD5,ry,rfl⟩
   ·rcases List.mem_cons.mp ha with rfl | ha
    ·exact nFD
    ·exact(nf5 a ha).1
   ·exact List.nodup_cons.mpr ⟨fun z=>(nf5 _ z).2.2 rfl,nd5⟩
   ·rcases List.mem_cons.mp ha with rfl | ha
    ·exact g1.ext.free hDH
    ·exact g1.ext.free (nf5 a ha).2.1
 have st0:tn_ 0 h₁:=Tn.keep _ _ _ st2 fun b _ o e=>old b o e
 have lp:=key _ inv0 st0
 simp only[hC]
 exact codeAny_compStart_list lp (Tn.self _ 0 _ _ _ st0 lp)
theorem uC
  (cs:bU X scope caps N tn) (hc:X.calm=true) (hi:SIc X T W tg iter mi) (hk:dQ g caps.length)
  (hb:∀C s H ex,SG (cxC X scope C N s H ex) T tg g/\STs (cxC X scope C N s H ex) T WF ifs mc/\SE (cxC X scope C N s H ex) T WF elt me)
  (hs:∀x,foldedSetIterable iter X.env x=pure x:=by intro _;rfl):SE X T W (.ListComp elt [⟨tg,iter,ifs,0⟩] scope pos) (bz caps tn.length mi g mc me):=by
 intro pins s σ H Q I h
 rw[eval_ListComp]
 refine j9 cs hc hi hk hb hs I h fun Dd C H' s6 m hq iX hn hCn hCl hCf hC0 hCc hCp=>⟨m,hn,fun h' hs'=>⟨.ref Dd,H',?_,rfl,hq⟩⟩
 exact iX.turned (t':=s6.toks) (fun b o hb e=>(hs'.2 b hb).trans e) hCn hCl (.inr hC0) hCc hCp
theorem uk
  (cs:bU X scope caps N tn) (hc:X.calm=true) (hN:X.N.Nodup) (hy:X.N[i]?=some y) (hx:Loc X.env.scope y) (hi:SIc X T W tg iter mi) (hk:dQ g caps.length)
  (hb:∀C s H ex,SG (cxC X scope C N s H ex) T tg g/\STs (cxC X scope C N s H ex) T WF ifs mc/\SE (cxC X scope C N s H ex) T WF elt me)
  (hsw:swapsWith (.ListComp elt [⟨tg,iter,ifs,0⟩] scope pos) (some (.Name y py)) spos.line X.env=pure true:=by rfl)
  (hs:∀x,foldedSetIterable iter X.env x=pure x:=by intro _;rfl)
  (hf:X.fn y=true\/X.env.scope.names.lookup y=some .local:=by first | exact .inl rfl | exact .inr rfl | assumption) :
  SS X T W (.Assign [.Name y py] (.ListComp elt [⟨tg,iter,ifs,0⟩] scope pos) spos) (aD i (bz caps tn.length mi g mc me)):=by
 intro pins s σ H D I h
 obtain⟨Z,F,env,fp,S,q⟩:=h
 unfold aD at q
 rw[exec_Assign_Name_used _ _ _ _ hsw]
 refine wpAny_bind (wpAny_standAt (wpAny_bind ?_))
 show wpAny _ X.A (do let _ <- comprehension (.ListComp elt [⟨tg,iter,ifs,0⟩] scope pos) scope X.env _ (newList []) false (eval iter X.env) (some (assign (.Name y py) X.env))) _ _ s
 refine wpAny_bind (wpAny_mono (j9 (use:=some (assign (.Name y py) X.env)) (Q':=fun _ s'=>SP X pins D .next s') (Q:=fun v H1=>D.nx (σ.set i (some v)) H1) cs hc hi hk hb hs I ?_ fun Dd C H' s6 m hq iX hn hCn hCl hCf hC0 hCc hCp=>?_) (fun _ s' hq=>wpAny_pure (wpAny_pure hq)) fun _ _ e=>e)
 ·refine tE.bind S (fun c e H' x=>?_) (fun e=>by rw[e]at q;exact q) fun pv v H1 F1 f e g r h1 h2 h3=>?_
  ·rw[e]at q
   exact q F H' σ fp (S.grow (Gr.same S.hp.ft x))
  ·rw[e]at q
   simp only at q
   split at q
   ·rename_i hl
    rw[Bool.and_eq_true]at hl
    exact q F1 H1 _ _ (S.putN g hl.2 r hl.1 h1 h2 h3)
   ·exact q.elim
 ·refine wpAny_assign_Name (jS (v:=.ref Dd) (u:=.ref Dd) iX hN hy hx rfl (fun s7 i7 ⟨a,hsa,ha⟩=>?_) hf)
  have hCa:C≠a:=by
   rcases ha with ha | ha
   ·rw[ha];exact hCl
   ·exact fun z=>hCc y a ha z.symm
  refine⟨m,hn.sameBut hsa hCa,fun h' hs'=>⟨_,H',?_,hq⟩⟩
  exact i7.turned (t':=s7.toks) (fun b o hb e=>(hs'.2 b hb).trans e) hCn hCl (.inr hC0) hCc hCp
end
def GFI(T:Tb)(Z:Zn)(v0:V)(Q:VK)(E:XK):Res PV->Prop
 | .ok pv=>∀F H f,dC T Z F H->Rel T F Z.B NoL H pv v0 f->f.Nodup->(∀a∈f,¬F a)->(∀a∈f,Z.H0 a=none\/Z.fp0 a)->Q .non H
 | .exc c=>∀H,(∀a o,Z.H0 a=some o->¬Z.fp0 a->H a=some o)->E (.ref (T.xcl c)) none H
 | .stuck=>False
def spI(T:Tb)(n:Nat)(m:List PV->Res PV):Sp:=fun vs H Q E=>vs.length=n/\∃v0 pvs F B f,vs[0]?=some v0/\qt T F B H pvs vs f/\(∃fl c ks xs,pvs[0]?=some (.obj fl c ks xs))/\GFI T ⟨H,F,(·∈f),B,some v0⟩ v0 Q E (m pvs)
def gN(n:Nat)(m:MS)(args:List PV):Res PV:=match m (args.map some++List.replicate (n - args.length) none)with
 | .next e=>match e[0]? with
  | some (some o)=>.ok o
  | _=>.stuck
 | .exc c _=>.exc c
 | _=>.stuck
section
variable{P:Program}{w:World}{K:PySem.W.Frag}{mg:Str->Option Value}{base:Heap}{T:Tb}
theorem zf(F:Fun K x qual st f fd)(S:bT N ps (au st))
  (body:∀ (cdv:Value) (A:Around) (outer:List Env) (s:Shared) (H:Hp) (E:XK),cj k (A.deeper (PyProof.Rows.envOfC qual (au st) s.heap.objs.size f cdv)) ->
   SSs (cz (CXP P w) P w K mg base N qual (au st) f cdv A outer s H E) T (WD T E) (aV st) m):bH P w K mg base (CXP P w) (k+1) f fd ps (spI T ps.length (gN N.length m)):=by
 obtain⟨oc,od,kV,doc,pm,an,cdv,ct,osl,rfl,lk,hcd⟩:=F.ex
 refine oX lk hcd S (fun vs H Q E h=>h.1) fun A outer s H vs Q E hr hsp=>⟨_,body cdv A outer s H E hr,?_⟩
 obtain⟨_,v0,pvs,F,B,fl,hv0,R,hob,q⟩:=hsp
 obtain⟨fp,S0⟩:=ig N R (some v0) (fun v hv=>by cases hv;exact⟨hv0,hob⟩)
 refine⟨_,F,_,fp,S0,?_⟩
 unfold gN at q
 cases e:m (pvs.map some++List.replicate (N.length - pvs.length) none)with
 | next e' =>
  rw[e]at q
  dsimp only at q
  intro F' H' σ' fp' S'
  obtain⟨h1,_⟩:=S'.pn v0 rfl
  cases e0:e'[0]? with
  | none=>rw[e0]at q;exact q.elim
  | some o0 =>
   cases o0 with
   | none=>rw[e0]at q;exact q.elim
   | some o =>
    rw[e0]at q
    obtain⟨v,h2,r⟩:=S'.rel 0 o e0
    rw[h1]at h2
    cases h2
    exact q F' H' (fp' 0) S'.hp r (S'.nd 0) (fun a ha=>(S'.dis 0 a ha).1) (S'.new 0)
 | ret v | brk e' | cont e'=>rw[e]at q;exact q.elim
 | exc c e'=>rw[e]at q;exact fun F' H' σ' fp' S'=>q H' S'.hp.keep
 | stuck=>rw[e]at q;exact q.elim
end
section
variable{X:Cx}{T:Tb}{W:Nat->St->Hp->Prop}{Z:Zn}{F F1 B L:Addr->Prop}{H H1:Hp}{σ:St}{env:En}{fp:Nat->List Addr}{D:Ends}
theorem xF
  (M:Mk X.K (T.cls c) f) (hcn:c < T.nc) (G:bH X.prog X.w X.K X.mg X.base (CXP X.prog X.w) k f fd ps (spI T ps.length m)) (hr:cj (k+1) X.A) (hb:cC X.K fd ps ds) (hd:aI dvs ds) (hdp:∀F B L H,RelL T F B L H dps dvs []) (hx:XF X T W)
  (S:aw T Z F H σ env fp) (g:Gr F H F1 H1) (r:RelL T F1 Z.B (Own fp) H1 xs vs fx) (nf:∀a∈fx,¬F1 a) (nd:fx.Nodup) (new:∀a∈fx,H a=none) (q:GE T W Z.B F (Own fp) σ H Q (ax m (.obj .own c [] []::(xs++dps))))
  (I1:L2.Inv X pins σ H1 s1) (rv:aI vs us) (hlen:vs.length+dvs.length+1=ps.length):wpAny (model X.prog X.w) X.A (call (.ref (T.cls c)) us) (EP X pins σ Q) X.xe s1:=by
 have hxn:H1 (s1.heap.objs.size+1)=none:=I1.hok.fresh (Nat.le_succ _)
 have hdn:H1 s1.heap.objs.size=none:=I1.hok.fresh (Nat.le_refl _)
 have hne:s1.heap.objs.size≠s1.heap.objs.size+1:=Nat.ne_of_lt (Nat.lt_succ_self _)
 generalize hH2:upd (upd H1 s1.heap.objs.size (.own (s1.heap.objs.size+1))) (s1.heap.objs.size+1) (.ins (T.cls c) s1.heap.objs.size [])=H2
 have ext2:Ext H1 H2:=by
  rw[<- hH2]
  exact(Ext.upd hdn).trans (Ext.upd (by rw[aE hne.symm];exact hxn))
 have free2:∀a,H2 a=none->H1 a=none:=fun a h=>ext2.free h
 have hx2:H2 (s1.heap.objs.size+1)=some (.ins (T.cls c) s1.heap.objs.size []):=by rw[<- hH2];exact aX
 have I2:=L2.Inv.made (C:=T.cls c) I1
 rw[hH2]at I2
 have r2:aI (V.ref (s1.heap.objs.size+1)::(vs++dvs)) (Value.ref (s1.heap.objs.size+1)::(us++ds)):=.cons rfl (rv.append hd)
 have hl:(Value.ref (s1.heap.objs.size+1)::us++ds).length=ps.length:=by
  have e:=r2.length
  simp only[List.length_cons,List.length_append]at e hlen ⊢
  omega
 have rr:RelL T F1 Z.B (Own fp) H1 (xs++dps) (vs++dvs) fx:=by
  have:=RelL.append r (hdp F1 Z.B (Own fp) H1)
  rwa [List.append_nil]at this
 have nx:s1.heap.objs.size+1∉fx:=fun z=>by
  obtain⟨o,ho⟩:=r.there _ z
  rw[hxn]at ho;cases ho
 have hBo:∀a,Z.B a->(∃o,H2 a=some o)/\a ∉(s1.heap.objs.size+1)::fx:=fun a h=>by
  obtain⟨⟨o,h1⟩,h2⟩:=S.hp.bo a h
  have h3:=S.hp.keep a o h1 h2
  refine⟨⟨o,ext2 a o (g.ext a o h3)⟩,fun z=>?_⟩
  rcases List.mem_cons.mp z with z | z
  ·rw[z]at h3;rw[g.ext _ _ h3]at hxn;cases hxn
  ·rw[new a z]at h3;cases h3
 have hOw:∀a,Own fp a->(∃o,H2 a=some o)/\a ∉(s1.heap.objs.size+1)::fx:=fun a ⟨i,hi⟩=>by
  obtain⟨_,o,ho⟩:=S.dis i a hi
  refine⟨⟨o,ext2 a o (g.ext a o ho)⟩,fun z=>?_⟩
  rcases List.mem_cons.mp z with z | z
  ·rw[z]at ho;rw[g.ext _ _ ho]at hxn;cases hxn
  ·rw[new a z]at ho;cases ho
 have nF:¬F1 (s1.heap.objs.size+1):=fun z=>by
  obtain⟨o,ho⟩:=g.dom _ z
  rw[hxn]at ho;cases ho
 have R:qt T F1 (fun a=>(∃o,H2 a=some o)/\a ∉(s1.heap.objs.size+1)::fx) H2 (.obj .own c [] []::mapL Fl.toBor (xs++dps)) (.ref (s1.heap.objs.size+1)::(vs++dvs)) ((s1.heap.objs.size+1)::fx):=by
  refine⟨?_,List.nodup_cons.mpr ⟨nx,nd⟩,fun a ha=>?_,fun a h=>h,fun a h=>let⟨o,ho⟩:=g.dom a h;⟨o,ext2 a o ho⟩⟩
  ·unfold RelL
   refine⟨_,_,[s1.heap.objs.size+1],fx,rfl,?_,RelL.toBor hBo hOw (rr.ext ext2 fun _ h=>h),rfl⟩
   unfold Rel
   exact⟨_,s1.heap.objs.size,[],[],rfl,by simpa using hx2,⟨rfl,hcn⟩,by unfold RelL;exact⟨rfl,rfl⟩,rfl,True.intro⟩
  ·rcases List.mem_cons.mp ha with rfl | ha
   ·exact nF
   ·exact nf a ha
 have newx:∀a ∈(s1.heap.objs.size+1)::fx,H a=none:=fun a ha=>by
  rcases List.mem_cons.mp ha with rfl | ha
  ·exact g.ext.free hxn
  ·exact new a ha
 refine wpAny_call (sG (f:=f) I1.kIn M.makes M.init (beq_iff_eq.mp M.fn) (codeAny_mono (G.run _ X.stack _ _ ⟨Value.ref (s1.heap.objs.size+1)::us,[]⟩ (Value.ref (s1.heap.objs.size+1)::(us ++ ds)) _ (fun v H3=>v=.non/\Q (.ref (s1.heap.objs.size+1)) H3) (fun cls _ H'=>∃ c,cls=.ref (T.xcl c)/\W c σ H') (hr.make (T.cls c) us [])
  (I2.env0.make (T.cls c) us []) (hb _ (Value.ref (s1.heap.objs.size+1)::us) I2.kIn hl) r2 ⟨by rw[r2.length];exact hl,_,_,F1,_,_,rfl,R,⟨.own,c,[],[],rfl⟩,?_⟩) fun rs s' hq'=>?_))
 ·unfold ax at q
  have e0:mapL Fl.toBor (PV.obj .own c [] []::(xs++dps))=.obj .own c [] []::mapL Fl.toBor (xs++dps):=by simp[mapL,PV.mapF,Fl.toBor]
  rw[e0]at q
  cases e:m (.obj .own c [] []::mapL Fl.toBor (xs++dps))with
  | ok v =>
   rw[e]at q
   dsimp only at q
   intro F3 H3 f3 hp3 r3 nd3 nf3 new3
   refine⟨rfl,?_⟩
   by_cases hbr:v.has Fl.isBor=true
   ·rw[if_pos hbr]at q;exact q.elim
   ·rw[if_neg hbr]at q
    have hbr':v.has Fl.isBor=false:=by simpa using hbr
    refine q _ H3 F3 f3 ⟨fun a o h=>hp3.keep a o (ext2 a o (g.ext a o h)) fun z=>(by rw[newx a z]at h;cases h),fun a h=>hp3.f0 a (g.mono a h),fun a h=>?_,hp3.ft⟩ ?_ nf3 nd3 fun a ha=>?_
    ·rcases hp3.fn a h with z | z | z
     ·exact g.only a z
     ·exact .inr (g.ext.free (free2 a z))
     ·exact .inr (newx a z)
    ·exact Rel.tr (fun _ h=>h) (fun _ h=>h) (fun _ h=>h.elim) (fun _ _ h _=>h) (fun _ _ _ h=>h) (Rel.noB (B':=Z.B) hbr' r3)
    ·rcases new3 a ha with z | z
     ·exact g.ext.free (free2 a z)
     ·exact newx a z
  | exc c' =>
   rw[e]at q
   exact fun H' h=>⟨c',rfl,q H' fun a o z=>h a o (ext2 a o (g.ext a o z)) fun z'=>by rw[newx a z']at z;cases z⟩
  | stuck=>rw[e]at q;exact q.elim
 ·cases rs with
  | error e =>
   obtain⟨cls,H',fl,c',rfl,hw⟩:=hq'
   exact hx pins σ H2 _ c' H' e s' I2 fl hw
  | ok fl =>
   cases fl with
   | ret u =>
    obtain⟨v,H',I3,rv',ev,q3⟩:=I2.after hq'
    subst ev
    exact⟨rv',⟨V.ref (s1.heap.objs.size+1),H',I3,rfl,q3⟩⟩
   | next | brk | cont=>exact False.elim hq'
theorem uz
  (M:Mk X.K (T.cls c) f) (hcn:c < T.nc) (G:bH X.prog X.w X.K X.mg X.base (CXP X.prog X.w) k f fd ps (spI T ps.length m)) (hr:cj (k+1) X.A) (hg:Gl X x) (hm:X.mg x=some (.ref (T.cls c))) (hb:cC X.K fd ps ds) (hd:aI dvs ds) (hdp:∀F B L H,RelL T F B L H dps dvs []) (hx:XF X T W)
  (hn:dB ms n) (hps:n+dvs.length+1=ps.length) (ha:SA X T W (e::es) ms)
  (hdb:(x ==("__debug__" : Str))=false:=by decide) (he:starEach (e::es) X.env=(false,eval e X.env)::starEach es X.env:=by rfl) (hpl:(backTo pos (starEach es X.env)).any (·.1)=false:=by rfl) :
  SE X T W (.Call (.Name x p) (e::es) [] pos) (ao (fun xs=>ax m (.obj .own c [] []::(xs++dps))) ms):=by
 intro pins s σ H Q I h
 obtain⟨Z,F,env,fp,S,q⟩:=h
 unfold ao at q
 refine wpAny_Call_Name_kw (eB I hg hm ?_ hdb)
 refine PySem.W.callWith_K (h₀:=X.base) I.ok.mod.kin M.kp (thn (ha pos pins s σ H (fun vs H1=>∀ us s1,L2.Inv X pins σ H1 s1->aI vs us->wpAny (model X.prog X.w) X.A (call (.ref (T.cls c)) us) (EP X pins σ Q) X.xe s1) I
  (tA.bind S (fun c e=>by rw[e]at q;exact q) (fun e=>by rw[e]at q;exact q) fun xs vs H1 F1 f1 e1 g1 r1 n1 d1 w1 us s1 I1 rv=>?_)) fun us s1 ⟨vs,H1,I1,r,q1⟩=>⟨I1.kIn,q1 us s1 I1 r⟩) he hpl
 rw[e1]at q
 exact xF M hcn G hr hb hd hdp hx S g1 r1 n1 d1 w1 q I1 rv (by rw[<- r1.length,hn env xs e1];exact hps)
theorem aw.mut(S:aw T Z F H σ env fp)(hi:i < env.length)(hv:σ[i]?=some (some v))(ha:a∈fp i)(r:Rel T F Z.B NoL (upd H a o') pv' v f')(nd:f'.Nodup)(nf:∀b∈f',¬F b)
  (new:∀b∈f',Z.H0 b=none\/Z.fp0 b) (dj:∀b∈f',∀j,j≠i->b∉fp j) (ho:i=0->b0 env=true->∃fl c ks xs,pv'=.obj fl c ks xs):aw T Z F (upd H a o') σ (env.set i (some pv')) (bv fp i f'):=by
 obtain⟨oa,hoa,hch⟩:=S.ch i a ha
 have nFa:¬F a:=(S.dis i a ha).1
 have nBa:¬Z.B a:=fun z=>S.bow a z ⟨i,ha⟩
 have ne:∀b u,H b=some u->(F b\/Z.B b\/NoL b\/ir u)->b≠a:=fun b u e h z=>by
  subst z
  rcases h with h | h | h | h
  ·exact nFa h
  ·exact nBa h
  ·exact h
  ·rw[hoa]at e
   cases e
   cases oa with
   | lst _ | ins _ _ _=>exact h
   | _=>exact hch
 have nz:∀b u,Z.H0 b=some u->¬Z.fp0 b->b≠a:=fun b u e n z=>by
  subst z
  rcases S.new i _ ha with w | w
  ·rw[e]at w;cases w
  ·exact n w
 have nj:∀j,j≠i->∀b∈fp j,b≠a:=fun j hj b hb z=>by
  subst z
  exact S.dj j i hj _ hb ha
 refine⟨⟨S.hp.bo,fun b u e n=>by rw[aE (nz b u e n)];exact S.hp.keep b u e n,S.hp.f0,S.hp.fn,fun b h=>?_⟩,by rw[List.length_set,S.len],fun j pv e=>?_,fun j=>?_,fun j k hjk b hb=>?_,fun j b hb=>?_,fun j b hb=>?_,fun j b hb=>?_,fun w hw=>?_⟩
 ·obtain⟨u,e⟩:=S.hp.ft b h
  exact⟨u,by rw[aE (show b≠a from fun z=>nFa (by rw[<- z];exact h))];exact e⟩
 ·by_cases hj:j=i
  ·subst hj
   rw[List.getElem?_set_self hi]at e
   cases e
   refine⟨v,hv,?_⟩
   unfold bv
   rw[if_pos rfl]
   exact r
  ·rw[List.getElem?_set_ne (Ne.symm hj)]at e
   obtain⟨w,h1,h2⟩:=S.rel j pv e
   refine⟨w,h1,?_⟩
   unfold bv
   rw[if_neg hj]
   exact Rel.tr (fun _ h=>h) (fun _ h=>h) (fun _ h=>h) (fun b u q h=>by rw[aE (ne b u q h)];exact q) (fun b hb u q=>by rw[aE (nj j hj b hb)];exact q) h2
 ·unfold bv;split
  ·exact nd
  ·exact S.nd j
 ·unfold bv at hb ⊢
  by_cases h1:j=i
  ·subst h1
   rw[if_pos rfl]at hb
   rw[if_neg (Ne.symm hjk)]
   exact dj b hb k (Ne.symm hjk)
  ·rw[if_neg h1]at hb
   by_cases h2:k=i
   ·subst h2
    rw[if_pos rfl]
    exact fun z=>dj b z j h1 hb
   ·rw[if_neg h2]
    exact S.dj j k hjk b hb
 ·unfold bv at hb
  by_cases h1:j=i
  ·rw[if_pos h1]at hb;exact⟨nf b hb,r.there b hb⟩
  ·rw[if_neg h1]at hb
   obtain⟨n,u,e⟩:=S.dis j b hb
   exact⟨n,u,by rw[aE (nj j h1 b hb)];exact e⟩
 ·unfold bv at hb
  by_cases h1:j=i
  ·rw[if_pos h1]at hb;exact new b hb
  ·rw[if_neg h1]at hb;exact S.new j b hb
 ·unfold bv at hb
  by_cases h1:j=i
  ·rw[if_pos h1]at hb;exact r.chg b hb
  ·rw[if_neg h1]at hb
   obtain⟨u,e,c⟩:=S.ch j b hb
   exact⟨u,by rw[aE (nj j h1 b hb)];exact e,c⟩
 ·obtain⟨h1,h2⟩:=S.pn w hw
  refine⟨h1,?_⟩
  by_cases hi0:i=0
  ·obtain⟨fl,c,ks,xs,e⟩:=ho hi0 h2
   subst hi0 e
   unfold b0
   rw[List.getElem?_set_self hi]
  ·unfold b0 at h2 ⊢
   rw[List.getElem?_set_ne hi0]
   exact h2
def fg(i k:Nat)(e:ME):MS:=fun env=>match e env with
 | .ok v=>(match env[i]? with
  | some (some (.obj .own c ks vs))=>if v.noLnt&&!ks.contains k&&decide (ks.length < 900)then .next (env.set i (some (.obj .own c (ks++[k]) (vs++[v]))))else .stuck
  | _=>.stuck)
 | .exc c=>.exc c env
 | .stuck=>.stuck
theorem lA:∀{ks:List Nat}{ws:List V},ks.contains k=false->ks.length=ws.length->d8 (T.att k) y ((ks.map T.att).zip ws)=((ks++[k]).map T.att).zip (ws++[y])
 | [],[],_,_=>rfl
 | j::ks,w::ws,h,hl=>by
  simp only[List.contains_cons,Bool.or_eq_false_iff,beq_eq_false_iff_ne]at h
  show d8 (T.att k) y ((T.att j,w)::(ks.map T.att).zip ws)=(T.att j,w)::((ks++[k]).map T.att).zip (ws++[y])
  unfold d8
  rw[if_neg (fun z=>h.1 (T.inj _ _ z).symm),lA h.2 (by simpa using hl)]
 | [],_::_,_,hl | _::_,[],_,hl=>by simp at hl
theorem xq(hK:X.K=T.K)(hf:T.att k=f)(hc:∀c < T.nc,Cls T.K (T.cls c))(hn:∀c < T.nc,cS T.K (T.cls c) f)(hN:X.N[i]?=some x)(hv:Vis X.env.scope x)(he:SE X T W e m)
  (hs:swapsWith e (some (.Attribute (.Name x px) f pos')) pos.line X.env=pure false:=by rfl) (hd:(x ==("__debug__" : Str))=false:=by decide) (hcd:(x ==("__classdict__" : Str))=false:=by decide) :
  SS X T W (.Assign [.Attribute (.Name x px) f pos'] e pos) (fg i k m):=PS.wk (xT (pos:=pos) (pos':=pos') (dO (pos:=px) hN hv hd hcd) he hs) fun D σ H ⟨Z,F,env,fp,S,q⟩=>by
 unfold fg at q
 refine tE.bind S (fun c e H' x=>?_) (fun e=>by rw[e]at q;exact q) fun pv v H1 F1 f1 e g r h1 h2 h3=>?_
 ·rw[e]at q
  exact q F H' σ fp (S.grow (Gr.same S.hp.ft x))
 ·rw[e]at q
  dsimp only at q
  split at q
  ·rename_i c ks vs eo
   split at q
   ·rename_i hcnd
    simp only[Bool.and_eq_true,Bool.not_eq_true',decide_eq_true_eq]at hcnd
    obtain⟨⟨hln,hkn⟩,hkl⟩:=hcnd
    have S1:=S.grow g
    obtain⟨vo,ho1,ho2⟩:=S1.rel i _ eo
    have ho3:=ho2
    unfold Rel at ho3
    obtain⟨a,dx,ws,fp',rfl,hl,hk,hr,hfl,_⟩:=ho3
    have hfl':fp i=a::fp':=hfl
    have hil:i < env.length:=(List.getElem?_eq_some_iff.mp eo).1
    refine⟨_,ho1,a,_,dx,_,rfl,hl,by rw[hK];exact hc c hk.2,by rw[hK];exact hn c hk.2,?_,?_⟩
    ·have:=hr.length
     rw[List.length_zip,List.length_map]
     omega
    ·rw[<- hf,lA hkn (by rw[<- hr.length];exact hk.1)]
     have ha:a∈fp i:=by rw[hfl'];exact List.mem_cons_self
     have nd:(a::fp').Nodup:=by rw[<- hfl'];exact S1.nd i
     have old:∀b∈f1,∀j,b∉fp j:=fun b hb j hj=>by
      obtain⟨_,o,e⟩:=S.dis j b hj
      rw[h3 b hb]at e;cases e
     have hrv:Rel T F1 Z.B NoL H1 pv v f1:=Rel.noL (by simpa[PV.noLnt]using hln) r
     have nea:∀b u,H1 b=some u->(F1 b\/Z.B b\/NoL b\/ir u)->b≠a:=fun b u e h z=>by
      subst z
      rcases h with h | h | h | h
      ·exact(S1.dis i _ ha).1 h
      ·exact S1.bow _ h ⟨i,ha⟩
      ·exact h
      ·rw[hl]at e;cases e;exact h
     refine q F1 _ σ _ (S1.mut (f':=a::(fp'++f1)) hil ho1 ha ?_ ?_ (fun b hb=>?_) (fun b hb=>?_) (fun b hb j hj=>?_) fun _ _=>⟨_,_,_,_,rfl⟩)
     ·unfold Rel
      have hrr:RelL T F1 Z.B NoL H1 (vs++[pv]) (ws++[v]) (fp'++f1):=RelL.append hr (by unfold RelL;exact⟨v,[],f1,[],rfl,hrv,by unfold RelL;exact⟨rfl,rfl⟩,by simp⟩)
      refine⟨a,dx,ws++[v],fp'++f1,rfl,aX,⟨by simp[hk.1],hk.2⟩,?_,rfl,True.intro⟩
      refine RelL.tr (fun _ h=>h) (fun _ h=>h) (fun _ h=>h) (fun b u e h=>by rw[aE (nea b u e h)];exact e) (fun b hb u e=>?_) hrr
      refine(aE fun z=>?_).trans e
      subst z
      rcases List.mem_append.mp hb with hb | hb
      ·exact(List.nodup_cons.mp nd).1 hb
      ·exact old _ hb i ha
     ·refine List.nodup_cons.mpr ⟨fun z=>?_,List.nodup_append.mpr ⟨(List.nodup_cons.mp nd).2,h2,fun b hb b' hb' z=>?_⟩⟩
      ·rcases List.mem_append.mp z with z | z
       ·exact(List.nodup_cons.mp nd).1 z
       ·exact old _ z i ha
      ·subst z
       exact old b hb' i (by rw[hfl'];exact List.mem_cons_of_mem _ hb)
     ·rcases List.mem_cons.mp hb with rfl | hb
      ·exact(S1.dis i _ ha).1
      ·rcases List.mem_append.mp hb with hb | hb
       ·exact(S1.dis i b (by rw[hfl'];exact List.mem_cons_of_mem _ hb)).1
       ·exact h1 b hb
     ·rcases List.mem_cons.mp hb with rfl | hb
      ·exact S1.new i _ ha
      ·rcases List.mem_append.mp hb with hb | hb
       ·exact S1.new i b (by rw[hfl'];exact List.mem_cons_of_mem _ hb)
       ·exact S.hp.newE h3 b hb
     ·rcases List.mem_cons.mp hb with rfl | hb
      ·exact fun z=>S1.dj i j (Ne.symm hj) _ ha z
      ·rcases List.mem_append.mp hb with hb | hb
       ·exact fun z=>S1.dj i j (Ne.symm hj) b (by rw[hfl'];exact List.mem_cons_of_mem _ hb) z
       ·exact old b hb j
   ·exact q.elim
  ·exact q.elim
theorem aw.mutL{i:Nat}{xs ys:List PV}{ws us:List V}{a:Addr}{v:V}{f' fp':List Addr}(S:aw T Z F H σ env fp)(eo:env[i]?=some (some (.lst .own xs)))(hv:σ[i]?=some (some (.ref a)))(hfp:fp i=a::fp')(r:RelL T F Z.B NoL H ys us f')(nd:f'.Nodup)
  (hf:∀b∈f',(b∈fp')\/(¬F b/\(Z.H0 b=none\/Z.fp0 b)/\∀j,b∉fp j)) (hl:H a=some (.lst ws)):aw T Z F (upd H a (.lst us)) σ (env.set i (some (.lst .own ys))) (bv fp i (a::f')):=by
 have ha:a∈fp i:=by rw[hfp];exact List.mem_cons_self
 have ndi:(a::fp').Nodup:=by rw[<- hfp];exact S.nd i
 have sub:∀b∈fp',b∈fp i:=fun b hb=>by rw[hfp];exact List.mem_cons_of_mem _ hb
 have na:∀b∈f',b≠a:=fun b hb z=>by
  subst z
  rcases hf _ hb with h | h
  ·exact(List.nodup_cons.mp ndi).1 h
  ·exact h.2.2 i ha
 have hil:i < env.length:=(List.getElem?_eq_some_iff.mp eo).1
 have nea:∀b u,H b=some u->(F b\/Z.B b\/NoL b\/ir u)->b≠a:=fun b u e h z=>by
  subst z
  rcases h with h | h | h | h
  ·exact(S.dis i _ ha).1 h
  ·exact S.bow _ h ⟨i,ha⟩
  ·exact h
  ·rw[hl]at e;cases e;exact h
 refine S.mut hil hv ha ?_ (List.nodup_cons.mpr ⟨fun z=>na a z rfl,nd⟩) (fun b hb=>?_) (fun b hb=>?_) (fun b hb j hj=>?_) fun h0 h1=>?_
 ·unfold Rel
  exact⟨a,us,f',rfl,aX,RelL.tr (fun _ h=>h) (fun _ h=>h) (fun _ h=>h) (fun b u e h=>by rw[aE (nea b u e h)];exact e) (fun b hb u e=>by rw[aE (na b hb)];exact e) r,rfl⟩
 ·rcases List.mem_cons.mp hb with rfl | hb
  ·exact(S.dis i _ ha).1
  ·rcases hf b hb with h | h
   ·exact(S.dis i b (sub b h)).1
   ·exact h.1
 ·rcases List.mem_cons.mp hb with rfl | hb
  ·exact S.new i _ ha
  ·rcases hf b hb with h | h
   ·exact S.new i b (sub b h)
   ·exact h.2.1
 ·rcases List.mem_cons.mp hb with rfl | hb
  ·exact fun z=>S.dj i j (Ne.symm hj) _ ha z
  ·rcases hf b hb with h | h
   ·exact fun z=>S.dj i j (Ne.symm hj) b (sub b h) z
   ·exact h.2.2 j
 ·subst h0
  unfold b0 at h1
  rw[eo]at h1
  cases h1
theorem aw.lst{i:Nat}{xs:List PV}(S:aw T Z F H σ env fp)(eo:env[i]?=some (some (.lst .own xs))):∃a ws fp',σ[i]?=some (some (.ref a))/\H a=some (.lst ws)/\RelL T F Z.B NoL H xs ws fp'/\fp i=a::fp':=by
 obtain⟨v,h1,h2⟩:=S.rel i _ eo
 unfold Rel at h2
 obtain⟨a,ws,fp',rfl,hl,hr,hf⟩:=h2
 exact⟨a,ws,fp',h1,hl,hr,hf⟩
theorem aw.beside{f1:List Addr}(S:aw T Z F H σ env fp)(g:Gr F H F1 H1)(h1:∀ a ∈ f1,¬ F1 a)(h3:∀ a ∈ f1,H a=none):∀ b ∈ f1,¬ F1 b/\(Z.H0 b=none \/ Z.fp0 b)/\∀ j,b ∉ fp j:=fun b hb=>⟨h1 b hb,S.hp.newE h3 b hb,fun j hj=>by
 obtain⟨_,o,e⟩:=S.dis j b hj
 rw[h3 b hb]at e;cases e⟩
def bE(i:Nat)(e:ME):MS:=fun env=>match e env with
 | .ok v=>(match env[i]? with
  | some (some (.lst .own xs))=>if v.noLnt&&decide (xs.length < 10000000)then .next (env.set i (some (.lst .own (xs++[v]))))else .stuck
  | _=>.stuck)
 | .exc c=>(match env[i]? with
  | some (some (.lst .own _))=>.exc c env
  | _=>.stuck)
 | .stuck=>.stuck
theorem pC{i:Nat}{x:Str}{e:Expr}{m:ME}{pos px apos cpos:Pos}(hK:X.K=T.K)(hN:X.N[i]?=some x)(hv:Vis X.env.scope x)(he:SE X T W e m)
  (hs:swapsWith (.Call (.Attribute (.Name x px) "append" apos) [e] [] cpos) none pos.line X.env=pure false:=by rfl) (hst:starEach [e] X.env=[(false,eval e X.env)]:=by rfl)
  (hfew:((backTo cpos (starEach [e] X.env)).all (fun x=>!x.1)&&(backToKw cpos (keywordEach [] X.env)).all (fun x=>x.1.isSome)&&decide ([e].length+([]:List Keyword).length+(if([]:List Keyword).isEmpty then 0 else 1) < 30))=true:=by rfl)
  (hline:(apos.endLine==cpos.line)=true:=by rfl) (hd:(x ==("__debug__" : Str))=false:=by decide) (hcd:(x ==("__classdict__" : Str))=false:=by decide) :
  SS X T W (.Expr (.Call (.Attribute (.Name x px) "append" apos) [e] [] cpos) pos) (bE i m) :=
 PS.wk (iE (pos:=pos) (oJ (cpos:=cpos) (apos:=apos) PySem.F.plainAttrs_list PySem.F.slot_list_append PySem.F.type_list_append gX (dO (pos:=px) hN hv hd hcd) (ac he ag hst) rfl hfew hline hst) hs) fun D σ H ⟨Z,F,env,fp,S,q⟩=>by
  unfold bE at q
  cases em:m env with
  | stuck=>rw[em]at q;exact q.elim
  | exc c =>
   rw[em]at q
   dsimp only at q
   split at q
   ·rename_i xs eo
    obtain⟨a,ws,fp',h1,hl,hr,hf⟩:=S.lst eo
    refine⟨_,h1,.inl ⟨rfl,ws,by rw[hK];exact SqL.of hl⟩,Z,F,env,fp,S,?_⟩
    unfold aa
    rw[em]
    exact fun H' x=>q F H' σ fp (S.grow (Gr.same S.hp.ft x))
   ·exact q.elim
  | ok v =>
   rw[em]at q
   dsimp only at q
   split at q
   ·rename_i xs eo
    split at q
    ·rename_i hc
     simp only[Bool.and_eq_true,decide_eq_true_eq]at hc
     obtain⟨a,ws,fp',h1,hl,hr,hf⟩:=S.lst eo
     refine⟨_,h1,.inl ⟨rfl,ws,by rw[hK];exact SqL.of hl⟩,Z,F,env,fp,S,?_⟩
     unfold aa aj
     rw[em]
     intro vs H1 F1 f1 g r n1 d1 w1
     obtain⟨u,rfl,ru⟩:=r.one
     have S1:=S.grow g
     have hl1:=g.ext a _ hl
     refine⟨a,ws,u,rfl,rfl,hl1,?_,?_⟩
     ·rw[<- hr.length,sizeLine_eq];omega
     ·have rone:RelL T F1 Z.B NoL H1 [v] [u] f1:=by unfold RelL;exact⟨u,[],f1,[],rfl,Rel.noL (by simpa[PV.noLnt]using hc.1) ru,by unfold RelL;exact⟨rfl,rfl⟩,by simp⟩
      refine q F1 _ σ _ (S1.mutL (v:=u) eo h1 hf (RelL.append (hr.ext g.ext g.mono) rone) ?_ (fun b hb=>?_) hl1)
      ·have ndi:(a::fp').Nodup:=by rw[<- hf];exact S.nd i
       refine List.nodup_append.mpr ⟨(List.nodup_cons.mp ndi).2,d1,fun b hb b' hb' z=>?_⟩
       subst z
       exact(S.beside g n1 w1 b hb').2.2 i (by rw[hf];exact List.mem_cons_of_mem _ hb)
      ·rcases List.mem_append.mp hb with hb | hb
       ·exact .inl hb
       ·exact .inr (S.beside g n1 w1 b hb)
    ·exact q.elim
   ·exact q.elim
def sH(i:Nat):MS:=fun env=>match env[i]? with
 | some (some (.lst .own _))=>.next (env.set i (some (.lst .own [])))
 | _=>.stuck
theorem Ax{i:Nat}{x:Str}{pos px apos cpos:Pos}(hK:X.K=T.K)(hN:X.N[i]?=some x)(hv:Vis X.env.scope x)
  (hs:swapsWith (.Call (.Attribute (.Name x px) "clear" apos) [] [] cpos) none pos.line X.env=pure false:=by rfl) (hline:(apos.endLine==cpos.line)=true:=by rfl) (hd:(x ==("__debug__" : Str))=false:=by decide) (hcd:(x ==("__classdict__" : Str))=false:=by decide) :
  SS X T W (.Expr (.Call (.Attribute (.Name x px) "clear" apos) [] [] cpos) pos) (sH i) :=
 PS.wk (iE (pos:=pos) (yc (cpos:=cpos) (apos:=apos) PySem.F.plainAttrs_list PySem.F.slot_list_clear PySem.F.type_list_clear sj (dO (pos:=px) hN hv hd hcd) rfl hline) hs) fun D σ H ⟨Z,F,env,fp,S,q⟩=>by
  unfold sH at q
  split at q
  ·rename_i xs eo
   obtain⟨a,ws,fp',h1,hl,hr,hf⟩:=S.lst eo
   refine⟨_,h1,.inl ⟨rfl,ws,by rw[hK];exact SqL.of hl⟩,a,ws,rfl,rfl,hl,?_⟩
   exact q F _ σ _ (S.mutL (v:=.non) (f':=[]) eo h1 hf (by unfold RelL;exact⟨rfl,rfl⟩) List.nodup_nil (fun _ z=>(nomatch z)) hl)
  ·exact q.elim
def jh(i:Nat)(k e:ME):MS:=fun env=>match e env with
 | .ok v=>(match env[i]? with
  | some (some (.lst .own xs))=>(match k env with
   | .ok (.int j)=>(match ixN xs.length j with
    | some n=>if v.noLnt then .next (env.set i (some (.lst .own (xs.set n v))))else .stuck
    | none=>.stuck)
   | _=>.stuck)
  | _=>.stuck)
 | .exc c=>.exc c env
 | .stuck=>.stuck
theorem RelL.set{y:PV}{w:V}{g:List Addr}(ry:Rel T F B L H y w g):∀{xs:List PV}{vs:List V}{f:List Addr} (n:Nat),RelL T F B L H xs vs f->(f++g).Nodup->∃f',RelL T F B L H (xs.set n y) (vs.set n w) f'/\f'.Nodup/\∀b∈f',b∈f\/b∈g
 | [],vs,f,n,h,nd=>by unfold RelL at h;obtain⟨rfl,rfl⟩:=h;exact⟨[],by simp[RelL],List.nodup_nil,fun _ z=>(nomatch z)⟩
 | x::xs,_,_,0,h,nd=>by
  unfold RelL at h
  obtain⟨v,ws,f1,f2,rfl,h1,h2,rfl⟩:=h
  obtain⟨n1,n2,n3⟩:=List.nodup_append.mp nd
  obtain⟨m1,m2,m3⟩:=List.nodup_append.mp n1
  refine⟨g++f2,?_,List.nodup_append.mpr ⟨n2,m2,fun a ha b hb z=>n3 b (List.mem_append_right _ hb) a ha z.symm⟩,fun b hb=>?_⟩
  ·rw[List.set_cons_zero,List.set_cons_zero]
   unfold RelL
   exact⟨w,ws,g,f2,rfl,ry,h2,rfl⟩
  ·rcases List.mem_append.mp hb with hb | hb
   ·exact .inr hb
   ·exact .inl (List.mem_append_right _ hb)
 | x::xs,_,_,n+1,h,nd=>by
  unfold RelL at h
  obtain⟨v,ws,f1,f2,rfl,h1,h2,rfl⟩:=h
  obtain⟨n1,n2,n3⟩:=List.nodup_append.mp nd
  obtain⟨m1,m2,m3⟩:=List.nodup_append.mp n1
  obtain⟨f',r,d,s⟩:=RelL.set ry n h2 (List.nodup_append.mpr ⟨m2,n2,fun a ha b hb=>n3 a (List.mem_append_right _ ha) b hb⟩)
  refine⟨f1++f',?_,List.nodup_append.mpr ⟨m1,d,fun a ha b hb z=>?_⟩,fun b hb=>?_⟩
  ·rw[List.set_cons_succ,List.set_cons_succ]
   unfold RelL
   exact⟨v,_,f1,f',rfl,h1,r,rfl⟩
  ·rcases s b hb with h | h
   ·exact m3 a ha b h z
   ·exact n3 a (List.mem_append_left _ ha) b h z
  ·rcases List.mem_append.mp hb with hb | hb
   ·exact .inl (List.mem_append_left _ hb)
   ·rcases s b hb with h | h
    ·exact .inl (List.mem_append_right _ h)
    ·exact .inr h
theorem iP{i:Nat}{x:Str}{k e:Expr}{mk me:ME}{pos px tpos:Pos}(hN:X.N[i]?=some x)(hv:Vis X.env.scope x)(hk:SE X T W k mk)(he:SE X T W e me)
  (ha:∀ v,assign (.Subscript (.Name x px) k tpos) X.env v=(do
   let ov <- holding [v] (eval (.Name x px) X.env)
   let iv <- holding [v,ov] (eval k X.env)
   standAt tpos
   holding [v,ov,iv] (setItem ov iv v)
   release [v,ov,iv] []):=by intro _;rfl)
  (hs:swapsWithSole [.Subscript (.Name x px) k tpos] e pos.line X.env=pure false:=by rfl) (hw:swappedStores [.Subscript (.Name x px) k tpos] e X.env=pure none:=by rfl)
  (h1:(assignEach [.Subscript (.Name x px) k tpos] X.env).map (·.2)=[assign (.Subscript (.Name x px) k tpos) X.env]:=by rfl) (hd:(x ==("__debug__" : Str))=false:=by decide) (hcd:(x ==("__classdict__" : Str))=false:=by decide) :
  SS X T W (.Assign [.Subscript (.Name x px) k tpos] e pos) (jh i mk me) :=
 PS.wk (xU (pos:=pos) he (xZ (pos:=tpos) (dO (pos:=px) hN hv hd hcd) hk qR ha) hs hw h1) fun D σ H ⟨Z,F,env,fp,S,q⟩=>by
  unfold jh at q
  refine tE.bind S (fun c e H' x=>?_) (fun e=>by rw[e]at q;exact q) fun pv v H1 F1 f1 e g r n1 d1 w1=>?_
  ·rw[e]at q
   exact q F H' σ fp (S.grow (Gr.same S.hp.ft x))
  ·rw[e]at q
   dsimp only at q
   split at q
   ·rename_i xs eo
    have S1:=S.grow g
    obtain⟨a,ws,fp',h1,hl,hr,hf⟩:=S1.lst eo
    cases ek:mk env with
    | stuck | exc c=>rw[ek]at q;exact q.elim
    | ok kv =>
     rw[ek]at q
     refine⟨_,h1,Z,F1,env,fp,S1,?_⟩
     rw[ek]
     intro u H2 F2 f2 g2 r2 _ _ _
     cases kv with
     | int j =>
      dsimp only at q
      unfold Rel at r2
      obtain⟨rfl,_⟩:=r2
      cases en:ixN xs.length j with
      | none=>rw[en]at q;exact q.elim
      | some n =>
       rw[en]at q
       dsimp only at q
       split at q
       ·rename_i hln
        have S2:=S1.grow g2
        have hr2:=hr.ext g2.ext g2.mono
        have ndi:(a::fp').Nodup:=by rw[<- hf];exact S.nd i
        have g12:=g.trans g2
        have nn:∀b∈f1,¬F2 b:=fun b hb z=>by
         rcases g2.only b z with z | z
         ·exact n1 b hb z
         ·obtain⟨o,ho⟩:=r.there b hb
          rw[ho]at z;cases z
        obtain ⟨f',r',nd',sub'⟩:=RelL.set (T:=T) (Rel.noL (L':=NoL) (by simpa [PV.noLnt] using hln) (r.ext g2.ext g2.mono)) n hr2 (List.nodup_append.mpr ⟨(List.nodup_cons.mp ndi).2,d1,fun b hb b' hb' z=>by
         subst z
         exact(S.beside g12 nn w1 b hb').2.2 i (by rw[hf];exact List.mem_cons_of_mem _ hb)⟩)
        refine⟨a,ws,j,n,rfl,rfl,g2.ext a _ hl,by rw[<- hr.length];exact en,?_⟩
        refine q F2 _ σ _ (S2.mutL (v:=v) eo h1 hf r' nd' (fun b hb=>?_) (g2.ext a _ hl))
        rcases sub' b hb with h | h
        ·exact .inl h
        ·exact .inr (S.beside g12 nn w1 b h)
       ·exact q.elim
     | _=>exact q.elim
   ·exact q.elim
end
def vi(i:Nat):Str:=⟨#[1114112+i]⟩
def gH(l:List Str)(i:Nat):Str:=match l[i]? with
 | some x=>x
 | none=>vi i
def gQ(x:Str):Bool:=x.cps.all fun c=>decide (c < 1114112)
theorem dP(i:Nat):gQ (vi i)=false:=by
 simp[gQ,vi]
theorem qq(nd:l.Nodup)(h:l.all gQ=true)(i j:Nat)(e:gH l i=gH l j):i=j:=by
 have pl:∀(i:Nat) x,l[i]?=some x->gQ x=true:=fun i x hx=>List.all_eq_true.mp h x (List.mem_of_getElem? hx)
 unfold gH at e
 cases ei:l[i]? with
 | some x =>
  cases ej:l[j]? with
  | some y =>
   rw[ei,ej]at e
   dsimp only at e
   subst e
   obtain⟨h1,e1⟩:=List.getElem?_eq_some_iff.mp ei
   obtain⟨h2,e2⟩:=List.getElem?_eq_some_iff.mp ej
   exact(List.getElem_inj nd).mp (e1.trans e2.symm)
  | none =>
   rw[ei,ej]at e
   dsimp only at e
   have:=pl i x ei
   rw[e,dP]at this
   cases this
 | none =>
  cases ej:l[j]? with
  | some y =>
   rw[ei,ej]at e
   dsimp only at e
   have:=pl j y ej
   rw[<- e,dP]at this
   cases this
  | none =>
   rw[ei,ej]at e
   dsimp only at e
   simpa[vi]using e
theorem tX(hp:gQ m=true)(hm:m∉l)(k:Nat):gH l k≠m:=by
 unfold gH
 cases e:l[k]? with
 | some x=>exact fun z=>hm (z▸List.mem_of_getElem? e)
 | none =>
  intro z
  dsimp only at z
  rw[<- z,dP]at hp
  cases hp
structure Ctx(X:Cx)(T:Tb)(W:Nat->St->Hp->Prop)(k:Nat):Prop where
 hK:X.K=T.K
 calm:X.calm=true
 room:cj k X.A
 xf:XF X T W
 po:PassesOwn (model X.prog X.w) X.A X.env X.xe
theorem Ctx.hu(c:Ctx X T W k):X.A.units+64 < cLine:=c.room.units
theorem Ctx.hu2(c:Ctx X T W k):X.A.units+66 < cLine:=by
 have:=c.room.un
 omega
theorem kU
  (hr:cj k (A.deeper (PyProof.Rows.envOfC qual scope s.heap.objs.size f cd))):Ctx (cz (CXP P w) P w T.K mg base N qual scope f cd A outer s H E) T (WD T E) k:=⟨rfl,rfl,hr,xh,PassesOwn.leaving⟩
theorem Ctx.comp(c:Ctx X T W k):Ctx (cxC X scope C N s H ex) T WF k:=⟨c.hK,c.calm,c.room,fun _ _ _ _ _ _ _ _ _ _ h=>h.elim,PassesOwn.never⟩
def ic(scD scope:Scope)(NX:List Str)(caps:List Nat)(N tn:List Str):Bool :=
 decide (scope.kind=.function)&&scope.names.all (fun y=>decide (y.2=.cell->scope.names.lookup y.1=some .cell))&&scope.names.all (fun y=>decide (y.2=.local->scope.names.lookup y.1=some .local)) &&
 scope.names.all (fun y=>decide (y.2=.free->scD.names.lookup y.1=some .cell\/scD.names.lookup y.1=some .free))&&decide (N=caps.map (fun i=>NX.getD i "")++ tn)&&caps.all (fun i=>decide (i < NX.length)) &&
 caps.all (fun i=>match NX[i]? with | some x=>decide ((x,NameKind.free)∈ scope.names/\scope.names.lookup x=some .free) | none=>false)&&decide N.Nodup
theorem vX(h:ic scD scope NX caps N tn=true)(hs:X.env.scope=scD)(hN:X.N=NX):bU X scope caps N tn:=by
 simp only[ic,Bool.and_eq_true,decide_eq_true_eq,List.all_eq_true]at h
 obtain⟨⟨⟨⟨⟨⟨⟨h1,h2⟩,h3⟩,h4⟩,h5⟩,h6⟩,h7⟩,h9⟩:=h
 subst hs hN
 refine⟨h1,h2,h3,h4,h5,h6,fun i hi x hx=>?_,h9⟩
 have:=h7 i hi
 rw[hx]at this
 simpa using this
section
variable{X:Cx}{T:Tb}{W:Nat->St->Hp->Prop}
theorem sv(i:Nat)(hN:X.N[i]?=some x:=by rfl)(hv:Vis X.env.scope x:=by first | exact Or.inl rfl | exact Or.inr (Or.inl rfl) | exact Or.inr (Or.inr rfl))(hd:(x ==("__debug__" : Str))=false:=by decide)
  (hcd:(x ==("__classdict__" : Str))=false:=by decide):SE X T W (.Name x pos) (ad i):=xu hN hv hd hcd
def tyP:PV->String
 | .non => "NoneType"
 | .bl _ => "bool"
 | .int _ => "int"
 | .str _ => "str"
 | .lst _ _ => "list"
 | .tup _ => "tuple"
 | _ => ""
def p8(t c:String):Bool:=t==c ||(t=="bool"&&c=="int")
def nh(c:String):PV->Res PV:=fun x=>if tyP x = "" then .stuck else .ok (.bl (p8 (tyP x) c))
def Dn(m:ME)(c:String):ME:=fun env=>(m env).bind (nh c)
def sI(f g:PV->PV->Res PV)(a b c:ME):ME:=fun env=>(a env).bind fun x=>(b env).bind fun y=>(f x y).bind fun
 | .bl true=>(c env).bind fun z=>g y z
 | .bl false=>.ok (.bl false)
 | _=>.stuck
end
theorem qZ(hg:Gl X x)(hm:X.mg x=some (.int i t))(hd:(x ==("__debug__" : Str))=false:=by decide):SE X T W (.Name x pos) (mC (.int i)) :=
 fM (v:=.int i) (d_ hg hm ⟨t,rfl⟩ hd) fun _ _ _ _=>cX
end PR
namespace PR
open PySem PySem.Spec
structure jN(K:PySem.W.Frag)(C:Addr):Prop where
 ga:PySem.W.findIn K (.ref C) "__getattribute__" = some (some (.builtin "BaseException.__getattribute__"))
 gt:PySem.W.findIn K (.ref C) "__getattr__" = some none
 ca:PySem.W.findIn K (.ref C) "__class__" = some (some (.builtin "object.__class__"))
 sb:PySem.W.mroIn K C (.type "BaseException")=some true
 so:PySem.W.mroIn K C (.type "object")=some true
 cl:(PySem.W.clsIn K C).isSome=true
section
variable{prog:Program}{w:World}{A:Around}{E:Value->Shared->Prop}{h:Heap}{g:Array GenState}{d:Drawn}{t:Nat}{os:OsState}{a C:Addr}{o:Obj}{K:PySem.W.Frag}
theorem tq(O:jN K C)(X:K.In h)(hx:h.get? a=some o)(hc:o.cls=.ref C)(hq:Q (.done (.ret (.ref C))) ⟨h,g,d,t,os⟩) :
  wpAny (model prog w) A (Builtin.«object.__getattribute__» ⟨[.ref a,.str "__class__" tk],[]⟩) Q E ⟨h,g,d,t,os⟩:=by
 have k1:(⟨h,g,d,t,os⟩:Shared).TypeIs (.builtin "object.__class__") "getset_descriptor" := F.typeOf_object_class
 have k2:=F.typeOf_object_class
 have k3:=F.slot_gs_get.lookup
 have k4:=F.slot_gs_set.lookup
 have lc:=PySem.W.looks_findIn (M:=model prog w) X O.ca
 have ls:=PySem.W.looks_mroIn (M:=model prog w) X O.so
 repeat (any_goals (first | assumption |(with_reducible refine wpAny_loadPart_at hx ?_;rw[hc]) | with_reducible refine PySem.W.Looks.at lc ?_ | wp_step))
 refine codeAny_call_builtin F.slot_gs_get.plain F.entry_gs_get (F.slot_gs_get.check _ _ _ _ _ _ _ _ k1 (F.args_gs_get _ _ _) ?_)
 rw[<- F.owner_object_class]at ls
 repeat (any_goals (first | assumption |(with_reducible refine wpAny_loadPart_at hx ?_;rw[hc]) | with_reducible refine PySem.W.Looks.at ls ?_ | wp_step))
 refine⟨Code.quiet_builtin _ (by decide +kernel),codeAny_builtin F.entry_object_class ?_⟩
 repeat (any_goals (first | assumption |(with_reducible refine wpAny_loadPart_at hx ?_;rw[hc]) | wp_step))
theorem zo(O:jN K C)(X:K.In h)(hx:h.get? a=some o)(hc:o.cls=.ref C)(hq:Q () ⟨h,g,d,t,os⟩):wpAny M A (checkBuiltinCall "BaseException.__getattribute__" ⟨[.ref a,v],[]⟩) Q E ⟨h,g,d,t,os⟩:=by
 have ka:=F.args_bexc_ga (.ref a) v
 have lb:=PySem.W.looks_mroIn (M:=M) X O.sb
 simp only[checkBuiltinCall,show builtinKind "BaseException.__getattribute__" = some .slot by decide +kernel,show splitId "BaseException.__getattribute__" = some ("BaseException", "__getattribute__") by decide +kernel]
 refine wpAny_bind ?_
 unfold isInstance
 repeat (first |(with_reducible refine wpAny_loadPart_at hx ?_;rw[hc]) | with_reducible refine PySem.W.Looks.at lb ?_ | wp_step)
 exact hq
theorem BZ(O:jN K C)(X:K.In h)(hx:h.get? a=some o)(hc:o.cls=.ref C)(hq:Q (.ref C) ⟨h,g,d,t,os⟩) :
  wpAny (model prog w) A (getAttrBy (.ref a) (.str "__class__" tk) false) Q E ⟨h,g,d,t,os⟩:=by
 have k1:=PySem.F.excAttr_ValueError.ga.bind (.ref a)
 have k2:(false&&onTheHeap (Value.builtin "BaseException.__getattribute__"))=false:=rfl
 have k3:(onTheHeap (Value.ref C)&&Value.builtin "BaseException.__getattribute__"==Value.builtin "object.__getattribute__")=false:=by
  rw[show(Value.builtin "BaseException.__getattribute__"==Value.builtin "object.__getattribute__")=false by decide +kernel];rfl
 have lg:=PySem.W.looks_findIn (M:=model prog w) X O.ga
 have lt:=PySem.W.looks_findIn (M:=model prog w) X O.gt
 repeat (any_goals (first | assumption |(with_reducible refine wpAny_loadPart_at hx ?_;rw[hc]) | with_reducible refine PySem.W.Looks.at lg ?_ | with_reducible refine PySem.W.Looks.at lt ?_ | wp_step))
 refine codeAny_call_builtin PySem.F.excAttr_ValueError.ga.plain F.entry_bexc_ga (zo O X hx hc (tq O X hx hc ?_))
 repeat (any_goals (first | assumption | wp_step))
theorem vP(O:jN K C)(X:K.In h)(hx:h.get? a=some o)(hc:o.cls=.ref C)(hq:Q (some (.ref C)) ⟨h,g,d,t+1,os⟩):wpAny (model prog w) A (getAttr? (.ref a) "__class__") Q E ⟨h,g,d,t,os⟩:=by
 unfold getAttr? getAttrBy?
 repeat (any_goals (first | assumption | with_reducible apply BZ O X hx hc | wp_step))
theorem kb(h:(PySem.W.clsIn K C).isSome=true):∃c dd cd sl,K.lookup C=some ⟨c,dd,.cls cd,sl⟩:=by
 unfold PySem.W.clsIn at h
 split at h
 ·exact⟨_,_,_,_,by assumption⟩
 ·cases h
theorem sN(O:jN K C):PySem.W.KitX K (.ref a) (.ref C) (fun h=>∃o,h.get? a=some o/\o.cls=.ref C) where
 ty:=fun M h _ ⟨o,hx,hc⟩=>hc ▸(PySem.W.Looks.ld hx).andThen .now
 it:=fun M h X _=>by
  obtain⟨c,dd,cd,sl,ho⟩:=kb O.cl
  intro A' Q' E' s' k q
  unfold isType loadHead
  exact wpAny_bind (wpAny_loadPart (k _ _ (X _ _ ho)) (wpAny_pure q))
 ne:=fun h tp dd its n sl X htp=>by
  obtain⟨c,dd',cd,sl',ho⟩:=kb O.cl
  refine Bool.eq_false_iff.mpr fun q=>?_
  obtain rfl:C=tp:=Value.ref.inj (beq_iff_eq.mp q)
  have z:=(X _ _ ho).symm.trans htp
  cases z
 ca:=fun {_ _ _ _ _ s} X p k=>by
  obtain⟨h,g,d,t,os⟩:=s
  obtain⟨o,hx,hc⟩:=p
  exact vP O X hx hc k
end
end PR
namespace L2
open PySem PySem.Spec PyProof.Rows
abbrev Cx.tryX(X:Cx)(E:Value->Shared->Prop)(pn:List (Addr×Obj)):Cx:={ X with xe:=E,pn:=pn }
abbrev Cx.hanX(X:Cx)(e:Value):Cx:={ X with A:=X.A.mark (some e),calm:=false,xe:=fun _ _=>False }
section
variable{X:Cx}{pins pins':List (Addr×Obj)}{σ:St}{H H':Hp}{s:Shared}{E:Value->Shared->Prop}{e:Value}
theorem Inv.tryX(I:Inv X pins σ H s):Inv (X.tryX E (X.pn++pins)) [] σ H s :=
 ⟨⟨I.ok.mod,I.ok.kind,I.ok.glob,I.ok.blt,I.ok.above,I.ok.inj,I.ok.has,I.ok.cab,I.ok.hd,I.ok.frames,I.ok.stk,I.ok.exf,I.ok.bs,I.ok.bsz,I.ok.noex,I.ok.exfs,I.ok.funs,I.ok.frf⟩,
  I.os,I.bare,I.base,I.loc,I.cell,I.free,I.freeC,fun p hp=>I.pin p (by simpa using hp),I.hok,I.len⟩
theorem Inv.untry(I:Inv (X.tryX E (X.pn++pins)) pins' σ H s):Inv X pins σ H s :=
 ⟨⟨I.ok.mod,I.ok.kind,I.ok.glob,I.ok.blt,I.ok.above,I.ok.inj,I.ok.has,I.ok.cab,I.ok.hd,I.ok.frames,I.ok.stk,I.ok.exf,I.ok.bs,I.ok.bsz,I.ok.noex,I.ok.exfs,I.ok.funs,I.ok.frf⟩,
  I.os,I.bare,I.base,I.loc,I.cell,I.free,I.freeC,fun p hp=>I.pin p (List.mem_append_left _ hp),I.hok,I.len⟩
theorem Inv.hanX(I:Inv X pins σ H s):Inv (X.hanX e) pins σ H s :=
 ⟨⟨I.ok.mod,I.ok.kind,I.ok.glob,I.ok.blt,I.ok.above,I.ok.inj,I.ok.has,I.ok.cab,fun z=>(nomatch z),I.ok.frames,I.ok.stk,I.ok.exf,I.ok.bs,I.ok.bsz,I.ok.noex,I.ok.exfs,I.ok.funs,I.ok.frf⟩,
  I.os,I.bare,I.base,I.loc,I.cell,I.free,I.freeC,I.pin,I.hok,I.len⟩
theorem Inv.unhan(ok:X.Ok)(I:Inv (X.hanX e) pins σ H s):Inv X pins σ H s:=⟨ok,I.os,I.bare,I.base,I.loc,I.cell,I.free,I.freeC,I.pin,I.hok,I.len⟩
theorem iJ(I:Inv X pins σ H s)(hN:X.N.Nodup)(hi:X.N[i]?=some x)(hk:X.env.scope.names.lookup x=some .local)
  (h:∀s',Inv X pins (σ.set i none) H s'->Q () s'):wpAny M A (do bindName X.env x .none;unbindBehindTheSuite X.env x pos) Q E s:=by
 obtain⟨m,hn,hl⟩:=id I.loc
 obtain⟨oL,_,_,hoL,_⟩:=id hn
 have hcls:(X.env.scope.kind==.class ||(X.env.scope.kind==.module&&X.env.locals != X.env.globals))=false:=by rw[I.ok.kind];rfl
 refine wpAny_nameGoes_keeps hk hn hcls fun h' v hn' hs=>h _ ?_
 have ne:∀b o,X.s₀.heap.get? b=some o->b≠X.env.locals:=fun b o e=>Nat.ne_of_lt (Nat.lt_of_lt_of_le (Heap.lt_size e) I.ok.above)
 refine⟨I.ok,I.os,I.bare,⟨fun b o e n hb hx=>(hs.2 b (ne b o e)).trans (I.base.keep b o e n hb hx),fun b o e n hb hx=>?_,I.base.free,fun b o e hx=>?_,I.base.tups,I.base.frzs,I.base.tbls⟩,⟨_,hn',fun j y v' e1 e2 e3=>?_⟩,fun y c e=>?_,I.free,I.freeC,fun p hp=>?_,fun b ob e=>?_,by simpa using I.len⟩
 ·obtain⟨sl,e1⟩:=I.base.slot b o e n hb hx
  exact⟨sl,(hs.2 b (ne b o e)).trans e1⟩
 ·obtain⟨o',e1⟩:=I.base.there b o e hx
  exact⟨o',(hs.2 b (ne b o e)).trans e1⟩
 ·by_cases hj:j=i
  ·subst hj
   rw[List.getElem?_set]at e2
   simp at e2
  ·rw[List.getElem?_set_ne (Ne.symm hj)]at e2
   obtain⟨u,r,q⟩:=hl j y v' e1 e2 e3
   refine⟨u,r,?_⟩
   rcases q with⟨k,z⟩ |⟨k,c,z,w⟩
   ·have hy:y≠x:=fun q=>hj (je hN e1 (q▸hi))
    exact .inl ⟨k,by simp[hy,z]⟩
   ·exact .inr ⟨k,c,z,w.sameBut hs (I.cne y c z)⟩
 ·obtain⟨w,z⟩:=I.cell y c e
  exact⟨w,z.sameBut hs (I.cne y c e)⟩
 ·obtain⟨e,n,np,nf,d⟩:=I.pin p hp
  exact⟨(hs.2 p.1 np).trans e,n,np,nf,d⟩
 ·refine(I.hok b ob e).stay (fun c w hc q=>(hs.2 c ?_).trans q) (fun _ q=>q) fun _ _ q=>q
  rintro rfl
  rcases hc with z | z
  ·rw[<- z,I.free]at e;cases e
  ·rw[I.free]at z;cases z
end
end L2
namespace PR
open PySem PySem.Spec L2
section
variable{X:Cx}{T:Tb}{W:Nat->St->Hp->Prop}{pins:List (Addr×Obj)}{σ:St}{H H':Hp}{s s':Shared}
theorem iH(I:L2.Inv X pins σ H s)(fl:Fly X.prog X.w X.stack H s (.ref C) H' (.ref x) s')(f0:Heap.FlyingW Bh X.stack x (.ref C) a0 s'.heap)
  (tr:∀b o u,H' b=some u->s'.heap.get? b=some o->Bh.get? b=some o) (ol:∀b o o',s'.heap.get? b=some o->s.heap.get? b=some o'->b∉frs X.stack->Bh.get? b=some o)
  (f6:Heap.FlyingW Bh X.stack x (.ref C) a0 h6) (up:s'.heap.UpToSlots h6) (hg:PyProof.Rows.AllBare g) :
  L2.Inv X pins σ (upd H' x (t5 C x)) ⟨h6,g,d,t,s'.os⟩/\H' x=none/\s.heap.get? x=none:=by
 obtain⟨oe,he,hc⟩:=f6.there
 obtain⟨o0,he0,_⟩:=f0.there
 have nx:H' x=none:=by
  cases e:H' x with
  | none=>rfl
  | some u =>
   have:=tr x o0 u e he0
   rw[f0.2.1]at this;cases this
 have ns:s.heap.get? x=none:=by
  cases e:s.heap.get? x with
  | none=>rfl
  | some o' =>
   by_cases hx:x∈frs X.stack
   ·obtain⟨_,o,ho,hd⟩:=f0.2.2.1.mem hx
    obtain⟨o1,vs,h1,_,h2,_⟩:=f0.first
    rw[ho]at h1;cases h1
    exact absurd h2 (hd vs)
   ·have:=ol x o0 o' he0 e hx
    rw[f0.2.1]at this;cases this
 have data:∀b o,s.heap.get? b=some o->b∈frs X.stack->∀vs,o.data≠.fields vs:=fun b o e hb vs z=>by
  obtain⟨_,o',ho',hd'⟩:=I.stack.mem hb
  rw[e]at ho';cases ho'
  exact hd' vs z
 have hok:HOk X.prog X.w (upd H' x (t5 C x)) h6:=fun b u e=>by
  by_cases hb:b=x
  ·subst hb
   rw[aX]at e;cases e
   exact⟨⟨oe,he,hc⟩,⟨oe,he⟩,fun h1 h2 ⟨o,q1,q2⟩ k=>⟨o,k o q1,q2⟩⟩
  ·rw[aE hb]at e
   have nb:∀c u,H' c=some u->c≠x:=fun c u q z=>by rw[z,nx]at q;cases q
   exact(kS fl.hok tr f6.1 b u e).stay (fun _ _ _ q=>q) (fun c q=>by rw[aE (nb c _ q)];exact q) fun c xs q=>by rw[aE (nb c _ q)];exact q
 refine⟨I.call' (s':=⟨h6,g,d,t,s'.os⟩) (ch:=[]) fl.os ⟨fun b o e n hf _=>?_,fun b o e n hf _=>?_,fun b o e n _=>?_,fun b o e _=>?_,fun b xs e=>?_,fun b o u e=>?_,fun b ps e=>?_⟩ hok hg (fun _ z=>(nomatch z)),nx,ns⟩
 ·have q:=fl.un.keep b o e n hf (by simp)
  exact f6.1 b o (ol b o o q e hf)
 ·obtain⟨sl,q⟩:=fl.un.slot b o e n hf (by simp)
  obtain⟨sl',q'⟩:=up b _ q (data b o e hf)
  exact⟨sl',q'⟩
 ·rw[aE (show b≠x from fun z=>by rw[z,ns]at e;cases e)]
  exact fl.un.free b o e n (by simp)
 ·by_cases hf:b∈frs X.stack
  ·obtain⟨_,o2,ho2,_⟩:=f6.2.2.1.mem hf
   exact⟨o2,ho2⟩
  ·obtain⟨o1,e1⟩:=fl.un.there b o e (by simp)
   exact⟨o1,f6.1 b o1 (ol b o1 o e1 e hf)⟩
 ·have q:=fl.un.tups b xs e
  rw[aE (fun z=>by rw[z,nx]at q;cases q)];exact q
 ·have q:=fl.un.frzs b o u e
  rw[aE (fun z=>by rw[z,nx]at q;cases q)];exact q
 ·obtain⟨more,q⟩:=fl.un.tbls b ps e
  exact⟨more,by rw[aE (fun z=>by rw[z,nx]at q;cases q)];exact q⟩
end
def mO(n:Nat):Out->Out
 | .next e=>.next (e.set n none)
 | .brk e=>.brk (e.set n none)
 | .cont e=>.cont (e.set n none)
 | .ret v=>.ret v
 | .exc _ _ | .stuck=>.stuck
def p3(mb:MS)(hit:Nat->Bool)(n:Nat)(mh mo:MS):MS:=fun env=>match mb env with
 | .exc c e=>if hit c then mO n (mh (e.set n (some (.exc c))))else .stuck
 | .next e=>mo e
 | o=>o
section
variable{X:Cx}{T:Tb}{W:Nat->St->Hp->Prop}{Z:Zn}{F:Addr->Prop}{H:Hp}{σ:St}{env:En}{fp:Nat->List Addr}
theorem aw.unset(S:aw T Z F H σ env fp)(h0:n≠0):aw T Z F H (σ.set n none) (env.set n none) fp:=by
 refine⟨S.hp,by rw[List.length_set,List.length_set,S.len],fun i pv e=>?_,S.nd,S.dj,S.dis,S.new,S.ch,fun v hv=>?_⟩
 ·by_cases hi:i=n
  ·subst hi
   rw[List.getElem?_set]at e
   simp at e
  ·rw[List.getElem?_set_ne (Ne.symm hi)]at e ⊢
   exact S.rel i pv e
 ·obtain⟨h1,h2⟩:=S.pn v hv
  refine⟨by rw[List.getElem?_set_ne h0];exact h1,?_⟩
  unfold b0 at h2 ⊢
  rw[List.getElem?_set_ne h0];exact h2
theorem aw.caught(S:aw T Z F H σ env fp)(h0:n≠0)(hx:H x=none) :
  aw T Z F (upd H x (t5 (T.xcl c) x)) (σ.set n (some (.ref x))) (env.set n (some (.exc c))) (bv fp n []) :=
 (S.grow (Gr.same S.hp.ft (Ext.upd hx))).put (by unfold Rel;exact⟨x,rfl,aX,rfl⟩) List.nodup_nil (fun _ z=>(nomatch z)) (fun _ z=>(nomatch z)) (fun _ z=>(nomatch z)) (by simp[bO,h0])
theorem xo(cx:Ctx X T W k)
  (hst:X.stack=X.env::X.outer) (hfr:X.env.frame=some X.env.locals) (hN:X.N.Nodup) (hi:X.N[i]?=some n) (hl:X.env.scope.names.lookup n=some .local) (h0:i≠0)
  (hg:Gl X cn) (hm:X.mg cn=some (.ref CC)) (hhit:∀c,hit c=true->PySem.W.exmOne T.K (.ref (T.xcl c)) (.ref CC)=some true)
  (hb:∀E pn Wb,Ctx (X.tryX E pn) T Wb k->SSs (X.tryX E pn) T Wb body mb) (hs:∀e,SSs (X.hanX e) T WF (b₀::suite) mh) (ho:SSs X T W orelse mo) (hd:(cn ==("__debug__" : Str))=false:=by decide) :
  SS X T W (.Try body [.ExceptHandler (some (.Name cn pc)) (some n) (b₀::suite) hp] orelse [] pos) (p3 mb hit i mh mo):=by
 intro pins s σ H D I h
 obtain⟨Z,F,env,fp,S,q⟩:=h
 unfold p3 at q
 refine wpAny_Try_except ?_
 generalize hEb:(fun (e:Value) (s₁:Shared)=>wpAny (model X.prog X.w) X.A (noteFrame e X.env) (fun _ s₂=>wpAny (model X.prog X.w) X.A (setFlight e none) (fun _ s₃ =>
  wpAny (model X.prog X.w) X.A (handleBy e X.env [.ExceptHandler (some (.Name cn pc)) (some n) (b₀::suite) hp]) (SP X pins D) X.xe s₃) X.xe s₂) X.xe s₁)=Eb
 have po:PassesOwn (model X.prog X.w) X.A X.env Eb:=by rw[<- hEb];exact PassesOwn.looking
 have ctx:Ctx (X.tryX Eb (X.pn++pins)) T (fun c σ' H'=>∃Z F env fp,aw T Z F H' σ' env fp/\hit c=true/\GS T W Z D (mO i (mh (env.set i (some (.exc c)))))) k:=by
  refine⟨cx.hK,cx.calm,cx.room,?_,po⟩
  intro pins' σ1 H1 s1 c H2 e s2 I1 fl hW
  have I1:=I1.untry
  obtain⟨Z,F,env,fp,S,hh,q⟩:=hW
  obtain⟨x,a0,Bh,rfl,f0,tr,ol⟩:=fl.fly
  show Eb (.ref x) s2
  rw[<- hEb]
  have f0':=f0
  rw[show(X.tryX Eb (X.pn++pins)).stack=X.env::X.outer from hst]at f0'
  refine wpAny_looks_onW (hst▸I1.ok.frames) hfr f0' fun h4 held4 up4=>wpAny_landsW held4 fun h5 f5 up5=>?_
  have f5':Heap.FlyingW Bh X.stack x (.ref (T.xcl c)) a0 h5:=by rw[hst];exact f5
  obtain⟨I5,nx,_⟩:=iH (g:=s2.gens) (d:=s2.drawn) (t:=s2.toks) I1 fl f0 tr ol f5' (up4.trans up5) fl.bare
  refine wpAny_handleBy_cons (codeAny_handlers_test ?_) (by intro z;cases z)
  refine eB (X:=X.hanX (.ref x)) (pins:=pins) (I:=I5.hanX) hg hm ?_ hd
  obtain⟨o5,ho5,hc5⟩:=f5.there
  have lt:PySem.W.Looks (model X.prog X.w) h5 (typeOf (.ref x)) (.ref (T.xcl c)):=hc5 ▸(PySem.W.Looks.ld ho5).andThen .now
  have kin:T.K.In h5:=by rw[<- cx.hK];exact I5.kIn
  refine(PySem.W.exm_one kin lt (hhit c hh)).at ?_
  refine codeAny_handlers_suite_as ?_
  refine PyProof.Rows.lands_againW f5 fun h6 f6 up6=>?_
  have f6':Heap.FlyingW Bh X.stack x (.ref (T.xcl c)) a0 h6:=by rw[hst];exact f6
  obtain⟨I6,_,_⟩:=iH (g:=s2.gens) (d:=s2.drawn) (t:=s2.toks) I1 fl f0 tr ol f6' ((up4.trans up5).trans up6) fl.bare
  refine iK (X:=X.hanX (.ref x)) (I:=I6.hanX) hN hi (.inl hl) (v:=.ref x) rfl (fun s7 I7=>?_) (.inr hl)
  have S7:=S.caught (c:=c) h0 nx
  refine wpAny_mono (hs (.ref x) pins s7 _ _ ⟨fun σ' H'=>D.nx (σ'.set i none) H',D.rt,fun σ' H'=>D.bk (σ'.set i none) H',fun σ' H'=>D.ct (σ'.set i none) H'⟩ I7 ⟨Z,F,_,_,S7,?_⟩) (fun f s8 h8=>?_) fun _ _ z=>z.elim
  ·cases e:mh (env.set i (some (.exc c)))with
   | next e' | brk e' | cont e'=>rw[e]at q;exact fun F' H' σ' fp' S'=>q F' H' _ fp' (S'.unset h0)
   | ret v=>rw[e]at q;exact q
   | exc c' e' | stuck=>rw[e]at q;exact q.elim
  ·cases f with
   | next | brk | cont=>obtain⟨σ',H',I8,q8⟩:=h8;exact iJ (I8.unhan I.ok) hN hi hl fun s9 I9=>⟨_,H',I9,q8⟩
   | ret u=>obtain⟨v,σ',H',I8,r8,q8⟩:=h8;exact iJ (I8.unhan I.ok) hN hi hl fun s9 I9=>⟨v,_,H',I9,r8,q8⟩
 have r:=hb Eb (X.pn ++ pins) _ ctx [] s σ H ⟨fun σ' H'=>tS T W mo D σ' H',D.rt,D.bk,D.ct⟩ I.tryX ⟨Z,F,env,fp,S,by
  cases e:mb env with
  | next e'=>rw[e]at q;exact fun F' H' σ' fp' S'=>⟨Z,F',e',fp',S',q⟩
  | brk e' | cont e' | ret v=>rw[e]at q;exact q
  | exc c e' =>
   rw[e]at q
   dsimp only at q
   intro F' H' σ' fp' S'
   by_cases hh:hit c=true
   ·rw[if_pos hh]at q;exact⟨Z,F',e',fp',S',hh,q⟩
   ·rw[if_neg hh]at q;exact q.elim
  | stuck=>rw[e]at q;exact q.elim⟩
 refine wpAny_mono r (fun f s1 h1=>?_) fun e s1 h1=>?_
 ·cases f with
  | next=>obtain⟨σ',H',I1,q1⟩:=h1;exact ho pins s1 σ' H' D I1.untry q1
  | brk | cont=>obtain⟨σ',H',I1,q1⟩:=h1;exact⟨σ',H',I1.untry,q1⟩
  | ret u=>obtain⟨v,σ',H',I1,r1,q1⟩:=h1;exact⟨v,σ',H',I1.untry,r1,q1⟩
 ·exact h1
end
def cm(tab:Nat->Bool):PV->Res PV
 | .exc c=>.ok (.bl (tab c))
 | _=>.stuck
section
variable{X:Cx}{T:Tb}{W:Nat->St->Hp->Prop}
theorem ow(hK:X.K=T.K)(hx:∀c,jN T.K (T.xcl c))(ht:∀c,PySem.W.kitOne T.K (.ref (T.xcl c)) uc=some (tab c))
  (hg:Gl X "isinstance") (hm:X.mg "isinstance" = none) (hb:bootBuiltins "isinstance" = some (.builtin "isinstance")) (hv:PE X (.Name cn pc) (tC vc)) (hu:∀u,aW vc u->u=uc) (he:SE X T W e m)
  (hst:starEach [e,.Name cn pc] X.env=[(false,eval e X.env),(false,eval (.Name cn pc) X.env)]:=by rfl)
  (hst2:starEach [.Name cn pc] X.env=[(false,eval (.Name cn pc) X.env)]:=by rfl):SE X T W (.Call (.Name "isinstance" p) [e,.Name cn pc] [] pos) (mUn (cm tab) m):=by
 have hcall:cb X (.builtin "isinstance") (fun vs H Q=>∃a c,vs=[.ref a,vc]/\H a=some (t5 (T.xcl c) a)/\Q (.bl (tab c)) H):=by
  intro pins s σ H vs us Q I rv h
  obtain⟨a,c,rfl,ha,q⟩:=h
  cases rv with
  | cons r1 r2 =>
   cases r2 with
   | cons r3 r4 =>
    cases r4
    cases r1
    rw[hu _ r3]
    have kin:T.K.In s.heap:=by rw[<- hK];exact I.kIn
    obtain⟨hφ,_,_⟩:=I.hok a _ ha
    exact PySem.W.kia_one (sN (hx c)) kin hφ (ht c) (fun z=>nomatch z) fun tk=>⟨.bl _,H,I.tok tk,rfl,q⟩
 have hargs:PA X [e,.Name cn pc] (n6 (tE T W m) (n6 (tC vc) xl)):=cZ he (cZ hv gT hst2) (by rw[hst,hst2])
 refine PE.wk (i4 (pos:=pos) (p:=p) hcall hg hm hb hargs (he:=by rw[hst,hst2]) (hpl:=by rw[hst2];rfl)) fun σ H Q ⟨Z,F,env,fp,S,q⟩=>?_
 unfold mUn at q
 refine tE.bind S (fun c e=>by rw[e]at q;exact q) (fun e=>by rw[e]at q;exact q) fun x v H1 F1 f1 e1 g1 r1 n1 d1 w1=>?_
 rw[e1]at q
 cases x with
 | exc c =>
  unfold Rel at r1
  obtain⟨a,rfl,ha,_⟩:=r1
  exact⟨a,c,rfl,ha,q.scal g1 eV⟩
 | _=>exact q.elim
theorem d7(hK:X.K=T.K)(hx:∀c,jN T.K (T.xcl c))(ht:∀c,PySem.W.kitOne T.K (.ref (T.xcl c)) (.ref D)=some (tab c))
  (hg:Gl X "isinstance") (hm:X.mg "isinstance" = none) (hb:bootBuiltins "isinstance" = some (.builtin "isinstance")) (hgc:Gl X cn) (hmc:X.mg cn=some (.ref D)) (he:SE X T W e m) (hcd:(cn ==("__debug__" : Str))=false:=by decide)
  (hst:starEach [e,.Name cn pc] X.env=[(false,eval e X.env),(false,eval (.Name cn pc) X.env)]:=by rfl)
  (hst2:starEach [.Name cn pc] X.env=[(false,eval (.Name cn pc) X.env)]:=by rfl):SE X T W (.Call (.Name "isinstance" p) [e,.Name cn pc] [] pos) (mUn (cm tab) m) :=
 ow hK hx ht hg hm hb (d_ (v:=.ref D) hgc hmc rfl hcd) (fun _ h=>h) he hst hst2
theorem uB(hK:X.K=T.K)(hx:∀c,jN T.K (T.xcl c))(ht:∀i,PySem.W.kitOne T.K (.ref (T.xcl i)) (.type c)=some (tab i))
  (hg:Gl X "isinstance") (hm:X.mg "isinstance" = none) (hb:bootBuiltins "isinstance" = some (.builtin "isinstance")) (hgc:Gl X cn) (hmc:X.mg cn=none) (hvc:bootBuiltins cn=some (.type c)) (he:SE X T W e m)
  (hcn:cn≠"__name__" := by decide) (hcd:(cn ==("__debug__" : Str))=false:=by decide)
  (hst:starEach [e,.Name cn pc] X.env=[(false,eval e X.env),(false,eval (.Name cn pc) X.env)]:=by rfl)
  (hst2:starEach [.Name cn pc] X.env=[(false,eval (.Name cn pc) X.env)]:=by rfl):SE X T W (.Call (.Name "isinstance" p) [e,.Name cn pc] [] pos) (mUn (cm tab) m) :=
 ow hK hx ht hg hm hb (u0 (v:=.ty c) hgc hmc hvc rfl hcn hcd) (fun _ h=>h) he hst hst2
end
theorem eJ(F B L:Addr->Prop)(H:Hp):RelL T F B L H [] [] []:=by unfold RelL;exact⟨rfl,rfl⟩
def cQ(disp:Nat->Option (List PV->Res PV))(o:ME)(ms:MA):ME:=fun env=>(o env).bind fun ov=>match ov with
 | .obj _ c _ _=>match disp c with
  | some m=>(ms env).bind fun xs=>ax m (ov::xs)
  | none=>.stuck
 | _=>.stuck
theorem vx(disp:Nat->Option (List PV->Res PV))(o:ME)(ms:MA):oN disp [] o ms=cQ disp o ms:=by
 funext env
 unfold oN cQ
 congr 1
 funext ov
 cases ov with
 | obj f c ks vs=>simp only[List.append_nil,List.cons_append]<;>rfl
 | _=>rfl
def jE(c:Nat)(m:List PV->Res PV)(ms:MA):ME:=ao (fun xs=>ax m (.obj .own c [] []::xs)) ms
section
variable{X:Cx}{T:Tb}{W:Nat->St->Hp->Prop}
theorem lw
  (G:bH X.prog X.w X.K X.mg X.base (CXP X.prog X.w) k f fd ps (spM T ps.length m)) (cx:Ctx X T W kk) (hk:k<=kk) (hg:Gl X x) (hm:X.mg x=some (.ref f)) (hkp:PySem.W.keepIn X.K (.ref f)=true) (hb:cC X.K fd ps [])
  (hn:dB ms n) (hps:n=ps.length) (ha:SA X T W (e::es) ms)
  (hdb:(x ==("__debug__" : Str))=false:=by decide) (he:starEach (e::es) X.env=(false,eval e X.env)::starEach es X.env:=by rfl) (hpl:(backTo pos (starEach es X.env)).any (·.1)=false:=by rfl) :
  SE X T W (.Call (.Name x p) (e::es) [] pos) (ao (ax m) ms):=by
 have h:=oz (dvs:=[]) (dps:=[]) (p:=p) (pos:=pos) G (cx.room.mono hk) hg hm hkp hb .nil eJ cx.xf (fun env xs q=>by rw[hn env xs q];exact hps) ha hdb he hpl
 simpa using h
theorem xy
  (cx:Ctx X T W kk) (hc:∀c < T.nc,Cls T.K (T.cls c)) (hm:∀k,T.att k≠mn) (D:iB X T k mn ps [] disp) (hk:k<=kk)
  (hn:dB ms n) (hps:n+1=ps.length) (ho:SE X T W o mo) (ha:SA X T W (e::es) ms)
  (hst:starEach (e::es) X.env=(false,eval e X.env)::starEach es X.env:=by rfl) (hpl:(backTo pos (starEach es X.env)).any (·.1)=false:=by rfl)
  (ht:eval (.Call (.Attribute o mn apos) (e::es) [] pos) X.env=(do
   let ov <- eval o X.env
   standAt apos.atName
   let(f,first) <- holding [ov] (getMethod ov mn pl)
   callWith pos f first (backTo pos (starEach (e::es) X.env)) (backToKw pos (keywordEach [] X.env))):=by rfl) :
  SE X T W (.Call (.Attribute o mn apos) (e::es) [] pos) (cQ disp mo ms):=by
 rw[<- vx]
 exact uy (pl:=pl) (dvs:=[]) (dps:=[]) cx.hK hc hm D (cx.room.mono hk) .nil eJ cx.xf (fun env xs q=>by rw[hn env xs q];exact hps) ho ha hst hpl ht
theorem xw
  (M:Mk X.K (T.cls c) f) (hcn:c < T.nc) (G:bH X.prog X.w X.K X.mg X.base (CXP X.prog X.w) k f fd ps (spI T ps.length m)) (cx:Ctx X T W kk) (hk:k+1<=kk) (hg:Gl X x) (hm:X.mg x=some (.ref (T.cls c))) (hb:cC X.K fd ps [])
  (hn:dB ms n) (hps:n+1=ps.length) (ha:SA X T W (e::es) ms)
  (hdb:(x ==("__debug__" : Str))=false:=by decide) (he:starEach (e::es) X.env=(false,eval e X.env)::starEach es X.env:=by rfl) (hpl:(backTo pos (starEach es X.env)).any (·.1)=false:=by rfl) :
  SE X T W (.Call (.Name x p) (e::es) [] pos) (jE c m ms):=by
 have h:=uz (dvs:=[]) (dps:=[]) (p:=p) (pos:=pos) M hcn G (cx.room.mono hk) hg hm hb .nil eJ cx.xf hn hps ha hdb he hpl
 unfold jE
 simpa using h
end
theorem vO(X:K.In h)(q:PySem.W.excIn K C [.type "ValueError", .type "Exception", .type "BaseException", .type "object"] "ValueError.__new__" = true) :
  ∃bm N nm q bs hdct sn sub ab col dd k0 k1 k2 k3 k5 mN,h.get? C=some (excClassObj nm q C N bs bm hdct sn sub ab col dd k0 k1 k2 k3 k5 "ValueError.__new__")/\h.Ns N mN/\mN "__init__" = none /\
   OwnTail h [.type "ValueError", .type "Exception", .type "BaseException", .type "object"] bm:=by
 unfold PySem.W.excIn at q
 split at q
 ·rename_i dd cd sl ho
  split at q
  ·rename_i C' bm k0 k1 k2 k3 n k5 hm hs
   simp only[Bool.and_eq_true,beq_iff_eq,Bool.not_eq_true']at q
   obtain⟨⟨⟨⟨⟨rfl,rfl⟩,hdel⟩,ht⟩,hok⟩,hni⟩:=q
   cases cd
   cases sl
   dsimp only at hm hdel hok hni hs
   subst hm hdel hs
   exact⟨bm,_,_,_,_,_,_,_,_,_,dd,k0,k1,k2,k3,k5,_,X _ _ ho,.of_isNs (PySem.W.isNs_of_in X hok),PySem.W.nsMap_none_of_in X hok hni,PySem.W.tail_of_in X ht⟩
  ·cases q
 ·cases q
def aC(c:Nat)(ms:MA):MS:=fun env=>match ms env with
 | .ok _=>.exc c env
 | .exc k=>.exc k env
 | .stuck=>.stuck
theorem pB(cx:Ctx X T W k)(hm:X.mg x=some (.ref (T.xcl c)))(hB:T.K.In X.base)
  (hE:PySem.W.excIn T.K (T.xcl c) [.type "ValueError", .type "Exception", .type "BaseException", .type "object"] "ValueError.__new__" = true) (hx:XM X T W) (hg:Gl X x) (hn:dB ms n) (hn2:n<=100) (ha:SA X T W (e::es) ms)
  (hd:(x ==("__debug__" : Str))=false:=by decide)
  (he:starEach (e::es) X.env=(false,eval e X.env)::starEach es X.env:=by rfl) (hpl:(backTo cpos (starEach es X.env)).any (·.1)=false:=by rfl) :
  SS X T W (.Raise (some (.Call (.Name x np) (e::es) [] cpos)) none pos) (aC c ms) :=
 qI (np:=np) (cpos:=cpos) (pos:=pos) ⟨hm,vO hB hE⟩ hx cx.calm hg ha (fun env pvs q=>by rw[hn env pvs q];exact hn2) hd he hpl
structure Scr(fl:Fl):Prop where
 is:fl=.frz\/fl=.mod
theorem Scr.lend(h:Scr fl):fl.lend=fl:=by rcases h.is with rfl | rfl<;>rfl
theorem Scr.toBor(h:Scr fl):fl.toBor=fl:=by rcases h.is with rfl | rfl<;>rfl
theorem Scr.isBor(h:Scr fl):fl.isBor=false:=by rcases h.is with rfl | rfl<;>rfl
theorem Scr.isLnt(h:Scr fl):fl.isLnt=false:=by rcases h.is with rfl | rfl<;>rfl
theorem Scr.isOwn(h:Scr fl):fl.isOwn=false:=by rcases h.is with rfl | rfl<;>rfl
theorem Scr.freeze(h:Scr fl):fl.freeze=fl:=by rcases h.is with rfl | rfl<;>rfl
theorem Scr.borrow(h:Scr fl):fl.borrow=fl:=by rcases h.is with rfl | rfl<;>rfl
theorem gP:∀ns:List Int,RelL T F B L H (ns.map PV.int) (ns.map V.int) []
 | []=>eJ _ _ _ _
 | n::ns=>by
  rw[List.map_cons,List.map_cons]
  unfold RelL
  exact⟨_,_,[],[],rfl,cX,gP ns,rfl⟩
def oh(K:PySem.W.Frag):Sp:=fun vs H Q _=>∃(a:Addr) (ns:List Int),vs=[.ref a]/\SqL K H a (ns.map V.int)/\ns.length<=63/\∀v H',v=.bl true->Q v H'
theorem y0(G:bH P w T.K mg base (CXP P w) k f fd [x] (spM T 1 m))
  (h:∀(fl:Fl) (ns:List Int),Scr fl->ns.length<=63->m [.lst fl (ns.map .int)]=.ok (.bl true)):bH P w T.K mg base (CXP P w) k f fd [x] (oh T.K):=by
 refine G.imp fun vs H Q E q=>?_
 obtain⟨a,ns,rfl,hS,hl,hQ⟩:=q
 have fin:∀fl,Scr fl->∀Z:Zn,GF T Z Q E (m [.lst fl (ns.map .int)]):=fun fl hf Z=>by
  rw[h fl ns hf hl]
  intro F H' v f' _ r _ _ _
  unfold Rel at r
  exact hQ v H' r.1
 refine⟨rfl,?_⟩
 rcases hS with hS | hS
 ·refine⟨[.lst .frz (ns.map .int)],(·=a),fun _=>False,[],⟨?_,List.nodup_nil,fun _ z=>(nomatch z),fun _ z=>z.elim,fun b hb=>?_⟩,fin _ ⟨.inl rfl⟩ _⟩
  ·unfold RelL
   refine⟨_,_,[],[],rfl,?_,eJ _ _ _ _,rfl⟩
   unfold Rel
   exact⟨a,_,[],rfl,⟨rfl,hS⟩,gP ns,rfl,rfl⟩
  ·subst hb
   rcases hS with e |⟨o,e⟩
   ·exact⟨_,e⟩
   ·exact⟨_,e⟩
 ·refine⟨[.lst .mod (ns.map .int)],fun _=>False,fun _=>False,[],⟨?_,List.nodup_nil,fun _ z=>(nomatch z),fun _ z=>z.elim,fun _ z=>z.elim⟩,fin _ ⟨.inr rfl⟩ _⟩
  unfold RelL
  refine⟨_,_,[],[],rfl,?_,eJ _ _ _ _,rfl⟩
  unfold Rel
  exact⟨a,_,[],rfl,hS,gP ns,rfl,rfl⟩
theorem sK{l:PySem.W.OpenLaw}{k:Nat}{x:Str}{q:Program}{loose:List Str}{XP:(Str->Option Value)->Heap->Prop}{YP:World->Heap->Prop}{d:DefRec}{K:Params->PySem.W.Frag}(hn:l.most=some 63)(hdf:d.params.defaults=[])(hr:cj k callerA)
  (hY:∀(w:World) (h:Heap),YP w h->(K w.params).In h)
  (F:∀ (w:World) (mg:Str->Option Value) (fa:Addr) (h:Heap),(K w.params).In h->h.Ns mainGlobals mg->mg d.name=some (.ref fa) ->
   ∃fd:FuncData,(∀(s:Shared) (u:Value),BindsTo s fd ⟨[u],[]⟩ [(x,u)])/\∀base:Heap,(K w.params).In base->base.Ns mainGlobals mg->bH l.prog w (K w.params) mg base (CXP l.prog w) k fa fd [x] (oh (K w.params))) :
  PySem.W.WalkO q loose XP YP l.row.toRowW d [] (fun f vs=>PySem.call f vs) :=
 L2.t_ (n:=63) (k:=k) (x:=x) (CX:=fun w=>CXP l.prog w) (sp:=fun w=>oh (K w.params)) hn (by decide) hdf hr hY F (fun _ _ a ns hl _ hS=>⟨a,ns,rfl,hS,hl,fun _ _ z=>z⟩) fun _ _ _ _ _ ⟨_,_,_,z⟩=>z
theorem bg:bootBuiltins "isinstance" = some (.builtin "isinstance"):=by decide +kernel
theorem zJ:bootBuiltins "int" = some (.type "int"):=by decide +kernel
theorem pi:bootBuiltins "list" = some (.type "list"):=by decide +kernel
theorem cO:bootBuiltins "tuple" = some (.type "tuple"):=by decide +kernel
theorem jL:bootBuiltins "ValueError" = some (.type "ValueError"):=by decide +kernel
def qi(K:PySem.W.Frag)(C:Addr):Bool :=
 decide (PySem.W.findIn K (.ref C) "__getattribute__" = some (some (.builtin "BaseException.__getattribute__")))&&decide (PySem.W.findIn K (.ref C) "__getattr__" = some none) &&
 decide (PySem.W.findIn K (.ref C) "__class__" = some (some (.builtin "object.__class__")))&&decide (PySem.W.mroIn K C (.type "BaseException")=some true)&&decide (PySem.W.mroIn K C (.type "object")=some true)&&(PySem.W.clsIn K C).isSome &&
 PySem.W.excIn K C [.type "ValueError", .type "Exception", .type "BaseException", .type "object"] "ValueError.__new__"
theorem o7(h:qi K C=true):jN K C/\PySem.W.excIn K C [.type "ValueError", .type "Exception", .type "BaseException", .type "object"] "ValueError.__new__" = true:=by
 simp only[qi,Bool.and_eq_true,decide_eq_true_eq]at h
 obtain⟨⟨⟨⟨⟨⟨h1,h2⟩,h3⟩,h4⟩,h5⟩,h6⟩,h7⟩:=h
 exact⟨⟨h1,h2,h3,h4,h5,h6⟩,h7⟩
def uW(l:List Addr)(i:Nat):Addr:=l.getD i (l.headD 0)
def bB(l:List Bool)(i:Nat):Bool:=l.getD i (l.headD false)
theorem rN{α:Type}{f:Addr->Option α}{g:α->Bool}{l:List Addr}{bs:List Bool}{r:Bool->Option α}(hl:l≠[])(h:l.map f=bs.map r)(i:Nat):f (uW l i)=r (bB bs i):=by
 have hlen:l.length=bs.length:=by simpa using congrArg List.length h
 unfold uW bB
 rw[List.getD_eq_getElem?_getD,List.getD_eq_getElem?_getD]
 have key:∀j,(l[j]?).map f=(bs[j]?).map r:=fun j=>by rw[<- List.getElem?_map,<- List.getElem?_map,h]
 cases e:l[i]? with
 | some C =>
  have:=key i
  rw[e]at this
  cases e2:bs[i]? with
  | some b=>rw[e2]at this;simpa using this
  | none=>rw[e2]at this;simp at this
 | none =>
  have hb:bs[i]?=none:=by
   rw[List.getElem?_eq_none_iff]at e ⊢
   omega
  rw[hb]
  cases l with
  | nil=>exact absurd rfl hl
  | cons a l =>
   cases bs with
   | nil=>simp at hlen
   | cons b bs=>simpa using key 0
def PV.isBl(c:Bool):PV->Bool
 | .bl b=>b==c
 | _=>false
def Dy:PV->PV->Res PV
 | x,.bl c=>.ok (.bl (x.isBl c))
 | _,_=>.stuck
def AM:PV->PV->Res PV
 | x,.bl c=>.ok (.bl (!x.isBl c))
 | _,_=>.stuck
section
variable{X:Cx}{T:Tb}{W:Nat->St->Hp->Prop}{F B L:Addr->Prop}{H:Hp}{a b:Expr}{ma mb:ME}{pos:Pos}
theorem Rel.isBl(c:Bool)(r:Rel T F B L H x v f):decide (v=.bl c)=x.isBl c:=by
 cases x with
 | non=>unfold Rel at r;rw[r.1];rfl
 | bl b=>unfold Rel at r;rw[r.1];cases b<;>cases c<;>rfl
 | int i | str i=>unfold Rel at r;rw[r.1];rfl
 | lst f xs=>unfold Rel at r;obtain⟨a,_,_,rfl,_⟩:=r;rfl
 | tup xs=>unfold Rel at r;obtain⟨a,_,rfl,_⟩:=r;rfl
 | obj f c ks xs=>unfold Rel at r;obtain⟨a,_,_,_,rfl,_⟩:=r;rfl
 | exc c=>unfold Rel at r;obtain⟨a,rfl,_⟩:=r;rfl
end
section
variable{X:Cx}{T:Tb}{W:Nat->St->Hp->Prop}{Z:Zn}{F F1 B L:Addr->Prop}{H H1:Hp}{σ:St}{env:En}{fp:Nat->List Addr}
def oK:List PV->Res PV
 | [.int n]=>if decide (0<=n/\n<=1000000)then .ok (.lst .own (gO 0 n.toNat))else .stuck
 | _=>.stuck
end
def bp:List PV->Option (List Int)
 | []=>some []
 | .int i::xs=>(bp xs).map (i::·)
 | _::_=>none
def tB(ns:List Int):Nat:=(PyProof.Rows.firstMet (fun i=>ns.getD i 0) ns.length).length
def iF:PV->Res PV
 | .lst _ xs=>match bp xs with
  | some ns=>if decide (ns.length<=1000)then .ok (.int (tB ns))else .stuck
  | none=>.stuck
 | _=>.stuck
section
variable{X:Cx}{T:Tb}{W:Nat->St->Hp->Prop}{Z:Zn}{F F1 B L:Addr->Prop}{H H1:Hp}{σ:St}{env:En}{fp:Nat->List Addr}
theorem cF:∀{xs:List PV}{vs:List V}{f:List Addr}{ns:List Int},bp xs=some ns->RelL T F B L H xs vs f->vs=ns.map V.int
 | [],_,_,_,e,r=>by cases e;unfold RelL at r;exact r.1
 | .int i::xs,_,_,ns,e,r=>by
  unfold RelL at r
  obtain⟨v,ws,f1,f2,rfl,h1,h2,rfl⟩:=r
  simp only[bp]at e
  cases e2:bp xs with
  | none=>rw[e2]at e;cases e
  | some ms =>
   rw[e2]at e
   cases e
   unfold Rel at h1
   rw[h1.1,cF e2 h2]
   rfl
 | .non::_,_,_,_,e,_ | .bl _::_,_,_,_,e,_ | .str _::_,_,_,_,e,_ | .lst _ _::_,_,_,_,e,_ | .tup _::_,_,_,_,e,_ | .obj _ _ _ _::_,_,_,_,e,_ | .exc _::_,_,_,_,e,_=>by simp[bp]at e
theorem d4:∀{ns:List Int}{its:List Value},aI (ns.map V.int) its->PyProof.Rows.IntsAre its ns
 | [],_,r=>by cases r;exact .nil
 | n::ns,_,r=>by
  cases r with
  | cons h t =>
   obtain⟨tk,rfl⟩:=h
   exact .cons _ _ (d4 t)
theorem jJ(hc:X.calm=true):cb X (.type "set") (fun xs H Q=>∃p ns,xs=[.ref p]/\SqL X.K H p (ns.map V.int)/\ns.length<=1000/\∀r S,H r=none->Q (.ref r) (upd H r (.set S (tB ns)))):=by
 intro pins s σ H xs us Q I rv h
 obtain⟨p,ns,rfl,hS,hl,q⟩:=h
 obtain⟨u,rfl,rx⟩:=cT rv
 cases rx
 obtain⟨its,r',pl,hz⟩:=I.list hS
 have hlen:=r'.length
 rw[List.length_map]at hlen
 refine call_set_list (I.ok.hd hc) pl.isList (ns:=ns) (by simpa using d4 r') (by simp only[List.size_toArray,<- hlen];unfold scanBound;omega) fun h' tk hs kp=>?_
 have e:its.toArray.size=ns.length:=by simp[hlen]
 rw[e]at hs
 exact⟨.ref s.heap.objs.size,_,I.laid (t':=tk) (o:=.set (fun k'=>(PyProof.Rows.firstMet (fun i=>ns.getD i 0) ns.length).any (·==k')) (tB ns)) (fun b o e=>kp b o (Heap.lt_size e) e) (Nat.le_refl _) hs,rfl,q _ _ (I.hok.fresh (Nat.le_refl _))⟩
theorem jK:cb X (.builtin "len") (fun xs H Q=>∃r S n,xs=[.ref r]/\H r=some (.set S n)/\Q (.int n) H):=by
 intro pins s σ H xs us Q I rv h
 obtain⟨r,S,n,rfl,hr,q⟩:=h
 obtain⟨u,rfl,rx⟩:=cT rv
 cases rx
 obtain⟨o,es,ep,t,ho,hex,hd,_,_,hb,hf,hn⟩:=I.hok r _ hr
 have hb':es.size < 4096:=hb
 exact call_len_set ho hex hd hf (by omega) ⟨.int n,H,I.tok _,⟨s.toks+1,by rw[hn]⟩,q⟩
theorem zH:bootBuiltins "set" = some (.type "set"):=by decide +kernel
theorem jX(hK:X.K=T.K)(hc:X.calm=true)(hg:Gl X "len")(hm:X.mg "len" = none)(hg2:Gl X "set")(hm2:X.mg "set" = none)(he:SE X T W e m)
  (hs:starEach [e] X.env=[(false,eval e X.env)]:=by rfl)
  (hs2:starEach [.Call (.Name "set" p2) [e] [] pos2] X.env=[(false,eval (.Call (.Name "set" p2) [e] [] pos2) X.env)]:=by rfl) :
  SE X T W (.Call (.Name "len" p) [.Call (.Name "set" p2) [e] [] pos2] [] pos) (mUn iF m):=by
 refine PE.wk (i4 (p:=p) (pos:=pos) jK hg hm boot_len (cZ (j0 (p:=p2) (pos:=pos2) (jJ hc) hg2 hm2 zH (cZ he gT (by rw[hs];rfl)) (he:=by rw[hs];rfl) (hpl:=rfl)) gT (by rw[hs2];rfl)) (he:=by rw[hs2];rfl) (hpl:=rfl)) fun σ H Q ⟨Z,F,env,fp,S,q⟩=>?_
 unfold mUn at q
 refine tE.bind S (fun c e=>by rw[e]at q;exact q) (fun e=>by rw[e]at q;exact q) fun x v H1 F1 f1 e1 g1 r1 n1 d1 w1=>?_
 rw[e1]at q
 cases x with
 | lst fl xs =>
  simp only[Res.ok_bind,iF]at q
  cases en:bp xs with
  | none=>rw[en]at q;exact q.elim
  | some ns =>
   rw[en]at q
   dsimp only at q
   unfold Rel at r1
   obtain⟨a,vs,fp',rfl,hl,hr,_⟩:=r1
   by_cases hn:decide (ns.length<=1000)=true
   ·rw[if_pos hn]at q
    have hv:=cF en hr
    subst hv
    exact⟨a,ns,rfl,by rw[hK];exact hl.sq,of_decide_eq_true hn,fun r S hr=>⟨r,S,_,rfl,aX,q.scal (g1.trans (Gr.same g1.dom (Ext.upd hr))) cX⟩⟩
   ·rw[if_neg hn]at q;exact q.elim
 | _=>exact q.elim
end
def iw:List Int->Int
 | []=>0
 | [a]=>a
 | a::b::l=>min a (iw (b::l))
def gY:List Int->Int
 | []=>0
 | [a]=>a
 | a::b::l=>max a (gY (b::l))
theorem lR:∀{l:List Int},l≠[]->iw l∈l/\∀x∈l,iw l<=x
 | [],h=>absurd rfl h
 | [a],_=>by simp[iw]
 | a::b::l,_=>by
  obtain⟨h1,h2⟩:=lR (l:=b::l) (by simp)
  unfold iw
  refine⟨?_,fun x hx=>?_⟩
  ·rcases Int.le_total a (iw (b::l))with h | h
   ·rw[Int.min_eq_left h];exact List.mem_cons_self
   ·rw[Int.min_eq_right h];exact List.mem_cons_of_mem _ h1
  ·rcases List.mem_cons.mp hx with rfl | hx
   ·exact Int.min_le_left _ _
   ·exact Int.le_trans (Int.min_le_right _ _) (h2 x hx)
theorem lS:∀{l:List Int},l≠[]->gY l∈l/\∀x∈l,x<=gY l
 | [],h=>absurd rfl h
 | [a],_=>by simp[gY]
 | a::b::l,_=>by
  obtain⟨h1,h2⟩:=lS (l:=b::l) (by simp)
  unfold gY
  refine⟨?_,fun x hx=>?_⟩
  ·rcases Int.le_total a (gY (b::l))with h | h
   ·rw[Int.max_eq_right h];exact List.mem_cons_of_mem _ h1
   ·rw[Int.max_eq_left h];exact List.mem_cons_self
  ·rcases List.mem_cons.mp hx with rfl | hx
   ·exact Int.le_max_left _ _
   ·exact Int.le_trans (h2 x hx) (Int.le_max_right _ _)
section
variable{X:Cx}{T:Tb}{W:Nat->St->Hp->Prop}{Z:Zn}{F F1 B L:Addr->Prop}{H H1:Hp}{σ:St}{env:En}{fp:Nat->List Addr}{pins:List (Addr×Obj)}{s:Shared}
theorem gz{h':Heap}{t:Nat}(I:L2.Inv X pins σ H s)(k:∀b o,s.heap.get? b=some o->h'.get? b=some o):L2.Inv X pins σ H { s with heap:=h',toks:=t }:=I.un (Un.kept k) (I.hok.kept k)
theorem fB{its:List Value}{ns:List Int}(r:aI (ns.map V.int) its):∀(i:Nat) (v:Value),its.toArray[i]?=some v->∃t,v=.int (ns.getD i 0) t:=by
 intro i v e
 have e':its[i]?=some v:=by simpa using e
 have hi:i < ns.length:=by
  have h1:=(List.getElem?_eq_some_iff.mp e').1
  have h2:=r.length
  rw[List.length_map]at h2
  omega
 have:∀{ns:List Int}{its:List Value}{i:Nat}{v:Value},aI (ns.map V.int) its->its[i]?=some v->∃t,v=.int (ns.getD i 0) t:=by
  intro ns
  induction ns with
  | nil=>intro its i v r e;cases r;simp at e
  | cons n ns ih =>
   intro its i v r e
   cases r with
   | cons h t =>
    obtain⟨tk,rfl⟩:=h
    cases i with
    | zero=>simp at e;exact⟨tk,by rw[<- e];rfl⟩
    | succ i =>
     obtain⟨tk',h'⟩:=ih t (by simpa using e)
     exact⟨tk',by rw[h'];rfl⟩
 exact this r e'
theorem tL{ns:List Int}(h:0 < ns.length):ns.getD (argBest (fun i j=>decide (ns.getD i 0 < ns.getD j 0)) (ns.length - 1)) 0=iw ns:=by
 obtain⟨h1,h2⟩:=argBest_lt (fun i=>ns.getD i 0) (ns.length - 1)
 obtain⟨m1,m2⟩:=lR (l:=ns) (by intro z;simp[z]at h)
 refine Int.le_antisymm ?_ (m2 _ ?_)
 ·obtain⟨i,hi,e⟩:=List.getElem_of_mem m1
  have:=h2 i (by omega)
  simp only[List.getD_eq_getElem?_getD,List.getElem?_eq_getElem hi,Option.getD_some,e]at this
  simpa[List.getD_eq_getElem?_getD]using this
 ·rw[List.getD_eq_getElem?_getD,List.getElem?_eq_getElem (by omega)]
  exact List.getElem_mem _
theorem tN{ns:List Int}(h:0 < ns.length):ns.getD (argBest (fun i j=>decide (ns.getD i 0 > ns.getD j 0)) (ns.length - 1)) 0=gY ns:=by
 obtain⟨h1,h2⟩:=argBest_gt (fun i=>ns.getD i 0) (ns.length - 1)
 obtain⟨m1,m2⟩:=lS (l:=ns) (by intro z;simp[z]at h)
 refine Int.le_antisymm (m2 _ ?_) ?_
 ·rw[List.getD_eq_getElem?_getD,List.getElem?_eq_getElem (by omega)]
  exact List.getElem_mem _
 ·obtain⟨i,hi,e⟩:=List.getElem_of_mem m1
  have:=h2 i (by omega)
  simp only[List.getD_eq_getElem?_getD,List.getElem?_eq_getElem hi,Option.getD_some,e]at this
  simpa[List.getD_eq_getElem?_getD]using this
theorem km{n:Nat}{l I:Addr}(hl:l < n)(e:I=n):∀b∈[I,l],b < n+1:=fun b hb=>by
 rcases List.mem_cons.mp hb with z | hb
 ·rw[z,e];exact Nat.lt_succ_self _
 ·rcases List.mem_cons.mp hb with rfl | hb
  ·exact Nat.lt_succ_of_lt hl
  ·cases hb
theorem eZ{h h':Heap}{o:Obj}(hk:∀b u,b∉[h.objs.size]->(h.push o).get? b=some u->h'.get? b=some u):∀b u,h.get? b=some u->h'.get? b=some u:=fun b u e =>
 hk b u (fun hm=>by
  rcases List.mem_cons.mp hm with z | z
  ·exact absurd (z▸Heap.lt_size e) (Nat.lt_irrefl _)
  ·cases z) (Heap.get?_push_of_some _ e)
theorem kX(hc:X.calm=true):cb X (.builtin "min") (fun xs H Q=>∃p ns,xs=[.ref p]/\(SqL X.K H p (ns.map V.int)\/ SqT X.K H p (ns.map V.int))/\0 < ns.length/\Q (.int (iw ns)) H):=by
 intro pins s σ H xs us Q I rv h
 obtain⟨p,ns,rfl,hq,hn,q⟩:=h
 obtain⟨u,rfl,rx⟩:=cT rv
 cases rx
 have hh:=I.ok.hd hc
 have key:∀{its:List Value},aI (ns.map V.int) its->∀{v:Value}{h':Heap}{tk:Nat},its.toArray[argBest (fun i j=>decide (ns.getD i 0 < ns.getD j 0)) (its.toArray.size - 1)]?=some v->(∀b o,s.heap.get? b=some o->h'.get? b=some o)->EP X pins σ Q v { s with heap:=h',toks:=tk }:=by
  intro its r v h' tk hv k
  have hl:its.toArray.size=ns.length:=by
   have:=r.length
   simpa using this.symm
  rw[hl]at hv
  obtain⟨t,rfl⟩:=fB r _ _ hv
  rw[tL hn]
  exact⟨.int _,H,gz I k,⟨t,rfl⟩,q⟩
 rcases hq with hq | hq
 ·obtain⟨its,r,pl,hz⟩:=I.list hq
  have hl:its.toArray.size=ns.length:=by
   have:=r.length
   simpa using this.symm
  obtain⟨o,ho,hcl,n,hd⟩:=pl.isList
  have hlt:=Heap.lt_size ho
  refine call_min_walk (wpAny_pyIter_list pl.isList ?_)
  refine⟨_,_,_,_,_,_,_,rfl,Walks.list (A:=X.A.in1) hh _ p (Nat.ne_of_lt hlt) its.toArray,⟨⟨_,Heap.get?_push_size _ rfl,rfl,rfl⟩,pl.isList.push _⟩,fun b hb=>?_,by omega,CmpOf.ints_lt (fun i=>ns.getD i 0) (fB r),fun v h' tk hP hk=>key r hP (eZ hk)⟩
  show b <(s.heap.push _).objs.size
  rw[Heap.size_push]
  exact km hlt rfl b hb
 ·obtain⟨its,r,pl,hz⟩:=I.tuple hq
  have hl:its.toArray.size=ns.length:=by
   have:=r.length
   simpa using this.symm
  have pt:s.heap.IsTuple p its.toArray:=pl
  obtain⟨o,ho,hcl,n,hd⟩:=pl
  have hlt:=Heap.lt_size ho
  refine call_min_walk (wpAny_pyIter_tuple pt ?_)
  refine⟨_,_,_,_,_,_,_,rfl,Walks.tuple (A:=X.A.in1) hh _ p (Nat.ne_of_lt hlt) its.toArray,⟨⟨_,Heap.get?_push_size _ rfl,rfl,rfl⟩,pt.push _⟩,fun b hb=>?_,by omega,CmpOf.ints_lt (fun i=>ns.getD i 0) (fB r),fun v h' tk hP hk=>key r hP (eZ hk)⟩
  show b <(s.heap.push _).objs.size
  rw[Heap.size_push]
  exact km hlt rfl b hb
theorem kY(hc:X.calm=true):cb X (.builtin "max") (fun xs H Q=>∃p ns,xs=[.ref p]/\(SqL X.K H p (ns.map V.int)\/ SqT X.K H p (ns.map V.int))/\0 < ns.length/\Q (.int (gY ns)) H):=by
 intro pins s σ H xs us Q I rv h
 obtain⟨p,ns,rfl,hq,hn,q⟩:=h
 obtain⟨u,rfl,rx⟩:=cT rv
 cases rx
 have hh:=I.ok.hd hc
 have key:∀{its:List Value},aI (ns.map V.int) its->∀{v:Value}{h':Heap}{tk:Nat},its.toArray[argBest (fun i j=>decide (ns.getD i 0 > ns.getD j 0)) (its.toArray.size - 1)]?=some v->(∀b o,s.heap.get? b=some o->h'.get? b=some o)->EP X pins σ Q v { s with heap:=h',toks:=tk }:=by
  intro its r v h' tk hv k
  have hl:its.toArray.size=ns.length:=by
   have:=r.length
   simpa using this.symm
  rw[hl]at hv
  obtain⟨t,rfl⟩:=fB r _ _ hv
  rw[tN hn]
  exact⟨.int _,H,gz I k,⟨t,rfl⟩,q⟩
 rcases hq with hq | hq
 ·obtain⟨its,r,pl,hz⟩:=I.list hq
  have hl:its.toArray.size=ns.length:=by
   have:=r.length
   simpa using this.symm
  obtain⟨o,ho,hcl,n,hd⟩:=pl.isList
  have hlt:=Heap.lt_size ho
  refine call_max_walk (wpAny_pyIter_list pl.isList ?_)
  refine⟨_,_,_,_,_,_,_,rfl,Walks.list (A:=X.A.in1) hh _ p (Nat.ne_of_lt hlt) its.toArray,⟨⟨_,Heap.get?_push_size _ rfl,rfl,rfl⟩,pl.isList.push _⟩,fun b hb=>?_,by omega,CmpOf.ints_gt (fun i=>ns.getD i 0) (fB r),fun v h' tk hP hk=>key r hP (eZ hk)⟩
  show b <(s.heap.push _).objs.size
  rw[Heap.size_push]
  exact km hlt rfl b hb
 ·obtain⟨its,r,pl,hz⟩:=I.tuple hq
  have hl:its.toArray.size=ns.length:=by
   have:=r.length
   simpa using this.symm
  have pt:s.heap.IsTuple p its.toArray:=pl
  obtain⟨o,ho,hcl,n,hd⟩:=pl
  have hlt:=Heap.lt_size ho
  refine call_max_walk (wpAny_pyIter_tuple pt ?_)
  refine⟨_,_,_,_,_,_,_,rfl,Walks.tuple (A:=X.A.in1) hh _ p (Nat.ne_of_lt hlt) its.toArray,⟨⟨_,Heap.get?_push_size _ rfl,rfl,rfl⟩,pt.push _⟩,fun b hb=>?_,by omega,CmpOf.ints_gt (fun i=>ns.getD i 0) (fB r),fun v h' tk hP hk=>key r hP (eZ hk)⟩
  show b <(s.heap.push _).objs.size
  rw[Heap.size_push]
  exact km hlt rfl b hb
def eY(g:List Int->Int):PV->Res PV:=fun x=>match bA x with
 | some xs=>match bp xs with
  | some ns=>if ns.isEmpty then .stuck else .ok (.int (g ns))
  | none=>.stuck
 | none=>.stuck
theorem lQ(hK:X.K=T.K):Mir T W (p1 (eY g)) (fun xs H Q=>∃p ns,xs=[.ref p]/\(SqL X.K H p (ns.map V.int)\/ SqT X.K H p (ns.map V.int))/\0 < ns.length/\Q (.int (g ns)) H):=by
 intro B F L σ H Q F' H' xs vs fx gr r nf nd new q
 match xs,r,q with
 | [x],r,q =>
  obtain⟨v,rfl,rv⟩:=RelL.one r
  simp only[p1,eY]at q
  cases e:bA x with
  | none=>rw[e]at q;exact q.elim
  | some ys =>
   rw[e]at q
   dsimp only at q
   cases e2:bp ys with
   | none=>rw[e2]at q;exact q.elim
   | some ns =>
    rw[e2]at q
    dsimp only at q
    obtain⟨a,us,fx',rfl,hs,hr,_⟩:=rv.seq e
    have hu:=cF e2 hr
    subst hu
    cases ns with
    | nil=>exact q.elim
    | cons n ns=>exact⟨a,_,rfl,by rw[hK];exact hs,by simp,q.scal gr cX⟩
 | [],_,q=>exact q.elim
 | _::_::_,_,q=>simp only[p1]at q;exact q.elim
theorem tP:bootBuiltins "min" = some (.builtin "min"):=by decide +kernel
theorem zI:bootBuiltins "max" = some (.builtin "max"):=by decide +kernel
theorem on(hK:X.K=T.K)(hc:X.calm=true)(hg:Gl X "min")(hm:X.mg "min" = none)(ha:SE X T W e m)(he:starEach [e] X.env=[(false,eval e X.env)]:=by rfl):SE X T W (.Call (.Name "min" p) [e] [] pos) (ao (p1 (eY iw)) (aa m aj)) :=
 dg (kX hc) (lQ hK) hg hm tP (ac ha ag (by rw[he];rfl)) (he:=by rw[he];rfl) (hpl:=rfl)
theorem kx(hK:X.K=T.K)(hc:X.calm=true)(hg:Gl X "max")(hm:X.mg "max" = none)(ha:SE X T W e m)(he:starEach [e] X.env=[(false,eval e X.env)]:=by rfl):SE X T W (.Call (.Name "max" p) [e] [] pos) (ao (p1 (eY gY)) (aa m aj)) :=
 dg (kY hc) (lQ hK) hg hm zI (ac ha ag (by rw[he];rfl)) (he:=by rw[he];rfl) (hpl:=rfl)
def ni(g:Int->Int->Int):List PV->Res PV
 | [.int i,.int j]=>.ok (.int (g i j))
 | _=>.stuck
theorem p0{g:Int->Int->Int}{g':Int->Int->Int}(hg:∀i j,g' i j=g i j):Mir T W (ni g) (fun xs H Q=>∃i j,xs=[.int i,.int j]/\Q (.int (g' i j)) H):=by
 intro B F L σ H Q F' H' xs vs fx gr r nf nd new q
 match xs,r,q with
 | [x,y],r,q =>
  cases x with
  | int i =>
   cases y with
   | int j =>
    unfold RelL at r
    obtain⟨v,ws,f1,f2,rfl,h1,h2,rfl⟩:=r
    obtain⟨u,rfl,h3⟩:=RelL.one h2
    unfold Rel at h1 h3
    obtain⟨rfl,_⟩:=h1
    obtain⟨rfl,_⟩:=h3
    exact⟨i,j,rfl,by rw[hg];exact q.scal gr cX⟩
   | _=>exact q.elim
  | _=>exact q.elim
 | [],_,q=>exact q.elim
 | [x],_,q=>cases x<;>exact q.elim
 | x::y::z::l,_,q=>cases x<;>cases y<;>exact q.elim
theorem ux(hc:X.calm=true)(hg:Gl X "min")(hm:X.mg "min" = none)(ha:SA X T W [a,b] ms)(he:starEach [a,b] X.env=[(false,eval a X.env),(false,eval b X.env)]:=by rfl)(he2:starEach [b] X.env=[(false,eval b X.env)]:=by rfl) :
  SE X T W (.Call (.Name "min" p) [a,b] [] pos) (ao (ni min) ms) :=
 dg (qk hc) (p0 fun i j=>by simp only[Int.min_def];split<;>split<;>omega) hg hm tP ha (he:=by rw[he,he2]) (hpl:=by rw[he2];rfl)
end
end PR
namespace PR
open PySem PySem.W PyProof.Rows
structure Ord(N:Nat)(lt:Nat->Nat->Bool):Prop where
 tr:∀i j k,i < N->j < N->k < N->lt i j=true->lt j k=true->lt i k=true
 tot:∀i j,i < N->j < N->i≠j->lt i j=false->lt j i=true
 irr:∀i,i < N->lt i i=false
structure Plc(N:Nat)(p:Array Nat):Prop where
 pm:p.toList.Perm (List.range N)
abbrev at_(p:Array Nat)(i:Nat):Nat:=p.getD i 0
section
variable{N:Nat}{lt:Nat->Nat->Bool}{p:Array Nat}
theorem Plc.sz(P:Plc N p):p.size=N:=by simpa using P.pm.length_eq
theorem Plc.get(P:Plc N p)(h:i < N):p[i]?=some (at_ p i):=by
 have:i < p.size:=by rw[P.sz];exact h
 simp[at_,this]
theorem Plc.bd(P:Plc N p)(h:i < N):at_ p i < N:=by
 have hm:at_ p i∈p.toList:=by
  have:=P.get h
  exact Array.mem_toList_iff.mpr (Array.mem_of_getElem? this)
 simpa using P.pm.mem_iff.mp hm
theorem Plc.inj(P:Plc N p)(hi:i < N)(hj:j < N)(e:at_ p i=at_ p j):i=j:=by
 have nd:p.toList.Nodup:=P.pm.nodup_iff.mpr List.nodup_range
 have h1:=P.get hi
 have h2:=P.get hj
 rw[e]at h1
 have h1':p.toList[i]?=some (at_ p j):=by simpa using h1
 have h2':p.toList[j]?=some (at_ p j):=by simpa using h2
 obtain⟨a1,b1⟩:=List.getElem?_eq_some_iff.mp h1'
 obtain⟨a2,b2⟩:=List.getElem?_eq_some_iff.mp h2'
 exact(List.getElem_inj nd).mp (b1.trans b2.symm)
def Asc(lt:Nat->Nat->Bool)(p:Array Nat)(n:Nat):Prop:=∀a b,a < b->b < n->lt (at_ p a) (at_ p b)=true
def Dsc(lt:Nat->Nat->Bool)(p:Array Nat)(n:Nat):Prop:=∀a b,a < b->b < n->lt (at_ p b) (at_ p a)=true
theorem Asc.more(O:Ord N lt)(P:Plc N p)(h:Asc lt p n)(h1:1<=n)(hn:n < N)(hl:lt (at_ p (n - 1)) (at_ p n)=true):Asc lt p (n+1):=fun a b hab hb=>by
 by_cases hbn:b < n
 ·exact h a b hab hbn
 ·obtain rfl:b=n:=by omega
  by_cases ha:a=b - 1
  ·rw[ha];exact hl
  ·exact O.tr _ _ _ (P.bd (by omega)) (P.bd (by omega)) (P.bd (by omega)) (h a (b - 1) (by omega) (by omega)) hl
theorem Dsc.more(O:Ord N lt)(P:Plc N p)(h:Dsc lt p n)(h1:1<=n)(hn:n < N)(hl:lt (at_ p n) (at_ p (n - 1))=true):Dsc lt p (n+1):=fun a b hab hb=>by
 by_cases hbn:b < n
 ·exact h a b hab hbn
 ·obtain rfl:b=n:=by omega
  by_cases ha:a=b - 1
  ·rw[ha];exact hl
  ·exact O.tr _ _ _ (P.bd (by omega)) (P.bd (by omega)) (P.bd (by omega)) hl (h a (b - 1) (by omega) (by omega))
theorem Dsc.rev(P:Plc N p)(h:Dsc lt p n)(hn:n<=N):Asc lt (kas_rev p 0 n) n/\Plc N (kas_rev p 0 n):=by
 have hp:(kas_rev p 0 n).toList.Perm p.toList:=Array.perm_iff_toList_perm.mp (mirror_perm _ _ _ _)
 have P':Plc N (kas_rev p 0 n):=⟨hp.trans P.pm⟩
 have ix:∀k,k < n->at_ (kas_rev p 0 n) k=at_ p (n - 1 - k):=fun k hk=>by
  have e:=getElem?_mirror_all (xs:=p) (i:=0) (j:=n) (by rw[P.sz];exact hn) k
  have h1:(kas_rev p 0 n)[k]?=p[0+n - 1 - k]?:=by
   unfold kas_rev
   rw[e,if_pos ⟨by omega,hk⟩]
  rw[P'.get (by omega),show 0+n - 1 - k=n - 1 - k by omega,P.get (by omega)]at h1
  exact Option.some.inj h1
 refine⟨fun a b hab hb=>?_,P'⟩
 rw[ix a (by omega),ix b hb]
 exact h _ _ (by omega) (by omega)
variable{cmp:Nat->Nat->(Bool->Shared->Prop)->Shared->Prop}{s:Shared}
abbrev Cmp(N:Nat)(lt:Nat->Nat->Bool)(cmp:Nat->Nat->(Bool->Shared->Prop)->Shared->Prop)(s:Shared):Prop:=∀(i j:Nat) (C:Bool->Shared->Prop),i < N->j < N->C (lt i j) s->cmp i j C s
theorem nS(O:Ord N lt)(C:Cmp N lt cmp s)(P:Plc N p):∀(f n:Nat) (Q:Nat->Shared->Prop),1<=n->n+f=N->Asc lt p n->(∀m,n<=m->m<=N->Asc lt p m->(m < N->lt (at_ p m) (at_ p (m - 1))=true)->Q m s)->(kas_asc p f n).kasWp cmp Q s
 | 0,n,Q,h1,hn,ha,k=>k n (Nat.le_refl _) (by omega) ha (by omega)
 | f+1,n,Q,h1,hn,ha,k=>by
  refine C _ _ _ (P.bd (by omega)) (P.bd (by omega)) ?_
  cases e:lt (at_ p n) (at_ p (n - 1))with
  | true=>exact k n (Nat.le_refl _) (by omega) ha fun _=>e
  | false =>
   have hl:=O.tot _ _ (P.bd (by omega)) (P.bd (by omega)) (fun z=>by have:=P.inj (by omega) (by omega) z;omega) e
   exact nS O C P f (n+1) Q (by omega) (by omega) (ha.more O P h1 (by omega) hl) fun m hm=>k m (by omega)
theorem tz(O:Ord N lt)(C:Cmp N lt cmp s)(P:Plc N p):∀(f n:Nat) (Q:Array Nat×Nat×Nat->Shared->Prop),1<=n->n+f=N->Dsc lt p n->(∀m,n<=m->m<=N->Dsc lt p m->Q (p,m,0) s)->(kas_desc f p n 0).kasWp cmp Q s
 | 0,n,Q,h1,hn,ha,k=>k n (Nat.le_refl _) (by omega) ha
 | f+1,n,Q,h1,hn,ha,k=>by
  refine C _ _ _ (P.bd (by omega)) (P.bd (by omega)) ?_
  cases e:lt (at_ p n) (at_ p (n - 1))with
  | true=>exact tz O C P f (n+1) Q (by omega) (by omega) (ha.more O P h1 (by omega) e) fun m hm=>k m (by omega)
  | false =>
   have hl:=O.tot _ _ (P.bd (by omega)) (P.bd (by omega)) (fun z=>by have:=P.inj (by omega) (by omega) z;omega) e
   refine C _ _ _ (P.bd (by omega)) (P.bd (by omega)) ?_
   have e2:lt (p.getD (n - 1) 0) (p.getD n 0)=true:=hl
   rw[e2]
   exact k n (Nat.le_refl _) (by omega) ha
theorem tH(O:Ord N lt)(C:Cmp N lt cmp s)(P:Plc N p)(h2:2<=N)(Q:Nat×Array Nat->Shared->Prop)(k:∀m p',1<=m->m<=N->Plc N p'->Asc lt p' m->Q (m,p') s):(kas_count N p).kasWp cmp Q s:=by
 unfold kas_count
 rw[KasT.kasWp_bind]
 refine nS O C P (N - 1) 1 _ (Nat.le_refl _) (by omega) (fun a b _ hb=>by omega) fun n h1 hn ha hs=>?_
 by_cases e:n=N
 ·rw[if_pos (by simpa using e)]
  exact k n p h1 hn P ha
 ·rw[if_neg (by simpa using e)]
  by_cases hn1:n > 1
  ·rw[if_pos hn1]
   refine C _ _ _ (P.bd (by omega)) (P.bd (by omega)) ?_
   have e2:lt (p.getD 0 0) (p.getD (n - 1) 0)=true:=ha 0 (n - 1) (by omega) (by omega)
   rw[e2]
   exact k n p h1 hn P ha
  ·rw[if_neg hn1]
   obtain rfl:n=1:=by omega
   unfold kas_descPart
   rw[KasT.kasWp_bind]
   refine tz O C P (N - 2) 2 _ (by omega) (by omega) (fun a b hab hb=>?_) fun m hm1 hm2 hd=>?_
   ·obtain rfl:a=0:=by omega
    obtain rfl:b=1:=by omega
    exact hs (by omega)
   ·dsimp only
    rw[if_neg (Nat.lt_irrefl 0)]
    obtain⟨ha',P'⟩:=hd.rev P hm2
    unfold kas_tail3
    rw[KasT.kasWp_bind]
    exact nS O C P' (N - m) m _ (by omega) (by omega) ha' fun n' h1' hn' ha'' _=>k n' _ (by omega) hn' P' ha''
theorem i3(O:Ord N lt)(C:Cmp N lt cmp s)(P:Plc N p)(hk:k < N)(ha:Asc lt p k):∀(f l r:Nat) (Q:Nat->Shared->Prop),l<=r->r<=k->r - l<=f->(∀a,a < l->lt (at_ p a) (at_ p k)=true)->(∀a,r<=a->a < k->lt (at_ p k) (at_ p a)=true)->
  (∀m,m<=k->(∀a,a < m->lt (at_ p a) (at_ p k)=true)->(∀a,m<=a->a < k->lt (at_ p k) (at_ p a)=true)->Q m s)->(kas_place p k f l r).kasWp cmp Q s
 | 0,l,r,Q,h1,h2,h3,h4,h5,q=>by
  obtain rfl:l=r:=by omega
  exact q l h2 h4 h5
 | f+1,l,r,Q,h1,h2,h3,h4,h5,q=>by
  unfold kas_place
  by_cases e:l >= r
  ·rw[if_pos e]
   obtain rfl:l=r:=by omega
   exact q l h2 h4 h5
  ·rw[if_neg e]
   have hm:(l+r) / 2 < r:=by omega
   have hm2:l <=(l+r) / 2:=by omega
   refine C _ _ _ (P.bd hk) (P.bd (by omega)) ?_
   cases e2:lt (at_ p k) (at_ p ((l+r) / 2))with
   | true =>
    refine i3 O C P hk ha f l ((l+r) / 2) Q hm2 (by omega) (by omega) h4 (fun a h6 h7=>?_) q
    by_cases hae:a=(l+r) / 2
    ·rw[hae];exact e2
    ·exact O.tr _ _ _ (P.bd hk) (P.bd (by omega)) (P.bd (by omega)) e2 (ha _ a (by omega) h7)
   | false =>
    have hl:=O.tot _ _ (P.bd hk) (P.bd (by omega)) (fun z=>by have:=P.inj hk (by omega) z;omega) e2
    refine i3 O C P hk ha f ((l+r) / 2+1) r Q (by omega) h2 (by omega) (fun a h6=>?_) h5 q
    by_cases hae:a=(l+r) / 2
    ·rw[hae];exact hl
    ·exact O.tr _ _ _ (P.bd (by omega)) (P.bd (by omega)) (P.bd hk) (ha a _ (by omega) (by omega)) hl
theorem tK(O:Ord N lt)(C:Cmp N lt cmp s):∀(f k:Nat) (p:Array Nat) (Q:Array Nat->Shared->Prop),Plc N p->Asc lt p k->k+f=N->(∀p',Plc N p'->Asc lt p' N->Q p' s)->(kas_bin f p k).kasWp cmp Q s
 | 0,k,p,Q,P,ha,hk,q=>q p P (by rw[<- hk];exact ha)
 | f+1,k,p,Q,P,ha,hk,q=>by
  unfold kas_bin
  rw[KasT.kasWp_bind]
  refine i3 O C P (by omega) ha k 0 k _ (Nat.zero_le _) (Nat.le_refl _) (by omega) (fun _ z=>absurd z (Nat.not_lt_zero _)) (fun a h1 h2=>by omega) fun m hm h1 h2=>?_
  have P':Plc N (bubble p k (k - m)):=⟨(Array.perm_iff_toList_perm.mp (bubble_perm _ _ _)).trans P.pm⟩
  have ix:=getElem?_bubble (xs:=p) (src:=k) (by rw[P.sz];omega) (k - m) (by omega)
  have g:∀i,i < k+1->at_ (bubble p k (k - m)) i=if i=m then at_ p k else if m < i then at_ p (i - 1)else at_ p i:=fun i hi=>by
   have e:=ix i
   rw[P'.get (by omega)]at e
   have hkm:k - (k - m)=m:=by omega
   rw[hkm]at e
   by_cases c1:i=m
   ·rw[if_pos c1]
    rw[if_pos c1,P.get (by omega)]at e
    exact Option.some.inj e
   ·rw[if_neg c1]at e ⊢
    by_cases c2:m < i
    ·rw[if_pos c2]
     rw[if_pos ⟨c2,by omega⟩,P.get (by omega)]at e
     exact Option.some.inj e
    ·rw[if_neg c2]
     rw[if_neg (fun z=>c2 z.1),P.get (by omega)]at e
     exact Option.some.inj e
  refine tK O C f (k+1) _ Q P' (fun a b hab hb=>?_) (by omega) q
  rw[g a (by omega),g b hb]
  by_cases a1:a=m
  ·rw[if_pos a1,if_neg (by omega),if_pos (by omega)]
   exact h2 (b - 1) (by omega) (by omega)
  ·rw[if_neg a1]
   by_cases a2:m < a
   ·rw[if_pos a2,if_neg (by omega),if_pos (by omega)]
    exact ha _ _ (by omega) (by omega)
   ·rw[if_neg a2]
    by_cases b1:b=m
    ·rw[if_pos b1];exact h1 a (by omega)
    ·rw[if_neg b1]
     by_cases b2:m < b
     ·rw[if_pos b2]
      by_cases hh:a=b - 1
      ·omega
      ·exact ha _ _ (by omega) (by omega)
     ·rw[if_neg b2]
      exact ha _ _ hab (by omega)
theorem ul(O:Ord N lt)(C:Cmp N lt cmp s)(h2:2<=N)(Q:Array Nat->Shared->Prop)(q:∀p,Plc N p->Asc lt p N->Q p s):(kas_sort N).kasWp cmp Q s:=by
 unfold kas_sort
 rw[KasT.kasWp_bind]
 refine tH O C (p:=List.toArray (List.range N)) ⟨by simp⟩ h2 _ fun m p' h1 hm P ha=>?_
 dsimp only
 by_cases e:m < N
 ·rw[if_pos e,Nat.max_eq_left h1]
  exact tK O C (N - m) m p' Q P ha (by omega) q
 ·rw[if_neg e]
  obtain rfl:m=N:=by omega
  exact q p' P ha
end
end PR
namespace PR
open PySem PySem.Spec L2 PyProof.Rows PySem.W
section
variable{prog:Program}{w:World}{A:Around}{E:Value->Shared->Prop}{s:Shared}
def jc(vs:List Value)(p:Array Nat):Array Value:=(p.toList.map fun i=>vs.getD i Value.none).toArray
theorem pN(N:Nat):Plc N (List.range N).toArray:=⟨by simp⟩
theorem ik:jc vs (List.range vs.length).toArray=vs.toArray:=by
 unfold jc
 congr 1
 refine List.ext_getElem (by simp) fun i h1 h2=>?_
 simp[h2]
theorem t8:∀{vs:List Value},vs.length < 2->(vs.toArray.zip vs.toArray).map (·.2)=vs.toArray
 | [],_ | [v],_=>by simp
theorem p4{κ:SortKind}(ho:s.heap.get? a=some (seqObj "list" vs.toArray n))(h64:vs.length < 64)
  (hK:2<=vs.length->∀s':Shared,(∀b o,b≠a->s.heap.get? b=some o->s'.heap.get? b=some o)->Ord vs.length lt/\(∀Q:SortKind->Shared->Prop,Q κ s'->wpAny (model prog w) A (keyKind' vs.toArray) Q E s')/\Cmp vs.length lt (kas_ask prog w A κ vs) s')
  (h:∀p,Plc vs.length p->Asc lt p vs.length->P (.done (.ret .none)) { s with heap:=sortedHeap s.heap a vs (jc vs p) }) :
  wpAny (model prog w) A (Builtin.«list.sort» ⟨[.ref a],[]⟩) P E s:=by
 have lo:=Heap.lt_size ho
 obtain⟨e1,g1⟩:∃e1,(s.heap.update a (Obj.mapSeq fun _=>#[])).get? a=some (seqObj "list" #[] e1):=⟨_,get?_update_seq ho (fun _=>#[])⟩
 have g6:(((s.heap.update a (Obj.mapSeq fun _=>#[])).push (seqObj "tuple" vs.toArray 0)).push (seqObj "list" #[] 0)).get? a=some (seqObj "list" #[] e1):=Heap.get?_push_of_some _ (Heap.get?_push_of_some _ g1)
 have kp:∀b o,b≠a->s.heap.get? b=some o->(((s.heap.update a (Obj.mapSeq fun _=>#[])).push (seqObj "tuple" vs.toArray 0)).push (seqObj "list" #[] 0)).get? b=some o:=fun b o hb q =>
  Heap.get?_push_of_some _ (Heap.get?_push_of_some _ ((Heap.get?_update_ne _ _ _ _ hb).trans q))
 rw[list_sort_plain]
 refine wpAny_bind (listItems_at ho rfl (wpAny_bind (listUpdate_at ho rfl (wpAny_bind (seqEpoch_at g1 rfl (wpAny_bind (wpAny_newTuple (wpAny_bind (wpAny_newList (wpAny_holding ?_))))))))))<;>try (simp only[List.size_toArray,sizeLine_eq];omega)
 show wpAny (model prog w) A _ P E { s with heap:=((s.heap.update a (Obj.mapSeq fun _=>#[])).push (seqObj "tuple" vs.toArray 0)).push (seqObj "list" #[] 0) }
 dsimp only
 by_cases h2:vs.toArray.size < 2
 ·have h2':vs.length < 2:=by simpa using h2
  rw[if_pos h2,if_pos h2]
  refine wpAny_bind (wpAny_pure ?_)
  rw[StateT.run_pure]
  refine wpAny_bind (wpAny_pure ?_)
  dsimp only
  have e3:(arrOf (SortSt.mk' general' (vs.toArray.zip vs.toArray) #[] 7 none)).map (·.2)=jc vs (List.range vs.length).toArray:=by
   rw[ik]
   show(vs.toArray.zip vs.toArray).map (·.2)=vs.toArray
   exact t8 h2'
  rw[e3]
  refine wpAny_bind (seqEpoch_at g6 rfl (wpAny_bind (listUpdate_at g6 rfl ?_ (Nat.zero_le _) (by rw[ik];simp only[List.size_toArray,sizeLine_eq];omega))))
  simp only[bne_self_eq_false,Bool.false_eq_true,if_false]
  exact wpAny_pure (h _ (pN _) fun x y hxy hy=>by omega)
 ·have h2':2<=vs.length:=by simp at h2;omega
  rw[if_neg h2,if_neg h2]
  obtain⟨O,hk,C⟩:=hK h2' { s with heap:=((s.heap.update a (Obj.mapSeq fun _=>#[])).push (seqObj "tuple" vs.toArray 0)).push (seqObj "list" #[] 0) } kp
  refine wpAny_bind (hk _ ?_)
  refine wpAny_bind (wpAny_mono (kat_run (κ:=κ) (ks:=vs) (vs:=vs) (Q:=fun st' s'=>∃ p:Array Nat,arrOf st'=p.map (kas_item (vs.toArray.zip vs.toArray))/\failedOf st'=none/\Plc vs.length p/\Asc lt p vs.length/\s'=_) rfl h2' h64
   (fun p st' s' _ a2 a3 a4=>⟨p,a2,a3,a4⟩) (ul O C h2' _ fun p c1 c2=>⟨c1,c2,rfl⟩)) ?_ fun _ _ e=>e)
  rintro⟨⟨⟩,st'⟩ s' ⟨p,har,hf,c1,c2,rfl⟩
  dsimp only
  have e3:=kat_snds (ks:=vs) (vs:=vs) rfl har
  rw[e3]
  refine wpAny_bind (seqEpoch_at g6 rfl (wpAny_bind (listUpdate_at g6 rfl ?_ (Nat.zero_le _) (by
   rw[List.size_toArray,List.length_map,Array.length_toList,c1.sz,sizeLine_eq];omega))))
  rw[hf]
  simp only[bne_self_eq_false,Bool.false_eq_true,if_false]
  exact wpAny_pure (h _ c1 c2)
theorem mT{κ:SortKind}(hl:s.heap.IsList l vs.toArray)(h64:vs.length < 64)
  (hK:2<=vs.length->∀s':Shared,(∀b o,s.heap.get? b=some o->s'.heap.get? b=some o)->Ord vs.length lt/\(∀(E:Value->Shared->Prop) (Q:SortKind->Shared->Prop),Q κ s'->wpAny (model prog w) A.in1.in1 (keyKind' vs.toArray) Q E s')/\Cmp vs.length lt (kas_ask prog w A.in1.in1 κ vs) s')
  (h:∀p,Plc vs.length p->Asc lt p vs.length->Q (.ref (s.heap.objs.size+1)) { s with heap:=sortedAll s.heap vs (jc vs p) }) :
  wpAny (model prog w) A (call (.builtin "sorted") [.ref l]) Q E s:=by
 refine Calls.call_function_entry kind_sorted plain_sorted entry_sorted (args_sorted1 _) ?_
 unfold Builtin.«sorted»
 have sz:((s.heap.push (seqObj "list" #[] 0)).update s.heap.objs.size (Obj.mapSeq (·++vs.toArray))).objs.size=s.heap.objs.size+1:=(Heap.size_update _ _ _).trans (size_push' _ _)
 refine wpAny_bind (m:=checkCount "sorted" 1 1 _) (wpAny_pure (wpAny_bind (collect_list hl (wpAny_bind (wpAny_newList ?_ (by rw[sizeLine_eq];omega))) (by rw[sizeLine_eq];omega))))
 have g:(((s.heap.push (seqObj "list" #[] 0)).update s.heap.objs.size (Obj.mapSeq (·++vs.toArray))).push (seqObj "list" vs.toArray 0)).get? (s.heap.objs.size+1)=some (seqObj "list" vs.toArray 0):=sz▸Heap.get?_push_size _ rfl
 have kp:∀b o,s.heap.get? b=some o->(((s.heap.push (seqObj "list" #[] 0)).update s.heap.objs.size (Obj.mapSeq (·++vs.toArray))).push (seqObj "list" vs.toArray 0)).get? b=some o:=fun b o q =>
  Heap.get?_push_of_some _ ((Heap.get?_update_ne _ _ _ _ (Nat.ne_of_lt (Heap.lt_size q))).trans (Heap.get?_push_of_some _ q))
 show wpAny _ _ _ _ _ { s with heap:=((s.heap.push (seqObj "list" #[] 0)).update s.heap.objs.size (Obj.mapSeq (·++vs.toArray))).push (seqObj "list" vs.toArray 0) }
 rw[sz]
 refine wpAny_bind (wpAny_holding (wpAny_call_entry slot_list_sort ⟨_,g,rfl⟩ entry_list_sort ?body (args_list_sort _)))
 refine p4 (κ:=κ) (lt:=lt) g h64 (fun h2 s' k'=>?_) fun p c1 c2=>⟨_,rfl,wpAny_pure ⟨_,rfl,h p c1 c2⟩⟩
 obtain⟨O,hk,C⟩:=hK h2 s' fun b o q=>k' b o (Nat.ne_of_lt (Nat.lt_succ_of_lt (Heap.lt_size q))) (kp b o q)
 exact⟨O,fun Q q=>hk _ Q q,C⟩
def cY(x y:Int×Int):Bool:=decide (x.1 < y.1) ||(x.1==y.1&&decide (x.2 < y.2))
theorem fO(h1:cY x y=true)(h2:cY y z=true):cY x z=true:=by
 simp only[cY,Bool.or_eq_true,Bool.and_eq_true,decide_eq_true_eq,beq_iff_eq]at *
 omega
theorem lC(x:Int×Int):cY x x=false:=by simp[cY]
theorem lB(h:x≠y):cY x y=true\/cY y x=true:=by
 obtain⟨a,b⟩:=x
 obtain⟨c,d⟩:=y
 have:a≠c\/b≠d:=by
  by_cases e:a=c
  ·right;intro e2;exact h (by rw[e,e2])
  ·exact .inl e
 simp only[cY,Bool.or_eq_true,Bool.and_eq_true,decide_eq_true_eq,beq_iff_eq]
 omega
def bM(h:Heap):List Value->List (Int×Int)->Prop
 | [],[]=>True
 | v::vs,x::ps=>(∃a o n t u,v=.ref a/\h.get? a=some o/\o.cls=.type "tuple" /\ o.data=.seq #[.int x.1 t,.int x.2 u] n)/\bM h vs ps
 | _,_=>False
theorem bM.len:∀{vs:List Value}{ps:List (Int×Int)},bM h vs ps->vs.length=ps.length
 | [],[],_=>rfl
 | _::_,_::_,q=>by simp[q.2.len]
theorem bM.kept(k:∀b o,h.get? b=some o->h'.get? b=some o):∀{vs:List Value}{ps:List (Int×Int)},bM h vs ps->bM h' vs ps
 | [],[],_=>trivial
 | _::_,_::_,⟨⟨a,o,n,t,u,e1,e2,e3⟩,q⟩=>⟨⟨a,o,n,t,u,e1,k _ _ e2,e3⟩,q.kept k⟩
theorem bM.at:∀{vs:List Value}{ps:List (Int×Int)},bM h vs ps->∀i,i < ps.length->∃a o n t u,vs.getD i Value.none=.ref a/\h.get? a=some o/\o.data=.seq #[.int (ps.getD i (0,0)).1 t,.int (ps.getD i (0,0)).2 u] n
 | _::_,_::_,⟨⟨a,o,n,t,u,e1,e2,e3⟩,q⟩,0,_=>⟨a,o,n,t,u,by simp[e1],e2,by simpa using e3.2⟩
 | v::vs,x::ps,⟨_,q⟩,i+1,hi=>by
  have:=q.at i (by simpa using hi)
  simpa using this
 | [],[],_,i,hi=>by simp at hi
theorem bM.firsts:∀{vs:List Value}{ps:List (Int×Int)},bM h vs ps->∃fs,KatTups h vs fs/\fs.length=ps.length/\∀v∈fs,∃i t,v=.int i t
 | [],[],_=>⟨[],.nil,rfl,fun v hv=>by cases hv⟩
 | _::_,_::_,⟨⟨a,o,n,t,u,e1,e2,e3,e4⟩,q⟩=>by
  obtain⟨fs,h1,h2,h3⟩:=q.firsts
  subst e1
  refine⟨_::fs,.cons e2 e3 e4 rfl h1,by simp[h2],fun v hv=>?_⟩
  rcases List.mem_cons.mp hv with rfl | hv
  ·exact⟨_,_,rfl⟩
  ·exact h3 v hv
theorem pO{ps:List (Int×Int)}(hd:ps.Nodup):Ord ps.length (fun i j=>cY (ps.getD i (0,0)) (ps.getD j (0,0))):=by
 refine⟨fun i j k _ _ _ h1 h2=>fO h1 h2,fun i j hi hj hn h=>?_,fun i _=>lC _⟩
 have:ps.getD i (0,0)≠ ps.getD j (0,0):=by
  simp only[List.getD_eq_getElem?_getD,List.getElem?_eq_getElem hi,List.getElem?_eq_getElem hj,Option.getD_some]
  exact fun e=>hn ((List.getElem_inj hd).mp e)
 rcases lB this with q | q
 ·rw[q]at h;cases h
 ·exact q
theorem j4(h:Q (decide (x < y)) s):wpAny (model prog w) A (oneLt' b (.int x t) (.int y u)) Q E s:=by
 cases b with
 | true=>exact oneLt_int h
 | false=>exact kat_one _ _ (wpAny_lt_int h)
theorem pP(hp:bM s.heap vs ps):Cmp vs.length (fun i j=>cY (ps.getD i (0,0)) (ps.getD j (0,0))) (kas_ask prog w A (tuples' true) vs) s:=by
 intro i j C hi hj q
 rw[hp.len]at hi hj
 obtain⟨a,o,n,t,u,e1,e2,e3⟩:=hp.at i hi
 obtain⟨a',o',n',t',u',e1',e2',e3'⟩:=hp.at j hj
 unfold kas_ask
 rw[e1,e1']
 dsimp only at q
 generalize ps.getD i (0,0)=x at *
 generalize ps.getD j (0,0)=y at *
 refine kat_lt e2 e3 e2' e3' (kat_cons (wpAny_eqBool_int (kat_go (fun h1=>kat_yes (kat_cons (wpAny_eqBool_int (kat_go (fun h2=>kat_yes (kat_nil ?_)) fun h2=>kat_no (j4 ?_))))) fun h1=>kat_no (j4 ?_))))
 ·simp only[beq_iff_eq]at h1 h2
  have:cY x y=false:=by simp[cY,h1,h2]
  rw[this]at q
  exact q
 ·simp only[beq_iff_eq]at h1
  have:cY x y=decide (x.2 < y.2):=by simp[cY,h1]
  rw[this]at q
  exact q
 ·have:cY x y=decide (x.1 < y.1):=by simp[cY,h1]
  rw[this]at q
  exact q
theorem m_(hp:bM s.heap vs ps)(h2:2<=vs.length){Q:SortKind->Shared->Prop}(q:Q (tuples' true) s):wpAny (model prog w) A (keyKind' vs.toArray) Q E s:=by
 obtain⟨fs,h1,hl,hi⟩:=hp.firsts
 refine kat_kind (T:=.type "int") h1 (by rw[hl,<- hp.len];omega) (fun v hv=>?_) rfl q
 obtain⟨i,t,rfl⟩:=hi v hv
 exact Looks.of_pure rfl
theorem kq(hl:s.heap.IsList l vs.toArray)(h64:vs.length < 64)(hp:bM s.heap vs ps)(hd:ps.Nodup)
  (h:∀p,Plc vs.length p->Asc (fun i j=>cY (ps.getD i (0,0)) (ps.getD j (0,0))) p vs.length->Q (.ref (s.heap.objs.size+1)) { s with heap:=sortedAll s.heap vs (jc vs p) }) :
  wpAny (model prog w) A (call (.builtin "sorted") [.ref l]) Q E s :=
 mT hl h64 (fun h2 s' k=>⟨hp.len▸pO hd,fun E Q q=>m_ (hp.kept k) h2 q,pP (hp.kept k)⟩) h
end
end PR
namespace PR
open PySem PySem.Spec L2 PyProof.Rows
def nG(x:Int):List Int->List Int
 | []=>[x]
 | y::l=>if x<=y then x::y::l else y::nG x l
def iQ:List Int->List Int
 | []=>[]
 | x::l=>nG x (iQ l)
theorem hV(x:Int):∀l,(nG x l).Perm (x::l)
 | []=>.refl _
 | y::l=>by
  unfold nG
  split
  ·exact .refl _
  ·exact((hV x l).cons y).trans (.swap x y l)
theorem fL:∀l,(iQ l).Perm l
 | []=>.refl _
 | x::l=>(hV x _).trans ((fL l).cons x)
theorem lZ(x:Int):∀{l:List Int},l.Pairwise (·<=·)->(nG x l).Pairwise (·<=·)
 | [],_=>by simp[nG]
 | y::l,h=>by
  obtain⟨h1,h2⟩:=List.pairwise_cons.mp h
  unfold nG
  split
  ·refine List.pairwise_cons.mpr ⟨fun z hz=>?_,h⟩
   rcases List.mem_cons.mp hz with rfl | hz
   ·assumption
   ·have:=h1 z hz;omega
  ·refine List.pairwise_cons.mpr ⟨fun z hz=>?_,lZ x h2⟩
   rcases List.mem_cons.mp ((hV x l).mem_iff.mp hz)with rfl | hz
   ·omega
   ·exact h1 z hz
theorem jU:∀l,(iQ l).Pairwise (·<=·)
 | []=>.nil
 | x::l=>lZ x (jU l)
theorem mV{l l':List Int}(h1:l'.Perm l)(h2:l'.Pairwise (·<=·)):l'=iQ l :=
 List.Perm.eq_of_pairwise (fun a b _ _ x y=>Int.le_antisymm x y) h2 (jU l) (h1.trans (fL l).symm)
def nE(x:Int×Int):List (Int×Int)->List (Int×Int)
 | []=>[x]
 | y::l=>if cY x y then x::y::l else y::nE x l
def ii:List (Int×Int)->List (Int×Int)
 | []=>[]
 | x::l=>nE x (ii l)
theorem hG(x:Int×Int):∀l,(nE x l).Perm (x::l)
 | []=>.refl _
 | y::l=>by
  unfold nE
  split
  ·exact .refl _
  ·exact((hG x l).cons y).trans (.swap x y l)
theorem fK:∀l,(ii l).Perm l
 | []=>.refl _
 | x::l=>(hG x _).trans ((fK l).cons x)
theorem lY(x:Int×Int):∀{l:List (Int×Int)},x∉l->l.Pairwise (fun a b=>cY a b=true)->(nE x l).Pairwise (fun a b=>cY a b=true)
 | [],_,_=>by simp[nE]
 | y::l,hn,h=>by
  obtain⟨h1,h2⟩:=List.pairwise_cons.mp h
  unfold nE
  split
  ·refine List.pairwise_cons.mpr ⟨fun z hz=>?_,h⟩
   rcases List.mem_cons.mp hz with rfl | hz
   ·assumption
   ·exact fO ‹_› (h1 z hz)
  ·refine List.pairwise_cons.mpr ⟨fun z hz=>?_,lY x (fun z=>hn (List.mem_cons_of_mem _ z)) h2⟩
   rcases List.mem_cons.mp ((hG x l).mem_iff.mp hz)with rfl | hz
   ·rcases lB (x:=y) (y:=z) (fun e=>hn (e▸List.mem_cons_self))with q | q
    ·exact q
    ·contradiction
   ·exact h1 z hz
theorem jT:∀{l:List (Int×Int)},l.Nodup->(ii l).Pairwise (fun a b=>cY a b=true)
 | [],_=>.nil
 | x::l,h=>by
  obtain⟨h1,h2⟩:=List.nodup_cons.mp h
  exact lY x (fun z=>h1 ((fK l).mem_iff.mp z)) (jT h2)
theorem mU(hd:l.Nodup)(h1:l'.Perm l)(h2:l'.Pairwise (fun a b=>cY a b=true)):l'=ii l :=
 List.Perm.eq_of_pairwise (fun a b _ _ x y=>by
  have:=fO x y
  rw[lC]at this;cases this) h2 (jT hd) (h1.trans (fK l).symm)
theorem pK{α:Type}(l:List α)(d:α):(List.range l.length).map (fun i=>l.getD i d)=l:=by
 refine List.ext_getElem (by simp) fun i h1 h2=>?_
 simp[h2]
theorem pM{ps:List (Int×Int)}{p:Array Nat}(hd:ps.Nodup)(P:Plc ps.length p)(a:Asc (fun i j=>cY (ps.getD i (0,0)) (ps.getD j (0,0))) p ps.length):p.toList.map (fun i=>ps.getD i (0,0))=ii ps:=by
 refine mU hd (by have:=P.pm.map (fun i=>ps.getD i (0,0));rwa [pK]at this) ?_
 refine List.pairwise_iff_getElem.mpr fun i j hi hj hij=>?_
 have hs:=P.sz
 have hi':i < p.size:=by simpa using hi
 have hj':j < p.size:=by simpa using hj
 have:=a i j hij (by omega)
 simpa[at_,Array.getD,hi',hj']using this
def PrH(K:PySem.W.Frag)(H:Hp):List V->List (Int×Int)->Prop
 | [],[]=>True
 | v::vs,x::ps=>(∃a,v=.ref a/\SqT K H a [.int x.1,.int x.2])/\PrH K H vs ps
 | _,_=>False
theorem PrH.len{K:PySem.W.Frag}{H:Hp}:∀{vs:List V}{ps:List (Int×Int)},PrH K H vs ps->vs.length=ps.length
 | [],[],_=>rfl
 | _::_,_::_,q=>by simp[q.2.len]
section
variable{X:Cx}{T:Tb}{W:Nat->L2.St->Hp->Prop}{Z:Zn}{F F1 B L:Addr->Prop}{H H1:Hp}{σ:L2.St}{env:En}{fp:Nat->List Addr}{pins:List (Addr×Obj)}{s:Shared}
theorem PrH.at(I:L2.Inv X pins σ H s):∀{vs:List V}{its:List Value}{ps:List (Int×Int)},PrH X.K H vs ps->aI vs its->bM s.heap its ps
 | [],_,[],_,r=>by cases r;trivial
 | _::_,_,_::_,⟨⟨a,e,h⟩,q⟩,r=>by
  cases r with
  | cons h1 h2 =>
   subst e
   cases h1
   refine⟨?_,q.at I h2⟩
   obtain⟨its,r,pl,_⟩:=I.tuple h
   obtain⟨u,r2,rfl,⟨t,rfl⟩,r3⟩:∃u r2,its=u::r2/\aW _ u/\aI _ r2:=by cases r with | cons a b=>exact⟨_,_,rfl,a,b⟩
   obtain⟨u',rfl,⟨t',rfl⟩⟩:=cT r3
   obtain⟨o,ho,hcl,n,hd⟩:=pl
   exact⟨a,o,n,t,t',rfl,ho,hcl,hd⟩
theorem qv{vs:List V}{its:List Value}(r:aI vs its)(q:List Nat)(hq:∀i∈q,i < vs.length):aI (q.map fun i=>vs.getD i .non) (q.map fun i=>its.getD i Value.none):=by
 induction q with
 | nil=>exact .nil
 | cons i q ih =>
  refine .cons ?_ (ih fun j hj=>hq j (List.mem_cons_of_mem _ hj))
  have hi:=hq i List.mem_cons_self
  have:∀{vs:List V}{its:List Value}{i:Nat},aI vs its->i < vs.length->aW (vs.getD i .non) (its.getD i Value.none):=by
   intro vs its i r
   induction r generalizing i with
   | nil=>intro h;simp at h
   | cons a b ih =>
    intro h
    cases i with
    | zero=>simpa using a
    | succ i=>simpa using ih (by simpa using h)
  exact this r hi
theorem kP:∀{ns:List Int}{its:List Value},PyProof.Rows.IntsAre its ns->aI (ns.map V.int) its:=by
 intro ns its h
 induction h with
 | nil=>exact .nil
 | cons=>exact .cons ⟨_,rfl⟩ ‹_›
theorem mB:cb X (.builtin "sorted") (fun xs H Q=>∃ p ys,xs=[.ref p]/\SqL X.K H p ys/\ys.length < 64 /\
    ((∃ ns,ys=ns.map V.int/\∀ l,H l=none->Q (.ref l) (upd H l (.lst ((iQ ns).map V.int)))) \/
     (∃ps,PrH X.K H ys ps/\ps.Nodup/\∀l (q:List Nat),H l=none->q.Perm (List.range ys.length)->q.map (fun i=>ps.getD i (0,0))=ii ps->Q (.ref l) (upd H l (.lst (q.map fun i=>ys.getD i .non)))))):=by
  intro pins s σ H xs us Q I rv h
  obtain⟨p,ys,rfl,hq,h64,h⟩:=h
  obtain⟨u,rfl,rx⟩:=cT rv
  cases rx
  obtain⟨its,r,pl,hz⟩:=I.list hq
  have hlen:=r.length
  have hfr:=I.hok.fresh (Nat.le_succ s.heap.objs.size)
  rcases h with⟨ns,rfl,q⟩ |⟨ps,hp,hd,q⟩
  . refine sorted_ints pl.isList (d4 r) (by omega) fun out ns' a1 a2 a3=>?_
    obtain⟨c,hc⟩:=sortedAll_at s.heap its out
    have e:=mV a2 a3
    subst e
    refine⟨.ref (s.heap.objs.size+1),_,I.laid (fun b o=>sortedAll_old) (Nat.le_succ _) ?_,rfl,q _ hfr⟩
    refine⟨?_,out.toList,c,kP a1,by simpa using hc⟩
    rw[sizeLine_eq];simp[(fL ns).length_eq]at h64 ⊢;omega
  . refine kq pl.isList (by omega) (hp.at I r) hd fun p P a=>?_
    obtain⟨c,hc⟩:=sortedAll_at s.heap its (jc its p)
    have hl:=hp.len
    have pm:p.toList.Perm (List.range ys.length):=by rw[hlen];exact P.pm
    refine⟨.ref (s.heap.objs.size+1),_,I.laid (fun b o=>sortedAll_old) (Nat.le_succ _) ?_,rfl,q _ p.toList hfr pm (pM hd (by rw[<- hl,hlen];exact P) (by rw[<- hl,hlen];exact a))⟩
    refine⟨?_,_,c,qv r p.toList (fun i hi=>by simpa using pm.mem_iff.mp hi),hc⟩
    rw[sizeLine_eq];simp[P.sz,<- hlen];omega
end
end PR
namespace PR
open PySem PySem.Spec L2
def prV(x:Int×Int):PV:=.tup [.int x.1,.int x.2]
def i6:PV->Option (Int×Int)
 | .tup [.int a,.int b]=>some (a,b)
 | _=>none
def eW:List PV->Option (List (Int×Int))
 | []=>some []
 | x::xs=>match i6 x,eW xs with
  | some y,some ys=>some (y::ys)
  | _,_=>none
def gf:PV->Res PV
 | .lst _ xs=>if decide (xs.length < 64) then (match bp xs with
  | some ns=>.ok (.lst .own ((iQ ns).map .int))
  | none=>match eW xs with
   | some ps=>if decide ps.Nodup then .ok (.lst .own ((ii ps).map prV))else .stuck
   | none=>.stuck)else .stuck
 | _=>.stuck
section
variable{X:Cx}{T:Tb}{W:Nat->St->Hp->Prop}{Z:Zn}{F F1 B L:Addr->Prop}{H H1:Hp}{σ:St}{env:En}{fp:Nat->List Addr}
theorem pQ(e:i6 x=some y):x=prV y:=by
 unfold i6 at e
 split at e
 ·cases e;rfl
 ·cases e
theorem i5:∀{xs:List PV}{vs:List V}{f:List Addr}{ps:List (Int×Int)},eW xs=some ps->RelL T F B L H xs vs f->PrH T.K H vs ps/\f=[]
 | [],_,_,_,e,r=>by cases e;unfold RelL at r;obtain⟨rfl,rfl⟩:=r;exact⟨trivial,rfl⟩
 | x::xs,_,_,ps,e,r=>by
  unfold RelL at r
  obtain⟨v,ws,f1,f2,rfl,h1,h2,rfl⟩:=r
  unfold eW at e
  cases e1:i6 x with
  | none=>rw[e1]at e;cases e
  | some y =>
   cases e2:eW xs with
   | none=>rw[e1,e2]at e;cases e
   | some ys =>
    rw[e1,e2]at e
    cases e
    obtain⟨q,rfl⟩:=i5 e2 h2
    have:=pQ e1
    subst this
    unfold prV Rel at h1
    obtain⟨a,us,rfl,hs,hr⟩:=h1
    unfold RelL at hr
    obtain⟨v1,w1,g1,g2,rfl,k1,k2,rfl⟩:=hr
    obtain⟨v2,rfl,k3⟩:=RelL.one k2
    unfold Rel at k1 k3
    obtain⟨rfl,rfl⟩:=k1
    obtain⟨rfl,rfl⟩:=k3
    exact⟨⟨⟨a,rfl,hs⟩,q⟩,rfl⟩
theorem PrH.rel:∀{vs:List V}{ps:List (Int×Int)},PrH T.K H vs ps->RelL T F B L H (ps.map prV) vs []
 | [],[],_=>eJ _ _ _ _
 | _::_,x::ps,⟨⟨a,e,h⟩,q⟩=>by
  subst e
  rw[List.map_cons]
  unfold RelL
  refine⟨_,_,[],[],rfl,?_,q.rel,rfl⟩
  unfold prV Rel
  refine⟨a,_,rfl,h,?_⟩
  unfold RelL
  refine⟨_,_,[],[],rfl,cX,?_,rfl⟩
  unfold RelL
  exact⟨_,_,[],[],rfl,cX,eJ _ _ _ _,rfl⟩
theorem PrH.get:∀{vs:List V}{ps:List (Int×Int)},PrH K H vs ps->∀i,i < vs.length->∃a,vs.getD i .non=.ref a/\SqT K H a [.int (ps.getD i (0,0)).1,.int (ps.getD i (0,0)).2]
 | _::_,_::_,⟨h,q⟩,0,_=>by simpa using h
 | _::_,_::_,⟨_,q⟩,i+1,hi=>by simpa using q.get i (by simpa using hi)
 | [],[],_,_,hi=>by simp at hi
theorem PrH.map(h:PrH K H vs ps)(q:List Nat)(hq:∀i∈q,i < vs.length):PrH K H (q.map fun i=>vs.getD i .non) (q.map fun i=>ps.getD i (0,0)):=by
 induction q with
 | nil=>trivial
 | cons i q ih=>exact⟨h.get i (hq i List.mem_cons_self),ih fun j hj=>hq j (List.mem_cons_of_mem _ hj)⟩
theorem uK(ns:List Int):RelL T F B L H (ns.map PV.int) (ns.map V.int) []:=by
 induction ns with
 | nil=>exact eJ _ _ _ _
 | cons a l ih =>
  rw[List.map_cons,List.map_cons]
  unfold RelL
  exact⟨_,_,[],[],rfl,cX,ih,rfl⟩
theorem RelL.len2:∀{xs:List PV}{vs:List V}{f:List Addr},RelL T F B L H xs vs f->xs.length=vs.length
 | [],_,_,r=>by unfold RelL at r;rw[r.1];rfl
 | x::xs,_,_,r=>by
  unfold RelL at r
  obtain⟨v,ws,f1,f2,rfl,_,h2,_⟩:=r
  simp[h2.len2]
theorem nu(hK:X.K=T.K):Mir T W (p1 gf) (fun xs H Q=>∃ p ys,xs=[.ref p]/\SqL X.K H p ys/\ys.length < 64 /\
    ((∃ ns,ys=ns.map V.int/\∀ l,H l=none->Q (.ref l) (upd H l (.lst ((iQ ns).map V.int)))) \/
     (∃ps,PrH X.K H ys ps/\ps.Nodup/\∀l (q:List Nat),H l=none->q.Perm (List.range ys.length)->q.map (fun i=>ps.getD i (0,0))=ii ps->Q (.ref l) (upd H l (.lst (q.map fun i=>ys.getD i .non)))))):=by
  intro B F L σ H Q F' H' xs vs fx g r nf nd new q
  match xs,r,q with
  | [x],r,q =>
    obtain⟨v,rfl,r1⟩:=r.one
    simp only[p1]at q
    cases x with
    | lst f xs =>
      unfold Rel at r1
      obtain⟨a,ws,fp',rfl,hl,hr,_⟩:=r1
      simp only[gf]at q
      by_cases hn:decide (xs.length < 64)=true
      . rw[if_pos hn]at q
        refine⟨a,ws,rfl,by rw[hK];exact hl.sq,by rw[<- hr.len2];exact of_decide_eq_true hn,?_⟩
        cases e1:bp xs with
        | some ns =>
          rw[e1]at q
          dsimp only at q
          exact .inl ⟨ns,cF e1 hr,GE.newL q g (uK _) (fun _ h=>by cases h) .nil (fun _ h=>by cases h)⟩
        | none =>
          rw[e1]at q
          dsimp only at q
          cases e2:eW xs with
          | none=>rw[e2]at q;exact q.elim
          | some ps =>
            rw[e2]at q
            dsimp only at q
            by_cases hd:decide ps.Nodup=true
            . rw[if_pos hd]at q
              obtain⟨hp,rfl⟩:=i5 e2 hr
              refine .inr ⟨ps,by rw[hK];exact hp,of_decide_eq_true hd,fun l q' hl' pm e=>?_⟩
              have h2:=hp.map q' fun i hi=>by simpa using pm.mem_iff.mp hi
              rw[e]at h2
              exact GE.newL q g h2.rel (fun _ h=>by cases h) .nil (fun _ h=>by cases h) l hl'
            . rw[if_neg hd]at q;exact q.elim
      . rw[if_neg hn]at q;exact q.elim
    | _=>exact q.elim
  | [],_,q=>exact q.elim
  | _::_::_,_,q=>simp only[p1]at q;exact q.elim
theorem qp:bootBuiltins "sorted" = some (.builtin "sorted"):=by decide +kernel
theorem jW(hK:X.K=T.K)(hg:Gl X "sorted")(hm:X.mg "sorted" = none)(ha:SE X T W e m)(he:starEach [e] X.env=[(false,eval e X.env)]:=by rfl):SE X T W (.Call (.Name "sorted" p) [e] [] pos) (ao (p1 gf) (aa m aj)) :=
 dg mB (nu hK) hg hm qp (ac ha ag (by rw[he];rfl)) (he:=by rw[he];rfl) (hpl:=rfl)
end
def wE:Out->Out
 | .exc _ _=>.stuck
 | o=>o
section
variable{X:Cx}{T:Tb}{W:Nat->St->Hp->Prop}{Z:Zn}{F:Addr->Prop}{H:Hp}{σ:St}{env:En}{fp:Nat->List Addr}
theorem aY(hg:Gl X x)(hm:∃t,X.mg x=some (.int i t))(hd:(x ==("__debug__" : Str))=false:=by decide):SE X T W (.Name x pos) (mC (.int i)):=by
 obtain⟨t,h⟩:=hm
 exact qZ hg h hd
end
def oH{α:Type}(n:Nat)(y:α)(xs:List α):List α:=xs.take n++y::xs.drop n
section
variable{X:Cx}{T:Tb}{W:Nat->St->Hp->Prop}{Z:Zn}{F F1 B L:Addr->Prop}{H H1:Hp}{σ:St}{env:En}{fp:Nat->List Addr}{D:Ends}
theorem RelL.ins(hv:Rel T F B L H v u []):∀(n:Nat) {xs:List PV}{ws:List V}{f:List Addr},RelL T F B L H xs ws f->RelL T F B L H (oH n v xs) (oH n u ws) f
 | 0,xs,ws,f,h=>by
  show RelL T F B L H (v::xs) (u::ws) f
  unfold RelL
  exact⟨u,ws,[],f,rfl,hv,h,rfl⟩
 | n+1,[],ws,f,h=>by
  unfold RelL at h
  obtain⟨rfl,rfl⟩:=h
  show RelL T F B L H [v] [u] []
  unfold RelL
  exact⟨u,[],[],[],rfl,hv,eJ _ _ _ _,rfl⟩
 | n+1,x::xs,ws,f,h=>by
  unfold RelL at h
  obtain⟨w,ws,f1,f2,rfl,h1,h2,rfl⟩:=h
  show RelL T F B L H (x::oH n v xs) (w::oH n u ws) _
  unfold RelL
  exact⟨w,_,f1,f2,rfl,h1,RelL.ins hv n h2,rfl⟩
end
structure Sup(K:PySem.W.Frag)(C f:Addr):Prop where
 ga:PySem.W.specialIn K (.ref C) "__getattribute__" = some (some (.builtin "type.__getattribute__"))
 rd:PySem.W.readsIn K C (.type "type")=true
 fc:PySem.W.findCls K (.ref C) (.type "type") "__init__" = some (.val (.ref f))
 kp:PySem.W.keepIn K (.ref f)=true
def fS(m:List PV->Res PV)(ms:MA):MS:=fun env=>match (env[(0:Nat)]?:Option (Option PV))with
 | some (some (.obj .own c ks vs))=>match ms env with
  | .ok xs=>if hasL Fl.isLnt xs then .stuck else match m (.obj .own c ks vs::mapL Fl.toBor xs)with
   | .ok (.obj fl c' ks' vs')=>if(PV.obj fl c' ks' vs').has Fl.isBor then .stuck else .next (env.set 0 (some (.obj fl c' ks' vs')))
   | _=>.stuck
  | .exc c=>.exc c env
  | .stuck=>.stuck
 | _=>.stuck
section
variable{X:Cx}{T:Tb}{W:Nat->St->Hp->Prop}{Z:Zn}{F F1 F3:Addr->Prop}{H H1 H3:Hp}{σ:St}{env:En}{fp:Nat->List Addr}
theorem aw.sup(S:aw T Z F H σ env fp)(h0:σ[0]?=some (some v0))(hl:0 < env.length)
  (nx:∀a∈fx,Z.H0 a=none\/Z.fp0 a) (nj:∀a∈fx,∀i,a∉fp i) (nF:∀a∈fx,¬F a) (cx:∀a∈fx,∃o,H a=some o/\Chg o)
  (hp3:dC T ⟨H,F,(·∈fp 0++fx),B',some v0⟩ F3 H3) (r:Rel T F3 B' NoL H3 o v0 f3) (hb:o.has Fl.isBor=false) (nd3:f3.Nodup) (nf3:∀a∈f3,¬F3 a) (new3:∀a∈f3,H a=none\/a∈fp 0++fx)
  (ho:∃fl c ks xs,o=.obj fl c ks xs):aw T Z F3 H3 σ (env.set 0 (some o)) (bv fp 0 f3):=by
 have zfree:∀a,H a=none->Z.H0 a=none\/Z.fp0 a:=fun a z=>by
  by_cases q:Z.fp0 a
  ·exact .inr q
  ·refine .inl ?_
   cases w:Z.H0 a with
   | none=>rfl
   | some o=>rw[S.hp.keep a o w q]at z;exact(nomatch z)
 have inn:∀a∈fp 0++fx,Z.H0 a=none\/Z.fp0 a:=fun a h=>by
  rcases List.mem_append.mp h with h | h
  ·exact S.new 0 a h
  ·exact nx a h
 have jn:∀j,j≠0->∀a∈fp j,a∉fp 0++fx:=fun j hj a ha z=>by
  rcases List.mem_append.mp z with z | z
  ·exact S.dj j 0 hj a ha z
  ·exact nj a z j ha
 have chgn:∀a∈fp 0++fx,∃o,H a=some o/\Chg o:=fun a h=>by
  rcases List.mem_append.mp h with h | h
  ·exact S.ch 0 a h
  ·exact cx a h
 have rel':Rel T F3 Z.B NoL H3 o v0 f3:=Rel.noB hb r
 refine⟨⟨S.hp.bo,fun a u e n=>hp3.keep a u (S.hp.keep a u e n) fun z=>?_,fun a h=>hp3.f0 a (S.hp.f0 a h),fun a h=>?_,hp3.ft⟩,by rw[List.length_set,S.len],fun j pv e=>?_,fun j=>?_,fun j k hjk b hb=>?_,fun j b hb=>?_,fun j b hb=>?_,fun j b hb=>?_,fun w hw=>?_⟩
 ·rcases inn a z with q | q
  ·rw[e]at q;cases q
  ·exact n q
 ·rcases hp3.fn a h with z | z | z
  ·exact S.hp.fn a z
  ·exact .inr (zfree a z)
  ·exact .inr (inn a z)
 ·by_cases hj:j=0
  ·subst hj
   rw[List.getElem?_set_self hl]at e
   cases e
   refine⟨v0,h0,?_⟩
   unfold bv
   rw[if_pos rfl]
   exact rel'
  ·rw[List.getElem?_set_ne (Ne.symm hj)]at e
   obtain⟨w,h1,h2⟩:=S.rel j pv e
   refine⟨w,h1,?_⟩
   unfold bv
   rw[if_neg hj]
   refine Rel.tr (fun a h=>hp3.f0 a h) (fun _ h=>h) (fun _ h=>h) (fun b u q h=>hp3.keep b u q fun z=>?_) (fun b hb u q=>hp3.keep b u q (jn j hj b hb)) h2
   rcases h with h | h | h | h
   ·rcases List.mem_append.mp z with z | z
    ·exact(S.dis 0 b z).1 h
    ·exact nF b z h
   ·obtain⟨⟨o',e1⟩,e2⟩:=S.hp.bo b h
    rcases inn b z with q' | q'
    ·rw[e1]at q';cases q'
    ·exact e2 q'
   ·exact h
   ·obtain⟨o',e1,e2⟩:=chgn b z
    have q1:H b=some u:=q
    rw[q1]at e1
    cases e1
    cases u with
    | lst _ | ins _ _ _=>exact h
    | _=>exact e2
 ·unfold bv;split
  ·exact nd3
  ·exact S.nd j
 ·unfold bv at hb ⊢
  have fj:∀i,i≠0->∀a∈f3,a∉fp i:=fun i hi a ha z=>by
   rcases new3 a ha with q | q
   ·obtain⟨_,o',e⟩:=S.dis i a z
    rw[e]at q;cases q
   ·exact jn i hi a z q
  by_cases h1:j=0
  ·subst h1
   rw[if_pos rfl]at hb
   rw[if_neg (Ne.symm hjk)]
   exact fj k (Ne.symm hjk) b hb
  ·rw[if_neg h1]at hb
   by_cases h2:k=0
   ·subst h2
    rw[if_pos rfl]
    exact fun z=>fj j h1 b z hb
   ·rw[if_neg h2]
    exact S.dj j k hjk b hb
 ·unfold bv at hb
  by_cases h1:j=0
  ·rw[if_pos h1]at hb;exact⟨nf3 b hb,r.there b hb⟩
  ·rw[if_neg h1]at hb
   obtain⟨n,u,e⟩:=S.dis j b hb
   refine⟨fun z=>?_,u,hp3.keep b u e (jn j h1 b hb)⟩
   rcases hp3.fn b z with q | q | q
   ·exact n q
   ·have q':H b=none:=q
    rw[e]at q';cases q'
   ·exact jn j h1 b hb q
 ·unfold bv at hb
  by_cases h1:j=0
  ·rw[if_pos h1]at hb
   rcases new3 b hb with q | q
   ·exact zfree b q
   ·exact inn b q
  ·rw[if_neg h1]at hb;exact S.new j b hb
 ·unfold bv at hb
  by_cases h1:j=0
  ·rw[if_pos h1]at hb;exact r.chg b hb
  ·rw[if_neg h1]at hb
   obtain⟨u,e,c⟩:=S.ch j b hb
   exact⟨u,hp3.keep b u e (jn j h1 b hb),c⟩
 ·obtain⟨h1,h2⟩:=S.pn w hw
  refine⟨h1,?_⟩
  obtain⟨fl,c,ks,xs,e⟩:=ho
  subst e
  unfold b0
  rw[List.getElem?_set_self hl]
theorem xp
  (cx:Ctx X T W kk) (U:Sup X.K C f) (G:bH X.prog X.w X.K X.mg X.base (CXP X.prog X.w) k f fd ps (spI T ps.length m)) (hk:k<=kk) (hg:Gl X x) (hm:X.mg x=some (.ref C)) (hb:cC X.K fd ps [])
  (hN:X.N[0]?=some y) (hv:Vis X.env.scope y) (hn:dB ms n) (hps:n+1=ps.length) (ha:SA X T W es ms)
  (hdb:(x ==("__debug__" : Str))=false:=by decide) (hdy:(y ==("__debug__" : Str))=false:=by decide) (hcy:(y ==("__classdict__" : Str))=false:=by decide)
  (hst:starEach (.Name y px::es) X.env=(false,eval (.Name y px) X.env)::starEach es X.env:=by rfl) (hpl:(backTo pos (starEach es X.env)).any (·.1)=false:=by rfl)
  (ht:eval (.Call (.Attribute (.Name x p) "__init__" apos) (.Name y px::es) [] pos) X.env=(do
   let ov <- eval (.Name x p) X.env
   standAt apos.atName
   let(f,first) <- holding [ov] (getMethod ov "__init__" pl)
   callWith pos f first (backTo pos (starEach (.Name y px::es) X.env)) (backToKw pos (keywordEach [] X.env))):=by rfl)
  (hs:swapsWith (.Call (.Attribute (.Name x p) "__init__" apos) (.Name y px::es) [] pos) none pos'.line X.env=pure false:=by rfl) :
  SS X T W (.Expr (.Call (.Attribute (.Name x p) "__init__" apos) (.Name y px::es) [] pos) pos') (fS m ms):=by
 have pe:PE X (.Call (.Attribute (.Name x p) "__init__" apos) (.Name y px::es) [] pos) (fun σ H Q=>∃ Z F env fp,aw T Z F H σ env fp/\(match fS m ms env with
   | .next e=>∀F' H' fp',aw T Z F' H' σ e fp'->Q .non H'
   | .exc c e=>∀F' H' fp',aw T Z F' H' σ e fp'->W c σ H'
   | _=>False)):=by
  intro pins s σ H Q I h
  obtain⟨Z,F,env,fp,S,q⟩:=h
  refine PySem.W.methodCall_KW (pl:=pl) (eB I hg hm ?_ hdb) ht
  refine PySem.W.method_cls I.kIn U.ga (PySem.W.cls_value I.kIn U.rd U.fc rfl ?_)
  have I':=I.tok (s.toks+1)
  unfold fS at q
  cases e0:env[0]? with
  | none=>rw[e0]at q;exact q.elim
  | some o0 =>
  cases o0 with
  | none=>rw[e0]at q;exact q.elim
  | some ov =>
  obtain⟨v0,hv0,r0⟩:=S.rel 0 ov e0
  have hl0:0 < env.length:=(List.getElem?_eq_some_iff.mp e0).1
  rw[e0]at q
  by_cases hob:∃c ks vs,ov=.obj .own c ks vs
  case neg =>
   exfalso
   cases ov with
   | obj fl c ks vs =>
    cases fl with
    | own=>exact hob ⟨_,_,_,rfl⟩
    | _=>exact q
   | _=>exact q
  obtain⟨c,ks,vs0,rfl⟩:=hob
  dsimp only at q
  have pa:=cZ (X:=X) (dO (pos:=px) hN hv hdy hcy) ha hst
  refine PySem.W.callWith_K (first:=[]) (h₀:=X.base) I'.ok.mod.kin U.kp (thn (pa pos pins _ σ H (fun vs H1=>∀ us s1,L2.Inv X pins σ H1 s1->aI vs us->wpAny (model X.prog X.w) X.A (call (.ref f) us) (EP X pins σ Q) X.xe s1) I'
   ⟨v0,hv0,tA.bind S (fun c e=>?_) (fun e=>by rw[e]at q;exact q) fun xs vs H1 F1 f1 e1 g1 r1 n1 d1 w1 us s1 I1 rv=>?_⟩) fun us s1 ⟨vs,H1,I1,r,q1⟩=>⟨I1.kIn,q1 us s1 I1 r⟩) hst hpl
  ·rw[e]at q
   exact fun H' x=>q F H' fp (S.grow (Gr.same S.hp.ft x))
  rw[e1]at q
  dsimp only at q
  by_cases hln:hasL Fl.isLnt xs=true
  ·rw[if_pos hln]at q;exact q.elim
  rw[if_neg hln]at q
  have hln':hasL Fl.isLnt xs=false:=by simpa using hln
  have S1:=S.grow g1
  obtain⟨v0',hv0',r0'⟩:=S1.rel 0 _ e0
  rw[hv0]at hv0'
  cases hv0'
  have xn:∀a∈f1,∀i,a∉fp i:=fun a ha i hi=>by
   obtain⟨_,o,e⟩:=S.dis i a hi
   rw[w1 a ha]at e;cases e
  have xz:∀a∈f1,Z.H0 a=none\/Z.fp0 a:=fun a ha=>by
   by_cases q:Z.fp0 a
   ·exact .inr q
   ·refine .inl ?_
    cases w:Z.H0 a with
    | none=>rfl
    | some o =>
     have:=w1 a ha
     rw[S.hp.keep a o w q]at this;cases this
  have hBo:∀a,Z.B a->(∃o,H1 a=some o)/\a∉fp 0++f1:=fun a h=>by
   obtain⟨⟨o,h1⟩,h2⟩:=S.hp.bo a h
   have h3:=S.hp.keep a o h1 h2
   refine⟨⟨o,g1.ext a o h3⟩,fun z=>?_⟩
   rcases List.mem_append.mp z with z | z
   ·exact S.bow a h ⟨0,z⟩
   ·rw[w1 a z]at h3;cases h3
  have R:qt T F1 (fun a=>(∃o,H1 a=some o)/\a∉fp 0++f1) H1 (.obj .own c ks vs0::mapL Fl.toBor xs) (v0::vs) (fp 0++f1):=by
   refine⟨?_,List.nodup_append.mpr ⟨S.nd 0,d1,fun a ha b hb z=>by subst z;exact xn a hb 0 ha⟩,fun a ha=>?_,fun a h=>h,g1.dom⟩
   ·unfold RelL
    refine⟨v0,vs,fp 0,f1,rfl,Rel.tr (fun _ h=>h) hBo (fun _ h=>h) (fun _ _ q _=>q) (fun _ _ _ q=>q) r0',?_,rfl⟩
    exact RelL.toBor hBo (fun _ h=>h.elim) (RelL.noL (L':=NoL) hln' r1)
   ·rcases List.mem_append.mp ha with ha | ha
    ·exact(S1.dis 0 a ha).1
    ·exact n1 a ha
  have r2:aI (v0::vs) us:=rv
  have hl:us.length=ps.length:=by
   rw[<- r2.length,List.length_cons,<- r1.length,hn env xs e1]
   exact hps
  refine wpAny_call (codeAny_mono (G.run X.A X.stack s1 H1 ⟨us,[]⟩ us (v0::vs) Q (fun cls _ H'=>∃ c,cls=.ref (T.xcl c)/\W c σ H') (cx.room.mono hk) I1.env0 (by simpa using hb s1 us I1.kIn (by simpa using hl)) r2
   ⟨by rw[r2.length,hl],v0,_,F1,_,_,rfl,R,⟨.own,c,ks,vs0,rfl⟩,?_⟩) fun rs s' hq=>?_)
  ·cases e:m (.obj .own c ks vs0::mapL Fl.toBor xs)with
   | ok o =>
    rw[e]at q
    cases o with
    | obj fl c' ks' vs' =>
     dsimp only at q
     by_cases hbr:(PV.obj fl c' ks' vs').has Fl.isBor=true
     ·rw[if_pos hbr]at q;exact q.elim
     ·rw[if_neg hbr]at q
      dsimp only at q
      have hbr':(PV.obj fl c' ks' vs').has Fl.isBor=false:=by simpa using hbr
      intro F3 H3 f3 hp3 r3 nd3 nf3 new3
      exact q F3 H3 _ (S1.sup hv0 hl0 xz xn n1 r1.chg hp3 r3 hbr' nd3 nf3 new3 ⟨_,_,_,_,rfl⟩)
    | _=>exact q.elim
   | exc c | stuck=>rw[e]at q;exact q.elim
  ·cases rs with
   | error e =>
    obtain⟨cls,H',fl,c,rfl,hw⟩:=hq
    exact cx.xf pins σ H1 s1 c H' e s' I1 fl hw
   | ok fl =>
    cases fl with
    | ret u=>exact I1.after hq
    | next | brk | cont=>exact False.elim hq
 exact PS.wk (iE (pos:=pos') pe hs) fun D σ H ⟨Z,F,env,fp,S,q⟩=>by
  refine⟨Z,F,env,fp,S,?_⟩
  cases e:fS m ms env with
  | next e' | exc c e'=>rw[e]at q;exact fun F' H' fp' S'=>q F' H' σ fp' S'
  | ret v =>
   exfalso
   revert e
   unfold fS
   split
   ·split
    ·split
     ·simp
     ·split
      ·split<;>simp
      ·simp
    ·simp
    ·simp
   ·simp
  | brk e' =>
   exfalso
   revert e
   unfold fS
   split
   ·split
    ·split
     ·simp
     ·split
      ·split<;>simp
      ·simp
    ·simp
    ·simp
   ·simp
  | cont e' =>
   exfalso
   revert e
   unfold fS
   split
   ·split
    ·split
     ·simp
     ·split
      ·split<;>simp
      ·simp
    ·simp
    ·simp
   ·simp
  | stuck=>rw[e]at q;exact q
end
@[irreducible] def Bx(p:Prop):Prop:=p
theorem Bx.mk(h:p):Bx p:=by unfold Bx;exact h
theorem Bx.out(h:Bx p):p:=by unfold Bx at h;exact h
section
variable{X:Cx}{T:Tb}{W:Nat->St->Hp->Prop}
theorem bq{bf:List Stmt}(h1:Bx (SS X T W st a))(h2:Bx (SSs X T W bf b)):Bx (SSs X T W (st::bf) (ap a b)):=.mk (ah h1.out h2.out)
theorem bI(hN:X.N.Nodup)(hi:X.N[i]?=some x)(hx:Loc X.env.scope x)(he:Bx (SE X T W e m))(hs:swapsWith e (some (.Name x pos')) pos.line X.env=pure false:=by rfl)
  (hf:X.fn x=true\/X.env.scope.names.lookup x=some .local:=by first | exact .inl rfl | exact .inr rfl | assumption):Bx (SS X T W (.Assign [.Name x pos'] e pos) (aD i m)):=.mk (qG hN hi hx he.out hs hf)
theorem bJ(ha:Bx (SA X T W es ms))(hn:dB ms n)(hs:n<=1000:=by decide):Bx (SE X T W (.List es pos) (aZ ms)):=.mk (qW ha.out hn hs)
theorem aP{x1}(ha:Bx (SA X T W es ms))(hn:dB ms n)(hs:n<=1000:=by decide):Bx (SE X T W (.Tuple es x1 pos) (ba ms)):=.mk (qS ha.out hn hs)
theorem aF:Bx (SA X T W [] aj):=.mk ag
theorem ai(ha:Bx (SE X T W e a))(hr:Bx (SA X T W es m))(hs:starEach (e::es) X.env=(false,eval e X.env)::starEach es X.env:=by rfl):Bx (SA X T W (e::es) (aa a m)):=.mk (ac ha.out hr.out hs)
end
end PR
namespace PR
open PySem PySem.Spec L2
def cW:List PV->Option (List Bool)
 | []=>some []
 | .bl b::xs=>(cW xs).map (b::·)
 | _=>none
def u_(f:List Bool->Bool):PV->Res PV
 | .lst _ xs=>match cW xs with
  | some bs=>.ok (.bl (f bs))
  | none=>.stuck
 | _=>.stuck
def nV(bs:List Bool):Bool:=bs.all id
section
variable{X:Cx}{T:Tb}{W:Nat->St->Hp->Prop}{Z:Zn}{F F1 B L:Addr->Prop}{H H1:Hp}{σ:St}{env:En}{fp:Nat->List Addr}{pins:List (Addr×Obj)}{s:Shared}
theorem ke:∀{xs:List PV}{vs:List V}{f:List Addr}{bs:List Bool},cW xs=some bs->RelL T F B L H xs vs f->vs=bs.map V.bl
 | [],_,_,_,e,h=>by
  simp only[cW,Option.some.injEq]at e
  subst e
  unfold RelL at h
  rw[h.1];rfl
 | .bl b::xs,_,_,bs,e,h=>by
  simp only[cW]at e
  cases e2:cW xs with
  | none=>rw[e2]at e;cases e
  | some ms =>
   rw[e2]at e
   cases e
   unfold RelL at h
   obtain⟨v,ws,f1,f2,rfl,h1,h2,_⟩:=h
   unfold Rel at h1
   rw[h1.1,ke e2 h2]
   rfl
 | .non::_,_,_,_,e,_ | .int _::_,_,_,_,e,_ | .str _::_,_,_,_,e,_ | .lst _ _::_,_,_,_,e,_ | .tup _::_,_,_,_,e,_ | .obj _ _ _ _::_,_,_,_,e,_ | .exc _::_,_,_,_,e,_=>by simp[cW]at e
theorem tJ:∀{bs:List Bool}{its:List Value},aI (bs.map V.bl) its->∀(i:Nat) (v:Value),its.toArray[i]?=some v->v=.bool (bs.getD i false)
 | [],_,r,i,v,e=>by cases r;simp at e
 | b::bs,_,r,i,v,e=>by
  cases r with
  | cons r1 r2 =>
   cases i with
   | zero =>
    simp at e
    subst e
    exact r1
   | succ i=>exact tJ r2 i v (by simpa using e)
theorem uI(bs:List Bool)(n:Nat)(h:n=bs.length):(List.range n).all (fun i=>bs.getD i false)=nV bs:=by
 subst h
 unfold nV
 rw[Bool.eq_iff_iff,List.all_eq_true,List.all_eq_true]
 refine⟨fun z x hx=>?_,fun z i hi=>?_⟩
 ·obtain⟨i,hi,e⟩:=List.getElem_of_mem hx
  have:=z i (List.mem_range.mpr hi)
  rw[<- e]
  simpa[hi]using this
 ·have hi':=List.mem_range.mp hi
  have:=z bs[i] (List.getElem_mem hi')
  simpa[hi']using this
theorem qo{bs:List Bool}{its:List Value}(r:aI (bs.map V.bl) its):TruthOf X.prog X.w A (fun i v=>its.toArray[i]?=some v) (fun i=>bs.getD i false):=fun i v s Q E hP hQ=>by
 rw[tJ r i v hP]
 exact wpAny_truthy_bool hQ
theorem k8(hc:X.calm=true):cb X (.builtin "all") (fun xs H Q=>∃p bs,xs=[.ref p]/\SqL X.K H p (bs.map V.bl)/\Q (.bl (nV bs)) H):=by
 intro pins s σ H xs us Q I rv h
 obtain⟨p,bs,rfl,hq,q⟩:=h
 obtain⟨u,rfl,rx⟩:=cT rv
 cases rx
 have hh:=I.ok.hd hc
 obtain⟨its,r,pl,hz⟩:=I.list hq
 have hl:its.toArray.size=bs.length:=by
  have:=r.length
  simpa using this.symm
 obtain⟨o,ho,hcl,n,hd⟩:=pl.isList
 have hlt:=Heap.lt_size ho
 have key:∀{h':Heap}{tk:Nat},(∀b o,s.heap.get? b=some o->h'.get? b=some o)->EP X pins σ Q (.bool (nV bs)) { s with heap:=h',toks:=tk }:=fun k=>⟨.bl _,H,gz I k,rfl,q⟩
 refine call_all_walk (wpAny_pyIter_list pl.isList ?_)
 refine⟨_,_,_,_,_,_,(fun i=>bs.getD i false),rfl,Walks.list (A:=X.A.in1) hh _ p (Nat.ne_of_lt hlt) its.toArray,⟨⟨_,Heap.get?_push_size _ rfl,rfl,rfl⟩,pl.isList.push _⟩,qo r,fun h' tk hk=>?_⟩
 rw[uI bs _ hl]
 exact key (eZ hk)
theorem vv(hK:X.K=T.K)(f:List Bool->Bool):Mir T W (p1 (u_ f)) (fun xs H Q=>∃p bs,xs=[.ref p]/\SqL X.K H p (bs.map V.bl)/\Q (.bl (f bs)) H):=by
 intro B F L σ H Q F' H' xs vs fx gr r nf nd new q
 match xs,r,q with
 | [x],r,q =>
  obtain⟨v,rfl,rv⟩:=RelL.one r
  simp only[p1]at q
  cases x with
  | lst fl ys =>
   simp only[u_]at q
   cases e2:cW ys with
   | none=>rw[e2]at q;exact q.elim
   | some bs =>
    rw[e2]at q
    dsimp only at q
    unfold Rel at rv
    obtain⟨a,us,fp',rfl,hl,hr,_⟩:=rv
    have hu:=ke e2 hr
    subst hu
    exact⟨a,_,rfl,by rw[hK];exact hl.sq,q.scal gr eV⟩
  | _=>exact q.elim
 | [],_,q=>exact q.elim
 | _::_::_,_,q=>simp only[p1]at q;exact q.elim
theorem zK:bootBuiltins "all" = some (.builtin "all"):=by decide +kernel
theorem xC(hK:X.K=T.K)(hc:X.calm=true)(hg:Gl X "all")(hm:X.mg "all" = none)(ha:SE X T W e m)(he:starEach [e] X.env=[(false,eval e X.env)]:=by rfl):SE X T W (.Call (.Name "all" p) [e] [] pos) (ao (p1 (u_ nV)) (aa m aj)) :=
 dg (k8 hc) (vv hK nV) hg hm zK (ac ha ag (by rw[he];rfl)) (he:=by rw[he];rfl) (hpl:=rfl)
end
end PR
namespace PR
open PySem PySem.Spec L2
def kH:PV->Res PV
 | .bl b=>.ok (.int (if b then 1 else 0))
 | .int i=>.ok (.int i)
 | _=>.stuck
section
variable{X:Cx}{T:Tb}{W:Nat->St->Hp->Prop}
theorem mD:cb X (.type "int") (fun xs H Q=>(∃b,xs=[.bl b]/\Q (.int (if b then 1 else 0)) H)\/ ∃i,xs=[.int i]/\Q (.int i) H):=by
 intro pins s σ H xs us Q I rv h
 rcases h with⟨b,rfl,q⟩ |⟨i,rfl,q⟩
 ·obtain⟨u,rfl,rx⟩:=cT rv
  cases rx
  exact PySem.call_int_bool ⟨.int _,H,gz I fun _ _ e=>e,⟨_,rfl⟩,q⟩
 ·obtain⟨u,rfl,rx⟩:=cT rv
  obtain⟨t,rfl⟩:=rx
  exact PySem.call_int_int ⟨.int _,H,I,⟨_,rfl⟩,q⟩
theorem pZ:Mir T W (p1 kH) (fun xs H Q=>(∃b,xs=[.bl b]/\Q (.int (if b then 1 else 0)) H)\/ ∃i,xs=[.int i]/\Q (.int i) H):=by
 intro B F L σ H Q F' H' xs vs fx g r nf nd new q
 match xs,r,q with
 | [x],r,q =>
  obtain⟨v,rfl,r1⟩:=r.one
  cases x with
  | bl b =>
   unfold Rel at r1
   obtain⟨rfl,_⟩:=r1
   exact .inl ⟨b,rfl,q.scal g cX⟩
  | int i =>
   unfold Rel at r1
   obtain⟨rfl,_⟩:=r1
   exact .inr ⟨i,rfl,q.scal g cX⟩
  | _=>exact q.elim
 | [],_,q | _::_::_,_,q=>exact q.elim
theorem qX(hg:Gl X "int")(hm:X.mg "int" = none)(ha:SE X T W e m)(he:starEach [e] X.env=[(false,eval e X.env)]:=by rfl):SE X T W (.Call (.Name "int" p) [e] [] pos) (ao (p1 kH) (aa m aj)) :=
 c_ mD pZ hg hm zJ (ac ha ag he) (he:=he)
end
open AutoSeq1 (wpAny_loadPart')
section
variable{prog:Program}{w:World}{A:Around}{E:Value->Shared->Prop}{s:Shared}
theorem qm(ft:TypeCalled T nI iI)
  (c1:checkTypeCall T ⟨us,kw⟩=pure ()) (c2:checkBuiltinCall nI ⟨.type T::us,kw⟩=pure ()) (eN:entryFor table nI=some Bn) (eI:entryFor table iI=some Bi) (g:Meets (Bn ⟨.type T::us,kw⟩) S)
  (h:S A.in1 (wants Q1 E) s) (nx:∀ob s1,Q1 ob s1->s1.TypeIs ob T/\argsOk iI ⟨ob::us,kw⟩/\∃Si,Meets (Bi ⟨ob::us,kw⟩) Si/\Si A.in1 (wants (fun r s2=>r=.none/\Q ob s2) E) s1) :
  wpAny (model prog w) A (call (.type T) us kw) Q E s:=by
 obtain⟨cc,tt,hmro⟩:=ft.mro
 have hmade:=ft.made;have hsub:=ft.sub;have h1:=ft.notType;have h2:=ft.canCreate
 refine wpAny_call (codeAny_of_tree (show wpAny _ _ (callAny (.type T) _) _ _ _ from wpAny_pure ⟨Code.quiet_builtin _ (by decide +kernel),codeAny_builtin F.entry_type_call ?_⟩))
 rw[Around.under_plain (weight_type_call_type T us kw) (units_type_call_type T us kw)]
 repeat (any_goals (first | assumption | wp_step | fail))
 refine codeAny_mono (codeAny_call_builtin ft.plain eN (wpAny_of_eq c2 (g prog w A.in1 _ s h))) fun r s1 hr=>?_
 cases r with
 | error e=>exact hr
 | ok fl =>
  cases fl with
  | ret ob =>
   obtain⟨hT,hok,Si,gi,hsi⟩:=nx _ _ hr
   have hli:=ft.init.lookup;have hbi:=ft.init.bind ob
   repeat (any_goals (first | assumption | wp_step | fail))
   refine codeAny_mono (codeAny_call_builtin ft.init.plain eI (ft.init.check _ _ _ _ _ _ _ _ hT hok (gi prog w A.in1 _ s1 hsi))) fun r2 s2 hr2=>?_
   cases r2 with
   | error e=>exact hr2
   | ok fl2 =>
    cases fl2 with
    | ret r =>
     obtain⟨rfl,hq⟩:=hr2
     repeat (any_goals (first | assumption | wp_step | fail))
    | _=>exact hr2.elim
  | _=>exact hr.elim
theorem BD(hl:typeLookup (.type T) "__init__" = pure (some (.builtin "object.__init__")))(hm:Bind.madeBy (.type T)=pure (some nI))(hne:(some nI != some "object.__new__")=true) :
  Meets (Builtin.«object.__init__» ⟨[self,a],kw⟩) (fun _ R s=>s.TypeIs self T/\R (.ok (.ret .none)) s):=by
 refine Meets.of_wp fun pr w A R s0 hs=>?_
 obtain⟨hT,hq⟩:=hs
 repeat (any_goals (first | assumption | wp_step | fail))
 exact⟨_,rfl,hq⟩
theorem cK1(a v:Value):checkTypeCall "enumerate" ⟨[a],[("start", v)]⟩=pure ():=by kernel_rfl
theorem cK2(a v:Value):checkBuiltinCall "enumerate.__new__" ⟨[.type "enumerate", a],[("start", v)]⟩=pure ():=by kernel_rfl
theorem cK3(a b v:Value):argsOk "object.__init__" ⟨[a,b],[("start", v)]⟩:=by
 unfold argsOk
 rw[signature?_of (id := "object.__init__") (n:=['_','_','t','i','n','i','_','_']) (o:=['t','c','e','j','b','o']) (by kernel_rfl) F.owner_object]
 kernel_rfl
abbrev itO(n:String)(l:Addr):Obj:={ cls:=.type n,data:=.fields #[.ref l,.int 0 0] }
abbrev enO(it:Addr)(i:Int):Obj:={ cls:=.type "enumerate", data:=.fields #[.none,.bool false,.ref it,rawInt i,.none,.none] }
def tZ(n:String)(l:Addr)(s:Shared):Prop:=∀(pr:Program) (w:World) (A:Around) (Q:Value->Shared->Prop) (E:Value->Shared->Prop),Q (.ref s.heap.objs.size) { s with heap:=s.heap.push (itO n l) }->wpAny (model pr w) A (pyIter (.ref l)) Q E s
theorem B1(n:String)(l:Addr)(t:Tok) :
  Meets (Builtin.«enumerate.__new__» ⟨[.type "enumerate", .ref l],[("start", .int 1 t)]⟩) (fun _ R s=>tZ n l s/\R (.ok (.ret (.ref (s.heap.push (itO n l)).objs.size))) { s with heap:=(s.heap.push (itO n l)).push (enO s.heap.objs.size 1) }) :=
 .of_wp fun pr w A R s0 h=>by
  obtain⟨hp,g,d,tk,os⟩:=s0
  obtain⟨hI,h⟩:=h
  have hsub:=sub_enumerate
  have hJ:∀{Q:Value->Shared->Prop}{E:Value->Shared->Prop},Q (.ref hp.objs.size) ⟨hp.push (itO n l),g,d,tk,os⟩->wpAny (model pr w) A.in1 (pyIter (.ref l)) Q E ⟨hp,g,d,tk,os⟩:=fun {Q E} q=>hI pr w A.in1 Q E q
  have hJ':∀{Q:Value->Shared->Prop}{E:Value->Shared->Prop},Q (.ref hp.objs.size) ⟨hp.push (itO n l),g,d,tk,os⟩->wpAny (model pr w) A (pyIter (.ref l)) Q E ⟨hp,g,d,tk,os⟩:=fun {Q E} q=>hI pr w A Q E q
  wp_walk
  refine wpAny_stack_any fun st=>wpAny_pure ?_
  split<;>try (rename_i c _ _ _ _ _;cases(c==Value.type "enumerate"))
  all_goals (wp_walk using hJ,hJ')
  all_goals exact⟨_,rfl,h⟩
theorem zx(hI:tZ n l s)(h:Q (.ref (s.heap.objs.size+1)) { s with heap:=(s.heap.push (itO n l)).push (enO s.heap.objs.size 1) }) :
  wpAny (model prog w) A (call (.type "enumerate") [.ref l] [("start", .int 1 t)]) Q E s:=by
 have hz:(s.heap.push (itO n l)).objs.size=s.heap.objs.size+1:=Heap.size_push ..
 refine qm (Q1:=fun ob s1=>s1.TypeIs ob "enumerate" /\ Q ob s1) F.called_enumerate (cK1 _ _) (cK2 _ _) F.entry_enumerate_new F.entry_object_init (B1 n l t) ⟨hI,?_⟩ fun ob s1 hq=>⟨hq.1,cK3 ob _ _,_,BD F.called_enumerate.init.lookup F.called_enumerate.made (by decide),hq.1,rfl,hq.2⟩
 show _/\_
 rw[hz]
 have:=Heap.get?_push_size (s.heap.push (itO n l)) (o:=enO s.heap.objs.size 1) rfl
 rw[hz]at this
 exact⟨⟨_,this,rfl⟩,h⟩
theorem lz(t:Addr):¬((Value.ref t==Value.none)=true):=Bool.false_ne_true
theorem sd(hit:s.heap.IsTupleIter it t i)(ht:s.heap.IsTuple t items)(hx:items[i]?=some x)
  (hQ:∀h',h'.IsTupleIter it t (i+1)->Heap.SameBut it s.heap h'->Q x { s with heap:=h' }):wpAny (model prog w) A (Builtin.SmallTypes.nextOf (.ref it)) Q E s:=by
 obtain⟨o,ho,hc,hd⟩:=id hit
 obtain⟨o2,ho2,_,n2,hd2⟩:=ht
 unfold Builtin.SmallTypes.nextOf
 refine wpAny_bind (wpAny_callSpecial?_slot (name:=Str.ofString "__next__") hit.typeIs F.slot_tuple_iterator_next (wpAny_call_entry F.slot_tuple_iterator_next hit.typeIs F.entry_tuple_iterator_next ?_ (F.args_tuple_iterator_next_1 _)))
 refine(show wpAny _ _ (field (.ref it) 0 >>= _) _ _ s from wpAny_bind (wpAny_field ho hd (x:=.ref t) rfl ?_))
 refine(show wpAny _ _ (if(Value.ref t==Value.none)=true then _ else _) _ _ s from ?_)
 rw[if_neg (lz t)]
 refine(show wpAny _ _ (field (.ref it) 1 >>= _) _ _ s from wpAny_bind (wpAny_field ho hd (x:=.int i 0) rfl ?_))
 refine(show wpAny _ _ (seqItems? (.ref t) >>= _) _ _ s from wpAny_bind (wpAny_seqItems ho2 hd2 ?_))
 simp only[Int.toNat_natCast,hx]
 refine wpAny_bind (wpAny_setField ho hd (by simp) (wpAny_pure ⟨x,rfl,wpAny_pure (hQ _ ⟨_,Heap.get?_update_self _ ho (Obj.isFreed_of_fields (Obj.data_mapFields hd _)),(Obj.cls_mapFields ..).trans hc,by rw[Obj.data_mapFields hd];simp[rawInt]⟩ (Heap.SameBut.update ..))⟩))
theorem vk(hh:A.handled=none)(hit:s.heap.IsTupleIter it t i)(ht:s.heap.IsTuple t items)(hx:items[i]?=none)
  (hE:∀h' e,Heap.ExtBut it s.heap h'->(∃o,h'.get? e=some o/\o.cls=.type "StopIteration")->E (.ref e) { s with heap:=h' }):wpAny (model prog w) A (Builtin.SmallTypes.nextOf (.ref it)) Q E s:=by
 obtain⟨o,ho,hc,hd⟩:=id hit
 obtain⟨o2,ho2,_,n2,hd2⟩:=ht
 unfold Builtin.SmallTypes.nextOf
 refine wpAny_bind (wpAny_callSpecial?_slot (name:=Str.ofString "__next__") hit.typeIs F.slot_tuple_iterator_next (wpAny_call_entry F.slot_tuple_iterator_next hit.typeIs F.entry_tuple_iterator_next ?_ (F.args_tuple_iterator_next_1 _)))
 refine(show wpAny _ _ (field (.ref it) 0 >>= _) _ _ s from wpAny_bind (wpAny_field ho hd (x:=.ref t) rfl ?_))
 refine(show wpAny _ _ (if(Value.ref t==Value.none)=true then _ else _) _ _ s from ?_)
 rw[if_neg (lz t)]
 refine(show wpAny _ _ (field (.ref it) 1 >>= _) _ _ s from wpAny_bind (wpAny_field ho hd (x:=.int i 0) rfl ?_))
 refine(show wpAny _ _ (seqItems? (.ref t) >>= _) _ _ s from wpAny_bind (wpAny_seqItems ho2 hd2 ?_))
 simp only[Int.toNat_natCast,hx]
 refine wpAny_bind (wpAny_rule (wpAny_bind (wpAny_setField ho hd (by simp) (show wpAny _ _ (newExc (.type "StopIteration") [] >>= _) _ _ _ from wpAny_bind ?_))))
 simp only[newExc,newTuple]
 refine wpAny_bind (wpAny_newObj_type (wpAny_bind (m:=firstArgMember _ _) (wpAny_of_eq (a:=Value.none) (by first | rfl |(simp only[firstArgMember];rfl)) (wpAny_newObj_type ?_ (by size_fits)))) (by size_fits))
 simp only[raiseNew]
 refine wpAny_bind (wpAny_handled ?_)
 first | rw[show A.in1.handled=none from hh] | rw[hh] | skip
 exact wpAny_bind (wpAny_pure (wpAny_throw (hE _ _ (((Heap.SameBut.update ..).extBut.push _).push _) ⟨_,Heap.get?_push_size _ rfl,rfl⟩)))
inductive fZ(h:Heap)(it l:Addr)(its:Array Value)(i:Nat):Prop
 | lst (a:h.IsListIter it l i) (b:h.IsList l its)
 | tup (a:h.IsTupleIter it l i) (b:h.IsTuple l its)
theorem fZ.at(x:fZ h it l its i)(k1:∀o,h.get? it=some o->h'.get? it=some o)(k2:∀o,h.get? l=some o->h'.get? l=some o):fZ h' it l its i:=by
 rcases x with⟨⟨o,e,r⟩,⟨o2,e2,r2⟩⟩ |⟨⟨o,e,r⟩,⟨o2,e2,r2⟩⟩
 ·exact .lst ⟨o,k1 o e,r⟩ ⟨o2,k2 o2 e2,r2⟩
 ·exact .tup ⟨o,k1 o e,r⟩ ⟨o2,k2 o2 e2,r2⟩
theorem fZ.obj(x:fZ h it l its i):∃o,h.get? it=some o/\∀v,o.data≠.cell v:=by
 rcases x with⟨⟨o,e,_,d⟩,_⟩ |⟨⟨o,e,_,d⟩,_⟩
 ·exact⟨o,e,fun v z=>by rw[d]at z;cases z⟩
 ·exact⟨o,e,fun v z=>by rw[d]at z;cases z⟩
theorem vj(hi:fZ s.heap it l its i)(hne:l≠it)(hx:its[i]?=some x)(hQ:∀h',fZ h' it l its (i+1)->Heap.SameBut it s.heap h'->Q x { s with heap:=h' }) :
  wpAny (model prog w) A (Builtin.SmallTypes.nextOf (.ref it)) Q E s:=by
 rcases hi with⟨a,b⟩ |⟨a,b⟩
 ·exact wpAny_nextOf_list_item a b hx fun h' q sb=>hQ h' (.lst q (b.extBut sb.extBut hne)) sb
 ·exact sd a b hx fun h' q sb=>hQ h' (.tup q (b.extBut sb.extBut hne)) sb
theorem yW(hh:A.handled=none)(hi:fZ s.heap it l its i)(hx:its[i]?=none)
  (hE:∀h' e,Heap.ExtBut it s.heap h'->(∃o,h'.get? e=some o/\o.cls=.type "StopIteration")->E (.ref e) { s with heap:=h' }):wpAny (model prog w) A (Builtin.SmallTypes.nextOf (.ref it)) Q E s:=by
 rcases hi with⟨a,b⟩ |⟨a,b⟩
 ·exact wpAny_nextOf_list_end hh a b hx hE
 ·exact vk hh a b hx hE
theorem vU{Q:Value->Shared->Prop}(he:IsEnum s.heap e it k old)(hi:fZ s.heap it l its i)(hne:e≠it)(hli:l≠it)(hle:l≠e)(hx:its[i]?=some x)
  (hQ:∀ h',IsEnumOut h' e it (k+1) x s.heap.objs.size->fZ h' it l its (i+1)->h'.get? s.heap.objs.size=some { cls:=.type "tuple", data:=.seq #[.int k s.toks,x] }->h'.objs.size=s.heap.objs.size+1 ->
   (∀b o,b≠e->b≠it->s.heap.get? b=some o->h'.get? b=some o)->Q (.ref s.heap.objs.size) { s with heap:=h',toks:=s.toks+1 }) :
  wpAny (model prog w) A (Builtin.«enumerate.__next__» ⟨[.ref e],[]⟩) (fun fin s'=>∃v,fin=.done (.ret v)/\Q v s') E s:=by
 obtain⟨hp,g,d,tk,os⟩:=s
 refine(show wpAny _ _ (field (.ref e) 2 >>= _) _ _ _ from wpAny_bind (wpAny_field he rfl (x:=.ref it) rfl ?_))
 refine wpAny_bind (vj hi hli hx fun h1 i1 s1=>?_)
 replace s1:Heap.SameBut it hp h1:=s1
 have e1:IsEnum h1 e it k old:=(s1.2 e hne).trans he
 refine(show wpAny _ _ (field (.ref e) 3 >>= _) _ _ ⟨h1,g,d,tk,os⟩from wpAny_bind (wpAny_field e1 rfl (x:=rawInt k) rfl ?_))
 refine(show wpAny _ _ (field (.ref e) 4 >>= _) _ _ ⟨h1,g,d,tk,os⟩from wpAny_bind (wpAny_field e1 rfl (x:=.none) rfl ?_))
 refine(show wpAny _ _ (mkInt k >>= _) _ _ ⟨h1,g,d,tk,os⟩from wpAny_bind (wpAny_mkInt ?_))
 refine(show wpAny _ _ (setField (.ref e) 3 (rawInt (k+1)) >>= _) _ _ ⟨h1,g,d,tk+1,os⟩from wpAny_bind (wpAny_setField_rec e1 (by simp) fun h2 e2 s2=>?_))
 replace s2:Heap.SameBut e h1 h2:=s2
 replace e2:IsEnum h2 e it (k+1) old:=e2
 refine(show wpAny _ _ (setField (.ref e) 4 .none >>= _) _ _ ⟨h2,g,d,tk+1,os⟩from wpAny_bind (wpAny_setField_rec e2 (by simp) fun h3 e3 s3=>?_))
 replace s3:Heap.SameBut e h2 h3:=s3
 replace e3:IsEnum h3 e it (k+1) old:=e3
 refine(show wpAny _ _ (newTuple [.int k tk,x] >>= _) _ _ ⟨h3,g,d,tk+1,os⟩from wpAny_bind (wpAny_newTuple ?_))
 have e4:IsEnum (h3.push { cls:=.type "tuple", data:=.seq #[.int k tk,x] }) e it (k+1) old:=Heap.get?_push_of_some _ e3
 generalize hh4:h3.push { cls:=.type "tuple", data:=.seq #[.int k tk,x] }=h4 at e4
 have z3:h3.objs.size=hp.objs.size:=by rw[s3.1,s2.1,s1.1]
 have lte:e < hp.objs.size:=Heap.lt_size he
 have t4:h4.get? hp.objs.size=some { cls:=.type "tuple", data:=.seq #[.int k tk,x] }:=by rw[<- hh4,<- z3];exact Heap.get?_push_size _ rfl
 have z4:h4.objs.size=hp.objs.size+1:=by rw[<- hh4,Heap.size_push,z3]
 have k4:∀b o,b≠e->h1.get? b=some o->h4.get? b=some o:=fun b o hb q=>by
  rw[<- hh4];exact Heap.get?_push_of_some _ (s3.extBut b o hb (s2.extBut b o hb q))
 refine(show wpAny _ _ (Builtin.SmallTypes.ownedTupleIsFree (.ref e) >>= _) _ _ ⟨h4,g,d,tk+1,os⟩from ?_)
 rw[z3]
 refine wpAny_bind ?_
 unfold Builtin.SmallTypes.ownedTupleIsFree
 refine wpAny_bind (wpAny_field e4 rfl (x:=.none) rfl (wpAny_pure ?_))
 simp only[if_true]
 refine wpAny_bind (wpAny_rule (wpAny_bind (wpAny_field e4 rfl (x:=old) rfl (wpAny_bind (wpAny_setField_rec e4 (by simp) fun h5 e5 s5=>?_)))))
 replace s5:Heap.SameBut e h4 h5:=s5
 replace e5:IsEnum h5 e it (k+1) x:=e5
 refine(show wpAny _ _ (Builtin.SmallTypes.ownedTupleHandOut (.ref e) (.ref hp.objs.size) >>= _) _ _ ⟨h5,g,d,tk+1,os⟩from wpAny_bind ?_)
 unfold Builtin.SmallTypes.ownedTupleHandOut
 refine wpAny_bind (wpAny_setField_rec e5 (by simp) fun h6 e6 s6=>?_)
 replace s6:Heap.SameBut e h5 h6:=s6
 replace e6:IsEnumOut h6 e it (k+1) x hp.objs.size:=e6
 refine wpAny_setField_rec e6 (by simp) fun h7 e7 s7=>?_
 replace s7:Heap.SameBut e h6 h7:=s7
 replace e7:IsEnumOut h7 e it (k+1) x hp.objs.size:=e7
 have up:∀b o,b≠e->h4.get? b=some o->h7.get? b=some o:=fun b o hb q=>s7.extBut b o hb (s6.extBut b o hb (s5.extBut b o hb q))
 refine wpAny_bind (wpAny_letGo (wpAny_pure ⟨_,rfl,hQ h7 e7 (i1.at (fun o q=>up it o hne.symm (k4 it o hne.symm q)) fun o q=>up l o hle (k4 l o hle q)) (up _ _ (Nat.ne_of_gt lte) t4) (by rw[s7.1,s6.1,s5.1,z4]) fun b o hb hb2 q=>up b o hb (k4 b o hb (s1.extBut b o hb2 q))⟩))
theorem uU(he:IsEnum s.heap e it k old)(hi:fZ s.heap it l its i)(hne:e≠it)(hli:l≠it)(hle:l≠e)(hx:its[i]?=some x)
  (hQ:∀ h',IsEnumOut h' e it (k+1) x s.heap.objs.size->fZ h' it l its (i+1)->h'.get? s.heap.objs.size=some { cls:=.type "tuple", data:=.seq #[.int k s.toks,x] }->h'.objs.size=s.heap.objs.size+1 ->
   (∀b o,b≠e->b≠it->s.heap.get? b=some o->h'.get? b=some o)->Q (some (.ref s.heap.objs.size)) { s with heap:=h',toks:=s.toks+1 }):wpAny (model prog w) A (pyNext (.ref e)) Q E s:=by
 have hT:s.TypeIs (.ref e) "enumerate" :=⟨_,he,rfl⟩
 unfold pyNext
 exact wpAny_bind (wpAny_attempt (wpAny_callSpecial?_slot (name:=Str.ofString "__next__") hT F.slot_enumerate_next (wpAny_call_entry F.slot_enumerate_next hT F.entry_enumerate_next (vU he hi hne hli hle hx fun h' a b c d q=>wpAny_pure (hQ h' a b c d q)) (F.args_enumerate_next_1 _))))
theorem xV(hh:A.handled=none)(he:IsEnum s.heap e it k old)(hi:fZ s.heap it l its i)(hx:its[i]?=none)
  (hQ:∀h',Heap.ExtBut it s.heap h'->Q none { s with heap:=h' }):wpAny (model prog w) A (pyNext (.ref e)) Q E s:=by
 have hT:s.TypeIs (.ref e) "enumerate" :=⟨_,he,rfl⟩
 unfold pyNext
 refine wpAny_bind (wpAny_attempt (wpAny_callSpecial?_slot (name:=Str.ofString "__next__") hT F.slot_enumerate_next (wpAny_call_entry F.slot_enumerate_next hT F.entry_enumerate_next ?_ (F.args_enumerate_next_1 _))))
 refine(show wpAny _ _ (field (.ref e) 2 >>= _) _ _ _ from wpAny_bind (wpAny_field he rfl (x:=.ref it) rfl ?_))
 refine wpAny_bind (yW hh hi hx fun h' y q ⟨o,ho,hc⟩=>?_)
 exact wpAny_bind (wpAny_isInstance (T := "StopIteration") (b:=true) ⟨o,ho,hc⟩ isSubtype_stop (wpAny_pure (hQ _ q)))
end
section
variable{X:Cx}{T:Tb}{W:Nat->St->Hp->Prop}{Z:Zn}{F F1 B L:Addr->Prop}{H H1:Hp}{σ:St}{env:En}{pins:List (Addr×Obj)}{s:Shared}
theorem p9{fp:List Addr}{vs:List V}(I:L2.Inv X pins σ H s)(hf:∀b∈fp,iA X pins H b)(k:∀b o,b∉fp->s.heap.get? b=some o->h'.get? b=some o)(hp:s.heap.objs.size<=a)(new:bW X.prog X.w (upd H a (.tup vs)) h' a (.tup vs)) :
  L2.Inv X pins σ (upd H a (.tup vs)) { s with heap:=h',toks:=t' }:=by
 have hn:H a=none:=I.hok.fresh hp
 have nit:∀b u,H b=some u->b∉fp:=fun b u e z=>by rw[(hf b z).1]at e;cases e
 refine I.step (g':=s.gens) (d':=s.drawn) (ch:=fp) (fun b hb=>?_) (fun b o _ _ hc e _=>k b o hc e) (fun b o _ _ hc e _=>⟨o.slots,k b o hc e⟩) (fun b o _ e n=>?_) (fun b o hc e=>⟨o,k b o hc e⟩)
  (fun b xs e=>by rw[aE (bj e hn)];exact e) (fun b o u e=>by rw[aE (bj e hn)];exact e) (fun b ps e=>⟨#[],by rw[aE (bj e hn),e];simp⟩) (fun m hm=>?_) (fun b u e=>?_) I.bare
 ·obtain⟨_,q1,_,q3,q4,q5⟩:=hf b hb
  exact⟨q3,q1,q4,q5⟩
 ·rw[aE (Nat.ne_of_lt (Nat.lt_of_lt_of_le (Heap.lt_size e) hp))];exact n
 ·obtain⟨o,es,ep,ho,r⟩:=hm
  exact⟨o,es,ep,k _ o (fun z=>(hf _ z).2.1 rfl) ho,r⟩
 ·by_cases hb:b=a
  ·subst hb;rw[aX]at e;cases e;exact new
  ·rw[aE hb]at e
   refine(I.hok b u e).stay (fun c v hc q=>k c v ?_ q) (fun c q=>by rw[aE (bj q hn)];exact q) fun c xs q=>by rw[aE (bj q hn)];exact q
   rcases hc with z | z
   ·rw[z];exact nit b u e
   ·exact nit c _ z
def Sq(tp:Bool)(K:PySem.W.Frag)(H:Hp)(l:Addr)(xs:List V):Prop:=match tp with
 | true=>SqT K H l xs
 | false=>SqL K H l xs
def wc(tp:Bool)(h:Heap)(it l:Addr)(i:Nat):Prop:=match tp with
 | true=>h.IsTupleIter it l i
 | false=>h.IsListIter it l i
def Ite(tp:Bool)(K:PySem.W.Frag)(st:Int)(l:Addr):It :=
 ⟨fun i H=>∃xs x,Sq tp K H l xs/\xs[i]?=some x,fun i H v H'=>∃p y,H p=none/\v=.ref p/\H'=upd H p (.tup [.int (st+i),y])/\∀xs,Sq tp K H l xs->xs[i]?=some y,fun i H=>∃xs,Sq tp K H l xs/\xs.length<=i⟩
theorem wj(I:L2.Inv X pins σ H s)(hq:Sq tp X.K H l xs)(ha:wc tp s.heap it l i):∃its:List Value,aI xs its/\fZ s.heap it l its.toArray i/\l≠it/\∀e k old,IsEnum s.heap e it k old->e≠it/\l≠e:=by
 cases tp with
 | false =>
  obtain⟨its,rv,p,_⟩:=I.list hq
  obtain⟨o,ho,hc,_⟩:=id p.isList
  obtain⟨o2,ho2,hc2,_⟩:=id (show s.heap.IsListIter it l i from ha)
  refine⟨its,rv,.lst ha p.isList,fun z=>?_,fun e k old he=>⟨fun z=>?_,fun z=>?_⟩⟩
  ·rw[z,ho2]at ho;cases ho;rw[hc2]at hc;exact absurd hc (by decide)
  ·have he':s.heap.get? e=some _:=he
   rw[z,ho2]at he';injection he' with he';rw[he']at hc2;exact absurd hc2 (by simp)
  ·have he':s.heap.get? e=some _:=he
   rw[z,he']at ho;injection ho with ho;rw[<- ho]at hc;exact absurd hc (by simp)
 | true =>
  obtain⟨its,rv,p,_⟩:=I.tuple hq
  have p':s.heap.IsTuple l its.toArray:=p
  obtain⟨o,ho,hc,_⟩:=id p'
  obtain⟨o2,ho2,hc2,_⟩:=id (show s.heap.IsTupleIter it l i from ha)
  refine⟨its,rv,.tup ha p',fun z=>?_,fun e k old he=>⟨fun z=>?_,fun z=>?_⟩⟩
  ·rw[z,ho2]at ho;cases ho;rw[hc2]at hc;exact absurd hc (by decide)
  ·have he':s.heap.get? e=some _:=he
   rw[z,ho2]at he';injection he' with he';rw[he']at hc2;exact absurd hc2 (by simp)
  ·have he':s.heap.get? e=some _:=he
   rw[z,he']at ho;injection ho with ho;rw[<- ho]at hc;exact absurd hc (by simp)
theorem xr(I:L2.Inv X pins σ H s)(h1:Sq tp X.K H l xs)(h2:Sq tp X.K H l ys):xs=ys:=by
 cases tp with
 | false=>exact I.list_inj h1 h2
 | true=>exact I.tuple_inj h1 h2
theorem Bu(x:fZ h it l its i)(hl:tp=true->∃o,h.get? l=some o/\o.cls=.type "tuple")(hl2:tp=false->∃o,h.get? l=some o/\o.cls=.type "list"):wc tp h it l i:=by
 cases tp with
 | false =>
  obtain⟨o,ho,hc⟩:=hl2 rfl
  rcases x with⟨a,b⟩ |⟨a,⟨o2,ho2,hc2,_⟩⟩
  ·exact a
  ·rw[ho]at ho2;cases ho2;rw[hc]at hc2;exact absurd hc2 (by decide)
 | true =>
  obtain⟨o,ho,hc⟩:=hl rfl
  rcases x with⟨a,⟨o2,ho2,hc2,_⟩⟩ |⟨a,b⟩
  ·rw[ho]at ho2;cases ho2;rw[hc]at hc2;exact absurd hc2 (by decide)
  ·exact a
theorem pq{els:List Expr}{x1}(tp:Bool)(st:Int)(l e it:Addr) :
  qr P w K (.Tuple els x1 tpos) (Ite tp K st l) [e,it] e (fun i h=>(∃old,IsEnum h e it (st+i) old)/\wc tp h it l i) where
 mem:=by simp
 obj:=fun i h st b hb=>by
  obtain⟨⟨old,he⟩,ha⟩:=st
  simp only[List.mem_cons,List.not_mem_nil,or_false]at hb
  rcases hb with rfl | rfl
  ·exact⟨_,he,fun v z=>by cases z⟩
  ·cases tp with
   | false =>
    obtain⟨o,e,c,d⟩:=id (show h.IsListIter b l i from ha)
    exact⟨o,e,fun v z=>by rw[d]at z;cases z⟩
   | true =>
    obtain⟨o,e,c,d⟩:=id (show h.IsTupleIter b l i from ha)
    exact⟨o,e,fun v z=>by rw[d]at z;cases z⟩
 keep:=fun i h h' st k=>by
  obtain⟨⟨old,he⟩,ha⟩:=st
  refine⟨⟨old,k e (by simp) _ he⟩,?_⟩
  cases tp with
  | false =>
   obtain⟨o,e,r⟩:=id (show h.IsListIter it l i from ha)
   exact⟨o,k it (by simp) o e,r⟩
  | true =>
   obtain⟨o,e,r⟩:=id (show h.IsTupleIter it l i from ha)
   exact⟨o,k it (by simp) o e,r⟩
 item:=by
  intro X hP hw hK hc i pins s σ H E I hf stt hg
  subst hP hw hK
  obtain⟨⟨old,he⟩,ha⟩:=stt
  obtain⟨xs,x,hq,hx⟩:=hg
  obtain⟨its,rv,hi,hli,hen⟩:=wj I hq ha
  obtain⟨hne,hle⟩:=hen e _ old he
  obtain⟨u,hu,ru⟩:=rv.get hx
  refine uU he hi hne hli hle (x:=u) (by simpa using hu) fun h1 eo in1 tu sz kp=>?_
  refine⟨_,rfl,wpAny_letOwnedTupleGo_enum eo fun h2 e2 s2=>?_⟩
  replace s2:Heap.SameBut e h1 h2:=s2
  have lte:e < s.heap.objs.size:=Heap.lt_size he
  have kp2:∀b o,b∉[e,it]->s.heap.get? b=some o->h2.get? b=some o:=fun b o hb q=>by
   simp only[List.mem_cons,List.not_mem_nil,or_false,not_or]at hb
   exact s2.extBut b o hb.1 (kp b o hb.1 hb.2 q)
  have tu2:h2.get? s.heap.objs.size=some { cls:=.type "tuple", data:=.seq #[.int (st+i) s.toks,u] }:=s2.extBut _ _ (Nat.ne_of_gt lte) tu
  refine⟨.ref s.heap.objs.size,upd H s.heap.objs.size (.tup [.int (st+i),x]),(p9 (h':=h2) (t':=s.toks+1) (vs:=[.int (st+i),x]) I hf kp2 (Nat.le_refl _) ⟨by rw[sizeLine_eq];simp,[.int (st+i) s.toks,u],.cons ⟨_,rfl⟩ (.cons ru .nil),⟨_,tu2,rfl,_,rfl⟩⟩ :),rfl,⟨_,x,I.hok.fresh (Nat.le_refl _),rfl,rfl,fun ys hy=>by rw[xr I hy hq];exact hx⟩,⟨⟨u,?_⟩,?_⟩,fun b hb=>?_⟩
  ·have:st+((i+1:Nat):Int)=st+i+1:=by omega
   rw[this];exact e2
  ·have in2:=in1.at (fun o q=>s2.extBut it o hne.symm q) fun o q=>s2.extBut l o hle q
   refine Bu in2 (fun z=>?_) fun z=>?_
   ·subst z
    obtain⟨_,_,p,_⟩:=I.tuple hq
    obtain⟨o,ho,hc,_⟩:=id (show s.heap.IsTuple l _ from p)
    exact⟨o,kp2 l o (by simp[hle,hli]) ho,hc⟩
   ·subst z
    obtain⟨_,_,p,_⟩:=I.list hq
    obtain⟨o,ho,hc,_⟩:=id p.isList
    exact⟨o,kp2 l o (by simp[hle,hli]) ho,hc⟩
  ·have:b < s.heap.objs.size:=by
    simp only[List.mem_cons,List.not_mem_nil,or_false]at hb
    rcases hb with rfl | rfl
    ·exact lte
    ·obtain⟨o,ho,_⟩:=hi.obj
     exact Heap.lt_size ho
   rw[aE (Nat.ne_of_lt this)]
   exact(hf b hb).1
 done:=by
  intro X hP hw hK hc i pins s σ H E I hf stt hg
  subst hP hw hK
  obtain⟨⟨old,he⟩,ha⟩:=stt
  obtain⟨xs,hq,hx⟩:=hg
  obtain⟨its,rv,hi,hli,hen⟩:=wj I hq ha
  obtain⟨f0,f1,f2,f3,f4,f5⟩:=hf it (by simp)
  have hl:=rv.length
  exact xV (I.ok.hd hc) he hi (by simp;omega) fun h' eb=>⟨rfl,I.turned (t':=s.toks) (fun b o hb e=>eb b o hb e) f0 f1 f3 f4 f5⟩
 self:=fun _ _ _ _ _ st h=>by
  obtain⟨⟨old,he⟩,_⟩:=st
  exact wpAny_pyIter_enum he h
theorem k9{M:Model}{A:Around}{E:Value->Shared->Prop}{s:Shared}{env:Env}{Ty:String}{bf:List Expr}{kws:List Keyword}{Q:Value->Shared->Prop}
  (h:wpAny M A (spliced (backTo pos (starEach (e::bf) env))) (fun vs s1=>wpAny M A (evalAll ((backToKw pos (keywordEach kws env)).map (·.2))) (fun ks s2=>wpAny M A (call (.type Ty) vs (((backToKw pos (keywordEach kws env)).filterMap (·.1)).zip ks)) Q E s2) E s1) E s)
  (hall:(backToKw pos (keywordEach kws env)).all (·.1.isSome)=true:=by rfl) (hkw:(backToKw pos (keywordEach kws env)).any (·.1.isNone)=false:=by rfl)
  (he:starEach (e::bf) env=(false,eval e env)::starEach bf env:=by rfl) (hpl:(backTo pos (starEach (e::bf) env)).any (·.1)=false:=by rfl) :
  wpAny M A (callWith pos (.type Ty) [] (backTo pos (starEach (e::bf) env)) (backToKw pos (keywordEach kws env))) Q E s:=by
 unfold callWith
 refine wpAny_bind (wpAny_holding (wpAny_mono (PyProof.Rows.evalArgs_kw2 (Q:=fun a s1=>wpAny M A (call (.type Ty) ([]++ a.pos) a.kw) Q E s1) hall h he) (fun a s1 h1=>wpAny_bind (wpAny_standAt ?_)) fun _ _ x=>x))
 simp only[hpl,hkw,Bool.or_false]
 exact wpAny_bind (wpAny_pure (wpAny_bind (wpAny_mono h1 (fun r s2 hr=>wpAny_bind (wpAny_holding (wpAny_point (wpAny_pure hr)))) fun _ _ x=>x)))
theorem v6:bootBuiltins "enumerate" = some (.type "enumerate"):=by decide +kernel
abbrev enE(l:Expr)(p pos kp cp:Pos)(j:Nat):Expr:=.Call (.Name "enumerate" p) [l] [⟨some "start", .Constant (.int 1) j cp,kp⟩] pos
theorem uX{x1}(hg:Gl X "enumerate")(hm:X.mg "enumerate" = none)(hl:PE X l tl)(hs:starEach [l] X.env=[(false,eval l X.env)]:=by rfl) :
  PI X (.Tuple els x1 tpos) (enE l p pos kp cp j) (fun σ H R=>tl σ H fun x H1=>∃a tp xs,[x]=[V.ref a]/\Sq tp X.K H1 a xs/\R (Ite tp X.K 1 a) H1):=by
 intro pins s σ H R I h
 refine wpAny_Call_Name_kw (jl I hg hm v6 ?_ (by decide) (by decide))
 refine k9 ?_ rfl rfl hs (by rw[hs];rfl)
 refine thn (cZ (te:=tl) hl gT (by rw[hs];rfl) pos pins s σ H (fun vs H1=>∃a tp xs,vs=[.ref a]/\Sq tp X.K H1 a xs/\R (Ite tp X.K 1 a) H1) I h) fun us s1 ⟨vs,H1,I1,r1,a,tp,xs,ev,hq,q⟩=>?_
 subst ev
 obtain⟨u,rfl,rx⟩:=cT r1
 cases rx
 refine thn (uV (nm:=some "start") (kpos:=kp) (rR (i:=1) (j:=j) (pos:=cp)) xW pos pins s1 σ H1 (fun zs H2=>zs=[.int 1]/\H2=H1) I1 ⟨rfl,rfl⟩) fun ws s2 ⟨zs,H2,I2,r2,ez,eh⟩=>?_
 subst ez
 rw[eh]at I2
 clear eh
 obtain⟨u2,rfl,rx2⟩:=cT r2
 obtain⟨t,rfl⟩:=rx2
 have hI:∃n,tZ n a s2/\∀h',h'.get? s2.heap.objs.size=some (itO n a)->wc tp h' s2.heap.objs.size a 0:=by
  cases tp with
  | false =>
   obtain⟨its,rv,pl,_⟩:=I2.list hq
   exact⟨"list_iterator", fun _ _ _ _ _ q=>wpAny_pyIter_list pl.isList q,fun h' e=>⟨_,e,rfl,rfl⟩⟩
  | true =>
   obtain⟨its,rv,pl,_⟩:=I2.tuple hq
   exact⟨"tuple_iterator", fun _ _ _ _ _ q=>wpAny_pyIter_tuple (show s2.heap.IsTuple a its.toArray from pl) q,fun h' e=>⟨_,e,rfl,rfl⟩⟩
 obtain⟨n,hI,hA⟩:=hI
 have hz:(s2.heap.push (itO n a)).objs.size=s2.heap.objs.size+1:=Heap.size_push ..
 have he:((s2.heap.push (itO n a)).push (enO s2.heap.objs.size 1)).get? (s2.heap.objs.size+1)=some (enO s2.heap.objs.size 1):=by
  have:=Heap.get?_push_size (s2.heap.push (itO n a)) (o:=enO s2.heap.objs.size 1) rfl
  rw[hz]at this
  exact this
 refine zx hI (wpAny_pyIter_enum (i:=1) (old:=.none) he ?_)
 refine⟨s2.heap.objs.size+1,[s2.heap.objs.size+1,s2.heap.objs.size],_,_,H1,rfl,I2.kept (t':=s2.toks) fun b o e=>Heap.get?_push_of_some _ (Heap.get?_push_of_some _ e),pq tp 1 a _ _,⟨⟨.none,by simpa using he⟩,hA _ (Heap.get?_push_of_some _ (Heap.get?_push_size _ rfl))⟩,fun b hb=>?_,q⟩
 simp only[List.mem_cons,List.not_mem_nil,or_false]at hb
 rcases hb with rfl | rfl
 ·exact I2.fpOk (Nat.le_succ _) (I2.hok.fresh (Nat.le_succ _))
 ·exact I2.fpOk (Nat.le_refl _) (I2.hok.fresh (Nat.le_refl _))
end
def enP(k:Int):List PV->List PV
 | []=>[]
 | x::xs=>.tup [.int k,x]::enP (k+1) xs
theorem pb:∀(k:Int) (xs:List PV) (i:Nat),(enP k xs)[i]?=(xs[i]?).map fun x=>.tup [.int (k+i),x]
 | _,[],i | k,x::xs,0=>by simp[enP]
 | k,x::xs,i+1=>by
  simp only[enP,List.getElem?_cons_succ,pb (k+1) xs i]
  congr 1
  funext y
  congr 3
  omega
theorem o_:∀(k:Int) (xs:List PV),(enP k xs).length=xs.length
 | _,[]=>rfl
 | k,_::xs=>by simp[enP,o_ (k+1) xs]
def yY(m:ME):MI:=fun env=>(m env).bind fun x=>match x with
 | .lst f xs=>if !f.isLnt&&gq xs then .ok (enP 1 xs)else .stuck
 | .tup xs=>if gq xs then .ok (enP 1 xs)else .stuck
 | _=>.stuck
section
variable{X:Cx}{T:Tb}{W:Nat->St->Hp->Prop}{Z:Zn}{F F1 B L:Addr->Prop}{H H1:Hp}{σ:St}{env:En}{fp:Nat->List Addr}
theorem rz(hp:H2 p=none)(r:Rel T F B L H2 x v f):Rel T F B L (upd H2 p (.tup [.int k,v])) (.tup [.int k,x]) (.ref p) f:=by
 unfold Rel
 refine⟨p,_,rfl,SqT.of aX,?_⟩
 have r2:Rel T F B L (upd H2 p (.tup [.int k,v])) x v f:=r.ext (Ext.upd hp) fun _ h=>h
 unfold RelL
 refine⟨.int k,[v],[],f,rfl,cX,?_,rfl⟩
 unfold RelL
 exact⟨v,[],f,[],rfl,r2,by unfold RelL;exact⟨rfl,rfl⟩,by simp⟩
theorem uo{x1}(hK:X.K=T.K)(hg:Gl X "enumerate")(hm:X.mg "enumerate" = none)(he:SE X T W e m)(hs:starEach [e] X.env=[(false,eval e X.env)]:=by rfl) :
  SI X T W (.Tuple els x1 tpos) (enE e p pos kp cp j) (yY m):=fun pins s σ H R I h=>uX hg hm he hs pins s σ H R I (by
 obtain⟨Z,F,env,fp,S,q⟩:=h
 unfold yY at q
 refine tE.bind S (fun c e=>by rw[e]at q;exact q) (fun e=>by rw[e]at q;exact q) fun x v H1 F1 f1 e1 g1 r1 n1 d1 w1=>?_
 rw[e1]at q
 simp only[Res.ok_bind]at q
 have S1:=S.grow g1
 rw[hK]
 have key:∀(tp:Bool) (a:Addr) (xs:List PV) (vs:List V),RelL T F1 Z.B NoL H1 xs vs []->(∀H2,(∀a o,H1 a=some o->¬Own fp a->H2 a=some o)->Sq tp T.K H2 a vs)->ItR T F1 Z.B (Own fp) H1 (Ite tp T.K 1 a) (enP 1 xs):=by
  intro tp a xs vs hr hq H2 hk
  have hq2:=hq H2 hk
  refine⟨fun i x ex=>?_,⟨vs,hq2,by rw[o_,hr.length];exact Nat.le_refl _⟩⟩
  rw[pb]at ex
  obtain⟨y,ey,rfl⟩:=Option.map_eq_some_iff.mp ex
  obtain⟨v,_,ev,_,_⟩:=hr.get ey
  refine⟨⟨vs,v,hq2,ev⟩,fun w H3 hy=>?_⟩
  obtain⟨p,y',hp,rfl,rfl,hall⟩:=hy
  have:=hall vs hq2
  rw[ev]at this
  cases this
  exact⟨Ext.upd hp,rz hp (fW S1.fow S1.bow S1.oow hk hr ey ev)⟩
 cases x with
 | lst f xs =>
  dsimp only at q
  by_cases hc:(!f.isLnt&&gq xs)=true
  ·rw[if_pos hc]at q
   rw[Bool.and_eq_true]at hc
   unfold Rel at r1
   obtain⟨a,vs,fp',rfl,hl,hr,hf⟩:=r1
   obtain⟨rfl,hr'⟩:=gn hc.2 hr
   refine⟨a,false,vs,rfl,hl.sq,q _ H1 F1 g1 (key false a xs vs hr' fun H2 hk=>?_)⟩
   have na:f≠.mod->∀o,H1 a=some o->H2 a=some o:=fun hn o ho=>by
    refine hk a o ho ?_
    cases f with
    | own =>
     rintro⟨i,hi⟩
     obtain⟨_,o',ho'⟩:=S.dis i a hi
     obtain rfl:f1=[a]:=hf
     rw[w1 a List.mem_cons_self]at ho';cases ho'
    | frz=>exact S1.fow a hl.1
    | bor=>exact S1.bow a hl.1
    | lnt=>exact absurd hc.1 (by decide)
    | mod=>exact absurd rfl hn
   show SqL T.K H2 a vs
   by_cases hn:f=.mod
   ·subst hn;exact .inr hl
   ·exact .inl (Rd.tr (na hn) (hl.rd hn))
  ·rw[if_neg hc]at q;exact q.elim
 | tup xs =>
  dsimp only at q
  by_cases hc:gq xs=true
  ·rw[if_pos hc]at q
   unfold Rel at r1
   obtain⟨a,vs,rfl,hl,hr⟩:=r1
   obtain⟨rfl,hr'⟩:=gn hc hr
   refine⟨a,true,vs,rfl,hl,q _ H1 F1 g1 (key true a xs vs hr' fun H2 hk=>?_)⟩
   exact SqT.tr (fun o ho hfx=>hk a o ho fun z=>by
    have:=S1.oow a o z ho
    cases o with
    | lst _ | ins _ _ _=>exact hfx
    | _=>exact this) hl
  ·rw[if_neg hc]at q;exact q.elim
 | _=>exact q.elim)
end
section
variable{X:Cx}{T:Tb}{W:Nat->St->Hp->Prop}{Z:Zn}{F F1 B L:Addr->Prop}{H H1:Hp}{σ:St}{env:En}{fp:Nat->List Addr}{D:Ends}
theorem RelL.erase:∀{xs:List PV}{ws:List V} (n:Nat),RelL T F B L H xs ws []->RelL T F B L H (xs.eraseIdx n) (ws.eraseIdx n) []
 | [],ws,n,h=>by
  unfold RelL at h
  obtain⟨rfl,_⟩:=h
  simpa using eJ F B L H
 | x::xs,ws,n,h=>by
  unfold RelL at h
  obtain⟨w,ws,f1,f2,rfl,h1,h2,e⟩:=h
  obtain⟨rfl,rfl⟩:=List.append_eq_nil_iff.mp e.symm
  cases n with
  | zero=>simpa using h2
  | succ n =>
   rw[List.eraseIdx_cons_succ,List.eraseIdx_cons_succ]
   unfold RelL
   exact⟨w,_,[],[],rfl,h1,RelL.erase n h2,rfl⟩
end
open AutoSeq1 (wpAny_loadPart')
open AutoSeq1 (wpAny_loadPart')
def mv(P:Params):List DictEntry->List (Str×Int)->Prop
 | [],[]=>True
 | e::es,kv::kvs=>(∃t u,e=⟨PyData.keyHash P kv.1,.str kv.1 t,.int kv.2 u⟩)/\mv P es kvs
 | _,_=>False
structure fG(w:World)(K:PySem.W.Frag)(d:Addr)(kvs:List (Str×Int)):Prop where
 ne:(d==sysModules)=false
 ex:∃(es:List DictEntry) (ep:Nat),K.lookup d=some { cls:=.type "dict", dict:=none,data:=.dict es.toArray ep,slots:=#[] }/\mv w.params es kvs
def look(kvs:List (Str×Int))(k:Str):Option Int:=(kvs.find? fun p=>p.1==k).map (·.2)
def CF(f:Str->Option Value)(kvs:List (Str×Int)):Prop:=∀k,match look kvs k with
 | some i=>∃u,f k=some (.int i u)
 | none=>f k=none
theorem o9:∀{es:List DictEntry}{kvs:List (Str×Int)},mv P es kvs->CF (fun k=>(es.find? fun e=>Value.isStrOf k e.key).map (·.val)) kvs
 | [],[],_=>fun k=>rfl
 | [],_::_,h | _::_,[],h=>h.elim
 | e::es,kv::kvs,h=>fun k=>by
  obtain⟨⟨t,u,rfl⟩,h2⟩:=h
  have ih:=o9 h2 k
  simp only[look,List.find?_cons,Value.isStrOf]at ih ⊢
  by_cases q:(kv.1==k)=true
  ·simp only[q,Option.map_some]
   exact⟨u,rfl⟩
  ·simp only[q]
   exact ih
theorem mt:∀{es:List DictEntry}{kvs:List (Str×Int)},mv P es kvs->∀e∈es,∃k t,e.key=.str k t/\e.hash=PyData.keyHash P k
 | [],_,_=>fun e he=>nomatch he
 | _::_,[],h=>h.elim
 | e::es,kv::kvs,h=>fun e' he=>by
  obtain⟨⟨t,u,rfl⟩,h2⟩:=h
  rcases List.mem_cons.mp he with rfl | he
  ·exact⟨kv.1,t,rfl,rfl⟩
  ·exact mt h2 e' he
theorem fG.map(hD:fG w K d kvs)(hI:K.In h):∃f,h.MapOf (strKind prog w) d f/\CF f kvs:=by
 obtain⟨es,ep,hl,he⟩:=hD.ex
 refine⟨_,⟨_,es.toArray,ep,hI _ _ hl,⟨rfl,rfl,rfl⟩,rfl,fun e hm=>?_,fun k=>rfl⟩,?_⟩
 ·obtain⟨k,t,h1,h2⟩:=mt he e (by simpa using hm)
  refine⟨k,?_,h2⟩
  rw[h1]
  show(k==k)=true
  simp
 ·intro k
  have:=o9 he k
  simpa[findBy,strKind]using this
section
variable{X:Cx}{T:Tb}{W:Nat->St->Hp->Prop}{Z:Zn}{F F1 B L:Addr->Prop}{H H1:Hp}{σ:St}{env:En}{fp:Nat->List Addr}{d:Addr}{kvs:List (Str×Int)}
def oG(d:Addr)(kvs:List (Str×Int)):R2:=fun x y H Q=>∃k,x=.str k/\y=.ref d/\Q (.bl (!(look kvs k).isSome)) H
theorem yh(hD:fG X.w X.K d kvs):OpR X (compareOp .NotIn) (oG d kvs):=by
 intro pins s σ H x y v u Q I rx ry h
 obtain⟨k,rfl,rfl,q⟩:=h
 obtain⟨t,rfl⟩:=rx
 cases ry
 obtain⟨f,hm,hf⟩:=hD.map (prog:=X.prog) I.kIn
 refine wpAny_notIn_of (knd:=strKind X.prog X.w) (k:=k) (by show(k==k)=true;simp) hD.ne hm ⟨.bl (!(look kvs k).isSome),H,I.tok _,?_,q⟩
 have:=hf k
 cases e:look kvs k with
 | none=>rw[e]at this;rw[show f k=none from this];rfl
 | some i =>
  rw[e]at this
  obtain⟨u,hu⟩:=this
  rw[hu]
  rfl
def wo(d:Addr)(kvs:List (Str×Int)):R2:=fun x y H Q=>∃k i,x=.ref d/\y=.str k/\look kvs k=some i/\Q (.int i) H
theorem vC(hD:fG X.w X.K d kvs):IxR X (wo d kvs):=by
 intro value slice pins s σ H x y v u Q I rx ry h hs
 obtain⟨k,i,rfl,rfl,e,q⟩:=h
 cases rx
 obtain⟨t,rfl⟩:=ry
 obtain⟨f,hm,hf⟩:=hD.map (prog:=X.prog) I.kIn
 have:=hf k
 rw[e]at this
 obtain⟨u,hu⟩:=this
 exact PyProof.Rows.subscriptTail_builtinR (x:=.int i u) hm.typeIs PySem.F.slot_dict_getitem.lookup
  (wpAny_getItem_of (knd:=strKind X.prog X.w) (k:=k) (Q:=fun r s'=>r=.int i u/\EP X pins σ Q r s') (by show(k==k)=true;simp) hm hu ⟨rfl,.int i,H,I.tok _,⟨u,rfl⟩,q⟩) hs
def kF(kvs:List (Str×Int)):PV->Res PV
 | .str k=>.ok (.bl (!(look kvs k).isSome))
 | _=>.stuck
def lK(kvs:List (Str×Int)):PV->Res PV
 | .str k=>(match look kvs k with
  | some i=>.ok (.int i)
  | none=>.stuck)
 | _=>.stuck
theorem nv:wa T W (kF kvs) (fun x H Q=>oG d kvs x (.ref d) H Q):=by
 intro B F L σ H Q F' H' x v fx g rx nf nd new q
 cases x with
 | str k =>
  unfold Rel at rx
  exact⟨k,rx.1,rfl,q.scal g eV⟩
 | _=>exact q.elim
theorem sD:wa T W (lK kvs) (fun x H Q=>wo d kvs (.ref d) x H Q):=by
 intro B F L σ H Q F' H' x v fx g rx nf nd new q
 cases x with
 | str k =>
  unfold Rel at rx
  unfold lK at q
  dsimp only at q
  cases e:look kvs k with
  | none=>rw[e]at q;exact q.elim
  | some i=>rw[e]at q;exact⟨k,i,rfl,rx.1,e,q.scal g cX⟩
 | _=>exact q.elim
theorem oy(hg:Gl X x)(hm:X.mg x=some (.ref d))(hD:fG X.w X.K d kvs)(he:SE X T W e m)(hs:gI e)(hd:(x ==("__debug__" : Str))=false:=by decide):SE X T W (.Subscript (.Name x px) e pos) (mUn (lK kvs) m) :=
 PE.wk (wq (pos:=pos) (vC hD) (d_ (v:=.ref d) (pos:=px) hg hm rfl hd) he hs) fun _ _ _ h=>tE.mir1 sD h
theorem pA(hg:Gl X x)(hm:X.mg x=some (.ref d))(hD:fG X.w X.K d kvs)(he:SE X T W e m)(hd:(x ==("__debug__" : Str))=false:=by decide):ST X T W (.Compare e [.NotIn] [.Name x px] pos) (ar (mUn (kF kvs) m)) :=
 PT.wk (kD (pos:=pos) (yh hD) he (d_ (v:=.ref d) (pos:=px) hg hm rfl hd) rfl) fun σ H Q h=>by
  obtain⟨Z,F,env,fp,S,q⟩:=tT.test h
  exact tE.mir1 nv ⟨Z,F,env,fp,S,q⟩
end
def nB(i j:Nat):MS:=fun env=>match env[i]?,env[j]? with
 | some (some v),some (some w)=>if i=j then .stuck else .ret (.tup [v,w])
 | _,_=>.stuck
section
variable{X:Cx}{T:Tb}{W:Nat->St->Hp->Prop}{Z:Zn}{F F1 B L:Addr->Prop}{H H1:Hp}{σ:St}{env:En}{fp:Nat->List Addr}{D:Ends}
theorem qH{x1}(hN:X.N[i]?=some x)(hv:Vis X.env.scope x)(hN2:X.N[j]?=some y)(hv2:Vis X.env.scope y)(hd:(x ==("__debug__" : Str))=false:=by decide)(hcd:(x ==("__classdict__" : Str))=false:=by decide)(hd2:(y ==("__debug__" : Str))=false:=by decide)(hcd2:(y ==("__classdict__" : Str))=false:=by decide) :
  SS X T W (.Return (some (.Tuple [.Name x px,.Name y py] x1 tpos)) pos) (nB i j) :=
 PS.wk (m8 (pos:=pos) (rQ (pos:=tpos) (cZ (te:=ue i) (dO (pos:=px) hN hv hd hcd) (cZ (te:=ue j) (dO (pos:=py) hN2 hv2 hd2 hcd2) gT)))) fun D σ H ⟨Z,F,env,fp,S,q⟩=>by
  unfold nB at q
  split at q
  case h_2=>exact q.elim
  rename_i pv pw ei ej
  split at q
  case isTrue=>exact q.elim
  rename_i hij
  obtain⟨v,e1,r1⟩:=S.rel i pv ei
  obtain⟨w,e2,r2⟩:=S.rel j pw ej
  refine⟨v,e1,w,e2,qO (by simp),fun p hp=>?_⟩
  have g:Gr F H F (upd H p (.tup [v,w])):=Gr.same S.hp.ft (Ext.upd hp)
  have S2:=S.grow g
  obtain⟨v',e1',r1'⟩:=S2.rel i pv ei
  obtain⟨w',e2',r2'⟩:=S2.rel j pw ej
  rw[e1]at e1'
  cases e1'
  rw[e2]at e2'
  cases e2'
  refine q F (upd H p (.tup [v,w])) (.ref p) (fp i++fp j) S2.hp ?_ (List.nodup_append.mpr ⟨S.nd i,S.nd j,fun a ha b hb z=>?_⟩) (fun a ha=>?_) (fun a ha=>?_)
  ·unfold Rel
   refine⟨p,_,rfl,SqT.of aX,?_⟩
   unfold RelL
   refine⟨v,[w],fp i,fp j,rfl,r1',?_,rfl⟩
   unfold RelL
   exact⟨w,[],fp j,[],rfl,r2',by unfold RelL;exact⟨rfl,rfl⟩,by simp⟩
  ·subst z
   exact S.dj i j hij a ha hb
  ·rcases List.mem_append.mp ha with h | h
   ·exact(S2.dis i a h).1
   ·exact(S2.dis j a h).1
  ·rcases List.mem_append.mp ha with h | h
   ·exact S.new i a h
   ·exact S.new j a h
end
section
variable{P:Program}{w:World}{mg:Str->Option Value}{base:Heap}{T:Tb}
theorem ze(F:Fun T.K x qual st f fd)(S:bT N ps (au st))
  (body:∀ (cdv:Value) (A:Around) (outer:List Env) (s:Shared) (H:Hp) (E:XK),Ctx (cz (CXP P w) P w T.K mg base N qual (au st) f cdv A outer s H E) T (WD T E) k ->
   SSs (cz (CXP P w) P w T.K mg base N qual (au st) f cdv A outer s H E) T (WD T E) (aV st) m):bH P w T.K mg base (CXP P w) (k+1) f fd ps (spM T ps.length (aR N.length m)) :=
 BI F S fun cdv A outer s H E hr=>body cdv A outer s H E (kU hr)
theorem vM(F:Fun T.K x qual st f fd)(S:bT N ps (au st))
  (body:∀ (cdv:Value) (A:Around) (outer:List Env) (s:Shared) (H:Hp) (E:XK),Ctx (cz (CXP P w) P w T.K mg base N qual (au st) f cdv A outer s H E) T (WD T E) k ->
   SSs (cz (CXP P w) P w T.K mg base N qual (au st) f cdv A outer s H E) T (WD T E) (aV st) m):bH P w T.K mg base (CXP P w) (k+1) f fd ps (spI T ps.length (gN N.length m)) :=
 zf F S fun cdv A outer s H E hr=>body cdv A outer s H E (kU hr)
end
section
variable{X:Cx}{T:Tb}{W:Nat->St->Hp->Prop}{Z:Zn}{F F1 F' B L:Addr->Prop}{H H1 H':Hp}{σ:St}{env:En}{fp:Nat->List Addr}{js:List Nat}{t:Nat}
def AL(js:List Nat)(t:Nat)(σ:St)(env:En):Prop:=∀j∈js,env[j]?=some none->σ[j]?=σ[t]?
theorem AL.set{i:Nat}{v:V}{pv:PV}(h:AL js t σ env)(hi:i≠t):AL js t (σ.set i (some v)) (env.set i (some pv)):=fun j hj e=>by
 by_cases q:i=j
 ·subst q
  exfalso
  rw[List.getElem?_set]at e
  by_cases z:i < env.length<;>simp[z]at e
 ·rw[List.getElem?_set_ne q]at e ⊢
  rw[List.getElem?_set_ne hi]
  exact h j hj e
def GSA(T:Tb)(W:Nat->St->Hp->Prop)(js:List Nat)(t:Nat)(Z:Zn)(D:Ends):Out->Prop
 | .next e=>∀F H σ fp,aw T Z F H σ e fp->AL js t σ e->D.nx σ H
 | .ret pv=>GS T W Z D (.ret pv)
 | .brk e=>GS T W Z D (.brk e)
 | .cont e=>GS T W Z D (.cont e)
 | .exc c e=>GS T W Z D (.exc c e)
 | .stuck=>False
theorem GSA.of(h:GS T W Z D o):GSA T W js t Z D o:=by
 cases o with
 | next e=>exact fun F H σ fp S _=>h F H σ fp S
 | _=>exact h
end
section
variable{X:Cx}{T:Tb}{W:Nat->St->Hp->Prop}{Z:Zn}{F F1 B L:Addr->Prop}{H H1:Hp}{σ:St}{env:En}{fp:Nat->List Addr}
theorem ly:Rel T F B L H (.str x) (.str x) []:=by unfold Rel;exact⟨rfl,rfl⟩
def lJ(C:Str->Str->Bool)(g:Str->Str->PV):PV->PV->Res PV
 | .str i,.str j=>if C i j then .ok (g i j)else .stuck
 | _,_=>.stuck
theorem sE{C:Str->Str->Prop}{C':Str->Str->Bool}{g:Str->Str->V}{g':Str->Str->PV}(hc:∀i j,C' i j=true->C i j)(hg:∀i j F B L H,Rel T F B L H (g' i j) (g i j) []):gJ T W (lJ C' g') (fun x y H Q=>∃i j,x=.str i/\y=.str j/\C i j/\Q (g i j) H):=by
  intro B F L σ H Q F' H' x y v u fx fy gr rx ry _ _ _ q
  cases x<;>cases y<;>first
    | exact q.elim
    | (unfold Rel at rx ry
       simp only[lJ]at q
       split at q
       . rename_i hh
         exact⟨_,_,rx.1,ry.1,hc _ _ hh,q.scal gr (hg _ _ _ _ _ _)⟩
       . exact q.elim)
def inS(i j:Str):Bool:=!(Builtin.Str.occurrences j i 0 j.length 1).isEmpty
theorem yn:OpR X (compareOp .In) (fun x y H Q=>∃i j,x=.str i/\y=.str j/\True/\Q (.bl (inS i j)) H):=by
 intro pins s σ H x y v u Q I rx ry h
 obtain⟨i,j,e1,e2,_,q⟩:=h
 exact pU pins s σ H x y v u Q I rx ry ⟨i,j,e1,e2,q⟩
def AQ:PV->PV->Res PV:=lJ (fun _ _=>true) fun i j=>.bl (inS i j)
theorem ve:OpR X (binaryOp .Add) (fun x y H Q=>∃i j,x=.str i/\y=.str j/\i.length+j.length<=sizeLine/\Q (.str (i++j)) H):=nk
def jb:PV->PV->Res PV:=lJ (fun i j=>decide (i.length+j.length<=10000)) fun i j=>.str (i++j)
theorem oA(ha:SE X T W a ma)(hb:SE X T W b mb):SE X T W (.BinOp a .Add b pos) (mOp jb ma mb) :=
 lu ve (sE (fun i j h=>by rw[sizeLine_eq];have:=of_decide_eq_true h;omega) fun _ _ _ _ _ _=>ly) ha hb
def Du(x:Str)(n:Nat):Str:=⟨(List.replicate n x.cps).foldl (·++·) #[]⟩
def Eo:PV->PV->Res PV
 | .str x,.int n=>if 0 < x.length/\x.length<=1000/\1 < n/\n<=1000 then .ok (.str (Du x n.toNat))else .stuck
 | _,_=>.stuck
theorem xA(ha:SE X T W a ma)(hb:SE X T W b mb)(hk:behindInMarks .In b=false:=by with_unfolding_all rfl):SE X T W (.Compare a [.In] [b] pos) (mOp AQ ma mb):=iU yn (sE (fun _ _ _=>True.intro) fun _ _ _ _ _ _=>eV) ha hb hk
def ij(C:Str->Bool)(g:Str->PV):PV->Res PV
 | .str i=>if C i then .ok (g i)else .stuck
 | _=>.stuck
theorem sF{C:Str->Prop}{C':Str->Bool}{g:Str->V}{g':Str->PV}(hc:∀i,C' i=true->C i)(hg:∀i F B L H,Rel T F B L H (g' i) (g i) []):Mir T W (p1 (ij C' g')) (fun xs H Q=>∃i,xs=[.str i]/\C i/\Q (g i) H):=by
  intro B F L σ H Q F' H' xs vs fx gr r _ _ _ q
  cases xs with
  | nil=>exact q.elim
  | cons x xs =>
    cases xs with
    | cons _ _=>exact q.elim
    | nil =>
      obtain⟨v,rfl,rv⟩:=r.one
      cases x<;>first
        | exact q.elim
        | (unfold Rel at rv
           simp only[p1,ij]at q
           split at q
           . rename_i hh
             obtain⟨rfl,_⟩:=rv
             exact⟨_,rfl,hc _ hh,q.scal gr (hg _ _ _ _ _)⟩
           . exact q.elim)
theorem ou(hg:Gl X "len")(hm:X.mg "len" = none)(ha:SE X T W e m)(he:starEach [e] X.env=[(false,eval e X.env)]:=by rfl):SE X T W (.Call (.Name "len" p) [e] [] pos) (ao (p1 (ij (fun z=>decide (z.length<=10000)) fun z=>.int z.length)) (aa m aj)) :=
 dg k6 (sF (C:=fun z=>z.length<=sizeLine) (g:=fun z=>.int z.length) (fun z h=>by rw[sizeLine_eq];have:=of_decide_eq_true h;omega) fun _ _ _ _ _=>cX) hg hm PySem.boot_len (ac ha ag he) (he:=he)
theorem ql:cb X (.type "int") (fun xs H Q=>∃z,xs=[.str z]/\(z.length<=640/\(PySem.intText? z).isSome)/\Q (.int ((PySem.intText? z).getD 0)) H):=by
 intro pins s σ H xs us Q I r h
 obtain⟨z,rfl,⟨hl,hi⟩,q⟩:=h
 obtain⟨u,rfl,ru⟩:=aI.one r
 obtain⟨t,rfl⟩:=ru
 obtain⟨n,hn⟩:=Option.isSome_iff_exists.mp hi
 rw[hn]at q
 exact PySem.W.KIN.call_text hn hl ⟨.int n,H,I.tok _,⟨_,rfl⟩,q⟩
theorem v5:bootBuiltins "int" = some (.type "int"):=by decide +kernel
theorem ph:bootBuiltins "str" = some (.type "str"):=by decide +kernel
theorem ox(hg:Gl X "int")(hm:X.mg "int" = none)(ha:SE X T W e m)(he:starEach [e] X.env=[(false,eval e X.env)]:=by rfl):SE X T W (.Call (.Name "int" p) [e] [] pos) (ao (p1 (ij (fun z=>decide (z.length<=640)&&(PySem.intText? z).isSome) fun z=>.int ((PySem.intText? z).getD 0))) (aa m aj)) :=
 c_ ql (sF (fun z h=>by simpa using h) fun _ _ _ _ _=>cX) hg hm v5 (ac ha ag he) (he:=he)
def lI:PV->Res PV
 | .int i=>if i.natAbs < 2 ^ 1000 then .ok (.str (PySem.Str.ofString (toString i)))else .stuck
 | _=>.stuck
theorem lO:Mir T W (p1 lI) (fun xs H Q=>∃i,xs=[.int i]/\i.natAbs.log2 < 1920/\Q (.str (toString i)) H):=by
  intro B F L σ H Q F' H' xs vs fx gr r _ _ _ q
  cases xs with
  | nil=>exact q.elim
  | cons x xs =>
    cases xs with
    | cons _ _=>exact q.elim
    | nil =>
      obtain⟨v,rfl,rv⟩:=r.one
      cases x<;>first
        | exact q.elim
        | (unfold Rel at rv
           simp only[p1,lI]at q
           split at q
           . rename_i i hh
             obtain⟨rfl,_⟩:=rv
             refine⟨i,rfl,?_,q.scal gr ly⟩
             by_cases h0:i.natAbs=0
             . rw[h0];decide
             . exact Nat.lt_trans ((Nat.log2_lt h0).mpr hh) (by decide)
           . exact q.elim)
theorem uw(hg:Gl X "str")(hm:X.mg "str" = none)(ha:SE X T W e m)(he:starEach [e] X.env=[(false,eval e X.env)]:=by rfl):SE X T W (.Call (.Name "str" p) [e] [] pos) (ao (p1 lI) (aa m aj)) :=
 c_ gG lO hg hm ph (ac ha ag he) (he:=he)
def uL:V->List V->Hp->VK->Prop:=fun x vs H Q=>∃z y,x=.str z/\vs=[.str y]/\Q (.bl (PySem.Txt.startswith z y)) H
theorem pW:MtM X "str.startswith" uL:=by
 intro pins s σ H x vs v us Q I rx rv h
 obtain⟨z,y,rfl,rfl,q⟩:=h
 obtain⟨t,rfl⟩:=rx
 obtain⟨u,rfl,ru⟩:=aI.one rv
 obtain⟨t2,rfl⟩:=ru
 exact PySem.SC.startswith ⟨.bl _,H,I,rfl,q⟩
def c9(mo mk:ME):ME:=fun env=>(mo env).bind fun x=>match x,mk env with
 | .str z,.ok (.str y)=>.ok (.bl (PySem.Txt.startswith z y))
 | _,_=>.stuck
theorem gM(ho:SE X T W o mo)(hk:SE X T W k mk)(hbase:attributeBase o "startswith" X.env (eval o X.env)=eval o X.env:=by rfl)
  (hst:starEach [k] X.env=[(false,eval k X.env)]:=by rfl)
  (hfew:((backTo cpos (starEach [k] X.env)).all (fun x=>!x.1)&&(backToKw cpos (keywordEach [] X.env)).all (fun x=>x.1.isSome)&&decide ([k].length+([]:List Keyword).length+(if([]:List Keyword).isEmpty then 0 else 1) < 30))=true:=by rfl)
  (hline:(apos.endLine==cpos.line)=true:=by rfl):SE X T W (.Call (.Attribute o "startswith" apos) [k] [] cpos) (c9 mo mk) :=
 PE.wk (oJ (cpos:=cpos) (apos:=apos) PySem.F.plainAttrs_str PySem.F.slot_str_startswith PySem.F.type_str_startswith pW ho (ac hk ag hst) hbase hfew hline hst) fun σ H Q ⟨Z,F,env,fp,S,q⟩=>by
  unfold c9 at q
  refine tE.bind S (fun c e=>by rw[e]at q;exact q) (fun e=>by rw[e]at q;exact q) fun pv v H1 F1 f1 e1 g1 r1 n1 d1 w1=>?_
  rw[e1]at q
  simp only[Res.ok_bind]at q
  have S1:=S.grow g1
  split at q
  ·rename_i z y em
   unfold Rel at r1
   obtain⟨rfl,_⟩:=r1
   refine⟨rfl,Z,F1,env,fp,S1,?_⟩
   unfold aa aj
   rw[em]
   intro vs H2 F2 f2 g2 r2 n2 d2 w2
   obtain⟨u,rfl,ru⟩:=r2.one
   unfold Rel at ru
   obtain⟨rfl,_⟩:=ru
   exact⟨_,_,rfl,rfl,GE.scal q (g1.trans g2) eV⟩
  ·exact q.elim
def Its(x:Str):It:=⟨fun i _=>i < x.cps.size,fun i H v H'=>H'=H/\∃c,x.cps[i]?=some c/\v=.str ⟨#[c]⟩,fun i _=>x.cps.size<=i⟩
theorem qy(x:Str)(t:Tok)(it:Addr):qr P w K tg (Its x) [it] it (fun i h=>h.IsStrIter it "str_ascii_iterator" x t i) where
 mem:=by simp
 obj:=fun i h st b hb=>by
  have e:b=it:=by simpa using hb
  subst e
  obtain⟨o,e,c,d⟩:=st
  exact⟨o,e,fun v z=>by rw[d]at z;cases z⟩
 keep:=fun i h h' st k=>by
  obtain⟨o,e,r⟩:=st
  exact⟨o,k it (by simp) o e,r⟩
 item:=by
  intro X hP hw hK hc i pins s σ H E I hf st hg
  subst hP hw hK
  obtain⟨f0,f1,f2,f3,f4,f5⟩:=hf it (by simp)
  have hg':i < x.cps.size:=hg
  refine wpAny_pyNext_ascii_item st (c:=x.cps[i]) (by simp[hg']) fun h' st' sb=>?_
  have I1:Inv X pins σ H { s with heap:=h',toks:=s.toks+1 }:=I.turned (t':=s.toks+1) (fun b o hb e=>sb.extBut b o hb e) f0 f1 f3 f4 f5
  obtain⟨o,e,c,d⟩:=id st'
  exact⟨_,rfl,oU (s:={ s with heap:=h',toks:=s.toks+1 }) e c d (by decide) ⟨.str ⟨#[x.cps[i]]⟩,H,I1,⟨_,rfl⟩,⟨rfl,_,by simp[hg'],rfl⟩,st',fun b hb=>(hf b hb).1⟩⟩
 done:=by
  intro X hP hw hK hc i pins s σ H E I hf st hg
  subst hP hw hK
  obtain⟨f0,f1,f2,f3,f4,f5⟩:=hf it (by simp)
  have hg':x.cps.size<=i:=hg
  exact wpAny_pyNext_ascii_end (I.ok.hd hc) st (by simp[hg']) fun h' eb=>⟨rfl,I.turned (t':=s.toks) (fun b o hb e=>eb b o hb e) f0 f1 f3 f4 f5⟩
 self:=fun _ _ _ _ _ st h=>wpAny_pyIter_striter_ascii st h
def asc(x:Str):Bool:=x.cps.all (· < 128)
theorem xX(hl:PE X l tl):PI X tg l (fun σ H R=>tl σ H fun x H1=>∃z,x=.str z/\asc z=true/\R (Its z) H1):=by
 intro pins s σ H R I h
 refine thn (hl pins s σ H _ I h) fun v s1 ⟨x,H1,I1,r1,q1⟩=>?_
 obtain⟨z,rfl,ha,q⟩:=q1
 obtain⟨t,rfl⟩:=r1
 refine wpAny_pyIter_ascii ha ?_
 refine⟨s1.heap.objs.size,[s1.heap.objs.size],_,_,H1,rfl,I1.kept (t':=s1.toks) fun b o e=>Heap.get?_push_of_some _ e,qy z t _,⟨_,Heap.get?_push_size _ rfl,rfl,rfl⟩,fun b hb=>?_,q⟩
 have e:b=s1.heap.objs.size:=by simpa using hb
 subst e
 exact I1.fpOk (Nat.le_refl _) (I1.hok.fresh (Nat.le_refl _))
def oi(z:Str):List PV:=z.cps.toList.map fun c=>.str ⟨#[c]⟩
def oM(m:ME):MI:=fun env=>(m env).bind fun x=>match x with
 | .str z=>if asc z then .ok (oi z)else .stuck
 | _=>.stuck
theorem oj(he:SE X T W e m):SIc X T W tg e (oM m):=fun pins s σ H R I h=>xX he pins s σ H R I (by
 obtain⟨Z,F,env,fp,S,q⟩:=h
 unfold oM at q
 refine tE.bind S (fun c e=>by rw[e]at q;exact q) (fun e=>by rw[e]at q;exact q) fun x v H1 F1 f1 e1 g1 r1 n1 d1 w1=>?_
 rw[e1]at q
 simp only[Res.ok_bind]at q
 cases x with
 | str z =>
  dsimp only at q
  split at q
  ·rename_i ha
   unfold Rel at r1
   refine⟨z,r1.1,ha,q _ H1 F1 g1 (ItC.of0 fun H2 hx=>⟨fun i x ex=>?_,?_⟩)⟩
   ·unfold oi at ex
    rw[List.getElem?_map]at ex
    obtain⟨c,hc,rfl⟩:=Option.map_eq_some_iff.mp ex
    have hc':z.cps[i]?=some c:=by simpa using hc
    refine⟨?_,fun v H3 hy=>⟨hy.1,[],?_⟩⟩
    ·have:=(Array.getElem?_eq_some_iff.mp hc').1
     exact this
    ·obtain⟨_,d,hd,rfl⟩:=hy
     rw[hc']at hd
     cases hd
     exact ly
   ·show z.cps.size <=(oi z).length
    simp[oi]
  ·exact q.elim
 | _=>exact q.elim)
def Dv:V->Option Int->Option Int->Hp->VK->Prop:=fun x lo hi H Q=>∃z,x=.str z/\z.length<=sizeLine/\Q (.str (PySem.Txt.slice z lo hi)) H
theorem xt:SlR X Dv:=by
 intro pins s σ H x v vl vu lo hi sl Q I rx hs pl pu h
 obtain⟨z,rfl,hz,q⟩:=h
 obtain⟨t,rfl⟩:=rx
 refine⟨"str", _,PySem.F.slot_str_getitem.lookup,typeIs_str _ _ _,?_⟩
 cases pl with
 | none =>
  cases pu with
  | none=>exact wpAny_getItem_str_slice (l:=none) (u:=none) (st:=none) hs rfl (post_val_or_str ⟨Nat.le_trans (Txt.slice_le z _ _) hz,fun t' k=>⟨.str _,H,I.tok _,⟨_,rfl⟩,q⟩⟩)
  | int j uj=>exact wpAny_getItem_str_slice (l:=none) (u:=some (j,uj)) (st:=none) hs rfl (post_val_or_str ⟨Nat.le_trans (Txt.slice_le z _ _) hz,fun t' k=>⟨.str _,H,I.tok _,⟨_,rfl⟩,q⟩⟩)
 | int i ui =>
  cases pu with
  | none=>exact wpAny_getItem_str_slice (l:=some (i,ui)) (u:=none) (st:=none) hs rfl (post_val_or_str ⟨Nat.le_trans (Txt.slice_le z _ _) hz,fun t' k=>⟨.str _,H,I.tok _,⟨_,rfl⟩,q⟩⟩)
  | int j uj=>exact wpAny_getItem_str_slice (l:=some (i,ui)) (u:=some (j,uj)) (st:=none) hs rfl (post_val_or_str ⟨Nat.le_trans (Txt.slice_le z _ _) hz,fun t' k=>⟨.str _,H,I.tok _,⟨_,rfl⟩,q⟩⟩)
def kN(o:ME)(lo hi:MO):ME:=fun env=>(o env).bind fun x=>(lo env).bind fun l=>(hi env).bind fun h=>match x with
 | .str z=>if z.length<=10000 then .ok (.str (PySem.Txt.slice z l h))else .stuck
 | _=>.stuck
theorem pE(he:SE X T W e m)(hl:SO X T W lo ml)(hu:SO X T W hi mh):SE X T W (.Subscript e (.Slice lo hi none p2) pos) (kN m ml mh) :=
 PE.wk (lF (pos:=pos) (p2:=p2) xt he hl hu) fun σ H Q ⟨Z,F,env,fp,S,q⟩=>by
  unfold kN at q
  refine tE.bind S (fun c e=>by rw[e]at q;exact q) (fun e=>by rw[e]at q;exact q) fun x v H1 F1 f1 e1 g1 r1 n1 d1 w1=>?_
  rw[e1]at q
  simp only[Res.ok_bind]at q
  refine⟨Z,F1,env,fp,S.grow g1,?_⟩
  cases e2:ml env with
  | exc c=>rw[e2]at q;exact fun H' x=>q H' (g1.ext.trans x)
  | stuck=>rw[e2]at q;exact q
  | ok l =>
   rw[e2]at q
   intro H2 F2 g2
   refine⟨Z,F2,env,fp,(S.grow g1).grow g2,?_⟩
   simp only[Res.ok_bind]at q
   cases e3:mh env with
   | exc c=>rw[e3]at q;exact fun H' x=>q H' ((g1.ext.trans g2.ext).trans x)
   | stuck=>rw[e3]at q;exact q
   | ok h =>
    rw[e3]at q
    intro H3 F3 g3
    simp only[Res.ok_bind]at q
    cases x with
    | str z =>
     dsimp only at q
     split at q
     ·rename_i hz
      unfold Rel at r1
      exact⟨z,r1.1,by rw[sizeLine_eq];omega,GE.scal q ((g1.trans g2).trans g3) ly⟩
     ·exact q.elim
    | _=>exact q.elim
theorem qY(hg:Gl X x)(hm:∃t,X.mg x=some (.str y t))(hd:(x ==("__debug__" : Str))=false:=by decide):SE X T W (.Name x pos) (mC (.str y)):=by
 obtain⟨t,h⟩:=hm
 exact fM (d_ (v:=.str y) hg h ⟨t,rfl⟩ hd) fun _ _ _ _=>ly
end
section
variable{prog:Program}{w:World}{A:Around}{E:Value->Shared->Prop}{s:Shared}
abbrev liO(xs:List Value)(c:Nat):Obj:={ cls:=.type "list", data:=.seq xs.toArray c }
theorem lG(x:Str)(w:Nat):∀(cuts:List Nat) (a:Nat),(StrLaws.partsFrom x w a cuts).length=cuts.length+1
 | [],_=>rfl
 | c::r,a=>by
  show(_::StrLaws.partsFrom x w (c+w) r).length=_
  rw[List.length_cons,lG x w r]
  rfl
theorem lH(x y:Str):(Builtin.Str.partsBetween x (Builtin.Str.occurrences x y 0 x.length (x.length+1)) y.length).length<=x.length+2:=by
 rw[StrLaws.partsBetween_eq,lG]
 have:=StrLaws.occ_length_le x y 0 x.length (x.length+1)
 omega
theorem qL(x y:Str):(PySem.Txt.split x y).length<=x.length+2:=by
 unfold PySem.Txt.split
 split
 ·simp
 ·split
  ·simp
  ·exact lH x y
theorem qK(hy:(y.length==0)=false)(hz:x.length<=1000000)
  (hq:∀l c k,l.map (·.1)=PySem.Txt.split x y->Q (.ref s.heap.objs.size) { s with heap:=s.heap.push (liO (strValues l) c),toks:=k }) :
  wpAny (model prog w) A (call (.builtin "str.split") [.str x t,.str y u]) Q E s:=by
 have hz1:x.length<=sizeLine:=by rw[sizeLine_eq];omega
 have hn:(Builtin.Str.partsBetween x (Builtin.Str.occurrences x y 0 x.length (x.length+1)) y.length).length<=sizeLine:=by
  have:=lH x y
  rw[sizeLine_eq]
  omega
 have one:∀(e:[x]=PySem.Txt.split x y),Q (.ref s.heap.objs.size) { s with heap:=s.heap.push (liO (strValues [(x,t)]) 0),toks:=s.toks }:=fun e=>hq [(x,t)] 0 s.toks e
 by_cases h1:(decide (x.length < y.length)||decide (Builtin.Str.strKind x < Builtin.Str.strKind y))=true
 ·exact call_meets F.slot_str_split (typeIs_str _ _ _) F.entry_str_split (F.args_str_split_2 _ _) (meets_str_split_cannot_occur x y t u h1) (one (if_pos h1).symm)
 ·by_cases h2:(Builtin.Str.occurrences x y 0 x.length (x.length+1)).isEmpty=true
  ·exact call_meets F.slot_str_split (typeIs_str _ _ _) F.entry_str_split (F.args_str_split_2 _ _) (meets_str_split_not_found x y t u (Bool.eq_false_iff.mpr h1) hy h2) (one ((if_neg h1).trans (if_pos h2)).symm)
  ·refine call_meets F.slot_str_split (typeIs_str _ _ _) F.entry_str_split (F.args_str_split_2 _ _) (meets_str_split_sep x y t u (Bool.eq_false_iff.mpr h1) hy (Bool.eq_false_iff.mpr h2) hz1 hn) ?_
   show wants Q E _ { s with toks:=_,heap:=s.heap.push (liO (strsFrom s.toks (Builtin.Str.partsBetween x (Builtin.Str.occurrences x y 0 x.length (x.length+1)) y.length)) 0) }
   rw[strsFrom_eq]
   exact hq (numbered s.toks _) 0 _ ((numbered_texts _ _).trans ((if_neg h1).trans (if_neg h2)).symm)
theorem kn:∀(l:List (Str×Tok)),aI ((l.map (·.1)).map V.str) (strValues l)
 | []=>.nil
 | p::l=>.cons ⟨p.2,rfl⟩ (kn l)
theorem n0:∀{ys:List Str}{its:List Value},aI (ys.map V.str) its->∃l:List (Str×Tok),its=strValues l/\l.map (·.1)=ys
 | [],_,.nil=>⟨[],rfl,rfl⟩
 | y::ys,_,.cons ⟨t,h⟩ r=>by
  obtain⟨l,h1,h2⟩:=n0 r
  exact⟨(y,t)::l,by rw[h,h1];rfl,by rw[List.map_cons,h2]⟩
end
section
variable{X:Cx}{T:Tb}{W:Nat->St->Hp->Prop}{Z:Zn}{F F1 B L:Addr->Prop}{H H1:Hp}{σ:St}{env:En}{fp:Nat->List Addr}
def xI:V->List V->Hp->VK->Prop:=fun x vs H Q=>∃z y,x=.str z/\vs=[.str y]/\((y.length==0)=false/\z.length<=1000000)/\∀l,H l=none->Q (.ref l) (upd H l (.lst ((PySem.Txt.split z y).map V.str)))
theorem sf:MtM X "str.split" xI:=by
 intro pins s σ H x vs v us Q I rx rv h
 obtain⟨z,y,rfl,rfl,⟨hy,hz⟩,q⟩:=h
 obtain⟨t,rfl⟩:=rx
 obtain⟨u,rfl,ru⟩:=aI.one rv
 obtain⟨t2,rfl⟩:=ru
 refine qK hy hz fun l c k hl=>?_
 have hv:=kn l
 rw[hl]at hv
 have hs:((PySem.Txt.split z y).map V.str).length<=sizeLine:=by
  have:=qL z y
  rw[List.length_map,sizeLine_eq]
  omega
 exact⟨.ref s.heap.objs.size,_,I.laid (t':=k) (fun b o e=>Heap.get?_push_of_some _ e) (Nat.le_refl _) (show bW X.prog X.w _ _ _ (.lst ((PySem.Txt.split z y).map V.str))from⟨hs,strValues l,c,hv,Heap.get?_push_size _ rfl⟩),rfl,q _ (I.hok.fresh (Nat.le_refl _))⟩
def AE(K:PySem.W.Frag):V->List V->Hp->VK->Prop:=fun x vs H Q=>∃z p ys,x=.str z/\vs=[.ref p]/\SqL K H p (ys.map V.str)/\JoinOk z ys=true/\Q (.str (PySem.Txt.join z ys)) H
theorem vn:MtM X "str.join" (AE X.K):=by
 intro pins s σ H x vs v us Q I rx rv h
 obtain⟨z,p,ys,rfl,rfl,hq,hj,q⟩:=h
 obtain⟨t,rfl⟩:=rx
 obtain⟨u,rfl,ru⟩:=aI.one rv
 cases ru
 obtain⟨its,r',pl,hz⟩:=I.list hq
 obtain⟨l,rfl,hl⟩:=n0 r'
 exact PySem.SC.join pl.isList hl hj fun t' k=>⟨.str _,H,I.tok _,⟨_,rfl⟩,q⟩
def mMt(g:Str->PV->Res PV)(mo mk:ME):ME:=fun env=>(mo env).bind fun x=>match x,mk env with
 | .str z,.ok v=>g z v
 | _,_=>.stuck
theorem qV{nm:Str}{id:String}{r:V->List V->Hp->VK->Prop}{g:Str->PV->Res PV}{o k:Expr}{mo mk:ME}{apos cpos:Pos}(slot:Slot "str" nm id)(hty:typeOf (.builtin id)=pure (.type "method_descriptor"))(hmt:MtM X id r)
  (hr:∀{B F L F2:Addr->Prop}{σ:St}{H H2:Hp}{Q:VK}{z:Str}{v:PV}{u:V}{f2:List Addr},Gr F H F2 H2->Rel T F2 B L H2 v u f2->GE T W B F L σ H Q (g z v)->r (.str z) [u] H2 Q)
  (ho:SE X T W o mo) (hk:SE X T W k mk) (hbase:attributeBase o nm X.env (eval o X.env)=eval o X.env:=by rfl)
  (hst:starEach [k] X.env=[(false,eval k X.env)]:=by rfl)
  (hfew:((backTo cpos (starEach [k] X.env)).all (fun x=>!x.1)&&(backToKw cpos (keywordEach [] X.env)).all (fun x=>x.1.isSome)&&decide ([k].length+([]:List Keyword).length+(if([]:List Keyword).isEmpty then 0 else 1) < 30))=true:=by rfl)
  (hline:(apos.endLine==cpos.line)=true:=by rfl):SE X T W (.Call (.Attribute o nm apos) [k] [] cpos) (mMt g mo mk) :=
 PE.wk (oJ (cpos:=cpos) (apos:=apos) PySem.F.plainAttrs_str slot hty hmt ho (ac hk ag hst) hbase hfew hline hst) fun σ H Q ⟨Z,F,env,fp,S,q⟩=>by
  unfold mMt at q
  refine tE.bind S (fun c e=>by rw[e]at q;exact q) (fun e=>by rw[e]at q;exact q) fun pv v H1 F1 f1 e1 g1 r1 n1 d1 w1=>?_
  rw[e1]at q
  simp only[Res.ok_bind]at q
  have S1:=S.grow g1
  split at q
  ·rename_i z y em
   unfold Rel at r1
   obtain⟨rfl,_⟩:=r1
   refine⟨rfl,Z,F1,env,fp,S1,?_⟩
   unfold aa aj
   rw[em]
   intro vs H2 F2 f2 g2 r2 n2 d2 w2
   obtain⟨u,rfl,ru⟩:=r2.one
   exact hr (g1.trans g2) ru q
  ·exact q.elim
theorem kC:∀(ys:List Str),RelL T F B L H (ys.map .str) (ys.map V.str) []
 | []=>by unfold RelL;exact⟨rfl,rfl⟩
 | y::ys=>by
  rw[List.map_cons,List.map_cons]
  unfold RelL
  exact⟨_,_,[],[],rfl,ly,kC ys,rfl⟩
def ee(z:Str):PV->Res PV
 | .str y=>if(y.length==0)=false/\z.length<=1000000 then .ok (.lst .own ((PySem.Txt.split z y).map .str))else .stuck
 | _=>.stuck
def fJ:List PV->Option (List Str)
 | []=>some []
 | .str z::xs=>(fJ xs).map (z::·)
 | _::_=>none
def eX(z:Str):PV->Res PV
 | .lst _ xs=>(match fJ xs with
  | some ys=>if JoinOk z ys=true then .ok (.str (PySem.Txt.join z ys))else .stuck
  | none=>.stuck)
 | _=>.stuck
theorem n9:∀{xs:List PV}{ys:List Str}{vs:List V}{f:List Addr},fJ xs=some ys->RelL T F B L H xs vs f->vs=ys.map V.str
 | [],ys,vs,f,h,r=>by
  unfold RelL at r
  cases h
  exact r.1
 | x::xs,ys,vs,f,h,r=>by
  unfold RelL at r
  obtain⟨v,ws,f1,f2,rfl,r1,r2,_⟩:=r
  cases x with
  | str z =>
   simp only[fJ]at h
   obtain⟨zs,hz,rfl⟩:=Option.map_eq_some_iff.mp h
   unfold Rel at r1
   rw[r1.1,n9 hz r2]
   rfl
  | _=>cases h
section
variable{o k:Expr}{mo mk:ME}{apos cpos:Pos}
theorem iS(ho:SE X T W o mo)(hk:SE X T W k mk)(hbase:attributeBase o "split" X.env (eval o X.env)=eval o X.env:=by rfl)
  (hst:starEach [k] X.env=[(false,eval k X.env)]:=by rfl)
  (hfew:((backTo cpos (starEach [k] X.env)).all (fun x=>!x.1)&&(backToKw cpos (keywordEach [] X.env)).all (fun x=>x.1.isSome)&&decide ([k].length+([]:List Keyword).length+(if([]:List Keyword).isEmpty then 0 else 1) < 30))=true:=by rfl)
  (hline:(apos.endLine==cpos.line)=true:=by rfl):SE X T W (.Call (.Attribute o "split" apos) [k] [] cpos) (mMt ee mo mk) :=
 qV PySem.F.slot_str_split PySem.F.type_str_split sf (fun {B F L F2 σ H H2 Q z v u f2} g ru q=>by
  cases v with
  | str y =>
   unfold Rel at ru
   unfold ee at q
   dsimp only at q
   split at q
   ·rename_i h
    exact⟨z,y,rfl,by rw[ru.1],h,GE.newL q g (kC _) (fun _ h=>nomatch h) .nil fun _ h=>nomatch h⟩
   ·exact q.elim
  | _=>exact q.elim) ho hk hbase hst hfew hline
theorem iD(hK:X.K=T.K)(ho:SE X T W o mo)(hk:SE X T W k mk)(hbase:attributeBase o "join" X.env (eval o X.env)=eval o X.env:=by rfl)
  (hst:starEach [k] X.env=[(false,eval k X.env)]:=by rfl)
  (hfew:((backTo cpos (starEach [k] X.env)).all (fun x=>!x.1)&&(backToKw cpos (keywordEach [] X.env)).all (fun x=>x.1.isSome)&&decide ([k].length+([]:List Keyword).length+(if([]:List Keyword).isEmpty then 0 else 1) < 30))=true:=by rfl)
  (hline:(apos.endLine==cpos.line)=true:=by rfl):SE X T W (.Call (.Attribute o "join" apos) [k] [] cpos) (mMt eX mo mk) :=
 qV PySem.F.slot_str_join PySem.F.type_str_join vn (fun {B F L F2 σ H H2 Q z v u f2} g ru q=>by
  cases v with
  | lst f xs =>
   unfold Rel at ru
   obtain⟨a,ws,fp',rfl,hl,hr,_⟩:=ru
   unfold eX at q
   dsimp only at q
   cases e:fJ xs with
   | none=>rw[e]at q;exact q.elim
   | some ys =>
    rw[e]at q
    dsimp only at q
    split at q
    ·rename_i h
     have:=n9 e hr
     subst this
     exact⟨z,a,ys,rfl,rfl,by rw[hK];exact hl.sq,h,GE.scal q g ly⟩
    ·exact q.elim
  | _=>exact q.elim) ho hk hbase hst hfew hline
end
def zN(K:PySem.W.Frag)(d:Addr)(xs:List Str):Prop :=
 ∃(dd:Option Addr) (l:List (Str×Tok)) (n:Nat) (sl:Array (Option Value)),K.lookup d=some ⟨.type "tuple", dd,.seq (strValues l).toArray n,sl⟩/\l.map (·.1)=xs
theorem eT(hK:X.K=T.K)(hg:Gl X x)(hm:X.mg x=some (.ref d))(hT:zN X.K d xs)(hn:xs.length<=1000)(hd:(x ==("__debug__" : Str))=false:=by decide):SE X T W (.Name x pos) (mC (.tup (xs.map .str))) :=
 fM (d_ (v:=.ref d) hg hm rfl hd) fun _ _ _ _=>by
  obtain⟨dd,l,n,sl,h1,rfl⟩:=hT
  unfold Rel
  refine⟨d,_,rfl,.inr ⟨_,_,n,by rw[<- hK];exact h1,rfl,rfl,?_,kn l⟩,kC _⟩
  rw[sizeLine_eq]
  simp[strValues]at hn ⊢
  omega
variable{d:Addr}{kvs:List (Str×Int)}
def wn(d:Addr)(kvs:List (Str×Int)):R2:=fun x y H Q=>∃k,x=.str k/\y=.ref d/\Q (.bl (look kvs k).isSome) H
theorem vb(hD:fG X.w X.K d kvs):OpR X (compareOp .In) (wn d kvs):=by
 intro pins s σ H x y v u Q I rx ry h
 obtain⟨k,rfl,rfl,q⟩:=h
 obtain⟨t,rfl⟩:=rx
 cases ry
 obtain⟨f,hm,hf⟩:=hD.map (prog:=X.prog) I.kIn
 refine wpAny_in_of (knd:=strKind X.prog X.w) (k:=k) (by show(k==k)=true;simp) hD.ne hm ⟨.bl (look kvs k).isSome,H,I.tok _,?_,q⟩
 have:=hf k
 cases e:look kvs k with
 | none=>rw[e]at this;rw[show f k=none from this];rfl
 | some i =>
  rw[e]at this
  obtain⟨u,hu⟩:=this
  rw[hu]
  rfl
def rW(kvs:List (Str×Int)):PV->Res PV
 | .str k=>.ok (.bl (look kvs k).isSome)
 | _=>.stuck
theorem sB:wa T W (rW kvs) (fun x H Q=>wn d kvs x (.ref d) H Q):=by
 intro B F L σ H Q F' H' x v fx g rx nf nd new q
 cases x with
 | str k =>
  unfold Rel at rx
  exact⟨k,rx.1,rfl,q.scal g eV⟩
 | _=>exact q.elim
theorem uh(hg:Gl X x)(hm:X.mg x=some (.ref d))(hD:fG X.w X.K d kvs)(he:SE X T W e m)(hd:(x ==("__debug__" : Str))=false:=by decide):ST X T W (.Compare e [.In] [.Name x px] pos) (ar (mUn (rW kvs) m)) :=
 PT.wk (kD (pos:=pos) (vb hD) he (d_ (v:=.ref d) (pos:=px) hg hm rfl hd) rfl) fun σ H Q h=>by
  obtain⟨Z,F,env,fp,S,q⟩:=tT.test h
  exact tE.mir1 sB ⟨Z,F,env,fp,S,q⟩
end
end PR
namespace L2
open PySem PySem.Spec PyProof.Rows
section
variable{X:Cx}{pins:List (Addr×Obj)}{σ:St}{H:Hp}{s:Shared}{E:Value->Shared->Prop}
theorem Inv.toX(hp:X.pn=[])(I:Inv X pins σ H s):Inv (X.tryX E []) pins σ H s :=
 ⟨⟨I.ok.mod,I.ok.kind,I.ok.glob,I.ok.blt,I.ok.above,I.ok.inj,I.ok.has,I.ok.cab,I.ok.hd,I.ok.frames,I.ok.stk,I.ok.exf,I.ok.bs,I.ok.bsz,I.ok.noex,I.ok.exfs,I.ok.funs,I.ok.frf⟩,
  I.os,I.bare,I.base,I.loc,I.cell,I.free,I.freeC,fun p h=>I.pin p (by rw[hp];exact h),I.hok,I.len⟩
theorem Inv.ofX(hp:X.pn=[])(I:Inv (X.tryX E []) pins σ H s):Inv X pins σ H s :=
 ⟨⟨I.ok.mod,I.ok.kind,I.ok.glob,I.ok.blt,I.ok.above,I.ok.inj,I.ok.has,I.ok.cab,I.ok.hd,I.ok.frames,I.ok.stk,I.ok.exf,I.ok.bs,I.ok.bsz,I.ok.noex,I.ok.exfs,I.ok.funs,I.ok.frf⟩,
  I.os,I.bare,I.base,I.loc,I.cell,I.free,I.freeC,fun p h=>I.pin p (by rw[hp]at h;exact h),I.hok,I.len⟩
end
end L2
namespace PR
open PySem PySem.Spec L2
section
variable{M:Model}{A:Around}{E:Value->Shared->Prop}{s:Shared}{B:Heap}{l:List Env}{e:Addr}{cls a0 fl:Value}
def mK(B:Heap)(l:List Env)(e:Addr)(cls a0 fl:Value)(h:Heap):Prop:=B.StaysIn h/\B.get? e=none/\h.FunFrames B l/\h.TracedAtW B e cls a0 fl
theorem p6(hfr:A.frames=some (env::outer))(hf:env.frame=some L)(hfl:mK B (env::outer) e cls a0 fl s.heap)
  (hQ:∀h',Heap.FlyingW B outer e cls a0 h'->s.heap.UpToSlots h'->Q () { s with heap:=h' }):wpAny M A (leaving env (.ref e)) Q E s:=by
 obtain⟨f1,f2,f3,f4⟩:=hfl
 by_cases q:fl=rawInt L
 ·subst q
  unfold leaving
  refine wpAny_bind (wpAny_noteFrame_againW hf f4 (wpAny_landsW (l:=env::outer) ⟨f1,f2,f3,f4⟩ fun h' ⟨k1,k2,k3,k4⟩ up=>?_))
  exact hQ h' ⟨k1,k2,k3.2.2,k4⟩ up
 ·obtain⟨oe,vs,T,oT,ts,he,⟨hc,h0⟩,hd,h1,hnT,hTe,hT,hdT,h3⟩:=f4
  subst hc
  unfold leaving noteFrame
  simp only[hf]
  refine wpAny_bind (wpAny_bind (wpAny_field he hd h1 ?_))
  rw[if_pos (by simp)]
  refine wpAny_bind (wpAny_field hT hdT h3 ?_)
  rw[if_neg (fun z=>q (eq_of_beq z))]
  refine wpAny_bind (wpAny_setField hT hdT (Array.getElem?_eq_some_iff.mp h3).1 ?_)
  have ot:∀b,b≠T->(s.heap.update T (Obj.mapFields (·.setIfInBounds 3 Value.none))).get? b=s.heap.get? b:=fun b hb=>Heap.get?_update_other _ _ (Ne.symm hb)
  have nT:∀b o,s.heap.get? b=some o->(∀vs,o.data≠.fields vs)->b≠T:=fun b o hb hn z=>by
   rw[z,hT]at hb;cases hb;exact hn ts hdT
  refine wpAny_newEntryW hfr (f3.of_keeps fun b o hb hn=>⟨o,(ot b (nT b o hb hn)).trans hb,rfl⟩) hf ((ot e (Ne.symm hTe)).trans he) (fun b o hb=>(ot b fun z=>by rw[z,hnT]at hb;cases hb).trans (f1 b o hb)) f2 hd (Array.getElem?_eq_some_iff.mp h1).1 h0 fun h' ⟨x1,x2,x3,x4⟩=>?_
  exact hQ h' ⟨x1,f2,x2.2.2,x3⟩ fun b o hb hn=>x4 b o ((ot b (nT b o hb hn)).trans hb) hn
theorem u7{what:String}{cenv:Env}(hfl:mK B l e cls a0 fl s.heap)
  (hQ:∀h' fl',mK B l e cls a0 fl' h'->s.heap.UpToSlots h'->E (.ref e) { s with heap:=h' }):wpAny M A (passOn what (.ref e) cenv:Sem Value) (fun _ _=>False) E s:=by
 obtain⟨f1,f2,f3,oe,vs,T,oT,ts,he,hc,hd,h1,hnT,hTe,hT,hdT,h3⟩:=hfl
 have hz:3 < ts.size:=(Array.getElem?_eq_some_iff.mp h3).1
 have ot:∀(v:Value) b,b≠T->(s.heap.update T (Obj.mapFields (·.setIfInBounds 3 v))).get? b=s.heap.get? b:=fun v b hb=>Heap.get?_update_other _ _ (Ne.symm hb)
 have nT:∀b o,s.heap.get? b=some o->(∀vs,o.data≠.fields vs)->b≠T:=fun b o hb hn z=>by
  rw[z,hT]at hb;cases hb;exact hn ts hdT
 unfold passOn
 refine wpAny_bind (wpAny_field he hd h1 ?_)
 rw[if_neg (by simp)]
 refine wpAny_bind ?_
 unfold setFlight
 refine wpAny_bind (wpAny_field he hd h1 ?_)
 rw[if_pos (by simp)]
 refine wpAny_setField hT hdT hz ?_
 refine wpAny_throw (hQ _ (cenv.frame.elim .none fun f=>rawInt f) ⟨fun b o hb=>(ot _ b fun z=>by rw[z,hnT]at hb;cases hb).trans (f1 b o hb),f2,f3.of_keeps fun b o hb hn=>⟨o,(ot _ b (nT b o hb hn)).trans hb,rfl⟩,?_⟩ fun b o hb hn=>⟨o.slots,(ot _ b (nT b o hb hn)).trans hb⟩)
 exact⟨oe,vs,T,_,_,(ot _ e (Ne.symm hTe)).trans he,hc,hd,h1,hnT,hTe,Heap.get?_update_self _ hT (Obj.isFreed_of_fields (Obj.data_mapFields hdT _)),Obj.data_mapFields hdT _,by simp[hz]⟩
theorem gC{h h' B B':Heap}:∀{l:List Env},h.FunFrames B l->(∀L o,L∈frs l->h.get? L=some o->∃o',h'.get? L=some o'/\o'.data=o.data)->(∀L∈frs l,B.get? L=none->B'.get? L=none)->h'.FunFrames B' l
 | [],_,_,_=>trivial
 | env::l,⟨hk,⟨L,o,hf,hn,ho,hd⟩,hr⟩,k1,k2=>by
  have hL:L∈frs (env::l):=List.mem_filterMap.mpr ⟨env,.head _,hf⟩
  have tl:∀L∈frs l,L∈frs (env::l):=fun L h=>by
   obtain⟨e,he,hf⟩:=List.mem_filterMap.mp h
   exact List.mem_filterMap.mpr ⟨e,.tail _ he,hf⟩
  obtain⟨o',ho',hd'⟩:=k1 L o hL ho
  exact⟨hk,⟨L,o',hf,k2 L hL hn,ho',by rw[hd'];exact hd⟩,gC hr (fun L o h=>k1 L o (tl L h)) fun L h=>k2 L (tl L h)⟩
end
structure Ej(P:Program)(w:World)(outer:List Env)(H:Hp)(s:Shared)(cls:Value)(H':Hp)(e:Value)(s':Shared):Prop where
 os:s'.os=s.os
 bare:PyProof.Rows.AllBare s'.gens
 un:Un (frs outer) [] H H' s.heap s'.heap
 hok:HOk P w H' s'.heap
 fly:∃x a0 fl Bh,e=.ref x/\mK Bh outer x cls a0 fl s'.heap/\(∀b o u,H' b=some u->s'.heap.get? b=some o->Bh.get? b=some o)/\
  (∀b o o',s'.heap.get? b=some o->s.heap.get? b=some o'->b∉frs outer->Bh.get? b=some o)
def XC(X:Cx)(T:Tb)(W:Nat->St->Hp->Prop):Prop:=∀(pins:List (Addr×Obj)) (σ:St) (H:Hp) (s:Shared) (c:Nat) (H':Hp) (e:Value) (s':Shared),L2.Inv X pins σ H s->Ej X.prog X.w X.stack H s (.ref (T.xcl c)) H' e s'->W c σ H'->X.xe e s'
section
variable{P:Program}{w:World}{K:PySem.W.Frag}{mg:Str->Option Value}{base:Heap}{N:List Str}{qual:Str}{scope:Scope}{f:Addr}{cd:Value}{A:Around}{outer:List Env}{s:Shared}{H:Hp}{E:XK}{T:Tb}
theorem mL:XC (cz (CXP P w) P w K mg base N qual scope f cd A outer s H E) T (WD T E):=by
 intro pins σ H1 s1 c H2 e s2 I fl hW
 obtain⟨x,a0,mk,Bh,rfl,fly,tr,ol⟩:=fl.fly
 refine p6 (L:=s.heap.objs.size) I.ok.frames rfl fly fun h' fly' up=>?_
 obtain⟨h2,g2,d2,t2,os2⟩:=s2
 exact⟨_,H2,h_ I rfl rfl rfl fl.os fl.bare fl.un fl.hok tr ol fly' up,hW⟩
end
section
variable{X:Cx}{T:Tb}{W:Nat->St->Hp->Prop}{pins:List (Addr×Obj)}{σ:St}{H2:Hp}{s2:Shared}{fpi:List Addr}{scope:Scope}{caps:List Nat}{N tn:List Str}{use:Option (Value->Sem Unit)}{Q':Value->Shared->Prop}{acc:Value}
abbrev EC(X:Cx)(scope:Scope)(C:Addr)(use:Option (Value->Sem Unit))(Q':Value->Shared->Prop)(acc:Value):Value->Shared->Prop :=
 notedBy (model X.prog X.w) X.A (compEnvC scope (jG X scope C) C X.env) fun e s'=>compPost (model X.prog X.w) X.A X.xe use Q' acc C (.error e) s'
theorem t9(hxc:XC X T W)(hst:X.stack=X.env::X.outer)(hfrm:X.env.frame=some X.env.locals)(I2:L2.Inv X pins σ H2 s2)(f2:∀b∈fpi,iA X pins H2 b) :
  XF ((cxC X scope (s2.heap.objs.size+1) N s2 H2 fpi).tryX (EC X scope (s2.heap.objs.size+1) use Q' acc) []) T (fun c _ H'=>W c σ H'):=by
 intro pins' σ' H9 s9 c H10 e s10 inv9 fl hW
 replace inv9:=inv9.ofX rfl
 obtain⟨x,a0,Bh,rfl,fly,tr,ol⟩:=fl.fly
 change Heap.FlyingW Bh X.stack x _ a0 s10.heap at fly
 have hfs:frs X.stack=X.env.locals::frs X.outer:=by
  rw[hst]
  show List.filterMap _ _=_
  rw[List.filterMap_cons,hfrm]
  rfl
 obtain⟨m,hn,_⟩:=id inv9.loc
 change s9.heap.Ns (s2.heap.objs.size+1) m at hn
 have hC9:H9 (s2.heap.objs.size+1)=none:=inv9.free
 have hCf:s2.heap.objs.size+1∉frs X.stack:=by
  rw[hfs]
  intro z
  rcases List.mem_cons.mp z with z | z
  ·have h:=I2.lt
   rw[<- z]at h
   exact absurd h (Nat.not_lt.mpr (Nat.le_succ _))
  ·exact I2.nofs (Nat.le_succ _) z
 obtain⟨oC,es,ep,hoC,hdC,rC⟩:=id hn
 have hC10:s10.heap.get? (s2.heap.objs.size+1)=some oC:=fl.un.keep _ _ hoC hC9 hCf (by simp)
 have hH10:H10 (s2.heap.objs.size+1)=none:=fl.un.free _ _ hoC hC9 (by simp)
 have iX:L2.Inv X pins σ H9 s9:=I2.call' inv9.os inv9.base inv9.hok inv9.bare fun b hb=>⟨(f2 b hb).2.2.2.1,(f2 b hb).2.1,(f2 b hb).2.2.2.2.1,(f2 b hb).2.2.2.2.2⟩
 show wpAny (model X.prog X.w) X.A (noteFrame (.ref x) X.env) _ _ s10
 rw[hst]at fly
 refine wpAny_looks_onW (hst▸I2.ok.frames) hfrm fly fun h11 held up=>?_
 obtain⟨b1,b2,b3,b4⟩:=held
 obtain⟨sl,hC11⟩:=up _ _ hC10 fun vs z=>by rw[hdC]at z;cases z
 have hCl:s2.heap.objs.size+1≠X.env.locals:=Nat.ne_of_gt (Nat.lt_succ_of_lt I2.lt)
 have hC0:X.s₀.heap.objs.size<=s2.heap.objs.size+1:=Nat.le_trans I2.sz (Nat.le_succ _)
 have hCc:∀y cc,X.env.cells.lookup y=some cc->cc≠s2.heap.objs.size+1:=fun y cc q z=>by
  obtain⟨v,hv⟩:=I2.cell y cc q
  rw[z]at hv
  exact absurd hv.lt (Nat.not_lt.mpr (Nat.le_succ _))
 have hCp:∀p∈X.pn++pins,p.1≠s2.heap.objs.size+1:=fun p hp z=>by
  have:=Heap.lt_size (I2.pin p hp).1
  rw[z]at this
  exact absurd this (Nat.not_lt.mpr (Nat.le_succ _))
 generalize hC:s2.heap.objs.size+1=C at *
 have neF:∀b o vs,h11.get? b=some o->o.data=.fields vs->b≠C:=fun b o vs e d z=>by
  rw[z,hC11]at e
  cases e
  rw[hdC]at d;cases d
 have key:∃m,h11.Ns C m/\∀h',Heap.SameBut C h11 h'->∀cenv:Env,cenv.locals=C->wpAny (model X.prog X.w) X.A (passOn "comprehension.variables-let-go" (.ref x) cenv:Sem Value) (fun _ _=>False) X.xe { s10 with heap:=h' }:=by
  refine⟨m,⟨_,es,ep,hC11,hdC,rC⟩,fun h12 sb cenv _=>?_⟩
  have hidN:∀(h:Heap) b o,(h.hide C).get? b=some o->b≠C:=fun h b o q z=>by
   rw[z]at q
   have:=PySem.W.hideAll_none [C] (h:=h) (b:=C) (.head _)
   rw[show PySem.W.hideAll h [C]=h.hide C from rfl,q]at this
   cases this
  have hid:∀b o,(Bh.hide C).get? b=some o->b≠C/\Bh.get? b=some o:=fun b o q=>⟨hidN _ b o q,Heap.of_hide q⟩
  have hnon:∀b,Bh.get? b=none->(Bh.hide C).get? b=none:=fun b q=>by
   cases z:(Bh.hide C).get? b with
   | none=>rfl
   | some o=>rw[(hid b o z).2]at q;cases q
  have fl12:mK (Bh.hide C) (X.env::X.outer) x (.ref (T.xcl c)) a0 (rawInt X.env.locals) h12:=by
   obtain⟨oe,vs,Tb,oT,ts,he,hc,hd,h1,hnT,hTe,hT,hdT,h3⟩:=b4
   refine⟨fun b o q=>(sb.2 b (hid b o q).1).trans (b1 b o (hid b o q).2),hnon x b2,gC b3 (fun L o hL hL2=>⟨o,(sb.2 L fun z=>hCf (by rw[<- z,hst];exact hL)).trans hL2,rfl⟩) fun L _ q=>hnon L q,?_⟩
   exact⟨oe,vs,Tb,oT,ts,(sb.2 x (neF x oe vs he hd)).trans he,hc,hd,h1,hnon Tb hnT,hTe,(sb.2 Tb (neF Tb oT ts hT hdT)).trans hT,hdT,h3⟩
  refine u7 fl12 fun h13 fl' fly13 up13=>?_
  have same:∀b o,b≠C->Bh.get? b=some o->h13.get? b=some o:=fun b o hb q=>fly13.1 b o ((Heap.hide_ne Bh hb).trans q)
  have h9n:∀b o,(s9.heap.hide C).get? b=some o->b≠C/\s9.heap.get? b=some o:=fun b o q=>⟨hidN _ b o q,Heap.of_hide q⟩
  have nC:∀b u,H10 b=some u->b≠C:=fun b u q z=>by rw[z,hH10]at q;cases q
  have data:∀b o,s10.heap.get? b=some o->b∈frs X.stack->∀vs,o.data≠.fields vs:=fun b o q hb vs z=>by
   obtain⟨_,o',ho',hd'⟩:=fly.2.2.1.mem (hst▸hb)
   rw[q]at ho';cases ho'
   exact hd' vs z
  have i9:L2.Inv X pins σ H9 { s9 with heap:=s9.heap.hide C,toks:=s9.toks }:=iX.turned (t':=s9.toks) (it:=C) (fun b o hb q=>(Heap.hide_ne _ hb).trans q) hC9 hCl (.inr hC0) hCc hCp
  refine hxc pins σ H9 _ c H10 (.ref x) _ i9 ⟨fl.os,fl.bare,⟨fun b o q n hf _=>?_,fun b o q n hf _=>?_,fun b o q n _=>fl.un.free b o (h9n b o q).2 n (by simp),fun b o q _=>?_,fl.un.tups,fl.un.frzs,fl.un.tbls⟩,?_,x,a0,fl',Bh.hide C,rfl,hst▸fly13,fun b o u q q2=>?_,fun b o o' q q2 hf=>?_⟩ hW
  ·have q':=fl.un.keep b o (h9n b o q).2 n hf (by simp)
   exact same b o (h9n b o q).1 (ol b o o q' (h9n b o q).2 hf)
  ·obtain⟨s1,q1⟩:=fl.un.slot b o (h9n b o q).2 n hf (by simp)
   obtain⟨s3,q3⟩:=up b _ q1 (data b _ q1 hf)
   have q4:=(sb.2 b (h9n b o q).1).trans q3
   obtain⟨s5,q5⟩:=up13 b _ q4 fun vs z=>data b _ q1 hf vs z
   exact⟨s5,q5⟩
  ·by_cases hf:b∈frs X.stack
   ·obtain⟨_,o2,ho2,_⟩:=fly13.2.2.1.mem (hst▸hf)
    exact⟨o2,ho2⟩
   ·obtain⟨o1,e1⟩:=fl.un.there b o (h9n b o q).2 (by simp)
    exact⟨o1,same b o1 (h9n b o q).1 (ol b o1 o e1 (h9n b o q).2 hf)⟩
  ·exact kS fl.hok (fun b o u q q2=>(Heap.hide_ne Bh (nC b u q)).trans (tr b o u q q2)) fly13.1
  ·obtain⟨o1,e1⟩:=(fl.hok b u q).there
   have e2:=tr b o1 u q e1
   have e3:=same b o1 (nC b u q) e2
   have q2':h13.get? b=some o:=q2
   rw[e3]at q2'
   cases q2'
   exact(Heap.hide_ne Bh (nC b u q)).trans e2
  ·obtain⟨hb,q9⟩:=h9n b o' q2
   obtain⟨o1,e1⟩:=fl.un.there b o' q9 (by simp)
   have e2:=ol b o1 o' e1 q9 hf
   have e3:=same b o1 hb e2
   have q':h13.get? b=some o:=q
   rw[e3]at q'
   cases q'
   exact(Heap.hide_ne Bh hb).trans e2
 unfold compPost
 cases use<;>exact key
end
section
variable{X:Cx}{T:Tb}{W:Nat->St->Hp->Prop}{Z:Zn}{F F1 B L:Addr->Prop}{H H1:Hp}{σ:St}{env:En}{fp:Nat->List Addr}{D:Ends}
def et(caps:List Nat)(k:Nat)(mi:MI)(g:TgM)(me:ME):ME:=fun env=>(mi env).bind fun xs=>if xs.length<=10000000 then(b_ g bG me (cA caps k env) xs).bind fun ys=>.ok (.lst .own ys)else .stuck
theorem nQ(hxc:XC X T W)(hst:X.stack=X.env::X.outer)(hfrm:X.env.frame=some X.env.locals)
  (cs:bU X scope caps N tn) (hc:X.calm=true) (hi:SIc X T W tg iter mi) (hk:dQ g caps.length)
  (hb:∀C s H ex,SG (cxC X scope C N s H ex) T tg g/\∀E Wb,XF ((cxC X scope C N s H ex).tryX E []) T Wb->SE ((cxC X scope C N s H ex).tryX E []) T Wb elt me)
  (hs:∀x,foldedSetIterable iter X.env x=pure x) (I:L2.Inv X pins σ H s) (h:tE T W (et caps tn.length mi g me) σ H Q)
  (hfin:∀(Dd C:Addr) (H':Hp) (s6:Shared) (m:Str->Option Value),Q (.ref Dd) H'->L2.Inv X pins σ H' s6->s6.heap.Ns C m->H' C=none->C≠X.env.locals->C∉X.fs->X.s₀.heap.objs.size<=C->(∀x c,X.env.cells.lookup x=some c->c≠C)->(∀p∈X.pn++pins,p.1≠C)->compPost (model X.prog X.w) X.A X.xe use Q' (.ref Dd) C (.ok .next) s6) :
  wpAny (model X.prog X.w) X.A (comprehension (.ListComp elt [⟨tg,iter,[],0⟩] scope pos) scope X.env p' (newList []) false (eval iter X.env) use) Q' X.xe s:=by
 obtain⟨Z,F,env,fp,S,q⟩:=h
 unfold et at q
 refine wpAny_comprehension_free (use:=use) rfl hs (fE fun y hy hf=>I.ok.has y.1 (cs.free y hy hf)) cs.kind cs.names ?_
 refine thn (hi pins s σ H (fun J H1=>∃F1 xs,mi env=.ok xs/\Gr F H F1 H1/\ItC T F1 Z.B (Own fp) H1 J xs) I ⟨Z,F,env,fp,S,?_⟩) fun xv s1 h1=>thn h1 fun itv s2 h2=>?_
 ·cases em:mi env with
  | ok xs=>exact fun J H1 F1 g1 it=>⟨F1,xs,rfl,g1,it⟩
  | exc c | stuck=>rw[em]at q;exact q
 obtain⟨it,fpi,tn_,J,H2,rfl,I2,Tn,st2,f2,F1,xs,em,g1,itc⟩:=h2
 rw[em]at q
 simp only[Res.ok_bind]at q
 split at q
 case isFalse=>exact q.elim
 rename_i hlen
 generalize eR:b_ g bG me (cA caps tn.length env) xs=R at q
 have S2:=S.grow g1
 have hlt:∀b∈fpi,b < s2.heap.objs.size:=fun b hb=>by
  obtain⟨o,ho,_⟩:=Tn.obj 0 _ st2 b hb
  exact Heap.lt_size ho
 refine PySem.wpAny_newObj_type (il fun h₁ hns₁ hsb₁ hcl₁=>?_)
 dsimp only at hns₁ hsb₁ hcl₁ ⊢
 generalize hH2:s2.heap.push { cls:=.type "list", dict:=none,data:=.seq ([]:List Value).toArray }=P2 at hns₁ hsb₁ hcl₁ ⊢
 have hC:P2.objs.size=s2.heap.objs.size+1:=by rw[<- hH2,Heap.size_push]
 have old:∀b o,s2.heap.get? b=some o->h₁.get? b=some o:=fun b o e=>hsb₁ b o (hH2▸Heap.get?_push_of_some _ e)
 have hDo:h₁.get? s2.heap.objs.size=some { cls:=.type "list", data:=.seq ([]:List Value).toArray }:=hsb₁ _ _ (hH2▸Heap.get?_push_size _ rfl)
 rw[hC]at hns₁ hcl₁
 have inv0:=lW (t:=s2.toks) cs I2 f2 hlt hns₁ hDo old hcl₁
 have hDH:H2 s2.heap.objs.size=none:=I2.hok.fresh (Nat.le_refl _)
 have hDF:¬F1 s2.heap.objs.size:=fun z=>by obtain⟨o,e⟩:=g1.dom _ z;rw[hDH]at e;cases e
 have SB:=kc (caps:=caps) (k:=tn.length) S2 hDH hDF
 obtain⟨hgN,hel⟩:=hb (s2.heap.objs.size+1) s2 H2 fpi
 have hts:STs (cxC X scope (s2.heap.objs.size+1) N s2 H2 fpi) T WF [] bG:=bC
 have never:∀{α:Type}{t:Sem α}{Qa:α->Shared->Prop}{E':Value->Shared->Prop}{s':Shared},wpAny (model X.prog X.w) X.A t Qa (fun _ _=>False) s'->wpAny (model X.prog X.w) X.A t Qa E' s':=fun h=>wpAny_mono h (fun _ _ x=>x) fun _ _ z=>z.elim
 have fpok:∀{H':Hp}{pins':List (Addr×Obj)},(∀p∈pins',p.1∉fpi)->(∀b∈fpi,H' b=none)->∀b∈fpi,iA (cxC X scope (s2.heap.objs.size+1) N s2 H2 fpi) pins' H' b:=fun {H' pins'} hp hn b hb=>by
  refine⟨hn b hb,Nat.ne_of_lt (Nat.lt_succ_of_lt (hlt b hb)),(jx cs I2 f2 hlt (Nat.le_succ _)).exfs b hb,.inl hb,((jx cs I2 f2 hlt (Nat.le_succ _)).exf b hb).2,fun p hp' z=>?_⟩
  rcases List.mem_append.mp hp' with w | w
  ·exact absurd (show p ∈([]:List (Addr×Obj))from w) (by simp)
  ·exact hp p w (z▸hb)
 have key:∀s4:Shared,L2.Inv (cxC X scope (s2.heap.objs.size+1) N s2 H2 fpi) [] (jH caps tn.length σ) (upd H2 s2.heap.objs.size (.lst [])) s4->tn_ 0 s4.heap ->
   codeAny (model X.prog X.w) X.A (.compLoop (.ListComp elt [⟨tg,iter,[],0⟩] scope pos) 0 (.ref it) (.ref s2.heap.objs.size) (compEnvC scope (jG X scope (s2.heap.objs.size+1)) (s2.heap.objs.size+1) X.env))
    (compPost (model X.prog X.w) X.A X.xe use Q' (.ref s2.heap.objs.size) (s2.heap.objs.size+1)) s4:=by
  intro s4 inv4 st4
  refine gE (fun n s'=>∃ (i:Nat) (σ':St) (H':Hp) (Fi:Addr->Prop) (ys:List PV) (vs:List V) (f:List Addr),n=xs.length - i/\i <= xs.length/\L2.Inv (cxC X scope (s2.heap.objs.size+1) N s2 H2 fpi) [] σ' H' s'/\tn_ i s'.heap/\(∀ b ∈ fpi,H' b=none) /\
   aw T (zC F1 H2) Fi H' σ' (cA caps tn.length env) (fun _=>[])/\H' s2.heap.objs.size=some (.lst vs)/\RelL T Fi Z.B (Own fp) H' ys vs f/\f.Nodup/\(∀a∈f,¬Fi a/\H2 a=none/\a≠s2.heap.objs.size)/\¬Fi s2.heap.objs.size/\ys.length<=i /\
   R=(b_ g bG me (cA caps tn.length env) (xs.drop i)).bind fun zs=>.ok (ys++zs)) ?_ xs.length ?_
  case refine_2 =>
   refine⟨0,_,_,F1,[],[],[],by simp,Nat.zero_le _,inv4,st4,fun b hb=>?_,SB,aX,by unfold RelL;exact⟨rfl,rfl⟩,List.nodup_nil,fun _ z=>(nomatch z),hDF,Nat.zero_le _,by rw[List.drop_zero,eR];cases R<;>rfl⟩
   rw[aE (Nat.ne_of_lt (hlt b hb))]
   exact(f2 b hb).1
  rintro n s5 ⟨i,σ',H',Fi,ys,vs,f,rfl,hil,inv5,st5,fr5,SI5,hD5,ry,nd5,nf5,nFD,hyl,ecl⟩
  have ext5:Ext H2 H':=fun a o e=>SI5.hp.keep a o e fun z=>z
  have gr5:Gr F1 H2 Fi H':=⟨ext5,SI5.hp.f0,fun a h=>by
   rcases SI5.hp.fn a h with z | z | z
   ·exact .inl z
   ·exact .inr z
   ·exact z.elim,SI5.hp.ft⟩
  obtain⟨go,stop⟩:=itc H' ext5
  by_cases hlt5:i < xs.length
  ·have hx:xs[i]?=some xs[i]:=by simp[hlt5]
   obtain⟨g5,yl⟩:=go i _ hx
   rw[List.drop_eq_getElem_cons hlt5]at ecl
   unfold b_ at ecl
   cases eg:g xs[i].borrow (cA caps tn.length env)with
   | none=>rw[eg]at ecl;rw[ecl]at q;exact q.elim
   | some e' =>
   rw[eg]at ecl
   dsimp only at ecl
   refine thn (Tn.item (cxC X scope (s2.heap.objs.size+1) N s2 H2 fpi) rfl rfl rfl hc i [] s5 σ' H' _ inv5 (fpok (fun _ z=>absurd z (by simp)) fr5) st5 g5) fun r s6 ⟨u,hr,h6⟩=>?_
   subst hr
   refine thn h6 fun _ s7 ⟨v,H7,inv7,rv,yy,st7,fr7⟩=>?_
   obtain⟨ex7,fx,tx,rx⟩:=yl v H7 yy
   replace SI5:=SI5.grow (Gr.same SI5.hp.ft ex7)
   replace ry:=ry.ext ex7 fun _ h=>h
   replace hD5:=ex7 _ _ hD5
   replace gr5:=gr5.trans (Gr.same gr5.dom ex7)
   replace ext5:=gr5.ext
   have pinv:=inv7.pinned (fpok (fun _ z=>absurd z (by simp)) fr7) (Tn.obj _ _ st7)
   have rxb:Rel T Fi (zC F1 H2).B NoL H7 xs[i].borrow v []:=by
    refine Rel.borrow (B:=fun a=>∃o,H2 a=some o) (L:=Own fp) (fun _ h=>h) (fun a ⟨j,hj⟩=>(S2.dis j a hj).2) (fun a ha=>tx a ha) ?_
    exact Rel.tr SI5.hp.f0 (fun a h=>let⟨⟨o,h1⟩,h2⟩:=S2.hp.bo a h;⟨o,S2.hp.keep a o h1 h2⟩) (fun _ h=>h) (fun a o q _=>q) (fun a _ o q=>q) rx
   refine never (thn (hgN _ s7 σ' H7 v u (fun σ8 H8=>H8=H7/\∃fp8,aw T (zC F1 H2) Fi H7 σ8 e' fp8) pinv rv ⟨zC F1 H2,Fi,cA caps tn.length env,fun _=>[],xs[i].borrow,[],SI5,rxb,nY.nil,?_⟩) fun _ s8 ⟨σ8,H8,inv8,e8,fp8,S8⟩=>?_)
   ·rw[eg]
    exact fun σ8 fp8 S8=>⟨rfl,fp8,S8⟩
   subst e8
   obtain⟨kl,kk⟩:=hk.keep _ _ _ eg
   have capOwn:∀(j:Nat) pv,(cA caps tn.length env)[j]?=some (some pv)->pv.has Fl.isOwn=false:=fun j pv ej=>by
    unfold cA at ej
    by_cases hj:j < caps.length
    ·rw[List.getElem?_append_left (by simpa using hj),List.getElem?_map]at ej
     obtain⟨jj,_,e2⟩:=Option.map_eq_some_iff.mp ej
     obtain⟨pv0,_,rfl⟩:=Option.map_eq_some_iff.mp e2
     exact dA pv0
    ·rw[List.getElem?_append_right (by simpa using hj),List.getElem?_replicate]at ej
     split at ej<;>cases ej
   have S8':aw T (zC F1 H2) Fi H8 σ8 e' (fun _=>[]):=S8.noOwn fun j pv ej=>by
    rcases hk.own _ _ _ eg (dA _) j pv ej with z | z
    ·exact capOwn j pv z
    ·exact z
   have back:∀{F9:Addr->Prop}{H9:Hp},aw T (zC F1 H2) F9 H9 σ8 e' (fun _=>[])->aw T (zC F1 H2) F9 H9 σ8 (cA caps tn.length env) (fun _=>[]):=fun S9=>S9.wk rfl kl.symm fun j pv ej=>by
    have hj:j < caps.length:=by
     by_cases hj:j < caps.length
     ·exact hj
     ·unfold cA at ej
      rw[List.getElem?_append_right (by simpa using hj),List.getElem?_replicate]at ej
      split at ej<;>cases ej
    rw[kk j hj]
    exact ej
   have pinback:∀{H9:Hp}{s9:Shared},L2.Inv (cxC X scope (s2.heap.objs.size+1) N s2 H2 fpi) ([]++ gR fpi s7.heap) σ8 H9 s9->L2.Inv (cxC X scope (s2.heap.objs.size+1) N s2 H2 fpi) [] σ8 H9 s9/\tn_ (i+1) s9.heap/\∀b∈fpi,H9 b=none:=fun {H9 s9} i9 =>
    ⟨i9.unpinned,Tn.keep _ _ _ st7 fun b hb o e=>(i9.pin (b,o) (List.mem_append_right _ (List.mem_append_right _ (cE hb e)))).1,fun b hb=>by
     obtain⟨o,e,_⟩:=Tn.obj _ _ st7 b hb
     exact(i9.pin (b,o) (List.mem_append_right _ (List.mem_append_right _ (cE hb e)))).2.1⟩
   have emc:bG e'=.ok true:=rfl
   rw[emc]at ecl
   simp only[Res.ok_bind,if_true]at ecl
   refine never (thn (hts _ s8 σ8 H8 (fun b H9=>b=true/\∃F9,Gr Fi H8 F9 H9) inv8 ⟨zC F1 H2,Fi,e',fun _=>[],S8',?_⟩) fun ok s9 ⟨H9,inv9,eb,F9,g9⟩=>?_)
   ·rw[emc]
    exact fun H9 F9 g9=>⟨rfl,F9,g9⟩
   subst eb
   have S9:=S8'.grow g9
   have ry9:=ry.ext g9.ext g9.mono
   have nf9:∀a∈f,¬F9 a:=fun a ha z=>by
    rcases g9.only a z with z | z
    ·exact(nf5 a ha).1 z
    ·obtain⟨o,e⟩:=ry.there a ha
     rw[e]at z;cases z
   have nFD9:¬F9 s2.heap.objs.size:=fun z=>by
    rcases g9.only _ z with z | z
    ·exact nFD z
    ·rw[hD5]at z;cases z
   simp only[if_true]
   have hE:=t9 (T:=T) (W:=W) (scope:=scope) (N:=N) (use:=use) (Q':=Q') (acc:=.ref s2.heap.objs.size) hxc hst hfrm I2 f2
   cases eme:me e' with
    | stuck=>rw[eme]at ecl;rw[ecl]at q;exact q.elim
    | exc c =>
    rw[eme]at ecl
    rw[ecl]at q
    have q':∀H',Ext H H'->W c σ H':=q
    refine thn (hel _ _ hE _ s9 σ8 H9 (fun _ _=>False) (inv9.toX rfl) ⟨zC F1 H2,F9,e',fun _=>[],S9,?_⟩) fun _ _ ⟨_,_,_,_,z⟩=>z.elim
    rw[eme]
    exact fun H' hx=>q' H' (g1.ext.trans (ext5.trans (g9.ext.trans hx)))
    | ok y =>
    rw[eme]at ecl
    simp only[Res.ok_bind]at ecl
    split at ecl
    case isTrue=>rw[ecl]at q;exact q.elim
    rename_i hyb
    simp only[Bool.or_eq_true,not_or,Bool.not_eq_true]at hyb
    refine thn (hel _ _ hE _ s9 σ8 H9 (fun v' H10=>∃F10 f10,Gr F9 H9 F10 H10/\Rel T F10 (zC F1 H2).B (Own fun _=>[]) H10 y v' f10/\(∀a∈f10,¬F10 a)/\f10.Nodup/\∀a∈f10,H9 a=none) (inv9.toX rfl) ⟨zC F1 H2,F9,e',fun _=>[],S9,?_⟩) fun w s10 ⟨v',H10,inv10,rw10,F10,f10,g10,r10,n10,d10,w10⟩=>?_
    ·rw[eme]
     exact fun v' H10 F10 f10 g10 r10 n10 d10 w10=>⟨F10,f10,g10,r10,n10,d10,w10⟩
    replace inv10:=inv10.ofX rfl
    have hvl:vs.length < sizeLine:=by
     have h1:=ry.length
     have h2:sizeLine=16777216:=sizeLine_eq
     omega
    have hD10:H10 s2.heap.objs.size=some (.lst vs):=g10.ext _ _ (g9.ext _ _ hD5)
    refine never (thn (gX _ s10 σ8 H10 (.ref s2.heap.objs.size) [v'] (.ref s2.heap.objs.size) [w] (fun _ H11=>H11=upd H10 s2.heap.objs.size (.lst (vs++[v']))) inv10 rfl (.cons rw10 .nil) ⟨s2.heap.objs.size,vs,v',rfl,rfl,hD10,hvl,rfl⟩) fun _ s11 ⟨_,H11,inv11,_,e11⟩=>?_)
    subst e11
    obtain⟨i12,st12,fr12⟩:=pinback inv11
    have S10:=S9.grow g10
    have nFD10:¬F10 s2.heap.objs.size:=fun z=>by
     rcases g10.only _ z with z | z
     ·exact nFD9 z
     ·rw[g9.ext _ _ hD5]at z;cases z
    have ry10:=ry9.ext g10.ext g10.mono
    have ryy:RelL T F10 Z.B (Own fp) (upd H10 s2.heap.objs.size (.lst (vs++[v']))) (ys++[y]) (vs++[v']) (f++f10):=by
     have ry1:Rel T F10 Z.B (Own fp) H10 y v' f10:=Rel.noL hyb.2 (Rel.noB (B':=Z.B) hyb.1 r10)
     have all:RelL T F10 Z.B (Own fp) H10 (ys++[y]) (vs++[v']) (f++f10):=RelL.append ry10 (by unfold RelL;exact⟨v',[],f10,[],rfl,ry1,by unfold RelL;exact⟨rfl,rfl⟩,by simp⟩)
     refine RelL.tr (fun _ h=>h) (fun _ h=>h) (fun _ h=>h) (fun a o e h=>?_) (fun a ha o e=>?_) all
     ·refine(aE fun z=>?_).trans e
      subst z
      rcases h with h | h | h | h
      ·exact nFD10 h
      ·obtain⟨⟨o',h1⟩,h2⟩:=S2.hp.bo _ h
       rw[S2.hp.keep _ o' h1 h2]at hDH;cases hDH
      ·obtain⟨j,hj⟩:=h
       obtain⟨_,o',ho'⟩:=S2.dis j _ hj
       rw[hDH]at ho';cases ho'
      ·rw[hD10]at e;cases e;exact h
     ·refine(aE fun z=>?_).trans e
      subst z
      rcases List.mem_append.mp ha with ha | ha
      ·exact(nf5 _ ha).2.2 rfl
      ·have:=w10 _ ha
       rw[g9.ext _ _ hD5]at this;cases this
    have nf10:∀a∈f,¬F10 a:=fun a ha z=>by
     rcases g10.only a z with z | z
     ·exact nf9 a ha z
     ·obtain⟨o,e⟩:=ry9.there a ha
      rw[e]at z;cases z
    refine⟨xs.length - (i+1),by omega,i+1,σ8,_,F10,ys++[y],vs++[v'],f++f10,rfl,hlt5,i12,st12,fr12,back (S10.updD nFD10 hDH hD10 (fun z=>z)),aX,ryy,?_,fun a ha=>?_,nFD10,by simp;omega,?_⟩
    rotate_left 2
    ·rw[ecl]
     cases b_ g bG me (cA caps tn.length env) (xs.drop (i+1))with
     | ok zs=>simp only[Res.ok_bind,List.append_assoc];rfl
     | exc c | stuck=>rfl
    ·refine List.nodup_append.mpr ⟨nd5,d10,fun a ha b hb z=>?_⟩
     subst z
     obtain⟨o,e⟩:=ry9.there a ha
     rw[w10 a hb]at e;cases e
    ·rcases List.mem_append.mp ha with ha | ha
     ·exact⟨nf10 a ha,(nf5 a ha).2⟩
     ·refine⟨n10 a ha,?_,fun z=>?_⟩
      ·have:=w10 a ha
       exact ext5.free (g9.ext.free this)
      ·subst z
       have:=w10 _ ha
       rw[g9.ext _ _ hD5]at this;cases this
  ·have e:i=xs.length:=by omega
   subst e
   rw[List.drop_length]at ecl
   unfold b_ at ecl
   simp only[Res.ok_bind,List.append_nil]at ecl
   rw[ecl]at q
   simp only[Res.ok_bind]at q
   refine thn (Tn.done (cxC X scope (s2.heap.objs.size+1) N s2 H2 fpi) rfl rfl rfl hc xs.length [] s5 σ' H' _ inv5 (fpok (fun _ z=>absurd z (by simp)) fr5) st5 stop) fun r s6 ⟨hr,inv6⟩=>?_
   subst hr
   obtain⟨m,hn,_⟩:=id inv6.loc
   have hlc:X.env.locals < s2.heap.objs.size+1:=Nat.lt_succ_of_lt I2.lt
   have iX:L2.Inv X pins σ H' s6:=I2.call' inv6.os inv6.base inv6.hok inv6.bare fun b hb=>⟨(f2 b hb).2.2.2.1,(f2 b hb).2.1,(f2 b hb).2.2.2.2.1,(f2 b hb).2.2.2.2.2⟩
   refine hfin _ (s2.heap.objs.size+1) H' s6 m ?_ iX hn inv6.free (Nat.ne_of_gt hlc) (I2.nofs (Nat.le_succ _)) (Nat.le_trans I2.sz (Nat.le_succ _)) (fun x c e z=>?_) (fun p hp z=>?_)
   case refine_2 =>
    obtain⟨v,hv⟩:=I2.cell x c e
    rw[z]at hv
    exact absurd hv.lt (Nat.not_lt.mpr (Nat.le_succ _))
   case refine_3 =>
    have:=Heap.lt_size (I2.pin p hp).1
    rw[z]at this
    exact absurd this (Nat.not_lt.mpr (Nat.le_succ _))
   refine q (.ref s2.heap.objs.size) H' Fi (s2.heap.objs.size::f) (g1.trans gr5) ?_ (fun a ha=>?_) ?_ (fun a ha=>?_)
   ·unfold Rel
    exact⟨_,vs,f,rfl,hD5,ry,rfl⟩
   ·rcases List.mem_cons.mp ha with rfl | ha
    ·exact nFD
    ·exact(nf5 a ha).1
   ·exact List.nodup_cons.mpr ⟨fun z=>(nf5 _ z).2.2 rfl,nd5⟩
   ·rcases List.mem_cons.mp ha with rfl | ha
    ·exact g1.ext.free hDH
    ·exact g1.ext.free (nf5 a ha).2.1
 have st0:tn_ 0 h₁:=Tn.keep _ _ _ st2 fun b _ o e=>old b o e
 have lp:=key _ inv0 st0
 simp only[hC]
 exact codeAny_compStart_list lp (Tn.self _ 0 _ _ _ st0 lp)
theorem q_(hxc:XC X T W)(hst:X.stack=X.env::X.outer)(hfrm:X.env.frame=some X.env.locals)
  (cs:bU X scope caps N tn) (hc:X.calm=true) (hi:SIc X T W tg iter mi) (hk:dQ g caps.length)
  (hb:∀C s H ex,SG (cxC X scope C N s H ex) T tg g/\∀E Wb,XF ((cxC X scope C N s H ex).tryX E []) T Wb->SE ((cxC X scope C N s H ex).tryX E []) T Wb elt me)
  (hs:∀x,foldedSetIterable iter X.env x=pure x:=by intro _;rfl):SE X T W (.ListComp elt [⟨tg,iter,[],0⟩] scope pos) (et caps tn.length mi g me):=by
 intro pins s σ H Q I h
 rw[eval_ListComp]
 refine nQ hxc hst hfrm cs hc hi hk hb hs I h fun Dd C H' s6 m hq iX hn hCn hCl hCf hC0 hCc hCp=>⟨m,hn,fun h' hs'=>⟨.ref Dd,H',?_,rfl,hq⟩⟩
 exact iX.turned (t':=s6.toks) (fun b o hb e=>(hs'.2 b hb).trans e) hCn hCl (.inr hC0) hCc hCp
theorem rc
  (G:bH X.prog X.w X.K X.mg X.base (CXP X.prog X.w) k f fd ps (spM T ps.length m)) (rm:cj kk X.A) (xf:XF X T W) (hk:k<=kk) (hg:Gl X x) (hm:X.mg x=some (.ref f)) (hkp:PySem.W.keepIn X.K (.ref f)=true) (hb:cC X.K fd ps [])
  (hn:dB ms n) (hps:n=ps.length) (ha:SA X T W (e::es) ms)
  (hdb:(x ==("__debug__" : Str))=false:=by decide) (he:starEach (e::es) X.env=(false,eval e X.env)::starEach es X.env:=by rfl) (hpl:(backTo pos (starEach es X.env)).any (·.1)=false:=by rfl) :
  SE X T W (.Call (.Name x p) (e::es) [] pos) (ao (ax m) ms):=by
 have h:=oz (dvs:=[]) (dps:=[]) (p:=p) (pos:=pos) G (rm.mono hk) hg hm hkp hb .nil eJ xf (fun env xs q=>by rw[hn env xs q];exact hps) ha hdb he hpl
 simpa using h
end
section
variable{X:Cx}{T:Tb}{W:Nat->St->Hp->Prop}
theorem bR(ha:Bx (SE X T W a ma))(hb:Bx (SE X T W b mb)):Bx (SE X T W (.BinOp a .Add b pos) (mOp aM ma mb)):=.mk (a_ ha.out hb.out)
end
section
variable{X:Cx}{T:Tb}{W:Nat->St->Hp->Prop}{Z:Zn}{F F1 B L:Addr->Prop}{H H1:Hp}{σ:St}{env:En}{fp:Nat->List Addr}{D:Ends}{ks:List Nat}
theorem aw.drop(S:aw T Z F H σ env fp)(h0:n≠0):aw T Z F H σ (env.set n none) (bv fp n []):=by
 refine⟨S.hp,by rw[List.length_set,S.len],fun i pv e=>?_,fun i=>?_,fun i j hij a ha hb=>?_,fun i a ha=>?_,fun i a ha=>?_,fun i a ha=>?_,fun v hv=>?_⟩
 ·by_cases hi:i=n
  ·subst hi
   rw[List.getElem?_set]at e
   simp at e
  ·rw[List.getElem?_set_ne (Ne.symm hi)]at e
   obtain⟨v,h1,h2⟩:=S.rel i pv e
   exact⟨v,h1,by unfold bv;rw[if_neg hi];exact h2⟩
 ·unfold bv;split;exact List.nodup_nil;exact S.nd i
 ·unfold bv at ha hb
  split at ha
  ·cases ha
  ·split at hb
   ·cases hb
   ·exact S.dj i j hij a ha hb
 ·unfold bv at ha;split at ha;cases ha;exact S.dis i a ha
 ·unfold bv at ha;split at ha;cases ha;exact S.new i a ha
 ·unfold bv at ha;split at ha;cases ha;exact S.ch i a ha
 ·obtain⟨h1,h2⟩:=S.pn v hv
  refine⟨h1,?_⟩
  unfold b0 at h2 ⊢
  rw[List.getElem?_set_ne h0];exact h2
structure Orp(Z:Zn)(F:Addr->Prop)(fp:Nat->List Addr)(f:List Addr):Prop where
 nd:f.Nodup
 nf:∀b∈f,¬F b
 new:∀b∈f,Z.H0 b=none\/Z.fp0 b
 dj:∀b∈f,∀j,b∉fp j
end
open AutoSeq1 (wpAny_loadPart')
structure t3(K:PySem.W.Frag)(x qual:Str)(st:Stmt)(f:Addr)(fd:FuncData)(dT:Addr)(ds:List Value):Prop where
 ex:∃(oc:Value) (od:Option Addr) (kV doc pm:Value) (an:Option Addr) (cdv ct:Value) (osl:Array (Option Value)),
  fd=PySem.W.fnOf x qual (bF st) (aV st) (au st) (.ref dT) kV doc pm an cdv ct/\K.lookup f=some ⟨oc,od,.func fd,osl⟩/\PySem.W.codeIn K cdv qual=true
 kp:PySem.W.keepIn K (.ref f)=true
 dl:∃(o:Obj) (n:Nat),K.lookup dT=some o/\o.data=.seq ds.toArray n
section
variable{P:Program}{w:World}{mg:Str->Option Value}{base:Heap}{T:Tb}
theorem zd(F:t3 T.K x qual st f fd dT ds)(S:bT N ps (au st))
  (body:∀ (cdv:Value) (A:Around) (outer:List Env) (s:Shared) (H:Hp) (E:XK),Ctx (cz (CXP P w) P w T.K mg base N qual (au st) f cdv A outer s H E) T (WD T E) k ->
   SSs (cz (CXP P w) P w T.K mg base N qual (au st) f cdv A outer s H E) T (WD T E) (aV st) m):bH P w T.K mg base (CXP P w) (k+1) f fd ps (spM T ps.length (aR N.length m)):=by
 obtain⟨oc,od,kV,doc,pm,an,cdv,ct,osl,rfl,lk,hcd⟩:=F.ex
 refine oX lk hcd S (fun vs H Q E h=>h.1) fun A outer s H vs Q E hr hsp=>⟨_,body cdv A outer s H E (kU hr),?_⟩
 obtain⟨_,pvs,F,B,fl,R,q⟩:=hsp
 obtain⟨fp,S0⟩:=ig N R none (fun _ h=>nomatch h)
 refine⟨_,F,_,fp,S0,?_⟩
 unfold aR at q
 cases e:m (pvs.map some++List.replicate (N.length - pvs.length) none)with
 | next e'=>rw[e]at q;exact fun F' H' σ' fp' S'=>q F' H' .non [] S'.hp xH List.nodup_nil (fun _ z=>(nomatch z)) (fun _ z=>(nomatch z))
 | ret v=>rw[e]at q;exact q
 | brk e' | cont e'=>rw[e]at q;exact q.elim
 | exc c e'=>rw[e]at q;exact fun F' H' σ' fp' S'=>q H' S'.hp.keep
 | stuck=>rw[e]at q;exact q.elim
theorem t3.binds(F:t3 K x qual st f fd dT ds)
  (h:∀(kV doc pm:Value) (an:Option Addr) (cdv ct:Value) (us:List Value),(us++es).length=ps.length->∃k:Option (Array Value)->Sem (List (Str×Value)),bindArgs (PySem.W.fnOf x qual (bF st) (aV st) (au st) (.ref dT) kV doc pm an cdv ct) ⟨us,[]⟩=seqItems? (.ref dT) >>= k/\k (some ds.toArray)=pure (ps.zip (us++es))):cC K fd ps es:=by
 obtain⟨oc,od,kV,doc,pm,an,cdv,ct,osl,rfl,lk,hcd⟩:=F.ex
 obtain⟨o,n,lo,hd⟩:=F.dl
 intro s us KI hl
 obtain⟨k,h1,h2⟩:=h kV doc pm an cdv ct us hl
 exact BindsTo.of_defaults rfl (KI _ _ lo) hd h1 h2
end
section
variable{X:Cx}{T:Tb}{W:Nat->St->Hp->Prop}{Z:Zn}{F F1 B L:Addr->Prop}{H H1:Hp}{σ:St}{env:En}{fp:Nat->List Addr}
def fe:ME:=fun _=>.stuck
theorem df:SE X T W e fe:=fun pins s σ H Q I h=>by
 obtain⟨_,_,_,_,_,z⟩:=h
 exact z.elim
def mFz(m:ME):ME:=fun env=>(m env).bind fun v=>.ok (v.mapF Fl.freeze)
theorem AC(he:SE X T W e m):SE X T W e (mFz m):=PE.wk he fun σ H Q ⟨Z,F,env,fp,S,q⟩=>by
 unfold mFz at q
 refine⟨Z,F,env,fp,S,?_⟩
 cases em:m env with
 | stuck | exc c=>rw[em]at q;exact q
 | ok pv =>
  rw[em]at q
  simp only[Res.ok_bind]at q
  intro v H' F' f g r nf nd new
  refine q v H' (fun a=>F' a\/a∈f) [] ⟨g.ext,fun a h=>.inl (g.mono a h),fun a h=>h.elim (g.only a) fun z=>.inr (new a z),fun a h=>h.elim (g.dom a) fun z=>r.there a z⟩ (Rel.freeze (fun _ h=>.inl h) (fun a h=>.inr h) r) (fun _ h=>nomatch h) List.nodup_nil fun _ h=>nomatch h
end
open PySem.W (findIn fnOf keepIn nsIn codeIn isFn Frag)
structure FS where
 q:Str
 s:Stmt
 k:Nat
 N:List Str
 c:Option Nat
def aT(s:Stmt):Str:=match s with
 | .FunctionDef n _ _ _ _ _ _ _ _ _=>n
 | _ => ""
structure PT where
 F:List FS
 C:List Str
 X:List Str
 A:List Str
 M:List (Nat×Str×Nat)
 Mk:List (Nat×Nat)
 U:List (Nat×Nat)
 B:List Str
 I:List (Str×Int)
 KT:List (Option Nat×String×List Bool)
 HT:List (Nat×List Bool)
def fs0:FS:=⟨"", .Pass ⟨0,0,0,0⟩,0,[],none⟩
def pk{α:Type}(d:α)(l:List α)(i:Nat):α:=l.getD i (l.headD d)
theorem d9{α:Type}{d:α}{p:α->Prop}{l:List α}(hl:l≠[])(h:∀x∈l,p x)(i:Nat):p (pk d l i):=by
 unfold pk
 rw[List.getD_eq_getElem?_getD]
 cases e:l[i]? with
 | some C=>exact h C (List.mem_of_getElem? e)
 | none =>
  cases l with
  | nil=>exact absurd rfl hl
  | cons a l=>exact h a List.mem_cons_self
section
variable(p:PT)(K:Frag)
def gAt(x:Str):Addr:=match nsIn K mainGlobals x with
 | some (some (.ref a))=>a
 | _=>0
def mAt(c:Addr)(x:Str):Addr:=match findIn K (.ref c) x with
 | some (some (.ref a))=>a
 | _=>0
def dAt(f:Addr):FuncData:=match K.lookup f with
 | some ⟨_,_,.func d,_⟩=>d
 | _=>default
def PT.fs(i:Nat):FS:=pk fs0 p.F i
def PT.ps(i:Nat):List Str:=(p.fs i).N.take (p.fs i).k
def PT.ca(c:Nat):Addr:=gAt K (pk "" p.C c)
def PT.xa(c:Nat):Addr:=gAt K (pk "" p.X c)
def PT.fx(x:FS):Addr:=match x.c with
 | none=>gAt K (aT x.s)
 | some c=>mAt K (p.ca K c) (aT x.s)
def PT.fa(i:Nat):Addr:=p.fx K (p.fs i)
def lit(x:FS):Obj->Obj
 |⟨oc,od,.func d,sl⟩=>⟨oc,od,.func (fnOf (aT x.s) x.q (bF x.s) (aV x.s) (au x.s) .none d.kwdefaults d.doc d.pyModule d.annotations d.code d.closureTuple),sl⟩
 | o=>o
def Bw:Option Obj->Bool
 | some ⟨_,_,.func _,_⟩=>true
 | _=>false
def scB(x:FS):Bool:=decide ((au x.s).kind=.function)&&!(au x.s).isCoroutine&&!(au x.s).isGenerator&&decide x.N.Nodup&&decide (x.k<=x.N.length) &&
 (x.N.take x.k).all (fun y=>decide ((au x.s).names.lookup y=some .local \/(au x.s).names.lookup y=some .cell))&&(au x.s).names.all (fun y=>decide (y.2≠.free))
def PT.chF(x:FS):Bool:=Bw (K.lookup (p.fx K x))&&codeIn K (dAt K (p.fx K x)).code x.q&&keepIn K (.ref (p.fx K x))&&(match x.c with | none=>decide (nsIn K mainGlobals (aT x.s)=some (some (.ref (p.fx K x)))) | some _=>true)
def chC(A:List Str)(x:Str):Bool:=PySem.W.plainGet K (gAt K x) Str.empty&&PySem.W.hasDictIn K (gAt K x)&&PySem.W.plainOver K (gAt K x)&&decide (findIn K (.ref (gAt K x)) "__setattr__" = some (some (.builtin "object.__setattr__"))) &&
 decide (nsIn K mainGlobals x=some (some (.ref (gAt K x))))&&A.all (fun y=>decide (findIn K (.ref (gAt K x)) y=some none))
def PT.chM(x:Nat×Str×Nat):Bool:=decide (findIn K (.ref (p.ca K x.1)) x.2.1=some (some (.ref (p.fa K x.2.2))))&&isFn K (.ref (p.fa K x.2.2))&&keepIn K (.ref (p.fa K x.2.2))
def PT.chK(x:Nat×Nat):Bool:=PySem.W.makesIn K (p.ca K x.1)&&decide (findIn K (.ref (p.ca K x.1)) "__init__" = some (some (.ref (p.fa K x.2))))&&isFn K (.ref (p.fa K x.2))&&keepIn K (.ref (p.ca K x.1))
def wG(f:Addr):Option PySem.W.CFound->Bool
 | some (.val (.ref a))=>decide (a=f)
 | _=>false
def PT.chU(x:Nat×Nat):Bool:=decide (PySem.W.specialIn K (.ref (p.ca K x.1)) "__getattribute__" = some (some (.builtin "type.__getattribute__")))&&PySem.W.readsIn K (p.ca K x.1) (.type "type")&&wG (p.fa K x.2) (PySem.W.findCls K (.ref (p.ca K x.1)) (.type "type") "__init__")&&keepIn K (.ref (p.fa K x.2))
def tgV(y:Option Nat×String×List Bool):Value:=match y.1 with
 | some x=>.ref (p.xa K x)
 | none=>.type y.2.1
def chX(x:Str):Bool:=decide (nsIn K mainGlobals x=some (some (.ref (gAt K x))))&&qi K (gAt K x)
def chI(x:Str×Int):Bool:=match nsIn K mainGlobals x.1 with
 | some (some (.int i _))=>decide (i=x.2)
 | _=>false
def PT.chT(y:Option Nat×String×List Bool):Bool:=decide (p.X.map (fun x=>PySem.W.kitOne K (.ref (gAt K x)) (tgV p K y))=y.2.2.map some)
def PT.chH(y:Nat×List Bool):Bool:=decide (p.X.map (fun x=>PySem.W.exmOne K (.ref (gAt K x)) (.ref (p.xa K y.1)))=y.2.map some)
def PT.ch1:Bool:=p.F.all (p.chF K)
def PT.ch2:Bool:=p.C.all (chC K p.A)&&p.Mk.all (p.chK K)&&p.U.all (p.chU K)&&p.X.all (chX K)&&p.B.all (fun x=>decide (nsIn K mainGlobals x=some none))&&p.I.all (chI K)&&p.KT.all (p.chT K)&&p.HT.all (p.chH K)
def PT.ch3:Bool:=p.M.all (p.chM K)
def PT.ob:List (Option Obj):=p.F.map fun x=>K.lookup (p.fx K x)
def PT.ol:List (Option Obj):=p.F.map fun x=>(K.lookup (p.fx K x)).map (lit x)
end
structure Tx(p:PT)(K:Frag)(mg:Str->Option Value):Prop where
 fn:∀i,Fun K (aT (p.fs i).s) (p.fs i).q (p.fs i).s (p.fa K i) (dAt K (p.fa K i))
 sc:∀i,bT (p.fs i).N (p.ps i) (au (p.fs i).s)
 bn:∀i,cC K (dAt K (p.fa K i)) (p.ps i) []
 gl:∀i,(p.fs i).c=none->mg (aT (p.fs i).s)=some (.ref (p.fa K i))
 cl:∀c,Cls K (p.ca K c)
 cg:∀c,mg (pk "" p.C c)=some (.ref (p.ca K c))
 cn:∀c,∀x∈p.A,cS K (p.ca K c) x
 me:∀x∈p.M,wb K (p.ca K x.1) x.2.1 (p.fa K x.2.2)
 mm:∀x∈p.Mk,Mk K (p.ca K x.1) (p.fa K x.2)
 su:∀x∈p.U,Sup K (p.ca K x.1) (p.fa K x.2)
 xg:∀c,mg (pk "" p.X c)=some (.ref (p.xa K c))
 xe:∀c,qi K (p.xa K c)=true
 bi:∀x∈p.B,mg x=none
 ci:∀x∈p.I,∃tk,mg x.1=some (.int x.2 tk)
 kt:∀y∈p.KT,∀c,PySem.W.kitOne K (.ref (p.xa K c)) (tgV p K y)=some (bB y.2.2 c)
 ht:∀y∈p.HT,∀c,PySem.W.exmOne K (.ref (p.xa K c)) (.ref (p.xa K y.1))=some (bB y.2 c)
def Bnd(x:FS):Prop:=∀(kV doc pm:Value) (an:Option Addr) (cdv ct:Value) (us:List Value),us.length=(x.N.take x.k).length->bindArgs (fnOf (aT x.s) x.q (bF x.s) (aV x.s) (au x.s) .none kV doc pm an cdv ct) ⟨us,[]⟩=pure ((x.N.take x.k).zip us)
def t7:List FS->Prop
 | []=>True
 | x::l=>Bnd x/\t7 l
theorem t7.get:∀{l:List FS},t7 l->∀x∈l,Bnd x
 | [],_,_,h=>nomatch h
 | y::l,⟨h1,h2⟩,x,h=>by
  rcases List.mem_cons.mp h with rfl | h
  ·exact h1
  ·exact h2.get x h
section
variable{x:FS}
theorem lsS{us:List Value}(h:us.length=n+1):∃a r,us=a::r/\r.length=n:=by
 cases us with
 | nil=>cases h
 | cons a r=>exact⟨a,r,rfl,Nat.succ.inj h⟩
theorem bn1(h:∀(kV doc pm:Value) (an:Option Addr) (cdv ct u1:Value),bindArgs (fnOf (aT x.s) x.q (bF x.s) (aV x.s) (au x.s) .none kV doc pm an cdv ct) ⟨[u1],[]⟩=pure ((x.N.take x.k).zip [u1]):=by intros;rfl)(hk:(x.N.take x.k).length=1:=by rfl):Bnd x:=fun kV doc pm an cdv ct us hl=>by
 rw[hk]at hl
 obtain⟨_,_,rfl,l1⟩:=lsS hl
 cases List.eq_nil_of_length_eq_zero l1
 exact h ..
theorem bn2(h:∀(kV doc pm:Value) (an:Option Addr) (cdv ct u1 u2:Value),bindArgs (fnOf (aT x.s) x.q (bF x.s) (aV x.s) (au x.s) .none kV doc pm an cdv ct) ⟨[u1,u2],[]⟩=pure ((x.N.take x.k).zip [u1,u2]):=by intros;rfl)(hk:(x.N.take x.k).length=2:=by rfl):Bnd x:=fun kV doc pm an cdv ct us hl=>by
 rw[hk]at hl
 obtain⟨_,_,rfl,l1⟩:=lsS hl
 obtain⟨_,_,rfl,l2⟩:=lsS l1
 cases List.eq_nil_of_length_eq_zero l2
 exact h ..
theorem bn3(h:∀(kV doc pm:Value) (an:Option Addr) (cdv ct u1 u2 u3:Value),bindArgs (fnOf (aT x.s) x.q (bF x.s) (aV x.s) (au x.s) .none kV doc pm an cdv ct) ⟨[u1,u2,u3],[]⟩=pure ((x.N.take x.k).zip [u1,u2,u3]):=by intros;rfl)(hk:(x.N.take x.k).length=3:=by rfl):Bnd x:=fun kV doc pm an cdv ct us hl=>by
 rw[hk]at hl
 obtain⟨_,_,rfl,l1⟩:=lsS hl
 obtain⟨_,_,rfl,l2⟩:=lsS l1
 obtain⟨_,_,rfl,l3⟩:=lsS l2
 cases List.eq_nil_of_length_eq_zero l3
 exact h ..
theorem bn4(h:∀(kV doc pm:Value) (an:Option Addr) (cdv ct u1 u2 u3 u4:Value),bindArgs (fnOf (aT x.s) x.q (bF x.s) (aV x.s) (au x.s) .none kV doc pm an cdv ct) ⟨[u1,u2,u3,u4],[]⟩=pure ((x.N.take x.k).zip [u1,u2,u3,u4]):=by intros;rfl)(hk:(x.N.take x.k).length=4:=by rfl):Bnd x:=fun kV doc pm an cdv ct us hl=>by
 rw[hk]at hl
 obtain⟨_,_,rfl,l1⟩:=lsS hl
 obtain⟨_,_,rfl,l2⟩:=lsS l1
 obtain⟨_,_,rfl,l3⟩:=lsS l2
 obtain⟨_,_,rfl,l4⟩:=lsS l3
 cases List.eq_nil_of_length_eq_zero l4
 exact h ..
theorem bn5(h:∀(kV doc pm:Value) (an:Option Addr) (cdv ct u1 u2 u3 u4 u5:Value),bindArgs (fnOf (aT x.s) x.q (bF x.s) (aV x.s) (au x.s) .none kV doc pm an cdv ct) ⟨[u1,u2,u3,u4,u5],[]⟩=pure ((x.N.take x.k).zip [u1,u2,u3,u4,u5]):=by intros;rfl)(hk:(x.N.take x.k).length=5:=by rfl):Bnd x:=fun kV doc pm an cdv ct us hl=>by
 rw[hk]at hl
 obtain⟨_,_,rfl,l1⟩:=lsS hl
 obtain⟨_,_,rfl,l2⟩:=lsS l1
 obtain⟨_,_,rfl,l3⟩:=lsS l2
 obtain⟨_,_,rfl,l4⟩:=lsS l3
 obtain⟨_,_,rfl,l5⟩:=lsS l4
 cases List.eq_nil_of_length_eq_zero l5
 exact h ..
theorem bn6(h:∀(kV doc pm:Value) (an:Option Addr) (cdv ct u1 u2 u3 u4 u5 u6:Value),bindArgs (fnOf (aT x.s) x.q (bF x.s) (aV x.s) (au x.s) .none kV doc pm an cdv ct) ⟨[u1,u2,u3,u4,u5,u6],[]⟩=pure ((x.N.take x.k).zip [u1,u2,u3,u4,u5,u6]):=by intros;rfl)(hk:(x.N.take x.k).length=6:=by rfl):Bnd x:=fun kV doc pm an cdv ct us hl=>by
 rw[hk]at hl
 obtain⟨_,_,rfl,l1⟩:=lsS hl
 obtain⟨_,_,rfl,l2⟩:=lsS l1
 obtain⟨_,_,rfl,l3⟩:=lsS l2
 obtain⟨_,_,rfl,l4⟩:=lsS l3
 obtain⟨_,_,rfl,l5⟩:=lsS l4
 obtain⟨_,_,rfl,l6⟩:=lsS l5
 cases List.eq_nil_of_length_eq_zero l6
 exact h ..
end
theorem qD{l:List Str}{α:Type}{f:Addr->Option Bool}{bs:List Bool}(hl:l≠[])(h:l.map (fun x=>f (gAt K x))=bs.map some)(c:Nat):f (gAt K (pk "" l c))=some (bB bs c):=by
 have e:gAt K (pk "" l c)=uW (l.map (gAt K)) c:=by
  unfold pk uW
  cases l with
  | nil=>exact absurd rfl hl
  | cons a l =>
   rw[List.getD_eq_getElem?_getD,List.getD_eq_getElem?_getD,List.getElem?_map]
   cases(a::l)[c]?<;>rfl
 rw[e]
 exact rN (g:=id) (by simpa using hl) (by rw[List.map_map];exact h) c
theorem Tx.of{p:PT}{K:Frag}{h:Heap}{mg:Str->Option Value}(X:K.In h)(N:h.Ns mainGlobals mg)(hb:t7 p.F)(hs:p.F.all scB=true)(hF:p.F≠[])(hC:p.C≠[])(hX:p.X≠[])
  (e:p.ob K=p.ol K) (h1:p.ch1 K=true) (h2:p.ch2 K=true) (h3:p.ch3 K=true):Tx p K mg:=by
 simp only[PT.ch2,Bool.and_eq_true,List.all_eq_true,decide_eq_true_eq]at h2
 obtain⟨⟨⟨⟨⟨⟨⟨c1,c2⟩,c3⟩,c4⟩,c5⟩,c6⟩,c7⟩,c8⟩:=h2
 simp only[PT.ch1,PT.ch3,List.all_eq_true]at h1 h3 hs
 have fnx:∀x∈p.F,Fun K (aT x.s) x.q x.s (p.fx K x) (dAt K (p.fx K x)):=fun x hx=>by
  have q:=h1 x hx
  simp only[PT.chF,Bool.and_eq_true]at q
  obtain⟨⟨⟨q1,q2⟩,q3⟩,_⟩:=q
  have e1:K.lookup (p.fx K x)=(K.lookup (p.fx K x)).map (lit x):=List.map_inj_left.mp e x hx
  cases eo:K.lookup (p.fx K x)with
  | none=>rw[eo]at q1;cases q1
  | some o =>
   rw[eo]at e1 q1
   obtain⟨oc,od,dt,sl⟩:=o
   cases dt with
   | func d =>
    have e2:(⟨oc,od,.func d,sl⟩:Obj)=lit x ⟨oc,od,.func d,sl⟩:=Option.some.inj e1
    simp only[lit,Obj.mk.injEq,Data.func.injEq,true_and,and_true]at e2
    have ed:dAt K (p.fx K x)=d:=by unfold dAt;rw[eo]
    rw[ed]at q2 ⊢
    exact⟨⟨oc,od,d.kwdefaults,d.doc,d.pyModule,d.annotations,d.code,d.closureTuple,sl,e2,eo,q2⟩,q3⟩
   | _=>cases q1
 have scx:∀x∈p.F,bT x.N (x.N.take x.k) (au x.s):=fun x hx=>by
  have q:=hs x hx
  simp only[scB,Bool.and_eq_true,decide_eq_true_eq,List.all_eq_true,Bool.not_eq_true']at q
  obtain⟨⟨⟨⟨⟨⟨q1,q2⟩,q3⟩,q4⟩,q5⟩,q6⟩,q7⟩:=q
  exact⟨q1,q2,q3,q4,by rw[List.length_take,Nat.min_eq_left q5],q6,q7⟩
 have clx:∀x∈p.C,(Cls K (gAt K x)/\mg x=some (.ref (gAt K x)))/\∀y∈p.A,cS K (gAt K x) y:=fun x hx=>by
  have q:=c1 x hx
  simp only[chC,Bool.and_eq_true,decide_eq_true_eq,List.all_eq_true]at q
  obtain⟨⟨⟨⟨⟨q1,q2⟩,q3⟩,q4⟩,q5⟩,q6⟩:=q
  exact⟨⟨⟨q1,q2,q3,q4⟩,PySem.W.mg_of X N q5⟩,q6⟩
 have xx:∀x∈p.X,mg x=some (.ref (gAt K x))/\qi K (gAt K x)=true:=fun x hx=>by
  have q:=c4 x hx
  simp only[chX,Bool.and_eq_true,decide_eq_true_eq]at q
  exact⟨PySem.W.mg_of X N q.1,q.2⟩
 refine ⟨d9 (p:=fun x=>Fun K (aT x.s) x.q x.s (p.fx K x) (dAt K (p.fx K x))) hF fnx,d9 (p:=fun x=>bT x.N (x.N.take x.k) (au x.s)) hF scx,d9 (p:=fun x=>cC K (dAt K (p.fx K x)) (x.N.take x.k) []) hF fun x hx=>(fnx x hx).binds (hb.get x hx),
  d9 (p:=fun x=>x.c=none->mg (aT x.s)=some (.ref (p.fx K x))) hF fun x hx hc=>?_,d9 (p:=fun x=>Cls K (gAt K x)) hC fun x hx=>(clx x hx).1.1,d9 (p:=fun x=>mg x=some (.ref (gAt K x))) hC fun x hx=>(clx x hx).1.2,
  d9 (p:=fun x=>∀y∈p.A,cS K (gAt K x) y) hC fun x hx=>(clx x hx).2,fun x hx=>?_,fun x hx=>?_,fun x hx=>?_,d9 (p:=fun x=>mg x=some (.ref (gAt K x))) hX fun x hx=>(xx x hx).1,d9 (p:=fun x=>qi K (gAt K x)=true) hX fun x hx=>(xx x hx).2,
  fun x hx=>PySem.W.mg_none_of X N (c5 x hx),fun x hx=>?_,fun y hy c=>?_,fun y hy c=>?_⟩
 ·have q:=h1 x hx
  simp only[PT.chF,Bool.and_eq_true]at q
  have q:=q.2
  rw[hc]at q
  exact PySem.W.mg_of X N (of_decide_eq_true q)
 ·have q:=h3 x hx
  simp only[PT.chM,Bool.and_eq_true,decide_eq_true_eq]at q
  exact⟨q.1.1,q.1.2,q.2⟩
 ·have q:=c2 x hx
  simp only[PT.chK,Bool.and_eq_true,decide_eq_true_eq]at q
  exact⟨q.1.1.1,q.1.1.2,q.1.2,q.2⟩
 ·have q:=c3 x hx
  simp only[PT.chU,Bool.and_eq_true,decide_eq_true_eq]at q
  refine⟨q.1.1.1,q.1.1.2,?_,q.2⟩
  have q:=q.1.2
  unfold wG at q
  split at q
  ·rename_i a e
   rw[e,of_decide_eq_true q]
  ·cases q
 ·have q:=c6 x hx
  unfold chI at q
  split at q
  ·rename_i i tk e
   exact⟨tk,by rw[<- of_decide_eq_true q];exact PySem.W.mg_of X N e⟩
  ·cases q
 ·exact qD (α:=Bool) (f:=fun a=>PySem.W.kitOne K (.ref a) (tgV p K y)) hX (of_decide_eq_true (c7 y hy)) c
 ·exact qD (α:=Bool) (f:=fun a=>PySem.W.exmOne K (.ref a) (.ref (p.xa K y.1))) hX (of_decide_eq_true (c8 y hy)) c
def PT.attOk(p:PT):Prop:=p.A.Nodup/\p.A.all gQ=true
@[reducible] def PT.T(p:PT)(h:p.attOk)(K:Frag):Tb where
 K:=K
 nc:=p.C.length
 cls:=p.ca K
 att:=gH p.A
 inj:=qq h.1 h.2
 xcl:=p.xa K
section
variable{p:PT}{K:Frag}{mg:Str->Option Value}
theorem Tx.cls(t:Tx p K mg)(n:Nat):∀c < n,Cls K (p.ca K c):=fun c _=>t.cl c
theorem Tx.xc(t:Tx p K mg)(c:Nat):jN K (p.xa K c):=(o7 (t.xe c)).1
theorem Tx.b(t:Tx p K mg)(j:Nat)(h:p.B[j]?=some x:=by rfl):mg x=none:=t.bi x (List.mem_of_getElem? h)
theorem Tx.c(t:Tx p K mg)(j:Nat)(h:p.I[j]?=some (x,i):=by rfl):∃tk,mg x=some (.int i tk):=t.ci (x,i) (List.mem_of_getElem? h)
theorem Tx.k(t:Tx p K mg)(j:Nat)(h:p.KT[j]?=some y:=by rfl)(c:Nat):PySem.W.kitOne K (.ref (p.xa K c)) (tgV p K y)=some (bB y.2.2 c):=t.kt y (List.mem_of_getElem? h) c
end
open PySem.W (keepIn Frag)
section
variable{P:Program}{w:World}{K:Frag}{mg:Str->Option Value}{base:Heap}{p:PT}{hA:p.attOk}
abbrev OkF(p:PT)(hA:p.attOk)(P:Program)(w:World)(K:Frag)(mg:Str->Option Value)(base:Heap)(k i:Nat)(m:List PV->Res PV):Prop:=bH P w K mg base (CXP P w) k (p.fa K i) (dAt K (p.fa K i)) (p.ps i) (spM (p.T hA K) (p.ps i).length m)
abbrev OkI(p:PT)(hA:p.attOk)(P:Program)(w:World)(K:Frag)(mg:Str->Option Value)(base:Heap)(k i:Nat)(m:List PV->Res PV):Prop:=bH P w K mg base (CXP P w) k (p.fa K i) (dAt K (p.fa K i)) (p.ps i) (spI (p.T hA K) (p.ps i).length m)
theorem okC(i:Nat)(t:Tx p K mg)(body:∀ (cdv:Value) (A:Around) (outer:List Env) (s:Shared) (H:Hp) (E:XK),Ctx (cz (CXP P w) P w K mg base (p.fs i).N (p.fs i).q (au (p.fs i).s) (p.fa K i) cdv A outer s H E) (p.T hA K) (WD (p.T hA K) E) k->(p.fs i).N.Nodup ->
  SSs (cz (CXP P w) P w K mg base (p.fs i).N (p.fs i).q (au (p.fs i).s) (p.fa K i) cdv A outer s H E) (p.T hA K) (WD (p.T hA K) E) (aV (p.fs i).s) m):OkF p hA P w K mg base (k+1) i (aR (p.fs i).N.length m) :=
 ze (T:=p.T hA K) (t.fn i) (t.sc i) fun a b c d e f g=>body a b c d e f g (t.sc i).nd
theorem okI(i:Nat)(t:Tx p K mg)(body:∀ (cdv:Value) (A:Around) (outer:List Env) (s:Shared) (H:Hp) (E:XK),Ctx (cz (CXP P w) P w K mg base (p.fs i).N (p.fs i).q (au (p.fs i).s) (p.fa K i) cdv A outer s H E) (p.T hA K) (WD (p.T hA K) E) k->(p.fs i).N.Nodup ->
  SSs (cz (CXP P w) P w K mg base (p.fs i).N (p.fs i).q (au (p.fs i).s) (p.fa K i) cdv A outer s H E) (p.T hA K) (WD (p.T hA K) E) (aV (p.fs i).s) m):OkI p hA P w K mg base (k+1) i (gN (p.fs i).N.length m) :=
 vM (T:=p.T hA K) (t.fn i) (t.sc i) fun a b c d e f g=>body a b c d e f g (t.sc i).nd
theorem dm{X:Cx}{k k2 i c:Nat}{mn:Str}{m m':List PV->Res PV}{ps:List Str}(j:Nat)(t:Tx p X.K X.mg)(G:bH X.prog X.w X.K X.mg X.base (CXP X.prog X.w) k (p.fa X.K i) (dAt X.K (p.fa X.K i)) ps (spM (p.T hA X.K) ps.length m))(e:some m=some m')(hj:p.M[j]?=some (c,mn,i):=by rfl)(hp:p.ps i=ps:=by rfl)(hk:k<=k2:=by decide) :
  ∃f fd,wb X.K (p.ca X.K c) mn f/\cC X.K fd ps []/\bH X.prog X.w X.K X.mg X.base (CXP X.prog X.w) k2 f fd ps (spM (p.T hA X.K) ps.length m'):=by
 cases e
 exact⟨_,_,t.me _ (List.mem_of_getElem? hj),hp▸t.bn i,G.mono hk⟩
end
theorem dno{n c:Nat}{q:Prop}(h:c < n)(hc:n<=c:=by exact Nat.le_add_left _ _):q:=absurd h (Nat.not_lt.mpr hc)
section
variable{X:Cx}{W:Nat->St->Hp->Prop}{p:PT}{hA:p.attOk}
theorem aJ(t:Tx p X.K X.mg)
  (G:bH X.prog X.w X.K X.mg X.base (CXP X.prog X.w) k (p.fa X.K i) (dAt X.K (p.fa X.K i)) (p.ps i) (spM (p.T hA X.K) (p.ps i).length m)) (cx:Ctx X (p.T hA X.K) W kk) (ha:SA X (p.T hA X.K) W (e::es) ms)
  (hk:k<=kk:=by decide) (hx:aT (p.fs i).s=x:=by rfl) (hc:(p.fs i).c=none:=by rfl) (hg:Gl X x:=by rfl) (hn:dB ms n:=by repeat' first | exact aq | apply ae) (hps:n=(p.ps i).length:=by rfl)
  (hdb:(x ==("__debug__" : Str))=false:=by decide) (he:starEach (e::es) X.env=(false,eval e X.env)::starEach es X.env:=by rfl) (hpl:(backTo pos (starEach es X.env)).any (·.1)=false:=by rfl) :
  SE X (p.T hA X.K) W (.Call (.Name x np) (e::es) [] pos) (ao (ax m) ms) :=
 lw G cx hk hg (by subst hx;exact t.gl i hc) (t.fn i).kp (t.bn i) hn hps ha hdb he hpl
theorem eU(t:Tx p X.K X.mg)
  (D:iB X (p.T hA X.K) k mn ps [] disp) (cx:Ctx X (p.T hA X.K) W kk) (ho:SE X (p.T hA X.K) W o mo) (ha:SA X (p.T hA X.K) W (e::es) ms)
  (hm:∀k,gH p.A k≠mn:=by exact tX (by decide +kernel) (by decide +kernel)) (hk:k<=kk:=by decide) (hn:dB ms n:=by repeat' first | exact aq | apply ae) (hps:n+1=ps.length:=by rfl)
  (hst:starEach (e::es) X.env=(false,eval e X.env)::starEach es X.env:=by rfl) (hpl:(backTo pos (starEach es X.env)).any (·.1)=false:=by rfl)
  (ht:eval (.Call (.Attribute o mn apos) (e::es) [] pos) X.env=(do
   let ov <- eval o X.env
   standAt apos.atName
   let(f,first) <- holding [ov] (getMethod ov mn pl)
   callWith pos f first (backTo pos (starEach (e::es) X.env)) (backToKw pos (keywordEach [] X.env))):=by rfl) :
  SE X (p.T hA X.K) W (.Call (.Attribute o mn apos) (e::es) [] pos) (cQ disp mo ms) :=
 xy (pl:=pl) cx (t.cls _) hm D hk hn hps ho ha hst hpl ht
theorem pI(c:Nat)(t:Tx p X.K X.mg)
  (G:bH X.prog X.w X.K X.mg X.base (CXP X.prog X.w) k (p.fa X.K i) (dAt X.K (p.fa X.K i)) (p.ps i) (spI (p.T hA X.K) (p.ps i).length m)) (cx:Ctx X (p.T hA X.K) W kk) (ha:SA X (p.T hA X.K) W (e::es) ms)
  (hM:(c,i)∈ p.Mk:=by decide) (hcn:c < p.C.length:=by decide) (hk:k+1<=kk:=by decide) (hx:pk ("" : Str) p.C c=x:=by rfl) (hg:Gl X x:=by rfl) (hn:dB ms n:=by repeat' first | exact aq | apply ae) (hps:n+1=(p.ps i).length:=by rfl)
  (hdb:(x ==("__debug__" : Str))=false:=by decide) (he:starEach (e::es) X.env=(false,eval e X.env)::starEach es X.env:=by rfl) (hpl:(backTo pos (starEach es X.env)).any (·.1)=false:=by rfl) :
  SE X (p.T hA X.K) W (.Call (.Name x np) (e::es) [] pos) (jE c m ms) :=
 xw (t.mm _ hM) hcn G cx hk hg (by subst hx;exact t.cg c) (t.bn i) hn hps ha hdb he hpl
theorem aU(k:Nat)(t:Tx p X.K X.mg)(cx:Ctx X (p.T hA X.K) W kk)(he:SE X (p.T hA X.K) W e m)(hf:gH p.A k=f:=by rfl)(hm:f∈p.A:=by decide)(hb:attributeBase e f X.env (eval e X.env)=eval e X.env:=by rfl) :
  SE X (p.T hA X.K) W (.Attribute e f pos) (mUn (aQ k) m):=uD cx.hK hf (t.cls _) (fun c _=>t.cn c f hm) he hb
theorem dh(ha:SA X T W es ms)(hn:dB ms n:=by repeat' first | exact aq | apply ae)(hs:n<=1000:=by decide):SE X T W (.List es pos) (aZ ms):=qW ha hn hs
theorem ky{x1}(ha:SA X T W es ms)(hn:dB ms n:=by repeat' first | exact aq | apply ae)(hs:n<=1000:=by decide):SE X T W (.Tuple es x1 pos) (ba ms):=qS ha hn hs
theorem aK(cx:Ctx X T W kk)(ha:SE X T W a ma)(hb:SE X T W b mb)(hs:gI b:=by exact fun _ _=>rfl):SE X T W (.Subscript a b pos) (mOp az ma mb):=xB cx.hK ha hb hs
theorem a6(hN:X.N.Nodup)(he:SE X T W e m)(hi:X.N[i]?=some x:=by rfl)(hx:Loc X.env.scope x:=by first | exact .inl rfl | exact .inr rfl)(hs:swapsWith e (some (.Name x pos')) pos.line X.env=pure false:=by rfl)
  (hf:X.fn x=true\/X.env.scope.names.lookup x=some .local:=by first | exact .inl rfl | exact .inr rfl | assumption):SS X T W (.Assign [.Name x pos'] e pos) (aD i m):=qG hN hi hx he hs hf
theorem sgN(hN:X.N.Nodup)(hi:X.N[i]?=some x:=by rfl)(hx:Loc X.env.scope x:=by first | exact .inl rfl | exact .inr rfl)(hf:X.fn x=true\/X.env.scope.names.lookup x=some .local:=by first | exact .inl rfl | exact .inr rfl | assumption):SG X T (.Name x pos) (tgN i):=uq hN hi hx hf
theorem dD(h:k<=i:=by decide):dQ (tgN i) k:=qz h
theorem rk(cx:Ctx X T W kk)(he:SE X T W e m)(hN:X.N[i]?=some x:=by rfl)(hv:Vis X.env.scope x:=by first | exact Or.inl rfl | exact Or.inr (Or.inl rfl) | exact Or.inr (Or.inr rfl))
  (hs:swapsWith (.Call (.Attribute (.Name x px) "append" apos) [e] [] cpos) none pos.line X.env=pure false:=by rfl) (hst:starEach [e] X.env=[(false,eval e X.env)]:=by rfl)
  (hfew:((backTo cpos (starEach [e] X.env)).all (fun x=>!x.1)&&(backToKw cpos (keywordEach [] X.env)).all (fun x=>x.1.isSome)&&decide ([e].length+([]:List Keyword).length+(if([]:List Keyword).isEmpty then 0 else 1) < 30))=true:=by rfl)
  (hline:(apos.endLine==cpos.line)=true:=by rfl) (hd:(x ==("__debug__" : Str))=false:=by decide) (hcd:(x ==("__classdict__" : Str))=false:=by decide) :
  SS X T W (.Expr (.Call (.Attribute (.Name x px) "append" apos) [e] [] cpos) pos) (bE i m):=pC cx.hK hN hv he hs hst hfew hline hd hcd
theorem sFld(k:Nat)(t:Tx p X.K X.mg)(cx:Ctx X (p.T hA X.K) W kk)(he:SE X (p.T hA X.K) W e m)(hf:gH p.A k=f:=by rfl)(hm:f∈p.A:=by decide)(hN:X.N[i]?=some x:=by rfl)
  (hv:Vis X.env.scope x:=by first | exact Or.inl rfl | exact Or.inr (Or.inl rfl) | exact Or.inr (Or.inr rfl))
  (hs:swapsWith e (some (.Attribute (.Name x px) f pos')) pos.line X.env=pure false:=by rfl) (hd:(x ==("__debug__" : Str))=false:=by decide) (hcd:(x ==("__classdict__" : Str))=false:=by decide) :
  SS X (p.T hA X.K) W (.Assign [.Attribute (.Name x px) f pos'] e pos) (fg i k m):=xq cx.hK hf (t.cls _) (fun c _=>t.cn c f hm) hN hv he hs hd hcd
theorem aO(c:Nat)(t:Tx p X.K X.mg)(cx:Ctx X (p.T hA X.K) W k)(hB:X.K.In X.base)(hx:XM X (p.T hA X.K) W)(ha:SA X (p.T hA X.K) W (e::es) ms)
  (hm:pk ("" : Str) p.X c=x:=by rfl) (hg:Gl X x:=by rfl) (hn:dB ms n:=by repeat' first | exact aq | apply ae) (hn2:n<=100:=by decide) (hd:(x ==("__debug__" : Str))=false:=by decide)
  (he:starEach (e::es) X.env=(false,eval e X.env)::starEach es X.env:=by rfl) (hpl:(backTo cpos (starEach es X.env)).any (·.1)=false:=by rfl) :
  SS X (p.T hA X.K) W (.Raise (some (.Call (.Name x np) (e::es) [] cpos)) none pos) (aC c ms) :=
 pB cx (by subst hm;exact t.xg c) hB (o7 (t.xe c)).2 hx hg hn hn2 ha hd he hpl
theorem m4(c:Nat)(t:Tx p X.K X.mg)
  (G:bH X.prog X.w X.K X.mg X.base (CXP X.prog X.w) k (p.fa X.K i) (dAt X.K (p.fa X.K i)) (p.ps i) (spI (p.T hA X.K) (p.ps i).length m)) (cx:Ctx X (p.T hA X.K) W kk) (ha:SA X (p.T hA X.K) W es ms)
  (hU:(c,i)∈ p.U:=by decide) (hk:k<=kk:=by decide) (hx:pk ("" : Str) p.C c=x:=by rfl) (hg:Gl X x:=by rfl) (hN:X.N[0]?=some y:=by rfl) (hv:Vis X.env.scope y:=by first | exact Or.inl rfl | exact Or.inr (Or.inl rfl) | exact Or.inr (Or.inr rfl))
  (hn:dB ms n:=by repeat' first | exact aq | apply ae) (hps:n+1=(p.ps i).length:=by rfl)
  (hdb:(x ==("__debug__" : Str))=false:=by decide) (hdy:(y ==("__debug__" : Str))=false:=by decide) (hcy:(y ==("__classdict__" : Str))=false:=by decide)
  (hst:starEach (.Name y px::es) X.env=(false,eval (.Name y px) X.env)::starEach es X.env:=by rfl) (hpl:(backTo pos (starEach es X.env)).any (·.1)=false:=by rfl)
  (ht:eval (.Call (.Attribute (.Name x q) "__init__" apos) (.Name y px::es) [] pos) X.env=(do
   let ov <- eval (.Name x q) X.env
   standAt apos.atName
   let(f,first) <- holding [ov] (getMethod ov "__init__" pl)
   callWith pos f first (backTo pos (starEach (.Name y px::es) X.env)) (backToKw pos (keywordEach [] X.env))):=by rfl)
  (hs:swapsWith (.Call (.Attribute (.Name x q) "__init__" apos) (.Name y px::es) [] pos) none pos'.line X.env=pure false:=by rfl) :
  SS X (p.T hA X.K) W (.Expr (.Call (.Attribute (.Name x q) "__init__" apos) (.Name y px::es) [] pos) pos') (fS m ms) :=
 xp (pl:=pl) cx (t.su _ hU) G hk hg (by subst hx;exact t.cg c) (t.bn i) hN hv hn hps ha hdb hdy hcy hst hpl ht hs
end
section
variable{X:Cx}{W:Nat->St->Hp->Prop}{T:Tb}
abbrev nmC(X:Cx)(caps:List Nat)(tn:List Str):List Str:=caps.map (fun i=>X.N.getD i "")++ tn
theorem cOf(h:ic X.env.scope scope X.N caps (nmC X caps tn) tn=true):bU X scope caps (nmC X caps tn) tn:=vX h rfl rfl
theorem iW(tn:List Str)(cx:Ctx X T W kk)(hi:SIc X T W tg iter mi)(hk:dQ g caps.length)
  (hb:∀C s H ex,(nmC X caps tn).Nodup->SG (cxC X scope C (nmC X caps tn) s H ex) T tg g/\STs (cxC X scope C (nmC X caps tn) s H ex) T WF ifs mc/\SE (cxC X scope C (nmC X caps tn) s H ex) T WF elt me)
  (h:ic X.env.scope scope X.N caps (nmC X caps tn) tn=true:=by kernel_rfl) (hs:∀x,foldedSetIterable iter X.env x=pure x:=by intro _;rfl):SE X T W (.ListComp elt [⟨tg,iter,ifs,0⟩] scope pos) (bz caps tn.length mi g mc me) :=
 uC (cOf h) cx.calm hi hk (fun C s H ex=>hb C s H ex (cOf h).nd) hs
theorem eH(tn:List Str)(cx:Ctx X T W kk)(hN:X.N.Nodup)(hi:SIc X T W tg iter mi)(hk:dQ g caps.length)
  (hb:∀C s H ex,(nmC X caps tn).Nodup->SG (cxC X scope C (nmC X caps tn) s H ex) T tg g/\STs (cxC X scope C (nmC X caps tn) s H ex) T WF ifs mc/\SE (cxC X scope C (nmC X caps tn) s H ex) T WF elt me)
  (h:ic X.env.scope scope X.N caps (nmC X caps tn) tn=true:=by kernel_rfl) (hy:X.N[i]?=some y:=by rfl) (hx:Loc X.env.scope y:=by first | exact .inl rfl | exact .inr rfl)
  (hsw:swapsWith (.ListComp elt [⟨tg,iter,ifs,0⟩] scope pos) (some (.Name y py)) spos.line X.env=pure true:=by rfl)
  (hs:∀x,foldedSetIterable iter X.env x=pure x:=by intro _;rfl)
  (hf:X.fn y=true\/X.env.scope.names.lookup y=some .local:=by first | exact .inl rfl | exact .inr rfl | assumption) :
  SS X T W (.Assign [.Name y py] (.ListComp elt [⟨tg,iter,ifs,0⟩] scope pos) spos) (aD i (bz caps tn.length mi g mc me)) :=
 uk (cOf h) cx.calm hN hy hx hi hk (fun C s H ex=>hb C s H ex (cOf h).nd) hsw hs hf
end
end PR
namespace PR
open PySem PySem.Spec L2
section
variable{X:Cx}{T:Tb}{W:Nat->St->Hp->Prop}{Z:Zn}{F:Addr->Prop}{H:Hp}{σ:St}{env:En}{fp:Nat->List Addr}
inductive t0(X:Cx)(T:Tb)(n:Str)(c:Nat)(mh:MS):List ExceptHandler->Prop
 | hit {cn:Str}{CC:Addr}{pc hp:Pos}{b₀:Stmt}{suite:List Stmt}{bf:List ExceptHandler} (hg:Gl X cn) (hm:X.mg cn=some (.ref CC)) (hh:PySem.W.exmOne T.K (.ref (T.xcl c)) (.ref CC)=some true)
   (hs:∀e,SSs (X.hanX e) T WF (b₀::suite) mh) (hd:(cn ==("__debug__" : Str))=false):t0 X T n c mh (.ExceptHandler (some (.Name cn pc)) (some n) (b₀::suite) hp::bf)
 | miss {cn:Str}{CC:Addr}{pc hp:Pos}{nm:Option Str}{bd:List Stmt}{bf:List ExceptHandler} (hg:Gl X cn) (hm:X.mg cn=some (.ref CC)) (hh:PySem.W.exmOne T.K (.ref (T.xcl c)) (.ref CC)=some false)
   (hd:(cn ==("__debug__" : Str))=false) (r:t0 X T n c mh bf):t0 X T n c mh (.ExceptHandler (some (.Name cn pc)) nm bd hp::bf)
end
open PySem.W (findIn fnOf keepIn nsIn codeIn isFn Frag)
structure PE where
 D:List (FS×Bool)
 G:List (Str×List (Str×Int))
 S:List (Str×Str)
 P:List (Str×List Str)
def PE.at(q:PE)(j:Nat):FS×Bool:=q.D.getD j (fs0,false)
def PT.hk(p:PT)(j:Nat):Nat×List Bool:=p.HT.getD j (0,[])
def PT.kk(p:PT)(j:Nat):Option Nat×String×List Bool:=p.KT.getD j (none, "", [])
def PE.gk(q:PE)(j:Nat):Str×List (Str×Int):=q.G.getD j ("", [])
theorem PE.gk_mem(q:PE)(h:j < q.G.length):q.gk j∈q.G:=by unfold PE.gk;rw[List.getD_eq_getElem?_getD,List.getElem?_eq_getElem h];exact List.getElem_mem h
def PE.sk(q:PE)(j:Nat):Str×Str:=q.S.getD j ("", "")
def PE.tk(q:PE)(j:Nat):Str×List Str:=q.P.getD j ("", [])
theorem gw{α:Type}{l:List α}{d:α}{j:Nat}(h:j < l.length):l.getD j d∈l:=by rw[List.getD_eq_getElem?_getD,List.getElem?_eq_getElem h];exact List.getElem_mem h
def n8:List Value->Option (List (Str×Tok))
 | []=>some []
 | .str z t::l=>(n8 l).map ((z,t)::·)
 | _::_=>none
theorem le:∀{vs:List Value}{l:List (Str×Tok)},n8 vs=some l->vs=strValues l
 | [],l,h=>by cases h;rfl
 | v::vs,l,h=>by
  cases v with
  | str z t =>
   simp only[n8]at h
   obtain⟨m,hm,rfl⟩:=Option.map_eq_some_iff.mp h
   rw[le hm]
   rfl
  | _=>cases h
def chP(xs:List Str):Option Obj->Bool
 | some ⟨.type "tuple", _,.seq a _,_⟩=>(match n8 a.toList with
  | some l=>decide (l.map (·.1)=xs)
  | none=>false)
 | _=>false
def chS(K:Frag)(x:Str×Str):Bool:=match nsIn K mainGlobals x.1 with
 | some (some (.str z _))=>decide (z=x.2)
 | _=>false
def dfA(K:Frag)(f:Addr):Addr:=match (dAt K f).defaults with
 | .ref a=>a
 | _=>0
def vy(x:FS)(a:Addr):Obj->Obj
 |⟨oc,od,.func d,sl⟩=>⟨oc,od,.func (fnOf (aT x.s) x.q (bF x.s) (aV x.s) (au x.s) (.ref a) d.kwdefaults d.doc d.pyModule d.annotations d.code d.closureTuple),sl⟩
 | o=>o
def Ay(b:Bool):Option Obj->Bool
 | some ⟨_,_,.seq a _,_⟩=>decide (a.toList=[.bool b])
 | _=>false
def nP(P:Params):List DictEntry->List (Str×Int)->List DictEntry
 |⟨_,.str _ t,.int _ u⟩::es,(k,v)::kvs=>⟨PyData.keyHash P k,.str k t,.int v u⟩::nP P es kvs
 | _,_=>[]
theorem vT:(nP P es kvs).length=kvs.length->mv P (nP P es kvs) kvs:=by
 fun_induction nP P es kvs with
 | case1=>rename_i ih;exact fun e=>⟨⟨_,_,rfl⟩,ih (by simpa using e)⟩
 | case2 =>
  intro e
  have e:=List.eq_nil_of_length_eq_zero e.symm
  subst e;trivial
def Bp(P:Params)(kvs:List (Str×Int)):Obj->Obj
 |⟨_,_,.dict es ep,_⟩=>{ cls:=.type "dict", dict:=none,data:=.dict (nP P es.toList kvs).toArray ep,slots:=#[] }
 | o=>o
def okG(P:Params)(kvs:List (Str×Int)):Option Obj->Bool
 | some ⟨_,_,.dict es _,_⟩=>decide ((nP P es.toList kvs).length=kvs.length)
 | _=>false
structure FD(p:PT)(K:Frag)(mg:Str->Option Value)(y:FS×Bool):Prop where
 fn:t3 K (aT y.1.s) y.1.q y.1.s (p.fx K y.1) (dAt K (p.fx K y.1)) (dfA K (p.fx K y.1)) [.bool y.2]
 sc:bT y.1.N (y.1.N.take y.1.k) (au y.1.s)
 bn:cC K (dAt K (p.fx K y.1)) (y.1.N.take y.1.k) []
 gl:mg (aT y.1.s)=some (.ref (p.fx K y.1))
structure Ty(p:PT)(q:PE)(w:World)(K:Frag)(mg:Str->Option Value):Prop where
 tx:Tx p K mg
 fd:∀y∈q.D,FD p K mg y
 dc:∀y∈q.G,mg y.1=some (.ref (gAt K y.1))/\fG w K (gAt K y.1) y.2
 st:∀y∈q.S,∃t,mg y.1=some (.str y.2 t)
 tp:∀y∈q.P,mg y.1=some (.ref (gAt K y.1))/\zN K (gAt K y.1) y.2
section
variable{p:PT}{q:PE}{w:World}{K:Frag}{mg:Str->Option Value}
theorem Ty.d(t:Ty p q w K mg)(j:Nat)(h:j < q.D.length:=by decide):FD p K mg (q.at j):=t.fd _ (by unfold PE.at;rw[List.getD_eq_getElem?_getD,List.getElem?_eq_getElem h];exact List.getElem_mem h)
theorem Ty.gm(t:Ty p q w K mg)(j:Nat)(h:j < q.G.length:=by decide):mg (q.gk j).1=some (.ref (gAt K (q.gk j).1)):=(t.dc _ (q.gk_mem h)).1
theorem Ty.gd(t:Ty p q w K mg)(j:Nat)(h:j < q.G.length:=by decide):fG w K (gAt K (q.gk j).1) (q.gk j).2:=(t.dc _ (q.gk_mem h)).2
theorem Ty.ss(t:Ty p q w K mg)(j:Nat)(h:j < q.S.length:=by decide):∃tk,mg (q.sk j).1=some (.str (q.sk j).2 tk):=t.st _ (gw h)
theorem Ty.pm(t:Ty p q w K mg)(j:Nat)(h:j < q.P.length:=by decide):mg (q.tk j).1=some (.ref (gAt K (q.tk j).1)):=(t.tp _ (gw h)).1
theorem Ty.pd(t:Ty p q w K mg)(j:Nat)(h:j < q.P.length:=by decide):zN K (gAt K (q.tk j).1) (q.tk j).2:=(t.tp _ (gw h)).2
theorem Tx.kO(t:Tx p K mg)(j:Nat)(h:j < p.KT.length:=by decide)(e:(p.kk j).1=some c0:=by rfl)(c:Nat):PySem.W.kitOne K (.ref (p.xa K c)) (.ref (p.xa K c0))=some (bB (p.kk j).2.2 c):=by
 have q:=t.kt (p.kk j) (by unfold PT.kk;rw[List.getD_eq_getElem?_getD,List.getElem?_eq_getElem h];exact List.getElem_mem h) c
 unfold tgV at q
 rw[e]at q
 exact q
theorem Tx.g(t:Tx p K mg)(j:Nat)(h:j < p.HT.length:=by decide)(c:Nat):PySem.W.exmOne K (.ref (p.xa K c)) (.ref (p.xa K (p.hk j).1))=some (bB (p.hk j).2 c):=t.ht _ (by unfold PT.hk;rw[List.getD_eq_getElem?_getD,List.getElem?_eq_getElem h];exact List.getElem_mem h) c
theorem Tx.hO(t:Tx p K mg)(j:Nat)(h:j < p.HT.length:=by decide)(c:Nat)(hc:bB (p.hk j).2 c=true):PySem.W.exmOne K (.ref (p.xa K c)) (.ref (p.xa K (p.hk j).1))=some true:=hc▸t.g j h c
end
def zR(y:FS×Bool):Prop:=∀(dT:Addr) (kV doc pm:Value) (an:Option Addr) (cdv ct:Value) (us:List Value),(us++[]).length=(y.1.N.take y.1.k).length ->
 ∃k:Option (Array Value)->Sem (List (Str×Value)),bindArgs (fnOf (aT y.1.s) y.1.q (bF y.1.s) (aV y.1.s) (au y.1.s) (.ref dT) kV doc pm an cdv ct) ⟨us,[]⟩=seqItems? (.ref dT) >>= k/\k (some [Value.bool y.2].toArray)=pure ((y.1.N.take y.1.k).zip (us++[]))
theorem bd2(h:∀(dT:Addr) (kV doc pm:Value) (an:Option Addr) (cdv ct u1 u2:Value),∃k:Option (Array Value)->Sem (List (Str×Value)),bindArgs (fnOf (aT y.1.s) y.1.q (bF y.1.s) (aV y.1.s) (au y.1.s) (.ref dT) kV doc pm an cdv ct) ⟨[u1,u2],[]⟩=seqItems? (.ref dT) >>= k/\k (some [Value.bool y.2].toArray)=pure ((y.1.N.take y.1.k).zip [u1,u2]):=by intros;exact⟨_,rfl,rfl⟩)
  (hk:(y.1.N.take y.1.k).length=2:=by rfl):zR y:=fun dT kV doc pm an cdv ct us hl=>by
 rw[hk]at hl
 match us,hl with
 | [_,_],_=>exact h ..
def t6:List (FS×Bool)->Prop
 | []=>True
 | x::l=>zR x/\t6 l
theorem t6.get:∀{l:List (FS×Bool)},t6 l->∀x∈l,zR x
 | [],_,_,h=>nomatch h
 | y::l,⟨h1,h2⟩,x,h=>by
  rcases List.mem_cons.mp h with rfl | h
  ·exact h1
  ·exact h2.get x h
section
variable(p:PT)(q:PE)(P:Params)(K:Frag)
def PE.ob:List (Option Obj):=q.D.map fun y=>K.lookup (p.fx K y.1)
def PE.ol:List (Option Obj):=q.D.map fun y=>(K.lookup (p.fx K y.1)).map (vy y.1 (dfA K (p.fx K y.1)))
def PE.ch:Bool:=q.D.all fun y=>p.chF K y.1&&y.1.c.isNone&&Ay y.2 (K.lookup (dfA K (p.fx K y.1)))
def PE.gb:List (Option Obj):=q.G.map fun y=>K.lookup (gAt K y.1)
def PE.gl:List (Option Obj):=q.G.map fun y=>(K.lookup (gAt K y.1)).map (Bp P y.2)
def PE.cs:Bool:=q.S.all (chS K)&&q.P.all fun y=>decide (nsIn K mainGlobals y.1=some (some (.ref (gAt K y.1))))&&chP y.2 (K.lookup (gAt K y.1))
def PE.cg:Bool:=q.G.all fun y=>decide (nsIn K mainGlobals y.1=some (some (.ref (gAt K y.1))))&&!(gAt K y.1==sysModules)&&okG P y.2 (K.lookup (gAt K y.1))
end
theorem Ty.of(X:K.In h)(N:h.Ns mainGlobals mg)(t:Tx p K mg)(hb:t6 q.D)(hs:q.D.all (fun y=>scB y.1)=true)
  (e:q.ob p K=q.ol p K) (h1:q.ch p K=true) (e2:q.gb K=q.gl w.params K) (h2:q.cg w.params K=true) (h3:q.cs K=true):Ty p q w K mg:=by
 simp only[PE.ch,PE.cg,PE.cs,Bool.and_eq_true,List.all_eq_true,decide_eq_true_eq]at h1 h2 h3 hs
 refine⟨t,fun y hy=>?_,fun y hy=>?_,fun y hy=>?_,fun y hy=>?_⟩
 ·obtain⟨⟨a1,a2⟩,a3⟩:=h1 y hy
  simp only[PT.chF,Bool.and_eq_true]at a1
  obtain⟨⟨⟨q1,q2⟩,q3⟩,q4⟩:=a1
  have e1:K.lookup (p.fx K y.1)=(K.lookup (p.fx K y.1)).map (vy y.1 (dfA K (p.fx K y.1))):=List.map_inj_left.mp e y hy
  have F:t3 K (aT y.1.s) y.1.q y.1.s (p.fx K y.1) (dAt K (p.fx K y.1)) (dfA K (p.fx K y.1)) [.bool y.2]:=by
   have dl:∃(o:Obj) (n:Nat),K.lookup (dfA K (p.fx K y.1))=some o/\o.data=.seq [Value.bool y.2].toArray n:=by
    unfold Ay at a3
    split at a3
    ·rename_i a n _ eo
     exact⟨_,n,eo,by rw[<- of_decide_eq_true a3]⟩
    ·cases a3
   generalize dfA K (p.fx K y.1)=dT at e1 dl
   cases eo:K.lookup (p.fx K y.1)with
   | none=>rw[eo]at q1;cases q1
   | some o =>
    rw[eo]at e1 q1
    obtain⟨oc,od,dt,sl⟩:=o
    cases dt with
    | func d =>
     have e2:(⟨oc,od,.func d,sl⟩:Obj)=vy y.1 dT ⟨oc,od,.func d,sl⟩:=Option.some.inj e1
     simp only[vy,Obj.mk.injEq,Data.func.injEq,true_and,and_true]at e2
     have ed:dAt K (p.fx K y.1)=d:=by unfold dAt;rw[eo]
     rw[ed]at q2 ⊢
     exact⟨⟨oc,od,d.kwdefaults,d.doc,d.pyModule,d.annotations,d.code,d.closureTuple,sl,e2,eo,q2⟩,q3,dl⟩
    | _=>cases q1
  have sc:bT y.1.N (y.1.N.take y.1.k) (au y.1.s):=by
   have q:=hs y hy
   simp only[scB,Bool.and_eq_true,decide_eq_true_eq,List.all_eq_true,Bool.not_eq_true']at q
   obtain⟨⟨⟨⟨⟨⟨q1,q2⟩,q3⟩,q4⟩,q5⟩,q6⟩,q7⟩:=q
   exact⟨q1,q2,q3,q4,by rw[List.length_take,Nat.min_eq_left q5],q6,q7⟩
  refine⟨F,sc,F.binds (es:=[]) (hb.get y hy _),?_⟩
  rw[Option.isNone_iff_eq_none.mp a2]at q4
  exact PySem.W.mg_of X N (of_decide_eq_true q4)
 ·obtain⟨⟨a1,a2⟩,a3⟩:=h2 y hy
  refine⟨PySem.W.mg_of X N a1,by simpa using a2,?_⟩
  have e1:K.lookup (gAt K y.1)=(K.lookup (gAt K y.1)).map (Bp w.params y.2):=List.map_inj_left.mp e2 y hy
  unfold okG at a3
  split at a3
  ·rename_i a b es ep sl eo
   rw[eo]at e1
   exact⟨nP w.params es.toList y.2,ep,by rw[eo];exact e1,vT (of_decide_eq_true a3)⟩
  ·cases a3
 ·have a:=h3.1 y hy
  unfold chS at a
  split at a
  ·rename_i z tk e
   rw[<- of_decide_eq_true a]
   exact⟨tk,PySem.W.mg_of X N e⟩
  ·cases a
 ·obtain⟨a1,a2⟩:=h3.2 y hy
  refine⟨PySem.W.mg_of X N a1,?_⟩
  unfold chP at a2
  split at a2
  ·rename_i dd a n sl eo
   split at a2
   ·rename_i l el
    have e:=le el
    refine⟨dd,l,n,sl,?_,of_decide_eq_true a2⟩
    rw[eo,<- e]
   ·cases a2
  ·cases a2
section
variable{P:Program}{w:World}{K:Frag}{mg:Str->Option Value}{base:Heap}{p:PT}{hA:p.attOk}{q:PE}
abbrev OkD(p:PT)(hA:p.attOk)(P:Program)(w:World)(K:Frag)(mg:Str->Option Value)(base:Heap)(k:Nat)(x:FS)(m:List PV->Res PV):Prop :=
 bH P w K mg base (CXP P w) k (p.fx K x) (dAt K (p.fx K x)) (x.N.take x.k) (spM (p.T hA K) (x.N.take x.k).length m)
theorem okD(F:FD p K mg y)(body:∀ (cdv:Value) (A:Around) (outer:List Env) (s:Shared) (H:Hp) (E:XK),Ctx (cz (CXP P w) P w K mg base y.1.N y.1.q (au y.1.s) (p.fx K y.1) cdv A outer s H E) (p.T hA K) (WD (p.T hA K) E) k->y.1.N.Nodup ->
  SSs (cz (CXP P w) P w K mg base y.1.N y.1.q (au y.1.s) (p.fx K y.1) cdv A outer s H E) (p.T hA K) (WD (p.T hA K) E) (aV y.1.s) m):OkD p hA P w K mg base (k+1) y.1 (aR y.1.N.length m) :=
 zd (T:=p.T hA K) F.fn F.sc fun a b c d e f g=>body a b c d e f g F.sc.nd
theorem xE(F:FD p X.K X.mg y)
  (G:OkD p hA X.prog X.w X.K X.mg X.base k y.1 m) (cx:Ctx X (p.T hA X.K) W kk) (ha:SA X (p.T hA X.K) W (e::es) ms)
  (hk:k<=kk:=by decide) (hx:aT y.1.s=x:=by rfl) (hg:Gl X x:=by rfl) (hn:dB ms n:=by repeat' first | exact aq | apply ae) (hps:n=(y.1.N.take y.1.k).length:=by rfl)
  (hdb:(x ==("__debug__" : Str))=false:=by decide) (he:starEach (e::es) X.env=(false,eval e X.env)::starEach es X.env:=by rfl) (hpl:(backTo pos (starEach es X.env)).any (·.1)=false:=by rfl) :
  SE X (p.T hA X.K) W (.Call (.Name x np) (e::es) [] pos) (ao (ax m) ms) :=
 lw G cx hk hg (by subst hx;exact F.gl) F.fn.kp F.bn hn hps ha hdb he hpl
end
section
variable{X:Cx}{T:Tb}{W:Nat->St->Hp->Prop}{Z:Zn}{F F1 B L:Addr->Prop}{H H1:Hp}{σ:St}{env:En}{fp:Nat->List Addr}{D:Ends}
theorem oE:∀{xs:List PV}{ws:List V}{f:List Addr}{i:Nat}{x:PV},RelL T F B L H xs ws f->xs[i]?=some x->∃w fx,ws[i]?=some w/\Rel T F B L H x w fx/\∀b∈fx,b∈f
 | [],_,_,i,x,_,e=>by simp at e
 | a::xs,ws,f,i,x,h,e=>by
  unfold RelL at h
  obtain⟨v,ws',f1,f2,rfl,h1,h2,rfl⟩:=h
  cases i with
  | zero=>cases e;exact⟨v,f1,rfl,h1,fun b hb=>List.mem_append_left _ hb⟩
  | succ i =>
   obtain⟨w,fx,e1,r,s⟩:=oE h2 e
   exact⟨w,fx,e1,r,fun b hb=>List.mem_append_right _ (s b hb)⟩
end
open PySem.W (fnOf Frag)
def smp:PV->Bool
 | .int _ | .bl _ | .non=>true
 | .lst f xs=>decide (f≠.mod)&&(bp xs).isSome
 | _=>false
def eqD(x:PV)(y:PV):Bool:=PyData.eqv y.data x.data
def Dz:PV->PV->Res PV:=fun o x=>match o with
 | .lst _ ys=>if shp x && ys.all shp && ys.all smp && decide (ys.length <= 10000000) then (match ys.findIdx? (eqD x) with
  | some j=>.ok (.int j)
  | none=>.stuck)else .stuck
 | _=>.stuck
def gU:PV->PV->Res PV:=fun o x=>match o with
 | .lst _ ys=>if shp x&&ys.all shp&&ys.all smp then .ok (.int (ys.countP (eqD x)))else .stuck
 | _=>.stuck
section
variable{X:Cx}{T:Tb}{W:Nat->St->Hp->Prop}{Z:Zn}{F F1 B L:Addr->Prop}{H H1:Hp}{σ:St}{env:En}{fp:Nat->List Addr}{D:Ends}
theorem Rd.inj{u u':List V}(h:Rd H a (.lst u))(h':Rd H a (.lst u')):u=u':=by
 rcases h with h |⟨o,h⟩<;>rcases h' with h' |⟨o',h'⟩<;>rw[h]at h'<;>cases h'<;>rfl
theorem g_:∀{xs:List PV}{ns:List Int},bp xs=some ns->xs=ns.map .int
 | [],ns,h=>by cases h;rfl
 | .int i::xs,ns,h=>by
  unfold bp at h
  cases e:bp xs with
  | none=>rw[e]at h;cases h
  | some ms=>rw[e]at h;cases h;rw[g_ e];rfl
 | .non::xs,ns,h | .bl _::xs,ns,h | .str _::xs,ns,h | .lst _ _::xs,ns,h | .tup _::xs,ns,h | .obj _ _ _ _::xs,ns,h | .exc _::xs,ns,h=>by cases h
theorem qN{y y':PV}(s:smp y=true)(s':smp y'=true)(r:Rel T F B L H y u fy)(r':Rel T F B L H y' u fy'):y.data=y'.data:=by
  cases y with
  | lst f xs =>
    unfold Rel at r
    obtain⟨a,vs,f',rfl,h1,h2,_⟩:=r
    cases y' with
    | lst g zs =>
      unfold Rel at r'
      obtain⟨b,ws,g',e,k1,k2,_⟩:=r'
      cases e
      simp only[smp,Bool.and_eq_true,decide_eq_true_eq]at s s'
      obtain⟨ns,en⟩:=Option.isSome_iff_exists.mp s.2
      obtain⟨ms,em⟩:=Option.isSome_iff_exists.mp s'.2
      have e1:=cF en h2
      have e2:=cF em k2
      have:=Rd.inj (h1.rd s.1) (k1.rd s'.1)
      rw[e1,e2]at this
      have e3:ns=ms:=List.map_inj_right (fun _ _ h=>V.int.inj h) |>.mp this
      rw[g_ en,g_ em,e3]
      simp[PV.data]
    | _=>first |(cases s';done) |(unfold Rel at r';cases r'.1;done)
  | _ =>
    first
    |(cases s;done)
    | (unfold Rel at r
       obtain⟨rfl,_⟩:=r
       cases y' with
       | lst f xs=>unfold Rel at r';obtain⟨a,vs,f',e,_⟩:=r';cases e
       | _=>first |(cases s';done) |(unfold Rel at r';obtain⟨e,_⟩:=r';cases e;rfl) |(unfold Rel at r';obtain⟨e,_⟩:=r';cases e;done))
theorem mH(hK:X.K=T.K)(I:L2.Inv X pins σ H s)(hu:A.units+64 < cLine)(rx:Rel T F B L H x v fx)(rv:aW v v')(hx:shp x=true){ys:List PV}{us:List V}{fy:List Addr}{its:List Value}(r:RelL T F B L H ys us fy)(rl:aI us its)(hs:ys.all shp=true)(hm:ys.all smp=true) :
  ∃e:Value->Bool,(∀w∈its,SeqAt.EqAt A s w v' (e w))/\its.length=ys.length/\∀(m:Nat) (y:PV) (w:Value),ys[m]?=some y->its[m]?=some w->e w=eqD x y:=by
 classical
 have hlen:its.length=ys.length:=by rw[<- rl.length,<- r.length]
 let e:Value->Bool:=fun w=>decide (∃y∈ys,∃u fy,CA w=some u/\Rel T F B L H y u fy/\eqD x y=true)
 have pl:∀(m:Nat) (y:PV) (w:Value),ys[m]?=some y->its[m]?=some w->∃u fy,aW u w/\Rel T F B L H y u fy:=fun m y w ey ew=>by
  obtain⟨u,fx,e1,r1,_⟩:=oE r ey
  obtain⟨w',e2,r2⟩:=rl.get e1
  rw[ew]at e2
  cases e2
  exact⟨u,fx,r2,r1⟩
 have ev:∀(m:Nat) (y:PV) (w:Value),ys[m]?=some y->its[m]?=some w->e w=eqD x y:=fun m y w ey ew=>by
  obtain⟨u,fu,r1,r2⟩:=pl m y w ey ew
  have ym:=List.mem_of_getElem? ey
  show decide _=_
  cases q:eqD x y with
  | true=>exact decide_eq_true ⟨y,ym,u,fu,r1.abs,r2,q⟩
  | false =>
   refine decide_eq_false fun⟨y',hy',u',fu',a',r',q'⟩=>?_
   rw[r1.abs]at a'
   cases a'
   have:=qN (List.all_eq_true.mp hm y ym) (List.all_eq_true.mp hm y' hy') r2 r'
   unfold eqD at q q'
   rw[this]at q
   rw[q]at q'
   cases q'
 refine⟨e,fun w hw=>?_,hlen,ev⟩
 obtain⟨m,hmlt,ew⟩:=List.getElem_of_mem hw
 have ew':its[m]?=some w:=by rw[List.getElem?_eq_getElem hmlt,ew]
 have ey:ys[m]?=some ys[m]:=List.getElem?_eq_getElem (by omega)
 obtain⟨u,fu,r1,r2⟩:=pl m _ w ey ew'
 rw[ev m _ w ey ew']
 exact jv hK I hu r2 rx r1 rv (List.all_eq_true.mp hs _ (List.mem_of_getElem? ey)) hx
def rB(T:Tb)(g:PV->List PV->Option Int):V->List V->Hp->VK->Prop:=fun o vs H Q=>∃x ys a us v F B L fx fy j,o=.ref a/\vs=[v]/\SqL T.K H a us/\Rel T F B L H x v fx/\RelL T F B L H ys us fy/\shp x=true/\ys.all shp=true/\ys.all smp=true/\g x ys=some j/\Q (.int j) H
def gIx(x:PV)(ys:List PV):Option Int:=if ys.length<=10000000 then(ys.findIdx? (eqD x)).map fun j:Nat=>(j:Int)else none
def gCt(x:PV)(ys:List PV):Option Int:=some (ys.countP (eqD x))
theorem Bd(hK:X.K=T.K)(hu:X.A.units+66 < cLine):MtM X "list.index" (rB T gIx):=by
 intro pins s σ H o vs v' us' Q I rx rv h
 obtain⟨x,ys,a,us,v,F,B,L,fx,fy,j,rfl,rfl,hs,r1,r2,h1,h2,h3,hg,q⟩:=h
 cases rx
 obtain⟨u,rfl,ru⟩:=rv.one
 obtain⟨its,r,pl,_⟩:=I.list (by rw[hK];exact hs)
 have hu1:X.A.in1.units+64 < cLine:=by show X.A.units+1+64 < cLine;omega
 obtain⟨e,e1,e2,e3⟩:=mH hK I hu1 r1 ru h1 r2 r h2 h3
 unfold gIx at hg
 split at hg
 case isFalse=>cases hg
 rename_i hlen
 obtain⟨k,ek,rfl⟩:=Option.map_eq_some_iff.mp hg
 obtain⟨kl,k1,k2⟩:=List.findIdx?_eq_some_iff_getElem.mp ek
 obtain⟨ob,n,g,c,d,dt⟩:=pl
 obtain⟨oc,od,odt,osl⟩:=ob
 dsimp only at c d dt
 subst c d dt
 have ev:∀(m:Nat) (hm:m < its.toArray.size) (hy:m < ys.length),e its.toArray[m]=eqD x ys[m]:=fun m hm hy=>e3 m _ _ (List.getElem?_eq_getElem hy) (by rw[List.getElem?_eq_getElem (by simpa using hm)];simp)
 refine call_meets PySem.F.slot_list_index ⟨_,g,rfl⟩ PySem.F.entry_list_index (PySem.F.args_list_index_2 _ _) (SeqAt.list_indexAt a its.toArray n none osl u e k (by simp;omega) (by omega) ?_ fun m hm hlt=>?_) ⟨g,fun w hw=>e1 w (by simpa using hw),?_⟩
 ·rw[ev k (by simp;omega) kl];exact k1
 ·rw[ev m hm (by omega)]
  simpa using k2 m hlt
 ·exact⟨.int k,H,I.tok _,⟨_,rfl⟩,q⟩
theorem si(hK:X.K=T.K)(hu:X.A.units+66 < cLine):MtM X "list.count" (rB T gCt):=by
 intro pins s σ H o vs v' us' Q I rx rv h
 obtain⟨x,ys,a,us,v,F,B,L,fx,fy,j,rfl,rfl,hs,r1,r2,h1,h2,h3,hg,q⟩:=h
 cases rx
 obtain⟨u,rfl,ru⟩:=rv.one
 obtain⟨its,r,pl,_⟩:=I.list (by rw[hK];exact hs)
 have hu1:X.A.in1.units+64 < cLine:=by show X.A.units+1+64 < cLine;omega
 obtain⟨e,e1,e2,e3⟩:=mH hK I hu1 r1 ru h1 r2 r h2 h3
 cases hg
 obtain⟨ob,n,g,c,d,dt⟩:=pl
 obtain⟨oc,od,odt,osl⟩:=ob
 dsimp only at c d dt
 subst c d dt
 have ec:its.countP e=ys.countP (eqD x):=by
  have:∀(is:List Value) (zs:List PV),is.length=zs.length->(∀(m:Nat) (y:PV) (w:Value),zs[m]?=some y->is[m]?=some w->e w=eqD x y)->is.countP e=zs.countP (eqD x):=by
   intro is
   induction is with
   | nil=>intro zs hl _;cases zs with | nil=>rfl | cons=>simp at hl
   | cons w is ih =>
    intro zs hl hz
    cases zs with
    | nil=>simp at hl
    | cons y zs =>
     rw[List.countP_cons,List.countP_cons,ih zs (by simpa using hl) fun m y w a b=>hz (m+1) y w a b,hz 0 y w rfl rfl]
  exact this its ys e2 e3
 refine call_meets PySem.F.slot_list_count ⟨_,g,rfl⟩ PySem.F.entry_list_count (PySem.F.args_list_count_2 _ _) (SeqAt.list_countAt a its.toArray n none osl u e) ⟨g,fun w hw=>e1 w (by simpa using hw),?_⟩
 rw[List.toList_toArray,ec]
 exact⟨.int _,H,I.tok _,⟨_,rfl⟩,q⟩
def lT(g:PV->PV->Res PV)(mo mk:ME):ME:=fun env=>match mo env,mk env with
 | .ok (.lst f ys),.ok x=>g (.lst f ys) x
 | _,_=>.stuck
theorem uA{nm:Str}{id:String}{g:PV->PV->Res PV}{gg:PV->List PV->Option Int}{o k:Expr}{mo mk:ME}{apos cpos:Pos}(hK:X.K=T.K)(slot:Slot "list" nm id)(hty:typeOf (.builtin id)=pure (.type "method_descriptor"))(hmt:MtM X id (rB T gg))
  (hr:∀f ys x,g (.lst f ys) x=.stuck\/∃j,g (.lst f ys) x=.ok (.int j)/\shp x=true/\ys.all shp=true/\ys.all smp=true/\gg x ys=some j)
  (ho:SE X T W o mo) (hk:SE X T W k mk) (hbase:attributeBase o nm X.env (eval o X.env)=eval o X.env:=by rfl)
  (hst:starEach [k] X.env=[(false,eval k X.env)]:=by rfl)
  (hfew:((backTo cpos (starEach [k] X.env)).all (fun x=>!x.1)&&(backToKw cpos (keywordEach [] X.env)).all (fun x=>x.1.isSome)&&decide ([k].length+([]:List Keyword).length+(if([]:List Keyword).isEmpty then 0 else 1) < 30))=true:=by rfl)
  (hline:(apos.endLine==cpos.line)=true:=by rfl):SE X T W (.Call (.Attribute o nm apos) [k] [] cpos) (lT g mo mk) :=
 PE.wk (oJ (cpos:=cpos) (apos:=apos) PySem.F.plainAttrs_list slot hty hmt ho (ac hk ag hst) hbase hfew hline hst) fun σ H Q h=>by
  obtain⟨Z,F,env,fp,S,q⟩:=h
  unfold lT at q
  split at q
  case h_2=>exact q.elim
  rename_i f ys x em ek
  refine⟨Z,F,env,fp,S,?_⟩
  rw[em]
  intro v H1 F1 f1 g1 r1 n1 d1 w1
  have r1':=r1
  unfold Rel at r1'
  obtain⟨a,us,fp',rfl,hl,_,_⟩:=r1'
  refine⟨.inl ⟨rfl,us,by rw[hK];exact hl.sq⟩,Z,F1,env,fp,S.grow g1,?_⟩
  unfold aa aj
  rw[ek]
  intro vs H2 F2 f2 g2 r2 n2 d2 w2
  obtain⟨u,rfl,ru⟩:=r2.one
  have r3:=r1.ext g2.ext g2.mono
  unfold Rel at r3
  obtain⟨b,us2,fp2,e,hl2,hr2,_⟩:=r3
  cases e
  rcases hr f ys x with z |⟨j,e,h1,h2,h3,h4⟩
  ·rw[z]at q;exact q.elim
  ·rw[e]at q
   exact⟨x,ys,a,us2,u,F2,Z.B,Own fp,f2,fp2,j,rfl,rfl,hl2.sq,ru,hr2,h1,h2,h3,h4,q.scal (g1.trans g2) cX⟩
theorem pS(f:Fl)(ys:List PV)(x:PV):gU (.lst f ys) x=.stuck\/∃j,gU (.lst f ys) x=.ok (.int j)/\shp x=true/\ys.all shp=true/\ys.all smp=true/\gCt x ys=some j:=by
 unfold gU
 dsimp only
 split
 ·rename_i h
  simp only[Bool.and_eq_true]at h
  exact .inr ⟨_,rfl,h.1.1,h.1.2,h.2,rfl⟩
 ·exact .inl rfl
end
section
variable{X:Cx}{T:Tb}{W:Nat->St->Hp->Prop}{Z:Zn}{F:Addr->Prop}{H:Hp}{σ:St}{env:En}{fp:Nat->List Addr}
def rT:PV->Res PV
 | .str z=>.ok (.str z)
 | x=>lI x
theorem qj:cb X (.type "str") (fun xs H Q=>(∃i,xs=[.int i]/\i.natAbs.log2 < 1920/\Q (.str (toString i)) H)\/ ∃z,xs=[.str z]/\Q (.str z) H):=by
 intro pins s σ H xs us Q I r h
 rcases h with h |⟨z,rfl,q⟩
 ·exact gG pins s σ H xs us Q I r h
 ·obtain⟨u,rfl,ru⟩:=aI.one r
  obtain⟨t,rfl⟩:=ru
  exact PySem.P.str_of_str ⟨.str z,H,I,⟨_,rfl⟩,q⟩
theorem sr:Mir T W (p1 rT) (fun xs H Q=>(∃i,xs=[.int i]/\i.natAbs.log2 < 1920/\Q (.str (toString i)) H)\/ ∃z,xs=[.str z]/\Q (.str z) H):=by
 intro B F L σ H Q F' H' xs vs fx gr r a b c q
 cases xs with
 | nil=>exact q.elim
 | cons x xs =>
  cases xs with
  | cons _ _=>exact q.elim
  | nil =>
   cases x with
   | str z =>
    obtain⟨v,rfl,rv⟩:=r.one
    unfold Rel at rv
    obtain⟨rfl,_⟩:=rv
    exact .inr ⟨z,rfl,GE.scal q gr ly⟩
   | int i=>exact .inl (lO B F L σ H Q F' H' _ vs fx gr r a b c q)
   | _=>exact q.elim
theorem uv(hg:Gl X "str")(hm:X.mg "str" = none)(ha:SE X T W e m)(he:starEach [e] X.env=[(false,eval e X.env)]:=by rfl):SE X T W (.Call (.Name "str" p) [e] [] pos) (ao (p1 rT) (aa m aj)) :=
 c_ qj sr hg hm ph (ac ha ag he) (he:=he)
def uM:V->List V->Hp->VK->Prop:=fun x vs H Q=>∃z y,x=.str z/\vs=[.str y]/\Q (.int (PySem.Txt.count z y)) H
theorem pX:MtM X "str.count" uM:=by
 intro pins s σ H x vs v us Q I rx rv h
 obtain⟨z,y,rfl,rfl,q⟩:=h
 obtain⟨t,rfl⟩:=rx
 obtain⟨u,rfl,ru⟩:=aI.one rv
 obtain⟨t2,rfl⟩:=ru
 exact PySem.SC.count ⟨.int _,H,I.tok _,⟨_,rfl⟩,q⟩
def fw(z:Str):PV->Res PV
 | .str y=>.ok (.int (PySem.Txt.count z y))
 | _=>.stuck
theorem pF{o k:Expr}{mo mk:ME}{apos cpos:Pos}(ho:SE X T W o mo)(hk:SE X T W k mk)(hbase:attributeBase o "count" X.env (eval o X.env)=eval o X.env:=by rfl)
  (hst:starEach [k] X.env=[(false,eval k X.env)]:=by rfl)
  (hfew:((backTo cpos (starEach [k] X.env)).all (fun x=>!x.1)&&(backToKw cpos (keywordEach [] X.env)).all (fun x=>x.1.isSome)&&decide ([k].length+([]:List Keyword).length+(if([]:List Keyword).isEmpty then 0 else 1) < 30))=true:=by rfl)
  (hline:(apos.endLine==cpos.line)=true:=by rfl):SE X T W (.Call (.Attribute o "count" apos) [k] [] cpos) (mMt fw mo mk) :=
 qV PySem.F.slot_str_count PySem.F.type_str_count pX (fun {B F L F2 σ H H2 Q z v u f2} g ru q=>by
  cases v with
  | str y =>
   unfold Rel at ru
   exact⟨z,y,rfl,by rw[ru.1],GE.scal q g cX⟩
  | _=>exact q.elim) ho hk hbase hst hfew hline
inductive HsU(X:Cx)(T:Tb):List ((Nat->Bool)× MS)->List ExceptHandler->Prop
 | nil:HsU X T [] []
 | cons {cn:Str}{CC:Addr}{pc hp:Pos}{b₀:Stmt}{suite:List Stmt}{bf:List ExceptHandler}{h:Nat->Bool}{m:MS}{ps:List ((Nat->Bool)× MS)} (hg:Gl X cn) (hm:X.mg cn=some (.ref CC)) (hh:∀c,PySem.W.exmOne T.K (.ref (T.xcl c)) (.ref CC)=some (h c))
   (hs:∀e,SSs (X.hanX e) T WF (b₀::suite) m) (r:HsU X T ps bf) (hd:(cn ==("__debug__" : Str))=false:=by decide):HsU X T ((h,m)::ps) (.ExceptHandler (some (.Name cn pc)) none (b₀::suite) hp::bf)
def kM(mb:MS)(ps:List ((Nat->Bool)× MS))(mo:MS):MS:=fun env=>match mb env with
 | .exc c e=>(match ps.find? fun h=>h.1 c with
  | some h=>wE (h.2 e)
  | none=>.stuck)
 | .next e=>mo e
 | o=>o
theorem qF(cx:Ctx X T W k)
  (hst:X.stack=X.env::X.outer) (hfr:X.env.frame=some X.env.locals) (hh:HsU X T ps (h₀::ht))
  (hb:∀E pn Wb,Ctx (X.tryX E pn) T Wb k->SSs (X.tryX E pn) T Wb body mb) (ho:SSs X T W orelse mo) :
  SS X T W (.Try body (h₀::ht) orelse [] pos) (kM mb ps mo):=by
 intro pins s σ H D I h
 obtain⟨Z,F,env,fp,S,q⟩:=h
 unfold kM at q
 refine wpAny_Try_except ?_
 generalize hEb:(fun (e:Value) (s₁:Shared)=>wpAny (model X.prog X.w) X.A (noteFrame e X.env) (fun _ s₂=>wpAny (model X.prog X.w) X.A (setFlight e none) (fun _ s₃ =>
  wpAny (model X.prog X.w) X.A (handleBy e X.env (h₀::ht)) (SP X pins D) X.xe s₃) X.xe s₂) X.xe s₁)=Eb
 have po:PassesOwn (model X.prog X.w) X.A X.env Eb:=by rw[<- hEb];exact PassesOwn.looking
 have ctx:Ctx (X.tryX Eb (X.pn++pins)) T (fun c σ' H'=>∃Z F env fp p,aw T Z F H' σ' env fp/\ps.find? (fun h=>h.1 c)=some p/\GS T W Z D (wE (p.2 env))) k:=by
  clear q S
  refine⟨cx.hK,cx.calm,cx.room,?_,po⟩
  intro pins' σ1 H1 s1 c H2 e s2 I1 fl hW
  have I1:=I1.untry
  obtain⟨Z,F,env,fp,p,S,hf,q⟩:=hW
  obtain⟨x,a0,Bh,rfl,f0,tr,ol⟩:=fl.fly
  show Eb (.ref x) s2
  rw[<- hEb]
  have f0':=f0
  rw[show(X.tryX Eb (X.pn++pins)).stack=X.env::X.outer from hst]at f0'
  refine wpAny_looks_onW (hst▸I1.ok.frames) hfr f0' fun h4 held4 up4=>wpAny_landsW held4 fun h5 f5 up5=>?_
  have f5':Heap.FlyingW Bh X.stack x (.ref (T.xcl c)) a0 h5:=by rw[hst];exact f5
  obtain⟨I5,nx,_⟩:=iH (g:=s2.gens) (d:=s2.drawn) (t:=s2.toks) I1 fl f0 tr ol f5' (up4.trans up5) fl.bare
  obtain⟨o5,ho5,hc5⟩:=f5.there
  have lt:PySem.W.Looks (model X.prog X.w) h5 (typeOf (.ref x)) (.ref (T.xcl c)):=hc5 ▸(PySem.W.Looks.ld ho5).andThen .now
  have kin:T.K.In h5:=by rw[<- cx.hK];exact I5.kIn
  have hH:=hh
  clear hEb po hh
  generalize h₀::ht=hs at hH
  induction hH with
  | nil=>cases hf
  | @cons cn CC pc hp b₀ suite bf hit m ps' hg hm he hs r hd ih =>
   refine wpAny_handleBy_cons (codeAny_handlers_test ?_) (by intro z;cases z)
   refine eB (X:=X.hanX (.ref x)) (pins:=pins) (I:=I5.hanX) hg hm ?_ hd
   cases e:hit c with
   | false =>
    refine(PySem.W.exm_one kin lt (by rw[he,e])).at ?_
    exact ih (by simpa[e]using hf)
   | true =>
    refine(PySem.W.exm_one kin lt (by rw[he,e])).at ?_
    have hp:p=(hit,m):=by simp[e]at hf;exact hf.symm
    subst hp
    dsimp only at q
    refine codeAny_handlers_suite ?_
    refine PyProof.Rows.lands_againW f5 fun h6 f6 up6=>?_
    have f6':Heap.FlyingW Bh X.stack x (.ref (T.xcl c)) a0 h6:=by rw[hst];exact f6
    obtain⟨I6,_,_⟩:=iH (g:=s2.gens) (d:=s2.drawn) (t:=s2.toks) I1 fl f0 tr ol f6' ((up4.trans up5).trans up6) fl.bare
    refine wpAny_mono (hs (.ref x) pins _ _ _ D I6.hanX ⟨Z,F,_,_,S.grow (Gr.same S.hp.ft (Ext.upd nx)),?_⟩) (fun f s8 h8=>?_) fun _ _ z=>z.elim
    ·cases e:m env with
     | exc c' e' | stuck=>rw[e]at q;exact q.elim
     | _=>rw[e]at q;exact q
    ·cases f with
     | ret u=>obtain⟨v,σ',H',I8,r8,q8⟩:=h8;exact⟨v,σ',H',I8.unhan I.ok,r8,q8⟩
     | _=>obtain⟨σ',H',I8,q8⟩:=h8;exact⟨σ',H',I8.unhan I.ok,q8⟩
 have r:=hb Eb (X.pn ++ pins) _ ctx [] s σ H ⟨fun σ' H'=>tS T W mo D σ' H',D.rt,D.bk,D.ct⟩ I.tryX ⟨Z,F,env,fp,S,by
  cases e:mb env with
  | next e'=>rw[e]at q;exact fun F' H' σ' fp' S'=>⟨Z,F',e',fp',S',q⟩
  | exc c e' =>
   rw[e]at q
   dsimp only at q
   intro F' H' σ' fp' S'
   cases hf:ps.find? fun h=>h.1 c with
   | some p=>rw[hf]at q;exact⟨Z,F',e',fp',p,S',rfl,q⟩
   | none=>rw[hf]at q;exact q.elim
  | stuck=>rw[e]at q;exact q.elim
  | _=>rw[e]at q;exact q⟩
 refine wpAny_mono r (fun f s1 h1=>?_) fun e s1 h1=>h1
 cases f with
 | next=>obtain⟨σ',H',I1,q1⟩:=h1;exact ho pins s1 σ' H' D I1.untry q1
 | ret u=>obtain⟨v,σ',H',I1,r1,q1⟩:=h1;exact⟨v,σ',H',I1.untry,r1,q1⟩
 | _=>obtain⟨σ',H',I1,q1⟩:=h1;exact⟨σ',H',I1.untry,q1⟩
end
section
variable{X:Cx}{W:Nat->St->Hp->Prop}{p:PT}{hA:p.attOk}{T:Tb}
theorem m6(t:Tx p X.K X.mg)
  (G:bH X.prog X.w X.K X.mg X.base (CXP X.prog X.w) k (p.fa X.K i) (dAt X.K (p.fa X.K i)) (p.ps i) (spM (p.T hA X.K) (p.ps i).length m)) (rm:cj kk X.A) (xf:XF X (p.T hA X.K) W) (ha:SA X (p.T hA X.K) W (e::es) ms)
  (hk:k<=kk:=by decide) (hx:aT (p.fs i).s=x:=by rfl) (hc:(p.fs i).c=none:=by rfl) (hg:Gl X x:=by rfl) (hn:dB ms n:=by repeat' first | exact aq | apply ae) (hps:n=(p.ps i).length:=by rfl)
  (hdb:(x ==("__debug__" : Str))=false:=by decide) (he:starEach (e::es) X.env=(false,eval e X.env)::starEach es X.env:=by rfl) (hpl:(backTo pos (starEach es X.env)).any (·.1)=false:=by rfl) :
  SE X (p.T hA X.K) W (.Call (.Name x np) (e::es) [] pos) (ao (ax m) ms) :=
 rc G rm xf hk hg (by subst hx;exact t.gl i hc) (t.fn i).kp (t.bn i) hn hps ha hdb he hpl
theorem m5(tn:List Str)(cx:Ctx X T W kk)(hxc:XC X T W)(hi:SIc X T W tg iter mi)(hk:dQ g caps.length)
  (hb:∀C s H ex,(nmC X caps tn).Nodup->SG (cxC X scope C (nmC X caps tn) s H ex) T tg g/\∀E Wb,XF ((cxC X scope C (nmC X caps tn) s H ex).tryX E []) T Wb->SE ((cxC X scope C (nmC X caps tn) s H ex).tryX E []) T Wb elt me)
  (h:ic X.env.scope scope X.N caps (nmC X caps tn) tn=true:=by kernel_rfl) (hst:X.stack=X.env::X.outer:=by rfl) (hfrm:X.env.frame=some X.env.locals:=by rfl) (hs:∀x,foldedSetIterable iter X.env x=pure x:=by intro _;rfl) :
  SE X T W (.ListComp elt [⟨tg,iter,[],0⟩] scope pos) (et caps tn.length mi g me) :=
 q_ hxc hst hfrm (cOf h) cx.calm hi hk (fun C s H ex=>hb C s H ex (cOf h).nd) hs
theorem Tx.kB{K:PySem.W.Frag}{mg:Str->Option Value}(t:Tx p K mg)(j:Nat)(h:j < p.KT.length:=by decide)(e:(p.kk j).1=none:=by rfl)(c:Nat):PySem.W.kitOne K (.ref (p.xa K c)) (.type (p.kk j).2.1)=some (bB (p.kk j).2.2 c):=by
 have q:=t.kt (p.kk j) (gw h) c
 unfold tgV at q
 rw[e]at q
 exact q
theorem pG{o k:Expr}{mo mk:ME}{apos cpos:Pos}(hK:X.K=T.K)(hu:X.A.units+66 < cLine)(ho:SE X T W o mo)(hk:SE X T W k mk)(hbase:attributeBase o "count" X.env (eval o X.env)=eval o X.env:=by rfl)
  (hst:starEach [k] X.env=[(false,eval k X.env)]:=by rfl)
  (hfew:((backTo cpos (starEach [k] X.env)).all (fun x=>!x.1)&&(backToKw cpos (keywordEach [] X.env)).all (fun x=>x.1.isSome)&&decide ([k].length+([]:List Keyword).length+(if([]:List Keyword).isEmpty then 0 else 1) < 30))=true:=by rfl)
  (hline:(apos.endLine==cpos.line)=true:=by rfl):SE X T W (.Call (.Attribute o "count" apos) [k] [] cpos) (lT gU mo mk) :=
 uA hK PySem.F.slot_list_count PySem.F.type_list_count (si hK hu) pS ho hk hbase hst hfew hline
end
section
variable{env e e':En}{v:PV}{i:Nat}{r:Out}
@[simp] theorem ib:mC v env=.ok v:=rfl
@[simp] theorem dy:aj env=.ok []:=rfl
@[simp] theorem cw:aa a m env=(a env).bind fun x=>(m env).bind fun xs=>.ok (x::xs):=rfl
@[simp] theorem Et:mUn f a env=(a env).bind f:=rfl
@[simp] theorem dJ:mOp f a b env=(a env).bind fun x=>(b env).bind fun y=>f x y:=rfl
@[simp] theorem cH:ao f m env=(m env).bind f:=rfl
@[simp] theorem zq:aZ m env=(m env).bind fun xs=>.ok (.lst .own xs):=rfl
@[simp] theorem DM:ba m env=(m env).bind fun xs=>.ok (.tup xs):=rfl
@[simp] theorem vR:im a env=(a env).bind fun b=>.ok (!b):=rfl
@[simp] theorem tw:bV a env=(a env).bind kE:=rfl
@[simp] theorem DQ:Dn a c env=(a env).bind (nh c):=rfl
@[simp] theorem j7:bS env=.ok none:=rfl
@[simp] theorem kT:bG env=.ok true:=rfl
def AK:Option (Option PV)->Res PV
 | some (some v)=>.ok (v.mapF Fl.lend)
 | _=>.stuck
@[simp] theorem a5(v:PV):AK (some (some v))=.ok (v.mapF Fl.lend):=rfl
@[simp] theorem bx:ad i env=AK env[i]?:=by
 unfold ad
 cases env[i]? with
 | none=>rfl
 | some w=>cases w<;>rfl
def pBl:PV->Res Bool
 | .bl b=>.ok b
 | _=>.stuck
@[simp] theorem DA(b:Bool):pBl (.bl b)=.ok b:=rfl
@[simp] theorem eD:ar a env=(a env).bind pBl:=by
 rfl
def AN:PV->Res PV
 | .bl b=>.ok (.bl (!b))
 | _=>.stuck
@[simp] theorem CQ(b:Bool):AN (.bl b)=.ok (.bl (!b)):=rfl
@[simp] theorem De:Bm a env=(a env).bind AN:=by
 rfl
def yf(r:Res PV):PV->Res PV
 | .bl b=>if b then r else .ok (.bl false)
 | _=>.stuck
@[simp] theorem CS(r:Res PV)(b:Bool):yf r (.bl b)=if b then r else .ok (.bl false):=rfl
@[simp] theorem Df:jk a b env=(a env).bind (yf (b env)):=by
 unfold jk
 congr 1
 funext x
 cases x with
 | bl b=>cases b<;>rfl
 | _=>rfl
def pOr(r:Res PV):PV->Res PV
 | .bl b=>if b then .ok (.bl true)else r
 | _=>.stuck
@[simp] theorem Dx(r:Res PV)(b:Bool):pOr r (.bl b)=if b then .ok (.bl true)else r:=rfl
@[simp] theorem DO:Bl a b env=(a env).bind (pOr (b env)):=by
 unfold Bl
 congr 1
 funext x
 cases x with
 | bl b=>cases b<;>rfl
 | _=>rfl
@[simp] theorem B0:sI f g a b c env=(a env).bind fun x=>(b env).bind fun y=>(f x y).bind (yf ((c env).bind fun z=>g y z)):=by
 unfold sI
 congr 1
 funext x
 congr 1
 funext y
 congr 1
 funext z
 cases z with
 | bl b=>cases b<;>rfl
 | _=>rfl
@[simp] theorem BC(g:Int->Int->PV)(i j:Int):ja g (.int i) (.int j)=.ok (g i j):=rfl
def wr:PV->Res (Option Int)
 | .int i=>.ok (some i)
 | _=>.stuck
@[simp] theorem j1(i:Int):wr (.int i)=.ok (some i):=rfl
@[simp] theorem o8:cV a env=(a env).bind wr:=by
 rfl
def AR(l h:Option Int):PV->Res PV
 | .lst _ xs=>.ok (.lst .own (iz xs l h))
 | _=>.stuck
@[simp] theorem lL(l h:Option Int)(f:Fl)(xs:List PV):AR l h (.lst f xs)=.ok (.lst .own (iz xs l h)):=rfl
@[simp] theorem mr:cq o lo hi env=(o env).bind fun x=>(lo env).bind fun l=>(hi env).bind fun h=>AR l h x:=by
 rfl
def cU(v:PV):Res PV:=if v.has Fl.isBor then .stuck else .ok v
@[simp] theorem cB:ax f xs=(f (mapL Fl.toBor xs)).bind cU:=by
 unfold ax
 cases f (mapL Fl.toBor xs)<;>rfl
def kG(disp:Nat->Option (List PV->Res PV))(r:Res (List PV)):PV->Res PV
 | .obj fl c ks vs=>match disp c with
  | some m=>r.bind fun xs=>ax m (.obj fl c ks vs::xs)
  | none=>.stuck
 | _=>.stuck
@[simp] theorem AO(disp:Nat->Option (List PV->Res PV))(r:Res (List PV))(fl:Fl)(c:Nat)(ks:List Nat)(vs:List PV):kG disp r (.obj fl c ks vs)=match disp c with
  | some m=>r.bind fun xs=>ax m (.obj fl c ks vs::xs)
  | none=>.stuck:=rfl
@[simp] theorem zp:cQ disp o ms env=(o env).bind (kG disp (ms env)):=by
 unfold cQ
 congr 1
 funext x
 cases x<;>rfl
@[simp] theorem Dc:b9 m env=(m env).bind fun x=>match x with
 | .lst f xs=>if !f.isLnt&&gq xs then .ok xs else .stuck
 | .tup xs=>if gq xs then .ok xs else .stuck
 | _=>.stuck:=rfl
def rV(x:PV):Res (List PV):=match bA x with
 | some xs=>.ok xs
 | none=>.stuck
@[simp] theorem zX(f:Fl)(xs:List PV):rV (.lst f xs)=.ok xs:=rfl
@[simp] theorem zW(xs:List PV):rV (.tup xs)=.ok xs:=rfl
@[simp] theorem vQ:cr m env=(m env).bind rV:=rfl
@[simp] theorem vS:eL a b env=(a env).bind fun x=>if x then b env else .ok false:=rfl
@[simp] theorem DN:eO a b env=(a env).bind fun x=>if x then .ok true else b env:=rfl
@[simp] theorem zr:ji c a b env=(c env).bind fun x=>if x then a env else b env:=rfl
@[simp] theorem DP:jE c f m env=(m env).bind fun xs=>ax f (.obj .own c [] []::xs):=rfl
theorem aG(h1:a env=.next e)(h2:b e=r):ap a b env=r:=by unfold ap;rw[h1];exact h2
theorem ut(h1:a env=.ret v):ap a b env=.ret v:=by unfold ap;rw[h1]
theorem dG(h1:a env=.exc c e):ap a b env=.exc c e:=by unfold ap;rw[h1]
theorem nR(h:c env=.ok true)(h2:a env=r):mBr c a b env=r:=by unfold mBr;rw[h];exact h2
theorem mF(h:c env=.ok false)(h2:b env=r):mBr c a b env=r:=by unfold mBr;rw[h];exact h2
theorem bw(h:m env=.ok v)(hl:v.noLnt=true)(ho:bO i env=true):aD i m env=.next (env.set i (some v)):=by
 unfold aD;rw[h];simp[hl,ho]
theorem jY(h:m env=.ok v)(hl:v.noLnt=true):aS m env=.ret v:=by unfold aS;rw[h];simp[hl]
theorem rq(h:env[i]?=some (some v)):cN i env=.ret v:=by unfold cN;rw[h]
theorem vV(h:m env=.ok v):bL m env=.next env:=by unfold bL;rw[h]
theorem jw(h:m env=.exc c):bL m env=.exc c env:=by unfold bL;rw[h]
theorem iC(h:m env=.exc c):aD i m env=.exc c env:=by unfold aD;rw[h]
theorem uJ(h:m env=.exc c):aS m env=.exc c env:=by unfold aS;rw[h]
theorem fv(h:m env=.ok xs):aC c m env=.exc c env:=by unfold aC;rw[h]
theorem dI:aB env=.next env:=rfl
theorem kj(h:m env=.ok v)(ho:env[i]?=some (some (.lst .own xs)))(hl:v.noLnt=true)(hn:xs.length < 10000000):bE i m env=.next (env.set i (some (.lst .own (xs++[v])))):=by
 unfold bE;rw[h,ho];simp[hl,hn]
theorem ud(h:mb env=.exc c e)(hh:hit c=true)(h2:mO i (mh (e.set i (some (.exc c))))=r):p3 mb hit i mh mo env=r:=by
 unfold p3;rw[h];simp only[hh,if_true];exact h2
theorem jt(h:env[i]?=some (some v)):dW i env=.next (env.set i (some (v.mapF Fl.freeze))):=by unfold dW;rw[h]
theorem cM(h:m (args.map some++List.replicate (n - args.length) none)=.ret v):aR n m args=.ok v:=by unfold aR;rw[h]
theorem di(h:m (args.map some++List.replicate (n - args.length) none)=.exc c e):aR n m args=.exc c:=by unfold aR;rw[h]
theorem pJ(h:m (args.map some++List.replicate (n - args.length) none)=.next e):aR n m args=.ok .non:=by unfold aR;rw[h]
theorem vL(P:Nat->En->Prop)(h:it env=.ok xs)(h0:P 0 env)
  (step:∀(k:Nat) (x:PV) (e:En),xs[k]?=some x->P k e->∃e1 e2,g x e=some e1/\(body e1=.next e2\/body e1=.cont e2)/\P (k+1) e2):∃e2,cv it g body env=.next e2/\P xs.length e2:=by
 unfold cv
 rw[h]
 dsimp only
 have key:∀ (ys pre:List PV) (e:En),pre ++ ys=xs->P pre.length e->∃ e2,jF (fun x e=>match g x e with
  | some e'=>body e'
  | none=>.stuck) ys e=.next e2/\P xs.length e2:=by
  intro ys
  induction ys with
  | nil=>intro pre e hp hP;simp at hp;subst hp;exact⟨e,rfl,hP⟩
  | cons y ys ih =>
   intro pre e hp hP
   obtain⟨e1,e2,h1,h2,h3⟩:=step pre.length y e (by rw[<- hp];simp) hP
   obtain⟨e3,h4,h5⟩:=ih (pre++[y]) e2 (by rw[<- hp];simp) (by simpa using h3)
   refine⟨e3,?_,h5⟩
   unfold jF
   simp only[h1]
   rcases h2 with h2 | h2<;>rw[h2]<;>exact h4
 exact key xs [] env rfl h0
theorem oW(P:Nat->En->Prop)(R:Out->Prop)(h:it env=.ok xs)(h0:P 0 env)
  (step:∀(k:Nat) (x:PV) (e:En),xs[k]?=some x->P k e->∃e1,g x e=some e1/\((∃e2,(body e1=.next e2\/body e1=.cont e2)/\P (k+1) e2)\/(∃e2,body e1=.brk e2/\R (.next e2))\/(∃v,body e1=.ret v/\R (.ret v))\/ ∃c e2,body e1=.exc c e2/\R (.exc c e2)))
  (fin:∀e,P xs.length e->R (.next e)):R (cv it g body env):=by
 unfold cv
 rw[h]
 dsimp only
 have key:∀ (ys pre:List PV) (e:En),pre ++ ys=xs->P pre.length e->R (jF (fun x e=>match g x e with
  | some e'=>body e'
  | none=>.stuck) ys e):=by
  intro ys
  induction ys with
  | nil=>intro pre e hp hP;simp at hp;subst hp;exact fin e hP
  | cons y ys ih =>
   intro pre e hp hP
   obtain⟨e1,h1,h2⟩:=step pre.length y e (by rw[<- hp];simp) hP
   unfold jF
   simp only[h1]
   rcases h2 with⟨e2,h2,h3⟩ |⟨e2,h2,h3⟩ |⟨v,h2,h3⟩ |⟨c,e2,h2,h3⟩
   ·have:=ih (pre++[y]) e2 (by rw[<- hp];simp) (by simpa using h3)
    rcases h2 with h2 | h2<;>rw[h2]<;>exact this
   ·rw[h2];exact h3
   ·rw[h2];exact h3
   ·rw[h2];exact h3
 exact key xs [] env rfl h0
theorem vW(h:mi env=.ok xs)(hl:xs.length<=10000000)(hc:b_ g mc me (cA caps k env) xs=.ok ys):bz caps k mi g mc me env=.ok (.lst .own ys):=by
 unfold bz;rw[h];simp only[Res.ok_bind,hl,if_true,hc]
theorem ie{α:Type}{a:α->PV}{f:α->PV}:∀(xs:List α),(∀x∈xs,∃e1,g (a x).borrow env=some e1/\me e1=.ok (f x)/\(f x).has Fl.isBor=false/\(f x).has Fl.isLnt=false)->
  b_ g bG me env (xs.map a)=.ok (xs.map f)
 | [],_=>rfl
 | x::xs,h=>by
  obtain⟨e1,h1,h2,h3,h4⟩:=h x List.mem_cons_self
  rw[List.map_cons,b_,h1]
  simp only[kT,Res.ok_bind,if_true,h2,h3,h4,Bool.or_self,Bool.false_eq_true,if_false,ie xs fun y hy=>h y (List.mem_cons_of_mem _ hy)]
  rfl
end
def iL(ns:List Int):List PV:=ns.map .int
theorem sQ(ns:List Int):ns.map PV.int=iL ns:=rfl
section
variable(ns ms:List Int)(g:Fl->Fl)(p:Fl->Bool)
@[simp] theorem Bz:iL []=[]:=rfl
@[simp] theorem fA(n:Int):iL (n::ns)=.int n::iL ns:=rfl
@[simp] theorem lX:(iL ns).length=ns.length:=by simp[iL]
@[simp] theorem BB:iL ns++iL ms=iL (ns++ms):=by simp[iL]
@[simp] theorem qb(k:Nat):(iL ns).drop k=iL (ns.drop k):=by simp[iL]
@[simp] theorem qa(k:Nat):(iL ns).take k=iL (ns.take k):=by simp[iL]
@[simp] theorem BA(k:Nat):(iL ns)[k]?=(ns[k]?).map .int:=by simp[iL]
@[simp] theorem By(k:Nat)(n:Int):(iL ns).set k (.int n)=iL (ns.set k n):=by simp[iL,List.map_set]
@[simp] theorem zY:mapL g (iL ns)=iL ns:=by
 induction ns with
 | nil=>rfl
 | cons n ns ih=>simp[mapL,PV.mapF,ih]
@[simp] theorem Ag:hasL p (iL ns)=false:=by
 induction ns with
 | nil=>rfl
 | cons n ns ih=>simp[hasL,PV.has,ih]
@[simp] theorem Ai:PyData.canLayAll0 (dataL (iL ns))=true:=by
 induction ns with
 | nil=>rfl
 | cons n ns ih=>simp only[fA,dataL,PV.data,PyData.canLayAll0,ih];rfl
@[simp] theorem Ah:PyData.depthAll (dataL (iL ns))=0:=by
 induction ns with
 | nil=>rfl
 | cons n ns ih=>simp only[fA,dataL,PV.data,PyData.depthAll,ih];rfl
@[simp] theorem f8(i:Int):shp (.int i)=true:=rfl
@[simp] theorem Ds(b:Bool):shp (.bl b)=true:=rfl
@[simp] theorem CJ:shp .non=true:=rfl
@[simp] theorem lm(f:Fl):shp (.lst f (iL ns))=true:=by
 simp[shp,SeqAt.shaped,PV.data,PyData.canLay0,PyData.depth]
@[simp] theorem jV:(iL ns).all shp=true:=by
 induction ns with
 | nil=>rfl
 | cons n ns ih=>simp only[fA,List.all_cons,f8,ih];rfl
@[simp] theorem DR(i j:Int):pEq (.int i) (.int j)=.ok (.bl (decide (i=j))):=by
 unfold pEq
 simp only[f8,Bool.and_self,if_true,PV.data,PyData.eqv]
 congr 2
@[simp] theorem DC(i j:Int):pNe (.int i) (.int j)=.ok (.bl (!decide (i=j))):=by
 unfold pNe
 simp only[f8,Bool.and_self,if_true,PV.data,PyData.eqv]
 congr 2
@[simp] theorem Eu(i j:Bool):pEq (.bl i) (.bl j)=.ok (.bl (decide (i=j))):=by cases i<;>cases j<;>rfl
@[simp] theorem Ep(i j:Bool):pNe (.bl i) (.bl j)=.ok (.bl (!decide (i=j))):=by cases i<;>cases j<;>rfl
theorem j8:PyData.eqvAll (dataL (iL ns)) (dataL (iL ms))=decide (ns=ms):=by
 induction ns generalizing ms with
 | nil=>cases ms<;>simp[dataL,PyData.eqvAll]
 | cons n ns ih =>
  cases ms with
  | nil=>simp[dataL,PyData.eqvAll]
  | cons m ms=>simp only[fA,dataL,PV.data,PyData.eqvAll,PyData.eqv,ih];by_cases h:n=m<;>simp[h]
@[simp] theorem Dg(f f':Fl):pEq (.lst f (iL ns)) (.lst f' (iL ms))=.ok (.bl (decide (ns=ms))):=by
 unfold pEq
 simp only[lm,Bool.and_self,if_true,PV.data,PyData.eqv,j8]
@[simp] theorem CU(f f':Fl):pNe (.lst f (iL ns)) (.lst f' (iL ms))=.ok (.bl (!decide (ns=ms))):=by
 unfold pNe
 simp only[lm,Bool.and_self,if_true,PV.data,PyData.eqv,j8]
@[simp] theorem lt_int(i j:Int):pLt (.int i) (.int j)=.ok (.bl (decide (i < j))):=rfl
@[simp] theorem le_int(i j:Int):pLe (.int i) (.int j)=.ok (.bl (decide (i<=j))):=rfl
@[simp] theorem gt_int(i j:Int):pGt (.int i) (.int j)=.ok (.bl (decide (j < i))):=rfl
@[simp] theorem ge_int(i j:Int):pGe (.int i) (.int j)=.ok (.bl (decide (j<=i))):=rfl
@[simp] theorem lE(i j:Int):aM (.int i) (.int j)=.ok (.int (i+j)):=rfl
@[simp] theorem sub_int(i j:Int):ng (.int i) (.int j)=.ok (.int (i - j)):=rfl
@[simp] theorem neg_int(i:Int):u9 (.int i)=.ok (.int (-i)):=rfl
theorem sm(h:0 < j):i_ (.int i) (.int j)=.ok (.int (i % j)):=by simp[i_,fP,h]
theorem rJ(h0:0<=j)(h1:j<=1000000)(h2:i.natAbs < 2 ^ 64):u8 (.int i) (.int j)=.ok (.int (i ^ j.toNat)):=by
 unfold u8 fP
 dsimp only
 rw[if_pos (by simp only[decide_eq_true_eq];exact⟨h0,h1,h2⟩)]
@[simp] theorem El:u8 (.int 10) (.int 60)=.ok (.int (10 ^ 60)):=rJ (by decide) (by decide) (by decide)
@[simp] theorem C2(f:Fl)(xs:List PV):ck (.lst f xs)=.ok (.int xs.length):=rfl
@[simp] theorem C1(xs:List PV):ck (.tup xs)=.ok (.int xs.length):=rfl
@[simp] theorem Bq(f:Fl)(xs:List PV):j3 (.lst f xs)=.ok (.lst .own xs):=rfl
@[simp] theorem DB(f:PV->Res PV)(x:PV):p1 f [x]=f x:=by simp only[p1]
@[simp] theorem C6(c:String)(i:Int):nh c (.int i)=.ok (.bl (p8 "int" c)):=rfl
@[simp] theorem DG(c:String)(i:Bool):nh c (.bl i)=.ok (.bl (p8 "bool" c)):=rfl
@[simp] theorem C4(c:String):nh c .non=.ok (.bl (p8 "NoneType" c)):=rfl
@[simp] theorem C5(c:String)(f:Fl)(xs:List PV):nh c (.lst f xs)=.ok (.bl (p8 "list" c)):=rfl
@[simp] theorem C3(c:String)(xs:List PV):nh c (.tup xs)=.ok (.bl (p8 "tuple" c)):=rfl
@[simp] theorem An(b:Bool):kE (.bl b)=.ok b:=rfl
@[simp] theorem zS(i:Int):kE (.int i)=.ok (i != 0):=rfl
@[simp] theorem jf(i:Int):(PV.int i).mapF g=.int i:=by simp[PV.mapF]
@[simp] theorem CV(b:Bool):(PV.bl b).mapF g=.bl b:=by simp[PV.mapF]
@[simp] theorem Bj:PV.non.mapF g=.non:=by simp[PV.mapF]
@[simp] theorem dS(x:Str):(PV.str x).mapF g=.str x:=by simp[PV.mapF]
@[simp] theorem Bk(x:Nat):(PV.exc x).mapF g=.exc x:=by simp[PV.mapF]
@[simp] theorem bQ(f:Fl)(xs:List PV):(PV.lst f xs).mapF g=.lst (g f) (mapL g xs):=by simp[PV.mapF]
@[simp] theorem e_(xs:List PV):(PV.tup xs).mapF g=.tup (mapL g xs):=by simp[PV.mapF]
@[simp] theorem Bg(f:Fl)(c:Nat)(ks:List Nat)(xs:List PV):(PV.obj f c ks xs).mapF g=.obj (g f) c ks (mapL g xs):=by simp[PV.mapF]
@[simp] theorem bP:mapL g []=[]:=by simp[mapL]
@[simp] theorem a8(x:PV)(xs:List PV):mapL g (x::xs)=x.mapF g::mapL g xs:=by simp[mapL]
@[simp] theorem Da(i:Int):(PV.int i).has p=false:=by simp[PV.has]
@[simp] theorem DI(b:Bool):(PV.bl b).has p=false:=by simp[PV.has]
@[simp] theorem C_:PV.non.has p=false:=by simp[PV.has]
@[simp] theorem vI(x:Str):(PV.str x).has p=false:=by simp[PV.has]
@[simp] theorem Db(x:Nat):(PV.exc x).has p=false:=by simp[PV.has]
@[simp] theorem gB(f:Fl)(xs:List PV):(PV.lst f xs).has p=(p f||hasL p xs):=by simp[PV.has]
@[simp] theorem vH(xs:List PV):(PV.tup xs).has p=hasL p xs:=by simp[PV.has]
@[simp] theorem C9(f:Fl)(c:Nat)(ks:List Nat)(xs:List PV):(PV.obj f c ks xs).has p=(p f||hasL p xs):=by simp[PV.has]
@[simp] theorem BG:hasL p []=false:=by simp[hasL]
@[simp] theorem hZ(x:PV)(xs:List PV):hasL p (x::xs)=(x.has p||hasL p xs):=by simp[hasL]
@[simp] theorem lN(x:PV):x.noLnt=!x.has Fl.isLnt:=rfl
@[simp] theorem Aj(x:PV):x.borrow=x.mapF Fl.borrow:=rfl
@[simp] theorem Br:Fl.own.lend=.lnt:=rfl
@[simp] theorem fh:Fl.frz.lend=.frz:=rfl
@[simp] theorem Bt:Fl.bor.lend=.bor:=rfl
@[simp] theorem Bs:Fl.lnt.lend=.lnt:=rfl
@[simp] theorem zT:Fl.own.toBor=.own:=rfl
@[simp] theorem jR:Fl.frz.toBor=.frz:=rfl
@[simp] theorem zV:Fl.bor.toBor=.bor:=rfl
@[simp] theorem zU:Fl.lnt.toBor=.bor:=rfl
@[simp] theorem w_:Fl.own.borrow=.bor:=rfl
@[simp] theorem zE:Fl.frz.borrow=.frz:=rfl
@[simp] theorem zF:Fl.bor.borrow=.bor:=rfl
@[simp] theorem zD:Fl.lnt.borrow=.bor:=rfl
@[simp] theorem z0:Fl.own.isOwn=true:=rfl
@[simp] theorem z6:Fl.frz.isOwn=false:=rfl
@[simp] theorem z7:Fl.bor.isOwn=false:=rfl
@[simp] theorem z5:Fl.lnt.isOwn=false:=rfl
@[simp] theorem z8:Fl.own.isLnt=false:=rfl
@[simp] theorem z_:Fl.frz.isLnt=false:=rfl
@[simp] theorem Aa:Fl.bor.isLnt=false:=rfl
@[simp] theorem z9:Fl.lnt.isLnt=true:=rfl
@[simp] theorem Ab:Fl.own.isBor=false:=rfl
@[simp] theorem Ad:Fl.frz.isBor=false:=rfl
@[simp] theorem Ae:Fl.bor.isBor=true:=rfl
@[simp] theorem Ac:Fl.lnt.isBor=false:=rfl
@[simp] theorem fX:Fl.own.freeze=.frz:=rfl
@[simp] theorem zb:Fl.frz.freeze=.frz:=rfl
@[simp] theorem zc:Fl.bor.freeze=.bor:=rfl
@[simp] theorem za:Fl.lnt.freeze=.lnt:=rfl
theorem sS(h0:0<=i)(h:ns[i.toNat]?=some n):az (.lst f (iL ns)) (.int i)=.ok (.int n):=by
 have hl:i.toNat < ns.length:=(List.getElem?_eq_some_iff.mp h).1
 unfold az
 simp only[bA,atI,ixN,lX,h0,if_true]
 rw[if_pos (by omega)]
 simp[h]
end
section
variable{env:En}{r:Out}
def CG(o:Out)(Q:En->Prop):Prop:=∃e,(o=.next e\/o=.cont e)/\Q e
theorem qh(h1:o=.next e)(h2:Q e):CG o Q:=⟨e,.inl h1,h2⟩
theorem uu{it:MI}{g:TgM}{body bf:MS}{xs:List PV}(P:Nat->En->Prop)(h:it env=.ok xs)(h0:P 0 env)
  (step:∀(k:Nat) (x:PV) (e:En),xs[k]?=some x->P k e->∃e1,g x e=some e1/\CG (body e1) (P (k+1))) (fin:∀e,P xs.length e->bf e=r):ap (cv it g body) bf env=r:=by
 obtain⟨e2,h1,h2⟩:=vL P h h0 fun k x e h1 h2=>by
  obtain⟨e1,h3,e2,h4,h5⟩:=step k x e h1 h2
  exact⟨e1,e2,h3,h4,h5⟩
 exact aG h1 (fin e2 h2)
theorem y_{ns:List Int}{k:Nat}{x:PV}(h:(iL ns)[k]?=some x):∃n,ns[k]?=some n/\x=.int n:=by
 simp at h
 obtain⟨n,h1,h2⟩:=h
 exact⟨n,h1,h2.symm⟩
theorem qB(h:bO i e=true):tgN i v e=some (e.set i (some v)):=by simp[tgN,h]
end
theorem zu(ns:List Int)(lo hi:Nat){l h:Int}(hl:l=lo)(hh:h=hi):iz (iL ns) (some l) (some h)=iL ((ns.take hi).drop lo):=by
 subst hl hh
 unfold iz
 rw[HT.sIx_nat,HT.sIx_nat]
 simp only[lX,qb,qa]
 congr 1
 rw[List.drop_take]
 rcases Nat.le_total lo ns.length with h1 | h1
 ·rw[Nat.min_eq_left h1]
  rcases Nat.le_total hi ns.length with h2 | h2
  ·rw[Nat.min_eq_left h2]
  ·rw[Nat.min_eq_right h2,List.take_of_length_le (by simp),List.take_of_length_le (by simp;omega)]
 ·rw[Nat.min_eq_right h1,List.drop_eq_nil_of_le (Nat.le_refl _),List.drop_eq_nil_of_le h1]
  simp
theorem lD(hf:f≠.mod)(hg:g≠.mod)(h:xs.length+ys.length<=10000000):aM (.lst f xs) (.lst g ys)=.ok (.lst .own (xs++ys)):=by
 unfold aM
 dsimp only
 rw[if_neg (by simp only[hf,hg,h,not_true_eq_false,or_self,not_false_eq_true])]
theorem vD(h:k < n):ixN n (k:Int)=some k:=by
 unfold ixN
 rw[if_pos (by omega),if_pos (by omega),Int.toNat_natCast]
def llL(f:Fl)(xss:List (List Int)):List PV:=xss.map fun xs=>.lst f (iL xs)
section
variable(xss yss:List (List Int))(g:Fl->Fl)(p:Fl->Bool)(f:Fl)
@[simp] theorem CW:llL f []=[]:=rfl
@[simp] theorem Bo(xs:List Int):llL f (xs::xss)=.lst f (iL xs)::llL f xss:=rfl
@[simp] theorem CY:(llL f xss).length=xss.length:=by simp[llL]
@[simp] theorem CZ:llL f xss++llL f yss=llL f (xss++yss):=by simp[llL]
@[simp] theorem Bf:mapL g (llL f xss)=llL (g f) xss:=by
 induction xss with
 | nil=>rfl
 | cons n ns ih=>simp[ih]
end
theorem xG(lo:Int)(n:Nat):gO lo n=iL ((List.range n).map fun k=>lo+(k:Nat)):=by simp[gO,iL]
def qw(n:Nat):List Int:=(List.range n).map fun(k:Nat)=>(k:Int)
@[simp] theorem Am(n:Nat):(qw n).length=n:=by simp[qw]
theorem rp(n:Nat):gO 0 n=iL (qw n):=by rw[xG];simp[qw]
@[simp] theorem zZ{n:Nat}(h:n<=1000000):oK [.int n]=.ok (.lst .own (iL (qw n))):=by
 unfold oK
 dsimp only
 rw[if_pos (by simp;omega),Int.toNat_natCast,rp]
@[simp] theorem DH(b c:Bool):Dy (.bl b) (.bl c)=.ok (.bl (b==c)):=rfl
@[simp] theorem CT(b c:Bool):AM (.bl b) (.bl c)=.ok (.bl (!(b==c))):=rfl
@[simp] theorem Af(ns:List Int):bp (iL ns)=some ns:=by
 induction ns with
 | nil=>rfl
 | cons n ns ih=>simp[bp,ih]
theorem oR(i:Int)(ns:List Int):inL (.int i) (iL ns)=ns.contains i:=by
 induction ns with
 | nil=>rfl
 | cons n ns ih =>
  have e:inL (.int i) (iL (n::ns))=(PyData.eqv (PV.int n).data (PV.int i).data||inL (.int i) (iL ns)):=rfl
  rw[e,ih,List.contains_cons]
  congr 1
  simp only[PV.data,PyData.eqv]
  exact Bool.beq_comm
@[simp] theorem Es(i:Int)(ns:List Int)(f:Fl):pIn (.int i) (.lst f (iL ns))=.ok (.bl (ns.contains i)):=by
 unfold pIn
 simp only[bA,f8,jV,Bool.and_self,if_true,oR]
@[simp] theorem Bc(i:Int)(ns:List Int)(f:Fl):du (.int i) (.lst f (iL ns))=.ok (.bl (!ns.contains i)):=by
 unfold du
 simp only[bA,f8,jV,Bool.and_self,if_true,oR]
def Ends(o:Out):Prop:=∃e,o=.next e
theorem lr(h:m env=.ok (.lst f xs))(hf:f.isLnt=false)(h1:hasL Fl.isOwn xs=false)(h2:hasL Fl.isLnt xs=false):b9 m env=.ok xs:=by
 unfold b9
 rw[h]
 simp[hf,gq,h1,h2]
end PR
namespace PR
section
variable{n r s k o:Nat}{adj:Nat->Nat->Prop}{far:List Int}
def gt(far:List Int)(i:Nat):Int:=far.getD i 0
structure Far(n r:Nat)(adj:Nat->Nat->Prop)(s k:Nat)(d:Nat->Prop)(far:List Int):Prop where
 len:far.length=n
 rt:gt far r=0
 rng:∀i < n,0<=gt far i/\(gt far i<=s+1\/gt far i=n)
 top:∀i < n,gt far i<=n
 up:∀i < n,∀j < n,gt far i < s->adj i j->gt far j<=gt far i+1
 upk:∀i < k,∀j < n,gt far i=s->adj i j->gt far j<=s+1
 upd:∀j < n,d j->gt far j<=s+1
 dn:∀i < n,i≠r->gt far i < n->1<=gt far i/\∃j < n,adj i j/\gt far j=gt far i - 1
theorem Far.none(F:Far n r adj s k (fun _=>False) far)(hd:∀j,¬d j):Far n r adj s k d far where
 len:=F.len
 rt:=F.rt
 rng:=F.rng
 top:=F.top
 up:=F.up
 upk:=F.upk
 upd:=fun j _ z=>absurd z (hd j)
 dn:=F.dn
theorem Far.next(F:Far n r adj s n (fun _=>False) far):Far n r adj (s+1) 0 (fun _=>False) far where
 len:=F.len
 rt:=F.rt
 rng:=fun i hi=>by have:=F.rng i hi;omega
 top:=F.top
 up:=fun i hi j hj hv a=>by
  by_cases h:gt far i < s
  ·exact F.up i hi j hj h a
  ·have e:gt far i=s:=by omega
   have:=F.upk i hi j hj e a
   omega
 upk:=fun i hi=>absurd hi (Nat.not_lt_zero _)
 upd:=fun _ _ z=>z.elim
 dn:=F.dn
structure wf(n r:Nat)(adj:Nat->Nat->Prop)(far:List Int):Prop where
 len:far.length=n
 rt:gt far r=0
 rng:∀i < n,0<=gt far i/\gt far i<=n
 up:∀i < n,∀j < n,adj i j->gt far j<=gt far i+1
 dn:∀i < n,i≠r->gt far i < n->1<=gt far i/\∃j < n,adj i j/\gt far j=gt far i - 1
theorem wB:∀{l l':List Int},l.Nodup->(∀x∈l,x∈l')->l.length<=l'.length
 | [],_,_,_=>Nat.zero_le _
 | x::l,l',nd,sub=>by
  obtain⟨h1,h2⟩:=List.nodup_cons.mp nd
  have hx:=sub x List.mem_cons_self
  have:=wB (l':=l'.erase x) h2 fun y hy=>(List.mem_erase_of_ne (show y≠x from fun z=>h1 (z▸hy))).mpr (sub y (List.mem_cons_of_mem _ hy))
  rw[List.length_erase_of_mem hx]at this
  have:=List.length_pos_of_mem hx
  rw[List.length_cons]
  omega
theorem wf.below(D:wf n r adj far)(hr:r < n):∀(m:Nat),(∃i < n,gt far i=m)->m < n->∀v,v<=m->∃i < n,gt far i=v
 | 0,h,_,v,hv=>by
  have:v=0:=by omega
  subst this;exact h
 | m+1,⟨i,hi,e⟩,hm,v,hv=>by
  rcases Nat.lt_or_ge v (m+1)with h | h
  ·have hir:i≠r:=fun z=>by subst z;have:=D.rt;omega
   obtain⟨_,j,hj,_,ej⟩:=D.dn i hi hir (by omega)
   exact D.below hr m ⟨j,hj,by omega⟩ (by omega) v (by omega)
  ·have:v=m+1:=by omega
   subst this
   exact⟨i,hi,e⟩
theorem sV(h:i < far.length):gt far i∈far:=by
 simp[gt,h]
theorem wf.all(D:wf n r adj far)(hr:r < n)(conn:∀S:Nat->Prop,S r->(∀i < n,∀j < n,adj i j->S i->S j)->∀i < n,S i):∀i < n,gt far i < n:=by
 refine conn (fun i=>gt far i < n) (by show gt far r < n;rw[D.rt];omega) fun i hi j hj a hv=>?_
 show gt far j < n
 rcases Int.lt_or_le (gt far j) n with h | h
 ·exact h
 exfalso
 have h1:=D.up i hi j hj a
 have h2:=(D.rng j hj).2
 have e:gt far i=((n - 1:Nat):Int):=by omega
 have all:∀v:Nat,v < n+1->(v:Int)∈ far:=fun v hv=>by
  rcases Nat.lt_or_ge v n with h | h
  ·obtain⟨x,hx,ex⟩:=D.below hr (n - 1) ⟨i,hi,e⟩ (by omega) v (by omega)
   rw[<- ex]
   exact sV (by rw[D.len];exact hx)
  ·have:(v:Int)=gt far j:=by omega
   rw[this]
   exact sV (by rw[D.len];exact hj)
 have:=wB (l:=(List.range (n+1)).map fun k:Nat=>(k:Int)) (l':=far) (List.Pairwise.map _ (fun a b h z=>h (by omega)) List.nodup_range) fun x hx=>by
  obtain⟨v,hv,rfl⟩:=List.mem_map.mp hx
  exact all v (List.mem_range.mp hv)
 rw[List.length_map,List.length_range,D.len]at this
 omega
end
end PR
namespace PR
open PySem PySem.Spec L2
def prL(ps:List (Int×Int)):List PV:=ps.map prV
section
variable{ps qs:List (Int×Int)}{x:Int×Int}{f:Fl}{g:Fl->Fl}{p:Fl->Bool}
@[simp] theorem CM:prL []=[]:=rfl
@[simp] theorem rH:prL (x::ps)=prV x::prL ps:=rfl
@[simp] theorem CN:(prL ps).length=ps.length:=by simp[prL]
@[simp] theorem CP:prL ps++prL qs=prL (ps++qs):=by simp[prL]
@[simp] theorem CO(k:Nat):(prL ps)[k]?=(ps[k]?).map prV:=by simp[prL]
@[simp] theorem CK:PV.mapF g (prV x)=prV x:=rfl
@[simp] theorem CL:(prV x).has p=false:=rfl
@[simp] theorem Be:mapL g (prL ps)=prL ps:=by
 induction ps with
 | nil=>rfl
 | cons n ns ih=>simp[mapL,ih]
@[simp] theorem BF:hasL p (prL ps)=false:=by
 induction ps with
 | nil=>rfl
 | cons n ns ih=>simp[hasL,ih]
@[simp] theorem mX:shp (prV x)=true:=rfl
@[simp] theorem lq:(prL ps).all shp=true:=by
 induction ps with
 | nil=>rfl
 | cons n ns ih=>simp only[rH,List.all_cons,mX,ih];rfl
theorem zt(x y:Int×Int):PyData.eqv (prV x).data (prV y).data=decide (x=y):=by
 obtain⟨a,b⟩:=x
 obtain⟨c,d⟩:=y
 simp only[prV,PV.data,dataL,PyData.eqv,PyData.eqvAll]
 by_cases h1:a=c<;>by_cases h2:b=d<;>simp[h1,h2]
theorem sR:inL (prV x) (prL ps)=ps.contains x:=by
 induction ps with
 | nil=>rfl
 | cons n ns ih =>
  have e:inL (prV x) (prL (n::ns))=(PyData.eqv (prV n).data (prV x).data||inL (prV x) (prL ns)):=rfl
  rw[e,ih,List.contains_cons,zt]
  congr 1
  by_cases h:n=x
  ·subst h;simp
  ·rw[decide_eq_false h]
   exact(beq_eq_false_iff_ne.mpr (Ne.symm h)).symm
@[simp] theorem Er:pIn (prV x) (.lst f (prL ps))=.ok (.bl (ps.contains x)):=by
 unfold pIn
 simp only[bA,mX,lq,Bool.and_self,if_true,sR]
@[simp] theorem Bb:du (prV x) (.lst f (prL ps))=.ok (.bl (!ps.contains x)):=by
 unfold du
 simp only[bA,mX,lq,Bool.and_self,if_true,sR]
@[simp] theorem C8:az (prV x) (.int 0)=.ok (.int x.1):=rfl
@[simp] theorem C7:az (prV x) (.int 1)=.ok (.int x.2):=rfl
@[simp] theorem DD:eY iw (prV x)=.ok (.int (min x.1 x.2)):=rfl
@[simp] theorem DE:eY gY (prV x)=.ok (.int (max x.1 x.2)):=rfl
@[simp] theorem ye:eW (prL ps)=some ps:=by
 induction ps with
 | nil=>rfl
 | cons n ns ih =>
  have:i6 (prV n)=some n:=rfl
  simp[eW,ih,this]
end
theorem eC{x:PV}{xs:List PV}{k:Nat}{y:PV}(hs:bA x=some xs)(h:xs[k]?=some y)(ho:y.has Fl.isOwn=false):az x (.int k)=.ok y:=by
 have hl:k < xs.length:=(List.getElem?_eq_some_iff.mp h).1
 unfold az
 simp only[hs,atI]
 rw[vD hl]
 simp[h,ho]
def mm(w:Int×Int):Int×Int:=(min w.1 w.2,max w.1 w.2)
structure Ex(n:Nat)(ws:List (Int×Int)):Prop where
 rg:∀w∈ws,0<=w.1/\w.1 < n/\0<=w.2/\w.2 < n/\w.1≠w.2
 nd:(ws.map mm).Nodup
 sz:ws.length < 64
end PR
namespace PR
structure Ew(n:Nat)(od:List Int)(k:Nat)(ws:List (Int×Int)):Prop where
 rg:∀w∈ws,w.1∈od.take k/\w.2∈od.take k/\w.1≠w.2
 nd:(ws.map mm).Nodup
 ln:ws.length+1=k
 cn:∀S:Int->Prop,(∀w∈ws,(S w.1↔S w.2))->∀a∈od.take k,(S a↔S (od.getD 0 0))
structure Ev(n m:Nat)(ws:List (Int×Int)):Prop where
 rg:∀w∈ws,0<=w.1/\w.1 < n/\0<=w.2/\w.2 < n/\w.1≠w.2
 nd:(ws.map mm).Nodup
 ln:ws.length<=m
 cn:∀S:Int->Prop,(∀w∈ws,(S w.1↔S w.2))->∀i j:Nat,i < n->j < n->S i->S j
end PR
namespace PR
open PySem L2
@[simp] theorem Em:u8 (.int 10) (.int 59)=.ok (.int (10 ^ 59)):=rJ (by decide) (by decide) (by decide)
theorem cut_to(xs:List PV)(k:Nat)(h:k<=xs.length):iz xs none (some (k:Int))=xs.take k:=by
 unfold iz
 rw[HT.sIx_nat,HT.sIx_none]
 simp[Nat.min_eq_left h]
theorem mw(xs:List PV)(k:Nat)(h:k<=xs.length):iz xs (some (k:Int)) none=xs.drop k:=by
 unfold iz
 rw[HT.sIx_nat,HT.sIx_none]
 rw[Nat.min_eq_left h,List.take_of_length_le (by simp)]
@[simp] theorem Ak(bs:List Bool):cW (bs.map .bl)=some bs:=by
 induction bs with
 | nil=>rfl
 | cons b bs ih=>simp[cW,ih]
end PR
namespace PR
theorem s0_{α:Type}{a b:α}{l:List α}:(a::l).set 0 b=b::l:=rfl
theorem s1_{α:Type}{a b:α}{l:List α}{n:Nat}:(a::l).set (n+1) b=a::l.set n b:=rfl
end PR
namespace G
open PySem L2 PR
def fV:Nat->Bool:=bB [false,false,false,true,false,false,false,false]
def g8:Nat->Bool:=bB [false,false,true,false,false,false,false,false]
def jm:Nat->Bool:=bB [false,true,false,false,false,false,false,false]
def g7:Nat->Bool:=bB [false,false,false,false,false,true,false,false]
def fi:Nat->Bool:=bB [false,false,false,false,false,false,false,true]
def fU:Nat->Bool:=bB [false,false,false,false,false,false,true,false]
def g0:Nat->Bool:=bB [false,false,false,false,true,false,false,false]
def gy:Nat->Bool:=bB [true,true,true,true,true,true,true,true]
def iu:Nat->Bool:=bB [true,true,true,true,true,true,true,true]
def l_:Nat->Bool:=bB [false,false,false,false,false,false,false,true]
def nJ:Nat->Bool:=bB [false,false,false,false,false,false,true,false]
def qe:Nat->Bool:=bB [false,false,false,false,true,false,false,false]
def nK:Nat->Bool:=bB [false,false,false,true,false,false,false,false]
def qg:Nat->Bool:=bB [false,false,true,false,false,false,false,false]
def sU:Nat->Bool:=bB [false,true,false,false,false,false,false,false]
def qf:Nat->Bool:=bB [false,false,false,false,false,true,false,false]
def tU:MS :=
 (ap (mBr (ar (mOp pLt (ad 1) (ao (p1 ck) (aa (ad 0) aj))))
  (aS (mOp az (ad 0) (ad 1)))
  aB)
 (aS (mC (.int (0)))))
def o6:List PV->Res PV:=aR 2 tU
def xb:MS :=
 (ap (aD 1 (mC (.str "pass 3 7\nstate 0 1 0")))
 (ap (aD 2 (mC (.str "net 2 0-1\nfar 0\nstate 5 5")))
 (ap (aD 3 (aZ (aa (ba (aa (mC (.str "pass 1 5\nstate 0 0")) (aa (mC (.str "turn x")) (aa (mC (.str "text")) aj)))) (aa (ba (aa (mC (.str "pass 3 5")) (aa (mC (.str "")) (aa (mC (.str "text")) aj)))) (aa (ba (aa (ad 1) (aa (mC (.str "pass 3 7")) (aa (mC (.str "text")) aj)))) aj)))))
 (ap (aD 3 (mOp aM (ad 3) (aZ (aa (ba (aa (mC (.str "net 3 0-1 1-2\npass 3 5\nstate 0 0 0")) (aa (mC (.str "")) (aa (mC (.str "text")) aj)))) (aa (ba (aa (mC (.str "paint\nstate 0")) (aa (mC (.str "")) (aa (mC (.str "text")) aj)))) aj)))))
 (ap (aD 3 (mOp aM (ad 3) (aZ (aa (ba (aa (ad 1) (aa (mC (.str "state 1 2 3")) (aa (mC (.str "text")) aj)))) (aa (ba (aa (mC (.str "state 1\npass 3 5")) (aa (mC (.str "")) (aa (mC (.str "text")) aj)))) (aa (ba (aa (ad 1) (aa (mC (.str "net 1")) (aa (mC (.str "text")) aj)))) aj))))))
 (ap (aD 3 (mOp aM (ad 3) (aZ (aa (ba (aa (mC (.str "net 3 0-1\npaint\nstate 0 0")) (aa (mC (.str "")) (aa (mC (.str "net")) aj)))) (aa (ba (aa (mC (.str "net 3 0-1 1-2\nfar 3\nstate 0")) (aa (mC (.str "")) (aa (mC (.str "rule")) aj)))) aj)))))
 (ap (aD 3 (mOp aM (ad 3) (aZ (aa (ba (aa (mC (.str "net 3 0-1 1-2\nlead 1 1 2\nstate 0 0 0")) (aa (mC (.str "")) (aa (mC (.str "rule")) aj)))) (aa (ba (aa (mC (.str "pass 3 2\nstate 0")) (aa (mC (.str "")) (aa (mC (.str "rule")) aj)))) aj)))))
 (ap (aD 3 (mOp aM (ad 3) (aZ (aa (ba (aa (mC (.str "pass 3 5\nstate 0 0")) (aa (mC (.str "turn 7")) (aa (mC (.str "state")) aj)))) (aa (ba (aa (ad 1) (aa (mC (.str "turn 3")) (aa (mC (.str "turn")) aj)))) (aa (ba (aa (ad 1) (aa (mC (.str "turn 0 0")) (aa (mC (.str "turn")) aj)))) aj))))))
 (ap (aD 3 (mOp aM (ad 3) (aZ (aa (ba (aa (ad 2) (aa (mC (.str "turn 0 1")) (aa (mC (.str "turn")) aj)))) (aa (ba (aa (ad 1) (aa (mC (.str "spoil 3 1")) (aa (mC (.str "state")) aj)))) (aa (ba (aa (ad 1) (aa (mC (.str "look")) (aa (mC (.str "great")) aj)))) aj))))))
 (ap (aD 3 (mOp aM (ad 3) (aZ (aa (ba (aa (ad 2) (aa (mC (.str "look many")) (aa (mC (.str "turn")) aj)))) (aa (ba (aa (mC (.str "table 2 2 none 00000000 00000000\nstate 0 0")) (aa (mC (.str "measure")) (aa (mC (.str "none")) aj)))) aj)))))
 (ap (aD 3 (mOp aM (ad 3) (aZ (aa (ba (aa (mC (.str "table 2 2 one 00000000 0000000\nstate 0 0")) (aa (mC (.str "")) (aa (mC (.str "rule")) aj)))) (aa (ba (aa (mC (.str "count 0 2\nstate 0 0 0")) (aa (mC (.str "")) (aa (mC (.str "rule")) aj)))) aj)))))
 (ap (aD 3 (mOp aM (ad 3) (aZ (aa (ba (aa (ad 1) (aa (mC (.str "spoil -1 4\nturn 9")) (aa (mC (.str "state")) aj)))) (aa (ba (aa (ad 1) (aa (mC (.str "turn 9\nspoil 5 5")) (aa (mC (.str "turn")) aj)))) aj)))))
 (ap (aD 3 (mOp aM (ad 3) (aZ (aa (ba (aa (ad 1) (aa (mC (.str "turn -1")) (aa (mC (.str "turn")) aj)))) aj))))
 (ap (aD 3 (mOp aM (ad 3) (aZ (aa (ba (aa (mC (.str "net 1\ncount\nstate 0")) (aa (mC (.str "")) (aa (mC (.str "text")) aj)))) (aa (ba (aa (mC (.str "net 11\ngrow 0\nstate 0")) (aa (mC (.str "")) (aa (mC (.str "net")) aj)))) aj)))))
 (ap (aD 3 (mOp aM (ad 3) (aZ (aa (ba (aa (mC (.str "pass 2 3\nstate 0 0")) (aa (mC (.str "turn 5\nlook none")) (aa (mC (.str "text")) aj)))) aj))))
 (ap (aD 3 (mOp aM (ad 3) (aZ (aa (ba (aa (mC (.str "far 0\nstate 0")) (aa (mC (.str "")) (aa (mC (.str "text")) aj)))) (aa (ba (aa (mC (.str "lead 1\nstate 0")) (aa (mC (.str "")) (aa (mC (.str "text")) aj)))) (aa (ba (aa (mC (.str "grow 0\nstate 0")) (aa (mC (.str "")) (aa (mC (.str "text")) aj)))) aj))))))
 (ap (aD 3 (mOp aM (ad 3) (aZ (aa (ba (aa (mC (.str "net 2 0-1\ntable 2 2 none 00000000 00000000\nstate 0 0")) (aa (mC (.str "")) (aa (mC (.str "text")) aj)))) aj))))
 (ap (aD 3 (mOp aM (ad 3) (aZ (aa (ba (aa (mC (.str "turn 0\npass 3 5\nstate 0 0 0")) (aa (mC (.str "")) (aa (mC (.str "text")) aj)))) (aa (ba (aa (mC (.str "net 1\nnet 1\npaint\nstate 0")) (aa (mC (.str "")) (aa (mC (.str "text")) aj)))) aj)))))
 (ap (aD 3 (mOp aM (ad 3) (aZ (aa (ba (aa (mC (.str "pass 3 5\nmay\nstate 0 0 0")) (aa (mC (.str "")) (aa (mC (.str "text")) aj)))) (aa (ba (aa (mC (.str "net 2 0-1\nfar 0")) (aa (mC (.str "")) (aa (mC (.str "text")) aj)))) aj)))))
 (ap (aD 3 (mOp aM (ad 3) (aZ (aa (ba (aa (mC (.str "net 2 0-1")) (aa (mC (.str "")) (aa (mC (.str "text")) aj)))) aj))))
 (aS (mOp az (ad 3) (mOp i_ (ad 0) (mC (.int (37))))))))))))))))))))))))))
def sX:List PV->Res PV:=aR 4 xb
def DV:MS :=
 (mBr (ar (mOp pNe (ao (p1 ck) (aa (ad 0) aj)) (ad 1)))
  (aC 5 (aa (mC (.str "there are too few or too many words or numbers")) aj))
  aB)
def vN:List PV->Res PV:=aR 2 DV
def Ed:MS :=
 (aS ((jk (mOp pGt (ao (p1 (ij (fun z=>decide (z.length<=10000)) fun z=>.int z.length)) (aa (ad 0) aj)) (mC (.int (0)))) (jk (mOp pLe (ao (p1 (ij (fun z=>decide (z.length<=10000)) fun z=>.int z.length)) (aa (ad 0) aj)) (ad 1)) (ao (p1 (u_ nV)) (aa (bz [] 1 (oM (ad 0)) (tgN 0) bG (mOp AQ (ad 0) (mC (.str "0123456789")))) aj))))))
def zn:List PV->Res PV:=aR 2 Ed
def Cq:MS :=
 (ap (aD 1 (ji (bV (c9 (ad 0) (mC (.str "-")))) (kN (ad 0) (cV (mC (.int (1)))) bS) (ad 0)))
 (ap (mBr (im (bV (ao (ax zn) (aa (ad 1) (aa (mC (.int (60))) aj)))))
  (aC 5 (aa (mC (.str "a number is not written by 1 to 60 figures")) aj))
  aB)
 (ap (mBr ((eL (bV (c9 (ad 1) (mC (.str "0")))) (ar (mOp pNe (ad 0) (mC (.str "0"))))))
  (aC 5 (aa (mC (.str "a number has a nought ahead, or is -0")) aj))
  aB)
 (aS (ao (p1 (ij (fun z=>decide (z.length<=640)&&(PySem.intText? z).isSome) fun z=>.int ((PySem.intText? z).getD 0))) (aa (ad 0) aj))))))
def ju:List PV->Res PV:=aR 2 Cq
def DY:MS :=
 (aS (et [] 1 (cr (ad 0)) (tgN 0) (ao (ax ju) (aa (ad 0) aj))))
def zj:List PV->Res PV:=aR 1 DY
def Ca:MS :=
 (ap (aD 1 (mMt ee (ad 0) (mC (.str "-"))))
 (ap (bL (ao (ax vN) (aa (ad 1) (aa (mC (.int (2))) aj))))
 (aS (ba (aa (ao (ax ju) (aa (mOp az (ad 1) (mC (.int (0)))) aj)) (aa (ao (ax ju) (aa (mOp az (ad 1) (mC (.int (1)))) aj)) aj))))))
def wO:List PV->Res PV:=aR 2 Ca
def Cc:MS :=
 (ap (mBr (ar (mOp pEq (ao (p1 ck) (aa (ad 0) aj)) (mC (.int (0)))))
  (aC 5 (aa (mC (.str "a net has no size")) aj))
  aB)
 (aS (ba (aa (mC (.str "net")) (aa (ao (ax ju) (aa (mOp az (ad 0) (mC (.int (0)))) aj)) (aa (et [] 1 (cr (cq (ad 0) (cV (mC (.int (1)))) bS)) (tgN 0) (ao (ax wO) (aa (ad 0) aj))) aj))))))
def wQ:List PV->Res PV:=aR 1 Cc
def DT:MS :=
 (ap (mBr (im (bV (ao (ax zn) (aa (ad 0) (aa (mC (.int (64))) aj)))))
  (aC 5 (aa (mC (.str "a list of a table is not written by 1 to 64 figures")) aj))
  aB)
 (aS (bz [] 1 (oM (ad 0)) (tgN 0) bG (ao (p1 (ij (fun z=>decide (z.length<=640)&&(PySem.intText? z).isSome) fun z=>.int ((PySem.intText? z).getD 0))) (aa (ad 0) aj)))))
def zg:List PV->Res PV:=aR 1 DT
def Cn:MS :=
 (ap (bL (ao (ax vN) (aa (ad 0) (aa (mC (.int (5))) aj))))
 (ap (mBr (ar (mOp du (mOp az (ad 0) (mC (.int (2)))) (mC (.tup [.str "none", .str "one"]))))
  (aC 5 (aa (mC (.str "the word is another one than none and one")) aj))
  aB)
 (ap (aD 1 (ao (ax ju) (aa (mOp az (ad 0) (mC (.int (0)))) aj)))
 (ap (aD 2 (ao (ax ju) (aa (mOp az (ad 0) (mC (.int (1)))) aj)))
 (aS (ba (aa (mC (.str "table")) (aa (ad 1) (aa (ad 2) (aa (mOp az (ad 0) (mC (.int (2)))) (aa (ao (ax zg) (aa (mOp az (ad 0) (mC (.int (3)))) aj)) (aa (ao (ax zg) (aa (mOp az (ad 0) (mC (.int (4)))) aj)) aj))))))))))))
def wW:List PV->Res PV:=aR 3 Cn
def Cf:MS :=
 (ap (mBr ((eL (ar (mOp pNe (ad 0) (aZ aj))) (ar (mOp pNe (ad 0) (aZ (aa (mC (.str "many")) aj))))))
  (aC 5 (aa (mC (.str "behind look stands nothing, or many")) aj))
  aB)
 (aS (ba (aa (mC (.str "look")) (aa (mOp pEq (ad 0) (aZ (aa (mC (.str "many")) aj))) aj)))))
def wR:List PV->Res PV:=aR 1 Cf
def Ch:MS :=
 (ap (aD 1 (mMt ee (ad 0) (mC (.str " "))))
 (ap (aD 2 (mOp az (ad 1) (mC (.int (0)))))
 (ap (aD 3 (cq (ad 1) (cV (mC (.int (1)))) bS))
 (ap (mBr (ar (mUn (rW [("pass", (2)),("paint", (0)),("far", (1)),("grow", (1)),("spoil", (2)),("may", (0)),("measure", (0))]) (ad 2)))
  (ap (bL (ao (ax vN) (aa (ad 3) (aa (mUn (lK [("pass", (2)),("paint", (0)),("far", (1)),("grow", (1)),("spoil", (2)),("may", (0)),("measure", (0))]) (ad 2)) aj))))
 (aS (ao (p1 dq) (aa (mOp aM (aZ (aa (ad 2) aj)) (ao (ax zj) (aa (ad 3) aj))) aj))))
  aB)
 (ap (mBr (ar (mOp pIn (ad 2) (mC (.tup [.str "count", .str "lead", .str "state", .str "turn"]))))
  (aS (ba (aa (ad 2) (aa (ao (ax zj) (aa (ad 3) aj)) aj))))
  aB)
 (ap (mBr (ar (mOp pEq (ad 2) (mC (.str "net"))))
  (aS (ao (ax wQ) (aa (ad 3) aj)))
  aB)
 (ap (mBr (ar (mOp pEq (ad 2) (mC (.str "table"))))
  (aS (ao (ax wW) (aa (ad 3) aj)))
  aB)
 (ap (mBr (ar (mOp pEq (ad 2) (mC (.str "look"))))
  (aS (ao (ax wR) (aa (ad 3) aj)))
  aB)
 (aC 5 (aa (mC (.str "a line begins with no known word")) aj))))))))))
def dY:List PV->Res PV:=aR 4 Ch
def mG:MS :=
 (aS (et [] 1 (cr (mMt ee (ad 0) (mC (.str "\n")))) (tgN 0) (ao (ax dY) (aa (ad 0) aj))))
def mq:List PV->Res PV:=aR 1 mG
def tQ:MS :=
 (aS (ji (ar (mOp pEq (mOp az (mOp az (ad 0) (mC (.int (0)))) (mC (.int (0)))) (mC (.str "net")))) (mC (.int (2))) (mC (.int (1)))))
def oY:List PV->Res PV:=aR 1 tQ
def zM:MS :=
 (ap (aD 1 (bz [] 1 (cr (ad 0)) (tgN 0) bG (mOp az (ad 0) (mC (.int (0))))))
 (ap (aD 2 (ao (ax oY) (aa (ad 0) aj)))
 (ap (aD 3 (ji (ar (mOp pEq (mOp az (ad 1) (mC (.int (0)))) (mC (.str "net")))) (mC (.tup [.str "paint", .str "far", .str "lead", .str "grow"])) (mC (.tup [.str "pass", .str "count", .str "table"]))))
 (ap (mBr ((eO (ar (mOp pLe (ao (p1 ck) (aa (ad 1) aj)) (ad 2))) (ar (mOp pNe (mOp az (ad 1) (ad 2)) (mC (.str "state"))))))
  (aC 5 (aa (mC (.str "no state stands behind the rule")) aj))
  aB)
 (ap (mBr (ar (mOp du (mOp az (ad 1) (mOp ng (ad 2) (mC (.int (1))))) (ad 3)))
  (aC 5 (aa (mC (.str "no rule stands where one must, or its net is missing or too much")) aj))
  aB)
 (cv (b9 (cq (ad 1) (cV (mOp aM (ad 2) (mC (.int (1))))) bS)) (tgN 4)
  (mBr (ar (mOp du (ad 4) (mC (.tup [.str "turn", .str "spoil", .str "may", .str "measure", .str "look"]))))
  (aC 5 (aa (mC (.str "a net, a rule or a state stands behind the state")) aj))
  aB)))))))
def zh:List PV->Res PV:=aR 5 zM
def Cu:MS :=
 (mBr ((eO (ar (mOp pLt (ad 0) (ad 1))) (ar (mOp pGt (ad 0) (mC (.int (10)))))))
  (aC 1 (aa (mC (.str "the number of machines is out of bounds")) aj))
  aB)
def wZ:List PV->Res PV:=aR 2 Cu
def D2:MS :=
 (ap (aD 2 (aZ aj))
 (ap (cv (b9 (ad 1)) (tgN 3)
  (ap (aD 4 (ba (aa (ao (p1 (eY iw)) (aa (ad 3) aj)) (aa (ao (p1 (eY gY)) (aa (ad 3) aj)) aj))))
 (ap (mBr ((eO (ar (mOp pLt (mOp az (ad 4) (mC (.int (0)))) (mC (.int (0))))) (ar (mOp pGe (mOp az (ad 4) (mC (.int (1)))) (ad 0)))))
  (aC 1 (aa (mC (.str "a way has a number that is no machine")) aj))
  aB)
 (ap (mBr (ar (mOp pEq (mOp az (ad 4) (mC (.int (0)))) (mOp az (ad 4) (mC (.int (1))))))
  (aC 1 (aa (mC (.str "a way has twice the same machine")) aj))
  aB)
 (ap (mBr (ar (mOp pIn (ad 4) (ad 2)))
  (aC 1 (aa (mC (.str "a way is told twice")) aj))
  aB)
 (bE 2 (ad 4)))))))
 (aS (ao (p1 gf) (aa (ad 2) aj)))))
def BP:List PV->Res PV:=aR 5 D2
def Cl:MS :=
 (ap (aD 2 (bz [1] 1 (cr (ad 0)) (tgN 1) (ar (mOp pEq (mOp az (ad 1) (mC (.int (1)))) (ad 0))) (mOp az (ad 1) (mC (.int (0))))))
 (ap (aD 3 (bz [1] 1 (cr (ad 0)) (tgN 1) (ar (mOp pEq (mOp az (ad 1) (mC (.int (0)))) (ad 0))) (mOp az (ad 1) (mC (.int (1))))))
 (aS (ao (p1 gf) (aa (mOp aM (ad 2) (ad 3)) aj)))))
def wU:List PV->Res PV:=aR 4 Cl
def Cm:MS :=
 (aS (ao (p1 j3) (aa (mOp az (mUn (aQ 2) (ad 0)) (ad 1)) aj)))
def wV:List PV->Res PV:=aR 2 Cm
def eE:Nat->Option (List PV->Res PV)
 | 8=>some wV
 | _=>none
def Cb:MS :=
 (ap (aD 2 (bz [0] 1 (dU (aa (mUn (aQ 0) (ad 0)) aj)) (tgN 1) bG (mUn (aQ 0) (ad 0))))
 (ap (jh 2 (ad 1) (mC (.int (0))))
 (ap (cv (dU (aa (mUn (aQ 0) (ad 0)) aj)) (tgN 3)
  (cv (dU (aa (mUn (aQ 0) (ad 0)) aj)) (tgN 4)
  (mBr (ar (mOp pEq (mOp az (ad 2) (ad 4)) (ad 3)))
  (cv (b9 (cQ eE (ad 0) (aa (ad 4) aj))) (tgN 5)
  (jh 2 (ad 5) (ao (ni min) (aa (mOp az (ad 2) (ad 5)) (aa (mOp aM (ad 3) (mC (.int (1)))) aj)))))
  aB)))
 (cN 2))))
def wP:List PV->Res PV:=aR 6 Cb
def B_:MS :=
 (ap (bL (ao (ax wZ) (aa (ad 1) (aa (mC (.int (1))) aj))))
 (ap (fg 0 0 (ad 1))
 (ap (fg 0 1 (ao (p1 dq) (aa (ao (ax BP) (aa (ad 1) (aa (ad 2) aj))) aj)))
 (ap (fg 0 2 (ao (p1 dq) (aa (bz [0] 1 (dU (aa (ad 1) aj)) (tgN 1) bG (ao (p1 dq) (aa (ao (ax wU) (aa (mUn (aQ 1) (ad 0)) (aa (ad 1) aj))) aj))) aj)))
 (mBr (ar (mOp pEq (ao (p1 (eY gY)) (aa (ao (ax wP) (aa (ad 0) (aa (mC (.int (0))) aj))) aj)) (ad 1)))
  (aC 1 (aa (mC (.str "not every machine can be come to from machine 0")) aj))
  aB)))))
def wN:List PV->Res PV:=gN 3 B_
def Cs:MS :=
 (mBr ((eO (ar (mOp pLt (ad 0) (mC (.int (1))))) (ar (mOp pGt (ad 0) (mC (.int (10)))))))
  (aC 2 (aa (mC (.str "the stretch or the number of blocks is out of bounds")) aj))
  aB)
def s_:List PV->Res PV:=aR 1 Cs
def D4:MS :=
 (ap (mBr (ar (mOp pNe (ao (p1 ck) (aa (ad 1) aj)) (mUn (aQ 0) (ad 0))))
  (aC 2 (aa (mC (.str "there are not as many starts as machines")) aj))
  aB)
 (cv (b9 (ad 1)) (tgN 3)
  (mBr ((eL (ar (mOp j2 (ad 3) (mC .non))) ((eO (ar (mOp pLt (ad 3) (mC (.int (0))))) (ar (mOp pGe (ad 3) (ad 2)))))))
  (aC 2 (aa (mC (.str "a start is out of bounds")) aj))
  aB)))
def BR:List PV->Res PV:=aR 4 D4
def Ci:MS :=
 (ap (fg 0 0 (ad 1))
 (ap (fg 0 7 (ad 2))
 (fg 0 8 (ad 3))))
def mj:List PV->Res PV:=gN 4 Ci
def Ea:MS :=
 (ap (bL (ao (ax s_) (aa (ad 3) aj)))
 (ap (bL (ao (ax s_) (aa (ad 4) aj)))
 (ap (fg 0 3 (mOp i8 (ad 3) (ad 4)))
 (ap (bL (ao (ax BR) (aa (ad 1) (aa (ad 2) (aa (mUn (aQ 3) (ad 0)) aj)))))
 (ap (fg 0 4 (ad 1))
 (ap (fg 0 5 (ao (p1 dq) (aa (ad 2) aj)))
 (ap (fg 0 6 (ad 3))
 (fS mj (aa (mUn (aQ 0) (ad 1)) (aa (mOp aM (mUn (aQ 3) (ad 0)) (mC (.int (1)))) (aa (mC (.bl true)) aj)))))))))))
def zl:List PV->Res PV:=gN 5 Ea
def DU:MS :=
 (ap (mBr ((eO (ar (mOp pLt (ad 2) (mC (.int (0))))) (ar (mOp pGe (ad 2) (mUn (aQ 0) (ad 1))))))
  (aC 2 (aa (mC (.str "the root is no machine")) aj))
  aB)
 (ap (aD 3 (bz [2] 1 (dU (aa (mUn (aQ 0) (ad 1)) aj)) (tgN 1) bG (ji (ar (mOp pEq (ad 1) (ad 0))) (mC (.int (0))) (mC .non))))
 (ap (dW 3) (fS zl (aa (ad 1) (aa (ad 3) (aa (mUn (aQ 0) (ad 1)) (aa (mC (.int (1))) aj))))))))
def BK:List PV->Res PV:=gN 4 DU
def DX:MS :=
 (ap (mBr (ar (mOp pNe (ao (p1 ck) (aa (ad 1) aj)) (mUn (aQ 0) (ad 0))))
  (aC 2 (aa (mC (.str "there are not as many names as machines")) aj))
  aB)
 (ap (mBr (ar (mOp pNe (mUn iF (ad 1)) (ao (p1 ck) (aa (ad 1) aj))))
  (aC 2 (aa (mC (.str "two machines have the same name")) aj))
  aB)
 (cv (b9 (ad 1)) (tgN 2)
  (mBr ((eO (ar (mOp pLt (ad 2) (mC (.int (0))))) (ar (mOp pGt (ad 2) (mC (.int (9)))))))
  (aC 2 (aa (mC (.str "a name is out of bounds")) aj))
  aB))))
def BL:List PV->Res PV:=aR 3 DX
def D6:MS :=
 (ap (bL (ao (ax BL) (aa (ad 1) (aa (ad 2) aj))))
 (ap (aD 3 (bz [1] 1 (cr (ad 2)) (tgN 1) bG (mOp i8 (mOp ng (mC (.int (9))) (ad 1)) (mUn (aQ 0) (ad 0)))))
 (ap (dW 3) (fS zl (aa (ad 1) (aa (ad 3) (aa (mUn (aQ 0) (ad 1)) (aa (mC (.int (10))) aj))))))))
def BT:List PV->Res PV:=gN 4 D6
def Cr:MS :=
 (ap (dW 0) (ap (mBr (ar (mOp pEq (mOp az (ad 1) (mC (.int (0)))) (mC (.str "paint"))))
  (aS (fe))
  aB)
 (ap (mBr (ar (mOp pEq (mOp az (ad 1) (mC (.int (0)))) (mC (.str "far"))))
  (aS (jE 5 BK (aa (ad 0) (aa (mOp az (ad 1) (mC (.int (1)))) aj))))
  aB)
 (ap (mBr (ar (mOp pEq (mOp az (ad 1) (mC (.int (0)))) (mC (.str "lead"))))
  (aS (jE 6 BT (aa (ad 0) (aa (mOp az (ad 1) (mC (.int (1)))) aj))))
  aB)
 (aS (fe))))))
def wX:List PV->Res PV:=aR 2 Cr
def D5:MS :=
 (ap (mBr ((eO (ar (mOp pLt (ad 1) (mC (.int (2))))) (ar (mOp pGt (ad 1) (mC (.int (20)))))))
  (aC 2 (aa (mC (.str "the number of machines is out of bounds")) aj))
  aB)
 (ap (mBr (ar (mOp pLt (ad 2) (ad 1)))
  (aC 2 (aa (mC (.str "the span is less than the size")) aj))
  aB)
 (fS mj (aa (ad 1) (aa (ad 2) (aa (mC (.bl false)) aj))))))
def BS:List PV->Res PV:=gN 3 D5
def D9:MS :=
 (ap (mBr (ar (mOp pGt (ao (p1 ck) (aa (ad 0) aj)) (mC (.int (9)))))
  (aC 2 (aa (mC (.str "there are more than nine parents")) aj))
  aB)
 (cv (yY (ad 0)) (tgT 2 (fH (tgN 1) (fH (tgN 2) qA)))
  (mBr ((eO (ar (mOp pLt (ad 2) (mC (.int (0))))) (ar (mOp pGe (ad 2) (ad 1)))))
  (aC 2 (aa (mC (.str "a parent is no machine of a lower number than its kid")) aj))
  aB)))
def BV:List PV->Res PV:=aR 3 D9
def D3:MS :=
 (fS mj (aa (ad 1) (aa (ad 2) (aa (mC (.bl false)) aj))))
def BQ:List PV->Res PV:=gN 3 D3
def D7:MS :=
 (ap (bL (ao (ax BV) (aa (ad 1) aj)))
 (ap (fg 0 12 (ao (p1 dq) (aa (ad 1) aj)))
 (fS BQ (aa (mOp aM (ao (p1 ck) (aa (ad 1) aj)) (mC (.int (1)))) (aa (mOp aM (ao (p1 ck) (aa (ad 1) aj)) (mC (.int (2)))) aj)))))
def BU:List PV->Res PV:=gN 2 D7
def DW:MS :=
 (ap (mBr (ar (mOp pNe (ao (p1 ck) (aa (ad 0) aj)) (mOp i8 (mOp i8 (ad 1) (ad 1)) (ad 1))))
  (aC 2 (aa (mC (.str "a table has not an entry for each own, left and right cell")) aj))
  aB)
 (cv (b9 (ad 0)) (tgN 2)
  (mBr ((eO (ar (mOp pLt (ad 2) (mC (.int (0))))) (ar (mOp pGe (ad 2) (ad 1)))))
  (aC 2 (aa (mC (.str "an entry of a table is out of bounds")) aj))
  aB)))
def zi:List PV->Res PV:=aR 3 DW
def D_:MS :=
 (ap (mBr ((eO (ar (mOp pLt (ad 1) (mC (.int (2))))) (ar (mOp pGt (ad 1) (mC (.int (8)))))))
  (aC 2 (aa (mC (.str "the number of machines is out of bounds")) aj))
  aB)
 (ap (mBr ((eO (ar (mOp pLt (ad 2) (mC (.int (2))))) (ar (mOp pGt (ad 2) (mC (.int (4)))))))
  (aC 2 (aa (mC (.str "the span is out of bounds")) aj))
  aB)
 (ap (mBr (ar (mUn (kF [("none", (0)),("one", (1))]) (ad 3)))
  (aC 2 (aa (mC (.str "the word is another one than none and one")) aj))
  aB)
 (ap (bL (ao (ax zi) (aa (ad 4) (aa (ad 2) aj))))
 (ap (bL (ao (ax zi) (aa (ad 5) (aa (ad 2) aj))))
 (ap (fg 0 9 (mUn (lK [("none", (0)),("one", (1))]) (ad 3)))
 (ap (fg 0 10 (ao (p1 dq) (aa (ad 4) aj)))
 (ap (fg 0 11 (ao (p1 dq) (aa (ad 5) aj)))
 (fS mj (aa (ad 1) (aa (ad 2) (aa (mC (.bl false)) aj))))))))))))
def BW:List PV->Res PV:=gN 6 D_
def B9:MS :=
 (ap (aD 1 (mOp az (ad 0) (mUn u9 (mC (.int (1))))))
 (ap (mBr (ar (mOp pEq (mOp az (mOp az (ad 0) (mC (.int (0)))) (mC (.int (0)))) (mC (.str "net"))))
  (aS (ao (ax wX) (aa (jE 8 wN (aa (mOp az (mOp az (ad 0) (mC (.int (0)))) (mC (.int (1)))) (aa (mOp az (mOp az (ad 0) (mC (.int (0)))) (mC (.int (2)))) aj))) (aa (ad 1) aj))))
  aB)
 (ap (mBr (ar (mOp pEq (mOp az (ad 1) (mC (.int (0)))) (mC (.str "pass"))))
  (aS (jE 9 BS (aa (mOp az (ad 1) (mC (.int (1)))) (aa (mOp az (ad 1) (mC (.int (2)))) aj))))
  aB)
 (ap (mBr (ar (mOp pEq (mOp az (ad 1) (mC (.int (0)))) (mC (.str "count"))))
  (aS (jE 3 BU (aa (mOp az (ad 1) (mC (.int (1)))) aj)))
  aB)
 (aS (jE 10 BW (aa (mOp az (ad 1) (mC (.int (1)))) (aa (mOp az (ad 1) (mC (.int (2)))) (aa (mOp az (ad 1) (mC (.int (3)))) (aa (mOp az (ad 1) (mC (.int (4)))) (aa (mOp az (ad 1) (mC (.int (5)))) aj)))))))))))
def dX:List PV->Res PV:=aR 2 B9
def Cd:MS :=
 (ap (mBr (ar (mOp pNe (ao (p1 ck) (aa (ad 1) aj)) (mUn (aQ 0) (ad 0))))
  (aC 3 (aa (mC (.str "there are not as many registers as machines")) aj))
  aB)
 (aS (bz [0] 1 (cr (ad 1)) (tgN 1) bG (mOp i_ (ad 1) (mUn (aQ 7) (ad 0))))))
def oZ:List PV->Res PV:=aR 2 Cd
def aL:Nat->Option (List PV->Res PV)
 | 5 | 9 | 10=>some oZ
 | _=>none
def Ee:MS :=
 (aS ((jk (mOp pNe (ad 1) (mUn (aQ 3) (ad 0))) (mOp pNe (mOp i_ (mOp aM (ad 1) (mC (.int (1)))) (mUn (aQ 6) (ad 0))) (mC (.int (0)))))))
def BY:List PV->Res PV:=aR 2 Ee
def eM:Nat->Option (List PV->Res PV)
 | 5=>some BY
 | _=>none
def D0:MS :=
 (ap (aD 3 (bz [1] 1 (cr (cQ eE (mUn (aQ 4) (ad 0)) (aa (ad 2) aj))) (tgN 1) bG (mOp az (ad 0) (ad 1))))
 (ap (aD 4 (bz [0] 1 (cr (ad 3)) (tgN 1) (bV (cQ eM (ad 0) (aa (ad 1) aj))) (mOp aM (ad 1) (mC (.int (1))))))
 (ap (mBr (ar (mOp j2 (mOp az (mUn (aQ 5) (ad 0)) (ad 2)) (mC .non)))
  (bE 4 (mOp az (mUn (aQ 5) (ad 0)) (ad 2)))
  aB)
 (aS (ao (p1 (eY iw)) (aa (mOp aM (ad 4) (aZ (aa (mUn (aQ 3) (ad 0)) aj))) aj))))))
def BN:List PV->Res PV:=aR 5 D0
def DS:MS :=
 (ap (mBr (ar (mOp pNe (ad 2) (mC (.int (0)))))
  (aS (mOp az (ad 1) (mOp ng (ad 2) (mC (.int (1))))))
  aB)
 (ap (mBr (ar (mOp pEq (mOp az (ad 1) (mC (.int (0)))) (mOp az (ad 1) (mOp ng (mUn (aQ 0) (ad 0)) (mC (.int (1)))))))
  (aS (mOp i_ (mOp aM (mOp az (ad 1) (mC (.int (0)))) (mC (.int (1)))) (mUn (aQ 7) (ad 0))))
  aB)
 (aS (mOp az (ad 1) (mC (.int (0)))))))
def BJ:List PV->Res PV:=aR 3 DS
def D1:MS :=
 (ap (aD 3 (mOp az (ad 1) (mOp i_ (mOp ng (ad 2) (mC (.int (1)))) (mUn (aQ 0) (ad 0)))))
 (ap (aD 4 (mOp az (ad 1) (mOp i_ (mOp aM (ad 2) (mC (.int (1)))) (mUn (aQ 0) (ad 0)))))
 (ap (aD 5 (mOp aM (mOp aM (mOp i8 (mOp i8 (mOp az (ad 1) (ad 2)) (mUn (aQ 7) (ad 0))) (mUn (aQ 7) (ad 0))) (mOp i8 (ad 3) (mUn (aQ 7) (ad 0)))) (ad 4)))
 (aS (ji (ar (mOp pEq (ad 2) (mC (.int (0))))) (mOp az (mUn (aQ 10) (ad 0)) (ad 5)) (mOp az (mUn (aQ 11) (ad 0)) (ad 5)))))))
def BO:List PV->Res PV:=aR 6 D1
def dz:Nat->Option (List PV->Res PV)
 | 5=>some BN
 | 9=>some BJ
 | 10=>some BO
 | _=>none
def Cp:MS :=
 (aS (bz [0,1] 1 (dU (aa (mUn (aQ 0) (ad 0)) aj)) (tgN 2) (ar (mOp pNe (cQ dz (ad 0) (aa (ad 1) (aa (ad 2) aj))) (mOp az (ad 1) (ad 2)))) (ad 2)))
def o4:List PV->Res PV:=aR 2 Cp
def a9:Nat->Option (List PV->Res PV)
 | 5 | 9 | 10=>some o4
 | _=>none
def Cg:MS :=
 (aS (mOp pEq (ao (p1 ck) (aa (cQ a9 (ad 0) (aa (ad 1) aj)) aj)) (mC (.int (0)))))
def wS:List PV->Res PV:=aR 2 Cg
def DZ:MS :=
 (aS (mOp pEq (ao (p1 ck) (aa (cQ a9 (ad 0) (aa (ad 1) aj)) aj)) (mC (.int (1)))))
def BM:List PV->Res PV:=aR 2 DZ
def Ec:MS :=
 (aS (mOp pEq (ao (p1 ck) (aa (cQ a9 (ad 0) (aa (ad 1) aj)) aj)) (mUn (aQ 9) (ad 0))))
def BX:List PV->Res PV:=aR 2 Ec
def cR:Nat->Option (List PV->Res PV)
 | 5=>some wS
 | 9=>some BM
 | 10=>some BX
 | _=>none
def B8:MS :=
 (aS (mMt eX (mC (.str " ")) (bz [] 1 (cr (ad 0)) (tgN 0) bG (ao (p1 rT) (aa (ad 0) aj)))))
def j6:List PV->Res PV:=aR 1 B8
def B4:MS :=
 (aS (ao (ax j6) (aa (mOp aM (ad 1) (aZ (aa (ji (bV (cQ cR (ad 0) (aa (ad 1) aj))) (mC (.str "calm")) (mC (.str "wild"))) aj))) aj)))
def gD:List PV->Res PV:=aR 2 B4
def Ct:MS :=
 (ap (mBr ((eL (bV (mUn (aQ 8) (ad 0))) (ar (mOp pGt (ao (p1 ck) (aa (ad 1) aj)) (mC (.int (1)))))))
  (aC 4 (aa (mC (.str "a rule that is alone gets one machine at a turn")) aj))
  aB)
 (ap (cv (b9 (ad 1)) (tgN 2)
  (mBr ((eO (ar (mOp pLt (ad 2) (mC (.int (0))))) (ar (mOp pGe (ad 2) (mUn (aQ 0) (ad 0))))))
  (aC 4 (aa (mC (.str "a name is no machine")) aj))
  aB))
 (mBr (ar (mOp pNe (mUn iF (ad 1)) (ao (p1 ck) (aa (ad 1) aj))))
  (aC 4 (aa (mC (.str "a machine is named twice")) aj))
  aB)))
def wY:List PV->Res PV:=aR 3 Ct
def Co:MS :=
 (ap (bL (ao (ax wY) (aa (ad 0) (aa (ad 2) aj))))
 (aS (bz [2,0,1] 1 (dU (aa (mUn (aQ 0) (ad 0)) aj)) (tgN 3) bG (ji (ar (mOp pIn (ad 3) (ad 0))) (cQ dz (ad 1) (aa (ad 2) (aa (ad 3) aj))) (mOp az (ad 2) (ad 3))))))
def o3:List PV->Res PV:=aR 3 Co
def dL:Nat->Option (List PV->Res PV)
 | 5 | 9 | 10=>some o3
 | _=>none
def B7:MS :=
 (ap (aD 3 (cQ dL (ad 0) (aa (ad 1) (aa (ad 2) aj))))
 (ap (aD 4 (bz [2] 1 (cr (cQ a9 (ad 0) (aa (ad 1) aj))) (tgN 1) (ar (mOp pIn (ad 1) (ad 0))) (ad 1)))
 (nB 4 3)))
def wM:List PV->Res PV:=aR 5 B7
def Cz:MS :=
 (ap (aD 3 (cQ aL (ad 0) (aa (ad 1) aj)))
 (ap (aD 4 (aZ aj))
 (ap (dW 2) (ap (cv (b9 (ad 2)) (tgN 5)
  (ap (bE 4 (mFz (ao (ax wM) (aa (ad 0) (aa (ad 3) (aa (ad 5) aj))))))
 (aD 3 (mOp az (mOp az (ad 4) (mUn u9 (mC (.int (1))))) (mC (.int (1)))))))
 (cN 4)))))
def w8:List PV->Res PV:=aR 6 Cz
def B5:MS :=
 (ap (aD 2 (ao (p1 j3) (aa (ad 0) aj)))
 (ap (dW 1) (ap (cv (b9 (ad 1)) (tgT 2 (fH (tgN 3) (fH (tgN 4) qA)))
  (ap (mBr ((eO (ar (mOp pLt (ad 3) (mC (.int (0))))) (ar (mOp pGe (ad 3) (ao (p1 ck) (aa (ad 2) aj))))))
  (aC 3 (aa (mC (.str "a fault is at a machine that is none")) aj))
  aB)
 (jh 2 (ad 3) (ad 4))))
 (cN 2))))
def wL:List PV->Res PV:=aR 5 B5
def Ck:MS :=
 (ap (mBr (ar (mOp pEq (mOp az (ad 2) (mC (.int (0)))) (mC (.str "turn"))))
  (aS (mOp az (ao (ax w8) (aa (ad 0) (aa (ad 1) (aa (aZ (aa (mOp az (ad 2) (mC (.int (1)))) aj)) aj)))) (mC (.int (0)))))
  aB)
 (ap (mBr (ar (mOp pEq (mOp az (ad 2) (mC (.int (0)))) (mC (.str "spoil"))))
  (aS (ba (aa (aZ aj) (aa (cQ aL (ad 0) (aa (ao (ax wL) (aa (ad 1) (aa (aZ (aa (ba (aa (mOp az (ad 2) (mC (.int (1)))) (aa (mOp az (ad 2) (mC (.int (2)))) aj))) aj)) aj))) aj)) aj))))
  aB)
 (aS (ba (aa (aZ aj) (aa (ad 1) aj))))))
def fD:List PV->Res PV:=aR 3 Ck
def D8:MS :=
 (aS (ji (ar (mOp pGt (ao (p1 ck) (aa (ad 0) aj)) (mC (.int (0))))) (ao (ax j6) (aa (ad 0) aj)) (mC (.str "-"))))
def zk:List PV->Res PV:=aR 1 D8
def Cy:MS :=
 (aC 7 (aa (mC (.str "this rule has no measure")) aj))
def w6:List PV->Res PV:=aR 2 Cy
def fm:Nat->Option (List PV->Res PV)
 | 10=>some w6
 | _=>none
def Cv:MS :=
 (mBr ((eL (bV (ad 1)) (bV (mUn (aQ 8) (ad 0)))))
  (aC 4 (aa (mC (.str "a rule that is alone gets one machine at a turn")) aj))
  aB)
def w4:List PV->Res PV:=aR 2 Cv
def Ce:MS :=
 (ap (aD 1 (mC (.int (1))))
 (ap (cv (dU (aa (mUn (aQ 0) (ad 0)) aj)) (tgN 2)
  (ap (aD 1 (mOp i8 (ad 1) (mUn (aQ 7) (ad 0))))
 (mBr (ar (mOp pGt (ad 1) (mC (.int (256)))))
  (sJ)
  aB)))
 (cN 1)))
def sZ:List PV->Res PV:=aR 3 Ce
def Cw:MS :=
 (ap (mBr (ar (mOp pGt (ao (ax sZ) (aa (ad 0) aj)) (mC (.int (256)))))
  (aC 6 (aa (mC (.str "the rule has too many states")) aj))
  aB)
 (mBr ((eL (bV (ad 1)) (ar (mOp pGt (mUn (aQ 0) (ad 0)) (mC (.int (4)))))))
  (aC 6 (aa (mC (.str "the rule has too many machines for many at once")) aj))
  aB))
def w5:List PV->Res PV:=aR 2 Cw
def B3:MS :=
 (ap (bL (ao (ax w4) (aa (ad 0) (aa (ad 1) aj))))
 (ap (bL (ao (ax w5) (aa (ad 0) (aa (ad 1) aj))))
 (ap (aD 2 (bz [0] 1 (dU (aa (ao (ax sZ) (aa (ad 0) aj)) aj)) (tgN 1) bG (fe)))
 (ap (aD 3 (bz [0] 1 (cr (ad 2)) (tgN 1) bG (cQ cR (ad 0) (aa (ad 1) aj))))
 (ap (aD 4 (bz [0,1] 1 (cr (ad 2)) (tgN 2) bG (fe)))
 (ap (aD 5 (fe))
 (ap (mBr (ar (mOp pR (ad 5) (mC .non)))
  (aD 5 (fe))
  aB)
 (ap (mBr (ar (mOp pR (ad 5) (mC .non)))
  (aD 5 (fe))
  aB)
 (cN 5)))))))))
def wK:List PV->Res PV:=aR 6 B3
def Cj:MS :=
 (ap (mBr (ar (mOp pEq (mOp az (ad 0) (mC (.int (0)))) (mC (.str "calm"))))
  (aS (ao (ax j6) (aa (aZ (aa (mC (.str "calm")) (aa (ao (p1 (eY gY)) (aa (mOp az (ad 0) (mC (.int (1)))) aj)) aj))) aj)))
  aB)
 (ap (mBr (ar (mOp pEq (mOp az (ad 0) (mC (.int (0)))) (mC (.str "round"))))
  (aS (mC (.str "round")))
  aB)
 (aS (ao (ax j6) (aa (mOp aM (aZ (aa (mOp az (ad 0) (mC (.int (0)))) aj)) (mOp az (ad 0) (mC (.int (1))))) aj)))))
def wT:List PV->Res PV:=aR 1 Cj
def B6:MS :=
 (ap (aD 3 (mOp az (ad 1) (mC (.int (1)))))
 (ap (mBr (ar (mOp pEq (mOp az (ad 2) (mC (.int (0)))) (mC (.str "turn"))))
  (aS (ao (ax j6) (aa (aZ (aa (ao (ax zk) (aa (mOp az (ad 1) (mC (.int (0)))) aj)) (aa (mC (.str ":")) (aa (ao (ax gD) (aa (ad 0) (aa (ad 3) aj))) aj)))) aj)))
  aB)
 (ap (mBr (ar (mOp pEq (mOp az (ad 2) (mC (.int (0)))) (mC (.str "spoil"))))
  (aS (ao (ax gD) (aa (ad 0) (aa (ad 3) aj))))
  aB)
 (ap (mBr (ar (mOp pEq (mOp az (ad 2) (mC (.int (0)))) (mC (.str "may"))))
  (aS (ao (ax zk) (aa (cQ a9 (ad 0) (aa (ad 3) aj)) aj)))
  aB)
 (ap (mBr (ar (mOp pEq (mOp az (ad 2) (mC (.int (0)))) (mC (.str "measure"))))
  (aS (ao (p1 lI) (aa (cQ fm (ad 0) (aa (ad 3) aj)) aj)))
  aB)
 (aS (ao (ax wT) (aa (ao (ax wK) (aa (ad 0) (aa (mOp az (ad 2) (mC (.int (1)))) aj))) aj))))))))
def fk:List PV->Res PV:=aR 4 B6
def fF:MS :=
 (ap (aD 1 (ao (ax mq) (aa (ad 0) aj)))
 (ap (dW 1) (ap (bL (ao (ax zh) (aa (ad 1) aj)))
 (ap (aD 2 (ao (ax oY) (aa (ad 1) aj)))
 (ap (aD 3 (ao (ax dX) (aa (cq (ad 1) bS (cV (ad 2))) aj)))
 (ap (aD 4 (cQ aL (ad 3) (aa (mOp az (mOp az (ad 1) (ad 2)) (mC (.int (1)))) aj)))
 (ap (dW 4) (ap (aD 5 (aZ (aa (ao (ax gD) (aa (ad 3) (aa (ad 4) aj))) aj)))
 (ap (cv (b9 (cq (ad 1) (cV (mOp aM (ad 2) (mC (.int (1))))) bS)) (tgN 6)
  (ap (aD 7 (ao (ax fD) (aa (ad 3) (aa (ad 4) (aa (ad 6) aj)))))
 (ap (dW 7) (ap (aD 4 (mOp az (ad 7) (mC (.int (1)))))
 (bE 5 (ao (ax fk) (aa (ad 3) (aa (ad 7) (aa (ad 6) aj)))))))))
 (cN 5))))))))))
def be:List PV->Res PV:=aR 8 fF
def tR:MS :=
 (ap (aD 1 (mC (.int (0))))
 (ap (p3 (bL (ao (ax be) (aa (ad 0) aj))) iu 2
  (ap (aD 3 (aZ (aa (mUn (cm g7) (ad 2)) (aa (mUn (cm jm) (ad 2)) (aa (mUn (cm g8) (ad 2)) (aa (mUn (cm fV) (ad 2)) aj))))))
 (ap (aD 3 (mOp aM (ad 3) (aZ (aa (mUn (cm g0) (ad 2)) (aa (mUn (cm fU) (ad 2)) (aa (mUn (cm fi) (ad 2)) aj))))))
 (aD 1 (mOp aM (lT gU (ad 3) (mC (.bl true))) (mOp i8 (mC (.int (10))) (ao (p1 kH) (aa (mUn (cm gy) (ad 2)) aj))))))) aB)
 (cN 1)))
def sY:List PV->Res PV:=aR 4 tR
def tV:MS :=
 (ap (aD 1 (mC (.str "")))
 (ap (kM (bL (ao (ax be) (aa (ad 0) aj))) [(qf,(aD 1 (mC (.str "text")))),(sU,(aD 1 (mC (.str "net")))),(qg,(aD 1 (mC (.str "rule")))),(nK,(aD 1 (mC (.str "state")))),(qe,(aD 1 (mC (.str "turn")))),(nJ,(aD 1 (mC (.str "great")))),(l_,(aD 1 (mC (.str "none"))))] aB)
 (cN 1)))
def tf:List PV->Res PV:=aR 2 tV
def tW:MS :=
 (ap (aD 1 (ao (ax sX) (aa (ao (ax o6) (aa (ad 0) (aa (mC (.int (0))) aj))) aj)))
 (ap (aD 2 (aZ aj))
 (ap (cv (b9 (cq (ad 0) (cV (mC (.int (1)))) (cV (mC (.int (13)))))) (tgN 3)
  (bE 2 (mOp az (aZ (aa (mC (.str "may")) (aa (mC (.str "turn")) aj))) (mOp i_ (ad 3) (mC (.int (2)))))))
 (ap (aD 4 (mC (.str "pass 3 7\nstate 0 1 0")))
 (ap (aD 5 (mOp az (ad 1) (mC (.int (0)))))
 (ap (mBr ((eL (ar (mOp pEq (mMt fw (ad 5) (mC (.str "state"))) (mC (.int (1))))) (im (bV (c9 (ad 5) (mC (.str "state")))))))
  (aD 5 (mMt eX (mC (.str "\n")) (mOp aM (aZ (aa (ad 5) aj)) (ad 2))))
  aB)
 (ap (mBr (ar (mOp pNe (mOp az (ad 1) (mC (.int (1)))) (mC (.str ""))))
  (aD 5 (mOp jb (mOp jb (ad 5) (mC (.str "\n"))) (mOp az (ad 1) (mC (.int (1))))))
  aB)
 (ap (mBr (ar (mOp pNe (ao (p1 ck) (aa (ao (ax be) (aa (mMt eX (mC (.str "\n")) (mOp aM (aZ (aa (ad 4) aj)) (ad 2))) aj)) aj)) (mOp aM (mC (.int (1))) (ao (p1 ck) (aa (ad 2) aj)))))
  (aS (mC (.bl false)))
  aB)
 (ap (mBr ((eO (ar (mOp pNe (ao (ax tf) (aa (ad 5) aj)) (mOp az (ad 1) (mC (.int (2)))))) (ar (mOp pNe (ao (ax sY) (aa (ad 5) aj)) (mC (.int (11)))))))
  (aS (mC (.bl false)))
  aB)
 (aS (mOp pEq (ao (p1 ck) (aa (ao (ax be) (aa (mMt eX (mC (.str "\n")) (mOp aM (aZ (aa (ad 4) aj)) (ad 2))) aj)) aj)) (mOp aM (mC (.int (1))) (ao (p1 ck) (aa (ad 2) aj))))))))))))))
def w9:List PV->Res PV:=aR 6 tW
end G
namespace G
open PySem L2 PR
def top(i:Nat):Stmt:=PySem.Challenge.pw_calmring_k48_play_refused.main.body.getD i (.Pass ⟨0,0,0,0⟩)
def tF(q:Str)(i k:Nat)(N:List Str):FS:=⟨q,top i,k,N,none⟩
def tM(c:Nat)(q:Str)(i j k:Nat)(N:List Str):FS:=⟨q,vG (top i) j,k,N,some c⟩
def mE(c:Nat)(n:Str)(i:Nat):Nat×Str×Nat:=(c,n,i)
def pt:PT:={
 F:=[tF "_law_cell_at" 111 2 ["_law_script", "_law_k"],
  tF "_law_case" 112 1 ["_law_cell", "_law_three", "_law_far", "_law_some"],
  tF "refuse_count" 94 2 ["words", "count"],
  tF "has_figures_alone" 93 2 ["word", "most"],
  tF "read_number" 84 1 ["word", "figures"],
  tF "read_numbers" 87 1 ["words"],
  tF "read_way" 89 1 ["word", "ends"],
  tF "read_net" 88 1 ["words"],
  tF "read_entries" 91 1 ["word"],
  tF "read_table" 90 1 ["words", "size", "span"],
  tF "read_look" 92 1 ["words"],
  tF "read_line" 86 1 ["line", "words", "first", "rest"],
  tF "read_text" 85 1 ["text"],
  tF "state_at" 100 1 ["lines"],
  tF "refuse_order" 101 1 ["lines", "kinds", "first", "rules", "kind"],
  tF "refuse_size" 60 2 ["size", "least"],
  tF "ordered_pairs" 61 2 ["size", "ways", "pairs", "way", "pair"],
  tF "neighbours" 62 2 ["pairs", "at", "lower", "higher"],
  tM 8 "Net.beside" 58 1 2 ["self", "at"],
  tF "far_from" 59 2 ["net", "root", "far", "steps", "at", "other"],
  tM 8 "Net.__init__" 58 0 3 ["self", "size", "ways"],
  tF "refuse_part" 33 1 ["part"],
  tF "refuse_starts" 34 3 ["net", "starts", "top", "start"],
  tM 0 "Rule.__init__" 13 0 4 ["self", "size", "span", "alone"],
  tM 4 "LeastRule.__init__" 30 0 5 ["self", "net", "starts", "stretch", "blocks"],
  tM 5 "FarRule.__init__" 31 0 3 ["self", "net", "root", "starts"],
  tF "refuse_names" 35 2 ["net", "names", "name"],
  tM 6 "LeadRule.__init__" 32 0 3 ["self", "net", "names", "starts"],
  tF "rule_on_net" 103 2 ["net", "line"],
  tM 9 "PassRule.__init__" 66 0 3 ["self", "size", "span"],
  tF "refuse_parents" 20 1 ["parents", "kid", "parent"],
  tM 1 "DownRule.__init__" 17 0 3 ["self", "size", "span"],
  tM 3 "CountRule.__init__" 19 0 2 ["self", "parents"],
  tF "refuse_table" 76 2 ["table", "span", "number"],
  tM 10 "TableRule.__init__" 75 0 6 ["self", "size", "span", "word", "firsts", "others"],
  tF "rule_of" 102 1 ["lines", "line"],
  tM 0 "Rule.read" 13 1 2 ["self", "registers"],
  tM 4 "LeastRule.has_offer" 30 2 2 ["self", "cell"],
  tM 4 "LeastRule.due" 30 1 3 ["self", "cells", "at", "near", "offers"],
  tM 9 "PassRule.due" 66 1 3 ["self", "cells", "at"],
  tM 10 "TableRule.due" 75 1 3 ["self", "cells", "at", "left", "right", "entry"],
  tM 0 "Rule.movers" 13 3 2 ["self", "cells"],
  tM 0 "Rule.calm" 13 4 2 ["self", "cells"],
  tM 9 "PassRule.calm" 66 2 2 ["self", "cells"],
  tM 10 "TableRule.calm" 75 2 2 ["self", "cells"],
  tF "joined" 109 1 ["things"],
  tF "shown" 106 2 ["rule", "cells"],
  tF "refuse_turn" 14 2 ["rule", "named", "at"],
  tM 0 "Rule.turned" 13 5 3 ["self", "cells", "named"],
  tF "row_of" 23 3 ["rule", "cells", "named", "behind", "done"],
  tF "run" 22 3 ["rule", "registers", "turns", "cells", "rows", "named"],
  tF "spoil" 25 2 ["registers", "faults", "spoiled", "at", "number"],
  tF "row_behind" 104 3 ["rule", "cells", "line"],
  tF "machines_shown" 107 1 ["machines"],
  tM 0 "Rule.measure" 13 6 2 ["self", "cells"],
  tF "refuse_many" 46 2 ["rule", "many"],
  tF "states_of" 48 1 ["rule", "count", "at"],
  tF "refuse_great" 47 2 ["rule", "many"],
  tF "look_shown" 108 1 ["found"],
  tF "answer" 105 3 ["rule", "row", "line", "cells"],
  tF "play" 99 1 ["text", "lines", "first", "rule", "cells", "answers", "line", "row"],
  tF "_law_kinds" 114 1 ["_law_text", "_law_count", "e", "_law_kinds_here"],
  tF "_law_refusal" 113 1 ["_law_text", "_law_word"],
  tF "law" 115 1 ["_law_script", "_law_case_here", "_law_lines", "_law_cell", "_law_good", "_law_text"]]
 C:=["Rule", "DownRule", "PaintRule", "CountRule", "LeastRule", "FarRule", "LeadRule", "GrowRule", "Net", "PassRule", "TableRule"]
 X:=["CalmError", "BadNet", "BadRule", "BadState", "BadTurn", "BadText", "TooGreat", "NoMeasure"]
 A:=["size", "pairs", "near", "top", "net", "starts", "stretch", "span", "alone", "calm_movers", "firsts", "others", "parents"]
 M:=[mE 8 "beside" 18,mE 5 "read" 36,mE 9 "read" 36,mE 10 "read" 36,mE 5 "has_offer" 37,mE 5 "due" 38,mE 9 "due" 39,mE 10 "due" 40,mE 5 "movers" 41,mE 9 "movers" 41,mE 10 "movers" 41,mE 5 "calm" 42,mE 9 "calm" 43,mE 10 "calm" 44,mE 5 "turned" 48,mE 9 "turned" 48,mE 10 "turned" 48,mE 10 "measure" 54]
 Mk:=[(3,32),(5,25),(6,27),(8,20),(9,29),(10,34)]
 U:=[(1,31),(4,24),(0,23)]
 B:=["len", "all", "int", "tuple", "max", "min", "sorted", "range", "list", "set", "enumerate", "str", "isinstance", "ValueError"]
 I:=[("MOST_FIGURES", 60),("MOST_ENTRIES", 64),("GREATEST_NET", 10),("LEAST_NET", 1),("GREATEST_PART", 10),("GREATEST_NAME", 9),("LEAD_BLOCKS", 10),("LEAST_RING_passing", 2),("GREATEST_RING_passing", 20),("MOST_PARENTS", 9),("LEAST_RING_tables", 2),("GREATEST_RING_tables", 8),("LEAST_SPAN", 2),("GREATEST_SPAN", 4),("MOST_STATES", 256),("MOST_AT_ONCE", 4)]
 KT:=[(some 5, "BadText", [false,false,false,false,false,true,false,false]),(some 1, "BadNet", [false,true,false,false,false,false,false,false]),(some 2, "BadRule", [false,false,true,false,false,false,false,false]),(some 3, "BadState", [false,false,false,true,false,false,false,false]),(some 4, "BadTurn", [false,false,false,false,true,false,false,false]),(some 6, "TooGreat", [false,false,false,false,false,false,true,false]),(some 7, "NoMeasure", [false,false,false,false,false,false,false,true]),(none, "ValueError", [true,true,true,true,true,true,true,true])]
 HT:=[(0,[true,true,true,true,true,true,true,true]),(5,[false,false,false,false,false,true,false,false]),(1,[false,true,false,false,false,false,false,false]),(2,[false,false,true,false,false,false,false,false]),(3,[false,false,false,true,false,false,false,false]),(4,[false,false,false,false,true,false,false,false]),(6,[false,false,false,false,false,false,true,false]),(7,[false,false,false,false,false,false,false,true])] }
def pe:PE:=⟨[(tF "look" 45 2 ["rule", "many", "states", "calms", "ways", "found"],false)],[("NUMBERS", [("pass",(2)),("paint",(0)),("far",(1)),("grow",(1)),("spoil",(2)),("may",(0)),("measure",(0))]),("CALM_MOVERS", [("none",(0)),("one",(1))])],[("FIGURES", "0123456789")],[("TABLE_WORDS", ["none", "one"]),("ROWS", ["count", "lead", "state", "turn"]),("NET_RULES", ["paint", "far", "lead", "grow"]),("BARE_RULES", ["pass", "count", "table"]),("DOINGS", ["turn", "spoil", "may", "measure", "look"])]⟩
theorem hA:pt.attOk:=⟨by decide +kernel,by decide +kernel⟩
abbrev T(K:PySem.W.Frag):Tb:=pt.T hA K
section
variable{P:Program}{w:World}{K:PySem.W.Frag}{mg:Str->Option Value}{base:Heap}(t:Ty pt pe w K mg)(hB:K.In base)
include t hB
theorem yM:OkF pt hA P w K mg base 1 0 o6:=okC 0 t.tx fun _ _ _ _ _ _ cx nd =>
 (ah (aH (db (sv 1) (bh cx.hK rfl (t.tx.b 0) (sv 0))) (ak (aA (aK cx (sv 0) (sv 1) (fun _ _=>rfl)))) ay)
 (ak (aA (am))))
theorem yB:OkF pt hA P w K mg base 1 1 sX:=okC 1 t.tx fun _ _ _ _ _ _ cx nd =>
 (ah (a6 nd (af))
 (ah (a6 nd (af))
 (by
 refine Bx.out ?_
 exact (bq (bI nd rfl (Or.inl rfl) (bJ (ai (aP (ai (Bx.mk (af)) (ai (Bx.mk (af)) (ai (Bx.mk (af)) aF))) (ae (ae (ae aq)))) (ai (aP (ai (Bx.mk (af)) (ai (Bx.mk (af)) (ai (Bx.mk (af)) aF))) (ae (ae (ae aq)))) (ai (aP (ai (Bx.mk (sv 1)) (ai (Bx.mk (af)) (ai (Bx.mk (af)) aF))) (ae (ae (ae aq)))) aF))) (ae (ae (ae aq)))))
 (Bx.mk (by
 refine Bx.out ?_
 exact (bq (bI nd rfl (Or.inl rfl) (bR (Bx.mk (sv 3)) (bJ (ai (aP (ai (Bx.mk (af)) (ai (Bx.mk (af)) (ai (Bx.mk (af)) aF))) (ae (ae (ae aq)))) (ai (aP (ai (Bx.mk (af)) (ai (Bx.mk (af)) (ai (Bx.mk (af)) aF))) (ae (ae (ae aq)))) aF)) (ae (ae aq)))))
 (Bx.mk (by
 refine Bx.out ?_
 exact (bq (bI nd rfl (Or.inl rfl) (bR (Bx.mk (sv 3)) (bJ (ai (aP (ai (Bx.mk (sv 1)) (ai (Bx.mk (af)) (ai (Bx.mk (af)) aF))) (ae (ae (ae aq)))) (ai (aP (ai (Bx.mk (af)) (ai (Bx.mk (af)) (ai (Bx.mk (af)) aF))) (ae (ae (ae aq)))) (ai (aP (ai (Bx.mk (sv 1)) (ai (Bx.mk (af)) (ai (Bx.mk (af)) aF))) (ae (ae (ae aq)))) aF))) (ae (ae (ae aq))))))
 (Bx.mk (by
 refine Bx.out ?_
 exact (bq (bI nd rfl (Or.inl rfl) (bR (Bx.mk (sv 3)) (bJ (ai (aP (ai (Bx.mk (af)) (ai (Bx.mk (af)) (ai (Bx.mk (af)) aF))) (ae (ae (ae aq)))) (ai (aP (ai (Bx.mk (af)) (ai (Bx.mk (af)) (ai (Bx.mk (af)) aF))) (ae (ae (ae aq)))) aF)) (ae (ae aq)))))
 (Bx.mk (by
 refine Bx.out ?_
 exact (bq (bI nd rfl (Or.inl rfl) (bR (Bx.mk (sv 3)) (bJ (ai (aP (ai (Bx.mk (af)) (ai (Bx.mk (af)) (ai (Bx.mk (af)) aF))) (ae (ae (ae aq)))) (ai (aP (ai (Bx.mk (af)) (ai (Bx.mk (af)) (ai (Bx.mk (af)) aF))) (ae (ae (ae aq)))) aF)) (ae (ae aq)))))
 (Bx.mk (by
 refine Bx.out ?_
 exact (bq (bI nd rfl (Or.inl rfl) (bR (Bx.mk (sv 3)) (bJ (ai (aP (ai (Bx.mk (af)) (ai (Bx.mk (af)) (ai (Bx.mk (af)) aF))) (ae (ae (ae aq)))) (ai (aP (ai (Bx.mk (sv 1)) (ai (Bx.mk (af)) (ai (Bx.mk (af)) aF))) (ae (ae (ae aq)))) (ai (aP (ai (Bx.mk (sv 1)) (ai (Bx.mk (af)) (ai (Bx.mk (af)) aF))) (ae (ae (ae aq)))) aF))) (ae (ae (ae aq))))))
 (Bx.mk (by
 refine Bx.out ?_
 exact (bq (bI nd rfl (Or.inl rfl) (bR (Bx.mk (sv 3)) (bJ (ai (aP (ai (Bx.mk (sv 2)) (ai (Bx.mk (af)) (ai (Bx.mk (af)) aF))) (ae (ae (ae aq)))) (ai (aP (ai (Bx.mk (sv 1)) (ai (Bx.mk (af)) (ai (Bx.mk (af)) aF))) (ae (ae (ae aq)))) (ai (aP (ai (Bx.mk (sv 1)) (ai (Bx.mk (af)) (ai (Bx.mk (af)) aF))) (ae (ae (ae aq)))) aF))) (ae (ae (ae aq))))))
 (Bx.mk (by
 refine Bx.out ?_
 exact (bq (bI nd rfl (Or.inl rfl) (bR (Bx.mk (sv 3)) (bJ (ai (aP (ai (Bx.mk (sv 2)) (ai (Bx.mk (af)) (ai (Bx.mk (af)) aF))) (ae (ae (ae aq)))) (ai (aP (ai (Bx.mk (af)) (ai (Bx.mk (af)) (ai (Bx.mk (af)) aF))) (ae (ae (ae aq)))) aF)) (ae (ae aq)))))
 (Bx.mk (by
 refine Bx.out ?_
 exact (bq (bI nd rfl (Or.inl rfl) (bR (Bx.mk (sv 3)) (bJ (ai (aP (ai (Bx.mk (af)) (ai (Bx.mk (af)) (ai (Bx.mk (af)) aF))) (ae (ae (ae aq)))) (ai (aP (ai (Bx.mk (af)) (ai (Bx.mk (af)) (ai (Bx.mk (af)) aF))) (ae (ae (ae aq)))) aF)) (ae (ae aq)))))
 (Bx.mk (by
 refine Bx.out ?_
 exact (bq (bI nd rfl (Or.inl rfl) (bR (Bx.mk (sv 3)) (bJ (ai (aP (ai (Bx.mk (sv 1)) (ai (Bx.mk (af)) (ai (Bx.mk (af)) aF))) (ae (ae (ae aq)))) (ai (aP (ai (Bx.mk (sv 1)) (ai (Bx.mk (af)) (ai (Bx.mk (af)) aF))) (ae (ae (ae aq)))) aF)) (ae (ae aq)))))
 (Bx.mk (by
 refine Bx.out ?_
 exact (bq (bI nd rfl (Or.inl rfl) (bR (Bx.mk (sv 3)) (bJ (ai (aP (ai (Bx.mk (sv 1)) (ai (Bx.mk (af)) (ai (Bx.mk (af)) aF))) (ae (ae (ae aq)))) aF) (ae aq))))
 (Bx.mk (by
 refine Bx.out ?_
 exact (bq (bI nd rfl (Or.inl rfl) (bR (Bx.mk (sv 3)) (bJ (ai (aP (ai (Bx.mk (af)) (ai (Bx.mk (af)) (ai (Bx.mk (af)) aF))) (ae (ae (ae aq)))) (ai (aP (ai (Bx.mk (af)) (ai (Bx.mk (af)) (ai (Bx.mk (af)) aF))) (ae (ae (ae aq)))) aF)) (ae (ae aq)))))
 (Bx.mk (by
 refine Bx.out ?_
 exact (bq (bI nd rfl (Or.inl rfl) (bR (Bx.mk (sv 3)) (bJ (ai (aP (ai (Bx.mk (af)) (ai (Bx.mk (af)) (ai (Bx.mk (af)) aF))) (ae (ae (ae aq)))) aF) (ae aq))))
 (Bx.mk (by
 refine Bx.out ?_
 exact (bq (bI nd rfl (Or.inl rfl) (bR (Bx.mk (sv 3)) (bJ (ai (aP (ai (Bx.mk (af)) (ai (Bx.mk (af)) (ai (Bx.mk (af)) aF))) (ae (ae (ae aq)))) (ai (aP (ai (Bx.mk (af)) (ai (Bx.mk (af)) (ai (Bx.mk (af)) aF))) (ae (ae (ae aq)))) (ai (aP (ai (Bx.mk (af)) (ai (Bx.mk (af)) (ai (Bx.mk (af)) aF))) (ae (ae (ae aq)))) aF))) (ae (ae (ae aq))))))
 (Bx.mk (by
 refine Bx.out ?_
 exact (bq (bI nd rfl (Or.inl rfl) (bR (Bx.mk (sv 3)) (bJ (ai (aP (ai (Bx.mk (af)) (ai (Bx.mk (af)) (ai (Bx.mk (af)) aF))) (ae (ae (ae aq)))) aF) (ae aq))))
 (Bx.mk (by
 refine Bx.out ?_
 exact (bq (bI nd rfl (Or.inl rfl) (bR (Bx.mk (sv 3)) (bJ (ai (aP (ai (Bx.mk (af)) (ai (Bx.mk (af)) (ai (Bx.mk (af)) aF))) (ae (ae (ae aq)))) (ai (aP (ai (Bx.mk (af)) (ai (Bx.mk (af)) (ai (Bx.mk (af)) aF))) (ae (ae (ae aq)))) aF)) (ae (ae aq)))))
 (Bx.mk (by
 refine Bx.out ?_
 exact (bq (bI nd rfl (Or.inl rfl) (bR (Bx.mk (sv 3)) (bJ (ai (aP (ai (Bx.mk (af)) (ai (Bx.mk (af)) (ai (Bx.mk (af)) aF))) (ae (ae (ae aq)))) (ai (aP (ai (Bx.mk (af)) (ai (Bx.mk (af)) (ai (Bx.mk (af)) aF))) (ae (ae (ae aq)))) aF)) (ae (ae aq)))))
 (Bx.mk (by
 refine Bx.out ?_
 exact (bq (bI nd rfl (Or.inl rfl) (bR (Bx.mk (sv 3)) (bJ (ai (aP (ai (Bx.mk (af)) (ai (Bx.mk (af)) (ai (Bx.mk (af)) aF))) (ae (ae (ae aq)))) aF) (ae aq))))
 (Bx.mk (ak (aA (aK cx (sv 3) (fN (sv 0) (am)) (fun _ _=>rfl))))))))))))))))))))))))))))))))))))))))))))))))))))))))))))
theorem rZ:OkF pt hA P w K mg base 1 2 vN:=okC 2 t.tx fun _ _ _ _ _ _ cx nd =>
 (ak (aH (cJ cx.hK cx.hu (bh cx.hK rfl (t.tx.b 0) (sv 0)) (sv 1)) (ak (aO 5 t.tx cx hB aN (ac (af) ag))) ay))
theorem wA:OkF pt hA P w K mg base 1 3 zn:=okC 3 t.tx fun _ _ _ _ _ _ cx nd =>
 (ak (aA ((mZ (AB (ou rfl (t.tx.b 0) (sv 0)) (am)) (mZ (Az (ou rfl (t.tx.b 0) (sv 0)) (sv 1)) (qT (xC cx.hK cx.calm rfl (t.tx.b 1) (iW ["sign"] cx (oj (sv 0)) dD (fun _ _ _ _ nd=>⟨(sgN nd),bC,(xA (sv 0) (qY rfl (t.ss 0)))⟩)))))))))
theorem gW:OkF pt hA P w K mg base 2 4 ju:=okC 4 t.tx fun _ _ _ _ _ _ cx nd =>
 (ah (a6 nd (cL (bN cx.hK (gM (sv 0) (af))) (pE (sv 0) (dF (am)) fq) (sv 0)))
 (ah (aH (mR (bN cx.hK (aJ t.tx (wA t hB) cx (ac (sv 1) (ac (aY rfl (t.tx.c 0)) ag))))) (ak (aO 5 t.tx cx hB aN (ac (af) ag))) ay)
 (ah (aH (SW.st (fI (bN cx.hK (gM (sv 1) (af))) (d5 (cJ cx.hK cx.hu (sv 0) (af))))) (ak (aO 5 t.tx cx hB aN (ac (af) ag))) ay)
 (ak (aA (ox rfl (t.tx.b 2) (sv 0)))))))
theorem wx:OkF pt hA P w K mg base 3 5 zj:=okC 5 t.tx fun _ _ _ _ _ _ cx nd =>
 (ak (aA (m5 ["word"] cx mL (bK cx.hK (sv 0)) dD (fun _ _ _ _ nd=>⟨(sgN nd),fun E Wb xf=>(m6 t.tx (gW t hB) cx.room xf (ac (sv 0) ag))⟩))))
theorem yx:OkF pt hA P w K mg base 3 6 wO:=okC 6 t.tx fun _ _ _ _ _ _ cx nd =>
 (ah (a6 nd (iS (sv 0) (af)))
 (ah (bt (aJ t.tx (rZ t hB) cx (ac (sv 1) (ac (am) ag))))
 (ak (aA (ky (ac (aJ t.tx (gW t hB) cx (ac (aK cx (sv 1) (am) (fun _ _=>rfl)) ag)) (ac (aJ t.tx (gW t hB) cx (ac (aK cx (sv 1) (am) (fun _ _=>rfl)) ag)) ag)))))))
theorem yA:OkF pt hA P w K mg base 4 7 wQ:=okC 7 t.tx fun _ _ _ _ _ _ cx nd =>
 (ah (aH (br cx.hK cx.hu (bh cx.hK rfl (t.tx.b 0) (sv 0)) (am)) (ak (aO 5 t.tx cx hB aN (ac (af) ag))) ay)
 (ak (aA (ky (ac (af) (ac (aJ t.tx (gW t hB) cx (ac (aK cx (sv 0) (am) (fun _ _=>rfl)) ag)) (ac (m5 ["word"] cx mL (bK cx.hK (dR cx.hK (sv 0) (dF (am)) fq)) dD (fun _ _ _ _ nd=>⟨(sgN nd),fun E Wb xf=>(m6 t.tx (yx t hB) cx.room xf (ac (sv 0) ag))⟩)) ag)))))))
theorem wv:OkF pt hA P w K mg base 2 8 zg:=okC 8 t.tx fun _ _ _ _ _ _ cx nd =>
 (ah (aH (mR (bN cx.hK (aJ t.tx (wA t hB) cx (ac (sv 0) (ac (aY rfl (t.tx.c 1)) ag))))) (ak (aO 5 t.tx cx hB aN (ac (af) ag))) ay)
 (ak (aA (iW ["figure"] cx (oj (sv 0)) dD (fun _ _ _ _ nd=>⟨(sgN nd),bC,(ox rfl (t.tx.b 2) (sv 0))⟩)))))
theorem yL:OkF pt hA P w K mg base 3 9 wW:=okC 9 t.tx fun _ _ _ _ _ _ cx nd =>
 (ah (bt (aJ t.tx (rZ t hB) cx (ac (sv 0) (ac (am) ag))))
 (ah (aH (iM cx.hK cx.hu2 (aK cx (sv 0) (am) (fun _ _=>rfl)) (eT (xs:=["none", "one"]) cx.hK rfl (t.pm 0) (t.pd 0) (by decide))) (ak (aO 5 t.tx cx hB aN (ac (af) ag))) ay)
 (ah (a6 nd (aJ t.tx (gW t hB) cx (ac (aK cx (sv 0) (am) (fun _ _=>rfl)) ag)))
 (ah (a6 nd (aJ t.tx (gW t hB) cx (ac (aK cx (sv 0) (am) (fun _ _=>rfl)) ag)))
 (ak (aA (ky (ac (af) (ac (sv 1) (ac (sv 2) (ac (aK cx (sv 0) (am) (fun _ _=>rfl)) (ac (aJ t.tx (wv t hB) cx (ac (aK cx (sv 0) (am) (fun _ _=>rfl)) ag)) (ac (aJ t.tx (wv t hB) cx (ac (aK cx (sv 0) (am) (fun _ _=>rfl)) ag)) ag)))))))))))))
theorem yD:OkF pt hA P w K mg base 1 10 wR:=okC 10 t.tx fun _ _ _ _ _ _ cx nd =>
 (ah (aH (SW.st (fI (cJ cx.hK cx.hu (sv 0) (dh ag)) (d5 (cJ cx.hK cx.hu (sv 0) (dh (ac (af) ag)))))) (ak (aO 5 t.tx cx hB aN (ac (af) ag))) ay)
 (ak (aA (ky (ac (af) (ac (lv cx.hK cx.hu (sv 0) (dh (ac (af) ag))) ag))))))
theorem yF:OkF pt hA P w K mg base 5 11 dY:=okC 11 t.tx fun _ _ _ _ _ _ cx nd =>
 (ah (a6 nd (iS (sv 0) (af)))
 (ah (a6 nd (aK cx (sv 1) (am) (fun _ _=>rfl)))
 (ah (a6 nd (dR cx.hK (sv 1) (dF (am)) fq))
 (ah (aH (uh rfl (t.gm 0) (t.gd 0) (sv 2)) (ah (bt (aJ t.tx (rZ t hB) cx (ac (sv 3) (ac (oy rfl (t.gm 0) (t.gd 0) (sv 2) (fun _ _=>rfl)) ag))))
 (ak (aA (cK cx.hK rfl (t.tx.b 3) cO (a_ (dh (ac (sv 2) ag)) (aJ t.tx (wx t hB) cx (ac (sv 3) ag))))))) ay)
 (ah (aH (og cx.hK cx.hu2 (sv 2) (eT (xs:=["count", "lead", "state", "turn"]) cx.hK rfl (t.pm 1) (t.pd 1) (by decide))) (ak (aA (ky (ac (sv 2) (ac (aJ t.tx (wx t hB) cx (ac (sv 3) ag)) ag))))) ay)
 (ah (aH (br cx.hK cx.hu (sv 2) (af)) (ak (aA (aJ t.tx (yA t hB) cx (ac (sv 3) ag)))) ay)
 (ah (aH (br cx.hK cx.hu (sv 2) (af)) (ak (aA (aJ t.tx (yL t hB) cx (ac (sv 3) ag)))) ay)
 (ah (aH (br cx.hK cx.hu (sv 2) (af)) (ak (aA (aJ t.tx (yD t hB) cx (ac (sv 3) ag)))) ay)
 (ak (aO 5 t.tx cx hB aN (ac (af) ag)))))))))))
theorem yG:OkF pt hA P w K mg base 6 12 mq:=okC 12 t.tx fun _ _ _ _ _ _ cx nd =>
 (ak (aA (m5 ["line"] cx mL (bK cx.hK (iS (sv 0) (af))) dD (fun _ _ _ _ nd=>⟨(sgN nd),fun E Wb xf=>(m6 t.tx (yF t hB) cx.room xf (ac (sv 0) ag))⟩))))
theorem r6:OkF pt hA P w K mg base 1 13 oY:=okC 13 t.tx fun _ _ _ _ _ _ cx nd =>
 (ak (aA (cL (br cx.hK cx.hu (aK cx (aK cx (sv 0) (am) (fun _ _=>rfl)) (am) (fun _ _=>rfl)) (af)) (am) (am))))
theorem AX:OkF pt hA P w K mg base 2 14 zh:=okC 14 t.tx fun _ _ _ _ _ _ cx nd =>
 (ah (eH ["line"] cx nd (bK cx.hK (sv 0)) dD (fun _ _ _ _ nd=>⟨(sgN nd),bC,(aK cx.comp (sv 0) (am) (fun _ _=>rfl))⟩))
 (ah (a6 nd (aJ t.tx (r6 t hB) cx (ac (sv 0) ag)))
 (ah (a6 nd (cL (br cx.hK cx.hu (aK cx (sv 1) (am) (fun _ _=>rfl)) (af)) (eT (xs:=["paint", "far", "lead", "grow"]) cx.hK rfl (t.pm 2) (t.pd 2) (by decide)) (eT (xs:=["pass", "count", "table"]) cx.hK rfl (t.pm 3) (t.pd 3) (by decide))))
 (ah (aH (SW.st (da (Aw (bh cx.hK rfl (t.tx.b 0) (sv 1)) (sv 2)) (bX (cJ cx.hK cx.hu (aK cx (sv 1) (sv 2) (fun _ _=>rfl)) (af))))) (ak (aO 5 t.tx cx hB aN (ac (af) ag))) ay)
 (ah (aH (iM cx.hK cx.hu2 (aK cx (sv 1) (iR (sv 2) (am)) (fun _ _=>rfl)) (sv 3)) (ak (aO 5 t.tx cx hB aN (ac (af) ag))) ay)
 (ak (bY cx.po cx.calm (de cx.hK (dR cx.hK (sv 1) (dF (a_ (sv 2) (am))) fq)) (sgN nd) (ak (aH (iM cx.hK cx.hu2 (sv 4) (eT (xs:=["turn", "spoil", "may", "measure", "look"]) cx.hK rfl (t.pm 4) (t.pd 4) (by decide))) (ak (aO 5 t.tx cx hB aN (ac (af) ag))) ay)))))))))
theorem yP:OkF pt hA P w K mg base 1 15 wZ:=okC 15 t.tx fun _ _ _ _ _ _ cx nd =>
 (ak (aH (SW.st (da (db (sv 0) (sv 1)) (bX (eG (sv 0) (aY rfl (t.tx.c 2)))))) (ak (aO 1 t.tx cx hB aN (ac (af) ag))) ay))
theorem A2:OkF pt hA P w K mg base 1 16 BP:=okC 16 t.tx fun _ _ _ _ _ _ cx nd =>
 (ah (a6 nd (dh ag))
 (ah (bY cx.po cx.calm (de cx.hK (sv 1)) (sgN nd) (ah (a6 nd (ky (ac (on cx.hK cx.calm rfl (t.tx.b 5) (sv 3)) (ac (kx cx.hK cx.calm rfl (t.tx.b 4) (sv 3)) ag))))
 (ah (aH (SW.st (da (db (aK cx (sv 4) (am) (fun _ _=>rfl)) (am)) (bX (iN (aK cx (sv 4) (am) (fun _ _=>rfl)) (sv 0))))) (ak (aO 1 t.tx cx hB aN (ac (af) ag))) ay)
 (ah (aH (br cx.hK cx.hu (aK cx (sv 4) (am) (fun _ _=>rfl)) (aK cx (sv 4) (am) (fun _ _=>rfl))) (ak (aO 1 t.tx cx hB aN (ac (af) ag))) ay)
 (ah (aH (og cx.hK cx.hu2 (sv 4) (sv 2)) (ak (aO 1 t.tx cx hB aN (ac (af) ag))) ay)
 (ak (rk cx (sv 4))))))))
 (ak (aA (jW cx.hK rfl (t.tx.b 6) (sv 2))))))
theorem yJ:OkF pt hA P w K mg base 1 17 wU:=okC 17 t.tx fun _ _ _ _ _ _ cx nd =>
 (ah (eH ["pair"] cx nd (bK cx.hK (sv 0)) dD (fun _ _ _ _ nd=>⟨(sgN nd),(f7 (br cx.comp.hK cx.comp.hu (aK cx.comp (sv 1) (am) (fun _ _=>rfl)) (sv 0))),(aK cx.comp (sv 1) (am) (fun _ _=>rfl))⟩))
 (ah (eH ["pair"] cx nd (bK cx.hK (sv 0)) dD (fun _ _ _ _ nd=>⟨(sgN nd),(f7 (br cx.comp.hK cx.comp.hu (aK cx.comp (sv 1) (am) (fun _ _=>rfl)) (sv 0))),(aK cx.comp (sv 1) (am) (fun _ _=>rfl))⟩))
 (ak (aA (jW cx.hK rfl (t.tx.b 6) (a_ (sv 2) (sv 3)))))))
theorem yK:OkF pt hA P w K mg base 1 18 wV:=okC 18 t.tx fun _ _ _ _ _ _ cx nd =>
 (ak (aA (oq cx.hK rfl (t.tx.b 8) pi (aK cx (aU 2 t.tx cx (sv 0)) (sv 1) (fun _ _=>rfl)))))
omit t hB in
theorem eK{X:Cx}(t:Ty pt pe X.w X.K X.mg)(hB:X.K.In X.base):iB X (T X.K) 1 "beside" ["self", "at"] [] eE:=fun c _ hc e=>match c,hc,e with
 | 8,_,e=>dm 0 t.tx (yK t hB) e
 | 0,_,e | 1,_,e | 2,_,e | 3,_,e | 4,_,e | 5,_,e | 6,_,e | 7,_,e | 9,_,e | 10,_,e=>nomatch e
 | _+11,h,_=>dno (n:=11) h
theorem yz:OkF pt hA P w K mg base 2 19 wP:=okC 19 t.tx fun _ _ _ _ _ _ cx nd =>
 (ah (eH ["at"] cx nd (cD rfl (t.tx.b 7) (ac (aU 0 t.tx cx (sv 0)) ag)) dD (fun _ _ _ _ nd=>⟨(sgN nd),bC,(aU 0 t.tx cx.comp (sv 0))⟩))
 (ah (iP rfl (Or.inl rfl) (sv 1) (am))
 (ah (bY cx.po cx.calm (gL rfl (t.tx.b 7) (ac (aU 0 t.tx cx (sv 0)) ag)) (sgN nd) (ak (bY cx.po cx.calm (gL rfl (t.tx.b 7) (ac (aU 0 t.tx cx (sv 0)) ag)) (sgN nd) (ak (aH (br cx.hK cx.hu (aK cx (sv 2) (sv 4) (fun _ _=>rfl)) (sv 3)) (ak (bY cx.po cx.calm (de cx.hK (eU t.tx (eK t hB) cx (sv 0) (ac (sv 4) ag))) (sgN nd) (ak (iP rfl (Or.inl rfl) (sv 5) (ux cx.calm rfl (t.tx.b 5) (ac (aK cx (sv 2) (sv 5) (fun _ _=>rfl)) (ac (a_ (sv 3) (am)) ag))))))) ay)))))
 (ak (dE rfl (Or.inl rfl))))))
theorem yw:OkI pt hA P w K mg base 3 20 wN:=okI 20 t.tx fun _ _ _ _ _ _ cx nd =>
 (ah (bt (aJ t.tx (yP t hB) cx (ac (sv 1) (ac (aY rfl (t.tx.c 3)) ag))))
 (ah (sFld 0 t.tx cx (sv 1))
 (ah (sFld 1 t.tx cx (cK cx.hK rfl (t.tx.b 3) cO (aJ t.tx (A2 t hB) cx (ac (sv 1) (ac (sv 2) ag)))))
 (ah (sFld 2 t.tx cx (cK cx.hK rfl (t.tx.b 3) cO (iW ["at"] cx (cD rfl (t.tx.b 7) (ac (sv 1) ag)) dD (fun _ _ _ _ nd=>⟨(sgN nd),bC,(cK cx.comp.hK rfl (t.tx.b 3) cO (aJ t.tx (yJ t hB) cx.comp (ac (aU 1 t.tx cx.comp (sv 0)) (ac (sv 1) ag))))⟩))))
 (ak (aH (br cx.hK cx.hu (kx cx.hK cx.calm rfl (t.tx.b 4) (aJ t.tx (yz t hB) cx (ac (sv 0) (ac (am) ag)))) (sv 1)) (ak (aO 1 t.tx cx hB aN (ac (af) ag))) ay))))))
theorem r_:OkF pt hA P w K mg base 1 21 s_:=okC 21 t.tx fun _ _ _ _ _ _ cx nd =>
 (ak (aH (SW.st (da (db (sv 0) (am)) (bX (eG (sv 0) (aY rfl (t.tx.c 4)))))) (ak (aO 2 t.tx cx hB aN (ac (af) ag))) ay))
theorem A4:OkF pt hA P w K mg base 1 22 BR:=okC 22 t.tx fun _ _ _ _ _ _ cx nd =>
 (ah (aH (cJ cx.hK cx.hu (bh cx.hK rfl (t.tx.b 0) (sv 1)) (aU 0 t.tx cx (sv 0))) (ak (aO 2 t.tx cx hB aN (ac (af) ag))) ay)
 (ak (bY cx.po cx.calm (de cx.hK (sv 1)) (sgN nd) (ak (aH (SW.st (fI (n_ (sv 3) (iT)) (d5 (SW.st (da (db (sv 3) (am)) (bX (iN (sv 3) (sv 2)))))))) (ak (aO 2 t.tx cx hB aN (ac (af) ag))) ay)))))
theorem kJ:OkI pt hA P w K mg base 1 23 mj:=okI 23 t.tx fun _ _ _ _ _ _ cx nd =>
 (ah (sFld 0 t.tx cx (sv 1))
 (ah (sFld 7 t.tx cx (sv 2))
 (ak (sFld 8 t.tx cx (sv 3)))))
theorem wz:OkI pt hA P w K mg base 3 24 zl:=okI 24 t.tx fun _ _ _ _ _ _ cx nd =>
 (ah (bt (aJ t.tx (r_ t hB) cx (ac (sv 3) ag)))
 (ah (bt (aJ t.tx (r_ t hB) cx (ac (sv 4) ag)))
 (ah (sFld 3 t.tx cx (d6 (sv 3) (sv 4)))
 (ah (bt (aJ t.tx (A4 t hB) cx (ac (sv 1) (ac (sv 2) (ac (aU 3 t.tx cx (sv 0)) ag)))))
 (ah (sFld 4 t.tx cx (sv 1))
 (ah (sFld 5 t.tx cx (cK cx.hK rfl (t.tx.b 3) cO (sv 2)))
 (ah (sFld 6 t.tx cx (sv 3))
 (ak (m4 0 t.tx (kJ t hB) cx (ac (aU 0 t.tx cx (sv 1)) (ac (a_ (aU 3 t.tx cx (sv 0)) (am)) (ac (iV) ag))))))))))))
theorem AW:OkI pt hA P w K mg base 5 25 BK:=okI 25 t.tx fun _ _ _ _ _ _ cx nd =>
 (ah (aH (SW.st (da (db (sv 2) (am)) (bX (iN (sv 2) (aU 0 t.tx cx (sv 1)))))) (ak (aO 2 t.tx cx hB aN (ac (af) ag))) ay)
 (ah (eH ["at"] cx nd (cD rfl (t.tx.b 7) (ac (aU 0 t.tx cx (sv 1)) ag)) dD (fun _ _ _ _ nd=>⟨(sgN nd),bC,(cL (br cx.comp.hK cx.comp.hu (sv 1) (sv 0)) (am) (iT))⟩))
 (eS (i:=3) (ak (m4 4 t.tx (wz t hB) cx (ac (sv 1) (ac (sv 3) (ac (aU 0 t.tx cx (sv 1)) (ac (am) ag)))))))))
theorem AY:OkF pt hA P w K mg base 1 26 BL:=okC 26 t.tx fun _ _ _ _ _ _ cx nd =>
 (ah (aH (cJ cx.hK cx.hu (bh cx.hK rfl (t.tx.b 0) (sv 1)) (aU 0 t.tx cx (sv 0))) (ak (aO 2 t.tx cx hB aN (ac (af) ag))) ay)
 (ah (aH (cJ cx.hK cx.hu (jX cx.hK cx.calm rfl (t.tx.b 0) rfl (t.tx.b 9) (sv 1)) (bh cx.hK rfl (t.tx.b 0) (sv 1))) (ak (aO 2 t.tx cx hB aN (ac (af) ag))) ay)
 (ak (bY cx.po cx.calm (de cx.hK (sv 1)) (sgN nd) (ak (aH (SW.st (da (db (sv 2) (am)) (bX (eG (sv 2) (aY rfl (t.tx.c 5)))))) (ak (aO 2 t.tx cx hB aN (ac (af) ag))) ay))))))
theorem A6:OkI pt hA P w K mg base 5 27 BT:=okI 27 t.tx fun _ _ _ _ _ _ cx nd =>
 (ah (bt (aJ t.tx (AY t hB) cx (ac (sv 1) (ac (sv 2) ag))))
 (ah (eH ["name"] cx nd (bK cx.hK (sv 2)) dD (fun _ _ _ _ nd=>⟨(sgN nd),bC,(d6 (iR (aY rfl (t.tx.c 5)) (sv 1)) (aU 0 t.tx cx.comp (sv 0)))⟩))
 (eS (i:=3) (ak (m4 4 t.tx (wz t hB) cx (ac (sv 1) (ac (sv 3) (ac (aU 0 t.tx cx (sv 1)) (ac (aY rfl (t.tx.c 6)) ag)))))))))
theorem yN:OkF pt hA P w K mg base 7 28 wX:=okC 28 t.tx fun _ _ _ _ _ _ cx nd =>
 (eS (i:=0) (ah (aH (br cx.hK cx.hu (aK cx (sv 1) (am) (fun _ _=>rfl)) (af)) (ak (aA (df))) ay)
 (ah (aH (br cx.hK cx.hu (aK cx (sv 1) (am) (fun _ _=>rfl)) (af)) (ak (aA (pI 5 t.tx (AW t hB) cx (ac (sv 0) (ac (aK cx (sv 1) (am) (fun _ _=>rfl)) ag))))) ay)
 (ah (aH (br cx.hK cx.hu (aK cx (sv 1) (am) (fun _ _=>rfl)) (af)) (ak (aA (pI 6 t.tx (A6 t hB) cx (ac (sv 0) (ac (aK cx (sv 1) (am) (fun _ _=>rfl)) ag))))) ay)
 (ak (aA (df)))))))
theorem A5:OkI pt hA P w K mg base 3 29 BS:=okI 29 t.tx fun _ _ _ _ _ _ cx nd =>
 (ah (aH (SW.st (da (db (sv 1) (aY rfl (t.tx.c 7))) (bX (eG (sv 1) (aY rfl (t.tx.c 8)))))) (ak (aO 2 t.tx cx hB aN (ac (af) ag))) ay)
 (ah (aH (db (sv 2) (sv 1)) (ak (aO 2 t.tx cx hB aN (ac (af) ag))) ay)
 (ak (m4 0 t.tx (kJ t hB) cx (ac (sv 1) (ac (sv 2) (ac (iV) ag)))))))
theorem A8:OkF pt hA P w K mg base 1 30 BV:=okC 30 t.tx fun _ _ _ _ _ _ cx nd =>
 (ah (aH (eG (bh cx.hK rfl (t.tx.b 0) (sv 0)) (aY rfl (t.tx.c 9))) (ak (aO 2 t.tx cx hB aN (ac (af) ag))) ay)
 (ak (bY cx.po cx.calm (uo cx.hK rfl (t.tx.b 10) (sv 0)) (qP cx.hK cx.calm (f9 nd rfl (Or.inl rfl) (f9 nd rfl (Or.inl rfl) om))) (ak (aH (SW.st (da (db (sv 2) (am)) (bX (iN (sv 2) (sv 1))))) (ak (aO 2 t.tx cx hB aN (ac (af) ag))) ay)))))
theorem A3:OkI pt hA P w K mg base 3 31 BQ:=okI 31 t.tx fun _ _ _ _ _ _ cx nd =>
 (ak (m4 0 t.tx (kJ t hB) cx (ac (sv 1) (ac (sv 2) (ac (iV) ag)))))
theorem A7:OkI pt hA P w K mg base 5 32 BU:=okI 32 t.tx fun _ _ _ _ _ _ cx nd =>
 (ah (bt (aJ t.tx (A8 t hB) cx (ac (sv 1) ag)))
 (ah (sFld 12 t.tx cx (cK cx.hK rfl (t.tx.b 3) cO (sv 1)))
 (ak (m4 1 t.tx (A3 t hB) cx (ac (a_ (bh cx.hK rfl (t.tx.b 0) (sv 1)) (am)) (ac (a_ (bh cx.hK rfl (t.tx.b 0) (sv 1)) (am)) ag))))))
theorem ww:OkF pt hA P w K mg base 1 33 zi:=okC 33 t.tx fun _ _ _ _ _ _ cx nd =>
 (ah (aH (cJ cx.hK cx.hu (bh cx.hK rfl (t.tx.b 0) (sv 0)) (d6 (d6 (sv 1) (sv 1)) (sv 1))) (ak (aO 2 t.tx cx hB aN (ac (af) ag))) ay)
 (ak (bY cx.po cx.calm (de cx.hK (sv 0)) (sgN nd) (ak (aH (SW.st (da (db (sv 2) (am)) (bX (iN (sv 2) (sv 1))))) (ak (aO 2 t.tx cx hB aN (ac (af) ag))) ay)))))
theorem A9:OkI pt hA P w K mg base 3 34 BW:=okI 34 t.tx fun _ _ _ _ _ _ cx nd =>
 (ah (aH (SW.st (da (db (sv 1) (aY rfl (t.tx.c 10))) (bX (eG (sv 1) (aY rfl (t.tx.c 11)))))) (ak (aO 2 t.tx cx hB aN (ac (af) ag))) ay)
 (ah (aH (SW.st (da (db (sv 2) (aY rfl (t.tx.c 12))) (bX (eG (sv 2) (aY rfl (t.tx.c 13)))))) (ak (aO 2 t.tx cx hB aN (ac (af) ag))) ay)
 (ah (aH (pA rfl (t.gm 1) (t.gd 1) (sv 3)) (ak (aO 2 t.tx cx hB aN (ac (af) ag))) ay)
 (ah (bt (aJ t.tx (ww t hB) cx (ac (sv 4) (ac (sv 2) ag))))
 (ah (bt (aJ t.tx (ww t hB) cx (ac (sv 5) (ac (sv 2) ag))))
 (ah (sFld 9 t.tx cx (oy rfl (t.gm 1) (t.gd 1) (sv 3) (fun _ _=>rfl)))
 (ah (sFld 10 t.tx cx (cK cx.hK rfl (t.tx.b 3) cO (sv 4)))
 (ah (sFld 11 t.tx cx (cK cx.hK rfl (t.tx.b 3) cO (sv 5)))
 (ak (m4 0 t.tx (kJ t hB) cx (ac (sv 1) (ac (sv 2) (ac (iV) ag)))))))))))))
theorem yv:OkF pt hA P w K mg base 8 35 dX:=okC 35 t.tx fun _ _ _ _ _ _ cx nd =>
 (ah (a6 nd (aK cx (sv 0) (qU (am)) (fun _ _=>rfl)))
 (ah (aH (br cx.hK cx.hu (aK cx (aK cx (sv 0) (am) (fun _ _=>rfl)) (am) (fun _ _=>rfl)) (af)) (ak (aA (aJ t.tx (yN t hB) cx (ac (pI 8 t.tx (yw t hB) cx (ac (aK cx (aK cx (sv 0) (am) (fun _ _=>rfl)) (am) (fun _ _=>rfl)) (ac (aK cx (aK cx (sv 0) (am) (fun _ _=>rfl)) (am) (fun _ _=>rfl)) ag))) (ac (sv 1) ag))))) ay)
 (ah (aH (br cx.hK cx.hu (aK cx (sv 1) (am) (fun _ _=>rfl)) (af)) (ak (aA (pI 9 t.tx (A5 t hB) cx (ac (aK cx (sv 1) (am) (fun _ _=>rfl)) (ac (aK cx (sv 1) (am) (fun _ _=>rfl)) ag))))) ay)
 (ah (aH (br cx.hK cx.hu (aK cx (sv 1) (am) (fun _ _=>rfl)) (af)) (ak (aA (pI 3 t.tx (A7 t hB) cx (ac (aK cx (sv 1) (am) (fun _ _=>rfl)) ag)))) ay)
 (ak (aA (pI 10 t.tx (A9 t hB) cx (ac (aK cx (sv 1) (am) (fun _ _=>rfl)) (ac (aK cx (sv 1) (am) (fun _ _=>rfl)) (ac (aK cx (sv 1) (am) (fun _ _=>rfl)) (ac (aK cx (sv 1) (am) (fun _ _=>rfl)) (ac (aK cx (sv 1) (am) (fun _ _=>rfl)) ag))))))))))))
theorem nq:OkF pt hA P w K mg base 1 36 oZ:=okC 36 t.tx fun _ _ _ _ _ _ cx nd =>
 (ah (aH (cJ cx.hK cx.hu (bh cx.hK rfl (t.tx.b 0) (sv 1)) (aU 0 t.tx cx (sv 0))) (ak (aO 3 t.tx cx hB aN (ac (af) ag))) ay)
 (ak (aA (iW ["number"] cx (bK cx.hK (sv 1)) dD (fun _ _ _ _ nd=>⟨(sgN nd),bC,(fN (sv 1) (aU 7 t.tx cx.comp (sv 0)))⟩)))))
omit t hB in
theorem bZ{X:Cx}(t:Ty pt pe X.w X.K X.mg)(hB:X.K.In X.base):iB X (T X.K) 1 "read" ["self", "registers"] [] aL:=fun c _ hc e=>match c,hc,e with
 | 5,_,e=>dm 1 t.tx (nq t hB) e
 | 9,_,e=>dm 2 t.tx (nq t hB) e
 | 10,_,e=>dm 3 t.tx (nq t hB) e
 | 0,_,e | 1,_,e | 2,_,e | 3,_,e | 4,_,e | 6,_,e | 7,_,e | 8,_,e=>nomatch e
 | _+11,h,_=>dno (n:=11) h
theorem Ba:OkF pt hA P w K mg base 1 37 BY:=okC 37 t.tx fun _ _ _ _ _ _ cx nd =>
 (ak (aA ((mZ (wl cx.hK cx.hu (sv 1) (aU 3 t.tx cx (sv 0))) (qT (wl cx.hK cx.hu (fN (a_ (sv 1) (am)) (aU 6 t.tx cx (sv 0))) (am)))))))
omit t hB in
theorem fQ{X:Cx}(t:Ty pt pe X.w X.K X.mg)(hB:X.K.In X.base):iB X (T X.K) 1 "has_offer" ["self", "cell"] [] eM:=fun c _ hc e=>match c,hc,e with
 | 5,_,e=>dm 4 t.tx (Ba t hB) e
 | 0,_,e | 1,_,e | 2,_,e | 3,_,e | 4,_,e | 6,_,e | 7,_,e | 8,_,e | 9,_,e | 10,_,e=>nomatch e
 | _+11,h,_=>dno (n:=11) h
theorem A0:OkF pt hA P w K mg base 2 38 BN:=okC 38 t.tx fun _ _ _ _ _ _ cx nd =>
 (ah (eH ["other"] cx nd (bK cx.hK (eU t.tx (eK t hB) cx (aU 4 t.tx cx (sv 0)) (ac (sv 2) ag))) dD (fun _ _ _ _ nd=>⟨(sgN nd),bC,(aK cx.comp (sv 0) (sv 1) (fun _ _=>rfl))⟩))
 (ah (eH ["cell"] cx nd (bK cx.hK (sv 3)) dD (fun _ _ _ _ nd=>⟨(sgN nd),(f7 (bN cx.comp.hK (eU t.tx (fQ t hB) cx.comp (sv 0) (ac (sv 1) ag)))),(a_ (sv 1) (am))⟩))
 (ah (aH (n_ (aK cx (aU 5 t.tx cx (sv 0)) (sv 2) (fun _ _=>rfl)) (iT)) (ak (rk cx (aK cx (aU 5 t.tx cx (sv 0)) (sv 2) (fun _ _=>rfl)))) ay)
 (ak (aA (on cx.hK cx.calm rfl (t.tx.b 5) (a_ (sv 4) (dh (ac (aU 3 t.tx cx (sv 0)) ag)))))))))
theorem AV:OkF pt hA P w K mg base 1 39 BJ:=okC 39 t.tx fun _ _ _ _ _ _ cx nd =>
 (ah (aH (cJ cx.hK cx.hu (sv 2) (am)) (ak (aA (aK cx (sv 1) (iR (sv 2) (am)) (fun _ _=>rfl)))) ay)
 (ah (aH (br cx.hK cx.hu (aK cx (sv 1) (am) (fun _ _=>rfl)) (aK cx (sv 1) (iR (aU 0 t.tx cx (sv 0)) (am)) (fun _ _=>rfl))) (ak (aA (fN (a_ (aK cx (sv 1) (am) (fun _ _=>rfl)) (am)) (aU 7 t.tx cx (sv 0))))) ay)
 (ak (aA (aK cx (sv 1) (am) (fun _ _=>rfl))))))
theorem A1:OkF pt hA P w K mg base 1 40 BO:=okC 40 t.tx fun _ _ _ _ _ _ cx nd =>
 (ah (a6 nd (aK cx (sv 1) (fN (iR (sv 2) (am)) (aU 0 t.tx cx (sv 0))) (fun _ _=>rfl)))
 (ah (a6 nd (aK cx (sv 1) (fN (a_ (sv 2) (am)) (aU 0 t.tx cx (sv 0))) (fun _ _=>rfl)))
 (ah (a6 nd (a_ (a_ (d6 (d6 (aK cx (sv 1) (sv 2) (fun _ _=>rfl)) (aU 7 t.tx cx (sv 0))) (aU 7 t.tx cx (sv 0))) (d6 (sv 3) (aU 7 t.tx cx (sv 0)))) (sv 4)))
 (ak (aA (cL (br cx.hK cx.hu (sv 2) (am)) (aK cx (aU 10 t.tx cx (sv 0)) (sv 5) (fun _ _=>rfl)) (aK cx (aU 11 t.tx cx (sv 0)) (sv 5) (fun _ _=>rfl))))))))
omit t hB in
theorem dH{X:Cx}(t:Ty pt pe X.w X.K X.mg)(hB:X.K.In X.base):iB X (T X.K) 2 "due" ["self", "cells", "at"] [] dz:=fun c _ hc e=>match c,hc,e with
 | 5,_,e=>dm 5 t.tx (A0 t hB) e
 | 9,_,e=>dm 6 t.tx (AV t hB) e
 | 10,_,e=>dm 7 t.tx (A1 t hB) e
 | 0,_,e | 1,_,e | 2,_,e | 3,_,e | 4,_,e | 6,_,e | 7,_,e | 8,_,e=>nomatch e
 | _+11,h,_=>dno (n:=11) h
theorem nt:OkF pt hA P w K mg base 3 41 o4:=okC 41 t.tx fun _ _ _ _ _ _ cx nd =>
 (ak (aA (iW ["at"] cx (cD rfl (t.tx.b 7) (ac (aU 0 t.tx cx (sv 0)) ag)) dD (fun _ _ _ _ nd=>⟨(sgN nd),(f7 (cJ cx.comp.hK cx.comp.hu (eU t.tx (dH t hB) cx.comp (sv 0) (ac (sv 1) (ac (sv 2) ag))) (aK cx.comp (sv 1) (sv 2) (fun _ _=>rfl)))),(sv 2)⟩))))
omit t hB in
theorem a7{X:Cx}(t:Ty pt pe X.w X.K X.mg)(hB:X.K.In X.base):iB X (T X.K) 3 "movers" ["self", "cells"] [] a9:=fun c _ hc e=>match c,hc,e with
 | 5,_,e=>dm 8 t.tx (nt t hB) e
 | 9,_,e=>dm 9 t.tx (nt t hB) e
 | 10,_,e=>dm 10 t.tx (nt t hB) e
 | 0,_,e | 1,_,e | 2,_,e | 3,_,e | 4,_,e | 6,_,e | 7,_,e | 8,_,e=>nomatch e
 | _+11,h,_=>dno (n:=11) h
theorem yE:OkF pt hA P w K mg base 4 42 wS:=okC 42 t.tx fun _ _ _ _ _ _ cx nd =>
 (ak (aA (lv cx.hK cx.hu (bh cx.hK rfl (t.tx.b 0) (eU t.tx (a7 t hB) cx (sv 0) (ac (sv 1) ag))) (am))))
theorem AZ:OkF pt hA P w K mg base 4 43 BM:=okC 43 t.tx fun _ _ _ _ _ _ cx nd =>
 (ak (aA (lv cx.hK cx.hu (bh cx.hK rfl (t.tx.b 0) (eU t.tx (a7 t hB) cx (sv 0) (ac (sv 1) ag))) (am))))
theorem A_:OkF pt hA P w K mg base 4 44 BX:=okC 44 t.tx fun _ _ _ _ _ _ cx nd =>
 (ak (aA (lv cx.hK cx.hu (bh cx.hK rfl (t.tx.b 0) (eU t.tx (a7 t hB) cx (sv 0) (ac (sv 1) ag))) (aU 9 t.tx cx (sv 0)))))
omit t hB in
theorem dv{X:Cx}(t:Ty pt pe X.w X.K X.mg)(hB:X.K.In X.base):iB X (T X.K) 4 "calm" ["self", "cells"] [] cR:=fun c _ hc e=>match c,hc,e with
 | 5,_,e=>dm 11 t.tx (yE t hB) e
 | 9,_,e=>dm 12 t.tx (AZ t hB) e
 | 10,_,e=>dm 13 t.tx (A_ t hB) e
 | 0,_,e | 1,_,e | 2,_,e | 3,_,e | 4,_,e | 6,_,e | 7,_,e | 8,_,e=>nomatch e
 | _+11,h,_=>dno (n:=11) h
theorem jd:OkF pt hA P w K mg base 1 45 j6:=okC 45 t.tx fun _ _ _ _ _ _ cx nd =>
 (ak (aA (iD cx.hK (af) (iW ["thing"] cx (bK cx.hK (sv 0)) dD (fun _ _ _ _ nd=>⟨(sgN nd),bC,(uv rfl (t.tx.b 11) (sv 0))⟩)))))
theorem no:OkF pt hA P w K mg base 5 46 gD:=okC 46 t.tx fun _ _ _ _ _ _ cx nd =>
 (ak (aA (aJ t.tx (jd t hB) cx (ac (a_ (sv 1) (dh (ac (cL (bN cx.hK (eU t.tx (dv t hB) cx (sv 0) (ac (sv 1) ag))) (af) (af)) ag))) ag))))
theorem yO:OkF pt hA P w K mg base 1 47 wY:=okC 47 t.tx fun _ _ _ _ _ _ cx nd =>
 (ah (aH (SW.st (fI (bN cx.hK (aU 8 t.tx cx (sv 0))) (d5 (eG (bh cx.hK rfl (t.tx.b 0) (sv 1)) (am))))) (ak (aO 4 t.tx cx hB aN (ac (af) ag))) ay)
 (ah (bY cx.po cx.calm (de cx.hK (sv 1)) (sgN nd) (ak (aH (SW.st (da (db (sv 2) (am)) (bX (iN (sv 2) (aU 0 t.tx cx (sv 0)))))) (ak (aO 4 t.tx cx hB aN (ac (af) ag))) ay)))
 (ak (aH (cJ cx.hK cx.hu (jX cx.hK cx.calm rfl (t.tx.b 0) rfl (t.tx.b 9) (sv 1)) (bh cx.hK rfl (t.tx.b 0) (sv 1))) (ak (aO 4 t.tx cx hB aN (ac (af) ag))) ay))))
theorem nr:OkF pt hA P w K mg base 3 48 o3:=okC 48 t.tx fun _ _ _ _ _ _ cx nd =>
 (ah (bt (aJ t.tx (yO t hB) cx (ac (sv 0) (ac (sv 2) ag))))
 (ak (aA (iW ["at"] cx (cD rfl (t.tx.b 7) (ac (aU 0 t.tx cx (sv 0)) ag)) dD (fun _ _ _ _ nd=>⟨(sgN nd),bC,(cL (og cx.comp.hK cx.comp.hu2 (sv 3) (sv 0)) (eU t.tx (dH t hB) cx.comp (sv 1) (ac (sv 2) (ac (sv 3) ag))) (aK cx.comp (sv 2) (sv 3) (fun _ _=>rfl)))⟩)))))
omit t hB in
theorem e9{X:Cx}(t:Ty pt pe X.w X.K X.mg)(hB:X.K.In X.base):iB X (T X.K) 3 "turned" ["self", "cells", "named"] [] dL:=fun c _ hc e=>match c,hc,e with
 | 5,_,e=>dm 14 t.tx (nr t hB) e
 | 9,_,e=>dm 15 t.tx (nr t hB) e
 | 10,_,e=>dm 16 t.tx (nr t hB) e
 | 0,_,e | 1,_,e | 2,_,e | 3,_,e | 4,_,e | 6,_,e | 7,_,e | 8,_,e=>nomatch e
 | _+11,h,_=>dno (n:=11) h
theorem yu:OkF pt hA P w K mg base 4 49 wM:=okC 49 t.tx fun _ _ _ _ _ _ cx nd =>
 (ah (a6 nd (eU t.tx (e9 t hB) cx (sv 0) (ac (sv 1) (ac (sv 2) ag))))
 (ah (eH ["at"] cx nd (bK cx.hK (eU t.tx (a7 t hB) cx (sv 0) (ac (sv 1) ag))) dD (fun _ _ _ _ nd=>⟨(sgN nd),(f7 (og cx.comp.hK cx.comp.hu2 (sv 1) (sv 0))),(sv 1)⟩))
 (ak (qH rfl (Or.inl rfl) rfl (Or.inl rfl)))))
theorem yU:OkF pt hA P w K mg base 5 50 w8:=okC 50 t.tx fun _ _ _ _ _ _ cx nd =>
 (ah (a6 nd (eU t.tx (bZ t hB) cx (sv 0) (ac (sv 1) ag)))
 (ah (a6 nd (dh ag))
 (eS (i:=2) (ah (bY cx.po cx.calm (de cx.hK (sv 2)) (sgN nd) (ah (rk cx (AC (aJ t.tx (yu t hB) cx (ac (sv 0) (ac (sv 3) (ac (sv 5) ag))))))
 (ak (a6 nd (aK cx (aK cx (sv 4) (qU (am)) (fun _ _=>rfl)) (am) (fun _ _=>rfl))))))
 (ak (dE rfl (Or.inl rfl)))))))
theorem yr:OkF pt hA P w K mg base 1 51 wL:=okC 51 t.tx fun _ _ _ _ _ _ cx nd =>
 (ah (a6 nd (oq cx.hK rfl (t.tx.b 8) pi (sv 0)))
 (eS (i:=1) (ah (bY cx.po cx.calm (de cx.hK (sv 1)) (qP cx.hK cx.calm (f9 nd rfl (Or.inl rfl) (f9 nd rfl (Or.inl rfl) om))) (ah (aH (SW.st (da (db (sv 3) (am)) (bX (iN (sv 3) (bh cx.hK rfl (t.tx.b 0) (sv 2)))))) (ak (aO 3 t.tx cx hB aN (ac (af) ag))) ay)
 (ak (iP rfl (Or.inl rfl) (sv 3) (sv 4)))))
 (ak (dE rfl (Or.inl rfl))))))
theorem yI:OkF pt hA P w K mg base 6 52 fD:=okC 52 t.tx fun _ _ _ _ _ _ cx nd =>
 (ah (aH (br cx.hK cx.hu (aK cx (sv 2) (am) (fun _ _=>rfl)) (af)) (ak (aA (aK cx (aJ t.tx (yU t hB) cx (ac (sv 0) (ac (sv 1) (ac (dh (ac (aK cx (sv 2) (am) (fun _ _=>rfl)) ag)) ag)))) (am) (fun _ _=>rfl)))) ay)
 (ah (aH (br cx.hK cx.hu (aK cx (sv 2) (am) (fun _ _=>rfl)) (af)) (ak (aA (ky (ac (dh ag) (ac (eU t.tx (bZ t hB) cx (sv 0) (ac (aJ t.tx (yr t hB) cx (ac (sv 1) (ac (dh (ac (ky (ac (aK cx (sv 2) (am) (fun _ _=>rfl)) (ac (aK cx (sv 2) (am) (fun _ _=>rfl)) ag))) ag)) ag))) ag)) ag))))) ay)
 (ak (aA (ky (ac (dh ag) (ac (sv 1) ag)))))))
theorem wy:OkF pt hA P w K mg base 2 53 zk:=okC 53 t.tx fun _ _ _ _ _ _ cx nd =>
 (ak (aA (cL (eG (bh cx.hK rfl (t.tx.b 0) (sv 0)) (am)) (aJ t.tx (jd t hB) cx (ac (sv 0) ag)) (af))))
theorem yT:OkF pt hA P w K mg base 1 54 w6:=okC 54 t.tx fun _ _ _ _ _ _ cx nd =>
 (ak (aO 7 t.tx cx hB aN (ac (af) ag)))
omit t hB in
theorem gh{X:Cx}(t:Ty pt pe X.w X.K X.mg)(hB:X.K.In X.base):iB X (T X.K) 1 "measure" ["self", "cells"] [] fm:=fun c _ hc e=>match c,hc,e with
 | 10,_,e=>dm 17 t.tx (yT t hB) e
 | 0,_,e | 1,_,e | 2,_,e | 3,_,e | 4,_,e | 5,_,e | 6,_,e | 7,_,e | 8,_,e | 9,_,e=>nomatch e
 | _+11,h,_=>dno (n:=11) h
theorem yQ:OkF pt hA P w K mg base 1 55 w4:=okC 55 t.tx fun _ _ _ _ _ _ cx nd =>
 (ak (aH (SW.st (fI (bN cx.hK (sv 1)) (d5 (bN cx.hK (aU 8 t.tx cx (sv 0)))))) (ak (aO 4 t.tx cx hB aN (ac (af) ag))) ay))
theorem r9:OkF pt hA P w K mg base 1 56 sZ:=okC 56 t.tx fun _ _ _ _ _ _ cx nd =>
 (ah (a6 nd (am))
 (ah (bY cx.po cx.calm (gL rfl (t.tx.b 7) (ac (aU 0 t.tx cx (sv 0)) ag)) (sgN nd) (ah (a6 nd (d6 (sv 1) (aU 7 t.tx cx (sv 0))))
 (ak (aH (eG (sv 1) (aY rfl (t.tx.c 14))) (ak (qJ)) ay))))
 (ak (dE rfl (Or.inl rfl)))))
theorem yS:OkF pt hA P w K mg base 2 57 w5:=okC 57 t.tx fun _ _ _ _ _ _ cx nd =>
 (ah (aH (eG (aJ t.tx (r9 t hB) cx (ac (sv 0) ag)) (aY rfl (t.tx.c 14))) (ak (aO 6 t.tx cx hB aN (ac (af) ag))) ay)
 (ak (aH (SW.st (fI (bN cx.hK (sv 1)) (d5 (eG (aU 0 t.tx cx (sv 0)) (aY rfl (t.tx.c 15)))))) (ak (aO 6 t.tx cx hB aN (ac (af) ag))) ay)))
theorem yq:OkD pt hA P w K mg base 5 (pe.at 0).1 wK:=okD (t.d 0) fun _ _ _ _ _ _ cx nd =>
 (ah (bt (aJ t.tx (yQ t hB) cx (ac (sv 0) (ac (sv 1) ag))))
 (ah (bt (aJ t.tx (yS t hB) cx (ac (sv 0) (ac (sv 1) ag))))
 (ah (eH ["number"] cx nd (cD rfl (t.tx.b 7) (ac (aJ t.tx (r9 t hB) cx (ac (sv 0) ag)) ag)) dD (fun _ _ _ _ nd=>⟨(sgN nd),bC,(df)⟩))
 (ah (eH ["cells"] cx nd (bK cx.hK (sv 2)) dD (fun _ _ _ _ nd=>⟨(sgN nd),bC,(eU t.tx (dv t hB) cx.comp (sv 0) (ac (sv 1) ag))⟩))
 (ah (eH ["cells"] cx nd (bK cx.hK (sv 2)) dD (fun _ _ _ _ nd=>⟨(sgN nd),bC,(df)⟩))
 (ah (a6 nd (df))
 (ah (aH (qE (sv 5) (iT)) (ak (a6 nd (df))) ay)
 (ah (aH (qE (sv 5) (iT)) (ak (a6 nd (df))) ay)
 (ak (dE rfl (Or.inl rfl)))))))))))
theorem yH:OkF pt hA P w K mg base 2 58 wT:=okC 58 t.tx fun _ _ _ _ _ _ cx nd =>
 (ah (aH (br cx.hK cx.hu (aK cx (sv 0) (am) (fun _ _=>rfl)) (af)) (ak (aA (aJ t.tx (jd t hB) cx (ac (dh (ac (af) (ac (kx cx.hK cx.calm rfl (t.tx.b 4) (aK cx (sv 0) (am) (fun _ _=>rfl))) ag))) ag)))) ay)
 (ah (aH (br cx.hK cx.hu (aK cx (sv 0) (am) (fun _ _=>rfl)) (af)) (ak (aA (af))) ay)
 (ak (aA (aJ t.tx (jd t hB) cx (ac (a_ (dh (ac (aK cx (sv 0) (am) (fun _ _=>rfl)) ag)) (aK cx (sv 0) (am) (fun _ _=>rfl))) ag))))))
theorem yt:OkF pt hA P w K mg base 6 59 fk:=okC 59 t.tx fun _ _ _ _ _ _ cx nd =>
 (ah (a6 nd (aK cx (sv 1) (am) (fun _ _=>rfl)))
 (ah (aH (br cx.hK cx.hu (aK cx (sv 2) (am) (fun _ _=>rfl)) (af)) (ak (aA (aJ t.tx (jd t hB) cx (ac (dh (ac (aJ t.tx (wy t hB) cx (ac (aK cx (sv 1) (am) (fun _ _=>rfl)) ag)) (ac (af) (ac (aJ t.tx (no t hB) cx (ac (sv 0) (ac (sv 3) ag))) ag)))) ag)))) ay)
 (ah (aH (br cx.hK cx.hu (aK cx (sv 2) (am) (fun _ _=>rfl)) (af)) (ak (aA (aJ t.tx (no t hB) cx (ac (sv 0) (ac (sv 3) ag))))) ay)
 (ah (aH (br cx.hK cx.hu (aK cx (sv 2) (am) (fun _ _=>rfl)) (af)) (ak (aA (aJ t.tx (wy t hB) cx (ac (eU t.tx (a7 t hB) cx (sv 0) (ac (sv 3) ag)) ag)))) ay)
 (ah (aH (br cx.hK cx.hu (aK cx (sv 2) (am) (fun _ _=>rfl)) (af)) (ak (aA (uw rfl (t.tx.b 11) (eU t.tx (gh t hB) cx (sv 0) (ac (sv 3) ag))))) ay)
 (ak (aA (aJ t.tx (yH t hB) cx (ac (xE (t.d 0) (yq t hB) cx (ac (sv 0) (ac (aK cx (sv 2) (am) (fun _ _=>rfl)) ag))) ag)))))))))
theorem kI:OkF pt hA P w K mg base 9 60 be:=okC 60 t.tx fun _ _ _ _ _ _ cx nd =>
 (ah (a6 nd (aJ t.tx (yG t hB) cx (ac (sv 0) ag)))
 (eS (i:=1) (ah (bt (aJ t.tx (AX t hB) cx (ac (sv 1) ag)))
 (ah (a6 nd (aJ t.tx (r6 t hB) cx (ac (sv 1) ag)))
 (ah (a6 nd (aJ t.tx (yv t hB) cx (ac (dR cx.hK (sv 1) fq (dF (sv 2))) ag)))
 (ah (a6 nd (eU t.tx (bZ t hB) cx (sv 3) (ac (aK cx (aK cx (sv 1) (sv 2) (fun _ _=>rfl)) (am) (fun _ _=>rfl)) ag)))
 (eS (i:=4) (ah (a6 nd (dh (ac (aJ t.tx (no t hB) cx (ac (sv 3) (ac (sv 4) ag))) ag)))
 (ah (bY cx.po cx.calm (de cx.hK (dR cx.hK (sv 1) (dF (a_ (sv 2) (am))) fq)) (sgN nd) (ah (a6 nd (aJ t.tx (yI t hB) cx (ac (sv 3) (ac (sv 4) (ac (sv 6) ag)))))
 (eS (i:=7) (ah (a6 nd (aK cx (sv 7) (am) (fun _ _=>rfl)))
 (ak (rk cx (aJ t.tx (yt t hB) cx (ac (sv 3) (ac (sv 7) (ac (sv 6) ag))))))))))
 (ak (dE rfl (Or.inl rfl))))))))))))
theorem yC:OkF pt hA P w K mg base 10 61 sY:=okC 61 t.tx fun _ _ _ _ _ _ cx nd =>
 (ah (a6 nd (am))
 (ah (xo cx rfl rfl nd rfl rfl (by decide) rfl (t.tx.xg 0) (t.tx.hO 0) (fun E pn Wb cy=>(ak (bt (aJ t.tx (kI t hB) cy (ac (sv 0) ag))))) (fun _=>(ah (a6 nd (dh (ac (d7 cx.hK t.tx.xc (t.tx.kO 0) rfl (t.tx.b 12) bg rfl (t.tx.xg 5) (sv 2)) (ac (d7 cx.hK t.tx.xc (t.tx.kO 1) rfl (t.tx.b 12) bg rfl (t.tx.xg 1) (sv 2)) (ac (d7 cx.hK t.tx.xc (t.tx.kO 2) rfl (t.tx.b 12) bg rfl (t.tx.xg 2) (sv 2)) (ac (d7 cx.hK t.tx.xc (t.tx.kO 3) rfl (t.tx.b 12) bg rfl (t.tx.xg 3) (sv 2)) ag))))))
 (ah (a6 nd (a_ (sv 3) (dh (ac (d7 cx.hK t.tx.xc (t.tx.kO 4) rfl (t.tx.b 12) bg rfl (t.tx.xg 4) (sv 2)) (ac (d7 cx.hK t.tx.xc (t.tx.kO 5) rfl (t.tx.b 12) bg rfl (t.tx.xg 6) (sv 2)) (ac (d7 cx.hK t.tx.xc (t.tx.kO 6) rfl (t.tx.b 12) bg rfl (t.tx.xg 7) (sv 2)) ag))))))
 (ak (a6 nd (a_ (pG cx.hK cx.hu2 (sv 3) (iV)) (d6 (am) (qX rfl (t.tx.b 2) (uB cx.hK t.tx.xc (t.tx.kB 7) rfl (t.tx.b 12) bg rfl (t.tx.b 13) jL (sv 2)))))))))) ay)
 (ak (dE rfl (Or.inl rfl)))))
theorem yR:OkF pt hA P w K mg base 10 62 tf:=okC 62 t.tx fun _ _ _ _ _ _ cx nd =>
 (ah (a6 nd (af))
 (ah (qF cx rfl rfl (HsU.cons rfl (t.tx.xg 5) (t.tx.g 1) (fun _=>(ak (a6 nd (af)))) (HsU.cons rfl (t.tx.xg 1) (t.tx.g 2) (fun _=>(ak (a6 nd (af)))) (HsU.cons rfl (t.tx.xg 2) (t.tx.g 3) (fun _=>(ak (a6 nd (af)))) (HsU.cons rfl (t.tx.xg 3) (t.tx.g 4) (fun _=>(ak (a6 nd (af)))) (HsU.cons rfl (t.tx.xg 4) (t.tx.g 5) (fun _=>(ak (a6 nd (af)))) (HsU.cons rfl (t.tx.xg 6) (t.tx.g 6) (fun _=>(ak (a6 nd (af)))) (HsU.cons rfl (t.tx.xg 7) (t.tx.g 7) (fun _=>(ak (a6 nd (af)))) HsU.nil))))))) (fun E pn Wb cy=>(ak (bt (aJ t.tx (kI t hB) cy (ac (sv 0) ag))))) ay)
 (ak (dE rfl (Or.inl rfl)))))
theorem yV:OkF pt hA P w K mg base 11 63 w9:=okC 63 t.tx fun _ _ _ _ _ _ cx nd =>
 (ah (a6 nd (aJ t.tx (yB t hB) cx (ac (aJ t.tx (yM t hB) cx (ac (sv 0) (ac (am) ag))) ag)))
 (ah (a6 nd (dh ag))
 (ah (bY cx.po cx.calm (de cx.hK (dR cx.hK (sv 0) (dF (am)) (dF (am)))) (sgN nd) (ak (rk cx (aK cx (dh (ac (af) (ac (af) ag))) (fN (sv 3) (am)) (fun _ _=>rfl)))))
 (ah (a6 nd (af))
 (ah (a6 nd (aK cx (sv 1) (am) (fun _ _=>rfl)))
 (ah (aH (SW.st (fI (br cx.hK cx.hu (pF (sv 5) (af)) (am)) (d5 (mR (bN cx.hK (gM (sv 5) (af))))))) (ak (a6 nd (iD cx.hK (af) (a_ (dh (ac (sv 5) ag)) (sv 2))))) ay)
 (ah (aH (cJ cx.hK cx.hu (aK cx (sv 1) (am) (fun _ _=>rfl)) (af)) (ak (a6 nd (oA (oA (sv 5) (af)) (aK cx (sv 1) (am) (fun _ _=>rfl))))) ay)
 (ah (aH (cJ cx.hK cx.hu (bh cx.hK rfl (t.tx.b 0) (aJ t.tx (kI t hB) cx (ac (iD cx.hK (af) (a_ (dh (ac (sv 4) ag)) (sv 2))) ag))) (a_ (am) (bh cx.hK rfl (t.tx.b 0) (sv 2)))) (ak (aA (iV))) ay)
 (ah (aH (SW.st (da (cJ cx.hK cx.hu (aJ t.tx (yR t hB) cx (ac (sv 5) ag)) (aK cx (sv 1) (am) (fun _ _=>rfl))) (bX (cJ cx.hK cx.hu (aJ t.tx (yC t hB) cx (ac (sv 5) ag)) (am))))) (ak (aA (iV))) ay)
 (ak (aA (lv cx.hK cx.hu (bh cx.hK rfl (t.tx.b 0) (aJ t.tx (kI t hB) cx (ac (iD cx.hK (af) (a_ (dh (ac (sv 4) ag)) (sv 2))) ag))) (a_ (am) (bh cx.hK rfl (t.tx.b 0) (sv 2)))))))))))))))
end
end G
namespace G
open PySem L2 PR
def sg(z:Str):List Nat:=z.cps.toList
theorem eA(z:Str):z.length=(sg z).length:=by simp[sg,Str.length]
theorem ku(x y:Str):sg (x++y)=sg x++sg y:=by
 show(x.cps++y.cps).toList=_
 unfold sg
 simp
theorem qQ{x y:Str}(h:sg x=sg y):x=y:=by
 cases x;cases y
 congr 1
 exact Array.toList_inj.mp h
theorem la(x y:Str):(x++y).length=x.length+y.length:=by rw[eA,ku,List.length_append,<- eA,<- eA]
def pos(c:Nat):List Nat->Nat->List Nat
 | [],_=>[]
 | a::r,k=>if a=c then k::pos c r (k+1)else pos c r (k+1)
def spl(c:Nat):List Nat->List Nat->List (List Nat)
 | acc,[]=>[acc]
 | acc,d::r=>if d=c then acc::spl c [] r else spl c (acc++[d]) r
theorem pz(z:Str)(c k:Nat):Builtin.Str.subAt z ⟨#[c]⟩ k=decide (((sg z).drop k).take 1=[c]):=by
 have e:(z.cps.extract k (k+1)).toList=((sg z).drop k).take 1:=by
  have:=StrLaws.strSub_toList z k (k+1)
  rw[show k+1 - k=1 by omega]at this
  exact this
 show(z.cps.extract k (k+1)== #[c])=_
 rw[Bool.eq_iff_iff,decide_eq_true_iff,beq_iff_eq]
 constructor
 ·intro h;rw[<- e,h]
 ·intro h
  apply Array.toList_inj.mp
  rw[e,h]
theorem iG(z:Str)(c:Nat):∀(n k:Nat) (st:Array Nat×Nat),k+n=z.length+1->st.fst.size<=k->st.snd<=k ->
  (forIn (List.range' k n) st (StrLaws.occBody z ⟨#[c]⟩ z.length (z.length+1))).run.fst.toList=st.fst.toList++pos c ((sg z).drop k) k
 | 0,k,st,h,_,_=>by
  have:(sg z).drop k=[]:=List.drop_eq_nil_iff.mpr (by rw[<- eA];omega)
  rw[this]
  simp[pos]
 | n+1,k,st,h,h1,h2=>by
  rw[List.range'_succ,List.forIn_cons]
  unfold StrLaws.occBody
  have hs:=pz z c k
  by_cases hk:k < z.length
  ·have hk':k <(sg z).length:=by rw[<- eA];exact hk
   have hd:(sg z).drop k=(sg z)[k]::(sg z).drop (k+1):=List.drop_eq_getElem_cons hk'
   have ht:((sg z).drop k).take 1=[(sg z)[k]]:=by rw[hd];rfl
   rw[ht]at hs
   by_cases e:(sg z)[k]=c
   ·rw[if_pos ⟨⟨⟨by omega,h2⟩,by show k+1<=_;omega⟩,by rw[hs];simp[e]⟩]
    refine(iG z c n (k+1) (st.fst.push k,k+1) (by omega) (by simp;omega) (Nat.le_refl _)).trans ?_
    rw[hd]
    simp[pos,e]
   ·rw[if_neg (by rw[hs];simp[e])]
    refine(iG z c n (k+1) (st.fst,st.snd) (by omega) (by show st.fst.size<=_;omega) (by show st.snd<=_;omega)).trans ?_
    rw[hd]
    simp[pos,e]
  ·rw[if_neg (fun q=>by have:k+1<=z.length:=q.1.2;omega)]
   refine(iG z c n (k+1) (st.fst,st.snd) (by omega) (by show st.fst.size<=_;omega) (by show st.snd<=_;omega)).trans ?_
   have e1:(sg z).drop k=[]:=List.drop_eq_nil_iff.mpr (by rw[<- eA];omega)
   have e2:(sg z).drop (k+1)=[]:=List.drop_eq_nil_iff.mpr (by rw[<- eA];omega)
   rw[e1,e2]
   simp[pos]
theorem gS(z:Str)(c:Nat):∀(r:List Nat) (a k:Nat),a<=k->r=(sg z).drop k->(StrLaws.partsFrom z 1 a (pos c r k)).map sg=spl c (((sg z).drop a).take (k - a)) r
 | [],a,k,h,e=>by
  have hk:(sg z).length<=k:=List.drop_eq_nil_iff.mp e.symm
  have e1:sg (Builtin.Str.strSub z a z.length)=((sg z).drop a).take (z.length - a):=StrLaws.strSub_toList z a z.length
  show [sg (Builtin.Str.strSub z a z.length)]=[_]
  rw[e1,List.take_of_length_le (by rw[List.length_drop,<- eA];omega),List.take_of_length_le (by rw[List.length_drop];omega)]
 | d::r,a,k,h,e=>by
  have hr:r=(sg z).drop (k+1):=by rw[<- List.tail_drop,<- e];rfl
  by_cases q:d=c
  ·have e1:sg (Builtin.Str.strSub z a k)=((sg z).drop a).take (k - a):=StrLaws.strSub_toList z a k
   simp only[pos,spl,if_pos q]
   show sg (Builtin.Str.strSub z a k)::(StrLaws.partsFrom z 1 (k+1) (pos c r (k+1))).map sg=_
   rw[gS z c r (k+1) (k+1) (Nat.le_refl _) hr,Nat.sub_self,List.take_zero,e1]
  ·simp only[pos,spl,if_neg q]
   rw[gS z c r a (k+1) (by omega) hr]
   have hg:((sg z).drop a)[k - a]?=some d:=by
    rw[List.getElem?_drop,show a+(k - a)=k by omega]
    have:=congrArg List.head? e
    rw[List.head?_drop]at this
    exact this.symm
   rw[show k+1 - a=(k - a)+1 by omega,List.take_add_one,hg]
   rfl
theorem pD(z:Str)(c:Nat)(hc:c < 256):(PySem.Txt.split z ⟨#[c]⟩).map sg=spl c [] (sg z):=by
 have ho:Builtin.Str.occurrences z ⟨#[c]⟩ 0 z.length (z.length+1)=pos c (sg z) 0:=by
  rw[StrLaws.occ_eq]
  have:=iG z c (z.length+1) 0 (#[],0) (by omega) (Nat.le_refl _) (Nat.le_refl _)
  simpa using this
 have kz:¬Builtin.Str.strKind z < Builtin.Str.strKind ⟨#[c]⟩:=by
  have:Builtin.Str.strKind ⟨#[c]⟩=1:=by simp[Builtin.Str.strKind,hc]
  rw[this]
  unfold Builtin.Str.strKind
  split
  ·decide
  ·split<;>decide
 have p:=gS z c (sg z) 0 0 (Nat.le_refl _) rfl
 rw[Nat.sub_self,List.take_zero]at p
 have l1:(⟨#[c]⟩:Str).length=1:=rfl
 unfold PySem.Txt.split
 rw[l1]
 by_cases h0:z.length < 1
 ·rw[if_pos (by simp[h0])]
  have:sg z=[]:=List.length_eq_zero_iff.mp (by rw[<- eA];omega)
  simp[this,spl]
 ·rw[if_neg (by simp[kz];omega),ho]
  by_cases he:pos c (sg z) 0=[]
  ·rw[if_pos (by simp[he])]
   rw[he]at p
   have w:=StrLaws.sub_whole z
   have p':[sg (Builtin.Str.strSub z 0 z.length)]=spl c [] (sg z):=p
   rw[w]at p'
   exact p'
  ·rw[if_neg (by simp[he]),StrLaws.partsBetween_eq]
   exact p
theorem lj{c:Nat}:∀(m acc:List Nat),(∀d∈m,d≠c)->spl c acc m=[acc++m]
 | [],acc,_=>by simp[spl]
 | d::m,acc,h=>by
  rw[spl,if_neg (h d (by simp)),lj m _ fun x hx=>h x (by simp[hx])]
  simp
theorem li{c:Nat}:∀(m acc bf:List Nat),(∀d∈m,d≠c)->spl c acc (m++c::bf)=(acc++m)::spl c [] bf
 | [],acc,bf,_=>by simp[spl]
 | d::m,acc,bf,h=>by
  rw[List.cons_append,spl,if_neg (h d (by simp)),li m _ bf fun x hx=>h x (by simp[hx])]
  simp
theorem ll(c:Nat):∀(ls:List Str),ls≠[]->(∀z∈ls,∀d∈sg z,d≠c)->spl c [] (sg (Str.join ⟨#[c]⟩ ls))=ls.map sg
 | [],h,_=>absurd rfl h
 | [z],_,h=>by
  show spl c [] (sg z)=[sg z]
  rw[lj _ _ (h z (by simp))]
  rfl
 | z::y::r,_,h=>by
  have ih:=ll c (y::r) (by simp) fun x hx=>h x (by simp at hx ⊢;exact .inr hx)
  show spl c [] (sg (z ++⟨#[c]⟩++ Str.join ⟨#[c]⟩ (y::r)))=_
  rw[ku,ku,List.append_assoc,show sg (⟨#[c]⟩:Str)++ sg (Str.join ⟨#[c]⟩ (y::r))=c::sg (Str.join ⟨#[c]⟩ (y::r))from rfl,li _ _ _ (h z (by simp)),ih]
  rfl
theorem mS(c:Nat)(hc:c < 256)(ls:List Str)(h0:ls≠[])(h:∀z∈ls,∀d∈sg z,d≠c):PySem.Txt.split (PySem.Txt.join ⟨#[c]⟩ ls) ⟨#[c]⟩=ls:=by
 have e:PySem.Txt.join ⟨#[c]⟩ ls=Str.join ⟨#[c]⟩ ls:=StrLaws.glued_eq_join _ _
 have:=pD (PySem.Txt.join ⟨#[c]⟩ ls) c hc
 rw[e,ll c ls h0 h]at this
 rw[e]
 exact(List.map_inj_right fun _ _ q=>qQ q).mp this
theorem jo(c:Nat)(n:Nat):∀(ls:List Str),(∀z∈ls,z.length<=n)->(Str.join ⟨#[c]⟩ ls).length<=ls.length * (n+1)
 | [],_=>by simp[Str.join,Str.length,Str.empty]
 | [z],h=>by
  show z.length<=1 * (n+1)
  have:=h z (by simp)
  omega
 | z::y::r,h=>by
  have ih:=jo c n (y::r) fun x hx=>h x (by simp at hx ⊢;exact .inr hx)
  show(z ++⟨#[c]⟩++ Str.join ⟨#[c]⟩ (y::r)).length <=(r.length+1+1) * (n+1)
  have l1:(⟨#[c]⟩:Str).length=1:=rfl
  rw[la,la,l1]
  have:=h z (by simp)
  have e:(y::r).length=r.length+1:=rfl
  rw[e]at ih
  have e2:(r.length+1+1) * (n+1)=(r.length+1) * (n+1)+(n+1):=Nat.succ_mul _ _
  omega
def cell(ns:List Int)(k:Nat):Int:=ns.getD k 0
theorem vY{fl:Fl}(ns:List Int)(k:Nat)(h:Scr fl):o6 [.lst fl (iL ns),.int k]=.ok (.int (cell ns k)):=by
 refine cM ?_
 show tU [some (.lst fl (iL ns)),some (.int k)]=_
 unfold tU cell
 by_cases hk:k < ns.length
 ·refine ut (nR (by simp[h.lend,hk]) (jY ?_ (by simp)))
  simp only[dJ,bx]
  simp[h.lend]
  rw[sS ns (by omega) (n:=ns.getD k 0) (by simp[hk])]
  simp[hk]
 ·refine aG (mF (by simp[h.lend,hk]) dI) (jY (by simp[List.getElem?_eq_none (Nat.le_of_not_lt hk)]) (by simp))
def sL(zs:List Str):List PV:=zs.map .str
@[simp] theorem kA(zs:List Str):(sL zs).length=zs.length:=by simp[sL]
@[simp] theorem rj(g:Fl->Fl):∀zs:List Str,mapL g (sL zs)=sL zs
 | []=>by simp[sL,mapL]
 | z::zs=>by
  show mapL g (.str z::sL zs)=.str z::sL zs
  rw[a8,rj g zs,dS]
@[simp] theorem xD(p:Fl->Bool):∀zs:List Str,hasL p (sL zs)=false
 | []=>by simp[sL,hasL]
 | z::zs=>by
  show hasL p (.str z::sL zs)=false
  rw[hZ,xD p zs,vI]
  rfl
theorem oB:∀zs:List Str,fJ (sL zs)=some zs
 | []=>rfl
 | z::zs=>by
  show(fJ (sL zs)).map (z::·)=_
  rw[oB zs]
  rfl
theorem jr{f:Fl}{i:Int}{zs:List Str}{z:Str}(h0:0<=i)(h:zs[i.toNat]?=some z):az (.lst f (sL zs)) (.int i)=.ok (.str z):=by
 have hl:i.toNat < zs.length:=(List.getElem?_eq_some_iff.mp h).1
 unfold az
 simp only[bA,atI,ixN,kA,h0,if_true]
 rw[if_pos (by omega)]
 simp[sL,h]
mutual
def oF:PV->Bool
 | .lst .frz xs=>oFL xs
 | .lst _ _=>false
 | .tup xs=>oFL xs
 | .obj _ _ _ _=>false
 | _=>true
def oFL:List PV->Bool
 | []=>true
 | x::xs=>oF x&&oFL xs
end
mutual
theorem bD{g:Fl->Fl}(hg:g .frz=.frz):∀v:PV,oF v=true->v.mapF g=v
 | .lst .frz xs,h=>by unfold oF at h;rw[bQ,hg,oFL_map hg xs h]
 | .lst .own _,h | .lst .bor _,h | .lst .lnt _,h | .lst .mod _,h=>by simp[oF]at h
 | .tup xs,h=>by unfold oF at h;rw[e_,oFL_map hg xs h]
 | .obj _ _ _ _,h=>by simp[oF]at h
 | .non,_ | .bl _,_ | .int _,_ | .str _,_ | .exc _,_=>by simp
theorem oFL_map{g:Fl->Fl}(hg:g .frz=.frz):∀xs:List PV,oFL xs=true->mapL g xs=xs
 | [],_=>by simp
 | x::xs,h=>by
  unfold oFL at h
  rw[Bool.and_eq_true]at h
  rw[a8,bD hg x h.1,oFL_map hg xs h.2]
end
mutual
theorem ef{p:Fl->Bool}(hp:p .frz=false):∀v:PV,oF v=true->v.has p=false
 | .lst .frz xs,h=>by unfold oF at h;rw[gB,hp,oFL_has hp xs h];rfl
 | .lst .own _,h | .lst .bor _,h | .lst .lnt _,h | .lst .mod _,h=>by simp[oF]at h
 | .tup xs,h=>by unfold oF at h;rw[vH,oFL_has hp xs h]
 | .obj _ _ _ _,h=>by simp[oF]at h
 | .non,_ | .bl _,_ | .int _,_ | .str _,_ | .exc _,_=>by simp
theorem oFL_has{p:Fl->Bool}(hp:p .frz=false):∀xs:List PV,oFL xs=true->hasL p xs=false
 | [],_=>by simp
 | x::xs,h=>by
  unfold oFL at h
  rw[Bool.and_eq_true]at h
  rw[hZ,ef hp x h.1,oFL_has hp xs h.2]
  rfl
end
theorem er:∀xs:List PV,oFL xs=xs.all oF
 | []=>rfl
 | x::xs=>by unfold oFL;rw[List.all_cons,er xs]
def vl(z:Str):PV:=match dY [.str z]with
 | .ok v=>v
 | _=>.non
def vf(z:Str):PV:=(vl z).mapF Fl.freeze
def kd(z:Str):Str:=match vl z with
 | .tup (.str k::_)=>k
 | _ => ""
def shO(z:Str):Bool:=match vf z with
 | .tup (.str k::xs)=>decide (k=kd z)&&oFL xs&&shp (.str k)
 | _=>false
def y9(z:Str):Bool:=match dY [.str z]with
 | .ok v=>!v.has Fl.isBor&&!v.has Fl.isLnt
 | _=>false
def sP(z:Str):Bool:=match dY [.str z]with
 | .exc 5=>true
 | _=>false
def plain(z:Str):Bool:=(sg z).all (fun c=>decide (c≠10))&&decide (z.length<=100)
structure Pl(z:Str):Prop where
 nl:∀d∈sg z,d≠10
 len:z.length<=100
structure Ln(z:Str):Prop extends Pl z where
 rd:dY [.str z]=.ok (vl z)
 bor:(vl z).has Fl.isBor=false
 lnt:(vl z).has Fl.isLnt=false
 sh:∃xs,vf z=.tup (.str (kd z)::xs)/\oFL xs=true
 ks:shp (.str (kd z))=true
theorem ge{z:Str}(h:plain z=true):Pl z:=by
 simp only[plain,Bool.and_eq_true,List.all_eq_true,decide_eq_true_eq]at h
 exact⟨h.1,h.2⟩
theorem dw{z:Str}(h:(y9 z&&plain z&&shO z)=true):Ln z:=by
 rw[Bool.and_eq_true,Bool.and_eq_true]at h
 obtain⟨⟨h1,h2⟩,h3⟩:=h
 unfold y9 at h1
 unfold shO at h3
 cases e:dY [.str z]with
 | ok v =>
  rw[e]at h1
  simp only[Bool.and_eq_true,Bool.not_eq_true']at h1
  have hv:vl z=v:=by unfold vl;rw[e]
  split at h3
  ·rename_i k xs ev
   simp only[Bool.and_eq_true,decide_eq_true_eq]at h3
   obtain⟨⟨q1,q2⟩,q3⟩:=h3
   exact⟨ge h2,by rw[hv];exact e,by rw[hv];exact h1.1,by rw[hv];exact h1.2,⟨xs,by rw[ev,q1],q2⟩,by rw[<- q1];exact q3⟩
  ·cases h3
 | exc c | stuck=>rw[e]at h1;cases h1
theorem zL{z:Str}(h:sP z=true):dY [.str z]=.exc 5:=by
 unfold sP at h
 cases e:dY [.str z]with
 | ok v | stuck=>rw[e]at h;cases h
 | exc c =>
  rw[e]at h
  match c,h with
  | 5,_=>rfl
theorem Ln.of{z:Str}(h:Ln z):oF (vf z)=true:=by
 obtain⟨xs,e,q⟩:=h.sh
 rw[e]
 simp[oF,oFL,q]
theorem se:("\n" : Str)=⟨#[10]⟩:=by decide +kernel
theorem lh{env:En}{ls:List Str}(h0:ls≠[])(hl:ls.length<=30)(hn:∀z∈ls,Pl z)(he:env[0]?=some (some (.str (PySem.Txt.join ⟨#[10]⟩ ls)))) :
  cr (mMt ee (ad 0) (mC (.str "\n"))) env=.ok (sL ls):=by
 have hb:=jo 10 100 ls fun z hz=>(hn z hz).len
 have e:PySem.Txt.join ⟨#[10]⟩ ls=Str.join ⟨#[10]⟩ ls:=StrLaws.glued_eq_join _ _
 have hj:(PySem.Txt.join ⟨#[10]⟩ ls).length<=10000:=by
  rw[e]
  omega
 have hs:=mS 10 (by decide) ls h0 fun z hz=>(hn z hz).nl
 have ep:ee (PySem.Txt.join ⟨#[10]⟩ ls) (.str "\n")=.ok (.lst .own (sL ls)):=by
  unfold ee
  dsimp only
  rw[se,if_pos ⟨by decide,by omega⟩,hs]
  rfl
 have em:mMt ee (ad 0) (mC (.str "\n")) env=.ok (.lst .own (sL ls)):=by
  unfold mMt
  rw[bx,he]
  simp only[a5,dS,Res.ok_bind,ib]
  exact ep
 rw[vQ,em]
 rfl
theorem iY{z:Str}{env:En}(h:env[0]?=some (some (.str z))):ao (ax dY) (aa (ad 0) aj) env=(dY [.str z]).bind cU:=by
 simp only[cH,cw,dy,bx,h]
 simp
theorem j_{g:TgM}{me:ME}{env:En}{α:Type}{a f:α->PV}{c:Nat}{x:α}{post:List α}(hx:∃e1,g (a x).borrow env=some e1/\me e1=.exc c):∀(pre:List α),(∀x∈pre,∃e1,g (a x).borrow env=some e1/\me e1=.ok (f x)/\(f x).has Fl.isBor=false/\(f x).has Fl.isLnt=false)->
  b_ g bG me env ((pre++x::post).map a)=.exc c
 | [],_=>by
  obtain⟨e1,h1,h2⟩:=hx
  rw[List.nil_append,List.map_cons,b_,h1]
  simp only[kT,Res.ok_bind,if_true,h2]
  rfl
 | y::pre,h=>by
  obtain⟨e1,h1,h2,h3,h4⟩:=h y List.mem_cons_self
  rw[List.cons_append,List.map_cons,b_,h1]
  simp only[kT,Res.ok_bind,if_true,h2,h3,h4,Bool.or_self,Bool.false_eq_true,if_false,j_ hx pre fun z hz=>h z (List.mem_cons_of_mem _ hz)]
  rfl
theorem gK{p:Fl->Bool}:∀{ls:List Str},(∀z∈ls,(vl z).has p=false)->hasL p (ls.map vl)=false
 | [],_=>by simp
 | z::ls,h=>by
  rw[List.map_cons,hZ,h z (by simp),gK fun y hy=>h y (by simp[hy])]
  rfl
theorem mM:∀ls:List Str,mapL Fl.freeze (ls.map vl)=ls.map vf
 | []=>by simp
 | z::ls=>by rw[List.map_cons,a8,mM ls];rfl
theorem qu{ls:List Str}(h:∀z∈ls,Ln z):oFL (ls.map vf)=true:=by
 rw[er,List.all_eq_true]
 intro v hv
 obtain⟨z,hz,rfl⟩:=List.mem_map.mp hv
 exact(h z hz).of
theorem n5{ls:List Str}(h0:ls≠[])(hl:ls.length<=30)(h:∀z∈ls,Ln z):mq [.str (PySem.Txt.join ⟨#[10]⟩ ls)]=.ok (.lst .own (ls.map vl)):=by
 refine cM ?_
 show mG [some (.str _)]=_
 unfold mG
 refine jY ?_ (by simp[gK fun z hz=>(h z hz).lnt])
 unfold et
 rw[lh h0 hl (fun z hz=>(h z hz).toPl) rfl]
 simp only[Res.ok_bind,kA]
 rw[if_pos (by omega),show sL ls=ls.map PV.str from rfl,ie (f:=vl) ls fun z hz=>⟨[some (.str z)],by simp[tgN,bO,cA,PV.borrow,b0],?_,(h z hz).bor,(h z hz).lnt⟩]
 ·rfl
 ·rw[iY rfl,(h z hz).rd]
  simp[cU,(h z hz).bor]
theorem qC{pre post:List Str}{x:Str}(hl:pre.length+post.length<=28)(h1:∀z∈pre,Ln z)(h2:∀z∈post,Pl z)(hp:Pl x)(hx:dY [.str x]=.exc 5):mq [.str (PySem.Txt.join ⟨#[10]⟩ (pre++x::post))]=.exc 5:=by
 refine di (e:=[some (.str (PySem.Txt.join ⟨#[10]⟩ (pre++x::post)))]) ?_
 show mG [some (.str (PySem.Txt.join ⟨#[10]⟩ (pre++x::post)))]=_
 unfold mG
 refine uJ ?_
 unfold et
 rw[lh (by simp) (by simp;omega) (fun z hz=>?_) rfl]
 ·simp only[Res.ok_bind,kA]
  rw[if_pos (by simp;omega),show sL (pre++x::post)=(pre++x::post).map PV.str from rfl,j_ (f:=vl) (c:=5) ⟨[some (.str x)],by simp[tgN,bO,cA,PV.borrow,b0],?_⟩ pre fun z hz=>⟨[some (.str z)],by simp[tgN,bO,cA,PV.borrow,b0],?_,(h1 z hz).bor,(h1 z hz).lnt⟩]
  ·rfl
  ·rw[iY rfl,hx]
   rfl
  ·rw[iY rfl,(h1 z hz).rd]
   simp[cU,(h1 z hz).bor]
 ·rcases List.mem_append.mp hz with q | q
  ·exact(h1 z q).toPl
  ·rcases List.mem_cons.mp q with rfl | q
   ·exact hp
   ·exact h2 z q
theorem oO{env:En}{m:ME}{f:Fl}{ls:List Str}(hl:ls.length<=30)(hn:∀z∈ls,z.length<=100)(hm:m env=.ok (.lst f (sL ls))):mMt eX (mC (.str "\n")) m env=.ok (.str (PySem.Txt.join ⟨#[10]⟩ ls)):=by
 unfold mMt
 rw[ib,hm]
 simp only[Res.ok_bind]
 unfold eX
 dsimp only
 rw[oB]
 dsimp only
 rw[se,if_pos]
 unfold JoinOk
 rw [StrLaws.joinFits (B:=100) hn (by
  have:(⟨#[10]⟩:Str).length=1:=rfl
  rw[this]
  omega)]
 rfl
theorem rh{a b:Str}(ha:shp (.str a)=true)(hb:shp (.str b)=true):pEq (.str a) (.str b)=.ok (.bl (decide (a=b)))/\pNe (.str a) (.str b)=.ok (.bl (!decide (a=b))):=by
 have:PyData.eqv (PV.str a).data (PV.str b).data=decide (a=b):=by
  simp only[PV.data,PyData.eqv]
  by_cases h:a=b<;>simp[h]
 constructor
 ·unfold pEq;rw[ha,hb,this];rfl
 ·unfold pNe;rw[ha,hb,this];rfl
theorem Dt(zs:List Str)(h:∀z∈zs,shp (.str z)=true):(sL zs).all shp=true:=by
 rw[List.all_eq_true]
 intro v hv
 obtain⟨z,hz,rfl⟩:=List.mem_map.mp hv
 exact h z hz
theorem wH{a:Str}{zs:List Str}(ha:shp (.str a)=true)(h:∀z∈zs,shp (.str z)=true):du (.str a) (.tup (sL zs))=.ok (.bl (!zs.contains a)):=by
 unfold du
 simp only[bA]
 rw[ha,Dt zs h]
 have:inL (.str a) (sL zs)=zs.contains a:=by
  unfold inL sL
  rw[List.any_map,Bool.eq_iff_iff,List.any_eq_true,List.contains_iff_mem]
  constructor
  ·rintro⟨z,hz,q⟩
   have:z=a:=by simpa[PV.data,PyData.eqv]using q
   rw[<- this];exact hz
  ·intro hz
   exact⟨a,hz,by simp[PV.data,PyData.eqv]⟩
 rw[this]
 rfl
def vm:List Str:=["paint", "far", "lead", "grow"]
def v7:List Str:=["pass", "count", "table"]
def doi:List Str:=["turn", "spoil", "may", "measure", "look"]
theorem kK:∀z∈vm++v7++doi ++(["net", "state"]:List Str),shp (.str z)=true:=by
 have:(vm++v7++doi ++(["net", "state"]:List Str)).all (fun z=>shp (.str z))=true:=by decide +kernel
 exact List.all_eq_true.mp this
def st(ks:List Str):Nat:=if ks.headD "" = "net" then 2 else 1
def ro(ks:List Str):Bool:=decide (st ks < ks.length)&&decide (ks.getD (st ks) "" = "state")&&(if ks.headD "" = "net" then vm else v7).contains (ks.getD (st ks - 1) "")&&(ks.drop (st ks+1)).all fun k=>doi.contains k
theorem d3{ls:List Str}(h:∀z∈ls,Ln z)(g:Fl->Fl)(hg:g .frz=.frz):mapL g (ls.map vf)=ls.map vf:=oFL_map hg _ (qu h)
theorem xi{ls:List Str}(h:∀z∈ls,Ln z){i:Nat}{z:Str}(hz:ls[i]?=some z)(f:Fl):az (.lst f (ls.map vf)) (.int i)=.ok (vf z) :=
 eC rfl (by simp[hz]) (ef rfl _ (h z (List.mem_of_getElem? hz)).of)
theorem wg{z:Str}(h:Ln z):az (vf z) (.int 0)=.ok (.str (kd z)):=by
 obtain⟨xs,e,_⟩:=h.sh
 rw[e]
 exact eC (k:=0) rfl rfl rfl
theorem wF:shp (.str "net")=true:=kK _ (by decide +kernel)
theorem vA:shp (.str "state")=true:=kK _ (by decide +kernel)
theorem lf{z:Str}{ls:List Str}(h:∀y∈z::ls,Ln y):oY [.lst .frz ((z::ls).map vf)]=.ok (.int (st ((z::ls).map kd))):=by
 have hz:=h z List.mem_cons_self
 refine cM ?_
 show tQ [some (.lst .frz ((z::ls).map vf))]=_
 unfold tQ
 refine jY ?_ (by simp)
 have m:=d3 h Fl.lend rfl
 have i0:=xi h (i:=0) (z:=z) rfl .frz
 have i1:=wg hz
 have e1:=(rh hz.ks wF).1
 have e:(mOp pEq (mOp az (mOp az (ad 0) (mC (.int 0))) (mC (.int 0))) (mC (.str "net"))) [some (.lst .frz ((z::ls).map vf))]=.ok (.bl (decide (kd z = "net"))):=by
  simp only[dJ,bx,ib,List.getElem?_cons_zero,a5,bQ,fh,m,Res.ok_bind]
  rw[show(0:Int)=((0:Nat):Int)from rfl,i0]
  simp only[Res.ok_bind]
  rw[show((0:Nat):Int)=0 from rfl,i1]
  simp only[Res.ok_bind,e1]
 simp only[zr,eD,e]
 unfold st
 by_cases q:kd z = "net"
 ·simp[q]
 ·simp[q]
theorem lM{z:Str}{ls':List Str}(hl:ls'.length<=29)(h':∀y∈z::ls',Ln y):zh [.lst .frz ((z::ls').map vf)]=if ro ((z::ls').map kd)then .ok .non else .exc 5:=by
 have sa:=lf h'
 obtain⟨ls,hls⟩:∃ls,z::ls'=ls:=⟨_,rfl⟩
 have hl2:ls.length<=30:=by rw[<- hls];simp;omega
 rw[hls]at sa h' ⊢
 obtain⟨K,hK⟩:∃K,ls.map kd=K:=⟨_,rfl⟩
 have hKl:K.length=ls.length:=by rw[<- hK];simp
 have hKs:∀k∈K,shp (.str k)=true:=fun k hk=>by
  rw[<- hK]at hk
  obtain⟨y,hy,rfl⟩:=List.mem_map.mp hk
  exact(h' y hy).ks
 rw[hK]at sa ⊢
 have hh:K.headD "" = kd z:=by rw[<- hK,<- hls];rfl
 have hk0:K[0]?=some (kd z):=by rw[<- hK,<- hls];rfl
 have m1:=d3 h' Fl.lend rfl
 have m2:=d3 h' Fl.toBor rfl
 have key:∃e,zM [some (.lst .frz (ls.map vf)),none,none,none,none]=if ro K then .next e else .exc 5 e:=by
  unfold zM
  have c1:bz [] 1 (cr (ad 0)) (tgN 0) bG (mOp az (ad 0) (mC (.int (0)))) [some (.lst .frz (ls.map vf)),none,none,none,none]=.ok (.lst .own (sL K)):=by
   refine vW (xs:=ls.map vf) (by simp[m1]) (by simp;omega) ?_
   rw[show sL K=ls.map fun y=>PV.str (kd y) by rw[<- hK];simp[sL]]
   refine ie (a:=vf) (f:=fun y=>.str (kd y)) ls fun y hy=>⟨[some (vf y)],?_,?_,by simp,by simp⟩
   ·have:(vf y).borrow=vf y:=bD (g:=Fl.borrow) rfl _ (h' y hy).of
    rw[this]
    obtain⟨xs,e,_⟩:=(h' y hy).sh
    rw[e]
    rfl
   ·simp only[dJ,bx,ib,List.getElem?_cons_zero,a5,Res.ok_bind]
    rw[bD (g:=Fl.lend) rfl _ (h' y hy).of,wg (h' y hy)]
  refine Exists.imp (fun _ q=>aG (bw c1 (by simp) rfl) q) ?_
  simp only[s0_,s1_]
  refine Exists.imp (fun _ q=>aG (bw (v:=.int (st K)) (by simp[m1,m2,sa,cU]) (by simp) rfl) q) ?_
  simp only[s0_,s1_]
  obtain ⟨rs,hrs,rsh⟩:∃ rs:List Str,(if K.headD "" = "net" then vm else v7)=rs/\∀ k ∈ rs,shp (.str k)=true:=⟨_,rfl,fun k hk=>kK k (by
   split at hk<;>simp[hk])⟩
  have i0:∀f,az (.lst f (sL K)) (.int 0)=.ok (.str (kd z)):=fun f=>jr (by omega) hk0
  have e1:=(rh (hKs _ (List.mem_of_getElem? hk0)) wF).1
  refine Exists.imp (fun _ q=>aG (bw (v:=.tup (sL rs)) ?_ (by simp) rfl) q) ?_
  ·rw[<- hrs,hh]
   cases q:decide (kd z = "net")with
   | true=>rw[q]at e1;rw[if_pos (of_decide_eq_true q)];simp[i0,e1];rfl
   | false=>rw[q]at e1;rw[if_neg (of_decide_eq_false q)];simp[i0,e1];rfl
  simp only[s0_,s1_]
  unfold ro
  rw[hrs]
  by_cases q1:st K < K.length
  ·obtain⟨k1,hk1⟩:∃k1,K[st K]?=some k1:=⟨_,List.getElem?_eq_getElem q1⟩
   have i1:∀f,az (.lst f (sL K)) (.int (st K))=.ok (.str k1):=fun f=>jr (by omega) (by simpa using hk1)
   have e2:=(rh (hKs _ (List.mem_of_getElem? hk1)) vA).2
   have g1:K.getD (st K) "" = k1:=by simp[List.getD_eq_getElem?_getD,hk1]
   rw[g1,decide_eq_true q1,Bool.true_and]
   by_cases q2:k1 = "state"
   ·rw[decide_eq_true q2]at e2
    rw[decide_eq_true q2,Bool.true_and]
    refine Exists.imp (fun _ q=>aG (mF (by simp[i1,e2];omega) dI) q) ?_
    have s12:st K=1\/st K=2:=by unfold st;split<;>simp
    obtain⟨k2,hk2⟩:∃k2,K[st K - 1]?=some k2:=⟨_,List.getElem?_eq_getElem (by omega)⟩
    have i2:∀f,az (.lst f (sL K)) (.int ((st K:Int) - 1))=.ok (.str k2):=fun f=>jr (by omega) (by rw[show((st K:Int) - 1).toNat=st K - 1 by omega];exact hk2)
    have g2:K.getD (st K - 1) "" = k2:=by simp[List.getD_eq_getElem?_getD,hk2]
    have e3:=wH (hKs _ (List.mem_of_getElem? hk2)) rsh
    rw[g2]
    by_cases q3:rs.contains k2=true
    ·rw[q3,Bool.true_and]
     refine Exists.imp (fun _ q=>aG (mF (by simp only[eD,dJ,bx,ib];simp[i2,e3];simpa using q3) dI) q) ?_
     have cu:iz (sL K) (some ((st K:Int)+1)) none=sL (K.drop (st K+1)):=by
      have:=mw (sL K) (st K+1) (by simp;omega)
      rw[show((st K+1:Nat):Int)=(st K:Int)+1 by omega]at this
      rw[this]
      simp[sL]
     refine oW (fun k e=>∃x4,e=[some (.lst .frz (ls.map vf)),some (.lst .own (sL K)),some (.int (st K)),some (.tup (sL rs)),x4]/\((K.drop (st K+1)).take k).all (fun k=>doi.contains k)=true) (fun o=>∃e,o=if(K.drop (st K+1)).all (fun k=>doi.contains k)then .next e else .exc 5 e) (xs:=sL (K.drop (st K+1))) ?_ ⟨none,rfl,rfl⟩ (fun k x e hx hP=>?_) (fun e hP=>?_)
     ·refine lr (f:=.own) ?_ rfl (by simp) (by simp)
      simp only[mr,dJ,o8,j7,bx,ib,List.getElem?_cons_zero,List.getElem?_cons_succ,a5,bQ,rj,jf,Res.ok_bind,j1,lL,lE,cu]
     ·obtain⟨x4,rfl,hP⟩:=hP
      unfold sL at hx
      rw[List.getElem?_map]at hx
      obtain⟨y,hy,rfl⟩:=Option.map_eq_some_iff.mp hx
      have ys:shp (.str y)=true:=hKs y (List.mem_of_mem_drop (List.mem_of_getElem? hy))
      have e4:=wH (zs:=doi) ys fun k hk=>kK k (by simp[hk])
      have e4':du (.str y) (.tup [.str "turn", .str "spoil", .str "may", .str "measure", .str "look"])=.ok (.bl (!doi.contains y)):=e4
      refine⟨_,qB rfl,?_⟩
      simp only[s0_,s1_]
      by_cases q4:doi.contains y=true
      ·refine .inl ⟨_,.inl (mF (by simp only[eD,dJ,bx,ib];simp[e4'];simpa using q4) dI),_,rfl,?_⟩
       rw[List.take_succ,hy,List.all_append,hP]
       simpa using q4
      ·refine .inr (.inr (.inr ⟨5,_,nR (by simp only[eD,dJ,bx,ib];simp[e4'];simpa using q4) (fv (xs:=[.str _]) rfl),_,(if_neg fun w=>q4 (List.all_eq_true.mp w y (List.mem_of_getElem? hy))).symm⟩))
     ·obtain⟨x4,rfl,hP⟩:=hP
      rw[kA,List.take_length]at hP
      exact⟨_,(if_pos hP).symm⟩
    ·exact⟨_,(dG (c:=5) (nR (by simp only[eD,dJ,bx,ib];simp[i2,e3];simpa using q3) (fv (xs:=[.str _]) rfl))).trans (if_neg (by rw[Bool.eq_false_iff.mpr q3];simp)).symm⟩
   ·rw[decide_eq_false q2]at e2
    exact⟨_,(dG (c:=5) (nR (by simp[i1,e2]) (fv (xs:=[.str _]) rfl))).trans (if_neg (by rw[decide_eq_false q2];simp)).symm⟩
  ·exact⟨_,(dG (c:=5) (nR (by simp;exact fun w=>absurd w q1) (fv (xs:=[.str _]) rfl))).trans (if_neg (by rw[decide_eq_false q1];simp)).symm⟩
 obtain⟨e,he⟩:=key
 cases hr:ro K with
 | true=>rw[hr]at he;exact pJ he
 | false=>rw[hr]at he;exact di he
def dM:MS :=
 (ap (aD 3 (ao (ax dX) (aa (cq (ad 1) bS (cV (ad 2))) aj)))
 (ap (aD 4 (cQ aL (ad 3) (aa (mOp az (mOp az (ad 1) (ad 2)) (mC (.int (1)))) aj)))
 (ap (dW 4) (ap (aD 5 (aZ (aa (ao (ax gD) (aa (ad 3) (aa (ad 4) aj))) aj)))
 (ap (cv (b9 (cq (ad 1) (cV (mOp aM (ad 2) (mC (.int (1))))) bS)) (tgN 6)
  (ap (aD 7 (ao (ax fD) (aa (ad 3) (aa (ad 4) (aa (ad 6) aj)))))
 (ap (dW 7) (ap (aD 4 (mOp az (ad 7) (mC (.int (1)))))
 (bE 5 (ao (ax fk) (aa (ad 3) (aa (ad 7) (aa (ad 6) aj)))))))))
 (cN 5))))))
theorem rM{t:Str}(h:mq [.str t]=.exc 5):be [.str t]=.exc 5:=by
 refine di (e:=[some (.str t),none,none,none,none,none,none,none]) ?_
 show fF [some (.str t),none,none,none,none,none,none,none]=_
 unfold fF
 exact dG (iC (by simp[h]))
section
variable{z:Str}{ls:List Str}
theorem rK(hl:ls.length<=29)(h:∀y∈z::ls,Ln y)(hr:ro ((z::ls).map kd)=true) :
  fF [some (.str (PySem.Txt.join ⟨#[10]⟩ (z::ls))),none,none,none,none,none,none,none]=dM [some (.str (PySem.Txt.join ⟨#[10]⟩ (z::ls))),some (.lst .frz ((z::ls).map vf)),some (.int (st ((z::ls).map kd))),none,none,none,none,none]:=by
 have rt:=n5 (by simp) (by simp;omega) h
 have oo:=lM hl h
 rw[hr,if_pos rfl]at oo
 have so:=lf h
 unfold fF
 refine aG (bw (v:=.lst .own ((z::ls).map vl)) ?_ (by simp only[lN,gB];rw[gK fun y hy=>(h y hy).lnt];rfl) rfl) ?_
 ·simp only[cH,cw,dy,bx,List.getElem?_cons_zero,a5,dS,Res.ok_bind,cB,a8,bP,rt]
  unfold cU
  rw[gB,gK fun y hy=>(h y hy).bor]
  rfl
 simp only[s0_,s1_]
 refine aG (jt (v:=.lst .own ((z::ls).map vl)) rfl) ?_
 simp only[s0_,s1_,bQ,mM,fX]
 have m1:=d3 h Fl.lend rfl
 have m2:=d3 h Fl.toBor rfl
 generalize(z::ls).map vf=L at *
 refine aG (vV (v:=.non) (by simp[m1,m2,oo,cU])) ?_
 refine aG (bw (v:=.int (st ((z::ls).map kd))) (by simp[m1,m2,so,cU]) (by simp) rfl) ?_
 rfl
theorem m9(hl:ls.length<=29)(h:∀y∈z::ls,Ln y)(hr:ro ((z::ls).map kd)=false):be [.str (PySem.Txt.join ⟨#[10]⟩ (z::ls))]=.exc 5:=by
 have rt:=n5 (by simp) (by simp;omega) h
 have oo:=lM hl h
 rw[hr,if_neg (by decide)]at oo
 refine di (e:=[some (.str (PySem.Txt.join ⟨#[10]⟩ (z::ls))),some (.lst .frz ((z::ls).map vf)),none,none,none,none,none,none]) ?_
 show fF [some (.str (PySem.Txt.join ⟨#[10]⟩ (z::ls))),none,none,none,none,none,none,none]=_
 unfold fF
 refine aG (bw (v:=.lst .own ((z::ls).map vl)) ?_ (by simp only[lN,gB];rw[gK fun y hy=>(h y hy).lnt];rfl) rfl) ?_
 ·simp only[cH,cw,dy,bx,List.getElem?_cons_zero,a5,dS,Res.ok_bind,cB,a8,bP,rt]
  unfold cU
  rw[gB,gK fun y hy=>(h y hy).bor]
  rfl
 simp only[s0_,s1_]
 refine aG (jt (v:=.lst .own ((z::ls).map vl)) rfl) ?_
 simp only[s0_,s1_,bQ,mM,fX]
 have m1:=d3 h Fl.lend rfl
 have m2:=d3 h Fl.toBor rfl
 generalize(z::ls).map vf=L at *
 exact dG (jw (by simp[m1,m2,oo]))
end
def bo(R:PV):PV:=(R.mapF Fl.lend).mapF Fl.toBor
theorem cut_to(xs:List PV)(k:Nat)(h:k<=xs.length):iz xs none (some (k:Int))=xs.take k:=by
 unfold iz
 rw[HT.sIx_nat,HT.sIx_none]
 rw[Nat.min_eq_left h]
 simp
section
variable{x0:Option PV}{A r:List PV}{s it R C:PV}{n c:Nat}
theorem vJ(hA:A.length=n)(hf:oFL (A++s::r)=true)(h:dX [.lst .own A]=.exc c):∃e,dM [x0,some (.lst .frz (A++s::r)),some (.int n),none,none,none,none,none]=.exc c e:=by
 have m1:=oFL_map (g:=Fl.lend) rfl _ hf
 have cu:=cut_to (A++s::r) n (by simp;omega)
 rw[List.take_left' hA]at cu
 have mA:mapL Fl.toBor A=A:=by
  refine oFL_map rfl _ ?_
  rw[er]at hf ⊢
  rw[List.all_append]at hf
  exact(Bool.and_eq_true_iff.mp hf).1
 unfold dM
 exact⟨_,dG (iC (by simp[m1,cu,mA,h]))⟩
structure Sh(R C:PV)(z1 z2 z3:Str):Prop where
 rb:R.has Fl.isBor=false
 rl:R.has Fl.isLnt=false
 cf:oF C=true
 sh:gD [bo R,C]=.ok (.str z1)
 m1:fD [bo R,C,vf "may"]=.ok (.tup [.lst .own [],C])
 m2:fk [bo R,.tup [.lst .frz [],C],vf "may"]=.ok (.str z2)
 t1:fD [bo R,C,vf "turn"]=.ok (.tup [.lst .frz [],C])
 t2:fk [bo R,.tup [.lst .frz [],C],vf "turn"]=.ok (.str z3)
theorem oS{C0:Res PV}(hA:A.length=n)(hf:oFL (A++s::r)=true)(h:dX [.lst .own A]=.ok R)(rb:R.has Fl.isBor=false)(rl:R.has Fl.isLnt=false)(hs:az s (.int 1)=.ok it)(hC:kG aL (.ok [it]) (R.mapF Fl.lend)=C0) :
  dM [x0,some (.lst .frz (A ++ s::r)),some (.int n),none,none,none,none,none]=ap (aD 4 (fun _=>C0)) (ap (dW 4) (ap (aD 5 (aZ (aa (ao (ax gD) (aa (ad 3) (aa (ad 4) aj))) aj)))
 (ap (cv (b9 (cq (ad 1) (cV (mOp aM (ad 2) (mC (.int (1))))) bS)) (tgN 6)
  (ap (aD 7 (ao (ax fD) (aa (ad 3) (aa (ad 4) (aa (ad 6) aj)))))
 (ap (dW 7) (ap (aD 4 (mOp az (ad 7) (mC (.int (1)))))
 (bE 5 (ao (ax fk) (aa (ad 3) (aa (ad 7) (aa (ad 6) aj)))))))))
 (cN 5)))) [x0,some (.lst .frz (A++s::r)),some (.int n),some R,none,none,none,none]:=by
 have m1:=oFL_map (g:=Fl.lend) rfl _ hf
 have cu:=cut_to (A++s::r) n (by simp;omega)
 rw[List.take_left' hA]at cu
 have mA:mapL Fl.toBor A=A:=by
  refine oFL_map rfl _ ?_
  rw[er]at hf ⊢
  rw[List.all_append]at hf
  exact(Bool.and_eq_true_iff.mp hf).1
 have fs:oF s=true:=by
  rw[er,List.all_append,List.all_cons]at hf
  exact(Bool.and_eq_true_iff.mp (Bool.and_eq_true_iff.mp hf).2).1
 have ix:az (.lst .frz (A++s::r)) (.int n)=.ok s:=eC rfl (by rw[<- hA];simp) (ef rfl _ fs)
 unfold dM
 refine aG (bw (v:=R) (by simp[m1,cu,mA,h,cU,rb]) (by simp[rl]) rfl) ?_
 simp only[s0_,s1_]
 have ev:cQ aL (ad 3) (aa (mOp az (mOp az (ad 1) (ad 2)) (mC (.int (1)))) aj) [x0,some (.lst .frz (A++s::r)),some (.int n),some R,none,none,none,none]=C0:=by
  rw[<- hC,zp]
  simp only[bx,cw,dJ,ib,dy,List.getElem?_cons_zero,List.getElem?_cons_succ,a5,bQ,fh,m1,jf,Res.ok_bind,ix,hs]
 unfold ap aD
 rw[ev]
theorem md(hA:A.length=n)(hf:oFL (A++s::r)=true)(h:dX [.lst .own A]=.ok R)(rb:R.has Fl.isBor=false)(rl:R.has Fl.isLnt=false)(hs:az s (.int 1)=.ok it)(hC:kG aL (.ok [it]) (R.mapF Fl.lend)=.exc c) :
  ∃e,dM [x0,some (.lst .frz (A++s::r)),some (.int n),none,none,none,none,none]=.exc c e:=by
 rw[oS hA hf h rb rl hs hC]
 exact⟨_,dG (iC rfl)⟩
def lpB:MS:=(ap (aD 7 (ao (ax fD) (aa (ad 3) (aa (ad 4) (aa (ad 6) aj)))))
 (ap (dW 7) (ap (aD 4 (mOp az (ad 7) (mC (.int (1)))))
 (bE 5 (ao (ax fk) (aa (ad 3) (aa (ad 7) (aa (ad 6) aj))))))))
def gv(z:Str):Prop:=z = "may"\/z = "turn"
variable{z1 z2 z3:Str}
theorem ua{L:PV}{an:List Str}{x6 x7:Option PV}{z:Str}(S:Sh R C z1 z2 z3)(hz:gv z)(fz:oF (vf z)=true)(hl:an.length<=100):∃z',lpB [x0,some L,some (.int n),some R,some C,some (.lst .own (sL an)),some (vf z),x7]=.next [x0,some L,some (.int n),some R,some C,some (.lst .own (sL (an++[z']))),some (vf z),some (.tup [.lst .frz [],C])]:=by
 have c1:=bD (g:=Fl.lend) rfl _ S.cf
 have c2:=bD (g:=Fl.toBor) rfl _ S.cf
 have c3:=bD (g:=Fl.freeze) rfl _ S.cf
 have f1:=bD (g:=Fl.lend) rfl _ fz
 have f2:=bD (g:=Fl.toBor) rfl _ fz
 have hb:=ef (p:=Fl.isBor) rfl _ S.cf
 have hn:=ef (p:=Fl.isLnt) rfl _ S.cf
 have ho:=ef (p:=Fl.isOwn) rfl _ S.cf
 have i1:az (.tup [.lst .frz [],C]) (.int 1)=.ok C:=eC (k:=1) rfl rfl ho
 obtain⟨f,z',e1,ff,fl,fb,e2⟩:∃f z',fD [bo R,C,vf z]=.ok (.tup [.lst f [],C])/\f.freeze=.frz/\f.isLnt=false/\f.isBor=false/\fk [bo R,.tup [.lst .frz [],C],vf z]=.ok (.str z'):=by
  rcases hz with rfl | rfl
  ·exact⟨.own,z2,S.m1,rfl,rfl,rfl,S.m2⟩
  ·exact⟨.frz,z3,S.t1,rfl,rfl,rfl,S.t2⟩
 refine⟨z',?_⟩
 unfold lpB
 refine aG (bw (v:=.tup [.lst f [],C]) ?_ (by simp[fl,hn]) rfl) ?_
 ·simp only[cH,cw,dy,bx,List.getElem?_cons_zero,List.getElem?_cons_succ,a5,Res.ok_bind,cB,a8,bP,c1,c2,f1,f2]
  rw[show(R.mapF Fl.lend).mapF Fl.toBor=bo R from rfl,e1]
  simp[cU,fb,hb]
 simp only[s0_,s1_]
 refine aG (jt (v:=.tup [.lst f [],C]) rfl) ?_
 simp only[s0_,s1_,e_,a8,bP,bQ,ff,c3]
 refine aG (bw (v:=C) (by simp[c1,i1]) (by simp[hn]) (by simp[bO])) ?_
 simp only[s0_,s1_]
 refine(kj (v:=.str z') (xs:=sL an) ?_ rfl (by simp) (by simp;omega)).trans (by simp[sL])
 simp only[cH,cw,dy,bx,List.getElem?_cons_zero,List.getElem?_cons_succ,a5,Res.ok_bind,cB,a8,bP,e_,bQ,fh,jR,c1,c2,f1,f2]
 rw[show(R.mapF Fl.lend).mapF Fl.toBor=bo R from rfl,e2]
 simp[cU]
theorem dk{L v:PV}{an:List Str}{x7:Option PV}(S:Sh R C z1 z2 z3)(fz:oF v=true)(h:fD [bo R,C,v]=.exc c):∃e,lpB [x0,some L,some (.int n),some R,some C,some (.lst .own (sL an)),some v,x7]=.exc c e:=by
 have c1:=bD (g:=Fl.lend) rfl _ S.cf
 have c2:=bD (g:=Fl.toBor) rfl _ S.cf
 have f1:=bD (g:=Fl.lend) rfl _ fz
 have f2:=bD (g:=Fl.toBor) rfl _ fz
 unfold lpB
 refine⟨_,dG (iC ?_)⟩
 simp only[cH,cw,dy,bx,List.getElem?_cons_zero,List.getElem?_cons_succ,a5,Res.ok_bind,cB,a8,bP,c1,c2,f1,f2]
 rw[show(R.mapF Fl.lend).mapF Fl.toBor=bo R from rfl,h]
 rfl
theorem nU{m:ME}{env:En}{i:Nat}{xs:List PV}(ho:env[i]?=some (some (.lst .own xs)))(h:m env=.exc c):bE i m env=.exc c env:=by unfold bE;rw[h,ho]
theorem iZ{L v:PV}{an:List Str}{x7:Option PV}(S:Sh R C z1 z2 z3)(fz:oF v=true)(h1:fD [bo R,C,v]=.ok (.tup [.lst .own [],C]))(h:fk [bo R,.tup [.lst .frz [],C],v]=.exc c):∃e,lpB [x0,some L,some (.int n),some R,some C,some (.lst .own (sL an)),some v,x7]=.exc c e:=by
 have c1:=bD (g:=Fl.lend) rfl _ S.cf
 have c2:=bD (g:=Fl.toBor) rfl _ S.cf
 have c3:=bD (g:=Fl.freeze) rfl _ S.cf
 have f1:=bD (g:=Fl.lend) rfl _ fz
 have f2:=bD (g:=Fl.toBor) rfl _ fz
 have hb:=ef (p:=Fl.isBor) rfl _ S.cf
 have hn:=ef (p:=Fl.isLnt) rfl _ S.cf
 have ho:=ef (p:=Fl.isOwn) rfl _ S.cf
 have i1:az (.tup [.lst .frz [],C]) (.int 1)=.ok C:=eC (k:=1) rfl rfl ho
 unfold lpB
 refine Exists.imp (fun _ q=>aG (bw (v:=.tup [.lst .own [],C]) ?_ (by simp[hn]) rfl) q) ?_
 ·simp only[cH,cw,dy,bx,List.getElem?_cons_zero,List.getElem?_cons_succ,a5,Res.ok_bind,cB,a8,bP,c1,c2,f1,f2]
  rw[show(R.mapF Fl.lend).mapF Fl.toBor=bo R from rfl,h1]
  simp[cU,hb]
 simp only[s0_,s1_]
 refine Exists.imp (fun _ q=>aG (jt (v:=.tup [.lst .own [],C]) rfl) q) ?_
 simp only[s0_,s1_,e_,a8,bP,bQ,fX,c3]
 refine Exists.imp (fun _ q=>aG (bw (v:=C) (by simp[c1,i1]) (by simp[hn]) (by simp[bO])) q) ?_
 simp only[s0_,s1_]
 refine⟨_,nU (xs:=sL an) rfl ?_⟩
 simp only[cH,cw,dy,bx,List.getElem?_cons_zero,List.getElem?_cons_succ,a5,Res.ok_bind,cB,a8,bP,e_,bQ,fh,jR,c1,c2,f1,f2]
 rw[show(R.mapF Fl.lend).mapF Fl.toBor=bo R from rfl,h]
 rfl
theorem oV{C0:PV}(S:Sh R C z1 z2 z3)(hA:A.length=n)(hf:oFL (A++s::r)=true)(h:dX [.lst .own A]=.ok R)(hs:az s (.int 1)=.ok it)(hC:kG aL (.ok [it]) (R.mapF Fl.lend)=.ok C0)(hl:C0.has Fl.isLnt=false)(hC0:C0.mapF Fl.freeze=C)(T:Out->Prop)
  (hT:T (ap (cv (fun _=>.ok r) (tgN 6) lpB) (cN 5) [x0,some (.lst .frz (A++s::r)),some (.int n),some R,some C,some (.lst .own (sL [z1])),none,none])):T (dM [x0,some (.lst .frz (A++s::r)),some (.int n),none,none,none,none,none]):=by
 have m1:=oFL_map (g:=Fl.lend) rfl _ hf
 have c1:=bD (g:=Fl.lend) rfl _ S.cf
 have c2:=bD (g:=Fl.toBor) rfl _ S.cf
 have cu:=mw (A++s::r) (n+1) (by simp;omega)
 rw[show(A++s::r).drop (n+1)=r by rw[show A++s::r=(A++[s])++ r by simp];exact List.drop_left' (by simp[hA]),show((n+1:Nat):Int)=(n:Int)+1 by omega]at cu
 have fr:oFL r=true:=by
  rw[er,List.all_append,List.all_cons]at hf
  rw[er]
  exact(Bool.and_eq_true_iff.mp (Bool.and_eq_true_iff.mp hf).2).2
 rw[oS hA hf h S.rb S.rl hs hC]
 rw[aG (a:=aD 4 (fun _=>.ok C0)) (bw (v:=C0) rfl (by simp[hl]) (by simp[bO])) rfl]
 simp only[s0_,s1_]
 rw[aG (a:=dW 4) (jt (v:=C0) rfl) rfl]
 simp only[s0_,s1_,hC0]
 rw[aG (a:=aD 5 (aZ (aa (ao (ax gD) (aa (ad 3) (aa (ad 4) aj))) aj))) (bw (v:=.lst .own (sL [z1])) ?_ (by simp) (by simp[bO])) rfl]
 ·simp only[s0_,s1_]
  have it:b9 (cq (ad 1) (cV (mOp aM (ad 2) (mC (.int (1))))) bS) [x0,some (.lst .frz (A++s::r)),some (.int n),some R,some C,some (.lst .own (sL [z1])),none,none]=.ok r:=by
   refine lr (f:=.own) ?_ rfl (oFL_has rfl _ fr) (oFL_has rfl _ fr)
   simp only[mr,dJ,o8,j7,bx,ib,List.getElem?_cons_zero,List.getElem?_cons_succ,a5,bQ,fh,m1,jf,Res.ok_bind,j1,lL,lE,cu]
  have e:cv (b9 (cq (ad 1) (cV (mOp aM (ad 2) (mC (.int (1))))) bS)) (tgN 6) lpB [x0,some (.lst .frz (A++s::r)),some (.int n),some R,some C,some (.lst .own (sL [z1])),none,none]=cv (fun _=>.ok r) (tgN 6) lpB [x0,some (.lst .frz (A++s::r)),some (.int n),some R,some C,some (.lst .own (sL [z1])),none,none]:=by
   unfold cv
   rw[it]
  unfold ap at hT ⊢
  rw[<- e]at hT
  exact hT
 ·simp only[zq,cH,cw,dy,bx,List.getElem?_cons_zero,List.getElem?_cons_succ,a5,Res.ok_bind,cB,a8,bP,c1,c2]
  rw[show(R.mapF Fl.lend).mapF Fl.toBor=bo R from rfl,S.sh]
  rfl
theorem lU{L:PV}{gs:List Str}{q:List PV}(S:Sh R C z1 z2 z3)(hg:∀z∈gs,gv z)(hf:∀z∈gs,oF (vf z)=true)(hl:gs.length<=12)(T:Out->Prop)
  (hq:q=[]->∀an:List Str,an.length=gs.length+1->T (.ret (.lst .own (sL an)))) (hx:∀v q',q=v::q'->∀(an:List Str) (x7:Option PV),∃e,lpB [x0,some L,some (.int n),some R,some C,some (.lst .own (sL an)),some v,x7]=.exc c e/\T (.exc c e)) :
  T (ap (cv (fun _=>.ok (gs.map vf++q)) (tgN 6) lpB) (cN 5) [x0,some L,some (.int n),some R,some C,some (.lst .own (sL [z1])),none,none]):=by
 have:=oW (it:=fun _=>.ok (gs.map vf++q)) (g:=tgN 6) (body:=lpB) (xs:=gs.map vf++q) (env:=[x0,some L,some (.int n),some R,some C,some (.lst .own (sL [z1])),none,none]) (fun k e=>k<=gs.length/\∃an x6 x7,e=[x0,some L,some (.int n),some R,some C,some (.lst .own (sL an)),x6,x7]/\an.length=k+1)
  (fun o=>T (match o with | .next e=>cN 5 e | o=>o)) rfl ⟨by omega,[z1],_,_,rfl,rfl⟩ (fun k x e hxk hP=>?_) (fun e hP=>?_)
 ·unfold ap
  exact this
 ·obtain⟨hk,an,x6,x7,rfl,ha⟩:=hP
  refine⟨[x0,some L,some (.int n),some R,some C,some (.lst .own (sL an)),some x,x7],rfl,?_⟩
  by_cases q1:k < gs.length
  ·rw[List.getElem?_append_left (by simpa using q1),List.getElem?_map]at hxk
   obtain⟨z,hz,rfl⟩:=Option.map_eq_some_iff.mp hxk
   have zm:=List.mem_of_getElem? hz
   obtain⟨z',e⟩:=ua (x0:=x0) (n:=n) (L:=L) (an:=an) (x6:=none) (x7:=x7) S (hg z zm) (hf z zm) (by omega)
   exact .inl ⟨_,.inl e,by omega,_,_,_,rfl,by simp[ha]⟩
  ·have ek:k=gs.length:=by omega
   rw[List.getElem?_append_right (by simp;omega),List.length_map,ek,Nat.sub_self]at hxk
   cases q with
   | nil=>cases hxk
   | cons v q' =>
    cases hxk
    obtain⟨e,e1,e2⟩:=hx _ q' rfl an x7
    exact .inr (.inr (.inr ⟨c,e,e1,e2⟩))
 ·obtain⟨hk,an,x6,x7,rfl,ha⟩:=hP
  rw[List.length_append,List.length_map]at hk ha
  have:q=[]:=List.length_eq_zero_iff.mp (by omega)
  subst this
  exact hq rfl an (by simpa using ha)
end
theorem yX:Ln "may" := dw (by decide +kernel)
theorem ub:Ln "turn" := dw (by decide +kernel)
theorem j5{z:Str}(h:gv z):Ln z:=by rcases h with rfl | rfl<;>first | exact yX | exact ub
theorem wI{z:Str}(h:gv z):doi.contains (kd z)=true:=by rcases h with rfl | rfl<;>decide +kernel
theorem rn{KP KG KQ:List Str}(h:st KP < KP.length)(hg:∀k∈KG,doi.contains k=true):ro (KP++KG++KQ)=ro (KP++KQ):=by
 have hd:∀X:List Str,(KP++X).headD "" = KP.headD "" := fun X=>by cases KP with | nil=>simp at h | cons a l=>rfl
 have hs:∀X,st (KP++X)=st KP:=fun X=>by unfold st;rw[hd]
 have gd:∀(X:List Str) (i:Nat),i < KP.length->(KP++X).getD i "" = KP.getD i "" := fun X i hi=>by simp[List.getD_eq_getElem?_getD,List.getElem?_append_left hi]
 have dr:∀X:List Str,(KP++X).drop (st KP+1)=KP.drop (st KP+1)++ X:=fun X=>by rw[List.drop_append,show st KP+1 - KP.length=0 by omega];rfl
 have al:KG.all (fun k=>doi.contains k)=true:=List.all_eq_true.mpr hg
 have hlt:∀X:List Str,decide (st KP <(KP++X).length)=true:=fun X=>decide_eq_true (by rw[List.length_append];omega)
 rw[List.append_assoc]
 unfold ro
 rw[hs,hs,hlt,hlt,gd _ _ h,gd _ _ h,gd _ _ (by omega),gd _ _ (by omega),hd,hd,dr,dr,List.all_append,List.all_append,List.all_append,al]
 simp only[Bool.true_and]
section
variable{P gs Q:List Str}{c:Nat}
structure Tx3(P gs Q:List Str):Prop where
 hP:∀z∈P,Ln z
 hg:∀z∈gs,gv z
 lg:gs.length<=12
 l0:P≠[]
 lP:P.length+Q.length<=16
abbrev txt(P gs Q:List Str):PV:=.str (PySem.Txt.join ⟨#[10]⟩ (P++gs++Q))
theorem tY(X:Tx3 P gs Q)(hQ:∀z∈Q,Ln z):∀z∈P++gs++Q,Ln z:=fun z hz=>by
 rcases List.mem_append.mp hz with hz | hz
 ·rcases List.mem_append.mp hz with hz | hz
  ·exact X.hP z hz
  ·exact j5 (X.hg z hz)
 ·exact hQ z hz
theorem B2{q1 q2:List Str}{x:Str}(X:Tx3 P gs Q)(e:Q=q1++x::q2)(h1:∀z∈q1,Ln z)(h2:∀z∈q2,Pl z)(hp:Pl x)(hx:dY [.str x]=.exc 5):be [txt P gs Q]=.exc 5:=by
 have lg:=X.lg
 have lP:=X.lP
 subst e
 have:=qC (pre:=P ++ gs ++ q1) (post:=q2) (x:=x) (by simp at lP ⊢;omega) (fun z hz=>by
  rcases List.mem_append.mp hz with hz | hz
  ·rcases List.mem_append.mp hz with hz | hz
   ·exact X.hP z hz
   ·exact j5 (X.hg z hz)
  ·exact h1 z hz) h2 hp hx
 rw[List.append_assoc]at this
 rw[<- List.append_assoc]at this
 exact rM (by rw[<- this];simp[List.append_assoc])
theorem pf(X:Tx3 P gs Q):∃z ls,P++gs++Q=z::ls/\ls.length<=29:=by
 have l0:=X.l0
 have lg:=X.lg
 have lP:=X.lP
 cases P with
 | nil=>exact absurd rfl l0
 | cons a l=>exact⟨a,l++gs++Q,rfl,by simp at lP ⊢;omega⟩
theorem v3(X:Tx3 P gs Q)(hQ:∀z∈Q,Ln z)(hr:ro ((P++Q).map kd)=false)(hi:gs=[]\/ st (P.map kd) < P.length):be [txt P gs Q]=.exc 5:=by
 obtain⟨z,ls,e,hl⟩:=pf X
 have al:=tY X hQ
 have:ro ((P++gs++Q).map kd)=false:=by
  rcases hi with rfl | hi
  ·simpa using hr
  ·rw[List.map_append,List.map_append,rn (by simpa using hi) fun k hk=>?_,<- List.map_append,hr]
   obtain⟨y,hy,rfl⟩:=List.mem_map.mp hk
   exact wI (X.hg y hy)
 unfold txt
 rw[e]at al this ⊢
 exact m9 hl al this
theorem v4{A:List Str}{s:Str}(X:Tx3 P gs Q)(hQ:∀z∈Q,Ln z)(hr:ro ((P++Q).map kd)=true)(eP:P=A++[s])(hA:A.length=st (P.map kd)) :
  fF [some (txt P gs Q),none,none,none,none,none,none,none]=dM [some (txt P gs Q),some (.lst .frz (A.map vf++vf s::(gs.map vf++Q.map vf))),some (.int (A.length:Nat)),none,none,none,none,none]/\oFL (A.map vf++vf s::(gs.map vf++Q.map vf))=true:=by
 obtain⟨z,ls,e,hl⟩:=pf X
 have al:=tY X hQ
 have lt:st (P.map kd) <(P.map kd).length:=by rw[List.length_map,<- hA,eP];simp
 have r1:ro ((P++gs++Q).map kd)=true:=by
  rw[List.map_append,List.map_append,rn lt fun k hk=>?_,<- List.map_append,hr]
  obtain⟨y,hy,rfl⟩:=List.mem_map.mp hk
  exact wI (X.hg y hy)
 have es:st ((P++gs++Q).map kd)=A.length:=by
  rw[hA]
  unfold st
  rw [show ((P ++ gs ++ Q).map kd).headD "" = (P.map kd).headD "" by
   have:=X.l0
   cases P with
   | nil=>exact absurd rfl this
   | cons a l=>rfl]
 have ev:(P++gs++Q).map vf=A.map vf++vf s::(gs.map vf++Q.map vf):=by rw[eP];simp
 have av:=qu al
 rw[ev]at av
 refine⟨?_,av⟩
 unfold txt
 rw[e]at al r1 es ev ⊢
 rw[rK hl al r1,es,ev]
theorem rL{t:PV}{T:Out->Prop}(h:T (fF [some t,none,none,none,none,none,none,none]))(hT:∀o,T o->∃e,o=.exc c e):be [t]=.exc c:=by
 obtain⟨e,he⟩:=hT _ h
 exact di he
theorem zy{A:List Str}{s:Str}(X:Tx3 P gs Q)(hQ:∀z∈Q,Ln z)(hr:ro ((P++Q).map kd)=true)(eP:P=A++[s])(hA:A.length=st (P.map kd))(h:dX [.lst .own (A.map vf)]=.exc c):be [txt P gs Q]=.exc c:=by
 obtain⟨e1,e2⟩:=v4 X hQ hr eP hA
 obtain⟨e,he⟩:=vJ (x0:=some (txt P gs Q)) (n:=A.length) (by simp) e2 h
 exact di (e1.trans he)
theorem zz{A:List Str}{s:Str}{R it:PV}(X:Tx3 P gs Q)(hQ:∀z∈Q,Ln z)(hr:ro ((P++Q).map kd)=true)(eP:P=A++[s])(hA:A.length=st (P.map kd))(h:dX [.lst .own (A.map vf)]=.ok R)(rb:R.has Fl.isBor=false)(rl:R.has Fl.isLnt=false)(hs:az (vf s) (.int 1)=.ok it)(hC:kG aL (.ok [it]) (R.mapF Fl.lend)=.exc c):be [txt P gs Q]=.exc c:=by
 obtain⟨e1,e2⟩:=v4 X hQ hr eP hA
 obtain⟨e,he⟩:=md (x0:=some (txt P gs Q)) (n:=A.length) (by simp) e2 h rb rl hs hC
 exact di (e1.trans he)
structure Sp(A:List Str)(s:Str)(R it C0 C:PV)(z1 z2 z3:Str):Prop extends Sh R C z1 z2 z3 where
 hR:dX [.lst .own (A.map vf)]=.ok R
 hi:az (vf s) (.int 1)=.ok it
 hC:kG aL (.ok [it]) (R.mapF Fl.lend)=.ok C0
 cl:C0.has Fl.isLnt=false
 c0:C0.mapF Fl.freeze=C
 hP:∀z∈A++[s],Ln z
 hA:A.length=st ((A++[s]).map kd)
variable{A:List Str}{s:Str}{R it C0 C:PV}{z1 z2 z3:Str}
theorem zA{q:Str}{Q':List Str}(Y:Sp A s R it C0 C z1 z2 z3)(X:Tx3 (A++[s]) gs (q::Q'))(hQ:∀z∈q::Q',Ln z)(hr:ro ((A++[s]++ q::Q').map kd)=true)
  (hx:∀(x0:Option PV) (L:PV) (n:Nat) (an:List Str) (x7:Option PV),∃e,lpB [x0,some L,some (.int n),some R,some C,some (.lst .own (sL an)),some (vf q),x7]=.exc c e):be [txt (A++[s]) gs (q::Q')]=.exc c:=by
 obtain⟨e1,e2⟩:=v4 X hQ hr rfl Y.hA
 refine rL (T:=fun o=>∃e,o=.exc c e) ?_ fun o h=>h
 rw[e1]
 refine oV Y.toSh (by simp) e2 Y.hR Y.hi Y.hC Y.cl Y.c0 (fun o=>∃e,o=.exc c e) ?_
 refine lU (c:=c) Y.toSh X.hg (fun z hz=>(j5 (X.hg z hz)).of) X.lg (fun o=>∃e,o=.exc c e) (fun w=>by simp at w) fun v q' w an x7=>?_
 rw[List.map_cons]at w
 cases w
 obtain⟨e,he⟩:=hx _ _ _ an x7
 exact⟨e,he,_,rfl⟩
theorem zB(Y:Sp A s R it C0 C z1 z2 z3)(X:Tx3 (A++[s]) gs [])(hr:ro ((A++[s]++ []).map kd)=true):∃an:List Str,an.length=gs.length+1/\be [txt (A++[s]) gs []]=.ok (.lst .own (sL an)):=by
 obtain⟨e1,e2⟩:=v4 X (fun _ h=>nomatch h) hr rfl Y.hA
 have:∃an:List Str,an.length=gs.length+1/\fF [some (txt (A++[s]) gs []),none,none,none,none,none,none,none]=.ret (.lst .own (sL an)):=by
  rw[e1]
  refine oV Y.toSh (by simp) e2 Y.hR Y.hi Y.hC Y.cl Y.c0 (fun o=>∃an:List Str,an.length=gs.length+1/\o=.ret (.lst .own (sL an))) ?_
  exact lU (c:=0) Y.toSh X.hg (fun z hz=>(j5 (X.hg z hz)).of) X.lg (fun o=>∃an:List Str,an.length=gs.length+1/\o=.ret (.lst .own (sL an))) (fun _ an ha=>⟨an,ha,rfl⟩) fun v q' w=>by simp at w
 obtain⟨an,ha,he⟩:=this
 exact⟨an,ha,cM he⟩
end
def Rof(A:List Str):PV:=match dX [.lst .own (A.map vf)]with
 | .ok R=>R
 | _=>.non
def Bv(s:Str):PV:=match az (vf s) (.int 1)with
 | .ok v=>v
 | _=>.non
def CH(A:List Str)(s:Str):PV:=match kG aL (.ok [Bv s]) ((Rof A).mapF Fl.lend)with
 | .ok v=>v
 | _=>.non
def Cof(A:List Str)(s:Str):PV:=(CH A s).mapF Fl.freeze
def zOf:Res PV->Str
 | .ok (.str z)=>z
 | _ => ""
def okB(z:Str):Bool:=y9 z&&plain z&&shO z
theorem gj{ls:List Str}(h:ls.all okB=true):∀z∈ls,Ln z:=fun z hz=>dw (List.all_eq_true.mp h z hz)
abbrev SpA(A:List Str)(s:Str):Prop:=Sp A s (Rof A) (Bv s) (CH A s) (Cof A s) (zOf (gD [bo (Rof A),Cof A s])) (zOf (fk [bo (Rof A),.tup [.lst .frz [],Cof A s],vf "may"])) (zOf (fk [bo (Rof A),.tup [.lst .frz [],Cof A s],vf "turn"]))
theorem bc:SpA ["pass 3 7"] "state 0 1 0" :=⟨⟨by kernel_rfl,by kernel_rfl,by kernel_rfl,by kernel_rfl,by kernel_rfl,by kernel_rfl,by kernel_rfl,by kernel_rfl⟩,by kernel_rfl,by kernel_rfl,by kernel_rfl,by kernel_rfl,rfl,gj (by decide +kernel),by decide +kernel⟩
theorem ko:SpA ["net 2 0-1", "far 0"] "state 5 5" :=⟨⟨by kernel_rfl,by kernel_rfl,by kernel_rfl,by kernel_rfl,by kernel_rfl,by kernel_rfl,by kernel_rfl,by kernel_rfl⟩,by kernel_rfl,by kernel_rfl,by kernel_rfl,by kernel_rfl,rfl,gj (by decide +kernel),by decide +kernel⟩
theorem qM:SpA ["table 2 2 none 00000000 00000000"] "state 0 0" :=⟨⟨by kernel_rfl,by kernel_rfl,by kernel_rfl,by kernel_rfl,by kernel_rfl,by kernel_rfl,by kernel_rfl,by kernel_rfl⟩,by kernel_rfl,by kernel_rfl,by kernel_rfl,by kernel_rfl,rfl,gj (by decide +kernel),by decide +kernel⟩
structure Rw where
 P:List Str
 Q:List Str
 c:Nat
deriving DecidableEq
def rws:List Rw:=[⟨["pass 1 5", "state 0 0"],["turn x"],5⟩,⟨["pass 3 5"],[],5⟩,⟨["pass 3 7", "state 0 1 0"],["pass 3 7"],5⟩,⟨["net 3 0-1 1-2", "pass 3 5", "state 0 0 0"],[],5⟩,⟨["paint", "state 0"],[],5⟩,⟨["pass 3 7", "state 0 1 0"],["state 1 2 3"],5⟩,⟨["state 1", "pass 3 5"],[],5⟩,⟨["pass 3 7", "state 0 1 0"],["net 1"],5⟩,⟨["net 3 0-1", "paint", "state 0 0"],[],1⟩,⟨["net 3 0-1 1-2", "far 3", "state 0"],[],2⟩,⟨["net 3 0-1 1-2", "lead 1 1 2", "state 0 0 0"],[],2⟩,⟨["pass 3 2", "state 0"],[],2⟩,⟨["pass 3 5", "state 0 0"],["turn 7"],3⟩,⟨["pass 3 7", "state 0 1 0"],["turn 3"],4⟩,⟨["pass 3 7", "state 0 1 0"],["turn 0 0"],4⟩,⟨["net 2 0-1", "far 0", "state 5 5"],["turn 0 1"],4⟩,⟨["pass 3 7", "state 0 1 0"],["spoil 3 1"],3⟩,⟨["pass 3 7", "state 0 1 0"],["look"],6⟩,⟨["net 2 0-1", "far 0", "state 5 5"],["look many"],4⟩,⟨["table 2 2 none 00000000 00000000", "state 0 0"],["measure"],7⟩,⟨["table 2 2 one 00000000 0000000", "state 0 0"],[],2⟩,⟨["count 0 2", "state 0 0 0"],[],2⟩,⟨["pass 3 7", "state 0 1 0"],["spoil -1 4", "turn 9"],3⟩,⟨["pass 3 7", "state 0 1 0"],["turn 9", "spoil 5 5"],4⟩,⟨["pass 3 7", "state 0 1 0"],["turn -1"],4⟩,⟨["net 1", "count", "state 0"],[],5⟩,⟨["net 11", "grow 0", "state 0"],[],1⟩,⟨["pass 2 3", "state 0 0"],["turn 5", "look none"],5⟩,⟨["far 0", "state 0"],[],5⟩,⟨["lead 1", "state 0"],[],5⟩,⟨["grow 0", "state 0"],[],5⟩,⟨["net 2 0-1", "table 2 2 none 00000000 00000000", "state 0 0"],[],5⟩,⟨["turn 0", "pass 3 5", "state 0 0 0"],[],5⟩,⟨["net 1", "net 1", "paint", "state 0"],[],5⟩,⟨["pass 3 5", "may", "state 0 0 0"],[],5⟩,⟨["net 2 0-1", "far 0"],[],5⟩,⟨["net 2 0-1"],[],5⟩]
def lps:List Rw:=[⟨["pass 3 7", "state 0 1 0"],["turn 3"],4⟩,⟨["pass 3 7", "state 0 1 0"],["turn 0 0"],4⟩,⟨["net 2 0-1", "far 0", "state 5 5"],["turn 0 1"],4⟩,⟨["pass 3 7", "state 0 1 0"],["spoil 3 1"],3⟩,⟨["pass 3 7", "state 0 1 0"],["look"],6⟩,⟨["net 2 0-1", "far 0", "state 5 5"],["look many"],4⟩,⟨["table 2 2 none 00000000 00000000", "state 0 0"],["measure"],7⟩,⟨["pass 3 7", "state 0 1 0"],["spoil -1 4", "turn 9"],3⟩,⟨["pass 3 7", "state 0 1 0"],["turn 9", "spoil 5 5"],4⟩,⟨["pass 3 7", "state 0 1 0"],["turn -1"],4⟩]
def oQ(c:Nat):Res PV->Bool
 | .exc k=>k==c
 | _=>false
theorem tm{c:Nat}{r:Res PV}(h:oQ c r=true):r=.exc c:=by
 cases r with
 | exc k=>simp[oQ]at h;rw[h]
 | ok v | stuck=>cases h
def rdE(c:Nat)(A:List Str)(s:Str):Bool:=match dX [.lst .own (A.map vf)]with
 | .ok R=>!R.has Fl.isBor && !R.has Fl.isLnt && (match az (vf s) (.int 1) with
  | .ok it=>oQ c (kG aL (.ok [it]) (R.mapF Fl.lend))
  | _=>false)
 | _=>false
def nH(t:Str):Bool:=decide (PySem.Txt.count t "state" = 1)&&!PySem.Txt.startswith t "state"
def jn(Q:List Str):Str:=if Q.isEmpty then "" else PySem.Txt.join ⟨#[10]⟩ Q
def chk(r:Rw):Bool :=
  (r.c==5&&(match r.Q.dropWhile okB with | x::q2=>sP x&&plain x&&q2.all plain | []=>false)) ||
   (r.Q.all okB && ((r.c == 5 && !ro ((r.P ++ r.Q).map kd) && (!nH (jn r.P) || decide (st (r.P.map kd) < r.P.length))) ||
     (ro ((r.P++r.Q).map kd)&&decide (r.P.dropLast++[r.P.getLastD ""]=r.P)&&decide (r.P.dropLast.length=st (r.P.map kd))&&(oQ r.c (dX [.lst .own (r.P.dropLast.map vf)])||rdE r.c r.P.dropLast (r.P.getLastD "")))))
def bas(r:Rw):Bool:=r.P.all okB&&!r.P.isEmpty&&decide (r.P.length+r.Q.length<=16)&&(r.P++r.Q).all plain&&shp (.str (jn r.Q))&&(decide (jn r.Q = "")== r.Q.isEmpty)&&decide (1<=r.c)&&decide (r.c<=7)
theorem uG:rws.all bas=true:=by decide +kernel
theorem uF:rws.all (fun r=>chk r||lps.contains r)=true:=by decide +kernel
theorem zv{r:Rw}{gs:List Str}(X:Tx3 r.P gs r.Q)(hi:nH (jn r.P)=false->gs=[])(h:chk r=true):be [txt r.P gs r.Q]=.exc r.c:=by
 unfold chk at h
 rw[Bool.or_eq_true]at h
 rcases h with h | h
 ·rw[Bool.and_eq_true]at h
  obtain⟨h1,h2⟩:=h
  have e:=List.takeWhile_append_dropWhile (p:=okB) (l:=r.Q)
  cases ed:r.Q.dropWhile okB with
  | nil=>rw[ed]at h2;cases h2
  | cons x q2 =>
   rw[ed]at h2 e
   simp only[Bool.and_eq_true]at h2
   have hc:r.c=5:=by simpa using h1
   rw[hc]
   exact B2 X e.symm (fun z hz=>dw (List.all_eq_true.mp (List.all_takeWhile (p:=okB) (l:=r.Q)) z hz)) (fun z hz=>ge (List.all_eq_true.mp h2.2 z hz)) (ge h2.1.2) (zL h2.1.1)
 ·rw[Bool.and_eq_true,Bool.or_eq_true]at h
  obtain⟨hQ,h⟩:=h
  have hQ:=gj hQ
  rcases h with h | h
  ·simp only[Bool.and_eq_true,Bool.or_eq_true,Bool.not_eq_true',decide_eq_true_eq]at h
   obtain⟨⟨h1,h2⟩,h3⟩:=h
   have hc:r.c=5:=by simpa using h1
   rw[hc]
   exact v3 X hQ h2 (h3.imp hi id)
  ·simp only[Bool.and_eq_true,Bool.or_eq_true,decide_eq_true_eq]at h
   obtain⟨⟨⟨h1,h2⟩,h3⟩,h4⟩:=h
   rcases h4 with h4 | h4
   ·exact zy X hQ h1 h2.symm h3 (tm h4)
   ·unfold rdE at h4
    split at h4
    ·rename_i R eR
     simp only[Bool.and_eq_true,Bool.not_eq_true']at h4
     obtain⟨⟨q1,q2⟩,q3⟩:=h4
     split at q3
     ·rename_i it ei
      exact zz X hQ h1 h2.symm h3 eR q1 q2 ei (tm q3)
     ·cases q3
    ·cases h4
theorem cI{P Q gs:List Str}{c:Nat}{A:List Str}{s:Str}{R it C0 C:PV}{z1 z2 z3 q:Str}{Q':List Str}(Y:Sp A s R it C0 C z1 z2 z3)(eP:P=A++[s])(eQ:Q=q::Q')(X:Tx3 P gs Q)(hQ:Q.all okB=true)(hr:ro ((P++Q).map kd)=true)
  (hx:∀(x0:Option PV) (L:PV) (n:Nat) (an:List Str) (x7:Option PV),∃e,lpB [x0,some L,some (.int n),some R,some C,some (.lst .own (sL an)),some (vf q),x7]=.exc c e):be [txt P gs Q]=.exc c:=by
 have hQ:=gj hQ
 subst eP eQ
 exact zA Y X hQ hr hx
theorem l0{gs:List Str}(X:Tx3 ["pass 3 7", "state 0 1 0"] gs ["turn 3"]):be [txt ["pass 3 7", "state 0 1 0"] gs ["turn 3"]]=.exc 4:=cI (q := "turn 3") bc rfl rfl X (by decide +kernel) (by decide +kernel) fun _ _ _ _ _=>dk (c:=4) bc.toSh (dw (z := "turn 3") (by decide +kernel)).of (by kernel_rfl)
theorem l1{gs:List Str}(X:Tx3 ["pass 3 7", "state 0 1 0"] gs ["turn 0 0"]):be [txt ["pass 3 7", "state 0 1 0"] gs ["turn 0 0"]]=.exc 4:=cI (q := "turn 0 0") bc rfl rfl X (by decide +kernel) (by decide +kernel) fun _ _ _ _ _=>dk (c:=4) bc.toSh (dw (z := "turn 0 0") (by decide +kernel)).of (by kernel_rfl)
theorem l2{gs:List Str}(X:Tx3 ["net 2 0-1", "far 0", "state 5 5"] gs ["turn 0 1"]):be [txt ["net 2 0-1", "far 0", "state 5 5"] gs ["turn 0 1"]]=.exc 4:=cI (q := "turn 0 1") ko rfl rfl X (by decide +kernel) (by decide +kernel) fun _ _ _ _ _=>dk (c:=4) ko.toSh (dw (z := "turn 0 1") (by decide +kernel)).of (by kernel_rfl)
theorem l3{gs:List Str}(X:Tx3 ["pass 3 7", "state 0 1 0"] gs ["spoil 3 1"]):be [txt ["pass 3 7", "state 0 1 0"] gs ["spoil 3 1"]]=.exc 3:=cI (q := "spoil 3 1") bc rfl rfl X (by decide +kernel) (by decide +kernel) fun _ _ _ _ _=>dk (c:=3) bc.toSh (dw (z := "spoil 3 1") (by decide +kernel)).of (by kernel_rfl)
theorem l4{gs:List Str}(X:Tx3 ["pass 3 7", "state 0 1 0"] gs ["look"]):be [txt ["pass 3 7", "state 0 1 0"] gs ["look"]]=.exc 6:=cI (q := "look") bc rfl rfl X (by decide +kernel) (by decide +kernel) fun _ _ _ _ _=>iZ (c:=6) bc.toSh (dw (z := "look") (by decide +kernel)).of (by kernel_rfl) (by kernel_rfl)
theorem l5{gs:List Str}(X:Tx3 ["net 2 0-1", "far 0", "state 5 5"] gs ["look many"]):be [txt ["net 2 0-1", "far 0", "state 5 5"] gs ["look many"]]=.exc 4:=cI (q := "look many") ko rfl rfl X (by decide +kernel) (by decide +kernel) fun _ _ _ _ _=>iZ (c:=4) ko.toSh (dw (z := "look many") (by decide +kernel)).of (by kernel_rfl) (by kernel_rfl)
theorem l6{gs:List Str}(X:Tx3 ["table 2 2 none 00000000 00000000", "state 0 0"] gs ["measure"]):be [txt ["table 2 2 none 00000000 00000000", "state 0 0"] gs ["measure"]]=.exc 7:=cI (q := "measure") qM rfl rfl X (by decide +kernel) (by decide +kernel) fun _ _ _ _ _=>iZ (c:=7) qM.toSh (dw (z := "measure") (by decide +kernel)).of (by kernel_rfl) (by kernel_rfl)
theorem l7{gs:List Str}(X:Tx3 ["pass 3 7", "state 0 1 0"] gs ["spoil -1 4", "turn 9"]):be [txt ["pass 3 7", "state 0 1 0"] gs ["spoil -1 4", "turn 9"]]=.exc 3:=cI (q := "spoil -1 4") bc rfl rfl X (by decide +kernel) (by decide +kernel) fun _ _ _ _ _=>dk (c:=3) bc.toSh (dw (z := "spoil -1 4") (by decide +kernel)).of (by kernel_rfl)
theorem l8{gs:List Str}(X:Tx3 ["pass 3 7", "state 0 1 0"] gs ["turn 9", "spoil 5 5"]):be [txt ["pass 3 7", "state 0 1 0"] gs ["turn 9", "spoil 5 5"]]=.exc 4:=cI (q := "turn 9") bc rfl rfl X (by decide +kernel) (by decide +kernel) fun _ _ _ _ _=>dk (c:=4) bc.toSh (dw (z := "turn 9") (by decide +kernel)).of (by kernel_rfl)
theorem l9{gs:List Str}(X:Tx3 ["pass 3 7", "state 0 1 0"] gs ["turn -1"]):be [txt ["pass 3 7", "state 0 1 0"] gs ["turn -1"]]=.exc 4:=cI (q := "turn -1") bc rfl rfl X (by decide +kernel) (by decide +kernel) fun _ _ _ _ _=>dk (c:=4) bc.toSh (dw (z := "turn -1") (by decide +kernel)).of (by kernel_rfl)
theorem yZ{r:Rw}{gs:List Str}(X:Tx3 r.P gs r.Q)(h:r∈lps):be [txt r.P gs r.Q]=.exc r.c:=by
 simp only[lps,List.mem_cons,List.not_mem_nil,or_false]at h
 rcases h with rfl | rfl | rfl | rfl | rfl | rfl | rfl | rfl | rfl | rfl
 ·exact l0 X
 ·exact l1 X
 ·exact l2 X
 ·exact l3 X
 ·exact l4 X
 ·exact l5 X
 ·exact l6 X
 ·exact l7 X
 ·exact l8 X
 ·exact l9 X
theorem uH{r:Rw}{gs:List Str}(hr:r∈rws)(X:Tx3 r.P gs r.Q)(hi:nH (jn r.P)=false->gs=[]):be [txt r.P gs r.Q]=.exc r.c:=by
 have:=List.all_eq_true.mp uF r hr
 rw[Bool.or_eq_true]at this
 rcases this with h | h
 ·exact zv X hi h
 ·exact yZ X (List.contains_iff_mem.mp h)
def wd:Nat->Str
 | 1 => "net"
 | 2 => "rule"
 | 3 => "state"
 | 4 => "turn"
 | 5 => "text"
 | 6 => "great"
 | _ => "none"
theorem c17{c:Nat}(h1:1<=c)(h2:c<=7):c=1\/c=2\/c=3\/c=4\/c=5\/c=6\/c=7:=by omega
theorem m7{t:Str}{c:Nat}(h1:1<=c)(h2:c<=7)(h:be [.str t]=.exc c):tf [.str t]=.ok (.str (wd c)):=by
 refine cM ?_
 show tV [some (.str t),none]=_
 unfold tV
 refine aG (bw (v:=.str "") (by simp) (by simp) rfl) ?_
 simp only[s0_,s1_]
 refine aG (e:=[some (.str t),some (.str (wd c))]) ?_ (rq rfl)
 unfold kM
 rw[jw (c:=c) (by simp[h])]
 rcases c17 h1 h2 with rfl | rfl | rfl | rfl | rfl | rfl | rfl<;>rfl
theorem sO{t:Str}{c:Nat}(h1:1<=c)(h2:c<=7)(h:be [.str t]=.exc c):sY [.str t]=.ok (.int 11):=by
 refine cM ?_
 show tR [some (.str t),none,none,none]=_
 unfold tR
 refine aG (bw (v:=.int 0) (by simp) (by simp) rfl) ?_
 simp only[s0_,s1_]
 have key:p3 (bL (ao (ax be) (aa (ad 0) aj))) iu 2
  (ap (aD 3 (aZ (aa (mUn (cm g7) (ad 2)) (aa (mUn (cm jm) (ad 2)) (aa (mUn (cm g8) (ad 2)) (aa (mUn (cm fV) (ad 2)) aj))))))
 (ap (aD 3 (mOp aM (ad 3) (aZ (aa (mUn (cm g0) (ad 2)) (aa (mUn (cm fU) (ad 2)) (aa (mUn (cm fi) (ad 2)) aj))))))
 (aD 1 (mOp aM (lT gU (ad 3) (mC (.bl true))) (mOp i8 (mC (.int (10))) (ao (p1 kH) (aa (mUn (cm gy) (ad 2)) aj))))))) aB [some (.str t),some (.int 0),none,none]=.next [some (.str t),some (.int 11),none,some (.lst .own [.bl (g7 c),.bl (jm c),.bl (g8 c),.bl (fV c),.bl (g0 c),.bl (fU c),.bl (fi c)])]:=by
  refine ud (c:=c) (jw (by simp[h])) ?_ ?_
  ·rcases c17 h1 h2 with rfl | rfl | rfl | rfl | rfl | rfl | rfl<;>rfl
  ·rcases c17 h1 h2 with rfl | rfl | rfl | rfl | rfl | rfl | rfl<;>kernel_rfl
 exact aG key (rq rfl)
theorem iO(x y z:Str):x++y++z=x ++(y++z):=qQ (by simp[ku])
theorem mW(c:Str):∀a b:List Str,a≠[]->b≠[]->Str.join c (a++b)=Str.join c a++c++Str.join c b
 | [],_,h,_=>absurd rfl h
 | [x],y::r,_,_=>rfl
 | [_],[],_,h=>absurd rfl h
 | x::y::r,b,_,hb=>by
  have ih:=mW c (y::r) b (by simp) hb
  show x++c++Str.join c (y::r++b)=x++c++Str.join c (y::r)++ c++Str.join c b
  rw[ih,iO (x++c),iO (x++c),iO (Str.join c (y::r))]
theorem tj(ls:List Str):PySem.Txt.join ⟨#[10]⟩ ls=Str.join ⟨#[10]⟩ ls:=StrLaws.glued_eq_join _ _
theorem lV{P gs:List Str}(h:P≠[]):PySem.Txt.join ⟨#[10]⟩ (PySem.Txt.join ⟨#[10]⟩ P::gs)=PySem.Txt.join ⟨#[10]⟩ (P++gs):=by
 rw[tj,tj,tj]
 cases gs with
 | nil=>rw[List.append_nil];rfl
 | cons g gs=>rw[mW _ P (g::gs) h (by simp)];rfl
theorem p7{P Q:List Str}(h:P≠[])(hQ:Q≠[]):PySem.Txt.join ⟨#[10]⟩ P++"\n"++PySem.Txt.join ⟨#[10]⟩ Q=PySem.Txt.join ⟨#[10]⟩ (P++Q):=by rw[tj,tj,tj,mW _ P Q h hQ,se]
def ce(r:Rw):PV:=.tup [.str (jn r.P),.str (jn r.Q),.str (wd r.c)]
theorem lx(g:Fl->Fl):∀l:List Rw,mapL g (l.map ce)=l.map ce
 | []=>by simp
 | r::l=>by simp[lx g l,ce]
theorem vZ(c:Int):∃r∈rws,sX [.int c]=.ok (ce r):=by
 have e:xb [some (.int c),none,none,none]=aS (mOp az (ad 3) (mOp i_ (ad 0) (mC (.int (37))))) [some (.int c),some (.str "pass 3 7\nstate 0 1 0"),some (.str "net 2 0-1\nfar 0\nstate 5 5"),some (.lst .own (rws.map ce))]:=by kernel_rfl
 have hl:rws.length=37:=rfl
 obtain⟨i,hi,hi2⟩:∃i:Nat,c % 37=i/\i < 37:=⟨(c % 37).toNat,by omega,by omega⟩
 refine⟨rws[i]'(by omega),List.getElem_mem _,cM (e.trans (jY ?_ (by simp[ce])))⟩
 have ix:az (.lst .lnt (rws.map ce)) (.int i)=.ok (ce (rws[i]'(by omega))):=eC rfl (by rw[List.getElem?_map,List.getElem?_eq_getElem (by omega)];rfl) (by simp[ce])
 simp[lx,sm,hi,ix]
theorem uE:rws.all (fun r=>decide ((jn r.P).length<=100)&&decide ((jn r.Q).length<=100)&&shp (.str (wd r.c))&&shp (.str (jn r.Q)))=true:=by decide +kernel
theorem vz{ls:List Str}(h:∀z∈ls,Pl z):(PySem.Txt.join ⟨#[10]⟩ ls).length<=ls.length * 101:=by
 rw[tj]
 exact jo 10 100 ls fun z hz=>(h z hz).len
theorem pj{a b:Str}(h:a.length+b.length<=10000):jb (.str a) (.str b)=.ok (.str (a++b)):=by
 unfold jb lJ
 dsimp only
 rw[if_pos (by simp only[decide_eq_true_eq];omega)]
theorem law_true(fl:Fl)(ns:List Int)(h:Scr fl)(hl:ns.length<=63):w9 [.lst fl (ns.map .int)]=.ok (.bl true):=by
 rw[sQ]
 have c0:o6 [.lst fl (iL ns),.int 0]=.ok (.int (cell ns 0)):=vY ns 0 h
 obtain⟨r,hr,hc⟩:=vZ (cell ns 0)
 have hb:=List.all_eq_true.mp uG r hr
 have hn:=List.all_eq_true.mp uE r hr
 simp only[bas,Bool.and_eq_true,decide_eq_true_eq,Bool.not_eq_true',List.all_eq_true]at hb hn
 obtain⟨⟨⟨⟨⟨⟨⟨b1,b2⟩,b3⟩,b4⟩,b5⟩,b6⟩,b7⟩,b8⟩:=hb
 obtain⟨⟨⟨n1,n2⟩,n3⟩,n4⟩:=hn
 have Pne:r.P≠[]:=fun q=>by rw[q]at b2;cases b2
 have jP:jn r.P=PySem.Txt.join ⟨#[10]⟩ r.P:=by unfold jn;rw[b2];rfl
 have pPl:∀z∈r.P++r.Q,Pl z:=fun z hz=>ge (b4 z hz)
 refine cM (v:=.bl true) ?_
 show tW [some (.lst fl (iL ns)),none,none,none,none,none]=_
 unfold tW
 have rl:∀p:Fl->Bool,(ce r).has p=false:=fun p=>by simp[ce]
 refine aG (bw (v:=ce r) (by simp[h.lend,h.toBor,c0,hc,cU,rl]) (by simp[rl]) rfl) ?_
 simp only[s0_,s1_]
 refine aG (bw (v:=.lst .own (sL [])) (by simp[sL]) (by simp) rfl) ?_
 simp only[s0_,s1_]
 have hcut:=zu ns 1 13 (l:=1) (h:=13) rfl rfl
 refine uu (fun k e=>∃gs x3,e=[some (.lst fl (iL ns)),some (ce r),some (.lst .own (sL gs)),x3,none,none]/\gs.length=k/\∀z∈gs,gv z) (xs:=iL ((ns.take 13).drop 1)) (by simp[h.lend,hcut,gq,Fl.isLnt]) ⟨[],_,rfl,rfl,fun _ w=>nomatch w⟩ (fun k x e hx hP=>?_) (fun e hP=>?_)
 ·obtain⟨gs,x3,rfl,hk,hg⟩:=hP
  obtain⟨y,hy,rfl⟩:=y_ hx
  have k12:k < 12:=by
   have:=(List.getElem?_eq_some_iff.mp hy).1
   simp at this
   omega
  obtain⟨z,hz,ez⟩:∃z,gv z/\az (.lst .own [.str "may", .str "turn"]) (.int (y % 2))=.ok (.str z):=by
   have:y % 2=0\/y % 2=1:=by omega
   rcases this with e | e<;>rw[e]
   ·exact⟨"may", .inl rfl,rfl⟩
   ·exact⟨"turn", .inr rfl,rfl⟩
  refine⟨_,qB rfl,?_⟩
  simp only[s0_,s1_]
  refine qh (kj (v:=.str z) (xs:=sL gs) (by simp[sm,ez]) rfl (by simp) (by simp;omega)) ⟨gs++[z],_,by simp[sL];rfl,by simp[hk],fun w hw=>?_⟩
  rcases List.mem_append.mp hw with hw | hw
  ·exact hg w hw
  ·rw[List.mem_singleton.mp hw];exact hz
 ·obtain⟨gs,x3,rfl,hk,hg⟩:=hP
  have lg:gs.length<=12:=by rw[hk];simp;omega
  have gp:∀z∈gs,Pl z:=fun z hz=>(j5 (hg z hz)).toPl
  refine aG (bw (v:=.str "pass 3 7\nstate 0 1 0") (by simp) (by simp) rfl) ?_
  simp only[s0_,s1_]
  have i0:az (ce r) (.int 0)=.ok (.str (jn r.P)):=eC (k:=0) rfl rfl rfl
  have i1:az (ce r) (.int 1)=.ok (.str (jn r.Q)):=eC (k:=1) rfl rfl rfl
  have i2:az (ce r) (.int 2)=.ok (.str (wd r.c)):=eC (k:=2) rfl rfl rfl
  have rm:∀g:Fl->Fl,(ce r).mapF g=ce r:=fun g=>by simp[ce]
  refine aG (bw (v:=.str (jn r.P)) (by simp[rm,i0]) (by simp) rfl) ?_
  simp only[s0_,s1_]
  obtain⟨g',hg',hg2,e4⟩:∃g':List Str,(nH (jn r.P)=false->g'=[])/\(g'=gs\/g'=[])/\mBr ((eL (ar (mOp pEq (mMt fw (ad 5) (mC (.str "state"))) (mC (.int (1))))) (im (bV (c9 (ad 5) (mC (.str "state"))))))) (aD 5 (mMt eX (mC (.str "\n")) (mOp aM (aZ (aa (ad 5) aj)) (ad 2)))) aB [some (.lst fl (iL ns)),some (ce r),some (.lst .own (sL gs)),x3,some (.str "pass 3 7\nstate 0 1 0"),some (.str (jn r.P))]=.next [some (.lst fl (iL ns)),some (ce r),some (.lst .own (sL gs)),x3,some (.str "pass 3 7\nstate 0 1 0"),some (.str (PySem.Txt.join ⟨#[10]⟩ (r.P++g')))]:=by
   have tc:(eL (ar (mOp pEq (mMt fw (ad 5) (mC (.str "state"))) (mC (.int (1))))) (im (bV (c9 (ad 5) (mC (.str "state")))))) [some (.lst fl (iL ns)),some (ce r),some (.lst .own (sL gs)),x3,some (.str "pass 3 7\nstate 0 1 0"),some (.str (jn r.P))]=.ok (nH (jn r.P)):=by
    unfold nH
    have a1:mMt fw (ad 5) (mC (.str "state")) [some (.lst fl (iL ns)),some (ce r),some (.lst .own (sL gs)),x3,some (.str "pass 3 7\nstate 0 1 0"),some (.str (jn r.P))]=.ok (.int (PySem.Txt.count (jn r.P) "state")):=by unfold mMt;simp[fw]
    have a2:c9 (ad 5) (mC (.str "state")) [some (.lst fl (iL ns)),some (ce r),some (.lst .own (sL gs)),x3,some (.str "pass 3 7\nstate 0 1 0"),some (.str (jn r.P))]=.ok (.bl (PySem.Txt.startswith (jn r.P) "state")):=by unfold c9;simp
    simp only[vS,eD,dJ,vR,tw,a1,a2,ib]
    by_cases q:PySem.Txt.count (jn r.P) "state" = 1
    ·simp[q]
    ·simp[q]
   cases hi:nH (jn r.P)with
   | true =>
    rw[hi]at tc
    refine⟨gs,nofun,.inl rfl,nR tc ?_⟩
    have:=oO (env:=[some (.lst fl (iL ns)),some (ce r),some (.lst .own (sL gs)),x3,some (.str "pass 3 7\nstate 0 1 0"),some (.str (jn r.P))]) (m:=mOp aM (aZ (aa (ad 5) aj)) (ad 2)) (f:=.own) (ls:=jn r.P::gs) (by simp;omega) (fun z hz=>by
     rcases List.mem_cons.mp hz with rfl | hz
     ·exact n1
     ·exact(gp z hz).len) (by
     simp
     rw[lD (by decide) (by decide) (by simp;omega)]
     rfl)
    rw[jP,lV Pne,<- jP]at this
    exact bw this (by simp) rfl
   | false =>
    rw[hi]at tc
    exact⟨[],fun _=>rfl,.inr rfl,(mF tc dI).trans (by rw[List.append_nil,jP])⟩
  refine aG e4 ?_
  have lg':g'.length<=12:=by
   rcases hg2 with e | e
   ·rw[e];exact lg
   ·rw[e];simp
  have gg':∀z∈g',gv z:=fun z hz=>by
   rcases hg2 with e | e
   ·rw[e]at hz;exact hg z hz
   ·rw[e]at hz;exact nomatch hz
  have l1:=vz (ls:=r.P++g') fun z hz=>by
   rcases List.mem_append.mp hz with hz | hz
   ·exact pPl z (List.mem_append_left _ hz)
   ·exact(j5 (gg' z hz)).toPl
  rw[List.length_append]at l1
  have s1:shp (.str "")=true:=by decide +kernel
  have ne:=(rh n4 s1).2
  have e5:mBr (ar (mOp pNe (mOp az (ad 1) (mC (.int (1)))) (mC (.str "")))) (aD 5 (mOp jb (mOp jb (ad 5) (mC (.str "\n"))) (mOp az (ad 1) (mC (.int (1)))))) aB [some (.lst fl (iL ns)),some (ce r),some (.lst .own (sL gs)),x3,some (.str "pass 3 7\nstate 0 1 0"),some (.str (PySem.Txt.join ⟨#[10]⟩ (r.P++g')))]=.next [some (.lst fl (iL ns)),some (ce r),some (.lst .own (sL gs)),x3,some (.str "pass 3 7\nstate 0 1 0"),some (.str (PySem.Txt.join ⟨#[10]⟩ (r.P++g'++r.Q)))]:=by
   cases hq:r.Q.isEmpty with
   | true =>
    rw[hq]at b6
    have d:decide (jn r.Q = "")=true:=by simpa using b6
    rw[d]at ne
    have Qn:r.Q=[]:=List.isEmpty_iff.mp hq
    exact(mF (by simp[rm,i1,ne]) dI).trans (by rw[Qn,List.append_nil])
   | false =>
    rw[hq]at b6
    have d:decide (jn r.Q = "")=false:=by simpa using b6
    rw[d]at ne
    have jQ:jn r.Q=PySem.Txt.join ⟨#[10]⟩ r.Q:=by unfold jn;rw[hq];rfl
    have Qne:r.Q≠[]:=fun q=>by rw[q]at hq;cases hq
    have ln1:("\n" : Str).length=1:=by decide +kernel
    have a1:=pj (a:=PySem.Txt.join ⟨#[10]⟩ (r.P++g')) (b := "\n") (by rw[ln1];omega)
    have a2:=pj (a:=PySem.Txt.join ⟨#[10]⟩ (r.P++g')++ "\n") (b:=jn r.Q) (by rw[la,ln1];omega)
    refine nR (by simp[rm,i1,ne]) (bw (v:=.str (PySem.Txt.join ⟨#[10]⟩ (r.P++g'++r.Q))) ?_ (by simp) rfl)
    have jp:=p7 (P:=r.P++g') (Q:=r.Q) (by simp[Pne]) Qne
    rw[jQ,jp,<- jQ]at a2
    simp only[dJ,bx,ib,List.getElem?_cons_zero,List.getElem?_cons_succ,a5,dS,rm,Res.ok_bind,a1,i1,a2]
  refine aG e5 ?_
  have X:Tx3 r.P g' r.Q:=⟨fun z hz=>dw (b1 z hz),gg',lg',Pne,b3⟩
  have pl:be [.str (PySem.Txt.join ⟨#[10]⟩ (r.P++g'++r.Q))]=.exc r.c:=uH hr X hg'
  have XG:Tx3 ((["pass 3 7"]:List Str)++(["state 0 1 0"]:List Str)) gs []:=⟨bc.hP,hg,lg,by simp,by simp⟩
  obtain⟨an,ha,hpg⟩:=zB bc XG (by decide +kernel)
  have eg:("pass 3 7\nstate 0 1 0" : Str)=PySem.Txt.join ⟨#[10]⟩ ((["pass 3 7"]:List Str)++(["state 0 1 0"]:List Str)):=by decide +kernel
  have jg:∀x5,mMt eX (mC (.str "\n")) (mOp aM (aZ (aa (ad 4) aj)) (ad 2)) [some (.lst fl (iL ns)),some (ce r),some (.lst .own (sL gs)),x3,some (.str "pass 3 7\nstate 0 1 0"),x5]=.ok (txt ((["pass 3 7"]:List Str)++(["state 0 1 0"]:List Str)) gs []):=fun x5=>by
   have:=oO (env:=[some (.lst fl (iL ns)),some (ce r),some (.lst .own (sL gs)),x3,some (.str "pass 3 7\nstate 0 1 0"),x5]) (m:=mOp aM (aZ (aa (ad 4) aj)) (ad 2)) (f:=.own) (ls := "pass 3 7\nstate 0 1 0" :: gs) (by simp;omega) (fun z hz=>by
     rcases List.mem_cons.mp hz with rfl | hz
     ·decide +kernel
     ·exact(gp z hz).len) (by
     simp
     rw[lD (by decide) (by decide) (by simp;omega)]
     rfl)
   rw[this,eg,lV (by simp)]
   unfold txt
   rw[List.append_nil]
  have lp:∀x5,(ao (p1 ck) (aa (ao (ax be) (aa (mMt eX (mC (.str "\n")) (mOp aM (aZ (aa (ad 4) aj)) (ad 2))) aj)) aj)) [some (.lst fl (iL ns)),some (ce r),some (.lst .own (sL gs)),x3,some (.str "pass 3 7\nstate 0 1 0"),x5]=.ok (.int (1+gs.length)):=fun x5=>by
   simp only[cH,cw,dy,jg,Res.ok_bind,cB,a8,bP,dS,hpg]
   simp[cU,ha]
   omega
  have rf:=m7 b7 b8 pl
  have kk:=sO b7 b8 pl
  have sw:=(rh n3 n3).2
  rw[decide_eq_true rfl]at sw
  refine aG (mF (by simp only[eD,dJ,lp];simp) dI) ?_
  refine aG (mF (by simp[rm,rf,kk,i2,sw,cU,-List.append_assoc]) dI) ?_
  refine jY ?_ (by simp)
  simp only[dJ,lp]
  simp
end G
namespace G
open PySem L2 PR
theorem hb:t7 pt.F:=⟨bn2,bn1,bn2,bn2,bn1,bn1,bn1,bn1,bn1,bn1,bn1,bn1,bn1,bn1,bn1,bn2,bn2,bn2,bn2,bn2,bn3,bn1,bn3,bn4,bn5,bn3,bn2,bn3,bn2,bn3,bn1,bn3,bn2,bn2,bn6,bn1,bn2,bn2,bn3,bn3,bn3,bn2,bn2,bn2,bn2,bn1,bn2,bn2,bn3,bn3,bn3,bn2,bn3,bn1,bn2,bn2,bn1,bn2,bn1,bn3,bn1,bn1,bn1,bn1,trivial⟩
theorem hd:t6 pe.D:=⟨bd2,trivial⟩
theorem hds:pe.D.all (fun y=>scB y.1)=true:=by decide +kernel
theorem hs:pt.F.all scB=true:=by decide +kernel
theorem fin{l:PySem.W.OpenLaw}{w:World}{K:PySem.W.Frag}{mg:Str->Option Value}{fa:Addr}(t:Ty pt pe w K mg)(hfa:mg "law" = some (.ref fa)) :
  ∃fd:FuncData,(∀(s:Shared) (u:Value),BindsTo s fd ⟨[u],[]⟩ [("_law_script", u)])/\∀base:Heap,K.In base->base.Ns mainGlobals mg->bH l.prog w K mg base (CXP l.prog w) 11 fa fd ["_law_script"] (oh K):=by
 have e:=hfa.symm.trans (t.tx.gl 63 rfl)
 cases e
 refine⟨dAt K (pt.fa K 63),fun s u=>?_,fun base hB _=>y0 (T:=T K) (yV t hB) law_true⟩
 obtain⟨oc,od,kV,doc,pm,an,cdv,ct,osl,e,_⟩:=(t.tx.fn 63).ex
 rw[e]
 exact .of_eq rfl
end G
def PySem.W.Fast.tw14469481909161372062 : Unit := ()
def PySem.W.Fast.tw15918824151372799872 : Unit := ()
def PySem.W.Fast.tw16628221504789879988 : Unit := ()
def PySem.W.Fast.tw637540809151654148 : Unit := ()
def PySem.W.Fast.tw1453401271450065954 : Unit := ()
def PySem.W.Fast.tw16642360937250028385 : Unit := ()
def PySem.W.Fast.tw1393094832989530014 : Unit := ()
def PySem.W.Fast.tw17146325023172914748 : Unit := ()
def PySem.W.Fast.tw12572859214101823251 : Unit := ()
def PySem.W.Fast.tw3202567197648603546 : Unit := ()
def PySem.W.Fast.tw16207877146150805760 : Unit := ()
def PySem.W.Fast.tw8200974110769299906 : Unit := ()
def PySem.W.Fast.tw15189943433089825575 : Unit := ()
def PySem.W.Fast.tw2058989636572178509 : Unit := ()
def PySem.W.Fast.tw15805688447100117899 : Unit := ()
def PySem.W.Fast.tw8722410201651622098 : Unit := ()
def PySem.W.Fast.tw3772787409626588253 : Unit := ()
def PySem.W.Fast.tw12979649279960502194 : Unit := ()
def PySem.W.Fast.tw1393994608615699354 : Unit := ()
def PySem.W.Fast.tw3808310939686702758 : Unit := ()
def PySem.W.Fast.tw12678945300689997939 : Unit := ()
def PySem.W.Fast.tw17330655615639376654 : Unit := ()
def PySem.W.Fast.tw748506599128644008 : Unit := ()
def PySem.W.Fast.tw17627713453905574115 : Unit := ()
def PySem.W.Fast.tw11378672092604716799 : Unit := ()
def PySem.W.Fast.tw11787014377802778945 : Unit := ()
def PySem.W.Fast.tw11997347152672990230 : Unit := ()
def PySem.W.Fast.tw1664594109596184042 : Unit := ()
def PySem.W.Fast.tw18094037705602744373 : Unit := ()
def PySem.W.Fast.tw2621685049500356883 : Unit := ()
def PySem.W.Fast.tw2487619775915149625 : Unit := ()
def PySem.W.Fast.tw7193797549596689815 : Unit := ()
def PySem.W.Fast.tw3384694944836321249 : Unit := ()
def PySem.W.Fast.tw437419780862998769 : Unit := ()
def PySem.W.Fast.tw9304990608434540609 : Unit := ()
def PySem.W.Fast.tw11634749106588410529 : Unit := ()
def PySem.W.Fast.tw15477763067894770382 : Unit := ()
def PySem.W.Fast.tw7747480734773987022 : Unit := ()
def PySem.W.Fast.tw4330731429468974971 : Unit := ()
def PySem.W.Fast.tw9700681806590835148 : Unit := ()
def PySem.W.Fast.tw2467492055227135341 : Unit := ()
def PySem.W.Fast.tw17843811293071022752 : Unit := ()
def PySem.W.Fast.tw16104436551855491947 : Unit := ()
def PySem.W.Fast.tw7045333108123242316 : Unit := ()
def PySem.W.Fast.tw6724541462375181778 : Unit := ()
def PySem.W.Fast.tw17785530693666397771 : Unit := ()
def PySem.W.Fast.tw10094145441729079190 : Unit := ()
def PySem.W.Fast.tw729747228318043327 : Unit := ()
def PySem.W.Fast.tw9629228735764212085 : Unit := ()
def PySem.W.Fast.tw3975767108407409776 : Unit := ()
def PySem.W.Fast.tw1453265174691162973 : Unit := ()
def PySem.W.Fast.tw8978635626308338998 : Unit := ()
def PySem.W.Fast.tw5835000633957986559 : Unit := ()
def PySem.W.Fast.tw6587786125771916642 : Unit := ()
def PySem.W.Fast.tw7972312594248697430 : Unit := ()
def PySem.W.Fast.tw16470040875848146811 : Unit := ()
def PySem.W.Fast.tw14390096231859534368 : Unit := ()
def PySem.W.Fast.tw3754580094978801693 : Unit := ()
def PySem.W.Fast.tw14894728113649929517 : Unit := ()
def PySem.W.Fast.tw1638000182346483793 : Unit := ()
def PySem.W.Fast.tw3391797731491482237 : Unit := ()
def PySem.W.Fast.tw9939328856260626731 : Unit := ()
def PySem.W.Fast.tw6691520817457123369 : Unit := ()
def PySem.W.Fast.tw1402071429929687036 : Unit := ()
def PySem.W.Fast.tw11141655711403285551 : Unit := ()
def PySem.W.Fast.tw12411311303081038461 : Unit := ()
def PySem.W.Fast.tw539426973467986614 : Unit := ()
def PySem.W.Fast.tw8923860636765018686 : Unit := ()
def PySem.W.Fast.tw16864825422433909550 : Unit := ()
def PySem.W.Fast.tw1494625712692126797 : Unit := ()
def PySem.W.Fast.tw5365933066304797251 : Unit := ()
def PySem.W.Fast.tw17942986229004874834 : Unit := ()
def PySem.W.Fast.tw12156748058803483987 : Unit := ()
def PySem.W.Fast.tw13873837689109434578 : Unit := ()
def PySem.W.Fast.tw10023411077694524713 : Unit := ()
def PySem.W.Fast.tw1930193285519432808 : Unit := ()
def PySem.W.Fast.tw11559961100927569672 : Unit := ()
def PySem.W.Fast.tw5966589579068295283 : Unit := ()
def PySem.W.Fast.tw16934125388190533054 : Unit := ()
def PySem.W.Fast.tw5220543730833783140 : Unit := ()
def PySem.W.Fast.tw13615646368573754855 : Unit := ()
def PySem.W.Fast.tw7776491736759188052 : Unit := ()
def PySem.W.Fast.tw23608816470696321 : Unit := ()
def PySem.W.Fast.tw15211081852334543460 : Unit := ()
def PySem.W.Fast.tw6616003540387430198 : Unit := ()
def PySem.W.Fast.tw10529610811742037688 : Unit := ()
def PySem.W.Fast.tw9630739165633921094 : Unit := ()
def PySem.W.Fast.tw4748873084130150302 : Unit := ()
def PySem.W.Fast.tw7934513537613228641 : Unit := ()
def PySem.W.Fast.tw40232663510633517 : Unit := ()
def PySem.W.Fast.tw15164191170125015726 : Unit := ()
def PySem.W.Fast.tw14404322388817305889 : Unit := ()
def PySem.W.Fast.tw4192521501698857779 : Unit := ()
def PySem.W.Fast.tw3230345733014076172 : Unit := ()
def PySem.W.Fast.tw4328204340717285341 : Unit := ()
def PySem.W.Fast.tw5657284725153165805 : Unit := ()
def PySem.W.Fast.tw8940692502323390426 : Unit := ()
def PySem.W.Fast.tw1229429794245776599 : Unit := ()
def PySem.W.Fast.tw3828502613687143604 : Unit := ()
def PySem.W.Fast.tw3141656367512799434 : Unit := ()
def PySem.W.Fast.tw7940889811368016028 : Unit := ()
def PySem.W.Fast.tw1938606154810830938 : Unit := ()
open PySem PySem.W PyProof.Rows
set_option maxRecDepth 100000 in
set_option maxHeartbeats 0 in
theorem PySem.Challenge.cw_calmring_k48_play_refused_holds : PySem.Challenge.rw_calmring_k48_play_refused.Holds := by
 w_on;o_law;k_head;(case hw=>w_witness2)
 k_fill
 refine PR.sK (l:=PySem.Challenge.rw_calmring_k48_play_refused) (k:=11) (x := "_law_script") rfl rfl ⟨rfl,by decide,by decide⟩ (fun w h Y=>PySem.W.kIn_of Y) ?F
 case F =>
  intro w mg fa h KX G hmg
  refine' _root_.G.fin (_root_.PR.Ty.of KX G (_root_.PR.Tx.of KX G _root_.G.hb _root_.G.hs ?a ?b ?c ?d ?e ?f ?g) _root_.G.hd _root_.G.hds ?h ?i ?j ?k ?l) hmg
  (case a=>exact fun z=>nomatch z)
  (case b=>exact fun z=>nomatch z)
  (case c=>exact fun z=>nomatch z)
  (case d=>kernel_rfl)
  (case e=>kernel_rfl)
  (case f=>kernel_rfl)
  (case g=>kernel_rfl)
  (case h=>kernel_rfl)
  (case i=>kernel_rfl)
  (case j=>kernel_rfl)
  (case k=>kernel_rfl)
  (case l=>kernel_rfl)
