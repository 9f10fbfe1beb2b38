import PyProof.Rows.All
import Wide.All
import OpenK.AllK
import Wide.FinOn
import Lean
import PyProof.EqAt
import PyProof.EqKinds
import PyProof.TupleCall
import PySem.Challenge.RW_calmring_k42_windows
set_option Elab.async false
set_option linter.all false
set_option maxRecDepth 100000
namespace L2
open PySem PySem.Spec PyProof.Rows
abbrev Key:=Sum Int Str
def Av:Key->Value->Bool
 | .inl k,v=>Value.isInt k v
 | .inr x,v=>Value.isStrOf x v
def GY(w:World):Key->Int
 | .inl k=>hashInt k
 | .inr x=>hashStr w x
theorem bU:∀{k:Key}{v:Value},Av k v=true->(∃i t,k=Sum.inl i/\v=Value.int i t)\/(∃x t,k=Sum.inr x/\v=Value.str x t)
 | .inl i,v,h=>by
  obtain⟨t,e⟩:=Value.isInt_shape (k:=i) (v:=v) h
  exact .inl ⟨i,t,rfl,e⟩
 | .inr x,v,h=>by
  obtain⟨t,e⟩:=Value.isStrOf_shape (x:=x) (v:=v) h
  exact .inr ⟨x,t,rfl,e⟩
theorem B8(a b:Int):decide ((Sum.inl a:Key)=Sum.inl b)=(a==b):=by
 by_cases e:a=b
 ·subst e;simp
 ·have h:¬(Sum.inl a:Key)=Sum.inl b:=fun q=>e (Sum.inl.inj q)
  rw[decide_eq_false h]
  exact(beq_eq_false_iff_ne.mpr e).symm
theorem B5(a b:Str):decide ((Sum.inr a:Key)=Sum.inr b)=decide (a=b):=by
 by_cases e:a=b
 ·subst e;simp
 ·have h:¬(Sum.inr a:Key)=Sum.inr b:=fun q=>e (Sum.inr.inj q)
  rw[decide_eq_false h,decide_eq_false e]
theorem B7(a:Int)(b:Str):decide ((Sum.inl a:Key)=Sum.inr b)=false:=decide_eq_false (fun q=>nomatch q)
theorem B6(a:Str)(b:Int):decide ((Sum.inr a:Key)=Sum.inl b)=false:=decide_eq_false (fun q=>nomatch q)
def nC(prog:Program)(w:World):PySem.KeyKind prog w Key where
 is:=Av
 hash:=GY w
 inj:=fun v a b ha hb=>by
  rcases bU ha with⟨i,t,rfl,rfl⟩ |⟨x,t,rfl,rfl⟩
  ·rcases bU hb with⟨j,u,rfl,e⟩ |⟨y,u,rfl,e⟩
   ·injection e with e1 _;rw[e1]
   ·exact nomatch e
  ·rcases bU hb with⟨j,u,rfl,e⟩ |⟨y,u,rfl,e⟩
   ·exact nomatch e
   ·injection e with e1 _;rw[e1]
 byValue:=fun k v h=>by
  rcases bU h with⟨i,t,rfl,rfl⟩ |⟨x,t,rfl,rfl⟩<;>rfl
 pyHash:=fun hv h=>by
  rcases bU hv with⟨i,t,rfl,rfl⟩ |⟨x,t,rfl,rfl⟩
  ·exact wpAny_pyHash_int h
  ·exact wpAny_pyHash_str h
 eqBool:=fun hu hv h=>by
  rcases bU hu with⟨i,t,rfl,rfl⟩ |⟨x,t,rfl,rfl⟩
  ·rcases bU hv with⟨j,u,rfl,rfl⟩ |⟨y,u,rfl,rfl⟩
   ·rw[B8]at h;exact wpAny_eqBool_int h
   ·rw[B7]at h;exact SeqAt.EqAt.int_str i t y u _ _ _ _ h
  ·rcases bU hv with⟨j,u,rfl,rfl⟩ |⟨y,u,rfl,rfl⟩
   ·rw[B6]at h;exact SeqAt.EqAt.str_int x t j u _ _ _ _ h
   ·rw[B5]at h;exact wpAny_eqBool_str h
 «strs»:=fun k x t v h=>by
  rcases bU h with⟨i,u,rfl,e⟩ |⟨y,u,rfl,e⟩
  ·exact nomatch e
  ·injection e with e1 _
   subst e1
   cases v<;>rfl
end L2
namespace L2
open PySem PySem.Spec PyProof.Rows
inductive V where
 | non | bl (b:Bool) | int (i:Int) | str (x:Str) | byt (b:Array UInt8) | flt (b:UInt64) | ref (a:Addr) | ty (n:String)
 deriving DecidableEq
def bq:V->Value->Prop
 | .non,u=>u=Value.none
 | .bl b,u=>u=Value.bool b
 | .int i,u=>∃t,u=Value.int i t
 | .str x,u=>∃t,u=Value.str x t
 | .byt b,u=>∃t,u=Value.bytes b t
 | .flt b,u=>∃t,u=Value.float b t
 | .ref a,u=>u=Value.ref a
 | .ty n,u=>u=Value.type n
abbrev aJ:List V->List Value->Prop:=Paired bq
theorem aJ.length{xs:List V}{us:List Value}(r:aJ xs us):xs.length=us.length:=Paired.length r
theorem aJ.get:∀{xs:List V}{us:List Value}{i:Nat}{x:V},aJ xs us->xs[i]?=some x->∃u,us[i]?=some u/\bq x u
 | _,_,_,_,.nil,e=>by simp at e
 | _,_,0,_,.cons r _,e=>by simp at e;subst e;exact⟨_,rfl,r⟩
 | _,_,i+1,x,.cons _ t,e=>by
  obtain⟨u,h1,h2⟩:=aJ.get (i:=i) (x:=x) t (by simpa using e)
  exact⟨u,by simpa using h1,h2⟩
theorem aJ.set{x:V}{u:Value}(r:bq x u):∀{xs:List V}{us:List Value} (i:Nat),aJ xs us->aJ (xs.set i x) (us.set i u)
 | _,_,_,.nil=>.nil
 | _,_,0,.cons _ t=>.cons r t
 | _,_,i+1,.cons q t=>.cons q (aJ.set r i t)
theorem aJ.append:∀{xs ys:List V}{us ws:List Value},aJ xs us->aJ ys ws->aJ (xs++ys) (us++ws)
 | _,_,_,_,.nil,s=>s
 | _,_,_,_,.cons r t,s=>.cons r (aJ.append t s)
theorem aJ.take:∀{xs:List V}{us:List Value} (n:Nat),aJ xs us->aJ (xs.take n) (us.take n)
 | _,_,0,_ | _,_,_+1,.nil=>.nil
 | _,_,n+1,.cons r t=>.cons r (aJ.take n t)
theorem aJ.drop:∀{xs:List V}{us:List Value} (n:Nat),aJ xs us->aJ (xs.drop n) (us.drop n)
 | _,_,0,r=>r
 | _,_,_+1,.nil=>.nil
 | _,_,n+1,.cons _ t=>aJ.drop n t
def lE:Option V->Option Value->Prop
 | some v,some u=>bq v u
 | none,none=>True
 | _,_=>False
def KV{κ:Type}:List (κ×V)->List (κ×Value)->Prop:=Paired fun(p:κ×V) (q:κ×Value)=>p.1=q.1/\bq p.2 q.2
def kV:Key->V
 | .inl i=>.int i
 | .inr x=>.str x
inductive HO where
 | lst (xs:List V)
 | tup (xs:List V)
 | dK (kvs:List (Key×V)) | dT (kvs:List (List Key×V))
 | set(S:Int->Bool) (n:Nat)
 | ins (C dx:Addr) (fs:List (Str×V))
 | own (x:Addr)
 | xd (fs:List (Str×V))
 | met (f x:Addr)
 | rng (lo hi:Int)
 | frz (o:Obj) (u:HO)
 | tbl (ps:Array Value)
 | ext (φ:Heap->Prop)
abbrev Hp:=Addr->Option HO
def upd(H:Hp)(a:Addr)(o:HO):Hp:=fun b=>if b=a then some o else H b
theorem bM{H:Hp}{a:Addr}{o:HO}:upd H a o a=some o:=by unfold upd;rw[if_pos rfl]
theorem aP{H:Hp}{a b:Addr}{o:HO}(h:b≠a):upd H a o b=H b:=by unfold upd;rw[if_neg h]
theorem bN{H:Hp}{a b:Addr}{o:HO}(h:H a=some o)(h':H b=none):a≠b:=by
 intro e;subst e;rw[h]at h';cases h'
section
variable(P:Program)(w:World)
def dg(H:Hp)(h:Heap)(a:Addr):HO->Prop
 | .lst xs=>xs.length<=sizeLine/\∃(its:List Value) (n:Nat),aJ xs its/\h.get? a=some { cls:=.type "list", data:=.seq its.toArray n }
 | .tup xs=>xs.length<=sizeLine/\∃its:List Value,aJ xs its/\IsTup h a its.toArray
 | .dK kvs=>kvs.length<=sizeLine/\(a==sysModules)=false/\∃vs,KV kvs vs/\h.DictOf (nC P w) a vs
 | .dT kvs=>kvs.length<=sizeLine/\(a==sysModules)=false/\∃xs:List (List Key×Addr×Value),
   Paired (fun(p:List Key×V) (q:List Key×Addr×Value)=>p.1=q.1/\H q.2.1=some (.tup (p.1.map kV))/\bq p.2 q.2.2) kvs xs /\
   ∃o es ep,h.get? a=some o/\o.ExactDict/\o.data=.dict es ep/\es.toList=xs.map (entryOfKey (tupleKind (nC P w)))/\(xs.map (·.1)).Nodup
 | .set S n=>h.SetOf (intKind P w) a S n
 | .ins C dx fs=>H dx=some (.own a)/\fs.length<=1000/\dx≠a/\h.get? a=some (PySem.W.instObj C dx)/\
   ∃mA,h.Ns1 dx mA/\(∀f,lE (fs.lookup f) (mA f))/\PySem.Within mA (fs.map (·.1))
 | .own _=>∃o,h.get? a=some o
 | .xd fs=>∃mA,h.Ns1 a mA/\∀f,lE (fs.lookup f) (mA f)
 | .rng lo hi=>∃t u v,h.get? a=some { cls:=.type "range", data:=.fields #[.int lo t,.int hi u,.int 1 v] }
 | .frz o u=>h.get? a=some o/\dg H h a u
 | .tbl ps=>h.get? a=some { cls:=.none,data:=.fields ps }
 | .met f x=>h.get? a=some (PySem.W.methodObj (.ref f) (.ref x))
 | .ext φ=>φ h/\(∃o,h.get? a=some o)/\∀h1 h2:Heap,φ h1->(∀o,h1.get? a=some o->h2.get? a=some o)->φ h2
def HOk(H:Hp)(h:Heap):Prop:=∀a o,H a=some o->dg P w H h a o
end
section
variable{P:Program}{w:World}{H H':Hp}{h h':Heap}{a:Addr}{o:HO}
theorem dg.lt(x:dg P w H h a o):a < h.objs.size:=by
 cases o with
 | lst xs=>obtain⟨_,_,_,_,e⟩:=x;exact Heap.lt_size e
 | tup xs=>obtain⟨_,_,_,p⟩:=x;exact p.lt
 | dK kvs | dT kvs=>obtain⟨_,_,_,_,o,_,_,e,_⟩:=x;exact Heap.lt_size e
 | set S n=>obtain⟨o,_,_,_,e,_⟩:=x;exact Heap.lt_size e
 | ins C dx fs=>obtain⟨_,_,_,e,_⟩:=x;exact Heap.lt_size e
 | own y=>obtain⟨_,e⟩:=x;exact Heap.lt_size e
 | xd fs=>obtain⟨_,⟨_,_,_,e,_⟩,_⟩:=x;exact Heap.lt_size e
 | rng lo hi=>obtain⟨_,_,_,e⟩:=x;exact Heap.lt_size e
 | frz ob u=>obtain⟨e,_⟩:=x;exact Heap.lt_size e
 | tbl ps | met f y=>exact Heap.lt_size (show h.get? a=some _ from x)
 | ext φ=>obtain⟨_,⟨_,e⟩,_⟩:=x;exact Heap.lt_size e
theorem Paired.mapP{α β:Type}{F G:α->β->Prop}:∀{l₁:List α}{l₂:List β},Paired F l₁ l₂->(∀a b,F a b->G a b)->Paired G l₁ l₂
 | _,_,.nil,_=>.nil
 | _,_,.cons r t,f=>.cons (f _ _ r) (Paired.mapP t f)
theorem dg.stay(x:dg P w H h a o)(k:∀b u,(b=a\/H b=some (.own a))->h.get? b=some u->h'.get? b=some u)
  (ho:∀b,H b=some (.own a)->H' b=some (.own a)) (ht:∀b xs,H b=some (.tup xs)->H' b=some (.tup xs)):dg P w H' h' a o:=by
 induction o with
 | lst xs=>obtain⟨z,its,n,r,e⟩:=x;exact⟨z,its,n,r,k _ _ (.inl rfl) e⟩
 | tup xs=>obtain⟨z,its,r,ob,e,c⟩:=x;exact⟨z,its,r,ob,k _ _ (.inl rfl) e,c⟩
 | dK kvs=>obtain⟨z,y,vs,r,ob,es,ep,e,c⟩:=x;exact⟨z,y,vs,r,ob,es,ep,k _ _ (.inl rfl) e,c⟩
 | dT kvs =>
  obtain⟨z,y,xs,r,ob,es,ep,e,c⟩:=x
  exact⟨z,y,xs,Paired.mapP r fun p q z=>⟨z.1,ht _ _ z.2.1,z.2.2⟩,ob,es,ep,k _ _ (.inl rfl) e,c⟩
 | set S n=>obtain⟨ob,es,ep,t,e,c⟩:=x;exact⟨ob,es,ep,t,k _ _ (.inl rfl) e,c⟩
 | ins C dx fs =>
  obtain⟨d,z,ne,e,mA,⟨od,es,ep,e2,c⟩,r⟩:=x
  exact⟨ho _ d,z,ne,k _ _ (.inl rfl) e,mA,⟨od,es,ep,k _ _ (.inr d) e2,c⟩,r⟩
 | own y=>obtain⟨ob,e⟩:=x;exact⟨ob,k _ _ (.inl rfl) e⟩
 | xd fs=>obtain⟨mA,⟨od,es,ep,e,c⟩,r⟩:=x;exact⟨mA,⟨od,es,ep,k _ _ (.inl rfl) e,c⟩,r⟩
 | rng lo hi=>obtain⟨t,u,v,e⟩:=x;exact⟨t,u,v,k _ _ (.inl rfl) e⟩
 | frz ob u ih=>obtain⟨e,q⟩:=x;exact⟨k _ _ (.inl rfl) e,ih q⟩
 | tbl ps =>
  have e:h.get? a=some { cls:=.none,data:=.fields ps }:=x
  show h'.get? a=some { cls:=.none,data:=.fields ps }
  exact k a _ (.inl rfl) e
 | met f y =>
  have e:h.get? a=some (PySem.W.methodObj (.ref f) (.ref y)):=x
  show h'.get? a=some (PySem.W.methodObj (.ref f) (.ref y))
  exact k a _ (.inl rfl) e
 | ext φ=>obtain⟨p,⟨o,e⟩,st⟩:=x;exact⟨st _ _ p fun o q=>k _ _ (.inl rfl) q,⟨o,k _ _ (.inl rfl) e⟩,st⟩
theorem HOk.lt(x:HOk P w H h)(e:H a=some o):a < h.objs.size:=(x a o e).lt
theorem HOk.fresh(x:HOk P w H h)(e:h.objs.size<=a):H a=none:=by
 cases q:H a with
 | none=>rfl
 | some u=>exact absurd (Nat.lt_of_lt_of_le (x.lt q) e) (Nat.lt_irrefl _)
theorem HOk.kept(x:HOk P w H h)(k:∀b u,h.get? b=some u->h'.get? b=some u):HOk P w H h':=fun a o e =>
 (x a o e).stay (fun b u _ q=>k b u q) (fun _ q=>q) fun _ _ q=>q
theorem HOk.laid(x:HOk P w H h)(k:∀b u,h.get? b=some u->h'.get? b=some u)(hp:h.objs.size<=a)(new:dg P w (upd H a o) h' a o):HOk P w (upd H a o) h':=fun b u e=>by
 have hn:=x.fresh hp
 by_cases hb:b=a
 ·subst hb;rw[bM]at e;cases e;exact new
 ·rw[aP hb]at e
  exact(x b u e).stay (fun c v _ q=>k c v q) (fun c q=>by rw[aP (bN q hn)];exact q) fun c xs q=>by rw[aP (bN q hn)];exact q
end
def Rd(H:Hp)(a:Addr)(u:HO):Prop:=H a=some u\/∃o,H a=some (.frz o u)
theorem Rd.of{H:Hp}{a:Addr}{u:HO}(h:H a=some u):Rd H a u:=.inl h
theorem Rd.ok{P:Program}{w:World}{H:Hp}{h:Heap}{a:Addr}{u:HO}(r:Rd H a u)(x:HOk P w H h):dg P w H h a u:=by
 rcases r with r |⟨o,r⟩
 ·exact x a u r
 ·obtain⟨_,q⟩:=x a _ r
  exact q
def Mut:Option HO->Prop
 | some (.lst _) | some (.dK _) | some (.dT _) | some (.set _ _) | some (.ins _ _ _) | some (.ext _)=>True
 | _=>False
section
variable{P:Program}{w:World}{H:Hp}{h h':Heap}{x e:Addr}{o':HO}
theorem HOk.write(ok:HOk P w H h)(mu:Mut (H x))(he:e=x\/H e=some (.own x))(k:∀b u,b≠e->h.get? b=some u->h'.get? b=some u)(heo:∃u,h'.get? e=some u)
  (new:dg P w (upd H x o') h' x o'):HOk P w (upd H x o') h':=fun b u q=>by
 have nown:∀c y,H c=some (.own y)->c≠x:=fun c y r z=>by subst z;rw[r]at mu;exact mu
 have ntup:∀c xs,H c=some (.tup xs)->c≠x:=fun c xs r z=>by subst z;rw[r]at mu;exact mu
 by_cases hb:b=x
 ·subst hb;rw[bM]at q;cases q;exact new
 ·rw[aP hb]at q
  by_cases hbe:b=e
  ·have q':H b=some (.own x):=by
    rcases he with z | z
    ·exact absurd (hbe.trans z) hb
    ·rw[hbe];exact z
   rw[q]at q';cases q'
   obtain⟨v,hv⟩:=heo
   exact⟨v,by rw[hbe];exact hv⟩
  ·refine(ok b u q).stay (fun c v hc r=>k c v ?_ r) (fun c r=>by rw[aP (nown c b r)];exact r) fun c xs r=>by rw[aP (ntup c xs r)];exact r
   rcases hc with rfl | hc
   ·exact hbe
   ·rintro rfl
    rcases he with z | z
    ·exact nown c b hc z
    ·rw[hc]at z;cases z;exact hb rfl
end
structure Un(fs ex:List Addr)(H H':Hp)(h h':Heap):Prop where
 keep:∀b o,h.get? b=some o->H b=none->b∉fs->b∉ex->h'.get? b=some o
 slot:∀b o,h.get? b=some o->H b=none->b∈fs->b∉ex->∃sl,h'.get? b=some { o with slots:=sl }
 free:∀b o,h.get? b=some o->H b=none->b∉ex->H' b=none
 there:∀b o,h.get? b=some o->b∉ex->∃o',h'.get? b=some o'
 tups:∀b xs,H b=some (.tup xs)->H' b=some (.tup xs)
 frzs:∀b o u,H b=some (.frz o u)->H' b=some (.frz o u)
 tbls:∀b ps,H b=some (.tbl ps)->∃more,H' b=some (.tbl (ps++more))
section
variable{fs fs' ex ex':List Addr}{H H1 H2:Hp}{h h1 h2 h':Heap}{a x e:Addr}{o:HO}
theorem Un.any(u:Un fs ex H H1 h h1){b:Addr}{ob:Obj}(q:h.get? b=some ob)(n:H b=none)(hx:b∉ex):∃sl,h1.get? b=some { ob with slots:=sl }:=by
 by_cases hb:b∈fs
 ·exact u.slot b ob q n hb hx
 ·exact⟨ob.slots,u.keep b ob q n hb hx⟩
theorem Un.trans(a:Un fs ex H H1 h h1)(b:Un fs ex H1 H2 h1 h2):Un fs ex H H2 h h2 where
 keep:=fun c ob q n hc hx=>b.keep c ob (a.keep c ob q n hc hx) (a.free c ob q n hx) hc hx
 slot:=fun c ob q n hc hx=>by
  obtain⟨sl,e1⟩:=a.slot c ob q n hc hx
  obtain⟨sl',e2⟩:=b.slot c _ e1 (a.free c ob q n hx) hc hx
  exact⟨sl',e2⟩
 free:=fun c ob q n hx=>by
  obtain⟨o',e1⟩:=a.there c ob q hx
  exact b.free c o' e1 (a.free c ob q n hx) hx
 there:=fun c ob q hx=>by
  obtain⟨o',e1⟩:=a.there c ob q hx
  exact b.there c o' e1 hx
 tups:=fun c xs q=>b.tups c xs (a.tups c xs q)
 frzs:=fun c ob xs q=>b.frzs c ob xs (a.frzs c ob xs q)
 tbls:=fun c ps q=>by
  obtain⟨m1,e1⟩:=a.tbls c ps q
  obtain⟨m2,e2⟩:=b.tbls c _ e1
  exact⟨m1++m2,by rw[e2,Array.append_assoc]⟩
theorem Un.kept(k:∀b u,h.get? b=some u->h'.get? b=some u):Un fs ex H H h h' :=
 ⟨fun b ob q _ _ _=>k b ob q,fun b ob q _ _ _=>⟨ob.slots,k b ob q⟩,fun _ _ _ n _=>n,fun b ob q _=>⟨ob,k b ob q⟩,fun _ _ q=>q,fun _ _ _ q=>q,fun _ ps q=>⟨#[],by rw[q];simp⟩⟩
theorem Un.refl:Un fs ex H H h h:=Un.kept fun _ _ q=>q
theorem Un.laid(k:∀b u,h.get? b=some u->h'.get? b=some u)(hp:h.objs.size<=a)(hn:H a=none):Un fs ex H (upd H a o) h h' where
 keep:=fun b u q _ _ _=>k b u q
 slot:=fun b u q _ _ _=>⟨u.slots,k b u q⟩
 free:=fun b u q n _=>by rw[aP (Nat.ne_of_lt (Nat.lt_of_lt_of_le (Heap.lt_size q) hp))];exact n
 there:=fun b u q _=>⟨u,k b u q⟩
 tups:=fun b xs q=>by rw[aP (bN q hn)];exact q
 frzs:=fun b u xs q=>by rw[aP (bN q hn)];exact q
 tbls:=fun b ps q=>⟨#[],by rw[aP (bN q hn),q];simp⟩
theorem Un.write(mu:Mut (H x))(he:e=x\/H e=some (.own x))(k:∀b u,b≠e->h.get? b=some u->h'.get? b=some u)(heo:∃u,h'.get? e=some u):Un fs ex H (upd H x o) h h':=by
 have hx:∀b,H b=none->b≠x:=fun b n z=>by subst z;rw[n]at mu;exact mu
 have hb:∀b,H b=none->b≠e:=fun b n z=>by
  subst z
  rcases he with r | r
  ·exact hx b n r
  ·rw[n]at r;cases r
 have hm:∀b u,H b=some u->¬Mut (some u)->b≠x:=fun b u q nm z=>by subst z;rw[q]at mu;exact nm mu
 refine ⟨fun b u q n _ _=>k b u (hb b n) q,fun b u q n _ _=>⟨u.slots,k b u (hb b n) q⟩,fun b u q n _=>by rw [aP (hx b n)];exact n,fun b u q _=>?_,
  fun b xs q=>by rw[aP (hm b _ q fun z=>z)];exact q,fun b u xs q=>by rw[aP (hm b _ q fun z=>z)];exact q,fun b ps q=>⟨#[],by rw[aP (hm b _ q fun z=>z),q];simp⟩⟩
 by_cases hbe:b=e
 ·subst hbe;exact heo
 ·exact⟨u,k b u hbe q⟩
theorem Un.mono(u:Un fs ex H H1 h h1)(hs:∀b∈fs,b∈fs')(hx:∀b∈ex,b∈ex'):Un fs' ex' H H1 h h1 :=
 ⟨fun b ob q n hb he=>u.keep b ob q n (fun z=>hb (hs b z)) fun z=>he (hx b z),fun _ _ q n _ he=>u.any q n fun z=>he (hx _ z),fun b ob q n he=>u.free b ob q n fun z=>he (hx b z),fun b ob q he=>u.there b ob q fun z=>he (hx b z),u.tups,u.frzs,u.tbls⟩
end
def trk(h:Heap)(H:Hp):List Addr:=(List.range h.objs.size).filter fun a=>(H a).isSome
def nM(h:Heap)(H:Hp):Heap:=PySem.W.hideAll h (trk h H)
theorem ua(h:Heap)(H:Hp):(nM h H).objs.size=h.objs.size:=PySem.W.hideAll_size _ _
theorem wm{h:Heap}{H:Hp}{b:Addr}{o:Obj}(e:h.get? b=some o)(n:H b=none):(nM h H).get? b=some o :=
 PySem.W.hideAll_get _ e fun hm=>by
  have q:(H b).isSome=true:=(List.mem_filter.mp hm).2
  rw[n]at q;simp at q
theorem zj{h:Heap}{H:Hp}{b:Addr}{o:Obj}(e:(nM h H).get? b=some o):h.get? b=some o/\H b=none:=by
 have e':h.get? b=some o:=PySem.W.of_hideAll (trk h H) e
 refine⟨e',?_⟩
 cases q:H b with
 | none=>rfl
 | some x =>
  have hm:b∈trk h H:=List.mem_filter.mpr ⟨List.mem_range.mpr (Heap.lt_size e'),by simp[q]⟩
  have z:(nM h H).get? b=none:=PySem.W.hideAll_none (trk h H) hm
  rw[z]at e;cases e
def Ae(g h:Heap)(L:Addr):List (Addr×Obj):=(List.range h.objs.size).filterMap fun a=>if a=L \/(g.get? a).isSome=true then none else(h.get? a).map fun o=>(a,o)
def a_(g h:Heap)(L d:Addr):List (Addr×Obj):=(Ae g h L).filter fun p=>decide (p.1≠d)
end L2
namespace L2
open PySem PySem.Spec PyProof.Rows
structure Mod(K:PySem.W.Frag)(mg:Str->Option Value)(base:Heap):Prop where
 kin:K.In base
 glob:base.Ns mainGlobals mg
 blt:∃mb,base.Ns builtinsNs mb/\∀x:Str,x≠"__name__" -> mb x=bootBuiltins x
 nolimit:base.NoLimit
structure Cx where
 prog:Program
 w:World
 K:PySem.W.Frag
 mg:Str->Option Value
 base:Heap
 A:Around
 N:List Str
 s₀:Shared
 H₀:Hp
 env:Env
 outer:List Env
 stack:List Env
 ex:List Addr
 fn:Str->Bool
 calm:Bool
 pn:List (Addr×Obj)
 xe:Value->Shared->Prop
def frs(l:List Env):List Addr:=l.filterMap (·.frame)
abbrev Cx.fs(X:Cx):List Addr:=frs X.outer
def Vis(sc:Scope)(x:Str):Prop:=sc.names.lookup x=some .local\/sc.names.lookup x=some .cell\/sc.names.lookup x=some .free
def Loc(sc:Scope)(x:Str):Prop:=sc.names.lookup x=some .local\/sc.names.lookup x=some .cell
def He(env:Env)(h:Heap)(m:Str->Option Value)(x:Str)(u:Value):Prop :=
 (env.kindOf x=some .local/\m x=some u)\/((env.kindOf x=some .cell\/env.kindOf x=some .free)/\∃c,env.cells.lookup x=some c/\h.IsCell c (some u))
structure Cx.Ok(X:Cx):Prop where
 mod:Mod X.K X.mg X.base
 kind:X.env.scope.kind=.function
 glob:X.env.globals=mainGlobals
 blt:X.env.builtins=builtinsNs
 above:X.s₀.heap.objs.size<=X.env.locals
 inj:∀x y c,X.env.cells.lookup x=some c->X.env.cells.lookup y=some c->x=y
 has:∀x,(X.env.kindOf x=some .cell\/X.env.kindOf x=some .free)->∃c,X.env.cells.lookup x=some c
 cab:∀x c,X.fn x=true->X.env.cells.lookup x=some c->X.s₀.heap.objs.size<=c
 hd:X.calm=true->X.A.handled=none
 frames:X.A.frames=some X.stack
 stk:X.stack=X.outer \/(X.stack=X.env::X.outer/\X.env.frame=some X.env.locals)
 exf:∀b∈X.ex,b≠X.env.locals/\∀x c,X.env.cells.lookup x=some c->c≠b
 bs:∀b o,X.base.get? b=some o->X.s₀.heap.get? b=some o/\X.H₀ b=none
 bsz:X.base.objs.size<=X.s₀.heap.objs.size
 noex:∀b o,X.base.get? b=some o->b∉X.ex
 exfs:∀b∈X.ex,b∉X.fs
 funs:X.s₀.heap.FunFrames X.base X.outer
 frf:∀b∈X.fs,X.H₀ b=none
structure Inv(X:Cx)(pins:List (Addr×Obj))(σ:List (Option V))(H:Hp)(s:Shared):Prop where
 ok:X.Ok
 os:s.os=X.s₀.os
 bare:AllBare s.gens
 base:Un X.fs X.ex X.H₀ H X.s₀.heap s.heap
 loc:∃m,s.heap.Ns X.env.locals m/\∀(i:Nat) (x:Str) (v:V),X.N[i]?=some x->σ[i]?=some (some v)->Vis X.env.scope x->∃u,bq v u/\He X.env s.heap m x u
 cell:∀x c,X.env.cells.lookup x=some c->∃v,s.heap.IsCell c v
 free:H X.env.locals=none
 freeC:∀x c,X.env.cells.lookup x=some c->H c=none
 pin:∀p∈X.pn++pins,s.heap.get? p.1=some p.2/\H p.1=none/\p.1≠X.env.locals/\p.1∉X.fs/\∀v,p.2.data≠.cell v
 hok:HOk X.prog X.w H s.heap
 len:σ.length=X.N.length
section
variable{X:Cx}{pins:List (Addr×Obj)}{σ:List (Option V)}{H H':Hp}{s:Shared}{h':Heap}
theorem Cx.Ok.nofr(ok:X.Ok){b:Addr}{o:Obj}(e:X.base.get? b=some o):b∉X.fs:=fun hb=>by
 have:=(ok.funs.mem hb).1
 rw[e]at this;cases this
theorem Inv.bs(I:Inv X pins σ H s):∀b o,X.base.get? b=some o->s.heap.get? b=some o/\H b=none:=fun b o e =>
 ⟨I.base.keep b o (I.ok.bs b o e).1 (I.ok.bs b o e).2 (I.ok.nofr e) (I.ok.noex b o e),I.base.free b o (I.ok.bs b o e).1 (I.ok.bs b o e).2 (I.ok.noex b o e)⟩
theorem Inv.bk(I:Inv X pins σ H s):∀b o,X.base.get? b=some o->s.heap.get? b=some o:=fun b o e=>(I.bs b o e).1
theorem Inv.mod(I:Inv X pins σ H s):Mod X.K X.mg X.base:=I.ok.mod
theorem Inv.kIn(I:Inv X pins σ H s):X.K.In s.heap:=I.ok.mod.kin.keeps I.bk
theorem Inv.lt(I:Inv X pins σ H s):X.env.locals < s.heap.objs.size:=let⟨_,hn,_⟩:=I.loc;hn.lt
theorem Inv.sz(I:Inv X pins σ H s):X.s₀.heap.objs.size<=s.heap.objs.size:=Nat.le_trans I.ok.above (Nat.le_of_lt I.lt)
theorem Inv.nofs(I:Inv X pins σ H s){a:Addr}(h:s.heap.objs.size<=a):a∉X.fs:=fun hb=>by
 obtain⟨_,o,ho,_⟩:=I.ok.funs.mem hb
 exact absurd (Nat.lt_of_lt_of_le (Heap.lt_size ho) (Nat.le_trans I.sz h)) (Nat.lt_irrefl _)
theorem Inv.cne(I:Inv X pins σ H s):∀x c,X.env.cells.lookup x=some c->c≠X.env.locals:=fun x c e z=>by
 obtain⟨v,o,ho,hd⟩:=I.cell x c e
 obtain⟨m,⟨o',es,ep,ho',hd',_⟩,_⟩:=I.loc
 rw[z,ho']at ho;cases ho;rw[hd']at hd;cases hd
theorem Inv.funs(I:Inv X pins σ H s):s.heap.FunFrames X.base X.outer:=by
 have all:∀(l:List Env),(∀b∈frs l,b∈X.fs)->X.s₀.heap.FunFrames X.base l->s.heap.FunFrames X.base l:=by
  intro l
  induction l with
  | nil=>intro _ _;trivial
  | cons env r ih =>
   intro hs hl
   obtain⟨hk,⟨L,o,hf,hn,ho,hd⟩,hr⟩:=hl
   have hL:L∈X.fs:=hs L (by unfold frs;rw[List.filterMap_cons,hf];exact List.mem_cons_self)
   obtain⟨sl,e⟩:=I.base.slot L o ho (I.ok.frf L hL) hL fun z=>I.ok.exfs L z hL
   exact⟨hk,⟨L,_,hf,hn,e,hd⟩,ih (fun b hb=>hs b (by unfold frs;rw[List.filterMap_cons,hf];exact List.mem_cons_of_mem _ hb)) hr⟩
 exact all X.outer (fun _ hb=>hb) I.ok.funs
theorem Inv.stack(I:Inv X pins σ H s):s.heap.FunFrames X.base X.stack:=by
 rcases I.ok.stk with e |⟨e,hf⟩
 ·rw[e];exact I.funs
 ·rw[e]
  obtain⟨m,hn,_⟩:=I.loc
  refine .cons (by rw[I.ok.kind];decide) hf hn ?_ I.funs
  exact Heap.get?_none_of_le (Nat.le_trans I.ok.bsz I.ok.above)
theorem Inv.stkSub(I:Inv X pins σ H s):∀b∈frs X.stack,b∈X.env.locals::X.fs:=fun b hb=>by
 rcases I.ok.stk with e |⟨e,hf⟩
 ·rw[e]at hb;exact List.mem_cons_of_mem _ hb
 ·rw[e]at hb
  unfold frs at hb
  rw[List.filterMap_cons,hf]at hb
  exact hb
theorem Inv.stkFree(I:Inv X pins σ H s):∀b∈frs X.stack,H b=none:=fun b hb=>by
 rcases List.mem_cons.mp (I.stkSub b hb)with e | hb
 ·rw[e];exact I.free
 ·obtain⟨_,o,ho,_⟩:=I.ok.funs.mem hb
  exact I.base.free b o ho (I.ok.frf b hb) fun z=>I.ok.exfs b z hb
theorem Inv.step{g':Array GenState}{t':Nat}{d':Drawn}{ch:List Addr}(I:Inv X pins σ H s)
  (hch:∀b∈ch,(b∈X.ex\/X.s₀.heap.objs.size<=b)/\b≠X.env.locals/\(∀x c,X.env.cells.lookup x=some c->c≠b)/\∀p∈X.pn++pins,p.1≠b)
  (keep:∀b o,b≠X.env.locals->b∉X.fs->b∉ch->s.heap.get? b=some o->H b=none->h'.get? b=some o)
  (slot:∀b o,b≠X.env.locals->b∈X.fs->b∉ch->s.heap.get? b=some o->H b=none->∃sl,h'.get? b=some { o with slots:=sl }) (free:∀b o,b∉ch->s.heap.get? b=some o->H b=none->H' b=none)
  (there:∀b o,b∉ch->s.heap.get? b=some o->∃o',h'.get? b=some o')
  (tups:∀b xs,H b=some (.tup xs)->H' b=some (.tup xs)) (frzs:∀b o u,H b=some (.frz o u)->H' b=some (.frz o u)) (tbls:∀b ps,H b=some (.tbl ps)->∃more,H' b=some (.tbl (ps++more)))
  (ns:∀m,s.heap.Ns X.env.locals m->h'.Ns X.env.locals m) (hok:HOk X.prog X.w H' h') (hg:AllBare g') :
  Inv X pins σ H' { s with heap:=h',gens:=g',drawn:=d',toks:=t' }:=by
 have neL:∀b o,X.s₀.heap.get? b=some o->b≠X.env.locals:=fun b o e=>Nat.ne_of_lt (Nat.lt_of_lt_of_le (Heap.lt_size e) I.ok.above)
 have neC:∀b o,X.s₀.heap.get? b=some o->b∉X.ex->b∉ch:=fun b o e hx hb=>by
  rcases(hch b hb).1 with z | z
  ·exact hx z
  ·exact absurd (Nat.lt_of_lt_of_le (Heap.lt_size e) z) (Nat.lt_irrefl _)
 have cellK:∀x c,X.env.cells.lookup x=some c->∀v,s.heap.IsCell c v->h'.IsCell c v:=fun x c e v hz1=>by
  obtain⟨o,ho,hd⟩:=hz1
  have nch:c∉ch:=fun z=>(hch c z).2.2.1 x c e rfl
  by_cases hc:c∈X.fs
  ·obtain⟨sl,q⟩:=slot c o (I.cne x c e) hc nch ho (I.freeC x c e)
   exact⟨_,q,hd⟩
  ·exact⟨o,keep c o (I.cne x c e) hc nch ho (I.freeC x c e),hd⟩
 refine⟨I.ok,I.os,hg,⟨fun b o e n hb hx=>?_,fun b o e n hb hx=>?_,fun b o e n hx=>?_,fun b o e hx=>?_,fun b xs e=>tups b xs (I.base.tups b xs e),fun b o xs e=>frzs b o xs (I.base.frzs b o xs e),fun b ps e=>?_⟩,?_,fun x c e=>?_,?_,fun x c e=>?_,fun p hp=>?_,hok,I.len⟩
 ·exact keep b o (neL b o e) hb (neC b o e hx) (I.base.keep b o e n hb hx) (I.base.free b o e n hx)
 ·obtain⟨sl,e1⟩:=I.base.slot b o e n hb hx
  obtain⟨sl',e2⟩:=slot b _ (neL b o e) hb (neC b o e hx) e1 (I.base.free b o e n hx)
  exact⟨sl',e2⟩
 ·obtain⟨o',e1⟩:=I.base.there b o e hx
  exact free b o' (neC b o e hx) e1 (I.base.free b o e n hx)
 ·obtain⟨o',e1⟩:=I.base.there b o e hx
  exact there b o' (neC b o e hx) e1
 ·obtain⟨m1,e1⟩:=I.base.tbls b ps e
  obtain⟨m2,e2⟩:=tbls b _ e1
  exact⟨m1++m2,by rw[e2,Array.append_assoc]⟩
 ·obtain⟨m,hn,hl⟩:=I.loc
  refine⟨m,ns m hn,fun i x v e1 e2 e3=>?_⟩
  obtain⟨u,r,l⟩:=hl i x v e1 e2 e3
  refine⟨u,r,?_⟩
  rcases l with l |⟨k,c,e,z⟩
  ·exact .inl l
  ·exact .inr ⟨k,c,e,cellK x c e _ z⟩
 ·obtain⟨v,z⟩:=I.cell x c e
  exact⟨v,cellK x c e v z⟩
 ·obtain⟨m,⟨o,_,_,ho,_⟩,_⟩:=I.loc
  exact free _ o (fun z=>(hch _ z).2.1 rfl) ho I.free
 ·obtain⟨v,o,ho,hd⟩:=I.cell x c e
  exact free c o (fun z=>(hch c z).2.2.1 x c e rfl) ho (I.freeC x c e)
 ·obtain⟨e,n,ne,nf,d⟩:=I.pin p hp
  have nch:p.1∉ch:=fun z=>(hch p.1 z).2.2.2 p hp rfl
  exact⟨keep p.1 p.2 ne nf nch e n,free p.1 p.2 nch e n,ne,nf,d⟩
theorem Inv.un{t':Nat}(I:Inv X pins σ H s)(u:Un X.fs [] H H' s.heap h')(hok:HOk X.prog X.w H' h'):Inv X pins σ H' { s with heap:=h',toks:=t' }:=by
 obtain⟨m,⟨o,es,ep,ho,r⟩,_⟩:=id I.loc
 obtain⟨sl,hL⟩:=u.any ho I.free (by simp)
 exact I.step (g':=s.gens) (d':=s.drawn) (ch:=[]) (fun _ z=>nomatch z) (fun b o _ hb _ e n=>u.keep b o e n hb (by simp)) (fun b o _ hb _ e n=>u.slot b o e n hb (by simp)) (fun b o _ e n=>u.free b o e n (by simp)) (fun b o _ e=>u.there b o e (by simp)) u.tups u.frzs u.tbls (fun m' hm=>by
  obtain⟨o',es',ep',ho',r'⟩:=hm
  rw[ho]at ho';cases ho'
  exact⟨_,es',ep',hL,r'⟩) hok I.bare
theorem Inv.call{g':Array GenState}{t':Nat}{d':Drawn}{ch:List Addr}(I:Inv X pins σ H s)(u:Un (frs X.stack) ch H H' s.heap h')(hok:HOk X.prog X.w H' h')(hg:AllBare g')
  (hch:∀b∈ch,(b∈X.ex\/X.s₀.heap.objs.size<=b)/\b≠X.env.locals/\(∀x c,X.env.cells.lookup x=some c->c≠b)/\∀p∈X.pn++pins,p.1≠b) :
  Inv X pins σ H' { s with heap:=h',gens:=g',drawn:=d',toks:=t' }:=by
 obtain⟨m,⟨o,es,ep,ho,r⟩,_⟩:=id I.loc
 obtain⟨sl,hL⟩:=u.any ho I.free fun z=>(hch _ z).2.1 rfl
 exact I.step (ch:=ch) hch (fun b o hL hb hc e n=>u.keep b o e n (fun z=>(List.mem_cons.mp (I.stkSub b z)).elim hL hb) hc) (fun b o _ _ hc e n=>u.any e n hc) (fun b o hc e n=>u.free b o e n hc) (fun b o hc e=>u.there b o e hc) u.tups u.frzs u.tbls (fun m' hm=>by
  obtain⟨o',es',ep',ho',r'⟩:=hm
  rw[ho]at ho';cases ho'
  exact⟨_,es',ep',hL,r'⟩) hok hg
theorem Inv.turned{t':Nat}{it:Addr}(I:Inv X pins σ H s)(k:∀b o,b≠it->s.heap.get? b=some o->h'.get? b=some o)(hn:H it=none)(hL:it≠X.env.locals)
  (h1:it∈X.ex\/X.s₀.heap.objs.size<=it) (h2:∀x c,X.env.cells.lookup x=some c->c≠it) (h3:∀p∈X.pn++pins,p.1≠it):Inv X pins σ H { s with heap:=h',toks:=t' }:=by
 have nit:∀b u,H b=some u->b≠it:=fun b u e z=>by rw[z,hn]at e;cases e
 refine I.step (g':=s.gens) (d':=s.drawn) (ch:=[it]) (fun b hb=>?_) (fun b o _ _ hc e _=>k b o (fun z=>hc (by simp[z])) e) (fun b o _ _ hc e _=>⟨o.slots,k b o (fun z=>hc (by simp[z])) e⟩) (fun _ _ _ _ n=>n)
  (fun b o hc e=>⟨o,k b o (fun z=>hc (by simp[z])) e⟩) (fun _ _ e=>e) (fun _ _ _ e=>e) (fun b ps e=>⟨#[],by rw[e];simp⟩) (fun m hm=>?_) (fun b u e=>?_) I.bare
 ·have e:b=it:=by simpa using hb
  subst e
  exact⟨h1,hL,h2,h3⟩
 ·obtain⟨o,es,ep,ho,r⟩:=hm
  exact⟨o,es,ep,k _ o (Ne.symm hL) ho,r⟩
 ·refine(I.hok b u e).stay (fun c v hc q=>k c v ?_ q) (fun _ q=>q) fun _ _ q=>q
  rcases hc with z | z
  ·rw[z];exact nit b u e
  ·exact nit c _ z
theorem Inv.tok(I:Inv X pins σ H s)(t:Nat):Inv X pins σ H { s with toks:=t }:=I.un (h':=s.heap) (t':=t) Un.refl I.hok
theorem Inv.kept{t':Nat}(I:Inv X pins σ H s)(k:∀b u,s.heap.get? b=some u->h'.get? b=some u):Inv X pins σ H { s with heap:=h',toks:=t' }:=I.un (Un.kept k) (I.hok.kept k)
theorem Inv.laid{a:Addr}{o:HO}{t':Nat}(I:Inv X pins σ H s)(k:∀b u,s.heap.get? b=some u->h'.get? b=some u)(hp:s.heap.objs.size<=a)(new:dg X.prog X.w (upd H a o) h' a o) :
  Inv X pins σ (upd H a o) { s with heap:=h',toks:=t' }:=I.un (Un.laid k hp (I.hok.fresh hp)) (I.hok.laid k hp new)
theorem Inv.write{x e:Addr}{o:HO}{t':Nat}(I:Inv X pins σ H s)(mu:Mut (H x))(he:e=x\/H e=some (.own x))(k:∀b u,b≠e->s.heap.get? b=some u->h'.get? b=some u)(heo:∃u,h'.get? e=some u)
  (new:dg X.prog X.w (upd H x o) h' x o):Inv X pins σ (upd H x o) { s with heap:=h',toks:=t' }:=I.un (Un.write mu he k heo) (I.hok.write mu he k heo new)
theorem Inv.pins_of{pins':List (Addr×Obj)}(I:Inv X pins σ H s)(h:∀p∈pins',s.heap.get? p.1=some p.2/\H p.1=none/\p.1≠X.env.locals/\p.1∉X.fs/\∀v,p.2.data≠.cell v):Inv X pins' σ H s :=
 ⟨I.ok,I.os,I.bare,I.base,I.loc,I.cell,I.free,I.freeC,fun p hp=>(List.mem_append.mp hp).elim (fun z=>I.pin p (List.mem_append_left _ z)) (h p),I.hok,I.len⟩
theorem oQ{N:List Str}(hN:N.Nodup){i j:Nat}{x:Str}(a:N[i]?=some x)(b:N[j]?=some x):i=j:=by
 obtain⟨h1,e1⟩:=List.getElem?_eq_some_iff.mp a
 obtain⟨h2,e2⟩:=List.getElem?_eq_some_iff.mp b
 exact(List.getElem_inj hN).mp (e1.trans e2.symm)
theorem lI{M:Model}{A:Around}{E:Value->Shared->Prop}{i:Nat}{x:Str}{v:V}{u:Value}{Q:Unit->Shared->Prop}(I:Inv X pins σ H s)(hN:X.N.Nodup)(hi:X.N[i]?=some x)(hx:Loc X.env.scope x)(r:bq v u)
  (h:∀s',Inv X pins (σ.set i (some v)) H s'->(∃a,Heap.SameBut a s.heap s'.heap/\(a=X.env.locals\/X.env.cells.lookup x=some a))->Q () s') (hf:X.fn x=true\/X.env.scope.names.lookup x=some .local:=by first | exact .inl rfl | exact .inr rfl | assumption):wpAny M A (storeName X.env x u) Q E s:=by
 obtain⟨m,hn,hl⟩:=id I.loc
 have hcls:(X.env.scope.kind==.class ||(X.env.scope.kind==.module&&X.env.locals != X.env.globals))=false:=by rw[I.ok.kind];rfl
 have hiσ:i < σ.length:=by rw[I.len];exact(List.getElem?_eq_some_iff.mp hi).1
 have cne:=I.cne
 have tracked:∀{a:Addr}{h':Heap},(∃o,s.heap.get? a=some o/\H a=none)->Heap.SameBut a s.heap h'->HOk X.prog X.w H h':=fun {a h'} ha hs b ob e=>by
  obtain⟨_,_,hfree⟩:=ha
  refine(I.hok b ob e).stay (fun c w' hc q=>(hs.2 c ?_).trans q) (fun _ q=>q) fun _ _ q=>q
  rintro rfl
  rcases hc with rfl | hc
  ·rw[hfree]at e;cases e
  ·rw[hfree]at hc;cases hc
 rcases hx with hk | hk
 ·refine wpAny_storeName_local hk hn (fun h' hn' hs=>?_) hcls
  obtain⟨oL,_,_,hoL,_⟩:=id hn
  refine h _ ⟨I.ok,I.os,I.bare,⟨fun b o e n hb hx=>?_,fun b o e n hb hx=>?_,I.base.free,fun b o e hx=>?_,I.base.tups,I.base.frzs,I.base.tbls⟩,⟨_,hn',fun j y v' e1 e2 e3=>?_⟩,fun y c e=>?_,I.free,I.freeC,fun p hp=>?_,tracked ⟨oL,hoL,I.free⟩ hs,by simpa using I.len⟩ ⟨_,hs,.inl rfl⟩
  ·exact(hs.2 b (Nat.ne_of_lt (Nat.lt_of_lt_of_le (Heap.lt_size e) I.ok.above))).trans (I.base.keep b o e n hb hx)
  ·obtain⟨sl,e1⟩:=I.base.slot b o e n hb hx
   exact⟨sl,(hs.2 b (Nat.ne_of_lt (Nat.lt_of_lt_of_le (Heap.lt_size e) I.ok.above))).trans e1⟩
  ·obtain⟨o',e1⟩:=I.base.there b o e hx
   exact⟨o',(hs.2 b (Nat.ne_of_lt (Nat.lt_of_lt_of_le (Heap.lt_size e) I.ok.above))).trans e1⟩
  ·by_cases hj:j=i
   ·subst hj
    rw[hi]at e1;cases e1
    rw[List.getElem?_set_self hiσ]at e2
    cases e2
    exact⟨u,r,.inl ⟨hk,by simp⟩⟩
   ·rw[List.getElem?_set_ne (Ne.symm hj)]at e2
    obtain⟨u',r',q⟩:=hl j y v' e1 e2 e3
    refine⟨u',r',?_⟩
    rcases q with⟨k,e⟩ |⟨k,c,e,z⟩
    ·refine .inl ⟨k,?_⟩
     have:y≠x:=fun e=>hj (oQ hN e1 (e▸hi))
     simp[this,e]
    ·exact .inr ⟨k,c,e,z.sameBut hs (cne y c e)⟩
  ·obtain⟨w',z⟩:=I.cell y c e
   exact⟨w',z.sameBut hs (cne y c e)⟩
  ·obtain⟨e,n,ne,nf,d⟩:=I.pin p hp
   exact⟨(hs.2 p.1 ne).trans e,n,ne,nf,d⟩
 ·have hfn:X.fn x=true:=by
   rcases hf with z | z
   ·exact z
   ·rw[z]at hk;cases hk
  obtain⟨c,hc⟩:=I.ok.has x (.inl hk)
  obtain⟨w',z⟩:=I.cell x c hc
  refine wpAny_storeName_cell I.ok.kind hk hc z (fun h' hc' hs=>?_)
  obtain⟨oc,hoc,hocd⟩:=id z
  refine h { s with heap:=h' } ⟨I.ok,I.os,I.bare,⟨fun b o e n hb hx=>?_,fun b o e n hb hx=>?_,I.base.free,fun b o e hx=>?_,I.base.tups,I.base.frzs,I.base.tbls⟩,⟨m,hn.sameBut hs (Ne.symm (cne x c hc)),fun j y v' e1 e2 e3=>?_⟩,fun y c' e=>?_,I.free,I.freeC,fun p hp=>?_,tracked ⟨oc,hoc,I.freeC x c hc⟩ hs,by simpa using I.len⟩ ⟨c,hs,.inr hc⟩
  ·exact(hs.2 b (Nat.ne_of_lt (Nat.lt_of_lt_of_le (Heap.lt_size e) (I.ok.cab x c hfn hc)))).trans (I.base.keep b o e n hb hx)
  ·obtain⟨sl,e1⟩:=I.base.slot b o e n hb hx
   exact⟨sl,(hs.2 b (Nat.ne_of_lt (Nat.lt_of_lt_of_le (Heap.lt_size e) (I.ok.cab x c hfn hc)))).trans e1⟩
  ·obtain⟨o',e1⟩:=I.base.there b o e hx
   exact⟨o',(hs.2 b (Nat.ne_of_lt (Nat.lt_of_lt_of_le (Heap.lt_size e) (I.ok.cab x c hfn hc)))).trans e1⟩
  ·by_cases hj:j=i
   ·subst hj
    rw[hi]at e1;cases e1
    rw[List.getElem?_set_self hiσ]at e2
    cases e2
    exact⟨u,r,.inr ⟨.inl hk,c,hc,hc'⟩⟩
   ·rw[List.getElem?_set_ne (Ne.symm hj)]at e2
    obtain⟨u',r',q⟩:=hl j y v' e1 e2 e3
    refine⟨u',r',?_⟩
    rcases q with q |⟨k,c',e,z'⟩
    ·exact .inl q
    ·refine .inr ⟨k,c',e,z'.sameBut hs ?_⟩
     rintro rfl
     exact hj (oQ hN e1 (I.ok.inj _ _ _ e hc▸hi))
  ·by_cases hcc:c'=c
   ·subst hcc;exact⟨_,hc'⟩
   ·obtain⟨w2,z2⟩:=I.cell y c' e
    exact⟨w2,z2.sameBut hs hcc⟩
  ·obtain⟨e,n,ne,nf,d⟩:=I.pin p hp
   refine⟨(hs.2 p.1 ?_).trans e,n,ne,nf,d⟩
   intro q
   rw[q,hoc]at e
   have q':oc=p.2:=Option.some.inj e
   exact d w' (by rw[<- q'];exact hocd)
theorem oj{M:Model}{A:Around}{E:Value->Shared->Prop}{i:Nat}{x:Str}{v:V}{u:Value}{Q:Unit->Shared->Prop}(I:Inv X pins σ H s)(hN:X.N.Nodup)(hi:X.N[i]?=some x)(hx:Loc X.env.scope x)(r:bq v u)
  (h:∀s',Inv X pins (σ.set i (some v)) H s'->Q () s') (hf:X.fn x=true\/X.env.scope.names.lookup x=some .local:=by first | exact .inl rfl | exact .inr rfl | assumption):wpAny M A (storeName X.env x u) Q E s :=
 lI I hN hi hx r (fun s' I' _=>h s' I') hf
theorem Inv.call'{s':Shared}{ch:List Addr}(I:Inv X pins σ H s)(ho:s'.os=s.os)(u:Un (frs X.stack) ch H H' s.heap s'.heap)(hok:HOk X.prog X.w H' s'.heap)(hg:AllBare s'.gens)
  (hch:∀b∈ch,(b∈X.ex\/X.s₀.heap.objs.size<=b)/\b≠X.env.locals/\(∀x c,X.env.cells.lookup x=some c->c≠b)/\∀p∈X.pn++pins,p.1≠b):Inv X pins σ H' s':=by
 obtain⟨h',g',d',t',o'⟩:=s'
 have e:o'=s.os:=ho
 subst e
 exact I.call (g':=g') (t':=t') (d':=d') u hok hg hch
end
abbrev XK:=Value->Option Addr->Hp->Prop
abbrev St:=List (Option V)
abbrev VK:=V->Hp->Prop
abbrev TE:=St->Hp->VK->Prop
abbrev TT:=St->Hp->(Bool->Hp->Prop)->Prop
abbrev TA:=St->Hp->(List V->Hp->Prop)->Prop
structure Ends where
 nx:St->Hp->Prop
 rt:VK
 bk:St->Hp->Prop:=fun _ _=>False
 ct:St->Hp->Prop:=fun _ _=>False
abbrev TS:=Ends->St->Hp->Prop
def EP(X:Cx)(pins:List (Addr×Obj))(σ:St)(Q:VK)(u:Value)(s':Shared):Prop:=∃v H',Inv X pins σ H' s'/\bq v u/\Q v H'
def TP(X:Cx)(pins:List (Addr×Obj))(σ:St)(Q:Bool->Hp->Prop)(b:Bool)(s':Shared):Prop:=∃H',Inv X pins σ H' s'/\Q b H'
def AP(X:Cx)(pins:List (Addr×Obj))(σ:St)(Q:List V->Hp->Prop)(us:List Value)(s':Shared):Prop:=∃vs H',Inv X pins σ H' s'/\aJ vs us/\Q vs H'
def SP(X:Cx)(pins:List (Addr×Obj))(D:Ends)(f:Flow)(s':Shared):Prop :=
 match f with
 | .next=>∃σ' H',Inv X pins σ' H' s'/\D.nx σ' H'
 | .brk=>∃σ' H',Inv X pins σ' H' s'/\D.bk σ' H'
 | .cont=>∃σ' H',Inv X pins σ' H' s'/\D.ct σ' H'
 | .ret u=>∃v σ' H',Inv X pins σ' H' s'/\bq v u/\D.rt v H'
def PE(X:Cx)(e:Expr)(t:TE):Prop :=
 ∀(pins:List (Addr×Obj)) (s:Shared) (σ:St) (H:Hp) (Q:VK),Inv X pins σ H s->t σ H Q->wpAny (model X.prog X.w) X.A (eval e X.env) (EP X pins σ Q) X.xe s
def PT(X:Cx)(e:Expr)(t:TT):Prop :=
 ∀(pins:List (Addr×Obj)) (s:Shared) (σ:St) (H:Hp) (Q:Bool->Hp->Prop),Inv X pins σ H s->t σ H Q->wpAny (model X.prog X.w) X.A (isTrue e X.env (eval e X.env)) (TP X pins σ Q) X.xe s
def PW(X:Cx)(e:Expr)(t:TT):Prop :=
 ∀(whole:Sem Value) (pins:List (Addr×Obj)) (s:Shared) (σ:St) (H:Hp) (Q:Bool->Hp->Prop),Inv X pins σ H s->t σ H Q->wpAny (model X.prog X.w) X.A (isTrue e X.env whole) (TP X pins σ Q) X.xe s
theorem PW.pt{X:Cx}{e:Expr}{t:TT}(h:PW X e t):PT X e t:=h _
def PA(X:Cx)(es:List Expr)(t:TA):Prop :=
 ∀(pos:Pos) (pins:List (Addr×Obj)) (s:Shared) (σ:St) (H:Hp) (Q:List V->Hp->Prop),Inv X pins σ H s->t σ H Q->wpAny (model X.prog X.w) X.A (spliced (backTo pos (starEach es X.env))) (AP X pins σ Q) X.xe s
def PS(X:Cx)(st:Stmt)(t:TS):Prop :=
 ∀(pins:List (Addr×Obj)) (s:Shared) (σ:St) (H:Hp) (D:Ends),Inv X pins σ H s->t D σ H->wpAny (model X.prog X.w) X.A (exec st X.env) (SP X pins D) X.xe s
def PSs(X:Cx)(st:List Stmt)(t:TS):Prop :=
 ∀(pins:List (Addr×Obj)) (s:Shared) (σ:St) (H:Hp) (D:Ends),Inv X pins σ H s->t D σ H->wpAny (model X.prog X.w) X.A (execs st X.env) (SP X pins D) X.xe s
theorem thn{α:Type}{t:Sem α}{Q Q':α->Shared->Prop}{M:Model}{A:Around}{E:Value->Shared->Prop}{s:Shared}(h:wpAny M A t Q E s)(hQ:∀a s,Q a s->Q' a s):wpAny M A t Q' E s:=wpAny_mono h hQ fun _ _ x=>x
end L2
namespace L2
open PySem PySem.Spec PyProof.Rows
section
variable{X:Cx}
theorem bin{a b:Expr}{ta tb:TE}(ha:PE X a ta)(hb:PE X b tb){pins:List (Addr×Obj)}{s:Shared}{σ:St}{H:Hp}{R:V->V->Hp->Prop}(I:Inv X pins σ H s)(h:ta σ H fun x H1=>tb σ H1 fun y H2=>R x y H2)
  {α:Type}{Q:α->Shared->Prop}{f:Value->Value->Sem α}
  (hf:∀v u s2 x y H2,Inv X pins σ H2 s2->bq x v->bq y u->R x y H2->wpAny (model X.prog X.w) X.A (f v u) Q X.xe s2) :
  wpAny (model X.prog X.w) X.A (eval a X.env) (fun v s₁=>wpAny (model X.prog X.w) X.A (eval b X.env) (fun u s₂=>wpAny (model X.prog X.w) X.A (f v u) Q X.xe s₂) X.xe s₁) X.xe s:=by
 refine thn (ha pins s σ H _ I h) fun v s1 hz1=>?_
 obtain⟨x,H1,I1,r1,q1⟩:=hz1
 refine thn (hb pins s1 σ H1 _ I1 q1) fun u s2 hz1=>?_
 obtain⟨y,H2,I2,r2,q2⟩:=hz1
 exact hf v u s2 x y H2 I2 r1 r2 q2
def yh(i:Nat):TE:=fun σ H Q=>∃v,σ[i]?=some (some v)/\Q v H
def tC(v:V):TE:=fun _ H Q=>Q v H
theorem dH{i:Nat}{x:Str}{pos:Pos}(hN:X.N[i]?=some x)(hv:Vis X.env.scope x)(hd:(x ==("__debug__" : Str))=false:=by decide)(hcd:(x ==("__classdict__" : Str))=false:=by decide):PE X (.Name x pos) (yh i):=by
 intro pins s σ H Q I h
 obtain⟨v,e,h⟩:=h
 obtain⟨m,hn,hl⟩:=I.loc
 obtain⟨u,r,l⟩:=hl i x v hN e hv
 have fin:EP X pins σ Q u s:=⟨v,H,I,r,h⟩
 rcases l with⟨hk,hm⟩ |⟨hk,c,hc,hcell⟩
 ·exact wpAny_Name (wpAny_loadName_local I.ok.kind hk hn hm fin) hd
 ·rcases hk with hk | hk
  ·exact wpAny_Name (wpAny_loadName_cell I.ok.kind hk hc hcell fin) hd
  ·exact wpAny_Name (wpAny_loadName_free I.ok.kind hk hc hcell fin hcd) hd
theorem m8{i j pos}:PE X (.Constant (.int i) j pos) (tC (.int i)):=fun _ _ _ H _ I h=>wpAny_Constant_int ⟨.int i,H,I.tok _,⟨_,rfl⟩,h⟩
theorem Ek{b j pos}:PE X (.Constant (.bool b) j pos) (tC (.bl b)):=fun _ _ _ H _ I h=>Constant_bool ⟨.bl b,H,I,rfl,h⟩
theorem vp{j pos}:PE X (.Constant .none j pos) (tC .non):=fun _ _ _ H _ I h=>Constant_none ⟨.non,H,I,rfl,h⟩
theorem Be{x j pos}:PE X (.Constant (.str x) j pos) (tC (.str x)):=fun _ _ _ H _ I h=>Calls.Constant_str ⟨.str x,H,I.tok _,⟨_,rfl⟩,h⟩
def Gl(X:Cx)(x:Str):Prop:=X.env.kindOf x=some .globalImplicit
theorem jq{E:Value->Shared->Prop}{pins:List (Addr×Obj)}{s:Shared}{σ:St}{H:Hp}{x:Str}{u:Value}{pos:Pos}{Q:Value->Shared->Prop}(I:Inv X pins σ H s)(hg:Gl X x)(hm:X.mg x=some u)(h:Q u s)
  (hd:(x ==("__debug__" : Str))=false:=by decide):wpAny (model X.prog X.w) X.A (eval (.Name x pos) X.env) Q E s :=
 Calls.Name_function_global I.ok.kind hg (Calls.loadGlobal_global (by rw[I.ok.glob];exact I.mod.glob.keeps I.bk) hm h) hd
theorem fv{E:Value->Shared->Prop}{pins:List (Addr×Obj)}{s:Shared}{σ:St}{H:Hp}{x:Str}{u:Value}{pos:Pos}{Q:Value->Shared->Prop}(I:Inv X pins σ H s)(hg:Gl X x)(hm:X.mg x=none)(hv:bootBuiltins x=some u)(h:Q u s)
  (hn:x≠"__name__" := by decide) (hd:(x ==("__debug__" : Str))=false:=by decide):wpAny (model X.prog X.w) X.A (eval (.Name x pos) X.env) Q E s:=by
 obtain⟨mb,h1,h2⟩:=I.mod.blt
 exact Calls.Name_function_global I.ok.kind hg (Calls.loadGlobal_builtin (by rw[I.ok.glob];exact I.mod.glob.keeps I.bk) hm (by rw[I.ok.blt];exact h1.keeps I.bk) ((h2 x hn).trans hv) h) hd
theorem y9{x:Str}{v:V}{u:Value}{pos:Pos}(hg:Gl X x)(hm:X.mg x=some u)(r:bq v u)(hd:(x ==("__debug__" : Str))=false:=by decide):PE X (.Name x pos) (tC v) :=
 fun _ _ _ H _ I h=>jq I hg hm ⟨v,H,I,r,h⟩ hd
theorem za{x:Str}{v:V}{u:Value}{pos:Pos}(hg:Gl X x)(hm:X.mg x=none)(hv:bootBuiltins x=some u)(r:bq v u)(hn:x≠"__name__" := by decide)(hd:(x ==("__debug__" : Str))=false:=by decide):PE X (.Name x pos) (tC v) :=
 fun _ _ _ H _ I h=>fv I hg hm hv ⟨v,H,I,r,h⟩ hn hd
variable{a b:Expr}{ta tb:TE}{pos:Pos}
variable{tA tB':TT}{a_:List Expr}
def Gz(t u:TT):TT:=fun σ H Q=>t σ H fun c H1=>if c=true then u σ H1 Q else Q false H1
def tOr(t u:TT):TT:=fun σ H Q=>t σ H fun c H1=>if c=true then Q true H1 else u σ H1 Q
def Gu(t:TT):TT:=fun σ H Q=>t σ H fun c H1=>Q (!c) H1
theorem yV(ha:PT X a tA):PW X (.BoolOp .And [a] pos) tA:=by
 intro wh pins s σ H Q I h
 refine isTrue_and (thn (ha pins s σ H Q I h) fun c s1 e=>?_)
 cases c with
 | true=>exact isTrue_and_nil e
 | false=>exact e
theorem A6(ha:PT X a tA):PW X (.BoolOp .Or [a] pos) tA:=by
 intro wh pins s σ H Q I h
 refine isTrue_or (thn (ha pins s σ H Q I h) fun c s1 e=>?_)
 cases c with
 | false=>exact isTrue_or_nil e
 | true=>exact e
theorem A7(ha:PT X a tA)(hb:PW X (.BoolOp .And (b::a_) pos) tB'):PW X (.BoolOp .And (a::b::a_) pos) (Gz tA tB'):=by
 intro wh pins s σ H Q I h
 refine isTrue_and (thn (ha pins s σ H _ I h) fun c s1 ⟨H1,I1,q1⟩=>?_)
 cases c with
 | true=>exact hb wh pins s1 σ H1 Q I1 q1
 | false=>exact⟨H1,I1,q1⟩
theorem Ee(ha:PT X a tA)(hb:PW X (.BoolOp .Or (b::a_) pos) tB'):PW X (.BoolOp .Or (a::b::a_) pos) (tOr tA tB'):=by
 intro wh pins s σ H Q I h
 refine isTrue_or (thn (ha pins s σ H _ I h) fun c s1 ⟨H1,I1,q1⟩=>?_)
 cases c with
 | true=>exact⟨H1,I1,q1⟩
 | false=>exact hb wh pins s1 σ H1 Q I1 q1
theorem A8(ha:PT X a tA):PT X (.UnaryOp .Not a pos) (Gu tA):=by
 intro pins s σ H Q I h
 exact isTrue_not (ha pins s σ H (fun c H1=>Q (!c) H1) I h)
def D4(ta tb:TE):TE:=fun σ H Q=>ta σ H fun x H1=>∃c,x=.bl c/\if c=true then tb σ H1 Q else Q (.bl false) H1
def Gs(ta tb:TE):TE:=fun σ H Q=>ta σ H fun x H1=>∃c,x=.bl c/\if c=true then Q (.bl true) H1 else tb σ H1 Q
def DZ(ta:TE):TE:=fun σ H Q=>ta σ H fun x H1=>∃c,x=.bl c/\Q (.bl (!c)) H1
theorem Bf{op}{t:TE}(h:PE X a t):PE X (.BoolOp op [a] pos) t:=fun pins s σ H Q I hw=>BoolOp_one (h pins s σ H Q I hw)
theorem Bm(ha:PE X a ta)(hb:PE X (.BoolOp .And (b::a_) pos) tb):PE X (.BoolOp .And (a::b::a_) pos) (D4 ta tb):=by
 intro pins s σ H Q I h
 refine BoolOp_and (thn (ha pins s σ H _ I h) fun v s1 ⟨x,H1,I1,r1,q1⟩=>?_)
 obtain⟨c,rfl,q1⟩:=q1
 cases r1
 refine wpAny_truthy_bool ?_
 cases c with
 | true=>exact hb pins s1 σ H1 Q I1 q1
 | false=>exact⟨.bl false,H1,I1,rfl,q1⟩
theorem Ei(ha:PE X a ta)(hb:PE X (.BoolOp .Or (b::a_) pos) tb):PE X (.BoolOp .Or (a::b::a_) pos) (Gs ta tb):=by
 intro pins s σ H Q I h
 refine BoolOp_or (thn (ha pins s σ H _ I h) fun v s1 ⟨x,H1,I1,r1,q1⟩=>?_)
 obtain⟨c,rfl,q1⟩:=q1
 cases r1
 refine wpAny_truthy_bool ?_
 cases c with
 | false=>exact hb pins s1 σ H1 Q I1 q1
 | true=>exact⟨.bl true,H1,I1,rfl,q1⟩
theorem Bg(ha:PE X a ta):PE X (.UnaryOp .Not a pos) (DZ ta):=by
 intro pins s σ H Q I h
 refine UnaryOp_ (thn (ha pins s σ H _ I h) fun v s1 ⟨x,H1,I1,r1,q1⟩=>?_)
 obtain⟨c,rfl,q1⟩:=q1
 cases r1
 exact not_of (wpAny_truthy_bool ⟨.bl (!c),H1,I1,rfl,q1⟩)
def tIf(t:TT)(ta tb:TE):TE:=fun σ H Q=>t σ H fun c H1=>if c=true then ta σ H1 Q else tb σ H1 Q
theorem vt{c:Expr}(hc:PT X c tA)(ha:PE X a ta)(hb:PE X b tb):PE X (.IfExp c a b pos) (tIf tA ta tb):=by
 intro pins s σ H Q I h
 refine wpAny_IfExp (thn (hc pins s σ H _ I h) fun d s1 ⟨H1,I1,q1⟩=>?_)
 cases d with
 | true=>exact ha pins s1 σ H1 Q I1 q1
 | false=>exact hb pins s1 σ H1 Q I1 q1
end
end L2
namespace L2
open PySem PySem.Spec PyProof.Rows
def SqL(K:PySem.W.Frag)(H:Hp)(a:Addr)(xs:List V):Prop :=
 Rd H a (.lst xs)\/
  ∃(o:Obj) (its:Array Value) (n:Nat),K.lookup a=some o/\o.cls=.type "list" /\ o.dict=none/\o.data=.seq its n/\its.size<=sizeLine/\aJ xs its.toList
def SqT(K:PySem.W.Frag)(H:Hp)(a:Addr)(xs:List V):Prop :=
 Rd H a (.tup xs)\/
  ∃(o:Obj) (its:Array Value) (n:Nat),K.lookup a=some o/\o.cls=.type "tuple" /\ o.data=.seq its n/\its.size<=sizeLine/\aJ xs its.toList
def Hb:Value->Option V
 | .none=>some .non
 | .bool b=>some (.bl b)
 | .int i _=>some (.int i)
 | .str x _=>some (.str x)
 | .bytes b _=>some (.byt b)
 | .float b _=>some (.flt b)
 | .ref a=>some (.ref a)
 | .type n=>some (.ty n)
 | _=>none
theorem bq.abs{x:V}{u:Value}(r:bq x u):Hb u=some x:=by
 cases x with
 | non | bl _=>cases r;rfl
 | int _ | str _ | byt _ | flt _=>obtain⟨t,rfl⟩:=r;rfl
 | ref _ | ty _=>cases r;rfl
theorem bq.inj{x y:V}{u:Value}(r:bq x u)(q:bq y u):x=y:=Option.some.inj (r.abs.symm.trans q.abs)
theorem aJ.inj:∀{xs ys:List V}{us:List Value},aJ xs us->aJ ys us->xs=ys
 | _,_,_,.nil,.nil=>rfl
 | _,_,_,.cons r t,.cons r' t'=>by rw[r.inj r',aJ.inj t t']
section
variable{X:Cx}{pins:List (Addr×Obj)}{σ:St}{H:Hp}{s:Shared}{a:Addr}{xs ys:List V}
theorem SqL.of{K:PySem.W.Frag}(h:H a=some (.lst xs)):SqL K H a xs:=.inl (.inl h)
theorem SqT.of{K:PySem.W.Frag}(h:H a=some (.tup xs)):SqT K H a xs:=.inl (.inl h)
theorem Inv.list(I:Inv X pins σ H s)(h:SqL X.K H a xs):∃its:List Value,aJ xs its/\PlainL s.heap a its.toArray/\xs.length<=sizeLine:=by
 rcases h with h |⟨o,its,n,hk,hc,hd,hs,hz,r⟩
 ·obtain⟨z,its,n,r,e⟩:=h.ok I.hok
  exact⟨its,r,⟨_,n,e,rfl,rfl,rfl⟩,z⟩
 ·refine⟨its.toList,r,⟨o,n,I.kIn a o hk,hc,hd,by simpa using hs⟩,?_⟩
  have e:=r.length
  simp only[Array.length_toList]at e
  omega
theorem Inv.tuple(I:Inv X pins σ H s)(h:SqT X.K H a xs):∃its:List Value,aJ xs its/\IsTup s.heap a its.toArray/\xs.length<=sizeLine:=by
 rcases h with h |⟨o,its,n,hk,hc,hs,hz,r⟩
 ·obtain⟨z,its,r,p⟩:=h.ok I.hok
  exact⟨its,r,p,z⟩
 ·refine⟨its.toList,r,⟨o,I.kIn a o hk,hc,n,by simpa using hs⟩,?_⟩
  have e:=r.length
  simp only[Array.length_toList]at e
  omega
theorem Inv.list_inj(I:Inv X pins σ H s)(h:SqL X.K H a xs)(h':SqL X.K H a ys):xs=ys:=by
 obtain⟨its,r,⟨o,n,e,_,_,d⟩,_⟩:=I.list h
 obtain⟨its',r',⟨o',n',e',_,_,d'⟩,_⟩:=I.list h'
 rw[e]at e';cases e'
 rw[d]at d'
 injection d' with d1 _
 have:its=its':=by simpa using congrArg Array.toList d1
 subst this
 exact r.inj r'
theorem Inv.tuple_inj(I:Inv X pins σ H s)(h:SqT X.K H a xs)(h':SqT X.K H a ys):xs=ys:=by
 obtain⟨its,r,⟨o,e,_,n,d⟩,_⟩:=I.tuple h
 obtain⟨its',r',⟨o',e',_,n',d'⟩,_⟩:=I.tuple h'
 rw[e]at e';cases e'
 rw[d]at d'
 injection d' with d1 _
 have:its=its':=by simpa using congrArg Array.toList d1
 subst this
 exact r.inj r'
end
abbrev Cx.wish(X:Cx)(E:Value->Shared->Prop):Cx:={ X with xe:=E }
abbrev Cx.nox(X:Cx):Cx:=X.wish fun _ _=>False
theorem Cx.Ok.wish{X:Cx}(ok:X.Ok)(E:Value->Shared->Prop):(X.wish E).Ok :=
 ⟨ok.mod,ok.kind,ok.glob,ok.blt,ok.above,ok.inj,ok.has,ok.cab,ok.hd,ok.frames,ok.stk,ok.exf,ok.bs,ok.bsz,ok.noex,ok.exfs,ok.funs,ok.frf⟩
theorem Cx.Ok.unwish{X:Cx}{E:Value->Shared->Prop}(ok:(X.wish E).Ok):X.Ok :=
 ⟨ok.mod,ok.kind,ok.glob,ok.blt,ok.above,ok.inj,ok.has,ok.cab,ok.hd,ok.frames,ok.stk,ok.exf,ok.bs,ok.bsz,ok.noex,ok.exfs,ok.funs,ok.frf⟩
section
variable{X:Cx}{pins:List (Addr×Obj)}{σ:St}{H:Hp}{s:Shared}{E:Value->Shared->Prop}
theorem Inv.wish(I:Inv X pins σ H s)(E:Value->Shared->Prop):Inv (X.wish E) pins σ H s:=⟨I.ok.wish E,I.os,I.bare,I.base,I.loc,I.cell,I.free,I.freeC,I.pin,I.hok,I.len⟩
theorem Inv.unwish(I:Inv (X.wish E) pins σ H s):Inv X pins σ H s:=⟨I.ok.unwish,I.os,I.bare,I.base,I.loc,I.cell,I.free,I.freeC,I.pin,I.hok,I.len⟩
theorem SP.unwish{D:Ends}{f:Flow}{s':Shared}(h:SP (X.wish E) pins D f s'):SP X pins D f s':=by
 cases f with
 | next | brk | cont=>obtain⟨σ',H',I,q⟩:=h;exact⟨σ',H',I.unwish,q⟩
 | ret u=>obtain⟨v,σ',H',I,r,q⟩:=h;exact⟨v,σ',H',I.unwish,r,q⟩
theorem PE.nox{e:Expr}{t:TE}(h:PE X.nox e t):PE X e t:=fun pins s σ H Q I hw =>
 wpAny_mono (h pins s σ H Q (I.wish _) hw) (fun _ _ ⟨v,H',I',r,q⟩=>⟨v,H',I'.unwish,r,q⟩) fun _ _ z=>False.elim z
theorem PT.nox{e:Expr}{t:TT}(h:PT X.nox e t):PT X e t:=fun pins s σ H Q I hw =>
 wpAny_mono (h pins s σ H Q (I.wish _) hw) (fun _ _ ⟨H',I',q⟩=>⟨H',I'.unwish,q⟩) fun _ _ z=>False.elim z
theorem PSs.nox{st:List Stmt}{t:TS}(h:PSs X.nox st t):PSs X st t:=fun pins s σ H D I hw =>
 wpAny_mono (h pins s σ H D (I.wish _) hw) (fun _ _ q=>q.unwish) fun _ _ z=>False.elim z
variable{st:Stmt}{a_:List Stmt}{t u:TS}{e:Expr}{te:TE}{pos:Pos}
def D0:TS:=fun D σ H=>D.nx σ H
def DW(t u:TS):TS:=fun D σ H=>t { D with nx:=u D } σ H
theorem yX:PSs X [] D0:=fun _ _ σ H _ I h=>wpAny_execs_nil ⟨σ,H,I,h⟩
theorem oF(h1:PS X st t)(h2:PSs X a_ u):PSs X (st::a_) (DW t u):=by
 intro pins s σ H D I h
 refine wpAny_execs_cons (thn (h1 pins s σ H { D with nx:=u D } I h) fun f s1 q=>?_)
 cases f with
 | next =>
  obtain⟨σ',H',I',q⟩:=q
  exact h2 pins s1 σ' H' D I' q
 | ret v | brk | cont=>exact q
theorem rM(h1:PS X st t):PSs X [st] t:=by
 intro pins s σ H D I h
 refine wpAny_execs_cons (thn (h1 pins s σ H D I h) fun f s1 q=>?_)
 cases f with
 | next=>exact wpAny_execs_nil q
 | ret v | brk | cont=>exact q
theorem Inv.quiet{pins:List (Addr×Obj)}{σ:St}{H:Hp}{s:Shared}(I:Inv X pins σ H s):interactive X.env=false:=by simp[interactive,I.ok.kind]
def D2(te:TE):TS:=fun D σ H=>te σ H fun _ H1=>D.nx σ H1
theorem hZ(he:PE X e te)(hs:swapsWith e none pos.line X.env=pure false:=by rfl):PS X (.Expr e pos) (D2 te):=by
 intro pins s σ H D I h
 exact wpAny_Expr_any (thn (he pins s σ H _ I h) fun v s1 ⟨x,H1,I1,r1,q1⟩=>⟨σ,H1,I1,q1⟩) I.quiet hs
def Gq(te:TE):TS:=fun D σ H=>te σ H D.rt
theorem qo(he:PE X e te):PS X (.Return (some e) pos) (Gq te):=by
 intro pins s σ H D I h
 exact wpAny_Return_some (thn (he pins s σ H _ I h) fun v s1 ⟨x,H1,I1,r1,q1⟩=>⟨x,σ,H1,I1,r1,q1⟩)
def DX:TS:=fun D _ H=>D.rt .non H
theorem yY:PS X (.Return none pos) DX:=fun _ _ σ H _ I h=>wpAny_Return_none ⟨.non,σ,H,I,rfl,h⟩
def Gw(c:TT)(t u:TS):TS:=fun D σ H=>c σ H fun b H1=>if b=true then t D σ H1 else u D σ H1
theorem Ef{c:Expr}{a b:List Stmt}{tc:TT}(hc:PT X c tc)(ha:PSs X a t)(hb:PSs X b u):PS X (.If c a b pos) (Gw tc t u):=by
 intro pins s σ H D I h
 refine wpAny_If (thn (hc pins s σ H _ I h) fun d s1 ⟨H1,I1,q1⟩=>?_)
 cases d with
 | true=>exact ha pins s1 σ H1 D I1 q1
 | false=>exact hb pins s1 σ H1 D I1 q1
end
abbrev TG:=V->St->Hp->(St->Hp->Prop)->Prop
abbrev TGs:=List V->St->Hp->(St->Hp->Prop)->Prop
def PG(X:Cx)(target:Expr)(t:TG):Prop :=
 ∀(pins:List (Addr×Obj)) (s:Shared) (σ:St) (H:Hp) (v:V) (u:Value) (Q:St->Hp->Prop),Inv X pins σ H s->bq v u->t v σ H Q ->
  wpAny (model X.prog X.w) X.A (assign target X.env u) (fun _ s'=>∃σ' H',Inv X pins σ' H' s'/\Q σ' H') X.xe s
def PGs(X:Cx)(ts:List Expr)(t:TGs):Prop :=
 ∀(pins:List (Addr×Obj)) (s:Shared) (σ:St) (H:Hp) (vs:List V) (us:List Value) (Q:St->Hp->Prop),Inv X pins σ H s->aJ vs us->t vs σ H Q ->
  wpAny (model X.prog X.w) X.A (assignInOrder ((assignEach ts X.env).map (·.2)) us) (fun _ s'=>∃σ' H',Inv X pins σ' H' s'/\Q σ' H') X.xe s
abbrev Di:=V->V->V->Hp->(Hp->Prop)->Prop
def Fz(X:Cx)(t:Di):Prop :=
 ∀(pins:List (Addr×Obj)) (s:Shared) (σ:St) (H:Hp) (o i v:V) (ov iv u:Value) (Q:Hp->Prop),Inv X pins σ H s->bq o ov->bq i iv->bq v u->t o i v H Q ->
  wpAny (model X.prog X.w) X.A (setItem ov iv u) (fun _ s'=>∃H',Inv X pins σ H' s'/\Q H') X.xe s
section
variable{X:Cx}{pos:Pos}
def Ay(i:Nat):TG:=fun v σ H Q=>Q (σ.set i (some v)) H
theorem m7{i:Nat}{x:Str}(hN:X.N.Nodup)(hi:X.N[i]?=some x)(hx:Loc X.env.scope x)(hf:X.fn x=true\/X.env.scope.names.lookup x=some .local:=by first | exact .inl rfl | exact .inr rfl | assumption):PG X (.Name x pos) (Ay i):=by
 intro pins s σ H v u Q I r h
 exact wpAny_assign_Name (oj I hN hi hx r (fun s' I'=>⟨_,H,I',h⟩) hf)
def G4:TGs:=fun vs σ H Q=>vs=[]/\Q σ H
def Fn(t:TG)(u:TGs):TGs:=fun vs σ H Q=>∃v r,vs=v::r/\t v σ H fun σ' H'=>u r σ' H' Q
theorem y7:PGs X [] G4:=by
 intro pins s σ H vs us Q I r h
 obtain⟨e,h⟩:=h
 subst e
 cases r
 exact assignInOrder_nil ⟨σ,H,I,h⟩
theorem vk{e:Expr}{es:List Expr}{t:TG}{u:TGs}(h1:PG X e t)(h2:PGs X es u)
  (hs:(assignEach (e::es) X.env).map (·.2)=assign e X.env::(assignEach es X.env).map (·.2):=by rfl):PGs X (e::es) (Fn t u):=by
 intro pins s σ H vs us Q I r h
 obtain⟨v,vr,e1,h⟩:=h
 subst e1
 cases r with
 | cons r rr =>
  rw[hs]
  refine assignInOrder_cons (thn (h1 pins s σ H _ _ _ I r h) fun _ s1 ⟨σ1,H1,I1,q1⟩=>?_)
  exact h2 pins s1 σ1 H1 _ _ Q I1 rr q1
def G2(K:PySem.W.Frag)(n:Nat)(t:TGs):TG:=fun v σ H Q=>∃a xs,v=.ref a/\SqT K H a xs/\xs.length=n/\t xs σ H Q
theorem Bc{es:List Expr}{k:Nat}{t:TGs}{n:Nat}(hc:X.calm=true)(h:PGs X es t)
  (hn:(assignEach es X.env).length=n:=by rfl) (hst:(assignEach es X.env).findIdx? (·.1)=none:=by rfl):PG X (.Tuple es k pos) (G2 X.K n t):=by
 intro pins s σ H v u Q I r hw
 obtain⟨a,xs,e1,hq,hl,hw⟩:=hw
 subst e1
 cases r
 obtain⟨its,rv,ht,hz⟩:=I.tuple hq
 refine assign_Tuple_tuple (I.ok.hd hc) ht (by simp[hn,<- hl,rv.length]) hst fun h' hx=>?_
 have I1:Inv X pins σ H { s with heap:=h' }:=I.kept (t':=s.toks) fun b o e=>hx b o (Nat.ne_of_lt (Heap.lt_size e)) e
 exact h pins _ σ H xs _ Q I1 (by simpa using rv) hw
def G3(to ti:TE)(t:Di):TG:=fun v σ H Q=>to σ H fun o H1=>ti σ H1 fun i H2=>t o i v H2 fun H3=>Q σ H3
theorem Bd{o i:Expr}{to ti:TE}{t:Di}(ho:PE X o to)(hi:PE X i ti)(hs:Fz X t)
  (ha:∀ v,assign (.Subscript o i pos) X.env v=(do
   let ov <- holding [v] (eval o X.env)
   let iv <- holding [v,ov] (eval i X.env)
   standAt pos
   holding [v,ov,iv] (setItem ov iv v)
   release [v,ov,iv] []):=by intro _;rfl):PG X (.Subscript o i pos) (G3 to ti t):=by
 intro pins s σ H v u Q I r h
 rw[ha]
 refine wpAny_bind (wpAny_holding (thn (ho pins s σ H _ I h) fun ov s1 ⟨x,H1,I1,r1,q1⟩=>?_))
 refine wpAny_bind (wpAny_holding (thn (hi pins s1 σ H1 _ I1 q1) fun iv s2 ⟨y,H2,I2,r2,q2⟩=>?_))
 refine wpAny_bind (wpAny_standAt (wpAny_bind (wpAny_holding (thn (hs pins s2 σ H2 x y v ov iv u _ I2 r1 r2 r q2) fun _ s3 ⟨H3,I3,q3⟩=>?_))))
 exact wpAny_release ⟨σ,H3,I3,q3⟩
def D3(te:TE)(g:TG):TS:=fun D σ H=>te σ H fun x H1=>g x σ H1 D.nx
theorem A_{tg e:Expr}{te:TE}{g:TG}(he:PE X e te)(hg:PG X tg g)(hs:swapsWithSole [tg] e pos.line X.env=pure false:=by rfl)(hw:swappedStores [tg] e X.env=pure none:=by rfl)
  (h1:(assignEach [tg] X.env).map (·.2)=[assign tg X.env]:=by rfl):PS X (.Assign [tg] e pos) (D3 te g):=by
 intro pins s σ H D I h
 refine wpAny_Assign_stores (thn (he pins s σ H _ I h) fun v s1 ⟨x,H1,I1,r1,q1⟩=>?_) hs hw
 rw[h1]
 exact thn (hg pins s1 σ H1 x v _ I1 r1 q1) fun _ s2 q=>q
theorem vc{i:Nat}{x:Str}{e:Expr}{te:TE}{pos':Pos}(hN:X.N.Nodup)(hi:X.N[i]?=some x)(hx:Loc X.env.scope x)(he:PE X e te)(hs:swapsWith e (some (.Name x pos')) pos.line X.env=pure false:=by rfl)(hf:X.fn x=true\/X.env.scope.names.lookup x=some .local:=by first | exact .inl rfl | exact .inr rfl | assumption) :
  PS X (.Assign [.Name x pos'] e pos) (D3 te (Ay i)):=by
 intro pins s σ H D I h
 refine wpAny_Assign_Name (thn (he pins s σ H _ I h) fun v s1 ⟨y,H1,I1,r1,q1⟩=>?_) hs
 exact oj I1 hN hi hx r1 (fun s2 I2=>⟨_,H1,I2,q1⟩) hf
def AI(c:TT)(tb:TS):TS:=fun D σ H=>∃W:Nat->St->Hp->Prop,(∃m,W m σ H)/\∀m σ H,W m σ H ->
 c σ H fun b H1=>if b=true then ∃N:St->Hp->Prop,(∀σ' H',N σ' H'->∃m',m' < m/\W m' σ' H')/\tb { D with nx:=N,ct:=N,bk:=D.nx } σ H1 else D.nx σ H1
theorem u_{c:Expr}{body:List Stmt}{tc:TT}{tb:TS}(hp:PassesOwn (model X.prog X.w) X.A X.env X.xe)(hc:PT X c tc)(hb:PSs X body tb):PS X (.While c body [] pos) (AI tc tb):=by
 intro pins s σ H D I h
 obtain⟨W,⟨m0,w0⟩,turn⟩:=h
 refine wpAny_While (codeAny_whileLoop (fun n s'=>∃σ' H',Inv X pins σ' H' s'/\W n σ' H') ?_ m0 ⟨σ,H,I,w0⟩)
 rintro n s1 ⟨σ1,H1,I1,w1⟩
 refine wpAny_passesOwn hp (thn (hc pins s1 σ1 H1 _ I1 (turn n σ1 H1 w1)) fun b s2 ⟨H2,I2,q2⟩=>?_)
 cases b with
 | true =>
  obtain⟨N,hN,q2⟩:=q2
  rw[if_pos rfl]
  refine wpAny_passesOwn hp (thn (hb pins s2 σ1 H2 _ I2 q2) fun f s3 q3=>?_)
  cases f with
  | next =>
   obtain⟨σ3,H3,I3,n3⟩:=q3
   obtain⟨m',hm,w3⟩:=hN σ3 H3 n3
   exact⟨m',hm,σ3,H3,I3,w3⟩
  | cont =>
   obtain⟨σ3,H3,I3,n3⟩:=q3
   obtain⟨m',hm,w3⟩:=hN σ3 H3 n3
   exact⟨m',hm,σ3,H3,I3,w3⟩
  | brk | ret v=>exact q3
 | false =>
  rw[if_neg Bool.false_ne_true]
  exact wpAny_execs_nil ⟨σ1,H2,I2,q2⟩
end
structure It where
 go:Nat->Hp->Prop
 yld:Nat->Hp->V->Hp->Prop
 stop:Nat->Hp->Prop
def lh(X:Cx)(pins:List (Addr×Obj))(H:Hp)(b:Addr):Prop :=
 H b=none/\b≠X.env.locals/\b∉X.fs/\(b∈X.ex\/X.s₀.heap.objs.size<=b)/\(∀x c,X.env.cells.lookup x=some c->c≠b)/\∀p∈X.pn++pins,p.1≠b
theorem Inv.fpOk{X:Cx}{pins:List (Addr×Obj)}{σ:St}{H H':Hp}{s:Shared}{b:Addr}(I:Inv X pins σ H s)(hb:s.heap.objs.size<=b)(hn:H' b=none):lh X pins H' b:=by
 refine⟨hn,Nat.ne_of_gt (Nat.lt_of_lt_of_le I.lt hb),I.nofs hb,.inr (Nat.le_trans I.sz hb),fun x c e z=>?_,fun p hp z=>?_⟩
 ·obtain⟨v,q⟩:=I.cell x c e
  exact absurd (Nat.lt_of_lt_of_le q.lt (by rw[z];exact hb)) (Nat.lt_irrefl _)
 ·exact absurd (Nat.lt_of_lt_of_le (Heap.lt_size (I.pin p hp).1) (by rw[z];exact hb)) (Nat.lt_irrefl _)
structure qX(P:Program)(w:World)(K:PySem.W.Frag)(tg:Expr)(J:It)(fp:List Addr)(it:Addr)(tn:Nat->Heap->Prop):Prop where
 mem:it∈fp
 obj:∀i h,tn i h->∀b∈fp,∃o,h.get? b=some o/\∀v,o.data≠.cell v
 keep:∀i h h',tn i h->(∀b∈fp,∀o,h.get? b=some o->h'.get? b=some o)->tn i h'
 item:∀(X:Cx),X.prog=P->X.w=w->X.K=K->X.calm=true->∀(i:Nat) (pins:List (Addr×Obj)) (s:Shared) (σ:St) (H:Hp) (E:Value->Shared->Prop),Inv X pins σ H s->(∀b∈fp,lh X pins H b)->tn i s.heap->J.go i H ->
  wpAny (model P w) X.A (pyNext (.ref it)) (fun r s1=>∃ u,r=some u /\
   wpAny (model P w) X.A (letOwnedTupleGo tg (.ref it) u) (fun _ s2=>∃x H',Inv X pins σ H' s2/\bq x u/\J.yld i H x H'/\tn (i+1) s2.heap/\∀b∈fp,H' b=none) E s1) E s
 done:∀(X:Cx),X.prog=P->X.w=w->X.K=K->X.calm=true->∀(i:Nat) (pins:List (Addr×Obj)) (s:Shared) (σ:St) (H:Hp) (E:Value->Shared->Prop),Inv X pins σ H s->(∀b∈fp,lh X pins H b)->tn i s.heap->J.stop i H ->
  wpAny (model P w) X.A (pyNext (.ref it)) (fun r s1=>r=none/\Inv X pins σ H s1) E s
 self:∀(A:Around) (i:Nat) (s:Shared) (Q:Value->Shared->Prop) (E:Value->Shared->Prop),tn i s.heap->Q (.ref it) s->wpAny (model P w) A (pyIter (.ref it)) Q E s
abbrev TI:=St->Hp->(It->Hp->Prop)->Prop
def PIE(X:Cx)(pins:List (Addr×Obj))(σ:St)(tg:Expr)(R:It->Hp->Prop)(itv:Value)(s2:Shared):Prop :=
 ∃(it:Addr) (fp:List Addr) (tn:Nat->Heap->Prop) (J:It) (H':Hp),itv=.ref it/\Inv X pins σ H' s2/\qX X.prog X.w X.K tg J fp it tn/\tn 0 s2.heap/\(∀b∈fp,lh X pins H' b)/\R J H'
def PI(X:Cx)(tg iter:Expr)(wi:TI):Prop :=
 ∀(pins:List (Addr×Obj)) (s:Shared) (σ:St) (H:Hp) (R:It->Hp->Prop),Inv X pins σ H s->wi σ H R ->
  wpAny (model X.prog X.w) X.A (eval iter X.env) (fun v s1=>wpAny (model X.prog X.w) X.A (pyIter v) (PIE X pins σ tg R) X.xe s1) X.xe s
theorem wp{M:Model}{A:Around}{E:Value->Shared->Prop}{s:Shared}{tg:Expr}{it:Addr}{u:Value}{o:Obj}{n:String}{vs:Array Value}{Q:Unit->Shared->Prop}(ho:s.heap.get? it=some o)(hc:o.cls=.type n)(hd:o.data=.fields vs)
    (hn:["enumerate", "zip", "dict_itemiterator", "dict_reverseitemiterator", "odict_iterator", "itertools.zip_longest", "itertools.pairwise"].contains n=false) (hQ:Q () s):wpAny M A (letOwnedTupleGo tg (.ref it) u) Q E s:=by
  unfold letOwnedTupleGo
  cases tg<;>first
    | exact wpAny_pure hQ
    | (cases u <;> first
        | exact wpAny_pure hQ
        | (refine wpAny_bind (wpAny_load ho ?_)
           rw[hc,hd]
           show wpAny M A (if(["enumerate", "zip", "dict_itemiterator", "dict_reverseitemiterator", "odict_iterator", "itertools.zip_longest", "itertools.pairwise"].contains n&&vs[0]?==some (rawInt _))=true then _ else _) Q E s
           rw[if_neg (by intro h;rw[hn,Bool.false_and]at h;cases h)]
           exact wpAny_pure hQ))
def Itl(K:PySem.W.Frag)(a:Addr):It :=
 ⟨fun i H=>∃xs x,SqL K H a xs/\xs[i]?=some x,fun i H x H'=>H'=H/\∀xs,SqL K H a xs->xs[i]?=some x,fun i H=>∃xs,SqL K H a xs/\xs.length<=i⟩
def Itt(K:PySem.W.Frag)(a:Addr):It :=
 ⟨fun i H=>∃xs x,SqT K H a xs/\xs[i]?=some x,fun i H x H'=>H'=H/\∀xs,SqT K H a xs->xs[i]?=some x,fun i H=>∃xs,SqT K H a xs/\xs.length<=i⟩
def Itr(lo:Int)(n:Nat):It:=⟨fun i _=>i < n,fun i H x H'=>H'=H/\x=.int (lo+i),fun i _=>n<=i⟩
theorem sK{P:Program}{w:World}{K:PySem.W.Frag}{tg:Expr}(a it:Addr):qX P w K tg (Itl K a) [it] it (fun i h=>h.IsListIter it a i) where
 mem:=by simp
 obj:=fun i h st b hb=>by
  have e:b=it:=by simpa using hb
  subst e
  obtain⟨o,e,c,d⟩:=st
  exact⟨o,e,fun v z=>by rw[d]at z;cases z⟩
 keep:=fun i h h' st k=>st.at fun o e=>k it (by simp) o e
 item:=by
  intro X hP hw hK hc i pins s σ H E I hf st hg
  subst hP hw hK
  obtain⟨xs,x,hq,hx⟩:=hg
  obtain⟨its,rv,p,hz⟩:=I.list hq
  obtain⟨u,hu,ru⟩:=rv.get hx
  obtain⟨f0,f1,f2,f3,f4,f5⟩:=hf it (by simp)
  refine wpAny_pyNext_list_item st p.isList (x:=u) (by simpa using hu) fun h' st' sb=>?_
  have I1:Inv X pins σ H { s with heap:=h' }:=I.turned (t':=s.toks) (fun b o hb e=>(sb.2 b hb).trans e) f0 f1 f3 f4 f5
  obtain⟨o,e,c,d⟩:=id st'
  exact⟨u,rfl,wp (s:={ s with heap:=h' }) e c d (by decide) ⟨x,H,I1,ru,⟨rfl,fun ys hy=>by rw[I.list_inj hy hq];exact hx⟩,st',fun b hb=>(hf b hb).1⟩⟩
 done:=by
  intro X hP hw hK hc i pins s σ H E I hf st hg
  subst hP hw hK
  obtain⟨xs,hq,hx⟩:=hg
  obtain⟨its,rv,p,hz⟩:=I.list hq
  obtain⟨f0,f1,f2,f3,f4,f5⟩:=hf it (by simp)
  have hl:=rv.length
  exact wpAny_pyNext_list_end (I.ok.hd hc) st p.isList (by simp;omega) fun h' eb=>⟨rfl,I.turned (t':=s.toks) (fun b o hb e=>eb b o hb e) f0 f1 f3 f4 f5⟩
 self:=fun _ _ _ _ _ st h=>wpAny_pyIter_listiter st h
theorem pV{P:Program}{w:World}{K:PySem.W.Frag}{tg:Expr}(a it:Addr):qX P w K tg (Itt K a) [it] it (fun i h=>h.IsTupleIter it a i) where
 mem:=by simp
 obj:=fun i h st b hb=>by
  have e:b=it:=by simpa using hb
  subst e
  obtain⟨o,e,c,d⟩:=st
  exact⟨o,e,fun v z=>by rw[d]at z;cases z⟩
 keep:=fun i h h' st k=>st.at fun o e=>k it (by simp) o e
 item:=by
  intro X hP hw hK hc i pins s σ H E I hf st hg
  subst hP hw hK
  obtain⟨xs,x,hq,hx⟩:=hg
  obtain⟨its,rv,p,hz⟩:=I.tuple hq
  obtain⟨u,hu,ru⟩:=rv.get hx
  obtain⟨f0,f1,f2,f3,f4,f5⟩:=hf it (by simp)
  refine wpAny_pyNext_tuple_item st (show s.heap.IsTuple a its.toArray from p) (x:=u) (by simpa using hu) fun h' st' sb=>?_
  have I1:Inv X pins σ H { s with heap:=h' }:=I.turned (t':=s.toks) (fun b o hb e=>(sb.2 b hb).trans e) f0 f1 f3 f4 f5
  obtain⟨o,e,c,d⟩:=id st'
  exact⟨u,rfl,wp (s:={ s with heap:=h' }) e c d (by decide) ⟨x,H,I1,ru,⟨rfl,fun ys hy=>by rw[I.tuple_inj hy hq];exact hx⟩,st',fun b hb=>(hf b hb).1⟩⟩
 done:=by
  intro X hP hw hK hc i pins s σ H E I hf st hg
  subst hP hw hK
  obtain⟨xs,hq,hx⟩:=hg
  obtain⟨its,rv,p,hz⟩:=I.tuple hq
  obtain⟨f0,f1,f2,f3,f4,f5⟩:=hf it (by simp)
  have hl:=rv.length
  exact wpAny_pyNext_tuple_end (I.ok.hd hc) st (show s.heap.IsTuple a its.toArray from p) (by simp;omega) fun h' eb=>⟨rfl,I.turned (t':=s.toks) (fun b o hb e=>eb b o hb e) f0 f1 f3 f4 f5⟩
 self:=fun _ _ _ _ _ st h=>wpAny_pyIter_tupleiter st h
theorem kr{P:Program}{w:World}{K:PySem.W.Frag}{tg:Expr}(it:Addr)(lo:Int)(n:Nat):qX P w K tg (Itr lo n) [it] it (fun i h=>IsRangeIter h it (lo+(i:Nat) * 1) ((n:Int) - (i:Nat)) 1) where
 mem:=by simp
 obj:=fun i h st b hb=>by
  have e:b=it:=by simpa using hb
  subst e
  exact ⟨_,st,fun v z=>by
   have z':Data.fields _=Data.cell v:=z
   cases z'⟩
 keep:=fun i h h' st k=>k it (by simp) _ st
 item:=by
  intro X hP hw hK hc i pins s σ H E I hf st hg
  subst hP hw hK
  obtain⟨f0,f1,f2,f3,f4,f5⟩:=hf it (by simp)
  have W:=Walks.range (prog:=X.prog) (w:=X.w) (I.ok.hd hc) it lo 1 n
  refine W.item i s _ _ hg st fun v h' tk hv st' kk=>?_
  obtain⟨t,rfl⟩:=hv
  have I1:Inv X pins σ H { s with heap:=h',toks:=tk }:=I.turned (fun b o hb e=>kk b o (by simpa using hb) e) f0 f1 f3 f4 f5
  refine⟨_,rfl,wp (s:={ s with heap:=h',toks:=tk }) (n := "range_iterator") st' rfl rfl (by decide) ⟨.int (lo+i),H,I1,⟨t,?_⟩,⟨rfl,rfl⟩,st',fun b hb=>(hf b hb).1⟩⟩
  rw[Int.mul_one]
 done:=by
  intro X hP hw hK hc i pins s σ H E I hf st hg
  subst hP hw hK
  obtain⟨f0,f1,f2,f3,f4,f5⟩:=hf it (by simp)
  exact wpAny_pyNext_range_end (I.ok.hd hc) st (by have:n<=i:=hg;omega) fun h' eb=>⟨rfl,I.turned (t':=s.toks) (fun b o hb e=>eb b o hb e) f0 f1 f3 f4 f5⟩
 self:=fun _ _ _ _ _ st h=>wpAny_pyIter_rangeiter st h
end L2
namespace L2
open PySem PySem.Spec PyProof.Rows
section
variable{X:Cx}{tg:Expr}
theorem kG{pins:List (Addr×Obj)}{σ:St}{H:Hp}{s:Shared}{R:It->Hp->Prop}{E:Value->Shared->Prop}{lo hi:Int}{t u v:Tok}{tk:Nat}(I:Inv X pins σ H s)(h1:-(2 ^ 62)<= lo)(h2:lo < 2 ^ 62)(h3:-(2 ^ 62)<= hi)(h4:hi < 2 ^ 62)
  (q:R (Itr lo (hi - lo).toNat) H):wpAny (model X.prog X.w) X.A (pyIter (.ref s.heap.objs.size)) (PIE X pins σ tg R) E { s with heap:=s.heap.push { cls:=.type "range", data:=.fields #[.int lo t,.int hi u,.int 1 v] },toks:=tk }:=by
 refine wpAny_pyIter_range (IsRange.new ..) (small_one h1 h2 h3 h4) ?_
 have I1:Inv X pins σ H { s with heap:=s.heap.push { cls:=.type "range", data:=.fields #[.int lo t,.int hi u,.int 1 v] },toks:=tk }:=I.kept fun b o e=>Heap.get?_push_of_some _ e
 refine ⟨(s.heap.push { cls:=.type "range", data:=.fields #[.int lo t,.int hi u,.int 1 v] }).objs.size,[(s.heap.push { cls:=.type "range", data:=.fields #[.int lo t,.int hi u,.int 1 v] }).objs.size],_,_,H,rfl,
  I1.kept (t':=tk) fun b o e=>Heap.get?_push_of_some _ e,kr _ lo (hi - lo).toNat,?_,fun b hb=>?_,q⟩
 ·have e1:lo+((0:Nat):Int) * 1=lo:=by simp
  have e2:(((hi - lo).toNat:Nat):Int) - ((0:Nat):Int)=Builtin.Range.rangeSize lo hi 1:=by rw[rangeSize_one];split<;>omega
  show IsRangeIter _ _ (lo+((0:Nat):Int) * 1) ((((hi - lo).toNat:Nat):Int) - ((0:Nat):Int)) 1
  rw[e1,e2]
  exact Heap.get?_push_size _ rfl
 ·have e:b=(s.heap.push { cls:=.type "range", data:=.fields #[.int lo t,.int hi u,.int 1 v] }).objs.size:=by simpa using hb
  subst e
  exact I1.fpOk (Nat.le_refl _) (I1.hok.fresh (Nat.le_refl _))
def Ff(ta:TA):TI:=fun σ H R=>ta σ H fun vs H1=>∃j:Int,vs=[.int j]/\-(2 ^ 62)<= j/\j < 2 ^ 62/\R (Itr 0 j.toNat) H1
def Fe(ta:TA):TI:=fun σ H R=>ta σ H fun vs H1=>∃i j:Int,vs=[.int i,.int j]/\(-(2 ^ 62)<= i/\i < 2 ^ 62/\-(2 ^ 62)<= j/\j < 2 ^ 62)/\R (Itr i (j - i).toNat) H1
theorem lU{a:Expr}{ta:TA}{p pos:Pos}(hg:Gl X "range")(hm:X.mg "range" = none)(ha:PA X [a] ta)(hs:starEach [a] X.env=[(false,eval a X.env)]:=by rfl):PI X tg (.Call (.Name "range" p) [a] [] pos) (Ff ta):=by
 intro pins s σ H R I h
 refine Call_ (fv I hg hm boot_range (PyProof.Rows.callWith_type1 (thn (ha pos pins s σ H _ I h) fun us s1 ⟨vs,H1,I1,r1,q1⟩=>?_) hs rfl))
 obtain⟨j,e,q1,q2,q⟩:=q1
 subst e
 cases r1 with
 | cons r rr =>
  cases rr
  obtain⟨t,rfl⟩:=r
  exact call_range_1 (kG I1 (by omega) (by omega) q1 q2 (by simpa using q))
theorem tq{a b:Expr}{ta:TA}{p pos:Pos}(hg:Gl X "range")(hm:X.mg "range" = none)(ha:PA X [a,b] ta)(hs:starEach [a,b] X.env=[(false,eval a X.env),(false,eval b X.env)]:=by rfl)(hs2:starEach [b] X.env=[(false,eval b X.env)]:=by rfl) :
  PI X tg (.Call (.Name "range" p) [a,b] [] pos) (Fe ta):=by
 intro pins s σ H R I h
 refine Call_ (fv I hg hm boot_range (PyProof.Rows.callWith_type1 (thn (ha pos pins s σ H _ I h) fun us s1 ⟨vs,H1,I1,r1,q1⟩=>?_) (by rw[hs,hs2]) (by rw[hs2];rfl)))
 obtain⟨i,j,e,⟨q1,q2,q3,q4⟩,q⟩:=q1
 subst e
 cases r1 with
 | cons r rr =>
  cases rr with
  | cons r' rr =>
   cases rr
   obtain⟨t,rfl⟩:=r
   obtain⟨t',rfl⟩:=r'
   exact call_range_2 (kG I1 q1 q2 q3 q4 q)
def Gx(wi:TI)(g:TG)(tb:TS):TS:=fun D σ H=>wi σ H fun J H1=>∃W:Nat->Nat->St->Hp->Prop,(∃m,W 0 m σ H1)/\∀i m σ H,W i m σ H ->
 (J.stop i H/\D.nx σ H)\/(J.go i H/\∃N:St->Hp->Prop,(∀σ' H',N σ' H'->∃m',m' < m/\W (i+1) m' σ' H')/\∀x H',J.yld i H x H'->g x σ H' fun σ2 H2=>tb { D with nx:=N,ct:=N,bk:=D.nx } σ2 H2)
def kI(fp:List Addr)(h:Heap):List (Addr×Obj):=fp.filterMap fun b=>(h.get? b).map fun o=>(b,o)
theorem f6{fp:List Addr}{h:Heap}{b:Addr}{o:Obj}(hb:b∈fp)(e:h.get? b=some o):(b,o)∈ kI fp h:=List.mem_filterMap.mpr ⟨b,hb,by rw[e];rfl⟩
theorem tL{fp:List Addr}{h:Heap}{p:Addr×Obj}(hp:p∈kI fp h):p.1∈fp/\h.get? p.1=some p.2:=by
 obtain⟨b,hb,e⟩:=List.mem_filterMap.mp hp
 cases q:h.get? b with
 | none=>rw[q]at e;cases e
 | some o =>
  rw[q]at e
  have e':(b,o)=p:=Option.some.inj e
  subst e'
  exact⟨hb,q⟩
theorem Inv.pinned{pins:List (Addr×Obj)}{σ:St}{H:Hp}{s:Shared}{fp:List Addr}(I:Inv X pins σ H s)(hf:∀b∈fp,lh X pins H b)(ho:∀b∈fp,∃o,s.heap.get? b=some o/\∀v,o.data≠.cell v):Inv X (pins++kI fp s.heap) σ H s :=
 I.pins_of fun p hp=>(List.mem_append.mp hp).elim (fun z=>I.pin p (List.mem_append_right _ z)) fun z=>by
  obtain⟨hb,e⟩:=tL z
  obtain⟨f0,f1,f2,_⟩:=hf p.1 hb
  obtain⟨o,e',d⟩:=ho p.1 hb
  rw[e]at e';cases e'
  exact⟨e,f0,f1,f2,d⟩
theorem Inv.unpinned{pins pl:List (Addr×Obj)}{σ:St}{H:Hp}{s:Shared}(I:Inv X (pins++pl) σ H s):Inv X pins σ H s:=I.pins_of fun p hp=>I.pin p (List.mem_append_right _ (List.mem_append_left _ hp))
theorem vd{iter:Expr}{body:List Stmt}{wi:TI}{g:TG}{tb:TS}{pos:Pos}(hp:PassesOwn (model X.prog X.w) X.A X.env X.xe)(hc:X.calm=true)(hi:PI X tg iter wi)(hg:PG X tg g)(hb:PSs X body tb)
  (hs:∀x,foldedSetIterable iter X.env x=pure x:=by intro _;rfl):PS X (.For tg iter body [] pos) (Gx wi g tb):=by
 intro pins s σ H D I h
 refine wpAny_For (thn (hi pins s σ H _ I h) fun v s1 h1=>thn h1 fun itv s2 h2=>?_) hs
 obtain⟨it,fp,tn,J,H2,e,I2,T,st2,f2,W,⟨m0,w0⟩,turn⟩:=h2
 subst e
 have stat:∀{H':Hp},(∀b∈fp,H' b=none)->∀b∈fp,lh X pins H' b:=fun hn b hb=>⟨hn b hb,(f2 b hb).2⟩
 refine codeAny_forLoop_any (fun n s'=>∃i σ' H',Inv X pins σ' H' s'/\tn i s'.heap/\(∀b∈fp,H' b=none)/\W i n σ' H') ?_ m0 ⟨0,σ,H2,I2,st2,fun b hb=>(f2 b hb).1,w0⟩
 rintro n s3 ⟨i,σ3,H3,I3,st3,fr3,w3⟩
 rcases turn i n σ3 H3 w3 with⟨stop,qn⟩ |⟨go,N,hN,step⟩
 ·refine wpAny_passesOwn hp (thn (T.done X rfl rfl rfl hc i pins s3 σ3 H3 X.xe I3 (stat fr3) st3 stop) fun r s4 ⟨hr,I4⟩=>?_)
  subst hr
  exact wpAny_execs_nil ⟨σ3,H3,I4,qn⟩
 ·refine wpAny_passesOwn hp (thn (T.item X rfl rfl rfl hc i pins s3 σ3 H3 X.xe I3 (stat fr3) st3 go) fun r s4 ⟨u,hr,h4⟩=>?_)
  subst hr
  refine wpAny_passesOwn hp (thn h4 fun _ s5 ⟨x,H5,I5,r5,y5,st5,fr5⟩=>?_)
  have I5':=I5.pinned (stat fr5) (T.obj _ _ st5)
  refine wpAny_passesOwn hp (thn (hg _ s5 σ3 H5 x u _ I5' r5 (step x H5 y5)) fun _ s6 ⟨σ6,H6,I6,q6⟩=>?_)
  refine wpAny_passesOwn hp (thn (hb _ s6 σ6 H6 _ I6 q6) fun f s7 q7=>?_)
  have again:∀{σ7:St}{H7:Hp},Inv X (pins++kI fp s5.heap) σ7 H7 s7->N σ7 H7->∃m,m < n/\∃i σ' H',Inv X pins σ' H' s7/\tn i s7.heap/\(∀b∈fp,H' b=none)/\W i m σ' H':=fun {σ7 H7} I7 n7=>by
   obtain⟨m',hm,w7⟩:=hN σ7 H7 n7
   refine⟨m',hm,i+1,σ7,H7,I7.unpinned,T.keep _ _ _ st5 fun b hb o e=>(I7.pin (b,o) (List.mem_append_right _ (List.mem_append_right _ (f6 hb e)))).1,fun b hb=>?_,w7⟩
   obtain⟨o,e,d⟩:=T.obj _ _ st5 b hb
   exact(I7.pin (b,o) (List.mem_append_right _ (List.mem_append_right _ (f6 hb e)))).2.1
  cases f with
  | next | cont=>obtain⟨σ7,H7,I7,n7⟩:=q7;exact again I7 n7
  | brk=>obtain⟨σ7,H7,I7,q7⟩:=q7;exact⟨σ7,H7,I7.unpinned,q7⟩
  | ret v=>obtain⟨x7,σ7,H7,I7,r7,q7⟩:=q7;exact⟨x7,σ7,H7,I7.unpinned,r7,q7⟩
end
end L2
namespace L2
open PySem PySem.Spec PyProof.Rows
abbrev R2:=V->V->Hp->VK->Prop
def OpR(X:Cx)(f:Value->Value->Sem Value)(r:R2):Prop :=
 ∀(pins:List (Addr×Obj)) (s:Shared) (σ:St) (H:Hp) (x y:V) (v u:Value) (Q:VK),Inv X pins σ H s->bq x v->bq y u->r x y H Q ->
  wpAny (model X.prog X.w) X.A (f v u) (EP X pins σ Q) X.xe s
def UnR(X:Cx)(f:Value->Sem Value)(r:V->Hp->VK->Prop):Prop :=
 ∀(pins:List (Addr×Obj)) (s:Shared) (σ:St) (H:Hp) (x:V) (v:Value) (Q:VK),Inv X pins σ H s->bq x v->r x H Q ->
  wpAny (model X.prog X.w) X.A (f v) (EP X pins σ Q) X.xe s
def d9(X:Cx)(f:Value)(r:List V->Hp->VK->Prop):Prop :=
 ∀(pins:List (Addr×Obj)) (s:Shared) (σ:St) (H:Hp) (xs:List V) (us:List Value) (Q:VK),Inv X pins σ H s->aJ xs us->r xs H Q ->
  wpAny (model X.prog X.w) X.A (call f us) (EP X pins σ Q) X.xe s
def Hc(X:Cx)(r:V->Hp->(Bool->Hp->Prop)->Prop):Prop :=
 ∀(pins:List (Addr×Obj)) (s:Shared) (σ:St) (H:Hp) (x:V) (v:Value) (Q:Bool->Hp->Prop),Inv X pins σ H s->bq x v->r x H Q ->
  wpAny (model X.prog X.w) X.A (truthy v) (TP X pins σ Q) X.xe s
def tOp(r:R2)(ta tb:TE):TE:=fun σ H Q=>ta σ H fun x H1=>tb σ H1 fun y H2=>r x y H2 Q
def tUn(r:V->Hp->VK->Prop)(ta:TE):TE:=fun σ H Q=>ta σ H fun x H1=>r x H1 Q
def rI(C:Int->Int->Prop)(g:Int->Int->V):R2:=fun x y H Q=>∃i j,x=.int i/\y=.int j/\C i j/\Q (g i j) H
def rI0(g:Int->Int->V):R2:=fun x y H Q=>∃i j,x=.int i/\y=.int j/\Q (g i j) H
def rU(g:Int->V):V->Hp->VK->Prop:=fun x H Q=>∃i,x=.int i/\Q (g i) H
section
variable{X:Cx}{a b c:Expr}{ta tb tc:TE}{pos:Pos}
theorem CM(ha:PE X a ta)(hb:PE X b tb){pins:List (Addr×Obj)}{s:Shared}{σ:St}{H:Hp}{R:V->V->Hp->Prop}(I:Inv X pins σ H s)
  (h:ta σ H fun x H1=>tb σ H1 fun y H2=>R x y H2) {Q:Value->Shared->Prop}{f:Value->Value->Sem Value}
  (hf:∀v u s2 x y H2,Inv X pins σ H2 s2->bq x v->bq y u->R x y H2->wpAny (model X.prog X.w) X.A (f v u) Q X.xe s2) :
  wpAny (model X.prog X.w) X.A (eval a X.env) (fun v s₁=>wpAny (model X.prog X.w) X.A (eval b X.env) (fun u s₂=>wpAny (model X.prog X.w) X.A (f v u) Q X.xe s₂) X.xe s₁) X.xe s:=by
 refine thn (ha pins s σ H _ I h) fun v s1 hz1=>?_
 obtain⟨x,H1,I1,r1,q1⟩:=hz1
 refine thn (hb pins s1 σ H1 _ I1 q1) fun u s2 hz1=>?_
 obtain⟨y,H2,I2,r2,q2⟩:=hz1
 exact hf v u s2 x y H2 I2 r1 r2 q2
theorem Ej{op:Operator}{r:R2}(ho:OpR X (binaryOp op) r)(ha:PE X a ta)(hb:PE X b tb):PE X (.BinOp a op b pos) (tOp r ta tb):=by
 intro pins s σ H Q I h
 exact wpAny_BinOp (CM ha hb I h fun v u s2 x y H2 I2 rx ry q=>ho pins s2 σ H2 x y v u Q I2 rx ry q)
theorem Eh{op:UnaryOp}{r:V->Hp->VK->Prop}(ho:UnR X (unaryOp op) r)(ha:PE X a ta):PE X (.UnaryOp op a pos) (tUn r ta):=by
 intro pins s σ H Q I h
 exact UnaryOp_ (thn (ha pins s σ H _ I h) fun v s1 ⟨x,H1,I1,r1,q1⟩=>ho pins s1 σ H1 x v Q I1 r1 q1)
theorem opI{f:Value->Value->Sem Value}{C:Int->Int->Prop}{g:Int->Int->Int}
  (rule:∀(i j:Int) (t u:Tok) (s:Shared) (Q:Value->Shared->Prop) (E:Value->Shared->Prop),C i j->Q (.int (g i j) s.toks) { s with toks:=s.toks+1 }->wpAny (model X.prog X.w) X.A (f (.int i t) (.int j u)) Q E s) :
  OpR X f (rI C fun i j=>.int (g i j)):=by
 intro pins s σ H x y v u Q I rx ry h
 obtain⟨i,j,rfl,rfl,hc,q⟩:=h
 obtain⟨t,rfl⟩:=rx
 obtain⟨t',rfl⟩:=ry
 exact rule i j t t' s _ _ hc ⟨.int (g i j),H,I.tok _,⟨_,rfl⟩,q⟩
theorem Et{f:Value->Value->Sem Value}{g:Int->Int->Int}
  (rule:∀(i j:Int) (t u:Tok) (s:Shared) (Q:Value->Shared->Prop) (E:Value->Shared->Prop),Q (.int (g i j) s.toks) { s with toks:=s.toks+1 }->wpAny (model X.prog X.w) X.A (f (.int i t) (.int j u)) Q E s) :
  OpR X f (rI0 fun i j=>.int (g i j)):=by
 intro pins s σ H x y v u Q I rx ry h
 obtain⟨i,j,rfl,rfl,q⟩:=h
 obtain⟨t,rfl⟩:=rx
 obtain⟨t',rfl⟩:=ry
 exact rule i j t t' s _ _ ⟨.int (g i j),H,I.tok _,⟨_,rfl⟩,q⟩
theorem Bv{f:Value->Value->Sem Value}{g:Int->Int->Bool}
  (rule:∀(i j:Int) (t u:Tok) (s:Shared) (Q:Value->Shared->Prop) (E:Value->Shared->Prop),Q (.bool (g i j)) s->wpAny (model X.prog X.w) X.A (f (.int i t) (.int j u)) Q E s) :
  OpR X f (rI0 fun i j=>.bl (g i j)):=by
 intro pins s σ H x y v u Q I rx ry h
 obtain⟨i,j,rfl,rfl,q⟩:=h
 obtain⟨t,rfl⟩:=rx
 obtain⟨t',rfl⟩:=ry
 exact rule i j t t' s _ _ ⟨.bl (g i j),H,I,rfl,q⟩
def Hl(i j:Int):Prop:=0 < j/\j < 1073741824
def Hk(i j:Int):Prop:=0<=j/\j<=1000000/\i.natAbs < 2 ^ 64
def Dp(i j:Int):Prop:=(-(2 ^ 64) < i/\i < 2 ^ 64)\/(-(2 ^ 64) < j/\j < 2 ^ 64)
theorem Dp.ok{i j:Int}(h:Dp i j):IntMulOk i j:=by
 rcases h with⟨h1,h2⟩ |⟨h1,h2⟩
 ·exact .of_left (intBits_le_64 h1 h2)
 ·exact .of_right (intBits_le_64 h1 h2)
theorem pU(k:Nat):(0:Int)<= 2 ^ k:=by
 rw[two_pow_cast]
 exact Int.natCast_nonneg _
theorem Bu:OpR X (binaryOp .Add) (rI0 fun i j=>.int (i+j)):=Et fun _ _ _ _ _ _ _ q=>add_int q
theorem Bo:OpR X (binaryOp .Sub) (rI0 fun i j=>.int (i - j)):=Et fun _ _ _ _ _ _ _ q=>sub_int q
theorem Bs:OpR X (binaryOp .Mult) (rI Dp fun i j=>.int (i * j)):=opI fun _ _ _ _ _ _ _ hc q=>mul_int q hc.ok
theorem zg:OpR X (binaryOp .FloorDiv) (rI Hl fun i j=>.int (i / j)):=opI fun i j _ _ _ _ _ hc q=>by
 have h1:(0:Int) < j:=hc.1
 have h2:j < 1073741824:=hc.2
 exact floordiv_int (by omega) (by rw[Int.fdiv_eq_ediv_of_nonneg i (by omega)];exact q) (.inl (PyProof.noPylong_small (by omega)))
theorem Bt:OpR X (binaryOp .Mod) (rI (fun _ j=>0 < j) fun i j=>.int (i % j)):=opI fun i j _ _ _ _ _ hc q=>by
 have h1:(0:Int) < j:=hc
 exact mod_int' (by omega) (by rw[Int.fmod_eq_emod_of_nonneg i (by omega)];exact q)
theorem Br:OpR X (binaryOp .Pow) (rI Hk fun i j=>.int (i ^ j.toNat)):=opI fun _ _ _ _ _ _ _ hc q=>pow_int_small hc.1 hc.2.1 hc.2.2 q
theorem Bp:OpR X (binaryOp .RShift) (rI (fun _ j=>0<=j) fun i j=>.int (i / 2 ^ j.toNat)):=opI fun i j _ _ _ _ _ hc q =>
 rshift_int hc (by rw[Int.fdiv_eq_ediv_of_nonneg i (pU _)];exact q)
theorem unI{f:Value->Sem Value}{g:Int->Int}
  (rule:∀(i:Int) (t:Tok) (s:Shared) (Q:Value->Shared->Prop) (E:Value->Shared->Prop),Q (.int (g i) s.toks) { s with toks:=s.toks+1 }->wpAny (model X.prog X.w) X.A (f (.int i t)) Q E s) :
  UnR X f (rU fun i=>.int (g i)):=by
 intro pins s σ H x v Q I rx h
 obtain⟨i,rfl,q⟩:=h
 obtain⟨t,rfl⟩:=rx
 exact rule i t s _ _ ⟨.int (g i),H,I.tok _,⟨_,rfl⟩,q⟩
theorem AG:UnR X (unaryOp .USub) (rU fun i=>.int (-i)):=unI fun _ _ _ _ _ q=>neg_int q
end
def scal:V->V->Bool
 | .non,.non=>true | .non,.int _=>true | .int _,.non=>true | .non,.bl _=>true | .bl _,.non=>true | .non,.str _=>true | .str _,.non=>true
 | .int _,.int _=>true | .bl _,.bl _=>true | .str _,.str _=>true | .byt _,.byt _=>true
 | .int _,.str _=>true | .str _,.int _=>true | .bl _,.str _=>true | .str _,.bl _=>true
 | _,_=>false
section
variable{X:Cx}{a b c:Expr}{ta tb tc:TE}{pos:Pos}
theorem Cg{pins:List (Addr×Obj)}{σ:St}{H:Hp}{s:Shared}{Q:VK}{k k':Bool}(I:Inv X pins σ H s)(q:Q (.bl k) H)(e:k=k'):EP X pins σ Q (.bool k') s:=by
 subst e
 exact⟨.bl k,H,I,rfl,q⟩
theorem Ar:OpR X (compareOp .Lt) (rI0 fun i j=>.bl (decide (i < j))):=Bv fun _ _ _ _ _ _ _ q=>lt_int q
theorem Er:OpR X (compareOp .Gt) (rI0 fun i j=>.bl (decide (j < i))):=Bv fun _ _ _ _ _ _ _ q=>gt_int q
theorem Es:OpR X (compareOp .GtE) (rI0 fun i j=>.bl (decide (j<=i))):=Bv fun _ _ _ _ _ _ _ q=>ge_int q
theorem ze:OpR X (compareOp .IsNot) (fun x y H Q=>y=.non/\Q (.bl (!decide (x=.non))) H):=by
 intro pins s σ H x y v u Q I rx ry h
 obtain⟨rfl,q⟩:=h
 cases ry
 refine isnot_none_gen (Cg I q ?_)
 cases x<;>first
  |(cases rx;rfl)
  |(obtain⟨t,rfl⟩:=rx;rfl)
theorem OpR.or{f:Value->Value->Sem Value}{r r':R2}(h:OpR X f r)(h':OpR X f r'):OpR X f (fun x y H Q=>r x y H Q\/r' x y H Q):=by
 intro pins s σ H x y v u Q I rx ry q
 rcases q with q | q
 ·exact h pins s σ H x y v u Q I rx ry q
 ·exact h' pins s σ H x y v u Q I rx ry q
theorem eB(b:Expr){op:CmpOp}(h:op≠.In:=by decide)(h2:op≠.NotIn:=by decide):behindInMarks op b=false:=by
 have e1:(op==CmpOp.In)=false:=by cases op<;>first | rfl | exact absurd rfl h
 have e2:(op==CmpOp.NotIn)=false:=by cases op<;>first | rfl | exact absurd rfl h2
 cases b<;>simp[behindInMarks,e1,e2]
theorem y_{op:CmpOp}{r:R2}(ho:OpR X (compareOp op) r)(ha:PE X a ta)(hb:PE X b tb)(hm:behindInMarks op b=false):PE X (.Compare a [op] [b] pos) (tOp r ta tb):=by
 intro pins s σ H Q I h
 exact wpAny_Compare1 (CM ha hb I h fun v u s2 x y H2 I2 rx ry q=>ho pins s2 σ H2 x y v u Q I2 rx ry q) hm
def DV(t:TE):TT:=fun σ H Q=>t σ H fun x H'=>∃k,x=.bl k/\Q k H'
theorem yW{op:CmpOp}{r:R2}(ho:OpR X (compareOp op) r)(ha:PE X a ta)(hb:PE X b tb)(hm:behindInMarks op b=false):PT X (.Compare a [op] [b] pos) (DV (tOp r ta tb)):=by
 intro pins s σ H Q I h
 refine wpAny_isTrue_Compare1 (thn (ha pins s σ H _ I h) fun v s1 ⟨x,H1,I1,r1,q1⟩=>thn (hb pins s1 σ H1 _ I1 q1) fun u s2 ⟨y,H2,I2,r2,q2⟩ =>
  thn (ho pins s2 σ H2 x y v u _ I2 r1 r2 q2) fun c s3 ⟨z,H3,I3,r3,k,e,q3⟩=>?_) hm
 subst e
 cases r3
 exact wpAny_truthy_bool ⟨H3,I3,q3⟩
def Fy(K:PySem.W.Frag)(x:V)(H:Hp)(k:Bool):Prop :=
 match x with
 | .non=>k=false
 | .bl b=>k=b
 | .int i=>k=(i != 0)
 | .str y=>y.length<=sizeLine/\k=((y.length:Int) != 0)
 | .byt y=>y.size<=sizeLine/\k=((y.size:Int) != 0)
 | .ref p=>(∃xs,SqL K H p xs/\k=!xs.isEmpty)\/(∃xs,SqT K H p xs/\k=!xs.isEmpty)\/ ∃kvs,H p=some (.dK kvs)/\k=!kvs.isEmpty
 | _=>False
theorem qG{κ:Type}{kvs:List (κ×V)}{vs:List (κ×Value)}(r:KV kvs vs):(!vs.isEmpty)=!kvs.isEmpty:=by
 cases r<;>rfl
theorem kW{xs:List V}{its:List Value}(r:aJ xs its):(!its.toArray.isEmpty)=!xs.isEmpty:=by
 cases r<;>simp
theorem jI:(sizeLine:Nat) < 2 ^ 63:=by rw[sizeLine_eq];decide
theorem AH:Hc X (fun x H Q=>∃k,Fy X.K x H k/\Q k H):=by
 intro pins s σ H x v Q I rx h
 obtain⟨k,e,q⟩:=h
 have hl:=jI
 have hs:sizeLine=16777216:=sizeLine_eq
 cases x with
 | non =>
  cases rx
  have e':k=false:=e
  subst e'
  exact truthy_none ⟨H,I,q⟩
 | bl b =>
  cases rx
  have e':k=b:=e
  subst e'
  exact wpAny_truthy_bool ⟨H,I,q⟩
 | int i =>
  obtain⟨t,rfl⟩:=rx
  have e':k=(i != 0):=e
  subst e'
  exact PySem.P.truthy_int ⟨H,I,q⟩
 | str y =>
  obtain⟨t,rfl⟩:=rx
  obtain⟨hy,e'⟩:y.length<=sizeLine/\k=((y.length:Int) != 0):=e
  subst e'
  exact PySem.P.truthy_str (by omega) ⟨H,I.tok _,q⟩
 | byt y =>
  obtain⟨t,rfl⟩:=rx
  obtain⟨hy,e'⟩:y.size<=sizeLine/\k=((y.size:Int) != 0):=e
  subst e'
  exact PySem.W.truthy_bytes (by omega) ⟨H,I.tok _,q⟩
 | ref p =>
  cases rx
  have e':(∃xs,SqL X.K H p xs/\k=!xs.isEmpty)\/(∃xs,SqT X.K H p xs/\k=!xs.isEmpty)\/ ∃kvs,H p=some (.dK kvs)/\k=!kvs.isEmpty:=e
  rcases e' with⟨xs,hx,e'⟩ |⟨xs,hx,e'⟩ |⟨kvs,hx,e'⟩
  ·subst e'
   obtain⟨its,r,pl,hz⟩:=I.list hx
   have hlen:=r.length
   exact wpAny_truthy_list pl.isList (by simp only[List.size_toArray];omega) ⟨H,I.tok _,by rw[kW r];exact q⟩
  ·subst e'
   obtain⟨its,r,pl,hz⟩:=I.tuple hx
   have hlen:=r.length
   exact truthy_tuple pl (by simp only[List.size_toArray];omega) ⟨H,I.tok _,by rw[kW r];exact q⟩
  ·subst e'
   obtain⟨hz,hS,vs,r,m⟩:kvs.length<=sizeLine/\(p==sysModules)=false/\∃vs,KV kvs vs/\s.heap.DictOf (nC X.prog X.w) p vs:=I.hok p _ hx
   have hlen:kvs.length=vs.length:=Paired.length r
   exact wpAny_truthy_dict hS m (by omega) ⟨H,I.tok _,by rw[qG r];exact q⟩
 | _=>exact(show False from e).elim
theorem u9(ha:PE X a ta)(he:∀whole,isTrue a X.env whole=(do let v <- whole;standAt a.pos;holding [v] (truthy v))) :
  PT X a (fun σ H Q=>ta σ H fun x H'=>∃k,Fy X.K x H' k/\Q k H'):=by
 intro pins s σ H Q I h
 exact isTrue_plain (thn (ha pins s σ H _ I h) fun v s1 ⟨x,H1,I1,r1,q1⟩=>AH pins s1 σ H1 x v Q I1 r1 q1) (he _)
theorem dD{x:V}{us:List Value}(r:aJ [x] us):∃u,us=[u]/\bq x u:=by
 cases r with
 | cons r1 r2=>cases r2;exact⟨_,rfl,r1⟩
theorem DS{x y:V}{us:List Value}(r:aJ [x,y] us):∃u w',us=[u,w']/\bq x u/\bq y w':=by
 cases r with
 | cons r1 r2 =>
  cases r2 with
  | cons r3 r4=>cases r4;exact⟨_,_,rfl,r1,r3⟩
theorem uo(hc:X.calm=true):d9 X (.builtin "min") (fun xs H Q=>∃i j,xs=[.int i,.int j]/\Q (.int (if j < i then j else i)) H):=by
 intro pins s σ H xs us Q I r h
 obtain⟨i,j,rfl,q⟩:=h
 obtain⟨u,w',rfl,⟨t,rfl⟩,⟨t',rfl⟩⟩:=DS r
 refine min_two_ints (I.ok.hd hc) fun h' tk k=>⟨_,H,I.kept k,?_,q⟩
 by_cases hj:j < i
 ·rw[if_pos hj,if_pos hj];exact⟨_,rfl⟩
 ·rw[if_neg hj,if_neg hj];exact⟨_,rfl⟩
end
end L2
namespace L2
open PySem PySem.Spec PyProof.Rows
structure qZ(h:Heap)(x dx C:Addr)(mA:Str->Option Value):Prop where
 obj:h.get? x=some (PySem.W.instObj C dx)
 ns:h.Ns1 dx mA
 ne:dx≠x
theorem t6{h:Heap}{dx:Addr}{mA:Str->Option Value}(n:h.Ns1 dx mA):∃od,h.get? dx=some od/\∀name,PySem.W.lookIn name od=some (mA name):=by
 obtain⟨o,es,ep,ho,hd,hk,_,hm⟩:=n
 refine⟨o,ho,fun name=>?_⟩
 have e:=hm name
 unfold nsFind findBy at e
 rw[<- Array.find?_toList]at e
 unfold PySem.W.lookIn
 rw[hd]
 dsimp only
 split
 ·rename_i y q
  rw[q]at e
  exact congrArg some e
 ·rename_i q
  rw[q]at e
  have a:es.toList.any (·.refKey)=false:=by
   rw[List.any_eq_false]
   intro y hy
   obtain⟨z,t,hkey⟩:=hk y (Array.mem_toList_iff.mp hy)
   simp[DictEntry.refKey,hkey]
  have a':¬es.toList.any (·.refKey)=true:=by rw[a];exact Bool.false_ne_true
  rw[if_neg a']
  exact congrArg some e
theorem qZ.look{h:Heap}{x dx C:Addr}{mA:Str->Option Value}(I:qZ h x dx C mA):∃od,PySem.W.InstAt h x (PySem.W.instObj C dx) C (some od)/\∀name,PySem.W.lookIn name od=some (mA name) :=
 let⟨od,ho,hl⟩:=t6 I.ns
 ⟨od,⟨I.obj,rfl,rfl,ho⟩,hl⟩
section
variable{prog:Program}{w:World}{A:Around}{E:Value->Shared->Prop}{s:Shared}{K:PySem.W.Frag}{x dx C f:Addr}{mA:Str->Option Value}{name:Str}{v:Value}
theorem zI{expr:Bool}{Q:Value->Shared->Prop}(X:K.In s.heap)(I:qZ s.heap x dx C mA)(hg:PySem.W.plainGet K C name=true)(hh:PySem.W.hasDictIn K C=true)
  (ha:PySem.W.findIn K (.ref C) name=some none) (hv:mA name=some v) (hv':PySem.W.handedIn v=true) (h:Q v { s with toks:=s.toks+1 }) :
  wpAny (model prog w) A (getAttr (.ref x) name expr) Q E s:=by
 obtain⟨od,J,hl⟩:=I.look
 exact PySem.W.get_value X J (PySem.W.plainGet_of hg).1 (PySem.W.findObj_own hh ha rfl (by rw[hl,hv])) hv' h
theorem wt{pl:Sem Bool}{Q:Value×List Value->Shared->Prop}(X:K.In s.heap)(I:qZ s.heap x dx C mA)(hg:PySem.W.plainGet K C name=true)
  (hf:PySem.W.findIn K (.ref C) name=some (some (.ref f))) (ht:PySem.W.isFn K (.ref f)=true) (hv:mA name=none) (h:Q (.ref f,[.ref x]) s) :
  wpAny (model prog w) A (getMethod (.ref x) name pl) Q E s:=by
 obtain⟨od,J,hl⟩:=I.look
 exact PySem.W.method_fn X J (PySem.W.plainGet_of hg).1 (PySem.W.plainGet_of hg).2 hf (beq_iff_eq.mp ht) (by show(PySem.W.lookIn name od).map (·.isSome)=some false;rw[hl,hv];rfl) h
theorem yv{ns:List Str}{Q:Unit->Shared->Prop}(X:K.In s.heap)(I:qZ s.heap x dx C mA)
  (hs:PySem.W.findIn K (.ref C) "__setattr__" = some (some (.builtin "object.__setattr__"))) (hp:PySem.W.plainOver K C=true) (ht:PySem.W.takerIn K C name=some none) (hh:PySem.W.hasDictIn K C=true)
  (hw:PySem.Within mA ns) (hsz:ns.length<=sizeLine)
  (h:∀h',qZ h' x dx C (fun y=>if y=name then some v else mA y)->Heap.SameBut dx s.heap h'->Q () { s with heap:=h',toks:=s.toks+2 }) :
  wpAny (model prog w) A (setAttr (.ref x) name v) Q E s:=by
 obtain⟨od,J,hl⟩:=I.look
 refine PySem.W.set_plain X J hs (PySem.W.osa_open (s:={ s with toks:=s.toks+1 }) (r:=none) X J hp ht fun b=>?_)
 obtain⟨cd,hc,hd'⟩:=PySem.W.any_some hh
 have hx:s.heap.get? x=some ⟨.ref C,some dx,.plain,#[]⟩:=I.obj
 refine wpAny_bind (wpAny_pure (wpAny_bind (wpAny_bind (wpAny_loadPart hx (wpAny_bind (PySem.W.Looks.here (s:={ s with toks:=s.toks+1 }) (PySem.W.looks_clsIn X hc) ?_))))))
 rw[hd']
 refine wpAny_pure (a:=some dx) (wpAny_bind (wpAny_pure (wpAny_bind ?_)))
 refine wpAny_nsSet1 (s:={ s with toks:=s.toks+1 }) I.ns fun h' hn2 hs2=>?_
 obtain⟨oD,esD,epD,hoD,hdD,hcD⟩:=hn2.count (PySem.Within.cons name v hw)
 refine wpAny_bind (wpAny_lookBehind hoD (by rw[hdD];exact pastItsLine_dict (Nat.le_trans hcD (by rw[List.length_cons];omega))) ?_)
 exact wpAny_pure (h _ ⟨(hs2.2 _ (Ne.symm I.ne)).trans I.obj,hn2,I.ne⟩ hs2)
theorem v5{R:Result->Shared->Prop}{vs:List Value}{kw:List (Str×Value)}(X:K.In s.heap)(hm:PySem.W.makesIn K C=true)
  (hi:PySem.W.findIn K (.ref C) "__init__" = some (some (.ref f))) (hf:PySem.W.typeIn K (.ref f)=some (.type "function"))
  (h:codeAny (model prog w) (A.under (.builtin "type.__call__" ⟨.ref C::vs,kw⟩)) (.call (.ref f) ⟨.ref (s.heap.objs.size+1)::vs,kw⟩) (PySem.W.InitBack (s.heap.objs.size+1) R)
   { s with heap:=(s.heap.push PySem.W.emptyDict).push (PySem.W.instObj C s.heap.objs.size) }) :
  codeAny (model prog w) A (.call (.ref C) ⟨vs,kw⟩) R s:=by
 obtain⟨hh,g,d,t,os⟩:=s
 exact PySem.W.make_core (PySem.W.makes_of X hm) (PySem.W.looks_findIn X hi) (fun self=>PySem.W.bind_fn X self hf) (.inl rfl) h
end
def fT(f:Str)(v:V):List (Str×V)->List (Str×V)
 | []=>[(f,v)]
 |(g,x)::r=>if g=f then(g,v)::r else(g,x)::fT f v r
theorem j6(f g:Str)(v:V):∀fs:List (Str×V),(fT f v fs).lookup g=if g=f then some v else fs.lookup g
 | []=>by
  show List.lookup g [(f,v)]=_
  by_cases h:g=f
  ·have hb:(g==f)=true:=beq_iff_eq.mpr h
   simp only[List.lookup,hb,if_pos h]
  ·have hb:(g==f)=false:=beq_eq_false_iff_ne.mpr h
   simp only[List.lookup,hb,if_neg h]
 |(k,x)::r=>by
  have ih:=j6 f g v r
  rw[show fT f v ((k,x)::r)=(if k=f then(k,v)::r else(k,x)::fT f v r)from rfl]
  by_cases hk:k=f
  ·rw[if_pos hk]
   by_cases h:g=k
   ·have hb:(g==k)=true:=beq_iff_eq.mpr h
    simp only[List.lookup,hb,if_pos (h.trans hk)]
   ·have hb:(g==k)=false:=beq_eq_false_iff_ne.mpr h
    simp only[List.lookup,hb,if_neg (fun e:g=f=>h (e.trans hk.symm))]
  ·rw[if_neg hk]
   by_cases h:g=k
   ·have hb:(g==k)=true:=beq_iff_eq.mpr h
    simp only[List.lookup,hb,if_neg (fun e:g=f=>hk (h.symm.trans e))]
   ·have hb:(g==k)=false:=beq_eq_false_iff_ne.mpr h
    simp only[List.lookup,hb]
    exact ih
theorem jK(f:Str)(v:V):∀fs:List (Str×V),f ∈(fT f v fs).map (·.1)/\∀g,g∈fs.map (·.1)->g ∈(fT f v fs).map (·.1)
 | []=>⟨by simp[fT],fun g h=>by simp at h⟩
 |(k,x)::r=>by
  obtain⟨i1,i2⟩:=jK f v r
  rw[show fT f v ((k,x)::r)=(if k=f then(k,v)::r else(k,x)::fT f v r)from rfl]
  by_cases hk:k=f
  ·rw[if_pos hk]
   subst hk
   exact⟨by simp,fun g h=>by simpa using h⟩
  ·rw[if_neg hk]
   refine⟨?_,fun g h=>?_⟩
   ·rw[List.map_cons]
    exact List.mem_cons_of_mem _ i1
   ·rw[List.map_cons]at h ⊢
    rcases List.mem_cons.mp h with e | e
    ·exact List.mem_cons.mpr (.inl e)
    ·exact List.mem_cons_of_mem _ (i2 g e)
theorem j8(f:Str)(v:V):∀fs:List (Str×V),(fT f v fs).length<=fs.length+1
 | []=>by simp[fT]
 |(k,x)::r=>by
  have ih:=j8 f v r
  rw[show fT f v ((k,x)::r)=(if k=f then(k,v)::r else(k,x)::fT f v r)from rfl]
  by_cases hk:k=f
  ·rw[if_pos hk,List.length_cons,List.length_cons];omega
  ·rw[if_neg hk,List.length_cons,List.length_cons];omega
theorem lE.some_of{v:V}{o:Option Value}(r:lE (some v) o):∃u,o=some u/\bq v u:=by
 cases o with
 | none=>exact(show False from r).elim
 | some u=>exact⟨u,rfl,r⟩
theorem lE.none_of{o:Option Value}(r:lE none o):o=none:=by
 cases o with
 | none=>rfl
 | some u=>exact(show False from r).elim
theorem uc{v:V}{u:Value}(r:bq v u):PySem.W.handedIn u=true:=by
 cases v with
 | non=>cases(show u=Value.none from r);rfl
 | bl b=>cases(show u=Value.bool b from r);rfl
 | int i=>obtain⟨t,e⟩:=(show ∃t,u=Value.int i t from r);cases e;rfl
 | str x=>obtain⟨t,e⟩:=(show ∃t,u=Value.str x t from r);cases e;rfl
 | byt b=>obtain⟨t,e⟩:=(show ∃t,u=Value.bytes b t from r);cases e;rfl
 | flt b=>obtain⟨t,e⟩:=(show ∃t,u=Value.float b t from r);cases e;rfl
 | ref a=>cases(show u=Value.ref a from r);rfl
 | ty n=>cases(show u=Value.type n from r);rfl
section
variable{P:Program}{w:World}{H H':Hp}{h h':Heap}{a C dx:Addr}{fs fs':List (Str×V)}
theorem nJ(hok:HOk P w H h)(e:H a=some (.ins C dx fs)):∃mA,qZ h a dx C mA/\(∀f,lE (fs.lookup f) (mA f))/\PySem.Within mA (fs.map (·.1))/\fs.length<=1000/\H dx=some (.own a):=by
 obtain⟨d,z,ne,ob,mA,n,r,q⟩:=(show dg P w H h a (.ins C dx fs)from hok a _ e)
 exact⟨mA,⟨ob,n,ne⟩,r,q,z,d⟩
end
structure Cls(K:PySem.W.Frag)(C:Addr):Prop where
 pg:PySem.W.plainGet K C Str.empty=true
 hd:PySem.W.hasDictIn K C=true
 po:PySem.W.plainOver K C=true
 sa:PySem.W.findIn K (.ref C) "__setattr__" = some (some (.builtin "object.__setattr__"))
theorem Cls.get{K:PySem.W.Frag}{C:Addr}(c:Cls K C)(f:Str):PySem.W.plainGet K C f=true:=c.pg
def eD(K:PySem.W.Frag)(C:Addr)(f:Str):Prop:=PySem.W.findIn K (.ref C) f=some none
theorem eD.taker{K:PySem.W.Frag}{C:Addr}{f:Str}(n:eD K C f):PySem.W.takerIn K C f=some none:=by
 unfold PySem.W.takerIn
 rw[show PySem.W.findIn K (.ref C) f=some none from n]
 rfl
structure Con(K:PySem.W.Frag)(C:Addr)(f:Str)(v:V)(u:Value):Prop where
 at_:PySem.W.findIn K (.ref C) f=some (some u)
 rel:bq v u
 get:PySem.W.specialIn K u "__get__" = some none
 cp:PySem.W.copiedNames.contains f=false
structure Af(K:PySem.W.Frag)(C:Addr)(m:Str)(f:Addr):Prop where
 at_:PySem.W.findIn K (.ref C) m=some (some (.ref f))
 fn:PySem.W.isFn K (.ref f)=true
 kp:PySem.W.keepIn K (.ref f)=true
section
variable{X:Cx}{pins:List (Addr×Obj)}{σ:St}{H:Hp}{s:Shared}{a C dx:Addr}{fs:List (Str×V)}{f:Str}{v:V}{A:Around}{E:Value->Shared->Prop}
theorem qM{b:Bool}{Q:Value->Shared->Prop}(I:Inv X pins σ H s)(e:H a=some (.ins C dx fs))(c:Cls X.K C)(n:eD X.K C f)(l:fs.lookup f=some v)
  (h:∀u s',Inv X pins σ H s'->bq v u->Q u s'):wpAny (model X.prog X.w) A (getAttr (.ref a) f b) Q E s:=by
 obtain⟨mA,O,r,_,_,_⟩:=nJ I.hok e
 obtain⟨u,hu,ru⟩:=lE.some_of (v:=v) (o:=mA f) (by rw[<- l];exact r f)
 exact zI I.kIn O (c.get f) c.hd n hu (uc ru) (h u _ (I.tok _) ru)
theorem qL{m:Str}{g:Addr}{pl:Sem Bool}{Q:Value×List Value->Shared->Prop}(I:Inv X pins σ H s)(e:H a=some (.ins C dx fs))(c:Cls X.K C)(k:Af X.K C m g)(l:fs.lookup m=none)
  (h:Q (.ref g,[.ref a]) s):wpAny (model X.prog X.w) A (getMethod (.ref a) m pl) Q E s:=by
 obtain⟨mA,O,r,_,_,_⟩:=nJ I.hok e
 have hn:mA m=none:=lE.none_of (by rw[<- l];exact r m)
 exact wt I.kIn O (c.get m) k.at_ k.fn hn h
theorem qe{y:V}{u:Value}{Q:Unit->Shared->Prop}(I:Inv X pins σ H s)(e:H a=some (.ins C dx fs))(c:Cls X.K C)(n:eD X.K C f)(hl:fs.length < 1000)(ry:bq y u)
  (h:∀s',Inv X pins σ (upd H a (.ins C dx (fT f y fs))) s'->Q () s'):wpAny (model X.prog X.w) A (setAttr (.ref a) f u) Q E s:=by
 obtain⟨mA,O,r,wi,_,ho⟩:=nJ I.hok e
 have hz:(fs.map (·.1)).length<=sizeLine:=by rw[List.length_map,sizeLine_eq];omega
 refine yv I.kIn O c.sa c.po n.taker c.hd wi hz fun h' O' sb=>h _ ?_
 have hd:∃o,h'.get? dx=some o:=let⟨o,_,_,e',_⟩:=O'.ns;⟨o,e'⟩
 refine I.write (x:=a) (e:=dx) (by rw[e];exact True.intro) (.inr ho) (fun b q hb z=>(sb.2 b hb).trans z) hd ?_
 refine⟨by rw[aP O.ne];exact ho,?_,O.ne,O'.obj,_,O'.ns,fun g=>?_,fun g hg=>?_⟩
 ·have:=j8 f y fs;omega
 ·show lE ((fT f y fs).lookup g) (if g=f then some u else mA g)
  rw[j6]
  by_cases q:g=f
  ·rw[if_pos q,if_pos q];exact ry
  ·rw[if_neg q,if_neg q];exact r g
 ·by_cases q:g=f
  ·rw[q];exact(jK f y fs).1
  ·refine(jK f y fs).2 g (wi g fun z=>hg ?_)
   show(if g=f then some u else mA g)=none
   rw[if_neg q];exact z
theorem Inv.made(I:Inv X pins σ H s):Inv X pins σ (upd (upd H s.heap.objs.size (.own (s.heap.objs.size+1))) (s.heap.objs.size+1) (.ins C s.heap.objs.size []))
  { s with heap:=(s.heap.push PySem.W.emptyDict).push (PySem.W.instObj C s.heap.objs.size) }:=by
 have e1:(s.heap.push PySem.W.emptyDict).get? s.heap.objs.size=some PySem.W.emptyDict:=Heap.get?_push_size s.heap rfl
 have e2:((s.heap.push PySem.W.emptyDict).push (PySem.W.instObj C s.heap.objs.size)).get? (s.heap.objs.size+1)=some (PySem.W.instObj C s.heap.objs.size):=by
  have:=Heap.get?_push_size (s.heap.push PySem.W.emptyDict) (o:=PySem.W.instObj C s.heap.objs.size) rfl
  rwa [Heap.size_push]at this
 have e3:(s.heap.push PySem.W.emptyDict).Ns s.heap.objs.size (fun _=>none):=⟨PySem.W.emptyDict,#[],_,e1,rfl,(fun e he=>absurd he (by simp)),fun _=>rfl⟩
 have I1:=I.laid (a:=s.heap.objs.size) (o:=.own (s.heap.objs.size+1)) (h':=s.heap.push PySem.W.emptyDict) (t':=s.toks) (fun b u q=>Heap.get?_push_of_some _ q) (Nat.le_refl _) ⟨_,e1⟩
 refine I1.laid (a:=s.heap.objs.size+1) (o:=.ins C s.heap.objs.size []) (t':=s.toks) (fun b u q=>Heap.get?_push_of_some _ q) (Nat.le_of_eq (Heap.size_push _ _)) ?_
 have ne:s.heap.objs.size≠s.heap.objs.size+1:=Nat.ne_of_lt (Nat.lt_succ_self _)
 refine⟨by rw[aP ne,bM],Nat.zero_le _,ne,e2,fun _=>none,(Heap.Ns1.of_empty e3).at fun o q=>Heap.get?_push_of_some _ q,fun _=>True.intro,fun y hy=>absurd rfl hy⟩
theorem Ad{prog:Program}{w:World}{env:Env}{e:Expr}{f:Str}{pos:Pos}{s:Shared}{Q:Value->Shared->Prop}(hb:attributeBase e f env (eval e env)=eval e env)
  (h:wpAny (model prog w) A (eval e env) (fun o s₁=>wpAny (model prog w) A (getAttr o f true) Q E s₁) E s):wpAny (model prog w) A (eval (.Attribute e f pos) env) Q E s :=
 Attribute_any_ h (by rw[arm_eval_Attribute,hb])
end
def D1(K:PySem.W.Frag)(ta:TE)(f:Str):TE:=fun σ H Q=>ta σ H fun x H1=>∃a C dx fs v,x=.ref a/\H1 a=some (.ins C dx fs)/\Cls K C/\eD K C f/\fs.lookup f=some v/\Q v H1
def sFld(K:PySem.W.Frag)(ta tv:TE)(f:Str):TS:=fun D σ H=>tv σ H fun y H1=>ta σ H1 fun x H2=>∃a C dx fs,x=.ref a/\H2 a=some (.ins C dx fs)/\Cls K C/\eD K C f/\fs.length < 1000 /\
 D.nx σ (upd H2 a (.ins C dx (fT f y fs)))
section
variable{X:Cx}{o e value:Expr}{f:Str}{pos pos' tpos:Pos}{ta tv:TE}
theorem Bk(he:PE X e ta)(hb:attributeBase e f X.env (eval e X.env)=eval e X.env):PE X (.Attribute e f pos) (D1 X.K ta f):=by
 intro pins s σ H Q I h
 refine Ad hb (thn (he pins s σ H _ I h) fun u s1 ⟨x,H1,I1,rx,a,C,dx,fs,v,ex,ea,c,n,l,q⟩=>?_)
 subst ex
 obtain rfl:u=Value.ref a:=rx
 exact qM I1 ea c n l fun u' s2 I2 ru=>⟨v,H1,I2,ru,q⟩
theorem A9(ha:PE X o ta)(hv:PE X value tv)(hs:swapsWith value (some (.Attribute o f pos')) pos.line X.env=pure false):PS X (.Assign [.Attribute o f pos'] value pos) (sFld X.K ta tv f):=by
 intro pins s σ H D I h
 refine plainObj_wpAny_Assign_Attribute (thn (hv pins s σ H _ I h) fun u s1 ⟨y,H1,I1,ry,q⟩=>thn (ha pins s1 σ H1 _ I1 q) fun ov s2 ⟨x,H2,I2,rx,a,C,dx,fs,ex,ea,c,n,l,q2⟩=>?_) hs
 subst ex
 obtain rfl:ov=Value.ref a:=rx
 exact qe I2 ea c n l ry fun s3 I3=>⟨σ,_,I3,q2⟩
variable{pins:List (Addr×Obj)}{σ:St}{H:Hp}{s:Shared}{A:Around}{E Q:Value->Shared->Prop}{c:Value}{b:Bool}
inductive lg(K:PySem.W.Frag)(H:Hp):V->Value->Prop where
 | non:lg K H .non (.type "NoneType")
 | bl (x:Bool):lg K H (.bl x) (.type "bool")
 | int (i:Int):lg K H (.int i) (.type "int")
 | str (x:Str):lg K H (.str x) (.type "str")
 | flt (x:UInt64):lg K H (.flt x) (.type "float")
 | lst {a:Addr}{xs:List V} (e:H a=some (.lst xs)):lg K H (.ref a) (.type "list")
 | frz {a:Addr}{o:Obj}{xs:List V} (e:H a=some (.frz o (.lst xs))):lg K H (.ref a) (.type "list")
 | tup {a:Addr}{xs:List V} (e:H a=some (.tup xs)):lg K H (.ref a) (.type "tuple")
 | dK {a:Addr}{kvs:List (Key×V)} (e:H a=some (.dK kvs)):lg K H (.ref a) (.type "dict")
 | dT {a:Addr}{kvs:List (List Key×V)} (e:H a=some (.dT kvs)):lg K H (.ref a) (.type "dict")
 | ins {a C dx:Addr}{fs:List (Str×V)} (e:H a=some (.ins C dx fs)) (cl:Cls K C) (ha:PySem.W.findIn K (.ref C) "__class__" = some (some (.builtin "object.__class__")))
   (hn:PySem.W.specialIn K (.builtin "object.__class__") "__get__" = some (some (.builtin "getset_descriptor.__get__"))) (htk:PySem.W.takesIn K (.builtin "object.__class__")=some true)
   (hm:PySem.W.mroIn K C (.type "object")=some true):lg K H (.ref a) (.ref C)
end
end L2
namespace L2
open PySem PySem.Spec PyProof.Rows
structure dC(k:Nat)(A:Around):Prop where
 hd:A.handled=none
 dp:A.depth+3 * k+5 < recursionLimit
 un:A.units+16 * k+200 < cLine
theorem dC.mono{j k:Nat}{A:Around}(r:dC k A)(h:j<=k):dC j A:=⟨r.hd,by have:=r.dp;omega,by have:=r.un;omega⟩
theorem dC.deeper{k:Nat}{A:Around}(r:dC (k+1) A)(env:Env):dC k (A.deeper env) :=
 ⟨r.hd,by have:=r.dp;show A.depth+1+3 * k+5 < _;omega,by have:=r.un;show A.units+3+16 * k+200 < _;omega⟩
theorem qC{A:Around}{C:Addr}{us:List Value}{kw:List (Str×Value)}:(A.under (.builtin "type.__call__" ⟨.ref C::us,kw⟩)).depth=A.depth+1:=by
 first | rfl | simp[Around.under,Code.weight,Code.isCreation,Code.isGuard,Code.isCaller,Code.frames,Code.isFrame,guardIds]
theorem qB{A:Around}{C:Addr}{us:List Value}{kw:List (Str×Value)}:(A.under (.builtin "type.__call__" ⟨.ref C::us,kw⟩)).units=A.units+1:=by
 first | rfl | simp[Around.under,Code.cUnits,Code.frames,Code.isFrame]
theorem dC.make{k:Nat}{A:Around}(r:dC (k+1) A)(C:Addr)(us:List Value)(kw:List (Str×Value)):dC k (A.under (.builtin "type.__call__" ⟨.ref C::us,kw⟩)) :=
 ⟨r.hd,by have:=r.dp;rw[qC];omega,by have:=r.un;rw[qB];omega⟩
theorem dC.depth{k:Nat}{A:Around}(r:dC k A):A.depth < recursionLimit:=by have:=r.dp;omega
theorem dC.units{k:Nat}{A:Around}(r:dC k A):A.units+64 < cLine:=by have:=r.un;omega
def AJ:TA:=fun _ H Q=>Q [] H
def rj(ta:TE)(tr:TA):TA:=fun σ H Q=>ta σ H fun x H1=>tr σ H1 fun xs H2=>Q (x::xs) H2
section
variable{X:Cx}{e:Expr}{es:List Expr}{te:TE}{t:TA}{pos:Pos}
theorem gN:PA X [] AJ:=fun _ _ _ _ H Q I h=>Calls.spliced_nil ⟨[],H,I,.nil,h⟩
theorem dv(ha:PE X e te)(hr:PA X es t)(hs:starEach (e::es) X.env=(false,eval e X.env)::starEach es X.env:=by rfl):PA X (e::es) (rj te t):=by
 intro pos pins s σ H Q I h
 rw[hs]
 show wpAny _ _ (spliced ((false,eval e X.env)::backTo pos (starEach es X.env))) _ _ s
 refine Calls.spliced_cons (thn (ha pins s σ H _ I h) fun u s1 ⟨x,H1,I1,r1,q1⟩=>?_)
 exact thn (hr pos pins s1 σ H1 _ I1 q1) fun us s2 ⟨xs,H2,I2,r2,q2⟩=>⟨x::xs,H2,I2,.cons r1 r2,q2⟩
def Gp(t:TA):TE:=fun σ H Q=>t σ H fun xs H1=>xs.length<=sizeLine/\∀p,H1 p=none->Q (.ref p) (upd H1 p (.tup xs))
def Gv(t:TA):TE:=fun σ H Q=>t σ H fun xs H1=>xs.length<=sizeLine/\∀p,H1 p=none->Q (.ref p) (upd H1 p (.lst xs))
theorem vm{x1}(h:PA X es t):PE X (.Tuple es x1 pos) (Gp t):=by
 intro pins s σ H Q I hq
 refine wpAny_Tuple_spliced (thn (h pos pins s σ H _ I hq) fun us s1 ⟨xs,H1,I1,r,z,q⟩=>⟨by rw[<- r.length];exact z,?_⟩)
 have hf:H1 s1.heap.objs.size=none:=I1.hok.fresh (Nat.le_refl _)
 refine⟨.ref s1.heap.objs.size,upd H1 s1.heap.objs.size (.tup xs),I1.laid (t':=s1.toks) (fun b u e=>Heap.get?_push_of_some _ e) (Nat.le_refl _) ?_,rfl,q _ hf⟩
 exact⟨z,us,r,⟨_,Heap.get?_push_size _ rfl,rfl,_,rfl⟩⟩
theorem Bj(h:PA X es t):PE X (.List es pos) (Gv t):=by
 intro pins s σ H Q I hq
 refine wpAny_List_spliced (thn (h pos pins s σ H _ I hq) fun us s1 ⟨xs,H1,I1,r,z,q⟩=>⟨by rw[<- r.length];exact z,?_⟩)
 have hf:H1 s1.heap.objs.size=none:=I1.hok.fresh (Nat.le_refl _)
 refine⟨.ref s1.heap.objs.size,upd H1 s1.heap.objs.size (.lst xs),I1.laid (t':=s1.toks) (fun b u e=>Heap.get?_push_of_some _ e) (Nat.le_refl _) ?_,rfl,q _ hf⟩
 exact⟨z,us,0,r,Heap.get?_push_size _ rfl⟩
end
abbrev Sp:=List V->Hp->VK->XK->Prop
abbrev CXT:=List Env->Hp->Shared->XK->Value->Shared->Prop
structure q8(P:Program)(w:World)(K:PySem.W.Frag)(mg:Str->Option Value)(base:Heap)(A:Around)(outer:List Env)(s:Shared)(H:Hp):Prop where
 frames:A.frames=some outer
 mod:Mod K mg base
 bs:∀b o,base.get? b=some o->s.heap.get? b=some o/\H b=none
 bsz:base.objs.size<=s.heap.objs.size
 funs:s.heap.FunFrames base outer
 frf:∀b∈frs outer,H b=none
 hok:HOk P w H s.heap
 bare:AllBare s.gens
def CE(outer:List Env)(P:Program)(w:World)(H:Hp)(s:Shared)(Q:VK)(u:Value)(s':Shared):Prop :=
 ∃v H',s'.os=s.os/\AllBare s'.gens/\Un (frs outer) [] H H' s.heap s'.heap/\HOk P w H' s'.heap/\bq v u/\Q v H'
def CR(CX:CXT)(outer:List Env)(P:Program)(w:World)(H:Hp)(s:Shared)(Q:VK)(E:XK)(r:Result)(s':Shared):Prop :=
 match r with
 | .ok (.ret u)=>CE outer P w H s Q u s'
 | .ok _=>False
 | .error e=>CX outer H s E e s'
structure cN(P:Program)(w:World)(K:PySem.W.Frag)(mg:Str->Option Value)(base:Heap)(CX:CXT)(k:Nat)(f:Addr)(fd:FuncData)(ps:List Str)(sp:Sp):Prop where
 len:∀vs H Q E,sp vs H Q E->vs.length=ps.length
 run:∀(A:Around) (outer:List Env) (s:Shared) (H:Hp) (args:Args) (us:List Value) (vs:List V) (Q:VK) (E:XK),dC k A->q8 P w K mg base A outer s H->BindsTo s fd args (ps.zip us)->aJ vs us->sp vs H Q E ->
  codeAny (model P w) A (.call (.ref f) args) (CR CX outer P w H s Q E) s
theorem cN.mono{P:Program}{w:World}{K:PySem.W.Frag}{mg:Str->Option Value}{base:Heap}{CX:CXT}{j k:Nat}{f:Addr}{fd:FuncData}{ps:List Str}{sp:Sp}(F:cN P w K mg base CX j f fd ps sp)(h:j<=k) :
  cN P w K mg base CX k f fd ps sp:=⟨F.len,fun A outer s H args us vs Q E hr=>F.run A outer s H args us vs Q E (hr.mono h)⟩
theorem cN.imp{P:Program}{w:World}{K:PySem.W.Frag}{mg:Str->Option Value}{base:Heap}{CX:CXT}{k:Nat}{f:Addr}{fd:FuncData}{ps:List Str}{sp sp':Sp}(F:cN P w K mg base CX k f fd ps sp)
  (h:∀vs H Q E,sp' vs H Q E->sp vs H Q E):cN P w K mg base CX k f fd ps sp' :=
 ⟨fun vs H Q E q=>F.len vs H Q E (h _ _ _ _ q),fun A outer s H args us vs Q E hr he hb hv hs=>F.run A outer s H args us vs Q E hr he hb hv (h _ _ _ _ hs)⟩
theorem q8.make{P:Program}{w:World}{K:PySem.W.Frag}{mg:Str->Option Value}{base:Heap}{A:Around}{outer:List Env}{s:Shared}{H:Hp}(e:q8 P w K mg base A outer s H)(C:Addr)(us:List Value)(kw:List (Str×Value)) :
  q8 P w K mg base (A.under (.builtin "type.__call__" ⟨.ref C::us,kw⟩)) outer s H:=⟨by first | exact e.frames |(simpa[Around.under,Code.envs,Code.isFrame,pushEnvs]using e.frames),e.mod,e.bs,e.bsz,e.funs,e.frf,e.hok,e.bare⟩
section
variable{X:Cx}{pins:List (Addr×Obj)}{σ:St}{H:Hp}{s s':Shared}
theorem Inv.env0(I:Inv X pins σ H s):q8 X.prog X.w X.K X.mg X.base X.A X.stack s H :=
 ⟨I.ok.frames,I.ok.mod,I.bs,Nat.le_trans I.ok.bsz I.sz,I.stack,I.stkFree,I.hok,I.bare⟩
theorem Inv.after{Q:VK}{u:Value}(I:Inv X pins σ H s)(h:CE X.stack X.prog X.w H s Q u s'):EP X pins σ Q u s':=by
 obtain⟨v,H',os,bare,un,hok,r,q⟩:=h
 obtain⟨hh,g,d,t,os'⟩:=s'
 obtain rfl:os'=s.os:=os
 exact⟨v,H',I.call (h':=hh) (g':=g) (d':=d) (t':=t) (ch:=[]) un hok bare (fun b z=>absurd z (by simp)),r,q⟩
end
def d_(K:PySem.W.Frag)(fd:FuncData)(ps:List Str)(ds:List Value):Prop :=
 ∀(s:Shared) (us:List Value),K.In s.heap->(us++ds).length=ps.length->BindsTo s fd ⟨us,[]⟩ (ps.zip (us++ds))
theorem d_.all{K:PySem.W.Frag}{fd:FuncData}{ps:List Str}(h:∀us:List Value,us.length=ps.length->bindArgs fd ⟨us,[]⟩=pure (ps.zip us)):d_ K fd ps []:=fun s us _ hl=>by
 rw[List.append_nil]at hl ⊢
 exact .of_eq (h us hl)
section
variable{X:Cx}{CX:CXT}{k:Nat}{f C:Addr}{fd:FuncData}{ps:List Str}{sp:Sp}{dvs:List V}{ds:List Value}{E:XK}{x m:Str}{p pos apos:Pos}{e o:Expr}{es:List Expr}{ta:TE}{t:TA}
structure Mk(K:PySem.W.Frag)(C f:Addr):Prop where
 makes:PySem.W.makesIn K C=true
 init:PySem.W.findIn K (.ref C) "__init__" = some (some (.ref f))
 fn:PySem.W.isFn K (.ref f)=true
 kp:PySem.W.keepIn K (.ref C)=true
end
def PK(X:Cx)(kws:List Keyword)(t:TA):Prop :=
 ∀(pos:Pos) (pins:List (Addr×Obj)) (s:Shared) (σ:St) (H:Hp) (Q:List V->Hp->Prop),Inv X pins σ H s->t σ H Q->wpAny (model X.prog X.w) X.A (evalAll ((backToKw pos (keywordEach kws X.env)).map (·.2))) (AP X pins σ Q) X.xe s
section
variable{X:Cx}{CX:CXT}{k:Nat}{f C:Addr}{fd:FuncData}{ps ks:List Str}{sp:Sp}{E:XK}{x m:Str}{p pos apos kpos:Pos}{e o:Expr}{es:List Expr}{kws:List Keyword}{te ta:TE}{t tk:TA}{nm:Option Str}
theorem vg:PK X [] AJ:=fun _ _ _ _ H Q I h=>wpAny_evalAll_nil ⟨[],H,I,.nil,h⟩
theorem rO(ha:PE X e te)(hr:PK X kws t):PK X (⟨nm,e,kpos⟩::kws) (rj te t):=by
 intro pos pins s σ H Q I h
 show wpAny _ _ (evalAll ((do let v <- eval e X.env;standAt pos;pure v)::(backToKw pos (keywordEach kws X.env)).map (·.2))) _ _ s
 refine wpAny_evalAll_cons (wpAny_bind (thn (ha pins s σ H _ I h) fun u s1 ⟨x,H1,I1,r1,q1⟩=>wpAny_bind (wpAny_standAt (wpAny_pure ?_))))
 exact thn (hr pos pins s1 σ H1 _ I1 q1) fun us s2 ⟨xs,H2,I2,r2,q2⟩=>⟨x::xs,H2,I2,.cons r1 r2,q2⟩
structure Hf(K:PySem.W.Frag)(fd:FuncData)(ps ks:List Str)(g:List Value->List Value->List Value)(gV:List V->List V->List V):Prop where
 to:∀(s:Shared) (us ws:List Value),K.In s.heap->(g us ws).length=ps.length->BindsTo s fd ⟨us,ks.zip ws⟩ (ps.zip (g us ws))
 rel:∀{vs:List V}{us:List Value}{zs:List V}{ws:List Value},aJ vs us->aJ zs ws->aJ (gV vs zs) (g us ws)
variable{g:List Value->List Value->List Value}{gV:List V->List V->List V}
end
structure cR(N P:List Str)(sc:Scope):Prop where
 kind:sc.kind=.function
 co:sc.isCoroutine=false
 gen:sc.isGenerator=false
 nd:N.Nodup
 pre:N.take P.length=P
 par:∀x∈P,sc.names.lookup x=some .local\/sc.names.lookup x=some .cell
 nofree:∀y∈sc.names,y.2≠.free
theorem mJ{kindOf:Str->Option NameKind}{x:Str}:∀{binds:List (Str×Value)}{m:Str->Option Value},(∀v,(x,v)∉ binds)->bindL kindOf binds m x=m x
 | [],_,_=>rfl
 |(n,v)::r,m,h=>by
  unfold bindL
  rw[mJ fun w hw=>h w (List.mem_cons_of_mem _ hw)]
  split
  ·have:x≠n:=by rintro rfl;exact h v List.mem_cons_self
   simp[this]
  ·rfl
theorem mM{kindOf:Str->Option NameKind}{x:Str}:∀{binds:List (Str×Value)}{m:Str->Option Value},(∀v,(x,v)∉ binds)->bindC kindOf binds m x=m x
 | [],_,_=>rfl
 |(n,v)::r,m,h=>by
  unfold bindC
  rw[mM fun w hw=>h w (List.mem_cons_of_mem _ hw)]
  split
  ·rfl
  ·have:x≠n:=by rintro rfl;exact h v List.mem_cons_self
   simp[this]
theorem mK{kindOf:Str->Option NameKind}{x:Str}{v:Value}:∀{P:List Str}{vs:List Value}{i:Nat}{m:Str->Option Value},P.Nodup->P[i]?=some x->vs[i]?=some v->kindOf x=some .local ->
  bindL kindOf (P.zip vs) m x=some v
 | [],_,_,_,_,h,_,_ | _::_,[],_,_,_,_,h,_=>by simp at h
 | p::P,w::vs,0,m,nd,h1,h2,hk=>by
  simp at h1 h2;subst h1;subst h2
  show bindL kindOf ((p,w)::P.zip vs) m p=_
  unfold bindL
  rw[mJ fun v hv=>(List.nodup_cons.mp nd).1 (List.of_mem_zip hv).1,if_pos hk]
  simp
 | p::P,w::vs,i+1,m,nd,h1,h2,hk=>by
  show bindL kindOf ((p,w)::P.zip vs) m x=_
  unfold bindL
  exact mK (i:=i) (List.nodup_cons.mp nd).2 (by simpa using h1) (by simpa using h2) hk
theorem mO{kindOf:Str->Option NameKind}{x:Str}{v:Value}:∀{P:List Str}{vs:List Value}{i:Nat}{m:Str->Option Value},P.Nodup->P[i]?=some x->vs[i]?=some v->kindOf x≠some .local ->
  bindC kindOf (P.zip vs) m x=some v
 | [],_,_,_,_,h,_,_ | _::_,[],_,_,_,_,h,_=>by simp at h
 | p::P,w::vs,0,m,nd,h1,h2,hk=>by
  simp at h1 h2;subst h1;subst h2
  show bindC kindOf ((p,w)::P.zip vs) m p=_
  unfold bindC
  rw[mM fun v hv=>(List.nodup_cons.mp nd).1 (List.of_mem_zip hv).1,if_neg hk]
  simp
 | p::P,w::vs,i+1,m,nd,h1,h2,hk=>by
  show bindC kindOf ((p,w)::P.zip vs) m x=_
  unfold bindC
  exact mO (i:=i) (List.nodup_cons.mp nd).2 (by simpa using h1) (by simpa using h2) hk
def start(N:List Str)(vs:List V):St:=vs.map some++List.replicate (N.length - vs.length) none
def d8(CX:CXT)(P:Program)(w:World)(K:PySem.W.Frag)(mg:Str->Option Value)(base:Heap)(N:List Str)(qual:Str)(scope:Scope)(f:Addr)(cd:Value)(A:Around)(outer:List Env)(s:Shared)(H:Hp)(E:XK):Cx where
 prog:=P
 w:=w
 K:=K
 mg:=mg
 base:=base
 A:=A.deeper (envOfC qual scope s.heap.objs.size f cd)
 N:=N
 s₀:=s
 H₀:=H
 env:=envOfC qual scope s.heap.objs.size f cd
 outer:=outer
 stack:=envOfC qual scope s.heap.objs.size f cd::outer
 ex:=[]
 calm:=true
 fn:=fun _=>true
 pn:=[]
 xe:=fun e s'=>wpAny (model P w) (A.deeper (envOfC qual scope s.heap.objs.size f cd)) (leaving (envOfC qual scope s.heap.objs.size f cd) e) (fun _ s''=>CX outer H s E e s'') (fun e' s''=>CX outer H s E e' s'') s'
theorem pK{sc:Scope}{n:Nat}{x:Str}(h:sc.names.lookup x=some .cell):∃c,(cellsFrom n sc.names []).lookup x=some c:=by
 have q:=PySem.W.cellsFrom_some sc.names n [] (.inl h)
 exact Option.isSome_iff_exists.mp q
theorem t9{CX:CXT}{P:Program}{w:World}{K:PySem.W.Frag}{mg:Str->Option Value}{base:Heap}{N ps:List Str}{qual:Str}{scope:Scope}{f:Addr}{cd:Value}{A:Around}{outer:List Env}{s s1:Shared}{H:Hp}{E:XK}{us:List Value}{vs:List V}
  (S:cR N ps scope) (hd:A.handled=none) (e0:q8 P w K mg base A outer s H) (hl:vs.length=ps.length) (r:aJ vs us)
  (x:InCallC s s.heap.objs.size (bindL (envOfC qual scope s.heap.objs.size f cd).kindOf (ps.zip us) fun _=>none) (cellsFrom (s.heap.objs.size+1) scope.names []) (bindC (envOfC qual scope s.heap.objs.size f cd).kindOf (ps.zip us) fun _=>none) s1) :
  Inv (d8 CX P w K mg base N qual scope f cd A outer s H E) [] (start N vs) H s1:=by
 have hpl:ps.length<=N.length:=by have:=congrArg List.length S.pre;rw[List.length_take]at this;omega
 obtain⟨h1,tk,rfl,hk⟩:=x.done
 have noA:∀b:Addr,b ∉(d8 CX P w K mg base N qual scope f cd A outer s H E).ex:=fun b z=>absurd (show b ∈([]:List Addr)from z) (by simp)
 refine ⟨⟨e0.mod,S.kind,rfl,rfl,Nat.le_refl _,fun y z c h1 h2=>?_,fun y hy=>?_,fun y c _ h=>?_,fun _=>hd,Around.frames_deeper e0.frames,.inr ⟨rfl,rfl⟩,fun b z=>absurd z (noA b),e0.bs,e0.bsz,fun b _ _=>noA b,fun b z=>absurd z (noA b),e0.funs,e0.frf⟩,
  rfl,e0.bare,Un.kept hk,⟨_,x.toInCall.ns,fun i y v h1 h2 h3=>?_⟩,fun y c h=>⟨_,x.cell y c h⟩,e0.hok.fresh (Nat.le_refl _),fun y c h=>?_,fun p hp=>absurd (show p ∈([]:List (Addr×Obj))from hp) (by simp),e0.hok.kept hk,?_⟩
 ·exact name_of_addr x.apart (PySem.mem_of_lookup h1) (PySem.mem_of_lookup h2)
 ·have hy:scope.names.lookup y=some .cell\/scope.names.lookup y=some .free:=hy
  rcases hy with hy | hy
  ·exact pK hy
  ·exact absurd rfl (S.nofree _ (PySem.mem_of_lookup hy))
 ·exact Nat.le_of_lt (x.above y c (PySem.mem_of_lookup h))
 ·have hi:i < vs.length:=by
   unfold start at h2
   by_cases hi:i < vs.length
   ·exact hi
   ·rw[List.getElem?_append_right (by simpa using hi)]at h2
    rw[List.getElem?_replicate]at h2
    split at h2<;>cases h2
  have ha:vs[i]?=some v:=by
   unfold start at h2
   rw[List.getElem?_append_left (by simpa using hi),List.getElem?_map]at h2
   cases e:vs[i]? with
   | none=>rw[e]at h2;cases h2
   | some a=>rw[e]at h2;cases h2;rfl
  obtain⟨u,hu,rv⟩:=r.get ha
  have hp:ps[i]?=some y:=by
   rw[<- S.pre,List.getElem?_take_of_lt (by omega)];exact h1
  have ndP:ps.Nodup:=by rw[<- S.pre];exact S.nd.sublist (List.take_sublist _ _)
  refine⟨u,rv,?_⟩
  rcases S.par y (List.mem_of_getElem? hp)with k | k
  ·exact .inl ⟨k,mK ndP hp hu k⟩
  ·obtain⟨c,e⟩:=pK (n:=s.heap.objs.size+1) k
   refine .inr ⟨.inl k,c,e,?_⟩
   have q:=x.cell y c e
   rw[mO ndP hp hu (by show scope.names.lookup y≠_;rw[k];decide)]at q
   exact q
 ·exact e0.hok.fresh (Nat.le_of_lt (x.above y c (PySem.mem_of_lookup h)))
 ·unfold start
  show _=N.length
  rw[List.length_append,List.length_map,List.length_replicate]
  omega
theorem sg{CX:CXT}{P:Program}{w:World}{K:PySem.W.Frag}{mg:Str->Option Value}{base:Heap}{k:Nat}{f:Addr}{name qual:Str}{params:Arguments}{body:List Stmt}{scope:Scope}{dV kV doc pm cdv ct oc:Value}{an od:Option Addr}
  {osl:Array (Option Value)}{N ps:List Str}{sp:Sp} (lk:K.lookup f=some ⟨oc,od,.func (PySem.W.fnOf name qual params body scope dV kV doc pm an cdv ct),osl⟩) (hcd:PySem.W.codeIn K cdv qual=true) (S:cR N ps scope)
  (len:∀vs H Q E,sp vs H Q E->vs.length=ps.length)
  (hbody:∀ (A:Around) (outer:List Env) (s:Shared) (H:Hp) (vs:List V) (Q:VK) (E:XK),dC k (A.deeper (envOfC qual scope s.heap.objs.size f cdv))->sp vs H Q E ->
   ∃t,PSs (d8 CX P w K mg base N qual scope f cdv A outer s H E) body t/\t { nx:=fun _ H'=>Q .non H',rt:=Q } (start N vs) H) :
  cN P w K mg base CX (k+1) f (PySem.W.fnOf name qual params body scope dV kV doc pm an cdv ct) ps sp:=by
 refine⟨len,fun A outer s H args us vs Q E hr e0 hb r hsp=>?_⟩
 have hl:=len _ _ _ _ hsp
 have KX:K.In s.heap:=e0.mod.kin.keeps fun b o e=>(e0.bs b o e).1
 have lim:s.heap.NoLimit:=e0.mod.nolimit.keeps fun b o e=>(e0.bs b o e).1
 have hkind:∀y∈ps.zip us,scope.names.lookup y.1=some .local \/(scope.names.lookup y.1=some .cell/\((cellsFrom (s.heap.objs.size+1) scope.names []).lookup y.1).isSome=true):=fun hz1 hy=>by
  obtain⟨n,v⟩:=hz1
  rcases S.par n (List.of_mem_zip hy).1 with q | q
  ·exact .inl q
  ·exact .inr ⟨q,PySem.W.cellsFrom_some _ _ _ (.inl q)⟩
 refine codeAny_call_function hr.depth (KX _ _ lk) rfl S.co S.gen rfl (PySem.W.codeRec_of KX hcd) (hb _ _ _ _ ?_)
 refine wpAny_newFunctionEnv_cells S.kind hkind fun env he s1 x=>?_
 subst he
 refine⟨lim.keeps x.toInCall.keep,codeAny_func ?_⟩
 obtain⟨t,ht,hq⟩:=hbody A outer s H vs Q E (hr.deeper _) hsp
 have I:Inv (d8 CX P w K mg base N qual scope f cdv A outer s H E) [] (start N vs) H s1:=t9 S hr.hd e0 hl r x
 refine wpAny_mono (ht [] s1 (start N vs) H _ I hq) (fun fl s' hs=>?_) fun e s' hs=>hs
 have fin:∀{σ':St}{H':Hp}{v:V}{u:Value},Inv (d8 CX P w K mg base N qual scope f cdv A outer s H E) [] σ' H' s'->bq v u->Q v H'->CE outer P w H s Q u s' :=
  fun {σ' H' v u} J rv q=>⟨v,H',J.os,J.bare,J.base,J.hok,rv,q⟩
 cases fl with
 | ret u =>
  obtain⟨v,σ',H',J,rv,q⟩:=hs
  exact fin J rv q
 | next =>
  obtain⟨σ',H',J,q⟩:=hs
  exact fin (v:=V.non) (u:=Value.none) J rfl q
 | brk =>
  obtain⟨_,_,_,q⟩:=hs
  exact False.elim q
 | cont =>
  obtain⟨_,_,_,q⟩:=hs
  exact False.elim q
end L2
namespace L2
open PySem PySem.Spec PyProof.Rows
section
variable{X:Cx}{x:Str}{p pos:Pos}{e:Expr}{es:List Expr}{t:TA}{id T:String}{r:List V->Hp->VK->Prop}
def tCB(r:List V->Hp->VK->Prop)(t:TA):TE:=fun σ H Q=>t σ H fun vs H1=>r vs H1 Q
theorem kJ(hc:d9 X (.builtin id) r)(hg:Gl X x)(hm:X.mg x=none)(hv:bootBuiltins x=some (.builtin id))(ha:PA X (e::es) t)(hn:x≠"__name__" := by decide)(hdb:(x ==("__debug__" : Str))=false:=by decide)
  (he:starEach (e::es) X.env=(false,eval e X.env)::starEach es X.env:=by rfl) (hpl:(backTo pos (starEach es X.env)).any (·.1)=false:=by rfl):PE X (.Call (.Name x p) (e::es) [] pos) (tCB r t):=by
 intro pins s σ H Q I h
 refine wpAny_Call_Name_kw (fv I hg hm hv ?_ hn hdb)
 exact PyProof.Rows.callWith_builtin1 (thn (ha pos pins s σ H _ I h) fun us s1 ⟨vs,H1,I1,r1,q1⟩=>hc pins s1 σ H1 vs us Q I1 r1 q1) he hpl
theorem lV(hc:d9 X (.type T) r)(hg:Gl X x)(hm:X.mg x=none)(hv:bootBuiltins x=some (.type T))(ha:PA X (e::es) t)(hn:x≠"__name__" := by decide)(hdb:(x ==("__debug__" : Str))=false:=by decide)
  (he:starEach (e::es) X.env=(false,eval e X.env)::starEach es X.env:=by rfl) (hpl:(backTo pos (starEach es X.env)).any (·.1)=false:=by rfl):PE X (.Call (.Name x p) (e::es) [] pos) (tCB r t):=by
 intro pins s σ H Q I h
 refine wpAny_Call_Name_kw (fv I hg hm hv ?_ hn hdb)
 exact PyProof.Rows.callWith_type1 (thn (ha pos pins s σ H _ I h) fun us s1 ⟨vs,H1,I1,r1,q1⟩=>hc pins s1 σ H1 vs us Q I1 r1 q1) he hpl
end
end L2
namespace HT
open PySem PyProof.Rows
def lexLt:List Int->List Int->Bool
 | [],[]=>false
 | [],_::_=>true
 | _::_,[]=>false
 | x::xs,y::ys=>if x=y then lexLt xs ys else decide (x < y)
theorem qE(x y:Int)(xs ys:List Int):lexLt (x::xs) (y::ys)=if x=y then lexLt xs ys else decide (x < y):=rfl
theorem lv:lexLt [] []=false:=rfl
theorem kS(y:Int)(ys:List Int):lexLt [] (y::ys)=true:=rfl
theorem kT(x:Int)(xs:List Int):lexLt (x::xs) []=false:=rfl
theorem wU(A:Around)(s:Shared)(a:Int)(t:Tok)(c:Int)(u:Tok):∃e,SeqAt.EqAt A s (.int a t) (.int c u) e/\(e=true↔a=c) :=
 ⟨(a==c),SeqAt.EqAt.int_int a t c u,by simp⟩
theorem uZ(A:Around)(s:Shared)(a:Int)(t:Tok)(c:Int)(u:Tok)(prog:Program)(w:World)(E:Value->Shared->Prop)(Q:Value->Shared->Prop)(h:Q (.bool (decide (a < c))) s) :
  wpAny (model prog w) A (richCompare .Lt (.int a t) (.int c u)) Q E s :=
 (PyProof.Rows.lt_int h:wpAny (model prog w) A (compareOp .Lt (.int a t) (.int c u)) Q E s)
section
open PySem.SeqAt
open PySem.AutoSeq1 (wpAny_loadPart')
open PySem.MeetsSeq PySem.MeetsSeq2 PySem.MeetsSeq3
theorem lm(l b:Addr)(items items2:Array Value)(n n2:Nat)(dd dd2:Option Addr)(sl sl2:Array (Option Value))(ns ms:List Int)(hi:IntsAre items.toList ns)(hj:IntsAre items2.toList ms) :
  Meets (Builtin.«tuple.__lt__» ⟨[.ref l,.ref b],[]⟩)
   (fun _ R s=>s.heap.get? l=some { cls:=.type "tuple", dict:=dd,data:=.seq items n,slots:=sl }/\s.heap.get? b=some { cls:=.type "tuple", dict:=dd2,data:=.seq items2 n2,slots:=sl2 } /\
    R (.ok (.ret (.bool (lexLt ns ms)))) s) :=
 .of_wp fun prog w A R s h=>by
  obtain⟨hp,g,d,tk,os⟩:=s;obtain⟨hl,hb,h⟩:=h
  have f2:=AutoSeq1.sub_tuple_tuple
  have z1:items.size=ns.length:=by rw[<- hi.length];simp
  have z2:items2.size=ms.length:=by rw[<- hj.length];simp
  wp_walk using wpAny_loadPart' hl,wpAny_loadPart' hb,wpAny_forIn_list _ (fun a_ b s'=>b.1=none/\s'=⟨hp,g,d,tk,os⟩/\∃ (vs ws:List Value) (ns' ms':List Int),a_=vs.zip ws /\
   IntsAre vs ns'/\IntsAre ws ms'/\ns'.length+items2.size=ms'.length+items.size/\R (.ok (.ret (.bool (lexLt ns' ms')))) ⟨hp,g,d,tk,os⟩) _
  case turn =>
   rintro⟨y,x⟩ a_ b s' ⟨hb',rfl,vs,ws,ns',ms',hz,hvi,hwi,hlen,hR⟩
   cases hvi with
   | nil=>rw[List.zip_nil_left]at hz;cases hz
   | cons a t hvi' =>
    cases hwi with
    | nil=>rw[List.zip_nil_right]at hz;cases hz
    | cons c u hwi' =>
     rw[List.zip_cons_cons]at hz
     injection hz with hyx hrest
     injection hyx with hy hx
     subst hy hx
     rw[qE]at hR
     simp only[List.length_cons]at hlen
     obtain⟨e,he,hiff⟩:=wU A.in1 ⟨hp,g,d,tk,os⟩ a t c u
     refine wpAny_bind (he prog w _ _ ?_)
     cases e with
     | true =>
      rw[if_pos (hiff.mp rfl)]at hR
      wp_walk
      exact⟨rfl,rfl,_,_,_,_,hrest,hvi',hwi',by omega,hR⟩
     | false =>
      rw[if_neg (fun q=>absurd (hiff.mpr q) Bool.false_ne_true)]at hR
      have hri:=uZ A.in1 ⟨hp,g,d,tk,os⟩ a t c u prog w
      wp_walk using hri
      exact⟨_,rfl,by simpa using hR⟩
  case fin =>
   rintro⟨b1,b2⟩ s' ⟨hb',rfl,vs,ws,ns',ms',hz,hvi,hwi,hlen,hR⟩
   simp only at hb'
   subst hb'
   have hv:lexLt ns' ms'=decide (items.size < items2.size):=by
    cases hvi with
    | nil =>
     cases hwi with
     | nil =>
      simp only[List.length_nil]at hlen
      rw[lv]
      exact(decide_eq_false (by omega)).symm
     | cons c u hw =>
      simp only[List.length_nil,List.length_cons]at hlen
      rw[kS]
      exact(decide_eq_true (by omega)).symm
    | cons a t hv =>
     cases hwi with
     | nil =>
      simp only[List.length_nil,List.length_cons]at hlen
      rw[kT]
      exact(decide_eq_false (by omega)).symm
     | cons c u hw =>
      rw[List.zip_cons_cons]at hz
      cases hz
   rw[hv]at hR
   wp_walk
   exact⟨_,rfl,by simpa[Builtin.Tuple.tupleCompareSizes]using hR⟩
  case h =>
   exact⟨rfl,rfl,items.toList,items2.toList,ns,ms,rfl,hi,hj,by omega,h⟩
variable{prog:Program}{w:World}{A:Around}{E:Value->Shared->Prop}{s:Shared}
theorem lt_tupInts{l b:Addr}{items items2:Array Value}{ns ms:List Int}{Q:Value->Shared->Prop}(hl:IsTup s.heap l items)(hb:IsTup s.heap b items2)(hi:IntsAre items.toList ns)(hj:IntsAre items2.toList ms)
  (hu:A.units < cLine) (h:Q (.bool (lexLt ns ms)) s):wpAny (model prog w) A (compareOp .Lt (.ref l) (.ref b)) Q E s:=by
 obtain⟨⟨cls,dd,data,sl⟩,ho,hc,n,hd⟩:=id hl
 obtain⟨⟨cls2,dd2,data2,sl2⟩,ho2,hc2,n2,hd2⟩:=id hb
 simp only at hc hd hc2 hd2
 subst hc hd hc2 hd2
 exact richCompare_meets_room (op:=.Lt) ⟨_,ho,rfl⟩ ⟨_,ho2,rfl⟩ PySem.F.slot_tuple_lt PySem.F.entry_tuple_lt (PySem.F.args_tuple_lt_2 _ _) (lm l b items items2 n n2 dd dd2 sl sl2 ns ms hi hj)
  ⟨ho,ho2,show Value.bool (lexLt ns ms)≠ Value.notImplemented/\Q (.bool (lexLt ns ms)) s from⟨(fun x=>nomatch x),h⟩⟩ hu
def sIx(n d:Nat):Option Int->Nat
 | none=>d
 | some v=>if v < 0 then(v+(n:Int)).toNat else min v.toNat n
theorem sIx_none(n d:Nat):sIx n d none=d:=rfl
theorem sIx_nat(n d k:Nat):sIx n d (some (k:Int))=min k n:=by
 show(if(k:Int) < 0 then((k:Int)+(n:Int)).toNat else min (k:Int).toNat n)=min k n
 rw[if_neg (by omega),Int.toNat_natCast]
end
end HT
namespace L2
open PySem PySem.Spec PyProof.Rows
abbrev TO:=St->Hp->(Option Int->Hp->Prop)->Prop
def PO(X:Cx)(e:Option Expr)(t:TO):Prop :=
 ∀(pins:List (Addr×Obj)) (s:Shared) (σ:St) (H:Hp) (Q:Option Int->Hp->Prop),Inv X pins σ H s->t σ H Q ->
  wpAny (model X.prog X.w) X.A (evalPart e X.env) (fun u s'=>∃o H',Inv X pins σ H' s'/\IsPart u o/\Q o H') X.xe s
def ym:TO:=fun _ H Q=>Q none H
def DY(t:TE):TO:=fun σ H Q=>t σ H fun x H1=>∃i,x=.int i/\Q (some i) H1
theorem kX{ns:List Int}:∀{us:List Value},aJ (ns.map V.int) us->IntsAre us ns:=by
 induction ns with
 | nil=>intro us r;rw[List.map_nil]at r;cases r;exact .nil
 | cons n ns ih =>
  intro us r
  rw[List.map_cons]at r
  cases r with
  | cons r1 r2 =>
   obtain⟨t,e⟩:=r1
   subst e
   exact .cons n t (ih r2)
section
variable{X:Cx}{e:Expr}{te:TE}{lo hi:Option Expr}{tl th:TO}{pos p2:Pos}
theorem y3:PO X none ym:=by
 intro pins s σ H Q I h
 rw[evalPart_none]
 exact wpAny_pure ⟨none,H,I,.none,h⟩
theorem y2(h:PE X e te):PO X (some e) (DY te):=by
 intro pins s σ H Q I hw
 rw[evalPart_some]
 refine thn (h pins s σ H _ I hw) fun u s1 hz1=>?_
 obtain⟨x,H1,I1,r1,q1⟩:=hz1
 obtain⟨i,rfl,q⟩:=q1
 obtain⟨t,rfl⟩:=r1
 exact⟨some i,H1,I1,.int i t,q⟩
def SlR(X:Cx)(r:V->Option Int->Option Int->Hp->VK->Prop):Prop :=
 ∀(pins:List (Addr×Obj)) (s:Shared) (σ:St) (H:Hp) (x:V) (v vl vu:Value) (lo hi:Option Int) (sl:Addr) (Q:VK),Inv X pins σ H s->bq x v->s.heap.IsSliceOf sl vl vu .none->IsPart vl lo->IsPart vu hi->r x lo hi H Q ->
  ∃T id,typeLookup (.type T) "__getitem__" = pure (some (.builtin id))/\s.TypeIs v T/\wpAny (model X.prog X.w) X.A (getItem v (.ref sl)) (EP X pins σ Q) X.xe s
def tSl(r:V->Option Int->Option Int->Hp->VK->Prop)(te:TE)(tl th:TO):TE:=fun σ H Q=>te σ H fun x H1=>tl σ H1 fun l H2=>th σ H2 fun u H3=>r x l u H3 Q
theorem vn{r:V->Option Int->Option Int->Hp->VK->Prop}(hr:SlR X r)(he:PE X e te)(hl:PO X lo tl)(hu:PO X hi th):PE X (.Subscript e (.Slice lo hi none p2) pos) (tSl r te tl th):=by
 intro pins s σ H Q I h
 refine Subscript_ (thn (he pins s σ H _ I h) fun v s1 ⟨x,H1,I1,r1,q1⟩=>?_)
 refine wpAny_Slice (thn (hl pins s1 σ H1 _ I1 q1) fun vl s2 ⟨l,H2,I2,pl,q2⟩=>thn (hu pins s2 σ H2 _ I2 q2) fun vu s3 ⟨u,H3,I3,pu,q3⟩=>?_)
 rw[evalPart_none]
 refine wpAny_pure ?_
 have I4:Inv X pins σ H3 { s3 with heap:=s3.heap.push { cls:=.type "slice", data:=.fields #[vl,vu,.none] } }:=I3.kept (t':=s3.toks) fun b ob q=>Heap.get?_push_of_some _ q
 obtain⟨T,id,hT,ht,hg⟩:=hr pins { s3 with heap:=s3.heap.push { cls:=.type "slice", data:=.fields #[vl,vu,.none] } } σ H3 x v vl vu l u s3.heap.objs.size Q I4 r1 (Heap.IsSliceOf.new ..) pl pu q3
 show wpAny (model X.prog X.w) X.A (subscriptTail e (.Slice lo hi none p2) v (.ref s3.heap.objs.size)) (EP X pins σ Q) X.xe { s3 with heap:=s3.heap.push { cls:=.type "slice", data:=.fields #[vl,vu,.none] } }
 exact tail_any (ops:=[.ref s3.heap.objs.size,v]) ht hT hg (by with_unfolding_all rfl)
def w6(xs:List V)(lo hi:Option Int):List V:=(xs.drop (HT.sIx xs.length 0 lo)).take (HT.sIx xs.length xs.length hi - HT.sIx xs.length 0 lo)
theorem pI(xs:List V)(lo hi:Option Int):(w6 xs lo hi).length<=xs.length:=by
 unfold w6
 rw[List.length_take,List.length_drop]
 omega
def Ed(K:PySem.W.Frag):R2:=fun x y H Q=>∃a b ns ms,x=.ref a/\y=.ref b/\SqT K H a (ns.map V.int)/\SqT K H b (ms.map V.int)/\Q (.bl (HT.lexLt ns ms)) H
theorem vA(hu:X.A.units < cLine):OpR X (compareOp .Lt) (Ed X.K):=by
 intro pins s σ H x y v u Q I rx ry h
 obtain⟨a,b,ns,ms,rfl,rfl,ha,hb,q⟩:=h
 cases rx
 cases ry
 obtain⟨its,r1,p1,_⟩:=I.tuple ha
 obtain⟨its2,r2,p2,_⟩:=I.tuple hb
 have i1:IntsAre its.toArray.toList ns:=kX r1
 have i2:IntsAre its2.toArray.toList ms:=kX r2
 exact HT.lt_tupInts p1 p2 i1 i2 hu ⟨.bl (HT.lexLt ns ms),H,I,rfl,q⟩
end
end L2
namespace L2
open PySem PySem.Spec PyProof.Rows
def ixN(n:Nat)(i:Int):Option Nat:=if 0<=i then(if i < n then some i.toNat else none)else if -(n:Int)<= i then some (i+n).toNat else none
def atI{α:Type}(xs:List α)(i:Int):Option α:=(ixN xs.length i).bind fun j=>xs[j]?
theorem r9{n:Nat}{i:Int}{j:Nat}(h:ixN n i=some j):seqIndex? i n=some j/\j < n/\-(n:Int)<= i/\i < n:=by
 unfold ixN at h
 by_cases h0:0<=i
 ·rw[if_pos h0]at h
  by_cases h1:i < n
  ·rw[if_pos h1]at h
   have e:i.toNat=j:=Option.some.inj h
   exact⟨by rw[seqIndex_of h0 h1,e],by omega,by omega,h1⟩
  ·rw[if_neg h1]at h;cases h
 ·rw[if_neg h0]at h
  by_cases h1:-(n:Int)<= i
  ·rw[if_pos h1]at h
   have e:(i+n).toNat=j:=Option.some.inj h
   exact⟨by rw[seqIndex_neg (by omega) h1,e],by omega,h1,by omega⟩
  ·rw[if_neg h1]at h;cases h
theorem n6{α:Type}{xs:List α}{i:Int}{v:α}(h:atI xs i=some v):∃j,seqIndex? i xs.length=some j/\xs[j]?=some v/\j < xs.length/\-(xs.length:Int)<= i/\i < xs.length:=by
 unfold atI at h
 cases e:ixN xs.length i with
 | none=>rw[e]at h;cases h
 | some j =>
  rw[e]at h
  obtain⟨h1,h2,h3,h4⟩:=r9 e
  exact⟨j,h1,h,h2,h3,h4⟩
theorem atI_last{α:Type}(xs:List α)(v:α):atI (xs++[v]) (-1)=some v:=by
 have hl:(xs++[v]).length=xs.length+1:=by simp
 have e:ixN (xs++[v]).length (-1)=some xs.length:=by
  unfold ixN
  rw[hl,if_neg (by decide),if_pos (by omega)]
  congr 1
  omega
 unfold atI
 rw[e]
 show(xs++[v])[xs.length]?=some v
 simp
def gh(b:Expr):Prop:=∀o i,subscripted b false o i=operate [o,i] (getItem o i)
def IxR(X:Cx)(r:R2):Prop :=
 ∀(value slice:Expr) (pins:List (Addr×Obj)) (s:Shared) (σ:St) (H:Hp) (x y:V) (v u:Value) (Q:VK),Inv X pins σ H s->bq x v->bq y u->r x y H Q ->
  subscripted slice false v u=operate [v,u] (getItem v u)->wpAny (model X.prog X.w) X.A (subscriptTail value slice v u) (EP X pins σ Q) X.xe s
def MtR(X:Cx)(id:String)(r:V->List V->Hp->VK->Prop):Prop :=
 ∀(pins:List (Addr×Obj)) (s:Shared) (σ:St) (H:Hp) (x:V) (xs:List V) (v:Value) (us:List Value) (Q:VK),Inv X pins σ H s->bq x v->aJ xs us->r x xs H Q ->
  wpAny (model X.prog X.w) X.A (call (.builtin id) (v::us)) (EP X pins σ Q) X.xe s
section
variable{X:Cx}{a b:Expr}{ta tb:TE}{pos:Pos}
theorem IxR.or{r r':R2}(h:IxR X r)(h':IxR X r'):IxR X (fun x y H Q=>r x y H Q\/r' x y H Q):=by
 intro value slice pins s σ H x y v u Q I rx ry q hs
 rcases q with q | q
 ·exact h value slice pins s σ H x y v u Q I rx ry q hs
 ·exact h' value slice pins s σ H x y v u Q I rx ry q hs
theorem vq{r:R2}(hr:IxR X r)(ha:PE X a ta)(hb:PE X b tb)(hs:gh b):PE X (.Subscript a b pos) (tOp r ta tb):=by
 intro pins s σ H Q I h
 exact Subscript_ (CM ha hb I h fun v u s2 x y H2 I2 rx ry q=>hr a b pins s2 σ H2 x y v u Q I2 rx ry q (hs _ _))
def yS(K:PySem.W.Frag):R2:=fun x y H Q=>∃p xs i v,x=.ref p/\y=.int i/\SqL K H p xs/\atI xs i=some v/\Q v H
def yQ(K:PySem.W.Frag):R2:=fun x y H Q=>∃p xs i v,x=.ref p/\y=.int i/\SqT K H p xs/\atI xs i=some v/\Q v H
def yR:R2:=fun x y H Q=>∃z i c,x=.str z/\y=.int i/\z.length<=sizeLine/\atI z.cps.toList i=some c/\Q (.str ⟨#[c]⟩) H
theorem zE:IxR X (yS X.K):=by
 intro value slice pins s σ H x y v u Q I rx ry h hs
 obtain⟨p,xs,i,z,rfl,rfl,hq,he,q⟩:=h
 cases rx
 obtain⟨t,rfl⟩:=ry
 obtain⟨its,r,pl,hz⟩:=I.list hq
 obtain⟨j,h1,h2,h3,h4,h5⟩:=n6 he
 obtain⟨w,ew,rw'⟩:=r.get h2
 have hl:=r.length
 have hn:=jI
 have fin:EP X pins σ Q w s:=⟨z,H,I,rw',q⟩
 by_cases h0:0<=i
 ·have hj:i.toNat=j:=by
   rw[seqIndex_of h0 h5]at h1
   exact Option.some.inj h1
  exact item_listR pl.isList h0 (by omega) (by rw[hj];simpa using ew) fin hs
 ·have hj:(i+(its.toArray.size:Int)).toNat=j:=by
   rw[seqIndex_neg (by omega) h4]at h1
   rw[List.size_toArray,<- hl]
   exact Option.some.inj h1
  exact subscriptTail_builtinR (x:=w) pl.isList.typeIs slot_list_getitem.lookup
   (wpAny_getItem_list_neg (Q:=fun r s'=>r=w/\EP X pins σ Q r s') pl.isList (by omega) (by rw[List.size_toArray]<;>omega) (by omega) (by rw[hj];simpa using ew) ⟨rfl,fin⟩) hs
theorem B9:IxR X (yQ X.K):=by
 intro value slice pins s σ H x y v u Q I rx ry h hs
 obtain⟨p,xs,i,z,rfl,rfl,hq,he,q⟩:=h
 cases rx
 obtain⟨t,rfl⟩:=ry
 obtain⟨its,r,pl,hz⟩:=I.tuple hq
 obtain⟨j,h1,h2,h3,h4,h5⟩:=n6 he
 obtain⟨w,ew,rw'⟩:=r.get h2
 have hl:=r.length
 have hn:=jI
 have fin:EP X pins σ Q w s:=⟨z,H,I,rw',q⟩
 exact subscriptTail_builtinR (x:=w) pl.typeIs slot_tuple_getitem.lookup
  (getItem_tuple (j:=j) (Q:=fun r s'=>r=w/\EP X pins σ Q r s') pl (by omega) (by omega) (by rw[List.size_toArray,<- hl];exact h1) (by simpa using ew) ⟨rfl,fin⟩) hs
theorem B_:IxR X yR:=by
 intro value slice pins s σ H x y v u Q I rx ry h hs
 obtain⟨z,i,c,rfl,rfl,hz,he,q⟩:=h
 obtain⟨t,rfl⟩:=rx
 obtain⟨t',rfl⟩:=ry
 obtain⟨j,h1,h2,h3,h4,h5⟩:=n6 he
 have hl:z.cps.toList.length=z.length:=by simp[Str.length]
 rw[hl]at h1 h4 h5
 have hn:=jI
 exact tail_any (typeIs_str s z t) slot_str_getitem.lookup (getItem_str (c:=c) (by
  have e1:decide (i < -(2 ^ 63:Int))=false:=decide_eq_false (by omega)
  have e2:decide (i >= 2 ^ 63)=false:=decide_eq_false (by omega)
  rw[e1,e2,Bool.or_false]) (by rw[h1];simpa using h2) ⟨.str ⟨#[c]⟩,H,I.tok _,⟨_,rfl⟩,q⟩) hs
def rIx(K:PySem.W.Frag):R2:=fun x y H Q=>yS K x y H Q\/yQ K x y H Q\/yR x y H Q
theorem nE:IxR X (rIx X.K):=zE.or (B9.or B_)
theorem qA(its:List Value)(n j:Nat)(u:Value):Obj.mapSeq (·.setIfInBounds j u) { cls:=.type "list", data:=.seq its.toArray n }={ cls:=.type "list", data:=.seq (its.set j u).toArray n }:=by
 simp[Obj.mapSeq]
theorem Inv.lst{pins:List (Addr×Obj)}{σ:St}{H:Hp}{s:Shared}{p:Addr}{xs:List V}(I:Inv X pins σ H s)(h:H p=some (.lst xs)) :
  ∃(its:List Value) (n:Nat),aJ xs its/\s.heap.get? p=some { cls:=.type "list", data:=.seq its.toArray n }/\xs.length<=sizeLine:=by
 obtain⟨z,its,n,r,e⟩:=I.hok p _ h
 exact⟨its,n,r,e,z⟩
theorem Inv.lstUpd{pins:List (Addr×Obj)}{σ:St}{H:Hp}{s:Shared}{p:Addr}{xs ys:List V}{its its':List Value}{n n':Nat}{f:Obj->Obj}(I:Inv X pins σ H s)(h:H p=some (.lst xs))
  (ho:s.heap.get? p=some { cls:=.type "list", data:=.seq its.toArray n }) (hf:f { cls:=.type "list", data:=.seq its.toArray n }={ cls:=.type "list", data:=.seq its'.toArray n' }) (r:aJ ys its') (hz:ys.length<=sizeLine) (t:Nat) :
  Inv X pins σ (upd H p (.lst ys)) { s with heap:=s.heap.update p f,toks:=t }:=by
 have e:(s.heap.update p f).get? p=some { cls:=.type "list", data:=.seq its'.toArray n' }:=by
  rw[Heap.get?_update_self f ho (by rw[hf]<;>rfl),hf]
 refine I.write (x:=p) (e:=p) (by rw[h];trivial) (.inl rfl) (fun b u hb q=>(Heap.get?_update_other _ _ (Ne.symm hb)).trans q) ⟨_,e⟩ ?_
 exact⟨hz,its',n',r,e⟩
def Eb:V->V->V->Hp->(Hp->Prop)->Prop:=fun o i v H Q=>∃p xs k j,o=.ref p/\i=.int k/\H p=some (.lst xs)/\ixN xs.length k=some j/\Q (upd H p (.lst (xs.set j v)))
theorem uO:Fz X Eb:=by
 intro pins s σ H o i v ov iv u Q I ro ri rv h
 obtain⟨p,xs,k,j,rfl,rfl,hp,hj,q⟩:=h
 cases ro
 obtain⟨t,rfl⟩:=ri
 obtain⟨its,n,r,ho,hz⟩:=I.lst hp
 obtain⟨h1,h2,h3,h4⟩:=r9 hj
 have hl:=r.length
 have hn:=jI
 have I':Inv X pins σ (upd H p (.lst (xs.set j v))) { s with heap:=s.heap.update p (Obj.mapSeq (·.setIfInBounds j u)) } :=
  I.lstUpd hp ho (qA its n j u) (r.set rv j) (by rw[List.length_set];exact hz) s.toks
 by_cases h0:0<=k
 ·have hk:k.toNat=j:=by
   rw[seqIndex_of h0 h4]at h1
   exact Option.some.inj h1
  exact PySem.W.ki_setAt ho h0 (by omega) (by rw[List.size_toArray,<- hl];exact h4) (by rw[hk];exact⟨_,I',q⟩)
 ·have hk:(k+(its.toArray.size:Int)).toNat=j:=by
   rw[seqIndex_neg (by omega) h3]at h1
   rw[List.size_toArray,<- hl]
   exact Option.some.inj h1
  exact PySem.W.ki_setBack ho (by omega) (by rw[List.size_toArray,<- hl];exact h3) (by omega) (by rw[hk];exact⟨_,I',q⟩)
theorem mU(lo hi:Option Int)(n:Nat):(sliceBounds lo hi none n).1=((HT.sIx n 0 lo:Nat):Int)/\(sliceBounds lo hi none n).2.1=((HT.sIx n n hi:Nat):Int)/\(sliceBounds lo hi none n).2.2=1:=by
 refine⟨?_,?_,rfl⟩
 ·cases lo with
  | none=>simp[sliceBounds,HT.sIx]
  | some i =>
   simp only[sliceBounds,HT.sIx,Option.getD_none,show(1:Int) > 0 by decide,if_true]
   by_cases h:i < 0
   ·simp only[h,if_true]<;>omega
   ·simp only[h,if_false]<;>omega
 ·cases hi with
  | none=>simp[sliceBounds,HT.sIx]
  | some i =>
   simp only[sliceBounds,HT.sIx,Option.getD_none,show(1:Int) > 0 by decide,if_true]
   by_cases h:i < 0
   ·simp only[h,if_true]<;>omega
   ·simp only[h,if_false]<;>omega
theorem lq(its:List Value)(lo hi:Option Int):slicePick its.toArray lo hi none=((its.drop (HT.sIx its.length 0 lo)).take (HT.sIx its.length its.length hi - HT.sIx its.length 0 lo)).toArray:=by
 obtain⟨h1,h2,h3⟩:=mU lo hi its.toArray.size
 unfold slicePick
 rw[h1,h2,h3]
 simp only[sliceRange_one,pick_run,List.size_toArray]<;>rfl
def GD(K:PySem.W.Frag):V->Option Int->Option Int->Hp->VK->Prop:=fun x lo hi H Q=>∃a xs,x=.ref a/\SqL K H a xs/\∀p,H p=none->Q (.ref p) (upd H p (.lst (w6 xs lo hi)))
theorem yr:SlR X (GD X.K):=by
 intro pins s σ H x v vl vu lo hi sl Q I rx hs pl pu h
 obtain⟨a,xs,rfl,hx,q⟩:=h
 cases rx
 obtain⟨its,r,ht,hz⟩:=I.list hx
 have hlen:=r.length
 refine⟨"list", _,slot_list_getitem.lookup,ht.isList.typeIs,?_⟩
 refine wpAny_getItem_list_slice ht.isList hs pl pu .none (by simp) ?_ (by rw[List.size_toArray]<;>omega)
 rw[lq,<- hlen]
 refine⟨.ref s.heap.objs.size,_,I.laid (t':=s.toks) (o:=.lst (w6 xs lo hi)) (fun b ob q=>Heap.get?_push_of_some _ q) (Nat.le_refl _) ?_,rfl,q _ (I.hok.fresh (Nat.le_refl _))⟩
 exact⟨Nat.le_trans (pI xs lo hi) hz,_,0,(r.drop (HT.sIx xs.length 0 lo)).take (HT.sIx xs.length xs.length hi - HT.sIx xs.length 0 lo),Heap.get?_push_size _ rfl⟩
theorem nX:d9 X (.builtin "len") (fun xs H Q=>∃p ys,xs=[.ref p]/\(SqL X.K H p ys\/SqT X.K H p ys)/\Q (.int ys.length) H):=by
 intro pins s σ H xs us Q I r h
 obtain⟨p,ys,rfl,hq,q⟩:=h
 obtain⟨u,rfl,rx⟩:=dD r
 cases rx
 have hn:=jI
 rcases hq with hq | hq
 ·obtain⟨its,r',pl,hz⟩:=I.list hq
  have hlen:=r'.length
  exact Calls.call_len_list pl.isList (by simp only[List.size_toArray]<;>omega) ⟨.int ys.length,H,I.tok _,⟨s.toks+1,by rw[List.size_toArray,hlen]⟩,q⟩
 ·obtain⟨its,r',pl,hz⟩:=I.tuple hq
  have hlen:=r'.length
  exact len_tuple pl (by simp only[List.size_toArray]<;>omega) ⟨.int ys.length,H,I.tok _,⟨s.toks+1,by rw[List.size_toArray,hlen]⟩,q⟩
theorem nW:d9 X (.type "list") (fun xs H Q=>∃p ys,xs=[.ref p]/\(SqL X.K H p ys\/SqT X.K H p ys)/\∀l,H l=none->Q (.ref l) (upd H l (.lst ys))):=by
 intro pins s σ H xs us Q I r h
 obtain⟨p,ys,rfl,hq,q⟩:=h
 obtain⟨u,rfl,rx⟩:=dD r
 cases rx
 have fin:∀(its:List Value),aJ ys its->ys.length<=sizeLine->∀(h':Heap) (c':Nat),(∀b o',s.heap.get? b=some o'->h'.get? b=some o')->
   h'.get? s.heap.objs.size=some { cls:=.type "list", dict:=none,data:=.seq its.toArray c',slots:=#[] }->EP X pins σ Q (.ref s.heap.objs.size) { s with heap:=h' }:=fun its r' hz h' c' kp e =>
  ⟨.ref s.heap.objs.size,_,I.laid (t':=s.toks) kp (Nat.le_refl _) (show dg X.prog X.w _ h' _ (.lst ys)from⟨hz,its,c',r',e⟩),rfl,q _ (I.hok.fresh (Nat.le_refl _))⟩
 rcases hq with hq | hq
 ·obtain⟨its,r',pl,hz⟩:=I.list hq
  have hlen:=r'.length
  obtain⟨o,ho,hc,n,hd⟩:=pl.isList
  exact call_list_seq p (.inl rfl) ho hc hd (fun h' c' kp e=>fin its r' hz h' c' kp e) (by simp only[List.size_toArray]<;>omega)
 ·obtain⟨its,r',pl,hz⟩:=I.tuple hq
  have hlen:=r'.length
  obtain⟨o,ho,hc,n,hd⟩:=pl
  exact call_list_seq p (.inr rfl) ho hc hd (fun h' c' kp e=>fin its r' hz h' c' kp e) (by simp only[List.size_toArray]<;>omega)
theorem lA:d9 X (.type "tuple") (fun xs H Q=>∃p ys,xs=[.ref p]/\((SqL X.K H p ys/\∀l,H l=none->Q (.ref l) (upd H l (.tup ys)))\/(SqT X.K H p ys/\Q (.ref p) H))):=by
 intro pins s σ H xs us Q I r h
 obtain⟨p,ys,rfl,h⟩:=h
 obtain⟨u,rfl,rx⟩:=dD r
 cases rx
 rcases h with⟨hq,q⟩ |⟨hq,q⟩
 ·obtain⟨its,r',pl,hz⟩:=I.list hq
  have hlen:=r'.length
  refine call_tuple_list pl.isList (fun h' kp=>?_) (by simp only[List.size_toArray]<;>omega)
  have I1:Inv X pins σ H { s with heap:=h' }:=I.kept (t':=s.toks) kp
  have I2:Inv X pins σ (upd H h'.objs.size (.tup ys)) { s with heap:=h'.push { cls:=.type "tuple", data:=.seq its.toArray } } :=
   I1.laid (t':=s.toks) (fun b o e=>Heap.get?_push_of_some _ e) (Nat.le_refl _) (show dg X.prog X.w _ _ _ (.tup ys)from⟨hz,its,r',IsTup.new _ _⟩)
  exact⟨.ref h'.objs.size,_,I2,rfl,q _ (I1.hok.fresh (Nat.le_refl _))⟩
 ·obtain⟨its,r',pl,hz⟩:=I.tuple hq
  exact call_tuple_same pl ⟨.ref p,H,I,rfl,q⟩
def tyV(K:PySem.W.Frag)(T:String)(x:V)(H:Hp):Prop:=match x with
 | .str _=>T = "str"
 | .int _=>T = "int"
 | .ref p=>(T = "list" /\ ∃xs,SqL K H p xs)\/(T = "tuple" /\ ∃o,K.lookup p=some o/\o.cls=.type "tuple" /\ o.dict=none)\/
   (T = "dict" /\((∃kvs,H p=some (.dK kvs))\/ ∃kvs,H p=some (.dT kvs)))\/(T = "set" /\ ∃S n,H p=some (.set S n))
 | _=>False
theorem uB{pins:List (Addr×Obj)}{σ:St}{H:Hp}{s:Shared}{T:String}{x:V}{v:Value}(I:Inv X pins σ H s)(r:bq x v)(ty:tyV X.K T x H) :
  s.TypeIs v T/\∀a,v=.ref a->∃ob,s.heap.get? a=some ob/\ob.dict=none:=by
 cases x with
 | str z =>
  obtain⟨t,rfl⟩:=r
  cases(show T = "str" from ty)
  exact⟨typeIs_str s z t,fun _ e=>nomatch e⟩
 | int i =>
  obtain⟨t,rfl⟩:=r
  cases(show T = "int" from ty)
  exact⟨typeIs_int s i t,fun _ e=>nomatch e⟩
 | ref p =>
  cases r
  rcases ty with⟨rfl,xs,hq⟩ |⟨rfl,o,hk,hc,hd⟩ |⟨rfl,hk⟩ |⟨rfl,S,n,hk⟩
  ·obtain⟨its,_,pl,_⟩:=I.list hq
   refine⟨pl.isList.typeIs,fun a e=>?_⟩
   cases e
   obtain⟨o,n,e,c,hd,_⟩:=pl
   exact⟨o,e,hd⟩
  ·refine⟨⟨o,I.kIn p o hk,hc⟩,fun a e=>?_⟩
   cases e
   exact⟨o,I.kIn _ o hk,hd⟩
  ·have z:∃o,s.heap.get? p=some o/\o.ExactDict:=by
    rcases hk with⟨kvs,hk⟩ |⟨kvs,hk⟩
    ·obtain⟨_,_,_,_,o,_,_,e,ex,_⟩:=I.hok p _ hk
     exact⟨o,e,ex⟩
    ·obtain⟨_,_,_,_,o,_,_,e,ex,_⟩:=I.hok p _ hk
     exact⟨o,e,ex⟩
   obtain⟨o,e,ex⟩:=z
   refine⟨⟨o,e,ex.1⟩,fun a e2=>?_⟩
   cases e2
   exact⟨o,e,ex.2.1⟩
  ·obtain⟨o,_,_,_,e,ex,_⟩:=I.hok p _ hk
   refine⟨⟨o,e,ex.1⟩,fun a e2=>?_⟩
   cases e2
   exact⟨o,e,ex.2.1⟩
 | _=>exact False.elim ty
def Gy(K:PySem.W.Frag)(T:String)(r:V->List V->Hp->VK->Prop)(to:TE):TE:=fun σ H Q=>to σ H fun x H1=>tyV K T x H1/\r x [] H1 Q
def tBM(K:PySem.W.Frag)(T:String)(r:V->List V->Hp->VK->Prop)(to:TE)(t:TA):TE:=fun σ H Q=>to σ H fun x H1=>tyV K T x H1/\t σ H1 fun xs H2=>r x xs H2 Q
variable{o e:Expr}{es:List Expr}{to:TE}{t:TA}{name:Str}{apos cpos:Pos}{T id:String}{r:V->List V->Hp->VK->Prop}
theorem Bl(pa:PlainAttrs T)(slot:Slot T name id)(hty:typeOf (.builtin id)=pure (.type "method_descriptor"))(hm:MtR X id r)(ho:PE X o to)
  (hbase:attributeBase o name X.env (eval o X.env)=eval o X.env:=by rfl) (hline:(apos.endLine==cpos.line)=true:=by rfl):PE X (.Call (.Attribute o name apos) [] [] cpos) (Gy X.K T r to):=by
 intro pins s σ H Q I h
 refine wpAny_Call_method0_late hbase hline (thn (ho pins s σ H _ I h) fun v s1 ⟨x,H1,I1,r1,ty,q1⟩=>?_)
 obtain⟨h1,h2⟩:=uB I1 r1 ty
 exact⟨T,id,pa,slot,hty,h1,h2,Calls.callWith_builtin rfl (PySem.evalArgs_none (hm pins s1 σ H1 x [] v [] Q I1 r1 .nil q1))⟩
theorem vv(pa:PlainAttrs T)(slot:Slot T name id)(hty:typeOf (.builtin id)=pure (.type "method_descriptor"))(hm:MtR X id r)(ho:PE X o to)(ha:PA X (e::es) t)
  (hbase:attributeBase o name X.env (eval o X.env)=eval o X.env:=by rfl)
  (hfew:((backTo cpos (starEach (e::es) X.env)).all (fun x=>!x.1) && (backToKw cpos (keywordEach [] X.env)).all (fun x=>x.1.isSome)
   && decide ((e::es).length+([]:List Keyword).length+(if([]:List Keyword).isEmpty then 0 else 1) < 30))=true:=by rfl)
  (hline:(apos.endLine==cpos.line)=true:=by rfl) (hs:starEach (e::es) X.env=(false,eval e X.env)::starEach es X.env:=by rfl) (hplain:(backTo cpos (starEach es X.env)).any (·.1)=false:=by rfl) :
  PE X (.Call (.Attribute o name apos) (e::es) [] cpos) (tBM X.K T r to t):=by
 intro pins s σ H Q I h
 refine wpAny_Call_method_late hbase hfew hline rfl (thn (ho pins s σ H _ I h) fun v s1 ⟨x,H1,I1,r1,ty,q1⟩=>?_)
 obtain⟨h1,h2⟩:=uB I1 r1 ty
 refine⟨T,id,pa,slot,hty,h1,h2,?_⟩
 have hA:=ha cpos pins s1 σ H1 _ I1 q1
 rw[hs]at hA ⊢
 refine Calls.callWith_builtin (by show(false ||(backTo cpos (starEach es X.env)).any (·.1))=false;rw[hplain]<;>rfl) (Calls.evalArgs_plain ?_)
 exact thn hA fun us s2 ⟨vs,H2,I2,r2,q2⟩=>hm pins s2 σ H2 x vs v us Q I2 r1 r2 q2
end
end L2
namespace L2
open PySem PySem.Spec PyProof.Rows
def MtM(X:Cx)(id:String)(r:V->List V->Hp->VK->Prop):Prop :=
 ∀(pins:List (Addr×Obj)) (s:Shared) (σ:St) (H:Hp) (x:V) (xs:List V) (v:Value) (us:List Value) (Q:VK),Inv X pins σ H s->bq x v->aJ xs us->r x xs H Q ->
  wpAny (model X.prog X.w) X.A (call (.builtin id) (v::us)) (EP X pins σ Q) X.xe s
theorem aJ.one:∀{x:V}{us:List Value},aJ [x] us->∃u,us=[u]/\bq x u
 | _,_,.cons r .nil=>⟨_,rfl,r⟩
theorem aJ.zero:∀{us:List Value},aJ [] us->us=[]
 | _,.nil=>rfl
theorem aJ.rep{xs:List V}{us:List Value}(h:aJ xs us):∀k:Nat,aJ (List.replicate k xs).flatten (List.replicate k us).flatten
 | 0=>.nil
 | k+1=>by
  rw[List.replicate_succ,List.replicate_succ,List.flatten_cons,List.flatten_cons]
  exact aJ.append h (aJ.rep h k)
theorem l9(its:List Value):∀(k:Nat) (acc:List Value),
  List.foldl (fun x1 x2=>x1++x2) acc.toArray (List.replicate k its.toArray)=(acc ++(List.replicate k its).flatten).toArray
 | 0,acc=>by simp
 | k+1,acc=>by
  have e:acc.toArray++its.toArray=(acc++its).toArray:=by simp
  have e2:(acc++its)++(List.replicate k its).flatten=acc ++(List.replicate (k+1) its).flatten:=by
   rw[List.replicate_succ,List.flatten_cons,List.append_assoc]
  rw[<- e2,<- l9 its k (acc++its),<- e,List.replicate_succ,List.foldl_cons]
section
variable{X:Cx}{pins:List (Addr×Obj)}{σ:St}{H:Hp}{s:Shared}{l b:Addr}{xs ys zs:List V}
theorem Inv.lset{its its':List Value}{n:Nat}{f:Array Value->Array Value}{t':Nat}(I:Inv X pins σ H s)(hH:H l=some (.lst xs))
  (e:s.heap.get? l=some { cls:=.type "list", data:=.seq its.toArray n }) (hf:f its.toArray=its'.toArray) (hv:aJ ys its') (hz:ys.length<=sizeLine) :
  Inv X pins σ (upd H l (.lst ys)) { s with heap:=s.heap.update l (Obj.mapSeq f),toks:=t' }:=by
 have q:=PySem.IsL.update e f
 rw[hf]at q
 refine I.write (x:=l) (e:=l) (by rw[hH];exact trivial) (.inl rfl) (fun b' u hb hu=>(Heap.get?_update_other s.heap (Obj.mapSeq f) (Ne.symm hb)).trans hu) ⟨_,q⟩ ?_
 exact⟨hz,its',_,hv,q⟩
theorem Inv.lnew{its:List Value}{t':Nat}(I:Inv X pins σ H s)(hv:aJ ys its)(hz:ys.length<=sizeLine) :
  Inv X pins σ (upd H s.heap.objs.size (.lst ys)) { s with heap:=s.heap.push { cls:=.type "list", data:=.seq its.toArray },toks:=t' } :=
 I.laid (fun _ _ q=>Heap.get?_push_of_some _ q) (Nat.le_refl _) ⟨hz,its,0,hv,Heap.get?_push_size _ rfl⟩
theorem Inv.fresh(I:Inv X pins σ H s):H s.heap.objs.size=none:=I.hok.fresh (Nat.le_refl _)
theorem Inv.lstM(I:Inv X pins σ H s)(hH:H l=some (.lst xs)):xs.length<=sizeLine/\∃(its:List Value) (n:Nat),aJ xs its/\xs.length=its.length/\s.heap.get? l=some { cls:=.type "list", data:=.seq its.toArray n }:=by
 obtain⟨z,its,n,r,e⟩:=I.hok l _ hH
 exact⟨z,its,n,r,r.length,e⟩
theorem vN{n:Nat}(h:n<=sizeLine):Builtin.List.listTooLong n=false:=by
 unfold Builtin.List.listTooLong
 exact decide_eq_false (by omega)
def yU:V->List V->Hp->VK->Prop:=fun x vs H Q=>∃l xs y,x=.ref l/\vs=[y]/\H l=some (.lst xs)/\xs.length < sizeLine/\Q .non (upd H l (.lst (xs++[y])))
theorem jG:MtM X "list.append" yU:=by
 intro pins s σ H x vs v us Q I rx rv h
 obtain⟨l,xs,y,rfl,rfl,hH,hz,q⟩:=h
 cases rx
 obtain⟨u,rfl,ru⟩:=rv.one
 obtain⟨z,its,n,r,hl,e⟩:=I.lstM hH
 refine call_meets F.slot_list_append ⟨_,e,rfl⟩ F.entry_list_append (F.args_list_append_2 _ _) (PySem.list_append l its.toArray n u (by rw[List.size_toArray];omega)) ⟨e,?_⟩
 refine⟨.non,_,I.lset (its':=its++[u]) hH e (by simp) (r.append (.cons ru .nil)) ?_,rfl,q⟩
 rw[List.length_append,List.length_singleton]
 omega
def A5:V->List V->Hp->VK->Prop:=fun x vs H Q=>∃l xs,x=.ref l/\vs=[]/\H l=some (.lst xs)/\Q .non (upd H l (.lst []))
theorem vR:MtM X "list.clear" A5:=by
 intro pins s σ H x vs v us Q I rx rv h
 obtain⟨l,xs,rfl,rfl,hH,q⟩:=h
 cases rx
 have hus:=rv.zero
 subst hus
 obtain⟨z,its,n,r,hl,e⟩:=I.lstM hH
 refine call_meets F.slot_list_clear ⟨_,e,rfl⟩ F.entry_list_clear (F.args_list_clear_1 _) (AutoSeq1.list_clear_list_0 l its.toArray n (by rw[List.size_toArray];omega)) ⟨e,?_⟩
 exact⟨.non,_,I.lset (its':=[]) (ys:=[]) hH e rfl .nil (Nat.zero_le _),rfl,q⟩
def Ec:R2:=fun x y H Q=>∃l k xs,x=.ref l/\y=.int k/\H l=some (.lst xs)/\-(2 ^ 63)<= k/\k < 2 ^ 63/\xs.length * k.toNat<=sizeLine /\
 ∀p,H p=none->Q (.ref p) (upd H p (.lst (List.replicate k.toNat xs).flatten))
theorem zB{α:Type}(xs:List α)(k:Nat):(List.replicate k xs).flatten.length=k * xs.length:=by
 induction k with
 | zero=>simp
 | succ k ih=>rw[List.replicate_succ,List.flatten_cons,List.length_append,ih,Nat.succ_mul,Nat.add_comm]
theorem Bq:OpR X (binaryOp .Mult) Ec:=by
 intro pins s σ H x y v u Q I rx ry h
 obtain⟨l,k,xs,rfl,rfl,hH,h1,h2,hz,q⟩:=h
 cases rx
 obtain⟨t,rfl⟩:=ry
 obtain⟨z,its,n,r,hl,e⟩:=I.lstM hH
 have hlen:its.toArray.size * k.toNat<=sizeLine:=by rw[List.size_toArray,<- hl];exact hz
 have hcap:¬its.toArray.size * k.toNat >(2 ^ 63 - 1) / 8:=by
  have:(sizeLine:Nat)<=(2 ^ 63 - 1) / 8:=by decide
  omega
 have hfit:¬(!Builtin.List.listFitsIndex k)=true:=by
  rw[fitsIndex_both h1 h2]
  exact Bool.false_ne_true
 have hlong:¬Builtin.List.listTooLong (its.toArray.size * k.toNat)=true:=by
  rw[vN hlen]
  exact Bool.false_ne_true
 have hnew:List.foldl (fun x1 x2=>x1++x2) #[] (List.replicate (if its.toArray.isEmpty=true then 0 else k.toNat) its.toArray)=(List.replicate k.toNat its).flatten.toArray:=by
  have f0:∀m:Nat,List.foldl (fun x1 x2=>x1++x2) #[] (List.replicate m its.toArray)=(List.replicate m its).flatten.toArray:=fun m=>by
   have:=l9 its m []
   rw[List.nil_append]at this
   exact this
  rw[f0]
  cases its with
  | nil=>simp
  | cons a r'=>rw[if_neg (by simp)]
 refine wpAny_binaryOp_repeat_ref (T := "list") (U := "int") (by decide) ⟨_,e,rfl⟩ (fun s'=>typeIs_int s' k t) noFill_list_mul F.fills_int_mul F.slot_int_rmul repeat_list F.slot_int_index.lookup
  (call_meets F.slot_int_rmul (typeIs_int s k t) F.entry_int_rmul (F.args_int_rmul_2 _ _) (int___rmul___int_list k t l its.toArray n)
   ⟨e,rfl,⟨_,e,rfl⟩,call_meets F.slot_list_mul ⟨_,e,rfl⟩ F.entry_list_mul (F.args_list_mul_2 _ _) (AutoListH.list___mul___list_int_3 l its.toArray n k t hfit hcap hlong) ⟨e,?_⟩⟩)
 rw[hnew]
 exact⟨.ref _,_,I.lnew (t':=s.toks) (r.rep k.toNat) (by rw[zB,Nat.mul_comm];exact hz),rfl,q _ I.fresh⟩
end
end L2
namespace Att
open PySem PySem.W PySem.Calls PyProof.Rows
theorem ke{P:Params}{h:Heap}:∀(ns:List Int) (vs:List Value),WellAll P h vs (ns.map WData.int)->IntsAre vs ns:=by
 intro ns
 induction ns with
 | nil =>
  intro vs w
  rw[List.map_nil]at w
  cases w
  exact .nil
 | cons n ns ih =>
  intro vs w
  rw[List.map_cons]at w
  cases w with
  | cons a b =>
   cases a
   exact .cons _ _ (ih _ b)
theorem sQ{l:OpenLaw}{n:Nat}(hn:l.most=some n){P:Params}{h:Heap}{args:List WData}{vals:List Value}
  (hpre:l.row.toRowW.claim.pre args=true) (hwl:WellAll P h vals args) :
  ∃a vs ns,vals=[Value.ref a]/\args=[WData.list (ns.map WData.int)]/\h.get? a=some { cls:=.type "list", data:=.seq vs.toArray }/\IntsAre vs ns/\ns.length<=n:=by
 have hsh:WShape.hasAll [] args [.list .int]=true:=(pre_splitW hpre).1
 have hc:l.pre.holds [] { args:=args }=true:=(pre_splitW hpre).2
 obtain⟨d,r,rfl,h1,h2⟩:=hasAllW_cons hsh
 obtain rfl:=hasAllW_nil h2
 obtain⟨xs,rfl,h3⟩:=hasW_list h1
 obtain⟨ns,rfl⟩:=items_int h3
 have hlen:ns.length<=n:=by
  unfold OpenLaw.pre at hc
  have h4:(WTm.not (.lt (.lit (.int (n:Int))) (.len (.arg 0)))).holds [] { args:=[.list (ns.map .int)] }=true:=by
   have h4:=(holds_andW hc).1
   rw[hn]at h4
   exact h4
  have h5:=condW_of h4 (w_not (w_lt w_lit (w_len_list (w_arg rfl))))
  rw[List.length_map]at h5
  refine Nat.le_of_not_lt fun q=>?_
  have q':(n:Int) <((ns.length:Nat):Int):=by omega
  first
   |(rw[decide_eq_true q']at h5;exact absurd h5 (by decide))
   |(simp at h5;omega)
 cases hwl with
 | cons w1 w2 =>
  cases w2
  cases w1 with
  | list ho hall=>exact⟨_,_,ns,rfl,rfl,ho,ke ns _ hall,hlen⟩
theorem sZ(l:OpenLaw)(args:List WData):l.row.toRowW.claim.post args (.bool true) args=true :=
 postW_of (r:=l.row.toRowW) (X:=(true==true))
  (show WShape.has [] (.bool true) .bool=true by first | rfl | decide | simp[WShape.has,WShape.arms,WShape.armsAll])
  (show(WTm.eq .res (.lit (.bool true))).value [] { args:=args,res:=some (.bool true),after:=args }=some (.bool (true==true))from w_eq_bool (w_res rfl) w_lit) rfl
theorem attach_call{l:OpenLaw}{n:Nat}{q:Program}{loose:List Str}{XP:(Str->Option Value)->Heap->Prop}{YP:World->Heap->Prop}{d:DefRec}
  (hn:l.most=some n) (hdf:d.params.defaults=[])
  (call:∀ (w:World) (s₀ s₁:Shared) (mg mb:Str->Option Value) (fa:Addr) (o:Obj) (pm cd doc:Value) (a:Addr) (vs:List Value) (ns:List Int),
   Ground q loose [] XP w s₀ mg mb s₁.heap->YP w s₁.heap ->
   s₁.heap.get? fa=some o->o.data=.func (docDef d.name d.params d.body d.scope pm cd doc)->s₁.heap.CodeRec cd d.name->mg d.name=some (.ref fa)->
   s₁.heap.get? a=some { cls:=.type "list", data:=.seq vs.toArray }->IntsAre vs ns->ns.length<=n->s₁.gens=#[]->
   codeAny (model l.prog w) callerA (.call (.ref fa) ⟨[.ref a],[]⟩) (fun r s'=>r=.ok (.ret (.bool true))/\OldK s₁.heap s'.heap/\s'.os=s₁.os/\AllBare s'.gens) s₁) :
  WalkO q loose XP YP l.row.toRowW d [] (fun f vs=>PySem.call f vs):=by
 intro w s₀ s₁ mg mb G Y fa o pm cd doc dV kV ho hd hcd hD hmg hg args vals as hpre hlay hrd hwl hlo
 obtain rfl:dV=.none:=Dflts.none hD hdf
 obtain rfl:kV=.none:=Dflts.noKw hD
 obtain⟨a,vs,ns,rfl,rfl,hobj,hints,hlen⟩:=sQ hn hpre hwl
 refine enter_call (codeAny_mono (call w s₀ s₁ mg mb fa o pm cd doc a vs ns G Y ho (fd_plain hd) hcd hmg hobj hints hlen hg) fun r s' hq=>?_)
 obtain⟨rfl,h2,h3,h4⟩:=hq
 exact⟨.inl ⟨.bool true,.bool true,[],rfl,fun _=>rfl,.bool true,sZ l _,fun _=>⟨List.Pairwise.nil,fun _ hm=>(nomatch hm)⟩⟩,h2,h3,h4⟩
end Att
namespace L2
open PySem PySem.Spec PyProof.Rows
theorem lF:∀{vs:List Value}{ns:List Int},IntsAre vs ns->aJ (ns.map V.int) vs
 | _,_,.nil=>.nil
 | _,_,.cons n t h=>.cons ⟨t,rfl⟩ (lF h)
def Dj(H:Hp):Prop:=∀b,H b=none\/∃o xs,H b=some (.frz o (.lst xs))
theorem wb{P:Program}{w:World}{K:PySem.W.Frag}{mg mb:Str->Option Value}{CX:CXT}{k:Nat}{fa a:Addr}{fd:FuncData}{x:Str}{sp:Sp}{s₁:Shared}{vs:List Value}{ns:List Int}
  (KX:K.In s₁.heap) (hns:s₁.heap.Ns mainGlobals mg) (hb:s₁.heap.Ns builtinsNs mb) (hbb:∀x:Str,x≠"__name__" -> mb x=bootBuiltins x) (hlim:s₁.heap.NoLimit) (hg:s₁.gens=#[])
  (ha:s₁.heap.get? a=some { cls:=.type "list", data:=.seq vs.toArray }) (hi:IntsAre vs ns) (hl:ns.length<=sizeLine) (hr:dC k callerA)
  (F:∀base:Heap,K.In base->base.Ns mainGlobals mg->cN P w K mg base CX k fa fd [x] sp) (hbind:∀(s:Shared) (u:Value),BindsTo s fd ⟨[u],[]⟩ [(x,u)])
  (hsp:∀H:Hp,Dj H->SqL K H a (ns.map V.int)->sp [.ref a] H (fun v _=>v=.bl true) fun _ _ _=>False)
  (hCX:∀H e s',CX [] H s₁ (fun _ _ _=>False) e s'->False) :
  codeAny (model P w) callerA (.call (.ref fa) ⟨[.ref a],[]⟩) (fun r s'=>r=.ok (.ret (.bool true))/\OldK s₁.heap s'.heap/\s'.os=s₁.os/\AllBare s'.gens) s₁:=by
 have rv:=lF hi
 have lenV:=hi.length
 have core:∀H:Hp,Dj H->SqL K H a (ns.map V.int)->HOk P w H s₁.heap->(∀b,H b≠none->b=a)->(H a≠none->K.lookup a=none)->
   codeAny (model P w) callerA (.call (.ref fa) ⟨[.ref a],[]⟩) (fun r s'=>r=.ok (.ret (.bool true))/\OldK s₁.heap s'.heap/\s'.os=s₁.os/\AllBare s'.gens) s₁:=by
  intro H hO hS hok hA hK
  have base_of:∀{b:Addr}{o:Obj},s₁.heap.get? b=some o->H b=none->(nM s₁.heap H).get? b=some o:=fun e n=>wm e n
  have noA:∀{b:Addr}{o:Obj}{es:Array DictEntry}{ep:Nat},s₁.heap.get? b=some o->o.data=.dict es ep->H b=none:=fun {b o es ep} e d=>by
   cases q:H b with
   | none=>rfl
   | some u =>
    have e':b=a:=hA b (by rw[q];simp)
    subst e'
    rw[ha]at e;cases e
    have d':Data.seq vs.toArray _=Data.dict es ep:=d
    cases d'
  have nsK:∀{b:Addr}{m:Str->Option Value},s₁.heap.Ns b m->(nM s₁.heap H).Ns b m:=fun {b m} ⟨o,es,ep,e,d,r⟩=>⟨o,es,ep,base_of e (noA e d),d,r⟩
  have hKb:K.In (nM s₁.heap H):=fun b o e=>base_of (KX b o e) (by
   cases q:H b with
   | none=>rfl
   | some u =>
    have e':b=a:=hA b (by rw[q];simp)
    subst e'
    rw[hK (by rw[q];simp)]at e;cases e)
  have hM:Mod K mg (nM s₁.heap H):=⟨hKb,nsK hns,⟨mb,nsK hb,hbb⟩,let⟨mc,h1,h2⟩:=hlim;⟨mc,nsK h1,h2⟩⟩
  have e0:q8 P w K mg (nM s₁.heap H) callerA [] s₁ H:=⟨rfl,hM,fun b o e=>zj e,Nat.le_of_eq (ua _ _),trivial,fun b hb=>absurd (show b ∈([]:List Addr)from hb) (by simp),hok,.of_eq hg⟩
  refine codeAny_mono ((F _ hKb (nsK hns)).run callerA [] s₁ H ⟨[.ref a],[]⟩ [.ref a] [.ref a] _ _ hr e0 (hbind s₁ (.ref a)) (.cons rfl .nil) (hsp H hO hS)) fun r s' h=>?_
  cases r with
  | error e=>exact(hCX H e s' h).elim
  | ok fl =>
   cases fl with
   | next | brk | cont=>exact False.elim h
   | ret u =>
    obtain⟨v,H',os,bare,un,hok',r',q⟩:=h
    have q':v=.bl true:=q
    subst q'
    obtain rfl:u=Value.bool true:=r'
    refine⟨rfl,OldK.of_keep fun b o e=>?_,os,bare⟩
    cases q:H b with
    | none=>exact un.keep b o e q (by intro z;exact absurd (show b ∈([]:List Addr)from z) (by simp)) (by simp)
    | some u =>
     rcases hO b with z |⟨ob,xs,z⟩
     ·rw[q]at z;cases z
     ·have z2:=un.frzs b ob _ z
      obtain⟨e1,_⟩:=hok b _ z
      obtain⟨e2,_⟩:=hok' b _ z2
      rw[e]at e1;cases e1
      exact e2
 cases hk:K.lookup a with
 | some o =>
  have e:=KX a o hk
  rw[ha]at e
  cases e
  refine core (fun _=>none) (fun _=>.inl rfl) (.inr ⟨_,vs.toArray,_,hk,rfl,rfl,rfl,by rw[List.size_toArray,lenV];exact hl,by simpa using rv⟩) (fun b u z=>by have z':(none:Option HO)=some u:=z;cases z') (fun b z=>absurd rfl z) fun z=>absurd rfl z
 | none =>
  refine core (fun b=>if b=a then some (.frz { cls:=.type "list", data:=.seq vs.toArray } (.lst (ns.map V.int)))else none) (fun b=>?_) (.inl (.inr ⟨{ cls:=.type "list", data:=.seq vs.toArray },if_pos rfl⟩)) (fun b u z=>?_) (fun b z=>?_) fun _=>hk
  ·by_cases hb:b=a
   ·exact .inr ⟨_,_,if_pos hb⟩
   ·exact .inl (if_neg hb)
  ·by_cases hb:b=a
   ·have z':=(if_pos hb).symm.trans z
    cases z'
    subst hb
    exact⟨ha,by rw[List.length_map];exact hl,vs,_,rv,ha⟩
   ·have z':=(if_neg hb).symm.trans z
    cases z'
  ·by_cases hb:b=a
   ·exact hb
   ·exact absurd (if_neg hb) z
end L2
namespace L2
open PySem PySem.Spec PyProof.Rows
theorem yf{l:PySem.W.OpenLaw}{n k:Nat}{q:Program}{loose:List Str}{XP:(Str->Option Value)->Heap->Prop}{YP:World->Heap->Prop}{d:DefRec}{K:Params->PySem.W.Frag}{CX:World->CXT}{sp:World->Sp}{x:Str}
  (hn:l.most=some n) (hn2:n<=sizeLine) (hdf:d.params.defaults=[]) (hr:dC k callerA)
  (hY:∀(w:World) (h:Heap),YP w h->(K w.params).In h)
  (F:∀ (w:World) (mg:Str->Option Value) (fa:Addr) (h:Heap),(K w.params).In h->h.Ns mainGlobals mg->mg d.name=some (.ref fa) ->
   ∃fd:FuncData,(∀(s:Shared) (u:Value),BindsTo s fd ⟨[u],[]⟩ [(x,u)])/\
    ∀base:Heap,(K w.params).In base->base.Ns mainGlobals mg->cN l.prog w (K w.params) mg base (CX w) k fa fd [x] (sp w))
  (hsp:∀(w:World) (H:Hp) (a:Addr) (ns:List Int),ns.length<=n->Dj H->SqL (K w.params) H a (ns.map V.int)->sp w [.ref a] H (fun v _=>v=.bl true) fun _ _ _=>False)
  (hCX:∀(w:World) (H:Hp) (s:Shared) (e:Value) (s':Shared),CX w [] H s (fun _ _ _=>False) e s'->False) :
  PySem.W.WalkO q loose XP YP l.row.toRowW d [] (fun f vs=>PySem.call f vs):=by
 refine Att.attach_call hn hdf fun w s₀ s₁ mg mb fa o pm cd doc a vs ns G Y ho hd hcd hmg hobj hints hlen hg=>?_
 have KX:=hY w _ Y
 obtain⟨fd,hb,hF⟩:=F w mg fa _ KX G.T.g hmg
 exact wb KX G.T.g G.T.b G.T.builtins G.T.nolimit hg hobj hints (Nat.le_trans hlen hn2) hr hF hb (fun H hO hS=>hsp w H a ns hlen hO hS) fun H e s'=>hCX w H s₁ e s'
end L2
namespace L2
open PySem PySem.Spec PyProof.Rows
def zH(s:Stmt)(j:Nat):Stmt:=match s with
 | .ClassDef _ _ _ body _ _ _ _ _ _ _=>body.getD j (.Pass ⟨0,0,0,0⟩)
 | _=>.Pass ⟨0,0,0,0⟩
def cQ(s:Stmt):Arguments:=match s with
 | .FunctionDef _ a _ _ _ _ _ _ _ _=>a
 | _=>{ posonlyargs:=[],args:=[],vararg:=none,kwonlyargs:=[],kw_defaults:=[],kwarg:=none,defaults:=[] }
def bG(s:Stmt):List Stmt:=match s with
 | .FunctionDef _ _ b _ _ _ _ _ _ _=>b
 | _=>[]
def ax(s:Stmt):Scope:=match s with
 | .FunctionDef _ _ _ _ _ _ sc _ _ _=>sc
 | _=>{ kind:=.function,names:=[],isGenerator:=false,isCoroutine:=false }
abbrev CX0:CXT:=fun _ _ _ _ _ _=>False
structure Fun(K:PySem.W.Frag)(x qual:Str)(st:Stmt)(f:Addr)(fd:FuncData):Prop where
 ex:∃(oc:Value) (od:Option Addr) (kV doc pm:Value) (an:Option Addr) (cdv ct:Value) (osl:Array (Option Value)),
  fd=PySem.W.fnOf x qual (cQ st) (bG st) (ax st) .none kV doc pm an cdv ct/\K.lookup f=some ⟨oc,od,.func fd,osl⟩/\PySem.W.codeIn K cdv qual=true
 kp:PySem.W.keepIn K (.ref f)=true
section
variable{P:Program}{w:World}{K:PySem.W.Frag}{mg:Str->Option Value}{base:Heap}
theorem Fun.ok{x qual:Str}{st:Stmt}{f:Addr}{fd:FuncData}{N ps:List Str}{k:Nat}{sp:Sp}(F:Fun K x qual st f fd)(S:cR N ps (ax st))(len:∀vs H Q E,sp vs H Q E->vs.length=ps.length)
  (hbody:∀ (cdv:Value) (A:Around) (outer:List Env) (s:Shared) (H:Hp) (vs:List V) (Q:VK) (E:XK),dC k (A.deeper (envOfC qual (ax st) s.heap.objs.size f cdv))->sp vs H Q E ->
   ∃t,PSs (d8 CX0 P w K mg base N qual (ax st) f cdv A outer s H E).nox (bG st) t/\t { nx:=fun _ H'=>Q .non H',rt:=Q } (start N vs) H):cN P w K mg base CX0 (k+1) f fd ps sp:=by
 obtain⟨oc,od,kV,doc,pm,an,cdv,ct,osl,rfl,lk,hcd⟩:=F.ex
 refine sg lk hcd S len fun A outer s H vs Q E hr hsp=>?_
 obtain⟨t,h,q⟩:=hbody cdv A outer s H vs Q E hr hsp
 exact⟨t,h.nox,q⟩
theorem Fun.binds{x qual:Str}{st:Stmt}{f:Addr}{fd:FuncData}{ps:List Str}(F:Fun K x qual st f fd)
  (h:∀(kV doc pm:Value) (an:Option Addr) (cdv ct:Value) (us:List Value),us.length=ps.length->bindArgs (PySem.W.fnOf x qual (cQ st) (bG st) (ax st) .none kV doc pm an cdv ct) ⟨us,[]⟩=pure (ps.zip us)):d_ K fd ps []:=by
 obtain⟨oc,od,kV,doc,pm,an,cdv,ct,osl,rfl,lk,hcd⟩:=F.ex
 exact .all (h kV doc pm an cdv ct)
variable{X:Cx}
theorem pv(i:Nat){x:Str}{pos:Pos}(hN:X.N[i]?=some x:=by rfl)(hv:Vis X.env.scope x:=by first | exact Or.inl rfl | exact Or.inr (Or.inl rfl) | exact Or.inr (Or.inr rfl))(hd:(x ==("__debug__" : Str))=false:=by decide)
  (hcd:(x ==("__classdict__" : Str))=false:=by decide):PE X (.Name x pos) (yh i):=dH hN hv hd hcd
end
def pS(H H':Hp):Prop:=∀b o,H b=some o->H' b=some o
theorem pS.trans{H H1 H2:Hp}(a:pS H H1)(b:pS H1 H2):pS H H2:=fun c o h=>b c o (a c o h)
theorem pS.free{H H':Hp}(e:pS H H'){l:Addr}(h:H' l=Option.none):H l=Option.none:=by
 cases q:H l with
 | none=>rfl
 | some o =>
  rw[e l o q]at h
  cases h
theorem pS.seq{K:PySem.W.Frag}{H H':Hp}{a:Addr}{xs:List V}(e:pS H H')(h:SqL K H a xs):SqL K H' a xs:=by
 rcases h with(h |⟨o,h⟩) | h
 ·exact .inl (.inl (e _ _ h))
 ·exact .inl (.inr ⟨o,e _ _ h⟩)
 ·exact .inr h
end L2
set_option maxHeartbeats 4000000
namespace PR
open PySem
inductive Fl where
 | own | frz | bor | lnt | mod
 deriving DecidableEq
inductive PV where
 | non
 | bl (b:Bool)
 | int (i:Int)
 | str (x:Str)
 | lst (f:Fl) (xs:List PV)
 | tup (xs:List PV)
 | obj (f:Fl) (c:Nat) (ks:List Nat) (vs:List PV)
 | exc (c:Nat)
mutual
def PV.mapF(g:Fl->Fl):PV->PV
 | .non=>.non
 | .bl b=>.bl b
 | .int i=>.int i
 | .str x=>.str x
 | .lst f xs=>.lst (g f) (mapL g xs)
 | .tup xs=>.tup (mapL g xs)
 | .obj f c ks vs=>.obj (g f) c ks (mapL g vs)
 | .exc c=>.exc c
def mapL(g:Fl->Fl):List PV->List PV
 | []=>[]
 | x::xs=>x.mapF g::mapL g xs
end
mutual
def PV.has(p:Fl->Bool):PV->Bool
 | .non | .bl _ | .int _ | .str _=>false
 | .lst f xs=>p f||hasL p xs
 | .tup xs=>hasL p xs
 | .obj f _ _ vs=>p f||hasL p vs
 | .exc _=>false
def hasL(p:Fl->Bool):List PV->Bool
 | []=>false
 | x::xs=>x.has p||hasL p xs
end
def Fl.isLnt:Fl->Bool
 | .lnt=>true
 | _=>false
def Fl.isBor:Fl->Bool
 | .bor=>true
 | _=>false
def Fl.lend:Fl->Fl
 | .own=>.lnt
 | f=>f
def Fl.freeze:Fl->Fl
 | .own=>.frz
 | f=>f
def Fl.toBor:Fl->Fl
 | .lnt=>.bor
 | f=>f
inductive Res(α:Type) where
 | ok (a:α)
 | exc (c:Nat)
 | stuck
def Res.bind{α β:Type}:Res α->(α->Res β)->Res β
 | .ok a,k=>k a
 | .exc c,_=>.exc c
 | .stuck,_=>.stuck
@[simp] theorem Res.ok_bind{α β:Type}(a:α)(k:α->Res β):(Res.ok a).bind k=k a:=by simp only[Res.bind]
@[simp] theorem Res.exc_bind{α β:Type}(c:Nat)(k:α->Res β):(Res.exc c:Res α).bind k=.exc c:=rfl
@[simp] theorem Res.stuck_bind{α β:Type}(k:α->Res β):(Res.stuck:Res α).bind k=.stuck:=rfl
abbrev En:=List (Option PV)
abbrev ME:=En->Res PV
abbrev MT:=En->Res Bool
abbrev MA:=En->Res (List PV)
inductive Out where
 | next (e:En)
 | ret (v:PV)
 | brk (e:En)
 | cont (e:En)
 | exc (c:Nat) (e:En)
 | stuck
abbrev MS:=En->Out
def mC(v:PV):ME:=fun _=>.ok v
def ac(i:Nat):ME:=fun env=>match env[i]? with
 | some (some v)=>.ok (v.mapF Fl.lend)
 | _=>.stuck
def am:MA:=fun _=>.ok []
def ae(a:ME)(r:MA):MA:=fun env=>(a env).bind fun x=>(r env).bind fun xs=>.ok (x::xs)
def mUn(f:PV->Res PV)(a:ME):ME:=fun env=>(a env).bind f
def mOp(f:PV->PV->Res PV)(a b:ME):ME:=fun env=>(a env).bind fun x=>(b env).bind fun y=>f x y
def kL(g:Int->Int->PV):PV->PV->Res PV
 | .int i,.int j=>.ok (g i j)
 | _,_=>.stuck
def et(C:Int->Int->Bool)(g:Int->Int->PV):PV->PV->Res PV
 | .int i,.int j=>if C i j then .ok (g i j)else .stuck
 | _,_=>.stuck
def m9:PV->Res Bool
 | .non=>.ok false
 | .bl b=>.ok b
 | .int i=>.ok (i != 0)
 | .lst _ xs | .tup xs=>.ok (!xs.isEmpty)
 | _=>.stuck
def av(a:ME):MT:=fun env=>(a env).bind fun
 | .bl b=>.ok b
 | _=>.stuck
def dL(a:ME):MT:=fun env=>(a env).bind m9
def kQ(a:MT):MT:=fun env=>(a env).bind fun b=>.ok (!b)
def gp(a b:MT):MT:=fun env=>(a env).bind fun x=>if x then b env else .ok false
def jh(a b:MT):MT:=fun env=>(a env).bind fun x=>if x then .ok true else b env
def v7(c:MT)(a b:ME):ME:=fun env=>(c env).bind fun x=>if x then a env else b env
def aY:MS:=.next
def ar(a b:MS):MS:=fun env=>match a env with
 | .next e=>b e
 | o=>o
def mBr(c:MT)(a b:MS):MS:=fun env=>match c env with
 | .ok true=>a env
 | .ok false=>b env
 | .exc k=>.exc k env
 | .stuck=>.stuck
def PV.noLnt(v:PV):Bool:=!v.has Fl.isLnt
def cF(env:List (Option PV)):Bool:=match env[0]? with
 | some (some (PV.obj _ _ _ _))=>true
 | _=>false
def aL(i:Nat)(env:En):Bool:=if i=0 then !cF env else true
def aX(i:Nat)(e:ME):MS:=fun env=>match e env with
 | .ok v=>if v.noLnt&&aL i env then .next (env.set i (some v))else .stuck
 | .exc k=>.exc k env
 | .stuck=>.stuck
def br(e:ME):MS:=fun env=>match e env with
 | .ok v=>if v.noLnt then .ret v else .stuck
 | .exc k=>.exc k env
 | .stuck=>.stuck
def dY(i:Nat):MS:=fun env=>match env[i]? with
 | some (some v)=>.ret v
 | _=>.stuck
def gS(e:ME):MS:=fun env=>match e env with
 | .ok _=>.next env
 | .exc k=>.exc k env
 | .stuck=>.stuck
def gA(i:Nat):MS:=fun env=>match env[i]? with
 | some (some v)=>.next (env.set i (some (v.mapF Fl.freeze)))
 | _=>.stuck
def lx(body:PV->MS):List PV->En->Out
 | [],env=>.next env
 | x::xs,env=>match body x env with
  | .next e | .cont e=>lx body xs e
  | .brk e=>.next e
  | o=>o
end PR
namespace PR
open PySem PySem.Spec L2
structure Tb where
 K:PySem.W.Frag
 nc:Nat
 cls:Nat->Addr
 att:Nat->Str
 inj:∀i j,att i=att j->i=j
 xcl:Nat->Addr
def Hi(C a:Addr):HO:=.ext fun h=>∃o,h.get? a=some o/\o.cls=.ref C
def KL(K:PySem.W.Frag)(a:Addr)(xs:List V):Prop:=∃(o:Obj) (its:Array Value) (n:Nat),K.lookup a=some o/\o.cls=.type "list" /\ o.dict=none/\o.data=.seq its n/\its.size<=sizeLine/\aJ xs its.toList
def Ah:Fl->Addr->List Addr->List Addr->Prop
 | .own,a,fp',fp=>fp=a::fp'
 | _,_,fp',fp=>fp'=[]/\fp=[]
def Hg(F B L:Addr->Prop):Fl->Addr->Prop
 | .own,_=>True
 | .frz,a=>F a
 | .bor,a=>B a
 | .lnt,a=>L a
 | .mod,_=>False
def pT(T:Tb)(F B L:Addr->Prop)(H:Hp):Fl->Addr->List V->Prop
 | .own,a,vs=>H a=some (.lst vs)
 | .lnt,a,vs=>L a/\H a=some (.lst vs)
 | .frz,a,vs=>F a/\Rd H a (.lst vs)
 | .bor,a,vs=>B a/\Rd H a (.lst vs)
 | .mod,a,vs=>KL T.K a vs
theorem pT.sq(h:pT T F B L H f a vs):SqL T.K H a vs:=by
 cases f with
 | own=>exact SqL.of h
 | lnt=>exact SqL.of h.2
 | frz | bor=>exact .inl h.2
 | mod=>exact .inr h
mutual
def Rel(T:Tb)(F B L:Addr->Prop)(H:Hp):PV->V->List Addr->Prop
 | .non,v,fp=>v=.non/\fp=[]
 | .bl b,v,fp=>v=.bl b/\fp=[]
 | .int i,v,fp=>v=.int i/\fp=[]
 | .str x,v,fp=>v=.str x/\fp=[]
 | .lst f xs,v,fp=>∃a vs fp',v=.ref a/\pT T F B L H f a vs/\RelL T F B L H xs vs fp'/\Ah f a fp' fp
 | .tup xs,v,fp=>∃a vs,v=.ref a/\SqT T.K H a vs/\RelL T F B L H xs vs fp
 | .obj f c ks xs,v,fp=>∃a dx vs fp',v=.ref a/\H a=some (.ins (T.cls c) dx ((ks.map T.att).zip vs))/\(ks.length=xs.length/\c < T.nc)/\RelL T F B L H xs vs fp'/\Ah f a fp' fp/\Hg F B L f a
 | .exc c,v,fp=>∃a,v=.ref a/\H a=some (Hi (T.xcl c) a)/\fp=[]
def RelL(T:Tb)(F B L:Addr->Prop)(H:Hp):List PV->List V->List Addr->Prop
 | [],vs,fp=>vs=[]/\fp=[]
 | x::xs,vs,fp=>∃v ws f1 f2,vs=v::ws/\Rel T F B L H x v f1/\RelL T F B L H xs ws f2/\fp=f1++f2
end
def jt:HO->Prop
 | .tup _ | .frz _ (.tup _) | .ext _=>True
 | _=>False
section
variable{T:Tb}{F F' B B' L L':Addr->Prop}{H H':Hp}
theorem Rd.tr(h:∀o,H a=some o->H' a=some o)(q:Rd H a u):Rd H' a u:=by
 rcases q with q |⟨o,q⟩
 ·exact .inl (h _ q)
 ·exact .inr ⟨o,h _ q⟩
theorem SqT.tr(h:∀o,H a=some o->jt o->H' a=some o)(q:SqT K H a vs):SqT K H' a vs:=by
 rcases q with(q |⟨o,q⟩) | q
 ·exact .inl (.inl (h _ q True.intro))
 ·exact .inl (.inr ⟨o,h _ q True.intro⟩)
 ·exact .inr q
mutual
theorem Rel.tr(hF:∀a,F a->F' a)(hB:∀a,B a->B' a)(hL:∀a,L a->L' a)(hx:∀a o,H a=some o->(F a\/B a\/L a\/jt o)->H' a=some o) :
  ∀{x:PV}{v:V}{fp:List Addr},(∀a∈fp,∀o,H a=some o->H' a=some o)->Rel T F B L H x v fp->Rel T F' B' L' H' x v fp
 | .non,_,_,_,h | .bl _,_,_,_,h | .int _,_,_,_,h | .str _,_,_,_,h=>by unfold Rel at h ⊢;exact h
 | .lst f xs,_,fp,hp,h=>by
  unfold Rel at h ⊢
  obtain⟨a,vs,fp',e,hl,hr,hf⟩:=h
  cases f with
  | own =>
   obtain rfl:fp=a::fp':=hf
   exact⟨a,vs,fp',e,hp a List.mem_cons_self _ hl,RelL.tr hF hB hL hx (fun b hb=>hp b (List.mem_cons_of_mem _ hb)) hr,rfl⟩
  | frz =>
   obtain⟨rfl,rfl⟩:=hf
   exact⟨a,vs,[],e,⟨hF a hl.1,Rd.tr (fun o q=>hx a o q (.inl hl.1)) hl.2⟩,RelL.tr hF hB hL hx hp hr,rfl,rfl⟩
  | bor =>
   obtain⟨rfl,rfl⟩:=hf
   exact⟨a,vs,[],e,⟨hB a hl.1,Rd.tr (fun o q=>hx a o q (.inr (.inl hl.1))) hl.2⟩,RelL.tr hF hB hL hx hp hr,rfl,rfl⟩
  | lnt =>
   obtain⟨rfl,rfl⟩:=hf
   exact⟨a,vs,[],e,⟨hL a hl.1,hx a _ hl.2 (.inr (.inr (.inl hl.1)))⟩,RelL.tr hF hB hL hx hp hr,rfl,rfl⟩
  | mod =>
   obtain⟨rfl,rfl⟩:=hf
   exact⟨a,vs,[],e,hl,RelL.tr hF hB hL hx hp hr,rfl,rfl⟩
 | .tup xs,_,fp,hp,h=>by
  unfold Rel at h ⊢
  obtain⟨a,vs,e,hl,hr⟩:=h
  exact⟨a,vs,e,SqT.tr (fun o q z=>hx a o q (.inr (.inr (.inr z)))) hl,RelL.tr hF hB hL hx hp hr⟩
 | .obj f c ks xs,_,fp,hp,h=>by
  unfold Rel at h ⊢
  obtain⟨a,dx,vs,fp',e,hl,hk,hr,hf,ha⟩:=h
  cases f with
  | own =>
   obtain rfl:fp=a::fp':=hf
   exact⟨a,dx,vs,fp',e,hp a List.mem_cons_self _ hl,hk,RelL.tr hF hB hL hx (fun b hb=>hp b (List.mem_cons_of_mem _ hb)) hr,rfl,True.intro⟩
  | frz =>
   obtain⟨rfl,rfl⟩:=hf
   exact⟨a,dx,vs,[],e,hx a _ hl (.inl ha),hk,RelL.tr hF hB hL hx hp hr,⟨rfl,rfl⟩,hF a ha⟩
  | bor =>
   obtain⟨rfl,rfl⟩:=hf
   exact⟨a,dx,vs,[],e,hx a _ hl (.inr (.inl ha)),hk,RelL.tr hF hB hL hx hp hr,⟨rfl,rfl⟩,hB a ha⟩
  | lnt =>
   obtain⟨rfl,rfl⟩:=hf
   exact⟨a,dx,vs,[],e,hx a _ hl (.inr (.inr (.inl ha))),hk,RelL.tr hF hB hL hx hp hr,⟨rfl,rfl⟩,hL a ha⟩
  | mod=>exact ha.elim
 | .exc c,_,fp,hp,h=>by
  unfold Rel at h ⊢
  obtain⟨a,e,hl,hf⟩:=h
  exact⟨a,e,hx a _ hl (.inr (.inr (.inr True.intro))),hf⟩
theorem RelL.tr(hF:∀a,F a->F' a)(hB:∀a,B a->B' a)(hL:∀a,L a->L' a)(hx:∀a o,H a=some o->(F a\/B a\/L a\/jt o)->H' a=some o) :
  ∀{xs:List PV}{vs:List V}{fp:List Addr},(∀a∈fp,∀o,H a=some o->H' a=some o)->RelL T F B L H xs vs fp->RelL T F' B' L' H' xs vs fp
 | [],_,_,_,h=>by unfold RelL at h ⊢;exact h
 | x::xs,_,fp,hp,h=>by
  unfold RelL at h ⊢
  obtain⟨v,ws,f1,f2,e,h1,h2,rfl⟩:=h
  exact⟨v,ws,f1,f2,e,Rel.tr hF hB hL hx (fun b hb=>hp b (List.mem_append_left _ hb)) h1,RelL.tr hF hB hL hx (fun b hb=>hp b (List.mem_append_right _ hb)) h2,rfl⟩
end
def Ext(H H':Hp):Prop:=∀a o,H a=some o->H' a=some o
theorem Ext.refl:Ext H H:=fun _ _ h=>h
theorem Ext.trans(a:Ext H H1)(b:Ext H1 H2):Ext H H2:=fun c o h=>b c o (a c o h)
theorem Ext.upd(h:H a=none):Ext H (L2.upd H a o):=fun b u e=>by rw[aP (bN e h)];exact e
theorem Ext.free(x:Ext H H')(h:H' a=none):H a=none:=by
 cases e:H a with
 | none=>rfl
 | some o=>rw[x a o e]at h;cases h
theorem Rel.ext(e:Ext H H')(hF:∀a,F a->F' a)(h:Rel T F B L H x v fp):Rel T F' B L H' x v fp :=
 Rel.tr hF (fun _ h=>h) (fun _ h=>h) (fun a o q _=>e a o q) (fun a _ o q=>e a o q) h
theorem RelL.ext(e:Ext H H')(hF:∀a,F a->F' a)(h:RelL T F B L H xs vs fp):RelL T F' B L H' xs vs fp :=
 RelL.tr hF (fun _ h=>h) (fun _ h=>h) (fun a o q _=>e a o q) (fun a _ o q=>e a o q) h
theorem RelL.length:∀{xs:List PV}{vs:List V}{fp:List Addr},RelL T F B L H xs vs fp->xs.length=vs.length
 | [],_,_,h=>by unfold RelL at h;rw[h.1];rfl
 | x::xs,_,_,h=>by
  unfold RelL at h
  obtain⟨v,ws,f1,f2,rfl,_,h2,_⟩:=h
  simp[RelL.length h2]
mutual
theorem Rel.there:∀{x:PV}{v:V}{fp:List Addr},Rel T F B L H x v fp->∀a∈fp,∃o,H a=some o
 | .non,_,_,h | .bl _,_,_,h | .int _,_,_,h | .str _,_,_,h=>by unfold Rel at h;rw[h.2];exact fun _ z=>nomatch z
 | .lst f xs,_,fp,h=>by
  unfold Rel at h
  obtain⟨a,vs,fp',e,hl,hr,hf⟩:=h
  cases f with
  | own =>
   obtain rfl:fp=a::fp':=hf
   intro b hb
   rcases List.mem_cons.mp hb with rfl | hb
   ·exact⟨_,hl⟩
   ·exact RelL.there hr b hb
  | frz | bor | lnt | mod=>obtain⟨rfl,rfl⟩:=hf;exact fun _ z=>nomatch z
 | .tup xs,_,fp,h=>by
  unfold Rel at h
  obtain⟨a,vs,e,hl,hr⟩:=h
  exact RelL.there hr
 | .obj f c ks xs,_,fp,h=>by
  unfold Rel at h
  obtain⟨a,dx,vs,fp',e,hl,hk,hr,hf,ha⟩:=h
  cases f with
  | own =>
   obtain rfl:fp=a::fp':=hf
   intro b hb
   rcases List.mem_cons.mp hb with rfl | hb
   ·exact⟨_,hl⟩
   ·exact RelL.there hr b hb
  | frz | bor | lnt | mod=>obtain⟨rfl,rfl⟩:=hf;exact fun _ z=>nomatch z
 | .exc c,_,fp,h=>by
  unfold Rel at h
  obtain⟨a,e,hl,rfl⟩:=h
  exact fun _ z=>nomatch z
theorem RelL.there:∀{xs:List PV}{vs:List V}{fp:List Addr},RelL T F B L H xs vs fp->∀a∈fp,∃o,H a=some o
 | [],_,_,h=>by unfold RelL at h;rw[h.2];exact fun _ z=>nomatch z
 | x::xs,_,_,h=>by
  unfold RelL at h
  obtain⟨v,ws,f1,f2,_,h1,h2,rfl⟩:=h
  intro b hb
  rcases List.mem_append.mp hb with hb | hb
  ·exact Rel.there h1 b hb
  ·exact RelL.there h2 b hb
end
def Chg:HO->Prop
 | .lst _ | .ins _ _ _=>True
 | _=>False
mutual
theorem Rel.chg:∀{x:PV}{v:V}{fp:List Addr},Rel T F B L H x v fp->∀a∈fp,∃o,H a=some o/\Chg o
 | .non,_,_,h | .bl _,_,_,h | .int _,_,_,h | .str _,_,_,h=>by unfold Rel at h;rw[h.2];exact fun _ z=>nomatch z
 | .lst f xs,_,fp,h=>by
  unfold Rel at h
  obtain⟨a,vs,fp',e,hl,hr,hf⟩:=h
  cases f with
  | own =>
   obtain rfl:fp=a::fp':=hf
   intro b hb
   rcases List.mem_cons.mp hb with rfl | hb
   ·exact⟨_,hl,True.intro⟩
   ·exact RelL.chg hr b hb
  | frz | bor | lnt | mod=>obtain⟨rfl,rfl⟩:=hf;exact fun _ z=>nomatch z
 | .tup xs,_,fp,h=>by
  unfold Rel at h
  obtain⟨a,vs,e,hl,hr⟩:=h
  exact RelL.chg hr
 | .obj f c ks xs,_,fp,h=>by
  unfold Rel at h
  obtain⟨a,dx,vs,fp',e,hl,hk,hr,hf,ha⟩:=h
  cases f with
  | own =>
   obtain rfl:fp=a::fp':=hf
   intro b hb
   rcases List.mem_cons.mp hb with rfl | hb
   ·exact⟨_,hl,True.intro⟩
   ·exact RelL.chg hr b hb
  | frz | bor | lnt | mod=>obtain⟨rfl,rfl⟩:=hf;exact fun _ z=>nomatch z
 | .exc c,_,fp,h=>by
  unfold Rel at h
  obtain⟨a,e,hl,rfl⟩:=h
  exact fun _ z=>nomatch z
theorem RelL.chg:∀{xs:List PV}{vs:List V}{fp:List Addr},RelL T F B L H xs vs fp->∀a∈fp,∃o,H a=some o/\Chg o
 | [],_,_,h=>by unfold RelL at h;rw[h.2];exact fun _ z=>nomatch z
 | x::xs,_,_,h=>by
  unfold RelL at h
  obtain⟨v,ws,f1,f2,_,h1,h2,rfl⟩:=h
  intro b hb
  rcases List.mem_append.mp hb with hb | hb
  ·exact Rel.chg h1 b hb
  ·exact RelL.chg h2 b hb
end
mutual
theorem Rel.lend:∀{x:PV}{v:V}{fp:List Addr},(∀a∈fp,L a)->Rel T F B L H x v fp->Rel T F B L H (x.mapF Fl.lend) v []
 | .non,_,_,_,h | .bl _,_,_,_,h | .int _,_,_,_,h | .str _,_,_,_,h=>by unfold Rel at h;simp only[PV.mapF];unfold Rel;exact⟨h.1,rfl⟩
 | .lst f xs,_,fp,hp,h=>by
  unfold Rel at h
  obtain⟨a,vs,fp',e,hl,hr,hf⟩:=h
  simp only[PV.mapF]
  unfold Rel
  cases f with
  | own =>
   obtain rfl:fp=a::fp':=hf
   exact⟨a,vs,[],e,⟨hp a List.mem_cons_self,hl⟩,RelL.lend (fun b hb=>hp b (List.mem_cons_of_mem _ hb)) hr,rfl,rfl⟩
  | frz | bor | lnt | mod=>obtain⟨rfl,rfl⟩:=hf;exact⟨a,vs,[],e,hl,RelL.lend hp hr,rfl,rfl⟩
 | .tup xs,_,fp,hp,h=>by
  unfold Rel at h
  obtain⟨a,vs,e,hl,hr⟩:=h
  simp only[PV.mapF]
  unfold Rel
  exact⟨a,vs,e,hl,RelL.lend hp hr⟩
 | .obj f c ks xs,_,fp,hp,h=>by
  unfold Rel at h
  obtain⟨a,dx,vs,fp',e,hl,hk,hr,hf,ha⟩:=h
  simp only[PV.mapF]
  unfold Rel
  cases f with
  | own =>
   obtain rfl:fp=a::fp':=hf
   have r:=RelL.lend (fun b hb=>hp b (List.mem_cons_of_mem _ hb)) hr
   exact⟨a,dx,vs,[],e,hl,⟨by rw[r.length,hk.1,hr.length],hk.2⟩,r,⟨rfl,rfl⟩,hp a List.mem_cons_self⟩
  | frz | bor | lnt=>obtain⟨rfl,rfl⟩:=hf;have r:=RelL.lend hp hr;exact⟨a,dx,vs,[],e,hl,⟨by rw[r.length,hk.1,hr.length],hk.2⟩,r,⟨rfl,rfl⟩,ha⟩
  | mod=>exact ha.elim
 | .exc c,_,fp,hp,h=>by
  unfold Rel at h
  obtain⟨a,e,hl,rfl⟩:=h
  simp only[PV.mapF]
  unfold Rel
  exact⟨a,e,hl,rfl⟩
theorem RelL.lend:∀{xs:List PV}{vs:List V}{fp:List Addr},(∀a∈fp,L a)->RelL T F B L H xs vs fp->RelL T F B L H (mapL Fl.lend xs) vs []
 | [],_,_,_,h=>by unfold RelL at h;simp only[mapL];unfold RelL;exact⟨h.1,rfl⟩
 | x::xs,_,fp,hp,h=>by
  unfold RelL at h
  obtain⟨v,ws,f1,f2,e,h1,h2,rfl⟩:=h
  simp only[mapL]
  unfold RelL
  exact⟨v,ws,[],[],e,Rel.lend (fun b hb=>hp b (List.mem_append_left _ hb)) h1,RelL.lend (fun b hb=>hp b (List.mem_append_right _ hb)) h2,rfl⟩
end
end
end PR
namespace L2
open PySem PySem.Spec
theorem PE.wk(h:PE X e t)(w:∀σ H Q,t' σ H Q->t σ H Q):PE X e t':=fun pins s σ H Q I q=>h pins s σ H Q I (w σ H Q q)
theorem PA.wk(h:PA X e t)(w:∀σ H Q,t' σ H Q->t σ H Q):PA X e t':=fun pos pins s σ H Q I q=>h pos pins s σ H Q I (w σ H Q q)
theorem PT.wk(h:PT X e t)(w:∀σ H Q,t' σ H Q->t σ H Q):PT X e t':=fun pins s σ H Q I q=>h pins s σ H Q I (w σ H Q q)
theorem PW.wk(h:PW X e t)(w:∀σ H Q,t' σ H Q->t σ H Q):PW X e t':=fun wh pins s σ H Q I q=>h wh pins s σ H Q I (w σ H Q q)
theorem PS.wk(h:PS X e t)(w:∀D σ H,t' D σ H->t D σ H):PS X e t':=fun pins s σ H D I q=>h pins s σ H D I (w D σ H q)
theorem PSs.wk(h:PSs X e t)(w:∀D σ H,t' D σ H->t D σ H):PSs X e t':=fun pins s σ H D I q=>h pins s σ H D I (w D σ H q)
end L2
namespace PR
open PySem PySem.Spec L2
structure Zn where
 H0:Hp
 F0:Addr->Prop
 fp0:Addr->Prop
 B:Addr->Prop
 pin:Option V:=none
abbrev NoL:Addr->Prop:=fun _=>False
structure eW(T:Tb)(Z:Zn)(F:Addr->Prop)(H:Hp):Prop where
 bo:∀a,Z.B a->(∃o,Z.H0 a=some o)/\¬Z.fp0 a
 keep:∀a o,Z.H0 a=some o->¬Z.fp0 a->H a=some o
 f0:∀a,Z.F0 a->F a
 fn:∀a,F a->Z.F0 a\/Z.H0 a=none\/Z.fp0 a
 ft:∀a,F a->∃o,H a=some o
structure au(T:Tb)(Z:Zn)(F:Addr->Prop)(H:Hp)(σ:St)(env:En)(fp:Nat->List Addr):Prop where
 hp:eW T Z F H
 len:σ.length=env.length
 rel:∀(i:Nat) (pv:PV),env[i]?=some (some pv)->∃v,σ[i]?=some (some v)/\Rel T F Z.B NoL H pv v (fp i)
 nd:∀i,(fp i).Nodup
 dj:∀i j,i≠j->∀a∈fp i,a∉fp j
 dis:∀i,∀a∈fp i,¬F a/\∃o,H a=some o
 new:∀i,∀a∈fp i,Z.H0 a=none\/Z.fp0 a
 ch:∀i,∀a∈fp i,∃o,H a=some o/\Chg o
 pn:∀v,Z.pin=some v->σ[0]?=some (some v)/\cF env=true
def Own(fp:Nat->List Addr):Addr->Prop:=fun a=>∃i,a∈fp i
structure Gr(F:Addr->Prop)(H:Hp)(F':Addr->Prop)(H':Hp):Prop where
 ext:Ext H H'
 mono:∀a,F a->F' a
 only:∀a,F' a->F a\/H a=none
 dom:∀a,F' a->∃o,H' a=some o
theorem Gr.refl(h:∀a,F a->∃o,H a=some o):Gr F H F H:=⟨Ext.refl,fun _ h=>h,fun _ h=>.inl h,h⟩
theorem Gr.trans(a:Gr F H F1 H1)(b:Gr F1 H1 F2 H2):Gr F H F2 H2 :=
 ⟨a.ext.trans b.ext,fun c h=>b.mono c (a.mono c h),fun c h=>(b.only c h).elim (a.only c) fun z=>.inr (a.ext.free z),b.dom⟩
theorem Gr.same(h:∀a,F a->∃o,H a=some o)(e:Ext H H'):Gr F H F H':=⟨e,fun _ h=>h,fun _ h=>.inl h,fun a q=>let⟨o,z⟩:=h a q;⟨o,e a o z⟩⟩
section
variable{T:Tb}{Z:Zn}{F F':Addr->Prop}{H H':Hp}{σ:St}{env:En}{fp:Nat->List Addr}
theorem eW.grow(S:eW T Z F H)(g:Gr F H F' H'):eW T Z F' H' :=
 ⟨S.bo,fun a o h n=>g.ext a o (S.keep a o h n),fun a h=>g.mono a (S.f0 a h),fun a h=>by
  rcases g.only a h with z | z
  ·exact S.fn a z
  ·refine .inr ?_
   by_cases q:Z.fp0 a
   ·exact .inr q
   ·refine .inl ?_
    cases w:Z.H0 a with
    | none=>rfl
    | some o=>rw[S.keep a o w q]at z;exact(nomatch z),g.dom⟩
theorem au.grow(S:au T Z F H σ env fp)(g:Gr F H F' H'):au T Z F' H' σ env fp :=
 ⟨S.hp.grow g,S.len,fun i pv h=>let ⟨v,q1,q2⟩:=S.rel i pv h;⟨v,q1,q2.ext g.ext g.mono⟩,S.nd,S.dj,fun i a h=>by
  obtain⟨n,o,q⟩:=S.dis i a h
  refine⟨fun z=>?_,o,g.ext a o q⟩
  rcases g.only a z with z | z
  ·exact n z
  ·rw[q]at z;exact(nomatch z),S.new,fun i a h=>let⟨o,q,c⟩:=S.ch i a h;⟨o,g.ext a o q,c⟩,S.pn⟩
end
def GE(T:Tb)(W:Nat->St->Hp->Prop)(B F L:Addr->Prop)(σ:St)(H:Hp)(Q:VK):Res PV->Prop
 | .ok pv=>∀v H' F' f,Gr F H F' H'->Rel T F' B L H' pv v f->(∀a∈f,¬F' a)->f.Nodup->(∀a∈f,H a=none)->Q v H'
 | .exc c=>∀H',Ext H H'->W c σ H'
 | .stuck=>False
def GA(T:Tb)(W:Nat->St->Hp->Prop)(B F L:Addr->Prop)(σ:St)(H:Hp)(Q:List V->Hp->Prop):Res (List PV)->Prop
 | .ok pvs=>∀vs H' F' f,Gr F H F' H'->RelL T F' B L H' pvs vs f->(∀a∈f,¬F' a)->f.Nodup->(∀a∈f,H a=none)->Q vs H'
 | .exc c=>∀H',Ext H H'->W c σ H'
 | .stuck=>False
def GT(W:Nat->St->Hp->Prop)(F:Addr->Prop)(σ:St)(H:Hp)(Q:Bool->Hp->Prop):Res Bool->Prop
 | .ok b=>∀H' F',Gr F H F' H'->Q b H'
 | .exc c=>∀H',Ext H H'->W c σ H'
 | .stuck=>False
def tE(T:Tb)(W:Nat->St->Hp->Prop)(m:ME):TE:=fun σ H Q=>∃Z F env fp,au T Z F H σ env fp/\GE T W Z.B F (Own fp) σ H Q (m env)
def tA(T:Tb)(W:Nat->St->Hp->Prop)(m:MA):TA:=fun σ H Q=>∃Z F env fp,au T Z F H σ env fp/\GA T W Z.B F (Own fp) σ H Q (m env)
def tT(T:Tb)(W:Nat->St->Hp->Prop)(m:MT):TT:=fun σ H Q=>∃Z F env fp,au T Z F H σ env fp/\GT W F σ H Q (m env)
abbrev SE(X:Cx)(T:Tb)(W:Nat->St->Hp->Prop)(e:Expr)(m:ME):Prop:=PE X e (tE T W m)
abbrev SA(X:Cx)(T:Tb)(W:Nat->St->Hp->Prop)(es:List Expr)(m:MA):Prop:=PA X es (tA T W m)
abbrev ST(X:Cx)(T:Tb)(W:Nat->St->Hp->Prop)(e:Expr)(m:MT):Prop:=PT X e (tT T W m)
section
variable{X:Cx}{T:Tb}{W:Nat->St->Hp->Prop}{Z:Zn}{F F' B L:Addr->Prop}{H H':Hp}{σ:St}{env:En}{fp:Nat->List Addr}
theorem GE.scal{Q:VK}{pv:PV}{v:V}(q:GE T W B F L σ H Q (.ok pv))(g:Gr F H F' H')(r:Rel T F' B L H' pv v []):Q v H' :=
 q v H' F' [] g r (fun _ z=>(nomatch z)) List.nodup_nil (fun _ z=>(nomatch z))
theorem kA{v:V}{pv:PV}(h:PE X e (tC v))(r:∀F B L H,Rel T F B L H pv v []):SE X T W e (mC pv):=PE.wk h fun σ H Q ⟨Z,F,env,fp,S,q⟩=>q.scal (Gr.refl S.hp.ft) (r _ _ _ _)
theorem ai{i j pos}:SE X T W (.Constant (.int i) j pos) (mC (.int i)):=kA m8 fun _ _ _ _=>by unfold Rel;exact⟨rfl,rfl⟩
theorem gj{b j pos}:SE X T W (.Constant (.bool b) j pos) (mC (.bl b)):=kA Ek fun _ _ _ _=>by unfold Rel;exact⟨rfl,rfl⟩
theorem mX{j pos}:SE X T W (.Constant .none j pos) (mC .non):=kA vp fun _ _ _ _=>by unfold Rel;exact⟨rfl,rfl⟩
theorem bY{x j pos}:SE X T W (.Constant (.str x) j pos) (mC (.str x)):=kA Be fun _ _ _ _=>by unfold Rel;exact⟨rfl,rfl⟩
theorem AR(hN:X.N[i]?=some x)(hv:Vis X.env.scope x)(hd:(x ==("__debug__" : Str))=false:=by decide)(hcd:(x ==("__classdict__" : Str))=false:=by decide):SE X T W (.Name x pos) (ac i) :=
 PE.wk (dH hN hv hd hcd) fun σ H Q hz1=>by
  obtain⟨Z,F,env,fp,S,q⟩:=hz1
  unfold ac at q
  split at q
  ·rename_i pv e
   obtain⟨v,e1,r⟩:=S.rel i pv e
   refine⟨v,e1,q.scal (Gr.refl S.hp.ft) ?_⟩
   exact Rel.lend (fun a h=>⟨i,h⟩) (Rel.tr (fun _ h=>h) (fun _ h=>h) (fun _ h=>h.elim) (fun a o q _=>q) (fun a _ o q=>q) r)
  ·exact q.elim
theorem tE.bind(S:au T Z F H σ env fp)(hx:∀c,m env=.exc c->∀H',Ext H H'->W c σ H')(hs:m env≠.stuck)
  (k:∀pv v H' F' f,m env=.ok pv->Gr F H F' H'->Rel T F' Z.B (Own fp) H' pv v f->(∀a∈f,¬F' a)->f.Nodup->(∀a∈f,H a=none)->Q v H'):tE T W m σ H Q:=by
 refine⟨Z,F,env,fp,S,?_⟩
 cases e:m env with
 | ok pv=>exact fun v H' F' f g r h1 h2 h3=>k pv v H' F' f e g r h1 h2 h3
 | exc c=>exact hx c e
 | stuck=>exact hs e
theorem tA.bind(S:au T Z F H σ env fp)(hx:∀c,m env=.exc c->∀H',Ext H H'->W c σ H')(hs:m env≠.stuck)
  (k:∀pvs vs H' F' f,m env=.ok pvs->Gr F H F' H'->RelL T F' Z.B (Own fp) H' pvs vs f->(∀a∈f,¬F' a)->f.Nodup->(∀a∈f,H a=none)->Q vs H'):tA T W m σ H Q:=by
 refine⟨Z,F,env,fp,S,?_⟩
 cases e:m env with
 | ok pv=>exact fun v H' F' f g r h1 h2 h3=>k pv v H' F' f e g r h1 h2 h3
 | exc c=>exact hx c e
 | stuck=>exact hs e
theorem tT.bind(S:au T Z F H σ env fp)(hx:∀c,m env=.exc c->∀H',Ext H H'->W c σ H')(hs:m env≠.stuck)
  (k:∀b H' F',m env=.ok b->Gr F H F' H'->Q b H'):tT T W m σ H Q:=by
 refine⟨Z,F,env,fp,S,?_⟩
 cases e:m env with
 | ok pv=>exact fun H' F' g=>k pv H' F' e g
 | exc c=>exact hx c e
 | stuck=>exact hs e
theorem af:SA X T W [] am:=PA.wk gN fun σ H Q ⟨Z,F,env,fp,S,q⟩=>q [] H F [] (Gr.refl S.hp.ft) (by unfold RelL;exact⟨rfl,rfl⟩) (fun _ z=>(nomatch z)) List.nodup_nil (fun _ z=>(nomatch z))
theorem aa(ha:SE X T W e m)(hr:SA X T W es ms)(hs:starEach (e::es) X.env=(false,eval e X.env)::starEach es X.env:=by rfl):SA X T W (e::es) (ae m ms) :=
 PA.wk (dv ha hr hs) fun σ H Q hz1=>by
  obtain⟨Z,F,env,fp,S,q⟩:=hz1
  unfold ae at q
  refine tE.bind S (fun c e=>by rw[e]at q;exact q) (fun e=>by rw[e]at q;exact q) fun x v H1 F1 f1 e1 g1 r1 n1 d1 w1=>?_
  rw[e1]at q
  simp only[Res.ok_bind]at q
  refine tA.bind (S.grow g1) (fun c e=>by rw[e]at q;exact fun H' x=>q H' (g1.ext.trans x)) (fun e=>by rw[e]at q;exact q) fun xs vs H2 F2 f2 e2 g2 r2 n2 d2 w2=>?_
  rw[e2]at q
  simp only[Res.ok_bind]at q
  have new1:∀a∈f1,¬F2 a:=fun a ha z=>by
   rcases g2.only a z with z | z
   ·exact n1 a ha z
   ·obtain⟨o,ho⟩:=r1.there a ha
    rw[ho]at z;cases z
  refine q (v::vs) H2 F2 (f1++f2) (g1.trans g2) (by unfold RelL;exact⟨v,vs,f1,f2,rfl,r1.ext g2.ext g2.mono,r2,rfl⟩) (fun a ha=>?_) ?_ (fun a ha=>?_)
  ·rcases List.mem_append.mp ha with ha | ha
   ·exact new1 a ha
   ·exact n2 a ha
  ·refine List.nodup_append.mpr ⟨d1,d2,fun a ha b hb z=>?_⟩
   subst z
   obtain⟨o,ho⟩:=r1.there a ha
   rw[w2 a hb]at ho;cases ho
  ·rcases List.mem_append.mp ha with ha | ha
   ·exact w1 a ha
   ·exact g1.ext.free (w2 a ha)
def ap(f:List PV->Res PV)(ms:MA):ME:=fun env=>(ms env).bind f
def Mir(T:Tb)(W:Nat->St->Hp->Prop)(f:List PV->Res PV)(r:List V->Hp->VK->Prop):Prop :=
 ∀(B F L:Addr->Prop) (σ:St) (H:Hp) (Q:VK) (F':Addr->Prop) (H':Hp) (xs:List PV) (vs:List V) (fx:List Addr),Gr F H F' H'->RelL T F' B L H' xs vs fx->(∀a∈fx,¬F' a)->fx.Nodup->(∀a∈fx,H a=none)->
  GE T W B F L σ H Q (f xs)->r vs H' Q
theorem tA.mir(hm:Mir T W f r)(h:tE T W (ap f ms) σ H Q):tA T W ms σ H fun vs H1=>r vs H1 Q:=by
 obtain⟨Z,F,env,fp,S,q⟩:=h
 unfold ap at q
 refine tA.bind S (fun c e=>by rw[e]at q;exact q) (fun e=>by rw[e]at q;exact q) fun xs vs H1 F1 f1 e1 g1 r1 n1 d1 w1=>?_
 rw[e1]at q
 exact hm Z.B F (Own fp) σ H Q F1 H1 xs vs f1 g1 r1 n1 d1 w1 q
theorem dU{id:String}{x:Str}{es:List Expr}{f:List PV->Res PV}{r:List V->Hp->VK->Prop}(hc:d9 X (.builtin id) r)(hmir:Mir T W f r)(hg:Gl X x)(hm:X.mg x=none)(hv:bootBuiltins x=some (.builtin id))(ha:SA X T W (e::es) ms)
  (hn:x≠"__name__" := by decide) (hdb:(x ==("__debug__" : Str))=false:=by decide)
  (he:starEach (e::es) X.env=(false,eval e X.env)::starEach es X.env:=by rfl) (hpl:(backTo pos (starEach es X.env)).any (·.1)=false:=by rfl):SE X T W (.Call (.Name x p) (e::es) [] pos) (ap f ms) :=
 PE.wk (kJ hc hg hm hv ha hn hdb he hpl) fun σ H Q h=>tA.mir hmir h
theorem lR{id:String}{x:Str}{es:List Expr}{f:List PV->Res PV}{r:List V->Hp->VK->Prop}(hc:d9 X (.type id) r)(hmir:Mir T W f r)(hg:Gl X x)(hm:X.mg x=none)(hv:bootBuiltins x=some (.type id))(ha:SA X T W (e::es) ms)
  (hn:x≠"__name__" := by decide) (hdb:(x ==("__debug__" : Str))=false:=by decide)
  (he:starEach (e::es) X.env=(false,eval e X.env)::starEach es X.env:=by rfl) (hpl:(backTo pos (starEach es X.env)).any (·.1)=false:=by rfl):SE X T W (.Call (.Name x p) (e::es) [] pos) (ap f ms) :=
 PE.wk (lV hc hg hm hv ha hn hdb he hpl) fun σ H Q h=>tA.mir hmir h
def io(T:Tb)(W:Nat->St->Hp->Prop)(f:PV->PV->Res PV)(r:R2):Prop :=
 ∀(B F L:Addr->Prop) (σ:St) (H:Hp) (Q:VK) (F':Addr->Prop) (H':Hp) (x y:PV) (v u:V) (fx fy:List Addr),Gr F H F' H'->Rel T F' B L H' x v fx->Rel T F' B L H' y u fy->(∀a∈fx++fy,¬F' a)->(fx++fy).Nodup->(∀a∈fx++fy,H a=none)->
  GE T W B F L σ H Q (f x y)->r v u H' Q
theorem tE.mir2(hm:io T W f r)(h:tE T W (mOp f ma mb) σ H Q):tOp r (tE T W ma) (tE T W mb) σ H Q:=by
 obtain⟨Z,F,env,fp,S,q⟩:=h
 unfold mOp at q
 refine tE.bind S (fun c e=>by rw[e]at q;exact q) (fun e=>by rw[e]at q;exact q) fun x v H1 F1 f1 e1 g1 r1 n1 d1 w1=>?_
 rw[e1]at q
 simp only[Res.ok_bind]at q
 refine tE.bind (S.grow g1) (fun c e=>by rw[e]at q;exact fun H' x=>q H' (g1.ext.trans x)) (fun e=>by rw[e]at q;exact q) fun y u H2 F2 f2 e2 g2 r2 n2 d2 w2=>?_
 rw[e2]at q
 simp only[Res.ok_bind]at q
 have new1:∀a∈f1,¬F2 a:=fun a ha z=>by
  rcases g2.only a z with z | z
  ·exact n1 a ha z
  ·obtain⟨o,ho⟩:=r1.there a ha
   rw[ho]at z;cases z
 refine hm Z.B F (Own fp) σ H Q F2 H2 x y v u f1 f2 (g1.trans g2) (r1.ext g2.ext g2.mono) r2 (fun a ha=>?_) ?_ (fun a ha=>?_) q
 ·rcases List.mem_append.mp ha with ha | ha
  ·exact new1 a ha
  ·exact n2 a ha
 ·refine List.nodup_append.mpr ⟨d1,d2,fun a ha b hb z=>?_⟩
  subst z
  obtain⟨o,ho⟩:=r1.there a ha
  rw[w2 a hb]at ho;cases ho
 ·rcases List.mem_append.mp ha with ha | ha
  ·exact w1 a ha
  ·exact g1.ext.free (w2 a ha)
theorem jY(ho:OpR X (binaryOp op) r)(hm:io T W f r)(ha:SE X T W a ma)(hb:SE X T W b mb):SE X T W (.BinOp a op b pos) (mOp f ma mb) :=
 PE.wk (Ej (pos:=pos) ho ha hb) fun σ H Q h=>tE.mir2 hm h
theorem kC(ho:OpR X (compareOp op) r)(hm:io T W f r)(ha:SE X T W a ma)(hb:SE X T W b mb)(hk:behindInMarks op b=false):SE X T W (.Compare a [op] [b] pos) (mOp f ma mb) :=
 PE.wk (y_ (pos:=pos) ho ha hb hk) fun σ H Q h=>tE.mir2 hm h
theorem An(hr:IxR X r)(hm:io T W f r)(ha:SE X T W a ma)(hb:SE X T W b mb)(hs:gh b):SE X T W (.Subscript a b pos) (mOp f ma mb) :=
 PE.wk (vq (pos:=pos) hr ha hb hs) fun σ H Q h=>tE.mir2 hm h
theorem kO(hg:∀i j F B L H,Rel T F B L H (g' i j) (g i j) []):io T W (kL g') (rI0 g):=by
  intro B F L σ H Q F' H' x y v u fx fy gr rx ry _ _ _ q
  cases x<;>cases y<;>first
    | exact q.elim
    | (unfold Rel at rx ry
       exact⟨_,_,rx.1,ry.1,q.scal gr (hg _ _ _ _ _ _)⟩)
theorem oX(hc:∀i j,C' i j=true->C i j)(hg:∀i j F B L H,Rel T F B L H (g' i j) (g i j) []):io T W (et C' g') (rI C g):=by
  intro B F L σ H Q F' H' x y v u fx fy gr rx ry _ _ _ q
  cases x<;>cases y<;>first
    | exact q.elim
    | (unfold Rel at rx ry
       simp only[et]at q
       split at q
       . rename_i hh
         exact⟨_,_,rx.1,ry.1,hc _ _ hh,q.scal gr (hg _ _ _ _ _ _)⟩
       . exact q.elim)
theorem fh:Rel T F B L H (.int i) (.int i) []:=by unfold Rel;exact⟨rfl,rfl⟩
theorem i8:Rel T F B L H (.bl i) (.bl i) []:=by unfold Rel;exact⟨rfl,rfl⟩
theorem A3:Rel T F B L H .non .non []:=by unfold Rel;exact⟨rfl,rfl⟩
def il:PV->PV->Res PV:=kL fun i j=>.int (i - j)
def b8:PV->PV->Res PV:=et (fun i j=>decide ((-(2 ^ 64) < i/\i < 2 ^ 64)\/(-(2 ^ 64) < j/\j < 2 ^ 64))) fun i j=>.int (i * j)
def bP:PV->PV->Res PV:=et (fun _ j=>decide (0 < j)) fun i j=>.int (i % j)
def dW:PV->PV->Res PV:=et (fun _ j=>decide (0 < j/\j < 1073741824)) fun i j=>.int (i / j)
def m_:PV->PV->Res PV:=et (fun i j=>decide (0<=j/\j<=1000000/\i.natAbs < 2 ^ 64)) fun i j=>.int (i ^ j.toNat)
def pLt:PV->PV->Res PV:=kL fun i j=>.bl (decide (i < j))
def pLe:PV->PV->Res PV:=kL fun i j=>.bl (decide (i<=j))
def pGt:PV->PV->Res PV:=kL fun i j=>.bl (decide (j < i))
def pGe:PV->PV->Res PV:=kL fun i j=>.bl (decide (j<=i))
variable{a b:Expr}{ma mb:ME}{pos:Pos}
theorem dF(ha:SE X T W a ma)(hb:SE X T W b mb):SE X T W (.BinOp a .Sub b pos) (mOp il ma mb):=jY Bo (kO fun _ _ _ _ _ _=>fh) ha hb
theorem cq(ha:SE X T W a ma)(hb:SE X T W b mb):SE X T W (.BinOp a .Mult b pos) (mOp b8 ma mb):=jY Bs (oX (fun i j h=>(by simpa using h:(-(2 ^ 64) < i/\i < 2 ^ 64)\/(-(2 ^ 64) < j/\j < 2 ^ 64))) fun _ _ _ _ _ _=>fh) ha hb
theorem bj(ha:SE X T W a ma)(hb:SE X T W b mb):SE X T W (.BinOp a .Mod b pos) (mOp bP ma mb):=jY Bt (oX (fun _ _ h=>of_decide_eq_true h) fun _ _ _ _ _ _=>fh) ha hb
theorem eQ(ha:SE X T W a ma)(hb:SE X T W b mb):SE X T W (.BinOp a .FloorDiv b pos) (mOp dW ma mb):=jY zg (oX (fun i j h=>(by simpa using h:0 < j/\j < 1073741824)) fun _ _ _ _ _ _=>fh) ha hb
theorem uP(ha:SE X T W a ma)(hb:SE X T W b mb):SE X T W (.BinOp a .Pow b pos) (mOp m_ ma mb):=jY Br (oX (fun i j h=>(by simpa using h:0<=j/\j<=1000000/\i.natAbs < 2 ^ 64)) fun _ _ _ _ _ _=>fh) ha hb
theorem D8(ha:SE X T W a ma)(hb:SE X T W b mb):SE X T W (.Compare a [.Lt] [b] pos) (mOp pLt ma mb):=kC Ar (kO fun _ _ _ _ _ _=>i8) ha hb (eB _)
end
def GS(T:Tb)(W:Nat->St->Hp->Prop)(Z:Zn)(D:Ends):Out->Prop
 | .next e=>∀F H σ fp,au T Z F H σ e fp->D.nx σ H
 | .ret pv=>∀F H v f,eW T Z F H->Rel T F Z.B NoL H pv v f->f.Nodup->(∀a∈f,¬F a)->(∀a∈f,Z.H0 a=none\/Z.fp0 a)->D.rt v H
 | .brk e=>∀F H σ fp,au T Z F H σ e fp->D.bk σ H
 | .cont e=>∀F H σ fp,au T Z F H σ e fp->D.ct σ H
 | .exc c e=>∀F H σ fp,au T Z F H σ e fp->W c σ H
 | .stuck=>False
def tS(T:Tb)(W:Nat->St->Hp->Prop)(m:MS):TS:=fun D σ H=>∃Z F env fp,au T Z F H σ env fp/\GS T W Z D (m env)
abbrev SS(X:Cx)(T:Tb)(W:Nat->St->Hp->Prop)(st:Stmt)(m:MS):Prop:=PS X st (tS T W m)
abbrev SSs(X:Cx)(T:Tb)(W:Nat->St->Hp->Prop)(sts:List Stmt)(m:MS):Prop:=PSs X sts (tS T W m)
mutual
theorem Rel.noL:∀{x:PV}{v:V}{fp:List Addr},x.has Fl.isLnt=false->Rel T F B L H x v fp->Rel T F B L' H x v fp
 | .non,_,_,_,h | .bl _,_,_,_,h | .int _,_,_,_,h | .str _,_,_,_,h=>by unfold Rel at h ⊢;exact h
 | .lst f xs,_,fp,hp,h=>by
  unfold Rel at h ⊢
  simp only[PV.has,Bool.or_eq_false_iff]at hp
  obtain⟨a,vs,fp',e,hl,hr,hf⟩:=h
  refine⟨a,vs,fp',e,?_,RelL.noL hp.2 hr,hf⟩
  cases f with
  | lnt=>exact absurd hp.1 (by decide)
  | own | frz | bor | mod=>exact hl
 | .tup xs,_,fp,hp,h=>by
  unfold Rel at h ⊢
  simp only[PV.has]at hp
  obtain⟨a,vs,e,hl,hr⟩:=h
  exact⟨a,vs,e,hl,RelL.noL hp hr⟩
 | .obj f c ks xs,_,fp,hp,h=>by
  unfold Rel at h ⊢
  simp only[PV.has,Bool.or_eq_false_iff]at hp
  obtain⟨a,dx,vs,fp',e,hl,hk,hr,hf,ha⟩:=h
  refine⟨a,dx,vs,fp',e,hl,hk,RelL.noL hp.2 hr,hf,?_⟩
  cases f with
  | lnt=>exact absurd hp.1 (by decide)
  | own | frz | bor | mod=>exact ha
 | .exc c,_,fp,hp,h=>by
  unfold Rel at h ⊢
  exact h
theorem RelL.noL:∀{xs:List PV}{vs:List V}{fp:List Addr},hasL Fl.isLnt xs=false->RelL T F B L H xs vs fp->RelL T F B L' H xs vs fp
 | [],_,_,_,h=>by unfold RelL at h ⊢;exact h
 | x::xs,_,fp,hp,h=>by
  unfold RelL at h ⊢
  simp only[hasL,Bool.or_eq_false_iff]at hp
  obtain⟨v,ws,f1,f2,e,h1,h2,rfl⟩:=h
  exact⟨v,ws,f1,f2,e,Rel.noL hp.1 h1,RelL.noL hp.2 h2,rfl⟩
end
section
variable{X:Cx}{T:Tb}{W:Nat->St->Hp->Prop}{Z:Zn}{F F' B L:Addr->Prop}{H H':Hp}{σ:St}{env:En}{fp:Nat->List Addr}{D:Ends}
def bD(fp:Nat->List Addr)(i:Nat)(f:List Addr):Nat->List Addr:=fun j=>if j=i then f else fp j
theorem au.put(S:au T Z F H σ env fp){i:Nat}{pv:PV}{v:V}{f:List Addr}(r:Rel T F Z.B NoL H pv v f)(nd:f.Nodup)(nf:∀a∈f,¬F a)(new:∀a∈f,Z.H0 a=none\/Z.fp0 a)(dj:∀a∈f,∀j,j≠i->a∉fp j)(ho:aL i env=true) :
  au T Z F H (σ.set i (some v)) (env.set i (some pv)) (bD fp i f):=by
 refine⟨S.hp,by rw[List.length_set,List.length_set,S.len],fun j pv' e=>?_,fun j=>?_,fun j k hjk a ha=>?_,fun j a ha=>?_,fun j a ha=>?_,fun j a ha=>?_,fun w hw=>?_⟩
 ·by_cases hj:j=i
  ·subst hj
   have hl:j < env.length:=by
    have:=(List.getElem?_eq_some_iff.mp e).1
    simpa using this
   rw[List.getElem?_set_self hl]at e
   cases e
   refine⟨v,List.getElem?_set_self (by rw[S.len];exact hl),?_⟩
   unfold bD
   rw[if_pos rfl]
   exact r
  ·rw[List.getElem?_set_ne (Ne.symm hj)]at e
   obtain⟨w,h1,h2⟩:=S.rel j pv' e
   refine⟨w,by rw[List.getElem?_set_ne (Ne.symm hj)];exact h1,?_⟩
   unfold bD
   rw[if_neg hj]
   exact h2
 ·unfold bD;split
  ·exact nd
  ·exact S.nd j
 ·unfold bD at ha ⊢
  by_cases h1:j=i
  ·subst h1
   rw[if_pos rfl]at ha
   rw[if_neg (Ne.symm hjk)]
   exact dj a ha k (Ne.symm hjk)
  ·rw[if_neg h1]at ha
   by_cases h2:k=i
   ·subst h2
    rw[if_pos rfl]
    exact fun z=>dj a z j h1 ha
   ·rw[if_neg h2]
    exact S.dj j k hjk a ha
 ·unfold bD at ha
  by_cases h1:j=i
  ·rw[if_pos h1]at ha;exact⟨nf a ha,r.there a ha⟩
  ·rw[if_neg h1]at ha;exact S.dis j a ha
 ·unfold bD at ha
  by_cases h1:j=i
  ·rw[if_pos h1]at ha;exact new a ha
  ·rw[if_neg h1]at ha;exact S.new j a ha
 ·unfold bD at ha
  by_cases h1:j=i
  ·rw[if_pos h1]at ha;exact r.chg a ha
  ·rw[if_neg h1]at ha;exact S.ch j a ha
 ·obtain⟨h1,h2⟩:=S.pn w hw
  have hi:i≠0:=fun z=>by
   rw[z]at ho
   simp[aL,h2]at ho
  refine⟨by rw[List.getElem?_set_ne hi];exact h1,?_⟩
  unfold cF at h2 ⊢
  rw[List.getElem?_set_ne hi]
  exact h2
theorem au.putN(S:au T Z F H σ env fp)(g:Gr F H F' H'){i:Nat}{pv:PV}{v:V}{f:List Addr}(ho:aL i env=true)(r:Rel T F' Z.B L H' pv v f)(hl:pv.noLnt=true)(nf:∀a∈f,¬F' a)(nd:f.Nodup)(w:∀a∈f,H a=none) :
  au T Z F' H' (σ.set i (some v)) (env.set i (some pv)) (bD fp i f):=by
 refine(S.grow g).put (Rel.noL (by simpa[PV.noLnt]using hl) r) nd nf (fun a ha=>?_) (fun a ha j _ hj=>?_) ho
 ·by_cases q:Z.fp0 a
  ·exact .inr q
  ·refine .inl ?_
   cases e:Z.H0 a with
   | none=>rfl
   | some o =>
    have:=S.hp.keep a o e q
    rw[w a ha]at this;cases this
 ·obtain⟨_,o,ho⟩:=S.dis j a hj
  rw[w a ha]at ho;cases ho
theorem aS:SSs X T W [] aY:=PSs.wk yX fun D σ H ⟨Z,F,env,fp,S,q⟩=>q F H σ fp S
theorem ah{a_:List Stmt}(h1:SS X T W st a)(h2:SSs X T W a_ b):SSs X T W (st::a_) (ar a b) :=
 PSs.wk (oF h1 h2) fun D σ H hz1=>by
  obtain⟨Z,F,env,fp,S,q⟩:=hz1
  refine⟨Z,F,env,fp,S,?_⟩
  unfold ar at q
  cases e:a env with
  | next e'=>rw[e]at q;exact fun F' H' σ' fp' S'=>⟨Z,F',e',fp',S',q⟩
  | ret v | brk e' | cont e' | exc c e' | stuck=>rw[e]at q;exact q
theorem ak(h1:SS X T W st a):SSs X T W [st] a:=rM h1
theorem ba(hc:ST X T W c mc)(ha:SSs X T W a ma)(hb:SSs X T W b mb):SS X T W (.If c a b pos) (mBr mc ma mb) :=
 PS.wk (Ef (pos:=pos) hc ha hb) fun D σ H hz1=>by
  obtain⟨Z,F,env,fp,S,q⟩:=hz1
  unfold mBr at q
  refine tT.bind S (fun c e H' x=>?_) (fun e=>by rw[e]at q;exact q) fun b H' F' e g=>?_
  ·rw[e]at q
   exact q F H' σ fp (S.grow (Gr.same S.hp.ft x))
  ·cases b with
   | true=>rw[e]at q;exact(if_pos rfl).mpr ⟨Z,F',env,fp,S.grow g,q⟩
   | false=>rw[e]at q;exact(if_neg (by decide)).mpr ⟨Z,F',env,fp,S.grow g,q⟩
theorem AN(hN:X.N.Nodup)(hi:X.N[i]?=some x)(hx:Loc X.env.scope x)(he:SE X T W e m)(hs:swapsWith e (some (.Name x pos')) pos.line X.env=pure false:=by rfl)
  (hf:X.fn x=true\/X.env.scope.names.lookup x=some .local:=by first | exact .inl rfl | exact .inr rfl | assumption):SS X T W (.Assign [.Name x pos'] e pos) (aX i m) :=
 PS.wk (vc (pos:=pos) hN hi hx he hs hf) fun D σ H hz1=>by
  obtain⟨Z,F,env,fp,S,q⟩:=hz1
  unfold aX at q
  refine tE.bind S (fun c e H' x=>?_) (fun e=>by rw[e]at q;exact q) fun pv v H1 F1 f e g r h1 h2 h3=>?_
  ·rw[e]at q
   exact q F H' σ fp (S.grow (Gr.same S.hp.ft x))
  ·rw[e]at q
   simp only at q
   split at q
   ·rename_i hl
    rw[Bool.and_eq_true]at hl
    exact q F1 H1 _ _ (S.putN g hl.2 r hl.1 h1 h2 h3)
   ·exact q.elim
theorem eW.newE(S:eW T Z F H){f:List Addr}(w:∀a∈f,H a=none):∀a∈f,Z.H0 a=none\/Z.fp0 a:=fun a ha=>by
 by_cases q:Z.fp0 a
 ·exact .inr q
 ·refine .inl ?_
  cases e:Z.H0 a with
  | none=>rfl
  | some o =>
   have:=S.keep a o e q
   rw[w a ha]at this;cases this
theorem aI(he:SE X T W e m):SS X T W (.Return (some e) pos) (br m) :=
 PS.wk (qo (pos:=pos) he) fun D σ H hz1=>by
  obtain⟨Z,F,env,fp,S,q⟩:=hz1
  unfold br at q
  refine tE.bind S (fun c e H' x=>?_) (fun e=>by rw[e]at q;exact q) fun pv v H1 F1 f e g r h1 h2 h3=>?_
  ·rw[e]at q
   exact q F H' σ fp (S.grow (Gr.same S.hp.ft x))
  ·rw[e]at q
   simp only at q
   split at q
   ·rename_i hl
    exact q F1 H1 v f (S.hp.grow g) (Rel.noL (by simpa[PV.noLnt]using hl) r) h2 h1 (S.hp.newE h3)
   ·exact q.elim
theorem cZ(hN:X.N[i]?=some x)(hv:Vis X.env.scope x)(hd:(x ==("__debug__" : Str))=false:=by decide)(hcd:(x ==("__classdict__" : Str))=false:=by decide):SS X T W (.Return (some (.Name x pos')) pos) (dY i) :=
 PS.wk (qo (pos:=pos) (dH hN hv hd hcd)) fun D σ H hz1=>by
  obtain⟨Z,F,env,fp,S,q⟩:=hz1
  unfold dY at q
  split at q
  ·rename_i pv e
   obtain⟨v,e1,r⟩:=S.rel i pv e
   exact⟨v,e1,q F H v (fp i) S.hp r (S.nd i) (fun a ha=>(S.dis i a ha).1) (S.new i)⟩
  ·exact q.elim
theorem FG:SS X T W (.Return none pos) (br (mC .non)) :=
 PS.wk (yY (pos:=pos)) fun D σ H ⟨Z,F,env,fp,S,q⟩=>q F H .non [] S.hp A3 List.nodup_nil (fun _ z=>(nomatch z)) (fun _ z=>(nomatch z))
theorem fQ(he:SE X T W e m)(hs:swapsWith e none pos.line X.env=pure false:=by rfl):SS X T W (.Expr e pos) (gS m) :=
 PS.wk (hZ (pos:=pos) he hs) fun D σ H hz1=>by
  obtain⟨Z,F,env,fp,S,q⟩:=hz1
  unfold gS at q
  refine tE.bind S (fun c e H' x=>?_) (fun e=>by rw[e]at q;exact q) fun pv v H1 F1 f e g r h1 h2 h3=>?_
  ·rw[e]at q
   exact q F H' σ fp (S.grow (Gr.same S.hp.ft x))
  ·rw[e]at q
   exact q F1 H1 σ fp (S.grow g)
mutual
theorem Rel.freeze(hF:∀a,F a->F' a):∀{x:PV}{v:V}{fp:List Addr},(∀a∈fp,F' a)->Rel T F B L H x v fp->Rel T F' B L H (x.mapF Fl.freeze) v []
 | .non,_,_,_,h | .bl _,_,_,_,h | .int _,_,_,_,h | .str _,_,_,_,h=>by unfold Rel at h;simp only[PV.mapF];unfold Rel;exact⟨h.1,rfl⟩
 | .lst f xs,_,fp,hp,h=>by
  unfold Rel at h
  obtain⟨a,vs,fp',e,hl,hr,hf⟩:=h
  simp only[PV.mapF]
  unfold Rel
  cases f with
  | own =>
   obtain rfl:fp=a::fp':=hf
   exact⟨a,vs,[],e,⟨hp a List.mem_cons_self,.inl hl⟩,RelL.freeze hF (fun b hb=>hp b (List.mem_cons_of_mem _ hb)) hr,rfl,rfl⟩
  | frz=>obtain⟨rfl,rfl⟩:=hf;exact⟨a,vs,[],e,⟨hF a hl.1,hl.2⟩,RelL.freeze hF hp hr,rfl,rfl⟩
  | bor | lnt | mod=>obtain⟨rfl,rfl⟩:=hf;exact⟨a,vs,[],e,hl,RelL.freeze hF hp hr,rfl,rfl⟩
 | .tup xs,_,fp,hp,h=>by
  unfold Rel at h
  obtain⟨a,vs,e,hl,hr⟩:=h
  simp only[PV.mapF]
  unfold Rel
  exact⟨a,vs,e,hl,RelL.freeze hF hp hr⟩
 | .obj f c ks xs,_,fp,hp,h=>by
  unfold Rel at h
  obtain⟨a,dx,vs,fp',e,hl,hk,hr,hf,ha⟩:=h
  simp only[PV.mapF]
  unfold Rel
  cases f with
  | own =>
   obtain rfl:fp=a::fp':=hf
   have r:=RelL.freeze hF (fun b hb=>hp b (List.mem_cons_of_mem _ hb)) hr
   exact⟨a,dx,vs,[],e,hl,⟨by rw[r.length,hk.1,hr.length],hk.2⟩,r,⟨rfl,rfl⟩,hp a List.mem_cons_self⟩
  | frz=>obtain⟨rfl,rfl⟩:=hf;have r:=RelL.freeze hF hp hr;exact⟨a,dx,vs,[],e,hl,⟨by rw[r.length,hk.1,hr.length],hk.2⟩,r,⟨rfl,rfl⟩,hF a ha⟩
  | bor | lnt=>obtain⟨rfl,rfl⟩:=hf;have r:=RelL.freeze hF hp hr;exact⟨a,dx,vs,[],e,hl,⟨by rw[r.length,hk.1,hr.length],hk.2⟩,r,⟨rfl,rfl⟩,ha⟩
  | mod=>exact ha.elim
 | .exc c,_,fp,hp,h=>by
  unfold Rel at h
  obtain⟨a,e,hl,rfl⟩:=h
  simp only[PV.mapF]
  unfold Rel
  exact⟨a,e,hl,rfl⟩
theorem RelL.freeze(hF:∀a,F a->F' a):∀{xs:List PV}{vs:List V}{fp:List Addr},(∀a∈fp,F' a)->RelL T F B L H xs vs fp->RelL T F' B L H (mapL Fl.freeze xs) vs []
 | [],_,_,_,h=>by unfold RelL at h;simp only[mapL];unfold RelL;exact⟨h.1,rfl⟩
 | x::xs,_,fp,hp,h=>by
  unfold RelL at h
  obtain⟨v,ws,f1,f2,e,h1,h2,rfl⟩:=h
  simp only[mapL]
  unfold RelL
  exact⟨v,ws,[],[],e,Rel.freeze hF (fun b hb=>hp b (List.mem_append_left _ hb)) h1,RelL.freeze hF (fun b hb=>hp b (List.mem_append_right _ hb)) h2,rfl⟩
end
theorem au.frz(S:au T Z F H σ env fp){i:Nat}{pv:PV}(e:env[i]?=some (some pv)):au T Z (fun a=>F a\/a∈fp i) H σ (env.set i (some (pv.mapF Fl.freeze))) (bD fp i []):=by
 have hi:i < env.length:=(List.getElem?_eq_some_iff.mp e).1
 refine⟨⟨S.hp.bo,S.hp.keep,fun a h=>.inl (S.hp.f0 a h),fun a h=>h.elim (S.hp.fn a) fun z=>.inr (S.new i a z),fun a h=>h.elim (S.hp.ft a) fun z=>(S.dis i a z).2⟩,by rw[List.length_set,S.len],fun j pv' e'=>?_,fun j=>?_,fun j k hjk a ha=>?_,fun j a ha=>?_,fun j a ha=>?_,fun j a ha=>?_,fun w hw=>?_⟩
 ·by_cases hj:j=i
  ·subst hj
   rw[List.getElem?_set_self hi]at e'
   cases e'
   obtain⟨v,h1,h2⟩:=S.rel j pv e
   refine⟨v,h1,?_⟩
   unfold bD
   rw[if_pos rfl]
   exact Rel.freeze (fun _ h=>.inl h) (fun a h=>.inr h) h2
  ·rw[List.getElem?_set_ne (Ne.symm hj)]at e'
   obtain⟨w,h1,h2⟩:=S.rel j pv' e'
   refine⟨w,h1,?_⟩
   unfold bD
   rw[if_neg hj]
   exact h2.ext Ext.refl fun _ h=>.inl h
 ·unfold bD;split
  ·exact List.nodup_nil
  ·exact S.nd j
 ·unfold bD at ha ⊢
  by_cases h1:j=i
  ·rw[if_pos h1]at ha;cases ha
  ·rw[if_neg h1]at ha
   by_cases h2:k=i
   ·rw[if_pos h2];exact fun z=>nomatch z
   ·rw[if_neg h2];exact S.dj j k hjk a ha
 ·unfold bD at ha
  by_cases h1:j=i
  ·rw[if_pos h1]at ha;cases ha
  ·rw[if_neg h1]at ha
   exact⟨fun z=>z.elim (S.dis j a ha).1 fun z=>S.dj j i h1 a ha z,(S.dis j a ha).2⟩
 ·unfold bD at ha
  by_cases h1:j=i
  ·rw[if_pos h1]at ha;cases ha
  ·rw[if_neg h1]at ha;exact S.new j a ha
 ·unfold bD at ha
  by_cases h1:j=i
  ·rw[if_pos h1]at ha;cases ha
  ·rw[if_neg h1]at ha;exact S.ch j a ha
 ·obtain⟨h1,h2⟩:=S.pn w hw
  refine⟨h1,?_⟩
  unfold cF at h2 ⊢
  by_cases hi0:i=0
  ·subst hi0
   rw[e]at h2
   rw[List.getElem?_set_self hi]
   cases pv<;>first | exact h2 |(cases h2;done) | rfl
  ·rw[List.getElem?_set_ne hi0]
   exact h2
theorem ee{i:Nat}{sts:List Stmt}(h:SSs X T W sts m):SSs X T W sts (ar (gA i) m):=PSs.wk h fun D σ H hz1=>by
 obtain⟨Z,F,env,fp,S,q⟩:=hz1
 cases e:env[i]? with
 | none=>simp[ar,gA,e]at q;exact q.elim
 | some w =>
  cases w with
  | none=>simp[ar,gA,e]at q;exact q.elim
  | some pv =>
   simp only[ar,gA,e]at q
   exact⟨Z,_,_,_,S.frz e,q⟩
def Zn.re(Z:Zn)(F:Addr->Prop)(H:Hp)(fp:Nat->List Addr):Zn:=⟨H,F,Own fp,Z.B,Z.pin⟩
theorem au.enter(S:au T Z F H σ env fp):au T (Z.re F H fp) F H σ env fp :=
 ⟨⟨fun a h=>by
   obtain⟨⟨o,h1⟩,h2⟩:=S.hp.bo a h
   refine⟨⟨o,S.hp.keep a o h1 h2⟩,fun⟨i,hi⟩=>?_⟩
   rcases S.new i a hi with z | z
   ·rw[h1]at z;cases z
   ·exact h2 z,fun _ _ h _=>h,fun _ h=>h,fun _ h=>.inl h,S.hp.ft⟩,S.len,S.rel,S.nd,S.dj,S.dis,fun i a ha=>.inr ⟨i,ha⟩,S.ch,S.pn⟩
theorem eW.leave(S:au T Z F H σ env fp)(S':eW T (Z.re F H fp) F' H'):eW T Z F' H' :=
 ⟨S.hp.bo,fun a o h n=>S'.keep a o (S.hp.keep a o h n) fun hz1=>by
   obtain⟨i,hi⟩:=hz1
   rcases S.new i a hi with z | z
   ·rw[h]at z;cases z
   ·exact n z,fun a h=>S'.f0 a (S.hp.f0 a h),fun a h=>by
  rcases S'.fn a h with z | z |⟨i,hi⟩
  ·exact S.hp.fn a z
  ·refine .inr ?_
   by_cases q:Z.fp0 a
   ·exact .inr q
   ·refine .inl ?_
    cases w:Z.H0 a with
    | none=>rfl
    | some o =>
     have z':H a=none:=z
     rw[S.hp.keep a o w q]at z';cases z'
  ·exact .inr (S.new i a hi),S'.ft⟩
theorem au.newL(S:au T Z F H σ env fp)(h:(Z.re F H fp).H0 a=none \/(Z.re F H fp).fp0 a):Z.H0 a=none\/Z.fp0 a:=by
 rcases h with z |⟨i,hi⟩
 ·by_cases q:Z.fp0 a
  ·exact .inr q
  ·refine .inl ?_
   cases w:Z.H0 a with
   | none=>rfl
   | some o =>
    have z':H a=none:=z
    rw[S.hp.keep a o w q]at z';cases z'
 ·exact S.new i a hi
theorem au.leave(S:au T Z F H σ env fp)(S':au T (Z.re F H fp) F' H' σ' env' fp'):au T Z F' H' σ' env' fp' :=
 ⟨eW.leave S S'.hp,S'.len,S'.rel,S'.nd,S'.dj,S'.dis,fun i a ha=>S.newL (S'.new i a ha),S'.ch,S'.pn⟩
abbrev SW(X:Cx)(T:Tb)(W:Nat->St->Hp->Prop)(e:Expr)(m:MT):Prop:=PW X e (tT T W m)
theorem tT.test(h:tT T W (av m) σ H Q):tE T W m σ H fun x H'=>∃k,x=.bl k/\Q k H':=by
 obtain⟨Z,F,env,fp,S,q⟩:=h
 unfold av at q
 refine tE.bind S (fun c e=>by rw[e]at q;exact q) (fun e=>by rw[e]at q;exact q) fun x v H1 F1 f1 e1 g1 r1 n1 d1 w1=>?_
 rw[e1]at q
 cases x with
 | bl b =>
  unfold Rel at r1
  exact⟨b,r1.1,q H1 F1 g1⟩
 | _=>exact q.elim
theorem fg(ho:OpR X (compareOp op) r)(hm:io T W f r)(ha:SE X T W a ma)(hb:SE X T W b mb)(hk:behindInMarks op b=false):ST X T W (.Compare a [op] [b] pos) (av (mOp f ma mb)) :=
 PT.wk (yW (pos:=pos) ho ha hb hk) fun σ H Q h=>by
  obtain⟨Z,F,env,fp,S,q⟩:=tT.test h
  exact tE.mir2 hm ⟨Z,F,env,fp,S,q⟩
theorem pX(h:ST X T W a m):ST X T W (.UnaryOp .Not a pos) (kQ m):=PT.wk (A8 (pos:=pos) h) fun σ H Q hz1=>by
 obtain⟨Z,F,env,fp,S,q⟩:=hz1
 unfold kQ at q
 refine tT.bind S (fun c e=>by rw[e]at q;exact q) (fun e=>by rw[e]at q;exact q) fun b H1 F1 e1 g1=>?_
 rw[e1]at q
 exact q H1 F1 g1
theorem fO(h:ST X T W a m):SW X T W (.BoolOp .And [a] pos) m:=yV h
theorem ff(h:ST X T W a m):SW X T W (.BoolOp .Or [a] pos) m:=A6 h
theorem gF{a_:List Expr}(h:ST X T W a m)(h2:SW X T W (.BoolOp .And (b::a_) pos) n):SW X T W (.BoolOp .And (a::b::a_) pos) (gp m n):=PW.wk (A7 h h2) fun σ H Q hz1=>by
 obtain⟨Z,F,env,fp,S,q⟩:=hz1
 unfold gp at q
 refine tT.bind S (fun c e=>by rw[e]at q;exact q) (fun e=>by rw[e]at q;exact q) fun b H1 F1 e1 g1=>?_
 rw[e1]at q
 cases b with
 | true =>
  refine(if_pos rfl).mpr ⟨Z,F1,env,fp,S.grow g1,?_⟩
  simp only[Res.ok_bind,if_true]at q
  cases e2:n env with
  | ok b=>rw[e2]at q;exact fun H2 F2 g2=>q H2 F2 (g1.trans g2)
  | exc c=>rw[e2]at q;exact fun H' x=>q H' (g1.ext.trans x)
  | stuck=>rw[e2]at q;exact q
 | false=>exact(if_neg (by decide)).mpr (q H1 F1 g1)
theorem iq{a_:List Expr}(h:ST X T W a m)(h2:SW X T W (.BoolOp .Or (b::a_) pos) n):SW X T W (.BoolOp .Or (a::b::a_) pos) (jh m n):=PW.wk (Ee h h2) fun σ H Q hz1=>by
 obtain⟨Z,F,env,fp,S,q⟩:=hz1
 unfold jh at q
 refine tT.bind S (fun c e=>by rw[e]at q;exact q) (fun e=>by rw[e]at q;exact q) fun b H1 F1 e1 g1=>?_
 rw[e1]at q
 cases b with
 | false =>
  refine(if_neg (by decide)).mpr ⟨Z,F1,env,fp,S.grow g1,?_⟩
  simp only[Res.ok_bind,Bool.false_eq_true,if_false]at q
  cases e2:n env with
  | ok b=>rw[e2]at q;exact fun H2 F2 g2=>q H2 F2 (g1.trans g2)
  | exc c=>rw[e2]at q;exact fun H' x=>q H' (g1.ext.trans x)
  | stuck=>rw[e2]at q;exact q
 | true=>exact(if_pos rfl).mpr (q H1 F1 g1)
theorem SW.st(h:SW X T W e m):ST X T W e m:=PW.pt h
theorem dS(hK:X.K=T.K)(h:SE X T W a m)(he:∀whole,isTrue a X.env whole=(do let v <- whole;standAt a.pos;holding [v] (truthy v)):=by intro _;rfl):ST X T W a (dL m):=PT.wk (u9 h he) fun σ H Q hz1=>by
 obtain⟨Z,F,env,fp,S,q⟩:=hz1
 unfold dL at q
 refine tE.bind S (fun c e=>by rw[e]at q;exact q) (fun e=>by rw[e]at q;exact q) fun x v H1 F1 f1 e1 g1 r1 n1 d1 w1=>?_
 rw[e1]at q
 rw[hK]
 cases x with
 | non=>unfold Rel at r1;rw[r1.1];exact⟨false,rfl,q H1 F1 g1⟩
 | bl b=>unfold Rel at r1;rw[r1.1];exact⟨b,rfl,q H1 F1 g1⟩
 | int i=>unfold Rel at r1;rw[r1.1];exact⟨_,rfl,q H1 F1 g1⟩
 | str i=>exact q.elim
 | lst f xs =>
  unfold Rel at r1
  obtain⟨a,vs,fp',rfl,hl,hr,_⟩:=r1
  have hl':SqL T.K H1 a vs:=hl.sq
  have e:(!xs.isEmpty)=!vs.isEmpty:=by
   have:=hr.length
   cases xs<;>cases vs<;>simp_all
  exact⟨_,.inl ⟨vs,hl',rfl⟩,by rw[<- e];exact q H1 F1 g1⟩
 | tup xs =>
  unfold Rel at r1
  obtain⟨a,vs,rfl,hl,hr⟩:=r1
  have e:(!xs.isEmpty)=!vs.isEmpty:=by
   have:=hr.length
   cases xs<;>cases vs<;>simp_all
  exact⟨_,.inr (.inl ⟨vs,hl,rfl⟩),by rw[<- e];exact q H1 F1 g1⟩
 | obj f c ks xs | exc c=>exact q.elim
theorem ox(hc:ST X T W c mc)(ha:SE X T W a ma)(hb:SE X T W b mb):SE X T W (.IfExp c a b pos) (v7 mc ma mb):=PE.wk (vt (pos:=pos) hc ha hb) fun σ H Q hz1=>by
 obtain⟨Z,F,env,fp,S,q⟩:=hz1
 unfold v7 at q
 refine tT.bind S (fun c e=>by rw[e]at q;exact q) (fun e=>by rw[e]at q;exact q) fun b H1 F1 e1 g1=>?_
 rw[e1]at q
 have lift:∀m:ME,GE T W Z.B F (Own fp) σ H Q (m env)->tE T W m σ H1 Q:=fun m q=>by
  refine⟨Z,F1,env,fp,S.grow g1,?_⟩
  cases e2:m env with
  | ok b=>rw[e2]at q;exact fun v H2 F2 f g2 r n d w=>q v H2 F2 f (g1.trans g2) r n d fun a ha=>g1.ext.free (w a ha)
  | exc c=>rw[e2]at q;exact fun H' x=>q H' (g1.ext.trans x)
  | stuck=>rw[e2]at q;exact q
 cases b with
 | true=>exact(if_pos rfl).mpr (lift ma q)
 | false=>exact(if_neg (by decide)).mpr (lift mb q)
def rZ(a:ME):ME:=fun env=>(a env).bind fun
 | .bl b=>.ok (.bl (!b))
 | _=>.stuck
def j5(a b:ME):ME:=fun env=>(a env).bind fun
 | .bl true=>b env
 | .bl false=>.ok (.bl false)
 | _=>.stuck
def tY(a b:ME):ME:=fun env=>(a env).bind fun
 | .bl false=>b env
 | .bl true=>.ok (.bl true)
 | _=>.stuck
theorem AV(ha:SE X T W a ma):SE X T W (.UnaryOp .Not a pos) (rZ ma):=PE.wk (Bg (pos:=pos) ha) fun σ H Q hz1=>by
 obtain⟨Z,F,env,fp,S,q⟩:=hz1
 unfold rZ at q
 refine tE.bind S (fun c e=>by rw[e]at q;exact q) (fun e=>by rw[e]at q;exact q) fun x v H1 F1 f1 e1 g1 r1 n1 d1 w1=>?_
 rw[e1]at q
 cases x with
 | bl b=>unfold Rel at r1;exact⟨b,r1.1,q.scal g1 i8⟩
 | _=>exact q.elim
theorem mW(ha:SE X T W a ma):SE X T W (.BoolOp op [a] pos) ma:=Bf ha
theorem tE.later(S:au T Z F H σ env fp)(g1:Gr F H F' H')(q:GE T W Z.B F (Own fp) σ H Q (m env)):tE T W m σ H' Q:=by
 refine⟨Z,F',env,fp,S.grow g1,?_⟩
 cases e2:m env with
 | ok b=>rw[e2]at q;exact fun v H2 F2 f g2 r n d w=>q v H2 F2 f (g1.trans g2) r n d fun a ha=>g1.ext.free (w a ha)
 | exc c=>rw[e2]at q;exact fun H' x=>q H' (g1.ext.trans x)
 | stuck=>rw[e2]at q;exact q
theorem qf{a_:List Expr}(ha:SE X T W a ma)(hb:SE X T W (.BoolOp .And (b::a_) pos) mb):SE X T W (.BoolOp .And (a::b::a_) pos) (j5 ma mb):=PE.wk (Bm ha hb) fun σ H Q hz1=>by
 obtain⟨Z,F,env,fp,S,q⟩:=hz1
 unfold j5 at q
 refine tE.bind S (fun c e=>by rw[e]at q;exact q) (fun e=>by rw[e]at q;exact q) fun x v H1 F1 f1 e1 g1 r1 n1 d1 w1=>?_
 rw[e1]at q
 cases x with
 | bl b =>
  unfold Rel at r1
  refine⟨b,r1.1,?_⟩
  cases b with
  | true=>exact(if_pos rfl).mpr (tE.later S g1 q)
  | false=>exact(if_neg (by decide)).mpr (q.scal g1 i8)
 | _=>exact q.elim
theorem D7{a_:List Expr}(ha:SE X T W a ma)(hb:SE X T W (.BoolOp .Or (b::a_) pos) mb):SE X T W (.BoolOp .Or (a::b::a_) pos) (tY ma mb):=PE.wk (Ei ha hb) fun σ H Q hz1=>by
 obtain⟨Z,F,env,fp,S,q⟩:=hz1
 unfold tY at q
 refine tE.bind S (fun c e=>by rw[e]at q;exact q) (fun e=>by rw[e]at q;exact q) fun x v H1 F1 f1 e1 g1 r1 n1 d1 w1=>?_
 rw[e1]at q
 cases x with
 | bl b =>
  unfold Rel at r1
  refine⟨b,r1.1,?_⟩
  cases b with
  | false=>exact(if_neg (by decide)).mpr (tE.later S g1 q)
  | true=>exact(if_pos rfl).mpr (q.scal g1 i8)
 | _=>exact q.elim
def FB(T:Tb)(W:Nat->St->Hp->Prop)(f:PV->Res PV)(r:V->Hp->VK->Prop):Prop :=
 ∀(B F L:Addr->Prop) (σ:St) (H:Hp) (Q:VK) (F':Addr->Prop) (H':Hp) (x:PV) (v:V) (fx:List Addr),Gr F H F' H'->Rel T F' B L H' x v fx->(∀a∈fx,¬F' a)->fx.Nodup->(∀a∈fx,H a=none)->GE T W B F L σ H Q (f x)->r v H' Q
theorem tE.mir1(hm:FB T W f r)(h:tE T W (mUn f m) σ H Q):tUn r (tE T W m) σ H Q:=by
 obtain⟨Z,F,env,fp,S,q⟩:=h
 unfold mUn at q
 refine tE.bind S (fun c e=>by rw[e]at q;exact q) (fun e=>by rw[e]at q;exact q) fun x v H1 F1 f1 e1 g1 r1 n1 d1 w1=>?_
 rw[e1]at q
 exact hm Z.B F (Own fp) σ H Q F1 H1 x v f1 g1 r1 n1 d1 w1 q
def GJ:PV->Res PV
 | .int i=>.ok (.int (-i))
 | _=>.stuck
def aV(k:Nat):List Nat->List PV->Option PV
 | j::ks,v::vs=>if j=k then some v else aV k ks vs
 | _,_=>none
def Fl.isOwn:Fl->Bool
 | .own=>true
 | _=>false
def ao(k:Nat):PV->Res PV
 | .obj f _ ks vs=>match aV k ks vs with
  | some v=>if f.isOwn&&v.has Fl.isOwn then .stuck else .ok v
  | none=>.stuck
 | _=>.stuck
mutual
theorem Rel.noOwn:∀{x:PV}{v:V}{fp:List Addr},x.has Fl.isOwn=false->Rel T F B L H x v fp->fp=[]
 | .non,_,_,_,h | .bl _,_,_,_,h | .int _,_,_,_,h | .str _,_,_,_,h=>by unfold Rel at h;exact h.2
 | .lst f xs,_,fp,hp,h=>by
  unfold Rel at h
  simp only[PV.has,Bool.or_eq_false_iff]at hp
  obtain⟨a,vs,fp',e,hl,hr,hf⟩:=h
  cases f with
  | own=>exact absurd hp.1 (by decide)
  | frz | bor | lnt | mod=>exact hf.2
 | .tup xs,_,fp,hp,h=>by
  unfold Rel at h
  simp only[PV.has]at hp
  obtain⟨a,vs,e,hl,hr⟩:=h
  exact RelL.noOwn hp hr
 | .obj f c ks xs,_,fp,hp,h=>by
  unfold Rel at h
  simp only[PV.has,Bool.or_eq_false_iff]at hp
  obtain⟨a,dx,vs,fp',e,hl,hk,hr,hf,ha⟩:=h
  cases f with
  | own=>exact absurd hp.1 (by decide)
  | frz | bor | lnt | mod=>exact hf.2
 | .exc c,_,fp,hp,h=>by
  unfold Rel at h
  obtain⟨a,_,_,e⟩:=h
  exact e
theorem RelL.noOwn:∀{xs:List PV}{vs:List V}{fp:List Addr},hasL Fl.isOwn xs=false->RelL T F B L H xs vs fp->fp=[]
 | [],_,_,_,h=>by unfold RelL at h;exact h.2
 | x::xs,_,fp,hp,h=>by
  unfold RelL at h
  simp only[hasL,Bool.or_eq_false_iff]at hp
  obtain⟨v,ws,f1,f2,e,h1,h2,rfl⟩:=h
  rw[Rel.noOwn hp.1 h1,RelL.noOwn hp.2 h2]
  rfl
end
theorem RelL.get:∀{xs:List PV}{vs:List V}{fp:List Addr}{i:Nat}{x:PV},RelL T F B L H xs vs fp->xs[i]?=some x->∃v f,vs[i]?=some v/\Rel T F B L H x v f/\f.Sublist fp
 | [],_,_,_,_,_,e=>by simp at e
 | y::xs,_,fp,0,x,h,e=>by
  unfold RelL at h
  obtain⟨v,ws,f1,f2,rfl,h1,h2,rfl⟩:=h
  simp at e
  subst e
  exact⟨v,f1,by simp,h1,List.sublist_append_left _ _⟩
 | y::xs,_,fp,i+1,x,h,e=>by
  unfold RelL at h
  obtain⟨v,ws,f1,f2,rfl,h1,h2,rfl⟩:=h
  obtain⟨w,f,e1,r,s⟩:=RelL.get (i:=i) h2 (by simpa using e)
  exact⟨w,f,by simpa using e1,r,s.trans (List.sublist_append_right _ _)⟩
theorem pd:∀{ks:List Nat}{xs:List PV}{vs:List V}{fp:List Addr}{x:PV},RelL T F B L H xs vs fp->aV k ks xs=some x->∃v f,((ks.map T.att).zip vs).lookup (T.att k)=some v/\Rel T F B L H x v f/\f.Sublist fp
 | [],_,_,_,_,_,e | j::ks,[],_,_,_,_,e=>by simp[aV]at e
 | j::ks,y::xs,_,fp,x,h,e=>by
  unfold RelL at h
  obtain⟨v,ws,f1,f2,rfl,h1,h2,rfl⟩:=h
  unfold aV at e
  by_cases hj:j=k
  ·rw[if_pos hj]at e
   cases e
   subst hj
   exact⟨v,f1,by simp,h1,List.sublist_append_left _ _⟩
  ·rw[if_neg hj]at e
   obtain⟨w,f,e1,r,s⟩:=pd (ks:=ks) h2 e
   refine⟨w,f,?_,r,s.trans (List.sublist_append_right _ _)⟩
   have:(T.att k==T.att j)=false:=by
    rw[beq_eq_false_iff_ne]
    exact fun z=>hj (T.inj _ _ z).symm
   rw[List.map_cons,List.zip_cons_cons,List.lookup_cons,this]
   exact e1
theorem yn(hK:X.K=T.K)(hf:T.att k=f)(hc:∀c < T.nc,Cls T.K (T.cls c))(hn:∀c < T.nc,eD T.K (T.cls c) f)(h:tE T W (mUn (ao k) m) σ H Q):D1 X.K (tE T W m) f σ H Q:=by
 obtain⟨Z,F,env,fp,S,q⟩:=h
 unfold mUn at q
 refine tE.bind S (fun c e=>by rw[e]at q;exact q) (fun e=>by rw[e]at q;exact q) fun x v H1 F1 f1 e1 g1 r1 n1 d1 w1=>?_
 rw[e1]at q
 cases x with
 | obj fl c ks xs =>
  simp only[Res.ok_bind,ao]at q
  cases e2:aV k ks xs with
  | none=>rw[e2]at q;exact q.elim
  | some y =>
   rw[e2]at q
   dsimp only at q
   unfold Rel at r1
   obtain⟨a,dx,vs,fp',rfl,hl,hk,hr,hfl,_⟩:=r1
   obtain⟨w,f',l1,l2,l3⟩:=pd hr e2
   have e0:f'=[]:=by
    cases fl with
    | own =>
     simp only[Fl.isOwn,Bool.true_and]at q
     by_cases ho:y.has Fl.isOwn=true
     ·rw[if_pos ho]at q;exact q.elim
     ·exact Rel.noOwn (by simpa using ho) l2
    | frz | bor | lnt | mod=>obtain⟨rfl,_⟩:=hfl;exact List.sublist_nil.mp l3
   subst e0
   by_cases hb:(fl.isOwn&&y.has Fl.isOwn)=true
   ·rw[if_pos hb]at q;exact q.elim
   ·rw[if_neg hb]at q
    rw[hK]
    exact⟨a,_,dx,_,w,rfl,hl,hc c hk.2,hn c hk.2,by rw[<- hf];exact l1,q.scal g1 l2⟩
 | _=>exact q.elim
theorem yE(hK:X.K=T.K)(hf:T.att k=f)(hc:∀c < T.nc,Cls T.K (T.cls c))(hn:∀c < T.nc,eD T.K (T.cls c) f)(he:SE X T W e m)(hb:attributeBase e f X.env (eval e X.env)=eval e X.env:=by rfl) :
  SE X T W (.Attribute e f pos) (mUn (ao k) m):=PE.wk (Bk (pos:=pos) he hb) fun σ H Q h=>yn hK hf hc hn h
end
end PR
namespace L2
open PySem PySem.Spec
theorem dg.there(x:dg P w H h a o):∃u,h.get? a=some u:=by
 cases o with
 | lst xs=>obtain⟨_,_,_,_,e⟩:=x;exact⟨_,e⟩
 | tup xs=>obtain⟨_,_,_,o,e,_⟩:=x;exact⟨_,e⟩
 | dK kvs | dT kvs=>obtain⟨_,_,_,_,o,_,_,e,_⟩:=x;exact⟨_,e⟩
 | set S n=>obtain⟨o,_,_,_,e,_⟩:=x;exact⟨_,e⟩
 | ins C dx fs=>obtain⟨_,_,_,e,_⟩:=x;exact⟨_,e⟩
 | own y=>exact x
 | xd fs=>obtain⟨_,⟨_,_,_,e,_⟩,_⟩:=x;exact⟨_,e⟩
 | rng lo hi=>obtain⟨_,_,_,e⟩:=x;exact⟨_,e⟩
 | frz ob u=>obtain⟨e,_⟩:=x;exact⟨_,e⟩
 | tbl ps | met f y=>exact⟨_,(show h.get? a=some _ from x)⟩
 | ext φ=>obtain⟨_,q,_⟩:=x;exact q
end L2
namespace PR
open PySem PySem.Spec L2
structure Fly(P:Program)(w:World)(outer:List Env)(H:Hp)(s:Shared)(cls:Value)(H':Hp)(e:Value)(s':Shared):Prop where
 os:s'.os=s.os
 bare:PyProof.Rows.AllBare s'.gens
 un:Un (frs outer) [] H H' s.heap s'.heap
 hok:HOk P w H' s'.heap
 fly:∃x a0 Bh,e=.ref x/\Heap.FlyingW Bh outer x cls a0 s'.heap/\(∀b o u,H' b=some u->s'.heap.get? b=some o->Bh.get? b=some o)/\
  (∀b o o',s'.heap.get? b=some o->s.heap.get? b=some o'->b∉frs outer->Bh.get? b=some o)
def CXP(P:Program)(w:World):CXT:=fun outer H s E e s'=>∃cls H',Fly P w outer H s cls H' e s'/\E cls none H'
def XF(X:Cx)(T:Tb)(W:Nat->St->Hp->Prop):Prop:=∀(pins:List (Addr×Obj)) (σ:St) (H:Hp) (s:Shared) (c:Nat) (H':Hp) (e:Value) (s':Shared),L2.Inv X pins σ H s->Fly X.prog X.w X.stack H s (.ref (T.xcl c)) H' e s'->W c σ H'->X.xe e s'
def XM(X:Cx)(T:Tb)(W:Nat->St->Hp->Prop):Prop:=∀(pins:List (Addr×Obj)) (σ:St) (H:Hp) (s:Shared) (c:Nat) (h':Heap) (e:Addr) (vs:List Value),L2.Inv X pins σ H s->Heap.MadeExcOf s.heap h' e (.ref (T.xcl c)) vs->W c σ H->X.xe (.ref e) { s with heap:=h' }
section
variable{P:Program}{w:World}{K:PySem.W.Frag}{mg:Str->Option Value}{base:Heap}{N:List Str}{qual:Str}{scope:Scope}{f:Addr}{cd:Value}{A:Around}{outer:List Env}{s:Shared}{H:Hp}{E:XK}
theorem zK{H:Hp}{h h' Bh:Heap}(ok:HOk P w H h)(k:∀b o u,H b=some u->h.get? b=some o->Bh.get? b=some o)(st:Bh.StaysIn h'):HOk P w H h':=fun a o e =>
 (ok a o e).stay (fun b u hb q=>by
  rcases hb with rfl | hb
  ·exact st _ _ (k b u _ e q)
  ·exact st _ _ (k b u _ hb q)) (fun _ q=>q) fun _ _ q=>q
theorem l_(I:L2.Inv X pins σ H1 s1)(hst:X.stack=X.env::X.outer)(hex:X.ex=[])(hfrm:X.env.frame=some X.env.locals)
  (hos:os2=s1.os) (hb:PyProof.Rows.AllBare g2) (u2:Un (frs X.stack) [] H1 H2 s1.heap h2) (ok:HOk X.prog X.w H2 h2) (tr:∀b o u,H2 b=some u->h2.get? b=some o->Bh.get? b=some o)
  (ol:∀b o o',h2.get? b=some o->s1.heap.get? b=some o'->b∉frs X.stack->Bh.get? b=some o) (fl:Heap.FlyingW Bh X.outer x cls a0 h') (up:h2.UpToSlots h') :
  Fly X.prog X.w X.outer X.H₀ X.s₀ cls H2 (.ref x) ⟨h',g2,d2,t2,os2⟩:=by
 have u1:=I.base
 rw[hex]at u1
 have hfs:frs X.stack=X.env.locals::frs X.outer:=by
  rw[hst]
  show List.filterMap _ _=_
  rw[List.filterMap_cons,hfrm]
  rfl
 have u:Un (frs X.stack) [] X.H₀ H2 X.s₀.heap h2:=(u1.mono (fun b hb=>by rw[hfs];exact List.mem_cons_of_mem _ hb) fun _ z=>z).trans u2
 have neL:∀b o,X.s₀.heap.get? b=some o->b≠X.env.locals:=fun b o e=>Nat.ne_of_lt (Nat.lt_of_lt_of_le (Heap.lt_size e) I.ok.above)
 have nst:∀b o,X.s₀.heap.get? b=some o->b∉frs X.outer->b∉frs X.stack:=fun b o e hn hb=>by
  rw[hfs]at hb
  rcases List.mem_cons.mp hb with z | z
  ·exact neL b o e z
  ·exact hn z
 have data:∀b o,X.s₀.heap.get? b=some o->b∈frs X.outer->∀vs,o.data≠.fields vs:=fun b o e hb vs z=>by
  obtain⟨_,o',ho',hd'⟩:=I.ok.funs.mem hb
  rw[e]at ho'
  cases ho'
  exact hd' vs z
 refine⟨hos.trans I.os,hb,⟨fun b o e n hf _=>?_,fun b o e n hf _=>?_,u.free,fun b o e _=>?_,u.tups,u.frzs,u.tbls⟩,zK ok tr fl.1,⟨x,a0,Bh,rfl,fl,fun b o v e q=>?_,fun b o o' e q hf=>?_⟩⟩
 ·have q:=u.keep b o e n (nst b o e hf) (by simp)
  obtain⟨o1,e1⟩:=u1.there b o e (by simp)
  exact fl.1 b o (ol b o o1 q e1 (nst b o e hf))
 ·obtain⟨sl,q⟩:=u.slot b o e n (by rw[hfs];exact List.mem_cons_of_mem _ hf) (by simp)
  obtain⟨sl',q'⟩:=up b _ q (data b o e hf)
  exact⟨sl',q'⟩
 ·by_cases hf:b∈frs X.outer
  ·obtain⟨_,o2,ho2,_⟩:=fl.2.2.1.mem hf
   exact⟨o2,ho2⟩
  ·obtain⟨o1,e1⟩:=u1.there b o e (by simp)
   obtain⟨o2,e2⟩:=u2.there b o1 e1 (by simp)
   exact⟨o2,fl.1 b o2 (ol b o2 o1 e2 e1 (nst b o e hf))⟩
 ·have hlt:=ok.lt e
  obtain⟨o2,e2⟩:∃o2,h2.get? b=some o2:=by
   have x:=ok b v e
   exact dg.there x
  have:=fl.1 b o2 (tr b o2 v e e2)
  rw[q]at this
  cases this
  exact tr b o v e e2
 ·obtain⟨o1,e1⟩:=u1.there b o' q (by simp)
  obtain⟨o2,e2⟩:=u2.there b o1 e1 (by simp)
  have hB:=ol b o2 o1 e2 e1 (nst b o' q hf)
  have:=fl.1 b o2 hB
  rw[e]at this
  cases this
  exact hB
variable{T:Tb}
abbrev WD(T:Tb)(E:XK):Nat->St->Hp->Prop:=fun c _ H=>E (.ref (T.xcl c)) none H
theorem AE:XF (d8 (CXP P w) P w K mg base N qual scope f cd A outer s H E) T (WD T E):=by
 intro pins σ H1 s1 c H2 e s2 I fl hW
 obtain⟨x,a0,Bh,rfl,fly,tr,ol⟩:=fl.fly
 refine wpAny_leaves_onW (L:=s.heap.objs.size) I.ok.frames rfl fly fun h' fly' up=>?_
 obtain⟨h2,g2,d2,t2,os2⟩:=s2
 exact⟨_,H2,l_ I rfl rfl rfl fl.os fl.bare fl.un fl.hok tr ol fly' up,hW⟩
theorem bX:XM (d8 (CXP P w) P w K mg base N qual scope f cd A outer s H E) T (WD T E):=by
 intro pins σ H1 s1 c h2 e vs I mx hW
 have hin:∀env ∈(d8 (CXP P w) P w K mg base N qual scope f cd A outer s H E).stack,∀b,env.frame=some b->b∈frs (d8 (CXP P w) P w K mg base N qual scope f cd A outer s H E).stack:=fun env he b hb=>List.mem_filterMap.mpr ⟨env,he,hb⟩
 refine wpAny_leaves_madeW (base:=PySem.W.hideAll s1.heap (frs (d8 (CXP P w) P w K mg base N qual scope f cd A outer s H E).stack)) (h:=s1.heap) (L:=s.heap.objs.size) I.ok.frames rfl (fun b o q=>PySem.W.of_hideAll _ q) (PySem.W.funFrames_hide I.stack hin) mx fun h' t fly' _ _ up=>?_
 obtain⟨h1,g1,d1,t1,os1⟩:=s1
 have fresh:∀b o,h1.get? b=some o->h2.get? b=some o:=mx.keeps
 have nfr:∀b u,H1 b=some u->b∉frs (d8 (CXP P w) P w K mg base N qual scope f cd A outer s H E).stack:=fun b u e hb=>by
  rw[I.stkFree b hb]at e;cases e
 refine⟨_,H1,l_ I rfl rfl rfl rfl I.bare (h2:=h2) (Bh:=PySem.W.hideAll h1 (frs (d8 (CXP P w) P w K mg base N qual scope f cd A outer s H E).stack)) (Un.kept fresh) (I.hok.kept fresh) (fun b o u e q=>?_) (fun b o o' e q hb=>?_) fly' up,hW⟩
 ·obtain⟨o1,e1⟩:=dg.there (I.hok b u e)
  have:=fresh b o1 e1
  rw[q]at this;cases this
  exact PySem.W.hideAll_get _ e1 (nfr b u e)
 ·have:=fresh b o' q
  rw[e]at this;cases this
  exact PySem.W.hideAll_get _ q hb
end
structure Hd(X:Cx)(x:Str)(C:Addr):Prop where
 bm:X.mg x=some (.ref C)
 obj:∃bm N nm q bs hdct sn sub ab col dd k0 k1 k2 k3 k5 mN,X.base.get? C=some (excClassObj nm q C N bs bm hdct sn sub ab col dd k0 k1 k2 k3 k5 "ValueError.__new__")/\X.base.Ns N mN/\mN "__init__" = none /\
  OwnTail X.base [.type "ValueError", .type "Exception", .type "BaseException", .type "object"] bm
section
variable{X:Cx}{T:Tb}{W:Nat->St->Hp->Prop}
theorem uK(O:Hd X x (T.xcl c))(hx:XM X T W)(hc:X.calm=true)(hg:Gl X x)(ha:SA X T W (e::es) ms)(hne:∀env pvs,ms env=.ok pvs->pvs.length<=100)(hd:(x ==("__debug__" : Str))=false:=by decide)
  (he:starEach (e::es) X.env=(false,eval e X.env)::starEach es X.env:=by rfl) (hpl:(backTo cpos (starEach es X.env)).any (·.1)=false:=by rfl) :
  SS X T W (.Raise (some (.Call (.Name x np) (e::es) [] cpos)) none pos) (fun env=>match ms env with
   | .ok _=>.exc c env
   | .exc k=>.exc k env
   | .stuck=>.stuck):=by
 intro pins s σ H D I h
 obtain⟨Z,F,env,fp,S,q⟩:=h
 dsimp only at q
 obtain⟨tl,N,nm,qn,bs,hdct,sn,sub,ab,col,dd,k0,k1,k2,k3,k5,mN,hC,hN,hni,TL⟩:=O.obj
 refine wpAny_Raise_call_subT (C:=T.xcl c) (nm:=nm) (q:=qn) (N:=N) (bs:=bs) (bm:=tl) (hdct:=hdct) (sn:=sn) (sub:=sub) (ab:=ab) (col:=col) (dd:=dd) (k0:=k0) (k1:=k1) (k2:=k2) (k3:=k3) (k5:=k5)
  PySem.F.excBase_ValueError (mN:=mN) (TL.hasType PySem.F.excBase_ValueError.hasBase) (I.ok.hd hc) (by rw[he];show(false ||(backTo cpos (starEach es X.env)).any (·.1))=false;rw[hpl];rfl) hni (jq I hg O.bm ⟨rfl,?_⟩ hd)
 have h2:=ha cpos pins s σ H (fun vs H'=>vs.length <= 100/\W c σ H') I (tA.bind S (fun k e H' x=>by rw [e] at q;exact q F H' σ fp (S.grow (Gr.same S.hp.ft x))) (fun e=>by rw [e] at q;exact q) fun pvs vs H' F' f e g r _ _ _=>by
  rw[e]at q
  exact⟨by rw[<- r.length];exact hne env pvs e,q F' H' σ fp (S.grow g)⟩)
 rw[he]at h2 ⊢
 refine Calls.evalArgs_plain (wpAny_mono h2 (fun vs s₂ h₂=>?_) fun _ _ y=>y)
 obtain⟨vs',H',I2,rv,hl,hw⟩:=h₂
 refine⟨rfl,?_,I2.bk _ _ hC,hN.keeps I2.bk,TL.keeps I2.bk,fun h' e' mx=>hx pins σ H' s₂ c h' e' vs I2 mx hw⟩
 rw[<- rv.length,sizeLine_eq]
 omega
end
def aO(m:List PV->Res PV)(xs:List PV):Res PV:=match m (mapL Fl.toBor xs)with
 | .ok v=>if v.has Fl.isBor then .stuck else .ok v
 | .exc c=>.exc c
 | .stuck=>.stuck
def a5(n:Nat)(m:MS)(args:List PV):Res PV:=match m (args.map some++List.replicate (n - args.length) none)with
 | .next _=>.ok .non
 | .ret v=>.ok v
 | .exc c _=>.exc c
 | _=>.stuck
def GF(T:Tb)(Z:Zn)(Q:VK)(E:XK):Res PV->Prop
 | .ok pv=>∀F H v f,eW T Z F H->Rel T F Z.B NoL H pv v f->f.Nodup->(∀a∈f,¬F a)->(∀a∈f,Z.H0 a=none\/Z.fp0 a)->Q v H
 | .exc c=>∀H,(∀a o,Z.H0 a=some o->¬Z.fp0 a->H a=some o)->E (.ref (T.xcl c)) none H
 | .stuck=>False
structure uv(T:Tb)(F B:Addr->Prop)(H:Hp)(pvs:List PV)(vs:List V)(f:List Addr):Prop where
 rel:RelL T F B NoL H pvs vs f
 nd:f.Nodup
 nf:∀a∈f,¬F a
 bo:∀a,B a->(∃o,H a=some o)/\a∉f
 ft:∀a,F a->∃o,H a=some o
def spM(T:Tb)(n:Nat)(m:List PV->Res PV):Sp:=fun vs H Q E=>vs.length=n/\∃pvs F B f,uv T F B H pvs vs f/\GF T ⟨H,F,(·∈f),B,none⟩ Q E (m pvs)
theorem RelL.split:∀{xs:List PV}{vs:List V}{f:List Addr},RelL T F B L H xs vs f->f.Nodup ->
  ∃g:Nat->List Addr,(∀(i:Nat) x v,xs[i]?=some x->vs[i]?=some v->Rel T F B L H x v (g i))/\(∀i,(g i).Nodup)/\(∀i j,i≠j->∀a∈g i,a∉g j)/\∀i a,a∈g i->a∈f
 | [],_,_,_,_=>⟨fun _=>[],fun i x v e=>by simp at e,fun _=>List.nodup_nil,fun _ _ _ _ z=>(nomatch z),fun _ _ z=>(nomatch z)⟩
 | x::xs,_,_,h,nd=>by
  unfold RelL at h
  obtain⟨v,ws,f1,f2,rfl,h1,h2,rfl⟩:=h
  obtain⟨n1,n2,n3⟩:=List.nodup_append.mp nd
  obtain⟨g,g1,g2,g3,g4⟩:=RelL.split h2 n2
  refine⟨fun i=>match i with | 0=>f1 | j+1=>g j,fun i y u e1 e2=>?_,fun i=>?_,fun i j hij a ha=>?_,fun i a ha=>?_⟩
  ·cases i with
   | zero=>simp at e1 e2;subst e1 e2;exact h1
   | succ i=>exact g1 i y u (by simpa using e1) (by simpa using e2)
  ·cases i with
   | zero=>exact n1
   | succ i=>exact g2 i
  ·cases i with
   | zero =>
    cases j with
    | zero=>exact absurd rfl hij
    | succ j=>exact fun z=>n3 a ha a (g4 j a z) rfl
   | succ i =>
    cases j with
    | zero=>exact fun z=>n3 a z a (g4 i a ha) rfl
    | succ j=>exact g3 i j (fun z=>hij (by rw[z])) a ha
  ·cases i with
   | zero=>exact List.mem_append_left _ ha
   | succ i=>exact List.mem_append_right _ (g4 i a ha)
section
variable{P:Program}{w:World}{K:PySem.W.Frag}{mg:Str->Option Value}{base:Heap}{T:Tb}
theorem jU(N:List Str)(R:uv T F B H pvs vs f)(pin:Option V)(hpin:∀v,pin=some v->vs[0]?=some v/\∃fl c ks xs,pvs[0]?=some (.obj fl c ks xs)) :
  ∃fp,au T ⟨H,F,(·∈f),B,pin⟩ F H (L2.start N vs) (pvs.map some++List.replicate (N.length - pvs.length) none) fp:=by
 obtain⟨g,g1,g2,g3,g4⟩:=R.rel.split R.nd
 have hl:=R.rel.length
 refine⟨g,⟨R.bo,fun _ _ h _=>h,fun _ h=>h,fun _ h=>.inl h,R.ft⟩,?_,fun i pv e=>?_,g2,g3,fun i a ha=>⟨R.nf a (g4 i a ha),R.rel.there a (g4 i a ha)⟩,fun i a ha=>.inr (g4 i a ha),fun i a ha=>R.rel.chg a (g4 i a ha),fun v hv=>?_⟩
 ·unfold L2.start
  simp[hl]
 ·by_cases hi:i < pvs.length
  ·rw[List.getElem?_append_left (by simpa using hi),List.getElem?_map]at e
   obtain⟨x,e1,e2⟩:=Option.map_eq_some_iff.mp e
   cases e2
   obtain⟨v,_,ev,_⟩:=R.rel.get e1
   refine⟨v,?_,g1 i pv v e1 ev⟩
   unfold L2.start
   rw[List.getElem?_append_left (by simpa[<- hl]using hi),List.getElem?_map,ev]
   rfl
  ·rw[List.getElem?_append_right (by simpa using hi),List.getElem?_replicate]at e
   split at e<;>cases e
 ·obtain⟨h1,fl,c,ks,xs,h2⟩:=hpin v hv
  have hl0:0 < vs.length:=(List.getElem?_eq_some_iff.mp h1).1
  have hp0:0 < pvs.length:=(List.getElem?_eq_some_iff.mp h2).1
  unfold L2.start cF
  rw[List.getElem?_append_left (by simpa using hl0),List.getElem?_append_left (by simpa using hp0),List.getElem?_map,List.getElem?_map,h1,h2]
  exact⟨rfl,rfl⟩
theorem Fp(F:Fun K x qual st f fd)(S:cR N ps (ax st))
  (body:∀ (cdv:Value) (A:Around) (outer:List Env) (s:Shared) (H:Hp) (E:XK),dC k (A.deeper (PyProof.Rows.envOfC qual (ax st) s.heap.objs.size f cdv)) ->
   SSs (d8 (CXP P w) P w K mg base N qual (ax st) f cdv A outer s H E) T (WD T E) (bG st) m):cN P w K mg base (CXP P w) (k+1) f fd ps (spM T ps.length (a5 N.length m)):=by
 obtain⟨oc,od,kV,doc,pm,an,cdv,ct,osl,rfl,lk,hcd⟩:=F.ex
 refine sg lk hcd S (fun vs H Q E h=>h.1) fun A outer s H vs Q E hr hsp=>⟨_,body cdv A outer s H E hr,?_⟩
 obtain⟨_,pvs,F,B,fl,R,q⟩:=hsp
 obtain⟨fp,S0⟩:=jU N R none (fun _ h=>nomatch h)
 refine⟨_,F,_,fp,S0,?_⟩
 unfold a5 at q
 cases e:m (pvs.map some++List.replicate (N.length - pvs.length) none)with
 | next e'=>rw[e]at q;exact fun F' H' σ' fp' S'=>q F' H' .non [] S'.hp A3 List.nodup_nil (fun _ z=>(nomatch z)) (fun _ z=>(nomatch z))
 | ret v=>rw[e]at q;exact q
 | brk e' | cont e'=>rw[e]at q;exact q.elim
 | exc c e'=>rw[e]at q;exact fun F' H' σ' fp' S'=>q H' S'.hp.keep
 | stuck=>rw[e]at q;exact q.elim
end
mutual
theorem Rel.toBor(hB:∀a,B a->B' a)(hL:∀a,L a->B' a):∀{x:PV}{v:V}{fp:List Addr},Rel T F B L H x v fp->Rel T F B' L' H (x.mapF Fl.toBor) v fp
 | .non,_,_,h | .bl _,_,_,h | .int _,_,_,h | .str _,_,_,h=>by unfold Rel at h;simp only[PV.mapF];unfold Rel;exact h
 | .lst f xs,_,fp,h=>by
  unfold Rel at h
  obtain⟨a,vs,fp',e,hl,hr,hf⟩:=h
  simp only[PV.mapF]
  unfold Rel
  cases f with
  | own | frz=>exact⟨a,vs,fp',e,hl,RelL.toBor hB hL hr,hf⟩
  | bor=>exact⟨a,vs,fp',e,⟨hB a hl.1,hl.2⟩,RelL.toBor hB hL hr,hf⟩
  | lnt=>exact⟨a,vs,fp',e,⟨hL a hl.1,.inl hl.2⟩,RelL.toBor hB hL hr,hf⟩
  | mod=>exact⟨a,vs,fp',e,hl,RelL.toBor hB hL hr,hf⟩
 | .tup xs,_,fp,h=>by
  unfold Rel at h
  obtain⟨a,vs,e,hl,hr⟩:=h
  simp only[PV.mapF]
  unfold Rel
  exact⟨a,vs,e,hl,RelL.toBor hB hL hr⟩
 | .obj f c ks xs,_,fp,h=>by
  unfold Rel at h
  obtain⟨a,dx,vs,fp',e,hl,hk,hr,hf,ha⟩:=h
  simp only[PV.mapF]
  unfold Rel
  have r:=RelL.toBor hB hL (L':=L') hr
  have hk':ks.length=(mapL Fl.toBor xs).length/\c < T.nc:=⟨by rw[r.length,hk.1,hr.length],hk.2⟩
  cases f with
  | own | frz=>exact⟨a,dx,vs,fp',e,hl,hk',r,hf,ha⟩
  | bor=>exact⟨a,dx,vs,fp',e,hl,hk',r,hf,hB a ha⟩
  | lnt=>exact⟨a,dx,vs,fp',e,hl,hk',r,hf,hL a ha⟩
  | mod=>exact ha.elim
 | .exc c,_,fp,h=>by unfold Rel at h;simp only[PV.mapF];unfold Rel;exact h
theorem RelL.toBor(hB:∀a,B a->B' a)(hL:∀a,L a->B' a):∀{xs:List PV}{vs:List V}{fp:List Addr},RelL T F B L H xs vs fp->RelL T F B' L' H (mapL Fl.toBor xs) vs fp
 | [],_,_,h=>by unfold RelL at h;simp only[mapL];unfold RelL;exact h
 | x::xs,_,fp,h=>by
  unfold RelL at h
  obtain⟨v,ws,f1,f2,e,h1,h2,rfl⟩:=h
  simp only[mapL]
  unfold RelL
  exact⟨v,ws,f1,f2,e,Rel.toBor hB hL h1,RelL.toBor hB hL h2,rfl⟩
end
mutual
theorem Rel.noB:∀{x:PV}{v:V}{fp:List Addr},x.has Fl.isBor=false->Rel T F B L H x v fp->Rel T F B' L H x v fp
 | .non,_,_,_,h | .bl _,_,_,_,h | .int _,_,_,_,h | .str _,_,_,_,h=>by unfold Rel at h ⊢;exact h
 | .lst f xs,_,fp,hp,h=>by
  unfold Rel at h ⊢
  simp only[PV.has,Bool.or_eq_false_iff]at hp
  obtain⟨a,vs,fp',e,hl,hr,hf⟩:=h
  refine⟨a,vs,fp',e,?_,RelL.noB hp.2 hr,hf⟩
  cases f with
  | bor=>exact absurd hp.1 (by decide)
  | own | frz | lnt | mod=>exact hl
 | .tup xs,_,fp,hp,h=>by
  unfold Rel at h ⊢
  simp only[PV.has]at hp
  obtain⟨a,vs,e,hl,hr⟩:=h
  exact⟨a,vs,e,hl,RelL.noB hp hr⟩
 | .obj f c ks xs,_,fp,hp,h=>by
  unfold Rel at h ⊢
  simp only[PV.has,Bool.or_eq_false_iff]at hp
  obtain⟨a,dx,vs,fp',e,hl,hk,hr,hf,ha⟩:=h
  refine⟨a,dx,vs,fp',e,hl,hk,RelL.noB hp.2 hr,hf,?_⟩
  cases f with
  | bor=>exact absurd hp.1 (by decide)
  | own | frz | lnt | mod=>exact ha
 | .exc c,_,fp,hp,h=>by
  unfold Rel at h ⊢
  exact h
theorem RelL.noB:∀{xs:List PV}{vs:List V}{fp:List Addr},hasL Fl.isBor xs=false->RelL T F B L H xs vs fp->RelL T F B' L H xs vs fp
 | [],_,_,_,h=>by unfold RelL at h ⊢;exact h
 | x::xs,_,fp,hp,h=>by
  unfold RelL at h ⊢
  simp only[hasL,Bool.or_eq_false_iff]at hp
  obtain⟨v,ws,f1,f2,e,h1,h2,rfl⟩:=h
  exact⟨v,ws,f1,f2,e,Rel.noB hp.1 h1,RelL.noB hp.2 h2,rfl⟩
end
theorem RelL.append:∀{xs ys:List PV}{vs us:List V}{f g:List Addr},RelL T F B L H xs vs f->RelL T F B L H ys us g->RelL T F B L H (xs++ys) (vs++us) (f++g)
 | [],_,_,_,_,_,h,r=>by unfold RelL at h;obtain⟨rfl,rfl⟩:=h;exact r
 | x::xs,_,_,_,_,_,h,r=>by
  unfold RelL at h
  obtain⟨v,ws,f1,f2,rfl,h1,h2,rfl⟩:=h
  show RelL T F B L H (x::(xs++_)) (v::(ws++_)) _
  unfold RelL
  exact⟨v,_,f1,_,rfl,h1,RelL.append h2 r,by rw[List.append_assoc]⟩
section
variable{X:Cx}{T:Tb}{W:Nat->St->Hp->Prop}{Z:Zn}{F F1:Addr->Prop}{H H1:Hp}{σ:St}{env:En}{fp:Nat->List Addr}
theorem Ao
  (G:cN X.prog X.w X.K X.mg X.base (CXP X.prog X.w) k f fd ps (spM T ps.length m)) (hr:dC k X.A) (hb:d_ X.K fd ps ds) (hd:aJ dvs ds) (hdp:∀F B L H,RelL T F B L H dps dvs []) (hx:XF X T W)
  (S:au T Z F H σ env fp) (g:Gr F H F1 H1) (r:RelL T F1 Z.B (Own fp) H1 xs vs fx) (nf:∀a∈fx,¬F1 a) (nd:fx.Nodup) (new:∀a∈fx,H a=none) (q:GE T W Z.B F (Own fp) σ H Q (aO m (xs++dps)))
  (I1:L2.Inv X pins σ H1 s1) (rv:aJ vs us) (hlen:vs.length+dvs.length=ps.length):wpAny (model X.prog X.w) X.A (call (.ref f) us) (EP X pins σ Q) X.xe s1:=by
 have r2:aJ (vs++dvs) (us++ds):=rv.append hd
 have hl:(us++ds).length=ps.length:=by rw[<- r2.length,List.length_append];exact hlen
 have rr:RelL T F1 Z.B (Own fp) H1 (xs++dps) (vs++dvs) fx:=by
  have:=RelL.append r (hdp F1 Z.B (Own fp) H1)
  rwa [List.append_nil]at this
 have hBo:∀a,Z.B a->(∃o,H1 a=some o)/\a∉fx:=fun a h=>by
  obtain⟨⟨o,h1⟩,h2⟩:=S.hp.bo a h
  have h3:=S.hp.keep a o h1 h2
  exact⟨⟨o,g.ext a o h3⟩,fun z=>by rw[new a z]at h3;cases h3⟩
 have hOw:∀a,Own fp a->(∃o,H1 a=some o)/\a∉fx:=fun a hz1=>by
  obtain⟨i,hi⟩:=hz1
  obtain⟨_,o,ho⟩:=S.dis i a hi
  exact⟨⟨o,g.ext a o ho⟩,fun z=>by rw[new a z]at ho;cases ho⟩
 have R:uv T F1 (fun a=>(∃o,H1 a=some o)/\a∉fx) H1 (mapL Fl.toBor (xs++dps)) (vs++dvs) fx:=⟨RelL.toBor hBo hOw rr,nd,nf,fun a h=>h,g.dom⟩
 refine wpAny_call (codeAny_mono (G.run X.A X.stack s1 H1 ⟨us,[]⟩ (us ++ ds) (vs ++ dvs) Q (fun cls _ H'=>∃ c,cls=.ref (T.xcl c)/\W c σ H') hr I1.env0 (hb s1 us I1.kIn hl) r2
  ⟨by rw[r2.length,hl],_,F1,_,fx,R,?_⟩) fun rs s' hq=>?_)
 ·unfold aO at q
  cases e:m (mapL Fl.toBor (xs++dps))with
  | ok v =>
   rw[e]at q
   dsimp only at q
   intro F2 H2 u f2 hp2 r3 nd2 nf2 new2
   by_cases hbr:v.has Fl.isBor=true
   ·rw[if_pos hbr]at q;exact q.elim
   ·rw[if_neg hbr]at q
    have hbr':v.has Fl.isBor=false:=by simpa using hbr
    refine q u H2 F2 f2 ⟨fun a o h=>hp2.keep a o (g.ext a o h) fun z=>(by rw[new a z]at h;cases h),fun a h=>hp2.f0 a (g.mono a h),fun a h=>?_,hp2.ft⟩ ?_ nf2 nd2 fun a ha=>?_
    ·rcases hp2.fn a h with z | z | z
     ·exact g.only a z
     ·exact .inr (g.ext.free z)
     ·exact .inr (new a z)
    ·exact Rel.tr (fun _ h=>h) (fun _ h=>h) (fun _ h=>h.elim) (fun _ _ h _=>h) (fun _ _ _ h=>h) (Rel.noB (B':=Z.B) hbr' r3)
    ·rcases new2 a ha with z | z
     ·exact g.ext.free z
     ·exact new a z
  | exc c =>
   rw[e]at q
   exact fun H' h=>⟨c,rfl,q H' fun a o z=>h a o (g.ext a o z) fun z'=>by rw[new a z']at z;cases z⟩
  | stuck=>rw[e]at q;exact q.elim
 ·cases rs with
  | error e =>
   obtain⟨cls,H',fl,c,rfl,hw⟩:=hq
   exact hx pins σ H1 s1 c H' e s' I1 fl hw
  | ok fl =>
   cases fl with
   | ret u=>exact I1.after hq
   | next | brk | cont=>exact False.elim hq
theorem yD
  (G:cN X.prog X.w X.K X.mg X.base (CXP X.prog X.w) k f fd ps (spM T ps.length m)) (hr:dC k X.A) (hg:Gl X x) (hm:X.mg x=some (.ref f)) (hk:PySem.W.keepIn X.K (.ref f)=true) (hb:d_ X.K fd ps ds) (hd:aJ dvs ds) (hdp:∀F B L H,RelL T F B L H dps dvs []) (hx:XF X T W)
  (hn:∀env xs,ms env=.ok xs->xs.length+dvs.length=ps.length) (ha:SA X T W (e::es) ms)
  (hdb:(x ==("__debug__" : Str))=false:=by decide) (he:starEach (e::es) X.env=(false,eval e X.env)::starEach es X.env:=by rfl) (hpl:(backTo pos (starEach es X.env)).any (·.1)=false:=by rfl) :
  SE X T W (.Call (.Name x p) (e::es) [] pos) (ap (fun xs=>aO m (xs++dps)) ms):=by
 intro pins s σ H Q I h
 obtain⟨Z,F,env,fp,S,q⟩:=h
 unfold ap at q
 refine wpAny_Call_Name_kw (jq I hg hm ?_ hdb)
 refine PySem.W.callWith_K (h₀:=X.base) I.ok.mod.kin hk (thn (ha pos pins s σ H (fun vs H1=>∀ us s1,L2.Inv X pins σ H1 s1->aJ vs us->wpAny (model X.prog X.w) X.A (call (.ref f) us) (EP X pins σ Q) X.xe s1) I
  (tA.bind S (fun c e=>by rw[e]at q;exact q) (fun e=>by rw[e]at q;exact q) fun xs vs H1 F1 f1 e1 g1 r1 n1 d1 w1 us s1 I1 rv=>?_)) fun us s1 ⟨vs,H1,I1,r,q1⟩=>⟨I1.kIn,q1 us s1 I1 r⟩) he hpl
 rw[e1]at q
 exact Ao G hr hb hd hdp hx S g1 r1 n1 d1 w1 q I1 rv (by rw[<- r1.length];exact hn env xs e1)
def eY(X:Cx)(T:Tb)(k:Nat)(mn:Str)(ps:List Str)(ds:List Value)(disp:Nat->Option (List PV->Res PV)):Prop :=
 ∀c m,c < T.nc->disp c=some m->∃f fd,Af X.K (T.cls c) mn f/\d_ X.K fd ps ds/\cN X.prog X.w X.K X.mg X.base (CXP X.prog X.w) k f fd ps (spM T ps.length m)
def r6(disp:Nat->Option (List PV->Res PV))(dps:List PV)(o:ME)(ms:MA):ME:=fun env=>(o env).bind fun ov=>match ov with
 | .obj _ c _ _=>match disp c with
  | some m=>(ms env).bind fun xs=>aO m ((ov::xs)++ dps)
  | none=>.stuck
 | _=>.stuck
theorem j7(hm:∀k,T.att k≠mn):∀(ks:List Nat) (vs:List V),((ks.map T.att).zip vs).lookup mn=none
 | [],_ | j::ks,[]=>rfl
 | j::ks,v::vs=>by
  rw[List.map_cons,List.zip_cons_cons,List.lookup_cons,show(mn==T.att j)=false by rw[beq_eq_false_iff_ne];exact(hm j).symm]
  exact j7 hm ks vs
theorem zw
  (hK:X.K=T.K) (hc:∀c < T.nc,Cls T.K (T.cls c)) (hm:∀k,T.att k≠mn) (D:eY X T k mn ps ds disp) (e:disp c=some m) (r:Rel T F1 B L H1 (.obj fl c ks xs) v f1) (I1:L2.Inv X pins σ H1 s1) (ru:bq v u)
  (h:∀a f fd,u=.ref a->PySem.W.keepIn X.K (.ref f)=true->d_ X.K fd ps ds->cN X.prog X.w X.K X.mg X.base (CXP X.prog X.w) k f fd ps (spM T ps.length m)->Q (.ref f,[.ref a]) s1) :
  wpAny (model X.prog X.w) X.A (getMethod u mn pl) Q X.xe s1:=by
 unfold Rel at r
 obtain⟨a,dx,vs,fp',rfl,hl,hk,hr,_,_⟩:=r
 obtain⟨f,fd,M,hb,G⟩:=D c m hk.2 e
 obtain rfl:u=Value.ref a:=ru
 refine qL I1 hl (by rw[hK];exact hc c hk.2) M (j7 hm _ _) (h a f fd rfl M.kp hb G)
theorem yz
  (hK:X.K=T.K) (hc:∀c < T.nc,Cls T.K (T.cls c)) (hm:∀k,T.att k≠mn) (D:eY X T k mn ps ds disp) (hr:dC k X.A) (hd:aJ dvs ds) (hdp:∀F B L H,RelL T F B L H dps dvs []) (hx:XF X T W)
  (hn:∀env xs,ms env=.ok xs->xs.length+1+dvs.length=ps.length) (ho:SE X T W o mo) (ha:SA X T W (e::es) ms)
  (hst:starEach (e::es) X.env=(false,eval e X.env)::starEach es X.env:=by rfl) (hpl:(backTo pos (starEach es X.env)).any (·.1)=false:=by rfl)
  (ht:eval (.Call (.Attribute o mn apos) (e::es) [] pos) X.env=(do
   let ov <- eval o X.env
   standAt apos.atName
   let(f,first) <- holding [ov] (getMethod ov mn pl)
   callWith pos f first (backTo pos (starEach (e::es) X.env)) (backToKw pos (keywordEach [] X.env))):=by rfl) :
  SE X T W (.Call (.Attribute o mn apos) (e::es) [] pos) (r6 disp dps mo ms):=by
 intro pins s σ H Q I h
 obtain⟨Z,F,env,fp,S,q⟩:=h
 unfold r6 at q
 refine PySem.W.methodCall_KW (pl:=pl) (thn (ho pins s σ H (fun v H1=>∃ ov F1 f1,mo env=.ok ov/\Gr F H F1 H1/\Rel T F1 Z.B (Own fp) H1 ov v f1/\(∀ a ∈ f1,¬ F1 a)/\f1.Nodup/\∀ a ∈ f1,H a=none) I
  (tE.bind S (fun c e=>by rw[e]at q;exact q) (fun e=>by rw[e]at q;exact q) fun ov v H1 F1 f1 e1 g1 r1 n1 d1 w1=>⟨ov,F1,f1,e1,g1,r1,n1,d1,w1⟩)) fun u s1 ⟨v,H1,I1,ru,ov,F1,f1,e1,g1,r1,n1,d1,w1⟩=>?_) ht
 rw[e1]at q
 simp only[Res.ok_bind]at q
 by_cases hobj:∃fl c ks xs m,ov=.obj fl c ks xs/\disp c=some m
 ·obtain⟨fl,c,ks,ys,m,rfl,em⟩:=hobj
  dsimp only at q
  rw[em]at q
  dsimp only at q
  refine zw hK hc hm D em r1 I1 ru fun a f fd eu hkp hb G=>?_
  subst eu
  refine PySem.W.callWith_K (first:=[.ref a]) (h₀:=X.base) I.ok.mod.kin hkp (thn (ha pos pins s1 σ H1 (fun vs H2=>∀ us s2,L2.Inv X pins σ H2 s2->aJ vs us->wpAny (model X.prog X.w) X.A (call (.ref f) (.ref a::us)) (EP X pins σ Q) X.xe s2) I1
   (tA.bind (S.grow g1) (fun c e=>by rw[e]at q;exact fun H' x=>q H' (g1.ext.trans x)) (fun e=>by rw[e]at q;exact q) fun xs vs H2 F2 f2 e2 g2 r2 n2 d2 w2 us s2 I2 rv=>?_)) fun us s2 ⟨vs,H2,I2,r,q2⟩=>⟨I2.kIn,q2 us s2 I2 r⟩) hst hpl
  rw[e2]at q
  simp only[Res.ok_bind]at q
  have nn:∀b∈f1,¬F2 b:=fun b hb z=>by
   rcases g2.only b z with z | z
   ·exact n1 b hb z
   ·obtain⟨oo,hoo⟩:=r1.there b hb
    rw[hoo]at z;cases z
  refine Ao (xs:=.obj fl c ks ys::xs) (vs:=v::vs) (us:=.ref a::us) (fx:=f1++f2) G hr hb hd hdp hx S (g1.trans g2) (by unfold RelL;exact⟨v,vs,f1,f2,rfl,r1.ext g2.ext g2.mono,r2,rfl⟩) (fun b hb=>?_) ?_ (fun b hb=>?_) q I2 (.cons ru rv) ?_
  ·rcases List.mem_append.mp hb with hb | hb
   ·exact nn b hb
   ·exact n2 b hb
  ·refine List.nodup_append.mpr ⟨d1,d2,fun b hb c hc z=>?_⟩
   subst z
   obtain⟨oo,hoo⟩:=r1.there b hb
   rw[w2 b hc]at hoo;cases hoo
  ·rcases List.mem_append.mp hb with hb | hb
   ·exact w1 b hb
   ·exact g1.ext.free (w2 b hb)
  ·have:=hn env xs e2
   rw[List.length_cons,<- r2.length]
   exact this
 ·exfalso
  cases ov with
  | obj fl c ks ys =>
   cases em:disp c with
   | none=>simp only[em]at q;exact q
   | some m=>exact hobj ⟨fl,c,ks,ys,m,rfl,em⟩
  | _=>exact q
end
def gB(ms:MA)(n:Nat):Prop:=∀env xs,ms env=.ok xs->xs.length=n
theorem eU:gB am 0:=fun _ _ h=>by cases h;rfl
theorem dM(h:gB ms n):gB (ae m ms) (n+1):=fun env xs e=>by
 unfold ae at e
 cases e1:m env with
 | ok x =>
  rw[e1]at e
  simp only[Res.ok_bind]at e
  cases e2:ms env with
  | ok ys =>
   rw[e2]at e
   simp only[Res.ok_bind]at e
   cases e
   rw[List.length_cons,h env ys e2]
  | exc c | stuck=>rw[e2]at e;cases e
 | exc c | stuck=>rw[e1]at e;cases e
def aQ:PV->Option (List PV)
 | .lst _ xs | .tup xs=>some xs
 | _=>none
section
variable{X:Cx}{T:Tb}{W:Nat->St->Hp->Prop}{Z:Zn}{F F1 B L:Addr->Prop}{H H1:Hp}{σ:St}{env:En}{fp:Nat->List Addr}{D:Ends}
theorem Rel.seq(r:Rel T F B L H x v fx)(e:aQ x=some xs):∃a vs fx',v=.ref a/\(SqL T.K H a vs\/SqT T.K H a vs)/\RelL T F B L H xs vs fx'/\fx'.Sublist fx:=by
 cases x with
 | lst f ys =>
  cases e
  unfold Rel at r
  obtain⟨a,vs,fp',rfl,hl,hr,hf⟩:=r
  refine⟨a,vs,fp',rfl,.inl hl.sq,hr,?_⟩
  cases f with
  | own=>obtain rfl:fx=a::fp':=hf;exact List.sublist_cons_self _ _
  | frz | bor | lnt | mod=>obtain⟨rfl,rfl⟩:=hf;exact List.Sublist.refl _
 | tup ys =>
  cases e
  unfold Rel at r
  obtain⟨a,vs,rfl,hl,hr⟩:=r
  exact⟨a,vs,fx,rfl,.inr hl,hr,List.Sublist.refl _⟩
 | _=>cases e
theorem GE.newL(q:GE T W B F L σ H Q (.ok (.lst .own ys)))(g:Gr F H F1 H1)(r:RelL T F1 B L H1 ys vs fx)(nf:∀a∈fx,¬F1 a)(nd:fx.Nodup)(new:∀a∈fx,H a=none) :
  ∀p,H1 p=none->Q (.ref p) (upd H1 p (.lst vs)):=fun p hp=>by
 refine q (.ref p) (upd H1 p (.lst vs)) F1 (p::fx) (g.trans (Gr.same g.dom (Ext.upd hp))) ?_ (fun a ha=>?_) ?_ (fun a ha=>?_)
 ·unfold Rel
  exact⟨p,vs,fx,rfl,bM,r.ext (Ext.upd hp) fun _ h=>h,rfl⟩
 ·rcases List.mem_cons.mp ha with rfl | ha
  ·intro z
   obtain⟨o,ho⟩:=g.dom _ z
   rw[hp]at ho;cases ho
  ·exact nf a ha
 ·refine List.nodup_cons.mpr ⟨fun z=>?_,nd⟩
  obtain⟨o,ho⟩:=r.there p z
  rw[hp]at ho;cases ho
 ·rcases List.mem_cons.mp ha with rfl | ha
  ·exact g.ext.free hp
  ·exact new a ha
theorem GE.newT(q:GE T W B F L σ H Q (.ok (.tup ys)))(g:Gr F H F1 H1)(r:RelL T F1 B L H1 ys vs fx)(nf:∀a∈fx,¬F1 a)(nd:fx.Nodup)(new:∀a∈fx,H a=none) :
  ∀p,H1 p=none->Q (.ref p) (upd H1 p (.tup vs)):=fun p hp=>by
 refine q (.ref p) (upd H1 p (.tup vs)) F1 fx (g.trans (Gr.same g.dom (Ext.upd hp))) ?_ nf nd new
 unfold Rel
 exact⟨p,vs,rfl,SqT.of bM,r.ext (Ext.upd hp) fun _ h=>h⟩
theorem small(h:n<=1000):n<=sizeLine:=by rw[sizeLine_eq];omega
def eJ(ms:MA):ME:=fun env=>(ms env).bind fun xs=>.ok (.lst .own xs)
def jg(ms:MA):ME:=fun env=>(ms env).bind fun xs=>.ok (.tup xs)
theorem AY(ha:SA X T W es ms)(hn:gB ms n)(hs:n<=1000:=by decide):SE X T W (.List es pos) (eJ ms):=PE.wk (Bj (pos:=pos) ha) fun σ H Q hz1=>by
 obtain⟨Z,F,env,fp,S,q⟩:=hz1
 unfold eJ at q
 refine tA.bind S (fun c e=>by rw[e]at q;exact q) (fun e=>by rw[e]at q;exact q) fun xs vs H1 F1 f1 e1 g1 r1 n1 d1 w1=>?_
 rw[e1]at q
 exact⟨small (by rw[<- r1.length,hn env xs e1];exact hs),GE.newL q g1 r1 n1 d1 w1⟩
theorem AS{x1}(ha:SA X T W es ms)(hn:gB ms n)(hs:n<=1000:=by decide):SE X T W (.Tuple es x1 pos) (jg ms):=PE.wk (vm (pos:=pos) ha) fun σ H Q hz1=>by
 obtain⟨Z,F,env,fp,S,q⟩:=hz1
 unfold jg at q
 refine tA.bind S (fun c e=>by rw[e]at q;exact q) (fun e=>by rw[e]at q;exact q) fun xs vs H1 F1 f1 e1 g1 r1 n1 d1 w1=>?_
 rw[e1]at q
 exact⟨small (by rw[<- r1.length,hn env xs e1];exact hs),GE.newT q g1 r1 n1 d1 w1⟩
def p1(f:PV->Res PV):List PV->Res PV
 | [x]=>f x
 | _=>.stuck
theorem RelL.one(r:RelL T F B L H [x] vs f):∃v,vs=[v]/\Rel T F B L H x v f:=by
 unfold RelL at r
 obtain⟨v,ws,f1,f2,rfl,h1,h2,rfl⟩:=r
 unfold RelL at h2
 obtain⟨rfl,rfl⟩:=h2
 exact⟨v,rfl,by rwa [List.append_nil]⟩
def b_:PV->Res PV:=fun x=>match aQ x with
 | some xs=>.ok (.int xs.length)
 | none=>.stuck
theorem zt(hK:X.K=T.K):Mir T W (p1 b_) (fun xs H Q=>∃p ys,xs=[.ref p]/\(SqL X.K H p ys\/SqT X.K H p ys)/\Q (.int ys.length) H):=by
 intro B F L σ H Q F' H' xs vs fx g r _ _ _ q
 match xs,r,q with
 | [x],r,q =>
  obtain⟨v,rfl,r1⟩:=r.one
  simp only[p1,b_]at q
  cases e:aQ x with
  | none=>rw[e]at q;exact q.elim
  | some ys =>
   rw[e]at q
   obtain⟨a,ws,fx',rfl,hs,hr,_⟩:=r1.seq e
   exact⟨a,ws,rfl,by rw[hK];exact hs,q.scal g (by rw[<- hr.length];exact fh)⟩
 | [],_,q | _::_::_,_,q=>exact q.elim
theorem bZ(hK:X.K=T.K)(hg:Gl X "len")(hm:X.mg "len" = none)(ha:SE X T W e m)(he:starEach [e] X.env=[(false,eval e X.env)]:=by rfl):SE X T W (.Call (.Name "len" p) [e] [] pos) (ap (p1 b_) (ae m am)) :=
 dU nX (zt hK) hg hm PySem.boot_len (aa ha af he) (he:=he)
def iw:PV->Res PV:=fun x=>match aQ x with
 | some xs=>.ok (.lst .own xs)
 | none=>.stuck
theorem vY(hK:X.K=T.K):Mir T W (p1 iw) (fun xs H Q=>∃p ys,xs=[.ref p]/\(SqL X.K H p ys\/SqT X.K H p ys)/\∀l,H l=none->Q (.ref l) (upd H l (.lst ys))):=by
 intro B F L σ H Q F' H' xs vs fx g r nf nd new q
 match xs,r,q with
 | [x],r,q =>
  obtain⟨v,rfl,r1⟩:=r.one
  simp only[p1,iw]at q
  cases e:aQ x with
  | none=>rw[e]at q;exact q.elim
  | some ys =>
   rw[e]at q
   obtain⟨a,ws,fx',rfl,hs,hr,sl⟩:=r1.seq e
   exact⟨a,ws,rfl,by rw[hK];exact hs,GE.newL q g hr (fun b hb=>nf b (sl.subset hb)) (nd.sublist sl) (fun b hb=>new b (sl.subset hb))⟩
 | [],_,q | _::_::_,_,q=>exact q.elim
theorem kg(hK:X.K=T.K)(hg:Gl X "list")(hm:X.mg "list" = none)(hv:bootBuiltins "list" = some (.type "list"))(ha:SE X T W e m)(he:starEach [e] X.env=[(false,eval e X.env)]:=by rfl):SE X T W (.Call (.Name "list" p) [e] [] pos) (ap (p1 iw) (ae m am)) :=
 lR nW (vY hK) hg hm hv (aa ha af he) (he:=he)
def dI:PV->Res PV:=fun x=>match aQ x with
 | some xs=>.ok (.tup xs)
 | none=>.stuck
theorem tU(hK:X.K=T.K):Mir T W (p1 dI) (fun xs H Q=>∃p ys,xs=[.ref p]/\((SqL X.K H p ys/\∀l,H l=none->Q (.ref l) (upd H l (.tup ys)))\/(SqT X.K H p ys/\Q (.ref p) H))):=by
 intro B F L σ H Q F' H' xs vs fx g r nf nd new q
 match xs,r,q with
 | [x],r,q =>
  obtain⟨v,rfl,r1⟩:=r.one
  simp only[p1,dI]at q
  cases x with
  | lst f ys =>
   simp only[aQ]at q
   unfold Rel at r1
   obtain⟨a,ws,fp',rfl,hl,hr,hf⟩:=r1
   have sl:fp'.Sublist fx:=by
    cases f with
    | own=>obtain rfl:fx=a::fp':=hf;exact List.sublist_cons_self _ _
    | frz | bor | lnt | mod=>obtain⟨rfl,rfl⟩:=hf;exact List.Sublist.refl _
   exact⟨a,ws,rfl,.inl ⟨by rw[hK];exact hl.sq,GE.newT q g hr (fun b hb=>nf b (sl.subset hb)) (nd.sublist sl) (fun b hb=>new b (sl.subset hb))⟩⟩
  | tup ys =>
   simp only[aQ]at q
   have r2:=r1
   unfold Rel at r2
   obtain⟨a,ws,rfl,hs,hr⟩:=r2
   exact⟨a,ws,rfl,.inr ⟨by rw[hK];exact hs,q _ _ _ fx g r1 nf nd new⟩⟩
  | _=>exact q.elim
 | [],_,q | _::_::_,_,q=>exact q.elim
theorem gI(hK:X.K=T.K)(hg:Gl X "tuple")(hm:X.mg "tuple" = none)(hv:bootBuiltins "tuple" = some (.type "tuple"))(ha:SE X T W e m)(he:starEach [e] X.env=[(false,eval e X.env)]:=by rfl):SE X T W (.Call (.Name "tuple" p) [e] [] pos) (ap (p1 dI) (ae m am)) :=
 lR lA (tU hK) hg hm hv (aa ha af he) (he:=he)
def aK:PV->PV->Res PV
 | x,.int i=>match aQ x with
  | some xs=>match atI xs i with
   | some y=>if x.has Fl.isOwn&&y.has Fl.isOwn then .stuck else .ok y
   | none=>.stuck
  | none=>.stuck
 | _,_=>.stuck
theorem sF(r:RelL T F B L H xs vs f)(e:atI xs i=some y):∃v f',atI vs i=some v/\Rel T F B L H y v f'/\f'.Sublist f:=by
 unfold atI at e ⊢
 rw[<- r.length]
 cases e1:ixN xs.length i with
 | none=>rw[e1]at e;cases e
 | some j =>
  rw[e1]at e
  exact r.get e
theorem zu(hK:X.K=T.K):io T W aK (fun x y H Q=>yS X.K x y H Q \/(yQ X.K x y H Q\/yR x y H Q)):=by
 intro B F L σ H Q F' H' x y v u fx fy g rx ry nf nd new q
 cases y with
 | int i =>
  unfold Rel at ry
  obtain⟨rfl,rfl⟩:=ry
  simp only[aK]at q
  cases e:aQ x with
  | none=>rw[e]at q;exact q.elim
  | some xs =>
   rw[e]at q
   dsimp only at q
   obtain⟨a,ws,fx',rfl,hs,hr,sl⟩:=rx.seq e
   cases e2:atI xs i with
   | none=>rw[e2]at q;exact q.elim
   | some z =>
    rw[e2]at q
    dsimp only at q
    obtain⟨w,f',h1,h2,h3⟩:=sF hr e2
    have e0:f'=[]:=by
     by_cases ho:x.has Fl.isOwn=true
     ·by_cases hz:z.has Fl.isOwn=true
      ·rw[ho,hz]at q;exact q.elim
      ·exact Rel.noOwn (by simpa using hz) h2
     ·have:=Rel.noOwn (by simpa using ho) rx
      subst this
      exact List.sublist_nil.mp (h3.trans sl)
    subst e0
    by_cases hb:(x.has Fl.isOwn&&z.has Fl.isOwn)=true
    ·rw[if_pos hb]at q;exact q.elim
    ·rw[if_neg hb]at q
     rcases hs with hs | hs
     ·exact .inl ⟨a,ws,i,w,rfl,rfl,by rw[hK];exact hs,h1,q.scal g h2⟩
     ·exact .inr (.inl ⟨a,ws,i,w,rfl,rfl,by rw[hK];exact hs,h1,q.scal g h2⟩)
 | _=>exact q.elim
theorem AZ(hK:X.K=T.K)(ha:SE X T W a ma)(hb:SE X T W b mb)(hs:gh b):SE X T W (.Subscript a b pos) (mOp aK ma mb) :=
 An nE (zu hK) ha hb hs
abbrev MO:=En->Res (Option Int)
def jk:MO:=fun _=>.ok none
def iy(m:ME):MO:=fun env=>(m env).bind fun
 | .int i=>.ok (some i)
 | _=>.stuck
def jy(xs:List PV)(lo hi:Option Int):List PV:=(xs.drop (HT.sIx xs.length 0 lo)).take (HT.sIx xs.length xs.length hi - HT.sIx xs.length 0 lo)
def gR(o:ME)(lo hi:MO):ME:=fun env=>(o env).bind fun x=>(lo env).bind fun l=>(hi env).bind fun h=>match x with
 | .lst _ xs=>.ok (.lst .own (jy xs l h))
 | _=>.stuck
theorem RelL.drop:∀{xs:List PV}{vs:List V}{f:List Addr} (n:Nat),RelL T F B L H xs vs f->∃f',RelL T F B L H (xs.drop n) (vs.drop n) f'/\f'.Sublist f
 | xs,vs,f,0,h=>⟨f,h,List.Sublist.refl _⟩
 | [],vs,f,n+1,h=>by unfold RelL at h;obtain⟨rfl,rfl⟩:=h;exact⟨[],by simp[RelL],List.Sublist.refl _⟩
 | x::xs,_,_,n+1,h=>by
  unfold RelL at h
  obtain⟨v,ws,f1,f2,rfl,h1,h2,rfl⟩:=h
  obtain⟨f',r,s⟩:=RelL.drop n h2
  exact⟨f',by simpa using r,s.trans (List.sublist_append_right _ _)⟩
theorem RelL.take:∀{xs:List PV}{vs:List V}{f:List Addr} (n:Nat),RelL T F B L H xs vs f->∃f',RelL T F B L H (xs.take n) (vs.take n) f'/\f'.Sublist f
 | xs,vs,f,0,h=>⟨[],by simp[RelL],List.nil_sublist _⟩
 | [],vs,f,n+1,h=>by unfold RelL at h;obtain⟨rfl,rfl⟩:=h;exact⟨[],by simp[RelL],List.Sublist.refl _⟩
 | x::xs,_,_,n+1,h=>by
  unfold RelL at h
  obtain⟨v,ws,f1,f2,rfl,h1,h2,rfl⟩:=h
  obtain⟨f',r,s⟩:=RelL.take n h2
  refine⟨f1++f',?_,List.Sublist.append (List.Sublist.refl _) s⟩
  rw[List.take_succ_cons,List.take_succ_cons]
  unfold RelL
  exact⟨v,_,f1,f',rfl,h1,r,rfl⟩
def tO(T:Tb)(W:Nat->St->Hp->Prop)(m:MO):TO:=fun σ H Q=>∃Z F env fp,au T Z F H σ env fp/\match m env with
 | .ok o=>∀H' F',Gr F H F' H'->Q o H'
 | .exc c=>∀H',Ext H H'->W c σ H'
 | .stuck=>False
abbrev SO(X:Cx)(T:Tb)(W:Nat->St->Hp->Prop)(e:Option Expr)(m:MO):Prop:=PO X e (tO T W m)
theorem rC:SO X T W none jk:=fun pins s σ H Q I ⟨Z,F,env,fp,S,q⟩=>y3 pins s σ H Q I (q H F (Gr.refl S.hp.ft))
theorem hV(h:SE X T W e m):SO X T W (some e) (iy m):=fun pins s σ H Q I ⟨Z,F,env,fp,S,q⟩=>y2 h pins s σ H Q I (by
 unfold iy at q
 refine tE.bind S (fun c e=>by rw[e]at q;exact q) (fun e=>by rw[e]at q;exact q) fun x v H1 F1 f1 e1 g1 r1 n1 d1 w1=>?_
 rw[e1]at q
 cases x with
 | int i=>unfold Rel at r1;exact⟨i,r1.1,q H1 F1 g1⟩
 | _=>exact q.elim)
theorem iZ(hK:X.K=T.K)(he:SE X T W e m)(hl:SO X T W lo ml)(hu:SO X T W hi mh):SE X T W (.Subscript e (.Slice lo hi none p2) pos) (gR m ml mh) :=
 PE.wk (vn (pos:=pos) (p2:=p2) yr he hl hu) fun σ H Q hz1=>by
  obtain⟨Z,F,env,fp,S,q⟩:=hz1
  unfold gR at q
  refine tE.bind S (fun c e=>by rw[e]at q;exact q) (fun e=>by rw[e]at q;exact q) fun x v H1 F1 f1 e1 g1 r1 n1 d1 w1=>?_
  rw[e1]at q
  simp only[Res.ok_bind]at q
  refine⟨Z,F1,env,fp,S.grow g1,?_⟩
  cases e2:ml env with
  | exc c=>rw[e2]at q;exact fun H' x=>q H' (g1.ext.trans x)
  | stuck=>rw[e2]at q;exact q
  | ok l =>
   rw[e2]at q
   intro H2 F2 g2
   refine⟨Z,F2,env,fp,(S.grow g1).grow g2,?_⟩
   simp only[Res.ok_bind]at q
   cases e3:mh env with
   | exc c=>rw[e3]at q;exact fun H' x=>q H' ((g1.ext.trans g2.ext).trans x)
   | stuck=>rw[e3]at q;exact q
   | ok h =>
    rw[e3]at q
    intro H3 F3 g3
    simp only[Res.ok_bind]at q
    cases x with
    | lst f xs =>
     have g:=(g1.trans g2).trans g3
     have r3:=(r1.ext (g2.trans g3).ext (g2.trans g3).mono)
     have nf3:∀a∈f1,¬F3 a:=fun a ha z=>by
      rcases(g2.trans g3).only a z with z | z
      ·exact n1 a ha z
      ·obtain⟨o,ho⟩:=r1.there a ha
       rw[ho]at z;cases z
     unfold Rel at r3
     obtain⟨a,ws,fp',rfl,hll,hr,hf⟩:=r3
     have sl:fp'.Sublist f1:=by
      cases f with
      | own=>obtain rfl:f1=a::fp':=hf;exact List.sublist_cons_self _ _
      | frz | bor | lnt | mod=>obtain⟨rfl,rfl⟩:=hf;exact List.Sublist.refl _
     obtain⟨f4,h4,s4⟩:=RelL.drop (HT.sIx xs.length 0 l) hr
     obtain⟨f5,h5,s5⟩:=RelL.take (HT.sIx xs.length xs.length h - HT.sIx xs.length 0 l) h4
     have sl2:=(s5.trans s4).trans sl
     refine⟨a,ws,rfl,by rw[hK];exact hll.sq,?_⟩
     unfold w6
     rw[<- hr.length]
     exact GE.newL q g h5 (fun b hb=>nf3 b (sl2.subset hb)) (d1.sublist sl2) (fun b hb=>w1 b (sl2.subset hb))
    | _=>exact q.elim
def Ap(K:PySem.W.Frag):R2:=fun x y H Q=>∃l b xs zs,x=.ref l/\y=.ref b/\Rd H l (.lst xs)/\Rd H b (.lst zs)/\xs.length+zs.length<=sizeLine/\∀p,H p=none->Q (.ref p) (upd H p (.lst (xs++zs)))
theorem zh:OpR X (binaryOp .Add) (Ap K):=by
 intro pins s σ H x y v u Q I rx ry h
 obtain⟨l,b,xs,zs,rfl,rfl,hH,hB,hz,q⟩:=h
 cases rx
 cases ry
 obtain⟨z,its,n,r,e⟩:=hH.ok I.hok
 obtain⟨z2,its2,n2,r2,e2⟩:=hB.ok I.hok
 have hl:=r.length
 have hl2:=r2.length
 refine PySem.P.add_list e e2 ?_ (by rw[List.size_toArray,List.size_toArray];omega)
 have ea:its.toArray++its2.toArray=(its++its2).toArray:=by simp
 rw[ea]
 exact⟨.ref _,_,I.lnew (t':=s.toks) (r.append r2) (by rw[List.length_append];omega),rfl,q _ I.fresh⟩
def aG:PV->PV->Res PV
 | .int i,.int j=>.ok (.int (i+j))
 | .lst f xs,.lst g ys=>if f=.mod\/g=.mod\/¬xs.length+ys.length<=10000000 then .stuck else .ok (.lst .own (xs++ys))
 | _,_=>.stuck
theorem pT.rd(h:pT T F B L H f a vs)(n:f≠.mod):Rd H a (.lst vs):=by
 cases f with
 | own=>exact .inl h
 | lnt=>exact .inl h.2
 | frz | bor=>exact h.2
 | mod=>exact absurd rfl n
theorem Ah.sub(hf:Ah f a fp' fx):fp'.Sublist fx:=by
 cases f with
 | own=>obtain rfl:fx=a::fp':=hf;exact List.sublist_cons_self _ _
 | frz | bor | lnt | mod=>obtain⟨rfl,rfl⟩:=hf;exact List.Sublist.refl _
theorem vU:io T W aG (fun x y H Q=>(rI0 fun i j=>.int (i+j)) x y H Q\/Ap T.K x y H Q):=by
 intro B F L σ H Q F' H' x y v u fx fy g rx ry nf nd new q
 cases x with
 | int i =>
  cases y with
  | int j=>unfold Rel at rx ry;exact .inl ⟨i,j,rx.1,ry.1,q.scal g fh⟩
  | _=>exact q.elim
 | lst f xs =>
  cases y with
  | lst f' ys =>
   simp only[aG]at q
   by_cases hc:f=.mod\/f'=.mod\/¬xs.length+ys.length<=10000000
   ·rw[if_pos hc]at q;exact q.elim
   ·rw[if_neg hc]at q
    unfold Rel at rx ry
    obtain⟨a,vs,fp1,rfl,hl1,hr1,hf1⟩:=rx
    obtain⟨b,us,fp2,rfl,hl2,hr2,hf2⟩:=ry
    have sl:=List.Sublist.append hf1.sub hf2.sub
    have h3:xs.length+ys.length<=10000000:=by
     rcases Nat.lt_or_ge 10000000 (xs.length+ys.length)with z | z
     ·exact absurd (.inr (.inr (by omega))) hc
     ·exact z
    refine .inr ⟨a,b,vs,us,rfl,rfl,hl1.rd fun z=>hc (.inl z),hl2.rd fun z=>hc (.inr (.inl z)),by rw[<- hr1.length,<- hr2.length,sizeLine_eq];omega,?_⟩
    exact GE.newL q g (RelL.append hr1 hr2) (fun b hb=>nf b (sl.subset hb)) (nd.sublist sl) (fun b hb=>new b (sl.subset hb))
  | _=>exact q.elim
 | _=>exact q.elim
theorem OpR.or(h:OpR X f r)(h':OpR X f r'):OpR X f (fun x y H Q=>r x y H Q\/r' x y H Q):=by
 intro pins s σ H x y v u Q I rx ry q
 rcases q with q | q
 ·exact h pins s σ H x y v u Q I rx ry q
 ·exact h' pins s σ H x y v u Q I rx ry q
theorem aH(ha:SE X T W a ma)(hb:SE X T W b mb):SE X T W (.BinOp a .Add b pos) (mOp aG ma mb):=jY (OpR.or Bu zh) vU ha hb
end
mutual
def PV.data:PV->PyData
 | .non=>.none
 | .bl b=>.bool b
 | .int i=>.int i
 | .str x=>.str x
 | .lst _ xs=>.list (dataL xs)
 | .tup xs=>.tuple (dataL xs)
 | .obj _ _ _ _ | .exc _=>.dict []
def dataL:List PV->List PyData
 | []=>[]
 | x::xs=>x.data::dataL xs
end
def shp(x:PV):Bool:=SeqAt.shaped x.data
section
variable{X:Cx}{T:Tb}{W:Nat->St->Hp->Prop}{Z:Zn}{F F1 B L:Addr->Prop}{H H1:Hp}{σ:St}{env:En}{fp:Nat->List Addr}{D:Ends}{pins:List (Addr×Obj)}{s:Shared}
mutual
theorem Rel.reads(hK:X.K=T.K)(I:L2.Inv X pins σ H s):∀{x:PV}{v:V}{f:List Addr}{u:Value},Rel T F B L H x v f->bq v u->x.data.canLay0=true->∃as,Reads s.heap u x.data as
 | .non,_,_,_,r,ru,_=>by unfold Rel at r;obtain⟨rfl,_⟩:=r;cases ru;exact⟨[],.none⟩
 | .bl b,_,_,_,r,ru,_=>by unfold Rel at r;obtain⟨rfl,_⟩:=r;cases ru;exact⟨[],.bool b⟩
 | .int i,_,_,_,r,ru,_=>by unfold Rel at r;obtain⟨rfl,_⟩:=r;obtain⟨t,rfl⟩:=ru;exact⟨[],.int i t⟩
 | .str x,_,_,_,r,ru,_=>by unfold Rel at r;obtain⟨rfl,_⟩:=r;obtain⟨t,rfl⟩:=ru;exact⟨[],.str x t⟩
 | .lst f xs,_,_,_,r,ru,hc=>by
  unfold Rel at r
  obtain⟨a,vs,fp',rfl,hl,hr,_⟩:=r
  cases ru
  obtain⟨its,rv,⟨o,n,ho,hcl,_,hd⟩,_⟩:=I.list (by rw[hK];exact hl.sq)
  obtain⟨as,ra⟩:=RelL.reads hK I hr rv (by simpa[PV.data,PyData.canLay0]using hc)
  exact⟨_,.list ho hcl hd (by simpa using ra)⟩
 | .tup xs,_,_,_,r,ru,hc=>by
  unfold Rel at r
  obtain⟨a,vs,rfl,hl,hr⟩:=r
  cases ru
  obtain⟨its,rv,⟨o,ho,hcl,n,hd⟩,_⟩:=I.tuple (by rw[hK];exact hl)
  obtain⟨as,ra⟩:=RelL.reads hK I hr rv (by simpa[PV.data,PyData.canLay0]using hc)
  exact⟨_,.tuple ho hcl hd (by simpa using ra)⟩
 | .obj _ _ _ _,_,_,_,_,_,hc | .exc _,_,_,_,_,_,hc=>by simp[PV.data,PyData.canLay0]at hc
theorem RelL.reads(hK:X.K=T.K)(I:L2.Inv X pins σ H s):∀{xs:List PV}{vs:List V}{f:List Addr}{us:List Value},RelL T F B L H xs vs f->aJ vs us->PyData.canLayAll0 (dataL xs)=true->∃as,ReadsAll s.heap us (dataL xs) as
 | [],_,_,_,r,ru,_=>by unfold RelL at r;obtain⟨rfl,_⟩:=r;cases ru;exact⟨[],.nil⟩
 | x::xs,_,_,_,r,ru,hc=>by
  unfold RelL at r
  obtain⟨v,ws,f1,f2,rfl,h1,h2,_⟩:=r
  cases ru with
  | cons r1 r2 =>
   simp only[dataL,PyData.canLayAll0,Bool.and_eq_true]at hc
   obtain⟨as,ra⟩:=Rel.reads hK I h1 r1 hc.1
   obtain⟨bs,rb⟩:=RelL.reads hK I h2 r2 hc.2
   exact⟨_,.cons ra rb⟩
end
def pEq:PV->PV->Res PV:=fun x y=>if shp x&&shp y then .ok (.bl (PyData.eqv x.data y.data))else .stuck
def pNe:PV->PV->Res PV:=fun x y=>if shp x&&shp y then .ok (.bl (!PyData.eqv x.data y.data))else .stuck
def u7(X:Cx)(T:Tb)(g:PyData->PyData->Bool):R2:=fun v u H Q=>∃x y F B L fx fy,Rel T F B L H x v fx/\Rel T F B L H y u fy/\shp x=true/\shp y=true/\Q (.bl (g x.data y.data)) H
theorem vC(hK:X.K=T.K)(hu:X.A.units+64 < cLine):OpR X (compareOp .Eq) (u7 X T fun a b=>PyData.eqv a b):=by
 intro pins s σ H v u v' u' Q I rv ru h
 obtain⟨x,y,F,B,L,fx,fy,rx,ry,hx,hy,q⟩:=h
 obtain⟨as,ra⟩:=rx.reads hK I rv (SeqAt.canLay_of_shaped hx)
 obtain⟨bs,rb⟩:=ry.reads hK I ru (SeqAt.canLay_of_shaped hy)
 exact PyProof.Rows.eq_dataH ra rb hx hy hu ⟨.bl _,H,I,rfl,q⟩
theorem vz(hK:X.K=T.K)(hu:X.A.units+64 < cLine):OpR X (compareOp .NotEq) (u7 X T fun a b=>!PyData.eqv a b):=by
 intro pins s σ H v u v' u' Q I rv ru h
 obtain⟨x,y,F,B,L,fx,fy,rx,ry,hx,hy,q⟩:=h
 obtain⟨as,ra⟩:=rx.reads hK I rv (SeqAt.canLay_of_shaped hx)
 obtain⟨bs,rb⟩:=ry.reads hK I ru (SeqAt.canLay_of_shaped hy)
 exact PyProof.Rows.ne_dataH ra rb hx hy hu ⟨.bl _,H,I,rfl,q⟩
theorem jd:io T W (fun x y=>if shp x&&shp y then .ok (.bl (g x.data y.data))else .stuck) (u7 X T g):=by
 intro B F L σ H Q F' H' x y v u fx fy gr rx ry nf nd new q
 dsimp only at q
 by_cases hc:(shp x&&shp y)=true
 ·rw[if_pos hc]at q
  rw[Bool.and_eq_true]at hc
  exact⟨x,y,F',B,L,fx,fy,rx,ry,hc.1,hc.2,q.scal gr i8⟩
 ·rw[if_neg hc]at q;exact q.elim
variable{a b:Expr}{ma mb:ME}{pos:Pos}
theorem lQ(hK:X.K=T.K)(hu:X.A.units+64 < cLine)(ha:SE X T W a ma)(hb:SE X T W b mb):SE X T W (.Compare a [.Eq] [b] pos) (mOp pEq ma mb):=kC (vC hK hu) jd ha hb (eB _)
theorem Am(hK:X.K=T.K)(hu:X.A.units+64 < cLine)(ha:SE X T W a ma)(hb:SE X T W b mb):SE X T W (.Compare a [.NotEq] [b] pos) (mOp pNe ma mb):=kC (vz hK hu) (jd (g:=fun a b=>!PyData.eqv a b)) ha hb (eB _)
theorem cT(hK:X.K=T.K)(hu:X.A.units+64 < cLine)(ha:SE X T W a ma)(hb:SE X T W b mb):ST X T W (.Compare a [.Eq] [b] pos) (av (mOp pEq ma mb)):=fg (vC hK hu) jd ha hb (eB _)
theorem gG(hK:X.K=T.K)(hu:X.A.units+64 < cLine)(ha:SE X T W a ma)(hb:SE X T W b mb):ST X T W (.Compare a [.NotEq] [b] pos) (av (mOp pNe ma mb)):=fg (vz hK hu) (jd (g:=fun a b=>!PyData.eqv a b)) ha hb (eB _)
theorem fC(ha:SE X T W a ma)(hb:SE X T W b mb):ST X T W (.Compare a [.Lt] [b] pos) (av (mOp pLt ma mb)):=fg Ar (kO fun _ _ _ _ _ _=>i8) ha hb (eB _)
theorem jX(ha:SE X T W a ma)(hb:SE X T W b mb):ST X T W (.Compare a [.Gt] [b] pos) (av (mOp pGt ma mb)):=fg Er (kO fun _ _ _ _ _ _=>i8) ha hb (eB _)
theorem on(ha:SE X T W a ma)(hb:SE X T W b mb):ST X T W (.Compare a [.GtE] [b] pos) (av (mOp pGe ma mb)):=fg Es (kO fun _ _ _ _ _ _=>i8) ha hb (eB _)
def inL(x:PV)(ys:List PV):Bool:=ys.any fun y=>PyData.eqv y.data x.data
def pIn:PV->PV->Res PV:=fun x y=>match aQ y with
 | some ys=>if shp x&&ys.all shp then .ok (.bl (inL x ys))else .stuck
 | none=>.stuck
def gO:PV->PV->Res PV:=fun x y=>match aQ y with
 | some ys=>if shp x&&ys.all shp then .ok (.bl (!inL x ys))else .stuck
 | none=>.stuck
theorem pB(hK:X.K=T.K)(I:L2.Inv X pins σ H s)(hu:A.units+64 < cLine)(rx:Rel T F B L H x v fx)(ry:Rel T F B L H y u fy)(rv:bq v v')(ru:bq u u')(hx:shp x=true)(hy:shp y=true) :
  SeqAt.EqAt A s v' u' (PyData.eqv x.data y.data):=by
 obtain⟨as,ra⟩:=rx.reads hK I rv (SeqAt.canLay_of_shaped hx)
 obtain⟨bs,rb⟩:=ry.reads hK I ru (SeqAt.canLay_of_shaped hy)
 exact SeqAt.eqAt_reads _ _ A s v' u' as bs ra rb (SeqAt.canLay_of_shaped hx) (SeqAt.canLay_of_shaped hy) (SeqAt.room_of_shaped hx hu)
theorem ju(hK:X.K=T.K)(I:L2.Inv X pins σ H s)(hu:A.units+64 < cLine)(rx:Rel T F B L H x v fx)(rv:bq v v')(hx:shp x=true) :
  ∀{ys:List PV}{us:List V}{fy:List Addr}{us':List Value},RelL T F B L H ys us fy->aJ us us'->ys.all shp=true->∃e:Value->Bool,(∀w∈us',SeqAt.EqAt A s w v' (e w))/\us'.any e=inL x ys:=by
 intro ys us fy us' r rv' hs
 have one:∀(ys:List PV) (us:List V) (fy:List Addr) (us':List Value),RelL T F B L H ys us fy->aJ us us'->ys.all shp=true->∀w∈us',∃b,SeqAt.EqAt A s w v' b/\(b=true->inL x ys=true):=by
  intro ys
  induction ys with
  | nil =>
   intro us fy us' r rv' _ w hw
   unfold RelL at r
   obtain⟨rfl,_⟩:=r
   cases rv'
   cases hw
  | cons y ys ih =>
   intro us fy us' r rv' hs w hw
   unfold RelL at r
   obtain⟨u,ws,f1,f2,rfl,h1,h2,_⟩:=r
   cases rv' with
   | cons r1 r2 =>
    rw[List.all_cons,Bool.and_eq_true]at hs
    rcases List.mem_cons.mp hw with rfl | hw
    ·exact⟨_,pB hK I hu h1 rx r1 rv hs.1 hx,fun z=>by simp[inL,z]⟩
    ·obtain⟨b,h3,h4⟩:=ih ws f2 _ h2 r2 hs.2 w hw
     exact⟨b,h3,fun z=>by have:=h4 z;unfold inL at this ⊢;simp[this]⟩
 have some_:∀(ys:List PV) (us:List V) (fy:List Addr) (us':List Value),RelL T F B L H ys us fy->aJ us us'->ys.all shp=true->inL x ys=true->∃w∈us',SeqAt.EqAt A s w v' true:=by
  intro ys
  induction ys with
  | nil=>intro us fy us' r rv' _ h;simp[inL]at h
  | cons y ys ih =>
   intro us fy us' r rv' hs h
   unfold RelL at r
   obtain⟨u,ws,f1,f2,rfl,h1,h2,_⟩:=r
   cases rv' with
   | cons r1 r2 =>
    rw[List.all_cons,Bool.and_eq_true]at hs
    by_cases hy:PyData.eqv y.data x.data=true
    ·refine⟨_,List.mem_cons_self,?_⟩
     have:=pB hK I hu h1 rx r1 rv hs.1 hx
     rwa [hy]at this
    ·have h':inL x ys=true:=by
      unfold inL at h ⊢
      rw[List.any_cons]at h
      simpa[hy]using h
     obtain⟨w,hw,q⟩:=ih ws f2 _ h2 r2 hs.2 h'
     exact⟨w,List.mem_cons_of_mem _ hw,q⟩
 by_cases hin:inL x ys=true
 ·obtain⟨w0,hw0,q0⟩:=some_ ys us fy us' r rv' hs hin
  refine⟨fun w=>@decide (SeqAt.EqAt A s w v' true) (Classical.propDecidable _),fun w hw=>?_,?_⟩
  ·obtain⟨b,h1,_⟩:=one ys us fy us' r rv' hs w hw
   by_cases ht:SeqAt.EqAt A s w v' true
   ·simp only[ht,decide_true]
   ·simp only[ht,decide_false]
    cases b with
    | true=>exact absurd h1 ht
    | false=>exact h1
  ·rw[hin,List.any_eq_true]
   exact⟨w0,hw0,by simp[q0]⟩
 ·have hin':inL x ys=false:=by simpa using hin
  refine⟨fun _=>false,fun w hw=>?_,by rw[hin'];simp⟩
  obtain⟨b,h1,h2⟩:=one ys us fy us' r rv' hs w hw
  cases b with
  | true=>exact absurd (h2 rfl) hin
  | false=>exact h1
def A4(X:Cx)(T:Tb)(neg:Bool):R2:=fun v u H Q=>∃x ys a vs F B L fx fy,u=.ref a/\(SqL T.K H a vs\/SqT T.K H a vs)/\Rel T F B L H x v fx/\RelL T F B L H ys vs fy/\shp x=true/\ys.all shp=true/\Q (.bl (if neg then !inL x ys else inL x ys)) H
theorem vB(hK:X.K=T.K)(hu:X.A.units+66 < cLine):OpR X (compareOp .In) (A4 X T false):=by
 intro pins s σ H v u v' u' Q I rv ru h
 obtain⟨x,ys,a,vs,F,B,L,fx,fy,rfl,hs,rx,ry,hx,hy,q⟩:=h
 cases ru
 have hu1:X.A.in1.units+64 < cLine:=by show X.A.units+1+64 < cLine;omega
 rcases hs with hs | hs
 ·obtain⟨its,r,pl,_⟩:=I.list (by rw[hK];exact hs)
  obtain⟨e,h1,h2⟩:=ju hK I hu1 rx rv hx ry r hy
  refine SeqAt.in_listAt e pl.isList (fun w hw=>h1 w (by simpa using hw)) ⟨.bl _,H,I,rfl,?_⟩
  rw[show its.toArray.any e=its.any e by simp,h2]
  exact q
 ·obtain⟨its,r,pl,_⟩:=I.tuple (by rw[hK];exact hs)
  obtain⟨e,h1,h2⟩:=ju hK I hu1 rx rv hx ry r hy
  refine SeqAt.in_tupleAt e pl (fun w hw=>h1 w (by simpa using hw)) ⟨.bl _,H,I,rfl,?_⟩
  rw[show its.toArray.any e=its.any e by simp,h2]
  exact q
theorem tK(hK:X.K=T.K)(hu:X.A.units+66 < cLine):OpR X (compareOp .NotIn) (A4 X T true):=by
 intro pins s σ H v u v' u' Q I rv ru h
 obtain⟨x,ys,a,vs,F,B,L,fx,fy,rfl,hs,rx,ry,hx,hy,q⟩:=h
 cases ru
 have hu1:X.A.in1.units+64 < cLine:=by show X.A.units+1+64 < cLine;omega
 rcases hs with hs | hs
 ·obtain⟨its,r,pl,_⟩:=I.list (by rw[hK];exact hs)
  obtain⟨e,h1,h2⟩:=ju hK I hu1 rx rv hx ry r hy
  refine SeqAt.notIn_listAt e pl.isList (fun w hw=>h1 w (by simpa using hw)) ⟨.bl _,H,I,rfl,?_⟩
  rw[show its.toArray.any e=its.any e by simp,h2]
  exact q
 ·obtain⟨its,r,pl,_⟩:=I.tuple (by rw[hK];exact hs)
  obtain⟨e,h1,h2⟩:=ju hK I hu1 rx rv hx ry r hy
  refine SeqAt.notIn_tupleAt e pl (fun w hw=>h1 w (by simpa using hw)) ⟨.bl _,H,I,rfl,?_⟩
  rw[show its.toArray.any e=its.any e by simp,h2]
  exact q
theorem qy:io T W (fun x y=>match aQ y with
 | some ys=>if shp x&&ys.all shp then .ok (.bl (if neg then !inL x ys else inL x ys))else .stuck
 | none=>.stuck) (A4 X T neg):=by
 intro B F L σ H Q F' H' x y v u fx fy gr rx ry nf nd new q
 dsimp only at q
 cases e:aQ y with
 | none=>rw[e]at q;exact q.elim
 | some ys =>
  rw[e]at q
  dsimp only at q
  by_cases hc:(shp x&&ys.all shp)=true
  ·rw[if_pos hc]at q
   rw[Bool.and_eq_true]at hc
   obtain⟨a,ws,f',rfl,hs,hr,_⟩:=ry.seq e
   exact⟨x,ys,a,ws,F',B,L,fx,f',rfl,hs,rx,hr,hc.1,hc.2,q.scal gr i8⟩
  ·rw[if_neg hc]at q;exact q.elim
theorem D9(hK:X.K=T.K)(hu:X.A.units+66 < cLine)(ha:SE X T W a ma)(hb:SE X T W b mb)(hk:behindInMarks .In b=false:=by with_unfolding_all rfl):SE X T W (.Compare a [.In] [b] pos) (mOp pIn ma mb):=kC (vB hK hu) (qy (neg:=false)) ha hb hk
theorem om(hK:X.K=T.K)(hu:X.A.units+66 < cLine)(ha:SE X T W a ma)(hb:SE X T W b mb)(hk:behindInMarks .In b=false:=by with_unfolding_all rfl):ST X T W (.Compare a [.In] [b] pos) (av (mOp pIn ma mb)):=fg (vB hK hu) (qy (neg:=false)) ha hb hk
theorem ku(hK:X.K=T.K)(hu:X.A.units+66 < cLine)(ha:SE X T W a ma)(hb:SE X T W b mb)(hk:behindInMarks .NotIn b=false:=by with_unfolding_all rfl):ST X T W (.Compare a [.NotIn] [b] pos) (av (mOp gO ma mb)):=fg (tK hK hu) (qy (neg:=true)) ha hb hk
def PV.isNon:PV->Bool
 | .non=>true
 | _=>false
def Hw:PV->PV->Res PV
 | x,.non=>.ok (.bl x.isNon)
 | _,_=>.stuck
def iu:PV->PV->Res PV
 | x,.non=>.ok (.bl (!x.isNon))
 | _,_=>.stuck
theorem Rel.isNon(r:Rel T F B L H x v f):decide (v=.non)=x.isNon:=by
 cases x with
 | non | bl b | int i | str i=>unfold Rel at r;rw[r.1];rfl
 | lst f xs=>unfold Rel at r;obtain⟨a,_,_,rfl,_⟩:=r;rfl
 | tup xs=>unfold Rel at r;obtain⟨a,_,rfl,_⟩:=r;rfl
 | obj f c ks xs=>unfold Rel at r;obtain⟨a,_,_,_,rfl,_⟩:=r;rfl
 | exc c=>unfold Rel at r;obtain⟨a,rfl,_⟩:=r;rfl
theorem vV:io T W iu (fun x y H Q=>y=.non/\Q (.bl (!decide (x=.non))) H):=by
 intro B F L σ H Q F' H' x y v u fx fy gr rx ry nf nd new q
 cases y with
 | non=>unfold Rel at ry;refine⟨ry.1,?_⟩;rw[rx.isNon];exact GE.scal (pv:=.bl (!x.isNon)) (by simpa[iu]using q) gr i8
 | _=>simp only[iu]at q;exact q.elim
theorem rq(ha:SE X T W a ma)(hb:SE X T W b mb):ST X T W (.Compare a [.IsNot] [b] pos) (av (mOp iu ma mb)):=fg ze vV ha hb (eB _)
end
abbrev TgM:=PV->En->Option En
abbrev qY:=List PV->En->Option En
def tgN(i:Nat):TgM:=fun v env=>if aL i env then some (env.set i (some v))else none
def eE:qY:=fun vs env=>match vs with
 | []=>some env
 | _=>none
def bf(t:TgM)(u:qY):qY:=fun vs env=>match vs with
 | v::r=>match t v env with
  | some e=>u r e
  | none=>none
 | []=>none
def tgT(n:Nat)(u:qY):TgM:=fun v env=>match v with
 | .tup xs=>if xs.length=n then u xs env else none
 | _=>none
structure uu(Z:Zn)(F:Addr->Prop)(fp:Nat->List Addr)(f:List Addr):Prop where
 nd:f.Nodup
 nf:∀a∈f,¬F a
 new:∀a∈f,Z.H0 a=none\/Z.fp0 a
 dj:∀a∈f,∀j,a∉fp j
theorem uu.nil:uu Z F fp []:=⟨List.nodup_nil,fun _ z=>(nomatch z),fun _ z=>(nomatch z),fun _ z=>(nomatch z)⟩
def GG(T:Tb)(Z:Zn)(F:Addr->Prop)(H:Hp)(Q:St->Hp->Prop):Option En->Prop
 | some e=>∀σ fp,au T Z F H σ e fp->Q σ H
 | none=>False
def tG(T:Tb)(m:TgM):TG:=fun v σ H Q=>∃Z F env fp pv f,au T Z F H σ env fp/\Rel T F Z.B NoL H pv v f/\uu Z F fp f/\GG T Z F H Q (m pv env)
def tGs(T:Tb)(m:qY):TGs:=fun vs σ H Q=>∃Z F env fp pvs f,au T Z F H σ env fp/\RelL T F Z.B NoL H pvs vs f/\uu Z F fp f/\GG T Z F H Q (m pvs env)
abbrev SG(X:Cx)(T:Tb)(tg:Expr)(m:TgM):Prop:=PG X tg (tG T m)
abbrev SGs(X:Cx)(T:Tb)(ts:List Expr)(m:qY):Prop:=PGs X ts (tGs T m)
section
variable{X:Cx}{T:Tb}{W:Nat->St->Hp->Prop}{Z:Zn}{F F1 B L:Addr->Prop}{H H1:Hp}{σ:St}{env:En}{fp:Nat->List Addr}{D:Ends}
theorem PG.wk(h:PG X tg t)(w:∀v σ H Q,t' v σ H Q->t v σ H Q):PG X tg t':=fun pins s σ H v u Q I r q=>h pins s σ H v u Q I r (w v σ H Q q)
theorem PGs.wk(h:PGs X ts t)(w:∀v σ H Q,t' v σ H Q->t v σ H Q):PGs X ts t':=fun pins s σ H v u Q I r q=>h pins s σ H v u Q I r (w v σ H Q q)
theorem yu(hN:X.N.Nodup)(hi:X.N[i]?=some x)(hx:Loc X.env.scope x)(hf:X.fn x=true\/X.env.scope.names.lookup x=some .local:=by first | exact .inl rfl | exact .inr rfl | assumption):SG X T (.Name x pos) (tgN i) :=
 PG.wk (m7 (pos:=pos) hN hi hx hf) fun v σ H Q hz1=>by
  obtain⟨Z,F,env,fp,pv,f,S,r,fr,q⟩:=hz1
  unfold tgN at q
  by_cases ho:aL i env=true
  ·rw[if_pos ho]at q
   exact q _ _ (S.put r fr.nd fr.nf fr.new (fun a ha j _=>fr.dj a ha j) ho)
  ·rw[if_neg ho]at q;exact q.elim
theorem fR:SGs X T [] eE:=PGs.wk y7 fun vs σ H Q hz1=>by
 obtain⟨Z,F,env,fp,pvs,f,S,r,fr,q⟩:=hz1
 cases pvs with
 | nil=>unfold RelL at r;exact⟨r.1,q σ fp S⟩
 | cons x xs=>exact q.elim
theorem bQ(hN:X.N.Nodup)(hi:X.N[i]?=some x)(hx:Loc X.env.scope x)(h2:SGs X T es u)
  (hs:(assignEach (.Name x pos::es) X.env).map (·.2)=assign (.Name x pos) X.env::(assignEach es X.env).map (·.2):=by rfl)
  (hf:X.fn x=true\/X.env.scope.names.lookup x=some .local:=by first | exact .inl rfl | exact .inr rfl | assumption):SGs X T (.Name x pos::es) (bf (tgN i) u) :=
 PGs.wk (vk (m7 (pos:=pos) hN hi hx hf) h2 hs) fun vs σ H Q hz1=>by
  obtain⟨Z,F,env,fp,pvs,f,S,r,fr,q⟩:=hz1
  cases pvs with
  | nil=>exact q.elim
  | cons y ys =>
   unfold RelL at r
   obtain⟨v,ws,f1,f2,rfl,r1,r2,rfl⟩:=r
   obtain⟨n1,n2,n3⟩:=List.nodup_append.mp fr.nd
   by_cases ho:aL i env=true
   case neg=>simp only[bf,tgN,if_neg ho]at q;exact q.elim
   simp only[bf,tgN,if_pos ho]at q
   refine⟨v,ws,rfl,Z,F,env.set i (some y),bD fp i f1,ys,f2,S.put r1 n1 (fun a ha=>fr.nf a (List.mem_append_left _ ha)) (fun a ha=>fr.new a (List.mem_append_left _ ha)) (fun a ha j _=>fr.dj a (List.mem_append_left _ ha) j) ho,r2,⟨n2,fun a ha=>fr.nf a (List.mem_append_right _ ha),fun a ha=>fr.new a (List.mem_append_right _ ha),fun a ha j=>?_⟩,q⟩
   unfold bD
   split
   ·exact fun z=>n3 a z a ha rfl
   ·exact fr.dj a (List.mem_append_right _ ha) j
theorem iD(hK:X.K=T.K)(hc:X.calm=true)(h:SGs X T es u)(hn:(assignEach es X.env).length=n:=by rfl)(hst:(assignEach es X.env).findIdx? (·.1)=none:=by rfl):SG X T (.Tuple es k pos) (tgT n u) :=
 PG.wk (Bc (pos:=pos) (k:=k) hc h hn hst) fun v σ H Q hz1=>by
  obtain⟨Z,F,env,fp,pv,f,S,r,fr,q⟩:=hz1
  cases pv with
  | tup xs =>
   unfold Rel at r
   obtain⟨a,vs,rfl,hl,hr⟩:=r
   simp only[tgT]at q
   by_cases hx:xs.length=n
   ·rw[if_pos hx]at q
    exact⟨a,vs,rfl,by rw[hK];exact hl,by rw[<- hr.length];exact hx,Z,F,env,fp,xs,f,S,hr,fr,q⟩
   ·rw[if_neg hx]at q;exact q.elim
  | _=>exact q.elim
abbrev MI:=En->Res (List PV)
def ItR(T:Tb)(F B:Addr->Prop)(Ow:Addr->Prop)(H1:Hp)(J:It)(xs:List PV):Prop :=
 ∀H2,(∀a o,H1 a=some o->¬Ow a->H2 a=some o)->(∀(i:Nat) x,xs[i]?=some x->J.go i H2/\∀v H3,J.yld i H2 v H3->Ext H2 H3/\Rel T F B NoL H3 x v [])/\J.stop xs.length H2
theorem ItR.of0(h:∀H2,(∀a o,H1 a=some o->¬Ow a->H2 a=some o)->(∀(i:Nat) x,xs[i]?=some x->J.go i H2/\∀v H3,J.yld i H2 v H3->H3=H2/\Rel T F B NoL H2 x v [])/\J.stop xs.length H2):ItR T F B Ow H1 J xs:=fun H2 hk=>by
 obtain⟨a,b⟩:=h H2 hk
 refine⟨fun i x e=>⟨(a i x e).1,fun v H3 hy=>?_⟩,b⟩
 obtain⟨rfl,r⟩:=(a i x e).2 v H3 hy
 exact⟨Ext.refl,r⟩
def GI(T:Tb)(W:Nat->St->Hp->Prop)(B F Ow:Addr->Prop)(σ:St)(H:Hp)(R:It->Hp->Prop):Res (List PV)->Prop
 | .ok xs=>∀J H1 F1,Gr F H F1 H1->ItR T F1 B Ow H1 J xs->R J H1
 | .exc c=>∀H',Ext H H'->W c σ H'
 | .stuck=>False
def tI(T:Tb)(W:Nat->St->Hp->Prop)(m:MI):TI:=fun σ H R=>∃Z F env fp,au T Z F H σ env fp/\GI T W Z.B F (Own fp) σ H R (m env)
abbrev SI(X:Cx)(T:Tb)(W:Nat->St->Hp->Prop)(tg iter:Expr)(m:MI):Prop:=PI X tg iter (tI T W m)
theorem vj(hl:PE X l tl):PI X tg l (fun σ H R=>tl σ H fun x H1=>∃a,x=.ref a/\((∃xs,SqL X.K H1 a xs/\R (Itl X.K a) H1)\/ ∃xs,SqT X.K H1 a xs/\R (Itt X.K a) H1)):=by
 intro pins s σ H R I h
 refine thn (hl pins s σ H _ I h) fun v s1 hz1=>?_
 obtain⟨x,H1,I1,r1,q1⟩:=hz1
 obtain⟨a,e,q⟩:=q1
 subst e
 cases r1
 rcases q with⟨xs,hq,q⟩ |⟨xs,hq,q⟩
 ·obtain⟨its,rv,p,hz⟩:=I1.list hq
  refine wpAny_pyIter_list p.isList ?_
  refine⟨s1.heap.objs.size,[s1.heap.objs.size],_,_,H1,rfl,I1.kept (t':=s1.toks) fun b o e=>Heap.get?_push_of_some _ e,sK a _,⟨_,Heap.get?_push_size _ rfl,rfl,rfl⟩,fun b hb=>?_,q⟩
  have e:b=s1.heap.objs.size:=by simpa using hb
  subst e
  exact I1.fpOk (Nat.le_refl _) (I1.hok.fresh (Nat.le_refl _))
 ·obtain⟨its,rv,p,hz⟩:=I1.tuple hq
  refine wpAny_pyIter_tuple (show s1.heap.IsTuple a its.toArray from p) ?_
  refine⟨s1.heap.objs.size,[s1.heap.objs.size],_,_,H1,rfl,I1.kept (t':=s1.toks) fun b o e=>Heap.get?_push_of_some _ e,pV a _,⟨_,Heap.get?_push_size _ rfl,rfl,rfl⟩,fun b hb=>?_,q⟩
  have e:b=s1.heap.objs.size:=by simpa using hb
  subst e
  exact I1.fpOk (Nat.le_refl _) (I1.hok.fresh (Nat.le_refl _))
def dJ(xs:List PV):Bool:=!hasL Fl.isOwn xs&&!hasL Fl.isLnt xs
def eZ(m:ME):MI:=fun env=>(m env).bind fun x=>match x with
 | .lst f xs=>if !f.isLnt&&dJ xs then .ok xs else .stuck
 | .tup xs=>if dJ xs then .ok xs else .stuck
 | _=>.stuck
theorem f8{H2:Hp}{Ow:Addr->Prop}(hF:∀a,F1 a->¬Ow a)(hB:∀a,B a->¬Ow a)(hO:∀a o,Ow a->H1 a=some o->Chg o)(hk:∀a o,H1 a=some o->¬Ow a->H2 a=some o){xs:List PV}{vs:List V}(r:RelL T F1 B NoL H1 xs vs []){i:Nat}{x:PV}{v:V}(e:xs[i]?=some x)(ev:vs[i]?=some v):Rel T F1 B NoL H2 x v []:=by
 obtain⟨w,f,e1,r1,sl⟩:=r.get e
 rw[ev]at e1
 cases e1
 obtain rfl:=List.sublist_nil.mp sl
 refine Rel.tr (fun _ h=>h) (fun _ h=>h) (fun _ h=>h) (fun a o q h=>hk a o q ?_) (fun _ z=>(nomatch z)) r1
 rcases h with h | h | h | h
 ·exact hF a h
 ·exact hB a h
 ·exact h.elim
 ·intro z
  have:=hO a o z q
  cases o with
  | lst _ | ins _ _ _=>exact h
  | _=>exact this
theorem au.bow(S:au T Z F H σ env fp):∀a,Z.B a->¬Own fp a:=fun a h hz1=>by
 obtain⟨i,hi⟩:=hz1
 obtain⟨⟨o,h1⟩,h2⟩:=S.hp.bo a h
 rcases S.new i a hi with z | z
 ·rw[h1]at z;cases z
 ·exact h2 z
theorem au.fow(S:au T Z F H σ env fp):∀a,F a->¬Own fp a:=fun a h ⟨i,hi⟩=>(S.dis i a hi).1 h
theorem au.oow(S:au T Z F H σ env fp):∀a o,Own fp a->H a=some o->Chg o:=fun a o hz1 e=>by
 obtain⟨i,hi⟩:=hz1
 obtain⟨o',h1,h2⟩:=S.ch i a hi
 rw[e]at h1;cases h1;exact h2
theorem dy(h:dJ xs=true)(r:RelL T F B L H xs vs f):f=[]/\RelL T F B NoL H xs vs f:=by
 simp only[dJ,Bool.and_eq_true,Bool.not_eq_true']at h
 exact⟨RelL.noOwn h.1 r,RelL.noL h.2 r⟩
theorem iC(hK:X.K=T.K)(he:SE X T W e m):SI X T W tg e (eZ m):=fun pins s σ H R I h=>vj he pins s σ H R I (by
 obtain⟨Z,F,env,fp,S,q⟩:=h
 unfold eZ at q
 refine tE.bind S (fun c e=>by rw[e]at q;exact q) (fun e=>by rw[e]at q;exact q) fun x v H1 F1 f1 e1 g1 r1 n1 d1 w1=>?_
 rw[e1]at q
 simp only[Res.ok_bind]at q
 have S1:=S.grow g1
 rw[hK]
 cases x with
 | lst f xs =>
  dsimp only at q
  by_cases hc:(!f.isLnt&&dJ xs)=true
  ·rw[if_pos hc]at q
   rw[Bool.and_eq_true]at hc
   unfold Rel at r1
   obtain⟨a,vs,fp',rfl,hl,hr,hf⟩:=r1
   obtain⟨rfl,hr'⟩:=dy hc.2 hr
   refine⟨a,rfl,.inl ⟨vs,hl.sq,q _ H1 F1 g1 (ItR.of0 fun H2 hk=>?_)⟩⟩
   have na:f≠.mod->∀o,H1 a=some o->H2 a=some o:=fun hn o ho=>by
    refine hk a o ho ?_
    cases f with
    | own =>
     rintro⟨i,hi⟩
     obtain⟨_,o',ho'⟩:=S.dis i a hi
     obtain rfl:f1=[a]:=hf
     rw[w1 a List.mem_cons_self]at ho';cases ho'
    | frz=>exact S1.fow a hl.1
    | bor=>exact S1.bow a hl.1
    | lnt=>exact absurd hc.1 (by decide)
    | mod=>exact absurd rfl hn
   have hl2:SqL T.K H2 a vs:=by
    by_cases hn:f=.mod
    ·subst hn;exact .inr hl
    ·exact .inl (Rd.tr (na hn) (hl.rd hn))
   refine⟨fun i x ex=>?_,⟨vs,hl2,by rw[hr.length];exact Nat.le_refl _⟩⟩
   obtain⟨v,_,ev,_,_⟩:=hr.get ex
   refine⟨⟨vs,v,hl2,ev⟩,fun w H3 hy=>⟨hy.1,?_⟩⟩
   have e3:=hy.2 vs hl2
   exact f8 S1.fow S1.bow S1.oow hk hr' ex e3
  ·rw[if_neg hc]at q;exact q.elim
 | tup xs =>
  dsimp only at q
  by_cases hc:dJ xs=true
  ·rw[if_pos hc]at q
   unfold Rel at r1
   obtain⟨a,vs,rfl,hl,hr⟩:=r1
   obtain⟨rfl,hr'⟩:=dy hc hr
   refine⟨a,rfl,.inr ⟨vs,hl,q _ H1 F1 g1 (ItR.of0 fun H2 hk=>?_)⟩⟩
   have hl2:SqT T.K H2 a vs:=SqT.tr (fun o ho hfx=>hk a o ho fun z=>by
    have:=S1.oow a o z ho
    cases o with
    | lst _ | ins _ _ _=>exact hfx
    | _=>exact this) hl
   refine⟨fun i x ex=>?_,⟨vs,hl2,by rw[hr.length];exact Nat.le_refl _⟩⟩
   obtain⟨v,_,ev,_,_⟩:=hr.get ex
   refine⟨⟨vs,v,hl2,ev⟩,fun w H3 hy=>⟨hy.1,?_⟩⟩
   exact f8 S1.fow S1.bow S1.oow hk hr' ex (hy.2 vs hl2)
  ·rw[if_neg hc]at q;exact q.elim
 | _=>exact q.elim)
def b5(lo:Int)(n:Nat):List PV:=(List.range n).map fun k=>.int (lo+(k:Nat))
def inR(i:Int):Bool:=decide (-(2 ^ 62)<= i/\i < 2 ^ 62)
def bI(ms:MA):MI:=fun env=>(ms env).bind fun xs=>match xs with
 | [.int n]=>if inR n then .ok (b5 0 n.toNat)else .stuck
 | _=>.stuck
def j0(ms:MA):MI:=fun env=>(ms env).bind fun xs=>match xs with
 | [.int i,.int j]=>if inR i&&inR j then .ok (b5 i (j - i).toNat)else .stuck
 | _=>.stuck
theorem r_:ItR T F1 B Ow H1 (Itr lo n) (b5 lo n):=by
 apply ItR.of0
 intro H2 _
 refine⟨fun i x ex=>?_,by simp[b5,Itr]⟩
 have hi:i < n:=by
  have:=(List.getElem?_eq_some_iff.mp ex).1
  simpa[b5]using this
 refine⟨hi,fun v H3 hy=>⟨hy.1,?_⟩⟩
 obtain⟨_,rfl⟩:=hy
 have:x=.int (lo+(i:Nat)):=by
  simp[b5,hi]at ex
  exact ex.symm
 subst this
 exact fh
theorem cD(hg:Gl X "range")(hm:X.mg "range" = none)(ha:SA X T W [a] ms)(hs:starEach [a] X.env=[(false,eval a X.env)]:=by rfl):SI X T W tg (.Call (.Name "range" p) [a] [] pos) (bI ms):=fun pins s σ H R I h=>lU hg hm ha hs pins s σ H R I (by
 obtain⟨Z,F,env,fp,S,q⟩:=h
 unfold bI at q
 refine tA.bind S (fun c e=>by rw[e]at q;exact q) (fun e=>by rw[e]at q;exact q) fun xs vs H1 F1 f1 e1 g1 r1 n1 d1 w1=>?_
 rw[e1]at q
 simp only[Res.ok_bind]at q
 split at q
 ·rename_i n
  split at q
  ·rename_i hc
   obtain⟨v,rfl,r2⟩:=r1.one
   unfold Rel at r2
   obtain⟨rfl,_⟩:=r2
   have hc':-(2 ^ 62)<= n/\n < 2 ^ 62:=by simpa[inR]using hc
   exact⟨n,rfl,hc'.1,hc'.2,q _ H1 F1 g1 r_⟩
  ·exact q.elim
 ·exact q.elim)
theorem lM(hg:Gl X "range")(hm:X.mg "range" = none)(ha:SA X T W [a,b] ms)(hs:starEach [a,b] X.env=[(false,eval a X.env),(false,eval b X.env)]:=by rfl)(hs2:starEach [b] X.env=[(false,eval b X.env)]:=by rfl) :
  SI X T W tg (.Call (.Name "range" p) [a,b] [] pos) (j0 ms):=fun pins s σ H R I h=>tq hg hm ha hs hs2 pins s σ H R I (by
 obtain⟨Z,F,env,fp,S,q⟩:=h
 unfold j0 at q
 refine tA.bind S (fun c e=>by rw[e]at q;exact q) (fun e=>by rw[e]at q;exact q) fun xs vs H1 F1 f1 e1 g1 r1 n1 d1 w1=>?_
 rw[e1]at q
 simp only[Res.ok_bind]at q
 split at q
 ·rename_i i j
  split at q
  ·rename_i hc
   unfold RelL at r1
   obtain⟨v,ws,f1,f2,rfl,h1,h2,_⟩:=r1
   obtain⟨v2,rfl,h3⟩:=h2.one
   unfold Rel at h1 h3
   obtain⟨rfl,_⟩:=h1
   obtain⟨rfl,_⟩:=h3
   have hc':(-(2 ^ 62)<= i/\i < 2 ^ 62)/\(-(2 ^ 62)<= j/\j < 2 ^ 62):=by simpa[inR]using hc
   exact⟨i,j,rfl,⟨hc'.1.1,hc'.1.2,hc'.2.1,hc'.2.2⟩,q _ H1 F1 g1 r_⟩
  ·exact q.elim
 ·exact q.elim)
def cO(it:MI)(tg:TgM)(body:MS):MS:=fun env=>match it env with
 | .ok xs=>lx (fun x e=>match tg x e with
  | some e'=>body e'
  | none=>.stuck) xs env
 | .exc c=>.exc c env
 | .stuck=>.stuck
theorem b7(hp:PassesOwn (model X.prog X.w) X.A X.env X.xe)(hc:X.calm=true)(hi:SI X T W tg iter mi)(hg:SG X T tg g)(hb:SSs X T W body mb)
  (hs:∀x,foldedSetIterable iter X.env x=pure x:=by intro _;rfl):SS X T W (.For tg iter body [] pos) (cO mi g mb):=PS.wk (vd (pos:=pos) hp hc hi hg hb hs) fun D σ H hz1=>by
 obtain⟨Z,F,env,fp,S,q⟩:=hz1
 unfold cO at q
 refine⟨Z,F,env,fp,S,?_⟩
 cases em:mi env with
 | exc c=>rw[em]at q;exact fun H' x=>q F H' σ fp (S.grow (Gr.same S.hp.ft x))
 | stuck=>rw[em]at q;exact q
 | ok xs =>
  rw[em]at q
  dsimp only at q
  intro J H1 F1 g1 it
  have S1:=S.grow g1
  generalize hbd:(fun (x:PV) (e:En)=>match g x e with
   | some e'=>mb e'
   | none=>Out.stuck)=bd at q
  refine⟨fun i m σ2 H2=>m=xs.length - i/\i<=xs.length/\∃F2 env2 fp2,au T (Z.re F1 H1 fp) F2 H2 σ2 env2 fp2/\GS T W Z D (lx bd (xs.drop i) env2),⟨xs.length,by simp,Nat.zero_le _,F1,env,fp,S1.enter,q⟩,?_⟩
  rintro i m σ2 H2 ⟨rfl,hi,F2,env2,fp2,S2,q2⟩
  obtain⟨go,stop⟩:=it H2 S2.hp.keep
  by_cases hlt:i < xs.length
  ·have hx:xs[i]?=some xs[i]:=by simp[hlt]
   obtain⟨g1',yl⟩:=go i _ hx
   refine .inr ⟨g1',fun σ3 H3=>∃F3 env3 fp3,au T (Z.re F1 H1 fp) F3 H3 σ3 env3 fp3/\GS T W Z D (lx bd (xs.drop (i+1)) env3),fun σ3 H3 h3=>⟨xs.length - (i+1),by omega,rfl,hlt,h3⟩,fun v H3 hy=>?_⟩
   obtain⟨ex3,r⟩:=yl v H3 hy
   rw[List.drop_eq_getElem_cons hlt]at q2
   unfold lx at q2
   rw[<- hbd]at q2
   dsimp only at q2
   refine⟨Z.re F1 H1 fp,F2,env2,fp2,xs[i],[],S2.grow (Gr.same S2.hp.ft ex3),r.ext Ext.refl S2.hp.f0,uu.nil,?_⟩
   cases eg:g xs[i] env2 with
   | none=>rw[eg]at q2;exact q2
   | some e' =>
    rw[eg]at q2
    dsimp only at q2
    intro σ' fp' S'
    refine⟨Z.re F1 H1 fp,F2,e',fp',S',?_⟩
    cases eb:mb e' with
    | next e2 | cont e2=>rw[eb]at q2;exact fun F3 H3 σ3 fp3 S3=>⟨F3,e2,fp3,S3,by rw[<- hbd];exact q2⟩
    | brk e2=>rw[eb]at q2;exact fun F3 H3 σ3 fp3 S3=>q2 F3 H3 σ3 fp3 (S1.leave S3)
    | ret v=>rw[eb]at q2;exact fun F3 H3 v f hp r nd nf new=>q2 F3 H3 v f (eW.leave S1 hp) r nd nf fun a ha=>S1.newL (new a ha)
    | exc c e2=>rw[eb]at q2;exact fun F3 H3 σ3 fp3 S3=>q2 F3 H3 σ3 fp3 (S1.leave S3)
    | stuck=>rw[eb]at q2;exact q2
  ·have e:i=xs.length:=by omega
   subst e
   rw[List.drop_length]at q2
   exact .inl ⟨stop,q2 F2 H2 σ2 fp2 (S1.leave S2)⟩
end
end PR
namespace L2
open PySem PySem.Spec
def dP(cells:List (Str×Addr)):List (Str×NameKind)->List (Str×Addr)->List (Str×Addr)
 | [],acc=>acc
 | (n,k)::r,acc=>if (k == .free)=true then (match cells.lookup n with
  | some c=>dP cells r ((n,c)::acc)
  | none=>dP cells r acc)else dP cells r acc
theorem iP:∀(names:List (Str×NameKind)) (acc:List (Str×Addr)),(∀y∈names,y.2=.free->∃c,env.cells.lookup y.1=some c)->
  (forIn names acc fun (x:Str × NameKind) (cs:List (Str × Addr))=>match x with
   |(name,kind)=>if(kind==.free)=true then do let c <- cellOf env name;pure (ForInStep.yield ((name,c)::cs))else pure (ForInStep.yield cs):Sem (List (Str×Addr)))=pure (dP env.cells names acc)
 | [],acc,_=>by simp[dP]
 |(n,k)::r,acc,h=>by
  rw[List.forIn_cons]
  by_cases hk:(k==NameKind.free)=true
  ·obtain⟨c,hc⟩:=h (n,k) List.mem_cons_self (by simpa using hk)
   dsimp only at hc
   simp only[hk,if_true,cellOf,hc,pure_bind]
   rw[dP,if_pos hk,hc]
   exact iP r _ fun y hy=>h y (List.mem_cons_of_mem _ hy)
  ·simp only[hk,Bool.false_eq_true,if_false,pure_bind]
   rw[dP,if_neg hk]
   exact iP r _ fun y hy=>h y (List.mem_cons_of_mem _ hy)
theorem lz(h:∀y∈scope.names,y.2=.free->∃c,env.cells.lookup y.1=some c):closureFor scope env=pure (dP env.cells scope.names []):=by
 unfold closureFor
 simp only[]
 rw[<- iP scope.names [] h]
 simp
theorem fM{cells:List (Str×Addr)}:∀{names:List (Str×NameKind)}{acc:List (Str×Addr)},(∀p∈acc,cells.lookup p.1=some p.2)->∀p∈dP cells names acc,cells.lookup p.1=some p.2
 | [],_,h=>h
 |(n,k)::r,acc,h=>by
  unfold dP
  split
  ·split
   ·rename_i c hc
    exact fM fun p hp=>by
     rcases List.mem_cons.mp hp with rfl | hp
     ·exact hc
     ·exact h p hp
   ·exact fM h
  ·exact fM h
theorem jz:∀{names:List (Str×NameKind)}{acc:List (Str×Addr)}{p:Str×Addr},p∈acc->p∈dP cells names acc
 | [],_,_,h=>h
 |(n,k)::r,acc,p,h=>by
  unfold dP
  split
  ·split
   ·exact jz (List.mem_cons_of_mem _ h)
   ·exact jz h
  ·exact jz h
theorem g8{cells:List (Str×Addr)}{x:Str}{c:Addr}(hc:cells.lookup x=some c):∀{names:List (Str×NameKind)}{acc:List (Str×Addr)},(x,NameKind.free)∈ names->(x,c)∈ dP cells names acc
 | [],_,h=>nomatch h
 |(n,k)::r,acc,h=>by
  unfold dP
  rcases List.mem_cons.mp h with e | h
  ·cases e
   rw[if_pos (by rfl),hc]
   exact jz List.mem_cons_self
  ·split
   ·split
    ·exact g8 hc h
    ·exact g8 hc h
   ·exact g8 hc h
theorem iz{cells l:List (Str×Addr)}(h:∀p∈l,cells.lookup p.1=some p.2){x:Str}{c:Addr}(m:(x,c)∈ l):l.lookup x=some c:=by
 induction l with
 | nil=>cases m
 | cons p r ih =>
  obtain⟨n,d⟩:=p
  rw[List.lookup_cons]
  by_cases e:x=n
  ·subst e
   simp only[beq_self_eq_true]
   have h1:=h (x,d) List.mem_cons_self
   have h2:=h (x,c) m
   dsimp only at h1 h2
   rw[h1]at h2
   exact h2
  ·rw[show(x==n)=false by simpa using e]
   refine ih (fun p hp=>h p (List.mem_cons_of_mem _ hp)) ?_
   rcases List.mem_cons.mp m with z | z
   ·cases z;exact absurd rfl e
   ·exact z
theorem fL{cells:List (Str×Addr)}{names:List (Str×NameKind)}{x:Str}{c:Addr}(h:(dP cells names []).lookup x=some c):cells.lookup x=some c :=
 fM (names:=names) (acc:=[]) (fun _ z=>nomatch z) (x,c) (PySem.mem_of_lookup h)
theorem la:∀(names:List (Str×NameKind)) (a:Nat) (l acc:List (Str×Addr)),cellsFrom a names (l++acc)=cellsFrom a names l++acc
 | [],_,_,_=>rfl
 |(n,k)::r,a,l,acc=>by
  unfold cellsFrom
  split
  ·exact la r (a+1) ((n,a)::l) acc
  ·exact la r a l acc
theorem k_:∀{names:List (Str×NameKind)}{a:Nat}{l:List (Str×Addr)}{p:Str×Addr},p∈cellsFrom a names l->p∈l \/(a<=p.2/\(p.1,NameKind.cell)∈ names)
 | [],_,_,_,h=>.inl h
 |(n,k)::r,a,l,p,h=>by
  unfold cellsFrom at h
  split at h
  ·rename_i hk
   have hk:k=.cell:=by simpa using hk
   subst hk
   rcases k_ h with h | h
   ·rcases List.mem_cons.mp h with rfl | h
    ·exact .inr ⟨Nat.le_refl _,List.mem_cons_self⟩
    ·exact .inl h
   ·exact .inr ⟨by omega,List.mem_cons_of_mem _ h.2⟩
  ·rcases k_ h with h | h
   ·exact .inl h
   ·exact .inr ⟨h.1,List.mem_cons_of_mem _ h.2⟩
theorem nR:∀{names:List (Str×NameKind)}{a:Nat}{l:List (Str×Addr)}{x:Str},((x,NameKind.cell)∈ names \/(l.lookup x).isSome=true)->((cellsFrom a names l).lookup x).isSome=true
 | [],_,_,_,h=>h.resolve_left (fun z=>nomatch z)
 |(n,k)::r,a,l,x,h=>by
  unfold cellsFrom
  split
  ·rename_i hk
   have hk:k=.cell:=by simpa using hk
   subst hk
   refine nR ?_
   by_cases e:x=n
   ·subst e;exact .inr (by simp)
   ·rcases h with h | h
    ·rcases List.mem_cons.mp h with z | h
     ·cases z;exact absurd rfl e
     ·exact .inl h
    ·exact .inr (by rw[List.lookup_cons,show(x==n)=false by simpa using e];exact h)
  ·rename_i hk
   refine nR ?_
   rcases h with h | h
   ·rcases List.mem_cons.mp h with z | h
    ·cases z;exact absurd rfl hk
    ·exact .inl h
   ·exact .inr h
theorem lc:∀{names:List (Str×NameKind)}{a:Nat}{l:List (Str×Addr)},(∀p∈l,p.2 < a)->(l.Pairwise fun x y=>x.2≠y.2)->(cellsFrom a names l).Pairwise fun x y=>x.2≠y.2
 | [],_,_,_,h=>h
 |(n,k)::r,a,l,hl,h=>by
  unfold cellsFrom
  split
  ·refine lc (fun p hp=>?_) (List.pairwise_cons.mpr ⟨fun y hy e=>?_,h⟩)
   ·rcases List.mem_cons.mp hp with rfl | hp
    ·exact Nat.lt_succ_self _
    ·exact Nat.lt_succ_of_lt (hl p hp)
   ·have e':a=y.2:=e
    exact Nat.lt_irrefl _ (Nat.lt_of_lt_of_eq (hl y hy) e')
  ·exact lc hl h
theorem jo{α:Type}{x:Str}:∀{l m:List (Str×α)},(l++m).lookup x=(l.lookup x).or (m.lookup x)
 | [],m=>by simp
 |(n,c)::l,m=>by
  rw[List.cons_append,List.lookup_cons,List.lookup_cons,jo (l:=l)]
  cases x==n<;>simp
abbrev pL(X:Cx)(scope:Scope)(C:Addr):List (Str×Addr):=cellsFrom (C+1) scope.names (dP X.env.cells scope.names [])
theorem jA{X:Cx}{scope:Scope}{C:Addr}{x:Str}{c:Addr}(h:(pL X scope C).lookup x=some c):(C+1<=c/\(x,NameKind.cell)∈ scope.names/\(x,c)∈ cellsFrom (C+1) scope.names [])\/(dP X.env.cells scope.names []).lookup x=some c:=by
 unfold pL at h
 rw[show dP X.env.cells scope.names []=[]++ dP X.env.cells scope.names []from rfl,la,jo]at h
 cases e:(cellsFrom (C+1) scope.names []).lookup x with
 | some d =>
  rw[e]at h
  cases h
  have m:=PySem.mem_of_lookup e
  rcases k_ m with z | z
  ·cases z
  ·exact .inl ⟨z.1,z.2,m⟩
 | none =>
  rw[e]at h
  exact .inr (by simpa using h)
theorem CH(hx:(x,NameKind.cell)∉ scope.names)(h:(dP X.env.cells scope.names []).lookup x=some c):(pL X scope C).lookup x=some c:=by
 unfold pL
 rw[show dP X.env.cells scope.names []=[]++ dP X.env.cells scope.names []from rfl,la,jo]
 cases e:(cellsFrom (C+1) scope.names []).lookup x with
 | some d =>
  rcases k_ (PySem.mem_of_lookup e)with z | z
  ·cases z
  ·exact absurd z.2 hx
 | none=>simpa using h
theorem oR{M:Model}{A:Around}{E:Value->Shared->Prop}{s:Shared}{scope:Scope}{globals:Addr}{closure:List (Str×Addr)}{qual:Str}{func:Option Addr}{code:Value}{outer:Env}{builtins:Addr}{Q:Env->Shared->Prop}
  (hQ:∀ h',h'.Ns s.heap.objs.size (fun _=>none)->(∀ b o,s.heap.get? b=some o->h'.get? b=some o)->(∀ n c,(n,c) ∈ cellsFrom (s.heap.objs.size+1) scope.names []->h'.IsCell c none) ->
   Q (newEnv scope s.heap.objs.size globals (cellsFrom (s.heap.objs.size+1) scope.names closure) qual func code (some outer) builtins) { s with heap:=h' }) :
  wpAny M A (newFunctionEnv scope globals closure [] qual func code (some outer) builtins) Q E s:=by
 simp only[newFunctionEnv,Option.isSome_some,if_true]
 refine wpAny_bind (wpAny_alloc ?_)
 refine wpAny_bind (wpAny_layCells _ (fun name kind cells=>by cases hkc:kind==NameKind.cell<;>simp[hkc]) _ _ _ _ ?_)
 have ok:=cellsFrom_ok scope.names (s.heap.push { cls:=.type "dict", data:=.dict #[] }) (s.heap.objs.size+1) [] ⟨fun _ _ hm=>(nomatch hm),List.Pairwise.nil⟩ (by rw[Heap.size_push];exact Nat.le_refl _)
 rw[Heap.size_push]at ok
 rw[show({ s with heap:=s.heap.push { cls:=.type "dict", data:=.dict #[] } }:Shared).heap.objs.size=s.heap.objs.size+1 from Heap.size_push ..]
 refine wpAny_bind ?_
 rw[List.forIn_nil]
 exact wpAny_pure (wpAny_pure (hQ _ ((Heap.Ns.new s.heap (.type "dict")).keeps (pushCells_keeps _ _)) (fun b o e=>pushCells_keeps _ _ b o (Heap.get?_push_of_some _ e)) fun n c hm=>(ok.empty n c hm).1))
def cxC(X:Cx)(scope:Scope)(C:Addr)(N:List Str)(s:Shared)(H:Hp)(ex:List Addr):Cx :=
 { X with env:=compEnvC scope (pL X scope C) C X.env,N:=N,s₀:=s,H₀:=H,outer:=X.stack,stack:=X.stack,ex:=ex,fn:=fun x=>scope.names.lookup x==some .cell,pn:=[],xe:=fun _ _=>False }
structure dR(X:Cx)(scope:Scope)(caps:List Nat)(N tn:List Str):Prop where
 kind:scope.kind=.function
 cel:∀y∈scope.names,y.2=.cell->scope.names.lookup y.1=some .cell
 names:∀y∈scope.names,y.2=.local->scope.names.lookup y.1=some .local
 free:∀y∈scope.names,y.2=.free->X.env.kindOf y.1=some .cell\/X.env.kindOf y.1=some .free
 eN:N=caps.map (fun i=>X.N.getD i "")++ tn
 capN:∀i∈caps,i < X.N.length
 capF:∀i∈caps,∀x,X.N[i]?=some x->(x,NameKind.free)∈ scope.names/\scope.names.lookup x=some .free
 nd:N.Nodup
theorem i4{scope:Scope}{env:Env}{x:Str}{k:NameKind}(h:(relabel scope env).names.lookup x=some k)(hc:k=.cell\/k=.free):(x,NameKind.free)∈ scope.names \/(x,NameKind.cell)∈ scope.names:=by
 have m:=PySem.mem_of_lookup h
 obtain⟨⟨n,k0⟩,hm,e⟩:=List.mem_map.mp m
 dsimp only at e
 split at e
 ·rename_i hh
  cases e
  have:k0=.free:=by
   simp only[Bool.and_eq_true,beq_iff_eq]at hh
   exact hh.1.1
  subst this
  exact .inl hm
 ·cases e
  rcases hc with rfl | rfl
  ·exact .inr hm
  ·exact .inl hm
theorem i5{scope:Scope}{env:Env}{x:Str}:∀{names:List (Str×NameKind)},names.lookup x=some .free ->
  (names.map fun(n,k)=>if(k==NameKind.free&&env.scope.kind==.function&&env.kindOf n==some .cell)then(n,NameKind.cell)else(n,k)).lookup x=some .cell \/
  (names.map fun(n,k)=>if(k==NameKind.free&&env.scope.kind==.function&&env.kindOf n==some .cell)then(n,NameKind.cell)else(n,k)).lookup x=some .free
 | [],h=>by simp at h
 |(n,k)::r,h=>by
  show List.lookup x ((if(k==NameKind.free&&env.scope.kind==.function&&env.kindOf n==some .cell)=true then(n,NameKind.cell)else(n,k))::_)=_\/List.lookup x ((if(k==NameKind.free&&env.scope.kind==.function&&env.kindOf n==some .cell)=true then(n,NameKind.cell)else(n,k))::_)=_
  have ih:=@i5 scope env x r
  cases hx:x==n with
  | true =>
   simp only[List.lookup_cons,hx]at h
   cases h
   split
   ·exact .inl (by simp[List.lookup_cons,hx])
   ·exact .inr (by simp[List.lookup_cons,hx])
  | false =>
   simp only[List.lookup_cons,hx]at h
   split
   ·simpa only[List.lookup_cons,hx]using ih h
   ·simpa only[List.lookup_cons,hx]using ih h
section
variable{X:Cx}{scope:Scope}{caps:List Nat}{N tn:List Str}{pins:List (Addr×Obj)}{σ:St}{H:Hp}{s:Shared}{fp:List Addr}{C:Addr}
theorem qU(cs:dR X scope caps N tn)(I:Inv X pins σ H s)(hf:∀b∈fp,lh X pins H b)(hlt:∀b∈fp,b < s.heap.objs.size)(hC:s.heap.objs.size<=C):(cxC X scope C N s H fp).Ok where
 mod:=I.ok.mod
 kind:=by show(relabel scope X.env).kind=_;exact cs.kind
 glob:=I.ok.glob
 blt:=I.ok.blt
 above:=hC
 inj:=fun x y c h1 h2=>by
  have old:∀z,(dP X.env.cells scope.names []).lookup z=some c->c < s.heap.objs.size:=fun z hz=>let⟨_,hv⟩:=I.cell z c (fL hz);hv.lt
  rcases jA h1 with⟨l1,_,m1⟩ | h1<;>rcases jA h2 with⟨l2,_,m2⟩ | h2
  ·exact name_of_addr (lc (l:=[]) (fun _ z=>nomatch z) List.Pairwise.nil) m1 m2
  ·exact absurd (Nat.lt_of_lt_of_le (old y h2) (Nat.le_trans hC (Nat.le_trans (Nat.le_succ _) l1))) (Nat.lt_irrefl _)
  ·exact absurd (Nat.lt_of_lt_of_le (old x h1) (Nat.le_trans hC (Nat.le_trans (Nat.le_succ _) l2))) (Nat.lt_irrefl _)
  ·exact I.ok.inj x y c (fL h1) (fL h2)
 has:=fun x hx=>by
  have hx:(relabel scope X.env).names.lookup x=some .cell \/(relabel scope X.env).names.lookup x=some .free:=hx
  have m:(x,NameKind.free)∈ scope.names \/(x,NameKind.cell)∈ scope.names:=by
   rcases hx with h | h
   ·exact i4 h (.inl rfl)
   ·exact i4 h (.inr rfl)
  refine Option.isSome_iff_exists.mp (nR (l:=dP X.env.cells scope.names []) ?_)
  rcases m with m | m
  ·obtain⟨c,hc⟩:=I.ok.has x (cs.free _ m rfl)
   exact .inr (by rw[iz (fM (acc:=[]) fun _ z=>nomatch z) (g8 hc m)];rfl)
  ·exact .inl m
 cab:=fun x c h hc=>by
  have h':(scope.names.lookup x==some NameKind.cell)=true:=h
  have hx:scope.names.lookup x=some .cell:=by simpa using h'
  have hs:s.heap.objs.size<=C:=hC
  have hc:(pL X scope C).lookup x=some c:=hc
  obtain⟨d,hd⟩:=Option.isSome_iff_exists.mp (nR (a:=C+1) (l:=[]) (.inl (PySem.mem_of_lookup hx)))
  unfold pL at hc
  rw[show dP X.env.cells scope.names []=[]++ dP X.env.cells scope.names []from rfl,la,jo,hd]at hc
  cases hc
  rcases k_ (PySem.mem_of_lookup hd)with z | z
  ·cases z
  ·exact Nat.le_trans hs (Nat.le_trans (Nat.le_succ _) z.1)
 hd:=I.ok.hd
 frames:=I.ok.frames
 stk:=.inl rfl
 exf:=fun b hb=>⟨Nat.ne_of_lt (Nat.lt_of_lt_of_le (hlt b hb) hC),fun x c h=>by
  rcases jA h with⟨l1,_,_⟩ | h
  ·exact fun z=>absurd (Nat.lt_of_lt_of_le (hlt b hb) (Nat.le_trans hC (Nat.le_trans (Nat.le_succ _) l1))) (by rw[z];exact Nat.lt_irrefl _)
  ·exact(hf b hb).2.2.2.2.1 x c (fL h)⟩
 bs:=I.bs
 bsz:=Nat.le_trans I.ok.bsz I.sz
 noex:=fun b o e hb=>by
  rcases(hf b hb).2.2.2.1 with z | z
  ·exact I.ok.noex b o e z
  ·exact absurd (Nat.lt_of_lt_of_le (Heap.lt_size e) (Nat.le_trans I.ok.bsz z)) (Nat.lt_irrefl _)
 exfs:=fun b hb hs=>by
  rcases List.mem_cons.mp (I.stkSub b hs)with z | z
  ·exact(hf b hb).2.1 z
  ·exact(hf b hb).2.2.1 z
 funs:=I.stack
 frf:=I.stkFree
def nS(caps:List Nat)(k:Nat)(σ:St):St:=caps.map (fun i=>(σ[i]?).join)++ List.replicate k none
theorem we(cs:dR X scope caps N tn)(I:Inv X pins σ H s)(hf:∀b∈fp,lh X pins H b)(hlt:∀b∈fp,b < s.heap.objs.size)
  (hns:h₁.Ns (s.heap.objs.size+1) fun _=>none) (hD:h₁.get? s.heap.objs.size=some { cls:=.type "list", data:=.seq ([]:List Value).toArray }) (old:∀b o,s.heap.get? b=some o->h₁.get? b=some o)
  (hcl:∀n c,(n,c)∈ cellsFrom (s.heap.objs.size+1+1) scope.names []->h₁.IsCell c none) :
  Inv (cxC X scope (s.heap.objs.size+1) N s H fp) [] (nS caps tn.length σ) (upd H s.heap.objs.size (.lst [])) { s with heap:=h₁,toks:=t }:=by
 have fresh:∀b,s.heap.objs.size<=b->H b=none:=fun b hb=>I.hok.fresh hb
 have neD:s.heap.objs.size+1≠s.heap.objs.size:=Nat.succ_ne_self _
 have ltc:∀x c,(dP X.env.cells scope.names []).lookup x=some c->∃v,s.heap.IsCell c v:=fun x c h=>I.cell x c (fL h)
 refine⟨qU cs I hf hlt (Nat.le_succ _),rfl,I.bare,Un.laid old (Nat.le_refl _) (fresh _ (Nat.le_refl _)),⟨_,hns,fun i y v h1 h2 h3=>?_⟩,fun x c h=>?_,?_,fun x c h=>?_,fun p hp=>absurd (show p ∈([]:List (Addr×Obj))from hp) (by simp),?_,?_⟩
 ·have hi:i < caps.length:=by
   unfold nS at h2
   by_cases hi:i < caps.length
   ·exact hi
   ·rw[List.getElem?_append_right (by simpa using hi),List.getElem?_replicate]at h2
    split at h2<;>cases h2
  unfold nS at h2
  rw[List.getElem?_append_left (by simpa using hi),List.getElem?_map]at h2
  obtain⟨j,hj,e2⟩:=Option.map_eq_some_iff.mp h2
  have hjc:j∈caps:=List.mem_of_getElem? hj
  have hjN:=cs.capN j hjc
  have hy:X.N[j]?=some y:=by
   have h1':N[i]?=some y:=h1
   rw[cs.eN,List.getElem?_append_left (by simpa using hi),List.getElem?_map,hj]at h1'
   have:X.N.getD j "" = y:=by simpa using h1'
   rw[<- this]
   simp[hjN]
  have hσ:σ[j]?=some (some v):=by
   cases e:σ[j]? with
   | none=>rw[e]at e2;cases e2
   | some w=>rw[e]at e2;simp only[Option.join_some]at e2;rw[e2]
  obtain⟨m0,hn0,hl⟩:=I.loc
  obtain⟨hm,hlk⟩:=cs.capF j hjc y hy
  have hk:=cs.free _ hm rfl
  dsimp only at hk
  have hvis:Vis X.env.scope y:=by
   rcases hk with z | z
   ·exact .inr (.inl z)
   ·exact .inr (.inr z)
  obtain⟨u,ru,lk⟩:=hl j y v hy hσ hvis
  refine⟨u,ru,.inr ?_⟩
  rcases lk with⟨z,_⟩ |⟨_,c,hc,hcell⟩
  ·rcases hk with w | w
   ·rw[z]at w;cases w
   ·rw[z]at w;cases w
  ·refine⟨i5 (scope:=scope) hlk,c,CH (fun z=>?_) (iz (fM (acc:=[]) fun _ z=>nomatch z) (g8 hc hm)),hcell.keeps old⟩
   have:=cs.cel _ z rfl
   rw[hlk]at this
   cases this
 ·rcases jA h with⟨_,_,m⟩ | h
  ·exact⟨none,hcl x c m⟩
  ·obtain⟨v,hv⟩:=ltc x c h
   exact⟨v,hv.keeps old⟩
 ·show upd H _ _ (s.heap.objs.size+1)=none
  rw[aP neD]
  exact fresh _ (Nat.le_succ _)
 ·rcases jA h with⟨l1,_,_⟩ | h
  ·rw[aP (Nat.ne_of_gt (Nat.lt_of_lt_of_le (Nat.lt_succ_of_lt (Nat.lt_succ_self _)) l1))]
   exact fresh _ (Nat.le_trans (Nat.le_succ_of_le (Nat.le_succ _)) l1)
  ·obtain⟨v,hv⟩:=ltc x c h
   rw[aP (Nat.ne_of_lt hv.lt)]
   exact I.freeC x c (fL h)
 ·exact I.hok.laid old (Nat.le_refl _) ⟨Nat.zero_le _,[],_,.nil,hD⟩
 ·show(nS caps tn.length σ).length=N.length
  rw[cs.eN]
  simp[nS]
end
end L2
namespace PR
open PySem PySem.Spec L2
def Fl.borrow:Fl->Fl
 | .own | .lnt=>.bor
 | f=>f
def PV.borrow(x:PV):PV:=x.mapF Fl.borrow
mutual
theorem Rel.borrow(hB:∀a,B a->B' a)(hL:∀a,L a->B' a):∀{x:PV}{v:V}{fp:List Addr},(∀a∈fp,B' a)->Rel T F B L H x v fp->Rel T F B' L' H (x.mapF Fl.borrow) v []
 | .non,_,_,_,h | .bl _,_,_,_,h | .int _,_,_,_,h | .str _,_,_,_,h=>by unfold Rel at h;simp only[PV.mapF];unfold Rel;exact⟨h.1,rfl⟩
 | .lst f xs,_,fp,hp,h=>by
  unfold Rel at h
  obtain⟨a,vs,fp',e,hl,hr,hf⟩:=h
  simp only[PV.mapF]
  unfold Rel
  cases f with
  | own =>
   obtain rfl:fp=a::fp':=hf
   exact⟨a,vs,[],e,⟨hp a List.mem_cons_self,.inl hl⟩,RelL.borrow hB hL (fun b hb=>hp b (List.mem_cons_of_mem _ hb)) hr,rfl,rfl⟩
  | frz=>obtain⟨rfl,rfl⟩:=hf;exact⟨a,vs,[],e,hl,RelL.borrow hB hL hp hr,rfl,rfl⟩
  | bor=>obtain⟨rfl,rfl⟩:=hf;exact⟨a,vs,[],e,⟨hB a hl.1,hl.2⟩,RelL.borrow hB hL hp hr,rfl,rfl⟩
  | lnt=>obtain⟨rfl,rfl⟩:=hf;exact⟨a,vs,[],e,⟨hL a hl.1,.inl hl.2⟩,RelL.borrow hB hL hp hr,rfl,rfl⟩
  | mod=>obtain⟨rfl,rfl⟩:=hf;exact⟨a,vs,[],e,hl,RelL.borrow hB hL hp hr,rfl,rfl⟩
 | .tup xs,_,fp,hp,h=>by
  unfold Rel at h
  obtain⟨a,vs,e,hl,hr⟩:=h
  simp only[PV.mapF]
  unfold Rel
  exact⟨a,vs,e,hl,RelL.borrow hB hL hp hr⟩
 | .obj f c ks xs,_,fp,hp,h=>by
  unfold Rel at h
  obtain⟨a,dx,vs,fp',e,hl,hk,hr,hf,ha⟩:=h
  simp only[PV.mapF]
  unfold Rel
  cases f with
  | own =>
   obtain rfl:fp=a::fp':=hf
   have r:=RelL.borrow hB hL (L':=L') (fun b hb=>hp b (List.mem_cons_of_mem _ hb)) hr
   exact⟨a,dx,vs,[],e,hl,⟨by rw[r.length,hk.1,hr.length],hk.2⟩,r,⟨rfl,rfl⟩,hp a List.mem_cons_self⟩
  | frz=>obtain⟨rfl,rfl⟩:=hf;have r:=RelL.borrow hB hL (L':=L') hp hr;exact⟨a,dx,vs,[],e,hl,⟨by rw[r.length,hk.1,hr.length],hk.2⟩,r,⟨rfl,rfl⟩,ha⟩
  | bor=>obtain⟨rfl,rfl⟩:=hf;have r:=RelL.borrow hB hL (L':=L') hp hr;exact⟨a,dx,vs,[],e,hl,⟨by rw[r.length,hk.1,hr.length],hk.2⟩,r,⟨rfl,rfl⟩,hB a ha⟩
  | lnt=>obtain⟨rfl,rfl⟩:=hf;have r:=RelL.borrow hB hL (L':=L') hp hr;exact⟨a,dx,vs,[],e,hl,⟨by rw[r.length,hk.1,hr.length],hk.2⟩,r,⟨rfl,rfl⟩,hL a ha⟩
  | mod=>exact ha.elim
 | .exc c,_,fp,hp,h=>by
  unfold Rel at h
  obtain⟨a,e,hl,rfl⟩:=h
  simp only[PV.mapF]
  unfold Rel
  exact⟨a,e,hl,rfl⟩
theorem RelL.borrow(hB:∀a,B a->B' a)(hL:∀a,L a->B' a):∀{xs:List PV}{vs:List V}{fp:List Addr},(∀a∈fp,B' a)->RelL T F B L H xs vs fp->RelL T F B' L' H (mapL Fl.borrow xs) vs []
 | [],_,_,_,h=>by unfold RelL at h;simp only[mapL];unfold RelL;exact⟨h.1,rfl⟩
 | x::xs,_,fp,hp,h=>by
  unfold RelL at h
  obtain⟨v,ws,f1,f2,e,h1,h2,rfl⟩:=h
  simp only[mapL]
  unfold RelL
  exact⟨v,ws,[],[],e,Rel.borrow hB hL (fun b hb=>hp b (List.mem_append_left _ hb)) h1,RelL.borrow hB hL (fun b hb=>hp b (List.mem_append_right _ hb)) h2,rfl⟩
end
mutual
theorem iQ:∀x:PV,(x.mapF Fl.borrow).has Fl.isOwn=false
 | .non | .bl _ | .int _ | .str _=>rfl
 | .lst f xs=>by simp only[PV.mapF,PV.has,borrow_ownL xs,Bool.or_false];cases f<;>rfl
 | .tup xs=>by simp only[PV.mapF,PV.has,borrow_ownL xs]
 | .obj f c ks xs=>by simp only[PV.mapF,PV.has,borrow_ownL xs,Bool.or_false];cases f<;>rfl
 | .exc _=>rfl
theorem borrow_ownL:∀xs:List PV,hasL Fl.isOwn (mapL Fl.borrow xs)=false
 | []=>rfl
 | x::xs=>by simp only[mapL,hasL,iQ x,borrow_ownL xs,Bool.or_false]
end
def ItC(T:Tb)(F B L:Addr->Prop)(H1:Hp)(J:It)(xs:List PV):Prop :=
 ∀H2,Ext H1 H2->(∀(i:Nat) x,xs[i]?=some x->J.go i H2/\∀v H3,J.yld i H2 v H3->Ext H2 H3/\∃f,(∀a∈f,∃o,H1 a=some o)/\Rel T F B L H3 x v f)/\J.stop xs.length H2
theorem ItC.of0(h:∀H2,Ext H1 H2->(∀(i:Nat) x,xs[i]?=some x->J.go i H2/\∀v H3,J.yld i H2 v H3->H3=H2/\∃f,Rel T F B L H1 x v f)/\J.stop xs.length H2):ItC T F B L H1 J xs:=fun H2 hk=>by
 obtain⟨a,b⟩:=h H2 hk
 refine⟨fun i x e=>⟨(a i x e).1,fun v H3 hy=>?_⟩,b⟩
 obtain⟨rfl,f,r⟩:=(a i x e).2 v H3 hy
 exact⟨Ext.refl,f,fun a ha=>r.there a ha,r.ext hk fun _ h=>h⟩
def GIc(T:Tb)(W:Nat->St->Hp->Prop)(B F L:Addr->Prop)(σ:St)(H:Hp)(R:It->Hp->Prop):Res (List PV)->Prop
 | .ok xs=>∀J H1 F1,Gr F H F1 H1->ItC T F1 B L H1 J xs->R J H1
 | .exc c=>∀H',Ext H H'->W c σ H'
 | .stuck=>False
def tIc(T:Tb)(W:Nat->St->Hp->Prop)(m:MI):TI:=fun σ H R=>∃Z F env fp,au T Z F H σ env fp/\GIc T W Z.B F (Own fp) σ H R (m env)
abbrev SIc(X:Cx)(T:Tb)(W:Nat->St->Hp->Prop)(tg iter:Expr)(m:MI):Prop:=PI X tg iter (tIc T W m)
def ck(m:ME):MI:=fun env=>(m env).bind fun x=>match aQ x with
 | some xs=>.ok xs
 | none=>.stuck
section
variable{X:Cx}{T:Tb}{W:Nat->St->Hp->Prop}{Z:Zn}{F F1 B L:Addr->Prop}{H H1:Hp}{σ:St}{env:En}{fp:Nat->List Addr}{D:Ends}
theorem bu(hK:X.K=T.K)(he:SE X T W e m):SIc X T W tg e (ck m):=fun pins s σ H R I h=>vj he pins s σ H R I (by
 obtain⟨Z,F,env,fp,S,q⟩:=h
 unfold ck at q
 refine tE.bind S (fun c e=>by rw[e]at q;exact q) (fun e=>by rw[e]at q;exact q) fun x v H1 F1 f1 e1 g1 r1 n1 d1 w1=>?_
 rw[e1]at q
 simp only[Res.ok_bind]at q
 cases es:aQ x with
 | none=>rw[es]at q;exact q.elim
 | some xs =>
  rw[es]at q
  obtain⟨a,vs,f',rfl,hs,hr,_⟩:=r1.seq es
  refine⟨a,rfl,?_⟩
  rw[hK]
  rcases hs with hs | hs
  ·refine .inl ⟨vs,hs,q _ H1 F1 g1 (ItC.of0 fun H2 hx=>?_)⟩
   have h2:SqL T.K H2 a vs:=by
    rcases hs with z | z
    ·exact .inl (Rd.tr (fun o q=>hx a o q) z)
    ·exact .inr z
   refine⟨fun i x ex=>?_,⟨vs,h2,by rw[hr.length];exact Nat.le_refl _⟩⟩
   obtain⟨v,f,ev,rv,_⟩:=hr.get ex
   refine⟨⟨vs,v,h2,ev⟩,fun w H3 hy=>⟨hy.1,f,?_⟩⟩
   have:=hy.2 vs h2
   rw[ev]at this
   cases this
   exact rv
  ·refine .inr ⟨vs,hs,q _ H1 F1 g1 (ItC.of0 fun H2 hx=>?_)⟩
   have h2:SqT T.K H2 a vs:=SqT.tr (fun o q _=>hx a o q) hs
   refine⟨fun i x ex=>?_,⟨vs,h2,by rw[hr.length];exact Nat.le_refl _⟩⟩
   obtain⟨v,f,ev,rv,_⟩:=hr.get ex
   refine⟨⟨vs,v,h2,ev⟩,fun w H3 hy=>⟨hy.1,f,?_⟩⟩
   have:=hy.2 vs h2
   rw[ev]at this
   cases this
   exact rv)
theorem sd:ItC T F1 B L H1 (Itr lo n) (b5 lo n):=by
 apply ItC.of0
 intro H2 _
 refine⟨fun i x ex=>?_,by simp[b5,Itr]⟩
 have hi:i < n:=by
  have:=(List.getElem?_eq_some_iff.mp ex).1
  simpa[b5]using this
 refine⟨hi,fun v H3 hy=>⟨hy.1,[],?_⟩⟩
 obtain⟨_,rfl⟩:=hy
 have:x=.int (lo+(i:Nat)):=by
  simp[b5,hi]at ex
  exact ex.symm
 subst this
 exact fh
theorem bJ(hg:Gl X "range")(hm:X.mg "range" = none)(ha:SA X T W [a] ms)(hs:starEach [a] X.env=[(false,eval a X.env)]:=by rfl):SIc X T W tg (.Call (.Name "range" p) [a] [] pos) (bI ms):=fun pins s σ H R I h=>lU hg hm ha hs pins s σ H R I (by
 obtain⟨Z,F,env,fp,S,q⟩:=h
 unfold bI at q
 refine tA.bind S (fun c e=>by rw[e]at q;exact q) (fun e=>by rw[e]at q;exact q) fun xs vs H1 F1 f1 e1 g1 r1 n1 d1 w1=>?_
 rw[e1]at q
 simp only[Res.ok_bind]at q
 split at q
 ·rename_i n
  split at q
  ·rename_i hc
   obtain⟨v,rfl,r2⟩:=r1.one
   unfold Rel at r2
   obtain⟨rfl,_⟩:=r2
   have hc':-(2 ^ 62)<= n/\n < 2 ^ 62:=by simpa[inR]using hc
   exact⟨n,rfl,hc'.1,hc'.2,q _ H1 F1 g1 sd⟩
  ·exact q.elim
 ·exact q.elim)
abbrev WF:Nat->St->Hp->Prop:=fun _ _ _=>False
def STs(X:Cx)(T:Tb)(W:Nat->St->Hp->Prop)(ifs:List Expr)(m:MT):Prop :=
 ∀(pins:List (Addr×Obj)) (s:Shared) (σ:St) (H:Hp) (Q:Bool->Hp->Prop),L2.Inv X pins σ H s->tT T W m σ H Q ->
  wpAny (model X.prog X.w) X.A (forIn ifs true fun c r=>if r=true then do let ok <- isTrue c X.env (eval c X.env);pure (ForInStep.yield ok)else pure (ForInStep.yield r)) (TP X pins σ Q) X.xe s
def bH:MT:=fun _=>.ok true
theorem a9:STs X T W [] bH:=fun pins s σ H Q I ⟨Z,F,env,fp,S,q⟩=>wpAny_tests_nil ⟨H,I,q H F (Gr.refl S.hp.ft)⟩
theorem cm(h:ST X T W c m):STs X T W [c] m:=fun pins s σ H Q I q=>wpAny_tests_one (h pins s σ H Q I q)
structure gg(g:TgM)(k:Nat):Prop where
 keep:∀x env e',g x env=some e'->e'.length=env.length/\∀j < k,e'[j]?=env[j]?
 own:∀x env e',g x env=some e'->x.has Fl.isOwn=false->∀(j:Nat) pv,e'[j]?=some (some pv)->env[j]?=some (some pv)\/ pv.has Fl.isOwn=false
structure kq(g:qY)(k:Nat):Prop where
 keep:∀x env e',g x env=some e'->e'.length=env.length/\∀j < k,e'[j]?=env[j]?
 own:∀x env e',g x env=some e'->hasL Fl.isOwn x=false->∀(j:Nat) pv,e'[j]?=some (some pv)->env[j]?=some (some pv)\/ pv.has Fl.isOwn=false
theorem uF(h:k<=i):gg (tgN i) k:=by
 refine⟨fun x env e' e=>?_,fun x env e' e hx j pv hj=>?_⟩
 ·unfold tgN at e
  split at e
  ·cases e
   exact⟨by simp,fun j hj=>List.getElem?_set_ne (by omega)⟩
  ·cases e
 ·unfold tgN at e
  split at e
  ·cases e
   by_cases hij:i=j
   ·subst hij
    have hl:i < env.length:=by
     have:=(List.getElem?_eq_some_iff.mp hj).1
     simpa using this
    rw[List.getElem?_set_self hl]at hj
    cases hj
    exact .inr hx
   ·rw[List.getElem?_set_ne hij]at hj
    exact .inl hj
  ·cases e
theorem gE:kq eE k:=by
 refine⟨fun x env e' e=>?_,fun x env e' e _ j pv hj=>?_⟩
 ·cases x with
  | nil=>cases e;exact⟨rfl,fun _ _=>rfl⟩
  | cons _ _=>cases e
 ·cases x with
  | nil=>cases e;exact .inl hj
  | cons _ _=>cases e
theorem cC(h1:gg g k)(h2:kq u k):kq (bf g u) k:=by
 refine⟨fun x env e' e=>?_,fun x env e' e hx j pv hj=>?_⟩
 ·cases x with
  | nil=>cases e
  | cons y ys =>
   simp only[bf]at e
   cases e1:g y env with
   | none=>rw[e1]at e;cases e
   | some e2 =>
    rw[e1]at e
    obtain⟨l1,k1⟩:=h1.keep y env e2 e1
    obtain⟨l2,k2⟩:=h2.keep ys e2 e' e
    exact⟨l2.trans l1,fun j hj=>(k2 j hj).trans (k1 j hj)⟩
 ·cases x with
  | nil=>cases e
  | cons y ys =>
   simp only[hasL,Bool.or_eq_false_iff]at hx
   simp only[bf]at e
   cases e1:g y env with
   | none=>rw[e1]at e;cases e
   | some e2 =>
    rw[e1]at e
    rcases h2.own ys e2 e' e hx.2 j pv hj with z | z
    ·exact h1.own y env e2 e1 hx.1 j pv z
    ·exact .inr z
theorem iU(h:kq u k):gg (tgT n u) k:=by
 refine⟨fun x env e' e=>?_,fun x env e' e hx j pv hj=>?_⟩
 ·cases x with
  | tup xs =>
   simp only[tgT]at e
   split at e
   ·exact h.keep xs env e' e
   ·cases e
  | _=>cases e
 ·cases x with
  | tup xs =>
   simp only[tgT]at e
   simp only[PV.has]at hx
   split at e
   ·exact h.own xs env e' e hx j pv hj
   ·cases e
  | _=>cases e
def bB(caps:List Nat)(k:Nat)(env:En):En:=caps.map (fun i=>((env[i]?).join).map PV.borrow)++ List.replicate k none
def cY(g:TgM)(mc:MT)(me:ME)(env:En):List PV->Res (List PV)
 | []=>.ok []
 | x::xs=>match g x.borrow env with
  | none=>.stuck
  | some e=>(mc e).bind fun b=>if b then(me e).bind fun y=>if y.has Fl.isBor||y.has Fl.isLnt then .stuck else(cY g mc me env xs).bind fun ys=>.ok (y::ys)else cY g mc me env xs
def aT(caps:List Nat)(k:Nat)(mi:MI)(g:TgM)(mc:MT)(me:ME):ME:=fun env=>(mi env).bind fun xs=>if xs.length <= 10000000 then (match cY g mc me (bB caps k env) xs with
 | .ok ys=>.ok (.lst .own ys)
 | _=>.stuck)else .stuck
end
section
variable{prog:Program}{w:World}{A:Around}{R:Result->Shared->Prop}{s:Shared}
theorem nQ(I:Nat->Shared->Prop)
  (turn:∀ n s,I n s->wpAny (model prog w) A (pyNext it) (fun r s₁=>match r with
   | none=>R (.ok .next) s₁
   | some v=>wpAny (model prog w) A (letOwnedTupleGo target it v) (fun _ s₁'=>wpAny (model prog w) A (assign target env v) (fun _ s₂ =>
     wpAny (model prog w) A (forIn ifs true fun c r=>if r=true then do let ok <- isTrue c env (eval c env);pure (ForInStep.yield ok) else pure (ForInStep.yield r)) (fun ok s₃ =>
      if ok=true then wpAny (model prog w) A (eval elt env) (fun x s₄ =>
       wpAny (model prog w) A (call (.builtin "list.append") [acc,x]) (fun _ s₅=>∃m,m < n/\I m s₅) (notedBy (model prog w) A env fun e s'=>R (.error e) s') s₄) (notedBy (model prog w) A env fun e s'=>R (.error e) s') s₃
      else ∃m,m < n/\I m s₃) (notedBy (model prog w) A env fun e s'=>R (.error e) s') s₂) (notedBy (model prog w) A env fun e s'=>R (.error e) s') s₁') (notedBy (model prog w) A env fun e s'=>R (.error e) s') s₁) (notedBy (model prog w) A env fun e s'=>R (.error e) s') s)
  (n:Nat) (h:I n s) :
  codeAny (model prog w) A (.compLoop (.ListComp elt [⟨target,iter,ifs,0⟩] scope pos) 0 it acc env) R s:=by
 refine codeAny_loop rfl I (fun n s hI=>?_) n h
 show wpAny _ A ((compTurn (.ListComp elt [⟨target,iter,ifs,0⟩] scope pos) 0 it acc env).onRaise (fun x=>do noteFrame x env;theTreesLotGoes x)) _ _ s
 refine wpAny_noted ?_
 rw[compTurn_list]
 refine wpAny_bind (wpAny_standAt (wpAny_bind (wpAny_mono (turn n s hI) (fun r s₁ h₁=>?_) fun _ _ h'=>h')))
 cases r with
 | none=>exact wpAny_pure h₁
 | some v =>
  refine wpAny_bind (wpAny_mono h₁ (fun _ s₁' h₁'=>?_) fun _ _ h'=>h')
  refine wpAny_bind (wpAny_mono h₁' (fun _ s₂ h₂=>wpAny_bind (wpAny_mono h₂ (fun ok s₃ h₃=>?_) fun _ _ h'=>h')) fun _ _ h'=>h')
  cases ok with
  | false=>exact wpAny_pure ⟨rfl,h₃⟩
  | true =>
   exact wpAny_bind (wpAny_bind (wpAny_mono h₃ (fun x s₄ h₄=>wpAny_bind (wpAny_mono h₄ (fun _ s₅ h₅=>wpAny_pure (wpAny_pure ⟨rfl,h₅⟩)) fun _ _ h'=>h')) fun _ _ h'=>h'))
end
end PR
namespace PR
open PySem PySem.Spec L2
section
variable{X:Cx}{T:Tb}{W:Nat->St->Hp->Prop}{Z:Zn}{F F1 B L:Addr->Prop}{H H1:Hp}{σ:St}{env:En}{fp:Nat->List Addr}{D:Ends}
theorem au.wk(S:au T Z F H σ env fp)(hpin:Z.pin=none)(hl:e2.length=env.length)(h:∀(i:Nat) pv,e2[i]?=some (some pv)->env[i]?=some (some pv)):au T Z F H σ e2 fp :=
 ⟨S.hp,S.len.trans hl.symm,fun i pv e=>S.rel i pv (h i pv e),S.nd,S.dj,S.dis,S.new,S.ch,fun v hv=>by rw[hpin]at hv;cases hv⟩
theorem au.noOwn(S:au T Z F H σ env fp)(h:∀(i:Nat) pv,env[i]?=some (some pv)->pv.has Fl.isOwn=false):au T Z F H σ env (fun _=>[]) :=
 ⟨S.hp,S.len,fun i pv e=>by
  obtain⟨v,h1,h2⟩:=S.rel i pv e
  have:=Rel.noOwn (h i pv e) h2
  rw[this]at h2
  exact⟨v,h1,h2⟩,fun _=>List.nodup_nil,fun _ _ _ _ z=>(nomatch z),fun _ _ z=>(nomatch z),fun _ _ z=>(nomatch z),fun _ _ z=>(nomatch z),S.pn⟩
theorem au.updD(S:au T Z F H σ env (fun _=>[]))(hF:¬F Dd)(h0:Z.H0 Dd=none)(hD:H Dd=some o)(hfx:¬jt o):au T Z F (upd H Dd o') σ env (fun _=>[]):=by
 have ne:∀a u,H a=some u->(F a\/Z.B a\/NoL a\/jt u)->a≠Dd:=fun a u e h z=>by
  subst z
  rcases h with h | h | h | h
  ·exact hF h
  ·obtain⟨⟨u',e'⟩,_⟩:=S.hp.bo _ h
   rw[h0]at e';cases e'
  ·exact h
  ·rw[hD]at e;cases e;exact hfx h
 refine⟨⟨S.hp.bo,fun a u e n=>?_,S.hp.f0,S.hp.fn,fun a h=>?_⟩,S.len,fun i pv e=>?_,S.nd,S.dj,fun _ _ z=>(nomatch z),S.new,fun _ _ z=>(nomatch z),S.pn⟩
 ·have:a≠Dd:=fun z=>by rw[z,h0]at e;cases e
  rw[aP this]
  exact S.hp.keep a u e n
 ·obtain⟨u,e⟩:=S.hp.ft a h
  exact⟨u,by rw[aP (show a≠Dd from fun z=>hF (by rw[<- z];exact h))];exact e⟩
 ·obtain⟨v,h1,h2⟩:=S.rel i pv e
  refine⟨v,h1,Rel.tr (fun _ h=>h) (fun _ h=>h) (fun _ h=>h) (fun a u q h=>?_) (fun _ z=>(nomatch z)) h2⟩
  rw[aP (ne a u q h)]
  exact q
def zC(F:Addr->Prop)(H:Hp):Zn:=⟨H,F,fun _=>False,fun a=>∃o,H a=some o,none⟩
theorem ul(S:au T Z F H σ env fp)(hD:H Dd=none)(hFD:¬F Dd) :
  au T (zC F H) F (upd H Dd (.lst [])) (nS caps k σ) (bB caps k env) (fun _=>[]):=by
 have ext:Ext H (upd H Dd (.lst [])):=Ext.upd hD
 refine⟨⟨fun a h=>⟨h,fun z=>z⟩,fun a o h _=>ext a o h,fun _ h=>h,fun _ h=>.inl h,fun a h=>let⟨o,e⟩:=S.hp.ft a h;⟨o,ext a o e⟩⟩,by simp[nS,bB],fun i pv e=>?_,fun _=>List.nodup_nil,fun _ _ _ _ z=>(nomatch z),fun _ _ z=>(nomatch z),fun _ _ z=>(nomatch z),fun _ _ z=>(nomatch z),fun _ h=>(nomatch h)⟩
 unfold bB at e
 unfold nS
 by_cases hi:i < caps.length
 ·rw[List.getElem?_append_left (by simpa using hi),List.getElem?_map]at e ⊢
  obtain⟨j,hj,e2⟩:=Option.map_eq_some_iff.mp e
  rw[hj]
  obtain⟨pv0,e3,rfl⟩:=Option.map_eq_some_iff.mp e2
  have e4:env[j]?=some (some pv0):=by
   cases e5:env[j]? with
   | none=>rw[e5]at e3;cases e3
   | some w=>rw[e5]at e3;simp only[Option.join_some]at e3;rw[e3]
  obtain⟨v,h1,h2⟩:=S.rel j pv0 e4
  refine⟨v,by simp[h1],?_⟩
  refine Rel.borrow (B:=fun a=>∃o,H a=some o) (L:=NoL) (fun _ h=>h) (fun _ h=>h.elim) (fun a ha=>(S.dis j a ha).2) ?_
  exact Rel.tr (fun _ h=>h) (fun a h=>let⟨⟨o,h1⟩,h2⟩:=S.hp.bo a h;⟨o,S.hp.keep a o h1 h2⟩) (fun _ h=>h) (fun a o q _=>ext a o q) (fun a _ o q=>ext a o q) h2
 ·rw[List.getElem?_append_right (by simpa using hi),List.getElem?_replicate]at e
  split at e<;>cases e
set_option maxHeartbeats 1000000 in
theorem mD
  (cs:dR X scope caps N tn) (hc:X.calm=true) (hi:SIc X T W tg iter mi) (hk:gg g caps.length)
  (hb:∀C s H ex,SG (cxC X scope C N s H ex) T tg g/\STs (cxC X scope C N s H ex) T WF ifs mc/\SE (cxC X scope C N s H ex) T WF elt me)
  (hs:∀x,foldedSetIterable iter X.env x=pure x) (I:L2.Inv X pins σ H s) (h:tE T W (aT caps tn.length mi g mc me) σ H Q)
  (hfin:∀(Dd C:Addr) (H':Hp) (s6:Shared) (m:Str->Option Value),Q (.ref Dd) H'->L2.Inv X pins σ H' s6->s6.heap.Ns C m->H' C=none->C≠X.env.locals->C∉X.fs->X.s₀.heap.objs.size<=C->(∀x c,X.env.cells.lookup x=some c->c≠C)->(∀p∈X.pn++pins,p.1≠C)->compPost (model X.prog X.w) X.A X.xe use Q' (.ref Dd) C (.ok .next) s6) :
  wpAny (model X.prog X.w) X.A (comprehension (.ListComp elt [⟨tg,iter,ifs,0⟩] scope pos) scope X.env p' (newList []) false (eval iter X.env) use) Q' X.xe s:=by
 obtain⟨Z,F,env,fp,S,q⟩:=h
 unfold aT at q
 refine wpAny_comprehension_free (use:=use) rfl hs (lz fun y hy hf=>I.ok.has y.1 (cs.free y hy hf)) cs.kind cs.names ?_
 refine thn (hi pins s σ H (fun J H1=>∃F1 xs,mi env=.ok xs/\Gr F H F1 H1/\ItC T F1 Z.B (Own fp) H1 J xs) I ⟨Z,F,env,fp,S,?_⟩) fun xv s1 h1=>thn h1 fun itv s2 h2=>?_
 ·cases em:mi env with
  | ok xs=>exact fun J H1 F1 g1 it=>⟨F1,xs,rfl,g1,it⟩
  | exc c | stuck=>rw[em]at q;exact q
 obtain⟨it,fpi,tn_,J,H2,rfl,I2,Tn,st2,f2,F1,xs,em,g1,itc⟩:=h2
 rw[em]at q
 simp only[Res.ok_bind]at q
 split at q
 case isFalse=>exact q.elim
 rename_i hlen
 cases ec:cY g mc me (bB caps tn.length env) xs with
 | exc c | stuck=>rw[ec]at q;exact q.elim
 | ok full =>
 rw[ec]at q
 dsimp only at q
 have S2:=S.grow g1
 have hlt:∀b∈fpi,b < s2.heap.objs.size:=fun b hb=>by
  obtain⟨o,ho,_⟩:=Tn.obj 0 _ st2 b hb
  exact Heap.lt_size ho
 refine PySem.wpAny_newObj_type (oR fun h₁ hns₁ hsb₁ hcl₁=>?_)
 dsimp only at hns₁ hsb₁ hcl₁ ⊢
 generalize hH2:s2.heap.push { cls:=.type "list", dict:=none,data:=.seq ([]:List Value).toArray }=P2 at hns₁ hsb₁ hcl₁ ⊢
 have hC:P2.objs.size=s2.heap.objs.size+1:=by rw[<- hH2,Heap.size_push]
 have old:∀b o,s2.heap.get? b=some o->h₁.get? b=some o:=fun b o e=>hsb₁ b o (hH2▸Heap.get?_push_of_some _ e)
 have hDo:h₁.get? s2.heap.objs.size=some { cls:=.type "list", data:=.seq ([]:List Value).toArray }:=hsb₁ _ _ (hH2▸Heap.get?_push_size _ rfl)
 rw[hC]at hns₁ hcl₁
 have inv0:=we (t:=s2.toks) cs I2 f2 hlt hns₁ hDo old hcl₁
 have hDH:H2 s2.heap.objs.size=none:=I2.hok.fresh (Nat.le_refl _)
 have hDF:¬F1 s2.heap.objs.size:=fun z=>by obtain⟨o,e⟩:=g1.dom _ z;rw[hDH]at e;cases e
 have SB:=ul (caps:=caps) (k:=tn.length) S2 hDH hDF
 obtain⟨hgN,hts,hel⟩:=hb (s2.heap.objs.size+1) s2 H2 fpi
 have never:∀{α:Type}{t:Sem α}{Qa:α->Shared->Prop}{E':Value->Shared->Prop}{s':Shared},wpAny (model X.prog X.w) X.A t Qa (fun _ _=>False) s'->wpAny (model X.prog X.w) X.A t Qa E' s':=fun h=>wpAny_mono h (fun _ _ x=>x) fun _ _ z=>z.elim
 have fpok:∀{H':Hp}{pins':List (Addr×Obj)},(∀p∈pins',p.1∉fpi)->(∀b∈fpi,H' b=none)->∀b∈fpi,lh (cxC X scope (s2.heap.objs.size+1) N s2 H2 fpi) pins' H' b:=fun {H' pins'} hp hn b hb=>by
  refine⟨hn b hb,Nat.ne_of_lt (Nat.lt_succ_of_lt (hlt b hb)),(qU cs I2 f2 hlt (Nat.le_succ _)).exfs b hb,.inl hb,((qU cs I2 f2 hlt (Nat.le_succ _)).exf b hb).2,fun p hp' z=>?_⟩
  rcases List.mem_append.mp hp' with w | w
  ·exact absurd (show p ∈([]:List (Addr×Obj))from w) (by simp)
  ·exact hp p w (z▸hb)
 have key:∀s4:Shared,L2.Inv (cxC X scope (s2.heap.objs.size+1) N s2 H2 fpi) [] (nS caps tn.length σ) (upd H2 s2.heap.objs.size (.lst [])) s4->tn_ 0 s4.heap ->
   codeAny (model X.prog X.w) X.A (.compLoop (.ListComp elt [⟨tg,iter,ifs,0⟩] scope pos) 0 (.ref it) (.ref s2.heap.objs.size) (compEnvC scope (pL X scope (s2.heap.objs.size+1)) (s2.heap.objs.size+1) X.env))
    (compPost (model X.prog X.w) X.A X.xe use Q' (.ref s2.heap.objs.size) (s2.heap.objs.size+1)) s4:=by
  intro s4 inv4 st4
  refine nQ (fun n s'=>∃ (i:Nat) (σ':St) (H':Hp) (Fi:Addr->Prop) (ys zs:List PV) (vs:List V) (f:List Addr),n=xs.length - i/\i <= xs.length/\L2.Inv (cxC X scope (s2.heap.objs.size+1) N s2 H2 fpi) [] σ' H' s'/\tn_ i s'.heap/\(∀ b ∈ fpi,H' b=none) /\
   au T (zC F1 H2) Fi H' σ' (bB caps tn.length env) (fun _=>[])/\H' s2.heap.objs.size=some (.lst vs)/\RelL T Fi Z.B (Own fp) H' ys vs f/\f.Nodup/\(∀a∈f,¬Fi a/\H2 a=none/\a≠s2.heap.objs.size)/\¬Fi s2.heap.objs.size/\ys.length<=i /\
   cY g mc me (bB caps tn.length env) (xs.drop i)=.ok zs/\full=ys++zs) ?_ xs.length ?_
  case refine_2 =>
   refine⟨0,_,_,F1,[],full,[],[],by simp,Nat.zero_le _,inv4,st4,fun b hb=>?_,SB,bM,by unfold RelL;exact⟨rfl,rfl⟩,List.nodup_nil,fun _ z=>(nomatch z),hDF,Nat.zero_le _,ec,rfl⟩
   rw[aP (Nat.ne_of_lt (hlt b hb))]
   exact(f2 b hb).1
  rintro n s5 ⟨i,σ',H',Fi,ys,zs,vs,f,rfl,hil,inv5,st5,fr5,SI5,hD5,ry,nd5,nf5,nFD,hyl,ecl,efull⟩
  have ext5:Ext H2 H':=fun a o e=>SI5.hp.keep a o e fun z=>z
  have gr5:Gr F1 H2 Fi H':=⟨ext5,SI5.hp.f0,fun a h=>by
   rcases SI5.hp.fn a h with z | z | z
   ·exact .inl z
   ·exact .inr z
   ·exact z.elim,SI5.hp.ft⟩
  obtain⟨go,stop⟩:=itc H' ext5
  by_cases hlt5:i < xs.length
  ·have hx:xs[i]?=some xs[i]:=by simp[hlt5]
   obtain⟨g5,yl⟩:=go i _ hx
   rw[List.drop_eq_getElem_cons hlt5]at ecl
   unfold cY at ecl
   cases eg:g xs[i].borrow (bB caps tn.length env)with
   | none=>rw[eg]at ecl;cases ecl
   | some e' =>
   rw[eg]at ecl
   dsimp only at ecl
   refine thn (Tn.item (cxC X scope (s2.heap.objs.size+1) N s2 H2 fpi) rfl rfl rfl hc i [] s5 σ' H' _ inv5 (fpok (fun _ z=>absurd z (by simp)) fr5) st5 g5) fun r s6 hz1=>?_
   obtain⟨u,hr,h6⟩:=hz1
   subst hr
   refine thn h6 fun _ s7 hz1=>?_
   obtain⟨v,H7,inv7,rv,yy,st7,fr7⟩:=hz1
   obtain⟨ex7,fx,tx,rx⟩:=yl v H7 yy
   replace SI5:=SI5.grow (Gr.same SI5.hp.ft ex7)
   replace ry:=ry.ext ex7 fun _ h=>h
   replace hD5:=ex7 _ _ hD5
   replace gr5:=gr5.trans (Gr.same gr5.dom ex7)
   replace ext5:=gr5.ext
   have pinv:=inv7.pinned (fpok (fun _ z=>absurd z (by simp)) fr7) (Tn.obj _ _ st7)
   have rxb:Rel T Fi (zC F1 H2).B NoL H7 xs[i].borrow v []:=by
    refine Rel.borrow (B:=fun a=>∃o,H2 a=some o) (L:=Own fp) (fun _ h=>h) (fun a ⟨j,hj⟩=>(S2.dis j a hj).2) (fun a ha=>tx a ha) ?_
    exact Rel.tr SI5.hp.f0 (fun a h=>let⟨⟨o,h1⟩,h2⟩:=S2.hp.bo a h;⟨o,S2.hp.keep a o h1 h2⟩) (fun _ h=>h) (fun a o q _=>q) (fun a _ o q=>q) rx
   refine never (thn (hgN _ s7 σ' H7 v u (fun σ8 H8=>H8=H7/\∃fp8,au T (zC F1 H2) Fi H7 σ8 e' fp8) pinv rv ⟨zC F1 H2,Fi,bB caps tn.length env,fun _=>[],xs[i].borrow,[],SI5,rxb,uu.nil,?_⟩) fun _ s8 ⟨σ8,H8,inv8,e8,fp8,S8⟩=>?_)
   ·rw[eg]
    exact fun σ8 fp8 S8=>⟨rfl,fp8,S8⟩
   subst e8
   obtain⟨kl,kk⟩:=hk.keep _ _ _ eg
   have capOwn:∀(j:Nat) pv,(bB caps tn.length env)[j]?=some (some pv)->pv.has Fl.isOwn=false:=fun j pv ej=>by
    unfold bB at ej
    by_cases hj:j < caps.length
    ·rw[List.getElem?_append_left (by simpa using hj),List.getElem?_map]at ej
     obtain⟨jj,_,e2⟩:=Option.map_eq_some_iff.mp ej
     obtain⟨pv0,_,rfl⟩:=Option.map_eq_some_iff.mp e2
     exact iQ pv0
    ·rw[List.getElem?_append_right (by simpa using hj),List.getElem?_replicate]at ej
     split at ej<;>cases ej
   have S8':au T (zC F1 H2) Fi H8 σ8 e' (fun _=>[]):=S8.noOwn fun j pv ej=>by
    rcases hk.own _ _ _ eg (iQ _) j pv ej with z | z
    ·exact capOwn j pv z
    ·exact z
   have back:∀{F9:Addr->Prop}{H9:Hp},au T (zC F1 H2) F9 H9 σ8 e' (fun _=>[])->au T (zC F1 H2) F9 H9 σ8 (bB caps tn.length env) (fun _=>[]):=fun S9=>S9.wk rfl kl.symm fun j pv ej=>by
    have hj:j < caps.length:=by
     by_cases hj:j < caps.length
     ·exact hj
     ·unfold bB at ej
      rw[List.getElem?_append_right (by simpa using hj),List.getElem?_replicate]at ej
      split at ej<;>cases ej
    rw[kk j hj]
    exact ej
   have pinback:∀{H9:Hp}{s9:Shared},L2.Inv (cxC X scope (s2.heap.objs.size+1) N s2 H2 fpi) ([]++ kI fpi s7.heap) σ8 H9 s9->L2.Inv (cxC X scope (s2.heap.objs.size+1) N s2 H2 fpi) [] σ8 H9 s9/\tn_ (i+1) s9.heap/\∀b∈fpi,H9 b=none:=fun {H9 s9} i9 =>
    ⟨i9.unpinned,Tn.keep _ _ _ st7 fun b hb o e=>(i9.pin (b,o) (List.mem_append_right _ (List.mem_append_right _ (f6 hb e)))).1,fun b hb=>by
     obtain⟨o,e,_⟩:=Tn.obj _ _ st7 b hb
     exact(i9.pin (b,o) (List.mem_append_right _ (List.mem_append_right _ (f6 hb e)))).2.1⟩
   cases emc:mc e' with
   | exc c | stuck=>rw[emc]at ecl;cases ecl
   | ok bb =>
   rw[emc]at ecl
   simp only[Res.ok_bind]at ecl
   refine never (thn (hts _ s8 σ8 H8 (fun b H9=>b=bb/\∃F9,Gr Fi H8 F9 H9) inv8 ⟨zC F1 H2,Fi,e',fun _=>[],S8',?_⟩) fun ok s9 ⟨H9,inv9,eb,F9,g9⟩=>?_)
   ·rw[emc]
    exact fun H9 F9 g9=>⟨rfl,F9,g9⟩
   subst eb
   have S9:=S8'.grow g9
   have ry9:=ry.ext g9.ext g9.mono
   have nf9:∀a∈f,¬F9 a:=fun a ha z=>by
    rcases g9.only a z with z | z
    ·exact(nf5 a ha).1 z
    ·obtain⟨o,e⟩:=ry.there a ha
     rw[e]at z;cases z
   have nFD9:¬F9 s2.heap.objs.size:=fun z=>by
    rcases g9.only _ z with z | z
    ·exact nFD z
    ·rw[hD5]at z;cases z
   cases ok with
   | false =>
    simp only[Bool.false_eq_true,if_false]at ecl ⊢
    obtain⟨i10,st10,fr10⟩:=pinback inv9
    exact⟨xs.length - (i+1),by omega,i+1,σ8,H9,F9,ys,zs,vs,f,rfl,hlt5,i10,st10,fr10,back S9,g9.ext _ _ hD5,ry9,nd5,fun a ha=>⟨nf9 a ha,(nf5 a ha).2⟩,nFD9,by omega,ecl,efull⟩
   | true =>
    simp only[if_true]at ecl ⊢
    cases eme:me e' with
    | exc c | stuck=>rw[eme]at ecl;cases ecl
    | ok y =>
    rw[eme]at ecl
    simp only[Res.ok_bind]at ecl
    split at ecl
    case isTrue=>cases ecl
    rename_i hyb
    simp only[Bool.or_eq_true,not_or,Bool.not_eq_true]at hyb
    cases ecr:cY g mc me (bB caps tn.length env) (xs.drop (i+1))with
    | exc c | stuck=>rw[ecr]at ecl;cases ecl
    | ok zs' =>
    rw[ecr]at ecl
    simp only[Res.ok_bind]at ecl
    cases ecl
    refine never (thn (hel _ s9 σ8 H9 (fun v' H10=>∃F10 f10,Gr F9 H9 F10 H10/\Rel T F10 (zC F1 H2).B (Own fun _=>[]) H10 y v' f10/\(∀a∈f10,¬F10 a)/\f10.Nodup/\∀a∈f10,H9 a=none) inv9 ⟨zC F1 H2,F9,e',fun _=>[],S9,?_⟩) fun w s10 ⟨v',H10,inv10,rw10,F10,f10,g10,r10,n10,d10,w10⟩=>?_)
    ·rw[eme]
     exact fun v' H10 F10 f10 g10 r10 n10 d10 w10=>⟨F10,f10,g10,r10,n10,d10,w10⟩
    have hvl:vs.length < sizeLine:=by
     have h1:=ry.length
     have h2:sizeLine=16777216:=sizeLine_eq
     omega
    have hD10:H10 s2.heap.objs.size=some (.lst vs):=g10.ext _ _ (g9.ext _ _ hD5)
    refine never (thn (jG _ s10 σ8 H10 (.ref s2.heap.objs.size) [v'] (.ref s2.heap.objs.size) [w] (fun _ H11=>H11=upd H10 s2.heap.objs.size (.lst (vs++[v']))) inv10 rfl (.cons rw10 .nil) ⟨s2.heap.objs.size,vs,v',rfl,rfl,hD10,hvl,rfl⟩) fun _ s11 ⟨_,H11,inv11,_,e11⟩=>?_)
    subst e11
    obtain⟨i12,st12,fr12⟩:=pinback inv11
    have S10:=S9.grow g10
    have nFD10:¬F10 s2.heap.objs.size:=fun z=>by
     rcases g10.only _ z with z | z
     ·exact nFD9 z
     ·rw[g9.ext _ _ hD5]at z;cases z
    have ry10:=ry9.ext g10.ext g10.mono
    have ryy:RelL T F10 Z.B (Own fp) (upd H10 s2.heap.objs.size (.lst (vs++[v']))) (ys++[y]) (vs++[v']) (f++f10):=by
     have ry1:Rel T F10 Z.B (Own fp) H10 y v' f10:=Rel.noL hyb.2 (Rel.noB (B':=Z.B) hyb.1 r10)
     have all:RelL T F10 Z.B (Own fp) H10 (ys++[y]) (vs++[v']) (f++f10):=RelL.append ry10 (by unfold RelL;exact⟨v',[],f10,[],rfl,ry1,by unfold RelL;exact⟨rfl,rfl⟩,by simp⟩)
     refine RelL.tr (fun _ h=>h) (fun _ h=>h) (fun _ h=>h) (fun a o e h=>?_) (fun a ha o e=>?_) all
     ·refine(aP fun z=>?_).trans e
      subst z
      rcases h with h | h | h | h
      ·exact nFD10 h
      ·obtain⟨⟨o',h1⟩,h2⟩:=S2.hp.bo _ h
       rw[S2.hp.keep _ o' h1 h2]at hDH;cases hDH
      ·obtain⟨j,hj⟩:=h
       obtain⟨_,o',ho'⟩:=S2.dis j _ hj
       rw[hDH]at ho';cases ho'
      ·rw[hD10]at e;cases e;exact h
     ·refine(aP fun z=>?_).trans e
      subst z
      rcases List.mem_append.mp ha with ha | ha
      ·exact(nf5 _ ha).2.2 rfl
      ·have:=w10 _ ha
       rw[g9.ext _ _ hD5]at this;cases this
    have nf10:∀a∈f,¬F10 a:=fun a ha z=>by
     rcases g10.only a z with z | z
     ·exact nf9 a ha z
     ·obtain⟨o,e⟩:=ry9.there a ha
      rw[e]at z;cases z
    refine⟨xs.length - (i+1),by omega,i+1,σ8,_,F10,ys++[y],zs',vs++[v'],f++f10,rfl,hlt5,i12,st12,fr12,back (S10.updD nFD10 hDH hD10 (fun z=>z)),bM,ryy,?_,fun a ha=>?_,nFD10,by simp;omega,ecr,by rw[efull,List.append_assoc];rfl⟩
    ·refine List.nodup_append.mpr ⟨nd5,d10,fun a ha b hb z=>?_⟩
     subst z
     obtain⟨o,e⟩:=ry9.there a ha
     rw[w10 a hb]at e;cases e
    ·rcases List.mem_append.mp ha with ha | ha
     ·exact⟨nf10 a ha,(nf5 a ha).2⟩
     ·refine⟨n10 a ha,?_,fun z=>?_⟩
      ·have:=w10 a ha
       exact ext5.free (g9.ext.free this)
      ·subst z
       have:=w10 _ ha
       rw[g9.ext _ _ hD5]at this;cases this
  ·have e:i=xs.length:=by omega
   subst e
   rw[List.drop_length]at ecl
   unfold cY at ecl
   cases ecl
   rw[List.append_nil]at efull
   subst efull
   refine thn (Tn.done (cxC X scope (s2.heap.objs.size+1) N s2 H2 fpi) rfl rfl rfl hc xs.length [] s5 σ' H' _ inv5 (fpok (fun _ z=>absurd z (by simp)) fr5) st5 stop) fun r s6 hz1=>?_
   obtain⟨hr,inv6⟩:=hz1
   subst hr
   obtain⟨m,hn,_⟩:=id inv6.loc
   have hlc:X.env.locals < s2.heap.objs.size+1:=Nat.lt_succ_of_lt I2.lt
   have iX:L2.Inv X pins σ H' s6:=I2.call' inv6.os inv6.base inv6.hok inv6.bare fun b hb=>⟨(f2 b hb).2.2.2.1,(f2 b hb).2.1,(f2 b hb).2.2.2.2.1,(f2 b hb).2.2.2.2.2⟩
   refine hfin _ (s2.heap.objs.size+1) H' s6 m ?_ iX hn inv6.free (Nat.ne_of_gt hlc) (I2.nofs (Nat.le_succ _)) (Nat.le_trans I2.sz (Nat.le_succ _)) (fun x c e z=>?_) (fun p hp z=>?_)
   case refine_2 =>
    obtain⟨v,hv⟩:=I2.cell x c e
    rw[z]at hv
    exact absurd hv.lt (Nat.not_lt.mpr (Nat.le_succ _))
   case refine_3 =>
    have:=Heap.lt_size (I2.pin p hp).1
    rw[z]at this
    exact absurd this (Nat.not_lt.mpr (Nat.le_succ _))
   refine q (.ref s2.heap.objs.size) H' Fi (s2.heap.objs.size::f) (g1.trans gr5) ?_ (fun a ha=>?_) ?_ (fun a ha=>?_)
   ·unfold Rel
    exact⟨_,vs,f,rfl,hD5,ry,rfl⟩
   ·rcases List.mem_cons.mp ha with rfl | ha
    ·exact nFD
    ·exact(nf5 a ha).1
   ·exact List.nodup_cons.mpr ⟨fun z=>(nf5 _ z).2.2 rfl,nd5⟩
   ·rcases List.mem_cons.mp ha with rfl | ha
    ·exact g1.ext.free hDH
    ·exact g1.ext.free (nf5 a ha).2.1
 have st0:tn_ 0 h₁:=Tn.keep _ _ _ st2 fun b _ o e=>old b o e
 have lp:=key _ inv0 st0
 simp only[hC]
 exact codeAny_compStart_list lp (Tn.self _ 0 _ _ _ st0 lp)
theorem yC
  (cs:dR X scope caps N tn) (hc:X.calm=true) (hi:SIc X T W tg iter mi) (hk:gg g caps.length)
  (hb:∀C s H ex,SG (cxC X scope C N s H ex) T tg g/\STs (cxC X scope C N s H ex) T WF ifs mc/\SE (cxC X scope C N s H ex) T WF elt me)
  (hs:∀x,foldedSetIterable iter X.env x=pure x:=by intro _;rfl):SE X T W (.ListComp elt [⟨tg,iter,ifs,0⟩] scope pos) (aT caps tn.length mi g mc me):=by
 intro pins s σ H Q I h
 rw[eval_ListComp]
 refine mD cs hc hi hk hb hs I h fun Dd C H' s6 m hq iX hn hCn hCl hCf hC0 hCc hCp=>⟨m,hn,fun h' hs'=>⟨.ref Dd,H',?_,rfl,hq⟩⟩
 exact iX.turned (t':=s6.toks) (fun b o hb e=>(hs'.2 b hb).trans e) hCn hCl (.inr hC0) hCc hCp
theorem yo
  (cs:dR X scope caps N tn) (hc:X.calm=true) (hN:X.N.Nodup) (hy:X.N[i]?=some y) (hx:Loc X.env.scope y) (hi:SIc X T W tg iter mi) (hk:gg g caps.length)
  (hb:∀C s H ex,SG (cxC X scope C N s H ex) T tg g/\STs (cxC X scope C N s H ex) T WF ifs mc/\SE (cxC X scope C N s H ex) T WF elt me)
  (hsw:swapsWith (.ListComp elt [⟨tg,iter,ifs,0⟩] scope pos) (some (.Name y py)) spos.line X.env=pure true:=by rfl)
  (hs:∀x,foldedSetIterable iter X.env x=pure x:=by intro _;rfl)
  (hf:X.fn y=true\/X.env.scope.names.lookup y=some .local:=by first | exact .inl rfl | exact .inr rfl | assumption) :
  SS X T W (.Assign [.Name y py] (.ListComp elt [⟨tg,iter,ifs,0⟩] scope pos) spos) (aX i (aT caps tn.length mi g mc me)):=by
 intro pins s σ H D I h
 obtain⟨Z,F,env,fp,S,q⟩:=h
 unfold aX at q
 rw[exec_Assign_Name_used _ _ _ _ hsw]
 refine wpAny_bind (wpAny_standAt (wpAny_bind ?_))
 show wpAny _ X.A (do let _ <- comprehension (.ListComp elt [⟨tg,iter,ifs,0⟩] scope pos) scope X.env _ (newList []) false (eval iter X.env) (some (assign (.Name y py) X.env))) _ _ s
 refine wpAny_bind (wpAny_mono (mD (use:=some (assign (.Name y py) X.env)) (Q':=fun _ s'=>SP X pins D .next s') (Q:=fun v H1=>D.nx (σ.set i (some v)) H1) cs hc hi hk hb hs I ?_ fun Dd C H' s6 m hq iX hn hCn hCl hCf hC0 hCc hCp=>?_) (fun _ s' hq=>wpAny_pure (wpAny_pure hq)) fun _ _ e=>e)
 ·refine tE.bind S (fun c e H' x=>?_) (fun e=>by rw[e]at q;exact q) fun pv v H1 F1 f e g r h1 h2 h3=>?_
  ·rw[e]at q
   exact q F H' σ fp (S.grow (Gr.same S.hp.ft x))
  ·rw[e]at q
   simp only at q
   split at q
   ·rename_i hl
    rw[Bool.and_eq_true]at hl
    exact q F1 H1 _ _ (S.putN g hl.2 r hl.1 h1 h2 h3)
   ·exact q.elim
 ·refine wpAny_assign_Name (lI (v:=.ref Dd) (u:=.ref Dd) iX hN hy hx rfl (fun s7 i7 ⟨a,hsa,ha⟩=>?_) hf)
  have hCa:C≠a:=by
   rcases ha with ha | ha
   ·rw[ha];exact hCl
   ·exact fun z=>hCc y a ha z.symm
  refine⟨m,hn.sameBut hsa hCa,fun h' hs'=>⟨_,H',?_,hq⟩⟩
  exact i7.turned (t':=s7.toks) (fun b o hb e=>(hs'.2 b hb).trans e) hCn hCl (.inr hC0) hCc hCp
end
def GFI(T:Tb)(Z:Zn)(v0:V)(Q:VK)(E:XK):Res PV->Prop
 | .ok pv=>∀F H f,eW T Z F H->Rel T F Z.B NoL H pv v0 f->f.Nodup->(∀a∈f,¬F a)->(∀a∈f,Z.H0 a=none\/Z.fp0 a)->Q .non H
 | .exc c=>∀H,(∀a o,Z.H0 a=some o->¬Z.fp0 a->H a=some o)->E (.ref (T.xcl c)) none H
 | .stuck=>False
def spI(T:Tb)(n:Nat)(m:List PV->Res PV):Sp:=fun vs H Q E=>vs.length=n/\∃v0 pvs F B f,vs[0]?=some v0/\uv T F B H pvs vs f/\(∃fl c ks xs,pvs[0]?=some (.obj fl c ks xs))/\GFI T ⟨H,F,(·∈f),B,some v0⟩ v0 Q E (m pvs)
def ij(n:Nat)(m:MS)(args:List PV):Res PV:=match m (args.map some++List.replicate (n - args.length) none)with
 | .next e=>match e[0]? with
  | some (some o)=>.ok o
  | _=>.stuck
 | .exc c _=>.exc c
 | _=>.stuck
section
variable{P:Program}{w:World}{K:PySem.W.Frag}{mg:Str->Option Value}{base:Heap}{T:Tb}
theorem Cf(F:Fun K x qual st f fd)(S:cR N ps (ax st))
  (body:∀ (cdv:Value) (A:Around) (outer:List Env) (s:Shared) (H:Hp) (E:XK),dC k (A.deeper (PyProof.Rows.envOfC qual (ax st) s.heap.objs.size f cdv)) ->
   SSs (d8 (CXP P w) P w K mg base N qual (ax st) f cdv A outer s H E) T (WD T E) (bG st) m):cN P w K mg base (CXP P w) (k+1) f fd ps (spI T ps.length (ij N.length m)):=by
 obtain⟨oc,od,kV,doc,pm,an,cdv,ct,osl,rfl,lk,hcd⟩:=F.ex
 refine sg lk hcd S (fun vs H Q E h=>h.1) fun A outer s H vs Q E hr hsp=>⟨_,body cdv A outer s H E hr,?_⟩
 obtain⟨_,v0,pvs,F,B,fl,hv0,R,hob,q⟩:=hsp
 obtain⟨fp,S0⟩:=jU N R (some v0) (fun v hv=>by cases hv;exact⟨hv0,hob⟩)
 refine⟨_,F,_,fp,S0,?_⟩
 unfold ij at q
 cases e:m (pvs.map some++List.replicate (N.length - pvs.length) none)with
 | next e' =>
  rw[e]at q
  dsimp only at q
  intro F' H' σ' fp' S'
  obtain⟨h1,_⟩:=S'.pn v0 rfl
  cases e0:e'[0]? with
  | none=>rw[e0]at q;exact q.elim
  | some o0 =>
   cases o0 with
   | none=>rw[e0]at q;exact q.elim
   | some o =>
    rw[e0]at q
    obtain⟨v,h2,r⟩:=S'.rel 0 o e0
    rw[h1]at h2
    cases h2
    exact q F' H' (fp' 0) S'.hp r (S'.nd 0) (fun a ha=>(S'.dis 0 a ha).1) (S'.new 0)
 | ret v | brk e' | cont e'=>rw[e]at q;exact q.elim
 | exc c e'=>rw[e]at q;exact fun F' H' σ' fp' S'=>q H' S'.hp.keep
 | stuck=>rw[e]at q;exact q.elim
variable{X:Cx}{W:Nat->St->Hp->Prop}{Z:Zn}{F F1 B L:Addr->Prop}{H H1:Hp}{σ:St}{env:En}{fp:Nat->List Addr}{D:Ends}
theorem A1
  (M:Mk X.K (T.cls c) f) (hcn:c < T.nc) (G:cN X.prog X.w X.K X.mg X.base (CXP X.prog X.w) k f fd ps (spI T ps.length m)) (hr:dC (k+1) X.A) (hb:d_ X.K fd ps ds) (hd:aJ dvs ds) (hdp:∀F B L H,RelL T F B L H dps dvs []) (hx:XF X T W)
  (S:au T Z F H σ env fp) (g:Gr F H F1 H1) (r:RelL T F1 Z.B (Own fp) H1 xs vs fx) (nf:∀a∈fx,¬F1 a) (nd:fx.Nodup) (new:∀a∈fx,H a=none) (q:GE T W Z.B F (Own fp) σ H Q (aO m (.obj .own c [] []::(xs++dps))))
  (I1:L2.Inv X pins σ H1 s1) (rv:aJ vs us) (hlen:vs.length+dvs.length+1=ps.length):wpAny (model X.prog X.w) X.A (call (.ref (T.cls c)) us) (EP X pins σ Q) X.xe s1:=by
 have hxn:H1 (s1.heap.objs.size+1)=none:=I1.hok.fresh (Nat.le_succ _)
 have hdn:H1 s1.heap.objs.size=none:=I1.hok.fresh (Nat.le_refl _)
 have hne:s1.heap.objs.size≠s1.heap.objs.size+1:=Nat.ne_of_lt (Nat.lt_succ_self _)
 generalize hH2:upd (upd H1 s1.heap.objs.size (.own (s1.heap.objs.size+1))) (s1.heap.objs.size+1) (.ins (T.cls c) s1.heap.objs.size [])=H2
 have ext2:Ext H1 H2:=by
  rw[<- hH2]
  exact(Ext.upd hdn).trans (Ext.upd (by rw[aP hne.symm];exact hxn))
 have free2:∀a,H2 a=none->H1 a=none:=fun a h=>ext2.free h
 have hx2:H2 (s1.heap.objs.size+1)=some (.ins (T.cls c) s1.heap.objs.size []):=by rw[<- hH2];exact bM
 have I2:=L2.Inv.made (C:=T.cls c) I1
 rw[hH2]at I2
 have r2:aJ (V.ref (s1.heap.objs.size+1)::(vs++dvs)) (Value.ref (s1.heap.objs.size+1)::(us++ds)):=.cons rfl (rv.append hd)
 have hl:(Value.ref (s1.heap.objs.size+1)::us++ds).length=ps.length:=by
  have e:=r2.length
  simp only[List.length_cons,List.length_append]at e hlen ⊢
  omega
 have rr:RelL T F1 Z.B (Own fp) H1 (xs++dps) (vs++dvs) fx:=by
  have:=RelL.append r (hdp F1 Z.B (Own fp) H1)
  rwa [List.append_nil]at this
 have nx:s1.heap.objs.size+1∉fx:=fun z=>by
  obtain⟨o,ho⟩:=r.there _ z
  rw[hxn]at ho;cases ho
 have hBo:∀a,Z.B a->(∃o,H2 a=some o)/\a ∉(s1.heap.objs.size+1)::fx:=fun a h=>by
  obtain⟨⟨o,h1⟩,h2⟩:=S.hp.bo a h
  have h3:=S.hp.keep a o h1 h2
  refine⟨⟨o,ext2 a o (g.ext a o h3)⟩,fun z=>?_⟩
  rcases List.mem_cons.mp z with z | z
  ·rw[z]at h3;rw[g.ext _ _ h3]at hxn;cases hxn
  ·rw[new a z]at h3;cases h3
 have hOw:∀a,Own fp a->(∃o,H2 a=some o)/\a ∉(s1.heap.objs.size+1)::fx:=fun a hz1=>by
  obtain⟨i,hi⟩:=hz1
  obtain⟨_,o,ho⟩:=S.dis i a hi
  refine⟨⟨o,ext2 a o (g.ext a o ho)⟩,fun z=>?_⟩
  rcases List.mem_cons.mp z with z | z
  ·rw[z]at ho;rw[g.ext _ _ ho]at hxn;cases hxn
  ·rw[new a z]at ho;cases ho
 have nF:¬F1 (s1.heap.objs.size+1):=fun z=>by
  obtain⟨o,ho⟩:=g.dom _ z
  rw[hxn]at ho;cases ho
 have R:uv T F1 (fun a=>(∃o,H2 a=some o)/\a ∉(s1.heap.objs.size+1)::fx) H2 (.obj .own c [] []::mapL Fl.toBor (xs++dps)) (.ref (s1.heap.objs.size+1)::(vs++dvs)) ((s1.heap.objs.size+1)::fx):=by
  refine⟨?_,List.nodup_cons.mpr ⟨nx,nd⟩,fun a ha=>?_,fun a h=>h,fun a h=>let⟨o,ho⟩:=g.dom a h;⟨o,ext2 a o ho⟩⟩
  ·unfold RelL
   refine⟨_,_,[s1.heap.objs.size+1],fx,rfl,?_,RelL.toBor hBo hOw (rr.ext ext2 fun _ h=>h),rfl⟩
   unfold Rel
   exact⟨_,s1.heap.objs.size,[],[],rfl,by simpa using hx2,⟨rfl,hcn⟩,by unfold RelL;exact⟨rfl,rfl⟩,rfl,True.intro⟩
  ·rcases List.mem_cons.mp ha with rfl | ha
   ·exact nF
   ·exact nf a ha
 have newx:∀a ∈(s1.heap.objs.size+1)::fx,H a=none:=fun a ha=>by
  rcases List.mem_cons.mp ha with rfl | ha
  ·exact g.ext.free hxn
  ·exact new a ha
 refine wpAny_call (v5 (f:=f) I1.kIn M.makes M.init (beq_iff_eq.mp M.fn) (codeAny_mono (G.run _ X.stack _ _ ⟨Value.ref (s1.heap.objs.size+1)::us,[]⟩ (Value.ref (s1.heap.objs.size+1)::(us ++ ds)) _ (fun v H3=>v=.non/\Q (.ref (s1.heap.objs.size+1)) H3) (fun cls _ H'=>∃ c,cls=.ref (T.xcl c)/\W c σ H') (hr.make (T.cls c) us [])
  (I2.env0.make (T.cls c) us []) (hb _ (Value.ref (s1.heap.objs.size+1)::us) I2.kIn hl) r2 ⟨by rw[r2.length];exact hl,_,_,F1,_,_,rfl,R,⟨.own,c,[],[],rfl⟩,?_⟩) fun rs s' hq'=>?_))
 ·unfold aO at q
  have e0:mapL Fl.toBor (PV.obj .own c [] []::(xs++dps))=.obj .own c [] []::mapL Fl.toBor (xs++dps):=by simp[mapL,PV.mapF,Fl.toBor]
  rw[e0]at q
  cases e:m (.obj .own c [] []::mapL Fl.toBor (xs++dps))with
  | ok v =>
   rw[e]at q
   dsimp only at q
   intro F3 H3 f3 hp3 r3 nd3 nf3 new3
   refine⟨rfl,?_⟩
   by_cases hbr:v.has Fl.isBor=true
   ·rw[if_pos hbr]at q;exact q.elim
   ·rw[if_neg hbr]at q
    have hbr':v.has Fl.isBor=false:=by simpa using hbr
    refine q _ H3 F3 f3 ⟨fun a o h=>hp3.keep a o (ext2 a o (g.ext a o h)) fun z=>(by rw[newx a z]at h;cases h),fun a h=>hp3.f0 a (g.mono a h),fun a h=>?_,hp3.ft⟩ ?_ nf3 nd3 fun a ha=>?_
    ·rcases hp3.fn a h with z | z | z
     ·exact g.only a z
     ·exact .inr (g.ext.free (free2 a z))
     ·exact .inr (newx a z)
    ·exact Rel.tr (fun _ h=>h) (fun _ h=>h) (fun _ h=>h.elim) (fun _ _ h _=>h) (fun _ _ _ h=>h) (Rel.noB (B':=Z.B) hbr' r3)
    ·rcases new3 a ha with z | z
     ·exact g.ext.free (free2 a z)
     ·exact newx a z
  | exc c' =>
   rw[e]at q
   exact fun H' h=>⟨c',rfl,q H' fun a o z=>h a o (ext2 a o (g.ext a o z)) fun z'=>by rw[newx a z']at z;cases z⟩
  | stuck=>rw[e]at q;exact q.elim
 ·cases rs with
  | error e =>
   obtain⟨cls,H',fl,c',rfl,hw⟩:=hq'
   exact hx pins σ H2 _ c' H' e s' I2 fl hw
  | ok fl =>
   cases fl with
   | ret u =>
    obtain⟨v,H',I3,rv',ev,q3⟩:=I2.after hq'
    subst ev
    exact⟨rv',⟨V.ref (s1.heap.objs.size+1),H',I3,rfl,q3⟩⟩
   | next | brk | cont=>exact False.elim hq'
theorem yA
  (M:Mk X.K (T.cls c) f) (hcn:c < T.nc) (G:cN X.prog X.w X.K X.mg X.base (CXP X.prog X.w) k f fd ps (spI T ps.length m)) (hr:dC (k+1) X.A) (hg:Gl X x) (hm:X.mg x=some (.ref (T.cls c))) (hb:d_ X.K fd ps ds) (hd:aJ dvs ds) (hdp:∀F B L H,RelL T F B L H dps dvs []) (hx:XF X T W)
  (hn:gB ms n) (hps:n+dvs.length+1=ps.length) (ha:SA X T W (e::es) ms)
  (hdb:(x ==("__debug__" : Str))=false:=by decide) (he:starEach (e::es) X.env=(false,eval e X.env)::starEach es X.env:=by rfl) (hpl:(backTo pos (starEach es X.env)).any (·.1)=false:=by rfl) :
  SE X T W (.Call (.Name x p) (e::es) [] pos) (ap (fun xs=>aO m (.obj .own c [] []::(xs++dps))) ms):=by
 intro pins s σ H Q I h
 obtain⟨Z,F,env,fp,S,q⟩:=h
 unfold ap at q
 refine wpAny_Call_Name_kw (jq I hg hm ?_ hdb)
 refine PySem.W.callWith_K (h₀:=X.base) I.ok.mod.kin M.kp (thn (ha pos pins s σ H (fun vs H1=>∀ us s1,L2.Inv X pins σ H1 s1->aJ vs us->wpAny (model X.prog X.w) X.A (call (.ref (T.cls c)) us) (EP X pins σ Q) X.xe s1) I
  (tA.bind S (fun c e=>by rw[e]at q;exact q) (fun e=>by rw[e]at q;exact q) fun xs vs H1 F1 f1 e1 g1 r1 n1 d1 w1 us s1 I1 rv=>?_)) fun us s1 ⟨vs,H1,I1,r,q1⟩=>⟨I1.kIn,q1 us s1 I1 r⟩) he hpl
 rw[e1]at q
 exact A1 M hcn G hr hb hd hdp hx S g1 r1 n1 d1 w1 q I1 rv (by rw[<- r1.length,hn env xs e1];exact hps)
theorem au.mut(S:au T Z F H σ env fp)(hi:i < env.length)(hv:σ[i]?=some (some v))(ha:a∈fp i)(r:Rel T F Z.B NoL (upd H a o') pv' v f')(nd:f'.Nodup)(nf:∀b∈f',¬F b)
  (new:∀b∈f',Z.H0 b=none\/Z.fp0 b) (dj:∀b∈f',∀j,j≠i->b∉fp j) (ho:i=0->cF env=true->∃fl c ks xs,pv'=.obj fl c ks xs):au T Z F (upd H a o') σ (env.set i (some pv')) (bD fp i f'):=by
 obtain⟨oa,hoa,hch⟩:=S.ch i a ha
 have nFa:¬F a:=(S.dis i a ha).1
 have nBa:¬Z.B a:=fun z=>S.bow a z ⟨i,ha⟩
 have ne:∀b u,H b=some u->(F b\/Z.B b\/NoL b\/jt u)->b≠a:=fun b u e h z=>by
  subst z
  rcases h with h | h | h | h
  ·exact nFa h
  ·exact nBa h
  ·exact h
  ·rw[hoa]at e
   cases e
   cases oa with
   | lst _ | ins _ _ _=>exact h
   | _=>exact hch
 have nz:∀b u,Z.H0 b=some u->¬Z.fp0 b->b≠a:=fun b u e n z=>by
  subst z
  rcases S.new i _ ha with w | w
  ·rw[e]at w;cases w
  ·exact n w
 have nj:∀j,j≠i->∀b∈fp j,b≠a:=fun j hj b hb z=>by
  subst z
  exact S.dj j i hj _ hb ha
 refine⟨⟨S.hp.bo,fun b u e n=>by rw[aP (nz b u e n)];exact S.hp.keep b u e n,S.hp.f0,S.hp.fn,fun b h=>?_⟩,by rw[List.length_set,S.len],fun j pv e=>?_,fun j=>?_,fun j k hjk b hb=>?_,fun j b hb=>?_,fun j b hb=>?_,fun j b hb=>?_,fun w hw=>?_⟩
 ·obtain⟨u,e⟩:=S.hp.ft b h
  exact⟨u,by rw[aP (show b≠a from fun z=>nFa (by rw[<- z];exact h))];exact e⟩
 ·by_cases hj:j=i
  ·subst hj
   rw[List.getElem?_set_self hi]at e
   cases e
   refine⟨v,hv,?_⟩
   unfold bD
   rw[if_pos rfl]
   exact r
  ·rw[List.getElem?_set_ne (Ne.symm hj)]at e
   obtain⟨w,h1,h2⟩:=S.rel j pv e
   refine⟨w,h1,?_⟩
   unfold bD
   rw[if_neg hj]
   exact Rel.tr (fun _ h=>h) (fun _ h=>h) (fun _ h=>h) (fun b u q h=>by rw[aP (ne b u q h)];exact q) (fun b hb u q=>by rw[aP (nj j hj b hb)];exact q) h2
 ·unfold bD;split
  ·exact nd
  ·exact S.nd j
 ·unfold bD at hb ⊢
  by_cases h1:j=i
  ·subst h1
   rw[if_pos rfl]at hb
   rw[if_neg (Ne.symm hjk)]
   exact dj b hb k (Ne.symm hjk)
  ·rw[if_neg h1]at hb
   by_cases h2:k=i
   ·subst h2
    rw[if_pos rfl]
    exact fun z=>dj b z j h1 hb
   ·rw[if_neg h2]
    exact S.dj j k hjk b hb
 ·unfold bD at hb
  by_cases h1:j=i
  ·rw[if_pos h1]at hb;exact⟨nf b hb,r.there b hb⟩
  ·rw[if_neg h1]at hb
   obtain⟨n,u,e⟩:=S.dis j b hb
   exact⟨n,u,by rw[aP (nj j h1 b hb)];exact e⟩
 ·unfold bD at hb
  by_cases h1:j=i
  ·rw[if_pos h1]at hb;exact new b hb
  ·rw[if_neg h1]at hb;exact S.new j b hb
 ·unfold bD at hb
  by_cases h1:j=i
  ·rw[if_pos h1]at hb;exact r.chg b hb
  ·rw[if_neg h1]at hb
   obtain⟨u,e,c⟩:=S.ch j b hb
   exact⟨u,by rw[aP (nj j h1 b hb)];exact e,c⟩
 ·obtain⟨h1,h2⟩:=S.pn w hw
  refine⟨h1,?_⟩
  by_cases hi0:i=0
  ·obtain⟨fl,c,ks,xs,e⟩:=ho hi0 h2
   subst hi0 e
   unfold cF
   rw[List.getElem?_set_self hi]
  ·unfold cF at h2 ⊢
   rw[List.getElem?_set_ne hi0]
   exact h2
def fJ(i k:Nat)(e:ME):MS:=fun env=>match e env with
 | .ok v=>(match env[i]? with
  | some (some (.obj .own c ks vs))=>if v.noLnt&&!ks.contains k&&decide (ks.length < 900)then .next (env.set i (some (.obj .own c (ks++[k]) (vs++[v]))))else .stuck
  | _=>.stuck)
 | .exc c=>.exc c env
 | .stuck=>.stuck
theorem oE:∀{ks:List Nat}{ws:List V},ks.contains k=false->ks.length=ws.length->fT (T.att k) y ((ks.map T.att).zip ws)=((ks++[k]).map T.att).zip (ws++[y])
 | [],[],_,_=>rfl
 | j::ks,w::ws,h,hl=>by
  simp only[List.contains_cons,Bool.or_eq_false_iff,beq_eq_false_iff_ne]at h
  show fT (T.att k) y ((T.att j,w)::(ks.map T.att).zip ws)=(T.att j,w)::((ks++[k]).map T.att).zip (ws++[y])
  unfold fT
  rw[if_neg (fun z=>h.1 (T.inj _ _ z).symm),oE h.2 (by simpa using hl)]
 | [],_::_,_,hl | _::_,[],_,hl=>by simp at hl
theorem AO(hK:X.K=T.K)(hf:T.att k=f)(hc:∀c < T.nc,Cls T.K (T.cls c))(hn:∀c < T.nc,eD T.K (T.cls c) f)(hN:X.N[i]?=some x)(hv:Vis X.env.scope x)(he:SE X T W e m)
  (hs:swapsWith e (some (.Attribute (.Name x px) f pos')) pos.line X.env=pure false:=by rfl) (hd:(x ==("__debug__" : Str))=false:=by decide) (hcd:(x ==("__classdict__" : Str))=false:=by decide) :
  SS X T W (.Assign [.Attribute (.Name x px) f pos'] e pos) (fJ i k m):=PS.wk (A9 (pos:=pos) (pos':=pos') (dH (pos:=px) hN hv hd hcd) he hs) fun D σ H hz1=>by
 obtain⟨Z,F,env,fp,S,q⟩:=hz1
 unfold fJ at q
 refine tE.bind S (fun c e H' x=>?_) (fun e=>by rw[e]at q;exact q) fun pv v H1 F1 f1 e g r h1 h2 h3=>?_
 ·rw[e]at q
  exact q F H' σ fp (S.grow (Gr.same S.hp.ft x))
 ·rw[e]at q
  dsimp only at q
  split at q
  ·rename_i c ks vs eo
   split at q
   ·rename_i hcnd
    simp only[Bool.and_eq_true,Bool.not_eq_true',decide_eq_true_eq]at hcnd
    obtain⟨⟨hln,hkn⟩,hkl⟩:=hcnd
    have S1:=S.grow g
    obtain⟨vo,ho1,ho2⟩:=S1.rel i _ eo
    have ho3:=ho2
    unfold Rel at ho3
    obtain⟨a,dx,ws,fp',rfl,hl,hk,hr,hfl,_⟩:=ho3
    have hfl':fp i=a::fp':=hfl
    have hil:i < env.length:=(List.getElem?_eq_some_iff.mp eo).1
    refine⟨_,ho1,a,_,dx,_,rfl,hl,by rw[hK];exact hc c hk.2,by rw[hK];exact hn c hk.2,?_,?_⟩
    ·have:=hr.length
     rw[List.length_zip,List.length_map]
     omega
    ·rw[<- hf,oE hkn (by rw[<- hr.length];exact hk.1)]
     have ha:a∈fp i:=by rw[hfl'];exact List.mem_cons_self
     have nd:(a::fp').Nodup:=by rw[<- hfl'];exact S1.nd i
     have old:∀b∈f1,∀j,b∉fp j:=fun b hb j hj=>by
      obtain⟨_,o,e⟩:=S.dis j b hj
      rw[h3 b hb]at e;cases e
     have hrv:Rel T F1 Z.B NoL H1 pv v f1:=Rel.noL (by simpa[PV.noLnt]using hln) r
     have nea:∀b u,H1 b=some u->(F1 b\/Z.B b\/NoL b\/jt u)->b≠a:=fun b u e h z=>by
      subst z
      rcases h with h | h | h | h
      ·exact(S1.dis i _ ha).1 h
      ·exact S1.bow _ h ⟨i,ha⟩
      ·exact h
      ·rw[hl]at e;cases e;exact h
     refine q F1 _ σ _ (S1.mut (f':=a::(fp'++f1)) hil ho1 ha ?_ ?_ (fun b hb=>?_) (fun b hb=>?_) (fun b hb j hj=>?_) fun _ _=>⟨_,_,_,_,rfl⟩)
     ·unfold Rel
      have hrr:RelL T F1 Z.B NoL H1 (vs++[pv]) (ws++[v]) (fp'++f1):=RelL.append hr (by unfold RelL;exact⟨v,[],f1,[],rfl,hrv,by unfold RelL;exact⟨rfl,rfl⟩,by simp⟩)
      refine⟨a,dx,ws++[v],fp'++f1,rfl,bM,⟨by simp[hk.1],hk.2⟩,?_,rfl,True.intro⟩
      refine RelL.tr (fun _ h=>h) (fun _ h=>h) (fun _ h=>h) (fun b u e h=>by rw[aP (nea b u e h)];exact e) (fun b hb u e=>?_) hrr
      refine(aP fun z=>?_).trans e
      subst z
      rcases List.mem_append.mp hb with hb | hb
      ·exact(List.nodup_cons.mp nd).1 hb
      ·exact old _ hb i ha
     ·refine List.nodup_cons.mpr ⟨fun z=>?_,List.nodup_append.mpr ⟨(List.nodup_cons.mp nd).2,h2,fun b hb b' hb' z=>?_⟩⟩
      ·rcases List.mem_append.mp z with z | z
       ·exact(List.nodup_cons.mp nd).1 z
       ·exact old _ z i ha
      ·subst z
       exact old b hb' i (by rw[hfl'];exact List.mem_cons_of_mem _ hb)
     ·rcases List.mem_cons.mp hb with rfl | hb
      ·exact(S1.dis i _ ha).1
      ·rcases List.mem_append.mp hb with hb | hb
       ·exact(S1.dis i b (by rw[hfl'];exact List.mem_cons_of_mem _ hb)).1
       ·exact h1 b hb
     ·rcases List.mem_cons.mp hb with rfl | hb
      ·exact S1.new i _ ha
      ·rcases List.mem_append.mp hb with hb | hb
       ·exact S1.new i b (by rw[hfl'];exact List.mem_cons_of_mem _ hb)
       ·exact S.hp.newE h3 b hb
     ·rcases List.mem_cons.mp hb with rfl | hb
      ·exact fun z=>S1.dj i j (Ne.symm hj) _ ha z
      ·rcases List.mem_append.mp hb with hb | hb
       ·exact fun z=>S1.dj i j (Ne.symm hj) b (by rw[hfl'];exact List.mem_cons_of_mem _ hb) z
       ·exact old b hb j
   ·exact q.elim
  ·exact q.elim
theorem au.mutL{i:Nat}{xs ys:List PV}{ws us:List V}{a:Addr}{v:V}{f' fp':List Addr}(S:au T Z F H σ env fp)(eo:env[i]?=some (some (.lst .own xs)))(hv:σ[i]?=some (some (.ref a)))(hfp:fp i=a::fp')(r:RelL T F Z.B NoL H ys us f')(nd:f'.Nodup)
  (hf:∀b∈f',(b∈fp')\/(¬F b/\(Z.H0 b=none\/Z.fp0 b)/\∀j,b∉fp j)) (hl:H a=some (.lst ws)):au T Z F (upd H a (.lst us)) σ (env.set i (some (.lst .own ys))) (bD fp i (a::f')):=by
 have ha:a∈fp i:=by rw[hfp];exact List.mem_cons_self
 have ndi:(a::fp').Nodup:=by rw[<- hfp];exact S.nd i
 have sub:∀b∈fp',b∈fp i:=fun b hb=>by rw[hfp];exact List.mem_cons_of_mem _ hb
 have na:∀b∈f',b≠a:=fun b hb z=>by
  subst z
  rcases hf _ hb with h | h
  ·exact(List.nodup_cons.mp ndi).1 h
  ·exact h.2.2 i ha
 have hil:i < env.length:=(List.getElem?_eq_some_iff.mp eo).1
 have nea:∀b u,H b=some u->(F b\/Z.B b\/NoL b\/jt u)->b≠a:=fun b u e h z=>by
  subst z
  rcases h with h | h | h | h
  ·exact(S.dis i _ ha).1 h
  ·exact S.bow _ h ⟨i,ha⟩
  ·exact h
  ·rw[hl]at e;cases e;exact h
 refine S.mut hil hv ha ?_ (List.nodup_cons.mpr ⟨fun z=>na a z rfl,nd⟩) (fun b hb=>?_) (fun b hb=>?_) (fun b hb j hj=>?_) fun h0 h1=>?_
 ·unfold Rel
  exact⟨a,us,f',rfl,bM,RelL.tr (fun _ h=>h) (fun _ h=>h) (fun _ h=>h) (fun b u e h=>by rw[aP (nea b u e h)];exact e) (fun b hb u e=>by rw[aP (na b hb)];exact e) r,rfl⟩
 ·rcases List.mem_cons.mp hb with rfl | hb
  ·exact(S.dis i _ ha).1
  ·rcases hf b hb with h | h
   ·exact(S.dis i b (sub b h)).1
   ·exact h.1
 ·rcases List.mem_cons.mp hb with rfl | hb
  ·exact S.new i _ ha
  ·rcases hf b hb with h | h
   ·exact S.new i b (sub b h)
   ·exact h.2.1
 ·rcases List.mem_cons.mp hb with rfl | hb
  ·exact fun z=>S.dj i j (Ne.symm hj) _ ha z
  ·rcases hf b hb with h | h
   ·exact fun z=>S.dj i j (Ne.symm hj) b (sub b h) z
   ·exact h.2.2 j
 ·subst h0
  unfold cF at h1
  rw[eo]at h1
  cases h1
theorem au.lst{i:Nat}{xs:List PV}(S:au T Z F H σ env fp)(eo:env[i]?=some (some (.lst .own xs))):∃a ws fp',σ[i]?=some (some (.ref a))/\H a=some (.lst ws)/\RelL T F Z.B NoL H xs ws fp'/\fp i=a::fp':=by
 obtain⟨v,h1,h2⟩:=S.rel i _ eo
 unfold Rel at h2
 obtain⟨a,ws,fp',rfl,hl,hr,hf⟩:=h2
 exact⟨a,ws,fp',h1,hl,hr,hf⟩
theorem au.beside{f1:List Addr}(S:au T Z F H σ env fp)(g:Gr F H F1 H1)(h1:∀ a ∈ f1,¬ F1 a)(h3:∀ a ∈ f1,H a=none):∀ b ∈ f1,¬ F1 b/\(Z.H0 b=none \/ Z.fp0 b)/\∀ j,b ∉ fp j:=fun b hb=>⟨h1 b hb,S.hp.newE h3 b hb,fun j hj=>by
 obtain⟨_,o,e⟩:=S.dis j b hj
 rw[h3 b hb]at e;cases e⟩
def da(i:Nat)(e:ME):MS:=fun env=>match e env with
 | .ok v=>(match env[i]? with
  | some (some (.lst .own xs))=>if v.noLnt&&decide (xs.length < 10000000)then .next (env.set i (some (.lst .own (xs++[v]))))else .stuck
  | _=>.stuck)
 | .exc c=>(match env[i]? with
  | some (some (.lst .own _))=>.exc c env
  | _=>.stuck)
 | .stuck=>.stuck
theorem sM{i:Nat}{x:Str}{e:Expr}{m:ME}{pos px apos cpos:Pos}(hK:X.K=T.K)(hN:X.N[i]?=some x)(hv:Vis X.env.scope x)(he:SE X T W e m)
  (hs:swapsWith (.Call (.Attribute (.Name x px) "append" apos) [e] [] cpos) none pos.line X.env=pure false:=by rfl) (hst:starEach [e] X.env=[(false,eval e X.env)]:=by rfl)
  (hfew:((backTo cpos (starEach [e] X.env)).all (fun x=>!x.1)&&(backToKw cpos (keywordEach [] X.env)).all (fun x=>x.1.isSome)&&decide ([e].length+([]:List Keyword).length+(if([]:List Keyword).isEmpty then 0 else 1) < 30))=true:=by rfl)
  (hline:(apos.endLine==cpos.line)=true:=by rfl) (hd:(x ==("__debug__" : Str))=false:=by decide) (hcd:(x ==("__classdict__" : Str))=false:=by decide) :
  SS X T W (.Expr (.Call (.Attribute (.Name x px) "append" apos) [e] [] cpos) pos) (da i m) :=
 PS.wk (hZ (pos:=pos) (vv (cpos:=cpos) (apos:=apos) PySem.F.plainAttrs_list PySem.F.slot_list_append PySem.F.type_list_append jG (dH (pos:=px) hN hv hd hcd) (aa he af hst) rfl hfew hline hst) hs) fun D σ H hz1=>by
  obtain⟨Z,F,env,fp,S,q⟩:=hz1
  unfold da at q
  cases em:m env with
  | stuck=>rw[em]at q;exact q.elim
  | exc c =>
   rw[em]at q
   dsimp only at q
   split at q
   ·rename_i xs eo
    obtain⟨a,ws,fp',h1,hl,hr,hf⟩:=S.lst eo
    refine⟨_,h1,.inl ⟨rfl,ws,by rw[hK];exact SqL.of hl⟩,Z,F,env,fp,S,?_⟩
    unfold ae
    rw[em]
    exact fun H' x=>q F H' σ fp (S.grow (Gr.same S.hp.ft x))
   ·exact q.elim
  | ok v =>
   rw[em]at q
   dsimp only at q
   split at q
   ·rename_i xs eo
    split at q
    ·rename_i hc
     simp only[Bool.and_eq_true,decide_eq_true_eq]at hc
     obtain⟨a,ws,fp',h1,hl,hr,hf⟩:=S.lst eo
     refine⟨_,h1,.inl ⟨rfl,ws,by rw[hK];exact SqL.of hl⟩,Z,F,env,fp,S,?_⟩
     unfold ae am
     rw[em]
     intro vs H1 F1 f1 g r n1 d1 w1
     obtain⟨u,rfl,ru⟩:=r.one
     have S1:=S.grow g
     have hl1:=g.ext a _ hl
     refine⟨a,ws,u,rfl,rfl,hl1,?_,?_⟩
     ·rw[<- hr.length,sizeLine_eq];omega
     ·have rone:RelL T F1 Z.B NoL H1 [v] [u] f1:=by unfold RelL;exact⟨u,[],f1,[],rfl,Rel.noL (by simpa[PV.noLnt]using hc.1) ru,by unfold RelL;exact⟨rfl,rfl⟩,by simp⟩
      refine q F1 _ σ _ (S1.mutL (v:=u) eo h1 hf (RelL.append (hr.ext g.ext g.mono) rone) ?_ (fun b hb=>?_) hl1)
      ·have ndi:(a::fp').Nodup:=by rw[<- hf];exact S.nd i
       refine List.nodup_append.mpr ⟨(List.nodup_cons.mp ndi).2,d1,fun b hb b' hb' z=>?_⟩
       subst z
       exact(S.beside g n1 w1 b hb').2.2 i (by rw[hf];exact List.mem_cons_of_mem _ hb)
      ·rcases List.mem_append.mp hb with hb | hb
       ·exact .inl hb
       ·exact .inr (S.beside g n1 w1 b hb)
    ·exact q.elim
   ·exact q.elim
def v8(i:Nat):MS:=fun env=>match env[i]? with
 | some (some (.lst .own _))=>.next (env.set i (some (.lst .own [])))
 | _=>.stuck
theorem D5{i:Nat}{x:Str}{pos px apos cpos:Pos}(hK:X.K=T.K)(hN:X.N[i]?=some x)(hv:Vis X.env.scope x)
  (hs:swapsWith (.Call (.Attribute (.Name x px) "clear" apos) [] [] cpos) none pos.line X.env=pure false:=by rfl) (hline:(apos.endLine==cpos.line)=true:=by rfl) (hd:(x ==("__debug__" : Str))=false:=by decide) (hcd:(x ==("__classdict__" : Str))=false:=by decide) :
  SS X T W (.Expr (.Call (.Attribute (.Name x px) "clear" apos) [] [] cpos) pos) (v8 i) :=
 PS.wk (hZ (pos:=pos) (Bl (cpos:=cpos) (apos:=apos) PySem.F.plainAttrs_list PySem.F.slot_list_clear PySem.F.type_list_clear vR (dH (pos:=px) hN hv hd hcd) rfl hline) hs) fun D σ H hz1=>by
  obtain⟨Z,F,env,fp,S,q⟩:=hz1
  unfold v8 at q
  split at q
  ·rename_i xs eo
   obtain⟨a,ws,fp',h1,hl,hr,hf⟩:=S.lst eo
   refine⟨_,h1,.inl ⟨rfl,ws,by rw[hK];exact SqL.of hl⟩,a,ws,rfl,rfl,hl,?_⟩
   exact q F _ σ _ (S.mutL (v:=.non) (f':=[]) eo h1 hf (by unfold RelL;exact⟨rfl,rfl⟩) List.nodup_nil (fun _ z=>(nomatch z)) hl)
  ·exact q.elim
def iM(i:Nat)(k e:ME):MS:=fun env=>match e env with
 | .ok v=>(match env[i]? with
  | some (some (.lst .own xs))=>(match k env with
   | .ok (.int j)=>(match ixN xs.length j with
    | some n=>if v.noLnt then .next (env.set i (some (.lst .own (xs.set n v))))else .stuck
    | none=>.stuck)
   | _=>.stuck)
  | _=>.stuck)
 | .exc c=>.exc c env
 | .stuck=>.stuck
theorem RelL.set{y:PV}{w:V}{g:List Addr}(ry:Rel T F B L H y w g):∀{xs:List PV}{vs:List V}{f:List Addr} (n:Nat),RelL T F B L H xs vs f->(f++g).Nodup->∃f',RelL T F B L H (xs.set n y) (vs.set n w) f'/\f'.Nodup/\∀b∈f',b∈f\/b∈g
 | [],vs,f,n,h,nd=>by unfold RelL at h;obtain⟨rfl,rfl⟩:=h;exact⟨[],by simp[RelL],List.nodup_nil,fun _ z=>(nomatch z)⟩
 | x::xs,_,_,0,h,nd=>by
  unfold RelL at h
  obtain⟨v,ws,f1,f2,rfl,h1,h2,rfl⟩:=h
  obtain⟨n1,n2,n3⟩:=List.nodup_append.mp nd
  obtain⟨m1,m2,m3⟩:=List.nodup_append.mp n1
  refine⟨g++f2,?_,List.nodup_append.mpr ⟨n2,m2,fun a ha b hb z=>n3 b (List.mem_append_right _ hb) a ha z.symm⟩,fun b hb=>?_⟩
  ·rw[List.set_cons_zero,List.set_cons_zero]
   unfold RelL
   exact⟨w,ws,g,f2,rfl,ry,h2,rfl⟩
  ·rcases List.mem_append.mp hb with hb | hb
   ·exact .inr hb
   ·exact .inl (List.mem_append_right _ hb)
 | x::xs,_,_,n+1,h,nd=>by
  unfold RelL at h
  obtain⟨v,ws,f1,f2,rfl,h1,h2,rfl⟩:=h
  obtain⟨n1,n2,n3⟩:=List.nodup_append.mp nd
  obtain⟨m1,m2,m3⟩:=List.nodup_append.mp n1
  obtain⟨f',r,d,s⟩:=RelL.set ry n h2 (List.nodup_append.mpr ⟨m2,n2,fun a ha b hb=>n3 a (List.mem_append_right _ ha) b hb⟩)
  refine⟨f1++f',?_,List.nodup_append.mpr ⟨m1,d,fun a ha b hb z=>?_⟩,fun b hb=>?_⟩
  ·rw[List.set_cons_succ,List.set_cons_succ]
   unfold RelL
   exact⟨v,_,f1,f',rfl,h1,r,rfl⟩
  ·rcases s b hb with h | h
   ·exact m3 a ha b h z
   ·exact n3 a (List.mem_append_left _ ha) b h z
  ·rcases List.mem_append.mp hb with hb | hb
   ·exact .inl (List.mem_append_left _ hb)
   ·rcases s b hb with h | h
    ·exact .inl (List.mem_append_right _ h)
    ·exact .inr h
theorem oq{i:Nat}{x:Str}{k e:Expr}{mk me:ME}{pos px tpos:Pos}(hN:X.N[i]?=some x)(hv:Vis X.env.scope x)(hk:SE X T W k mk)(he:SE X T W e me)
  (ha:∀ v,assign (.Subscript (.Name x px) k tpos) X.env v=(do
   let ov <- holding [v] (eval (.Name x px) X.env)
   let iv <- holding [v,ov] (eval k X.env)
   standAt tpos
   holding [v,ov,iv] (setItem ov iv v)
   release [v,ov,iv] []):=by intro _;rfl)
  (hs:swapsWithSole [.Subscript (.Name x px) k tpos] e pos.line X.env=pure false:=by rfl) (hw:swappedStores [.Subscript (.Name x px) k tpos] e X.env=pure none:=by rfl)
  (h1:(assignEach [.Subscript (.Name x px) k tpos] X.env).map (·.2)=[assign (.Subscript (.Name x px) k tpos) X.env]:=by rfl) (hd:(x ==("__debug__" : Str))=false:=by decide) (hcd:(x ==("__classdict__" : Str))=false:=by decide) :
  SS X T W (.Assign [.Subscript (.Name x px) k tpos] e pos) (iM i mk me) :=
 PS.wk (A_ (pos:=pos) he (Bd (pos:=tpos) (dH (pos:=px) hN hv hd hcd) hk uO ha) hs hw h1) fun D σ H hz1=>by
  obtain⟨Z,F,env,fp,S,q⟩:=hz1
  unfold iM at q
  refine tE.bind S (fun c e H' x=>?_) (fun e=>by rw[e]at q;exact q) fun pv v H1 F1 f1 e g r n1 d1 w1=>?_
  ·rw[e]at q
   exact q F H' σ fp (S.grow (Gr.same S.hp.ft x))
  ·rw[e]at q
   dsimp only at q
   split at q
   ·rename_i xs eo
    have S1:=S.grow g
    obtain⟨a,ws,fp',h1,hl,hr,hf⟩:=S1.lst eo
    cases ek:mk env with
    | stuck | exc c=>rw[ek]at q;exact q.elim
    | ok kv =>
     rw[ek]at q
     refine⟨_,h1,Z,F1,env,fp,S1,?_⟩
     rw[ek]
     intro u H2 F2 f2 g2 r2 _ _ _
     cases kv with
     | int j =>
      dsimp only at q
      unfold Rel at r2
      obtain⟨rfl,_⟩:=r2
      cases en:ixN xs.length j with
      | none=>rw[en]at q;exact q.elim
      | some n =>
       rw[en]at q
       dsimp only at q
       split at q
       ·rename_i hln
        have S2:=S1.grow g2
        have hr2:=hr.ext g2.ext g2.mono
        have ndi:(a::fp').Nodup:=by rw[<- hf];exact S.nd i
        have g12:=g.trans g2
        have nn:∀b∈f1,¬F2 b:=fun b hb z=>by
         rcases g2.only b z with z | z
         ·exact n1 b hb z
         ·obtain⟨o,ho⟩:=r.there b hb
          rw[ho]at z;cases z
        obtain ⟨f',r',nd',sub'⟩:=RelL.set (T:=T) (Rel.noL (L':=NoL) (by simpa [PV.noLnt] using hln) (r.ext g2.ext g2.mono)) n hr2 (List.nodup_append.mpr ⟨(List.nodup_cons.mp ndi).2,d1,fun b hb b' hb' z=>by
         subst z
         exact(S.beside g12 nn w1 b hb').2.2 i (by rw[hf];exact List.mem_cons_of_mem _ hb)⟩)
        refine⟨a,ws,j,n,rfl,rfl,g2.ext a _ hl,by rw[<- hr.length];exact en,?_⟩
        refine q F2 _ σ _ (S2.mutL (v:=v) eo h1 hf r' nd' (fun b hb=>?_) (g2.ext a _ hl))
        rcases sub' b hb with h | h
        ·exact .inl h
        ·exact .inr (S.beside g12 nn w1 b h)
       ·exact q.elim
     | _=>exact q.elim
   ·exact q.elim
end
def zk(i:Nat):Str:=⟨#[1114112+i]⟩
def jB(l:List Str)(i:Nat):Str:=match l[i]? with
 | some x=>x
 | none=>zk i
def jE(x:Str):Bool:=x.cps.all fun c=>decide (c < 1114112)
theorem fu(i:Nat):jE (zk i)=false:=by
 simp[jE,zk]
theorem ut(nd:l.Nodup)(h:l.all jE=true)(i j:Nat)(e:jB l i=jB l j):i=j:=by
 have pl:∀(i:Nat) x,l[i]?=some x->jE x=true:=fun i x hx=>List.all_eq_true.mp h x (List.mem_of_getElem? hx)
 unfold jB at e
 cases ei:l[i]? with
 | some x =>
  cases ej:l[j]? with
  | some y =>
   rw[ei,ej]at e
   dsimp only at e
   subst e
   obtain⟨h1,e1⟩:=List.getElem?_eq_some_iff.mp ei
   obtain⟨h2,e2⟩:=List.getElem?_eq_some_iff.mp ej
   exact(List.getElem_inj nd).mp (e1.trans e2.symm)
  | none =>
   rw[ei,ej]at e
   dsimp only at e
   have:=pl i x ei
   rw[e,fu]at this
   cases this
 | none =>
  cases ej:l[j]? with
  | some y =>
   rw[ei,ej]at e
   dsimp only at e
   have:=pl j y ej
   rw[<- e,fu]at this
   cases this
  | none =>
   rw[ei,ej]at e
   dsimp only at e
   simpa[zk]using e
theorem xY(hp:jE m=true)(hm:m∉l)(k:Nat):jB l k≠m:=by
 unfold jB
 cases e:l[k]? with
 | some x=>exact fun z=>hm (z▸List.mem_of_getElem? e)
 | none =>
  intro z
  dsimp only at z
  rw[<- z,fu]at hp
  cases hp
structure Ctx(X:Cx)(T:Tb)(W:Nat->St->Hp->Prop)(k:Nat):Prop where
 hK:X.K=T.K
 calm:X.calm=true
 room:dC k X.A
 xf:XF X T W
 po:PassesOwn (model X.prog X.w) X.A X.env X.xe
theorem Ctx.hu(c:Ctx X T W k):X.A.units+64 < cLine:=c.room.units
theorem Ctx.hu2(c:Ctx X T W k):X.A.units+66 < cLine:=by
 have:=c.room.un
 omega
theorem nP
  (hr:dC k (A.deeper (PyProof.Rows.envOfC qual scope s.heap.objs.size f cd))):Ctx (d8 (CXP P w) P w T.K mg base N qual scope f cd A outer s H E) T (WD T E) k:=⟨rfl,rfl,hr,AE,PassesOwn.leaving⟩
theorem Ctx.comp(c:Ctx X T W k):Ctx (cxC X scope C N s H ex) T WF k:=⟨c.hK,c.calm,c.room,fun _ _ _ _ _ _ _ _ _ _ h=>h.elim,PassesOwn.never⟩
def k9(scD scope:Scope)(NX:List Str)(caps:List Nat)(N tn:List Str):Bool :=
 decide (scope.kind=.function)&&scope.names.all (fun y=>decide (y.2=.cell->scope.names.lookup y.1=some .cell))&&scope.names.all (fun y=>decide (y.2=.local->scope.names.lookup y.1=some .local)) &&
 scope.names.all (fun y=>decide (y.2=.free->scD.names.lookup y.1=some .cell\/scD.names.lookup y.1=some .free))&&decide (N=caps.map (fun i=>NX.getD i "")++ tn)&&caps.all (fun i=>decide (i < NX.length)) &&
 caps.all (fun i=>match NX[i]? with | some x=>decide ((x,NameKind.free)∈ scope.names/\scope.names.lookup x=some .free) | none=>false)&&decide N.Nodup
theorem z7(h:k9 scD scope NX caps N tn=true)(hs:X.env.scope=scD)(hN:X.N=NX):dR X scope caps N tn:=by
 simp only[k9,Bool.and_eq_true,decide_eq_true_eq,List.all_eq_true]at h
 obtain⟨⟨⟨⟨⟨⟨⟨h1,h2⟩,h3⟩,h4⟩,h5⟩,h6⟩,h7⟩,h9⟩:=h
 subst hs hN
 refine⟨h1,h2,h3,h4,h5,h6,fun i hi x hx=>?_,h9⟩
 have:=h7 i hi
 rw[hx]at this
 simpa using this
section
variable{X:Cx}{T:Tb}{W:Nat->St->Hp->Prop}
theorem sv(i:Nat)(hN:X.N[i]?=some x:=by rfl)(hv:Vis X.env.scope x:=by first | exact Or.inl rfl | exact Or.inr (Or.inl rfl) | exact Or.inr (Or.inr rfl))(hd:(x ==("__debug__" : Str))=false:=by decide)
  (hcd:(x ==("__classdict__" : Str))=false:=by decide):SE X T W (.Name x pos) (ac i):=AR hN hv hd hcd
def tyP:PV->String
 | .non => "NoneType"
 | .bl _ => "bool"
 | .int _ => "int"
 | .str _ => "str"
 | .lst _ _ => "list"
 | .tup _ => "tuple"
 | _ => ""
def lw(t c:String):Bool:=t==c ||(t=="bool"&&c=="int")
def oN(c:String):PV->Res PV:=fun x=>if tyP x = "" then .stuck else .ok (.bl (lw (tyP x) c))
def uH(m:ME)(c:String):ME:=fun env=>(m env).bind (oN c)
def Ag(K:PySem.W.Frag)(c:String):Prop:=∀t∈["NoneType", "bool", "int", "str", "list", "tuple"],PySem.W.kitOne K (.type t) (.type c)=some (lw t c)
theorem zF(hK:X.K=T.K)(hc:Ag T.K c)(I:L2.Inv X pins σ H s)(r:Rel T F B L H x v f)(ru:bq v u)(hx:tyP x≠"")
  (h:∀tk,Q (.bool (lw (tyP x) c)) { s with toks:=tk }):wpAny (model X.prog X.w) A (call (.builtin "isinstance") [u,.type c]) Q E s:=by
 have kin:T.K.In s.heap:=by rw[<- hK];exact I.kIn
 cases x with
 | non=>unfold Rel at r;obtain⟨rfl,_⟩:=r;cases ru;exact PySem.W.kia_one PySem.W.kitx_none kin True.intro (hc _ (by simp)) (fun z=>nomatch z) h
 | bl b=>unfold Rel at r;obtain⟨rfl,_⟩:=r;cases ru;exact PySem.W.kia_one PySem.W.kitx_bool kin True.intro (hc _ (by simp)) (fun z=>nomatch z) h
 | int i=>unfold Rel at r;obtain⟨rfl,_⟩:=r;obtain⟨t,rfl⟩:=ru;exact PySem.W.kia_one PySem.W.kitx_int kin True.intro (hc _ (by simp)) (fun z=>nomatch z) h
 | str i=>unfold Rel at r;obtain⟨rfl,_⟩:=r;obtain⟨t,rfl⟩:=ru;exact PySem.W.kia_one PySem.W.kitx_str kin True.intro (hc _ (by simp)) (fun z=>nomatch z) h
 | lst f xs =>
  unfold Rel at r
  obtain⟨a,vs,fp',rfl,hl,hr,_⟩:=r
  cases ru
  obtain⟨its,_,⟨o,n,ho,hcl,_,_⟩,_⟩:=I.list (by rw[hK];exact hl.sq)
  exact PySem.W.kia_one PySem.W.kitx_list kin ⟨_,ho,hcl⟩ (hc _ (by simp)) (fun z=>nomatch z) h
 | tup xs =>
  unfold Rel at r
  obtain⟨a,vs,rfl,hl,hr⟩:=r
  cases ru
  obtain⟨its,_,⟨o,ho,hcl,_⟩,_⟩:=I.tuple (by rw[hK];exact hl)
  exact PySem.W.kia_one PySem.W.kitx_tuple kin ⟨_,ho,hcl⟩ (hc _ (by simp)) (fun z=>nomatch z) h
 | obj f c ks xs | exc c=>exact absurd rfl hx
theorem uQ(hK:X.K=T.K)(hc:Ag T.K c)(hg:Gl X "isinstance")(hm:X.mg "isinstance" = none)(hb:bootBuiltins "isinstance" = some (.builtin "isinstance"))(hgc:Gl X cn)(hmc:X.mg cn=none)(hvc:bootBuiltins cn=some (.type c))(he:SE X T W e m)
  (hcn:cn≠"__name__" := by decide) (hcd:(cn ==("__debug__" : Str))=false:=by decide) (hst:starEach [e,.Name cn pc] X.env=[(false,eval e X.env),(false,eval (.Name cn pc) X.env)]:=by rfl)
  (hst2:starEach [.Name cn pc] X.env=[(false,eval (.Name cn pc) X.env)]:=by rfl):SE X T W (.Call (.Name "isinstance" p) [e,.Name cn pc] [] pos) (uH m c):=by
 have ht:PE X (.Name cn pc) (tC (.ty c)):=za hgc hmc hvc rfl hcn hcd
 have hcall:d9 X (.builtin "isinstance") (fun vs H Q=>∃v x F B L f,vs=[v,.ty c]/\Rel T F B L H x v f/\tyP x≠"" /\ Q (.bl (lw (tyP x) c)) H):=by
  intro pins s σ H vs us Q I rv h
  obtain⟨v,x,F,B,L,f,rfl,r,hx,q⟩:=h
  cases rv with
  | cons r1 r2 =>
   cases r2 with
   | cons r3 r4 =>
    cases r4
    cases r3
    exact zF hK hc I r r1 hx fun tk=>⟨.bl _,H,I.tok tk,rfl,q⟩
 have hargs:PA X [e,.Name cn pc] (rj (tE T W m) (rj (tC (.ty c)) AJ)):=dv he (dv ht gN hst2) (by rw[hst,hst2])
 refine PE.wk (kJ (pos:=pos) (p:=p) hcall hg hm hb hargs (he:=by rw[hst,hst2]) (hpl:=by rw[hst2];rfl)) fun σ H Q hz1=>?_
 obtain⟨Z,F,env,fp,S,q⟩:=hz1
 unfold uH at q
 refine tE.bind S (fun c e=>by rw[e]at q;exact q) (fun e=>by rw[e]at q;exact q) fun x v H1 F1 f1 e1 g1 r1 n1 d1 w1=>?_
 rw[e1]at q
 simp only[Res.ok_bind,oN]at q
 by_cases hx:tyP x = ""
 ·rw[if_pos hx]at q;exact q.elim
 ·rw[if_neg hx]at q
  exact⟨v,x,F1,Z.B,Own fp,f1,rfl,r1,hx,q.scal g1 i8⟩
def v9(f g:PV->PV->Res PV)(a b c:ME):ME:=fun env=>(a env).bind fun x=>(b env).bind fun y=>(f x y).bind fun
 | .bl true=>(c env).bind fun z=>g y z
 | .bl false=>.ok (.bl false)
 | _=>.stuck
end
theorem uR(hg:Gl X x)(hm:X.mg x=some (.int i t))(hd:(x ==("__debug__" : Str))=false:=by decide):SE X T W (.Name x pos) (mC (.int i)) :=
 kA (v:=.int i) (y9 hg hm ⟨t,rfl⟩ hd) fun _ _ _ _=>fh
end PR
namespace PR
open PySem PySem.Spec
structure Hj(K:PySem.W.Frag)(C:Addr):Prop where
 ga:PySem.W.findIn K (.ref C) "__getattribute__" = some (some (.builtin "BaseException.__getattribute__"))
 gt:PySem.W.findIn K (.ref C) "__getattr__" = some none
 ca:PySem.W.findIn K (.ref C) "__class__" = some (some (.builtin "object.__class__"))
 sb:PySem.W.mroIn K C (.type "BaseException")=some true
 so:PySem.W.mroIn K C (.type "object")=some true
 cl:(PySem.W.clsIn K C).isSome=true
end PR
namespace L2
open PySem PySem.Spec PyProof.Rows
abbrev Cx.hanX(X:Cx)(e:Value):Cx:={ X with A:=X.A.mark (some e),calm:=false,xe:=fun _ _=>False }
section
variable{X:Cx}{pins pins':List (Addr×Obj)}{σ:St}{H H':Hp}{s:Shared}{E:Value->Shared->Prop}{e:Value}
theorem Inv.hanX(I:Inv X pins σ H s):Inv (X.hanX e) pins σ H s :=
 ⟨⟨I.ok.mod,I.ok.kind,I.ok.glob,I.ok.blt,I.ok.above,I.ok.inj,I.ok.has,I.ok.cab,fun z=>(nomatch z),I.ok.frames,I.ok.stk,I.ok.exf,I.ok.bs,I.ok.bsz,I.ok.noex,I.ok.exfs,I.ok.funs,I.ok.frf⟩,
  I.os,I.bare,I.base,I.loc,I.cell,I.free,I.freeC,I.pin,I.hok,I.len⟩
end
end L2
namespace PR
open PySem PySem.Spec L2
theorem gm(F B L:Addr->Prop)(H:Hp):RelL T F B L H [] [] []:=by unfold RelL;exact⟨rfl,rfl⟩
def b6(disp:Nat->Option (List PV->Res PV))(o:ME)(ms:MA):ME:=fun env=>(o env).bind fun ov=>match ov with
 | .obj _ c _ _=>match disp c with
  | some m=>(ms env).bind fun xs=>aO m (ov::xs)
  | none=>.stuck
 | _=>.stuck
theorem zy(disp:Nat->Option (List PV->Res PV))(o:ME)(ms:MA):r6 disp [] o ms=b6 disp o ms:=by
 funext env
 unfold r6 b6
 congr 1
 funext ov
 cases ov with
 | obj f c ks vs=>simp only[List.append_nil,List.cons_append]<;>rfl
 | _=>rfl
def iN(c:Nat)(m:List PV->Res PV)(ms:MA):ME:=ap (fun xs=>aO m (.obj .own c [] []::xs)) ms
section
variable{X:Cx}{T:Tb}{W:Nat->St->Hp->Prop}
theorem uS
  (G:cN X.prog X.w X.K X.mg X.base (CXP X.prog X.w) k f fd ps (spM T ps.length m)) (cx:Ctx X T W kk) (hk:k<=kk) (hg:Gl X x) (hm:X.mg x=some (.ref f)) (hkp:PySem.W.keepIn X.K (.ref f)=true) (hb:d_ X.K fd ps [])
  (hn:gB ms n) (hps:n=ps.length) (ha:SA X T W (e::es) ms)
  (hdb:(x ==("__debug__" : Str))=false:=by decide) (he:starEach (e::es) X.env=(false,eval e X.env)::starEach es X.env:=by rfl) (hpl:(backTo pos (starEach es X.env)).any (·.1)=false:=by rfl) :
  SE X T W (.Call (.Name x p) (e::es) [] pos) (ap (aO m) ms):=by
 have h:=yD (dvs:=[]) (dps:=[]) (p:=p) (pos:=pos) G (cx.room.mono hk) hg hm hkp hb .nil gm cx.xf (fun env xs q=>by rw[hn env xs q];exact hps) ha hdb he hpl
 simpa using h
theorem AX
  (cx:Ctx X T W kk) (hc:∀c < T.nc,Cls T.K (T.cls c)) (hm:∀k,T.att k≠mn) (D:eY X T k mn ps [] disp) (hk:k<=kk)
  (hn:gB ms n) (hps:n+1=ps.length) (ho:SE X T W o mo) (ha:SA X T W (e::es) ms)
  (hst:starEach (e::es) X.env=(false,eval e X.env)::starEach es X.env:=by rfl) (hpl:(backTo pos (starEach es X.env)).any (·.1)=false:=by rfl)
  (ht:eval (.Call (.Attribute o mn apos) (e::es) [] pos) X.env=(do
   let ov <- eval o X.env
   standAt apos.atName
   let(f,first) <- holding [ov] (getMethod ov mn pl)
   callWith pos f first (backTo pos (starEach (e::es) X.env)) (backToKw pos (keywordEach [] X.env))):=by rfl) :
  SE X T W (.Call (.Attribute o mn apos) (e::es) [] pos) (b6 disp mo ms):=by
 rw[<- zy]
 exact yz (pl:=pl) (dvs:=[]) (dps:=[]) cx.hK hc hm D (cx.room.mono hk) .nil gm cx.xf (fun env xs q=>by rw[hn env xs q];exact hps) ho ha hst hpl ht
theorem AW
  (M:Mk X.K (T.cls c) f) (hcn:c < T.nc) (G:cN X.prog X.w X.K X.mg X.base (CXP X.prog X.w) k f fd ps (spI T ps.length m)) (cx:Ctx X T W kk) (hk:k+1<=kk) (hg:Gl X x) (hm:X.mg x=some (.ref (T.cls c))) (hb:d_ X.K fd ps [])
  (hn:gB ms n) (hps:n+1=ps.length) (ha:SA X T W (e::es) ms)
  (hdb:(x ==("__debug__" : Str))=false:=by decide) (he:starEach (e::es) X.env=(false,eval e X.env)::starEach es X.env:=by rfl) (hpl:(backTo pos (starEach es X.env)).any (·.1)=false:=by rfl) :
  SE X T W (.Call (.Name x p) (e::es) [] pos) (iN c m ms):=by
 have h:=yA (dvs:=[]) (dps:=[]) (p:=p) (pos:=pos) M hcn G (cx.room.mono hk) hg hm hb .nil gm cx.xf hn hps ha hdb he hpl
 unfold iN
 simpa using h
end
theorem zN(X:K.In h)(q:PySem.W.excIn K C [.type "ValueError", .type "Exception", .type "BaseException", .type "object"] "ValueError.__new__" = true) :
  ∃bm N nm q bs hdct sn sub ab col dd k0 k1 k2 k3 k5 mN,h.get? C=some (excClassObj nm q C N bs bm hdct sn sub ab col dd k0 k1 k2 k3 k5 "ValueError.__new__")/\h.Ns N mN/\mN "__init__" = none /\
   OwnTail h [.type "ValueError", .type "Exception", .type "BaseException", .type "object"] bm:=by
 unfold PySem.W.excIn at q
 split at q
 ·rename_i dd cd sl ho
  split at q
  ·rename_i C' bm k0 k1 k2 k3 n k5 hm hs
   simp only[Bool.and_eq_true,beq_iff_eq,Bool.not_eq_true']at q
   obtain⟨⟨⟨⟨⟨rfl,rfl⟩,hdel⟩,ht⟩,hok⟩,hni⟩:=q
   cases cd
   cases sl
   dsimp only at hm hdel hok hni hs
   subst hm hdel hs
   exact⟨bm,_,_,_,_,_,_,_,_,_,dd,k0,k1,k2,k3,k5,_,X _ _ ho,.of_isNs (PySem.W.isNs_of_in X hok),PySem.W.nsMap_none_of_in X hok hni,PySem.W.tail_of_in X ht⟩
  ·cases q
 ·cases q
def bh(c:Nat)(ms:MA):MS:=fun env=>match ms env with
 | .ok _=>.exc c env
 | .exc k=>.exc k env
 | .stuck=>.stuck
theorem sL(cx:Ctx X T W k)(hm:X.mg x=some (.ref (T.xcl c)))(hB:T.K.In X.base)
  (hE:PySem.W.excIn T.K (T.xcl c) [.type "ValueError", .type "Exception", .type "BaseException", .type "object"] "ValueError.__new__" = true) (hx:XM X T W) (hg:Gl X x) (hn:gB ms n) (hn2:n<=100) (ha:SA X T W (e::es) ms)
  (hd:(x ==("__debug__" : Str))=false:=by decide)
  (he:starEach (e::es) X.env=(false,eval e X.env)::starEach es X.env:=by rfl) (hpl:(backTo cpos (starEach es X.env)).any (·.1)=false:=by rfl) :
  SS X T W (.Raise (some (.Call (.Name x np) (e::es) [] cpos)) none pos) (bh c ms) :=
 uK (np:=np) (cpos:=cpos) (pos:=pos) ⟨hm,zN hB hE⟩ hx cx.calm hg ha (fun env pvs q=>by rw[hn env pvs q];exact hn2) hd he hpl
structure Scr(fl:Fl):Prop where
 is:fl=.frz\/fl=.mod
theorem Scr.lend(h:Scr fl):fl.lend=fl:=by rcases h.is with rfl | rfl<;>rfl
theorem Scr.toBor(h:Scr fl):fl.toBor=fl:=by rcases h.is with rfl | rfl<;>rfl
theorem Scr.isBor(h:Scr fl):fl.isBor=false:=by rcases h.is with rfl | rfl<;>rfl
theorem Scr.isLnt(h:Scr fl):fl.isLnt=false:=by rcases h.is with rfl | rfl<;>rfl
theorem Scr.isOwn(h:Scr fl):fl.isOwn=false:=by rcases h.is with rfl | rfl<;>rfl
theorem Scr.freeze(h:Scr fl):fl.freeze=fl:=by rcases h.is with rfl | rfl<;>rfl
theorem Scr.borrow(h:Scr fl):fl.borrow=fl:=by rcases h.is with rfl | rfl<;>rfl
theorem jC:∀ns:List Int,RelL T F B L H (ns.map PV.int) (ns.map V.int) []
 | []=>gm _ _ _ _
 | n::ns=>by
  rw[List.map_cons,List.map_cons]
  unfold RelL
  exact⟨_,_,[],[],rfl,fh,jC ns,rfl⟩
def rB(K:PySem.W.Frag):Sp:=fun vs H Q _=>∃(a:Addr) (ns:List Int),vs=[.ref a]/\SqL K H a (ns.map V.int)/\ns.length<=63/\∀v H',v=.bl true->Q v H'
theorem B4(G:cN P w T.K mg base (CXP P w) k f fd [x] (spM T 1 m))
  (h:∀(fl:Fl) (ns:List Int),Scr fl->ns.length<=63->m [.lst fl (ns.map .int)]=.ok (.bl true)):cN P w T.K mg base (CXP P w) k f fd [x] (rB T.K):=by
 refine G.imp fun vs H Q E q=>?_
 obtain⟨a,ns,rfl,hS,hl,hQ⟩:=q
 have fin:∀fl,Scr fl->∀Z:Zn,GF T Z Q E (m [.lst fl (ns.map .int)]):=fun fl hf Z=>by
  rw[h fl ns hf hl]
  intro F H' v f' _ r _ _ _
  unfold Rel at r
  exact hQ v H' r.1
 refine⟨rfl,?_⟩
 rcases hS with hS | hS
 ·refine⟨[.lst .frz (ns.map .int)],(·=a),fun _=>False,[],⟨?_,List.nodup_nil,fun _ z=>(nomatch z),fun _ z=>z.elim,fun b hb=>?_⟩,fin _ ⟨.inl rfl⟩ _⟩
  ·unfold RelL
   refine⟨_,_,[],[],rfl,?_,gm _ _ _ _,rfl⟩
   unfold Rel
   exact⟨a,_,[],rfl,⟨rfl,hS⟩,jC ns,rfl,rfl⟩
  ·subst hb
   rcases hS with e |⟨o,e⟩
   ·exact⟨_,e⟩
   ·exact⟨_,e⟩
 ·refine⟨[.lst .mod (ns.map .int)],fun _=>False,fun _=>False,[],⟨?_,List.nodup_nil,fun _ z=>(nomatch z),fun _ z=>z.elim,fun _ z=>z.elim⟩,fin _ ⟨.inr rfl⟩ _⟩
  unfold RelL
  refine⟨_,_,[],[],rfl,?_,gm _ _ _ _,rfl⟩
  unfold Rel
  exact⟨a,_,[],rfl,hS,jC ns,rfl,rfl⟩
theorem wa{l:PySem.W.OpenLaw}{k:Nat}{x:Str}{q:Program}{loose:List Str}{XP:(Str->Option Value)->Heap->Prop}{YP:World->Heap->Prop}{d:DefRec}{K:Params->PySem.W.Frag}(hn:l.most=some 63)(hdf:d.params.defaults=[])(hr:dC k callerA)
  (hY:∀(w:World) (h:Heap),YP w h->(K w.params).In h)
  (F:∀ (w:World) (mg:Str->Option Value) (fa:Addr) (h:Heap),(K w.params).In h->h.Ns mainGlobals mg->mg d.name=some (.ref fa) ->
   ∃fd:FuncData,(∀(s:Shared) (u:Value),BindsTo s fd ⟨[u],[]⟩ [(x,u)])/\∀base:Heap,(K w.params).In base->base.Ns mainGlobals mg->cN l.prog w (K w.params) mg base (CXP l.prog w) k fa fd [x] (rB (K w.params))) :
  PySem.W.WalkO q loose XP YP l.row.toRowW d [] (fun f vs=>PySem.call f vs) :=
 L2.yf (n:=63) (k:=k) (x:=x) (CX:=fun w=>CXP l.prog w) (sp:=fun w=>rB (K w.params)) hn (by decide) hdf hr hY F (fun _ _ a ns hl _ hS=>⟨a,ns,rfl,hS,hl,fun _ _ z=>z⟩) fun _ _ _ _ _ ⟨_,_,_,z⟩=>z
theorem zD:Ag K "int" := by
 intro t ht
 simp only[List.mem_cons,List.not_mem_nil,or_false]at ht
 rcases ht with rfl | rfl | rfl | rfl | rfl | rfl<;>kernel_rfl
theorem wc:Ag K "bool" := by
 intro t ht
 simp only[List.mem_cons,List.not_mem_nil,or_false]at ht
 rcases ht with rfl | rfl | rfl | rfl | rfl | rfl<;>kernel_rfl
theorem iB:bootBuiltins "isinstance" = some (.builtin "isinstance"):=by decide +kernel
theorem CT:bootBuiltins "int" = some (.type "int"):=by decide +kernel
theorem Ac:bootBuiltins "bool" = some (.type "bool"):=by decide +kernel
theorem kn:bootBuiltins "list" = some (.type "list"):=by decide +kernel
theorem g_:bootBuiltins "tuple" = some (.type "tuple"):=by decide +kernel
def uf(K:PySem.W.Frag)(C:Addr):Bool :=
 decide (PySem.W.findIn K (.ref C) "__getattribute__" = some (some (.builtin "BaseException.__getattribute__")))&&decide (PySem.W.findIn K (.ref C) "__getattr__" = some none) &&
 decide (PySem.W.findIn K (.ref C) "__class__" = some (some (.builtin "object.__class__")))&&decide (PySem.W.mroIn K C (.type "BaseException")=some true)&&decide (PySem.W.mroIn K C (.type "object")=some true)&&(PySem.W.clsIn K C).isSome &&
 PySem.W.excIn K C [.type "ValueError", .type "Exception", .type "BaseException", .type "object"] "ValueError.__new__"
theorem zP(h:uf K C=true):Hj K C/\PySem.W.excIn K C [.type "ValueError", .type "Exception", .type "BaseException", .type "object"] "ValueError.__new__" = true:=by
 simp only[uf,Bool.and_eq_true,decide_eq_true_eq]at h
 obtain⟨⟨⟨⟨⟨⟨h1,h2⟩,h3⟩,h4⟩,h5⟩,h6⟩,h7⟩:=h
 exact⟨⟨h1,h2,h3,h4,h5,h6⟩,h7⟩
def y6(l:List Addr)(i:Nat):Addr:=l.getD i (l.headD 0)
def lT(l:List Bool)(i:Nat):Bool:=l.getD i (l.headD false)
theorem vi{α:Type}{f:Addr->Option α}{g:α->Bool}{l:List Addr}{bs:List Bool}{r:Bool->Option α}(hl:l≠[])(h:l.map f=bs.map r)(i:Nat):f (y6 l i)=r (lT bs i):=by
 have hlen:l.length=bs.length:=by simpa using congrArg List.length h
 unfold y6 lT
 rw[List.getD_eq_getElem?_getD,List.getD_eq_getElem?_getD]
 have key:∀j,(l[j]?).map f=(bs[j]?).map r:=fun j=>by rw[<- List.getElem?_map,<- List.getElem?_map,h]
 cases e:l[i]? with
 | some C =>
  have:=key i
  rw[e]at this
  cases e2:bs[i]? with
  | some b=>rw[e2]at this;simpa using this
  | none=>rw[e2]at this;simp at this
 | none =>
  have hb:bs[i]?=none:=by
   rw[List.getElem?_eq_none_iff]at e ⊢
   omega
  rw[hb]
  cases l with
  | nil=>exact absurd rfl hl
  | cons a l =>
   cases bs with
   | nil=>simp at hlen
   | cons b bs=>simpa using key 0
def PV.isBl(c:Bool):PV->Bool
 | .bl b=>b==c
 | _=>false
def GK:PV->PV->Res PV
 | x,.bl c=>.ok (.bl (x.isBl c))
 | _,_=>.stuck
def kK:PV->PV->Res PV
 | x,.bl c=>.ok (.bl (!x.isBl c))
 | _,_=>.stuck
section
variable{X:Cx}{T:Tb}{W:Nat->St->Hp->Prop}{F B L:Addr->Prop}{H:Hp}{a b:Expr}{ma mb:ME}{pos:Pos}
theorem Rel.isBl(c:Bool)(r:Rel T F B L H x v f):decide (v=.bl c)=x.isBl c:=by
 cases x with
 | non=>unfold Rel at r;rw[r.1];rfl
 | bl b=>unfold Rel at r;rw[r.1];cases b<;>cases c<;>rfl
 | int i | str i=>unfold Rel at r;rw[r.1];rfl
 | lst f xs=>unfold Rel at r;obtain⟨a,_,_,rfl,_⟩:=r;rfl
 | tup xs=>unfold Rel at r;obtain⟨a,_,rfl,_⟩:=r;rfl
 | obj f c ks xs=>unfold Rel at r;obtain⟨a,_,_,_,rfl,_⟩:=r;rfl
 | exc c=>unfold Rel at r;obtain⟨a,rfl,_⟩:=r;rfl
theorem yN(r:bq x v):(v==Value.bool c)=decide (x=.bl c):=by
 cases x with
 | non=>cases r;rfl
 | bl b=>cases r;cases b<;>cases c<;>rfl
 | int i | str i | byt i=>obtain⟨t,rfl⟩:=r;rfl
 | ref i | ty i=>cases r;rfl
 | flt i=>obtain⟨t,rfl⟩:=r;rfl
theorem zf:OpR X (compareOp .IsNot) (fun x y H Q=>∃c,y=.bl c/\Q (.bl (!decide (x=.bl c))) H):=by
 intro pins s σ H x y v u Q I rx ry h
 obtain⟨c,rfl,q⟩:=h
 cases ry
 have e:=yN (c:=c) rx
 have go:EP X pins σ Q (.bool (!(v==.bool c))) s:=⟨.bl _,H,I,by rw[e];rfl,q⟩
 cases x<;>first
  |(cases rx;exact wpAny_pure go)
  |(obtain⟨t,rfl⟩:=rx;exact wpAny_pure go)
theorem vW:io T W kK (fun x y H Q=>∃c,y=.bl c/\Q (.bl (!decide (x=.bl c))) H):=by
 intro B F L σ H Q F' H' x y v u fx fy gr rx ry nf nd new q
 cases y with
 | bl c=>unfold Rel at ry;refine⟨c,ry.1,?_⟩;rw[rx.isBl c];exact GE.scal (pv:=.bl (!x.isBl c)) (by simpa[kK]using q) gr i8
 | _=>simp only[kK]at q;exact q.elim
theorem rz(ha:SE X T W a ma)(hb:SE X T W b mb):ST X T W (.Compare a [.IsNot] [b] pos) (av (mOp kK ma mb)):=fg zf vW ha hb (eB _)
variable{Z:Zn}{F1:Addr->Prop}{H1:Hp}{σ:St}{env:En}{fp:Nat->List Addr}
def rR:List PV->Res PV
 | [.int n]=>if decide (0<=n/\n<=1000000)then .ok (.lst .own (b5 0 n.toNat))else .stuck
 | _=>.stuck
end
def bw:List PV->Option (List Int)
 | []=>some []
 | .int i::xs=>(bw xs).map (i::·)
 | _::_=>none
def my(ns:List Int):Nat:=(PyProof.Rows.firstMet (fun i=>ns.getD i 0) ns.length).length
def h_:PV->Res PV
 | .lst _ xs=>match bw xs with
  | some ns=>if decide (ns.length<=1000)then .ok (.int (my ns))else .stuck
  | none=>.stuck
 | _=>.stuck
section
variable{X:Cx}{T:Tb}{W:Nat->St->Hp->Prop}{Z:Zn}{F F1 B L:Addr->Prop}{H H1:Hp}{σ:St}{env:En}{fp:Nat->List Addr}
theorem cK:∀{xs:List PV}{vs:List V}{f:List Addr}{ns:List Int},bw xs=some ns->RelL T F B L H xs vs f->vs=ns.map V.int
 | [],_,_,_,e,r=>by cases e;unfold RelL at r;exact r.1
 | .int i::xs,_,_,ns,e,r=>by
  unfold RelL at r
  obtain⟨v,ws,f1,f2,rfl,h1,h2,rfl⟩:=r
  simp only[bw]at e
  cases e2:bw xs with
  | none=>rw[e2]at e;cases e
  | some ms =>
   rw[e2]at e
   cases e
   unfold Rel at h1
   rw[h1.1,cK e2 h2]
   rfl
 | .non::_,_,_,_,e,_ | .bl _::_,_,_,_,e,_ | .str _::_,_,_,_,e,_ | .lst _ _::_,_,_,_,e,_ | .tup _::_,_,_,_,e,_ | .obj _ _ _ _::_,_,_,_,e,_ | .exc _::_,_,_,_,e,_=>by simp[bw]at e
theorem fN:∀{ns:List Int}{its:List Value},aJ (ns.map V.int) its->PyProof.Rows.IntsAre its ns
 | [],_,r=>by cases r;exact .nil
 | n::ns,_,r=>by
  cases r with
  | cons h t =>
   obtain⟨tk,rfl⟩:=h
   exact .cons _ _ (fN t)
theorem lB(hc:X.calm=true):d9 X (.type "set") (fun xs H Q=>∃p ns,xs=[.ref p]/\SqL X.K H p (ns.map V.int)/\ns.length<=1000/\∀r S,H r=none->Q (.ref r) (upd H r (.set S (my ns)))):=by
 intro pins s σ H xs us Q I rv h
 obtain⟨p,ns,rfl,hS,hl,q⟩:=h
 obtain⟨u,rfl,rx⟩:=dD rv
 cases rx
 obtain⟨its,r',pl,hz⟩:=I.list hS
 have hlen:=r'.length
 rw[List.length_map]at hlen
 refine call_set_list (I.ok.hd hc) pl.isList (ns:=ns) (by simpa using fN r') (by simp only[List.size_toArray,<- hlen];unfold scanBound;omega) fun h' tk hs kp=>?_
 have e:its.toArray.size=ns.length:=by simp[hlen]
 rw[e]at hs
 exact⟨.ref s.heap.objs.size,_,I.laid (t':=tk) (o:=.set (fun k'=>(PyProof.Rows.firstMet (fun i=>ns.getD i 0) ns.length).any (·==k')) (my ns)) (fun b o e=>kp b o (Heap.lt_size e) e) (Nat.le_refl _) hs,rfl,q _ _ (I.hok.fresh (Nat.le_refl _))⟩
theorem lC:d9 X (.builtin "len") (fun xs H Q=>∃r S n,xs=[.ref r]/\H r=some (.set S n)/\Q (.int n) H):=by
 intro pins s σ H xs us Q I rv h
 obtain⟨r,S,n,rfl,hr,q⟩:=h
 obtain⟨u,rfl,rx⟩:=dD rv
 cases rx
 obtain⟨o,es,ep,t,ho,hex,hd,_,_,hb,hf,hn⟩:=I.hok r _ hr
 have hb':es.size < 4096:=hb
 exact call_len_set ho hex hd hf (by omega) ⟨.int n,H,I.tok _,⟨s.toks+1,by rw[hn]⟩,q⟩
theorem CQ:bootBuiltins "set" = some (.type "set"):=by decide +kernel
theorem lP(hK:X.K=T.K)(hc:X.calm=true)(hg:Gl X "len")(hm:X.mg "len" = none)(hg2:Gl X "set")(hm2:X.mg "set" = none)(he:SE X T W e m)
  (hs:starEach [e] X.env=[(false,eval e X.env)]:=by rfl)
  (hs2:starEach [.Call (.Name "set" p2) [e] [] pos2] X.env=[(false,eval (.Call (.Name "set" p2) [e] [] pos2) X.env)]:=by rfl) :
  SE X T W (.Call (.Name "len" p) [.Call (.Name "set" p2) [e] [] pos2] [] pos) (mUn h_ m):=by
 refine PE.wk (kJ (p:=p) (pos:=pos) lC hg hm boot_len (dv (lV (p:=p2) (pos:=pos2) (lB hc) hg2 hm2 CQ (dv he gN (by rw[hs];rfl)) (he:=by rw[hs];rfl) (hpl:=rfl)) gN (by rw[hs2];rfl)) (he:=by rw[hs2];rfl) (hpl:=rfl)) fun σ H Q hz1=>?_
 obtain⟨Z,F,env,fp,S,q⟩:=hz1
 unfold mUn at q
 refine tE.bind S (fun c e=>by rw[e]at q;exact q) (fun e=>by rw[e]at q;exact q) fun x v H1 F1 f1 e1 g1 r1 n1 d1 w1=>?_
 rw[e1]at q
 cases x with
 | lst fl xs =>
  simp only[Res.ok_bind,h_]at q
  cases en:bw xs with
  | none=>rw[en]at q;exact q.elim
  | some ns =>
   rw[en]at q
   dsimp only at q
   unfold Rel at r1
   obtain⟨a,vs,fp',rfl,hl,hr,_⟩:=r1
   by_cases hn:decide (ns.length<=1000)=true
   ·rw[if_pos hn]at q
    have hv:=cK en hr
    subst hv
    exact⟨a,ns,rfl,by rw[hK];exact hl.sq,of_decide_eq_true hn,fun r S hr=>⟨r,S,_,rfl,bM,q.scal (g1.trans (Gr.same g1.dom (Ext.upd hr))) fh⟩⟩
   ·rw[if_neg hn]at q;exact q.elim
 | _=>exact q.elim
end
def eX:List Int->Int
 | []=>0
 | [a]=>a
 | a::b::l=>min a (eX (b::l))
def je:List Int->Int
 | []=>0
 | [a]=>a
 | a::b::l=>max a (je (b::l))
theorem fI:∀{l:List Int},l≠[]->eX l∈l/\∀x∈l,eX l<=x
 | [],h=>absurd rfl h
 | [a],_=>by simp[eX]
 | a::b::l,_=>by
  obtain⟨h1,h2⟩:=fI (l:=b::l) (by simp)
  unfold eX
  refine⟨?_,fun x hx=>?_⟩
  ·rcases Int.le_total a (eX (b::l))with h | h
   ·rw[Int.min_eq_left h];exact List.mem_cons_self
   ·rw[Int.min_eq_right h];exact List.mem_cons_of_mem _ h1
  ·rcases List.mem_cons.mp hx with rfl | hx
   ·exact Int.min_le_left _ _
   ·exact Int.le_trans (Int.min_le_right _ _) (h2 x hx)
theorem kP:∀{l:List Int},l≠[]->je l∈l/\∀x∈l,x<=je l
 | [],h=>absurd rfl h
 | [a],_=>by simp[je]
 | a::b::l,_=>by
  obtain⟨h1,h2⟩:=kP (l:=b::l) (by simp)
  unfold je
  refine⟨?_,fun x hx=>?_⟩
  ·rcases Int.le_total a (je (b::l))with h | h
   ·rw[Int.max_eq_right h];exact List.mem_cons_of_mem _ h1
   ·rw[Int.max_eq_left h];exact List.mem_cons_self
  ·rcases List.mem_cons.mp hx with rfl | hx
   ·exact Int.le_max_left _ _
   ·exact Int.le_trans (h2 x hx) (Int.le_max_right _ _)
section
variable{X:Cx}{T:Tb}{W:Nat->St->Hp->Prop}{Z:Zn}{F F1 B L:Addr->Prop}{H H1:Hp}{σ:St}{env:En}{fp:Nat->List Addr}{pins:List (Addr×Obj)}{s:Shared}
theorem eV{h':Heap}{t:Nat}(I:L2.Inv X pins σ H s)(k:∀b o,s.heap.get? b=some o->h'.get? b=some o):L2.Inv X pins σ H { s with heap:=h',toks:=t }:=I.un (Un.kept k) (I.hok.kept k)
theorem dz{its:List Value}{ns:List Int}(r:aJ (ns.map V.int) its):∀(i:Nat) (v:Value),its.toArray[i]?=some v->∃t,v=.int (ns.getD i 0) t:=by
 intro i v e
 have e':its[i]?=some v:=by simpa using e
 have hi:i < ns.length:=by
  have h1:=(List.getElem?_eq_some_iff.mp e').1
  have h2:=r.length
  rw[List.length_map]at h2
  omega
 have:∀{ns:List Int}{its:List Value}{i:Nat}{v:Value},aJ (ns.map V.int) its->its[i]?=some v->∃t,v=.int (ns.getD i 0) t:=by
  intro ns
  induction ns with
  | nil=>intro its i v r e;cases r;simp at e
  | cons n ns ih =>
   intro its i v r e
   cases r with
   | cons h t =>
    obtain⟨tk,rfl⟩:=h
    cases i with
    | zero=>simp at e;exact⟨tk,by rw[<- e];rfl⟩
    | succ i =>
     obtain⟨tk',h'⟩:=ih t (by simpa using e)
     exact⟨tk',by rw[h'];rfl⟩
 exact this r e'
theorem pP{ns:List Int}(h:0 < ns.length):ns.getD (argBest (fun i j=>decide (ns.getD i 0 < ns.getD j 0)) (ns.length - 1)) 0=eX ns:=by
 obtain⟨h1,h2⟩:=argBest_lt (fun i=>ns.getD i 0) (ns.length - 1)
 obtain⟨m1,m2⟩:=fI (l:=ns) (by intro z;simp[z]at h)
 refine Int.le_antisymm ?_ (m2 _ ?_)
 ·obtain⟨i,hi,e⟩:=List.getElem_of_mem m1
  have:=h2 i (by omega)
  simp only[List.getD_eq_getElem?_getD,List.getElem?_eq_getElem hi,Option.getD_some,e]at this
  simpa[List.getD_eq_getElem?_getD]using this
 ·rw[List.getD_eq_getElem?_getD,List.getElem?_eq_getElem (by omega)]
  exact List.getElem_mem _
theorem xh{ns:List Int}(h:0 < ns.length):ns.getD (argBest (fun i j=>decide (ns.getD i 0 > ns.getD j 0)) (ns.length - 1)) 0=je ns:=by
 obtain⟨h1,h2⟩:=argBest_gt (fun i=>ns.getD i 0) (ns.length - 1)
 obtain⟨m1,m2⟩:=kP (l:=ns) (by intro z;simp[z]at h)
 refine Int.le_antisymm (m2 _ ?_) ?_
 ·rw[List.getD_eq_getElem?_getD,List.getElem?_eq_getElem (by omega)]
  exact List.getElem_mem _
 ·obtain⟨i,hi,e⟩:=List.getElem_of_mem m1
  have:=h2 i (by omega)
  simp only[List.getD_eq_getElem?_getD,List.getElem?_eq_getElem hi,Option.getD_some,e]at this
  simpa[List.getD_eq_getElem?_getD]using this
theorem gC{n:Nat}{l I:Addr}(hl:l < n)(e:I=n):∀b∈[I,l],b < n+1:=fun b hb=>by
 rcases List.mem_cons.mp hb with z | hb
 ·rw[z,e];exact Nat.lt_succ_self _
 ·rcases List.mem_cons.mp hb with rfl | hb
  ·exact Nat.lt_succ_of_lt hl
  ·cases hb
theorem cX{h h':Heap}{o:Obj}(hk:∀b u,b∉[h.objs.size]->(h.push o).get? b=some u->h'.get? b=some u):∀b u,h.get? b=some u->h'.get? b=some u:=fun b u e =>
 hk b u (fun hm=>by
  rcases List.mem_cons.mp hm with z | z
  ·exact absurd (z▸Heap.lt_size e) (Nat.lt_irrefl _)
  ·cases z) (Heap.get?_push_of_some _ e)
theorem nU(hc:X.calm=true):d9 X (.builtin "min") (fun xs H Q=>∃p ns,xs=[.ref p]/\(SqL X.K H p (ns.map V.int)\/ SqT X.K H p (ns.map V.int))/\0 < ns.length/\Q (.int (eX ns)) H):=by
 intro pins s σ H xs us Q I rv h
 obtain⟨p,ns,rfl,hq,hn,q⟩:=h
 obtain⟨u,rfl,rx⟩:=dD rv
 cases rx
 have hh:=I.ok.hd hc
 have key:∀{its:List Value},aJ (ns.map V.int) its->∀{v:Value}{h':Heap}{tk:Nat},its.toArray[argBest (fun i j=>decide (ns.getD i 0 < ns.getD j 0)) (its.toArray.size - 1)]?=some v->(∀b o,s.heap.get? b=some o->h'.get? b=some o)->EP X pins σ Q v { s with heap:=h',toks:=tk }:=by
  intro its r v h' tk hv k
  have hl:its.toArray.size=ns.length:=by
   have:=r.length
   simpa using this.symm
  rw[hl]at hv
  obtain⟨t,rfl⟩:=dz r _ _ hv
  rw[pP hn]
  exact⟨.int _,H,eV I k,⟨t,rfl⟩,q⟩
 rcases hq with hq | hq
 ·obtain⟨its,r,pl,hz⟩:=I.list hq
  have hl:its.toArray.size=ns.length:=by
   have:=r.length
   simpa using this.symm
  obtain⟨o,ho,hcl,n,hd⟩:=pl.isList
  have hlt:=Heap.lt_size ho
  refine call_min_walk (wpAny_pyIter_list pl.isList ?_)
  refine⟨_,_,_,_,_,_,_,rfl,Walks.list (A:=X.A.in1) hh _ p (Nat.ne_of_lt hlt) its.toArray,⟨⟨_,Heap.get?_push_size _ rfl,rfl,rfl⟩,pl.isList.push _⟩,fun b hb=>?_,by omega,CmpOf.ints_lt (fun i=>ns.getD i 0) (dz r),fun v h' tk hP hk=>key r hP (cX hk)⟩
  show b <(s.heap.push _).objs.size
  rw[Heap.size_push]
  exact gC hlt rfl b hb
 ·obtain⟨its,r,pl,hz⟩:=I.tuple hq
  have hl:its.toArray.size=ns.length:=by
   have:=r.length
   simpa using this.symm
  have pt:s.heap.IsTuple p its.toArray:=pl
  obtain⟨o,ho,hcl,n,hd⟩:=pl
  have hlt:=Heap.lt_size ho
  refine call_min_walk (wpAny_pyIter_tuple pt ?_)
  refine⟨_,_,_,_,_,_,_,rfl,Walks.tuple (A:=X.A.in1) hh _ p (Nat.ne_of_lt hlt) its.toArray,⟨⟨_,Heap.get?_push_size _ rfl,rfl,rfl⟩,pt.push _⟩,fun b hb=>?_,by omega,CmpOf.ints_lt (fun i=>ns.getD i 0) (dz r),fun v h' tk hP hk=>key r hP (cX hk)⟩
  show b <(s.heap.push _).objs.size
  rw[Heap.size_push]
  exact gC hlt rfl b hb
theorem nV(hc:X.calm=true):d9 X (.builtin "max") (fun xs H Q=>∃p ns,xs=[.ref p]/\(SqL X.K H p (ns.map V.int)\/ SqT X.K H p (ns.map V.int))/\0 < ns.length/\Q (.int (je ns)) H):=by
 intro pins s σ H xs us Q I rv h
 obtain⟨p,ns,rfl,hq,hn,q⟩:=h
 obtain⟨u,rfl,rx⟩:=dD rv
 cases rx
 have hh:=I.ok.hd hc
 have key:∀{its:List Value},aJ (ns.map V.int) its->∀{v:Value}{h':Heap}{tk:Nat},its.toArray[argBest (fun i j=>decide (ns.getD i 0 > ns.getD j 0)) (its.toArray.size - 1)]?=some v->(∀b o,s.heap.get? b=some o->h'.get? b=some o)->EP X pins σ Q v { s with heap:=h',toks:=tk }:=by
  intro its r v h' tk hv k
  have hl:its.toArray.size=ns.length:=by
   have:=r.length
   simpa using this.symm
  rw[hl]at hv
  obtain⟨t,rfl⟩:=dz r _ _ hv
  rw[xh hn]
  exact⟨.int _,H,eV I k,⟨t,rfl⟩,q⟩
 rcases hq with hq | hq
 ·obtain⟨its,r,pl,hz⟩:=I.list hq
  have hl:its.toArray.size=ns.length:=by
   have:=r.length
   simpa using this.symm
  obtain⟨o,ho,hcl,n,hd⟩:=pl.isList
  have hlt:=Heap.lt_size ho
  refine call_max_walk (wpAny_pyIter_list pl.isList ?_)
  refine⟨_,_,_,_,_,_,_,rfl,Walks.list (A:=X.A.in1) hh _ p (Nat.ne_of_lt hlt) its.toArray,⟨⟨_,Heap.get?_push_size _ rfl,rfl,rfl⟩,pl.isList.push _⟩,fun b hb=>?_,by omega,CmpOf.ints_gt (fun i=>ns.getD i 0) (dz r),fun v h' tk hP hk=>key r hP (cX hk)⟩
  show b <(s.heap.push _).objs.size
  rw[Heap.size_push]
  exact gC hlt rfl b hb
 ·obtain⟨its,r,pl,hz⟩:=I.tuple hq
  have hl:its.toArray.size=ns.length:=by
   have:=r.length
   simpa using this.symm
  have pt:s.heap.IsTuple p its.toArray:=pl
  obtain⟨o,ho,hcl,n,hd⟩:=pl
  have hlt:=Heap.lt_size ho
  refine call_max_walk (wpAny_pyIter_tuple pt ?_)
  refine⟨_,_,_,_,_,_,_,rfl,Walks.tuple (A:=X.A.in1) hh _ p (Nat.ne_of_lt hlt) its.toArray,⟨⟨_,Heap.get?_push_size _ rfl,rfl,rfl⟩,pt.push _⟩,fun b hb=>?_,by omega,CmpOf.ints_gt (fun i=>ns.getD i 0) (dz r),fun v h' tk hP hk=>key r hP (cX hk)⟩
  show b <(s.heap.push _).objs.size
  rw[Heap.size_push]
  exact gC hlt rfl b hb
def fH(g:List Int->Int):PV->Res PV:=fun x=>match aQ x with
 | some xs=>match bw xs with
  | some ns=>if ns.isEmpty then .stuck else .ok (.int (g ns))
  | none=>.stuck
 | none=>.stuck
theorem oW(hK:X.K=T.K):Mir T W (p1 (fH g)) (fun xs H Q=>∃p ns,xs=[.ref p]/\(SqL X.K H p (ns.map V.int)\/ SqT X.K H p (ns.map V.int))/\0 < ns.length/\Q (.int (g ns)) H):=by
 intro B F L σ H Q F' H' xs vs fx gr r nf nd new q
 match xs,r,q with
 | [x],r,q =>
  obtain⟨v,rfl,rv⟩:=RelL.one r
  simp only[p1,fH]at q
  cases e:aQ x with
  | none=>rw[e]at q;exact q.elim
  | some ys =>
   rw[e]at q
   dsimp only at q
   cases e2:bw ys with
   | none=>rw[e2]at q;exact q.elim
   | some ns =>
    rw[e2]at q
    dsimp only at q
    obtain⟨a,us,fx',rfl,hs,hr,_⟩:=rv.seq e
    have hu:=cK e2 hr
    subst hu
    cases ns with
    | nil=>exact q.elim
    | cons n ns=>exact⟨a,_,rfl,by rw[hK];exact hs,by simp,q.scal gr fh⟩
 | [],_,q=>exact q.elim
 | _::_::_,_,q=>simp only[p1]at q;exact q.elim
theorem qV:bootBuiltins "min" = some (.builtin "min"):=by decide +kernel
theorem CS:bootBuiltins "max" = some (.builtin "max"):=by decide +kernel
theorem rD(hK:X.K=T.K)(hc:X.calm=true)(hg:Gl X "min")(hm:X.mg "min" = none)(ha:SE X T W e m)(he:starEach [e] X.env=[(false,eval e X.env)]:=by rfl):SE X T W (.Call (.Name "min" p) [e] [] pos) (ap (p1 (fH eX)) (ae m am)) :=
 dU (nU hc) (oW hK) hg hm qV (aa ha af (by rw[he];rfl)) (he:=by rw[he];rfl) (hpl:=rfl)
theorem rE(hK:X.K=T.K)(hc:X.calm=true)(hg:Gl X "max")(hm:X.mg "max" = none)(ha:SE X T W e m)(he:starEach [e] X.env=[(false,eval e X.env)]:=by rfl):SE X T W (.Call (.Name "max" p) [e] [] pos) (ap (p1 (fH je)) (ae m am)) :=
 dU (nV hc) (oW hK) hg hm CS (aa ha af (by rw[he];rfl)) (he:=by rw[he];rfl) (hpl:=rfl)
def fV(g:Int->Int->Int):List PV->Res PV
 | [.int i,.int j]=>.ok (.int (g i j))
 | _=>.stuck
theorem tV{g:Int->Int->Int}{g':Int->Int->Int}(hg:∀i j,g' i j=g i j):Mir T W (fV g) (fun xs H Q=>∃i j,xs=[.int i,.int j]/\Q (.int (g' i j)) H):=by
 intro B F L σ H Q F' H' xs vs fx gr r nf nd new q
 match xs,r,q with
 | [x,y],r,q =>
  cases x with
  | int i =>
   cases y with
   | int j =>
    unfold RelL at r
    obtain⟨v,ws,f1,f2,rfl,h1,h2,rfl⟩:=r
    obtain⟨u,rfl,h3⟩:=RelL.one h2
    unfold Rel at h1 h3
    obtain⟨rfl,_⟩:=h1
    obtain⟨rfl,_⟩:=h3
    exact⟨i,j,rfl,by rw[hg];exact q.scal gr fh⟩
   | _=>exact q.elim
  | _=>exact q.elim
 | [],_,q=>exact q.elim
 | [x],_,q=>cases x<;>exact q.elim
 | x::y::z::l,_,q=>cases x<;>cases y<;>exact q.elim
theorem mY(hc:X.calm=true)(hg:Gl X "min")(hm:X.mg "min" = none)(ha:SA X T W [a,b] ms)(he:starEach [a,b] X.env=[(false,eval a X.env),(false,eval b X.env)]:=by rfl)(he2:starEach [b] X.env=[(false,eval b X.env)]:=by rfl) :
  SE X T W (.Call (.Name "min" p) [a,b] [] pos) (ap (fV min) ms) :=
 dU (uo hc) (tV fun i j=>by simp only[Int.min_def];split<;>split<;>omega) hg hm qV ha (he:=by rw[he,he2]) (hpl:=by rw[he2];rfl)
end
end PR
namespace PR
open PySem PySem.W PyProof.Rows
structure Ord(N:Nat)(lt:Nat->Nat->Bool):Prop where
 tr:∀i j k,i < N->j < N->k < N->lt i j=true->lt j k=true->lt i k=true
 tot:∀i j,i < N->j < N->i≠j->lt i j=false->lt j i=true
 irr:∀i,i < N->lt i i=false
structure Plc(N:Nat)(p:Array Nat):Prop where
 pm:p.toList.Perm (List.range N)
abbrev at_(p:Array Nat)(i:Nat):Nat:=p.getD i 0
section
variable{N:Nat}{lt:Nat->Nat->Bool}{p:Array Nat}
theorem Plc.sz(P:Plc N p):p.size=N:=by simpa using P.pm.length_eq
theorem Plc.get(P:Plc N p)(h:i < N):p[i]?=some (at_ p i):=by
 have:i < p.size:=by rw[P.sz];exact h
 simp[at_,this]
theorem Plc.bd(P:Plc N p)(h:i < N):at_ p i < N:=by
 have hm:at_ p i∈p.toList:=by
  have:=P.get h
  exact Array.mem_toList_iff.mpr (Array.mem_of_getElem? this)
 simpa using P.pm.mem_iff.mp hm
theorem Plc.inj(P:Plc N p)(hi:i < N)(hj:j < N)(e:at_ p i=at_ p j):i=j:=by
 have nd:p.toList.Nodup:=P.pm.nodup_iff.mpr List.nodup_range
 have h1:=P.get hi
 have h2:=P.get hj
 rw[e]at h1
 have h1':p.toList[i]?=some (at_ p j):=by simpa using h1
 have h2':p.toList[j]?=some (at_ p j):=by simpa using h2
 obtain⟨a1,b1⟩:=List.getElem?_eq_some_iff.mp h1'
 obtain⟨a2,b2⟩:=List.getElem?_eq_some_iff.mp h2'
 exact(List.getElem_inj nd).mp (b1.trans b2.symm)
def Asc(lt:Nat->Nat->Bool)(p:Array Nat)(n:Nat):Prop:=∀a b,a < b->b < n->lt (at_ p a) (at_ p b)=true
def Dsc(lt:Nat->Nat->Bool)(p:Array Nat)(n:Nat):Prop:=∀a b,a < b->b < n->lt (at_ p b) (at_ p a)=true
theorem Asc.more(O:Ord N lt)(P:Plc N p)(h:Asc lt p n)(h1:1<=n)(hn:n < N)(hl:lt (at_ p (n - 1)) (at_ p n)=true):Asc lt p (n+1):=fun a b hab hb=>by
 by_cases hbn:b < n
 ·exact h a b hab hbn
 ·obtain rfl:b=n:=by omega
  by_cases ha:a=b - 1
  ·rw[ha];exact hl
  ·exact O.tr _ _ _ (P.bd (by omega)) (P.bd (by omega)) (P.bd (by omega)) (h a (b - 1) (by omega) (by omega)) hl
theorem Dsc.more(O:Ord N lt)(P:Plc N p)(h:Dsc lt p n)(h1:1<=n)(hn:n < N)(hl:lt (at_ p n) (at_ p (n - 1))=true):Dsc lt p (n+1):=fun a b hab hb=>by
 by_cases hbn:b < n
 ·exact h a b hab hbn
 ·obtain rfl:b=n:=by omega
  by_cases ha:a=b - 1
  ·rw[ha];exact hl
  ·exact O.tr _ _ _ (P.bd (by omega)) (P.bd (by omega)) (P.bd (by omega)) hl (h a (b - 1) (by omega) (by omega))
theorem Dsc.rev(P:Plc N p)(h:Dsc lt p n)(hn:n<=N):Asc lt (kas_rev p 0 n) n/\Plc N (kas_rev p 0 n):=by
 have hp:(kas_rev p 0 n).toList.Perm p.toList:=Array.perm_iff_toList_perm.mp (mirror_perm _ _ _ _)
 have P':Plc N (kas_rev p 0 n):=⟨hp.trans P.pm⟩
 have ix:∀k,k < n->at_ (kas_rev p 0 n) k=at_ p (n - 1 - k):=fun k hk=>by
  have e:=getElem?_mirror_all (xs:=p) (i:=0) (j:=n) (by rw[P.sz];exact hn) k
  have h1:(kas_rev p 0 n)[k]?=p[0+n - 1 - k]?:=by
   unfold kas_rev
   rw[e,if_pos ⟨by omega,hk⟩]
  rw[P'.get (by omega),show 0+n - 1 - k=n - 1 - k by omega,P.get (by omega)]at h1
  exact Option.some.inj h1
 refine⟨fun a b hab hb=>?_,P'⟩
 rw[ix a (by omega),ix b hb]
 exact h _ _ (by omega) (by omega)
variable{cmp:Nat->Nat->(Bool->Shared->Prop)->Shared->Prop}{s:Shared}
abbrev Cmp(N:Nat)(lt:Nat->Nat->Bool)(cmp:Nat->Nat->(Bool->Shared->Prop)->Shared->Prop)(s:Shared):Prop:=∀(i j:Nat) (C:Bool->Shared->Prop),i < N->j < N->C (lt i j) s->cmp i j C s
theorem qW(O:Ord N lt)(C:Cmp N lt cmp s)(P:Plc N p):∀(f n:Nat) (Q:Nat->Shared->Prop),1<=n->n+f=N->Asc lt p n->(∀m,n<=m->m<=N->Asc lt p m->(m < N->lt (at_ p m) (at_ p (m - 1))=true)->Q m s)->(kas_asc p f n).kasWp cmp Q s
 | 0,n,Q,h1,hn,ha,k=>k n (Nat.le_refl _) (by omega) ha (by omega)
 | f+1,n,Q,h1,hn,ha,k=>by
  refine C _ _ _ (P.bd (by omega)) (P.bd (by omega)) ?_
  cases e:lt (at_ p n) (at_ p (n - 1))with
  | true=>exact k n (Nat.le_refl _) (by omega) ha fun _=>e
  | false =>
   have hl:=O.tot _ _ (P.bd (by omega)) (P.bd (by omega)) (fun z=>by have:=P.inj (by omega) (by omega) z;omega) e
   exact qW O C P f (n+1) Q (by omega) (by omega) (ha.more O P h1 (by omega) hl) fun m hm=>k m (by omega)
theorem wY(O:Ord N lt)(C:Cmp N lt cmp s)(P:Plc N p):∀(f n:Nat) (Q:Array Nat×Nat×Nat->Shared->Prop),1<=n->n+f=N->Dsc lt p n->(∀m,n<=m->m<=N->Dsc lt p m->Q (p,m,0) s)->(kas_desc f p n 0).kasWp cmp Q s
 | 0,n,Q,h1,hn,ha,k=>k n (Nat.le_refl _) (by omega) ha
 | f+1,n,Q,h1,hn,ha,k=>by
  refine C _ _ _ (P.bd (by omega)) (P.bd (by omega)) ?_
  cases e:lt (at_ p n) (at_ p (n - 1))with
  | true=>exact wY O C P f (n+1) Q (by omega) (by omega) (ha.more O P h1 (by omega) e) fun m hm=>k m (by omega)
  | false =>
   have hl:=O.tot _ _ (P.bd (by omega)) (P.bd (by omega)) (fun z=>by have:=P.inj (by omega) (by omega) z;omega) e
   refine C _ _ _ (P.bd (by omega)) (P.bd (by omega)) ?_
   have e2:lt (p.getD (n - 1) 0) (p.getD n 0)=true:=hl
   rw[e2]
   exact k n (Nat.le_refl _) (by omega) ha
theorem w8(O:Ord N lt)(C:Cmp N lt cmp s)(P:Plc N p)(h2:2<=N)(Q:Nat×Array Nat->Shared->Prop)(k:∀m p',1<=m->m<=N->Plc N p'->Asc lt p' m->Q (m,p') s):(kas_count N p).kasWp cmp Q s:=by
 unfold kas_count
 rw[KasT.kasWp_bind]
 refine qW O C P (N - 1) 1 _ (Nat.le_refl _) (by omega) (fun a b _ hb=>by omega) fun n h1 hn ha hs=>?_
 by_cases e:n=N
 ·rw[if_pos (by simpa using e)]
  exact k n p h1 hn P ha
 ·rw[if_neg (by simpa using e)]
  by_cases hn1:n > 1
  ·rw[if_pos hn1]
   refine C _ _ _ (P.bd (by omega)) (P.bd (by omega)) ?_
   have e2:lt (p.getD 0 0) (p.getD (n - 1) 0)=true:=ha 0 (n - 1) (by omega) (by omega)
   rw[e2]
   exact k n p h1 hn P ha
  ·rw[if_neg hn1]
   obtain rfl:n=1:=by omega
   unfold kas_descPart
   rw[KasT.kasWp_bind]
   refine wY O C P (N - 2) 2 _ (by omega) (by omega) (fun a b hab hb=>?_) fun m hm1 hm2 hd=>?_
   ·obtain rfl:a=0:=by omega
    obtain rfl:b=1:=by omega
    exact hs (by omega)
   ·dsimp only
    rw[if_neg (Nat.lt_irrefl 0)]
    obtain⟨ha',P'⟩:=hd.rev P hm2
    unfold kas_tail3
    rw[KasT.kasWp_bind]
    exact qW O C P' (N - m) m _ (by omega) (by omega) ha' fun n' h1' hn' ha'' _=>k n' _ (by omega) hn' P' ha''
theorem kH(O:Ord N lt)(C:Cmp N lt cmp s)(P:Plc N p)(hk:k < N)(ha:Asc lt p k):∀(f l r:Nat) (Q:Nat->Shared->Prop),l<=r->r<=k->r - l<=f->(∀a,a < l->lt (at_ p a) (at_ p k)=true)->(∀a,r<=a->a < k->lt (at_ p k) (at_ p a)=true)->
  (∀m,m<=k->(∀a,a < m->lt (at_ p a) (at_ p k)=true)->(∀a,m<=a->a < k->lt (at_ p k) (at_ p a)=true)->Q m s)->(kas_place p k f l r).kasWp cmp Q s
 | 0,l,r,Q,h1,h2,h3,h4,h5,q=>by
  obtain rfl:l=r:=by omega
  exact q l h2 h4 h5
 | f+1,l,r,Q,h1,h2,h3,h4,h5,q=>by
  unfold kas_place
  by_cases e:l >= r
  ·rw[if_pos e]
   obtain rfl:l=r:=by omega
   exact q l h2 h4 h5
  ·rw[if_neg e]
   have hm:(l+r) / 2 < r:=by omega
   have hm2:l <=(l+r) / 2:=by omega
   refine C _ _ _ (P.bd hk) (P.bd (by omega)) ?_
   cases e2:lt (at_ p k) (at_ p ((l+r) / 2))with
   | true =>
    refine kH O C P hk ha f l ((l+r) / 2) Q hm2 (by omega) (by omega) h4 (fun a h6 h7=>?_) q
    by_cases hae:a=(l+r) / 2
    ·rw[hae];exact e2
    ·exact O.tr _ _ _ (P.bd hk) (P.bd (by omega)) (P.bd (by omega)) e2 (ha _ a (by omega) h7)
   | false =>
    have hl:=O.tot _ _ (P.bd hk) (P.bd (by omega)) (fun z=>by have:=P.inj hk (by omega) z;omega) e2
    refine kH O C P hk ha f ((l+r) / 2+1) r Q (by omega) h2 (by omega) (fun a h6=>?_) h5 q
    by_cases hae:a=(l+r) / 2
    ·rw[hae];exact hl
    ·exact O.tr _ _ _ (P.bd (by omega)) (P.bd (by omega)) (P.bd hk) (ha a _ (by omega) (by omega)) hl
theorem xc(O:Ord N lt)(C:Cmp N lt cmp s):∀(f k:Nat) (p:Array Nat) (Q:Array Nat->Shared->Prop),Plc N p->Asc lt p k->k+f=N->(∀p',Plc N p'->Asc lt p' N->Q p' s)->(kas_bin f p k).kasWp cmp Q s
 | 0,k,p,Q,P,ha,hk,q=>q p P (by rw[<- hk];exact ha)
 | f+1,k,p,Q,P,ha,hk,q=>by
  unfold kas_bin
  rw[KasT.kasWp_bind]
  refine kH O C P (by omega) ha k 0 k _ (Nat.zero_le _) (Nat.le_refl _) (by omega) (fun _ z=>absurd z (Nat.not_lt_zero _)) (fun a h1 h2=>by omega) fun m hm h1 h2=>?_
  have P':Plc N (bubble p k (k - m)):=⟨(Array.perm_iff_toList_perm.mp (bubble_perm _ _ _)).trans P.pm⟩
  have ix:=getElem?_bubble (xs:=p) (src:=k) (by rw[P.sz];omega) (k - m) (by omega)
  have g:∀i,i < k+1->at_ (bubble p k (k - m)) i=if i=m then at_ p k else if m < i then at_ p (i - 1)else at_ p i:=fun i hi=>by
   have e:=ix i
   rw[P'.get (by omega)]at e
   have hkm:k - (k - m)=m:=by omega
   rw[hkm]at e
   by_cases c1:i=m
   ·rw[if_pos c1]
    rw[if_pos c1,P.get (by omega)]at e
    exact Option.some.inj e
   ·rw[if_neg c1]at e ⊢
    by_cases c2:m < i
    ·rw[if_pos c2]
     rw[if_pos ⟨c2,by omega⟩,P.get (by omega)]at e
     exact Option.some.inj e
    ·rw[if_neg c2]
     rw[if_neg (fun z=>c2 z.1),P.get (by omega)]at e
     exact Option.some.inj e
  refine xc O C f (k+1) _ Q P' (fun a b hab hb=>?_) (by omega) q
  rw[g a (by omega),g b hb]
  by_cases a1:a=m
  ·rw[if_pos a1,if_neg (by omega),if_pos (by omega)]
   exact h2 (b - 1) (by omega) (by omega)
  ·rw[if_neg a1]
   by_cases a2:m < a
   ·rw[if_pos a2,if_neg (by omega),if_pos (by omega)]
    exact ha _ _ (by omega) (by omega)
   ·rw[if_neg a2]
    by_cases b1:b=m
    ·rw[if_pos b1];exact h1 a (by omega)
    ·rw[if_neg b1]
     by_cases b2:m < b
     ·rw[if_pos b2]
      by_cases hh:a=b - 1
      ·omega
      ·exact ha _ _ (by omega) (by omega)
     ·rw[if_neg b2]
      exact ha _ _ hab (by omega)
theorem yq(O:Ord N lt)(C:Cmp N lt cmp s)(h2:2<=N)(Q:Array Nat->Shared->Prop)(q:∀p,Plc N p->Asc lt p N->Q p s):(kas_sort N).kasWp cmp Q s:=by
 unfold kas_sort
 rw[KasT.kasWp_bind]
 refine w8 O C (p:=List.toArray (List.range N)) ⟨by simp⟩ h2 _ fun m p' h1 hm P ha=>?_
 dsimp only
 by_cases e:m < N
 ·rw[if_pos e,Nat.max_eq_left h1]
  exact xc O C (N - m) m p' Q P ha (by omega) q
 ·rw[if_neg e]
  obtain rfl:m=N:=by omega
  exact q p' P ha
end
end PR
namespace PR
open PySem PySem.Spec L2 PyProof.Rows PySem.W
section
variable{prog:Program}{w:World}{A:Around}{E:Value->Shared->Prop}{s:Shared}
def kM(vs:List Value)(p:Array Nat):Array Value:=(p.toList.map fun i=>vs.getD i Value.none).toArray
theorem tf(N:Nat):Plc N (List.range N).toArray:=⟨by simp⟩
theorem jZ:kM vs (List.range vs.length).toArray=vs.toArray:=by
 unfold kM
 congr 1
 refine List.ext_getElem (by simp) fun i h1 h2=>?_
 simp[h2]
theorem yd:∀{vs:List Value},vs.length < 2->(vs.toArray.zip vs.toArray).map (·.2)=vs.toArray
 | [],_ | [v],_=>by simp
theorem t5{κ:SortKind}(ho:s.heap.get? a=some (seqObj "list" vs.toArray n))(h64:vs.length < 64)
  (hK:2<=vs.length->∀s':Shared,(∀b o,b≠a->s.heap.get? b=some o->s'.heap.get? b=some o)->Ord vs.length lt/\(∀Q:SortKind->Shared->Prop,Q κ s'->wpAny (model prog w) A (keyKind' vs.toArray) Q E s')/\Cmp vs.length lt (kas_ask prog w A κ vs) s')
  (h:∀p,Plc vs.length p->Asc lt p vs.length->P (.done (.ret .none)) { s with heap:=sortedHeap s.heap a vs (kM vs p) }) :
  wpAny (model prog w) A (Builtin.«list.sort» ⟨[.ref a],[]⟩) P E s:=by
 have lo:=Heap.lt_size ho
 obtain⟨e1,g1⟩:∃e1,(s.heap.update a (Obj.mapSeq fun _=>#[])).get? a=some (seqObj "list" #[] e1):=⟨_,get?_update_seq ho (fun _=>#[])⟩
 have g6:(((s.heap.update a (Obj.mapSeq fun _=>#[])).push (seqObj "tuple" vs.toArray 0)).push (seqObj "list" #[] 0)).get? a=some (seqObj "list" #[] e1):=Heap.get?_push_of_some _ (Heap.get?_push_of_some _ g1)
 have kp:∀b o,b≠a->s.heap.get? b=some o->(((s.heap.update a (Obj.mapSeq fun _=>#[])).push (seqObj "tuple" vs.toArray 0)).push (seqObj "list" #[] 0)).get? b=some o:=fun b o hb q =>
  Heap.get?_push_of_some _ (Heap.get?_push_of_some _ ((Heap.get?_update_ne _ _ _ _ hb).trans q))
 rw[list_sort_plain]
 refine wpAny_bind (listItems_at ho rfl (wpAny_bind (listUpdate_at ho rfl (wpAny_bind (seqEpoch_at g1 rfl (wpAny_bind (wpAny_newTuple (wpAny_bind (wpAny_newList (wpAny_holding ?_))))))))))<;>try (simp only[List.size_toArray,sizeLine_eq];omega)
 show wpAny (model prog w) A _ P E { s with heap:=((s.heap.update a (Obj.mapSeq fun _=>#[])).push (seqObj "tuple" vs.toArray 0)).push (seqObj "list" #[] 0) }
 dsimp only
 by_cases h2:vs.toArray.size < 2
 ·have h2':vs.length < 2:=by simpa using h2
  rw[if_pos h2,if_pos h2]
  refine wpAny_bind (wpAny_pure ?_)
  rw[StateT.run_pure]
  refine wpAny_bind (wpAny_pure ?_)
  dsimp only
  have e3:(arrOf (SortSt.mk' general' (vs.toArray.zip vs.toArray) #[] 7 none)).map (·.2)=kM vs (List.range vs.length).toArray:=by
   rw[jZ]
   show(vs.toArray.zip vs.toArray).map (·.2)=vs.toArray
   exact yd h2'
  rw[e3]
  refine wpAny_bind (seqEpoch_at g6 rfl (wpAny_bind (listUpdate_at g6 rfl ?_ (Nat.zero_le _) (by rw[jZ];simp only[List.size_toArray,sizeLine_eq];omega))))
  simp only[bne_self_eq_false,Bool.false_eq_true,if_false]
  exact wpAny_pure (h _ (tf _) fun x y hxy hy=>by omega)
 ·have h2':2<=vs.length:=by simp at h2;omega
  rw[if_neg h2,if_neg h2]
  obtain⟨O,hk,C⟩:=hK h2' { s with heap:=((s.heap.update a (Obj.mapSeq fun _=>#[])).push (seqObj "tuple" vs.toArray 0)).push (seqObj "list" #[] 0) } kp
  refine wpAny_bind (hk _ ?_)
  refine wpAny_bind (wpAny_mono (kat_run (κ:=κ) (ks:=vs) (vs:=vs) (Q:=fun st' s'=>∃ p:Array Nat,arrOf st'=p.map (kas_item (vs.toArray.zip vs.toArray))/\failedOf st'=none/\Plc vs.length p/\Asc lt p vs.length/\s'=_) rfl h2' h64
   (fun p st' s' _ a2 a3 a4=>⟨p,a2,a3,a4⟩) (yq O C h2' _ fun p c1 c2=>⟨c1,c2,rfl⟩)) ?_ fun _ _ e=>e)
  rintro⟨⟨⟩,st'⟩ s' ⟨p,har,hf,c1,c2,rfl⟩
  dsimp only
  have e3:=kat_snds (ks:=vs) (vs:=vs) rfl har
  rw[e3]
  refine wpAny_bind (seqEpoch_at g6 rfl (wpAny_bind (listUpdate_at g6 rfl ?_ (Nat.zero_le _) (by
   rw[List.size_toArray,List.length_map,Array.length_toList,c1.sz,sizeLine_eq];omega))))
  rw[hf]
  simp only[bne_self_eq_false,Bool.false_eq_true,if_false]
  exact wpAny_pure (h _ c1 c2)
theorem p0{κ:SortKind}(hl:s.heap.IsList l vs.toArray)(h64:vs.length < 64)
  (hK:2<=vs.length->∀s':Shared,(∀b o,s.heap.get? b=some o->s'.heap.get? b=some o)->Ord vs.length lt/\(∀(E:Value->Shared->Prop) (Q:SortKind->Shared->Prop),Q κ s'->wpAny (model prog w) A.in1.in1 (keyKind' vs.toArray) Q E s')/\Cmp vs.length lt (kas_ask prog w A.in1.in1 κ vs) s')
  (h:∀p,Plc vs.length p->Asc lt p vs.length->Q (.ref (s.heap.objs.size+1)) { s with heap:=sortedAll s.heap vs (kM vs p) }) :
  wpAny (model prog w) A (call (.builtin "sorted") [.ref l]) Q E s:=by
 refine Calls.call_function_entry kind_sorted plain_sorted entry_sorted (args_sorted1 _) ?_
 unfold Builtin.«sorted»
 have sz:((s.heap.push (seqObj "list" #[] 0)).update s.heap.objs.size (Obj.mapSeq (·++vs.toArray))).objs.size=s.heap.objs.size+1:=(Heap.size_update _ _ _).trans (size_push' _ _)
 refine wpAny_bind (m:=checkCount "sorted" 1 1 _) (wpAny_pure (wpAny_bind (collect_list hl (wpAny_bind (wpAny_newList ?_ (by rw[sizeLine_eq];omega))) (by rw[sizeLine_eq];omega))))
 have g:(((s.heap.push (seqObj "list" #[] 0)).update s.heap.objs.size (Obj.mapSeq (·++vs.toArray))).push (seqObj "list" vs.toArray 0)).get? (s.heap.objs.size+1)=some (seqObj "list" vs.toArray 0):=sz▸Heap.get?_push_size _ rfl
 have kp:∀b o,s.heap.get? b=some o->(((s.heap.push (seqObj "list" #[] 0)).update s.heap.objs.size (Obj.mapSeq (·++vs.toArray))).push (seqObj "list" vs.toArray 0)).get? b=some o:=fun b o q =>
  Heap.get?_push_of_some _ ((Heap.get?_update_ne _ _ _ _ (Nat.ne_of_lt (Heap.lt_size q))).trans (Heap.get?_push_of_some _ q))
 show wpAny _ _ _ _ _ { s with heap:=((s.heap.push (seqObj "list" #[] 0)).update s.heap.objs.size (Obj.mapSeq (·++vs.toArray))).push (seqObj "list" vs.toArray 0) }
 rw[sz]
 refine wpAny_bind (wpAny_holding (wpAny_call_entry slot_list_sort ⟨_,g,rfl⟩ entry_list_sort ?body (args_list_sort _)))
 refine t5 (κ:=κ) (lt:=lt) g h64 (fun h2 s' k'=>?_) fun p c1 c2=>⟨_,rfl,wpAny_pure ⟨_,rfl,h p c1 c2⟩⟩
 obtain⟨O,hk,C⟩:=hK h2 s' fun b o q=>k' b o (Nat.ne_of_lt (Nat.lt_succ_of_lt (Heap.lt_size q))) (kp b o q)
 exact⟨O,fun Q q=>hk _ Q q,C⟩
def eG(x y:Int×Int):Bool:=decide (x.1 < y.1) ||(x.1==y.1&&decide (x.2 < y.2))
theorem iF(h1:eG x y=true)(h2:eG y z=true):eG x z=true:=by
 simp only[eG,Bool.or_eq_true,Bool.and_eq_true,decide_eq_true_eq,beq_iff_eq]at *
 omega
theorem oH(x:Int×Int):eG x x=false:=by simp[eG]
theorem oG(h:x≠y):eG x y=true\/eG y x=true:=by
 obtain⟨a,b⟩:=x
 obtain⟨c,d⟩:=y
 have:a≠c\/b≠d:=by
  by_cases e:a=c
  ·right;intro e2;exact h (by rw[e,e2])
  ·exact .inl e
 simp only[eG,Bool.or_eq_true,Bool.and_eq_true,decide_eq_true_eq,beq_iff_eq]
 omega
def cG(h:Heap):List Value->List (Int×Int)->Prop
 | [],[]=>True
 | v::vs,x::ps=>(∃a o n t u,v=.ref a/\h.get? a=some o/\o.cls=.type "tuple" /\ o.data=.seq #[.int x.1 t,.int x.2 u] n)/\cG h vs ps
 | _,_=>False
theorem cG.len:∀{vs:List Value}{ps:List (Int×Int)},cG h vs ps->vs.length=ps.length
 | [],[],_=>rfl
 | _::_,_::_,q=>by simp[q.2.len]
theorem cG.kept(k:∀b o,h.get? b=some o->h'.get? b=some o):∀{vs:List Value}{ps:List (Int×Int)},cG h vs ps->cG h' vs ps
 | [],[],_=>trivial
 | _::_,_::_,⟨⟨a,o,n,t,u,e1,e2,e3⟩,q⟩=>⟨⟨a,o,n,t,u,e1,k _ _ e2,e3⟩,q.kept k⟩
theorem cG.at:∀{vs:List Value}{ps:List (Int×Int)},cG h vs ps->∀i,i < ps.length->∃a o n t u,vs.getD i Value.none=.ref a/\h.get? a=some o/\o.data=.seq #[.int (ps.getD i (0,0)).1 t,.int (ps.getD i (0,0)).2 u] n
 | _::_,_::_,⟨⟨a,o,n,t,u,e1,e2,e3⟩,q⟩,0,_=>⟨a,o,n,t,u,by simp[e1],e2,by simpa using e3.2⟩
 | v::vs,x::ps,⟨_,q⟩,i+1,hi=>by
  have:=q.at i (by simpa using hi)
  simpa using this
 | [],[],_,i,hi=>by simp at hi
theorem cG.firsts:∀{vs:List Value}{ps:List (Int×Int)},cG h vs ps->∃fs,KatTups h vs fs/\fs.length=ps.length/\∀v∈fs,∃i t,v=.int i t
 | [],[],_=>⟨[],.nil,rfl,fun v hv=>by cases hv⟩
 | _::_,_::_,⟨⟨a,o,n,t,u,e1,e2,e3,e4⟩,q⟩=>by
  obtain⟨fs,h1,h2,h3⟩:=q.firsts
  subst e1
  refine⟨_::fs,.cons e2 e3 e4 rfl h1,by simp[h2],fun v hv=>?_⟩
  rcases List.mem_cons.mp hv with rfl | hv
  ·exact⟨_,_,rfl⟩
  ·exact h3 v hv
theorem tw{ps:List (Int×Int)}(hd:ps.Nodup):Ord ps.length (fun i j=>eG (ps.getD i (0,0)) (ps.getD j (0,0))):=by
 refine⟨fun i j k _ _ _ h1 h2=>iF h1 h2,fun i j hi hj hn h=>?_,fun i _=>oH _⟩
 have:ps.getD i (0,0)≠ ps.getD j (0,0):=by
  simp only[List.getD_eq_getElem?_getD,List.getElem?_eq_getElem hi,List.getElem?_eq_getElem hj,Option.getD_some]
  exact fun e=>hn ((List.getElem_inj hd).mp e)
 rcases oG this with q | q
 ·rw[q]at h;cases h
 ·exact q
theorem lX(h:Q (decide (x < y)) s):wpAny (model prog w) A (oneLt' b (.int x t) (.int y u)) Q E s:=by
 cases b with
 | true=>exact oneLt_int h
 | false=>exact kat_one _ _ (wpAny_lt_int h)
theorem tz(hp:cG s.heap vs ps):Cmp vs.length (fun i j=>eG (ps.getD i (0,0)) (ps.getD j (0,0))) (kas_ask prog w A (tuples' true) vs) s:=by
 intro i j C hi hj q
 rw[hp.len]at hi hj
 obtain⟨a,o,n,t,u,e1,e2,e3⟩:=hp.at i hi
 obtain⟨a',o',n',t',u',e1',e2',e3'⟩:=hp.at j hj
 unfold kas_ask
 rw[e1,e1']
 dsimp only at q
 generalize ps.getD i (0,0)=x at *
 generalize ps.getD j (0,0)=y at *
 refine kat_lt e2 e3 e2' e3' (kat_cons (wpAny_eqBool_int (kat_go (fun h1=>kat_yes (kat_cons (wpAny_eqBool_int (kat_go (fun h2=>kat_yes (kat_nil ?_)) fun h2=>kat_no (lX ?_))))) fun h1=>kat_no (lX ?_))))
 ·simp only[beq_iff_eq]at h1 h2
  have:eG x y=false:=by simp[eG,h1,h2]
  rw[this]at q
  exact q
 ·simp only[beq_iff_eq]at h1
  have:eG x y=decide (x.2 < y.2):=by simp[eG,h1]
  rw[this]at q
  exact q
 ·have:eG x y=decide (x.1 < y.1):=by simp[eG,h1]
  rw[this]at q
  exact q
theorem qq(hp:cG s.heap vs ps)(h2:2<=vs.length){Q:SortKind->Shared->Prop}(q:Q (tuples' true) s):wpAny (model prog w) A (keyKind' vs.toArray) Q E s:=by
 obtain⟨fs,h1,hl,hi⟩:=hp.firsts
 refine kat_kind (T:=.type "int") h1 (by rw[hl,<- hp.len];omega) (fun v hv=>?_) rfl q
 obtain⟨i,t,rfl⟩:=hi v hv
 exact Looks.of_pure rfl
theorem mS(hl:s.heap.IsList l vs.toArray)(h64:vs.length < 64)(hp:cG s.heap vs ps)(hd:ps.Nodup)
  (h:∀p,Plc vs.length p->Asc (fun i j=>eG (ps.getD i (0,0)) (ps.getD j (0,0))) p vs.length->Q (.ref (s.heap.objs.size+1)) { s with heap:=sortedAll s.heap vs (kM vs p) }) :
  wpAny (model prog w) A (call (.builtin "sorted") [.ref l]) Q E s :=
 p0 hl h64 (fun h2 s' k=>⟨hp.len▸tw hd,fun E Q q=>qq (hp.kept k) h2 q,tz (hp.kept k)⟩) h
end
end PR
namespace PR
open PySem PySem.Spec L2 PyProof.Rows
def qI(x:Int):List Int->List Int
 | []=>[x]
 | y::l=>if x<=y then x::y::l else y::qI x l
def iV:List Int->List Int
 | []=>[]
 | x::l=>qI x (iV l)
theorem jM(x:Int):∀l,(qI x l).Perm (x::l)
 | []=>.refl _
 | y::l=>by
  unfold qI
  split
  ·exact .refl _
  ·exact((jM x l).cons y).trans (.swap x y l)
theorem eO:∀l,(iV l).Perm l
 | []=>.refl _
 | x::l=>(jM x _).trans ((eO l).cons x)
theorem o_(x:Int):∀{l:List Int},l.Pairwise (·<=·)->(qI x l).Pairwise (·<=·)
 | [],_=>by simp[qI]
 | y::l,h=>by
  obtain⟨h1,h2⟩:=List.pairwise_cons.mp h
  unfold qI
  split
  ·refine List.pairwise_cons.mpr ⟨fun z hz=>?_,h⟩
   rcases List.mem_cons.mp hz with rfl | hz
   ·assumption
   ·have:=h1 z hz;omega
  ·refine List.pairwise_cons.mpr ⟨fun z hz=>?_,o_ x h2⟩
   rcases List.mem_cons.mp ((jM x l).mem_iff.mp hz)with rfl | hz
   ·omega
   ·exact h1 z hz
theorem lL:∀l,(iV l).Pairwise (·<=·)
 | []=>.nil
 | x::l=>o_ x (lL l)
theorem qa{l l':List Int}(h1:l'.Perm l)(h2:l'.Pairwise (·<=·)):l'=iV l :=
 List.Perm.eq_of_pairwise (fun a b _ _ x y=>Int.le_antisymm x y) h2 (lL l) (h1.trans (eO l).symm)
def qH(x:Int×Int):List (Int×Int)->List (Int×Int)
 | []=>[x]
 | y::l=>if eG x y then x::y::l else y::qH x l
def cy:List (Int×Int)->List (Int×Int)
 | []=>[]
 | x::l=>qH x (cy l)
theorem jL(x:Int×Int):∀l,(qH x l).Perm (x::l)
 | []=>.refl _
 | y::l=>by
  unfold qH
  split
  ·exact .refl _
  ·exact((jL x l).cons y).trans (.swap x y l)
theorem cH:∀l,(cy l).Perm l
 | []=>.refl _
 | x::l=>(jL x _).trans ((cH l).cons x)
theorem o9(x:Int×Int):∀{l:List (Int×Int)},x∉l->l.Pairwise (fun a b=>eG a b=true)->(qH x l).Pairwise (fun a b=>eG a b=true)
 | [],_,_=>by simp[qH]
 | y::l,hn,h=>by
  obtain⟨h1,h2⟩:=List.pairwise_cons.mp h
  unfold qH
  split
  ·refine List.pairwise_cons.mpr ⟨fun z hz=>?_,h⟩
   rcases List.mem_cons.mp hz with rfl | hz
   ·assumption
   ·exact iF ‹_› (h1 z hz)
  ·refine List.pairwise_cons.mpr ⟨fun z hz=>?_,o9 x (fun z=>hn (List.mem_cons_of_mem _ z)) h2⟩
   rcases List.mem_cons.mp ((jL x l).mem_iff.mp hz)with rfl | hz
   ·rcases oG (x:=y) (y:=z) (fun e=>hn (e▸List.mem_cons_self))with q | q
    ·exact q
    ·contradiction
   ·exact h1 z hz
theorem lK:∀{l:List (Int×Int)},l.Nodup->(cy l).Pairwise (fun a b=>eG a b=true)
 | [],_=>.nil
 | x::l,h=>by
  obtain⟨h1,h2⟩:=List.nodup_cons.mp h
  exact o9 x (fun z=>h1 ((cH l).mem_iff.mp z)) (lK h2)
theorem p_(hd:l.Nodup)(h1:l'.Perm l)(h2:l'.Pairwise (fun a b=>eG a b=true)):l'=cy l :=
 List.Perm.eq_of_pairwise (fun a b _ _ x y=>by
  have:=iF x y
  rw[oH]at this;cases this) h2 (lK hd) (h1.trans (cH l).symm)
theorem sY{α:Type}(l:List α)(d:α):(List.range l.length).map (fun i=>l.getD i d)=l:=by
 refine List.ext_getElem (by simp) fun i h1 h2=>?_
 simp[h2]
theorem s_{ps:List (Int×Int)}{p:Array Nat}(hd:ps.Nodup)(P:Plc ps.length p)(a:Asc (fun i j=>eG (ps.getD i (0,0)) (ps.getD j (0,0))) p ps.length):p.toList.map (fun i=>ps.getD i (0,0))=cy ps:=by
 refine p_ hd (by have:=P.pm.map (fun i=>ps.getD i (0,0));rwa [sY]at this) ?_
 refine List.pairwise_iff_getElem.mpr fun i j hi hj hij=>?_
 have hs:=P.sz
 have hi':i < p.size:=by simpa using hi
 have hj':j < p.size:=by simpa using hj
 have:=a i j hij (by omega)
 simpa[at_,Array.getD,hi',hj']using this
def PrH(K:PySem.W.Frag)(H:Hp):List V->List (Int×Int)->Prop
 | [],[]=>True
 | v::vs,x::ps=>(∃a,v=.ref a/\SqT K H a [.int x.1,.int x.2])/\PrH K H vs ps
 | _,_=>False
theorem PrH.len{K:PySem.W.Frag}{H:Hp}:∀{vs:List V}{ps:List (Int×Int)},PrH K H vs ps->vs.length=ps.length
 | [],[],_=>rfl
 | _::_,_::_,q=>by simp[q.2.len]
section
variable{X:Cx}{T:Tb}{W:Nat->L2.St->Hp->Prop}{Z:Zn}{F F1 B L:Addr->Prop}{H H1:Hp}{σ:L2.St}{env:En}{fp:Nat->List Addr}{pins:List (Addr×Obj)}{s:Shared}
theorem PrH.at(I:L2.Inv X pins σ H s):∀{vs:List V}{its:List Value}{ps:List (Int×Int)},PrH X.K H vs ps->aJ vs its->cG s.heap its ps
 | [],_,[],_,r=>by cases r;trivial
 | _::_,_,_::_,⟨⟨a,e,h⟩,q⟩,r=>by
  cases r with
  | cons h1 h2 =>
   subst e
   cases h1
   refine⟨?_,q.at I h2⟩
   obtain⟨its,r,pl,_⟩:=I.tuple h
   obtain⟨u,r2,rfl,⟨t,rfl⟩,r3⟩:∃u r2,its=u::r2/\bq _ u/\aJ _ r2:=by cases r with | cons a b=>exact⟨_,_,rfl,a,b⟩
   obtain⟨u',rfl,⟨t',rfl⟩⟩:=dD r3
   obtain⟨o,ho,hcl,n,hd⟩:=pl
   exact⟨a,o,n,t,t',rfl,ho,hcl,hd⟩
theorem uz{vs:List V}{its:List Value}(r:aJ vs its)(q:List Nat)(hq:∀i∈q,i < vs.length):aJ (q.map fun i=>vs.getD i .non) (q.map fun i=>its.getD i Value.none):=by
 induction q with
 | nil=>exact .nil
 | cons i q ih =>
  refine .cons ?_ (ih fun j hj=>hq j (List.mem_cons_of_mem _ hj))
  have hi:=hq i List.mem_cons_self
  have:∀{vs:List V}{its:List Value}{i:Nat},aJ vs its->i < vs.length->bq (vs.getD i .non) (its.getD i Value.none):=by
   intro vs its i r
   induction r generalizing i with
   | nil=>intro h;simp at h
   | cons a b ih =>
    intro h
    cases i with
    | zero=>simpa using a
    | succ i=>simpa using ih (by simpa using h)
  exact this r hi
theorem nH:∀{ns:List Int}{its:List Value},PyProof.Rows.IntsAre its ns->aJ (ns.map V.int) its:=by
 intro ns its h
 induction h with
 | nil=>exact .nil
 | cons=>exact .cons ⟨_,rfl⟩ ‹_›
theorem pM:d9 X (.builtin "sorted") (fun xs H Q=>∃ p ys,xs=[.ref p]/\SqL X.K H p ys/\ys.length < 64 /\
    ((∃ ns,ys=ns.map V.int/\∀ l,H l=none->Q (.ref l) (upd H l (.lst ((iV ns).map V.int)))) \/
     (∃ps,PrH X.K H ys ps/\ps.Nodup/\∀l (q:List Nat),H l=none->q.Perm (List.range ys.length)->q.map (fun i=>ps.getD i (0,0))=cy ps->Q (.ref l) (upd H l (.lst (q.map fun i=>ys.getD i .non)))))):=by
  intro pins s σ H xs us Q I rv h
  obtain⟨p,ys,rfl,hq,h64,h⟩:=h
  obtain⟨u,rfl,rx⟩:=dD rv
  cases rx
  obtain⟨its,r,pl,hz⟩:=I.list hq
  have hlen:=r.length
  have hfr:=I.hok.fresh (Nat.le_succ s.heap.objs.size)
  rcases h with⟨ns,rfl,q⟩ |⟨ps,hp,hd,q⟩
  . refine sorted_ints pl.isList (fN r) (by omega) fun out ns' a1 a2 a3=>?_
    obtain⟨c,hc⟩:=sortedAll_at s.heap its out
    have e:=qa a2 a3
    subst e
    refine⟨.ref (s.heap.objs.size+1),_,I.laid (fun b o=>sortedAll_old) (Nat.le_succ _) ?_,rfl,q _ hfr⟩
    refine⟨?_,out.toList,c,nH a1,by simpa using hc⟩
    rw[sizeLine_eq];simp[(eO ns).length_eq]at h64 ⊢;omega
  . refine mS pl.isList (by omega) (hp.at I r) hd fun p P a=>?_
    obtain⟨c,hc⟩:=sortedAll_at s.heap its (kM its p)
    have hl:=hp.len
    have pm:p.toList.Perm (List.range ys.length):=by rw[hlen];exact P.pm
    refine⟨.ref (s.heap.objs.size+1),_,I.laid (fun b o=>sortedAll_old) (Nat.le_succ _) ?_,rfl,q _ p.toList hfr pm (s_ hd (by rw[<- hl,hlen];exact P) (by rw[<- hl,hlen];exact a))⟩
    refine⟨?_,_,c,uz r p.toList (fun i hi=>by simpa using pm.mem_iff.mp hi),hc⟩
    rw[sizeLine_eq];simp[P.sz,<- hlen];omega
end
end PR
namespace PR
open PySem PySem.Spec L2
def prV(x:Int×Int):PV:=.tup [.int x.1,.int x.2]
def gL:PV->Option (Int×Int)
 | .tup [.int a,.int b]=>some (a,b)
 | _=>none
def fk:List PV->Option (List (Int×Int))
 | []=>some []
 | x::xs=>match gL x,fk xs with
  | some y,some ys=>some (y::ys)
  | _,_=>none
def eH:PV->Res PV
 | .lst _ xs=>if decide (xs.length < 64) then (match bw xs with
  | some ns=>.ok (.lst .own ((iV ns).map .int))
  | none=>match fk xs with
   | some ps=>if decide ps.Nodup then .ok (.lst .own ((cy ps).map prV))else .stuck
   | none=>.stuck)else .stuck
 | _=>.stuck
section
variable{X:Cx}{T:Tb}{W:Nat->St->Hp->Prop}{Z:Zn}{F F1 B L:Addr->Prop}{H H1:Hp}{σ:St}{env:En}{fp:Nat->List Addr}
theorem tB(e:gL x=some y):x=prV y:=by
 unfold gL at e
 split at e
 ·cases e;rfl
 ·cases e
theorem iG:∀{xs:List PV}{vs:List V}{f:List Addr}{ps:List (Int×Int)},fk xs=some ps->RelL T F B L H xs vs f->PrH T.K H vs ps/\f=[]
 | [],_,_,_,e,r=>by cases e;unfold RelL at r;obtain⟨rfl,rfl⟩:=r;exact⟨trivial,rfl⟩
 | x::xs,_,_,ps,e,r=>by
  unfold RelL at r
  obtain⟨v,ws,f1,f2,rfl,h1,h2,rfl⟩:=r
  unfold fk at e
  cases e1:gL x with
  | none=>rw[e1]at e;cases e
  | some y =>
   cases e2:fk xs with
   | none=>rw[e1,e2]at e;cases e
   | some ys =>
    rw[e1,e2]at e
    cases e
    obtain⟨q,rfl⟩:=iG e2 h2
    have:=tB e1
    subst this
    unfold prV Rel at h1
    obtain⟨a,us,rfl,hs,hr⟩:=h1
    unfold RelL at hr
    obtain⟨v1,w1,g1,g2,rfl,k1,k2,rfl⟩:=hr
    obtain⟨v2,rfl,k3⟩:=RelL.one k2
    unfold Rel at k1 k3
    obtain⟨rfl,rfl⟩:=k1
    obtain⟨rfl,rfl⟩:=k3
    exact⟨⟨⟨a,rfl,hs⟩,q⟩,rfl⟩
theorem PrH.rel:∀{vs:List V}{ps:List (Int×Int)},PrH T.K H vs ps->RelL T F B L H (ps.map prV) vs []
 | [],[],_=>gm _ _ _ _
 | _::_,x::ps,⟨⟨a,e,h⟩,q⟩=>by
  subst e
  rw[List.map_cons]
  unfold RelL
  refine⟨_,_,[],[],rfl,?_,q.rel,rfl⟩
  unfold prV Rel
  refine⟨a,_,rfl,h,?_⟩
  unfold RelL
  refine⟨_,_,[],[],rfl,fh,?_,rfl⟩
  unfold RelL
  exact⟨_,_,[],[],rfl,fh,gm _ _ _ _,rfl⟩
theorem PrH.get:∀{vs:List V}{ps:List (Int×Int)},PrH K H vs ps->∀i,i < vs.length->∃a,vs.getD i .non=.ref a/\SqT K H a [.int (ps.getD i (0,0)).1,.int (ps.getD i (0,0)).2]
 | _::_,_::_,⟨h,q⟩,0,_=>by simpa using h
 | _::_,_::_,⟨_,q⟩,i+1,hi=>by simpa using q.get i (by simpa using hi)
 | [],[],_,_,hi=>by simp at hi
theorem PrH.map(h:PrH K H vs ps)(q:List Nat)(hq:∀i∈q,i < vs.length):PrH K H (q.map fun i=>vs.getD i .non) (q.map fun i=>ps.getD i (0,0)):=by
 induction q with
 | nil=>trivial
 | cons i q ih=>exact⟨h.get i (hq i List.mem_cons_self),ih fun j hj=>hq j (List.mem_cons_of_mem _ hj)⟩
theorem yO(ns:List Int):RelL T F B L H (ns.map PV.int) (ns.map V.int) []:=by
 induction ns with
 | nil=>exact gm _ _ _ _
 | cons a l ih =>
  rw[List.map_cons,List.map_cons]
  unfold RelL
  exact⟨_,_,[],[],rfl,fh,ih,rfl⟩
theorem RelL.len2:∀{xs:List PV}{vs:List V}{f:List Addr},RelL T F B L H xs vs f->xs.length=vs.length
 | [],_,_,r=>by unfold RelL at r;rw[r.1];rfl
 | x::xs,_,_,r=>by
  unfold RelL at r
  obtain⟨v,ws,f1,f2,rfl,_,h2,_⟩:=r
  simp[h2.len2]
theorem qx(hK:X.K=T.K):Mir T W (p1 eH) (fun xs H Q=>∃ p ys,xs=[.ref p]/\SqL X.K H p ys/\ys.length < 64 /\
    ((∃ ns,ys=ns.map V.int/\∀ l,H l=none->Q (.ref l) (upd H l (.lst ((iV ns).map V.int)))) \/
     (∃ps,PrH X.K H ys ps/\ps.Nodup/\∀l (q:List Nat),H l=none->q.Perm (List.range ys.length)->q.map (fun i=>ps.getD i (0,0))=cy ps->Q (.ref l) (upd H l (.lst (q.map fun i=>ys.getD i .non)))))):=by
  intro B F L σ H Q F' H' xs vs fx g r nf nd new q
  match xs,r,q with
  | [x],r,q =>
    obtain⟨v,rfl,r1⟩:=r.one
    simp only[p1]at q
    cases x with
    | lst f xs =>
      unfold Rel at r1
      obtain⟨a,ws,fp',rfl,hl,hr,_⟩:=r1
      simp only[eH]at q
      by_cases hn:decide (xs.length < 64)=true
      . rw[if_pos hn]at q
        refine⟨a,ws,rfl,by rw[hK];exact hl.sq,by rw[<- hr.len2];exact of_decide_eq_true hn,?_⟩
        cases e1:bw xs with
        | some ns =>
          rw[e1]at q
          dsimp only at q
          exact .inl ⟨ns,cK e1 hr,GE.newL q g (yO _) (fun _ h=>by cases h) .nil (fun _ h=>by cases h)⟩
        | none =>
          rw[e1]at q
          dsimp only at q
          cases e2:fk xs with
          | none=>rw[e2]at q;exact q.elim
          | some ps =>
            rw[e2]at q
            dsimp only at q
            by_cases hd:decide ps.Nodup=true
            . rw[if_pos hd]at q
              obtain⟨hp,rfl⟩:=iG e2 hr
              refine .inr ⟨ps,by rw[hK];exact hp,of_decide_eq_true hd,fun l q' hl' pm e=>?_⟩
              have h2:=hp.map q' fun i hi=>by simpa using pm.mem_iff.mp hi
              rw[e]at h2
              exact GE.newL q g h2.rel (fun _ h=>by cases h) .nil (fun _ h=>by cases h) l hl'
            . rw[if_neg hd]at q;exact q.elim
      . rw[if_neg hn]at q;exact q.elim
    | _=>exact q.elim
  | [],_,q=>exact q.elim
  | _::_::_,_,q=>simp only[p1]at q;exact q.elim
theorem ur:bootBuiltins "sorted" = some (.builtin "sorted"):=by decide +kernel
theorem lO(hK:X.K=T.K)(hg:Gl X "sorted")(hm:X.mg "sorted" = none)(ha:SE X T W e m)(he:starEach [e] X.env=[(false,eval e X.env)]:=by rfl):SE X T W (.Call (.Name "sorted" p) [e] [] pos) (ap (p1 eH) (ae m am)) :=
 dU pM (qx hK) hg hm ur (aa ha af (by rw[he];rfl)) (he:=by rw[he];rfl) (hpl:=rfl)
theorem di(hg:Gl X x)(hm:∃t,X.mg x=some (.int i t))(hd:(x ==("__debug__" : Str))=false:=by decide):SE X T W (.Name x pos) (mC (.int i)):=by
 obtain⟨t,h⟩:=hm
 exact uR hg h hd
end
def ce{α:Type}(n:Nat)(y:α)(xs:List α):List α:=xs.take n++y::xs.drop n
def yT:V->List V->Hp->VK->Prop:=fun x vs H Q=>∃l xs k y,x=.ref l/\vs=[.int k,y]/\H l=some (.lst xs)/\xs.length < sizeLine/\(0<=k/\k<=xs.length)/\Q .non (upd H l (.lst (ce k.toNat y xs)))
theorem sH(r:aJ xs its)(n:Nat):aJ (xs.take n) (its.take n):=by
 induction r generalizing n with
 | nil=>simp;exact .nil
 | cons a b ih=>cases n with
  | zero=>exact .nil
  | succ n=>exact .cons a (ih n)
theorem sI(r:aJ xs its)(n:Nat):aJ (xs.drop n) (its.drop n):=by
 induction r generalizing n with
 | nil=>simp;exact .nil
 | cons a b ih=>cases n with
  | zero=>exact .cons a b
  | succ n=>exact ih n
section
variable{X:Cx}{T:Tb}{W:Nat->St->Hp->Prop}{Z:Zn}{F F1 B L:Addr->Prop}{H H1:Hp}{σ:St}{env:En}{fp:Nat->List Addr}{D:Ends}
theorem tR:MtM X "list.insert" yT:=by
 intro pins s σ H x vs v us Q I rx rv h
 obtain⟨l,xs,k,y,rfl,rfl,hH,hz,⟨h0,h1⟩,q⟩:=h
 cases rx
 obtain⟨u0,u,rfl,⟨t,rfl⟩,ru⟩:∃u0 u,us=[u0,u]/\bq (.int k) u0/\bq y u:=by
  cases rv with
  | cons a b=>obtain⟨u,rfl,ru⟩:=dD b;exact⟨_,u,rfl,a,ru⟩
 obtain⟨z,its,n,r,hl,e⟩:=I.lstM hH
 have hlen:=r.length
 have fits:¬(!Builtin.List.listFitsIndex k)=true:=by
  rw[sizeLine_eq]at hz
  simp[Builtin.List.listFitsIndex]
  omega
 refine call_meets PySem.F.slot_list_insert ⟨_,e,rfl⟩ PySem.F.entry_list_insert (PySem.F.args_list_insert_3 _ _ _) (PySem.AutoSeq1.list_insert_list_int_val_1 l its.toArray n k t u fits (by rw[List.size_toArray];omega)) ⟨e,?_⟩
 refine⟨.non,_,I.lset (its':=ce k.toNat u its) hH e ?_ ?_ ?_,rfl,q⟩
 ·have hk:min k.toNat its.toArray.size=k.toNat:=by rw[List.size_toArray];omega
  dsimp only
  rw[if_neg (by omega),hk]
  apply Array.toList_inj.mp
  simp[ce,List.take_of_length_le]
 ·exact(sH r _).append (.cons ru (sI r _))
 ·simp[ce];omega
theorem RelL.ins(hv:Rel T F B L H v u []):∀(n:Nat) {xs:List PV}{ws:List V}{f:List Addr},RelL T F B L H xs ws f->RelL T F B L H (ce n v xs) (ce n u ws) f
 | 0,xs,ws,f,h=>by
  show RelL T F B L H (v::xs) (u::ws) f
  unfold RelL
  exact⟨u,ws,[],f,rfl,hv,h,rfl⟩
 | n+1,[],ws,f,h=>by
  unfold RelL at h
  obtain⟨rfl,rfl⟩:=h
  show RelL T F B L H [v] [u] []
  unfold RelL
  exact⟨u,[],[],[],rfl,hv,gm _ _ _ _,rfl⟩
 | n+1,x::xs,ws,f,h=>by
  unfold RelL at h
  obtain⟨w,ws,f1,f2,rfl,h1,h2,rfl⟩:=h
  show RelL T F B L H (x::ce n v xs) (w::ce n u ws) _
  unfold RelL
  exact⟨w,_,f1,f2,rfl,h1,RelL.ins hv n h2,rfl⟩
def si:PV->Bool
 | .int _=>true
 | x=>(gL x).isSome
theorem wv(h:si v=true)(r:Rel T F B L H v u f):f=[]:=by
 have two:∀{v:PV},(gL v).isSome=true->Rel T F B L H v u f->f=[]:=fun {v} h r=>by
  obtain⟨y,e⟩:=Option.isSome_iff_exists.mp h
  have:fk [v]=some [y]:=by simp[fk,e]
  refine(iG (T:=T) (F:=F) (B:=B) (L:=L) (H:=H) (vs:=[u]) this ?_).2
  unfold RelL
  exact⟨u,[],f,[],rfl,r,gm _ _ _ _,by simp⟩
 cases v with
 | int i=>unfold Rel at r;exact r.2
 | tup xs=>exact two h r
 | _=>simp[si,gL]at h
def ig(i:Nat)(k e:ME):MS:=fun env=>match k env with
 | .ok (.int j)=>(match e env with
  | .ok v=>(match env[i]? with
   | some (some (.lst .own xs))=>if si v&&v.noLnt&&decide (0<=j/\j<=xs.length)&&decide (xs.length < 10000000)then .next (env.set i (some (.lst .own (ce j.toNat v xs))))else .stuck
   | _=>.stuck)
  | _=>.stuck)
 | _=>.stuck
theorem lJ(hK:X.K=T.K)(hN:X.N[i]?=some x)(hv:Vis X.env.scope x)(hk:SE X T W k mk)(he:SE X T W e m)
  (hs:swapsWith (.Call (.Attribute (.Name x px) "insert" apos) [k,e] [] cpos) none pos.line X.env=pure false:=by rfl) (hst:starEach [k,e] X.env=[(false,eval k X.env),(false,eval e X.env)]:=by rfl) (hst2:starEach [e] X.env=[(false,eval e X.env)]:=by rfl)
  (hfew:((backTo cpos (starEach [k,e] X.env)).all (fun x=>!x.1)&&(backToKw cpos (keywordEach [] X.env)).all (fun x=>x.1.isSome)&&decide ([k,e].length+([]:List Keyword).length+(if([]:List Keyword).isEmpty then 0 else 1) < 30))=true:=by rfl)
  (hline:(apos.endLine==cpos.line)=true:=by rfl) (hd:(x ==("__debug__" : Str))=false:=by decide) (hcd:(x ==("__classdict__" : Str))=false:=by decide) :
  SS X T W (.Expr (.Call (.Attribute (.Name x px) "insert" apos) [k,e] [] cpos) pos) (ig i mk m) :=
 PS.wk (hZ (pos:=pos) (vv (cpos:=cpos) (apos:=apos) PySem.F.plainAttrs_list PySem.F.slot_list_insert PySem.F.type_list_insert tR (dH (pos:=px) hN hv hd hcd) (aa hk (aa he af (by rw[hst2];rfl)) (by rw[hst,hst2])) rfl hfew hline (by rw[hst,hst2]) (by rw[hst2];rfl)) hs) fun D σ H hz1=>by
  obtain⟨Z,F,env,fp,S,q⟩:=hz1
  unfold ig at q
  split at q
  ·rename_i j ek
   split at q
   ·rename_i v em
    split at q
    ·rename_i xs eo
     split at q
     ·rename_i hc
      simp only[Bool.and_eq_true,decide_eq_true_eq]at hc
      obtain⟨⟨⟨c1,c2⟩,c3⟩,c4⟩:=hc
      obtain⟨a,ws,fp',h1,hl,hr,hf⟩:=S.lst eo
      refine⟨_,h1,.inl ⟨rfl,ws,by rw[hK];exact SqL.of hl⟩,Z,F,env,fp,S,?_⟩
      unfold ae am
      rw[ek,em]
      intro vs H1 F1 f1 g r n1 d1 w1
      unfold RelL at r
      obtain⟨u0,us,f2,f3,rfl,r0,r1,rfl⟩:=r
      obtain⟨u,rfl,ru⟩:=r1.one
      unfold Rel at r0
      obtain⟨rfl,rfl⟩:=r0
      have f0:=wv c1 ru
      subst f0
      have S1:=S.grow g
      have hl1:=g.ext a _ hl
      have hln:=hr.length
      refine⟨a,ws,j,u,rfl,rfl,hl1,?_,by omega,?_⟩
      ·rw[<- hln,sizeLine_eq];omega
      ·have ndi:(a::fp').Nodup:=by rw[<- hf];exact S.nd i
       exact q F1 _ σ _ (S1.mutL (v:=u) eo h1 hf (RelL.ins (Rel.noL (by simpa[PV.noLnt]using c2) ru) j.toNat (hr.ext g.ext g.mono)) (List.nodup_cons.mp ndi).2 (fun b hb=>.inl hb) hl1)
     ·exact q.elim
    ·exact q.elim
   ·exact q.elim
  ·exact q.elim
end
def vw:PV->PV->Res PV:=et (fun _ j=>decide (0<=j)) fun i j=>.int (i / 2 ^ j.toNat)
def dh(ns:List Int):Bool:=ns.all fun v=>decide (-1000000<=v/\v<=1000000)
def ja:PV->Res PV:=fun x=>match aQ x with
 | some xs=>match bw xs with
  | some ns=>if decide (ns.length<=1000)&&dh ns then .ok (.int ns.sum)else .stuck
  | none=>.stuck
 | none=>.stuck
theorem m5(ns:List Int):∀n,n<=ns.length->preSum (fun i=>ns.getD i 0) n=(ns.take n).sum
 | 0,_=>rfl
 | n+1,h=>by
  have hn:n < ns.length:=h
  have e:preSum (fun i=>ns.getD i 0) (n+1)=preSum (fun i=>ns.getD i 0) n+ns.getD n 0:=rfl
  rw[e,m5 ns n (by omega),List.take_add_one,List.getElem?_eq_getElem hn,Option.toList_some,List.sum_append,List.sum_singleton]
  simp[hn]
theorem lH:∀{ns:List Int},dh ns=true->-(1000000 * ns.length:Int)<= ns.sum/\ns.sum<=1000000 * ns.length
 | [],_=>by simp
 | n::ns,h=>by
  simp only[dh,List.all_cons,Bool.and_eq_true,decide_eq_true_eq]at h
  have:=lH (ns:=ns) (by simpa[dh]using h.2)
  simp only[List.sum_cons,List.length_cons]
  omega
theorem qb(h:dh ns=true)(k:Nat):dh (ns.take k)=true:=by
 simp only[dh,List.all_eq_true]at h ⊢
 exact fun x hx=>h x (List.mem_of_mem_take hx)
section
variable{X:Cx}{T:Tb}{W:Nat->St->Hp->Prop}{Z:Zn}{F F1 B L:Addr->Prop}{H H1:Hp}{σ:St}{env:En}{fp:Nat->List Addr}{pins:List (Addr×Obj)}{s:Shared}{a b:Expr}{ma mb:ME}{pos:Pos}
theorem AT(ha:SE X T W a ma)(hb:SE X T W b mb):SE X T W (.BinOp a .RShift b pos) (mOp vw ma mb):=jY Bp (oX (fun _ _ h=>of_decide_eq_true h) fun _ _ _ _ _ _=>fh) ha hb
theorem nT(hc:X.calm=true):d9 X (.builtin "sum") (fun xs H Q=>∃p ns,xs=[.ref p]/\(SqL X.K H p (ns.map V.int)\/ SqT X.K H p (ns.map V.int))/\ns.length<=1000/\dh ns=true/\Q (.int ns.sum) H):=by
 intro pins s σ H xs us Q I rv h
 obtain⟨p,ns,rfl,hq,hn,hsm,q⟩:=h
 obtain⟨u,rfl,rx⟩:=dD rv
 cases rx
 have hh:=I.ok.hd hc
 have fit:∀m,m=ns.length->∀j,j < m->InLong (ns.getD j 0)/\InLong (preSum (fun i=>ns.getD i 0) (j+1)):=fun m e j hj=>by
  subst e
  have h1:ns.getD j 0∈ns:=by simp[hj]
  simp only[dh,List.all_eq_true,decide_eq_true_eq]at hsm
  have h2:=hsm _ h1
  have h3:=lH (qb (k:=j+1) (show dh ns=true by simpa[dh,List.all_eq_true]using hsm))
  rw[m5 ns (j+1) hj]
  have h4:(ns.take (j+1)).length<=1000:=by simp;omega
  unfold InLong
  omega
 have key:∀{its:List Value},aJ (ns.map V.int) its->∀{h':Heap}{tk t':Nat},(∀b o,s.heap.get? b=some o->h'.get? b=some o)->EP X pins σ Q (.int (preSum (fun i=>ns.getD i 0) its.toArray.size) t') { s with heap:=h',toks:=tk }:=by
  intro its r h' tk t' k
  have hl:its.toArray.size=ns.length:=by
   have:=r.length
   simpa using this.symm
  rw[hl,m5 ns _ (Nat.le_refl _),List.take_length]
  exact⟨.int _,H,eV I k,⟨t',rfl⟩,q⟩
 rcases hq with hq | hq
 ·obtain⟨its,r,pl,hz⟩:=I.list hq
  have hl:its.toArray.size=ns.length:=by
   have:=r.length
   simpa using this.symm
  obtain⟨o,ho,hcl,n,hd⟩:=pl.isList
  have hlt:=Heap.lt_size ho
  refine call_sum_walk (wpAny_pyIter_list pl.isList ?_)
  refine⟨_,_,_,_,_,_,(fun i=>ns.getD i 0),rfl,Walks.list (A:=X.A.in1) hh _ p (Nat.ne_of_lt hlt) its.toArray,⟨⟨_,Heap.get?_push_size _ rfl,rfl,rfl⟩,pl.isList.push _⟩,fun b hb=>?_,dz r,fit _ hl,fun h' tk t' hk=>key r (cX hk)⟩
  show b <(s.heap.push _).objs.size
  rw[Heap.size_push]
  exact gC hlt rfl b hb
 ·obtain⟨its,r,pl,hz⟩:=I.tuple hq
  have hl:its.toArray.size=ns.length:=by
   have:=r.length
   simpa using this.symm
  have pt:s.heap.IsTuple p its.toArray:=pl
  obtain⟨o,ho,hcl,n,hd⟩:=pl
  have hlt:=Heap.lt_size ho
  refine call_sum_walk (wpAny_pyIter_tuple pt ?_)
  refine⟨_,_,_,_,_,_,(fun i=>ns.getD i 0),rfl,Walks.tuple (A:=X.A.in1) hh _ p (Nat.ne_of_lt hlt) its.toArray,⟨⟨_,Heap.get?_push_size _ rfl,rfl,rfl⟩,pt.push _⟩,fun b hb=>?_,dz r,fit _ hl,fun h' tk t' hk=>key r (cX hk)⟩
  show b <(s.heap.push _).objs.size
  rw[Heap.size_push]
  exact gC hlt rfl b hb
theorem zq(hK:X.K=T.K):Mir T W (p1 ja) (fun xs H Q=>∃p ns,xs=[.ref p]/\(SqL X.K H p (ns.map V.int)\/ SqT X.K H p (ns.map V.int))/\ns.length<=1000/\dh ns=true/\Q (.int ns.sum) H):=by
 intro B F L σ H Q F' H' xs vs fx gr r nf nd new q
 match xs,r,q with
 | [x],r,q =>
  obtain⟨v,rfl,rv⟩:=RelL.one r
  simp only[p1,ja]at q
  cases e:aQ x with
  | none=>rw[e]at q;exact q.elim
  | some ys =>
   rw[e]at q
   dsimp only at q
   cases e2:bw ys with
   | none=>rw[e2]at q;exact q.elim
   | some ns =>
    rw[e2]at q
    dsimp only at q
    obtain⟨a,us,fx',rfl,hs,hr,_⟩:=rv.seq e
    have hu:=cK e2 hr
    subst hu
    split at q
    ·rename_i hc
     simp only[Bool.and_eq_true,decide_eq_true_eq]at hc
     exact⟨a,_,rfl,by rw[hK];exact hs,hc.1,hc.2,q.scal gr fh⟩
    ·exact q.elim
 | [],_,q=>exact q.elim
 | _::_::_,_,q=>simp only[p1]at q;exact q.elim
theorem CP:bootBuiltins "sum" = some (.builtin "sum"):=by decide +kernel
theorem kB(hK:X.K=T.K)(hc:X.calm=true)(hg:Gl X "sum")(hm:X.mg "sum" = none)(ha:SE X T W e m)(he:starEach [e] X.env=[(false,eval e X.env)]:=by rfl):SE X T W (.Call (.Name "sum" p) [e] [] pos) (ap (p1 ja) (ae m am)) :=
 dU (nT hc) (zq hK) hg hm CP (aa ha af (by rw[he];rfl)) (he:=by rw[he];rfl) (hpl:=rfl)
end
def oO:PV->PV->Res PV
 | x,.int i=>match aQ x with
  | some xs=>match atI xs i with
   | some y=>.ok y
   | none=>.stuck
  | none=>.stuck
 | _,_=>.stuck
section
variable{X:Cx}{T:Tb}{W:Nat->St->Hp->Prop}
theorem vZ(hK:X.K=T.K):io T W oO (fun x y H Q=>yS X.K x y H Q \/(yQ X.K x y H Q\/yR x y H Q)):=by
 intro B F L σ H Q F' H' x y v u fx fy g rx ry nf nd new q
 cases y with
 | int i =>
  simp only[oO]at q
  cases e:aQ x with
  | none=>rw[e]at q;exact q.elim
  | some xs =>
   rw[e]at q
   dsimp only at q
   obtain⟨a,ws,fx',rfl,hs,hr,sl⟩:=rx.seq e
   cases e2:atI xs i with
   | none=>rw[e2]at q;exact q.elim
   | some z =>
    rw[e2]at q
    dsimp only at q
    obtain⟨w,f',h1,h2,h3⟩:=sF hr e2
    unfold Rel at ry
    obtain⟨rfl,rfl⟩:=ry
    rw[List.append_nil]at nf nd new
    have s2:=h3.trans sl
    have q':Q w H':=q w H' F' f' g h2 (fun a ha=>nf a (s2.subset ha)) (nd.sublist s2) (fun a ha=>new a (s2.subset ha))
    rcases hs with hs | hs
    ·exact .inl ⟨a,ws,i,w,rfl,rfl,by rw[hK];exact hs,h1,q'⟩
    ·exact .inr (.inl ⟨a,ws,i,w,rfl,rfl,by rw[hK];exact hs,h1,q'⟩)
 | _=>exact q.elim
theorem yB(hK:X.K=T.K)(ha:SE X T W a ma)(hb:SE X T W b mb)(hs:gh b):SE X T W (.Subscript a b pos) (mOp oO ma mb) :=
 An nE (vZ hK) ha hb hs
end
structure Sup(K:PySem.W.Frag)(C f:Addr):Prop where
 ga:PySem.W.specialIn K (.ref C) "__getattribute__" = some (some (.builtin "type.__getattribute__"))
 rd:PySem.W.readsIn K C (.type "type")=true
 fc:PySem.W.findCls K (.ref C) (.type "type") "__init__" = some (.val (.ref f))
 kp:PySem.W.keepIn K (.ref f)=true
def gz(m:List PV->Res PV)(ms:MA):MS:=fun env=>match (env[(0:Nat)]?:Option (Option PV))with
 | some (some (.obj .own c ks vs))=>match ms env with
  | .ok xs=>if hasL Fl.isLnt xs then .stuck else match m (.obj .own c ks vs::mapL Fl.toBor xs)with
   | .ok (.obj fl c' ks' vs')=>if(PV.obj fl c' ks' vs').has Fl.isBor then .stuck else .next (env.set 0 (some (.obj fl c' ks' vs')))
   | _=>.stuck
  | .exc c=>.exc c env
  | .stuck=>.stuck
 | _=>.stuck
section
variable{X:Cx}{T:Tb}{W:Nat->St->Hp->Prop}{Z:Zn}{F F1 F3:Addr->Prop}{H H1 H3:Hp}{σ:St}{env:En}{fp:Nat->List Addr}
theorem au.sup(S:au T Z F H σ env fp)(h0:σ[0]?=some (some v0))(hl:0 < env.length)
  (nx:∀a∈fx,Z.H0 a=none\/Z.fp0 a) (nj:∀a∈fx,∀i,a∉fp i) (nF:∀a∈fx,¬F a) (cx:∀a∈fx,∃o,H a=some o/\Chg o)
  (hp3:eW T ⟨H,F,(·∈fp 0++fx),B',some v0⟩ F3 H3) (r:Rel T F3 B' NoL H3 o v0 f3) (hb:o.has Fl.isBor=false) (nd3:f3.Nodup) (nf3:∀a∈f3,¬F3 a) (new3:∀a∈f3,H a=none\/a∈fp 0++fx)
  (ho:∃fl c ks xs,o=.obj fl c ks xs):au T Z F3 H3 σ (env.set 0 (some o)) (bD fp 0 f3):=by
 have zfree:∀a,H a=none->Z.H0 a=none\/Z.fp0 a:=fun a z=>by
  by_cases q:Z.fp0 a
  ·exact .inr q
  ·refine .inl ?_
   cases w:Z.H0 a with
   | none=>rfl
   | some o=>rw[S.hp.keep a o w q]at z;exact(nomatch z)
 have inn:∀a∈fp 0++fx,Z.H0 a=none\/Z.fp0 a:=fun a h=>by
  rcases List.mem_append.mp h with h | h
  ·exact S.new 0 a h
  ·exact nx a h
 have jn:∀j,j≠0->∀a∈fp j,a∉fp 0++fx:=fun j hj a ha z=>by
  rcases List.mem_append.mp z with z | z
  ·exact S.dj j 0 hj a ha z
  ·exact nj a z j ha
 have chgn:∀a∈fp 0++fx,∃o,H a=some o/\Chg o:=fun a h=>by
  rcases List.mem_append.mp h with h | h
  ·exact S.ch 0 a h
  ·exact cx a h
 have rel':Rel T F3 Z.B NoL H3 o v0 f3:=Rel.noB hb r
 refine⟨⟨S.hp.bo,fun a u e n=>hp3.keep a u (S.hp.keep a u e n) fun z=>?_,fun a h=>hp3.f0 a (S.hp.f0 a h),fun a h=>?_,hp3.ft⟩,by rw[List.length_set,S.len],fun j pv e=>?_,fun j=>?_,fun j k hjk b hb=>?_,fun j b hb=>?_,fun j b hb=>?_,fun j b hb=>?_,fun w hw=>?_⟩
 ·rcases inn a z with q | q
  ·rw[e]at q;cases q
  ·exact n q
 ·rcases hp3.fn a h with z | z | z
  ·exact S.hp.fn a z
  ·exact .inr (zfree a z)
  ·exact .inr (inn a z)
 ·by_cases hj:j=0
  ·subst hj
   rw[List.getElem?_set_self hl]at e
   cases e
   refine⟨v0,h0,?_⟩
   unfold bD
   rw[if_pos rfl]
   exact rel'
  ·rw[List.getElem?_set_ne (Ne.symm hj)]at e
   obtain⟨w,h1,h2⟩:=S.rel j pv e
   refine⟨w,h1,?_⟩
   unfold bD
   rw[if_neg hj]
   refine Rel.tr (fun a h=>hp3.f0 a h) (fun _ h=>h) (fun _ h=>h) (fun b u q h=>hp3.keep b u q fun z=>?_) (fun b hb u q=>hp3.keep b u q (jn j hj b hb)) h2
   rcases h with h | h | h | h
   ·rcases List.mem_append.mp z with z | z
    ·exact(S.dis 0 b z).1 h
    ·exact nF b z h
   ·obtain⟨⟨o',e1⟩,e2⟩:=S.hp.bo b h
    rcases inn b z with q' | q'
    ·rw[e1]at q';cases q'
    ·exact e2 q'
   ·exact h
   ·obtain⟨o',e1,e2⟩:=chgn b z
    have q1:H b=some u:=q
    rw[q1]at e1
    cases e1
    cases u with
    | lst _ | ins _ _ _=>exact h
    | _=>exact e2
 ·unfold bD;split
  ·exact nd3
  ·exact S.nd j
 ·unfold bD at hb ⊢
  have fj:∀i,i≠0->∀a∈f3,a∉fp i:=fun i hi a ha z=>by
   rcases new3 a ha with q | q
   ·obtain⟨_,o',e⟩:=S.dis i a z
    rw[e]at q;cases q
   ·exact jn i hi a z q
  by_cases h1:j=0
  ·subst h1
   rw[if_pos rfl]at hb
   rw[if_neg (Ne.symm hjk)]
   exact fj k (Ne.symm hjk) b hb
  ·rw[if_neg h1]at hb
   by_cases h2:k=0
   ·subst h2
    rw[if_pos rfl]
    exact fun z=>fj j h1 b z hb
   ·rw[if_neg h2]
    exact S.dj j k hjk b hb
 ·unfold bD at hb
  by_cases h1:j=0
  ·rw[if_pos h1]at hb;exact⟨nf3 b hb,r.there b hb⟩
  ·rw[if_neg h1]at hb
   obtain⟨n,u,e⟩:=S.dis j b hb
   refine⟨fun z=>?_,u,hp3.keep b u e (jn j h1 b hb)⟩
   rcases hp3.fn b z with q | q | q
   ·exact n q
   ·have q':H b=none:=q
    rw[e]at q';cases q'
   ·exact jn j h1 b hb q
 ·unfold bD at hb
  by_cases h1:j=0
  ·rw[if_pos h1]at hb
   rcases new3 b hb with q | q
   ·exact zfree b q
   ·exact inn b q
  ·rw[if_neg h1]at hb;exact S.new j b hb
 ·unfold bD at hb
  by_cases h1:j=0
  ·rw[if_pos h1]at hb;exact r.chg b hb
  ·rw[if_neg h1]at hb
   obtain⟨u,e,c⟩:=S.ch j b hb
   exact⟨u,hp3.keep b u e (jn j h1 b hb),c⟩
 ·obtain⟨h1,h2⟩:=S.pn w hw
  refine⟨h1,?_⟩
  obtain⟨fl,c,ks,xs,e⟩:=ho
  subst e
  unfold cF
  rw[List.getElem?_set_self hl]
theorem AM
  (cx:Ctx X T W kk) (U:Sup X.K C f) (G:cN X.prog X.w X.K X.mg X.base (CXP X.prog X.w) k f fd ps (spI T ps.length m)) (hk:k<=kk) (hg:Gl X x) (hm:X.mg x=some (.ref C)) (hb:d_ X.K fd ps [])
  (hN:X.N[0]?=some y) (hv:Vis X.env.scope y) (hn:gB ms n) (hps:n+1=ps.length) (ha:SA X T W es ms)
  (hdb:(x ==("__debug__" : Str))=false:=by decide) (hdy:(y ==("__debug__" : Str))=false:=by decide) (hcy:(y ==("__classdict__" : Str))=false:=by decide)
  (hst:starEach (.Name y px::es) X.env=(false,eval (.Name y px) X.env)::starEach es X.env:=by rfl) (hpl:(backTo pos (starEach es X.env)).any (·.1)=false:=by rfl)
  (ht:eval (.Call (.Attribute (.Name x p) "__init__" apos) (.Name y px::es) [] pos) X.env=(do
   let ov <- eval (.Name x p) X.env
   standAt apos.atName
   let(f,first) <- holding [ov] (getMethod ov "__init__" pl)
   callWith pos f first (backTo pos (starEach (.Name y px::es) X.env)) (backToKw pos (keywordEach [] X.env))):=by rfl)
  (hs:swapsWith (.Call (.Attribute (.Name x p) "__init__" apos) (.Name y px::es) [] pos) none pos'.line X.env=pure false:=by rfl) :
  SS X T W (.Expr (.Call (.Attribute (.Name x p) "__init__" apos) (.Name y px::es) [] pos) pos') (gz m ms):=by
 have pe:PE X (.Call (.Attribute (.Name x p) "__init__" apos) (.Name y px::es) [] pos) (fun σ H Q=>∃ Z F env fp,au T Z F H σ env fp/\(match gz m ms env with
   | .next e=>∀F' H' fp',au T Z F' H' σ e fp'->Q .non H'
   | .exc c e=>∀F' H' fp',au T Z F' H' σ e fp'->W c σ H'
   | _=>False)):=by
  intro pins s σ H Q I h
  obtain⟨Z,F,env,fp,S,q⟩:=h
  refine PySem.W.methodCall_KW (pl:=pl) (jq I hg hm ?_ hdb) ht
  refine PySem.W.method_cls I.kIn U.ga (PySem.W.cls_value I.kIn U.rd U.fc rfl ?_)
  have I':=I.tok (s.toks+1)
  unfold gz at q
  cases e0:env[0]? with
  | none=>rw[e0]at q;exact q.elim
  | some o0 =>
  cases o0 with
  | none=>rw[e0]at q;exact q.elim
  | some ov =>
  obtain⟨v0,hv0,r0⟩:=S.rel 0 ov e0
  have hl0:0 < env.length:=(List.getElem?_eq_some_iff.mp e0).1
  rw[e0]at q
  by_cases hob:∃c ks vs,ov=.obj .own c ks vs
  case neg =>
   exfalso
   cases ov with
   | obj fl c ks vs =>
    cases fl with
    | own=>exact hob ⟨_,_,_,rfl⟩
    | _=>exact q
   | _=>exact q
  obtain⟨c,ks,vs0,rfl⟩:=hob
  dsimp only at q
  have pa:=dv (X:=X) (dH (pos:=px) hN hv hdy hcy) ha hst
  refine PySem.W.callWith_K (first:=[]) (h₀:=X.base) I'.ok.mod.kin U.kp (thn (pa pos pins _ σ H (fun vs H1=>∀ us s1,L2.Inv X pins σ H1 s1->aJ vs us->wpAny (model X.prog X.w) X.A (call (.ref f) us) (EP X pins σ Q) X.xe s1) I'
   ⟨v0,hv0,tA.bind S (fun c e=>?_) (fun e=>by rw[e]at q;exact q) fun xs vs H1 F1 f1 e1 g1 r1 n1 d1 w1 us s1 I1 rv=>?_⟩) fun us s1 ⟨vs,H1,I1,r,q1⟩=>⟨I1.kIn,q1 us s1 I1 r⟩) hst hpl
  ·rw[e]at q
   exact fun H' x=>q F H' fp (S.grow (Gr.same S.hp.ft x))
  rw[e1]at q
  dsimp only at q
  by_cases hln:hasL Fl.isLnt xs=true
  ·rw[if_pos hln]at q;exact q.elim
  rw[if_neg hln]at q
  have hln':hasL Fl.isLnt xs=false:=by simpa using hln
  have S1:=S.grow g1
  obtain⟨v0',hv0',r0'⟩:=S1.rel 0 _ e0
  rw[hv0]at hv0'
  cases hv0'
  have xn:∀a∈f1,∀i,a∉fp i:=fun a ha i hi=>by
   obtain⟨_,o,e⟩:=S.dis i a hi
   rw[w1 a ha]at e;cases e
  have xz:∀a∈f1,Z.H0 a=none\/Z.fp0 a:=fun a ha=>by
   by_cases q:Z.fp0 a
   ·exact .inr q
   ·refine .inl ?_
    cases w:Z.H0 a with
    | none=>rfl
    | some o =>
     have:=w1 a ha
     rw[S.hp.keep a o w q]at this;cases this
  have hBo:∀a,Z.B a->(∃o,H1 a=some o)/\a∉fp 0++f1:=fun a h=>by
   obtain⟨⟨o,h1⟩,h2⟩:=S.hp.bo a h
   have h3:=S.hp.keep a o h1 h2
   refine⟨⟨o,g1.ext a o h3⟩,fun z=>?_⟩
   rcases List.mem_append.mp z with z | z
   ·exact S.bow a h ⟨0,z⟩
   ·rw[w1 a z]at h3;cases h3
  have R:uv T F1 (fun a=>(∃o,H1 a=some o)/\a∉fp 0++f1) H1 (.obj .own c ks vs0::mapL Fl.toBor xs) (v0::vs) (fp 0++f1):=by
   refine⟨?_,List.nodup_append.mpr ⟨S.nd 0,d1,fun a ha b hb z=>by subst z;exact xn a hb 0 ha⟩,fun a ha=>?_,fun a h=>h,g1.dom⟩
   ·unfold RelL
    refine⟨v0,vs,fp 0,f1,rfl,Rel.tr (fun _ h=>h) hBo (fun _ h=>h) (fun _ _ q _=>q) (fun _ _ _ q=>q) r0',?_,rfl⟩
    exact RelL.toBor hBo (fun _ h=>h.elim) (RelL.noL (L':=NoL) hln' r1)
   ·rcases List.mem_append.mp ha with ha | ha
    ·exact(S1.dis 0 a ha).1
    ·exact n1 a ha
  have r2:aJ (v0::vs) us:=rv
  have hl:us.length=ps.length:=by
   rw[<- r2.length,List.length_cons,<- r1.length,hn env xs e1]
   exact hps
  refine wpAny_call (codeAny_mono (G.run X.A X.stack s1 H1 ⟨us,[]⟩ us (v0::vs) Q (fun cls _ H'=>∃ c,cls=.ref (T.xcl c)/\W c σ H') (cx.room.mono hk) I1.env0 (by simpa using hb s1 us I1.kIn (by simpa using hl)) r2
   ⟨by rw[r2.length,hl],v0,_,F1,_,_,rfl,R,⟨.own,c,ks,vs0,rfl⟩,?_⟩) fun rs s' hq=>?_)
  ·cases e:m (.obj .own c ks vs0::mapL Fl.toBor xs)with
   | ok o =>
    rw[e]at q
    cases o with
    | obj fl c' ks' vs' =>
     dsimp only at q
     by_cases hbr:(PV.obj fl c' ks' vs').has Fl.isBor=true
     ·rw[if_pos hbr]at q;exact q.elim
     ·rw[if_neg hbr]at q
      dsimp only at q
      have hbr':(PV.obj fl c' ks' vs').has Fl.isBor=false:=by simpa using hbr
      intro F3 H3 f3 hp3 r3 nd3 nf3 new3
      exact q F3 H3 _ (S1.sup hv0 hl0 xz xn n1 r1.chg hp3 r3 hbr' nd3 nf3 new3 ⟨_,_,_,_,rfl⟩)
    | _=>exact q.elim
   | exc c | stuck=>rw[e]at q;exact q.elim
  ·cases rs with
   | error e =>
    obtain⟨cls,H',fl,c,rfl,hw⟩:=hq
    exact cx.xf pins σ H1 s1 c H' e s' I1 fl hw
   | ok fl =>
    cases fl with
    | ret u=>exact I1.after hq
    | next | brk | cont=>exact False.elim hq
 exact PS.wk (hZ (pos:=pos') pe hs) fun D σ H hz1=>by
  obtain⟨Z,F,env,fp,S,q⟩:=hz1
  refine⟨Z,F,env,fp,S,?_⟩
  cases e:gz m ms env with
  | next e' | exc c e'=>rw[e]at q;exact fun F' H' fp' S'=>q F' H' σ fp' S'
  | ret v =>
   exfalso
   revert e
   unfold gz
   split
   ·split
    ·split
     ·simp
     ·split
      ·split<;>simp
      ·simp
    ·simp
    ·simp
   ·simp
  | brk e' =>
   exfalso
   revert e
   unfold gz
   split
   ·split
    ·split
     ·simp
     ·split
      ·split<;>simp
      ·simp
    ·simp
    ·simp
   ·simp
  | cont e' =>
   exfalso
   revert e
   unfold gz
   split
   ·split
    ·split
     ·simp
     ·split
      ·split<;>simp
      ·simp
    ·simp
    ·simp
   ·simp
  | stuck=>rw[e]at q;exact q
end
@[irreducible] def Bx(p:Prop):Prop:=p
theorem Bx.mk(h:p):Bx p:=by unfold Bx;exact h
end PR
namespace PR
open PySem PySem.Spec L2
def whL(c:MT)(b:MS):Nat->MS
 | 0,_=>.stuck
 | k+1,env=>match c env with
  | .ok true=>match b env with
   | .next e | .cont e=>whL c b k e
   | .brk e=>.next e
   | .ret v=>.ret v
   | .exc x e=>.exc x e
   | .stuck=>.stuck
  | .ok false=>.next env
  | .exc x=>.exc x env
  | .stuck=>.stuck
def iK(c:MT)(b:MS):MS:=whL c b 100000
section
variable{X:Cx}{T:Tb}{W:Nat->St->Hp->Prop}
theorem ky(hp:PassesOwn (model X.prog X.w) X.A X.env X.xe)(hc:ST X T W c mc)(hb:SSs X T W body mb):SS X T W (.While c body [] pos) (iK mc mb) :=
 PS.wk (u_ (pos:=pos) hp hc hb) fun D σ H hz1=>by
  obtain⟨Z,F,env,fp,S,q⟩:=hz1
  unfold iK at q
  refine⟨fun m σ' H'=>∃F' env' fp',au T Z F' H' σ' env' fp'/\GS T W Z D (whL mc mb m env'),⟨100000,F,env,fp,S,q⟩,?_⟩
  rintro m σ' H' ⟨F',env',fp',S',q'⟩
  cases m with
  | zero=>exact q'.elim
  | succ k =>
   unfold whL at q'
   refine tT.bind S' (fun c e H2 x=>?_) (fun e=>by rw[e]at q';exact q') fun b H1 F1 e g=>?_
   ·rw[e]at q'
    exact q' F' H2 σ' fp' (S'.grow (Gr.same S'.hp.ft x))
   ·cases b with
    | false=>rw[e]at q';exact(if_neg (by decide)).mpr (q' F1 H1 σ' fp' (S'.grow g))
    | true =>
     rw[e]at q'
     dsimp only at q'
     refine(if_pos rfl).mpr ⟨fun σ2 H2=>∃F2 env2 fp2,au T Z F2 H2 σ2 env2 fp2/\GS T W Z D (whL mc mb k env2),fun σ2 H2 h=>⟨k,Nat.lt_succ_self k,h⟩,Z,F1,env',fp',S'.grow g,?_⟩
     cases eb:mb env' with
     | next e2 | cont e2=>rw[eb]at q';exact fun F3 H3 σ3 fp3 S3=>⟨F3,e2,fp3,S3,q'⟩
     | brk e2 | ret v | exc c e2 | stuck=>rw[eb]at q';exact q'
end
def eF:List PV->Option (List Bool)
 | []=>some []
 | .bl b::xs=>(eF xs).map (b::·)
 | _=>none
def kb(f:List Bool->Bool):PV->Res PV
 | .lst _ xs=>match eF xs with
  | some bs=>.ok (.bl (f bs))
  | none=>.stuck
 | _=>.stuck
def lD(bs:List Bool):Bool:=bs.all id
def pR(bs:List Bool):Bool:=bs.any id
section
variable{X:Cx}{T:Tb}{W:Nat->St->Hp->Prop}{Z:Zn}{F F1 B L:Addr->Prop}{H H1:Hp}{σ:St}{env:En}{fp:Nat->List Addr}{pins:List (Addr×Obj)}{s:Shared}
theorem mH:∀{xs:List PV}{vs:List V}{f:List Addr}{bs:List Bool},eF xs=some bs->RelL T F B L H xs vs f->vs=bs.map V.bl
 | [],_,_,_,e,h=>by
  simp only[eF,Option.some.injEq]at e
  subst e
  unfold RelL at h
  rw[h.1];rfl
 | .bl b::xs,_,_,bs,e,h=>by
  simp only[eF]at e
  cases e2:eF xs with
  | none=>rw[e2]at e;cases e
  | some ms =>
   rw[e2]at e
   cases e
   unfold RelL at h
   obtain⟨v,ws,f1,f2,rfl,h1,h2,_⟩:=h
   unfold Rel at h1
   rw[h1.1,mH e2 h2]
   rfl
 | .non::_,_,_,_,e,_ | .int _::_,_,_,_,e,_ | .str _::_,_,_,_,e,_ | .lst _ _::_,_,_,_,e,_ | .tup _::_,_,_,_,e,_ | .obj _ _ _ _::_,_,_,_,e,_ | .exc _::_,_,_,_,e,_=>by simp[eF]at e
theorem xb:∀{bs:List Bool}{its:List Value},aJ (bs.map V.bl) its->∀(i:Nat) (v:Value),its.toArray[i]?=some v->v=.bool (bs.getD i false)
 | [],_,r,i,v,e=>by cases r;simp at e
 | b::bs,_,r,i,v,e=>by
  cases r with
  | cons r1 r2 =>
   cases i with
   | zero =>
    simp at e
    subst e
    exact r1
   | succ i=>exact xb r2 i v (by simpa using e)
theorem yI(bs:List Bool)(n:Nat)(h:n=bs.length):(List.range n).all (fun i=>bs.getD i false)=lD bs:=by
 subst h
 unfold lD
 rw[Bool.eq_iff_iff,List.all_eq_true,List.all_eq_true]
 refine⟨fun z x hx=>?_,fun z i hi=>?_⟩
 ·obtain⟨i,hi,e⟩:=List.getElem_of_mem hx
  have:=z i (List.mem_range.mpr hi)
  rw[<- e]
  simpa[hi]using this
 ·have hi':=List.mem_range.mp hi
  have:=z bs[i] (List.getElem_mem hi')
  simpa[hi']using this
theorem yH(bs:List Bool)(n:Nat)(h:n=bs.length):(List.range n).any (fun i=>bs.getD i false)=pR bs:=by
 subst h
 unfold pR
 rw[Bool.eq_iff_iff,List.any_eq_true,List.any_eq_true]
 refine⟨fun⟨i,hi,z⟩=>?_,fun⟨x,hx,z⟩=>?_⟩
 ·have hi':=List.mem_range.mp hi
  exact⟨bs[i],List.getElem_mem hi',by simpa[hi']using z⟩
 ·obtain⟨i,hi,e⟩:=List.getElem_of_mem hx
  exact⟨i,List.mem_range.mpr hi,by rw[<- e]at z;simpa[hi]using z⟩
theorem mG{bs:List Bool}{its:List Value}(r:aJ (bs.map V.bl) its):TruthOf X.prog X.w A (fun i v=>its.toArray[i]?=some v) (fun i=>bs.getD i false):=fun i v s Q E hP hQ=>by
 rw[xb r i v hP]
 exact wpAny_truthy_bool hQ
theorem nZ(hc:X.calm=true):d9 X (.builtin "all") (fun xs H Q=>∃p bs,xs=[.ref p]/\SqL X.K H p (bs.map V.bl)/\Q (.bl (lD bs)) H):=by
 intro pins s σ H xs us Q I rv h
 obtain⟨p,bs,rfl,hq,q⟩:=h
 obtain⟨u,rfl,rx⟩:=dD rv
 cases rx
 have hh:=I.ok.hd hc
 obtain⟨its,r,pl,hz⟩:=I.list hq
 have hl:its.toArray.size=bs.length:=by
  have:=r.length
  simpa using this.symm
 obtain⟨o,ho,hcl,n,hd⟩:=pl.isList
 have hlt:=Heap.lt_size ho
 have key:∀{h':Heap}{tk:Nat},(∀b o,s.heap.get? b=some o->h'.get? b=some o)->EP X pins σ Q (.bool (lD bs)) { s with heap:=h',toks:=tk }:=fun k=>⟨.bl _,H,eV I k,rfl,q⟩
 refine call_all_walk (wpAny_pyIter_list pl.isList ?_)
 refine⟨_,_,_,_,_,_,(fun i=>bs.getD i false),rfl,Walks.list (A:=X.A.in1) hh _ p (Nat.ne_of_lt hlt) its.toArray,⟨⟨_,Heap.get?_push_size _ rfl,rfl,rfl⟩,pl.isList.push _⟩,mG r,fun h' tk hk=>?_⟩
 rw[yI bs _ hl]
 exact key (cX hk)
theorem nY(hc:X.calm=true):d9 X (.builtin "any") (fun xs H Q=>∃p bs,xs=[.ref p]/\SqL X.K H p (bs.map V.bl)/\Q (.bl (pR bs)) H):=by
 intro pins s σ H xs us Q I rv h
 obtain⟨p,bs,rfl,hq,q⟩:=h
 obtain⟨u,rfl,rx⟩:=dD rv
 cases rx
 have hh:=I.ok.hd hc
 obtain⟨its,r,pl,hz⟩:=I.list hq
 have hl:its.toArray.size=bs.length:=by
  have:=r.length
  simpa using this.symm
 obtain⟨o,ho,hcl,n,hd⟩:=pl.isList
 have hlt:=Heap.lt_size ho
 have key:∀{h':Heap}{tk:Nat},(∀b o,s.heap.get? b=some o->h'.get? b=some o)->EP X pins σ Q (.bool (pR bs)) { s with heap:=h',toks:=tk }:=fun k=>⟨.bl _,H,eV I k,rfl,q⟩
 refine call_any_walk (wpAny_pyIter_list pl.isList ?_)
 refine⟨_,_,_,_,_,_,(fun i=>bs.getD i false),rfl,Walks.list (A:=X.A.in1) hh _ p (Nat.ne_of_lt hlt) its.toArray,⟨⟨_,Heap.get?_push_size _ rfl,rfl,rfl⟩,pl.isList.push _⟩,mG r,fun h' tk hk=>?_⟩
 rw[yH bs _ hl]
 exact key (cX hk)
theorem rX(hK:X.K=T.K)(f:List Bool->Bool):Mir T W (p1 (kb f)) (fun xs H Q=>∃p bs,xs=[.ref p]/\SqL X.K H p (bs.map V.bl)/\Q (.bl (f bs)) H):=by
 intro B F L σ H Q F' H' xs vs fx gr r nf nd new q
 match xs,r,q with
 | [x],r,q =>
  obtain⟨v,rfl,rv⟩:=RelL.one r
  simp only[p1]at q
  cases x with
  | lst fl ys =>
   simp only[kb]at q
   cases e2:eF ys with
   | none=>rw[e2]at q;exact q.elim
   | some bs =>
    rw[e2]at q
    dsimp only at q
    unfold Rel at rv
    obtain⟨a,us,fp',rfl,hl,hr,_⟩:=rv
    have hu:=mH e2 hr
    subst hu
    exact⟨a,_,rfl,by rw[hK];exact hl.sq,q.scal gr i8⟩
  | _=>exact q.elim
 | [],_,q=>exact q.elim
 | _::_::_,_,q=>simp only[p1]at q;exact q.elim
theorem CV:bootBuiltins "all" = some (.builtin "all"):=by decide +kernel
theorem CU:bootBuiltins "any" = some (.builtin "any"):=by decide +kernel
theorem qg(hK:X.K=T.K)(hc:X.calm=true)(hg:Gl X "all")(hm:X.mg "all" = none)(ha:SE X T W e m)(he:starEach [e] X.env=[(false,eval e X.env)]:=by rfl):SE X T W (.Call (.Name "all" p) [e] [] pos) (ap (p1 (kb lD)) (ae m am)) :=
 dU (nZ hc) (rX hK lD) hg hm CV (aa ha af (by rw[he];rfl)) (he:=by rw[he];rfl) (hpl:=rfl)
theorem A0(hK:X.K=T.K)(hc:X.calm=true)(hg:Gl X "any")(hm:X.mg "any" = none)(ha:SE X T W e m)(he:starEach [e] X.env=[(false,eval e X.env)]:=by rfl):SE X T W (.Call (.Name "any" p) [e] [] pos) (ap (p1 (kb pR)) (ae m am)) :=
 dU (nY hc) (rX hK pR) hg hm CU (aa ha af (by rw[he];rfl)) (he:=by rw[he];rfl) (hpl:=rfl)
end
end PR
namespace PR
open PySem PySem.Spec L2
open AutoSeq1 (wpAny_loadPart')
section
variable{prog:Program}{w:World}{A:Around}{E:Value->Shared->Prop}{s:Shared}
theorem jT(ft:TypeCalled T nI iI)
  (c1:checkTypeCall T ⟨us,kw⟩=pure ()) (c2:checkBuiltinCall nI ⟨.type T::us,kw⟩=pure ()) (eN:entryFor table nI=some Bn) (eI:entryFor table iI=some Bi) (g:Meets (Bn ⟨.type T::us,kw⟩) S)
  (h:S A.in1 (wants Q1 E) s) (nx:∀ob s1,Q1 ob s1->s1.TypeIs ob T/\argsOk iI ⟨ob::us,kw⟩/\∃Si,Meets (Bi ⟨ob::us,kw⟩) Si/\Si A.in1 (wants (fun r s2=>r=.none/\Q ob s2) E) s1) :
  wpAny (model prog w) A (call (.type T) us kw) Q E s:=by
 obtain⟨cc,tt,hmro⟩:=ft.mro
 have hmade:=ft.made;have hsub:=ft.sub;have h1:=ft.notType;have h2:=ft.canCreate
 refine wpAny_call (codeAny_of_tree (show wpAny _ _ (callAny (.type T) _) _ _ _ from wpAny_pure ⟨Code.quiet_builtin _ (by decide +kernel),codeAny_builtin F.entry_type_call ?_⟩))
 rw[Around.under_plain (weight_type_call_type T us kw) (units_type_call_type T us kw)]
 repeat (any_goals (first | assumption | wp_step | fail))
 refine codeAny_mono (codeAny_call_builtin ft.plain eN (wpAny_of_eq c2 (g prog w A.in1 _ s h))) fun r s1 hr=>?_
 cases r with
 | error e=>exact hr
 | ok fl =>
  cases fl with
  | ret ob =>
   obtain⟨hT,hok,Si,gi,hsi⟩:=nx _ _ hr
   have hli:=ft.init.lookup;have hbi:=ft.init.bind ob
   repeat (any_goals (first | assumption | wp_step | fail))
   refine codeAny_mono (codeAny_call_builtin ft.init.plain eI (ft.init.check _ _ _ _ _ _ _ _ hT hok (gi prog w A.in1 _ s1 hsi))) fun r2 s2 hr2=>?_
   cases r2 with
   | error e=>exact hr2
   | ok fl2 =>
    cases fl2 with
    | ret r =>
     obtain⟨rfl,hq⟩:=hr2
     repeat (any_goals (first | assumption | wp_step | fail))
    | _=>exact hr2.elim
  | _=>exact hr.elim
theorem Ax(hl:typeLookup (.type T) "__init__" = pure (some (.builtin "object.__init__")))(hm:Bind.madeBy (.type T)=pure (some nI))(hne:(some nI != some "object.__new__")=true) :
  Meets (Builtin.«object.__init__» ⟨[self,a],kw⟩) (fun _ R s=>s.TypeIs self T/\R (.ok (.ret .none)) s):=by
 refine Meets.of_wp fun pr w A R s0 hs=>?_
 obtain⟨hT,hq⟩:=hs
 repeat (any_goals (first | assumption | wp_step | fail))
 exact⟨_,rfl,hq⟩
theorem cK1(a v:Value):checkTypeCall "enumerate" ⟨[a],[("start", v)]⟩=pure ():=by kernel_rfl
theorem cK2(a v:Value):checkBuiltinCall "enumerate.__new__" ⟨[.type "enumerate", a],[("start", v)]⟩=pure ():=by kernel_rfl
theorem cK3(a b v:Value):argsOk "object.__init__" ⟨[a,b],[("start", v)]⟩:=by
 unfold argsOk
 rw[signature?_of (id := "object.__init__") (n:=['_','_','t','i','n','i','_','_']) (o:=['t','c','e','j','b','o']) (by kernel_rfl) F.owner_object]
 kernel_rfl
abbrev itO(n:String)(l:Addr):Obj:={ cls:=.type n,data:=.fields #[.ref l,.int 0 0] }
abbrev enO(it:Addr)(i:Int):Obj:={ cls:=.type "enumerate", data:=.fields #[.none,.bool false,.ref it,rawInt i,.none,.none] }
def mP(n:String)(l:Addr)(s:Shared):Prop:=∀(pr:Program) (w:World) (A:Around) (Q:Value->Shared->Prop) (E:Value->Shared->Prop),Q (.ref s.heap.objs.size) { s with heap:=s.heap.push (itO n l) }->wpAny (model pr w) A (pyIter (.ref l)) Q E s
theorem Ft(n:String)(l:Addr)(t:Tok) :
  Meets (Builtin.«enumerate.__new__» ⟨[.type "enumerate", .ref l],[("start", .int 1 t)]⟩) (fun _ R s=>mP n l s/\R (.ok (.ret (.ref (s.heap.push (itO n l)).objs.size))) { s with heap:=(s.heap.push (itO n l)).push (enO s.heap.objs.size 1) }) :=
 .of_wp fun pr w A R s0 h=>by
  obtain⟨hp,g,d,tk,os⟩:=s0
  obtain⟨hI,h⟩:=h
  have hsub:=sub_enumerate
  have hJ:∀{Q:Value->Shared->Prop}{E:Value->Shared->Prop},Q (.ref hp.objs.size) ⟨hp.push (itO n l),g,d,tk,os⟩->wpAny (model pr w) A.in1 (pyIter (.ref l)) Q E ⟨hp,g,d,tk,os⟩:=fun {Q E} q=>hI pr w A.in1 Q E q
  have hJ':∀{Q:Value->Shared->Prop}{E:Value->Shared->Prop},Q (.ref hp.objs.size) ⟨hp.push (itO n l),g,d,tk,os⟩->wpAny (model pr w) A (pyIter (.ref l)) Q E ⟨hp,g,d,tk,os⟩:=fun {Q E} q=>hI pr w A Q E q
  wp_walk
  refine wpAny_stack_any fun st=>wpAny_pure ?_
  split<;>try (rename_i c _ _ _ _ _;cases(c==Value.type "enumerate"))
  all_goals (wp_walk using hJ,hJ')
  all_goals exact⟨_,rfl,h⟩
theorem CI(hI:mP n l s)(h:Q (.ref (s.heap.objs.size+1)) { s with heap:=(s.heap.push (itO n l)).push (enO s.heap.objs.size 1) }) :
  wpAny (model prog w) A (call (.type "enumerate") [.ref l] [("start", .int 1 t)]) Q E s:=by
 have hz:(s.heap.push (itO n l)).objs.size=s.heap.objs.size+1:=Heap.size_push ..
 refine jT (Q1:=fun ob s1=>s1.TypeIs ob "enumerate" /\ Q ob s1) F.called_enumerate (cK1 _ _) (cK2 _ _) F.entry_enumerate_new F.entry_object_init (Ft n l t) ⟨hI,?_⟩ fun ob s1 hq=>⟨hq.1,cK3 ob _ _,_,Ax F.called_enumerate.init.lookup F.called_enumerate.made (by decide),hq.1,rfl,hq.2⟩
 show _/\_
 rw[hz]
 have:=Heap.get?_push_size (s.heap.push (itO n l)) (o:=enO s.heap.objs.size 1) rfl
 rw[hz]at this
 exact⟨⟨_,this,rfl⟩,h⟩
theorem oC(t:Addr):¬((Value.ref t==Value.none)=true):=Bool.false_ne_true
theorem vM(hit:s.heap.IsTupleIter it t i)(ht:s.heap.IsTuple t items)(hx:items[i]?=some x)
  (hQ:∀h',h'.IsTupleIter it t (i+1)->Heap.SameBut it s.heap h'->Q x { s with heap:=h' }):wpAny (model prog w) A (Builtin.SmallTypes.nextOf (.ref it)) Q E s:=by
 obtain⟨o,ho,hc,hd⟩:=id hit
 obtain⟨o2,ho2,_,n2,hd2⟩:=ht
 unfold Builtin.SmallTypes.nextOf
 refine wpAny_bind (wpAny_callSpecial?_slot (name:=Str.ofString "__next__") hit.typeIs F.slot_tuple_iterator_next (wpAny_call_entry F.slot_tuple_iterator_next hit.typeIs F.entry_tuple_iterator_next ?_ (F.args_tuple_iterator_next_1 _)))
 refine(show wpAny _ _ (field (.ref it) 0 >>= _) _ _ s from wpAny_bind (wpAny_field ho hd (x:=.ref t) rfl ?_))
 refine(show wpAny _ _ (if(Value.ref t==Value.none)=true then _ else _) _ _ s from ?_)
 rw[if_neg (oC t)]
 refine(show wpAny _ _ (field (.ref it) 1 >>= _) _ _ s from wpAny_bind (wpAny_field ho hd (x:=.int i 0) rfl ?_))
 refine(show wpAny _ _ (seqItems? (.ref t) >>= _) _ _ s from wpAny_bind (wpAny_seqItems ho2 hd2 ?_))
 simp only[Int.toNat_natCast,hx]
 refine wpAny_bind (wpAny_setField ho hd (by simp) (wpAny_pure ⟨x,rfl,wpAny_pure (hQ _ ⟨_,Heap.get?_update_self _ ho (Obj.isFreed_of_fields (Obj.data_mapFields hd _)),(Obj.cls_mapFields ..).trans hc,by rw[Obj.data_mapFields hd];simp[rawInt]⟩ (Heap.SameBut.update ..))⟩))
theorem zm(hh:A.handled=none)(hit:s.heap.IsTupleIter it t i)(ht:s.heap.IsTuple t items)(hx:items[i]?=none)
  (hE:∀h' e,Heap.ExtBut it s.heap h'->(∃o,h'.get? e=some o/\o.cls=.type "StopIteration")->E (.ref e) { s with heap:=h' }):wpAny (model prog w) A (Builtin.SmallTypes.nextOf (.ref it)) Q E s:=by
 obtain⟨o,ho,hc,hd⟩:=id hit
 obtain⟨o2,ho2,_,n2,hd2⟩:=ht
 unfold Builtin.SmallTypes.nextOf
 refine wpAny_bind (wpAny_callSpecial?_slot (name:=Str.ofString "__next__") hit.typeIs F.slot_tuple_iterator_next (wpAny_call_entry F.slot_tuple_iterator_next hit.typeIs F.entry_tuple_iterator_next ?_ (F.args_tuple_iterator_next_1 _)))
 refine(show wpAny _ _ (field (.ref it) 0 >>= _) _ _ s from wpAny_bind (wpAny_field ho hd (x:=.ref t) rfl ?_))
 refine(show wpAny _ _ (if(Value.ref t==Value.none)=true then _ else _) _ _ s from ?_)
 rw[if_neg (oC t)]
 refine(show wpAny _ _ (field (.ref it) 1 >>= _) _ _ s from wpAny_bind (wpAny_field ho hd (x:=.int i 0) rfl ?_))
 refine(show wpAny _ _ (seqItems? (.ref t) >>= _) _ _ s from wpAny_bind (wpAny_seqItems ho2 hd2 ?_))
 simp only[Int.toNat_natCast,hx]
 refine wpAny_bind (wpAny_rule (wpAny_bind (wpAny_setField ho hd (by simp) (show wpAny _ _ (newExc (.type "StopIteration") [] >>= _) _ _ _ from wpAny_bind ?_))))
 simp only[newExc,newTuple]
 refine wpAny_bind (wpAny_newObj_type (wpAny_bind (m:=firstArgMember _ _) (wpAny_of_eq (a:=Value.none) (by first | rfl |(simp only[firstArgMember];rfl)) (wpAny_newObj_type ?_ (by size_fits)))) (by size_fits))
 simp only[raiseNew]
 refine wpAny_bind (wpAny_handled ?_)
 first | rw[show A.in1.handled=none from hh] | rw[hh] | skip
 exact wpAny_bind (wpAny_pure (wpAny_throw (hE _ _ (((Heap.SameBut.update ..).extBut.push _).push _) ⟨_,Heap.get?_push_size _ rfl,rfl⟩)))
inductive iT(h:Heap)(it l:Addr)(its:Array Value)(i:Nat):Prop
 | lst (a:h.IsListIter it l i) (b:h.IsList l its)
 | tup (a:h.IsTupleIter it l i) (b:h.IsTuple l its)
theorem iT.at(x:iT h it l its i)(k1:∀o,h.get? it=some o->h'.get? it=some o)(k2:∀o,h.get? l=some o->h'.get? l=some o):iT h' it l its i:=by
 rcases x with⟨⟨o,e,r⟩,⟨o2,e2,r2⟩⟩ |⟨⟨o,e,r⟩,⟨o2,e2,r2⟩⟩
 ·exact .lst ⟨o,k1 o e,r⟩ ⟨o2,k2 o2 e2,r2⟩
 ·exact .tup ⟨o,k1 o e,r⟩ ⟨o2,k2 o2 e2,r2⟩
theorem iT.obj(x:iT h it l its i):∃o,h.get? it=some o/\∀v,o.data≠.cell v:=by
 rcases x with⟨⟨o,e,_,d⟩,_⟩ |⟨⟨o,e,_,d⟩,_⟩
 ·exact⟨o,e,fun v z=>by rw[d]at z;cases z⟩
 ·exact⟨o,e,fun v z=>by rw[d]at z;cases z⟩
theorem zl(hi:iT s.heap it l its i)(hne:l≠it)(hx:its[i]?=some x)(hQ:∀h',iT h' it l its (i+1)->Heap.SameBut it s.heap h'->Q x { s with heap:=h' }) :
  wpAny (model prog w) A (Builtin.SmallTypes.nextOf (.ref it)) Q E s:=by
 rcases hi with⟨a,b⟩ |⟨a,b⟩
 ·exact wpAny_nextOf_list_item a b hx fun h' q sb=>hQ h' (.lst q (b.extBut sb.extBut hne)) sb
 ·exact vM a b hx fun h' q sb=>hQ h' (.tup q (b.extBut sb.extBut hne)) sb
theorem BX(hh:A.handled=none)(hi:iT s.heap it l its i)(hx:its[i]?=none)
  (hE:∀h' e,Heap.ExtBut it s.heap h'->(∃o,h'.get? e=some o/\o.cls=.type "StopIteration")->E (.ref e) { s with heap:=h' }):wpAny (model prog w) A (Builtin.SmallTypes.nextOf (.ref it)) Q E s:=by
 rcases hi with⟨a,b⟩ |⟨a,b⟩
 ·exact wpAny_nextOf_list_end hh a b hx hE
 ·exact zm hh a b hx hE
theorem zU{Q:Value->Shared->Prop}(he:IsEnum s.heap e it k old)(hi:iT s.heap it l its i)(hne:e≠it)(hli:l≠it)(hle:l≠e)(hx:its[i]?=some x)
  (hQ:∀ h',IsEnumOut h' e it (k+1) x s.heap.objs.size->iT h' it l its (i+1)->h'.get? s.heap.objs.size=some { cls:=.type "tuple", data:=.seq #[.int k s.toks,x] }->h'.objs.size=s.heap.objs.size+1 ->
   (∀b o,b≠e->b≠it->s.heap.get? b=some o->h'.get? b=some o)->Q (.ref s.heap.objs.size) { s with heap:=h',toks:=s.toks+1 }) :
  wpAny (model prog w) A (Builtin.«enumerate.__next__» ⟨[.ref e],[]⟩) (fun fin s'=>∃v,fin=.done (.ret v)/\Q v s') E s:=by
 obtain⟨hp,g,d,tk,os⟩:=s
 refine(show wpAny _ _ (field (.ref e) 2 >>= _) _ _ _ from wpAny_bind (wpAny_field he rfl (x:=.ref it) rfl ?_))
 refine wpAny_bind (zl hi hli hx fun h1 i1 s1=>?_)
 replace s1:Heap.SameBut it hp h1:=s1
 have e1:IsEnum h1 e it k old:=(s1.2 e hne).trans he
 refine(show wpAny _ _ (field (.ref e) 3 >>= _) _ _ ⟨h1,g,d,tk,os⟩from wpAny_bind (wpAny_field e1 rfl (x:=rawInt k) rfl ?_))
 refine(show wpAny _ _ (field (.ref e) 4 >>= _) _ _ ⟨h1,g,d,tk,os⟩from wpAny_bind (wpAny_field e1 rfl (x:=.none) rfl ?_))
 refine(show wpAny _ _ (mkInt k >>= _) _ _ ⟨h1,g,d,tk,os⟩from wpAny_bind (wpAny_mkInt ?_))
 refine(show wpAny _ _ (setField (.ref e) 3 (rawInt (k+1)) >>= _) _ _ ⟨h1,g,d,tk+1,os⟩from wpAny_bind (wpAny_setField_rec e1 (by simp) fun h2 e2 s2=>?_))
 replace s2:Heap.SameBut e h1 h2:=s2
 replace e2:IsEnum h2 e it (k+1) old:=e2
 refine(show wpAny _ _ (setField (.ref e) 4 .none >>= _) _ _ ⟨h2,g,d,tk+1,os⟩from wpAny_bind (wpAny_setField_rec e2 (by simp) fun h3 e3 s3=>?_))
 replace s3:Heap.SameBut e h2 h3:=s3
 replace e3:IsEnum h3 e it (k+1) old:=e3
 refine(show wpAny _ _ (newTuple [.int k tk,x] >>= _) _ _ ⟨h3,g,d,tk+1,os⟩from wpAny_bind (wpAny_newTuple ?_))
 have e4:IsEnum (h3.push { cls:=.type "tuple", data:=.seq #[.int k tk,x] }) e it (k+1) old:=Heap.get?_push_of_some _ e3
 generalize hh4:h3.push { cls:=.type "tuple", data:=.seq #[.int k tk,x] }=h4 at e4
 have z3:h3.objs.size=hp.objs.size:=by rw[s3.1,s2.1,s1.1]
 have lte:e < hp.objs.size:=Heap.lt_size he
 have t4:h4.get? hp.objs.size=some { cls:=.type "tuple", data:=.seq #[.int k tk,x] }:=by rw[<- hh4,<- z3];exact Heap.get?_push_size _ rfl
 have z4:h4.objs.size=hp.objs.size+1:=by rw[<- hh4,Heap.size_push,z3]
 have k4:∀b o,b≠e->h1.get? b=some o->h4.get? b=some o:=fun b o hb q=>by
  rw[<- hh4];exact Heap.get?_push_of_some _ (s3.extBut b o hb (s2.extBut b o hb q))
 refine(show wpAny _ _ (Builtin.SmallTypes.ownedTupleIsFree (.ref e) >>= _) _ _ ⟨h4,g,d,tk+1,os⟩from ?_)
 rw[z3]
 refine wpAny_bind ?_
 unfold Builtin.SmallTypes.ownedTupleIsFree
 refine wpAny_bind (wpAny_field e4 rfl (x:=.none) rfl (wpAny_pure ?_))
 simp only[if_true]
 refine wpAny_bind (wpAny_rule (wpAny_bind (wpAny_field e4 rfl (x:=old) rfl (wpAny_bind (wpAny_setField_rec e4 (by simp) fun h5 e5 s5=>?_)))))
 replace s5:Heap.SameBut e h4 h5:=s5
 replace e5:IsEnum h5 e it (k+1) x:=e5
 refine(show wpAny _ _ (Builtin.SmallTypes.ownedTupleHandOut (.ref e) (.ref hp.objs.size) >>= _) _ _ ⟨h5,g,d,tk+1,os⟩from wpAny_bind ?_)
 unfold Builtin.SmallTypes.ownedTupleHandOut
 refine wpAny_bind (wpAny_setField_rec e5 (by simp) fun h6 e6 s6=>?_)
 replace s6:Heap.SameBut e h5 h6:=s6
 replace e6:IsEnumOut h6 e it (k+1) x hp.objs.size:=e6
 refine wpAny_setField_rec e6 (by simp) fun h7 e7 s7=>?_
 replace s7:Heap.SameBut e h6 h7:=s7
 replace e7:IsEnumOut h7 e it (k+1) x hp.objs.size:=e7
 have up:∀b o,b≠e->h4.get? b=some o->h7.get? b=some o:=fun b o hb q=>s7.extBut b o hb (s6.extBut b o hb (s5.extBut b o hb q))
 refine wpAny_bind (wpAny_letGo (wpAny_pure ⟨_,rfl,hQ h7 e7 (i1.at (fun o q=>up it o hne.symm (k4 it o hne.symm q)) fun o q=>up l o hle (k4 l o hle q)) (up _ _ (Nat.ne_of_gt lte) t4) (by rw[s7.1,s6.1,s5.1,z4]) fun b o hb hb2 q=>up b o hb (k4 b o hb (s1.extBut b o hb2 q))⟩))
theorem y4(he:IsEnum s.heap e it k old)(hi:iT s.heap it l its i)(hne:e≠it)(hli:l≠it)(hle:l≠e)(hx:its[i]?=some x)
  (hQ:∀ h',IsEnumOut h' e it (k+1) x s.heap.objs.size->iT h' it l its (i+1)->h'.get? s.heap.objs.size=some { cls:=.type "tuple", data:=.seq #[.int k s.toks,x] }->h'.objs.size=s.heap.objs.size+1 ->
   (∀b o,b≠e->b≠it->s.heap.get? b=some o->h'.get? b=some o)->Q (some (.ref s.heap.objs.size)) { s with heap:=h',toks:=s.toks+1 }):wpAny (model prog w) A (pyNext (.ref e)) Q E s:=by
 have hT:s.TypeIs (.ref e) "enumerate" :=⟨_,he,rfl⟩
 unfold pyNext
 exact wpAny_bind (wpAny_attempt (wpAny_callSpecial?_slot (name:=Str.ofString "__next__") hT F.slot_enumerate_next (wpAny_call_entry F.slot_enumerate_next hT F.entry_enumerate_next (zU he hi hne hli hle hx fun h' a b c d q=>wpAny_pure (hQ h' a b c d q)) (F.args_enumerate_next_1 _))))
theorem Ba(hh:A.handled=none)(he:IsEnum s.heap e it k old)(hi:iT s.heap it l its i)(hx:its[i]?=none)
  (hQ:∀h',Heap.ExtBut it s.heap h'->Q none { s with heap:=h' }):wpAny (model prog w) A (pyNext (.ref e)) Q E s:=by
 have hT:s.TypeIs (.ref e) "enumerate" :=⟨_,he,rfl⟩
 unfold pyNext
 refine wpAny_bind (wpAny_attempt (wpAny_callSpecial?_slot (name:=Str.ofString "__next__") hT F.slot_enumerate_next (wpAny_call_entry F.slot_enumerate_next hT F.entry_enumerate_next ?_ (F.args_enumerate_next_1 _))))
 refine(show wpAny _ _ (field (.ref e) 2 >>= _) _ _ _ from wpAny_bind (wpAny_field he rfl (x:=.ref it) rfl ?_))
 refine wpAny_bind (BX hh hi hx fun h' y q ⟨o,ho,hc⟩=>?_)
 exact wpAny_bind (wpAny_isInstance (T := "StopIteration") (b:=true) ⟨o,ho,hc⟩ isSubtype_stop (wpAny_pure (hQ _ q)))
variable{X:Cx}{T:Tb}{W:Nat->St->Hp->Prop}{Z:Zn}{F F1 B L:Addr->Prop}{H H1:Hp}{σ:St}{env:En}{pins:List (Addr×Obj)}
theorem lZ{fp:List Addr}{vs:List V}(I:L2.Inv X pins σ H s)(hf:∀b∈fp,lh X pins H b)(k:∀b o,b∉fp->s.heap.get? b=some o->h'.get? b=some o)(hp:s.heap.objs.size<=a)(new:dg X.prog X.w (upd H a (.tup vs)) h' a (.tup vs)) :
  L2.Inv X pins σ (upd H a (.tup vs)) { s with heap:=h',toks:=t' }:=by
 have hn:H a=none:=I.hok.fresh hp
 have nit:∀b u,H b=some u->b∉fp:=fun b u e z=>by rw[(hf b z).1]at e;cases e
 refine I.step (g':=s.gens) (d':=s.drawn) (ch:=fp) (fun b hb=>?_) (fun b o _ _ hc e _=>k b o hc e) (fun b o _ _ hc e _=>⟨o.slots,k b o hc e⟩) (fun b o _ e n=>?_) (fun b o hc e=>⟨o,k b o hc e⟩)
  (fun b xs e=>by rw[aP (bN e hn)];exact e) (fun b o u e=>by rw[aP (bN e hn)];exact e) (fun b ps e=>⟨#[],by rw[aP (bN e hn),e];simp⟩) (fun m hm=>?_) (fun b u e=>?_) I.bare
 ·obtain⟨_,q1,_,q3,q4,q5⟩:=hf b hb
  exact⟨q3,q1,q4,q5⟩
 ·rw[aP (Nat.ne_of_lt (Nat.lt_of_lt_of_le (Heap.lt_size e) hp))];exact n
 ·obtain⟨o,es,ep,ho,r⟩:=hm
  exact⟨o,es,ep,k _ o (fun z=>(hf _ z).2.1 rfl) ho,r⟩
 ·by_cases hb:b=a
  ·subst hb;rw[bM]at e;cases e;exact new
  ·rw[aP hb]at e
   refine(I.hok b u e).stay (fun c v hc q=>k c v ?_ q) (fun c q=>by rw[aP (bN q hn)];exact q) fun c xs q=>by rw[aP (bN q hn)];exact q
   rcases hc with z | z
   ·rw[z];exact nit b u e
   ·exact nit c _ z
def Sq(tp:Bool)(K:PySem.W.Frag)(H:Hp)(l:Addr)(xs:List V):Prop:=match tp with
 | true=>SqT K H l xs
 | false=>SqL K H l xs
def x8(tp:Bool)(h:Heap)(it l:Addr)(i:Nat):Prop:=match tp with
 | true=>h.IsTupleIter it l i
 | false=>h.IsListIter it l i
def Ite(tp:Bool)(K:PySem.W.Frag)(st:Int)(l:Addr):It :=
 ⟨fun i H=>∃xs x,Sq tp K H l xs/\xs[i]?=some x,fun i H v H'=>∃p y,H p=none/\v=.ref p/\H'=upd H p (.tup [.int (st+i),y])/\∀xs,Sq tp K H l xs->xs[i]?=some y,fun i H=>∃xs,Sq tp K H l xs/\xs.length<=i⟩
theorem Al(I:L2.Inv X pins σ H s)(hq:Sq tp X.K H l xs)(ha:x8 tp s.heap it l i):∃its:List Value,aJ xs its/\iT s.heap it l its.toArray i/\l≠it/\∀e k old,IsEnum s.heap e it k old->e≠it/\l≠e:=by
 cases tp with
 | false =>
  obtain⟨its,rv,p,_⟩:=I.list hq
  obtain⟨o,ho,hc,_⟩:=id p.isList
  obtain⟨o2,ho2,hc2,_⟩:=id (show s.heap.IsListIter it l i from ha)
  refine⟨its,rv,.lst ha p.isList,fun z=>?_,fun e k old he=>⟨fun z=>?_,fun z=>?_⟩⟩
  ·rw[z,ho2]at ho;cases ho;rw[hc2]at hc;exact absurd hc (by decide)
  ·have he':s.heap.get? e=some _:=he
   rw[z,ho2]at he';injection he' with he';rw[he']at hc2;exact absurd hc2 (by simp)
  ·have he':s.heap.get? e=some _:=he
   rw[z,he']at ho;injection ho with ho;rw[<- ho]at hc;exact absurd hc (by simp)
 | true =>
  obtain⟨its,rv,p,_⟩:=I.tuple hq
  have p':s.heap.IsTuple l its.toArray:=p
  obtain⟨o,ho,hc,_⟩:=id p'
  obtain⟨o2,ho2,hc2,_⟩:=id (show s.heap.IsTupleIter it l i from ha)
  refine⟨its,rv,.tup ha p',fun z=>?_,fun e k old he=>⟨fun z=>?_,fun z=>?_⟩⟩
  ·rw[z,ho2]at ho;cases ho;rw[hc2]at hc;exact absurd hc (by decide)
  ·have he':s.heap.get? e=some _:=he
   rw[z,ho2]at he';injection he' with he';rw[he']at hc2;exact absurd hc2 (by simp)
  ·have he':s.heap.get? e=some _:=he
   rw[z,he']at ho;injection ho with ho;rw[<- ho]at hc;exact absurd hc (by simp)
theorem AQ(I:L2.Inv X pins σ H s)(h1:Sq tp X.K H l xs)(h2:Sq tp X.K H l ys):xs=ys:=by
 cases tp with
 | false=>exact I.list_inj h1 h2
 | true=>exact I.tuple_inj h1 h2
theorem E8(x:iT h it l its i)(hl:tp=true->∃o,h.get? l=some o/\o.cls=.type "tuple")(hl2:tp=false->∃o,h.get? l=some o/\o.cls=.type "list"):x8 tp h it l i:=by
 cases tp with
 | false =>
  obtain⟨o,ho,hc⟩:=hl2 rfl
  rcases x with⟨a,b⟩ |⟨a,⟨o2,ho2,hc2,_⟩⟩
  ·exact a
  ·rw[ho]at ho2;cases ho2;rw[hc]at hc2;exact absurd hc2 (by decide)
 | true =>
  obtain⟨o,ho,hc⟩:=hl rfl
  rcases x with⟨a,⟨o2,ho2,hc2,_⟩⟩ |⟨a,b⟩
  ·rw[ho]at ho2;cases ho2;rw[hc]at hc2;exact absurd hc2 (by decide)
  ·exact a
theorem lG{els:List Expr}{x1}(tp:Bool)(st:Int)(l e it:Addr) :
  qX P w K (.Tuple els x1 tpos) (Ite tp K st l) [e,it] e (fun i h=>(∃old,IsEnum h e it (st+i) old)/\x8 tp h it l i) where
 mem:=by simp
 obj:=fun i h st b hb=>by
  obtain⟨⟨old,he⟩,ha⟩:=st
  simp only[List.mem_cons,List.not_mem_nil,or_false]at hb
  rcases hb with rfl | rfl
  ·exact⟨_,he,fun v z=>by cases z⟩
  ·cases tp with
   | false =>
    obtain⟨o,e,c,d⟩:=id (show h.IsListIter b l i from ha)
    exact⟨o,e,fun v z=>by rw[d]at z;cases z⟩
   | true =>
    obtain⟨o,e,c,d⟩:=id (show h.IsTupleIter b l i from ha)
    exact⟨o,e,fun v z=>by rw[d]at z;cases z⟩
 keep:=fun i h h' st k=>by
  obtain⟨⟨old,he⟩,ha⟩:=st
  refine⟨⟨old,k e (by simp) _ he⟩,?_⟩
  cases tp with
  | false =>
   obtain⟨o,e,r⟩:=id (show h.IsListIter it l i from ha)
   exact⟨o,k it (by simp) o e,r⟩
  | true =>
   obtain⟨o,e,r⟩:=id (show h.IsTupleIter it l i from ha)
   exact⟨o,k it (by simp) o e,r⟩
 item:=by
  intro X hP hw hK hc i pins s σ H E I hf stt hg
  subst hP hw hK
  obtain⟨⟨old,he⟩,ha⟩:=stt
  obtain⟨xs,x,hq,hx⟩:=hg
  obtain⟨its,rv,hi,hli,hen⟩:=Al I hq ha
  obtain⟨hne,hle⟩:=hen e _ old he
  obtain⟨u,hu,ru⟩:=rv.get hx
  refine y4 he hi hne hli hle (x:=u) (by simpa using hu) fun h1 eo in1 tu sz kp=>?_
  refine⟨_,rfl,wpAny_letOwnedTupleGo_enum eo fun h2 e2 s2=>?_⟩
  replace s2:Heap.SameBut e h1 h2:=s2
  have lte:e < s.heap.objs.size:=Heap.lt_size he
  have kp2:∀b o,b∉[e,it]->s.heap.get? b=some o->h2.get? b=some o:=fun b o hb q=>by
   simp only[List.mem_cons,List.not_mem_nil,or_false,not_or]at hb
   exact s2.extBut b o hb.1 (kp b o hb.1 hb.2 q)
  have tu2:h2.get? s.heap.objs.size=some { cls:=.type "tuple", data:=.seq #[.int (st+i) s.toks,u] }:=s2.extBut _ _ (Nat.ne_of_gt lte) tu
  refine⟨.ref s.heap.objs.size,upd H s.heap.objs.size (.tup [.int (st+i),x]),(lZ (h':=h2) (t':=s.toks+1) (vs:=[.int (st+i),x]) I hf kp2 (Nat.le_refl _) ⟨by rw[sizeLine_eq];simp,[.int (st+i) s.toks,u],.cons ⟨_,rfl⟩ (.cons ru .nil),⟨_,tu2,rfl,_,rfl⟩⟩ :),rfl,⟨_,x,I.hok.fresh (Nat.le_refl _),rfl,rfl,fun ys hy=>by rw[AQ I hy hq];exact hx⟩,⟨⟨u,?_⟩,?_⟩,fun b hb=>?_⟩
  ·have:st+((i+1:Nat):Int)=st+i+1:=by omega
   rw[this];exact e2
  ·have in2:=in1.at (fun o q=>s2.extBut it o hne.symm q) fun o q=>s2.extBut l o hle q
   refine E8 in2 (fun z=>?_) fun z=>?_
   ·subst z
    obtain⟨_,_,p,_⟩:=I.tuple hq
    obtain⟨o,ho,hc,_⟩:=id (show s.heap.IsTuple l _ from p)
    exact⟨o,kp2 l o (by simp[hle,hli]) ho,hc⟩
   ·subst z
    obtain⟨_,_,p,_⟩:=I.list hq
    obtain⟨o,ho,hc,_⟩:=id p.isList
    exact⟨o,kp2 l o (by simp[hle,hli]) ho,hc⟩
  ·have:b < s.heap.objs.size:=by
    simp only[List.mem_cons,List.not_mem_nil,or_false]at hb
    rcases hb with rfl | rfl
    ·exact lte
    ·obtain⟨o,ho,_⟩:=hi.obj
     exact Heap.lt_size ho
   rw[aP (Nat.ne_of_lt this)]
   exact(hf b hb).1
 done:=by
  intro X hP hw hK hc i pins s σ H E I hf stt hg
  subst hP hw hK
  obtain⟨⟨old,he⟩,ha⟩:=stt
  obtain⟨xs,hq,hx⟩:=hg
  obtain⟨its,rv,hi,hli,hen⟩:=Al I hq ha
  obtain⟨f0,f1,f2,f3,f4,f5⟩:=hf it (by simp)
  have hl:=rv.length
  exact Ba (I.ok.hd hc) he hi (by simp;omega) fun h' eb=>⟨rfl,I.turned (t':=s.toks) (fun b o hb e=>eb b o hb e) f0 f1 f3 f4 f5⟩
 self:=fun _ _ _ _ _ st h=>by
  obtain⟨⟨old,he⟩,_⟩:=st
  exact wpAny_pyIter_enum he h
theorem n0{M:Model}{A:Around}{E:Value->Shared->Prop}{s:Shared}{env:Env}{Ty:String}{a_:List Expr}{kws:List Keyword}{Q:Value->Shared->Prop}
  (h:wpAny M A (spliced (backTo pos (starEach (e::a_) env))) (fun vs s1=>wpAny M A (evalAll ((backToKw pos (keywordEach kws env)).map (·.2))) (fun ks s2=>wpAny M A (call (.type Ty) vs (((backToKw pos (keywordEach kws env)).filterMap (·.1)).zip ks)) Q E s2) E s1) E s)
  (hall:(backToKw pos (keywordEach kws env)).all (·.1.isSome)=true:=by rfl) (hkw:(backToKw pos (keywordEach kws env)).any (·.1.isNone)=false:=by rfl)
  (he:starEach (e::a_) env=(false,eval e env)::starEach a_ env:=by rfl) (hpl:(backTo pos (starEach (e::a_) env)).any (·.1)=false:=by rfl) :
  wpAny M A (callWith pos (.type Ty) [] (backTo pos (starEach (e::a_) env)) (backToKw pos (keywordEach kws env))) Q E s:=by
 unfold callWith
 refine wpAny_bind (wpAny_holding (wpAny_mono (PyProof.Rows.evalArgs_kw2 (Q:=fun a s1=>wpAny M A (call (.type Ty) ([]++ a.pos) a.kw) Q E s1) hall h he) (fun a s1 h1=>wpAny_bind (wpAny_standAt ?_)) fun _ _ x=>x))
 simp only[hpl,hkw,Bool.or_false]
 exact wpAny_bind (wpAny_pure (wpAny_bind (wpAny_mono h1 (fun r s2 hr=>wpAny_bind (wpAny_holding (wpAny_point (wpAny_pure hr)))) fun _ _ x=>x)))
theorem sE:bootBuiltins "enumerate" = some (.type "enumerate"):=by decide +kernel
abbrev enE(l:Expr)(p pos kp cp:Pos)(j:Nat):Expr:=.Call (.Name "enumerate" p) [l] [⟨some "start", .Constant (.int 1) j cp,kp⟩] pos
theorem rP{x1}(hg:Gl X "enumerate")(hm:X.mg "enumerate" = none)(hl:PE X l tl)(hs:starEach [l] X.env=[(false,eval l X.env)]:=by rfl) :
  PI X (.Tuple els x1 tpos) (enE l p pos kp cp j) (fun σ H R=>tl σ H fun x H1=>∃a tp xs,[x]=[V.ref a]/\Sq tp X.K H1 a xs/\R (Ite tp X.K 1 a) H1):=by
 intro pins s σ H R I h
 refine wpAny_Call_Name_kw (fv I hg hm sE ?_ (by decide) (by decide))
 refine n0 ?_ rfl rfl hs (by rw[hs];rfl)
 refine thn (dv (te:=tl) hl gN (by rw[hs];rfl) pos pins s σ H (fun vs H1=>∃a tp xs,vs=[.ref a]/\Sq tp X.K H1 a xs/\R (Ite tp X.K 1 a) H1) I h) fun us s1 hz1=>?_
 obtain⟨vs,H1,I1,r1,a,tp,xs,ev,hq,q⟩:=hz1
 subst ev
 obtain⟨u,rfl,rx⟩:=dD r1
 cases rx
 refine thn (rO (nm:=some "start") (kpos:=kp) (m8 (i:=1) (j:=j) (pos:=cp)) vg pos pins s1 σ H1 (fun zs H2=>zs=[.int 1]/\H2=H1) I1 ⟨rfl,rfl⟩) fun ws s2 hz1=>?_
 obtain⟨zs,H2,I2,r2,ez,eh⟩:=hz1
 subst ez
 rw[eh]at I2
 clear eh
 obtain⟨u2,rfl,rx2⟩:=dD r2
 obtain⟨t,rfl⟩:=rx2
 have hI:∃n,mP n a s2/\∀h',h'.get? s2.heap.objs.size=some (itO n a)->x8 tp h' s2.heap.objs.size a 0:=by
  cases tp with
  | false =>
   obtain⟨its,rv,pl,_⟩:=I2.list hq
   exact⟨"list_iterator", fun _ _ _ _ _ q=>wpAny_pyIter_list pl.isList q,fun h' e=>⟨_,e,rfl,rfl⟩⟩
  | true =>
   obtain⟨its,rv,pl,_⟩:=I2.tuple hq
   exact⟨"tuple_iterator", fun _ _ _ _ _ q=>wpAny_pyIter_tuple (show s2.heap.IsTuple a its.toArray from pl) q,fun h' e=>⟨_,e,rfl,rfl⟩⟩
 obtain⟨n,hI,hA⟩:=hI
 have hz:(s2.heap.push (itO n a)).objs.size=s2.heap.objs.size+1:=Heap.size_push ..
 have he:((s2.heap.push (itO n a)).push (enO s2.heap.objs.size 1)).get? (s2.heap.objs.size+1)=some (enO s2.heap.objs.size 1):=by
  have:=Heap.get?_push_size (s2.heap.push (itO n a)) (o:=enO s2.heap.objs.size 1) rfl
  rw[hz]at this
  exact this
 refine CI hI (wpAny_pyIter_enum (i:=1) (old:=.none) he ?_)
 refine⟨s2.heap.objs.size+1,[s2.heap.objs.size+1,s2.heap.objs.size],_,_,H1,rfl,I2.kept (t':=s2.toks) fun b o e=>Heap.get?_push_of_some _ (Heap.get?_push_of_some _ e),lG tp 1 a _ _,⟨⟨.none,by simpa using he⟩,hA _ (Heap.get?_push_of_some _ (Heap.get?_push_size _ rfl))⟩,fun b hb=>?_,q⟩
 simp only[List.mem_cons,List.not_mem_nil,or_false]at hb
 rcases hb with rfl | rfl
 ·exact I2.fpOk (Nat.le_succ _) (I2.hok.fresh (Nat.le_succ _))
 ·exact I2.fpOk (Nat.le_refl _) (I2.hok.fresh (Nat.le_refl _))
end
def enP(k:Int):List PV->List PV
 | []=>[]
 | x::xs=>.tup [.int k,x]::enP (k+1) xs
theorem f9:∀(k:Int) (xs:List PV) (i:Nat),(enP k xs)[i]?=(xs[i]?).map fun x=>.tup [.int (k+i),x]
 | _,[],i | k,x::xs,0=>by simp[enP]
 | k,x::xs,i+1=>by
  simp only[enP,List.getElem?_cons_succ,f9 (k+1) xs i]
  congr 1
  funext y
  congr 3
  omega
theorem e9:∀(k:Int) (xs:List PV),(enP k xs).length=xs.length
 | _,[]=>rfl
 | k,_::xs=>by simp[enP,e9 (k+1) xs]
def tZ(m:ME):MI:=fun env=>(m env).bind fun x=>match x with
 | .lst f xs=>if !f.isLnt&&dJ xs then .ok (enP 1 xs)else .stuck
 | .tup xs=>if dJ xs then .ok (enP 1 xs)else .stuck
 | _=>.stuck
def zz(m:ME):MI:=fun env=>(m env).bind fun x=>match aQ x with
 | some xs=>.ok (enP 1 xs)
 | none=>.stuck
section
variable{X:Cx}{T:Tb}{W:Nat->St->Hp->Prop}{Z:Zn}{F F1 B L:Addr->Prop}{H H1:Hp}{σ:St}{env:En}{fp:Nat->List Addr}
theorem i6(hp:H2 p=none)(r:Rel T F B L H2 x v f):Rel T F B L (upd H2 p (.tup [.int k,v])) (.tup [.int k,x]) (.ref p) f:=by
 unfold Rel
 refine⟨p,_,rfl,SqT.of bM,?_⟩
 have r2:Rel T F B L (upd H2 p (.tup [.int k,v])) x v f:=r.ext (Ext.upd hp) fun _ h=>h
 unfold RelL
 refine⟨.int k,[v],[],f,rfl,fh,?_,rfl⟩
 unfold RelL
 exact⟨v,[],f,[],rfl,r2,by unfold RelL;exact⟨rfl,rfl⟩,by simp⟩
theorem yt{x1}(hK:X.K=T.K)(hg:Gl X "enumerate")(hm:X.mg "enumerate" = none)(he:SE X T W e m)(hs:starEach [e] X.env=[(false,eval e X.env)]:=by rfl) :
  SI X T W (.Tuple els x1 tpos) (enE e p pos kp cp j) (tZ m):=fun pins s σ H R I h=>rP hg hm he hs pins s σ H R I (by
 obtain⟨Z,F,env,fp,S,q⟩:=h
 unfold tZ at q
 refine tE.bind S (fun c e=>by rw[e]at q;exact q) (fun e=>by rw[e]at q;exact q) fun x v H1 F1 f1 e1 g1 r1 n1 d1 w1=>?_
 rw[e1]at q
 simp only[Res.ok_bind]at q
 have S1:=S.grow g1
 rw[hK]
 have key:∀(tp:Bool) (a:Addr) (xs:List PV) (vs:List V),RelL T F1 Z.B NoL H1 xs vs []->(∀H2,(∀a o,H1 a=some o->¬Own fp a->H2 a=some o)->Sq tp T.K H2 a vs)->ItR T F1 Z.B (Own fp) H1 (Ite tp T.K 1 a) (enP 1 xs):=by
  intro tp a xs vs hr hq H2 hk
  have hq2:=hq H2 hk
  refine⟨fun i x ex=>?_,⟨vs,hq2,by rw[e9,hr.length];exact Nat.le_refl _⟩⟩
  rw[f9]at ex
  obtain⟨y,ey,rfl⟩:=Option.map_eq_some_iff.mp ex
  obtain⟨v,_,ev,_,_⟩:=hr.get ey
  refine⟨⟨vs,v,hq2,ev⟩,fun w H3 hy=>?_⟩
  obtain⟨p,y',hp,rfl,rfl,hall⟩:=hy
  have:=hall vs hq2
  rw[ev]at this
  cases this
  exact⟨Ext.upd hp,i6 hp (f8 S1.fow S1.bow S1.oow hk hr ey ev)⟩
 cases x with
 | lst f xs =>
  dsimp only at q
  by_cases hc:(!f.isLnt&&dJ xs)=true
  ·rw[if_pos hc]at q
   rw[Bool.and_eq_true]at hc
   unfold Rel at r1
   obtain⟨a,vs,fp',rfl,hl,hr,hf⟩:=r1
   obtain⟨rfl,hr'⟩:=dy hc.2 hr
   refine⟨a,false,vs,rfl,hl.sq,q _ H1 F1 g1 (key false a xs vs hr' fun H2 hk=>?_)⟩
   have na:f≠.mod->∀o,H1 a=some o->H2 a=some o:=fun hn o ho=>by
    refine hk a o ho ?_
    cases f with
    | own =>
     rintro⟨i,hi⟩
     obtain⟨_,o',ho'⟩:=S.dis i a hi
     obtain rfl:f1=[a]:=hf
     rw[w1 a List.mem_cons_self]at ho';cases ho'
    | frz=>exact S1.fow a hl.1
    | bor=>exact S1.bow a hl.1
    | lnt=>exact absurd hc.1 (by decide)
    | mod=>exact absurd rfl hn
   show SqL T.K H2 a vs
   by_cases hn:f=.mod
   ·subst hn;exact .inr hl
   ·exact .inl (Rd.tr (na hn) (hl.rd hn))
  ·rw[if_neg hc]at q;exact q.elim
 | tup xs =>
  dsimp only at q
  by_cases hc:dJ xs=true
  ·rw[if_pos hc]at q
   unfold Rel at r1
   obtain⟨a,vs,rfl,hl,hr⟩:=r1
   obtain⟨rfl,hr'⟩:=dy hc hr
   refine⟨a,true,vs,rfl,hl,q _ H1 F1 g1 (key true a xs vs hr' fun H2 hk=>?_)⟩
   exact SqT.tr (fun o ho hfx=>hk a o ho fun z=>by
    have:=S1.oow a o z ho
    cases o with
    | lst _ | ins _ _ _=>exact hfx
    | _=>exact this) hl
  ·rw[if_neg hc]at q;exact q.elim
 | _=>exact q.elim)
theorem uL{x1}(hK:X.K=T.K)(hg:Gl X "enumerate")(hm:X.mg "enumerate" = none)(he:SE X T W e m)(hs:starEach [e] X.env=[(false,eval e X.env)]:=by rfl) :
  SIc X T W (.Tuple els x1 tpos) (enE e p pos kp cp j) (zz m):=fun pins s σ H R I h=>rP hg hm he hs pins s σ H R I (by
 obtain⟨Z,F,env,fp,S,q⟩:=h
 unfold zz at q
 refine tE.bind S (fun c e=>by rw[e]at q;exact q) (fun e=>by rw[e]at q;exact q) fun x v H1 F1 f1 e1 g1 r1 n1 d1 w1=>?_
 rw[e1]at q
 simp only[Res.ok_bind]at q
 cases es:aQ x with
 | none=>rw[es]at q;exact q.elim
 | some xs =>
  rw[es]at q
  obtain⟨a,vs,f',rfl,hs,hr,_⟩:=r1.seq es
  rw[hK]
  have key:∀(tp:Bool),Sq tp T.K H1 a vs->(∀H2,Ext H1 H2->Sq tp T.K H2 a vs)->ItC T F1 Z.B (Own fp) H1 (Ite tp T.K 1 a) (enP 1 xs):=by
   intro tp _ hq H2 hx
   have hq2:=hq H2 hx
   refine⟨fun i x ex=>?_,⟨vs,hq2,by rw[e9,hr.length];exact Nat.le_refl _⟩⟩
   rw[f9]at ex
   obtain⟨y,ey,rfl⟩:=Option.map_eq_some_iff.mp ex
   obtain⟨v,f,ev,rv,_⟩:=hr.get ey
   refine⟨⟨vs,v,hq2,ev⟩,fun w H3 hy=>?_⟩
   obtain⟨p,y',hp,rfl,rfl,hall⟩:=hy
   have:=hall vs hq2
   rw[ev]at this
   cases this
   exact⟨Ext.upd hp,f,fun b hb=>rv.there b hb,i6 hp (rv.ext hx fun _ h=>h)⟩
  rcases hs with hs | hs
  ·refine⟨a,false,vs,rfl,hs,q _ H1 F1 g1 (key false hs fun H2 hx=>?_)⟩
   rcases hs with z | z
   ·exact .inl (Rd.tr (fun o q=>hx a o q) z)
   ·exact .inr z
  ·exact⟨a,true,vs,rfl,hs,q _ H1 F1 g1 (key true hs fun H2 hx=>SqT.tr (fun o q _=>hx a o q) hs)⟩)
end
open AutoSeq1 (wpAny_loadPart')
section
variable{prog:Program}{w:World}{A:Around}{E:Value->Shared->Prop}{s:Shared}
abbrev zTI(n:Addr):Obj:={ cls:=.type "tuple", data:=.seq #[.ref n,.ref (n+1)] }
abbrev zTO:Obj:={ cls:=.type "tuple", data:=.seq #[.none,.none] }
abbrev zO(n:Addr):Obj:={ cls:=.type "zip", data:=.fields #[.none,.bool false,.bool false,.ref (n+2),.ref (n+3)] }
abbrev Aj(h:Heap)(l1 l2:Addr):Heap:=((((h.push (itO "list_iterator" l1)).push (itO "list_iterator" l2)).push (zTI h.objs.size)).push zTO).push (zO h.objs.size)
theorem DQ(hl:typeLookup (.type T) "__init__" = pure (some (.builtin "object.__init__")))(hm:Bind.madeBy (.type T)=pure (some nI))(hne:(some nI != some "object.__new__")=true) :
  Meets (Builtin.«object.__init__» ⟨[self,a,b],[]⟩) (fun _ R s=>s.TypeIs self T/\R (.ok (.ret .none)) s):=by
 refine Meets.of_wp fun pr w A R s0 hs=>?_
 obtain⟨hT,hq⟩:=hs
 repeat (any_goals (first | assumption | wp_step | fail))
 exact⟨_,rfl,hq⟩
theorem Go(l1 l2:Addr)(xs ys:Array Value) :
  Meets (Builtin.«zip.__new__» ⟨[.type "zip", .ref l1,.ref l2],[]⟩) (fun _ R s=>s.heap.IsList l1 xs/\s.heap.IsList l2 ys/\R (.ok (.ret (.ref (s.heap.objs.size+4)))) { s with heap:=Aj s.heap l1 l2 }) :=
 .of_wp fun pr w A R s0 h=>by
  obtain⟨hp,g,d,tk,os⟩:=s0
  obtain⟨h1,h2,h⟩:=h
  have hsub:=sub_zip
  have h2':(hp.push (itO "list_iterator" l1)).IsList l2 ys:=by
   obtain⟨o,e,r⟩:=h2
   exact⟨o,Heap.get?_push_of_some _ e,r⟩
  have hz1:(hp.push (itO "list_iterator" l1)).objs.size=hp.objs.size+1:=Heap.size_push ..
  have hJ1:∀{Q:Value->Shared->Prop}{E:Value->Shared->Prop},Q (.ref hp.objs.size) ⟨hp.push (itO "list_iterator" l1),g,d,tk,os⟩->wpAny (model pr w) A.in1 (pyIter (.ref l1)) Q E ⟨hp,g,d,tk,os⟩:=fun {Q E} q=>wpAny_pyIter_list h1 q
  have hJ2:∀{Q:Value->Shared->Prop}{E:Value->Shared->Prop},Q (.ref (hp.push (itO "list_iterator" l1)).objs.size) ⟨(hp.push (itO "list_iterator" l1)).push (itO "list_iterator" l2),g,d,tk,os⟩->wpAny (model pr w) A.in1 (pyIter (.ref l2)) Q E ⟨hp.push (itO "list_iterator" l1),g,d,tk,os⟩:=fun {Q E} q=>wpAny_pyIter_list h2' q
  wp_walk using hJ1,hJ2
  refine⟨_,rfl,?_⟩
  simp only[Heap.size_push]
  exact h
theorem Aa(h1:s.heap.IsList l1 xs)(h2:s.heap.IsList l2 ys)(h:Q (.ref (s.heap.objs.size+4)) { s with heap:=Aj s.heap l1 l2 }) :
  wpAny (model prog w) A (call (.type "zip") [.ref l1,.ref l2] []) Q E s:=by
 have hz:((((s.heap.push (itO "list_iterator" l1)).push (itO "list_iterator" l2)).push (zTI s.heap.objs.size)).push zTO).objs.size=s.heap.objs.size+4:=by simp only[Heap.size_push]
 refine jT (Q1:=fun ob s1=>s1.TypeIs ob "zip" /\ Q ob s1) F.called_zip (F.typeCall_zip_2 _ _) (F.newCall_zip_2 _ _) F.entry_zip_new F.entry_object_init (Go l1 l2 xs ys) ⟨h1,h2,?_⟩ fun ob s1 hq=>⟨hq.1,?_,_,DQ F.called_zip.init.lookup F.called_zip.made (by decide),hq.1,rfl,hq.2⟩
 ·have:=Heap.get?_push_size ((((s.heap.push (itO "list_iterator" l1)).push (itO "list_iterator" l2)).push (zTI s.heap.objs.size)).push zTO) (o:=zO s.heap.objs.size) rfl
  rw[hz]at this
  exact⟨⟨_,this,rfl⟩,h⟩
 ·exact F.args_object_init_3 _ _ _
variable{X:Cx}{T:Tb}{W:Nat->St->Hp->Prop}{Z:Zn}{F F1 B L:Addr->Prop}{H H1:Hp}{σ:St}{env:En}{pins:List (Addr×Obj)}
theorem t8{fp:List Addr}(I:L2.Inv X pins σ H s)(hf:∀b∈fp,lh X pins H b)(k:∀b o,b∉fp->s.heap.get? b=some o->h'.get? b=some o) :
  L2.Inv X pins σ H { s with heap:=h',toks:=t' }:=by
 have nit:∀b u,H b=some u->b∉fp:=fun b u e z=>by rw[(hf b z).1]at e;cases e
 refine I.step (g':=s.gens) (d':=s.drawn) (ch:=fp) (fun b hb=>?_) (fun b o _ _ hc e _=>k b o hc e) (fun b o _ _ hc e _=>⟨o.slots,k b o hc e⟩) (fun _ _ _ _ n=>n) (fun b o hc e=>⟨o,k b o hc e⟩)
  (fun _ _ e=>e) (fun _ _ _ e=>e) (fun b ps e=>⟨#[],by rw[e];simp⟩) (fun m hm=>?_) (fun b u e=>?_) I.bare
 ·obtain⟨_,q1,_,q3,q4,q5⟩:=hf b hb
  exact⟨q3,q1,q4,q5⟩
 ·obtain⟨o,es,ep,ho,r⟩:=hm
  exact⟨o,es,ep,k _ o (fun z=>(hf _ z).2.1 rfl) ho,r⟩
 ·refine(I.hok b u e).stay (fun c v hc q=>k c v ?_ q) (fun _ q=>q) fun _ _ q=>q
  rcases hc with z | z
  ·rw[z];exact nit b u e
  ·exact nit c _ z
def Itz(K:PySem.W.Frag)(l1 l2:Addr):It :=
  ⟨fun i H=>∃ xs ys x y,SqL K H l1 xs/\SqL K H l2 ys/\xs[i]?=some x/\ys[i]?=some y,
   fun i H v H'=>∃p x y,H p=none/\v=.ref p/\H'=upd H p (.tup [x,y])/\(∀xs,SqL K H l1 xs->xs[i]?=some x)/\∀ys,SqL K H l2 ys->ys[i]?=some y,
   fun i H=>∃xs ys,SqL K H l1 xs/\SqL K H l2 ys/\(xs.length<=i\/ys.length<=i)⟩
theorem jp{h h':Heap}{it l:Addr}{i:Nat}(a:h.IsListIter it l i)(k:∀o,h.get? it=some o->h'.get? it=some o):h'.IsListIter it l i:=by
 obtain⟨o,e,r⟩:=a
 exact⟨o,k o e,r⟩
theorem uE{P:Program}{w:World}{K:PySem.W.Frag}{els:List Expr}{x1}(l1 l2 z ti to i1 i2:Addr)(D:ZipApart z ti to i1 i2 l1 l2) :
  qX P w K (.Tuple els x1 tpos) (Itz K l1 l2) [z,ti,to,i1,i2] z (fun i h=>IsZip h z ti to .none/\IsPair h ti (.ref i1) (.ref i2)/\(∃a b,IsPair h to a b)/\h.IsListIter i1 l1 i/\h.IsListIter i2 l2 i) where
 mem:=by simp
 obj:=fun i h st b hb=>by
  obtain⟨hz,ht,⟨a',b',ho⟩,h1,h2⟩:=st
  simp only[List.mem_cons,List.not_mem_nil,or_false]at hb
  rcases hb with rfl | rfl | rfl | rfl | rfl
  ·exact⟨_,hz,fun v z=>by cases z⟩
  ·exact⟨_,ht,fun v z=>by cases z⟩
  ·exact⟨_,ho,fun v z=>by cases z⟩
  ·obtain⟨o,e,c,d⟩:=id h1
   exact⟨o,e,fun v z=>by rw[d]at z;cases z⟩
  ·obtain⟨o,e,c,d⟩:=id h2
   exact⟨o,e,fun v z=>by rw[d]at z;cases z⟩
 keep:=fun i h h' st k=>by
  obtain⟨hz,ht,⟨a',b',ho⟩,h1,h2⟩:=st
  exact⟨k z (by simp) _ hz,k ti (by simp) _ ht,⟨a',b',k to (by simp) _ ho⟩,jp h1 (k i1 (by simp)),jp h2 (k i2 (by simp))⟩
 item:=by
  intro X hP hw hK hc i pins s σ H E I hf stt hg
  subst hP hw hK
  obtain⟨hz,ht,⟨a',b',ho⟩,h1,h2⟩:=stt
  obtain⟨xs,ys,x,y,hq1,hq2,hx,hy⟩:=hg
  obtain⟨its1,rv1,pl1,_⟩:=I.list hq1
  obtain⟨its2,rv2,pl2,_⟩:=I.list hq2
  obtain⟨u1,hu1,ru1⟩:=rv1.get hx
  obtain⟨u2,hu2,ru2⟩:=rv2.get hy
  refine wpAny_pyNext_zip_item D hz ht ho h1 h2 pl1.isList pl2.isList (x:=u1) (y:=u2) (by simpa using hu1) (by simpa using hu2) fun h' z' to' i1' i2' pr sz kp=>?_
  refine⟨_,rfl,wpAny_letOwnedTupleGo_zip z' fun h3 z3 s3=>?_⟩
  replace s3:Heap.SameBut z h' h3:=s3
  have ltz:z < s.heap.objs.size:=Heap.lt_size hz
  have kp2:∀b o,b∉[z,ti,to,i1,i2]->s.heap.get? b=some o->h3.get? b=some o:=fun b o hb q=>by
   simp only[List.mem_cons,List.not_mem_nil,or_false,not_or]at hb
   exact s3.extBut b o hb.1 (kp b o hb.1 hb.2.2.1 hb.2.2.2.1 hb.2.2.2.2 q)
  have tu2:h3.get? s.heap.objs.size=some { cls:=.type "tuple", data:=.seq #[u1,u2] }:=s3.extBut _ _ (Nat.ne_of_gt ltz) pr
  refine⟨.ref s.heap.objs.size,upd H s.heap.objs.size (.tup [x,y]),(lZ (h':=h3) (t':=s.toks) (vs:=[x,y]) I hf kp2 (Nat.le_refl _) ⟨by rw[sizeLine_eq];simp,[u1,u2],.cons ru1 (.cons ru2 .nil),⟨_,tu2,rfl,_,rfl⟩⟩ :),rfl,⟨_,x,y,I.hok.fresh (Nat.le_refl _),rfl,rfl,fun zs hz=>by rw[I.list_inj hz hq1];exact hx,fun zs hz=>by rw[I.list_inj hz hq2];exact hy⟩,⟨z3,s3.extBut ti _ D.TIz (kp ti _ D.TIz D.TITO D.TIi1 D.TIi2 ht),⟨_,_,s3.extBut to _ D.TOz to'⟩,jp i1' fun o q=>s3.extBut i1 o D.i1z q,jp i2' fun o q=>s3.extBut i2 o D.i2z q⟩,fun b hb=>?_⟩
  have:b < s.heap.objs.size:=by
   simp only[List.mem_cons,List.not_mem_nil,or_false]at hb
   rcases hb with rfl | rfl | rfl | rfl | rfl
   ·exact ltz
   ·exact Heap.lt_size ht
   ·exact Heap.lt_size ho
   ·obtain⟨o,e,_⟩:=id h1;exact Heap.lt_size e
   ·obtain⟨o,e,_⟩:=id h2;exact Heap.lt_size e
  rw[aP (Nat.ne_of_lt this)]
  exact(hf b hb).1
 done:=by
  intro X hP hw hK hc i pins s σ H E I hf stt hg
  subst hP hw hK
  obtain⟨hz,ht,⟨a',b',ho⟩,h1,h2⟩:=stt
  obtain⟨xs,ys,hq1,hq2,hx⟩:=hg
  obtain⟨its1,rv1,pl1,_⟩:=I.list hq1
  obtain⟨its2,rv2,pl2,_⟩:=I.list hq2
  have l1':=rv1.length
  have l2':=rv2.length
  refine wpAny_pyNext_zip_end (I.ok.hd hc) D hz ht ho h1 h2 pl1.isList pl2.isList (by simp;omega) fun h' kp=>⟨rfl,t8 (t':=s.toks) I hf fun b o hb q=>?_⟩
  simp only[List.mem_cons,List.not_mem_nil,or_false,not_or]at hb
  exact kp b o hb.1 hb.2.2.1 hb.2.2.2.1 hb.2.2.2.2 q
 self:=fun _ _ _ _ _ st h=>wpAny_pyIter_zip st.1 h
theorem CO:bootBuiltins "zip" = some (.type "zip"):=by decide +kernel
theorem Bb{x1}(hg:Gl X "zip")(hm:X.mg "zip" = none)(ha:PA X [a,b] ta)(hs:starEach [a,b] X.env=[(false,eval a X.env),(false,eval b X.env)]:=by rfl)(hs2:starEach [b] X.env=[(false,eval b X.env)]:=by rfl) :
  PI X (.Tuple els x1 tpos) (.Call (.Name "zip" p) [a,b] [] pos) (fun σ H R=>ta σ H fun vs H1=>∃l1 l2 xs ys,vs=[V.ref l1,V.ref l2]/\SqL X.K H1 l1 xs/\SqL X.K H1 l2 ys/\R (Itz X.K l1 l2) H1):=by
 intro pins s σ H R I h
 refine PyProof.Rows.Call_ (fv I hg hm CO (PyProof.Rows.callWith_type1 (thn (ha pos pins s σ H _ I h) fun us s1 ⟨vs,H1,I1,r1,q1⟩=>?_) (by rw[hs,hs2]) (by rw[hs2];rfl)))
 obtain⟨l1,l2,xs,ys,e,hq1,hq2,q⟩:=q1
 subst e
 cases r1 with
 | cons r rr =>
  cases rr with
  | cons r' rr =>
   cases rr
   cases r
   cases r'
   obtain⟨its1,rv1,pl1,_⟩:=I1.list hq1
   obtain⟨its2,rv2,pl2,_⟩:=I1.list hq2
   have hl1:l1 < s1.heap.objs.size:=by obtain⟨o,e,_⟩:=id pl1.isList;exact Heap.lt_size e
   have hl2:l2 < s1.heap.objs.size:=by obtain⟨o,e,_⟩:=id pl2.isList;exact Heap.lt_size e
   have z1:(s1.heap.push (itO "list_iterator" l1)).objs.size=s1.heap.objs.size+1:=Heap.size_push ..
   have z2:((s1.heap.push (itO "list_iterator" l1)).push (itO "list_iterator" l2)).objs.size=s1.heap.objs.size+2:=by simp only[Heap.size_push]
   have z3:(((s1.heap.push (itO "list_iterator" l1)).push (itO "list_iterator" l2)).push (zTI s1.heap.objs.size)).objs.size=s1.heap.objs.size+3:=by simp only[Heap.size_push]
   have z4:((((s1.heap.push (itO "list_iterator" l1)).push (itO "list_iterator" l2)).push (zTI s1.heap.objs.size)).push zTO).objs.size=s1.heap.objs.size+4:=by simp only[Heap.size_push]
   have e4:=Heap.get?_push_size ((((s1.heap.push (itO "list_iterator" l1)).push (itO "list_iterator" l2)).push (zTI s1.heap.objs.size)).push zTO) (o:=zO s1.heap.objs.size) rfl
   have e3:=Heap.get?_push_size (((s1.heap.push (itO "list_iterator" l1)).push (itO "list_iterator" l2)).push (zTI s1.heap.objs.size)) (o:=zTO) rfl
   have e2:=Heap.get?_push_size ((s1.heap.push (itO "list_iterator" l1)).push (itO "list_iterator" l2)) (o:=zTI s1.heap.objs.size) rfl
   have e1:=Heap.get?_push_size (s1.heap.push (itO "list_iterator" l1)) (o:=itO "list_iterator" l2) rfl
   have e0:=Heap.get?_push_size s1.heap (o:=itO "list_iterator" l1) rfl
   rw[z4]at e4
   rw[z3]at e3
   rw[z2]at e2
   rw[z1]at e1
   refine Aa pl1.isList pl2.isList (wpAny_pyIter_zip (f0:=.none) e4 ?_)
   refine⟨s1.heap.objs.size+4,[s1.heap.objs.size+4,s1.heap.objs.size+2,s1.heap.objs.size+3,s1.heap.objs.size,s1.heap.objs.size+1],_,_,H1,rfl,I1.kept (t':=s1.toks) fun b o e=>Heap.get?_push_of_some _ (Heap.get?_push_of_some _ (Heap.get?_push_of_some _ (Heap.get?_push_of_some _ (Heap.get?_push_of_some _ e)))),uE l1 l2 _ _ _ _ _ (PyProof.Rows.zipApart_new hl1 hl2),⟨e4,Heap.get?_push_of_some _ (Heap.get?_push_of_some _ e2),⟨.none,.none,Heap.get?_push_of_some _ e3⟩,⟨_,Heap.get?_push_of_some _ (Heap.get?_push_of_some _ (Heap.get?_push_of_some _ (Heap.get?_push_of_some _ e0))),rfl,rfl⟩,⟨_,Heap.get?_push_of_some _ (Heap.get?_push_of_some _ (Heap.get?_push_of_some _ e1)),rfl,rfl⟩⟩,fun b hb=>?_,q⟩
   simp only[List.mem_cons,List.not_mem_nil,or_false]at hb
   have hb':s1.heap.objs.size<=b:=by rcases hb with rfl | rfl | rfl | rfl | rfl<;>omega
   exact I1.fpOk hb' (I1.hok.fresh hb')
end
def gx:List PV->List PV->List PV
 | x::xs,y::ys=>.tup [x,y]::gx xs ys
 | _,_=>[]
theorem n_:∀(xs ys:List PV) (i:Nat) {p:PV},(gx xs ys)[i]?=some p->∃x y,xs[i]?=some x/\ys[i]?=some y/\p=.tup [x,y]
 | [],_,i,_,h | _::_,[],i,_,h=>by simp[gx]at h
 | x::xs,y::ys,0,p,h=>by
  simp only[gx,List.getElem?_cons_zero]at h
  exact⟨x,y,rfl,rfl,(Option.some.inj h).symm⟩
 | x::xs,y::ys,i+1,p,h=>by
  simp only[gx,List.getElem?_cons_succ]at h
  exact n_ xs ys i h
theorem n9:∀(xs ys:List PV),(gx xs ys).length=min xs.length ys.length
 | [],_ | _::_,[]=>by simp[gx]
 | _::xs,_::ys=>by simp only[gx,List.length_cons,n9 xs ys];omega
def Hq(ms:MA):MI:=fun env=>(ms env).bind fun zs=>match zs with
 | [.lst f xs,.lst g ys]=>if !f.isLnt&&!g.isLnt&&dJ xs&&dJ ys then .ok (gx xs ys)else .stuck
 | _=>.stuck
def jf(ms:MA):MI:=fun env=>(ms env).bind fun zs=>match zs with
 | [.lst _ xs,.lst _ ys]=>if dJ xs&&dJ ys then .ok (gx xs ys)else .stuck
 | _=>.stuck
section
variable{X:Cx}{T:Tb}{W:Nat->St->Hp->Prop}{Z:Zn}{F F1 B L:Addr->Prop}{H H1:Hp}{σ:St}{env:En}{fp:Nat->List Addr}
theorem sW(hp:H2 p=none)(r:Rel T F B L H2 x v [])(r':Rel T F B L H2 y u []):Rel T F B L (upd H2 p (.tup [v,u])) (.tup [x,y]) (.ref p) []:=by
 unfold Rel
 refine⟨p,_,rfl,SqT.of bM,?_⟩
 have r1:Rel T F B L (upd H2 p (.tup [v,u])) x v []:=r.ext (Ext.upd hp) fun _ h=>h
 have r2:Rel T F B L (upd H2 p (.tup [v,u])) y u []:=r'.ext (Ext.upd hp) fun _ h=>h
 unfold RelL
 refine⟨v,[u],[],[],rfl,r1,?_,rfl⟩
 unfold RelL
 exact⟨u,[],[],[],rfl,r2,by unfold RelL;exact⟨rfl,rfl⟩,by simp⟩
theorem sf{xs:List PV}{vs:List V}{i:Nat}{x:PV}(h:RelL T F B L H xs vs [])(e:xs[i]?=some x):∃v,vs[i]?=some v/\Rel T F B L H x v []:=by
 obtain⟨v,f,ev,rv,sl⟩:=h.get e
 have:f=[]:=List.eq_nil_of_sublist_nil sl
 subst this
 exact⟨v,ev,rv⟩
theorem mV{els:List Expr}{x1}(hK:X.K=T.K)(hg:Gl X "zip")(hm:X.mg "zip" = none)(ha:SA X T W [a,b] ms)(hs:starEach [a,b] X.env=[(false,eval a X.env),(false,eval b X.env)]:=by rfl)(hs2:starEach [b] X.env=[(false,eval b X.env)]:=by rfl) :
  SIc X T W (.Tuple els x1 tpos) (.Call (.Name "zip" p) [a,b] [] pos) (jf ms):=fun pins s σ H R I h=>Bb hg hm ha hs hs2 pins s σ H R I (by
 obtain⟨Z,F,env,fp,S,q⟩:=h
 unfold jf at q
 refine tA.bind S (fun c e=>by rw[e]at q;exact q) (fun e=>by rw[e]at q;exact q) fun zs vs H1 F1 f1 e1 g1 r1 n1 d1 w1=>?_
 rw[e1]at q
 simp only[Res.ok_bind]at q
 split at q
 ·rename_i f xs g ys
  split at q
  ·rename_i hc
   rw[Bool.and_eq_true]at hc
   unfold RelL at r1
   obtain⟨v1,ws,f2,f3,rfl,ra,rb,_⟩:=r1
   obtain⟨v2,rfl,rc⟩:=rb.one
   unfold Rel at ra rc
   obtain⟨a1,us,fp1,rfl,hl1,hr1,_⟩:=ra
   obtain⟨a2,ws,fp2,rfl,hl2,hr2,_⟩:=rc
   obtain⟨rfl,_⟩:=dy hc.1 hr1
   obtain⟨rfl,_⟩:=dy hc.2 hr2
   rw[hK]
   refine⟨a1,a2,us,ws,rfl,hl1.sq,hl2.sq,q _ H1 F1 g1 fun H2 hx=>?_⟩
   have up:∀{a:Addr}{us:List V},SqL T.K H1 a us->SqL T.K H2 a us:=fun {a us} hs=>by
    rcases hs with z | z
    ·exact .inl (Rd.tr (fun o q=>hx a o q) z)
    ·exact .inr z
   have s1:=up hl1.sq
   have s2:=up hl2.sq
   have ln1:=hr1.length
   have ln2:=hr2.length
   refine⟨fun i x ex=>?_,⟨us,ws,s1,s2,by rw[n9];omega⟩⟩
   obtain⟨x1,y1,ex1,ey1,rfl⟩:=n_ xs ys i ex
   obtain⟨v,ev,rv⟩:=sf hr1 ex1
   obtain⟨u,eu,ru⟩:=sf hr2 ey1
   refine⟨⟨us,ws,v,u,s1,s2,ev,eu⟩,fun w H3 hy=>?_⟩
   obtain⟨p,v',u',hp,rfl,rfl,hall1,hall2⟩:=hy
   have q1:=hall1 us s1
   have q2:=hall2 ws s2
   rw[ev]at q1
   rw[eu]at q2
   cases q1
   cases q2
   exact⟨Ext.upd hp,[],fun b hb=>(nomatch hb),sW hp (rv.ext hx fun _ h=>h) (ru.ext hx fun _ h=>h)⟩
  ·exact q.elim
 ·exact q.elim)
def uY{α:Type}(k:Nat)(xs:List α):List α:=(List.replicate k xs).flatten
def tD:PV->PV->Res PV
 | .lst .own xs,.int k=>if dJ xs&&decide (0<=k/\k<=1000000)&&decide (xs.length * k.toNat<=10000000)then .ok (.lst .own (uY k.toNat xs))else .stuck
 | _,_=>.stuck
theorem RelL.rep(r:RelL T F B L H xs vs []):∀k:Nat,RelL T F B L H (uY k xs) (uY k vs) []
 | 0=>gm F B L H
 | k+1=>by
  have:=RelL.append r (RelL.rep r k)
  simpa[uY,List.replicate_succ]using this
theorem zr:io T W tD Ec:=by
 intro B F L σ H Q F' H' x y v u fx fy g rx ry nf nd new q
 cases x with
 | lst f xs =>
  cases f with
  | own =>
   cases y with
   | int k =>
    simp only[tD]at q
    split at q
    ·rename_i hc
     simp only[Bool.and_eq_true,decide_eq_true_eq]at hc
     obtain⟨⟨c1,c2⟩,c3⟩:=hc
     unfold Rel at rx ry
     obtain⟨a,vs,fp1,rfl,hl1,hr1,hf1⟩:=rx
     obtain⟨rfl,rfl⟩:=ry
     obtain⟨rfl,_⟩:=dy c1 hr1
     have ln:=hr1.length
     refine⟨a,k,vs,rfl,rfl,hl1,by omega,by omega,by rw[<- ln,sizeLine_eq];omega,?_⟩
     exact GE.newL q g (RelL.rep hr1 k.toNat) (fun b hb=>(nomatch hb)) List.nodup_nil (fun b hb=>(nomatch hb))
    ·exact q.elim
   | _=>exact q.elim
  | _=>cases y<;>exact q.elim
 | _=>exact q.elim
theorem AU(ha:SE X T W a ma)(hb:SE X T W b mb):SE X T W (.BinOp a .Mult b pos) (mOp tD ma mb):=jY Bq zr ha hb
variable{prog:Program}{w:World}{A:Around}{R:Result->Shared->Prop}{ia:Addr}{fps wrs:List Addr}{len:Nat}{Pv:Nat->Value->Prop}{Sv:Nat->Heap->Prop}
abbrev yw(xs:Array Value)(c:Nat):Obj:={ cls:=.type "list", dict:=none,data:=.seq xs c,slots:=#[] }
theorem jl:(toString "min"++toString ".loop" : String)= "min.loop" := by decide
theorem qz(kw:List (Str×Value))(Wk:Walks prog w A.in1 ia fps wrs len Pv Sv)(lt:Nat->Nat->Bool)(hc:CmpOf prog w A.in1 .Lt Pv lt)(best:Addr)(nb:best∉fps) :
  ∀(left j:Nat) (sh:Shared) (u:Value) (cap:Nat),len - (j+1)=left->j+1<=len->Sv (j+1) sh.heap->Pv (argBest lt j) u->sh.heap.get? best=some (yw #[u,u] cap)->
   (∀v h' tk,Pv (argBest lt (len - 1)) v->(∀b o,b∉wrs->b≠best->sh.heap.get? b=some o->h'.get? b=some o)->R (.ok (.ret v)) { sh with heap:=h',toks:=tk })->codeAny (model prog w) A (.builtin "min.loop" ⟨[.ref ia,.none,.ref best],kw⟩) R sh
 | 0,j,sh,u,cap,e1,e2,st,pu,ob,fin=>by
  have nw:best∉wrs:=fun z=>nb (Wk.sub _ z)
  have ej:j+1=len:=by omega
  refine codeAny_builtin F.entry_min_loop ?_;rw[Around.under_plainId F.plain_min_loop _];refine(show wpAny _ A.in1 (seqItems? (.ref best) >>= _) _ _ sh from wpAny_bind (wpAny_seqItems ob rfl ?_))
  refine(show wpAny _ A.in1 (tryCatch (pyNext (.ref ia)) _ >>= _) _ _ sh from wpAny_bind (wpAny_tryCatch (Wk.done sh _ _ (ej▸st) fun h' tk kp=>?_)))
  refine(show wpAny _ A.in1 (updateSeq best (fun _=>#[]) >>= _) _ _ _ from wpAny_bind (wpAny_updateSeq (kp best _ nw ob) rfl (wpAny_bind (wpAny_letGo (wpAny_pure ?_)))))
  exact fin u _ tk (by rw[<- ej];exact pu) fun b o q1 q2 e=>(Heap.get?_update_other _ _ (Ne.symm q2)).trans (kp b o q1 e)
 | left+1,j,sh,u,cap,e1,e2,st,pu,ob,fin=>by
  have nw:best∉wrs:=fun z=>nb (Wk.sub _ z)
  have lj:j+1 < len:=by omega
  refine codeAny_builtin F.entry_min_loop ?_;rw[Around.under_plainId F.plain_min_loop _];refine(show wpAny _ A.in1 (seqItems? (.ref best) >>= _) _ _ sh from wpAny_bind (wpAny_seqItems ob rfl ?_))
  refine(show wpAny _ A.in1 (tryCatch (pyNext (.ref ia)) _ >>= _) _ _ sh from wpAny_bind (wpAny_tryCatch (Wk.item (j+1) sh _ _ lj st fun v h' tk pv st' kp=>?_)))
  have ob':=kp best _ nw ob
  refine(show wpAny _ A.in1 (tryCatch (holding [v,v] (richCompare .Lt v u >>= _)) _ >>= _) _ _ _ from wpAny_bind (wpAny_tryCatch (wpAny_holding (wpAny_bind (hc (j+1) (argBest lt j) v u _ _ _ pv pu (wpAny_bind (wpAny_holding (wpAny_truthy_bool (wpAny_bind (wpAny_letGo (wpAny_pure ?_)))))))))))
  by_cases yes:lt (j+1) (argBest lt j)=true
  ·rw[yes];simp only[if_true]
   refine wpAny_bind (wpAny_updateSeq ob' rfl (wpAny_bind (wpAny_letGo ?_)));rw[jl]
   refine wpAny_pure ⟨plainId_quiet F.plain_min_loop _,qz kw Wk lt hc best nb left (j+1) _ v _ (by omega) lj (Wk.frame _ _ _ st' fun b hb o e=>(Heap.get?_update_other _ _ (fun z:best=b=>nb (z▸hb))).trans e) (by simp only[argBest,yes,if_true];exact pv) (Heap.get?_update_self _ ob' rfl) fun v' h2 t2 pv' kp2=>?_⟩
   exact fin v' h2 t2 pv' fun b o q1 q2 e=>kp2 b o q1 q2 ((Heap.get?_update_other _ _ (Ne.symm q2)).trans (kp b o q1 e))
  ·have no:lt (j+1) (argBest lt j)=false:=by simpa using yes
   rw[no];simp only[Bool.false_eq_true,if_false]
   refine wpAny_bind (wpAny_letGo ?_);rw[jl]
   refine wpAny_pure ⟨plainId_quiet F.plain_min_loop _,qz kw Wk lt hc best nb left (j+1) _ u cap (by omega) lj st' (by simp only[argBest,no,Bool.false_eq_true,if_false];exact pu) ob' fun v' h2 t2 pv' kp2=>?_⟩
   exact fin v' h2 t2 pv' fun b o q1 q2 e=>kp2 b o q1 q2 (kp b o q1 e)
theorem zx(kw:List (Str×Value))(Wk:Walks prog w A.in1 ia fps wrs len Pv Sv)(lt:Nat->Nat->Bool)(hc:CmpOf prog w A.in1 .Lt Pv lt)(best:Addr)(nb:best∉fps)(pos:0 < len)(st:Sv 0 sh.heap)(ob:sh.heap.get? best=some (yw #[] cap))
  (fin:∀v h' tk,Pv (argBest lt (len - 1)) v->(∀b o,b∉wrs->b≠best->sh.heap.get? b=some o->h'.get? b=some o)->R (.ok (.ret v)) { sh with heap:=h',toks:=tk }):codeAny (model prog w) A (.builtin "min.loop" ⟨[.ref ia,.none,.ref best],kw⟩) R sh:=by
 have nw:best∉wrs:=fun z=>nb (Wk.sub _ z)
 refine codeAny_builtin F.entry_min_loop ?_;rw[Around.under_plainId F.plain_min_loop _];refine(show wpAny _ A.in1 (seqItems? (.ref best) >>= _) _ _ sh from wpAny_bind (wpAny_seqItems ob rfl ?_))
 refine(show wpAny _ A.in1 (tryCatch (pyNext (.ref ia)) _ >>= _) _ _ sh from wpAny_bind (wpAny_tryCatch (Wk.item 0 sh _ _ pos st fun v h' tk pv st' kp=>?_)))
 have ob':=kp best _ nw ob
 refine(show wpAny _ A.in1 (updateSeq best (fun _=>#[v,v]) >>= _) _ _ _ from wpAny_bind (wpAny_updateSeq ob' rfl ?_));rw[jl]
 refine wpAny_pure ⟨plainId_quiet F.plain_min_loop _,qz kw Wk lt hc best nb _ 0 _ v _ rfl pos (Wk.frame _ _ _ st' fun b hb o e=>(Heap.get?_update_other _ _ (fun z:best=b=>nb (z▸hb))).trans e) pv (Heap.get?_update_self _ ob' rfl) fun v' h2 t2 pv' kp2=>?_⟩
 exact fin v' h2 t2 pv' fun b o q1 q2 e=>kp2 b o q1 q2 ((Heap.get?_update_other _ _ (Ne.symm q2)).trans (kp b o q1 e))
theorem B1(Wk:Walks prog w A.in1 ia fps wrs 0 Pv Sv)(best:Addr)(nb:best∉fps)(st:Sv 0 sh.heap)(ob:sh.heap.get? best=some (yw #[] cap))
  (fin:∀h' tk,(∀b o,b∉wrs->sh.heap.get? b=some o->h'.get? b=some o)->R (.ok (.ret d)) { sh with heap:=h',toks:=tk }):codeAny (model prog w) A (.builtin "min.loop" ⟨[.ref ia,.none,.ref best],[(dn,d)]⟩) R sh:=by
 refine codeAny_builtin F.entry_min_loop ?_;rw[Around.under_plainId F.plain_min_loop _];refine(show wpAny _ A.in1 (seqItems? (.ref best) >>= _) _ _ sh from wpAny_bind (wpAny_seqItems ob rfl ?_))
 refine(show wpAny _ A.in1 (tryCatch (pyNext (.ref ia)) _ >>= _) _ _ sh from wpAny_bind (wpAny_tryCatch (Wk.done sh _ _ st fun h' tk kp=>?_)))
 exact wpAny_bind (wpAny_rule (wpAny_pure (fin h' tk kp)))
variable{E:Value->Shared->Prop}{s:Shared}
theorem xZ(y d:Value):argsOk "min" ⟨[y],[(Str.ofString "default", d)]⟩:=by
 unfold argsOk
 kernel_rfl
theorem pO
  (h:wpAny (model prog w) A.in1 (pyIter x) (fun it s2=>∃ ia fps wrs len Pv Sv lt,it=.ref ia/\Walks prog w A.in1 ia fps wrs len Pv Sv/\Sv 0 s2.heap/\(∀ b ∈ fps,b < s2.heap.objs.size)/\CmpOf prog w A.in1 .Lt Pv lt /\
   ∀v h' tk,(len=0/\v=d\/0 < len/\Pv (argBest lt (len - 1)) v)->(∀b o,b∉wrs->s2.heap.get? b=some o->h'.get? b=some o)->Q v { s2 with heap:=h',toks:=tk }) E s) :
  wpAny (model prog w) A (call (.builtin "min") [x] [(Str.ofString "default", d)]) Q E s:=by
 refine PyProof.Rows.kmk_tree F.kind_min F.plain_min F.entry_min (xZ _ _) ?_
 refine(show wpAny _ A.in1 (Builtin.Builtins.bindParams "min" ["key", "default"] 0 ⟨[],[(Str.ofString "default", d)]⟩ >>= _) _ _ s from wpAny_bind (wpAny_of_eq (a:=[none,some d]) (by kernel_rfl) (wpAny_bind (wpAny_pure (wpAny_bind (wpAny_mono h (fun it s2 q=>?_) fun _ _ e=>e))))))
 obtain⟨ia,fps,wrs,len,Pv,Sv,lt,rfl,Wk,st,hf,hc,fin⟩:=q
 refine wpAny_bind (wpAny_newObj_type ?_);rw[jl]
 have nb:s2.heap.objs.size∉fps:=fun z=>Nat.lt_irrefl _ (hf _ z)
 have st':=Wk.frame _ _ (s2.heap.push (yw #[] 0)) st fun b _ o e=>Heap.get?_push_of_some _ e
 refine wpAny_pure ⟨plainId_quiet F.plain_min_loop _,?_⟩
 by_cases pos:0 < len
 ·exact zx _ Wk lt hc s2.heap.objs.size nb pos st' (Heap.get?_push_size _ rfl) fun v h' tk pv kp=>fin v h' tk (.inr ⟨pos,pv⟩) fun b o q e=>kp b o q (Nat.ne_of_lt (Heap.lt_size e)) (Heap.get?_push_of_some _ e)
 ·have z:len=0:=by omega
  subst z
  exact B1 Wk s2.heap.objs.size nb st' (Heap.get?_push_size _ rfl) fun h' tk kp=>fin d h' tk (.inl ⟨rfl,rfl⟩) fun b o q e=>kp b o q (Heap.get?_push_of_some _ e)
variable{pins:List (Addr×Obj)}
theorem pN{M:Model}{A:Around}{E:Value->Shared->Prop}{s:Shared}{env:Env}{id:String}{a_:List Expr}{kws:List Keyword}{Q:Value->Shared->Prop}
  (h:wpAny M A (spliced (backTo pos (starEach (e::a_) env))) (fun vs s1=>wpAny M A (evalAll ((backToKw pos (keywordEach kws env)).map (·.2))) (fun ks s2=>wpAny M A (call (.builtin id) vs (((backToKw pos (keywordEach kws env)).filterMap (·.1)).zip ks)) Q E s2) E s1) E s)
  (hall:(backToKw pos (keywordEach kws env)).all (·.1.isSome)=true:=by rfl) (hkw:(backToKw pos (keywordEach kws env)).any (·.1.isNone)=false:=by rfl)
  (he:starEach (e::a_) env=(false,eval e env)::starEach a_ env:=by rfl) (hpl:(backTo pos (starEach (e::a_) env)).any (·.1)=false:=by rfl) :
  wpAny M A (callWith pos (.builtin id) [] (backTo pos (starEach (e::a_) env)) (backToKw pos (keywordEach kws env))) Q E s:=by
 unfold callWith
 refine wpAny_bind (wpAny_holding (wpAny_mono (PyProof.Rows.evalArgs_kw2 (Q:=fun a s1=>wpAny M A (call (.builtin id) ([]++ a.pos) a.kw) Q E s1) hall h he) (fun a s1 h1=>wpAny_bind (wpAny_standAt ?_)) fun _ _ x=>x))
 simp only[hpl,hkw,Bool.or_false]
 exact wpAny_bind (wpAny_pure (wpAny_bind (wpAny_mono h1 (fun r s2 hr=>wpAny_bind (wpAny_holding (wpAny_point (wpAny_pure hr)))) fun _ _ x=>x)))
def Eu(vs:List V)(P:V->Prop):Prop:=match vs with
 | [v]=>P v
 | _=>False
theorem zi(h:Eu vs P):∃v,vs=[v]/\P v:=by
 match vs,h with
 | [v],h=>exact⟨v,rfl,h⟩
def v3(ns:List Int):V:=if ns.isEmpty then .non else .int (eX ns)
def u6(K:PySem.W.Frag):V->Hp->VK->Prop:=fun v H Q=>∃p ns,v=.ref p/\(SqL K H p (ns.map V.int)\/ SqT K H p (ns.map V.int))/\Q (v3 ns) H
theorem um(hc:X.calm=true)(I:L2.Inv X pins σ H s)(hq:SqL X.K H p (ns.map V.int)\/ SqT X.K H p (ns.map V.int))(q:Q (v3 ns) H):wpAny (model X.prog X.w) X.A (call (.builtin "min") [.ref p] [(Str.ofString "default", .none)]) (EP X pins σ Q) X.xe s:=by
 have hh:=I.ok.hd hc
 have key:∀{its:List Value},aJ (ns.map V.int) its->∀{v:Value}{h':Heap}{tk:Nat},(its.toArray.size=0/\v=.none\/0 < its.toArray.size/\its.toArray[argBest (fun i j=>decide (ns.getD i 0 < ns.getD j 0)) (its.toArray.size - 1)]?=some v)->(∀b o,s.heap.get? b=some o->h'.get? b=some o)->EP X pins σ Q v { s with heap:=h',toks:=tk }:=by
  intro its r v h' tk hv k
  have hl:its.toArray.size=ns.length:=by
   have:=r.length
   simpa using this.symm
  rw[hl]at hv
  rcases hv with⟨h0,rfl⟩ |⟨hn,hv⟩
  ·have e:ns=[]:=List.length_eq_zero_iff.mp h0
   subst e
   exact⟨.non,H,eV I k,rfl,q⟩
  ·obtain⟨t,rfl⟩:=dz r _ _ hv
   rw[pP hn]
   have e:v3 ns=.int (eX ns):=by
    unfold v3
    rw[if_neg]
    intro z
    have:ns=[]:=by simpa using z
    rw[this]at hn
    exact absurd hn (by decide)
   rw[e]at q
   exact⟨.int _,H,eV I k,⟨t,rfl⟩,q⟩
 rcases hq with hq | hq
 ·obtain⟨its,r,pl,hz⟩:=I.list hq
  obtain⟨o,ho,hcl,n,hd⟩:=pl.isList
  have hlt:=Heap.lt_size ho
  refine pO (wpAny_pyIter_list pl.isList ?_)
  refine⟨_,_,_,_,_,_,_,rfl,Walks.list (A:=X.A.in1) hh _ p (Nat.ne_of_lt hlt) its.toArray,⟨⟨_,Heap.get?_push_size _ rfl,rfl,rfl⟩,pl.isList.push _⟩,fun b hb=>?_,CmpOf.ints_lt (fun i=>ns.getD i 0) (dz r),fun v h' tk hP hk=>key r hP (cX hk)⟩
  show b <(s.heap.push _).objs.size
  rw[Heap.size_push]
  exact gC hlt rfl b hb
 ·obtain⟨its,r,pl,hz⟩:=I.tuple hq
  have pt:s.heap.IsTuple p its.toArray:=pl
  obtain⟨o,ho,hcl,n,hd⟩:=pl
  have hlt:=Heap.lt_size ho
  refine pO (wpAny_pyIter_tuple pt ?_)
  refine⟨_,_,_,_,_,_,_,rfl,Walks.tuple (A:=X.A.in1) hh _ p (Nat.ne_of_lt hlt) its.toArray,⟨⟨_,Heap.get?_push_size _ rfl,rfl,rfl⟩,pt.push _⟩,fun b hb=>?_,CmpOf.ints_lt (fun i=>ns.getD i 0) (dz r),fun v h' tk hP hk=>key r hP (cX hk)⟩
  show b <(s.heap.push _).objs.size
  rw[Heap.size_push]
  exact gC hlt rfl b hb
abbrev mdE(e:Expr)(p pos kp cp:Pos)(j:Nat):Expr:=.Call (.Name "min" p) [e] [⟨some "default", .Constant .none j cp,kp⟩] pos
theorem y8(hc:X.calm=true)(hg:Gl X "min")(hm:X.mg "min" = none)(he:PE X e te)(hs:starEach [e] X.env=[(false,eval e X.env)]:=by rfl):PE X (mdE e p pos kp cp j) (tUn (u6 X.K) te):=by
 intro pins s σ H Q I h
 refine wpAny_Call_Name_kw (fv I hg hm qV ?_ (by decide) (by decide))
 refine pN ?_ rfl rfl hs (by rw[hs];rfl)
 refine thn (dv (te:=te) he gN (by rw[hs];rfl) pos pins s σ H (fun vs H1=>Eu vs fun v=>u6 X.K v H1 Q) I h) fun us s1 hz1=>?_
 obtain⟨vs,H1,I1,r1,q1⟩:=hz1
 obtain⟨v,rfl,a,ns,rfl,hq,q⟩:=zi q1
 obtain⟨u,rfl,rx⟩:=dD r1
 cases rx
 refine thn (rO (nm:=some "default") (kpos:=kp) (vp (j:=j) (pos:=cp)) vg pos pins s1 σ H1 (fun zs H2=>zs=[.non]/\H2=H1) I1 ⟨rfl,rfl⟩) fun ws s2 hz1=>?_
 obtain⟨zs,H2,I2,r2,ez,eh⟩:=hz1
 subst ez
 rw[eh]at I2
 clear eh
 obtain⟨u2,rfl,rx2⟩:=dD r2
 cases rx2
 exact um hc I2 hq q
def lW(x:PV):Res PV:=match aQ x with
 | some xs=>(match bw xs with
  | some ns=>.ok (if ns.isEmpty then .non else .int (eX ns))
  | none=>.stuck)
 | none=>.stuck
theorem vX(hK:X.K=T.K):FB T W lW (u6 X.K):=by
 intro B F L σ H Q F' H' x v fx g rx nf nd new q
 unfold lW at q
 cases e:aQ x with
 | none=>rw[e]at q;exact q.elim
 | some xs =>
  rw[e]at q
  dsimp only at q
  cases e2:bw xs with
  | none=>rw[e2]at q;exact q.elim
  | some ns =>
   rw[e2]at q
   dsimp only at q
   obtain⟨a,us,fx',rfl,hs,hr,_⟩:=rx.seq e
   have hu:=cK e2 hr
   subst hu
   refine⟨a,ns,rfl,by rw[hK];exact hs,q.scal g ?_⟩
   unfold v3
   split
   ·unfold Rel;exact⟨rfl,rfl⟩
   ·exact fh
theorem yx(hK:X.K=T.K)(hc:X.calm=true)(hg:Gl X "min")(hm:X.mg "min" = none)(he:SE X T W e m)(hs:starEach [e] X.env=[(false,eval e X.env)]:=by rfl):SE X T W (mdE e p pos kp cp j) (mUn lW m) :=
 PE.wk (y8 hc hg hm he hs) fun _ _ _ h=>tE.mir1 (vX hK) h
end
def FT(i:Nat)(k:Int)(e:ME):MS:=fun env=>match env[i]? with
 | some (some (.lst .own xs))=>(match ixN xs.length k with
  | some n=>(match xs[n]? with
   | some (.lst .own ys)=>(match e env with
    | .ok v=>if v.noLnt&&decide (ys.length < 10000000)then .next (env.set i (some (.lst .own (xs.set n (.lst .own (ys++[v]))))))else .stuck
    | _=>.stuck)
   | _=>.stuck)
  | none=>.stuck)
 | _=>.stuck
def tJ(x y:PV):Res PV:=match x,y with
 | .tup xs,.tup ys=>(match bw xs,bw ys with
  | some ns,some ms=>.ok (.bl (HT.lexLt ns ms))
  | _,_=>.stuck)
 | _,_=>.stuck
section
variable{X:Cx}{T:Tb}{W:Nat->St->Hp->Prop}{Z:Zn}{F F1 B L:Addr->Prop}{H H1:Hp}{σ:St}{env:En}{fp:Nat->List Addr}{D:Ends}
theorem rW(hK:X.K=T.K):io T W tJ (Ed X.K):=by
 intro B F L σ H Q F' H' x y v u fx fy gr rx ry _ _ _ q
 unfold tJ at q
 split at q
 case h_2=>exact q.elim
 rename_i xs ys
 split at q
 case h_2=>exact q.elim
 rename_i ns ms e1 e2
 unfold Rel at rx ry
 obtain⟨a,vs,rfl,hs,hr⟩:=rx
 obtain⟨b,us,rfl,ht,hq⟩:=ry
 have z1:=cK e1 hr
 have z2:=cK e2 hq
 subst z1 z2
 exact⟨a,b,ns,ms,rfl,rfl,by rw[hK];exact hs,by rw[hK];exact ht,q.scal gr i8⟩
theorem GC(hK:X.K=T.K)(hu:X.A.units+64 < cLine)(ha:SE X T W a ma)(hb:SE X T W b mb):SE X T W (.Compare a [.Lt] [b] pos) (mOp tJ ma mb):=kC (vA (by omega)) (rW hK) ha hb (eB _)
theorem AK(hK:X.K=T.K)(hu:X.A.units+64 < cLine)(ha:SE X T W a ma)(hb:SE X T W b mb):ST X T W (.Compare a [.Lt] [b] pos) (av (mOp tJ ma mb)):=fg (vA (by omega)) (rW hK) ha hb (eB _)
end
open AutoSeq1 (wpAny_loadPart')
section
variable{prog:Program}{w:World}{A:Around}{E:Value->Shared->Prop}{s:Shared}
theorem dK1(a:Value):checkTypeCall "enumerate" ⟨[a],[]⟩=pure ():=by kernel_rfl
theorem dK2(a:Value):checkBuiltinCall "enumerate.__new__" ⟨[.type "enumerate", a],[]⟩=pure ():=by kernel_rfl
theorem dK3(a b:Value):argsOk "object.__init__" ⟨[a,b],[]⟩:=by
 unfold argsOk
 rw[signature?_of (id := "object.__init__") (n:=['_','_','t','i','n','i','_','_']) (o:=['t','c','e','j','b','o']) (by kernel_rfl) F.owner_object]
 kernel_rfl
theorem CD(n:String)(l:Addr) :
  Meets (Builtin.«enumerate.__new__» ⟨[.type "enumerate", .ref l],[]⟩) (fun _ R s=>mP n l s/\R (.ok (.ret (.ref (s.heap.push (itO n l)).objs.size))) { s with heap:=(s.heap.push (itO n l)).push (enO s.heap.objs.size 0) }) :=
 .of_wp fun pr w A R s0 h=>by
  obtain⟨hp,g,d,tk,os⟩:=s0
  obtain⟨hI,h⟩:=h
  have hsub:=sub_enumerate
  have hJ:∀{Q:Value->Shared->Prop}{E:Value->Shared->Prop},Q (.ref hp.objs.size) ⟨hp.push (itO n l),g,d,tk,os⟩->wpAny (model pr w) A.in1 (pyIter (.ref l)) Q E ⟨hp,g,d,tk,os⟩:=fun {Q E} q=>hI pr w A.in1 Q E q
  have hJ':∀{Q:Value->Shared->Prop}{E:Value->Shared->Prop},Q (.ref hp.objs.size) ⟨hp.push (itO n l),g,d,tk,os⟩->wpAny (model pr w) A (pyIter (.ref l)) Q E ⟨hp,g,d,tk,os⟩:=fun {Q E} q=>hI pr w A Q E q
  wp_walk
  refine wpAny_stack_any fun st=>wpAny_pure ?_
  split<;>try (rename_i c _ _ _ _ _;cases(c==Value.type "enumerate"))
  all_goals (wp_walk using hJ,hJ')
  all_goals exact⟨_,rfl,h⟩
theorem Ab(hI:mP n l s)(h:Q (.ref (s.heap.objs.size+1)) { s with heap:=(s.heap.push (itO n l)).push (enO s.heap.objs.size 0) }) :
  wpAny (model prog w) A (call (.type "enumerate") [.ref l] []) Q E s:=by
 have hz:(s.heap.push (itO n l)).objs.size=s.heap.objs.size+1:=Heap.size_push ..
 refine jT (Q1:=fun ob s1=>s1.TypeIs ob "enumerate" /\ Q ob s1) F.called_enumerate (dK1 _) (dK2 _) F.entry_enumerate_new F.entry_object_init (CD n l) ⟨hI,?_⟩ fun ob s1 hq=>⟨hq.1,dK3 ob _,_,Ax F.called_enumerate.init.lookup F.called_enumerate.made (by decide),hq.1,rfl,hq.2⟩
 show _/\_
 rw[hz]
 have:=Heap.get?_push_size (s.heap.push (itO n l)) (o:=enO s.heap.objs.size 0) rfl
 rw[hz]at this
 exact⟨⟨_,this,rfl⟩,h⟩
end
def r8(m:ME):MI:=fun env=>(m env).bind fun x=>match x with
 | .lst f xs=>if !f.isLnt&&dJ xs then .ok (enP 0 xs)else .stuck
 | .tup xs=>if dJ xs then .ok (enP 0 xs)else .stuck
 | _=>.stuck
def o3(m:ME):MI:=fun env=>(m env).bind fun x=>match aQ x with
 | some xs=>.ok (enP 0 xs)
 | none=>.stuck
section
variable{X:Cx}{T:Tb}{W:Nat->St->Hp->Prop}{Z:Zn}{F F1 B L:Addr->Prop}{H H1:Hp}{σ:St}{env:En}{fp:Nat->List Addr}{pins:List (Addr×Obj)}{s:Shared}
theorem oI{x1}(hg:Gl X "enumerate")(hm:X.mg "enumerate" = none)(hl:PE X l tl)(hs:starEach [l] X.env=[(false,eval l X.env)]:=by rfl) :
  PI X (.Tuple els x1 tpos) (.Call (.Name "enumerate" p) [l] [] pos) (fun σ H R=>tl σ H fun x H1=>∃a tp xs,[x]=[V.ref a]/\Sq tp X.K H1 a xs/\R (Ite tp X.K 0 a) H1):=by
 intro pins s σ H R I h
 refine PyProof.Rows.Call_ (fv I hg hm sE (PyProof.Rows.callWith_type1 (thn (dv (te:=tl) hl gN (by rw[hs];rfl) pos pins s σ H (fun vs H1=>∃a tp xs,vs=[.ref a]/\Sq tp X.K H1 a xs/\R (Ite tp X.K 0 a) H1) I h) fun us s2 ⟨vs,H1,I2,r1,a,tp,xs,ev,hq,q⟩=>?_) (by rw[hs];rfl) rfl))
 subst ev
 obtain⟨u,rfl,rx⟩:=dD r1
 cases rx
 have hI:∃n,mP n a s2/\∀h',h'.get? s2.heap.objs.size=some (itO n a)->x8 tp h' s2.heap.objs.size a 0:=by
  cases tp with
  | false =>
   obtain⟨its,rv,pl,_⟩:=I2.list hq
   exact⟨"list_iterator", fun _ _ _ _ _ q=>wpAny_pyIter_list pl.isList q,fun h' e=>⟨_,e,rfl,rfl⟩⟩
  | true =>
   obtain⟨its,rv,pl,_⟩:=I2.tuple hq
   exact⟨"tuple_iterator", fun _ _ _ _ _ q=>wpAny_pyIter_tuple (show s2.heap.IsTuple a its.toArray from pl) q,fun h' e=>⟨_,e,rfl,rfl⟩⟩
 obtain⟨n,hI,hA⟩:=hI
 have hz:(s2.heap.push (itO n a)).objs.size=s2.heap.objs.size+1:=Heap.size_push ..
 have he:((s2.heap.push (itO n a)).push (enO s2.heap.objs.size 0)).get? (s2.heap.objs.size+1)=some (enO s2.heap.objs.size 0):=by
  have:=Heap.get?_push_size (s2.heap.push (itO n a)) (o:=enO s2.heap.objs.size 0) rfl
  rw[hz]at this
  exact this
 refine Ab hI (wpAny_pyIter_enum (i:=0) (old:=.none) he ?_)
 refine⟨s2.heap.objs.size+1,[s2.heap.objs.size+1,s2.heap.objs.size],_,_,H1,rfl,I2.kept (t':=s2.toks) fun b o e=>Heap.get?_push_of_some _ (Heap.get?_push_of_some _ e),lG tp 0 a _ _,⟨⟨.none,by simpa using he⟩,hA _ (Heap.get?_push_of_some _ (Heap.get?_push_size _ rfl))⟩,fun b hb=>?_,q⟩
 simp only[List.mem_cons,List.not_mem_nil,or_false]at hb
 rcases hb with rfl | rfl
 ·exact I2.fpOk (Nat.le_succ _) (I2.hok.fresh (Nat.le_succ _))
 ·exact I2.fpOk (Nat.le_refl _) (I2.hok.fresh (Nat.le_refl _))
theorem uM{x1}(hK:X.K=T.K)(hg:Gl X "enumerate")(hm:X.mg "enumerate" = none)(he:SE X T W e m)(hs:starEach [e] X.env=[(false,eval e X.env)]:=by rfl) :
  SI X T W (.Tuple els x1 tpos) (.Call (.Name "enumerate" p) [e] [] pos) (r8 m):=fun pins s σ H R I h=>oI hg hm he hs pins s σ H R I (by
 obtain⟨Z,F,env,fp,S,q⟩:=h
 unfold r8 at q
 refine tE.bind S (fun c e=>by rw[e]at q;exact q) (fun e=>by rw[e]at q;exact q) fun x v H1 F1 f1 e1 g1 r1 n1 d1 w1=>?_
 rw[e1]at q
 simp only[Res.ok_bind]at q
 have S1:=S.grow g1
 rw[hK]
 have key:∀(tp:Bool) (a:Addr) (xs:List PV) (vs:List V),RelL T F1 Z.B NoL H1 xs vs []->(∀H2,(∀a o,H1 a=some o->¬Own fp a->H2 a=some o)->Sq tp T.K H2 a vs)->ItR T F1 Z.B (Own fp) H1 (Ite tp T.K 0 a) (enP 0 xs):=by
  intro tp a xs vs hr hq H2 hk
  have hq2:=hq H2 hk
  refine⟨fun i x ex=>?_,⟨vs,hq2,by rw[e9,hr.length];exact Nat.le_refl _⟩⟩
  rw[f9]at ex
  obtain⟨y,ey,rfl⟩:=Option.map_eq_some_iff.mp ex
  obtain⟨v,_,ev,_,_⟩:=hr.get ey
  refine⟨⟨vs,v,hq2,ev⟩,fun w H3 hy=>?_⟩
  obtain⟨p,y',hp,rfl,rfl,hall⟩:=hy
  have:=hall vs hq2
  rw[ev]at this
  cases this
  exact⟨Ext.upd hp,i6 hp (f8 S1.fow S1.bow S1.oow hk hr ey ev)⟩
 cases x with
 | lst f xs =>
  dsimp only at q
  by_cases hc:(!f.isLnt&&dJ xs)=true
  ·rw[if_pos hc]at q
   rw[Bool.and_eq_true]at hc
   unfold Rel at r1
   obtain⟨a,vs,fp',rfl,hl,hr,hf⟩:=r1
   obtain⟨rfl,hr'⟩:=dy hc.2 hr
   refine⟨a,false,vs,rfl,hl.sq,q _ H1 F1 g1 (key false a xs vs hr' fun H2 hk=>?_)⟩
   have na:f≠.mod->∀o,H1 a=some o->H2 a=some o:=fun hn o ho=>by
    refine hk a o ho ?_
    cases f with
    | own =>
     rintro⟨i,hi⟩
     obtain⟨_,o',ho'⟩:=S.dis i a hi
     obtain rfl:f1=[a]:=hf
     rw[w1 a List.mem_cons_self]at ho';cases ho'
    | frz=>exact S1.fow a hl.1
    | bor=>exact S1.bow a hl.1
    | lnt=>exact absurd hc.1 (by decide)
    | mod=>exact absurd rfl hn
   show SqL T.K H2 a vs
   by_cases hn:f=.mod
   ·subst hn;exact .inr hl
   ·exact .inl (Rd.tr (na hn) (hl.rd hn))
  ·rw[if_neg hc]at q;exact q.elim
 | tup xs =>
  dsimp only at q
  by_cases hc:dJ xs=true
  ·rw[if_pos hc]at q
   unfold Rel at r1
   obtain⟨a,vs,rfl,hl,hr⟩:=r1
   obtain⟨rfl,hr'⟩:=dy hc hr
   refine⟨a,true,vs,rfl,hl,q _ H1 F1 g1 (key true a xs vs hr' fun H2 hk=>?_)⟩
   exact SqT.tr (fun o ho hfx=>hk a o ho fun z=>by
    have:=S1.oow a o z ho
    cases o with
    | lst _ | ins _ _ _=>exact hfx
    | _=>exact this) hl
  ·rw[if_neg hc]at q;exact q.elim
 | _=>exact q.elim)
theorem sO{x1}(hK:X.K=T.K)(hg:Gl X "enumerate")(hm:X.mg "enumerate" = none)(he:SE X T W e m)(hs:starEach [e] X.env=[(false,eval e X.env)]:=by rfl) :
  SIc X T W (.Tuple els x1 tpos) (.Call (.Name "enumerate" p) [e] [] pos) (o3 m):=fun pins s σ H R I h=>oI hg hm he hs pins s σ H R I (by
 obtain⟨Z,F,env,fp,S,q⟩:=h
 unfold o3 at q
 refine tE.bind S (fun c e=>by rw[e]at q;exact q) (fun e=>by rw[e]at q;exact q) fun x v H1 F1 f1 e1 g1 r1 n1 d1 w1=>?_
 rw[e1]at q
 simp only[Res.ok_bind]at q
 cases es:aQ x with
 | none=>rw[es]at q;exact q.elim
 | some xs =>
  rw[es]at q
  obtain⟨a,vs,f',rfl,hs,hr,_⟩:=r1.seq es
  rw[hK]
  have key:∀(tp:Bool),Sq tp T.K H1 a vs->(∀H2,Ext H1 H2->Sq tp T.K H2 a vs)->ItC T F1 Z.B (Own fp) H1 (Ite tp T.K 0 a) (enP 0 xs):=by
   intro tp _ hq H2 hx
   have hq2:=hq H2 hx
   refine⟨fun i x ex=>?_,⟨vs,hq2,by rw[e9,hr.length];exact Nat.le_refl _⟩⟩
   rw[f9]at ex
   obtain⟨y,ey,rfl⟩:=Option.map_eq_some_iff.mp ex
   obtain⟨v,f,ev,rv,_⟩:=hr.get ey
   refine⟨⟨vs,v,hq2,ev⟩,fun w H3 hy=>?_⟩
   obtain⟨p,y',hp,rfl,rfl,hall⟩:=hy
   have:=hall vs hq2
   rw[ev]at this
   cases this
   exact⟨Ext.upd hp,f,fun b hb=>rv.there b hb,i6 hp (rv.ext hx fun _ h=>h)⟩
  rcases hs with hs | hs
  ·refine⟨a,false,vs,rfl,hs,q _ H1 F1 g1 (key false hs fun H2 hx=>?_)⟩
   rcases hs with z | z
   ·exact .inl (Rd.tr (fun o q=>hx a o q) z)
   ·exact .inr z
  ·exact⟨a,true,vs,rfl,hs,q _ H1 F1 g1 (key true hs fun H2 hx=>SqT.tr (fun o q _=>hx a o q) hs)⟩)
end
def pE(P:Params):List DictEntry->List (Str×Int)->Prop
 | [],[]=>True
 | e::es,kv::kvs=>(∃t u,e=⟨PyData.keyHash P kv.1,.str kv.1 t,.int kv.2 u⟩)/\pE P es kvs
 | _,_=>False
structure yb(w:World)(K:PySem.W.Frag)(d:Addr)(kvs:List (Str×Int)):Prop where
 ne:(d==sysModules)=false
 ex:∃(es:List DictEntry) (ep:Nat),K.lookup d=some { cls:=.type "dict", dict:=none,data:=.dict es.toArray ep,slots:=#[] }/\pE w.params es kvs
def look(kvs:List (Str×Int))(k:Str):Option Int:=(kvs.find? fun p=>p.1==k).map (·.2)
def FC(f:Str->Option Value)(kvs:List (Str×Int)):Prop:=∀k,match look kvs k with
 | some i=>∃u,f k=some (.int i u)
 | none=>f k=none
theorem pC:∀{es:List DictEntry}{kvs:List (Str×Int)},pE P es kvs->FC (fun k=>(es.find? fun e=>Value.isStrOf k e.key).map (·.val)) kvs
 | [],[],_=>fun k=>rfl
 | [],_::_,h | _::_,[],h=>h.elim
 | e::es,kv::kvs,h=>fun k=>by
  obtain⟨⟨t,u,rfl⟩,h2⟩:=h
  have ih:=pC h2 k
  simp only[look,List.find?_cons,Value.isStrOf]at ih ⊢
  by_cases q:(kv.1==k)=true
  ·simp only[q,Option.map_some]
   exact⟨u,rfl⟩
  ·simp only[q]
   exact ih
theorem pD:∀{es:List DictEntry}{kvs:List (Str×Int)},pE P es kvs->∀e∈es,∃k t,e.key=.str k t/\e.hash=PyData.keyHash P k
 | [],_,_=>fun e he=>nomatch he
 | _::_,[],h=>h.elim
 | e::es,kv::kvs,h=>fun e' he=>by
  obtain⟨⟨t,u,rfl⟩,h2⟩:=h
  rcases List.mem_cons.mp he with rfl | he
  ·exact⟨kv.1,t,rfl,rfl⟩
  ·exact pD h2 e' he
theorem yb.map(hD:yb w K d kvs)(hI:K.In h):∃f,h.MapOf (strKind prog w) d f/\FC f kvs:=by
 obtain⟨es,ep,hl,he⟩:=hD.ex
 refine⟨_,⟨_,es.toArray,ep,hI _ _ hl,⟨rfl,rfl,rfl⟩,rfl,fun e hm=>?_,fun k=>rfl⟩,?_⟩
 ·obtain⟨k,t,h1,h2⟩:=pD he e (by simpa using hm)
  refine⟨k,?_,h2⟩
  rw[h1]
  show(k==k)=true
  simp
 ·intro k
  have:=pC he k
  simpa[findBy,strKind]using this
def qD(i j:Nat):MS:=fun env=>match env[i]?,env[j]? with
 | some (some v),some (some w)=>if i=j then .stuck else .ret (.tup [v,w])
 | _,_=>.stuck
section
variable{X:Cx}{T:Tb}{W:Nat->St->Hp->Prop}{Z:Zn}{F F1 B L:Addr->Prop}{H H1:Hp}{σ:St}{env:En}{fp:Nat->List Addr}{D:Ends}
theorem uJ{x1}(hN:X.N[i]?=some x)(hv:Vis X.env.scope x)(hN2:X.N[j]?=some y)(hv2:Vis X.env.scope y)(hd:(x ==("__debug__" : Str))=false:=by decide)(hcd:(x ==("__classdict__" : Str))=false:=by decide)(hd2:(y ==("__debug__" : Str))=false:=by decide)(hcd2:(y ==("__classdict__" : Str))=false:=by decide) :
  SS X T W (.Return (some (.Tuple [.Name x px,.Name y py] x1 tpos)) pos) (qD i j) :=
 PS.wk (qo (pos:=pos) (vm (pos:=tpos) (dv (te:=yh i) (dH (pos:=px) hN hv hd hcd) (dv (te:=yh j) (dH (pos:=py) hN2 hv2 hd2 hcd2) gN)))) fun D σ H hz1=>by
  obtain⟨Z,F,env,fp,S,q⟩:=hz1
  unfold qD at q
  split at q
  case h_2=>exact q.elim
  rename_i pv pw ei ej
  split at q
  case isTrue=>exact q.elim
  rename_i hij
  obtain⟨v,e1,r1⟩:=S.rel i pv ei
  obtain⟨w,e2,r2⟩:=S.rel j pw ej
  refine⟨v,e1,w,e2,small (by simp),fun p hp=>?_⟩
  have g:Gr F H F (upd H p (.tup [v,w])):=Gr.same S.hp.ft (Ext.upd hp)
  have S2:=S.grow g
  obtain⟨v',e1',r1'⟩:=S2.rel i pv ei
  obtain⟨w',e2',r2'⟩:=S2.rel j pw ej
  rw[e1]at e1'
  cases e1'
  rw[e2]at e2'
  cases e2'
  refine q F (upd H p (.tup [v,w])) (.ref p) (fp i++fp j) S2.hp ?_ (List.nodup_append.mpr ⟨S.nd i,S.nd j,fun a ha b hb z=>?_⟩) (fun a ha=>?_) (fun a ha=>?_)
  ·unfold Rel
   refine⟨p,_,rfl,SqT.of bM,?_⟩
   unfold RelL
   refine⟨v,[w],fp i,fp j,rfl,r1',?_,rfl⟩
   unfold RelL
   exact⟨w,[],fp j,[],rfl,r2',by unfold RelL;exact⟨rfl,rfl⟩,by simp⟩
  ·subst z
   exact S.dj i j hij a ha hb
  ·rcases List.mem_append.mp ha with h | h
   ·exact(S2.dis i a h).1
   ·exact(S2.dis j a h).1
  ·rcases List.mem_append.mp ha with h | h
   ·exact S.new i a h
   ·exact S.new j a h
variable{P:Program}{w:World}{mg:Str->Option Value}{base:Heap}
theorem Ce(F:Fun T.K x qual st f fd)(S:cR N ps (ax st))
  (body:∀ (cdv:Value) (A:Around) (outer:List Env) (s:Shared) (H:Hp) (E:XK),Ctx (d8 (CXP P w) P w T.K mg base N qual (ax st) f cdv A outer s H E) T (WD T E) k ->
   SSs (d8 (CXP P w) P w T.K mg base N qual (ax st) f cdv A outer s H E) T (WD T E) (bG st) m):cN P w T.K mg base (CXP P w) (k+1) f fd ps (spM T ps.length (a5 N.length m)) :=
 Fp F S fun cdv A outer s H E hr=>body cdv A outer s H E (nP hr)
theorem zJ(F:Fun T.K x qual st f fd)(S:cR N ps (ax st))
  (body:∀ (cdv:Value) (A:Around) (outer:List Env) (s:Shared) (H:Hp) (E:XK),Ctx (d8 (CXP P w) P w T.K mg base N qual (ax st) f cdv A outer s H E) T (WD T E) k ->
   SSs (d8 (CXP P w) P w T.K mg base N qual (ax st) f cdv A outer s H E) T (WD T E) (bG st) m):cN P w T.K mg base (CXP P w) (k+1) f fd ps (spI T ps.length (ij N.length m)) :=
 Cf F S fun cdv A outer s H E hr=>body cdv A outer s H E (nP hr)
variable{F':Addr->Prop}{H':Hp}{js:List Nat}{t:Nat}
def AL(js:List Nat)(t:Nat)(σ:St)(env:En):Prop:=∀j∈js,env[j]?=some none->σ[j]?=σ[t]?
theorem AL.set{i:Nat}{v:V}{pv:PV}(h:AL js t σ env)(hi:i≠t):AL js t (σ.set i (some v)) (env.set i (some pv)):=fun j hj e=>by
 by_cases q:i=j
 ·subst q
  exfalso
  rw[List.getElem?_set]at e
  by_cases z:i < env.length<;>simp[z]at e
 ·rw[List.getElem?_set_ne q]at e ⊢
  rw[List.getElem?_set_ne hi]
  exact h j hj e
def GSA(T:Tb)(W:Nat->St->Hp->Prop)(js:List Nat)(t:Nat)(Z:Zn)(D:Ends):Out->Prop
 | .next e=>∀F H σ fp,au T Z F H σ e fp->AL js t σ e->D.nx σ H
 | .ret pv=>GS T W Z D (.ret pv)
 | .brk e=>GS T W Z D (.brk e)
 | .cont e=>GS T W Z D (.cont e)
 | .exc c e=>GS T W Z D (.exc c e)
 | .stuck=>False
theorem GSA.of(h:GS T W Z D o):GSA T W js t Z D o:=by
 cases o with
 | next e=>exact fun F H σ fp S _=>h F H σ fp S
 | _=>exact h
end
end PR
namespace PR
open PySem PySem.Spec L2
section
variable{M:Model}{A:Around}{E:Value->Shared->Prop}{s:Shared}{B:Heap}{l:List Env}{e:Addr}{cls a0 fl:Value}
def FE(B:Heap)(l:List Env)(e:Addr)(cls a0 fl:Value)(h:Heap):Prop:=B.StaysIn h/\B.get? e=none/\h.FunFrames B l/\h.TracedAtW B e cls a0 fl
end
structure Hx(P:Program)(w:World)(outer:List Env)(H:Hp)(s:Shared)(cls:Value)(H':Hp)(e:Value)(s':Shared):Prop where
 os:s'.os=s.os
 bare:PyProof.Rows.AllBare s'.gens
 un:Un (frs outer) [] H H' s.heap s'.heap
 hok:HOk P w H' s'.heap
 fly:∃x a0 fl Bh,e=.ref x/\FE Bh outer x cls a0 fl s'.heap/\(∀b o u,H' b=some u->s'.heap.get? b=some o->Bh.get? b=some o)/\
  (∀b o o',s'.heap.get? b=some o->s.heap.get? b=some o'->b∉frs outer->Bh.get? b=some o)
section
variable{X:Cx}{T:Tb}{W:Nat->St->Hp->Prop}{Z:Zn}{F F1 B L:Addr->Prop}{H H1:Hp}{σ:St}{env:En}{fp:Nat->List Addr}{D:Ends}{ks:List Nat}
theorem au.drop(S:au T Z F H σ env fp)(h0:n≠0):au T Z F H σ (env.set n none) (bD fp n []):=by
 refine⟨S.hp,by rw[List.length_set,S.len],fun i pv e=>?_,fun i=>?_,fun i j hij a ha hb=>?_,fun i a ha=>?_,fun i a ha=>?_,fun i a ha=>?_,fun v hv=>?_⟩
 ·by_cases hi:i=n
  ·subst hi
   rw[List.getElem?_set]at e
   simp at e
  ·rw[List.getElem?_set_ne (Ne.symm hi)]at e
   obtain⟨v,h1,h2⟩:=S.rel i pv e
   exact⟨v,h1,by unfold bD;rw[if_neg hi];exact h2⟩
 ·unfold bD;split;exact List.nodup_nil;exact S.nd i
 ·unfold bD at ha hb
  split at ha
  ·cases ha
  ·split at hb
   ·cases hb
   ·exact S.dj i j hij a ha hb
 ·unfold bD at ha;split at ha;cases ha;exact S.dis i a ha
 ·unfold bD at ha;split at ha;cases ha;exact S.new i a ha
 ·unfold bD at ha;split at ha;cases ha;exact S.ch i a ha
 ·obtain⟨h1,h2⟩:=S.pn v hv
  refine⟨h1,?_⟩
  unfold cF at h2 ⊢
  rw[List.getElem?_set_ne h0];exact h2
theorem uN{α:Type}{l:List α}{i:Nat}{x:α}(h:l[i]?=some x):l.set i x=l:=by
 obtain⟨hi,e⟩:=List.getElem?_eq_some_iff.mp h
 rw[<- e]
 exact List.set_getElem_self hi
structure Orp(Z:Zn)(F:Addr->Prop)(fp:Nat->List Addr)(f:List Addr):Prop where
 nd:f.Nodup
 nf:∀b∈f,¬F b
 new:∀b∈f,Z.H0 b=none\/Z.fp0 b
 dj:∀b∈f,∀j,b∉fp j
end
open AutoSeq1 (wpAny_loadPart')
structure ya(K:PySem.W.Frag)(x qual:Str)(st:Stmt)(f:Addr)(fd:FuncData)(dT:Addr)(ds:List Value):Prop where
 ex:∃(oc:Value) (od:Option Addr) (kV doc pm:Value) (an:Option Addr) (cdv ct:Value) (osl:Array (Option Value)),
  fd=PySem.W.fnOf x qual (cQ st) (bG st) (ax st) (.ref dT) kV doc pm an cdv ct/\K.lookup f=some ⟨oc,od,.func fd,osl⟩/\PySem.W.codeIn K cdv qual=true
 kp:PySem.W.keepIn K (.ref f)=true
 dl:∃(o:Obj) (n:Nat),K.lookup dT=some o/\o.data=.seq ds.toArray n
section
variable{P:Program}{w:World}{mg:Str->Option Value}{base:Heap}{T:Tb}
theorem G5(F:ya T.K x qual st f fd dT ds)(S:cR N ps (ax st))
  (body:∀ (cdv:Value) (A:Around) (outer:List Env) (s:Shared) (H:Hp) (E:XK),Ctx (d8 (CXP P w) P w T.K mg base N qual (ax st) f cdv A outer s H E) T (WD T E) k ->
   SSs (d8 (CXP P w) P w T.K mg base N qual (ax st) f cdv A outer s H E) T (WD T E) (bG st) m):cN P w T.K mg base (CXP P w) (k+1) f fd ps (spM T ps.length (a5 N.length m)):=by
 obtain⟨oc,od,kV,doc,pm,an,cdv,ct,osl,rfl,lk,hcd⟩:=F.ex
 refine sg lk hcd S (fun vs H Q E h=>h.1) fun A outer s H vs Q E hr hsp=>⟨_,body cdv A outer s H E (nP hr),?_⟩
 obtain⟨_,pvs,F,B,fl,R,q⟩:=hsp
 obtain⟨fp,S0⟩:=jU N R none (fun _ h=>nomatch h)
 refine⟨_,F,_,fp,S0,?_⟩
 unfold a5 at q
 cases e:m (pvs.map some++List.replicate (N.length - pvs.length) none)with
 | next e'=>rw[e]at q;exact fun F' H' σ' fp' S'=>q F' H' .non [] S'.hp A3 List.nodup_nil (fun _ z=>(nomatch z)) (fun _ z=>(nomatch z))
 | ret v=>rw[e]at q;exact q
 | brk e' | cont e'=>rw[e]at q;exact q.elim
 | exc c e'=>rw[e]at q;exact fun F' H' σ' fp' S'=>q H' S'.hp.keep
 | stuck=>rw[e]at q;exact q.elim
theorem ya.binds(F:ya K x qual st f fd dT ds)
  (h:∀(kV doc pm:Value) (an:Option Addr) (cdv ct:Value) (us:List Value),(us++es).length=ps.length->∃k:Option (Array Value)->Sem (List (Str×Value)),bindArgs (PySem.W.fnOf x qual (cQ st) (bG st) (ax st) (.ref dT) kV doc pm an cdv ct) ⟨us,[]⟩=seqItems? (.ref dT) >>= k/\k (some ds.toArray)=pure (ps.zip (us++es))):d_ K fd ps es:=by
 obtain⟨oc,od,kV,doc,pm,an,cdv,ct,osl,rfl,lk,hcd⟩:=F.ex
 obtain⟨o,n,lo,hd⟩:=F.dl
 intro s us KI hl
 obtain⟨k,h1,h2⟩:=h kV doc pm an cdv ct us hl
 exact BindsTo.of_defaults rfl (KI _ _ lo) hd h1 h2
variable{X:Cx}{W:Nat->St->Hp->Prop}{Z:Zn}{F F1 B L:Addr->Prop}{H H1:Hp}{σ:St}{env:En}{fp:Nat->List Addr}
def mFz(m:ME):ME:=fun env=>(m env).bind fun v=>.ok (v.mapF Fl.freeze)
theorem D_(he:SE X T W e m):SE X T W e (mFz m):=PE.wk he fun σ H Q hz1=>by
 obtain⟨Z,F,env,fp,S,q⟩:=hz1
 unfold mFz at q
 refine⟨Z,F,env,fp,S,?_⟩
 cases em:m env with
 | stuck | exc c=>rw[em]at q;exact q
 | ok pv =>
  rw[em]at q
  simp only[Res.ok_bind]at q
  intro v H' F' f g r nf nd new
  refine q v H' (fun a=>F' a\/a∈f) [] ⟨g.ext,fun a h=>.inl (g.mono a h),fun a h=>h.elim (g.only a) fun z=>.inr (new a z),fun a h=>h.elim (g.dom a) fun z=>r.there a z⟩ (Rel.freeze (fun _ h=>.inl h) (fun a h=>.inr h) r) (fun _ h=>nomatch h) List.nodup_nil fun _ h=>nomatch h
end
def mZ(m:ME)(r c t:Nat):List PV->List PV->PV->En->Out
 | [],_,_,e=>.next e
 | x::xs,rows,cv,e=>match m (((e.set t (some x)).set r none).set c (some cv))with
  | .ok (.tup [a,b])=>if(PV.tup [a,b]).has Fl.isBor ||(PV.tup [a,b]).has Fl.isLnt||decide (1000000<=rows.length)then .stuck else mZ m r c t xs (rows++[.tup [a,b]]) b.borrow ((e.set t (some x)).set r (some (.lst .own (rows++[.tup [a,b]]))))
  | _=>.stuck
def rY(mi:MI)(r c t:Nat)(m:ME):MS:=fun env=>match mi env with
 | .ok xs=>(match env[r]?,env[c]? with
  | some (some (.lst .own rows)),some (some cv)=>mZ m r c t xs rows cv.borrow (env.set c none)
  | _,_=>.stuck)
 | .exc c=>.exc c env
 | .stuck=>.stuck
section
variable{X:Cx}{T:Tb}{W:Nat->St->Hp->Prop}{Z:Zn}{F F1 B L:Addr->Prop}{H H1:Hp}{σ:St}{env:En}{fp:Nat->List Addr}{D:Ends}
theorem au.wideB(S:au T Z F H σ env fp)(h1:∀a,Z.B a->B' a)(h2:∀a,B' a->(∃o,Z.H0 a=some o)/\¬Z.fp0 a):au T ⟨Z.H0,Z.F0,Z.fp0,B',Z.pin⟩ F H σ env fp :=
 ⟨⟨h2,S.hp.keep,S.hp.f0,S.hp.fn,S.hp.ft⟩,S.len,fun i pv e=>by
  obtain⟨v,q1,q2⟩:=S.rel i pv e
  exact⟨v,q1,Rel.tr (fun _ h=>h) h1 (fun _ h=>h) (fun _ _ h _=>h) (fun _ _ _ h=>h) q2⟩,S.nd,S.dj,S.dis,S.new,S.ch,S.pn⟩
theorem au.blind(S:au T Z F H σ env fp)(h0:c≠0)(hc:env[c]?=some none)(v:V):au T Z F H (σ.set c (some v)) env fp :=
 ⟨S.hp,by rw [List.length_set,S.len],fun i pv e=>by
  have:i≠c:=by rintro rfl;rw[hc]at e;cases e
  rw[List.getElem?_set_ne (Ne.symm this)]
  exact S.rel i pv e,S.nd,S.dj,S.dis,S.new,S.ch,fun w hw=>by
  rw[List.getElem?_set_ne h0]
  exact S.pn w hw⟩
theorem au.bOut(S:au T Z F H σ env fp)(h:Z.B a):(∃o,H a=some o)/\∀j,a∉fp j:=by
 obtain⟨⟨o,h1⟩,h2⟩:=S.hp.bo a h
 refine⟨⟨o,S.hp.keep a o h1 h2⟩,fun j hj=>?_⟩
 rcases S.new j a hj with z | z
 ·rw[h1]at z;cases z
 ·exact h2 z
def VB(H:Hp)(fp:Nat->List Addr)(r:Nat)(ra:Addr):Addr->Prop:=fun a=>(∃o,H a=some o)/\a≠ra/\∀j,j≠r->a∉fp j
theorem atI_last(ws:List V)(u:V):atI (ws++[u]) (-1)=some u:=by
 unfold atI
 have e:ixN (ws++[u]).length (-1)=some ws.length:=by
  rw[List.length_append,List.length_singleton]
  unfold ixN
  rw[if_neg (by omega),if_pos (by omega)]
  congr 1
  omega
 rw[e]
 simp
theorem yp{r c t:Nat}{k1 k2}{nr nc nt:Str}{iter e:Expr}{mi:MI}{m:ME}{pos pt p1 p2 p3 p4 p5 p6 p7 p8 p9 p10 p11 p12:Pos}(hp:PassesOwn (model X.prog X.w) X.A X.env X.xe)(hc:X.calm=true)(hK:X.K=T.K)(hN:X.N.Nodup)
  (hr:X.N[r]?=some nr) (hvr:Vis X.env.scope nr) (hcn:X.N[c]?=some nc) (hlc:Loc X.env.scope nc) (ht:X.N[t]?=some nt) (hlt:Loc X.env.scope nt) (r0:r≠0) (c0:c≠0) (t0:t≠0) (rc:r≠c) (rt:r≠t) (ct:c≠t)
  (hi:SI X T W (.Name nt pt) iter mi) (he:SE X T W e m)
  (hs:swapsWith (.Call (.Attribute (.Name nr p1) "append" p2) [e] [] p3) none p4.line X.env=pure false:=by rfl) (hst:starEach [e] X.env=[(false,eval e X.env)]:=by rfl)
  (hfew:((backTo p3 (starEach [e] X.env)).all (fun x=>!x.1)&&(backToKw p3 (keywordEach [] X.env)).all (fun x=>x.1.isSome)&&decide ([e].length+([]:List Keyword).length+(if([]:List Keyword).isEmpty then 0 else 1) < 30))=true:=by rfl)
  (hline:(p2.endLine==p3.line)=true:=by rfl) (hd:(nr ==("__debug__" : Str))=false:=by decide) (hcd:(nr ==("__classdict__" : Str))=false:=by decide)
  (hs2:swapsWith (.Subscript (.Subscript (.Name nr p6) (.UnaryOp .USub (.Constant (.int 1) k1 p7) p8) p9) (.Constant (.int 1) k2 p10) p11) (some (.Name nc p5)) p12.line X.env=pure false:=by rfl)
  (hfc:X.fn nc=true\/X.env.scope.names.lookup nc=some .local:=by first | exact .inl rfl | exact .inr rfl | assumption) (hft:X.fn nt=true\/X.env.scope.names.lookup nt=some .local:=by first | exact .inl rfl | exact .inr rfl | assumption)
  (hx1:gh (.UnaryOp .USub (.Constant (.int 1) k1 p7) p8):=by intro _ _;rfl) (hx2:gh (.Constant (.int 1) k2 p10):=by intro _ _;rfl)
  (hsf:∀x,foldedSetIterable iter X.env x=pure x:=by intro _;rfl) :
  SS X T W (.For (.Name nt pt) iter [.Expr (.Call (.Attribute (.Name nr p1) "append" p2) [e] [] p3) p4,.Assign [.Name nc p5] (.Subscript (.Subscript (.Name nr p6) (.UnaryOp .USub (.Constant (.int 1) k1 p7) p8) p9) (.Constant (.int 1) k2 p10) p11) p12] [] pos) (rY mi r c t m) :=
 PS.wk (vd (pos:=pos) hp hc hi (m7 (pos:=pt) hN ht hlt hft) (oF (hZ (pos:=p4) (vv (cpos:=p3) (apos:=p2) PySem.F.plainAttrs_list PySem.F.slot_list_append PySem.F.type_list_append jG (dH (pos:=p1) hr hvr hd hcd) (aa he af hst) rfl hfew hline hst) hs)
  (rM (vc (pos:=p12) hN hcn hlc (vq (pos:=p11) nE (vq (pos:=p9) nE (dH (pos:=p6) hr hvr hd hcd) (Eh (pos:=p8) AG (m8 (i:=1) (j:=k1) (pos:=p7))) hx1) (m8 (i:=1) (j:=k2) (pos:=p10)) hx2) hs2 hfc))) hsf) fun D σ H hz1=>by
  obtain⟨Z,F,env,fp,S,q⟩:=hz1
  unfold rY at q
  refine⟨Z,F,env,fp,S,?_⟩
  cases em:mi env with
  | exc x=>rw[em]at q;exact fun H' x=>q F H' σ fp (S.grow (Gr.same S.hp.ft x))
  | stuck=>rw[em]at q;exact q
  | ok xs =>
   rw[em]at q
   dsimp only at q
   intro J H1 F1 g1 it
   have S1:=S.grow g1
   split at q
   case h_2=>exact q.elim
   rename_i rows cv er ec
   obtain⟨ra,ws,fpr,hra,hla,hrr,hfr⟩:=S1.lst er
   obtain⟨v0,hv0,rv0⟩:=S1.rel c cv ec
   have ram:ra∈fp r:=by rw[hfr];exact List.mem_cons_self
   have cl:c < env.length:=(List.getElem?_eq_some_iff.mp ec).1
   refine ⟨fun i n σ2 H2=>n=xs.length - i/\i <= xs.length/\∃ F2 env2 fp2 rows cv v,au T (Z.re F1 H1 fp) F2 H2 σ2 env2 fp2/\env2[r]?=some (some (.lst .own rows))/\env2[c]?=some none/\σ2[c]?=some (some v)/\σ2[r]?=some (some (.ref ra))/\Rel T F2 (VB H2 fp2 r ra) NoL H2 cv v []/\GS T W Z D (mZ m r c t (xs.drop i) rows cv env2),
    ⟨xs.length,by simp,Nat.zero_le _,F1,env.set c none,bD fp c [],rows,cv.borrow,v0,S1.enter.drop c0,by rw[List.getElem?_set_ne (Ne.symm rc)];exact er,by rw[List.getElem?_set];simp[cl],hv0,hra,Rel.borrow (fun a h=>?_) (fun a h=>h.elim) (fun a h=>?_) rv0,q⟩,?_⟩
   ·obtain⟨h1,h2⟩:=S1.bOut h
    refine⟨h1,fun z=>h2 r (by rw[z];exact ram),fun j _ hj=>?_⟩
    unfold bD at hj
    split at hj
    ·cases hj
    ·exact h2 j hj
   ·refine⟨(S1.dis c a h).2,fun z=>S1.dj c r (Ne.symm rc) a h (by rw[z];exact ram),fun j _ hj=>?_⟩
    unfold bD at hj
    split at hj
    ·cases hj
    ·rename_i jc
     exact S1.dj c j (Ne.symm jc) a h hj
   clear q er ec hla hrr hfr hv0 rv0 ws fpr
   rintro i n σ2 H2 ⟨rfl,hi',F2,env2,fp2,rows,cv,v,S2,er,ec,hv,hra2,rcv,q2⟩
   obtain⟨go,stop⟩:=it H2 S2.hp.keep
   by_cases hlt':i < xs.length
   ·have hx:xs[i]?=some xs[i]:=by simp[hlt']
    obtain⟨g1',yl⟩:=go i _ hx
    refine .inr ⟨g1',fun σ3 H3=>∃F2 env2 fp2 rows cv v,au T (Z.re F1 H1 fp) F2 H3 σ3 env2 fp2/\env2[r]?=some (some (.lst .own rows))/\env2[c]?=some none/\σ3[c]?=some (some v)/\σ3[r]?=some (some (.ref ra))/\Rel T F2 (VB H3 fp2 r ra) NoL H3 cv v []/\GS T W Z D (mZ m r c t (xs.drop (i+1)) rows cv env2),fun σ3 H3 h3=>⟨xs.length - (i+1),by omega,rfl,hlt',h3⟩,fun x H3 hy=>?_⟩
    obtain⟨ex3,rx⟩:=yl x H3 hy
    rw[List.drop_eq_getElem_cons hlt']at q2
    unfold mZ at q2
    have S3:=(S2.grow (Gr.same S2.hp.ft ex3)).put (i:=t) (pv:=xs[i]) (v:=x) (f:=[]) (rx.ext Ext.refl S2.hp.f0) List.nodup_nil (fun _ z=>(nomatch z)) (fun _ z=>(nomatch z)) (fun _ z=>(nomatch z)) (by simp[aL,t0])
    show DW _ _ _ (σ2.set t (some x)) H3
    split at q2
    case h_2=>exact q2.elim
    rename_i pa pb em2
    split at q2
    ·exact q2.elim
    rename_i hnb
    simp only[Bool.or_eq_true,decide_eq_true_eq,not_or,Bool.not_eq_true]at hnb
    obtain⟨⟨nb,nl⟩,nrow⟩:=hnb
    have hv3:(σ2.set t (some x))[c]?=some (some v):=by rw[List.getElem?_set_ne (Ne.symm ct)];exact hv
    have hra3:(σ2.set t (some x))[r]?=some (some (.ref ra)):=by rw[List.getElem?_set_ne (Ne.symm rt)];exact hra2
    have er3:(env2.set t (some xs[i]))[r]?=some (some (.lst .own rows)):=by rw[List.getElem?_set_ne (Ne.symm rt)];exact er
    have ec3:(env2.set t (some xs[i]))[c]?=some none:=by rw[List.getElem?_set_ne (Ne.symm ct)];exact ec
    obtain⟨ra',ws,fpr,hra',hla,hrr,hfr⟩:=S3.lst er3
    rw[hra3]at hra'
    cases hra'
    generalize hσ3:σ2.set t (some x)=σ3 at *
    generalize henv3:env2.set t (some xs[i])=env3 at *
    generalize hfp3:bD fp2 t []=fp3 at *
    have ram3:ra∈fp3 r:=by rw[hfr];exact List.mem_cons_self
    have sub3:∀j a,a∈fp3 j->a∈fp2 j:=fun j a h=>by
     rw[<- hfp3]at h
     unfold bD at h
     split at h
     ·cases h
     ·exact h
    have S4:=(S3.drop r0).enter
    have S5:=S4.wideB (B':=fun a=>(∃ o,H3 a=some o)/\¬ Own (bD fp3 r []) a) (fun a h=>by
     obtain⟨h1,h2⟩:=S3.bOut h
     refine⟨h1,fun⟨j,hj⟩=>?_⟩
     unfold bD at hj
     split at hj
     ·cases hj
     ·exact h2 j hj) (fun a h=>h)
    have rcv3:Rel T F2 (fun a=>(∃ o,H3 a=some o)/\¬ Own (bD fp3 r []) a) NoL H3 cv v []:=Rel.tr (fun _ h=>h) (fun a h=>⟨let ⟨o,q⟩:=h.1;⟨o,ex3 a o q⟩,fun hz1=>by
     obtain⟨j,hj⟩:=hz1
     unfold bD at hj
     split at hj
     ·cases hj
     ·rename_i jr
      exact h.2.2 j jr (sub3 j a hj)⟩) (fun _ h=>h) (fun a o q _=>ex3 a o q) (fun a _ o q=>ex3 a o q) rcv
    have S6:=S5.put (i:=c) (pv:=cv) (v:=v) (f:=[]) rcv3 List.nodup_nil (fun _ z=>(nomatch z)) (fun _ z=>(nomatch z)) (fun _ z=>(nomatch z)) (by simp[aL,c0])
    rw[uN hv3]at S6
    refine⟨_,hra3,.inl ⟨rfl,ws,by rw[hK];exact SqL.of hla⟩,_,F2,_,_,S6,?_⟩
    unfold ae am
    rw[em2]
    intro vs H4 F4 f4 g r4 n4 d4 w4
    obtain⟨u,rfl,ru⟩:=r4.one
    have S7:=S3.grow g
    have hl4:=g.ext ra _ hla
    refine⟨ra,ws,u,rfl,rfl,hl4,?_,?_⟩
    ·rw[<- hrr.length,sizeLine_eq];omega
    have ru':Rel T F4 (Z.re F1 H1 fp).B NoL H4 (.tup [pa,pb]) u f4:=Rel.noL nl (Rel.noB nb ru)
    have rone:RelL T F4 (Z.re F1 H1 fp).B NoL H4 [.tup [pa,pb]] [u] f4:=by unfold RelL;exact⟨u,[],f4,[],rfl,ru',by unfold RelL;exact⟨rfl,rfl⟩,by simp⟩
    have bes:=S3.beside g n4 w4
    have S8:=S7.mutL (v:=u) er3 hra3 hfr (RelL.append (hrr.ext g.ext g.mono) rone) (by
     have ndi:(ra::fpr).Nodup:=by rw[<- hfr];exact S3.nd r
     refine List.nodup_append.mpr ⟨(List.nodup_cons.mp ndi).2,d4,fun b hb b' hb' z=>?_⟩
     subst z
     exact(bes b hb').2.2 r (by rw[hfr];exact List.mem_cons_of_mem _ hb)) (fun b hb=>by
     rcases List.mem_append.mp hb with hb | hb
     ·exact .inl hb
     ·exact .inr (bes b hb)) hl4
    unfold Rel at ru'
    obtain⟨ta,tvs,rfl,hsq,hrl⟩:=ru'
    unfold RelL at hrl
    obtain⟨va,w1,fa,fb0,rfl,hra4,hrl,ef4⟩:=hrl
    unfold RelL at hrl
    obtain⟨vb,w2,fb,fz,rfl,hrb4,hrl,efb⟩:=hrl
    unfold RelL at hrl
    obtain⟨rfl,rfl⟩:=hrl
    have fbm:∀a∈fb,a∈f4:=fun a ha=>by rw[ef4,efb];simp[ha]
    have raF:¬F4 ra:=(S7.dis r ra ram3).1
    have raB:¬(Z.re F1 H1 fp).B ra:=fun z=>(S7.bOut z).2 r ram3
    have nfix:∀o,H4 ra=some o->¬jt o:=fun o h=>by
     rw[hl4]at h
     cases h
     exact fun z=>z
    have keep8:∀a o,H4 a=some o->a≠ra->upd H4 ra (.lst (ws++[V.ref ta])) a=some o:=fun a o h n=>by
     unfold upd
     rw[if_neg n]
     exact h
    have hsq8:SqT T.K (upd H4 ra (.lst (ws++[V.ref ta]))) ta [va,vb]:=SqT.tr (fun o h1 h2=>keep8 ta o h1 fun z=>nfix o (by rw[<- z];exact h1) h2) hsq
    have hrb8:Rel T F4 (Z.re F1 H1 fp).B NoL (upd H4 ra (.lst (ws ++ [V.ref ta]))) pb vb fb:=Rel.tr (fun _ h=>h) (fun _ h=>h) (fun _ h=>h) (fun a o h q=>keep8 a o h fun z=>by
     subst z
     rcases q with q | q | q | q
     ·exact raF q
     ·exact raB q
     ·exact q
     ·exact nfix o h q) (fun a ha o h=>keep8 a o h fun z=>(bes a (fbm a ha)).2.2 r (by rw[z];exact ram3)) hrb4
    have ra8:upd H4 ra (.lst (ws++[V.ref ta])) ra=some (.lst (ws++[V.ref ta])):=by unfold upd;simp
    refine⟨_,hra3,1,rfl,.inl ⟨ra,ws++[V.ref ta],-1,V.ref ta,rfl,rfl,by rw[hK];exact SqL.of ra8,atI_last ws _,.inr (.inl ⟨ta,[va,vb],1,vb,rfl,rfl,by rw[hK];exact hsq8,rfl,?_⟩)⟩⟩
    have ec8:(env3.set r (some (.lst .own (rows++[.tup [pa,pb]]))))[c]?=some none:=by rw[List.getElem?_set_ne rc];exact ec3
    have rl:r < env3.length:=(List.getElem?_eq_some_iff.mp er3).1
    have cl3:c < σ3.length:=(List.getElem?_eq_some_iff.mp hv3).1
    refine⟨F4,_,_,rows++[.tup [pa,pb]],pb.borrow,vb,S8.blind c0 ec8 vb,by rw[List.getElem?_set];simp[rl],ec8,by rw[List.getElem?_set];simp[cl3],by rw[List.getElem?_set_ne (Ne.symm rc)];exact hra3,Rel.borrow (fun a h=>?_) (fun a h=>h.elim) (fun a h=>?_) hrb8,q2⟩
    ·obtain⟨h1,h2⟩:=S8.bOut h
     refine⟨h1,fun z=>h2 r (by rw[z];unfold bD;simp),fun j _=>h2 j⟩
    ·have b4:=bes a (fbm a h)
     have na:a≠ra:=fun z=>b4.2.2 r (by rw[z];exact ram3)
     refine⟨?_,na,fun j jr hj=>?_⟩
     ·obtain⟨o,ho⟩:=hrb8.there a h
      exact⟨o,ho⟩
     ·unfold bD at hj
      rw[if_neg jr]at hj
      exact b4.2.2 j hj
   ·have e:i=xs.length:=by omega
    subst e
    rw[List.drop_length]at q2
    unfold mZ at q2
    exact .inl ⟨stop,q2 F2 H2 σ2 fp2 (S1.leave S2)⟩
end
open PySem.W (findIn fnOf keepIn nsIn codeIn isFn Frag)
structure FS where
 q:Str
 s:Stmt
 k:Nat
 N:List Str
 c:Option Nat
def bF(s:Stmt):Str:=match s with
 | .FunctionDef n _ _ _ _ _ _ _ _ _=>n
 | _ => ""
structure PT where
 F:List FS
 C:List Str
 X:List Str
 A:List Str
 M:List (Nat×Str×Nat)
 Mk:List (Nat×Nat)
 U:List (Nat×Nat)
 B:List Str
 I:List (Str×Int)
 KT:List (Option Nat×String×List Bool)
 HT:List (Nat×List Bool)
def fs0:FS:=⟨"", .Pass ⟨0,0,0,0⟩,0,[],none⟩
def pk{α:Type}(d:α)(l:List α)(i:Nat):α:=l.getD i (l.headD d)
theorem fU{α:Type}{d:α}{p:α->Prop}{l:List α}(hl:l≠[])(h:∀x∈l,p x)(i:Nat):p (pk d l i):=by
 unfold pk
 rw[List.getD_eq_getElem?_getD]
 cases e:l[i]? with
 | some C=>exact h C (List.mem_of_getElem? e)
 | none =>
  cases l with
  | nil=>exact absurd rfl hl
  | cons a l=>exact h a List.mem_cons_self
section
variable(p:PT)(K:Frag)
def gAt(x:Str):Addr:=match nsIn K mainGlobals x with
 | some (some (.ref a))=>a
 | _=>0
def mAt(c:Addr)(x:Str):Addr:=match findIn K (.ref c) x with
 | some (some (.ref a))=>a
 | _=>0
def dAt(f:Addr):FuncData:=match K.lookup f with
 | some ⟨_,_,.func d,_⟩=>d
 | _=>default
def PT.fs(i:Nat):FS:=pk fs0 p.F i
def PT.ps(i:Nat):List Str:=(p.fs i).N.take (p.fs i).k
def PT.ca(c:Nat):Addr:=gAt K (pk "" p.C c)
def PT.xa(c:Nat):Addr:=gAt K (pk "" p.X c)
def PT.fx(x:FS):Addr:=match x.c with
 | none=>gAt K (bF x.s)
 | some c=>mAt K (p.ca K c) (bF x.s)
def PT.fa(i:Nat):Addr:=p.fx K (p.fs i)
def lit(x:FS):Obj->Obj
 |⟨oc,od,.func d,sl⟩=>⟨oc,od,.func (fnOf (bF x.s) x.q (cQ x.s) (bG x.s) (ax x.s) .none d.kwdefaults d.doc d.pyModule d.annotations d.code d.closureTuple),sl⟩
 | o=>o
def E9:Option Obj->Bool
 | some ⟨_,_,.func _,_⟩=>true
 | _=>false
def scB(x:FS):Bool:=decide ((ax x.s).kind=.function)&&!(ax x.s).isCoroutine&&!(ax x.s).isGenerator&&decide x.N.Nodup&&decide (x.k<=x.N.length) &&
 (x.N.take x.k).all (fun y=>decide ((ax x.s).names.lookup y=some .local \/(ax x.s).names.lookup y=some .cell))&&(ax x.s).names.all (fun y=>decide (y.2≠.free))
def PT.chF(x:FS):Bool:=E9 (K.lookup (p.fx K x))&&codeIn K (dAt K (p.fx K x)).code x.q&&keepIn K (.ref (p.fx K x))&&(match x.c with | none=>decide (nsIn K mainGlobals (bF x.s)=some (some (.ref (p.fx K x)))) | some _=>true)
def chC(A:List Str)(x:Str):Bool:=PySem.W.plainGet K (gAt K x) Str.empty&&PySem.W.hasDictIn K (gAt K x)&&PySem.W.plainOver K (gAt K x)&&decide (findIn K (.ref (gAt K x)) "__setattr__" = some (some (.builtin "object.__setattr__"))) &&
 decide (nsIn K mainGlobals x=some (some (.ref (gAt K x))))&&A.all (fun y=>decide (findIn K (.ref (gAt K x)) y=some none))
def PT.chM(x:Nat×Str×Nat):Bool:=decide (findIn K (.ref (p.ca K x.1)) x.2.1=some (some (.ref (p.fa K x.2.2))))&&isFn K (.ref (p.fa K x.2.2))&&keepIn K (.ref (p.fa K x.2.2))
def PT.chK(x:Nat×Nat):Bool:=PySem.W.makesIn K (p.ca K x.1)&&decide (findIn K (.ref (p.ca K x.1)) "__init__" = some (some (.ref (p.fa K x.2))))&&isFn K (.ref (p.fa K x.2))&&keepIn K (.ref (p.ca K x.1))
def Aw(f:Addr):Option PySem.W.CFound->Bool
 | some (.val (.ref a))=>decide (a=f)
 | _=>false
def PT.chU(x:Nat×Nat):Bool:=decide (PySem.W.specialIn K (.ref (p.ca K x.1)) "__getattribute__" = some (some (.builtin "type.__getattribute__")))&&PySem.W.readsIn K (p.ca K x.1) (.type "type")&&Aw (p.fa K x.2) (PySem.W.findCls K (.ref (p.ca K x.1)) (.type "type") "__init__")&&keepIn K (.ref (p.fa K x.2))
def tgV(y:Option Nat×String×List Bool):Value:=match y.1 with
 | some x=>.ref (p.xa K x)
 | none=>.type y.2.1
def chX(x:Str):Bool:=decide (nsIn K mainGlobals x=some (some (.ref (gAt K x))))&&uf K (gAt K x)
def chI(x:Str×Int):Bool:=match nsIn K mainGlobals x.1 with
 | some (some (.int i _))=>decide (i=x.2)
 | _=>false
def PT.chT(y:Option Nat×String×List Bool):Bool:=decide (p.X.map (fun x=>PySem.W.kitOne K (.ref (gAt K x)) (tgV p K y))=y.2.2.map some)
def PT.chH(y:Nat×List Bool):Bool:=decide (p.X.map (fun x=>PySem.W.exmOne K (.ref (gAt K x)) (.ref (p.xa K y.1)))=y.2.map some)
def PT.ch1:Bool:=p.F.all (p.chF K)
def PT.ch2:Bool:=p.C.all (chC K p.A)&&p.Mk.all (p.chK K)&&p.U.all (p.chU K)&&p.X.all (chX K)&&p.B.all (fun x=>decide (nsIn K mainGlobals x=some none))&&p.I.all (chI K)&&p.KT.all (p.chT K)&&p.HT.all (p.chH K)
def PT.ch3:Bool:=p.M.all (p.chM K)
def PT.ob:List (Option Obj):=p.F.map fun x=>K.lookup (p.fx K x)
def PT.ol:List (Option Obj):=p.F.map fun x=>(K.lookup (p.fx K x)).map (lit x)
end
structure Tx(p:PT)(K:Frag)(mg:Str->Option Value):Prop where
 fn:∀i,Fun K (bF (p.fs i).s) (p.fs i).q (p.fs i).s (p.fa K i) (dAt K (p.fa K i))
 sc:∀i,cR (p.fs i).N (p.ps i) (ax (p.fs i).s)
 bn:∀i,d_ K (dAt K (p.fa K i)) (p.ps i) []
 gl:∀i,(p.fs i).c=none->mg (bF (p.fs i).s)=some (.ref (p.fa K i))
 cl:∀c,Cls K (p.ca K c)
 cg:∀c,mg (pk "" p.C c)=some (.ref (p.ca K c))
 cn:∀c,∀x∈p.A,eD K (p.ca K c) x
 me:∀x∈p.M,Af K (p.ca K x.1) x.2.1 (p.fa K x.2.2)
 mm:∀x∈p.Mk,Mk K (p.ca K x.1) (p.fa K x.2)
 su:∀x∈p.U,Sup K (p.ca K x.1) (p.fa K x.2)
 xg:∀c,mg (pk "" p.X c)=some (.ref (p.xa K c))
 xe:∀c,uf K (p.xa K c)=true
 bi:∀x∈p.B,mg x=none
 ci:∀x∈p.I,∃tk,mg x.1=some (.int x.2 tk)
 kt:∀y∈p.KT,∀c,PySem.W.kitOne K (.ref (p.xa K c)) (tgV p K y)=some (lT y.2.2 c)
 ht:∀y∈p.HT,∀c,PySem.W.exmOne K (.ref (p.xa K c)) (.ref (p.xa K y.1))=some (lT y.2 c)
def Bnd(x:FS):Prop:=∀(kV doc pm:Value) (an:Option Addr) (cdv ct:Value) (us:List Value),us.length=(x.N.take x.k).length->bindArgs (fnOf (bF x.s) x.q (cQ x.s) (bG x.s) (ax x.s) .none kV doc pm an cdv ct) ⟨us,[]⟩=pure ((x.N.take x.k).zip us)
def yc:List FS->Prop
 | []=>True
 | x::l=>Bnd x/\yc l
theorem yc.get:∀{l:List FS},yc l->∀x∈l,Bnd x
 | [],_,_,h=>nomatch h
 | y::l,⟨h1,h2⟩,x,h=>by
  rcases List.mem_cons.mp h with rfl | h
  ·exact h1
  ·exact h2.get x h
section
variable{x:FS}
theorem lsS{us:List Value}(h:us.length=n+1):∃a r,us=a::r/\r.length=n:=by
 cases us with
 | nil=>cases h
 | cons a r=>exact⟨a,r,rfl,Nat.succ.inj h⟩
theorem bn1(h:∀(kV doc pm:Value) (an:Option Addr) (cdv ct u1:Value),bindArgs (fnOf (bF x.s) x.q (cQ x.s) (bG x.s) (ax x.s) .none kV doc pm an cdv ct) ⟨[u1],[]⟩=pure ((x.N.take x.k).zip [u1]):=by intros;rfl)(hk:(x.N.take x.k).length=1:=by rfl):Bnd x:=fun kV doc pm an cdv ct us hl=>by
 rw[hk]at hl
 obtain⟨_,_,rfl,l1⟩:=lsS hl
 cases List.eq_nil_of_length_eq_zero l1
 exact h ..
theorem bn2(h:∀(kV doc pm:Value) (an:Option Addr) (cdv ct u1 u2:Value),bindArgs (fnOf (bF x.s) x.q (cQ x.s) (bG x.s) (ax x.s) .none kV doc pm an cdv ct) ⟨[u1,u2],[]⟩=pure ((x.N.take x.k).zip [u1,u2]):=by intros;rfl)(hk:(x.N.take x.k).length=2:=by rfl):Bnd x:=fun kV doc pm an cdv ct us hl=>by
 rw[hk]at hl
 obtain⟨_,_,rfl,l1⟩:=lsS hl
 obtain⟨_,_,rfl,l2⟩:=lsS l1
 cases List.eq_nil_of_length_eq_zero l2
 exact h ..
theorem bn3(h:∀(kV doc pm:Value) (an:Option Addr) (cdv ct u1 u2 u3:Value),bindArgs (fnOf (bF x.s) x.q (cQ x.s) (bG x.s) (ax x.s) .none kV doc pm an cdv ct) ⟨[u1,u2,u3],[]⟩=pure ((x.N.take x.k).zip [u1,u2,u3]):=by intros;rfl)(hk:(x.N.take x.k).length=3:=by rfl):Bnd x:=fun kV doc pm an cdv ct us hl=>by
 rw[hk]at hl
 obtain⟨_,_,rfl,l1⟩:=lsS hl
 obtain⟨_,_,rfl,l2⟩:=lsS l1
 obtain⟨_,_,rfl,l3⟩:=lsS l2
 cases List.eq_nil_of_length_eq_zero l3
 exact h ..
theorem bn4(h:∀(kV doc pm:Value) (an:Option Addr) (cdv ct u1 u2 u3 u4:Value),bindArgs (fnOf (bF x.s) x.q (cQ x.s) (bG x.s) (ax x.s) .none kV doc pm an cdv ct) ⟨[u1,u2,u3,u4],[]⟩=pure ((x.N.take x.k).zip [u1,u2,u3,u4]):=by intros;rfl)(hk:(x.N.take x.k).length=4:=by rfl):Bnd x:=fun kV doc pm an cdv ct us hl=>by
 rw[hk]at hl
 obtain⟨_,_,rfl,l1⟩:=lsS hl
 obtain⟨_,_,rfl,l2⟩:=lsS l1
 obtain⟨_,_,rfl,l3⟩:=lsS l2
 obtain⟨_,_,rfl,l4⟩:=lsS l3
 cases List.eq_nil_of_length_eq_zero l4
 exact h ..
theorem bn5(h:∀(kV doc pm:Value) (an:Option Addr) (cdv ct u1 u2 u3 u4 u5:Value),bindArgs (fnOf (bF x.s) x.q (cQ x.s) (bG x.s) (ax x.s) .none kV doc pm an cdv ct) ⟨[u1,u2,u3,u4,u5],[]⟩=pure ((x.N.take x.k).zip [u1,u2,u3,u4,u5]):=by intros;rfl)(hk:(x.N.take x.k).length=5:=by rfl):Bnd x:=fun kV doc pm an cdv ct us hl=>by
 rw[hk]at hl
 obtain⟨_,_,rfl,l1⟩:=lsS hl
 obtain⟨_,_,rfl,l2⟩:=lsS l1
 obtain⟨_,_,rfl,l3⟩:=lsS l2
 obtain⟨_,_,rfl,l4⟩:=lsS l3
 obtain⟨_,_,rfl,l5⟩:=lsS l4
 cases List.eq_nil_of_length_eq_zero l5
 exact h ..
end
theorem uG{l:List Str}{α:Type}{f:Addr->Option Bool}{bs:List Bool}(hl:l≠[])(h:l.map (fun x=>f (gAt K x))=bs.map some)(c:Nat):f (gAt K (pk "" l c))=some (lT bs c):=by
 have e:gAt K (pk "" l c)=y6 (l.map (gAt K)) c:=by
  unfold pk y6
  cases l with
  | nil=>exact absurd rfl hl
  | cons a l =>
   rw[List.getD_eq_getElem?_getD,List.getD_eq_getElem?_getD,List.getElem?_map]
   cases(a::l)[c]?<;>rfl
 rw[e]
 exact vi (g:=id) (by simpa using hl) (by rw[List.map_map];exact h) c
theorem Tx.of{p:PT}{K:Frag}{h:Heap}{mg:Str->Option Value}(X:K.In h)(N:h.Ns mainGlobals mg)(hb:yc p.F)(hs:p.F.all scB=true)(hF:p.F≠[])(hC:p.C≠[])(hX:p.X≠[])
  (e:p.ob K=p.ol K) (h1:p.ch1 K=true) (h2:p.ch2 K=true) (h3:p.ch3 K=true):Tx p K mg:=by
 simp only[PT.ch2,Bool.and_eq_true,List.all_eq_true,decide_eq_true_eq]at h2
 obtain⟨⟨⟨⟨⟨⟨⟨c1,c2⟩,c3⟩,c4⟩,c5⟩,c6⟩,c7⟩,c8⟩:=h2
 simp only[PT.ch1,PT.ch3,List.all_eq_true]at h1 h3 hs
 have fnx:∀x∈p.F,Fun K (bF x.s) x.q x.s (p.fx K x) (dAt K (p.fx K x)):=fun x hx=>by
  have q:=h1 x hx
  simp only[PT.chF,Bool.and_eq_true]at q
  obtain⟨⟨⟨q1,q2⟩,q3⟩,_⟩:=q
  have e1:K.lookup (p.fx K x)=(K.lookup (p.fx K x)).map (lit x):=List.map_inj_left.mp e x hx
  cases eo:K.lookup (p.fx K x)with
  | none=>rw[eo]at q1;cases q1
  | some o =>
   rw[eo]at e1 q1
   obtain⟨oc,od,dt,sl⟩:=o
   cases dt with
   | func d =>
    have e2:(⟨oc,od,.func d,sl⟩:Obj)=lit x ⟨oc,od,.func d,sl⟩:=Option.some.inj e1
    simp only[lit,Obj.mk.injEq,Data.func.injEq,true_and,and_true]at e2
    have ed:dAt K (p.fx K x)=d:=by unfold dAt;rw[eo]
    rw[ed]at q2 ⊢
    exact⟨⟨oc,od,d.kwdefaults,d.doc,d.pyModule,d.annotations,d.code,d.closureTuple,sl,e2,eo,q2⟩,q3⟩
   | _=>cases q1
 have scx:∀x∈p.F,cR x.N (x.N.take x.k) (ax x.s):=fun x hx=>by
  have q:=hs x hx
  simp only[scB,Bool.and_eq_true,decide_eq_true_eq,List.all_eq_true,Bool.not_eq_true']at q
  obtain⟨⟨⟨⟨⟨⟨q1,q2⟩,q3⟩,q4⟩,q5⟩,q6⟩,q7⟩:=q
  exact⟨q1,q2,q3,q4,by rw[List.length_take,Nat.min_eq_left q5],q6,q7⟩
 have clx:∀x∈p.C,(Cls K (gAt K x)/\mg x=some (.ref (gAt K x)))/\∀y∈p.A,eD K (gAt K x) y:=fun x hx=>by
  have q:=c1 x hx
  simp only[chC,Bool.and_eq_true,decide_eq_true_eq,List.all_eq_true]at q
  obtain⟨⟨⟨⟨⟨q1,q2⟩,q3⟩,q4⟩,q5⟩,q6⟩:=q
  exact⟨⟨⟨q1,q2,q3,q4⟩,PySem.W.mg_of X N q5⟩,q6⟩
 have xx:∀x∈p.X,mg x=some (.ref (gAt K x))/\uf K (gAt K x)=true:=fun x hx=>by
  have q:=c4 x hx
  simp only[chX,Bool.and_eq_true,decide_eq_true_eq]at q
  exact⟨PySem.W.mg_of X N q.1,q.2⟩
 refine ⟨fU (p:=fun x=>Fun K (bF x.s) x.q x.s (p.fx K x) (dAt K (p.fx K x))) hF fnx,fU (p:=fun x=>cR x.N (x.N.take x.k) (ax x.s)) hF scx,fU (p:=fun x=>d_ K (dAt K (p.fx K x)) (x.N.take x.k) []) hF fun x hx=>(fnx x hx).binds (hb.get x hx),
  fU (p:=fun x=>x.c=none->mg (bF x.s)=some (.ref (p.fx K x))) hF fun x hx hc=>?_,fU (p:=fun x=>Cls K (gAt K x)) hC fun x hx=>(clx x hx).1.1,fU (p:=fun x=>mg x=some (.ref (gAt K x))) hC fun x hx=>(clx x hx).1.2,
  fU (p:=fun x=>∀y∈p.A,eD K (gAt K x) y) hC fun x hx=>(clx x hx).2,fun x hx=>?_,fun x hx=>?_,fun x hx=>?_,fU (p:=fun x=>mg x=some (.ref (gAt K x))) hX fun x hx=>(xx x hx).1,fU (p:=fun x=>uf K (gAt K x)=true) hX fun x hx=>(xx x hx).2,
  fun x hx=>PySem.W.mg_none_of X N (c5 x hx),fun x hx=>?_,fun y hy c=>?_,fun y hy c=>?_⟩
 ·have q:=h1 x hx
  simp only[PT.chF,Bool.and_eq_true]at q
  have q:=q.2
  rw[hc]at q
  exact PySem.W.mg_of X N (of_decide_eq_true q)
 ·have q:=h3 x hx
  simp only[PT.chM,Bool.and_eq_true,decide_eq_true_eq]at q
  exact⟨q.1.1,q.1.2,q.2⟩
 ·have q:=c2 x hx
  simp only[PT.chK,Bool.and_eq_true,decide_eq_true_eq]at q
  exact⟨q.1.1.1,q.1.1.2,q.1.2,q.2⟩
 ·have q:=c3 x hx
  simp only[PT.chU,Bool.and_eq_true,decide_eq_true_eq]at q
  refine⟨q.1.1.1,q.1.1.2,?_,q.2⟩
  have q:=q.1.2
  unfold Aw at q
  split at q
  ·rename_i a e
   rw[e,of_decide_eq_true q]
  ·cases q
 ·have q:=c6 x hx
  unfold chI at q
  split at q
  ·rename_i i tk e
   exact⟨tk,by rw[<- of_decide_eq_true q];exact PySem.W.mg_of X N e⟩
  ·cases q
 ·exact uG (α:=Bool) (f:=fun a=>PySem.W.kitOne K (.ref a) (tgV p K y)) hX (of_decide_eq_true (c7 y hy)) c
 ·exact uG (α:=Bool) (f:=fun a=>PySem.W.exmOne K (.ref a) (.ref (p.xa K y.1))) hX (of_decide_eq_true (c8 y hy)) c
def PT.attOk(p:PT):Prop:=p.A.Nodup/\p.A.all jE=true
@[reducible] def PT.T(p:PT)(h:p.attOk)(K:Frag):Tb where
 K:=K
 nc:=p.C.length
 cls:=p.ca K
 att:=jB p.A
 inj:=ut h.1 h.2
 xcl:=p.xa K
section
variable{p:PT}{K:Frag}{mg:Str->Option Value}
theorem Tx.cls(t:Tx p K mg)(n:Nat):∀c < n,Cls K (p.ca K c):=fun c _=>t.cl c
theorem Tx.b(t:Tx p K mg)(j:Nat)(h:p.B[j]?=some x:=by rfl):mg x=none:=t.bi x (List.mem_of_getElem? h)
theorem Tx.c(t:Tx p K mg)(j:Nat)(h:p.I[j]?=some (x,i):=by rfl):∃tk,mg x=some (.int i tk):=t.ci (x,i) (List.mem_of_getElem? h)
theorem Tx.k(t:Tx p K mg)(j:Nat)(h:p.KT[j]?=some y:=by rfl)(c:Nat):PySem.W.kitOne K (.ref (p.xa K c)) (tgV p K y)=some (lT y.2.2 c):=t.kt y (List.mem_of_getElem? h) c
end
open PySem.W (keepIn Frag)
section
variable{P:Program}{w:World}{K:Frag}{mg:Str->Option Value}{base:Heap}{p:PT}{hA:p.attOk}
abbrev OkF(p:PT)(hA:p.attOk)(P:Program)(w:World)(K:Frag)(mg:Str->Option Value)(base:Heap)(k i:Nat)(m:List PV->Res PV):Prop:=cN P w K mg base (CXP P w) k (p.fa K i) (dAt K (p.fa K i)) (p.ps i) (spM (p.T hA K) (p.ps i).length m)
abbrev OkI(p:PT)(hA:p.attOk)(P:Program)(w:World)(K:Frag)(mg:Str->Option Value)(base:Heap)(k i:Nat)(m:List PV->Res PV):Prop:=cN P w K mg base (CXP P w) k (p.fa K i) (dAt K (p.fa K i)) (p.ps i) (spI (p.T hA K) (p.ps i).length m)
theorem okC(i:Nat)(t:Tx p K mg)(body:∀ (cdv:Value) (A:Around) (outer:List Env) (s:Shared) (H:Hp) (E:XK),Ctx (d8 (CXP P w) P w K mg base (p.fs i).N (p.fs i).q (ax (p.fs i).s) (p.fa K i) cdv A outer s H E) (p.T hA K) (WD (p.T hA K) E) k->(p.fs i).N.Nodup ->
  SSs (d8 (CXP P w) P w K mg base (p.fs i).N (p.fs i).q (ax (p.fs i).s) (p.fa K i) cdv A outer s H E) (p.T hA K) (WD (p.T hA K) E) (bG (p.fs i).s) m):OkF p hA P w K mg base (k+1) i (a5 (p.fs i).N.length m) :=
 Ce (T:=p.T hA K) (t.fn i) (t.sc i) fun a b c d e f g=>body a b c d e f g (t.sc i).nd
theorem okI(i:Nat)(t:Tx p K mg)(body:∀ (cdv:Value) (A:Around) (outer:List Env) (s:Shared) (H:Hp) (E:XK),Ctx (d8 (CXP P w) P w K mg base (p.fs i).N (p.fs i).q (ax (p.fs i).s) (p.fa K i) cdv A outer s H E) (p.T hA K) (WD (p.T hA K) E) k->(p.fs i).N.Nodup ->
  SSs (d8 (CXP P w) P w K mg base (p.fs i).N (p.fs i).q (ax (p.fs i).s) (p.fa K i) cdv A outer s H E) (p.T hA K) (WD (p.T hA K) E) (bG (p.fs i).s) m):OkI p hA P w K mg base (k+1) i (ij (p.fs i).N.length m) :=
 zJ (T:=p.T hA K) (t.fn i) (t.sc i) fun a b c d e f g=>body a b c d e f g (t.sc i).nd
theorem dm{X:Cx}{k k2 i c:Nat}{mn:Str}{m m':List PV->Res PV}{ps:List Str}(j:Nat)(t:Tx p X.K X.mg)(G:cN X.prog X.w X.K X.mg X.base (CXP X.prog X.w) k (p.fa X.K i) (dAt X.K (p.fa X.K i)) ps (spM (p.T hA X.K) ps.length m))(e:some m=some m')(hj:p.M[j]?=some (c,mn,i):=by rfl)(hp:p.ps i=ps:=by rfl)(hk:k<=k2:=by decide) :
  ∃f fd,Af X.K (p.ca X.K c) mn f/\d_ X.K fd ps []/\cN X.prog X.w X.K X.mg X.base (CXP X.prog X.w) k2 f fd ps (spM (p.T hA X.K) ps.length m'):=by
 cases e
 exact⟨_,_,t.me _ (List.mem_of_getElem? hj),hp▸t.bn i,G.mono hk⟩
end
theorem dno{n c:Nat}{q:Prop}(h:c < n)(hc:n<=c:=by exact Nat.le_add_left _ _):q:=absurd h (Nat.not_lt.mpr hc)
section
variable{X:Cx}{W:Nat->St->Hp->Prop}{p:PT}{hA:p.attOk}
theorem bt(t:Tx p X.K X.mg)
  (G:cN X.prog X.w X.K X.mg X.base (CXP X.prog X.w) k (p.fa X.K i) (dAt X.K (p.fa X.K i)) (p.ps i) (spM (p.T hA X.K) (p.ps i).length m)) (cx:Ctx X (p.T hA X.K) W kk) (ha:SA X (p.T hA X.K) W (e::es) ms)
  (hk:k<=kk:=by decide) (hx:bF (p.fs i).s=x:=by rfl) (hc:(p.fs i).c=none:=by rfl) (hg:Gl X x:=by rfl) (hn:gB ms n:=by repeat' first | exact eU | apply dM) (hps:n=(p.ps i).length:=by rfl)
  (hdb:(x ==("__debug__" : Str))=false:=by decide) (he:starEach (e::es) X.env=(false,eval e X.env)::starEach es X.env:=by rfl) (hpl:(backTo pos (starEach es X.env)).any (·.1)=false:=by rfl) :
  SE X (p.T hA X.K) W (.Call (.Name x np) (e::es) [] pos) (ap (aO m) ms) :=
 uS G cx hk hg (by subst hx;exact t.gl i hc) (t.fn i).kp (t.bn i) hn hps ha hdb he hpl
theorem cI(t:Tx p X.K X.mg)
  (D:eY X (p.T hA X.K) k mn ps [] disp) (cx:Ctx X (p.T hA X.K) W kk) (ho:SE X (p.T hA X.K) W o mo) (ha:SA X (p.T hA X.K) W (e::es) ms)
  (hm:∀k,jB p.A k≠mn:=by exact xY (by decide +kernel) (by decide +kernel)) (hk:k<=kk:=by decide) (hn:gB ms n:=by repeat' first | exact eU | apply dM) (hps:n+1=ps.length:=by rfl)
  (hst:starEach (e::es) X.env=(false,eval e X.env)::starEach es X.env:=by rfl) (hpl:(backTo pos (starEach es X.env)).any (·.1)=false:=by rfl)
  (ht:eval (.Call (.Attribute o mn apos) (e::es) [] pos) X.env=(do
   let ov <- eval o X.env
   standAt apos.atName
   let(f,first) <- holding [ov] (getMethod ov mn pl)
   callWith pos f first (backTo pos (starEach (e::es) X.env)) (backToKw pos (keywordEach [] X.env))):=by rfl) :
  SE X (p.T hA X.K) W (.Call (.Attribute o mn apos) (e::es) [] pos) (b6 disp mo ms) :=
 AX (pl:=pl) cx (t.cls _) hm D hk hn hps ho ha hst hpl ht
theorem kD(c:Nat)(t:Tx p X.K X.mg)
  (G:cN X.prog X.w X.K X.mg X.base (CXP X.prog X.w) k (p.fa X.K i) (dAt X.K (p.fa X.K i)) (p.ps i) (spI (p.T hA X.K) (p.ps i).length m)) (cx:Ctx X (p.T hA X.K) W kk) (ha:SA X (p.T hA X.K) W (e::es) ms)
  (hM:(c,i)∈ p.Mk:=by decide) (hcn:c < p.C.length:=by decide) (hk:k+1<=kk:=by decide) (hx:pk ("" : Str) p.C c=x:=by rfl) (hg:Gl X x:=by rfl) (hn:gB ms n:=by repeat' first | exact eU | apply dM) (hps:n+1=(p.ps i).length:=by rfl)
  (hdb:(x ==("__debug__" : Str))=false:=by decide) (he:starEach (e::es) X.env=(false,eval e X.env)::starEach es X.env:=by rfl) (hpl:(backTo pos (starEach es X.env)).any (·.1)=false:=by rfl) :
  SE X (p.T hA X.K) W (.Call (.Name x np) (e::es) [] pos) (iN c m ms) :=
 AW (t.mm _ hM) hcn G cx hk hg (by subst hx;exact t.cg c) (t.bn i) hn hps ha hdb he hpl
theorem aN(k:Nat)(t:Tx p X.K X.mg)(cx:Ctx X (p.T hA X.K) W kk)(he:SE X (p.T hA X.K) W e m)(hf:jB p.A k=f:=by rfl)(hm:f∈p.A:=by decide)(hb:attributeBase e f X.env (eval e X.env)=eval e X.env:=by rfl) :
  SE X (p.T hA X.K) W (.Attribute e f pos) (mUn (ao k) m):=yE cx.hK hf (t.cls _) (fun c _=>t.cn c f hm) he hb
theorem fD(ha:SA X T W es ms)(hn:gB ms n:=by repeat' first | exact eU | apply dM)(hs:n<=1000:=by decide):SE X T W (.List es pos) (eJ ms):=AY ha hn hs
theorem lr{x1}(ha:SA X T W es ms)(hn:gB ms n:=by repeat' first | exact eU | apply dM)(hs:n<=1000:=by decide):SE X T W (.Tuple es x1 pos) (jg ms):=AS ha hn hs
theorem bC(cx:Ctx X T W kk)(ha:SE X T W a ma)(hb:SE X T W b mb)(hs:gh b:=by exact fun _ _=>rfl):SE X T W (.Subscript a b pos) (mOp aK ma mb):=AZ cx.hK ha hb hs
theorem bR(hN:X.N.Nodup)(he:SE X T W e m)(hi:X.N[i]?=some x:=by rfl)(hx:Loc X.env.scope x:=by first | exact .inl rfl | exact .inr rfl)(hs:swapsWith e (some (.Name x pos')) pos.line X.env=pure false:=by rfl)
  (hf:X.fn x=true\/X.env.scope.names.lookup x=some .local:=by first | exact .inl rfl | exact .inr rfl | assumption):SS X T W (.Assign [.Name x pos'] e pos) (aX i m):=AN hN hi hx he hs hf
theorem sgN(hN:X.N.Nodup)(hi:X.N[i]?=some x:=by rfl)(hx:Loc X.env.scope x:=by first | exact .inl rfl | exact .inr rfl)(hf:X.fn x=true\/X.env.scope.names.lookup x=some .local:=by first | exact .inl rfl | exact .inr rfl | assumption):SG X T (.Name x pos) (tgN i):=yu hN hi hx hf
theorem bO(h:k<=i:=by decide):gg (tgN i) k:=uF h
theorem qh(cx:Ctx X T W kk)(he:SE X T W e m)(hN:X.N[i]?=some x:=by rfl)(hv:Vis X.env.scope x:=by first | exact Or.inl rfl | exact Or.inr (Or.inl rfl) | exact Or.inr (Or.inr rfl))
  (hs:swapsWith (.Call (.Attribute (.Name x px) "append" apos) [e] [] cpos) none pos.line X.env=pure false:=by rfl) (hst:starEach [e] X.env=[(false,eval e X.env)]:=by rfl)
  (hfew:((backTo cpos (starEach [e] X.env)).all (fun x=>!x.1)&&(backToKw cpos (keywordEach [] X.env)).all (fun x=>x.1.isSome)&&decide ([e].length+([]:List Keyword).length+(if([]:List Keyword).isEmpty then 0 else 1) < 30))=true:=by rfl)
  (hline:(apos.endLine==cpos.line)=true:=by rfl) (hd:(x ==("__debug__" : Str))=false:=by decide) (hcd:(x ==("__classdict__" : Str))=false:=by decide) :
  SS X T W (.Expr (.Call (.Attribute (.Name x px) "append" apos) [e] [] cpos) pos) (da i m):=sM cx.hK hN hv he hs hst hfew hline hd hcd
theorem sFld(k:Nat)(t:Tx p X.K X.mg)(cx:Ctx X (p.T hA X.K) W kk)(he:SE X (p.T hA X.K) W e m)(hf:jB p.A k=f:=by rfl)(hm:f∈p.A:=by decide)(hN:X.N[i]?=some x:=by rfl)
  (hv:Vis X.env.scope x:=by first | exact Or.inl rfl | exact Or.inr (Or.inl rfl) | exact Or.inr (Or.inr rfl))
  (hs:swapsWith e (some (.Attribute (.Name x px) f pos')) pos.line X.env=pure false:=by rfl) (hd:(x ==("__debug__" : Str))=false:=by decide) (hcd:(x ==("__classdict__" : Str))=false:=by decide) :
  SS X (p.T hA X.K) W (.Assign [.Attribute (.Name x px) f pos'] e pos) (fJ i k m):=AO cx.hK hf (t.cls _) (fun c _=>t.cn c f hm) hN hv he hs hd hcd
theorem b0(c:Nat)(t:Tx p X.K X.mg)(cx:Ctx X (p.T hA X.K) W k)(hB:X.K.In X.base)(hx:XM X (p.T hA X.K) W)(ha:SA X (p.T hA X.K) W (e::es) ms)
  (hm:pk ("" : Str) p.X c=x:=by rfl) (hg:Gl X x:=by rfl) (hn:gB ms n:=by repeat' first | exact eU | apply dM) (hn2:n<=100:=by decide) (hd:(x ==("__debug__" : Str))=false:=by decide)
  (he:starEach (e::es) X.env=(false,eval e X.env)::starEach es X.env:=by rfl) (hpl:(backTo cpos (starEach es X.env)).any (·.1)=false:=by rfl) :
  SS X (p.T hA X.K) W (.Raise (some (.Call (.Name x np) (e::es) [] cpos)) none pos) (bh c ms) :=
 sL cx (by subst hm;exact t.xg c) hB (zP (t.xe c)).2 hx hg hn hn2 ha hd he hpl
theorem oy(c:Nat)(t:Tx p X.K X.mg)
  (G:cN X.prog X.w X.K X.mg X.base (CXP X.prog X.w) k (p.fa X.K i) (dAt X.K (p.fa X.K i)) (p.ps i) (spI (p.T hA X.K) (p.ps i).length m)) (cx:Ctx X (p.T hA X.K) W kk) (ha:SA X (p.T hA X.K) W es ms)
  (hU:(c,i)∈ p.U:=by decide) (hk:k<=kk:=by decide) (hx:pk ("" : Str) p.C c=x:=by rfl) (hg:Gl X x:=by rfl) (hN:X.N[0]?=some y:=by rfl) (hv:Vis X.env.scope y:=by first | exact Or.inl rfl | exact Or.inr (Or.inl rfl) | exact Or.inr (Or.inr rfl))
  (hn:gB ms n:=by repeat' first | exact eU | apply dM) (hps:n+1=(p.ps i).length:=by rfl)
  (hdb:(x ==("__debug__" : Str))=false:=by decide) (hdy:(y ==("__debug__" : Str))=false:=by decide) (hcy:(y ==("__classdict__" : Str))=false:=by decide)
  (hst:starEach (.Name y px::es) X.env=(false,eval (.Name y px) X.env)::starEach es X.env:=by rfl) (hpl:(backTo pos (starEach es X.env)).any (·.1)=false:=by rfl)
  (ht:eval (.Call (.Attribute (.Name x q) "__init__" apos) (.Name y px::es) [] pos) X.env=(do
   let ov <- eval (.Name x q) X.env
   standAt apos.atName
   let(f,first) <- holding [ov] (getMethod ov "__init__" pl)
   callWith pos f first (backTo pos (starEach (.Name y px::es) X.env)) (backToKw pos (keywordEach [] X.env))):=by rfl)
  (hs:swapsWith (.Call (.Attribute (.Name x q) "__init__" apos) (.Name y px::es) [] pos) none pos'.line X.env=pure false:=by rfl) :
  SS X (p.T hA X.K) W (.Expr (.Call (.Attribute (.Name x q) "__init__" apos) (.Name y px::es) [] pos) pos') (gz m ms) :=
 AM (pl:=pl) cx (t.su _ hU) G hk hg (by subst hx;exact t.cg c) (t.bn i) hN hv hn hps ha hdb hdy hcy hst hpl ht hs
variable{T:Tb}
abbrev nmC(X:Cx)(caps:List Nat)(tn:List Str):List Str:=caps.map (fun i=>X.N.getD i "")++ tn
theorem cOf(h:k9 X.env.scope scope X.N caps (nmC X caps tn) tn=true):dR X scope caps (nmC X caps tn) tn:=z7 h rfl rfl
theorem dq(tn:List Str)(cx:Ctx X T W kk)(hi:SIc X T W tg iter mi)(hk:gg g caps.length)
  (hb:∀C s H ex,(nmC X caps tn).Nodup->SG (cxC X scope C (nmC X caps tn) s H ex) T tg g/\STs (cxC X scope C (nmC X caps tn) s H ex) T WF ifs mc/\SE (cxC X scope C (nmC X caps tn) s H ex) T WF elt me)
  (h:k9 X.env.scope scope X.N caps (nmC X caps tn) tn=true:=by kernel_rfl) (hs:∀x,foldedSetIterable iter X.env x=pure x:=by intro _;rfl):SE X T W (.ListComp elt [⟨tg,iter,ifs,0⟩] scope pos) (aT caps tn.length mi g mc me) :=
 yC (cOf h) cx.calm hi hk (fun C s H ex=>hb C s H ex (cOf h).nd) hs
theorem cW(tn:List Str)(cx:Ctx X T W kk)(hN:X.N.Nodup)(hi:SIc X T W tg iter mi)(hk:gg g caps.length)
  (hb:∀C s H ex,(nmC X caps tn).Nodup->SG (cxC X scope C (nmC X caps tn) s H ex) T tg g/\STs (cxC X scope C (nmC X caps tn) s H ex) T WF ifs mc/\SE (cxC X scope C (nmC X caps tn) s H ex) T WF elt me)
  (h:k9 X.env.scope scope X.N caps (nmC X caps tn) tn=true:=by kernel_rfl) (hy:X.N[i]?=some y:=by rfl) (hx:Loc X.env.scope y:=by first | exact .inl rfl | exact .inr rfl)
  (hsw:swapsWith (.ListComp elt [⟨tg,iter,ifs,0⟩] scope pos) (some (.Name y py)) spos.line X.env=pure true:=by rfl)
  (hs:∀x,foldedSetIterable iter X.env x=pure x:=by intro _;rfl)
  (hf:X.fn y=true\/X.env.scope.names.lookup y=some .local:=by first | exact .inl rfl | exact .inr rfl | assumption) :
  SS X T W (.Assign [.Name y py] (.ListComp elt [⟨tg,iter,ifs,0⟩] scope pos) spos) (aX i (aT caps tn.length mi g mc me)) :=
 yo (cOf h) cx.calm hN hy hx hi hk (fun C s H ex=>hb C s H ex (cOf h).nd) hsw hs hf
end
end PR
namespace PR
open PySem PySem.Spec L2 PyProof.Rows
theorem pW{P:Program}{w:World}{K:PySem.W.Frag}(it:Addr):qX P w K tg (Itr 0 0) [it] it (fun _ h=>IsLongIter h it 0 0 1) where
 mem:=by simp
 obj:=fun i h st b hb=>by
  have e:b=it:=by simpa using hb
  subst e
  exact ⟨_,st,fun v z=>by
   have z':Data.fields _=Data.cell v:=z
   cases z'⟩
 keep:=fun i h h' st k=>k it (by simp) _ st
 item:=by
  intro X hP hw hK hc i pins s σ H E I hf st hg
  exact absurd hg (Nat.not_lt_zero i)
 done:=by
  intro X hP hw hK hc i pins s σ H E I hf st hg
  subst hP hw hK
  obtain⟨f0,f1,f2,f3,f4,f5⟩:=hf it (by simp)
  refine wpAny_pyNext_long_end (I.ok.hd hc) st (by decide) fun h' he=>⟨rfl,?_⟩
  exact I.turned (t':=s.toks) (fun b o hb e=>he b o hb e) f0 f1 f3 f4 f5
 self:=fun _ _ _ _ _ st h=>wpAny_pyIter_longiter st h
theorem qm(I:Inv X pins σ H s)(h:hi<=0)
  (q:R (Itr 0 0) H):wpAny (model X.prog X.w) X.A (pyIter (.ref s.heap.objs.size)) (PIE X pins σ tg R) E { s with heap:=s.heap.push { cls:=.type "range", data:=.fields #[.int 0 t,.int hi u,.int 1 v] },toks:=tk }:=by
 have I1:Inv X pins σ H { s with heap:=s.heap.push { cls:=.type "range", data:=.fields #[.int 0 t,.int hi u,.int 1 v] },toks:=tk }:=I.kept fun b o e=>Heap.get?_push_of_some _ e
 have sz:Builtin.Range.rangeSize 0 hi 1=0:=by rw[rangeSize_one];split<;>omega
 cases hs:Builtin.Range.small 0 hi 1 with
 | true =>
  refine wpAny_pyIter_range (IsRange.new ..) hs ?_
  refine ⟨(s.heap.push { cls:=.type "range", data:=.fields #[.int 0 t,.int hi u,.int 1 v] }).objs.size,[(s.heap.push { cls:=.type "range", data:=.fields #[.int 0 t,.int hi u,.int 1 v] }).objs.size],_,_,H,rfl,
   I1.kept (t':=tk) fun b o e=>Heap.get?_push_of_some _ e,kr _ 0 0,?_,fun b hb=>?_,q⟩
  ·show IsRangeIter _ _ (0+((0:Nat):Int) * 1) (((0:Nat):Int) - ((0:Nat):Int)) 1
   rw[sz]
   exact Heap.get?_push_size _ rfl
  ·have e:b=(s.heap.push { cls:=.type "range", data:=.fields #[.int 0 t,.int hi u,.int 1 v] }).objs.size:=by simpa using hb
   subst e
   exact I1.fpOk (Nat.le_refl _) (I1.hok.fresh (Nat.le_refl _))
 | false =>
  refine wpAny_pyIter_longrange (IsRange.new ..) hs ?_
  refine ⟨(s.heap.push { cls:=.type "range", data:=.fields #[.int 0 t,.int hi u,.int 1 v] }).objs.size,[(s.heap.push { cls:=.type "range", data:=.fields #[.int 0 t,.int hi u,.int 1 v] }).objs.size],_,_,H,rfl,
   I1.kept (t':=tk) fun b o e=>Heap.get?_push_of_some _ e,pW _,?_,fun b hb=>?_,q⟩
  ·show IsLongIter _ _ 0 0 1
   rw[sz]
   exact Heap.get?_push_size _ rfl
  ·have e:b=(s.heap.push { cls:=.type "range", data:=.fields #[.int 0 t,.int hi u,.int 1 v] }).objs.size:=by simpa using hb
   subst e
   exact I1.fpOk (Nat.le_refl _) (I1.hok.fresh (Nat.le_refl _))
section
variable{X:Cx}{tg:Expr}
def Fd(ta:TA):TI:=fun σ H R=>ta σ H fun vs H1=>∃j:Int,vs=[.int j]/\j < 2 ^ 62/\R (Itr 0 j.toNat) H1
theorem tm(hg:Gl X "range")(hm:X.mg "range" = none)(ha:PA X [a] ta)(hs:starEach [a] X.env=[(false,eval a X.env)]:=by rfl):PI X tg (.Call (.Name "range" p) [a] [] pos) (Fd ta):=by
 intro pins s σ H R I h
 refine Call_ (fv I hg hm boot_range (PyProof.Rows.callWith_type1 (thn (ha pos pins s σ H _ I h) fun us s1 ⟨vs,H1,I1,r1,q1⟩=>?_) hs rfl))
 obtain⟨j,e,q2,q⟩:=q1
 subst e
 cases r1 with
 | cons r rr =>
  cases rr
  obtain⟨t,rfl⟩:=r
  by_cases q1:-(2 ^ 62)<= j
  ·exact call_range_1 (kG I1 (by omega) (by omega) q1 q2 (by simpa using q))
  ·have e0:j.toNat=0:=by omega
   rw[e0]at q
   exact call_range_1 (qm (hi:=j) I1 (by omega) q)
variable{T:Tb}{W:Nat->L2.St->Hp->Prop}{F1 B:Addr->Prop}{H1:Hp}
def oZ(ms:MA):MI:=fun env=>(ms env).bind fun xs=>match xs with
 | [.int n]=>if n < 1000000 then .ok (b5 0 n.toNat)else .stuck
 | _=>.stuck
theorem qc(hg:Gl X "range")(hm:X.mg "range" = none)(ha:SA X T W [a] ms)(hs:starEach [a] X.env=[(false,eval a X.env)]:=by rfl):SIc X T W tg (.Call (.Name "range" p) [a] [] pos) (oZ ms):=fun pins s σ H R I h=>tm hg hm ha hs pins s σ H R I (by
 obtain⟨Z,F,env,fp,S,q⟩:=h
 unfold oZ at q
 refine tA.bind S (fun c e=>by rw[e]at q;exact q) (fun e=>by rw[e]at q;exact q) fun xs vs H1 F1 f1 e1 g1 r1 n1 d1 w1=>?_
 rw[e1]at q
 simp only[Res.ok_bind]at q
 split at q
 ·rename_i n
  split at q
  ·rename_i hc
   obtain⟨v,rfl,r2⟩:=r1.one
   unfold Rel at r2
   obtain⟨rfl,_⟩:=r2
   exact⟨n,rfl,by omega,q _ H1 F1 g1 sd⟩
  ·exact q.elim
 ·exact q.elim)
end
end PR
namespace PR
open PySem PySem.Spec L2
section
variable{X:Cx}{T:Tb}{W:Nat->St->Hp->Prop}{Z:Zn}{F:Addr->Prop}{H:Hp}{σ:St}{env:En}{fp:Nat->List Addr}
inductive x_(X:Cx)(T:Tb)(n:Str)(c:Nat)(mh:MS):List ExceptHandler->Prop
 | hit {cn:Str}{CC:Addr}{pc hp:Pos}{b₀:Stmt}{suite:List Stmt}{a_:List ExceptHandler} (hg:Gl X cn) (hm:X.mg cn=some (.ref CC)) (hh:PySem.W.exmOne T.K (.ref (T.xcl c)) (.ref CC)=some true)
   (hs:∀e,SSs (X.hanX e) T WF (b₀::suite) mh) (hd:(cn ==("__debug__" : Str))=false):x_ X T n c mh (.ExceptHandler (some (.Name cn pc)) (some n) (b₀::suite) hp::a_)
 | miss {cn:Str}{CC:Addr}{pc hp:Pos}{nm:Option Str}{bd:List Stmt}{a_:List ExceptHandler} (hg:Gl X cn) (hm:X.mg cn=some (.ref CC)) (hh:PySem.W.exmOne T.K (.ref (T.xcl c)) (.ref CC)=some false)
   (hd:(cn ==("__debug__" : Str))=false) (r:x_ X T n c mh a_):x_ X T n c mh (.ExceptHandler (some (.Name cn pc)) nm bd hp::a_)
end
open PySem.W (findIn fnOf keepIn nsIn codeIn isFn Frag)
structure PE where
 D:List (FS×Bool)
 G:List (Str×List (Str×Int))
def dfA(K:Frag)(f:Addr):Addr:=match (dAt K f).defaults with
 | .ref a=>a
 | _=>0
def zA(x:FS)(a:Addr):Obj->Obj
 |⟨oc,od,.func d,sl⟩=>⟨oc,od,.func (fnOf (bF x.s) x.q (cQ x.s) (bG x.s) (ax x.s) (.ref a) d.kwdefaults d.doc d.pyModule d.annotations d.code d.closureTuple),sl⟩
 | o=>o
def D6(b:Bool):Option Obj->Bool
 | some ⟨_,_,.seq a _,_⟩=>decide (a.toList=[.bool b])
 | _=>false
def qS(P:Params):List DictEntry->List (Str×Int)->List DictEntry
 |⟨_,.str _ t,.int _ u⟩::es,(k,v)::kvs=>⟨PyData.keyHash P k,.str k t,.int v u⟩::qS P es kvs
 | _,_=>[]
theorem zT:(qS P es kvs).length=kvs.length->pE P (qS P es kvs) kvs:=by
 fun_induction qS P es kvs with
 | case1=>rename_i ih;exact fun e=>⟨⟨_,_,rfl⟩,ih (by simpa using e)⟩
 | case2 =>
  intro e
  have e:=List.eq_nil_of_length_eq_zero e.symm
  subst e;trivial
def E2(P:Params)(kvs:List (Str×Int)):Obj->Obj
 |⟨_,_,.dict es ep,_⟩=>{ cls:=.type "dict", dict:=none,data:=.dict (qS P es.toList kvs).toArray ep,slots:=#[] }
 | o=>o
def okG(P:Params)(kvs:List (Str×Int)):Option Obj->Bool
 | some ⟨_,_,.dict es _,_⟩=>decide ((qS P es.toList kvs).length=kvs.length)
 | _=>false
structure FD(p:PT)(K:Frag)(mg:Str->Option Value)(y:FS×Bool):Prop where
 fn:ya K (bF y.1.s) y.1.q y.1.s (p.fx K y.1) (dAt K (p.fx K y.1)) (dfA K (p.fx K y.1)) [.bool y.2]
 sc:cR y.1.N (y.1.N.take y.1.k) (ax y.1.s)
 bn:d_ K (dAt K (p.fx K y.1)) (y.1.N.take y.1.k) []
 gl:mg (bF y.1.s)=some (.ref (p.fx K y.1))
structure Ty(p:PT)(q:PE)(w:World)(K:Frag)(mg:Str->Option Value):Prop where
 tx:Tx p K mg
 fd:∀y∈q.D,FD p K mg y
 dc:∀y∈q.G,mg y.1=some (.ref (gAt K y.1))/\yb w K (gAt K y.1) y.2
def FF(y:FS×Bool):Prop:=∀(dT:Addr) (kV doc pm:Value) (an:Option Addr) (cdv ct:Value) (us:List Value),(us++[]).length=(y.1.N.take y.1.k).length ->
 ∃k:Option (Array Value)->Sem (List (Str×Value)),bindArgs (fnOf (bF y.1.s) y.1.q (cQ y.1.s) (bG y.1.s) (ax y.1.s) (.ref dT) kV doc pm an cdv ct) ⟨us,[]⟩=seqItems? (.ref dT) >>= k/\k (some [Value.bool y.2].toArray)=pure ((y.1.N.take y.1.k).zip (us++[]))
def Ai:List (FS×Bool)->Prop
 | []=>True
 | x::l=>FF x/\Ai l
theorem Ai.get:∀{l:List (FS×Bool)},Ai l->∀x∈l,FF x
 | [],_,_,h=>nomatch h
 | y::l,⟨h1,h2⟩,x,h=>by
  rcases List.mem_cons.mp h with rfl | h
  ·exact h1
  ·exact h2.get x h
section
variable(p:PT)(q:PE)(P:Params)(K:Frag)
def PE.ob:List (Option Obj):=q.D.map fun y=>K.lookup (p.fx K y.1)
def PE.ol:List (Option Obj):=q.D.map fun y=>(K.lookup (p.fx K y.1)).map (zA y.1 (dfA K (p.fx K y.1)))
def PE.ch:Bool:=q.D.all fun y=>p.chF K y.1&&y.1.c.isNone&&D6 y.2 (K.lookup (dfA K (p.fx K y.1)))
def PE.gb:List (Option Obj):=q.G.map fun y=>K.lookup (gAt K y.1)
def PE.gl:List (Option Obj):=q.G.map fun y=>(K.lookup (gAt K y.1)).map (E2 P y.2)
def PE.cg:Bool:=q.G.all fun y=>decide (nsIn K mainGlobals y.1=some (some (.ref (gAt K y.1))))&&!(gAt K y.1==sysModules)&&okG P y.2 (K.lookup (gAt K y.1))
end
theorem Ty.of(X:K.In h)(N:h.Ns mainGlobals mg)(t:Tx p K mg)(hb:Ai q.D)(hs:q.D.all (fun y=>scB y.1)=true)
  (e:q.ob p K=q.ol p K) (h1:q.ch p K=true) (e2:q.gb K=q.gl w.params K) (h2:q.cg w.params K=true):Ty p q w K mg:=by
 simp only[PE.ch,PE.cg,Bool.and_eq_true,List.all_eq_true,decide_eq_true_eq]at h1 h2 hs
 refine⟨t,fun y hy=>?_,fun y hy=>?_⟩
 ·obtain⟨⟨a1,a2⟩,a3⟩:=h1 y hy
  simp only[PT.chF,Bool.and_eq_true]at a1
  obtain⟨⟨⟨q1,q2⟩,q3⟩,q4⟩:=a1
  have e1:K.lookup (p.fx K y.1)=(K.lookup (p.fx K y.1)).map (zA y.1 (dfA K (p.fx K y.1))):=List.map_inj_left.mp e y hy
  have F:ya K (bF y.1.s) y.1.q y.1.s (p.fx K y.1) (dAt K (p.fx K y.1)) (dfA K (p.fx K y.1)) [.bool y.2]:=by
   have dl:∃(o:Obj) (n:Nat),K.lookup (dfA K (p.fx K y.1))=some o/\o.data=.seq [Value.bool y.2].toArray n:=by
    unfold D6 at a3
    split at a3
    ·rename_i a n _ eo
     exact⟨_,n,eo,by rw[<- of_decide_eq_true a3]⟩
    ·cases a3
   generalize dfA K (p.fx K y.1)=dT at e1 dl
   cases eo:K.lookup (p.fx K y.1)with
   | none=>rw[eo]at q1;cases q1
   | some o =>
    rw[eo]at e1 q1
    obtain⟨oc,od,dt,sl⟩:=o
    cases dt with
    | func d =>
     have e2:(⟨oc,od,.func d,sl⟩:Obj)=zA y.1 dT ⟨oc,od,.func d,sl⟩:=Option.some.inj e1
     simp only[zA,Obj.mk.injEq,Data.func.injEq,true_and,and_true]at e2
     have ed:dAt K (p.fx K y.1)=d:=by unfold dAt;rw[eo]
     rw[ed]at q2 ⊢
     exact⟨⟨oc,od,d.kwdefaults,d.doc,d.pyModule,d.annotations,d.code,d.closureTuple,sl,e2,eo,q2⟩,q3,dl⟩
    | _=>cases q1
  have sc:cR y.1.N (y.1.N.take y.1.k) (ax y.1.s):=by
   have q:=hs y hy
   simp only[scB,Bool.and_eq_true,decide_eq_true_eq,List.all_eq_true,Bool.not_eq_true']at q
   obtain⟨⟨⟨⟨⟨⟨q1,q2⟩,q3⟩,q4⟩,q5⟩,q6⟩,q7⟩:=q
   exact⟨q1,q2,q3,q4,by rw[List.length_take,Nat.min_eq_left q5],q6,q7⟩
  refine⟨F,sc,F.binds (es:=[]) (hb.get y hy _),?_⟩
  rw[Option.isNone_iff_eq_none.mp a2]at q4
  exact PySem.W.mg_of X N (of_decide_eq_true q4)
 ·obtain⟨⟨a1,a2⟩,a3⟩:=h2 y hy
  refine⟨PySem.W.mg_of X N a1,by simpa using a2,?_⟩
  have e1:K.lookup (gAt K y.1)=(K.lookup (gAt K y.1)).map (E2 w.params y.2):=List.map_inj_left.mp e2 y hy
  unfold okG at a3
  split at a3
  ·rename_i a b es ep sl eo
   rw[eo]at e1
   exact⟨qS w.params es.toList y.2,ep,by rw[eo];exact e1,zT (of_decide_eq_true a3)⟩
  ·cases a3
open PySem.W (fnOf Frag)
section
variable{env e e':En}{v:PV}{i:Nat}{r:Out}
@[simp] theorem wT:mC v env=.ok v:=rfl
@[simp] theorem cL:am env=.ok []:=rfl
@[simp] theorem bV:ae a m env=(a env).bind fun x=>(m env).bind fun xs=>.ok (x::xs):=rfl
@[simp] theorem Fr:mUn f a env=(a env).bind f:=rfl
@[simp] theorem gY:mOp f a b env=(a env).bind fun x=>(b env).bind fun y=>f x y:=rfl
@[simp] theorem cP:ap f m env=(m env).bind f:=rfl
@[simp] theorem qR:eJ m env=(m env).bind fun xs=>.ok (.lst .own xs):=rfl
@[simp] theorem Cz:jg m env=(m env).bind fun xs=>.ok (.tup xs):=rfl
@[simp] theorem zR:kQ a env=(a env).bind fun b=>.ok (!b):=rfl
@[simp] theorem wR:dL a env=(a env).bind m9:=rfl
@[simp] theorem G8:uH a c env=(a env).bind (oN c):=rfl
@[simp] theorem jP:jk env=.ok none:=rfl
@[simp] theorem zQ:bH env=.ok true:=rfl
def zc:Option (Option PV)->Res PV
 | some (some v)=>.ok (v.mapF Fl.lend)
 | _=>.stuck
@[simp] theorem tH(v:PV):zc (some (some v))=.ok (v.mapF Fl.lend):=rfl
@[simp] theorem dN:ac i env=zc env[i]?:=by
 unfold ac
 cases env[i]? with
 | none=>rfl
 | some w=>cases w<;>rfl
def pBl:PV->Res Bool
 | .bl b=>.ok b
 | _=>.stuck
@[simp] theorem GL(b:Bool):pBl (.bl b)=.ok b:=rfl
@[simp] theorem km:av a env=(a env).bind pBl:=by
 rfl
def El:PV->Res PV
 | .bl b=>.ok (.bl (!b))
 | _=>.stuck
@[simp] theorem FL(b:Bool):El (.bl b)=.ok (.bl (!b)):=rfl
@[simp] theorem Gj:rZ a env=(a env).bind El:=by
 rfl
def vy(r:Res PV):PV->Res PV
 | .bl b=>if b then r else .ok (.bl false)
 | _=>.stuck
@[simp] theorem FM(r:Res PV)(b:Bool):vy r (.bl b)=if b then r else .ok (.bl false):=rfl
@[simp] theorem Gm:j5 a b env=(a env).bind (vy (b env)):=by
 unfold j5
 congr 1
 funext x
 cases x with
 | bl b=>cases b<;>rfl
 | _=>rfl
def pOr(r:Res PV):PV->Res PV
 | .bl b=>if b then .ok (.bl true)else r
 | _=>.stuck
@[simp] theorem GH(r:Res PV)(b:Bool):pOr r (.bl b)=if b then .ok (.bl true)else r:=rfl
@[simp] theorem G7:tY a b env=(a env).bind (pOr (b env)):=by
 unfold tY
 congr 1
 funext x
 cases x with
 | bl b=>cases b<;>rfl
 | _=>rfl
@[simp] theorem Fs:v9 f g a b c env=(a env).bind fun x=>(b env).bind fun y=>(f x y).bind (vy ((c env).bind fun z=>g y z)):=by
 unfold v9
 congr 1
 funext x
 congr 1
 funext y
 congr 1
 funext z
 cases z with
 | bl b=>cases b<;>rfl
 | _=>rfl
@[simp] theorem Fb(g:Int->Int->PV)(i j:Int):kL g (.int i) (.int j)=.ok (g i j):=rfl
def Aq:PV->Res (Option Int)
 | .int i=>.ok (some i)
 | _=>.stuck
@[simp] theorem Dv(i:Int):Aq (.int i)=.ok (some i):=rfl
@[simp] theorem jx:iy a env=(a env).bind Aq:=by
 rfl
def Ep(l h:Option Int):PV->Res PV
 | .lst _ xs=>.ok (.lst .own (jy xs l h))
 | _=>.stuck
@[simp] theorem Eo(l h:Option Int)(f:Fl)(xs:List PV):Ep l h (.lst f xs)=.ok (.lst .own (jy xs l h)):=rfl
@[simp] theorem gX:gR o lo hi env=(o env).bind fun x=>(lo env).bind fun l=>(hi env).bind fun h=>Ep l h x:=by
 rfl
def aB(v:PV):Res PV:=if v.has Fl.isBor then .stuck else .ok v
@[simp] theorem w_:aO f xs=(f (mapL Fl.toBor xs)).bind aB:=by
 unfold aO
 cases f (mapL Fl.toBor xs)<;>rfl
def iH(disp:Nat->Option (List PV->Res PV))(r:Res (List PV)):PV->Res PV
 | .obj fl c ks vs=>match disp c with
  | some m=>r.bind fun xs=>aO m (.obj fl c ks vs::xs)
  | none=>.stuck
 | _=>.stuck
@[simp] theorem Em(disp:Nat->Option (List PV->Res PV))(r:Res (List PV))(fl:Fl)(c:Nat)(ks:List Nat)(vs:List PV):iH disp r (.obj fl c ks vs)=match disp c with
  | some m=>r.bind fun xs=>aO m (.obj fl c ks vs::xs)
  | none=>.stuck:=rfl
@[simp] theorem CA:b6 disp o ms env=(o env).bind (iH disp (ms env)):=by
 unfold b6
 congr 1
 funext x
 cases x<;>rfl
@[simp] theorem Gh:eZ m env=(m env).bind fun x=>match x with
 | .lst f xs=>if !f.isLnt&&dJ xs then .ok xs else .stuck
 | .tup xs=>if dJ xs then .ok xs else .stuck
 | _=>.stuck:=rfl
def vx(x:PV):Res (List PV):=match aQ x with
 | some xs=>.ok xs
 | none=>.stuck
@[simp] theorem Dx(f:Fl)(xs:List PV):vx (.lst f xs)=.ok xs:=rfl
@[simp] theorem Dw(xs:List PV):vx (.tup xs)=.ok xs:=rfl
@[simp] theorem Gi:ck m env=(m env).bind vx:=rfl
@[simp] theorem Gk:gp a b env=(a env).bind fun x=>if x then b env else .ok false:=rfl
@[simp] theorem G6:jh a b env=(a env).bind fun x=>if x then .ok true else b env:=rfl
@[simp] theorem G9:v7 c a b env=(c env).bind fun x=>if x then a env else b env:=rfl
@[simp] theorem wS:iN c f m env=(m env).bind fun xs=>aO f (.obj .own c [] []::xs):=rfl
theorem ag(h1:a env=.next e)(h2:b e=r):ar a b env=r:=by unfold ar;rw[h1];exact h2
theorem c9(h1:a env=.ret v):ar a b env=.ret v:=by unfold ar;rw[h1]
theorem im(h:c env=.ok true)(h2:a env=r):mBr c a b env=r:=by unfold mBr;rw[h];exact h2
theorem bL(h:c env=.ok false)(h2:b env=r):mBr c a b env=r:=by unfold mBr;rw[h];exact h2
theorem AC(h:c env=.ok x):mBr c a b env=if x then a env else b env:=by unfold mBr;rw[h];cases x<;>rfl
theorem aA(h:m env=.ok v)(hl:v.noLnt=true)(ho:aL i env=true):aX i m env=.next (env.set i (some v)):=by
 unfold aX;rw[h];simp[hl,ho]
theorem aZ(h:m env=.ok v)(hl:v.noLnt=true):br m env=.ret v:=by unfold br;rw[h];simp[hl]
theorem ef(h:env[i]?=some (some v)):dY i env=.ret v:=by unfold dY;rw[h]
theorem gd(h:m env=.ok v):gS m env=.next env:=by unfold gS;rw[h]
theorem az:aY env=.next env:=rfl
theorem bz(h:m env=.ok v)(ho:env[i]?=some (some (.obj .own c ks vs)))(hl:v.noLnt=true)(hk:ks.contains k=false)(hn:ks.length < 900) :
  fJ i k m env=.next (env.set i (some (.obj .own c (ks++[k]) (vs++[v])))):=by
 unfold fJ;rw[h,ho];simp only[hl,hk];simp[hn]
theorem dQ(h:m env=.ok v)(ho:env[i]?=some (some (.lst .own xs)))(hl:v.noLnt=true)(hn:xs.length < 10000000):da i m env=.next (env.set i (some (.lst .own (xs++[v])))):=by
 unfold da;rw[h,ho];simp[hl,hn]
theorem ow(h:m env=.ok v)(ho:env[i]?=some (some (.lst .own xs)))(hk:mk env=.ok (.int j))(hj:ixN xs.length j=some n)(hl:v.noLnt=true) :
  iM i mk m env=.next (env.set i (some (.lst .own (xs.set n v)))):=by
 unfold iM;rw[h,ho,hk];simp[hj,hl]
theorem eC(h:env[i]?=some (some v)):gA i env=.next (env.set i (some (v.mapF Fl.freeze))):=by unfold gA;rw[h]
theorem aw(h:m (args.map some++List.replicate (n - args.length) none)=.ret v):a5 n m args=.ok v:=by unfold a5;rw[h]
theorem lS(h:m (args.map some++List.replicate (n - args.length) none)=.next e):a5 n m args=.ok .non:=by unfold a5;rw[h]
theorem cu(h:m (args.map some++List.replicate (n - args.length) none)=.next e)(ho:e[0]?=some (some v)):ij n m args=.ok v:=by unfold ij;rw[h];simp[ho]
theorem jw(P:Nat->En->Prop)(h:it env=.ok xs)(h0:P 0 env)
  (step:∀(k:Nat) (x:PV) (e:En),xs[k]?=some x->P k e->∃e1 e2,g x e=some e1/\(body e1=.next e2\/body e1=.cont e2)/\P (k+1) e2):∃e2,cO it g body env=.next e2/\P xs.length e2:=by
 unfold cO
 rw[h]
 dsimp only
 have key:∀ (ys pre:List PV) (e:En),pre ++ ys=xs->P pre.length e->∃ e2,lx (fun x e=>match g x e with
  | some e'=>body e'
  | none=>.stuck) ys e=.next e2/\P xs.length e2:=by
  intro ys
  induction ys with
  | nil=>intro pre e hp hP;simp at hp;subst hp;exact⟨e,rfl,hP⟩
  | cons y ys ih =>
   intro pre e hp hP
   obtain⟨e1,e2,h1,h2,h3⟩:=step pre.length y e (by rw[<- hp];simp) hP
   obtain⟨e3,h4,h5⟩:=ih (pre++[y]) e2 (by rw[<- hp];simp) (by simpa using h3)
   refine⟨e3,?_,h5⟩
   unfold lx
   simp only[h1]
   rcases h2 with h2 | h2<;>rw[h2]<;>exact h4
 exact key xs [] env rfl h0
theorem kj(P:Nat->En->Prop)(R:Out->Prop)(h:it env=.ok xs)(h0:P 0 env)
  (step:∀(k:Nat) (x:PV) (e:En),xs[k]?=some x->P k e->∃e1,g x e=some e1/\((∃e2,(body e1=.next e2\/body e1=.cont e2)/\P (k+1) e2)\/(∃e2,body e1=.brk e2/\R (.next e2))\/(∃v,body e1=.ret v/\R (.ret v))\/ ∃c e2,body e1=.exc c e2/\R (.exc c e2)))
  (fin:∀e,P xs.length e->R (.next e)):R (cO it g body env):=by
 unfold cO
 rw[h]
 dsimp only
 have key:∀ (ys pre:List PV) (e:En),pre ++ ys=xs->P pre.length e->R (lx (fun x e=>match g x e with
  | some e'=>body e'
  | none=>.stuck) ys e):=by
  intro ys
  induction ys with
  | nil=>intro pre e hp hP;simp at hp;subst hp;exact fin e hP
  | cons y ys ih =>
   intro pre e hp hP
   obtain⟨e1,h1,h2⟩:=step pre.length y e (by rw[<- hp];simp) hP
   unfold lx
   simp only[h1]
   rcases h2 with⟨e2,h2,h3⟩ |⟨e2,h2,h3⟩ |⟨v,h2,h3⟩ |⟨c,e2,h2,h3⟩
   ·have:=ih (pre++[y]) e2 (by rw[<- hp];simp) (by simpa using h3)
    rcases h2 with h2 | h2<;>rw[h2]<;>exact this
   ·rw[h2];exact h3
   ·rw[h2];exact h3
   ·rw[h2];exact h3
 exact key xs [] env rfl h0
theorem aM(h:mi env=.ok xs)(hl:xs.length<=10000000)(hc:cY g mc me (bB caps k env) xs=.ok ys):aT caps k mi g mc me env=.ok (.lst .own ys):=by
 unfold aT;rw[h];simp only[Res.ok_bind,hl,if_true,hc]
theorem a6{α:Type}{a:α->PV}{f:α->PV}:∀(xs:List α),(∀x∈xs,∃e1,g (a x).borrow env=some e1/\me e1=.ok (f x)/\(f x).has Fl.isBor=false/\(f x).has Fl.isLnt=false)->
  cY g bH me env (xs.map a)=.ok (xs.map f)
 | [],_=>rfl
 | x::xs,h=>by
  obtain⟨e1,h1,h2,h3,h4⟩:=h x List.mem_cons_self
  rw[List.map_cons,cY,h1]
  simp only[zQ,Res.ok_bind,if_true,h2,h3,h4,Bool.or_self,Bool.false_eq_true,if_false,a6 xs fun y hy=>h y (List.mem_cons_of_mem _ hy)]
  rfl
theorem bW{α:Type}{a:α->PV}{f:α->PV}{p:α->Bool}:∀(xs:List α),(∀x∈xs,∃e1,g (a x).borrow env=some e1/\mc e1=.ok (p x)/\(p x=true->me e1=.ok (f x)/\(f x).has Fl.isBor=false/\(f x).has Fl.isLnt=false))->
  cY g mc me env (xs.map a)=.ok ((xs.filter p).map f)
 | [],_=>rfl
 | x::xs,h=>by
  obtain⟨e1,h1,h2,h3⟩:=h x List.mem_cons_self
  have ih:=bW (g:=g) (mc:=mc) (me:=me) (a:=a) (f:=f) (p:=p) xs fun y hy=>h y (List.mem_cons_of_mem _ hy)
  rw[List.map_cons,cY,h1]
  cases hp:p x with
  | true =>
   obtain⟨h4,h5,h6⟩:=h3 hp
   simp only[h2,hp,Res.ok_bind,if_true,h4,h5,h6,Bool.or_self,Bool.false_eq_true,if_false,ih]
   rw[List.filter_cons_of_pos hp]
   rfl
  | false =>
   simp only[h2,hp,Res.ok_bind,Bool.false_eq_true,if_false,ih]
   rw[List.filter_cons_of_neg (by simp[hp])]
end
def iL(ns:List Int):List PV:=ns.map .int
theorem wg(ns:List Int):ns.map PV.int=iL ns:=rfl
section
variable(ns ms:List Int)(g:Fl->Fl)(p:Fl->Bool)
@[simp] theorem E_:iL []=[]:=rfl
@[simp] theorem eM(n:Int):iL (n::ns)=.int n::iL ns:=rfl
@[simp] theorem aU:(iL ns).length=ns.length:=by simp[iL]
@[simp] theorem Fa:iL ns++iL ms=iL (ns++ms):=by simp[iL]
@[simp] theorem l0(k:Nat):(iL ns).drop k=iL (ns.drop k):=by simp[iL]
@[simp] theorem t_(k:Nat):(iL ns).take k=iL (ns.take k):=by simp[iL]
@[simp] theorem wf(k:Nat):(iL ns)[k]?=(ns[k]?).map .int:=by simp[iL]
@[simp] theorem o8(k:Nat)(n:Int):(iL ns).set k (.int n)=iL (ns.set k n):=by simp[iL,List.map_set]
@[simp] theorem tW:mapL g (iL ns)=iL ns:=by
 induction ns with
 | nil=>rfl
 | cons n ns ih=>simp[mapL,PV.mapF,ih]
@[simp] theorem DL:hasL p (iL ns)=false:=by
 induction ns with
 | nil=>rfl
 | cons n ns ih=>simp[hasL,PV.has,ih]
@[simp] theorem DO:PyData.canLayAll0 (dataL (iL ns))=true:=by
 induction ns with
 | nil=>rfl
 | cons n ns ih=>simp only[eM,dataL,PV.data,PyData.canLayAll0,ih];rfl
@[simp] theorem DN:PyData.depthAll (dataL (iL ns))=0:=by
 induction ns with
 | nil=>rfl
 | cons n ns ih=>simp only[eM,dataL,PV.data,PyData.depthAll,ih];rfl
@[simp] theorem iW(i:Int):shp (.int i)=true:=rfl
@[simp] theorem GB(b:Bool):shp (.bl b)=true:=rfl
@[simp] theorem FH:shp .non=true:=rfl
@[simp] theorem ot(f:Fl):shp (.lst f (iL ns))=true:=by
 simp[shp,SeqAt.shaped,PV.data,PyData.canLay0,PyData.depth]
@[simp] theorem lN:(iL ns).all shp=true:=by
 induction ns with
 | nil=>rfl
 | cons n ns ih=>simp only[eM,List.all_cons,iW,ih];rfl
mutual
theorem pA:∀d:PyData,d.canLay0=true->PyData.eqv d d=true
 | .none,_=>rfl
 | .bool b,_ | .int b,_ | .str b,_=>by simp[PyData.eqv]
 | .list xs,h=>by
  simp only[PyData.canLay0]at h
  simp only[PyData.eqv]
  exact eqvL_self xs h
 | .tuple xs,h=>by
  simp only[PyData.canLay0]at h
  simp only[PyData.eqv]
  exact eqvL_self xs h
 | .dict xs,h=>by simp[PyData.canLay0]at h
theorem eqvL_self:∀ds:List PyData,PyData.canLayAll0 ds=true->PyData.eqvAll ds ds=true
 | [],_=>rfl
 | d::ds,h=>by
  simp only[PyData.canLayAll0,Bool.and_eq_true]at h
  simp only[PyData.eqvAll,pA d h.1,eqvL_self ds h.2]
  rfl
end
theorem zS(h:x.data=y.data)(hs:shp x=true):pEq x y=.ok (.bl true):=by
 have hy:shp y=true:=by unfold shp at hs ⊢;rw[<- h];exact hs
 have hc:=SeqAt.canLay_of_shaped hs
 unfold pEq
 rw[hs,hy,<- h,pA _ hc]
 rfl
@[simp] theorem G_(i j:Int):pEq (.int i) (.int j)=.ok (.bl (decide (i=j))):=by
 unfold pEq
 simp only[iW,Bool.and_self,if_true,PV.data,PyData.eqv]
 congr 2
@[simp] theorem GU(i j:Int):pNe (.int i) (.int j)=.ok (.bl (!decide (i=j))):=by
 unfold pNe
 simp only[iW,Bool.and_self,if_true,PV.data,PyData.eqv]
 congr 2
@[simp] theorem Ht(i j:Bool):pEq (.bl i) (.bl j)=.ok (.bl (decide (i=j))):=by cases i<;>cases j<;>rfl
@[simp] theorem Ho(i j:Bool):pNe (.bl i) (.bl j)=.ok (.bl (!decide (i=j))):=by cases i<;>cases j<;>rfl
theorem mw:PyData.eqvAll (dataL (iL ns)) (dataL (iL ms))=decide (ns=ms):=by
 induction ns generalizing ms with
 | nil=>cases ms<;>simp[dataL,PyData.eqvAll]
 | cons n ns ih =>
  cases ms with
  | nil=>simp[dataL,PyData.eqvAll]
  | cons m ms=>simp only[eM,dataL,PV.data,PyData.eqvAll,PyData.eqv,ih];by_cases h:n=m<;>simp[h]
@[simp] theorem Gn(f f':Fl):pEq (.lst f (iL ns)) (.lst f' (iL ms))=.ok (.bl (decide (ns=ms))):=by
 unfold pEq
 simp only[ot,Bool.and_self,if_true,PV.data,PyData.eqv,mw]
@[simp] theorem FO(f f':Fl):pNe (.lst f (iL ns)) (.lst f' (iL ms))=.ok (.bl (!decide (ns=ms))):=by
 unfold pNe
 simp only[ot,Bool.and_self,if_true,PV.data,PyData.eqv,mw]
@[simp] theorem lt_int(i j:Int):pLt (.int i) (.int j)=.ok (.bl (decide (i < j))):=rfl
@[simp] theorem GX(i j:Int):pLe (.int i) (.int j)=.ok (.bl (decide (i<=j))):=rfl
@[simp] theorem gt_int(i j:Int):pGt (.int i) (.int j)=.ok (.bl (decide (j < i))):=rfl
@[simp] theorem ge_int(i j:Int):pGe (.int i) (.int j)=.ok (.bl (decide (j<=i))):=rfl
@[simp] theorem Eg(i j:Int):aG (.int i) (.int j)=.ok (.int (i+j)):=rfl
@[simp] theorem sub_int(i j:Int):il (.int i) (.int j)=.ok (.int (i - j)):=rfl
@[simp] theorem neg_int(i:Int):GJ (.int i)=.ok (.int (-i)):=rfl
theorem bp(h:0 < j):bP (.int i) (.int j)=.ok (.int (i % j)):=by simp[bP,et,h]
theorem fB(h:0 < j)(h2:j < 1073741824):dW (.int i) (.int j)=.ok (.int (i / j)):=by simp[dW,et,h,h2]
theorem cU(h:(-(2 ^ 64) < i/\i < 2 ^ 64)\/(-(2 ^ 64) < j/\j < 2 ^ 64)):b8 (.int i) (.int j)=.ok (.int (i * j)):=by
 unfold b8 et
 dsimp only
 rw[if_pos (by simpa using h)]
theorem vf(h0:0<=j)(h1:j<=1000000)(h2:i.natAbs < 2 ^ 64):m_ (.int i) (.int j)=.ok (.int (i ^ j.toNat)):=by
 unfold m_ et
 dsimp only
 rw[if_pos (by simp only[decide_eq_true_eq];exact⟨h0,h1,h2⟩)]
@[simp] theorem Hm:m_ (.int 10) (.int 60)=.ok (.int (10 ^ 60)):=vf (by decide) (by decide) (by decide)
@[simp] theorem FX(f:Fl)(xs:List PV):b_ (.lst f xs)=.ok (.int xs.length):=rfl
@[simp] theorem FW(xs:List PV):b_ (.tup xs)=.ok (.int xs.length):=rfl
@[simp] theorem E3(f:Fl)(xs:List PV):iw (.lst f xs)=.ok (.lst .own xs):=rfl
@[simp] theorem GM(f:PV->Res PV)(x:PV):p1 f [x]=f x:=by simp only[p1]
@[simp] theorem F6(c:String)(i:Int):oN c (.int i)=.ok (.bl (lw "int" c)):=rfl
@[simp] theorem GZ(c:String)(i:Bool):oN c (.bl i)=.ok (.bl (lw "bool" c)):=rfl
@[simp] theorem FZ(c:String):oN c .non=.ok (.bl (lw "NoneType" c)):=rfl
@[simp] theorem F5(c:String)(f:Fl)(xs:List PV):oN c (.lst f xs)=.ok (.bl (lw "list" c)):=rfl
@[simp] theorem FY(c:String)(xs:List PV):oN c (.tup xs)=.ok (.bl (lw "tuple" c)):=rfl
@[simp] theorem DU(b:Bool):m9 (.bl b)=.ok b:=rfl
@[simp] theorem Dq(i:Int):m9 (.int i)=.ok (i != 0):=rfl
@[simp] theorem E0(i:Int):(PV.int i).mapF g=.int i:=by simp[PV.mapF]
@[simp] theorem FR(b:Bool):(PV.bl b).mapF g=.bl b:=by simp[PV.mapF]
@[simp] theorem EY:PV.non.mapF g=.non:=by simp[PV.mapF]
@[simp] theorem EW(x:Str):(PV.str x).mapF g=.str x:=by simp[PV.mapF]
@[simp] theorem E1(x:Nat):(PV.exc x).mapF g=.exc x:=by simp[PV.mapF]
@[simp] theorem EZ(f:Fl)(xs:List PV):(PV.lst f xs).mapF g=.lst (g f) (mapL g xs):=by simp[PV.mapF]
@[simp] theorem EV(xs:List PV):(PV.tup xs).mapF g=.tup (mapL g xs):=by simp[PV.mapF]
@[simp] theorem EX(f:Fl)(c:Nat)(ks:List Nat)(xs:List PV):(PV.obj f c ks xs).mapF g=.obj (g f) c ks (mapL g xs):=by simp[PV.mapF]
@[simp] theorem ET:mapL g []=[]:=by simp[mapL]
@[simp] theorem tX(x:PV)(xs:List PV):mapL g (x::xs)=x.mapF g::mapL g xs:=by simp[mapL]
@[simp] theorem Gf(i:Int):(PV.int i).has p=false:=by simp[PV.has]
@[simp] theorem G1(b:Bool):(PV.bl b).has p=false:=by simp[PV.has]
@[simp] theorem Gc:PV.non.has p=false:=by simp[PV.has]
@[simp] theorem Ga(x:Str):(PV.str x).has p=false:=by simp[PV.has]
@[simp] theorem Gg(x:Nat):(PV.exc x).has p=false:=by simp[PV.has]
@[simp] theorem Ge(f:Fl)(xs:List PV):(PV.lst f xs).has p=(p f||hasL p xs):=by simp[PV.has]
@[simp] theorem F_(xs:List PV):(PV.tup xs).has p=hasL p xs:=by simp[PV.has]
@[simp] theorem Gb(f:Fl)(c:Nat)(ks:List Nat)(xs:List PV):(PV.obj f c ks xs).has p=(p f||hasL p xs):=by simp[PV.has]
@[simp] theorem Fh:hasL p []=false:=by simp[hasL]
@[simp] theorem DM(x:PV)(xs:List PV):hasL p (x::xs)=(x.has p||hasL p xs):=by simp[hasL]
@[simp] theorem ER(x:PV):x.noLnt=!x.has Fl.isLnt:=rfl
@[simp] theorem DP(x:PV):x.borrow=x.mapF Fl.borrow:=rfl
@[simp] theorem E4:Fl.own.lend=.lnt:=rfl
@[simp] theorem E6:Fl.frz.lend=.frz:=rfl
@[simp] theorem E7:Fl.bor.lend=.bor:=rfl
@[simp] theorem E5:Fl.lnt.lend=.lnt:=rfl
@[simp] theorem Dr:Fl.own.toBor=.own:=rfl
@[simp] theorem Dt:Fl.frz.toBor=.frz:=rfl
@[simp] theorem Du:Fl.bor.toBor=.bor:=rfl
@[simp] theorem Ds:Fl.lnt.toBor=.bor:=rfl
@[simp] theorem AD:Fl.own.borrow=.bor:=rfl
@[simp] theorem CK:Fl.frz.borrow=.frz:=rfl
@[simp] theorem CL:Fl.bor.borrow=.bor:=rfl
@[simp] theorem CJ:Fl.lnt.borrow=.bor:=rfl
@[simp] theorem Dz:Fl.own.isOwn=true:=rfl
@[simp] theorem DB:Fl.frz.isOwn=false:=rfl
@[simp] theorem DC:Fl.bor.isOwn=false:=rfl
@[simp] theorem DA:Fl.lnt.isOwn=false:=rfl
@[simp] theorem DD:Fl.own.isLnt=false:=rfl
@[simp] theorem DF:Fl.frz.isLnt=false:=rfl
@[simp] theorem DG:Fl.bor.isLnt=false:=rfl
@[simp] theorem DE:Fl.lnt.isLnt=true:=rfl
@[simp] theorem DH:Fl.own.isBor=false:=rfl
@[simp] theorem DJ:Fl.frz.isBor=false:=rfl
@[simp] theorem DK:Fl.bor.isBor=true:=rfl
@[simp] theorem DI:Fl.lnt.isBor=false:=rfl
@[simp] theorem Ca:Fl.own.freeze=.frz:=rfl
@[simp] theorem Cc:Fl.frz.freeze=.frz:=rfl
@[simp] theorem Cd:Fl.bor.freeze=.bor:=rfl
@[simp] theorem Cb:Fl.lnt.freeze=.lnt:=rfl
theorem gU(h0:0<=i)(h:ns[i.toNat]?=some n):aK (.lst f (iL ns)) (.int i)=.ok (.int n):=by
 have hl:i.toNat < ns.length:=(List.getElem?_eq_some_iff.mp h).1
 unfold aK
 simp only[aQ,atI,ixN,aU,h0,if_true]
 rw[if_pos (by omega)]
 simp[h]
end
section
variable{env:En}{r:Out}
def jV(o:Out)(Q:En->Prop):Prop:=∃e,(o=.next e\/o=.cont e)/\Q e
theorem cA(h1:a env=.next e)(h2:jV (b e) Q):jV (ar a b env) Q:=by
 obtain⟨e2,h3,h4⟩:=h2
 refine⟨e2,?_,h4⟩
 unfold ar
 rw[h1]
 exact h3
theorem bx(h1:o=.next e)(h2:Q e):jV o Q:=⟨e,.inl h1,h2⟩
theorem jO(P:Nat->En->Prop)(h:it env=.ok xs)(h0:P 0 env)
  (step:∀(k:Nat) (x:PV) (e:En),xs[k]?=some x->P k e->∃e1,g x e=some e1/\jV (body e1) (P (k+1))) (fin:∀e,P xs.length e->Q e):jV (cO it g body env) Q:=by
 obtain⟨e2,h1,h2⟩:=jw P h h0 fun k x e h1 h2=>by
  obtain⟨e1,h3,e2,h4,h5⟩:=step k x e h1 h2
  exact⟨e1,e2,h3,h4,h5⟩
 exact⟨e2,.inl h1,fin e2 h2⟩
theorem iY{it:MI}{g:TgM}{body a_:MS}{xs:List PV}(P:Nat->En->Prop)(h:it env=.ok xs)(h0:P 0 env)
  (step:∀(k:Nat) (x:PV) (e:En),xs[k]?=some x->P k e->∃e1,g x e=some e1/\jV (body e1) (P (k+1))) (fin:∀e,P xs.length e->a_ e=r):ar (cO it g body) a_ env=r:=by
 obtain⟨e2,h1,h2⟩:=jw P h h0 fun k x e h1 h2=>by
  obtain⟨e1,h3,e2,h4,h5⟩:=step k x e h1 h2
  exact⟨e1,e2,h3,h4,h5⟩
 exact ag h1 (fin e2 h2)
theorem qJ(h:-1000000<=i/\i<=1000000):inR i=true:=by
 have e:(2:Int) ^ 62=4611686018427387904:=by decide
 unfold inR
 rw[decide_eq_true_eq,e]
 omega
theorem yL(hi:inR n=true)(h:ms env=.ok [.int n]):bI ms env=.ok (b5 0 n.toNat):=by
 unfold bI
 rw[h,Res.ok_bind]
 dsimp only
 rw[if_pos hi]
theorem uV{n:Nat}(hi:inR (n:Int)=true)(h:ms env=.ok [.int n]):bI ms env=.ok (b5 0 n):=by
 have:=yL hi h
 rw[Int.toNat_natCast]at this
 exact this
theorem BZ{n:Nat}(hn:n<=1000000):-1000000 <=(n:Int)/\(n:Int)<= 1000000:=by omega
theorem bv{n:Nat}(h:ms env=.ok [.int n])(hn:n<=1000000):bI ms env=.ok (b5 0 n):=uV (qJ (BZ hn)) h
theorem yK(hh:(inR lo&&inR hi)=true)(h:ms env=.ok [.int lo,.int hi]):j0 ms env=.ok (b5 lo (hi - lo).toNat):=by
 unfold j0
 rw[h,Res.ok_bind]
 dsimp only
 rw[if_pos hh]
theorem rH(h:ms env=.ok [.int lo,.int hi])(hl:-1000000<=lo/\lo<=1000000)(hh:-1000000<=hi/\hi<=1000000):j0 ms env=.ok (b5 lo (hi - lo).toNat) :=
 yK (by rw[qJ hl,qJ hh];rfl) h
theorem aW(lo:Int)(n:Nat):(b5 lo n).length=n:=by simp[b5]
theorem cz(h:(b5 lo n)[k]?=some x):k < n/\x=.int (lo+k):=by
 have hk:k < n:=by
  have:=(List.getElem?_eq_some_iff.mp h).1
  rwa [aW]at this
 refine⟨hk,?_⟩
 simp[b5,hk]at h
 exact h.symm
theorem nK{ns:List Int}{k:Nat}{x:PV}(h:(iL ns)[k]?=some x):∃n,ns[k]?=some n/\x=.int n:=by
 simp at h
 obtain⟨n,h1,h2⟩:=h
 exact⟨n,h1,h2.symm⟩
theorem cE(h:aL i e=true):tgN i v e=some (e.set i (some v)):=by simp[tgN,h]
end
theorem CG(ns:List Int)(lo hi:Nat){l h:Int}(hl:l=lo)(hh:h=hi):jy (iL ns) (some l) (some h)=iL ((ns.take hi).drop lo):=by
 subst hl hh
 unfold jy
 rw[HT.sIx_nat,HT.sIx_nat]
 simp only[aU,l0,t_]
 congr 1
 rw[List.drop_take]
 rcases Nat.le_total lo ns.length with h1 | h1
 ·rw[Nat.min_eq_left h1]
  rcases Nat.le_total hi ns.length with h2 | h2
  ·rw[Nat.min_eq_left h2]
  ·rw[Nat.min_eq_right h2,List.take_of_length_le (by simp),List.take_of_length_le (by simp;omega)]
 ·rw[Nat.min_eq_right h1,List.drop_eq_nil_of_le (Nat.le_refl _),List.drop_eq_nil_of_le h1]
  simp
theorem gJ(hf:f≠.mod)(hg:g≠.mod)(h:xs.length+ys.length<=10000000):aG (.lst f xs) (.lst g ys)=.ok (.lst .own (xs++ys)):=by
 unfold aG
 dsimp only
 rw[if_neg (by simp only[hf,hg,h,not_true_eq_false,or_self,not_false_eq_true])]
theorem nG(h:k < n):ixN n (k:Int)=some k:=by
 unfold ixN
 rw[if_pos (by omega),if_pos (by omega),Int.toNat_natCast]
def llL(f:Fl)(xss:List (List Int)):List PV:=xss.map fun xs=>.lst f (iL xs)
section
variable(xss yss:List (List Int))(g:Fl->Fl)(p:Fl->Bool)(f:Fl)
@[simp] theorem FU:llL f []=[]:=rfl
@[simp] theorem v_(xs:List Int):llL f (xs::xss)=.lst f (iL xs)::llL f xss:=rfl
@[simp] theorem f7:(llL f xss).length=xss.length:=by simp[llL]
@[simp] theorem FV:llL f xss++llL f yss=llL f (xss++yss):=by simp[llL]
@[simp] theorem EU:mapL g (llL f xss)=llL (g f) xss:=by
 induction xss with
 | nil=>rfl
 | cons n ns ih=>simp[ih]
theorem jv(h:p f=false):hasL p (llL f xss)=false:=by
 induction xss with
 | nil=>rfl
 | cons n ns ih=>simp[ih,h]
end
theorem A2(lo:Int)(n:Nat):b5 lo n=iL ((List.range n).map fun k=>lo+(k:Nat)):=by simp[b5,iL]
def uA(n:Nat):List Int:=(List.range n).map fun(k:Nat)=>(k:Int)
@[simp] theorem DT(n:Nat):(uA n).length=n:=by simp[uA]
theorem uU(n:Nat):b5 0 n=iL (uA n):=by rw[A2];simp[uA]
@[simp] theorem Dy{n:Nat}(h:n<=1000000):rR [.int n]=.ok (.lst .own (iL (uA n))):=by
 unfold rR
 dsimp only
 rw[if_pos (by simp;omega),Int.toNat_natCast,uU]
@[simp] theorem G0(b c:Bool):GK (.bl b) (.bl c)=.ok (.bl (b==c)):=rfl
@[simp] theorem FN(b c:Bool):kK (.bl b) (.bl c)=.ok (.bl (!(b==c))):=rfl
@[simp] theorem ii(ns:List Int):bw (iL ns)=some ns:=by
 induction ns with
 | nil=>rfl
 | cons n ns ih=>simp[bw,ih]
theorem lY(h:ns.length<=1000):h_ (.lst f (iL ns))=.ok (.int (my ns)):=by
 unfold h_
 simp only[ii]
 rw[if_pos (by simpa using h)]
theorem sB:∀(l acc:List Int),(acc++l).Nodup->l.foldl PyProof.Rows.step_dedup acc=acc++l
 | [],acc,_=>by simp
 | x::l,acc,h=>by
  have h':((acc++[x])++ l).Nodup:=by simpa using h
  rw[List.foldl_cons]
  have hx:x∉acc:=fun hm=>by
   rw[List.nodup_append]at h
   exact h.2.2 x hm x List.mem_cons_self rfl
  have:PyProof.Rows.step_dedup acc x=acc++[x]:=by
   unfold PyProof.Rows.step_dedup
   rw[if_neg]
   simpa using hx
  rw[this,sB l _ h']
  simp
theorem zZ(ns:List Int):(List.range ns.length).map (fun i=>ns.getD i 0)=ns:=by
 apply List.ext_getElem?
 intro i
 by_cases h:i < ns.length
 ·simp[h]
 ·simp[h]
theorem pH(h:ns.Nodup):my ns=ns.length:=by
 unfold my PyProof.Rows.firstMet
 rw[zZ,sB ns [] (by simpa using h)]
 rfl
theorem se(i:Int)(ns:List Int):inL (.int i) (iL ns)=ns.contains i:=by
 induction ns with
 | nil=>rfl
 | cons n ns ih =>
  have e:inL (.int i) (iL (n::ns))=(PyData.eqv (PV.int n).data (PV.int i).data||inL (.int i) (iL ns)):=rfl
  rw[e,ih,List.contains_cons]
  congr 1
  simp only[PV.data,PyData.eqv]
  exact Bool.beq_comm
@[simp] theorem Hs(i:Int)(ns:List Int)(f:Fl):pIn (.int i) (.lst f (iL ns))=.ok (.bl (ns.contains i)):=by
 unfold pIn
 simp only[aQ,iW,lN,Bool.and_self,if_true,se]
@[simp] theorem EQ(i:Int)(ns:List Int)(f:Fl):gO (.int i) (.lst f (iL ns))=.ok (.bl (!ns.contains i)):=by
 unfold gO
 simp only[aQ,iW,lN,Bool.and_self,if_true,se]
def Ends(o:Out):Prop:=∃e,o=.next e
section
variable{env e:En}
theorem fE(h:Ends (m (args.map some++List.replicate (n - args.length) none))):a5 n m args=.ok .non:=by
 obtain⟨e,h⟩:=h
 exact lS h
theorem gZ(h1:a env=.next e)(h2:Ends (b e)):Ends (ar a b env):=by
 obtain⟨e2,h2⟩:=h2
 exact⟨e2,ag h1 h2⟩
theorem ug(h:o=.next e):Ends o:=⟨e,h⟩
theorem wV{it:MI}{g:TgM}{body a_:MS}{xs:List PV}(P:Nat->En->Prop)(h:it env=.ok xs)(h0:P 0 env)
  (step:∀(k:Nat) (x:PV) (e:En),xs[k]?=some x->P k e->∃e1,g x e=some e1/\jV (body e1) (P (k+1))) (fin:∀e,P xs.length e->Ends (a_ e)):Ends (ar (cO it g body) a_ env):=by
 obtain⟨e2,h1,h2⟩:=jw P h h0 fun k x e h1 h2=>by
  obtain⟨e1,h3,e2,h4,h5⟩:=step k x e h1 h2
  exact⟨e1,e2,h3,h4,h5⟩
 exact gZ h1 (fin e2 h2)
end
theorem eP(h:m env=.ok (.lst f xs))(hf:f.isLnt=false)(h1:hasL Fl.isOwn xs=false)(h2:hasL Fl.isLnt xs=false):eZ m env=.ok xs:=by
 unfold eZ
 rw[h]
 simp[hf,dJ,h1,h2]
end PR
namespace PR
section
variable{n r s k o:Nat}{adj:Nat->Nat->Prop}{far:List Int}
def gt(far:List Int)(i:Nat):Int:=far.getD i 0
theorem fw(x:Int)(h:o < far.length)(i:Nat):gt (far.set o x) i=if i=o then x else gt far i:=by
 simp only[gt,List.getD_eq_getElem?_getD,List.getElem?_set]
 by_cases e:o=i
 ·subst e;simp[h]
 ·rw[if_neg e,if_neg (Ne.symm e)]
structure Far(n r:Nat)(adj:Nat->Nat->Prop)(s k:Nat)(d:Nat->Prop)(far:List Int):Prop where
 len:far.length=n
 rt:gt far r=0
 rng:∀i < n,0<=gt far i/\(gt far i<=s+1\/gt far i=n)
 top:∀i < n,gt far i<=n
 up:∀i < n,∀j < n,gt far i < s->adj i j->gt far j<=gt far i+1
 upk:∀i < k,∀j < n,gt far i=s->adj i j->gt far j<=s+1
 upd:∀j < n,d j->gt far j<=s+1
 dn:∀i < n,i≠r->gt far i < n->1<=gt far i/\∃j < n,adj i j/\gt far j=gt far i - 1
theorem Far.start(hr:r < n)(h:∀i < n,gt far i=if i=r then 0 else(n:Int))(hl:far.length=n):Far n r adj 0 0 (fun _=>False) far where
 len:=hl
 rt:=by rw[h r hr,if_pos rfl]
 rng:=fun i hi=>by rw[h i hi];split<;>omega
 top:=fun i hi=>by rw[h i hi];split<;>omega
 up:=fun i hi j _ hv _=>by
  have:=h i hi
  split at this<;>omega
 upk:=fun i hi=>absurd hi (Nat.not_lt_zero _)
 upd:=fun _ _ z=>z.elim
 dn:=fun i hi hn hv=>by
  rw[h i hi,if_neg hn]at hv
  omega
theorem Far.skip(F:Far n r adj s k (fun _=>False) far)(hk:gt far k≠s):Far n r adj s (k+1) (fun _=>False) far where
 len:=F.len
 rt:=F.rt
 rng:=F.rng
 top:=F.top
 up:=F.up
 upk:=fun i hi j hj e a=>by
  rcases Nat.lt_or_ge i k with h | h
  ·exact F.upk i h j hj e a
  ·have:i=k:=by omega
   subst this
   exact absurd e hk
 upd:=F.upd
 dn:=F.dn
theorem Far.close(F:Far n r adj s k d far)(hd:∀j,j < n->adj k j->d j):Far n r adj s (k+1) (fun _=>False) far where
 len:=F.len
 rt:=F.rt
 rng:=F.rng
 top:=F.top
 up:=F.up
 upk:=fun i hi j hj e a=>by
  rcases Nat.lt_or_ge i k with h | h
  ·exact F.upk i h j hj e a
  ·have:i=k:=by omega
   subst this
   exact F.upd j hj (hd j hj a)
 upd:=fun _ _ z=>z.elim
 dn:=F.dn
theorem Far.none(F:Far n r adj s k (fun _=>False) far)(hd:∀j,¬d j):Far n r adj s k d far where
 len:=F.len
 rt:=F.rt
 rng:=F.rng
 top:=F.top
 up:=F.up
 upk:=F.upk
 upd:=fun j _ z=>absurd z (hd j)
 dn:=F.dn
theorem Far.relax(F:Far n r adj s k d far)(hk:k < n)(ek:gt far k=s)(ho:o < n)(a:adj o k)(hs:s < n) :
  Far n r adj s k (fun j=>d j\/j=o) (far.set o (min (gt far o) (s+1)))/\gt (far.set o (min (gt far o) (s+1))) k=s:=by
 have hol:o < far.length:=by rw[F.len];exact ho
 have g:=fw (min (gt far o) ((s:Int)+1)) hol
 by_cases hw:gt far o<=s+1
 ·have e:∀i,gt (far.set o (min (gt far o) ((s:Int)+1))) i=gt far i:=fun i=>by
   rw[g i]
   split
   ·rename_i z;subst z;omega
   ·rfl
  refine⟨⟨by rw[List.length_set];exact F.len,by rw[e];exact F.rt,fun i hi=>by rw[e];exact F.rng i hi,fun i hi=>by rw[e];exact F.top i hi,fun i hi j hj=>by rw[e,e];exact F.up i hi j hj,fun i hi j hj=>by rw[e,e];exact F.upk i hi j hj,fun j hj z=>?_,fun i hi hn=>?_⟩,by rw[e];exact ek⟩
  ·rw[e]
   rcases z with z | z
   ·exact F.upd j hj z
   ·subst z;exact hw
  ·rw[e]
   intro hv
   obtain⟨h1,j,hj,aj,ej⟩:=F.dn i hi hn hv
   exact⟨h1,j,hj,aj,by rw[e];exact ej⟩
 ·have hn:gt far o=n:=by have:=(F.rng o ho).2;omega
  have hm:min (gt far o) ((s:Int)+1)=s+1:=by omega
  rw[hm]at g ⊢
  have hlt:(s:Int)+1 < n:=by omega
  have ko:k≠o:=fun z=>by subst z;omega
  have ro:r≠o:=fun z=>by subst z;have:=F.rt;omega
  have le:∀i,gt (far.set o ((s:Int)+1)) i<=gt far i:=fun i=>by
   rw[g i];split
   ·rename_i z;subst z;omega
   ·exact Int.le_refl _
  have ne:∀i,i≠o->gt (far.set o ((s:Int)+1)) i=gt far i:=fun i z=>by rw[g i,if_neg z]
  have eo:gt (far.set o ((s:Int)+1)) o=s+1:=by rw[g o,if_pos rfl]
  refine⟨⟨by rw[List.length_set];exact F.len,by rw[ne r ro];exact F.rt,fun i hi=>?_,fun i hi=>Int.le_trans (le i) (F.top i hi),fun i hi j hj hv aj=>?_,fun i hi j hj hv aj=>?_,fun j hj z=>?_,fun i hi hn' hv=>?_⟩,by rw[ne k ko];exact ek⟩
  ·by_cases z:i=o
   ·subst z;rw[eo];omega
   ·rw[ne i z];exact F.rng i hi
  ·have z:i≠o:=fun z=>by subst z;rw[eo]at hv;omega
   rw[ne i z]at hv ⊢
   exact Int.le_trans (le j) (F.up i hi j hj hv aj)
  ·have z:i≠o:=fun z=>by subst z;rw[eo]at hv;omega
   rw[ne i z]at hv
   exact Int.le_trans (le j) (F.upk i hi j hj hv aj)
  ·rcases z with z | z
   ·exact Int.le_trans (le j) (F.upd j hj z)
   ·subst z;rw[eo];exact Int.le_refl _
  ·by_cases z:i=o
   ·subst z
    rw[eo]
    exact⟨by omega,k,hk,a,by rw[ne k ko];omega⟩
   ·rw[ne i z]at hv ⊢
    obtain⟨h1,j,hj,aj,ej⟩:=F.dn i hi hn' hv
    refine⟨h1,j,hj,aj,?_⟩
    rw[ne j fun q=>by subst q;omega]
    exact ej
theorem Far.next(F:Far n r adj s n (fun _=>False) far):Far n r adj (s+1) 0 (fun _=>False) far where
 len:=F.len
 rt:=F.rt
 rng:=fun i hi=>by have:=F.rng i hi;omega
 top:=F.top
 up:=fun i hi j hj hv a=>by
  by_cases h:gt far i < s
  ·exact F.up i hi j hj h a
  ·have e:gt far i=s:=by omega
   have:=F.upk i hi j hj e a
   omega
 upk:=fun i hi=>absurd hi (Nat.not_lt_zero _)
 upd:=fun _ _ z=>z.elim
 dn:=F.dn
structure q9(n r:Nat)(adj:Nat->Nat->Prop)(far:List Int):Prop where
 len:far.length=n
 rt:gt far r=0
 rng:∀i < n,0<=gt far i/\gt far i<=n
 up:∀i < n,∀j < n,adj i j->gt far j<=gt far i+1
 dn:∀i < n,i≠r->gt far i < n->1<=gt far i/\∃j < n,adj i j/\gt far j=gt far i - 1
theorem Far.dist(F:Far n r adj n 0 (fun _=>False) far):q9 n r adj far where
 len:=F.len
 rt:=F.rt
 rng:=fun i hi=>⟨(F.rng i hi).1,F.top i hi⟩
 up:=fun i hi j hj a=>by
  by_cases h:gt far i < n
  ·exact F.up i hi j hj h a
  ·have:=F.top j hj;omega
 dn:=F.dn
theorem oT:∀{l l':List Int},l.Nodup->(∀x∈l,x∈l')->l.length<=l'.length
 | [],_,_,_=>Nat.zero_le _
 | x::l,l',nd,sub=>by
  obtain⟨h1,h2⟩:=List.nodup_cons.mp nd
  have hx:=sub x List.mem_cons_self
  have:=oT (l':=l'.erase x) h2 fun y hy=>(List.mem_erase_of_ne (show y≠x from fun z=>h1 (z▸hy))).mpr (sub y (List.mem_cons_of_mem _ hy))
  rw[List.length_erase_of_mem hx]at this
  have:=List.length_pos_of_mem hx
  rw[List.length_cons]
  omega
theorem q9.below(D:q9 n r adj far)(hr:r < n):∀(m:Nat),(∃i < n,gt far i=m)->m < n->∀v,v<=m->∃i < n,gt far i=v
 | 0,h,_,v,hv=>by
  have:v=0:=by omega
  subst this;exact h
 | m+1,⟨i,hi,e⟩,hm,v,hv=>by
  rcases Nat.lt_or_ge v (m+1)with h | h
  ·have hir:i≠r:=fun z=>by subst z;have:=D.rt;omega
   obtain⟨_,j,hj,_,ej⟩:=D.dn i hi hir (by omega)
   exact D.below hr m ⟨j,hj,by omega⟩ (by omega) v (by omega)
  ·have:v=m+1:=by omega
   subst this
   exact⟨i,hi,e⟩
theorem dA(h:i < far.length):gt far i∈far:=by
 simp[gt,h]
theorem q9.all(D:q9 n r adj far)(hr:r < n)(conn:∀S:Nat->Prop,S r->(∀i < n,∀j < n,adj i j->S i->S j)->∀i < n,S i):∀i < n,gt far i < n:=by
 refine conn (fun i=>gt far i < n) (by show gt far r < n;rw[D.rt];omega) fun i hi j hj a hv=>?_
 show gt far j < n
 rcases Int.lt_or_le (gt far j) n with h | h
 ·exact h
 exfalso
 have h1:=D.up i hi j hj a
 have h2:=(D.rng j hj).2
 have e:gt far i=((n - 1:Nat):Int):=by omega
 have all:∀v:Nat,v < n+1->(v:Int)∈ far:=fun v hv=>by
  rcases Nat.lt_or_ge v n with h | h
  ·obtain⟨x,hx,ex⟩:=D.below hr (n - 1) ⟨i,hi,e⟩ (by omega) v (by omega)
   rw[<- ex]
   exact dA (by rw[D.len];exact hx)
  ·have:(v:Int)=gt far j:=by omega
   rw[this]
   exact dA (by rw[D.len];exact hj)
 have:=oT (l:=(List.range (n+1)).map fun k:Nat=>(k:Int)) (l':=far) (List.Pairwise.map _ (fun a b h z=>h (by omega)) List.nodup_range) fun x hx=>by
  obtain⟨v,hv,rfl⟩:=List.mem_map.mp hx
  exact all v (List.mem_range.mp hv)
 rw[List.length_map,List.length_range,D.len]at this
 omega
end
end PR
namespace PR
open PySem PySem.Spec L2
def prL(ps:List (Int×Int)):List PV:=ps.map prV
section
variable{ps qs:List (Int×Int)}{x:Int×Int}{f:Fl}{g:Fl->Fl}{p:Fl->Bool}
@[simp] theorem FK:prL []=[]:=rfl
@[simp] theorem ve:prL (x::ps)=prV x::prL ps:=rfl
@[simp] theorem kh:(prL ps).length=ps.length:=by simp[prL]
@[simp] theorem y0:prL ps++prL qs=prL (ps++qs):=by simp[prL]
@[simp] theorem yZ(k:Nat):(prL ps)[k]?=(ps[k]?).map prV:=by simp[prL]
@[simp] theorem FI:PV.mapF g (prV x)=prV x:=rfl
@[simp] theorem FJ:(prV x).has p=false:=rfl
@[simp] theorem ES:mapL g (prL ps)=prL ps:=by
 induction ps with
 | nil=>rfl
 | cons n ns ih=>simp[mapL,ih]
@[simp] theorem Fg:hasL p (prL ps)=false:=by
 induction ps with
 | nil=>rfl
 | cons n ns ih=>simp[hasL,ih]
@[simp] theorem qd:shp (prV x)=true:=rfl
@[simp] theorem ou:(prL ps).all shp=true:=by
 induction ps with
 | nil=>rfl
 | cons n ns ih=>simp only[ve,List.all_cons,qd,ih];rfl
theorem CB(x y:Int×Int):PyData.eqv (prV x).data (prV y).data=decide (x=y):=by
 obtain⟨a,b⟩:=x
 obtain⟨c,d⟩:=y
 simp only[prV,PV.data,dataL,PyData.eqv,PyData.eqvAll]
 by_cases h1:a=c<;>by_cases h2:b=d<;>simp[h1,h2]
theorem wj:inL (prV x) (prL ps)=ps.contains x:=by
 induction ps with
 | nil=>rfl
 | cons n ns ih =>
  have e:inL (prV x) (prL (n::ns))=(PyData.eqv (prV n).data (prV x).data||inL (prV x) (prL ns)):=rfl
  rw[e,ih,List.contains_cons,CB]
  congr 1
  by_cases h:n=x
  ·subst h;simp
  ·rw[decide_eq_false h]
   exact(beq_eq_false_iff_ne.mpr (Ne.symm h)).symm
@[simp] theorem Hr:pIn (prV x) (.lst f (prL ps))=.ok (.bl (ps.contains x)):=by
 unfold pIn
 simp only[aQ,qd,ou,Bool.and_self,if_true,wj]
@[simp] theorem EO:gO (prV x) (.lst f (prL ps))=.ok (.bl (!ps.contains x)):=by
 unfold gO
 simp only[aQ,qd,ou,Bool.and_self,if_true,wj]
@[simp] theorem F8:aK (prV x) (.int 0)=.ok (.int x.1):=rfl
@[simp] theorem F7:aK (prV x) (.int 1)=.ok (.int x.2):=rfl
theorem mR(a b:Int):PV.tup [.int a,.int b]=prV (a,b):=rfl
@[simp] theorem GV:fH eX (prV x)=.ok (.int (min x.1 x.2)):=rfl
@[simp] theorem GW:fH je (prV x)=.ok (.int (max x.1 x.2)):=rfl
@[simp] theorem qr:fk (prL ps)=some ps:=by
 induction ps with
 | nil=>rfl
 | cons n ns ih =>
  have:gL (prV n)=some n:=rfl
  simp[fk,ih,this]
theorem sN(ns:List Int)(h:ns.length < 64):eH (.lst f (iL ns))=.ok (.lst .own (iL (iV ns))):=by
 simp[eH,h,ii]
 rfl
theorem pZ(h:ps.length < 64)(hd:ps.Nodup):eH (.lst f (prL ps))=.ok (.lst .own (prL (cy ps))):=by
 cases ps with
 | nil=>rfl
 | cons n ns =>
  have e:bw (prL (n::ns))=none:=rfl
  simp only[eH,e,qr,kh]
  rw[if_pos (decide_eq_true h),if_pos (decide_eq_true hd)]
  rfl
theorem u8(n:Nat)(i:Int)(ns:List Int):ce n (.int i) (iL ns)=iL (ce n i ns):=by simp[ce,iL]
theorem i_{α:Type}{n:Nat}{y z:α}{l:List α}:z∈ce n y l↔z=y\/z∈l:=by
 unfold ce
 rw[List.mem_append,List.mem_cons]
 constructor
 ·rintro(h | h | h)
  ·exact .inr (List.mem_of_mem_take h)
  ·exact .inl h
  ·exact .inr (List.mem_of_mem_drop h)
 ·rintro(h | h)
  ·exact .inr (.inl h)
  ·rw[<- List.take_append_drop n l]at h
   rcases List.mem_append.mp h with h | h
   ·exact .inl h
   ·exact .inr (.inr h)
theorem fG{α:Type}(n:Nat)(y:α)(l:List α):(ce n y l).Perm (y::l):=by
 unfold ce
 refine List.perm_middle.trans ?_
 rw[List.take_append_drop]
theorem l6{i n:Nat}{mk m:ME}{env:En}{xs:List PV}{v:PV}{j:Int}(hk:mk env=.ok (.int j))(h:m env=.ok v)(ho:env[i]?=some (some (.lst .own xs)))(hf:si v=true)(hl:v.noLnt=true)(hj:j=n)(hn:n<=xs.length)(hx:xs.length < 10000000) :
  ig i mk m env=.next (env.set i (some (.lst .own (ce n v xs)))):=by
 subst hj
 unfold ig
 rw[hk,h,ho]
 simp only[hf,hl]
 simp[hx,hn]
end
theorem jN{x:PV}{xs:List PV}{k:Nat}{y:PV}(hs:aQ x=some xs)(h:xs[k]?=some y)(ho:y.has Fl.isOwn=false):aK x (.int k)=.ok y:=by
 have hl:k < xs.length:=(List.getElem?_eq_some_iff.mp h).1
 unfold aK
 simp only[hs,atI]
 rw[nG hl]
 simp[h,ho]
def nbL(ps:List (Int×Int))(at_:Int):List Int:=iV ((ps.filter fun x=>decide (x.2=at_)).map (·.1)++(ps.filter fun x=>decide (x.1=at_)).map (·.2))
theorem nA{ps:List (Int×Int)}{a o:Int}:o∈nbL ps a ↔(o,a)∈ ps \/(a,o)∈ ps:=by
 unfold nbL
 rw[(eO _).mem_iff,List.mem_append]
 simp only[List.mem_map,List.mem_filter,decide_eq_true_eq]
 constructor
 ·rintro(⟨⟨x,y⟩,⟨h1,h2⟩,h3⟩ |⟨⟨x,y⟩,⟨h1,h2⟩,h3⟩)
  ·dsimp only at h2 h3;subst h2 h3;exact .inl h1
  ·dsimp only at h2 h3;subst h2 h3;exact .inr h1
 ·rintro(h | h)
  ·exact .inl ⟨_,⟨h,rfl⟩,rfl⟩
  ·exact .inr ⟨_,⟨h,rfl⟩,rfl⟩
def mm(w:Int×Int):Int×Int:=(min w.1 w.2,max w.1 w.2)
structure Dn(n:Nat)(ws:List (Int×Int)):Prop where
 rg:∀w∈ws,0<=w.1/\w.1 < n/\0<=w.2/\w.2 < n/\w.1≠w.2
 nd:(ws.map mm).Nodup
 sz:ws.length < 64
end PR
namespace PR
theorem Au{w u:Int×Int}(h:mm w=mm u):w=u\/w=(u.2,u.1):=by
 obtain⟨a,b⟩:=w
 obtain⟨c,d⟩:=u
 simp only[mm,Prod.mk.injEq]at h ⊢
 omega
theorem rV{w u:Int×Int}(h:mm w=mm u):(w.1=u.1/\w.2=u.2)\/(w.1=u.2/\w.2=u.1):=by
 rcases Au h with rfl | rfl
 ·exact .inl ⟨rfl,rfl⟩
 ·exact .inr ⟨rfl,rfl⟩
structure Tree(n:Nat)(od:List Int)(k:Nat)(ws:List (Int×Int)):Prop where
 rg:∀w∈ws,w.1∈od.take k/\w.2∈od.take k/\w.1≠w.2
 nd:(ws.map mm).Nodup
 ln:ws.length+1=k
 cn:∀S:Int->Prop,(∀w∈ws,(S w.1↔S w.2))->∀a∈od.take k,(S a↔S (od.getD 0 0))
theorem Tree.start{n:Nat}{od:List Int}(h:od.length=n)(hn:1<=n):Tree n od 1 [] where
 rg:=fun w hw=>by cases hw
 nd:=.nil
 ln:=rfl
 cn:=fun S _ a ha=>by
  cases od with
  | nil=>simp at h;omega
  | cons x l =>
   have:a=x:=by simpa using ha
   subst this
   simp
theorem Tree.more{n:Nat}{od:List Int}{k j:Nat}{ws:List (Int×Int)}{w:Int×Int}{p:Nat}(T:Tree n od k ws)(hod:od.Nodup)(hk:k < od.length)(hj:j < k)(hw:w=(od.getD k 0,od.getD j 0)\/ w=(od.getD j 0,od.getD k 0)):Tree n od (k+1) (ce p w ws):=by
 have hjl:j < od.length:=by omega
 have e1:od.getD k 0=od[k]:=by simp[hk]
 have e2:od.getD j 0=od[j]:=by simp[hjl]
 rw[e1,e2]at hw
 have tk:od.take (k+1)=od.take k++[od[k]]:=by rw[List.take_add_one];simp[hk]
 have mj:od[j]∈ od.take k:=List.mem_take_iff_getElem.mpr ⟨j,by omega,rfl⟩
 have nk:od[k]∉ od.take k:=fun z=>by
  obtain⟨i,hi,e⟩:=List.mem_take_iff_getElem.mp z
  have:=(List.getElem_inj hod).mp e
  omega
 have ne:od[k]≠ od[j]:=fun z=>nk (z▸mj)
 have mem:∀u∈ce p w ws,u=w\/u∈ws:=fun u hu=>i_.mp hu
 refine⟨fun u hu=>?_,?_,?_,fun S hS a ha=>?_⟩
 ·rcases mem u hu with rfl | hu
  ·rw[tk]
   rcases hw with rfl | rfl
   ·exact⟨List.mem_append_right _ List.mem_cons_self,List.mem_append_left _ mj,ne⟩
   ·exact⟨List.mem_append_left _ mj,List.mem_append_right _ List.mem_cons_self,ne.symm⟩
  ·obtain⟨h1,h2,h3⟩:=T.rg u hu
   rw[tk]
   exact⟨List.mem_append_left _ h1,List.mem_append_left _ h2,h3⟩
 ·have:((ce p w ws).map mm).Perm (mm w::ws.map mm):=(fG p w ws).map mm
  refine this.symm.nodup (List.nodup_cons.mpr ⟨fun z=>?_,T.nd⟩)
  obtain⟨u,hu,e⟩:=List.mem_map.mp z
  obtain⟨h1,h2,_⟩:=T.rg u hu
  rcases hw with rfl | rfl
  ·rcases rV e with⟨q1,q2⟩ |⟨q1,q2⟩
   ·exact nk (by rw[q1]at h1;exact h1)
   ·exact nk (by rw[q2]at h2;exact h2)
  ·rcases rV e with⟨q1,q2⟩ |⟨q1,q2⟩
   ·exact nk (by rw[q2]at h2;exact h2)
   ·exact nk (by rw[q1]at h1;exact h1)
 ·rw[(fG p w ws).length_eq,List.length_cons,T.ln]
 ·have hw':=hS w (i_.mpr (.inl rfl))
  have cn:=T.cn S fun u hu=>hS u (i_.mpr (.inr hu))
  rw[tk]at ha
  rcases List.mem_append.mp ha with ha | ha
  ·exact cn a ha
  ·have:a=od[k]:=by simpa using ha
   subst this
   rw[<- cn _ mj]
   rcases hw with rfl | rfl
   ·exact hw'
   ·exact hw'.symm
structure fe(n m:Nat)(ws:List (Int×Int)):Prop where
 rg:∀w∈ws,0<=w.1/\w.1 < n/\0<=w.2/\w.2 < n/\w.1≠w.2
 nd:(ws.map mm).Nodup
 ln:ws.length<=m
 cn:∀S:Int->Prop,(∀w∈ws,(S w.1↔S w.2))->∀i j:Nat,i < n->j < n->S i->S j
theorem Tree.whole{n:Nat}{od:List Int}{ws:List (Int×Int)}(T:Tree n od n ws)(hp:od.Perm ((List.range n).map fun k:Nat=>(k:Int))):fe n n ws:=by
 have hl:od.length=n:=by simpa using hp.length_eq
 have ht:od.take n=od:=by rw[<- hl,List.take_length]
 have hm:∀a,a∈od↔∃k:Nat,k < n/\(k:Int)=a:=fun a=>by rw[hp.mem_iff];simp
 refine⟨fun w hw=>?_,T.nd,by have:=T.ln;omega,fun S hS i j hi hj hs=>?_⟩
 ·obtain⟨h1,h2,h3⟩:=T.rg w hw
  rw[ht]at h1 h2
  obtain⟨a,ha,ea⟩:=(hm _).mp h1
  obtain⟨b,hb,eb⟩:=(hm _).mp h2
  omega
 ·have cn:=T.cn S hS
  rw[ht]at cn
  exact(cn j ((hm _).mpr ⟨j,hj,rfl⟩)).mpr ((cn i ((hm _).mpr ⟨i,hi,rfl⟩)).mp hs)
theorem fe.more{n m p:Nat}{ws:List (Int×Int)}{a b:Int}(h:fe n m ws)(ha:0<=a/\a < n)(hb:0<=b/\b < n)(hne:a≠b)(h1:(a,b)∉ ws)(h2:(b,a)∉ ws):fe n (m+1) (ce p (a,b) ws):=by
 refine⟨fun u hu=>?_,?_,?_,fun S hS=>h.cn S fun u hu=>hS u (i_.mpr (.inr hu))⟩
 ·rcases i_.mp hu with rfl | hu
  ·exact⟨ha.1,ha.2,hb.1,hb.2,hne⟩
  ·exact h.rg u hu
 ·have:((ce p (a,b) ws).map mm).Perm (mm (a,b)::ws.map mm):=(fG p (a,b) ws).map mm
  refine this.symm.nodup (List.nodup_cons.mpr ⟨fun z=>?_,h.nd⟩)
  obtain⟨u,hu,e⟩:=List.mem_map.mp z
  rcases Au e with rfl | rfl
  ·exact h1 hu
  ·exact h2 hu
 ·rw[(fG p (a,b) ws).length_eq,List.length_cons];have:=h.ln;omega
theorem fe.keep{n m:Nat}{ws:List (Int×Int)}(h:fe n m ws):fe n (m+1) ws:=⟨h.rg,h.nd,Nat.le_succ_of_le h.ln,h.cn⟩
theorem fe.good{n m:Nat}{ws:List (Int×Int)}(h:fe n m ws)(hm:m < 64):Dn n ws:=⟨h.rg,h.nd,by have:=h.ln;omega⟩
open PySem L2 in
def iS(o:Out)(Q:PV->Prop):Prop:=∃v,o=.ret v/\Q v
section
open PySem L2
variable{env e:En}{Q:PV->Prop}
theorem bT{a b:MS}(h1:a env=.next e)(h2:iS (b e) Q):iS (ar a b env) Q:=by
 obtain⟨v,h,q⟩:=h2
 exact⟨v,ag h1 h,q⟩
theorem uX{c:MT}{a b a_:MS}(hc:c env=.ok true)(h:iS (a env) Q):iS (ar (mBr c a b) a_ env) Q:=by
 obtain⟨v,h1,h2⟩:=h
 exact⟨v,c9 (im hc h1),h2⟩
theorem dG{o:Out}{v:PV}(h:o=.ret v)(q:Q v):iS o Q:=⟨v,h,q⟩
theorem fF{it:MI}{g:TgM}{body a_:MS}{xs:List PV}(P:Nat->En->Prop)(h:it env=.ok xs)(h0:P 0 env)
  (step:∀(k:Nat) (x:PV) (e:En),xs[k]?=some x->P k e->∃e1,g x e=some e1/\jV (body e1) (P (k+1))) (fin:∀e,P xs.length e->iS (a_ e) Q):iS (ar (cO it g body) a_ env) Q:=by
 obtain⟨e2,h1,h2⟩:=jw P h h0 fun k x e h1 h2=>by
  obtain⟨e1,h3,e2,h4,h5⟩:=step k x e h1 h2
  exact⟨e1,e2,h3,h4,h5⟩
 exact bT h1 (fin e2 h2)
end
end PR
namespace PR
open PySem L2
section
variable{env:En}
theorem fP(ho:env[0]?=some (some (.obj .own c ks vs)))(ha:ms env=.ok xs)(hl:hasL Fl.isLnt xs=false)
  (hm:m (.obj .own c ks vs::mapL Fl.toBor xs)=.ok (.obj fl c' ks' vs')) (hb:(PV.obj fl c' ks' vs').has Fl.isBor=false):gz m ms env=.next (env.set 0 (some (.obj fl c' ks' vs'))):=by
 unfold gz
 rw[ho]
 dsimp only
 rw[ha]
 dsimp only
 rw[hl,if_neg (by decide),hm]
 dsimp only
 rw[hb,if_neg (by decide)]
end
theorem l7(h:c env=.ok true)(h2:jV (a env) Q):jV (mBr c a b env) Q:=by
 rw[AC h];exact h2
theorem l8(h:c env=.ok false)(h2:jV (b env) Q):jV (mBr c a b env) Q:=by
 rw[AC h];exact h2
@[simp] theorem Hn:m_ (.int 10) (.int 59)=.ok (.int (10 ^ 59)):=vf (by decide) (by decide) (by decide)
section
variable{env:En}{g:TgM}{me:ME}
theorem dO(f:Int->Int)(row:List Int)(h:∀x∈row,∃e1,g (.int x) env=some e1/\me e1=.ok (.int (f x))):cY g bH me env (iL row)=.ok (iL (row.map f)):=by
 rw[show iL (row.map f)=row.map fun x=>PV.int (f x) by simp[iL]]
 exact a6 (a:=PV.int) (f:=fun x=>.int (f x)) row fun x hx=>let⟨e1,h1,h2⟩:=h x hx;⟨e1,h1,h2,rfl,rfl⟩
theorem jS(lo:Int)(f:Nat->Int)(n:Nat)(h:∀k < n,∃e1,g (.int (lo+(k:Int))) env=some e1/\me e1=.ok (.int (f k))):cY g bH me env (b5 lo n)=.ok (iL ((List.range n).map f)):=by
 rw[show iL ((List.range n).map f)=(List.range n).map fun k=>PV.int (f k) by simp[iL]]
 exact a6 (a:=fun k:Nat=>PV.int (lo+(k:Int))) (f:=fun k=>.int (f k)) (List.range n) fun k hk=>let⟨e1,h1,h2⟩:=h k (List.mem_range.mp hk);⟨e1,h1,h2,rfl,rfl⟩
theorem ge(p:Nat->Bool)(f:Nat->Int)(n:Nat)(h:∀k < n,∃e1,g (.int (0+(k:Int))) env=some e1/\mc e1=.ok (p k)/\(p k=true->me e1=.ok (.int (f k)))):cY g mc me env (b5 0 n)=.ok (iL (((List.range n).filter p).map f)):=by
 rw[show iL (((List.range n).filter p).map f)=((List.range n).filter p).map fun k=>PV.int (f k) by simp[iL]]
 exact bW (a:=fun k:Nat=>PV.int (0+(k:Int))) (f:=fun k=>.int (f k)) (p:=p) (List.range n) fun k hk=>let⟨e1,h1,h2,h3⟩:=h k (List.mem_range.mp hk);⟨e1,h1,h2,fun z=>⟨h3 z,rfl,rfl⟩⟩
end
theorem b9(h0:0<=i)(h:i < cs.length):aK (.lst f (iL cs)) (.int i)=.ok (.int (gt cs i.toNat)):=by
 have:i.toNat < cs.length:=by omega
 exact gU _ h0 (by simp[gt,this])
theorem w5(xs:List PV)(k:Nat)(h:k<=xs.length):jy xs (some (k:Int)) none=xs.drop k:=by
 unfold jy
 rw[HT.sIx_nat,HT.sIx_none]
 rw[Nat.min_eq_left h,List.take_of_length_le (by simp)]
theorem e_(p:Int->Bool)(f:Int->Int)(row:List Int)(h:∀x∈row,∃e1,g (.int x) env=some e1/\mc e1=.ok (p x)/\(p x=true->me e1=.ok (.int (f x)))):cY g mc me env (iL row)=.ok (iL ((row.filter p).map f)):=by
 rw[show iL ((row.filter p).map f)=(row.filter p).map fun x=>PV.int (f x) by simp[iL]]
 exact bW (a:=PV.int) (f:=fun x=>.int (f x)) (p:=p) row fun x hx=>let⟨e1,h1,h2,h3⟩:=h x hx;⟨e1,h1,h2,fun z=>⟨h3 z,rfl,rfl⟩⟩
theorem mQ{Fin:En->Prop}(P:Nat->En->Prop)(step:∀m e,P m e->(c e=.ok false/\Fin e)\/(c e=.ok true/\∃m' e',m' < m/\(b e=.next e'\/b e=.cont e')/\P m' e')) :
  ∀(k m:Nat) (env:En),m < k->P m env->∃e',whL c b k env=.next e'/\Fin e'
 | 0,m,_,h,_=>absurd h (Nat.not_lt_zero m)
 | k+1,m,env,h,hP=>by
  unfold whL
  rcases step m env hP with⟨h1,h2⟩ |⟨h1,m',e',h2,h3,h4⟩
  ·rw[h1];exact⟨env,rfl,h2⟩
  ·obtain⟨e2,h5,h6⟩:=mQ P step k m' e' (by omega) h4
   rw[h1]
   rcases h3 with h3 | h3<;>rw[h3]<;>exact⟨e2,h5,h6⟩
section
variable{env:En}{r:Out}
theorem sP{c:MT}{b a_:MS}{Fin:En->Prop}(P:Nat->En->Prop)(m:Nat)(hm:m < 100000)(h0:P m env)(step:∀m e,P m e->(c e=.ok false/\Fin e)\/(c e=.ok true/\∃m' e',m' < m/\(b e=.next e'\/b e=.cont e')/\P m' e'))(fin:∀e,Fin e->a_ e=r):ar (iK c b) a_ env=r:=by
 obtain⟨e',h1,h2⟩:=mQ P step 100000 m env hm h0
 exact ag h1 (fin e' h2)
theorem kF{Q:PV->Prop}{c:MT}{b a_:MS}{Fin:En->Prop}(P:Nat->En->Prop)(m:Nat)(hm:m < 100000)(h0:P m env)(step:∀m e,P m e->(c e=.ok false/\Fin e)\/(c e=.ok true/\∃m' e',m' < m/\(b e=.next e'\/b e=.cont e')/\P m' e'))(fin:∀e,Fin e->iS (a_ e) Q):iS (ar (iK c b) a_ env) Q:=by
 obtain⟨e',h1,h2⟩:=mQ P step 100000 m env hm h0
 exact bT h1 (fin e' h2)
end
theorem mB(cs:List Int)(k:Nat)(h:k<=cs.length):jy (iL cs) (some (k:Int)) none=iL (cs.drop k):=by
 rw[w5 _ k (by rw[aU];exact h),l0]
theorem cJ:v∈cs.drop k↔∃i,k<=i/\i < cs.length/\gt cs i=v:=by
 constructor
 ·intro h
  obtain⟨i,hi,e⟩:=List.getElem_of_mem h
  rw[List.length_drop]at hi
  rw[List.getElem_drop]at e
  exact⟨k+i,by omega,by omega,by rw[<- e];simp[gt,show k+i < cs.length by omega]⟩
 ·rintro⟨i,h1,h2,e⟩
  rw[List.mem_iff_getElem]
  refine⟨i - k,by rw[List.length_drop];omega,?_⟩
  rw[List.getElem_drop,<- e]
  simp[gt,h2,show k+(i - k)=i by omega]
theorem kf(hl:l.length<=1000)(hb:∀x∈l,-1000000<=x/\x<=1000000):ja (.lst f (iL l))=.ok (.int l.sum):=by
 have:dh l=true:=by
  simp only[dh,List.all_eq_true,decide_eq_true_eq]
  exact hb
 simp[ja,aQ,hl,this]
@[simp] theorem mI(bs:List Bool):eF (bs.map .bl)=some bs:=by
 induction bs with
 | nil=>rfl
 | cons b bs ih=>simp[eF,ih]
end PR
namespace PR
theorem s0_{α:Type}{a b:α}{l:List α}:(a::l).set 0 b=b::l:=rfl
theorem s1_{α:Type}{a b:α}{l:List α}{n:Nat}:(a::l).set (n+1) b=a::l.set n b:=rfl
end PR
namespace G
open PySem L2 PR
def xE:MS :=
 (ar (mBr (av (mOp pLt (ac 1) (ap (p1 b_) (ae (ac 0) am))))
  (br (mOp aK (ac 0) (ac 1)))
  aY)
 (br (mC (.int (0)))))
def iA:List PV->Res PV:=a5 2 xE
def hG:MS :=
 (ar (fJ 0 0 (ac 1))
 (ar (fJ 0 7 (ac 2))
 (fJ 0 8 (ac 3))))
def fK:List PV->Res PV:=ij 4 hG
def xP:MS :=
 (ar (mBr ((jh (av (mOp pLt (ac 1) (mC (.int (2))))) (av (mOp pGt (ac 1) (mC (.int (20)))))))
  (bh 2 (ae (mC (.str "the number of machines is out of bounds")) am))
  aY)
 (ar (mBr (av (mOp pLt (ac 2) (ac 1)))
  (bh 2 (ae (mC (.str "the span is less than the size")) am))
  aY)
 (gz fK (ae (ac 1) (ae (ac 2) (ae (mC (.bl false)) am))))))
def wL:List PV->Res PV:=ij 3 xP
def xH:MS :=
 (ar (aX 2 (mOp bP (ac 0) (mC (.int (998244353)))))
 (ar (aX 3 (eJ am))
 (ar (cO (bI (ae (ac 1) am)) (tgN 4)
  (ar (aX 2 (mOp bP (mOp aG (mOp aG (mOp b8 (ac 2) (mOp aG (mOp aG (ac 2) (mOp b8 (mC (.int (2))) (ac 4))) (mC (.int (40503))))) (mOp b8 (mC (.int (12553))) (ac 4))) (mC (.int (1)))) (mC (.int (998244353)))))
 (da 3 (ac 2))))
 (dY 3))))
def kZ:List PV->Res PV:=a5 5 xH
def xo:MS :=
 (ar (aX 2 (ap (aO kZ) (ae (ac 1) (ae (ac 0) am))))
 (ar (aX 3 (eJ am))
 (ar (cO (bI (ae (ac 0) am)) (tgN 4)
  (ig 3 (mOp bP (mOp aK (ac 2) (ac 4)) (mOp aG (ac 4) (mC (.int (1))))) (ac 4)))
 (ar (aX 5 (eJ am))
 (ar (cO (j0 (ae (mC (.int (1))) (ae (ac 0) am))) (tgN 4)
  (da 5 (jg (ae (mOp aK (ac 3) (ac 4)) (ae (mOp aK (ac 3) (mOp bP (mOp dW (mOp aK (ac 2) (ac 4)) (mC (.int (16)))) (ac 4))) am)))))
 (ar (cO (bI (ae (ac 0) am)) (tgN 4)
  (cO (bI (ae (ac 4) am)) (tgN 6)
  (ar (aX 7 ((tY (mOp pEq (mOp bP (ac 1) (mC (.int (7)))) (mC (.int (3)))) ((j5 (mOp pEq (mOp bP (mOp aG (mOp dW (mOp aK (ac 2) (ac 4)) (mC (.int (512)))) (ac 6)) (ac 0)) (mC (.int (1)))) (mOp pEq (mOp bP (mOp dW (mOp aK (ac 2) (ac 4)) (mC (.int (8192)))) (mC (.int (3)))) (mC (.int (0)))))))))
 (mBr ((gp (dL (ac 7)) (gp (av (mOp gO (jg (ae (ac 6) (ae (ac 4) am))) (ac 5))) (av (mOp gO (jg (ae (ac 4) (ae (ac 6) am))) (ac 5))))))
  (da 5 (jg (ae (ac 6) (ae (ac 4) am))))
  aY))))
 (dY 5)))))))
def mf:List PV->Res PV:=a5 8 xo
def xI:MS :=
 (mBr ((jh (av (mOp pLt (ac 0) (ac 1))) (av (mOp pGt (ac 0) (mC (.int (10)))))))
  (bh 1 (ae (mC (.str "the number of machines is out of bounds")) am))
  aY)
def wH:List PV->Res PV:=a5 2 xI
def xU:MS :=
 (ar (aX 2 (eJ am))
 (ar (cO (eZ (ac 1)) (tgN 3)
  (ar (aX 4 (jg (ae (ap (p1 (fH eX)) (ae (ac 3) am)) (ae (ap (p1 (fH je)) (ae (ac 3) am)) am))))
 (ar (mBr ((jh (av (mOp pLt (mOp aK (ac 4) (mC (.int (0)))) (mC (.int (0))))) (av (mOp pGe (mOp aK (ac 4) (mC (.int (1)))) (ac 0)))))
  (bh 1 (ae (mC (.str "a way has a number that is no machine")) am))
  aY)
 (ar (mBr (av (mOp pEq (mOp aK (ac 4) (mC (.int (0)))) (mOp aK (ac 4) (mC (.int (1))))))
  (bh 1 (ae (mC (.str "a way has twice the same machine")) am))
  aY)
 (ar (mBr (av (mOp pIn (ac 4) (ac 2)))
  (bh 1 (ae (mC (.str "a way is told twice")) am))
  aY)
 (da 2 (ac 4)))))))
 (br (ap (p1 eH) (ae (ac 2) am)))))
def wP:List PV->Res PV:=a5 5 xU
def xC:MS :=
 (ar (aX 2 (aT [1] 1 (ck (ac 0)) (tgN 1) (av (mOp pEq (mOp aK (ac 1) (mC (.int (1)))) (ac 0))) (mOp aK (ac 1) (mC (.int (0))))))
 (ar (aX 3 (aT [1] 1 (ck (ac 0)) (tgN 1) (av (mOp pEq (mOp aK (ac 1) (mC (.int (0)))) (ac 0))) (mOp aK (ac 1) (mC (.int (1))))))
 (br (ap (p1 eH) (ae (mOp aG (ac 2) (ac 3)) am)))))
def ss:List PV->Res PV:=a5 4 xC
def pQ:MS :=
 (br (ap (p1 iw) (ae (mOp aK (mUn (ao 2) (ac 0)) (ac 1)) am)))
def sw:List PV->Res PV:=a5 2 pQ
def bE:Nat->Option (List PV->Res PV)
 | 8=>some sw
 | _=>none
def xm:MS :=
 (ar (aX 2 (aT [0] 1 (bI (ae (mUn (ao 0) (ac 0)) am)) (tgN 1) bH (mUn (ao 0) (ac 0))))
 (ar (iM 2 (ac 1) (mC (.int (0))))
 (ar (cO (bI (ae (mUn (ao 0) (ac 0)) am)) (tgN 3)
  (cO (bI (ae (mUn (ao 0) (ac 0)) am)) (tgN 4)
  (mBr (av (mOp pEq (mOp aK (ac 2) (ac 4)) (ac 3)))
  (cO (eZ (b6 bE (ac 0) (ae (ac 4) am))) (tgN 5)
  (iM 2 (ac 5) (ap (fV min) (ae (mOp aK (ac 2) (ac 5)) (ae (mOp aG (ac 3) (mC (.int (1)))) am)))))
  aY)))
 (dY 2))))
def sk:List PV->Res PV:=a5 6 xm
def xp:MS :=
 (ar (gS (ap (aO wH) (ae (ac 1) (ae (mC (.int (1))) am))))
 (ar (fJ 0 0 (ac 1))
 (ar (fJ 0 1 (ap (p1 dI) (ae (ap (aO wP) (ae (ac 1) (ae (ac 2) am))) am)))
 (ar (fJ 0 2 (ap (p1 dI) (ae (aT [0] 1 (bI (ae (ac 1) am)) (tgN 1) bH (ap (p1 dI) (ae (ap (aO ss) (ae (mUn (ao 1) (ac 0)) (ae (ac 1) am))) am))) am)))
 (mBr (av (mOp pEq (ap (p1 (fH je)) (ae (ap (aO sk) (ae (ac 0) (ae (mC (.int (0))) am))) am)) (ac 1)))
  (bh 1 (ae (mC (.str "not every machine can be come to from machine 0")) am))
  aY)))))
def mq:List PV->Res PV:=ij 3 xp
def xi:MS :=
 (gz fK (ae (ac 1) (ae (ac 2) (ae (mC (.bl false)) am))))
def qP:List PV->Res PV:=ij 3 xi
def C7:MS :=
 (ar (gA 1) (ar (fJ 0 4 (ac 1))
 (gz qP (ae (mUn (ao 0) (ac 1)) (ae (mUn (ao 0) (ac 1)) am)))))
def Cr:List PV->Res PV:=ij 2 C7
def C3:MS :=
 (ar (mBr (av (mOp pGt (ap (p1 b_) (ae (ac 0) am)) (mC (.int (9)))))
  (bh 2 (ae (mC (.str "there are more than nine parents")) am))
  aY)
 (cO (tZ (ac 0)) (tgT 2 (bf (tgN 1) (bf (tgN 2) eE)))
  (mBr ((jh (av (mOp pLt (ac 2) (mC (.int (0))))) (av (mOp pGe (ac 2) (ac 1)))))
  (bh 2 (ae (mC (.str "a parent is no machine of a lower number than its kid")) am))
  aY)))
def Cn:List PV->Res PV:=a5 3 C3
def C4:MS :=
 (ar (gS (ap (aO Cn) (ae (ac 1) am)))
 (ar (fJ 0 11 (ap (p1 dI) (ae (ac 1) am)))
 (gz qP (ae (mOp aG (ap (p1 b_) (ae (ac 1) am)) (mC (.int (1)))) (ae (mOp aG (ap (p1 b_) (ae (ac 1) am)) (mC (.int (2)))) am)))))
def Co:List PV->Res PV:=ij 2 C4
def xK:MS :=
 (mBr ((jh (av (mOp pLt (ac 0) (mC (.int (1))))) (av (mOp pGt (ac 0) (mC (.int (10)))))))
  (bh 2 (ae (mC (.str "the stretch or the number of blocks is out of bounds")) am))
  aY)
def sx:List PV->Res PV:=a5 1 xK
def xS:MS :=
 (ar (mBr (av (mOp pNe (ap (p1 b_) (ae (ac 1) am)) (mUn (ao 0) (ac 0))))
  (bh 2 (ae (mC (.str "there are not as many starts as machines")) am))
  aY)
 (cO (eZ (ac 1)) (tgN 3)
  (mBr ((gp (av (mOp iu (ac 3) (mC .non))) ((jh (av (mOp pLt (ac 3) (mC (.int (0))))) (av (mOp pGe (ac 3) (ac 2)))))))
  (bh 2 (ae (mC (.str "a start is out of bounds")) am))
  aY)))
def wO:List PV->Res PV:=a5 4 xS
def C0:MS :=
 (ar (gS (ap (aO sx) (ae (ac 3) am)))
 (ar (gS (ap (aO sx) (ae (ac 4) am)))
 (ar (fJ 0 3 (mOp b8 (ac 3) (ac 4)))
 (ar (gS (ap (aO wO) (ae (ac 1) (ae (ac 2) (ae (mUn (ao 3) (ac 0)) am)))))
 (ar (gA 1) (ar (fJ 0 4 (ac 1))
 (ar (fJ 0 5 (ap (p1 dI) (ae (ac 2) am)))
 (ar (fJ 0 6 (ac 3))
 (gz fK (ae (mUn (ao 0) (ac 1)) (ae (mOp aG (mUn (ao 3) (ac 0)) (mC (.int (1)))) (ae (mC (.bl true)) am))))))))))))
def ud:List PV->Res PV:=ij 5 C0
def xO:MS :=
 (ar (mBr ((jh (av (mOp pLt (ac 2) (mC (.int (0))))) (av (mOp pGe (ac 2) (mUn (ao 0) (ac 1))))))
  (bh 2 (ae (mC (.str "the root is no machine")) am))
  aY)
 (ar (aX 3 (aT [2] 1 (bI (ae (mUn (ao 0) (ac 1)) am)) (tgN 1) bH (v7 (av (mOp pEq (ac 1) (ac 0))) (mC (.int (0))) (mC .non))))
 (ar (gA 3) (ar (gA 1) (gz ud (ae (ac 1) (ae (ac 3) (ae (mUn (ao 0) (ac 1)) (ae (mC (.int (1))) am)))))))))
def sy:List PV->Res PV:=ij 4 xO
def xL:MS :=
 (ar (mBr (av (mOp pNe (ap (p1 b_) (ae (ac 1) am)) (mUn (ao 0) (ac 0))))
  (bh 2 (ae (mC (.str "there are not as many names as machines")) am))
  aY)
 (ar (mBr (av (mOp pNe (mUn h_ (ac 1)) (ap (p1 b_) (ae (ac 1) am))))
  (bh 2 (ae (mC (.str "two machines have the same name")) am))
  aY)
 (cO (eZ (ac 1)) (tgN 2)
  (mBr ((jh (av (mOp pLt (ac 2) (mC (.int (0))))) (av (mOp pGt (ac 2) (mC (.int (9)))))))
  (bh 2 (ae (mC (.str "a name is out of bounds")) am))
  aY))))
def wI:List PV->Res PV:=a5 3 xL
def xQ:MS :=
 (ar (gA 1) (ar (gS (ap (aO wI) (ae (ac 1) (ae (ac 2) am))))
 (ar (aX 3 (aT [1] 1 (ck (ac 2)) (tgN 1) bH (mOp b8 (mOp il (mC (.int (9))) (ac 1)) (mUn (ao 0) (ac 0)))))
 (ar (gA 3) (gz ud (ae (ac 1) (ae (ac 3) (ae (mUn (ao 0) (ac 1)) (ae (mC (.int (10))) am)))))))))
def wM:List PV->Res PV:=ij 4 xQ
def xR:MS :=
 (ar (gA 1) (ar (fJ 0 9 (iN 5 sy (ae (ac 1) (ae (ac 2) am))))
 (ar (fJ 0 4 (ac 1))
 (ar (fJ 0 10 (ac 2))
 (gz fK (ae (mUn (ao 0) (ac 1)) (ae (mOp b8 (mOp aG (mUn (ao 0) (ac 1)) (mC (.int (1)))) (mOp aG (mUn (ao 0) (ac 1)) (mC (.int (1))))) (ae (mC (.bl true)) am))))))))
def wN:List PV->Res PV:=ij 3 xR
def j_:MS :=
 (ar (mBr (av (mOp pEq (ac 0) (mC (.int (0)))))
  (br (iN 9 wL (ae (mOp aG (ac 1) (mC (.int (1)))) (ae (mOp aG (mOp aG (ac 1) (mC (.int (1)))) (mOp oO (eJ (ae (mOp bP (ac 2) (mC (.int (3)))) (ae (mOp bP (ac 2) (mOp m_ (mC (.int (10))) (mC (.int (59))))) am))) (mOp bP (mOp dW (ac 2) (mC (.int (3)))) (mC (.int (2)))))) am))))
  aY)
 (ar (mBr (av (mOp pEq (ac 0) (mC (.int (1)))))
  (br (iN 2 Cr (ae (iN 8 mq (ae (ac 1) (ae (ap (aO mf) (ae (ac 1) (ae (ac 3) am))) am))) am)))
  aY)
 (ar (mBr (av (mOp pEq (ac 0) (mC (.int (2)))))
  (br (iN 3 Co (ae (aT [] 2 (o3 (ap (aO kZ) (ae (ac 3) (ae (mOp il (ac 1) (mC (.int (1)))) am)))) (tgT 2 (bf (tgN 0) (bf (tgN 1) eE))) bH (mOp bP (mOp dW (ac 1) (mC (.int (4)))) (mOp aG (ac 0) (mC (.int (1)))))) am)))
  aY)
 (ar (mBr (av (mOp pEq (ac 0) (mC (.int (3)))))
  (br (iN 5 sy (ae (iN 8 mq (ae (ac 1) (ae (ap (aO mf) (ae (ac 1) (ae (ac 3) am))) am))) (ae (mOp bP (ac 2) (ac 1)) am))))
  aY)
 (ar (mBr (av (mOp pEq (ac 0) (mC (.int (4)))))
  (br (iN 6 wM (ae (iN 8 mq (ae (ac 1) (ae (ap (aO mf) (ae (ac 1) (ae (ac 3) am))) am))) (ae (aT [2] 1 (bI (ae (ac 1) am)) (tgN 1) bH (mOp bP (mOp aG (ac 0) (mOp b8 (mC (.int (3))) (ac 1))) (mC (.int (10))))) am))))
  aY)
 (br (iN 7 wN (ae (iN 8 mq (ae (ac 1) (ae (ap (aO mf) (ae (ac 1) (ae (ac 3) am))) am))) (ae (mOp bP (ac 2) (ac 1)) am)))))))))
def sr:List PV->Res PV:=a5 4 j_
def xA:MS :=
 (ar (aX 2 (eJ am))
 (ar (cO (bI (ae (ac 0) am)) (tgN 3)
  (ig 2 (mOp bP (mOp dW (ac 1) (mOp aG (ac 3) (mC (.int (1))))) (mOp aG (ac 3) (mC (.int (1))))) (ac 3)))
 (dY 2)))
def pq:List PV->Res PV:=a5 4 xA
def xt:MS :=
 (ar (aX 2 (eJ am))
 (ar (aX 3 (eJ am))
 (ar (gA 1) (ar (cO (r8 (ac 1)) (tgT 2 (bf (tgN 4) (bf (tgN 5) eE)))
  (ar (mBr (av (mOp pEq (mOp bP (ac 4) (mUn (ao 0) (ac 0))) (mC (.int (0)))))
  (aX 3 (ap (aO pq) (ae (mUn (ao 0) (ac 0)) (ae (ac 5) am))))
  aY)
 (ar (aX 6 (eJ (ae (mOp aK (ac 3) (mOp bP (ac 4) (mUn (ao 0) (ac 0)))) am)))
 (ar (mBr (kQ (dL (mUn (ao 8) (ac 0))))
  (ar (aX 7 (mOp bP (mOp b8 (mOp bP (mOp dW (ac 5) (mC (.int (7)))) (mC (.int (1021)))) (mC (.int (271)))) (mC (.int (1021)))))
 (aX 6 (mOp aG (aT [7,6] 1 (bI (ae (mUn (ao 0) (ac 0)) am)) (tgN 2) ((gp (av (mOp pEq (mOp bP (mOp vw (ac 0) (ac 2)) (mC (.int (2)))) (mC (.int (1))))) (av (mOp pNe (ac 2) (mOp aK (ac 1) (mC (.int (0)))))))) (ac 2)) (ac 6))))
  aY)
 (ar (gA 6) (da 2 (ac 6)))))))
 (dY 2)))))
def wA:List PV->Res PV:=a5 8 xt
def xy:MS :=
 (br (ap (p1 (kb lD)) (ae (aT [1] 1 (bI (ae (ac 0) am)) (tgN 1) bH (ap (p1 (kb pR)) (ae (aT [1] 1 (ck (ac 0)) (tgN 1) bH (mOp pIn (ac 0) (ac 1))) am))) am)))
def wD:List PV->Res PV:=a5 2 xy
def xj:MS :=
 (br (ap (p1 (kb lD)) (ae (aT [0,1,2] 1 (oZ (ae (mOp aG (mOp il (ap (p1 b_) (ae (ac 1) am)) (ac 2)) (mC (.int (1)))) am)) (tgN 3) bH (ap (aO wD) (ae (ac 0) (ae (gR (ac 1) (iy (ac 3)) (iy (mOp aG (ac 3) (ac 2)))) am)))) am)))
def md:List PV->Res PV:=a5 3 xj
def xr:MS :=
 (ar (mBr (av (mOp pNe (ap (p1 b_) (ae (ac 1) am)) (mUn (ao 0) (ac 0))))
  (bh 3 (ae (mC (.str "there are not as many registers as machines")) am))
  aY)
 (br (aT [0] 1 (ck (ac 1)) (tgN 1) bH (mOp bP (ac 1) (mUn (ao 7) (ac 0))))))
def gq:List PV->Res PV:=a5 2 xr
def aD:Nat->Option (List PV->Res PV)
 | 0 | 1 | 2 | 3 | 4 | 5 | 6 | 7 | 9=>some gq
 | _=>none
def xF:MS :=
 (ar (mBr ((gp (dL (mUn (ao 8) (ac 0))) (av (mOp pGt (ap (p1 b_) (ae (ac 1) am)) (mC (.int (1)))))))
  (bh 4 (ae (mC (.str "a rule that is alone gets one machine at a turn")) am))
  aY)
 (ar (cO (eZ (ac 1)) (tgN 2)
  (mBr ((jh (av (mOp pLt (ac 2) (mC (.int (0))))) (av (mOp pGe (ac 2) (mUn (ao 0) (ac 0))))))
  (bh 4 (ae (mC (.str "a name is no machine")) am))
  aY))
 (mBr (av (mOp pNe (mUn h_ (ac 1)) (ap (p1 b_) (ae (ac 1) am))))
  (bh 4 (ae (mC (.str "a machine is named twice")) am))
  aY)))
def wG:List PV->Res PV:=a5 3 xF
def Fv:MS :=
 (br (mOp aK (ac 1) (ac 2)))
def wz:List PV->Res PV:=a5 3 Fv
def Ha:MS :=
 (br (eJ am))
def Fq:List PV->Res PV:=a5 2 Ha
def Dg:MS :=
 (br (aT [1] 1 (ck (b6 bE (mUn (ao 4) (ac 0)) (ae (ac 1) am))) (tgN 1) (av (mOp pLt (ac 1) (ac 0))) (ac 1)))
def Cy:List PV->Res PV:=a5 2 Dg
def De:MS :=
 (br (aT [1] 2 (zz (mUn (ao 11) (ac 0))) (tgT 2 (bf (tgN 1) (bf (tgN 2) eE))) (av (mOp pEq (ac 2) (ac 0))) (ac 1)))
def Cv:List PV->Res PV:=a5 2 De
def bA:Nat->Option (List PV->Res PV)
 | 1=>some Fq
 | 2=>some Cy
 | 3=>some Cv
 | _=>none
def xV:MS :=
 (ar (aX 3 (aT [1] 1 (ck (b6 bA (ac 0) (ae (ac 2) am))) (tgN 1) bH (mOp aK (ac 0) (ac 1))))
 (ar (aX 4 (mC (.int (0))))
 (ar (iK (av (mOp pIn (ac 4) (ac 3)))
  (aX 4 (mOp aG (ac 4) (mC (.int (1))))))
 (dY 4))))
def wQ:List PV->Res PV:=a5 5 xV
def CY:MS :=
 (br (ap (fV min) (ae (mUn (ao 0) (ac 0)) (ae (mOp aG (mC (.int (1))) (ap (p1 ja) (ae (aT [1] 1 (ck (b6 bA (ac 0) (ae (ac 2) am))) (tgN 1) bH (mOp aK (ac 0) (ac 1))) am))) am))))
def Cj:List PV->Res PV:=a5 3 CY
def Dh:MS :=
 (br ((j5 (mOp pNe (ac 1) (mUn (ao 3) (ac 0))) (mOp pNe (mOp bP (mOp aG (ac 1) (mC (.int (1)))) (mUn (ao 6) (ac 0))) (mC (.int (0)))))))
def ue:List PV->Res PV:=a5 2 Dh
def cV:Nat->Option (List PV->Res PV)
 | 4 | 5 | 6=>some ue
 | _=>none
def xT:MS :=
 (ar (aX 3 (aT [1] 1 (ck (b6 bE (mUn (ao 4) (ac 0)) (ae (ac 2) am))) (tgN 1) bH (mOp aK (ac 0) (ac 1))))
 (ar (aX 4 (aT [0] 1 (ck (ac 3)) (tgN 1) (dL (b6 cV (ac 0) (ae (ac 1) am))) (mOp aG (ac 1) (mC (.int (1))))))
 (ar (mBr (av (mOp iu (mOp aK (mUn (ao 5) (ac 0)) (ac 2)) (mC .non)))
  (da 4 (mOp aK (mUn (ao 5) (ac 0)) (ac 2)))
  aY)
 (br (ap (p1 (fH eX)) (ae (mOp aG (ac 4) (eJ (ae (mUn (ao 3) (ac 0)) am))) am))))))
def mt:List PV->Res PV:=a5 5 xT
def C5:MS :=
 (br (aT [0] 1 (ck (ac 1)) (tgN 1) bH (jg (ae (mOp dW (ac 1) (mOp aG (mUn (ao 0) (ac 0)) (mC (.int (1))))) (ae (mOp bP (ac 1) (mOp aG (mUn (ao 0) (ac 0)) (mC (.int (1))))) am)))))
def Cp:List PV->Res PV:=a5 2 C5
def d5:Nat->Option (List PV->Res PV)
 | 7=>some Cp
 | _=>none
def CW:MS :=
 (br (aT [] 1 (ck (b6 d5 (ac 0) (ae (ac 1) am))) (tgN 0) bH (mOp aK (ac 0) (mC (.int (0))))))
def Ci:List PV->Res PV:=a5 2 CW
def db:Nat->Option (List PV->Res PV)
 | 7=>some Ci
 | _=>none
def jQ:Nat->Option (List PV->Res PV)
 | 5=>some mt
 | _=>none
def C8:MS :=
 (br (aT [] 1 (ck (b6 d5 (ac 0) (ae (ac 1) am))) (tgN 0) bH (mOp aK (ac 0) (mC (.int (1))))))
def Cs:List PV->Res PV:=a5 2 C8
def cw:Nat->Option (List PV->Res PV)
 | 7=>some Cs
 | _=>none
def C6:MS :=
 (ar (mBr (av (mOp pEq (ac 2) (mUn (ao 10) (ac 0))))
  (br (mC .non))
  aY)
 (ar (aX 3 (aT [1,2] 1 (ck (b6 bE (mUn (ao 4) (ac 0)) (ae (ac 2) am))) (tgN 2) (av (mOp pEq (mOp aK (ac 0) (ac 2)) (mOp il (mOp aK (ac 0) (ac 1)) (mC (.int (1)))))) (ac 2)))
 (br (mUn lW (ac 3)))))
def Cq:List PV->Res PV:=a5 4 C6
def g7:Nat->Option (List PV->Res PV)
 | 7=>some Cq
 | _=>none
def C9:MS :=
 (ar (aX 2 (b6 db (ac 0) (ae (ac 1) am)))
 (br (aT [0,2] 1 (bI (ae (mUn (ao 0) (ac 0)) am)) (tgN 2) bH (b6 g7 (ac 0) (ae (ac 1) (ae (ac 2) am))))))
def Ct:List PV->Res PV:=a5 3 C9
def gc:Nat->Option (List PV->Res PV)
 | 7=>some Ct
 | _=>none
def Df:MS :=
 (ar (aX 3 (aT [2] 2 (jf (ae (b6 cw (ac 0) (ae (ac 1) am)) (ae (b6 gc (ac 0) (ae (ac 1) am)) am))) (tgT 2 (bf (tgN 1) (bf (tgN 2) eE))) (av (mOp pEq (ac 2) (ac 0))) (ac 1)))
 (br (ap (fV min) (ae (mUn (ao 0) (ac 0)) (ae (mOp aG (mC (.int (1))) (ap (p1 ja) (ae (ac 3) am))) am)))))
def Cw:List PV->Res PV:=a5 4 Df
def cB:Nat->Option (List PV->Res PV)
 | 7=>some Cw
 | _=>none
def xM:MS :=
 (ar (aX 3 (b6 db (ac 0) (ae (ac 1) am)))
 (ar (aX 4 (b6 jQ (mUn (ao 9) (ac 0)) (ae (ac 3) (ae (ac 2) am))))
 (ar (aX 5 (mOp aK (b6 cw (ac 0) (ae (ac 1) am)) (ac 2)))
 (ar (mBr (av (mOp pEq (ac 4) (mOp aK (ac 3) (ac 2))))
  (aX 5 (b6 cB (ac 0) (ae (ac 1) (ae (ac 2) am))))
  aY)
 (br (mOp aG (mOp b8 (ac 4) (mOp aG (mUn (ao 0) (ac 0)) (mC (.int (1))))) (ac 5)))))))
def wJ:List PV->Res PV:=a5 6 xM
def xN:MS :=
 (ar (mBr (av (mOp pNe (ac 2) (mC (.int (0)))))
  (br (mOp aK (ac 1) (mOp il (ac 2) (mC (.int (1))))))
  aY)
 (ar (mBr (av (mOp pEq (mOp aK (ac 1) (mC (.int (0)))) (mOp aK (ac 1) (mOp il (mUn (ao 0) (ac 0)) (mC (.int (1)))))))
  (br (mOp bP (mOp aG (mOp aK (ac 1) (mC (.int (0)))) (mC (.int (1)))) (mUn (ao 7) (ac 0))))
  aY)
 (br (mOp aK (ac 1) (mC (.int (0)))))))
def wK:List PV->Res PV:=a5 3 xN
def ay:Nat->Option (List PV->Res PV)
 | 0 | 1=>some wz
 | 2=>some wQ
 | 3=>some Cj
 | 4 | 5 | 6=>some mt
 | 7=>some wJ
 | 9=>some wK
 | _=>none
def xG:MS :=
 (ar (gS (ap (aO wG) (ae (ac 0) (ae (ac 2) am))))
 (br (aT [2,0,1] 1 (bI (ae (mUn (ao 0) (ac 0)) am)) (tgN 3) bH (v7 (av (mOp pIn (ac 3) (ac 0))) (b6 ay (ac 1) (ae (ac 2) (ae (ac 3) am))) (mOp aK (ac 2) (ac 3))))))
def gs:List PV->Res PV:=a5 3 xG
def aF:Nat->Option (List PV->Res PV)
 | 0 | 1 | 2 | 3 | 4 | 5 | 6 | 7 | 9=>some gs
 | _=>none
def xJ:MS :=
 (br (aT [0,1] 1 (bI (ae (mUn (ao 0) (ac 0)) am)) (tgN 2) (av (mOp pNe (b6 ay (ac 0) (ae (ac 1) (ae (ac 2) am))) (mOp aK (ac 1) (ac 2)))) (ac 2)))
def gu:List PV->Res PV:=a5 2 xJ
def aq:Nat->Option (List PV->Res PV)
 | 0 | 1 | 2 | 3 | 4 | 5 | 6 | 7 | 9=>some gu
 | _=>none
def xl:MS :=
 (ar (aX 3 (b6 aF (ac 0) (ae (ac 1) (ae (ac 2) am))))
 (ar (aX 4 (aT [2] 1 (ck (b6 aq (ac 0) (ae (ac 1) am))) (tgN 1) (av (mOp pIn (ac 1) (ac 0))) (ac 1)))
 (qD 4 3)))
def pp:List PV->Res PV:=a5 5 xl
def xW:MS :=
 (ar (aX 3 (b6 aD (ac 0) (ae (ac 1) am)))
 (ar (aX 4 (eJ am))
 (ar (gA 2) (ar (rY (eZ (ac 2)) 4 3 5 (ap (aO pp) (ae (ac 0) (ae (ac 3) (ae (ac 5) am)))))
 (dY 4)))))
def pz:List PV->Res PV:=a5 6 xW
def xq:MS :=
 (br (mOp pEq (ap (p1 b_) (ae (b6 aq (ac 0) (ae (ac 1) am)) am)) (mC (.int (0)))))
def gW:List PV->Res PV:=a5 2 xq
def CZ:MS :=
 (br (mOp pEq (ap (p1 b_) (ae (b6 aq (ac 0) (ae (ac 1) am)) am)) (mC (.int (1)))))
def zM:List PV->Res PV:=a5 2 CZ
def aE:Nat->Option (List PV->Res PV)
 | 0 | 1 | 2 | 3 | 4 | 5 | 6 | 7=>some gW
 | 9=>some zM
 | _=>none
def Fw:MS :=
 (bh 5 (ae (mC (.str "this rule has no measure")) am))
def Az:List PV->Res PV:=a5 2 Fw
def Fx:MS :=
 (br (mC (.int (0))))
def AA:List PV->Res PV:=a5 2 Fx
def C2:MS :=
 (br (mOp il (mOp il (mUn (ao 0) (ac 0)) (mC (.int (1)))) (ac 1)))
def Cl:List PV->Res PV:=a5 2 C2
def Fu:MS :=
 (dY 1)
def Cm:List PV->Res PV:=a5 2 Fu
def cM:Nat->Option (List PV->Res PV)
 | 1=>some AA
 | 2=>some Cl
 | 3=>some Cm
 | _=>none
def xk:MS :=
 (ar (aX 2 (mC (.int (1))))
 (ar (cO (bI (ae (ac 1) am)) (tgN 3)
  (aX 2 (mOp b8 (ac 2) (ac 0))))
 (dY 2)))
def pj:List PV->Res PV:=a5 4 xk
def C_:MS :=
 (br (ap (p1 ja) (ae (aT [0] 1 (ck (b6 aq (ac 0) (ae (ac 1) am))) (tgN 1) bH (ap (aO pj) (ae (mC (.int (2))) (ae (b6 cM (ac 0) (ae (ac 1) am)) am)))) am)))
def wx:List PV->Res PV:=a5 2 C_
def Dc:MS :=
 (ar (aX 2 (aT [0,1] 1 (bI (ae (mUn (ao 0) (ac 0)) am)) (tgN 2) bH (b6 ay (ac 0) (ae (ac 1) (ae (ac 2) am)))))
 (ar (aX 3 (mOp aG (mUn (ao 0) (ac 0)) (mC (.int (1)))))
 (ar (aX 4 (mC (.int (0))))
 (ar (cO (bI (ae (mUn (ao 3) (ac 0)) am)) (tgN 5)
  (ar (aX 6 (aT [5] 2 (jf (ae (ac 1) (ae (ac 2) am))) (tgT 2 (bf (tgN 1) (bf (tgN 2) eE))) ((gp (av (mOp pEq (ac 1) (ac 0))) (av (mOp pGt (ac 2) (ac 0))))) (ac 1)))
 (ar (aX 7 (aT [5] 2 (jf (ae (ac 1) (ae (ac 2) am))) (tgT 2 (bf (tgN 1) (bf (tgN 2) eE))) ((gp (av (mOp pGt (ac 1) (ac 0))) (av (mOp pEq (ac 2) (ac 0))))) (ac 1)))
 (aX 4 (mOp aG (mOp b8 (mOp aG (mOp b8 (ac 4) (ac 3)) (ap (p1 b_) (ae (ac 6) am))) (ac 3)) (ap (p1 b_) (ae (ac 7) am)))))))
 (dY 4)))))
def qQ:List PV->Res PV:=a5 8 Dc
def xD:MS :=
 (ar (aX 2 (aT [0,1] 1 (bI (ae (ap (p1 b_) (ae (ac 0) am)) am)) (tgN 2) (av (mOp tJ (jg (ae (mOp aK (ac 0) (ac 2)) (ae (ac 2) am))) (jg (ae (mOp aK (ac 0) (ac 1)) (ae (ac 1) am))))) (ac 2)))
 (br (ap (p1 b_) (ae (ac 2) am))))
def wF:List PV->Res PV:=a5 3 xD
def fA:Nat->Option (List PV->Res PV)
 | 5=>some qQ
 | _=>none
def Db:MS :=
 (ar (aX 2 (b6 db (ac 0) (ae (ac 1) am)))
 (ar (aX 3 (b6 cw (ac 0) (ae (ac 1) am)))
 (ar (aX 4 (aT [3,0,1] 1 (bI (ae (mUn (ao 0) (ac 0)) am)) (tgN 3) (av (mOp pNe (mOp aK (ac 0) (ac 3)) (b6 cB (ac 1) (ae (ac 2) (ae (ac 3) am))))) (ac 3)))
 (ar (aX 5 (aT [2] 1 (ck (ac 4)) (tgN 1) bH (ap (aO pj) (ae (mC (.int (2))) (ae (ap (aO wF) (ae (ac 0) (ae (ac 1) am))) am)))))
 (br (mOp aG (mOp b8 (b6 fA (mUn (ao 9) (ac 0)) (ae (ac 2) am)) (ap (aO pj) (ae (mC (.int (2))) (ae (mUn (ao 0) (ac 0)) am)))) (ap (p1 ja) (ae (ac 5) am))))))))
def Cu:List PV->Res PV:=a5 6 Db
def xw:MS :=
 (ar (aX 1 (mC (.int (1))))
 (ar (iK ((gp (av (mOp pLt (ac 1) (ap (p1 b_) (ae (ac 0) am)))) (av (mOp pEq (mOp aK (ac 0) (ac 1)) (mOp aK (ac 0) (mC (.int (0))))))))
  (aX 1 (mOp aG (ac 1) (mC (.int (1))))))
 (dY 1)))
def wC:List PV->Res PV:=a5 2 xw
def C1:MS :=
 (ar (mBr (av (mOp gO (mOp aK (ac 0) (mC (.int (0)))) (gR (ac 0) (iy (ap (aO wC) (ae (ac 0) am))) jk)))
  (br (mC (.int (0))))
  aY)
 (ar (aX 2 (mC (.int (1))))
 (ar (iK (av (mOp pIn (mOp bP (mOp aG (mOp aK (ac 0) (mC (.int (0)))) (ac 2)) (ac 1)) (gR (ac 0) (iy (mC (.int (1)))) jk)))
  (aX 2 (mOp aG (ac 2) (mC (.int (1))))))
 (dY 2))))
def Ck:List PV->Res PV:=a5 3 C1
def Da:MS :=
 (ar (aX 2 (aT [0] 1 (ck (b6 aq (ac 0) (ae (ac 1) am))) (tgN 1) (av (mOp pNe (ac 1) (mC (.int (0))))) (mOp il (mUn (ao 0) (ac 0)) (ac 1))))
 (br (mOp aG (mOp b8 (mUn (ao 0) (ac 0)) (ap (aO Ck) (ae (ac 1) (ae (mUn (ao 7) (ac 0)) am)))) (ap (p1 ja) (ae (ac 2) am)))))
def wy:List PV->Res PV:=a5 3 Da
def aC:Nat->Option (List PV->Res PV)
 | 0=>some Az
 | 1 | 2 | 3=>some wx
 | 4 | 5 | 6=>some qQ
 | 7=>some Cu
 | 9=>some wy
 | _=>none
def xu:MS :=
 (br ((j5 (uH (ac 0) "int") (rZ (uH (ac 0) "bool")))))
def wB:List PV->Res PV:=a5 1 xu
def xB:MS :=
 (ar (mBr (dL (mOp aK (ac 0) (ac 2)))
  (br (mC (.bl true)))
  aY)
 (ar (cO (j0 (ae (mOp aG (ac 2) (mC (.int (1)))) (ae (mOp aG (mOp aG (ac 2) (ac 3)) (mC (.int (1)))) am))) (tgN 4)
  (mBr (dL (mOp aK (ac 0) (ac 4)))
  (br (mC (.bl true)))
  aY))
 (br (mOp pLt (mOp aK (ac 1) (mOp aG (ac 2) (ac 3))) (mOp aK (ac 1) (ac 2))))))
def wE:List PV->Res PV:=a5 5 xB
def xX:MS :=
 (ar (aX 1 (ap (aO iA) (ae (ac 0) (ae (mC (.int (0))) am))))
 (ar (aX 2 (ap (aO sr) (ae (mOp bP (ac 1) (mC (.int (6)))) (ae (mOp aG (mC (.int (1))) (mOp bP (mOp dW (ac 1) (mC (.int (6)))) (mC (.int (6))))) (ae (mOp dW (ac 1) (mC (.int (36)))) (ae (ap (aO iA) (ae (ac 0) (ae (mC (.int (1))) am))) am))))))
 (ar (aX 3 (mUn (ao 0) (ac 2)))
 (ar (aX 4 (mOp bP (ap (aO iA) (ae (ac 0) (ae (mC (.int (2))) am))) (mOp m_ (mC (.int (10))) (mC (.int (50))))))
 (ar (aX 5 (aT [4] 1 (ck (ap (aO kZ) (ae (ap (aO iA) (ae (ac 0) (ae (mC (.int (2))) am))) (ae (ac 3) am)))) (tgN 1) bH (mOp il (mOp b8 (ac 1) (mOp aG (ac 0) (mC (.int (1))))) (mOp b8 (ac 0) (mC (.int (998244353)))))))
 (ar (aX 6 (ap (aO wA) (ae (ac 2) (ae (mOp aG (gR (ac 0) (iy (mC (.int (3)))) (iy (mC (.int (253))))) (mOp tD (eJ (ae (mC (.int (0))) am)) (mOp aG (mOp b8 (mC (.int (2))) (ac 3)) (mC (.int (4)))))) am))))
 (ar (aX 7 (mOp aG (mOp il (mOp b8 (mC (.int (2))) (ac 3)) (mC (.int (1)))) (mOp bP (mOp dW (ac 1) (mC (.int (36)))) (mC (.int (3))))))
 (ar (gA 6) (ar (mBr ((jh (av (mOp kK (ap (aO md) (ae (ac 3) (ae (ac 6) (ae (mOp il (mOp b8 (mC (.int (2))) (ac 3)) (mC (.int (1)))) am)))) (mC (.bl true)))) (av (mOp kK (ap (aO md) (ae (ac 3) (ae (ac 6) (ae (ac 7) am)))) (mC (.bl true))))))
  (br (mC (.bl false)))
  aY)
 (ar (aX 8 (eJ (ae (b6 aD (ac 2) (ae (ac 5) am)) am)))
 (ar (cO (eZ (mFz (ap (aO pz) (ae (ac 2) (ae (ac 5) (ae (ac 6) am)))))) (tgN 9)
  (da 8 (ap (p1 iw) (ae (mOp aK (ac 9) (mC (.int (1)))) am))))
 (ar (mBr (av (mOp pNe (ap (p1 b_) (ae (ac 8) am)) (mOp aG (ap (p1 b_) (ae (ac 6) am)) (mC (.int (1))))))
  (br (mC (.bl false)))
  aY)
 (ar (gA 8) (ar (aX 10 (aT [2] 1 (ck (ac 8)) (tgN 1) bH (b6 aE (ac 0) (ae (ap (p1 iw) (ae (ac 1) am)) am))))
 (ar (aX 11 (aT [2] 1 (ck (ac 8)) (tgN 1) bH (b6 aC (ac 0) (ae (ap (p1 iw) (ae (ac 1) am)) am))))
 (ar (mBr (kQ (dL (ap (p1 (kb lD)) (ae (aT [] 1 (ck (ac 11)) (tgN 0) bH (ap (aO wB) (ae (ac 0) am))) am))))
  (br (mC (.bl false)))
  aY)
 (ar (cO (bI (ae (mOp aG (mOp il (ap (p1 b_) (ae (ac 6) am)) (ac 7)) (mC (.int (1)))) am)) (tgN 12)
  (mBr (kQ (dL (ap (aO wE) (ae (ac 10) (ae (ac 11) (ae (ac 12) (ae (ac 7) am)))))))
  (br (mC (.bl false)))
  aY))
 (br (mOp pEq (ap (aO pz) (ae (ac 2) (ae (mOp aK (ac 8) (mC (.int (0)))) (ae (eJ (ae (eJ am) (ae (eJ am) am))) am)))) (eJ (ae (jg (ae (eJ am) (ae (mOp aK (ac 8) (mC (.int (0)))) am))) (ae (jg (ae (eJ am) (ae (mOp aK (ac 8) (mC (.int (0)))) am))) am))))))))))))))))))))))
def AB:List PV->Res PV:=a5 13 xX
end G
namespace G
open PySem L2 PR
def top(i:Nat):Stmt:=PySem.Challenge.pw_calmring_k42_windows.main.body.getD i (.Pass ⟨0,0,0,0⟩)
def tF(q:Str)(i k:Nat)(N:List Str):FS:=⟨q,top i,k,N,none⟩
def tM(c:Nat)(q:Str)(i j k:Nat)(N:List Str):FS:=⟨q,zH (top i) j,k,N,some c⟩
def mE(c:Nat)(n:Str)(i:Nat):Nat×Str×Nat:=(c,n,i)
def pt:PT:={
 F:=[tF "_law_cell_at" 52 2 ["_law_script", "_law_k"],
  tM 0 "Rule.__init__" 16 0 4 ["self", "size", "span", "alone"],
  tM 9 "PassRule.__init__" 48 0 3 ["self", "size", "span"],
  tF "_law_numbers" 54 2 ["_law_cell", "_law_many", "_law_number", "_law_found", "_law_k"],
  tF "_law_ways" 55 2 ["_law_size", "_law_cell", "_law_numbers_here", "_law_order_here", "_law_k", "_law_ways_here", "_law_j", "_law_more"],
  tF "refuse_size" 42 2 ["size", "least"],
  tF "ordered_pairs" 43 2 ["size", "ways", "pairs", "way", "pair"],
  tF "neighbours" 44 2 ["pairs", "at", "lower", "higher"],
  tM 8 "Net.beside" 40 1 2 ["self", "at"],
  tF "far_from" 41 2 ["net", "root", "far", "steps", "at", "other"],
  tM 8 "Net.__init__" 40 0 3 ["self", "size", "ways"],
  tM 1 "DownRule.__init__" 20 0 3 ["self", "size", "span"],
  tM 2 "PaintRule.__init__" 21 0 2 ["self", "net"],
  tF "refuse_parents" 23 1 ["parents", "kid", "parent"],
  tM 3 "CountRule.__init__" 22 0 2 ["self", "parents"],
  tF "refuse_part" 31 1 ["part"],
  tF "refuse_starts" 32 3 ["net", "starts", "top", "start"],
  tM 4 "LeastRule.__init__" 28 0 5 ["self", "net", "starts", "stretch", "blocks"],
  tM 5 "FarRule.__init__" 29 0 3 ["self", "net", "root", "starts"],
  tF "refuse_names" 33 2 ["net", "names", "name"],
  tM 6 "LeadRule.__init__" 30 0 3 ["self", "net", "names", "starts"],
  tM 7 "GrowRule.__init__" 35 0 3 ["self", "net", "root"],
  tF "_law_rule" 56 4 ["_law_kind", "_law_size", "_law_first", "_law_cell"],
  tF "_law_order" 57 2 ["_law_size", "_law_cell", "_law_order_here", "_law_k"],
  tF "_law_turns" 58 2 ["_law_rule_here", "_law_cells", "_law_turns_here", "_law_order_here", "_law_k", "_law_cell", "_law_named", "_law_number"],
  tF "names_all" 5 2 ["size", "turns"],
  tF "fair" 3 3 ["size", "turns", "within"],
  tM 0 "Rule.read" 16 1 2 ["self", "registers"],
  tF "refuse_turn" 17 2 ["rule", "named", "at"],
  tM 0 "Rule.due" 16 2 3 ["self", "cells", "at"],
  tM 1 "DownRule.hangs_on" 20 1 2 ["self", "at"],
  tM 2 "PaintRule.hangs_on" 21 1 2 ["self", "at"],
  tM 3 "CountRule.hangs_on" 22 1 2 ["self", "at"],
  tM 2 "PaintRule.due" 21 3 3 ["self", "cells", "at", "taken", "colour"],
  tM 3 "CountRule.due" 22 3 3 ["self", "cells", "at"],
  tM 4 "LeastRule.has_offer" 28 2 2 ["self", "cell"],
  tM 4 "LeastRule.due" 28 1 3 ["self", "cells", "at", "near", "offers"],
  tM 7 "GrowRule.parts" 35 1 2 ["self", "cells"],
  tM 7 "GrowRule.fars" 35 6 2 ["self", "cells"],
  tM 7 "GrowRule.counts" 35 7 2 ["self", "cells"],
  tM 7 "GrowRule.elder" 35 8 3 ["self", "fars", "at", "nearer"],
  tM 7 "GrowRule.elders" 35 2 2 ["self", "cells", "fars"],
  tM 7 "GrowRule.due_count" 35 9 3 ["self", "cells", "at", "kids"],
  tM 7 "GrowRule.due" 35 3 3 ["self", "cells", "at", "fars", "due_far", "count"],
  tM 9 "PassRule.due" 48 1 3 ["self", "cells", "at"],
  tM 0 "Rule.turned" 16 5 3 ["self", "cells", "named"],
  tM 0 "Rule.movers" 16 3 2 ["self", "cells"],
  tF "row_of" 4 3 ["rule", "cells", "named", "behind", "done"],
  tF "run" 2 3 ["rule", "registers", "turns", "cells", "rows", "named"],
  tM 0 "Rule.calm" 16 4 2 ["self", "cells"],
  tM 9 "PassRule.calm" 48 2 2 ["self", "cells"],
  tM 0 "Rule.measure" 16 6 2 ["self", "cells"],
  tM 1 "DownRule.rank" 20 2 2 ["self", "at"],
  tM 2 "PaintRule.rank" 21 2 2 ["self", "at"],
  tM 3 "CountRule.rank" 22 2 2 ["self", "at"],
  tF "power" 14 2 ["base", "exponent", "product", "step"],
  tM 1 "DownRule.measure" 20 3 2 ["self", "cells"],
  tM 4 "LeastRule.measure" 28 3 2 ["self", "cells", "dues", "base", "number", "mark", "rising", "falling"],
  tF "rank_by_far" 36 2 ["fars", "at", "lower"],
  tM 7 "GrowRule.measure" 35 4 2 ["self", "cells", "fars", "counts", "wrong", "weights"],
  tF "beginning" 50 1 ["cells", "length"],
  tF "steps_to_fresh" 49 2 ["cells", "span", "steps"],
  tM 9 "PassRule.measure" 48 3 2 ["self", "cells", "weights"],
  tF "_law_whole" 53 1 ["_law_found"],
  tF "_law_window" 59 4 ["_law_calms", "_law_measures", "_law_start", "_law_within", "_law_k"],
  tF "law" 60 1 ["_law_script", "_law_first", "_law_rule_here", "_law_size", "_law_far", "_law_registers", "_law_turns_here", "_law_within", "_law_states", "_law_row", "_law_calms", "_law_measures", "_law_start"]]
 C:=["Rule", "DownRule", "PaintRule", "CountRule", "LeastRule", "FarRule", "LeadRule", "GrowRule", "Net", "PassRule"]
 X:=["CalmError", "BadNet", "BadRule", "BadState", "BadTurn", "NoMeasure"]
 A:=["size", "pairs", "near", "top", "net", "starts", "stretch", "span", "alone", "far_rule", "root", "parents"]
 M:=[mE 8 "beside" 8,mE 0 "read" 27,mE 1 "read" 27,mE 2 "read" 27,mE 3 "read" 27,mE 4 "read" 27,mE 5 "read" 27,mE 6 "read" 27,mE 7 "read" 27,mE 9 "read" 27,mE 1 "hangs_on" 30,mE 2 "hangs_on" 31,mE 3 "hangs_on" 32,mE 4 "has_offer" 35,mE 5 "has_offer" 35,mE 6 "has_offer" 35,mE 7 "parts" 37,mE 7 "fars" 38,mE 5 "due" 36,mE 7 "counts" 39,mE 7 "elder" 40,mE 7 "elders" 41,mE 7 "due_count" 42,mE 0 "due" 29,mE 1 "due" 29,mE 2 "due" 33,mE 3 "due" 34,mE 4 "due" 36,mE 6 "due" 36,mE 7 "due" 43,mE 9 "due" 44,mE 0 "turned" 45,mE 1 "turned" 45,mE 2 "turned" 45,mE 3 "turned" 45,mE 4 "turned" 45,mE 5 "turned" 45,mE 6 "turned" 45,mE 7 "turned" 45,mE 9 "turned" 45,mE 0 "movers" 46,mE 1 "movers" 46,mE 2 "movers" 46,mE 3 "movers" 46,mE 4 "movers" 46,mE 5 "movers" 46,mE 6 "movers" 46,mE 7 "movers" 46,mE 9 "movers" 46,mE 0 "calm" 49,mE 1 "calm" 49,mE 2 "calm" 49,mE 3 "calm" 49,mE 4 "calm" 49,mE 5 "calm" 49,mE 6 "calm" 49,mE 7 "calm" 49,mE 9 "calm" 50,mE 1 "rank" 52,mE 2 "rank" 53,mE 3 "rank" 54,mE 5 "measure" 57,mE 0 "measure" 51,mE 1 "measure" 56,mE 2 "measure" 56,mE 3 "measure" 56,mE 4 "measure" 57,mE 6 "measure" 57,mE 7 "measure" 59,mE 9 "measure" 62]
 Mk:=[(3,14),(5,18),(7,21),(6,20),(8,10),(2,12),(9,2)]
 U:=[(1,11),(4,17),(0,1)]
 B:=["len", "range", "max", "min", "sorted", "tuple", "list", "enumerate", "set", "any", "all", "sum", "zip", "isinstance", "bool", "int"]
 I:=[("LEAST_RING", 2),("GREATEST_RING", 20),("GREATEST_NET", 10),("LEAST_NET", 1),("MOST_PARENTS", 9),("GREATEST_PART", 10),("GREATEST_NAME", 9),("LEAD_BLOCKS", 10)]
 KT:=[]
 HT:=[] }
theorem hA:pt.attOk:=⟨by decide +kernel,by decide +kernel⟩
abbrev T(K:PySem.W.Frag):Tb:=pt.T hA K
section
variable{P:Program}{w:World}{K:PySem.W.Frag}{mg:Str->Option Value}{base:Heap}(t:Tx pt K mg)(hB:K.In base)
include t hB
theorem nu:OkF pt hA P w K mg base 1 0 iA:=okC 0 t fun _ _ _ _ _ _ cx nd =>
 (ah (ba (fC (sv 1) (bZ cx.hK rfl (t.b 0) (sv 0))) (ak (aI (bC cx (sv 0) (sv 1) (fun _ _=>rfl)))) aS)
 (ak (aI (ai))))
theorem nq:OkI pt hA P w K mg base 1 1 fK:=okI 1 t fun _ _ _ _ _ _ cx nd =>
 (ah (sFld 0 t cx (sv 1))
 (ah (sFld 7 t cx (sv 2))
 (ak (sFld 8 t cx (sv 3)))))
theorem BP:OkI pt hA P w K mg base 3 2 wL:=okI 2 t fun _ _ _ _ _ _ cx nd =>
 (ah (ba (SW.st (iq (fC (sv 1) (di rfl (t.c 0))) (ff (jX (sv 1) (di rfl (t.c 1)))))) (ak (b0 2 t cx hB bX (aa (bY) af))) aS)
 (ah (ba (fC (sv 2) (sv 1)) (ak (b0 2 t cx hB bX (aa (bY) af))) aS)
 (ak (oy 0 t (nq t hB) cx (aa (sv 1) (aa (sv 2) (aa (gj) af)))))))
theorem qv:OkF pt hA P w K mg base 1 3 kZ:=okC 3 t fun _ _ _ _ _ _ cx nd =>
 (ah (bR nd (bj (sv 0) (ai)))
 (ah (bR nd (fD af))
 (ah (b7 cx.po cx.calm (cD rfl (t.b 1) (aa (sv 1) af)) (sgN nd) (ah (bR nd (bj (aH (aH (cq (sv 2) (aH (aH (sv 2) (cq (ai) (sv 4))) (ai))) (cq (ai) (sv 4))) (ai)) (ai)))
 (ak (qh cx (sv 2)))))
 (ak (cZ rfl (Or.inl rfl))))))
theorem nh:OkF pt hA P w K mg base 2 4 mf:=okC 4 t fun _ _ _ _ _ _ cx nd =>
 (ah (bR nd (bt t (qv t hB) cx (aa (sv 1) (aa (sv 0) af))))
 (ah (bR nd (fD af))
 (ah (b7 cx.po cx.calm (cD rfl (t.b 1) (aa (sv 0) af)) (sgN nd) (ak (lJ cx.hK rfl (Or.inl rfl) (bj (bC cx (sv 2) (sv 4) (fun _ _=>rfl)) (aH (sv 4) (ai))) (sv 4))))
 (ah (bR nd (fD af))
 (ah (b7 cx.po cx.calm (lM rfl (t.b 1) (aa (ai) (aa (sv 0) af))) (sgN nd) (ak (qh cx (lr (aa (bC cx (sv 3) (sv 4) (fun _ _=>rfl)) (aa (bC cx (sv 3) (bj (eQ (bC cx (sv 2) (sv 4) (fun _ _=>rfl)) (ai)) (sv 4)) (fun _ _=>rfl)) af))))))
 (ah (b7 cx.po cx.calm (cD rfl (t.b 1) (aa (sv 0) af)) (sgN nd) (ak (b7 cx.po cx.calm (cD rfl (t.b 1) (aa (sv 4) af)) (sgN nd) (ah (bR nd ((D7 (lQ cx.hK cx.hu (bj (sv 1) (ai)) (ai)) (mW ((qf (lQ cx.hK cx.hu (bj (aH (eQ (bC cx (sv 2) (sv 4) (fun _ _=>rfl)) (ai)) (sv 6)) (sv 0)) (ai)) (mW (lQ cx.hK cx.hu (bj (eQ (bC cx (sv 2) (sv 4) (fun _ _=>rfl)) (ai)) (ai)) (ai)))))))))
 (ak (ba (SW.st (gF (dS cx.hK (sv 7)) (gF (ku cx.hK cx.hu2 (lr (aa (sv 6) (aa (sv 4) af))) (sv 5)) (fO (ku cx.hK cx.hu2 (lr (aa (sv 4) (aa (sv 6) af))) (sv 5)))))) (ak (qh cx (lr (aa (sv 6) (aa (sv 4) af))))) aS))))))
 (ak (cZ rfl (Or.inl rfl)))))))))
theorem BK:OkF pt hA P w K mg base 1 5 wH:=okC 5 t fun _ _ _ _ _ _ cx nd =>
 (ak (ba (SW.st (iq (fC (sv 0) (sv 1)) (ff (jX (sv 0) (di rfl (t.c 2)))))) (ak (b0 1 t cx hB bX (aa (bY) af))) aS))
theorem BT:OkF pt hA P w K mg base 1 6 wP:=okC 6 t fun _ _ _ _ _ _ cx nd =>
 (ah (bR nd (fD af))
 (ah (b7 cx.po cx.calm (iC cx.hK (sv 1)) (sgN nd) (ah (bR nd (lr (aa (rD cx.hK cx.calm rfl (t.b 3) (sv 3)) (aa (rE cx.hK cx.calm rfl (t.b 2) (sv 3)) af))))
 (ah (ba (SW.st (iq (fC (bC cx (sv 4) (ai) (fun _ _=>rfl)) (ai)) (ff (on (bC cx (sv 4) (ai) (fun _ _=>rfl)) (sv 0))))) (ak (b0 1 t cx hB bX (aa (bY) af))) aS)
 (ah (ba (cT cx.hK cx.hu (bC cx (sv 4) (ai) (fun _ _=>rfl)) (bC cx (sv 4) (ai) (fun _ _=>rfl))) (ak (b0 1 t cx hB bX (aa (bY) af))) aS)
 (ah (ba (om cx.hK cx.hu2 (sv 4) (sv 2)) (ak (b0 1 t cx hB bX (aa (bY) af))) aS)
 (ak (qh cx (sv 4))))))))
 (ak (aI (lO cx.hK rfl (t.b 4) (sv 2))))))
theorem BG:OkF pt hA P w K mg base 1 7 ss:=okC 7 t fun _ _ _ _ _ _ cx nd =>
 (ah (cW ["pair"] cx nd (bu cx.hK (sv 0)) bO (fun _ _ _ _ nd=>⟨(sgN nd),(cm (cT cx.comp.hK cx.comp.hu (bC cx.comp (sv 1) (ai) (fun _ _=>rfl)) (sv 0))),(bC cx.comp (sv 1) (ai) (fun _ _=>rfl))⟩))
 (ah (cW ["pair"] cx nd (bu cx.hK (sv 0)) bO (fun _ _ _ _ nd=>⟨(sgN nd),(cm (cT cx.comp.hK cx.comp.hu (bC cx.comp (sv 1) (ai) (fun _ _=>rfl)) (sv 0))),(bC cx.comp (sv 1) (ai) (fun _ _=>rfl))⟩))
 (ak (aI (lO cx.hK rfl (t.b 4) (aH (sv 2) (sv 3)))))))
theorem BH:OkF pt hA P w K mg base 1 8 sw:=okC 8 t fun _ _ _ _ _ _ cx nd =>
 (ak (aI (kg cx.hK rfl (t.b 6) kn (bC cx (aN 2 t cx (sv 0)) (sv 1) (fun _ _=>rfl)))))
omit t hB in
theorem c_{X:Cx}(t:Tx pt X.K X.mg)(hB:X.K.In X.base):eY X (T X.K) 1 "beside" ["self", "at"] [] bE:=fun c _ hc e=>match c,hc,e with
 | 8,_,e=>dm 0 t (BH t hB) e
 | 0,_,e | 1,_,e | 2,_,e | 3,_,e | 4,_,e | 5,_,e | 6,_,e | 7,_,e | 9,_,e=>nomatch e
 | _+10,h,_=>dno (n:=10) h
theorem By:OkF pt hA P w K mg base 2 9 sk:=okC 9 t fun _ _ _ _ _ _ cx nd =>
 (ah (cW ["at"] cx nd (bJ rfl (t.b 1) (aa (aN 0 t cx (sv 0)) af)) bO (fun _ _ _ _ nd=>⟨(sgN nd),a9,(aN 0 t cx.comp (sv 0))⟩))
 (ah (oq rfl (Or.inl rfl) (sv 1) (ai))
 (ah (b7 cx.po cx.calm (cD rfl (t.b 1) (aa (aN 0 t cx (sv 0)) af)) (sgN nd) (ak (b7 cx.po cx.calm (cD rfl (t.b 1) (aa (aN 0 t cx (sv 0)) af)) (sgN nd) (ak (ba (cT cx.hK cx.hu (bC cx (sv 2) (sv 4) (fun _ _=>rfl)) (sv 3)) (ak (b7 cx.po cx.calm (iC cx.hK (cI t (c_ t hB) cx (sv 0) (aa (sv 4) af))) (sgN nd) (ak (oq rfl (Or.inl rfl) (sv 5) (mY cx.calm rfl (t.b 3) (aa (bC cx (sv 2) (sv 5) (fun _ _=>rfl)) (aa (aH (sv 3) (ai)) af))))))) aS)))))
 (ak (cZ rfl (Or.inl rfl))))))
theorem ni:OkI pt hA P w K mg base 3 10 mq:=okI 10 t fun _ _ _ _ _ _ cx nd =>
 (ah (fQ (bt t (BK t hB) cx (aa (sv 1) (aa (di rfl (t.c 3)) af))))
 (ah (sFld 0 t cx (sv 1))
 (ah (sFld 1 t cx (gI cx.hK rfl (t.b 5) g_ (bt t (BT t hB) cx (aa (sv 1) (aa (sv 2) af)))))
 (ah (sFld 2 t cx (gI cx.hK rfl (t.b 5) g_ (dq ["at"] cx (bJ rfl (t.b 1) (aa (sv 1) af)) bO (fun _ _ _ _ nd=>⟨(sgN nd),a9,(gI cx.comp.hK rfl (t.b 5) g_ (bt t (BG t hB) cx.comp (aa (aN 1 t cx.comp (sv 0)) (aa (sv 1) af))))⟩))))
 (ak (ba (cT cx.hK cx.hu (rE cx.hK cx.calm rfl (t.b 2) (bt t (By t hB) cx (aa (sv 0) (aa (ai) af)))) (sv 1)) (ak (b0 1 t cx hB bX (aa (bY) af))) aS))))))
theorem As:OkI pt hA P w K mg base 3 11 qP:=okI 11 t fun _ _ _ _ _ _ cx nd =>
 (ak (oy 0 t (nq t hB) cx (aa (sv 1) (aa (sv 2) (aa (gj) af)))))
theorem EF:OkI pt hA P w K mg base 5 12 Cr:=okI 12 t fun _ _ _ _ _ _ cx nd =>
 (ee (i:=1) (ah (sFld 4 t cx (sv 1))
 (ak (oy 1 t (As t hB) cx (aa (aN 0 t cx (sv 1)) (aa (aN 0 t cx (sv 1)) af))))))
theorem EB:OkF pt hA P w K mg base 1 13 Cn:=okC 13 t fun _ _ _ _ _ _ cx nd =>
 (ah (ba (jX (bZ cx.hK rfl (t.b 0) (sv 0)) (di rfl (t.c 4))) (ak (b0 2 t cx hB bX (aa (bY) af))) aS)
 (ak (b7 cx.po cx.calm (yt cx.hK rfl (t.b 7) (sv 0)) (iD cx.hK cx.calm (bQ nd rfl (Or.inl rfl) (bQ nd rfl (Or.inl rfl) fR))) (ak (ba (SW.st (iq (fC (sv 2) (ai)) (ff (on (sv 2) (sv 1))))) (ak (b0 2 t cx hB bX (aa (bY) af))) aS)))))
theorem EC:OkI pt hA P w K mg base 5 14 Co:=okI 14 t fun _ _ _ _ _ _ cx nd =>
 (ah (fQ (bt t (EB t hB) cx (aa (sv 1) af)))
 (ah (sFld 11 t cx (gI cx.hK rfl (t.b 5) g_ (sv 1)))
 (ak (oy 1 t (As t hB) cx (aa (aH (bZ cx.hK rfl (t.b 0) (sv 1)) (ai)) (aa (aH (bZ cx.hK rfl (t.b 0) (sv 1)) (ai)) af))))))
theorem vG:OkF pt hA P w K mg base 1 15 sx:=okC 15 t fun _ _ _ _ _ _ cx nd =>
 (ak (ba (SW.st (iq (fC (sv 0) (ai)) (ff (jX (sv 0) (di rfl (t.c 5)))))) (ak (b0 2 t cx hB bX (aa (bY) af))) aS))
theorem BS:OkF pt hA P w K mg base 1 16 wO:=okC 16 t fun _ _ _ _ _ _ cx nd =>
 (ah (ba (gG cx.hK cx.hu (bZ cx.hK rfl (t.b 0) (sv 1)) (aN 0 t cx (sv 0))) (ak (b0 2 t cx hB bX (aa (bY) af))) aS)
 (ak (b7 cx.po cx.calm (iC cx.hK (sv 1)) (sgN nd) (ak (ba (SW.st (gF (rq (sv 3) (mX)) (fO (SW.st (iq (fC (sv 3) (ai)) (ff (on (sv 3) (sv 2)))))))) (ak (b0 2 t cx hB bX (aa (bY) af))) aS)))))
theorem At:OkI pt hA P w K mg base 3 17 ud:=okI 17 t fun _ _ _ _ _ _ cx nd =>
 (ah (fQ (bt t (vG t hB) cx (aa (sv 3) af)))
 (ah (fQ (bt t (vG t hB) cx (aa (sv 4) af)))
 (ah (sFld 3 t cx (cq (sv 3) (sv 4)))
 (ah (fQ (bt t (BS t hB) cx (aa (sv 1) (aa (sv 2) (aa (aN 3 t cx (sv 0)) af)))))
 (ee (i:=1) (ah (sFld 4 t cx (sv 1))
 (ah (sFld 5 t cx (gI cx.hK rfl (t.b 5) g_ (sv 2)))
 (ah (sFld 6 t cx (sv 3))
 (ak (oy 0 t (nq t hB) cx (aa (aN 0 t cx (sv 1)) (aa (aH (aN 3 t cx (sv 0)) (ai)) (aa (gj) af)))))))))))))
theorem vH:OkI pt hA P w K mg base 5 18 sy:=okI 18 t fun _ _ _ _ _ _ cx nd =>
 (ah (ba (SW.st (iq (fC (sv 2) (ai)) (ff (on (sv 2) (aN 0 t cx (sv 1)))))) (ak (b0 2 t cx hB bX (aa (bY) af))) aS)
 (ah (cW ["at"] cx nd (bJ rfl (t.b 1) (aa (aN 0 t cx (sv 1)) af)) bO (fun _ _ _ _ nd=>⟨(sgN nd),a9,(ox (cT cx.comp.hK cx.comp.hu (sv 1) (sv 0)) (ai) (mX))⟩))
 (ee (i:=3) (ee (i:=1) (ak (oy 4 t (At t hB) cx (aa (sv 1) (aa (sv 3) (aa (aN 0 t cx (sv 1)) (aa (ai) af))))))))))
theorem BL:OkF pt hA P w K mg base 1 19 wI:=okC 19 t fun _ _ _ _ _ _ cx nd =>
 (ah (ba (gG cx.hK cx.hu (bZ cx.hK rfl (t.b 0) (sv 1)) (aN 0 t cx (sv 0))) (ak (b0 2 t cx hB bX (aa (bY) af))) aS)
 (ah (ba (gG cx.hK cx.hu (lP cx.hK cx.calm rfl (t.b 0) rfl (t.b 8) (sv 1)) (bZ cx.hK rfl (t.b 0) (sv 1))) (ak (b0 2 t cx hB bX (aa (bY) af))) aS)
 (ak (b7 cx.po cx.calm (iC cx.hK (sv 1)) (sgN nd) (ak (ba (SW.st (iq (fC (sv 2) (ai)) (ff (jX (sv 2) (di rfl (t.c 6)))))) (ak (b0 2 t cx hB bX (aa (bY) af))) aS))))))
theorem BQ:OkI pt hA P w K mg base 5 20 wM:=okI 20 t fun _ _ _ _ _ _ cx nd =>
 (ee (i:=1) (ah (fQ (bt t (BL t hB) cx (aa (sv 1) (aa (sv 2) af))))
 (ah (cW ["name"] cx nd (bu cx.hK (sv 2)) bO (fun _ _ _ _ nd=>⟨(sgN nd),a9,(cq (dF (di rfl (t.c 6)) (sv 1)) (aN 0 t cx.comp (sv 0)))⟩))
 (ee (i:=3) (ak (oy 4 t (At t hB) cx (aa (sv 1) (aa (sv 3) (aa (aN 0 t cx (sv 1)) (aa (di rfl (t.c 7)) af))))))))))
theorem BR:OkI pt hA P w K mg base 7 21 wN:=okI 21 t fun _ _ _ _ _ _ cx nd =>
 (ee (i:=1) (ah (sFld 9 t cx (kD 5 t (vH t hB) cx (aa (sv 1) (aa (sv 2) af))))
 (ah (sFld 4 t cx (sv 1))
 (ah (sFld 10 t cx (sv 2))
 (ak (oy 0 t (nq t hB) cx (aa (aN 0 t cx (sv 1)) (aa (cq (aH (aN 0 t cx (sv 1)) (ai)) (aH (aN 0 t cx (sv 1)) (ai))) (aa (gj) af)))))))))
theorem Bz:OkF pt hA P w K mg base 9 22 sr:=okC 22 t fun _ _ _ _ _ _ cx nd =>
 (ah (ba (cT cx.hK cx.hu (sv 0) (ai)) (ak (aI (kD 9 t (BP t hB) cx (aa (aH (sv 1) (ai)) (aa (aH (aH (sv 1) (ai)) (yB cx.hK (fD (aa (bj (sv 2) (ai)) (aa (bj (sv 2) (uP (ai) (ai))) af))) (bj (eQ (sv 2) (ai)) (ai)) (fun _ _=>rfl))) af))))) aS)
 (ah (ba (cT cx.hK cx.hu (sv 0) (ai)) (ak (aI (kD 2 t (EF t hB) cx (aa (kD 8 t (ni t hB) cx (aa (sv 1) (aa (bt t (nh t hB) cx (aa (sv 1) (aa (sv 3) af))) af))) af)))) aS)
 (ah (ba (cT cx.hK cx.hu (sv 0) (ai)) (ak (aI (kD 3 t (EC t hB) cx (aa (dq ["_law_k", "_law_number"] cx (sO cx.hK rfl (t.b 7) (bt t (qv t hB) cx (aa (sv 3) (aa (dF (sv 1) (ai)) af)))) (iU (cC bO (cC bO gE))) (fun _ _ _ _ nd=>⟨(iD cx.comp.hK cx.comp.calm (bQ nd rfl (Or.inl rfl) (bQ nd rfl (Or.inl rfl) fR))),a9,(bj (eQ (sv 1) (ai)) (aH (sv 0) (ai)))⟩)) af)))) aS)
 (ah (ba (cT cx.hK cx.hu (sv 0) (ai)) (ak (aI (kD 5 t (vH t hB) cx (aa (kD 8 t (ni t hB) cx (aa (sv 1) (aa (bt t (nh t hB) cx (aa (sv 1) (aa (sv 3) af))) af))) (aa (bj (sv 2) (sv 1)) af))))) aS)
 (ah (ba (cT cx.hK cx.hu (sv 0) (ai)) (ak (aI (kD 6 t (BQ t hB) cx (aa (kD 8 t (ni t hB) cx (aa (sv 1) (aa (bt t (nh t hB) cx (aa (sv 1) (aa (sv 3) af))) af))) (aa (dq ["_law_k"] cx (bJ rfl (t.b 1) (aa (sv 1) af)) bO (fun _ _ _ _ nd=>⟨(sgN nd),a9,(bj (aH (sv 0) (cq (ai) (sv 1))) (ai))⟩)) af))))) aS)
 (ak (aI (kD 7 t (BR t hB) cx (aa (kD 8 t (ni t hB) cx (aa (sv 1) (aa (bt t (nh t hB) cx (aa (sv 1) (aa (sv 3) af))) af))) (aa (bj (sv 2) (sv 1)) af))))))))))
theorem BE:OkF pt hA P w K mg base 1 23 pq:=okC 23 t fun _ _ _ _ _ _ cx nd =>
 (ah (bR nd (fD af))
 (ah (b7 cx.po cx.calm (cD rfl (t.b 1) (aa (sv 0) af)) (sgN nd) (ak (lJ cx.hK rfl (Or.inl rfl) (bj (eQ (sv 1) (aH (sv 3) (ai))) (aH (sv 3) (ai))) (sv 3))))
 (ak (cZ rfl (Or.inl rfl)))))
theorem BA:OkF pt hA P w K mg base 2 24 wA:=okC 24 t fun _ _ _ _ _ _ cx nd =>
 (ah (bR nd (fD af))
 (ah (bR nd (fD af))
 (ee (i:=1) (ah (b7 cx.po cx.calm (uM cx.hK rfl (t.b 7) (sv 1)) (iD cx.hK cx.calm (bQ nd rfl (Or.inl rfl) (bQ nd rfl (Or.inl rfl) fR))) (ah (ba (cT cx.hK cx.hu (bj (sv 4) (aN 0 t cx (sv 0))) (ai)) (ak (bR nd (bt t (BE t hB) cx (aa (aN 0 t cx (sv 0)) (aa (sv 5) af))))) aS)
 (ah (bR nd (fD (aa (bC cx (sv 3) (bj (sv 4) (aN 0 t cx (sv 0))) (fun _ _=>rfl)) af)))
 (ah (ba (pX (dS cx.hK (aN 8 t cx (sv 0)))) (ah (bR nd (bj (cq (bj (eQ (sv 5) (ai)) (ai)) (ai)) (ai)))
 (ak (bR nd (aH (dq ["_law_at"] cx (bJ rfl (t.b 1) (aa (aN 0 t cx (sv 0)) af)) bO (fun _ _ _ _ nd=>⟨(sgN nd),(cm (SW.st (gF (cT cx.comp.hK cx.comp.hu (bj (AT (sv 0) (sv 2)) (ai)) (ai)) (fO (gG cx.comp.hK cx.comp.hu (sv 2) (bC cx.comp (sv 1) (ai) (fun _ _=>rfl))))))),(sv 2)⟩)) (sv 6))))) aS)
 (ee (i:=6) (ak (qh cx (sv 6))))))))
 (ak (cZ rfl (Or.inl rfl)))))))
theorem BD:OkF pt hA P w K mg base 1 25 wD:=okC 25 t fun _ _ _ _ _ _ cx nd =>
 (ak (aI (qg cx.hK cx.calm rfl (t.b 10) (dq ["at"] cx (bJ rfl (t.b 1) (aa (sv 0) af)) bO (fun _ _ _ _ nd=>⟨(sgN nd),a9,(A0 cx.comp.hK cx.comp.calm rfl (t.b 9) (dq ["named"] cx.comp (bu cx.comp.hK (sv 0)) bO (fun _ _ _ _ nd=>⟨(sgN nd),a9,(D9 cx.comp.comp.hK cx.comp.comp.hu2 (sv 0) (sv 1))⟩)))⟩)))))
theorem vE:OkF pt hA P w K mg base 2 26 md:=okC 26 t fun _ _ _ _ _ _ cx nd =>
 (ak (aI (qg cx.hK cx.calm rfl (t.b 10) (dq ["at"] cx (qc rfl (t.b 1) (aa (aH (dF (bZ cx.hK rfl (t.b 0) (sv 1)) (sv 2)) (ai)) af)) bO (fun _ _ _ _ nd=>⟨(sgN nd),a9,(bt t (BD t hB) cx.comp (aa (sv 0) (aa (iZ cx.comp.hK (sv 1) (hV (sv 3)) (hV (aH (sv 3) (sv 2)))) af)))⟩)))))
theorem fW:OkF pt hA P w K mg base 1 27 gq:=okC 27 t fun _ _ _ _ _ _ cx nd =>
 (ah (ba (gG cx.hK cx.hu (bZ cx.hK rfl (t.b 0) (sv 1)) (aN 0 t cx (sv 0))) (ak (b0 3 t cx hB bX (aa (bY) af))) aS)
 (ak (aI (dq ["number"] cx (bu cx.hK (sv 1)) bO (fun _ _ _ _ nd=>⟨(sgN nd),a9,(bj (sv 1) (aN 7 t cx.comp (sv 0)))⟩)))))
omit t hB in
theorem cf{X:Cx}(t:Tx pt X.K X.mg)(hB:X.K.In X.base):eY X (T X.K) 1 "read" ["self", "registers"] [] aD:=fun c _ hc e=>match c,hc,e with
 | 0,_,e=>dm 1 t (fW t hB) e
 | 1,_,e=>dm 2 t (fW t hB) e
 | 2,_,e=>dm 3 t (fW t hB) e
 | 3,_,e=>dm 4 t (fW t hB) e
 | 4,_,e=>dm 5 t (fW t hB) e
 | 5,_,e=>dm 6 t (fW t hB) e
 | 6,_,e=>dm 7 t (fW t hB) e
 | 7,_,e=>dm 8 t (fW t hB) e
 | 9,_,e=>dm 9 t (fW t hB) e
 | 8,_,e=>nomatch e
 | _+10,h,_=>dno (n:=10) h
theorem BJ:OkF pt hA P w K mg base 1 28 wG:=okC 28 t fun _ _ _ _ _ _ cx nd =>
 (ah (ba (SW.st (gF (dS cx.hK (aN 8 t cx (sv 0))) (fO (jX (bZ cx.hK rfl (t.b 0) (sv 1)) (ai))))) (ak (b0 4 t cx hB bX (aa (bY) af))) aS)
 (ah (b7 cx.po cx.calm (iC cx.hK (sv 1)) (sgN nd) (ak (ba (SW.st (iq (fC (sv 2) (ai)) (ff (on (sv 2) (aN 0 t cx (sv 0)))))) (ak (b0 4 t cx hB bX (aa (bY) af))) aS)))
 (ak (ba (gG cx.hK cx.hu (lP cx.hK cx.calm rfl (t.b 0) rfl (t.b 8) (sv 1)) (bZ cx.hK rfl (t.b 0) (sv 1))) (ak (b0 4 t cx hB bX (aa (bY) af))) aS))))
theorem vF:OkF pt hA P w K mg base 1 29 wz:=okC 29 t fun _ _ _ _ _ _ cx nd =>
 (ak (aI (bC cx (sv 1) (sv 2) (fun _ _=>rfl))))
theorem EK:OkF pt hA P w K mg base 1 30 Fq:=okC 30 t fun _ _ _ _ _ _ cx nd =>
 (ak (aI (fD af)))
theorem EN:OkF pt hA P w K mg base 2 31 Cy:=okC 31 t fun _ _ _ _ _ _ cx nd =>
 (ak (aI (dq ["other"] cx (bu cx.hK (cI t (c_ t hB) cx (aN 4 t cx (sv 0)) (aa (sv 1) af))) bO (fun _ _ _ _ nd=>⟨(sgN nd),(cm (fC (sv 1) (sv 0))),(sv 1)⟩))))
theorem EL:OkF pt hA P w K mg base 1 32 Cv:=okC 32 t fun _ _ _ _ _ _ cx nd =>
 (ak (aI (dq ["kid", "parent"] cx (uL cx.hK rfl (t.b 7) (aN 11 t cx (sv 0))) (iU (cC bO (cC bO gE))) (fun _ _ _ _ nd=>⟨(iD cx.comp.hK cx.comp.calm (bQ nd rfl (Or.inl rfl) (bQ nd rfl (Or.inl rfl) fR))),(cm (cT cx.comp.hK cx.comp.hu (sv 2) (sv 0))),(sv 1)⟩))))
omit t hB in
theorem dE{X:Cx}(t:Tx pt X.K X.mg)(hB:X.K.In X.base):eY X (T X.K) 2 "hangs_on" ["self", "at"] [] bA:=fun c _ hc e=>match c,hc,e with
 | 1,_,e=>dm 10 t (EK t hB) e
 | 2,_,e=>dm 11 t (EN t hB) e
 | 3,_,e=>dm 12 t (EL t hB) e
 | 0,_,e | 4,_,e | 5,_,e | 6,_,e | 7,_,e | 8,_,e | 9,_,e=>nomatch e
 | _+10,h,_=>dno (n:=10) h
theorem BU:OkF pt hA P w K mg base 3 33 wQ:=okC 33 t fun _ _ _ _ _ _ cx nd =>
 (ah (cW ["other"] cx nd (bu cx.hK (cI t (dE t hB) cx (sv 0) (aa (sv 2) af))) bO (fun _ _ _ _ nd=>⟨(sgN nd),a9,(bC cx.comp (sv 0) (sv 1) (fun _ _=>rfl))⟩))
 (ah (bR nd (ai))
 (ah (ky cx.po (om cx.hK cx.hu2 (sv 4) (sv 3)) (ak (bR nd (aH (sv 4) (ai)))))
 (ak (cZ rfl (Or.inl rfl))))))
theorem Ew:OkF pt hA P w K mg base 3 34 Cj:=okC 34 t fun _ _ _ _ _ _ cx nd =>
 (ak (aI (mY cx.calm rfl (t.b 3) (aa (aN 0 t cx (sv 0)) (aa (aH (ai) (kB cx.hK cx.calm rfl (t.b 11) (dq ["kid"] cx (bu cx.hK (cI t (dE t hB) cx (sv 0) (aa (sv 2) af))) bO (fun _ _ _ _ nd=>⟨(sgN nd),a9,(bC cx.comp (sv 0) (sv 1) (fun _ _=>rfl))⟩)))) af)))))
theorem vI:OkF pt hA P w K mg base 1 35 ue:=okC 35 t fun _ _ _ _ _ _ cx nd =>
 (ak (aI ((qf (Am cx.hK cx.hu (sv 1) (aN 3 t cx (sv 0))) (mW (Am cx.hK cx.hu (bj (aH (sv 1) (ai)) (aN 6 t cx (sv 0))) (ai)))))))
omit t hB in
theorem fZ{X:Cx}(t:Tx pt X.K X.mg)(hB:X.K.In X.base):eY X (T X.K) 1 "has_offer" ["self", "cell"] [] cV:=fun c _ hc e=>match c,hc,e with
 | 4,_,e=>dm 13 t (vI t hB) e
 | 5,_,e=>dm 14 t (vI t hB) e
 | 6,_,e=>dm 15 t (vI t hB) e
 | 0,_,e | 1,_,e | 2,_,e | 3,_,e | 7,_,e | 8,_,e | 9,_,e=>nomatch e
 | _+10,h,_=>dno (n:=10) h
theorem nv:OkF pt hA P w K mg base 2 36 mt:=okC 36 t fun _ _ _ _ _ _ cx nd =>
 (ah (cW ["other"] cx nd (bu cx.hK (cI t (c_ t hB) cx (aN 4 t cx (sv 0)) (aa (sv 2) af))) bO (fun _ _ _ _ nd=>⟨(sgN nd),a9,(bC cx.comp (sv 0) (sv 1) (fun _ _=>rfl))⟩))
 (ah (cW ["cell"] cx nd (bu cx.hK (sv 3)) bO (fun _ _ _ _ nd=>⟨(sgN nd),(cm (dS cx.comp.hK (cI t (fZ t hB) cx.comp (sv 0) (aa (sv 1) af)))),(aH (sv 1) (ai))⟩))
 (ah (ba (rq (bC cx (aN 5 t cx (sv 0)) (sv 2) (fun _ _=>rfl)) (mX)) (ak (qh cx (bC cx (aN 5 t cx (sv 0)) (sv 2) (fun _ _=>rfl)))) aS)
 (ak (aI (rD cx.hK cx.calm rfl (t.b 3) (aH (sv 4) (fD (aa (aN 3 t cx (sv 0)) af)))))))))
theorem ED:OkF pt hA P w K mg base 1 37 Cp:=okC 37 t fun _ _ _ _ _ _ cx nd =>
 (ak (aI (dq ["cell"] cx (bu cx.hK (sv 1)) bO (fun _ _ _ _ nd=>⟨(sgN nd),a9,(lr (aa (eQ (sv 1) (aH (aN 0 t cx.comp (sv 0)) (ai))) (aa (bj (sv 1) (aH (aN 0 t cx.comp (sv 0)) (ai))) af)))⟩))))
omit t hB in
theorem gQ{X:Cx}(t:Tx pt X.K X.mg)(hB:X.K.In X.base):eY X (T X.K) 1 "parts" ["self", "cells"] [] d5:=fun c _ hc e=>match c,hc,e with
 | 7,_,e=>dm 16 t (ED t hB) e
 | 0,_,e | 1,_,e | 2,_,e | 3,_,e | 4,_,e | 5,_,e | 6,_,e | 8,_,e | 9,_,e=>nomatch e
 | _+10,h,_=>dno (n:=10) h
theorem Ev:OkF pt hA P w K mg base 2 38 Ci:=okC 38 t fun _ _ _ _ _ _ cx nd =>
 (ak (aI (dq ["part"] cx (bu cx.hK (cI t (gQ t hB) cx (sv 0) (aa (sv 1) af))) bO (fun _ _ _ _ nd=>⟨(sgN nd),a9,(bC cx.comp (sv 0) (ai) (fun _ _=>rfl))⟩))))
omit t hB in
theorem fq{X:Cx}(t:Tx pt X.K X.mg)(hB:X.K.In X.base):eY X (T X.K) 2 "fars" ["self", "cells"] [] db:=fun c _ hc e=>match c,hc,e with
 | 7,_,e=>dm 17 t (Ev t hB) e
 | 0,_,e | 1,_,e | 2,_,e | 3,_,e | 4,_,e | 5,_,e | 6,_,e | 8,_,e | 9,_,e=>nomatch e
 | _+10,h,_=>dno (n:=10) h
omit t hB in
theorem ny{X:Cx}(t:Tx pt X.K X.mg)(hB:X.K.In X.base):eY X (T X.K) 2 "due" ["self", "cells", "at"] [] jQ:=fun c _ hc e=>match c,hc,e with
 | 5,_,e=>dm 18 t (nv t hB) e
 | 0,_,e | 1,_,e | 2,_,e | 3,_,e | 4,_,e | 6,_,e | 7,_,e | 8,_,e | 9,_,e=>nomatch e
 | _+10,h,_=>dno (n:=10) h
theorem EG:OkF pt hA P w K mg base 2 39 Cs:=okC 39 t fun _ _ _ _ _ _ cx nd =>
 (ak (aI (dq ["part"] cx (bu cx.hK (cI t (gQ t hB) cx (sv 0) (aa (sv 1) af))) bO (fun _ _ _ _ nd=>⟨(sgN nd),a9,(bC cx.comp (sv 0) (ai) (fun _ _=>rfl))⟩))))
omit t hB in
theorem eA{X:Cx}(t:Tx pt X.K X.mg)(hB:X.K.In X.base):eY X (T X.K) 2 "counts" ["self", "cells"] [] cw:=fun c _ hc e=>match c,hc,e with
 | 7,_,e=>dm 19 t (EG t hB) e
 | 0,_,e | 1,_,e | 2,_,e | 3,_,e | 4,_,e | 5,_,e | 6,_,e | 8,_,e | 9,_,e=>nomatch e
 | _+10,h,_=>dno (n:=10) h
theorem EE:OkF pt hA P w K mg base 2 40 Cq:=okC 40 t fun _ _ _ _ _ _ cx nd =>
 (ah (ba (cT cx.hK cx.hu (sv 2) (aN 10 t cx (sv 0))) (ak (aI (mX))) aS)
 (ah (cW ["other"] cx nd (bu cx.hK (cI t (c_ t hB) cx (aN 4 t cx (sv 0)) (aa (sv 2) af))) bO (fun _ _ _ _ nd=>⟨(sgN nd),(cm (cT cx.comp.hK cx.comp.hu (bC cx.comp (sv 0) (sv 2) (fun _ _=>rfl)) (dF (bC cx.comp (sv 0) (sv 1) (fun _ _=>rfl)) (ai)))),(sv 2)⟩))
 (ak (aI (yx cx.hK cx.calm rfl (t.b 3) (sv 3))))))
omit t hB in
theorem kN{X:Cx}(t:Tx pt X.K X.mg)(hB:X.K.In X.base):eY X (T X.K) 2 "elder" ["self", "fars", "at"] [] g7:=fun c _ hc e=>match c,hc,e with
 | 7,_,e=>dm 20 t (EE t hB) e
 | 0,_,e | 1,_,e | 2,_,e | 3,_,e | 4,_,e | 5,_,e | 6,_,e | 8,_,e | 9,_,e=>nomatch e
 | _+10,h,_=>dno (n:=10) h
theorem EH:OkF pt hA P w K mg base 3 41 Ct:=okC 41 t fun _ _ _ _ _ _ cx nd =>
 (ah (bR nd (cI t (fq t hB) cx (sv 0) (aa (sv 1) af)))
 (ak (aI (dq ["at"] cx (bJ rfl (t.b 1) (aa (aN 0 t cx (sv 0)) af)) bO (fun _ _ _ _ nd=>⟨(sgN nd),a9,(cI t (kN t hB) cx.comp (sv 0) (aa (sv 1) (aa (sv 2) af)))⟩)))))
omit t hB in
theorem kc{X:Cx}(t:Tx pt X.K X.mg)(hB:X.K.In X.base):eY X (T X.K) 3 "elders" ["self", "cells"] [] gc:=fun c _ hc e=>match c,hc,e with
 | 7,_,e=>dm 21 t (EH t hB) e
 | 0,_,e | 1,_,e | 2,_,e | 3,_,e | 4,_,e | 5,_,e | 6,_,e | 8,_,e | 9,_,e=>nomatch e
 | _+10,h,_=>dno (n:=10) h
theorem EM:OkF pt hA P w K mg base 4 42 Cw:=okC 42 t fun _ _ _ _ _ _ cx nd =>
 (ah (cW ["count", "elder"] cx nd (mV cx.hK rfl (t.b 12) (aa (cI t (eA t hB) cx (sv 0) (aa (sv 1) af)) (aa (cI t (kc t hB) cx (sv 0) (aa (sv 1) af)) af))) (iU (cC bO (cC bO gE))) (fun _ _ _ _ nd=>⟨(iD cx.comp.hK cx.comp.calm (bQ nd rfl (Or.inl rfl) (bQ nd rfl (Or.inl rfl) fR))),(cm (cT cx.comp.hK cx.comp.hu (sv 2) (sv 0))),(sv 1)⟩))
 (ak (aI (mY cx.calm rfl (t.b 3) (aa (aN 0 t cx (sv 0)) (aa (aH (ai) (kB cx.hK cx.calm rfl (t.b 11) (sv 3))) af))))))
omit t hB in
theorem eT{X:Cx}(t:Tx pt X.K X.mg)(hB:X.K.In X.base):eY X (T X.K) 4 "due_count" ["self", "cells", "at"] [] cB:=fun c _ hc e=>match c,hc,e with
 | 7,_,e=>dm 22 t (EM t hB) e
 | 0,_,e | 1,_,e | 2,_,e | 3,_,e | 4,_,e | 5,_,e | 6,_,e | 8,_,e | 9,_,e=>nomatch e
 | _+10,h,_=>dno (n:=10) h
theorem BM:OkF pt hA P w K mg base 5 43 wJ:=okC 43 t fun _ _ _ _ _ _ cx nd =>
 (ah (bR nd (cI t (fq t hB) cx (sv 0) (aa (sv 1) af)))
 (ah (bR nd (cI t (ny t hB) cx (aN 9 t cx (sv 0)) (aa (sv 3) (aa (sv 2) af))))
 (ah (bR nd (bC cx (cI t (eA t hB) cx (sv 0) (aa (sv 1) af)) (sv 2) (fun _ _=>rfl)))
 (ah (ba (cT cx.hK cx.hu (sv 4) (bC cx (sv 3) (sv 2) (fun _ _=>rfl))) (ak (bR nd (cI t (eT t hB) cx (sv 0) (aa (sv 1) (aa (sv 2) af))))) aS)
 (ak (aI (aH (cq (sv 4) (aH (aN 0 t cx (sv 0)) (ai))) (sv 5))))))))
theorem BO:OkF pt hA P w K mg base 1 44 wK:=okC 44 t fun _ _ _ _ _ _ cx nd =>
 (ah (ba (gG cx.hK cx.hu (sv 2) (ai)) (ak (aI (bC cx (sv 1) (dF (sv 2) (ai)) (fun _ _=>rfl)))) aS)
 (ah (ba (cT cx.hK cx.hu (bC cx (sv 1) (ai) (fun _ _=>rfl)) (bC cx (sv 1) (dF (aN 0 t cx (sv 0)) (ai)) (fun _ _=>rfl))) (ak (aI (bj (aH (bC cx (sv 1) (ai) (fun _ _=>rfl)) (ai)) (aN 7 t cx (sv 0))))) aS)
 (ak (aI (bC cx (sv 1) (ai) (fun _ _=>rfl))))))
omit t hB in
theorem bK{X:Cx}(t:Tx pt X.K X.mg)(hB:X.K.In X.base):eY X (T X.K) 5 "due" ["self", "cells", "at"] [] ay:=fun c _ hc e=>match c,hc,e with
 | 0,_,e=>dm 23 t (vF t hB) e
 | 1,_,e=>dm 24 t (vF t hB) e
 | 2,_,e=>dm 25 t (BU t hB) e
 | 3,_,e=>dm 26 t (Ew t hB) e
 | 4,_,e=>dm 27 t (nv t hB) e
 | 5,_,e=>dm 18 t (nv t hB) e
 | 6,_,e=>dm 28 t (nv t hB) e
 | 7,_,e=>dm 29 t (BM t hB) e
 | 9,_,e=>dm 30 t (BO t hB) e
 | 8,_,e=>nomatch e
 | _+10,h,_=>dno (n:=10) h
theorem fX:OkF pt hA P w K mg base 6 45 gs:=okC 45 t fun _ _ _ _ _ _ cx nd =>
 (ah (fQ (bt t (BJ t hB) cx (aa (sv 0) (aa (sv 2) af))))
 (ak (aI (dq ["at"] cx (bJ rfl (t.b 1) (aa (aN 0 t cx (sv 0)) af)) bO (fun _ _ _ _ nd=>⟨(sgN nd),a9,(ox (om cx.comp.hK cx.comp.hu2 (sv 3) (sv 0)) (cI t (bK t hB) cx.comp (sv 1) (aa (sv 2) (aa (sv 3) af))) (bC cx.comp (sv 2) (sv 3) (fun _ _=>rfl)))⟩)))))
omit t hB in
theorem dB{X:Cx}(t:Tx pt X.K X.mg)(hB:X.K.In X.base):eY X (T X.K) 6 "turned" ["self", "cells", "named"] [] aF:=fun c _ hc e=>match c,hc,e with
 | 0,_,e=>dm 31 t (fX t hB) e
 | 1,_,e=>dm 32 t (fX t hB) e
 | 2,_,e=>dm 33 t (fX t hB) e
 | 3,_,e=>dm 34 t (fX t hB) e
 | 4,_,e=>dm 35 t (fX t hB) e
 | 5,_,e=>dm 36 t (fX t hB) e
 | 6,_,e=>dm 37 t (fX t hB) e
 | 7,_,e=>dm 38 t (fX t hB) e
 | 9,_,e=>dm 39 t (fX t hB) e
 | 8,_,e=>nomatch e
 | _+10,h,_=>dno (n:=10) h
theorem fY:OkF pt hA P w K mg base 6 46 gu:=okC 46 t fun _ _ _ _ _ _ cx nd =>
 (ak (aI (dq ["at"] cx (bJ rfl (t.b 1) (aa (aN 0 t cx (sv 0)) af)) bO (fun _ _ _ _ nd=>⟨(sgN nd),(cm (gG cx.comp.hK cx.comp.hu (cI t (bK t hB) cx.comp (sv 0) (aa (sv 1) (aa (sv 2) af))) (bC cx.comp (sv 1) (sv 2) (fun _ _=>rfl)))),(sv 2)⟩))))
omit t hB in
theorem aR{X:Cx}(t:Tx pt X.K X.mg)(hB:X.K.In X.base):eY X (T X.K) 6 "movers" ["self", "cells"] [] aq:=fun c _ hc e=>match c,hc,e with
 | 0,_,e=>dm 40 t (fY t hB) e
 | 1,_,e=>dm 41 t (fY t hB) e
 | 2,_,e=>dm 42 t (fY t hB) e
 | 3,_,e=>dm 43 t (fY t hB) e
 | 4,_,e=>dm 44 t (fY t hB) e
 | 5,_,e=>dm 45 t (fY t hB) e
 | 6,_,e=>dm 46 t (fY t hB) e
 | 7,_,e=>dm 47 t (fY t hB) e
 | 9,_,e=>dm 48 t (fY t hB) e
 | 8,_,e=>nomatch e
 | _+10,h,_=>dno (n:=10) h
theorem Bw:OkF pt hA P w K mg base 7 47 pp:=okC 47 t fun _ _ _ _ _ _ cx nd =>
 (ah (bR nd (cI t (dB t hB) cx (sv 0) (aa (sv 1) (aa (sv 2) af))))
 (ah (cW ["at"] cx nd (bu cx.hK (cI t (aR t hB) cx (sv 0) (aa (sv 1) af))) bO (fun _ _ _ _ nd=>⟨(sgN nd),(cm (om cx.comp.hK cx.comp.hu2 (sv 1) (sv 0))),(sv 1)⟩))
 (ak (uJ rfl (Or.inl rfl) rfl (Or.inl rfl)))))
theorem vJ:OkF pt hA P w K mg base 8 48 pz:=okC 48 t fun _ _ _ _ _ _ cx nd =>
 (ah (bR nd (cI t (cf t hB) cx (sv 0) (aa (sv 1) af)))
 (ah (bR nd (fD af))
 (ee (i:=2) (ah (yp cx.po cx.calm cx.hK nd rfl (Or.inl rfl) rfl (Or.inl rfl) rfl (Or.inl rfl) (by decide) (by decide) (by decide) (by decide) (by decide) (by decide) (iC cx.hK (sv 2)) (bt t (Bw t hB) cx (aa (sv 0) (aa (sv 3) (aa (sv 5) af)))))
 (ak (cZ rfl (Or.inl rfl)))))))
theorem gP:OkF pt hA P w K mg base 7 49 gW:=okC 49 t fun _ _ _ _ _ _ cx nd =>
 (ak (aI (lQ cx.hK cx.hu (bZ cx.hK rfl (t.b 0) (cI t (aR t hB) cx (sv 0) (aa (sv 1) af))) (ai))))
theorem Ex:OkF pt hA P w K mg base 7 50 zM:=okC 50 t fun _ _ _ _ _ _ cx nd =>
 (ak (aI (lQ cx.hK cx.hu (bZ cx.hK rfl (t.b 0) (cI t (aR t hB) cx (sv 0) (aa (sv 1) af))) (ai))))
omit t hB in
theorem dX{X:Cx}(t:Tx pt X.K X.mg)(hB:X.K.In X.base):eY X (T X.K) 7 "calm" ["self", "cells"] [] aE:=fun c _ hc e=>match c,hc,e with
 | 0,_,e=>dm 49 t (gP t hB) e
 | 1,_,e=>dm 50 t (gP t hB) e
 | 2,_,e=>dm 51 t (gP t hB) e
 | 3,_,e=>dm 52 t (gP t hB) e
 | 4,_,e=>dm 53 t (gP t hB) e
 | 5,_,e=>dm 54 t (gP t hB) e
 | 6,_,e=>dm 55 t (gP t hB) e
 | 7,_,e=>dm 56 t (gP t hB) e
 | 9,_,e=>dm 57 t (Ex t hB) e
 | 8,_,e=>nomatch e
 | _+10,h,_=>dno (n:=10) h
theorem BN:OkF pt hA P w K mg base 1 51 Az:=okC 51 t fun _ _ _ _ _ _ cx nd =>
 (ak (b0 5 t cx hB bX (aa (bY) af)))
theorem BV:OkF pt hA P w K mg base 1 52 AA:=okC 52 t fun _ _ _ _ _ _ cx nd =>
 (ak (aI (ai)))
theorem Ez:OkF pt hA P w K mg base 1 53 Cl:=okC 53 t fun _ _ _ _ _ _ cx nd =>
 (ak (aI (dF (dF (aN 0 t cx (sv 0)) (ai)) (sv 1))))
theorem EA:OkF pt hA P w K mg base 1 54 Cm:=okC 54 t fun _ _ _ _ _ _ cx nd =>
 (ak (cZ rfl (Or.inl rfl)))
omit t hB in
theorem jb{X:Cx}(t:Tx pt X.K X.mg)(hB:X.K.In X.base):eY X (T X.K) 1 "rank" ["self", "at"] [] cM:=fun c _ hc e=>match c,hc,e with
 | 1,_,e=>dm 58 t (BV t hB) e
 | 2,_,e=>dm 59 t (Ez t hB) e
 | 3,_,e=>dm 60 t (EA t hB) e
 | 0,_,e | 4,_,e | 5,_,e | 6,_,e | 7,_,e | 8,_,e | 9,_,e=>nomatch e
 | _+10,h,_=>dno (n:=10) h
theorem qu:OkF pt hA P w K mg base 1 55 pj:=okC 55 t fun _ _ _ _ _ _ cx nd =>
 (ah (bR nd (ai))
 (ah (b7 cx.po cx.calm (cD rfl (t.b 1) (aa (sv 1) af)) (sgN nd) (ak (bR nd (cq (sv 2) (sv 0)))))
 (ak (cZ rfl (Or.inl rfl)))))
theorem vD:OkF pt hA P w K mg base 7 56 wx:=okC 56 t fun _ _ _ _ _ _ cx nd =>
 (ak (aI (kB cx.hK cx.calm rfl (t.b 11) (dq ["at"] cx (bu cx.hK (cI t (aR t hB) cx (sv 0) (aa (sv 1) af))) bO (fun _ _ _ _ nd=>⟨(sgN nd),a9,(bt t (qu t hB) cx.comp (aa (ai) (aa (cI t (jb t hB) cx.comp (sv 0) (aa (sv 1) af)) af)))⟩)))))
theorem rS:OkF pt hA P w K mg base 6 57 qQ:=okC 57 t fun _ _ _ _ _ _ cx nd =>
 (ah (cW ["at"] cx nd (bJ rfl (t.b 1) (aa (aN 0 t cx (sv 0)) af)) bO (fun _ _ _ _ nd=>⟨(sgN nd),a9,(cI t (bK t hB) cx.comp (sv 0) (aa (sv 1) (aa (sv 2) af)))⟩))
 (ah (bR nd (aH (aN 0 t cx (sv 0)) (ai)))
 (ah (bR nd (ai))
 (ah (b7 cx.po cx.calm (cD rfl (t.b 1) (aa (aN 3 t cx (sv 0)) af)) (sgN nd) (ah (cW ["cell", "due"] cx nd (mV cx.hK rfl (t.b 12) (aa (sv 1) (aa (sv 2) af))) (iU (cC bO (cC bO gE))) (fun _ _ _ _ nd=>⟨(iD cx.comp.hK cx.comp.calm (bQ nd rfl (Or.inl rfl) (bQ nd rfl (Or.inl rfl) fR))),(cm (SW.st (gF (cT cx.comp.hK cx.comp.hu (sv 1) (sv 0)) (fO (jX (sv 2) (sv 0)))))),(sv 1)⟩))
 (ah (cW ["cell", "due"] cx nd (mV cx.hK rfl (t.b 12) (aa (sv 1) (aa (sv 2) af))) (iU (cC bO (cC bO gE))) (fun _ _ _ _ nd=>⟨(iD cx.comp.hK cx.comp.calm (bQ nd rfl (Or.inl rfl) (bQ nd rfl (Or.inl rfl) fR))),(cm (SW.st (gF (jX (sv 1) (sv 0)) (fO (cT cx.comp.hK cx.comp.hu (sv 2) (sv 0)))))),(sv 1)⟩))
 (ak (bR nd (aH (cq (aH (cq (sv 4) (sv 3)) (bZ cx.hK rfl (t.b 0) (sv 6))) (sv 3)) (bZ cx.hK rfl (t.b 0) (sv 7))))))))
 (ak (cZ rfl (Or.inl rfl)))))))
theorem BI:OkF pt hA P w K mg base 1 58 wF:=okC 58 t fun _ _ _ _ _ _ cx nd =>
 (ah (cW ["other"] cx nd (bJ rfl (t.b 1) (aa (bZ cx.hK rfl (t.b 0) (sv 0)) af)) bO (fun _ _ _ _ nd=>⟨(sgN nd),(cm (AK cx.comp.hK cx.comp.hu (lr (aa (bC cx.comp (sv 0) (sv 2) (fun _ _=>rfl)) (aa (sv 2) af))) (lr (aa (bC cx.comp (sv 0) (sv 1) (fun _ _=>rfl)) (aa (sv 1) af))))),(sv 2)⟩))
 (ak (aI (bZ cx.hK rfl (t.b 0) (sv 2)))))
omit t hB in
theorem jF{X:Cx}(t:Tx pt X.K X.mg)(hB:X.K.In X.base):eY X (T X.K) 6 "measure" ["self", "cells"] [] fA:=fun c _ hc e=>match c,hc,e with
 | 5,_,e=>dm 61 t (rS t hB) e
 | 0,_,e | 1,_,e | 2,_,e | 3,_,e | 4,_,e | 6,_,e | 7,_,e | 8,_,e | 9,_,e=>nomatch e
 | _+10,h,_=>dno (n:=10) h
theorem EJ:OkF pt hA P w K mg base 7 59 Cu:=okC 59 t fun _ _ _ _ _ _ cx nd =>
 (ah (bR nd (cI t (fq t hB) cx (sv 0) (aa (sv 1) af)))
 (ah (bR nd (cI t (eA t hB) cx (sv 0) (aa (sv 1) af)))
 (ah (cW ["at"] cx nd (bJ rfl (t.b 1) (aa (aN 0 t cx (sv 0)) af)) bO (fun _ _ _ _ nd=>⟨(sgN nd),(cm (gG cx.comp.hK cx.comp.hu (bC cx.comp (sv 0) (sv 3) (fun _ _=>rfl)) (cI t (eT t hB) cx.comp (sv 1) (aa (sv 2) (aa (sv 3) af))))),(sv 3)⟩))
 (ah (cW ["at"] cx nd (bu cx.hK (sv 4)) bO (fun _ _ _ _ nd=>⟨(sgN nd),a9,(bt t (qu t hB) cx.comp (aa (ai) (aa (bt t (BI t hB) cx.comp (aa (sv 0) (aa (sv 1) af))) af)))⟩))
 (ak (aI (aH (cq (cI t (jF t hB) cx (aN 9 t cx (sv 0)) (aa (sv 2) af)) (bt t (qu t hB) cx (aa (ai) (aa (aN 0 t cx (sv 0)) af)))) (kB cx.hK cx.calm rfl (t.b 11) (sv 5)))))))))
theorem BC:OkF pt hA P w K mg base 1 60 wC:=okC 60 t fun _ _ _ _ _ _ cx nd =>
 (ah (bR nd (ai))
 (ah (ky cx.po (SW.st (gF (fC (sv 1) (bZ cx.hK rfl (t.b 0) (sv 0))) (fO (cT cx.hK cx.hu (bC cx (sv 0) (sv 1) (fun _ _=>rfl)) (bC cx (sv 0) (ai) (fun _ _=>rfl)))))) (ak (bR nd (aH (sv 1) (ai)))))
 (ak (cZ rfl (Or.inl rfl)))))
theorem Ey:OkF pt hA P w K mg base 2 61 Ck:=okC 61 t fun _ _ _ _ _ _ cx nd =>
 (ah (ba (ku cx.hK cx.hu2 (bC cx (sv 0) (ai) (fun _ _=>rfl)) (iZ cx.hK (sv 0) (hV (bt t (BC t hB) cx (aa (sv 0) af))) rC)) (ak (aI (ai))) aS)
 (ah (bR nd (ai))
 (ah (ky cx.po (om cx.hK cx.hu2 (bj (aH (bC cx (sv 0) (ai) (fun _ _=>rfl)) (sv 2)) (sv 1)) (iZ cx.hK (sv 0) (hV (ai)) rC)) (ak (bR nd (aH (sv 2) (ai)))))
 (ak (cZ rfl (Or.inl rfl))))))
theorem EI:OkF pt hA P w K mg base 7 62 wy:=okC 62 t fun _ _ _ _ _ _ cx nd =>
 (ah (cW ["at"] cx nd (bu cx.hK (cI t (aR t hB) cx (sv 0) (aa (sv 1) af))) bO (fun _ _ _ _ nd=>⟨(sgN nd),(cm (gG cx.comp.hK cx.comp.hu (sv 1) (ai))),(dF (aN 0 t cx.comp (sv 0)) (sv 1))⟩))
 (ak (aI (aH (cq (aN 0 t cx (sv 0)) (bt t (Ey t hB) cx (aa (sv 1) (aa (aN 7 t cx (sv 0)) af)))) (kB cx.hK cx.calm rfl (t.b 11) (sv 2))))))
omit t hB in
theorem dw{X:Cx}(t:Tx pt X.K X.mg)(hB:X.K.In X.base):eY X (T X.K) 7 "measure" ["self", "cells"] [] aC:=fun c _ hc e=>match c,hc,e with
 | 0,_,e=>dm 62 t (BN t hB) e
 | 1,_,e=>dm 63 t (vD t hB) e
 | 2,_,e=>dm 64 t (vD t hB) e
 | 3,_,e=>dm 65 t (vD t hB) e
 | 4,_,e=>dm 66 t (rS t hB) e
 | 5,_,e=>dm 61 t (rS t hB) e
 | 6,_,e=>dm 67 t (rS t hB) e
 | 7,_,e=>dm 68 t (EJ t hB) e
 | 9,_,e=>dm 69 t (EI t hB) e
 | 8,_,e=>nomatch e
 | _+10,h,_=>dno (n:=10) h
theorem BB:OkF pt hA P w K mg base 1 63 wB:=okC 63 t fun _ _ _ _ _ _ cx nd =>
 (ak (aI ((qf (uQ cx.hK zD rfl (t.b 13) iB rfl (t.b 15) CT (sv 0)) (mW (AV (uQ cx.hK wc rfl (t.b 13) iB rfl (t.b 14) Ac (sv 0))))))))
theorem BF:OkF pt hA P w K mg base 1 64 wE:=okC 64 t fun _ _ _ _ _ _ cx nd =>
 (ah (ba (dS cx.hK (bC cx (sv 0) (sv 2) (fun _ _=>rfl))) (ak (aI (gj))) aS)
 (ah (b7 cx.po cx.calm (lM rfl (t.b 1) (aa (aH (sv 2) (ai)) (aa (aH (aH (sv 2) (sv 3)) (ai)) af))) (sgN nd) (ak (ba (dS cx.hK (bC cx (sv 0) (sv 4) (fun _ _=>rfl))) (ak (aI (gj))) aS)))
 (ak (aI (D8 (bC cx (sv 1) (aH (sv 2) (sv 3)) (fun _ _=>rfl)) (bC cx (sv 1) (sv 2) (fun _ _=>rfl)))))))
theorem BW:OkF pt hA P w K mg base 10 65 AB:=okC 65 t fun _ _ _ _ _ _ cx nd =>
 (ah (bR nd (bt t (nu t hB) cx (aa (sv 0) (aa (ai) af))))
 (ah (bR nd (bt t (Bz t hB) cx (aa (bj (sv 1) (ai)) (aa (aH (ai) (bj (eQ (sv 1) (ai)) (ai))) (aa (eQ (sv 1) (ai)) (aa (bt t (nu t hB) cx (aa (sv 0) (aa (ai) af))) af))))))
 (ah (bR nd (aN 0 t cx (sv 2)))
 (ah (bR nd (bj (bt t (nu t hB) cx (aa (sv 0) (aa (ai) af))) (uP (ai) (ai))))
 (ah (cW ["_law_number"] cx nd (bu cx.hK (bt t (qv t hB) cx (aa (bt t (nu t hB) cx (aa (sv 0) (aa (ai) af))) (aa (sv 3) af)))) bO (fun _ _ _ _ nd=>⟨(sgN nd),a9,(dF (cq (sv 1) (aH (sv 0) (ai))) (cq (sv 0) (ai)))⟩))
 (ah (bR nd (bt t (BA t hB) cx (aa (sv 2) (aa (aH (iZ cx.hK (sv 0) (hV (ai)) (hV (ai))) (AU (fD (aa (ai) af)) (aH (cq (ai) (sv 3)) (ai)))) af))))
 (ah (bR nd (aH (dF (cq (ai) (sv 3)) (ai)) (bj (eQ (sv 1) (ai)) (ai))))
 (ee (i:=6) (ah (ba (SW.st (iq (rz (bt t (vE t hB) cx (aa (sv 3) (aa (sv 6) (aa (dF (cq (ai) (sv 3)) (ai)) af)))) (gj)) (ff (rz (bt t (vE t hB) cx (aa (sv 3) (aa (sv 6) (aa (sv 7) af)))) (gj))))) (ak (aI (gj))) aS)
 (ah (bR nd (fD (aa (cI t (cf t hB) cx (sv 2) (aa (sv 5) af)) af)))
 (ah (b7 cx.po cx.calm (iC cx.hK (D_ (bt t (vJ t hB) cx (aa (sv 2) (aa (sv 5) (aa (sv 6) af)))))) (sgN nd) (ak (qh cx (kg cx.hK rfl (t.b 6) kn (bC cx (sv 9) (ai) (fun _ _=>rfl))))))
 (ah (ba (gG cx.hK cx.hu (bZ cx.hK rfl (t.b 0) (sv 8)) (aH (bZ cx.hK rfl (t.b 0) (sv 6)) (ai))) (ak (aI (gj))) aS)
 (ee (i:=8) (ah (cW ["_law_cells"] cx nd (bu cx.hK (sv 8)) bO (fun _ _ _ _ nd=>⟨(sgN nd),a9,(cI t (dX t hB) cx.comp (sv 0) (aa (kg cx.comp.hK rfl (t.b 6) kn (sv 1)) af))⟩))
 (ah (cW ["_law_cells"] cx nd (bu cx.hK (sv 8)) bO (fun _ _ _ _ nd=>⟨(sgN nd),a9,(cI t (dw t hB) cx.comp (sv 0) (aa (kg cx.comp.hK rfl (t.b 6) kn (sv 1)) af))⟩))
 (ah (ba (pX (dS cx.hK (qg cx.hK cx.calm rfl (t.b 10) (dq ["_law_measure"] cx (bu cx.hK (sv 11)) bO (fun _ _ _ _ nd=>⟨(sgN nd),a9,(bt t (BB t hB) cx.comp (aa (sv 0) af))⟩))))) (ak (aI (gj))) aS)
 (ah (b7 cx.po cx.calm (cD rfl (t.b 1) (aa (aH (dF (bZ cx.hK rfl (t.b 0) (sv 6)) (sv 7)) (ai)) af)) (sgN nd) (ak (ba (pX (dS cx.hK (bt t (BF t hB) cx (aa (sv 10) (aa (sv 11) (aa (sv 12) (aa (sv 7) af))))))) (ak (aI (gj))) aS)))
 (ak (aI (lQ cx.hK cx.hu (bt t (vJ t hB) cx (aa (sv 2) (aa (bC cx (sv 8) (ai) (fun _ _=>rfl)) (aa (fD (aa (fD af) (aa (fD af) af))) af)))) (fD (aa (lr (aa (fD af) (aa (bC cx (sv 8) (ai) (fun _ _=>rfl)) af))) (aa (lr (aa (fD af) (aa (bC cx (sv 8) (ai) (fun _ _=>rfl)) af))) af)))))))))))))))))))))))
end
end G
namespace G
open PySem L2 PR
variable{n i r cc T J J' w k m:Nat}{ps ws:List (Int×Int)}{cs l hs ms rs:List Int}{f fc fl ft fi:Fl}{os:List (Option Int)}{st tp b sp c at_ x:Int}{tns:List (List Int)}{env:En}{p:Fl->Bool}{g:Fl->Fl}
theorem qk(n k:Int)(h1:k<=n)(h2:n<=10):wH [.int n,.int k]=.ok .non:=by
 refine lS (e:=[some (.int n),some (.int k)]) ?_
 show xI [some (.int n),some (.int k)]=_
 unfold xI
 exact bL (by simp;rw[if_neg (by omega),decide_eq_false (by omega)]) az
theorem qt(g:Dn n ws)(hf:fl.lend=fl)(hl:fl.isLnt=false):wP [.int n,.lst fl (prL ws)]=.ok (.lst .own (prL (cy (ws.map mm)))):=by
 refine aw (v:=.lst .own (prL (cy (ws.map mm)))) ?_
 show xU [some (.int n),some (.lst fl (prL ws)),none,none,none]=_
 unfold xU
 refine ag (aA (v:=.lst .own []) (by simp) (by simp) rfl) ?_
 simp only[s0_,s1_]
 refine iY (fun k e=>∃c d,e=[some (.int n),some (.lst fl (prL ws)),some (.lst .own (prL ((ws.take k).map mm))),c,d]) (xs:=prL ws) (eP (by simp[hf]) hl (by simp) (by simp)) ⟨_,_,rfl⟩ (fun k x e hx hP=>?_) (fun e hP=>?_)
 ·obtain⟨c,d,rfl⟩:=hP
  rw[yZ]at hx
  obtain⟨w,hw,rfl⟩:∃w,ws[k]?=some w/\x=prV w:=by
   cases e:ws[k]? with
   | none=>rw[e]at hx;cases hx
   | some w=>rw[e]at hx;cases hx;exact⟨w,rfl,rfl⟩
  have hk:k < ws.length:=(List.getElem?_eq_some_iff.mp hw).1
  obtain⟨r1,r2,r3,r4,r5⟩:=g.rg w (List.mem_of_getElem? hw)
  have hn:((ws.take k).map mm).contains (mm w)=false:=by
   rw[Bool.eq_false_iff]
   intro z
   have z':mm w ∈(ws.take k).map mm:=by simpa using z
   have nd:=g.nd
   rw[<- List.take_append_drop k ws,List.map_append,List.nodup_append]at nd
   refine nd.2.2 _ z' (mm w) (List.mem_map_of_mem ?_) rfl
   rw[List.drop_eq_getElem_cons hk]
   obtain⟨_,e⟩:=List.getElem?_eq_some_iff.mp hw
   rw[e]
   exact List.mem_cons_self
  have hn':mm w ∉(ws.map mm).take k:=by
   rw[<- List.map_take]
   simpa using hn
  have ht:(ws.take (k+1)).map mm=(ws.take k).map mm++[mm w]:=by rw[List.take_add_one,hw];simp
  have hz:=g.sz
  refine⟨_,cE rfl,cA (aA (v:=prV (mm w)) (by simp[p1,mR,mm]) (by simp) rfl) ?_⟩
  simp only[s0_,s1_]
  refine cA (bL (by simp[mm];rw[if_neg (by omega),decide_eq_false (by omega)]) az) ?_
  refine cA (bL (by simp[mm];omega) az) ?_
  refine cA (bL (by simp only[km,gY,dN];simp[hn']) az) ?_
  refine bx (dQ (v:=prV (mm w)) (xs:=prL ((ws.take k).map mm)) (by simp) rfl (by simp) (by simp;omega)) ⟨some (prV w),some (prV (mm w)),?_⟩
  simp only[s0_,s1_]
  rw[ht,<- y0]
  rfl
 ·obtain⟨c,d,rfl⟩:=hP
  refine aZ ?_ (by simp)
  have e:ws.take (prL ws).length=ws:=by rw[kh,List.take_length]
  simp only[e]
  simp[p1,pZ (f:=.lnt) (ps:=ws.map mm) (by simpa using g.sz) g.nd]
theorem jW(a:Int):∀(ps:List (Int×Int)),(∀x∈ps,x.1≠x.2)->(ps.filter fun x=>decide (x.2=a)).length+(ps.filter fun x=>decide (x.1=a)).length<=ps.length
 | [],_=>Nat.le_refl _
 | x::ps,h=>by
  have:=jW a ps fun y hy=>h y (List.mem_cons_of_mem _ hy)
  have hx:=h x List.mem_cons_self
  rw[List.filter_cons,List.filter_cons]
  by_cases h1:x.2=a
  ·have h2:x.1≠a:=fun z=>hx (z.trans h1.symm)
   simp[h1,h2];omega
  ·by_cases h2:x.1=a
   ·simp[h1,h2];omega
   ·simp[h1,h2];omega
theorem vO(ps:List (Int×Int))(a:Int)(h:ps.length < 64)(hne:∀x∈ps,x.1≠x.2):ss [.tup (prL ps),.int a]=.ok (.lst .own (iL (nbL ps a))):=by
 refine aw (v:=.lst .own (iL (nbL ps a))) ?_
 show xC [some (.tup (prL ps)),some (.int a),none,none]=_
 unfold xC
 refine ag (aA (v:=.lst .own (iL ((ps.filter fun x=>decide (x.2=a)).map (·.1)))) ?_ (by simp) rfl) ?_
 ·refine aM (xs:=prL ps) (by simp) (by simp;omega) ?_
  unfold iL prL
  rw[List.map_map]
  exact bW (a:=prV) (f:=PV.int ∘ Prod.fst) (p:=fun x=>decide (x.2=a)) ps fun x _=>⟨[some (.int a),some (prV x)],by simp[tgN,aL,bB],by simp,fun _=>⟨by simp,rfl,rfl⟩⟩
 simp only[s0_,s1_]
 refine ag (aA (v:=.lst .own (iL ((ps.filter fun x=>decide (x.1=a)).map (·.2)))) ?_ (by simp) rfl) ?_
 ·refine aM (xs:=prL ps) (by simp) (by simp;omega) ?_
  rw[show iL ((ps.filter fun x=>decide (x.1=a)).map (·.2))=(ps.filter fun x=>decide (x.1=a)).map (PV.int ∘ Prod.snd)from List.map_map ..]
  exact bW (a:=prV) (f:=PV.int ∘ Prod.snd) (p:=fun x=>decide (x.1=a)) ps fun x _=>⟨[some (.int a),some (prV x)],by simp[tgN,aL,bB],by simp,fun _=>⟨by simp,rfl,rfl⟩⟩
 simp only[s0_,s1_]
 refine aZ ?_ (by simp)
 have h1:=jW a ps hne
 simp only[cP,bV,gY,dN,cL]
 simp[p1]
 rw[gJ (by decide) (by decide) (by simp;omega)]
 simp
 rw[sN _ (by simp;omega)]
 rfl
abbrev net(fl:Fl)(n:Nat)(ps:List (Int×Int)):PV:=.obj fl 8 [0,1,2] [.int n,.tup (prL ps),.tup ((List.range n).map fun k:Nat=>.tup (iL (nbL ps k)))]
@[simp] theorem FQ:hasL p ((List.range n).map fun k:Nat=>PV.tup (iL (nbL ps k)))=false:=by
 induction List.range n with
 | nil=>rfl
 | cons a l ih=>simp[hasL,PV.has,ih]
@[simp] theorem FP:mapL g ((List.range n).map fun k:Nat=>PV.tup (iL (nbL ps k)))=(List.range n).map fun k:Nat=>PV.tup (iL (nbL ps k)):=by
 induction List.range n with
 | nil=>rfl
 | cons a l ih=>simp[mapL,PV.mapF,ih]
theorem uq(hk:k < n):sw [net .bor n ps,.int k]=.ok (.lst .own (iL (nbL ps k))):=by
 refine aw (v:=.lst .own (iL (nbL ps k))) ?_
 show pQ [some (net .bor n ps),some (.int k)]=_
 unfold pQ
 refine aZ ?_ (by simp)
 have e:aK (.tup ((List.range n).map fun k:Nat=>PV.tup (iL (nbL ps k)))) (.int k)=.ok (.tup (iL (nbL ps k))):=by
  have hk':((List.range n).map fun k:Nat=>PV.tup (iL (nbL ps k)))[k]?=some (.tup (iL (nbL ps k))):=by simp[hk]
  exact jN rfl hk' (by simp[PV.has])
 simp[ao,aV,p1,iw,e,aQ]
def lf(ps:List (Int×Int))(i j:Nat):Prop:=((i:Int),(j:Int))∈ ps \/((j:Int),(i:Int))∈ ps
theorem Ch(hr:r < n)(hn:n<=10)(g:∀x∈ps,0<=x.1/\x.1 < n/\0<=x.2/\x.2 < n) :
  ∃far,sk [net .bor n ps,.int r]=.ok (.lst .own (iL far))/\q9 n r (lf ps) far:=by
 have a0:ao 0 (net .bor n ps)=.ok (.int n):=by simp[ao,aV]
 have end_:∀e:En,(∃far a b c,e=[some (net .bor n ps),some (.int r),some (.lst .own (iL far)),a,b,c]/\Far n r (lf ps) n 0 (fun _=>False) far)->∃far,dY 2 e=.ret (.lst .own (iL far))/\q9 n r (lf ps) far:=fun e ⟨far,a,b,c,he,F⟩=>⟨far,by subst he;exact ef rfl,F.dist⟩
 let P:Nat->En->Prop:=fun s e=>∃far a b c,e=[some (net .bor n ps),some (.int r),some (.lst .own (iL far)),a,b,c]/\Far n r (lf ps) s 0 (fun _=>False) far
 have loop:∃e2,cO (bI (ae (mUn (ao 0) (ac 0)) am)) (tgN 3)
   (cO (bI (ae (mUn (ao 0) (ac 0)) am)) (tgN 4)
   (mBr (av (mOp pEq (mOp aK (ac 2) (ac 4)) (ac 3)))
   (cO (eZ (b6 bE (ac 0) (ae (ac 4) am))) (tgN 5)
   (iM 2 (ac 5) (ap (fV min) (ae (mOp aK (ac 2) (ac 5)) (ae (mOp aG (ac 3) (mC (.int (1)))) am)))))
   aY)) [some (net .bor n ps),some (.int r),some (.lst .own (iL (((List.range n).map fun _=>(n:Int)).set r 0))),none,none,none]=.next e2/\P (b5 0 n).length e2:=by
  refine jw P (bv (n:=n) (by simp[a0]) (by omega)) ⟨_,_,_,_,rfl,Far.start hr (fun i hi=>?_) (by simp)⟩ (fun s x e hx hP=>?_)
  ·rw[fw _ (by simpa using hr)]
   simp[gt,hi]
  ·obtain⟨far,a,b,c,rfl,F⟩:=hP
   obtain⟨hs,rfl⟩:=cz hx
   suffices jV _ _ by
    obtain⟨e2,h1,h2⟩:=this
    exact⟨_,e2,cE rfl,h1,h2⟩
   refine jO (fun k e=>∃far b c,e=[some (net .bor n ps),some (.int r),some (.lst .own (iL far)),some (.int (0+(s:Int))),b,c]/\Far n r (lf ps) s k (fun _=>False) far) (bv (n:=n) (by simp[a0]) (by omega)) ⟨_,_,_,rfl,F⟩ (fun k x e hx hP=>?_) (fun e hP=>?_)
   ·obtain⟨far,b,c,rfl,F⟩:=hP
    obtain⟨hk,rfl⟩:=cz hx
    have ix:∀ (f:Fl) (i:Nat),i < n->aK (.lst f (iL far)) (.int i)=.ok (.int (gt far i)):=fun f i hi=>gU _ (by omega) (by
     have:i < far.length:=by rw[F.len];exact hi
     simp[gt,this])
    refine⟨_,cE rfl,?_⟩
    simp only[s0_,s1_]
    by_cases hv:gt far k=s
    ·refine l7 (by simp[ix _ k hk,hv]) ?_
     have nbs:∀o∈nbL ps k,∃j:Nat,o=j/\j < n/\lf ps j k:=fun o ho=>by
      rcases nA.mp ho with q | q
      ·have:=g _ q
       exact⟨o.toNat,by omega,by omega,.inl (by rw[show((o.toNat:Nat):Int)=o by omega];exact q)⟩
      ·have:=g _ q
       exact⟨o.toNat,by omega,by omega,.inr (by rw[show((o.toNat:Nat):Int)=o by omega];exact q)⟩
     refine jO (fun q e=>∃far c,e=[some (net .bor n ps),some (.int r),some (.lst .own (iL far)),some (.int (0+(s:Int))),some (.int (0+(k:Int))),c]/\Far n r (lf ps) s k (fun j=>(j:Int)∈(nbL ps k).take q) far/\gt far k=s) (xs:=iL (nbL ps k)) ?_ ⟨far,_,rfl,F.none (by simp),hv⟩ (fun q x e hx hP=>?_) (fun e hP=>?_)
     ·have bk:=uq (ps:=ps) hk
      refine eP (f:=.own) ?_ rfl (by simp) (by simp)
      simp[bE,bk,aB]
     ·obtain⟨far,c,rfl,F,hv⟩:=hP
      rw[wf]at hx
      obtain⟨o,ho,rfl⟩:∃o,(nbL ps k)[q]?=some o/\x=.int o:=by
       cases e:(nbL ps k)[q]? with
       | none=>rw[e]at hx;cases hx
       | some w=>rw[e]at hx;cases hx;exact⟨w,rfl,rfl⟩
      obtain⟨j,rfl,hj,aj⟩:=nbs o (List.mem_of_getElem? ho)
      have ix:∀ (f:Fl) (i:Nat),i < n->aK (.lst f (iL far)) (.int i)=.ok (.int (gt far i)):=fun f i hi=>gU _ (by omega) (by
       have:i < far.length:=by rw[F.len];exact hi
       simp[gt,this])
      obtain⟨F',hv'⟩:=F.relax hk hv hj aj hs
      refine⟨_,cE rfl,bx (ow (v:=.int (min (gt far j) ((s:Int)+1))) (xs:=iL far) (j:=j) (n:=j) (by simp[ix _ j hj,fV]) rfl (by simp) (nG (by rw[aU,F.len];exact hj)) (by simp)) ⟨_,some (.int j),?_,?_,hv'⟩⟩
      ·rw[o8];rfl
      ·have e:∀i:Nat,((i:Int)∈(nbL ps k).take (q+1))=((i:Int)∈(nbL ps k).take q\/i=j):=fun i=>by
        rw[List.take_add_one,ho]
        simp
        exact or_congr_right ⟨fun h=>by omega,fun h=>by omega⟩
       simp only[e]
       exact F'
     ·obtain⟨far,c,rfl,F,hv⟩:=hP
      refine⟨far,_,_,rfl,F.close fun j hj a=>?_⟩
      rw[aU,List.take_length]
      exact nA.mpr (a.elim .inr .inl)
    ·refine l8 (by simp[ix _ k hk,hv]) (bx az ⟨far,_,_,rfl,F.skip hv⟩)
   ·obtain⟨far,b,c,rfl,F⟩:=hP
    rw[aW]at F
    exact⟨far,_,_,_,rfl,F.next⟩
 obtain⟨e2,h1,h2⟩:=loop
 rw[aW]at h2
 obtain⟨far,h3,h4⟩:=end_ e2 h2
 refine⟨far,aw (v:=.lst .own (iL far)) ?_,h4⟩
 show xm [some (net .bor n ps),some (.int r),none,none,none,none]=_
 unfold xm
 refine ag (aA (v:=.lst .own (iL ((List.range n).map fun _=>(n:Int)))) ?_ (by simp) rfl) ?_
 ·refine aM (xs:=b5 0 n) (bv (n:=n) (by simp[a0]) (by omega)) (by rw[aW];omega) ?_
  rw[show iL ((List.range n).map fun _=>(n:Int))=(List.range n).map (fun _=>PV.int n)from by simp[iL]]
  exact a6 (a:=fun k:Nat=>PV.int (0+(k:Int))) (f:=fun _=>PV.int n) (List.range n) fun k _=>⟨[some (net .bor n ps),some (.int (0+k))],by simp[tgN,aL,bB,PV.borrow],by simp[a0],rfl,rfl⟩
 simp only[s0_,s1_]
 refine ag (ow (v:=.int 0) (xs:=iL ((List.range n).map fun _=>(n:Int))) (j:=r) (n:=r) (by simp) rfl (by simp) (nG (by simpa using hr)) (by simp)) ?_
 rw[o8]
 exact ag h1 h3
theorem B2{far:List Int}(h:far≠[])(hb:∀x∈far,x < b):je far < b:=hb _ (kP h).1
theorem zG(g:Dn n ws)(h1:1<=n)(hn:n<=10)(hf:fl.lend.toBor=.bor\/fl.lend.toBor=.frz)(conn:∀S:Nat->Prop,S 0->(∀i < n,∀j < n,lf (cy (ws.map mm)) i j->S i->S j)->∀i < n,S i) :
  mq [.obj .own 8 [] [],.int n,.lst fl (prL ws)]=.ok (net .own n (cy (ws.map mm))):=by
 have hfl:fl.lend.toBor.lend=fl.lend.toBor:=by rcases hf with e | e<;>rw[e]<;>rfl
 have hfi:fl.lend.toBor.isLnt=false:=by rcases hf with e | e<;>rw[e]<;>rfl
 have o1:=qt (fl:=fl.lend.toBor) g hfl hfi
 have rg:∀x∈cy (ws.map mm),0<=x.1/\x.1 < n/\0<=x.2/\x.2 < n/\x.1≠x.2:=fun x hx=>by
  obtain⟨w,hw,rfl⟩:=List.mem_map.mp ((cH _).mem_iff.mp hx)
  have:=g.rg w hw
  simp only[mm]
  omega
 have sz:(cy (ws.map mm)).length < 64:=by rw[(cH _).length_eq,List.length_map];exact g.sz
 generalize hps:cy (ws.map mm)=ps at *
 have nb:∀k:Nat,ss [.tup (prL ps),.int k]=.ok (.lst .own (iL (nbL ps k))):=fun k=>vO ps k sz fun x hx=>(rg x hx).2.2.2.2
 obtain⟨far,e1,D⟩:=Ch (n:=n) (r:=0) (ps:=ps) (by omega) hn fun x hx=>⟨(rg x hx).1,(rg x hx).2.1,(rg x hx).2.2.1,(rg x hx).2.2.2.1⟩
 have hall:=D.all (by omega) conn
 have hne:far≠[]:=fun z=>by have:=D.len;rw[z]at this;simp at this;omega
 have hmx:je far < n:=B2 hne fun x hx=>by
  obtain⟨i,hi,rfl⟩:=List.getElem_of_mem hx
  have:=hall i (by rw[<- D.len];exact hi)
  simpa[gt,hi]using this
 refine cu (e:=[some (net .own n ps),some (.int n),some (.lst fl (prL ws))]) ?_ rfl
 show xp [some (.obj .own 8 [] []),some (.int n),some (.lst fl (prL ws))]=_
 unfold xp
 have rf:=qk n 1 (by omega) (by omega)
 refine ag (gd (v:=.non) (by simp[rf,aB])) ?_
 refine ag (bz (v:=.int n) (ks:=[]) (vs:=[]) (by simp) rfl (by simp) rfl (by decide)) ?_
 simp only[s0_,s1_]
 refine ag (bz (v:=.tup (prL ps)) (ks:=[0]) (vs:=[.int n]) ?_ rfl (by simp) rfl (by decide)) ?_
 ·simp[o1,aB,p1,dI,aQ]
 simp only[s0_,s1_]
 refine ag (bz (v:=.tup ((List.range n).map fun k:Nat=>.tup (iL (nbL ps k)))) (ks:=[0,1]) (vs:=[.int n,.tup (prL ps)]) ?_ rfl (by simp) rfl (by decide)) ?_
 ·simp only[cP,bV,cL]
  rw [aM (xs:=b5 0 n) (ys:=(List.range n).map fun k:Nat=>.tup (iL (nbL ps k))) (bv (n:=n) (by simp) (by omega)) (by rw [aW];omega)
   (a6 (a:=fun k:Nat=>PV.int (0+(k:Int))) (f:=fun k:Nat=>.tup (iL (nbL ps k))) (List.range n) fun k _=>⟨[some (.obj .bor 8 [0,1] [.int n,.tup (prL ps)]),some (.int (0+k))],by simp[tgN,aL,bB],by simp[ao,aV,nb,aB,p1,dI,aQ],by simp[PV.has],by simp[PV.has]⟩)]
  simp[p1,dI,aQ]
 simp only[s0_,s1_]
 refine bL ?_ az
 have hi:far.isEmpty=false:=by cases far with | nil=>exact absurd rfl hne | cons a l=>rfl
 have e2:sk [net .bor n ps,.int 0]=.ok (.lst .own (iL far)):=e1
 simp[e2,aB,p1,fH,aQ,hi]
 omega
def cell(ns:List Int)(k:Nat):Int:=ns.getD k 0
theorem z8(ns:List Int)(k:Nat)(h:Scr fl):iA [.lst fl (iL ns),.int k]=.ok (.int (cell ns k)):=by
 refine aw ?_
 show xE [some (.lst fl (iL ns)),some (.int k)]=_
 unfold xE cell
 by_cases hk:k < ns.length
 ·refine c9 (im (by simp[h.lend,hk]) (aZ ?_ (by simp)))
  simp only[gY,dN]
  simp[h.lend]
  rw[gU ns (by omega) (n:=ns.getD k 0) (by simp[hk])]
  simp[hk]
 ·refine ag (bL (by simp[h.lend,hk]) az) (aZ (by simp[List.getElem?_eq_none (Nat.le_of_not_lt hk)]) (by simp))
theorem uy(n:Int):wB [.int n]=.ok (.bl true):=by
 refine aw (v:=.bl true) ?_
 show xu [some (.int n)]=_
 unfold xu
 exact aZ (by simp[lw]) (by simp)
theorem z6(Wh:fe n m ws)(hr:r < n)(S:Nat->Prop)(h0:S r)(hc:∀i < n,∀j < n,lf (cy (ws.map mm)) i j->S i->S j):∀i < n,S i:=fun i hi=>by
 have:=Wh.cn (fun x=>S x.toNat) (fun w hw=>?_) r i hr hi (by simpa using h0)
 ·simpa using this
 ·have rg:=Wh.rg w hw
  have hm:mm w∈cy (ws.map mm):=(cH _).mem_iff.mpr (List.mem_map_of_mem hw)
  have e1:((w.1.toNat:Nat):Int)=w.1:=by omega
  have e2:((w.2.toNat:Nat):Int)=w.2:=by omega
  have ad:lf (cy (ws.map mm)) w.1.toNat w.2.toNat:=by
   unfold lf
   rw[e1,e2]
   rcases Int.le_total w.1 w.2 with h | h
   ·left
    rw[show(w.1,w.2)=mm w by simp only[mm,Prod.mk.injEq];omega]
    exact hm
   ·right
    rw[show(w.2,w.1)=mm w by simp only[mm,Prod.mk.injEq];omega]
    exact hm
  exact⟨hc _ (by omega) _ (by omega) ad,hc _ (by omega) _ (by omega) (ad.elim .inr .inl)⟩
theorem iJ(c:Int)(m:Nat)(hm:m<=1000):∃l:List Int,kZ [.int c,.int m]=.ok (.lst .own (iL l))/\l.length=m/\∀x∈l,0<=x/\x < 998244353:=by
 suffices hh:iS (xH [some (.int c),some (.int m),none,none,none]) (fun v=>∃l:List Int,v=.lst .own (iL l)/\l.length=m/\∀x∈l,0<=x/\x < 998244353) by
  obtain⟨v,h1,l,rfl,h2⟩:=hh
  exact⟨l,aw h1,h2⟩
 unfold xH
 have c1:=Int.emod_nonneg c (show(998244353:Int)≠ 0 by decide)
 have c2:=Int.emod_lt_of_pos c (show(0:Int) < 998244353 by decide)
 refine bT (aA (v:=.int (c % 998244353)) (by simp[bp]) (by simp) rfl) ?_
 simp only[s0_,s1_]
 refine bT (aA (v:=.lst .own []) (by simp) (by simp) rfl) ?_
 simp only[s0_,s1_]
 refine fF (fun k e=>∃z l x4,e=[some (.int c),some (.int m),some (.int z),some (.lst .own (iL l)),x4]/\l.length=k/\k<=m/\(0<=z/\z < 998244353)/\∀x∈l,0<=x/\x < 998244353) (bv (n:=m) (by simp) (by omega)) ⟨c % 998244353,[],none,rfl,rfl,by omega,⟨c1,c2⟩,fun _ z=>nomatch z⟩ (fun k x e hx hP=>?_) (fun e hP=>?_)
 ·obtain⟨z,l,x4,rfl,hk,_,⟨z1,z2⟩,hl⟩:=hP
  obtain⟨hkm,rfl⟩:=cz hx
  have e1:b8 (.int 2) (.int (k:Int))=.ok (.int (2 * (k:Int))):=cU (.inl ⟨by decide,by decide⟩)
  have e2:b8 (.int 12553) (.int (k:Int))=.ok (.int (12553 * (k:Int))):=cU (.inl ⟨by decide,by decide⟩)
  have e3:b8 (.int z) (.int (z+2 * (k:Int)+40503))=.ok (.int (z * (z+2 * (k:Int)+40503))):=cU (.inl ⟨by omega,by omega⟩)
  generalize hw:(z * (z+2 * (k:Int)+40503)+12553 * (k:Int)+1) % 998244353=w
  have w1:0<=w:=by rw[<- hw];exact Int.emod_nonneg _ (by decide)
  have w2:w < 998244353:=by rw[<- hw];exact Int.emod_lt_of_pos _ (by decide)
  refine⟨_,cE rfl,?_⟩
  simp only[s0_,s1_]
  refine cA (aA (v:=.int w) (by simp[e1,e2,e3,bp,hw]) (by simp) rfl) ?_
  simp only[s0_,s1_]
  refine bx (dQ (v:=.int w) (xs:=iL l) (by simp) rfl (by simp) (by rw[aU];omega)) ⟨w,l++[w],_,by simp[iL];rfl,by simp[hk],by omega,⟨w1,w2⟩,fun x hx=>?_⟩
  rcases List.mem_append.mp hx with hx | hx
  ·exact hl x hx
  ·simp at hx;subst hx;exact⟨w1,w2⟩
 ·obtain⟨z,l,x4,rfl,hk,_,_,hl⟩:=hP
  rw[aW]at hk
  exact dG (ef rfl) ⟨l,rfl,hk,hl⟩
def tri:Nat->Nat
 | 0=>0
 | k+1=>tri k+k
theorem rL{α:Type}(y:α)(xs:List α):PR.ce xs.length y xs=xs++[y]:=by simp[PR.ce]
theorem ye(c:Int)(n1:1<=n)(n2:n<=10):∃ws:List (Int×Int),mf [.int n,.int c]=.ok (.lst .own (prL ws))/\fe n 55 ws:=by
 obtain⟨l,hl1,hl2,hl3⟩:=iJ c n (by omega)
 suffices hh:iS (xo [some (.int n),some (.int c),none,none,none,none,none,none]) (fun v=>∃ws:List (Int×Int),v=.lst .own (prL ws)/\fe n 55 ws) by
  obtain⟨v,h1,ws,rfl,h2⟩:=hh
  exact⟨ws,aw h1,h2⟩
 unfold xo
 have np:(0:Int) < n:=by omega
 have gl:∀(f:Fl) (k:Nat),k < n->aK (.lst f (iL l)) (.int (k:Int))=.ok (.int (gt l k)):=fun f k hk=>by simpa using b9 (f:=f) (cs:=l) (i:=k) (by omega) (by omega)
 refine bT (aA (v:=.lst .own (iL l)) (by simp[hl1,aB]) (by simp) rfl) ?_
 simp only[s0_,s1_]
 refine bT (aA (v:=.lst .own []) (by simp) (by simp) rfl) ?_
 simp only[s0_,s1_]
 refine fF (fun k e=>∃od a,e=[some (.int n),some (.int c),some (.lst .own (iL l)),some (.lst .own (iL od)),a,none,none,none]/\od.Perm ((List.range k).map fun k:Nat=>(k:Int))) (bv (n:=n) (by simp) (by omega)) ⟨[],_,rfl,.refl _⟩ (fun k x e hx hP=>?_) (fun e hP=>?_)
 ·obtain⟨od,a,rfl,hp⟩:=hP
  obtain⟨hk,rfl⟩:=cz hx
  have hlen:od.length=k:=by simpa using hp.length_eq
  have b1:=Int.emod_nonneg (gt l k) (show(k:Int)+1≠0 by omega)
  have b2:=Int.emod_lt_of_pos (gt l k) (show(0:Int) <(k:Int)+1 by omega)
  refine⟨_,cE rfl,bx (l6 (v:=.int k) (xs:=iL od) (j:=gt l k % ((k:Int)+1)) (n:=(gt l k % ((k:Int)+1)).toNat) ?_ (by simp) rfl rfl rfl (by omega) (by rw[aU,hlen];omega) (by rw[aU];omega)) ⟨PR.ce (gt l k % ((k:Int)+1)).toNat (k:Int) od,some (.int (0+k)),?_,?_⟩⟩
  ·simp[gl _ k hk,bp (show(0:Int) <(k:Int)+1 by omega)]
  ·rw[u8];rfl
  ·refine(fG _ _ _).trans ((hp.cons _).trans ?_)
   rw[List.range_succ,List.map_append]
   exact(List.perm_append_singleton _ _).symm
 obtain⟨od,a,rfl,hp⟩:=hP
 rw[aW]at hp
 have hlen:od.length=n:=by simpa using hp.length_eq
 have hod:od.Nodup:=hp.symm.nodup (List.Pairwise.map _ (fun a b h z=>h (by omega)) List.nodup_range)
 have ix:∀ (f:Fl) (i:Nat),i < n->aK (.lst f (iL od)) (.int i)=.ok (.int (od.getD i 0)):=fun f i hi=>gU _ (by omega) (by
  have:i < od.length:=by rw[hlen];exact hi
  simp[this])
 refine bT (aA (v:=.lst .own []) (by simp) (by simp) rfl) ?_
 simp only[s0_,s1_]
 refine fF (fun q e=>∃ws a,e=[some (.int n),some (.int c),some (.lst .own (iL l)),some (.lst .own (iL od)),a,some (.lst .own (prL ws)),none,none]/\PR.Tree n od (q+1) ws) (xs:=b5 1 (n - 1)) ?_ ⟨[],_,rfl,PR.Tree.start hlen n1⟩ (fun q x e hx hP=>?_) (fun e hP=>?_)
 ·rw[rH (lo:=1) (hi:=n) (by simp) (by omega) (by omega)]
  rw[show((n:Int) - 1).toNat=n - 1 by omega]
 ·obtain⟨ws,a,rfl,T⟩:=hP
  obtain⟨hq,rfl⟩:=cz hx
  have lt:=T.ln
  have kp:(0:Int) < 1+(q:Int):=by omega
  have g1:∀f:Fl,aK (.lst f (iL l)) (.int (1+(q:Int)))=.ok (.int (gt l (q+1))):=fun f=>by
   have:=gl f (q+1) (by omega)
   rwa [show((q+1:Nat):Int)=1+(q:Int) by omega]at this
  have d16:dW (.int (gt l (q+1))) (.int 16)=.ok (.int (gt l (q+1) / 16)):=fB (by decide) (by decide)
  generalize gt l (q+1) / 16=z at d16
  have b1:=Int.emod_nonneg z (show(1:Int)+q≠0 by omega)
  have b2:=Int.emod_lt_of_pos z kp
  have i1:∀f:Fl,aK (.lst f (iL od)) (.int (1+(q:Int)))=.ok (.int (od.getD (q+1) 0)):=fun f=>by
   have:=ix f (q+1) (by omega)
   rwa [show((q+1:Nat):Int)=1+(q:Int) by omega]at this
  have i2:∀f:Fl,aK (.lst f (iL od)) (.int (z % (1+(q:Int))))=.ok (.int (od.getD (z % (1+(q:Int))).toNat 0)):=fun f=>by
   have:=ix f (z % (1+(q:Int))).toNat (by omega)
   rwa [show(((z % (1+(q:Int))).toNat:Nat):Int)=z % (1+(q:Int)) by omega]at this
  refine⟨_,cE rfl,bx (dQ (v:=prV (od.getD (q+1) 0,od.getD (z % (1+(q:Int))).toNat 0)) (xs:=prL ws) (by simp[i1,i2,g1,d16,bp kp,prV]) rfl (by simp) (by rw[kh];omega)) ⟨ws++[(od.getD (q+1) 0,od.getD (z % (1+(q:Int))).toNat 0)],some (.int (1+(q:Int))),by simp[prL],?_⟩⟩
  rw[<- rL]
  exact T.more (j:=(z % (1+(q:Int))).toNat) hod (by omega) (by omega) (.inl rfl)
 obtain⟨ws,a,rfl,T⟩:=hP
 rw[aW,show n - 1+1=n by omega]at T
 have Wh:=T.whole hp
 have t10:∀k,k<=10->tri k<=45:=by decide
 refine fF (fun k e=>∃ws a b d,e=[some (.int n),some (.int c),some (.lst .own (iL l)),some (.lst .own (iL od)),a,some (.lst .own (prL ws)),b,d]/\fe n (10+tri k) ws) (bv (n:=n) (by simp) (by omega)) ⟨ws,_,_,_,rfl,⟨Wh.rg,Wh.nd,Nat.le_trans Wh.ln n2,Wh.cn⟩⟩ (fun k x e hx hP=>?_) (fun e hP=>?_)
 ·obtain⟨ws,a,b,d,rfl,Wh⟩:=hP
  obtain⟨hk,rfl⟩:=cz hx
  refine⟨_,cE rfl,?_⟩
  simp only[s0_,s1_,Int.zero_add]
  have tk:=t10 k (by omega)
  refine jO (fun j e=>∃ws b d,e=[some (.int n),some (.int c),some (.lst .own (iL l)),some (.lst .own (iL od)),some (.int k),some (.lst .own (prL ws)),b,d]/\fe n (10+tri k+j) ws) (bv (n:=k) (by simp) (by omega)) ⟨ws,_,_,rfl,Wh⟩ (fun j y e hy hP=>?_) (fun e hP=>?_)
  ·obtain⟨ws,b,d,rfl,Wh⟩:=hP
   obtain⟨hj,rfl⟩:=cz hy
   have wl:=Wh.ln
   have d512:dW (.int (gt l k)) (.int 512)=.ok (.int (gt l k / 512)):=fB (by decide) (by decide)
   have d8192:dW (.int (gt l k)) (.int 8192)=.ok (.int (gt l k / 8192)):=fB (by decide) (by decide)
   refine⟨_,cE rfl,?_⟩
   simp only[s0_,s1_,Int.zero_add]
   obtain⟨m,hm⟩:∃m:Bool,tY (mOp pEq (mOp bP (ac 1) (mC (.int (7)))) (mC (.int (3)))) ((j5 (mOp pEq (mOp bP (mOp aG (mOp dW (mOp aK (ac 2) (ac 4)) (mC (.int (512)))) (ac 6)) (ac 0)) (mC (.int (1)))) (mOp pEq (mOp bP (mOp dW (mOp aK (ac 2) (ac 4)) (mC (.int (8192)))) (mC (.int (3)))) (mC (.int (0)))))) [some (.int n),some (.int c),some (.lst .own (iL l)),some (.lst .own (iL od)),some (.int k),some (.lst .own (prL ws)),some (.int j),d]=.ok (.bl m):=by
    refine⟨decide (c % 7=3) ||(decide ((gt l k / 512+(j:Int)) % n=1)&&decide (gt l k / 8192 % 3=0)),?_⟩
    by_cases h7:c % 7=3
    ·simp[bp,h7,pOr]
    ·by_cases h8:(gt l k / 512+(j:Int)) % n=1
     ·simp[bp,bp np,h7,pOr,gl _ k hk,d512,d8192,h8,vy]
     ·simp[bp,bp np,h7,pOr,gl _ k hk,d512,d8192,h8,vy]
   refine cA (aA (v:=.bl m) hm (by simp) rfl) ?_
   simp only[s0_,s1_]
   by_cases hc:m=true/\((j:Int),(k:Int))∉ ws/\((k:Int),(j:Int))∉ ws
   ·obtain⟨c1,c2,c3⟩:=hc
    refine l7 (by simp[mR,c1,c2,c3]) (bx (dQ (v:=prV ((j:Int),(k:Int))) (xs:=prL ws) (by simp;rfl) rfl (by simp) (by rw[kh];omega)) ⟨ws++[((j:Int),(k:Int))],some (.int j),some (.bl m),by simp[prL],?_⟩)
    rw[<- rL]
    exact Wh.more ⟨by omega,by omega⟩ ⟨by omega,by omega⟩ (by omega) c2 c3
   ·refine l8 ?_ (bx az ⟨ws,some (.int j),some (.bl m),rfl,Wh.keep⟩)
    by_cases c1:m=true
    ·by_cases c2:((j:Int),(k:Int))∈ ws
     ·simp[mR,c1,c2]
     ·have c3:((k:Int),(j:Int))∈ ws:=by
       by_cases q:((k:Int),(j:Int))∈ ws
       ·exact q
       ·exact absurd ⟨c1,c2,q⟩ hc
      simp[mR,c1,c2,c3]
    ·simp[c1]
  ·obtain⟨ws,b,d,rfl,Wh⟩:=hP
   rw[aW]at Wh
   exact⟨ws,_,_,_,rfl,by rw[show 10+tri (k+1)=10+tri k+k by simp[tri];omega];exact Wh⟩
 ·obtain⟨ws,a,b,d,rfl,Wh⟩:=hP
  rw[aW]at Wh
  have tn:=t10 n n2
  exact dG (ef rfl) ⟨ws,rfl,⟨Wh.rg,Wh.nd,by have:=Wh.ln;omega,Wh.cn⟩⟩
def oV:Option Int->PV
 | none=>.non
 | some s=>.int s
def oL(os:List (Option Int)):List PV:=os.map oV
@[simp] theorem GO(os:List (Option Int)):(oL os).length=os.length:=by simp[oL]
@[simp] theorem GP:hasL p (oL os)=false:=by
 induction os with
 | nil=>rfl
 | cons o os ih=>cases o<;>simpa[oL,oV,hasL,PV.has]using ih
@[simp] theorem GN:mapL g (oL os)=oL os:=by
 induction os with
 | nil=>rfl
 | cons o os ih=>cases o<;>simpa[oL,oV,mapL,PV.mapF]using ih
@[simp] theorem GR:PyData.canLayAll0 (dataL (oL os))=true:=by
 induction os with
 | nil=>rfl
 | cons o os ih=>cases o <;>(simp only[oL,List.map_cons,oV,dataL,PV.data,PyData.canLayAll0]at ih ⊢;rw[ih];rfl)
@[simp] theorem GQ:PyData.depthAll (dataL (oL os))=0:=by
 induction os with
 | nil=>rfl
 | cons o os ih=>cases o <;>(simp only[oL,List.map_cons,oV,dataL,PV.data,PyData.depthAll]at ih ⊢;rw[ih];rfl)
def OkS(tp:Int)(os:List (Option Int)):Prop:=∀s,some s∈os->0<=s/\s < tp
def Fc(f:Fl):Prop:=f=.bor\/f=.frz
theorem Fc.le(h:Fc f):f.lend=f:=by rcases h with rfl | rfl<;>rfl
theorem Fc.tb(h:Fc f):f.toBor=f:=by rcases h with rfl | rfl<;>rfl
theorem Fc.bo(h:Fc f):f.borrow=f:=by rcases h with rfl | rfl<;>rfl
theorem Fc.nl(h:Fc f):f.isLnt=false:=by rcases h with rfl | rfl<;>rfl
theorem Fc.of(h:Fc f\/f=.own):Fc f.borrow:=by
 rcases h with(rfl | rfl) | rfl
 ·exact .inl rfl
 ·exact .inr rfl
 ·exact .inl rfl
theorem iR(hk:k < n):sw [net .frz n ps,.int k]=.ok (.lst .own (iL (nbL ps k))):=by
 refine aw (v:=.lst .own (iL (nbL ps k))) ?_
 show pQ [some (net .frz n ps),some (.int k)]=_
 unfold pQ
 refine aZ ?_ (by simp)
 have e:aK (.tup ((List.range n).map fun k:Nat=>PV.tup (iL (nbL ps k)))) (.int k)=.ok (.tup (iL (nbL ps k))):=by
  have hk':((List.range n).map fun k:Nat=>PV.tup (iL (nbL ps k)))[k]?=some (.tup (iL (nbL ps k))):=by simp[hk]
  exact jN rfl hk' (by simp[PV.has])
 simp[ao,aV,p1,iw,e,aQ]
abbrev pnt(fl:Fl)(n:Nat)(ps:List (Int×Int)):PV:=.obj fl 2 [4,0,7,8] [net .frz n ps,.int n,.int n,.bl false]
theorem sS:fK [.obj .own 2 [4] [net .frz n ps],.int n,.int n,.bl false]=.ok (pnt .own n ps):=by
 refine cu (e:=[some (pnt .own n ps),some (.int n),some (.int n),some (.bl false)]) ?_ rfl
 show hG [some (.obj .own 2 [4] [net .frz n ps]),some (.int n),some (.int n),some (.bl false)]=_
 unfold hG
 refine ag (bz (v:=.int n) (ks:=[4]) (vs:=[net .frz n ps]) (by simp) rfl (by simp) rfl (by decide)) ?_
 refine ag (bz (v:=.int n) (ks:=[4,0]) (vs:=[net .frz n ps,.int n]) (by simp) rfl (by simp) rfl (by decide)) ?_
 exact bz (v:=.bl false) (ks:=[4,0,7]) (vs:=[net .frz n ps,.int n,.int n]) (by simp) rfl (by simp) rfl (by decide)
theorem ui:qP [.obj .own 2 [4] [net .frz n ps],.int n,.int n]=.ok (pnt .own n ps):=by
 refine cu (e:=[some (pnt .own n ps),some (.int n),some (.int n)]) ?_ rfl
 show xi [some (.obj .own 2 [4] [net .frz n ps]),some (.int n),some (.int n)]=_
 unfold xi
 exact fP (xs:=[.int n,.int n,.bl false]) rfl (by simp) (by simp) (by simpa using sS (n:=n) (ps:=ps)) (by simp[PV.has])
theorem tj:Cr [.obj .own 2 [] [],net .own n ps]=.ok (pnt .own n ps):=by
 refine cu (e:=[some (pnt .own n ps),some (net .frz n ps)]) ?_ rfl
 show C7 [some (.obj .own 2 [] []),some (net .own n ps)]=_
 unfold C7
 refine ag (eC (v:=net .own n ps) rfl) ?_
 simp only[s0_,s1_]
 refine ag (bz (v:=net .frz n ps) (ks:=[]) (vs:=[]) (by simp[PV.mapF,Fl.freeze]) rfl (by simp[PV.noLnt,PV.has]) rfl (by decide)) ?_
 simp only[s0_,s1_]
 have:=fP (env:=[some (.obj .own 2 [4] [net .frz n ps]),some (net .frz n ps)]) (m:=qP) (ms:=ae (mUn (ao 0) (ac 1)) (ae (mUn (ao 0) (ac 1)) am)) (xs:=[.int n,.int n]) rfl (by simp[ao,aV]) (by simp) (by simpa using ui (n:=n) (ps:=ps)) (by simp[PV.has])
 simpa[PV.mapF,Fl.freeze]using this
def kR(ps:List (Int×Int))(i:Nat):List Int:=(nbL ps i).filter fun x=>decide (x <(i:Int))
theorem wn(hi:i < n)(hl:(nbL ps i).length<=1000):Cy [pnt .bor n ps,.int i]=.ok (.lst .own (iL (kR ps i))):=by
 refine aw ?_
 show Dg [some (pnt .bor n ps),some (.int i)]=_
 unfold Dg kR
 have be:=iR (ps:=ps) hi
 refine aZ ?_ (by simp)
 have:=e_ (env:=bB [1] 1 [some (pnt .bor n ps),some (.int i)]) (g:=tgN 1) (mc:=av (mOp pLt (ac 1) (ac 0))) (me:=ac 1) (fun x=>decide (x <(i:Int))) (fun x=>x) (nbL ps i) fun x hx=>⟨[some (.int i),some (.int x)],by simp[tgN,aL,bB],by simp,fun _=>by simp⟩
 rw[List.map_id']at this
 exact aM (xs:=iL (nbL ps i)) (by simp[ao,aV,bE,be,aB]) (by rw[aU];omega) this
def jH(l:List Int):Nat:=((List.range (l.length+1)).find? fun j:Nat=>!l.contains (j:Int)).getD 0
theorem oY(l:List Int):((jH l:Nat):Int)∉ l/\∀j,j < jH l->(j:Int)∈ l:=by
 have ex:∃j,j < l.length+1/\(j:Int)∉ l:=by
  apply Classical.byContradiction
  intro no
  have h:=oT (l:=(List.range (l.length+1)).map fun k:Nat=>(k:Int)) (l':=l) (List.Pairwise.map _ (fun a b h e=>h (by omega)) List.nodup_range) fun x hx=>by
   obtain⟨k,hk,rfl⟩:=List.mem_map.mp hx
   exact Classical.byContradiction fun z=>no ⟨k,List.mem_range.mp hk,z⟩
  simp at h
  omega
 unfold jH
 cases e:(List.range (l.length+1)).find? fun j:Nat=>!l.contains (j:Int)with
 | none =>
  exfalso
  obtain⟨j,h1,h2⟩:=ex
  have:=List.find?_eq_none.mp e j (List.mem_range.mpr h1)
  simp at this
  exact h2 this
 | some m =>
  simp only[Option.getD_some]
  have h1:=List.find?_some e
  refine⟨by simpa using h1,fun j hj=>?_⟩
  have h2:=(List.find?_range_eq_some.mp e).2.2 j hj
  simpa using h2
theorem v4{L':List Int}(h:∀x∈l,x∈L'):jH l<=L'.length:=by
 have:=oT (l:=(List.range (jH l)).map fun k:Nat=>(k:Int)) (l':=L') (List.Pairwise.map _ (fun a b h e=>h (by omega)) List.nodup_range) fun x hx=>by
  obtain⟨k,hk,rfl⟩:=List.mem_map.mp hx
  exact h _ ((oY l).2 k (List.mem_range.mp hk))
 simpa using this
def k6(ps:List (Int×Int))(cs:List Int)(i:Nat):Int:=jH ((kR ps i).map fun o=>gt cs o.toNat)
theorem nD(rg:∀x∈ps,0<=x.1/\x.1 < n/\0<=x.2/\x.2 < n/\x.1≠x.2){o:Int}(h:o∈kR ps i):0<=o/\o < n/\o < i/\((o,(i:Int))∈ ps \/((i:Int),o)∈ ps):=by
 obtain⟨h1,h2⟩:=List.mem_filter.mp h
 have h3:=nA.mp h1
 simp only[decide_eq_true_eq]at h2
 rcases h3 with z | z
 ·have:=rg _ z
  exact⟨this.1,this.2.1,h2,.inl z⟩
 ·have:=rg _ z
  exact⟨this.2.2.1,this.2.2.2.1,h2,.inr z⟩
theorem zV(rg:∀x∈ps,0<=x.1/\x.1 < n/\0<=x.2/\x.2 < n/\x.1≠x.2)(hi:i < n):0<=k6 ps cs i/\k6 ps cs i < n:=by
 unfold k6
 have:=v4 (l:=(kR ps i).map fun o=>gt cs o.toNat) (L':=(List.range i).map fun k=>gt cs k) fun x hx=>by
  obtain⟨o,ho,rfl⟩:=List.mem_map.mp hx
  have:=nD rg ho
  exact List.mem_map.mpr ⟨o.toNat,List.mem_range.mpr (by omega),rfl⟩
 simp at this
 omega
theorem wX{cs':List Int}(rg:∀x∈ps,0<=x.1/\x.1 < n/\0<=x.2/\x.2 < n/\x.1≠x.2)(h:∀j,j < i->gt cs j=gt cs' j):k6 ps cs i=k6 ps cs' i:=by
 unfold k6
 congr 2
 refine List.map_congr_left fun o ho=>?_
 have:=nD rg ho
 exact h _ (by omega)
theorem yg(rg:∀x∈ps,0<=x.1/\x.1 < n/\0<=x.2/\x.2 < n/\x.1≠x.2)(hfc:Fc fc)(hl:∀i,(nbL ps i).length<=1000)(hn:cs.length=n)(hi:i < n):wQ [pnt .bor n ps,.lst fc (iL cs),.int i]=.ok (.int (k6 ps cs i)):=by
 refine aw ?_
 show xV [some (pnt .bor n ps),some (.lst fc (iL cs)),some (.int i),none,none]=_
 unfold xV k6
 have ha:=wn (ps:=ps) hi (hl i)
 have ll:(kR ps i).length<=1000:=Nat.le_trans (List.length_filter_le _ _) (hl i)
 refine ag (aA (v:=.lst .own (iL ((kR ps i).map fun o=>gt cs o.toNat))) ?_ (by simp) rfl) ?_
 ·refine aM (xs:=iL (kR ps i)) (by simp[bA,ha,aB]) (by rw[aU];omega) (dO (fun o=>gt cs o.toNat) (kR ps i) fun o ho=>⟨[some (.lst fc (iL cs)),some (.int o)],by simp[tgN,aL,bB,hfc.bo],?_⟩)
  have:=nD rg ho
  simp[hfc.le,b9 (f:=fc) (cs:=cs) (i:=o) this.1 (by omega)]
 simp only[s0_,s1_]
 have tkl:((kR ps i).map fun o=>gt cs o.toNat).length<=1000:=by rw[List.length_map];exact ll
 generalize(kR ps i).map (fun o=>gt cs o.toNat)=tk at *
 obtain⟨m1,m2⟩:=oY tk
 refine ag (aA (v:=.int 0) (by simp) (by simp) rfl) ?_
 simp only[s0_,s1_]
 have mb:jH tk < 100000:=by
  have:=v4 (l:=tk) (L':=tk) fun x hx=>hx
  omega
 refine sP (Fin:=fun e=>e=[some (pnt .bor n ps),some (.lst fc (iL cs)),some (.int i),some (.lst .own (iL tk)),some (.int (jH tk))]) (fun m e=>∃c:Nat,e=[some (pnt .bor n ps),some (.lst fc (iL cs)),some (.int i),some (.lst .own (iL tk)),some (.int c)]/\m=jH tk - c/\c<=jH tk) (jH tk) mb ⟨0,rfl,by omega,by omega⟩ (fun m e hP=>?_) fun e hF=>?_
 ·obtain⟨c,rfl,rfl,hc⟩:=hP
  by_cases q:c=jH tk
  ·subst q
   exact .inl ⟨by simp;exact m1,rfl⟩
  ·have:=m2 c (by omega)
   exact .inr ⟨by simp;exact this,jH tk - (c+1),[some (pnt .bor n ps),some (.lst fc (iL cs)),some (.int i),some (.lst .own (iL tk)),some (.int (c+1:Nat))],by omega,.inl (aA (v:=.int ((c+1:Nat):Int)) (by simp) (by simp) rfl),c+1,rfl,rfl,by omega⟩
 ·subst hF
  exact ef rfl
abbrev lea(fl:Fl)(c:Nat)(n:Nat)(ps:List (Int×Int))(os:List (Option Int))(st tp:Int):PV:=.obj fl c [3,4,5,6,0,7,8] [.int tp,net .frz n ps,.tup (oL os),.int st,.int n,.int (tp+1),.bl true]
theorem rQ(h1:1<=x)(h2:x<=10):sx [.int x]=.ok .non:=by
 refine fE ⟨[some (.int x)],?_⟩
 show xK [some (.int x)]=_
 unfold xK
 exact bL (by simp[show ¬x < 1 by omega,show ¬10 < x by omega]) az
theorem qi{gf:Fl}(hg:gf=.bor\/gf=.frz)(hf:f=.bor\/f=.frz)(hn:os.length=n)(ho:OkS tp os):wO [net gf n ps,.lst f (oL os),.int tp]=.ok .non:=by
 have hf1:f.lend=f:=by rcases hf with rfl | rfl<;>rfl
 have hf2:f.isLnt=false:=by rcases hf with rfl | rfl<;>rfl
 have hg1:gf.lend=gf:=by rcases hg with rfl | rfl<;>rfl
 refine fE ?_
 show Ends (xS [some (net gf n ps),some (.lst f (oL os)),some (.int tp),none])
 unfold xS
 refine gZ (bL (by simp[hf1,hg1,p1,b_,aQ,ao,aV,hn]) az) ?_
 refine kj (fun _ e=>∃x,e=[some (net gf n ps),some (.lst f (oL os)),some (.int tp),x]) (fun r=>∃e,r=.next e) (xs:=oL os) (eP (f:=f) (by simp[hf1]) hf2 (by simp) (by simp)) ⟨_,rfl⟩ (fun k x e hx hP=>?_) (fun e hP=>⟨e,rfl⟩)
 obtain⟨y,rfl⟩:=hP
 simp only[oL,List.getElem?_map]at hx
 obtain⟨o,ho1,rfl⟩:=Option.map_eq_some_iff.mp hx
 refine⟨_,cE rfl,.inl ⟨_,.inl (bL ?_ az),_,rfl⟩⟩
 cases o with
 | none=>simp[oV,iu,PV.isNon]
 | some s =>
  have:=ho s (List.mem_of_getElem? ho1)
  simp[oV,iu,PV.isNon,show ¬s < 0 by omega,show ¬tp<=s by omega]
theorem sT:fK [.obj .own cc [3,4,5,6] [.int tp,net .frz n ps,.tup (oL os),.int st],.int n,.int (tp+1),.bl true]=.ok (lea .own cc n ps os st tp):=by
 refine cu (e:=[some (lea .own cc n ps os st tp),some (.int n),some (.int (tp+1)),some (.bl true)]) ?_ rfl
 show hG [some (.obj .own cc [3,4,5,6] [.int tp,net .frz n ps,.tup (oL os),.int st]),some (.int n),some (.int (tp+1)),some (.bl true)]=_
 unfold hG
 refine ag (bz (v:=.int n) (ks:=[3,4,5,6]) (vs:=[.int tp,net .frz n ps,.tup (oL os),.int st]) (by simp) rfl (by simp) rfl (by decide)) ?_
 refine ag (bz (v:=.int (tp+1)) (ks:=[3,4,5,6,0]) (vs:=[.int tp,net .frz n ps,.tup (oL os),.int st,.int n]) (by simp) rfl (by simp) rfl (by decide)) ?_
 exact bz (v:=.bl true) (ks:=[3,4,5,6,0,7]) (vs:=[.int tp,net .frz n ps,.tup (oL os),.int st,.int n,.int (tp+1)]) (by simp) rfl (by simp) rfl (by decide)
theorem o5{bk:Int}(hf:f.lend.toBor=.bor\/f.lend.toBor=.frz)(h1:1<=st)(h2:st<=10)(h3:1<=bk)(h4:bk<=10)(hn:os.length=n)(ho:OkS (st * bk) os):ud [.obj .own cc [] [],net .frz n ps,.lst f (oL os),.int st,.int bk]=.ok (lea .own cc n ps os st (st * bk)):=by
 refine cu (e:=[some (lea .own cc n ps os st (st * bk)),some (net .frz n ps),some (.lst f (oL os)),some (.int st),some (.int bk)]) ?_ rfl
 show C0 [some (.obj .own cc [] []),some (net .frz n ps),some (.lst f (oL os)),some (.int st),some (.int bk)]=_
 unfold C0
 have r1:=rQ h1 h2
 have r2:=rQ h3 h4
 have r3:=qi (ps:=ps) (gf:=.frz) (.inr rfl) hf hn ho
 have mu:b8 (.int st) (.int bk)=.ok (.int (st * bk)):=cU (.inl ⟨by omega,by omega⟩)
 generalize st * bk=tp at *
 refine ag (gd (v:=.non) (by simp[r1,aB])) ?_
 refine ag (gd (v:=.non) (by simp[r2,aB])) ?_
 refine ag (bz (v:=.int tp) (ks:=[]) (vs:=[]) (by simp[mu]) rfl (by simp) rfl (by decide)) ?_
 simp only[s0_,s1_]
 refine ag (gd (v:=.non) (by simp[ao,aV,r3,aB])) ?_
 refine ag (eC (v:=net .frz n ps) rfl) ?_
 simp only[s0_,s1_]
 refine ag (bz (v:=net .frz n ps) (ks:=[3]) (vs:=[.int tp]) (by simp[PV.mapF,Fl.freeze]) rfl (by simp[PV.noLnt,PV.has]) rfl (by decide)) ?_
 simp only[s0_,s1_]
 refine ag (bz (v:=.tup (oL os)) (ks:=[3,4]) (vs:=[.int tp,net .frz n ps]) (by simp[p1,dI,aQ]) rfl (by simp[PV.noLnt,PV.has]) rfl (by decide)) ?_
 simp only[s0_,s1_]
 refine ag (bz (v:=.int st) (ks:=[3,4,5]) (vs:=[.int tp,net .frz n ps,.tup (oL os)]) (by simp) rfl (by simp) rfl (by decide)) ?_
 simp only[s0_,s1_]
 have:=fP (env:=[some (.obj .own cc [3,4,5,6] [.int tp,net .frz n ps,.tup (oL os),.int st]),some (net .frz n ps),some (.lst f (oL os)),some (.int st),some (.int bk)]) (m:=fK) (ms:=ae (mUn (ao 0) (ac 1)) (ae (mOp aG (mUn (ao 3) (ac 0)) (mC (.int (1)))) (ae (mC (.bl true)) am))) (xs:=[.int n,.int (tp+1),.bl true]) rfl (by simp[ao,aV]) (by simp) (by simpa using sT (cc:=cc) (n:=n) (ps:=ps) (os:=os) (st:=st) (tp:=tp)) (by simp[PV.has])
 simpa[PV.mapF,Fl.freeze]using this
def rT(st tp c:Int):Bool:=decide (c≠tp)&&decide ((c+1) % st≠0)
def gy(ps:List (Int×Int))(st tp:Int)(cs:List Int)(i:Nat):List Int:=(((nbL ps i).map fun o=>gt cs o.toNat).filter (rT st tp)).map (· + 1)
def f_(ps:List (Int×Int))(os:List (Option Int))(st tp:Int)(cs:List Int)(i:Nat):Int:=eX (gy ps st tp cs i ++(os.getD i none).toList++[tp])
theorem rN(h:l≠[]):fH eX (.lst f (iL l))=.ok (.int (eX l)):=by
 unfold fH
 simp only[aQ,ii]
 rw[if_neg (by simpa using h)]
theorem vL(hs:0 < st):ue [lea .bor cc n ps os st tp,.int c]=.ok (.bl (rT st tp c)):=by
 refine aw ?_
 show Dh [some (lea .bor cc n ps os st tp),some (.int c)]=_
 unfold Dh rT
 refine aZ ?_ (by simp)
 by_cases h:c=tp
 ·simp[ao,aV,h]
 ·simp[ao,aV,h,bp hs]
theorem o6(hfc:Fc fc)(hcc:cV cc=some ue)(hnb:∀x∈nbL ps i,0<=x/\x < n)(hl:(nbL ps i).length<=1000)(hs:0 < st)(hn:cs.length=n)(ho:os.length=n)(hi:i < n):mt [lea .bor cc n ps os st tp,.lst fc (iL cs),.int i]=.ok (.int (f_ ps os st tp cs i)):=by
 refine aw ?_
 show xT [some (lea .bor cc n ps os st tp),some (.lst fc (iL cs)),some (.int i),none,none]=_
 unfold xT
 have e3:=hfc.bo
 have be:=iR (ps:=ps) hi
 have l1:((nbL ps i).map fun o=>gt cs o.toNat).length<=1000:=by simpa using hl
 refine ag (aA (v:=.lst .own (iL ((nbL ps i).map fun o=>gt cs o.toNat))) ?_ (by simp) rfl) ?_
 ·refine aM (xs:=iL (nbL ps i)) (by simp[ao,aV,bE,be,aB]) (by rw[aU];omega) (dO (fun o=>gt cs o.toNat) _ fun x hx=>⟨[some (.lst fc (iL cs)),some (.int x)],by simp[tgN,aL,bB,e3],?_⟩)
  obtain⟨h1,h2⟩:=hnb x hx
  simp[hfc.le,b9 (f:=fc) (cs:=cs) (i:=x) (by omega) (by omega)]
 simp only[s0_,s1_]
 have l2:(gy ps st tp cs i).length<=1000:=by
  unfold gy
  rw[List.length_map]
  exact Nat.le_trans (List.length_filter_le _ _) l1
 refine ag (aA (v:=.lst .own (iL (gy ps st tp cs i))) ?_ (by simp) rfl) ?_
 ·unfold gy
  exact aM (xs:=iL ((nbL ps i).map fun o=>gt cs o.toNat)) (by simp) (by rw[aU];omega) (e_ (rT st tp) (· + 1) _ fun x hx=>⟨[some (lea .bor cc n ps os st tp),some (.int x)],by simp[tgN,aL,bB],by simp[hcc,vL hs,aB],fun _=>by simp⟩)
 simp only[s0_,s1_]
 have hio:i < os.length:=by omega
 have ix:aK (.tup (oL os)) (.int (i:Int))=.ok (oV os[i]):=jN rfl (by simp[oL,hio]) (by cases os[i]<;>rfl)
 have eg:os.getD i none=os[i]:=by simp[hio]
 unfold f_
 rw[eg]
 generalize os[i]=o at *
 generalize gy ps st tp cs i=of at *
 cases o with
 | none =>
  refine ag (bL (by simp[ao,aV,ix,oV,iu,PV.isNon]) az) (aZ ?_ (by simp))
  have pl:aG (.lst .lnt (iL of)) (.lst .own [.int tp])=.ok (.lst .own (iL (of++[tp]))):=by
   rw[gJ (by decide) (by decide) (by simp;omega)]
   simp[iL]
  simp[ao,aV,pl,p1,rN (l:=of++[tp]) (by simp)]
 | some s =>
  refine ag (im (by simp[ao,aV,ix,oV,iu,PV.isNon]) (dQ (v:=.int s) (xs:=iL of) (by simp[ao,aV,ix,oV]) rfl (by simp) (by rw[aU];omega))) ?_
  simp only[s0_,s1_]
  rw[show iL of++[PV.int s]=iL (of++[s]) by simp[iL]]
  refine aZ ?_ (by simp)
  have pl:aG (.lst .lnt (iL (of++[s]))) (.lst .own [.int tp])=.ok (.lst .own (iL (of++[s]++ [tp]))):=by
   rw[gJ (by decide) (by decide) (by simp;omega)]
   simp[iL]
  have pm:=rN (f:=.own) (l:=of++[s]++ [tp]) (by simp)
  show _=Res.ok (PV.int (eX (of++[s]++ [tp])))
  generalize of++[s]=of2 at *
  simp[ao,aV,pl,p1]
  exact pm
def fs(n r:Nat):List (Option Int):=(List.range n).map fun i=>if i=r then some 0 else none
theorem Fo:oL (fs n r)=(List.range n).map fun i=>oV (if i=r then some 0 else none):=by simp[oL,fs]
theorem pf(hf:f=.frz\/f=.own)(n1:1<=n)(n10:n<=10)(hr:r < n):sy [.obj .own 5 [] [],net f n ps,.int r]=.ok (lea .own 5 n ps (fs n r) n n):=by
 refine cu (e:=[some (lea .own 5 n ps (fs n r) n n),some (net .frz n ps),some (.int r),some (.lst .frz (oL (fs n r)))]) ?_ rfl
 show xO [some (.obj .own 5 [] []),some (net f n ps),some (.int r),none]=_
 unfold xO
 refine ag (bL (by simp[ao,aV,show ¬(r:Int) < 0 by omega,show ¬(n:Int)<= r by omega]) az) ?_
 refine ag (aA (v:=.lst .own (oL (fs n r))) ?_ (by simp[PV.noLnt,PV.has]) rfl) ?_
 ·refine aM (xs:=b5 0 n) (bv (n:=n) (by simp[ao,aV]) (by omega)) (by rw[aW];omega) ?_
  rw[Fo]
  refine a6 (a:=fun k:Nat=>PV.int (0+(k:Int))) (f:=fun i=>oV (if i=r then some 0 else none)) (List.range n) fun k hk=>⟨[some (.int r),some (.int (0+k))],by simp[tgN,aL,bB],?_,?_,?_⟩
  ·by_cases e:k=r
   ·simp[e,oV]
   ·simp[e,oV,show ¬(k:Int)=r by omega]
  ·by_cases e:k=r<;>simp[e,oV,PV.has]
  ·by_cases e:k=r<;>simp[e,oV,PV.has]
 simp only[s0_,s1_]
 refine ag (eC (v:=.lst .own (oL (fs n r))) rfl) ?_
 simp only[s0_,s1_]
 refine ag (eC (v:=net f n ps) rfl) ?_
 have efz:(net f n ps).mapF Fl.freeze=net .frz n ps:=by rcases hf with rfl | rfl<;>simp[PV.mapF,Fl.freeze]
 simp only[s0_,s1_,efz]
 have li:=o5 (cc:=5) (n:=n) (ps:=ps) (os:=fs n r) (st:=n) (bk:=1) (f:=.frz) (.inr rfl) (by omega) (by omega) (by decide) (by decide) (by simp [fs]) (fun s hs=>by
  simp only[fs,List.mem_map,List.mem_range]at hs
  obtain⟨i,_,e⟩:=hs
  split at e
  ·cases e;omega
  ·cases e)
 rw[Int.mul_one]at li
 have:=fP (env:=[some (.obj .own 5 [] []),some (net .frz n ps),some (.int r),some (.lst .frz (oL (fs n r)))]) (m:=ud) (ms:=ae (ac 1) (ae (ac 3) (ae (mUn (ao 0) (ac 1)) (ae (mC (.int (1))) am)))) (xs:=[net .frz n ps,.lst .frz (oL (fs n r)),.int n,.int 1]) rfl (by simp[ao,aV,Fl.lend]) (by simp[PV.has]) (by simpa[Fl.toBor]using li) (by simp[PV.has])
 simpa[PV.mapF,Fl.freeze]using this
structure OkM(n:Nat)(ms:List Int):Prop where
 ml:ms.length=n
 nd:ms.Nodup
 mr:∀x∈ms,0<=x/\x<=9
def ls(n:Nat)(ms:List Int):List (Option Int):=ms.map fun x=>some ((9 - x) * n)
theorem vP(N:OkM n ms)(n10:n<=10):wI [net .frz n ps,.lst .bor (iL ms)]=.ok .non:=by
 have lu:=N.ml
 refine fE ?_
 show Ends (xL [some (net .frz n ps),some (.lst .bor (iL ms)),none])
 unfold xL
 refine gZ (bL (by simp[p1,b_,aQ,ao,aV,lu,Fl.lend]) az) ?_
 refine gZ (bL (by simp[p1,b_,aQ,lY (show ms.length<=1000 by omega),pH N.nd,Fl.lend]) az) ?_
 refine kj (fun _ e=>∃x,e=[some (net .frz n ps),some (.lst .bor (iL ms)),x]) (fun r=>∃e,r=.next e) (xs:=iL ms) (eP (f:=.bor) (by simp[Fl.lend]) rfl (by simp) (by simp)) ⟨_,rfl⟩ (fun k x e hx hP=>?_) (fun e hP=>⟨e,rfl⟩)
 obtain⟨y,rfl⟩:=hP
 obtain⟨z,hz,rfl⟩:=nK hx
 have:=N.mr z (List.mem_of_getElem? hz)
 refine⟨_,cE rfl,.inl ⟨_,.inl (bL ?_ az),_,rfl⟩⟩
 simp[show ¬z < 0 by omega,show ¬(9:Int) < z by omega]
theorem t7{fm:Fl}(hf:fm=.bor\/fm=.own)(N:OkM n ms)(n1:1<=n)(n10:n<=10):wM [.obj .own 6 [] [],net .own n ps,.lst fm (iL ms)]=.ok (lea .own 6 n ps (ls n ms) n (10 * n)):=by
 refine cu (e:=[some (lea .own 6 n ps (ls n ms) n (10 * n)),some (net .frz n ps),some (.lst fm (iL ms)),some (.lst .frz (oL (ls n ms)))]) ?_ rfl
 show xQ [some (.obj .own 6 [] []),some (net .own n ps),some (.lst fm (iL ms)),none]=_
 unfold xQ
 have e1:fm.lend.toBor=.bor:=by rcases hf with rfl | rfl<;>rfl
 have rn:=vP (ps:=ps) N n10
 refine ag (eC (v:=net .own n ps) rfl) ?_
 have efz:(net .own n ps).mapF Fl.freeze=net .frz n ps:=by simp[PV.mapF,Fl.freeze]
 simp only[s0_,s1_,efz]
 refine ag (gd (v:=.non) (by simp[e1,rn,aB,PV.mapF])) ?_
 have eL:oL (ls n ms)=iL (ms.map fun x=>(9 - x) * n):=by simp[oL,ls,iL,oV]
 refine ag (aA (v:=.lst .own (oL (ls n ms))) ?_ (by simp[PV.noLnt,PV.has]) rfl) ?_
 ·rw[eL]
  refine aM (xs:=iL ms) (by simp) (by rw[aU,N.ml];omega) (dO (fun x=>(9 - x) * n) ms fun x hx=>⟨[some (net .frz n ps),some (.int x)],by simp[tgN,aL,bB,PV.borrow,Fl.borrow,PV.mapF],?_⟩)
  have m:b8 (.int (9 - x)) (.int (n:Int))=.ok (.int ((9 - x) * n)):=cU (.inr ⟨by omega,by omega⟩)
  simp[ao,aV,m]
 simp only[s0_,s1_]
 refine ag (eC (v:=.lst .own (oL (ls n ms))) rfl) ?_
 simp only[s0_,s1_]
 have li:=o5 (cc:=6) (n:=n) (ps:=ps) (os:=ls n ms) (st:=n) (bk:=10) (f:=.frz) (.inr rfl) (by omega) (by omega) (by decide) (by decide) (by simp [ls,N.ml]) (fun s hs=>by
  simp only[ls,List.mem_map]at hs
  obtain⟨x,hx,e⟩:=hs
  have:=N.mr x hx
  cases e
  have h1:0 <=(9 - x) * (n:Int):=Int.mul_nonneg (by omega) (by omega)
  have h2:(9 - x) * (n:Int)<= 9 * n:=Int.mul_le_mul_of_nonneg_right (by omega) (by omega)
  omega)
 rw[Int.mul_comm (n:Int) 10]at li
 have:=fP (env:=[some (.obj .own 6 [] []),some (net .frz n ps),some (.lst fm (iL ms)),some (.lst .frz (oL (ls n ms)))]) (m:=ud) (ms:=ae (ac 1) (ae (ac 3) (ae (mUn (ao 0) (ac 1)) (ae (mC (.int (10))) am)))) (xs:=[net .frz n ps,.lst .frz (oL (ls n ms)),.int n,.int 10]) rfl (by simp[ao,aV,Fl.lend]) (by simp[PV.has]) (by simpa[Fl.toBor]using li) (by simp[PV.has])
 simpa[PV.mapF,Fl.freeze]using this
abbrev gro(fl:Fl)(n:Nat)(ps:List (Int×Int))(r:Nat):PV:=.obj fl 7 [9,4,10,0,7,8] [lea fl 5 n ps (fs n r) n n,net .frz n ps,.int r,.int n,.int (((n:Int)+1) * ((n:Int)+1)),.bl true]
theorem sU:fK [.obj .own 7 [9,4,10] [lea .own 5 n ps (fs n r) n n,net .frz n ps,.int r],.int n,.int (((n:Int)+1) * ((n:Int)+1)),.bl true]=.ok (gro .own n ps r):=by
 refine cu (e:=[some (gro .own n ps r),some (.int n),some (.int (((n:Int)+1) * ((n:Int)+1))),some (.bl true)]) ?_ rfl
 show hG [some (.obj .own 7 [9,4,10] [lea .own 5 n ps (fs n r) n n,net .frz n ps,.int r]),some (.int n),some (.int (((n:Int)+1) * ((n:Int)+1))),some (.bl true)]=_
 unfold hG
 refine ag (bz (v:=.int n) (ks:=[9,4,10]) (vs:=[lea .own 5 n ps (fs n r) n n,net .frz n ps,.int r]) (by simp) rfl (by simp) rfl (by decide)) ?_
 refine ag (bz (v:=.int (((n:Int)+1) * ((n:Int)+1))) (ks:=[9,4,10,0]) (vs:=[lea .own 5 n ps (fs n r) n n,net .frz n ps,.int r,.int n]) (by simp) rfl (by simp) rfl (by decide)) ?_
 exact bz (v:=.bl true) (ks:=[9,4,10,0,7]) (vs:=[lea .own 5 n ps (fs n r) n n,net .frz n ps,.int r,.int n,.int (((n:Int)+1) * ((n:Int)+1))]) (by simp) rfl (by simp) rfl (by decide)
theorem wr(hf:f=.frz\/f=.own)(n1:1<=n)(n10:n<=10)(hr:r < n):wN [.obj .own 7 [] [],net f n ps,.int r]=.ok (gro .own n ps r):=by
 refine cu (e:=[some (gro .own n ps r),some (net .frz n ps),some (.int r)]) ?_ rfl
 show xR [some (.obj .own 7 [] []),some (net f n ps),some (.int r)]=_
 unfold xR
 have fi:=pf (f:=.frz) (ps:=ps) (.inl rfl) n1 n10 hr
 have mu:b8 (.int ((n:Int)+1)) (.int ((n:Int)+1))=.ok (.int (((n:Int)+1) * ((n:Int)+1))):=cU (.inl ⟨by omega,by omega⟩)
 have ri:=sU (n:=n) (ps:=ps) (r:=r)
 generalize((n:Int)+1) * ((n:Int)+1)=sq at mu ri
 refine ag (eC (v:=net f n ps) rfl) ?_
 have efz:(net f n ps).mapF Fl.freeze=net .frz n ps:=by rcases hf with rfl | rfl<;>simp[PV.mapF,Fl.freeze]
 simp only[s0_,s1_,efz]
 refine ag (bz (v:=lea .own 5 n ps (fs n r) n n) (ks:=[]) (vs:=[]) (by simp[fi,aB,PV.has,Fl.lend,Fl.toBor]) rfl (by simp[PV.noLnt,PV.has]) rfl (by decide)) ?_
 simp only[s0_,s1_]
 refine ag (bz (v:=net .frz n ps) (ks:=[9]) (vs:=[lea .own 5 n ps (fs n r) n n]) (by simp[PV.mapF,Fl.lend]) rfl (by simp[PV.noLnt,PV.has]) rfl (by decide)) ?_
 simp only[s0_,s1_]
 refine ag (bz (v:=.int r) (ks:=[9,4]) (vs:=[lea .own 5 n ps (fs n r) n n,net .frz n ps]) (by simp) rfl (by simp) rfl (by decide)) ?_
 simp only[s0_,s1_]
 have:=fP (env:=[some (.obj .own 7 [9,4,10] [lea .own 5 n ps (fs n r) n n,net .frz n ps,.int r]),some (net .frz n ps),some (.int r)]) (m:=fK) (ms:=ae (mUn (ao 0) (ac 1)) (ae (mOp b8 (mOp aG (mUn (ao 0) (ac 1)) (mC (.int (1)))) (mOp aG (mUn (ao 0) (ac 1)) (mC (.int (1))))) (ae (mC (.bl true)) am))) (xs:=[.int n,.int sq,.bl true]) rfl (by simp[ao,aV,mu]) (by simp) (by simpa using ri) (by simp[PV.has])
 simpa using this
def PT(n:Nat)(cs:List Int):List (Int×Int):=cs.map fun c=>(c / ((n:Int)+1),c % ((n:Int)+1))
def FA(n:Nat)(cs:List Int):List Int:=cs.map (· / ((n:Int)+1))
def CN(n:Nat)(cs:List Int):List Int:=cs.map (· % ((n:Int)+1))
@[simp] theorem Hh:(FA n cs).length=cs.length:=by simp[FA]
@[simp] theorem Do:(CN n cs).length=cs.length:=by simp[CN]
def nea(ps:List (Int×Int))(fa:List Int)(i:Nat):List Int:=(nbL ps i).filter fun o=>decide (gt fa o.toNat=gt fa i - 1)
def eld(ps:List (Int×Int))(r:Nat)(fa:List Int)(i:Nat):Option Int:=if i=r then none else if(nea ps fa i).isEmpty then none else some (eX (nea ps fa i))
def jJ(n:Nat)(ps:List (Int×Int))(r:Nat)(cs:List Int)(i:Nat):List Int:=((List.range n).filter fun j=>decide (eld ps r (FA n cs) j=some (i:Int))).map (gt (CN n cs))
def dcn(n:Nat)(ps:List (Int×Int))(r:Nat)(cs:List Int)(i:Nat):Int:=min (n:Int) (1+(jJ n ps r cs i).sum)
def ly(n:Nat)(ps:List (Int×Int))(r:Nat)(cs:List Int)(i:Nat):Int :=
 f_ ps (fs n r) n n (FA n cs) i * ((n:Int)+1)+(if f_ ps (fs n r) n n (FA n cs) i=gt (FA n cs) i then dcn n ps r cs i else gt (CN n cs) i)
theorem oJ(hfc:Fc fc)(n10:n<=10)(hn:cs.length=n):Cp [gro .bor n ps r,.lst fc (iL cs)]=.ok (.lst .own (prL (PT n cs))):=by
 refine aw ?_
 show C5 [some (gro .bor n ps r),some (.lst fc (iL cs))]=_
 unfold C5
 refine aZ ?_ (by simp[PV.noLnt,PV.has])
 have e4:fc≠.mod:=by rcases hfc with rfl | rfl<;>decide
 rw[show prL (PT n cs)=cs.map fun c=>prV (c / ((n:Int)+1),c % ((n:Int)+1)) by simp[prL,PT]]
 refine aM (xs:=iL cs) (by rcases hfc with rfl | rfl<;>simp) (by rw[aU];omega) (a6 (a:=PV.int) (f:=fun c=>prV (c / ((n:Int)+1),c % ((n:Int)+1))) cs fun c _=>⟨[some (gro .bor n ps r),some (.int c)],by simp[tgN,aL,bB,PV.mapF,Fl.borrow],?_,by simp,by simp⟩)
 have np:(0:Int) <(n:Int)+1:=by omega
 simp[ao,aV,bp np,fB np (show(n:Int)+1 < 1073741824 by omega),prV]
theorem nN(hfc:Fc fc)(n10:n<=10)(hn:cs.length=n):Ci [gro .bor n ps r,.lst fc (iL cs)]=.ok (.lst .own (iL (FA n cs))):=by
 refine aw ?_
 show CW [some (gro .bor n ps r),some (.lst fc (iL cs))]=_
 unfold CW
 refine aZ ?_ (by simp)
 have pt:=oJ (ps:=ps) (r:=r) hfc n10 hn
 rw[show iL (FA n cs)=(PT n cs).map fun x=>PV.int x.1 by simp[iL,FA,PT]]
 refine aM (xs:=prL (PT n cs)) (by rcases hfc with rfl | rfl<;>simp[d5,pt,aB,PV.has,Fl.lend,Fl.toBor,PV.mapF]) (by simp[PT];omega) (a6 (a:=prV) (f:=fun x=>PV.int x.1) (PT n cs) fun x _=>⟨[some (prV x)],by simp[tgN,aL,bB,cF],?_,by simp,by simp⟩)
 simp
theorem jR(hfc:Fc fc)(n10:n<=10)(hn:cs.length=n):Cs [gro .bor n ps r,.lst fc (iL cs)]=.ok (.lst .own (iL (CN n cs))):=by
 refine aw ?_
 show C8 [some (gro .bor n ps r),some (.lst fc (iL cs))]=_
 unfold C8
 refine aZ ?_ (by simp)
 have pt:=oJ (ps:=ps) (r:=r) hfc n10 hn
 rw[show iL (CN n cs)=(PT n cs).map fun x=>PV.int x.2 by simp[iL,CN,PT]]
 refine aM (xs:=prL (PT n cs)) (by rcases hfc with rfl | rfl<;>simp[d5,pt,aB,PV.has,Fl.lend,Fl.toBor,PV.mapF]) (by simp[PT];omega) (a6 (a:=prV) (f:=fun x=>PV.int x.2) (PT n cs) fun x _=>⟨[some (prV x)],by simp[tgN,aL,bB,cF],?_,by simp,by simp⟩)
 simp
theorem zv:lW (.lst f (iL l))=.ok (if l.isEmpty then .non else .int (eX l)):=by
 unfold lW
 simp only[aQ,ii]
theorem wW{fa:List Int}(hnb:∀x∈nbL ps i,0<=x/\x < n)(hl:(nbL ps i).length<=1000)(hn:fa.length=n)(hi:i < n):Cq [gro .bor n ps r,.lst .bor (iL fa),.int i]=.ok (oV (eld ps r fa i)):=by
 refine aw ?_
 show C6 [some (gro .bor n ps r),some (.lst .bor (iL fa)),some (.int i),none]=_
 unfold C6 eld
 by_cases q:i=r
 ·rw[if_pos q]
  exact c9 (im (by simp[ao,aV,q]) (aZ (by simp[oV]) (by simp[oV])))
 rw[if_neg q]
 refine ag (bL (by simp[ao,aV,show ¬(i:Int)=r by omega]) az) ?_
 have be:=iR (ps:=ps) hi
 refine ag (aA (v:=.lst .own (iL (nea ps fa i))) ?_ (by simp) rfl) ?_
 ·have hz:nea ps fa i=((nbL ps i).filter fun o=>decide (gt fa o.toNat=gt fa i - 1)).map id:=by simp[nea]
  rw[hz]
  refine aM (xs:=iL (nbL ps i)) (by simp[ao,aV,bE,be,aB]) (by rw[aU];omega) (e_ (fun o=>decide (gt fa o.toNat=gt fa i - 1)) id _ fun x hx=>⟨[some (.lst .bor (iL fa)),some (.int i),some (.int x)],by simp[tgN,aL,bB,Fl.borrow],?_,fun _=>by simp⟩)
  obtain⟨h1,h2⟩:=hnb x hx
  simp[b9 (f:=.bor) (cs:=fa) (i:=x) (by omega) (by omega),b9 (f:=.bor) (cs:=fa) (i:=i) (by omega) (by omega)]
 simp only[s0_,s1_]
 generalize nea ps fa i=l
 refine aZ ?_ (by cases l<;>simp[oV])
 simp only[Fr,dN,List.getElem?_cons_zero,List.getElem?_cons_succ,zc,Res.ok_bind,PV.mapF,Fl.lend,tW]
 rw[zv]
 cases l<;>simp[oV]
abbrev ELs(n:Nat)(ps:List (Int×Int))(r:Nat)(fa:List Int):List (Option Int):=(List.range n).map (eld ps r fa)
theorem uh(hfc:Fc fc)(n10:n<=10)(hnb:∀i:Nat,∀x∈nbL ps i,0<=x/\x < n)(hl:∀i:Nat,(nbL ps i).length<=1000)(hn:cs.length=n):Ct [gro .bor n ps r,.lst fc (iL cs)]=.ok (.lst .own (oL (ELs n ps r (FA n cs)))):=by
 refine aw ?_
 show C9 [some (gro .bor n ps r),some (.lst fc (iL cs)),none]=_
 unfold C9
 have fo:=nN (ps:=ps) (r:=r) hfc n10 hn
 refine ag (aA (v:=.lst .own (iL (FA n cs))) (by rcases hfc with rfl | rfl<;>simp[db,fo,aB,PV.has,Fl.lend,Fl.toBor,PV.mapF]) (by simp) rfl) ?_
 simp only[s0_,s1_]
 refine aZ ?_ (by simp[PV.noLnt,PV.has])
 rw[show oL (ELs n ps r (FA n cs))=(List.range n).map fun i=>oV (eld ps r (FA n cs) i) by simp[oL]]
 refine aM (xs:=b5 0 n) (bv (n:=n) (by simp[ao,aV]) (by omega)) (by rw[aW];omega) (a6 (a:=fun k:Nat=>PV.int (0+(k:Int))) (f:=fun i=>oV (eld ps r (FA n cs) i)) (List.range n) fun k hk=>⟨[some (gro .bor n ps r),some (.lst .bor (iL (FA n cs))),some (.int (0+k))],by simp[tgN,aL,bB,Fl.borrow,PV.mapF],?_,?_,?_⟩)
 ·have el:=wW (r:=r) (hnb k) (hl k) (show(FA n cs).length=n by simpa using hn) (List.mem_range.mp hk)
  simp[g7,el,aB,PV.has,Fl.lend,Fl.toBor,PV.mapF]
  cases eld ps r (FA n cs) k<;>simp[oV,PV.has]
 ·cases eld ps r (FA n cs) k<;>simp[oV,PV.has]
 ·cases eld ps r (FA n cs) k<;>simp[oV,PV.has]
theorem oe(f:Nat->Int)(g:Nat->Option Int):∀l:List Nat,gx (iL (l.map f)) (oL (l.map g))=l.map fun i=>PV.tup [.int (f i),oV (g i)]
 | []=>rfl
 | i::l=>by
  have:=oe f g l
  simp only[iL,oL,List.map_cons,gx]at this ⊢
  rw[this]
theorem eqO(o:Option Int)(i:Int):pEq (oV o) (.int i)=.ok (.bl (decide (o=some i))):=by
 cases o with
 | none=>simp[oV,pEq,PV.data];rfl
 | some s=>simp[oV]
theorem gtR(l:List Int):(List.range l.length).map (gt l)=l:=by
 apply List.ext_getElem (by simp)
 intro i h1 h2
 simp[gt,h2]
theorem q_(hn:cs.length=n):∀i,i < n->0<=gt (CN n cs) i/\gt (CN n cs) i<=n:=fun i hi=>by
 have hm:=dA (far:=CN n cs) (i:=i) (by simpa using hn▸hi)
 obtain⟨c,_,e⟩:=List.mem_map.mp hm
 rw[<- e]
 have:=Int.emod_nonneg c (show(n:Int)+1≠0 by omega)
 have:=Int.emod_lt_of_pos c (show(0:Int) <(n:Int)+1 by omega)
 omega
theorem kU(hn:cs.length=n)(hx:x∈jJ n ps r cs i):0<=x/\x<=n:=by
 obtain⟨j,hj,rfl⟩:=List.mem_map.mp hx
 exact q_ hn j (List.mem_range.mp (List.mem_filter.mp hj).1)
theorem wd:(jJ n ps r cs i).length<=n:=by
 have:=List.length_filter_le (fun j=>decide (eld ps r (FA n cs) j=some (i:Int))) (List.range n)
 simpa[jJ]using this
theorem wZ(hfc:Fc fc)(n10:n<=10)(hnb:∀i:Nat,∀x∈nbL ps i,0<=x/\x < n)(hl:∀i:Nat,(nbL ps i).length<=1000)(hn:cs.length=n):Cw [gro .bor n ps r,.lst fc (iL cs),.int i]=.ok (.int (dcn n ps r cs i)):=by
 refine aw ?_
 show Df [some (gro .bor n ps r),some (.lst fc (iL cs)),some (.int i),none]=_
 unfold Df
 have co:=jR (ps:=ps) (r:=r) hfc n10 hn
 have eo:=uh (ps:=ps) (r:=r) hfc n10 hnb hl hn
 have zp:gx (iL (CN n cs)) (oL (ELs n ps r (FA n cs)))=(List.range n).map fun j=>PV.tup [.int (gt (CN n cs) j),oV (eld ps r (FA n cs) j)]:=by
  have:=oe (gt (CN n cs)) (eld ps r (FA n cs)) (List.range n)
  rwa [show(List.range n).map (gt (CN n cs))=CN n cs by have:=gtR (CN n cs);rw[Do,hn]at this;exact this]at this
 refine ag (aA (v:=.lst .own (iL (jJ n ps r cs i))) ?_ (by simp) rfl) ?_
 ·rw[show iL (jJ n ps r cs i)=((List.range n).filter fun j=>decide (eld ps r (FA n cs) j=some (i:Int))).map fun j=>PV.int (gt (CN n cs) j) by simp[iL,jJ]]
  refine aM (xs:=(List.range n).map fun j=>PV.tup [.int (gt (CN n cs) j),oV (eld ps r (FA n cs) j)]) ?_ (by simp;omega) (bW (a:=fun j=>PV.tup [.int (gt (CN n cs) j),oV (eld ps r (FA n cs) j)]) (f:=fun j=>.int (gt (CN n cs) j)) (p:=fun j=>decide (eld ps r (FA n cs) j=some (i:Int))) (List.range n) fun j hj=>⟨[some (.int i),some (.int (gt (CN n cs) j)),some (oV (eld ps r (FA n cs) j))],?_,?_,fun _=>⟨by simp,rfl,rfl⟩⟩)
  ·unfold jf
   rcases hfc with rfl | rfl<;>simp[cw,gc,co,eo,aB,PV.has,Fl.lend,Fl.toBor,PV.mapF,dJ,zp]
  ·cases eld ps r (FA n cs) j<;>rfl
  ·have ob:∀o:Option Int,PV.mapF Fl.lend (oV o)=oV o:=fun o=>by cases o<;>rfl
   simp[ob,eqO]
 simp only[s0_,s1_]
 have sm:ja (.lst .lnt (iL (jJ n ps r cs i)))=.ok (.int (jJ n ps r cs i).sum):=kf (by have:=wd (n:=n) (ps:=ps) (r:=r) (cs:=cs) (i:=i);omega) fun x hx=>by have:=kU hn hx;omega
 refine aZ ?_ (by simp)
 simp[ao,aV,p1,sm,dcn,fV]
theorem zX(hfc:Fc fc)(n1:1<=n)(n10:n<=10)(hnb:∀i:Nat,∀x∈nbL ps i,0<=x/\x < n)(hl:∀i:Nat,(nbL ps i).length<=1000)(hn:cs.length=n)(hi:i < n):wJ [gro .bor n ps r,.lst fc (iL cs),.int i]=.ok (.int (ly n ps r cs i)):=by
 refine aw ?_
 show xM [some (gro .bor n ps r),some (.lst fc (iL cs)),some (.int i),none,none,none]=_
 unfold xM
 have fo:=nN (ps:=ps) (r:=r) hfc n10 hn
 have co:=jR (ps:=ps) (r:=r) hfc n10 hn
 have dc:=wZ (ps:=ps) (r:=r) (i:=i) hfc n10 hnb hl hn
 have fl:(FA n cs).length=n:=by simpa using hn
 have cl:(CN n cs).length=n:=by simpa using hn
 have ld:=o6 (.inl rfl) (cc:=5) (os:=fs n r) (st:=n) (tp:=n) (cs:=FA n cs) rfl (hnb i) (hl i) (by omega) fl (by simp[fs]) hi
 refine ag (aA (v:=.lst .own (iL (FA n cs))) (by rcases hfc with rfl | rfl<;>simp[db,fo,aB,PV.has,Fl.lend,Fl.toBor,PV.mapF]) (by simp) rfl) ?_
 simp only[s0_,s1_]
 unfold ly
 generalize f_ ps (fs n r) n n (FA n cs) i=df at *
 refine ag (aA (v:=.int df) (by simp[ao,aV,jQ,ld,aB,PV.has,Fl.lend,Fl.toBor,PV.mapF]) (by simp) rfl) ?_
 simp only[s0_,s1_]
 have ic:∀f,aK (.lst f (iL (CN n cs))) (.int (i:Int))=.ok (.int (gt (CN n cs) i)):=fun f=>by simpa using b9 (f:=f) (cs:=CN n cs) (i:=i) (by omega) (by omega)
 have ia:∀f,aK (.lst f (iL (FA n cs))) (.int (i:Int))=.ok (.int (gt (FA n cs) i)):=fun f=>by simpa using b9 (f:=f) (cs:=FA n cs) (i:=i) (by omega) (by omega)
 refine ag (aA (v:=.int (gt (CN n cs) i)) (by rcases hfc with rfl | rfl<;>simp[cw,co,ic,aB,PV.has,Fl.lend,Fl.toBor,PV.mapF]) (by simp) rfl) ?_
 simp only[s0_,s1_]
 have mu:b8 (.int df) (.int ((n:Int)+1))=.ok (.int (df * ((n:Int)+1))):=cU (.inr ⟨by omega,by omega⟩)
 by_cases q:df=gt (FA n cs) i
 ·rw[if_pos q]
  refine ag (im (by simp[ia,q]) (aA (v:=.int (dcn n ps r cs i)) (by rcases hfc with rfl | rfl<;>simp[cB,dc,aB,PV.has,Fl.lend,Fl.toBor,PV.mapF]) (by simp) rfl)) ?_
  simp only[s0_,s1_]
  exact aZ (by simp[ao,aV,mu]) (by simp)
 ·rw[if_neg q]
  refine ag (bL (by simp[ia,q]) az) ?_
  exact aZ (by simp[ao,aV,mu]) (by simp)
def de(at_:Int):Int->List Int->List Int
 | _,[]=>[]
 | k,p::ps=>if p=at_ then k::de at_ (k+1) ps else de at_ (k+1) ps
theorem gT:∀{k:Int}{ps:List Int}{x:Int},x∈de at_ k ps->k<=x/\x < k+ps.length/\ps[(x - k).toNat]?=some at_
 | _,[],x,h=>by simp[de]at h
 | k,p::ps,x,h=>by
  have key:x∈de at_ (k+1) ps->k<=x/\x < k+(p::ps).length/\(p::ps)[(x - k).toNat]?=some at_:=fun h=>by
   obtain⟨h1,h2,h3⟩:=gT h
   refine⟨by omega,by simp only[List.length_cons];omega,?_⟩
   rw[show(x - k).toNat=(x - (k+1)).toNat+1 by omega,List.getElem?_cons_succ]
   exact h3
  unfold de at h
  split at h
  ·rename_i hp
   rcases List.mem_cons.mp h with rfl | h
   ·refine⟨by omega,by simp only[List.length_cons];omega,by simp[hp]⟩
   ·exact key h
  ·exact key h
theorem o7{at_:Int}:∀{k:Int}{ps:List Int},(de at_ k ps).length<=ps.length
 | _,[]=>by simp[de]
 | k,p::ps=>by
  have:=o7 (at_:=at_) (k:=k+1) (ps:=ps)
  unfold de
  split<;>simp<;>omega
def ir(cs l:List Int):Int:=(l.map fun k=>gt cs k.toNat).sum
def qT(n:Nat)(ps cs:List Int)(i:Nat):Int:=min (n:Int) (1+ir cs (de i 1 ps))
theorem oi{cs cs':List Int}:∀{l:List Int},(∀k∈l,gt cs k.toNat=gt cs' k.toNat)->ir cs l=ir cs' l
 | [],_=>rfl
 | k::l,h=>by
  have:=oi (cs:=cs) (cs':=cs') (l:=l) fun x hx=>h x (List.mem_cons_of_mem _ hx)
  simp only[ir,List.map_cons,List.sum_cons]at this ⊢
  rw[h k List.mem_cons_self,this]
theorem oh{cs:List Int}:∀{l:List Int},(∀k∈l,0<=gt cs k.toNat)->0<=ir cs l
 | [],_=>by simp[ir]
 | k::l,h=>by
  have:=oh (cs:=cs) (l:=l) fun x hx=>h x (List.mem_cons_of_mem _ hx)
  have h2:=h k List.mem_cons_self
  simp only[ir,List.map_cons,List.sum_cons]at this ⊢
  omega
theorem iO(l:List Int)(k:Nat)(h:k < l.length):gt l k=l[k]:=by simp[gt,h]
theorem qF:∀{l:List Int},(∀x∈l,0<=x)->∀x∈l,x<=l.sum
 | [],_,x,h=>by simp at h
 | y::l,hp,x,h=>by
  have h1:∀{l:List Int},(∀x∈l,0<=x)->0<=l.sum:=fun {l}=>by
   intro h
   induction l with
   | nil=>simp
   | cons a l ih =>
    have:=ih fun x hx=>h x (List.mem_cons_of_mem _ hx)
    have:=h a List.mem_cons_self
    simp
    omega
  have h0:=h1 fun x hx=>hp x (List.mem_cons_of_mem y hx)
  have hy:=hp y List.mem_cons_self
  simp only[List.sum_cons]
  rcases List.mem_cons.mp h with rfl | h
  ·omega
  ·have:=qF (fun x hx=>hp x (List.mem_cons_of_mem y hx)) x h
   omega
def Tree(ps:List Int):Prop:=∀i (h:i < ps.length),0<=ps[i]/\ps[i]<= i
structure Hv(ps hs:List Int)(j:Nat):Prop where
 len:hs.length=ps.length+1
 eqn:∀i:Nat,i<=ps.length->gt hs i=1+ir hs (de i (j+1) (ps.drop j))
 bnd:∀i:Nat,i<=ps.length->1<=gt hs i/\gt hs i<=ps.length+1
 sum:(hs.take (j+1)).sum=ps.length+1
structure Hu(ps hs:List Int):Prop where
 len:hs.length=ps.length+1
 eqn:∀i:Nat,i<=ps.length->gt hs i=1+ir hs (de i 1 ps)
 bnd:∀i:Nat,i<=ps.length->1<=gt hs i/\gt hs i<=ps.length+1
abbrev cnt(fl:Fl)(ps:List Int):PV:=.obj fl 3 [11,0,7,8] [.tup (iL ps),.int (ps.length+1),.int (ps.length+2),.bl false]
theorem sV{ps:List Int}:fK [.obj .own 3 [11] [.tup (iL ps)],.int (ps.length+1),.int (ps.length+2),.bl false]=.ok (cnt .own ps):=by
 refine cu (e:=[some (cnt .own ps),some (.int (ps.length+1)),some (.int (ps.length+2)),some (.bl false)]) ?_ rfl
 show hG [some (.obj .own 3 [11] [.tup (iL ps)]),some (.int (ps.length+1)),some (.int (ps.length+2)),some (.bl false)]=_
 unfold hG
 refine ag (bz (v:=.int (ps.length+1)) (ks:=[11]) (vs:=[.tup (iL ps)]) (by simp) rfl (by simp) rfl (by decide)) ?_
 refine ag (bz (v:=.int (ps.length+2)) (ks:=[11,0]) (vs:=[.tup (iL ps),.int (ps.length+1)]) (by simp) rfl (by simp) rfl (by decide)) ?_
 exact bz (v:=.bl false) (ks:=[11,0,7]) (vs:=[.tup (iL ps),.int (ps.length+1),.int (ps.length+2)]) (by simp) rfl (by simp) rfl (by decide)
theorem uj{ps:List Int}:qP [.obj .own 3 [11] [.tup (iL ps)],.int (ps.length+1),.int (ps.length+2)]=.ok (cnt .own ps):=by
 refine cu (e:=[some (cnt .own ps),some (.int (ps.length+1)),some (.int (ps.length+2))]) ?_ rfl
 show xi [some (.obj .own 3 [11] [.tup (iL ps)]),some (.int (ps.length+1)),some (.int (ps.length+2))]=_
 unfold xi
 exact fP (xs:=[.int (ps.length+1),.int (ps.length+2),.bl false]) rfl (by simp) (by simp) (by simpa using sV (ps:=ps)) (by simp[PV.has])
theorem CF{m:ME}{ps:List Int}(h:m env=.ok (.lst f (iL ps)))(hf:f.isLnt=false):tZ m env=.ok (enP 1 (iL ps)):=by
 unfold tZ
 rw[h]
 simp[hf,dJ]
theorem ql{ps:List Int}(T:Tree ps)(hl:ps.length<=9)(hf:f=.bor\/f=.frz):Cn [.lst f (iL ps)]=.ok .non:=by
 have hf1:f.lend=f:=by rcases hf with rfl | rfl<;>rfl
 have hf2:f.isLnt=false:=by rcases hf with rfl | rfl<;>rfl
 have key:∃e,C3 [some (.lst f (iL ps)),none,none]=.next e:=by
  unfold C3
  have s1:∀a:MS,mBr (av (mOp pGt (ap (p1 b_) (ae (ac 0) am)) (mC (.int (9))))) a aY [some (.lst f (iL ps)),none,none]=.next [some (.lst f (iL ps)),none,none]:=fun a=>bL (by simp[p1,b_,aQ];omega) az
  suffices hh:∃e,cO (tZ (ac 0)) (tgT 2 (bf (tgN 1) (bf (tgN 2) eE))) (mBr ((jh (av (mOp pLt (ac 2) (mC (.int (0))))) (av (mOp pGe (ac 2) (ac 1))))) (bh 2 (ae (mC (.str "a parent is no machine of a lower number than its kid")) am)) aY) [some (.lst f (iL ps)),none,none]=.next e by
   obtain⟨e,h⟩:=hh
   exact⟨e,ag (s1 _) h⟩
  refine kj (fun _ e=>∃a b,e=[some (.lst f (iL ps)),a,b]) (fun r=>∃e,r=.next e) (xs:=enP 1 (iL ps)) (CF (f:=f) (by simp[hf1]) hf2) ⟨_,_,rfl⟩ (fun k x e hx hP=>?_) (fun e hP=>⟨e,rfl⟩)
  obtain⟨a,b,rfl⟩:=hP
  rw[f9]at hx
  obtain⟨y,hy,rfl⟩:=Option.map_eq_some_iff.mp hx
  obtain⟨v,hv,rfl⟩:=nK hy
  obtain⟨hk,ev⟩:=List.getElem?_eq_some_iff.mp hv
  have:=T k hk
  rw[ev]at this
  refine⟨[some (.lst f (iL ps)),some (.int (1+k)),some (.int v)],rfl,.inl ⟨_,.inl (bL ?_ az),_,_,rfl⟩⟩
  simp[show ¬v < 0 by omega,show ¬1+(k:Int)<= v by omega]
 obtain⟨e,h⟩:=key
 exact fE ⟨e,h⟩
theorem w9{ps:List Int}(T:Tree ps)(hl:ps.length<=9)(hf:f.lend.toBor=.bor\/f.lend.toBor=.frz):Co [.obj .own 3 [] [],.lst f (iL ps)]=.ok (cnt .own ps):=by
 refine cu (e:=[some (cnt .own ps),some (.lst f (iL ps))]) ?_ rfl
 show C4 [some (.obj .own 3 [] []),some (.lst f (iL ps))]=_
 unfold C4
 have rf:=ql T hl hf
 refine ag (gd (v:=.non) (by simp[rf,aB])) ?_
 refine ag (bz (v:=.tup (iL ps)) (ks:=[]) (vs:=[]) (by simp[p1,dI,aQ]) rfl (by simp[PV.noLnt,PV.has]) rfl (by decide)) ?_
 have:=fP (env:=[some (.obj .own 3 [11] [.tup (iL ps)]),some (.lst f (iL ps))]) (m:=qP) (ms:=ae (mOp aG (ap (p1 b_) (ae (ac 1) am)) (mC (.int (1)))) (ae (mOp aG (ap (p1 b_) (ae (ac 1) am)) (mC (.int (2)))) am)) (xs:=[.int (ps.length+1),.int (ps.length+2)]) rfl (by simp[p1,b_,aQ]) (by simp) (by simpa using uj (ps:=ps)) (by simp[PV.has])
 exact this
theorem pJ{env:En}{g:TgM}{mc:MT}{me:ME}{at_:Int}:∀(ps:List Int) (k:Int),(∀j v:Int,v∈ps->∃e1,g (.tup [.int j,.int v]) env=some e1/\mc e1=.ok (decide (v=at_))/\me e1=.ok (.int j))->cY g mc me env (enP k (iL ps))=.ok (iL (de at_ k ps))
 | [],_,_=>rfl
 | p::ps,k,h=>by
  obtain⟨e1,h1,h2,h3⟩:=h k p List.mem_cons_self
  have ih:=pJ (at_:=at_) ps (k+1) fun j v hv=>h j v (List.mem_cons_of_mem _ hv)
  simp only[eM,enP,cY]
  have b:(PV.tup [.int k,.int p]).borrow=.tup [.int k,.int p]:=by simp[PV.borrow]
  rw[b,h1]
  simp only[h2,Res.ok_bind]
  unfold de
  by_cases hc:p=at_
  ·simp[hc,h3,ih]
  ·simp[hc,ih]
theorem ub{ps:List Int}{i:Int}(hl:ps.length<=1000):Cv [cnt .bor ps,.int i]=.ok (.lst .own (iL (de i 1 ps))):=by
 refine aw ?_
 show De [some (cnt .bor ps),some (.int i)]=_
 unfold De
 refine aZ (aM (xs:=enP 1 (iL ps)) ?_ (by rw[e9,aU];omega) (pJ ps 1 fun j v _=>⟨[some (.int i),some (.int j),some (.int v)],by simp[tgT,bf,tgN,eE,aL,bB],by simp,by simp⟩)) (by simp)
 unfold zz
 simp[ao,aV,aQ]
def Sm(cs:List Int):Prop:=∀c∈cs,0<=c/\c<=1000
theorem z9{ps:List Int}(hfc:Fc fc)(hl:ps.length<=9)(hs:Sm cs)(hn:cs.length=ps.length+1):Cj [cnt .bor ps,.lst fc (iL cs),.int i]=.ok (.int (qT (ps.length+1) ps cs i)):=by
 refine aw ?_
 show CY [some (cnt .bor ps),some (.lst fc (iL cs)),some (.int i)]=_
 unfold CY qT ir
 have ho:=ub (ps:=ps) (i:=(i:Int)) (by omega)
 have kl:=o7 (at_:=(i:Int)) (k:=1) (ps:=ps)
 have hc:aT [1] 1 (ck (b6 bA (ac 0) (ae (ac 2) am))) (tgN 1) bH (mOp aK (ac 0) (ac 1)) [some (cnt .bor ps),some (.lst fc (iL cs)),some (.int i)]=.ok (.lst .own (iL ((de i 1 ps).map fun k=>gt cs k.toNat))):=by
  refine aM (xs:=iL (de i 1 ps)) (by simp[bA,ho,aB]) (by rw[aU];omega) (dO (fun k=>gt cs k.toNat) _ fun x hx=>⟨[some (.lst fc (iL cs)),some (.int x)],by simp[tgN,aL,bB,hfc.bo],?_⟩)
  obtain⟨h1,h2,_⟩:=gT hx
  simp[hfc.le,b9 (f:=fc) (cs:=cs) (i:=x) (by omega) (by omega)]
 have sm:ja (.lst .own (iL ((de i 1 ps).map fun k=>gt cs k.toNat)))=.ok (.int ((de i 1 ps).map fun k=>gt cs k.toNat).sum):=kf (by simp;omega) fun x hx=>by
  obtain⟨k,hk,rfl⟩:=List.mem_map.mp hx
  obtain⟨h1,h2,_⟩:=gT hk
  have:=hs _ (dA (far:=cs) (i:=k.toNat) (by omega))
  omega
 refine aZ ?_ (by simp)
 simp only[cP,bV,cL,gY,hc]
 simp[ao,aV,p1,sm,fV]
def InS(sp:Int)(cs:List Int):Prop:=∀c∈cs,0<=c/\c < sp
structure Rl(o:PV)(n:Nat)(sp:Int)(al ip:Bool)(D:List Int->Nat->Int):Prop where
 le:o.mapF Fl.lend=o
 tb:o.mapF Fl.toBor=o
 bo:o.mapF Fl.borrow=o
 a0:ao 0 o=.ok (.int n)
 a7:ao 7 o=.ok (.int sp)
 a8:ao 8 o=.ok (.bl al)
 s0:0 < sp
 n1:1<=n
 n20:n<=20
 due:∀fc cs k,Fc fc->cs.length=n->InS sp cs->k < n->iH ay (.ok [.lst fc (iL cs),.int k]) o=.ok (.int (D cs k))/\0<=D cs k/\D cs k < sp
 rd:∀r,iH aD r o=r.bind fun xs=>aO gq (o::xs)
 mv:∀r,iH aq r o=r.bind fun xs=>aO gu (o::xs)
 tu:∀r,iH aF r o=r.bind fun xs=>aO gs (o::xs)
 ca:∀r,iH aE r o=r.bind fun xs=>aO (if ip then zM else gW) (o::xs)
def mvR(n:Nat)(D:List Int->Nat->Int)(cs:List Int):List Int:=((List.range n).filter fun i=>decide (D cs i≠gt cs i)).map fun i:Nat=>(i:Int)
def stR(n:Nat)(D:List Int->Nat->Int)(cs nm:List Int):List Int:=(List.range n).map fun i:Nat=>if nm.contains (i:Int)then D cs i else gt cs i
def gw(n:Nat)(al:Bool)(nm:List Int):Prop:=nm.Nodup/\(∀x∈nm,0<=x/\x < n)/\(al=true->nm.length<=1)/\nm.length<=1000
def caR(n:Nat)(ip:Bool)(D:List Int->Nat->Int)(cs:List Int):Bool:=decide ((mvR n D cs).length=if ip then 1 else 0)
section
variable{o:PV}{n:Nat}{sp:Int}{al ip:Bool}{D:List Int->Nat->Int}{cs nm:List Int}{f fn:Fl}
theorem pY(r:Rl o n sp al ip D)(hn:cs.length=n)(hc:InS sp cs)(nm:List Int):(stR n D cs nm).length=n/\InS sp (stR n D cs nm):=by
 refine⟨by simp[stR],fun c hc'=>?_⟩
 unfold stR at hc'
 obtain⟨i,hi,rfl⟩:=List.mem_map.mp hc'
 have hi:=List.mem_range.mp hi
 split
 ·exact(r.due .bor cs i (.inl rfl) hn hc hi).2
 ·exact hc _ (dA (by omega))
theorem ki:(mvR n D cs).length<=n:=by
 unfold mvR
 rw[List.length_map]
 have:=List.length_filter_le (fun i=>decide (D cs i≠gt cs i)) (List.range n)
 rwa [List.length_range]at this
theorem ie(r:Rl o n sp al ip D)(hf:Fc f\/f=.own)(hn:cs.length=n)(hc:InS sp cs):gu [o,.lst f (iL cs)]=.ok (.lst .own (iL (mvR n D cs))):=by
 have n20:=r.n20
 have fb:=Fc.of hf
 refine aw ?_
 show xJ [some o,some (.lst f (iL cs))]=_
 unfold xJ mvR
 refine aZ ?_ (by simp)
 refine aM (xs:=b5 0 n) (bv (n:=n) (by simp[r.le,r.a0]) (by omega)) (by rw[aW];omega) (ge (fun k=>decide (D cs k≠gt cs k)) (fun k=>(k:Int)) n fun k hk=>⟨[some o,some (.lst f.borrow (iL cs)),some (.int (0+k))],by simp[tgN,aL,bB,PV.borrow,r.bo],?_,fun _=>by simp⟩)
 generalize f.borrow=fc at *
 have gk:aK (.lst fc (iL cs)) (.int (k:Int))=.ok (.int (gt cs k)):=by simpa using b9 (f:=fc) (cs:=cs) (i:=k) (by omega) (by omega)
 simp[r.le,fb.le,(r.due fc cs k fb hn hc hk).1,gk]
theorem z_(r:Rl o n sp al ip D)(hf:Fc f\/f=.own)(hn:cs.length=n)(hc:InS sp cs):iH aE (.ok [.lst f (iL cs)]) o=.ok (.bl (caR n ip D cs)):=by
 have e:∀f',Fc f'\/f'=.own->(if ip then zM else gW) [o,.lst f' (iL cs)]=.ok (.bl (caR n ip D cs)):=fun f' hf=>by
  have fb:Fc f'.lend.toBor:=by
   rcases hf with(rfl | rfl) | rfl
   ·exact .inl rfl
   ·exact .inr rfl
   ·exact .inl rfl
  have mo:=ie r (.inl fb) hn hc
  cases ip with
  | false =>
   refine aw ?_
   show xq [some o,some (.lst f' (iL cs))]=_
   unfold xq caR
   exact aZ (by simp[r.le,r.tb,r.mv,mo,aB]) (by simp)
  | true =>
   refine aw ?_
   show CZ [some o,some (.lst f' (iL cs))]=_
   unfold CZ caR
   have e1:((mvR n D cs).length:Int)=1 ↔(mvR n D cs).length=1:=by omega
   exact aZ (by simp[r.le,r.tb,r.mv,mo,aB,e1]) (by simp)
 have hf2:Fc f.toBor\/f.toBor=.own:=by
  rcases hf with(rfl | rfl) | rfl
  ·exact .inl (.inl rfl)
  ·exact .inl (.inr rfl)
  ·exact .inr rfl
 simp[r.ca,r.tb,e _ hf2,aB]
theorem sX(r:Rl o n sp al ip D)(hf:Fc fn)(hg:gw n al nm):wG [o,.lst fn (iL nm)]=.ok .non:=by
 obtain⟨hd,hr,ha,hl⟩:=hg
 refine fE ?_
 show Ends (xF [some o,some (.lst fn (iL nm)),none])
 unfold xF
 refine gZ (bL ?_ az) ?_
 ·cases al with
  | false=>simp[r.le,r.a8]
  | true =>
   have:=ha rfl
   simp[r.le,r.a8]
   omega
 refine wV (fun _ e=>∃x,e=[some o,some (.lst fn (iL nm)),x]) (xs:=iL nm) (eP (f:=fn) (by simp[hf.le]) hf.nl (by simp) (by simp)) ⟨_,rfl⟩ (fun k x e hx hP=>?_) (fun e hP=>?_)
 ·obtain⟨y,rfl⟩:=hP
  obtain⟨m,hm,rfl⟩:=nK hx
  obtain⟨h1,h2⟩:=hr m (List.mem_of_getElem? hm)
  refine⟨_,cE rfl,bx (bL ?_ az) ⟨_,rfl⟩⟩
  simp[r.le,r.a0,show ¬m < 0 by omega,show ¬(n:Int)<= m by omega]
 ·obtain⟨y,rfl⟩:=hP
  exact ug (bL (by simp[lY hl,pH hd]) az)
theorem Fc.call(h:Fc f\/f=.own):Fc f.lend.toBor:=by
 rcases h with(rfl | rfl) | rfl
 ·exact .inl rfl
 ·exact .inr rfl
 ·exact .inl rfl
theorem sJ(r:Rl o n sp al ip D)(hf:Fc f\/f=.own)(hfn:Fc fn\/fn=.own)(hn:cs.length=n)(hc:InS sp cs)(hg:gw n al nm):gs [o,.lst f (iL cs),.lst fn (iL nm)]=.ok (.lst .own (iL (stR n D cs nm))):=by
 have n20:=r.n20
 have fb:=Fc.of hf
 refine aw ?_
 show xG [some o,some (.lst f (iL cs)),some (.lst fn (iL nm))]=_
 unfold xG stR
 refine ag (gd (v:=.non) (by simp[r.le,r.tb,sX r (Fc.call hfn) hg,aB])) (aZ ?_ (by simp))
 refine aM (xs:=b5 0 n) (bv (n:=n) (by simp[r.le,r.a0]) (by omega)) (by rw[aW];omega) (jS 0 (fun i:Nat=>if nm.contains (i:Int)then D cs i else gt cs i) n fun k hk=>⟨[some (.lst fn.borrow (iL nm)),some o,some (.lst f.borrow (iL cs)),some (.int (0+k))],by simp[tgN,aL,bB,PV.borrow,r.bo],?_⟩)
 generalize f.borrow=fc at *
 have gk:∀f,aK (.lst f (iL cs)) (.int (k:Int))=.ok (.int (gt cs k)):=fun f=>by simpa using b9 (f:=f) (cs:=cs) (i:=k) (by omega) (by omega)
 have dk:=(r.due fc cs k fb hn hc hk).1
 by_cases q:nm.contains (k:Int)=true
 ·simp only[q,if_true]
  simp at q
  simp[q,r.le,fb.le,dk,aB]
 ·simp only[q]
  simp at q
  simp[q,gk]
def dnR(n:Nat)(D:List Int->Nat->Int)(cs nm:List Int):List Int:=(mvR n D cs).filter fun a=>nm.contains a
theorem sR(r:Rl o n sp al ip D)(hf:Fc f)(hfn:Fc fn)(hn:cs.length=n)(hc:InS sp cs)(hg:gw n al nm):pp [o,.lst f (iL cs),.lst fn (iL nm)]=.ok (.tup [.lst .own (iL (dnR n D cs nm)),.lst .own (iL (stR n D cs nm))]):=by
 have n20:=r.n20
 have ml:=ki (n:=n) (D:=D) (cs:=cs)
 refine aw ?_
 show xl [some o,some (.lst f (iL cs)),some (.lst fn (iL nm)),none,none]=_
 unfold xl
 refine ag (aA (v:=.lst .own (iL (stR n D cs nm))) (by simp[r.le,r.tb,r.tu,hf.le,hf.tb,hfn.le,hfn.tb,sJ r (.inl hf) (.inl hfn) hn hc hg,aB]) (by simp) rfl) ?_
 simp only[s0_,s1_]
 refine ag (aA (v:=.lst .own (iL (dnR n D cs nm))) ?_ (by simp) rfl) ?_
 ·refine aM (xs:=iL (mvR n D cs)) (by simp[r.le,r.tb,r.mv,hf.le,hf.tb,ie r (.inl hf) hn hc,aB]) (by simp;omega) ?_
  have:=e_ (env:=bB [2] 1 [some o,some (.lst f (iL cs)),some (.lst fn (iL nm)),some (.lst .own (iL (stR n D cs nm))),none]) (g:=tgN 1) (mc:=av (mOp pIn (ac 1) (ac 0))) (me:=ac 1) (fun a=>nm.contains a) (fun a=>a) (mvR n D cs) fun x hx=>⟨[some (.lst fn (iL nm)),some (.int x)],by simp[tgN,aL,bB,PV.borrow,hfn.bo],by simp,fun _=>by simp⟩
  unfold dnR
  rw[List.map_id']at this
  exact this
 ·simp only[s0_,s1_]
  rfl
def eS(f:Fl)(p:List Int×List Int):PV:=.tup [.lst f (iL p.1),.lst f (iL p.2)]
def eR(n:Nat)(D:List Int->Nat->Int):List Int->List (List Int)->List (List Int×List Int)
 | _,[]=>[]
 | cs,nm::tns=>(dnR n D cs nm,stR n D cs nm)::eR n D (stR n D cs nm) tns
theorem oz:∀(tns:List (List Int)) (cs:List Int),(eR n D cs tns).length=tns.length
 | [],_=>rfl
 | nm::tns,cs=>by simp[eR,oz tns]
theorem rG(r:Rl o n sp al ip D):∀(tns:List (List Int)) (cs:List Int),cs.length=n->InS sp cs->∀p∈eR n D cs tns,p.2.length=n/\InS sp p.2/\p.1.length<=n
 | [],_,_,_,p,h=>nomatch h
 | nm::tns,cs,hn,hc,p,h=>by
  obtain⟨h1,h2⟩:=pY r hn hc nm
  rcases List.mem_cons.mp h with rfl | h
  ·exact⟨h1,h2,Nat.le_trans (List.length_filter_le _ _) ki⟩
  ·exact rG r tns _ h1 h2 p h
theorem kE(h:p f=false)(ps:List (List Int×List Int)):hasL p (ps.map (eS f))=false:=by
 induction ps with
 | nil=>simp
 | cons a l ih=>simp[ih,eS,h]
@[simp] theorem Ea(ps:List (List Int×List Int)):mapL g (ps.map (eS f))=ps.map (eS (g f)):=by
 induction ps with
 | nil=>simp
 | cons a l ih=>simp[ih,eS]
theorem rF(r:Rl o n sp al ip D)(hfn:Fc fn){x1 x2:Option PV}:∀(tns:List (List Int)) (cs:List Int) (rows:List PV) (x5:Option PV),cs.length=n->InS sp cs->(∀nm∈tns,gw n al nm)->rows.length+tns.length<=1000 ->
  ∃y5,mZ (ap (aO pp) (ae (ac 0) (ae (ac 3) (ae (ac 5) am)))) 4 3 5 (llL fn tns) rows (.lst .bor (iL cs)) [some o,x1,x2,none,some (.lst .own rows),x5]=.next [some o,x1,x2,none,some (.lst .own (rows ++(eR n D cs tns).map (eS .own))),y5]
 | [],cs,rows,x5,_,_,_,_=>⟨x5,by simp[eR,mZ]⟩
 | nm::tns,cs,rows,x5,hn,hc,hg,hl=>by
  obtain⟨h1,h2⟩:=pY r hn hc nm
  rw[List.length_cons]at hl
  obtain⟨y5,ih⟩:=rF r hfn (x1:=x1) (x2:=x2) tns (stR n D cs nm) (rows++[eS .own (dnR n D cs nm,stR n D cs nm)]) (some (.lst fn (iL nm))) h1 h2 (fun m hm=>hg m (List.mem_cons_of_mem _ hm)) (by simp;omega)
  refine⟨y5,?_⟩
  rw[v_]
  unfold mZ
  have ro:=sR r (f:=.bor) (.inl rfl) hfn hn hc (hg nm List.mem_cons_self)
  simp only[s0_,s1_]
  have em:ap (aO pp) (ae (ac 0) (ae (ac 3) (ae (ac 5) am))) [some o,x1,x2,some (.lst .bor (iL cs)),none,some (.lst fn (iL nm))]=.ok (.tup [.lst .own (iL (dnR n D cs nm)),.lst .own (iL (stR n D cs nm))]):=by
   simp[r.le,r.tb,hfn.le,hfn.tb,ro,aB]
  rw[em]
  dsimp only
  rw[if_neg (by simp;omega)]
  have eb:(PV.lst .own (iL (stR n D cs nm))).borrow=.lst .bor (iL (stR n D cs nm)):=by simp
  rw[eb]
  have ih':=ih
  unfold eS at ih'
  rw[ih']
  simp[eR,eS]
theorem rK(r:Rl o n sp al ip D)(hn:rs.length=n):gq [o,.lst f (iL rs)]=.ok (.lst .own (iL (rs.map (· % sp)))):=by
 have n20:=r.n20
 refine aw ?_
 show xr [some o,some (.lst f (iL rs))]=_
 unfold xr
 refine ag (bL (by simp[r.le,r.a0,hn]) az) (aZ ?_ (by simp))
 refine aM (xs:=iL rs) (by simp) (by simp;omega) ?_
 exact dO (· % sp) rs fun x hx=>⟨[some o,some (.int x)],by simp[tgN,aL,bB,PV.borrow,r.bo],by simp[r.le,r.a7,bp r.s0]⟩
theorem qw(r:Rl o n sp al ip D):InS sp (rs.map (· % sp)):=fun c hc=>by
 obtain⟨x,_,rfl⟩:=List.mem_map.mp hc
 have:=r.s0
 exact⟨Int.emod_nonneg _ (by omega),Int.emod_lt_of_pos _ r.s0⟩
theorem uT(r:Rl o n sp al ip D)(ht:Fc ft.freeze)(hi:Fc fi.freeze)(hn:rs.length=n)(hg:∀nm∈tns,gw n al nm)(hl:tns.length<=1000):pz [o,.lst f (iL rs),.lst ft (llL fi tns)]=.ok (.lst .own ((eR n D (rs.map (· % sp)) tns).map (eS .own))):=by
 refine aw ?_
 show xW [some o,some (.lst f (iL rs)),some (.lst ft (llL fi tns)),none,none,none]=_
 unfold xW
 refine ag (aA (v:=.lst .own (iL (rs.map (· % sp)))) (by simp[r.le,r.tb,r.rd,rK r hn,aB]) (by simp) rfl) ?_
 simp only[s0_,s1_]
 refine ag (aA (v:=.lst .own []) (by simp) (by simp) rfl) ?_
 simp only[s0_,s1_]
 refine ag (eC (v:=.lst ft (llL fi tns)) rfl) ?_
 have efz:(PV.lst ft (llL fi tns)).mapF Fl.freeze=.lst ft.freeze (llL fi.freeze tns):=by simp
 simp only[s0_,s1_,efz]
 generalize ft.freeze=gt' at *
 generalize fi.freeze=gi at *
 obtain⟨y5,e⟩:=rF r hi (x1:=some (.lst f (iL rs))) (x2:=some (.lst gt' (llL gi tns))) tns (rs.map (· % sp)) [] none (by simpa using hn) (qw r) hg (by simpa using hl)
 rw[List.nil_append]at e
 have h1:Fl.isOwn gi=false:=by rcases hi with rfl | rfl<;>rfl
 have it:eZ (ac 2) [some o,some (.lst f (iL rs)),some (.lst gt' (llL gi tns)),some (.lst .own (iL (rs.map (· % sp)))),some (.lst .own []),none]=.ok (llL gi tns):=eP (f:=gt') (by simp[ht.le,hi.le]) ht.nl (jv _ _ _ h1) (jv _ _ _ hi.nl)
 refine ag (e:=[some o,some (.lst f (iL rs)),some (.lst gt' (llL gi tns)),none,some (.lst .own ((eR n D (rs.map (· % sp)) tns).map (eS .own))),y5]) ?_ (ef rfl)
 unfold rY
 rw[it]
 have eb:(PV.lst .own (iL (rs.map (· % sp)))).borrow=.lst .bor (iL (rs.map (· % sp))):=by simp
 dsimp only[List.getElem?_cons_zero,List.getElem?_cons_succ,s0_,s1_]
 rw[eb]
 exact e
end
abbrev iE(f:Fl)(size span:Int):PV:=.obj f 9 [0,7,8] [.int size,.int span,.bl false]
theorem vh{size span:Int}(h1:2<=size)(h2:size<=20)(h3:size<=span):wL [.obj .own 9 [] [],.int size,.int span]=.ok (iE .own size span):=by
 refine cu (e:=[some (iE .own size span),some (.int size),some (.int span)]) ?_ rfl
 show xP [some (.obj .own 9 [] []),some (.int size),some (.int span)]=_
 unfold xP
 refine ag (bL (by simp[show ¬size < 2 by omega,show ¬20 < size by omega]) az) ?_
 refine ag (bL (by simp[show ¬span < size by omega]) az) ?_
 have ri:fK [.obj .own 9 [] [],.int size,.int span,.bl false]=.ok (iE .own size span):=by
  refine cu (e:=[some (iE .own size span),some (.int size),some (.int span),some (.bl false)]) ?_ rfl
  show hG [some (.obj .own 9 [] []),some (.int size),some (.int span),some (.bl false)]=_
  unfold hG
  refine ag (bz (v:=.int size) (ks:=[]) (vs:=[]) (by simp) rfl (by simp) rfl (by decide)) ?_
  refine ag (bz (v:=.int span) (ks:=[0]) (vs:=[.int size]) (by simp) rfl (by simp) rfl (by decide)) ?_
  exact bz (v:=.bl false) (ks:=[0,7]) (vs:=[.int size,.int span]) (by simp) rfl (by simp) rfl (by decide)
 have:=fP (env:=[some (.obj .own 9 [] []),some (.int size),some (.int span)]) (m:=fK) (ms:=ae (ac 1) (ae (ac 2) (ae (mC (.bl false)) am))) (xs:=[.int size,.int span,.bl false]) rfl (by simp) (by simp) (by simpa using ri) (by simp[PV.has])
 simpa using this
def eK(sp:Int)(cs:List Int)(i:Nat):Int:=if i=0 then(if gt cs 0=gt cs (cs.length - 1)then(gt cs 0+1) % sp else gt cs 0)else gt cs (i - 1)
theorem zb(hfc:Fc fc)(hn:cs.length=n)(hi:i < n)(hs:0 < sp):wK [iE .bor n sp,.lst fc (iL cs),.int i]=.ok (.int (eK sp cs i)):=by
 refine aw ?_
 show xN [some (iE .bor n sp),some (.lst fc (iL cs)),some (.int i)]=_
 unfold xN eK
 by_cases h0:i=0
 ·subst h0
  rw[if_pos rfl]
  have g0:aK (.lst fc (iL cs)) (.int 0)=.ok (.int (gt cs 0)):=b9 (by omega) (by omega)
  have gl:aK (.lst fc (iL cs)) (.int ((n:Int) - 1))=.ok (.int (gt cs (cs.length - 1))):=by
   rw[b9 (by omega) (by omega)]
   congr 3
   omega
  refine ag (bL (by simp) az) ?_
  by_cases hc:gt cs 0=gt cs (cs.length - 1)
  ·rw[if_pos hc]
   exact c9 (im (by simp[ao,aV,hfc.le,g0,gl,<- hc]) (aZ (by simp[ao,aV,hfc.le,g0,bp hs]) (by simp)))
  ·rw[if_neg hc]
   exact ag (bL (by simp[ao,aV,hfc.le,g0,gl,hc]) az) (aZ (by simp[hfc.le,g0]) (by simp))
 ·rw[if_neg h0]
  have gl:aK (.lst fc (iL cs)) (.int ((i:Int) - 1))=.ok (.int (gt cs (i - 1))):=by
   rw[b9 (by omega) (by omega)]
   congr 3
   omega
  exact c9 (im (by simp;omega) (aZ (by simp[hfc.le,gl]) (by simp)))
theorem zW(hn:cs.length=n)(hc:InS sp cs)(hi:i < n)(hs:0 < sp):0<=eK sp cs i/\eK sp cs i < sp:=by
 unfold eK
 split
 ·split
  ·exact⟨Int.emod_nonneg _ (by omega),Int.emod_lt_of_pos _ hs⟩
  ·exact hc _ (dA (by omega))
 ·exact hc _ (dA (by omega))
theorem rJ(h1:1<=n)(h20:n<=20)(hs:0 < sp):Rl (iE .bor n sp) n sp false true (eK sp) where
 le:=by simp
 tb:=by simp
 bo:=by simp
 a0:=by simp[ao,aV]
 a7:=by simp[ao,aV]
 a8:=by simp[ao,aV]
 s0:=hs
 n1:=h1
 n20:=h20
 due:=fun fc cs k hfc hn hc hk=>⟨by simp[ay,hfc.tb,zb hfc hn hk hs,aB],zW hn hc hk hs⟩
 rd:=fun r=>by simp[aD]
 mv:=fun r=>by simp[aq]
 tu:=fun r=>by simp[aF]
 ca:=fun r=>by simp[aE]
theorem oA(h1:1<=n)(h20:n<=20)(rg:∀x∈ps,0<=x.1/\x.1 < n/\0<=x.2/\x.2 < n/\x.1≠x.2)(hl:∀i,(nbL ps i).length<=1000):Rl (pnt .bor n ps) n n false false (k6 ps) where
 le:=by simp
 tb:=by simp
 bo:=by simp
 a0:=by simp[ao,aV]
 a7:=by simp[ao,aV]
 a8:=by simp[ao,aV]
 s0:=by omega
 n1:=h1
 n20:=h20
 due:=fun fc cs k hfc hn hc hk=>⟨by simp[ay,hfc.tb,yg rg hfc hl hn hk,aB],zV rg hk⟩
 rd:=fun r=>by simp[aD]
 mv:=fun r=>by simp[aq]
 tu:=fun r=>by simp[aF]
 ca:=fun r=>by simp[aE]
theorem oB{ps:List Int}(hl:ps.length<=9):Rl (cnt .bor ps) (ps.length+1) ((ps.length:Int)+2) false false (qT (ps.length+1) ps) where
 le:=by simp
 tb:=by simp
 bo:=by simp
 a0:=by simp[ao,aV]
 a7:=by simp[ao,aV]
 a8:=by simp[ao,aV]
 s0:=by omega
 n1:=by omega
 n20:=by omega
 due:=fun fc cs k hfc hn hc hk=>by
  have sm:Sm cs:=fun c hc'=>by have:=hc c hc';omega
  refine⟨by simp[ay,hfc.tb,z9 (i:=k) hfc hl sm hn,aB],?_⟩
  have nn:=oh (cs:=cs) (l:=de k 1 ps) fun j hj=>by
   obtain⟨h1,h2,_⟩:=gT hj
   exact(hc _ (dA (far:=cs) (i:=j.toNat) (by omega))).1
  unfold qT
  omega
 rd:=fun r=>by simp[aD]
 mv:=fun r=>by simp[aq]
 tu:=fun r=>by simp[aF]
 ca:=fun r=>by simp[aE]
theorem nO(ht:0<=tp)(ho:OkS tp os)(hn:cs.length=n)(hnb:∀x∈nbL ps i,0<=x/\x < n)(hc:∀c∈cs,0<=c):0<=f_ ps os st tp cs i/\f_ ps os st tp cs i<=tp:=by
 unfold f_
 obtain⟨m1,m2⟩:=fI (l:=gy ps st tp cs i ++(os.getD i none).toList++[tp]) (by simp)
 have h2:=m2 tp (by simp)
 generalize eX (gy ps st tp cs i ++(os.getD i none).toList++[tp])=M at *
 refine⟨?_,h2⟩
 rcases List.mem_append.mp m1 with q | q
 ·rcases List.mem_append.mp q with q | q
  ·unfold gy at q
   obtain⟨c,hc1,rfl⟩:=List.mem_map.mp q
   obtain⟨o,ho1,rfl⟩:=List.mem_map.mp (List.mem_filter.mp hc1).1
   have:=hnb o ho1
   have:=hc _ (dA (far:=cs) (i:=o.toNat) (by omega))
   omega
  ·have e:os.getD i none=some M:=by
    cases eo:os.getD i none with
    | none=>rw[eo]at q;cases q
    | some s=>rw[eo]at q;exact congrArg some (List.mem_singleton.mp q).symm
   have hm:some M∈os:=by
    rw[List.getD_eq_getElem?_getD]at e
    cases e2:os[i]? with
    | none=>rw[e2]at e;cases e
    | some x=>rw[e2]at e;rw[<- show x=some M from e];exact List.mem_of_getElem? e2
   exact(ho M hm).1
 ·have:=List.mem_singleton.mp q
  omega
theorem i3(hcc:cc=5\/cc=6)(h1:1<=n)(h20:n<=20)(hst:0 < st)(ht:0<=tp)(ho:OkS tp os)(hol:os.length=n)(hnb:∀i:Nat,∀x∈nbL ps i,0<=x/\x < n)(hl:∀i,(nbL ps i).length<=1000):Rl (lea .bor cc n ps os st tp) n (tp+1) true false (f_ ps os st tp) where
 le:=by simp
 tb:=by simp
 bo:=by simp
 a0:=by simp[ao,aV]
 a7:=by simp[ao,aV]
 a8:=by simp[ao,aV]
 s0:=by omega
 n1:=h1
 n20:=h20
 due:=fun fc cs k hfc hn hc hk=>by
  have d:=o6 (cc:=cc) (ps:=ps) (os:=os) (st:=st) (tp:=tp) (cs:=cs) (i:=k) hfc (by rcases hcc with rfl | rfl<;>rfl) (hnb k) (hl k) hst hn hol hk
  have b:=nO (st:=st) (i:=k) ht ho hn (hnb k) fun c hc'=>(hc c hc').1
  refine⟨?_,b.1,by omega⟩
  rcases hcc with rfl | rfl<;>simp[ay,hfc.tb,d,aB]
 rd:=fun r=>by rcases hcc with rfl | rfl<;>simp[aD]
 mv:=fun r=>by rcases hcc with rfl | rfl<;>simp[aq]
 tu:=fun r=>by rcases hcc with rfl | rfl<;>simp[aF]
 ca:=fun r=>by rcases hcc with rfl | rfl<;>simp[aE]
theorem kY(h:1<=n):OkS n (fs n r):=fun s hs=>by
 simp only[fs,List.mem_map,List.mem_range]at hs
 obtain⟨i,_,e⟩:=hs
 split at e
 ·cases e;omega
 ·cases e
theorem zY(h1:1<=n)(hn:cs.length=n)(hi:i < n)(hnb:∀i:Nat,∀x∈nbL ps i,0<=x/\x < n)(hc:InS (((n:Int)+1) * ((n:Int)+1)) cs):0<=ly n ps r cs i/\ly n ps r cs i <((n:Int)+1) * ((n:Int)+1):=by
 have hfa:∀c∈FA n cs,0<=c:=fun c hc'=>by
  obtain⟨x,hx,rfl⟩:=List.mem_map.mp hc'
  exact Int.ediv_nonneg (hc x hx).1 (by omega)
 obtain⟨b1,b2⟩:=nO (ps:=ps) (os:=fs n r) (st:=n) (tp:=n) (cs:=FA n cs) (i:=i) (by omega) (kY h1) (show(FA n cs).length=n by simpa using hn) (hnb i) hfa
 have c1:=q_ hn i hi
 have sn:0 <=(jJ n ps r cs i).sum:=by
  have:∀l:List Int,(∀x∈l,0<=x)->0<=l.sum:=fun l=>by
   induction l with
   | nil=>simp
   | cons a l ih =>
    intro h
    have:=ih fun x hx=>h x (List.mem_cons_of_mem _ hx)
    have:=h a List.mem_cons_self
    simp
    omega
  exact this _ fun x hx=>(kU hn hx).1
 unfold ly dcn
 generalize f_ ps (fs n r) n n (FA n cs) i=d at *
 have m1:0<=d * ((n:Int)+1):=Int.mul_nonneg b1 (by omega)
 have m2:d * ((n:Int)+1)<= n * ((n:Int)+1):=Int.mul_le_mul_of_nonneg_right b2 (by omega)
 have m3:((n:Int)+1) * ((n:Int)+1)=n * ((n:Int)+1)+((n:Int)+1):=by rw[Int.add_mul,Int.one_mul]
 split<;>omega
theorem yM(h1:1<=n)(h10:n<=10)(hnb:∀i:Nat,∀x∈nbL ps i,0<=x/\x < n)(hl:∀i:Nat,(nbL ps i).length<=1000):Rl (gro .bor n ps r) n (((n:Int)+1) * ((n:Int)+1)) true false (ly n ps r) where
 le:=by simp
 tb:=by simp
 bo:=by simp
 a0:=by simp[ao,aV]
 a7:=by simp[ao,aV]
 a8:=by simp[ao,aV]
 s0:=Int.mul_pos (by omega) (by omega)
 n1:=h1
 n20:=by omega
 due:=fun fc cs k hfc hn hc hk=>⟨by simp[ay,hfc.tb,zX (r:=r) hfc h1 h10 hnb hl hn hk,aB],zY h1 hn hk hnb hc⟩
 rd:=fun r=>by simp[aD]
 mv:=fun r=>by simp[aq]
 tu:=fun r=>by simp[aF]
 ca:=fun r=>by simp[aE]
structure Ms(o:PV)(n:Nat)(sp:Int)(al ip:Bool)(D:List Int->Nat->Int)(M:List Int->Int):Prop where
 me:∀f cs,Fc f\/f=.own->cs.length=n->InS sp cs->iH aC (.ok [.lst f (iL cs)]) o=.ok (.int (M cs))
 fa:∀cs nm,cs.length=n->InS sp cs->gw n al nm->caR n ip D cs=false->stR n D cs nm≠cs->M (stR n D cs nm) < M cs
 mv:∀cs,cs.length=n->InS sp cs->caR n ip D cs=false->mvR n D cs≠[]
theorem Fc.tb2(h:Fc f\/f=.own):Fc f.toBor\/f.toBor=.own:=by
 rcases h with(rfl | rfl) | rfl
 ·exact .inl (.inl rfl)
 ·exact .inl (.inr rfl)
 ·exact .inr rfl
theorem sC{D:List Int->Nat->Int}(h:caR n false D cs=false):mvR n D cs≠[]:=fun e=>by simp[caR,e]at h
theorem jD{e:Nat}(h1:0 < b)(h2:b<=1000)(he:e<=1000):pj [.int b,.int e]=.ok (.int (b ^ e)):=by
 refine aw ?_
 show xk [some (.int b),some (.int e),none,none]=_
 unfold xk
 refine ag (aA (v:=.int 1) (by simp) (by simp) rfl) ?_
 simp only[s0_,s1_]
 refine iY (fun k en=>∃x,en=[some (.int b),some (.int e),some (.int (b ^ k)),x]) (bv (n:=e) (by simp) (by omega)) ⟨none,by simp⟩ (fun k x en hx hP=>?_) (fun en hP=>?_)
 ·obtain⟨y,rfl⟩:=hP
  obtain⟨hk,rfl⟩:=cz hx
  have m1:b8 (.int (b ^ k)) (.int b)=.ok (.int (b ^ k * b)):=cU (.inr ⟨by omega,by omega⟩)
  exact⟨_,cE rfl,bx (aA (v:=.int (b ^ (k+1))) (by simp[m1,Int.pow_succ]) (by simp) rfl) ⟨_,rfl⟩⟩
 ·obtain⟨y,rfl⟩:=hP
  rw[aW]
  exact ef rfl
theorem uC(h:n<=10):(0:Int) < 2 ^ n/\(2:Int) ^ n<=1024:=by
 refine⟨Int.pow_pos (by decide),?_⟩
 rcases Nat.lt_or_ge n 10 with q | q
 ·exact Int.le_of_lt (Int.pow_lt_pow_of_lt (c:=10) (by decide) q)
 ·rw[show n=10 by omega];decide
section
variable{n:Nat}{D:List Int->Nat->Int}{cs nm:List Int}{i:Nat}
theorem gH(hi:i < n):gt (stR n D cs nm) i=if nm.contains (i:Int)then D cs i else gt cs i:=by simp[stR,gt,hi]
theorem kx(hn:cs.length=n)(h:stR n D cs nm≠cs):∃i,i < n/\nm.contains (i:Int)=true/\D cs i≠gt cs i:=by
 apply Classical.byContradiction
 intro no
 refine h (List.ext_getElem (by simp[stR,hn]) fun i a b=>?_)
 rw[<- iO _ _ a,<- iO _ _ b,gH (by omega)]
 split
 ·exact Classical.byContradiction fun z=>no ⟨i,by omega,‹_›,z⟩
 ·rfl
theorem rA(hn:cs.length=n)(hl:nm.length<=1)(hi:i < n)(hc:nm.contains (i:Int)=true):stR n D cs nm=cs.set i (D cs i):=by
 have e:nm=[(i:Int)]:=by
  cases nm with
  | nil=>simp at hc
  | cons a l =>
   cases l with
   | nil=>simp at hc;rw[hc]
   | cons b l=>simp at hl
 subst e
 refine List.ext_getElem (by simp[stR,hn]) fun j a b=>?_
 have hj:j < n:=by simpa[stR]using a
 rw[<- iO _ _ a,<- iO _ _ b,gH hj,fw _ (by omega)]
 by_cases e:j=i
 ·simp[e]
 ·rw[if_neg (by simp;omega),if_neg e]
def Wl(rk:Nat->Nat)(n:Nat)(p:Nat->Bool):Int:=(((List.range n).filter p).map fun i=>(2:Int) ^ rk i).sum
theorem m6:∀(n:Nat) (l:List Nat),l.Nodup->(∀x∈l,x < n)->(l.map fun x=>2 ^ x).sum < 2 ^ n
 | 0,l,_,h=>by
  cases l with
  | nil=>decide
  | cons x l=>exact absurd (h x List.mem_cons_self) (by omega)
 | n+1,l,nd,h=>by
  rw[Nat.pow_succ]
  by_cases q:n∈l
  ·have p:=List.perm_cons_erase q
   rw[(p.map fun x=>2 ^ x).sum_nat,List.map_cons,List.sum_cons]
   have nd':=List.nodup_cons.mp (p.nodup_iff.mp nd)
   have:=m6 n (l.erase n) nd'.2 fun x hx=>by
    have h1:=h x (List.mem_of_mem_erase hx)
    have h2:x≠n:=fun e=>nd'.1 (e▸hx)
    omega
   omega
  ·have:=m6 n l nd fun x hx=>by
    have h1:=h x hx
    have h2:x≠n:=fun e=>q (e▸hx)
    omega
   omega
theorem og:∀l:List Nat,((l.sum:Nat):Int)=(l.map fun x:Nat=>(x:Int)).sum
 | []=>by simp
 | x::l=>by
  have:=og l
  simp only[List.map_cons,List.sum_cons]
  omega
variable{rk:Nat->Nat}{p p':Nat->Bool}
theorem Ak{K:Nat}(inj:∀i j,i < n->j < n->rk i=rk j->i=j)(hk:∀i,i < n->p i=true->rk i < K):0<=Wl rk n p/\Wl rk n p < 2 ^ K:=by
 have mm:∀i ∈(List.range n).filter p,i < n/\p i=true:=fun i hi=>⟨List.mem_range.mp (List.mem_filter.mp hi).1,(List.mem_filter.mp hi).2⟩
 have nd:(((List.range n).filter p).map rk).Nodup:=by
  rw[List.Nodup,List.pairwise_map]
  exact List.Pairwise.imp_of_mem (fun {a b} ha hb hab e=>hab (inj a b (mm a ha).1 (mm b hb).1 e)) (List.nodup_range.filter _)
 have b:=m6 K (((List.range n).filter p).map rk) nd fun x hx=>by
  obtain⟨i,hi,rfl⟩:=List.mem_map.mp hx
  exact hk i (mm i hi).1 (mm i hi).2
 have e:Wl rk n p=(((((List.range n).filter p).map rk).map fun x=>2 ^ x).sum:Nat):=by
  rw[og]
  unfold Wl
  congr 1
  simp[List.map_map,Function.comp_def]
 rw[e]
 exact⟨by omega,by exact_mod_cast b⟩
theorem ux(inj:∀i j,i < n->j < n->rk i=rk j->i=j)(hm:m < n)(h1:p m=true)(h2:p' m=false)(h3:∀i,i < n->rk m < rk i->p' i=p i):Wl rk n p' < Wl rk n p:=by
 have sp:∀p:Nat->Bool,Wl rk n p=Wl rk n (fun i=>p i&&decide (rk m < rk i))+Wl rk n (fun i=>p i&&!decide (rk m < rk i)):=fun p=>by
  unfold Wl
  generalize List.range n=l
  induction l with
  | nil=>rfl
  | cons a l ih =>
   simp only[List.filter_cons]
   cases p a<;>cases decide (rk m < rk a)<;>simp[ih]<;>omega
 have e:Wl rk n (fun i=>p' i&&decide (rk m < rk i))=Wl rk n (fun i=>p i&&decide (rk m < rk i)):=by
  unfold Wl
  rw[List.filter_congr fun i hi=>?_]
  by_cases q:rk m < rk i
  ·rw[h3 i (List.mem_range.mp hi) q]
  ·simp[q]
 have lo:=(Ak (n:=n) (p:=fun i=>p' i && !decide (rk m < rk i)) (K:=rk m) inj fun i hi hp=>by
  simp at hp
  have:rk i≠rk m:=fun e=>by rw[inj i m hi hm e,h2]at hp;simp at hp
  omega).2
 have up:(2:Int) ^ rk m<=Wl rk n fun i=>p i&&!decide (rk m < rk i):=by
  refine qF (fun x hx=>?_) _ (List.mem_map.mpr ⟨m,List.mem_filter.mpr ⟨List.mem_range.mpr hm,by simp[h1]⟩,rfl⟩)
  obtain⟨i,_,rfl⟩:=List.mem_map.mp hx
  exact Int.le_of_lt (Int.pow_pos (by decide))
 rw[sp p',sp p,e]
 omega
theorem uw(n10:n<=10)(hr:∀i,i < n->rk i < n):ja (.lst f (iL (((List.range n).filter p).map fun i=>(2:Int) ^ rk i)))=.ok (.int (Wl rk n p)):=by
 refine kf ?_ fun x hx=>?_
 ·rw[List.length_map]
  exact Nat.le_trans (List.length_filter_le _ _) (by simp;omega)
 ·obtain⟨i,hi,rfl⟩:=List.mem_map.mp hx
  have:=hr i (List.mem_range.mp (List.mem_filter.mp hi).1)
  have:=uC (n:=rk i) (by omega)
  omega
abbrev mvB(D:List Int->Nat->Int)(cs:List Int)(i:Nat):Bool:=decide (D cs i≠gt cs i)
theorem k8(inj:∀i j,i < n->j < n->rk i=rk j->i=j)(rl:∀i,i < n->rk i < n)(loc:∀cs cs' i,i < n->(∀j,j < n->rk i < rk j->gt cs j=gt cs' j)->D cs i=D cs' i)(hn:cs.length=n)(hne:stR n D cs nm≠cs):Wl rk n (mvB D (stR n D cs nm)) < Wl rk n (mvB D cs):=by
 have mx:∀(d i:Nat),i < n->nm.contains (i:Int)=true/\D cs i≠gt cs i->n - rk i=d->∃m,m < n/\(nm.contains (m:Int)=true/\D cs m≠gt cs m)/\∀j,j < n->rk m < rk j->nm.contains (j:Int)=true->D cs j=gt cs j:=by
  intro d
  induction d using Nat.strongRecOn with
  | _ d ih =>
   intro i hi hP hd
   by_cases h:∃j,j < n/\(nm.contains (j:Int)=true/\D cs j≠gt cs j)/\rk i < rk j
   ·obtain⟨j,hj,hPj,hlt⟩:=h
    have:=rl j hj
    exact ih (n - rk j) (by omega) j hj hPj rfl
   ·exact⟨i,hi,hP,fun j hj hl hc=>Classical.byContradiction fun z=>h ⟨j,hj,⟨hc,z⟩,hl⟩⟩
 obtain⟨i,hi,hP⟩:=kx hn hne
 obtain⟨m,hm,⟨m1,m2⟩,top⟩:=mx _ i hi hP rfl
 have same:∀j,j < n->rk m < rk j->gt (stR n D cs nm) j=gt cs j:=fun j hj hlt=>by
  rw[gH hj]
  split
  ·exact top j hj hlt ‹_›
  ·rfl
 have du:∀j,j < n->rk m<=rk j->D (stR n D cs nm) j=D cs j:=fun j hj hle=>loc _ _ j hj fun k hk hl=>same k hk (by omega)
 refine ux inj hm (by simp[m2]) ?_ fun j hj hlt=>?_
 ·simp only[mvB,du m hm (Nat.le_refl _),gH hm,m1]
  simp
 ·simp only[mvB,du j hj (by omega),same j hj hlt]
theorem pG{o:PV}{al ip:Bool}(r:Rl o n sp al ip D)(n10:n<=10)(hr:∀i:Nat,i < n->iH cM (.ok [.int i]) o=.ok (.int (rk i))/\rk i < n)(hf:Fc f\/f=.own)(hn:cs.length=n)(hc:InS sp cs):wx [o,.lst f (iL cs)]=.ok (.int (Wl rk n (mvB D cs))):=by
 refine aw ?_
 show C_ [some o,some (.lst f (iL cs))]=_
 unfold C_
 have mo:=ie r (.inl (Fc.call hf)) hn hc
 have ml:=ki (n:=n) (D:=D) (cs:=cs)
 refine aZ ?_ (by simp)
 simp only[cP,bV,cL]
 rw[aM (xs:=iL (mvR n D cs)) (ys:=iL (((List.range n).filter (mvB D cs)).map fun i=>(2:Int) ^ rk i)) (by simp[r.le,r.tb,r.mv,mo,aB]) (by rw[aU];omega) ?_]
 ·simp[p1,uw n10 fun i hi=>(hr i hi).2]
 ·unfold mvR
  rw[show ∀l:List Nat,iL (l.map fun i:Nat=>(i:Int))=l.map fun i:Nat=>PV.int i from fun l=>by simp[iL],show ∀l:List Nat,iL (l.map fun i=>(2:Int) ^ rk i)=l.map fun i=>PV.int (2 ^ rk i)from fun l=>by simp[iL]]
  refine a6 (a:=fun i:Nat=>PV.int i) (f:=fun i=>PV.int (2 ^ rk i)) _ fun x hx=>⟨[some o,some (.int x)],by simp[tgN,aL,bB,r.bo],?_,by simp,by simp⟩
  have hx:=hr x (List.mem_range.mp (List.mem_filter.mp hx).1)
  have pw:=jD (e:=rk x) (b:=2) (by decide) (by decide) (by omega)
  simp[r.le,hx.1,pw,aB]
end
theorem vS(h1:1<=n)(n10:n<=10)(rg:∀x∈ps,0<=x.1/\x.1 < n/\0<=x.2/\x.2 < n/\x.1≠x.2)(hl:∀i,(nbL ps i).length<=1000):Ms (pnt .bor n ps) n n false false (k6 ps) fun cs=>Wl (fun i=>n - 1 - i) n (mvB (k6 ps) cs) where
 me:=fun f cs hf hn hc=>by
  have rk:∀i:Nat,i < n->Cl [pnt .bor n ps,.int i]=.ok (.int ((n - 1 - i:Nat):Int)):=fun i hi=>by
   refine aw ?_
   show C2 [some (pnt .bor n ps),some (.int i)]=_
   unfold C2
   exact aZ (by simp[ao,aV];omega) (by simp)
  have:=pG (rk:=fun i=>n - 1 - i) (oA h1 (by omega) rg hl) n10 (fun i hi=>⟨by simp[cM,rk i hi,aB],by omega⟩) (Fc.tb2 hf) hn hc
  simp[aC,this,aB]
 fa:=fun cs nm hn hc _ _ h=>k8 (by omega) (by omega) (fun a b i hi h=>wX rg fun j hj=>h j (by omega) (by omega)) hn h
 mv:=fun cs _ _ h=>sC h
theorem vT{ps:List Int}(T:Tree ps)(hl:ps.length<=9):Ms (cnt .bor ps) (ps.length+1) ((ps.length:Int)+2) false false (qT (ps.length+1) ps) fun cs=>Wl id (ps.length+1) (mvB (qT (ps.length+1) ps) cs) where
 me:=fun f cs hf hn hc=>by
  have rk:∀i:Nat,Cm [cnt .bor ps,.int i]=.ok (.int i):=fun i=>by
   refine aw ?_
   show Fu [some (cnt .bor ps),some (.int i)]=_
   exact ef rfl
  have:=pG (rk:=id) (oB hl) (by omega) (fun i hi=>⟨by simp[cM,rk i,aB],hi⟩) (Fc.tb2 hf) hn hc
  simp[aC,this,aB]
 fa:=fun cs nm hn hc _ _ h=>k8 (fun _ _ _ _ h=>h) (fun _ h=>h) (fun a b i hi h=>by
  unfold qT
  rw[oi fun k hk=>?_]
  obtain⟨k1,k2,k3⟩:=gT hk
  obtain⟨k4,k5⟩:=List.getElem?_eq_some_iff.mp k3
  have:=T _ k4
  exact h _ (by omega) (by simp only[id];omega)) hn h
 mv:=fun cs _ _ h=>sC h
def num(b:Int)(r f:Nat->Nat):Nat->Int
 | 0=>0
 | m+1=>(num b r f m * b+r m) * b+f m
def uW(n:Nat)(A x:Nat->Int)(m:Nat):Nat:=((List.range n).filter fun i=>decide (x i=m)&&decide ((m:Int) < A i)).length
def ww(n:Nat)(A x:Nat->Int)(m:Nat):Nat:=((List.range n).filter fun i=>decide ((m:Int) < x i)&&decide (A i=m)).length
theorem qO{p:Nat->Bool}:((List.range n).filter p).length<=n:=by
 have:=List.length_filter_le p (List.range n)
 rwa [List.length_range]at this
def mL(n T:Nat)(A x:Nat->Int):Int:=num ((n:Int)+1) (uW n A x) (ww n A x) T
theorem n8(f g:Nat->Int):∀l:List Nat,gx (iL (l.map f)) (iL (l.map g))=l.map fun i=>prV (f i,g i)
 | []=>rfl
 | i::l=>by
  have:=n8 f g l
  simp only[iL,List.map_cons,gx]at this ⊢
  rw[this]
  rfl
theorem o4{D:Nat->Int}(hf:Fc fc\/fc=.own)(hd:∀f k,Fc f->k < n->iH ay (.ok [.lst f (iL cs),.int k]) (lea .bor cc n ps os st T)=.ok (.int (D k)))(hn:cs.length=n)(n10:n<=10)(hT:T<=1000) :
  qQ [lea .bor cc n ps os st T,.lst fc (iL cs)]=.ok (.int (mL n T D (gt cs))):=by
 have fb:=Fc.of hf
 refine aw ?_
 show Dc [some (lea .bor cc n ps os st T),some (.lst fc (iL cs)),none,none,none,none,none,none]=_
 unfold Dc mL
 refine ag (aA (v:=.lst .own (iL ((List.range n).map D))) ?_ (by simp) rfl) ?_
 ·refine aM (xs:=b5 0 n) (bv (n:=n) (by simp[ao,aV]) (by omega)) (by rw[aW];omega) (jS 0 D n fun k hk=>⟨[some (lea .bor cc n ps os st T),some (.lst fc.borrow (iL cs)),some (.int (0+k))],by simp[tgN,aL,bB],?_⟩)
  have:=hd _ k fb hk
  simp[fb.le,this]
 simp only[s0_,s1_]
 refine ag (aA (v:=.int ((n:Int)+1)) (by simp[ao,aV]) (by simp) rfl) ?_
 simp only[s0_,s1_]
 refine ag (aA (v:=.int 0) (by simp) (by simp) rfl) ?_
 simp only[s0_,s1_]
 have zp:gx (iL cs) (iL ((List.range n).map D))=(List.range n).map fun i=>prV (gt cs i,D i):=by
  have:=n8 (gt cs) D (List.range n)
  rw[<- hn,gtR]at this
  rw[<- hn]
  exact this
 refine iY (fun k e=>∃x5 x6 x7,e=[some (lea .bor cc n ps os st T),some (.lst fc (iL cs)),some (.lst .own (iL ((List.range n).map D))),some (.int ((n:Int)+1)),some (.int (num ((n:Int)+1) (uW n D (gt cs)) (ww n D (gt cs)) k)),x5,x6,x7]) (bv (n:=T) (by simp[ao,aV]) (by omega)) ⟨_,_,_,rfl⟩ (fun k x e hx hP=>?_) (fun e hP=>?_)
 ·obtain⟨x5,x6,x7,rfl⟩:=hP
  obtain⟨hk,rfl⟩:=cz hx
  generalize hN:num ((n:Int)+1) (uW n D (gt cs)) (ww n D (gt cs)) k=N
  have mz:∀x6 x7,jf (ae (ac 1) (ae (ac 2) am)) [some (lea .bor cc n ps os st T),some (.lst fc (iL cs)),some (.lst .own (iL ((List.range n).map D))),some (.int ((n:Int)+1)),some (.int N),some (.int k),x6,x7]=.ok ((List.range n).map fun i=>prV (gt cs i,D i)):=fun x6 x7=>by
   unfold jf
   simp only[bV,dN,cL,List.getElem?_cons_zero,List.getElem?_cons_succ,zc]
   simp[dJ,zp]
  have row:∀(p:Nat->Bool) (mc:MT) (x6 x7:Option PV),(∀i,mc [some (.int k),some (.int (gt cs i)),some (.int (D i))]=.ok (p i))->aT [5] 2 (jf (ae (ac 1) (ae (ac 2) am))) (tgT 2 (bf (tgN 1) (bf (tgN 2) eE))) mc (ac 1) [some (lea .bor cc n ps os st T),some (.lst fc (iL cs)),some (.lst .own (iL ((List.range n).map D))),some (.int ((n:Int)+1)),some (.int N),some (.int k),x6,x7]=.ok (.lst .own (iL (((List.range n).filter p).map (gt cs)))):=fun p mc x6 x7 hp=>by
   rw[show iL (((List.range n).filter p).map (gt cs))=((List.range n).filter p).map fun i=>PV.int (gt cs i) by simp[iL]]
   exact aM (mz _ _) (by simp;omega) (bW (a:=fun i=>prV (gt cs i,D i)) (f:=fun i=>.int (gt cs i)) (p:=p) (List.range n) fun i hi=>⟨[some (.int k),some (.int (gt cs i)),some (.int (D i))],rfl,hp i,fun _=>⟨by simp,rfl,rfl⟩⟩)
  refine⟨_,cE rfl,?_⟩
  simp only[s0_,s1_,Int.zero_add]
  refine cA (aA (v:=.lst .own (iL (((List.range n).filter fun i=>decide (gt cs i=k)&&decide ((k:Int) < D i)).map (gt cs)))) (row _ _ _ _ fun i=>by by_cases q:gt cs i=k<;>simp[q]) (by simp) rfl) ?_
  simp only[s0_,s1_]
  refine cA (aA (v:=.lst .own (iL (((List.range n).filter fun i=>decide ((k:Int) < gt cs i)&&decide (D i=k)).map (gt cs)))) (row _ _ _ _ fun i=>by by_cases q:(k:Int) < gt cs i<;>simp[q]) (by simp) rfl) ?_
  simp only[s0_,s1_]
  have m1:∀x:Int,b8 (.int x) (.int ((n:Int)+1))=.ok (.int (x * ((n:Int)+1))):=fun x=>cU (.inr ⟨by omega,by omega⟩)
  exact bx (aA (v:=.int ((N * ((n:Int)+1)+uW n D (gt cs) k) * ((n:Int)+1)+ww n D (gt cs) k)) (by simp[m1,p1,b_,aQ,uW,ww]) (by simp) rfl) ⟨_,_,_,by subst hN;rfl⟩
 ·obtain⟨x5,x6,x7,rfl⟩:=hP
  rw[aW]
  exact ef rfl
theorem nL{x' r' r:Int}(hb:0 < b)(h:x' < x)(h1:r' < b)(h2:0<=r):x' * b+r' < x * b+r:=by
 have:(x' + 1) * b<=x * b:=Int.mul_le_mul_of_nonneg_right (by omega) (by omega)
 rw[Int.add_mul,Int.one_mul]at this
 omega
theorem tN{r f r' f':Nat->Nat}(hb:0 < b)(hr:∀m,(r' m:Int) < b)(hf:∀m,(f' m:Int) < b)(he:∀m < k,r' m=r m/\f' m=f m)(hk:r' k < r k \/(r' k=r k/\f' k < f k)):∀t,k < t->num b r' f' t < num b r f t:=by
 have same:∀m,m<=k->num b r' f' m=num b r f m:=fun m=>by
  induction m with
  | zero=>intro _;rfl
  | succ m ih =>
   intro h
   obtain⟨e1,e2⟩:=he m (by omega)
   simp only[num,ih (by omega),e1,e2]
 intro t ht
 induction t with
 | zero=>omega
 | succ t ih =>
  simp only[num]
  by_cases q:k=t
  ·subst q
   rw[same k (Nat.le_refl _)]
   rcases hk with h |⟨h,h2⟩
   ·exact nL hb (by omega) (hf k) (by omega)
   ·rw[h];omega
  ·exact nL hb (nL hb (ih (by omega)) (hr t) (by omega)) (hf t) (by omega)
theorem dZ{p q:Nat->Bool}:∀(l:List Nat) (i:Nat),i∈l->(∀j∈l,q j=true->p j=true)->p i=true->q i=false->(l.filter q).length <(l.filter p).length
 | [],_,h,_,_,_=>nomatch h
 | a::l,i,h,hs,hp,hq=>by
  have le:∀l:List Nat,(∀j∈l,q j=true->p j=true)->(l.filter q).length <=(l.filter p).length:=fun l hl=>by
   induction l with
   | nil=>simp
   | cons b l ih =>
    have:=ih fun j hj=>hl j (List.mem_cons_of_mem _ hj)
    have hb:=hl b List.mem_cons_self
    rw[List.filter_cons,List.filter_cons]
    cases e1:q b<;>cases e2:p b<;>simp_all<;>omega
  rw[List.filter_cons,List.filter_cons]
  rcases List.mem_cons.mp h with rfl | h
  ·have:=le l fun j hj=>hs j (List.mem_cons_of_mem _ hj)
   rw[hp,hq]
   simp
   omega
  ·have ih:=dZ l i h (fun j hj=>hs j (List.mem_cons_of_mem _ hj)) hp hq
   have ha:=hs a List.mem_cons_self
   cases e1:q a<;>cases e2:p a<;>simp_all<;>omega
theorem v6{x y A B:Nat->Int}(hi:i < n)(hx:0<=x i/\x i<=T)(hA:0<=A i/\A i<=T)(hd:A i≠x i)(yi:y i=A i)(yj:∀j,j≠i->y j=x j)(eq:∀j v,v<=x i->v<=A i->(B j=v↔A j=v)):mL n T B y < mL n T A x:=by
 have gv:∀j v,v<=x i->v<=A i->(v < B j↔v < A j):=fun j v h1 h2=>by
  have e1:=eq j (B j)
  have e2:=eq j (A j)
  omega
 have bd:∀p:Nat->Bool,(((List.range n).filter p).length:Int) <(n:Int)+1:=fun p=>by
  have:=qO (n:=n) (p:=p)
  omega
 obtain⟨k,k1,k2,k3⟩:∃k:Nat,(k:Int)<= x i/\(k:Int)<= A i/\(k=x i\/k=A i):=⟨(min (x i) (A i)).toNat,by omega⟩
 have df:∀{p:Prop} [Decidable p],¬p->decide p=false:=fun h=>decide_eq_false h
 refine tN (k:=k) (by omega) (fun m=>bd _) (fun m=>bd _) (fun m hm=>⟨?_,?_⟩) ?_ T (by omega)
 ·refine congrArg _ (List.filter_congr fun j _=>?_)
  by_cases e:j=i
  ·cases e
   rw[df (show ¬y i=m by omega),df (show ¬x i=m by omega)]
   rfl
  ·rw[yj j e,decide_eq_decide.mpr (gv j m (by omega) (by omega))]
 ·refine congrArg _ (List.filter_congr fun j _=>?_)
  rw[decide_eq_decide.mpr (eq j m (by omega) (by omega))]
  by_cases e:j=i
  ·cases e
   rw[df (show ¬A i=m by omega),Bool.and_false,Bool.and_false]
  ·rw[yj j e]
 ·by_cases q:A i < x i
  ·have ek:(k:Int)=A i:=by omega
   refine .inr ⟨congrArg _ (List.filter_congr fun j _=>?_),dZ (List.range n) i (List.mem_range.mpr hi) (fun j _ h=>?_) ?_ ?_⟩
   ·rw[decide_eq_decide.mpr (gv j k k1 k2)]
    by_cases e:j=i
    ·cases e
     rw[df (show ¬(k:Int) < A i by omega),Bool.and_false,Bool.and_false]
    ·rw[yj j e]
   ·rw[decide_eq_decide.mpr (eq j k k1 k2)]at h
    by_cases e:j=i
    ·cases e
     rw[df (show ¬(k:Int) < y i by omega)]at h;cases h
    ·rwa [yj j e]at h
   ·rw[decide_eq_true (show(k:Int) < x i by omega),decide_eq_true ek.symm];rfl
   ·rw[df (show ¬(k:Int) < y i by omega)];rfl
  ·have ek:(k:Int)=x i:=by omega
   refine .inl (dZ (List.range n) i (List.mem_range.mpr hi) (fun j _ h=>?_) ?_ ?_)
   ·rw[decide_eq_decide.mpr (gv j k k1 k2)]at h
    by_cases e:j=i
    ·cases e
     rw[df (show ¬y i=k by omega)]at h;cases h
    ·rwa [yj j e]at h
   ·rw[decide_eq_true ek.symm,decide_eq_true (show(k:Int) < A i by omega)];rfl
   ·rw[df (show ¬y i=k by omega)];rfl
section
variable{n:Nat}{ps:List (Int×Int)}{os:List (Option Int)}{st tp:Int}{cs cs':List Int}{k:Int}{i j:Nat}
theorem sA(he:∀x,x<=k->(x∈gy ps st tp cs j↔x∈gy ps st tp cs' j)):∀v,v<=k->f_ ps os st tp cs j=v->f_ ps os st tp cs' j=v:=fun v hv h=>by
 unfold f_ at h ⊢
 obtain⟨a1,a2⟩:=fI (l:=gy ps st tp cs j ++(os.getD j none).toList++[tp]) (by simp)
 obtain⟨b1,b2⟩:=fI (l:=gy ps st tp cs' j ++(os.getD j none).toList++[tp]) (by simp)
 rw[h]at a1 a2
 have m:∀x,x<=k->(x∈gy ps st tp cs j ++(os.getD j none).toList++[tp]↔ x∈gy ps st tp cs' j ++(os.getD j none).toList++[tp]):=fun x hx=>by
  simp only[List.mem_append,he x hx]
 have h1:=b2 v ((m v hv).mp a1)
 have h2:=a2 _ ((m _ (by omega)).mpr b1)
 omega
theorem vK{d:Int}(hi:i < cs.length)(h1:k<=gt cs i)(h2:k<=d):∀x,x<=k->(x∈gy ps st tp cs j↔x∈gy ps st tp (cs.set i d) j):=fun x hx=>by
 simp only[gy,List.mem_map,List.mem_filter]
 constructor
 ·rintro⟨c,⟨⟨o,ho,rfl⟩,h⟩,rfl⟩
  have:o.toNat≠i:=fun e=>by rw[e]at hx;omega
  exact⟨gt cs o.toNat,⟨⟨o,ho,by rw[fw _ hi,if_neg this]⟩,h⟩,rfl⟩
 ·rintro⟨c,⟨⟨o,ho,rfl⟩,h⟩,rfl⟩
  rw[fw _ hi]at hx h ⊢
  by_cases e:o.toNat=i
  ·rw[if_pos e]at hx;omega
  ·rw[if_neg e]at h ⊢
   exact⟨gt cs o.toNat,⟨⟨o,ho,rfl⟩,h⟩,rfl⟩
abbrev mT(n:Nat)(ps:List (Int×Int))(os:List (Option Int))(st:Int)(T:Nat)(cs:List Int):Int:=mL n T (f_ ps os st T cs) (gt cs)
theorem j9(ho:OkS T os)(hnb:∀i:Nat,∀x∈nbL ps i,0<=x/\x < n)(hn:cs.length=n)(hc:∀c∈cs,0<=c/\c<=T)(hi:i < n)(hm:f_ ps os st T cs i≠gt cs i):mT n ps os st T (cs.set i (f_ ps os st T cs i)) < mT n ps os st T cs:=by
 have hd:=nO (st:=st) (i:=i) (by omega) ho hn (hnb i) fun c h=>(hc c h).1
 refine v6 hi (hc _ (dA (by omega))) hd hm (by rw[fw _ (by omega),if_pos rfl]) (fun j hj=>by rw[fw _ (by omega),if_neg hj]) fun j v h1 h2=>?_
 have he:=vK (ps:=ps) (st:=st) (tp:=T) (cs:=cs) (i:=i) (j:=j) (k:=v) (by omega) h1 h2
 exact⟨sA (fun x hx=>(he x hx).symm) v (Int.le_refl _),sA he v (Int.le_refl _)⟩
theorem oU(hcc:cc=5\/cc=6)(h1:1<=n)(n10:n<=10)(hst:0 < st)(hT:T<=1000)(ho:OkS T os)(hol:os.length=n)(hnb:∀i:Nat,∀x∈nbL ps i,0<=x/\x < n)(hl:∀i,(nbL ps i).length<=1000):Ms (lea .bor cc n ps os st T) n ((T:Int)+1) true false (f_ ps os st T) (mT n ps os st T) where
 me:=fun f cs hf hn hc=>by
  have r:=i3 (cc:=cc) hcc h1 (by omega) hst (Int.natCast_nonneg T) ho hol hnb hl
  have:=o4 (Fc.tb2 hf) (fun f k hf hk=>(r.due f cs k hf hn hc hk).1) hn n10 hT
  rcases hcc with rfl | rfl<;>simp[aC,this,aB]
 fa:=fun cs nm hn hc hg _ h=>by
  obtain⟨i,hi,hi1,hi2⟩:=kx hn h
  rw[rA hn (hg.2.2.1 rfl) hi hi1]
  exact j9 ho hnb hn (fun c h=>by have:=hc c h;omega) hi hi2
 mv:=fun cs _ _ h=>sC h
end
def ltF(fa:List Int)(j i:Nat):Bool:=decide (gt fa j < gt fa i) ||(decide (gt fa j=gt fa i)&&decide (j < i))
def rnk(n:Nat)(fa:List Int)(i:Nat):Nat:=((List.range n).filter fun j=>ltF fa j i).length
section
variable{n:Nat}{ps:List (Int×Int)}{r:Nat}{cs fa:List Int}{i j:Nat}{fc:Fl}
theorem yP(hn:fa.length=n)(n10:n<=10)(hi:i < n):wF [.lst .bor (iL fa),.int i]=.ok (.int (rnk n fa i)):=by
 refine aw ?_
 show xD [some (.lst .bor (iL fa)),some (.int i),none]=_
 unfold xD
 refine ag (aA (v:=.lst .own (iL (((List.range n).filter fun j=>ltF fa j i).map fun j:Nat=>(j:Int)))) ?_ (by simp) rfl) ?_
 ·refine aM (xs:=b5 0 n) (bv (n:=n) (by simp[p1,b_,aQ,hn]) (by omega)) (by rw[aW];omega) (ge (fun j=>ltF fa j i) (fun j:Nat=>(j:Int)) n fun k hk=>⟨[some (.lst .bor (iL fa)),some (.int i),some (.int (0+k))],by simp[tgN,aL,bB,Fl.borrow],?_,fun _=>by simp⟩)
  have a1:∀(f:Fl) (k:Nat),k < n->aK (.lst f (iL fa)) (.int (k:Int))=.ok (.int (gt fa k)):=fun f k hk=>by simpa using b9 (f:=f) (cs:=fa) (i:=k) (by omega) (by omega)
  have e:HT.lexLt [gt fa k,(k:Int)] [gt fa i,(i:Int)]=ltF fa k i:=by
   simp only[HT.lexLt,ltF]
   by_cases h:gt fa k=gt fa i
   ·rw[if_pos h]
    by_cases h2:k=i
    ·subst h2;simp
    ·rw[if_neg (by omega)]
     simp[h]
   ·rw[if_neg h]
    simp[h]
  rw[<- e]
  simp[a1 _ k hk,a1 _ i hi,tJ,bw]
 simp only[s0_,s1_]
 exact aZ (by simp[p1,b_,aQ,rnk]) (by simp)
theorem qj(hi:i < n)(h:ltF fa i j=true):rnk n fa i < rnk n fa j :=
 dZ (List.range n) i (List.mem_range.mpr hi) (fun k _ q=>by
  simp only[ltF,Bool.or_eq_true,Bool.and_eq_true,decide_eq_true_eq]at *
  omega) h (by simp[ltF])
theorem m4(hi:i < n):rnk n fa i < n:=by
 have:=dZ (p:=fun _=>true) (q:=fun j=>ltF fa j i) (List.range n) i (List.mem_range.mpr hi) (fun _ _ _=>rfl) rfl (by simp[ltF])
 rwa [List.filter_eq_self.mpr (fun _ _=>rfl),List.length_range]at this
theorem yG(hi:i < n)(hj:j < n)(e:rnk n fa i=rnk n fa j):i=j:=by
 apply Classical.byContradiction
 intro h
 have:ltF fa i j=true\/ltF fa j i=true:=by
  simp only[ltF,Bool.or_eq_true,Bool.and_eq_true,decide_eq_true_eq]
  omega
 rcases this with q | q
 ·have:=qj hi q;omega
 ·have:=qj hj q;omega
abbrev wrg(n:Nat)(ps:List (Int×Int))(r:Nat)(cs:List Int)(i:Nat):Bool:=decide (gt (CN n cs) i≠dcn n ps r cs i)
def MG(n:Nat)(ps:List (Int×Int))(r:Nat)(cs:List Int):Int:=mT n ps (fs n r) n n (FA n cs) * 2 ^ n+Wl (rnk n (FA n cs)) n (wrg n ps r cs)
theorem wq{M:Int}(hf:Fc fc\/fc=.own)(n10:n<=10)(hnb:∀i:Nat,∀x∈nbL ps i,0<=x/\x < n)(hl:∀i:Nat,(nbL ps i).length<=1000)(hn:cs.length=n)
  (hM:qQ [lea .bor 5 n ps (fs n r) n n,.lst .bor (iL (FA n cs))]=.ok (.int M)):Cu [gro .bor n ps r,.lst fc (iL cs)]=.ok (.int (M * 2 ^ n+Wl (rnk n (FA n cs)) n (wrg n ps r cs))):=by
 refine aw ?_
 show Db [some (gro .bor n ps r),some (.lst fc (iL cs)),none,none,none,none]=_
 unfold Db
 have fo:=nN (ps:=ps) (r:=r) (Fc.call hf) n10 hn
 have co:=jR (ps:=ps) (r:=r) (Fc.call hf) n10 hn
 have fb:=Fc.of hf
 have fl:(FA n cs).length=n:=by simpa using hn
 refine ag (aA (v:=.lst .own (iL (FA n cs))) (by simp[db,fo,aB]) (by simp) rfl) ?_
 simp only[s0_,s1_]
 refine ag (aA (v:=.lst .own (iL (CN n cs))) (by simp[cw,co,aB]) (by simp) rfl) ?_
 simp only[s0_,s1_]
 refine ag (aA (v:=.lst .own (iL (((List.range n).filter (wrg n ps r cs)).map fun j:Nat=>(j:Int)))) ?_ (by simp) rfl) ?_
 ·refine aM (xs:=b5 0 n) (bv (n:=n) (by simp[ao,aV]) (by omega)) (by rw[aW];omega) (ge (wrg n ps r cs) (fun j:Nat=>(j:Int)) n fun k hk=>⟨[some (.lst .bor (iL (CN n cs))),some (gro .bor n ps r),some (.lst fc.borrow (iL cs)),some (.int (0+k))],by simp[tgN,aL,bB,Fl.borrow],?_,fun _=>by simp⟩)
  have a1:∀f,aK (.lst f (iL (CN n cs))) (.int (k:Int))=.ok (.int (gt (CN n cs) k)):=fun f=>by simpa using b9 (f:=f) (cs:=CN n cs) (i:=k) (by omega) (by simp;omega)
  have dc:=wZ (ps:=ps) (r:=r) (i:=k) fb n10 hnb hl hn
  generalize fc.borrow=g at fb dc ⊢
  simp[a1,cB,fb.le,fb.tb,dc,aB]
 simp only[s0_,s1_]
 refine ag (aA (v:=.lst .own (iL (((List.range n).filter (wrg n ps r cs)).map fun i=>(2:Int) ^ rnk n (FA n cs) i))) ?_ (by simp) rfl) ?_
 ·rw[show ∀l:List Nat,iL (l.map fun i=>(2:Int) ^ rnk n (FA n cs) i)=l.map fun i=>PV.int (2 ^ rnk n (FA n cs) i)from fun l=>by simp[iL]]
  have hx:∀l:List Nat,iL (l.map fun j:Nat=>(j:Int))=l.map fun j:Nat=>PV.int (j:Int):=fun l=>by simp[iL]
  refine aM (xs:=((List.range n).filter (wrg n ps r cs)).map fun j:Nat=>PV.int (j:Int)) (by rw[<- hx];simp) (by have:=qO (n:=n) (p:=wrg n ps r cs);rw[List.length_map];omega) (a6 (a:=fun j:Nat=>PV.int (j:Int)) (f:=fun i=>PV.int ((2:Int) ^ rnk n (FA n cs) i)) _ fun k hk=>⟨[some (.lst .bor (iL (FA n cs))),some (.int k)],by simp[tgN,aL,bB,Fl.borrow],?_,by simp,by simp⟩)
  have hk:=List.mem_range.mp (List.mem_filter.mp hk).1
  have rl:=m4 (fa:=FA n cs) hk
  have pw:=jD (e:=rnk n (FA n cs) k) (b:=2) (by decide) (by decide) (by omega)
  simp[yP fl n10 hk,pw,aB,Fl.lend,Fl.toBor]
 simp only[s0_,s1_]
 have pn:=jD (e:=n) (b:=2) (by decide) (by decide) (by omega)
 have p2:=uC n10
 have mu:b8 (.int M) (.int (2 ^ n))=.ok (.int (M * 2 ^ n)):=cU (.inr ⟨by omega,by omega⟩)
 have sm:=fun f=>uw (f:=f) (p:=wrg n ps r cs) n10 fun i hi=>m4 (fa:=FA n cs) hi
 generalize((List.range n).filter (wrg n ps r cs)).map (fun i=>(2:Int) ^ rnk n (FA n cs) i)=WS at *
 generalize(2:Int) ^ n=PN at *
 exact aZ (by simp[ao,aV,fA,hM,pn,mu,p1,sm,aB]) (by simp)
theorem Fk(hi:i < cs.length):gt (FA n cs) i=gt cs i / ((n:Int)+1):=by simp[FA,gt,hi]
theorem Fm(hi:i < cs.length):gt (CN n cs) i=gt cs i % ((n:Int)+1):=by simp[CN,gt,hi]
theorem kz{a m:Int}(hb:0<=b/\b<=m):(a * (m+1)+b) / (m+1)=a/\(a * (m+1)+b) % (m+1)=b:=by
 rw[Int.add_comm]
 constructor
 ·rw[Int.add_mul_ediv_right _ _ (by omega),Int.ediv_eq_zero_of_lt hb.1 (by omega)];omega
 ·rw[Int.add_mul_emod_self_right]
  exact Int.emod_eq_of_lt hb.1 (by omega)
theorem qK(n1:1<=n)(hnb:∀i:Nat,∀x∈nbL ps i,0<=x/\x < n)(hn:cs.length=n)(hc:InS (((n:Int)+1) * ((n:Int)+1)) cs)(hi:i < n)(hm:ly n ps r cs i≠gt cs i):MG n ps r (cs.set i (ly n ps r cs i)) < MG n ps r cs:=by
 have fl:(FA n cs).length=n:=by simpa using hn
 have cl:(CN n cs).length=n:=by simpa using hn
 have np:(0:Int) <(n:Int)+1:=by omega
 have hfa:∀c∈FA n cs,0<=c/\c <=(n:Int):=fun c hx=>by
  obtain⟨x,hm,rfl⟩:=List.mem_map.mp hx
  obtain⟨h1,h2⟩:=hc x hm
  have a:=Int.ediv_nonneg h1 (show 0 <=(n:Int)+1 by omega)
  have b:=Int.ediv_lt_of_lt_mul np h2
  exact⟨a,by omega⟩
 have sn:0 <=(jJ n ps r cs i).sum:=by
  cases e:jJ n ps r cs i with
  | nil=>simp
  | cons a l =>
   have h:=fun x hx=>(kU (ps:=ps) (r:=r) (i:=i) hn (x:=x) (by rw[e];exact hx)).1
   exact Int.le_trans (h a List.mem_cons_self) (qF h a List.mem_cons_self)
 have dr:0<=dcn n ps r cs i/\dcn n ps r cs i<=n:=by unfold dcn;omega
 have cr:=q_ hn i hi
 have inj:∀fa:List Int,∀i j,i < n->j < n->rnk n fa i=rnk n fa j->i=j:=fun fa i j h1 h2 e=>yG h1 h2 e
 have fS:∀v,FA n (cs.set i v)=(FA n cs).set i (v / ((n:Int)+1)):=fun v=>by simp[FA,List.map_set]
 have cS:∀v,CN n (cs.set i v)=(CN n cs).set i (v % ((n:Int)+1)):=fun v=>by simp[CN,List.map_set]
 unfold MG
 unfold ly at hm ⊢
 by_cases q:f_ ps (fs n r) n n (FA n cs) i=gt (FA n cs) i
 ·rw[if_pos q]at hm ⊢
  rw[q]at hm ⊢
  obtain⟨d1,d2⟩:=kz (a:=gt (FA n cs) i) dr
  have e1:FA n (cs.set i (gt (FA n cs) i * ((n:Int)+1)+dcn n ps r cs i))=FA n cs:=by
   rw[fS,d1,iO _ _ (by omega),List.set_getElem_self]
  have e2:CN n (cs.set i (gt (FA n cs) i * ((n:Int)+1)+dcn n ps r cs i))=(CN n cs).set i (dcn n ps r cs i):=by rw[cS,d2]
  generalize cs.set i (gt (FA n cs) i * ((n:Int)+1)+dcn n ps r cs i)=cs' at *
  have hw:gt (CN n cs) i ≠ dcn n ps r cs i:=fun e=>hm (by
   rw[<- e,Fk (by omega),Fm (by omega),Int.mul_comm]
   exact Int.mul_ediv_add_emod _ _)
  have dc:∀j:Nat,eld ps r (FA n cs) i≠some (j:Int)->dcn n ps r cs' j=dcn n ps r cs j:=fun j hj=>by
   unfold dcn jJ
   rw[e1,e2]
   congr 3
   refine List.map_congr_left fun x hx=>?_
   rw[fw _ (by omega),if_neg fun e=>hj ?_]
   subst e
   simpa using(List.mem_filter.mp hx).2
  have el:∀j:Nat,eld ps r (FA n cs) i=some (j:Int)->gt (FA n cs) j=gt (FA n cs) i - 1:=fun j h=>by
   unfold eld at h
   split at h
   ·cases h
   split at h
   ·cases h
   rename_i q2
   have a:=(List.mem_filter.mp (fI (l:=nea ps (FA n cs) i) (by simpa using q2)).1).2
   rw[Option.some.inj h]at a
   simpa using a
  have:=ux (p:=wrg n ps r cs) (p':=wrg n ps r cs') (inj (FA n cs)) hi (by simp [hw]) (by
   rw[wrg,e2,fw _ (by omega),if_pos rfl,dc i fun e=>by have:=el i e;omega]
   simp) fun j hj hl=>by
   have ji:j≠i:=fun e=>by subst e;omega
   rw[wrg,wrg,e2,fw _ (by omega),if_neg ji,dc j fun e=>?_]
   have:=qj (n:=n) (fa:=FA n cs) hj (j:=i) (by simp[ltF,el j e];omega)
   omega
  rw[e1]
  omega
 ·rw[if_neg q]
  obtain⟨d1,d2⟩:=kz (a:=f_ ps (fs n r) n n (FA n cs) i) cr
  rw[fS,d1]
  have f:=j9 (T:=n) (st:=n) (kY (r:=r) n1) hnb fl hfa hi q
  have b:=fun fa p=>Ak (n:=n) (p:=p) (K:=n) (inj fa) fun i hi _=>m4 hi
  exact nL (Int.pow_pos (by decide)) f (b _ _).2 (b _ _).1
theorem zo(h1:1<=n)(h10:n<=10)(hr:r < n)(hnb:∀i:Nat,∀x∈nbL ps i,0<=x/\x < n)(hl:∀i,(nbL ps i).length<=1000):Ms (gro .bor n ps r) n (((n:Int)+1) * ((n:Int)+1)) true false (ly n ps r) (MG n ps r) where
 me:=fun f cs hf hn hc=>by
  have hfa:InS ((n:Int)+1) (FA n cs):=fun c hx=>by
   obtain⟨x,hm,rfl⟩:=List.mem_map.mp hx
   obtain⟨h1,h2⟩:=hc x hm
   exact⟨Int.ediv_nonneg h1 (by omega),Int.ediv_lt_of_lt_mul (by omega) h2⟩
  have rl:=i3 (cc:=5) (st:=n) (tp:=n) (.inl rfl) h1 (by omega) (by omega) (by omega) (kY (r:=r) h1) (by simp[fs]) hnb hl
  have:=wq (r:=r) (Fc.tb2 hf) h10 hnb (fun i=>hl i) hn (o4 (T:=n) (.inl (.inl rfl)) (fun f k hf hk=>(rl.due f (FA n cs) k hf (by simpa using hn) hfa hk).1) (by simpa using hn) h10 (by omega))
  simp[aC,this,aB,MG]
 fa:=fun cs nm hn hc hg _ h=>by
  obtain⟨i,hi,hi1,hi2⟩:=kx hn h
  rw[rA hn (hg.2.2.1 rfl) hi hi1]
  exact qK h1 hnb hn hc hi hi2
 mv:=fun cs _ _ h=>sC h
end
def ka(cs:List Int):Prop:=∃j i,j < i/\i < cs.length/\gt cs j≠gt cs 0/\gt cs i=gt cs 0
def IsJ(sp:Int)(cs:List Int)(J:Nat):Prop:=(¬ka cs/\J=0)\/(ka cs/\1<=J/\J < cs.length/\(gt cs 0+J) % sp∉cs.drop 1/\∀s:Nat,1<=s->s < J->(gt cs 0+s) % sp∈cs.drop 1)
theorem pF{a b:Nat}(h:(c+a) % sp=(c+b) % sp)(ha:(a:Int) < sp)(hb:(b:Int) < sp):a=b:=by
 have h1:((c+a) - (c+b)) % sp=0:=Int.emod_eq_emod_iff_emod_sub_eq_zero.mp h
 rw[show(c+(a:Int)) - (c+b)=(a:Int) - b by omega]at h1
 obtain⟨k,hk⟩:=Int.dvd_of_emod_eq_zero h1
 rcases Int.lt_trichotomy k 0 with q | q | q
 ·have:sp * k<=sp * (-1):=Int.mul_le_mul_of_nonneg_left (by omega) (by omega)
  omega
 ·subst q;omega
 ·have:sp * 1<=sp * k:=Int.mul_le_mul_of_nonneg_left (by omega) (by omega)
  omega
section
variable{sp:Int}{cs nm:List Int}{n:Nat}
theorem wu(hs:(cs.length:Int)<= sp)(hc:0<=gt cs 0/\gt cs 0 < sp)(h:ka cs):∃s:Nat,1<=s/\s < cs.length/\(gt cs 0+s) % sp∉cs.drop 1:=by
 apply Classical.byContradiction
 intro no
 obtain⟨j,i,h1,h2,h3,e⟩:=h
 have nd:((List.range cs.length).map fun s:Nat=>(gt cs 0+s) % sp).Nodup:=by
  rw[List.Nodup,List.pairwise_map]
  refine List.Pairwise.imp_of_mem (fun {a b} ha hb hab z=>?_) (List.nodup_range (n:=cs.length))
  have ha':=List.mem_range.mp ha
  have hb':=List.mem_range.mp hb
  exact hab (pF z (by omega) (by omega))
 have le:=oT (l':=cs.drop 1) nd fun x hx=>by
  obtain⟨s,hs',rfl⟩:=List.mem_map.mp hx
  have hs2:=List.mem_range.mp hs'
  by_cases q:s=0
  ·subst q
   refine cJ.mpr ⟨i,by omega,h2,?_⟩
   rw[e,show gt cs 0+((0:Nat):Int)=gt cs 0 by omega,Int.emod_eq_of_lt hc.1 hc.2]
  ·exact Classical.byContradiction fun z=>no ⟨s,by omega,hs2,z⟩
 simp at le
 omega
theorem uI(hfc:Fc fc)(h1:1<=cs.length)(h2:cs.length<=1000)(hs:(cs.length:Int)<= sp)(hc:0<=gt cs 0/\gt cs 0 < sp):∃J:Nat,Ck [.lst fc (iL cs),.int sp]=.ok (.int J)/\IsJ sp cs J:=by
 have g0:aK (.lst fc (iL cs)) (.int 0)=.ok (.int (gt cs 0)):=b9 (by omega) (by omega)
 have bg:∃b:Nat,wC [.lst fc (iL cs)]=.ok (.int b)/\b<=cs.length/\(gt cs 0∈cs.drop b↔ka cs):=by
  suffices hh:iS (xw [some (.lst fc (iL cs)),none]) (fun v=>∃b:Nat,v=.int b/\b<=cs.length/\(gt cs 0∈cs.drop b↔ka cs)) by
   obtain⟨v,h3,b,rfl,h4⟩:=hh
   exact⟨b,aw h3,h4⟩
  unfold xw
  refine bT (aA (v:=.int 1) (by simp) (by simp) rfl) ?_
  simp only[s0_,s1_]
  refine kF (Fin:=fun e=>∃b:Nat,e=[some (.lst fc (iL cs)),some (.int b)]/\b<=cs.length/\(∀i,i < b->gt cs i=gt cs 0)/\(b < cs.length->gt cs b≠gt cs 0)) (fun m e=>∃b:Nat,e=[some (.lst fc (iL cs)),some (.int b)]/\m=cs.length - b/\b<=cs.length/\∀i,i < b->gt cs i=gt cs 0) (cs.length - 1) (by omega) ⟨1,rfl,rfl,h1,fun i hi=>by rw[show i=0 by omega]⟩ (fun m e hP=>?_) fun e hF=>?_
  ·obtain⟨b,rfl,rfl,b2,al⟩:=hP
   by_cases q:b < cs.length
   ·have gb:aK (.lst fc (iL cs)) (.int (b:Int))=.ok (.int (gt cs b)):=by simpa using b9 (f:=fc) (cs:=cs) (i:=b) (by omega) (by omega)
    by_cases q2:gt cs b=gt cs 0
    ·refine .inr ⟨by simp[p1,b_,aQ,hfc.le,g0,gb,q2];omega,cs.length - (b+1),[some (.lst fc (iL cs)),some (.int (b+1:Nat))],by omega,.inl (aA (v:=.int ((b+1:Nat):Int)) (by simp) (by simp) rfl),b+1,rfl,rfl,by omega,fun i hi=>?_⟩
     by_cases z:i=b
     ·rw[z];exact q2
     ·exact al i (by omega)
    ·exact .inl ⟨by simp[p1,b_,aQ,hfc.le,g0,gb,q2],b,rfl,b2,al,fun _=>q2⟩
   ·exact .inl ⟨by simp[p1,b_,aQ];omega,b,rfl,b2,al,fun z=>absurd z q⟩
  ·obtain⟨b,rfl,hb,al,nx⟩:=hF
   refine dG (ef rfl) ⟨b,rfl,hb,?_⟩
   rw[cJ]
   constructor
   ·rintro⟨i,h1,h2,e⟩
    have hb:=nx (by omega)
    refine⟨b,i,?_,h2,hb,e⟩
    rcases Nat.lt_or_eq_of_le h1 with q | q
    ·exact q
    ·subst q;exact absurd e hb
   ·rintro⟨j,i,h1,h2,h3,e⟩
    have:¬j < b:=fun z=>h3 (al j z)
    exact⟨i,by omega,h2,e⟩
 obtain⟨b,e1,bl,B⟩:=bg
 suffices hh:iS (C1 [some (.lst fc (iL cs)),some (.int sp),none]) (fun v=>∃J:Nat,v=.int J/\IsJ sp cs J) by
  obtain⟨v,h3,J,rfl,h4⟩:=hh
  exact⟨J,aw h3,h4⟩
 unfold C1
 have cb:jy (iL cs) (some (b:Int)) none=iL (cs.drop b):=mB cs b bl
 have c1:jy (iL cs) (some 1) none=iL (cs.drop 1):=mB cs 1 h1
 have sp0:0 < sp:=by omega
 by_cases st:ka cs
 ·have hm:=B.mpr st
  refine bT (bL (by simp only[km,gY,gX,jx,jP,dN,wT,cP,bV,cL];simp[hfc.le,hfc.tb,g0,e1,aB,cb];exact hm) az) ?_
  refine bT (aA (v:=.int 1) (by simp) (by simp) rfl) ?_
  simp only[s0_,s1_]
  obtain⟨s0,f1,f2,f3⟩:=wu hs hc st
  refine kF (Fin:=fun e=>∃J:Nat,e=[some (.lst fc (iL cs)),some (.int sp),some (.int J)]/\IsJ sp cs J) (fun m e=>∃s:Nat,e=[some (.lst fc (iL cs)),some (.int sp),some (.int s)]/\m=s0 - s/\1<=s/\s<=s0/\∀t:Nat,1<=t->t < s->(gt cs 0+t) % sp∈cs.drop 1) (s0 - 1) (by omega) ⟨1,rfl,rfl,by omega,f1,fun t a b=>by omega⟩ (fun m e hP=>?_) fun e hF=>?_
  ·obtain⟨s,rfl,rfl,b1,b2,al⟩:=hP
   have tst:av (mOp pIn (mOp bP (mOp aG (mOp aK (ac 0) (mC (.int (0)))) (ac 2)) (ac 1)) (gR (ac 0) (iy (mC (.int (1)))) jk)) [some (.lst fc (iL cs)),some (.int sp),some (.int s)]=.ok (decide ((gt cs 0+s) % sp∈cs.drop 1)):=by
    simp only[km,gY,gX,jx,jP,dN,wT]
    simp[hfc.le,g0,c1,bp sp0]
   by_cases q:(gt cs 0+s) % sp∈cs.drop 1
   ·have ns:s≠s0:=fun z=>f3 (by rw[<- z];exact q)
    refine .inr ⟨by rw[tst,decide_eq_true q],s0 - (s+1),[some (.lst fc (iL cs)),some (.int sp),some (.int (s+1:Nat))],by omega,.inl (aA (v:=.int ((s+1:Nat):Int)) (by simp) (by simp) rfl),s+1,rfl,rfl,by omega,by omega,fun t t1 t2=>?_⟩
    by_cases z:t=s
    ·rw[z];exact q
    ·exact al t t1 (by omega)
   ·exact .inl ⟨by rw[tst,decide_eq_false q],s,rfl,.inr ⟨st,b1,by omega,q,al⟩⟩
  ·obtain⟨J,rfl,hJ⟩:=hF
   exact dG (ef rfl) ⟨J,rfl,hJ⟩
 ·have hm:gt cs 0∉cs.drop b:=fun z=>st (B.mp z)
  exact uX (by simp only[km,gY,gX,jx,jP,dN,wT,cP,bV,cL];simp[hfc.le,hfc.tb,g0,e1,aB,cb];exact hm) (dG (v:=.int ((0:Nat):Int)) (aZ (by simp) (by simp)) ⟨0,rfl,.inl ⟨st,rfl⟩⟩)
def bc(cs:List Int):Nat->Int
 | 0=>0
 | j+1=>bc cs j+if gt cs j=gt cs (j+1)then 0 else 1
def bS(cs:List Int):Nat->Int
 | 0=>0
 | m+1=>bS cs m+bc cs m
theorem rh{c:Int}:∀m,((((List.range (m+1)).filter fun i=>decide (eK sp cs i≠gt cs i)).filter fun i=>decide (i≠0)).map fun i:Nat=>c - i).sum=bS cs (m+1)+(c - 1 - m) * bc cs m
 | 0=>by
  simp only[List.filter_filter]
  simp[bS,bc,List.range_succ]
 | m+1=>by
  have ih:=rh (c:=c) m
  have d:eK sp cs (m+1)=gt cs m:=rfl
  rw[List.range_succ,List.filter_append,List.filter_append,List.map_append,List.sum_append,ih]
  have e:c - 1 - (m:Int)=(c - 1 - ((m+1:Nat):Int))+1:=by omega
  simp only[bS,bc]
  generalize bc cs m=x
  by_cases q:gt cs m=gt cs (m+1)
  ·simp[d,q,e,Int.add_mul]
   omega
  ·simp[d,q,e,Int.add_mul,Int.mul_add]
   omega
abbrev tP(sp:Int)(cs nm:List Int):List Int:=stR cs.length (eK sp) cs nm
theorem yk(hi:i+1 < cs.length):gt (tP sp cs nm) (i+1)=if nm.contains ((i+1:Nat):Int)then gt cs i else gt cs (i+1):=gH hi
theorem sD{e:Int}(h0:gt (tP sp cs nm) 0=gt cs 0/\e=0\/e=1):∀j,j < cs.length->bc (tP sp cs nm) j<=bc cs j+e/\(gt (tP sp cs nm) j≠gt cs j->bc (tP sp cs nm) j+1<=bc cs j+e)
 | 0,_=>by
  simp only[bc]
  omega
 | j+1,hj=>by
  have ih:=sD h0 j (by omega)
  have g:=yk (sp:=sp) (nm:=nm) hj
  simp only[bc]
  rw[g]
  generalize bc (tP sp cs nm) j=u at *
  generalize gt (tP sp cs nm) j=v at *
  by_cases q:nm.contains ((j+1:Nat):Int)=true
  ·rw[if_pos q]
   split<;>split<;>omega
  ·rw[if_neg q]
   split<;>split<;>omega
theorem n5{e:Int}(h0:gt (tP sp cs nm) 0=gt cs 0/\e=0\/e=1):∀m,m < cs.length->bS (tP sp cs nm) (m+1)<= bS cs (m+1)+m * e/\(e=0->(∃i,i<=m/\gt (tP sp cs nm) i≠gt cs i)->bS (tP sp cs nm) (m+1) < bS cs (m+1))
 | 0,_=>by
  refine⟨by simp[bS,bc],fun z ⟨i,hi,hd⟩=>?_⟩
  rw[show i=0 by omega]at hd
  omega
 | m+1,hm=>by
  obtain⟨i1,i2⟩:=n5 h0 m (by omega)
  obtain⟨b1,b2⟩:=sD h0 (m+1) hm
  rw[bS,show bS cs (m+1+1)=bS cs (m+1)+bc cs (m+1)from rfl]
  have:((m+1:Nat):Int) * e=m * e+e:=by rw[Int.natCast_add,Int.add_mul];omega
  refine⟨by omega,fun z ⟨i,hi,hd⟩=>?_⟩
  subst z
  by_cases q:i=m+1
  ·subst q
   have:=b2 hd
   omega
  ·have:=i2 rfl ⟨i,by omega,hd⟩
   omega
theorem k7{v:Int}(h:v ∈(tP sp cs nm).drop 1):v∈cs.drop 1\/v=gt cs 0:=by
 obtain⟨i,h1,h2,e⟩:=cJ.mp h
 simp[stR]at h2
 obtain⟨j,rfl⟩:∃j,i=j+1:=⟨i - 1,by omega⟩
 rw[yk h2]at e
 split at e
 ·by_cases q:j=0
  ·subst q;exact .inr e.symm
  ·exact .inl (cJ.mpr ⟨j,by omega,by omega,e⟩)
 ·exact .inl (cJ.mpr ⟨j+1,by omega,h2,e⟩)
theorem Dm(hs:(cs.length:Int)<= sp)(hc:0<=gt cs 0/\gt cs 0 < sp)(h0:gt (tP sp cs nm) 0=gt cs 0)(hJ:IsJ sp cs J)(hJ':IsJ sp (tP sp cs nm) J'):J'<=J:=by
 rcases hJ' with⟨_,rfl⟩ |⟨st',j1',_,_,j4'⟩
 ·omega
 rcases hJ with⟨st,rfl⟩ |⟨st,j1,j2,j3,j4⟩
 ·exfalso
  obtain⟨j,i,h1,h2,h3,e⟩:=st'
  simp[stR]at h2
  rw[h0]at h3 e
  have ini:∀i j,j < i->i < cs.length->gt cs i=gt cs 0->gt cs j=gt cs 0:=fun i j a b c=>Classical.byContradiction fun z=>st ⟨j,i,a,b,z,c⟩
  have cj:∀m,m < i->(∀l,l<=m->gt cs l=gt cs 0)->gt (tP sp cs nm) m=gt cs 0:=fun m hm al=>by
   cases m with
   | zero=>exact h0
   | succ m =>
    rw[yk (by omega)]
    split
    ·exact al m (by omega)
    ·exact al (m+1) (by omega)
  obtain⟨p,rfl⟩:∃p,i=p+1:=⟨i - 1,by omega⟩
  rw[yk h2]at e
  refine h3 (cj j h1 fun l hl=>?_)
  split at e
  ·by_cases q:l=p
   ·rw[q];exact e
   ·exact ini p l (by omega) (by omega) e
  ·exact ini (p+1) l (by omega) h2 e
 ·apply Classical.byContradiction
  intro no
  have hm:=j4' J j1 (by omega)
  rw[h0]at hm
  rcases k7 hm with z | z
  ·exact j3 z
  ·have z':(gt cs 0+J) % sp=(gt cs 0+((0:Nat):Int)) % sp:=by
    rw[z,show gt cs 0+((0:Nat):Int)=gt cs 0 by omega,Int.emod_eq_of_lt hc.1 hc.2]
   have:=pF z' (by omega) (by omega)
   omega
theorem Dl(n2:2<=cs.length)(hl:gt cs 0=gt cs (cs.length - 1))(h0:gt (tP sp cs nm) 0=(gt cs 0+1) % sp)(hst:ka cs)(hJ:IsJ sp cs J)(hJ':IsJ sp (tP sp cs nm) J'):J' + 1<=J:=by
 have sub:∀v,v ∈(tP sp cs nm).drop 1->v∈cs.drop 1:=fun v hv=>by
  rcases k7 hv with z | z
  ·exact z
  ·exact cJ.mpr ⟨cs.length - 1,by omega,by omega,by rw[z,hl]⟩
 rcases hJ with⟨st,_⟩ |⟨_,j1,j2,j3,j4⟩
 ·exact absurd hst st
 rcases hJ' with⟨_,rfl⟩ |⟨st',j1',_,_,j4'⟩
 ·omega
 apply Classical.byContradiction
 intro no
 refine j3 ?_
 by_cases q:J=1
 ·subst q
  obtain⟨j,i,h1,h2,h3,e⟩:=st'
  refine sub _ (cJ.mpr ⟨i,by omega,h2,?_⟩)
  rw[e,h0]
  rfl
 ·have hm:=sub _ (j4' (J - 1) (by omega) (by omega))
  rw[h0,Int.emod_add_emod]at hm
  rwa [show gt cs 0+(J:Int)=gt cs 0+1+((J - 1:Nat):Int) by omega]
theorem Dk(h:IsJ sp cs J)(h':IsJ sp cs J'):J=J':=by
 rcases h with⟨s,rfl⟩ |⟨s,a1,a2,a3,a4⟩<;>rcases h' with⟨s',rfl⟩ |⟨s',b1,b2,b3,b4⟩
 ·rfl
 ·exact absurd s' s
 ·exact absurd s s'
 ·rcases Nat.lt_trichotomy J J' with q | q | q
  ·exact absurd (b4 J a1 q) a3
  ·exact q
  ·exact absurd (a4 J' b1 q) b3
theorem qp(hs:(cs.length:Int)<= sp)(n2:2<=cs.length)(hc:0<=gt cs 0/\gt cs 0 < sp)(hJ:IsJ sp cs J)(hJ':IsJ sp (tP sp cs nm) J')(hw:∃k,k+1 < cs.length/\gt cs k≠gt cs (k+1))(hne:tP sp cs nm≠cs) :
  (cs.length:Int) * J' + bS (tP sp cs nm) cs.length < cs.length * J+bS cs cs.length:=by
 have g0:gt (tP sp cs nm) 0=if nm.contains ((0:Nat):Int)then eK sp cs 0 else gt cs 0:=gH (by omega)
 obtain⟨i,hi,hi1,hi2⟩:=kx rfl hne
 have hi3:gt (tP sp cs nm) i≠gt cs i:=by
  rw[tP,gH hi,if_pos hi1]
  exact hi2
 obtain⟨m,hm⟩:∃m,cs.length=m+1:=⟨cs.length - 1,by omega⟩
 by_cases h0:gt (tP sp cs nm) 0=gt cs 0
 ·have w:=(n5 (e:=0) (.inl ⟨h0,rfl⟩) m (by omega)).2 rfl ⟨i,by omega,hi3⟩
  have jm:(cs.length:Int) * J'<=cs.length * J:=Int.mul_le_mul_of_nonneg_left (by have:=Dm hs hc h0 hJ hJ';omega) (by omega)
  rw[<- hm]at w
  omega
 ·have hn0:nm.contains ((0:Nat):Int)=true:=Classical.byContradiction fun z=>h0 (by rw[g0,if_neg z])
  rw[if_pos hn0]at g0
  unfold eK at g0
  rw[if_pos rfl]at g0
  by_cases hl:gt cs 0=gt cs (cs.length - 1)
  ·rw[if_pos hl]at g0
   have hst:ka cs:=by
    obtain⟨k,k1,k2⟩:=hw
    by_cases q:gt cs k=gt cs 0
    ·have q2:gt cs (k+1)≠ gt cs 0:=fun z=>k2 (q.trans z.symm)
     have:k+1≠cs.length - 1:=fun z=>q2 (by rw[z];exact hl.symm)
     exact⟨k+1,cs.length - 1,by omega,by omega,q2,hl.symm⟩
    ·exact⟨k,cs.length - 1,by omega,by omega,q,hl.symm⟩
   have j:=Dl n2 hl g0 hst hJ hJ'
   have w:=(n5 (sp:=sp) (cs:=cs) (nm:=nm) (e:=1) (.inr rfl) m (by omega)).1
   have jm:(cs.length:Int) * (J' + 1)<= cs.length * J:=Int.mul_le_mul_of_nonneg_left (by omega) (by omega)
   rw[Int.mul_add]at jm
   rw[<- hm]at w
   omega
  ·rw[if_neg hl]at g0
   exact absurd g0 h0
theorem DR(n2:2<=n)(hs:(n:Int)<= sp)(hn:cs.length=n)(hc:0<=gt cs 0/\gt cs 0 < sp)(h:caR n true (eK sp) cs=false):∃k,k+1 < n/\gt cs k≠gt cs (k+1):=by
 apply Classical.byContradiction
 intro no
 have al:∀i,i < n->gt cs i=gt cs 0:=fun i=>by
  induction i with
  | zero=>intro _;rfl
  | succ i ih =>
   intro hi
   rw[<- ih (by omega)]
   exact Classical.byContradiction fun z=>no ⟨i,hi,fun e=>z e.symm⟩
 have d0:eK sp cs 0≠gt cs 0:=by
  unfold eK
  rw[if_pos rfl,if_pos (al _ (by omega)).symm]
  by_cases q:gt cs 0+1 < sp
  ·rw[Int.emod_eq_of_lt (by omega) q];omega
  ·rw[show gt cs 0+1=sp by omega,Int.emod_self];omega
 obtain⟨m,rfl⟩:∃m,n=m+1:=⟨n - 1,by omega⟩
 have e:mvR (m+1) (eK sp) cs=[0]:=by
  unfold mvR
  rw[List.range_succ_eq_map,List.filter_cons,if_pos (by simpa using d0),List.filter_eq_nil_iff.mpr]
  ·rfl
  intro x hx
  obtain⟨i,hi,rfl⟩:=List.mem_map.mp hx
  have hi:=List.mem_range.mp hi
  have:eK sp cs (i+1)=gt cs i:=rfl
  simp[this,al i (by omega),al (i+1) (by omega)]
 simp[caR,e]at h
theorem zn(n2:2<=n)(n20:n<=20)(hs:(n:Int)<= sp):∃M,Ms (iE .bor n sp) n sp false true (eK sp) M:=by
 have r:=rJ (n:=n) (sp:=sp) (by omega) n20 (by omega)
 have ok:∀cs:List Int,cs.length=n->InS sp cs->∃m:Int,(∀f,Fc f\/f=.own->wy [iE .bor n sp,.lst f (iL cs)]=.ok (.int m))/\∃J,IsJ sp cs J/\m=n * J+bS cs n:=fun cs hn hc=>by
  have hc0:=hc _ (dA (far:=cs) (i:=0) (by omega))
  have so:=fun f hf=>uI (fc:=f) hf (cs:=cs) (by omega) (by omega) (by omega) hc0
  obtain⟨J,_,hJ⟩:=so .bor (.inl rfl)
  refine⟨n * J+bS cs n,fun f hf=>aw ?_,J,hJ,rfl⟩
  obtain⟨J',e1,hJ'⟩:=so _ (Fc.call hf)
  rw[Dk hJ' hJ]at e1
  show Da [some (iE .bor n sp),some (.lst f (iL cs)),none]=_
  unfold Da
  have mo:=ie r (.inl (Fc.call hf)) hn hc
  have ml:=ki (n:=n) (D:=eK sp) (cs:=cs)
  have ws:((((List.range n).filter fun i=>decide (eK sp cs i≠gt cs i)).filter fun i=>decide (i≠0)).map fun i:Nat=>(n:Int) - i).sum=bS cs n:=by
   obtain⟨m,rfl⟩:∃m,n=m+1:=⟨n - 1,by omega⟩
   have:=rh (sp:=sp) (cs:=cs) (c:=((m+1:Nat):Int)) m
   rw[show((m+1:Nat):Int) - 1 - m=0 by omega,Int.zero_mul,Int.add_zero]at this
   exact this
  have sm:∀g:Fl,ja (.lst g (iL ((((List.range n).filter fun i=>decide (eK sp cs i≠gt cs i)).filter fun i=>decide (i≠0)).map fun i:Nat=>(n:Int) - i)))=.ok (.int (bS cs n)):=fun g=>by
   rw[<- ws]
   refine kf ?_ fun x hx=>?_
   ·rw[List.length_map]
    refine Nat.le_trans (List.length_filter_le _ _) (Nat.le_trans (List.length_filter_le _ _) (by simp;omega))
   ·obtain⟨i,hi,rfl⟩:=List.mem_map.mp hx
    have:=List.mem_range.mp (List.mem_filter.mp (List.mem_filter.mp hi).1).1
    omega
  refine ag (aA (v:=.lst .own (iL ((((List.range n).filter fun i=>decide (eK sp cs i≠gt cs i)).filter fun i=>decide (i≠0)).map fun i:Nat=>(n:Int) - i))) ?_ (by simp) rfl) ?_
  ·refine aM (xs:=iL (mvR n (eK sp) cs)) (by simp[r.mv,mo,aB]) (by rw[aU];omega) ?_
   unfold mvR
   rw[show ∀l:List Nat,iL (l.map fun i:Nat=>(i:Int))=l.map fun i:Nat=>PV.int i from fun l=>by simp[iL],show ∀l:List Nat,iL (l.map fun i:Nat=>(n:Int) - i)=l.map fun i:Nat=>PV.int ((n:Int) - i)from fun l=>by simp[iL]]
   exact bW (a:=fun i:Nat=>PV.int i) (f:=fun i:Nat=>PV.int ((n:Int) - i)) (p:=fun i=>decide (i≠0)) _ fun x _=>⟨[some (iE .bor n sp),some (.int x)],by simp[tgN,aL,bB],by simp,fun _=>by simp[ao,aV]⟩
  simp only[s0_,s1_]
  have mu:b8 (.int (n:Int)) (.int (J:Int))=.ok (.int (n * J)):=cU (.inl ⟨by omega,by omega⟩)
  generalize List.map (fun i:Nat=>(n:Int) - i) _=WS at *
  exact aZ (by simp[ao,aV,e1,aB,mu,p1,sm]) (by simp)
 obtain⟨M,hM⟩:∃M:List Int->Int,∀cs:List Int,cs.length=n->InS sp cs->(∀f,Fc f\/f=.own->wy [iE .bor n sp,.lst f (iL cs)]=.ok (.int (M cs)))/\∃J,IsJ sp cs J/\M cs=n * J+bS cs n:=⟨fun cs=>Classical.epsilon fun m=>(∀f,Fc f\/f=.own->wy [iE .bor n sp,.lst f (iL cs)]=.ok (.int m))/\∃J,IsJ sp cs J/\m=n * J+bS cs n,fun cs hn hc=>Classical.epsilon_spec (ok cs hn hc)⟩
 refine⟨M,fun f cs hf hn hc=>?_,fun cs nm hn hc hg h hne=>?_,fun cs hn hc h e=>?_⟩
 ·simp[aC,(hM cs hn hc).1 _ (Fc.tb2 hf),aB]
 ·obtain⟨J,hJ,e⟩:=(hM cs hn hc).2
  obtain⟨s1,s2⟩:=pY r hn hc nm
  obtain⟨J',hJ',e'⟩:=(hM _ s1 s2).2
  rw[e,e']
  have hc0:=hc _ (dA (far:=cs) (i:=0) (by omega))
  have hw:=DR n2 hs hn hc0 h
  subst hn
  exact qp hs n2 hc0 hJ hJ' hw hne
 ·obtain⟨k,k1,k2⟩:=DR n2 hs hn (hc _ (dA (far:=cs) (i:=0) (by omega))) h
  have:((k+1:Nat):Int)∈ mvR n (eK sp) cs:=List.mem_map.mpr ⟨k+1,List.mem_filter.mpr ⟨List.mem_range.mpr k1,by simpa using(show eK sp cs (k+1)≠ gt cs (k+1)from k2)⟩,rfl⟩
  rw[e]at this
  exact nomatch this
end
structure KR(O o:PV)(n:Nat)(sp:Int)(al ip:Bool)(D:List Int->Nat->Int):Prop where
 own:O.has Fl.isBor=false
 nl:O.noLnt=true
 lb:(O.mapF Fl.lend).mapF Fl.toBor=o
 bb:O.mapF Fl.borrow=o
 la0:ao 0 (O.mapF Fl.lend)=.ok (.int n)
 la8:ao 8 (O.mapF Fl.lend)=.ok (.bl al)
 r:Rl o n sp al ip D
def nmL(u:Int)(n:Nat):List Int:=(List.range n).map fun a:Nat=>(u+3 * (a:Int)) % 10
theorem BY(u:Int)(n10:n<=10):OkM n (nmL u n):=by
 refine⟨by simp[nmL],?_,fun x hx=>?_⟩
 ·unfold nmL
  rw[List.Nodup,List.pairwise_iff_getElem]
  intro i j hi hj hij
  have hj':j < n:=by simpa using hj
  simp
  omega
 ·obtain⟨a,_,rfl⟩:=List.mem_map.mp hx
  omega
def gK(k:Nat):List Int->List Int
 | []=>[]
 | x::xs=>(x / 4 % ((k:Int)+1))::gK (k+1) xs
theorem oK:∀(l:List Int) (k:Nat),(gK k l).length=l.length
 | [],_=>rfl
 | x::l,k=>by simp[gK,oK l]
theorem oM:∀(l:List Int) (k i:Nat) (h:i <(gK k l).length),0 <=(gK k l)[i]/\(gK k l)[i]<= k+i
 | [],_,i,h=>by simp[gK]at h
 | x::l,k,0,_=>by
  simp only[gK,List.getElem_cons_zero]
  have:=Int.emod_nonneg (x / 4) (show(k:Int)+1≠0 by omega)
  have:=Int.emod_lt_of_pos (x / 4) (show(0:Int) <(k:Int)+1 by omega)
  omega
 | x::l,k,i+1,h=>by
  have:=oM l (k+1) i (by simpa[gK]using h)
  simp only[gK,List.getElem_cons_succ]
  omega
theorem mF{g:TgM}{me:ME}:∀(l:List Int) (k:Nat),(∀(j:Nat) (x:Int),x∈l->∃e1,g (.tup [.int j,.int x]) env=some e1/\me e1=.ok (.int (x / 4 % ((j:Int)+1))))->cY g bH me env (enP k (iL l))=.ok (iL (gK k l))
 | [],_,_=>rfl
 | x::l,k,h=>by
  obtain⟨e1,h1,h2⟩:=h k x List.mem_cons_self
  have ih:=mF l (k+1) fun j v hv=>h j v (List.mem_cons_of_mem _ hv)
  simp only[eM,enP,cY]
  have b:(PV.tup [.int k,.int x]).borrow=.tup [.int k,.int x]:=by simp[PV.borrow]
  rw[b,h1]
  rw[show((k+1:Nat):Int)=(k:Int)+1 by omega]at ih
  simp[h2,ih,gK]
theorem yF{kd:Nat}(fr cell:Int)(hk:kd < 6)(m1:1<=m)(m10:m<=10):∃O o n sp al ip D,sr [.int kd,.int m,.int fr,.int cell]=.ok O/\KR O o n sp al ip D/\(∃M,Ms o n sp al ip D M)/\n<=11:=by
 obtain⟨ws,hw,Wh⟩:=ye (n:=m) cell m1 m10
 have Gd:=Wh.good (by omega)
 have hin:=zG (fl:=.own) Gd m1 m10 (.inl rfl) fun S h0 hc=>z6 Wh (by omega) S h0 hc
 have rg:∀x∈cy (ws.map mm),0<=x.1/\x.1 < m/\0<=x.2/\x.2 < m/\x.1≠x.2:=fun x hx=>by
  obtain⟨w,hw,rfl⟩:=List.mem_map.mp ((cH _).mem_iff.mp hx)
  have:=Gd.rg w hw
  simp only[mm]
  omega
 have hl:∀i,(nbL (cy (ws.map mm)) i).length<=1000:=fun i=>by
  unfold nbL
  rw[(eO _).length_eq,List.length_append,List.length_map,List.length_map]
  have h1:=List.length_filter_le (fun x:Int×Int=>decide (x.2=(i:Int))) (cy (ws.map mm))
  have h2:=List.length_filter_le (fun x:Int×Int=>decide (x.1=(i:Int))) (cy (ws.map mm))
  have h3:(cy (ws.map mm)).length < 64:=by rw[(cH _).length_eq,List.length_map];exact Gd.sz
  omega
 generalize cy (ws.map mm)=ps at *
 have hnb:∀i:Nat,∀x∈nbL ps i,0<=x/\x < m:=fun i x hx=>by
  rcases nA.mp hx with q | q
  ·have:=rg _ q;omega
  ·have:=rg _ q;omega
 have np:(0:Int) < m:=by omega
 obtain⟨r,hr0⟩:∃r:Nat,fr % (m:Int)=r:=⟨(fr % (m:Int)).toNat,by have:=Int.emod_nonneg fr (show(m:Int)≠ 0 by omega);omega⟩
 have hr:r < m:=by have:=Int.emod_lt_of_pos fr np;omega
 have run:∀O,j_ [some (.int kd),some (.int m),some (.int fr),some (.int cell)]=.ret O->sr [.int kd,.int m,.int fr,.int cell]=.ok O:=fun O h=>aw h
 have:kd=0\/kd=1\/kd=2\/kd=3\/kd=4\/kd=5:=by omega
 rcases this with rfl | rfl | rfl | rfl | rfl | rfl
 ·have d3:dW (.int fr) (.int 3)=.ok (.int (fr / 3)):=fB (by decide) (by decide)
  have p59:m_ (.int 10) (.int 59)=.ok (.int 100000000000000000000000000000000000000000000000000000000000):=by rfl
  have m59:bP (.int fr) (.int 100000000000000000000000000000000000000000000000000000000000)=.ok (.int (fr % 100000000000000000000000000000000000000000000000000000000000)):=bp (by decide)
  have b59:=Int.emod_nonneg fr (show(100000000000000000000000000000000000000000000000000000000000:Int)≠ 0 by decide)
  generalize fr % 100000000000000000000000000000000000000000000000000000000000=w at m59 b59
  obtain⟨u,hu,hu0⟩:∃u:Int,oO (.lst .own [.int (fr % 3),.int w]) (.int (fr / 3 % 2))=.ok (.int u)/\0<=u:=by
   have:fr / 3 % 2=0\/fr / 3 % 2=1:=by omega
   rcases this with e | e
   ·exact⟨fr % 3,by rw[e];rfl,by omega⟩
   ·exact⟨w,by rw[e];rfl,b59⟩
  have pi:=vh (size:=(m:Int)+1) (span:=(m:Int)+1+u) (by omega) (by omega) (by omega)
  refine⟨iE .own ((m+1:Nat):Int) ((m:Int)+1+u),iE .bor ((m+1:Nat):Int) ((m:Int)+1+u),m+1,_,_,_,_,run _ ?_,⟨by simp[PV.has],by simp[PV.noLnt,PV.has],by simp[Fl.lend,Fl.toBor],by simp[Fl.borrow],by simp[ao,aV],by simp[ao,aV],rJ (by omega) (by omega) (by omega)⟩,zn (by omega) (by omega) (by omega),by omega⟩
  unfold j_
  exact c9 (im (by simp) (aZ (by simp[d3,p59,m59,bp,hu,pi,aB,PV.has]) (by simp[PV.noLnt,PV.has])))
 ·have pi:=tj (n:=m) (ps:=ps)
  refine⟨pnt .own m ps,pnt .bor m ps,m,_,_,_,_,run _ ?_,⟨by simp[PV.has],by simp[PV.noLnt,PV.has],by simp[Fl.lend,Fl.toBor],by simp[Fl.borrow],by simp[ao,aV],by simp[ao,aV],oA m1 (by omega) rg hl⟩,⟨_,vS m1 m10 rg hl⟩,by omega⟩
  unfold j_
  exact ag (bL (by simp) az) (c9 (im (by simp) (aZ (by simp[hw,hin,pi,aB,PV.has]) (by simp[PV.noLnt,PV.has]))))
 ·obtain⟨l,hl1,hl2,hl3⟩:=iJ cell (m - 1) (by omega)
  have hT:Tree (gK 0 l):=fun i h=>by have:=oM l 0 i h;omega
  have hp:(gK 0 l).length=m - 1:=by rw[oK,hl2]
  have hci:=w9 (f:=.own) hT (by omega) (.inl rfl)
  have rc:=oB (ps:=gK 0 l) (by omega)
  have hc:aT [] 2 (o3 (ap (aO kZ) (ae (ac 3) (ae (mOp il (ac 1) (mC (.int (1)))) am)))) (tgT 2 (bf (tgN 0) (bf (tgN 1) eE))) bH (mOp bP (mOp dW (ac 1) (mC (.int (4)))) (mOp aG (ac 0) (mC (.int (1))))) [some (.int (2:Nat)),some (.int m),some (.int fr),some (.int cell)]=.ok (.lst .own (iL (gK 0 l))):=by
   have cp:=mF (env:=bB [] 2 [some (.int (2:Nat)),some (.int m),some (.int fr),some (.int cell)]) (g:=tgT 2 (bf (tgN 0) (bf (tgN 1) eE))) (me:=mOp bP (mOp dW (ac 1) (mC (.int (4)))) (mOp aG (ac 0) (mC (.int (1))))) l 0 fun j x hx=>⟨[some (.int j),some (.int x)],by simp[tgT,bf,tgN,eE,aL,bB,cF],by simp[fB (i:=x) (show(0:Int) < 4 by decide) (by decide),bp (i:=x / 4) (show(0:Int) <(j:Int)+1 by omega)]⟩
   refine aM (xs:=enP 0 (iL l)) ?_ (by rw[e9,aU];omega) cp
   have nb:kZ [.int cell,.int ((m:Int) - 1)]=.ok (.lst .own (iL l)):=by rw[show(m:Int) - 1=((m - 1:Nat):Int) by omega];exact hl1
   unfold o3
   simp[nb,aB,aQ]
  generalize gK 0 l=qs at *
  have e1:qs.length+1=m:=by omega
  refine⟨cnt .own qs,cnt .bor qs,qs.length+1,_,_,_,_,run _ ?_,⟨by simp[PV.has],by simp[PV.noLnt,PV.has],by simp[Fl.lend,Fl.toBor],by simp[Fl.borrow],by simp[ao,aV],by simp[ao,aV],rc⟩,⟨_,vT hT (by omega)⟩,by omega⟩
  unfold j_
  refine ag (bL (by simp) az) (ag (bL (by simp) az) (c9 (im (by simp) (aZ ?_ (by simp[PV.noLnt,PV.has])))))
  simp only[wS,bV,cL,hc]
  simp[hci,aB,PV.has]
 ·have pi:=pf (f:=.own) (ps:=ps) (.inr rfl) m1 m10 hr
  refine⟨lea .own 5 m ps (fs m r) m m,lea .bor 5 m ps (fs m r) m m,m,_,_,_,_,run _ ?_,⟨by simp[PV.has],by simp[PV.noLnt,PV.has],by simp[Fl.lend,Fl.toBor],by simp[Fl.borrow],by simp[ao,aV],by simp[ao,aV],i3 (.inl rfl) m1 (by omega) np (by omega) (kY m1) (by simp[fs]) hnb hl⟩,⟨_,oU (.inl rfl) m1 m10 np (by omega) (kY m1) (by simp[fs]) hnb hl⟩,by omega⟩
  unfold j_
  exact ag (bL (by simp) az) (ag (bL (by simp) az) (ag (bL (by simp) az) (c9 (im (by simp) (aZ (by simp[hw,hin,bp np,hr0,pi,aB,PV.has]) (by simp[PV.noLnt,PV.has]))))))
 ·have N:=BY fr m10
  have pi:=t7 (ps:=ps) (fm:=.own) (.inr rfl) N m1 m10
  have os:OkS (10 * (m:Int)) (ls m (nmL fr m)):=fun s hs=>by
   simp only[ls,List.mem_map]at hs
   obtain⟨x,hx,e⟩:=hs
   have:=N.mr x hx
   cases e
   have h1:0 <=(9 - x) * (m:Int):=Int.mul_nonneg (by omega) (by omega)
   have h2:(9 - x) * (m:Int)<= 9 * m:=Int.mul_le_mul_of_nonneg_right (by omega) (by omega)
   omega
  have hc:aT [2] 1 (bI (ae (ac 1) am)) (tgN 1) bH (mOp bP (mOp aG (ac 0) (mOp b8 (mC (.int (3))) (ac 1))) (mC (.int (10)))) [some (.int (4:Nat)),some (.int m),some (.int fr),some (.int cell)]=.ok (.lst .own (iL (nmL fr m))) :=
   aM (xs:=b5 0 m) (bv (n:=m) (by simp) (by omega)) (by rw [aW];omega) (jS 0 (fun a:Nat=>(fr+3 * (a:Int)) % 10) m fun k hk=>⟨[some (.int fr),some (.int (0+k))],by simp [tgN,aL,bB],by
    have m3:b8 (.int 3) (.int (k:Int))=.ok (.int (3 * (k:Int))):=cU (.inl ⟨by decide,by decide⟩)
    simp[m3,bp]⟩)
  refine ⟨lea .own 6 m ps (ls m (nmL fr m)) m (10 * m),lea .bor 6 m ps (ls m (nmL fr m)) m (10 * m),m,_,_,_,_,run _ ?_,⟨by simp [PV.has],by simp [PV.noLnt,PV.has],by simp [Fl.lend,Fl.toBor],by simp [Fl.borrow],by simp [ao,aV],by simp [ao,aV],i3 (.inr rfl) m1 (by omega) np (by omega) os (by simp [ls,nmL]) hnb hl⟩,⟨_,by
   have:=oU (T:=10 * m) (os:=ls m (nmL fr m)) (.inr rfl) m1 m10 np (by omega) (by simpa using os) (by simp[ls,nmL]) hnb hl
   rwa [show((10 * m:Nat):Int)=10 * (m:Int) by omega]at this⟩,by omega⟩
  unfold j_
  refine ag (bL (by simp) az) (ag (bL (by simp) az) (ag (bL (by simp) az) (ag (bL (by simp) az) (c9 (im (by simp) (aZ ?_ (by simp[PV.noLnt,PV.has])))))))
  simp only[wS,bV,cL,hc]
  simp[hw,hin,pi,aB,PV.has]
 ·have pi:=wr (f:=.own) (ps:=ps) (.inr rfl) m1 m10 hr
  refine⟨gro .own m ps r,gro .bor m ps r,m,_,_,_,_,run _ ?_,⟨by simp[PV.has],by simp[PV.noLnt,PV.has],by simp[Fl.lend,Fl.toBor],by simp[Fl.borrow],by simp[ao,aV],by simp[ao,aV],yM m1 m10 hnb fun i=>hl i⟩,⟨_,zo m1 m10 hr hnb hl⟩,by omega⟩
  unfold j_
  exact ag (bL (by simp) az) (ag (bL (by simp) az) (ag (bL (by simp) az) (ag (bL (by simp) az) (ag (bL (by simp) az) (aZ (by simp[hw,hin,bp np,hr0,pi,aB,PV.has]) (by simp[PV.noLnt,PV.has]))))))
def tQ(n:Nat)(l:List (List Int)):Bool:=((List.range n).map fun a:Nat=>(l.map fun nm=>nm.contains (a:Int)).any id).all id
theorem ng{bs:List Bool}:kb lD (.lst f (bs.map .bl))=.ok (.bl (bs.all id)):=by
 unfold kb
 dsimp only
 rw[mI]
 rfl
theorem zd{bs:List Bool}:kb pR (.lst f (bs.map .bl))=.ok (.bl (bs.any id)):=by
 unfold kb
 dsimp only
 rw[mI]
 rfl
theorem nB{l:List (List Int)}(ht:Fc ft\/ft=.own)(hi:Fc fi)(n20:n<=20)(hl:l.length<=1000):wD [.int n,.lst ft (llL fi l)]=.ok (.bl (tQ n l)):=by
 refine aw ?_
 show xy [some (.int n),some (.lst ft (llL fi l))]=_
 unfold xy tQ
 refine aZ ?_ (by simp)
 have fb:=Fc.of ht
 simp only[cP,bV,cL]
 rw [aM (xs:=b5 0 n) (ys:=((List.range n).map fun a:Nat=>(l.map fun nm=>nm.contains (a:Int)).any id).map .bl) (bv (n:=n) (by simp) (by omega)) (by rw [aW];omega) (by
  rw[List.map_map]
  refine a6 (a:=fun k:Nat=>PV.int (0+(k:Int))) (f:=PV.bl ∘ fun a:Nat=>(l.map fun nm=>nm.contains (a:Int)).any id) (List.range n) fun a ha=>⟨[some (.lst ft.borrow (llL fi l)),some (.int (0+a))],by simp[tgN,aL,bB,PV.borrow,hi.bo],?_,by simp,by simp⟩
  simp only[cP,bV,cL]
  rw [aM (xs:=llL fi l) (ys:=(l.map fun nm=>nm.contains (a:Int)).map .bl) (by simp [fb.le,hi.le]) (by rw [f7];omega) (by
   rw[List.map_map]
   exact a6 (a:=fun nm=>PV.lst fi (iL nm)) (f:=PV.bl ∘ fun nm:List Int=>nm.contains (a:Int)) l fun nm _=>⟨[some (.int (0+a)),some (.lst fi (iL nm))],by simp[tgN,aL,bB,PV.borrow,hi.bo],by simp,by simp,by simp⟩)]
  simp only[Res.ok_bind,p1,zd,Function.comp])]
 simp only[Res.ok_bind,p1,ng]
theorem yJ{ms:MA}{n:Int}(h:ms env=.ok [.int n])(hn:n < 1000000):oZ ms env=.ok (b5 0 n.toNat):=by
 unfold oZ
 rw[h]
 simp[hn]
theorem z5(xs:List PV)(lo hi:Nat){l h:Int}(hl:l=lo)(hh:h=hi):jy xs (some l) (some h)=(xs.take hi).drop lo:=by
 subst hl hh
 unfold jy
 rw[HT.sIx_nat,HT.sIx_nat,List.drop_take]
 rcases Nat.le_total lo xs.length with h1 | h1
 ·rw[Nat.min_eq_left h1]
  rcases Nat.le_total hi xs.length with h2 | h2
  ·rw[Nat.min_eq_left h2]
  ·rw[Nat.min_eq_right h2,List.take_of_length_le (by simp),List.take_of_length_le (by simp;omega)]
 ·rw[Nat.min_eq_right h1,List.drop_eq_nil_of_le (Nat.le_refl _),List.drop_eq_nil_of_le h1]
  simp
def sj(n:Nat)(tns:List (List Int))(w:Int):Bool:=((List.range ((tns.length:Int) - w+1).toNat).map fun k=>tQ n ((tns.take (k+w.toNat)).drop k)).all id
theorem zL{w:Int}(ht:Fc ft\/ft=.own)(hi:Fc fi)(hw:1<=w)(n20:n<=20)(hl:tns.length<=1000):md [.int n,.lst ft (llL fi tns),.int w]=.ok (.bl (sj n tns w)):=by
 refine aw ?_
 show xj [some (.int n),some (.lst ft (llL fi tns)),some (.int w)]=_
 unfold xj sj
 refine aZ ?_ (by simp)
 have fb:=Fc.of ht
 simp only[cP,bV,cL]
 rw [aM (xs:=b5 0 ((tns.length:Int) - w+1).toNat) (ys:=((List.range ((tns.length:Int) - w+1).toNat).map fun k=>tQ n ((tns.take (k+w.toNat)).drop k)).map .bl) (yJ (n:=(tns.length:Int) - w+1) (by simp) (by omega)) (by rw [aW];omega) (by
  rw[List.map_map]
  refine a6 (a:=fun k:Nat=>PV.int (0+(k:Int))) (f:=PV.bl ∘ fun k=>tQ n ((tns.take (k+w.toNat)).drop k)) (List.range _) fun k hk=>⟨[some (.int n),some (.lst ft.borrow (llL fi tns)),some (.int w),some (.int (0+k))],by simp[tgN,aL,bB,PV.borrow,hi.bo],?_,by simp,by simp⟩
  have ec:jy (llL fi tns) (some (k:Int)) (some ((k:Int)+w))=llL fi ((tns.take (k+w.toNat)).drop k):=by
   rw[z5 _ k (k+w.toNat) rfl (by omega)]
   simp[llL]
  have na:=nB (n:=n) (l:=(tns.take (k+w.toNat)).drop k) (ft:=.own) (.inr rfl) hi n20 (by simp;omega)
  simp only[cP,bV,cL,gX,dN,jx,gY]
  simp[fb.le,hi.le,hi.tb,ec,na,aB])]
 simp only[Res.ok_bind,p1,ng]
theorem qN{lo hi j:Nat}(h:hi<=tns.length):(∃nm ∈(tns.take hi).drop lo,nm.contains (j:Int)=true)↔ ∃i,lo<=i/\i < hi/\(tns.getD i []).contains (j:Int)=true:=by
 constructor
 ·rintro⟨nm,hm,hc⟩
  obtain⟨i,hi',e⟩:=List.getElem_of_mem hm
  have hlt:lo+i < hi:=by simp at hi';omega
  refine⟨lo+i,by omega,hlt,?_⟩
  rw[List.getElem_drop,List.getElem_take]at e
  rw[List.getD_eq_getElem?_getD,List.getElem?_eq_getElem (by omega),e]
  exact hc
 ·rintro⟨i,h1,h2,hc⟩
  refine⟨tns[i]'(by omega),?_,?_⟩
  ·refine List.mem_iff_getElem.mpr ⟨i - lo,by simp;omega,?_⟩
   rw[List.getElem_drop,List.getElem_take]
   congr 1
   omega
  ·rw[List.getD_eq_getElem?_getD,List.getElem?_eq_getElem (by omega)]at hc
   exact hc
theorem oP(z:Int)(n20:n<=20):∃od:List Int,pq [.int n,.int z]=.ok (.lst .own (iL od))/\od.Perm ((List.range n).map fun k:Nat=>(k:Int)):=by
 suffices hh:iS (xA [some (.int n),some (.int z),none,none]) (fun v=>∃od:List Int,v=.lst .own (iL od)/\od.Perm ((List.range n).map fun k:Nat=>(k:Int))) by
  obtain⟨v,h1,od,rfl,h2⟩:=hh
  exact⟨od,aw h1,h2⟩
 unfold xA
 refine bT (aA (v:=.lst .own []) (by simp) (by simp) rfl) ?_
 simp only[s0_,s1_]
 refine fF (fun k e=>∃od a,e=[some (.int n),some (.int z),some (.lst .own (iL od)),a]/\od.Perm ((List.range k).map fun k:Nat=>(k:Int))) (bv (n:=n) (by simp) (by omega)) ⟨[],_,rfl,.refl _⟩ (fun k x e hx hP=>?_) (fun e hP=>?_)
 ·obtain⟨od,a,rfl,hp⟩:=hP
  obtain⟨hk,rfl⟩:=cz hx
  have hlen:od.length=k:=by simpa using hp.length_eq
  have kp:(0:Int) <(k:Int)+1:=by omega
  have b1:=Int.emod_nonneg (z / ((k:Int)+1)) (show(k:Int)+1≠0 by omega)
  have b2:=Int.emod_lt_of_pos (z / ((k:Int)+1)) kp
  generalize hq:z / ((k:Int)+1) % ((k:Int)+1)=q at *
  refine⟨_,cE rfl,bx (l6 (v:=.int k) (xs:=iL od) (j:=q) (n:=q.toNat) (by simp[fB (i:=z) kp (by omega),bp kp,hq]) (by simp) rfl rfl rfl (by omega) (by rw[aU,hlen];omega) (by rw[aU];omega)) ⟨PR.ce q.toNat (k:Int) od,some (.int (0+k)),by rw[u8];rfl,?_⟩⟩
  refine(fG _ _ _).trans ((hp.cons _).trans ?_)
  rw[List.range_succ,List.map_append]
  exact(List.perm_append_singleton _ _).symm
 ·obtain⟨od,a,rfl,hp⟩:=hP
  rw[aW]at hp
  exact dG (ef rfl) ⟨od,rfl,hp⟩
section
variable{o:PV}{n:Nat}{sp:Int}{al ip:Bool}{D:List Int->Nat->Int}
theorem vQ(r:Rl o n sp al ip D){z:Int}(hc:0<=c/\c < n){x1 x2 x3 x4 x7:Option PV}:∃nm x7',mBr (kQ (dL (mUn (ao 8) (ac 0)))) (ar (aX 7 (mOp bP (mOp b8 (mOp bP (mOp dW (ac 5) (mC (.int (7)))) (mC (.int (1021)))) (mC (.int (271)))) (mC (.int (1021))))) (aX 6 (mOp aG (aT [7,6] 1 (bI (ae (mUn (ao 0) (ac 0)) am)) (tgN 2) ((gp (av (mOp pEq (mOp bP (mOp vw (ac 0) (ac 2)) (mC (.int (2)))) (mC (.int (1))))) (av (mOp pNe (ac 2) (mOp aK (ac 1) (mC (.int (0)))))))) (ac 2)) (ac 6)))) aY [some o,x1,x2,x3,x4,some (.int z),some (.lst .own (iL [c])),x7]=.next [some o,x1,x2,x3,x4,some (.int z),some (.lst .own (iL nm)),x7']/\gw n al nm/\nm.contains c=true:=by
 have n1:=r.n1
 have n20:=r.n20
 cases al with
 | true=>exact⟨[c],x7,bL (by simp[r.le,r.a8]) az,⟨by simp,fun x hx=>by simp at hx;omega,fun _=>by simp,by simp⟩,by simp⟩
 | false =>
  have d7:dW (.int z) (.int 7)=.ok (.int (z / 7)):=fB (by decide) (by decide)
  have u1:=Int.emod_nonneg (z / 7) (show(1021:Int)≠ 0 by decide)
  have u2:=Int.emod_lt_of_pos (z / 7) (show(0:Int) < 1021 by decide)
  have mu:b8 (.int (z / 7 % 1021)) (.int 271)=.ok (.int (z / 7 % 1021 * 271)):=cU (.inr ⟨by decide,by decide⟩)
  generalize hw:z / 7 % 1021 * 271 % 1021=w
  obtain⟨row,hrow⟩:∃row:List Int,row=((List.range n).filter fun k:Nat=>decide (w / 2 ^ k % 2=1/\(k:Int)≠ c)).map fun k:Nat=>(k:Int):=⟨_,rfl⟩
  have rln:row.length<=n:=by
   rw[hrow,List.length_map]
   exact qO
  have rm:∀x∈row,(0<=x/\x < n)/\x≠c:=fun x hx=>by
   rw[hrow]at hx
   obtain⟨k,hk,rfl⟩:=List.mem_map.mp hx
   have h1:=List.mem_range.mp (List.mem_filter.mp hk).1
   have h2:=(List.mem_filter.mp hk).2
   simp at h2
   exact⟨by omega,h2.2⟩
  have rnd:row.Nodup:=by
   rw[hrow]
   exact List.Pairwise.map _ (fun a b h e=>h (by omega)) (List.nodup_range.filter _)
  refine⟨row++[c],some (.int w),im (by simp[r.le,r.a8]) (ag (aA (v:=.int w) (by simp[d7,bp,mu,hw]) (by simp) rfl) ?_),⟨?_,fun x hx=>?_,fun z=>by simp at z,by simp;omega⟩,by simp⟩
  ·simp only[s0_,s1_]
   refine aA (i:=6) (v:=.lst .own (iL (row++[c]))) ?_ (by simp) rfl
   simp only[gY,dN]
   rw [aM (xs:=b5 0 n) (ys:=iL row) (bv (n:=n) (by simp [r.le,r.a0]) (by omega)) (by rw [aW];omega) (by
    rw[hrow]
    refine ge (fun k:Nat=>decide (w / 2 ^ k % 2=1/\(k:Int)≠ c)) (fun k=>(k:Int)) n fun k hk=>⟨[some (.int w),some (.lst .bor (iL [c])),some (.int (0+k))],by simp[tgN,aL,bB,PV.borrow],?_,fun _=>by simp⟩
    have ic:aK (.lst .bor [.int c]) (.int 0)=.ok (.int c):=rfl
    have sh:vw (.int w) (.int (k:Int))=.ok (.int (w / 2 ^ k)):=by simp[vw,et]
    by_cases q:w / 2 ^ k % 2=1<;>simp[sh,bp,ic,q])]
   simp
   rw[gJ (by decide) (by decide) (by simp;omega)]
   simp[iL]
  ·rw[List.nodup_append]
   exact⟨rnd,by simp,fun a ha b hb e=>by simp at hb;exact(rm a ha).2 (by omega)⟩
  ·rcases List.mem_append.mp hx with hx | hx
   ·exact(rm x hx).1
   ·simp at hx;omega
theorem blk(b:Nat)(h:i < n):(i+b * n) / n=b/\(i+b * n) % n=i:=⟨by rw[Nat.add_mul_div_right _ _ (by omega),Nat.div_eq_of_lt h,Nat.zero_add],by rw[Nat.add_mul_mod_self_right,Nat.mod_eq_of_lt h]⟩
theorem uD(r:Rl o n sp al ip D){zs:List Int}(hl:zs.length<=1000):∃tns:List (List Int),wA [o,.lst .own (iL zs)]=.ok (.lst .own (llL .frz tns))/\tns.length=zs.length/\(∀nm∈tns,gw n al nm)/\∀b a:Nat,a < n->b * n+n<=zs.length->∃j,b * n<=j/\j < b * n+n/\(tns.getD j []).contains (a:Int)=true:=by
 have n1:=r.n1
 have np:(0:Int) < n:=by omega
 obtain⟨OF,hO⟩:∃F:Int->List Int,∀z,pq [.int n,.int z]=.ok (.lst .own (iL (F z)))/\(F z).Perm ((List.range n).map fun k:Nat=>(k:Int)):=⟨fun z=>Classical.choose (oP z r.n20),fun z=>Classical.choose_spec (oP z r.n20)⟩
 have ol:∀z,(OF z).length=n:=fun z=>by simpa using(hO z).2.length_eq
 suffices hh:iS (xt [some o,some (.lst .own (iL zs)),none,none,none,none,none,none]) (fun v=>∃tns:List (List Int),v=.lst .own (llL .frz tns)/\tns.length=zs.length/\(∀nm∈tns,gw n al nm)/\∀j,j < zs.length->(tns.getD j []).contains (gt (OF (gt zs (j / n * n))) (j % n))=true) by
  obtain⟨v,h1,tns,rfl,h2,h3,h4⟩:=hh
  refine⟨tns,aw h1,h2,h3,fun b a ha hb=>?_⟩
  have ma:(a:Int)∈ OF (gt zs (b * n)):=(hO _).2.mem_iff.mpr (List.mem_map.mpr ⟨a,List.mem_range.mpr ha,rfl⟩)
  obtain⟨i,hi,e⟩:=List.getElem_of_mem ma
  have hi':i < n:=by rwa [ol]at hi
  obtain⟨b1,b2⟩:=blk b hi'
  have:=h4 (i+b * n) (by omega)
  rw[b1,b2,iO _ _ hi,e]at this
  exact⟨i+b * n,by omega,by omega,this⟩
 unfold xt
 refine bT (aA (v:=.lst .own []) (by simp) (by simp) rfl) ?_
 simp only[s0_,s1_]
 refine bT (aA (v:=.lst .own []) (by simp) (by simp) rfl) ?_
 simp only[s0_,s1_]
 refine bT (eC (v:=.lst .own (iL zs)) rfl) ?_
 have efz:(PV.lst .own (iL zs)).mapF Fl.freeze=.lst .frz (iL zs):=by simp[Fl.freeze]
 simp only[s0_,s1_,efz]
 refine fF (fun k e=>∃tns od x4 x5 x6 x7,e=[some o,some (.lst .frz (iL zs)),some (.lst .own (llL .frz tns)),some (.lst .own (iL od)),x4,x5,x6,x7]/\tns.length=k/\(∀nm∈tns,gw n al nm)/\(∀j,j < k->(tns.getD j []).contains (gt (OF (gt zs (j / n * n))) (j % n))=true)/\(k % n≠0->od=OF (gt zs (k / n * n)))) (xs:=enP 0 (iL zs)) ?_ ⟨[],[],none,none,none,none,rfl,rfl,fun nm h=>by simp at h,fun j h=>absurd h (Nat.not_lt_zero j),fun h=>absurd (Nat.zero_mod n) h⟩ (fun k x e hx hP=>?_) (fun e hP=>?_)
 ·unfold r8
  simp[Fl.lend,dJ]
 ·obtain⟨tns,od,x4,x5,x6,x7,rfl,t1,t2,t3,t4⟩:=hP
  rw[f9]at hx
  obtain⟨y,hy,rfl⟩:=Option.map_eq_some_iff.mp hx
  obtain⟨z,hz,rfl⟩:=nK hy
  obtain⟨hk,ez⟩:=List.getElem?_eq_some_iff.mp hz
  refine⟨[some o,some (.lst .frz (iL zs)),some (.lst .own (llL .frz tns)),some (.lst .own (iL od)),some (.int k),some (.int z),x6,x7],by simp[tgT,bf,tgN,eE,aL,cF],?_⟩
  have em:((k:Int) % (n:Int))=((k % n:Nat):Int):=(Int.natCast_emod k n).symm
  have kl:=Nat.mod_lt k (show 0 < n by omega)
  have dm:=Nat.div_add_mod k n
  rw[Nat.mul_comm]at dm
  have hod:∃od',mBr (av (mOp pEq (mOp bP (ac 4) (mUn (ao 0) (ac 0))) (mC (.int (0))))) (aX 3 (ap (aO pq) (ae (mUn (ao 0) (ac 0)) (ae (ac 5) am)))) aY [some o,some (.lst .frz (iL zs)),some (.lst .own (llL .frz tns)),some (.lst .own (iL od)),some (.int k),some (.int z),x6,x7]=.next [some o,some (.lst .frz (iL zs)),some (.lst .own (llL .frz tns)),some (.lst .own (iL od')),some (.int k),some (.int z),x6,x7]/\od'=OF (gt zs (k / n * n)):=by
   by_cases q:k % n=0
   ·refine⟨OF z,im (by simp[r.le,r.a0,bp np,show(k:Int) % n=0 by omega]) (aA (v:=.lst .own (iL (OF z))) (by simp[r.le,r.a0,(hO z).1,aB]) (by simp) rfl),?_⟩
    rw[show k / n * n=k by omega,iO _ _ hk,ez]
   ·exact⟨od,bL (by simp[r.le,r.a0,bp np,show(k:Int) % n≠0 by omega]) az,t4 q⟩
  obtain⟨od',s1,rfl⟩:=hod
  refine cA s1 ?_
  have ix:∀f,aK (.lst f (iL (OF (gt zs (k / n * n))))) (.int ((k:Int) % n))=.ok (.int (gt (OF (gt zs (k / n * n))) (k % n))):=fun f=>by
   rw[em,b9 (by omega) (by rw[ol];omega),Int.toNat_natCast]
  have hc:0<=gt (OF (gt zs (k / n * n))) (k % n)/\gt (OF (gt zs (k / n * n))) (k % n) < n:=by
   have hm:=(hO (gt zs (k / n * n))).2.mem_iff.mp (dA (i:=k % n) (by rw[ol];exact kl))
   obtain⟨a,ha,e⟩:=List.mem_map.mp hm
   have:=List.mem_range.mp ha
   omega
  have nx:(k+1) % n≠0->OF (gt zs (k / n * n))=OF (gt zs ((k+1) / n * n)):=fun h=>by
   by_cases q:k % n+1 < n
   ·have:=(blk (k / n) q).1
    rw[show k % n+1+k / n * n=k+1 by omega]at this
    rw[this]
   ·refine absurd ?_ h
    have:k+1=(k / n+1) * n:=by rw[Nat.add_mul];omega
    rw[this,Nat.mul_mod_left]
  have nx3:∀nm:List Int,nm.contains (gt (OF (gt zs (k / n * n))) (k % n))=true->∀j,j < k+1->((tns++[nm]).getD j []).contains (gt (OF (gt zs (j / n * n))) (j % n))=true:=fun nm h j hj=>by
   by_cases q:j=k
   ·subst q
    rw[List.getD_eq_getElem?_getD,List.getElem?_append_right (by omega),t1]
    simpa using h
   ·have:=t3 j (by omega)
    rw[List.getD_eq_getElem?_getD]at this ⊢
    rwa [List.getElem?_append_left (by omega)]
  generalize OF (gt zs (k / n * n))=od at *
  generalize gt od (k % n)=c at *
  refine cA (aA (v:=.lst .own (iL [c])) (by simp[r.le,r.a0,bp np,ix]) (by simp) rfl) ?_
  simp only[s0_,s1_]
  obtain⟨nm,x7',s2,gn,hnm⟩:=vQ r (z:=z) (c:=c) (x1:=some (.lst .frz (iL zs))) (x2:=some (.lst .own (llL .frz tns))) (x3:=some (.lst .own (iL od))) (x4:=some (.int k)) (x7:=x7) hc
  refine cA s2 (cA (eC (v:=.lst .own (iL nm)) rfl) ?_)
  have efn:(PV.lst .own (iL nm)).mapF Fl.freeze=.lst .frz (iL nm):=by simp[Fl.freeze]
  simp only[s0_,s1_,efn]
  refine bx (dQ (v:=.lst .frz (iL nm)) (xs:=llL .frz tns) (by simp[Fl.lend]) rfl (by simp) (by rw[f7];omega)) ⟨tns++[nm],od,some (.int k),some (.int z),some (.lst .frz (iL nm)),x7',?_,by simp[t1],fun m hm=>?_,nx3 nm hnm,nx⟩
  ·simp only[s0_,s1_]
   rw[show llL .frz tns++[PV.lst .frz (iL nm)]=llL .frz (tns++[nm]) by simp[llL]]
  ·rcases List.mem_append.mp hm with hm | hm
   ·exact t2 m hm
   ·rw[List.mem_singleton.mp hm];exact gn
 ·obtain⟨tns,od,x4,x5,x6,x7,rfl,t1,t2,t3,t4⟩:=hP
  rw[e9,aU]at t1 t3
  exact dG (ef rfl) ⟨tns,rfl,t1,t2,t3⟩
theorem oS(n1:1<=n)(hw:2 * n - 1<=w)(hb:∀b a:Nat,a < n->b * n+n<=tns.length->∃j,b * n<=j/\j < b * n+n/\(tns.getD j []).contains (a:Int)=true):∀k,k+w<=tns.length->∀a,a < n->∃i,k<=i/\i < k+w/\(tns.getD i []).contains (a:Int)=true:=fun k hk a ha=>by
 have dm:=Nat.div_add_mod (k+n - 1) n
 have ml:=Nat.mod_lt (k+n - 1) (show 0 < n by omega)
 rw[Nat.mul_comm]at dm
 obtain⟨j,h1,h2,h3⟩:=hb ((k+n - 1) / n) a ha (by omega)
 exact⟨j,by omega,by omega,h3⟩
theorem ph(h:∀k,k+w<=tns.length->∀a,a < n->∃i,k<=i/\i < k+w/\(tns.getD i []).contains (a:Int)=true):sj n tns w=true:=by
 unfold sj tQ
 simp only[List.all_map,List.all_eq_true,List.mem_range,Function.comp,id,List.any_map,List.any_eq_true]
 intro k hk a ha
 rw[Int.toNat_natCast]
 exact(qN (by omega)).mpr (h k (by omega) a ha)
theorem x0:∀(tns:List (List Int)) (cs:List Int) (j:Nat),j < tns.length->(cs::(eR n D cs tns).map (·.2)).getD (j+1) []=stR n D ((cs::(eR n D cs tns).map (·.2)).getD j []) (tns.getD j [])
 | [],_,_,h=>absurd h (Nat.not_lt_zero _)
 | nm::tns,cs,0,_=>by simp[eR]
 | nm::tns,cs,j+1,h=>by
  have:=x0 tns (stR n D cs nm) j (by simpa using h)
  simpa[eR]using this
theorem AF{M:List Int->Int}(ms:Ms o n sp al ip D M){S T:Nat->List Int}{s:Nat}(hS:∀j,j<=s+w->(S j).length=n/\InS sp (S j))(st:∀j,j < s+w->S (j+1)=stR n D (S j) (T j))(hg:∀j,j < s+w->gw n al (T j))(nc:∀j,s<=j->j<=s+w->caR n ip D (S j)=false)(fr:∀a:Nat,a < n->∃j,s<=j/\j < s+w/\(T j).contains (a:Int)=true):M (S (s+w)) < M (S s):=by
 have key:∀t,t<=w->M (S (s+t)) < M (S s)\/(S (s+t)=S s/\∀j,s<=j->j < s+t->∀a:Nat,a < n->(T j).contains (a:Int)=true->D (S s) a=gt (S s) a):=fun t=>by
  induction t with
  | zero=>exact fun _=>.inr ⟨rfl,fun j h1 h2=>by omega⟩
  | succ t ih =>
   intro ht
   obtain⟨s1,s2⟩:=hS (s+t) (by omega)
   have e:=st (s+t) (by omega)
   have fa:=ms.fa (S (s+t)) (T (s+t)) s1 s2 (hg _ (by omega)) (nc _ (by omega) (by omega))
   rw[<- e]at fa
   by_cases q:S (s+t+1)=S (s+t)
   ·rcases ih (by omega)with h |⟨h1,h2⟩
    ·exact .inl (by rw[<- Nat.add_assoc,q];exact h)
    ·refine .inr ⟨by rw[<- Nat.add_assoc,q,h1],fun j j1 j2 a ha hc=>?_⟩
     by_cases z:j=s+t
     ·subst z
      have g:=gH (D:=D) (cs:=S (s+t)) (nm:=T (s+t)) ha
      rw[<- e,q,if_pos hc,h1]at g
      exact g.symm
     ·exact h2 j j1 (by omega) a ha hc
   ·have f:=fa q
    refine .inl ?_
    rw[<- Nat.add_assoc]
    rcases ih (by omega)with h |⟨h1,h2⟩
    ·omega
    ·rw[<- h1];exact f
 rcases key w (Nat.le_refl _)with h |⟨_,h⟩
 ·exact h
 ·exfalso
  obtain⟨s1,s2⟩:=hS s (by omega)
  refine ms.mv (S s) s1 s2 (nc s (Nat.le_refl _) (by omega)) ?_
  unfold mvR
  rw[List.map_eq_nil_iff,List.filter_eq_nil_iff]
  intro a ha
  have ha:=List.mem_range.mp ha
  obtain⟨j,j1,j2,j3⟩:=fr a ha
  simp[h j j1 j2 a ha j3]
end
theorem sG{bs:List PV}{B:Nat->Bool}{s:Nat}(mb:∀g,mapL g bs=bs)(ib:∀j:Nat,j<=s+w->aK (.lst .bor bs) (.int j)=.ok (.bl (B j)))(h2:s+w < ms.length)(hw:s+w<=1000)(h:(∀j,s<=j->j<=s+w->B j=false)->gt ms (s+w) < gt ms s):wE [.lst .bor bs,.lst .bor (iL ms),.int s,.int w]=.ok (.bl true):=by
 refine aw ?_
 show xB [some (.lst .bor bs),some (.lst .bor (iL ms)),some (.int s),some (.int w),none]=_
 unfold xB
 cases q:B s with
 | true=>exact c9 (im (by simp[Fl.lend,mb,ib s (by omega),q]) (aZ (by simp) (by simp)))
 | false =>
  refine ag (bL (by simp[Fl.lend,mb,ib s (by omega),q]) az) ?_
  have lp:=kj (env:=[some (.lst .bor bs),some (.lst .bor (iL ms)),some (.int s),some (.int w),none]) (it:=j0 (ae (mOp aG (ac 2) (mC (.int (1)))) (ae (mOp aG (mOp aG (ac 2) (ac 3)) (mC (.int (1)))) am))) (g:=tgN 4) (body:=mBr (dL (mOp aK (ac 0) (ac 4))) (br (mC (.bl true))) aY)
   (fun k e=>(∀j,s<=j->j<=s+k->B j=false)/\∃a,e=[some (.lst .bor bs),some (.lst .bor (iL ms)),some (.int s),some (.int w),a])
   (fun out=>out=.ret (.bl true) \/ ((∀ j,s <= j->j <= s+w->B j=false)/\∃ a,out=.next [some (.lst .bor bs),some (.lst .bor (iL ms)),some (.int s),some (.int w),a])) (xs:=b5 ((s:Int)+1) w) (by
    rw[rH (lo:=(s:Int)+1) (hi:=(s:Int)+w+1) (by simp) (by omega) (by omega)]
    congr 2
    omega) ⟨fun j j1 j2=>by rw[show j=s by omega];exact q,_,rfl⟩ (fun k x e hx hP=>by
    obtain⟨hf,a,rfl⟩:=hP
    obtain⟨hk,rfl⟩:=cz hx
    refine⟨_,cE rfl,?_⟩
    have ik:=ib (s+1+k) (by omega)
    rw[show((s+1+k:Nat):Int)=(s:Int)+1+k by omega]at ik
    cases q2:B (s+1+k)with
    | true=>exact .inr (.inr (.inl ⟨.bl true,im (by simp[Fl.lend,mb,ik,q2]) (aZ (by simp) (by simp)),.inl rfl⟩))
    | false =>
     refine .inl ⟨_,.inl (bL (by simp[Fl.lend,mb,ik,q2]) az),fun j j1 j2=>?_,_,rfl⟩
     by_cases z:j=s+1+k
     ·rw[z];exact q2
     ·exact hf j j1 (by omega)) (fun e hP=>by
    obtain⟨hf,a,rfl⟩:=hP
    rw[aW]at hf
    exact .inr ⟨hf,_,rfl⟩)
  rcases lp with e |⟨hf,a,e⟩
  ·exact c9 e
  ·have lt:=h hf
   have g1:=b9 (f:=.bor) (cs:=ms) (i:=(s:Int)+w) (by omega) (by omega)
   have g2:=b9 (f:=.bor) (cs:=ms) (i:=(s:Int)) (by omega) (by omega)
   rw[show((s:Int)+w).toNat=s+w by omega]at g1
   rw[Int.toNat_natCast]at g2
   exact ag e (aZ (by simp[Fl.lend,g1,g2,lt]) (by simp))
theorem uk(f g f' g':Fl)(a b:List Int):pEq (.lst f [eS g (a,b),eS g (a,b)]) (.lst f [.tup [.lst f' (iL a),.lst g' (iL b)],.tup [.lst f' (iL a),.lst g' (iL b)]])=.ok (.bl true):=by
 refine zS rfl ?_
 simp[shp,SeqAt.shaped,PV.data,PyData.canLay0,PyData.depth,eS,dataL,PyData.canLayAll0,PyData.depthAll]
theorem B3{α:Type}(p:α->Bool)(g:Fl->Fl):∀l:List α,mapL g (l.map fun x=>PV.bl (p x))=l.map fun x=>PV.bl (p x)
 | []=>rfl
 | a::l=>by simp[B3 p g l]
theorem Fj{α:Type}(p:α->Bool)(g:Fl->Bool):∀l:List α,hasL g (l.map fun x=>PV.bl (p x))=false
 | []=>rfl
 | a::l=>by simp[Fj p g l]
theorem B0{d:Nat->Option (List PV->Res PV)}{r:Res (List PV)}{x o:PV}(h:x.mapF Fl.toBor=o)(ho:o.mapF Fl.toBor=o):iH d r x=iH d r o:=by
 subst h
 cases x with
 | obj f c ks vs =>
  rw[PV.mapF]at ho ⊢
  unfold iH
  dsimp only
  cases d c with
  | none=>rfl
  | some m =>
   cases r with
   | ok xs=>simp only[Res.ok_bind,w_,tX,ho];rfl
   | exc c | stuck=>rfl
 | _=>first | rfl | simp[PV.mapF,iH]
theorem law_true(fl:Fl)(ns:List Int)(h:Scr fl)(hl:ns.length<=63):AB [.lst fl (ns.map .int)]=.ok (.bl true):=by
 rw[wg]
 have cl:∀k:Nat,iA [.lst fl (iL ns),.int k]=.ok (.int (cell ns k)):=fun k=>z8 ns k h
 have c0:iA [.lst fl (iL ns),.int 0]=.ok (.int (cell ns 0)):=cl 0
 have c1:iA [.lst fl (iL ns),.int 1]=.ok (.int (cell ns 1)):=cl 1
 have c2:iA [.lst fl (iL ns),.int 2]=.ok (.int (cell ns 2)):=cl 2
 generalize cell ns 0=z0 at c0
 generalize cell ns 1=z1 at c1
 generalize cell ns 2=z2 at c2
 have d6:dW (.int z0) (.int 6)=.ok (.int (z0 / 6)):=fB (by decide) (by decide)
 have d36:dW (.int z0) (.int 36)=.ok (.int (z0 / 36)):=fB (by decide) (by decide)
 obtain⟨kd,hkd⟩:∃kd:Nat,z0 % 6=kd:=⟨(z0 % 6).toNat,by omega⟩
 obtain⟨m,hm⟩:∃m:Nat,1+z0 / 6 % 6=m:=⟨(1+z0 / 6 % 6).toNat,by omega⟩
 obtain⟨O,o,n,sp,al,ip,D,hru,K,⟨M,ms⟩,n11⟩:=yF (kd:=kd) (m:=m) (z0 / 36) z1 (by omega) (by omega) (by omega)
 have n1:=K.r.n1
 obtain⟨l,hl1,hl2,hl3⟩:=iJ z2 n (by omega)
 refine aw (v:=.bl true) ?_
 show xX [some (.lst fl (iL ns)),none,none,none,none,none,none,none,none,none,none,none,none]=_
 unfold xX
 refine ag (aA (v:=.int z0) (by simp[h.lend,h.toBor,c0,aB]) (by simp) rfl) ?_
 simp only[s0_,s1_]
 refine ag (aA (v:=O) (by simp[h.lend,h.toBor,c1,bp,d6,d36,hkd,hm,hru,aB,K.own]) K.nl rfl) ?_
 simp only[s0_,s1_]
 clear hkd hm hru d6
 refine ag (aA (v:=.int n) (by simp[K.la0]) (by simp) rfl) ?_
 simp only[s0_,s1_]
 have p50:m_ (.int 10) (.int 50)=.ok (.int 100000000000000000000000000000000000000000000000000):=by rfl
 have m50:bP (.int z2) (.int 100000000000000000000000000000000000000000000000000)=.ok (.int (z2 % 100000000000000000000000000000000000000000000000000)):=bp (by decide)
 generalize z2 % 100000000000000000000000000000000000000000000000000=fr at m50
 refine ag (aA (v:=.int fr) (by simp[h.lend,h.toBor,c2,aB,p50,m50]) (by simp) rfl) ?_
 simp only[s0_,s1_]
 obtain⟨rs,hrs⟩:∃rs:List Int,rs=l.map fun x=>x * (fr+1) - fr * 998244353:=⟨_,rfl⟩
 have hrl:rs.length=n:=by rw[hrs,List.length_map,hl2]
 refine ag (aA (v:=.lst .own (iL rs)) ?_ (by simp) rfl) ?_
 ·rw[hrs]
  refine aM (xs:=iL l) (by simp[h.lend,h.toBor,c2,hl1,aB]) (by rw[aU];omega) (dO (fun x=>x * (fr+1) - fr * 998244353) l fun x hx=>⟨[some (.int fr),some (.int x)],by simp[tgN,aL,bB],?_⟩)
  have:=hl3 x hx
  have e1:b8 (.int x) (.int (fr+1))=.ok (.int (x * (fr+1))):=cU (.inl ⟨by omega,by omega⟩)
  have e2:b8 (.int fr) (.int 998244353)=.ok (.int (fr * 998244353)):=cU (.inr ⟨by decide,by decide⟩)
  simp[e1,e2]
 simp only[s0_,s1_]
 clear hrs
 have rp:tD (.lst .own [.int 0]) (.int (2 * (n:Int)+4))=.ok (.lst .own (iL (List.replicate (2 * n+4) 0))):=by
  rw[show 2 * (n:Int)+4=((2 * n+4:Nat):Int) by omega]
  unfold tD
  simp only[]
  rw[if_pos (by simp[dJ];omega)]
  simp[uY,iL]
  omega
 have ec:jy (iL ns) (some 3) (some 253)=iL ((ns.take 253).drop 3):=CG ns 3 253 rfl rfl
 have m2:b8 (.int 2) (.int (n:Int))=.ok (.int (2 * (n:Int))):=cU (.inl ⟨by decide,by decide⟩)
 obtain⟨zs,hzs⟩:∃zs:List Int,zs=(ns.take 253).drop 3++List.replicate (2 * n+4) 0:=⟨_,rfl⟩
 have zl1:2 * n+4<=zs.length:=by rw[hzs];simp
 have zl2:zs.length<=100:=by rw[hzs];simp;omega
 obtain⟨tns,ht,tl,tg,tb⟩:=uD K.r (zs:=zs) (by omega)
 rw[<- tl]at zl1 zl2 tb
 refine ag (aA (v:=.lst .own (llL .frz tns)) ?_ (by simp[PV.noLnt,PV.has,jv _ Fl.isLnt .frz rfl]) rfl) ?_
 ·simp only[cP,bV,cL,gX,jx,dN,gY,qR,wT]
  simp[h.lend,ec,m2,rp]
  rw[gJ (by decide) (by decide) (by simp;omega)]
  rw[show iL ((ns.take 253).drop 3)++ iL (List.replicate (2 * n+4) 0)=iL zs by rw[hzs];simp[iL]]
  simp[K.lb,ht,aB,PV.has,jv _ Fl.isBor .frz rfl]
 simp only[s0_,s1_]
 obtain⟨w,hw⟩:∃w:Nat,2 * (n:Int) - 1+z0 / 36 % 3=w:=⟨(2 * (n:Int) - 1+z0 / 36 % 3).toNat,by omega⟩
 refine ag (aA (v:=.int w) (by simp[m2,d36,bp,hw]) (by simp) rfl) ?_
 simp only[s0_,s1_]
 obtain⟨w1,w2⟩:2 * n - 1<=w/\w<=2 * n+1:=by omega
 clear hw hzs
 refine ag (eC (v:=.lst .own (llL .frz tns)) rfl) ?_
 have efz:(PV.lst .own (llL .frz tns)).mapF Fl.freeze=.lst .frz (llL .frz tns):=by simp[Fl.freeze]
 simp only[s0_,s1_,efz]
 have nw:=oS (w:=w) (tns:=tns) n1 (by omega) tb
 have fy:=fun(v:Nat) (hv:2 * n - 1<=v)=>zL (n:=n) (tns:=tns) (w:=v) (ft:=.frz) (fi:=.frz) (.inl (.inr rfl)) (.inr rfl) (by omega) (by omega) (by omega)
 have f1:md [.int n,.lst .frz (llL .frz tns),.int (2 * (n:Int) - 1)]=.ok (.bl true):=by
  have:=fy (2 * n - 1) (Nat.le_refl _)
  rw[ph (oS n1 (Nat.le_refl _) tb)]at this
  rwa [show((2 * n - 1:Nat):Int)=2 * (n:Int) - 1 by omega]at this
 have f2:md [.int n,.lst .frz (llL .frz tns),.int w]=.ok (.bl true):=by
  have:=fy w (by omega)
  rwa [ph nw]at this
 refine ag (bL (by simp[Fl.lend,Fl.toBor,m2,f1,f2,aB]) az) ?_
 have rd:=rK (f:=.bor) K.r hrl
 refine ag (aA (v:=.lst .own (llL .own [rs.map (· % sp)])) ?_ (by simp[llL]) rfl) ?_
 ·simp only[qR,bV,cL,CA,dN,List.getElem?_cons_zero,List.getElem?_cons_succ,tH,Res.ok_bind,B0 K.lb K.r.tb,K.r.rd]
  simp[K.r.tb,rd,aB,llL]
 simp only[s0_,s1_]
 have ru:=uT (f:=.bor) (ft:=.frz) (fi:=.frz) (rs:=rs) K.r (.inr rfl) (.inr rfl) hrl tg (by omega)
 have rin:=rG K.r tns (rs.map (· % sp)) (by simpa using hrl) (qw K.r)
 have rlen:=oz (n:=n) (D:=D) tns (rs.map (· % sp))
 have stp:=x0 (n:=n) (D:=D) tns (rs.map (· % sp))
 have S0:(rs.map (· % sp)).length=n/\InS sp (rs.map (· % sp)):=⟨by simpa using hrl,qw K.r⟩
 generalize rs.map (· % sp)=s0 at *
 generalize eR n D s0 tns=rows at *
 have rb:hasL Fl.isBor (rows.map (eS .own))=false:=kE rfl rows
 refine iY (fun k e=>∃x9,e=[some (.lst fl (iL ns)),some (.int z0),some O,some (.int n),some (.int fr),some (.lst .own (iL rs)),some (.lst .frz (llL .frz tns)),some (.int w),some (.lst .own (llL .own (s0::(rows.map (·.2)).take k))),x9,none,none,none]) (xs:=rows.map (eS .frz)) ?_ ⟨_,rfl⟩ (fun k x e hx hP=>?_) (fun e hP=>?_)
 ·refine eP (f:=.frz) ?_ rfl (kE rfl rows) (kE rfl rows)
  simp[mFz,K.lb,ru,aB,PV.has,rb,Fl.lend,Fl.toBor,Fl.freeze]
 ·obtain⟨x9,rfl⟩:=hP
  rw[List.getElem?_map]at hx
  obtain⟨p,hp,rfl⟩:=Option.map_eq_some_iff.mp hx
  have i1:aK (eS .frz p) (.int 1)=.ok (.lst .frz (iL p.2)):=jN (k:=1) rfl rfl (by simp)
  have ml:(eS .frz p).mapF Fl.lend=eS .frz p:=by simp[eS,Fl.lend]
  have kl:k < rows.length:=(List.getElem?_eq_some_iff.mp hp).1
  refine⟨_,cE rfl,bx (dQ (v:=.lst .own (iL p.2)) (xs:=llL .own (s0::(rows.map (·.2)).take k)) (by simp[ml,i1]) rfl (by simp) (by rw[f7];simp;omega)) ⟨some (eS .frz p),?_⟩⟩
  simp only[s0_,s1_]
  rw[List.take_succ,List.getElem?_map,hp]
  simp[llL]
 obtain⟨x9,rfl⟩:=hP
 rw[List.length_map,show(rows.map (·.2)).take rows.length=rows.map (·.2)from List.take_of_length_le (by simp)]
 have hcs:∀c∈s0::rows.map (·.2),c.length=n/\InS sp c:=fun c hc=>by
  rcases List.mem_cons.mp hc with rfl | hc
  ·exact S0
  ·obtain⟨p,hp,rfl⟩:=List.mem_map.mp hc
   exact⟨(rin p hp).1,(rin p hp).2.1⟩
 have csl:(s0::rows.map (·.2)).length=tns.length+1:=by simp[rlen]
 have cs0:(s0::rows.map (·.2))[0]?=some s0:=rfl
 generalize s0::rows.map (·.2)=css at *
 refine ag (bL (by simp[f7,csl,Fl.lend]) az) ?_
 refine ag (eC (v:=.lst .own (llL .own css)) rfl) ?_
 have efc:(PV.lst .own (llL .own css)).mapF Fl.freeze=.lst .frz (llL .frz css):=by simp[Fl.freeze]
 simp only[s0_,s1_,efc]
 refine ag (aA (v:=.lst .own (css.map fun c=>PV.bl (caR n ip D c))) ?_ (by simp[PV.noLnt,PV.has,Fj]) rfl) ?_
 ·refine aM (xs:=llL .frz css) (by simp[Fl.lend]) (by rw[f7];omega) ?_
  exact a6 (a:=fun c=>PV.lst .frz (iL c)) (f:=fun c=>PV.bl (caR n ip D c)) css fun c hc=>⟨[some o,some (.lst .frz (iL c))],by simp[tgN,aL,bB,cF,K.bb,Fl.borrow],by simp[K.r.le,Fl.lend,z_ (f:=.own) K.r (.inr rfl) (hcs c hc).1 (hcs c hc).2],by simp,by simp⟩
 simp only[s0_,s1_]
 refine ag (aA (v:=.lst .own (iL (css.map M))) ?_ (by simp) rfl) ?_
 ·refine aM (xs:=llL .frz css) (by simp[Fl.lend]) (by rw[f7];omega) ?_
  rw[show iL (css.map M)=css.map fun c=>PV.int (M c) by simp[iL]]
  exact a6 (a:=fun c=>PV.lst .frz (iL c)) (f:=fun c=>PV.int (M c)) css fun c hc=>⟨[some o,some (.lst .frz (iL c))],by simp[tgN,aL,bB,cF,K.bb,Fl.borrow],by simp[K.r.le,Fl.lend,ms.me .own c (.inr rfl) (hcs c hc).1 (hcs c hc).2],by simp,by simp⟩
 simp only[s0_,s1_]
 refine ag (bL ?_ az) ?_
 ·simp only[zR,wR,cP,bV,cL]
  rw [aM (xs:=iL (css.map M)) (ys:=((css.map M).map fun _=>true).map .bl) (by simp) (by rw [aU,List.length_map];omega) (by
   rw[List.map_map]
   exact a6 (a:=PV.int) (f:=PV.bl ∘ fun _=>true) (css.map M) fun x _=>⟨[some (.int x)],by simp[tgN,aL,bB,cF],by simp[uy,aB],by simp,by simp⟩)]
  simp only[Res.ok_bind,p1,ng]
  simp
 refine iY (fun k e=>∃x12,e=[some (.lst fl (iL ns)),some (.int z0),some O,some (.int n),some (.int fr),some (.lst .own (iL rs)),some (.lst .frz (llL .frz tns)),some (.int w),some (.lst .frz (llL .frz css)),x9,some (.lst .own (css.map fun c=>PV.bl (caR n ip D c))),some (.lst .own (iL (css.map M))),x12]) (bv (n:=tns.length - w+1) (by simp[Fl.lend,f7];omega) (by omega)) ⟨_,rfl⟩ (fun k x e hx hP=>?_) (fun e hP=>?_)
 ·obtain⟨x12,rfl⟩:=hP
  obtain⟨hk,rfl⟩:=cz hx
  have gD:∀j,j < css.length->css.getD j []∈ css:=fun j hj=>by
   rw[List.getD_eq_getElem?_getD,List.getElem?_eq_getElem hj]
   exact List.getElem_mem hj
  have wo:=sG (bs:=css.map fun c=>PV.bl (caR n ip D c)) (B:=fun j=>caR n ip D (css.getD j [])) (ms:=css.map M) (s:=k) (w:=w) (fun g=>B3 _ g css) (fun j hj=>jN rfl (by simp[List.getElem?_eq_getElem (show j < css.length by omega)]) rfl) (by rw[List.length_map];omega) (by omega) fun nc=>by
   have gM:∀j,j < css.length->gt (css.map M) j=M (css.getD j []):=fun j hj=>by simp[gt,hj]
   rw[gM _ (by omega),gM _ (by omega)]
   exact AF ms (S:=fun j=>css.getD j []) (T:=fun j=>tns.getD j []) (fun j hj=>hcs _ (gD j (by omega))) (fun j hj=>stp j (by omega)) (fun j hj=>tg _ (by
    rw[List.getD_eq_getElem?_getD,List.getElem?_eq_getElem (show j < tns.length by omega)]
    exact List.getElem_mem _)) nc (nw k (by omega))
  refine⟨_,cE rfl,bx (bL ?_ az) ⟨_,rfl⟩⟩
  simp[Fl.lend,Fl.toBor,B3,wo,aB]
 obtain⟨x12,rfl⟩:=hP
 have i0:∀f:Fl,aK (.lst f (llL .frz css)) (.int 0)=.ok (.lst .frz (iL s0)):=fun f=>jN (k:=0) rfl (by simp[llL,cs0]) (by simp)
 have r2:=uT (f:=.frz) (ft:=.own) (fi:=.own) (rs:=s0) (tns:=[[],[]]) K.r (.inr rfl) (.inr rfl) S0.1 (by simp[gw]) (by simp)
 have es:s0.map (· % sp)=s0:=by
  conv=>rhs;rw[<- List.map_id s0]
  exact List.map_congr_left fun x hx=>Int.emod_eq_of_lt (S0.2 x hx).1 (S0.2 x hx).2
 have st0:stR n D s0 []=s0:=Classical.byContradiction fun z=>by
  obtain⟨i,_,hi,_⟩:=kx S0.1 z
  simp at hi
 have dn0:dnR n D s0 []=[]:=by simp[dnR]
 rw[es]at r2
 simp only[eR,st0,dn0,List.map_cons,List.map_nil]at r2
 have dr:=uk .own .own .own .frz [] s0
 refine aZ (v:=.bl true) ?_ (by simp)
 simp only[gY,cP,bV,cL,qR,Cz,dN,wT]
 have r2':pz [o,.lst .frz (iL s0),.lst .own [.lst .own [],.lst .own []]]=_:=r2
 simp[i0,K.lb,Fl.lend,r2',aB,show PV.has Fl.isBor (eS .own ([],s0))=false by simp[eS,PV.has]]
 exact dr
end G
namespace G
open PySem L2 PR
theorem hb:yc pt.F:=⟨bn2,bn4,bn3,bn2,bn2,bn2,bn2,bn2,bn2,bn2,bn3,bn3,bn2,bn1,bn2,bn1,bn3,bn5,bn3,bn2,bn3,bn3,bn4,bn2,bn2,bn2,bn3,bn2,bn2,bn3,bn2,bn2,bn2,bn3,bn3,bn2,bn3,bn2,bn2,bn2,bn3,bn2,bn3,bn3,bn3,bn3,bn2,bn3,bn3,bn2,bn2,bn2,bn2,bn2,bn2,bn2,bn2,bn2,bn2,bn2,bn1,bn2,bn2,bn1,bn4,bn1,trivial⟩
theorem hs:pt.F.all scB=true:=by decide +kernel
theorem fin{l:PySem.W.OpenLaw}{w:World}{K:PySem.W.Frag}{mg:Str->Option Value}{fa:Addr}(t:Tx pt K mg)(hfa:mg "law" = some (.ref fa)) :
  ∃fd:FuncData,(∀(s:Shared) (u:Value),BindsTo s fd ⟨[u],[]⟩ [("_law_script", u)])/\∀base:Heap,K.In base->base.Ns mainGlobals mg->cN l.prog w K mg base (CXP l.prog w) 10 fa fd ["_law_script"] (rB K):=by
 have e:=hfa.symm.trans (t.gl 65 rfl)
 cases e
 refine⟨dAt K (pt.fa K 65),fun s u=>?_,fun base hB _=>B4 (T:=T K) (BW t hB) law_true⟩
 obtain⟨oc,od,kV,doc,pm,an,cdv,ct,osl,e,_⟩:=(t.fn 65).ex
 rw[e]
 exact .of_eq rfl
end G
namespace PySem.W.Fast
def tw3185048931698005105:Unit:=()
def tw9833396935015184207:Unit:=()
def tw1256175804726877071:Unit:=()
def tw10993471298033626825:Unit:=()
def tw11620243104515090268:Unit:=()
def tw6662896993272211022:Unit:=()
def tw11019020987328114731:Unit:=()
def tw14549213398819468793:Unit:=()
def tw11631505967608691047:Unit:=()
def tw1564776956838500426:Unit:=()
def tw14552760394893974688:Unit:=()
def tw2192932019238591862:Unit:=()
def tw17163541747053596213:Unit:=()
def tw5844707881151903578:Unit:=()
def tw10655754117018410488:Unit:=()
def tw16709785078025834912:Unit:=()
def tw914133586094912069:Unit:=()
def tw18079234592393245277:Unit:=()
def tw4722428605874755273:Unit:=()
def tw7007682832202795995:Unit:=()
def tw15278807321804804841:Unit:=()
def tw18370446822676956245:Unit:=()
def tw13357347840425662752:Unit:=()
def tw12152472544349071825:Unit:=()
def tw16339642033612819724:Unit:=()
def tw17204274333737324226:Unit:=()
def tw17637479666028981865:Unit:=()
def tw2097127588542821933:Unit:=()
def tw10646299351473425022:Unit:=()
def tw12035512732754148632:Unit:=()
def tw8992014494193161391:Unit:=()
def tw1928799674830664169:Unit:=()
def tw14833520635649034062:Unit:=()
def tw16795591802547069835:Unit:=()
def tw11079826414056447235:Unit:=()
def tw1915829383441294594:Unit:=()
def tw8702548542980833664:Unit:=()
def tw8322237134447255687:Unit:=()
def tw12980752233086360051:Unit:=()
def tw6629694965538038611:Unit:=()
def tw3325570757818430069:Unit:=()
def tw9169555997293682810:Unit:=()
def tw7915044199389129581:Unit:=()
def tw15140718007313813809:Unit:=()
def tw16210373260933843001:Unit:=()
def tw625508178013690332:Unit:=()
def tw14176080978746258927:Unit:=()
def tw12062024579486959347:Unit:=()
def tw4851523946237670749:Unit:=()
def tw14600528213731721032:Unit:=()
def tw17737660803457592884:Unit:=()
def tw12274424107686143485:Unit:=()
def tw17863262285719166065:Unit:=()
def tw16301834088597214257:Unit:=()
def tw9728965458439294722:Unit:=()
def tw4580023925271316002:Unit:=()
def tw1222856465350019263:Unit:=()
def tw15421063144032519320:Unit:=()
def tw1076629485507992909:Unit:=()
def tw16237994233697932659:Unit:=()
def tw4923096744598003053:Unit:=()
def tw6851596478580405845:Unit:=()
def tw14084026939074239130:Unit:=()
def tw14860889030449922575:Unit:=()
def tw12792379155896391808:Unit:=()
def tw3260612956541396461:Unit:=()
def tw14240285320449295485:Unit:=()
def tw6364753929875993140:Unit:=()
def tw12664237496896873564:Unit:=()
def tw4158744801545196525:Unit:=()
def tw13451297238433087622:Unit:=()
def tw5948924312839376223:Unit:=()
def tw918161635740348002:Unit:=()
def tw2211787097592473530:Unit:=()
def tw4019652351539149680:Unit:=()
def tw16179943820223182113:Unit:=()
def tw14136817241420619759:Unit:=()
def tw15446629499484598658:Unit:=()
def tw2408473454474228613:Unit:=()
def tw16432049626489171331:Unit:=()
def tw16195844602385527487:Unit:=()
def tw3254570228485014797:Unit:=()
def tw3108185547366666973:Unit:=()
def tw9264299407142350045:Unit:=()
def tw8842662258106995640:Unit:=()
def tw7949241094199969392:Unit:=()
def tw11641124732088892450:Unit:=()
def tw502661039871250970:Unit:=()
def tw7278771028837221834:Unit:=()
def tw5358769682857984758:Unit:=()
def tw12884909454770485283:Unit:=()
def tw9193641578217386500:Unit:=()
def tw1010369488570060369:Unit:=()
def tw9609569843202327445:Unit:=()
def tw7843957514150948187:Unit:=()
def tw13428716002612659306:Unit:=()
def tw4654687999106593700:Unit:=()
def tw14486277483324157430:Unit:=()
def tw3893584256861327386:Unit:=()
def tw14093668313934816969:Unit:=()
def tw14539410129332821980:Unit:=()
def tw12149452945168083523:Unit:=()
def tw16516769363582115890:Unit:=()
def tw13364821684191189073:Unit:=()
def tw10099140266889361568:Unit:=()
def tw13523712757814667410:Unit:=()
def tw7968625232324085699:Unit:=()
def tw14654770349509275596:Unit:=()
def tw15499687888278380831:Unit:=()
def tw12029013386166332140:Unit:=()
def tw6730872726097005664:Unit:=()
def tw15163830430398962068:Unit:=()
def tw331101358658930355:Unit:=()
def tw3143592632008233013:Unit:=()
def tw15039495354874117908:Unit:=()
def tw16401677489108766355:Unit:=()
def tw14256363885031245918:Unit:=()
def tw12072578084422867212:Unit:=()
def tw5376079676889384581:Unit:=()
def tw1461316877103000280:Unit:=()
def tw1880946271716869395:Unit:=()
def tw1478911403449307851:Unit:=()
def tw15482214074582446431:Unit:=()
def tw13667909905715563637:Unit:=()
def tw10197519704881404361:Unit:=()
def tw1264124908762688103:Unit:=()
def tw7130311036556509657:Unit:=()
def tw15152218111818572901:Unit:=()
def tw15171855499979442377:Unit:=()
def tw6715426490894955256:Unit:=()
def tw4830037839805601565:Unit:=()
def tw3249638969209021883:Unit:=()
def tw8057550957316430535:Unit:=()
def tw18074389608827120877:Unit:=()
def tw17176370442842073220:Unit:=()
def tw16978128855560595950:Unit:=()
def tw13115246605899917923:Unit:=()
def tw8841774346845816848:Unit:=()
def tw9033163356265931673:Unit:=()
def tw16541634422789718914:Unit:=()
def tw13950280408836641788:Unit:=()
def tw16527151988754164974:Unit:=()
def tw18122782863090181134:Unit:=()
def tw17490316929256825105:Unit:=()
def tw6022003524485037049:Unit:=()
def tw5448063345049814161:Unit:=()
def tw17561150235239207259:Unit:=()
def tw1643981490755369774:Unit:=()
def tw1425848137889770683:Unit:=()
def tw12221815755127552763:Unit:=()
def tw2645144983335579531:Unit:=()
def tw7079152951343618007:Unit:=()
def tw15375553611185669065:Unit:=()
def tw7758365560506338833:Unit:=()
def tw18375761539389927965:Unit:=()
def tw7258371815464968140:Unit:=()
def tw13767250571253426783:Unit:=()
def tw13970952463238557460:Unit:=()
def tw15169981980264759483:Unit:=()
def tw7551512596386729792:Unit:=()
def tw11245236960185770154:Unit:=()
def tw7002770251963776285:Unit:=()
def tw9519374305470443130:Unit:=()
def tw12237797057601147438:Unit:=()
def tw3765865042210484090:Unit:=()
def tw8857734458714990288:Unit:=()
def tw15977085627232335496:Unit:=()
def tw9941080493160695738:Unit:=()
def tw12342363097778008859:Unit:=()
def tw13536515388776722699:Unit:=()
def tw2503142524384877579:Unit:=()
def tw6433823059553133786:Unit:=()
def tw10189389049358712107:Unit:=()
def tw13975690375379393776:Unit:=()
def tw3300954628476530436:Unit:=()
def tw4538907359902678121:Unit:=()
def tw13006398606149078172:Unit:=()
def tw3389379762073991822:Unit:=()
def tw4390277026026673461:Unit:=()
def tw1860752140604480778:Unit:=()
def tw9406986687390616161:Unit:=()
def tw7709216021321660163:Unit:=()
def tw14926298465822502156:Unit:=()
def tw11076036288430179527:Unit:=()
def tw4881629939608522494:Unit:=()
def tw14488573856744117674:Unit:=()
def tw18099144552374313614:Unit:=()
def tw1525516456811341519:Unit:=()
def tw7268355984334891134:Unit:=()
def tw13538823780343905067:Unit:=()
def tw9558172971201516821:Unit:=()
def tw13079472519314549459:Unit:=()
def tw2906236236604932528:Unit:=()
def tw11310129937495456376:Unit:=()
def tw49308401775952502:Unit:=()
def tw14550292006903455696:Unit:=()
def tw17428502986787570982:Unit:=()
def tw10054240918651571024:Unit:=()
def tw4129548878592645038:Unit:=()
def tw11926984591551855612:Unit:=()
def tw1965375989509737170:Unit:=()
def tw9084038226861354667:Unit:=()
def tw4719606445608310877:Unit:=()
def tw4152174532558516509:Unit:=()
def tw6101561919506447434:Unit:=()
def tw15107863516677587293:Unit:=()
def tw7914213829816663460:Unit:=()
def tw4034465590474469735:Unit:=()
def tw12799028135424315993:Unit:=()
def tw13590756330763930947:Unit:=()
def tw16377611654093126906:Unit:=()
def tw16171168998559544935:Unit:=()
def tw5960093235781083452:Unit:=()
def tw5251832230518023285:Unit:=()
def tw10093589142931469185:Unit:=()
def tw5040857715990914010:Unit:=()
def tw3490658591501300839:Unit:=()
def tw7169465564614610766:Unit:=()
def tw5581215491902015735:Unit:=()
def tw4991914466065940717:Unit:=()
def tw12176207821998848776:Unit:=()
def tw8846959434168917824:Unit:=()
def tw10072089239111362618:Unit:=()
def tw827990544587571136:Unit:=()
def tw4532221215019794628:Unit:=()
def tw1465521800514505705:Unit:=()
def tw6380715452110119917:Unit:=()
def tw8212129168277636551:Unit:=()
def tw10965211500409920483:Unit:=()
def tw748199828186630880:Unit:=()
def tw15771833989580084931:Unit:=()
def tw12991523402965058427:Unit:=()
def tw63263702451277635:Unit:=()
def tw15643966537182468270:Unit:=()
def tw17603441101152905905:Unit:=()
def tw15370621766547839378:Unit:=()
def tw7755764524362639024:Unit:=()
def tw4168565172944624506:Unit:=()
def tw8465593923198529314:Unit:=()
def tw7313236916556380598:Unit:=()
def tw5128012775059381085:Unit:=()
def tw2144884861763010626:Unit:=()
def tw1348075201148216487:Unit:=()
def tw15580774116938045241:Unit:=()
def tw6492060266866735618:Unit:=()
def tw122044483634438663:Unit:=()
def tw4459393347672427445:Unit:=()
def tw12865538188291340155:Unit:=()
def tw8129348266403019738:Unit:=()
def tw6163733915809674571:Unit:=()
def tw11532520062813535188:Unit:=()
def tw17662197252988047327:Unit:=()
def tw331191952655711504:Unit:=()
def tw12639402827144464257:Unit:=()
def tw8758070167969016292:Unit:=()
def tw7529881284087487828:Unit:=()
def tw17171478867918452308:Unit:=()
def tw91294144315612668:Unit:=()
def tw4436483132389944733:Unit:=()
def tw12230594462068058548:Unit:=()
def tw4685759997694007140:Unit:=()
def tw17136906818034078105:Unit:=()
def tw8048862352832764423:Unit:=()
end PySem.W.Fast
open PySem PySem.W PyProof.Rows
set_option maxRecDepth 100000 in
set_option maxHeartbeats 0 in
theorem PySem.Challenge.cw_calmring_k42_windows_holds : PySem.Challenge.rw_calmring_k42_windows.Holds := by
 w_on;o_law;k_head;(case hw=>w_witness2)
 k_fill
 refine PR.wa (l:=PySem.Challenge.rw_calmring_k42_windows) (k:=10) (x := "_law_script") rfl rfl ⟨rfl,by decide,by decide⟩ (fun w h Y=>PySem.W.kIn_of Y) ?F
 case F =>
  intro w mg fa h KX G hmg
  refine' _root_.G.fin (_root_.PR.Tx.of KX G _root_.G.hb _root_.G.hs ?a ?b ?c ?d ?e ?f ?g) hmg
  (case a=>exact fun z=>nomatch z)
  (case b=>exact fun z=>nomatch z)
  (case c=>exact fun z=>nomatch z)
  (case d=>kernel_rfl)
  (case e=>kernel_rfl)
  (case f=>kernel_rfl)
  (case g=>kernel_rfl)
