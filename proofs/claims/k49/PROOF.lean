import PyProof.Rows.All
import Wide.All
import OpenK.AllK
import Wide.FinOn
import Lean
import PyProof.EqAt
import PyProof.EqKinds
import PyProof.TupleCall
import PySem.Challenge.RW_calmring_k49_whole_falls_whoever_is_give
set_option Elab.async false
set_option linter.all false
set_option maxRecDepth 100000
set_option genSizeOf false
set_option bootstrap.genMatcherCode false
noncomputable section
namespace L2
open PySem PySem.Spec PyProof.Rows
abbrev Key:=Sum Int Str
def nY:Key->Value->Bool
 | .inl k,v=>Value.isInt k v
 | .inr x,v=>Value.isStrOf x v
def Il(w:World):Key->Int
 | .inl k=>hashInt k
 | .inr x=>hashStr w x
def b9:∀{k:Key}{v:Value},nY k v=true->(∃i t,k=Sum.inl i/\v=Value.int i t)\/(∃x t,k=Sum.inr x/\v=Value.str x t)
 | .inl i,v,h=>by
  obtain⟨t,e⟩:=Value.isInt_shape (k:=i) (v:=v) h
  exact .inl ⟨i,t,rfl,e⟩
 | .inr x,v,h=>by
  obtain⟨t,e⟩:=Value.isStrOf_shape (x:=x) (v:=v) h
  exact .inr ⟨x,t,rfl,e⟩
def ve(i:Int)(t:Tok):nY (.inl i) (.int i t)=true:=by simp[nY,Value.isInt]
def vd(x:Str)(t:Tok):nY (.inr x) (.str x t)=true:=by simp[nY,Value.isStrOf]
def DJ(a b:Int):decide ((Sum.inl a:Key)=Sum.inl b)=(a==b):=by
 by_cases e:a=b
 ·subst e;simp
 ·have h:¬(Sum.inl a:Key)=Sum.inl b:=fun q=>e (Sum.inl.inj q)
  rw[decide_eq_false h]
  exact(beq_eq_false_iff_ne.mpr e).symm
def DG(a b:Str):decide ((Sum.inr a:Key)=Sum.inr b)=decide (a=b):=by
 by_cases e:a=b
 ·subst e;simp
 ·have h:¬(Sum.inr a:Key)=Sum.inr b:=fun q=>e (Sum.inr.inj q)
  rw[decide_eq_false h,decide_eq_false e]
def DI(a:Int)(b:Str):decide ((Sum.inl a:Key)=Sum.inr b)=false:=decide_eq_false (fun q=>nomatch q)
def DH(a:Str)(b:Int):decide ((Sum.inr a:Key)=Sum.inl b)=false:=decide_eq_false (fun q=>nomatch q)
def dZ(prog:Program)(w:World):PySem.KeyKind prog w Key where
 is:=nY
 hash:=Il w
 inj:=fun v a b ha hb=>by
  rcases b9 ha with⟨i,t,rfl,rfl⟩ |⟨x,t,rfl,rfl⟩
  ·rcases b9 hb with⟨j,u,rfl,e⟩ |⟨y,u,rfl,e⟩
   ·injection e with e1 _;rw[e1]
   ·exact nomatch e
  ·rcases b9 hb with⟨j,u,rfl,e⟩ |⟨y,u,rfl,e⟩
   ·exact nomatch e
   ·injection e with e1 _;rw[e1]
 byValue:=fun k v h=>by
  rcases b9 h with⟨i,t,rfl,rfl⟩ |⟨x,t,rfl,rfl⟩<;>rfl
 pyHash:=fun hv h=>by
  rcases b9 hv with⟨i,t,rfl,rfl⟩ |⟨x,t,rfl,rfl⟩
  ·exact wpAny_pyHash_int h
  ·exact wpAny_pyHash_str h
 eqBool:=fun hu hv h=>by
  rcases b9 hu with⟨i,t,rfl,rfl⟩ |⟨x,t,rfl,rfl⟩
  ·rcases b9 hv with⟨j,u,rfl,rfl⟩ |⟨y,u,rfl,rfl⟩
   ·rw[DJ]at h;exact wpAny_eqBool_int h
   ·rw[DI]at h;exact SeqAt.EqAt.int_str i t y u _ _ _ _ h
  ·rcases b9 hv with⟨j,u,rfl,rfl⟩ |⟨y,u,rfl,rfl⟩
   ·rw[DH]at h;exact SeqAt.EqAt.str_int x t j u _ _ _ _ h
   ·rw[DG]at h;exact wpAny_eqBool_str h
 «strs»:=fun k x t v h=>by
  rcases b9 h with⟨i,u,rfl,e⟩ |⟨y,u,rfl,e⟩
  ·exact nomatch e
  ·injection e with e1 _
   subst e1
   cases v<;>rfl
def qi(prog:Program)(w:World)(i:Int)(t:Tok):(dZ prog w).is (.inl i) (.int i t)=true:=ve i t
def qh(prog:Program)(w:World)(x:Str)(t:Tok):(dZ prog w).is (.inr x) (.str x t)=true:=vd x t
end L2
namespace L2
open PySem PySem.Spec PyProof.Rows
inductive V where
 | non | bl (b:Bool) | int (i:Int) | str (x:Str) | byt (b:Array UInt8) | flt (b:UInt64) | ref (a:Addr) | ty (n:String)
 deriving DecidableEq
def bu:V->Value->Prop
 | .non,u=>u=Value.none
 | .bl b,u=>u=Value.bool b
 | .int i,u=>∃t,u=Value.int i t
 | .str x,u=>∃t,u=Value.str x t
 | .byt b,u=>∃t,u=Value.bytes b t
 | .flt b,u=>∃t,u=Value.float b t
 | .ref a,u=>u=Value.ref a
 | .ty n,u=>u=Value.type n
abbrev aP:List V->List Value->Prop:=Paired bu
def aP.length{xs:List V}{us:List Value}(r:aP xs us):xs.length=us.length:=Paired.length r
def aP.get:∀{xs:List V}{us:List Value}{i:Nat}{x:V},aP xs us->xs[i]?=some x->∃u,us[i]?=some u/\bu x u
 | _,_,_,_,.nil,e=>by simp at e
 | _,_,0,_,.cons r _,e=>by simp at e;subst e;exact⟨_,rfl,r⟩
 | _,_,i+1,x,.cons _ t,e=>by
  obtain⟨u,h1,h2⟩:=aP.get (i:=i) (x:=x) t (by simpa using e)
  exact⟨u,by simpa using h1,h2⟩
def aP.set{x:V}{u:Value}(r:bu x u):∀{xs:List V}{us:List Value} (i:Nat),aP xs us->aP (xs.set i x) (us.set i u)
 | _,_,_,.nil=>.nil
 | _,_,0,.cons _ t=>.cons r t
 | _,_,i+1,.cons q t=>.cons q (aP.set r i t)
def aP.append:∀{xs ys:List V}{us ws:List Value},aP xs us->aP ys ws->aP (xs++ys) (us++ws)
 | _,_,_,_,.nil,s=>s
 | _,_,_,_,.cons r t,s=>.cons r (aP.append t s)
def aP.take:∀{xs:List V}{us:List Value} (n:Nat),aP xs us->aP (xs.take n) (us.take n)
 | _,_,0,_ | _,_,_+1,.nil=>.nil
 | _,_,n+1,.cons r t=>.cons r (aP.take n t)
def aP.drop:∀{xs:List V}{us:List Value} (n:Nat),aP xs us->aP (xs.drop n) (us.drop n)
 | _,_,0,r=>r
 | _,_,_+1,.nil=>.nil
 | _,_,n+1,.cons _ t=>aP.drop n t
def k8:Option V->Option Value->Prop
 | some v,some u=>bu v u
 | none,none=>True
 | _,_=>False
def KV{κ:Type}:List (κ×V)->List (κ×Value)->Prop:=Paired fun(p:κ×V) (q:κ×Value)=>p.1=q.1/\bu p.2 q.2
def kV:Key->V
 | .inl i=>.int i
 | .inr x=>.str x
inductive HO where
 | lst (xs:List V)
 | tup (xs:List V)
 | dK (kvs:List (Key×V)) | dT (kvs:List (List Key×V))
 | set(S:Int->Bool) (n:Nat)
 | ins (C dx:Addr) (fs:List (Str×V))
 | own (x:Addr)
 | xd (fs:List (Str×V))
 | met (f x:Addr)
 | rng (lo hi:Int)
 | frz (o:Obj) (u:HO)
 | tbl (ps:Array Value)
 | ext (φ:Heap->Prop)
abbrev Hp:=Addr->Option HO
def upd(H:Hp)(a:Addr)(o:HO):Hp:=fun b=>if b=a then some o else H b
def a5{H:Hp}{a:Addr}{o:HO}:upd H a o a=some o:=by unfold upd;rw[if_pos rfl]
def aK{H:Hp}{a b:Addr}{o:HO}(h:b≠a):upd H a o b=H b:=by unfold upd;rw[if_neg h]
def zN{H:Hp}{a:Addr}{o u:HO}:upd (upd H a o) a u=upd H a u:=by
 funext b;unfold upd;split<;>rfl
def bV{H:Hp}{a b:Addr}{o:HO}(h:H a=some o)(h':H b=none):a≠b:=by
 intro e;subst e;rw[h]at h';cases h'
section
variable(P:Program)(w:World)
def cf(H:Hp)(h:Heap)(a:Addr):HO->Prop
 | .lst xs=>xs.length<=sizeLine/\∃(its:List Value) (n:Nat),aP xs its/\h.get? a=some { cls:=.type "list", data:=.seq its.toArray n }
 | .tup xs=>xs.length<=sizeLine/\∃its:List Value,aP xs its/\IsTup h a its.toArray
 | .dK kvs=>kvs.length<=sizeLine/\(a==sysModules)=false/\∃vs,KV kvs vs/\h.DictOf (dZ P w) a vs
 | .dT kvs=>kvs.length<=sizeLine/\(a==sysModules)=false/\∃xs:List (List Key×Addr×Value),
   Paired (fun(p:List Key×V) (q:List Key×Addr×Value)=>p.1=q.1/\H q.2.1=some (.tup (p.1.map kV))/\bu p.2 q.2.2) kvs xs /\
   ∃o es ep,h.get? a=some o/\o.ExactDict/\o.data=.dict es ep/\es.toList=xs.map (entryOfKey (tupleKind (dZ P w)))/\(xs.map (·.1)).Nodup
 | .set S n=>h.SetOf (intKind P w) a S n
 | .ins C dx fs=>H dx=some (.own a)/\fs.length<=1000/\dx≠a/\h.get? a=some (PySem.W.instObj C dx)/\
   ∃mA,h.Ns1 dx mA/\(∀f,k8 (fs.lookup f) (mA f))/\PySem.Within mA (fs.map (·.1))
 | .own _=>∃o,h.get? a=some o
 | .xd fs=>∃mA,h.Ns1 a mA/\∀f,k8 (fs.lookup f) (mA f)
 | .rng lo hi=>∃t u v,h.get? a=some { cls:=.type "range", data:=.fields #[.int lo t,.int hi u,.int 1 v] }
 | .frz o u=>h.get? a=some o/\cf H h a u
 | .tbl ps=>h.get? a=some { cls:=.none,data:=.fields ps }
 | .met f x=>h.get? a=some (PySem.W.methodObj (.ref f) (.ref x))
 | .ext φ=>φ h/\(∃o,h.get? a=some o)/\∀h1 h2:Heap,φ h1->(∀o,h1.get? a=some o->h2.get? a=some o)->φ h2
def HOk(H:Hp)(h:Heap):Prop:=∀a o,H a=some o->cf P w H h a o
end
section
variable{P:Program}{w:World}{H H':Hp}{h h':Heap}{a:Addr}{o:HO}
def cf.lt(x:cf P w H h a o):a < h.objs.size:=by
 cases o with
 | lst xs=>obtain⟨_,_,_,_,e⟩:=x;exact Heap.lt_size e
 | tup xs=>obtain⟨_,_,_,p⟩:=x;exact p.lt
 | dK kvs | dT kvs=>obtain⟨_,_,_,_,o,_,_,e,_⟩:=x;exact Heap.lt_size e
 | set S n=>obtain⟨o,_,_,_,e,_⟩:=x;exact Heap.lt_size e
 | ins C dx fs=>obtain⟨_,_,_,e,_⟩:=x;exact Heap.lt_size e
 | own y=>obtain⟨_,e⟩:=x;exact Heap.lt_size e
 | xd fs=>obtain⟨_,⟨_,_,_,e,_⟩,_⟩:=x;exact Heap.lt_size e
 | rng lo hi=>obtain⟨_,_,_,e⟩:=x;exact Heap.lt_size e
 | frz ob u=>obtain⟨e,_⟩:=x;exact Heap.lt_size e
 | tbl ps | met f y=>exact Heap.lt_size (show h.get? a=some _ from x)
 | ext φ=>obtain⟨_,⟨_,e⟩,_⟩:=x;exact Heap.lt_size e
def Paired.mapP{α β:Type}{F G:α->β->Prop}:∀{l₁:List α}{l₂:List β},Paired F l₁ l₂->(∀a b,F a b->G a b)->Paired G l₁ l₂
 | _,_,.nil,_=>.nil
 | _,_,.cons r t,f=>.cons (f _ _ r) (Paired.mapP t f)
def cf.stay(x:cf P w H h a o)(k:∀b u,(b=a\/H b=some (.own a))->h.get? b=some u->h'.get? b=some u)
  (ho:∀b,H b=some (.own a)->H' b=some (.own a)) (ht:∀b xs,H b=some (.tup xs)->H' b=some (.tup xs)):cf P w H' h' a o:=by
 induction o with
 | lst xs=>obtain⟨z,its,n,r,e⟩:=x;exact⟨z,its,n,r,k _ _ (.inl rfl) e⟩
 | tup xs=>obtain⟨z,its,r,ob,e,c⟩:=x;exact⟨z,its,r,ob,k _ _ (.inl rfl) e,c⟩
 | dK kvs=>obtain⟨z,y,vs,r,ob,es,ep,e,c⟩:=x;exact⟨z,y,vs,r,ob,es,ep,k _ _ (.inl rfl) e,c⟩
 | dT kvs =>
  obtain⟨z,y,xs,r,ob,es,ep,e,c⟩:=x
  exact⟨z,y,xs,Paired.mapP r fun p q z=>⟨z.1,ht _ _ z.2.1,z.2.2⟩,ob,es,ep,k _ _ (.inl rfl) e,c⟩
 | set S n=>obtain⟨ob,es,ep,t,e,c⟩:=x;exact⟨ob,es,ep,t,k _ _ (.inl rfl) e,c⟩
 | ins C dx fs =>
  obtain⟨d,z,ne,e,mA,⟨od,es,ep,e2,c⟩,r⟩:=x
  exact⟨ho _ d,z,ne,k _ _ (.inl rfl) e,mA,⟨od,es,ep,k _ _ (.inr d) e2,c⟩,r⟩
 | own y=>obtain⟨ob,e⟩:=x;exact⟨ob,k _ _ (.inl rfl) e⟩
 | xd fs=>obtain⟨mA,⟨od,es,ep,e,c⟩,r⟩:=x;exact⟨mA,⟨od,es,ep,k _ _ (.inl rfl) e,c⟩,r⟩
 | rng lo hi=>obtain⟨t,u,v,e⟩:=x;exact⟨t,u,v,k _ _ (.inl rfl) e⟩
 | frz ob u ih=>obtain⟨e,q⟩:=x;exact⟨k _ _ (.inl rfl) e,ih q⟩
 | tbl ps =>
  have e:h.get? a=some { cls:=.none,data:=.fields ps }:=x
  show h'.get? a=some { cls:=.none,data:=.fields ps }
  exact k a _ (.inl rfl) e
 | met f y =>
  have e:h.get? a=some (PySem.W.methodObj (.ref f) (.ref y)):=x
  show h'.get? a=some (PySem.W.methodObj (.ref f) (.ref y))
  exact k a _ (.inl rfl) e
 | ext φ=>obtain⟨p,⟨o,e⟩,st⟩:=x;exact⟨st _ _ p fun o q=>k _ _ (.inl rfl) q,⟨o,k _ _ (.inl rfl) e⟩,st⟩
def HOk.lt(x:HOk P w H h)(e:H a=some o):a < h.objs.size:=(x a o e).lt
def HOk.fresh(x:HOk P w H h)(e:h.objs.size<=a):H a=none:=by
 cases q:H a with
 | none=>rfl
 | some u=>exact absurd (Nat.lt_of_lt_of_le (x.lt q) e) (Nat.lt_irrefl _)
def HOk.kept(x:HOk P w H h)(k:∀b u,h.get? b=some u->h'.get? b=some u):HOk P w H h':=fun a o e =>
 (x a o e).stay (fun b u _ q=>k b u q) (fun _ q=>q) fun _ _ q=>q
def HOk.laid(x:HOk P w H h)(k:∀b u,h.get? b=some u->h'.get? b=some u)(hp:h.objs.size<=a)(new:cf P w (upd H a o) h' a o):HOk P w (upd H a o) h':=fun b u e=>by
 have hn:=x.fresh hp
 by_cases hb:b=a
 ·subst hb;rw[a5]at e;cases e;exact new
 ·rw[aK hb]at e
  exact(x b u e).stay (fun c v _ q=>k c v q) (fun c q=>by rw[aK (bV q hn)];exact q) fun c xs q=>by rw[aK (bV q hn)];exact q
end
def Rd(H:Hp)(a:Addr)(u:HO):Prop:=H a=some u\/∃o,H a=some (.frz o u)
def Rd.ok{P:Program}{w:World}{H:Hp}{h:Heap}{a:Addr}{u:HO}(r:Rd H a u)(x:HOk P w H h):cf P w H h a u:=by
 rcases r with r |⟨o,r⟩
 ·exact x a u r
 ·obtain⟨_,q⟩:=x a _ r
  exact q
def Mut:Option HO->Prop
 | some (.lst _) | some (.dK _) | some (.dT _) | some (.set _ _) | some (.ins _ _ _) | some (.ext _)=>True
 | _=>False
section
variable{P:Program}{w:World}{H:Hp}{h h':Heap}{x e:Addr}{o':HO}
def HOk.write(ok:HOk P w H h)(mu:Mut (H x))(he:e=x\/H e=some (.own x))(k:∀b u,b≠e->h.get? b=some u->h'.get? b=some u)(heo:∃u,h'.get? e=some u)
  (new:cf P w (upd H x o') h' x o'):HOk P w (upd H x o') h':=fun b u q=>by
 have nown:∀c y,H c=some (.own y)->c≠x:=fun c y r z=>by subst z;rw[r]at mu;exact mu
 have ntup:∀c xs,H c=some (.tup xs)->c≠x:=fun c xs r z=>by subst z;rw[r]at mu;exact mu
 by_cases hb:b=x
 ·subst hb;rw[a5]at q;cases q;exact new
 ·rw[aK hb]at q
  by_cases hbe:b=e
  ·have q':H b=some (.own x):=by
    rcases he with z | z
    ·exact absurd (hbe.trans z) hb
    ·rw[hbe];exact z
   rw[q]at q';cases q'
   obtain⟨v,hv⟩:=heo
   exact⟨v,by rw[hbe];exact hv⟩
  ·refine(ok b u q).stay (fun c v hc r=>k c v ?_ r) (fun c r=>by rw[aK (nown c b r)];exact r) fun c xs r=>by rw[aK (ntup c xs r)];exact r
   rcases hc with rfl | hc
   ·exact hbe
   ·rintro rfl
    rcases he with z | z
    ·exact nown c b hc z
    ·rw[hc]at z;cases z;exact hb rfl
end
structure Un(fs ex:List Addr)(H H':Hp)(h h':Heap):Prop where
 keep:∀b o,h.get? b=some o->H b=none->b∉fs->b∉ex->h'.get? b=some o
 slot:∀b o,h.get? b=some o->H b=none->b∈fs->b∉ex->∃sl,h'.get? b=some { o with slots:=sl }
 free:∀b o,h.get? b=some o->H b=none->b∉ex->H' b=none
 there:∀b o,h.get? b=some o->b∉ex->∃o',h'.get? b=some o'
 tups:∀b xs,H b=some (.tup xs)->H' b=some (.tup xs)
 frzs:∀b o u,H b=some (.frz o u)->H' b=some (.frz o u)
 tbls:∀b ps,H b=some (.tbl ps)->∃more,H' b=some (.tbl (ps++more))
section
variable{fs fs' ex ex':List Addr}{H H1 H2:Hp}{h h1 h2 h':Heap}{a x e:Addr}{o:HO}
def Un.any(u:Un fs ex H H1 h h1){b:Addr}{ob:Obj}(q:h.get? b=some ob)(n:H b=none)(hx:b∉ex):∃sl,h1.get? b=some { ob with slots:=sl }:=by
 by_cases hb:b∈fs
 ·exact u.slot b ob q n hb hx
 ·exact⟨ob.slots,u.keep b ob q n hb hx⟩
def Un.trans(a:Un fs ex H H1 h h1)(b:Un fs ex H1 H2 h1 h2):Un fs ex H H2 h h2 where
 keep:=fun c ob q n hc hx=>b.keep c ob (a.keep c ob q n hc hx) (a.free c ob q n hx) hc hx
 slot:=fun c ob q n hc hx=>by
  obtain⟨sl,e1⟩:=a.slot c ob q n hc hx
  obtain⟨sl',e2⟩:=b.slot c _ e1 (a.free c ob q n hx) hc hx
  exact⟨sl',e2⟩
 free:=fun c ob q n hx=>by
  obtain⟨o',e1⟩:=a.there c ob q hx
  exact b.free c o' e1 (a.free c ob q n hx) hx
 there:=fun c ob q hx=>by
  obtain⟨o',e1⟩:=a.there c ob q hx
  exact b.there c o' e1 hx
 tups:=fun c xs q=>b.tups c xs (a.tups c xs q)
 frzs:=fun c ob xs q=>b.frzs c ob xs (a.frzs c ob xs q)
 tbls:=fun c ps q=>by
  obtain⟨m1,e1⟩:=a.tbls c ps q
  obtain⟨m2,e2⟩:=b.tbls c _ e1
  exact⟨m1++m2,by rw[e2,Array.append_assoc]⟩
def Un.kept(k:∀b u,h.get? b=some u->h'.get? b=some u):Un fs ex H H h h' :=
 ⟨fun b ob q _ _ _=>k b ob q,fun b ob q _ _ _=>⟨ob.slots,k b ob q⟩,fun _ _ _ n _=>n,fun b ob q _=>⟨ob,k b ob q⟩,fun _ _ q=>q,fun _ _ _ q=>q,fun _ ps q=>⟨#[],by rw[q];simp⟩⟩
def Un.refl:Un fs ex H H h h:=Un.kept fun _ _ q=>q
def Un.laid(k:∀b u,h.get? b=some u->h'.get? b=some u)(hp:h.objs.size<=a)(hn:H a=none):Un fs ex H (upd H a o) h h' where
 keep:=fun b u q _ _ _=>k b u q
 slot:=fun b u q _ _ _=>⟨u.slots,k b u q⟩
 free:=fun b u q n _=>by rw[aK (Nat.ne_of_lt (Nat.lt_of_lt_of_le (Heap.lt_size q) hp))];exact n
 there:=fun b u q _=>⟨u,k b u q⟩
 tups:=fun b xs q=>by rw[aK (bV q hn)];exact q
 frzs:=fun b u xs q=>by rw[aK (bV q hn)];exact q
 tbls:=fun b ps q=>⟨#[],by rw[aK (bV q hn),q];simp⟩
def Un.write(mu:Mut (H x))(he:e=x\/H e=some (.own x))(k:∀b u,b≠e->h.get? b=some u->h'.get? b=some u)(heo:∃u,h'.get? e=some u):Un fs ex H (upd H x o) h h':=by
 have hx:∀b,H b=none->b≠x:=fun b n z=>by subst z;rw[n]at mu;exact mu
 have hb:∀b,H b=none->b≠e:=fun b n z=>by
  subst z
  rcases he with r | r
  ·exact hx b n r
  ·rw[n]at r;cases r
 have hm:∀b u,H b=some u->¬Mut (some u)->b≠x:=fun b u q nm z=>by subst z;rw[q]at mu;exact nm mu
 refine ⟨fun b u q n _ _=>k b u (hb b n) q,fun b u q n _ _=>⟨u.slots,k b u (hb b n) q⟩,fun b u q n _=>by rw [aK (hx b n)];exact n,fun b u q _=>?_,
  fun b xs q=>by rw[aK (hm b _ q fun z=>z)];exact q,fun b u xs q=>by rw[aK (hm b _ q fun z=>z)];exact q,fun b ps q=>⟨#[],by rw[aK (hm b _ q fun z=>z),q];simp⟩⟩
 by_cases hbe:b=e
 ·subst hbe;exact heo
 ·exact⟨u,k b u hbe q⟩
def Un.mono(u:Un fs ex H H1 h h1)(hs:∀b∈fs,b∈fs')(hx:∀b∈ex,b∈ex'):Un fs' ex' H H1 h h1 :=
 ⟨fun b ob q n hb he=>u.keep b ob q n (fun z=>hb (hs b z)) fun z=>he (hx b z),fun _ _ q n _ he=>u.any q n fun z=>he (hx _ z),fun b ob q n he=>u.free b ob q n fun z=>he (hx b z),fun b ob q he=>u.there b ob q fun z=>he (hx b z),u.tups,u.frzs,u.tbls⟩
end
def trk(h:Heap)(H:Hp):List Addr:=(List.range h.objs.size).filter fun a=>(H a).isSome
def oZ(h:Heap)(H:Hp):Heap:=PySem.W.hideAll h (trk h H)
def vj(h:Heap)(H:Hp):(oZ h H).objs.size=h.objs.size:=PySem.W.hideAll_size _ _
def xV{h:Heap}{H:Hp}{b:Addr}{o:Obj}(e:h.get? b=some o)(n:H b=none):(oZ h H).get? b=some o :=
 PySem.W.hideAll_get _ e fun hm=>by
  have q:(H b).isSome=true:=(List.mem_filter.mp hm).2
  rw[n]at q;simp at q
def AR{h:Heap}{H:Hp}{b:Addr}{o:Obj}(e:(oZ h H).get? b=some o):h.get? b=some o/\H b=none:=by
 have e':h.get? b=some o:=PySem.W.of_hideAll (trk h H) e
 refine⟨e',?_⟩
 cases q:H b with
 | none=>rfl
 | some x =>
  have hm:b∈trk h H:=List.mem_filter.mpr ⟨List.mem_range.mpr (Heap.lt_size e'),by simp[q]⟩
  have z:(oZ h H).get? b=none:=PySem.W.hideAll_none (trk h H) hm
  rw[z]at e;cases e
def BG(g h:Heap)(L:Addr):List (Addr×Obj):=(List.range h.objs.size).filterMap fun a=>if a=L \/(g.get? a).isSome=true then none else(h.get? a).map fun o=>(a,o)
def bF(g h:Heap)(L d:Addr):List (Addr×Obj):=(BG g h L).filter fun p=>decide (p.1≠d)
end L2
namespace L2
open PySem PySem.Spec PyProof.Rows
structure Mod(K:PySem.W.Frag)(mg:Str->Option Value)(base:Heap):Prop where
 kin:K.In base
 glob:base.Ns mainGlobals mg
 blt:∃mb,base.Ns builtinsNs mb/\∀x:Str,x≠"__name__" -> mb x=bootBuiltins x
 nolimit:base.NoLimit
structure Cx where
 prog:Program
 w:World
 K:PySem.W.Frag
 mg:Str->Option Value
 base:Heap
 A:Around
 N:List Str
 s₀:Shared
 H₀:Hp
 env:Env
 outer:List Env
 stack:List Env
 ex:List Addr
 fn:Str->Bool
 calm:Bool
 pn:List (Addr×Obj)
 xe:Value->Shared->Prop
def frs(l:List Env):List Addr:=l.filterMap (·.frame)
abbrev Cx.fs(X:Cx):List Addr:=frs X.outer
def Vis(sc:Scope)(x:Str):Prop:=sc.names.lookup x=some .local\/sc.names.lookup x=some .cell\/sc.names.lookup x=some .free
def Loc(sc:Scope)(x:Str):Prop:=sc.names.lookup x=some .local\/sc.names.lookup x=some .cell
def Iz(env:Env)(h:Heap)(m:Str->Option Value)(x:Str)(u:Value):Prop :=
 (env.kindOf x=some .local/\m x=some u)\/((env.kindOf x=some .cell\/env.kindOf x=some .free)/\∃c,env.cells.lookup x=some c/\h.IsCell c (some u))
structure Cx.Ok(X:Cx):Prop where
 mod:Mod X.K X.mg X.base
 kind:X.env.scope.kind=.function
 glob:X.env.globals=mainGlobals
 blt:X.env.builtins=builtinsNs
 above:X.s₀.heap.objs.size<=X.env.locals
 inj:∀x y c,X.env.cells.lookup x=some c->X.env.cells.lookup y=some c->x=y
 has:∀x,(X.env.kindOf x=some .cell\/X.env.kindOf x=some .free)->∃c,X.env.cells.lookup x=some c
 cab:∀x c,X.fn x=true->X.env.cells.lookup x=some c->X.s₀.heap.objs.size<=c
 hd:X.calm=true->X.A.handled=none
 frames:X.A.frames=some X.stack
 stk:X.stack=X.outer \/(X.stack=X.env::X.outer/\X.env.frame=some X.env.locals)
 exf:∀b∈X.ex,b≠X.env.locals/\∀x c,X.env.cells.lookup x=some c->c≠b
 bs:∀b o,X.base.get? b=some o->X.s₀.heap.get? b=some o/\X.H₀ b=none
 bsz:X.base.objs.size<=X.s₀.heap.objs.size
 noex:∀b o,X.base.get? b=some o->b∉X.ex
 exfs:∀b∈X.ex,b∉X.fs
 funs:X.s₀.heap.FunFrames X.base X.outer
 frf:∀b∈X.fs,X.H₀ b=none
structure Inv(X:Cx)(js:List (Addr×Obj))(Y:List (Option V))(H:Hp)(s:Shared):Prop where
 ok:X.Ok
 os:s.os=X.s₀.os
 bare:AllBare s.gens
 base:Un X.fs X.ex X.H₀ H X.s₀.heap s.heap
 loc:∃m,s.heap.Ns X.env.locals m/\∀(i:Nat) (x:Str) (v:V),X.N[i]?=some x->Y[i]?=some (some v)->Vis X.env.scope x->∃u,bu v u/\Iz X.env s.heap m x u
 cell:∀x c,X.env.cells.lookup x=some c->∃v,s.heap.IsCell c v
 free:H X.env.locals=none
 freeC:∀x c,X.env.cells.lookup x=some c->H c=none
 pin:∀p∈X.pn++js,s.heap.get? p.1=some p.2/\H p.1=none/\p.1≠X.env.locals/\p.1∉X.fs/\∀v,p.2.data≠.cell v
 hok:HOk X.prog X.w H s.heap
 len:Y.length=X.N.length
section
variable{X:Cx}{js:List (Addr×Obj)}{Y:List (Option V)}{H H':Hp}{s:Shared}{h':Heap}
def Cx.Ok.nofr(ok:X.Ok){b:Addr}{o:Obj}(e:X.base.get? b=some o):b∉X.fs:=fun hb=>by
 have:=(ok.funs.mem hb).1
 rw[e]at this;cases this
def Inv.bs(I:Inv X js Y H s):∀b o,X.base.get? b=some o->s.heap.get? b=some o/\H b=none:=fun b o e =>
 ⟨I.base.keep b o (I.ok.bs b o e).1 (I.ok.bs b o e).2 (I.ok.nofr e) (I.ok.noex b o e),I.base.free b o (I.ok.bs b o e).1 (I.ok.bs b o e).2 (I.ok.noex b o e)⟩
def Inv.bk(I:Inv X js Y H s):∀b o,X.base.get? b=some o->s.heap.get? b=some o:=fun b o e=>(I.bs b o e).1
def Inv.mod(I:Inv X js Y H s):Mod X.K X.mg X.base:=I.ok.mod
def Inv.kIn(I:Inv X js Y H s):X.K.In s.heap:=I.ok.mod.kin.keeps I.bk
def Inv.lt(I:Inv X js Y H s):X.env.locals < s.heap.objs.size:=let⟨_,hn,_⟩:=I.loc;hn.lt
def Inv.sz(I:Inv X js Y H s):X.s₀.heap.objs.size<=s.heap.objs.size:=Nat.le_trans I.ok.above (Nat.le_of_lt I.lt)
def Inv.nofs(I:Inv X js Y H s){a:Addr}(h:s.heap.objs.size<=a):a∉X.fs:=fun hb=>by
 obtain⟨_,o,ho,_⟩:=I.ok.funs.mem hb
 exact absurd (Nat.lt_of_lt_of_le (Heap.lt_size ho) (Nat.le_trans I.sz h)) (Nat.lt_irrefl _)
def Inv.cne(I:Inv X js Y H s):∀x c,X.env.cells.lookup x=some c->c≠X.env.locals:=fun x c e z=>by
 obtain⟨v,o,ho,hd⟩:=I.cell x c e
 obtain⟨m,⟨o',es,ep,ho',hd',_⟩,_⟩:=I.loc
 rw[z,ho']at ho;cases ho;rw[hd']at hd;cases hd
def Inv.funs(I:Inv X js Y H s):s.heap.FunFrames X.base X.outer:=by
 have all:∀(l:List Env),(∀b∈frs l,b∈X.fs)->X.s₀.heap.FunFrames X.base l->s.heap.FunFrames X.base l:=by
  intro l
  induction l with
  | nil=>intro _ _;trivial
  | cons env r ih =>
   intro hs hl
   obtain⟨hk,⟨L,o,hf,hn,ho,hd⟩,hr⟩:=hl
   have hL:L∈X.fs:=hs L (by unfold frs;rw[List.filterMap_cons,hf];exact List.mem_cons_self)
   obtain⟨sl,e⟩:=I.base.slot L o ho (I.ok.frf L hL) hL fun z=>I.ok.exfs L z hL
   exact⟨hk,⟨L,_,hf,hn,e,hd⟩,ih (fun b hb=>hs b (by unfold frs;rw[List.filterMap_cons,hf];exact List.mem_cons_of_mem _ hb)) hr⟩
 exact all X.outer (fun _ hb=>hb) I.ok.funs
def Inv.stack(I:Inv X js Y H s):s.heap.FunFrames X.base X.stack:=by
 rcases I.ok.stk with e |⟨e,hf⟩
 ·rw[e];exact I.funs
 ·rw[e]
  obtain⟨m,hn,_⟩:=I.loc
  refine .cons (by rw[I.ok.kind];decide) hf hn ?_ I.funs
  exact Heap.get?_none_of_le (Nat.le_trans I.ok.bsz I.ok.above)
def Inv.stkSub(I:Inv X js Y H s):∀b∈frs X.stack,b∈X.env.locals::X.fs:=fun b hb=>by
 rcases I.ok.stk with e |⟨e,hf⟩
 ·rw[e]at hb;exact List.mem_cons_of_mem _ hb
 ·rw[e]at hb
  unfold frs at hb
  rw[List.filterMap_cons,hf]at hb
  exact hb
def Inv.stkFree(I:Inv X js Y H s):∀b∈frs X.stack,H b=none:=fun b hb=>by
 rcases List.mem_cons.mp (I.stkSub b hb)with e | hb
 ·rw[e];exact I.free
 ·obtain⟨_,o,ho,_⟩:=I.ok.funs.mem hb
  exact I.base.free b o ho (I.ok.frf b hb) fun z=>I.ok.exfs b z hb
def Inv.step{g':Array GenState}{t':Nat}{d':Drawn}{ch:List Addr}(I:Inv X js Y H s)
  (hch:∀b∈ch,(b∈X.ex\/X.s₀.heap.objs.size<=b)/\b≠X.env.locals/\(∀x c,X.env.cells.lookup x=some c->c≠b)/\∀p∈X.pn++js,p.1≠b)
  (keep:∀b o,b≠X.env.locals->b∉X.fs->b∉ch->s.heap.get? b=some o->H b=none->h'.get? b=some o)
  (slot:∀b o,b≠X.env.locals->b∈X.fs->b∉ch->s.heap.get? b=some o->H b=none->∃sl,h'.get? b=some { o with slots:=sl }) (free:∀b o,b∉ch->s.heap.get? b=some o->H b=none->H' b=none)
  (there:∀b o,b∉ch->s.heap.get? b=some o->∃o',h'.get? b=some o')
  (tups:∀b xs,H b=some (.tup xs)->H' b=some (.tup xs)) (frzs:∀b o u,H b=some (.frz o u)->H' b=some (.frz o u)) (tbls:∀b ps,H b=some (.tbl ps)->∃more,H' b=some (.tbl (ps++more)))
  (ns:∀m,s.heap.Ns X.env.locals m->h'.Ns X.env.locals m) (hok:HOk X.prog X.w H' h') (hg:AllBare g') :
  Inv X js Y H' { s with heap:=h',gens:=g',drawn:=d',toks:=t' }:=by
 have neL:∀b o,X.s₀.heap.get? b=some o->b≠X.env.locals:=fun b o e=>Nat.ne_of_lt (Nat.lt_of_lt_of_le (Heap.lt_size e) I.ok.above)
 have neC:∀b o,X.s₀.heap.get? b=some o->b∉X.ex->b∉ch:=fun b o e hx hb=>by
  rcases(hch b hb).1 with z | z
  ·exact hx z
  ·exact absurd (Nat.lt_of_lt_of_le (Heap.lt_size e) z) (Nat.lt_irrefl _)
 have cellK:∀x c,X.env.cells.lookup x=some c->∀v,s.heap.IsCell c v->h'.IsCell c v:=fun x c e v hz1=>by
  obtain⟨o,ho,hd⟩:=hz1
  have nch:c∉ch:=fun z=>(hch c z).2.2.1 x c e rfl
  by_cases hc:c∈X.fs
  ·obtain⟨sl,q⟩:=slot c o (I.cne x c e) hc nch ho (I.freeC x c e)
   exact⟨_,q,hd⟩
  ·exact⟨o,keep c o (I.cne x c e) hc nch ho (I.freeC x c e),hd⟩
 refine⟨I.ok,I.os,hg,⟨fun b o e n hb hx=>?_,fun b o e n hb hx=>?_,fun b o e n hx=>?_,fun b o e hx=>?_,fun b xs e=>tups b xs (I.base.tups b xs e),fun b o xs e=>frzs b o xs (I.base.frzs b o xs e),fun b ps e=>?_⟩,?_,fun x c e=>?_,?_,fun x c e=>?_,fun p hp=>?_,hok,I.len⟩
 ·exact keep b o (neL b o e) hb (neC b o e hx) (I.base.keep b o e n hb hx) (I.base.free b o e n hx)
 ·obtain⟨sl,e1⟩:=I.base.slot b o e n hb hx
  obtain⟨sl',e2⟩:=slot b _ (neL b o e) hb (neC b o e hx) e1 (I.base.free b o e n hx)
  exact⟨sl',e2⟩
 ·obtain⟨o',e1⟩:=I.base.there b o e hx
  exact free b o' (neC b o e hx) e1 (I.base.free b o e n hx)
 ·obtain⟨o',e1⟩:=I.base.there b o e hx
  exact there b o' (neC b o e hx) e1
 ·obtain⟨m1,e1⟩:=I.base.tbls b ps e
  obtain⟨m2,e2⟩:=tbls b _ e1
  exact⟨m1++m2,by rw[e2,Array.append_assoc]⟩
 ·obtain⟨m,hn,hl⟩:=I.loc
  refine⟨m,ns m hn,fun i x v e1 e2 e3=>?_⟩
  obtain⟨u,r,l⟩:=hl i x v e1 e2 e3
  refine⟨u,r,?_⟩
  rcases l with l |⟨k,c,e,z⟩
  ·exact .inl l
  ·exact .inr ⟨k,c,e,cellK x c e _ z⟩
 ·obtain⟨v,z⟩:=I.cell x c e
  exact⟨v,cellK x c e v z⟩
 ·obtain⟨m,⟨o,_,_,ho,_⟩,_⟩:=I.loc
  exact free _ o (fun z=>(hch _ z).2.1 rfl) ho I.free
 ·obtain⟨v,o,ho,hd⟩:=I.cell x c e
  exact free c o (fun z=>(hch c z).2.2.1 x c e rfl) ho (I.freeC x c e)
 ·obtain⟨e,n,ne,nf,d⟩:=I.pin p hp
  have nch:p.1∉ch:=fun z=>(hch p.1 z).2.2.2 p hp rfl
  exact⟨keep p.1 p.2 ne nf nch e n,free p.1 p.2 nch e n,ne,nf,d⟩
def Inv.un{t':Nat}(I:Inv X js Y H s)(u:Un X.fs [] H H' s.heap h')(hok:HOk X.prog X.w H' h'):Inv X js Y H' { s with heap:=h',toks:=t' }:=by
 obtain⟨m,⟨o,es,ep,ho,r⟩,_⟩:=id I.loc
 obtain⟨sl,hL⟩:=u.any ho I.free (by simp)
 exact I.step (g':=s.gens) (d':=s.drawn) (ch:=[]) (fun _ z=>nomatch z) (fun b o _ hb _ e n=>u.keep b o e n hb (by simp)) (fun b o _ hb _ e n=>u.slot b o e n hb (by simp)) (fun b o _ e n=>u.free b o e n (by simp)) (fun b o _ e=>u.there b o e (by simp)) u.tups u.frzs u.tbls (fun m' hm=>by
  obtain⟨o',es',ep',ho',r'⟩:=hm
  rw[ho]at ho';cases ho'
  exact⟨_,es',ep',hL,r'⟩) hok I.bare
def Inv.call{g':Array GenState}{t':Nat}{d':Drawn}{ch:List Addr}(I:Inv X js Y H s)(u:Un (frs X.stack) ch H H' s.heap h')(hok:HOk X.prog X.w H' h')(hg:AllBare g')
  (hch:∀b∈ch,(b∈X.ex\/X.s₀.heap.objs.size<=b)/\b≠X.env.locals/\(∀x c,X.env.cells.lookup x=some c->c≠b)/\∀p∈X.pn++js,p.1≠b) :
  Inv X js Y H' { s with heap:=h',gens:=g',drawn:=d',toks:=t' }:=by
 obtain⟨m,⟨o,es,ep,ho,r⟩,_⟩:=id I.loc
 obtain⟨sl,hL⟩:=u.any ho I.free fun z=>(hch _ z).2.1 rfl
 exact I.step (ch:=ch) hch (fun b o hL hb hc e n=>u.keep b o e n (fun z=>(List.mem_cons.mp (I.stkSub b z)).elim hL hb) hc) (fun b o _ _ hc e n=>u.any e n hc) (fun b o hc e n=>u.free b o e n hc) (fun b o hc e=>u.there b o e hc) u.tups u.frzs u.tbls (fun m' hm=>by
  obtain⟨o',es',ep',ho',r'⟩:=hm
  rw[ho]at ho';cases ho'
  exact⟨_,es',ep',hL,r'⟩) hok hg
def Inv.turned{t':Nat}{it:Addr}(I:Inv X js Y H s)(k:∀b o,b≠it->s.heap.get? b=some o->h'.get? b=some o)(hn:H it=none)(hL:it≠X.env.locals)
  (h1:it∈X.ex\/X.s₀.heap.objs.size<=it) (h2:∀x c,X.env.cells.lookup x=some c->c≠it) (h3:∀p∈X.pn++js,p.1≠it):Inv X js Y H { s with heap:=h',toks:=t' }:=by
 have nit:∀b u,H b=some u->b≠it:=fun b u e z=>by rw[z,hn]at e;cases e
 refine I.step (g':=s.gens) (d':=s.drawn) (ch:=[it]) (fun b hb=>?_) (fun b o _ _ hc e _=>k b o (fun z=>hc (by simp[z])) e) (fun b o _ _ hc e _=>⟨o.slots,k b o (fun z=>hc (by simp[z])) e⟩) (fun _ _ _ _ n=>n)
  (fun b o hc e=>⟨o,k b o (fun z=>hc (by simp[z])) e⟩) (fun _ _ e=>e) (fun _ _ _ e=>e) (fun b ps e=>⟨#[],by rw[e];simp⟩) (fun m hm=>?_) (fun b u e=>?_) I.bare
 ·have e:b=it:=by simpa using hb
  subst e
  exact⟨h1,hL,h2,h3⟩
 ·obtain⟨o,es,ep,ho,r⟩:=hm
  exact⟨o,es,ep,k _ o (Ne.symm hL) ho,r⟩
 ·refine(I.hok b u e).stay (fun c v hc q=>k c v ?_ q) (fun _ q=>q) fun _ _ q=>q
  rcases hc with z | z
  ·rw[z];exact nit b u e
  ·exact nit c _ z
def Inv.tok(I:Inv X js Y H s)(t:Nat):Inv X js Y H { s with toks:=t }:=I.un (h':=s.heap) (t':=t) Un.refl I.hok
def Inv.kept{t':Nat}(I:Inv X js Y H s)(k:∀b u,s.heap.get? b=some u->h'.get? b=some u):Inv X js Y H { s with heap:=h',toks:=t' }:=I.un (Un.kept k) (I.hok.kept k)
def Inv.laid{a:Addr}{o:HO}{t':Nat}(I:Inv X js Y H s)(k:∀b u,s.heap.get? b=some u->h'.get? b=some u)(hp:s.heap.objs.size<=a)(new:cf X.prog X.w (upd H a o) h' a o) :
  Inv X js Y (upd H a o) { s with heap:=h',toks:=t' }:=I.un (Un.laid k hp (I.hok.fresh hp)) (I.hok.laid k hp new)
def Inv.write{x e:Addr}{o:HO}{t':Nat}(I:Inv X js Y H s)(mu:Mut (H x))(he:e=x\/H e=some (.own x))(k:∀b u,b≠e->s.heap.get? b=some u->h'.get? b=some u)(heo:∃u,h'.get? e=some u)
  (new:cf X.prog X.w (upd H x o) h' x o):Inv X js Y (upd H x o) { s with heap:=h',toks:=t' }:=I.un (Un.write mu he k heo) (I.hok.write mu he k heo new)
def Inv.pins_of{pins':List (Addr×Obj)}(I:Inv X js Y H s)(h:∀p∈pins',s.heap.get? p.1=some p.2/\H p.1=none/\p.1≠X.env.locals/\p.1∉X.fs/\∀v,p.2.data≠.cell v):Inv X pins' Y H s :=
 ⟨I.ok,I.os,I.bare,I.base,I.loc,I.cell,I.free,I.freeC,fun p hp=>(List.mem_append.mp hp).elim (fun z=>I.pin p (List.mem_append_left _ z)) (h p),I.hok,I.len⟩
def qd{N:List Str}(hN:N.Nodup){i j:Nat}{x:Str}(a:N[i]?=some x)(b:N[j]?=some x):i=j:=by
 obtain⟨h1,e1⟩:=List.getElem?_eq_some_iff.mp a
 obtain⟨h2,e2⟩:=List.getElem?_eq_some_iff.mp b
 exact(List.getElem_inj hN).mp (e1.trans e2.symm)
def nD{M:Model}{A:Around}{E:Value->Shared->Prop}{i:Nat}{x:Str}{v:V}{u:Value}{Q:Unit->Shared->Prop}(I:Inv X js Y H s)(hN:X.N.Nodup)(hi:X.N[i]?=some x)(hx:Loc X.env.scope x)(r:bu v u)
  (h:∀s',Inv X js (Y.set i (some v)) H s'->(∃a,Heap.SameBut a s.heap s'.heap/\(a=X.env.locals\/X.env.cells.lookup x=some a))->Q () s') (hf:X.fn x=true\/X.env.scope.names.lookup x=some .local:=by first | exact .inl rfl | exact .inr rfl | assumption):wpAny M A (storeName X.env x u) Q E s:=by
 obtain⟨m,hn,hl⟩:=id I.loc
 have hcls:(X.env.scope.kind==.class ||(X.env.scope.kind==.module&&X.env.locals != X.env.globals))=false:=by rw[I.ok.kind];rfl
 have hiσ:i < Y.length:=by rw[I.len];exact(List.getElem?_eq_some_iff.mp hi).1
 have cne:=I.cne
 have tracked:∀{a:Addr}{h':Heap},(∃o,s.heap.get? a=some o/\H a=none)->Heap.SameBut a s.heap h'->HOk X.prog X.w H h':=fun {a h'} ha hs b ob e=>by
  obtain⟨_,_,hfree⟩:=ha
  refine(I.hok b ob e).stay (fun c w' hc q=>(hs.2 c ?_).trans q) (fun _ q=>q) fun _ _ q=>q
  rintro rfl
  rcases hc with rfl | hc
  ·rw[hfree]at e;cases e
  ·rw[hfree]at hc;cases hc
 rcases hx with hk | hk
 ·refine wpAny_storeName_local hk hn (fun h' hn' hs=>?_) hcls
  obtain⟨oL,_,_,hoL,_⟩:=id hn
  refine h _ ⟨I.ok,I.os,I.bare,⟨fun b o e n hb hx=>?_,fun b o e n hb hx=>?_,I.base.free,fun b o e hx=>?_,I.base.tups,I.base.frzs,I.base.tbls⟩,⟨_,hn',fun j y v' e1 e2 e3=>?_⟩,fun y c e=>?_,I.free,I.freeC,fun p hp=>?_,tracked ⟨oL,hoL,I.free⟩ hs,by simpa using I.len⟩ ⟨_,hs,.inl rfl⟩
  ·exact(hs.2 b (Nat.ne_of_lt (Nat.lt_of_lt_of_le (Heap.lt_size e) I.ok.above))).trans (I.base.keep b o e n hb hx)
  ·obtain⟨sl,e1⟩:=I.base.slot b o e n hb hx
   exact⟨sl,(hs.2 b (Nat.ne_of_lt (Nat.lt_of_lt_of_le (Heap.lt_size e) I.ok.above))).trans e1⟩
  ·obtain⟨o',e1⟩:=I.base.there b o e hx
   exact⟨o',(hs.2 b (Nat.ne_of_lt (Nat.lt_of_lt_of_le (Heap.lt_size e) I.ok.above))).trans e1⟩
  ·by_cases hj:j=i
   ·subst hj
    rw[hi]at e1;cases e1
    rw[List.getElem?_set_self hiσ]at e2
    cases e2
    exact⟨u,r,.inl ⟨hk,by simp⟩⟩
   ·rw[List.getElem?_set_ne (Ne.symm hj)]at e2
    obtain⟨u',r',q⟩:=hl j y v' e1 e2 e3
    refine⟨u',r',?_⟩
    rcases q with⟨k,e⟩ |⟨k,c,e,z⟩
    ·refine .inl ⟨k,?_⟩
     have:y≠x:=fun e=>hj (qd hN e1 (e▸hi))
     simp[this,e]
    ·exact .inr ⟨k,c,e,z.sameBut hs (cne y c e)⟩
  ·obtain⟨w',z⟩:=I.cell y c e
   exact⟨w',z.sameBut hs (cne y c e)⟩
  ·obtain⟨e,n,ne,nf,d⟩:=I.pin p hp
   exact⟨(hs.2 p.1 ne).trans e,n,ne,nf,d⟩
 ·have hfn:X.fn x=true:=by
   rcases hf with z | z
   ·exact z
   ·rw[z]at hk;cases hk
  obtain⟨c,hc⟩:=I.ok.has x (.inl hk)
  obtain⟨w',z⟩:=I.cell x c hc
  refine wpAny_storeName_cell I.ok.kind hk hc z (fun h' hc' hs=>?_)
  obtain⟨oc,hoc,hocd⟩:=id z
  refine h { s with heap:=h' } ⟨I.ok,I.os,I.bare,⟨fun b o e n hb hx=>?_,fun b o e n hb hx=>?_,I.base.free,fun b o e hx=>?_,I.base.tups,I.base.frzs,I.base.tbls⟩,⟨m,hn.sameBut hs (Ne.symm (cne x c hc)),fun j y v' e1 e2 e3=>?_⟩,fun y c' e=>?_,I.free,I.freeC,fun p hp=>?_,tracked ⟨oc,hoc,I.freeC x c hc⟩ hs,by simpa using I.len⟩ ⟨c,hs,.inr hc⟩
  ·exact(hs.2 b (Nat.ne_of_lt (Nat.lt_of_lt_of_le (Heap.lt_size e) (I.ok.cab x c hfn hc)))).trans (I.base.keep b o e n hb hx)
  ·obtain⟨sl,e1⟩:=I.base.slot b o e n hb hx
   exact⟨sl,(hs.2 b (Nat.ne_of_lt (Nat.lt_of_lt_of_le (Heap.lt_size e) (I.ok.cab x c hfn hc)))).trans e1⟩
  ·obtain⟨o',e1⟩:=I.base.there b o e hx
   exact⟨o',(hs.2 b (Nat.ne_of_lt (Nat.lt_of_lt_of_le (Heap.lt_size e) (I.ok.cab x c hfn hc)))).trans e1⟩
  ·by_cases hj:j=i
   ·subst hj
    rw[hi]at e1;cases e1
    rw[List.getElem?_set_self hiσ]at e2
    cases e2
    exact⟨u,r,.inr ⟨.inl hk,c,hc,hc'⟩⟩
   ·rw[List.getElem?_set_ne (Ne.symm hj)]at e2
    obtain⟨u',r',q⟩:=hl j y v' e1 e2 e3
    refine⟨u',r',?_⟩
    rcases q with q |⟨k,c',e,z'⟩
    ·exact .inl q
    ·refine .inr ⟨k,c',e,z'.sameBut hs ?_⟩
     rintro rfl
     exact hj (qd hN e1 (I.ok.inj _ _ _ e hc▸hi))
  ·by_cases hcc:c'=c
   ·subst hcc;exact⟨_,hc'⟩
   ·obtain⟨w2,z2⟩:=I.cell y c' e
    exact⟨w2,z2.sameBut hs hcc⟩
  ·obtain⟨e,n,ne,nf,d⟩:=I.pin p hp
   refine⟨(hs.2 p.1 ?_).trans e,n,ne,nf,d⟩
   intro q
   rw[q,hoc]at e
   have q':oc=p.2:=Option.some.inj e
   exact d w' (by rw[<- q'];exact hocd)
def pJ{M:Model}{A:Around}{E:Value->Shared->Prop}{i:Nat}{x:Str}{v:V}{u:Value}{Q:Unit->Shared->Prop}(I:Inv X js Y H s)(hN:X.N.Nodup)(hi:X.N[i]?=some x)(hx:Loc X.env.scope x)(r:bu v u)
  (h:∀s',Inv X js (Y.set i (some v)) H s'->Q () s') (hf:X.fn x=true\/X.env.scope.names.lookup x=some .local:=by first | exact .inl rfl | exact .inr rfl | assumption):wpAny M A (storeName X.env x u) Q E s :=
 nD I hN hi hx r (fun s' I' _=>h s' I') hf
def Inv.call'{s':Shared}{ch:List Addr}(I:Inv X js Y H s)(ho:s'.os=s.os)(u:Un (frs X.stack) ch H H' s.heap s'.heap)(hok:HOk X.prog X.w H' s'.heap)(hg:AllBare s'.gens)
  (hch:∀b∈ch,(b∈X.ex\/X.s₀.heap.objs.size<=b)/\b≠X.env.locals/\(∀x c,X.env.cells.lookup x=some c->c≠b)/\∀p∈X.pn++js,p.1≠b):Inv X js Y H' s':=by
 obtain⟨h',g',d',t',o'⟩:=s'
 have e:o'=s.os:=ho
 subst e
 exact I.call (g':=g') (t':=t') (d':=d') u hok hg hch
end
abbrev XK:=Value->Option Addr->Hp->Prop
abbrev St:=List (Option V)
abbrev VK:=V->Hp->Prop
abbrev TE:=St->Hp->VK->Prop
abbrev TT:=St->Hp->(Bool->Hp->Prop)->Prop
abbrev TA:=St->Hp->(List V->Hp->Prop)->Prop
structure Ends where
 nx:St->Hp->Prop
 rt:VK
 bk:St->Hp->Prop:=fun _ _=>False
 ct:St->Hp->Prop:=fun _ _=>False
abbrev TS:=Ends->St->Hp->Prop
def EP(X:Cx)(js:List (Addr×Obj))(Y:St)(Q:VK)(u:Value)(s':Shared):Prop:=∃v H',Inv X js Y H' s'/\bu v u/\Q v H'
def TP(X:Cx)(js:List (Addr×Obj))(Y:St)(Q:Bool->Hp->Prop)(b:Bool)(s':Shared):Prop:=∃H',Inv X js Y H' s'/\Q b H'
def AP(X:Cx)(js:List (Addr×Obj))(Y:St)(Q:List V->Hp->Prop)(us:List Value)(s':Shared):Prop:=∃vs H',Inv X js Y H' s'/\aP vs us/\Q vs H'
def SP(X:Cx)(js:List (Addr×Obj))(D:Ends)(f:Flow)(s':Shared):Prop :=
 match f with
 | .next=>∃σ' H',Inv X js σ' H' s'/\D.nx σ' H'
 | .brk=>∃σ' H',Inv X js σ' H' s'/\D.bk σ' H'
 | .cont=>∃σ' H',Inv X js σ' H' s'/\D.ct σ' H'
 | .ret u=>∃v σ' H',Inv X js σ' H' s'/\bu v u/\D.rt v H'
def PE(X:Cx)(e:Expr)(t:TE):Prop :=
 ∀(js:List (Addr×Obj)) (s:Shared) (Y:St) (H:Hp) (Q:VK),Inv X js Y H s->t Y H Q->wpAny (model X.prog X.w) X.A (eval e X.env) (EP X js Y Q) X.xe s
def PT(X:Cx)(e:Expr)(t:TT):Prop :=
 ∀(js:List (Addr×Obj)) (s:Shared) (Y:St) (H:Hp) (Q:Bool->Hp->Prop),Inv X js Y H s->t Y H Q->wpAny (model X.prog X.w) X.A (isTrue e X.env (eval e X.env)) (TP X js Y Q) X.xe s
def PW(X:Cx)(e:Expr)(t:TT):Prop :=
 ∀(whole:Sem Value) (js:List (Addr×Obj)) (s:Shared) (Y:St) (H:Hp) (Q:Bool->Hp->Prop),Inv X js Y H s->t Y H Q->wpAny (model X.prog X.w) X.A (isTrue e X.env whole) (TP X js Y Q) X.xe s
def PW.pt{X:Cx}{e:Expr}{t:TT}(h:PW X e t):PT X e t:=h _
def PA(X:Cx)(es:List Expr)(t:TA):Prop :=
 ∀(pos:Pos) (js:List (Addr×Obj)) (s:Shared) (Y:St) (H:Hp) (Q:List V->Hp->Prop),Inv X js Y H s->t Y H Q->wpAny (model X.prog X.w) X.A (spliced (backTo pos (starEach es X.env))) (AP X js Y Q) X.xe s
def PS(X:Cx)(st:Stmt)(t:TS):Prop :=
 ∀(js:List (Addr×Obj)) (s:Shared) (Y:St) (H:Hp) (D:Ends),Inv X js Y H s->t D Y H->wpAny (model X.prog X.w) X.A (exec st X.env) (SP X js D) X.xe s
def PSs(X:Cx)(st:List Stmt)(t:TS):Prop :=
 ∀(js:List (Addr×Obj)) (s:Shared) (Y:St) (H:Hp) (D:Ends),Inv X js Y H s->t D Y H->wpAny (model X.prog X.w) X.A (execs st X.env) (SP X js D) X.xe s
def thn{α:Type}{t:Sem α}{Q Q':α->Shared->Prop}{M:Model}{A:Around}{E:Value->Shared->Prop}{s:Shared}(h:wpAny M A t Q E s)(hQ:∀a s,Q a s->Q' a s):wpAny M A t Q' E s:=wpAny_mono h hQ fun _ _ x=>x
end L2
namespace L2
open PySem PySem.Spec PyProof.Rows
section
variable{X:Cx}
def vW(i:Nat):TE:=fun Y H Q=>∃v,Y[i]?=some (some v)/\Q v H
def tC(v:V):TE:=fun _ H Q=>Q v H
def dy{i:Nat}{x:Str}{pos:Pos}(hN:X.N[i]?=some x)(hv:Vis X.env.scope x)(hd:(x ==("__debug__" : Str))=false:=by decide)(hcd:(x ==("__classdict__" : Str))=false:=by decide):PE X (.Name x pos) (vW i):=by
 intro js s Y H Q I h
 obtain⟨v,e,h⟩:=h
 obtain⟨m,hn,hl⟩:=I.loc
 obtain⟨u,r,l⟩:=hl i x v hN e hv
 have fin:EP X js Y Q u s:=⟨v,H,I,r,h⟩
 rcases l with⟨hk,hm⟩ |⟨hk,c,hc,hcell⟩
 ·exact wpAny_Name (wpAny_loadName_local I.ok.kind hk hn hm fin) hd
 ·rcases hk with hk | hk
  ·exact wpAny_Name (wpAny_loadName_cell I.ok.kind hk hc hcell fin) hd
  ·exact wpAny_Name (wpAny_loadName_free I.ok.kind hk hc hcell fin hcd) hd
def oK{i j pos}:PE X (.Constant (.int i) j pos) (tC (.int i)):=fun _ _ _ H _ I h=>wpAny_Constant_int ⟨.int i,H,I.tok _,⟨_,rfl⟩,h⟩
def FN{b j pos}:PE X (.Constant (.bool b) j pos) (tC (.bl b)):=fun _ _ _ H _ I h=>Constant_bool ⟨.bl b,H,I,rfl,h⟩
def wM{j pos}:PE X (.Constant .none j pos) (tC .non):=fun _ _ _ H _ I h=>Constant_none ⟨.non,H,I,rfl,h⟩
def gJ{x j pos}:PE X (.Constant (.str x) j pos) (tC (.str x)):=fun _ _ _ H _ I h=>Calls.Constant_str ⟨.str x,H,I.tok _,⟨_,rfl⟩,h⟩
def Gl(X:Cx)(x:Str):Prop:=X.env.kindOf x=some .globalImplicit
def jZ{E:Value->Shared->Prop}{js:List (Addr×Obj)}{s:Shared}{Y:St}{H:Hp}{x:Str}{u:Value}{pos:Pos}{Q:Value->Shared->Prop}(I:Inv X js Y H s)(hg:Gl X x)(hm:X.mg x=some u)(h:Q u s)
  (hd:(x ==("__debug__" : Str))=false:=by decide):wpAny (model X.prog X.w) X.A (eval (.Name x pos) X.env) Q E s :=
 Calls.Name_function_global I.ok.kind hg (Calls.loadGlobal_global (by rw[I.ok.glob];exact I.mod.glob.keeps I.bk) hm h) hd
def gS{E:Value->Shared->Prop}{js:List (Addr×Obj)}{s:Shared}{Y:St}{H:Hp}{x:Str}{u:Value}{pos:Pos}{Q:Value->Shared->Prop}(I:Inv X js Y H s)(hg:Gl X x)(hm:X.mg x=none)(hv:bootBuiltins x=some u)(h:Q u s)
  (hn:x≠"__name__" := by decide) (hd:(x ==("__debug__" : Str))=false:=by decide):wpAny (model X.prog X.w) X.A (eval (.Name x pos) X.env) Q E s:=by
 obtain⟨mb,h1,h2⟩:=I.mod.blt
 exact Calls.Name_function_global I.ok.kind hg (Calls.loadGlobal_builtin (by rw[I.ok.glob];exact I.mod.glob.keeps I.bk) hm (by rw[I.ok.blt];exact h1.keeps I.bk) ((h2 x hn).trans hv) h) hd
def AE{x:Str}{v:V}{u:Value}{pos:Pos}(hg:Gl X x)(hm:X.mg x=some u)(r:bu v u)(hd:(x ==("__debug__" : Str))=false:=by decide):PE X (.Name x pos) (tC v) :=
 fun _ _ _ H _ I h=>jZ I hg hm ⟨v,H,I,r,h⟩ hd
def AH{x:Str}{v:V}{u:Value}{pos:Pos}(hg:Gl X x)(hm:X.mg x=none)(hv:bootBuiltins x=some u)(r:bu v u)(hn:x≠"__name__" := by decide)(hd:(x ==("__debug__" : Str))=false:=by decide):PE X (.Name x pos) (tC v) :=
 fun _ _ _ H _ I h=>gS I hg hm hv ⟨v,H,I,r,h⟩ hn hd
variable{a b:Expr}{ta tb:TE}{pos:Pos}
variable{tA tB':TT}{bF:List Expr}
def HW(t u:TT):TT:=fun Y H Q=>t Y H fun c H1=>if c=true then u Y H1 Q else Q false H1
def tOr(t u:TT):TT:=fun Y H Q=>t Y H fun c H1=>if c=true then Q true H1 else u Y H1 Q
def HQ(t:TT):TT:=fun Y H Q=>t Y H fun c H1=>Q (!c) H1
def Ar(ha:PT X a tA):PW X (.BoolOp .And [a] pos) tA:=by
 intro wh js s Y H Q I h
 refine isTrue_and (thn (ha js s Y H Q I h) fun c s1 e=>?_)
 cases c with
 | true=>exact isTrue_and_nil e
 | false=>exact e
def Cz(ha:PT X a tA):PW X (.BoolOp .Or [a] pos) tA:=by
 intro wh js s Y H Q I h
 refine isTrue_or (thn (ha js s Y H Q I h) fun c s1 e=>?_)
 cases c with
 | false=>exact isTrue_or_nil e
 | true=>exact e
def CA(ha:PT X a tA)(hb:PW X (.BoolOp .And (b::bF) pos) tB'):PW X (.BoolOp .And (a::b::bF) pos) (HW tA tB'):=by
 intro wh js s Y H Q I h
 refine isTrue_and (thn (ha js s Y H _ I h) fun c s1 ⟨H1,I1,q1⟩=>?_)
 cases c with
 | true=>exact hb wh js s1 Y H1 Q I1 q1
 | false=>exact⟨H1,I1,q1⟩
def FI(ha:PT X a tA)(hb:PW X (.BoolOp .Or (b::bF) pos) tB'):PW X (.BoolOp .Or (a::b::bF) pos) (tOr tA tB'):=by
 intro wh js s Y H Q I h
 refine isTrue_or (thn (ha js s Y H _ I h) fun c s1 ⟨H1,I1,q1⟩=>?_)
 cases c with
 | true=>exact⟨H1,I1,q1⟩
 | false=>exact hb wh js s1 Y H1 Q I1 q1
def CB(ha:PT X a tA):PT X (.UnaryOp .Not a pos) (HQ tA):=by
 intro js s Y H Q I h
 exact isTrue_not (ha js s Y H (fun c H1=>Q (!c) H1) I h)
def FC(ta tb:TE):TE:=fun Y H Q=>ta Y H fun x H1=>∃c,x=.bl c/\if c=true then tb Y H1 Q else Q (.bl false) H1
def Fv(ta:TE):TE:=fun Y H Q=>ta Y H fun x H1=>∃c,x=.bl c/\Q (.bl (!c)) H1
def CI{op}{t:TE}(h:PE X a t):PE X (.BoolOp op [a] pos) t:=fun js s Y H Q I hw=>BoolOp_one (h js s Y H Q I hw)
def CO(ha:PE X a ta)(hb:PE X (.BoolOp .And (b::bF) pos) tb):PE X (.BoolOp .And (a::b::bF) pos) (FC ta tb):=by
 intro js s Y H Q I h
 refine BoolOp_and (thn (ha js s Y H _ I h) fun v s1 ⟨x,H1,I1,r1,q1⟩=>?_)
 obtain⟨c,rfl,q1⟩:=q1
 cases r1
 refine wpAny_truthy_bool ?_
 cases c with
 | true=>exact hb js s1 Y H1 Q I1 q1
 | false=>exact⟨.bl false,H1,I1,rfl,q1⟩
def CJ(ha:PE X a ta):PE X (.UnaryOp .Not a pos) (Fv ta):=by
 intro js s Y H Q I h
 refine UnaryOp_ (thn (ha js s Y H _ I h) fun v s1 ⟨x,H1,I1,r1,q1⟩=>?_)
 obtain⟨c,rfl,q1⟩:=q1
 cases r1
 exact not_of (wpAny_truthy_bool ⟨.bl (!c),H1,I1,rfl,q1⟩)
def tIf(t:TT)(ta tb:TE):TE:=fun Y H Q=>t Y H fun c H1=>if c=true then ta Y H1 Q else tb Y H1 Q
def wO{c:Expr}(hc:PT X c tA)(ha:PE X a ta)(hb:PE X b tb):PE X (.IfExp c a b pos) (tIf tA ta tb):=by
 intro js s Y H Q I h
 refine wpAny_IfExp (thn (hc js s Y H _ I h) fun d s1 ⟨H1,I1,q1⟩=>?_)
 cases d with
 | true=>exact ha js s1 Y H1 Q I1 q1
 | false=>exact hb js s1 Y H1 Q I1 q1
end
end L2
namespace L2
open PySem PySem.Spec PyProof.Rows
def SqL(K:PySem.W.Frag)(H:Hp)(a:Addr)(xs:List V):Prop :=
 Rd H a (.lst xs)\/
  ∃(o:Obj) (its:Array Value) (n:Nat),K.lookup a=some o/\o.cls=.type "list" /\ o.dict=none/\o.data=.seq its n/\its.size<=sizeLine/\aP xs its.toList
def SqT(K:PySem.W.Frag)(H:Hp)(a:Addr)(xs:List V):Prop :=
 Rd H a (.tup xs)\/
  ∃(o:Obj) (its:Array Value) (n:Nat),K.lookup a=some o/\o.cls=.type "tuple" /\ o.data=.seq its n/\its.size<=sizeLine/\aP xs its.toList
def Hc:Value->Option V
 | .none=>some .non
 | .bool b=>some (.bl b)
 | .int i _=>some (.int i)
 | .str x _=>some (.str x)
 | .bytes b _=>some (.byt b)
 | .float b _=>some (.flt b)
 | .ref a=>some (.ref a)
 | .type n=>some (.ty n)
 | _=>none
def bu.abs{x:V}{u:Value}(r:bu x u):Hc u=some x:=by
 cases x with
 | non | bl _=>cases r;rfl
 | int _ | str _ | byt _ | flt _=>obtain⟨t,rfl⟩:=r;rfl
 | ref _ | ty _=>cases r;rfl
def bu.inj{x y:V}{u:Value}(r:bu x u)(q:bu y u):x=y:=Option.some.inj (r.abs.symm.trans q.abs)
def aP.inj:∀{xs ys:List V}{us:List Value},aP xs us->aP ys us->xs=ys
 | _,_,_,.nil,.nil=>rfl
 | _,_,_,.cons r t,.cons r' t'=>by rw[r.inj r',aP.inj t t']
section
variable{X:Cx}{js:List (Addr×Obj)}{Y:St}{H:Hp}{s:Shared}{a:Addr}{xs ys:List V}
def SqL.of{K:PySem.W.Frag}(h:H a=some (.lst xs)):SqL K H a xs:=.inl (.inl h)
def SqT.of{K:PySem.W.Frag}(h:H a=some (.tup xs)):SqT K H a xs:=.inl (.inl h)
def Inv.list(I:Inv X js Y H s)(h:SqL X.K H a xs):∃its:List Value,aP xs its/\PlainL s.heap a its.toArray/\xs.length<=sizeLine:=by
 rcases h with h |⟨o,its,n,hk,hc,hd,hs,hz,r⟩
 ·obtain⟨z,its,n,r,e⟩:=h.ok I.hok
  exact⟨its,r,⟨_,n,e,rfl,rfl,rfl⟩,z⟩
 ·refine⟨its.toList,r,⟨o,n,I.kIn a o hk,hc,hd,by simpa using hs⟩,?_⟩
  have e:=r.length
  simp only[Array.length_toList]at e
  omega
def Inv.tuple(I:Inv X js Y H s)(h:SqT X.K H a xs):∃its:List Value,aP xs its/\IsTup s.heap a its.toArray/\xs.length<=sizeLine:=by
 rcases h with h |⟨o,its,n,hk,hc,hs,hz,r⟩
 ·obtain⟨z,its,r,p⟩:=h.ok I.hok
  exact⟨its,r,p,z⟩
 ·refine⟨its.toList,r,⟨o,I.kIn a o hk,hc,n,by simpa using hs⟩,?_⟩
  have e:=r.length
  simp only[Array.length_toList]at e
  omega
def Inv.list_inj(I:Inv X js Y H s)(h:SqL X.K H a xs)(h':SqL X.K H a ys):xs=ys:=by
 obtain⟨its,r,⟨o,n,e,_,_,d⟩,_⟩:=I.list h
 obtain⟨its',r',⟨o',n',e',_,_,d'⟩,_⟩:=I.list h'
 rw[e]at e';cases e'
 rw[d]at d'
 injection d' with d1 _
 have:its=its':=by simpa using congrArg Array.toList d1
 subst this
 exact r.inj r'
def Inv.tuple_inj(I:Inv X js Y H s)(h:SqT X.K H a xs)(h':SqT X.K H a ys):xs=ys:=by
 obtain⟨its,r,⟨o,e,_,n,d⟩,_⟩:=I.tuple h
 obtain⟨its',r',⟨o',e',_,n',d'⟩,_⟩:=I.tuple h'
 rw[e]at e';cases e'
 rw[d]at d'
 injection d' with d1 _
 have:its=its':=by simpa using congrArg Array.toList d1
 subst this
 exact r.inj r'
end
section
variable{X:Cx}{st:Stmt}{bF:List Stmt}{t u:TS}{e:Expr}{te:TE}{pos:Pos}
def Fw:TS:=fun D Y H=>D.nx Y H
def vX(t u:TS):TS:=fun D Y H=>t { D with nx:=u D } Y H
def At:PSs X [] Fw:=fun _ _ Y H _ I h=>wpAny_execs_nil ⟨Y,H,I,h⟩
def ir(h1:PS X st t)(h2:PSs X bF u):PSs X (st::bF) (vX t u):=by
 intro js s Y H D I h
 refine wpAny_execs_cons (thn (h1 js s Y H { D with nx:=u D } I h) fun f s1 q=>?_)
 cases f with
 | next =>
  obtain⟨σ',H',I',q⟩:=q
  exact h2 js s1 σ' H' D I' q
 | ret v | brk | cont=>exact q
def oG(h1:PS X st t):PSs X [st] t:=by
 intro js s Y H D I h
 refine wpAny_execs_cons (thn (h1 js s Y H D I h) fun f s1 q=>?_)
 cases f with
 | next=>exact wpAny_execs_nil q
 | ret v | brk | cont=>exact q
def Inv.quiet{js:List (Addr×Obj)}{Y:St}{H:Hp}{s:Shared}(I:Inv X js Y H s):interactive X.env=false:=by simp[interactive,I.ok.kind]
def Fy(te:TE):TS:=fun D Y H=>te Y H fun _ H1=>D.nx Y H1
def iW(he:PE X e te)(hs:swapsWith e none pos.line X.env=pure false:=by rfl):PS X (.Expr e pos) (Fy te):=by
 intro js s Y H D I h
 exact wpAny_Expr_any (thn (he js s Y H _ I h) fun v s1 ⟨x,H1,I1,r1,q1⟩=>⟨Y,H1,I1,q1⟩) I.quiet hs
def HP(te:TE):TS:=fun D Y H=>te Y H D.rt
def rP(he:PE X e te):PS X (.Return (some e) pos) (HP te):=by
 intro js s Y H D I h
 exact wpAny_Return_some (thn (he js s Y H _ I h) fun v s1 ⟨x,H1,I1,r1,q1⟩=>⟨x,Y,H1,I1,r1,q1⟩)
def HS(c:TT)(t u:TS):TS:=fun D Y H=>c Y H fun b H1=>if b=true then t D Y H1 else u D Y H1
def FJ{c:Expr}{a b:List Stmt}{tc:TT}(hc:PT X c tc)(ha:PSs X a t)(hb:PSs X b u):PS X (.If c a b pos) (HS tc t u):=by
 intro js s Y H D I h
 refine wpAny_If (thn (hc js s Y H _ I h) fun d s1 ⟨H1,I1,q1⟩=>?_)
 cases d with
 | true=>exact ha js s1 Y H1 D I1 q1
 | false=>exact hb js s1 Y H1 D I1 q1
end
abbrev TG:=V->St->Hp->(St->Hp->Prop)->Prop
abbrev TGs:=List V->St->Hp->(St->Hp->Prop)->Prop
def PG(X:Cx)(target:Expr)(t:TG):Prop :=
 ∀(js:List (Addr×Obj)) (s:Shared) (Y:St) (H:Hp) (v:V) (u:Value) (Q:St->Hp->Prop),Inv X js Y H s->bu v u->t v Y H Q ->
  wpAny (model X.prog X.w) X.A (assign target X.env u) (fun _ s'=>∃σ' H',Inv X js σ' H' s'/\Q σ' H') X.xe s
def PGs(X:Cx)(ts:List Expr)(t:TGs):Prop :=
 ∀(js:List (Addr×Obj)) (s:Shared) (Y:St) (H:Hp) (vs:List V) (us:List Value) (Q:St->Hp->Prop),Inv X js Y H s->aP vs us->t vs Y H Q ->
  wpAny (model X.prog X.w) X.A (assignInOrder ((assignEach ts X.env).map (·.2)) us) (fun _ s'=>∃σ' H',Inv X js σ' H' s'/\Q σ' H') X.xe s
abbrev EL:=V->V->V->Hp->(Hp->Prop)->Prop
def He(X:Cx)(t:EL):Prop :=
 ∀(js:List (Addr×Obj)) (s:Shared) (Y:St) (H:Hp) (o i v:V) (ov iv u:Value) (Q:Hp->Prop),Inv X js Y H s->bu o ov->bu i iv->bu v u->t o i v H Q ->
  wpAny (model X.prog X.w) X.A (setItem ov iv u) (fun _ s'=>∃H',Inv X js Y H' s'/\Q H') X.xe s
section
variable{X:Cx}{pos:Pos}
def BW(i:Nat):TG:=fun v Y H Q=>Q (Y.set i (some v)) H
def oJ{i:Nat}{x:Str}(hN:X.N.Nodup)(hi:X.N[i]?=some x)(hx:Loc X.env.scope x)(hf:X.fn x=true\/X.env.scope.names.lookup x=some .local:=by first | exact .inl rfl | exact .inr rfl | assumption):PG X (.Name x pos) (BW i):=by
 intro js s Y H v u Q I r h
 exact wpAny_assign_Name (pJ I hN hi hx r (fun s' I'=>⟨_,H,I',h⟩) hf)
def Ir:TGs:=fun vs Y H Q=>vs=[]/\Q Y H
def GY(t:TG)(u:TGs):TGs:=fun vs Y H Q=>∃v r,vs=v::r/\t v Y H fun σ' H'=>u r σ' H' Q
def AC:PGs X [] Ir:=by
 intro js s Y H vs us Q I r h
 obtain⟨e,h⟩:=h
 subst e
 cases r
 exact assignInOrder_nil ⟨Y,H,I,h⟩
def wJ{e:Expr}{es:List Expr}{t:TG}{u:TGs}(h1:PG X e t)(h2:PGs X es u)
  (hs:(assignEach (e::es) X.env).map (·.2)=assign e X.env::(assignEach es X.env).map (·.2):=by rfl):PGs X (e::es) (GY t u):=by
 intro js s Y H vs us Q I r h
 obtain⟨v,vr,e1,h⟩:=h
 subst e1
 cases r with
 | cons r rr =>
  rw[hs]
  refine assignInOrder_cons (thn (h1 js s Y H _ _ _ I r h) fun _ s1 ⟨σ1,H1,I1,q1⟩=>?_)
  exact h2 js s1 σ1 H1 _ _ Q I1 rr q1
def Ip(K:PySem.W.Frag)(n:Nat)(t:TGs):TG:=fun v Y H Q=>∃a xs,v=.ref a/\SqT K H a xs/\xs.length=n/\t xs Y H Q
def CG{es:List Expr}{k:Nat}{t:TGs}{n:Nat}(hc:X.calm=true)(h:PGs X es t)
  (hn:(assignEach es X.env).length=n:=by rfl) (hst:(assignEach es X.env).findIdx? (·.1)=none:=by rfl):PG X (.Tuple es k pos) (Ip X.K n t):=by
 intro js s Y H v u Q I r hw
 obtain⟨a,xs,e1,hq,hl,hw⟩:=hw
 subst e1
 cases r
 obtain⟨its,rv,ht,hz⟩:=I.tuple hq
 refine assign_Tuple_tuple (I.ok.hd hc) ht (by simp[hn,<- hl,rv.length]) hst fun h' hx=>?_
 have I1:Inv X js Y H { s with heap:=h' }:=I.kept (t':=s.toks) fun b o e=>hx b o (Nat.ne_of_lt (Heap.lt_size e)) e
 exact h js _ Y H xs _ Q I1 (by simpa using rv) hw
def Iq(to ti:TE)(t:EL):TG:=fun v Y H Q=>to Y H fun o H1=>ti Y H1 fun i H2=>t o i v H2 fun H3=>Q Y H3
def CH{o i:Expr}{to ti:TE}{t:EL}(ho:PE X o to)(hi:PE X i ti)(hs:He X t)
  (ha:∀ v,assign (.Subscript o i pos) X.env v=(do
   let ov <- holding [v] (eval o X.env)
   let iv <- holding [v,ov] (eval i X.env)
   standAt pos
   holding [v,ov,iv] (setItem ov iv v)
   release [v,ov,iv] []):=by intro _;rfl):PG X (.Subscript o i pos) (Iq to ti t):=by
 intro js s Y H v u Q I r h
 rw[ha]
 refine wpAny_bind (wpAny_holding (thn (ho js s Y H _ I h) fun ov s1 ⟨x,H1,I1,r1,q1⟩=>?_))
 refine wpAny_bind (wpAny_holding (thn (hi js s1 Y H1 _ I1 q1) fun iv s2 ⟨y,H2,I2,r2,q2⟩=>?_))
 refine wpAny_bind (wpAny_standAt (wpAny_bind (wpAny_holding (thn (hs js s2 Y H2 x y v ov iv u _ I2 r1 r2 r q2) fun _ s3 ⟨H3,I3,q3⟩=>?_))))
 exact wpAny_release ⟨Y,H3,I3,q3⟩
def FB(te:TE)(g:TG):TS:=fun D Y H=>te Y H fun x H1=>g x Y H1 D.nx
def CD{tg e:Expr}{te:TE}{g:TG}(he:PE X e te)(hg:PG X tg g)(hs:swapsWithSole [tg] e pos.line X.env=pure false:=by rfl)(hw:swappedStores [tg] e X.env=pure none:=by rfl)
  (h1:(assignEach [tg] X.env).map (·.2)=[assign tg X.env]:=by rfl):PS X (.Assign [tg] e pos) (FB te g):=by
 intro js s Y H D I h
 refine wpAny_Assign_stores (thn (he js s Y H _ I h) fun v s1 ⟨x,H1,I1,r1,q1⟩=>?_) hs hw
 rw[h1]
 exact thn (hg js s1 Y H1 x v _ I1 r1 q1) fun _ s2 q=>q
def rO{i:Nat}{x:Str}{e:Expr}{te:TE}{pos':Pos}(hN:X.N.Nodup)(hi:X.N[i]?=some x)(hx:Loc X.env.scope x)(he:PE X e te)(hs:swapsWith e (some (.Name x pos')) pos.line X.env=pure false:=by rfl)(hf:X.fn x=true\/X.env.scope.names.lookup x=some .local:=by first | exact .inl rfl | exact .inr rfl | assumption) :
  PS X (.Assign [.Name x pos'] e pos) (FB te (BW i)):=by
 intro js s Y H D I h
 refine wpAny_Assign_Name (thn (he js s Y H _ I h) fun v s1 ⟨y,H1,I1,r1,q1⟩=>?_) hs
 exact pJ I1 hN hi hx r1 (fun s2 I2=>⟨_,H1,I2,q1⟩) hf
def B_(c:TT)(tb:TS):TS:=fun D Y H=>∃W:Nat->St->Hp->Prop,(∃m,W m Y H)/\∀m Y H,W m Y H ->
 c Y H fun b H1=>if b=true then ∃N:St->Hp->Prop,(∀σ' H',N σ' H'->∃m',m' < m/\W m' σ' H')/\tb { D with nx:=N,ct:=N,bk:=D.nx } Y H1 else D.nx Y H1
def wA{c:Expr}{body:List Stmt}{tc:TT}{tb:TS}(hp:PassesOwn (model X.prog X.w) X.A X.env X.xe)(hc:PT X c tc)(hb:PSs X body tb):PS X (.While c body [] pos) (B_ tc tb):=by
 intro js s Y H D I h
 obtain⟨W,⟨m0,w0⟩,turn⟩:=h
 refine wpAny_While (codeAny_whileLoop (fun n s'=>∃σ' H',Inv X js σ' H' s'/\W n σ' H') ?_ m0 ⟨Y,H,I,w0⟩)
 rintro n s1 ⟨σ1,H1,I1,w1⟩
 refine wpAny_passesOwn hp (thn (hc js s1 σ1 H1 _ I1 (turn n σ1 H1 w1)) fun b s2 ⟨H2,I2,q2⟩=>?_)
 cases b with
 | true =>
  obtain⟨N,hN,q2⟩:=q2
  rw[if_pos rfl]
  refine wpAny_passesOwn hp (thn (hb js s2 σ1 H2 _ I2 q2) fun f s3 q3=>?_)
  cases f with
  | next =>
   obtain⟨σ3,H3,I3,n3⟩:=q3
   obtain⟨m',hm,w3⟩:=hN σ3 H3 n3
   exact⟨m',hm,σ3,H3,I3,w3⟩
  | cont =>
   obtain⟨σ3,H3,I3,n3⟩:=q3
   obtain⟨m',hm,w3⟩:=hN σ3 H3 n3
   exact⟨m',hm,σ3,H3,I3,w3⟩
  | brk | ret v=>exact q3
 | false =>
  rw[if_neg Bool.false_ne_true]
  exact wpAny_execs_nil ⟨σ1,H2,I2,q2⟩
end
structure It where
 go:Nat->Hp->Prop
 yld:Nat->Hp->V->Hp->Prop
 stop:Nat->Hp->Prop
def mZ(X:Cx)(js:List (Addr×Obj))(H:Hp)(b:Addr):Prop :=
 H b=none/\b≠X.env.locals/\b∉X.fs/\(b∈X.ex\/X.s₀.heap.objs.size<=b)/\(∀x c,X.env.cells.lookup x=some c->c≠b)/\∀p∈X.pn++js,p.1≠b
def Inv.fpOk{X:Cx}{js:List (Addr×Obj)}{Y:St}{H H':Hp}{s:Shared}{b:Addr}(I:Inv X js Y H s)(hb:s.heap.objs.size<=b)(hn:H' b=none):mZ X js H' b:=by
 refine⟨hn,Nat.ne_of_gt (Nat.lt_of_lt_of_le I.lt hb),I.nofs hb,.inr (Nat.le_trans I.sz hb),fun x c e z=>?_,fun p hp z=>?_⟩
 ·obtain⟨v,q⟩:=I.cell x c e
  exact absurd (Nat.lt_of_lt_of_le q.lt (by rw[z];exact hb)) (Nat.lt_irrefl _)
 ·exact absurd (Nat.lt_of_lt_of_le (Heap.lt_size (I.pin p hp).1) (by rw[z];exact hb)) (Nat.lt_irrefl _)
structure vI(P:Program)(w:World)(K:PySem.W.Frag)(tg:Expr)(J:It)(fp:List Addr)(it:Addr)(tn:Nat->Heap->Prop):Prop where
 mem:it∈fp
 obj:∀i h,tn i h->∀b∈fp,∃o,h.get? b=some o/\∀v,o.data≠.cell v
 keep:∀i h h',tn i h->(∀b∈fp,∀o,h.get? b=some o->h'.get? b=some o)->tn i h'
 item:∀(X:Cx),X.prog=P->X.w=w->X.K=K->X.calm=true->∀(i:Nat) (js:List (Addr×Obj)) (s:Shared) (Y:St) (H:Hp) (E:Value->Shared->Prop),Inv X js Y H s->(∀b∈fp,mZ X js H b)->tn i s.heap->J.go i H ->
  wpAny (model P w) X.A (pyNext (.ref it)) (fun r s1=>∃ u,r=some u /\
   wpAny (model P w) X.A (letOwnedTupleGo tg (.ref it) u) (fun _ s2=>∃x H',Inv X js Y H' s2/\bu x u/\J.yld i H x H'/\tn (i+1) s2.heap/\∀b∈fp,H' b=none) E s1) E s
 done:∀(X:Cx),X.prog=P->X.w=w->X.K=K->X.calm=true->∀(i:Nat) (js:List (Addr×Obj)) (s:Shared) (Y:St) (H:Hp) (E:Value->Shared->Prop),Inv X js Y H s->(∀b∈fp,mZ X js H b)->tn i s.heap->J.stop i H ->
  wpAny (model P w) X.A (pyNext (.ref it)) (fun r s1=>r=none/\Inv X js Y H s1) E s
 self:∀(A:Around) (i:Nat) (s:Shared) (Q:Value->Shared->Prop) (E:Value->Shared->Prop),tn i s.heap->Q (.ref it) s->wpAny (model P w) A (pyIter (.ref it)) Q E s
abbrev TI:=St->Hp->(It->Hp->Prop)->Prop
def PIE(X:Cx)(js:List (Addr×Obj))(Y:St)(tg:Expr)(R:It->Hp->Prop)(itv:Value)(s2:Shared):Prop :=
 ∃(it:Addr) (fp:List Addr) (tn:Nat->Heap->Prop) (J:It) (H':Hp),itv=.ref it/\Inv X js Y H' s2/\vI X.prog X.w X.K tg J fp it tn/\tn 0 s2.heap/\(∀b∈fp,mZ X js H' b)/\R J H'
def PI(X:Cx)(tg iter:Expr)(wi:TI):Prop :=
 ∀(js:List (Addr×Obj)) (s:Shared) (Y:St) (H:Hp) (R:It->Hp->Prop),Inv X js Y H s->wi Y H R ->
  wpAny (model X.prog X.w) X.A (eval iter X.env) (fun v s1=>wpAny (model X.prog X.w) X.A (pyIter v) (PIE X js Y tg R) X.xe s1) X.xe s
def xX{M:Model}{A:Around}{E:Value->Shared->Prop}{s:Shared}{tg:Expr}{it:Addr}{u:Value}{o:Obj}{n:String}{vs:Array Value}{Q:Unit->Shared->Prop}(ho:s.heap.get? it=some o)(hc:o.cls=.type n)(hd:o.data=.fields vs)
    (hn:["enumerate", "zip", "dict_itemiterator", "dict_reverseitemiterator", "odict_iterator", "itertools.zip_longest", "itertools.pairwise"].contains n=false) (hQ:Q () s):wpAny M A (letOwnedTupleGo tg (.ref it) u) Q E s:=by
  unfold letOwnedTupleGo
  cases tg<;>first
    | exact wpAny_pure hQ
    | (cases u <;> first
        | exact wpAny_pure hQ
        | (refine wpAny_bind (wpAny_load ho ?_)
           rw[hc,hd]
           show wpAny M A (if(["enumerate", "zip", "dict_itemiterator", "dict_reverseitemiterator", "odict_iterator", "itertools.zip_longest", "itertools.pairwise"].contains n&&vs[0]?==some (rawInt _))=true then _ else _) Q E s
           rw[if_neg (by intro h;rw[hn,Bool.false_and]at h;cases h)]
           exact wpAny_pure hQ))
def Itl(K:PySem.W.Frag)(a:Addr):It :=
 ⟨fun i H=>∃xs x,SqL K H a xs/\xs[i]?=some x,fun i H x H'=>H'=H/\∀xs,SqL K H a xs->xs[i]?=some x,fun i H=>∃xs,SqL K H a xs/\xs.length<=i⟩
def Itt(K:PySem.W.Frag)(a:Addr):It :=
 ⟨fun i H=>∃xs x,SqT K H a xs/\xs[i]?=some x,fun i H x H'=>H'=H/\∀xs,SqT K H a xs->xs[i]?=some x,fun i H=>∃xs,SqT K H a xs/\xs.length<=i⟩
def Itr(lo:Int)(n:Nat):It:=⟨fun i _=>i < n,fun i H x H'=>H'=H/\x=.int (lo+i),fun i _=>n<=i⟩
def um{P:Program}{w:World}{K:PySem.W.Frag}{tg:Expr}(a it:Addr):vI P w K tg (Itl K a) [it] it (fun i h=>h.IsListIter it a i) where
 mem:=by simp
 obj:=fun i h st b hb=>by
  have e:b=it:=by simpa using hb
  subst e
  obtain⟨o,e,c,d⟩:=st
  exact⟨o,e,fun v z=>by rw[d]at z;cases z⟩
 keep:=fun i h h' st k=>st.at fun o e=>k it (by simp) o e
 item:=by
  intro X hP hw hK hc i js s Y H E I hf st hg
  subst hP hw hK
  obtain⟨xs,x,hq,hx⟩:=hg
  obtain⟨its,rv,p,hz⟩:=I.list hq
  obtain⟨u,hu,ru⟩:=rv.get hx
  obtain⟨f0,f1,f2,f3,f4,f5⟩:=hf it (by simp)
  refine wpAny_pyNext_list_item st p.isList (x:=u) (by simpa using hu) fun h' st' sb=>?_
  have I1:Inv X js Y H { s with heap:=h' }:=I.turned (t':=s.toks) (fun b o hb e=>(sb.2 b hb).trans e) f0 f1 f3 f4 f5
  obtain⟨o,e,c,d⟩:=id st'
  exact⟨u,rfl,xX (s:={ s with heap:=h' }) e c d (by decide) ⟨x,H,I1,ru,⟨rfl,fun ys hy=>by rw[I.list_inj hy hq];exact hx⟩,st',fun b hb=>(hf b hb).1⟩⟩
 done:=by
  intro X hP hw hK hc i js s Y H E I hf st hg
  subst hP hw hK
  obtain⟨xs,hq,hx⟩:=hg
  obtain⟨its,rv,p,hz⟩:=I.list hq
  obtain⟨f0,f1,f2,f3,f4,f5⟩:=hf it (by simp)
  have hl:=rv.length
  exact wpAny_pyNext_list_end (I.ok.hd hc) st p.isList (by simp;omega) fun h' eb=>⟨rfl,I.turned (t':=s.toks) (fun b o hb e=>eb b o hb e) f0 f1 f3 f4 f5⟩
 self:=fun _ _ _ _ _ st h=>wpAny_pyIter_listiter st h
def qZ{P:Program}{w:World}{K:PySem.W.Frag}{tg:Expr}(a it:Addr):vI P w K tg (Itt K a) [it] it (fun i h=>h.IsTupleIter it a i) where
 mem:=by simp
 obj:=fun i h st b hb=>by
  have e:b=it:=by simpa using hb
  subst e
  obtain⟨o,e,c,d⟩:=st
  exact⟨o,e,fun v z=>by rw[d]at z;cases z⟩
 keep:=fun i h h' st k=>st.at fun o e=>k it (by simp) o e
 item:=by
  intro X hP hw hK hc i js s Y H E I hf st hg
  subst hP hw hK
  obtain⟨xs,x,hq,hx⟩:=hg
  obtain⟨its,rv,p,hz⟩:=I.tuple hq
  obtain⟨u,hu,ru⟩:=rv.get hx
  obtain⟨f0,f1,f2,f3,f4,f5⟩:=hf it (by simp)
  refine wpAny_pyNext_tuple_item st (show s.heap.IsTuple a its.toArray from p) (x:=u) (by simpa using hu) fun h' st' sb=>?_
  have I1:Inv X js Y H { s with heap:=h' }:=I.turned (t':=s.toks) (fun b o hb e=>(sb.2 b hb).trans e) f0 f1 f3 f4 f5
  obtain⟨o,e,c,d⟩:=id st'
  exact⟨u,rfl,xX (s:={ s with heap:=h' }) e c d (by decide) ⟨x,H,I1,ru,⟨rfl,fun ys hy=>by rw[I.tuple_inj hy hq];exact hx⟩,st',fun b hb=>(hf b hb).1⟩⟩
 done:=by
  intro X hP hw hK hc i js s Y H E I hf st hg
  subst hP hw hK
  obtain⟨xs,hq,hx⟩:=hg
  obtain⟨its,rv,p,hz⟩:=I.tuple hq
  obtain⟨f0,f1,f2,f3,f4,f5⟩:=hf it (by simp)
  have hl:=rv.length
  exact wpAny_pyNext_tuple_end (I.ok.hd hc) st (show s.heap.IsTuple a its.toArray from p) (by simp;omega) fun h' eb=>⟨rfl,I.turned (t':=s.toks) (fun b o hb e=>eb b o hb e) f0 f1 f3 f4 f5⟩
 self:=fun _ _ _ _ _ st h=>wpAny_pyIter_tupleiter st h
def q8{P:Program}{w:World}{K:PySem.W.Frag}{tg:Expr}(it:Addr)(lo:Int)(n:Nat):vI P w K tg (Itr lo n) [it] it (fun i h=>IsRangeIter h it (lo+(i:Nat) * 1) ((n:Int) - (i:Nat)) 1) where
 mem:=by simp
 obj:=fun i h st b hb=>by
  have e:b=it:=by simpa using hb
  subst e
  exact ⟨_,st,fun v z=>by
   have z':Data.fields _=Data.cell v:=z
   cases z'⟩
 keep:=fun i h h' st k=>k it (by simp) _ st
 item:=by
  intro X hP hw hK hc i js s Y H E I hf st hg
  subst hP hw hK
  obtain⟨f0,f1,f2,f3,f4,f5⟩:=hf it (by simp)
  have W:=Walks.range (prog:=X.prog) (w:=X.w) (I.ok.hd hc) it lo 1 n
  refine W.item i s _ _ hg st fun v h' tk hv st' kk=>?_
  obtain⟨t,rfl⟩:=hv
  have I1:Inv X js Y H { s with heap:=h',toks:=tk }:=I.turned (fun b o hb e=>kk b o (by simpa using hb) e) f0 f1 f3 f4 f5
  refine⟨_,rfl,xX (s:={ s with heap:=h',toks:=tk }) (n := "range_iterator") st' rfl rfl (by decide) ⟨.int (lo+i),H,I1,⟨t,?_⟩,⟨rfl,rfl⟩,st',fun b hb=>(hf b hb).1⟩⟩
  rw[Int.mul_one]
 done:=by
  intro X hP hw hK hc i js s Y H E I hf st hg
  subst hP hw hK
  obtain⟨f0,f1,f2,f3,f4,f5⟩:=hf it (by simp)
  exact wpAny_pyNext_range_end (I.ok.hd hc) st (by have:n<=i:=hg;omega) fun h' eb=>⟨rfl,I.turned (t':=s.toks) (fun b o hb e=>eb b o hb e) f0 f1 f3 f4 f5⟩
 self:=fun _ _ _ _ _ st h=>wpAny_pyIter_rangeiter st h
end L2
namespace L2
open PySem PySem.Spec PyProof.Rows
section
variable{X:Cx}{tg:Expr}
def pW{js:List (Addr×Obj)}{Y:St}{H:Hp}{s:Shared}{R:It->Hp->Prop}{E:Value->Shared->Prop}{lo hi:Int}{t u v:Tok}{tk:Nat}(I:Inv X js Y H s)(h1:-(2 ^ 62)<= lo)(h2:lo < 2 ^ 62)(h3:-(2 ^ 62)<= hi)(h4:hi < 2 ^ 62)
  (q:R (Itr lo (hi - lo).toNat) H):wpAny (model X.prog X.w) X.A (pyIter (.ref s.heap.objs.size)) (PIE X js Y tg R) E { s with heap:=s.heap.push { cls:=.type "range", data:=.fields #[.int lo t,.int hi u,.int 1 v] },toks:=tk }:=by
 refine wpAny_pyIter_range (IsRange.new ..) (small_one h1 h2 h3 h4) ?_
 have I1:Inv X js Y H { s with heap:=s.heap.push { cls:=.type "range", data:=.fields #[.int lo t,.int hi u,.int 1 v] },toks:=tk }:=I.kept fun b o e=>Heap.get?_push_of_some _ e
 refine ⟨(s.heap.push { cls:=.type "range", data:=.fields #[.int lo t,.int hi u,.int 1 v] }).objs.size,[(s.heap.push { cls:=.type "range", data:=.fields #[.int lo t,.int hi u,.int 1 v] }).objs.size],_,_,H,rfl,
  I1.kept (t':=tk) fun b o e=>Heap.get?_push_of_some _ e,q8 _ lo (hi - lo).toNat,?_,fun b hb=>?_,q⟩
 ·have e1:lo+((0:Nat):Int) * 1=lo:=by simp
  have e2:(((hi - lo).toNat:Nat):Int) - ((0:Nat):Int)=Builtin.Range.rangeSize lo hi 1:=by rw[rangeSize_one];split<;>omega
  show IsRangeIter _ _ (lo+((0:Nat):Int) * 1) ((((hi - lo).toNat:Nat):Int) - ((0:Nat):Int)) 1
  rw[e1,e2]
  exact Heap.get?_push_size _ rfl
 ·have e:b=(s.heap.push { cls:=.type "range", data:=.fields #[.int lo t,.int hi u,.int 1 v] }).objs.size:=by simpa using hb
  subst e
  exact I1.fpOk (Nat.le_refl _) (I1.hok.fresh (Nat.le_refl _))
def GR(ta:TA):TI:=fun Y H R=>ta Y H fun vs H1=>∃j:Int,vs=[.int j]/\-(2 ^ 62)<= j/\j < 2 ^ 62/\R (Itr 0 j.toNat) H1
def GQ(ta:TA):TI:=fun Y H R=>ta Y H fun vs H1=>∃i j:Int,vs=[.int i,.int j]/\(-(2 ^ 62)<= i/\i < 2 ^ 62/\-(2 ^ 62)<= j/\j < 2 ^ 62)/\R (Itr i (j - i).toNat) H1
def nR{a:Expr}{ta:TA}{p pos:Pos}(hg:Gl X "range")(hm:X.mg "range" = none)(ha:PA X [a] ta)(hs:starEach [a] X.env=[(false,eval a X.env)]:=by rfl):PI X tg (.Call (.Name "range" p) [a] [] pos) (GR ta):=by
 intro js s Y H R I h
 refine Call_ (gS I hg hm boot_range (PyProof.Rows.callWith_type1 (thn (ha pos js s Y H _ I h) fun us s1 ⟨vs,H1,I1,r1,q1⟩=>?_) hs rfl))
 obtain⟨j,e,q1,q2,q⟩:=q1
 subst e
 cases r1 with
 | cons r rr =>
  cases rr
  obtain⟨t,rfl⟩:=r
  exact call_range_1 (pW I1 (by omega) (by omega) q1 q2 (by simpa using q))
def uL{a b:Expr}{ta:TA}{p pos:Pos}(hg:Gl X "range")(hm:X.mg "range" = none)(ha:PA X [a,b] ta)(hs:starEach [a,b] X.env=[(false,eval a X.env),(false,eval b X.env)]:=by rfl)(hs2:starEach [b] X.env=[(false,eval b X.env)]:=by rfl) :
  PI X tg (.Call (.Name "range" p) [a,b] [] pos) (GQ ta):=by
 intro js s Y H R I h
 refine Call_ (gS I hg hm boot_range (PyProof.Rows.callWith_type1 (thn (ha pos js s Y H _ I h) fun us s1 ⟨vs,H1,I1,r1,q1⟩=>?_) (by rw[hs,hs2]) (by rw[hs2];rfl)))
 obtain⟨i,j,e,⟨q1,q2,q3,q4⟩,q⟩:=q1
 subst e
 cases r1 with
 | cons r rr =>
  cases rr with
  | cons r' rr =>
   cases rr
   obtain⟨t,rfl⟩:=r
   obtain⟨t',rfl⟩:=r'
   exact call_range_2 (pW I1 q1 q2 q3 q4 q)
def HU(wi:TI)(g:TG)(tb:TS):TS:=fun D Y H=>wi Y H fun J H1=>∃W:Nat->Nat->St->Hp->Prop,(∃m,W 0 m Y H1)/\∀i m Y H,W i m Y H ->
 (J.stop i H/\D.nx Y H)\/(J.go i H/\∃N:St->Hp->Prop,(∀σ' H',N σ' H'->∃m',m' < m/\W (i+1) m' σ' H')/\∀x H',J.yld i H x H'->g x Y H' fun σ2 H2=>tb { D with nx:=N,ct:=N,bk:=D.nx } σ2 H2)
def lO(fp:List Addr)(h:Heap):List (Addr×Obj):=fp.filterMap fun b=>(h.get? b).map fun o=>(b,o)
def gR{fp:List Addr}{h:Heap}{b:Addr}{o:Obj}(hb:b∈fp)(e:h.get? b=some o):(b,o)∈ lO fp h:=List.mem_filterMap.mpr ⟨b,hb,by rw[e];rfl⟩
def uV{fp:List Addr}{h:Heap}{p:Addr×Obj}(hp:p∈lO fp h):p.1∈fp/\h.get? p.1=some p.2:=by
 obtain⟨b,hb,e⟩:=List.mem_filterMap.mp hp
 cases q:h.get? b with
 | none=>rw[q]at e;cases e
 | some o =>
  rw[q]at e
  have e':(b,o)=p:=Option.some.inj e
  subst e'
  exact⟨hb,q⟩
def Inv.pinned{js:List (Addr×Obj)}{Y:St}{H:Hp}{s:Shared}{fp:List Addr}(I:Inv X js Y H s)(hf:∀b∈fp,mZ X js H b)(ho:∀b∈fp,∃o,s.heap.get? b=some o/\∀v,o.data≠.cell v):Inv X (js++lO fp s.heap) Y H s :=
 I.pins_of fun p hp=>(List.mem_append.mp hp).elim (fun z=>I.pin p (List.mem_append_right _ z)) fun z=>by
  obtain⟨hb,e⟩:=uV z
  obtain⟨f0,f1,f2,_⟩:=hf p.1 hb
  obtain⟨o,e',d⟩:=ho p.1 hb
  rw[e]at e';cases e'
  exact⟨e,f0,f1,f2,d⟩
def Inv.unpinned{js pl:List (Addr×Obj)}{Y:St}{H:Hp}{s:Shared}(I:Inv X (js++pl) Y H s):Inv X js Y H s:=I.pins_of fun p hp=>I.pin p (List.mem_append_right _ (List.mem_append_left _ hp))
def wB{iter:Expr}{body:List Stmt}{wi:TI}{g:TG}{tb:TS}{pos:Pos}(hp:PassesOwn (model X.prog X.w) X.A X.env X.xe)(hc:X.calm=true)(hi:PI X tg iter wi)(hg:PG X tg g)(hb:PSs X body tb)
  (hs:∀x,foldedSetIterable iter X.env x=pure x:=by intro _;rfl):PS X (.For tg iter body [] pos) (HU wi g tb):=by
 intro js s Y H D I h
 refine wpAny_For (thn (hi js s Y H _ I h) fun v s1 h1=>thn h1 fun itv s2 h2=>?_) hs
 obtain⟨it,fp,tn,J,H2,e,I2,T,st2,f2,W,⟨m0,w0⟩,turn⟩:=h2
 subst e
 have stat:∀{H':Hp},(∀b∈fp,H' b=none)->∀b∈fp,mZ X js H' b:=fun hn b hb=>⟨hn b hb,(f2 b hb).2⟩
 refine codeAny_forLoop_any (fun n s'=>∃i σ' H',Inv X js σ' H' s'/\tn i s'.heap/\(∀b∈fp,H' b=none)/\W i n σ' H') ?_ m0 ⟨0,Y,H2,I2,st2,fun b hb=>(f2 b hb).1,w0⟩
 rintro n s3 ⟨i,σ3,H3,I3,st3,fr3,w3⟩
 rcases turn i n σ3 H3 w3 with⟨stop,qn⟩ |⟨go,N,hN,step⟩
 ·refine wpAny_passesOwn hp (thn (T.done X rfl rfl rfl hc i js s3 σ3 H3 X.xe I3 (stat fr3) st3 stop) fun r s4 ⟨hr,I4⟩=>?_)
  subst hr
  exact wpAny_execs_nil ⟨σ3,H3,I4,qn⟩
 ·refine wpAny_passesOwn hp (thn (T.item X rfl rfl rfl hc i js s3 σ3 H3 X.xe I3 (stat fr3) st3 go) fun r s4 ⟨u,hr,h4⟩=>?_)
  subst hr
  refine wpAny_passesOwn hp (thn h4 fun _ s5 ⟨x,H5,I5,r5,y5,st5,fr5⟩=>?_)
  have I5':=I5.pinned (stat fr5) (T.obj _ _ st5)
  refine wpAny_passesOwn hp (thn (hg _ s5 σ3 H5 x u _ I5' r5 (step x H5 y5)) fun _ s6 ⟨σ6,H6,I6,q6⟩=>?_)
  refine wpAny_passesOwn hp (thn (hb _ s6 σ6 H6 _ I6 q6) fun f s7 q7=>?_)
  have again:∀{σ7:St}{H7:Hp},Inv X (js++lO fp s5.heap) σ7 H7 s7->N σ7 H7->∃m,m < n/\∃i σ' H',Inv X js σ' H' s7/\tn i s7.heap/\(∀b∈fp,H' b=none)/\W i m σ' H':=fun {σ7 H7} I7 n7=>by
   obtain⟨m',hm,w7⟩:=hN σ7 H7 n7
   refine⟨m',hm,i+1,σ7,H7,I7.unpinned,T.keep _ _ _ st5 fun b hb o e=>(I7.pin (b,o) (List.mem_append_right _ (List.mem_append_right _ (gR hb e)))).1,fun b hb=>?_,w7⟩
   obtain⟨o,e,d⟩:=T.obj _ _ st5 b hb
   exact(I7.pin (b,o) (List.mem_append_right _ (List.mem_append_right _ (gR hb e)))).2.1
  cases f with
  | next | cont=>obtain⟨σ7,H7,I7,n7⟩:=q7;exact again I7 n7
  | brk=>obtain⟨σ7,H7,I7,q7⟩:=q7;exact⟨σ7,H7,I7.unpinned,q7⟩
  | ret v=>obtain⟨x7,σ7,H7,I7,r7,q7⟩:=q7;exact⟨x7,σ7,H7,I7.unpinned,r7,q7⟩
end
end L2
namespace L2
open PySem PySem.Spec PyProof.Rows
abbrev R2:=V->V->Hp->VK->Prop
def OpR(X:Cx)(f:Value->Value->Sem Value)(r:R2):Prop :=
 ∀(js:List (Addr×Obj)) (s:Shared) (Y:St) (H:Hp) (x y:V) (v u:Value) (Q:VK),Inv X js Y H s->bu x v->bu y u->r x y H Q ->
  wpAny (model X.prog X.w) X.A (f v u) (EP X js Y Q) X.xe s
def UnR(X:Cx)(f:Value->Sem Value)(r:V->Hp->VK->Prop):Prop :=
 ∀(js:List (Addr×Obj)) (s:Shared) (Y:St) (H:Hp) (x:V) (v:Value) (Q:VK),Inv X js Y H s->bu x v->r x H Q ->
  wpAny (model X.prog X.w) X.A (f v) (EP X js Y Q) X.xe s
def eZ(X:Cx)(f:Value)(r:List V->Hp->VK->Prop):Prop :=
 ∀(js:List (Addr×Obj)) (s:Shared) (Y:St) (H:Hp) (xs:List V) (us:List Value) (Q:VK),Inv X js Y H s->aP xs us->r xs H Q ->
  wpAny (model X.prog X.w) X.A (call f us) (EP X js Y Q) X.xe s
def Ix(X:Cx)(r:V->Hp->(Bool->Hp->Prop)->Prop):Prop :=
 ∀(js:List (Addr×Obj)) (s:Shared) (Y:St) (H:Hp) (x:V) (v:Value) (Q:Bool->Hp->Prop),Inv X js Y H s->bu x v->r x H Q ->
  wpAny (model X.prog X.w) X.A (truthy v) (TP X js Y Q) X.xe s
def tOp(r:R2)(ta tb:TE):TE:=fun Y H Q=>ta Y H fun x H1=>tb Y H1 fun y H2=>r x y H2 Q
def tUn(r:V->Hp->VK->Prop)(ta:TE):TE:=fun Y H Q=>ta Y H fun x H1=>r x H1 Q
def rI(C:Int->Int->Prop)(g:Int->Int->V):R2:=fun x y H Q=>∃i j,x=.int i/\y=.int j/\C i j/\Q (g i j) H
def rI0(g:Int->Int->V):R2:=fun x y H Q=>∃i j,x=.int i/\y=.int j/\Q (g i j) H
def rU(g:Int->V):V->Hp->VK->Prop:=fun x H Q=>∃i,x=.int i/\Q (g i) H
section
variable{X:Cx}{a b c:Expr}{ta tb tc:TE}{pos:Pos}
def Ej(ha:PE X a ta)(hb:PE X b tb){js:List (Addr×Obj)}{s:Shared}{Y:St}{H:Hp}{R:V->V->Hp->Prop}(I:Inv X js Y H s)
  (h:ta Y H fun x H1=>tb Y H1 fun y H2=>R x y H2) {Q:Value->Shared->Prop}{f:Value->Value->Sem Value}
  (hf:∀v u s2 x y H2,Inv X js Y H2 s2->bu x v->bu y u->R x y H2->wpAny (model X.prog X.w) X.A (f v u) Q X.xe s2) :
  wpAny (model X.prog X.w) X.A (eval a X.env) (fun v s₁=>wpAny (model X.prog X.w) X.A (eval b X.env) (fun u s₂=>wpAny (model X.prog X.w) X.A (f v u) Q X.xe s₂) X.xe s₁) X.xe s:=by
 refine thn (ha js s Y H _ I h) fun v s1 hz1=>?_
 obtain⟨x,H1,I1,r1,q1⟩:=hz1
 refine thn (hb js s1 Y H1 _ I1 q1) fun u s2 hz1=>?_
 obtain⟨y,H2,I2,r2,q2⟩:=hz1
 exact hf v u s2 x y H2 I2 r1 r2 q2
def FM{op:Operator}{r:R2}(ho:OpR X (binaryOp op) r)(ha:PE X a ta)(hb:PE X b tb):PE X (.BinOp a op b pos) (tOp r ta tb):=by
 intro js s Y H Q I h
 exact wpAny_BinOp (Ej ha hb I h fun v u s2 x y H2 I2 rx ry q=>ho js s2 Y H2 x y v u Q I2 rx ry q)
def FL{op:UnaryOp}{r:V->Hp->VK->Prop}(ho:UnR X (unaryOp op) r)(ha:PE X a ta):PE X (.UnaryOp op a pos) (tUn r ta):=by
 intro js s Y H Q I h
 exact UnaryOp_ (thn (ha js s Y H _ I h) fun v s1 ⟨x,H1,I1,r1,q1⟩=>ho js s1 Y H1 x v Q I1 r1 q1)
def opI{f:Value->Value->Sem Value}{C:Int->Int->Prop}{g:Int->Int->Int}
  (rule:∀(i j:Int) (t u:Tok) (s:Shared) (Q:Value->Shared->Prop) (E:Value->Shared->Prop),C i j->Q (.int (g i j) s.toks) { s with toks:=s.toks+1 }->wpAny (model X.prog X.w) X.A (f (.int i t) (.int j u)) Q E s) :
  OpR X f (rI C fun i j=>.int (g i j)):=by
 intro js s Y H x y v u Q I rx ry h
 obtain⟨i,j,rfl,rfl,hc,q⟩:=h
 obtain⟨t,rfl⟩:=rx
 obtain⟨t',rfl⟩:=ry
 exact rule i j t t' s _ _ hc ⟨.int (g i j),H,I.tok _,⟨_,rfl⟩,q⟩
def C0{f:Value->Value->Sem Value}{g:Int->Int->Int}
  (rule:∀(i j:Int) (t u:Tok) (s:Shared) (Q:Value->Shared->Prop) (E:Value->Shared->Prop),Q (.int (g i j) s.toks) { s with toks:=s.toks+1 }->wpAny (model X.prog X.w) X.A (f (.int i t) (.int j u)) Q E s) :
  OpR X f (rI0 fun i j=>.int (g i j)):=by
 intro js s Y H x y v u Q I rx ry h
 obtain⟨i,j,rfl,rfl,q⟩:=h
 obtain⟨t,rfl⟩:=rx
 obtain⟨t',rfl⟩:=ry
 exact rule i j t t' s _ _ ⟨.int (g i j),H,I.tok _,⟨_,rfl⟩,q⟩
def AO{f:Value->Value->Sem Value}{g:Int->Int->Bool}
  (rule:∀(i j:Int) (t u:Tok) (s:Shared) (Q:Value->Shared->Prop) (E:Value->Shared->Prop),Q (.bool (g i j)) s->wpAny (model X.prog X.w) X.A (f (.int i t) (.int j u)) Q E s) :
  OpR X f (rI0 fun i j=>.bl (g i j)):=by
 intro js s Y H x y v u Q I rx ry h
 obtain⟨i,j,rfl,rfl,q⟩:=h
 obtain⟨t,rfl⟩:=rx
 obtain⟨t',rfl⟩:=ry
 exact rule i j t t' s _ _ ⟨.bl (g i j),H,I,rfl,q⟩
def IE(i j:Int):Prop:=0 < j/\j < 1073741824
def ID(i j:Int):Prop:=0<=j/\j<=1000000/\i.natAbs < 2 ^ 64
def EV(i j:Int):Prop:=(-(2 ^ 64) < i/\i < 2 ^ 64)\/(-(2 ^ 64) < j/\j < 2 ^ 64)
def EV.ok{i j:Int}(h:EV i j):IntMulOk i j:=by
 rcases h with⟨h1,h2⟩ |⟨h1,h2⟩
 ·exact .of_left (intBits_le_64 h1 h2)
 ·exact .of_right (intBits_le_64 h1 h2)
def qX(k:Nat):(0:Int)<= 2 ^ k:=by
 rw[two_pow_cast]
 exact Int.natCast_nonneg _
def CZ:OpR X (binaryOp .Add) (rI0 fun i j=>.int (i+j)):=C0 fun _ _ _ _ _ _ _ q=>add_int q
def CQ:OpR X (binaryOp .Sub) (rI0 fun i j=>.int (i - j)):=C0 fun _ _ _ _ _ _ _ q=>sub_int q
def CU:OpR X (binaryOp .Mult) (rI EV fun i j=>.int (i * j)):=opI fun _ _ _ _ _ _ _ hc q=>mul_int q hc.ok
def AM:OpR X (binaryOp .FloorDiv) (rI IE fun i j=>.int (i / j)):=opI fun i j _ _ _ _ _ hc q=>by
 have h1:(0:Int) < j:=hc.1
 have h2:j < 1073741824:=hc.2
 exact floordiv_int (by omega) (by rw[Int.fdiv_eq_ediv_of_nonneg i (by omega)];exact q) (.inl (PyProof.noPylong_small (by omega)))
def CV:OpR X (binaryOp .Mod) (rI (fun _ j=>0 < j) fun i j=>.int (i % j)):=opI fun i j _ _ _ _ _ hc q=>by
 have h1:(0:Int) < j:=hc
 exact mod_int' (by omega) (by rw[Int.fmod_eq_emod_of_nonneg i (by omega)];exact q)
def CT:OpR X (binaryOp .Pow) (rI ID fun i j=>.int (i ^ j.toNat)):=opI fun _ _ _ _ _ _ _ hc q=>pow_int_small hc.1 hc.2.1 hc.2.2 q
def CS:OpR X (binaryOp .RShift) (rI (fun _ j=>0<=j) fun i j=>.int (i / 2 ^ j.toNat)):=opI fun i j _ _ _ _ _ hc q =>
 rshift_int hc (by rw[Int.fdiv_eq_ediv_of_nonneg i (qX _)];exact q)
def CY:OpR X (binaryOp .BitAnd) (rI0 fun i j=>.int (Builtin.bitAnd i j)):=C0 fun _ _ _ _ _ _ _ q=>and_int q
def unI{f:Value->Sem Value}{g:Int->Int}
  (rule:∀(i:Int) (t:Tok) (s:Shared) (Q:Value->Shared->Prop) (E:Value->Shared->Prop),Q (.int (g i) s.toks) { s with toks:=s.toks+1 }->wpAny (model X.prog X.w) X.A (f (.int i t)) Q E s) :
  UnR X f (rU fun i=>.int (g i)):=by
 intro js s Y H x v Q I rx h
 obtain⟨i,rfl,q⟩:=h
 obtain⟨t,rfl⟩:=rx
 exact rule i t s _ _ ⟨.int (g i),H,I.tok _,⟨_,rfl⟩,q⟩
def B7:UnR X (unaryOp .USub) (rU fun i=>.int (-i)):=unI fun _ _ _ _ _ q=>neg_int q
def DS{js:List (Addr×Obj)}{Y:St}{H:Hp}{s:Shared}{Q:VK}{k k':Bool}(I:Inv X js Y H s)(q:Q (.bl k) H)(e:k=k'):EP X js Y Q (.bool k') s:=by
 subst e
 exact⟨.bl k,H,I,rfl,q⟩
def FT:OpR X (compareOp .Lt) (rI0 fun i j=>.bl (decide (i < j))):=AO fun _ _ _ _ _ _ _ q=>lt_int q
def tJ:OpR X (compareOp .LtE) (rI0 fun i j=>.bl (decide (i<=j))):=AO fun _ _ _ _ _ _ _ q=>le_int q
def FU:OpR X (compareOp .Gt) (rI0 fun i j=>.bl (decide (j < i))):=AO fun _ _ _ _ _ _ _ q=>gt_int q
def FV:OpR X (compareOp .GtE) (rI0 fun i j=>.bl (decide (j<=i))):=AO fun _ _ _ _ _ _ _ q=>ge_int q
def AL:OpR X (compareOp .IsNot) (fun x y H Q=>y=.non/\Q (.bl (!decide (x=.non))) H):=by
 intro js s Y H x y v u Q I rx ry h
 obtain⟨rfl,q⟩:=h
 cases ry
 refine isnot_none_gen (DS I q ?_)
 cases x<;>first
  |(cases rx;rfl)
  |(obtain⟨t,rfl⟩:=rx;rfl)
def OpR.or{f:Value->Value->Sem Value}{r r':R2}(h:OpR X f r)(h':OpR X f r'):OpR X f (fun x y H Q=>r x y H Q\/r' x y H Q):=by
 intro js s Y H x y v u Q I rx ry q
 rcases q with q | q
 ·exact h js s Y H x y v u Q I rx ry q
 ·exact h' js s Y H x y v u Q I rx ry q
def gQ(b:Expr){op:CmpOp}(h:op≠.In:=by decide)(h2:op≠.NotIn:=by decide):behindInMarks op b=false:=by
 have e1:(op==CmpOp.In)=false:=by cases op<;>first | rfl | exact absurd rfl h
 have e2:(op==CmpOp.NotIn)=false:=by cases op<;>first | rfl | exact absurd rfl h2
 cases b<;>simp[behindInMarks,e1,e2]
def AG{op:CmpOp}{r:R2}(ho:OpR X (compareOp op) r)(ha:PE X a ta)(hb:PE X b tb)(hm:behindInMarks op b=false):PE X (.Compare a [op] [b] pos) (tOp r ta tb):=by
 intro js s Y H Q I h
 exact wpAny_Compare1 (Ej ha hb I h fun v u s2 x y H2 I2 rx ry q=>ho js s2 Y H2 x y v u Q I2 rx ry q) hm
def BK(t:TE):TT:=fun Y H Q=>t Y H fun x H'=>∃k,x=.bl k/\Q k H'
def As{op:CmpOp}{r:R2}(ho:OpR X (compareOp op) r)(ha:PE X a ta)(hb:PE X b tb)(hm:behindInMarks op b=false):PT X (.Compare a [op] [b] pos) (BK (tOp r ta tb)):=by
 intro js s Y H Q I h
 refine wpAny_isTrue_Compare1 (thn (ha js s Y H _ I h) fun v s1 ⟨x,H1,I1,r1,q1⟩=>thn (hb js s1 Y H1 _ I1 q1) fun u s2 ⟨y,H2,I2,r2,q2⟩ =>
  thn (ho js s2 Y H2 x y v u _ I2 r1 r2 q2) fun c s3 ⟨z,H3,I3,r3,k,e,q3⟩=>?_) hm
 subst e
 cases r3
 exact wpAny_truthy_bool ⟨H3,I3,q3⟩
def q_(r r':R2)(ta tb tc:TE):TE:=fun Y H Q=>ta Y H fun x H1=>tb Y H1 fun y H2=>r x y H2 fun z H3=>∃k,z=.bl k /\
 (if k=true then tc Y H3 fun w' H4=>r' y w' H4 Q else Q (.bl false) H3)
def wQ{op op':CmpOp}{r r':R2}(ho:OpR X (compareOp op) r)(ho':OpR X (compareOp op') r')(ha:PE X a ta)(hb:PE X b tb)(hc:PE X c tc)
  (hm:lastMarks [op,op'] [b,c]=false:=by with_unfolding_all rfl):PE X (.Compare a [op,op'] [b,c] pos) (q_ r r' ta tb tc):=by
 intro js s Y H Q I h
 refine Compare_chain (thn (ha js s Y H _ I h) fun v s1 ⟨x,H1,I1,r1,q1⟩=>chain_link (thn (hb js s1 Y H1 _ I1 q1) fun u s2 ⟨y,H2,I2,r2,q2⟩ =>
  thn (ho js s2 Y H2 x y v u _ I2 r1 r2 q2) fun d s3 ⟨z,H3,I3,r3,k,e,q3⟩=>?_)) hm
 subst e
 cases r3
 refine wpAny_truthy_bool ?_
 cases k with
 | false=>exact ite_ff ⟨.bl false,H3,I3,rfl,q3⟩
 | true=>exact ite_tt (chain_last (thn (hc js s3 Y H3 _ I3 q3) fun w' s4 ⟨z',H4,I4,r4,q4⟩=>ho' js s4 Y H4 y z' u w' Q I4 r2 r4 q4))
def wz{op op':CmpOp}{r r':R2}(ho:OpR X (compareOp op) r)(ho':OpR X (compareOp op') r')(ha:PE X a ta)(hb:PE X b tb)(hc:PE X c tc)
  (hm:lastMarks [op,op'] [b,c]=false:=by with_unfolding_all rfl):PT X (.Compare a [op,op'] [b,c] pos) (BK (q_ r r' ta tb tc)):=by
 intro js s Y H Q I h
 refine isTrue_chain (thn (ha js s Y H _ I h) fun v s1 ⟨x,H1,I1,r1,q1⟩=>test_link (thn (hb js s1 Y H1 _ I1 q1) fun u s2 ⟨y,H2,I2,r2,q2⟩ =>
  thn (ho js s2 Y H2 x y v u _ I2 r1 r2 q2) fun d s3 ⟨z,H3,I3,r3,k,e,q3⟩=>?_)) hm
 subst e
 cases r3
 refine wpAny_truthy_bool ?_
 cases k with
 | false =>
  obtain⟨k',e',q'⟩:=q3
  cases e'
  exact ite_ff ⟨H3,I3,q'⟩
 | true =>
  refine ite_tt (test_last (thn (hc js s3 Y H3 _ I3 q3) fun w' s4 ⟨z',H4,I4,r4,q4⟩=>thn (ho' js s4 Y H4 y z' u w' _ I4 r2 r4 q4) fun d' s5 ⟨z2,H5,I5,r5,k2,e2,q5⟩=>?_))
  subst e2
  cases r5
  exact wpAny_truthy_bool ⟨H5,I5,q5⟩
def Hd(K:PySem.W.Frag)(x:V)(H:Hp)(k:Bool):Prop :=
 match x with
 | .non=>k=false
 | .bl b=>k=b
 | .int i=>k=(i != 0)
 | .str y=>y.length<=sizeLine/\k=((y.length:Int) != 0)
 | .byt y=>y.size<=sizeLine/\k=((y.size:Int) != 0)
 | .ref p=>(∃xs,SqL K H p xs/\k=!xs.isEmpty)\/(∃xs,SqT K H p xs/\k=!xs.isEmpty)\/ ∃kvs,H p=some (.dK kvs)/\k=!kvs.isEmpty
 | _=>False
def sr{κ:Type}{kvs:List (κ×V)}{vs:List (κ×Value)}(r:KV kvs vs):(!vs.isEmpty)=!kvs.isEmpty:=by
 cases r<;>rfl
def mw{xs:List V}{its:List Value}(r:aP xs its):(!its.toArray.isEmpty)=!xs.isEmpty:=by
 cases r<;>simp
def ku:(sizeLine:Nat) < 2 ^ 63:=by rw[sizeLine_eq];decide
def B8:Ix X (fun x H Q=>∃k,Hd X.K x H k/\Q k H):=by
 intro js s Y H x v Q I rx h
 obtain⟨k,e,q⟩:=h
 have hl:=ku
 have hs:sizeLine=16777216:=sizeLine_eq
 cases x with
 | non =>
  cases rx
  have e':k=false:=e
  subst e'
  exact truthy_none ⟨H,I,q⟩
 | bl b =>
  cases rx
  have e':k=b:=e
  subst e'
  exact wpAny_truthy_bool ⟨H,I,q⟩
 | int i =>
  obtain⟨t,rfl⟩:=rx
  have e':k=(i != 0):=e
  subst e'
  exact PySem.P.truthy_int ⟨H,I,q⟩
 | str y =>
  obtain⟨t,rfl⟩:=rx
  obtain⟨hy,e'⟩:y.length<=sizeLine/\k=((y.length:Int) != 0):=e
  subst e'
  exact PySem.P.truthy_str (by omega) ⟨H,I.tok _,q⟩
 | byt y =>
  obtain⟨t,rfl⟩:=rx
  obtain⟨hy,e'⟩:y.size<=sizeLine/\k=((y.size:Int) != 0):=e
  subst e'
  exact PySem.W.truthy_bytes (by omega) ⟨H,I.tok _,q⟩
 | ref p =>
  cases rx
  have e':(∃xs,SqL X.K H p xs/\k=!xs.isEmpty)\/(∃xs,SqT X.K H p xs/\k=!xs.isEmpty)\/ ∃kvs,H p=some (.dK kvs)/\k=!kvs.isEmpty:=e
  rcases e' with⟨xs,hx,e'⟩ |⟨xs,hx,e'⟩ |⟨kvs,hx,e'⟩
  ·subst e'
   obtain⟨its,r,pl,hz⟩:=I.list hx
   have hlen:=r.length
   exact wpAny_truthy_list pl.isList (by simp only[List.size_toArray];omega) ⟨H,I.tok _,by rw[mw r];exact q⟩
  ·subst e'
   obtain⟨its,r,pl,hz⟩:=I.tuple hx
   have hlen:=r.length
   exact truthy_tuple pl (by simp only[List.size_toArray];omega) ⟨H,I.tok _,by rw[mw r];exact q⟩
  ·subst e'
   obtain⟨hz,hS,vs,r,m⟩:kvs.length<=sizeLine/\(p==sysModules)=false/\∃vs,KV kvs vs/\s.heap.DictOf (dZ X.prog X.w) p vs:=I.hok p _ hx
   have hlen:kvs.length=vs.length:=Paired.length r
   exact wpAny_truthy_dict hS m (by omega) ⟨H,I.tok _,by rw[sr r];exact q⟩
 | _=>exact(show False from e).elim
def wy(ha:PE X a ta)(he:∀whole,isTrue a X.env whole=(do let v <- whole;standAt a.pos;holding [v] (truthy v))) :
  PT X a (fun Y H Q=>ta Y H fun x H'=>∃k,Hd X.K x H' k/\Q k H'):=by
 intro js s Y H Q I h
 exact isTrue_plain (thn (ha js s Y H _ I h) fun v s1 ⟨x,H1,I1,r1,q1⟩=>B8 js s1 Y H1 x v Q I1 r1 q1) (he _)
def fw{x:V}{us:List Value}(r:aP [x] us):∃u,us=[u]/\bu x u:=by
 cases r with
 | cons r1 r2=>cases r2;exact⟨_,rfl,r1⟩
def Fq{x y:V}{us:List Value}(r:aP [x,y] us):∃u w',us=[u,w']/\bu x u/\bu y w':=by
 cases r with
 | cons r1 r2 =>
  cases r2 with
  | cons r3 r4=>cases r4;exact⟨_,_,rfl,r1,r3⟩
def vE(hc:X.calm=true):eZ X (.builtin "min") (fun xs H Q=>∃i j,xs=[.int i,.int j]/\Q (.int (if j < i then j else i)) H):=by
 intro js s Y H xs us Q I r h
 obtain⟨i,j,rfl,q⟩:=h
 obtain⟨u,w',rfl,⟨t,rfl⟩,⟨t',rfl⟩⟩:=Fq r
 refine min_two_ints (I.ok.hd hc) fun h' tk k=>⟨_,H,I.kept k,?_,q⟩
 by_cases hj:j < i
 ·rw[if_pos hj,if_pos hj];exact⟨_,rfl⟩
 ·rw[if_neg hj,if_neg hj];exact⟨_,rfl⟩
end
end L2
namespace L2
open PySem PySem.Spec PyProof.Rows
structure sJ(h:Heap)(x dx C:Addr)(mA:Str->Option Value):Prop where
 obj:h.get? x=some (PySem.W.instObj C dx)
 ns:h.Ns1 dx mA
 ne:dx≠x
def u_{h:Heap}{dx:Addr}{mA:Str->Option Value}(n:h.Ns1 dx mA):∃od,h.get? dx=some od/\∀name,PySem.W.lookIn name od=some (mA name):=by
 obtain⟨o,es,ep,ho,hd,hk,_,hm⟩:=n
 refine⟨o,ho,fun name=>?_⟩
 have e:=hm name
 unfold nsFind findBy at e
 rw[<- Array.find?_toList]at e
 unfold PySem.W.lookIn
 rw[hd]
 dsimp only
 split
 ·rename_i y q
  rw[q]at e
  exact congrArg some e
 ·rename_i q
  rw[q]at e
  have a:es.toList.any (·.refKey)=false:=by
   rw[List.any_eq_false]
   intro y hy
   obtain⟨z,t,hkey⟩:=hk y (Array.mem_toList_iff.mp hy)
   simp[DictEntry.refKey,hkey]
  have a':¬es.toList.any (·.refKey)=true:=by rw[a];exact Bool.false_ne_true
  rw[if_neg a']
  exact congrArg some e
def sJ.look{h:Heap}{x dx C:Addr}{mA:Str->Option Value}(I:sJ h x dx C mA):∃od,PySem.W.InstAt h x (PySem.W.instObj C dx) C (some od)/\∀name,PySem.W.lookIn name od=some (mA name) :=
 let⟨od,ho,hl⟩:=u_ I.ns
 ⟨od,⟨I.obj,rfl,rfl,ho⟩,hl⟩
section
variable{prog:Program}{w:World}{A:Around}{E:Value->Shared->Prop}{s:Shared}{K:PySem.W.Frag}{x dx C f:Addr}{mA:Str->Option Value}{name:Str}{v:Value}
def Bc{expr:Bool}{Q:Value->Shared->Prop}(X:K.In s.heap)(I:sJ s.heap x dx C mA)(hg:PySem.W.plainGet K C name=true)(hh:PySem.W.hasDictIn K C=true)
  (ha:PySem.W.findIn K (.ref C) name=some none) (hv:mA name=some v) (hv':PySem.W.handedIn v=true) (h:Q v { s with toks:=s.toks+1 }) :
  wpAny (model prog w) A (getAttr (.ref x) name expr) Q E s:=by
 obtain⟨od,J,hl⟩:=I.look
 exact PySem.W.get_value X J (PySem.W.plainGet_of hg).1 (PySem.W.findObj_own hh ha rfl (by rw[hl,hv])) hv' h
def xZ{pl:Sem Bool}{Q:Value×List Value->Shared->Prop}(X:K.In s.heap)(I:sJ s.heap x dx C mA)(hg:PySem.W.plainGet K C name=true)
  (hf:PySem.W.findIn K (.ref C) name=some (some (.ref f))) (ht:PySem.W.isFn K (.ref f)=true) (hv:mA name=none) (h:Q (.ref f,[.ref x]) s) :
  wpAny (model prog w) A (getMethod (.ref x) name pl) Q E s:=by
 obtain⟨od,J,hl⟩:=I.look
 exact PySem.W.method_fn X J (PySem.W.plainGet_of hg).1 (PySem.W.plainGet_of hg).2 hf (beq_iff_eq.mp ht) (by show(PySem.W.lookIn name od).map (·.isSome)=some false;rw[hl,hv];rfl) h
def z9{ns:List Str}{Q:Unit->Shared->Prop}(X:K.In s.heap)(I:sJ s.heap x dx C mA)
  (hs:PySem.W.findIn K (.ref C) "__setattr__" = some (some (.builtin "object.__setattr__"))) (hp:PySem.W.plainOver K C=true) (ht:PySem.W.takerIn K C name=some none) (hh:PySem.W.hasDictIn K C=true)
  (hw:PySem.Within mA ns) (hsz:ns.length<=sizeLine)
  (h:∀h',sJ h' x dx C (fun y=>if y=name then some v else mA y)->Heap.SameBut dx s.heap h'->Q () { s with heap:=h',toks:=s.toks+2 }) :
  wpAny (model prog w) A (setAttr (.ref x) name v) Q E s:=by
 obtain⟨od,J,hl⟩:=I.look
 refine PySem.W.set_plain X J hs (PySem.W.osa_open (s:={ s with toks:=s.toks+1 }) (r:=none) X J hp ht fun b=>?_)
 obtain⟨cd,hc,hd'⟩:=PySem.W.any_some hh
 have hx:s.heap.get? x=some ⟨.ref C,some dx,.plain,#[]⟩:=I.obj
 refine wpAny_bind (wpAny_pure (wpAny_bind (wpAny_bind (wpAny_loadPart hx (wpAny_bind (PySem.W.Looks.here (s:={ s with toks:=s.toks+1 }) (PySem.W.looks_clsIn X hc) ?_))))))
 rw[hd']
 refine wpAny_pure (a:=some dx) (wpAny_bind (wpAny_pure (wpAny_bind ?_)))
 refine wpAny_nsSet1 (s:={ s with toks:=s.toks+1 }) I.ns fun h' hn2 hs2=>?_
 obtain⟨oD,esD,epD,hoD,hdD,hcD⟩:=hn2.count (PySem.Within.cons name v hw)
 refine wpAny_bind (wpAny_lookBehind hoD (by rw[hdD];exact pastItsLine_dict (Nat.le_trans hcD (by rw[List.length_cons];omega))) ?_)
 exact wpAny_pure (h _ ⟨(hs2.2 _ (Ne.symm I.ne)).trans I.obj,hn2,I.ne⟩ hs2)
def xH{R:Result->Shared->Prop}{vs:List Value}{kw:List (Str×Value)}(X:K.In s.heap)(hm:PySem.W.makesIn K C=true)
  (hi:PySem.W.findIn K (.ref C) "__init__" = some (some (.ref f))) (hf:PySem.W.typeIn K (.ref f)=some (.type "function"))
  (h:codeAny (model prog w) (A.under (.builtin "type.__call__" ⟨.ref C::vs,kw⟩)) (.call (.ref f) ⟨.ref (s.heap.objs.size+1)::vs,kw⟩) (PySem.W.InitBack (s.heap.objs.size+1) R)
   { s with heap:=(s.heap.push PySem.W.emptyDict).push (PySem.W.instObj C s.heap.objs.size) }) :
  codeAny (model prog w) A (.call (.ref C) ⟨vs,kw⟩) R s:=by
 obtain⟨hh,g,d,t,os⟩:=s
 exact PySem.W.make_core (PySem.W.makes_of X hm) (PySem.W.looks_findIn X hi) (fun self=>PySem.W.bind_fn X self hf) (.inl rfl) h
end
def gH(f:Str)(v:V):List (Str×V)->List (Str×V)
 | []=>[(f,v)]
 |(g,x)::r=>if g=f then(g,v)::r else(g,x)::gH f v r
def kO(f g:Str)(v:V):∀fs:List (Str×V),(gH f v fs).lookup g=if g=f then some v else fs.lookup g
 | []=>by
  show List.lookup g [(f,v)]=_
  by_cases h:g=f
  ·have hb:(g==f)=true:=beq_iff_eq.mpr h
   simp only[List.lookup,hb,if_pos h]
  ·have hb:(g==f)=false:=beq_eq_false_iff_ne.mpr h
   simp only[List.lookup,hb,if_neg h]
 |(k,x)::r=>by
  have ih:=kO f g v r
  rw[show gH f v ((k,x)::r)=(if k=f then(k,v)::r else(k,x)::gH f v r)from rfl]
  by_cases hk:k=f
  ·rw[if_pos hk]
   by_cases h:g=k
   ·have hb:(g==k)=true:=beq_iff_eq.mpr h
    simp only[List.lookup,hb,if_pos (h.trans hk)]
   ·have hb:(g==k)=false:=beq_eq_false_iff_ne.mpr h
    simp only[List.lookup,hb,if_neg (fun e:g=f=>h (e.trans hk.symm))]
  ·rw[if_neg hk]
   by_cases h:g=k
   ·have hb:(g==k)=true:=beq_iff_eq.mpr h
    simp only[List.lookup,hb,if_neg (fun e:g=f=>hk (h.symm.trans e))]
   ·have hb:(g==k)=false:=beq_eq_false_iff_ne.mpr h
    simp only[List.lookup,hb]
    exact ih
def ky(f:Str)(v:V):∀fs:List (Str×V),f ∈(gH f v fs).map (·.1)/\∀g,g∈fs.map (·.1)->g ∈(gH f v fs).map (·.1)
 | []=>⟨by simp[gH],fun g h=>by simp at h⟩
 |(k,x)::r=>by
  obtain⟨i1,i2⟩:=ky f v r
  rw[show gH f v ((k,x)::r)=(if k=f then(k,v)::r else(k,x)::gH f v r)from rfl]
  by_cases hk:k=f
  ·rw[if_pos hk]
   subst hk
   exact⟨by simp,fun g h=>by simpa using h⟩
  ·rw[if_neg hk]
   refine⟨?_,fun g h=>?_⟩
   ·rw[List.map_cons]
    exact List.mem_cons_of_mem _ i1
   ·rw[List.map_cons]at h ⊢
    rcases List.mem_cons.mp h with e | e
    ·exact List.mem_cons.mpr (.inl e)
    ·exact List.mem_cons_of_mem _ (i2 g e)
def kR(f:Str)(v:V):∀fs:List (Str×V),(gH f v fs).length<=fs.length+1
 | []=>by simp[gH]
 |(k,x)::r=>by
  have ih:=kR f v r
  rw[show gH f v ((k,x)::r)=(if k=f then(k,v)::r else(k,x)::gH f v r)from rfl]
  by_cases hk:k=f
  ·rw[if_pos hk,List.length_cons,List.length_cons];omega
  ·rw[if_neg hk,List.length_cons,List.length_cons];omega
def k8.some_of{v:V}{o:Option Value}(r:k8 (some v) o):∃u,o=some u/\bu v u:=by
 cases o with
 | none=>exact(show False from r).elim
 | some u=>exact⟨u,rfl,r⟩
def k8.none_of{o:Option Value}(r:k8 none o):o=none:=by
 cases o with
 | none=>rfl
 | some u=>exact(show False from r).elim
def vm{v:V}{u:Value}(r:bu v u):PySem.W.handedIn u=true:=by
 cases v with
 | non=>cases(show u=Value.none from r);rfl
 | bl b=>cases(show u=Value.bool b from r);rfl
 | int i=>obtain⟨t,e⟩:=(show ∃t,u=Value.int i t from r);cases e;rfl
 | str x=>obtain⟨t,e⟩:=(show ∃t,u=Value.str x t from r);cases e;rfl
 | byt b=>obtain⟨t,e⟩:=(show ∃t,u=Value.bytes b t from r);cases e;rfl
 | flt b=>obtain⟨t,e⟩:=(show ∃t,u=Value.float b t from r);cases e;rfl
 | ref a=>cases(show u=Value.ref a from r);rfl
 | ty n=>cases(show u=Value.type n from r);rfl
section
variable{P:Program}{w:World}{H H':Hp}{h h':Heap}{a C dx:Addr}{fs fs':List (Str×V)}
def oY(hok:HOk P w H h)(e:H a=some (.ins C dx fs)):∃mA,sJ h a dx C mA/\(∀f,k8 (fs.lookup f) (mA f))/\PySem.Within mA (fs.map (·.1))/\fs.length<=1000/\H dx=some (.own a):=by
 obtain⟨d,z,ne,ob,mA,n,r,q⟩:=(show cf P w H h a (.ins C dx fs)from hok a _ e)
 exact⟨mA,⟨ob,n,ne⟩,r,q,z,d⟩
end
structure Cls(K:PySem.W.Frag)(C:Addr):Prop where
 pg:PySem.W.plainGet K C Str.empty=true
 hd:PySem.W.hasDictIn K C=true
 po:PySem.W.plainOver K C=true
 sa:PySem.W.findIn K (.ref C) "__setattr__" = some (some (.builtin "object.__setattr__"))
def Cls.get{K:PySem.W.Frag}{C:Addr}(c:Cls K C)(f:Str):PySem.W.plainGet K C f=true:=c.pg
def eW(K:PySem.W.Frag)(C:Addr)(f:Str):Prop:=PySem.W.findIn K (.ref C) f=some none
def eW.taker{K:PySem.W.Frag}{C:Addr}{f:Str}(n:eW K C f):PySem.W.takerIn K C f=some none:=by
 unfold PySem.W.takerIn
 rw[show PySem.W.findIn K (.ref C) f=some none from n]
 rfl
structure BH(K:PySem.W.Frag)(C:Addr)(m:Str)(f:Addr):Prop where
 at_:PySem.W.findIn K (.ref C) m=some (some (.ref f))
 fn:PySem.W.isFn K (.ref f)=true
 kp:PySem.W.keepIn K (.ref f)=true
section
variable{X:Cx}{js:List (Addr×Obj)}{Y:St}{H:Hp}{s:Shared}{a C dx:Addr}{fs:List (Str×V)}{f:Str}{v:V}{A:Around}{E:Value->Shared->Prop}
def sB{b:Bool}{Q:Value->Shared->Prop}(I:Inv X js Y H s)(e:H a=some (.ins C dx fs))(c:Cls X.K C)(n:eW X.K C f)(l:fs.lookup f=some v)
  (h:∀u s',Inv X js Y H s'->bu v u->Q u s'):wpAny (model X.prog X.w) A (getAttr (.ref a) f b) Q E s:=by
 obtain⟨mA,O,r,_,_,_⟩:=oY I.hok e
 obtain⟨u,hu,ru⟩:=k8.some_of (v:=v) (o:=mA f) (by rw[<- l];exact r f)
 exact Bc I.kIn O (c.get f) c.hd n hu (vm ru) (h u _ (I.tok _) ru)
def sA{m:Str}{g:Addr}{pl:Sem Bool}{Q:Value×List Value->Shared->Prop}(I:Inv X js Y H s)(e:H a=some (.ins C dx fs))(c:Cls X.K C)(k:BH X.K C m g)(l:fs.lookup m=none)
  (h:Q (.ref g,[.ref a]) s):wpAny (model X.prog X.w) A (getMethod (.ref a) m pl) Q E s:=by
 obtain⟨mA,O,r,_,_,_⟩:=oY I.hok e
 have hn:mA m=none:=k8.none_of (by rw[<- l];exact r m)
 exact xZ I.kIn O (c.get m) k.at_ k.fn hn h
def rD{y:V}{u:Value}{Q:Unit->Shared->Prop}(I:Inv X js Y H s)(e:H a=some (.ins C dx fs))(c:Cls X.K C)(n:eW X.K C f)(hl:fs.length < 1000)(ry:bu y u)
  (h:∀s',Inv X js Y (upd H a (.ins C dx (gH f y fs))) s'->Q () s'):wpAny (model X.prog X.w) A (setAttr (.ref a) f u) Q E s:=by
 obtain⟨mA,O,r,wi,_,ho⟩:=oY I.hok e
 have hz:(fs.map (·.1)).length<=sizeLine:=by rw[List.length_map,sizeLine_eq];omega
 refine z9 I.kIn O c.sa c.po n.taker c.hd wi hz fun h' O' sb=>h _ ?_
 have hd:∃o,h'.get? dx=some o:=let⟨o,_,_,e',_⟩:=O'.ns;⟨o,e'⟩
 refine I.write (x:=a) (e:=dx) (by rw[e];exact True.intro) (.inr ho) (fun b q hb z=>(sb.2 b hb).trans z) hd ?_
 refine⟨by rw[aK O.ne];exact ho,?_,O.ne,O'.obj,_,O'.ns,fun g=>?_,fun g hg=>?_⟩
 ·have:=kR f y fs;omega
 ·show k8 ((gH f y fs).lookup g) (if g=f then some u else mA g)
  rw[kO]
  by_cases q:g=f
  ·rw[if_pos q,if_pos q];exact ry
  ·rw[if_neg q,if_neg q];exact r g
 ·by_cases q:g=f
  ·rw[q];exact(ky f y fs).1
  ·refine(ky f y fs).2 g (wi g fun z=>hg ?_)
   show(if g=f then some u else mA g)=none
   rw[if_neg q];exact z
def Inv.made(I:Inv X js Y H s):Inv X js Y (upd (upd H s.heap.objs.size (.own (s.heap.objs.size+1))) (s.heap.objs.size+1) (.ins C s.heap.objs.size []))
  { s with heap:=(s.heap.push PySem.W.emptyDict).push (PySem.W.instObj C s.heap.objs.size) }:=by
 have e1:(s.heap.push PySem.W.emptyDict).get? s.heap.objs.size=some PySem.W.emptyDict:=Heap.get?_push_size s.heap rfl
 have e2:((s.heap.push PySem.W.emptyDict).push (PySem.W.instObj C s.heap.objs.size)).get? (s.heap.objs.size+1)=some (PySem.W.instObj C s.heap.objs.size):=by
  have:=Heap.get?_push_size (s.heap.push PySem.W.emptyDict) (o:=PySem.W.instObj C s.heap.objs.size) rfl
  rwa [Heap.size_push]at this
 have e3:(s.heap.push PySem.W.emptyDict).Ns s.heap.objs.size (fun _=>none):=⟨PySem.W.emptyDict,#[],_,e1,rfl,(fun e he=>absurd he (by simp)),fun _=>rfl⟩
 have I1:=I.laid (a:=s.heap.objs.size) (o:=.own (s.heap.objs.size+1)) (h':=s.heap.push PySem.W.emptyDict) (t':=s.toks) (fun b u q=>Heap.get?_push_of_some _ q) (Nat.le_refl _) ⟨_,e1⟩
 refine I1.laid (a:=s.heap.objs.size+1) (o:=.ins C s.heap.objs.size []) (t':=s.toks) (fun b u q=>Heap.get?_push_of_some _ q) (Nat.le_of_eq (Heap.size_push _ _)) ?_
 have ne:s.heap.objs.size≠s.heap.objs.size+1:=Nat.ne_of_lt (Nat.lt_succ_self _)
 refine⟨by rw[aK ne,a5],Nat.zero_le _,ne,e2,fun _=>none,(Heap.Ns1.of_empty e3).at fun o q=>Heap.get?_push_of_some _ q,fun _=>True.intro,fun y hy=>absurd rfl hy⟩
def BE{prog:Program}{w:World}{env:Env}{e:Expr}{f:Str}{pos:Pos}{s:Shared}{Q:Value->Shared->Prop}(hb:attributeBase e f env (eval e env)=eval e env)
  (h:wpAny (model prog w) A (eval e env) (fun o s₁=>wpAny (model prog w) A (getAttr o f true) Q E s₁) E s):wpAny (model prog w) A (eval (.Attribute e f pos) env) Q E s :=
 Attribute_any_ h (by rw[arm_eval_Attribute,hb])
end
def Fx(K:PySem.W.Frag)(ta:TE)(f:Str):TE:=fun Y H Q=>ta Y H fun x H1=>∃a C dx fs v,x=.ref a/\H1 a=some (.ins C dx fs)/\Cls K C/\eW K C f/\fs.lookup f=some v/\Q v H1
def sFld(K:PySem.W.Frag)(ta tv:TE)(f:Str):TS:=fun D Y H=>tv Y H fun y H1=>ta Y H1 fun x H2=>∃a C dx fs,x=.ref a/\H2 a=some (.ins C dx fs)/\Cls K C/\eW K C f/\fs.length < 1000 /\
 D.nx Y (upd H2 a (.ins C dx (gH f y fs)))
section
variable{X:Cx}{o e value:Expr}{f:Str}{pos pos' tpos:Pos}{ta tv:TE}
def CL(he:PE X e ta)(hb:attributeBase e f X.env (eval e X.env)=eval e X.env):PE X (.Attribute e f pos) (Fx X.K ta f):=by
 intro js s Y H Q I h
 refine BE hb (thn (he js s Y H _ I h) fun u s1 ⟨x,H1,I1,rx,a,C,dx,fs,v,ex,ea,c,n,l,q⟩=>?_)
 subst ex
 obtain rfl:u=Value.ref a:=rx
 exact sB I1 ea c n l fun u' s2 I2 ru=>⟨v,H1,I2,ru,q⟩
def CC(ha:PE X o ta)(hv:PE X value tv)(hs:swapsWith value (some (.Attribute o f pos')) pos.line X.env=pure false):PS X (.Assign [.Attribute o f pos'] value pos) (sFld X.K ta tv f):=by
 intro js s Y H D I h
 refine plainObj_wpAny_Assign_Attribute (thn (hv js s Y H _ I h) fun u s1 ⟨y,H1,I1,ry,q⟩=>thn (ha js s1 Y H1 _ I1 q) fun ov s2 ⟨x,H2,I2,rx,a,C,dx,fs,ex,ea,c,n,l,q2⟩=>?_) hs
 subst ex
 obtain rfl:ov=Value.ref a:=rx
 exact rD I2 ea c n l ry fun s3 I3=>⟨Y,_,I3,q2⟩
end
end L2
namespace L2
open PySem PySem.Spec PyProof.Rows
structure eH(k:Nat)(A:Around):Prop where
 hd:A.handled=none
 dp:A.depth+3 * k+5 < recursionLimit
 un:A.units+16 * k+200 < cLine
def eH.mono{j k:Nat}{A:Around}(r:eH k A)(h:j<=k):eH j A:=⟨r.hd,by have:=r.dp;omega,by have:=r.un;omega⟩
def eH.deeper{k:Nat}{A:Around}(r:eH (k+1) A)(env:Env):eH k (A.deeper env) :=
 ⟨r.hd,by have:=r.dp;show A.depth+1+3 * k+5 < _;omega,by have:=r.un;show A.units+3+16 * k+200 < _;omega⟩
def sf{A:Around}{C:Addr}{us:List Value}{kw:List (Str×Value)}:(A.under (.builtin "type.__call__" ⟨.ref C::us,kw⟩)).depth=A.depth+1:=by
 first | rfl | simp[Around.under,Code.weight,Code.isCreation,Code.isGuard,Code.isCaller,Code.frames,Code.isFrame,guardIds]
def se{A:Around}{C:Addr}{us:List Value}{kw:List (Str×Value)}:(A.under (.builtin "type.__call__" ⟨.ref C::us,kw⟩)).units=A.units+1:=by
 first | rfl | simp[Around.under,Code.cUnits,Code.frames,Code.isFrame]
def eH.make{k:Nat}{A:Around}(r:eH (k+1) A)(C:Addr)(us:List Value)(kw:List (Str×Value)):eH k (A.under (.builtin "type.__call__" ⟨.ref C::us,kw⟩)) :=
 ⟨r.hd,by have:=r.dp;rw[sf];omega,by have:=r.un;rw[se];omega⟩
def eH.depth{k:Nat}{A:Around}(r:eH k A):A.depth < recursionLimit:=by have:=r.dp;omega
def eH.units{k:Nat}{A:Around}(r:eH k A):A.units+64 < cLine:=by have:=r.un;omega
def Ca:TA:=fun _ H Q=>Q [] H
def sQ(ta:TE)(tr:TA):TA:=fun Y H Q=>ta Y H fun x H1=>tr Y H1 fun xs H2=>Q (x::xs) H2
section
variable{X:Cx}{e:Expr}{es:List Expr}{te:TE}{t:TA}{pos:Pos}
def gK:PA X [] Ca:=fun _ _ _ _ H Q I h=>Calls.spliced_nil ⟨[],H,I,.nil,h⟩
def dD(ha:PE X e te)(hr:PA X es t)(hs:starEach (e::es) X.env=(false,eval e X.env)::starEach es X.env:=by rfl):PA X (e::es) (sQ te t):=by
 intro pos js s Y H Q I h
 rw[hs]
 show wpAny _ _ (spliced ((false,eval e X.env)::backTo pos (starEach es X.env))) _ _ s
 refine Calls.spliced_cons (thn (ha js s Y H _ I h) fun u s1 ⟨x,H1,I1,r1,q1⟩=>?_)
 exact thn (hr pos js s1 Y H1 _ I1 q1) fun us s2 ⟨xs,H2,I2,r2,q2⟩=>⟨x::xs,H2,I2,.cons r1 r2,q2⟩
def HN(t:TA):TE:=fun Y H Q=>t Y H fun xs H1=>xs.length<=sizeLine/\∀p,H1 p=none->Q (.ref p) (upd H1 p (.tup xs))
def HR(t:TA):TE:=fun Y H Q=>t Y H fun xs H1=>xs.length<=sizeLine/\∀p,H1 p=none->Q (.ref p) (upd H1 p (.lst xs))
def wK{x1}(h:PA X es t):PE X (.Tuple es x1 pos) (HN t):=by
 intro js s Y H Q I hq
 refine wpAny_Tuple_spliced (thn (h pos js s Y H _ I hq) fun us s1 ⟨xs,H1,I1,r,z,q⟩=>⟨by rw[<- r.length];exact z,?_⟩)
 have hf:H1 s1.heap.objs.size=none:=I1.hok.fresh (Nat.le_refl _)
 refine⟨.ref s1.heap.objs.size,upd H1 s1.heap.objs.size (.tup xs),I1.laid (t':=s1.toks) (fun b u e=>Heap.get?_push_of_some _ e) (Nat.le_refl _) ?_,rfl,q _ hf⟩
 exact⟨z,us,r,⟨_,Heap.get?_push_size _ rfl,rfl,_,rfl⟩⟩
def CK(h:PA X es t):PE X (.List es pos) (HR t):=by
 intro js s Y H Q I hq
 refine wpAny_List_spliced (thn (h pos js s Y H _ I hq) fun us s1 ⟨xs,H1,I1,r,z,q⟩=>⟨by rw[<- r.length];exact z,?_⟩)
 have hf:H1 s1.heap.objs.size=none:=I1.hok.fresh (Nat.le_refl _)
 refine⟨.ref s1.heap.objs.size,upd H1 s1.heap.objs.size (.lst xs),I1.laid (t':=s1.toks) (fun b u e=>Heap.get?_push_of_some _ e) (Nat.le_refl _) ?_,rfl,q _ hf⟩
 exact⟨z,us,0,r,Heap.get?_push_size _ rfl⟩
end
abbrev Sp:=List V->Hp->VK->XK->Prop
abbrev CXT:=List Env->Hp->Shared->XK->Value->Shared->Prop
structure sK(P:Program)(w:World)(K:PySem.W.Frag)(mg:Str->Option Value)(base:Heap)(A:Around)(outer:List Env)(s:Shared)(H:Hp):Prop where
 frames:A.frames=some outer
 mod:Mod K mg base
 bs:∀b o,base.get? b=some o->s.heap.get? b=some o/\H b=none
 bsz:base.objs.size<=s.heap.objs.size
 funs:s.heap.FunFrames base outer
 frf:∀b∈frs outer,H b=none
 hok:HOk P w H s.heap
 bare:AllBare s.gens
def CE(outer:List Env)(P:Program)(w:World)(H:Hp)(s:Shared)(Q:VK)(u:Value)(s':Shared):Prop :=
 ∃v H',s'.os=s.os/\AllBare s'.gens/\Un (frs outer) [] H H' s.heap s'.heap/\HOk P w H' s'.heap/\bu v u/\Q v H'
def CR(CX:CXT)(outer:List Env)(P:Program)(w:World)(H:Hp)(s:Shared)(Q:VK)(E:XK)(r:Result)(s':Shared):Prop :=
 match r with
 | .ok (.ret u)=>CE outer P w H s Q u s'
 | .ok _=>False
 | .error e=>CX outer H s E e s'
structure dA(P:Program)(w:World)(K:PySem.W.Frag)(mg:Str->Option Value)(base:Heap)(CX:CXT)(k:Nat)(f:Addr)(fd:FuncData)(ps:List Str)(sp:Sp):Prop where
 len:∀vs H Q E,sp vs H Q E->vs.length=ps.length
 run:∀(A:Around) (outer:List Env) (s:Shared) (H:Hp) (args:Args) (us:List Value) (vs:List V) (Q:VK) (E:XK),eH k A->sK P w K mg base A outer s H->BindsTo s fd args (ps.zip us)->aP vs us->sp vs H Q E ->
  codeAny (model P w) A (.call (.ref f) args) (CR CX outer P w H s Q E) s
def dA.mono{P:Program}{w:World}{K:PySem.W.Frag}{mg:Str->Option Value}{base:Heap}{CX:CXT}{j k:Nat}{f:Addr}{fd:FuncData}{ps:List Str}{sp:Sp}(F:dA P w K mg base CX j f fd ps sp)(h:j<=k) :
  dA P w K mg base CX k f fd ps sp:=⟨F.len,fun A outer s H args us vs Q E hr=>F.run A outer s H args us vs Q E (hr.mono h)⟩
def dA.imp{P:Program}{w:World}{K:PySem.W.Frag}{mg:Str->Option Value}{base:Heap}{CX:CXT}{k:Nat}{f:Addr}{fd:FuncData}{ps:List Str}{sp sp':Sp}(F:dA P w K mg base CX k f fd ps sp)
  (h:∀vs H Q E,sp' vs H Q E->sp vs H Q E):dA P w K mg base CX k f fd ps sp' :=
 ⟨fun vs H Q E q=>F.len vs H Q E (h _ _ _ _ q),fun A outer s H args us vs Q E hr he hb hv hs=>F.run A outer s H args us vs Q E hr he hb hv (h _ _ _ _ hs)⟩
def sK.make{P:Program}{w:World}{K:PySem.W.Frag}{mg:Str->Option Value}{base:Heap}{A:Around}{outer:List Env}{s:Shared}{H:Hp}(e:sK P w K mg base A outer s H)(C:Addr)(us:List Value)(kw:List (Str×Value)) :
  sK P w K mg base (A.under (.builtin "type.__call__" ⟨.ref C::us,kw⟩)) outer s H:=⟨by first | exact e.frames |(simpa[Around.under,Code.envs,Code.isFrame,pushEnvs]using e.frames),e.mod,e.bs,e.bsz,e.funs,e.frf,e.hok,e.bare⟩
section
variable{X:Cx}{js:List (Addr×Obj)}{Y:St}{H:Hp}{s s':Shared}
def Inv.env0(I:Inv X js Y H s):sK X.prog X.w X.K X.mg X.base X.A X.stack s H :=
 ⟨I.ok.frames,I.ok.mod,I.bs,Nat.le_trans I.ok.bsz I.sz,I.stack,I.stkFree,I.hok,I.bare⟩
def Inv.after{Q:VK}{u:Value}(I:Inv X js Y H s)(h:CE X.stack X.prog X.w H s Q u s'):EP X js Y Q u s':=by
 obtain⟨v,H',os,bare,un,hok,r,q⟩:=h
 obtain⟨hh,g,d,t,os'⟩:=s'
 obtain rfl:os'=s.os:=os
 exact⟨v,H',I.call (h':=hh) (g':=g) (d':=d) (t':=t) (ch:=[]) un hok bare (fun b z=>absurd z (by simp)),r,q⟩
end
def fM(K:PySem.W.Frag)(fd:FuncData)(ps:List Str)(ds:List Value):Prop :=
 ∀(s:Shared) (us:List Value),K.In s.heap->(us++ds).length=ps.length->BindsTo s fd ⟨us,[]⟩ (ps.zip (us++ds))
def fM.all{K:PySem.W.Frag}{fd:FuncData}{ps:List Str}(h:∀us:List Value,us.length=ps.length->bindArgs fd ⟨us,[]⟩=pure (ps.zip us)):fM K fd ps []:=fun s us _ hl=>by
 rw[List.append_nil]at hl ⊢
 exact .of_eq (h us hl)
section
variable{X:Cx}{CX:CXT}{k:Nat}{f C:Addr}{fd:FuncData}{ps:List Str}{sp:Sp}{dvs:List V}{ds:List Value}{E:XK}{x m:Str}{p pos apos:Pos}{e o:Expr}{es:List Expr}{ta:TE}{t:TA}
structure Mk(K:PySem.W.Frag)(C f:Addr):Prop where
 makes:PySem.W.makesIn K C=true
 init:PySem.W.findIn K (.ref C) "__init__" = some (some (.ref f))
 fn:PySem.W.isFn K (.ref f)=true
 kp:PySem.W.keepIn K (.ref C)=true
end
def PK(X:Cx)(kws:List Keyword)(t:TA):Prop :=
 ∀(pos:Pos) (js:List (Addr×Obj)) (s:Shared) (Y:St) (H:Hp) (Q:List V->Hp->Prop),Inv X js Y H s->t Y H Q->wpAny (model X.prog X.w) X.A (evalAll ((backToKw pos (keywordEach kws X.env)).map (·.2))) (AP X js Y Q) X.xe s
section
variable{X:Cx}{CX:CXT}{k:Nat}{f C:Addr}{fd:FuncData}{ps ks:List Str}{sp:Sp}{E:XK}{x m:Str}{p pos apos kpos:Pos}{e o:Expr}{es:List Expr}{kws:List Keyword}{te ta:TE}{t tk:TA}{nm:Option Str}
def wE:PK X [] Ca:=fun _ _ _ _ H Q I h=>wpAny_evalAll_nil ⟨[],H,I,.nil,h⟩
def tB(ha:PE X e te)(hr:PK X kws t):PK X (⟨nm,e,kpos⟩::kws) (sQ te t):=by
 intro pos js s Y H Q I h
 show wpAny _ _ (evalAll ((do let v <- eval e X.env;standAt pos;pure v)::(backToKw pos (keywordEach kws X.env)).map (·.2))) _ _ s
 refine wpAny_evalAll_cons (wpAny_bind (thn (ha js s Y H _ I h) fun u s1 ⟨x,H1,I1,r1,q1⟩=>wpAny_bind (wpAny_standAt (wpAny_pure ?_))))
 exact thn (hr pos js s1 Y H1 _ I1 q1) fun us s2 ⟨xs,H2,I2,r2,q2⟩=>⟨x::xs,H2,I2,.cons r1 r2,q2⟩
variable{g:List Value->List Value->List Value}{gV:List V->List V->List V}
end
structure fj(N P:List Str)(sc:Scope):Prop where
 kind:sc.kind=.function
 co:sc.isCoroutine=false
 gen:sc.isGenerator=false
 nd:N.Nodup
 pre:N.take P.length=P
 par:∀x∈P,sc.names.lookup x=some .local\/sc.names.lookup x=some .cell
 nofree:∀y∈sc.names,y.2≠.free
def oj{kindOf:Str->Option NameKind}{x:Str}:∀{binds:List (Str×Value)}{m:Str->Option Value},(∀v,(x,v)∉ binds)->bindL kindOf binds m x=m x
 | [],_,_=>rfl
 |(n,v)::r,m,h=>by
  unfold bindL
  rw[oj fun w hw=>h w (List.mem_cons_of_mem _ hw)]
  split
  ·have:x≠n:=by rintro rfl;exact h v List.mem_cons_self
   simp[this]
  ·rfl
def on{kindOf:Str->Option NameKind}{x:Str}:∀{binds:List (Str×Value)}{m:Str->Option Value},(∀v,(x,v)∉ binds)->bindC kindOf binds m x=m x
 | [],_,_=>rfl
 |(n,v)::r,m,h=>by
  unfold bindC
  rw[on fun w hw=>h w (List.mem_cons_of_mem _ hw)]
  split
  ·rfl
  ·have:x≠n:=by rintro rfl;exact h v List.mem_cons_self
   simp[this]
def om{kindOf:Str->Option NameKind}{x:Str}{v:Value}:∀{P:List Str}{vs:List Value}{i:Nat}{m:Str->Option Value},P.Nodup->P[i]?=some x->vs[i]?=some v->kindOf x=some .local ->
  bindL kindOf (P.zip vs) m x=some v
 | [],_,_,_,_,h,_,_ | _::_,[],_,_,_,_,h,_=>by simp at h
 | p::P,w::vs,0,m,nd,h1,h2,hk=>by
  simp at h1 h2;subst h1;subst h2
  show bindL kindOf ((p,w)::P.zip vs) m p=_
  unfold bindL
  rw[oj fun v hv=>(List.nodup_cons.mp nd).1 (List.of_mem_zip hv).1,if_pos hk]
  simp
 | p::P,w::vs,i+1,m,nd,h1,h2,hk=>by
  show bindL kindOf ((p,w)::P.zip vs) m x=_
  unfold bindL
  exact om (i:=i) (List.nodup_cons.mp nd).2 (by simpa using h1) (by simpa using h2) hk
def oq{kindOf:Str->Option NameKind}{x:Str}{v:Value}:∀{P:List Str}{vs:List Value}{i:Nat}{m:Str->Option Value},P.Nodup->P[i]?=some x->vs[i]?=some v->kindOf x≠some .local ->
  bindC kindOf (P.zip vs) m x=some v
 | [],_,_,_,_,h,_,_ | _::_,[],_,_,_,_,h,_=>by simp at h
 | p::P,w::vs,0,m,nd,h1,h2,hk=>by
  simp at h1 h2;subst h1;subst h2
  show bindC kindOf ((p,w)::P.zip vs) m p=_
  unfold bindC
  rw[on fun v hv=>(List.nodup_cons.mp nd).1 (List.of_mem_zip hv).1,if_neg hk]
  simp
 | p::P,w::vs,i+1,m,nd,h1,h2,hk=>by
  show bindC kindOf ((p,w)::P.zip vs) m x=_
  unfold bindC
  exact oq (i:=i) (List.nodup_cons.mp nd).2 (by simpa using h1) (by simpa using h2) hk
def start(N:List Str)(vs:List V):St:=vs.map some++List.replicate (N.length - vs.length) none
def fK(CX:CXT)(P:Program)(w:World)(K:PySem.W.Frag)(mg:Str->Option Value)(base:Heap)(N:List Str)(qual:Str)(scope:Scope)(f:Addr)(cd:Value)(A:Around)(outer:List Env)(s:Shared)(H:Hp)(E:XK):Cx where
 prog:=P
 w:=w
 K:=K
 mg:=mg
 base:=base
 A:=A.deeper (envOfC qual scope s.heap.objs.size f cd)
 N:=N
 s₀:=s
 H₀:=H
 env:=envOfC qual scope s.heap.objs.size f cd
 outer:=outer
 stack:=envOfC qual scope s.heap.objs.size f cd::outer
 ex:=[]
 calm:=true
 fn:=fun _=>true
 pn:=[]
 xe:=fun e s'=>wpAny (model P w) (A.deeper (envOfC qual scope s.heap.objs.size f cd)) (leaving (envOfC qual scope s.heap.objs.size f cd) e) (fun _ s''=>CX outer H s E e s'') (fun e' s''=>CX outer H s E e' s'') s'
def qL{sc:Scope}{n:Nat}{x:Str}(h:sc.names.lookup x=some .cell):∃c,(cellsFrom n sc.names []).lookup x=some c:=by
 have q:=PySem.W.cellsFrom_some sc.names n [] (.inl h)
 exact Option.isSome_iff_exists.mp q
def vg{CX:CXT}{P:Program}{w:World}{K:PySem.W.Frag}{mg:Str->Option Value}{base:Heap}{N ps:List Str}{qual:Str}{scope:Scope}{f:Addr}{cd:Value}{A:Around}{outer:List Env}{s s1:Shared}{H:Hp}{E:XK}{us:List Value}{vs:List V}
  (S:fj N ps scope) (hd:A.handled=none) (e0:sK P w K mg base A outer s H) (hl:vs.length=ps.length) (r:aP vs us)
  (x:InCallC s s.heap.objs.size (bindL (envOfC qual scope s.heap.objs.size f cd).kindOf (ps.zip us) fun _=>none) (cellsFrom (s.heap.objs.size+1) scope.names []) (bindC (envOfC qual scope s.heap.objs.size f cd).kindOf (ps.zip us) fun _=>none) s1) :
  Inv (fK CX P w K mg base N qual scope f cd A outer s H E) [] (start N vs) H s1:=by
 have hpl:ps.length<=N.length:=by have:=congrArg List.length S.pre;rw[List.length_take]at this;omega
 obtain⟨h1,tk,rfl,hk⟩:=x.done
 have noA:∀b:Addr,b ∉(fK CX P w K mg base N qual scope f cd A outer s H E).ex:=fun b z=>absurd (show b ∈([]:List Addr)from z) (by simp)
 refine ⟨⟨e0.mod,S.kind,rfl,rfl,Nat.le_refl _,fun y z c h1 h2=>?_,fun y hy=>?_,fun y c _ h=>?_,fun _=>hd,Around.frames_deeper e0.frames,.inr ⟨rfl,rfl⟩,fun b z=>absurd z (noA b),e0.bs,e0.bsz,fun b _ _=>noA b,fun b z=>absurd z (noA b),e0.funs,e0.frf⟩,
  rfl,e0.bare,Un.kept hk,⟨_,x.toInCall.ns,fun i y v h1 h2 h3=>?_⟩,fun y c h=>⟨_,x.cell y c h⟩,e0.hok.fresh (Nat.le_refl _),fun y c h=>?_,fun p hp=>absurd (show p ∈([]:List (Addr×Obj))from hp) (by simp),e0.hok.kept hk,?_⟩
 ·exact name_of_addr x.apart (PySem.mem_of_lookup h1) (PySem.mem_of_lookup h2)
 ·have hy:scope.names.lookup y=some .cell\/scope.names.lookup y=some .free:=hy
  rcases hy with hy | hy
  ·exact qL hy
  ·exact absurd rfl (S.nofree _ (PySem.mem_of_lookup hy))
 ·exact Nat.le_of_lt (x.above y c (PySem.mem_of_lookup h))
 ·have hi:i < vs.length:=by
   unfold start at h2
   by_cases hi:i < vs.length
   ·exact hi
   ·rw[List.getElem?_append_right (by simpa using hi)]at h2
    rw[List.getElem?_replicate]at h2
    split at h2<;>cases h2
  have ha:vs[i]?=some v:=by
   unfold start at h2
   rw[List.getElem?_append_left (by simpa using hi),List.getElem?_map]at h2
   cases e:vs[i]? with
   | none=>rw[e]at h2;cases h2
   | some a=>rw[e]at h2;cases h2;rfl
  obtain⟨u,hu,rv⟩:=r.get ha
  have hp:ps[i]?=some y:=by
   rw[<- S.pre,List.getElem?_take_of_lt (by omega)];exact h1
  have ndP:ps.Nodup:=by rw[<- S.pre];exact S.nd.sublist (List.take_sublist _ _)
  refine⟨u,rv,?_⟩
  rcases S.par y (List.mem_of_getElem? hp)with k | k
  ·exact .inl ⟨k,om ndP hp hu k⟩
  ·obtain⟨c,e⟩:=qL (n:=s.heap.objs.size+1) k
   refine .inr ⟨.inl k,c,e,?_⟩
   have q:=x.cell y c e
   rw[oq ndP hp hu (by show scope.names.lookup y≠_;rw[k];decide)]at q
   exact q
 ·exact e0.hok.fresh (Nat.le_of_lt (x.above y c (PySem.mem_of_lookup h)))
 ·unfold start
  show _=N.length
  rw[List.length_append,List.length_map,List.length_replicate]
  omega
def BX{CX:CXT}{P:Program}{w:World}{K:PySem.W.Frag}{mg:Str->Option Value}{base:Heap}{k:Nat}{f:Addr}{name qual:Str}{params:Arguments}{body:List Stmt}{scope:Scope}{dV kV doc pm cdv ct oc:Value}{an od:Option Addr}
  {osl:Array (Option Value)}{N ps:List Str}{sp:Sp} (lk:K.lookup f=some ⟨oc,od,.func (PySem.W.fnOf name qual params body scope dV kV doc pm an cdv ct),osl⟩) (hcd:PySem.W.codeIn K cdv qual=true) (S:fj N ps scope)
  (len:∀vs H Q E,sp vs H Q E->vs.length=ps.length)
  (hbody:∀ (A:Around) (outer:List Env) (s:Shared) (H:Hp) (vs:List V) (Q:VK) (E:XK),eH k (A.deeper (envOfC qual scope s.heap.objs.size f cdv))->sp vs H Q E ->
   ∃t,PSs (fK CX P w K mg base N qual scope f cdv A outer s H E) body t/\t { nx:=fun _ H'=>Q .non H',rt:=Q } (start N vs) H) :
  dA P w K mg base CX (k+1) f (PySem.W.fnOf name qual params body scope dV kV doc pm an cdv ct) ps sp:=by
 refine⟨len,fun A outer s H args us vs Q E hr e0 hb r hsp=>?_⟩
 have hl:=len _ _ _ _ hsp
 have KX:K.In s.heap:=e0.mod.kin.keeps fun b o e=>(e0.bs b o e).1
 have lim:s.heap.NoLimit:=e0.mod.nolimit.keeps fun b o e=>(e0.bs b o e).1
 have hkind:∀y∈ps.zip us,scope.names.lookup y.1=some .local \/(scope.names.lookup y.1=some .cell/\((cellsFrom (s.heap.objs.size+1) scope.names []).lookup y.1).isSome=true):=fun hz1 hy=>by
  obtain⟨n,v⟩:=hz1
  rcases S.par n (List.of_mem_zip hy).1 with q | q
  ·exact .inl q
  ·exact .inr ⟨q,PySem.W.cellsFrom_some _ _ _ (.inl q)⟩
 refine codeAny_call_function hr.depth (KX _ _ lk) rfl S.co S.gen rfl (PySem.W.codeRec_of KX hcd) (hb _ _ _ _ ?_)
 refine wpAny_newFunctionEnv_cells S.kind hkind fun env he s1 x=>?_
 subst he
 refine⟨lim.keeps x.toInCall.keep,codeAny_func ?_⟩
 obtain⟨t,ht,hq⟩:=hbody A outer s H vs Q E (hr.deeper _) hsp
 have I:Inv (fK CX P w K mg base N qual scope f cdv A outer s H E) [] (start N vs) H s1:=vg S hr.hd e0 hl r x
 refine wpAny_mono (ht [] s1 (start N vs) H _ I hq) (fun fl s' hs=>?_) fun e s' hs=>hs
 have fin:∀{σ':St}{H':Hp}{v:V}{u:Value},Inv (fK CX P w K mg base N qual scope f cdv A outer s H E) [] σ' H' s'->bu v u->Q v H'->CE outer P w H s Q u s' :=
  fun {σ' H' v u} J rv q=>⟨v,H',J.os,J.bare,J.base,J.hok,rv,q⟩
 cases fl with
 | ret u =>
  obtain⟨v,σ',H',J,rv,q⟩:=hs
  exact fin J rv q
 | next =>
  obtain⟨σ',H',J,q⟩:=hs
  exact fin (v:=V.non) (u:=Value.none) J rfl q
 | brk =>
  obtain⟨_,_,_,q⟩:=hs
  exact False.elim q
 | cont =>
  obtain⟨_,_,_,q⟩:=hs
  exact False.elim q
end L2
namespace L2
open PySem PySem.Spec PyProof.Rows
section
variable{X:Cx}{x:Str}{p pos:Pos}{e:Expr}{es:List Expr}{t:TA}{id T:String}{r:List V->Hp->VK->Prop}
def tCB(r:List V->Hp->VK->Prop)(t:TA):TE:=fun Y H Q=>t Y H fun vs H1=>r vs H1 Q
def lP(hc:eZ X (.builtin id) r)(hg:Gl X x)(hm:X.mg x=none)(hv:bootBuiltins x=some (.builtin id))(ha:PA X (e::es) t)(hn:x≠"__name__" := by decide)(hdb:(x ==("__debug__" : Str))=false:=by decide)
  (he:starEach (e::es) X.env=(false,eval e X.env)::starEach es X.env:=by rfl) (hpl:(backTo pos (starEach es X.env)).any (·.1)=false:=by rfl):PE X (.Call (.Name x p) (e::es) [] pos) (tCB r t):=by
 intro js s Y H Q I h
 refine wpAny_Call_Name_kw (gS I hg hm hv ?_ hn hdb)
 exact PyProof.Rows.callWith_builtin1 (thn (ha pos js s Y H _ I h) fun us s1 ⟨vs,H1,I1,r1,q1⟩=>hc js s1 Y H1 vs us Q I1 r1 q1) he hpl
def km(hc:eZ X (.type T) r)(hg:Gl X x)(hm:X.mg x=none)(hv:bootBuiltins x=some (.type T))(ha:PA X (e::es) t)(hn:x≠"__name__" := by decide)(hdb:(x ==("__debug__" : Str))=false:=by decide)
  (he:starEach (e::es) X.env=(false,eval e X.env)::starEach es X.env:=by rfl) (hpl:(backTo pos (starEach es X.env)).any (·.1)=false:=by rfl):PE X (.Call (.Name x p) (e::es) [] pos) (tCB r t):=by
 intro js s Y H Q I h
 refine wpAny_Call_Name_kw (gS I hg hm hv ?_ hn hdb)
 exact PyProof.Rows.callWith_type1 (thn (ha pos js s Y H _ I h) fun us s1 ⟨vs,H1,I1,r1,q1⟩=>hc js s1 Y H1 vs us Q I1 r1 q1) he hpl
end
end L2
namespace HT
open PySem PyProof.Rows
def lexLt:List Int->List Int->Bool
 | [],[]=>false
 | [],_::_=>true
 | _::_,[]=>false
 | x::xs,y::ys=>if x=y then lexLt xs ys else decide (x < y)
def si(x y:Int)(xs ys:List Int):lexLt (x::xs) (y::ys)=if x=y then lexLt xs ys else decide (x < y):=rfl
def m9:lexLt [] []=false:=rfl
def l8(y:Int)(ys:List Int):lexLt [] (y::ys)=true:=rfl
def l9(x:Int)(xs:List Int):lexLt (x::xs) []=false:=rfl
def yH(A:Around)(s:Shared)(a:Int)(t:Tok)(c:Int)(u:Tok):∃e,SeqAt.EqAt A s (.int a t) (.int c u) e/\(e=true↔a=c) :=
 ⟨(a==c),SeqAt.EqAt.int_int a t c u,by simp⟩
def wt(A:Around)(s:Shared)(a:Int)(t:Tok)(c:Int)(u:Tok)(prog:Program)(w:World)(E:Value->Shared->Prop)(Q:Value->Shared->Prop)(h:Q (.bool (decide (a < c))) s) :
  wpAny (model prog w) A (richCompare .Lt (.int a t) (.int c u)) Q E s :=
 (PyProof.Rows.lt_int h:wpAny (model prog w) A (compareOp .Lt (.int a t) (.int c u)) Q E s)
section
open PySem.SeqAt
open PySem.AutoSeq1 (wpAny_loadPart')
open PySem.MeetsSeq PySem.MeetsSeq2 PySem.MeetsSeq3
def m4(l b:Addr)(items items2:Array Value)(n n2:Nat)(dd dd2:Option Addr)(sl sl2:Array (Option Value))(ns ms:List Int)(hi:IntsAre items.toList ns)(hj:IntsAre items2.toList ms) :
  Meets (Builtin.«tuple.__lt__» ⟨[.ref l,.ref b],[]⟩)
   (fun _ R s=>s.heap.get? l=some { cls:=.type "tuple", dict:=dd,data:=.seq items n,slots:=sl }/\s.heap.get? b=some { cls:=.type "tuple", dict:=dd2,data:=.seq items2 n2,slots:=sl2 } /\
    R (.ok (.ret (.bool (lexLt ns ms)))) s) :=
 .of_wp fun prog w A R s h=>by
  obtain⟨hp,g,d,tk,os⟩:=s;obtain⟨hl,hb,h⟩:=h
  have f2:=AutoSeq1.sub_tuple_tuple
  have z1:items.size=ns.length:=by rw[<- hi.length];simp
  have z2:items2.size=ms.length:=by rw[<- hj.length];simp
  wp_walk using wpAny_loadPart' hl,wpAny_loadPart' hb,wpAny_forIn_list _ (fun bF b s'=>b.1=none/\s'=⟨hp,g,d,tk,os⟩/\∃ (vs ws:List Value) (ns' ms':List Int),bF=vs.zip ws /\
   IntsAre vs ns'/\IntsAre ws ms'/\ns'.length+items2.size=ms'.length+items.size/\R (.ok (.ret (.bool (lexLt ns' ms')))) ⟨hp,g,d,tk,os⟩) _
  case turn =>
   rintro⟨y,x⟩ bF b s' ⟨hb',rfl,vs,ws,ns',ms',hz,hvi,hwi,hlen,hR⟩
   cases hvi with
   | nil=>rw[List.zip_nil_left]at hz;cases hz
   | cons a t hvi' =>
    cases hwi with
    | nil=>rw[List.zip_nil_right]at hz;cases hz
    | cons c u hwi' =>
     rw[List.zip_cons_cons]at hz
     injection hz with hyx hrest
     injection hyx with hy hx
     subst hy hx
     rw[si]at hR
     simp only[List.length_cons]at hlen
     obtain⟨e,he,hiff⟩:=yH A.in1 ⟨hp,g,d,tk,os⟩ a t c u
     refine wpAny_bind (he prog w _ _ ?_)
     cases e with
     | true =>
      rw[if_pos (hiff.mp rfl)]at hR
      wp_walk
      exact⟨rfl,rfl,_,_,_,_,hrest,hvi',hwi',by omega,hR⟩
     | false =>
      rw[if_neg (fun q=>absurd (hiff.mpr q) Bool.false_ne_true)]at hR
      have hri:=wt A.in1 ⟨hp,g,d,tk,os⟩ a t c u prog w
      wp_walk using hri
      exact⟨_,rfl,by simpa using hR⟩
  case fin =>
   rintro⟨b1,b2⟩ s' ⟨hb',rfl,vs,ws,ns',ms',hz,hvi,hwi,hlen,hR⟩
   simp only at hb'
   subst hb'
   have hv:lexLt ns' ms'=decide (items.size < items2.size):=by
    cases hvi with
    | nil =>
     cases hwi with
     | nil =>
      simp only[List.length_nil]at hlen
      rw[m9]
      exact(decide_eq_false (by omega)).symm
     | cons c u hw =>
      simp only[List.length_nil,List.length_cons]at hlen
      rw[l8]
      exact(decide_eq_true (by omega)).symm
    | cons a t hv =>
     cases hwi with
     | nil =>
      simp only[List.length_nil,List.length_cons]at hlen
      rw[l9]
      exact(decide_eq_false (by omega)).symm
     | cons c u hw =>
      rw[List.zip_cons_cons]at hz
      cases hz
   rw[hv]at hR
   wp_walk
   exact⟨_,rfl,by simpa[Builtin.Tuple.tupleCompareSizes]using hR⟩
  case h =>
   exact⟨rfl,rfl,items.toList,items2.toList,ns,ms,rfl,hi,hj,by omega,h⟩
end
section
variable{prog:Program}{w:World}{A:Around}{E:Value->Shared->Prop}{s:Shared}
def lt_tupInts{l b:Addr}{items items2:Array Value}{ns ms:List Int}{Q:Value->Shared->Prop}(hl:IsTup s.heap l items)(hb:IsTup s.heap b items2)(hi:IntsAre items.toList ns)(hj:IntsAre items2.toList ms)
  (hu:A.units < cLine) (h:Q (.bool (lexLt ns ms)) s):wpAny (model prog w) A (compareOp .Lt (.ref l) (.ref b)) Q E s:=by
 obtain⟨⟨cls,dd,data,sl⟩,ho,hc,n,hd⟩:=id hl
 obtain⟨⟨cls2,dd2,data2,sl2⟩,ho2,hc2,n2,hd2⟩:=id hb
 simp only at hc hd hc2 hd2
 subst hc hd hc2 hd2
 exact richCompare_meets_room (op:=.Lt) ⟨_,ho,rfl⟩ ⟨_,ho2,rfl⟩ PySem.F.slot_tuple_lt PySem.F.entry_tuple_lt (PySem.F.args_tuple_lt_2 _ _) (m4 l b items items2 n n2 dd dd2 sl sl2 ns ms hi hj)
  ⟨ho,ho2,show Value.bool (lexLt ns ms)≠ Value.notImplemented/\Q (.bool (lexLt ns ms)) s from⟨(fun x=>nomatch x),h⟩⟩ hu
def sIx(n d:Nat):Option Int->Nat
 | none=>d
 | some v=>if v < 0 then(v+(n:Int)).toNat else min v.toNat n
def sIx_none(n d:Nat):sIx n d none=d:=rfl
def sIx_nat(n d k:Nat):sIx n d (some (k:Int))=min k n:=by
 show(if(k:Int) < 0 then((k:Int)+(n:Int)).toNat else min (k:Int).toNat n)=min k n
 rw[if_neg (by omega),Int.toNat_natCast]
end
end HT
namespace L2
open PySem PySem.Spec PyProof.Rows
abbrev TO:=St->Hp->(Option Int->Hp->Prop)->Prop
def PO(X:Cx)(e:Option Expr)(t:TO):Prop :=
 ∀(js:List (Addr×Obj)) (s:Shared) (Y:St) (H:Hp) (Q:Option Int->Hp->Prop),Inv X js Y H s->t Y H Q ->
  wpAny (model X.prog X.w) X.A (evalPart e X.env) (fun u s'=>∃o H',Inv X js Y H' s'/\IsPart u o/\Q o H') X.xe s
def zU:TO:=fun _ H Q=>Q none H
def Fu(t:TE):TO:=fun Y H Q=>t Y H fun x H1=>∃i,x=.int i/\Q (some i) H1
def my{ns:List Int}:∀{us:List Value},aP (ns.map V.int) us->IntsAre us ns:=by
 induction ns with
 | nil=>intro us r;rw[List.map_nil]at r;cases r;exact .nil
 | cons n ns ih =>
  intro us r
  rw[List.map_cons]at r
  cases r with
  | cons r1 r2 =>
   obtain⟨t,e⟩:=r1
   subst e
   exact .cons n t (ih r2)
section
variable{X:Cx}{e:Expr}{te:TE}{lo hi:Option Expr}{tl th:TO}{pos p2:Pos}
def Az:PO X none zU:=by
 intro js s Y H Q I h
 rw[evalPart_none]
 exact wpAny_pure ⟨none,H,I,.none,h⟩
def Ay(h:PE X e te):PO X (some e) (Fu te):=by
 intro js s Y H Q I hw
 rw[evalPart_some]
 refine thn (h js s Y H _ I hw) fun u s1 hz1=>?_
 obtain⟨x,H1,I1,r1,q1⟩:=hz1
 obtain⟨i,rfl,q⟩:=q1
 obtain⟨t,rfl⟩:=r1
 exact⟨some i,H1,I1,.int i t,q⟩
def SlR(X:Cx)(r:V->Option Int->Option Int->Hp->VK->Prop):Prop :=
 ∀(js:List (Addr×Obj)) (s:Shared) (Y:St) (H:Hp) (x:V) (v vl vu:Value) (lo hi:Option Int) (sl:Addr) (Q:VK),Inv X js Y H s->bu x v->s.heap.IsSliceOf sl vl vu .none->IsPart vl lo->IsPart vu hi->r x lo hi H Q ->
  ∃T id,typeLookup (.type T) "__getitem__" = pure (some (.builtin id))/\s.TypeIs v T/\wpAny (model X.prog X.w) X.A (getItem v (.ref sl)) (EP X js Y Q) X.xe s
def tSl(r:V->Option Int->Option Int->Hp->VK->Prop)(te:TE)(tl th:TO):TE:=fun Y H Q=>te Y H fun x H1=>tl Y H1 fun l H2=>th Y H2 fun u H3=>r x l u H3 Q
def wL{r:V->Option Int->Option Int->Hp->VK->Prop}(hr:SlR X r)(he:PE X e te)(hl:PO X lo tl)(hu:PO X hi th):PE X (.Subscript e (.Slice lo hi none p2) pos) (tSl r te tl th):=by
 intro js s Y H Q I h
 refine Subscript_ (thn (he js s Y H _ I h) fun v s1 ⟨x,H1,I1,r1,q1⟩=>?_)
 refine wpAny_Slice (thn (hl js s1 Y H1 _ I1 q1) fun vl s2 ⟨l,H2,I2,pl,q2⟩=>thn (hu js s2 Y H2 _ I2 q2) fun vu s3 ⟨u,H3,I3,pu,q3⟩=>?_)
 rw[evalPart_none]
 refine wpAny_pure ?_
 have I4:Inv X js Y H3 { s3 with heap:=s3.heap.push { cls:=.type "slice", data:=.fields #[vl,vu,.none] } }:=I3.kept (t':=s3.toks) fun b ob q=>Heap.get?_push_of_some _ q
 obtain⟨T,id,hT,ht,hg⟩:=hr js { s3 with heap:=s3.heap.push { cls:=.type "slice", data:=.fields #[vl,vu,.none] } } Y H3 x v vl vu l u s3.heap.objs.size Q I4 r1 (Heap.IsSliceOf.new ..) pl pu q3
 show wpAny (model X.prog X.w) X.A (subscriptTail e (.Slice lo hi none p2) v (.ref s3.heap.objs.size)) (EP X js Y Q) X.xe { s3 with heap:=s3.heap.push { cls:=.type "slice", data:=.fields #[vl,vu,.none] } }
 exact tail_any (ops:=[.ref s3.heap.objs.size,v]) ht hT hg (by with_unfolding_all rfl)
def yP(xs:List V)(lo hi:Option Int):List V:=(xs.drop (HT.sIx xs.length 0 lo)).take (HT.sIx xs.length xs.length hi - HT.sIx xs.length 0 lo)
def qJ(xs:List V)(lo hi:Option Int):(yP xs lo hi).length<=xs.length:=by
 unfold yP
 rw[List.length_take,List.length_drop]
 omega
def FH(K:PySem.W.Frag):R2:=fun x y H Q=>∃a b ns ms,x=.ref a/\y=.ref b/\SqT K H a (ns.map V.int)/\SqT K H b (ms.map V.int)/\Q (.bl (HT.lexLt ns ms)) H
def CW(hu:X.A.units < cLine):OpR X (compareOp .Lt) (FH X.K):=by
 intro js s Y H x y v u Q I rx ry h
 obtain⟨a,b,ns,ms,rfl,rfl,ha,hb,q⟩:=h
 cases rx
 cases ry
 obtain⟨its,r1,p1,_⟩:=I.tuple ha
 obtain⟨its2,r2,p2,_⟩:=I.tuple hb
 have i1:IntsAre its.toArray.toList ns:=my r1
 have i2:IntsAre its2.toArray.toList ms:=my r2
 exact HT.lt_tupInts p1 p2 i1 i2 hu ⟨.bl (HT.lexLt ns ms),H,I,rfl,q⟩
end
end L2
namespace L2
open PySem PySem.Spec PyProof.Rows
def ixN(n:Nat)(i:Int):Option Nat:=if 0<=i then(if i < n then some i.toNat else none)else if -(n:Int)<= i then some (i+n).toNat else none
def atI{α:Type}(xs:List α)(i:Int):Option α:=(ixN xs.length i).bind fun j=>xs[j]?
def t3{n:Nat}{i:Int}{j:Nat}(h:ixN n i=some j):seqIndex? i n=some j/\j < n/\-(n:Int)<= i/\i < n:=by
 unfold ixN at h
 by_cases h0:0<=i
 ·rw[if_pos h0]at h
  by_cases h1:i < n
  ·rw[if_pos h1]at h
   have e:i.toNat=j:=Option.some.inj h
   exact⟨by rw[seqIndex_of h0 h1,e],by omega,by omega,h1⟩
  ·rw[if_neg h1]at h;cases h
 ·rw[if_neg h0]at h
  by_cases h1:-(n:Int)<= i
  ·rw[if_pos h1]at h
   have e:(i+n).toNat=j:=Option.some.inj h
   exact⟨by rw[seqIndex_neg (by omega) h1,e],by omega,h1,by omega⟩
  ·rw[if_neg h1]at h;cases h
def pB{α:Type}{xs:List α}{i:Int}{v:α}(h:atI xs i=some v):∃j,seqIndex? i xs.length=some j/\xs[j]?=some v/\j < xs.length/\-(xs.length:Int)<= i/\i < xs.length:=by
 unfold atI at h
 cases e:ixN xs.length i with
 | none=>rw[e]at h;cases h
 | some j =>
  rw[e]at h
  obtain⟨h1,h2,h3,h4⟩:=t3 e
  exact⟨j,h1,h,h2,h3,h4⟩
def atI_last{α:Type}(xs:List α)(v:α):atI (xs++[v]) (-1)=some v:=by
 have hl:(xs++[v]).length=xs.length+1:=by simp
 have e:ixN (xs++[v]).length (-1)=some xs.length:=by
  unfold ixN
  rw[hl,if_neg (by decide),if_pos (by omega)]
  congr 1
  omega
 unfold atI
 rw[e]
 show(xs++[v])[xs.length]?=some v
 simp
def i8(b:Expr):Prop:=∀o i,subscripted b false o i=operate [o,i] (getItem o i)
def IxR(X:Cx)(r:R2):Prop :=
 ∀(value slice:Expr) (js:List (Addr×Obj)) (s:Shared) (Y:St) (H:Hp) (x y:V) (v u:Value) (Q:VK),Inv X js Y H s->bu x v->bu y u->r x y H Q ->
  subscripted slice false v u=operate [v,u] (getItem v u)->wpAny (model X.prog X.w) X.A (subscriptTail value slice v u) (EP X js Y Q) X.xe s
def MtR(X:Cx)(id:String)(r:V->List V->Hp->VK->Prop):Prop :=
 ∀(js:List (Addr×Obj)) (s:Shared) (Y:St) (H:Hp) (x:V) (xs:List V) (v:Value) (us:List Value) (Q:VK),Inv X js Y H s->bu x v->aP xs us->r x xs H Q ->
  wpAny (model X.prog X.w) X.A (call (.builtin id) (v::us)) (EP X js Y Q) X.xe s
section
variable{X:Cx}{a b:Expr}{ta tb:TE}{pos:Pos}
def IxR.or{r r':R2}(h:IxR X r)(h':IxR X r'):IxR X (fun x y H Q=>r x y H Q\/r' x y H Q):=by
 intro value slice js s Y H x y v u Q I rx ry q hs
 rcases q with q | q
 ·exact h value slice js s Y H x y v u Q I rx ry q hs
 ·exact h' value slice js s Y H x y v u Q I rx ry q hs
def wN{r:R2}(hr:IxR X r)(ha:PE X a ta)(hb:PE X b tb)(hs:i8 b):PE X (.Subscript a b pos) (tOp r ta tb):=by
 intro js s Y H Q I h
 exact Subscript_ (Ej ha hb I h fun v u s2 x y H2 I2 rx ry q=>hr a b js s2 Y H2 x y v u Q I2 rx ry q (hs _ _))
def Cw(K:PySem.W.Frag):R2:=fun x y H Q=>∃p xs i v,x=.ref p/\y=.int i/\SqL K H p xs/\atI xs i=some v/\Q v H
def Cu(K:PySem.W.Frag):R2:=fun x y H Q=>∃p xs i v,x=.ref p/\y=.int i/\SqT K H p xs/\atI xs i=some v/\Q v H
def Cv:R2:=fun x y H Q=>∃z i c,x=.str z/\y=.int i/\z.length<=sizeLine/\atI z.cps.toList i=some c/\Q (.str ⟨#[c]⟩) H
def A8:IxR X (Cw X.K):=by
 intro value slice js s Y H x y v u Q I rx ry h hs
 obtain⟨p,xs,i,z,rfl,rfl,hq,he,q⟩:=h
 cases rx
 obtain⟨t,rfl⟩:=ry
 obtain⟨its,r,pl,hz⟩:=I.list hq
 obtain⟨j,h1,h2,h3,h4,h5⟩:=pB he
 obtain⟨w,ew,rw'⟩:=r.get h2
 have hl:=r.length
 have hn:=ku
 have fin:EP X js Y Q w s:=⟨z,H,I,rw',q⟩
 by_cases h0:0<=i
 ·have hj:i.toNat=j:=by
   rw[seqIndex_of h0 h5]at h1
   exact Option.some.inj h1
  exact item_listR pl.isList h0 (by omega) (by rw[hj];simpa using ew) fin hs
 ·have hj:(i+(its.toArray.size:Int)).toNat=j:=by
   rw[seqIndex_neg (by omega) h4]at h1
   rw[List.size_toArray,<- hl]
   exact Option.some.inj h1
  exact subscriptTail_builtinR (x:=w) pl.isList.typeIs slot_list_getitem.lookup
   (wpAny_getItem_list_neg (Q:=fun r s'=>r=w/\EP X js Y Q r s') pl.isList (by omega) (by rw[List.size_toArray]<;>omega) (by omega) (by rw[hj];simpa using ew) ⟨rfl,fin⟩) hs
def DK:IxR X (Cu X.K):=by
 intro value slice js s Y H x y v u Q I rx ry h hs
 obtain⟨p,xs,i,z,rfl,rfl,hq,he,q⟩:=h
 cases rx
 obtain⟨t,rfl⟩:=ry
 obtain⟨its,r,pl,hz⟩:=I.tuple hq
 obtain⟨j,h1,h2,h3,h4,h5⟩:=pB he
 obtain⟨w,ew,rw'⟩:=r.get h2
 have hl:=r.length
 have hn:=ku
 have fin:EP X js Y Q w s:=⟨z,H,I,rw',q⟩
 exact subscriptTail_builtinR (x:=w) pl.typeIs slot_tuple_getitem.lookup
  (getItem_tuple (j:=j) (Q:=fun r s'=>r=w/\EP X js Y Q r s') pl (by omega) (by omega) (by rw[List.size_toArray,<- hl];exact h1) (by simpa using ew) ⟨rfl,fin⟩) hs
def DL:IxR X Cv:=by
 intro value slice js s Y H x y v u Q I rx ry h hs
 obtain⟨z,i,c,rfl,rfl,hz,he,q⟩:=h
 obtain⟨t,rfl⟩:=rx
 obtain⟨t',rfl⟩:=ry
 obtain⟨j,h1,h2,h3,h4,h5⟩:=pB he
 have hl:z.cps.toList.length=z.length:=by simp[Str.length]
 rw[hl]at h1 h4 h5
 have hn:=ku
 exact tail_any (typeIs_str s z t) slot_str_getitem.lookup (getItem_str (c:=c) (by
  have e1:decide (i < -(2 ^ 63:Int))=false:=decide_eq_false (by omega)
  have e2:decide (i >= 2 ^ 63)=false:=decide_eq_false (by omega)
  rw[e1,e2,Bool.or_false]) (by rw[h1];simpa using h2) ⟨.str ⟨#[c]⟩,H,I.tok _,⟨_,rfl⟩,q⟩) hs
def rIx(K:PySem.W.Frag):R2:=fun x y H Q=>Cw K x y H Q\/Cu K x y H Q\/Cv x y H Q
def sk:IxR X (rIx X.K):=A8.or (DK.or DL)
def sd(its:List Value)(n j:Nat)(u:Value):Obj.mapSeq (·.setIfInBounds j u) { cls:=.type "list", data:=.seq its.toArray n }={ cls:=.type "list", data:=.seq (its.set j u).toArray n }:=by
 simp[Obj.mapSeq]
def Inv.lst{js:List (Addr×Obj)}{Y:St}{H:Hp}{s:Shared}{p:Addr}{xs:List V}(I:Inv X js Y H s)(h:H p=some (.lst xs)) :
  ∃(its:List Value) (n:Nat),aP xs its/\s.heap.get? p=some { cls:=.type "list", data:=.seq its.toArray n }/\xs.length<=sizeLine:=by
 obtain⟨z,its,n,r,e⟩:=I.hok p _ h
 exact⟨its,n,r,e,z⟩
def Inv.lstUpd{js:List (Addr×Obj)}{Y:St}{H:Hp}{s:Shared}{p:Addr}{xs ys:List V}{its its':List Value}{n n':Nat}{f:Obj->Obj}(I:Inv X js Y H s)(h:H p=some (.lst xs))
  (ho:s.heap.get? p=some { cls:=.type "list", data:=.seq its.toArray n }) (hf:f { cls:=.type "list", data:=.seq its.toArray n }={ cls:=.type "list", data:=.seq its'.toArray n' }) (r:aP ys its') (hz:ys.length<=sizeLine) (t:Nat) :
  Inv X js Y (upd H p (.lst ys)) { s with heap:=s.heap.update p f,toks:=t }:=by
 have e:(s.heap.update p f).get? p=some { cls:=.type "list", data:=.seq its'.toArray n' }:=by
  rw[Heap.get?_update_self f ho (by rw[hf]<;>rfl),hf]
 refine I.write (x:=p) (e:=p) (by rw[h];trivial) (.inl rfl) (fun b u hb q=>(Heap.get?_update_other _ _ (Ne.symm hb)).trans q) ⟨_,e⟩ ?_
 exact⟨hz,its',n',r,e⟩
def FG:V->V->V->Hp->(Hp->Prop)->Prop:=fun o i v H Q=>∃p xs k j,o=.ref p/\i=.int k/\H p=some (.lst xs)/\ixN xs.length k=some j/\Q (upd H p (.lst (xs.set j v)))
def wa:He X FG:=by
 intro js s Y H o i v ov iv u Q I ro ri rv h
 obtain⟨p,xs,k,j,rfl,rfl,hp,hj,q⟩:=h
 cases ro
 obtain⟨t,rfl⟩:=ri
 obtain⟨its,n,r,ho,hz⟩:=I.lst hp
 obtain⟨h1,h2,h3,h4⟩:=t3 hj
 have hl:=r.length
 have hn:=ku
 have I':Inv X js Y (upd H p (.lst (xs.set j v))) { s with heap:=s.heap.update p (Obj.mapSeq (·.setIfInBounds j u)) } :=
  I.lstUpd hp ho (sd its n j u) (r.set rv j) (by rw[List.length_set];exact hz) s.toks
 by_cases h0:0<=k
 ·have hk:k.toNat=j:=by
   rw[seqIndex_of h0 h4]at h1
   exact Option.some.inj h1
  exact PySem.W.ki_setAt ho h0 (by omega) (by rw[List.size_toArray,<- hl];exact h4) (by rw[hk];exact⟨_,I',q⟩)
 ·have hk:(k+(its.toArray.size:Int)).toNat=j:=by
   rw[seqIndex_neg (by omega) h3]at h1
   rw[List.size_toArray,<- hl]
   exact Option.some.inj h1
  exact PySem.W.ki_setBack ho (by omega) (by rw[List.size_toArray,<- hl];exact h3) (by omega) (by rw[hk];exact⟨_,I',q⟩)
def oz(lo hi:Option Int)(n:Nat):(sliceBounds lo hi none n).1=((HT.sIx n 0 lo:Nat):Int)/\(sliceBounds lo hi none n).2.1=((HT.sIx n n hi:Nat):Int)/\(sliceBounds lo hi none n).2.2=1:=by
 refine⟨?_,?_,rfl⟩
 ·cases lo with
  | none=>simp[sliceBounds,HT.sIx]
  | some i =>
   simp only[sliceBounds,HT.sIx,Option.getD_none,show(1:Int) > 0 by decide,if_true]
   by_cases h:i < 0
   ·simp only[h,if_true]<;>omega
   ·simp only[h,if_false]<;>omega
 ·cases hi with
  | none=>simp[sliceBounds,HT.sIx]
  | some i =>
   simp only[sliceBounds,HT.sIx,Option.getD_none,show(1:Int) > 0 by decide,if_true]
   by_cases h:i < 0
   ·simp only[h,if_true]<;>omega
   ·simp only[h,if_false]<;>omega
def m5(its:List Value)(lo hi:Option Int):slicePick its.toArray lo hi none=((its.drop (HT.sIx its.length 0 lo)).take (HT.sIx its.length its.length hi - HT.sIx its.length 0 lo)).toArray:=by
 obtain⟨h1,h2,h3⟩:=oz lo hi its.toArray.size
 unfold slicePick
 rw[h1,h2,h3]
 simp only[sliceRange_one,pick_run,List.size_toArray]<;>rfl
def HZ(K:PySem.W.Frag):V->Option Int->Option Int->Hp->VK->Prop:=fun x lo hi H Q=>∃a xs,x=.ref a/\SqL K H a xs/\∀p,H p=none->Q (.ref p) (upd H p (.lst (yP xs lo hi)))
def z6:SlR X (HZ X.K):=by
 intro js s Y H x v vl vu lo hi sl Q I rx hs pl pu h
 obtain⟨a,xs,rfl,hx,q⟩:=h
 cases rx
 obtain⟨its,r,ht,hz⟩:=I.list hx
 have hlen:=r.length
 refine⟨"list", _,slot_list_getitem.lookup,ht.isList.typeIs,?_⟩
 refine wpAny_getItem_list_slice ht.isList hs pl pu .none (by simp) ?_ (by rw[List.size_toArray]<;>omega)
 rw[m5,<- hlen]
 refine⟨.ref s.heap.objs.size,_,I.laid (t':=s.toks) (o:=.lst (yP xs lo hi)) (fun b ob q=>Heap.get?_push_of_some _ q) (Nat.le_refl _) ?_,rfl,q _ (I.hok.fresh (Nat.le_refl _))⟩
 exact⟨Nat.le_trans (qJ xs lo hi) hz,_,0,(r.drop (HT.sIx xs.length 0 lo)).take (HT.sIx xs.length xs.length hi - HT.sIx xs.length 0 lo),Heap.get?_push_size _ rfl⟩
def pq:eZ X (.builtin "len") (fun xs H Q=>∃p ys,xs=[.ref p]/\(SqL X.K H p ys\/SqT X.K H p ys)/\Q (.int ys.length) H):=by
 intro js s Y H xs us Q I r h
 obtain⟨p,ys,rfl,hq,q⟩:=h
 obtain⟨u,rfl,rx⟩:=fw r
 cases rx
 have hn:=ku
 rcases hq with hq | hq
 ·obtain⟨its,r',pl,hz⟩:=I.list hq
  have hlen:=r'.length
  exact Calls.call_len_list pl.isList (by simp only[List.size_toArray]<;>omega) ⟨.int ys.length,H,I.tok _,⟨s.toks+1,by rw[List.size_toArray,hlen]⟩,q⟩
 ·obtain⟨its,r',pl,hz⟩:=I.tuple hq
  have hlen:=r'.length
  exact len_tuple pl (by simp only[List.size_toArray]<;>omega) ⟨.int ys.length,H,I.tok _,⟨s.toks+1,by rw[List.size_toArray,hlen]⟩,q⟩
def pp:eZ X (.type "list") (fun xs H Q=>∃p ys,xs=[.ref p]/\(SqL X.K H p ys\/SqT X.K H p ys)/\∀l,H l=none->Q (.ref l) (upd H l (.lst ys))):=by
 intro js s Y H xs us Q I r h
 obtain⟨p,ys,rfl,hq,q⟩:=h
 obtain⟨u,rfl,rx⟩:=fw r
 cases rx
 have fin:∀(its:List Value),aP ys its->ys.length<=sizeLine->∀(h':Heap) (c':Nat),(∀b o',s.heap.get? b=some o'->h'.get? b=some o')->
   h'.get? s.heap.objs.size=some { cls:=.type "list", dict:=none,data:=.seq its.toArray c',slots:=#[] }->EP X js Y Q (.ref s.heap.objs.size) { s with heap:=h' }:=fun its r' hz h' c' kp e =>
  ⟨.ref s.heap.objs.size,_,I.laid (t':=s.toks) kp (Nat.le_refl _) (show cf X.prog X.w _ h' _ (.lst ys)from⟨hz,its,c',r',e⟩),rfl,q _ (I.hok.fresh (Nat.le_refl _))⟩
 rcases hq with hq | hq
 ·obtain⟨its,r',pl,hz⟩:=I.list hq
  have hlen:=r'.length
  obtain⟨o,ho,hc,n,hd⟩:=pl.isList
  exact call_list_seq p (.inl rfl) ho hc hd (fun h' c' kp e=>fin its r' hz h' c' kp e) (by simp only[List.size_toArray]<;>omega)
 ·obtain⟨its,r',pl,hz⟩:=I.tuple hq
  have hlen:=r'.length
  obtain⟨o,ho,hc,n,hd⟩:=pl
  exact call_list_seq p (.inr rfl) ho hc hd (fun h' c' kp e=>fin its r' hz h' c' kp e) (by simp only[List.size_toArray]<;>omega)
def nh:eZ X (.type "tuple") (fun xs H Q=>∃p ys,xs=[.ref p]/\((SqL X.K H p ys/\∀l,H l=none->Q (.ref l) (upd H l (.tup ys)))\/(SqT X.K H p ys/\Q (.ref p) H))):=by
 intro js s Y H xs us Q I r h
 obtain⟨p,ys,rfl,h⟩:=h
 obtain⟨u,rfl,rx⟩:=fw r
 cases rx
 rcases h with⟨hq,q⟩ |⟨hq,q⟩
 ·obtain⟨its,r',pl,hz⟩:=I.list hq
  have hlen:=r'.length
  refine call_tuple_list pl.isList (fun h' kp=>?_) (by simp only[List.size_toArray]<;>omega)
  have I1:Inv X js Y H { s with heap:=h' }:=I.kept (t':=s.toks) kp
  have I2:Inv X js Y (upd H h'.objs.size (.tup ys)) { s with heap:=h'.push { cls:=.type "tuple", data:=.seq its.toArray } } :=
   I1.laid (t':=s.toks) (fun b o e=>Heap.get?_push_of_some _ e) (Nat.le_refl _) (show cf X.prog X.w _ _ _ (.tup ys)from⟨hz,its,r',IsTup.new _ _⟩)
  exact⟨.ref h'.objs.size,_,I2,rfl,q _ (I1.hok.fresh (Nat.le_refl _))⟩
 ·obtain⟨its,r',pl,hz⟩:=I.tuple hq
  exact call_tuple_same pl ⟨.ref p,H,I,rfl,q⟩
def tyV(K:PySem.W.Frag)(T:String)(x:V)(H:Hp):Prop:=match x with
 | .str _=>T = "str"
 | .int _=>T = "int"
 | .ref p=>(T = "list" /\ ∃xs,SqL K H p xs)\/(T = "tuple" /\ ∃o,K.lookup p=some o/\o.cls=.type "tuple" /\ o.dict=none)\/
   (T = "dict" /\((∃kvs,H p=some (.dK kvs))\/ ∃kvs,H p=some (.dT kvs)))\/(T = "set" /\ ∃S n,H p=some (.set S n))
 | _=>False
def vP{js:List (Addr×Obj)}{Y:St}{H:Hp}{s:Shared}{T:String}{x:V}{v:Value}(I:Inv X js Y H s)(r:bu x v)(ty:tyV X.K T x H) :
  s.TypeIs v T/\∀a,v=.ref a->∃ob,s.heap.get? a=some ob/\ob.dict=none:=by
 cases x with
 | str z =>
  obtain⟨t,rfl⟩:=r
  cases(show T = "str" from ty)
  exact⟨typeIs_str s z t,fun _ e=>nomatch e⟩
 | int i =>
  obtain⟨t,rfl⟩:=r
  cases(show T = "int" from ty)
  exact⟨typeIs_int s i t,fun _ e=>nomatch e⟩
 | ref p =>
  cases r
  rcases ty with⟨rfl,xs,hq⟩ |⟨rfl,o,hk,hc,hd⟩ |⟨rfl,hk⟩ |⟨rfl,S,n,hk⟩
  ·obtain⟨its,_,pl,_⟩:=I.list hq
   refine⟨pl.isList.typeIs,fun a e=>?_⟩
   cases e
   obtain⟨o,n,e,c,hd,_⟩:=pl
   exact⟨o,e,hd⟩
  ·refine⟨⟨o,I.kIn p o hk,hc⟩,fun a e=>?_⟩
   cases e
   exact⟨o,I.kIn _ o hk,hd⟩
  ·have z:∃o,s.heap.get? p=some o/\o.ExactDict:=by
    rcases hk with⟨kvs,hk⟩ |⟨kvs,hk⟩
    ·obtain⟨_,_,_,_,o,_,_,e,ex,_⟩:=I.hok p _ hk
     exact⟨o,e,ex⟩
    ·obtain⟨_,_,_,_,o,_,_,e,ex,_⟩:=I.hok p _ hk
     exact⟨o,e,ex⟩
   obtain⟨o,e,ex⟩:=z
   refine⟨⟨o,e,ex.1⟩,fun a e2=>?_⟩
   cases e2
   exact⟨o,e,ex.2.1⟩
  ·obtain⟨o,_,_,_,e,ex,_⟩:=I.hok p _ hk
   refine⟨⟨o,e,ex.1⟩,fun a e2=>?_⟩
   cases e2
   exact⟨o,e,ex.2.1⟩
 | _=>exact False.elim ty
def HV(K:PySem.W.Frag)(T:String)(r:V->List V->Hp->VK->Prop)(to:TE):TE:=fun Y H Q=>to Y H fun x H1=>tyV K T x H1/\r x [] H1 Q
def tBM(K:PySem.W.Frag)(T:String)(r:V->List V->Hp->VK->Prop)(to:TE)(t:TA):TE:=fun Y H Q=>to Y H fun x H1=>tyV K T x H1/\t Y H1 fun xs H2=>r x xs H2 Q
variable{o e:Expr}{es:List Expr}{to:TE}{t:TA}{name:Str}{apos cpos:Pos}{T id:String}{r:V->List V->Hp->VK->Prop}
def CM(pa:PlainAttrs T)(slot:Slot T name id)(hty:typeOf (.builtin id)=pure (.type "method_descriptor"))(hm:MtR X id r)(ho:PE X o to)
  (hbase:attributeBase o name X.env (eval o X.env)=eval o X.env:=by rfl) (hline:(apos.endLine==cpos.line)=true:=by rfl):PE X (.Call (.Attribute o name apos) [] [] cpos) (HV X.K T r to):=by
 intro js s Y H Q I h
 refine wpAny_Call_method0_late hbase hline (thn (ho js s Y H _ I h) fun v s1 ⟨x,H1,I1,r1,ty,q1⟩=>?_)
 obtain⟨h1,h2⟩:=vP I1 r1 ty
 exact⟨T,id,pa,slot,hty,h1,h2,Calls.callWith_builtin rfl (PySem.evalArgs_none (hm js s1 Y H1 x [] v [] Q I1 r1 .nil q1))⟩
def qb(pa:PlainAttrs T)(slot:Slot T name id)(hty:typeOf (.builtin id)=pure (.type "method_descriptor"))(hm:MtR X id r)(ho:PE X o to)(ha:PA X (e::es) t)
  (hbase:attributeBase o name X.env (eval o X.env)=eval o X.env:=by rfl)
  (hfew:((backTo cpos (starEach (e::es) X.env)).all (fun x=>!x.1) && (backToKw cpos (keywordEach [] X.env)).all (fun x=>x.1.isSome)
   && decide ((e::es).length+([]:List Keyword).length+(if([]:List Keyword).isEmpty then 0 else 1) < 30))=true:=by rfl)
  (hline:(apos.endLine==cpos.line)=true:=by rfl) (hs:starEach (e::es) X.env=(false,eval e X.env)::starEach es X.env:=by rfl) (hplain:(backTo cpos (starEach es X.env)).any (·.1)=false:=by rfl) :
  PE X (.Call (.Attribute o name apos) (e::es) [] cpos) (tBM X.K T r to t):=by
 intro js s Y H Q I h
 refine wpAny_Call_method_late hbase hfew hline rfl (thn (ho js s Y H _ I h) fun v s1 ⟨x,H1,I1,r1,ty,q1⟩=>?_)
 obtain⟨h1,h2⟩:=vP I1 r1 ty
 refine⟨T,id,pa,slot,hty,h1,h2,?_⟩
 have hA:=ha cpos js s1 Y H1 _ I1 q1
 rw[hs]at hA ⊢
 refine Calls.callWith_builtin (by show(false ||(backTo cpos (starEach es X.env)).any (·.1))=false;rw[hplain]<;>rfl) (Calls.evalArgs_plain ?_)
 exact thn hA fun us s2 ⟨vs,H2,I2,r2,q2⟩=>hm js s2 Y H2 x vs v us Q I2 r1 r2 q2
end
end L2
namespace L2
open PySem PySem.Spec PyProof.Rows
def MtM(X:Cx)(id:String)(r:V->List V->Hp->VK->Prop):Prop :=
 ∀(js:List (Addr×Obj)) (s:Shared) (Y:St) (H:Hp) (x:V) (xs:List V) (v:Value) (us:List Value) (Q:VK),Inv X js Y H s->bu x v->aP xs us->r x xs H Q ->
  wpAny (model X.prog X.w) X.A (call (.builtin id) (v::us)) (EP X js Y Q) X.xe s
def aP.one:∀{x:V}{us:List Value},aP [x] us->∃u,us=[u]/\bu x u
 | _,_,.cons r .nil=>⟨_,rfl,r⟩
def aP.zero:∀{us:List Value},aP [] us->us=[]
 | _,.nil=>rfl
def aP.eraseIdx:∀{xs:List V}{us:List Value} (i:Nat),aP xs us->aP (xs.eraseIdx i) (us.eraseIdx i)
 | _,_,_,.nil=>.nil
 | _,_,0,.cons _ t=>t
 | _,_,i+1,.cons r t=>.cons r (aP.eraseIdx i t)
def aP.reverse{xs:List V}{us:List Value}(h:aP xs us):aP xs.reverse us.reverse:=by
 induction h with
 | nil=>exact .nil
 | cons r t ih=>rw[List.reverse_cons,List.reverse_cons];exact aP.append ih (.cons r .nil)
def nV{α:Type}:∀(l:List α) (i:Nat),(l.eraseIdx i).length<=l.length
 | [],_=>Nat.le_refl _
 | _::_,0=>Nat.le_succ _
 | _::r,i+1=>Nat.succ_le_succ (nV r i)
section
variable{X:Cx}{js:List (Addr×Obj)}{Y:St}{H:Hp}{s:Shared}{l b:Addr}{xs ys zs:List V}
def Inv.lset{its its':List Value}{n:Nat}{f:Array Value->Array Value}{t':Nat}(I:Inv X js Y H s)(hH:H l=some (.lst xs))
  (e:s.heap.get? l=some { cls:=.type "list", data:=.seq its.toArray n }) (hf:f its.toArray=its'.toArray) (hv:aP ys its') (hz:ys.length<=sizeLine) :
  Inv X js Y (upd H l (.lst ys)) { s with heap:=s.heap.update l (Obj.mapSeq f),toks:=t' }:=by
 have q:=PySem.IsL.update e f
 rw[hf]at q
 refine I.write (x:=l) (e:=l) (by rw[hH];exact trivial) (.inl rfl) (fun b' u hb hu=>(Heap.get?_update_other s.heap (Obj.mapSeq f) (Ne.symm hb)).trans hu) ⟨_,q⟩ ?_
 exact⟨hz,its',_,hv,q⟩
def Inv.lnew{its:List Value}{t':Nat}(I:Inv X js Y H s)(hv:aP ys its)(hz:ys.length<=sizeLine) :
  Inv X js Y (upd H s.heap.objs.size (.lst ys)) { s with heap:=s.heap.push { cls:=.type "list", data:=.seq its.toArray },toks:=t' } :=
 I.laid (fun _ _ q=>Heap.get?_push_of_some _ q) (Nat.le_refl _) ⟨hz,its,0,hv,Heap.get?_push_size _ rfl⟩
def Inv.fresh(I:Inv X js Y H s):H s.heap.objs.size=none:=I.hok.fresh (Nat.le_refl _)
def Inv.lstM(I:Inv X js Y H s)(hH:H l=some (.lst xs)):xs.length<=sizeLine/\∃(its:List Value) (n:Nat),aP xs its/\xs.length=its.length/\s.heap.get? l=some { cls:=.type "list", data:=.seq its.toArray n }:=by
 obtain⟨z,its,n,r,e⟩:=I.hok l _ hH
 exact⟨z,its,n,r,r.length,e⟩
end
section
variable{X:Cx}
def Aq:V->List V->Hp->VK->Prop:=fun x vs H Q=>∃l xs y,x=.ref l/\vs=[y]/\H l=some (.lst xs)/\xs.length < sizeLine/\Q .non (upd H l (.lst (xs++[y])))
def i3:MtM X "list.append" Aq:=by
 intro js s Y H x vs v us Q I rx rv h
 obtain⟨l,xs,y,rfl,rfl,hH,hz,q⟩:=h
 cases rx
 obtain⟨u,rfl,ru⟩:=rv.one
 obtain⟨z,its,n,r,hl,e⟩:=I.lstM hH
 refine call_meets F.slot_list_append ⟨_,e,rfl⟩ F.entry_list_append (F.args_list_append_2 _ _) (PySem.list_append l its.toArray n u (by rw[List.size_toArray];omega)) ⟨e,?_⟩
 refine⟨.non,_,I.lset (its':=its++[u]) hH e (by simp) (r.append (.cons ru .nil)) ?_,rfl,q⟩
 rw[List.length_append,List.length_singleton]
 omega
def Ct:V->List V->Hp->VK->Prop:=fun x vs H Q=>∃l xs i k y,x=.ref l/\vs=[.int i]/\H l=some (.lst xs)/\-(2 ^ 63)<= i/\i < 2 ^ 63/\seqIndex? i xs.length=some k/\xs[k]?=some y/\Q y (upd H l (.lst (xs.eraseIdx k)))
def xm:MtM X "list.pop" Ct:=by
 intro js s Y H x vs v us Q I rx rv h
 obtain⟨l,xs,i,k,y,rfl,rfl,hH,h1,h2,hk,hy,q⟩:=h
 cases rx
 obtain⟨u,rfl,ru⟩:=rv.one
 obtain⟨t,rfl⟩:=ru
 obtain⟨z,its,n,r,hl,e⟩:=I.lstM hH
 obtain⟨w,hw,rw'⟩:=r.get hy
 refine call_meets F.slot_list_pop ⟨_,e,rfl⟩ F.entry_list_pop (F.args_list_pop_2 _ _)
  (MeetsSeq.list_pop_at l its.toArray n i t k w (fitsIndex_both h1 h2) (by rw[List.size_toArray,<- hl];exact hk) (by rw[<- Array.getElem?_toList];exact hw) (by rw[List.size_toArray];omega)) ⟨e,?_⟩
 refine⟨y,_,I.lset (its':=its.eraseIdx k) hH e ?_ (r.eraseIdx k) ?_,rw',q⟩
 ·show its.toArray.eraseIdxIfInBounds k=(its.eraseIdx k).toArray
  rw[List.eraseIdxIfInBounds_toArray]
 ·have:=nV xs k
  omega
def wu:V->List V->Hp->VK->Prop:=fun x vs H Q=>∃l xs,x=.ref l/\vs=[]/\H l=some (.lst xs)/\Q .non (upd H l (.lst xs.reverse))
def rZ:MtM X "list.reverse" wu:=by
 intro js s Y H x vs v us Q I rx rv h
 obtain⟨l,xs,rfl,rfl,hH,q⟩:=h
 cases rx
 have hus:=rv.zero
 subst hus
 obtain⟨z,its,n,r,hl,e⟩:=I.lstM hH
 refine call_meets F.slot_list_reverse ⟨_,e,rfl⟩ F.entry_list_reverse (F.args_list_reverse_1 _) (AutoSeq1.list_reverse_list_0 l its.toArray n (by rw[List.size_toArray];omega)) ⟨e,?_⟩
 refine⟨.non,_,I.lset (its':=its.reverse) hH e (by simp) r.reverse ?_,rfl,q⟩
 rw[List.length_reverse]
 omega
end
end L2
namespace Att
open PySem PySem.W PySem.Calls PyProof.Rows
def kZ{P:Params}{h:Heap}:∀(ns:List Int) (vs:List Value),WellAll P h vs (ns.map WData.int)->IntsAre vs ns:=by
 intro ns
 induction ns with
 | nil =>
  intro vs w
  rw[List.map_nil]at w
  cases w
  exact .nil
 | cons n ns ih =>
  intro vs w
  rw[List.map_cons]at w
  cases w with
  | cons a b =>
   cases a
   exact .cons _ _ (ih _ b)
def ux{l:OpenLaw}{n:Nat}(hn:l.most=some n){P:Params}{h:Heap}{args:List WData}{vals:List Value}
  (hpre:l.row.toRowW.claim.pre args=true) (hwl:WellAll P h vals args) :
  ∃a vs ns,vals=[Value.ref a]/\args=[WData.list (ns.map WData.int)]/\h.get? a=some { cls:=.type "list", data:=.seq vs.toArray }/\IntsAre vs ns/\ns.length<=n:=by
 have hsh:WShape.hasAll [] args [.list .int]=true:=(pre_splitW hpre).1
 have hc:l.pre.holds [] { args:=args }=true:=(pre_splitW hpre).2
 obtain⟨d,r,rfl,h1,h2⟩:=hasAllW_cons hsh
 obtain rfl:=hasAllW_nil h2
 obtain⟨xs,rfl,h3⟩:=hasW_list h1
 obtain⟨ns,rfl⟩:=items_int h3
 have hlen:ns.length<=n:=by
  unfold OpenLaw.pre at hc
  have h4:(WTm.not (.lt (.lit (.int (n:Int))) (.len (.arg 0)))).holds [] { args:=[.list (ns.map .int)] }=true:=by
   have h4:=(holds_andW hc).1
   rw[hn]at h4
   exact h4
  have h5:=condW_of h4 (w_not (w_lt w_lit (w_len_list (w_arg rfl))))
  rw[List.length_map]at h5
  refine Nat.le_of_not_lt fun q=>?_
  have q':(n:Int) <((ns.length:Nat):Int):=by omega
  first
   |(rw[decide_eq_true q']at h5;exact absurd h5 (by decide))
   |(simp at h5;omega)
 cases hwl with
 | cons w1 w2 =>
  cases w2
  cases w1 with
  | list ho hall=>exact⟨_,_,ns,rfl,rfl,ho,kZ ns _ hall,hlen⟩
def uH(l:OpenLaw)(args:List WData):l.row.toRowW.claim.post args (.bool true) args=true :=
 postW_of (r:=l.row.toRowW) (X:=(true==true))
  (show WShape.has [] (.bool true) .bool=true by first | rfl | decide | simp[WShape.has,WShape.arms,WShape.armsAll])
  (show(WTm.eq .res (.lit (.bool true))).value [] { args:=args,res:=some (.bool true),after:=args }=some (.bool (true==true))from w_eq_bool (w_res rfl) w_lit) rfl
def attach_call{l:OpenLaw}{n:Nat}{q:Program}{loose:List Str}{XP:(Str->Option Value)->Heap->Prop}{YP:World->Heap->Prop}{d:DefRec}
  (hn:l.most=some n) (hdf:d.params.defaults=[])
  (call:∀ (w:World) (s₀ s₁:Shared) (mg mb:Str->Option Value) (fa:Addr) (o:Obj) (pm cd doc:Value) (a:Addr) (vs:List Value) (ns:List Int),
   Ground q loose [] XP w s₀ mg mb s₁.heap->YP w s₁.heap ->
   s₁.heap.get? fa=some o->o.data=.func (docDef d.name d.params d.body d.scope pm cd doc)->s₁.heap.CodeRec cd d.name->mg d.name=some (.ref fa)->
   s₁.heap.get? a=some { cls:=.type "list", data:=.seq vs.toArray }->IntsAre vs ns->ns.length<=n->s₁.gens=#[]->
   codeAny (model l.prog w) callerA (.call (.ref fa) ⟨[.ref a],[]⟩) (fun r s'=>r=.ok (.ret (.bool true))/\OldK s₁.heap s'.heap/\s'.os=s₁.os/\AllBare s'.gens) s₁) :
  WalkO q loose XP YP l.row.toRowW d [] (fun f vs=>PySem.call f vs):=by
 intro w s₀ s₁ mg mb G IM fa o pm cd doc dV kV ho hd hcd hD hmg hg args vals as hpre hlay hrd hwl hlo
 obtain rfl:dV=.none:=Dflts.none hD hdf
 obtain rfl:kV=.none:=Dflts.noKw hD
 obtain⟨a,vs,ns,rfl,rfl,hobj,hints,hlen⟩:=ux hn hpre hwl
 refine enter_call (codeAny_mono (call w s₀ s₁ mg mb fa o pm cd doc a vs ns G IM ho (fd_plain hd) hcd hmg hobj hints hlen hg) fun r s' hq=>?_)
 obtain⟨rfl,h2,h3,h4⟩:=hq
 exact⟨.inl ⟨.bool true,.bool true,[],rfl,fun _=>rfl,.bool true,uH l _,fun _=>⟨List.Pairwise.nil,fun _ hm=>(nomatch hm)⟩⟩,h2,h3,h4⟩
end Att
namespace L2
open PySem PySem.Spec PyProof.Rows
def nv:∀{vs:List Value}{ns:List Int},IntsAre vs ns->aP (ns.map V.int) vs
 | _,_,.nil=>.nil
 | _,_,.cons n t h=>.cons ⟨t,rfl⟩ (nv h)
def EM(H:Hp):Prop:=∀b,H b=none\/∃o xs,H b=some (.frz o (.lst xs))
def xN{P:Program}{w:World}{K:PySem.W.Frag}{mg mb:Str->Option Value}{CX:CXT}{k:Nat}{fa a:Addr}{fd:FuncData}{x:Str}{sp:Sp}{s₁:Shared}{vs:List Value}{ns:List Int}
  (KX:K.In s₁.heap) (hns:s₁.heap.Ns mainGlobals mg) (hb:s₁.heap.Ns builtinsNs mb) (hbb:∀x:Str,x≠"__name__" -> mb x=bootBuiltins x) (hlim:s₁.heap.NoLimit) (hg:s₁.gens=#[])
  (ha:s₁.heap.get? a=some { cls:=.type "list", data:=.seq vs.toArray }) (hi:IntsAre vs ns) (hl:ns.length<=sizeLine) (hr:eH k callerA)
  (F:∀base:Heap,K.In base->base.Ns mainGlobals mg->dA P w K mg base CX k fa fd [x] sp) (hbind:∀(s:Shared) (u:Value),BindsTo s fd ⟨[u],[]⟩ [(x,u)])
  (hsp:∀H:Hp,EM H->SqL K H a (ns.map V.int)->sp [.ref a] H (fun v _=>v=.bl true) fun _ _ _=>False)
  (hCX:∀H e s',CX [] H s₁ (fun _ _ _=>False) e s'->False) :
  codeAny (model P w) callerA (.call (.ref fa) ⟨[.ref a],[]⟩) (fun r s'=>r=.ok (.ret (.bool true))/\OldK s₁.heap s'.heap/\s'.os=s₁.os/\AllBare s'.gens) s₁:=by
 have rv:=nv hi
 have lenV:=hi.length
 have core:∀H:Hp,EM H->SqL K H a (ns.map V.int)->HOk P w H s₁.heap->(∀b,H b≠none->b=a)->(H a≠none->K.lookup a=none)->
   codeAny (model P w) callerA (.call (.ref fa) ⟨[.ref a],[]⟩) (fun r s'=>r=.ok (.ret (.bool true))/\OldK s₁.heap s'.heap/\s'.os=s₁.os/\AllBare s'.gens) s₁:=by
  intro H hO hS hok hA hK
  have base_of:∀{b:Addr}{o:Obj},s₁.heap.get? b=some o->H b=none->(oZ s₁.heap H).get? b=some o:=fun e n=>xV e n
  have noA:∀{b:Addr}{o:Obj}{es:Array DictEntry}{ep:Nat},s₁.heap.get? b=some o->o.data=.dict es ep->H b=none:=fun {b o es ep} e d=>by
   cases q:H b with
   | none=>rfl
   | some u =>
    have e':b=a:=hA b (by rw[q];simp)
    subst e'
    rw[ha]at e;cases e
    have d':Data.seq vs.toArray _=Data.dict es ep:=d
    cases d'
  have nsK:∀{b:Addr}{m:Str->Option Value},s₁.heap.Ns b m->(oZ s₁.heap H).Ns b m:=fun {b m} ⟨o,es,ep,e,d,r⟩=>⟨o,es,ep,base_of e (noA e d),d,r⟩
  have hKb:K.In (oZ s₁.heap H):=fun b o e=>base_of (KX b o e) (by
   cases q:H b with
   | none=>rfl
   | some u =>
    have e':b=a:=hA b (by rw[q];simp)
    subst e'
    rw[hK (by rw[q];simp)]at e;cases e)
  have hM:Mod K mg (oZ s₁.heap H):=⟨hKb,nsK hns,⟨mb,nsK hb,hbb⟩,let⟨mc,h1,h2⟩:=hlim;⟨mc,nsK h1,h2⟩⟩
  have e0:sK P w K mg (oZ s₁.heap H) callerA [] s₁ H:=⟨rfl,hM,fun b o e=>AR e,Nat.le_of_eq (vj _ _),trivial,fun b hb=>absurd (show b ∈([]:List Addr)from hb) (by simp),hok,.of_eq hg⟩
  refine codeAny_mono ((F _ hKb (nsK hns)).run callerA [] s₁ H ⟨[.ref a],[]⟩ [.ref a] [.ref a] _ _ hr e0 (hbind s₁ (.ref a)) (.cons rfl .nil) (hsp H hO hS)) fun r s' h=>?_
  cases r with
  | error e=>exact(hCX H e s' h).elim
  | ok fl =>
   cases fl with
   | next | brk | cont=>exact False.elim h
   | ret u =>
    obtain⟨v,H',os,bare,un,hok',r',q⟩:=h
    have q':v=.bl true:=q
    subst q'
    obtain rfl:u=Value.bool true:=r'
    refine⟨rfl,OldK.of_keep fun b o e=>?_,os,bare⟩
    cases q:H b with
    | none=>exact un.keep b o e q (by intro z;exact absurd (show b ∈([]:List Addr)from z) (by simp)) (by simp)
    | some u =>
     rcases hO b with z |⟨ob,xs,z⟩
     ·rw[q]at z;cases z
     ·have z2:=un.frzs b ob _ z
      obtain⟨e1,_⟩:=hok b _ z
      obtain⟨e2,_⟩:=hok' b _ z2
      rw[e]at e1;cases e1
      exact e2
 cases hk:K.lookup a with
 | some o =>
  have e:=KX a o hk
  rw[ha]at e
  cases e
  refine core (fun _=>none) (fun _=>.inl rfl) (.inr ⟨_,vs.toArray,_,hk,rfl,rfl,rfl,by rw[List.size_toArray,lenV];exact hl,by simpa using rv⟩) (fun b u z=>by have z':(none:Option HO)=some u:=z;cases z') (fun b z=>absurd rfl z) fun z=>absurd rfl z
 | none =>
  refine core (fun b=>if b=a then some (.frz { cls:=.type "list", data:=.seq vs.toArray } (.lst (ns.map V.int)))else none) (fun b=>?_) (.inl (.inr ⟨{ cls:=.type "list", data:=.seq vs.toArray },if_pos rfl⟩)) (fun b u z=>?_) (fun b z=>?_) fun _=>hk
  ·by_cases hb:b=a
   ·exact .inr ⟨_,_,if_pos hb⟩
   ·exact .inl (if_neg hb)
  ·by_cases hb:b=a
   ·have z':=(if_pos hb).symm.trans z
    cases z'
    subst hb
    exact⟨ha,by rw[List.length_map];exact hl,vs,_,rv,ha⟩
   ·have z':=(if_neg hb).symm.trans z
    cases z'
  ·by_cases hb:b=a
   ·exact hb
   ·exact absurd (if_neg hb) z
end L2
namespace L2
open PySem PySem.Spec PyProof.Rows
def zM{l:PySem.W.OpenLaw}{n k:Nat}{q:Program}{loose:List Str}{XP:(Str->Option Value)->Heap->Prop}{YP:World->Heap->Prop}{d:DefRec}{K:Params->PySem.W.Frag}{CX:World->CXT}{sp:World->Sp}{x:Str}
  (hn:l.most=some n) (hn2:n<=sizeLine) (hdf:d.params.defaults=[]) (hr:eH k callerA)
  (hY:∀(w:World) (h:Heap),YP w h->(K w.params).In h)
  (F:∀ (w:World) (mg:Str->Option Value) (fa:Addr) (h:Heap),(K w.params).In h->h.Ns mainGlobals mg->mg d.name=some (.ref fa) ->
   ∃fd:FuncData,(∀(s:Shared) (u:Value),BindsTo s fd ⟨[u],[]⟩ [(x,u)])/\
    ∀base:Heap,(K w.params).In base->base.Ns mainGlobals mg->dA l.prog w (K w.params) mg base (CX w) k fa fd [x] (sp w))
  (hsp:∀(w:World) (H:Hp) (a:Addr) (ns:List Int),ns.length<=n->EM H->SqL (K w.params) H a (ns.map V.int)->sp w [.ref a] H (fun v _=>v=.bl true) fun _ _ _=>False)
  (hCX:∀(w:World) (H:Hp) (s:Shared) (e:Value) (s':Shared),CX w [] H s (fun _ _ _=>False) e s'->False) :
  PySem.W.WalkO q loose XP YP l.row.toRowW d [] (fun f vs=>PySem.call f vs):=by
 refine Att.attach_call hn hdf fun w s₀ s₁ mg mb fa o pm cd doc a vs ns G IM ho hd hcd hmg hobj hints hlen hg=>?_
 have KX:=hY w _ IM
 obtain⟨fd,hb,hF⟩:=F w mg fa _ KX G.T.g hmg
 exact xN KX G.T.g G.T.b G.T.builtins G.T.nolimit hg hobj hints (Nat.le_trans hlen hn2) hr hF hb (fun H hO hS=>hsp w H a ns hlen hO hS) fun H e s'=>hCX w H s₁ e s'
end L2
namespace L2
open PySem PySem.Spec PyProof.Rows
def Bb(s:Stmt)(j:Nat):Stmt:=match s with
 | .ClassDef _ _ _ body _ _ _ _ _ _ _=>body.getD j (.Pass ⟨0,0,0,0⟩)
 | _=>.Pass ⟨0,0,0,0⟩
def fh(s:Stmt):Arguments:=match s with
 | .FunctionDef _ a _ _ _ _ _ _ _ _=>a
 | _=>{ posonlyargs:=[],args:=[],vararg:=none,kwonlyargs:=[],kw_defaults:=[],kwarg:=none,defaults:=[] }
def cO(s:Stmt):List Stmt:=match s with
 | .FunctionDef _ _ b _ _ _ _ _ _ _=>b
 | _=>[]
def aM(s:Stmt):Scope:=match s with
 | .FunctionDef _ _ _ _ _ _ sc _ _ _=>sc
 | _=>{ kind:=.function,names:=[],isGenerator:=false,isCoroutine:=false }
structure Fun(K:PySem.W.Frag)(x qual:Str)(st:Stmt)(f:Addr)(fd:FuncData):Prop where
 ex:∃(oc:Value) (od:Option Addr) (kV doc pm:Value) (an:Option Addr) (cdv ct:Value) (osl:Array (Option Value)),
  fd=PySem.W.fnOf x qual (fh st) (cO st) (aM st) .none kV doc pm an cdv ct/\K.lookup f=some ⟨oc,od,.func fd,osl⟩/\PySem.W.codeIn K cdv qual=true
 kp:PySem.W.keepIn K (.ref f)=true
section
variable{P:Program}{w:World}{K:PySem.W.Frag}{mg:Str->Option Value}{base:Heap}
def Fun.binds{x qual:Str}{st:Stmt}{f:Addr}{fd:FuncData}{ps:List Str}(F:Fun K x qual st f fd)
  (h:∀(kV doc pm:Value) (an:Option Addr) (cdv ct:Value) (us:List Value),us.length=ps.length->bindArgs (PySem.W.fnOf x qual (fh st) (cO st) (aM st) .none kV doc pm an cdv ct) ⟨us,[]⟩=pure (ps.zip us)):fM K fd ps []:=by
 obtain⟨oc,od,kV,doc,pm,an,cdv,ct,osl,rfl,lk,hcd⟩:=F.ex
 exact .all (h kV doc pm an cdv ct)
end
end L2
set_option maxHeartbeats 4000000
namespace L2
open PySem PySem.Spec PyProof.Rows
section
variable{κ:Type} [DecidableEq κ]
def lB(kvs:List (κ×V))(k:κ):Option V:=(kvs.find? fun kv=>decide (kv.1=k)).map (·.2)
def io(kvs:List (κ×V))(k:κ)(v:V):List (κ×V) :=
 if(kvs.any fun kv=>decide (kv.1=k))=true then kvs.map (fun kv=>if kv.1=k then(kv.1,v)else kv)else kvs++[(k,v)]
def lz{p:κ×V}{r:List (κ×V)}{k:κ}(e:p.1=k):lB (p::r) k=some p.2:=by simp[lB,List.find?_cons,e]
def lA{p:κ×V}{r:List (κ×V)}{k:κ}(e:¬p.1=k):lB (p::r) k=lB r k:=by simp[lB,List.find?_cons,e]
def pF(k:κ):∀kvs:List (κ×V),(kvs.any fun kv=>decide (kv.1=k))=(lB kvs k).isSome
 | []=>rfl
 | p::r=>by
  rw[List.any_cons]
  by_cases e:p.1=k
  ·simp only[lz e,decide_eq_true e,Bool.true_or,Option.isSome_some]
  ·rw[lA e,decide_eq_false e,Bool.false_or];exact pF k r
def kQ(kvs:List (κ×V))(k:κ)(v:V):(io kvs k v).length<=kvs.length+1:=by
 unfold io
 split
 ·rw[List.length_map];omega
 ·rw[List.length_append,List.length_cons,List.length_nil];omega
def putK_new{kvs:List (κ×V)}{k:κ}(v:V)(h:lB kvs k=none):io kvs k v=kvs++[(k,v)]:=by
 unfold io
 rw[pF,h]
 exact if_neg (by decide)
def KV.val{kvs:List (κ×V)}{vs:List (κ×Value)}(r:KV kvs vs)(k:κ):k8 (lB kvs k) (valueAt vs k):=by
 unfold KV at r
 induction r with
 | nil=>exact True.intro
 | @cons p q ps qs h t ih =>
  obtain⟨h1,h2⟩:=h
  by_cases e:p.1=k
  ·have e':q.1=k:=h1.symm.trans e
   have b:valueAt (q::qs) k=some q.2:=by simp[valueAt,List.find?_cons,e']
   rw[lz e,b];exact h2
  ·have e':¬q.1=k:=fun z=>e (h1.trans z)
   have b:valueAt (q::qs) k=valueAt qs k:=by simp[valueAt,List.find?_cons,e']
   rw[lA e,b];exact ih
def KV.any{kvs:List (κ×V)}{vs:List (κ×Value)}(r:KV kvs vs)(k:κ):(kvs.any fun kv=>decide (kv.1=k))=vs.any fun kv=>decide (kv.1=k):=by
 unfold KV at r
 induction r with
 | nil=>rfl
 | cons h t ih=>rw[List.any_cons,List.any_cons,ih,h.1]
def KV.repl{kvs:List (κ×V)}{vs:List (κ×Value)}(r:KV kvs vs)(k:κ){y:V}{u:Value}(ry:bu y u) :
  KV (kvs.map fun kv=>if kv.1=k then(kv.1,y)else kv) (vs.map fun kv=>if kv.1=k then(kv.1,u)else kv):=by
 unfold KV at r ⊢
 induction r with
 | nil=>exact .nil
 | @cons p q ps qs h t ih =>
  rw[List.map_cons,List.map_cons]
  refine .cons ?_ ih
  obtain⟨h1,h2⟩:=h
  by_cases e:p.1=k
  ·rw[if_pos e,if_pos (h1.symm.trans e)];exact⟨h1,ry⟩
  ·rw[if_neg e,if_neg (fun z=>e (h1.trans z))];exact⟨h1,h2⟩
def KV.put{kvs:List (κ×V)}{vs:List (κ×Value)}(r:KV kvs vs)(k:κ){y:V}{u:Value}(ry:bu y u):KV (io kvs k y) (stored vs k u):=by
 unfold io stored
 rw[r.any k]
 by_cases e:(vs.any fun kv=>decide (kv.1=k))=true
 ·rw[if_pos e,if_pos e];exact r.repl k ry
 ·rw[if_neg e,if_neg e];exact Paired.snoc r ⟨rfl,ry⟩
def KV.length{kvs:List (κ×V)}{vs:List (κ×Value)}(r:KV kvs vs):kvs.length=vs.length:=Paired.length r
end
def xQ{P:Program}{w:World}{k:Key}{u:Value}(r:bu (kV k) u):(dZ P w).is k u=true:=by
 cases k with
 | inl i=>obtain⟨t,e⟩:=(show ∃t,u=Value.int i t from r);subst e;exact qi P w i t
 | inr x=>obtain⟨t,e⟩:=(show ∃t,u=Value.str x t from r);subst e;exact qh P w x t
section
variable{P:Program}{w:World}{H:Hp}{h:Heap}{a:Addr}
def FF{u:HO}(ok:HOk P w H h)(e:Rd H a u):cf P w H h a u:=e.ok ok
def G5{kvs:List (Key×V)}(ok:HOk P w H h)(e:Rd H a (.dK kvs)):kvs.length<=sizeLine/\(a==sysModules)=false/\∃vs,KV kvs vs/\h.DictOf (dZ P w) a vs :=
 show cf P w H h a (.dK kvs)from FF ok e
def G6{kvs:List (Key×V)}(ok:HOk P w H h)(e:H a=some (.dK kvs)):kvs.length<=sizeLine/\(a==sysModules)=false/\∃vs,KV kvs vs/\h.DictOf (dZ P w) a vs:=G5 ok (.inl e)
end
section
variable{X:Cx}{js:List (Addr×Obj)}{Y:St}{H:Hp}{s:Shared}{a:Addr}{y v:V}{u r:Value}{o:Option V}{A:Around}{E:Value->Shared->Prop}
def Inv.big(I:Inv X js Y H s):sysModules < s.heap.objs.size:=by
 have h:mainGlobals < s.heap.objs.size:=(I.mod.glob.keeps I.bk).lt
 exact Nat.lt_trans (by decide) h
def Bv{h':Heap}{t':Nat}{ob:HO}(I:Inv X js Y H s)(mu:Mut (H a))(hs:Heap.SameBut a s.heap h')(he:∃q,h'.get? a=some q)(new:cf X.prog X.w (upd H a ob) h' a ob) :
  Inv X js Y (upd H a ob) { s with heap:=h',toks:=t' } :=
 I.write (x:=a) (e:=a) mu (.inl rfl) (fun b q hb z=>(hs.2 b hb).trans z) he new
def Eb{P:Program}{w:World}{H':Hp}{h':Heap}{kvs:List (Key×V)}{vs:List (Key×Value)}(z:kvs.length<=sizeLine)(hd:(a==sysModules)=false)(rel:KV kvs vs)(dd:h'.DictOf (dZ P w) a vs) :
  cf P w H' h' a (.dK kvs):=⟨z,hd,vs,rel,dd⟩
end
def EN(i:Expr):Prop:=∀ov iv,subscripted i false ov iv=operate [ov,iv] (getItem ov iv)
def zW{prog:Program}{w:World}{A:Around}{E:Value->Shared->Prop}{s:Shared}{env:Env}{value slice:Expr}{pos:Pos}{T id:String}{Q:Value->Shared->Prop}
  (hl:typeLookup (.type T) "__getitem__" = pure (some (.builtin id))) (hs:EN slice)
  (h:wpAny (model prog w) A (eval value env) (fun o s₁=>wpAny (model prog w) A (eval slice env) (fun i s₂=>s₂.TypeIs o T/\wpAny (model prog w) A (getItem o i) Q E s₂) E s₁) E s) :
  wpAny (model prog w) A (eval (.Subscript value slice pos) env) Q E s:=by
 refine Subscript_ (wpAny_mono h (fun o s₁ h₁=>wpAny_mono h₁ (fun i s₂ h₂=>?_) fun _ _ x=>x) fun _ _ x=>x)
 obtain⟨hT,h₂⟩:=h₂
 unfold subscriptTail
 refine wpAny_bind ?_
 rw[getitemInPython_of_ne hT.not_modules]
 refine wpAny_bind (wpAny_specialOf hT hl ?_)
 have fin:wpAny (model prog w) A (subscripted slice false o i) (fun r s₃=>wpAny (model prog w) A (letTemporaryGo value o r >>= fun _=>pure r) Q E s₃) E s₂:=by
  rw[hs o i]
  exact wpAny_operating (wpAny_mono h₂ (fun r s₃ h₃=>wpAny_bind (wpAny_letTemporaryGo (wpAny_pure h₃))) fun _ _ x=>x)
 first
  | exact wpAny_pure (wpAny_bind fin)
  | exact wpAny_bind (wpAny_pure (wpAny_bind fin))
  | exact wpAny_bind fin
def yM{P:Program}{w:World}{H:Hp}(h:Heap)(hb:sysModules < h.objs.size):cf P w H (h.push { cls:=.type "dict", data:=.dict #[] }) h.objs.size (.dK []) :=
 ⟨Nat.zero_le _,beq_eq_false_iff_ne.mpr (Ne.symm (Nat.ne_of_lt hb)),[],.nil,Heap.DictOf.new h⟩
def ow:List (TE×TE)->St->Hp->(List (V×V)->Hp->Prop)->Prop
 | [],_,H,Q=>Q [] H
 |(tk,tv)::r,Y,H,Q=>tk Y H fun x H1=>tv Y H1 fun y H2=>ow r Y H2 fun ps H3=>Q ((x,y)::ps) H3
abbrev VV:List (V×V)->List (Value×Value)->Prop:=Paired fun p q=>bu p.1 q.1/\bu p.2 q.2
def PPs(X:Cx)(pos:Pos)(keys:List (Option Expr))(values:List Expr)(trs:List (TE×TE)):Prop :=
 ∀(js:List (Addr×Obj)) (s:Shared) (Y:St) (H:Hp) (Q:List (V×V)->Hp->Prop),Inv X js Y H s->ow trs Y H Q ->
  wpAny (model X.prog X.w) X.A (evalPairs (pairTrees keys values X.env pos)) (fun vs s'=>∃ps H',Inv X js Y H' s'/\VV ps vs/\Q ps H') X.xe s
def Ax{X:Cx}{pos:Pos}:PPs X pos [] [] []:=fun js s Y H Q I h=>pairTrees_nil_walk ⟨[],H,I,.nil,h⟩
def iu{X:Cx}{pos:Pos}{k v:Expr}{ks:List (Option Expr)}{vs:List Expr}{tk tv:TE}{trs:List (TE×TE)}(hk:PE X k tk)(hv:PE X v tv)(hr:PPs X pos ks vs trs) :
  PPs X pos (some k::ks) (v::vs) ((tk,tv)::trs):=fun js s Y H Q I h =>
 pairTrees_cons_walk (thn (hk js s Y H _ I h) fun u s1 ⟨x,H1,I1,rx,q1⟩=>thn (hv js s1 Y H1 _ I1 q1) fun w2 s2 ⟨y,H2,I2,ry,q2⟩ =>
  thn (hr js s2 Y H2 _ I2 q2) fun ws s3 ⟨ps,H3,I3,rel,q3⟩=>⟨(x,y)::ps,H3,I3,.cons ⟨rx,ry⟩ rel,q3⟩)
def iD(kvs more:List (Key×V)):List (Key×V):=more.foldl (fun acc kv=>io acc kv.1 kv.2) kvs
def KV.merge:∀{more:List (Key×V)}{rs:List (Key×Value)}{kvs:List (Key×V)}{vs:List (Key×Value)},KV more rs->KV kvs vs->KV (iD kvs more) (merged vs rs):=by
 intro more rs kvs vs r
 unfold KV at r
 induction r generalizing kvs vs with
 | nil=>intro q;exact q
 | @cons p q ps qs h t ih =>
  intro r0
  have e:KV (io kvs p.1 p.2) (stored vs q.1 q.2):=by
   have:=r0.put p.1 h.2
   rw[<- h.1];exact this
  exact ih e
def jg:∀(more kvs:List (Key×V)),(iD kvs more).length<=kvs.length+more.length
 | [],kvs=>by show kvs.length<=kvs.length+0;omega
 | p::r,kvs=>by
  have h1:=jg r (io kvs p.1 p.2)
  have h2:=kQ kvs p.1 p.2
  show(iD (io kvs p.1 p.2) r).length<=_
  rw[List.length_cons];omega
def mW{P:Program}{w:World}:∀{kvs:List (Key×V)}{ws:List (Value×Value)},VV (kvs.map fun kv=>(kV kv.1,kv.2)) ws->∃rs,Carries (dZ P w) ws rs/\KV kvs rs
 | [],_,r=>by rw[List.map_nil]at r;cases r;exact⟨[],True.intro,.nil⟩
 | p::kvs,_,r=>by
  rw[List.map_cons]at r
  cases r with
  | @cons a b as bs h t =>
   obtain⟨rs,c,q⟩:=mW (P:=P) (w:=w) t
   obtain⟨b1,b2⟩:=b
   exact⟨(p.1,b2)::rs,⟨xQ h.1,rfl,c⟩,.cons ⟨rfl,h.2⟩ q⟩
def Fz(trs:List (TE×TE)):TE:=fun Y H Q=>∀p,H p=none->ow trs Y (upd H p (.dK [])) fun ps H2=>H2 p=some (.dK [])/\∃kvs:List (Key×V),ps=kvs.map (fun kv=>(kV kv.1,kv.2))/\kvs.length<=15/\Q (.ref p) (upd H2 p (.dK (iD [] kvs)))
def AF{X:Cx}{pos:Pos}{keys:List (Option Expr)}{values:List Expr}{trs:List (TE×TE)}(h:PPs X pos keys values trs)(hall:keys.all (·.isSome)=true)(hl:keys.length=values.length)(h0:keys≠[])
  (h15:keys.length<=15):PE X (.Dict keys values pos) (Fz trs):=by
 intro js s Y H Q I q
 have hn:=I.hok.fresh (Nat.le_refl s.heap.objs.size)
 have I1:=I.laid (a:=s.heap.objs.size) (o:=.dK []) (h':=s.heap.push { cls:=.type "dict", data:=.dict #[] }) (t':=s.toks) (fun _ _ q=>Heap.get?_push_of_some _ q) (Nat.le_refl _) (yM s.heap I.big)
 refine wpAny_Dict_walk (knd:=dZ X.prog X.w) hall hl h0 h15 (thn (h js _ Y _ _ I1 (q _ hn)) fun ws s2 ⟨ps,H2,I2,rel,e,kvs,ep,lk,q2⟩=>?_)
 subst ep
 obtain⟨rs,c,rk⟩:=mW (P:=X.prog) (w:=X.w) rel
 obtain⟨z,hd,vs0,r0,dd⟩:=G6 I2.hok e
 cases r0
 refine⟨rs,c,dd,fun h' dd' hs=>⟨.ref s.heap.objs.size,_,?_,rfl,q2⟩⟩
 have hz:(iD [] kvs).length<=sizeLine:=by
  have h1:=jg kvs []
  rw[List.length_nil]at h1
  rw[sizeLine_eq];omega
 have he:∃q,h'.get? s.heap.objs.size=some q:=let⟨q,_,_,hq,_⟩:=dd';⟨q,hq⟩
 exact Bv I2 (by rw[e];exact True.intro) hs he (Eb hz hd (rk.merge .nil) dd')
end L2
namespace PR
open PySem
inductive Fl where
 | own | frz | bor | lnt | mod
 deriving DecidableEq
inductive PV where
 | non
 | bl (b:Bool)
 | int (i:Int)
 | str (x:Str)
 | lst (f:Fl) (xs:List PV)
 | tup (xs:List PV)
 | obj (f:Fl) (c:Nat) (ks:List Nat) (vs:List PV)
 | exc (c:Nat)
 | box (k:Nat) (xs:List PV)
mutual
def PV.mapF(g:Fl->Fl):PV->PV
 | .non=>.non
 | .bl b=>.bl b
 | .int i=>.int i
 | .str x=>.str x
 | .lst f xs=>.lst (g f) (mapL g xs)
 | .tup xs=>.tup (mapL g xs)
 | .obj f c ks vs=>.obj (g f) c ks (mapL g vs)
 | .exc c=>.exc c
 | .box k xs=>.box k (mapL g xs)
def mapL(g:Fl->Fl):List PV->List PV
 | []=>[]
 | x::xs=>x.mapF g::mapL g xs
end
mutual
def PV.has(p:Fl->Bool):PV->Bool
 | .non | .bl _ | .int _ | .str _=>false
 | .lst f xs=>p f||hasL p xs
 | .tup xs=>hasL p xs
 | .obj f _ _ vs=>p f||hasL p vs
 | .exc _=>false
 | .box _ xs=>hasL p xs
def hasL(p:Fl->Bool):List PV->Bool
 | []=>false
 | x::xs=>x.has p||hasL p xs
end
def Fl.isLnt:Fl->Bool
 | .lnt=>true
 | _=>false
def Fl.isBor:Fl->Bool
 | .bor=>true
 | _=>false
def Fl.lend:Fl->Fl
 | .own=>.lnt
 | f=>f
def Fl.freeze:Fl->Fl
 | .own=>.frz
 | f=>f
def Fl.toBor:Fl->Fl
 | .lnt=>.bor
 | f=>f
inductive Res(α:Type) where
 | ok (a:α)
 | exc (c:Nat)
 | stuck
noncomputable def Res.bind{α β:Type}:Res α->(α->Res β)->Res β
 | .ok a,k=>k a
 | .exc c,_=>.exc c
 | .stuck,_=>.stuck
@[simp] def Res.ok_bind{α β:Type}(a:α)(k:α->Res β):(Res.ok a).bind k=k a:=by simp only[Res.bind]
@[simp] def Res.exc_bind{α β:Type}(c:Nat)(k:α->Res β):(Res.exc c:Res α).bind k=.exc c:=rfl
@[simp] def Res.stuck_bind{α β:Type}(k:α->Res β):(Res.stuck:Res α).bind k=.stuck:=rfl
abbrev En:=List (Option PV)
abbrev ME:=En->Res PV
abbrev MT:=En->Res Bool
abbrev MA:=En->Res (List PV)
inductive Out where
 | next (e:En)
 | ret (v:PV)
 | brk (e:En)
 | cont (e:En)
 | exc (c:Nat) (e:En)
 | stuck
abbrev MS:=En->Out
def mC(v:PV):ME:=fun _=>.ok v
def ac(i:Nat):ME:=fun env=>match env[i]? with
 | some (some v)=>.ok (v.mapF Fl.lend)
 | _=>.stuck
def am:MA:=fun _=>.ok []
def ae(a:ME)(r:MA):MA:=fun env=>(a env).bind fun x=>(r env).bind fun xs=>.ok (x::xs)
def mUn(f:PV->Res PV)(a:ME):ME:=fun env=>(a env).bind f
def mOp(f:PV->PV->Res PV)(a b:ME):ME:=fun env=>(a env).bind fun x=>(b env).bind fun y=>f x y
def di(g:Int->Int->PV):PV->PV->Res PV
 | .int i,.int j=>.ok (g i j)
 | _,_=>.stuck
def fE(C:Int->Int->Bool)(g:Int->Int->PV):PV->PV->Res PV
 | .int i,.int j=>if C i j then .ok (g i j)else .stuck
 | _,_=>.stuck
def oM:PV->Res Bool
 | .non=>.ok false
 | .bl b=>.ok b
 | .int i=>.ok (i != 0)
 | .lst _ xs | .tup xs=>.ok (!xs.isEmpty)
 | _=>.stuck
def aA(a:ME):MT:=fun env=>(a env).bind fun
 | .bl b=>.ok b
 | _=>.stuck
def dg(a:ME):MT:=fun env=>(a env).bind oM
def fQ(a:MT):MT:=fun env=>(a env).bind fun b=>.ok (!b)
def g8(a b:MT):MT:=fun env=>(a env).bind fun x=>if x then b env else .ok false
def fH(a b:MT):MT:=fun env=>(a env).bind fun x=>if x then .ok true else b env
def xJ(c:MT)(a b:ME):ME:=fun env=>(c env).bind fun x=>if x then a env else b env
def aZ:MS:=.next
def au(a b:MS):MS:=fun env=>match a env with
 | .next e=>b e
 | o=>o
def mBr(c:MT)(a b:MS):MS:=fun env=>match c env with
 | .ok true=>a env
 | .ok false=>b env
 | .exc k=>.exc k env
 | .stuck=>.stuck
def PV.noLnt(v:PV):Bool:=!v.has Fl.isLnt
def cK(env:List (Option PV)):Bool:=match env[0]? with
 | some (some (PV.obj _ _ _ _))=>true
 | _=>false
def aU(i:Nat)(env:En):Bool:=if i=0 then !cK env else true
def aS(i:Nat)(e:ME):MS:=fun env=>match e env with
 | .ok v=>if v.noLnt&&aU i env then .next (env.set i (some v))else .stuck
 | .exc k=>.exc k env
 | .stuck=>.stuck
def bz(e:ME):MS:=fun env=>match e env with
 | .ok v=>if v.noLnt then .ret v else .stuck
 | .exc k=>.exc k env
 | .stuck=>.stuck
def eY(i:Nat):MS:=fun env=>match env[i]? with
 | some (some v)=>.ret v
 | _=>.stuck
def iG(e:ME):MS:=fun env=>match e env with
 | .ok _=>.next env
 | .exc k=>.exc k env
 | .stuck=>.stuck
def eV(i:Nat):MS:=fun env=>match env[i]? with
 | some (some v)=>.next (env.set i (some (v.mapF Fl.freeze)))
 | _=>.stuck
def m_(body:PV->MS):List PV->En->Out
 | [],env=>.next env
 | x::xs,env=>match body x env with
  | .next e | .cont e=>m_ body xs e
  | .brk e=>.next e
  | o=>o
end PR
namespace PR
open PySem PySem.Spec L2
structure Tb where
 K:PySem.W.Frag
 nc:Nat
 cls:Nat->Addr
 att:Nat->Str
 inj:∀i j,att i=att j->i=j
 xcl:Nat->Addr
 dk:Nat->List Str:=fun _=>[]
 bx:Nat->Hp->Addr->List V->Prop:=fun k H a vs=>∃o,H a=some (.frz o (.dK (((dk k).map Sum.inr).zip vs)))/\(dk k).length=vs.length
 bxs:∀k (H H':Hp) a vs,(∀b o u,H b=some (.frz o u)->H' b=some (.frz o u))->bx k H a vs->bx k H' a vs:=by exact fun _ _ _ _ _ h ⟨o,q,l⟩=>⟨o,h _ _ _ q,l⟩
def IB(C a:Addr):HO:=.ext fun h=>∃o,h.get? a=some o/\o.cls=.ref C
def KL(K:PySem.W.Frag)(a:Addr)(xs:List V):Prop:=∃(o:Obj) (its:Array Value) (n:Nat),K.lookup a=some o/\o.cls=.type "list" /\ o.dict=none/\o.data=.seq its n/\its.size<=sizeLine/\aP xs its.toList
def qW:Fl->Addr->List Addr->List Addr->Prop
 | .own,a,fp',fp=>fp=a::fp'
 | _,_,fp',fp=>fp'=[]/\fp=[]
def ET(F B L:Addr->Prop):Fl->Addr->Prop
 | .own,_=>True
 | .frz,a=>F a
 | .bor,a=>B a
 | .lnt,a=>L a
 | .mod,_=>False
def mY(T:Tb)(F B L:Addr->Prop)(H:Hp):Fl->Addr->List V->Prop
 | .own,a,vs=>H a=some (.lst vs)
 | .lnt,a,vs=>L a/\H a=some (.lst vs)
 | .frz,a,vs=>F a/\Rd H a (.lst vs)
 | .bor,a,vs=>B a/\Rd H a (.lst vs)
 | .mod,a,vs=>KL T.K a vs
def mY.sq(h:mY T F B L H f a vs):SqL T.K H a vs:=by
 cases f with
 | own=>exact SqL.of h
 | lnt=>exact SqL.of h.2
 | frz | bor=>exact .inl h.2
 | mod=>exact .inr h
mutual
def Rel(T:Tb)(F B L:Addr->Prop)(H:Hp):PV->V->List Addr->Prop
 | .non,v,fp=>v=.non/\fp=[]
 | .bl b,v,fp=>v=.bl b/\fp=[]
 | .int i,v,fp=>v=.int i/\fp=[]
 | .str x,v,fp=>v=.str x/\fp=[]
 | .lst f xs,v,fp=>∃a vs fp',v=.ref a/\mY T F B L H f a vs/\RelL T F B L H xs vs fp'/\qW f a fp' fp
 | .tup xs,v,fp=>∃a vs,v=.ref a/\SqT T.K H a vs/\RelL T F B L H xs vs fp
 | .obj f c ks xs,v,fp=>∃a dx vs fp',v=.ref a/\H a=some (.ins (T.cls c) dx ((ks.map T.att).zip vs))/\(ks.length=xs.length/\c < T.nc)/\RelL T F B L H xs vs fp'/\qW f a fp' fp/\ET F B L f a
 | .exc c,v,fp=>∃a,v=.ref a/\H a=some (IB (T.xcl c) a)/\fp=[]
 | .box k xs,v,fp=>∃a vs,v=.ref a/\T.bx k H a vs/\RelL T F B L H xs vs fp
def RelL(T:Tb)(F B L:Addr->Prop)(H:Hp):List PV->List V->List Addr->Prop
 | [],vs,fp=>vs=[]/\fp=[]
 | x::xs,vs,fp=>∃v ws f1 f2,vs=v::ws/\Rel T F B L H x v f1/\RelL T F B L H xs ws f2/\fp=f1++f2
end
def fR:HO->Prop
 | .tup _ | .frz _ _ | .ext _=>True
 | _=>False
section
variable{T:Tb}{F F' B B' L L':Addr->Prop}{H H':Hp}
def Rd.tr(h:∀o,H a=some o->H' a=some o)(q:Rd H a u):Rd H' a u:=by
 rcases q with q |⟨o,q⟩
 ·exact .inl (h _ q)
 ·exact .inr ⟨o,h _ q⟩
def SqT.tr(h:∀o,H a=some o->fR o->H' a=some o)(q:SqT K H a vs):SqT K H' a vs:=by
 rcases q with(q |⟨o,q⟩) | q
 ·exact .inl (.inl (h _ q True.intro))
 ·exact .inl (.inr ⟨o,h _ q True.intro⟩)
 ·exact .inr q
def RelL.length:∀{xs:List PV}{vs:List V}{fp:List Addr},RelL T F B L H xs vs fp->xs.length=vs.length
 | [],_,_,h=>by unfold RelL at h;rw[h.1];rfl
 | x::xs,_,_,h=>by
  unfold RelL at h
  obtain⟨v,ws,f1,f2,rfl,_,h2,_⟩:=h
  simp[RelL.length h2]
def qW.all{P:Addr->Prop}(h:qW f a fp' fp)(hp:∀b∈fp,P b):(f=.own->P a)/\∀b∈fp',P b:=by
 cases f with
 | own =>
  obtain rfl:fp=a::fp':=h
  grind
 | _=>exact⟨fun z=>(nomatch z),by rw[h.1];exact fun _ z=>nomatch z⟩
structure Mp(T:Tb)(g:Fl->Fl)(p:Fl->Bool)(E:List Addr->List Addr)(C F B L:Addr->Prop)(H:Hp)(F' B' L':Addr->Prop)(H':Hp):Prop where
 hl:∀f a vs,p f=false->(f=.own->C a)->mY T F B L H f a vs->mY T F' B' L' H' (g f) a vs
 hb:∀f a,p f=false->(f=.own->C a)->ET F B L f a->ET F' B' L' (g f) a/\∀o,H a=some o->H' a=some o
 hf:∀f a x y,qW f a x y->qW (g f) a (E x) (E y)
 he:E []=[]
 ha:∀x y,E (x++y)=E x++E y
 hx:∀a o,H a=some o->fR o->H' a=some o
mutual
def Mp.rel(M:Mp T g p E C F B L H F' B' L' H') :
  ∀{x:PV}{v:V}{fp:List Addr},x.has p=false->(∀a∈fp,C a)->Rel T F B L H x v fp->Rel T F' B' L' H' (x.mapF g) v (E fp)
 | .non,_,_,_,_,h | .bl _,_,_,_,_,h | .int _,_,_,_,_,h | .str _,_,_,_,_,h=>by unfold Rel at h;simp only[PV.mapF];unfold Rel;exact⟨h.1,by rw[h.2,M.he]⟩
 | .lst f xs,_,fp,hp,hc,h=>by
  unfold Rel at h
  obtain⟨a,vs,fp',e,h1,h2,h3⟩:=h
  simp only[PV.has,Bool.or_eq_false_iff]at hp
  obtain⟨c1,c2⟩:=h3.all hc
  simp only[PV.mapF]
  unfold Rel
  exact⟨a,vs,E fp',e,M.hl f a vs hp.1 c1 h1,Mp.rels M hp.2 c2 h2,M.hf f a fp' fp h3⟩
 | .tup xs,_,fp,hp,hc,h=>by
  unfold Rel at h
  obtain⟨a,vs,e,h1,h2⟩:=h
  simp only[PV.mapF]
  unfold Rel
  exact⟨a,vs,e,SqT.tr (fun o q z=>M.hx a o q z) h1,Mp.rels M hp hc h2⟩
 | .obj f c ks xs,_,fp,hp,hc,h=>by
  unfold Rel at h
  obtain⟨a,dx,vs,fp',e,h1,hk,h2,h3,h4⟩:=h
  simp only[PV.has,Bool.or_eq_false_iff]at hp
  obtain⟨c1,c2⟩:=h3.all hc
  obtain⟨q1,q2⟩:=M.hb f a hp.1 c1 h4
  simp only[PV.mapF]
  unfold Rel
  have r:=Mp.rels M hp.2 c2 h2
  exact⟨a,dx,vs,E fp',e,q2 _ h1,⟨by rw[r.length,hk.1,h2.length],hk.2⟩,r,M.hf f a fp' fp h3,q1⟩
 | .exc c,_,fp,_,_,h=>by
  unfold Rel at h
  obtain⟨a,e,h1,rfl⟩:=h
  simp only[PV.mapF]
  unfold Rel
  exact⟨a,e,M.hx a _ h1 True.intro,M.he⟩
 | .box k xs,_,fp,hp,hc,h=>by
  unfold Rel at h
  obtain⟨a,vs,e,h1,h2⟩:=h
  simp only[PV.mapF]
  unfold Rel
  exact⟨a,vs,e,T.bxs k H H' a vs (fun b o u q=>M.hx b _ q True.intro) h1,Mp.rels M hp hc h2⟩
def Mp.rels(M:Mp T g p E C F B L H F' B' L' H') :
  ∀{xs:List PV}{vs:List V}{fp:List Addr},hasL p xs=false->(∀a∈fp,C a)->RelL T F B L H xs vs fp->RelL T F' B' L' H' (mapL g xs) vs (E fp)
 | [],_,_,_,_,h=>by unfold RelL at h;simp only[mapL];unfold RelL;exact⟨h.1,by rw[h.2,M.he]⟩
 | x::xs,_,fp,hp,hc,h=>by
  unfold RelL at h
  obtain⟨v,ws,f1,f2,e,h1,h2,rfl⟩:=h
  simp only[hasL,Bool.or_eq_false_iff]at hp
  simp only[mapL]
  unfold RelL
  exact⟨v,ws,E f1,E f2,e,Mp.rel M hp.1 (fun b hb=>hc b (List.mem_append_left _ hb)) h1,Mp.rels M hp.2 (fun b hb=>hc b (List.mem_append_right _ hb)) h2,M.ha f1 f2⟩
end
mutual
def lf:∀x:PV,x.mapF (fun f=>f)=x
 | .non | .bl _ | .int _ | .str _ | .exc _=>rfl
 | .lst f xs | .tup xs | .obj f c ks xs | .box k xs=>by simp only[PV.mapF,mapL_id xs]
def mapL_id:∀xs:List PV,mapL (fun f=>f) xs=xs
 | []=>rfl
 | x::xs=>by simp only[mapL,lf x,mapL_id xs]
end
mutual
def mD:∀x:PV,x.has (fun _=>false)=false
 | .non | .bl _ | .int _ | .str _ | .exc _=>rfl
 | .lst f xs=>by simp only[PV.has,has_noL xs,Bool.or_false]
 | .tup xs=>by simp only[PV.has,has_noL xs]
 | .obj f c ks xs=>by simp only[PV.has,has_noL xs,Bool.or_false]
 | .box k xs=>by simp only[PV.has,has_noL xs]
def has_noL:∀xs:List PV,hasL (fun _=>false) xs=false
 | []=>rfl
 | x::xs=>by simp only[hasL,mD x,has_noL xs,Bool.or_false]
end
def BS(hF:∀a,F a->F' a)(hB:∀a,B a->B' a)(hL:∀a,L a->L' a)(hx:∀a o,H a=some o->(F a\/B a\/L a\/fR o)->H' a=some o):Mp T (fun f=>f) (fun _=>false) (fun x=>x) (fun a=>∀o,H a=some o->H' a=some o) F B L H F' B' L' H' :=
 ⟨fun f a vs _ c h=>by
  cases f with
  | own=>exact c rfl _ h
  | frz=>exact⟨hF a h.1,Rd.tr (fun o q=>hx a o q (.inl h.1)) h.2⟩
  | bor=>exact⟨hB a h.1,Rd.tr (fun o q=>hx a o q (.inr (.inl h.1))) h.2⟩
  | lnt=>exact⟨hL a h.1,hx a _ h.2 (.inr (.inr (.inl h.1)))⟩
  | mod=>exact h,fun f a _ c h=>by
  cases f with
  | own=>exact⟨True.intro,c rfl⟩
  | frz=>exact⟨hF a h,fun o q=>hx a o q (.inl h)⟩
  | bor=>exact⟨hB a h,fun o q=>hx a o q (.inr (.inl h))⟩
  | lnt=>exact⟨hL a h,fun o q=>hx a o q (.inr (.inr (.inl h)))⟩
  | mod=>exact h.elim,fun _ _ _ _ h=>h,rfl,fun _ _=>rfl,fun a o q z=>hx a o q (.inr (.inr (.inr z)))⟩
def Rel.tr(hF:∀a,F a->F' a)(hB:∀a,B a->B' a)(hL:∀a,L a->L' a)(hx:∀a o,H a=some o->(F a\/B a\/L a\/fR o)->H' a=some o)(hp:∀a∈fp,∀o,H a=some o->H' a=some o)(h:Rel T F B L H x v fp):Rel T F' B' L' H' x v fp:=by
 have:=(BS hF hB hL hx).rel (mD x) hp h
 rwa [lf]at this
def RelL.tr(hF:∀a,F a->F' a)(hB:∀a,B a->B' a)(hL:∀a,L a->L' a)(hx:∀a o,H a=some o->(F a\/B a\/L a\/fR o)->H' a=some o)(hp:∀a∈fp,∀o,H a=some o->H' a=some o)(h:RelL T F B L H x v fp):RelL T F' B' L' H' x v fp:=by
 have:=(BS hF hB hL hx).rels (has_noL x) hp h
 rwa [mapL_id]at this
def Ext(H H':Hp):Prop:=∀a o,H a=some o->H' a=some o
def Ext.refl:Ext H H:=fun _ _ h=>h
def Ext.trans(a:Ext H H1)(b:Ext H1 H2):Ext H H2:=fun c o h=>b c o (a c o h)
def Ext.upd(h:H a=none):Ext H (L2.upd H a o):=fun b u e=>by rw[aK (bV e h)];exact e
def Ext.free(x:Ext H H')(h:H' a=none):H a=none:=by
 cases e:H a with
 | none=>rfl
 | some o=>rw[x a o e]at h;cases h
def Rel.ext(e:Ext H H')(hF:∀a,F a->F' a)(h:Rel T F B L H x v fp):Rel T F' B L H' x v fp :=
 Rel.tr hF (fun _ h=>h) (fun _ h=>h) (fun a o q _=>e a o q) (fun a _ o q=>e a o q) h
def RelL.ext(e:Ext H H')(hF:∀a,F a->F' a)(h:RelL T F B L H xs vs fp):RelL T F' B L H' xs vs fp :=
 RelL.tr hF (fun _ h=>h) (fun _ h=>h) (fun a o q _=>e a o q) (fun a _ o q=>e a o q) h
def Chg:HO->Prop
 | .lst _ | .ins _ _ _=>True
 | _=>False
mutual
def Rel.chg:∀{x:PV}{v:V}{fp:List Addr},Rel T F B L H x v fp->∀a∈fp,∃o,H a=some o/\Chg o
 | .non,_,_,h | .bl _,_,_,h | .int _,_,_,h | .str _,_,_,h=>by unfold Rel at h;rw[h.2];exact fun _ z=>nomatch z
 | .lst f xs,_,fp,h=>by
  unfold Rel at h
  obtain⟨a,vs,fp',e,hl,hr,hf⟩:=h
  cases f with
  | own =>
   obtain rfl:fp=a::fp':=hf
   intro b hb
   rcases List.mem_cons.mp hb with rfl | hb
   ·exact⟨_,hl,True.intro⟩
   ·exact RelL.chg hr b hb
  | frz | bor | lnt | mod=>obtain⟨rfl,rfl⟩:=hf;exact fun _ z=>nomatch z
 | .tup xs,_,fp,h=>by
  unfold Rel at h
  obtain⟨a,vs,e,hl,hr⟩:=h
  exact RelL.chg hr
 | .obj f c ks xs,_,fp,h=>by
  unfold Rel at h
  obtain⟨a,dx,vs,fp',e,hl,hk,hr,hf,ha⟩:=h
  cases f with
  | own =>
   obtain rfl:fp=a::fp':=hf
   intro b hb
   rcases List.mem_cons.mp hb with rfl | hb
   ·exact⟨_,hl,True.intro⟩
   ·exact RelL.chg hr b hb
  | frz | bor | lnt | mod=>obtain⟨rfl,rfl⟩:=hf;exact fun _ z=>nomatch z
 | .exc c,_,fp,h=>by
  unfold Rel at h
  obtain⟨a,e,hl,rfl⟩:=h
  exact fun _ z=>nomatch z
 | .box k xs,_,fp,h=>by
  unfold Rel at h
  obtain⟨a,vs,e,hl,hr⟩:=h
  exact RelL.chg hr
def RelL.chg:∀{xs:List PV}{vs:List V}{fp:List Addr},RelL T F B L H xs vs fp->∀a∈fp,∃o,H a=some o/\Chg o
 | [],_,_,h=>by unfold RelL at h;rw[h.2];exact fun _ z=>nomatch z
 | x::xs,_,_,h=>by
  unfold RelL at h
  obtain⟨v,ws,f1,f2,_,h1,h2,rfl⟩:=h
  intro b hb
  rcases List.mem_append.mp hb with hb | hb
  ·exact Rel.chg h1 b hb
  ·exact RelL.chg h2 b hb
end
def Rel.there(h:Rel T F B L H x v fp)(a:Addr)(ha:a∈fp):∃o,H a=some o:=let⟨o,q,_⟩:=h.chg a ha;⟨o,q⟩
def RelL.there(h:RelL T F B L H xs vs fp)(a:Addr)(ha:a∈fp):∃o,H a=some o:=let⟨o,q,_⟩:=h.chg a ha;⟨o,q⟩
def AY:Mp T Fl.lend (fun _=>false) (fun _=>[]) L F B L H F B L H :=
 ⟨fun f a vs _ c h=>by
  cases f with
  | own=>exact⟨c rfl,h⟩
  | _=>exact h,fun f a _ c h=>⟨by
  cases f with
  | own=>exact c rfl
  | _=>exact h,fun _ q=>q⟩,fun f a x y h=>by cases f<;>exact⟨rfl,rfl⟩,rfl,fun _ _=>rfl,fun _ _ q _=>q⟩
def Rel.lend(hp:∀a∈fp,L a)(h:Rel T F B L H x v fp):Rel T F B L H (x.mapF Fl.lend) v []:=AY.rel (mD x) hp h
end
end PR
namespace L2
open PySem PySem.Spec
def PE.wk(h:PE X e t)(w:∀Y H Q,t' Y H Q->t Y H Q):PE X e t':=fun js s Y H Q I q=>h js s Y H Q I (w Y H Q q)
def PA.wk(h:PA X e t)(w:∀Y H Q,t' Y H Q->t Y H Q):PA X e t':=fun pos js s Y H Q I q=>h pos js s Y H Q I (w Y H Q q)
def PT.wk(h:PT X e t)(w:∀Y H Q,t' Y H Q->t Y H Q):PT X e t':=fun js s Y H Q I q=>h js s Y H Q I (w Y H Q q)
def PW.wk(h:PW X e t)(w:∀Y H Q,t' Y H Q->t Y H Q):PW X e t':=fun wh js s Y H Q I q=>h wh js s Y H Q I (w Y H Q q)
def PS.wk(h:PS X e t)(w:∀D Y H,t' D Y H->t D Y H):PS X e t':=fun js s Y H D I q=>h js s Y H D I (w D Y H q)
def PSs.wk(h:PSs X e t)(w:∀D Y H,t' D Y H->t D Y H):PSs X e t':=fun js s Y H D I q=>h js s Y H D I (w D Y H q)
end L2
namespace PR
open PySem PySem.Spec L2
structure Zn where
 H0:Hp
 F0:Addr->Prop
 fp0:Addr->Prop
 B:Addr->Prop
 pin:Option V:=none
abbrev NoL:Addr->Prop:=fun _=>False
structure ck(T:Tb)(Z:Zn)(F:Addr->Prop)(H:Hp):Prop where
 bo:∀a,Z.B a->(∃o,Z.H0 a=some o)/\¬Z.fp0 a
 keep:∀a o,Z.H0 a=some o->¬Z.fp0 a->H a=some o
 f0:∀a,Z.F0 a->F a
 fn:∀a,F a->Z.F0 a\/Z.H0 a=none\/Z.fp0 a
 ft:∀a,F a->∃o,H a=some o
structure av(T:Tb)(Z:Zn)(F:Addr->Prop)(H:Hp)(Y:St)(env:En)(fp:Nat->List Addr):Prop where
 hp:ck T Z F H
 len:Y.length=env.length
 rel:∀(i:Nat) (pv:PV),env[i]?=some (some pv)->∃v,Y[i]?=some (some v)/\Rel T F Z.B NoL H pv v (fp i)
 nd:∀i,(fp i).Nodup
 dj:∀i j,i≠j->∀a∈fp i,a∉fp j
 dis:∀i,∀a∈fp i,¬F a/\∃o,H a=some o
 new:∀i,∀a∈fp i,Z.H0 a=none\/Z.fp0 a
 ch:∀i,∀a∈fp i,∃o,H a=some o/\Chg o
 pn:∀v,Z.pin=some v->Y[0]?=some (some v)/\cK env=true
def Own(fp:Nat->List Addr):Addr->Prop:=fun a=>∃i,a∈fp i
structure Gr(F:Addr->Prop)(H:Hp)(F':Addr->Prop)(H':Hp):Prop where
 ext:Ext H H'
 mono:∀a,F a->F' a
 only:∀a,F' a->F a\/H a=none
 dom:∀a,F' a->∃o,H' a=some o
def Gr.refl(h:∀a,F a->∃o,H a=some o):Gr F H F H:=⟨Ext.refl,fun _ h=>h,fun _ h=>.inl h,h⟩
def Gr.trans(a:Gr F H F1 H1)(b:Gr F1 H1 F2 H2):Gr F H F2 H2 :=
 ⟨a.ext.trans b.ext,fun c h=>b.mono c (a.mono c h),fun c h=>(b.only c h).elim (a.only c) fun z=>.inr (a.ext.free z),b.dom⟩
def Gr.same(h:∀a,F a->∃o,H a=some o)(e:Ext H H'):Gr F H F H':=⟨e,fun _ h=>h,fun _ h=>.inl h,fun a q=>let⟨o,z⟩:=h a q;⟨o,e a o z⟩⟩
section
variable{T:Tb}{Z:Zn}{F F':Addr->Prop}{H H':Hp}{Y:St}{env:En}{fp:Nat->List Addr}
def ck.grow(S:ck T Z F H)(g:Gr F H F' H'):ck T Z F' H' :=
 ⟨S.bo,fun a o h n=>g.ext a o (S.keep a o h n),fun a h=>g.mono a (S.f0 a h),fun a h=>by
  rcases g.only a h with z | z
  ·exact S.fn a z
  ·refine .inr ?_
   by_cases q:Z.fp0 a
   ·exact .inr q
   ·refine .inl ?_
    cases w:Z.H0 a with
    | none=>rfl
    | some o=>rw[S.keep a o w q]at z;exact(nomatch z),g.dom⟩
def av.grow(S:av T Z F H Y env fp)(g:Gr F H F' H'):av T Z F' H' Y env fp :=
 ⟨S.hp.grow g,S.len,fun i pv h=>let ⟨v,q1,q2⟩:=S.rel i pv h;⟨v,q1,q2.ext g.ext g.mono⟩,S.nd,S.dj,fun i a h=>by
  obtain⟨n,o,q⟩:=S.dis i a h
  refine⟨fun z=>?_,o,g.ext a o q⟩
  rcases g.only a z with z | z
  ·exact n z
  ·rw[q]at z;exact(nomatch z),S.new,fun i a h=>let⟨o,q,c⟩:=S.ch i a h;⟨o,g.ext a o q,c⟩,S.pn⟩
end
def GE(T:Tb)(W:Nat->St->Hp->Prop)(B F L:Addr->Prop)(Y:St)(H:Hp)(Q:VK):Res PV->Prop
 | .ok pv=>∀v H' F' f,Gr F H F' H'->Rel T F' B L H' pv v f->(∀a∈f,¬F' a)->f.Nodup->(∀a∈f,H a=none)->Q v H'
 | .exc c=>∀H',Ext H H'->W c Y H'
 | .stuck=>False
def GA(T:Tb)(W:Nat->St->Hp->Prop)(B F L:Addr->Prop)(Y:St)(H:Hp)(Q:List V->Hp->Prop):Res (List PV)->Prop
 | .ok pvs=>∀vs H' F' f,Gr F H F' H'->RelL T F' B L H' pvs vs f->(∀a∈f,¬F' a)->f.Nodup->(∀a∈f,H a=none)->Q vs H'
 | .exc c=>∀H',Ext H H'->W c Y H'
 | .stuck=>False
def GT(W:Nat->St->Hp->Prop)(F:Addr->Prop)(Y:St)(H:Hp)(Q:Bool->Hp->Prop):Res Bool->Prop
 | .ok b=>∀H' F',Gr F H F' H'->Q b H'
 | .exc c=>∀H',Ext H H'->W c Y H'
 | .stuck=>False
def tE(T:Tb)(W:Nat->St->Hp->Prop)(m:ME):TE:=fun Y H Q=>∃Z F env fp,av T Z F H Y env fp/\GE T W Z.B F (Own fp) Y H Q (m env)
def tA(T:Tb)(W:Nat->St->Hp->Prop)(m:MA):TA:=fun Y H Q=>∃Z F env fp,av T Z F H Y env fp/\GA T W Z.B F (Own fp) Y H Q (m env)
def tT(T:Tb)(W:Nat->St->Hp->Prop)(m:MT):TT:=fun Y H Q=>∃Z F env fp,av T Z F H Y env fp/\GT W F Y H Q (m env)
abbrev SE(X:Cx)(T:Tb)(W:Nat->St->Hp->Prop)(e:Expr)(m:ME):Prop:=PE X e (tE T W m)
abbrev SA(X:Cx)(T:Tb)(W:Nat->St->Hp->Prop)(es:List Expr)(m:MA):Prop:=PA X es (tA T W m)
abbrev ST(X:Cx)(T:Tb)(W:Nat->St->Hp->Prop)(e:Expr)(m:MT):Prop:=PT X e (tT T W m)
section
variable{X:Cx}{T:Tb}{W:Nat->St->Hp->Prop}{Z:Zn}{F F' B L:Addr->Prop}{H H':Hp}{Y:St}{env:En}{fp:Nat->List Addr}
def GE.scal{Q:VK}{pv:PV}{v:V}(q:GE T W B F L Y H Q (.ok pv))(g:Gr F H F' H')(r:Rel T F' B L H' pv v []):Q v H' :=
 q v H' F' [] g r (fun _ z=>(nomatch z)) List.nodup_nil (fun _ z=>(nomatch z))
def lI{v:V}{pv:PV}(h:PE X e (tC v))(r:∀F B L H,Rel T F B L H pv v []):SE X T W e (mC pv):=PE.wk h fun Y H Q ⟨Z,F,env,fp,S,q⟩=>q.scal (Gr.refl S.hp.ft) (r _ _ _ _)
def ai{i j pos}:SE X T W (.Constant (.int i) j pos) (mC (.int i)):=lI oK fun _ _ _ _=>by unfold Rel;exact⟨rfl,rfl⟩
def fP{b j pos}:SE X T W (.Constant (.bool b) j pos) (mC (.bl b)):=lI FN fun _ _ _ _=>by unfold Rel;exact⟨rfl,rfl⟩
def oB{j pos}:SE X T W (.Constant .none j pos) (mC .non):=lI wM fun _ _ _ _=>by unfold Rel;exact⟨rfl,rfl⟩
def aX{x j pos}:SE X T W (.Constant (.str x) j pos) (mC (.str x)):=lI gJ fun _ _ _ _=>by unfold Rel;exact⟨rfl,rfl⟩
def Ci(hN:X.N[i]?=some x)(hv:Vis X.env.scope x)(hd:(x ==("__debug__" : Str))=false:=by decide)(hcd:(x ==("__classdict__" : Str))=false:=by decide):SE X T W (.Name x pos) (ac i) :=
 PE.wk (dy hN hv hd hcd) fun Y H Q hz1=>by
  obtain⟨Z,F,env,fp,S,q⟩:=hz1
  unfold ac at q
  split at q
  ·rename_i pv e
   obtain⟨v,e1,r⟩:=S.rel i pv e
   refine⟨v,e1,q.scal (Gr.refl S.hp.ft) ?_⟩
   exact Rel.lend (fun a h=>⟨i,h⟩) (Rel.tr (fun _ h=>h) (fun _ h=>h) (fun _ h=>h.elim) (fun a o q _=>q) (fun a _ o q=>q) r)
  ·exact q.elim
def tE.bind(S:av T Z F H Y env fp)(hx:∀c,m env=.exc c->∀H',Ext H H'->W c Y H')(hs:m env≠.stuck)
  (k:∀pv v H' F' f,m env=.ok pv->Gr F H F' H'->Rel T F' Z.B (Own fp) H' pv v f->(∀a∈f,¬F' a)->f.Nodup->(∀a∈f,H a=none)->Q v H'):tE T W m Y H Q:=by
 refine⟨Z,F,env,fp,S,?_⟩
 cases e:m env with
 | ok pv=>exact fun v H' F' f g r h1 h2 h3=>k pv v H' F' f e g r h1 h2 h3
 | exc c=>exact hx c e
 | stuck=>exact hs e
def tA.bind(S:av T Z F H Y env fp)(hx:∀c,m env=.exc c->∀H',Ext H H'->W c Y H')(hs:m env≠.stuck)
  (k:∀pvs vs H' F' f,m env=.ok pvs->Gr F H F' H'->RelL T F' Z.B (Own fp) H' pvs vs f->(∀a∈f,¬F' a)->f.Nodup->(∀a∈f,H a=none)->Q vs H'):tA T W m Y H Q:=by
 refine⟨Z,F,env,fp,S,?_⟩
 cases e:m env with
 | ok pv=>exact fun v H' F' f g r h1 h2 h3=>k pv v H' F' f e g r h1 h2 h3
 | exc c=>exact hx c e
 | stuck=>exact hs e
def tT.bind(S:av T Z F H Y env fp)(hx:∀c,m env=.exc c->∀H',Ext H H'->W c Y H')(hs:m env≠.stuck)
  (k:∀b H' F',m env=.ok b->Gr F H F' H'->Q b H'):tT T W m Y H Q:=by
 refine⟨Z,F,env,fp,S,?_⟩
 cases e:m env with
 | ok pv=>exact fun H' F' g=>k pv H' F' e g
 | exc c=>exact hx c e
 | stuck=>exact hs e
def ag:SA X T W [] am:=PA.wk gK fun Y H Q ⟨Z,F,env,fp,S,q⟩=>q [] H F [] (Gr.refl S.hp.ft) (by unfold RelL;exact⟨rfl,rfl⟩) (fun _ z=>(nomatch z)) List.nodup_nil (fun _ z=>(nomatch z))
def aa(ha:SE X T W e m)(hr:SA X T W es ms)(hs:starEach (e::es) X.env=(false,eval e X.env)::starEach es X.env:=by rfl):SA X T W (e::es) (ae m ms) :=
 PA.wk (dD ha hr hs) fun Y H Q hz1=>by
  obtain⟨Z,F,env,fp,S,q⟩:=hz1
  unfold ae at q
  refine tE.bind S (fun c e=>by rw[e]at q;exact q) (fun e=>by rw[e]at q;exact q) fun x v H1 F1 f1 e1 g1 r1 n1 d1 w1=>?_
  rw[e1]at q
  simp only[Res.ok_bind]at q
  refine tA.bind (S.grow g1) (fun c e=>by rw[e]at q;exact fun H' x=>q H' (g1.ext.trans x)) (fun e=>by rw[e]at q;exact q) fun xs vs H2 F2 f2 e2 g2 r2 n2 d2 w2=>?_
  rw[e2]at q
  simp only[Res.ok_bind]at q
  have new1:∀a∈f1,¬F2 a:=fun a ha z=>by
   rcases g2.only a z with z | z
   ·exact n1 a ha z
   ·obtain⟨o,ho⟩:=r1.there a ha
    rw[ho]at z;cases z
  refine q (v::vs) H2 F2 (f1++f2) (g1.trans g2) (by unfold RelL;exact⟨v,vs,f1,f2,rfl,r1.ext g2.ext g2.mono,r2,rfl⟩) (fun a ha=>?_) ?_ (fun a ha=>?_)
  ·rcases List.mem_append.mp ha with ha | ha
   ·exact new1 a ha
   ·exact n2 a ha
  ·refine List.nodup_append.mpr ⟨d1,d2,fun a ha b hb z=>?_⟩
   subst z
   obtain⟨o,ho⟩:=r1.there a ha
   rw[w2 a hb]at ho;cases ho
  ·rcases List.mem_append.mp ha with ha | ha
   ·exact w1 a ha
   ·exact g1.ext.free (w2 a ha)
def aq(f:List PV->Res PV)(ms:MA):ME:=fun env=>(ms env).bind f
def Mir(T:Tb)(W:Nat->St->Hp->Prop)(f:List PV->Res PV)(r:List V->Hp->VK->Prop):Prop :=
 ∀(B F L:Addr->Prop) (Y:St) (H:Hp) (Q:VK) (F':Addr->Prop) (H':Hp) (xs:List PV) (vs:List V) (fx:List Addr),Gr F H F' H'->RelL T F' B L H' xs vs fx->(∀a∈fx,¬F' a)->fx.Nodup->(∀a∈fx,H a=none)->
  GE T W B F L Y H Q (f xs)->r vs H' Q
def tA.mir(hm:Mir T W f r)(h:tE T W (aq f ms) Y H Q):tA T W ms Y H fun vs H1=>r vs H1 Q:=by
 obtain⟨Z,F,env,fp,S,q⟩:=h
 unfold aq at q
 refine tA.bind S (fun c e=>by rw[e]at q;exact q) (fun e=>by rw[e]at q;exact q) fun xs vs H1 F1 f1 e1 g1 r1 n1 d1 w1=>?_
 rw[e1]at q
 exact hm Z.B F (Own fp) Y H Q F1 H1 xs vs f1 g1 r1 n1 d1 w1 q
def f8{id:String}{x:Str}{es:List Expr}{f:List PV->Res PV}{r:List V->Hp->VK->Prop}(hc:eZ X (.builtin id) r)(hmir:Mir T W f r)(hg:Gl X x)(hm:X.mg x=none)(hv:bootBuiltins x=some (.builtin id))(ha:SA X T W (e::es) ms)
  (hn:x≠"__name__" := by decide) (hdb:(x ==("__debug__" : Str))=false:=by decide)
  (he:starEach (e::es) X.env=(false,eval e X.env)::starEach es X.env:=by rfl) (hpl:(backTo pos (starEach es X.env)).any (·.1)=false:=by rfl):SE X T W (.Call (.Name x p) (e::es) [] pos) (aq f ms) :=
 PE.wk (lP hc hg hm hv ha hn hdb he hpl) fun Y H Q h=>tA.mir hmir h
def nN{id:String}{x:Str}{es:List Expr}{f:List PV->Res PV}{r:List V->Hp->VK->Prop}(hc:eZ X (.type id) r)(hmir:Mir T W f r)(hg:Gl X x)(hm:X.mg x=none)(hv:bootBuiltins x=some (.type id))(ha:SA X T W (e::es) ms)
  (hn:x≠"__name__" := by decide) (hdb:(x ==("__debug__" : Str))=false:=by decide)
  (he:starEach (e::es) X.env=(false,eval e X.env)::starEach es X.env:=by rfl) (hpl:(backTo pos (starEach es X.env)).any (·.1)=false:=by rfl):SE X T W (.Call (.Name x p) (e::es) [] pos) (aq f ms) :=
 PE.wk (km hc hg hm hv ha hn hdb he hpl) fun Y H Q h=>tA.mir hmir h
def kI(T:Tb)(W:Nat->St->Hp->Prop)(f:PV->PV->Res PV)(r:R2):Prop :=
 ∀(B F L:Addr->Prop) (Y:St) (H:Hp) (Q:VK) (F':Addr->Prop) (H':Hp) (x y:PV) (v u:V) (fx fy:List Addr),Gr F H F' H'->Rel T F' B L H' x v fx->Rel T F' B L H' y u fy->(∀a∈fx++fy,¬F' a)->(fx++fy).Nodup->(∀a∈fx++fy,H a=none)->
  GE T W B F L Y H Q (f x y)->r v u H' Q
def tE.mir2(hm:kI T W f r)(h:tE T W (mOp f ma mb) Y H Q):tOp r (tE T W ma) (tE T W mb) Y H Q:=by
 obtain⟨Z,F,env,fp,S,q⟩:=h
 unfold mOp at q
 refine tE.bind S (fun c e=>by rw[e]at q;exact q) (fun e=>by rw[e]at q;exact q) fun x v H1 F1 f1 e1 g1 r1 n1 d1 w1=>?_
 rw[e1]at q
 simp only[Res.ok_bind]at q
 refine tE.bind (S.grow g1) (fun c e=>by rw[e]at q;exact fun H' x=>q H' (g1.ext.trans x)) (fun e=>by rw[e]at q;exact q) fun y u H2 F2 f2 e2 g2 r2 n2 d2 w2=>?_
 rw[e2]at q
 simp only[Res.ok_bind]at q
 have new1:∀a∈f1,¬F2 a:=fun a ha z=>by
  rcases g2.only a z with z | z
  ·exact n1 a ha z
  ·obtain⟨o,ho⟩:=r1.there a ha
   rw[ho]at z;cases z
 refine hm Z.B F (Own fp) Y H Q F2 H2 x y v u f1 f2 (g1.trans g2) (r1.ext g2.ext g2.mono) r2 (fun a ha=>?_) ?_ (fun a ha=>?_) q
 ·rcases List.mem_append.mp ha with ha | ha
  ·exact new1 a ha
  ·exact n2 a ha
 ·refine List.nodup_append.mpr ⟨d1,d2,fun a ha b hb z=>?_⟩
  subst z
  obtain⟨o,ho⟩:=r1.there a ha
  rw[w2 a hb]at ho;cases ho
 ·rcases List.mem_append.mp ha with ha | ha
  ·exact w1 a ha
  ·exact g1.ext.free (w2 a ha)
def kM(ho:OpR X (binaryOp op) r)(hm:kI T W f r)(ha:SE X T W a ma)(hb:SE X T W b mb):SE X T W (.BinOp a op b pos) (mOp f ma mb) :=
 PE.wk (FM (pos:=pos) ho ha hb) fun Y H Q h=>tE.mir2 hm h
def rG(ho:OpR X (compareOp op) r)(hm:kI T W f r)(ha:SE X T W a ma)(hb:SE X T W b mb)(hk:behindInMarks op b=false):SE X T W (.Compare a [op] [b] pos) (mOp f ma mb) :=
 PE.wk (AG (pos:=pos) ho ha hb hk) fun Y H Q h=>tE.mir2 hm h
def FD(hr:IxR X r)(hm:kI T W f r)(ha:SE X T W a ma)(hb:SE X T W b mb)(hs:i8 b):SE X T W (.Subscript a b pos) (mOp f ma mb) :=
 PE.wk (wN (pos:=pos) hr ha hb hs) fun Y H Q h=>tE.mir2 hm h
def lX(hg:∀i j F B L H,Rel T F B L H (g' i j) (g i j) []):kI T W (di g') (rI0 g):=by
  intro B F L Y H Q F' H' x y v u fx fy gr rx ry _ _ _ q
  cases x<;>cases y<;>first
    | exact q.elim
    | (unfold Rel at rx ry
       exact⟨_,_,rx.1,ry.1,q.scal gr (hg _ _ _ _ _ _)⟩)
def qk(hc:∀i j,C' i j=true->C i j)(hg:∀i j F B L H,Rel T F B L H (g' i j) (g i j) []):kI T W (fE C' g') (rI C g):=by
  intro B F L Y H Q F' H' x y v u fx fy gr rx ry _ _ _ q
  cases x<;>cases y<;>first
    | exact q.elim
    | (unfold Rel at rx ry
       simp only[fE]at q
       split at q
       . rename_i hh
         exact⟨_,_,rx.1,ry.1,hc _ _ hh,q.scal gr (hg _ _ _ _ _ _)⟩
       . exact q.elim)
def fe:Rel T F B L H (.int i) (.int i) []:=by unfold Rel;exact⟨rfl,rfl⟩
def kX:Rel T F B L H (.bl i) (.bl i) []:=by unfold Rel;exact⟨rfl,rfl⟩
def HY:Rel T F B L H .non .non []:=by unfold Rel;exact⟨rfl,rfl⟩
def gc:PV->PV->Res PV:=di fun i j=>.int (i - j)
def dG:PV->PV->Res PV:=fE (fun i j=>decide ((-(2 ^ 64) < i/\i < 2 ^ 64)\/(-(2 ^ 64) < j/\j < 2 ^ 64))) fun i j=>.int (i * j)
def ef:PV->PV->Res PV:=fE (fun _ j=>decide (0 < j)) fun i j=>.int (i % j)
def fN:PV->PV->Res PV:=fE (fun _ j=>decide (0 < j/\j < 1073741824)) fun i j=>.int (i / j)
def uQ:PV->PV->Res PV:=fE (fun i j=>decide (0<=j/\j<=1000000/\i.natAbs < 2 ^ 64)) fun i j=>.int (i ^ j.toNat)
def pLt:PV->PV->Res PV:=di fun i j=>.bl (decide (i < j))
def pLe:PV->PV->Res PV:=di fun i j=>.bl (decide (i<=j))
def pGt:PV->PV->Res PV:=di fun i j=>.bl (decide (j < i))
def pGe:PV->PV->Res PV:=di fun i j=>.bl (decide (j<=i))
variable{a b:Expr}{ma mb:ME}{pos:Pos}
def c_(ha:SE X T W a ma)(hb:SE X T W b mb):SE X T W (.BinOp a .Sub b pos) (mOp gc ma mb):=kM CQ (lX fun _ _ _ _ _ _=>fe) ha hb
def dS(ha:SE X T W a ma)(hb:SE X T W b mb):SE X T W (.BinOp a .Mult b pos) (mOp dG ma mb):=kM CU (qk (fun i j h=>(by simpa using h:(-(2 ^ 64) < i/\i < 2 ^ 64)\/(-(2 ^ 64) < j/\j < 2 ^ 64))) fun _ _ _ _ _ _=>fe) ha hb
def cW(ha:SE X T W a ma)(hb:SE X T W b mb):SE X T W (.BinOp a .Mod b pos) (mOp ef ma mb):=kM CV (qk (fun _ _ h=>of_decide_eq_true h) fun _ _ _ _ _ _=>fe) ha hb
def fV(ha:SE X T W a ma)(hb:SE X T W b mb):SE X T W (.BinOp a .FloorDiv b pos) (mOp fN ma mb):=kM AM (qk (fun i j h=>(by simpa using h:0 < j/\j < 1073741824)) fun _ _ _ _ _ _=>fe) ha hb
def rE(ha:SE X T W a ma)(hb:SE X T W b mb):SE X T W (.BinOp a .Pow b pos) (mOp uQ ma mb):=kM CT (qk (fun i j h=>(by simpa using h:0<=j/\j<=1000000/\i.natAbs < 2 ^ 64)) fun _ _ _ _ _ _=>fe) ha hb
end
def GS(T:Tb)(W:Nat->St->Hp->Prop)(Z:Zn)(D:Ends):Out->Prop
 | .next e=>∀F H Y fp,av T Z F H Y e fp->D.nx Y H
 | .ret pv=>∀F H v f,ck T Z F H->Rel T F Z.B NoL H pv v f->f.Nodup->(∀a∈f,¬F a)->(∀a∈f,Z.H0 a=none\/Z.fp0 a)->D.rt v H
 | .brk e=>∀F H Y fp,av T Z F H Y e fp->D.bk Y H
 | .cont e=>∀F H Y fp,av T Z F H Y e fp->D.ct Y H
 | .exc c e=>∀F H Y fp,av T Z F H Y e fp->W c Y H
 | .stuck=>False
def tS(T:Tb)(W:Nat->St->Hp->Prop)(m:MS):TS:=fun D Y H=>∃Z F env fp,av T Z F H Y env fp/\GS T W Z D (m env)
abbrev SS(X:Cx)(T:Tb)(W:Nat->St->Hp->Prop)(st:Stmt)(m:MS):Prop:=PS X st (tS T W m)
abbrev SSs(X:Cx)(T:Tb)(W:Nat->St->Hp->Prop)(sts:List Stmt)(m:MS):Prop:=PSs X sts (tS T W m)
def xy{p:Fl->Bool}(hL:p .lnt=false->∀a,L a->L' a)(hB:p .bor=false->∀a,B a->B' a):Mp T (fun f=>f) p (fun x=>x) (fun _=>True) F B L H F B' L' H :=
 ⟨fun f a vs q _ h=>by
  cases f with
  | lnt=>exact⟨hL q a h.1,h.2⟩
  | bor=>exact⟨hB q a h.1,h.2⟩
  | _=>exact h,fun f a q _ h=>⟨by
  cases f with
  | lnt=>exact hL q a h
  | bor=>exact hB q a h
  | _=>exact h,fun _ q=>q⟩,fun _ _ _ _ h=>h,rfl,fun _ _=>rfl,fun _ _ q _=>q⟩
def Rel.noL(hp:x.has Fl.isLnt=false)(h:Rel T F B L H x v fo):Rel T F B L' H x v fo:=by
 have:=(xy (p:=Fl.isLnt) (L':=L') (fun z=>(nomatch z)) (fun _ _ q=>q)).rel hp (fun _ _=>True.intro) h
 rwa [lf]at this
def RelL.noL(hp:hasL Fl.isLnt x=false)(h:RelL T F B L H x v fo):RelL T F B L' H x v fo:=by
 have:=(xy (p:=Fl.isLnt) (L':=L') (fun z=>(nomatch z)) (fun _ _ q=>q)).rels hp (fun _ _=>True.intro) h
 rwa [mapL_id]at this
section
variable{X:Cx}{T:Tb}{W:Nat->St->Hp->Prop}{Z:Zn}{F F' B L:Addr->Prop}{H H':Hp}{Y:St}{env:En}{fp:Nat->List Addr}{D:Ends}
def br(fp:Nat->List Addr)(i:Nat)(f:List Addr):Nat->List Addr:=fun j=>if j=i then f else fp j
def av.put(S:av T Z F H Y env fp){i:Nat}{pv:PV}{v:V}{f:List Addr}(r:Rel T F Z.B NoL H pv v f)(nd:f.Nodup)(nf:∀a∈f,¬F a)(new:∀a∈f,Z.H0 a=none\/Z.fp0 a)(dj:∀a∈f,∀j,j≠i->a∉fp j)(ho:aU i env=true) :
  av T Z F H (Y.set i (some v)) (env.set i (some pv)) (br fp i f):=by
 refine⟨S.hp,by rw[List.length_set,List.length_set,S.len],fun j pv' e=>?_,fun j=>?_,fun j k hjk a ha=>?_,fun j a ha=>?_,fun j a ha=>?_,fun j a ha=>?_,fun w hw=>?_⟩
 ·grind[br,av,ck,Gr]
 ·unfold br;split
  ·exact nd
  ·exact S.nd j
 ·grind[br,av,ck,Gr]
 ·unfold br at ha
  by_cases h1:j=i
  ·rw[if_pos h1]at ha;exact⟨nf a ha,r.there a ha⟩
  ·rw[if_neg h1]at ha;exact S.dis j a ha
 ·unfold br at ha
  by_cases h1:j=i
  ·rw[if_pos h1]at ha;exact new a ha
  ·rw[if_neg h1]at ha;exact S.new j a ha
 ·unfold br at ha
  by_cases h1:j=i
  ·rw[if_pos h1]at ha;exact r.chg a ha
  ·rw[if_neg h1]at ha;exact S.ch j a ha
 ·obtain⟨h1,h2⟩:=S.pn w hw
  have hi:i≠0:=fun z=>by
   rw[z]at ho
   simp[aU,h2]at ho
  refine⟨by rw[List.getElem?_set_ne hi];exact h1,?_⟩
  unfold cK at h2 ⊢
  rw[List.getElem?_set_ne hi]
  exact h2
def av.putN(S:av T Z F H Y env fp)(g:Gr F H F' H'){i:Nat}{pv:PV}{v:V}{f:List Addr}(ho:aU i env=true)(r:Rel T F' Z.B L H' pv v f)(hl:pv.noLnt=true)(nf:∀a∈f,¬F' a)(nd:f.Nodup)(w:∀a∈f,H a=none) :
  av T Z F' H' (Y.set i (some v)) (env.set i (some pv)) (br fp i f):=by
 refine(S.grow g).put (Rel.noL (by simpa[PV.noLnt]using hl) r) nd nf (fun a ha=>?_) (fun a ha j _ hj=>?_) ho
 ·by_cases q:Z.fp0 a
  ·exact .inr q
  ·refine .inl ?_
   cases e:Z.H0 a with
   | none=>rfl
   | some o =>
    have:=S.hp.keep a o e q
    rw[w a ha]at this;cases this
 ·obtain⟨_,o,ho⟩:=S.dis j a hj
  rw[w a ha]at ho;cases ho
def aT:SSs X T W [] aZ:=PSs.wk At fun D Y H ⟨Z,F,env,fp,S,q⟩=>q F H Y fp S
def ah{bF:List Stmt}(h1:SS X T W st a)(h2:SSs X T W bF b):SSs X T W (st::bF) (au a b) :=
 PSs.wk (ir h1 h2) fun D Y H hz1=>by
  obtain⟨Z,F,env,fp,S,q⟩:=hz1
  refine⟨Z,F,env,fp,S,?_⟩
  unfold au at q
  cases e:a env with
  | next e'=>rw[e]at q;exact fun F' H' σ' fp' S'=>⟨Z,F',e',fp',S',q⟩
  | ret v | brk e' | cont e' | exc c e' | stuck=>rw[e]at q;exact q
def ak(h1:SS X T W st a):SSs X T W [st] a:=oG h1
def bf(hc:ST X T W c mc)(ha:SSs X T W a ma)(hb:SSs X T W b mb):SS X T W (.If c a b pos) (mBr mc ma mb) :=
 PS.wk (FJ (pos:=pos) hc ha hb) fun D Y H hz1=>by
  obtain⟨Z,F,env,fp,S,q⟩:=hz1
  unfold mBr at q
  refine tT.bind S (fun c e H' x=>?_) (fun e=>by rw[e]at q;exact q) fun b H' F' e g=>?_
  ·rw[e]at q
   exact q F H' Y fp (S.grow (Gr.same S.hp.ft x))
  ·cases b with
   | true=>rw[e]at q;exact(if_pos rfl).mpr ⟨Z,F',env,fp,S.grow g,q⟩
   | false=>rw[e]at q;exact(if_neg (by decide)).mpr ⟨Z,F',env,fp,S.grow g,q⟩
def Ce(hN:X.N.Nodup)(hi:X.N[i]?=some x)(hx:Loc X.env.scope x)(he:SE X T W e m)(hs:swapsWith e (some (.Name x pos')) pos.line X.env=pure false:=by rfl)
  (hf:X.fn x=true\/X.env.scope.names.lookup x=some .local:=by first | exact .inl rfl | exact .inr rfl | assumption):SS X T W (.Assign [.Name x pos'] e pos) (aS i m) :=
 PS.wk (rO (pos:=pos) hN hi hx he hs hf) fun D Y H hz1=>by
  obtain⟨Z,F,env,fp,S,q⟩:=hz1
  unfold aS at q
  refine tE.bind S (fun c e H' x=>?_) (fun e=>by rw[e]at q;exact q) fun pv v H1 F1 f e g r h1 h2 h3=>?_
  ·rw[e]at q
   exact q F H' Y fp (S.grow (Gr.same S.hp.ft x))
  ·rw[e]at q
   simp only at q
   split at q
   ·rename_i hl
    rw[Bool.and_eq_true]at hl
    exact q F1 H1 _ _ (S.putN g hl.2 r hl.1 h1 h2 h3)
   ·exact q.elim
def ck.newE(S:ck T Z F H){f:List Addr}(w:∀a∈f,H a=none):∀a∈f,Z.H0 a=none\/Z.fp0 a:=fun a ha=>by
 by_cases q:Z.fp0 a
 ·exact .inr q
 ·refine .inl ?_
  cases e:Z.H0 a with
  | none=>rfl
  | some o =>
   have:=S.keep a o e q
   rw[w a ha]at this;cases this
def aJ(he:SE X T W e m):SS X T W (.Return (some e) pos) (bz m) :=
 PS.wk (rP (pos:=pos) he) fun D Y H hz1=>by
  obtain⟨Z,F,env,fp,S,q⟩:=hz1
  unfold bz at q
  refine tE.bind S (fun c e H' x=>?_) (fun e=>by rw[e]at q;exact q) fun pv v H1 F1 f e g r h1 h2 h3=>?_
  ·rw[e]at q
   exact q F H' Y fp (S.grow (Gr.same S.hp.ft x))
  ·rw[e]at q
   simp only at q
   split at q
   ·rename_i hl
    exact q F1 H1 v f (S.hp.grow g) (Rel.noL (by simpa[PV.noLnt]using hl) r) h2 h1 (S.hp.newE h3)
   ·exact q.elim
def dQ(hN:X.N[i]?=some x)(hv:Vis X.env.scope x)(hd:(x ==("__debug__" : Str))=false:=by decide)(hcd:(x ==("__classdict__" : Str))=false:=by decide):SS X T W (.Return (some (.Name x pos')) pos) (eY i) :=
 PS.wk (rP (pos:=pos) (dy hN hv hd hcd)) fun D Y H hz1=>by
  obtain⟨Z,F,env,fp,S,q⟩:=hz1
  unfold eY at q
  split at q
  ·rename_i pv e
   obtain⟨v,e1,r⟩:=S.rel i pv e
   exact⟨v,e1,q F H v (fp i) S.hp r (S.nd i) (fun a ha=>(S.dis i a ha).1) (S.new i)⟩
  ·exact q.elim
def gF(he:SE X T W e m)(hs:swapsWith e none pos.line X.env=pure false:=by rfl):SS X T W (.Expr e pos) (iG m) :=
 PS.wk (iW (pos:=pos) he hs) fun D Y H hz1=>by
  obtain⟨Z,F,env,fp,S,q⟩:=hz1
  unfold iG at q
  refine tE.bind S (fun c e H' x=>?_) (fun e=>by rw[e]at q;exact q) fun pv v H1 F1 f e g r h1 h2 h3=>?_
  ·rw[e]at q
   exact q F H' Y fp (S.grow (Gr.same S.hp.ft x))
  ·rw[e]at q
   exact q F1 H1 Y fp (S.grow g)
def uX(hF:∀a,F a->F' a):Mp T Fl.freeze (fun _=>false) (fun _=>[]) F' F B L H F' B L H :=
 ⟨fun f a vs _ c h=>by
  cases f with
  | own=>exact⟨c rfl,.inl h⟩
  | frz=>exact⟨hF a h.1,h.2⟩
  | _=>exact h,fun f a _ c h=>⟨by
  cases f with
  | own=>exact c rfl
  | frz=>exact hF a h
  | _=>exact h,fun _ q=>q⟩,fun f a x y h=>by cases f<;>exact⟨rfl,rfl⟩,rfl,fun _ _=>rfl,fun _ _ q _=>q⟩
def Rel.freeze(hF:∀a,F a->F' a)(hp:∀a∈fo,F' a)(h:Rel T F B L H x v fo):Rel T F' B L H (x.mapF Fl.freeze) v []:=(uX hF).rel (mD x) hp h
def av.frz(S:av T Z F H Y env fp){i:Nat}{pv:PV}(e:env[i]?=some (some pv)):av T Z (fun a=>F a\/a∈fp i) H Y (env.set i (some (pv.mapF Fl.freeze))) (br fp i []):=by
 have hi:i < env.length:=(List.getElem?_eq_some_iff.mp e).1
 refine⟨⟨S.hp.bo,S.hp.keep,fun a h=>.inl (S.hp.f0 a h),fun a h=>h.elim (S.hp.fn a) fun z=>.inr (S.new i a z),fun a h=>h.elim (S.hp.ft a) fun z=>(S.dis i a z).2⟩,by rw[List.length_set,S.len],fun j pv' e'=>?_,fun j=>?_,fun j k hjk a ha=>?_,fun j a ha=>?_,fun j a ha=>?_,fun j a ha=>?_,fun w hw=>?_⟩
 ·by_cases hj:j=i
  ·subst hj
   rw[List.getElem?_set_self hi]at e'
   cases e'
   obtain⟨v,h1,h2⟩:=S.rel j pv e
   refine⟨v,h1,?_⟩
   unfold br
   rw[if_pos rfl]
   exact Rel.freeze (fun _ h=>.inl h) (fun a h=>.inr h) h2
  ·rw[List.getElem?_set_ne (Ne.symm hj)]at e'
   obtain⟨w,h1,h2⟩:=S.rel j pv' e'
   refine⟨w,h1,?_⟩
   unfold br
   rw[if_neg hj]
   exact h2.ext Ext.refl fun _ h=>.inl h
 ·unfold br;split
  ·exact List.nodup_nil
  ·exact S.nd j
 ·grind[br,av,ck,Gr]
 ·unfold br at ha
  by_cases h1:j=i
  ·rw[if_pos h1]at ha;cases ha
  ·rw[if_neg h1]at ha
   exact⟨fun z=>z.elim (S.dis j a ha).1 fun z=>S.dj j i h1 a ha z,(S.dis j a ha).2⟩
 ·unfold br at ha
  by_cases h1:j=i
  ·rw[if_pos h1]at ha;cases ha
  ·rw[if_neg h1]at ha;exact S.new j a ha
 ·unfold br at ha
  by_cases h1:j=i
  ·rw[if_pos h1]at ha;cases ha
  ·rw[if_neg h1]at ha;exact S.ch j a ha
 ·obtain⟨h1,h2⟩:=S.pn w hw
  refine⟨h1,?_⟩
  unfold cK at h2 ⊢
  by_cases hi0:i=0
  ·subst hi0
   rw[e]at h2
   rw[List.getElem?_set_self hi]
   cases pv<;>first | exact h2 |(cases h2;done) | rfl
  ·rw[List.getElem?_set_ne hi0]
   exact h2
def cI{i:Nat}{sts:List Stmt}(h:SSs X T W sts m):SSs X T W sts (au (eV i) m):=PSs.wk h fun D Y H hz1=>by
 obtain⟨Z,F,env,fp,S,q⟩:=hz1
 cases e:env[i]? with
 | none=>simp[au,eV,e]at q;exact q.elim
 | some w =>
  cases w with
  | none=>simp[au,eV,e]at q;exact q.elim
  | some pv =>
   simp only[au,eV,e]at q
   exact⟨Z,_,_,_,S.frz e,q⟩
def Zn.re(Z:Zn)(F:Addr->Prop)(H:Hp)(fp:Nat->List Addr):Zn:=⟨H,F,Own fp,Z.B,Z.pin⟩
def av.enter(S:av T Z F H Y env fp):av T (Z.re F H fp) F H Y env fp :=
 ⟨⟨fun a h=>by
   obtain⟨⟨o,h1⟩,h2⟩:=S.hp.bo a h
   refine⟨⟨o,S.hp.keep a o h1 h2⟩,fun⟨i,hi⟩=>?_⟩
   rcases S.new i a hi with z | z
   ·rw[h1]at z;cases z
   ·exact h2 z,fun _ _ h _=>h,fun _ h=>h,fun _ h=>.inl h,S.hp.ft⟩,S.len,S.rel,S.nd,S.dj,S.dis,fun i a ha=>.inr ⟨i,ha⟩,S.ch,S.pn⟩
def ck.leave(S:av T Z F H Y env fp)(S':ck T (Z.re F H fp) F' H'):ck T Z F' H' :=
 ⟨S.hp.bo,fun a o h n=>S'.keep a o (S.hp.keep a o h n) fun hz1=>by
   obtain⟨i,hi⟩:=hz1
   rcases S.new i a hi with z | z
   ·rw[h]at z;cases z
   ·exact n z,fun a h=>S'.f0 a (S.hp.f0 a h),fun a h=>by
  rcases S'.fn a h with z | z |⟨i,hi⟩
  ·exact S.hp.fn a z
  ·refine .inr ?_
   by_cases q:Z.fp0 a
   ·exact .inr q
   ·refine .inl ?_
    cases w:Z.H0 a with
    | none=>rfl
    | some o =>
     have z':H a=none:=z
     rw[S.hp.keep a o w q]at z';cases z'
  ·exact .inr (S.new i a hi),S'.ft⟩
def av.newL(S:av T Z F H Y env fp)(h:(Z.re F H fp).H0 a=none \/(Z.re F H fp).fp0 a):Z.H0 a=none\/Z.fp0 a:=by
 rcases h with z |⟨i,hi⟩
 ·by_cases q:Z.fp0 a
  ·exact .inr q
  ·refine .inl ?_
   cases w:Z.H0 a with
   | none=>rfl
   | some o =>
    have z':H a=none:=z
    rw[S.hp.keep a o w q]at z';cases z'
 ·exact S.new i a hi
def av.leave(S:av T Z F H Y env fp)(S':av T (Z.re F H fp) F' H' σ' env' fp'):av T Z F' H' σ' env' fp' :=
 ⟨ck.leave S S'.hp,S'.len,S'.rel,S'.nd,S'.dj,S'.dis,fun i a ha=>S.newL (S'.new i a ha),S'.ch,S'.pn⟩
abbrev SW(X:Cx)(T:Tb)(W:Nat->St->Hp->Prop)(e:Expr)(m:MT):Prop:=PW X e (tT T W m)
def tT.test(h:tT T W (aA m) Y H Q):tE T W m Y H fun x H'=>∃k,x=.bl k/\Q k H':=by
 obtain⟨Z,F,env,fp,S,q⟩:=h
 unfold aA at q
 refine tE.bind S (fun c e=>by rw[e]at q;exact q) (fun e=>by rw[e]at q;exact q) fun x v H1 F1 f1 e1 g1 r1 n1 d1 w1=>?_
 rw[e1]at q
 cases x with
 | bl b =>
  unfold Rel at r1
  exact⟨b,r1.1,q H1 F1 g1⟩
 | _=>exact q.elim
def gE(ho:OpR X (compareOp op) r)(hm:kI T W f r)(ha:SE X T W a ma)(hb:SE X T W b mb)(hk:behindInMarks op b=false):ST X T W (.Compare a [op] [b] pos) (aA (mOp f ma mb)) :=
 PT.wk (As (pos:=pos) ho ha hb hk) fun Y H Q h=>by
  obtain⟨Z,F,env,fp,S,q⟩:=tT.test h
  exact tE.mir2 hm ⟨Z,F,env,fp,S,q⟩
def fA(h:ST X T W a m):ST X T W (.UnaryOp .Not a pos) (fQ m):=PT.wk (CB (pos:=pos) h) fun Y H Q hz1=>by
 obtain⟨Z,F,env,fp,S,q⟩:=hz1
 unfold fQ at q
 refine tT.bind S (fun c e=>by rw[e]at q;exact q) (fun e=>by rw[e]at q;exact q) fun b H1 F1 e1 g1=>?_
 rw[e1]at q
 exact q H1 F1 g1
def e_(h:ST X T W a m):SW X T W (.BoolOp .And [a] pos) m:=Ar h
def dw(h:ST X T W a m):SW X T W (.BoolOp .Or [a] pos) m:=Cz h
def gC{bF:List Expr}(h:ST X T W a m)(h2:SW X T W (.BoolOp .And (b::bF) pos) n):SW X T W (.BoolOp .And (a::b::bF) pos) (g8 m n):=PW.wk (CA h h2) fun Y H Q hz1=>by
 obtain⟨Z,F,env,fp,S,q⟩:=hz1
 unfold g8 at q
 refine tT.bind S (fun c e=>by rw[e]at q;exact q) (fun e=>by rw[e]at q;exact q) fun b H1 F1 e1 g1=>?_
 rw[e1]at q
 cases b with
 | true =>
  refine(if_pos rfl).mpr ⟨Z,F1,env,fp,S.grow g1,?_⟩
  simp only[Res.ok_bind,if_true]at q
  cases e2:n env with
  | ok b=>rw[e2]at q;exact fun H2 F2 g2=>q H2 F2 (g1.trans g2)
  | exc c=>rw[e2]at q;exact fun H' x=>q H' (g1.ext.trans x)
  | stuck=>rw[e2]at q;exact q
 | false=>exact(if_neg (by decide)).mpr (q H1 F1 g1)
def dP{bF:List Expr}(h:ST X T W a m)(h2:SW X T W (.BoolOp .Or (b::bF) pos) n):SW X T W (.BoolOp .Or (a::b::bF) pos) (fH m n):=PW.wk (FI h h2) fun Y H Q hz1=>by
 obtain⟨Z,F,env,fp,S,q⟩:=hz1
 unfold fH at q
 refine tT.bind S (fun c e=>by rw[e]at q;exact q) (fun e=>by rw[e]at q;exact q) fun b H1 F1 e1 g1=>?_
 rw[e1]at q
 cases b with
 | false =>
  refine(if_neg (by decide)).mpr ⟨Z,F1,env,fp,S.grow g1,?_⟩
  simp only[Res.ok_bind,Bool.false_eq_true,if_false]at q
  cases e2:n env with
  | ok b=>rw[e2]at q;exact fun H2 F2 g2=>q H2 F2 (g1.trans g2)
  | exc c=>rw[e2]at q;exact fun H' x=>q H' (g1.ext.trans x)
  | stuck=>rw[e2]at q;exact q
 | true=>exact(if_pos rfl).mpr (q H1 F1 g1)
def SW.st(h:SW X T W e m):ST X T W e m:=PW.pt h
def b5(hK:X.K=T.K)(h:SE X T W a m)(he:∀whole,isTrue a X.env whole=(do let v <- whole;standAt a.pos;holding [v] (truthy v)):=by intro _;rfl):ST X T W a (dg m):=PT.wk (wy h he) fun Y H Q hz1=>by
 obtain⟨Z,F,env,fp,S,q⟩:=hz1
 unfold dg at q
 refine tE.bind S (fun c e=>by rw[e]at q;exact q) (fun e=>by rw[e]at q;exact q) fun x v H1 F1 f1 e1 g1 r1 n1 d1 w1=>?_
 rw[e1]at q
 rw[hK]
 cases x with
 | non=>unfold Rel at r1;rw[r1.1];exact⟨false,rfl,q H1 F1 g1⟩
 | bl b=>unfold Rel at r1;rw[r1.1];exact⟨b,rfl,q H1 F1 g1⟩
 | int i=>unfold Rel at r1;rw[r1.1];exact⟨_,rfl,q H1 F1 g1⟩
 | str i=>exact q.elim
 | lst f xs =>
  unfold Rel at r1
  obtain⟨a,vs,fp',rfl,hl,hr,_⟩:=r1
  have hl':SqL T.K H1 a vs:=hl.sq
  have e:(!xs.isEmpty)=!vs.isEmpty:=by
   have:=hr.length
   cases xs<;>cases vs<;>simp_all
  exact⟨_,.inl ⟨vs,hl',rfl⟩,by rw[<- e];exact q H1 F1 g1⟩
 | tup xs =>
  unfold Rel at r1
  obtain⟨a,vs,rfl,hl,hr⟩:=r1
  have e:(!xs.isEmpty)=!vs.isEmpty:=by
   have:=hr.length
   cases xs<;>cases vs<;>simp_all
  exact⟨_,.inr (.inl ⟨vs,hl,rfl⟩),by rw[<- e];exact q H1 F1 g1⟩
 | obj f c ks xs | exc c | box k xs=>exact q.elim
def pP(hc:ST X T W c mc)(ha:SE X T W a ma)(hb:SE X T W b mb):SE X T W (.IfExp c a b pos) (xJ mc ma mb):=PE.wk (wO (pos:=pos) hc ha hb) fun Y H Q hz1=>by
 obtain⟨Z,F,env,fp,S,q⟩:=hz1
 unfold xJ at q
 refine tT.bind S (fun c e=>by rw[e]at q;exact q) (fun e=>by rw[e]at q;exact q) fun b H1 F1 e1 g1=>?_
 rw[e1]at q
 have lift:∀m:ME,GE T W Z.B F (Own fp) Y H Q (m env)->tE T W m Y H1 Q:=fun m q=>by
  refine⟨Z,F1,env,fp,S.grow g1,?_⟩
  cases e2:m env with
  | ok b=>rw[e2]at q;exact fun v H2 F2 f g2 r n d w=>q v H2 F2 f (g1.trans g2) r n d fun a ha=>g1.ext.free (w a ha)
  | exc c=>rw[e2]at q;exact fun H' x=>q H' (g1.ext.trans x)
  | stuck=>rw[e2]at q;exact q
 cases b with
 | true=>exact(if_pos rfl).mpr (lift ma q)
 | false=>exact(if_neg (by decide)).mpr (lift mb q)
def tX(a:ME):ME:=fun env=>(a env).bind fun
 | .bl b=>.ok (.bl (!b))
 | _=>.stuck
def jW(a b:ME):ME:=fun env=>(a env).bind fun
 | .bl true=>b env
 | .bl false=>.ok (.bl false)
 | _=>.stuck
def Cl(ha:SE X T W a ma):SE X T W (.UnaryOp .Not a pos) (tX ma):=PE.wk (CJ (pos:=pos) ha) fun Y H Q hz1=>by
 obtain⟨Z,F,env,fp,S,q⟩:=hz1
 unfold tX at q
 refine tE.bind S (fun c e=>by rw[e]at q;exact q) (fun e=>by rw[e]at q;exact q) fun x v H1 F1 f1 e1 g1 r1 n1 d1 w1=>?_
 rw[e1]at q
 cases x with
 | bl b=>unfold Rel at r1;exact⟨b,r1.1,q.scal g1 kX⟩
 | _=>exact q.elim
def rF(ha:SE X T W a ma):SE X T W (.BoolOp op [a] pos) ma:=CI ha
def tE.later(S:av T Z F H Y env fp)(g1:Gr F H F' H')(q:GE T W Z.B F (Own fp) Y H Q (m env)):tE T W m Y H' Q:=by
 refine⟨Z,F',env,fp,S.grow g1,?_⟩
 cases e2:m env with
 | ok b=>rw[e2]at q;exact fun v H2 F2 f g2 r n d w=>q v H2 F2 f (g1.trans g2) r n d fun a ha=>g1.ext.free (w a ha)
 | exc c=>rw[e2]at q;exact fun H' x=>q H' (g1.ext.trans x)
 | stuck=>rw[e2]at q;exact q
def lK{bF:List Expr}(ha:SE X T W a ma)(hb:SE X T W (.BoolOp .And (b::bF) pos) mb):SE X T W (.BoolOp .And (a::b::bF) pos) (jW ma mb):=PE.wk (CO ha hb) fun Y H Q hz1=>by
 obtain⟨Z,F,env,fp,S,q⟩:=hz1
 unfold jW at q
 refine tE.bind S (fun c e=>by rw[e]at q;exact q) (fun e=>by rw[e]at q;exact q) fun x v H1 F1 f1 e1 g1 r1 n1 d1 w1=>?_
 rw[e1]at q
 cases x with
 | bl b =>
  unfold Rel at r1
  refine⟨b,r1.1,?_⟩
  cases b with
  | true=>exact(if_pos rfl).mpr (tE.later S g1 q)
  | false=>exact(if_neg (by decide)).mpr (q.scal g1 kX)
 | _=>exact q.elim
def Hf(T:Tb)(W:Nat->St->Hp->Prop)(f:PV->Res PV)(r:V->Hp->VK->Prop):Prop :=
 ∀(B F L:Addr->Prop) (Y:St) (H:Hp) (Q:VK) (F':Addr->Prop) (H':Hp) (x:PV) (v:V) (fx:List Addr),Gr F H F' H'->Rel T F' B L H' x v fx->(∀a∈fx,¬F' a)->fx.Nodup->(∀a∈fx,H a=none)->GE T W B F L Y H Q (f x)->r v H' Q
def tE.mir1(hm:Hf T W f r)(h:tE T W (mUn f m) Y H Q):tUn r (tE T W m) Y H Q:=by
 obtain⟨Z,F,env,fp,S,q⟩:=h
 unfold mUn at q
 refine tE.bind S (fun c e=>by rw[e]at q;exact q) (fun e=>by rw[e]at q;exact q) fun x v H1 F1 f1 e1 g1 r1 n1 d1 w1=>?_
 rw[e1]at q
 exact hm Z.B F (Own fp) Y H Q F1 H1 x v f1 g1 r1 n1 d1 w1 q
def H_:PV->Res PV
 | .int i=>.ok (.int (-i))
 | _=>.stuck
def aW(k:Nat):List Nat->List PV->Option PV
 | j::ks,v::vs=>if j=k then some v else aW k ks vs
 | _,_=>none
def Fl.isOwn:Fl->Bool
 | .own=>true
 | _=>false
def ao(k:Nat):PV->Res PV
 | .obj f _ ks vs=>match aW k ks vs with
  | some v=>if f.isOwn&&v.has Fl.isOwn then .stuck else .ok v
  | none=>.stuck
 | _=>.stuck
mutual
def Rel.noOwn:∀{x:PV}{v:V}{fp:List Addr},x.has Fl.isOwn=false->Rel T F B L H x v fp->fp=[]
 | .non,_,_,_,h | .bl _,_,_,_,h | .int _,_,_,_,h | .str _,_,_,_,h=>by unfold Rel at h;exact h.2
 | .lst f xs,_,fp,hp,h=>by
  unfold Rel at h
  simp only[PV.has,Bool.or_eq_false_iff]at hp
  obtain⟨a,vs,fp',e,hl,hr,hf⟩:=h
  cases f with
  | own=>exact absurd hp.1 (by decide)
  | frz | bor | lnt | mod=>exact hf.2
 | .tup xs,_,fp,hp,h=>by
  unfold Rel at h
  simp only[PV.has]at hp
  obtain⟨a,vs,e,hl,hr⟩:=h
  exact RelL.noOwn hp hr
 | .obj f c ks xs,_,fp,hp,h=>by
  unfold Rel at h
  simp only[PV.has,Bool.or_eq_false_iff]at hp
  obtain⟨a,dx,vs,fp',e,hl,hk,hr,hf,ha⟩:=h
  cases f with
  | own=>exact absurd hp.1 (by decide)
  | frz | bor | lnt | mod=>exact hf.2
 | .exc c,_,fp,hp,h=>by
  unfold Rel at h
  obtain⟨a,_,_,e⟩:=h
  exact e
 | .box k xs,_,fp,hp,h=>by
  unfold Rel at h
  obtain⟨a,vs,e,hl,hr⟩:=h
  exact RelL.noOwn hp hr
def RelL.noOwn:∀{xs:List PV}{vs:List V}{fp:List Addr},hasL Fl.isOwn xs=false->RelL T F B L H xs vs fp->fp=[]
 | [],_,_,_,h=>by unfold RelL at h;exact h.2
 | x::xs,_,fp,hp,h=>by
  unfold RelL at h
  simp only[hasL,Bool.or_eq_false_iff]at hp
  obtain⟨v,ws,f1,f2,e,h1,h2,rfl⟩:=h
  rw[Rel.noOwn hp.1 h1,RelL.noOwn hp.2 h2]
  rfl
end
def RelL.get:∀{xs:List PV}{vs:List V}{fp:List Addr}{i:Nat}{x:PV},RelL T F B L H xs vs fp->xs[i]?=some x->∃v f,vs[i]?=some v/\Rel T F B L H x v f/\f.Sublist fp
 | [],_,_,_,_,_,e=>by simp at e
 | y::xs,_,fp,0,x,h,e=>by
  unfold RelL at h
  grind
 | y::xs,_,fp,i+1,x,h,e=>by
  unfold RelL at h
  obtain⟨v,ws,f1,f2,rfl,h1,h2,rfl⟩:=h
  obtain⟨w,f,e1,r,s⟩:=RelL.get (i:=i) h2 (by simpa using e)
  exact⟨w,f,by simpa using e1,r,s.trans (List.sublist_append_right _ _)⟩
def qy:∀{ks:List Nat}{xs:List PV}{vs:List V}{fp:List Addr}{x:PV},RelL T F B L H xs vs fp->aW k ks xs=some x->∃v f,((ks.map T.att).zip vs).lookup (T.att k)=some v/\Rel T F B L H x v f/\f.Sublist fp
 | [],_,_,_,_,_,e | j::ks,[],_,_,_,_,e=>by simp[aW]at e
 | j::ks,y::xs,_,fp,x,h,e=>by
  unfold RelL at h
  obtain⟨v,ws,f1,f2,rfl,h1,h2,rfl⟩:=h
  unfold aW at e
  by_cases hj:j=k
  ·rw[if_pos hj]at e
   cases e
   subst hj
   exact⟨v,f1,by simp,h1,List.sublist_append_left _ _⟩
  ·rw[if_neg hj]at e
   obtain⟨w,f,e1,r,s⟩:=qy (ks:=ks) h2 e
   refine⟨w,f,?_,r,s.trans (List.sublist_append_right _ _)⟩
   have:(T.att k==T.att j)=false:=by
    rw[beq_eq_false_iff_ne]
    exact fun z=>hj (T.inj _ _ z).symm
   rw[List.map_cons,List.zip_cons_cons,List.lookup_cons,this]
   exact e1
def zV(hK:X.K=T.K)(hf:T.att k=f)(hc:∀c < T.nc,Cls T.K (T.cls c))(hn:∀c < T.nc,eW T.K (T.cls c) f)(h:tE T W (mUn (ao k) m) Y H Q):Fx X.K (tE T W m) f Y H Q:=by
 obtain⟨Z,F,env,fp,S,q⟩:=h
 unfold mUn at q
 refine tE.bind S (fun c e=>by rw[e]at q;exact q) (fun e=>by rw[e]at q;exact q) fun x v H1 F1 f1 e1 g1 r1 n1 d1 w1=>?_
 rw[e1]at q
 cases x with
 | obj fl c ks xs =>
  simp only[Res.ok_bind,ao]at q
  cases e2:aW k ks xs with
  | none=>rw[e2]at q;exact q.elim
  | some y =>
   rw[e2]at q
   dsimp only at q
   unfold Rel at r1
   obtain⟨a,dx,vs,fp',rfl,hl,hk,hr,hfl,_⟩:=r1
   obtain⟨w,f',l1,l2,l3⟩:=qy hr e2
   have e0:f'=[]:=by
    cases fl with
    | own =>
     simp only[Fl.isOwn,Bool.true_and]at q
     by_cases ho:y.has Fl.isOwn=true
     ·rw[if_pos ho]at q;exact q.elim
     ·exact Rel.noOwn (by simpa using ho) l2
    | frz | bor | lnt | mod=>obtain⟨rfl,_⟩:=hfl;exact List.sublist_nil.mp l3
   subst e0
   by_cases hb:(fl.isOwn&&y.has Fl.isOwn)=true
   ·rw[if_pos hb]at q;exact q.elim
   ·rw[if_neg hb]at q
    rw[hK]
    exact⟨a,_,dx,_,w,rfl,hl,hc c hk.2,hn c hk.2,by rw[<- hf];exact l1,q.scal g1 l2⟩
 | _=>exact q.elim
def Ah(hK:X.K=T.K)(hf:T.att k=f)(hc:∀c < T.nc,Cls T.K (T.cls c))(hn:∀c < T.nc,eW T.K (T.cls c) f)(he:SE X T W e m)(hb:attributeBase e f X.env (eval e X.env)=eval e X.env:=by rfl) :
  SE X T W (.Attribute e f pos) (mUn (ao k) m):=PE.wk (CL (pos:=pos) he hb) fun Y H Q h=>zV hK hf hc hn h
end
end PR
namespace L2
open PySem PySem.Spec
def cf.there(x:cf P w H h a o):∃u,h.get? a=some u:=by
 cases o with
 | lst xs=>obtain⟨_,_,_,_,e⟩:=x;exact⟨_,e⟩
 | tup xs=>obtain⟨_,_,_,o,e,_⟩:=x;exact⟨_,e⟩
 | dK kvs | dT kvs=>obtain⟨_,_,_,_,o,_,_,e,_⟩:=x;exact⟨_,e⟩
 | set S n=>obtain⟨o,_,_,_,e,_⟩:=x;exact⟨_,e⟩
 | ins C dx fs=>obtain⟨_,_,_,e,_⟩:=x;exact⟨_,e⟩
 | own y=>exact x
 | xd fs=>obtain⟨_,⟨_,_,_,e,_⟩,_⟩:=x;exact⟨_,e⟩
 | rng lo hi=>obtain⟨_,_,_,e⟩:=x;exact⟨_,e⟩
 | frz ob u=>obtain⟨e,_⟩:=x;exact⟨_,e⟩
 | tbl ps | met f y=>exact⟨_,(show h.get? a=some _ from x)⟩
 | ext φ=>obtain⟨_,q,_⟩:=x;exact q
end L2
namespace PR
open PySem PySem.Spec L2
structure Fly(P:Program)(w:World)(outer:List Env)(H:Hp)(s:Shared)(cls:Value)(H':Hp)(e:Value)(s':Shared):Prop where
 os:s'.os=s.os
 bare:PyProof.Rows.AllBare s'.gens
 un:Un (frs outer) [] H H' s.heap s'.heap
 hok:HOk P w H' s'.heap
 fly:∃x a0 Bh,e=.ref x/\Heap.FlyingW Bh outer x cls a0 s'.heap/\(∀b o u,H' b=some u->s'.heap.get? b=some o->Bh.get? b=some o)/\
  (∀b o o',s'.heap.get? b=some o->s.heap.get? b=some o'->b∉frs outer->Bh.get? b=some o)
def CXP(P:Program)(w:World):CXT:=fun outer H s E e s'=>∃cls H',Fly P w outer H s cls H' e s'/\E cls none H'
def XF(X:Cx)(T:Tb)(W:Nat->St->Hp->Prop):Prop:=∀(js:List (Addr×Obj)) (Y:St) (H:Hp) (s:Shared) (c:Nat) (H':Hp) (e:Value) (s':Shared),L2.Inv X js Y H s->Fly X.prog X.w X.stack H s (.ref (T.xcl c)) H' e s'->W c Y H'->X.xe e s'
def XM(X:Cx)(T:Tb)(W:Nat->St->Hp->Prop):Prop:=∀(js:List (Addr×Obj)) (Y:St) (H:Hp) (s:Shared) (c:Nat) (h':Heap) (e:Addr) (vs:List Value),L2.Inv X js Y H s->Heap.MadeExcOf s.heap h' e (.ref (T.xcl c)) vs->W c Y H->X.xe (.ref e) { s with heap:=h' }
section
variable{P:Program}{w:World}{K:PySem.W.Frag}{mg:Str->Option Value}{base:Heap}{N:List Str}{qual:Str}{scope:Scope}{f:Addr}{cd:Value}{A:Around}{outer:List Env}{s:Shared}{H:Hp}{E:XK}
def Be{H:Hp}{h h' Bh:Heap}(ok:HOk P w H h)(k:∀b o u,H b=some u->h.get? b=some o->Bh.get? b=some o)(st:Bh.StaysIn h'):HOk P w H h':=fun a o e =>
 (ok a o e).stay (fun b u hb q=>by
  rcases hb with rfl | hb
  ·exact st _ _ (k b u _ e q)
  ·exact st _ _ (k b u _ hb q)) (fun _ q=>q) fun _ _ q=>q
def n6(I:L2.Inv X js Y H1 s1)(hst:X.stack=X.env::X.outer)(hex:X.ex=[])(hfrm:X.env.frame=some X.env.locals)
  (hos:os2=s1.os) (hb:PyProof.Rows.AllBare g2) (u2:Un (frs X.stack) [] H1 H2 s1.heap h2) (ok:HOk X.prog X.w H2 h2) (tr:∀b o u,H2 b=some u->h2.get? b=some o->Bh.get? b=some o)
  (ol:∀b o o',h2.get? b=some o->s1.heap.get? b=some o'->b∉frs X.stack->Bh.get? b=some o) (fl:Heap.FlyingW Bh X.outer x cls a0 h') (up:h2.UpToSlots h') :
  Fly X.prog X.w X.outer X.H₀ X.s₀ cls H2 (.ref x) ⟨h',g2,d2,t2,os2⟩:=by
 have u1:=I.base
 rw[hex]at u1
 have hfs:frs X.stack=X.env.locals::frs X.outer:=by
  rw[hst]
  show List.filterMap _ _=_
  rw[List.filterMap_cons,hfrm]
  rfl
 have u:Un (frs X.stack) [] X.H₀ H2 X.s₀.heap h2:=(u1.mono (fun b hb=>by rw[hfs];exact List.mem_cons_of_mem _ hb) fun _ z=>z).trans u2
 have neL:∀b o,X.s₀.heap.get? b=some o->b≠X.env.locals:=fun b o e=>Nat.ne_of_lt (Nat.lt_of_lt_of_le (Heap.lt_size e) I.ok.above)
 have nst:∀b o,X.s₀.heap.get? b=some o->b∉frs X.outer->b∉frs X.stack:=fun b o e hn hb=>by
  rw[hfs]at hb
  rcases List.mem_cons.mp hb with z | z
  ·exact neL b o e z
  ·exact hn z
 have data:∀b o,X.s₀.heap.get? b=some o->b∈frs X.outer->∀vs,o.data≠.fields vs:=fun b o e hb vs z=>by
  obtain⟨_,o',ho',hd'⟩:=I.ok.funs.mem hb
  rw[e]at ho'
  cases ho'
  exact hd' vs z
 refine⟨hos.trans I.os,hb,⟨fun b o e n hf _=>?_,fun b o e n hf _=>?_,u.free,fun b o e _=>?_,u.tups,u.frzs,u.tbls⟩,Be ok tr fl.1,⟨x,a0,Bh,rfl,fl,fun b o v e q=>?_,fun b o o' e q hf=>?_⟩⟩
 ·have q:=u.keep b o e n (nst b o e hf) (by simp)
  obtain⟨o1,e1⟩:=u1.there b o e (by simp)
  exact fl.1 b o (ol b o o1 q e1 (nst b o e hf))
 ·obtain⟨sl,q⟩:=u.slot b o e n (by rw[hfs];exact List.mem_cons_of_mem _ hf) (by simp)
  obtain⟨sl',q'⟩:=up b _ q (data b o e hf)
  exact⟨sl',q'⟩
 ·by_cases hf:b∈frs X.outer
  ·obtain⟨_,o2,ho2,_⟩:=fl.2.2.1.mem hf
   exact⟨o2,ho2⟩
  ·obtain⟨o1,e1⟩:=u1.there b o e (by simp)
   obtain⟨o2,e2⟩:=u2.there b o1 e1 (by simp)
   exact⟨o2,fl.1 b o2 (ol b o2 o1 e2 e1 (nst b o e hf))⟩
 ·have hlt:=ok.lt e
  obtain⟨o2,e2⟩:∃o2,h2.get? b=some o2:=by
   have x:=ok b v e
   exact cf.there x
  have:=fl.1 b o2 (tr b o2 v e e2)
  rw[q]at this
  cases this
  exact tr b o v e e2
 ·obtain⟨o1,e1⟩:=u1.there b o' q (by simp)
  obtain⟨o2,e2⟩:=u2.there b o1 e1 (by simp)
  have hB:=ol b o2 o1 e2 e1 (nst b o' q hf)
  have:=fl.1 b o2 hB
  rw[e]at this
  cases this
  exact hB
end
section
variable{P:Program}{w:World}{K:PySem.W.Frag}{mg:Str->Option Value}{base:Heap}{N:List Str}{qual:Str}{scope:Scope}{f:Addr}{cd:Value}{A:Around}{outer:List Env}{s:Shared}{H:Hp}{E:XK}{T:Tb}
abbrev WD(T:Tb)(E:XK):Nat->St->Hp->Prop:=fun c _ H=>E (.ref (T.xcl c)) none H
def B6:XF (fK (CXP P w) P w K mg base N qual scope f cd A outer s H E) T (WD T E):=by
 intro js Y H1 s1 c H2 e s2 I fl hW
 obtain⟨x,a0,Bh,rfl,fly,tr,ol⟩:=fl.fly
 refine wpAny_leaves_onW (L:=s.heap.objs.size) I.ok.frames rfl fly fun h' fly' up=>?_
 obtain⟨h2,g2,d2,t2,os2⟩:=s2
 exact⟨_,H2,n6 I rfl rfl rfl fl.os fl.bare fl.un fl.hok tr ol fly' up,hW⟩
def bY:XM (fK (CXP P w) P w K mg base N qual scope f cd A outer s H E) T (WD T E):=by
 intro js Y H1 s1 c h2 e vs I mx hW
 have hin:∀env ∈(fK (CXP P w) P w K mg base N qual scope f cd A outer s H E).stack,∀b,env.frame=some b->b∈frs (fK (CXP P w) P w K mg base N qual scope f cd A outer s H E).stack:=fun env he b hb=>List.mem_filterMap.mpr ⟨env,he,hb⟩
 refine wpAny_leaves_madeW (base:=PySem.W.hideAll s1.heap (frs (fK (CXP P w) P w K mg base N qual scope f cd A outer s H E).stack)) (h:=s1.heap) (L:=s.heap.objs.size) I.ok.frames rfl (fun b o q=>PySem.W.of_hideAll _ q) (PySem.W.funFrames_hide I.stack hin) mx fun h' t fly' _ _ up=>?_
 obtain⟨h1,g1,d1,t1,os1⟩:=s1
 have fresh:∀b o,h1.get? b=some o->h2.get? b=some o:=mx.keeps
 have nfr:∀b u,H1 b=some u->b∉frs (fK (CXP P w) P w K mg base N qual scope f cd A outer s H E).stack:=fun b u e hb=>by
  rw[I.stkFree b hb]at e;cases e
 refine⟨_,H1,n6 I rfl rfl rfl rfl I.bare (h2:=h2) (Bh:=PySem.W.hideAll h1 (frs (fK (CXP P w) P w K mg base N qual scope f cd A outer s H E).stack)) (Un.kept fresh) (I.hok.kept fresh) (fun b o u e q=>?_) (fun b o o' e q hb=>?_) fly' up,hW⟩
 ·obtain⟨o1,e1⟩:=cf.there (I.hok b u e)
  have:=fresh b o1 e1
  rw[q]at this;cases this
  exact PySem.W.hideAll_get _ e1 (nfr b u e)
 ·have:=fresh b o' q
  rw[e]at this;cases this
  exact PySem.W.hideAll_get _ q hb
end
structure Iy(X:Cx)(x:Str)(C:Addr):Prop where
 bm:X.mg x=some (.ref C)
 obj:∃bm N nm q bs hdct sn sub ab col dd k0 k1 k2 k3 k5 mN,X.base.get? C=some (excClassObj nm q C N bs bm hdct sn sub ab col dd k0 k1 k2 k3 k5 "ValueError.__new__")/\X.base.Ns N mN/\mN "__init__" = none /\
  OwnTail X.base [.type "ValueError", .type "Exception", .type "BaseException", .type "object"] bm
section
variable{X:Cx}{T:Tb}{W:Nat->St->Hp->Prop}
def v4(O:Iy X x (T.xcl c))(hx:XM X T W)(hc:X.calm=true)(hg:Gl X x)(ha:SA X T W (e::es) ms)(hne:∀env pvs,ms env=.ok pvs->pvs.length<=100)(hd:(x ==("__debug__" : Str))=false:=by decide)
  (he:starEach (e::es) X.env=(false,eval e X.env)::starEach es X.env:=by rfl) (hpl:(backTo cpos (starEach es X.env)).any (·.1)=false:=by rfl) :
  SS X T W (.Raise (some (.Call (.Name x np) (e::es) [] cpos)) none pos) (fun env=>match ms env with
   | .ok _=>.exc c env
   | .exc k=>.exc k env
   | .stuck=>.stuck):=by
 intro js s Y H D I h
 obtain⟨Z,F,env,fp,S,q⟩:=h
 dsimp only at q
 obtain⟨tl,N,nm,qn,bs,hdct,sn,sub,ab,col,dd,k0,k1,k2,k3,k5,mN,hC,hN,hni,TL⟩:=O.obj
 refine wpAny_Raise_call_subT (C:=T.xcl c) (nm:=nm) (q:=qn) (N:=N) (bs:=bs) (bm:=tl) (hdct:=hdct) (sn:=sn) (sub:=sub) (ab:=ab) (col:=col) (dd:=dd) (k0:=k0) (k1:=k1) (k2:=k2) (k3:=k3) (k5:=k5)
  PySem.F.excBase_ValueError (mN:=mN) (TL.hasType PySem.F.excBase_ValueError.hasBase) (I.ok.hd hc) (by rw[he];show(false ||(backTo cpos (starEach es X.env)).any (·.1))=false;rw[hpl];rfl) hni (jZ I hg O.bm ⟨rfl,?_⟩ hd)
 have h2:=ha cpos js s Y H (fun vs H'=>vs.length <= 100/\W c Y H') I (tA.bind S (fun k e H' x=>by rw [e] at q;exact q F H' Y fp (S.grow (Gr.same S.hp.ft x))) (fun e=>by rw [e] at q;exact q) fun pvs vs H' F' f e g r _ _ _=>by
  rw[e]at q
  exact⟨by rw[<- r.length];exact hne env pvs e,q F' H' Y fp (S.grow g)⟩)
 rw[he]at h2 ⊢
 refine Calls.evalArgs_plain (wpAny_mono h2 (fun vs s₂ h₂=>?_) fun _ _ y=>y)
 obtain⟨vs',H',I2,rv,hl,hw⟩:=h₂
 refine⟨rfl,?_,I2.bk _ _ hC,hN.keeps I2.bk,TL.keeps I2.bk,fun h' e' mx=>hx js Y H' s₂ c h' e' vs I2 mx hw⟩
 rw[<- rv.length,sizeLine_eq]
 omega
end
def aQ(m:List PV->Res PV)(xs:List PV):Res PV:=match m (mapL Fl.toBor xs)with
 | .ok v=>if v.has Fl.isBor then .stuck else .ok v
 | .exc c=>.exc c
 | .stuck=>.stuck
def ba(n:Nat)(m:MS)(args:List PV):Res PV:=match m (args.map some++List.replicate (n - args.length) none)with
 | .next _=>.ok .non
 | .ret v=>.ok v
 | .exc c _=>.exc c
 | _=>.stuck
def GF(T:Tb)(Z:Zn)(Q:VK)(E:XK):Res PV->Prop
 | .ok pv=>∀F H v f,ck T Z F H->Rel T F Z.B NoL H pv v f->f.Nodup->(∀a∈f,¬F a)->(∀a∈f,Z.H0 a=none\/Z.fp0 a)->Q v H
 | .exc c=>∀H,(∀a o,Z.H0 a=some o->¬Z.fp0 a->H a=some o)->E (.ref (T.xcl c)) none H
 | .stuck=>False
structure vL(T:Tb)(F B:Addr->Prop)(H:Hp)(pvs:List PV)(vs:List V)(f:List Addr):Prop where
 rel:RelL T F B NoL H pvs vs f
 nd:f.Nodup
 nf:∀a∈f,¬F a
 bo:∀a,B a->(∃o,H a=some o)/\a∉f
 ft:∀a,F a->∃o,H a=some o
def spM(T:Tb)(n:Nat)(m:List PV->Res PV):Sp:=fun vs H Q E=>vs.length=n/\∃pvs F B f,vL T F B H pvs vs f/\GF T ⟨H,F,(·∈f),B,none⟩ Q E (m pvs)
def RelL.split:∀{xs:List PV}{vs:List V}{f:List Addr},RelL T F B L H xs vs f->f.Nodup ->
  ∃g:Nat->List Addr,(∀(i:Nat) x v,xs[i]?=some x->vs[i]?=some v->Rel T F B L H x v (g i))/\(∀i,(g i).Nodup)/\(∀i j,i≠j->∀a∈g i,a∉g j)/\∀i a,a∈g i->a∈f
 | [],_,_,_,_=>⟨fun _=>[],fun i x v e=>by simp at e,fun _=>List.nodup_nil,fun _ _ _ _ z=>(nomatch z),fun _ _ z=>(nomatch z)⟩
 | x::xs,_,_,h,nd=>by
  unfold RelL at h
  obtain⟨v,ws,f1,f2,rfl,h1,h2,rfl⟩:=h
  obtain⟨n1,n2,n3⟩:=List.nodup_append.mp nd
  obtain⟨g,g1,g2,g3,g4⟩:=RelL.split h2 n2
  refine⟨fun i=>match i with | 0=>f1 | j+1=>g j,fun i y u e1 e2=>?_,fun i=>?_,fun i j hij a ha=>?_,fun i a ha=>?_⟩
  ·cases i with
   | zero=>simp at e1 e2;subst e1 e2;exact h1
   | succ i=>exact g1 i y u (by simpa using e1) (by simpa using e2)
  ·cases i with
   | zero=>exact n1
   | succ i=>exact g2 i
  ·grind
  grind
section
variable{P:Program}{w:World}{K:PySem.W.Frag}{mg:Str->Option Value}{base:Heap}{T:Tb}
def ot(N:List Str)(R:vL T F B H pvs vs f)(pin:Option V)(hpin:∀v,pin=some v->vs[0]?=some v/\∃fl c ks xs,pvs[0]?=some (.obj fl c ks xs)) :
  ∃fp,av T ⟨H,F,(·∈f),B,pin⟩ F H (L2.start N vs) (pvs.map some++List.replicate (N.length - pvs.length) none) fp:=by
 obtain⟨g,g1,g2,g3,g4⟩:=R.rel.split R.nd
 have hl:=R.rel.length
 refine⟨g,⟨R.bo,fun _ _ h _=>h,fun _ h=>h,fun _ h=>.inl h,R.ft⟩,?_,fun i pv e=>?_,g2,g3,fun i a ha=>⟨R.nf a (g4 i a ha),R.rel.there a (g4 i a ha)⟩,fun i a ha=>.inr (g4 i a ha),fun i a ha=>R.rel.chg a (g4 i a ha),fun v hv=>?_⟩
 ·unfold L2.start
  simp[hl]
 ·by_cases hi:i < pvs.length
  ·rw[List.getElem?_append_left (by simpa using hi),List.getElem?_map]at e
   obtain⟨x,e1,e2⟩:=Option.map_eq_some_iff.mp e
   cases e2
   obtain⟨v,_,ev,_⟩:=R.rel.get e1
   refine⟨v,?_,g1 i pv v e1 ev⟩
   unfold L2.start
   rw[List.getElem?_append_left (by simpa[<- hl]using hi),List.getElem?_map,ev]
   rfl
  ·rw[List.getElem?_append_right (by simpa using hi),List.getElem?_replicate]at e
   split at e<;>cases e
 ·obtain⟨h1,fl,c,ks,xs,h2⟩:=hpin v hv
  have hl0:0 < vs.length:=(List.getElem?_eq_some_iff.mp h1).1
  have hp0:0 < pvs.length:=(List.getElem?_eq_some_iff.mp h2).1
  unfold L2.start cK
  rw[List.getElem?_append_left (by simpa using hl0),List.getElem?_append_left (by simpa using hp0),List.getElem?_map,List.getElem?_map,h1,h2]
  exact⟨rfl,rfl⟩
def G0(F:Fun K x qual st f fd)(S:fj N ps (aM st))
  (body:∀ (cdv:Value) (A:Around) (outer:List Env) (s:Shared) (H:Hp) (E:XK),eH k (A.deeper (PyProof.Rows.envOfC qual (aM st) s.heap.objs.size f cdv)) ->
   SSs (fK (CXP P w) P w K mg base N qual (aM st) f cdv A outer s H E) T (WD T E) (cO st) m):dA P w K mg base (CXP P w) (k+1) f fd ps (spM T ps.length (ba N.length m)):=by
 obtain⟨oc,od,kV,doc,pm,an,cdv,ct,osl,rfl,lk,hcd⟩:=F.ex
 refine BX lk hcd S (fun vs H Q E h=>h.1) fun A outer s H vs Q E hr hsp=>⟨_,body cdv A outer s H E hr,?_⟩
 obtain⟨_,pvs,F,B,fl,R,q⟩:=hsp
 obtain⟨fp,S0⟩:=ot N R none (fun _ h=>nomatch h)
 refine⟨_,F,_,fp,S0,?_⟩
 unfold ba at q
 cases e:m (pvs.map some++List.replicate (N.length - pvs.length) none)with
 | next e'=>rw[e]at q;exact fun F' H' σ' fp' S'=>q F' H' .non [] S'.hp HY List.nodup_nil (fun _ z=>(nomatch z)) (fun _ z=>(nomatch z))
 | ret v=>rw[e]at q;exact q
 | brk e' | cont e'=>rw[e]at q;exact q.elim
 | exc c e'=>rw[e]at q;exact fun F' H' σ' fp' S'=>q H' S'.hp.keep
 | stuck=>rw[e]at q;exact q.elim
end
def xw(hB:∀a,B a->B' a)(hL:∀a,L a->B' a):Mp T Fl.toBor (fun _=>false) (fun x=>x) (fun _=>True) F B L H F B' L' H :=
 ⟨fun f a vs _ c h=>by
  cases f with
  | bor=>exact⟨hB a h.1,h.2⟩
  | lnt=>exact⟨hL a h.1,.inl h.2⟩
  | _=>exact h,fun f a _ c h=>⟨by
  cases f with
  | bor=>exact hB a h
  | lnt=>exact hL a h
  | _=>exact h,fun _ q=>q⟩,fun f a x y h=>by cases f<;>exact h,rfl,fun _ _=>rfl,fun _ _ q _=>q⟩
def RelL.toBor(hB:∀a,B a->B' a)(hL:∀a,L a->B' a)(h:RelL T F B L H x v fo):RelL T F B' L' H (mapL Fl.toBor x) v fo:=(xw hB hL).rels (has_noL x) (fun _ _=>True.intro) h
def Rel.noB(hp:x.has Fl.isBor=false)(h:Rel T F B L H x v fo):Rel T F B' L H x v fo:=by
 have:=(xy (p:=Fl.isBor) (B':=B') (fun _ _ q=>q) (fun z=>(nomatch z))).rel hp (fun _ _=>True.intro) h
 rwa [lf]at this
def RelL.append:∀{xs ys:List PV}{vs us:List V}{f g:List Addr},RelL T F B L H xs vs f->RelL T F B L H ys us g->RelL T F B L H (xs++ys) (vs++us) (f++g)
 | [],_,_,_,_,_,h,r=>by unfold RelL at h;obtain⟨rfl,rfl⟩:=h;exact r
 | x::xs,_,_,_,_,_,h,r=>by
  unfold RelL at h
  obtain⟨v,ws,f1,f2,rfl,h1,h2,rfl⟩:=h
  show RelL T F B L H (x::(xs++_)) (v::(ws++_)) _
  unfold RelL
  exact⟨v,_,f1,_,rfl,h1,RelL.append h2 r,by rw[List.append_assoc]⟩
section
variable{X:Cx}{T:Tb}{W:Nat->St->Hp->Prop}{Z:Zn}{F F1:Addr->Prop}{H H1:Hp}{Y:St}{env:En}{fp:Nat->List Addr}
def wn
  (G:dA X.prog X.w X.K X.mg X.base (CXP X.prog X.w) k f fd ps (spM T ps.length m)) (hr:eH k X.A) (hb:fM X.K fd ps ds) (hd:aP dvs ds) (hdp:∀F B L H,RelL T F B L H dps dvs []) (hx:XF X T W)
  (S:av T Z F H Y env fp) (g:Gr F H F1 H1) (r:RelL T F1 Z.B (Own fp) H1 xs vs fx) (nf:∀a∈fx,¬F1 a) (nd:fx.Nodup) (new:∀a∈fx,H a=none) (q:GE T W Z.B F (Own fp) Y H Q (aQ m (xs++dps)))
  (I1:L2.Inv X js Y H1 s1) (rv:aP vs us) (hlen:vs.length+dvs.length=ps.length):wpAny (model X.prog X.w) X.A (call (.ref f) us) (EP X js Y Q) X.xe s1:=by
 have r2:aP (vs++dvs) (us++ds):=rv.append hd
 have hl:(us++ds).length=ps.length:=by rw[<- r2.length,List.length_append];exact hlen
 have rr:RelL T F1 Z.B (Own fp) H1 (xs++dps) (vs++dvs) fx:=by
  have:=RelL.append r (hdp F1 Z.B (Own fp) H1)
  rwa [List.append_nil]at this
 have hBo:∀a,Z.B a->(∃o,H1 a=some o)/\a∉fx:=fun a h=>by
  obtain⟨⟨o,h1⟩,h2⟩:=S.hp.bo a h
  have h3:=S.hp.keep a o h1 h2
  exact⟨⟨o,g.ext a o h3⟩,fun z=>by rw[new a z]at h3;cases h3⟩
 have hOw:∀a,Own fp a->(∃o,H1 a=some o)/\a∉fx:=fun a hz1=>by
  obtain⟨i,hi⟩:=hz1
  obtain⟨_,o,ho⟩:=S.dis i a hi
  exact⟨⟨o,g.ext a o ho⟩,fun z=>by rw[new a z]at ho;cases ho⟩
 have R:vL T F1 (fun a=>(∃o,H1 a=some o)/\a∉fx) H1 (mapL Fl.toBor (xs++dps)) (vs++dvs) fx:=⟨RelL.toBor hBo hOw rr,nd,nf,fun a h=>h,g.dom⟩
 refine wpAny_call (codeAny_mono (G.run X.A X.stack s1 H1 ⟨us,[]⟩ (us ++ ds) (vs ++ dvs) Q (fun cls _ H'=>∃ c,cls=.ref (T.xcl c)/\W c Y H') hr I1.env0 (hb s1 us I1.kIn hl) r2
  ⟨by rw[r2.length,hl],_,F1,_,fx,R,?_⟩) fun rs s' hq=>?_)
 ·unfold aQ at q
  cases e:m (mapL Fl.toBor (xs++dps))with
  | ok v =>
   rw[e]at q
   dsimp only at q
   intro F2 H2 u f2 hp2 r3 nd2 nf2 new2
   by_cases hbr:v.has Fl.isBor=true
   ·rw[if_pos hbr]at q;exact q.elim
   ·rw[if_neg hbr]at q
    have hbr':v.has Fl.isBor=false:=by simpa using hbr
    refine q u H2 F2 f2 ⟨fun a o h=>hp2.keep a o (g.ext a o h) fun z=>(by rw[new a z]at h;cases h),fun a h=>hp2.f0 a (g.mono a h),fun a h=>?_,hp2.ft⟩ ?_ nf2 nd2 fun a ha=>?_
    ·rcases hp2.fn a h with z | z | z
     ·exact g.only a z
     ·exact .inr (g.ext.free z)
     ·exact .inr (new a z)
    ·exact Rel.tr (fun _ h=>h) (fun _ h=>h) (fun _ h=>h.elim) (fun _ _ h _=>h) (fun _ _ _ h=>h) (Rel.noB (B':=Z.B) hbr' r3)
    ·rcases new2 a ha with z | z
     ·exact g.ext.free z
     ·exact new a z
  | exc c =>
   rw[e]at q
   exact fun H' h=>⟨c,rfl,q H' fun a o z=>h a o (g.ext a o z) fun z'=>by rw[new a z']at z;cases z⟩
  | stuck=>rw[e]at q;exact q.elim
 ·cases rs with
  | error e =>
   obtain⟨cls,H',fl,c,rfl,hw⟩:=hq
   exact hx js Y H1 s1 c H' e s' I1 fl hw
  | ok fl =>
   cases fl with
   | ret u=>exact I1.after hq
   | next | brk | cont=>exact False.elim hq
def Af
  (G:dA X.prog X.w X.K X.mg X.base (CXP X.prog X.w) k f fd ps (spM T ps.length m)) (hr:eH k X.A) (hg:Gl X x) (hm:X.mg x=some (.ref f)) (hk:PySem.W.keepIn X.K (.ref f)=true) (hb:fM X.K fd ps ds) (hd:aP dvs ds) (hdp:∀F B L H,RelL T F B L H dps dvs []) (hx:XF X T W)
  (hn:∀env xs,ms env=.ok xs->xs.length+dvs.length=ps.length) (ha:SA X T W (e::es) ms)
  (hdb:(x ==("__debug__" : Str))=false:=by decide) (he:starEach (e::es) X.env=(false,eval e X.env)::starEach es X.env:=by rfl) (hpl:(backTo pos (starEach es X.env)).any (·.1)=false:=by rfl) :
  SE X T W (.Call (.Name x p) (e::es) [] pos) (aq (fun xs=>aQ m (xs++dps)) ms):=by
 intro js s Y H Q I h
 obtain⟨Z,F,env,fp,S,q⟩:=h
 unfold aq at q
 refine wpAny_Call_Name_kw (jZ I hg hm ?_ hdb)
 refine PySem.W.callWith_K (h₀:=X.base) I.ok.mod.kin hk (thn (ha pos js s Y H (fun vs H1=>∀ us s1,L2.Inv X js Y H1 s1->aP vs us->wpAny (model X.prog X.w) X.A (call (.ref f) us) (EP X js Y Q) X.xe s1) I
  (tA.bind S (fun c e=>by rw[e]at q;exact q) (fun e=>by rw[e]at q;exact q) fun xs vs H1 F1 f1 e1 g1 r1 n1 d1 w1 us s1 I1 rv=>?_)) fun us s1 ⟨vs,H1,I1,r,q1⟩=>⟨I1.kIn,q1 us s1 I1 r⟩) he hpl
 rw[e1]at q
 exact wn G hr hb hd hdp hx S g1 r1 n1 d1 w1 q I1 rv (by rw[<- r1.length];exact hn env xs e1)
def eR(X:Cx)(T:Tb)(k:Nat)(mn:Str)(ps:List Str)(ds:List Value)(disp:Nat->Option (List PV->Res PV)):Prop :=
 ∀c m,c < T.nc->disp c=some m->∃f fd,BH X.K (T.cls c) mn f/\fM X.K fd ps ds/\dA X.prog X.w X.K X.mg X.base (CXP X.prog X.w) k f fd ps (spM T ps.length m)
def tY(disp:Nat->Option (List PV->Res PV))(dps:List PV)(o:ME)(ms:MA):ME:=fun env=>(o env).bind fun ov=>match ov with
 | .obj _ c _ _=>match disp c with
  | some m=>(ms env).bind fun xs=>aQ m ((ov::xs)++ dps)
  | none=>.stuck
 | _=>.stuck
def kP(hm:∀k,T.att k≠mn):∀(ks:List Nat) (vs:List V),((ks.map T.att).zip vs).lookup mn=none
 | [],_ | j::ks,[]=>rfl
 | j::ks,v::vs=>by
  rw[List.map_cons,List.zip_cons_cons,List.lookup_cons,show(mn==T.att j)=false by rw[beq_eq_false_iff_ne];exact(hm j).symm]
  exact kP hm ks vs
def tU
  (hK:X.K=T.K) (hc:∀c < T.nc,Cls T.K (T.cls c)) (hm:∀k,T.att k≠mn) (D:eR X T k mn ps ds disp) (e:disp c=some m) (r:Rel T F1 B L H1 (.obj fl c ks xs) v f1) (I1:L2.Inv X js Y H1 s1) (ru:bu v u)
  (h:∀a f fd,u=.ref a->PySem.W.keepIn X.K (.ref f)=true->fM X.K fd ps ds->dA X.prog X.w X.K X.mg X.base (CXP X.prog X.w) k f fd ps (spM T ps.length m)->Q (.ref f,[.ref a]) s1) :
  wpAny (model X.prog X.w) X.A (getMethod u mn pl) Q X.xe s1:=by
 unfold Rel at r
 obtain⟨a,dx,vs,fp',rfl,hl,hk,hr,_,_⟩:=r
 obtain⟨f,fd,M,hb,G⟩:=D c m hk.2 e
 obtain rfl:u=Value.ref a:=ru
 refine sA I1 hl (by rw[hK];exact hc c hk.2) M (kP hm _ _) (h a f fd rfl M.kp hb G)
def Ab
  (hK:X.K=T.K) (hc:∀c < T.nc,Cls T.K (T.cls c)) (hm:∀k,T.att k≠mn) (D:eR X T k mn ps ds disp) (hr:eH k X.A) (hd:aP dvs ds) (hdp:∀F B L H,RelL T F B L H dps dvs []) (hx:XF X T W)
  (hn:∀env xs,ms env=.ok xs->xs.length+1+dvs.length=ps.length) (ho:SE X T W o mo) (ha:SA X T W (e::es) ms)
  (hst:starEach (e::es) X.env=(false,eval e X.env)::starEach es X.env:=by rfl) (hpl:(backTo pos (starEach es X.env)).any (·.1)=false:=by rfl)
  (ht:eval (.Call (.Attribute o mn apos) (e::es) [] pos) X.env=(do
   let ov <- eval o X.env
   standAt apos.atName
   let(f,first) <- holding [ov] (getMethod ov mn pl)
   callWith pos f first (backTo pos (starEach (e::es) X.env)) (backToKw pos (keywordEach [] X.env))):=by rfl) :
  SE X T W (.Call (.Attribute o mn apos) (e::es) [] pos) (tY disp dps mo ms):=by
 intro js s Y H Q I h
 obtain⟨Z,F,env,fp,S,q⟩:=h
 unfold tY at q
 refine PySem.W.methodCall_KW (pl:=pl) (thn (ho js s Y H (fun v H1=>∃ ov F1 f1,mo env=.ok ov/\Gr F H F1 H1/\Rel T F1 Z.B (Own fp) H1 ov v f1/\(∀ a ∈ f1,¬ F1 a)/\f1.Nodup/\∀ a ∈ f1,H a=none) I
  (tE.bind S (fun c e=>by rw[e]at q;exact q) (fun e=>by rw[e]at q;exact q) fun ov v H1 F1 f1 e1 g1 r1 n1 d1 w1=>⟨ov,F1,f1,e1,g1,r1,n1,d1,w1⟩)) fun u s1 ⟨v,H1,I1,ru,ov,F1,f1,e1,g1,r1,n1,d1,w1⟩=>?_) ht
 rw[e1]at q
 simp only[Res.ok_bind]at q
 by_cases hobj:∃fl c ks xs m,ov=.obj fl c ks xs/\disp c=some m
 ·obtain⟨fl,c,ks,ys,m,rfl,em⟩:=hobj
  dsimp only at q
  rw[em]at q
  dsimp only at q
  refine tU hK hc hm D em r1 I1 ru fun a f fd eu hkp hb G=>?_
  subst eu
  refine PySem.W.callWith_K (first:=[.ref a]) (h₀:=X.base) I.ok.mod.kin hkp (thn (ha pos js s1 Y H1 (fun vs H2=>∀ us s2,L2.Inv X js Y H2 s2->aP vs us->wpAny (model X.prog X.w) X.A (call (.ref f) (.ref a::us)) (EP X js Y Q) X.xe s2) I1
   (tA.bind (S.grow g1) (fun c e=>by rw[e]at q;exact fun H' x=>q H' (g1.ext.trans x)) (fun e=>by rw[e]at q;exact q) fun xs vs H2 F2 f2 e2 g2 r2 n2 d2 w2 us s2 I2 rv=>?_)) fun us s2 ⟨vs,H2,I2,r,q2⟩=>⟨I2.kIn,q2 us s2 I2 r⟩) hst hpl
  rw[e2]at q
  simp only[Res.ok_bind]at q
  have nn:∀b∈f1,¬F2 b:=fun b hb z=>by
   rcases g2.only b z with z | z
   ·exact n1 b hb z
   ·obtain⟨oo,hoo⟩:=r1.there b hb
    rw[hoo]at z;cases z
  refine wn (xs:=.obj fl c ks ys::xs) (vs:=v::vs) (us:=.ref a::us) (fx:=f1++f2) G hr hb hd hdp hx S (g1.trans g2) (by unfold RelL;exact⟨v,vs,f1,f2,rfl,r1.ext g2.ext g2.mono,r2,rfl⟩) (fun b hb=>?_) ?_ (fun b hb=>?_) q I2 (.cons ru rv) ?_
  ·rcases List.mem_append.mp hb with hb | hb
   ·exact nn b hb
   ·exact n2 b hb
  ·refine List.nodup_append.mpr ⟨d1,d2,fun b hb c hc z=>?_⟩
   subst z
   obtain⟨oo,hoo⟩:=r1.there b hb
   rw[w2 b hc]at hoo;cases hoo
  ·rcases List.mem_append.mp hb with hb | hb
   ·exact w1 b hb
   ·exact g1.ext.free (w2 b hb)
  ·have:=hn env xs e2
   rw[List.length_cons,<- r2.length]
   exact this
 ·exfalso
  cases ov with
  | obj fl c ks ys =>
   cases em:disp c with
   | none=>simp only[em]at q;exact q
   | some m=>exact hobj ⟨fl,c,ks,ys,m,rfl,em⟩
  | _=>exact q
end
def ie(ms:MA)(n:Nat):Prop:=∀env xs,ms env=.ok xs->xs.length=n
def fI:ie am 0:=fun _ _ h=>by cases h;rfl
def eD(h:ie ms n):ie (ae m ms) (n+1):=fun env xs e=>by
 unfold ae at e
 cases e1:m env with
 | ok x =>
  rw[e1]at e
  simp only[Res.ok_bind]at e
  cases e2:ms env with
  | ok ys =>
   rw[e2]at e
   simp only[Res.ok_bind]at e
   cases e
   rw[List.length_cons,h env ys e2]
  | exc c | stuck=>rw[e2]at e;cases e
 | exc c | stuck=>rw[e1]at e;cases e
def aL:PV->Option (List PV)
 | .lst _ xs | .tup xs=>some xs
 | _=>none
section
variable{X:Cx}{T:Tb}{W:Nat->St->Hp->Prop}{Z:Zn}{F F1 B L:Addr->Prop}{H H1:Hp}{Y:St}{env:En}{fp:Nat->List Addr}{D:Ends}
def Rel.seq(r:Rel T F B L H x v fx)(e:aL x=some xs):∃a vs fx',v=.ref a/\(SqL T.K H a vs\/SqT T.K H a vs)/\RelL T F B L H xs vs fx'/\fx'.Sublist fx:=by
 cases x with
 | lst f ys =>
  cases e
  unfold Rel at r
  obtain⟨a,vs,fp',rfl,hl,hr,hf⟩:=r
  refine⟨a,vs,fp',rfl,.inl hl.sq,hr,?_⟩
  cases f with
  | own=>obtain rfl:fx=a::fp':=hf;exact List.sublist_cons_self _ _
  | frz | bor | lnt | mod=>obtain⟨rfl,rfl⟩:=hf;exact List.Sublist.refl _
 | tup ys =>
  cases e
  unfold Rel at r
  obtain⟨a,vs,rfl,hl,hr⟩:=r
  exact⟨a,vs,fx,rfl,.inr hl,hr,List.Sublist.refl _⟩
 | _=>cases e
def GE.newL(q:GE T W B F L Y H Q (.ok (.lst .own ys)))(g:Gr F H F1 H1)(r:RelL T F1 B L H1 ys vs fx)(nf:∀a∈fx,¬F1 a)(nd:fx.Nodup)(new:∀a∈fx,H a=none) :
  ∀p,H1 p=none->Q (.ref p) (upd H1 p (.lst vs)):=fun p hp=>by
 refine q (.ref p) (upd H1 p (.lst vs)) F1 (p::fx) (g.trans (Gr.same g.dom (Ext.upd hp))) ?_ (fun a ha=>?_) ?_ (fun a ha=>?_)
 ·unfold Rel
  exact⟨p,vs,fx,rfl,a5,r.ext (Ext.upd hp) fun _ h=>h,rfl⟩
 ·grind[br,av,ck,Gr]
 ·refine List.nodup_cons.mpr ⟨fun z=>?_,nd⟩
  obtain⟨o,ho⟩:=r.there p z
  rw[hp]at ho;cases ho
 ·rcases List.mem_cons.mp ha with rfl | ha
  ·exact g.ext.free hp
  ·exact new a ha
def GE.newT(q:GE T W B F L Y H Q (.ok (.tup ys)))(g:Gr F H F1 H1)(r:RelL T F1 B L H1 ys vs fx)(nf:∀a∈fx,¬F1 a)(nd:fx.Nodup)(new:∀a∈fx,H a=none) :
  ∀p,H1 p=none->Q (.ref p) (upd H1 p (.tup vs)):=fun p hp=>by
 refine q (.ref p) (upd H1 p (.tup vs)) F1 fx (g.trans (Gr.same g.dom (Ext.upd hp))) ?_ nf nd new
 unfold Rel
 exact⟨p,vs,rfl,SqT.of a5,r.ext (Ext.upd hp) fun _ h=>h⟩
def small(h:n<=1000):n<=sizeLine:=by rw[sizeLine_eq];omega
def fg(ms:MA):ME:=fun env=>(ms env).bind fun xs=>.ok (.lst .own xs)
def l0(ms:MA):ME:=fun env=>(ms env).bind fun xs=>.ok (.tup xs)
def Co(ha:SA X T W es ms)(hn:ie ms n)(hs:n<=1000:=by decide):SE X T W (.List es pos) (fg ms):=PE.wk (CK (pos:=pos) ha) fun Y H Q hz1=>by
 obtain⟨Z,F,env,fp,S,q⟩:=hz1
 unfold fg at q
 refine tA.bind S (fun c e=>by rw[e]at q;exact q) (fun e=>by rw[e]at q;exact q) fun xs vs H1 F1 f1 e1 g1 r1 n1 d1 w1=>?_
 rw[e1]at q
 exact⟨small (by rw[<- r1.length,hn env xs e1];exact hs),GE.newL q g1 r1 n1 d1 w1⟩
def Cj{x1}(ha:SA X T W es ms)(hn:ie ms n)(hs:n<=1000:=by decide):SE X T W (.Tuple es x1 pos) (l0 ms):=PE.wk (wK (pos:=pos) ha) fun Y H Q hz1=>by
 obtain⟨Z,F,env,fp,S,q⟩:=hz1
 unfold l0 at q
 refine tA.bind S (fun c e=>by rw[e]at q;exact q) (fun e=>by rw[e]at q;exact q) fun xs vs H1 F1 f1 e1 g1 r1 n1 d1 w1=>?_
 rw[e1]at q
 exact⟨small (by rw[<- r1.length,hn env xs e1];exact hs),GE.newT q g1 r1 n1 d1 w1⟩
def p1(f:PV->Res PV):List PV->Res PV
 | [x]=>f x
 | _=>.stuck
def RelL.one(r:RelL T F B L H [x] vs f):∃v,vs=[v]/\Rel T F B L H x v f:=by
 unfold RelL at r
 obtain⟨v,ws,f1,f2,rfl,h1,h2,rfl⟩:=r
 unfold RelL at h2
 obtain⟨rfl,rfl⟩:=h2
 exact⟨v,rfl,by rwa [List.append_nil]⟩
def bU:PV->Res PV:=fun x=>match aL x with
 | some xs=>.ok (.int xs.length)
 | none=>.stuck
def A1(hK:X.K=T.K):Mir T W (p1 bU) (fun xs H Q=>∃p ys,xs=[.ref p]/\(SqL X.K H p ys\/SqT X.K H p ys)/\Q (.int ys.length) H):=by
 intro B F L Y H Q F' H' xs vs fx g r _ _ _ q
 match xs,r,q with
 | [x],r,q =>
  obtain⟨v,rfl,r1⟩:=r.one
  simp only[p1,bU]at q
  cases e:aL x with
  | none=>rw[e]at q;exact q.elim
  | some ys =>
   rw[e]at q
   obtain⟨a,ws,fx',rfl,hs,hr,_⟩:=r1.seq e
   exact⟨a,ws,rfl,by rw[hK];exact hs,q.scal g (by rw[<- hr.length];exact fe)⟩
 | [],_,q | _::_::_,_,q=>exact q.elim
def bZ(hK:X.K=T.K)(hg:Gl X "len")(hm:X.mg "len" = none)(ha:SE X T W e m)(he:starEach [e] X.env=[(false,eval e X.env)]:=by rfl):SE X T W (.Call (.Name "len" p) [e] [] pos) (aq (p1 bU) (ae m am)) :=
 f8 pq (A1 hK) hg hm PySem.boot_len (aa ha ag he) (he:=he)
def bT:PV->Res PV:=fun x=>match aL x with
 | some xs=>.ok (.lst .own xs)
 | none=>.stuck
def xE(hK:X.K=T.K):Mir T W (p1 bT) (fun xs H Q=>∃p ys,xs=[.ref p]/\(SqL X.K H p ys\/SqT X.K H p ys)/\∀l,H l=none->Q (.ref l) (upd H l (.lst ys))):=by
 intro B F L Y H Q F' H' xs vs fx g r nf nd new q
 match xs,r,q with
 | [x],r,q =>
  obtain⟨v,rfl,r1⟩:=r.one
  simp only[p1,bT]at q
  cases e:aL x with
  | none=>rw[e]at q;exact q.elim
  | some ys =>
   rw[e]at q
   obtain⟨a,ws,fx',rfl,hs,hr,sl⟩:=r1.seq e
   exact⟨a,ws,rfl,by rw[hK];exact hs,GE.newL q g hr (fun b hb=>nf b (sl.subset hb)) (nd.sublist sl) (fun b hb=>new b (sl.subset hb))⟩
 | [],_,q | _::_::_,_,q=>exact q.elim
def dC(hK:X.K=T.K)(hg:Gl X "list")(hm:X.mg "list" = none)(hv:bootBuiltins "list" = some (.type "list"))(ha:SE X T W e m)(he:starEach [e] X.env=[(false,eval e X.env)]:=by rfl):SE X T W (.Call (.Name "list" p) [e] [] pos) (aq (p1 bT) (ae m am)) :=
 nN pp (xE hK) hg hm hv (aa ha ag he) (he:=he)
def eB:PV->Res PV:=fun x=>match aL x with
 | some xs=>.ok (.tup xs)
 | none=>.stuck
def uZ(hK:X.K=T.K):Mir T W (p1 eB) (fun xs H Q=>∃p ys,xs=[.ref p]/\((SqL X.K H p ys/\∀l,H l=none->Q (.ref l) (upd H l (.tup ys)))\/(SqT X.K H p ys/\Q (.ref p) H))):=by
 intro B F L Y H Q F' H' xs vs fx g r nf nd new q
 match xs,r,q with
 | [x],r,q =>
  obtain⟨v,rfl,r1⟩:=r.one
  simp only[p1,eB]at q
  cases x with
  | lst f ys =>
   simp only[aL]at q
   unfold Rel at r1
   obtain⟨a,ws,fp',rfl,hl,hr,hf⟩:=r1
   have sl:fp'.Sublist fx:=by
    cases f with
    | own=>obtain rfl:fx=a::fp':=hf;exact List.sublist_cons_self _ _
    | frz | bor | lnt | mod=>obtain⟨rfl,rfl⟩:=hf;exact List.Sublist.refl _
   exact⟨a,ws,rfl,.inl ⟨by rw[hK];exact hl.sq,GE.newT q g hr (fun b hb=>nf b (sl.subset hb)) (nd.sublist sl) (fun b hb=>new b (sl.subset hb))⟩⟩
  | tup ys =>
   simp only[aL]at q
   have r2:=r1
   unfold Rel at r2
   obtain⟨a,ws,rfl,hs,hr⟩:=r2
   exact⟨a,ws,rfl,.inr ⟨by rw[hK];exact hs,q _ _ _ fx g r1 nf nd new⟩⟩
  | _=>exact q.elim
 | [],_,q | _::_::_,_,q=>exact q.elim
def ij(hK:X.K=T.K)(hg:Gl X "tuple")(hm:X.mg "tuple" = none)(hv:bootBuiltins "tuple" = some (.type "tuple"))(ha:SE X T W e m)(he:starEach [e] X.env=[(false,eval e X.env)]:=by rfl):SE X T W (.Call (.Name "tuple" p) [e] [] pos) (aq (p1 eB) (ae m am)) :=
 nN nh (uZ hK) hg hm hv (aa ha ag he) (he:=he)
def aO:PV->PV->Res PV
 | x,.int i=>match aL x with
  | some xs=>match atI xs i with
   | some y=>if x.has Fl.isOwn&&y.has Fl.isOwn then .stuck else .ok y
   | none=>.stuck
  | none=>.stuck
 | _,_=>.stuck
def BF(r:RelL T F B L H xs vs f)(e:atI xs i=some y):∃v f',atI vs i=some v/\Rel T F B L H y v f'/\f'.Sublist f:=by
 unfold atI at e ⊢
 rw[<- r.length]
 cases e1:ixN xs.length i with
 | none=>rw[e1]at e;cases e
 | some j =>
  rw[e1]at e
  exact r.get e
def A2(hK:X.K=T.K):kI T W aO (fun x y H Q=>Cw X.K x y H Q \/(Cu X.K x y H Q\/Cv x y H Q)):=by
 intro B F L Y H Q F' H' x y v u fx fy g rx ry nf nd new q
 cases y with
 | int i =>
  unfold Rel at ry
  obtain⟨rfl,rfl⟩:=ry
  simp only[aO]at q
  cases e:aL x with
  | none=>rw[e]at q;exact q.elim
  | some xs =>
   rw[e]at q
   dsimp only at q
   obtain⟨a,ws,fx',rfl,hs,hr,sl⟩:=rx.seq e
   cases e2:atI xs i with
   | none=>rw[e2]at q;exact q.elim
   | some z =>
    rw[e2]at q
    dsimp only at q
    obtain⟨w,f',h1,h2,h3⟩:=BF hr e2
    have e0:f'=[]:=by
     by_cases ho:x.has Fl.isOwn=true
     ·by_cases hz:z.has Fl.isOwn=true
      ·rw[ho,hz]at q;exact q.elim
      ·exact Rel.noOwn (by simpa using hz) h2
     ·have:=Rel.noOwn (by simpa using ho) rx
      subst this
      exact List.sublist_nil.mp (h3.trans sl)
    subst e0
    by_cases hb:(x.has Fl.isOwn&&z.has Fl.isOwn)=true
    ·rw[if_pos hb]at q;exact q.elim
    ·rw[if_neg hb]at q
     rcases hs with hs | hs
     ·exact .inl ⟨a,ws,i,w,rfl,rfl,by rw[hK];exact hs,h1,q.scal g h2⟩
     ·exact .inr (.inl ⟨a,ws,i,w,rfl,rfl,by rw[hK];exact hs,h1,q.scal g h2⟩)
 | _=>exact q.elim
def Cp(hK:X.K=T.K)(ha:SE X T W a ma)(hb:SE X T W b mb)(hs:i8 b):SE X T W (.Subscript a b pos) (mOp aO ma mb) :=
 FD sk (A2 hK) ha hb hs
abbrev MO:=En->Res (Option Int)
def i4:MO:=fun _=>.ok none
def jU(m:ME):MO:=fun env=>(m env).bind fun
 | .int i=>.ok (some i)
 | _=>.stuck
def kb(xs:List PV)(lo hi:Option Int):List PV:=(xs.drop (HT.sIx xs.length 0 lo)).take (HT.sIx xs.length xs.length hi - HT.sIx xs.length 0 lo)
def iE(o:ME)(lo hi:MO):ME:=fun env=>(o env).bind fun x=>(lo env).bind fun l=>(hi env).bind fun h=>match x with
 | .lst _ xs=>.ok (.lst .own (kb xs l h))
 | _=>.stuck
def RelL.drop:∀{xs:List PV}{vs:List V}{f:List Addr} (n:Nat),RelL T F B L H xs vs f->∃f',RelL T F B L H (xs.drop n) (vs.drop n) f'/\f'.Sublist f
 | xs,vs,f,0,h=>⟨f,h,List.Sublist.refl _⟩
 | [],vs,f,n+1,h=>by unfold RelL at h;obtain⟨rfl,rfl⟩:=h;exact⟨[],by simp[RelL],List.Sublist.refl _⟩
 | x::xs,_,_,n+1,h=>by
  unfold RelL at h
  obtain⟨v,ws,f1,f2,rfl,h1,h2,rfl⟩:=h
  obtain⟨f',r,s⟩:=RelL.drop n h2
  exact⟨f',by simpa using r,s.trans (List.sublist_append_right _ _)⟩
def RelL.take:∀{xs:List PV}{vs:List V}{f:List Addr} (n:Nat),RelL T F B L H xs vs f->∃f',RelL T F B L H (xs.take n) (vs.take n) f'/\f'.Sublist f
 | xs,vs,f,0,h=>⟨[],by simp[RelL],List.nil_sublist _⟩
 | [],vs,f,n+1,h=>by unfold RelL at h;obtain⟨rfl,rfl⟩:=h;exact⟨[],by simp[RelL],List.Sublist.refl _⟩
 | x::xs,_,_,n+1,h=>by
  unfold RelL at h
  obtain⟨v,ws,f1,f2,rfl,h1,h2,rfl⟩:=h
  obtain⟨f',r,s⟩:=RelL.take n h2
  refine⟨f1++f',?_,List.Sublist.append (List.Sublist.refl _) s⟩
  rw[List.take_succ_cons,List.take_succ_cons]
  unfold RelL
  exact⟨v,_,f1,f',rfl,h1,r,rfl⟩
def tO(T:Tb)(W:Nat->St->Hp->Prop)(m:MO):TO:=fun Y H Q=>∃Z F env fp,av T Z F H Y env fp/\match m env with
 | .ok o=>∀H' F',Gr F H F' H'->Q o H'
 | .exc c=>∀H',Ext H H'->W c Y H'
 | .stuck=>False
abbrev SO(X:Cx)(T:Tb)(W:Nat->St->Hp->Prop)(e:Option Expr)(m:MO):Prop:=PO X e (tO T W m)
def oy:SO X T W none i4:=fun js s Y H Q I ⟨Z,F,env,fp,S,q⟩=>Az js s Y H Q I (q H F (Gr.refl S.hp.ft))
def jF(h:SE X T W e m):SO X T W (some e) (jU m):=fun js s Y H Q I ⟨Z,F,env,fp,S,q⟩=>Ay h js s Y H Q I (by
 unfold jU at q
 refine tE.bind S (fun c e=>by rw[e]at q;exact q) (fun e=>by rw[e]at q;exact q) fun x v H1 F1 f1 e1 g1 r1 n1 d1 w1=>?_
 rw[e1]at q
 cases x with
 | int i=>unfold Rel at r1;exact⟨i,r1.1,q H1 F1 g1⟩
 | _=>exact q.elim)
def jH(hK:X.K=T.K)(he:SE X T W e m)(hl:SO X T W lo ml)(hu:SO X T W hi mh):SE X T W (.Subscript e (.Slice lo hi none p2) pos) (iE m ml mh) :=
 PE.wk (wL (pos:=pos) (p2:=p2) z6 he hl hu) fun Y H Q hz1=>by
  obtain⟨Z,F,env,fp,S,q⟩:=hz1
  unfold iE at q
  refine tE.bind S (fun c e=>by rw[e]at q;exact q) (fun e=>by rw[e]at q;exact q) fun x v H1 F1 f1 e1 g1 r1 n1 d1 w1=>?_
  rw[e1]at q
  simp only[Res.ok_bind]at q
  refine⟨Z,F1,env,fp,S.grow g1,?_⟩
  cases e2:ml env with
  | exc c=>rw[e2]at q;exact fun H' x=>q H' (g1.ext.trans x)
  | stuck=>rw[e2]at q;exact q
  | ok l =>
   rw[e2]at q
   intro H2 F2 g2
   refine⟨Z,F2,env,fp,(S.grow g1).grow g2,?_⟩
   simp only[Res.ok_bind]at q
   cases e3:mh env with
   | exc c=>rw[e3]at q;exact fun H' x=>q H' ((g1.ext.trans g2.ext).trans x)
   | stuck=>rw[e3]at q;exact q
   | ok h =>
    rw[e3]at q
    intro H3 F3 g3
    simp only[Res.ok_bind]at q
    cases x with
    | lst f xs =>
     have g:=(g1.trans g2).trans g3
     have r3:=(r1.ext (g2.trans g3).ext (g2.trans g3).mono)
     have nf3:∀a∈f1,¬F3 a:=fun a ha z=>by
      rcases(g2.trans g3).only a z with z | z
      ·exact n1 a ha z
      ·obtain⟨o,ho⟩:=r1.there a ha
       rw[ho]at z;cases z
     unfold Rel at r3
     obtain⟨a,ws,fp',rfl,hll,hr,hf⟩:=r3
     have sl:fp'.Sublist f1:=by
      cases f with
      | own=>obtain rfl:f1=a::fp':=hf;exact List.sublist_cons_self _ _
      | frz | bor | lnt | mod=>obtain⟨rfl,rfl⟩:=hf;exact List.Sublist.refl _
     obtain⟨f4,h4,s4⟩:=RelL.drop (HT.sIx xs.length 0 l) hr
     obtain⟨f5,h5,s5⟩:=RelL.take (HT.sIx xs.length xs.length h - HT.sIx xs.length 0 l) h4
     have sl2:=(s5.trans s4).trans sl
     refine⟨a,ws,rfl,by rw[hK];exact hll.sq,?_⟩
     unfold yP
     rw[<- hr.length]
     exact GE.newL q g h5 (fun b hb=>nf3 b (sl2.subset hb)) (d1.sublist sl2) (fun b hb=>w1 b (sl2.subset hb))
    | _=>exact q.elim
def BO(K:PySem.W.Frag):R2:=fun x y H Q=>∃l b xs zs,x=.ref l/\y=.ref b/\Rd H l (.lst xs)/\Rd H b (.lst zs)/\xs.length+zs.length<=sizeLine/\∀p,H p=none->Q (.ref p) (upd H p (.lst (xs++zs)))
def AN:OpR X (binaryOp .Add) (BO K):=by
 intro js s Y H x y v u Q I rx ry h
 obtain⟨l,b,xs,zs,rfl,rfl,hH,hB,hz,q⟩:=h
 cases rx
 cases ry
 obtain⟨z,its,n,r,e⟩:=hH.ok I.hok
 obtain⟨z2,its2,n2,r2,e2⟩:=hB.ok I.hok
 have hl:=r.length
 have hl2:=r2.length
 refine PySem.P.add_list e e2 ?_ (by rw[List.size_toArray,List.size_toArray];omega)
 have ea:its.toArray++its2.toArray=(its++its2).toArray:=by simp
 rw[ea]
 exact⟨.ref _,_,I.lnew (t':=s.toks) (r.append r2) (by rw[List.length_append];omega),rfl,q _ I.fresh⟩
def aY:PV->PV->Res PV
 | .int i,.int j=>.ok (.int (i+j))
 | .lst f xs,.lst g ys=>if f=.mod\/g=.mod\/¬xs.length+ys.length<=10000000 then .stuck else .ok (.lst .own (xs++ys))
 | _,_=>.stuck
def mY.rd(h:mY T F B L H f a vs)(n:f≠.mod):Rd H a (.lst vs):=by
 cases f with
 | own=>exact .inl h
 | lnt=>exact .inl h.2
 | frz | bor=>exact h.2
 | mod=>exact absurd rfl n
def qW.sub(hf:qW f a fp' fx):fp'.Sublist fx:=by
 cases f with
 | own=>obtain rfl:fx=a::fp':=hf;exact List.sublist_cons_self _ _
 | frz | bor | lnt | mod=>obtain⟨rfl,rfl⟩:=hf;exact List.Sublist.refl _
def xB:kI T W aY (fun x y H Q=>(rI0 fun i j=>.int (i+j)) x y H Q\/BO T.K x y H Q):=by
 intro B F L Y H Q F' H' x y v u fx fy g rx ry nf nd new q
 cases x with
 | int i =>
  cases y with
  | int j=>unfold Rel at rx ry;exact .inl ⟨i,j,rx.1,ry.1,q.scal g fe⟩
  | _=>exact q.elim
 | lst f xs =>
  cases y with
  | lst f' ys =>
   simp only[aY]at q
   by_cases hc:f=.mod\/f'=.mod\/¬xs.length+ys.length<=10000000
   ·rw[if_pos hc]at q;exact q.elim
   ·rw[if_neg hc]at q
    unfold Rel at rx ry
    obtain⟨a,vs,fp1,rfl,hl1,hr1,hf1⟩:=rx
    obtain⟨b,us,fp2,rfl,hl2,hr2,hf2⟩:=ry
    have sl:=List.Sublist.append hf1.sub hf2.sub
    have h3:xs.length+ys.length<=10000000:=by
     rcases Nat.lt_or_ge 10000000 (xs.length+ys.length)with z | z
     ·exact absurd (.inr (.inr (by omega))) hc
     ·exact z
    refine .inr ⟨a,b,vs,us,rfl,rfl,hl1.rd fun z=>hc (.inl z),hl2.rd fun z=>hc (.inr (.inl z)),by rw[<- hr1.length,<- hr2.length,sizeLine_eq];omega,?_⟩
    exact GE.newL q g (RelL.append hr1 hr2) (fun b hb=>nf b (sl.subset hb)) (nd.sublist sl) (fun b hb=>new b (sl.subset hb))
  | _=>exact q.elim
 | _=>exact q.elim
def OpR.or(h:OpR X f r)(h':OpR X f r'):OpR X f (fun x y H Q=>r x y H Q\/r' x y H Q):=by
 intro js s Y H x y v u Q I rx ry q
 rcases q with q | q
 ·exact h js s Y H x y v u Q I rx ry q
 ·exact h' js s Y H x y v u Q I rx ry q
def a6(ha:SE X T W a ma)(hb:SE X T W b mb):SE X T W (.BinOp a .Add b pos) (mOp aY ma mb):=kM (OpR.or CZ AN) xB ha hb
end
mutual
def PV.data:PV->PyData
 | .non=>.none
 | .bl b=>.bool b
 | .int i=>.int i
 | .str x=>.str x
 | .lst _ xs=>.list (dataL xs)
 | .tup xs=>.tuple (dataL xs)
 | .obj _ _ _ _ | .exc _ | .box _ _=>.dict []
def dataL:List PV->List PyData
 | []=>[]
 | x::xs=>x.data::dataL xs
end
def shp(x:PV):Bool:=SeqAt.shaped x.data
section
variable{X:Cx}{T:Tb}{W:Nat->St->Hp->Prop}{Z:Zn}{F F1 B L:Addr->Prop}{H H1:Hp}{Y:St}{env:En}{fp:Nat->List Addr}{D:Ends}{js:List (Addr×Obj)}{s:Shared}
mutual
def Rel.reads(hK:X.K=T.K)(I:L2.Inv X js Y H s):∀{x:PV}{v:V}{f:List Addr}{u:Value},Rel T F B L H x v f->bu v u->x.data.canLay0=true->∃as,Reads s.heap u x.data as
 | .non,_,_,_,r,ru,_=>by unfold Rel at r;obtain⟨rfl,_⟩:=r;cases ru;exact⟨[],.none⟩
 | .bl b,_,_,_,r,ru,_=>by unfold Rel at r;obtain⟨rfl,_⟩:=r;cases ru;exact⟨[],.bool b⟩
 | .int i,_,_,_,r,ru,_=>by unfold Rel at r;obtain⟨rfl,_⟩:=r;obtain⟨t,rfl⟩:=ru;exact⟨[],.int i t⟩
 | .str x,_,_,_,r,ru,_=>by unfold Rel at r;obtain⟨rfl,_⟩:=r;obtain⟨t,rfl⟩:=ru;exact⟨[],.str x t⟩
 | .lst f xs,_,_,_,r,ru,hc=>by
  unfold Rel at r
  obtain⟨a,vs,fp',rfl,hl,hr,_⟩:=r
  cases ru
  obtain⟨its,rv,⟨o,n,ho,hcl,_,hd⟩,_⟩:=I.list (by rw[hK];exact hl.sq)
  obtain⟨as,ra⟩:=RelL.reads hK I hr rv (by simpa[PV.data,PyData.canLay0]using hc)
  exact⟨_,.list ho hcl hd (by simpa using ra)⟩
 | .tup xs,_,_,_,r,ru,hc=>by
  unfold Rel at r
  obtain⟨a,vs,rfl,hl,hr⟩:=r
  cases ru
  obtain⟨its,rv,⟨o,ho,hcl,n,hd⟩,_⟩:=I.tuple (by rw[hK];exact hl)
  obtain⟨as,ra⟩:=RelL.reads hK I hr rv (by simpa[PV.data,PyData.canLay0]using hc)
  exact⟨_,.tuple ho hcl hd (by simpa using ra)⟩
 | .obj _ _ _ _,_,_,_,_,_,hc | .exc _,_,_,_,_,_,hc | .box _ _,_,_,_,_,_,hc=>by simp[PV.data,PyData.canLay0]at hc
def RelL.reads(hK:X.K=T.K)(I:L2.Inv X js Y H s):∀{xs:List PV}{vs:List V}{f:List Addr}{us:List Value},RelL T F B L H xs vs f->aP vs us->PyData.canLayAll0 (dataL xs)=true->∃as,ReadsAll s.heap us (dataL xs) as
 | [],_,_,_,r,ru,_=>by unfold RelL at r;obtain⟨rfl,_⟩:=r;cases ru;exact⟨[],.nil⟩
 | x::xs,_,_,_,r,ru,hc=>by
  unfold RelL at r
  obtain⟨v,ws,f1,f2,rfl,h1,h2,_⟩:=r
  cases ru with
  | cons r1 r2 =>
   simp only[dataL,PyData.canLayAll0,Bool.and_eq_true]at hc
   obtain⟨as,ra⟩:=Rel.reads hK I h1 r1 hc.1
   obtain⟨bs,rb⟩:=RelL.reads hK I h2 r2 hc.2
   exact⟨_,.cons ra rb⟩
end
def pEq:PV->PV->Res PV:=fun x y=>if shp x&&shp y then .ok (.bl (PyData.eqv x.data y.data))else .stuck
def pNe:PV->PV->Res PV:=fun x y=>if shp x&&shp y then .ok (.bl (!PyData.eqv x.data y.data))else .stuck
def wx(X:Cx)(T:Tb)(g:PyData->PyData->Bool):R2:=fun v u H Q=>∃x y F B L fx fy,Rel T F B L H x v fx/\Rel T F B L H y u fy/\shp x=true/\shp y=true/\Q (.bl (g x.data y.data)) H
def wW(hK:X.K=T.K)(hu:X.A.units+64 < cLine):OpR X (compareOp .Eq) (wx X T fun a b=>PyData.eqv a b):=by
 intro js s Y H v u v' u' Q I rv ru h
 obtain⟨x,y,F,B,L,fx,fy,rx,ry,hx,hy,q⟩:=h
 obtain⟨as,ra⟩:=rx.reads hK I rv (SeqAt.canLay_of_shaped hx)
 obtain⟨bs,rb⟩:=ry.reads hK I ru (SeqAt.canLay_of_shaped hy)
 exact PyProof.Rows.eq_dataH ra rb hx hy hu ⟨.bl _,H,I,rfl,q⟩
def wU(hK:X.K=T.K)(hu:X.A.units+64 < cLine):OpR X (compareOp .NotEq) (wx X T fun a b=>!PyData.eqv a b):=by
 intro js s Y H v u v' u' Q I rv ru h
 obtain⟨x,y,F,B,L,fx,fy,rx,ry,hx,hy,q⟩:=h
 obtain⟨as,ra⟩:=rx.reads hK I rv (SeqAt.canLay_of_shaped hx)
 obtain⟨bs,rb⟩:=ry.reads hK I ru (SeqAt.canLay_of_shaped hy)
 exact PyProof.Rows.ne_dataH ra rb hx hy hu ⟨.bl _,H,I,rfl,q⟩
def jR:kI T W (fun x y=>if shp x&&shp y then .ok (.bl (g x.data y.data))else .stuck) (wx X T g):=by
 intro B F L Y H Q F' H' x y v u fx fy gr rx ry nf nd new q
 dsimp only at q
 by_cases hc:(shp x&&shp y)=true
 ·rw[if_pos hc]at q
  rw[Bool.and_eq_true]at hc
  exact⟨x,y,F',B,L,fx,fy,rx,ry,hc.1,hc.2,q.scal gr kX⟩
 ·rw[if_neg hc]at q;exact q.elim
variable{a b:Expr}{ma mb:ME}{pos:Pos}
def we(hK:X.K=T.K)(hu:X.A.units+64 < cLine)(ha:SE X T W a ma)(hb:SE X T W b mb):SE X T W (.Compare a [.Eq] [b] pos) (mOp pEq ma mb):=rG (wW hK hu) jR ha hb (gQ _)
def wb(hK:X.K=T.K)(hu:X.A.units+64 < cLine)(ha:SE X T W a ma)(hb:SE X T W b mb):SE X T W (.Compare a [.NotEq] [b] pos) (mOp pNe ma mb):=rG (wU hK hu) (jR (g:=fun a b=>!PyData.eqv a b)) ha hb (gQ _)
def cY(hK:X.K=T.K)(hu:X.A.units+64 < cLine)(ha:SE X T W a ma)(hb:SE X T W b mb):ST X T W (.Compare a [.Eq] [b] pos) (aA (mOp pEq ma mb)):=gE (wW hK hu) jR ha hb (gQ _)
def eX(hK:X.K=T.K)(hu:X.A.units+64 < cLine)(ha:SE X T W a ma)(hb:SE X T W b mb):ST X T W (.Compare a [.NotEq] [b] pos) (aA (mOp pNe ma mb)):=gE (wU hK hu) (jR (g:=fun a b=>!PyData.eqv a b)) ha hb (gQ _)
def f7(ha:SE X T W a ma)(hb:SE X T W b mb):ST X T W (.Compare a [.Lt] [b] pos) (aA (mOp pLt ma mb)):=gE FT (lX fun _ _ _ _ _ _=>kX) ha hb (gQ _)
def kL(ha:SE X T W a ma)(hb:SE X T W b mb):ST X T W (.Compare a [.Gt] [b] pos) (aA (mOp pGt ma mb)):=gE FU (lX fun _ _ _ _ _ _=>kX) ha hb (gQ _)
def nE(ha:SE X T W a ma)(hb:SE X T W b mb):ST X T W (.Compare a [.GtE] [b] pos) (aA (mOp pGe ma mb)):=gE FV (lX fun _ _ _ _ _ _=>kX) ha hb (gQ _)
def inL(x:PV)(ys:List PV):Bool:=ys.any fun y=>PyData.eqv y.data x.data
def pIn:PV->PV->Res PV:=fun x y=>match aL y with
 | some ys=>if shp x&&ys.all shp then .ok (.bl (inL x ys))else .stuck
 | none=>.stuck
def iy:PV->PV->Res PV:=fun x y=>match aL y with
 | some ys=>if shp x&&ys.all shp then .ok (.bl (!inL x ys))else .stuck
 | none=>.stuck
def mK(hK:X.K=T.K)(I:L2.Inv X js Y H s)(hu:A.units+64 < cLine)(rx:Rel T F B L H x v fx)(ry:Rel T F B L H y u fy)(rv:bu v v')(ru:bu u u')(hx:shp x=true)(hy:shp y=true) :
  SeqAt.EqAt A s v' u' (PyData.eqv x.data y.data):=by
 obtain⟨as,ra⟩:=rx.reads hK I rv (SeqAt.canLay_of_shaped hx)
 obtain⟨bs,rb⟩:=ry.reads hK I ru (SeqAt.canLay_of_shaped hy)
 exact SeqAt.eqAt_reads _ _ A s v' u' as bs ra rb (SeqAt.canLay_of_shaped hx) (SeqAt.canLay_of_shaped hy) (SeqAt.room_of_shaped hx hu)
def j0(hK:X.K=T.K)(I:L2.Inv X js Y H s)(hu:A.units+64 < cLine)(rx:Rel T F B L H x v fx)(rv:bu v v')(hx:shp x=true) :
  ∀{ys:List PV}{us:List V}{fy:List Addr}{us':List Value},RelL T F B L H ys us fy->aP us us'->ys.all shp=true->∃e:Value->Bool,(∀w∈us',SeqAt.EqAt A s w v' (e w))/\us'.any e=inL x ys:=by
 intro ys us fy us' r rv' hs
 have one:∀(ys:List PV) (us:List V) (fy:List Addr) (us':List Value),RelL T F B L H ys us fy->aP us us'->ys.all shp=true->∀w∈us',∃b,SeqAt.EqAt A s w v' b/\(b=true->inL x ys=true):=by
  intro ys
  induction ys with
  | nil =>
   intro us fy us' r rv' _ w hw
   unfold RelL at r
   obtain⟨rfl,_⟩:=r
   cases rv'
   cases hw
  | cons y ys ih =>
   intro us fy us' r rv' hs w hw
   unfold RelL at r
   obtain⟨u,ws,f1,f2,rfl,h1,h2,_⟩:=r
   cases rv' with
   | cons r1 r2 =>
    rw[List.all_cons,Bool.and_eq_true]at hs
    rcases List.mem_cons.mp hw with rfl | hw
    ·exact⟨_,mK hK I hu h1 rx r1 rv hs.1 hx,fun z=>by simp[inL,z]⟩
    ·obtain⟨b,h3,h4⟩:=ih ws f2 _ h2 r2 hs.2 w hw
     exact⟨b,h3,fun z=>by have:=h4 z;unfold inL at this ⊢;simp[this]⟩
 have some_:∀(ys:List PV) (us:List V) (fy:List Addr) (us':List Value),RelL T F B L H ys us fy->aP us us'->ys.all shp=true->inL x ys=true->∃w∈us',SeqAt.EqAt A s w v' true:=by
  intro ys
  induction ys with
  | nil=>intro us fy us' r rv' _ h;simp[inL]at h
  | cons y ys ih =>
   intro us fy us' r rv' hs h
   unfold RelL at r
   obtain⟨u,ws,f1,f2,rfl,h1,h2,_⟩:=r
   cases rv' with
   | cons r1 r2 =>
    rw[List.all_cons,Bool.and_eq_true]at hs
    by_cases hy:PyData.eqv y.data x.data=true
    ·refine⟨_,List.mem_cons_self,?_⟩
     have:=mK hK I hu h1 rx r1 rv hs.1 hx
     rwa [hy]at this
    ·have h':inL x ys=true:=by
      unfold inL at h ⊢
      rw[List.any_cons]at h
      simpa[hy]using h
     grind
 by_cases hin:inL x ys=true
 ·obtain⟨w0,hw0,q0⟩:=some_ ys us fy us' r rv' hs hin
  refine⟨fun w=>@decide (SeqAt.EqAt A s w v' true) (Classical.propDecidable _),fun w hw=>?_,?_⟩
  ·obtain⟨b,h1,_⟩:=one ys us fy us' r rv' hs w hw
   by_cases ht:SeqAt.EqAt A s w v' true
   ·simp only[ht,decide_true]
   ·simp only[ht,decide_false]
    cases b with
    | true=>exact absurd h1 ht
    | false=>exact h1
  ·rw[hin,List.any_eq_true]
   exact⟨w0,hw0,by simp[q0]⟩
 ·have hin':inL x ys=false:=by simpa using hin
  refine⟨fun _=>false,fun w hw=>?_,by rw[hin'];simp⟩
  grind
def Cy(X:Cx)(T:Tb)(neg:Bool):R2:=fun v u H Q=>∃x ys a vs F B L fx fy,u=.ref a/\(SqL T.K H a vs\/SqT T.K H a vs)/\Rel T F B L H x v fx/\RelL T F B L H ys vs fy/\shp x=true/\ys.all shp=true/\Q (.bl (if neg then !inL x ys else inL x ys)) H
def wV(hK:X.K=T.K)(hu:X.A.units+66 < cLine):OpR X (compareOp .In) (Cy X T false):=by
 intro js s Y H v u v' u' Q I rv ru h
 obtain⟨x,ys,a,vs,F,B,L,fx,fy,rfl,hs,rx,ry,hx,hy,q⟩:=h
 cases ru
 have hu1:X.A.in1.units+64 < cLine:=by show X.A.units+1+64 < cLine;omega
 rcases hs with hs | hs
 ·obtain⟨its,r,pl,_⟩:=I.list (by rw[hK];exact hs)
  obtain⟨e,h1,h2⟩:=j0 hK I hu1 rx rv hx ry r hy
  refine SeqAt.in_listAt e pl.isList (fun w hw=>h1 w (by simpa using hw)) ⟨.bl _,H,I,rfl,?_⟩
  rw[show its.toArray.any e=its.any e by simp,h2]
  exact q
 ·obtain⟨its,r,pl,_⟩:=I.tuple (by rw[hK];exact hs)
  obtain⟨e,h1,h2⟩:=j0 hK I hu1 rx rv hx ry r hy
  refine SeqAt.in_tupleAt e pl (fun w hw=>h1 w (by simpa using hw)) ⟨.bl _,H,I,rfl,?_⟩
  rw[show its.toArray.any e=its.any e by simp,h2]
  exact q
def uU(hK:X.K=T.K)(hu:X.A.units+66 < cLine):OpR X (compareOp .NotIn) (Cy X T true):=by
 intro js s Y H v u v' u' Q I rv ru h
 obtain⟨x,ys,a,vs,F,B,L,fx,fy,rfl,hs,rx,ry,hx,hy,q⟩:=h
 cases ru
 have hu1:X.A.in1.units+64 < cLine:=by show X.A.units+1+64 < cLine;omega
 rcases hs with hs | hs
 ·obtain⟨its,r,pl,_⟩:=I.list (by rw[hK];exact hs)
  obtain⟨e,h1,h2⟩:=j0 hK I hu1 rx rv hx ry r hy
  refine SeqAt.notIn_listAt e pl.isList (fun w hw=>h1 w (by simpa using hw)) ⟨.bl _,H,I,rfl,?_⟩
  rw[show its.toArray.any e=its.any e by simp,h2]
  exact q
 ·obtain⟨its,r,pl,_⟩:=I.tuple (by rw[hK];exact hs)
  obtain⟨e,h1,h2⟩:=j0 hK I hu1 rx rv hx ry r hy
  refine SeqAt.notIn_tupleAt e pl (fun w hw=>h1 w (by simpa using hw)) ⟨.bl _,H,I,rfl,?_⟩
  rw[show its.toArray.any e=its.any e by simp,h2]
  exact q
def r9:kI T W (fun x y=>match aL y with
 | some ys=>if shp x&&ys.all shp then .ok (.bl (if neg then !inL x ys else inL x ys))else .stuck
 | none=>.stuck) (Cy X T neg):=by
 intro B F L Y H Q F' H' x y v u fx fy gr rx ry nf nd new q
 dsimp only at q
 cases e:aL y with
 | none=>rw[e]at q;exact q.elim
 | some ys =>
  rw[e]at q
  dsimp only at q
  by_cases hc:(shp x&&ys.all shp)=true
  ·rw[if_pos hc]at q
   rw[Bool.and_eq_true]at hc
   obtain⟨a,ws,f',rfl,hs,hr,_⟩:=ry.seq e
   exact⟨x,ys,a,ws,F',B,L,fx,f',rfl,hs,rx,hr,hc.1,hc.2,q.scal gr kX⟩
  ·rw[if_neg hc]at q;exact q.elim
def BN(hK:X.K=T.K)(hu:X.A.units+66 < cLine)(ha:SE X T W a ma)(hb:SE X T W b mb)(hk:behindInMarks .In b=false:=by with_unfolding_all rfl):SE X T W (.Compare a [.In] [b] pos) (mOp pIn ma mb):=rG (wV hK hu) (r9 (neg:=false)) ha hb hk
def pK(hK:X.K=T.K)(hu:X.A.units+66 < cLine)(ha:SE X T W a ma)(hb:SE X T W b mb)(hk:behindInMarks .In b=false:=by with_unfolding_all rfl):ST X T W (.Compare a [.In] [b] pos) (aA (mOp pIn ma mb)):=gE (wV hK hu) (r9 (neg:=false)) ha hb hk
def lD(hK:X.K=T.K)(hu:X.A.units+66 < cLine)(ha:SE X T W a ma)(hb:SE X T W b mb)(hk:behindInMarks .NotIn b=false:=by with_unfolding_all rfl):ST X T W (.Compare a [.NotIn] [b] pos) (aA (mOp iy ma mb)):=gE (uU hK hu) (r9 (neg:=true)) ha hb hk
def PV.isNon:PV->Bool
 | .non=>true
 | _=>false
def jd:PV->PV->Res PV
 | x,.non=>.ok (.bl (!x.isNon))
 | _,_=>.stuck
def Rel.isNon(r:Rel T F B L H x v f):decide (v=.non)=x.isNon:=by
 cases x with
 | non | bl b | int i | str i=>unfold Rel at r;rw[r.1];rfl
 | lst f xs=>unfold Rel at r;obtain⟨a,_,_,rfl,_⟩:=r;rfl
 | tup xs=>unfold Rel at r;obtain⟨a,_,rfl,_⟩:=r;rfl
 | obj f c ks xs=>unfold Rel at r;obtain⟨a,_,_,_,rfl,_⟩:=r;rfl
 | exc c=>unfold Rel at r;obtain⟨a,rfl,_⟩:=r;rfl
 | box k xs=>unfold Rel at r;obtain⟨a,vs,rfl,_⟩:=r;rfl
def xC:kI T W jd (fun x y H Q=>y=.non/\Q (.bl (!decide (x=.non))) H):=by
 intro B F L Y H Q F' H' x y v u fx fy gr rx ry nf nd new q
 cases y with
 | non=>unfold Rel at ry;refine⟨ry.1,?_⟩;rw[rx.isNon];exact GE.scal (pv:=.bl (!x.isNon)) (by simpa[jd]using q) gr kX
 | _=>simp only[jd]at q;exact q.elim
def sT(ha:SE X T W a ma)(hb:SE X T W b mb):ST X T W (.Compare a [.IsNot] [b] pos) (aA (mOp jd ma mb)):=gE AL xC ha hb (gQ _)
end
abbrev TgM:=PV->En->Option En
abbrev sI:=List PV->En->Option En
def tgN(i:Nat):TgM:=fun v env=>if aU i env then some (env.set i (some v))else none
def g7:sI:=fun vs env=>match vs with
 | []=>some env
 | _=>none
def bO(t:TgM)(u:sI):sI:=fun vs env=>match vs with
 | v::r=>match t v env with
  | some e=>u r e
  | none=>none
 | []=>none
def tgT(n:Nat)(u:sI):TgM:=fun v env=>match v with
 | .tup xs=>if xs.length=n then u xs env else none
 | _=>none
structure vK(Z:Zn)(F:Addr->Prop)(fp:Nat->List Addr)(f:List Addr):Prop where
 nd:f.Nodup
 nf:∀a∈f,¬F a
 new:∀a∈f,Z.H0 a=none\/Z.fp0 a
 dj:∀a∈f,∀j,a∉fp j
def vK.nil:vK Z F fp []:=⟨List.nodup_nil,fun _ z=>(nomatch z),fun _ z=>(nomatch z),fun _ z=>(nomatch z)⟩
def GG(T:Tb)(Z:Zn)(F:Addr->Prop)(H:Hp)(Q:St->Hp->Prop):Option En->Prop
 | some e=>∀Y fp,av T Z F H Y e fp->Q Y H
 | none=>False
def tG(T:Tb)(m:TgM):TG:=fun v Y H Q=>∃Z F env fp pv f,av T Z F H Y env fp/\Rel T F Z.B NoL H pv v f/\vK Z F fp f/\GG T Z F H Q (m pv env)
def tGs(T:Tb)(m:sI):TGs:=fun vs Y H Q=>∃Z F env fp pvs f,av T Z F H Y env fp/\RelL T F Z.B NoL H pvs vs f/\vK Z F fp f/\GG T Z F H Q (m pvs env)
abbrev SG(X:Cx)(T:Tb)(tg:Expr)(m:TgM):Prop:=PG X tg (tG T m)
abbrev SGs(X:Cx)(T:Tb)(ts:List Expr)(m:sI):Prop:=PGs X ts (tGs T m)
section
variable{X:Cx}{T:Tb}{W:Nat->St->Hp->Prop}{Z:Zn}{F F1 B L:Addr->Prop}{H H1:Hp}{Y:St}{env:En}{fp:Nat->List Addr}{D:Ends}
def PG.wk(h:PG X tg t)(w:∀v Y H Q,t' v Y H Q->t v Y H Q):PG X tg t':=fun js s Y H v u Q I r q=>h js s Y H v u Q I r (w v Y H Q q)
def PGs.wk(h:PGs X ts t)(w:∀v Y H Q,t' v Y H Q->t v Y H Q):PGs X ts t':=fun js s Y H v u Q I r q=>h js s Y H v u Q I r (w v Y H Q q)
def z8(hN:X.N.Nodup)(hi:X.N[i]?=some x)(hx:Loc X.env.scope x)(hf:X.fn x=true\/X.env.scope.names.lookup x=some .local:=by first | exact .inl rfl | exact .inr rfl | assumption):SG X T (.Name x pos) (tgN i) :=
 PG.wk (oJ (pos:=pos) hN hi hx hf) fun v Y H Q hz1=>by
  obtain⟨Z,F,env,fp,pv,f,S,r,fr,q⟩:=hz1
  unfold tgN at q
  by_cases ho:aU i env=true
  ·rw[if_pos ho]at q
   exact q _ _ (S.put r fr.nd fr.nf fr.new (fun a ha j _=>fr.dj a ha j) ho)
  ·rw[if_neg ho]at q;exact q.elim
def iU:SGs X T [] g7:=PGs.wk AC fun vs Y H Q hz1=>by
 obtain⟨Z,F,env,fp,pvs,f,S,r,fr,q⟩:=hz1
 cases pvs with
 | nil=>unfold RelL at r;exact⟨r.1,q Y fp S⟩
 | cons x xs=>exact q.elim
def cQ(hN:X.N.Nodup)(hi:X.N[i]?=some x)(hx:Loc X.env.scope x)(h2:SGs X T es u)
  (hs:(assignEach (.Name x pos::es) X.env).map (·.2)=assign (.Name x pos) X.env::(assignEach es X.env).map (·.2):=by rfl)
  (hf:X.fn x=true\/X.env.scope.names.lookup x=some .local:=by first | exact .inl rfl | exact .inr rfl | assumption):SGs X T (.Name x pos::es) (bO (tgN i) u) :=
 PGs.wk (wJ (oJ (pos:=pos) hN hi hx hf) h2 hs) fun vs Y H Q hz1=>by
  obtain⟨Z,F,env,fp,pvs,f,S,r,fr,q⟩:=hz1
  cases pvs with
  | nil=>exact q.elim
  | cons y ys =>
   unfold RelL at r
   obtain⟨v,ws,f1,f2,rfl,r1,r2,rfl⟩:=r
   obtain⟨n1,n2,n3⟩:=List.nodup_append.mp fr.nd
   by_cases ho:aU i env=true
   case neg=>simp only[bO,tgN,if_neg ho]at q;exact q.elim
   simp only[bO,tgN,if_pos ho]at q
   refine⟨v,ws,rfl,Z,F,env.set i (some y),br fp i f1,ys,f2,S.put r1 n1 (fun a ha=>fr.nf a (List.mem_append_left _ ha)) (fun a ha=>fr.new a (List.mem_append_left _ ha)) (fun a ha j _=>fr.dj a (List.mem_append_left _ ha) j) ho,r2,⟨n2,fun a ha=>fr.nf a (List.mem_append_right _ ha),fun a ha=>fr.new a (List.mem_append_right _ ha),fun a ha j=>?_⟩,q⟩
   unfold br
   split
   ·exact fun z=>n3 a z a ha rfl
   ·exact fr.dj a (List.mem_append_right _ ha) j
def kf(hK:X.K=T.K)(hc:X.calm=true)(h:SGs X T es u)(hn:(assignEach es X.env).length=n:=by rfl)(hst:(assignEach es X.env).findIdx? (·.1)=none:=by rfl):SG X T (.Tuple es k pos) (tgT n u) :=
 PG.wk (CG (pos:=pos) (k:=k) hc h hn hst) fun v Y H Q hz1=>by
  obtain⟨Z,F,env,fp,pv,f,S,r,fr,q⟩:=hz1
  cases pv with
  | tup xs =>
   unfold Rel at r
   obtain⟨a,vs,rfl,hl,hr⟩:=r
   simp only[tgT]at q
   by_cases hx:xs.length=n
   ·rw[if_pos hx]at q
    exact⟨a,vs,rfl,by rw[hK];exact hl,by rw[<- hr.length];exact hx,Z,F,env,fp,xs,f,S,hr,fr,q⟩
   ·rw[if_neg hx]at q;exact q.elim
  | _=>exact q.elim
abbrev MI:=En->Res (List PV)
def ItR(T:Tb)(F B:Addr->Prop)(Ow:Addr->Prop)(H1:Hp)(J:It)(xs:List PV):Prop :=
 ∀H2,(∀a o,H1 a=some o->¬Ow a->H2 a=some o)->(∀(i:Nat) x,xs[i]?=some x->J.go i H2/\∀v H3,J.yld i H2 v H3->Ext H2 H3/\Rel T F B NoL H3 x v [])/\J.stop xs.length H2
def ItR.of0(h:∀H2,(∀a o,H1 a=some o->¬Ow a->H2 a=some o)->(∀(i:Nat) x,xs[i]?=some x->J.go i H2/\∀v H3,J.yld i H2 v H3->H3=H2/\Rel T F B NoL H2 x v [])/\J.stop xs.length H2):ItR T F B Ow H1 J xs:=fun H2 hk=>by
 obtain⟨a,b⟩:=h H2 hk
 refine⟨fun i x e=>⟨(a i x e).1,fun v H3 hy=>?_⟩,b⟩
 obtain⟨rfl,r⟩:=(a i x e).2 v H3 hy
 exact⟨Ext.refl,r⟩
def GI(T:Tb)(W:Nat->St->Hp->Prop)(B F Ow:Addr->Prop)(Y:St)(H:Hp)(R:It->Hp->Prop):Res (List PV)->Prop
 | .ok xs=>∀J H1 F1,Gr F H F1 H1->ItR T F1 B Ow H1 J xs->R J H1
 | .exc c=>∀H',Ext H H'->W c Y H'
 | .stuck=>False
def tI(T:Tb)(W:Nat->St->Hp->Prop)(m:MI):TI:=fun Y H R=>∃Z F env fp,av T Z F H Y env fp/\GI T W Z.B F (Own fp) Y H R (m env)
abbrev SI(X:Cx)(T:Tb)(W:Nat->St->Hp->Prop)(tg iter:Expr)(m:MI):Prop:=PI X tg iter (tI T W m)
def wI(hl:PE X l tl):PI X tg l (fun Y H R=>tl Y H fun x H1=>∃a,x=.ref a/\((∃xs,SqL X.K H1 a xs/\R (Itl X.K a) H1)\/ ∃xs,SqT X.K H1 a xs/\R (Itt X.K a) H1)):=by
 intro js s Y H R I h
 refine thn (hl js s Y H _ I h) fun v s1 hz1=>?_
 obtain⟨x,H1,I1,r1,q1⟩:=hz1
 obtain⟨a,e,q⟩:=q1
 subst e
 cases r1
 rcases q with⟨xs,hq,q⟩ |⟨xs,hq,q⟩
 ·obtain⟨its,rv,p,hz⟩:=I1.list hq
  refine wpAny_pyIter_list p.isList ?_
  refine⟨s1.heap.objs.size,[s1.heap.objs.size],_,_,H1,rfl,I1.kept (t':=s1.toks) fun b o e=>Heap.get?_push_of_some _ e,um a _,⟨_,Heap.get?_push_size _ rfl,rfl,rfl⟩,fun b hb=>?_,q⟩
  have e:b=s1.heap.objs.size:=by simpa using hb
  subst e
  exact I1.fpOk (Nat.le_refl _) (I1.hok.fresh (Nat.le_refl _))
 ·obtain⟨its,rv,p,hz⟩:=I1.tuple hq
  refine wpAny_pyIter_tuple (show s1.heap.IsTuple a its.toArray from p) ?_
  refine⟨s1.heap.objs.size,[s1.heap.objs.size],_,_,H1,rfl,I1.kept (t':=s1.toks) fun b o e=>Heap.get?_push_of_some _ e,qZ a _,⟨_,Heap.get?_push_size _ rfl,rfl,rfl⟩,fun b hb=>?_,q⟩
  have e:b=s1.heap.objs.size:=by simpa using hb
  subst e
  exact I1.fpOk (Nat.le_refl _) (I1.hok.fresh (Nat.le_refl _))
def eC(xs:List PV):Bool:=!hasL Fl.isOwn xs&&!hasL Fl.isLnt xs
def fG(m:ME):MI:=fun env=>(m env).bind fun x=>match x with
 | .lst f xs=>if !f.isLnt&&eC xs then .ok xs else .stuck
 | .tup xs=>if eC xs then .ok xs else .stuck
 | _=>.stuck
def fJ{H2:Hp}{Ow:Addr->Prop}(hF:∀a,F1 a->¬Ow a)(hB:∀a,B a->¬Ow a)(hO:∀a o,Ow a->H1 a=some o->Chg o)(hk:∀a o,H1 a=some o->¬Ow a->H2 a=some o){xs:List PV}{vs:List V}(r:RelL T F1 B NoL H1 xs vs []){i:Nat}{x:PV}{v:V}(e:xs[i]?=some x)(ev:vs[i]?=some v):Rel T F1 B NoL H2 x v []:=by
 obtain⟨w,f,e1,r1,sl⟩:=r.get e
 rw[ev]at e1
 cases e1
 obtain rfl:=List.sublist_nil.mp sl
 refine Rel.tr (fun _ h=>h) (fun _ h=>h) (fun _ h=>h) (fun a o q h=>hk a o q ?_) (fun _ z=>(nomatch z)) r1
 rcases h with h | h | h | h
 ·exact hF a h
 ·exact hB a h
 ·exact h.elim
 ·intro z
  have:=hO a o z q
  cases o with
  | lst _ | ins _ _ _=>exact h
  | _=>exact this
def av.bow(S:av T Z F H Y env fp):∀a,Z.B a->¬Own fp a:=fun a h hz1=>by
 obtain⟨i,hi⟩:=hz1
 obtain⟨⟨o,h1⟩,h2⟩:=S.hp.bo a h
 rcases S.new i a hi with z | z
 ·rw[h1]at z;cases z
 ·exact h2 z
def av.fow(S:av T Z F H Y env fp):∀a,F a->¬Own fp a:=fun a h ⟨i,hi⟩=>(S.dis i a hi).1 h
def av.oow(S:av T Z F H Y env fp):∀a o,Own fp a->H a=some o->Chg o:=fun a o hz1 e=>by
 obtain⟨i,hi⟩:=hz1
 obtain⟨o',h1,h2⟩:=S.ch i a hi
 rw[e]at h1;cases h1;exact h2
def da(h:eC xs=true)(r:RelL T F B L H xs vs f):f=[]/\RelL T F B NoL H xs vs f:=by
 simp only[eC,Bool.and_eq_true,Bool.not_eq_true']at h
 exact⟨RelL.noOwn h.1 r,RelL.noL h.2 r⟩
def ii(hK:X.K=T.K)(he:SE X T W e m):SI X T W tg e (fG m):=fun js s Y H R I h=>wI he js s Y H R I (by
 obtain⟨Z,F,env,fp,S,q⟩:=h
 unfold fG at q
 refine tE.bind S (fun c e=>by rw[e]at q;exact q) (fun e=>by rw[e]at q;exact q) fun x v H1 F1 f1 e1 g1 r1 n1 d1 w1=>?_
 rw[e1]at q
 simp only[Res.ok_bind]at q
 have S1:=S.grow g1
 rw[hK]
 cases x with
 | lst f xs =>
  dsimp only at q
  by_cases hc:(!f.isLnt&&eC xs)=true
  ·rw[if_pos hc]at q
   rw[Bool.and_eq_true]at hc
   unfold Rel at r1
   obtain⟨a,vs,fp',rfl,hl,hr,hf⟩:=r1
   obtain⟨rfl,hr'⟩:=da hc.2 hr
   refine⟨a,rfl,.inl ⟨vs,hl.sq,q _ H1 F1 g1 (ItR.of0 fun H2 hk=>?_)⟩⟩
   have na:f≠.mod->∀o,H1 a=some o->H2 a=some o:=fun hn o ho=>by
    refine hk a o ho ?_
    cases f with
    | own =>
     rintro⟨i,hi⟩
     obtain⟨_,o',ho'⟩:=S.dis i a hi
     obtain rfl:f1=[a]:=hf
     rw[w1 a List.mem_cons_self]at ho';cases ho'
    | frz=>exact S1.fow a hl.1
    | bor=>exact S1.bow a hl.1
    | lnt=>exact absurd hc.1 (by decide)
    | mod=>exact absurd rfl hn
   have hl2:SqL T.K H2 a vs:=by
    by_cases hn:f=.mod
    ·subst hn;exact .inr hl
    ·exact .inl (Rd.tr (na hn) (hl.rd hn))
   refine⟨fun i x ex=>?_,⟨vs,hl2,by rw[hr.length];exact Nat.le_refl _⟩⟩
   obtain⟨v,_,ev,_,_⟩:=hr.get ex
   refine⟨⟨vs,v,hl2,ev⟩,fun w H3 hy=>⟨hy.1,?_⟩⟩
   have e3:=hy.2 vs hl2
   exact fJ S1.fow S1.bow S1.oow hk hr' ex e3
  ·rw[if_neg hc]at q;exact q.elim
 | tup xs =>
  dsimp only at q
  by_cases hc:eC xs=true
  ·rw[if_pos hc]at q
   unfold Rel at r1
   obtain⟨a,vs,rfl,hl,hr⟩:=r1
   obtain⟨rfl,hr'⟩:=da hc hr
   refine⟨a,rfl,.inr ⟨vs,hl,q _ H1 F1 g1 (ItR.of0 fun H2 hk=>?_)⟩⟩
   have hl2:SqT T.K H2 a vs:=SqT.tr (fun o ho hfx=>hk a o ho fun z=>by
    have:=S1.oow a o z ho
    cases o with
    | lst _ | ins _ _ _=>exact hfx
    | _=>exact this) hl
   refine⟨fun i x ex=>?_,⟨vs,hl2,by rw[hr.length];exact Nat.le_refl _⟩⟩
   obtain⟨v,_,ev,_,_⟩:=hr.get ex
   refine⟨⟨vs,v,hl2,ev⟩,fun w H3 hy=>⟨hy.1,?_⟩⟩
   exact fJ S1.fow S1.bow S1.oow hk hr' ex (hy.2 vs hl2)
  ·rw[if_neg hc]at q;exact q.elim
 | _=>exact q.elim)
def cX(lo:Int)(n:Nat):List PV:=(List.range n).map fun k=>.int (lo+(k:Nat))
def inR(i:Int):Bool:=decide (-(2 ^ 62)<= i/\i < 2 ^ 62)
def b8(ms:MA):MI:=fun env=>(ms env).bind fun xs=>match xs with
 | [.int n]=>if inR n then .ok (cX 0 n.toNat)else .stuck
 | _=>.stuck
def nU(ms:MA):MI:=fun env=>(ms env).bind fun xs=>match xs with
 | [.int i,.int j]=>if inR i&&inR j then .ok (cX i (j - i).toNat)else .stuck
 | _=>.stuck
def t5:ItR T F1 B Ow H1 (Itr lo n) (cX lo n):=by
 apply ItR.of0
 intro H2 _
 refine⟨fun i x ex=>?_,by simp[cX,Itr]⟩
 have hi:i < n:=by
  have:=(List.getElem?_eq_some_iff.mp ex).1
  simpa[cX]using this
 refine⟨hi,fun v H3 hy=>⟨hy.1,?_⟩⟩
 obtain⟨_,rfl⟩:=hy
 have:x=.int (lo+(i:Nat)):=by
  simp[cX,hi]at ex
  exact ex.symm
 subst this
 exact fe
def dL(hg:Gl X "range")(hm:X.mg "range" = none)(ha:SA X T W [a] ms)(hs:starEach [a] X.env=[(false,eval a X.env)]:=by rfl):SI X T W tg (.Call (.Name "range" p) [a] [] pos) (b8 ms):=fun js s Y H R I h=>nR hg hm ha hs js s Y H R I (by
 obtain⟨Z,F,env,fp,S,q⟩:=h
 unfold b8 at q
 refine tA.bind S (fun c e=>by rw[e]at q;exact q) (fun e=>by rw[e]at q;exact q) fun xs vs H1 F1 f1 e1 g1 r1 n1 d1 w1=>?_
 rw[e1]at q
 simp only[Res.ok_bind]at q
 split at q
 ·rename_i n
  split at q
  ·rename_i hc
   obtain⟨v,rfl,r2⟩:=r1.one
   unfold Rel at r2
   obtain⟨rfl,_⟩:=r2
   have hc':-(2 ^ 62)<= n/\n < 2 ^ 62:=by simpa[inR]using hc
   exact⟨n,rfl,hc'.1,hc'.2,q _ H1 F1 g1 t5⟩
  ·exact q.elim
 ·exact q.elim)
def uu(hg:Gl X "range")(hm:X.mg "range" = none)(ha:SA X T W [a,b] ms)(hs:starEach [a,b] X.env=[(false,eval a X.env),(false,eval b X.env)]:=by rfl)(hs2:starEach [b] X.env=[(false,eval b X.env)]:=by rfl) :
  SI X T W tg (.Call (.Name "range" p) [a,b] [] pos) (nU ms):=fun js s Y H R I h=>uL hg hm ha hs hs2 js s Y H R I (by
 obtain⟨Z,F,env,fp,S,q⟩:=h
 unfold nU at q
 refine tA.bind S (fun c e=>by rw[e]at q;exact q) (fun e=>by rw[e]at q;exact q) fun xs vs H1 F1 f1 e1 g1 r1 n1 d1 w1=>?_
 rw[e1]at q
 simp only[Res.ok_bind]at q
 split at q
 ·rename_i i j
  split at q
  ·rename_i hc
   unfold RelL at r1
   obtain⟨v,ws,f1,f2,rfl,h1,h2,_⟩:=r1
   obtain⟨v2,rfl,h3⟩:=h2.one
   unfold Rel at h1 h3
   obtain⟨rfl,_⟩:=h1
   obtain⟨rfl,_⟩:=h3
   have hc':(-(2 ^ 62)<= i/\i < 2 ^ 62)/\(-(2 ^ 62)<= j/\j < 2 ^ 62):=by simpa[inR]using hc
   exact⟨i,j,rfl,⟨hc'.1.1,hc'.1.2,hc'.2.1,hc'.2.2⟩,q _ H1 F1 g1 t5⟩
  ·exact q.elim
 ·exact q.elim)
def dB(it:MI)(tg:TgM)(body:MS):MS:=fun env=>match it env with
 | .ok xs=>m_ (fun x e=>match tg x e with
  | some e'=>body e'
  | none=>.stuck) xs env
 | .exc c=>.exc c env
 | .stuck=>.stuck
def cV(hp:PassesOwn (model X.prog X.w) X.A X.env X.xe)(hc:X.calm=true)(hi:SI X T W tg iter mi)(hg:SG X T tg g)(hb:SSs X T W body mb)
  (hs:∀x,foldedSetIterable iter X.env x=pure x:=by intro _;rfl):SS X T W (.For tg iter body [] pos) (dB mi g mb):=PS.wk (wB (pos:=pos) hp hc hi hg hb hs) fun D Y H hz1=>by
 obtain⟨Z,F,env,fp,S,q⟩:=hz1
 unfold dB at q
 refine⟨Z,F,env,fp,S,?_⟩
 cases em:mi env with
 | exc c=>rw[em]at q;exact fun H' x=>q F H' Y fp (S.grow (Gr.same S.hp.ft x))
 | stuck=>rw[em]at q;exact q
 | ok xs =>
  rw[em]at q
  dsimp only at q
  intro J H1 F1 g1 it
  have S1:=S.grow g1
  generalize hbd:(fun (x:PV) (e:En)=>match g x e with
   | some e'=>mb e'
   | none=>Out.stuck)=bd at q
  refine⟨fun i m σ2 H2=>m=xs.length - i/\i<=xs.length/\∃F2 env2 fp2,av T (Z.re F1 H1 fp) F2 H2 σ2 env2 fp2/\GS T W Z D (m_ bd (xs.drop i) env2),⟨xs.length,by simp,Nat.zero_le _,F1,env,fp,S1.enter,q⟩,?_⟩
  rintro i m σ2 H2 ⟨rfl,hi,F2,env2,fp2,S2,q2⟩
  obtain⟨go,stop⟩:=it H2 S2.hp.keep
  by_cases hlt:i < xs.length
  ·have hx:xs[i]?=some xs[i]:=by simp[hlt]
   obtain⟨g1',yl⟩:=go i _ hx
   refine .inr ⟨g1',fun σ3 H3=>∃F3 env3 fp3,av T (Z.re F1 H1 fp) F3 H3 σ3 env3 fp3/\GS T W Z D (m_ bd (xs.drop (i+1)) env3),fun σ3 H3 h3=>⟨xs.length - (i+1),by omega,rfl,hlt,h3⟩,fun v H3 hy=>?_⟩
   obtain⟨ex3,r⟩:=yl v H3 hy
   rw[List.drop_eq_getElem_cons hlt]at q2
   unfold m_ at q2
   rw[<- hbd]at q2
   dsimp only at q2
   refine⟨Z.re F1 H1 fp,F2,env2,fp2,xs[i],[],S2.grow (Gr.same S2.hp.ft ex3),r.ext Ext.refl S2.hp.f0,vK.nil,?_⟩
   cases eg:g xs[i] env2 with
   | none=>rw[eg]at q2;exact q2
   | some e' =>
    rw[eg]at q2
    dsimp only at q2
    intro σ' fp' S'
    refine⟨Z.re F1 H1 fp,F2,e',fp',S',?_⟩
    cases eb:mb e' with
    | next e2 | cont e2=>rw[eb]at q2;exact fun F3 H3 σ3 fp3 S3=>⟨F3,e2,fp3,S3,by rw[<- hbd];exact q2⟩
    | brk e2=>rw[eb]at q2;exact fun F3 H3 σ3 fp3 S3=>q2 F3 H3 σ3 fp3 (S1.leave S3)
    | ret v=>rw[eb]at q2;exact fun F3 H3 v f hp r nd nf new=>q2 F3 H3 v f (ck.leave S1 hp) r nd nf fun a ha=>S1.newL (new a ha)
    | exc c e2=>rw[eb]at q2;exact fun F3 H3 σ3 fp3 S3=>q2 F3 H3 σ3 fp3 (S1.leave S3)
    | stuck=>rw[eb]at q2;exact q2
  ·have e:i=xs.length:=by omega
   subst e
   rw[List.drop_length]at q2
   exact .inl ⟨stop,q2 F2 H2 σ2 fp2 (S1.leave S2)⟩
end
end PR
namespace L2
open PySem PySem.Spec
def eG(cells:List (Str×Addr)):List (Str×NameKind)->List (Str×Addr)->List (Str×Addr)
 | [],acc=>acc
 | (n,k)::r,acc=>if (k == .free)=true then (match cells.lookup n with
  | some c=>eG cells r ((n,c)::acc)
  | none=>eG cells r acc)else eG cells r acc
def jy:∀(names:List (Str×NameKind)) (acc:List (Str×Addr)),(∀y∈names,y.2=.free->∃c,env.cells.lookup y.1=some c)->
  (forIn names acc fun (x:Str × NameKind) (cs:List (Str × Addr))=>match x with
   |(name,kind)=>if(kind==.free)=true then do let c <- cellOf env name;pure (ForInStep.yield ((name,c)::cs))else pure (ForInStep.yield cs):Sem (List (Str×Addr)))=pure (eG env.cells names acc)
 | [],acc,_=>by simp[eG]
 |(n,k)::r,acc,h=>by
  rw[List.forIn_cons]
  by_cases hk:(k==NameKind.free)=true
  ·obtain⟨c,hc⟩:=h (n,k) List.mem_cons_self (by simpa using hk)
   dsimp only at hc
   simp only[hk,if_true,cellOf,hc,pure_bind]
   rw[eG,if_pos hk,hc]
   exact jy r _ fun y hy=>h y (List.mem_cons_of_mem _ hy)
  ·simp only[hk,Bool.false_eq_true,if_false,pure_bind]
   rw[eG,if_neg hk]
   exact jy r _ fun y hy=>h y (List.mem_cons_of_mem _ hy)
def ng(h:∀y∈scope.names,y.2=.free->∃c,env.cells.lookup y.1=some c):closureFor scope env=pure (eG env.cells scope.names []):=by
 unfold closureFor
 simp only[]
 rw[<- jy scope.names [] h]
 simp
def gy{cells:List (Str×Addr)}:∀{names:List (Str×NameKind)}{acc:List (Str×Addr)},(∀p∈acc,cells.lookup p.1=some p.2)->∀p∈eG cells names acc,cells.lookup p.1=some p.2
 | [],_,h=>h
 |(n,k)::r,acc,h=>by
  unfold eG
  split
  ·split
   ·rename_i c hc
    exact gy (by grind)
   ·exact gy h
  ·exact gy h
def kc:∀{names:List (Str×NameKind)}{acc:List (Str×Addr)}{p:Str×Addr},p∈acc->p∈eG cells names acc
 | [],_,_,h=>h
 |(n,k)::r,acc,p,h=>by
  unfold eG
  split
  ·split
   ·exact kc (List.mem_cons_of_mem _ h)
   ·exact kc h
  ·exact kc h
def iS{cells:List (Str×Addr)}{x:Str}{c:Addr}(hc:cells.lookup x=some c):∀{names:List (Str×NameKind)}{acc:List (Str×Addr)},(x,NameKind.free)∈ names->(x,c)∈ eG cells names acc
 | [],_,h=>nomatch h
 |(n,k)::r,acc,h=>by
  unfold eG
  rcases List.mem_cons.mp h with e | h
  ·cases e
   rw[if_pos (by rfl),hc]
   exact kc List.mem_cons_self
  ·split
   ·split
    ·exact iS hc h
    ·exact iS hc h
   ·exact iS hc h
def jf{cells l:List (Str×Addr)}(h:∀p∈l,cells.lookup p.1=some p.2){x:Str}{c:Addr}(m:(x,c)∈ l):l.lookup x=some c:=by
 induction l with
 | nil=>cases m
 | cons p r ih =>
  grind
def gx{cells:List (Str×Addr)}{names:List (Str×NameKind)}{x:Str}{c:Addr}(h:(eG cells names []).lookup x=some c):cells.lookup x=some c :=
 gy (names:=names) (acc:=[]) (fun _ z=>nomatch z) (x,c) (PySem.mem_of_lookup h)
def mU:∀(names:List (Str×NameKind)) (a:Nat) (l acc:List (Str×Addr)),cellsFrom a names (l++acc)=cellsFrom a names l++acc
 | [],_,_,_=>rfl
 |(n,k)::r,a,l,acc=>by
  unfold cellsFrom
  split
  ·exact mU r (a+1) ((n,a)::l) acc
  ·exact mU r a l acc
def mS:∀{names:List (Str×NameKind)}{a:Nat}{l:List (Str×Addr)}{p:Str×Addr},p∈cellsFrom a names l->p∈l \/(a<=p.2/\(p.1,NameKind.cell)∈ names)
 | [],_,_,_,h=>.inl h
 |(n,k)::r,a,l,p,h=>by
  unfold cellsFrom at h
  split at h
  ·rename_i hk
   have hk:k=.cell:=by simpa using hk
   subst hk
   rcases mS h with h | h
   ·grind
   ·exact .inr ⟨by omega,List.mem_cons_of_mem _ h.2⟩
  ·rcases mS h with h | h
   ·exact .inl h
   ·exact .inr ⟨h.1,List.mem_cons_of_mem _ h.2⟩
def o_:∀{names:List (Str×NameKind)}{a:Nat}{l:List (Str×Addr)}{x:Str},((x,NameKind.cell)∈ names \/(l.lookup x).isSome=true)->((cellsFrom a names l).lookup x).isSome=true
 | [],_,_,_,h=>h.resolve_left (fun z=>nomatch z)
 |(n,k)::r,a,l,x,h=>by
  unfold cellsFrom
  split
  ·rename_i hk
   have hk:k=.cell:=by simpa using hk
   subst hk
   refine o_ ?_
   grind
  ·rename_i hk
   refine o_ ?_
   grind
def mV:∀{names:List (Str×NameKind)}{a:Nat}{l:List (Str×Addr)},(∀p∈l,p.2 < a)->(l.Pairwise fun x y=>x.2≠y.2)->(cellsFrom a names l).Pairwise fun x y=>x.2≠y.2
 | [],_,_,_,h=>h
 |(n,k)::r,a,l,hl,h=>by
  unfold cellsFrom
  split
  ·refine mV (fun p hp=>?_) (List.pairwise_cons.mpr ⟨fun y hy e=>?_,h⟩)
   ·grind
   ·have e':a=y.2:=e
    exact Nat.lt_irrefl _ (Nat.lt_of_lt_of_eq (hl y hy) e')
  ·exact mV hl h
def l7{α:Type}{x:Str}:∀{l m:List (Str×α)},(l++m).lookup x=(l.lookup x).or (m.lookup x)
 | [],m=>by simp
 |(n,c)::l,m=>by
  grind
abbrev qM(X:Cx)(scope:Scope)(C:Addr):List (Str×Addr):=cellsFrom (C+1) scope.names (eG X.env.cells scope.names [])
def kd{X:Cx}{scope:Scope}{C:Addr}{x:Str}{c:Addr}(h:(qM X scope C).lookup x=some c):(C+1<=c/\(x,NameKind.cell)∈ scope.names/\(x,c)∈ cellsFrom (C+1) scope.names [])\/(eG X.env.cells scope.names []).lookup x=some c:=by
 unfold qM at h
 rw[show eG X.env.cells scope.names []=[]++ eG X.env.cells scope.names []from rfl,mU,l7]at h
 cases e:(cellsFrom (C+1) scope.names []).lookup x with
 | some d =>
  rw[e]at h
  cases h
  have m:=PySem.mem_of_lookup e
  rcases mS m with z | z
  ·cases z
  ·exact .inl ⟨z.1,z.2,m⟩
 | none =>
  rw[e]at h
  exact .inr (by simpa using h)
def Ee(hx:(x,NameKind.cell)∉ scope.names)(h:(eG X.env.cells scope.names []).lookup x=some c):(qM X scope C).lookup x=some c:=by
 unfold qM
 rw[show eG X.env.cells scope.names []=[]++ eG X.env.cells scope.names []from rfl,mU,l7]
 cases e:(cellsFrom (C+1) scope.names []).lookup x with
 | some d =>
  rcases mS (PySem.mem_of_lookup e)with z | z
  ·cases z
  ·exact absurd z.2 hx
 | none=>simpa using h
def qe{M:Model}{A:Around}{E:Value->Shared->Prop}{s:Shared}{scope:Scope}{globals:Addr}{closure:List (Str×Addr)}{qual:Str}{func:Option Addr}{code:Value}{outer:Env}{builtins:Addr}{Q:Env->Shared->Prop}
  (hQ:∀ h',h'.Ns s.heap.objs.size (fun _=>none)->(∀ b o,s.heap.get? b=some o->h'.get? b=some o)->(∀ n c,(n,c) ∈ cellsFrom (s.heap.objs.size+1) scope.names []->h'.IsCell c none) ->
   Q (newEnv scope s.heap.objs.size globals (cellsFrom (s.heap.objs.size+1) scope.names closure) qual func code (some outer) builtins) { s with heap:=h' }) :
  wpAny M A (newFunctionEnv scope globals closure [] qual func code (some outer) builtins) Q E s:=by
 simp only[newFunctionEnv,Option.isSome_some,if_true]
 refine wpAny_bind (wpAny_alloc ?_)
 refine wpAny_bind (wpAny_layCells _ (fun name kind cells=>by cases hkc:kind==NameKind.cell<;>simp[hkc]) _ _ _ _ ?_)
 have ok:=cellsFrom_ok scope.names (s.heap.push { cls:=.type "dict", data:=.dict #[] }) (s.heap.objs.size+1) [] ⟨fun _ _ hm=>(nomatch hm),List.Pairwise.nil⟩ (by rw[Heap.size_push];exact Nat.le_refl _)
 rw[Heap.size_push]at ok
 rw[show({ s with heap:=s.heap.push { cls:=.type "dict", data:=.dict #[] } }:Shared).heap.objs.size=s.heap.objs.size+1 from Heap.size_push ..]
 refine wpAny_bind ?_
 rw[List.forIn_nil]
 exact wpAny_pure (wpAny_pure (hQ _ ((Heap.Ns.new s.heap (.type "dict")).keeps (pushCells_keeps _ _)) (fun b o e=>pushCells_keeps _ _ b o (Heap.get?_push_of_some _ e)) fun n c hm=>(ok.empty n c hm).1))
def cxC(X:Cx)(scope:Scope)(C:Addr)(N:List Str)(s:Shared)(H:Hp)(ex:List Addr):Cx :=
 { X with env:=compEnvC scope (qM X scope C) C X.env,N:=N,s₀:=s,H₀:=H,outer:=X.stack,stack:=X.stack,ex:=ex,fn:=fun x=>scope.names.lookup x==some .cell,pn:=[],xe:=fun _ _=>False }
structure eJ(X:Cx)(scope:Scope)(caps:List Nat)(N tn:List Str):Prop where
 kind:scope.kind=.function
 cel:∀y∈scope.names,y.2=.cell->scope.names.lookup y.1=some .cell
 names:∀y∈scope.names,y.2=.local->scope.names.lookup y.1=some .local
 free:∀y∈scope.names,y.2=.free->X.env.kindOf y.1=some .cell\/X.env.kindOf y.1=some .free
 eN:N=caps.map (fun i=>X.N.getD i "")++ tn
 capN:∀i∈caps,i < X.N.length
 capF:∀i∈caps,∀x,X.N[i]?=some x->(x,NameKind.free)∈ scope.names/\scope.names.lookup x=some .free
 nd:N.Nodup
def jL{scope:Scope}{env:Env}{x:Str}{k:NameKind}(h:(relabel scope env).names.lookup x=some k)(hc:k=.cell\/k=.free):(x,NameKind.free)∈ scope.names \/(x,NameKind.cell)∈ scope.names:=by
 have m:=PySem.mem_of_lookup h
 obtain⟨⟨n,k0⟩,hm,e⟩:=List.mem_map.mp m
 grind
def jM{scope:Scope}{env:Env}{x:Str}:∀{names:List (Str×NameKind)},names.lookup x=some .free ->
  (names.map fun(n,k)=>if(k==NameKind.free&&env.scope.kind==.function&&env.kindOf n==some .cell)then(n,NameKind.cell)else(n,k)).lookup x=some .cell \/
  (names.map fun(n,k)=>if(k==NameKind.free&&env.scope.kind==.function&&env.kindOf n==some .cell)then(n,NameKind.cell)else(n,k)).lookup x=some .free
 | [],h=>by simp at h
 |(n,k)::r,h=>by
  show List.lookup x ((if(k==NameKind.free&&env.scope.kind==.function&&env.kindOf n==some .cell)=true then(n,NameKind.cell)else(n,k))::_)=_\/List.lookup x ((if(k==NameKind.free&&env.scope.kind==.function&&env.kindOf n==some .cell)=true then(n,NameKind.cell)else(n,k))::_)=_
  have ih:=@jM scope env x r
  grind
section
variable{X:Cx}{scope:Scope}{caps:List Nat}{N tn:List Str}{js:List (Addr×Obj)}{Y:St}{H:Hp}{s:Shared}{fp:List Addr}{C:Addr}
def sF(cs:eJ X scope caps N tn)(I:Inv X js Y H s)(hf:∀b∈fp,mZ X js H b)(hlt:∀b∈fp,b < s.heap.objs.size)(hC:s.heap.objs.size<=C):(cxC X scope C N s H fp).Ok where
 mod:=I.ok.mod
 kind:=by show(relabel scope X.env).kind=_;exact cs.kind
 glob:=I.ok.glob
 blt:=I.ok.blt
 above:=hC
 inj:=fun x y c h1 h2=>by
  have old:∀z,(eG X.env.cells scope.names []).lookup z=some c->c < s.heap.objs.size:=fun z hz=>let⟨_,hv⟩:=I.cell z c (gx hz);hv.lt
  rcases kd h1 with⟨l1,_,m1⟩ | h1<;>rcases kd h2 with⟨l2,_,m2⟩ | h2
  ·exact name_of_addr (mV (l:=[]) (fun _ z=>nomatch z) List.Pairwise.nil) m1 m2
  ·grind
  ·grind
  ·exact I.ok.inj x y c (gx h1) (gx h2)
 has:=fun x hx=>by
  have hx:(relabel scope X.env).names.lookup x=some .cell \/(relabel scope X.env).names.lookup x=some .free:=hx
  have m:(x,NameKind.free)∈ scope.names \/(x,NameKind.cell)∈ scope.names:=by
   rcases hx with h | h
   ·exact jL h (.inl rfl)
   ·exact jL h (.inr rfl)
  refine Option.isSome_iff_exists.mp (o_ (l:=eG X.env.cells scope.names []) ?_)
  rcases m with m | m
  ·obtain⟨c,hc⟩:=I.ok.has x (cs.free _ m rfl)
   exact .inr (by rw[jf (gy (acc:=[]) fun _ z=>nomatch z) (iS hc m)];rfl)
  ·exact .inl m
 cab:=fun x c h hc=>by
  have h':(scope.names.lookup x==some NameKind.cell)=true:=h
  have hx:scope.names.lookup x=some .cell:=by simpa using h'
  have hs:s.heap.objs.size<=C:=hC
  have hc:(qM X scope C).lookup x=some c:=hc
  obtain⟨d,hd⟩:=Option.isSome_iff_exists.mp (o_ (a:=C+1) (l:=[]) (.inl (PySem.mem_of_lookup hx)))
  unfold qM at hc
  rw[show eG X.env.cells scope.names []=[]++ eG X.env.cells scope.names []from rfl,mU,l7,hd]at hc
  cases hc
  rcases mS (PySem.mem_of_lookup hd)with z | z
  ·cases z
  ·exact Nat.le_trans hs (Nat.le_trans (Nat.le_succ _) z.1)
 hd:=I.ok.hd
 frames:=I.ok.frames
 stk:=.inl rfl
 exf:=fun b hb=>⟨Nat.ne_of_lt (Nat.lt_of_lt_of_le (hlt b hb) hC),fun x c h=>by
  rcases kd h with⟨l1,_,_⟩ | h
  ·exact fun z=>absurd (Nat.lt_of_lt_of_le (hlt b hb) (Nat.le_trans hC (Nat.le_trans (Nat.le_succ _) l1))) (by rw[z];exact Nat.lt_irrefl _)
  ·exact(hf b hb).2.2.2.2.1 x c (gx h)⟩
 bs:=I.bs
 bsz:=Nat.le_trans I.ok.bsz I.sz
 noex:=fun b o e hb=>by
  rcases(hf b hb).2.2.2.1 with z | z
  ·exact I.ok.noex b o e z
  ·exact absurd (Nat.lt_of_lt_of_le (Heap.lt_size e) (Nat.le_trans I.ok.bsz z)) (Nat.lt_irrefl _)
 exfs:=fun b hb hs=>by
  rcases List.mem_cons.mp (I.stkSub b hs)with z | z
  ·exact(hf b hb).2.1 z
  ·exact(hf b hb).2.2.1 z
 funs:=I.stack
 frf:=I.stkFree
def pd(caps:List Nat)(k:Nat)(Y:St):St:=caps.map (fun i=>(Y[i]?).join)++ List.replicate k none
def xR(cs:eJ X scope caps N tn)(I:Inv X js Y H s)(hf:∀b∈fp,mZ X js H b)(hlt:∀b∈fp,b < s.heap.objs.size)
  (hns:h₁.Ns (s.heap.objs.size+1) fun _=>none) (hD:h₁.get? s.heap.objs.size=some { cls:=.type "list", data:=.seq ([]:List Value).toArray }) (old:∀b o,s.heap.get? b=some o->h₁.get? b=some o)
  (hcl:∀n c,(n,c)∈ cellsFrom (s.heap.objs.size+1+1) scope.names []->h₁.IsCell c none) :
  Inv (cxC X scope (s.heap.objs.size+1) N s H fp) [] (pd caps tn.length Y) (upd H s.heap.objs.size (.lst [])) { s with heap:=h₁,toks:=t }:=by
 have fresh:∀b,s.heap.objs.size<=b->H b=none:=fun b hb=>I.hok.fresh hb
 have neD:s.heap.objs.size+1≠s.heap.objs.size:=Nat.succ_ne_self _
 have ltc:∀x c,(eG X.env.cells scope.names []).lookup x=some c->∃v,s.heap.IsCell c v:=fun x c h=>I.cell x c (gx h)
 refine⟨sF cs I hf hlt (Nat.le_succ _),rfl,I.bare,Un.laid old (Nat.le_refl _) (fresh _ (Nat.le_refl _)),⟨_,hns,fun i y v h1 h2 h3=>?_⟩,fun x c h=>?_,?_,fun x c h=>?_,fun p hp=>absurd (show p ∈([]:List (Addr×Obj))from hp) (by simp),?_,?_⟩
 ·have hi:i < caps.length:=by
   unfold pd at h2
   by_cases hi:i < caps.length
   ·exact hi
   ·rw[List.getElem?_append_right (by simpa using hi),List.getElem?_replicate]at h2
    split at h2<;>cases h2
  unfold pd at h2
  rw[List.getElem?_append_left (by simpa using hi),List.getElem?_map]at h2
  obtain⟨j,hj,e2⟩:=Option.map_eq_some_iff.mp h2
  have hjc:j∈caps:=List.mem_of_getElem? hj
  have hjN:=cs.capN j hjc
  have hy:X.N[j]?=some y:=by
   have h1':N[i]?=some y:=h1
   rw[cs.eN,List.getElem?_append_left (by simpa using hi),List.getElem?_map,hj]at h1'
   have:X.N.getD j "" = y:=by simpa using h1'
   rw[<- this]
   simp[hjN]
  have hσ:Y[j]?=some (some v):=by
   cases e:Y[j]? with
   | none=>rw[e]at e2;cases e2
   | some w=>rw[e]at e2;simp only[Option.join_some]at e2;rw[e2]
  obtain⟨m0,hn0,hl⟩:=I.loc
  obtain⟨hm,hlk⟩:=cs.capF j hjc y hy
  have hk:=cs.free _ hm rfl
  dsimp only at hk
  have hvis:Vis X.env.scope y:=by
   rcases hk with z | z
   ·exact .inr (.inl z)
   ·exact .inr (.inr z)
  obtain⟨u,ru,lk⟩:=hl j y v hy hσ hvis
  refine⟨u,ru,.inr ?_⟩
  rcases lk with⟨z,_⟩ |⟨_,c,hc,hcell⟩
  ·rcases hk with w | w
   ·rw[z]at w;cases w
   ·rw[z]at w;cases w
  ·refine⟨jM (scope:=scope) hlk,c,Ee (fun z=>?_) (jf (gy (acc:=[]) fun _ z=>nomatch z) (iS hc hm)),hcell.keeps old⟩
   have:=cs.cel _ z rfl
   rw[hlk]at this
   cases this
 ·rcases kd h with⟨_,_,m⟩ | h
  ·exact⟨none,hcl x c m⟩
  ·obtain⟨v,hv⟩:=ltc x c h
   exact⟨v,hv.keeps old⟩
 ·show upd H _ _ (s.heap.objs.size+1)=none
  rw[aK neD]
  exact fresh _ (Nat.le_succ _)
 ·rcases kd h with⟨l1,_,_⟩ | h
  ·rw[aK (Nat.ne_of_gt (Nat.lt_of_lt_of_le (Nat.lt_succ_of_lt (Nat.lt_succ_self _)) l1))]
   exact fresh _ (Nat.le_trans (Nat.le_succ_of_le (Nat.le_succ _)) l1)
  ·obtain⟨v,hv⟩:=ltc x c h
   rw[aK (Nat.ne_of_lt hv.lt)]
   exact I.freeC x c (gx h)
 ·exact I.hok.laid old (Nat.le_refl _) ⟨Nat.zero_le _,[],_,.nil,hD⟩
 ·show(pd caps tn.length Y).length=N.length
  rw[cs.eN]
  simp[pd]
end
end L2
namespace PR
open PySem PySem.Spec L2
def Fl.borrow:Fl->Fl
 | .own | .lnt=>.bor
 | f=>f
def PV.borrow(x:PV):PV:=x.mapF Fl.borrow
def uY(hB:∀a,B a->B' a)(hL:∀a,L a->B' a):Mp T Fl.borrow (fun _=>false) (fun _=>[]) B' F B L H F B' L' H :=
 ⟨fun f a vs _ c h=>by
  cases f with
  | own=>exact⟨c rfl,.inl h⟩
  | bor=>exact⟨hB a h.1,h.2⟩
  | lnt=>exact⟨hL a h.1,.inl h.2⟩
  | _=>exact h,fun f a _ c h=>⟨by
  cases f with
  | own=>exact c rfl
  | bor=>exact hB a h
  | lnt=>exact hL a h
  | _=>exact h,fun _ q=>q⟩,fun f a x y h=>by cases f<;>exact⟨rfl,rfl⟩,rfl,fun _ _=>rfl,fun _ _ q _=>q⟩
def Rel.borrow(hB:∀a,B a->B' a)(hL:∀a,L a->B' a)(hp:∀a∈fo,B' a)(h:Rel T F B L H x v fo):Rel T F B' L' H (x.mapF Fl.borrow) v []:=(uY hB hL).rel (mD x) hp h
mutual
def jA:∀x:PV,(x.mapF Fl.borrow).has Fl.isOwn=false
 | .non | .bl _ | .int _ | .str _=>rfl
 | .lst f xs=>by simp only[PV.mapF,PV.has,borrow_ownL xs,Bool.or_false];cases f<;>rfl
 | .tup xs=>by simp only[PV.mapF,PV.has,borrow_ownL xs]
 | .obj f c ks xs=>by simp only[PV.mapF,PV.has,borrow_ownL xs,Bool.or_false];cases f<;>rfl
 | .exc _=>rfl
 | .box k xs=>by simp only[PV.mapF,PV.has,borrow_ownL xs]
def borrow_ownL:∀xs:List PV,hasL Fl.isOwn (mapL Fl.borrow xs)=false
 | []=>rfl
 | x::xs=>by simp only[mapL,hasL,jA x,borrow_ownL xs,Bool.or_false]
end
def ItC(T:Tb)(F B L:Addr->Prop)(H1:Hp)(J:It)(xs:List PV):Prop :=
 ∀H2,Ext H1 H2->(∀(i:Nat) x,xs[i]?=some x->J.go i H2/\∀v H3,J.yld i H2 v H3->Ext H2 H3/\∃f,(∀a∈f,∃o,H1 a=some o)/\Rel T F B L H3 x v f)/\J.stop xs.length H2
def ItC.of0(h:∀H2,Ext H1 H2->(∀(i:Nat) x,xs[i]?=some x->J.go i H2/\∀v H3,J.yld i H2 v H3->H3=H2/\∃f,Rel T F B L H1 x v f)/\J.stop xs.length H2):ItC T F B L H1 J xs:=fun H2 hk=>by
 obtain⟨a,b⟩:=h H2 hk
 refine⟨fun i x e=>⟨(a i x e).1,fun v H3 hy=>?_⟩,b⟩
 obtain⟨rfl,f,r⟩:=(a i x e).2 v H3 hy
 exact⟨Ext.refl,f,fun a ha=>r.there a ha,r.ext hk fun _ h=>h⟩
def GIc(T:Tb)(W:Nat->St->Hp->Prop)(B F L:Addr->Prop)(Y:St)(H:Hp)(R:It->Hp->Prop):Res (List PV)->Prop
 | .ok xs=>∀J H1 F1,Gr F H F1 H1->ItC T F1 B L H1 J xs->R J H1
 | .exc c=>∀H',Ext H H'->W c Y H'
 | .stuck=>False
def tIc(T:Tb)(W:Nat->St->Hp->Prop)(m:MI):TI:=fun Y H R=>∃Z F env fp,av T Z F H Y env fp/\GIc T W Z.B F (Own fp) Y H R (m env)
abbrev SIc(X:Cx)(T:Tb)(W:Nat->St->Hp->Prop)(tg iter:Expr)(m:MI):Prop:=PI X tg iter (tIc T W m)
def cF(m:ME):MI:=fun env=>(m env).bind fun x=>match aL x with
 | some xs=>.ok xs
 | none=>.stuck
section
variable{X:Cx}{T:Tb}{W:Nat->St->Hp->Prop}{Z:Zn}{F F1 B L:Addr->Prop}{H H1:Hp}{Y:St}{env:En}{fp:Nat->List Addr}{D:Ends}
def bK(hK:X.K=T.K)(he:SE X T W e m):SIc X T W tg e (cF m):=fun js s Y H R I h=>wI he js s Y H R I (by
 obtain⟨Z,F,env,fp,S,q⟩:=h
 unfold cF at q
 refine tE.bind S (fun c e=>by rw[e]at q;exact q) (fun e=>by rw[e]at q;exact q) fun x v H1 F1 f1 e1 g1 r1 n1 d1 w1=>?_
 rw[e1]at q
 simp only[Res.ok_bind]at q
 cases es:aL x with
 | none=>rw[es]at q;exact q.elim
 | some xs =>
  rw[es]at q
  obtain⟨a,vs,f',rfl,hs,hr,_⟩:=r1.seq es
  refine⟨a,rfl,?_⟩
  rw[hK]
  rcases hs with hs | hs
  ·refine .inl ⟨vs,hs,q _ H1 F1 g1 (ItC.of0 fun H2 hx=>?_)⟩
   have h2:SqL T.K H2 a vs:=by
    rcases hs with z | z
    ·exact .inl (Rd.tr (fun o q=>hx a o q) z)
    ·exact .inr z
   refine⟨fun i x ex=>?_,⟨vs,h2,by rw[hr.length];exact Nat.le_refl _⟩⟩
   obtain⟨v,f,ev,rv,_⟩:=hr.get ex
   refine⟨⟨vs,v,h2,ev⟩,fun w H3 hy=>⟨hy.1,f,?_⟩⟩
   have:=hy.2 vs h2
   rw[ev]at this
   cases this
   exact rv
  ·refine .inr ⟨vs,hs,q _ H1 F1 g1 (ItC.of0 fun H2 hx=>?_)⟩
   have h2:SqT T.K H2 a vs:=SqT.tr (fun o q _=>hx a o q) hs
   refine⟨fun i x ex=>?_,⟨vs,h2,by rw[hr.length];exact Nat.le_refl _⟩⟩
   obtain⟨v,f,ev,rv,_⟩:=hr.get ex
   refine⟨⟨vs,v,h2,ev⟩,fun w H3 hy=>⟨hy.1,f,?_⟩⟩
   have:=hy.2 vs h2
   rw[ev]at this
   cases this
   exact rv)
def A9:ItC T F1 B L H1 (Itr lo n) (cX lo n):=by
 apply ItC.of0
 intro H2 _
 refine⟨fun i x ex=>?_,by simp[cX,Itr]⟩
 have hi:i < n:=by
  have:=(List.getElem?_eq_some_iff.mp ex).1
  simpa[cX]using this
 refine⟨hi,fun v H3 hy=>⟨hy.1,[],?_⟩⟩
 obtain⟨_,rfl⟩:=hy
 have:x=.int (lo+(i:Nat)):=by
  simp[cX,hi]at ex
  exact ex.symm
 subst this
 exact fe
def bR(hg:Gl X "range")(hm:X.mg "range" = none)(ha:SA X T W [a] ms)(hs:starEach [a] X.env=[(false,eval a X.env)]:=by rfl):SIc X T W tg (.Call (.Name "range" p) [a] [] pos) (b8 ms):=fun js s Y H R I h=>nR hg hm ha hs js s Y H R I (by
 obtain⟨Z,F,env,fp,S,q⟩:=h
 unfold b8 at q
 refine tA.bind S (fun c e=>by rw[e]at q;exact q) (fun e=>by rw[e]at q;exact q) fun xs vs H1 F1 f1 e1 g1 r1 n1 d1 w1=>?_
 rw[e1]at q
 simp only[Res.ok_bind]at q
 split at q
 ·rename_i n
  split at q
  ·rename_i hc
   obtain⟨v,rfl,r2⟩:=r1.one
   unfold Rel at r2
   obtain⟨rfl,_⟩:=r2
   have hc':-(2 ^ 62)<= n/\n < 2 ^ 62:=by simpa[inR]using hc
   exact⟨n,rfl,hc'.1,hc'.2,q _ H1 F1 g1 A9⟩
  ·exact q.elim
 ·exact q.elim)
abbrev WF:Nat->St->Hp->Prop:=fun _ _ _=>False
def STs(X:Cx)(T:Tb)(W:Nat->St->Hp->Prop)(ifs:List Expr)(m:MT):Prop :=
 ∀(js:List (Addr×Obj)) (s:Shared) (Y:St) (H:Hp) (Q:Bool->Hp->Prop),L2.Inv X js Y H s->tT T W m Y H Q ->
  wpAny (model X.prog X.w) X.A (forIn ifs true fun c r=>if r=true then do let ok <- isTrue c X.env (eval c X.env);pure (ForInStep.yield ok)else pure (ForInStep.yield r)) (TP X js Y Q) X.xe s
def cu:MT:=fun _=>.ok true
def bJ:STs X T W [] cu:=fun js s Y H Q I ⟨Z,F,env,fp,S,q⟩=>wpAny_tests_nil ⟨H,I,q H F (Gr.refl S.hp.ft)⟩
def cH(h:ST X T W c m):STs X T W [c] m:=fun js s Y H Q I q=>wpAny_tests_one (h js s Y H Q I q)
structure gZ(g:TgM)(k:Nat):Prop where
 keep:∀x env e',g x env=some e'->e'.length=env.length/\∀j < k,e'[j]?=env[j]?
 own:∀x env e',g x env=some e'->x.has Fl.isOwn=false->∀(j:Nat) pv,e'[j]?=some (some pv)->env[j]?=some (some pv)\/ pv.has Fl.isOwn=false
structure lw(g:sI)(k:Nat):Prop where
 keep:∀x env e',g x env=some e'->e'.length=env.length/\∀j < k,e'[j]?=env[j]?
 own:∀x env e',g x env=some e'->hasL Fl.isOwn x=false->∀(j:Nat) pv,e'[j]?=some (some pv)->env[j]?=some (some pv)\/ pv.has Fl.isOwn=false
def vS(h:k<=i):gZ (tgN i) k:=by
 refine⟨fun x env e' e=>?_,fun x env e' e hx j pv hj=>?_⟩
 ·unfold tgN at e
  split at e
  ·cases e
   exact⟨by simp,fun j hj=>List.getElem?_set_ne (by omega)⟩
  ·cases e
 ·unfold tgN at e
  split at e
  ·cases e
   by_cases hij:i=j
   ·subst hij
    have hl:i < env.length:=by
     have:=(List.getElem?_eq_some_iff.mp hj).1
     simpa using this
    rw[List.getElem?_set_self hl]at hj
    cases hj
    exact .inr hx
   ·rw[List.getElem?_set_ne hij]at hj
    exact .inl hj
  ·cases e
def jE:lw g7 k:=by
 refine⟨fun x env e' e=>?_,fun x env e' e _ j pv hj=>?_⟩
 ·cases x with
  | nil=>cases e;exact⟨rfl,fun _ _=>rfl⟩
  | cons _ _=>cases e
 ·cases x with
  | nil=>cases e;exact .inl hj
  | cons _ _=>cases e
def dJ(h1:gZ g k)(h2:lw u k):lw (bO g u) k:=by
 refine⟨fun x env e' e=>?_,fun x env e' e hx j pv hj=>?_⟩
 ·cases x with
  | nil=>cases e
  | cons y ys =>
   simp only[bO]at e
   cases e1:g y env with
   | none=>rw[e1]at e;cases e
   | some e2 =>
    rw[e1]at e
    obtain⟨l1,k1⟩:=h1.keep y env e2 e1
    obtain⟨l2,k2⟩:=h2.keep ys e2 e' e
    exact⟨l2.trans l1,fun j hj=>(k2 j hj).trans (k1 j hj)⟩
 ·cases x with
  | nil=>cases e
  | cons y ys =>
   simp only[hasL,Bool.or_eq_false_iff]at hx
   simp only[bO]at e
   cases e1:g y env with
   | none=>rw[e1]at e;cases e
   | some e2 =>
    rw[e1]at e
    rcases h2.own ys e2 e' e hx.2 j pv hj with z | z
    ·exact h1.own y env e2 e1 hx.1 j pv z
    ·exact .inr z
def k9(h:lw u k):gZ (tgT n u) k:=by
 refine⟨fun x env e' e=>?_,fun x env e' e hx j pv hj=>?_⟩
 ·cases x with
  | tup xs =>
   simp only[tgT]at e
   split at e
   ·exact h.keep xs env e' e
   ·cases e
  | _=>cases e
 ·cases x with
  | tup xs =>
   simp only[tgT]at e
   simp only[PV.has]at hx
   split at e
   ·exact h.own xs env e' e hx j pv hj
   ·cases e
  | _=>cases e
def bQ(caps:List Nat)(k:Nat)(env:En):En:=caps.map (fun i=>((env[i]?).join).map PV.borrow)++ List.replicate k none
def d_(g:TgM)(mc:MT)(me:ME)(env:En):List PV->Res (List PV)
 | []=>.ok []
 | x::xs=>match g x.borrow env with
  | none=>.stuck
  | some e=>(mc e).bind fun b=>if b then(me e).bind fun y=>if y.has Fl.isBor||y.has Fl.isLnt then .stuck else(d_ g mc me env xs).bind fun ys=>.ok (y::ys)else d_ g mc me env xs
def a_(caps:List Nat)(k:Nat)(mi:MI)(g:TgM)(mc:MT)(me:ME):ME:=fun env=>(mi env).bind fun xs=>if xs.length <= 10000000 then (match d_ g mc me (bQ caps k env) xs with
 | .ok ys=>.ok (.lst .own ys)
 | _=>.stuck)else .stuck
end
section
variable{prog:Program}{w:World}{A:Around}{R:Result->Shared->Prop}{s:Shared}
def o9(I:Nat->Shared->Prop)
  (turn:∀ n s,I n s->wpAny (model prog w) A (pyNext it) (fun r s₁=>match r with
   | none=>R (.ok .next) s₁
   | some v=>wpAny (model prog w) A (letOwnedTupleGo target it v) (fun _ s₁'=>wpAny (model prog w) A (assign target env v) (fun _ s₂ =>
     wpAny (model prog w) A (forIn ifs true fun c r=>if r=true then do let ok <- isTrue c env (eval c env);pure (ForInStep.yield ok) else pure (ForInStep.yield r)) (fun ok s₃ =>
      if ok=true then wpAny (model prog w) A (eval elt env) (fun x s₄ =>
       wpAny (model prog w) A (call (.builtin "list.append") [acc,x]) (fun _ s₅=>∃m,m < n/\I m s₅) (notedBy (model prog w) A env fun e s'=>R (.error e) s') s₄) (notedBy (model prog w) A env fun e s'=>R (.error e) s') s₃
      else ∃m,m < n/\I m s₃) (notedBy (model prog w) A env fun e s'=>R (.error e) s') s₂) (notedBy (model prog w) A env fun e s'=>R (.error e) s') s₁') (notedBy (model prog w) A env fun e s'=>R (.error e) s') s₁) (notedBy (model prog w) A env fun e s'=>R (.error e) s') s)
  (n:Nat) (h:I n s) :
  codeAny (model prog w) A (.compLoop (.ListComp elt [⟨target,iter,ifs,0⟩] scope pos) 0 it acc env) R s:=by
 refine codeAny_loop rfl I (fun n s hI=>?_) n h
 show wpAny _ A ((compTurn (.ListComp elt [⟨target,iter,ifs,0⟩] scope pos) 0 it acc env).onRaise (fun x=>do noteFrame x env;theTreesLotGoes x)) _ _ s
 refine wpAny_noted ?_
 rw[compTurn_list]
 refine wpAny_bind (wpAny_standAt (wpAny_bind (wpAny_mono (turn n s hI) (fun r s₁ h₁=>?_) fun _ _ h'=>h')))
 cases r with
 | none=>exact wpAny_pure h₁
 | some v =>
  refine wpAny_bind (wpAny_mono h₁ (fun _ s₁' h₁'=>?_) fun _ _ h'=>h')
  refine wpAny_bind (wpAny_mono h₁' (fun _ s₂ h₂=>wpAny_bind (wpAny_mono h₂ (fun ok s₃ h₃=>?_) fun _ _ h'=>h')) fun _ _ h'=>h')
  cases ok with
  | false=>exact wpAny_pure ⟨rfl,h₃⟩
  | true =>
   exact wpAny_bind (wpAny_bind (wpAny_mono h₃ (fun x s₄ h₄=>wpAny_bind (wpAny_mono h₄ (fun _ s₅ h₅=>wpAny_pure (wpAny_pure ⟨rfl,h₅⟩)) fun _ _ h'=>h')) fun _ _ h'=>h'))
end
end PR
namespace PR
open PySem PySem.Spec L2
section
variable{X:Cx}{T:Tb}{W:Nat->St->Hp->Prop}{Z:Zn}{F F1 B L:Addr->Prop}{H H1:Hp}{Y:St}{env:En}{fp:Nat->List Addr}{D:Ends}
def av.wk(S:av T Z F H Y env fp)(hpin:Z.pin=none)(hl:e2.length=env.length)(h:∀(i:Nat) pv,e2[i]?=some (some pv)->env[i]?=some (some pv)):av T Z F H Y e2 fp :=
 ⟨S.hp,S.len.trans hl.symm,fun i pv e=>S.rel i pv (h i pv e),S.nd,S.dj,S.dis,S.new,S.ch,fun v hv=>by rw[hpin]at hv;cases hv⟩
def av.noOwn(S:av T Z F H Y env fp)(h:∀(i:Nat) pv,env[i]?=some (some pv)->pv.has Fl.isOwn=false):av T Z F H Y env (fun _=>[]) :=
 ⟨S.hp,S.len,fun i pv e=>by
  obtain⟨v,h1,h2⟩:=S.rel i pv e
  have:=Rel.noOwn (h i pv e) h2
  rw[this]at h2
  exact⟨v,h1,h2⟩,fun _=>List.nodup_nil,fun _ _ _ _ z=>(nomatch z),fun _ _ z=>(nomatch z),fun _ _ z=>(nomatch z),fun _ _ z=>(nomatch z),S.pn⟩
def av.updD(S:av T Z F H Y env (fun _=>[]))(hF:¬F Dd)(h0:Z.H0 Dd=none)(hD:H Dd=some o)(hfx:¬fR o):av T Z F (upd H Dd o') Y env (fun _=>[]):=by
 have ne:∀a u,H a=some u->(F a\/Z.B a\/NoL a\/fR u)->a≠Dd:=(by grind[br,av,ck,Gr])
 refine⟨⟨S.hp.bo,fun a u e n=>?_,S.hp.f0,S.hp.fn,fun a h=>?_⟩,S.len,fun i pv e=>?_,S.nd,S.dj,fun _ _ z=>(nomatch z),S.new,fun _ _ z=>(nomatch z),S.pn⟩
 ·have:a≠Dd:=fun z=>by rw[z,h0]at e;cases e
  rw[aK this]
  exact S.hp.keep a u e n
 ·obtain⟨u,e⟩:=S.hp.ft a h
  exact⟨u,by rw[aK (show a≠Dd from fun z=>hF (by rw[<- z];exact h))];exact e⟩
 ·obtain⟨v,h1,h2⟩:=S.rel i pv e
  refine⟨v,h1,Rel.tr (fun _ h=>h) (fun _ h=>h) (fun _ h=>h) (fun a u q h=>?_) (fun _ z=>(nomatch z)) h2⟩
  rw[aK (ne a u q h)]
  exact q
def zC(F:Addr->Prop)(H:Hp):Zn:=⟨H,F,fun _=>False,fun a=>∃o,H a=some o,none⟩
def vC(S:av T Z F H Y env fp)(hD:H Dd=none)(hFD:¬F Dd) :
  av T (zC F H) F (upd H Dd (.lst [])) (pd caps k Y) (bQ caps k env) (fun _=>[]):=by
 have ext:Ext H (upd H Dd (.lst [])):=Ext.upd hD
 refine⟨⟨fun a h=>⟨h,fun z=>z⟩,fun a o h _=>ext a o h,fun _ h=>h,fun _ h=>.inl h,fun a h=>let⟨o,e⟩:=S.hp.ft a h;⟨o,ext a o e⟩⟩,by simp[pd,bQ],fun i pv e=>?_,fun _=>List.nodup_nil,fun _ _ _ _ z=>(nomatch z),fun _ _ z=>(nomatch z),fun _ _ z=>(nomatch z),fun _ _ z=>(nomatch z),fun _ h=>(nomatch h)⟩
 unfold bQ at e
 unfold pd
 by_cases hi:i < caps.length
 ·rw[List.getElem?_append_left (by simpa using hi),List.getElem?_map]at e ⊢
  obtain⟨j,hj,e2⟩:=Option.map_eq_some_iff.mp e
  rw[hj]
  obtain⟨pv0,e3,rfl⟩:=Option.map_eq_some_iff.mp e2
  have e4:env[j]?=some (some pv0):=by
   cases e5:env[j]? with
   | none=>rw[e5]at e3;cases e3
   | some w=>rw[e5]at e3;simp only[Option.join_some]at e3;rw[e3]
  obtain⟨v,h1,h2⟩:=S.rel j pv0 e4
  refine⟨v,by simp[h1],?_⟩
  refine Rel.borrow (B:=fun a=>∃o,H a=some o) (L:=NoL) (fun _ h=>h) (fun _ h=>h.elim) (fun a ha=>(S.dis j a ha).2) ?_
  exact Rel.tr (fun _ h=>h) (fun a h=>let⟨⟨o,h1⟩,h2⟩:=S.hp.bo a h;⟨o,S.hp.keep a o h1 h2⟩) (fun _ h=>h) (fun a o q _=>ext a o q) (fun a _ o q=>ext a o q) h2
 ·rw[List.getElem?_append_right (by simpa using hi),List.getElem?_replicate]at e
  split at e<;>cases e
set_option maxHeartbeats 1000000 in
def oh
  (cs:eJ X scope caps N tn) (hc:X.calm=true) (hi:SIc X T W tg iter mi) (hk:gZ g caps.length)
  (hb:∀C s H ex,SG (cxC X scope C N s H ex) T tg g/\STs (cxC X scope C N s H ex) T WF ifs mc/\SE (cxC X scope C N s H ex) T WF elt me)
  (hs:∀x,foldedSetIterable iter X.env x=pure x) (I:L2.Inv X js Y H s) (h:tE T W (a_ caps tn.length mi g mc me) Y H Q)
  (hfin:∀(Dd C:Addr) (H':Hp) (s6:Shared) (m:Str->Option Value),Q (.ref Dd) H'->L2.Inv X js Y H' s6->s6.heap.Ns C m->H' C=none->C≠X.env.locals->C∉X.fs->X.s₀.heap.objs.size<=C->(∀x c,X.env.cells.lookup x=some c->c≠C)->(∀p∈X.pn++js,p.1≠C)->compPost (model X.prog X.w) X.A X.xe use Q' (.ref Dd) C (.ok .next) s6) :
  wpAny (model X.prog X.w) X.A (comprehension (.ListComp elt [⟨tg,iter,ifs,0⟩] scope pos) scope X.env p' (newList []) false (eval iter X.env) use) Q' X.xe s:=by
 obtain⟨Z,F,env,fp,S,q⟩:=h
 unfold a_ at q
 refine wpAny_comprehension_free (use:=use) rfl hs (ng fun y hy hf=>I.ok.has y.1 (cs.free y hy hf)) cs.kind cs.names ?_
 refine thn (hi js s Y H (fun J H1=>∃F1 xs,mi env=.ok xs/\Gr F H F1 H1/\ItC T F1 Z.B (Own fp) H1 J xs) I ⟨Z,F,env,fp,S,?_⟩) fun xv s1 h1=>thn h1 fun itv s2 h2=>?_
 ·cases em:mi env with
  | ok xs=>exact fun J H1 F1 g1 it=>⟨F1,xs,rfl,g1,it⟩
  | exc c | stuck=>rw[em]at q;exact q
 obtain⟨it,fpi,tn_,J,H2,rfl,I2,Tn,st2,f2,F1,xs,em,g1,itc⟩:=h2
 rw[em]at q
 simp only[Res.ok_bind]at q
 split at q
 case isFalse=>exact q.elim
 rename_i hlen
 cases ec:d_ g mc me (bQ caps tn.length env) xs with
 | exc c | stuck=>rw[ec]at q;exact q.elim
 | ok full =>
 rw[ec]at q
 dsimp only at q
 have S2:=S.grow g1
 have hlt:∀b∈fpi,b < s2.heap.objs.size:=fun b hb=>by
  obtain⟨o,ho,_⟩:=Tn.obj 0 _ st2 b hb
  exact Heap.lt_size ho
 refine PySem.wpAny_newObj_type (qe fun h₁ hns₁ hsb₁ hcl₁=>?_)
 dsimp only at hns₁ hsb₁ hcl₁ ⊢
 generalize hH2:s2.heap.push { cls:=.type "list", dict:=none,data:=.seq ([]:List Value).toArray }=P2 at hns₁ hsb₁ hcl₁ ⊢
 have hC:P2.objs.size=s2.heap.objs.size+1:=by rw[<- hH2,Heap.size_push]
 have old:∀b o,s2.heap.get? b=some o->h₁.get? b=some o:=fun b o e=>hsb₁ b o (hH2▸Heap.get?_push_of_some _ e)
 have hDo:h₁.get? s2.heap.objs.size=some { cls:=.type "list", data:=.seq ([]:List Value).toArray }:=hsb₁ _ _ (hH2▸Heap.get?_push_size _ rfl)
 rw[hC]at hns₁ hcl₁
 have inv0:=xR (t:=s2.toks) cs I2 f2 hlt hns₁ hDo old hcl₁
 have hDH:H2 s2.heap.objs.size=none:=I2.hok.fresh (Nat.le_refl _)
 have hDF:¬F1 s2.heap.objs.size:=fun z=>by obtain⟨o,e⟩:=g1.dom _ z;rw[hDH]at e;cases e
 have SB:=vC (caps:=caps) (k:=tn.length) S2 hDH hDF
 obtain⟨hgN,hts,hel⟩:=hb (s2.heap.objs.size+1) s2 H2 fpi
 have never:∀{α:Type}{t:Sem α}{Qa:α->Shared->Prop}{E':Value->Shared->Prop}{s':Shared},wpAny (model X.prog X.w) X.A t Qa (fun _ _=>False) s'->wpAny (model X.prog X.w) X.A t Qa E' s':=fun h=>wpAny_mono h (fun _ _ x=>x) fun _ _ z=>z.elim
 have fpok:∀{H':Hp}{pins':List (Addr×Obj)},(∀p∈pins',p.1∉fpi)->(∀b∈fpi,H' b=none)->∀b∈fpi,mZ (cxC X scope (s2.heap.objs.size+1) N s2 H2 fpi) pins' H' b:=fun {H' pins'} hp hn b hb=>by
  refine⟨hn b hb,Nat.ne_of_lt (Nat.lt_succ_of_lt (hlt b hb)),(sF cs I2 f2 hlt (Nat.le_succ _)).exfs b hb,.inl hb,((sF cs I2 f2 hlt (Nat.le_succ _)).exf b hb).2,fun p hp' z=>?_⟩
  rcases List.mem_append.mp hp' with w | w
  ·exact absurd (show p ∈([]:List (Addr×Obj))from w) (by simp)
  ·exact hp p w (z▸hb)
 have key:∀s4:Shared,L2.Inv (cxC X scope (s2.heap.objs.size+1) N s2 H2 fpi) [] (pd caps tn.length Y) (upd H2 s2.heap.objs.size (.lst [])) s4->tn_ 0 s4.heap ->
   codeAny (model X.prog X.w) X.A (.compLoop (.ListComp elt [⟨tg,iter,ifs,0⟩] scope pos) 0 (.ref it) (.ref s2.heap.objs.size) (compEnvC scope (qM X scope (s2.heap.objs.size+1)) (s2.heap.objs.size+1) X.env))
    (compPost (model X.prog X.w) X.A X.xe use Q' (.ref s2.heap.objs.size) (s2.heap.objs.size+1)) s4:=by
  intro s4 inv4 st4
  refine o9 (fun n s'=>∃ (i:Nat) (σ':St) (H':Hp) (Fi:Addr->Prop) (ys zs:List PV) (vs:List V) (f:List Addr),n=xs.length - i/\i <= xs.length/\L2.Inv (cxC X scope (s2.heap.objs.size+1) N s2 H2 fpi) [] σ' H' s'/\tn_ i s'.heap/\(∀ b ∈ fpi,H' b=none) /\
   av T (zC F1 H2) Fi H' σ' (bQ caps tn.length env) (fun _=>[])/\H' s2.heap.objs.size=some (.lst vs)/\RelL T Fi Z.B (Own fp) H' ys vs f/\f.Nodup/\(∀a∈f,¬Fi a/\H2 a=none/\a≠s2.heap.objs.size)/\¬Fi s2.heap.objs.size/\ys.length<=i /\
   d_ g mc me (bQ caps tn.length env) (xs.drop i)=.ok zs/\full=ys++zs) ?_ xs.length ?_
  case refine_2 =>
   refine⟨0,_,_,F1,[],full,[],[],by simp,Nat.zero_le _,inv4,st4,fun b hb=>?_,SB,a5,by unfold RelL;exact⟨rfl,rfl⟩,List.nodup_nil,fun _ z=>(nomatch z),hDF,Nat.zero_le _,ec,rfl⟩
   rw[aK (Nat.ne_of_lt (hlt b hb))]
   exact(f2 b hb).1
  rintro n s5 ⟨i,σ',H',Fi,ys,zs,vs,f,rfl,hil,inv5,st5,fr5,SI5,hD5,ry,nd5,nf5,nFD,hyl,ecl,efull⟩
  have ext5:Ext H2 H':=fun a o e=>SI5.hp.keep a o e fun z=>z
  have gr5:Gr F1 H2 Fi H':=⟨ext5,SI5.hp.f0,fun a h=>by
   rcases SI5.hp.fn a h with z | z | z
   ·exact .inl z
   ·exact .inr z
   ·exact z.elim,SI5.hp.ft⟩
  obtain⟨go,stop⟩:=itc H' ext5
  by_cases hlt5:i < xs.length
  ·have hx:xs[i]?=some xs[i]:=by simp[hlt5]
   obtain⟨g5,yl⟩:=go i _ hx
   rw[List.drop_eq_getElem_cons hlt5]at ecl
   unfold d_ at ecl
   cases eg:g xs[i].borrow (bQ caps tn.length env)with
   | none=>rw[eg]at ecl;cases ecl
   | some e' =>
   rw[eg]at ecl
   dsimp only at ecl
   refine thn (Tn.item (cxC X scope (s2.heap.objs.size+1) N s2 H2 fpi) rfl rfl rfl hc i [] s5 σ' H' _ inv5 (fpok (fun _ z=>absurd z (by simp)) fr5) st5 g5) fun r s6 hz1=>?_
   obtain⟨u,hr,h6⟩:=hz1
   subst hr
   refine thn h6 fun _ s7 hz1=>?_
   obtain⟨v,H7,inv7,rv,yy,st7,fr7⟩:=hz1
   obtain⟨ex7,fx,tx,rx⟩:=yl v H7 yy
   replace SI5:=SI5.grow (Gr.same SI5.hp.ft ex7)
   replace ry:=ry.ext ex7 fun _ h=>h
   replace hD5:=ex7 _ _ hD5
   replace gr5:=gr5.trans (Gr.same gr5.dom ex7)
   replace ext5:=gr5.ext
   have pinv:=inv7.pinned (fpok (fun _ z=>absurd z (by simp)) fr7) (Tn.obj _ _ st7)
   have rxb:Rel T Fi (zC F1 H2).B NoL H7 xs[i].borrow v []:=by
    refine Rel.borrow (B:=fun a=>∃o,H2 a=some o) (L:=Own fp) (fun _ h=>h) (fun a ⟨j,hj⟩=>(S2.dis j a hj).2) (fun a ha=>tx a ha) ?_
    exact Rel.tr SI5.hp.f0 (fun a h=>let⟨⟨o,h1⟩,h2⟩:=S2.hp.bo a h;⟨o,S2.hp.keep a o h1 h2⟩) (fun _ h=>h) (fun a o q _=>q) (fun a _ o q=>q) rx
   refine never (thn (hgN _ s7 σ' H7 v u (fun σ8 H8=>H8=H7/\∃fp8,av T (zC F1 H2) Fi H7 σ8 e' fp8) pinv rv ⟨zC F1 H2,Fi,bQ caps tn.length env,fun _=>[],xs[i].borrow,[],SI5,rxb,vK.nil,?_⟩) fun _ s8 ⟨σ8,H8,inv8,e8,fp8,S8⟩=>?_)
   ·rw[eg]
    exact fun σ8 fp8 S8=>⟨rfl,fp8,S8⟩
   subst e8
   obtain⟨kl,kk⟩:=hk.keep _ _ _ eg
   have capOwn:∀(j:Nat) pv,(bQ caps tn.length env)[j]?=some (some pv)->pv.has Fl.isOwn=false:=fun j pv ej=>by
    unfold bQ at ej
    by_cases hj:j < caps.length
    ·rw[List.getElem?_append_left (by simpa using hj),List.getElem?_map]at ej
     obtain⟨jj,_,e2⟩:=Option.map_eq_some_iff.mp ej
     obtain⟨pv0,_,rfl⟩:=Option.map_eq_some_iff.mp e2
     exact jA pv0
    ·rw[List.getElem?_append_right (by simpa using hj),List.getElem?_replicate]at ej
     split at ej<;>cases ej
   have S8':av T (zC F1 H2) Fi H8 σ8 e' (fun _=>[]):=S8.noOwn fun j pv ej=>by
    rcases hk.own _ _ _ eg (jA _) j pv ej with z | z
    ·exact capOwn j pv z
    ·exact z
   have back:∀{F9:Addr->Prop}{H9:Hp},av T (zC F1 H2) F9 H9 σ8 e' (fun _=>[])->av T (zC F1 H2) F9 H9 σ8 (bQ caps tn.length env) (fun _=>[]):=fun S9=>S9.wk rfl kl.symm fun j pv ej=>by
    have hj:j < caps.length:=by
     by_cases hj:j < caps.length
     ·exact hj
     ·unfold bQ at ej
      rw[List.getElem?_append_right (by simpa using hj),List.getElem?_replicate]at ej
      split at ej<;>cases ej
    rw[kk j hj]
    exact ej
   have pinback:∀{H9:Hp}{s9:Shared},L2.Inv (cxC X scope (s2.heap.objs.size+1) N s2 H2 fpi) ([]++ lO fpi s7.heap) σ8 H9 s9->L2.Inv (cxC X scope (s2.heap.objs.size+1) N s2 H2 fpi) [] σ8 H9 s9/\tn_ (i+1) s9.heap/\∀b∈fpi,H9 b=none:=fun {H9 s9} i9 =>
    ⟨i9.unpinned,Tn.keep _ _ _ st7 fun b hb o e=>(i9.pin (b,o) (List.mem_append_right _ (List.mem_append_right _ (gR hb e)))).1,fun b hb=>by
     obtain⟨o,e,_⟩:=Tn.obj _ _ st7 b hb
     exact(i9.pin (b,o) (List.mem_append_right _ (List.mem_append_right _ (gR hb e)))).2.1⟩
   cases emc:mc e' with
   | exc c | stuck=>rw[emc]at ecl;cases ecl
   | ok bb =>
   rw[emc]at ecl
   simp only[Res.ok_bind]at ecl
   refine never (thn (hts _ s8 σ8 H8 (fun b H9=>b=bb/\∃F9,Gr Fi H8 F9 H9) inv8 ⟨zC F1 H2,Fi,e',fun _=>[],S8',?_⟩) fun ok s9 ⟨H9,inv9,eb,F9,g9⟩=>?_)
   ·rw[emc]
    exact fun H9 F9 g9=>⟨rfl,F9,g9⟩
   subst eb
   have S9:=S8'.grow g9
   have ry9:=ry.ext g9.ext g9.mono
   have nf9:∀a∈f,¬F9 a:=fun a ha z=>by
    rcases g9.only a z with z | z
    ·exact(nf5 a ha).1 z
    ·obtain⟨o,e⟩:=ry.there a ha
     rw[e]at z;cases z
   have nFD9:¬F9 s2.heap.objs.size:=fun z=>by
    rcases g9.only _ z with z | z
    ·exact nFD z
    ·rw[hD5]at z;cases z
   cases ok with
   | false =>
    simp only[Bool.false_eq_true,if_false]at ecl ⊢
    obtain⟨i10,st10,fr10⟩:=pinback inv9
    exact⟨xs.length - (i+1),by omega,i+1,σ8,H9,F9,ys,zs,vs,f,rfl,hlt5,i10,st10,fr10,back S9,g9.ext _ _ hD5,ry9,nd5,fun a ha=>⟨nf9 a ha,(nf5 a ha).2⟩,nFD9,by omega,ecl,efull⟩
   | true =>
    simp only[if_true]at ecl ⊢
    cases eme:me e' with
    | exc c | stuck=>rw[eme]at ecl;cases ecl
    | ok y =>
    rw[eme]at ecl
    simp only[Res.ok_bind]at ecl
    split at ecl
    case isTrue=>cases ecl
    rename_i hyb
    simp only[Bool.or_eq_true,not_or,Bool.not_eq_true]at hyb
    cases ecr:d_ g mc me (bQ caps tn.length env) (xs.drop (i+1))with
    | exc c | stuck=>rw[ecr]at ecl;cases ecl
    | ok zs' =>
    rw[ecr]at ecl
    simp only[Res.ok_bind]at ecl
    cases ecl
    refine never (thn (hel _ s9 σ8 H9 (fun v' H10=>∃F10 f10,Gr F9 H9 F10 H10/\Rel T F10 (zC F1 H2).B (Own fun _=>[]) H10 y v' f10/\(∀a∈f10,¬F10 a)/\f10.Nodup/\∀a∈f10,H9 a=none) inv9 ⟨zC F1 H2,F9,e',fun _=>[],S9,?_⟩) fun w s10 ⟨v',H10,inv10,rw10,F10,f10,g10,r10,n10,d10,w10⟩=>?_)
    ·rw[eme]
     exact fun v' H10 F10 f10 g10 r10 n10 d10 w10=>⟨F10,f10,g10,r10,n10,d10,w10⟩
    have hvl:vs.length < sizeLine:=by
     have h1:=ry.length
     have h2:sizeLine=16777216:=sizeLine_eq
     omega
    have hD10:H10 s2.heap.objs.size=some (.lst vs):=g10.ext _ _ (g9.ext _ _ hD5)
    refine never (thn (i3 _ s10 σ8 H10 (.ref s2.heap.objs.size) [v'] (.ref s2.heap.objs.size) [w] (fun _ H11=>H11=upd H10 s2.heap.objs.size (.lst (vs++[v']))) inv10 rfl (.cons rw10 .nil) ⟨s2.heap.objs.size,vs,v',rfl,rfl,hD10,hvl,rfl⟩) fun _ s11 ⟨_,H11,inv11,_,e11⟩=>?_)
    subst e11
    obtain⟨i12,st12,fr12⟩:=pinback inv11
    have S10:=S9.grow g10
    have nFD10:¬F10 s2.heap.objs.size:=fun z=>by
     rcases g10.only _ z with z | z
     ·exact nFD9 z
     ·rw[g9.ext _ _ hD5]at z;cases z
    have ry10:=ry9.ext g10.ext g10.mono
    have ryy:RelL T F10 Z.B (Own fp) (upd H10 s2.heap.objs.size (.lst (vs++[v']))) (ys++[y]) (vs++[v']) (f++f10):=by
     have ry1:Rel T F10 Z.B (Own fp) H10 y v' f10:=Rel.noL hyb.2 (Rel.noB (B':=Z.B) hyb.1 r10)
     have all:RelL T F10 Z.B (Own fp) H10 (ys++[y]) (vs++[v']) (f++f10):=RelL.append ry10 (by unfold RelL;exact⟨v',[],f10,[],rfl,ry1,by unfold RelL;exact⟨rfl,rfl⟩,by simp⟩)
     refine RelL.tr (fun _ h=>h) (fun _ h=>h) (fun _ h=>h) (fun a o e h=>?_) (fun a ha o e=>?_) all
     ·refine(aK fun z=>?_).trans e
      subst z
      rcases h with h | h | h | h
      ·exact nFD10 h
      ·obtain⟨⟨o',h1⟩,h2⟩:=S2.hp.bo _ h
       rw[S2.hp.keep _ o' h1 h2]at hDH;cases hDH
      ·obtain⟨j,hj⟩:=h
       obtain⟨_,o',ho'⟩:=S2.dis j _ hj
       rw[hDH]at ho';cases ho'
      ·rw[hD10]at e;cases e;exact h
     ·refine(aK fun z=>?_).trans e
      subst z
      rcases List.mem_append.mp ha with ha | ha
      ·exact(nf5 _ ha).2.2 rfl
      ·have:=w10 _ ha
       rw[g9.ext _ _ hD5]at this;cases this
    have nf10:∀a∈f,¬F10 a:=fun a ha z=>by
     rcases g10.only a z with z | z
     ·exact nf9 a ha z
     ·obtain⟨o,e⟩:=ry9.there a ha
      rw[e]at z;cases z
    refine⟨xs.length - (i+1),by omega,i+1,σ8,_,F10,ys++[y],zs',vs++[v'],f++f10,rfl,hlt5,i12,st12,fr12,back (S10.updD nFD10 hDH hD10 (fun z=>z)),a5,ryy,?_,fun a ha=>?_,nFD10,by simp;omega,ecr,by rw[efull,List.append_assoc];rfl⟩
    ·refine List.nodup_append.mpr ⟨nd5,d10,fun a ha b hb z=>?_⟩
     subst z
     obtain⟨o,e⟩:=ry9.there a ha
     rw[w10 a hb]at e;cases e
    ·rcases List.mem_append.mp ha with ha | ha
     ·exact⟨nf10 a ha,(nf5 a ha).2⟩
     ·refine⟨n10 a ha,?_,fun z=>?_⟩
      ·have:=w10 a ha
       exact ext5.free (g9.ext.free this)
      ·subst z
       have:=w10 _ ha
       rw[g9.ext _ _ hD5]at this;cases this
  ·have e:i=xs.length:=by omega
   subst e
   rw[List.drop_length]at ecl
   unfold d_ at ecl
   cases ecl
   rw[List.append_nil]at efull
   subst efull
   refine thn (Tn.done (cxC X scope (s2.heap.objs.size+1) N s2 H2 fpi) rfl rfl rfl hc xs.length [] s5 σ' H' _ inv5 (fpok (fun _ z=>absurd z (by simp)) fr5) st5 stop) fun r s6 hz1=>?_
   obtain⟨hr,inv6⟩:=hz1
   subst hr
   obtain⟨m,hn,_⟩:=id inv6.loc
   have hlc:X.env.locals < s2.heap.objs.size+1:=Nat.lt_succ_of_lt I2.lt
   have iX:L2.Inv X js Y H' s6:=I2.call' inv6.os inv6.base inv6.hok inv6.bare fun b hb=>⟨(f2 b hb).2.2.2.1,(f2 b hb).2.1,(f2 b hb).2.2.2.2.1,(f2 b hb).2.2.2.2.2⟩
   refine hfin _ (s2.heap.objs.size+1) H' s6 m ?_ iX hn inv6.free (Nat.ne_of_gt hlc) (I2.nofs (Nat.le_succ _)) (Nat.le_trans I2.sz (Nat.le_succ _)) (fun x c e z=>?_) (fun p hp z=>?_)
   case refine_2 =>
    obtain⟨v,hv⟩:=I2.cell x c e
    rw[z]at hv
    exact absurd hv.lt (Nat.not_lt.mpr (Nat.le_succ _))
   case refine_3 =>
    have:=Heap.lt_size (I2.pin p hp).1
    rw[z]at this
    exact absurd this (Nat.not_lt.mpr (Nat.le_succ _))
   refine q (.ref s2.heap.objs.size) H' Fi (s2.heap.objs.size::f) (g1.trans gr5) ?_ (fun a ha=>?_) ?_ (fun a ha=>?_)
   ·unfold Rel
    exact⟨_,vs,f,rfl,hD5,ry,rfl⟩
   ·grind
   ·exact List.nodup_cons.mpr ⟨fun z=>(nf5 _ z).2.2 rfl,nd5⟩
   ·rcases List.mem_cons.mp ha with rfl | ha
    ·exact g1.ext.free hDH
    ·exact g1.ext.free (nf5 a ha).2.1
 have st0:tn_ 0 h₁:=Tn.keep _ _ _ st2 fun b _ o e=>old b o e
 have lp:=key _ inv0 st0
 simp only[hC]
 exact codeAny_compStart_list lp (Tn.self _ 0 _ _ _ st0 lp)
def Ae
  (cs:eJ X scope caps N tn) (hc:X.calm=true) (hi:SIc X T W tg iter mi) (hk:gZ g caps.length)
  (hb:∀C s H ex,SG (cxC X scope C N s H ex) T tg g/\STs (cxC X scope C N s H ex) T WF ifs mc/\SE (cxC X scope C N s H ex) T WF elt me)
  (hs:∀x,foldedSetIterable iter X.env x=pure x:=by intro _;rfl):SE X T W (.ListComp elt [⟨tg,iter,ifs,0⟩] scope pos) (a_ caps tn.length mi g mc me):=by
 intro js s Y H Q I h
 rw[eval_ListComp]
 refine oh cs hc hi hk hb hs I h fun Dd C H' s6 m hq iX hn hCn hCl hCf hC0 hCc hCp=>⟨m,hn,fun h' hs'=>⟨.ref Dd,H',?_,rfl,hq⟩⟩
 exact iX.turned (t':=s6.toks) (fun b o hb e=>(hs'.2 b hb).trans e) hCn hCl (.inr hC0) hCc hCp
def zX
  (cs:eJ X scope caps N tn) (hc:X.calm=true) (hN:X.N.Nodup) (hy:X.N[i]?=some y) (hx:Loc X.env.scope y) (hi:SIc X T W tg iter mi) (hk:gZ g caps.length)
  (hb:∀C s H ex,SG (cxC X scope C N s H ex) T tg g/\STs (cxC X scope C N s H ex) T WF ifs mc/\SE (cxC X scope C N s H ex) T WF elt me)
  (hsw:swapsWith (.ListComp elt [⟨tg,iter,ifs,0⟩] scope pos) (some (.Name y py)) spos.line X.env=pure true:=by rfl)
  (hs:∀x,foldedSetIterable iter X.env x=pure x:=by intro _;rfl)
  (hf:X.fn y=true\/X.env.scope.names.lookup y=some .local:=by first | exact .inl rfl | exact .inr rfl | assumption) :
  SS X T W (.Assign [.Name y py] (.ListComp elt [⟨tg,iter,ifs,0⟩] scope pos) spos) (aS i (a_ caps tn.length mi g mc me)):=by
 intro js s Y H D I h
 obtain⟨Z,F,env,fp,S,q⟩:=h
 unfold aS at q
 rw[exec_Assign_Name_used _ _ _ _ hsw]
 refine wpAny_bind (wpAny_standAt (wpAny_bind ?_))
 show wpAny _ X.A (do let _ <- comprehension (.ListComp elt [⟨tg,iter,ifs,0⟩] scope pos) scope X.env _ (newList []) false (eval iter X.env) (some (assign (.Name y py) X.env))) _ _ s
 refine wpAny_bind (wpAny_mono (oh (use:=some (assign (.Name y py) X.env)) (Q':=fun _ s'=>SP X js D .next s') (Q:=fun v H1=>D.nx (Y.set i (some v)) H1) cs hc hi hk hb hs I ?_ fun Dd C H' s6 m hq iX hn hCn hCl hCf hC0 hCc hCp=>?_) (fun _ s' hq=>wpAny_pure (wpAny_pure hq)) fun _ _ e=>e)
 ·refine tE.bind S (fun c e H' x=>?_) (fun e=>by rw[e]at q;exact q) fun pv v H1 F1 f e g r h1 h2 h3=>?_
  ·rw[e]at q
   exact q F H' Y fp (S.grow (Gr.same S.hp.ft x))
  ·rw[e]at q
   simp only at q
   split at q
   ·rename_i hl
    rw[Bool.and_eq_true]at hl
    exact q F1 H1 _ _ (S.putN g hl.2 r hl.1 h1 h2 h3)
   ·exact q.elim
 ·refine wpAny_assign_Name (nD (v:=.ref Dd) (u:=.ref Dd) iX hN hy hx rfl (fun s7 i7 ⟨a,hsa,ha⟩=>?_) hf)
  have hCa:C≠a:=by
   rcases ha with ha | ha
   ·rw[ha];exact hCl
   ·exact fun z=>hCc y a ha z.symm
  refine⟨m,hn.sameBut hsa hCa,fun h' hs'=>⟨_,H',?_,hq⟩⟩
  exact i7.turned (t':=s7.toks) (fun b o hb e=>(hs'.2 b hb).trans e) hCn hCl (.inr hC0) hCc hCp
end
def GFI(T:Tb)(Z:Zn)(v0:V)(Q:VK)(E:XK):Res PV->Prop
 | .ok pv=>∀F H f,ck T Z F H->Rel T F Z.B NoL H pv v0 f->f.Nodup->(∀a∈f,¬F a)->(∀a∈f,Z.H0 a=none\/Z.fp0 a)->Q .non H
 | .exc c=>∀H,(∀a o,Z.H0 a=some o->¬Z.fp0 a->H a=some o)->E (.ref (T.xcl c)) none H
 | .stuck=>False
def spI(T:Tb)(n:Nat)(m:List PV->Res PV):Sp:=fun vs H Q E=>vs.length=n/\∃v0 pvs F B f,vs[0]?=some v0/\vL T F B H pvs vs f/\(∃fl c ks xs,pvs[0]?=some (.obj fl c ks xs))/\GFI T ⟨H,F,(·∈f),B,some v0⟩ v0 Q E (m pvs)
def i_(n:Nat)(m:MS)(args:List PV):Res PV:=match m (args.map some++List.replicate (n - args.length) none)with
 | .next e=>match e[0]? with
  | some (some o)=>.ok o
  | _=>.stuck
 | .exc c _=>.exc c
 | _=>.stuck
section
variable{P:Program}{w:World}{K:PySem.W.Frag}{mg:Str->Option Value}{base:Heap}{T:Tb}
def DR(F:Fun K x qual st f fd)(S:fj N ps (aM st))
  (body:∀ (cdv:Value) (A:Around) (outer:List Env) (s:Shared) (H:Hp) (E:XK),eH k (A.deeper (PyProof.Rows.envOfC qual (aM st) s.heap.objs.size f cdv)) ->
   SSs (fK (CXP P w) P w K mg base N qual (aM st) f cdv A outer s H E) T (WD T E) (cO st) m):dA P w K mg base (CXP P w) (k+1) f fd ps (spI T ps.length (i_ N.length m)):=by
 obtain⟨oc,od,kV,doc,pm,an,cdv,ct,osl,rfl,lk,hcd⟩:=F.ex
 refine BX lk hcd S (fun vs H Q E h=>h.1) fun A outer s H vs Q E hr hsp=>⟨_,body cdv A outer s H E hr,?_⟩
 obtain⟨_,v0,pvs,F,B,fl,hv0,R,hob,q⟩:=hsp
 obtain⟨fp,S0⟩:=ot N R (some v0) (fun v hv=>by cases hv;exact⟨hv0,hob⟩)
 refine⟨_,F,_,fp,S0,?_⟩
 unfold i_ at q
 cases e:m (pvs.map some++List.replicate (N.length - pvs.length) none)with
 | next e' =>
  rw[e]at q
  dsimp only at q
  intro F' H' σ' fp' S'
  obtain⟨h1,_⟩:=S'.pn v0 rfl
  cases e0:e'[0]? with
  | none=>rw[e0]at q;exact q.elim
  | some o0 =>
   cases o0 with
   | none=>rw[e0]at q;exact q.elim
   | some o =>
    rw[e0]at q
    obtain⟨v,h2,r⟩:=S'.rel 0 o e0
    rw[h1]at h2
    cases h2
    exact q F' H' (fp' 0) S'.hp r (S'.nd 0) (fun a ha=>(S'.dis 0 a ha).1) (S'.new 0)
 | ret v | brk e' | cont e'=>rw[e]at q;exact q.elim
 | exc c e'=>rw[e]at q;exact fun F' H' σ' fp' S'=>q H' S'.hp.keep
 | stuck=>rw[e]at q;exact q.elim
end
section
variable{X:Cx}{T:Tb}{W:Nat->St->Hp->Prop}{Z:Zn}{F F1 B L:Addr->Prop}{H H1:Hp}{Y:St}{env:En}{fp:Nat->List Addr}{D:Ends}
def Cr
  (M:Mk X.K (T.cls c) f) (hcn:c < T.nc) (G:dA X.prog X.w X.K X.mg X.base (CXP X.prog X.w) k f fd ps (spI T ps.length m)) (hr:eH (k+1) X.A) (hb:fM X.K fd ps ds) (hd:aP dvs ds) (hdp:∀F B L H,RelL T F B L H dps dvs []) (hx:XF X T W)
  (S:av T Z F H Y env fp) (g:Gr F H F1 H1) (r:RelL T F1 Z.B (Own fp) H1 xs vs fx) (nf:∀a∈fx,¬F1 a) (nd:fx.Nodup) (new:∀a∈fx,H a=none) (q:GE T W Z.B F (Own fp) Y H Q (aQ m (.obj .own c [] []::(xs++dps))))
  (I1:L2.Inv X js Y H1 s1) (rv:aP vs us) (hlen:vs.length+dvs.length+1=ps.length):wpAny (model X.prog X.w) X.A (call (.ref (T.cls c)) us) (EP X js Y Q) X.xe s1:=by
 have hxn:H1 (s1.heap.objs.size+1)=none:=I1.hok.fresh (Nat.le_succ _)
 have hdn:H1 s1.heap.objs.size=none:=I1.hok.fresh (Nat.le_refl _)
 have hne:s1.heap.objs.size≠s1.heap.objs.size+1:=Nat.ne_of_lt (Nat.lt_succ_self _)
 generalize hH2:upd (upd H1 s1.heap.objs.size (.own (s1.heap.objs.size+1))) (s1.heap.objs.size+1) (.ins (T.cls c) s1.heap.objs.size [])=H2
 have ext2:Ext H1 H2:=by
  rw[<- hH2]
  exact(Ext.upd hdn).trans (Ext.upd (by rw[aK hne.symm];exact hxn))
 have free2:∀a,H2 a=none->H1 a=none:=fun a h=>ext2.free h
 have hx2:H2 (s1.heap.objs.size+1)=some (.ins (T.cls c) s1.heap.objs.size []):=by rw[<- hH2];exact a5
 have I2:=L2.Inv.made (C:=T.cls c) I1
 rw[hH2]at I2
 have r2:aP (V.ref (s1.heap.objs.size+1)::(vs++dvs)) (Value.ref (s1.heap.objs.size+1)::(us++ds)):=.cons rfl (rv.append hd)
 have hl:(Value.ref (s1.heap.objs.size+1)::us++ds).length=ps.length:=by
  have e:=r2.length
  simp only[List.length_cons,List.length_append]at e hlen ⊢
  omega
 have rr:RelL T F1 Z.B (Own fp) H1 (xs++dps) (vs++dvs) fx:=by
  have:=RelL.append r (hdp F1 Z.B (Own fp) H1)
  rwa [List.append_nil]at this
 have nx:s1.heap.objs.size+1∉fx:=fun z=>by
  obtain⟨o,ho⟩:=r.there _ z
  rw[hxn]at ho;cases ho
 have hBo:∀a,Z.B a->(∃o,H2 a=some o)/\a ∉(s1.heap.objs.size+1)::fx:=fun a h=>by
  obtain⟨⟨o,h1⟩,h2⟩:=S.hp.bo a h
  have h3:=S.hp.keep a o h1 h2
  refine⟨⟨o,ext2 a o (g.ext a o h3)⟩,fun z=>?_⟩
  rcases List.mem_cons.mp z with z | z
  ·rw[z]at h3;rw[g.ext _ _ h3]at hxn;cases hxn
  ·rw[new a z]at h3;cases h3
 have hOw:∀a,Own fp a->(∃o,H2 a=some o)/\a ∉(s1.heap.objs.size+1)::fx:=fun a hz1=>by
  obtain⟨i,hi⟩:=hz1
  obtain⟨_,o,ho⟩:=S.dis i a hi
  refine⟨⟨o,ext2 a o (g.ext a o ho)⟩,fun z=>?_⟩
  rcases List.mem_cons.mp z with z | z
  ·rw[z]at ho;rw[g.ext _ _ ho]at hxn;cases hxn
  ·rw[new a z]at ho;cases ho
 have nF:¬F1 (s1.heap.objs.size+1):=fun z=>by
  obtain⟨o,ho⟩:=g.dom _ z
  rw[hxn]at ho;cases ho
 have R:vL T F1 (fun a=>(∃o,H2 a=some o)/\a ∉(s1.heap.objs.size+1)::fx) H2 (.obj .own c [] []::mapL Fl.toBor (xs++dps)) (.ref (s1.heap.objs.size+1)::(vs++dvs)) ((s1.heap.objs.size+1)::fx):=by
  refine⟨?_,List.nodup_cons.mpr ⟨nx,nd⟩,fun a ha=>?_,fun a h=>h,fun a h=>let⟨o,ho⟩:=g.dom a h;⟨o,ext2 a o ho⟩⟩
  ·unfold RelL
   refine⟨_,_,[s1.heap.objs.size+1],fx,rfl,?_,RelL.toBor hBo hOw (rr.ext ext2 fun _ h=>h),rfl⟩
   unfold Rel
   exact⟨_,s1.heap.objs.size,[],[],rfl,by simpa using hx2,⟨rfl,hcn⟩,by unfold RelL;exact⟨rfl,rfl⟩,rfl,True.intro⟩
  ·rcases List.mem_cons.mp ha with rfl | ha
   ·exact nF
   ·exact nf a ha
 have newx:∀a ∈(s1.heap.objs.size+1)::fx,H a=none:=fun a ha=>by
  rcases List.mem_cons.mp ha with rfl | ha
  ·exact g.ext.free hxn
  ·exact new a ha
 refine wpAny_call (xH (f:=f) I1.kIn M.makes M.init (beq_iff_eq.mp M.fn) (codeAny_mono (G.run _ X.stack _ _ ⟨Value.ref (s1.heap.objs.size+1)::us,[]⟩ (Value.ref (s1.heap.objs.size+1)::(us ++ ds)) _ (fun v H3=>v=.non/\Q (.ref (s1.heap.objs.size+1)) H3) (fun cls _ H'=>∃ c,cls=.ref (T.xcl c)/\W c Y H') (hr.make (T.cls c) us [])
  (I2.env0.make (T.cls c) us []) (hb _ (Value.ref (s1.heap.objs.size+1)::us) I2.kIn hl) r2 ⟨by rw[r2.length];exact hl,_,_,F1,_,_,rfl,R,⟨.own,c,[],[],rfl⟩,?_⟩) fun rs s' hq'=>?_))
 ·unfold aQ at q
  have e0:mapL Fl.toBor (PV.obj .own c [] []::(xs++dps))=.obj .own c [] []::mapL Fl.toBor (xs++dps):=by simp[mapL,PV.mapF,Fl.toBor]
  rw[e0]at q
  cases e:m (.obj .own c [] []::mapL Fl.toBor (xs++dps))with
  | ok v =>
   rw[e]at q
   dsimp only at q
   intro F3 H3 f3 hp3 r3 nd3 nf3 new3
   refine⟨rfl,?_⟩
   by_cases hbr:v.has Fl.isBor=true
   ·rw[if_pos hbr]at q;exact q.elim
   ·rw[if_neg hbr]at q
    have hbr':v.has Fl.isBor=false:=by simpa using hbr
    refine q _ H3 F3 f3 ⟨fun a o h=>hp3.keep a o (ext2 a o (g.ext a o h)) fun z=>(by rw[newx a z]at h;cases h),fun a h=>hp3.f0 a (g.mono a h),fun a h=>?_,hp3.ft⟩ ?_ nf3 nd3 fun a ha=>?_
    ·rcases hp3.fn a h with z | z | z
     ·exact g.only a z
     ·exact .inr (g.ext.free (free2 a z))
     ·exact .inr (newx a z)
    ·exact Rel.tr (fun _ h=>h) (fun _ h=>h) (fun _ h=>h.elim) (fun _ _ h _=>h) (fun _ _ _ h=>h) (Rel.noB (B':=Z.B) hbr' r3)
    ·rcases new3 a ha with z | z
     ·exact g.ext.free (free2 a z)
     ·exact newx a z
  | exc c' =>
   rw[e]at q
   exact fun H' h=>⟨c',rfl,q H' fun a o z=>h a o (ext2 a o (g.ext a o z)) fun z'=>by rw[newx a z']at z;cases z⟩
  | stuck=>rw[e]at q;exact q.elim
 ·cases rs with
  | error e =>
   obtain⟨cls,H',fl,c',rfl,hw⟩:=hq'
   exact hx js Y H2 _ c' H' e s' I2 fl hw
  | ok fl =>
   cases fl with
   | ret u =>
    obtain⟨v,H',I3,rv',ev,q3⟩:=I2.after hq'
    subst ev
    exact⟨rv',⟨V.ref (s1.heap.objs.size+1),H',I3,rfl,q3⟩⟩
   | next | brk | cont=>exact False.elim hq'
def Ad
  (M:Mk X.K (T.cls c) f) (hcn:c < T.nc) (G:dA X.prog X.w X.K X.mg X.base (CXP X.prog X.w) k f fd ps (spI T ps.length m)) (hr:eH (k+1) X.A) (hg:Gl X x) (hm:X.mg x=some (.ref (T.cls c))) (hb:fM X.K fd ps ds) (hd:aP dvs ds) (hdp:∀F B L H,RelL T F B L H dps dvs []) (hx:XF X T W)
  (hn:ie ms n) (hps:n+dvs.length+1=ps.length) (ha:SA X T W (e::es) ms)
  (hdb:(x ==("__debug__" : Str))=false:=by decide) (he:starEach (e::es) X.env=(false,eval e X.env)::starEach es X.env:=by rfl) (hpl:(backTo pos (starEach es X.env)).any (·.1)=false:=by rfl) :
  SE X T W (.Call (.Name x p) (e::es) [] pos) (aq (fun xs=>aQ m (.obj .own c [] []::(xs++dps))) ms):=by
 intro js s Y H Q I h
 obtain⟨Z,F,env,fp,S,q⟩:=h
 unfold aq at q
 refine wpAny_Call_Name_kw (jZ I hg hm ?_ hdb)
 refine PySem.W.callWith_K (h₀:=X.base) I.ok.mod.kin M.kp (thn (ha pos js s Y H (fun vs H1=>∀ us s1,L2.Inv X js Y H1 s1->aP vs us->wpAny (model X.prog X.w) X.A (call (.ref (T.cls c)) us) (EP X js Y Q) X.xe s1) I
  (tA.bind S (fun c e=>by rw[e]at q;exact q) (fun e=>by rw[e]at q;exact q) fun xs vs H1 F1 f1 e1 g1 r1 n1 d1 w1 us s1 I1 rv=>?_)) fun us s1 ⟨vs,H1,I1,r,q1⟩=>⟨I1.kIn,q1 us s1 I1 r⟩) he hpl
 rw[e1]at q
 exact Cr M hcn G hr hb hd hdp hx S g1 r1 n1 d1 w1 q I1 rv (by rw[<- r1.length,hn env xs e1];exact hps)
def av.mut(S:av T Z F H Y env fp)(hi:i < env.length)(hv:Y[i]?=some (some v))(ha:a∈fp i)(r:Rel T F Z.B NoL (upd H a o') pv' v f')(nd:f'.Nodup)(nf:∀b∈f',¬F b)
  (new:∀b∈f',Z.H0 b=none\/Z.fp0 b) (dj:∀b∈f',∀j,j≠i->b∉fp j) (ho:i=0->cK env=true->∃fl c ks xs,pv'=.obj fl c ks xs):av T Z F (upd H a o') Y (env.set i (some pv')) (br fp i f'):=by
 obtain⟨oa,hoa,hch⟩:=S.ch i a ha
 have nFa:¬F a:=(S.dis i a ha).1
 have nBa:¬Z.B a:=fun z=>S.bow a z ⟨i,ha⟩
 have ne:∀b u,H b=some u->(F b\/Z.B b\/NoL b\/fR u)->b≠a:=fun b u e h z=>by
  subst z
  rcases h with h | h | h | h
  ·exact nFa h
  ·exact nBa h
  ·exact h
  ·rw[hoa]at e
   cases e
   cases oa with
   | lst _ | ins _ _ _=>exact h
   | _=>exact hch
 have nz:∀b u,Z.H0 b=some u->¬Z.fp0 b->b≠a:=(by grind[br,av,ck,Gr])
 have nj:∀j,j≠i->∀b∈fp j,b≠a:=fun j hj b hb z=>by
  subst z
  exact S.dj j i hj _ hb ha
 refine⟨⟨S.hp.bo,fun b u e n=>by rw[aK (nz b u e n)];exact S.hp.keep b u e n,S.hp.f0,S.hp.fn,fun b h=>?_⟩,by rw[List.length_set,S.len],fun j pv e=>?_,fun j=>?_,fun j k hjk b hb=>?_,fun j b hb=>?_,fun j b hb=>?_,fun j b hb=>?_,fun w hw=>?_⟩
 ·obtain⟨u,e⟩:=S.hp.ft b h
  exact⟨u,by rw[aK (show b≠a from fun z=>nFa (by rw[<- z];exact h))];exact e⟩
 ·by_cases hj:j=i
  ·subst hj
   rw[List.getElem?_set_self hi]at e
   cases e
   refine⟨v,hv,?_⟩
   unfold br
   rw[if_pos rfl]
   exact r
  ·rw[List.getElem?_set_ne (Ne.symm hj)]at e
   obtain⟨w,h1,h2⟩:=S.rel j pv e
   refine⟨w,h1,?_⟩
   unfold br
   rw[if_neg hj]
   exact Rel.tr (fun _ h=>h) (fun _ h=>h) (fun _ h=>h) (fun b u q h=>by rw[aK (ne b u q h)];exact q) (fun b hb u q=>by rw[aK (nj j hj b hb)];exact q) h2
 ·unfold br;split
  ·exact nd
  ·exact S.nd j
 ·grind[br,av,ck,Gr]
 ·unfold br at hb
  by_cases h1:j=i
  ·rw[if_pos h1]at hb;exact⟨nf b hb,r.there b hb⟩
  ·rw[if_neg h1]at hb
   obtain⟨n,u,e⟩:=S.dis j b hb
   exact⟨n,u,by rw[aK (nj j h1 b hb)];exact e⟩
 ·unfold br at hb
  by_cases h1:j=i
  ·rw[if_pos h1]at hb;exact new b hb
  ·rw[if_neg h1]at hb;exact S.new j b hb
 ·unfold br at hb
  by_cases h1:j=i
  ·rw[if_pos h1]at hb;exact r.chg b hb
  ·rw[if_neg h1]at hb
   obtain⟨u,e,c⟩:=S.ch j b hb
   exact⟨u,by rw[aK (nj j h1 b hb)];exact e,c⟩
 ·obtain⟨h1,h2⟩:=S.pn w hw
  refine⟨h1,?_⟩
  by_cases hi0:i=0
  ·obtain⟨fl,c,ks,xs,e⟩:=ho hi0 h2
   subst hi0 e
   unfold cK
   rw[List.getElem?_set_self hi]
  ·unfold cK at h2 ⊢
   rw[List.getElem?_set_ne hi0]
   exact h2
def gj(i k:Nat)(e:ME):MS:=fun env=>match e env with
 | .ok v=>(match env[i]? with
  | some (some (.obj .own c ks vs))=>if v.noLnt&&!ks.contains k&&decide (ks.length < 900)then .next (env.set i (some (.obj .own c (ks++[k]) (vs++[v]))))else .stuck
  | _=>.stuck)
 | .exc c=>.exc c env
 | .stuck=>.stuck
def pX:∀{ks:List Nat}{ws:List V},ks.contains k=false->ks.length=ws.length->gH (T.att k) y ((ks.map T.att).zip ws)=((ks++[k]).map T.att).zip (ws++[y])
 | [],[],_,_=>rfl
 | j::ks,w::ws,h,hl=>by
  simp only[List.contains_cons,Bool.or_eq_false_iff,beq_eq_false_iff_ne]at h
  show gH (T.att k) y ((T.att j,w)::(ks.map T.att).zip ws)=(T.att j,w)::((ks++[k]).map T.att).zip (ws++[y])
  unfold gH
  rw[if_neg (fun z=>h.1 (T.inj _ _ z).symm),pX h.2 (by simpa using hl)]
 | [],_::_,_,hl | _::_,[],_,hl=>by simp at hl
def Cf(hK:X.K=T.K)(hf:T.att k=f)(hc:∀c < T.nc,Cls T.K (T.cls c))(hn:∀c < T.nc,eW T.K (T.cls c) f)(hN:X.N[i]?=some x)(hv:Vis X.env.scope x)(he:SE X T W e m)
  (hs:swapsWith e (some (.Attribute (.Name x px) f pos')) pos.line X.env=pure false:=by rfl) (hd:(x ==("__debug__" : Str))=false:=by decide) (hcd:(x ==("__classdict__" : Str))=false:=by decide) :
  SS X T W (.Assign [.Attribute (.Name x px) f pos'] e pos) (gj i k m):=PS.wk (CC (pos:=pos) (pos':=pos') (dy (pos:=px) hN hv hd hcd) he hs) fun D Y H hz1=>by
 obtain⟨Z,F,env,fp,S,q⟩:=hz1
 unfold gj at q
 refine tE.bind S (fun c e H' x=>?_) (fun e=>by rw[e]at q;exact q) fun pv v H1 F1 f1 e g r h1 h2 h3=>?_
 ·rw[e]at q
  exact q F H' Y fp (S.grow (Gr.same S.hp.ft x))
 ·rw[e]at q
  dsimp only at q
  split at q
  ·rename_i c ks vs eo
   split at q
   ·rename_i hcnd
    simp only[Bool.and_eq_true,Bool.not_eq_true',decide_eq_true_eq]at hcnd
    obtain⟨⟨hln,hkn⟩,hkl⟩:=hcnd
    have S1:=S.grow g
    obtain⟨vo,ho1,ho2⟩:=S1.rel i _ eo
    have ho3:=ho2
    unfold Rel at ho3
    obtain⟨a,dx,ws,fp',rfl,hl,hk,hr,hfl,_⟩:=ho3
    have hfl':fp i=a::fp':=hfl
    have hil:i < env.length:=(List.getElem?_eq_some_iff.mp eo).1
    refine⟨_,ho1,a,_,dx,_,rfl,hl,by rw[hK];exact hc c hk.2,by rw[hK];exact hn c hk.2,?_,?_⟩
    ·have:=hr.length
     rw[List.length_zip,List.length_map]
     omega
    ·rw[<- hf,pX hkn (by rw[<- hr.length];exact hk.1)]
     have ha:a∈fp i:=by rw[hfl'];exact List.mem_cons_self
     have nd:(a::fp').Nodup:=by rw[<- hfl'];exact S1.nd i
     have old:∀b∈f1,∀j,b∉fp j:=fun b hb j hj=>by
      obtain⟨_,o,e⟩:=S.dis j b hj
      rw[h3 b hb]at e;cases e
     have hrv:Rel T F1 Z.B NoL H1 pv v f1:=Rel.noL (by simpa[PV.noLnt]using hln) r
     have nea:∀b u,H1 b=some u->(F1 b\/Z.B b\/NoL b\/fR u)->b≠a:=fun b u e h z=>by
      subst z
      rcases h with h | h | h | h
      ·exact(S1.dis i _ ha).1 h
      ·exact S1.bow _ h ⟨i,ha⟩
      ·exact h
      ·rw[hl]at e;cases e;exact h
     refine q F1 _ Y _ (S1.mut (f':=a::(fp'++f1)) hil ho1 ha ?_ ?_ (fun b hb=>?_) (fun b hb=>?_) (fun b hb j hj=>?_) fun _ _=>⟨_,_,_,_,rfl⟩)
     ·unfold Rel
      have hrr:RelL T F1 Z.B NoL H1 (vs++[pv]) (ws++[v]) (fp'++f1):=RelL.append hr (by unfold RelL;exact⟨v,[],f1,[],rfl,hrv,by unfold RelL;exact⟨rfl,rfl⟩,by simp⟩)
      refine⟨a,dx,ws++[v],fp'++f1,rfl,a5,⟨by simp[hk.1],hk.2⟩,?_,rfl,True.intro⟩
      refine RelL.tr (fun _ h=>h) (fun _ h=>h) (fun _ h=>h) (fun b u e h=>by rw[aK (nea b u e h)];exact e) (fun b hb u e=>?_) hrr
      refine(aK fun z=>?_).trans e
      grind
     ·grind
     ·grind[br,av,ck,Gr]
     ·rcases List.mem_cons.mp hb with rfl | hb
      ·exact S1.new i _ ha
      ·rcases List.mem_append.mp hb with hb | hb
       ·exact S1.new i b (by rw[hfl'];exact List.mem_cons_of_mem _ hb)
       ·exact S.hp.newE h3 b hb
     grind[br,av,ck,Gr]
   ·exact q.elim
  ·exact q.elim
def av.mutL{i:Nat}{xs ys:List PV}{ws us:List V}{a:Addr}{v:V}{f' fp':List Addr}(S:av T Z F H Y env fp)(eo:env[i]?=some (some (.lst .own xs)))(hv:Y[i]?=some (some (.ref a)))(hfp:fp i=a::fp')(r:RelL T F Z.B NoL H ys us f')(nd:f'.Nodup)
  (hf:∀b∈f',(b∈fp')\/(¬F b/\(Z.H0 b=none\/Z.fp0 b)/\∀j,b∉fp j)) (hl:H a=some (.lst ws)):av T Z F (upd H a (.lst us)) Y (env.set i (some (.lst .own ys))) (br fp i (a::f')):=by
 have ha:a∈fp i:=by rw[hfp];exact List.mem_cons_self
 have ndi:(a::fp').Nodup:=by rw[<- hfp];exact S.nd i
 have sub:∀b∈fp',b∈fp i:=fun b hb=>by rw[hfp];exact List.mem_cons_of_mem _ hb
 have na:∀b∈f',b≠a:=(by grind)
 have hil:i < env.length:=(List.getElem?_eq_some_iff.mp eo).1
 have nea:∀b u,H b=some u->(F b\/Z.B b\/NoL b\/fR u)->b≠a:=fun b u e h z=>by
  subst z
  rcases h with h | h | h | h
  ·exact(S.dis i _ ha).1 h
  ·exact S.bow _ h ⟨i,ha⟩
  ·exact h
  ·rw[hl]at e;cases e;exact h
 refine S.mut hil hv ha ?_ (List.nodup_cons.mpr ⟨fun z=>na a z rfl,nd⟩) (fun b hb=>?_) (fun b hb=>?_) (fun b hb j hj=>?_) fun h0 h1=>?_
 ·unfold Rel
  exact⟨a,us,f',rfl,a5,RelL.tr (fun _ h=>h) (fun _ h=>h) (fun _ h=>h) (fun b u e h=>by rw[aK (nea b u e h)];exact e) (fun b hb u e=>by rw[aK (na b hb)];exact e) r,rfl⟩
 ·rcases List.mem_cons.mp hb with rfl | hb
  ·exact(S.dis i _ ha).1
  ·rcases hf b hb with h | h
   ·exact(S.dis i b (sub b h)).1
   ·exact h.1
 ·grind[br,av,ck,Gr]
 ·grind[br,av,ck,Gr]
 ·subst h0
  unfold cK at h1
  rw[eo]at h1
  cases h1
def av.lst{i:Nat}{xs:List PV}(S:av T Z F H Y env fp)(eo:env[i]?=some (some (.lst .own xs))):∃a ws fp',Y[i]?=some (some (.ref a))/\H a=some (.lst ws)/\RelL T F Z.B NoL H xs ws fp'/\fp i=a::fp':=by
 obtain⟨v,h1,h2⟩:=S.rel i _ eo
 unfold Rel at h2
 obtain⟨a,ws,fp',rfl,hl,hr,hf⟩:=h2
 exact⟨a,ws,fp',h1,hl,hr,hf⟩
def av.beside{f1:List Addr}(S:av T Z F H Y env fp)(g:Gr F H F1 H1)(h1:∀ a ∈ f1,¬ F1 a)(h3:∀ a ∈ f1,H a=none):∀ b ∈ f1,¬ F1 b/\(Z.H0 b=none \/ Z.fp0 b)/\∀ j,b ∉ fp j:=fun b hb=>⟨h1 b hb,S.hp.newE h3 b hb,fun j hj=>by
 obtain⟨_,o,e⟩:=S.dis j b hj
 rw[h3 b hb]at e;cases e⟩
def d7(i:Nat)(e:ME):MS:=fun env=>match e env with
 | .ok v=>(match env[i]? with
  | some (some (.lst .own xs))=>if v.noLnt&&decide (xs.length < 10000000)then .next (env.set i (some (.lst .own (xs++[v]))))else .stuck
  | _=>.stuck)
 | .exc c=>(match env[i]? with
  | some (some (.lst .own _))=>.exc c env
  | _=>.stuck)
 | .stuck=>.stuck
def ur{i:Nat}{x:Str}{e:Expr}{m:ME}{pos px apos cpos:Pos}(hK:X.K=T.K)(hN:X.N[i]?=some x)(hv:Vis X.env.scope x)(he:SE X T W e m)
  (hs:swapsWith (.Call (.Attribute (.Name x px) "append" apos) [e] [] cpos) none pos.line X.env=pure false:=by rfl) (hst:starEach [e] X.env=[(false,eval e X.env)]:=by rfl)
  (hfew:((backTo cpos (starEach [e] X.env)).all (fun x=>!x.1)&&(backToKw cpos (keywordEach [] X.env)).all (fun x=>x.1.isSome)&&decide ([e].length+([]:List Keyword).length+(if([]:List Keyword).isEmpty then 0 else 1) < 30))=true:=by rfl)
  (hline:(apos.endLine==cpos.line)=true:=by rfl) (hd:(x ==("__debug__" : Str))=false:=by decide) (hcd:(x ==("__classdict__" : Str))=false:=by decide) :
  SS X T W (.Expr (.Call (.Attribute (.Name x px) "append" apos) [e] [] cpos) pos) (d7 i m) :=
 PS.wk (iW (pos:=pos) (qb (cpos:=cpos) (apos:=apos) PySem.F.plainAttrs_list PySem.F.slot_list_append PySem.F.type_list_append i3 (dy (pos:=px) hN hv hd hcd) (aa he ag hst) rfl hfew hline hst) hs) fun D Y H hz1=>by
  obtain⟨Z,F,env,fp,S,q⟩:=hz1
  unfold d7 at q
  cases em:m env with
  | stuck=>rw[em]at q;exact q.elim
  | exc c =>
   rw[em]at q
   dsimp only at q
   split at q
   ·rename_i xs eo
    obtain⟨a,ws,fp',h1,hl,hr,hf⟩:=S.lst eo
    refine⟨_,h1,.inl ⟨rfl,ws,by rw[hK];exact SqL.of hl⟩,Z,F,env,fp,S,?_⟩
    unfold ae
    rw[em]
    exact fun H' x=>q F H' Y fp (S.grow (Gr.same S.hp.ft x))
   ·exact q.elim
  | ok v =>
   rw[em]at q
   dsimp only at q
   split at q
   ·rename_i xs eo
    split at q
    ·rename_i hc
     simp only[Bool.and_eq_true,decide_eq_true_eq]at hc
     obtain⟨a,ws,fp',h1,hl,hr,hf⟩:=S.lst eo
     refine⟨_,h1,.inl ⟨rfl,ws,by rw[hK];exact SqL.of hl⟩,Z,F,env,fp,S,?_⟩
     unfold ae am
     rw[em]
     intro vs H1 F1 f1 g r n1 d1 w1
     obtain⟨u,rfl,ru⟩:=r.one
     have S1:=S.grow g
     have hl1:=g.ext a _ hl
     refine⟨a,ws,u,rfl,rfl,hl1,?_,?_⟩
     ·rw[<- hr.length,sizeLine_eq];omega
     ·have rone:RelL T F1 Z.B NoL H1 [v] [u] f1:=by unfold RelL;exact⟨u,[],f1,[],rfl,Rel.noL (by simpa[PV.noLnt]using hc.1) ru,by unfold RelL;exact⟨rfl,rfl⟩,by simp⟩
      refine q F1 _ Y _ (S1.mutL (v:=u) eo h1 hf (RelL.append (hr.ext g.ext g.mono) rone) ?_ (fun b hb=>?_) hl1)
      ·have ndi:(a::fp').Nodup:=by rw[<- hf];exact S.nd i
       refine List.nodup_append.mpr ⟨(List.nodup_cons.mp ndi).2,d1,fun b hb b' hb' z=>?_⟩
       subst z
       exact(S.beside g n1 w1 b hb').2.2 i (by rw[hf];exact List.mem_cons_of_mem _ hb)
      ·rcases List.mem_append.mp hb with hb | hb
       ·exact .inl hb
       ·exact .inr (S.beside g n1 w1 b hb)
    ·exact q.elim
   ·exact q.elim
def jq(i:Nat)(k e:ME):MS:=fun env=>match e env with
 | .ok v=>(match env[i]? with
  | some (some (.lst .own xs))=>(match k env with
   | .ok (.int j)=>(match ixN xs.length j with
    | some n=>if v.noLnt then .next (env.set i (some (.lst .own (xs.set n v))))else .stuck
    | none=>.stuck)
   | _=>.stuck)
  | _=>.stuck)
 | .exc c=>.exc c env
 | .stuck=>.stuck
def RelL.set{y:PV}{w:V}{g:List Addr}(ry:Rel T F B L H y w g):∀{xs:List PV}{vs:List V}{f:List Addr} (n:Nat),RelL T F B L H xs vs f->(f++g).Nodup->∃f',RelL T F B L H (xs.set n y) (vs.set n w) f'/\f'.Nodup/\∀b∈f',b∈f\/b∈g
 | [],vs,f,n,h,nd=>by unfold RelL at h;obtain⟨rfl,rfl⟩:=h;exact⟨[],by simp[RelL],List.nodup_nil,fun _ z=>(nomatch z)⟩
 | x::xs,_,_,0,h,nd=>by
  unfold RelL at h
  obtain⟨v,ws,f1,f2,rfl,h1,h2,rfl⟩:=h
  obtain⟨n1,n2,n3⟩:=List.nodup_append.mp nd
  obtain⟨m1,m2,m3⟩:=List.nodup_append.mp n1
  refine⟨g++f2,?_,(by grind),fun b hb=>?_⟩
  ·rw[List.set_cons_zero,List.set_cons_zero]
   unfold RelL
   exact⟨w,ws,g,f2,rfl,ry,h2,rfl⟩
  grind
 | x::xs,_,_,n+1,h,nd=>by
  unfold RelL at h
  obtain⟨v,ws,f1,f2,rfl,h1,h2,rfl⟩:=h
  obtain⟨n1,n2,n3⟩:=List.nodup_append.mp nd
  obtain⟨m1,m2,m3⟩:=List.nodup_append.mp n1
  obtain⟨f',r,d,s⟩:=RelL.set ry n h2 (List.nodup_append.mpr ⟨m2,n2,fun a ha b hb=>n3 a (List.mem_append_right _ ha) b hb⟩)
  refine⟨f1++f',?_,List.nodup_append.mpr ⟨m1,d,fun a ha b hb z=>?_⟩,fun b hb=>?_⟩
  ·rw[List.set_cons_succ,List.set_cons_succ]
   unfold RelL
   exact⟨v,_,f1,f',rfl,h1,r,rfl⟩
  ·grind
  grind
def pL{i:Nat}{x:Str}{k e:Expr}{mk me:ME}{pos px tpos:Pos}(hN:X.N[i]?=some x)(hv:Vis X.env.scope x)(hk:SE X T W k mk)(he:SE X T W e me)
  (ha:∀ v,assign (.Subscript (.Name x px) k tpos) X.env v=(do
   let ov <- holding [v] (eval (.Name x px) X.env)
   let iv <- holding [v,ov] (eval k X.env)
   standAt tpos
   holding [v,ov,iv] (setItem ov iv v)
   release [v,ov,iv] []):=by intro _;rfl)
  (hs:swapsWithSole [.Subscript (.Name x px) k tpos] e pos.line X.env=pure false:=by rfl) (hw:swappedStores [.Subscript (.Name x px) k tpos] e X.env=pure none:=by rfl)
  (h1:(assignEach [.Subscript (.Name x px) k tpos] X.env).map (·.2)=[assign (.Subscript (.Name x px) k tpos) X.env]:=by rfl) (hd:(x ==("__debug__" : Str))=false:=by decide) (hcd:(x ==("__classdict__" : Str))=false:=by decide) :
  SS X T W (.Assign [.Subscript (.Name x px) k tpos] e pos) (jq i mk me) :=
 PS.wk (CD (pos:=pos) he (CH (pos:=tpos) (dy (pos:=px) hN hv hd hcd) hk wa ha) hs hw h1) fun D Y H hz1=>by
  obtain⟨Z,F,env,fp,S,q⟩:=hz1
  unfold jq at q
  refine tE.bind S (fun c e H' x=>?_) (fun e=>by rw[e]at q;exact q) fun pv v H1 F1 f1 e g r n1 d1 w1=>?_
  ·rw[e]at q
   exact q F H' Y fp (S.grow (Gr.same S.hp.ft x))
  ·rw[e]at q
   dsimp only at q
   split at q
   ·rename_i xs eo
    have S1:=S.grow g
    obtain⟨a,ws,fp',h1,hl,hr,hf⟩:=S1.lst eo
    cases ek:mk env with
    | stuck | exc c=>rw[ek]at q;exact q.elim
    | ok kv =>
     rw[ek]at q
     refine⟨_,h1,Z,F1,env,fp,S1,?_⟩
     rw[ek]
     intro u H2 F2 f2 g2 r2 _ _ _
     cases kv with
     | int j =>
      dsimp only at q
      unfold Rel at r2
      obtain⟨rfl,_⟩:=r2
      cases en:ixN xs.length j with
      | none=>rw[en]at q;exact q.elim
      | some n =>
       rw[en]at q
       dsimp only at q
       split at q
       ·rename_i hln
        have S2:=S1.grow g2
        have hr2:=hr.ext g2.ext g2.mono
        have ndi:(a::fp').Nodup:=by rw[<- hf];exact S.nd i
        have g12:=g.trans g2
        have nn:∀b∈f1,¬F2 b:=fun b hb z=>by
         rcases g2.only b z with z | z
         ·exact n1 b hb z
         ·obtain⟨o,ho⟩:=r.there b hb
          rw[ho]at z;cases z
        obtain ⟨f',r',nd',sub'⟩:=RelL.set (T:=T) (Rel.noL (L':=NoL) (by simpa [PV.noLnt] using hln) (r.ext g2.ext g2.mono)) n hr2 (List.nodup_append.mpr ⟨(List.nodup_cons.mp ndi).2,d1,fun b hb b' hb' z=>by
         subst z
         exact(S.beside g12 nn w1 b hb').2.2 i (by rw[hf];exact List.mem_cons_of_mem _ hb)⟩)
        refine⟨a,ws,j,n,rfl,rfl,g2.ext a _ hl,by rw[<- hr.length];exact en,?_⟩
        refine q F2 _ Y _ (S2.mutL (v:=v) eo h1 hf r' nd' (fun b hb=>?_) (g2.ext a _ hl))
        rcases sub' b hb with h | h
        ·exact .inl h
        ·exact .inr (S.beside g12 nn w1 b h)
       ·exact q.elim
     | _=>exact q.elim
   ·exact q.elim
end
def AS(i:Nat):Str:=⟨#[1114112+i]⟩
def jh(l:List Str)(i:Nat):Str:=match l[i]? with
 | some x=>x
 | none=>AS i
def kj(x:Str):Bool:=x.cps.all fun c=>decide (c < 1114112)
def fX(i:Nat):kj (AS i)=false:=by
 simp[kj,AS]
def vH(nd:l.Nodup)(h:l.all kj=true)(i j:Nat)(e:jh l i=jh l j):i=j:=by
 have pl:∀(i:Nat) x,l[i]?=some x->kj x=true:=fun i x hx=>List.all_eq_true.mp h x (List.mem_of_getElem? hx)
 unfold jh at e
 cases ei:l[i]? with
 | some x =>
  cases ej:l[j]? with
  | some y =>
   rw[ei,ej]at e
   dsimp only at e
   subst e
   obtain⟨h1,e1⟩:=List.getElem?_eq_some_iff.mp ei
   obtain⟨h2,e2⟩:=List.getElem?_eq_some_iff.mp ej
   exact(List.getElem_inj nd).mp (e1.trans e2.symm)
  | none =>
   rw[ei,ej]at e
   dsimp only at e
   have:=pl i x ei
   rw[e,fX]at this
   cases this
 | none =>
  cases ej:l[j]? with
  | some y =>
   rw[ei,ej]at e
   dsimp only at e
   have:=pl j y ej
   rw[<- e,fX]at this
   cases this
  | none =>
   rw[ei,ej]at e
   dsimp only at e
   simpa[AS]using e
def qU(hp:kj m=true)(hm:m∉l)(k:Nat):jh l k≠m:=by
 unfold jh
 cases e:l[k]? with
 | some x=>exact fun z=>hm (z▸List.mem_of_getElem? e)
 | none =>
  intro z
  dsimp only at z
  rw[<- z,fX]at hp
  cases hp
structure Ctx(X:Cx)(T:Tb)(W:Nat->St->Hp->Prop)(k:Nat):Prop where
 hK:X.K=T.K
 calm:X.calm=true
 room:eH k X.A
 xf:XF X T W
 po:PassesOwn (model X.prog X.w) X.A X.env X.xe
def Ctx.hu(c:Ctx X T W k):X.A.units+64 < cLine:=c.room.units
def Ctx.hu2(c:Ctx X T W k):X.A.units+66 < cLine:=by
 have:=c.room.un
 omega
def uh
  (hr:eH k (A.deeper (PyProof.Rows.envOfC qual scope s.heap.objs.size f cd))):Ctx (fK (CXP P w) P w T.K mg base N qual scope f cd A outer s H E) T (WD T E) k:=⟨rfl,rfl,hr,B6,PassesOwn.leaving⟩
def Ctx.comp(c:Ctx X T W k):Ctx (cxC X scope C N s H ex) T WF k:=⟨c.hK,c.calm,c.room,fun _ _ _ _ _ _ _ _ _ _ h=>h.elim,PassesOwn.never⟩
def mR(scD scope:Scope)(NX:List Str)(caps:List Nat)(N tn:List Str):Bool :=
 decide (scope.kind=.function)&&scope.names.all (fun y=>decide (y.2=.cell->scope.names.lookup y.1=some .cell))&&scope.names.all (fun y=>decide (y.2=.local->scope.names.lookup y.1=some .local)) &&
 scope.names.all (fun y=>decide (y.2=.free->scD.names.lookup y.1=some .cell\/scD.names.lookup y.1=some .free))&&decide (N=caps.map (fun i=>NX.getD i "")++ tn)&&caps.all (fun i=>decide (i < NX.length)) &&
 caps.all (fun i=>match NX[i]? with | some x=>decide ((x,NameKind.free)∈ scope.names/\scope.names.lookup x=some .free) | none=>false)&&decide N.Nodup
def By(h:mR scD scope NX caps N tn=true)(hs:X.env.scope=scD)(hN:X.N=NX):eJ X scope caps N tn:=by
 simp only[mR,Bool.and_eq_true,decide_eq_true_eq,List.all_eq_true]at h
 obtain⟨⟨⟨⟨⟨⟨⟨h1,h2⟩,h3⟩,h4⟩,h5⟩,h6⟩,h7⟩,h9⟩:=h
 subst hs hN
 refine⟨h1,h2,h3,h4,h5,h6,fun i hi x hx=>?_,h9⟩
 have:=h7 i hi
 rw[hx]at this
 simpa using this
section
variable{X:Cx}{T:Tb}{W:Nat->St->Hp->Prop}
def sv(i:Nat)(hN:X.N[i]?=some x:=by rfl)(hv:Vis X.env.scope x:=by first | exact Or.inl rfl | exact Or.inr (Or.inl rfl) | exact Or.inr (Or.inr rfl))(hd:(x ==("__debug__" : Str))=false:=by decide)
  (hcd:(x ==("__classdict__" : Str))=false:=by decide):SE X T W (.Name x pos) (ac i):=Ci hN hv hd hcd
def tyP:PV->String
 | .non => "NoneType"
 | .bl _ => "bool"
 | .int _ => "int"
 | .str _ => "str"
 | .lst _ _ => "list"
 | .tup _ => "tuple"
 | _ => ""
def mf(t c:String):Bool:=t==c ||(t=="bool"&&c=="int")
def lS(c:String):PV->Res PV:=fun x=>if tyP x = "" then .stuck else .ok (.bl (mf (tyP x) c))
def lC(m:ME)(c:String):ME:=fun env=>(m env).bind (lS c)
def vJ(K:PySem.W.Frag)(c:String):Prop:=∀t∈["NoneType", "bool", "int", "str", "list", "tuple"],PySem.W.kitOne K (.type t) (.type c)=some (mf t c)
def A_(hK:X.K=T.K)(hc:vJ T.K c)(I:L2.Inv X js Y H s)(r:Rel T F B L H x v f)(ru:bu v u)(hx:tyP x≠"")
  (h:∀tk,Q (.bool (mf (tyP x) c)) { s with toks:=tk }):wpAny (model X.prog X.w) A (call (.builtin "isinstance") [u,.type c]) Q E s:=by
 have kin:T.K.In s.heap:=by rw[<- hK];exact I.kIn
 cases x with
 | non=>unfold Rel at r;obtain⟨rfl,_⟩:=r;cases ru;exact PySem.W.kia_one PySem.W.kitx_none kin True.intro (hc _ (by simp)) (fun z=>nomatch z) h
 | bl b=>unfold Rel at r;obtain⟨rfl,_⟩:=r;cases ru;exact PySem.W.kia_one PySem.W.kitx_bool kin True.intro (hc _ (by simp)) (fun z=>nomatch z) h
 | int i=>unfold Rel at r;obtain⟨rfl,_⟩:=r;obtain⟨t,rfl⟩:=ru;exact PySem.W.kia_one PySem.W.kitx_int kin True.intro (hc _ (by simp)) (fun z=>nomatch z) h
 | str i=>unfold Rel at r;obtain⟨rfl,_⟩:=r;obtain⟨t,rfl⟩:=ru;exact PySem.W.kia_one PySem.W.kitx_str kin True.intro (hc _ (by simp)) (fun z=>nomatch z) h
 | lst f xs =>
  unfold Rel at r
  obtain⟨a,vs,fp',rfl,hl,hr,_⟩:=r
  cases ru
  obtain⟨its,_,⟨o,n,ho,hcl,_,_⟩,_⟩:=I.list (by rw[hK];exact hl.sq)
  exact PySem.W.kia_one PySem.W.kitx_list kin ⟨_,ho,hcl⟩ (hc _ (by simp)) (fun z=>nomatch z) h
 | tup xs =>
  unfold Rel at r
  obtain⟨a,vs,rfl,hl,hr⟩:=r
  cases ru
  obtain⟨its,_,⟨o,ho,hcl,_⟩,_⟩:=I.tuple (by rw[hK];exact hl)
  exact PySem.W.kia_one PySem.W.kitx_tuple kin ⟨_,ho,hcl⟩ (hc _ (by simp)) (fun z=>nomatch z) h
 | obj f c ks xs | exc c | box k xs=>exact absurd rfl hx
def kh(hK:X.K=T.K)(hc:vJ T.K c)(hg:Gl X "isinstance")(hm:X.mg "isinstance" = none)(hb:bootBuiltins "isinstance" = some (.builtin "isinstance"))(hgc:Gl X cn)(hmc:X.mg cn=none)(hvc:bootBuiltins cn=some (.type c))(he:SE X T W e m)
  (hcn:cn≠"__name__" := by decide) (hcd:(cn ==("__debug__" : Str))=false:=by decide) (hst:starEach [e,.Name cn pc] X.env=[(false,eval e X.env),(false,eval (.Name cn pc) X.env)]:=by rfl)
  (hst2:starEach [.Name cn pc] X.env=[(false,eval (.Name cn pc) X.env)]:=by rfl):SE X T W (.Call (.Name "isinstance" p) [e,.Name cn pc] [] pos) (lC m c):=by
 have ht:PE X (.Name cn pc) (tC (.ty c)):=AH hgc hmc hvc rfl hcn hcd
 have hcall:eZ X (.builtin "isinstance") (fun vs H Q=>∃v x F B L f,vs=[v,.ty c]/\Rel T F B L H x v f/\tyP x≠"" /\ Q (.bl (mf (tyP x) c)) H):=by
  intro js s Y H vs us Q I rv h
  obtain⟨v,x,F,B,L,f,rfl,r,hx,q⟩:=h
  cases rv with
  | cons r1 r2 =>
   cases r2 with
   | cons r3 r4 =>
    cases r4
    cases r3
    exact A_ hK hc I r r1 hx fun tk=>⟨.bl _,H,I.tok tk,rfl,q⟩
 have hargs:PA X [e,.Name cn pc] (sQ (tE T W m) (sQ (tC (.ty c)) Ca)):=dD he (dD ht gK hst2) (by rw[hst,hst2])
 refine PE.wk (lP (pos:=pos) (p:=p) hcall hg hm hb hargs (he:=by rw[hst,hst2]) (hpl:=by rw[hst2];rfl)) fun Y H Q hz1=>?_
 obtain⟨Z,F,env,fp,S,q⟩:=hz1
 unfold lC at q
 refine tE.bind S (fun c e=>by rw[e]at q;exact q) (fun e=>by rw[e]at q;exact q) fun x v H1 F1 f1 e1 g1 r1 n1 d1 w1=>?_
 rw[e1]at q
 simp only[Res.ok_bind,lS]at q
 by_cases hx:tyP x = ""
 ·rw[if_pos hx]at q;exact q.elim
 ·rw[if_neg hx]at q
  exact⟨v,x,F1,Z.B,Own fp,f1,rfl,r1,hx,q.scal g1 kX⟩
def iH(f g:PV->PV->Res PV)(a b c:ME):ME:=fun env=>(a env).bind fun x=>(b env).bind fun y=>(f x y).bind fun
 | .bl true=>(c env).bind fun z=>g y z
 | .bl false=>.ok (.bl false)
 | _=>.stuck
def nA{f f':Int->Int->Bool}(h:tE T W (iH (di fun i j=>.bl (f i j)) (di fun i j=>.bl (f' i j)) ma mb mc) Y H Q) :
  q_ (rI0 fun i j=>.bl (f i j)) (rI0 fun i j=>.bl (f' i j)) (tE T W ma) (tE T W mb) (tE T W mc) Y H Q:=by
 obtain⟨Z,F,env,fp,S,q⟩:=h
 unfold iH at q
 refine tE.bind S (fun c e=>by rw[e]at q;exact q) (fun e=>by rw[e]at q;exact q) fun x v H1 F1 f1 e1 g1 r1 n1 d1 w1=>?_
 rw[e1]at q
 simp only[Res.ok_bind]at q
 refine tE.bind (S.grow g1) (fun c e=>by rw[e]at q;exact fun H' x=>q H' (g1.ext.trans x)) (fun e=>by rw[e]at q;exact q) fun y u H2 F2 f2 e2 g2 r2 n2 d2 w2=>?_
 rw[e2]at q
 simp only[Res.ok_bind]at q
 cases x<;>cases y<;>first
  | exact q.elim
  | skip
 rename_i i j
 unfold Rel at r1 r2
 obtain⟨rfl,_⟩:=r1
 obtain⟨rfl,_⟩:=r2
 refine⟨i,j,rfl,rfl,f i j,rfl,?_⟩
 simp only[di,Res.ok_bind]at q
 cases hb:f i j with
 | false =>
  rw[hb]at q
  exact(if_neg (by decide)).mpr (q.scal (g1.trans g2) kX)
 | true =>
  rw[hb]at q
  dsimp only at q
  refine(if_pos rfl).mpr ?_
  refine tE.bind ((S.grow g1).grow g2) (fun c e=>by rw[e]at q;exact fun H' x=>q H' ((g1.ext.trans g2.ext).trans x)) (fun e=>by rw[e]at q;exact q) fun z w H3 F3 f3 e3 g3 r3 n3 d3 w3=>?_
  rw[e3]at q
  simp only[Res.ok_bind]at q
  cases z with
  | int k =>
   unfold Rel at r3
   obtain⟨rfl,_⟩:=r3
   exact⟨j,k,rfl,rfl,q.scal ((g1.trans g2).trans g3) kX⟩
  | _=>exact q.elim
def wg{f f':Int->Int->Bool}(ho:OpR X (compareOp op) (rI0 fun i j=>.bl (f i j)))(ho':OpR X (compareOp op') (rI0 fun i j=>.bl (f' i j)))(ha:SE X T W a ma)(hb:SE X T W b mb)(hc:SE X T W c mc)
  (hm:lastMarks [op,op'] [b,c]=false:=by with_unfolding_all rfl):SE X T W (.Compare a [op,op'] [b,c] pos) (iH (di fun i j=>.bl (f i j)) (di fun i j=>.bl (f' i j)) ma mb mc):=PE.wk (wQ (pos:=pos) ho ho' ha hb hc hm) fun Y H Q h=>nA h
def vZ{f f':Int->Int->Bool}(ho:OpR X (compareOp op) (rI0 fun i j=>.bl (f i j)))(ho':OpR X (compareOp op') (rI0 fun i j=>.bl (f' i j)))(ha:SE X T W a ma)(hb:SE X T W b mb)(hc:SE X T W c mc)
  (hm:lastMarks [op,op'] [b,c]=false:=by with_unfolding_all rfl):ST X T W (.Compare a [op,op'] [b,c] pos) (aA (iH (di fun i j=>.bl (f i j)) (di fun i j=>.bl (f' i j)) ma mb mc)):=PT.wk (wz (pos:=pos) ho ho' ha hb hc hm) fun Y H Q h=>nA (tT.test h)
end
def wd(hg:Gl X x)(hm:X.mg x=some (.int i t))(hd:(x ==("__debug__" : Str))=false:=by decide):SE X T W (.Name x pos) (mC (.int i)) :=
 lI (v:=.int i) (AE hg hm ⟨t,rfl⟩ hd) fun _ _ _ _=>fe
end PR
namespace PR
open PySem PySem.Spec
structure IC(K:PySem.W.Frag)(C:Addr):Prop where
 ga:PySem.W.findIn K (.ref C) "__getattribute__" = some (some (.builtin "BaseException.__getattribute__"))
 gt:PySem.W.findIn K (.ref C) "__getattr__" = some none
 ca:PySem.W.findIn K (.ref C) "__class__" = some (some (.builtin "object.__class__"))
 sb:PySem.W.mroIn K C (.type "BaseException")=some true
 so:PySem.W.mroIn K C (.type "object")=some true
 cl:(PySem.W.clsIn K C).isSome=true
end PR
namespace PR
open PySem PySem.Spec L2
def dY(F B L:Addr->Prop)(H:Hp):RelL T F B L H [] [] []:=by unfold RelL;exact⟨rfl,rfl⟩
def bI(disp:Nat->Option (List PV->Res PV))(o:ME)(ms:MA):ME:=fun env=>(o env).bind fun ov=>match ov with
 | .obj _ c _ _=>match disp c with
  | some m=>(ms env).bind fun xs=>aQ m (ov::xs)
  | none=>.stuck
 | _=>.stuck
def A5(disp:Nat->Option (List PV->Res PV))(o:ME)(ms:MA):tY disp [] o ms=bI disp o ms:=by
 funext env
 unfold tY bI
 congr 1
 funext ov
 cases ov with
 | obj f c ks vs=>simp only[List.append_nil,List.cons_append]<;>rfl
 | _=>rfl
def ju(c:Nat)(m:List PV->Res PV)(ms:MA):ME:=aq (fun xs=>aQ m (.obj .own c [] []::xs)) ms
section
variable{X:Cx}{T:Tb}{W:Nat->St->Hp->Prop}
def wj
  (G:dA X.prog X.w X.K X.mg X.base (CXP X.prog X.w) k f fd ps (spM T ps.length m)) (cx:Ctx X T W kk) (hk:k<=kk) (hg:Gl X x) (hm:X.mg x=some (.ref f)) (hkp:PySem.W.keepIn X.K (.ref f)=true) (hb:fM X.K fd ps [])
  (hn:ie ms n) (hps:n=ps.length) (ha:SA X T W (e::es) ms)
  (hdb:(x ==("__debug__" : Str))=false:=by decide) (he:starEach (e::es) X.env=(false,eval e X.env)::starEach es X.env:=by rfl) (hpl:(backTo pos (starEach es X.env)).any (·.1)=false:=by rfl) :
  SE X T W (.Call (.Name x p) (e::es) [] pos) (aq (aQ m) ms):=by
 have h:=Af (dvs:=[]) (dps:=[]) (p:=p) (pos:=pos) G (cx.room.mono hk) hg hm hkp hb .nil dY cx.xf (fun env xs q=>by rw[hn env xs q];exact hps) ha hdb he hpl
 simpa using h
def Cn
  (cx:Ctx X T W kk) (hc:∀c < T.nc,Cls T.K (T.cls c)) (hm:∀k,T.att k≠mn) (D:eR X T k mn ps [] disp) (hk:k<=kk)
  (hn:ie ms n) (hps:n+1=ps.length) (ho:SE X T W o mo) (ha:SA X T W (e::es) ms)
  (hst:starEach (e::es) X.env=(false,eval e X.env)::starEach es X.env:=by rfl) (hpl:(backTo pos (starEach es X.env)).any (·.1)=false:=by rfl)
  (ht:eval (.Call (.Attribute o mn apos) (e::es) [] pos) X.env=(do
   let ov <- eval o X.env
   standAt apos.atName
   let(f,first) <- holding [ov] (getMethod ov mn pl)
   callWith pos f first (backTo pos (starEach (e::es) X.env)) (backToKw pos (keywordEach [] X.env))):=by rfl) :
  SE X T W (.Call (.Attribute o mn apos) (e::es) [] pos) (bI disp mo ms):=by
 rw[<- A5]
 exact Ab (pl:=pl) (dvs:=[]) (dps:=[]) cx.hK hc hm D (cx.room.mono hk) .nil dY cx.xf (fun env xs q=>by rw[hn env xs q];exact hps) ho ha hst hpl ht
def Ac
  (cx:Ctx X T W kk) (hc:∀c < T.nc,Cls T.K (T.cls c)) (hm:∀k,T.att k≠mn) (D:eR X T k mn ps [] disp) (hk:k<=kk) (hps:ps.length=1) (ho:SE X T W o mo)
  (ht:eval (.Call (.Attribute o mn apos) [] [] pos) X.env=(do
   let ov <- eval o X.env
   standAt apos.atName
   let(f,first) <- holding [ov] (getMethod ov mn pl)
   callWith pos f first (backTo pos (starEach [] X.env)) (backToKw pos (keywordEach [] X.env))):=by rfl) :
  SE X T W (.Call (.Attribute o mn apos) [] [] pos) (bI disp mo am):=by
 intro js s Y H Q I h
 obtain⟨Z,F,env,fp,S,q⟩:=h
 unfold bI at q
 refine PySem.W.methodCall_KW (pl:=pl) (thn (ho js s Y H (fun v H1=>∃ ov F1 f1,mo env=.ok ov/\Gr F H F1 H1/\Rel T F1 Z.B (Own fp) H1 ov v f1/\(∀ a ∈ f1,¬ F1 a)/\f1.Nodup/\∀ a ∈ f1,H a=none) I
  (tE.bind S (fun c e=>by rw[e]at q;exact q) (fun e=>by rw[e]at q;exact q) fun ov v H1 F1 f1 e1 g1 r1 n1 d1 w1=>⟨ov,F1,f1,e1,g1,r1,n1,d1,w1⟩)) fun u s1 ⟨v,H1,I1,ru,ov,F1,f1,e1,g1,r1,n1,d1,w1⟩=>?_) ht
 rw[e1]at q
 simp only[Res.ok_bind]at q
 by_cases hobj:∃fl c ks xs m,ov=.obj fl c ks xs/\disp c=some m
 ·obtain⟨fl,c,ks,ys,m,rfl,em⟩:=hobj
  dsimp only at q
  rw[em]at q
  simp only[am,Res.ok_bind]at q
  refine tU cx.hK hc hm D em r1 I1 ru fun a f fd eu hkp hb G=>?_
  subst eu
  refine PySem.W.callWith_K0 (first:=[.ref a]) I1.kIn hkp ?_
  exact wn (xs:=[.obj fl c ks ys]) (vs:=[v]) (us:=[.ref a]) (fx:=f1) (dvs:=[]) (dps:=[]) G (cx.room.mono hk) hb .nil dY cx.xf S g1 (by unfold RelL;exact⟨v,[],f1,[],rfl,r1,dY _ _ _ _,by simp⟩) n1 d1 w1 (by simpa using q) I1 (.cons ru .nil) (by simp[hps])
 ·exfalso
  cases ov with
  | obj fl c ks ys =>
   cases em:disp c with
   | none=>simp only[em]at q;exact q
   | some m=>exact hobj ⟨fl,c,ks,ys,m,rfl,em⟩
  | _=>exact q
def Cm
  (M:Mk X.K (T.cls c) f) (hcn:c < T.nc) (G:dA X.prog X.w X.K X.mg X.base (CXP X.prog X.w) k f fd ps (spI T ps.length m)) (cx:Ctx X T W kk) (hk:k+1<=kk) (hg:Gl X x) (hm:X.mg x=some (.ref (T.cls c))) (hb:fM X.K fd ps [])
  (hn:ie ms n) (hps:n+1=ps.length) (ha:SA X T W (e::es) ms)
  (hdb:(x ==("__debug__" : Str))=false:=by decide) (he:starEach (e::es) X.env=(false,eval e X.env)::starEach es X.env:=by rfl) (hpl:(backTo pos (starEach es X.env)).any (·.1)=false:=by rfl) :
  SE X T W (.Call (.Name x p) (e::es) [] pos) (ju c m ms):=by
 have h:=Ad (dvs:=[]) (dps:=[]) (p:=p) (pos:=pos) M hcn G (cx.room.mono hk) hg hm hb .nil dY cx.xf hn hps ha hdb he hpl
 unfold ju
 simpa using h
end
def Bg(X:K.In h)(q:PySem.W.excIn K C [.type "ValueError", .type "Exception", .type "BaseException", .type "object"] "ValueError.__new__" = true) :
  ∃bm N nm q bs hdct sn sub ab col dd k0 k1 k2 k3 k5 mN,h.get? C=some (excClassObj nm q C N bs bm hdct sn sub ab col dd k0 k1 k2 k3 k5 "ValueError.__new__")/\h.Ns N mN/\mN "__init__" = none /\
   OwnTail h [.type "ValueError", .type "Exception", .type "BaseException", .type "object"] bm:=by
 unfold PySem.W.excIn at q
 split at q
 ·rename_i dd cd sl ho
  split at q
  ·rename_i C' bm k0 k1 k2 k3 n k5 hm hs
   simp only[Bool.and_eq_true,beq_iff_eq,Bool.not_eq_true']at q
   obtain⟨⟨⟨⟨⟨rfl,rfl⟩,hdel⟩,ht⟩,hok⟩,hni⟩:=q
   cases cd
   cases sl
   dsimp only at hm hdel hok hni hs
   subst hm hdel hs
   exact⟨bm,_,_,_,_,_,_,_,_,_,dd,k0,k1,k2,k3,k5,_,X _ _ ho,.of_isNs (PySem.W.isNs_of_in X hok),PySem.W.nsMap_none_of_in X hok hni,PySem.W.tail_of_in X ht⟩
  ·cases q
 ·cases q
def bj(c:Nat)(ms:MA):MS:=fun env=>match ms env with
 | .ok _=>.exc c env
 | .exc k=>.exc k env
 | .stuck=>.stuck
def uq(cx:Ctx X T W k)(hm:X.mg x=some (.ref (T.xcl c)))(hB:T.K.In X.base)
  (hE:PySem.W.excIn T.K (T.xcl c) [.type "ValueError", .type "Exception", .type "BaseException", .type "object"] "ValueError.__new__" = true) (hx:XM X T W) (hg:Gl X x) (hn:ie ms n) (hn2:n<=100) (ha:SA X T W (e::es) ms)
  (hd:(x ==("__debug__" : Str))=false:=by decide)
  (he:starEach (e::es) X.env=(false,eval e X.env)::starEach es X.env:=by rfl) (hpl:(backTo cpos (starEach es X.env)).any (·.1)=false:=by rfl) :
  SS X T W (.Raise (some (.Call (.Name x np) (e::es) [] cpos)) none pos) (bj c ms) :=
 v4 (np:=np) (cpos:=cpos) (pos:=pos) ⟨hm,Bg hB hE⟩ hx cx.calm hg ha (fun env pvs q=>by rw[hn env pvs q];exact hn2) hd he hpl
structure Scr(fl:Fl):Prop where
 is:fl=.frz\/fl=.mod
def Scr.lend(h:Scr fl):fl.lend=fl:=by rcases h.is with rfl | rfl<;>rfl
def Scr.toBor(h:Scr fl):fl.toBor=fl:=by rcases h.is with rfl | rfl<;>rfl
def Scr.borrow(h:Scr fl):fl.borrow=fl:=by rcases h.is with rfl | rfl<;>rfl
def ki:∀ns:List Int,RelL T F B L H (ns.map PV.int) (ns.map V.int) []
 | []=>dY _ _ _ _
 | n::ns=>by
  rw[List.map_cons,List.map_cons]
  unfold RelL
  exact⟨_,_,[],[],rfl,fe,ki ns,rfl⟩
def sV(K:PySem.W.Frag):Sp:=fun vs H Q _=>∃(a:Addr) (ns:List Int),vs=[.ref a]/\SqL K H a (ns.map V.int)/\ns.length<=63/\∀v H',v=.bl true->Q v H'
def DF(G:dA P w T.K mg base (CXP P w) k f fd [x] (spM T 1 m))
  (h:∀(fl:Fl) (ns:List Int),Scr fl->ns.length<=63->m [.lst fl (ns.map .int)]=.ok (.bl true)):dA P w T.K mg base (CXP P w) k f fd [x] (sV T.K):=by
 refine G.imp fun vs H Q E q=>?_
 obtain⟨a,ns,rfl,hS,hl,hQ⟩:=q
 have fin:∀fl,Scr fl->∀Z:Zn,GF T Z Q E (m [.lst fl (ns.map .int)]):=fun fl hf Z=>by
  rw[h fl ns hf hl]
  intro F H' v f' _ r _ _ _
  unfold Rel at r
  exact hQ v H' r.1
 refine⟨rfl,?_⟩
 rcases hS with hS | hS
 ·refine⟨[.lst .frz (ns.map .int)],(·=a),fun _=>False,[],⟨?_,List.nodup_nil,fun _ z=>(nomatch z),fun _ z=>z.elim,fun b hb=>?_⟩,fin _ ⟨.inl rfl⟩ _⟩
  ·unfold RelL
   refine⟨_,_,[],[],rfl,?_,dY _ _ _ _,rfl⟩
   unfold Rel
   exact⟨a,_,[],rfl,⟨rfl,hS⟩,ki ns,rfl,rfl⟩
  ·subst hb
   rcases hS with e |⟨o,e⟩
   ·exact⟨_,e⟩
   ·exact⟨_,e⟩
 ·refine⟨[.lst .mod (ns.map .int)],fun _=>False,fun _=>False,[],⟨?_,List.nodup_nil,fun _ z=>(nomatch z),fun _ z=>z.elim,fun _ z=>z.elim⟩,fin _ ⟨.inr rfl⟩ _⟩
  unfold RelL
  refine⟨_,_,[],[],rfl,?_,dY _ _ _ _,rfl⟩
  unfold Rel
  exact⟨a,_,[],rfl,hS,ki ns,rfl,rfl⟩
def xM{l:PySem.W.OpenLaw}{k:Nat}{x:Str}{q:Program}{loose:List Str}{XP:(Str->Option Value)->Heap->Prop}{YP:World->Heap->Prop}{d:DefRec}{K:Params->PySem.W.Frag}(hn:l.most=some 63)(hdf:d.params.defaults=[])(hr:eH k callerA)
  (hY:∀(w:World) (h:Heap),YP w h->(K w.params).In h)
  (F:∀ (w:World) (mg:Str->Option Value) (fa:Addr) (h:Heap),(K w.params).In h->h.Ns mainGlobals mg->mg d.name=some (.ref fa) ->
   ∃fd:FuncData,(∀(s:Shared) (u:Value),BindsTo s fd ⟨[u],[]⟩ [(x,u)])/\∀base:Heap,(K w.params).In base->base.Ns mainGlobals mg->dA l.prog w (K w.params) mg base (CXP l.prog w) k fa fd [x] (sV (K w.params))) :
  PySem.W.WalkO q loose XP YP l.row.toRowW d [] (fun f vs=>PySem.call f vs) :=
 L2.zM (n:=63) (k:=k) (x:=x) (CX:=fun w=>CXP l.prog w) (sp:=fun w=>sV (K w.params)) hn (by decide) hdf hr hY F (fun _ _ a ns hl _ hS=>⟨a,ns,rfl,hS,hl,fun _ _ z=>z⟩) fun _ _ _ _ _ ⟨_,_,_,z⟩=>z
def A7:vJ K "int" := by
 intro t ht
 simp only[List.mem_cons,List.not_mem_nil,or_false]at ht
 rcases ht with rfl | rfl | rfl | rfl | rfl | rfl<;>kernel_rfl
def xO:vJ K "bool" := by
 intro t ht
 simp only[List.mem_cons,List.not_mem_nil,or_false]at ht
 rcases ht with rfl | rfl | rfl | rfl | rfl | rfl<;>kernel_rfl
def l_:vJ K "list" := by
 intro t ht
 simp only[List.mem_cons,List.not_mem_nil,or_false]at ht
 rcases ht with rfl | rfl | rfl | rfl | rfl | rfl<;>kernel_rfl
def vc:vJ K "tuple" := by
 intro t ht
 simp only[List.mem_cons,List.not_mem_nil,or_false]at ht
 rcases ht with rfl | rfl | rfl | rfl | rfl | rfl<;>kernel_rfl
def cU:bootBuiltins "isinstance" = some (.builtin "isinstance"):=by decide +kernel
def Ep:bootBuiltins "int" = some (.type "int"):=by decide +kernel
def BD:bootBuiltins "bool" = some (.type "bool"):=by decide +kernel
def cA:bootBuiltins "list" = some (.type "list"):=by decide +kernel
def gz:bootBuiltins "tuple" = some (.type "tuple"):=by decide +kernel
def vw(K:PySem.W.Frag)(C:Addr):Bool :=
 decide (PySem.W.findIn K (.ref C) "__getattribute__" = some (some (.builtin "BaseException.__getattribute__")))&&decide (PySem.W.findIn K (.ref C) "__getattr__" = some none) &&
 decide (PySem.W.findIn K (.ref C) "__class__" = some (some (.builtin "object.__class__")))&&decide (PySem.W.mroIn K C (.type "BaseException")=some true)&&decide (PySem.W.mroIn K C (.type "object")=some true)&&(PySem.W.clsIn K C).isSome &&
 PySem.W.excIn K C [.type "ValueError", .type "Exception", .type "BaseException", .type "object"] "ValueError.__new__"
def Bj(h:vw K C=true):IC K C/\PySem.W.excIn K C [.type "ValueError", .type "Exception", .type "BaseException", .type "object"] "ValueError.__new__" = true:=by
 simp only[vw,Bool.and_eq_true,decide_eq_true_eq]at h
 obtain⟨⟨⟨⟨⟨⟨h1,h2⟩,h3⟩,h4⟩,h5⟩,h6⟩,h7⟩:=h
 exact⟨⟨h1,h2,h3,h4,h5,h6⟩,h7⟩
def AB(l:List Addr)(i:Nat):Addr:=l.getD i (l.headD 0)
def qa(l:List Bool)(i:Nat):Bool:=l.getD i (l.headD false)
def wG{α:Type}{f:Addr->Option α}{g:α->Bool}{l:List Addr}{bs:List Bool}{r:Bool->Option α}(hl:l≠[])(h:l.map f=bs.map r)(i:Nat):f (AB l i)=r (qa bs i):=by
 have hlen:l.length=bs.length:=by simpa using congrArg List.length h
 unfold AB qa
 rw[List.getD_eq_getElem?_getD,List.getD_eq_getElem?_getD]
 have key:∀j,(l[j]?).map f=(bs[j]?).map r:=fun j=>by rw[<- List.getElem?_map,<- List.getElem?_map,h]
 cases e:l[i]? with
 | some C =>
  have:=key i
  rw[e]at this
  cases e2:bs[i]? with
  | some b=>rw[e2]at this;simpa using this
  | none=>rw[e2]at this;simp at this
 | none =>
  have hb:bs[i]?=none:=by
   rw[List.getElem?_eq_none_iff]at e ⊢
   omega
  rw[hb]
  cases l with
  | nil=>exact absurd rfl hl
  | cons a l =>
   cases bs with
   | nil=>simp at hlen
   | cons b bs=>simpa using key 0
def sP:∀(xs:List V) (ys:List Value),xs.length=ys.length->(∀(i:Nat) x y,xs[i]?=some x->ys[i]?=some y->bu x y)->aP xs ys
 | [],[],_,_=>.nil
 | x::xs,y::ys,hl,h=>.cons (h 0 x y rfl rfl) (sP xs ys (by simpa using hl) fun i a b e1 e2=>h (i+1) a b (by simpa using e1) (by simpa using e2))
 | [],_::_,hl,_ | _::_,[],hl,_=>by simp at hl
def rL(lo:Int)(n:Nat):List V:=(List.range n).map fun k=>.int (lo+(k:Nat))
section
variable{X:Cx}{T:Tb}{W:Nat->St->Hp->Prop}{Z:Zn}{F F1 B L:Addr->Prop}{H H1:Hp}{Y:St}{env:En}{fp:Nat->List Addr}
def wr(lo:Int)(n:Nat):RelL T F B L H (cX lo n) (rL lo n) []:=by
 unfold cX rL
 have:∀l:List Nat,RelL T F B L H (l.map fun k=>PV.int (lo+(k:Nat))) (l.map fun k=>V.int (lo+(k:Nat))) []:=by
  intro l
  induction l with
  | nil=>exact dY _ _ _ _
  | cons a l ih =>
   rw[List.map_cons,List.map_cons]
   unfold RelL
   exact⟨_,_,[],[],rfl,fe,ih,rfl⟩
 exact this _
def uM(hg:Gl X "range")(hm:X.mg "range" = none)(ha:PA X [a] ta)(hs:starEach [a] X.env=[(false,eval a X.env)]:=by rfl) :
  PE X (.Call (.Name "range" p) [a] [] pos) (fun Y H Q=>ta Y H fun vs H1=>∃j:Int,vs=[.int j]/\∀r,H1 r=none->Q (.ref r) (upd H1 r (.rng 0 j))):=by
 intro js s Y H Q I h
 refine PyProof.Rows.Call_ (gS I hg hm PyProof.Rows.boot_range (PyProof.Rows.callWith_type1 (thn (ha pos js s Y H _ I h) fun us s1 ⟨vs,H1,I1,r1,q1⟩=>?_) hs rfl))
 obtain⟨j,e,q⟩:=q1
 subst e
 cases r1 with
 | cons r rr =>
  cases rr
  obtain⟨t,rfl⟩:=r
  refine call_range_1 ⟨.ref s1.heap.objs.size,_,I1.laid (fun b u e=>Heap.get?_push_of_some _ e) (Nat.le_refl _) ?_,rfl,q _ (I1.hok.fresh (Nat.le_refl _))⟩
  exact⟨_,_,_,Heap.get?_push_size _ rfl⟩
def nq(hc:X.calm=true):eZ X (.type "list") (fun xs H Q=>∃r hi,xs=[.ref r]/\H r=some (.rng 0 hi)/\(0<=hi/\hi<=1000000)/\∀l,H l=none->Q (.ref l) (upd H l (.lst (rL 0 hi.toNat)))):=by
 intro js s Y H xs us Q I rv h
 obtain⟨r,hi,rfl,hr,⟨h0,h1⟩,q⟩:=h
 obtain⟨u,rfl,rx⟩:=fw rv
 cases rx
 obtain⟨t,u,v,e⟩:=I.hok r _ hr
 have hsz:Builtin.Range.rangeSize 0 hi 1=(hi.toNat:Int):=by
  unfold Builtin.Range.rangeSize
  rw[if_pos (by decide)]
  split<;>omega
 have hsm:Builtin.Range.small 0 hi 1=true:=by
  unfold Builtin.Range.small
  rw[hsz]
  simp only[Builtin.Range.rangeFitsLong,Bool.and_eq_true,Bool.or_eq_true,decide_eq_true_eq,show(1:Int) > 0 by decide,if_true]
  refine⟨⟨⟨⟨by decide,by omega⟩,by decide⟩,by omega⟩,.inr (by omega)⟩
 refine call_list_range (I.ok.hd hc) e hsm hsz (by omega) fun h' tk acc c' kp eS hacc=>?_
 refine⟨.ref s.heap.objs.size,_,I.laid (t':=tk) kp (Nat.le_refl _) ?_,rfl,q _ (I.hok.fresh (Nat.le_refl _))⟩
 refine⟨?_,acc.toList,c',sP _ _ ?_ fun i x y e1 e2=>?_,?_⟩
 ·rw[sizeLine_eq];simp[rL];omega
 ·simp[rL,hacc.1]
 ·have:=hacc.2 i y (by simpa using e2)
  obtain⟨t,rfl⟩:=this
  have hi:i < hi.toNat:=by
   have:=(List.getElem?_eq_some_iff.mp e1).1
   simpa[rL]using this
  simp[rL,hi]at e1
  subst e1
  exact⟨t,by simp⟩
 ·simpa using eS
def oN:List PV->Res PV
 | [.int n]=>if decide (0<=n/\n<=1000000)then .ok (.lst .own (cX 0 n.toNat))else .stuck
 | _=>.stuck
def uw(hc:X.calm=true)(hg:Gl X "list")(hm:X.mg "list" = none)(hv:bootBuiltins "list" = some (.type "list"))(hg2:Gl X "range")(hm2:X.mg "range" = none)(ha:SA X T W [a] ms)
  (hs:starEach [a] X.env=[(false,eval a X.env)]:=by rfl)
  (he:starEach [.Call (.Name "range" p2) [a] [] pos2] X.env=[(false,eval (.Call (.Name "range" p2) [a] [] pos2) X.env)]:=by rfl) :
  SE X T W (.Call (.Name "list" p) [.Call (.Name "range" p2) [a] [] pos2] [] pos) (aq oN ms):=by
 refine PE.wk (km (p:=p) (pos:=pos) (nq hc) hg hm hv (dD (uM (p:=p2) (pos:=pos2) hg2 hm2 ha hs) gK (by rw[he];rfl)) (he:=by rw[he];rfl) (hpl:=rfl)) fun Y H Q hz1=>?_
 obtain⟨Z,F,env,fp,S,q⟩:=hz1
 unfold aq at q
 refine tA.bind S (fun c e=>by rw[e]at q;exact q) (fun e=>by rw[e]at q;exact q) fun pvs vs H1 F1 f1 e1 g1 r1 n1 d1 w1=>?_
 rw[e1]at q
 simp only[Res.ok_bind]at q
 match pvs,r1,q with
 | [.int n],r1,q =>
  obtain⟨v,rfl,rv⟩:=RelL.one r1
  unfold Rel at rv
  obtain⟨rfl,rfl⟩:=rv
  simp only[oN]at q
  refine⟨n,rfl,fun r hr=>?_⟩
  by_cases hn:decide (0<=n/\n<=1000000)=true
  ·rw[if_pos hn]at q
   have g2:Gr F H F1 (upd H1 r (.rng 0 n)):=g1.trans (Gr.same g1.dom (Ext.upd hr))
   exact⟨r,n,rfl,a5,of_decide_eq_true hn,fun l hl=>GE.newL q g2 (wr 0 n.toNat) (fun _ z=>(nomatch z)) List.nodup_nil (fun _ z=>(nomatch z)) l hl⟩
  ·rw[if_neg hn]at q;exact q.elim
 | [],_,q | [.non],_,q | [.bl _],_,q | [.str _],_,q | [.lst _ _],_,q | [.tup _],_,q | [.obj _ _ _ _],_,q | [.exc _],_,q | [.box _ _],_,q | .int _::_::_,_,q | .non::_::_,_,q | .bl _::_::_,_,q | .str _::_::_,_,q | .lst _ _::_::_,_,q | .tup _::_::_,_,q | .obj _ _ _ _::_::_,_,q | .exc _::_::_,_,q | .box _ _::_::_,_,q=>exact q.elim
end
def bh:List PV->Option (List Int)
 | []=>some []
 | .int i::xs=>(bh xs).map (i::·)
 | _::_=>none
def oe(ns:List Int):Nat:=(PyProof.Rows.firstMet (fun i=>ns.getD i 0) ns.length).length
def iZ:PV->Res PV
 | .lst _ xs=>match bh xs with
  | some ns=>if decide (ns.length<=1000)then .ok (.int (oe ns))else .stuck
  | none=>.stuck
 | _=>.stuck
section
variable{X:Cx}{T:Tb}{W:Nat->St->Hp->Prop}{Z:Zn}{F F1 B L:Addr->Prop}{H H1:Hp}{Y:St}{env:En}{fp:Nat->List Addr}
def cq:∀{xs:List PV}{vs:List V}{f:List Addr}{ns:List Int},bh xs=some ns->RelL T F B L H xs vs f->vs=ns.map V.int
 | [],_,_,_,e,r=>by cases e;unfold RelL at r;exact r.1
 | .int i::xs,_,_,ns,e,r=>by
  unfold RelL at r
  obtain⟨v,ws,f1,f2,rfl,h1,h2,rfl⟩:=r
  simp only[bh]at e
  cases e2:bh xs with
  | none=>rw[e2]at e;cases e
  | some ms =>
   rw[e2]at e
   cases e
   unfold Rel at h1
   rw[h1.1,cq e2 h2]
   rfl
 | .non::_,_,_,_,e,_ | .bl _::_,_,_,_,e,_ | .str _::_,_,_,_,e,_ | .lst _ _::_,_,_,_,e,_ | .tup _::_,_,_,_,e,_ | .obj _ _ _ _::_,_,_,_,e,_ | .exc _::_,_,_,_,e,_ | .box _ _::_,_,_,_,e,_=>by simp[bh]at e
def gB:∀{ns:List Int}{its:List Value},aP (ns.map V.int) its->PyProof.Rows.IntsAre its ns
 | [],_,r=>by cases r;exact .nil
 | n::ns,_,r=>by
  cases r with
  | cons h t =>
   obtain⟨tk,rfl⟩:=h
   exact .cons _ _ (gB t)
def ni(hc:X.calm=true):eZ X (.type "set") (fun xs H Q=>∃p ns,xs=[.ref p]/\SqL X.K H p (ns.map V.int)/\ns.length<=1000/\∀r S,H r=none->Q (.ref r) (upd H r (.set S (oe ns)))):=by
 intro js s Y H xs us Q I rv h
 obtain⟨p,ns,rfl,hS,hl,q⟩:=h
 obtain⟨u,rfl,rx⟩:=fw rv
 cases rx
 obtain⟨its,r',pl,hz⟩:=I.list hS
 have hlen:=r'.length
 rw[List.length_map]at hlen
 refine call_set_list (I.ok.hd hc) pl.isList (ns:=ns) (by simpa using gB r') (by simp only[List.size_toArray,<- hlen];unfold scanBound;omega) fun h' tk hs kp=>?_
 have e:its.toArray.size=ns.length:=by simp[hlen]
 rw[e]at hs
 exact⟨.ref s.heap.objs.size,_,I.laid (t':=tk) (o:=.set (fun k'=>(PyProof.Rows.firstMet (fun i=>ns.getD i 0) ns.length).any (·==k')) (oe ns)) (fun b o e=>kp b o (Heap.lt_size e) e) (Nat.le_refl _) hs,rfl,q _ _ (I.hok.fresh (Nat.le_refl _))⟩
def nu:eZ X (.builtin "len") (fun xs H Q=>∃r S n,xs=[.ref r]/\H r=some (.set S n)/\Q (.int n) H):=by
 intro js s Y H xs us Q I rv h
 obtain⟨r,S,n,rfl,hr,q⟩:=h
 obtain⟨u,rfl,rx⟩:=fw rv
 cases rx
 obtain⟨o,es,ep,t,ho,hex,hd,_,_,hb,hf,hn⟩:=I.hok r _ hr
 have hb':es.size < 4096:=hb
 exact call_len_set ho hex hd hf (by omega) ⟨.int n,H,I.tok _,⟨s.toks+1,by rw[hn]⟩,q⟩
def Em:bootBuiltins "set" = some (.type "set"):=by decide +kernel
def nM(hK:X.K=T.K)(hc:X.calm=true)(hg:Gl X "len")(hm:X.mg "len" = none)(hg2:Gl X "set")(hm2:X.mg "set" = none)(he:SE X T W e m)
  (hs:starEach [e] X.env=[(false,eval e X.env)]:=by rfl)
  (hs2:starEach [.Call (.Name "set" p2) [e] [] pos2] X.env=[(false,eval (.Call (.Name "set" p2) [e] [] pos2) X.env)]:=by rfl) :
  SE X T W (.Call (.Name "len" p) [.Call (.Name "set" p2) [e] [] pos2] [] pos) (mUn iZ m):=by
 refine PE.wk (lP (p:=p) (pos:=pos) nu hg hm boot_len (dD (km (p:=p2) (pos:=pos2) (ni hc) hg2 hm2 Em (dD he gK (by rw[hs];rfl)) (he:=by rw[hs];rfl) (hpl:=rfl)) gK (by rw[hs2];rfl)) (he:=by rw[hs2];rfl) (hpl:=rfl)) fun Y H Q hz1=>?_
 obtain⟨Z,F,env,fp,S,q⟩:=hz1
 unfold mUn at q
 refine tE.bind S (fun c e=>by rw[e]at q;exact q) (fun e=>by rw[e]at q;exact q) fun x v H1 F1 f1 e1 g1 r1 n1 d1 w1=>?_
 rw[e1]at q
 cases x with
 | lst fl xs =>
  simp only[Res.ok_bind,iZ]at q
  cases en:bh xs with
  | none=>rw[en]at q;exact q.elim
  | some ns =>
   rw[en]at q
   dsimp only at q
   unfold Rel at r1
   obtain⟨a,vs,fp',rfl,hl,hr,_⟩:=r1
   by_cases hn:decide (ns.length<=1000)=true
   ·rw[if_pos hn]at q
    have hv:=cq en hr
    subst hv
    exact⟨a,ns,rfl,by rw[hK];exact hl.sq,of_decide_eq_true hn,fun r S hr=>⟨r,S,_,rfl,a5,q.scal (g1.trans (Gr.same g1.dom (Ext.upd hr))) fe⟩⟩
   ·rw[if_neg hn]at q;exact q.elim
 | _=>exact q.elim
end
def fY:List Int->Int
 | []=>0
 | [a]=>a
 | a::b::l=>min a (fY (b::l))
def jS:List Int->Int
 | []=>0
 | [a]=>a
 | a::b::l=>max a (jS (b::l))
def gh:∀{l:List Int},l≠[]->fY l∈l/\∀x∈l,fY l<=x
 | [],h=>absurd rfl h
 | [a],_=>by simp[fY]
 | a::b::l,_=>by
  obtain⟨h1,h2⟩:=gh (l:=b::l) (by simp)
  unfold fY
  grind
def lZ:∀{l:List Int},l≠[]->jS l∈l/\∀x∈l,x<=jS l
 | [],h=>absurd rfl h
 | [a],_=>by simp[jS]
 | a::b::l,_=>by
  obtain⟨h1,h2⟩:=lZ (l:=b::l) (by simp)
  unfold jS
  refine⟨?_,fun x hx=>?_⟩
  ·rcases Int.le_total a (jS (b::l))with h | h
   ·rw[Int.max_eq_right h];exact List.mem_cons_of_mem _ h1
   ·rw[Int.max_eq_left h];exact List.mem_cons_self
  ·rcases List.mem_cons.mp hx with rfl | hx
   ·exact Int.le_max_left _ _
   ·exact Int.le_trans (h2 x hx) (Int.le_max_right _ _)
section
variable{X:Cx}{T:Tb}{W:Nat->St->Hp->Prop}{Z:Zn}{F F1 B L:Addr->Prop}{H H1:Hp}{Y:St}{env:En}{fp:Nat->List Addr}{js:List (Addr×Obj)}{s:Shared}
def iK{h':Heap}{t:Nat}(I:L2.Inv X js Y H s)(k:∀b o,s.heap.get? b=some o->h'.get? b=some o):L2.Inv X js Y H { s with heap:=h',toks:=t }:=I.un (Un.kept k) (I.hok.kept k)
def d8{its:List Value}{ns:List Int}(r:aP (ns.map V.int) its):∀(i:Nat) (v:Value),its.toArray[i]?=some v->∃t,v=.int (ns.getD i 0) t:=by
 intro i v e
 have e':its[i]?=some v:=by simpa using e
 have hi:i < ns.length:=by
  have h1:=(List.getElem?_eq_some_iff.mp e').1
  have h2:=r.length
  rw[List.length_map]at h2
  omega
 have:∀{ns:List Int}{its:List Value}{i:Nat}{v:Value},aP (ns.map V.int) its->its[i]?=some v->∃t,v=.int (ns.getD i 0) t:=by
  intro ns
  induction ns with
  | nil=>intro its i v r e;cases r;simp at e
  | cons n ns ih =>
   intro its i v r e
   cases r with
   | cons h t =>
    obtain⟨tk,rfl⟩:=h
    cases i with
    | zero=>simp at e;exact⟨tk,by rw[<- e];rfl⟩
    | succ i =>
     obtain⟨tk',h'⟩:=ih t (by simpa using e)
     exact⟨tk',by rw[h'];rfl⟩
 exact this r e'
def qQ{ns:List Int}(h:0 < ns.length):ns.getD (argBest (fun i j=>decide (ns.getD i 0 < ns.getD j 0)) (ns.length - 1)) 0=fY ns:=by
 obtain⟨h1,h2⟩:=argBest_lt (fun i=>ns.getD i 0) (ns.length - 1)
 obtain⟨m1,m2⟩:=gh (l:=ns) (by intro z;simp[z]at h)
 refine Int.le_antisymm ?_ (m2 _ ?_)
 ·obtain⟨i,hi,e⟩:=List.getElem_of_mem m1
  have:=h2 i (by omega)
  grind
 ·rw[List.getD_eq_getElem?_getD,List.getElem?_eq_getElem (by omega)]
  exact List.getElem_mem _
def yU{ns:List Int}(h:0 < ns.length):ns.getD (argBest (fun i j=>decide (ns.getD i 0 > ns.getD j 0)) (ns.length - 1)) 0=jS ns:=by
 obtain⟨h1,h2⟩:=argBest_gt (fun i=>ns.getD i 0) (ns.length - 1)
 obtain⟨m1,m2⟩:=lZ (l:=ns) (by intro z;simp[z]at h)
 refine Int.le_antisymm (m2 _ ?_) ?_
 ·rw[List.getD_eq_getElem?_getD,List.getElem?_eq_getElem (by omega)]
  exact List.getElem_mem _
 ·obtain⟨i,hi,e⟩:=List.getElem_of_mem m1
  have:=h2 i (by omega)
  grind
def ig{n:Nat}{l I:Addr}(hl:l < n)(e:I=n):∀b∈[I,l],b < n+1:=(by grind)
def eO{h h':Heap}{o:Obj}(hk:∀b u,b∉[h.objs.size]->(h.push o).get? b=some u->h'.get? b=some u):∀b u,h.get? b=some u->h'.get? b=some u:=fun b u e =>
 hk b u (fun hm=>by
  rcases List.mem_cons.mp hm with z | z
  ·exact absurd (z▸Heap.lt_size e) (Nat.lt_irrefl _)
  ·cases z) (Heap.get?_push_of_some _ e)
def ph(hc:X.calm=true):eZ X (.builtin "min") (fun xs H Q=>∃p ns,xs=[.ref p]/\(SqL X.K H p (ns.map V.int)\/ SqT X.K H p (ns.map V.int))/\0 < ns.length/\Q (.int (fY ns)) H):=by
 intro js s Y H xs us Q I rv h
 obtain⟨p,ns,rfl,hq,hn,q⟩:=h
 obtain⟨u,rfl,rx⟩:=fw rv
 cases rx
 have hh:=I.ok.hd hc
 have key:∀{its:List Value},aP (ns.map V.int) its->∀{v:Value}{h':Heap}{tk:Nat},its.toArray[argBest (fun i j=>decide (ns.getD i 0 < ns.getD j 0)) (its.toArray.size - 1)]?=some v->(∀b o,s.heap.get? b=some o->h'.get? b=some o)->EP X js Y Q v { s with heap:=h',toks:=tk }:=by
  intro its r v h' tk hv k
  have hl:its.toArray.size=ns.length:=by
   have:=r.length
   simpa using this.symm
  rw[hl]at hv
  obtain⟨t,rfl⟩:=d8 r _ _ hv
  rw[qQ hn]
  exact⟨.int _,H,iK I k,⟨t,rfl⟩,q⟩
 rcases hq with hq | hq
 ·obtain⟨its,r,pl,hz⟩:=I.list hq
  have hl:its.toArray.size=ns.length:=by
   have:=r.length
   simpa using this.symm
  obtain⟨o,ho,hcl,n,hd⟩:=pl.isList
  have hlt:=Heap.lt_size ho
  refine call_min_walk (wpAny_pyIter_list pl.isList ?_)
  refine⟨_,_,_,_,_,_,_,rfl,Walks.list (A:=X.A.in1) hh _ p (Nat.ne_of_lt hlt) its.toArray,⟨⟨_,Heap.get?_push_size _ rfl,rfl,rfl⟩,pl.isList.push _⟩,fun b hb=>?_,by omega,CmpOf.ints_lt (fun i=>ns.getD i 0) (d8 r),fun v h' tk hP hk=>key r hP (eO hk)⟩
  show b <(s.heap.push _).objs.size
  rw[Heap.size_push]
  exact ig hlt rfl b hb
 ·obtain⟨its,r,pl,hz⟩:=I.tuple hq
  have hl:its.toArray.size=ns.length:=by
   have:=r.length
   simpa using this.symm
  have pt:s.heap.IsTuple p its.toArray:=pl
  obtain⟨o,ho,hcl,n,hd⟩:=pl
  have hlt:=Heap.lt_size ho
  refine call_min_walk (wpAny_pyIter_tuple pt ?_)
  refine⟨_,_,_,_,_,_,_,rfl,Walks.tuple (A:=X.A.in1) hh _ p (Nat.ne_of_lt hlt) its.toArray,⟨⟨_,Heap.get?_push_size _ rfl,rfl,rfl⟩,pt.push _⟩,fun b hb=>?_,by omega,CmpOf.ints_lt (fun i=>ns.getD i 0) (d8 r),fun v h' tk hP hk=>key r hP (eO hk)⟩
  show b <(s.heap.push _).objs.size
  rw[Heap.size_push]
  exact ig hlt rfl b hb
def pj(hc:X.calm=true):eZ X (.builtin "max") (fun xs H Q=>∃p ns,xs=[.ref p]/\(SqL X.K H p (ns.map V.int)\/ SqT X.K H p (ns.map V.int))/\0 < ns.length/\Q (.int (jS ns)) H):=by
 intro js s Y H xs us Q I rv h
 obtain⟨p,ns,rfl,hq,hn,q⟩:=h
 obtain⟨u,rfl,rx⟩:=fw rv
 cases rx
 have hh:=I.ok.hd hc
 have key:∀{its:List Value},aP (ns.map V.int) its->∀{v:Value}{h':Heap}{tk:Nat},its.toArray[argBest (fun i j=>decide (ns.getD i 0 > ns.getD j 0)) (its.toArray.size - 1)]?=some v->(∀b o,s.heap.get? b=some o->h'.get? b=some o)->EP X js Y Q v { s with heap:=h',toks:=tk }:=by
  intro its r v h' tk hv k
  have hl:its.toArray.size=ns.length:=by
   have:=r.length
   simpa using this.symm
  rw[hl]at hv
  obtain⟨t,rfl⟩:=d8 r _ _ hv
  rw[yU hn]
  exact⟨.int _,H,iK I k,⟨t,rfl⟩,q⟩
 rcases hq with hq | hq
 ·obtain⟨its,r,pl,hz⟩:=I.list hq
  have hl:its.toArray.size=ns.length:=by
   have:=r.length
   simpa using this.symm
  obtain⟨o,ho,hcl,n,hd⟩:=pl.isList
  have hlt:=Heap.lt_size ho
  refine call_max_walk (wpAny_pyIter_list pl.isList ?_)
  refine⟨_,_,_,_,_,_,_,rfl,Walks.list (A:=X.A.in1) hh _ p (Nat.ne_of_lt hlt) its.toArray,⟨⟨_,Heap.get?_push_size _ rfl,rfl,rfl⟩,pl.isList.push _⟩,fun b hb=>?_,by omega,CmpOf.ints_gt (fun i=>ns.getD i 0) (d8 r),fun v h' tk hP hk=>key r hP (eO hk)⟩
  show b <(s.heap.push _).objs.size
  rw[Heap.size_push]
  exact ig hlt rfl b hb
 ·obtain⟨its,r,pl,hz⟩:=I.tuple hq
  have hl:its.toArray.size=ns.length:=by
   have:=r.length
   simpa using this.symm
  have pt:s.heap.IsTuple p its.toArray:=pl
  obtain⟨o,ho,hcl,n,hd⟩:=pl
  have hlt:=Heap.lt_size ho
  refine call_max_walk (wpAny_pyIter_tuple pt ?_)
  refine⟨_,_,_,_,_,_,_,rfl,Walks.tuple (A:=X.A.in1) hh _ p (Nat.ne_of_lt hlt) its.toArray,⟨⟨_,Heap.get?_push_size _ rfl,rfl,rfl⟩,pt.push _⟩,fun b hb=>?_,by omega,CmpOf.ints_gt (fun i=>ns.getD i 0) (d8 r),fun v h' tk hP hk=>key r hP (eO hk)⟩
  show b <(s.heap.push _).objs.size
  rw[Heap.size_push]
  exact ig hlt rfl b hb
def gd(g:List Int->Int):PV->Res PV:=fun x=>match aL x with
 | some xs=>match bh xs with
  | some ns=>if ns.isEmpty then .stuck else .ok (.int (g ns))
  | none=>.stuck
 | none=>.stuck
def qj(hK:X.K=T.K):Mir T W (p1 (gd g)) (fun xs H Q=>∃p ns,xs=[.ref p]/\(SqL X.K H p (ns.map V.int)\/ SqT X.K H p (ns.map V.int))/\0 < ns.length/\Q (.int (g ns)) H):=by
 intro B F L Y H Q F' H' xs vs fx gr r nf nd new q
 match xs,r,q with
 | [x],r,q =>
  obtain⟨v,rfl,rv⟩:=RelL.one r
  simp only[p1,gd]at q
  cases e:aL x with
  | none=>rw[e]at q;exact q.elim
  | some ys =>
   rw[e]at q
   dsimp only at q
   cases e2:bh ys with
   | none=>rw[e2]at q;exact q.elim
   | some ns =>
    rw[e2]at q
    dsimp only at q
    obtain⟨a,us,fx',rfl,hs,hr,_⟩:=rv.seq e
    have hu:=cq e2 hr
    subst hu
    cases ns with
    | nil=>exact q.elim
    | cons n ns=>exact⟨a,_,rfl,by rw[hK];exact hs,by simp,q.scal gr fe⟩
 | [],_,q=>exact q.elim
 | _::_::_,_,q=>simp only[p1]at q;exact q.elim
def sG:bootBuiltins "min" = some (.builtin "min"):=by decide +kernel
def Eo:bootBuiltins "max" = some (.builtin "max"):=by decide +kernel
def sW(hK:X.K=T.K)(hc:X.calm=true)(hg:Gl X "min")(hm:X.mg "min" = none)(ha:SE X T W e m)(he:starEach [e] X.env=[(false,eval e X.env)]:=by rfl):SE X T W (.Call (.Name "min" p) [e] [] pos) (aq (p1 (gd fY)) (ae m am)) :=
 f8 (ph hc) (qj hK) hg hm sG (aa ha ag (by rw[he];rfl)) (he:=by rw[he];rfl) (hpl:=rfl)
def sX(hK:X.K=T.K)(hc:X.calm=true)(hg:Gl X "max")(hm:X.mg "max" = none)(ha:SE X T W e m)(he:starEach [e] X.env=[(false,eval e X.env)]:=by rfl):SE X T W (.Call (.Name "max" p) [e] [] pos) (aq (p1 (gd jS)) (ae m am)) :=
 f8 (pj hc) (qj hK) hg hm Eo (aa ha ag (by rw[he];rfl)) (he:=by rw[he];rfl) (hpl:=rfl)
def gL(g:Int->Int->Int):List PV->Res PV
 | [.int i,.int j]=>.ok (.int (g i j))
 | _=>.stuck
def u0{g:Int->Int->Int}{g':Int->Int->Int}(hg:∀i j,g' i j=g i j):Mir T W (gL g) (fun xs H Q=>∃i j,xs=[.int i,.int j]/\Q (.int (g' i j)) H):=by
 intro B F L Y H Q F' H' xs vs fx gr r nf nd new q
 match xs,r,q with
 | [x,y],r,q =>
  cases x with
  | int i =>
   cases y with
   | int j =>
    unfold RelL at r
    obtain⟨v,ws,f1,f2,rfl,h1,h2,rfl⟩:=r
    obtain⟨u,rfl,h3⟩:=RelL.one h2
    unfold Rel at h1 h3
    obtain⟨rfl,_⟩:=h1
    obtain⟨rfl,_⟩:=h3
    exact⟨i,j,rfl,by rw[hg];exact q.scal gr fe⟩
   | _=>exact q.elim
  | _=>exact q.elim
 | [],_,q=>exact q.elim
 | [x],_,q=>cases x<;>exact q.elim
 | x::y::z::l,_,q=>cases x<;>cases y<;>exact q.elim
def oC(hc:X.calm=true)(hg:Gl X "min")(hm:X.mg "min" = none)(ha:SA X T W [a,b] ms)(he:starEach [a,b] X.env=[(false,eval a X.env),(false,eval b X.env)]:=by rfl)(he2:starEach [b] X.env=[(false,eval b X.env)]:=by rfl) :
  SE X T W (.Call (.Name "min" p) [a,b] [] pos) (aq (gL min) ms) :=
 f8 (vE hc) (u0 fun i j=>by simp only[Int.min_def];split<;>split<;>omega) hg hm sG ha (he:=by rw[he,he2]) (hpl:=by rw[he2];rfl)
end
end PR
namespace PR
open PySem PySem.W PyProof.Rows
structure Ord(N:Nat)(lt:Nat->Nat->Bool):Prop where
 tr:∀i j k,i < N->j < N->k < N->lt i j=true->lt j k=true->lt i k=true
 tot:∀i j,i < N->j < N->i≠j->lt i j=false->lt j i=true
 irr:∀i,i < N->lt i i=false
structure Plc(N:Nat)(p:Array Nat):Prop where
 pm:p.toList.Perm (List.range N)
abbrev at_(p:Array Nat)(i:Nat):Nat:=p.getD i 0
section
variable{N:Nat}{lt:Nat->Nat->Bool}{p:Array Nat}
def Plc.sz(P:Plc N p):p.size=N:=by simpa using P.pm.length_eq
def Plc.get(P:Plc N p)(h:i < N):p[i]?=some (at_ p i):=by
 have:i < p.size:=by rw[P.sz];exact h
 simp[at_,this]
def Plc.bd(P:Plc N p)(h:i < N):at_ p i < N:=by
 have hm:at_ p i∈p.toList:=by
  have:=P.get h
  exact Array.mem_toList_iff.mpr (Array.mem_of_getElem? this)
 simpa using P.pm.mem_iff.mp hm
def Plc.inj(P:Plc N p)(hi:i < N)(hj:j < N)(e:at_ p i=at_ p j):i=j:=by
 have nd:p.toList.Nodup:=P.pm.nodup_iff.mpr List.nodup_range
 have h1:=P.get hi
 have h2:=P.get hj
 rw[e]at h1
 have h1':p.toList[i]?=some (at_ p j):=by simpa using h1
 have h2':p.toList[j]?=some (at_ p j):=by simpa using h2
 obtain⟨a1,b1⟩:=List.getElem?_eq_some_iff.mp h1'
 obtain⟨a2,b2⟩:=List.getElem?_eq_some_iff.mp h2'
 exact(List.getElem_inj nd).mp (b1.trans b2.symm)
def Asc(lt:Nat->Nat->Bool)(p:Array Nat)(n:Nat):Prop:=∀a b,a < b->b < n->lt (at_ p a) (at_ p b)=true
def Dsc(lt:Nat->Nat->Bool)(p:Array Nat)(n:Nat):Prop:=∀a b,a < b->b < n->lt (at_ p b) (at_ p a)=true
def Asc.more(O:Ord N lt)(P:Plc N p)(h:Asc lt p n)(h1:1<=n)(hn:n < N)(hl:lt (at_ p (n - 1)) (at_ p n)=true):Asc lt p (n+1):=fun a b hab hb=>by
 by_cases hbn:b < n
 ·exact h a b hab hbn
 ·obtain rfl:b=n:=by omega
  by_cases ha:a=b - 1
  ·rw[ha];exact hl
  ·exact O.tr _ _ _ (P.bd (by omega)) (P.bd (by omega)) (P.bd (by omega)) (h a (b - 1) (by omega) (by omega)) hl
def Dsc.more(O:Ord N lt)(P:Plc N p)(h:Dsc lt p n)(h1:1<=n)(hn:n < N)(hl:lt (at_ p n) (at_ p (n - 1))=true):Dsc lt p (n+1):=fun a b hab hb=>by
 by_cases hbn:b < n
 ·exact h a b hab hbn
 ·obtain rfl:b=n:=by omega
  by_cases ha:a=b - 1
  ·rw[ha];exact hl
  ·exact O.tr _ _ _ (P.bd (by omega)) (P.bd (by omega)) (P.bd (by omega)) hl (h a (b - 1) (by omega) (by omega))
def Dsc.rev(P:Plc N p)(h:Dsc lt p n)(hn:n<=N):Asc lt (kas_rev p 0 n) n/\Plc N (kas_rev p 0 n):=by
 have hp:(kas_rev p 0 n).toList.Perm p.toList:=Array.perm_iff_toList_perm.mp (mirror_perm _ _ _ _)
 have P':Plc N (kas_rev p 0 n):=⟨hp.trans P.pm⟩
 have ix:∀k,k < n->at_ (kas_rev p 0 n) k=at_ p (n - 1 - k):=fun k hk=>by
  have e:=getElem?_mirror_all (xs:=p) (i:=0) (j:=n) (by rw[P.sz];exact hn) k
  have h1:(kas_rev p 0 n)[k]?=p[0+n - 1 - k]?:=by
   unfold kas_rev
   rw[e,if_pos ⟨by omega,hk⟩]
  rw[P'.get (by omega),show 0+n - 1 - k=n - 1 - k by omega,P.get (by omega)]at h1
  exact Option.some.inj h1
 refine⟨fun a b hab hb=>?_,P'⟩
 rw[ix a (by omega),ix b hb]
 exact h _ _ (by omega) (by omega)
variable{cmp:Nat->Nat->(Bool->Shared->Prop)->Shared->Prop}{s:Shared}
abbrev Cmp(N:Nat)(lt:Nat->Nat->Bool)(cmp:Nat->Nat->(Bool->Shared->Prop)->Shared->Prop)(s:Shared):Prop:=∀(i j:Nat) (C:Bool->Shared->Prop),i < N->j < N->C (lt i j) s->cmp i j C s
def sH(O:Ord N lt)(C:Cmp N lt cmp s)(P:Plc N p):∀(f n:Nat) (Q:Nat->Shared->Prop),1<=n->n+f=N->Asc lt p n->(∀m,n<=m->m<=N->Asc lt p m->(m < N->lt (at_ p m) (at_ p (m - 1))=true)->Q m s)->(kas_asc p f n).kasWp cmp Q s
 | 0,n,Q,h1,hn,ha,k=>k n (Nat.le_refl _) (by omega) ha (by omega)
 | f+1,n,Q,h1,hn,ha,k=>by
  refine C _ _ _ (P.bd (by omega)) (P.bd (by omega)) ?_
  cases e:lt (at_ p n) (at_ p (n - 1))with
  | true=>exact k n (Nat.le_refl _) (by omega) ha fun _=>e
  | false =>
   have hl:=O.tot _ _ (P.bd (by omega)) (P.bd (by omega)) (fun z=>by have:=P.inj (by omega) (by omega) z;omega) e
   exact sH O C P f (n+1) Q (by omega) (by omega) (ha.more O P h1 (by omega) hl) fun m hm=>k m (by omega)
def yL(O:Ord N lt)(C:Cmp N lt cmp s)(P:Plc N p):∀(f n:Nat) (Q:Array Nat×Nat×Nat->Shared->Prop),1<=n->n+f=N->Dsc lt p n->(∀m,n<=m->m<=N->Dsc lt p m->Q (p,m,0) s)->(kas_desc f p n 0).kasWp cmp Q s
 | 0,n,Q,h1,hn,ha,k=>k n (Nat.le_refl _) (by omega) ha
 | f+1,n,Q,h1,hn,ha,k=>by
  refine C _ _ _ (P.bd (by omega)) (P.bd (by omega)) ?_
  cases e:lt (at_ p n) (at_ p (n - 1))with
  | true=>exact yL O C P f (n+1) Q (by omega) (by omega) (ha.more O P h1 (by omega) e) fun m hm=>k m (by omega)
  | false =>
   have hl:=O.tot _ _ (P.bd (by omega)) (P.bd (by omega)) (fun z=>by have:=P.inj (by omega) (by omega) z;omega) e
   refine C _ _ _ (P.bd (by omega)) (P.bd (by omega)) ?_
   have e2:lt (p.getD (n - 1) 0) (p.getD n 0)=true:=hl
   rw[e2]
   exact k n (Nat.le_refl _) (by omega) ha
def yQ(O:Ord N lt)(C:Cmp N lt cmp s)(P:Plc N p)(h2:2<=N)(Q:Nat×Array Nat->Shared->Prop)(k:∀m p',1<=m->m<=N->Plc N p'->Asc lt p' m->Q (m,p') s):(kas_count N p).kasWp cmp Q s:=by
 unfold kas_count
 rw[KasT.kasWp_bind]
 refine sH O C P (N - 1) 1 _ (Nat.le_refl _) (by omega) (fun a b _ hb=>by omega) fun n h1 hn ha hs=>?_
 by_cases e:n=N
 ·rw[if_pos (by simpa using e)]
  exact k n p h1 hn P ha
 ·rw[if_neg (by simpa using e)]
  by_cases hn1:n > 1
  ·rw[if_pos hn1]
   refine C _ _ _ (P.bd (by omega)) (P.bd (by omega)) ?_
   have e2:lt (p.getD 0 0) (p.getD (n - 1) 0)=true:=ha 0 (n - 1) (by omega) (by omega)
   rw[e2]
   exact k n p h1 hn P ha
  ·rw[if_neg hn1]
   obtain rfl:n=1:=by omega
   unfold kas_descPart
   rw[KasT.kasWp_bind]
   refine yL O C P (N - 2) 2 _ (by omega) (by omega) (fun a b hab hb=>?_) fun m hm1 hm2 hd=>?_
   ·obtain rfl:a=0:=by omega
    obtain rfl:b=1:=by omega
    exact hs (by omega)
   ·dsimp only
    rw[if_neg (Nat.lt_irrefl 0)]
    obtain⟨ha',P'⟩:=hd.rev P hm2
    unfold kas_tail3
    rw[KasT.kasWp_bind]
    exact sH O C P' (N - m) m _ (by omega) (by omega) ha' fun n' h1' hn' ha'' _=>k n' _ (by omega) hn' P' ha''
def lN(O:Ord N lt)(C:Cmp N lt cmp s)(P:Plc N p)(hk:k < N)(ha:Asc lt p k):∀(f l r:Nat) (Q:Nat->Shared->Prop),l<=r->r<=k->r - l<=f->(∀a,a < l->lt (at_ p a) (at_ p k)=true)->(∀a,r<=a->a < k->lt (at_ p k) (at_ p a)=true)->
  (∀m,m<=k->(∀a,a < m->lt (at_ p a) (at_ p k)=true)->(∀a,m<=a->a < k->lt (at_ p k) (at_ p a)=true)->Q m s)->(kas_place p k f l r).kasWp cmp Q s
 | 0,l,r,Q,h1,h2,h3,h4,h5,q=>by
  obtain rfl:l=r:=by omega
  exact q l h2 h4 h5
 | f+1,l,r,Q,h1,h2,h3,h4,h5,q=>by
  unfold kas_place
  by_cases e:l >= r
  ·rw[if_pos e]
   obtain rfl:l=r:=by omega
   exact q l h2 h4 h5
  ·rw[if_neg e]
   have hm:(l+r) / 2 < r:=by omega
   have hm2:l <=(l+r) / 2:=by omega
   refine C _ _ _ (P.bd hk) (P.bd (by omega)) ?_
   cases e2:lt (at_ p k) (at_ p ((l+r) / 2))with
   | true =>
    refine lN O C P hk ha f l ((l+r) / 2) Q hm2 (by omega) (by omega) h4 (fun a h6 h7=>?_) q
    by_cases hae:a=(l+r) / 2
    ·rw[hae];exact e2
    ·exact O.tr _ _ _ (P.bd hk) (P.bd (by omega)) (P.bd (by omega)) e2 (ha _ a (by omega) h7)
   | false =>
    have hl:=O.tot _ _ (P.bd hk) (P.bd (by omega)) (fun z=>by have:=P.inj hk (by omega) z;omega) e2
    refine lN O C P hk ha f ((l+r) / 2+1) r Q (by omega) h2 (by omega) (fun a h6=>?_) h5 q
    by_cases hae:a=(l+r) / 2
    ·rw[hae];exact hl
    ·exact O.tr _ _ _ (P.bd (by omega)) (P.bd (by omega)) (P.bd hk) (ha a _ (by omega) (by omega)) hl
def yT(O:Ord N lt)(C:Cmp N lt cmp s):∀(f k:Nat) (p:Array Nat) (Q:Array Nat->Shared->Prop),Plc N p->Asc lt p k->k+f=N->(∀p',Plc N p'->Asc lt p' N->Q p' s)->(kas_bin f p k).kasWp cmp Q s
 | 0,k,p,Q,P,ha,hk,q=>q p P (by rw[<- hk];exact ha)
 | f+1,k,p,Q,P,ha,hk,q=>by
  unfold kas_bin
  rw[KasT.kasWp_bind]
  refine lN O C P (by omega) ha k 0 k _ (Nat.zero_le _) (Nat.le_refl _) (by omega) (fun _ z=>absurd z (Nat.not_lt_zero _)) (fun a h1 h2=>by omega) fun m hm h1 h2=>?_
  have P':Plc N (bubble p k (k - m)):=⟨(Array.perm_iff_toList_perm.mp (bubble_perm _ _ _)).trans P.pm⟩
  have ix:=getElem?_bubble (xs:=p) (src:=k) (by rw[P.sz];omega) (k - m) (by omega)
  have g:∀i,i < k+1->at_ (bubble p k (k - m)) i=if i=m then at_ p k else if m < i then at_ p (i - 1)else at_ p i:=fun i hi=>by
   have e:=ix i
   rw[P'.get (by omega)]at e
   have hkm:k - (k - m)=m:=by omega
   rw[hkm]at e
   by_cases c1:i=m
   ·rw[if_pos c1]
    rw[if_pos c1,P.get (by omega)]at e
    exact Option.some.inj e
   ·rw[if_neg c1]at e ⊢
    by_cases c2:m < i
    ·rw[if_pos c2]
     rw[if_pos ⟨c2,by omega⟩,P.get (by omega)]at e
     exact Option.some.inj e
    ·rw[if_neg c2]
     rw[if_neg (fun z=>c2 z.1),P.get (by omega)]at e
     exact Option.some.inj e
  refine yT O C f (k+1) _ Q P' (fun a b hab hb=>?_) (by omega) q
  rw[g a (by omega),g b hb]
  by_cases a1:a=m
  ·rw[if_pos a1,if_neg (by omega),if_pos (by omega)]
   exact h2 (b - 1) (by omega) (by omega)
  ·rw[if_neg a1]
   by_cases a2:m < a
   ·rw[if_pos a2,if_neg (by omega),if_pos (by omega)]
    exact ha _ _ (by omega) (by omega)
   ·rw[if_neg a2]
    by_cases b1:b=m
    ·rw[if_pos b1];exact h1 a (by omega)
    ·rw[if_neg b1]
     by_cases b2:m < b
     ·rw[if_pos b2]
      by_cases hh:a=b - 1
      ·omega
      ·exact ha _ _ (by omega) (by omega)
     ·rw[if_neg b2]
      exact ha _ _ hab (by omega)
def z5(O:Ord N lt)(C:Cmp N lt cmp s)(h2:2<=N)(Q:Array Nat->Shared->Prop)(q:∀p,Plc N p->Asc lt p N->Q p s):(kas_sort N).kasWp cmp Q s:=by
 unfold kas_sort
 rw[KasT.kasWp_bind]
 refine yQ O C (p:=List.toArray (List.range N)) ⟨by simp⟩ h2 _ fun m p' h1 hm P ha=>?_
 dsimp only
 by_cases e:m < N
 ·rw[if_pos e,Nat.max_eq_left h1]
  exact yT O C (N - m) m p' Q P ha (by omega) q
 ·rw[if_neg e]
  obtain rfl:m=N:=by omega
  exact q p' P ha
end
end PR
namespace PR
open PySem PySem.Spec L2 PyProof.Rows PySem.W
section
variable{prog:Program}{w:World}{A:Around}{E:Value->Shared->Prop}{s:Shared}
def lT(vs:List Value)(p:Array Nat):Array Value:=(p.toList.map fun i=>vs.getD i Value.none).toArray
def uJ(N:Nat):Plc N (List.range N).toArray:=⟨by simp⟩
def kN:lT vs (List.range vs.length).toArray=vs.toArray:=by
 unfold lT
 congr 1
 refine List.ext_getElem (by simp) fun i h1 h2=>?_
 simp[h2]
def zJ:∀{vs:List Value},vs.length < 2->(vs.toArray.zip vs.toArray).map (·.2)=vs.toArray
 | [],_ | [v],_=>by simp
def u9{κ:SortKind}(ho:s.heap.get? a=some (seqObj "list" vs.toArray n))(h64:vs.length < 64)
  (hK:2<=vs.length->∀s':Shared,(∀b o,b≠a->s.heap.get? b=some o->s'.heap.get? b=some o)->Ord vs.length lt/\(∀Q:SortKind->Shared->Prop,Q κ s'->wpAny (model prog w) A (keyKind' vs.toArray) Q E s')/\Cmp vs.length lt (kas_ask prog w A κ vs) s')
  (h:∀p,Plc vs.length p->Asc lt p vs.length->P (.done (.ret .none)) { s with heap:=sortedHeap s.heap a vs (lT vs p) }) :
  wpAny (model prog w) A (Builtin.«list.sort» ⟨[.ref a],[]⟩) P E s:=by
 have lo:=Heap.lt_size ho
 obtain⟨e1,g1⟩:∃e1,(s.heap.update a (Obj.mapSeq fun _=>#[])).get? a=some (seqObj "list" #[] e1):=⟨_,get?_update_seq ho (fun _=>#[])⟩
 have g6:(((s.heap.update a (Obj.mapSeq fun _=>#[])).push (seqObj "tuple" vs.toArray 0)).push (seqObj "list" #[] 0)).get? a=some (seqObj "list" #[] e1):=Heap.get?_push_of_some _ (Heap.get?_push_of_some _ g1)
 have kp:∀b o,b≠a->s.heap.get? b=some o->(((s.heap.update a (Obj.mapSeq fun _=>#[])).push (seqObj "tuple" vs.toArray 0)).push (seqObj "list" #[] 0)).get? b=some o:=fun b o hb q =>
  Heap.get?_push_of_some _ (Heap.get?_push_of_some _ ((Heap.get?_update_ne _ _ _ _ hb).trans q))
 rw[list_sort_plain]
 refine wpAny_bind (listItems_at ho rfl (wpAny_bind (listUpdate_at ho rfl (wpAny_bind (seqEpoch_at g1 rfl (wpAny_bind (wpAny_newTuple (wpAny_bind (wpAny_newList (wpAny_holding ?_))))))))))<;>try (simp only[List.size_toArray,sizeLine_eq];omega)
 show wpAny (model prog w) A _ P E { s with heap:=((s.heap.update a (Obj.mapSeq fun _=>#[])).push (seqObj "tuple" vs.toArray 0)).push (seqObj "list" #[] 0) }
 dsimp only
 by_cases h2:vs.toArray.size < 2
 ·have h2':vs.length < 2:=by simpa using h2
  rw[if_pos h2,if_pos h2]
  refine wpAny_bind (wpAny_pure ?_)
  rw[StateT.run_pure]
  refine wpAny_bind (wpAny_pure ?_)
  dsimp only
  have e3:(arrOf (SortSt.mk' general' (vs.toArray.zip vs.toArray) #[] 7 none)).map (·.2)=lT vs (List.range vs.length).toArray:=by
   rw[kN]
   show(vs.toArray.zip vs.toArray).map (·.2)=vs.toArray
   exact zJ h2'
  rw[e3]
  refine wpAny_bind (seqEpoch_at g6 rfl (wpAny_bind (listUpdate_at g6 rfl ?_ (Nat.zero_le _) (by rw[kN];simp only[List.size_toArray,sizeLine_eq];omega))))
  simp only[bne_self_eq_false,Bool.false_eq_true,if_false]
  exact wpAny_pure (h _ (uJ _) fun x y hxy hy=>by omega)
 ·have h2':2<=vs.length:=by simp at h2;omega
  rw[if_neg h2,if_neg h2]
  obtain⟨O,hk,C⟩:=hK h2' { s with heap:=((s.heap.update a (Obj.mapSeq fun _=>#[])).push (seqObj "tuple" vs.toArray 0)).push (seqObj "list" #[] 0) } kp
  refine wpAny_bind (hk _ ?_)
  refine wpAny_bind (wpAny_mono (kat_run (κ:=κ) (ks:=vs) (vs:=vs) (Q:=fun st' s'=>∃ p:Array Nat,arrOf st'=p.map (kas_item (vs.toArray.zip vs.toArray))/\failedOf st'=none/\Plc vs.length p/\Asc lt p vs.length/\s'=_) rfl h2' h64
   (fun p st' s' _ a2 a3 a4=>⟨p,a2,a3,a4⟩) (z5 O C h2' _ fun p c1 c2=>⟨c1,c2,rfl⟩)) ?_ fun _ _ e=>e)
  rintro⟨⟨⟩,st'⟩ s' ⟨p,har,hf,c1,c2,rfl⟩
  dsimp only
  have e3:=kat_snds (ks:=vs) (vs:=vs) rfl har
  rw[e3]
  refine wpAny_bind (seqEpoch_at g6 rfl (wpAny_bind (listUpdate_at g6 rfl ?_ (Nat.zero_le _) (by
   rw[List.size_toArray,List.length_map,Array.length_toList,c1.sz,sizeLine_eq];omega))))
  rw[hf]
  simp only[bne_self_eq_false,Bool.false_eq_true,if_false]
  exact wpAny_pure (h _ c1 c2)
def rq{κ:SortKind}(hl:s.heap.IsList l vs.toArray)(h64:vs.length < 64)
  (hK:2<=vs.length->∀s':Shared,(∀b o,s.heap.get? b=some o->s'.heap.get? b=some o)->Ord vs.length lt/\(∀(E:Value->Shared->Prop) (Q:SortKind->Shared->Prop),Q κ s'->wpAny (model prog w) A.in1.in1 (keyKind' vs.toArray) Q E s')/\Cmp vs.length lt (kas_ask prog w A.in1.in1 κ vs) s')
  (h:∀p,Plc vs.length p->Asc lt p vs.length->Q (.ref (s.heap.objs.size+1)) { s with heap:=sortedAll s.heap vs (lT vs p) }) :
  wpAny (model prog w) A (call (.builtin "sorted") [.ref l]) Q E s:=by
 refine Calls.call_function_entry kind_sorted plain_sorted entry_sorted (args_sorted1 _) ?_
 unfold Builtin.«sorted»
 have sz:((s.heap.push (seqObj "list" #[] 0)).update s.heap.objs.size (Obj.mapSeq (·++vs.toArray))).objs.size=s.heap.objs.size+1:=(Heap.size_update _ _ _).trans (size_push' _ _)
 refine wpAny_bind (m:=checkCount "sorted" 1 1 _) (wpAny_pure (wpAny_bind (collect_list hl (wpAny_bind (wpAny_newList ?_ (by rw[sizeLine_eq];omega))) (by rw[sizeLine_eq];omega))))
 have g:(((s.heap.push (seqObj "list" #[] 0)).update s.heap.objs.size (Obj.mapSeq (·++vs.toArray))).push (seqObj "list" vs.toArray 0)).get? (s.heap.objs.size+1)=some (seqObj "list" vs.toArray 0):=sz▸Heap.get?_push_size _ rfl
 have kp:∀b o,s.heap.get? b=some o->(((s.heap.push (seqObj "list" #[] 0)).update s.heap.objs.size (Obj.mapSeq (·++vs.toArray))).push (seqObj "list" vs.toArray 0)).get? b=some o:=fun b o q =>
  Heap.get?_push_of_some _ ((Heap.get?_update_ne _ _ _ _ (Nat.ne_of_lt (Heap.lt_size q))).trans (Heap.get?_push_of_some _ q))
 show wpAny _ _ _ _ _ { s with heap:=((s.heap.push (seqObj "list" #[] 0)).update s.heap.objs.size (Obj.mapSeq (·++vs.toArray))).push (seqObj "list" vs.toArray 0) }
 rw[sz]
 refine wpAny_bind (wpAny_holding (wpAny_call_entry slot_list_sort ⟨_,g,rfl⟩ entry_list_sort ?body (args_list_sort _)))
 refine u9 (κ:=κ) (lt:=lt) g h64 (fun h2 s' k'=>?_) fun p c1 c2=>⟨_,rfl,wpAny_pure ⟨_,rfl,h p c1 c2⟩⟩
 obtain⟨O,hk,C⟩:=hK h2 s' fun b o q=>k' b o (Nat.ne_of_lt (Nat.lt_succ_of_lt (Heap.lt_size q))) (kp b o q)
 exact⟨O,fun Q q=>hk _ Q q,C⟩
def ff(x y:Int×Int):Bool:=decide (x.1 < y.1) ||(x.1==y.1&&decide (x.2 < y.2))
def jk(h1:ff x y=true)(h2:ff y z=true):ff x z=true:=by
 simp only[ff,Bool.or_eq_true,Bool.and_eq_true,decide_eq_true_eq,beq_iff_eq]at *
 omega
def p_(x:Int×Int):ff x x=false:=by simp[ff]
def pZ(h:x≠y):ff x y=true\/ff y x=true:=by
 obtain⟨a,b⟩:=x
 obtain⟨c,d⟩:=y
 have:a≠c\/b≠d:=by
  by_cases e:a=c
  ·right;intro e2;exact h (by rw[e,e2])
  ·exact .inl e
 simp only[ff,Bool.or_eq_true,Bool.and_eq_true,decide_eq_true_eq,beq_iff_eq]
 omega
def cZ(h:Heap):List Value->List (Int×Int)->Prop
 | [],[]=>True
 | v::vs,x::ps=>(∃a o n t u,v=.ref a/\h.get? a=some o/\o.cls=.type "tuple" /\ o.data=.seq #[.int x.1 t,.int x.2 u] n)/\cZ h vs ps
 | _,_=>False
def cZ.len:∀{vs:List Value}{ps:List (Int×Int)},cZ h vs ps->vs.length=ps.length
 | [],[],_=>rfl
 | _::_,_::_,q=>by simp[q.2.len]
def cZ.kept(k:∀b o,h.get? b=some o->h'.get? b=some o):∀{vs:List Value}{ps:List (Int×Int)},cZ h vs ps->cZ h' vs ps
 | [],[],_=>trivial
 | _::_,_::_,⟨⟨a,o,n,t,u,e1,e2,e3⟩,q⟩=>⟨⟨a,o,n,t,u,e1,k _ _ e2,e3⟩,q.kept k⟩
def cZ.at:∀{vs:List Value}{ps:List (Int×Int)},cZ h vs ps->∀i,i < ps.length->∃a o n t u,vs.getD i Value.none=.ref a/\h.get? a=some o/\o.data=.seq #[.int (ps.getD i (0,0)).1 t,.int (ps.getD i (0,0)).2 u] n
 | _::_,_::_,⟨⟨a,o,n,t,u,e1,e2,e3⟩,q⟩,0,_=>⟨a,o,n,t,u,by simp[e1],e2,by simpa using e3.2⟩
 | v::vs,x::ps,⟨_,q⟩,i+1,hi=>by
  have:=q.at i (by simpa using hi)
  simpa using this
 | [],[],_,i,hi=>by simp at hi
def cZ.firsts:∀{vs:List Value}{ps:List (Int×Int)},cZ h vs ps->∃fs,KatTups h vs fs/\fs.length=ps.length/\∀v∈fs,∃i t,v=.int i t
 | [],[],_=>⟨[],.nil,rfl,fun v hv=>by cases hv⟩
 | _::_,_::_,⟨⟨a,o,n,t,u,e1,e2,e3,e4⟩,q⟩=>by
  obtain⟨fs,h1,h2,h3⟩:=q.firsts
  subst e1
  refine⟨_::fs,.cons e2 e3 e4 rfl h1,by simp[h2],fun v hv=>?_⟩
  rcases List.mem_cons.mp hv with rfl | hv
  ·exact⟨_,_,rfl⟩
  ·exact h3 v hv
def uN{ps:List (Int×Int)}(hd:ps.Nodup):Ord ps.length (fun i j=>ff (ps.getD i (0,0)) (ps.getD j (0,0))):=by
 refine⟨fun i j k _ _ _ h1 h2=>jk h1 h2,fun i j hi hj hn h=>?_,fun i _=>p_ _⟩
 have:ps.getD i (0,0)≠ ps.getD j (0,0):=by
  simp only[List.getD_eq_getElem?_getD,List.getElem?_eq_getElem hi,List.getElem?_eq_getElem hj,Option.getD_some]
  exact fun e=>hn ((List.getElem_inj hd).mp e)
 rcases pZ this with q | q
 ·rw[q]at h;cases h
 ·exact q
def nT(h:Q (decide (x < y)) s):wpAny (model prog w) A (oneLt' b (.int x t) (.int y u)) Q E s:=by
 cases b with
 | true=>exact oneLt_int h
 | false=>exact kat_one _ _ (wpAny_lt_int h)
def uO(hp:cZ s.heap vs ps):Cmp vs.length (fun i j=>ff (ps.getD i (0,0)) (ps.getD j (0,0))) (kas_ask prog w A (tuples' true) vs) s:=by
 intro i j C hi hj q
 rw[hp.len]at hi hj
 obtain⟨a,o,n,t,u,e1,e2,e3⟩:=hp.at i hi
 obtain⟨a',o',n',t',u',e1',e2',e3'⟩:=hp.at j hj
 unfold kas_ask
 rw[e1,e1']
 dsimp only at q
 generalize ps.getD i (0,0)=x at *
 generalize ps.getD j (0,0)=y at *
 refine kat_lt e2 e3 e2' e3' (kat_cons (wpAny_eqBool_int (kat_go (fun h1=>kat_yes (kat_cons (wpAny_eqBool_int (kat_go (fun h2=>kat_yes (kat_nil ?_)) fun h2=>kat_no (nT ?_))))) fun h1=>kat_no (nT ?_))))
 ·simp only[beq_iff_eq]at h1 h2
  have:ff x y=false:=by simp[ff,h1,h2]
  rw[this]at q
  exact q
 ·simp only[beq_iff_eq]at h1
  have:ff x y=decide (x.2 < y.2):=by simp[ff,h1]
  rw[this]at q
  exact q
 ·have:ff x y=decide (x.1 < y.1):=by simp[ff,h1]
  rw[this]at q
  exact q
def rS(hp:cZ s.heap vs ps)(h2:2<=vs.length){Q:SortKind->Shared->Prop}(q:Q (tuples' true) s):wpAny (model prog w) A (keyKind' vs.toArray) Q E s:=by
 obtain⟨fs,h1,hl,hi⟩:=hp.firsts
 refine kat_kind (T:=.type "int") h1 (by rw[hl,<- hp.len];omega) (fun v hv=>?_) rfl q
 obtain⟨i,t,rfl⟩:=hi v hv
 exact Looks.of_pure rfl
def ox(hl:s.heap.IsList l vs.toArray)(h64:vs.length < 64)(hp:cZ s.heap vs ps)(hd:ps.Nodup)
  (h:∀p,Plc vs.length p->Asc (fun i j=>ff (ps.getD i (0,0)) (ps.getD j (0,0))) p vs.length->Q (.ref (s.heap.objs.size+1)) { s with heap:=sortedAll s.heap vs (lT vs p) }) :
  wpAny (model prog w) A (call (.builtin "sorted") [.ref l]) Q E s :=
 rq hl h64 (fun h2 s' k=>⟨hp.len▸uN hd,fun E Q q=>rS (hp.kept k) h2 q,uO (hp.kept k)⟩) h
end
end PR
namespace PR
open PySem PySem.Spec L2 PyProof.Rows
def sw(x:Int):List Int->List Int
 | []=>[x]
 | y::l=>if x<=y then x::y::l else y::sw x l
def jb:List Int->List Int
 | []=>[]
 | x::l=>sw x (jb l)
def kB(x:Int):∀l,(sw x l).Perm (x::l)
 | []=>.refl _
 | y::l=>by
  unfold sw
  split
  ·exact .refl _
  ·exact((kB x l).cons y).trans (.swap x y l)
def fB:∀l,(jb l).Perm l
 | []=>.refl _
 | x::l=>(kB x _).trans ((fB l).cons x)
def qw(x:Int):∀{l:List Int},l.Pairwise (·<=·)->(sw x l).Pairwise (·<=·)
 | [],_=>by simp[sw]
 | y::l,h=>by
  obtain⟨h1,h2⟩:=List.pairwise_cons.mp h
  unfold sw
  split
  ·refine List.pairwise_cons.mpr ⟨fun z hz=>?_,h⟩
   rcases List.mem_cons.mp hz with rfl | hz
   ·assumption
   ·have:=h1 z hz;omega
  ·refine List.pairwise_cons.mpr ⟨fun z hz=>?_,qw x h2⟩
   rcases List.mem_cons.mp ((kB x l).mem_iff.mp hz)with rfl | hz
   ·omega
   ·exact h1 z hz
def nJ:∀l,(jb l).Pairwise (·<=·)
 | []=>.nil
 | x::l=>qw x (nJ l)
def lH{l l':List Int}(h1:l'.Perm l)(h2:l'.Pairwise (·<=·)):l'=jb l :=
 List.Perm.eq_of_pairwise (fun a b _ _ x y=>Int.le_antisymm x y) h2 (nJ l) (h1.trans (fB l).symm)
def ss(x:Int×Int):List (Int×Int)->List (Int×Int)
 | []=>[x]
 | y::l=>if ff x y then x::y::l else y::ss x l
def cP:List (Int×Int)->List (Int×Int)
 | []=>[]
 | x::l=>ss x (cP l)
def kA(x:Int×Int):∀l,(ss x l).Perm (x::l)
 | []=>.refl _
 | y::l=>by
  unfold ss
  split
  ·exact .refl _
  ·exact((kA x l).cons y).trans (.swap x y l)
def c9:∀l,(cP l).Perm l
 | []=>.refl _
 | x::l=>(kA x _).trans ((c9 l).cons x)
def qv(x:Int×Int):∀{l:List (Int×Int)},x∉l->l.Pairwise (fun a b=>ff a b=true)->(ss x l).Pairwise (fun a b=>ff a b=true)
 | [],_,_=>by simp[ss]
 | y::l,hn,h=>by
  obtain⟨h1,h2⟩:=List.pairwise_cons.mp h
  unfold ss
  split
  ·refine List.pairwise_cons.mpr ⟨fun z hz=>?_,h⟩
   rcases List.mem_cons.mp hz with rfl | hz
   ·assumption
   ·exact jk ‹_› (h1 z hz)
  ·refine List.pairwise_cons.mpr ⟨fun z hz=>?_,qv x (fun z=>hn (List.mem_cons_of_mem _ z)) h2⟩
   rcases List.mem_cons.mp ((kA x l).mem_iff.mp hz)with rfl | hz
   ·rcases pZ (x:=y) (y:=z) (fun e=>hn (e▸List.mem_cons_self))with q | q
    ·exact q
    ·contradiction
   ·exact h1 z hz
def nH:∀{l:List (Int×Int)},l.Nodup->(cP l).Pairwise (fun a b=>ff a b=true)
 | [],_=>.nil
 | x::l,h=>by
  obtain⟨h1,h2⟩:=List.nodup_cons.mp h
  exact qv x (fun z=>h1 ((c9 l).mem_iff.mp z)) (nH h2)
def rA(hd:l.Nodup)(h1:l'.Perm l)(h2:l'.Pairwise (fun a b=>ff a b=true)):l'=cP l :=
 List.Perm.eq_of_pairwise (fun a b _ _ x y=>by
  have:=jk x y
  rw[p_]at this;cases this) h2 (nH hd) (h1.trans (c9 l).symm)
def uG{α:Type}(l:List α)(d:α):(List.range l.length).map (fun i=>l.getD i d)=l:=by
 refine List.ext_getElem (by simp) fun i h1 h2=>?_
 simp[h2]
def uI{ps:List (Int×Int)}{p:Array Nat}(hd:ps.Nodup)(P:Plc ps.length p)(a:Asc (fun i j=>ff (ps.getD i (0,0)) (ps.getD j (0,0))) p ps.length):p.toList.map (fun i=>ps.getD i (0,0))=cP ps:=by
 refine rA hd (by have:=P.pm.map (fun i=>ps.getD i (0,0));rwa [uG]at this) ?_
 refine List.pairwise_iff_getElem.mpr fun i j hi hj hij=>?_
 have hs:=P.sz
 have hi':i < p.size:=by simpa using hi
 have hj':j < p.size:=by simpa using hj
 have:=a i j hij (by omega)
 simpa[at_,Array.getD,hi',hj']using this
def PrH(K:PySem.W.Frag)(H:Hp):List V->List (Int×Int)->Prop
 | [],[]=>True
 | v::vs,x::ps=>(∃a,v=.ref a/\SqT K H a [.int x.1,.int x.2])/\PrH K H vs ps
 | _,_=>False
def PrH.len{K:PySem.W.Frag}{H:Hp}:∀{vs:List V}{ps:List (Int×Int)},PrH K H vs ps->vs.length=ps.length
 | [],[],_=>rfl
 | _::_,_::_,q=>by simp[q.2.len]
section
variable{X:Cx}{T:Tb}{W:Nat->L2.St->Hp->Prop}{Z:Zn}{F F1 B L:Addr->Prop}{H H1:Hp}{Y:L2.St}{env:En}{fp:Nat->List Addr}{js:List (Addr×Obj)}{s:Shared}
def PrH.at(I:L2.Inv X js Y H s):∀{vs:List V}{its:List Value}{ps:List (Int×Int)},PrH X.K H vs ps->aP vs its->cZ s.heap its ps
 | [],_,[],_,r=>by cases r;trivial
 | _::_,_,_::_,⟨⟨a,e,h⟩,q⟩,r=>by
  cases r with
  | cons h1 h2 =>
   subst e
   cases h1
   refine⟨?_,q.at I h2⟩
   obtain⟨its,r,pl,_⟩:=I.tuple h
   obtain⟨u,r2,rfl,⟨t,rfl⟩,r3⟩:∃u r2,its=u::r2/\bu _ u/\aP _ r2:=by cases r with | cons a b=>exact⟨_,_,rfl,a,b⟩
   obtain⟨u',rfl,⟨t',rfl⟩⟩:=fw r3
   obtain⟨o,ho,hcl,n,hd⟩:=pl
   exact⟨a,o,n,t,t',rfl,ho,hcl,hd⟩
def vO{vs:List V}{its:List Value}(r:aP vs its)(q:List Nat)(hq:∀i∈q,i < vs.length):aP (q.map fun i=>vs.getD i .non) (q.map fun i=>its.getD i Value.none):=by
 induction q with
 | nil=>exact .nil
 | cons i q ih =>
  refine .cons ?_ (ih fun j hj=>hq j (List.mem_cons_of_mem _ hj))
  have hi:=hq i List.mem_cons_self
  have:∀{vs:List V}{its:List Value}{i:Nat},aP vs its->i < vs.length->bu (vs.getD i .non) (its.getD i Value.none):=by
   intro vs its i r
   induction r generalizing i with
   | nil=>intro h;simp at h
   | cons a b ih =>
    intro h
    cases i with
    | zero=>simpa using a
    | succ i=>simpa using ih (by simpa using h)
  exact this r hi
def oX:∀{ns:List Int}{its:List Value},PyProof.Rows.IntsAre its ns->aP (ns.map V.int) its:=by
 intro ns its h
 induction h with
 | nil=>exact .nil
 | cons=>exact .cons ⟨_,rfl⟩ ‹_›
def qN:eZ X (.builtin "sorted") (fun xs H Q=>∃ p ys,xs=[.ref p]/\SqL X.K H p ys/\ys.length < 64 /\
    ((∃ ns,ys=ns.map V.int/\∀ l,H l=none->Q (.ref l) (upd H l (.lst ((jb ns).map V.int)))) \/
     (∃ps,PrH X.K H ys ps/\ps.Nodup/\∀l (q:List Nat),H l=none->q.Perm (List.range ys.length)->q.map (fun i=>ps.getD i (0,0))=cP ps->Q (.ref l) (upd H l (.lst (q.map fun i=>ys.getD i .non)))))):=by
  intro js s Y H xs us Q I rv h
  obtain⟨p,ys,rfl,hq,h64,h⟩:=h
  obtain⟨u,rfl,rx⟩:=fw rv
  cases rx
  obtain⟨its,r,pl,hz⟩:=I.list hq
  have hlen:=r.length
  have hfr:=I.hok.fresh (Nat.le_succ s.heap.objs.size)
  rcases h with⟨ns,rfl,q⟩ |⟨ps,hp,hd,q⟩
  . refine sorted_ints pl.isList (gB r) (by omega) fun out ns' a1 a2 a3=>?_
    obtain⟨c,hc⟩:=sortedAll_at s.heap its out
    have e:=lH a2 a3
    subst e
    refine⟨.ref (s.heap.objs.size+1),_,I.laid (fun b o=>sortedAll_old) (Nat.le_succ _) ?_,rfl,q _ hfr⟩
    refine⟨?_,out.toList,c,oX a1,by simpa using hc⟩
    rw[sizeLine_eq];simp[(fB ns).length_eq]at h64 ⊢;omega
  . refine ox pl.isList (by omega) (hp.at I r) hd fun p P a=>?_
    obtain⟨c,hc⟩:=sortedAll_at s.heap its (lT its p)
    have hl:=hp.len
    have pm:p.toList.Perm (List.range ys.length):=by rw[hlen];exact P.pm
    refine⟨.ref (s.heap.objs.size+1),_,I.laid (fun b o=>sortedAll_old) (Nat.le_succ _) ?_,rfl,q _ p.toList hfr pm (uI hd (by rw[<- hl,hlen];exact P) (by rw[<- hl,hlen];exact a))⟩
    refine⟨?_,_,c,vO r p.toList (fun i hi=>by simpa using pm.mem_iff.mp hi),hc⟩
    rw[sizeLine_eq];simp[P.sz,<- hlen];omega
end
end PR
namespace PR
open PySem PySem.Spec L2
def prV(x:Int×Int):PV:=.tup [.int x.1,.int x.2]
def lR:PV->Option (Int×Int)
 | .tup [.int a,.int b]=>some (a,b)
 | _=>none
def iw:List PV->Option (List (Int×Int))
 | []=>some []
 | x::xs=>match lR x,iw xs with
  | some y,some ys=>some (y::ys)
  | _,_=>none
def eK:PV->Res PV
 | .lst _ xs=>if decide (xs.length < 64) then (match bh xs with
  | some ns=>.ok (.lst .own ((jb ns).map .int))
  | none=>match iw xs with
   | some ps=>if decide ps.Nodup then .ok (.lst .own ((cP ps).map prV))else .stuck
   | none=>.stuck)else .stuck
 | _=>.stuck
section
variable{X:Cx}{T:Tb}{W:Nat->St->Hp->Prop}{Z:Zn}{F F1 B L:Addr->Prop}{H H1:Hp}{Y:St}{env:En}{fp:Nat->List Addr}
def uP(e:lR x=some y):x=prV y:=by
 unfold lR at e
 split at e
 ·cases e;rfl
 ·cases e
def lQ:∀{xs:List PV}{vs:List V}{f:List Addr}{ps:List (Int×Int)},iw xs=some ps->RelL T F B L H xs vs f->PrH T.K H vs ps/\f=[]
 | [],_,_,_,e,r=>by cases e;unfold RelL at r;obtain⟨rfl,rfl⟩:=r;exact⟨trivial,rfl⟩
 | x::xs,_,_,ps,e,r=>by
  unfold RelL at r
  obtain⟨v,ws,f1,f2,rfl,h1,h2,rfl⟩:=r
  unfold iw at e
  cases e1:lR x with
  | none=>rw[e1]at e;cases e
  | some y =>
   cases e2:iw xs with
   | none=>rw[e1,e2]at e;cases e
   | some ys =>
    rw[e1,e2]at e
    cases e
    obtain⟨q,rfl⟩:=lQ e2 h2
    have:=uP e1
    subst this
    unfold prV Rel at h1
    obtain⟨a,us,rfl,hs,hr⟩:=h1
    unfold RelL at hr
    obtain⟨v1,w1,g1,g2,rfl,k1,k2,rfl⟩:=hr
    obtain⟨v2,rfl,k3⟩:=RelL.one k2
    unfold Rel at k1 k3
    obtain⟨rfl,rfl⟩:=k1
    obtain⟨rfl,rfl⟩:=k3
    exact⟨⟨⟨a,rfl,hs⟩,q⟩,rfl⟩
def PrH.rel:∀{vs:List V}{ps:List (Int×Int)},PrH T.K H vs ps->RelL T F B L H (ps.map prV) vs []
 | [],[],_=>dY _ _ _ _
 | _::_,x::ps,⟨⟨a,e,h⟩,q⟩=>by
  subst e
  rw[List.map_cons]
  unfold RelL
  refine⟨_,_,[],[],rfl,?_,q.rel,rfl⟩
  unfold prV Rel
  refine⟨a,_,rfl,h,?_⟩
  unfold RelL
  refine⟨_,_,[],[],rfl,fe,?_,rfl⟩
  unfold RelL
  exact⟨_,_,[],[],rfl,fe,dY _ _ _ _,rfl⟩
def PrH.get:∀{vs:List V}{ps:List (Int×Int)},PrH K H vs ps->∀i,i < vs.length->∃a,vs.getD i .non=.ref a/\SqT K H a [.int (ps.getD i (0,0)).1,.int (ps.getD i (0,0)).2]
 | _::_,_::_,⟨h,q⟩,0,_=>by simpa using h
 | _::_,_::_,⟨_,q⟩,i+1,hi=>by simpa using q.get i (by simpa using hi)
 | [],[],_,_,hi=>by simp at hi
def PrH.map(h:PrH K H vs ps)(q:List Nat)(hq:∀i∈q,i < vs.length):PrH K H (q.map fun i=>vs.getD i .non) (q.map fun i=>ps.getD i (0,0)):=by
 induction q with
 | nil=>trivial
 | cons i q ih=>exact⟨h.get i (hq i List.mem_cons_self),ih fun j hj=>hq j (List.mem_cons_of_mem _ hj)⟩
def An(ns:List Int):RelL T F B L H (ns.map PV.int) (ns.map V.int) []:=by
 induction ns with
 | nil=>exact dY _ _ _ _
 | cons a l ih =>
  rw[List.map_cons,List.map_cons]
  unfold RelL
  exact⟨_,_,[],[],rfl,fe,ih,rfl⟩
def RelL.len2:∀{xs:List PV}{vs:List V}{f:List Addr},RelL T F B L H xs vs f->xs.length=vs.length
 | [],_,_,r=>by unfold RelL at r;rw[r.1];rfl
 | x::xs,_,_,r=>by
  unfold RelL at r
  obtain⟨v,ws,f1,f2,rfl,_,h2,_⟩:=r
  simp[h2.len2]
def r8(hK:X.K=T.K):Mir T W (p1 eK) (fun xs H Q=>∃ p ys,xs=[.ref p]/\SqL X.K H p ys/\ys.length < 64 /\
    ((∃ ns,ys=ns.map V.int/\∀ l,H l=none->Q (.ref l) (upd H l (.lst ((jb ns).map V.int)))) \/
     (∃ps,PrH X.K H ys ps/\ps.Nodup/\∀l (q:List Nat),H l=none->q.Perm (List.range ys.length)->q.map (fun i=>ps.getD i (0,0))=cP ps->Q (.ref l) (upd H l (.lst (q.map fun i=>ys.getD i .non)))))):=by
  intro B F L Y H Q F' H' xs vs fx g r nf nd new q
  match xs,r,q with
  | [x],r,q =>
    obtain⟨v,rfl,r1⟩:=r.one
    simp only[p1]at q
    cases x with
    | lst f xs =>
      unfold Rel at r1
      obtain⟨a,ws,fp',rfl,hl,hr,_⟩:=r1
      simp only[eK]at q
      by_cases hn:decide (xs.length < 64)=true
      . rw[if_pos hn]at q
        refine⟨a,ws,rfl,by rw[hK];exact hl.sq,by rw[<- hr.len2];exact of_decide_eq_true hn,?_⟩
        cases e1:bh xs with
        | some ns =>
          rw[e1]at q
          dsimp only at q
          exact .inl ⟨ns,cq e1 hr,GE.newL q g (An _) (fun _ h=>by cases h) .nil (fun _ h=>by cases h)⟩
        | none =>
          rw[e1]at q
          dsimp only at q
          cases e2:iw xs with
          | none=>rw[e2]at q;exact q.elim
          | some ps =>
            rw[e2]at q
            dsimp only at q
            by_cases hd:decide ps.Nodup=true
            . rw[if_pos hd]at q
              obtain⟨hp,rfl⟩:=lQ e2 hr
              refine .inr ⟨ps,by rw[hK];exact hp,of_decide_eq_true hd,fun l q' hl' pm e=>?_⟩
              have h2:=hp.map q' fun i hi=>by simpa using pm.mem_iff.mp hi
              rw[e]at h2
              exact GE.newL q g h2.rel (fun _ h=>by cases h) .nil (fun _ h=>by cases h) l hl'
            . rw[if_neg hd]at q;exact q.elim
      . rw[if_neg hn]at q;exact q.elim
    | _=>exact q.elim
  | [],_,q=>exact q.elim
  | _::_::_,_,q=>simp only[p1]at q;exact q.elim
def vG:bootBuiltins "sorted" = some (.builtin "sorted"):=by decide +kernel
def kg(hK:X.K=T.K)(hg:Gl X "sorted")(hm:X.mg "sorted" = none)(ha:SE X T W e m)(he:starEach [e] X.env=[(false,eval e X.env)]:=by rfl):SE X T W (.Call (.Name "sorted" p) [e] [] pos) (aq (p1 eK) (ae m am)) :=
 f8 qN (r8 hK) hg hm vG (aa ha ag (by rw[he];rfl)) (he:=by rw[he];rfl) (hpl:=rfl)
end
section
variable{X:Cx}{T:Tb}{W:Nat->St->Hp->Prop}{Z:Zn}{F:Addr->Prop}{H:Hp}{Y:St}{env:En}{fp:Nat->List Addr}
def dU(hg:Gl X x)(hm:∃t,X.mg x=some (.int i t))(hd:(x ==("__debug__" : Str))=false:=by decide):SE X T W (.Name x pos) (mC (.int i)):=by
 obtain⟨t,h⟩:=hm
 exact wd hg h hd
end
def iq{α:Type}(n:Nat)(y:α)(xs:List α):List α:=xs.take n++y::xs.drop n
def CP:PV->PV->Res PV:=fE (fun _ j=>decide (0<=j)) fun i j=>.int (i / 2 ^ j.toNat)
def wT:PV->PV->Res PV:=di fun i j=>.int (Builtin.bitAnd i j)
def dR(ns:List Int):Bool:=ns.all fun v=>decide (-1000000<=v/\v<=1000000)
def jP:PV->Res PV:=fun x=>match aL x with
 | some xs=>match bh xs with
  | some ns=>if decide (ns.length<=1000)&&dR ns then .ok (.int ns.sum)else .stuck
  | none=>.stuck
 | none=>.stuck
def oH(ns:List Int):∀n,n<=ns.length->preSum (fun i=>ns.getD i 0) n=(ns.take n).sum
 | 0,_=>rfl
 | n+1,h=>by
  have hn:n < ns.length:=h
  have e:preSum (fun i=>ns.getD i 0) (n+1)=preSum (fun i=>ns.getD i 0) n+ns.getD n 0:=rfl
  rw[e,oH ns n (by omega),List.take_add_one,List.getElem?_eq_getElem hn,Option.toList_some,List.sum_append,List.sum_singleton]
  simp[hn]
def nC:∀{ns:List Int},dR ns=true->-(1000000 * ns.length:Int)<= ns.sum/\ns.sum<=1000000 * ns.length
 | [],_=>by simp
 | n::ns,h=>by
  simp only[dR,List.all_cons,Bool.and_eq_true,decide_eq_true_eq]at h
  have:=nC (ns:=ns) (by simpa[dR]using h.2)
  simp only[List.sum_cons,List.length_cons]
  omega
def rB(h:dR ns=true)(k:Nat):dR (ns.take k)=true:=by
 simp only[dR,List.all_eq_true]at h ⊢
 exact fun x hx=>h x (List.mem_of_mem_take hx)
section
variable{X:Cx}{T:Tb}{W:Nat->St->Hp->Prop}{Z:Zn}{F F1 B L:Addr->Prop}{H H1:Hp}{Y:St}{env:En}{fp:Nat->List Addr}{js:List (Addr×Obj)}{s:Shared}{a b:Expr}{ma mb:ME}{pos:Pos}
def Ck(ha:SE X T W a ma)(hb:SE X T W b mb):SE X T W (.BinOp a .RShift b pos) (mOp CP ma mb):=kM CS (qk (fun _ _ h=>of_decide_eq_true h) fun _ _ _ _ _ _=>fe) ha hb
def Ag(ha:SE X T W a ma)(hb:SE X T W b mb):SE X T W (.BinOp a .BitAnd b pos) (mOp wT ma mb):=kM CY (lX fun _ _ _ _ _ _=>fe) ha hb
def pf(hc:X.calm=true):eZ X (.builtin "sum") (fun xs H Q=>∃p ns,xs=[.ref p]/\(SqL X.K H p (ns.map V.int)\/ SqT X.K H p (ns.map V.int))/\ns.length<=1000/\dR ns=true/\Q (.int ns.sum) H):=by
 intro js s Y H xs us Q I rv h
 obtain⟨p,ns,rfl,hq,hn,hsm,q⟩:=h
 obtain⟨u,rfl,rx⟩:=fw rv
 cases rx
 have hh:=I.ok.hd hc
 have fit:∀m,m=ns.length->∀j,j < m->InLong (ns.getD j 0)/\InLong (preSum (fun i=>ns.getD i 0) (j+1)):=fun m e j hj=>by
  subst e
  have h1:ns.getD j 0∈ns:=by simp[hj]
  simp only[dR,List.all_eq_true,decide_eq_true_eq]at hsm
  have h2:=hsm _ h1
  have h3:=nC (rB (k:=j+1) (show dR ns=true by simpa[dR,List.all_eq_true]using hsm))
  rw[oH ns (j+1) hj]
  have h4:(ns.take (j+1)).length<=1000:=by simp;omega
  unfold InLong
  omega
 have key:∀{its:List Value},aP (ns.map V.int) its->∀{h':Heap}{tk t':Nat},(∀b o,s.heap.get? b=some o->h'.get? b=some o)->EP X js Y Q (.int (preSum (fun i=>ns.getD i 0) its.toArray.size) t') { s with heap:=h',toks:=tk }:=by
  intro its r h' tk t' k
  have hl:its.toArray.size=ns.length:=by
   have:=r.length
   simpa using this.symm
  rw[hl,oH ns _ (Nat.le_refl _),List.take_length]
  exact⟨.int _,H,iK I k,⟨t',rfl⟩,q⟩
 rcases hq with hq | hq
 ·obtain⟨its,r,pl,hz⟩:=I.list hq
  have hl:its.toArray.size=ns.length:=by
   have:=r.length
   simpa using this.symm
  obtain⟨o,ho,hcl,n,hd⟩:=pl.isList
  have hlt:=Heap.lt_size ho
  refine call_sum_walk (wpAny_pyIter_list pl.isList ?_)
  refine⟨_,_,_,_,_,_,(fun i=>ns.getD i 0),rfl,Walks.list (A:=X.A.in1) hh _ p (Nat.ne_of_lt hlt) its.toArray,⟨⟨_,Heap.get?_push_size _ rfl,rfl,rfl⟩,pl.isList.push _⟩,fun b hb=>?_,d8 r,fit _ hl,fun h' tk t' hk=>key r (eO hk)⟩
  show b <(s.heap.push _).objs.size
  rw[Heap.size_push]
  exact ig hlt rfl b hb
 ·obtain⟨its,r,pl,hz⟩:=I.tuple hq
  have hl:its.toArray.size=ns.length:=by
   have:=r.length
   simpa using this.symm
  have pt:s.heap.IsTuple p its.toArray:=pl
  obtain⟨o,ho,hcl,n,hd⟩:=pl
  have hlt:=Heap.lt_size ho
  refine call_sum_walk (wpAny_pyIter_tuple pt ?_)
  refine⟨_,_,_,_,_,_,(fun i=>ns.getD i 0),rfl,Walks.tuple (A:=X.A.in1) hh _ p (Nat.ne_of_lt hlt) its.toArray,⟨⟨_,Heap.get?_push_size _ rfl,rfl,rfl⟩,pt.push _⟩,fun b hb=>?_,d8 r,fit _ hl,fun h' tk t' hk=>key r (eO hk)⟩
  show b <(s.heap.push _).objs.size
  rw[Heap.size_push]
  exact ig hlt rfl b hb
def AZ(hK:X.K=T.K):Mir T W (p1 jP) (fun xs H Q=>∃p ns,xs=[.ref p]/\(SqL X.K H p (ns.map V.int)\/ SqT X.K H p (ns.map V.int))/\ns.length<=1000/\dR ns=true/\Q (.int ns.sum) H):=by
 intro B F L Y H Q F' H' xs vs fx gr r nf nd new q
 match xs,r,q with
 | [x],r,q =>
  obtain⟨v,rfl,rv⟩:=RelL.one r
  simp only[p1,jP]at q
  cases e:aL x with
  | none=>rw[e]at q;exact q.elim
  | some ys =>
   rw[e]at q
   dsimp only at q
   cases e2:bh ys with
   | none=>rw[e2]at q;exact q.elim
   | some ns =>
    rw[e2]at q
    dsimp only at q
    obtain⟨a,us,fx',rfl,hs,hr,_⟩:=rv.seq e
    have hu:=cq e2 hr
    subst hu
    split at q
    ·rename_i hc
     simp only[Bool.and_eq_true,decide_eq_true_eq]at hc
     exact⟨a,_,rfl,by rw[hK];exact hs,hc.1,hc.2,q.scal gr fe⟩
    ·exact q.elim
 | [],_,q=>exact q.elim
 | _::_::_,_,q=>simp only[p1]at q;exact q.elim
def El:bootBuiltins "sum" = some (.builtin "sum"):=by decide +kernel
def lJ(hK:X.K=T.K)(hc:X.calm=true)(hg:Gl X "sum")(hm:X.mg "sum" = none)(ha:SE X T W e m)(he:starEach [e] X.env=[(false,eval e X.env)]:=by rfl):SE X T W (.Call (.Name "sum" p) [e] [] pos) (aq (p1 jP) (ae m am)) :=
 f8 (pf hc) (AZ hK) hg hm El (aa ha ag (by rw[he];rfl)) (he:=by rw[he];rfl) (hpl:=rfl)
end
structure Sup(K:PySem.W.Frag)(C f:Addr):Prop where
 ga:PySem.W.specialIn K (.ref C) "__getattribute__" = some (some (.builtin "type.__getattribute__"))
 rd:PySem.W.readsIn K C (.type "type")=true
 fc:PySem.W.findCls K (.ref C) (.type "type") "__init__" = some (.val (.ref f))
 kp:PySem.W.keepIn K (.ref f)=true
def ib(m:List PV->Res PV)(ms:MA):MS:=fun env=>match (env[(0:Nat)]?:Option (Option PV))with
 | some (some (.obj .own c ks vs))=>match ms env with
  | .ok xs=>if hasL Fl.isLnt xs then .stuck else match m (.obj .own c ks vs::mapL Fl.toBor xs)with
   | .ok (.obj fl c' ks' vs')=>if(PV.obj fl c' ks' vs').has Fl.isBor then .stuck else .next (env.set 0 (some (.obj fl c' ks' vs')))
   | _=>.stuck
  | .exc c=>.exc c env
  | .stuck=>.stuck
 | _=>.stuck
section
variable{X:Cx}{T:Tb}{W:Nat->St->Hp->Prop}{Z:Zn}{F F1 F3:Addr->Prop}{H H1 H3:Hp}{Y:St}{env:En}{fp:Nat->List Addr}
def av.sup(S:av T Z F H Y env fp)(h0:Y[0]?=some (some v0))(hl:0 < env.length)
  (nx:∀a∈fx,Z.H0 a=none\/Z.fp0 a) (nj:∀a∈fx,∀i,a∉fp i) (nF:∀a∈fx,¬F a) (cx:∀a∈fx,∃o,H a=some o/\Chg o)
  (hp3:ck T ⟨H,F,(·∈fp 0++fx),B',some v0⟩ F3 H3) (r:Rel T F3 B' NoL H3 o v0 f3) (hb:o.has Fl.isBor=false) (nd3:f3.Nodup) (nf3:∀a∈f3,¬F3 a) (new3:∀a∈f3,H a=none\/a∈fp 0++fx)
  (ho:∃fl c ks xs,o=.obj fl c ks xs):av T Z F3 H3 Y (env.set 0 (some o)) (br fp 0 f3):=by
 have zfree:∀a,H a=none->Z.H0 a=none\/Z.fp0 a:=fun a z=>by
  by_cases q:Z.fp0 a
  ·exact .inr q
  ·refine .inl ?_
   cases w:Z.H0 a with
   | none=>rfl
   | some o=>rw[S.hp.keep a o w q]at z;exact(nomatch z)
 have inn:∀a∈fp 0++fx,Z.H0 a=none\/Z.fp0 a:=fun a h=>by
  rcases List.mem_append.mp h with h | h
  ·exact S.new 0 a h
  ·exact nx a h
 have jn:∀j,j≠0->∀a∈fp j,a∉fp 0++fx:=fun j hj a ha z=>by
  rcases List.mem_append.mp z with z | z
  ·exact S.dj j 0 hj a ha z
  ·exact nj a z j ha
 have chgn:∀a∈fp 0++fx,∃o,H a=some o/\Chg o:=fun a h=>by
  rcases List.mem_append.mp h with h | h
  ·exact S.ch 0 a h
  ·exact cx a h
 have rel':Rel T F3 Z.B NoL H3 o v0 f3:=Rel.noB hb r
 refine⟨⟨S.hp.bo,fun a u e n=>hp3.keep a u (S.hp.keep a u e n) fun z=>?_,fun a h=>hp3.f0 a (S.hp.f0 a h),fun a h=>?_,hp3.ft⟩,by rw[List.length_set,S.len],fun j pv e=>?_,fun j=>?_,fun j k hjk b hb=>?_,fun j b hb=>?_,fun j b hb=>?_,fun j b hb=>?_,fun w hw=>?_⟩
 ·rcases inn a z with q | q
  ·rw[e]at q;cases q
  ·exact n q
 ·rcases hp3.fn a h with z | z | z
  ·exact S.hp.fn a z
  ·exact .inr (zfree a z)
  ·exact .inr (inn a z)
 ·by_cases hj:j=0
  ·subst hj
   rw[List.getElem?_set_self hl]at e
   cases e
   refine⟨v0,h0,?_⟩
   unfold br
   rw[if_pos rfl]
   exact rel'
  ·rw[List.getElem?_set_ne (Ne.symm hj)]at e
   obtain⟨w,h1,h2⟩:=S.rel j pv e
   refine⟨w,h1,?_⟩
   unfold br
   rw[if_neg hj]
   refine Rel.tr (fun a h=>hp3.f0 a h) (fun _ h=>h) (fun _ h=>h) (fun b u q h=>hp3.keep b u q fun z=>?_) (fun b hb u q=>hp3.keep b u q (jn j hj b hb)) h2
   rcases h with h | h | h | h
   ·rcases List.mem_append.mp z with z | z
    ·exact(S.dis 0 b z).1 h
    ·exact nF b z h
   ·obtain⟨⟨o',e1⟩,e2⟩:=S.hp.bo b h
    rcases inn b z with q' | q'
    ·rw[e1]at q';cases q'
    ·exact e2 q'
   ·exact h
   ·obtain⟨o',e1,e2⟩:=chgn b z
    have q1:H b=some u:=q
    rw[q1]at e1
    cases e1
    cases u with
    | lst _ | ins _ _ _=>exact h
    | _=>exact e2
 ·unfold br;split
  ·exact nd3
  ·exact S.nd j
 ·grind[br,av,ck,Gr]
 ·unfold br at hb
  by_cases h1:j=0
  ·rw[if_pos h1]at hb;exact⟨nf3 b hb,r.there b hb⟩
  ·rw[if_neg h1]at hb
   obtain⟨n,u,e⟩:=S.dis j b hb
   refine⟨fun z=>?_,u,hp3.keep b u e (jn j h1 b hb)⟩
   rcases hp3.fn b z with q | q | q
   ·exact n q
   ·have q':H b=none:=q
    rw[e]at q';cases q'
   ·exact jn j h1 b hb q
 ·unfold br at hb
  by_cases h1:j=0
  ·rw[if_pos h1]at hb
   rcases new3 b hb with q | q
   ·exact zfree b q
   ·exact inn b q
  ·rw[if_neg h1]at hb;exact S.new j b hb
 ·unfold br at hb
  by_cases h1:j=0
  ·rw[if_pos h1]at hb;exact r.chg b hb
  ·rw[if_neg h1]at hb
   obtain⟨u,e,c⟩:=S.ch j b hb
   exact⟨u,hp3.keep b u e (jn j h1 b hb),c⟩
 ·obtain⟨h1,h2⟩:=S.pn w hw
  refine⟨h1,?_⟩
  obtain⟨fl,c,ks,xs,e⟩:=ho
  subst e
  unfold cK
  rw[List.getElem?_set_self hl]
def Cd
  (cx:Ctx X T W kk) (U:Sup X.K C f) (G:dA X.prog X.w X.K X.mg X.base (CXP X.prog X.w) k f fd ps (spI T ps.length m)) (hk:k<=kk) (hg:Gl X x) (hm:X.mg x=some (.ref C)) (hb:fM X.K fd ps [])
  (hN:X.N[0]?=some y) (hv:Vis X.env.scope y) (hn:ie ms n) (hps:n+1=ps.length) (ha:SA X T W es ms)
  (hdb:(x ==("__debug__" : Str))=false:=by decide) (hdy:(y ==("__debug__" : Str))=false:=by decide) (hcy:(y ==("__classdict__" : Str))=false:=by decide)
  (hst:starEach (.Name y px::es) X.env=(false,eval (.Name y px) X.env)::starEach es X.env:=by rfl) (hpl:(backTo pos (starEach es X.env)).any (·.1)=false:=by rfl)
  (ht:eval (.Call (.Attribute (.Name x p) "__init__" apos) (.Name y px::es) [] pos) X.env=(do
   let ov <- eval (.Name x p) X.env
   standAt apos.atName
   let(f,first) <- holding [ov] (getMethod ov "__init__" pl)
   callWith pos f first (backTo pos (starEach (.Name y px::es) X.env)) (backToKw pos (keywordEach [] X.env))):=by rfl)
  (hs:swapsWith (.Call (.Attribute (.Name x p) "__init__" apos) (.Name y px::es) [] pos) none pos'.line X.env=pure false:=by rfl) :
  SS X T W (.Expr (.Call (.Attribute (.Name x p) "__init__" apos) (.Name y px::es) [] pos) pos') (ib m ms):=by
 have pe:PE X (.Call (.Attribute (.Name x p) "__init__" apos) (.Name y px::es) [] pos) (fun Y H Q=>∃ Z F env fp,av T Z F H Y env fp/\(match ib m ms env with
   | .next e=>∀F' H' fp',av T Z F' H' Y e fp'->Q .non H'
   | .exc c e=>∀F' H' fp',av T Z F' H' Y e fp'->W c Y H'
   | _=>False)):=by
  intro js s Y H Q I h
  obtain⟨Z,F,env,fp,S,q⟩:=h
  refine PySem.W.methodCall_KW (pl:=pl) (jZ I hg hm ?_ hdb) ht
  refine PySem.W.method_cls I.kIn U.ga (PySem.W.cls_value I.kIn U.rd U.fc rfl ?_)
  have I':=I.tok (s.toks+1)
  unfold ib at q
  cases e0:env[0]? with
  | none=>rw[e0]at q;exact q.elim
  | some o0 =>
  cases o0 with
  | none=>rw[e0]at q;exact q.elim
  | some ov =>
  obtain⟨v0,hv0,r0⟩:=S.rel 0 ov e0
  have hl0:0 < env.length:=(List.getElem?_eq_some_iff.mp e0).1
  rw[e0]at q
  by_cases hob:∃c ks vs,ov=.obj .own c ks vs
  case neg =>
   exfalso
   cases ov with
   | obj fl c ks vs =>
    cases fl with
    | own=>exact hob ⟨_,_,_,rfl⟩
    | _=>exact q
   | _=>exact q
  obtain⟨c,ks,vs0,rfl⟩:=hob
  dsimp only at q
  have pa:=dD (X:=X) (dy (pos:=px) hN hv hdy hcy) ha hst
  refine PySem.W.callWith_K (first:=[]) (h₀:=X.base) I'.ok.mod.kin U.kp (thn (pa pos js _ Y H (fun vs H1=>∀ us s1,L2.Inv X js Y H1 s1->aP vs us->wpAny (model X.prog X.w) X.A (call (.ref f) us) (EP X js Y Q) X.xe s1) I'
   ⟨v0,hv0,tA.bind S (fun c e=>?_) (fun e=>by rw[e]at q;exact q) fun xs vs H1 F1 f1 e1 g1 r1 n1 d1 w1 us s1 I1 rv=>?_⟩) fun us s1 ⟨vs,H1,I1,r,q1⟩=>⟨I1.kIn,q1 us s1 I1 r⟩) hst hpl
  ·rw[e]at q
   exact fun H' x=>q F H' fp (S.grow (Gr.same S.hp.ft x))
  rw[e1]at q
  dsimp only at q
  by_cases hln:hasL Fl.isLnt xs=true
  ·rw[if_pos hln]at q;exact q.elim
  rw[if_neg hln]at q
  have hln':hasL Fl.isLnt xs=false:=by simpa using hln
  have S1:=S.grow g1
  obtain⟨v0',hv0',r0'⟩:=S1.rel 0 _ e0
  rw[hv0]at hv0'
  cases hv0'
  have xn:∀a∈f1,∀i,a∉fp i:=fun a ha i hi=>by
   obtain⟨_,o,e⟩:=S.dis i a hi
   rw[w1 a ha]at e;cases e
  have xz:∀a∈f1,Z.H0 a=none\/Z.fp0 a:=fun a ha=>by
   by_cases q:Z.fp0 a
   ·exact .inr q
   ·refine .inl ?_
    cases w:Z.H0 a with
    | none=>rfl
    | some o =>
     have:=w1 a ha
     rw[S.hp.keep a o w q]at this;cases this
  have hBo:∀a,Z.B a->(∃o,H1 a=some o)/\a∉fp 0++f1:=fun a h=>by
   obtain⟨⟨o,h1⟩,h2⟩:=S.hp.bo a h
   have h3:=S.hp.keep a o h1 h2
   refine⟨⟨o,g1.ext a o h3⟩,fun z=>?_⟩
   rcases List.mem_append.mp z with z | z
   ·exact S.bow a h ⟨0,z⟩
   ·rw[w1 a z]at h3;cases h3
  have R:vL T F1 (fun a=>(∃o,H1 a=some o)/\a∉fp 0++f1) H1 (.obj .own c ks vs0::mapL Fl.toBor xs) (v0::vs) (fp 0++f1):=by
   refine⟨?_,List.nodup_append.mpr ⟨S.nd 0,d1,fun a ha b hb z=>by subst z;exact xn a hb 0 ha⟩,fun a ha=>?_,fun a h=>h,g1.dom⟩
   ·unfold RelL
    refine⟨v0,vs,fp 0,f1,rfl,Rel.tr (fun _ h=>h) hBo (fun _ h=>h) (fun _ _ q _=>q) (fun _ _ _ q=>q) r0',?_,rfl⟩
    exact RelL.toBor hBo (fun _ h=>h.elim) (RelL.noL (L':=NoL) hln' r1)
   ·rcases List.mem_append.mp ha with ha | ha
    ·exact(S1.dis 0 a ha).1
    ·exact n1 a ha
  have r2:aP (v0::vs) us:=rv
  have hl:us.length=ps.length:=by
   rw[<- r2.length,List.length_cons,<- r1.length,hn env xs e1]
   exact hps
  refine wpAny_call (codeAny_mono (G.run X.A X.stack s1 H1 ⟨us,[]⟩ us (v0::vs) Q (fun cls _ H'=>∃ c,cls=.ref (T.xcl c)/\W c Y H') (cx.room.mono hk) I1.env0 (by simpa using hb s1 us I1.kIn (by simpa using hl)) r2
   ⟨by rw[r2.length,hl],v0,_,F1,_,_,rfl,R,⟨.own,c,ks,vs0,rfl⟩,?_⟩) fun rs s' hq=>?_)
  ·cases e:m (.obj .own c ks vs0::mapL Fl.toBor xs)with
   | ok o =>
    rw[e]at q
    cases o with
    | obj fl c' ks' vs' =>
     dsimp only at q
     by_cases hbr:(PV.obj fl c' ks' vs').has Fl.isBor=true
     ·rw[if_pos hbr]at q;exact q.elim
     ·rw[if_neg hbr]at q
      dsimp only at q
      have hbr':(PV.obj fl c' ks' vs').has Fl.isBor=false:=by simpa using hbr
      intro F3 H3 f3 hp3 r3 nd3 nf3 new3
      exact q F3 H3 _ (S1.sup hv0 hl0 xz xn n1 r1.chg hp3 r3 hbr' nd3 nf3 new3 ⟨_,_,_,_,rfl⟩)
    | _=>exact q.elim
   | exc c | stuck=>rw[e]at q;exact q.elim
  ·cases rs with
   | error e =>
    obtain⟨cls,H',fl,c,rfl,hw⟩:=hq
    exact cx.xf js Y H1 s1 c H' e s' I1 fl hw
   | ok fl =>
    cases fl with
    | ret u=>exact I1.after hq
    | next | brk | cont=>exact False.elim hq
 exact PS.wk (iW (pos:=pos') pe hs) fun D Y H hz1=>by
  obtain⟨Z,F,env,fp,S,q⟩:=hz1
  refine⟨Z,F,env,fp,S,?_⟩
  cases e:ib m ms env with
  | next e' | exc c e'=>rw[e]at q;exact fun F' H' fp' S'=>q F' H' Y fp' S'
  | ret v =>
   exfalso
   revert e
   unfold ib
   split
   ·split
    ·split
     ·simp
     ·split
      ·split<;>simp
      ·simp
    ·simp
    ·simp
   ·simp
  | brk e' =>
   exfalso
   revert e
   unfold ib
   split
   ·split
    ·split
     ·simp
     ·split
      ·split<;>simp
      ·simp
    ·simp
    ·simp
   ·simp
  | cont e' =>
   exfalso
   revert e
   unfold ib
   split
   ·split
    ·split
     ·simp
     ·split
      ·split<;>simp
      ·simp
    ·simp
    ·simp
   ·simp
  | stuck=>rw[e]at q;exact q
end
end PR
namespace PR
open PySem PySem.Spec L2
def whL(c:MT)(b:MS):Nat->MS
 | 0,_=>.stuck
 | k+1,env=>match c env with
  | .ok true=>match b env with
   | .next e | .cont e=>whL c b k e
   | .brk e=>.next e
   | .ret v=>.ret v
   | .exc x e=>.exc x e
   | .stuck=>.stuck
  | .ok false=>.next env
  | .exc x=>.exc x env
  | .stuck=>.stuck
def jp(c:MT)(b:MS):MS:=whL c b 100000
section
variable{X:Cx}{T:Tb}{W:Nat->St->Hp->Prop}
def lF(hp:PassesOwn (model X.prog X.w) X.A X.env X.xe)(hc:ST X T W c mc)(hb:SSs X T W body mb):SS X T W (.While c body [] pos) (jp mc mb) :=
 PS.wk (wA (pos:=pos) hp hc hb) fun D Y H hz1=>by
  obtain⟨Z,F,env,fp,S,q⟩:=hz1
  unfold jp at q
  refine⟨fun m σ' H'=>∃F' env' fp',av T Z F' H' σ' env' fp'/\GS T W Z D (whL mc mb m env'),⟨100000,F,env,fp,S,q⟩,?_⟩
  rintro m σ' H' ⟨F',env',fp',S',q'⟩
  cases m with
  | zero=>exact q'.elim
  | succ k =>
   unfold whL at q'
   refine tT.bind S' (fun c e H2 x=>?_) (fun e=>by rw[e]at q';exact q') fun b H1 F1 e g=>?_
   ·rw[e]at q'
    exact q' F' H2 σ' fp' (S'.grow (Gr.same S'.hp.ft x))
   ·cases b with
    | false=>rw[e]at q';exact(if_neg (by decide)).mpr (q' F1 H1 σ' fp' (S'.grow g))
    | true =>
     rw[e]at q'
     dsimp only at q'
     refine(if_pos rfl).mpr ⟨fun σ2 H2=>∃F2 env2 fp2,av T Z F2 H2 σ2 env2 fp2/\GS T W Z D (whL mc mb k env2),fun σ2 H2 h=>⟨k,Nat.lt_succ_self k,h⟩,Z,F1,env',fp',S'.grow g,?_⟩
     cases eb:mb env' with
     | next e2 | cont e2=>rw[eb]at q';exact fun F3 H3 σ3 fp3 S3=>⟨F3,e2,fp3,S3,q'⟩
     | brk e2 | ret v | exc c e2 | stuck=>rw[eb]at q';exact q'
end
end PR
namespace PR
open PySem PySem.Spec L2
open AutoSeq1 (wpAny_loadPart')
section
variable{prog:Program}{w:World}{A:Around}{E:Value->Shared->Prop}{s:Shared}
def oi(ft:TypeCalled T nI iI)
  (c1:checkTypeCall T ⟨us,kw⟩=pure ()) (c2:checkBuiltinCall nI ⟨.type T::us,kw⟩=pure ()) (eN:entryFor table nI=some Bn) (eI:entryFor table iI=some Bi) (g:Meets (Bn ⟨.type T::us,kw⟩) S)
  (h:S A.in1 (wants Q1 E) s) (nx:∀ob s1,Q1 ob s1->s1.TypeIs ob T/\argsOk iI ⟨ob::us,kw⟩/\∃Si,Meets (Bi ⟨ob::us,kw⟩) Si/\Si A.in1 (wants (fun r s2=>r=.none/\Q ob s2) E) s1) :
  wpAny (model prog w) A (call (.type T) us kw) Q E s:=by
 obtain⟨cc,tt,hmro⟩:=ft.mro
 have hmade:=ft.made;have hsub:=ft.sub;have h1:=ft.notType;have h2:=ft.canCreate
 refine wpAny_call (codeAny_of_tree (show wpAny _ _ (callAny (.type T) _) _ _ _ from wpAny_pure ⟨Code.quiet_builtin _ (by decide +kernel),codeAny_builtin F.entry_type_call ?_⟩))
 rw[Around.under_plain (weight_type_call_type T us kw) (units_type_call_type T us kw)]
 repeat (any_goals (first | assumption | wp_step | fail))
 refine codeAny_mono (codeAny_call_builtin ft.plain eN (wpAny_of_eq c2 (g prog w A.in1 _ s h))) fun r s1 hr=>?_
 cases r with
 | error e=>exact hr
 | ok fl =>
  cases fl with
  | ret ob =>
   obtain⟨hT,hok,Si,gi,hsi⟩:=nx _ _ hr
   have hli:=ft.init.lookup;have hbi:=ft.init.bind ob
   repeat (any_goals (first | assumption | wp_step | fail))
   refine codeAny_mono (codeAny_call_builtin ft.init.plain eI (ft.init.check _ _ _ _ _ _ _ _ hT hok (gi prog w A.in1 _ s1 hsi))) fun r2 s2 hr2=>?_
   cases r2 with
   | error e=>exact hr2
   | ok fl2 =>
    cases fl2 with
    | ret r =>
     obtain⟨rfl,hq⟩:=hr2
     repeat (any_goals (first | assumption | wp_step | fail))
    | _=>exact hr2.elim
  | _=>exact hr.elim
def GP(hl:typeLookup (.type T) "__init__" = pure (some (.builtin "object.__init__")))(hm:Bind.madeBy (.type T)=pure (some nI))(hne:(some nI != some "object.__new__")=true) :
  Meets (Builtin.«object.__init__» ⟨[self,a],kw⟩) (fun _ R s=>s.TypeIs self T/\R (.ok (.ret .none)) s):=by
 refine Meets.of_wp fun pr w A R s0 hs=>?_
 obtain⟨hT,hq⟩:=hs
 repeat (any_goals (first | assumption | wp_step | fail))
 exact⟨_,rfl,hq⟩
def cK1(a v:Value):checkTypeCall "enumerate" ⟨[a],[("start", v)]⟩=pure ():=by kernel_rfl
def cK2(a v:Value):checkBuiltinCall "enumerate.__new__" ⟨[.type "enumerate", a],[("start", v)]⟩=pure ():=by kernel_rfl
def cK3(a b v:Value):argsOk "object.__init__" ⟨[a,b],[("start", v)]⟩:=by
 unfold argsOk
 rw[signature?_of (id := "object.__init__") (n:=['_','_','t','i','n','i','_','_']) (o:=['t','c','e','j','b','o']) (by kernel_rfl) F.owner_object]
 kernel_rfl
abbrev itO(n:String)(l:Addr):Obj:={ cls:=.type n,data:=.fields #[.ref l,.int 0 0] }
abbrev enO(it:Addr)(i:Int):Obj:={ cls:=.type "enumerate", data:=.fields #[.none,.bool false,.ref it,rawInt i,.none,.none] }
def zH(n:String)(l:Addr)(s:Shared):Prop:=∀(pr:Program) (w:World) (A:Around) (Q:Value->Shared->Prop) (E:Value->Shared->Prop),Q (.ref s.heap.objs.size) { s with heap:=s.heap.push (itO n l) }->wpAny (model pr w) A (pyIter (.ref l)) Q E s
def G4(n:String)(l:Addr)(t:Tok) :
  Meets (Builtin.«enumerate.__new__» ⟨[.type "enumerate", .ref l],[("start", .int 1 t)]⟩) (fun _ R s=>zH n l s/\R (.ok (.ret (.ref (s.heap.push (itO n l)).objs.size))) { s with heap:=(s.heap.push (itO n l)).push (enO s.heap.objs.size 1) }) :=
 .of_wp fun pr w A R s0 h=>by
  obtain⟨hp,g,d,tk,os⟩:=s0
  obtain⟨hI,h⟩:=h
  have hsub:=sub_enumerate
  have hJ:∀{Q:Value->Shared->Prop}{E:Value->Shared->Prop},Q (.ref hp.objs.size) ⟨hp.push (itO n l),g,d,tk,os⟩->wpAny (model pr w) A.in1 (pyIter (.ref l)) Q E ⟨hp,g,d,tk,os⟩:=fun {Q E} q=>hI pr w A.in1 Q E q
  have hJ':∀{Q:Value->Shared->Prop}{E:Value->Shared->Prop},Q (.ref hp.objs.size) ⟨hp.push (itO n l),g,d,tk,os⟩->wpAny (model pr w) A (pyIter (.ref l)) Q E ⟨hp,g,d,tk,os⟩:=fun {Q E} q=>hI pr w A Q E q
  wp_walk
  refine wpAny_stack_any fun st=>wpAny_pure ?_
  split<;>try (rename_i c _ _ _ _ _;cases(c==Value.type "enumerate"))
  all_goals (wp_walk using hJ,hJ')
  all_goals exact⟨_,rfl,h⟩
def Ef(hI:zH n l s)(h:Q (.ref (s.heap.objs.size+1)) { s with heap:=(s.heap.push (itO n l)).push (enO s.heap.objs.size 1) }) :
  wpAny (model prog w) A (call (.type "enumerate") [.ref l] [("start", .int 1 t)]) Q E s:=by
 have hz:(s.heap.push (itO n l)).objs.size=s.heap.objs.size+1:=Heap.size_push ..
 refine oi (Q1:=fun ob s1=>s1.TypeIs ob "enumerate" /\ Q ob s1) F.called_enumerate (cK1 _ _) (cK2 _ _) F.entry_enumerate_new F.entry_object_init (G4 n l t) ⟨hI,?_⟩ fun ob s1 hq=>⟨hq.1,cK3 ob _ _,_,GP F.called_enumerate.init.lookup F.called_enumerate.made (by decide),hq.1,rfl,hq.2⟩
 show _/\_
 rw[hz]
 have:=Heap.get?_push_size (s.heap.push (itO n l)) (o:=enO s.heap.objs.size 1) rfl
 rw[hz]at this
 exact⟨⟨_,this,rfl⟩,h⟩
def pV(t:Addr):¬((Value.ref t==Value.none)=true):=Bool.false_ne_true
def xc(hit:s.heap.IsTupleIter it t i)(ht:s.heap.IsTuple t items)(hx:items[i]?=some x)
  (hQ:∀h',h'.IsTupleIter it t (i+1)->Heap.SameBut it s.heap h'->Q x { s with heap:=h' }):wpAny (model prog w) A (Builtin.SmallTypes.nextOf (.ref it)) Q E s:=by
 obtain⟨o,ho,hc,hd⟩:=id hit
 obtain⟨o2,ho2,_,n2,hd2⟩:=ht
 unfold Builtin.SmallTypes.nextOf
 refine wpAny_bind (wpAny_callSpecial?_slot (name:=Str.ofString "__next__") hit.typeIs F.slot_tuple_iterator_next (wpAny_call_entry F.slot_tuple_iterator_next hit.typeIs F.entry_tuple_iterator_next ?_ (F.args_tuple_iterator_next_1 _)))
 refine(show wpAny _ _ (field (.ref it) 0 >>= _) _ _ s from wpAny_bind (wpAny_field ho hd (x:=.ref t) rfl ?_))
 refine(show wpAny _ _ (if(Value.ref t==Value.none)=true then _ else _) _ _ s from ?_)
 rw[if_neg (pV t)]
 refine(show wpAny _ _ (field (.ref it) 1 >>= _) _ _ s from wpAny_bind (wpAny_field ho hd (x:=.int i 0) rfl ?_))
 refine(show wpAny _ _ (seqItems? (.ref t) >>= _) _ _ s from wpAny_bind (wpAny_seqItems ho2 hd2 ?_))
 simp only[Int.toNat_natCast,hx]
 refine wpAny_bind (wpAny_setField ho hd (by simp) (wpAny_pure ⟨x,rfl,wpAny_pure (hQ _ ⟨_,Heap.get?_update_self _ ho (Obj.isFreed_of_fields (Obj.data_mapFields hd _)),(Obj.cls_mapFields ..).trans hc,by rw[Obj.data_mapFields hd];simp[rawInt]⟩ (Heap.SameBut.update ..))⟩))
def AU(hh:A.handled=none)(hit:s.heap.IsTupleIter it t i)(ht:s.heap.IsTuple t items)(hx:items[i]?=none)
  (hE:∀h' e,Heap.ExtBut it s.heap h'->(∃o,h'.get? e=some o/\o.cls=.type "StopIteration")->E (.ref e) { s with heap:=h' }):wpAny (model prog w) A (Builtin.SmallTypes.nextOf (.ref it)) Q E s:=by
 obtain⟨o,ho,hc,hd⟩:=id hit
 obtain⟨o2,ho2,_,n2,hd2⟩:=ht
 unfold Builtin.SmallTypes.nextOf
 refine wpAny_bind (wpAny_callSpecial?_slot (name:=Str.ofString "__next__") hit.typeIs F.slot_tuple_iterator_next (wpAny_call_entry F.slot_tuple_iterator_next hit.typeIs F.entry_tuple_iterator_next ?_ (F.args_tuple_iterator_next_1 _)))
 refine(show wpAny _ _ (field (.ref it) 0 >>= _) _ _ s from wpAny_bind (wpAny_field ho hd (x:=.ref t) rfl ?_))
 refine(show wpAny _ _ (if(Value.ref t==Value.none)=true then _ else _) _ _ s from ?_)
 rw[if_neg (pV t)]
 refine(show wpAny _ _ (field (.ref it) 1 >>= _) _ _ s from wpAny_bind (wpAny_field ho hd (x:=.int i 0) rfl ?_))
 refine(show wpAny _ _ (seqItems? (.ref t) >>= _) _ _ s from wpAny_bind (wpAny_seqItems ho2 hd2 ?_))
 simp only[Int.toNat_natCast,hx]
 refine wpAny_bind (wpAny_rule (wpAny_bind (wpAny_setField ho hd (by simp) (show wpAny _ _ (newExc (.type "StopIteration") [] >>= _) _ _ _ from wpAny_bind ?_))))
 simp only[newExc,newTuple]
 refine wpAny_bind (wpAny_newObj_type (wpAny_bind (m:=firstArgMember _ _) (wpAny_of_eq (a:=Value.none) (by first | rfl |(simp only[firstArgMember];rfl)) (wpAny_newObj_type ?_ (by size_fits)))) (by size_fits))
 simp only[raiseNew]
 refine wpAny_bind (wpAny_handled ?_)
 first | rw[show A.in1.handled=none from hh] | rw[hh] | skip
 exact wpAny_bind (wpAny_pure (wpAny_throw (hE _ _ (((Heap.SameBut.update ..).extBut.push _).push _) ⟨_,Heap.get?_push_size _ rfl,rfl⟩)))
inductive jC(h:Heap)(it l:Addr)(its:Array Value)(i:Nat):Prop
 | lst (a:h.IsListIter it l i) (b:h.IsList l its)
 | tup (a:h.IsTupleIter it l i) (b:h.IsTuple l its)
def jC.at(x:jC h it l its i)(k1:∀o,h.get? it=some o->h'.get? it=some o)(k2:∀o,h.get? l=some o->h'.get? l=some o):jC h' it l its i:=by
 rcases x with⟨⟨o,e,r⟩,⟨o2,e2,r2⟩⟩ |⟨⟨o,e,r⟩,⟨o2,e2,r2⟩⟩
 ·exact .lst ⟨o,k1 o e,r⟩ ⟨o2,k2 o2 e2,r2⟩
 ·exact .tup ⟨o,k1 o e,r⟩ ⟨o2,k2 o2 e2,r2⟩
def jC.obj(x:jC h it l its i):∃o,h.get? it=some o/\∀v,o.data≠.cell v:=by
 rcases x with⟨⟨o,e,_,d⟩,_⟩ |⟨⟨o,e,_,d⟩,_⟩
 ·exact⟨o,e,fun v z=>by rw[d]at z;cases z⟩
 ·exact⟨o,e,fun v z=>by rw[d]at z;cases z⟩
def AT(hi:jC s.heap it l its i)(hne:l≠it)(hx:its[i]?=some x)(hQ:∀h',jC h' it l its (i+1)->Heap.SameBut it s.heap h'->Q x { s with heap:=h' }) :
  wpAny (model prog w) A (Builtin.SmallTypes.nextOf (.ref it)) Q E s:=by
 rcases hi with⟨a,b⟩ |⟨a,b⟩
 ·exact wpAny_nextOf_list_item a b hx fun h' q sb=>hQ h' (.lst q (b.extBut sb.extBut hne)) sb
 ·exact xc a b hx fun h' q sb=>hQ h' (.tup q (b.extBut sb.extBut hne)) sb
def Dz(hh:A.handled=none)(hi:jC s.heap it l its i)(hx:its[i]?=none)
  (hE:∀h' e,Heap.ExtBut it s.heap h'->(∃o,h'.get? e=some o/\o.cls=.type "StopIteration")->E (.ref e) { s with heap:=h' }):wpAny (model prog w) A (Builtin.SmallTypes.nextOf (.ref it)) Q E s:=by
 rcases hi with⟨a,b⟩ |⟨a,b⟩
 ·exact wpAny_nextOf_list_end hh a b hx hE
 ·exact AU hh a b hx hE
def Bp{Q:Value->Shared->Prop}(he:IsEnum s.heap e it k old)(hi:jC s.heap it l its i)(hne:e≠it)(hli:l≠it)(hle:l≠e)(hx:its[i]?=some x)
  (hQ:∀ h',IsEnumOut h' e it (k+1) x s.heap.objs.size->jC h' it l its (i+1)->h'.get? s.heap.objs.size=some { cls:=.type "tuple", data:=.seq #[.int k s.toks,x] }->h'.objs.size=s.heap.objs.size+1 ->
   (∀b o,b≠e->b≠it->s.heap.get? b=some o->h'.get? b=some o)->Q (.ref s.heap.objs.size) { s with heap:=h',toks:=s.toks+1 }) :
  wpAny (model prog w) A (Builtin.«enumerate.__next__» ⟨[.ref e],[]⟩) (fun fin s'=>∃v,fin=.done (.ret v)/\Q v s') E s:=by
 obtain⟨hp,g,d,tk,os⟩:=s
 refine(show wpAny _ _ (field (.ref e) 2 >>= _) _ _ _ from wpAny_bind (wpAny_field he rfl (x:=.ref it) rfl ?_))
 refine wpAny_bind (AT hi hli hx fun h1 i1 s1=>?_)
 replace s1:Heap.SameBut it hp h1:=s1
 have e1:IsEnum h1 e it k old:=(s1.2 e hne).trans he
 refine(show wpAny _ _ (field (.ref e) 3 >>= _) _ _ ⟨h1,g,d,tk,os⟩from wpAny_bind (wpAny_field e1 rfl (x:=rawInt k) rfl ?_))
 refine(show wpAny _ _ (field (.ref e) 4 >>= _) _ _ ⟨h1,g,d,tk,os⟩from wpAny_bind (wpAny_field e1 rfl (x:=.none) rfl ?_))
 refine(show wpAny _ _ (mkInt k >>= _) _ _ ⟨h1,g,d,tk,os⟩from wpAny_bind (wpAny_mkInt ?_))
 refine(show wpAny _ _ (setField (.ref e) 3 (rawInt (k+1)) >>= _) _ _ ⟨h1,g,d,tk+1,os⟩from wpAny_bind (wpAny_setField_rec e1 (by simp) fun h2 e2 s2=>?_))
 replace s2:Heap.SameBut e h1 h2:=s2
 replace e2:IsEnum h2 e it (k+1) old:=e2
 refine(show wpAny _ _ (setField (.ref e) 4 .none >>= _) _ _ ⟨h2,g,d,tk+1,os⟩from wpAny_bind (wpAny_setField_rec e2 (by simp) fun h3 e3 s3=>?_))
 replace s3:Heap.SameBut e h2 h3:=s3
 replace e3:IsEnum h3 e it (k+1) old:=e3
 refine(show wpAny _ _ (newTuple [.int k tk,x] >>= _) _ _ ⟨h3,g,d,tk+1,os⟩from wpAny_bind (wpAny_newTuple ?_))
 have e4:IsEnum (h3.push { cls:=.type "tuple", data:=.seq #[.int k tk,x] }) e it (k+1) old:=Heap.get?_push_of_some _ e3
 generalize hh4:h3.push { cls:=.type "tuple", data:=.seq #[.int k tk,x] }=h4 at e4
 have z3:h3.objs.size=hp.objs.size:=by rw[s3.1,s2.1,s1.1]
 have lte:e < hp.objs.size:=Heap.lt_size he
 have t4:h4.get? hp.objs.size=some { cls:=.type "tuple", data:=.seq #[.int k tk,x] }:=by rw[<- hh4,<- z3];exact Heap.get?_push_size _ rfl
 have z4:h4.objs.size=hp.objs.size+1:=by rw[<- hh4,Heap.size_push,z3]
 have k4:∀b o,b≠e->h1.get? b=some o->h4.get? b=some o:=fun b o hb q=>by
  rw[<- hh4];exact Heap.get?_push_of_some _ (s3.extBut b o hb (s2.extBut b o hb q))
 refine(show wpAny _ _ (Builtin.SmallTypes.ownedTupleIsFree (.ref e) >>= _) _ _ ⟨h4,g,d,tk+1,os⟩from ?_)
 rw[z3]
 refine wpAny_bind ?_
 unfold Builtin.SmallTypes.ownedTupleIsFree
 refine wpAny_bind (wpAny_field e4 rfl (x:=.none) rfl (wpAny_pure ?_))
 simp only[if_true]
 refine wpAny_bind (wpAny_rule (wpAny_bind (wpAny_field e4 rfl (x:=old) rfl (wpAny_bind (wpAny_setField_rec e4 (by simp) fun h5 e5 s5=>?_)))))
 replace s5:Heap.SameBut e h4 h5:=s5
 replace e5:IsEnum h5 e it (k+1) x:=e5
 refine(show wpAny _ _ (Builtin.SmallTypes.ownedTupleHandOut (.ref e) (.ref hp.objs.size) >>= _) _ _ ⟨h5,g,d,tk+1,os⟩from wpAny_bind ?_)
 unfold Builtin.SmallTypes.ownedTupleHandOut
 refine wpAny_bind (wpAny_setField_rec e5 (by simp) fun h6 e6 s6=>?_)
 replace s6:Heap.SameBut e h5 h6:=s6
 replace e6:IsEnumOut h6 e it (k+1) x hp.objs.size:=e6
 refine wpAny_setField_rec e6 (by simp) fun h7 e7 s7=>?_
 replace s7:Heap.SameBut e h6 h7:=s7
 replace e7:IsEnumOut h7 e it (k+1) x hp.objs.size:=e7
 have up:∀b o,b≠e->h4.get? b=some o->h7.get? b=some o:=fun b o hb q=>s7.extBut b o hb (s6.extBut b o hb (s5.extBut b o hb q))
 refine wpAny_bind (wpAny_letGo (wpAny_pure ⟨_,rfl,hQ h7 e7 (i1.at (fun o q=>up it o hne.symm (k4 it o hne.symm q)) fun o q=>up l o hle (k4 l o hle q)) (up _ _ (Nat.ne_of_gt lte) t4) (by rw[s7.1,s6.1,s5.1,z4]) fun b o hb hb2 q=>up b o hb (k4 b o hb (s1.extBut b o hb2 q))⟩))
def AA(he:IsEnum s.heap e it k old)(hi:jC s.heap it l its i)(hne:e≠it)(hli:l≠it)(hle:l≠e)(hx:its[i]?=some x)
  (hQ:∀ h',IsEnumOut h' e it (k+1) x s.heap.objs.size->jC h' it l its (i+1)->h'.get? s.heap.objs.size=some { cls:=.type "tuple", data:=.seq #[.int k s.toks,x] }->h'.objs.size=s.heap.objs.size+1 ->
   (∀b o,b≠e->b≠it->s.heap.get? b=some o->h'.get? b=some o)->Q (some (.ref s.heap.objs.size)) { s with heap:=h',toks:=s.toks+1 }):wpAny (model prog w) A (pyNext (.ref e)) Q E s:=by
 have hT:s.TypeIs (.ref e) "enumerate" :=⟨_,he,rfl⟩
 unfold pyNext
 exact wpAny_bind (wpAny_attempt (wpAny_callSpecial?_slot (name:=Str.ofString "__next__") hT F.slot_enumerate_next (wpAny_call_entry F.slot_enumerate_next hT F.entry_enumerate_next (Bp he hi hne hli hle hx fun h' a b c d q=>wpAny_pure (hQ h' a b c d q)) (F.args_enumerate_next_1 _))))
def CF(hh:A.handled=none)(he:IsEnum s.heap e it k old)(hi:jC s.heap it l its i)(hx:its[i]?=none)
  (hQ:∀h',Heap.ExtBut it s.heap h'->Q none { s with heap:=h' }):wpAny (model prog w) A (pyNext (.ref e)) Q E s:=by
 have hT:s.TypeIs (.ref e) "enumerate" :=⟨_,he,rfl⟩
 unfold pyNext
 refine wpAny_bind (wpAny_attempt (wpAny_callSpecial?_slot (name:=Str.ofString "__next__") hT F.slot_enumerate_next (wpAny_call_entry F.slot_enumerate_next hT F.entry_enumerate_next ?_ (F.args_enumerate_next_1 _))))
 refine(show wpAny _ _ (field (.ref e) 2 >>= _) _ _ _ from wpAny_bind (wpAny_field he rfl (x:=.ref it) rfl ?_))
 refine wpAny_bind (Dz hh hi hx fun h' y q ⟨o,ho,hc⟩=>?_)
 exact wpAny_bind (wpAny_isInstance (T := "StopIteration") (b:=true) ⟨o,ho,hc⟩ isSubtype_stop (wpAny_pure (hQ _ q)))
end
section
variable{X:Cx}{T:Tb}{W:Nat->St->Hp->Prop}{Z:Zn}{F F1 B L:Addr->Prop}{H H1:Hp}{Y:St}{env:En}{js:List (Addr×Obj)}{s:Shared}
def nZ{fp:List Addr}{vs:List V}(I:L2.Inv X js Y H s)(hf:∀b∈fp,mZ X js H b)(k:∀b o,b∉fp->s.heap.get? b=some o->h'.get? b=some o)(hp:s.heap.objs.size<=a)(new:cf X.prog X.w (upd H a (.tup vs)) h' a (.tup vs)) :
  L2.Inv X js Y (upd H a (.tup vs)) { s with heap:=h',toks:=t' }:=by
 have hn:H a=none:=I.hok.fresh hp
 have nit:∀b u,H b=some u->b∉fp:=fun b u e z=>by rw[(hf b z).1]at e;cases e
 refine I.step (g':=s.gens) (d':=s.drawn) (ch:=fp) (fun b hb=>?_) (fun b o _ _ hc e _=>k b o hc e) (fun b o _ _ hc e _=>⟨o.slots,k b o hc e⟩) (fun b o _ e n=>?_) (fun b o hc e=>⟨o,k b o hc e⟩)
  (fun b xs e=>by rw[aK (bV e hn)];exact e) (fun b o u e=>by rw[aK (bV e hn)];exact e) (fun b ps e=>⟨#[],by rw[aK (bV e hn),e];simp⟩) (fun m hm=>?_) (fun b u e=>?_) I.bare
 ·obtain⟨_,q1,_,q3,q4,q5⟩:=hf b hb
  exact⟨q3,q1,q4,q5⟩
 ·rw[aK (Nat.ne_of_lt (Nat.lt_of_lt_of_le (Heap.lt_size e) hp))];exact n
 ·obtain⟨o,es,ep,ho,r⟩:=hm
  exact⟨o,es,ep,k _ o (fun z=>(hf _ z).2.1 rfl) ho,r⟩
 ·by_cases hb:b=a
  ·subst hb;rw[a5]at e;cases e;exact new
  ·rw[aK hb]at e
   refine(I.hok b u e).stay (fun c v hc q=>k c v ?_ q) (fun c q=>by rw[aK (bV q hn)];exact q) fun c xs q=>by rw[aK (bV q hn)];exact q
   rcases hc with z | z
   ·rw[z];exact nit b u e
   ·exact nit c _ z
def Sq(tp:Bool)(K:PySem.W.Frag)(H:Hp)(l:Addr)(xs:List V):Prop:=match tp with
 | true=>SqT K H l xs
 | false=>SqL K H l xs
def BI(tp:Bool)(h:Heap)(it l:Addr)(i:Nat):Prop:=match tp with
 | true=>h.IsTupleIter it l i
 | false=>h.IsListIter it l i
def Ite(tp:Bool)(K:PySem.W.Frag)(st:Int)(l:Addr):It :=
 ⟨fun i H=>∃xs x,Sq tp K H l xs/\xs[i]?=some x,fun i H v H'=>∃p y,H p=none/\v=.ref p/\H'=upd H p (.tup [.int (st+i),y])/\∀xs,Sq tp K H l xs->xs[i]?=some y,fun i H=>∃xs,Sq tp K H l xs/\xs.length<=i⟩
def BM(I:L2.Inv X js Y H s)(hq:Sq tp X.K H l xs)(ha:BI tp s.heap it l i):∃its:List Value,aP xs its/\jC s.heap it l its.toArray i/\l≠it/\∀e k old,IsEnum s.heap e it k old->e≠it/\l≠e:=by
 cases tp with
 | false =>
  obtain⟨its,rv,p,_⟩:=I.list hq
  obtain⟨o,ho,hc,_⟩:=id p.isList
  obtain⟨o2,ho2,hc2,_⟩:=id (show s.heap.IsListIter it l i from ha)
  refine⟨its,rv,.lst ha p.isList,fun z=>?_,fun e k old he=>⟨fun z=>?_,fun z=>?_⟩⟩
  ·rw[z,ho2]at ho;cases ho;rw[hc2]at hc;exact absurd hc (by decide)
  ·grind
  grind
 | true =>
  obtain⟨its,rv,p,_⟩:=I.tuple hq
  have p':s.heap.IsTuple l its.toArray:=p
  obtain⟨o,ho,hc,_⟩:=id p'
  obtain⟨o2,ho2,hc2,_⟩:=id (show s.heap.IsTupleIter it l i from ha)
  refine⟨its,rv,.tup ha p',fun z=>?_,fun e k old he=>⟨fun z=>?_,fun z=>?_⟩⟩
  ·rw[z,ho2]at ho;cases ho;rw[hc2]at hc;exact absurd hc (by decide)
  ·grind
  grind
def Cg(I:L2.Inv X js Y H s)(h1:Sq tp X.K H l xs)(h2:Sq tp X.K H l ys):xs=ys:=by
 cases tp with
 | false=>exact I.list_inj h1 h2
 | true=>exact I.tuple_inj h1 h2
def GK(x:jC h it l its i)(hl:tp=true->∃o,h.get? l=some o/\o.cls=.type "tuple")(hl2:tp=false->∃o,h.get? l=some o/\o.cls=.type "list"):BI tp h it l i:=by
 cases tp with
 | false =>
  obtain⟨o,ho,hc⟩:=hl2 rfl
  rcases x with⟨a,b⟩ |⟨a,⟨o2,ho2,hc2,_⟩⟩
  ·exact a
  ·rw[ho]at ho2;cases ho2;rw[hc]at hc2;exact absurd hc2 (by decide)
 | true =>
  obtain⟨o,ho,hc⟩:=hl rfl
  rcases x with⟨a,⟨o2,ho2,hc2,_⟩⟩ |⟨a,b⟩
  ·rw[ho]at ho2;cases ho2;rw[hc]at hc2;exact absurd hc2 (by decide)
  ·exact a
def uo{els:List Expr}{x1}(tp:Bool)(st:Int)(l e it:Addr) :
  vI P w K (.Tuple els x1 tpos) (Ite tp K st l) [e,it] e (fun i h=>(∃old,IsEnum h e it (st+i) old)/\BI tp h it l i) where
 mem:=by simp
 obj:=fun i h st b hb=>by
  obtain⟨⟨old,he⟩,ha⟩:=st
  simp only[List.mem_cons,List.not_mem_nil,or_false]at hb
  rcases hb with rfl | rfl
  ·exact⟨_,he,fun v z=>by cases z⟩
  ·cases tp with
   | false =>
    obtain⟨o,e,c,d⟩:=id (show h.IsListIter b l i from ha)
    exact⟨o,e,fun v z=>by rw[d]at z;cases z⟩
   | true =>
    obtain⟨o,e,c,d⟩:=id (show h.IsTupleIter b l i from ha)
    exact⟨o,e,fun v z=>by rw[d]at z;cases z⟩
 keep:=fun i h h' st k=>by
  obtain⟨⟨old,he⟩,ha⟩:=st
  refine⟨⟨old,k e (by simp) _ he⟩,?_⟩
  cases tp with
  | false =>
   obtain⟨o,e,r⟩:=id (show h.IsListIter it l i from ha)
   exact⟨o,k it (by simp) o e,r⟩
  | true =>
   obtain⟨o,e,r⟩:=id (show h.IsTupleIter it l i from ha)
   exact⟨o,k it (by simp) o e,r⟩
 item:=by
  intro X hP hw hK hc i js s Y H E I hf stt hg
  subst hP hw hK
  obtain⟨⟨old,he⟩,ha⟩:=stt
  obtain⟨xs,x,hq,hx⟩:=hg
  obtain⟨its,rv,hi,hli,hen⟩:=BM I hq ha
  obtain⟨hne,hle⟩:=hen e _ old he
  obtain⟨u,hu,ru⟩:=rv.get hx
  refine AA he hi hne hli hle (x:=u) (by simpa using hu) fun h1 eo in1 tu sz kp=>?_
  refine⟨_,rfl,wpAny_letOwnedTupleGo_enum eo fun h2 e2 s2=>?_⟩
  replace s2:Heap.SameBut e h1 h2:=s2
  have lte:e < s.heap.objs.size:=Heap.lt_size he
  have kp2:∀b o,b∉[e,it]->s.heap.get? b=some o->h2.get? b=some o:=fun b o hb q=>by
   simp only[List.mem_cons,List.not_mem_nil,or_false,not_or]at hb
   exact s2.extBut b o hb.1 (kp b o hb.1 hb.2 q)
  have tu2:h2.get? s.heap.objs.size=some { cls:=.type "tuple", data:=.seq #[.int (st+i) s.toks,u] }:=s2.extBut _ _ (Nat.ne_of_gt lte) tu
  refine⟨.ref s.heap.objs.size,upd H s.heap.objs.size (.tup [.int (st+i),x]),(nZ (h':=h2) (t':=s.toks+1) (vs:=[.int (st+i),x]) I hf kp2 (Nat.le_refl _) ⟨by rw[sizeLine_eq];simp,[.int (st+i) s.toks,u],.cons ⟨_,rfl⟩ (.cons ru .nil),⟨_,tu2,rfl,_,rfl⟩⟩ :),rfl,⟨_,x,I.hok.fresh (Nat.le_refl _),rfl,rfl,fun ys hy=>by rw[Cg I hy hq];exact hx⟩,⟨⟨u,?_⟩,?_⟩,fun b hb=>?_⟩
  ·have:st+((i+1:Nat):Int)=st+i+1:=by omega
   rw[this];exact e2
  ·have in2:=in1.at (fun o q=>s2.extBut it o hne.symm q) fun o q=>s2.extBut l o hle q
   refine GK in2 (fun z=>?_) fun z=>?_
   ·subst z
    obtain⟨_,_,p,_⟩:=I.tuple hq
    obtain⟨o,ho,hc,_⟩:=id (show s.heap.IsTuple l _ from p)
    exact⟨o,kp2 l o (by simp[hle,hli]) ho,hc⟩
   ·subst z
    obtain⟨_,_,p,_⟩:=I.list hq
    obtain⟨o,ho,hc,_⟩:=id p.isList
    exact⟨o,kp2 l o (by simp[hle,hli]) ho,hc⟩
  ·have:b < s.heap.objs.size:=by
    simp only[List.mem_cons,List.not_mem_nil,or_false]at hb
    rcases hb with rfl | rfl
    ·exact lte
    ·obtain⟨o,ho,_⟩:=hi.obj
     exact Heap.lt_size ho
   rw[aK (Nat.ne_of_lt this)]
   exact(hf b hb).1
 done:=by
  intro X hP hw hK hc i js s Y H E I hf stt hg
  subst hP hw hK
  obtain⟨⟨old,he⟩,ha⟩:=stt
  obtain⟨xs,hq,hx⟩:=hg
  obtain⟨its,rv,hi,hli,hen⟩:=BM I hq ha
  obtain⟨f0,f1,f2,f3,f4,f5⟩:=hf it (by simp)
  have hl:=rv.length
  exact CF (I.ok.hd hc) he hi (by simp;omega) fun h' eb=>⟨rfl,I.turned (t':=s.toks) (fun b o hb e=>eb b o hb e) f0 f1 f3 f4 f5⟩
 self:=fun _ _ _ _ _ st h=>by
  obtain⟨⟨old,he⟩,_⟩:=st
  exact wpAny_pyIter_enum he h
def pz{M:Model}{A:Around}{E:Value->Shared->Prop}{s:Shared}{env:Env}{Ty:String}{bF:List Expr}{kws:List Keyword}{Q:Value->Shared->Prop}
  (h:wpAny M A (spliced (backTo pos (starEach (e::bF) env))) (fun vs s1=>wpAny M A (evalAll ((backToKw pos (keywordEach kws env)).map (·.2))) (fun ks s2=>wpAny M A (call (.type Ty) vs (((backToKw pos (keywordEach kws env)).filterMap (·.1)).zip ks)) Q E s2) E s1) E s)
  (hall:(backToKw pos (keywordEach kws env)).all (·.1.isSome)=true:=by rfl) (hkw:(backToKw pos (keywordEach kws env)).any (·.1.isNone)=false:=by rfl)
  (he:starEach (e::bF) env=(false,eval e env)::starEach bF env:=by rfl) (hpl:(backTo pos (starEach (e::bF) env)).any (·.1)=false:=by rfl) :
  wpAny M A (callWith pos (.type Ty) [] (backTo pos (starEach (e::bF) env)) (backToKw pos (keywordEach kws env))) Q E s:=by
 unfold callWith
 refine wpAny_bind (wpAny_holding (wpAny_mono (PyProof.Rows.evalArgs_kw2 (Q:=fun a s1=>wpAny M A (call (.type Ty) ([]++ a.pos) a.kw) Q E s1) hall h he) (fun a s1 h1=>wpAny_bind (wpAny_standAt ?_)) fun _ _ x=>x))
 simp only[hpl,hkw,Bool.or_false]
 exact wpAny_bind (wpAny_pure (wpAny_bind (wpAny_mono h1 (fun r s2 hr=>wpAny_bind (wpAny_holding (wpAny_point (wpAny_pure hr)))) fun _ _ x=>x)))
def BC:bootBuiltins "enumerate" = some (.type "enumerate"):=by decide +kernel
abbrev enE(l:Expr)(p pos kp cp:Pos)(j:Nat):Expr:=.Call (.Name "enumerate" p) [l] [⟨some "start", .Constant (.int 1) j cp,kp⟩] pos
def tD{x1}(hg:Gl X "enumerate")(hm:X.mg "enumerate" = none)(hl:PE X l tl)(hs:starEach [l] X.env=[(false,eval l X.env)]:=by rfl) :
  PI X (.Tuple els x1 tpos) (enE l p pos kp cp j) (fun Y H R=>tl Y H fun x H1=>∃a tp xs,[x]=[V.ref a]/\Sq tp X.K H1 a xs/\R (Ite tp X.K 1 a) H1):=by
 intro js s Y H R I h
 refine wpAny_Call_Name_kw (gS I hg hm BC ?_ (by decide) (by decide))
 refine pz ?_ rfl rfl hs (by rw[hs];rfl)
 refine thn (dD (te:=tl) hl gK (by rw[hs];rfl) pos js s Y H (fun vs H1=>∃a tp xs,vs=[.ref a]/\Sq tp X.K H1 a xs/\R (Ite tp X.K 1 a) H1) I h) fun us s1 hz1=>?_
 obtain⟨vs,H1,I1,r1,a,tp,xs,ev,hq,q⟩:=hz1
 subst ev
 obtain⟨u,rfl,rx⟩:=fw r1
 cases rx
 refine thn (tB (nm:=some "start") (kpos:=kp) (oK (i:=1) (j:=j) (pos:=cp)) wE pos js s1 Y H1 (fun zs H2=>zs=[.int 1]/\H2=H1) I1 ⟨rfl,rfl⟩) fun ws s2 hz1=>?_
 obtain⟨zs,H2,I2,r2,ez,eh⟩:=hz1
 subst ez
 rw[eh]at I2
 clear eh
 obtain⟨u2,rfl,rx2⟩:=fw r2
 obtain⟨t,rfl⟩:=rx2
 have hI:∃n,zH n a s2/\∀h',h'.get? s2.heap.objs.size=some (itO n a)->BI tp h' s2.heap.objs.size a 0:=by
  cases tp with
  | false =>
   obtain⟨its,rv,pl,_⟩:=I2.list hq
   exact⟨"list_iterator", fun _ _ _ _ _ q=>wpAny_pyIter_list pl.isList q,fun h' e=>⟨_,e,rfl,rfl⟩⟩
  | true =>
   obtain⟨its,rv,pl,_⟩:=I2.tuple hq
   exact⟨"tuple_iterator", fun _ _ _ _ _ q=>wpAny_pyIter_tuple (show s2.heap.IsTuple a its.toArray from pl) q,fun h' e=>⟨_,e,rfl,rfl⟩⟩
 obtain⟨n,hI,hA⟩:=hI
 have hz:(s2.heap.push (itO n a)).objs.size=s2.heap.objs.size+1:=Heap.size_push ..
 have he:((s2.heap.push (itO n a)).push (enO s2.heap.objs.size 1)).get? (s2.heap.objs.size+1)=some (enO s2.heap.objs.size 1):=by
  have:=Heap.get?_push_size (s2.heap.push (itO n a)) (o:=enO s2.heap.objs.size 1) rfl
  rw[hz]at this
  exact this
 refine Ef hI (wpAny_pyIter_enum (i:=1) (old:=.none) he ?_)
 refine⟨s2.heap.objs.size+1,[s2.heap.objs.size+1,s2.heap.objs.size],_,_,H1,rfl,I2.kept (t':=s2.toks) fun b o e=>Heap.get?_push_of_some _ (Heap.get?_push_of_some _ e),uo tp 1 a _ _,⟨⟨.none,by simpa using he⟩,hA _ (Heap.get?_push_of_some _ (Heap.get?_push_size _ rfl))⟩,fun b hb=>?_,q⟩
 simp only[List.mem_cons,List.not_mem_nil,or_false]at hb
 rcases hb with rfl | rfl
 ·exact I2.fpOk (Nat.le_succ _) (I2.hok.fresh (Nat.le_succ _))
 ·exact I2.fpOk (Nat.le_refl _) (I2.hok.fresh (Nat.le_refl _))
end
def enP(k:Int):List PV->List PV
 | []=>[]
 | x::xs=>.tup [.int k,x]::enP (k+1) xs
def lv:∀(k:Int) (xs:List PV) (i:Nat),(enP k xs)[i]?=(xs[i]?).map fun x=>.tup [.int (k+i),x]
 | _,[],i | k,x::xs,0=>by simp[enP]
 | k,x::xs,i+1=>by
  simp only[enP,List.getElem?_cons_succ,lv (k+1) xs i]
  congr 1
  funext y
  congr 3
  omega
def lr:∀(k:Int) (xs:List PV),(enP k xs).length=xs.length
 | _,[]=>rfl
 | k,_::xs=>by simp[enP,lr (k+1) xs]
def u8(m:ME):MI:=fun env=>(m env).bind fun x=>match x with
 | .lst f xs=>if !f.isLnt&&eC xs then .ok (enP 1 xs)else .stuck
 | .tup xs=>if eC xs then .ok (enP 1 xs)else .stuck
 | _=>.stuck
def A6(m:ME):MI:=fun env=>(m env).bind fun x=>match aL x with
 | some xs=>.ok (enP 1 xs)
 | none=>.stuck
section
variable{X:Cx}{T:Tb}{W:Nat->St->Hp->Prop}{Z:Zn}{F F1 B L:Addr->Prop}{H H1:Hp}{Y:St}{env:En}{fp:Nat->List Addr}
def pU(hp:H2 p=none)(r:Rel T F B L H2 x v f):Rel T F B L (upd H2 p (.tup [.int k,v])) (.tup [.int k,x]) (.ref p) f:=by
 unfold Rel
 refine⟨p,_,rfl,SqT.of a5,?_⟩
 have r2:Rel T F B L (upd H2 p (.tup [.int k,v])) x v f:=r.ext (Ext.upd hp) fun _ h=>h
 unfold RelL
 refine⟨.int k,[v],[],f,rfl,fe,?_,rfl⟩
 unfold RelL
 exact⟨v,[],f,[],rfl,r2,by unfold RelL;exact⟨rfl,rfl⟩,by simp⟩
def z7{x1}(hK:X.K=T.K)(hg:Gl X "enumerate")(hm:X.mg "enumerate" = none)(he:SE X T W e m)(hs:starEach [e] X.env=[(false,eval e X.env)]:=by rfl) :
  SI X T W (.Tuple els x1 tpos) (enE e p pos kp cp j) (u8 m):=fun js s Y H R I h=>tD hg hm he hs js s Y H R I (by
 obtain⟨Z,F,env,fp,S,q⟩:=h
 unfold u8 at q
 refine tE.bind S (fun c e=>by rw[e]at q;exact q) (fun e=>by rw[e]at q;exact q) fun x v H1 F1 f1 e1 g1 r1 n1 d1 w1=>?_
 rw[e1]at q
 simp only[Res.ok_bind]at q
 have S1:=S.grow g1
 rw[hK]
 have key:∀(tp:Bool) (a:Addr) (xs:List PV) (vs:List V),RelL T F1 Z.B NoL H1 xs vs []->(∀H2,(∀a o,H1 a=some o->¬Own fp a->H2 a=some o)->Sq tp T.K H2 a vs)->ItR T F1 Z.B (Own fp) H1 (Ite tp T.K 1 a) (enP 1 xs):=by
  intro tp a xs vs hr hq H2 hk
  have hq2:=hq H2 hk
  refine⟨fun i x ex=>?_,⟨vs,hq2,by rw[lr,hr.length];exact Nat.le_refl _⟩⟩
  rw[lv]at ex
  obtain⟨y,ey,rfl⟩:=Option.map_eq_some_iff.mp ex
  obtain⟨v,_,ev,_,_⟩:=hr.get ey
  refine⟨⟨vs,v,hq2,ev⟩,fun w H3 hy=>?_⟩
  obtain⟨p,y',hp,rfl,rfl,hall⟩:=hy
  have:=hall vs hq2
  rw[ev]at this
  cases this
  exact⟨Ext.upd hp,pU hp (fJ S1.fow S1.bow S1.oow hk hr ey ev)⟩
 cases x with
 | lst f xs =>
  dsimp only at q
  by_cases hc:(!f.isLnt&&eC xs)=true
  ·rw[if_pos hc]at q
   rw[Bool.and_eq_true]at hc
   unfold Rel at r1
   obtain⟨a,vs,fp',rfl,hl,hr,hf⟩:=r1
   obtain⟨rfl,hr'⟩:=da hc.2 hr
   refine⟨a,false,vs,rfl,hl.sq,q _ H1 F1 g1 (key false a xs vs hr' fun H2 hk=>?_)⟩
   have na:f≠.mod->∀o,H1 a=some o->H2 a=some o:=fun hn o ho=>by
    refine hk a o ho ?_
    cases f with
    | own =>
     rintro⟨i,hi⟩
     obtain⟨_,o',ho'⟩:=S.dis i a hi
     obtain rfl:f1=[a]:=hf
     rw[w1 a List.mem_cons_self]at ho';cases ho'
    | frz=>exact S1.fow a hl.1
    | bor=>exact S1.bow a hl.1
    | lnt=>exact absurd hc.1 (by decide)
    | mod=>exact absurd rfl hn
   show SqL T.K H2 a vs
   by_cases hn:f=.mod
   ·subst hn;exact .inr hl
   ·exact .inl (Rd.tr (na hn) (hl.rd hn))
  ·rw[if_neg hc]at q;exact q.elim
 | tup xs =>
  dsimp only at q
  by_cases hc:eC xs=true
  ·rw[if_pos hc]at q
   unfold Rel at r1
   obtain⟨a,vs,rfl,hl,hr⟩:=r1
   obtain⟨rfl,hr'⟩:=da hc hr
   refine⟨a,true,vs,rfl,hl,q _ H1 F1 g1 (key true a xs vs hr' fun H2 hk=>?_)⟩
   exact SqT.tr (fun o ho hfx=>hk a o ho fun z=>by
    have:=S1.oow a o z ho
    cases o with
    | lst _ | ins _ _ _=>exact hfx
    | _=>exact this) hl
  ·rw[if_neg hc]at q;exact q.elim
 | _=>exact q.elim)
def v9{x1}(hK:X.K=T.K)(hg:Gl X "enumerate")(hm:X.mg "enumerate" = none)(he:SE X T W e m)(hs:starEach [e] X.env=[(false,eval e X.env)]:=by rfl) :
  SIc X T W (.Tuple els x1 tpos) (enE e p pos kp cp j) (A6 m):=fun js s Y H R I h=>tD hg hm he hs js s Y H R I (by
 obtain⟨Z,F,env,fp,S,q⟩:=h
 unfold A6 at q
 refine tE.bind S (fun c e=>by rw[e]at q;exact q) (fun e=>by rw[e]at q;exact q) fun x v H1 F1 f1 e1 g1 r1 n1 d1 w1=>?_
 rw[e1]at q
 simp only[Res.ok_bind]at q
 cases es:aL x with
 | none=>rw[es]at q;exact q.elim
 | some xs =>
  rw[es]at q
  obtain⟨a,vs,f',rfl,hs,hr,_⟩:=r1.seq es
  rw[hK]
  have key:∀(tp:Bool),Sq tp T.K H1 a vs->(∀H2,Ext H1 H2->Sq tp T.K H2 a vs)->ItC T F1 Z.B (Own fp) H1 (Ite tp T.K 1 a) (enP 1 xs):=by
   intro tp _ hq H2 hx
   have hq2:=hq H2 hx
   refine⟨fun i x ex=>?_,⟨vs,hq2,by rw[lr,hr.length];exact Nat.le_refl _⟩⟩
   rw[lv]at ex
   obtain⟨y,ey,rfl⟩:=Option.map_eq_some_iff.mp ex
   obtain⟨v,f,ev,rv,_⟩:=hr.get ey
   refine⟨⟨vs,v,hq2,ev⟩,fun w H3 hy=>?_⟩
   obtain⟨p,y',hp,rfl,rfl,hall⟩:=hy
   have:=hall vs hq2
   rw[ev]at this
   cases this
   exact⟨Ext.upd hp,f,fun b hb=>rv.there b hb,pU hp (rv.ext hx fun _ h=>h)⟩
  rcases hs with hs | hs
  ·refine⟨a,false,vs,rfl,hs,q _ H1 F1 g1 (key false hs fun H2 hx=>?_)⟩
   rcases hs with z | z
   ·exact .inl (Rd.tr (fun o q=>hx a o q) z)
   ·exact .inr z
  ·exact⟨a,true,vs,rfl,hs,q _ H1 F1 g1 (key true hs fun H2 hx=>SqT.tr (fun o q _=>hx a o q) hs)⟩)
end
section
variable{X:Cx}{T:Tb}{W:Nat->St->Hp->Prop}{Z:Zn}{F F1 B L:Addr->Prop}{H H1:Hp}{Y:St}{env:En}{fp:Nat->List Addr}{D:Ends}
def RelL.erase:∀{xs:List PV}{ws:List V} (n:Nat),RelL T F B L H xs ws []->RelL T F B L H (xs.eraseIdx n) (ws.eraseIdx n) []
 | [],ws,n,h=>by
  unfold RelL at h
  obtain⟨rfl,_⟩:=h
  simpa using dY F B L H
 | x::xs,ws,n,h=>by
  unfold RelL at h
  obtain⟨w,ws,f1,f2,rfl,h1,h2,e⟩:=h
  obtain⟨rfl,rfl⟩:=List.append_eq_nil_iff.mp e.symm
  cases n with
  | zero=>simpa using h2
  | succ n =>
   rw[List.eraseIdx_cons_succ,List.eraseIdx_cons_succ]
   unfold RelL
   exact⟨w,_,[],[],rfl,h1,RelL.erase n h2,rfl⟩
def RelL.rev:∀{xs:List PV}{ws:List V},RelL T F B L H xs ws []->RelL T F B L H xs.reverse ws.reverse []
 | [],ws,h=>by
  unfold RelL at h
  obtain⟨rfl,_⟩:=h
  exact dY F B L H
 | x::xs,ws,h=>by
  unfold RelL at h
  obtain⟨w,ws,f1,f2,rfl,h1,h2,e⟩:=h
  obtain⟨rfl,rfl⟩:=List.append_eq_nil_iff.mp e.symm
  rw[List.reverse_cons,List.reverse_cons]
  have one:RelL T F B L H [x] [w] []:=by unfold RelL;exact⟨w,[],[],[],rfl,h1,dY _ _ _ _,rfl⟩
  exact RelL.append (RelL.rev h2) one
def iF(i:Nat):MS:=fun env=>match env[i]? with
 | some (some (.lst .own xs))=>if eC xs then .next (env.set i (some (.lst .own xs.reverse)))else .stuck
 | _=>.stuck
def rm(hK:X.K=T.K)(hN:X.N[i]?=some x)(hv:Vis X.env.scope x)
  (hs:swapsWith (.Call (.Attribute (.Name x px) "reverse" apos) [] [] cpos) none pos.line X.env=pure false:=by rfl) (hline:(apos.endLine==cpos.line)=true:=by rfl) (hd:(x ==("__debug__" : Str))=false:=by decide) (hcd:(x ==("__classdict__" : Str))=false:=by decide) :
  SS X T W (.Expr (.Call (.Attribute (.Name x px) "reverse" apos) [] [] cpos) pos) (iF i) :=
 PS.wk (iW (pos:=pos) (CM (cpos:=cpos) (apos:=apos) PySem.F.plainAttrs_list PySem.F.slot_list_reverse PySem.F.type_list_reverse rZ (dy (pos:=px) hN hv hd hcd) rfl hline) hs) fun D Y H hz1=>by
  obtain⟨Z,F,env,fp,S,q⟩:=hz1
  unfold iF at q
  split at q
  ·rename_i xs eo
   split at q
   ·rename_i hc
    obtain⟨a,ws,fp',h1,hl,hr,hf⟩:=S.lst eo
    have f0:=(da hc hr).1
    subst f0
    refine⟨_,h1,.inl ⟨rfl,ws,by rw[hK];exact SqL.of hl⟩,a,ws,rfl,rfl,hl,?_⟩
    exact q F _ Y _ (S.mutL (v:=.non) (f':=[]) eo h1 hf (RelL.rev hr) List.nodup_nil (fun _ z=>(nomatch z)) hl)
   ·exact q.elim
  ·exact q.elim
end
open AutoSeq1 (wpAny_loadPart')
section
variable{prog:Program}{w:World}{A:Around}{E:Value->Shared->Prop}{s:Shared}
abbrev zTI(n:Addr):Obj:={ cls:=.type "tuple", data:=.seq #[.ref n,.ref (n+1)] }
abbrev zTO:Obj:={ cls:=.type "tuple", data:=.seq #[.none,.none] }
abbrev zO(n:Addr):Obj:={ cls:=.type "zip", data:=.fields #[.none,.bool false,.bool false,.ref (n+2),.ref (n+3)] }
abbrev BJ(h:Heap)(l1 l2:Addr):Heap:=((((h.push (itO "list_iterator" l1)).push (itO "list_iterator" l2)).push (zTI h.objs.size)).push zTO).push (zO h.objs.size)
def Fo(hl:typeLookup (.type T) "__init__" = pure (some (.builtin "object.__init__")))(hm:Bind.madeBy (.type T)=pure (some nI))(hne:(some nI != some "object.__new__")=true) :
  Meets (Builtin.«object.__init__» ⟨[self,a,b],[]⟩) (fun _ R s=>s.TypeIs self T/\R (.ok (.ret .none)) s):=by
 refine Meets.of_wp fun pr w A R s0 hs=>?_
 obtain⟨hT,hq⟩:=hs
 repeat (any_goals (first | assumption | wp_step | fail))
 exact⟨_,rfl,hq⟩
def HJ(l1 l2:Addr)(xs ys:Array Value) :
  Meets (Builtin.«zip.__new__» ⟨[.type "zip", .ref l1,.ref l2],[]⟩) (fun _ R s=>s.heap.IsList l1 xs/\s.heap.IsList l2 ys/\R (.ok (.ret (.ref (s.heap.objs.size+4)))) { s with heap:=BJ s.heap l1 l2 }) :=
 .of_wp fun pr w A R s0 h=>by
  obtain⟨hp,g,d,tk,os⟩:=s0
  obtain⟨h1,h2,h⟩:=h
  have hsub:=sub_zip
  have h2':(hp.push (itO "list_iterator" l1)).IsList l2 ys:=by
   obtain⟨o,e,r⟩:=h2
   exact⟨o,Heap.get?_push_of_some _ e,r⟩
  have hz1:(hp.push (itO "list_iterator" l1)).objs.size=hp.objs.size+1:=Heap.size_push ..
  have hJ1:∀{Q:Value->Shared->Prop}{E:Value->Shared->Prop},Q (.ref hp.objs.size) ⟨hp.push (itO "list_iterator" l1),g,d,tk,os⟩->wpAny (model pr w) A.in1 (pyIter (.ref l1)) Q E ⟨hp,g,d,tk,os⟩:=fun {Q E} q=>wpAny_pyIter_list h1 q
  have hJ2:∀{Q:Value->Shared->Prop}{E:Value->Shared->Prop},Q (.ref (hp.push (itO "list_iterator" l1)).objs.size) ⟨(hp.push (itO "list_iterator" l1)).push (itO "list_iterator" l2),g,d,tk,os⟩->wpAny (model pr w) A.in1 (pyIter (.ref l2)) Q E ⟨hp.push (itO "list_iterator" l1),g,d,tk,os⟩:=fun {Q E} q=>wpAny_pyIter_list h2' q
  wp_walk using hJ1,hJ2
  refine⟨_,rfl,?_⟩
  simp only[Heap.size_push]
  exact h
def BB(h1:s.heap.IsList l1 xs)(h2:s.heap.IsList l2 ys)(h:Q (.ref (s.heap.objs.size+4)) { s with heap:=BJ s.heap l1 l2 }) :
  wpAny (model prog w) A (call (.type "zip") [.ref l1,.ref l2] []) Q E s:=by
 have hz:((((s.heap.push (itO "list_iterator" l1)).push (itO "list_iterator" l2)).push (zTI s.heap.objs.size)).push zTO).objs.size=s.heap.objs.size+4:=by simp only[Heap.size_push]
 refine oi (Q1:=fun ob s1=>s1.TypeIs ob "zip" /\ Q ob s1) F.called_zip (F.typeCall_zip_2 _ _) (F.newCall_zip_2 _ _) F.entry_zip_new F.entry_object_init (HJ l1 l2 xs ys) ⟨h1,h2,?_⟩ fun ob s1 hq=>⟨hq.1,?_,_,Fo F.called_zip.init.lookup F.called_zip.made (by decide),hq.1,rfl,hq.2⟩
 ·have:=Heap.get?_push_size ((((s.heap.push (itO "list_iterator" l1)).push (itO "list_iterator" l2)).push (zTI s.heap.objs.size)).push zTO) (o:=zO s.heap.objs.size) rfl
  rw[hz]at this
  exact⟨⟨_,this,rfl⟩,h⟩
 ·exact F.args_object_init_3 _ _ _
end
section
variable{X:Cx}{T:Tb}{W:Nat->St->Hp->Prop}{Z:Zn}{F F1 B L:Addr->Prop}{H H1:Hp}{Y:St}{env:En}{js:List (Addr×Obj)}{s:Shared}
def vf{fp:List Addr}(I:L2.Inv X js Y H s)(hf:∀b∈fp,mZ X js H b)(k:∀b o,b∉fp->s.heap.get? b=some o->h'.get? b=some o) :
  L2.Inv X js Y H { s with heap:=h',toks:=t' }:=by
 have nit:∀b u,H b=some u->b∉fp:=fun b u e z=>by rw[(hf b z).1]at e;cases e
 refine I.step (g':=s.gens) (d':=s.drawn) (ch:=fp) (fun b hb=>?_) (fun b o _ _ hc e _=>k b o hc e) (fun b o _ _ hc e _=>⟨o.slots,k b o hc e⟩) (fun _ _ _ _ n=>n) (fun b o hc e=>⟨o,k b o hc e⟩)
  (fun _ _ e=>e) (fun _ _ _ e=>e) (fun b ps e=>⟨#[],by rw[e];simp⟩) (fun m hm=>?_) (fun b u e=>?_) I.bare
 ·obtain⟨_,q1,_,q3,q4,q5⟩:=hf b hb
  exact⟨q3,q1,q4,q5⟩
 ·obtain⟨o,es,ep,ho,r⟩:=hm
  exact⟨o,es,ep,k _ o (fun z=>(hf _ z).2.1 rfl) ho,r⟩
 ·refine(I.hok b u e).stay (fun c v hc q=>k c v ?_ q) (fun _ q=>q) fun _ _ q=>q
  rcases hc with z | z
  ·rw[z];exact nit b u e
  ·exact nit c _ z
def Itz(K:PySem.W.Frag)(l1 l2:Addr):It :=
  ⟨fun i H=>∃ xs ys x y,SqL K H l1 xs/\SqL K H l2 ys/\xs[i]?=some x/\ys[i]?=some y,
   fun i H v H'=>∃p x y,H p=none/\v=.ref p/\H'=upd H p (.tup [x,y])/\(∀xs,SqL K H l1 xs->xs[i]?=some x)/\∀ys,SqL K H l2 ys->ys[i]?=some y,
   fun i H=>∃xs ys,SqL K H l1 xs/\SqL K H l2 ys/\(xs.length<=i\/ys.length<=i)⟩
def jY{h h':Heap}{it l:Addr}{i:Nat}(a:h.IsListIter it l i)(k:∀o,h.get? it=some o->h'.get? it=some o):h'.IsListIter it l i:=by
 obtain⟨o,e,r⟩:=a
 exact⟨o,k o e,r⟩
def vR{P:Program}{w:World}{K:PySem.W.Frag}{els:List Expr}{x1}(l1 l2 z ti to i1 i2:Addr)(D:ZipApart z ti to i1 i2 l1 l2) :
  vI P w K (.Tuple els x1 tpos) (Itz K l1 l2) [z,ti,to,i1,i2] z (fun i h=>IsZip h z ti to .none/\IsPair h ti (.ref i1) (.ref i2)/\(∃a b,IsPair h to a b)/\h.IsListIter i1 l1 i/\h.IsListIter i2 l2 i) where
 mem:=by simp
 obj:=fun i h st b hb=>by
  obtain⟨hz,ht,⟨a',b',ho⟩,h1,h2⟩:=st
  simp only[List.mem_cons,List.not_mem_nil,or_false]at hb
  rcases hb with rfl | rfl | rfl | rfl | rfl
  ·exact⟨_,hz,fun v z=>by cases z⟩
  ·exact⟨_,ht,fun v z=>by cases z⟩
  ·exact⟨_,ho,fun v z=>by cases z⟩
  ·obtain⟨o,e,c,d⟩:=id h1
   exact⟨o,e,fun v z=>by rw[d]at z;cases z⟩
  ·obtain⟨o,e,c,d⟩:=id h2
   exact⟨o,e,fun v z=>by rw[d]at z;cases z⟩
 keep:=fun i h h' st k=>by
  obtain⟨hz,ht,⟨a',b',ho⟩,h1,h2⟩:=st
  exact⟨k z (by simp) _ hz,k ti (by simp) _ ht,⟨a',b',k to (by simp) _ ho⟩,jY h1 (k i1 (by simp)),jY h2 (k i2 (by simp))⟩
 item:=by
  intro X hP hw hK hc i js s Y H E I hf stt hg
  subst hP hw hK
  obtain⟨hz,ht,⟨a',b',ho⟩,h1,h2⟩:=stt
  obtain⟨xs,ys,x,y,hq1,hq2,hx,hy⟩:=hg
  obtain⟨its1,rv1,pl1,_⟩:=I.list hq1
  obtain⟨its2,rv2,pl2,_⟩:=I.list hq2
  obtain⟨u1,hu1,ru1⟩:=rv1.get hx
  obtain⟨u2,hu2,ru2⟩:=rv2.get hy
  refine wpAny_pyNext_zip_item D hz ht ho h1 h2 pl1.isList pl2.isList (x:=u1) (y:=u2) (by simpa using hu1) (by simpa using hu2) fun h' z' to' i1' i2' pr sz kp=>?_
  refine⟨_,rfl,wpAny_letOwnedTupleGo_zip z' fun h3 z3 s3=>?_⟩
  replace s3:Heap.SameBut z h' h3:=s3
  have ltz:z < s.heap.objs.size:=Heap.lt_size hz
  have kp2:∀b o,b∉[z,ti,to,i1,i2]->s.heap.get? b=some o->h3.get? b=some o:=fun b o hb q=>by
   simp only[List.mem_cons,List.not_mem_nil,or_false,not_or]at hb
   exact s3.extBut b o hb.1 (kp b o hb.1 hb.2.2.1 hb.2.2.2.1 hb.2.2.2.2 q)
  have tu2:h3.get? s.heap.objs.size=some { cls:=.type "tuple", data:=.seq #[u1,u2] }:=s3.extBut _ _ (Nat.ne_of_gt ltz) pr
  refine⟨.ref s.heap.objs.size,upd H s.heap.objs.size (.tup [x,y]),(nZ (h':=h3) (t':=s.toks) (vs:=[x,y]) I hf kp2 (Nat.le_refl _) ⟨by rw[sizeLine_eq];simp,[u1,u2],.cons ru1 (.cons ru2 .nil),⟨_,tu2,rfl,_,rfl⟩⟩ :),rfl,⟨_,x,y,I.hok.fresh (Nat.le_refl _),rfl,rfl,fun zs hz=>by rw[I.list_inj hz hq1];exact hx,fun zs hz=>by rw[I.list_inj hz hq2];exact hy⟩,⟨z3,s3.extBut ti _ D.TIz (kp ti _ D.TIz D.TITO D.TIi1 D.TIi2 ht),⟨_,_,s3.extBut to _ D.TOz to'⟩,jY i1' fun o q=>s3.extBut i1 o D.i1z q,jY i2' fun o q=>s3.extBut i2 o D.i2z q⟩,fun b hb=>?_⟩
  have:b < s.heap.objs.size:=by
   simp only[List.mem_cons,List.not_mem_nil,or_false]at hb
   rcases hb with rfl | rfl | rfl | rfl | rfl
   ·exact ltz
   ·exact Heap.lt_size ht
   ·exact Heap.lt_size ho
   ·obtain⟨o,e,_⟩:=id h1;exact Heap.lt_size e
   ·obtain⟨o,e,_⟩:=id h2;exact Heap.lt_size e
  rw[aK (Nat.ne_of_lt this)]
  exact(hf b hb).1
 done:=by
  intro X hP hw hK hc i js s Y H E I hf stt hg
  subst hP hw hK
  obtain⟨hz,ht,⟨a',b',ho⟩,h1,h2⟩:=stt
  obtain⟨xs,ys,hq1,hq2,hx⟩:=hg
  obtain⟨its1,rv1,pl1,_⟩:=I.list hq1
  obtain⟨its2,rv2,pl2,_⟩:=I.list hq2
  have l1':=rv1.length
  have l2':=rv2.length
  refine wpAny_pyNext_zip_end (I.ok.hd hc) D hz ht ho h1 h2 pl1.isList pl2.isList (by simp;omega) fun h' kp=>⟨rfl,vf (t':=s.toks) I hf fun b o hb q=>?_⟩
  grind
 self:=fun _ _ _ _ _ st h=>wpAny_pyIter_zip st.1 h
def Ek:bootBuiltins "zip" = some (.type "zip"):=by decide +kernel
def wH{x1}(hg:Gl X "zip")(hm:X.mg "zip" = none)(ha:PA X [a,b] ta)(hs:starEach [a,b] X.env=[(false,eval a X.env),(false,eval b X.env)]:=by rfl)(hs2:starEach [b] X.env=[(false,eval b X.env)]:=by rfl) :
  PI X (.Tuple els x1 tpos) (.Call (.Name "zip" p) [a,b] [] pos) (fun Y H R=>ta Y H fun vs H1=>∃l1 l2 xs ys,vs=[V.ref l1,V.ref l2]/\SqL X.K H1 l1 xs/\SqL X.K H1 l2 ys/\R (Itz X.K l1 l2) H1):=by
 intro js s Y H R I h
 refine PyProof.Rows.Call_ (gS I hg hm Ek (PyProof.Rows.callWith_type1 (thn (ha pos js s Y H _ I h) fun us s1 ⟨vs,H1,I1,r1,q1⟩=>?_) (by rw[hs,hs2]) (by rw[hs2];rfl)))
 obtain⟨l1,l2,xs,ys,e,hq1,hq2,q⟩:=q1
 subst e
 cases r1 with
 | cons r rr =>
  cases rr with
  | cons r' rr =>
   cases rr
   cases r
   cases r'
   obtain⟨its1,rv1,pl1,_⟩:=I1.list hq1
   obtain⟨its2,rv2,pl2,_⟩:=I1.list hq2
   have hl1:l1 < s1.heap.objs.size:=by obtain⟨o,e,_⟩:=id pl1.isList;exact Heap.lt_size e
   have hl2:l2 < s1.heap.objs.size:=by obtain⟨o,e,_⟩:=id pl2.isList;exact Heap.lt_size e
   have z1:(s1.heap.push (itO "list_iterator" l1)).objs.size=s1.heap.objs.size+1:=Heap.size_push ..
   have z2:((s1.heap.push (itO "list_iterator" l1)).push (itO "list_iterator" l2)).objs.size=s1.heap.objs.size+2:=by simp only[Heap.size_push]
   have z3:(((s1.heap.push (itO "list_iterator" l1)).push (itO "list_iterator" l2)).push (zTI s1.heap.objs.size)).objs.size=s1.heap.objs.size+3:=by simp only[Heap.size_push]
   have z4:((((s1.heap.push (itO "list_iterator" l1)).push (itO "list_iterator" l2)).push (zTI s1.heap.objs.size)).push zTO).objs.size=s1.heap.objs.size+4:=by simp only[Heap.size_push]
   have e4:=Heap.get?_push_size ((((s1.heap.push (itO "list_iterator" l1)).push (itO "list_iterator" l2)).push (zTI s1.heap.objs.size)).push zTO) (o:=zO s1.heap.objs.size) rfl
   have e3:=Heap.get?_push_size (((s1.heap.push (itO "list_iterator" l1)).push (itO "list_iterator" l2)).push (zTI s1.heap.objs.size)) (o:=zTO) rfl
   have e2:=Heap.get?_push_size ((s1.heap.push (itO "list_iterator" l1)).push (itO "list_iterator" l2)) (o:=zTI s1.heap.objs.size) rfl
   have e1:=Heap.get?_push_size (s1.heap.push (itO "list_iterator" l1)) (o:=itO "list_iterator" l2) rfl
   have e0:=Heap.get?_push_size s1.heap (o:=itO "list_iterator" l1) rfl
   rw[z4]at e4
   rw[z3]at e3
   rw[z2]at e2
   rw[z1]at e1
   refine BB pl1.isList pl2.isList (wpAny_pyIter_zip (f0:=.none) e4 ?_)
   refine⟨s1.heap.objs.size+4,[s1.heap.objs.size+4,s1.heap.objs.size+2,s1.heap.objs.size+3,s1.heap.objs.size,s1.heap.objs.size+1],_,_,H1,rfl,I1.kept (t':=s1.toks) fun b o e=>Heap.get?_push_of_some _ (Heap.get?_push_of_some _ (Heap.get?_push_of_some _ (Heap.get?_push_of_some _ (Heap.get?_push_of_some _ e)))),vR l1 l2 _ _ _ _ _ (PyProof.Rows.zipApart_new hl1 hl2),⟨e4,Heap.get?_push_of_some _ (Heap.get?_push_of_some _ e2),⟨.none,.none,Heap.get?_push_of_some _ e3⟩,⟨_,Heap.get?_push_of_some _ (Heap.get?_push_of_some _ (Heap.get?_push_of_some _ (Heap.get?_push_of_some _ e0))),rfl,rfl⟩,⟨_,Heap.get?_push_of_some _ (Heap.get?_push_of_some _ (Heap.get?_push_of_some _ e1)),rfl,rfl⟩⟩,fun b hb=>?_,q⟩
   simp only[List.mem_cons,List.not_mem_nil,or_false]at hb
   have hb':s1.heap.objs.size<=b:=by rcases hb with rfl | rfl | rfl | rfl | rfl<;>omega
   exact I1.fpOk hb' (I1.hok.fresh hb')
end
def e9:List PV->List PV->List PV
 | x::xs,y::ys=>.tup [x,y]::e9 xs ys
 | _,_=>[]
def ly:∀(xs ys:List PV) (i:Nat) {p:PV},(e9 xs ys)[i]?=some p->∃x y,xs[i]?=some x/\ys[i]?=some y/\p=.tup [x,y]
 | [],_,i,_,h | _::_,[],i,_,h=>by simp[e9]at h
 | x::xs,y::ys,0,p,h=>by
  simp only[e9,List.getElem?_cons_zero]at h
  exact⟨x,y,rfl,rfl,(Option.some.inj h).symm⟩
 | x::xs,y::ys,i+1,p,h=>by
  simp only[e9,List.getElem?_cons_succ]at h
  exact ly xs ys i h
def lx:∀(xs ys:List PV),(e9 xs ys).length=min xs.length ys.length
 | [],_ | _::_,[]=>by simp[e9]
 | _::xs,_::ys=>by simp only[e9,List.length_cons,lx xs ys];omega
def tV(ms:MA):MI:=fun env=>(ms env).bind fun zs=>match zs with
 | [.lst f xs,.lst g ys]=>if !f.isLnt&&!g.isLnt&&eC xs&&eC ys then .ok (e9 xs ys)else .stuck
 | _=>.stuck
def jT(ms:MA):MI:=fun env=>(ms env).bind fun zs=>match zs with
 | [.lst _ xs,.lst _ ys]=>if eC xs&&eC ys then .ok (e9 xs ys)else .stuck
 | _=>.stuck
section
variable{X:Cx}{T:Tb}{W:Nat->St->Hp->Prop}{Z:Zn}{F F1 B L:Addr->Prop}{H H1:Hp}{Y:St}{env:En}{fp:Nat->List Addr}
def nQ(hp:H2 p=none)(r:Rel T F B L H2 x v [])(r':Rel T F B L H2 y u []):Rel T F B L (upd H2 p (.tup [v,u])) (.tup [x,y]) (.ref p) []:=by
 unfold Rel
 refine⟨p,_,rfl,SqT.of a5,?_⟩
 have r1:Rel T F B L (upd H2 p (.tup [v,u])) x v []:=r.ext (Ext.upd hp) fun _ h=>h
 have r2:Rel T F B L (upd H2 p (.tup [v,u])) y u []:=r'.ext (Ext.upd hp) fun _ h=>h
 unfold RelL
 refine⟨v,[u],[],[],rfl,r1,?_,rfl⟩
 unfold RelL
 exact⟨u,[],[],[],rfl,r2,by unfold RelL;exact⟨rfl,rfl⟩,by simp⟩
def lh{xs:List PV}{vs:List V}{i:Nat}{x:PV}(h:RelL T F B L H xs vs [])(e:xs[i]?=some x):∃v,vs[i]?=some v/\Rel T F B L H x v []:=by
 obtain⟨v,f,ev,rv,sl⟩:=h.get e
 have:f=[]:=List.eq_nil_of_sublist_nil sl
 subst this
 exact⟨v,ev,rv⟩
def oA{els:List Expr}{x1}(hK:X.K=T.K)(hg:Gl X "zip")(hm:X.mg "zip" = none)(ha:SA X T W [a,b] ms)(hs:starEach [a,b] X.env=[(false,eval a X.env),(false,eval b X.env)]:=by rfl)(hs2:starEach [b] X.env=[(false,eval b X.env)]:=by rfl) :
  SIc X T W (.Tuple els x1 tpos) (.Call (.Name "zip" p) [a,b] [] pos) (jT ms):=fun js s Y H R I h=>wH hg hm ha hs hs2 js s Y H R I (by
 obtain⟨Z,F,env,fp,S,q⟩:=h
 unfold jT at q
 refine tA.bind S (fun c e=>by rw[e]at q;exact q) (fun e=>by rw[e]at q;exact q) fun zs vs H1 F1 f1 e1 g1 r1 n1 d1 w1=>?_
 rw[e1]at q
 simp only[Res.ok_bind]at q
 split at q
 ·rename_i f xs g ys
  split at q
  ·rename_i hc
   rw[Bool.and_eq_true]at hc
   unfold RelL at r1
   obtain⟨v1,ws,f2,f3,rfl,ra,rb,_⟩:=r1
   obtain⟨v2,rfl,rc⟩:=rb.one
   unfold Rel at ra rc
   obtain⟨a1,us,fp1,rfl,hl1,hr1,_⟩:=ra
   obtain⟨a2,ws,fp2,rfl,hl2,hr2,_⟩:=rc
   obtain⟨rfl,_⟩:=da hc.1 hr1
   obtain⟨rfl,_⟩:=da hc.2 hr2
   rw[hK]
   refine⟨a1,a2,us,ws,rfl,hl1.sq,hl2.sq,q _ H1 F1 g1 fun H2 hx=>?_⟩
   have up:∀{a:Addr}{us:List V},SqL T.K H1 a us->SqL T.K H2 a us:=fun {a us} hs=>by
    rcases hs with z | z
    ·exact .inl (Rd.tr (fun o q=>hx a o q) z)
    ·exact .inr z
   have s1:=up hl1.sq
   have s2:=up hl2.sq
   have ln1:=hr1.length
   have ln2:=hr2.length
   refine⟨fun i x ex=>?_,⟨us,ws,s1,s2,by rw[lx];omega⟩⟩
   obtain⟨x1,y1,ex1,ey1,rfl⟩:=ly xs ys i ex
   obtain⟨v,ev,rv⟩:=lh hr1 ex1
   obtain⟨u,eu,ru⟩:=lh hr2 ey1
   refine⟨⟨us,ws,v,u,s1,s2,ev,eu⟩,fun w H3 hy=>?_⟩
   obtain⟨p,v',u',hp,rfl,rfl,hall1,hall2⟩:=hy
   have q1:=hall1 us s1
   have q2:=hall2 ws s2
   rw[ev]at q1
   rw[eu]at q2
   cases q1
   cases q2
   exact⟨Ext.upd hp,[],fun b hb=>(nomatch hb),nQ hp (rv.ext hx fun _ h=>h) (ru.ext hx fun _ h=>h)⟩
  ·exact q.elim
 ·exact q.elim)
def Ch{els:List Expr}{x1}(hK:X.K=T.K)(hg:Gl X "zip")(hm:X.mg "zip" = none)(ha:SA X T W [a,b] ms)(hs:starEach [a,b] X.env=[(false,eval a X.env),(false,eval b X.env)]:=by rfl)(hs2:starEach [b] X.env=[(false,eval b X.env)]:=by rfl) :
  SI X T W (.Tuple els x1 tpos) (.Call (.Name "zip" p) [a,b] [] pos) (tV ms):=fun js s Y H R I h=>wH hg hm ha hs hs2 js s Y H R I (by
 obtain⟨Z,F,env,fp,S,q⟩:=h
 unfold tV at q
 refine tA.bind S (fun c e=>by rw[e]at q;exact q) (fun e=>by rw[e]at q;exact q) fun zs vs H1 F1 f1 e1 g1 r1 n1 d1 w1=>?_
 rw[e1]at q
 simp only[Res.ok_bind]at q
 have S1:=S.grow g1
 split at q
 ·rename_i f xs g ys
  split at q
  ·rename_i hc
   simp only[Bool.and_eq_true]at hc
   obtain⟨⟨⟨c1,c2⟩,c3⟩,c4⟩:=hc
   unfold RelL at r1
   obtain⟨v1,ws,f2,f3,rfl,ra,rb,e1⟩:=r1
   obtain⟨v2,rfl,rc⟩:=rb.one
   unfold Rel at ra rc
   obtain⟨a1,us,fp1,rfl,hl1,hr1,hf1⟩:=ra
   obtain⟨a2,ws,fp2,rfl,hl2,hr2,hf2⟩:=rc
   obtain⟨rfl,hr1'⟩:=da c3 hr1
   obtain⟨rfl,hr2'⟩:=da c4 hr2
   rw[hK]
   refine⟨a1,a2,us,ws,rfl,hl1.sq,hl2.sq,q _ H1 F1 g1 fun H2 hk=>?_⟩
   have na1:f≠.mod->∀o,H1 a1=some o->H2 a1=some o:=fun hn o ho=>by
    refine hk a1 o ho ?_
    cases f with
    | own =>
     rintro⟨i,hi⟩
     obtain⟨_,o',ho'⟩:=S.dis i a1 hi
     obtain rfl:f2=[a1]:=hf1
     rw[w1 a1 (by rw[e1];simp)]at ho';cases ho'
    | frz=>exact S1.fow a1 hl1.1
    | bor=>exact S1.bow a1 hl1.1
    | lnt=>exact absurd c1 (by decide)
    | mod=>exact absurd rfl hn
   have na2:g≠.mod->∀o,H1 a2=some o->H2 a2=some o:=fun hn o ho=>by
    refine hk a2 o ho ?_
    cases g with
    | own =>
     rintro⟨i,hi⟩
     obtain⟨_,o',ho'⟩:=S.dis i a2 hi
     obtain rfl:f3=[a2]:=hf2
     rw[w1 a2 (by rw[e1];simp)]at ho';cases ho'
    | frz=>exact S1.fow a2 hl2.1
    | bor=>exact S1.bow a2 hl2.1
    | lnt=>exact absurd c2 (by decide)
    | mod=>exact absurd rfl hn
   have s1:SqL T.K H2 a1 us:=by
    by_cases hn:f=.mod
    ·subst hn;exact .inr hl1
    ·exact .inl (Rd.tr (na1 hn) (hl1.rd hn))
   have s2:SqL T.K H2 a2 ws:=by
    by_cases hn:g=.mod
    ·subst hn;exact .inr hl2
    ·exact .inl (Rd.tr (na2 hn) (hl2.rd hn))
   have ln1:=hr1.length
   have ln2:=hr2.length
   refine⟨fun i x ex=>?_,⟨us,ws,s1,s2,by rw[lx];omega⟩⟩
   obtain⟨x1,y1,ex1,ey1,rfl⟩:=ly xs ys i ex
   obtain⟨v,ev,rv⟩:=lh hr1' ex1
   obtain⟨u,eu,ru⟩:=lh hr2' ey1
   refine⟨⟨us,ws,v,u,s1,s2,ev,eu⟩,fun w H3 hy=>?_⟩
   obtain⟨p,v',u',hp,rfl,rfl,hall1,hall2⟩:=hy
   have q1:=hall1 us s1
   have q2:=hall2 ws s2
   rw[ev]at q1
   rw[eu]at q2
   cases q1
   cases q2
   exact⟨Ext.upd hp,nQ hp (fJ S1.fow S1.bow S1.oow hk hr1' ex1 ev) (fJ S1.fow S1.bow S1.oow hk hr2' ey1 eu)⟩
  ·exact q.elim
 ·exact q.elim)
end
section
variable{prog:Program}{w:World}{A:Around}{R:Result->Shared->Prop}{ia:Addr}{fps wrs:List Addr}{len:Nat}{Pv:Nat->Value->Prop}{Sv:Nat->Heap->Prop}
abbrev z_(xs:Array Value)(c:Nat):Obj:={ cls:=.type "list", dict:=none,data:=.seq xs c,slots:=#[] }
def jX:(toString "min"++toString ".loop" : String)= "min.loop" := by decide
def r_(kw:List (Str×Value))(Wk:Walks prog w A.in1 ia fps wrs len Pv Sv)(lt:Nat->Nat->Bool)(hc:CmpOf prog w A.in1 .Lt Pv lt)(best:Addr)(nb:best∉fps) :
  ∀(left j:Nat) (sh:Shared) (u:Value) (cap:Nat),len - (j+1)=left->j+1<=len->Sv (j+1) sh.heap->Pv (argBest lt j) u->sh.heap.get? best=some (z_ #[u,u] cap)->
   (∀v h' tk,Pv (argBest lt (len - 1)) v->(∀b o,b∉wrs->b≠best->sh.heap.get? b=some o->h'.get? b=some o)->R (.ok (.ret v)) { sh with heap:=h',toks:=tk })->codeAny (model prog w) A (.builtin "min.loop" ⟨[.ref ia,.none,.ref best],kw⟩) R sh
 | 0,j,sh,u,cap,e1,e2,st,pu,ob,fin=>by
  have nw:best∉wrs:=fun z=>nb (Wk.sub _ z)
  have ej:j+1=len:=by omega
  refine codeAny_builtin F.entry_min_loop ?_;rw[Around.under_plainId F.plain_min_loop _];refine(show wpAny _ A.in1 (seqItems? (.ref best) >>= _) _ _ sh from wpAny_bind (wpAny_seqItems ob rfl ?_))
  refine(show wpAny _ A.in1 (tryCatch (pyNext (.ref ia)) _ >>= _) _ _ sh from wpAny_bind (wpAny_tryCatch (Wk.done sh _ _ (ej▸st) fun h' tk kp=>?_)))
  refine(show wpAny _ A.in1 (updateSeq best (fun _=>#[]) >>= _) _ _ _ from wpAny_bind (wpAny_updateSeq (kp best _ nw ob) rfl (wpAny_bind (wpAny_letGo (wpAny_pure ?_)))))
  exact fin u _ tk (by rw[<- ej];exact pu) fun b o q1 q2 e=>(Heap.get?_update_other _ _ (Ne.symm q2)).trans (kp b o q1 e)
 | left+1,j,sh,u,cap,e1,e2,st,pu,ob,fin=>by
  have nw:best∉wrs:=fun z=>nb (Wk.sub _ z)
  have lj:j+1 < len:=by omega
  refine codeAny_builtin F.entry_min_loop ?_;rw[Around.under_plainId F.plain_min_loop _];refine(show wpAny _ A.in1 (seqItems? (.ref best) >>= _) _ _ sh from wpAny_bind (wpAny_seqItems ob rfl ?_))
  refine(show wpAny _ A.in1 (tryCatch (pyNext (.ref ia)) _ >>= _) _ _ sh from wpAny_bind (wpAny_tryCatch (Wk.item (j+1) sh _ _ lj st fun v h' tk pv st' kp=>?_)))
  have ob':=kp best _ nw ob
  refine(show wpAny _ A.in1 (tryCatch (holding [v,v] (richCompare .Lt v u >>= _)) _ >>= _) _ _ _ from wpAny_bind (wpAny_tryCatch (wpAny_holding (wpAny_bind (hc (j+1) (argBest lt j) v u _ _ _ pv pu (wpAny_bind (wpAny_holding (wpAny_truthy_bool (wpAny_bind (wpAny_letGo (wpAny_pure ?_)))))))))))
  by_cases yes:lt (j+1) (argBest lt j)=true
  ·rw[yes];simp only[if_true]
   refine wpAny_bind (wpAny_updateSeq ob' rfl (wpAny_bind (wpAny_letGo ?_)));rw[jX]
   refine wpAny_pure ⟨plainId_quiet F.plain_min_loop _,r_ kw Wk lt hc best nb left (j+1) _ v _ (by omega) lj (Wk.frame _ _ _ st' fun b hb o e=>(Heap.get?_update_other _ _ (fun z:best=b=>nb (z▸hb))).trans e) (by simp only[argBest,yes,if_true];exact pv) (Heap.get?_update_self _ ob' rfl) fun v' h2 t2 pv' kp2=>?_⟩
   exact fin v' h2 t2 pv' fun b o q1 q2 e=>kp2 b o q1 q2 ((Heap.get?_update_other _ _ (Ne.symm q2)).trans (kp b o q1 e))
  ·have no:lt (j+1) (argBest lt j)=false:=by simpa using yes
   rw[no];simp only[Bool.false_eq_true,if_false]
   refine wpAny_bind (wpAny_letGo ?_);rw[jX]
   refine wpAny_pure ⟨plainId_quiet F.plain_min_loop _,r_ kw Wk lt hc best nb left (j+1) _ u cap (by omega) lj st' (by simp only[argBest,no,Bool.false_eq_true,if_false];exact pu) ob' fun v' h2 t2 pv' kp2=>?_⟩
   exact fin v' h2 t2 pv' fun b o q1 q2 e=>kp2 b o q1 q2 (kp b o q1 e)
def A4(kw:List (Str×Value))(Wk:Walks prog w A.in1 ia fps wrs len Pv Sv)(lt:Nat->Nat->Bool)(hc:CmpOf prog w A.in1 .Lt Pv lt)(best:Addr)(nb:best∉fps)(pos:0 < len)(st:Sv 0 sh.heap)(ob:sh.heap.get? best=some (z_ #[] cap))
  (fin:∀v h' tk,Pv (argBest lt (len - 1)) v->(∀b o,b∉wrs->b≠best->sh.heap.get? b=some o->h'.get? b=some o)->R (.ok (.ret v)) { sh with heap:=h',toks:=tk }):codeAny (model prog w) A (.builtin "min.loop" ⟨[.ref ia,.none,.ref best],kw⟩) R sh:=by
 have nw:best∉wrs:=fun z=>nb (Wk.sub _ z)
 refine codeAny_builtin F.entry_min_loop ?_;rw[Around.under_plainId F.plain_min_loop _];refine(show wpAny _ A.in1 (seqItems? (.ref best) >>= _) _ _ sh from wpAny_bind (wpAny_seqItems ob rfl ?_))
 refine(show wpAny _ A.in1 (tryCatch (pyNext (.ref ia)) _ >>= _) _ _ sh from wpAny_bind (wpAny_tryCatch (Wk.item 0 sh _ _ pos st fun v h' tk pv st' kp=>?_)))
 have ob':=kp best _ nw ob
 refine(show wpAny _ A.in1 (updateSeq best (fun _=>#[v,v]) >>= _) _ _ _ from wpAny_bind (wpAny_updateSeq ob' rfl ?_));rw[jX]
 refine wpAny_pure ⟨plainId_quiet F.plain_min_loop _,r_ kw Wk lt hc best nb _ 0 _ v _ rfl pos (Wk.frame _ _ _ st' fun b hb o e=>(Heap.get?_update_other _ _ (fun z:best=b=>nb (z▸hb))).trans e) pv (Heap.get?_update_self _ ob' rfl) fun v' h2 t2 pv' kp2=>?_⟩
 exact fin v' h2 t2 pv' fun b o q1 q2 e=>kp2 b o q1 q2 ((Heap.get?_update_other _ _ (Ne.symm q2)).trans (kp b o q1 e))
def DD(Wk:Walks prog w A.in1 ia fps wrs 0 Pv Sv)(best:Addr)(nb:best∉fps)(st:Sv 0 sh.heap)(ob:sh.heap.get? best=some (z_ #[] cap))
  (fin:∀h' tk,(∀b o,b∉wrs->sh.heap.get? b=some o->h'.get? b=some o)->R (.ok (.ret d)) { sh with heap:=h',toks:=tk }):codeAny (model prog w) A (.builtin "min.loop" ⟨[.ref ia,.none,.ref best],[(dn,d)]⟩) R sh:=by
 refine codeAny_builtin F.entry_min_loop ?_;rw[Around.under_plainId F.plain_min_loop _];refine(show wpAny _ A.in1 (seqItems? (.ref best) >>= _) _ _ sh from wpAny_bind (wpAny_seqItems ob rfl ?_))
 refine(show wpAny _ A.in1 (tryCatch (pyNext (.ref ia)) _ >>= _) _ _ sh from wpAny_bind (wpAny_tryCatch (Wk.done sh _ _ st fun h' tk kp=>?_)))
 exact wpAny_bind (wpAny_rule (wpAny_pure (fin h' tk kp)))
end
section
variable{prog:Program}{w:World}{A:Around}{E:Value->Shared->Prop}{s:Shared}
def zG(y d:Value):argsOk "min" ⟨[y],[(Str.ofString "default", d)]⟩:=by
 unfold argsOk
 kernel_rfl
def qP
  (h:wpAny (model prog w) A.in1 (pyIter x) (fun it s2=>∃ ia fps wrs len Pv Sv lt,it=.ref ia/\Walks prog w A.in1 ia fps wrs len Pv Sv/\Sv 0 s2.heap/\(∀ b ∈ fps,b < s2.heap.objs.size)/\CmpOf prog w A.in1 .Lt Pv lt /\
   ∀v h' tk,(len=0/\v=d\/0 < len/\Pv (argBest lt (len - 1)) v)->(∀b o,b∉wrs->s2.heap.get? b=some o->h'.get? b=some o)->Q v { s2 with heap:=h',toks:=tk }) E s) :
  wpAny (model prog w) A (call (.builtin "min") [x] [(Str.ofString "default", d)]) Q E s:=by
 refine PyProof.Rows.kmk_tree F.kind_min F.plain_min F.entry_min (zG _ _) ?_
 refine(show wpAny _ A.in1 (Builtin.Builtins.bindParams "min" ["key", "default"] 0 ⟨[],[(Str.ofString "default", d)]⟩ >>= _) _ _ s from wpAny_bind (wpAny_of_eq (a:=[none,some d]) (by kernel_rfl) (wpAny_bind (wpAny_pure (wpAny_bind (wpAny_mono h (fun it s2 q=>?_) fun _ _ e=>e))))))
 obtain⟨ia,fps,wrs,len,Pv,Sv,lt,rfl,Wk,st,hf,hc,fin⟩:=q
 refine wpAny_bind (wpAny_newObj_type ?_);rw[jX]
 have nb:s2.heap.objs.size∉fps:=fun z=>Nat.lt_irrefl _ (hf _ z)
 have st':=Wk.frame _ _ (s2.heap.push (z_ #[] 0)) st fun b _ o e=>Heap.get?_push_of_some _ e
 refine wpAny_pure ⟨plainId_quiet F.plain_min_loop _,?_⟩
 by_cases pos:0 < len
 ·exact A4 _ Wk lt hc s2.heap.objs.size nb pos st' (Heap.get?_push_size _ rfl) fun v h' tk pv kp=>fin v h' tk (.inr ⟨pos,pv⟩) fun b o q e=>kp b o q (Nat.ne_of_lt (Heap.lt_size e)) (Heap.get?_push_of_some _ e)
 ·have z:len=0:=by omega
  subst z
  exact DD Wk s2.heap.objs.size nb st' (Heap.get?_push_size _ rfl) fun h' tk kp=>fin d h' tk (.inl ⟨rfl,rfl⟩) fun b o q e=>kp b o q (Heap.get?_push_of_some _ e)
end
section
variable{X:Cx}{T:Tb}{W:Nat->St->Hp->Prop}{Z:Zn}{F F1 B L:Addr->Prop}{H H1:Hp}{Y:St}{env:En}{fp:Nat->List Addr}{js:List (Addr×Obj)}{s:Shared}
def qO{M:Model}{A:Around}{E:Value->Shared->Prop}{s:Shared}{env:Env}{id:String}{bF:List Expr}{kws:List Keyword}{Q:Value->Shared->Prop}
  (h:wpAny M A (spliced (backTo pos (starEach (e::bF) env))) (fun vs s1=>wpAny M A (evalAll ((backToKw pos (keywordEach kws env)).map (·.2))) (fun ks s2=>wpAny M A (call (.builtin id) vs (((backToKw pos (keywordEach kws env)).filterMap (·.1)).zip ks)) Q E s2) E s1) E s)
  (hall:(backToKw pos (keywordEach kws env)).all (·.1.isSome)=true:=by rfl) (hkw:(backToKw pos (keywordEach kws env)).any (·.1.isNone)=false:=by rfl)
  (he:starEach (e::bF) env=(false,eval e env)::starEach bF env:=by rfl) (hpl:(backTo pos (starEach (e::bF) env)).any (·.1)=false:=by rfl) :
  wpAny M A (callWith pos (.builtin id) [] (backTo pos (starEach (e::bF) env)) (backToKw pos (keywordEach kws env))) Q E s:=by
 unfold callWith
 refine wpAny_bind (wpAny_holding (wpAny_mono (PyProof.Rows.evalArgs_kw2 (Q:=fun a s1=>wpAny M A (call (.builtin id) ([]++ a.pos) a.kw) Q E s1) hall h he) (fun a s1 h1=>wpAny_bind (wpAny_standAt ?_)) fun _ _ x=>x))
 simp only[hpl,hkw,Bool.or_false]
 exact wpAny_bind (wpAny_pure (wpAny_bind (wpAny_mono h1 (fun r s2 hr=>wpAny_bind (wpAny_holding (wpAny_point (wpAny_pure hr)))) fun _ _ x=>x)))
def FW(vs:List V)(P:V->Prop):Prop:=match vs with
 | [v]=>P v
 | _=>False
def AQ(h:FW vs P):∃v,vs=[v]/\P v:=by
 match vs,h with
 | [v],h=>exact⟨v,rfl,h⟩
def xF(ns:List Int):V:=if ns.isEmpty then .non else .int (fY ns)
def wv(K:PySem.W.Frag):V->Hp->VK->Prop:=fun v H Q=>∃p ns,v=.ref p/\(SqL K H p (ns.map V.int)\/ SqT K H p (ns.map V.int))/\Q (xF ns) H
def vD(hc:X.calm=true)(I:L2.Inv X js Y H s)(hq:SqL X.K H p (ns.map V.int)\/ SqT X.K H p (ns.map V.int))(q:Q (xF ns) H):wpAny (model X.prog X.w) X.A (call (.builtin "min") [.ref p] [(Str.ofString "default", .none)]) (EP X js Y Q) X.xe s:=by
 have hh:=I.ok.hd hc
 have key:∀{its:List Value},aP (ns.map V.int) its->∀{v:Value}{h':Heap}{tk:Nat},(its.toArray.size=0/\v=.none\/0 < its.toArray.size/\its.toArray[argBest (fun i j=>decide (ns.getD i 0 < ns.getD j 0)) (its.toArray.size - 1)]?=some v)->(∀b o,s.heap.get? b=some o->h'.get? b=some o)->EP X js Y Q v { s with heap:=h',toks:=tk }:=by
  intro its r v h' tk hv k
  have hl:its.toArray.size=ns.length:=by
   have:=r.length
   simpa using this.symm
  rw[hl]at hv
  rcases hv with⟨h0,rfl⟩ |⟨hn,hv⟩
  ·have e:ns=[]:=List.length_eq_zero_iff.mp h0
   subst e
   exact⟨.non,H,iK I k,rfl,q⟩
  ·obtain⟨t,rfl⟩:=d8 r _ _ hv
   rw[qQ hn]
   have e:xF ns=.int (fY ns):=by
    unfold xF
    rw[if_neg]
    intro z
    have:ns=[]:=by simpa using z
    rw[this]at hn
    exact absurd hn (by decide)
   rw[e]at q
   exact⟨.int _,H,iK I k,⟨t,rfl⟩,q⟩
 rcases hq with hq | hq
 ·obtain⟨its,r,pl,hz⟩:=I.list hq
  obtain⟨o,ho,hcl,n,hd⟩:=pl.isList
  have hlt:=Heap.lt_size ho
  refine qP (wpAny_pyIter_list pl.isList ?_)
  refine⟨_,_,_,_,_,_,_,rfl,Walks.list (A:=X.A.in1) hh _ p (Nat.ne_of_lt hlt) its.toArray,⟨⟨_,Heap.get?_push_size _ rfl,rfl,rfl⟩,pl.isList.push _⟩,fun b hb=>?_,CmpOf.ints_lt (fun i=>ns.getD i 0) (d8 r),fun v h' tk hP hk=>key r hP (eO hk)⟩
  show b <(s.heap.push _).objs.size
  rw[Heap.size_push]
  exact ig hlt rfl b hb
 ·obtain⟨its,r,pl,hz⟩:=I.tuple hq
  have pt:s.heap.IsTuple p its.toArray:=pl
  obtain⟨o,ho,hcl,n,hd⟩:=pl
  have hlt:=Heap.lt_size ho
  refine qP (wpAny_pyIter_tuple pt ?_)
  refine⟨_,_,_,_,_,_,_,rfl,Walks.tuple (A:=X.A.in1) hh _ p (Nat.ne_of_lt hlt) its.toArray,⟨⟨_,Heap.get?_push_size _ rfl,rfl,rfl⟩,pt.push _⟩,fun b hb=>?_,CmpOf.ints_lt (fun i=>ns.getD i 0) (d8 r),fun v h' tk hP hk=>key r hP (eO hk)⟩
  show b <(s.heap.push _).objs.size
  rw[Heap.size_push]
  exact ig hlt rfl b hb
abbrev mdE(e:Expr)(p pos kp cp:Pos)(j:Nat):Expr:=.Call (.Name "min" p) [e] [⟨some "default", .Constant .none j cp,kp⟩] pos
def AD(hc:X.calm=true)(hg:Gl X "min")(hm:X.mg "min" = none)(he:PE X e te)(hs:starEach [e] X.env=[(false,eval e X.env)]:=by rfl):PE X (mdE e p pos kp cp j) (tUn (wv X.K) te):=by
 intro js s Y H Q I h
 refine wpAny_Call_Name_kw (gS I hg hm sG ?_ (by decide) (by decide))
 refine qO ?_ rfl rfl hs (by rw[hs];rfl)
 refine thn (dD (te:=te) he gK (by rw[hs];rfl) pos js s Y H (fun vs H1=>FW vs fun v=>wv X.K v H1 Q) I h) fun us s1 hz1=>?_
 obtain⟨vs,H1,I1,r1,q1⟩:=hz1
 obtain⟨v,rfl,a,ns,rfl,hq,q⟩:=AQ q1
 obtain⟨u,rfl,rx⟩:=fw r1
 cases rx
 refine thn (tB (nm:=some "default") (kpos:=kp) (wM (j:=j) (pos:=cp)) wE pos js s1 Y H1 (fun zs H2=>zs=[.non]/\H2=H1) I1 ⟨rfl,rfl⟩) fun ws s2 hz1=>?_
 obtain⟨zs,H2,I2,r2,ez,eh⟩:=hz1
 subst ez
 rw[eh]at I2
 clear eh
 obtain⟨u2,rfl,rx2⟩:=fw r2
 cases rx2
 exact vD hc I2 hq q
def nS(x:PV):Res PV:=match aL x with
 | some xs=>(match bh xs with
  | some ns=>.ok (if ns.isEmpty then .non else .int (fY ns))
  | none=>.stuck)
 | none=>.stuck
def xD(hK:X.K=T.K):Hf T W nS (wv X.K):=by
 intro B F L Y H Q F' H' x v fx g rx nf nd new q
 unfold nS at q
 cases e:aL x with
 | none=>rw[e]at q;exact q.elim
 | some xs =>
  rw[e]at q
  dsimp only at q
  cases e2:bh xs with
  | none=>rw[e2]at q;exact q.elim
  | some ns =>
   rw[e2]at q
   dsimp only at q
   obtain⟨a,us,fx',rfl,hs,hr,_⟩:=rx.seq e
   have hu:=cq e2 hr
   subst hu
   refine⟨a,ns,rfl,by rw[hK];exact hs,q.scal g ?_⟩
   unfold xF
   split
   ·unfold Rel;exact⟨rfl,rfl⟩
   ·exact fe
def Aa(hK:X.K=T.K)(hc:X.calm=true)(hg:Gl X "min")(hm:X.mg "min" = none)(he:SE X T W e m)(hs:starEach [e] X.env=[(false,eval e X.env)]:=by rfl):SE X T W (mdE e p pos kp cp j) (mUn nS m) :=
 PE.wk (AD hc hg hm he hs) fun _ _ _ h=>tE.mir1 (xD hK) h
end
def wS(x y:PV):Res PV:=match x,y with
 | .tup xs,.tup ys=>(match bh xs,bh ys with
  | some ns,some ms=>.ok (.bl (HT.lexLt ns ms))
  | _,_=>.stuck)
 | _,_=>.stuck
section
variable{X:Cx}{T:Tb}{W:Nat->St->Hp->Prop}{Z:Zn}{F F1 B L:Addr->Prop}{H H1:Hp}{Y:St}{env:En}{fp:Nat->List Addr}{D:Ends}
def A0(hK:X.K=T.K):kI T W wS (FH X.K):=by
 intro B F L Y H Q F' H' x y v u fx fy gr rx ry _ _ _ q
 unfold wS at q
 split at q
 case h_2=>exact q.elim
 rename_i xs ys
 split at q
 case h_2=>exact q.elim
 rename_i ns ms e1 e2
 unfold Rel at rx ry
 obtain⟨a,vs,rfl,hs,hr⟩:=rx
 obtain⟨b,us,rfl,ht,hq⟩:=ry
 have z1:=cq e1 hr
 have z2:=cq e2 hq
 subst z1 z2
 exact⟨a,b,ns,ms,rfl,rfl,by rw[hK];exact hs,by rw[hK];exact ht,q.scal gr kX⟩
def Cc(hK:X.K=T.K)(hu:X.A.units+64 < cLine)(ha:SE X T W a ma)(hb:SE X T W b mb):ST X T W (.Compare a [.Lt] [b] pos) (aA (mOp wS ma mb)):=gE (CW (by omega)) (A0 hK) ha hb (gQ _)
end
open AutoSeq1 (wpAny_loadPart')
def sg(i j:Nat):MS:=fun env=>match env[i]?,env[j]? with
 | some (some v),some (some w)=>if i=j then .stuck else .ret (.tup [v,w])
 | _,_=>.stuck
section
variable{X:Cx}{T:Tb}{W:Nat->St->Hp->Prop}{Z:Zn}{F F1 B L:Addr->Prop}{H H1:Hp}{Y:St}{env:En}{fp:Nat->List Addr}{D:Ends}
def v3{x1}(hN:X.N[i]?=some x)(hv:Vis X.env.scope x)(hN2:X.N[j]?=some y)(hv2:Vis X.env.scope y)(hd:(x ==("__debug__" : Str))=false:=by decide)(hcd:(x ==("__classdict__" : Str))=false:=by decide)(hd2:(y ==("__debug__" : Str))=false:=by decide)(hcd2:(y ==("__classdict__" : Str))=false:=by decide) :
  SS X T W (.Return (some (.Tuple [.Name x px,.Name y py] x1 tpos)) pos) (sg i j) :=
 PS.wk (rP (pos:=pos) (wK (pos:=tpos) (dD (te:=vW i) (dy (pos:=px) hN hv hd hcd) (dD (te:=vW j) (dy (pos:=py) hN2 hv2 hd2 hcd2) gK)))) fun D Y H hz1=>by
  obtain⟨Z,F,env,fp,S,q⟩:=hz1
  unfold sg at q
  split at q
  case h_2=>exact q.elim
  rename_i pv pw ei ej
  split at q
  case isTrue=>exact q.elim
  rename_i hij
  obtain⟨v,e1,r1⟩:=S.rel i pv ei
  obtain⟨w,e2,r2⟩:=S.rel j pw ej
  refine⟨v,e1,w,e2,small (by simp),fun p hp=>?_⟩
  have g:Gr F H F (upd H p (.tup [v,w])):=Gr.same S.hp.ft (Ext.upd hp)
  have S2:=S.grow g
  obtain⟨v',e1',r1'⟩:=S2.rel i pv ei
  obtain⟨w',e2',r2'⟩:=S2.rel j pw ej
  rw[e1]at e1'
  cases e1'
  rw[e2]at e2'
  cases e2'
  refine q F (upd H p (.tup [v,w])) (.ref p) (fp i++fp j) S2.hp ?_ (List.nodup_append.mpr ⟨S.nd i,S.nd j,fun a ha b hb z=>?_⟩) (fun a ha=>?_) (fun a ha=>?_)
  ·unfold Rel
   refine⟨p,_,rfl,SqT.of a5,?_⟩
   unfold RelL
   refine⟨v,[w],fp i,fp j,rfl,r1',?_,rfl⟩
   unfold RelL
   exact⟨w,[],fp j,[],rfl,r2',by unfold RelL;exact⟨rfl,rfl⟩,by simp⟩
  ·subst z
   exact S.dj i j hij a ha hb
  ·rcases List.mem_append.mp ha with h | h
   ·exact(S2.dis i a h).1
   ·exact(S2.dis j a h).1
  ·rcases List.mem_append.mp ha with h | h
   ·exact S.new i a h
   ·exact S.new j a h
end
section
variable{P:Program}{w:World}{mg:Str->Option Value}{base:Heap}{T:Tb}
def DQ(F:Fun T.K x qual st f fd)(S:fj N ps (aM st))
  (body:∀ (cdv:Value) (A:Around) (outer:List Env) (s:Shared) (H:Hp) (E:XK),Ctx (fK (CXP P w) P w T.K mg base N qual (aM st) f cdv A outer s H E) T (WD T E) k ->
   SSs (fK (CXP P w) P w T.K mg base N qual (aM st) f cdv A outer s H E) T (WD T E) (cO st) m):dA P w T.K mg base (CXP P w) (k+1) f fd ps (spM T ps.length (ba N.length m)) :=
 G0 F S fun cdv A outer s H E hr=>body cdv A outer s H E (uh hr)
def Bd(F:Fun T.K x qual st f fd)(S:fj N ps (aM st))
  (body:∀ (cdv:Value) (A:Around) (outer:List Env) (s:Shared) (H:Hp) (E:XK),Ctx (fK (CXP P w) P w T.K mg base N qual (aM st) f cdv A outer s H E) T (WD T E) k ->
   SSs (fK (CXP P w) P w T.K mg base N qual (aM st) f cdv A outer s H E) T (WD T E) (cO st) m):dA P w T.K mg base (CXP P w) (k+1) f fd ps (spI T ps.length (i_ N.length m)) :=
 DR F S fun cdv A outer s H E hr=>body cdv A outer s H E (uh hr)
end
end PR
namespace PR
open PySem PySem.Spec L2
section
variable{X:Cx}{T:Tb}{W:Nat->St->Hp->Prop}{Z:Zn}{F F1 B L:Addr->Prop}{H H1:Hp}{Y:St}{env:En}{fp:Nat->List Addr}{D:Ends}{ks:List Nat}
def av.drop(S:av T Z F H Y env fp)(h0:n≠0):av T Z F H Y (env.set n none) (br fp n []):=by
 refine⟨S.hp,by rw[List.length_set,S.len],fun i pv e=>?_,fun i=>?_,fun i j hij a ha hb=>?_,fun i a ha=>?_,fun i a ha=>?_,fun i a ha=>?_,fun v hv=>?_⟩
 ·by_cases hi:i=n
  ·subst hi
   rw[List.getElem?_set]at e
   simp at e
  ·rw[List.getElem?_set_ne (Ne.symm hi)]at e
   obtain⟨v,h1,h2⟩:=S.rel i pv e
   exact⟨v,h1,by unfold br;rw[if_neg hi];exact h2⟩
 ·unfold br;split;exact List.nodup_nil;exact S.nd i
 ·unfold br at ha hb
  split at ha
  ·cases ha
  ·split at hb
   ·cases hb
   ·exact S.dj i j hij a ha hb
 ·unfold br at ha;split at ha;cases ha;exact S.dis i a ha
 ·unfold br at ha;split at ha;cases ha;exact S.new i a ha
 ·unfold br at ha;split at ha;cases ha;exact S.ch i a ha
 ·obtain⟨h1,h2⟩:=S.pn v hv
  refine⟨h1,?_⟩
  unfold cK at h2 ⊢
  rw[List.getElem?_set_ne h0];exact h2
def v_{α:Type}{l:List α}{i:Nat}{x:α}(h:l[i]?=some x):l.set i x=l:=by
 obtain⟨hi,e⟩:=List.getElem?_eq_some_iff.mp h
 rw[<- e]
 exact List.set_getElem_self hi
end
open AutoSeq1 (wpAny_loadPart')
def oF(m:ME)(r c t:Nat):List PV->List PV->PV->En->Out
 | [],_,_,e=>.next e
 | x::xs,rows,cv,e=>match m (((e.set t (some x)).set r none).set c (some cv))with
  | .ok (.tup [a,b])=>if(PV.tup [a,b]).has Fl.isBor ||(PV.tup [a,b]).has Fl.isLnt||decide (1000000<=rows.length)then .stuck else oF m r c t xs (rows++[.tup [a,b]]) b.borrow ((e.set t (some x)).set r (some (.lst .own (rows++[.tup [a,b]]))))
  | _=>.stuck
def tW(mi:MI)(r c t:Nat)(m:ME):MS:=fun env=>match mi env with
 | .ok xs=>(match env[r]?,env[c]? with
  | some (some (.lst .own rows)),some (some cv)=>oF m r c t xs rows cv.borrow (env.set c none)
  | _,_=>.stuck)
 | .exc c=>.exc c env
 | .stuck=>.stuck
section
variable{X:Cx}{T:Tb}{W:Nat->St->Hp->Prop}{Z:Zn}{F F1 B L:Addr->Prop}{H H1:Hp}{Y:St}{env:En}{fp:Nat->List Addr}{D:Ends}
def av.wideB(S:av T Z F H Y env fp)(h1:∀a,Z.B a->B' a)(h2:∀a,B' a->(∃o,Z.H0 a=some o)/\¬Z.fp0 a):av T ⟨Z.H0,Z.F0,Z.fp0,B',Z.pin⟩ F H Y env fp :=
 ⟨⟨h2,S.hp.keep,S.hp.f0,S.hp.fn,S.hp.ft⟩,S.len,fun i pv e=>by
  obtain⟨v,q1,q2⟩:=S.rel i pv e
  exact⟨v,q1,Rel.tr (fun _ h=>h) h1 (fun _ h=>h) (fun _ _ h _=>h) (fun _ _ _ h=>h) q2⟩,S.nd,S.dj,S.dis,S.new,S.ch,S.pn⟩
def av.blind(S:av T Z F H Y env fp)(h0:c≠0)(hc:env[c]?=some none)(v:V):av T Z F H (Y.set c (some v)) env fp :=
 ⟨S.hp,by rw [List.length_set,S.len],fun i pv e=>by
  have:i≠c:=by rintro rfl;rw[hc]at e;cases e
  rw[List.getElem?_set_ne (Ne.symm this)]
  exact S.rel i pv e,S.nd,S.dj,S.dis,S.new,S.ch,fun w hw=>by
  rw[List.getElem?_set_ne h0]
  exact S.pn w hw⟩
def av.bOut(S:av T Z F H Y env fp)(h:Z.B a):(∃o,H a=some o)/\∀j,a∉fp j:=by
 obtain⟨⟨o,h1⟩,h2⟩:=S.hp.bo a h
 refine⟨⟨o,S.hp.keep a o h1 h2⟩,fun j hj=>?_⟩
 rcases S.new j a hj with z | z
 ·rw[h1]at z;cases z
 ·exact h2 z
def VB(H:Hp)(fp:Nat->List Addr)(r:Nat)(ra:Addr):Addr->Prop:=fun a=>(∃o,H a=some o)/\a≠ra/\∀j,j≠r->a∉fp j
def atI_last(ws:List V)(u:V):atI (ws++[u]) (-1)=some u:=by
 unfold atI
 have e:ixN (ws++[u]).length (-1)=some ws.length:=by
  rw[List.length_append,List.length_singleton]
  unfold ixN
  rw[if_neg (by omega),if_pos (by omega)]
  congr 1
  omega
 rw[e]
 simp
def zY{r c t:Nat}{k1 k2}{nr nc nt:Str}{iter e:Expr}{mi:MI}{m:ME}{pos pt p1 p2 p3 p4 p5 p6 p7 p8 p9 p10 p11 p12:Pos}(hp:PassesOwn (model X.prog X.w) X.A X.env X.xe)(hc:X.calm=true)(hK:X.K=T.K)(hN:X.N.Nodup)
  (hr:X.N[r]?=some nr) (hvr:Vis X.env.scope nr) (hcn:X.N[c]?=some nc) (hlc:Loc X.env.scope nc) (ht:X.N[t]?=some nt) (hlt:Loc X.env.scope nt) (r0:r≠0) (c0:c≠0) (t0:t≠0) (rc:r≠c) (rt:r≠t) (ct:c≠t)
  (hi:SI X T W (.Name nt pt) iter mi) (he:SE X T W e m)
  (hs:swapsWith (.Call (.Attribute (.Name nr p1) "append" p2) [e] [] p3) none p4.line X.env=pure false:=by rfl) (hst:starEach [e] X.env=[(false,eval e X.env)]:=by rfl)
  (hfew:((backTo p3 (starEach [e] X.env)).all (fun x=>!x.1)&&(backToKw p3 (keywordEach [] X.env)).all (fun x=>x.1.isSome)&&decide ([e].length+([]:List Keyword).length+(if([]:List Keyword).isEmpty then 0 else 1) < 30))=true:=by rfl)
  (hline:(p2.endLine==p3.line)=true:=by rfl) (hd:(nr ==("__debug__" : Str))=false:=by decide) (hcd:(nr ==("__classdict__" : Str))=false:=by decide)
  (hs2:swapsWith (.Subscript (.Subscript (.Name nr p6) (.UnaryOp .USub (.Constant (.int 1) k1 p7) p8) p9) (.Constant (.int 1) k2 p10) p11) (some (.Name nc p5)) p12.line X.env=pure false:=by rfl)
  (hfc:X.fn nc=true\/X.env.scope.names.lookup nc=some .local:=by first | exact .inl rfl | exact .inr rfl | assumption) (hft:X.fn nt=true\/X.env.scope.names.lookup nt=some .local:=by first | exact .inl rfl | exact .inr rfl | assumption)
  (hx1:i8 (.UnaryOp .USub (.Constant (.int 1) k1 p7) p8):=by intro _ _;rfl) (hx2:i8 (.Constant (.int 1) k2 p10):=by intro _ _;rfl)
  (hsf:∀x,foldedSetIterable iter X.env x=pure x:=by intro _;rfl) :
  SS X T W (.For (.Name nt pt) iter [.Expr (.Call (.Attribute (.Name nr p1) "append" p2) [e] [] p3) p4,.Assign [.Name nc p5] (.Subscript (.Subscript (.Name nr p6) (.UnaryOp .USub (.Constant (.int 1) k1 p7) p8) p9) (.Constant (.int 1) k2 p10) p11) p12] [] pos) (tW mi r c t m) :=
 PS.wk (wB (pos:=pos) hp hc hi (oJ (pos:=pt) hN ht hlt hft) (ir (iW (pos:=p4) (qb (cpos:=p3) (apos:=p2) PySem.F.plainAttrs_list PySem.F.slot_list_append PySem.F.type_list_append i3 (dy (pos:=p1) hr hvr hd hcd) (aa he ag hst) rfl hfew hline hst) hs)
  (oG (rO (pos:=p12) hN hcn hlc (wN (pos:=p11) sk (wN (pos:=p9) sk (dy (pos:=p6) hr hvr hd hcd) (FL (pos:=p8) B7 (oK (i:=1) (j:=k1) (pos:=p7))) hx1) (oK (i:=1) (j:=k2) (pos:=p10)) hx2) hs2 hfc))) hsf) fun D Y H hz1=>by
  obtain⟨Z,F,env,fp,S,q⟩:=hz1
  unfold tW at q
  refine⟨Z,F,env,fp,S,?_⟩
  cases em:mi env with
  | exc x=>rw[em]at q;exact fun H' x=>q F H' Y fp (S.grow (Gr.same S.hp.ft x))
  | stuck=>rw[em]at q;exact q
  | ok xs =>
   rw[em]at q
   dsimp only at q
   intro J H1 F1 g1 it
   have S1:=S.grow g1
   split at q
   case h_2=>exact q.elim
   rename_i rows cv er ec
   obtain⟨ra,ws,fpr,hra,hla,hrr,hfr⟩:=S1.lst er
   obtain⟨v0,hv0,rv0⟩:=S1.rel c cv ec
   have ram:ra∈fp r:=by rw[hfr];exact List.mem_cons_self
   have cl:c < env.length:=(List.getElem?_eq_some_iff.mp ec).1
   refine ⟨fun i n σ2 H2=>n=xs.length - i/\i <= xs.length/\∃ F2 env2 fp2 rows cv v,av T (Z.re F1 H1 fp) F2 H2 σ2 env2 fp2/\env2[r]?=some (some (.lst .own rows))/\env2[c]?=some none/\σ2[c]?=some (some v)/\σ2[r]?=some (some (.ref ra))/\Rel T F2 (VB H2 fp2 r ra) NoL H2 cv v []/\GS T W Z D (oF m r c t (xs.drop i) rows cv env2),
    ⟨xs.length,by simp,Nat.zero_le _,F1,env.set c none,br fp c [],rows,cv.borrow,v0,S1.enter.drop c0,by rw[List.getElem?_set_ne (Ne.symm rc)];exact er,by rw[List.getElem?_set];simp[cl],hv0,hra,Rel.borrow (fun a h=>?_) (fun a h=>h.elim) (fun a h=>?_) rv0,q⟩,?_⟩
   ·obtain⟨h1,h2⟩:=S1.bOut h
    refine⟨h1,fun z=>h2 r (by rw[z];exact ram),fun j _ hj=>?_⟩
    unfold br at hj
    split at hj
    ·cases hj
    ·exact h2 j hj
   ·refine⟨(S1.dis c a h).2,fun z=>S1.dj c r (Ne.symm rc) a h (by rw[z];exact ram),fun j _ hj=>?_⟩
    unfold br at hj
    split at hj
    ·cases hj
    ·rename_i jc
     exact S1.dj c j (Ne.symm jc) a h hj
   clear q er ec hla hrr hfr hv0 rv0 ws fpr
   rintro i n σ2 H2 ⟨rfl,hi',F2,env2,fp2,rows,cv,v,S2,er,ec,hv,hra2,rcv,q2⟩
   obtain⟨go,stop⟩:=it H2 S2.hp.keep
   by_cases hlt':i < xs.length
   ·have hx:xs[i]?=some xs[i]:=by simp[hlt']
    obtain⟨g1',yl⟩:=go i _ hx
    refine .inr ⟨g1',fun σ3 H3=>∃F2 env2 fp2 rows cv v,av T (Z.re F1 H1 fp) F2 H3 σ3 env2 fp2/\env2[r]?=some (some (.lst .own rows))/\env2[c]?=some none/\σ3[c]?=some (some v)/\σ3[r]?=some (some (.ref ra))/\Rel T F2 (VB H3 fp2 r ra) NoL H3 cv v []/\GS T W Z D (oF m r c t (xs.drop (i+1)) rows cv env2),fun σ3 H3 h3=>⟨xs.length - (i+1),by omega,rfl,hlt',h3⟩,fun x H3 hy=>?_⟩
    obtain⟨ex3,rx⟩:=yl x H3 hy
    rw[List.drop_eq_getElem_cons hlt']at q2
    unfold oF at q2
    have S3:=(S2.grow (Gr.same S2.hp.ft ex3)).put (i:=t) (pv:=xs[i]) (v:=x) (f:=[]) (rx.ext Ext.refl S2.hp.f0) List.nodup_nil (fun _ z=>(nomatch z)) (fun _ z=>(nomatch z)) (fun _ z=>(nomatch z)) (by simp[aU,t0])
    show vX _ _ _ (σ2.set t (some x)) H3
    split at q2
    case h_2=>exact q2.elim
    rename_i pa pb em2
    split at q2
    ·exact q2.elim
    rename_i hnb
    simp only[Bool.or_eq_true,decide_eq_true_eq,not_or,Bool.not_eq_true]at hnb
    obtain⟨⟨nb,nl⟩,nrow⟩:=hnb
    have hv3:(σ2.set t (some x))[c]?=some (some v):=by rw[List.getElem?_set_ne (Ne.symm ct)];exact hv
    have hra3:(σ2.set t (some x))[r]?=some (some (.ref ra)):=by rw[List.getElem?_set_ne (Ne.symm rt)];exact hra2
    have er3:(env2.set t (some xs[i]))[r]?=some (some (.lst .own rows)):=by rw[List.getElem?_set_ne (Ne.symm rt)];exact er
    have ec3:(env2.set t (some xs[i]))[c]?=some none:=by rw[List.getElem?_set_ne (Ne.symm ct)];exact ec
    obtain⟨ra',ws,fpr,hra',hla,hrr,hfr⟩:=S3.lst er3
    rw[hra3]at hra'
    cases hra'
    generalize hσ3:σ2.set t (some x)=σ3 at *
    generalize henv3:env2.set t (some xs[i])=env3 at *
    generalize hfp3:br fp2 t []=fp3 at *
    have ram3:ra∈fp3 r:=by rw[hfr];exact List.mem_cons_self
    have sub3:∀j a,a∈fp3 j->a∈fp2 j:=fun j a h=>by
     rw[<- hfp3]at h
     unfold br at h
     split at h
     ·cases h
     ·exact h
    have S4:=(S3.drop r0).enter
    have S5:=S4.wideB (B':=fun a=>(∃ o,H3 a=some o)/\¬ Own (br fp3 r []) a) (fun a h=>by
     obtain⟨h1,h2⟩:=S3.bOut h
     refine⟨h1,fun⟨j,hj⟩=>?_⟩
     unfold br at hj
     split at hj
     ·cases hj
     ·exact h2 j hj) (fun a h=>h)
    have rcv3:Rel T F2 (fun a=>(∃ o,H3 a=some o)/\¬ Own (br fp3 r []) a) NoL H3 cv v []:=Rel.tr (fun _ h=>h) (fun a h=>⟨let ⟨o,q⟩:=h.1;⟨o,ex3 a o q⟩,fun hz1=>by
     obtain⟨j,hj⟩:=hz1
     unfold br at hj
     split at hj
     ·cases hj
     ·rename_i jr
      exact h.2.2 j jr (sub3 j a hj)⟩) (fun _ h=>h) (fun a o q _=>ex3 a o q) (fun a _ o q=>ex3 a o q) rcv
    have S6:=S5.put (i:=c) (pv:=cv) (v:=v) (f:=[]) rcv3 List.nodup_nil (fun _ z=>(nomatch z)) (fun _ z=>(nomatch z)) (fun _ z=>(nomatch z)) (by simp[aU,c0])
    rw[v_ hv3]at S6
    refine⟨_,hra3,.inl ⟨rfl,ws,by rw[hK];exact SqL.of hla⟩,_,F2,_,_,S6,?_⟩
    unfold ae am
    rw[em2]
    intro vs H4 F4 f4 g r4 n4 d4 w4
    obtain⟨u,rfl,ru⟩:=r4.one
    have S7:=S3.grow g
    have hl4:=g.ext ra _ hla
    refine⟨ra,ws,u,rfl,rfl,hl4,?_,?_⟩
    ·rw[<- hrr.length,sizeLine_eq];omega
    have ru':Rel T F4 (Z.re F1 H1 fp).B NoL H4 (.tup [pa,pb]) u f4:=Rel.noL nl (Rel.noB nb ru)
    have rone:RelL T F4 (Z.re F1 H1 fp).B NoL H4 [.tup [pa,pb]] [u] f4:=by unfold RelL;exact⟨u,[],f4,[],rfl,ru',by unfold RelL;exact⟨rfl,rfl⟩,by simp⟩
    have bes:=S3.beside g n4 w4
    have S8:=S7.mutL (v:=u) er3 hra3 hfr (RelL.append (hrr.ext g.ext g.mono) rone) (by
     grind[br,av,ck,Gr]) (fun b hb=>by
     rcases List.mem_append.mp hb with hb | hb
     ·exact .inl hb
     ·exact .inr (bes b hb)) hl4
    unfold Rel at ru'
    obtain⟨ta,tvs,rfl,hsq,hrl⟩:=ru'
    unfold RelL at hrl
    obtain⟨va,w1,fa,fb0,rfl,hra4,hrl,ef4⟩:=hrl
    unfold RelL at hrl
    obtain⟨vb,w2,fb,fz,rfl,hrb4,hrl,efb⟩:=hrl
    unfold RelL at hrl
    obtain⟨rfl,rfl⟩:=hrl
    have fbm:∀a∈fb,a∈f4:=fun a ha=>by rw[ef4,efb];simp[ha]
    have raF:¬F4 ra:=(S7.dis r ra ram3).1
    have raB:¬(Z.re F1 H1 fp).B ra:=fun z=>(S7.bOut z).2 r ram3
    have nfix:∀o,H4 ra=some o->¬fR o:=fun o h=>by
     rw[hl4]at h
     cases h
     exact fun z=>z
    have keep8:∀a o,H4 a=some o->a≠ra->upd H4 ra (.lst (ws++[V.ref ta])) a=some o:=fun a o h n=>by
     unfold upd
     rw[if_neg n]
     exact h
    have hsq8:SqT T.K (upd H4 ra (.lst (ws++[V.ref ta]))) ta [va,vb]:=SqT.tr (fun o h1 h2=>keep8 ta o h1 fun z=>nfix o (by rw[<- z];exact h1) h2) hsq
    have hrb8:Rel T F4 (Z.re F1 H1 fp).B NoL (upd H4 ra (.lst (ws++[V.ref ta]))) pb vb fb:=Rel.tr (fun _ h=>h) (fun _ h=>h) (fun _ h=>h) (by grind) (fun a ha o h=>keep8 a o h fun z=>(bes a (fbm a ha)).2.2 r (by rw[z];exact ram3)) hrb4
    have ra8:upd H4 ra (.lst (ws++[V.ref ta])) ra=some (.lst (ws++[V.ref ta])):=by unfold upd;simp
    refine⟨_,hra3,1,rfl,.inl ⟨ra,ws++[V.ref ta],-1,V.ref ta,rfl,rfl,by rw[hK];exact SqL.of ra8,atI_last ws _,.inr (.inl ⟨ta,[va,vb],1,vb,rfl,rfl,by rw[hK];exact hsq8,rfl,?_⟩)⟩⟩
    have ec8:(env3.set r (some (.lst .own (rows++[.tup [pa,pb]]))))[c]?=some none:=by rw[List.getElem?_set_ne rc];exact ec3
    have rl:r < env3.length:=(List.getElem?_eq_some_iff.mp er3).1
    have cl3:c < σ3.length:=(List.getElem?_eq_some_iff.mp hv3).1
    refine⟨F4,_,_,rows++[.tup [pa,pb]],pb.borrow,vb,S8.blind c0 ec8 vb,by rw[List.getElem?_set];simp[rl],ec8,by rw[List.getElem?_set];simp[cl3],by rw[List.getElem?_set_ne (Ne.symm rc)];exact hra3,Rel.borrow (fun a h=>?_) (fun a h=>h.elim) (fun a h=>?_) hrb8,q2⟩
    ·obtain⟨h1,h2⟩:=S8.bOut h
     refine⟨h1,fun z=>h2 r (by rw[z];unfold br;simp),fun j _=>h2 j⟩
    ·have b4:=bes a (fbm a h)
     have na:a≠ra:=fun z=>b4.2.2 r (by rw[z];exact ram3)
     refine⟨?_,na,fun j jr hj=>?_⟩
     ·obtain⟨o,ho⟩:=hrb8.there a h
      exact⟨o,ho⟩
     ·unfold br at hj
      rw[if_neg jr]at hj
      exact b4.2.2 j hj
   ·have e:i=xs.length:=by omega
    subst e
    rw[List.drop_length]at q2
    unfold oF at q2
    exact .inl ⟨stop,q2 F2 H2 σ2 fp2 (S1.leave S2)⟩
end
open PySem.W (findIn fnOf keepIn nsIn codeIn isFn Frag)
structure FS where
 q:Str
 s:Stmt
 k:Nat
 N:List Str
 c:Option Nat
def cz(s:Stmt):Str:=match s with
 | .FunctionDef n _ _ _ _ _ _ _ _ _=>n
 | _ => ""
structure PT where
 F:List FS
 C:List Str
 X:List Str
 A:List Str
 M:List (Nat×Str×Nat)
 Mk:List (Nat×Nat)
 U:List (Nat×Nat)
 B:List Str
 I:List (Str×Int)
 KT:List (Option Nat×String×List Bool)
 HT:List (Nat×List Bool)
 D:List (List Str):=[]
def fs0:FS:=⟨"", .Pass ⟨0,0,0,0⟩,0,[],none⟩
def pk{α:Type}(d:α)(l:List α)(i:Nat):α:=l.getD i (l.headD d)
def gI{α:Type}{d:α}{p:α->Prop}{l:List α}(hl:l≠[])(h:∀x∈l,p x)(i:Nat):p (pk d l i):=by
 unfold pk
 rw[List.getD_eq_getElem?_getD]
 cases e:l[i]? with
 | some C=>exact h C (List.mem_of_getElem? e)
 | none =>
  cases l with
  | nil=>exact absurd rfl hl
  | cons a l=>exact h a List.mem_cons_self
section
variable(p:PT)(K:Frag)
def gAt(x:Str):Addr:=match nsIn K mainGlobals x with
 | some (some (.ref a))=>a
 | _=>0
def mAt(c:Addr)(x:Str):Addr:=match findIn K (.ref c) x with
 | some (some (.ref a))=>a
 | _=>0
def dAt(f:Addr):FuncData:=match K.lookup f with
 | some ⟨_,_,.func d,_⟩=>d
 | _=>default
def PT.fs(i:Nat):FS:=pk fs0 p.F i
def PT.ps(i:Nat):List Str:=(p.fs i).N.take (p.fs i).k
def PT.ca(c:Nat):Addr:=gAt K (pk "" p.C c)
def PT.xa(c:Nat):Addr:=gAt K (pk "" p.X c)
def PT.fx(x:FS):Addr:=match x.c with
 | none=>gAt K (cz x.s)
 | some c=>mAt K (p.ca K c) (cz x.s)
def PT.fa(i:Nat):Addr:=p.fx K (p.fs i)
def lit(x:FS):Obj->Obj
 |⟨oc,od,.func d,sl⟩=>⟨oc,od,.func (fnOf (cz x.s) x.q (fh x.s) (cO x.s) (aM x.s) .none d.kwdefaults d.doc d.pyModule d.annotations d.code d.closureTuple),sl⟩
 | o=>o
def GL:Option Obj->Bool
 | some ⟨_,_,.func _,_⟩=>true
 | _=>false
def scB(x:FS):Bool:=decide ((aM x.s).kind=.function)&&!(aM x.s).isCoroutine&&!(aM x.s).isGenerator&&decide x.N.Nodup&&decide (x.k<=x.N.length) &&
 (x.N.take x.k).all (fun y=>decide ((aM x.s).names.lookup y=some .local \/(aM x.s).names.lookup y=some .cell))&&(aM x.s).names.all (fun y=>decide (y.2≠.free))
def PT.chF(x:FS):Bool:=GL (K.lookup (p.fx K x))&&codeIn K (dAt K (p.fx K x)).code x.q&&keepIn K (.ref (p.fx K x))&&(match x.c with | none=>decide (nsIn K mainGlobals (cz x.s)=some (some (.ref (p.fx K x)))) | some _=>true)
def chC(A:List Str)(x:Str):Bool:=PySem.W.plainGet K (gAt K x) Str.empty&&PySem.W.hasDictIn K (gAt K x)&&PySem.W.plainOver K (gAt K x)&&decide (findIn K (.ref (gAt K x)) "__setattr__" = some (some (.builtin "object.__setattr__"))) &&
 decide (nsIn K mainGlobals x=some (some (.ref (gAt K x))))&&A.all (fun y=>decide (findIn K (.ref (gAt K x)) y=some none))
def PT.chM(x:Nat×Str×Nat):Bool:=decide (findIn K (.ref (p.ca K x.1)) x.2.1=some (some (.ref (p.fa K x.2.2))))&&isFn K (.ref (p.fa K x.2.2))&&keepIn K (.ref (p.fa K x.2.2))
def PT.chK(x:Nat×Nat):Bool:=PySem.W.makesIn K (p.ca K x.1)&&decide (findIn K (.ref (p.ca K x.1)) "__init__" = some (some (.ref (p.fa K x.2))))&&isFn K (.ref (p.fa K x.2))&&keepIn K (.ref (p.ca K x.1))
def BV(f:Addr):Option PySem.W.CFound->Bool
 | some (.val (.ref a))=>decide (a=f)
 | _=>false
def PT.chU(x:Nat×Nat):Bool:=decide (PySem.W.specialIn K (.ref (p.ca K x.1)) "__getattribute__" = some (some (.builtin "type.__getattribute__")))&&PySem.W.readsIn K (p.ca K x.1) (.type "type")&&BV (p.fa K x.2) (PySem.W.findCls K (.ref (p.ca K x.1)) (.type "type") "__init__")&&keepIn K (.ref (p.fa K x.2))
def tgV(y:Option Nat×String×List Bool):Value:=match y.1 with
 | some x=>.ref (p.xa K x)
 | none=>.type y.2.1
def chX(x:Str):Bool:=decide (nsIn K mainGlobals x=some (some (.ref (gAt K x))))&&vw K (gAt K x)
def chI(x:Str×Int):Bool:=match nsIn K mainGlobals x.1 with
 | some (some (.int i _))=>decide (i=x.2)
 | _=>false
def PT.chT(y:Option Nat×String×List Bool):Bool:=decide (p.X.map (fun x=>PySem.W.kitOne K (.ref (gAt K x)) (tgV p K y))=y.2.2.map some)
def PT.chH(y:Nat×List Bool):Bool:=decide (p.X.map (fun x=>PySem.W.exmOne K (.ref (gAt K x)) (.ref (p.xa K y.1)))=y.2.map some)
def PT.ch1:Bool:=p.F.all (p.chF K)
def PT.ch2:Bool:=p.C.all (chC K p.A)&&p.Mk.all (p.chK K)&&p.U.all (p.chU K)&&p.X.all (chX K)&&p.B.all (fun x=>decide (nsIn K mainGlobals x=some none))&&p.I.all (chI K)&&p.KT.all (p.chT K)&&p.HT.all (p.chH K)
def PT.ch3:Bool:=p.M.all (p.chM K)
def PT.ob:List (Option Obj):=p.F.map fun x=>K.lookup (p.fx K x)
def PT.ol:List (Option Obj):=p.F.map fun x=>(K.lookup (p.fx K x)).map (lit x)
end
structure Tx(p:PT)(K:Frag)(mg:Str->Option Value):Prop where
 fn:∀i,Fun K (cz (p.fs i).s) (p.fs i).q (p.fs i).s (p.fa K i) (dAt K (p.fa K i))
 sc:∀i,fj (p.fs i).N (p.ps i) (aM (p.fs i).s)
 bn:∀i,fM K (dAt K (p.fa K i)) (p.ps i) []
 gl:∀i,(p.fs i).c=none->mg (cz (p.fs i).s)=some (.ref (p.fa K i))
 cl:∀c,Cls K (p.ca K c)
 cg:∀c,mg (pk "" p.C c)=some (.ref (p.ca K c))
 cn:∀c,∀x∈p.A,eW K (p.ca K c) x
 me:∀x∈p.M,BH K (p.ca K x.1) x.2.1 (p.fa K x.2.2)
 mm:∀x∈p.Mk,Mk K (p.ca K x.1) (p.fa K x.2)
 su:∀x∈p.U,Sup K (p.ca K x.1) (p.fa K x.2)
 xg:∀c,mg (pk "" p.X c)=some (.ref (p.xa K c))
 xe:∀c,vw K (p.xa K c)=true
 bi:∀x∈p.B,mg x=none
 ci:∀x∈p.I,∃tk,mg x.1=some (.int x.2 tk)
 kt:∀y∈p.KT,∀c,PySem.W.kitOne K (.ref (p.xa K c)) (tgV p K y)=some (qa y.2.2 c)
 ht:∀y∈p.HT,∀c,PySem.W.exmOne K (.ref (p.xa K c)) (.ref (p.xa K y.1))=some (qa y.2 c)
def Bnd(x:FS):Prop:=∀(kV doc pm:Value) (an:Option Addr) (cdv ct:Value) (us:List Value),us.length=(x.N.take x.k).length->bindArgs (fnOf (cz x.s) x.q (fh x.s) (cO x.s) (aM x.s) .none kV doc pm an cdv ct) ⟨us,[]⟩=pure ((x.N.take x.k).zip us)
def zI:List FS->Prop
 | []=>True
 | x::l=>Bnd x/\zI l
def zI.get:∀{l:List FS},zI l->∀x∈l,Bnd x
 | [],_,_,h=>nomatch h
 | y::l,⟨h1,h2⟩,x,h=>by
  rcases List.mem_cons.mp h with rfl | h
  ·exact h1
  ·exact h2.get x h
section
variable{x:FS}
def lsS{us:List Value}(h:us.length=n+1):∃a r,us=a::r/\r.length=n:=by
 cases us with
 | nil=>cases h
 | cons a r=>exact⟨a,r,rfl,Nat.succ.inj h⟩
def bn1(h:∀(kV doc pm:Value) (an:Option Addr) (cdv ct u1:Value),bindArgs (fnOf (cz x.s) x.q (fh x.s) (cO x.s) (aM x.s) .none kV doc pm an cdv ct) ⟨[u1],[]⟩=pure ((x.N.take x.k).zip [u1]):=by intros;rfl)(hk:(x.N.take x.k).length=1:=by rfl):Bnd x:=fun kV doc pm an cdv ct us hl=>by
 rw[hk]at hl
 obtain⟨_,_,rfl,l1⟩:=lsS hl
 cases List.eq_nil_of_length_eq_zero l1
 exact h ..
def bn2(h:∀(kV doc pm:Value) (an:Option Addr) (cdv ct u1 u2:Value),bindArgs (fnOf (cz x.s) x.q (fh x.s) (cO x.s) (aM x.s) .none kV doc pm an cdv ct) ⟨[u1,u2],[]⟩=pure ((x.N.take x.k).zip [u1,u2]):=by intros;rfl)(hk:(x.N.take x.k).length=2:=by rfl):Bnd x:=fun kV doc pm an cdv ct us hl=>by
 rw[hk]at hl
 obtain⟨_,_,rfl,l1⟩:=lsS hl
 obtain⟨_,_,rfl,l2⟩:=lsS l1
 cases List.eq_nil_of_length_eq_zero l2
 exact h ..
def bn3(h:∀(kV doc pm:Value) (an:Option Addr) (cdv ct u1 u2 u3:Value),bindArgs (fnOf (cz x.s) x.q (fh x.s) (cO x.s) (aM x.s) .none kV doc pm an cdv ct) ⟨[u1,u2,u3],[]⟩=pure ((x.N.take x.k).zip [u1,u2,u3]):=by intros;rfl)(hk:(x.N.take x.k).length=3:=by rfl):Bnd x:=fun kV doc pm an cdv ct us hl=>by
 rw[hk]at hl
 obtain⟨_,_,rfl,l1⟩:=lsS hl
 obtain⟨_,_,rfl,l2⟩:=lsS l1
 obtain⟨_,_,rfl,l3⟩:=lsS l2
 cases List.eq_nil_of_length_eq_zero l3
 exact h ..
def bn4(h:∀(kV doc pm:Value) (an:Option Addr) (cdv ct u1 u2 u3 u4:Value),bindArgs (fnOf (cz x.s) x.q (fh x.s) (cO x.s) (aM x.s) .none kV doc pm an cdv ct) ⟨[u1,u2,u3,u4],[]⟩=pure ((x.N.take x.k).zip [u1,u2,u3,u4]):=by intros;rfl)(hk:(x.N.take x.k).length=4:=by rfl):Bnd x:=fun kV doc pm an cdv ct us hl=>by
 rw[hk]at hl
 obtain⟨_,_,rfl,l1⟩:=lsS hl
 obtain⟨_,_,rfl,l2⟩:=lsS l1
 obtain⟨_,_,rfl,l3⟩:=lsS l2
 obtain⟨_,_,rfl,l4⟩:=lsS l3
 cases List.eq_nil_of_length_eq_zero l4
 exact h ..
def bn5(h:∀(kV doc pm:Value) (an:Option Addr) (cdv ct u1 u2 u3 u4 u5:Value),bindArgs (fnOf (cz x.s) x.q (fh x.s) (cO x.s) (aM x.s) .none kV doc pm an cdv ct) ⟨[u1,u2,u3,u4,u5],[]⟩=pure ((x.N.take x.k).zip [u1,u2,u3,u4,u5]):=by intros;rfl)(hk:(x.N.take x.k).length=5:=by rfl):Bnd x:=fun kV doc pm an cdv ct us hl=>by
 rw[hk]at hl
 obtain⟨_,_,rfl,l1⟩:=lsS hl
 obtain⟨_,_,rfl,l2⟩:=lsS l1
 obtain⟨_,_,rfl,l3⟩:=lsS l2
 obtain⟨_,_,rfl,l4⟩:=lsS l3
 obtain⟨_,_,rfl,l5⟩:=lsS l4
 cases List.eq_nil_of_length_eq_zero l5
 exact h ..
end
def vV{l:List Str}{α:Type}{f:Addr->Option Bool}{bs:List Bool}(hl:l≠[])(h:l.map (fun x=>f (gAt K x))=bs.map some)(c:Nat):f (gAt K (pk "" l c))=some (qa bs c):=by
 have e:gAt K (pk "" l c)=AB (l.map (gAt K)) c:=by
  unfold pk AB
  cases l with
  | nil=>exact absurd rfl hl
  | cons a l =>
   rw[List.getD_eq_getElem?_getD,List.getD_eq_getElem?_getD,List.getElem?_map]
   cases(a::l)[c]?<;>rfl
 rw[e]
 exact wG (g:=id) (by simpa using hl) (by rw[List.map_map];exact h) c
def Tx.of{p:PT}{K:Frag}{h:Heap}{mg:Str->Option Value}(X:K.In h)(N:h.Ns mainGlobals mg)(hb:zI p.F)(hs:p.F.all scB=true)(hF:p.F≠[])(hC:p.C≠[])(hX:p.X≠[])
  (e:p.ob K=p.ol K) (h1:p.ch1 K=true) (h2:p.ch2 K=true) (h3:p.ch3 K=true):Tx p K mg:=by
 simp only[PT.ch2,Bool.and_eq_true,List.all_eq_true,decide_eq_true_eq]at h2
 obtain⟨⟨⟨⟨⟨⟨⟨c1,c2⟩,c3⟩,c4⟩,c5⟩,c6⟩,c7⟩,c8⟩:=h2
 simp only[PT.ch1,PT.ch3,List.all_eq_true]at h1 h3 hs
 have fnx:∀x∈p.F,Fun K (cz x.s) x.q x.s (p.fx K x) (dAt K (p.fx K x)):=fun x hx=>by
  have q:=h1 x hx
  simp only[PT.chF,Bool.and_eq_true]at q
  obtain⟨⟨⟨q1,q2⟩,q3⟩,_⟩:=q
  have e1:K.lookup (p.fx K x)=(K.lookup (p.fx K x)).map (lit x):=List.map_inj_left.mp e x hx
  cases eo:K.lookup (p.fx K x)with
  | none=>rw[eo]at q1;cases q1
  | some o =>
   rw[eo]at e1 q1
   obtain⟨oc,od,dt,sl⟩:=o
   cases dt with
   | func d =>
    have e2:(⟨oc,od,.func d,sl⟩:Obj)=lit x ⟨oc,od,.func d,sl⟩:=Option.some.inj e1
    simp only[lit,Obj.mk.injEq,Data.func.injEq,true_and,and_true]at e2
    have ed:dAt K (p.fx K x)=d:=by unfold dAt;rw[eo]
    rw[ed]at q2 ⊢
    exact⟨⟨oc,od,d.kwdefaults,d.doc,d.pyModule,d.annotations,d.code,d.closureTuple,sl,e2,eo,q2⟩,q3⟩
   | _=>cases q1
 have scx:∀x∈p.F,fj x.N (x.N.take x.k) (aM x.s):=fun x hx=>by
  have q:=hs x hx
  simp only[scB,Bool.and_eq_true,decide_eq_true_eq,List.all_eq_true,Bool.not_eq_true']at q
  obtain⟨⟨⟨⟨⟨⟨q1,q2⟩,q3⟩,q4⟩,q5⟩,q6⟩,q7⟩:=q
  exact⟨q1,q2,q3,q4,by rw[List.length_take,Nat.min_eq_left q5],q6,q7⟩
 have clx:∀x∈p.C,(Cls K (gAt K x)/\mg x=some (.ref (gAt K x)))/\∀y∈p.A,eW K (gAt K x) y:=fun x hx=>by
  have q:=c1 x hx
  simp only[chC,Bool.and_eq_true,decide_eq_true_eq,List.all_eq_true]at q
  obtain⟨⟨⟨⟨⟨q1,q2⟩,q3⟩,q4⟩,q5⟩,q6⟩:=q
  exact⟨⟨⟨q1,q2,q3,q4⟩,PySem.W.mg_of X N q5⟩,q6⟩
 have xx:∀x∈p.X,mg x=some (.ref (gAt K x))/\vw K (gAt K x)=true:=fun x hx=>by
  have q:=c4 x hx
  simp only[chX,Bool.and_eq_true,decide_eq_true_eq]at q
  exact⟨PySem.W.mg_of X N q.1,q.2⟩
 refine ⟨gI (p:=fun x=>Fun K (cz x.s) x.q x.s (p.fx K x) (dAt K (p.fx K x))) hF fnx,gI (p:=fun x=>fj x.N (x.N.take x.k) (aM x.s)) hF scx,gI (p:=fun x=>fM K (dAt K (p.fx K x)) (x.N.take x.k) []) hF fun x hx=>(fnx x hx).binds (hb.get x hx),
  gI (p:=fun x=>x.c=none->mg (cz x.s)=some (.ref (p.fx K x))) hF fun x hx hc=>?_,gI (p:=fun x=>Cls K (gAt K x)) hC fun x hx=>(clx x hx).1.1,gI (p:=fun x=>mg x=some (.ref (gAt K x))) hC fun x hx=>(clx x hx).1.2,
  gI (p:=fun x=>∀y∈p.A,eW K (gAt K x) y) hC fun x hx=>(clx x hx).2,fun x hx=>?_,fun x hx=>?_,fun x hx=>?_,gI (p:=fun x=>mg x=some (.ref (gAt K x))) hX fun x hx=>(xx x hx).1,gI (p:=fun x=>vw K (gAt K x)=true) hX fun x hx=>(xx x hx).2,
  fun x hx=>PySem.W.mg_none_of X N (c5 x hx),fun x hx=>?_,fun y hy c=>?_,fun y hy c=>?_⟩
 ·have q:=h1 x hx
  simp only[PT.chF,Bool.and_eq_true]at q
  have q:=q.2
  rw[hc]at q
  exact PySem.W.mg_of X N (of_decide_eq_true q)
 ·have q:=h3 x hx
  simp only[PT.chM,Bool.and_eq_true,decide_eq_true_eq]at q
  exact⟨q.1.1,q.1.2,q.2⟩
 ·have q:=c2 x hx
  simp only[PT.chK,Bool.and_eq_true,decide_eq_true_eq]at q
  exact⟨q.1.1.1,q.1.1.2,q.1.2,q.2⟩
 ·have q:=c3 x hx
  simp only[PT.chU,Bool.and_eq_true,decide_eq_true_eq]at q
  refine⟨q.1.1.1,q.1.1.2,?_,q.2⟩
  have q:=q.1.2
  unfold BV at q
  split at q
  ·rename_i a e
   rw[e,of_decide_eq_true q]
  ·cases q
 ·have q:=c6 x hx
  unfold chI at q
  split at q
  ·rename_i i tk e
   exact⟨tk,by rw[<- of_decide_eq_true q];exact PySem.W.mg_of X N e⟩
  ·cases q
 ·exact vV (α:=Bool) (f:=fun a=>PySem.W.kitOne K (.ref a) (tgV p K y)) hX (of_decide_eq_true (c7 y hy)) c
 ·exact vV (α:=Bool) (f:=fun a=>PySem.W.exmOne K (.ref a) (.ref (p.xa K y.1))) hX (of_decide_eq_true (c8 y hy)) c
def PT.attOk(p:PT):Prop:=p.A.Nodup/\p.A.all kj=true
@[reducible] def PT.T(p:PT)(h:p.attOk)(K:Frag):Tb where
 K:=K
 nc:=p.C.length
 cls:=p.ca K
 att:=jh p.A
 inj:=vH h.1 h.2
 xcl:=p.xa K
 dk:=fun k=>p.D.getD k []
section
variable{p:PT}{K:Frag}{mg:Str->Option Value}
def Tx.cls(t:Tx p K mg)(n:Nat):∀c < n,Cls K (p.ca K c):=fun c _=>t.cl c
def Tx.b(t:Tx p K mg)(j:Nat)(h:p.B[j]?=some x:=by rfl):mg x=none:=t.bi x (List.mem_of_getElem? h)
def Tx.c(t:Tx p K mg)(j:Nat)(h:p.I[j]?=some (x,i):=by rfl):∃tk,mg x=some (.int i tk):=t.ci (x,i) (List.mem_of_getElem? h)
end
open PySem.W (keepIn Frag)
section
variable{P:Program}{w:World}{K:Frag}{mg:Str->Option Value}{base:Heap}{p:PT}{hA:p.attOk}
abbrev OkF(p:PT)(hA:p.attOk)(P:Program)(w:World)(K:Frag)(mg:Str->Option Value)(base:Heap)(k i:Nat)(m:List PV->Res PV):Prop:=dA P w K mg base (CXP P w) k (p.fa K i) (dAt K (p.fa K i)) (p.ps i) (spM (p.T hA K) (p.ps i).length m)
abbrev OkI(p:PT)(hA:p.attOk)(P:Program)(w:World)(K:Frag)(mg:Str->Option Value)(base:Heap)(k i:Nat)(m:List PV->Res PV):Prop:=dA P w K mg base (CXP P w) k (p.fa K i) (dAt K (p.fa K i)) (p.ps i) (spI (p.T hA K) (p.ps i).length m)
def okC(i:Nat)(t:Tx p K mg)(body:∀ (cdv:Value) (A:Around) (outer:List Env) (s:Shared) (H:Hp) (E:XK),Ctx (fK (CXP P w) P w K mg base (p.fs i).N (p.fs i).q (aM (p.fs i).s) (p.fa K i) cdv A outer s H E) (p.T hA K) (WD (p.T hA K) E) k->(p.fs i).N.Nodup ->
  SSs (fK (CXP P w) P w K mg base (p.fs i).N (p.fs i).q (aM (p.fs i).s) (p.fa K i) cdv A outer s H E) (p.T hA K) (WD (p.T hA K) E) (cO (p.fs i).s) m):OkF p hA P w K mg base (k+1) i (ba (p.fs i).N.length m) :=
 DQ (T:=p.T hA K) (t.fn i) (t.sc i) fun a b c d e f g=>body a b c d e f g (t.sc i).nd
def okI(i:Nat)(t:Tx p K mg)(body:∀ (cdv:Value) (A:Around) (outer:List Env) (s:Shared) (H:Hp) (E:XK),Ctx (fK (CXP P w) P w K mg base (p.fs i).N (p.fs i).q (aM (p.fs i).s) (p.fa K i) cdv A outer s H E) (p.T hA K) (WD (p.T hA K) E) k->(p.fs i).N.Nodup ->
  SSs (fK (CXP P w) P w K mg base (p.fs i).N (p.fs i).q (aM (p.fs i).s) (p.fa K i) cdv A outer s H E) (p.T hA K) (WD (p.T hA K) E) (cO (p.fs i).s) m):OkI p hA P w K mg base (k+1) i (i_ (p.fs i).N.length m) :=
 Bd (T:=p.T hA K) (t.fn i) (t.sc i) fun a b c d e f g=>body a b c d e f g (t.sc i).nd
def dm{X:Cx}{k k2 i c:Nat}{mn:Str}{m m':List PV->Res PV}{ps:List Str}(j:Nat)(t:Tx p X.K X.mg)(G:dA X.prog X.w X.K X.mg X.base (CXP X.prog X.w) k (p.fa X.K i) (dAt X.K (p.fa X.K i)) ps (spM (p.T hA X.K) ps.length m))(e:some m=some m')(hj:p.M[j]?=some (c,mn,i):=by rfl)(hp:p.ps i=ps:=by rfl)(hk:k<=k2:=by decide) :
  ∃f fd,BH X.K (p.ca X.K c) mn f/\fM X.K fd ps []/\dA X.prog X.w X.K X.mg X.base (CXP X.prog X.w) k2 f fd ps (spM (p.T hA X.K) ps.length m'):=by
 cases e
 exact⟨_,_,t.me _ (List.mem_of_getElem? hj),hp▸t.bn i,G.mono hk⟩
end
def dno{n c:Nat}{q:Prop}(h:c < n)(hc:n<=c:=by exact Nat.le_add_left _ _):q:=absurd h (Nat.not_lt.mpr hc)
section
variable{X:Cx}{W:Nat->St->Hp->Prop}{p:PT}{hA:p.attOk}
def bv(t:Tx p X.K X.mg)
  (G:dA X.prog X.w X.K X.mg X.base (CXP X.prog X.w) k (p.fa X.K i) (dAt X.K (p.fa X.K i)) (p.ps i) (spM (p.T hA X.K) (p.ps i).length m)) (cx:Ctx X (p.T hA X.K) W kk) (ha:SA X (p.T hA X.K) W (e::es) ms)
  (hk:k<=kk:=by decide) (hx:cz (p.fs i).s=x:=by rfl) (hc:(p.fs i).c=none:=by rfl) (hg:Gl X x:=by rfl) (hn:ie ms n:=by repeat' first | exact fI | apply eD) (hps:n=(p.ps i).length:=by rfl)
  (hdb:(x ==("__debug__" : Str))=false:=by decide) (he:starEach (e::es) X.env=(false,eval e X.env)::starEach es X.env:=by rfl) (hpl:(backTo pos (starEach es X.env)).any (·.1)=false:=by rfl) :
  SE X (p.T hA X.K) W (.Call (.Name x np) (e::es) [] pos) (aq (aQ m) ms) :=
 wj G cx hk hg (by subst hx;exact t.gl i hc) (t.fn i).kp (t.bn i) hn hps ha hdb he hpl
def cR(t:Tx p X.K X.mg)
  (D:eR X (p.T hA X.K) k mn ps [] disp) (cx:Ctx X (p.T hA X.K) W kk) (ho:SE X (p.T hA X.K) W o mo) (ha:SA X (p.T hA X.K) W (e::es) ms)
  (hm:∀k,jh p.A k≠mn:=by exact qU (by decide +kernel) (by decide +kernel)) (hk:k<=kk:=by decide) (hn:ie ms n:=by repeat' first | exact fI | apply eD) (hps:n+1=ps.length:=by rfl)
  (hst:starEach (e::es) X.env=(false,eval e X.env)::starEach es X.env:=by rfl) (hpl:(backTo pos (starEach es X.env)).any (·.1)=false:=by rfl)
  (ht:eval (.Call (.Attribute o mn apos) (e::es) [] pos) X.env=(do
   let ov <- eval o X.env
   standAt apos.atName
   let(f,first) <- holding [ov] (getMethod ov mn pl)
   callWith pos f first (backTo pos (starEach (e::es) X.env)) (backToKw pos (keywordEach [] X.env))):=by rfl) :
  SE X (p.T hA X.K) W (.Call (.Attribute o mn apos) (e::es) [] pos) (bI disp mo ms) :=
 Cn (pl:=pl) cx (t.cls _) hm D hk hn hps ho ha hst hpl ht
def wm(t:Tx p X.K X.mg)
  (D:eR X (p.T hA X.K) k mn ps [] disp) (cx:Ctx X (p.T hA X.K) W kk) (ho:SE X (p.T hA X.K) W o mo)
  (hm:∀k,jh p.A k≠mn:=by exact qU (by decide +kernel) (by decide +kernel)) (hk:k<=kk:=by decide) (hps:ps.length=1:=by rfl)
  (ht:eval (.Call (.Attribute o mn apos) [] [] pos) X.env=(do
   let ov <- eval o X.env
   standAt apos.atName
   let(f,first) <- holding [ov] (getMethod ov mn pl)
   callWith pos f first (backTo pos (starEach [] X.env)) (backToKw pos (keywordEach [] X.env))):=by rfl) :
  SE X (p.T hA X.K) W (.Call (.Attribute o mn apos) [] [] pos) (bI disp mo am) :=
 Ac (pl:=pl) cx (t.cls _) hm D hk hps ho ht
def lL(c:Nat)(t:Tx p X.K X.mg)
  (G:dA X.prog X.w X.K X.mg X.base (CXP X.prog X.w) k (p.fa X.K i) (dAt X.K (p.fa X.K i)) (p.ps i) (spI (p.T hA X.K) (p.ps i).length m)) (cx:Ctx X (p.T hA X.K) W kk) (ha:SA X (p.T hA X.K) W (e::es) ms)
  (hM:(c,i)∈ p.Mk:=by decide) (hcn:c < p.C.length:=by decide) (hk:k+1<=kk:=by decide) (hx:pk ("" : Str) p.C c=x:=by rfl) (hg:Gl X x:=by rfl) (hn:ie ms n:=by repeat' first | exact fI | apply eD) (hps:n+1=(p.ps i).length:=by rfl)
  (hdb:(x ==("__debug__" : Str))=false:=by decide) (he:starEach (e::es) X.env=(false,eval e X.env)::starEach es X.env:=by rfl) (hpl:(backTo pos (starEach es X.env)).any (·.1)=false:=by rfl) :
  SE X (p.T hA X.K) W (.Call (.Name x np) (e::es) [] pos) (ju c m ms) :=
 Cm (t.mm _ hM) hcn G cx hk hg (by subst hx;exact t.cg c) (t.bn i) hn hps ha hdb he hpl
def aR(k:Nat)(t:Tx p X.K X.mg)(cx:Ctx X (p.T hA X.K) W kk)(he:SE X (p.T hA X.K) W e m)(hf:jh p.A k=f:=by rfl)(hm:f∈p.A:=by decide)(hb:attributeBase e f X.env (eval e X.env)=eval e X.env:=by rfl) :
  SE X (p.T hA X.K) W (.Attribute e f pos) (mUn (ao k) m):=Ah cx.hK hf (t.cls _) (fun c _=>t.cn c f hm) he hb
def ik(ha:SA X T W es ms)(hn:ie ms n:=by repeat' first | exact fI | apply eD)(hs:n<=1000:=by decide):SE X T W (.List es pos) (fg ms):=Co ha hn hs
def rH{x1}(ha:SA X T W es ms)(hn:ie ms n:=by repeat' first | exact fI | apply eD)(hs:n<=1000:=by decide):SE X T W (.Tuple es x1 pos) (l0 ms):=Cj ha hn hs
def bA(cx:Ctx X T W kk)(ha:SE X T W a ma)(hb:SE X T W b mb)(hs:i8 b:=by exact fun _ _=>rfl):SE X T W (.Subscript a b pos) (mOp aO ma mb):=Cp cx.hK ha hb hs
def bw(hN:X.N.Nodup)(he:SE X T W e m)(hi:X.N[i]?=some x:=by rfl)(hx:Loc X.env.scope x:=by first | exact .inl rfl | exact .inr rfl)(hs:swapsWith e (some (.Name x pos')) pos.line X.env=pure false:=by rfl)
  (hf:X.fn x=true\/X.env.scope.names.lookup x=some .local:=by first | exact .inl rfl | exact .inr rfl | assumption):SS X T W (.Assign [.Name x pos'] e pos) (aS i m):=Ce hN hi hx he hs hf
def sgN(hN:X.N.Nodup)(hi:X.N[i]?=some x:=by rfl)(hx:Loc X.env.scope x:=by first | exact .inl rfl | exact .inr rfl)(hf:X.fn x=true\/X.env.scope.names.lookup x=some .local:=by first | exact .inl rfl | exact .inr rfl | assumption):SG X T (.Name x pos) (tgN i):=z8 hN hi hx hf
def cG(h:k<=i:=by decide):gZ (tgN i) k:=vS h
def uy(cx:Ctx X T W kk)(he:SE X T W e m)(hN:X.N[i]?=some x:=by rfl)(hv:Vis X.env.scope x:=by first | exact Or.inl rfl | exact Or.inr (Or.inl rfl) | exact Or.inr (Or.inr rfl))
  (hs:swapsWith (.Call (.Attribute (.Name x px) "append" apos) [e] [] cpos) none pos.line X.env=pure false:=by rfl) (hst:starEach [e] X.env=[(false,eval e X.env)]:=by rfl)
  (hfew:((backTo cpos (starEach [e] X.env)).all (fun x=>!x.1)&&(backToKw cpos (keywordEach [] X.env)).all (fun x=>x.1.isSome)&&decide ([e].length+([]:List Keyword).length+(if([]:List Keyword).isEmpty then 0 else 1) < 30))=true:=by rfl)
  (hline:(apos.endLine==cpos.line)=true:=by rfl) (hd:(x ==("__debug__" : Str))=false:=by decide) (hcd:(x ==("__classdict__" : Str))=false:=by decide) :
  SS X T W (.Expr (.Call (.Attribute (.Name x px) "append" apos) [e] [] cpos) pos) (d7 i m):=ur cx.hK hN hv he hs hst hfew hline hd hcd
def sFld(k:Nat)(t:Tx p X.K X.mg)(cx:Ctx X (p.T hA X.K) W kk)(he:SE X (p.T hA X.K) W e m)(hf:jh p.A k=f:=by rfl)(hm:f∈p.A:=by decide)(hN:X.N[i]?=some x:=by rfl)
  (hv:Vis X.env.scope x:=by first | exact Or.inl rfl | exact Or.inr (Or.inl rfl) | exact Or.inr (Or.inr rfl))
  (hs:swapsWith e (some (.Attribute (.Name x px) f pos')) pos.line X.env=pure false:=by rfl) (hd:(x ==("__debug__" : Str))=false:=by decide) (hcd:(x ==("__classdict__" : Str))=false:=by decide) :
  SS X (p.T hA X.K) W (.Assign [.Attribute (.Name x px) f pos'] e pos) (gj i k m):=Cf cx.hK hf (t.cls _) (fun c _=>t.cn c f hm) hN hv he hs hd hcd
def b0(c:Nat)(t:Tx p X.K X.mg)(cx:Ctx X (p.T hA X.K) W k)(hB:X.K.In X.base)(hx:XM X (p.T hA X.K) W)(ha:SA X (p.T hA X.K) W (e::es) ms)
  (hm:pk ("" : Str) p.X c=x:=by rfl) (hg:Gl X x:=by rfl) (hn:ie ms n:=by repeat' first | exact fI | apply eD) (hn2:n<=100:=by decide) (hd:(x ==("__debug__" : Str))=false:=by decide)
  (he:starEach (e::es) X.env=(false,eval e X.env)::starEach es X.env:=by rfl) (hpl:(backTo cpos (starEach es X.env)).any (·.1)=false:=by rfl) :
  SS X (p.T hA X.K) W (.Raise (some (.Call (.Name x np) (e::es) [] cpos)) none pos) (bj c ms) :=
 uq cx (by subst hm;exact t.xg c) hB (Bj (t.xe c)).2 hx hg hn hn2 ha hd he hpl
def pQ(c:Nat)(t:Tx p X.K X.mg)
  (G:dA X.prog X.w X.K X.mg X.base (CXP X.prog X.w) k (p.fa X.K i) (dAt X.K (p.fa X.K i)) (p.ps i) (spI (p.T hA X.K) (p.ps i).length m)) (cx:Ctx X (p.T hA X.K) W kk) (ha:SA X (p.T hA X.K) W es ms)
  (hU:(c,i)∈ p.U:=by decide) (hk:k<=kk:=by decide) (hx:pk ("" : Str) p.C c=x:=by rfl) (hg:Gl X x:=by rfl) (hN:X.N[0]?=some y:=by rfl) (hv:Vis X.env.scope y:=by first | exact Or.inl rfl | exact Or.inr (Or.inl rfl) | exact Or.inr (Or.inr rfl))
  (hn:ie ms n:=by repeat' first | exact fI | apply eD) (hps:n+1=(p.ps i).length:=by rfl)
  (hdb:(x ==("__debug__" : Str))=false:=by decide) (hdy:(y ==("__debug__" : Str))=false:=by decide) (hcy:(y ==("__classdict__" : Str))=false:=by decide)
  (hst:starEach (.Name y px::es) X.env=(false,eval (.Name y px) X.env)::starEach es X.env:=by rfl) (hpl:(backTo pos (starEach es X.env)).any (·.1)=false:=by rfl)
  (ht:eval (.Call (.Attribute (.Name x q) "__init__" apos) (.Name y px::es) [] pos) X.env=(do
   let ov <- eval (.Name x q) X.env
   standAt apos.atName
   let(f,first) <- holding [ov] (getMethod ov "__init__" pl)
   callWith pos f first (backTo pos (starEach (.Name y px::es) X.env)) (backToKw pos (keywordEach [] X.env))):=by rfl)
  (hs:swapsWith (.Call (.Attribute (.Name x q) "__init__" apos) (.Name y px::es) [] pos) none pos'.line X.env=pure false:=by rfl) :
  SS X (p.T hA X.K) W (.Expr (.Call (.Attribute (.Name x q) "__init__" apos) (.Name y px::es) [] pos) pos') (ib m ms) :=
 Cd (pl:=pl) cx (t.su _ hU) G hk hg (by subst hx;exact t.cg c) (t.bn i) hN hv hn hps ha hdb hdy hcy hst hpl ht hs
end
section
variable{X:Cx}{W:Nat->St->Hp->Prop}{T:Tb}
abbrev nmC(X:Cx)(caps:List Nat)(tn:List Str):List Str:=caps.map (fun i=>X.N.getD i "")++ tn
def cOf(h:mR X.env.scope scope X.N caps (nmC X caps tn) tn=true):eJ X scope caps (nmC X caps tn) tn:=By h rfl rfl
def fC(tn:List Str)(cx:Ctx X T W kk)(hi:SIc X T W tg iter mi)(hk:gZ g caps.length)
  (hb:∀C s H ex,(nmC X caps tn).Nodup->SG (cxC X scope C (nmC X caps tn) s H ex) T tg g/\STs (cxC X scope C (nmC X caps tn) s H ex) T WF ifs mc/\SE (cxC X scope C (nmC X caps tn) s H ex) T WF elt me)
  (h:mR X.env.scope scope X.N caps (nmC X caps tn) tn=true:=by kernel_rfl) (hs:∀x,foldedSetIterable iter X.env x=pure x:=by intro _;rfl):SE X T W (.ListComp elt [⟨tg,iter,ifs,0⟩] scope pos) (a_ caps tn.length mi g mc me) :=
 Ae (cOf h) cx.calm hi hk (fun C s H ex=>hb C s H ex (cOf h).nd) hs
def dM(tn:List Str)(cx:Ctx X T W kk)(hN:X.N.Nodup)(hi:SIc X T W tg iter mi)(hk:gZ g caps.length)
  (hb:∀C s H ex,(nmC X caps tn).Nodup->SG (cxC X scope C (nmC X caps tn) s H ex) T tg g/\STs (cxC X scope C (nmC X caps tn) s H ex) T WF ifs mc/\SE (cxC X scope C (nmC X caps tn) s H ex) T WF elt me)
  (h:mR X.env.scope scope X.N caps (nmC X caps tn) tn=true:=by kernel_rfl) (hy:X.N[i]?=some y:=by rfl) (hx:Loc X.env.scope y:=by first | exact .inl rfl | exact .inr rfl)
  (hsw:swapsWith (.ListComp elt [⟨tg,iter,ifs,0⟩] scope pos) (some (.Name y py)) spos.line X.env=pure true:=by rfl)
  (hs:∀x,foldedSetIterable iter X.env x=pure x:=by intro _;rfl)
  (hf:X.fn y=true\/X.env.scope.names.lookup y=some .local:=by first | exact .inl rfl | exact .inr rfl | assumption) :
  SS X T W (.Assign [.Name y py] (.ListComp elt [⟨tg,iter,ifs,0⟩] scope pos) spos) (aS i (a_ caps tn.length mi g mc me)) :=
 zX (cOf h) cx.calm hN hy hx hi hk (fun C s H ex=>hb C s H ex (cOf h).nd) hsw hs hf
end
end PR
namespace PR
open PySem PySem.Spec L2
open PySem.W (findIn fnOf keepIn nsIn codeIn isFn Frag)
structure PE where
 D:List (FS×Bool)
 G:List (Str×List (Str×Int))
 S:List (Str×Str)
 P:List (Str×List Str)
section
variable{X:Cx}{T:Tb}{W:Nat->St->Hp->Prop}{Z:Zn}{F F1 B L:Addr->Prop}{H H1:Hp}{Y:St}{env:En}{fp:Nat->List Addr}{D:Ends}
def tj:∀{xs:List PV}{ws:List V}{f:List Addr}{i:Nat}{x:PV},RelL T F B L H xs ws f->xs[i]?=some x->∃w fx,ws[i]?=some w/\Rel T F B L H x w fx/\∀b∈fx,b∈f
 | [],_,_,i,x,_,e=>by simp at e
 | a::xs,ws,f,i,x,h,e=>by
  unfold RelL at h
  obtain⟨v,ws',f1,f2,rfl,h1,h2,rfl⟩:=h
  cases i with
  | zero=>cases e;exact⟨v,f1,rfl,h1,fun b hb=>List.mem_append_left _ hb⟩
  | succ i =>
   obtain⟨w,fx,e1,r,s⟩:=tj h2 e
   exact⟨w,fx,e1,r,fun b hb=>List.mem_append_right _ (s b hb)⟩
def av.updO(S:av T Z F H Y env fp)(hj:∀j,b∉fp j)(hF:¬F b)(hn:Z.H0 b=none\/Z.fp0 b)(hb:H b=some o)(hfx:¬fR o):av T Z F (upd H b o') Y env fp:=by
 have nB:¬Z.B b:=fun h=>by
  obtain⟨⟨u,e⟩,n⟩:=S.hp.bo b h
  rcases hn with z | z
  ·rw[e]at z;cases z
  ·exact n z
 have ne:∀a u,H a=some u->(F a\/Z.B a\/NoL a\/fR u)->a≠b:=fun a u e h z=>by
  subst z
  rcases h with h | h | h | h
  ·exact hF h
  ·exact nB h
  ·exact h
  ·rw[hb]at e;cases e;exact hfx h
 refine⟨⟨S.hp.bo,fun a u e n=>?_,S.hp.f0,S.hp.fn,fun a h=>?_⟩,S.len,fun i pv e=>?_,S.nd,S.dj,fun i a ha=>?_,S.new,fun i a ha=>?_,S.pn⟩
 ·have:a≠b:=fun z=>by
   subst z
   rcases hn with z | z
   ·rw[e]at z;cases z
   ·exact n z
  rw[aK this]
  exact S.hp.keep a u e n
 ·obtain⟨u,e⟩:=S.hp.ft a h
  exact⟨u,by rw[aK (show a≠b from fun z=>hF (by rw[<- z];exact h))];exact e⟩
 ·obtain⟨v,h1,h2⟩:=S.rel i pv e
  refine⟨v,h1,Rel.tr (fun _ h=>h) (fun _ h=>h) (fun _ h=>h) (fun a u q h=>?_) (fun a ha u q=>?_) h2⟩
  ·rw[aK (ne a u q h)]
   exact q
  ·rw[aK (show a≠b from fun z=>hj i (by rw[<- z];exact ha))]
   exact q
 ·obtain⟨n,u,e⟩:=S.dis i a ha
  exact⟨n,u,by rw[aK (show a≠b from fun z=>hj i (by rw[<- z];exact ha))];exact e⟩
 ·obtain⟨u,e,c⟩:=S.ch i a ha
  exact⟨u,by rw[aK (show a≠b from fun z=>hj i (by rw[<- z];exact ha))];exact e,c⟩
end
open PySem.W (fnOf Frag)
def smp:PV->Bool
 | .int _ | .bl _ | .str _ | .non=>true
 | .lst f xs=>decide (f≠.mod)&&(bh xs).isSome
 | _=>false
def eqD(x:PV)(y:PV):Bool:=PyData.eqv y.data x.data
def iz:PV->PV->Res PV:=fun o x=>match o with
 | .lst _ ys=>if shp x && ys.all shp && ys.all smp && decide (ys.length <= 10000000) then (match ys.findIdx? (eqD x) with
  | some j=>.ok (.int j)
  | none=>.stuck)else .stuck
 | _=>.stuck
def jo:PV->PV->Res PV:=fun o x=>match o with
 | .lst _ ys=>if shp x&&ys.all shp&&ys.all smp then .ok (.int (ys.countP (eqD x)))else .stuck
 | _=>.stuck
section
variable{X:Cx}{T:Tb}{W:Nat->St->Hp->Prop}{Z:Zn}{F F1 B L:Addr->Prop}{H H1:Hp}{Y:St}{env:En}{fp:Nat->List Addr}{D:Ends}
def Rd.inj{u u':List V}(h:Rd H a (.lst u))(h':Rd H a (.lst u')):u=u':=by
 rcases h with h |⟨o,h⟩<;>rcases h' with h' |⟨o',h'⟩<;>rw[h]at h'<;>cases h'<;>rfl
def kz:∀{xs:List PV}{ns:List Int},bh xs=some ns->xs=ns.map .int
 | [],ns,h=>by cases h;rfl
 | .int i::xs,ns,h=>by
  unfold bh at h
  cases e:bh xs with
  | none=>rw[e]at h;cases h
  | some ms=>rw[e]at h;cases h;rw[kz e];rfl
 | .non::xs,ns,h | .bl _::xs,ns,h | .str _::xs,ns,h | .lst _ _::xs,ns,h | .tup _::xs,ns,h | .obj _ _ _ _::xs,ns,h | .exc _::xs,ns,h | .box _ _::xs,ns,h=>by cases h
def v8{y y':PV}(s:smp y=true)(s':smp y'=true)(r:Rel T F B L H y u fy)(r':Rel T F B L H y' u fy'):y.data=y'.data:=by
  cases y with
  | lst f xs =>
    unfold Rel at r
    obtain⟨a,vs,f',rfl,h1,h2,_⟩:=r
    cases y' with
    | lst g zs =>
      unfold Rel at r'
      obtain⟨b,ws,g',e,k1,k2,_⟩:=r'
      cases e
      simp only[smp,Bool.and_eq_true,decide_eq_true_eq]at s s'
      obtain⟨ns,en⟩:=Option.isSome_iff_exists.mp s.2
      obtain⟨ms,em⟩:=Option.isSome_iff_exists.mp s'.2
      have e1:=cq en h2
      have e2:=cq em k2
      have:=Rd.inj (h1.rd s.1) (k1.rd s'.1)
      rw[e1,e2]at this
      have e3:ns=ms:=List.map_inj_right (fun _ _ h=>V.int.inj h) |>.mp this
      rw[kz en,kz em,e3]
      simp[PV.data]
    | _=>first |(cases s';done) |(unfold Rel at r';cases r'.1;done)
  | _ =>
    first
    |(cases s;done)
    | (unfold Rel at r
       obtain⟨rfl,_⟩:=r
       cases y' with
       | lst f xs=>unfold Rel at r';obtain⟨a,vs,f',e,_⟩:=r';cases e
       | _=>first |(cases s';done) |(unfold Rel at r';obtain⟨e,_⟩:=r';cases e;rfl) |(unfold Rel at r';obtain⟨e,_⟩:=r';cases e;done))
def qV(hK:X.K=T.K)(I:L2.Inv X js Y H s)(hu:A.units+64 < cLine)(rx:Rel T F B L H x v fx)(rv:bu v v')(hx:shp x=true){ys:List PV}{us:List V}{fy:List Addr}{its:List Value}(r:RelL T F B L H ys us fy)(rl:aP us its)(hs:ys.all shp=true)(hm:ys.all smp=true) :
  ∃e:Value->Bool,(∀w∈its,SeqAt.EqAt A s w v' (e w))/\its.length=ys.length/\∀(m:Nat) (y:PV) (w:Value),ys[m]?=some y->its[m]?=some w->e w=eqD x y:=by
 classical
 have hlen:its.length=ys.length:=by rw[<- rl.length,<- r.length]
 let e:Value->Bool:=fun w=>decide (∃y∈ys,∃u fy,Hc w=some u/\Rel T F B L H y u fy/\eqD x y=true)
 have pl:∀(m:Nat) (y:PV) (w:Value),ys[m]?=some y->its[m]?=some w->∃u fy,bu u w/\Rel T F B L H y u fy:=fun m y w ey ew=>by
  obtain⟨u,fx,e1,r1,_⟩:=tj r ey
  obtain⟨w',e2,r2⟩:=rl.get e1
  rw[ew]at e2
  cases e2
  exact⟨u,fx,r2,r1⟩
 have ev:∀(m:Nat) (y:PV) (w:Value),ys[m]?=some y->its[m]?=some w->e w=eqD x y:=fun m y w ey ew=>by
  obtain⟨u,fu,r1,r2⟩:=pl m y w ey ew
  have ym:=List.mem_of_getElem? ey
  show decide _=_
  cases q:eqD x y with
  | true=>exact decide_eq_true ⟨y,ym,u,fu,r1.abs,r2,q⟩
  | false =>
   refine decide_eq_false fun hz1=>?_
   obtain⟨y',hy',u',fu',a',r',q'⟩:=hz1
   rw[r1.abs]at a'
   cases a'
   have:=v8 (List.all_eq_true.mp hm y ym) (List.all_eq_true.mp hm y' hy') r2 r'
   unfold eqD at q q'
   rw[this]at q
   rw[q]at q'
   cases q'
 refine⟨e,fun w hw=>?_,hlen,ev⟩
 obtain⟨m,hmlt,ew⟩:=List.getElem_of_mem hw
 have ew':its[m]?=some w:=by rw[List.getElem?_eq_getElem hmlt,ew]
 have ey:ys[m]?=some ys[m]:=List.getElem?_eq_getElem (by omega)
 obtain⟨u,fu,r1,r2⟩:=pl m _ w ey ew'
 rw[ev m _ w ey ew']
 exact mK hK I hu r2 rx r1 rv (List.all_eq_true.mp hs _ (List.mem_of_getElem? ey)) hx
def ww(T:Tb)(g:PV->List PV->Option Int):V->List V->Hp->VK->Prop:=fun o vs H Q=>∃x ys a us v F B L fx fy j,o=.ref a/\vs=[v]/\SqL T.K H a us/\Rel T F B L H x v fx/\RelL T F B L H ys us fy/\shp x=true/\ys.all shp=true/\ys.all smp=true/\g x ys=some j/\Q (.int j) H
def gIx(x:PV)(ys:List PV):Option Int:=if ys.length<=10000000 then(ys.findIdx? (eqD x)).map fun j:Nat=>(j:Int)else none
def gCt(x:PV)(ys:List PV):Option Int:=some (ys.countP (eqD x))
def xo(hK:X.K=T.K)(hu:X.A.units+66 < cLine):MtM X "list.index" (ww T gIx):=by
 intro js s Y H o vs v' us' Q I rx rv h
 obtain⟨x,ys,a,us,v,F,B,L,fx,fy,j,rfl,rfl,hs,r1,r2,h1,h2,h3,hg,q⟩:=h
 cases rx
 obtain⟨u,rfl,ru⟩:=rv.one
 obtain⟨its,r,pl,_⟩:=I.list (by rw[hK];exact hs)
 have hu1:X.A.in1.units+64 < cLine:=by show X.A.units+1+64 < cLine;omega
 obtain⟨e,e1,e2,e3⟩:=qV hK I hu1 r1 ru h1 r2 r h2 h3
 unfold gIx at hg
 split at hg
 case isFalse=>cases hg
 rename_i hlen
 obtain⟨k,ek,rfl⟩:=Option.map_eq_some_iff.mp hg
 obtain⟨kl,k1,k2⟩:=List.findIdx?_eq_some_iff_getElem.mp ek
 obtain⟨ob,n,g,c,d,dt⟩:=pl
 obtain⟨oc,od,odt,osl⟩:=ob
 dsimp only at c d dt
 subst c d dt
 have ev:∀(m:Nat) (hm:m < its.toArray.size) (hy:m < ys.length),e its.toArray[m]=eqD x ys[m]:=fun m hm hy=>e3 m _ _ (List.getElem?_eq_getElem hy) (by rw[List.getElem?_eq_getElem (by simpa using hm)];simp)
 refine call_meets PySem.F.slot_list_index ⟨_,g,rfl⟩ PySem.F.entry_list_index (PySem.F.args_list_index_2 _ _) (SeqAt.list_indexAt a its.toArray n none osl u e k (by simp;omega) (by omega) ?_ fun m hm hlt=>?_) ⟨g,fun w hw=>e1 w (by simpa using hw),?_⟩
 ·rw[ev k (by simp;omega) kl];exact k1
 ·rw[ev m hm (by omega)]
  simpa using k2 m hlt
 ·exact⟨.int k,H,I.tok _,⟨_,rfl⟩,q⟩
def xp(hK:X.K=T.K)(hu:X.A.units+66 < cLine):MtM X "list.count" (ww T gCt):=by
 intro js s Y H o vs v' us' Q I rx rv h
 obtain⟨x,ys,a,us,v,F,B,L,fx,fy,j,rfl,rfl,hs,r1,r2,h1,h2,h3,hg,q⟩:=h
 cases rx
 obtain⟨u,rfl,ru⟩:=rv.one
 obtain⟨its,r,pl,_⟩:=I.list (by rw[hK];exact hs)
 have hu1:X.A.in1.units+64 < cLine:=by show X.A.units+1+64 < cLine;omega
 obtain⟨e,e1,e2,e3⟩:=qV hK I hu1 r1 ru h1 r2 r h2 h3
 cases hg
 obtain⟨ob,n,g,c,d,dt⟩:=pl
 obtain⟨oc,od,odt,osl⟩:=ob
 dsimp only at c d dt
 subst c d dt
 have ec:its.countP e=ys.countP (eqD x):=by
  have:∀(is:List Value) (zs:List PV),is.length=zs.length->(∀(m:Nat) (y:PV) (w:Value),zs[m]?=some y->is[m]?=some w->e w=eqD x y)->is.countP e=zs.countP (eqD x):=by
   intro is
   induction is with
   | nil=>intro zs hl _;cases zs with | nil=>rfl | cons=>simp at hl
   | cons w is ih =>
    intro zs hl hz
    cases zs with
    | nil=>simp at hl
    | cons y zs =>
     rw[List.countP_cons,List.countP_cons,ih zs (by simpa using hl) fun m y w a b=>hz (m+1) y w a b,hz 0 y w rfl rfl]
  exact this its ys e2 e3
 refine call_meets PySem.F.slot_list_count ⟨_,g,rfl⟩ PySem.F.entry_list_count (PySem.F.args_list_count_2 _ _) (SeqAt.list_countAt a its.toArray n none osl u e) ⟨g,fun w hw=>e1 w (by simpa using hw),?_⟩
 rw[List.toList_toArray,ec]
 exact⟨.int _,H,I.tok _,⟨_,rfl⟩,q⟩
def je(g:PV->PV->Res PV)(mo mk:ME):ME:=fun env=>match mo env,mk env with
 | .ok (.lst f ys),.ok x=>g (.lst f ys) x
 | _,_=>.stuck
def sY{nm:Str}{id:String}{g:PV->PV->Res PV}{gg:PV->List PV->Option Int}{o k:Expr}{mo mk:ME}{apos cpos:Pos}(hK:X.K=T.K)(slot:Slot "list" nm id)(hty:typeOf (.builtin id)=pure (.type "method_descriptor"))(hmt:MtM X id (ww T gg))
  (hr:∀f ys x,g (.lst f ys) x=.stuck\/∃j,g (.lst f ys) x=.ok (.int j)/\shp x=true/\ys.all shp=true/\ys.all smp=true/\gg x ys=some j)
  (ho:SE X T W o mo) (hk:SE X T W k mk) (hbase:attributeBase o nm X.env (eval o X.env)=eval o X.env:=by rfl)
  (hst:starEach [k] X.env=[(false,eval k X.env)]:=by rfl)
  (hfew:((backTo cpos (starEach [k] X.env)).all (fun x=>!x.1)&&(backToKw cpos (keywordEach [] X.env)).all (fun x=>x.1.isSome)&&decide ([k].length+([]:List Keyword).length+(if([]:List Keyword).isEmpty then 0 else 1) < 30))=true:=by rfl)
  (hline:(apos.endLine==cpos.line)=true:=by rfl):SE X T W (.Call (.Attribute o nm apos) [k] [] cpos) (je g mo mk) :=
 PE.wk (qb (cpos:=cpos) (apos:=apos) PySem.F.plainAttrs_list slot hty hmt ho (aa hk ag hst) hbase hfew hline hst) fun Y H Q h=>by
  obtain⟨Z,F,env,fp,S,q⟩:=h
  unfold je at q
  split at q
  case h_2=>exact q.elim
  rename_i f ys x em ek
  refine⟨Z,F,env,fp,S,?_⟩
  rw[em]
  intro v H1 F1 f1 g1 r1 n1 d1 w1
  have r1':=r1
  unfold Rel at r1'
  obtain⟨a,us,fp',rfl,hl,_,_⟩:=r1'
  refine⟨.inl ⟨rfl,us,by rw[hK];exact hl.sq⟩,Z,F1,env,fp,S.grow g1,?_⟩
  unfold ae am
  rw[ek]
  intro vs H2 F2 f2 g2 r2 n2 d2 w2
  obtain⟨u,rfl,ru⟩:=r2.one
  have r3:=r1.ext g2.ext g2.mono
  unfold Rel at r3
  obtain⟨b,us2,fp2,e,hl2,hr2,_⟩:=r3
  cases e
  rcases hr f ys x with z |⟨j,e,h1,h2,h3,h4⟩
  ·rw[z]at q;exact q.elim
  ·rw[e]at q
   exact⟨x,ys,a,us2,u,F2,Z.B,Own fp,f2,fp2,j,rfl,rfl,hl2.sq,ru,hr2,h1,h2,h3,h4,q.scal (g1.trans g2) fe⟩
def uR(f:Fl)(ys:List PV)(x:PV):iz (.lst f ys) x=.stuck\/∃j,iz (.lst f ys) x=.ok (.int j)/\shp x=true/\ys.all shp=true/\ys.all smp=true/\gIx x ys=some j:=by
 unfold iz
 dsimp only
 split
 ·rename_i h
  simp only[Bool.and_eq_true,decide_eq_true_eq]at h
  cases e:ys.findIdx? (eqD x)with
  | none=>exact .inl rfl
  | some j=>exact .inr ⟨j,rfl,h.1.1.1,h.1.1.2,h.1.2,by unfold gIx;rw[if_pos h.2,e];rfl⟩
 ·exact .inl rfl
def uS(f:Fl)(ys:List PV)(x:PV):jo (.lst f ys) x=.stuck\/∃j,jo (.lst f ys) x=.ok (.int j)/\shp x=true/\ys.all shp=true/\ys.all smp=true/\gCt x ys=some j:=by
 unfold jo
 dsimp only
 split
 ·rename_i h
  simp only[Bool.and_eq_true]at h
  exact .inr ⟨_,rfl,h.1.1,h.1.2,h.2,rfl⟩
 ·exact .inl rfl
def wc{o k:Expr}{mo mk:ME}{apos cpos:Pos}(cx:Ctx X T W kk)(hu:X.A.units+66 < cLine)(ho:SE X T W o mo)(hk:SE X T W k mk)(hbase:attributeBase o "index" X.env (eval o X.env)=eval o X.env:=by rfl)
  (hst:starEach [k] X.env=[(false,eval k X.env)]:=by rfl)
  (hfew:((backTo cpos (starEach [k] X.env)).all (fun x=>!x.1)&&(backToKw cpos (keywordEach [] X.env)).all (fun x=>x.1.isSome)&&decide ([k].length+([]:List Keyword).length+(if([]:List Keyword).isEmpty then 0 else 1) < 30))=true:=by rfl)
  (hline:(apos.endLine==cpos.line)=true:=by rfl):SE X T W (.Call (.Attribute o "index" apos) [k] [] cpos) (je iz mo mk) :=
 sY cx.hK PySem.F.slot_list_index PySem.F.type_list_index (xo cx.hK hu) uR ho hk hbase hst hfew hline
def wf{o k:Expr}{mo mk:ME}{apos cpos:Pos}(cx:Ctx X T W kk)(hu:X.A.units+66 < cLine)(ho:SE X T W o mo)(hk:SE X T W k mk)(hbase:attributeBase o "count" X.env (eval o X.env)=eval o X.env:=by rfl)
  (hst:starEach [k] X.env=[(false,eval k X.env)]:=by rfl)
  (hfew:((backTo cpos (starEach [k] X.env)).all (fun x=>!x.1)&&(backToKw cpos (keywordEach [] X.env)).all (fun x=>x.1.isSome)&&decide ([k].length+([]:List Keyword).length+(if([]:List Keyword).isEmpty then 0 else 1) < 30))=true:=by rfl)
  (hline:(apos.endLine==cpos.line)=true:=by rfl):SE X T W (.Call (.Attribute o "count" apos) [k] [] cpos) (je jo mo mk) :=
 sY cx.hK PySem.F.slot_list_count PySem.F.type_list_count (xp cx.hK hu) uS ho hk hbase hst hfew hline
end
def dTr(T:Tb)(W:Nat->St->Hp->Prop):List Str->List ME->List (TE×TE)
 | k::ks,m::ms=>(tC (.str k),tE T W m)::dTr T W ks ms
 | _,_=>[]
def oT:List ME->MA
 | []=>am
 | m::ms=>ae m (oT ms)
abbrev dkv(ks:List Str)(vs:List V):List (Key×V):=(ks.map Sum.inr).zip vs
def putK_new{kvs:List (Key×V)}{k:Key}{v:V}(h:∀p∈kvs,p.1≠k):io kvs k v=kvs++[(k,v)]:=by
 unfold io
 grind
def lY:∀{more kvs:List (Key×V)},((kvs++more).map (·.1)).Nodup->iD kvs more=kvs++more
 | [],kvs,_=>by simp[iD]
 | p::more,kvs,h=>by
  have e:io kvs p.1 p.2=kvs++[p]:=putK_new (by grind)
  show iD (io kvs p.1 p.2) more=_
  rw[e,lY (by simpa using h)]
  simp
def qH{ks:List Str}{vs:List V}(h:ks.length=vs.length):(dkv ks vs).map (·.1)=ks.map Sum.inr:=by
 rw[List.map_fst_zip (by simp[h])]
def vi{ks:List Str}(h:ks.Nodup):(ks.map (Sum.inr:Str->Key)).Nodup:=by
 rw[List.Nodup,List.pairwise_map]
 exact h.imp fun z e=>z (Sum.inr.inj e)
def uf{ks:List Str}{vs:List V}{k:Str}{v:V}(h:(ks++[k]).Nodup)(hl:ks.length=vs.length):io (dkv ks vs) (.inr k) v=dkv (ks++[k]) (vs++[v]):=by
 rw[putK_new]
 ·unfold dkv
  rw[List.map_append,List.zip_append (by simp[hl])]
  rfl
 ·intro p hp e
  have hm:p.1∈ks.map (Sum.inr:Str->Key):=by
   rw[<- qH hl]
   exact List.mem_map_of_mem hp
  grind
def o8{ks:List Str}{vs:List V}(hl:ks.length=vs.length):(dkv ks vs).length=ks.length:=by simp[dkv,hl]
def ue:∀{ks:List Str}{vs:List V}{i:Nat}{k:Str}{v:V},ks.findIdx? (·==k)=some i->vs[i]?=some v->lB (dkv ks vs) (Sum.inr k:Key)=some v
 | [],_,_,_,_,h,_ | _::_,[],_,_,_,_,h=>by simp at h
 | q::ks,u::vs,i,k,v,h,e=>by
  rw[List.findIdx?_cons]at h
  by_cases z:(q==k)=true
  ·rw[if_pos z]at h
   cases h
   simp at e
   rw[<- e]
   exact lz (by rw[eq_of_beq z])
  ·rw[if_neg z]at h
   obtain⟨j,hj,rfl⟩:=Option.map_eq_some_iff.mp h
   show lB ((Sum.inr q,u)::dkv ks vs) _=_
   rw[lA (fun e=>z (by rw[Sum.inr.inj e];simp))]
   exact ue hj (by simpa using e)
end PR
namespace L2
open PySem PySem.Spec PyProof.Rows
def Cb(td ty:TE):TE:=fun Y H Q=>td Y H fun x H1=>ty Y H1 fun y H2=>∃a v kvs k,x=.ref a/\Rd H2 a (.dK kvs)/\y=kV k/\lB kvs k=some v/\Q v H2
def oE(td ty tv:TE):TS:=fun D Y H=>tv Y H fun v H1=>td Y H1 fun x H2=>ty Y H2 fun y H3=>∃a kvs k,x=.ref a/\H3 a=some (.dK kvs)/\y=kV k/\kvs.length < sizeLine/\D.nx Y (upd H3 a (.dK (io kvs k v)))
section
variable{X:Cx}{o i value:Expr}{pos pos':Pos}{td ty tv:TE}
def wP(ho:PE X o td)(hi:PE X i ty)(hs:EN i):PE X (.Subscript o i pos) (Cb td ty):=by
 intro js s Y H Q I h
 refine zW PySem.F.slot_dict_getitem.lookup hs (thn (ho js s Y H _ I h) fun u s1 ⟨x,H1,I1,rx,q1⟩=>thn (hi js s1 Y H1 _ I1 q1) fun iv s2 ⟨y,H2,I2,ry,a,v,kvs,k,ex,e,ey,l,q2⟩=>?_)
 subst ex ey
 obtain rfl:u=Value.ref a:=rx
 obtain⟨z,hd,vs,rel,dd⟩:=(e.ok I2.hok:cf _ _ _ _ a (.dK kvs))
 obtain⟨w',hw,rw'⟩:=k8.some_of (v:=v) (o:=valueAt vs k) (by rw[<- l];exact rel.val k)
 exact⟨dd.typeIs,wpAny_getItem_of (xQ ry) dd.mapOf hw ⟨v,H2,I2.tok _,rw',q2⟩⟩
def pY(ho:PE X o td)(hi:PE X i ty)(hv:PE X value tv)(hs:swapsWith value (some (.Subscript o i pos')) pos.line X.env=pure false):PS X (.Assign [.Subscript o i pos'] value pos) (oE td ty tv):=by
 intro js s Y H D I h
 refine wpAny_Assign_Subscript (thn (hv js s Y H _ I h) fun r s1 ⟨v,H1,I1,rv,q1⟩=>thn (ho js s1 Y H1 _ I1 q1) fun u s2 ⟨x,H2,I2,rx,q2⟩=>thn (hi js s2 Y H2 _ I2 q2) fun iv s3 ⟨y,H3,I3,ry,a,kvs,k,ex,e,ey,l,q3⟩=>?_) hs
 subst ex ey
 obtain rfl:u=Value.ref a:=rx
 obtain⟨z,hd,vs,rel,dd⟩:=(I3.hok a _ e:cf _ _ _ _ a (.dK kvs))
 have hl:(io kvs k v).length<=sizeLine:=by have:=kQ kvs k v;omega
 refine wpAny_setItem_pairs (hsz:=by rw[<- rel.length];exact z) (xQ ry) dd fun h' dd' hs=>⟨Y,_,?_,q3⟩
 exact I3.write (x:=a) (e:=a) (by rw[e];exact True.intro) (.inl rfl) (fun b q hb z=>(hs.2 b hb).trans z) (let⟨q,_,_,hq,_⟩:=dd';⟨q,hq⟩) ⟨hl,hd,_,rel.put k rv,dd'⟩
end
end L2
namespace PR
open PySem PySem.Spec L2
section
variable{X:Cx}{T:Tb}{W:Nat->St->Hp->Prop}{Z:Zn}{F F1 B L:Addr->Prop}{H H1:Hp}{Y:St}{env:En}{fp:Nat->List Addr}{D:Ends}
def ny:∀{ks:List Str}{ms:List ME}{xs:List PV}{F:Addr->Prop}{H:Hp}{Q:List (V×V)->Hp->Prop},ks.length=ms.length->av T Z F H Y env fp->oT ms env=.ok xs->hasL Fl.isOwn xs=false ->
  (∀vs H' F',Gr F H F' H'->RelL T F' Z.B (Own fp) H' xs vs []->Q ((dkv ks vs).map fun kv=>(kV kv.1,kv.2)) H')->ow (dTr T W ks ms) Y H Q
 | [],[],xs,F,H,Q,_,S,e,_,h=>by
  cases e
  exact h [] H F (Gr.refl S.hp.ft) (dY _ _ _ _)
 | k::ks,m::ms,xs,F,H,Q,hl,S,e,ho,h=>by
  unfold oT ae at e
  cases e1:m env with
  | exc c | stuck=>rw[e1]at e;cases e
  | ok x =>
   rw[e1,Res.ok_bind]at e
   cases e2:oT ms env with
   | exc c | stuck=>rw[e2]at e;cases e
   | ok ys =>
    rw[e2,Res.ok_bind]at e
    cases e
    simp only[hasL,Bool.or_eq_false_iff]at ho
    refine tE.bind S (fun c z=>by rw[e1]at z;cases z) (fun z=>by rw[e1]at z;cases z) fun pv v H1 F1 f ez g r _ _ _=>?_
    rw[e1]at ez
    cases ez
    obtain rfl:=Rel.noOwn ho.1 r
    refine ny (by simpa using hl) (S.grow g) e2 ho.2 fun vs H2 F2 g2 r2=>?_
    exact h (v::vs) H2 F2 (g.trans g2) (by unfold RelL;exact⟨v,vs,[],[],rfl,r.ext g2.ext g2.mono,r2,rfl⟩)
def kT{p:Fl->Bool}:∀xs ys:List PV,hasL p (xs++ys)=(hasL p xs||hasL p ys)
 | [],_=>by simp[hasL]
 | x::xs,ys=>by simp[hasL,kT xs ys,Bool.or_assoc]
def qm:∀{ms:List ME}{xs:List PV},oT ms env=.ok xs->xs.length=ms.length
 | [],xs,e=>by cases e;rfl
 | m::ms,xs,e=>by
  unfold oT ae at e
  cases e1:m env with
  | exc c | stuck=>rw[e1]at e;cases e
  | ok x =>
   rw[e1,Res.ok_bind]at e
   cases e2:oT ms env with
   | exc c | stuck=>rw[e2]at e;cases e
   | ok ys =>
    rw[e2,Res.ok_bind]at e
    cases e
    simp[qm e2]
def RelL.skip(hF:¬F p)(hB:¬B p)(hL:¬L p)(hp:H p=some o)(hx:¬fR o)(h:RelL T F B L H xs vs []):RelL T F B L (upd H p o') xs vs [] :=
 RelL.tr (fun _ h=>h) (fun _ h=>h) (fun _ h=>h) (fun a u e z=>by
  rw[aK]
  ·exact e
  grind) (fun _ z=>(nomatch z)) h
def tZ(k x:Nat)(ms:List ME)(m6 m7:ME):MS:=fun env=>match oT ms env,m6 env,m7 env,env[x]? with
 | .ok xs,.ok a,.ok b,some none=>if hasL Fl.isOwn (xs++[a,b])||hasL Fl.isLnt (xs++[a,b])then .stuck else .ret (.box k (xs++[a,b]))
 | _,_,_,_=>.stuck
def BL(i:Nat):TS:=fun D Y H=>∃p kvs,Y[i]?=some (some (.ref p))/\H p=some (.dK kvs)/\∀o,D.rt (.ref p) (upd H p (.frz o (.dK kvs)))
def Au(hN:X.N[i]?=some x)(hv:Vis X.env.scope x)(hd:(x ==("__debug__" : Str))=false:=by decide)(hcd:(x ==("__classdict__" : Str))=false:=by decide):PS X (.Return (some (.Name x pos')) pos) (BL i):=by
 intro js s Y H D I ⟨p,kvs,e1,e2,h⟩
 refine wpAny_Return_some (thn (dy (pos:=pos') hN hv hd hcd js s Y H (fun v H'=>v=.ref p/\H'=H) I ⟨_,e1,rfl,rfl⟩) fun u s1 ⟨v,H1,I1,r,ev,eh⟩=>?_)
 subst ev eh
 obtain⟨o,ho⟩:=cf.there (I1.hok p _ e2)
 exact⟨_,Y,_,I1.write (x:=p) (e:=p) (o:=.frz o (.dK kvs)) (h':=s1.heap) (t':=s1.toks) (by rw[e2];exact True.intro) (.inl rfl) (fun _ _ _ q=>q) ⟨o,ho⟩ (show _/\_ from⟨ho,(I1.hok p _ e2:cf _ _ _ _ _ (.dK kvs))⟩),r,h o⟩
def zZ{k x:Nat}{nx:Str}{ks:List Str}{ms:List ME}{m6 m7:ME}(hN:X.N.Nodup)(hx:X.N[x]?=some nx)(hl:Loc X.env.scope nx)(hv:Vis X.env.scope nx)(x0:x≠0)(hu:X.A.units+64 < cLine)
  (hdk:T.dk k=ks++[k6,k7]) (hbx:∀H a vs o,H a=some (.frz o (.dK (dkv (T.dk k) vs)))->(T.dk k).length=vs.length->T.bx k H a vs) (hnd:(ks++[k6,k7]).Nodup) (hkm:ks.length=ms.length) (hk9:ks.length<=9)
  (hp:PPs X dpos keys vals (dTr T W ks ms)) (h6:SE X T W e6 m6) (h7:SE X T W e7 m7) (hall:keys.all (·.isSome)=true:=by rfl) (hlen:keys.length=vals.length:=by rfl) (h0:keys≠[]:=by exact List.cons_ne_nil _ _) (h15:keys.length<=15:=by decide)
  (hs:swapsWith (.Dict keys vals dpos) (some (.Name nx pa)) pos1.line X.env=pure false:=by rfl) (hs6:swapsWith e6 (some (.Subscript (.Name nx q1) (.Constant (.str k6) j6 q2) q3)) pos2.line X.env=pure false:=by rfl)
  (hs7:swapsWith e7 (some (.Subscript (.Name nx r1) (.Constant (.str k7) j7 r2) r3)) pos3.line X.env=pure false:=by rfl)
  (hf:X.fn nx=true\/X.env.scope.names.lookup nx=some .local:=by first | exact .inl rfl | exact .inr rfl | assumption) (hd:(nx ==("__debug__" : Str))=false:=by decide) (hcd:(nx ==("__classdict__" : Str))=false:=by decide) :
  SSs X T W [.Assign [.Name nx pa] (.Dict keys vals dpos) pos1,.Assign [.Subscript (.Name nx q1) (.Constant (.str k6) j6 q2) q3] e6 pos2,.Assign [.Subscript (.Name nx r1) (.Constant (.str k7) j7 r2) r3] e7 pos3,.Return (some (.Name nx p4)) pos4] (tZ k x ms m6 m7) :=
 PSs.wk (ir (rO (pos:=pos1) hN hx hl (AF hp hall hlen h0 h15) hs hf) (ir (pY (pos:=pos2) (dy (pos:=q1) hx hv hd hcd) (gJ (x:=k6) (j:=j6) (pos:=q2)) h6 hs6)
  (ir (pY (pos:=pos3) (dy (pos:=r1) hx hv hd hcd) (gJ (x:=k7) (j:=j7) (pos:=r2)) h7 hs7) (oG (Au (pos:=pos4) (pos':=p4) hx hv hd hcd))))) fun D Y H hz1=>by
  obtain⟨Z,F,env,fp,S,q⟩:=hz1
  unfold tZ at q
  split at q
  case h_2=>exact q.elim
  rename_i xs a b e5 e6' e7' ex
  split at q
  ·exact q.elim
  rename_i hno
  simp only[Bool.or_eq_true,not_or,Bool.not_eq_true]at hno
  obtain⟨no,nl⟩:=hno
  have no':hasL Fl.isOwn xs=false/\a.has Fl.isOwn=false/\b.has Fl.isOwn=false:=by
   rw[show hasL Fl.isOwn (xs++[a,b])=(hasL Fl.isOwn xs ||(a.has Fl.isOwn ||(b.has Fl.isOwn||false)))from kT xs [a,b]]at no
   simpa[and_assoc]using no
  intro p hp0
  have nF:¬F p:=fun z=>by obtain⟨o,e⟩:=S.hp.ft p z;rw[hp0]at e;cases e
  have nO:∀j,p∉fp j:=fun j z=>by obtain⟨_,o,e⟩:=S.dis j p z;rw[hp0]at e;cases e
  have nB:¬Z.B p:=fun z=>by obtain⟨⟨o,e⟩,n⟩:=S.hp.bo p z;rw[S.hp.keep p o e n]at hp0;cases hp0
  have hn:Z.H0 p=none\/Z.fp0 p:=S.hp.newE (f:=[p]) (fun c hc=>by rw[List.mem_singleton.mp hc];exact hp0) p (by simp)
  have nL:¬Own fp p:=fun⟨j,hj⟩=>nO j hj
  have grow:∀{F1 F2:Addr->Prop}{H1 H2:Hp}{o:HO},¬F1 p->H1 p=some o->Gr F1 H1 F2 H2->¬F2 p:=(by grind[br,av,ck,Gr])
  have S1:=S.grow (Gr.same S.hp.ft (Ext.upd (o:=.dK []) hp0))
  refine ny hkm S1 e5 no'.1 fun vs H2 F2 g2 r2=>?_
  have hlv:ks.length=vs.length:=by
   rw[<- r2.length,hkm]
   exact(qm e5).symm
  have e2:=g2.ext p _ a5
  have nF2:=grow nF a5 g2
  have nd5:ks.Nodup:=(List.nodup_append.mp hnd).1
  have nd6:(ks++[k6]).Nodup:=by
   have:ks++[k6,k7]=(ks++[k6])++ [k7]:=by simp
   rw[this]at hnd
   exact(List.nodup_append.mp hnd).1
  refine⟨e2,dkv ks vs,rfl,by rw[o8 hlv];omega,?_⟩
  rw[lY (by rw[List.nil_append,qH hlv];exact vi nd5),List.nil_append]
  have S3:=((S1.grow g2).updO (o':=.dK (dkv ks vs)) nO nF2 hn e2 (fun z=>z)).blind x0 ex (.ref p)
  have r3:=r2.skip (o':=.dK (dkv ks vs)) nF2 nB nL e2 (fun z=>z)
  have hxl:x < Y.length:=by rw[S.len];exact(List.getElem?_eq_some_iff.mp ex).1
  have hσ:(Y.set x (some (.ref p)))[x]?=some (some (V.ref p)):=List.getElem?_set_self hxl
  show vX (oE (vW x) (tC (V.str k6)) (tE T W m6)) (vX (oE (vW x) (tC (V.str k7)) (tE T W m7)) (BL x)) D (Y.set x (some (V.ref p))) _
  unfold vX oE
  refine tE.bind S3 (fun c z=>by rw[e6']at z;cases z) (fun z=>by rw[e6']at z;cases z) fun pv v6 H4 F4 f4 ez g4 r4 _ _ _=>?_
  rw[e6']at ez
  cases ez
  obtain rfl:=Rel.noOwn no'.2.1 r4
  have e4:=g4.ext p _ a5
  have nF4:=grow nF2 a5 g4
  refine⟨_,hσ,p,_,.inr k6,rfl,e4,rfl,by rw[o8 hlv,sizeLine_eq];omega,?_⟩
  rw[uf nd6 hlv]
  have S5:=(S3.grow g4).updO (o':=.dK (dkv (ks++[k6]) (vs++[v6]))) nO nF4 hn e4 (fun z=>z)
  have r5:=(RelL.append (r3.ext g4.ext g4.mono) (by unfold RelL;exact⟨v6,[],[],[],rfl,r4,dY _ _ _ _,rfl⟩:RelL T F4 Z.B (Own fp) H4 [a] [v6] [])).skip (o':=.dK (dkv (ks++[k6]) (vs++[v6]))) nF4 nB nL e4 (fun z=>z)
  refine tE.bind S5 (fun c z=>by rw[e7']at z;cases z) (fun z=>by rw[e7']at z;cases z) fun pv v7 H6 F6 f6 ez g6 r6 _ _ _=>?_
  rw[e7']at ez
  cases ez
  obtain rfl:=Rel.noOwn no'.2.2 r6
  have e8:=g6.ext p _ a5
  have nF6:=grow nF4 a5 g6
  have hlv6:(ks++[k6]).length=(vs++[v6]).length:=by simp[hlv]
  have nd7:((ks++[k6])++ [k7]).Nodup:=by simpa using hnd
  refine⟨_,hσ,p,_,.inr k7,rfl,e8,rfl,by rw[o8 hlv6,sizeLine_eq];simp;omega,?_⟩
  rw[uf nd7 hlv6]
  refine⟨p,_,hσ,a5,fun o=>?_⟩
  rw[zN]
  generalize hw:(vs++[v6])++ [v7]=ws
  have S7:=(S5.grow g6).updO (o':=.frz o (.dK (dkv ((ks++[k6])++ [k7]) ws))) nO nF6 hn e8 (fun z=>z)
  have r7:=(RelL.append (r5.ext g6.ext g6.mono) (by unfold RelL;exact⟨v7,[],[],[],rfl,r6,dY _ _ _ _,rfl⟩:RelL T F6 Z.B (Own fp) H6 [b] [v7] [])).skip (o':=.frz o (.dK (dkv ((ks++[k6])++ [k7]) ws))) nF6 nB nL e8 (fun z=>z)
  refine q F6 _ (.ref p) [] S7.hp ?_ List.nodup_nil (fun _ z=>(nomatch z)) (fun _ z=>(nomatch z))
  unfold Rel
  have eks:T.dk k=(ks++[k6])++ [k7]:=by rw[hdk];simp
  refine⟨p,ws,rfl,hbx _ _ _ o (by rw[eks];exact a5) (by rw[eks,<- hw];simp[hlv]),?_⟩
  rw[hw,show(xs++[a])++ [b]=xs++[a,b] by simp]at r7
  exact RelL.noL nl r7
def dO(k i:Nat):PV->Res PV
 | .box j xs=>if j=k then (match xs[i]? with
  | some x=>if x.has Fl.isOwn then .stuck else .ok x
  | none=>.stuck)else .stuck
 | _=>.stuck
def dF(k i:Nat){key:Str}(hu:X.A.units+64 < cLine)(hi:(T.dk k).findIdx? (·==key)=some i)(hbx:∀H a vs,T.bx k H a vs->∃o,H a=some (.frz o (.dK (dkv (T.dk k) vs)))/\(T.dk k).length=vs.length)(he:SE X T W e m)(hs:EN (.Constant (.str key) j p):=by intro _ _;rfl) :
  SE X T W (.Subscript e (.Constant (.str key) j p) pos) (mUn (dO k i) m) :=
 PE.wk (wP (pos:=pos) he (gJ (x:=key) (j:=j) (pos:=p)) hs) fun Y H Q hz1=>by
  obtain⟨Z,F,env,fp,S,q⟩:=hz1
  unfold mUn at q
  refine tE.bind S (fun c e=>by rw[e]at q;exact q) (fun e=>by rw[e]at q;exact q) fun x v H1 F1 f1 e1 g1 r1 n1 d1 w1=>?_
  rw[e1,Res.ok_bind]at q
  cases x with
  | box j xs =>
   simp only[dO]at q
   split at q
   ·rename_i hj
    subst hj
    split at q
    ·rename_i y ey
     split at q
     ·exact q.elim
     ·rename_i ho
      unfold Rel at r1
      obtain⟨a,vs,rfl,hb,hr⟩:=r1
      obtain⟨o,ha,hl⟩:=hbx _ _ _ hb
      obtain⟨w,f,ew,rw',_⟩:=hr.get ey
      obtain rfl:=Rel.noOwn (by simpa using ho) rw'
      exact⟨a,w,_,.inr key,rfl,.inr ⟨o,ha⟩,rfl,ue hi ew,q.scal g1 rw'⟩
    ·exact q.elim
   ·exact q.elim
  | _=>exact q.elim
end
def jV(i j:Nat)(k:ME):MS:=fun env=>match k env with
 | .ok (.int n)=>(match env[i]?,env[j]? with
  | some (some (.lst .own ys)),some (some (.lst .own xs))=>(match xs[n.toNat]? with
   | some x=>if i≠j/\0<=n/\eC xs=true/\eC ys=true/\xs.length < 1000000/\ys.length < 1000000 then .next ((env.set j (some (.lst .own (xs.eraseIdx n.toNat)))).set i (some (.lst .own (ys++[x]))))else .stuck
   | none=>.stuck)
  | _,_=>.stuck)
 | _=>.stuck
section
variable{X:Cx}{T:Tb}{W:Nat->St->Hp->Prop}{Z:Zn}{F F1 B L:Addr->Prop}{H H1:Hp}{Y:St}{env:En}{fp:Nat->List Addr}{D:Ends}
def ut{i j:Nat}(hK:X.K=T.K)(hN:X.N[i]?=some y)(hv:Vis X.env.scope y)(hM:X.N[j]?=some x)(hw:Vis X.env.scope x)(hk:SE X T W k mk)
  (hs:swapsWith (.Call (.Attribute (.Name y py) "append" ay) [.Call (.Attribute (.Name x px) "pop" ax) [k] [] cx] [] cy) none pos.line X.env=pure false:=by rfl) (hst:starEach [k] X.env=[(false,eval k X.env)]:=by rfl)
  (hst2:starEach [.Call (.Attribute (.Name x px) "pop" ax) [k] [] cx] X.env=[(false,eval (.Call (.Attribute (.Name x px) "pop" ax) [k] [] cx) X.env)]:=by rfl)
  (hfew:((backTo cx (starEach [k] X.env)).all (fun x=>!x.1)&&(backToKw cx (keywordEach [] X.env)).all (fun x=>x.1.isSome)&&decide ([k].length+([]:List Keyword).length+(if([]:List Keyword).isEmpty then 0 else 1) < 30))=true:=by rfl)
  (hfew2:((backTo cy (starEach [.Call (.Attribute (.Name x px) "pop" ax) [k] [] cx] X.env)).all (fun x=>!x.1)&&(backToKw cy (keywordEach [] X.env)).all (fun x=>x.1.isSome)&&decide ([Expr.Call (.Attribute (.Name x px) "pop" ax) [k] [] cx].length+([]:List Keyword).length+(if([]:List Keyword).isEmpty then 0 else 1) < 30))=true:=by rfl)
  (hline:(ax.endLine==cx.line)=true:=by rfl) (hline2:(ay.endLine==cy.line)=true:=by rfl) (hd:(x ==("__debug__" : Str))=false:=by decide) (hcd:(x ==("__classdict__" : Str))=false:=by decide) (hd2:(y ==("__debug__" : Str))=false:=by decide) (hcd2:(y ==("__classdict__" : Str))=false:=by decide) :
  SS X T W (.Expr (.Call (.Attribute (.Name y py) "append" ay) [.Call (.Attribute (.Name x px) "pop" ax) [k] [] cx] [] cy) pos) (jV i j mk) :=
 PS.wk (iW (pos:=pos) (qb (cpos:=cy) (apos:=ay) PySem.F.plainAttrs_list PySem.F.slot_list_append PySem.F.type_list_append i3 (dy (pos:=py) hN hv hd2 hcd2)
  (dD (qb (cpos:=cx) (apos:=ax) PySem.F.plainAttrs_list PySem.F.slot_list_pop PySem.F.type_list_pop xm (dy (pos:=px) hM hw hd hcd) (aa hk ag hst) rfl hfew hline hst) gK hst2) rfl hfew2 hline2 hst2) hs) fun D Y H hz1=>by
  obtain⟨Z,F,env,fp,S,q⟩:=hz1
  unfold jV at q
  split at q
  case h_2=>exact q.elim
  rename_i n ek
  split at q
  case h_2=>exact q.elim
  rename_i ys xs ei ej
  split at q
  case h_2=>exact q.elim
  rename_i z ez
  split at q
  case isFalse=>exact q.elim
  rename_i hc
  obtain⟨hij,h0,c1,c2,c3,c4⟩:=hc
  obtain⟨a,ws,fpa,h1,hl,hr,hf⟩:=S.lst ei
  obtain⟨b,us,fpb,h2,hlb,hrb,hfb⟩:=S.lst ej
  refine⟨_,h1,.inl ⟨rfl,ws,by rw[hK];exact SqL.of hl⟩,_,h2,.inl ⟨rfl,us,by rw[hK];exact SqL.of hlb⟩,Z,F,env,fp,S,?_⟩
  unfold ae am
  rw[ek]
  intro vs H1 F1 f1 g r n1 d1 w1
  obtain⟨u,rfl,ru⟩:=r.one
  unfold Rel at ru
  obtain⟨rfl,rfl⟩:=ru
  have S1:=S.grow g
  have hlb1:=g.ext b _ hlb
  have hlnb:=hrb.length
  obtain rfl:=(da c1 hrb).1
  have hn:n.toNat < xs.length:=(List.getElem?_eq_some_iff.mp ez).1
  have hj:n.toNat < us.length:=by omega
  refine⟨b,us,n,n.toNat,us[n.toNat],rfl,rfl,hlb1,by omega,by omega,PySem.StrLaws.seqIndex_nonneg (by omega) (by omega),List.getElem?_eq_getElem hj,?_⟩
  have hrb1:=hrb.ext g.ext g.mono
  have S2:=S1.mutL (v:=.non) ej h2 hfb (RelL.erase n.toNat hrb1) List.nodup_nil (fun _ z=>(nomatch z)) hlb1
  have ei2:(env.set j (some (.lst .own (xs.eraseIdx n.toNat))))[i]?=some (some (.lst .own ys)):=by rw[List.getElem?_set_ne (Ne.symm hij)];exact ei
  obtain⟨a',ws',fpa',h1',hl2,hr2,hf2⟩:=S2.lst ei2
  rw[h1]at h1'
  cases h1'
  obtain⟨w,f,ew,rw',sb⟩:=hrb1.get ez
  obtain rfl:=List.sublist_nil.mp sb
  rw[List.getElem?_eq_getElem hj]at ew
  cases ew
  have nba:b≠a:=fun z=>S.dj i j hij a (by rw[hf];exact List.mem_cons_self) (by rw[hfb,z];exact List.mem_cons_self)
  have rz:Rel T F1 Z.B NoL (upd H1 b (.lst (us.eraseIdx n.toNat))) z us[n.toNat] []:=by
   have hb:b∈fp j:=by rw[hfb];exact List.mem_cons_self
   refine Rel.tr (fun _ h=>h) (fun _ h=>h) (fun _ h=>h) (fun c o e q=>?_) (fun _ z=>(nomatch z)) rw'
   rw[aK]
   ·exact e
   ·rintro rfl
    rw[hlb1]at e
    cases e
    rcases q with q | q | q | q
    ·exact(S1.dis j c hb).1 q
    ·exact(S1.bOut q).2 j hb
    ·exact q
    ·exact q
  have hln2:=hr2.length
  refine⟨a,ws',us[n.toNat],rfl,rfl,hl2,by rw[<- hln2,sizeLine_eq];omega,?_⟩
  obtain rfl:=(da c2 hr2).1
  exact q F1 _ Y _ (S2.mutL (v:=.non) ei2 h1 hf2 (RelL.append hr2 (by unfold RelL;exact⟨_,[],[],[],rfl,rz,dY _ _ _ _,rfl⟩)) List.nodup_nil (fun _ z=>(nomatch z)) hl2)
end
section
variable{env e e':En}{v:PV}{i:Nat}{r:Out}
@[simp] def j_:mC v env=.ok v:=rfl
@[simp] def bN:am env=.ok []:=rfl
@[simp] def bt:ae a m env=(a env).bind fun x=>(m env).bind fun xs=>.ok (x::xs):=rfl
@[simp] def B2:mUn f a env=(a env).bind f:=rfl
@[simp] def d9:mOp f a b env=(a env).bind fun x=>(b env).bind fun y=>f x y:=rfl
@[simp] def cw:aq f m env=(m env).bind f:=rfl
@[simp] def kD:fg m env=(m env).bind fun xs=>.ok (.lst .own xs):=rfl
@[simp] def yE:l0 m env=(m env).bind fun xs=>.ok (.tup xs):=rfl
@[simp] def uc:fQ a env=(a env).bind fun b=>.ok (!b):=rfl
@[simp] def qD:dg a env=(a env).bind oM:=rfl
@[simp] def Is:lC a c env=(a env).bind (lS c):=rfl
@[simp] def i6:i4 env=.ok none:=rfl
@[simp] def Bk:cu env=.ok true:=rfl
def AJ:Option (Option PV)->Res PV
 | some (some v)=>.ok (v.mapF Fl.lend)
 | _=>.stuck
@[simp] def cB(v:PV):AJ (some (some v))=.ok (v.mapF Fl.lend):=rfl
@[simp] def bH:ac i env=AJ env[i]?:=by
 unfold ac
 cases env[i]? with
 | none=>rfl
 | some w=>cases w<;>rfl
def pBl:PV->Res Bool
 | .bl b=>.ok b
 | _=>.stuck
@[simp] def Ia(b:Bool):pBl (.bl b)=.ok b:=rfl
@[simp] def gT:aA a env=(a env).bind pBl:=by
 rfl
def FO:PV->Res PV
 | .bl b=>.ok (.bl (!b))
 | _=>.stuck
@[simp] def Hk(b:Bool):FO (.bl b)=.ok (.bl (!b)):=rfl
@[simp] def HI:tX a env=(a env).bind FO:=by
 rfl
def AK(r:Res PV):PV->Res PV
 | .bl b=>if b then r else .ok (.bl false)
 | _=>.stuck
@[simp] def Hl(r:Res PV)(b:Bool):AK r (.bl b)=if b then r else .ok (.bl false):=rfl
@[simp] def Bm:jW a b env=(a env).bind (AK (b env)):=by
 unfold jW
 congr 1
 funext x
 cases x with
 | bl b=>cases b<;>rfl
 | _=>rfl
@[simp] def yF:iH f g a b c env=(a env).bind fun x=>(b env).bind fun y=>(f x y).bind (AK ((c env).bind fun z=>g y z)):=by
 unfold iH
 congr 1
 funext x
 congr 1
 funext y
 congr 1
 funext z
 cases z with
 | bl b=>cases b<;>rfl
 | _=>rfl
@[simp] def GO(g:Int->Int->PV)(i j:Int):di g (.int i) (.int j)=.ok (g i j):=rfl
def BP:PV->Res (Option Int)
 | .int i=>.ok (some i)
 | _=>.stuck
@[simp] def E1(i:Int):BP (.int i)=.ok (some i):=rfl
@[simp] def j9:jU a env=(a env).bind BP:=by
 rfl
def FR(l h:Option Int):PV->Res PV
 | .lst _ xs=>.ok (.lst .own (kb xs l h))
 | _=>.stuck
@[simp] def FQ(l h:Option Int)(f:Fl)(xs:List PV):FR l h (.lst f xs)=.ok (.lst .own (kb xs l h)):=rfl
@[simp] def iO:iE o lo hi env=(o env).bind fun x=>(lo env).bind fun l=>(hi env).bind fun h=>FR l h x:=by
 rfl
def aD(v:PV):Res PV:=if v.has Fl.isBor then .stuck else .ok v
@[simp] def yS:aQ f xs=(f (mapL Fl.toBor xs)).bind aD:=by
 unfold aQ
 cases f (mapL Fl.toBor xs)<;>rfl
def h8(disp:Nat->Option (List PV->Res PV))(r:Res (List PV)):PV->Res PV
 | .obj fl c ks vs=>match disp c with
  | some m=>r.bind fun xs=>aQ m (.obj fl c ks vs::xs)
  | none=>.stuck
 | _=>.stuck
@[simp] def FP(disp:Nat->Option (List PV->Res PV))(r:Res (List PV))(fl:Fl)(c:Nat)(ks:List Nat)(vs:List PV):h8 disp r (.obj fl c ks vs)=match disp c with
  | some m=>r.bind fun xs=>aQ m (.obj fl c ks vs::xs)
  | none=>.stuck:=rfl
@[simp] def iP:bI disp o ms env=(o env).bind (h8 disp (ms env)):=by
 unfold bI
 congr 1
 funext x
 cases x<;>rfl
@[simp] def HH:fG m env=(m env).bind fun x=>match x with
 | .lst f xs=>if !f.isLnt&&eC xs then .ok xs else .stuck
 | .tup xs=>if eC xs then .ok xs else .stuck
 | _=>.stuck:=rfl
def wR(x:PV):Res (List PV):=match aL x with
 | some xs=>.ok xs
 | none=>.stuck
@[simp] def E4(f:Fl)(xs:List PV):wR (.lst f xs)=.ok xs:=rfl
@[simp] def E2(xs:List PV):wR (.tup xs)=.ok xs:=rfl
@[simp] def Bl:cF m env=(m env).bind wR:=rfl
@[simp] def lq:g8 a b env=(a env).bind fun x=>if x then b env else .ok false:=rfl
@[simp] def D8:fH a b env=(a env).bind fun x=>if x then .ok true else b env:=rfl
@[simp] def Iu:xJ c a b env=(c env).bind fun x=>if x then a env else b env:=rfl
@[simp] def sE:ju c f m env=(m env).bind fun xs=>aQ f (.obj .own c [] []::xs):=rfl
def af(h1:a env=.next e)(h2:b e=r):au a b env=r:=by unfold au;rw[h1];exact h2
def gG(h1:a env=.ret v):au a b env=.ret v:=by unfold au;rw[h1]
def jz(h:c env=.ok true)(h2:a env=r):mBr c a b env=r:=by unfold mBr;rw[h];exact h2
def ce(h:c env=.ok false)(h2:b env=r):mBr c a b env=r:=by unfold mBr;rw[h];exact h2
def B3(h:c env=.ok x):mBr c a b env=if x then a env else b env:=by unfold mBr;rw[h];cases x<;>rfl
def aw(h:m env=.ok v)(hl:v.noLnt=true)(ho:aU i env=true):aS i m env=.next (env.set i (some v)):=by
 unfold aS;rw[h];simp[hl,ho]
def a9(h:m env=.ok v)(hl:v.noLnt=true):bz m env=.ret v:=by unfold bz;rw[h];simp[hl]
def fD(h:env[i]?=some (some v)):eY i env=.ret v:=by unfold eY;rw[h]
def gW(h:m env=.ok v):iG m env=.next env:=by unfold iG;rw[h]
def aI:aZ env=.next env:=rfl
def bD(h:m env=.ok v)(ho:env[i]?=some (some (.obj .own c ks vs)))(hl:v.noLnt=true)(hk:ks.contains k=false)(hn:ks.length < 900) :
  gj i k m env=.next (env.set i (some (.obj .own c (ks++[k]) (vs++[v])))):=by
 unfold gj;rw[h,ho];simp only[hl,hk];simp[hn]
def fv(h:m env=.ok v)(ho:env[i]?=some (some (.lst .own xs)))(hl:v.noLnt=true)(hn:xs.length < 10000000):d7 i m env=.next (env.set i (some (.lst .own (xs++[v])))):=by
 unfold d7;rw[h,ho];simp[hl,hn]
def pO(h:m env=.ok v)(ho:env[i]?=some (some (.lst .own xs)))(hk:mk env=.ok (.int j))(hj:ixN xs.length j=some n)(hl:v.noLnt=true) :
  jq i mk m env=.next (env.set i (some (.lst .own (xs.set n v)))):=by
 unfold jq;rw[h,ho,hk];simp[hj,hl]
def cM(h:env[i]?=some (some v)):eV i env=.next (env.set i (some (v.mapF Fl.freeze))):=by unfold eV;rw[h]
def az(h:m (args.map some++List.replicate (n - args.length) none)=.ret v):ba n m args=.ok v:=by unfold ba;rw[h]
def nP(h:m (args.map some++List.replicate (n - args.length) none)=.next e):ba n m args=.ok .non:=by unfold ba;rw[h]
def cJ(h:m (args.map some++List.replicate (n - args.length) none)=.next e)(ho:e[0]?=some (some v)):i_ n m args=.ok v:=by unfold i_;rw[h];simp[ho]
def j8(P:Nat->En->Prop)(h:it env=.ok xs)(h0:P 0 env)
  (step:∀(k:Nat) (x:PV) (e:En),xs[k]?=some x->P k e->∃e1 e2,g x e=some e1/\(body e1=.next e2\/body e1=.cont e2)/\P (k+1) e2):∃e2,dB it g body env=.next e2/\P xs.length e2:=by
 unfold dB
 rw[h]
 dsimp only
 have key:∀ (ys pre:List PV) (e:En),pre ++ ys=xs->P pre.length e->∃ e2,m_ (fun x e=>match g x e with
  | some e'=>body e'
  | none=>.stuck) ys e=.next e2/\P xs.length e2:=by
  intro ys
  induction ys with
  | nil=>intro pre e hp hP;simp at hp;subst hp;exact⟨e,rfl,hP⟩
  | cons y ys ih =>
   intro pre e hp hP
   obtain⟨e1,e2,h1,h2,h3⟩:=step pre.length y e (by rw[<- hp];simp) hP
   obtain⟨e3,h4,h5⟩:=ih (pre++[y]) e2 (by rw[<- hp];simp) (by simpa using h3)
   refine⟨e3,?_,h5⟩
   unfold m_
   simp only[h1]
   rcases h2 with h2 | h2<;>rw[h2]<;>exact h4
 exact key xs [] env rfl h0
def o3(P:Nat->En->Prop)(R:Out->Prop)(h:it env=.ok xs)(h0:P 0 env)
  (step:∀(k:Nat) (x:PV) (e:En),xs[k]?=some x->P k e->∃e1,g x e=some e1/\((∃e2,(body e1=.next e2\/body e1=.cont e2)/\P (k+1) e2)\/(∃e2,body e1=.brk e2/\R (.next e2))\/(∃v,body e1=.ret v/\R (.ret v))\/ ∃c e2,body e1=.exc c e2/\R (.exc c e2)))
  (fin:∀e,P xs.length e->R (.next e)):R (dB it g body env):=by
 unfold dB
 rw[h]
 dsimp only
 have key:∀ (ys pre:List PV) (e:En),pre ++ ys=xs->P pre.length e->R (m_ (fun x e=>match g x e with
  | some e'=>body e'
  | none=>.stuck) ys e):=by
  intro ys
  induction ys with
  | nil=>intro pre e hp hP;simp at hp;subst hp;exact fin e hP
  | cons y ys ih =>
   intro pre e hp hP
   obtain⟨e1,h1,h2⟩:=step pre.length y e (by rw[<- hp];simp) hP
   unfold m_
   simp only[h1]
   rcases h2 with⟨e2,h2,h3⟩ |⟨e2,h2,h3⟩ |⟨v,h2,h3⟩ |⟨c,e2,h2,h3⟩
   ·have:=ih (pre++[y]) e2 (by rw[<- hp];simp) (by simpa using h3)
    rcases h2 with h2 | h2<;>rw[h2]<;>exact this
   ·rw[h2];exact h3
   ·rw[h2];exact h3
   ·rw[h2];exact h3
 exact key xs [] env rfl h0
def aV(h:mi env=.ok xs)(hl:xs.length<=10000000)(hc:d_ g mc me (bQ caps k env) xs=.ok ys):a_ caps k mi g mc me env=.ok (.lst .own ys):=by
 unfold a_;rw[h];simp only[Res.ok_bind,hl,if_true,hc]
def bL{α:Type}{a:α->PV}{f:α->PV}:∀(xs:List α),(∀x∈xs,∃e1,g (a x).borrow env=some e1/\me e1=.ok (f x)/\(f x).has Fl.isBor=false/\(f x).has Fl.isLnt=false)->
  d_ g cu me env (xs.map a)=.ok (xs.map f)
 | [],_=>rfl
 | x::xs,h=>by
  obtain⟨e1,h1,h2,h3,h4⟩:=h x List.mem_cons_self
  rw[List.map_cons,d_,h1]
  simp only[Bk,Res.ok_bind,if_true,h2,h3,h4,Bool.or_self,Bool.false_eq_true,if_false,bL xs fun y hy=>h y (List.mem_cons_of_mem _ hy)]
  rfl
def b_{α:Type}{a:α->PV}{f:α->PV}{p:α->Bool}:∀(xs:List α),(∀x∈xs,∃e1,g (a x).borrow env=some e1/\mc e1=.ok (p x)/\(p x=true->me e1=.ok (f x)/\(f x).has Fl.isBor=false/\(f x).has Fl.isLnt=false))->
  d_ g mc me env (xs.map a)=.ok ((xs.filter p).map f)
 | [],_=>rfl
 | x::xs,h=>by
  obtain⟨e1,h1,h2,h3⟩:=h x List.mem_cons_self
  have ih:=b_ (g:=g) (mc:=mc) (me:=me) (a:=a) (f:=f) (p:=p) xs fun y hy=>h y (List.mem_cons_of_mem _ hy)
  rw[List.map_cons,d_,h1]
  cases hp:p x with
  | true =>
   obtain⟨h4,h5,h6⟩:=h3 hp
   simp only[h2,hp,Res.ok_bind,if_true,h4,h5,h6,Bool.or_self,Bool.false_eq_true,if_false,ih]
   rw[List.filter_cons_of_pos hp]
   rfl
  | false =>
   simp only[h2,hp,Res.ok_bind,Bool.false_eq_true,if_false,ih]
   rw[List.filter_cons_of_neg (by simp[hp])]
end
def iL(ns:List Int):List PV:=ns.map .int
def xT(ns:List Int):ns.map PV.int=iL ns:=rfl
section
variable(ns ms:List Int)(g:Fl->Fl)(p:Fl->Bool)
@[simp] def GM:iL []=[]:=rfl
@[simp] def gp(n:Int):iL (n::ns)=.int n::iL ns:=rfl
@[simp] def bB:(iL ns).length=ns.length:=by simp[iL]
@[simp] def GN:iL ns++iL ms=iL (ns++ms):=by simp[iL]
@[simp] def n0(k:Nat):(iL ns).drop k=iL (ns.drop k):=by simp[iL]
@[simp] def vh(k:Nat):(iL ns).take k=iL (ns.take k):=by simp[iL]
@[simp] def xS(k:Nat):(iL ns)[k]?=(ns[k]?).map .int:=by simp[iL]
@[simp] def qu(k:Nat)(n:Int):(iL ns).set k (.int n)=iL (ns.set k n):=by simp[iL,List.map_set]
@[simp] def u6:mapL g (iL ns)=iL ns:=by
 induction ns with
 | nil=>rfl
 | cons n ns ih=>simp[mapL,PV.mapF,ih]
@[simp] def Fh:hasL p (iL ns)=false:=by
 induction ns with
 | nil=>rfl
 | cons n ns ih=>simp[hasL,PV.has,ih]
@[simp] def Fm:PyData.canLayAll0 (dataL (iL ns))=true:=by
 induction ns with
 | nil=>rfl
 | cons n ns ih=>simp only[gp,dataL,PV.data,PyData.canLayAll0,ih];rfl
@[simp] def Fk:PyData.depthAll (dataL (iL ns))=0:=by
 induction ns with
 | nil=>rfl
 | cons n ns ih=>simp only[gp,dataL,PV.data,PyData.depthAll,ih];rfl
@[simp] def jG(i:Int):shp (.int i)=true:=rfl
@[simp] def HX(b:Bool):shp (.bl b)=true:=rfl
@[simp] def Hg:shp .non=true:=rfl
@[simp] def pM(f:Fl):shp (.lst f (iL ns))=true:=by
 simp[shp,SeqAt.shaped,PV.data,PyData.canLay0,PyData.depth]
@[simp] def nK:(iL ns).all shp=true:=by
 induction ns with
 | nil=>rfl
 | cons n ns ih=>simp only[gp,List.all_cons,jG,ih];rfl
@[simp] def Iv(i j:Int):pEq (.int i) (.int j)=.ok (.bl (decide (i=j))):=by
 unfold pEq
 simp only[jG,Bool.and_self,if_true,PV.data,PyData.eqv]
 congr 2
@[simp] def Ii(i j:Int):pNe (.int i) (.int j)=.ok (.bl (!decide (i=j))):=by
 unfold pNe
 simp only[jG,Bool.and_self,if_true,PV.data,PyData.eqv]
 congr 2
@[simp] def IJ(i j:Bool):pEq (.bl i) (.bl j)=.ok (.bl (decide (i=j))):=by cases i<;>cases j<;>rfl
@[simp] def IG(i j:Bool):pNe (.bl i) (.bl j)=.ok (.bl (!decide (i=j))):=by cases i<;>cases j<;>rfl
def n_:PyData.eqvAll (dataL (iL ns)) (dataL (iL ms))=decide (ns=ms):=by
 induction ns generalizing ms with
 | nil=>cases ms<;>simp[dataL,PyData.eqvAll]
 | cons n ns ih =>
  cases ms with
  | nil=>simp[dataL,PyData.eqvAll]
  | cons m ms=>simp only[gp,dataL,PV.data,PyData.eqvAll,PyData.eqv,ih];by_cases h:n=m<;>simp[h]
@[simp] def Bo(f f':Fl):pEq (.lst f (iL ns)) (.lst f' (iL ms))=.ok (.bl (decide (ns=ms))):=by
 unfold pEq
 simp only[pM,Bool.and_self,if_true,PV.data,PyData.eqv,n_]
@[simp] def tQ(f f':Fl):pNe (.lst f (iL ns)) (.lst f' (iL ms))=.ok (.bl (!decide (ns=ms))):=by
 unfold pNe
 simp only[pM,Bool.and_self,if_true,PV.data,PyData.eqv,n_]
@[simp] def lt_int(i j:Int):pLt (.int i) (.int j)=.ok (.bl (decide (i < j))):=rfl
@[simp] def le_int(i j:Int):pLe (.int i) (.int j)=.ok (.bl (decide (i<=j))):=rfl
@[simp] def gt_int(i j:Int):pGt (.int i) (.int j)=.ok (.bl (decide (j < i))):=rfl
@[simp] def ge_int(i j:Int):pGe (.int i) (.int j)=.ok (.bl (decide (j<=i))):=rfl
@[simp] def FK(i j:Int):aY (.int i) (.int j)=.ok (.int (i+j)):=rfl
@[simp] def sub_int(i j:Int):gc (.int i) (.int j)=.ok (.int (i - j)):=rfl
@[simp] def neg_int(i:Int):H_ (.int i)=.ok (.int (-i)):=rfl
def bW(h:0 < j):ef (.int i) (.int j)=.ok (.int (i % j)):=by simp[ef,fE,h]
def gX(h:0 < j)(h2:j < 1073741824):fN (.int i) (.int j)=.ok (.int (i / j)):=by simp[fN,fE,h,h2]
def eU(h:(-(2 ^ 64) < i/\i < 2 ^ 64)\/(-(2 ^ 64) < j/\j < 2 ^ 64)):dG (.int i) (.int j)=.ok (.int (i * j)):=by
 unfold dG fE
 dsimp only
 rw[if_pos (by simpa using h)]
@[simp] def Ht(f:Fl)(xs:List PV):bU (.lst f xs)=.ok (.int xs.length):=rfl
@[simp] def Hs(xs:List PV):bU (.tup xs)=.ok (.int xs.length):=rfl
@[simp] def GB(f:Fl)(xs:List PV):bT (.lst f xs)=.ok (.lst .own xs):=rfl
@[simp] def Ib(f:PV->Res PV)(x:PV):p1 f [x]=f x:=by simp only[p1]
@[simp] def Hx(c:String)(i:Int):lS c (.int i)=.ok (.bl (mf "int" c)):=rfl
@[simp] def Im(c:String)(i:Bool):lS c (.bl i)=.ok (.bl (mf "bool" c)):=rfl
@[simp] def Hv(c:String):lS c .non=.ok (.bl (mf "NoneType" c)):=rfl
@[simp] def Hw(c:String)(f:Fl)(xs:List PV):lS c (.lst f xs)=.ok (.bl (mf "list" c)):=rfl
@[simp] def Hu(c:String)(xs:List PV):lS c (.tup xs)=.ok (.bl (mf "tuple" c)):=rfl
@[simp] def Fr(b:Bool):oM (.bl b)=.ok b:=rfl
@[simp] def EW(i:Int):oM (.int i)=.ok (i != 0):=rfl
@[simp] def Gy(i:Int):(PV.int i).mapF g=.int i:=by simp[PV.mapF]
@[simp] def Ho(b:Bool):(PV.bl b).mapF g=.bl b:=by simp[PV.mapF]
@[simp] def Gw:PV.non.mapF g=.non:=by simp[PV.mapF]
@[simp] def Gu(x:Str):(PV.str x).mapF g=.str x:=by simp[PV.mapF]
@[simp] def Gz(x:Nat):(PV.exc x).mapF g=.exc x:=by simp[PV.mapF]
@[simp] def Gx(f:Fl)(xs:List PV):(PV.lst f xs).mapF g=.lst (g f) (mapL g xs):=by simp[PV.mapF]
@[simp] def Gs(xs:List PV):(PV.tup xs).mapF g=.tup (mapL g xs):=by simp[PV.mapF]
@[simp] def Gv(f:Fl)(c:Nat)(ks:List Nat)(xs:List PV):(PV.obj f c ks xs).mapF g=.obj (g f) c ks (mapL g xs):=by simp[PV.mapF]
@[simp] def Gp:mapL g []=[]:=by simp[mapL]
@[simp] def u7(x:PV)(xs:List PV):mapL g (x::xs)=x.mapF g::mapL g xs:=by simp[mapL]
@[simp] def HF(i:Int):(PV.int i).has p=false:=by simp[PV.has]
@[simp] def Io(b:Bool):(PV.bl b).has p=false:=by simp[PV.has]
@[simp] def HD:PV.non.has p=false:=by simp[PV.has]
@[simp] def HB(x:Str):(PV.str x).has p=false:=by simp[PV.has]
@[simp] def HG(x:Nat):(PV.exc x).has p=false:=by simp[PV.has]
@[simp] def HE(f:Fl)(xs:List PV):(PV.lst f xs).has p=(p f||hasL p xs):=by simp[PV.has]
@[simp] def HA(xs:List PV):(PV.tup xs).has p=hasL p xs:=by simp[PV.has]
@[simp] def HC(f:Fl)(c:Nat)(ks:List Nat)(xs:List PV):(PV.obj f c ks xs).has p=(p f||hasL p xs):=by simp[PV.has]
@[simp] def GV:hasL p []=false:=by simp[hasL]
@[simp] def Fj(x:PV)(xs:List PV):hasL p (x::xs)=(x.has p||hasL p xs):=by simp[hasL]
@[simp] def Gn(x:PV):x.noLnt=!x.has Fl.isLnt:=rfl
@[simp] def Fn(x:PV):x.borrow=x.mapF Fl.borrow:=rfl
@[simp] def GC:Fl.own.lend=.lnt:=rfl
@[simp] def GH:Fl.frz.lend=.frz:=rfl
@[simp] def GJ:Fl.bor.lend=.bor:=rfl
@[simp] def GD:Fl.lnt.lend=.lnt:=rfl
@[simp] def EX:Fl.own.toBor=.own:=rfl
@[simp] def EZ:Fl.frz.toBor=.frz:=rfl
@[simp] def E0:Fl.bor.toBor=.bor:=rfl
@[simp] def EY:Fl.lnt.toBor=.bor:=rfl
@[simp] def B4:Fl.own.borrow=.bor:=rfl
@[simp] def Eh:Fl.frz.borrow=.frz:=rfl
@[simp] def Ei:Fl.bor.borrow=.bor:=rfl
@[simp] def Eg:Fl.lnt.borrow=.bor:=rfl
@[simp] def E5:Fl.own.isOwn=true:=rfl
@[simp] def E7:Fl.frz.isOwn=false:=rfl
@[simp] def E8:Fl.bor.isOwn=false:=rfl
@[simp] def E6:Fl.lnt.isOwn=false:=rfl
@[simp] def E9:Fl.own.isLnt=false:=rfl
@[simp] def Fa:Fl.frz.isLnt=false:=rfl
@[simp] def Fb:Fl.bor.isLnt=false:=rfl
@[simp] def E_:Fl.lnt.isLnt=true:=rfl
@[simp] def Fd:Fl.own.isBor=false:=rfl
@[simp] def Ff:Fl.frz.isBor=false:=rfl
@[simp] def Fg:Fl.bor.isBor=true:=rfl
@[simp] def Fe:Fl.lnt.isBor=false:=rfl
@[simp] def DM:Fl.own.freeze=.frz:=rfl
@[simp] def DO:Fl.frz.freeze=.frz:=rfl
@[simp] def DP:Fl.bor.freeze=.bor:=rfl
@[simp] def DN:Fl.lnt.freeze=.lnt:=rfl
def j5(h0:0<=i)(h:ns[i.toNat]?=some n):aO (.lst f (iL ns)) (.int i)=.ok (.int n):=by
 have hl:i.toNat < ns.length:=(List.getElem?_eq_some_iff.mp h).1
 unfold aO
 simp only[aL,atI,ixN,bB,h0,if_true]
 rw[if_pos (by omega)]
 simp[h]
end
section
variable{env:En}{r:Out}
def kJ(o:Out)(Q:En->Prop):Prop:=∃e,(o=.next e\/o=.cont e)/\Q e
def bq(h1:a env=.next e)(h2:kJ (b e) Q):kJ (au a b env) Q:=by
 obtain⟨e2,h3,h4⟩:=h2
 refine⟨e2,?_,h4⟩
 unfold au
 rw[h1]
 exact h3
def bC(h1:o=.next e)(h2:Q e):kJ o Q:=⟨e,.inl h1,h2⟩
def kC(P:Nat->En->Prop)(h:it env=.ok xs)(h0:P 0 env)
  (step:∀(k:Nat) (x:PV) (e:En),xs[k]?=some x->P k e->∃e1,g x e=some e1/\kJ (body e1) (P (k+1))) (fin:∀e,P xs.length e->Q e):kJ (dB it g body env) Q:=by
 obtain⟨e2,h1,h2⟩:=j8 P h h0 fun k x e h1 h2=>by
  obtain⟨e1,h3,e2,h4,h5⟩:=step k x e h1 h2
  exact⟨e1,e2,h3,h4,h5⟩
 exact⟨e2,.inl h1,fin e2 h2⟩
def iV{it:MI}{g:TgM}{body bF:MS}{xs:List PV}(P:Nat->En->Prop)(h:it env=.ok xs)(h0:P 0 env)
  (step:∀(k:Nat) (x:PV) (e:En),xs[k]?=some x->P k e->∃e1,g x e=some e1/\kJ (body e1) (P (k+1))) (fin:∀e,P xs.length e->bF e=r):au (dB it g body) bF env=r:=by
 obtain⟨e2,h1,h2⟩:=j8 P h h0 fun k x e h1 h2=>by
  obtain⟨e1,h3,e2,h4,h5⟩:=step k x e h1 h2
  exact⟨e1,e2,h3,h4,h5⟩
 exact af h1 (fin e2 h2)
def sx(h:-1000000<=i/\i<=1000000):inR i=true:=by
 have e:(2:Int) ^ 62=4611686018427387904:=by decide
 unfold inR
 rw[decide_eq_true_eq,e]
 omega
def Al(hi:inR n=true)(h:ms env=.ok [.int n]):b8 ms env=.ok (cX 0 n.toNat):=by
 unfold b8
 rw[h,Res.ok_bind]
 dsimp only
 rw[if_pos hi]
def wp{n:Nat}(hi:inR (n:Int)=true)(h:ms env=.ok [.int n]):b8 ms env=.ok (cX 0 n):=by
 have:=Al hi h
 rw[Int.toNat_natCast]at this
 exact this
def DC{n:Nat}(hn:n<=1000000):-1000000 <=(n:Int)/\(n:Int)<= 1000000:=by omega
def bP{n:Nat}(h:ms env=.ok [.int n])(hn:n<=1000000):b8 ms env=.ok (cX 0 n):=wp (sx (DC hn)) h
def Ak(hh:(inR lo&&inR hi)=true)(h:ms env=.ok [.int lo,.int hi]):nU ms env=.ok (cX lo (hi - lo).toNat):=by
 unfold nU
 rw[h,Res.ok_bind]
 dsimp only
 rw[if_pos hh]
def Aj(h:ms env=.ok [.int lo,.int hi])(hl:-1000000<=lo/\lo<=1000000)(hh:-1000000<=hi/\hi<=1000000):nU ms env=.ok (cX lo (hi - lo).toNat) :=
 Ak (by rw[sx hl,sx hh];rfl) h
def bp(lo:Int)(n:Nat):(cX lo n).length=n:=by simp[cX]
def dW(h:(cX lo n)[k]?=some x):k < n/\x=.int (lo+k):=by
 have hk:k < n:=by
  have:=(List.getElem?_eq_some_iff.mp h).1
  rwa [bp]at this
 refine⟨hk,?_⟩
 simp[cX,hk]at h
 exact h.symm
def mB{ns:List Int}{k:Nat}{x:PV}(h:(iL ns)[k]?=some x):∃n,ns[k]?=some n/\x=.int n:=by
 simp at h
 obtain⟨n,h1,h2⟩:=h
 exact⟨n,h1,h2.symm⟩
def dq(h:aU i e=true):tgN i v e=some (e.set i (some v)):=by simp[tgN,h]
end
def Ed(ns:List Int)(lo hi:Nat){l h:Int}(hl:l=lo)(hh:h=hi):kb (iL ns) (some l) (some h)=iL ((ns.take hi).drop lo):=by
 subst hl hh
 unfold kb
 rw[HT.sIx_nat,HT.sIx_nat]
 simp only[bB,n0,vh]
 congr 1
 rw[List.drop_take]
 rcases Nat.le_total lo ns.length with h1 | h1
 ·rw[Nat.min_eq_left h1]
  rcases Nat.le_total hi ns.length with h2 | h2
  ·rw[Nat.min_eq_left h2]
  ·rw[Nat.min_eq_right h2,List.take_of_length_le (by simp),List.take_of_length_le (by simp;omega)]
 ·rw[Nat.min_eq_right h1,List.drop_eq_nil_of_le (Nat.le_refl _),List.drop_eq_nil_of_le h1]
  simp
def f_(hf:f≠.mod)(hg:g≠.mod)(h:xs.length+ys.length<=10000000):aY (.lst f xs) (.lst g ys)=.ok (.lst .own (xs++ys)):=by
 unfold aY
 grind
def oW(h:k < n):ixN n (k:Int)=some k:=by
 unfold ixN
 rw[if_pos (by omega),if_pos (by omega),Int.toNat_natCast]
def llL(f:Fl)(xss:List (List Int)):List PV:=xss.map fun xs=>.lst f (iL xs)
section
variable(xss yss:List (List Int))(g:Fl->Fl)(p:Fl->Bool)(f:Fl)
@[simp] def Hq:llL f []=[]:=rfl
@[simp] def xL(xs:List Int):llL f (xs::xss)=.lst f (iL xs)::llL f xss:=rfl
@[simp] def lg:(llL f xss).length=xss.length:=by simp[llL]
@[simp] def Hr:llL f xss++llL f yss=llL f (xss++yss):=by simp[llL]
@[simp] def Gq:mapL g (llL f xss)=llL (g f) xss:=by
 induction xss with
 | nil=>rfl
 | cons n ns ih=>simp[ih]
def gq(h:p f=false):hasL p (llL f xss)=false:=by
 induction xss with
 | nil=>rfl
 | cons n ns ih=>simp[ih,h]
end
@[simp] def i5(ns:List Int):bh (iL ns)=some ns:=by
 induction ns with
 | nil=>rfl
 | cons n ns ih=>simp[bh,ih]
def nW(h:ns.length<=1000):iZ (.lst f (iL ns))=.ok (.int (oe ns)):=by
 unfold iZ
 simp only[i5]
 rw[if_pos (by simpa using h)]
def ug:∀(l acc:List Int),(acc++l).Nodup->l.foldl PyProof.Rows.step_dedup acc=acc++l
 | [],acc,_=>by simp
 | x::l,acc,h=>by
  have h':((acc++[x])++ l).Nodup:=by simpa using h
  rw[List.foldl_cons]
  have hx:x∉acc:=fun hm=>by
   rw[List.nodup_append]at h
   exact h.2.2 x hm x List.mem_cons_self rfl
  have:PyProof.Rows.step_dedup acc x=acc++[x]:=by
   unfold PyProof.Rows.step_dedup
   rw[if_neg]
   simpa using hx
  rw[this,ug l _ h']
  simp
def Bu(ns:List Int):(List.range ns.length).map (fun i=>ns.getD i 0)=ns:=by
 apply List.ext_getElem?
 intro i
 by_cases h:i < ns.length
 ·simp[h]
 ·simp[h]
def qI(h:ns.Nodup):oe ns=ns.length:=by
 unfold oe PyProof.Rows.firstMet
 rw[Bu,ug ns [] (by simpa using h)]
 rfl
def t6(i:Int)(ns:List Int):inL (.int i) (iL ns)=ns.contains i:=by
 induction ns with
 | nil=>rfl
 | cons n ns ih =>
  have e:inL (.int i) (iL (n::ns))=(PyData.eqv (PV.int n).data (PV.int i).data||inL (.int i) (iL ns)):=rfl
  rw[e,ih,List.contains_cons]
  congr 1
  simp only[PV.data,PyData.eqv]
  exact Bool.beq_comm
@[simp] def II(i:Int)(ns:List Int)(f:Fl):pIn (.int i) (.lst f (iL ns))=.ok (.bl (ns.contains i)):=by
 unfold pIn
 simp only[aL,jG,nK,Bool.and_self,if_true,t6]
@[simp] def Gm(i:Int)(ns:List Int)(f:Fl):iy (.int i) (.lst f (iL ns))=.ok (.bl (!ns.contains i)):=by
 unfold iy
 simp only[aL,jG,nK,Bool.and_self,if_true,t6]
def Ends(o:Out):Prop:=∃e,o=.next e
section
variable{env e:En}
def f9(h:Ends (m (args.map some++List.replicate (n - args.length) none))):ba n m args=.ok .non:=by
 obtain⟨e,h⟩:=h
 exact nP h
def iQ(h1:a env=.next e)(h2:Ends (b e)):Ends (au a b env):=by
 obtain⟨e2,h2⟩:=h2
 exact⟨e2,af h1 h2⟩
def vx(h:o=.next e):Ends o:=⟨e,h⟩
def yI{it:MI}{g:TgM}{body bF:MS}{xs:List PV}(P:Nat->En->Prop)(h:it env=.ok xs)(h0:P 0 env)
  (step:∀(k:Nat) (x:PV) (e:En),xs[k]?=some x->P k e->∃e1,g x e=some e1/\kJ (body e1) (P (k+1))) (fin:∀e,P xs.length e->Ends (bF e)):Ends (au (dB it g body) bF env):=by
 obtain⟨e2,h1,h2⟩:=j8 P h h0 fun k x e h1 h2=>by
  obtain⟨e1,h3,e2,h4,h5⟩:=step k x e h1 h2
  exact⟨e1,e2,h3,h4,h5⟩
 exact iQ h1 (fin e2 h2)
end
def eM(h:m env=.ok (.lst f xs))(hf:f.isLnt=false)(h1:hasL Fl.isOwn xs=false)(h2:hasL Fl.isLnt xs=false):fG m env=.ok xs:=by
 unfold fG
 rw[h]
 simp[hf,eC,h1,h2]
end PR
namespace PR
section
variable{n r s k o:Nat}{adj:Nat->Nat->Prop}{far:List Int}
def gt(far:List Int)(i:Nat):Int:=far.getD i 0
def eE(x:Int)(h:o < far.length)(i:Nat):gt (far.set o x) i=if i=o then x else gt far i:=by
 simp only[gt,List.getD_eq_getElem?_getD,List.getElem?_set]
 by_cases e:o=i
 ·subst e;simp[h]
 ·rw[if_neg e,if_neg (Ne.symm e)]
structure Far(n r:Nat)(adj:Nat->Nat->Prop)(s k:Nat)(d:Nat->Prop)(far:List Int):Prop where
 len:far.length=n
 rt:gt far r=0
 rng:∀i < n,0<=gt far i/\(gt far i<=s+1\/gt far i=n)
 top:∀i < n,gt far i<=n
 up:∀i < n,∀j < n,gt far i < s->adj i j->gt far j<=gt far i+1
 upk:∀i < k,∀j < n,gt far i=s->adj i j->gt far j<=s+1
 upd:∀j < n,d j->gt far j<=s+1
 dn:∀i < n,i≠r->gt far i < n->1<=gt far i/\∃j < n,adj i j/\gt far j=gt far i - 1
def Far.start(hr:r < n)(h:∀i < n,gt far i=if i=r then 0 else(n:Int))(hl:far.length=n):Far n r adj 0 0 (fun _=>False) far where
 len:=hl
 rt:=by rw[h r hr,if_pos rfl]
 rng:=fun i hi=>by rw[h i hi];split<;>omega
 top:=fun i hi=>by rw[h i hi];split<;>omega
 up:=fun i hi j _ hv _=>by
  have:=h i hi
  split at this<;>omega
 upk:=fun i hi=>absurd hi (Nat.not_lt_zero _)
 upd:=fun _ _ z=>z.elim
 dn:=fun i hi hn hv=>by
  rw[h i hi,if_neg hn]at hv
  omega
def Far.skip(F:Far n r adj s k (fun _=>False) far)(hk:gt far k≠s):Far n r adj s (k+1) (fun _=>False) far where
 len:=F.len
 rt:=F.rt
 rng:=F.rng
 top:=F.top
 up:=F.up
 upk:=fun i hi j hj e a=>by
  rcases Nat.lt_or_ge i k with h | h
  ·exact F.upk i h j hj e a
  ·have:i=k:=by omega
   subst this
   exact absurd e hk
 upd:=F.upd
 dn:=F.dn
def Far.close(F:Far n r adj s k d far)(hd:∀j,j < n->adj k j->d j):Far n r adj s (k+1) (fun _=>False) far where
 len:=F.len
 rt:=F.rt
 rng:=F.rng
 top:=F.top
 up:=F.up
 upk:=fun i hi j hj e a=>by
  rcases Nat.lt_or_ge i k with h | h
  ·exact F.upk i h j hj e a
  ·have:i=k:=by omega
   subst this
   exact F.upd j hj (hd j hj a)
 upd:=fun _ _ z=>z.elim
 dn:=F.dn
def Far.none(F:Far n r adj s k (fun _=>False) far)(hd:∀j,¬d j):Far n r adj s k d far where
 len:=F.len
 rt:=F.rt
 rng:=F.rng
 top:=F.top
 up:=F.up
 upk:=F.upk
 upd:=fun j _ z=>absurd z (hd j)
 dn:=F.dn
def Far.relax(F:Far n r adj s k d far)(hk:k < n)(ek:gt far k=s)(ho:o < n)(a:adj o k)(hs:s < n) :
  Far n r adj s k (fun j=>d j\/j=o) (far.set o (min (gt far o) (s+1)))/\gt (far.set o (min (gt far o) (s+1))) k=s:=by
 have hol:o < far.length:=by rw[F.len];exact ho
 have g:=eE (min (gt far o) ((s:Int)+1)) hol
 by_cases hw:gt far o<=s+1
 ·have e:∀i,gt (far.set o (min (gt far o) ((s:Int)+1))) i=gt far i:=fun i=>by
   rw[g i]
   split
   ·rename_i z;subst z;omega
   ·rfl
  refine⟨⟨by rw[List.length_set];exact F.len,by rw[e];exact F.rt,fun i hi=>by rw[e];exact F.rng i hi,fun i hi=>by rw[e];exact F.top i hi,fun i hi j hj=>by rw[e,e];exact F.up i hi j hj,fun i hi j hj=>by rw[e,e];exact F.upk i hi j hj,fun j hj z=>?_,fun i hi hn=>?_⟩,by rw[e];exact ek⟩
  ·rw[e]
   rcases z with z | z
   ·exact F.upd j hj z
   ·subst z;exact hw
  ·rw[e]
   intro hv
   obtain⟨h1,j,hj,aj,ej⟩:=F.dn i hi hn hv
   exact⟨h1,j,hj,aj,by rw[e];exact ej⟩
 ·have hn:gt far o=n:=by have:=(F.rng o ho).2;omega
  have hm:min (gt far o) ((s:Int)+1)=s+1:=by omega
  rw[hm]at g ⊢
  have hlt:(s:Int)+1 < n:=by omega
  have ko:k≠o:=fun z=>by subst z;omega
  have ro:r≠o:=fun z=>by subst z;have:=F.rt;omega
  have le:∀i,gt (far.set o ((s:Int)+1)) i<=gt far i:=fun i=>by
   rw[g i];split
   ·rename_i z;subst z;omega
   ·exact Int.le_refl _
  have ne:∀i,i≠o->gt (far.set o ((s:Int)+1)) i=gt far i:=fun i z=>by rw[g i,if_neg z]
  have eo:gt (far.set o ((s:Int)+1)) o=s+1:=by rw[g o,if_pos rfl]
  refine⟨⟨by rw[List.length_set];exact F.len,by rw[ne r ro];exact F.rt,fun i hi=>?_,fun i hi=>Int.le_trans (le i) (F.top i hi),fun i hi j hj hv aj=>?_,fun i hi j hj hv aj=>?_,fun j hj z=>?_,fun i hi hn' hv=>?_⟩,by rw[ne k ko];exact ek⟩
  ·by_cases z:i=o
   ·subst z;rw[eo];omega
   ·rw[ne i z];exact F.rng i hi
  ·have z:i≠o:=fun z=>by subst z;rw[eo]at hv;omega
   rw[ne i z]at hv ⊢
   exact Int.le_trans (le j) (F.up i hi j hj hv aj)
  ·have z:i≠o:=fun z=>by subst z;rw[eo]at hv;omega
   rw[ne i z]at hv
   exact Int.le_trans (le j) (F.upk i hi j hj hv aj)
  ·rcases z with z | z
   ·exact Int.le_trans (le j) (F.upd j hj z)
   ·subst z;rw[eo];exact Int.le_refl _
  ·by_cases z:i=o
   ·subst z
    rw[eo]
    exact⟨by omega,k,hk,a,by rw[ne k ko];omega⟩
   ·rw[ne i z]at hv ⊢
    obtain⟨h1,j,hj,aj,ej⟩:=F.dn i hi hn' hv
    refine⟨h1,j,hj,aj,?_⟩
    rw[ne j fun q=>by subst q;omega]
    exact ej
def Far.next(F:Far n r adj s n (fun _=>False) far):Far n r adj (s+1) 0 (fun _=>False) far where
 len:=F.len
 rt:=F.rt
 rng:=fun i hi=>by have:=F.rng i hi;omega
 top:=F.top
 up:=fun i hi j hj hv a=>by
  by_cases h:gt far i < s
  ·exact F.up i hi j hj h a
  ·have e:gt far i=s:=by omega
   have:=F.upk i hi j hj e a
   omega
 upk:=fun i hi=>absurd hi (Nat.not_lt_zero _)
 upd:=fun _ _ z=>z.elim
 dn:=F.dn
structure sL(n r:Nat)(adj:Nat->Nat->Prop)(far:List Int):Prop where
 len:far.length=n
 rt:gt far r=0
 rng:∀i < n,0<=gt far i/\gt far i<=n
 up:∀i < n,∀j < n,adj i j->gt far j<=gt far i+1
 dn:∀i < n,i≠r->gt far i < n->1<=gt far i/\∃j < n,adj i j/\gt far j=gt far i - 1
def Far.dist(F:Far n r adj n 0 (fun _=>False) far):sL n r adj far where
 len:=F.len
 rt:=F.rt
 rng:=fun i hi=>⟨(F.rng i hi).1,F.top i hi⟩
 up:=fun i hi j hj a=>by
  by_cases h:gt far i < n
  ·exact F.up i hi j hj h a
  ·have:=F.top j hj;omega
 dn:=F.dn
def qf:∀{l l':List Int},l.Nodup->(∀x∈l,x∈l')->l.length<=l'.length
 | [],_,_,_=>Nat.zero_le _
 | x::l,l',nd,sub=>by
  obtain⟨h1,h2⟩:=List.nodup_cons.mp nd
  have hx:=sub x List.mem_cons_self
  have:=qf (l':=l'.erase x) h2 (by grind)
  rw[List.length_erase_of_mem hx]at this
  have:=List.length_pos_of_mem hx
  rw[List.length_cons]
  omega
def sL.below(D:sL n r adj far)(hr:r < n):∀(m:Nat),(∃i < n,gt far i=m)->m < n->∀v,v<=m->∃i < n,gt far i=v
 | 0,h,_,v,hv=>by
  have:v=0:=by omega
  subst this;exact h
 | m+1,⟨i,hi,e⟩,hm,v,hv=>by
  rcases Nat.lt_or_ge v (m+1)with h | h
  ·have hir:i≠r:=fun z=>by subst z;have:=D.rt;omega
   obtain⟨_,j,hj,_,ej⟩:=D.dn i hi hir (by omega)
   exact D.below hr m ⟨j,hj,by omega⟩ (by omega) v (by omega)
  ·have:v=m+1:=by omega
   subst this
   exact⟨i,hi,e⟩
def dH(h:i < far.length):gt far i∈far:=by
 simp[gt,h]
def sL.all(D:sL n r adj far)(hr:r < n)(conn:∀S:Nat->Prop,S r->(∀i < n,∀j < n,adj i j->S i->S j)->∀i < n,S i):∀i < n,gt far i < n:=by
 refine conn (fun i=>gt far i < n) (by show gt far r < n;rw[D.rt];omega) fun i hi j hj a hv=>?_
 show gt far j < n
 rcases Int.lt_or_le (gt far j) n with h | h
 ·exact h
 exfalso
 have h1:=D.up i hi j hj a
 have h2:=(D.rng j hj).2
 have e:gt far i=((n - 1:Nat):Int):=by omega
 have all:∀v:Nat,v < n+1->(v:Int)∈ far:=fun v hv=>by
  rcases Nat.lt_or_ge v n with h | h
  ·obtain⟨x,hx,ex⟩:=D.below hr (n - 1) ⟨i,hi,e⟩ (by omega) v (by omega)
   rw[<- ex]
   exact dH (by rw[D.len];exact hx)
  ·have:(v:Int)=gt far j:=by omega
   rw[this]
   exact dH (by rw[D.len];exact hj)
 have:=qf (l:=(List.range (n+1)).map fun k:Nat=>(k:Int)) (l':=far) (List.Pairwise.map _ (fun a b h z=>h (by omega)) List.nodup_range) (by grind)
 rw[List.length_map,List.length_range,D.len]at this
 omega
end
end PR
namespace PR
open PySem PySem.Spec L2
def prL(ps:List (Int×Int)):List PV:=ps.map prV
section
variable{ps qs:List (Int×Int)}{x:Int×Int}{f:Fl}{g:Fl->Fl}{p:Fl->Bool}
@[simp] def Hj:prL []=[]:=rfl
@[simp] def wC:prL (x::ps)=prV x::prL ps:=rfl
@[simp] def iY:(prL ps).length=ps.length:=by simp[prL]
@[simp] def Aw:prL ps++prL qs=prL (ps++qs):=by simp[prL]
@[simp] def Av(k:Nat):(prL ps)[k]?=(ps[k]?).map prV:=by simp[prL]
@[simp] def Hh:PV.mapF g (prV x)=prV x:=rfl
@[simp] def Hi:(prV x).has p=false:=rfl
@[simp] def Go:mapL g (prL ps)=prL ps:=by
 induction ps with
 | nil=>rfl
 | cons n ns ih=>simp[mapL,ih]
@[simp] def GU:hasL p (prL ps)=false:=by
 induction ps with
 | nil=>rfl
 | cons n ns ih=>simp[hasL,ih]
@[simp] def rC:shp (prV x)=true:=rfl
@[simp] def pN:(prL ps).all shp=true:=by
 induction ps with
 | nil=>rfl
 | cons n ns ih=>simp only[wC,List.all_cons,rC,ih];rfl
def D9(x y:Int×Int):PyData.eqv (prV x).data (prV y).data=decide (x=y):=by
 obtain⟨a,b⟩:=x
 obtain⟨c,d⟩:=y
 simp only[prV,PV.data,dataL,PyData.eqv,PyData.eqvAll]
 by_cases h1:a=c<;>by_cases h2:b=d<;>simp[h1,h2]
def xU:inL (prV x) (prL ps)=ps.contains x:=by
 induction ps with
 | nil=>rfl
 | cons n ns ih =>
  have e:inL (prV x) (prL (n::ns))=(PyData.eqv (prV n).data (prV x).data||inL (prV x) (prL ns)):=rfl
  rw[e,ih,List.contains_cons,D9]
  congr 1
  by_cases h:n=x
  ·subst h;simp
  ·rw[decide_eq_false h]
   exact(beq_eq_false_iff_ne.mpr (Ne.symm h)).symm
@[simp] def IH:pIn (prV x) (.lst f (prL ps))=.ok (.bl (ps.contains x)):=by
 unfold pIn
 simp only[aL,rC,pN,Bool.and_self,if_true,xU]
@[simp] def Gk:iy (prV x) (.lst f (prL ps))=.ok (.bl (!ps.contains x)):=by
 unfold iy
 simp only[aL,rC,pN,Bool.and_self,if_true,xU]
@[simp] def Hz:aO (prV x) (.int 0)=.ok (.int x.1):=rfl
@[simp] def Hy:aO (prV x) (.int 1)=.ok (.int x.2):=rfl
def q9(a b:Int):PV.tup [.int a,.int b]=prV (a,b):=rfl
@[simp] def Ij:gd fY (prV x)=.ok (.int (min x.1 x.2)):=rfl
@[simp] def Ik:gd jS (prV x)=.ok (.int (max x.1 x.2)):=rfl
@[simp] def rT:iw (prL ps)=some ps:=by
 induction ps with
 | nil=>rfl
 | cons n ns ih =>
  have:lR (prV n)=some n:=rfl
  simp[iw,ih,this]
def nG(ns:List Int)(h:ns.length < 64):eK (.lst f (iL ns))=.ok (.lst .own (iL (jb ns))):=by
 simp[eK,h,i5]
 rfl
def rp(h:ps.length < 64)(hd:ps.Nodup):eK (.lst f (prL ps))=.ok (.lst .own (prL (cP ps))):=by
 cases ps with
 | nil=>rfl
 | cons n ns =>
  have e:bh (prL (n::ns))=none:=rfl
  simp only[eK,e,rT,iY]
  rw[if_pos (decide_eq_true h),if_pos (decide_eq_true hd)]
  rfl
def jO{α:Type}{n:Nat}{y z:α}{l:List α}:z∈iq n y l↔z=y\/z∈l:=by
 unfold iq
 rw[List.mem_append,List.mem_cons]
 constructor
 ·rintro(h | h | h)
  ·exact .inr (List.mem_of_mem_take h)
  ·exact .inl h
  ·exact .inr (List.mem_of_mem_drop h)
 ·rintro(h | h)
  ·exact .inr (.inl h)
  ·rw[<- List.take_append_drop n l]at h
   rcases List.mem_append.mp h with h | h
   ·exact .inl h
   ·exact .inr (.inr h)
def jN{α:Type}(n:Nat)(y:α)(l:List α):(iq n y l).Perm (y::l):=by
 unfold iq
 refine List.perm_middle.trans ?_
 rw[List.take_append_drop]
end
def iM{x:PV}{xs:List PV}{k:Nat}{y:PV}(hs:aL x=some xs)(h:xs[k]?=some y)(ho:y.has Fl.isOwn=false):aO x (.int k)=.ok y:=by
 have hl:k < xs.length:=(List.getElem?_eq_some_iff.mp h).1
 unfold aO
 simp only[hs,atI]
 rw[oW hl]
 simp[h,ho]
def nbL(ps:List (Int×Int))(at_:Int):List Int:=jb ((ps.filter fun x=>decide (x.2=at_)).map (·.1)++(ps.filter fun x=>decide (x.1=at_)).map (·.2))
def oS{ps:List (Int×Int)}{a o:Int}:o∈nbL ps a ↔(o,a)∈ ps \/(a,o)∈ ps:=by
 unfold nbL
 rw[(fB _).mem_iff,List.mem_append]
 simp only[List.mem_map,List.mem_filter,decide_eq_true_eq]
 constructor
 ·rintro(⟨⟨x,y⟩,⟨h1,h2⟩,h3⟩ |⟨⟨x,y⟩,⟨h1,h2⟩,h3⟩)
  ·dsimp only at h2 h3;subst h2 h3;exact .inl h1
  ·dsimp only at h2 h3;subst h2 h3;exact .inr h1
 ·rintro(h | h)
  ·exact .inl ⟨_,⟨h,rfl⟩,rfl⟩
  ·exact .inr ⟨_,⟨h,rfl⟩,rfl⟩
def mm(w:Int×Int):Int×Int:=(min w.1 w.2,max w.1 w.2)
structure ES(n:Nat)(ws:List (Int×Int)):Prop where
 rg:∀w∈ws,0<=w.1/\w.1 < n/\0<=w.2/\w.2 < n/\w.1≠w.2
 nd:(ws.map mm).Nodup
 sz:ws.length < 64
end PR
namespace PR
def BT{w u:Int×Int}(h:mm w=mm u):w=u\/w=(u.2,u.1):=by
 obtain⟨a,b⟩:=w
 obtain⟨c,d⟩:=u
 simp only[mm,Prod.mk.injEq]at h ⊢
 omega
def tR{w u:Int×Int}(h:mm w=mm u):(w.1=u.1/\w.2=u.2)\/(w.1=u.2/\w.2=u.1):=by
 rcases BT h with rfl | rfl
 ·exact .inl ⟨rfl,rfl⟩
 ·exact .inr ⟨rfl,rfl⟩
structure Tree(n:Nat)(od:List Int)(k:Nat)(ws:List (Int×Int)):Prop where
 rg:∀w∈ws,w.1∈od.take k/\w.2∈od.take k/\w.1≠w.2
 nd:(ws.map mm).Nodup
 ln:ws.length+1=k
 cn:∀S:Int->Prop,(∀w∈ws,(S w.1↔S w.2))->∀a∈od.take k,(S a↔S (od.getD 0 0))
def Tree.start{n:Nat}{od:List Int}(h:od.length=n)(hn:1<=n):Tree n od 1 [] where
 rg:=fun w hw=>by cases hw
 nd:=.nil
 ln:=rfl
 cn:=fun S _ a ha=>by
  cases od with
  | nil=>simp at h;omega
  | cons x l =>
   have:a=x:=by simpa using ha
   subst this
   simp
def Tree.more{n:Nat}{od:List Int}{k j:Nat}{ws:List (Int×Int)}{w:Int×Int}{p:Nat}(T:Tree n od k ws)(hod:od.Nodup)(hk:k < od.length)(hj:j < k)(hw:w=(od.getD k 0,od.getD j 0)\/ w=(od.getD j 0,od.getD k 0)):Tree n od (k+1) (iq p w ws):=by
 have hjl:j < od.length:=by omega
 have e1:od.getD k 0=od[k]:=by simp[hk]
 have e2:od.getD j 0=od[j]:=by simp[hjl]
 rw[e1,e2]at hw
 have tk:od.take (k+1)=od.take k++[od[k]]:=by rw[List.take_add_one];simp[hk]
 have mj:od[j]∈ od.take k:=List.mem_take_iff_getElem.mpr ⟨j,by omega,rfl⟩
 have nk:od[k]∉ od.take k:=fun z=>by
  obtain⟨i,hi,e⟩:=List.mem_take_iff_getElem.mp z
  have:=(List.getElem_inj hod).mp e
  omega
 have ne:od[k]≠ od[j]:=fun z=>nk (z▸mj)
 have mem:∀u∈iq p w ws,u=w\/u∈ws:=fun u hu=>jO.mp hu
 refine⟨fun u hu=>?_,?_,?_,fun S hS a ha=>?_⟩
 ·rcases mem u hu with rfl | hu
  ·grind
  ·obtain⟨h1,h2,h3⟩:=T.rg u hu
   rw[tk]
   exact⟨List.mem_append_left _ h1,List.mem_append_left _ h2,h3⟩
 ·have:((iq p w ws).map mm).Perm (mm w::ws.map mm):=(jN p w ws).map mm
  refine this.symm.nodup (List.nodup_cons.mpr ⟨fun z=>?_,T.nd⟩)
  obtain⟨u,hu,e⟩:=List.mem_map.mp z
  obtain⟨h1,h2,_⟩:=T.rg u hu
  rcases hw with rfl | rfl
  ·rcases tR e with⟨q1,q2⟩ |⟨q1,q2⟩
   ·exact nk (by rw[q1]at h1;exact h1)
   ·exact nk (by rw[q2]at h2;exact h2)
  ·rcases tR e with⟨q1,q2⟩ |⟨q1,q2⟩
   ·exact nk (by rw[q2]at h2;exact h2)
   ·exact nk (by rw[q1]at h1;exact h1)
 ·rw[(jN p w ws).length_eq,List.length_cons,T.ln]
 ·have hw':=hS w (jO.mpr (.inl rfl))
  have cn:=T.cn S fun u hu=>hS u (jO.mpr (.inr hu))
  grind
structure fL(n m:Nat)(ws:List (Int×Int)):Prop where
 rg:∀w∈ws,0<=w.1/\w.1 < n/\0<=w.2/\w.2 < n/\w.1≠w.2
 nd:(ws.map mm).Nodup
 ln:ws.length<=m
 cn:∀S:Int->Prop,(∀w∈ws,(S w.1↔S w.2))->∀i j:Nat,i < n->j < n->S i->S j
def Tree.whole{n:Nat}{od:List Int}{ws:List (Int×Int)}(T:Tree n od n ws)(hp:od.Perm ((List.range n).map fun k:Nat=>(k:Int))):fL n n ws:=by
 have hl:od.length=n:=by simpa using hp.length_eq
 have ht:od.take n=od:=by rw[<- hl,List.take_length]
 have hm:∀a,a∈od↔∃k:Nat,k < n/\(k:Int)=a:=fun a=>by rw[hp.mem_iff];simp
 refine⟨fun w hw=>?_,T.nd,by have:=T.ln;omega,fun S hS i j hi hj hs=>?_⟩
 ·obtain⟨h1,h2,h3⟩:=T.rg w hw
  rw[ht]at h1 h2
  obtain⟨a,ha,ea⟩:=(hm _).mp h1
  obtain⟨b,hb,eb⟩:=(hm _).mp h2
  omega
 ·have cn:=T.cn S hS
  rw[ht]at cn
  exact(cn j ((hm _).mpr ⟨j,hj,rfl⟩)).mpr ((cn i ((hm _).mpr ⟨i,hi,rfl⟩)).mp hs)
def fL.more{n m p:Nat}{ws:List (Int×Int)}{a b:Int}(h:fL n m ws)(ha:0<=a/\a < n)(hb:0<=b/\b < n)(hne:a≠b)(h1:(a,b)∉ ws)(h2:(b,a)∉ ws):fL n (m+1) (iq p (a,b) ws):=by
 refine⟨fun u hu=>?_,?_,?_,fun S hS=>h.cn S fun u hu=>hS u (jO.mpr (.inr hu))⟩
 ·rcases jO.mp hu with rfl | hu
  ·exact⟨ha.1,ha.2,hb.1,hb.2,hne⟩
  ·exact h.rg u hu
 ·have:((iq p (a,b) ws).map mm).Perm (mm (a,b)::ws.map mm):=(jN p (a,b) ws).map mm
  refine this.symm.nodup (List.nodup_cons.mpr ⟨fun z=>?_,h.nd⟩)
  obtain⟨u,hu,e⟩:=List.mem_map.mp z
  rcases BT e with rfl | rfl
  ·exact h1 hu
  ·exact h2 hu
 ·rw[(jN p (a,b) ws).length_eq,List.length_cons];have:=h.ln;omega
def fL.keep{n m:Nat}{ws:List (Int×Int)}(h:fL n m ws):fL n (m+1) ws:=⟨h.rg,h.nd,Nat.le_succ_of_le h.ln,h.cn⟩
def fL.good{n m:Nat}{ws:List (Int×Int)}(h:fL n m ws)(hm:m < 64):ES n ws:=⟨h.rg,h.nd,by have:=h.ln;omega⟩
open PySem L2 in
def ke(o:Out)(Q:PV->Prop):Prop:=∃v,o=.ret v/\Q v
section
open PySem L2
variable{env e:En}{Q:PV->Prop}
def dX{a b:MS}(h1:a env=.next e)(h2:ke (b e) Q):ke (au a b env) Q:=by
 obtain⟨v,h,q⟩:=h2
 exact⟨v,af h1 h,q⟩
def wq{c:MT}{a b bF:MS}(hc:c env=.ok true)(h:ke (a env) Q):ke (au (mBr c a b) bF env) Q:=by
 obtain⟨v,h1,h2⟩:=h
 exact⟨v,gG (jz hc h1),h2⟩
def fk{o:Out}{v:PV}(h:o=.ret v)(q:Q v):ke o Q:=⟨v,h,q⟩
def jK{it:MI}{g:TgM}{body bF:MS}{xs:List PV}(P:Nat->En->Prop)(h:it env=.ok xs)(h0:P 0 env)
  (step:∀(k:Nat) (x:PV) (e:En),xs[k]?=some x->P k e->∃e1,g x e=some e1/\kJ (body e1) (P (k+1))) (fin:∀e,P xs.length e->ke (bF e) Q):ke (au (dB it g body) bF env) Q:=by
 obtain⟨e2,h1,h2⟩:=j8 P h h0 fun k x e h1 h2=>by
  obtain⟨e1,h3,e2,h4,h5⟩:=step k x e h1 h2
  exact⟨e1,e2,h3,h4,h5⟩
 exact dX h1 (fin e2 h2)
end
end PR
namespace PR
open PySem L2
section
variable{env:En}
def gD(ho:env[0]?=some (some (.obj .own c ks vs)))(ha:ms env=.ok xs)(hl:hasL Fl.isLnt xs=false)
  (hm:m (.obj .own c ks vs::mapL Fl.toBor xs)=.ok (.obj fl c' ks' vs')) (hb:(PV.obj fl c' ks' vs').has Fl.isBor=false):ib m ms env=.next (env.set 0 (some (.obj fl c' ks' vs'))):=by
 unfold ib
 rw[ho]
 dsimp only
 rw[ha]
 dsimp only
 rw[hl,if_neg (by decide),hm]
 dsimp only
 rw[hb,if_neg (by decide)]
end
def vn(h:c env=.ok true)(h2:kJ (a env) Q):kJ (mBr c a b env) Q:=by
 rw[B3 h];exact h2
def n5(h:c env=.ok false)(h2:kJ (b env) Q):kJ (mBr c a b env) Q:=by
 rw[B3 h];exact h2
section
variable{env:En}{g:TgM}{me:ME}
def eF(f:Int->Int)(row:List Int)(h:∀x∈row,∃e1,g (.int x) env=some e1/\me e1=.ok (.int (f x))):d_ g cu me env (iL row)=.ok (iL (row.map f)):=by
 rw[show iL (row.map f)=row.map fun x=>PV.int (f x) by simp[iL]]
 exact bL (a:=PV.int) (f:=fun x=>.int (f x)) row fun x hx=>let⟨e1,h1,h2⟩:=h x hx;⟨e1,h1,h2,rfl,rfl⟩
def kH(lo:Int)(f:Nat->Int)(n:Nat)(h:∀k < n,∃e1,g (.int (lo+(k:Int))) env=some e1/\me e1=.ok (.int (f k))):d_ g cu me env (cX lo n)=.ok (iL ((List.range n).map f)):=by
 rw[show iL ((List.range n).map f)=(List.range n).map fun k=>PV.int (f k) by simp[iL]]
 exact bL (a:=fun k:Nat=>PV.int (lo+(k:Int))) (f:=fun k=>.int (f k)) (List.range n) fun k hk=>let⟨e1,h1,h2⟩:=h k (List.mem_range.mp hk);⟨e1,h1,h2,rfl,rfl⟩
def gY(p:Nat->Bool)(f:Nat->Int)(n:Nat)(h:∀k < n,∃e1,g (.int (0+(k:Int))) env=some e1/\mc e1=.ok (p k)/\(p k=true->me e1=.ok (.int (f k)))):d_ g mc me env (cX 0 n)=.ok (iL (((List.range n).filter p).map f)):=by
 rw[show iL (((List.range n).filter p).map f)=((List.range n).filter p).map fun k=>PV.int (f k) by simp[iL]]
 exact b_ (a:=fun k:Nat=>PV.int (0+(k:Int))) (f:=fun k=>.int (f k)) (p:=p) (List.range n) fun k hk=>let⟨e1,h1,h2,h3⟩:=h k (List.mem_range.mp hk);⟨e1,h1,h2,fun z=>⟨h3 z,rfl,rfl⟩⟩
end
def cL(h0:0<=i)(h:i < cs.length):aO (.lst f (iL cs)) (.int i)=.ok (.int (gt cs i.toNat)):=by
 have:i.toNat < cs.length:=by omega
 exact j5 _ h0 (by simp[gt,this])
def Ec(xs:List PV)(k:Nat)(h:k<=xs.length):kb xs none (some (k:Int))=xs.take k:=by
 unfold kb
 rw[HT.sIx_nat,HT.sIx_none]
 simp[Nat.min_eq_left h]
def yO(xs:List PV)(k:Nat)(h:k<=xs.length):kb xs (some (k:Int)) none=xs.drop k:=by
 unfold kb
 rw[HT.sIx_nat,HT.sIx_none]
 rw[Nat.min_eq_left h,List.take_of_length_le (by simp)]
def fT(p:Int->Bool)(f:Int->Int)(row:List Int)(h:∀x∈row,∃e1,g (.int x) env=some e1/\mc e1=.ok (p x)/\(p x=true->me e1=.ok (.int (f x)))):d_ g mc me env (iL row)=.ok (iL ((row.filter p).map f)):=by
 rw[show iL ((row.filter p).map f)=(row.filter p).map fun x=>PV.int (f x) by simp[iL]]
 exact b_ (a:=PV.int) (f:=fun x=>.int (f x)) (p:=p) row fun x hx=>let⟨e1,h1,h2,h3⟩:=h x hx;⟨e1,h1,h2,fun z=>⟨h3 z,rfl,rfl⟩⟩
def ou{Fin:En->Prop}(P:Nat->En->Prop)(step:∀m e,P m e->(c e=.ok false/\Fin e)\/(c e=.ok true/\∃m' e',m' < m/\(b e=.next e'\/b e=.cont e')/\P m' e')) :
  ∀(k m:Nat) (env:En),m < k->P m env->∃e',whL c b k env=.next e'/\Fin e'
 | 0,m,_,h,_=>absurd h (Nat.not_lt_zero m)
 | k+1,m,env,h,hP=>by
  unfold whL
  rcases step m env hP with⟨h1,h2⟩ |⟨h1,m',e',h2,h3,h4⟩
  ·rw[h1];exact⟨env,rfl,h2⟩
  ·obtain⟨e2,h5,h6⟩:=ou P step k m' e' (by omega) h4
   rw[h1]
   rcases h3 with h3 | h3<;>rw[h3]<;>exact⟨e2,h5,h6⟩
section
variable{env:En}{r:Out}
def uv{c:MT}{b bF:MS}{Fin:En->Prop}(P:Nat->En->Prop)(m:Nat)(hm:m < 100000)(h0:P m env)(step:∀m e,P m e->(c e=.ok false/\Fin e)\/(c e=.ok true/\∃m' e',m' < m/\(b e=.next e'\/b e=.cont e')/\P m' e'))(fin:∀e,Fin e->bF e=r):au (jp c b) bF env=r:=by
 obtain⟨e',h1,h2⟩:=ou P step 100000 m env hm h0
 exact af h1 (fin e' h2)
def lM{Q:PV->Prop}{c:MT}{b bF:MS}{Fin:En->Prop}(P:Nat->En->Prop)(m:Nat)(hm:m < 100000)(h0:P m env)(step:∀m e,P m e->(c e=.ok false/\Fin e)\/(c e=.ok true/\∃m' e',m' < m/\(b e=.next e'\/b e=.cont e')/\P m' e'))(fin:∀e,Fin e->ke (bF e) Q):ke (au (jp c b) bF env) Q:=by
 obtain⟨e',h1,h2⟩:=ou P step 100000 m env hm h0
 exact dX h1 (fin e' h2)
end
def og(cs:List Int)(k:Nat)(h:k<=cs.length):kb (iL cs) (some (k:Int)) none=iL (cs.drop k):=by
 rw[yO _ k (by rw[bB];exact h),n0]
def db:v∈cs.drop k↔∃i,k<=i/\i < cs.length/\gt cs i=v:=by
 constructor
 ·intro h
  obtain⟨i,hi,e⟩:=List.getElem_of_mem h
  rw[List.length_drop]at hi
  rw[List.getElem_drop]at e
  exact⟨k+i,by omega,by omega,by rw[<- e];simp[gt,show k+i < cs.length by omega]⟩
 ·rintro⟨i,h1,h2,e⟩
  rw[List.mem_iff_getElem]
  refine⟨i - k,by rw[List.length_drop];omega,?_⟩
  rw[List.getElem_drop,<- e]
  simp[gt,h2,show k+(i - k)=i by omega]
def k_(hl:l.length<=1000)(hb:∀x∈l,-1000000<=x/\x<=1000000):jP (.lst f (iL l))=.ok (.int l.sum):=by
 have:dR l=true:=by
  simp only[dR,List.all_eq_true,decide_eq_true_eq]
  exact hb
 simp[jP,aL,hl,this]
end PR
namespace PR
def s0_{α:Type}{a b:α}{l:List α}:(a::l).set 0 b=b::l:=rfl
def s1_{α:Type}{a b:α}{l:List α}{n:Nat}:(a::l).set (n+1) b=a::l.set n b:=rfl
end PR
namespace G
open PySem L2 PR
def zf:MS :=
 (au (mBr (aA (mOp pLt (ac 1) (aq (p1 bU) (ae (ac 0) am))))
  (bz (mOp aO (ac 0) (ac 1)))
  aZ)
 (bz (mC (.int (0)))))
def hG:List PV->Res PV:=ba 2 zf
def yX:MS :=
 (au (aS 3 (fg am))
 (au (dB (nU (ae (mC (.int (1))) (ae (ac 0) am))) (tgN 4)
  (au (d7 3 (l0 (ae (mOp ef (ac 1) (ac 4)) (ae (ac 4) am))))
 (aS 1 (mOp fN (ac 1) (ac 4)))))
 (au (dB (b8 (ae (ac 0) am)) (tgN 4)
  (dB (b8 (ae (ac 4) am)) (tgN 5)
  (au (mBr ((g8 (aA (mOp pEq (mOp ef (ac 2) (mC (.int (3)))) (mC (.int (0))))) (aA (mOp iy (l0 (ae (ac 5) (ae (ac 4) am))) (ac 3)))))
  (d7 3 (l0 (ae (ac 4) (ae (ac 5) am))))
  aZ)
 (aS 2 (mOp fN (ac 2) (mC (.int (3))))))))
 (eY 3))))
def yb:List PV->Res PV:=ba 6 yX
def y2:MS :=
 (au (aS 2 (aq oN (ae (mC (.int (10))) am)))
 (au (aS 3 (fg am))
 (au (dB (b8 (ae (ac 0) am)) (tgN 4)
  (au (jV 3 2 (mOp ef (ac 1) (aq (p1 bU) (ae (ac 2) am))))
 (aS 1 (mOp fN (ac 1) (mOp gc (mC (.int (10))) (ac 4))))))
 (eY 3))))
def ye:List PV->Res PV:=ba 5 y2
def yY:MS :=
 (au (aS 1 (aq (aQ hG) (ae (ac 0) (ae (mC (.int (0))) am))))
 (au (aS 2 (aq (aQ hG) (ae (ac 0) (ae (mC (.int (3))) am))))
 (au (aS 3 (mOp aO (fg (ae (mC (.str "pass")) (ae (mC (.str "paint")) (ae (mC (.str "count")) (ae (mC (.str "far")) (ae (mC (.str "lead")) (ae (mC (.str "grow")) am))))))) (mOp ef (ac 1) (mC (.int (6))))))
 (au (aS 4 (mOp aY (mC (.int (1))) (mOp ef (mOp fN (ac 1) (mC (.int (6)))) (mC (.int (6))))))
 (au (mBr (aA (mOp pEq (ac 3) (mC (.str "pass"))))
  (aS 4 (mOp aY (ac 4) (mC (.int (1)))))
  aZ)
 (au (aS 5 (aq (aQ yb) (ae (ac 4) (ae (aq (aQ hG) (ae (ac 0) (ae (mC (.int (1))) am))) (ae (aq (aQ hG) (ae (ac 0) (ae (mC (.int (2))) am))) am)))))
 (au (aS 6 (mOp aY (ac 4) (mOp ef (mOp fN (ac 2) (mC (.int (2)))) (mC (.int (7))))))
 (au (mBr (aA (mOp pEq (mOp ef (ac 2) (mC (.int (2)))) (mC (.int (1)))))
  (aS 6 (mOp aY (ac 4) (mOp ef (mOp fN (ac 2) (mC (.int (2)))) (mOp uQ (mC (.int (10))) (mC (.int (59)))))))
  aZ)
 (au (aS 7 (a_ [] 1 (cF (iE (ac 5) i4 (jU (mOp gc (ac 4) (mC (.int (1))))))) (tgN 0) cu (mOp aO (ac 0) (mC (.int (0))))))
 (au (aS 8 (aq (aQ ye) (ae (ac 4) (ae (ac 2) am))))
 (au (eV 5) (au (eV 7) (au (eV 8) (tZ 0 9 [(ac 3),(ac 4),(ac 5),(ac 7),(ac 8)] (mOp ef (ac 2) (ac 4)) (ac 6)))))))))))))))
def yc:List PV->Res PV:=ba 10 yY
def iT:MS :=
 (au (gj 0 0 (ac 1))
 (au (gj 0 7 (ac 2))
 (gj 0 8 (ac 3))))
def gu:List PV->Res PV:=i_ 4 iT
def zt:MS :=
 (au (mBr ((fH (aA (mOp pLt (ac 1) (mC (.int (2))))) (aA (mOp pGt (ac 1) (mC (.int (20)))))))
  (bj 2 (ae (mC (.str "the number of machines is out of bounds")) am))
  aZ)
 (au (mBr (aA (mOp pLt (ac 2) (ac 1)))
  (bj 2 (ae (mC (.str "the span is less than the size")) am))
  aZ)
 (ib gu (ae (ac 1) (ae (ac 2) (ae (mC (.bl false)) am))))))
def yv:List PV->Res PV:=i_ 3 zt
def Ev:MS :=
 (au (mBr (aA (mOp pGt (aq (p1 bU) (ae (ac 0) am)) (mC (.int (9)))))
  (bj 2 (ae (mC (.str "there are more than nine parents")) am))
  aZ)
 (dB (u8 (ac 0)) (tgT 2 (bO (tgN 1) (bO (tgN 2) g7)))
  (mBr ((fH (aA (mOp pLt (ac 2) (mC (.int (0))))) (aA (mOp pGe (ac 2) (ac 1)))))
  (bj 2 (ae (mC (.str "a parent is no machine of a lower number than its kid")) am))
  aZ)))
def DX:List PV->Res PV:=ba 3 Ev
def qT:MS :=
 (ib gu (ae (ac 1) (ae (ac 2) (ae (mC (.bl false)) am))))
def mJ:List PV->Res PV:=i_ 3 qT
def Et:MS :=
 (au (iG (aq (aQ DX) (ae (ac 1) am)))
 (au (gj 0 11 (aq (p1 eB) (ae (ac 1) am)))
 (ib mJ (ae (mOp aY (aq (p1 bU) (ae (ac 1) am)) (mC (.int (1)))) (ae (mOp aY (aq (p1 bU) (ae (ac 1) am)) (mC (.int (2)))) am)))))
def DV:List PV->Res PV:=i_ 2 Et
def zc:MS :=
 (mBr ((fH (aA (mOp pLt (ac 0) (ac 1))) (aA (mOp pGt (ac 0) (mC (.int (10)))))))
  (bj 1 (ae (mC (.str "the number of machines is out of bounds")) am))
  aZ)
def yk:List PV->Res PV:=ba 2 zc
def zz:MS :=
 (au (aS 2 (fg am))
 (au (dB (fG (ac 1)) (tgN 3)
  (au (aS 4 (l0 (ae (aq (p1 (gd fY)) (ae (ac 3) am)) (ae (aq (p1 (gd jS)) (ae (ac 3) am)) am))))
 (au (mBr ((fH (aA (mOp pLt (mOp aO (ac 4) (mC (.int (0)))) (mC (.int (0))))) (aA (mOp pGe (mOp aO (ac 4) (mC (.int (1)))) (ac 0)))))
  (bj 1 (ae (mC (.str "a way has a number that is no machine")) am))
  aZ)
 (au (mBr (aA (mOp pEq (mOp aO (ac 4) (mC (.int (0)))) (mOp aO (ac 4) (mC (.int (1))))))
  (bj 1 (ae (mC (.str "a way has twice the same machine")) am))
  aZ)
 (au (mBr (aA (mOp pIn (ac 4) (ac 2)))
  (bj 1 (ae (mC (.str "a way is told twice")) am))
  aZ)
 (d7 2 (ac 4)))))))
 (bz (aq (p1 eK) (ae (ac 2) am)))))
def yA:List PV->Res PV:=ba 5 zz
def y_:MS :=
 (au (aS 2 (a_ [1] 1 (cF (ac 0)) (tgN 1) (aA (mOp pEq (mOp aO (ac 1) (mC (.int (1)))) (ac 0))) (mOp aO (ac 1) (mC (.int (0))))))
 (au (aS 3 (a_ [1] 1 (cF (ac 0)) (tgN 1) (aA (mOp pEq (mOp aO (ac 1) (mC (.int (0)))) (ac 0))) (mOp aO (ac 1) (mC (.int (1))))))
 (bz (aq (p1 eK) (ae (mOp aY (ac 2) (ac 3)) am)))))
def t8:List PV->Res PV:=ba 4 y_
def qS:MS :=
 (bz (aq (p1 bT) (ae (mOp aO (mUn (ao 2) (ac 0)) (ac 1)) am)))
def t9:List PV->Res PV:=ba 2 qS
def bG:Nat->Option (List PV->Res PV)
 | 8=>some t9
 | _=>none
def y0:MS :=
 (au (aS 2 (a_ [0] 1 (b8 (ae (mUn (ao 0) (ac 0)) am)) (tgN 1) cu (mUn (ao 0) (ac 0))))
 (au (jq 2 (ac 1) (mC (.int (0))))
 (au (dB (b8 (ae (mUn (ao 0) (ac 0)) am)) (tgN 3)
  (dB (b8 (ae (mUn (ao 0) (ac 0)) am)) (tgN 4)
  (mBr (aA (mOp pEq (mOp aO (ac 2) (ac 4)) (ac 3)))
  (dB (fG (bI bG (ac 0) (ae (ac 4) am))) (tgN 5)
  (jq 2 (ac 5) (aq (gL min) (ae (mOp aO (ac 2) (ac 5)) (ae (mOp aY (ac 3) (mC (.int (1)))) am)))))
  aZ)))
 (eY 2))))
def t7:List PV->Res PV:=ba 6 y0
def yZ:MS :=
 (au (iG (aq (aQ yk) (ae (ac 1) (ae (mC (.int (1))) am))))
 (au (gj 0 0 (ac 1))
 (au (gj 0 1 (aq (p1 eB) (ae (aq (aQ yA) (ae (ac 1) (ae (ac 2) am))) am)))
 (au (gj 0 2 (aq (p1 eB) (ae (a_ [0] 1 (b8 (ae (ac 1) am)) (tgN 1) cu (aq (p1 eB) (ae (aq (aQ t8) (ae (mUn (ao 1) (ac 0)) (ae (ac 1) am))) am))) am)))
 (mBr (aA (mOp pEq (aq (p1 (gd jS)) (ae (aq (aQ t7) (ae (ac 0) (ae (mC (.int (0))) am))) am)) (ac 1)))
  (bj 1 (ae (mC (.str "not every machine can be come to from machine 0")) am))
  aZ)))))
def yd:List PV->Res PV:=i_ 3 yZ
def zd:MS :=
 (mBr ((fH (aA (mOp pLt (ac 0) (mC (.int (1))))) (aA (mOp pGt (ac 0) (mC (.int (10)))))))
  (bj 2 (ae (mC (.str "the stretch or the number of blocks is out of bounds")) am))
  aZ)
def t_:List PV->Res PV:=ba 1 zd
def zn:MS :=
 (au (mBr (aA (mOp pNe (aq (p1 bU) (ae (ac 1) am)) (mUn (ao 0) (ac 0))))
  (bj 2 (ae (mC (.str "there are not as many starts as machines")) am))
  aZ)
 (dB (fG (ac 1)) (tgN 3)
  (mBr ((g8 (aA (mOp jd (ac 3) (mC .non))) ((fH (aA (mOp pLt (ac 3) (mC (.int (0))))) (aA (mOp pGe (ac 3) (ac 2)))))))
  (bj 2 (ae (mC (.str "a start is out of bounds")) am))
  aZ)))
def yr:List PV->Res PV:=ba 4 zn
def Ew:MS :=
 (au (iG (aq (aQ t_) (ae (ac 3) am)))
 (au (iG (aq (aQ t_) (ae (ac 4) am)))
 (au (gj 0 3 (mOp dG (ac 3) (ac 4)))
 (au (iG (aq (aQ yr) (ae (ac 1) (ae (ac 2) (ae (mUn (ao 3) (ac 0)) am)))))
 (au (eV 1) (au (gj 0 4 (ac 1))
 (au (gj 0 5 (aq (p1 eB) (ae (ac 2) am)))
 (au (gj 0 6 (ac 3))
 (ib gu (ae (mUn (ao 0) (ac 1)) (ae (mOp aY (mUn (ao 3) (ac 0)) (mC (.int (1)))) (ae (mC (.bl true)) am))))))))))))
def vq:List PV->Res PV:=i_ 5 Ew
def zk:MS :=
 (au (mBr ((fH (aA (mOp pLt (ac 2) (mC (.int (0))))) (aA (mOp pGe (ac 2) (mUn (ao 0) (ac 1))))))
  (bj 2 (ae (mC (.str "the root is no machine")) am))
  aZ)
 (au (aS 3 (a_ [2] 1 (b8 (ae (mUn (ao 0) (ac 1)) am)) (tgN 1) cu (xJ (aA (mOp pEq (ac 1) (ac 0))) (mC (.int (0))) (mC .non))))
 (au (eV 3) (au (eV 1) (ib vq (ae (ac 1) (ae (ac 3) (ae (mUn (ao 0) (ac 1)) (ae (mC (.int (1))) am)))))))))
def qB:List PV->Res PV:=i_ 4 zk
def Er:MS :=
 (au (eV 1) (au (gj 0 9 (ju 5 qB (ae (ac 1) (ae (ac 2) am))))
 (au (gj 0 4 (ac 1))
 (au (gj 0 10 (ac 2))
 (ib gu (ae (mUn (ao 0) (ac 1)) (ae (mOp dG (mOp aY (mUn (ao 0) (ac 1)) (mC (.int (1)))) (mOp aY (mUn (ao 0) (ac 1)) (mC (.int (1))))) (ae (mC (.bl true)) am))))))))
def Bf:List PV->Res PV:=i_ 3 Er
def zj:MS :=
 (au (mBr (aA (mOp pNe (aq (p1 bU) (ae (ac 1) am)) (mUn (ao 0) (ac 0))))
  (bj 2 (ae (mC (.str "there are not as many names as machines")) am))
  aZ)
 (au (mBr (aA (mOp pNe (mUn iZ (ac 1)) (aq (p1 bU) (ae (ac 1) am))))
  (bj 2 (ae (mC (.str "two machines have the same name")) am))
  aZ)
 (dB (fG (ac 1)) (tgN 2)
  (mBr ((fH (aA (mOp pLt (ac 2) (mC (.int (0))))) (aA (mOp pGt (ac 2) (mC (.int (9)))))))
  (bj 2 (ae (mC (.str "a name is out of bounds")) am))
  aZ))))
def yq:List PV->Res PV:=ba 3 zj
def zy:MS :=
 (au (eV 1) (au (iG (aq (aQ yq) (ae (ac 1) (ae (ac 2) am))))
 (au (aS 3 (a_ [1] 1 (cF (ac 2)) (tgN 1) cu (mOp dG (mOp gc (mC (.int (9))) (ac 1)) (mUn (ao 0) (ac 0)))))
 (au (eV 3) (ib vq (ae (ac 1) (ae (ac 3) (ae (mUn (ao 0) (ac 1)) (ae (mC (.int (10))) am)))))))))
def ub:List PV->Res PV:=i_ 4 zy
def y9:MS :=
 (au (aS 2 (mOp gc (mOp gc (mUn (dO 0 1) (ac 1)) (mC (.int (1)))) (mUn (dO 0 5) (ac 1))))
 (bz (fg (ae (ju 6 ub (ae (ac 0) (ae (a_ [] 1 (cF (mUn (dO 0 4) (ac 1))) (tgN 0) cu (mOp gc (mC (.int (9))) (ac 0))) am))) (ae (ju 5 qB (ae (ac 0) (ae (ac 2) am))) (ae (ju 7 Bf (ae (ac 0) (ae (ac 2) am))) am))))))
def n8:List PV->Res PV:=ba 3 y9
def Ez:MS :=
 (au (eV 1) (au (gj 0 4 (ac 1))
 (ib mJ (ae (mUn (ao 0) (ac 1)) (ae (mUn (ao 0) (ac 1)) am)))))
def D1:List PV->Res PV:=i_ 2 Ez
def qR:MS :=
 (au (aS 1 (mUn (dO 0 0) (ac 0)))
 (au (mBr (aA (mOp pEq (ac 1) (mC (.str "pass"))))
  (bz (ju 9 yv (ae (mUn (dO 0 1) (ac 0)) (ae (mUn (dO 0 6) (ac 0)) am))))
  aZ)
 (au (mBr (aA (mOp pEq (ac 1) (mC (.str "count"))))
  (bz (ju 3 DV (ae (aq (p1 bT) (ae (mUn (dO 0 3) (ac 0)) am)) am)))
  aZ)
 (au (aS 2 (ju 8 yd (ae (mUn (dO 0 1) (ac 0)) (ae (aq (p1 bT) (ae (mUn (dO 0 2) (ac 0)) am)) am))))
 (au (eV 2) (au (aS 3 (fg am))
 (au (mBr (aA (mOp pEq (mOp ef (mOp aO (mUn (dO 0 4) (ac 0)) (mC (.int (0)))) (mC (.int (2)))) (mC (.int (1)))))
  (aS 3 (aq (aQ n8) (ae (ac 2) (ae (ac 0) am))))
  aZ)
 (au (aS 4 (fg (ae (ju 2 D1 (ae (ac 2) am)) (ae (ju 5 qB (ae (ac 2) (ae (mUn (dO 0 5) (ac 0)) am))) am))))
 (au (eV 4) (au (eV 3) (au (aS 4 (mOp aY (mOp aY (ac 4) (fg (ae (ju 6 ub (ae (ac 2) (ae (aq (p1 bT) (ae (mUn (dO 0 4) (ac 0)) am)) am))) (ae (ju 7 Bf (ae (ac 2) (ae (mUn (dO 0 5) (ac 0)) am))) am)))) (ac 3)))
 (au (eV 4) (au (aS 3 (aq (aQ n8) (ae (ac 2) (ae (ac 0) am))))
 (au (eV 3) (bz (mOp aO (mOp aY (ac 4) (ac 3)) (je iz (fg (ae (mC (.str "paint")) (ae (mC (.str "far")) (ae (mC (.str "lead")) (ae (mC (.str "grow")) am))))) (ac 1))))))))))))))))))
def qA:List PV->Res PV:=ba 5 qR
def zv:MS :=
 (bz (a_ [0] 1 (b8 (ae (ac 1) am)) (tgN 1) cu (mOp gc (mOp ef (aq (aQ hG) (ae (ac 0) (ae (mOp aY (mC (.int (4))) (ac 1)) am))) (mOp dG (mC (.int (2))) (mOp uQ (mC (.int (10))) (mC (.int (59)))))) (mOp uQ (mC (.int (10))) (mC (.int (59)))))))
def yx:List PV->Res PV:=ba 2 zv
def y7:MS :=
 (au (aS 3 (fg am))
 (au (dB (fG (iE (ac 0) (jU (mC (.int (4)))) (jU (mC (.int (204)))))) (tgN 4)
  (mBr (dg (ac 2))
  (d7 3 (fg (ae (mOp ef (mOp fN (ac 4) (mC (.int (5)))) (ac 1)) am)))
  (au (aS 5 (a_ [4] 1 (b8 (ae (ac 1) am)) (tgN 1) (aA (mOp pEq (mOp wT (mOp CP (ac 0) (ac 1)) (mC (.int (1)))) (mC (.int (1))))) (ac 1)))
 (au (mBr (aA (mOp pEq (mOp ef (mOp fN (ac 4) (mC (.int (128)))) (mC (.int (2)))) (mC (.int (1)))))
  (iF 5)
  aZ)
 (au (eV 5) (d7 3 (ac 5)))))))
 (eY 3)))
def yg:List PV->Res PV:=ba 6 y7
def y4:MS :=
 (au (mBr (aA (mOp pNe (aq (p1 bU) (ae (ac 1) am)) (mUn (ao 0) (ac 0))))
  (bj 3 (ae (mC (.str "there are not as many registers as machines")) am))
  aZ)
 (bz (a_ [0] 1 (cF (ac 1)) (tgN 1) cu (mOp ef (ac 1) (mUn (ao 7) (ac 0))))))
def g_:List PV->Res PV:=ba 2 y4
def aF:Nat->Option (List PV->Res PV)
 | 0 | 1 | 2 | 3 | 4 | 5 | 6 | 7 | 9=>some g_
 | _=>none
def ze:MS :=
 (au (mBr ((g8 (dg (mUn (ao 8) (ac 0))) (aA (mOp pGt (aq (p1 bU) (ae (ac 1) am)) (mC (.int (1)))))))
  (bj 4 (ae (mC (.str "a rule that is alone gets one machine at a turn")) am))
  aZ)
 (au (dB (fG (ac 1)) (tgN 2)
  (mBr ((fH (aA (mOp pLt (ac 2) (mC (.int (0))))) (aA (mOp pGe (ac 2) (mUn (ao 0) (ac 0))))))
  (bj 4 (ae (mC (.str "a name is no machine")) am))
  aZ))
 (mBr (aA (mOp pNe (mUn iZ (ac 1)) (aq (p1 bU) (ae (ac 1) am))))
  (bj 4 (ae (mC (.str "a machine is named twice")) am))
  aZ)))
def yn:List PV->Res PV:=ba 3 ze
def G9:MS :=
 (bz (mOp aO (ac 1) (ac 2)))
def ya:List PV->Res PV:=ba 3 G9
def Iw:MS :=
 (bz (fg am))
def G3:List PV->Res PV:=ba 2 Iw
def EJ:MS :=
 (bz (a_ [1] 1 (cF (bI bG (mUn (ao 4) (ac 0)) (ae (ac 1) am))) (tgN 1) (aA (mOp pLt (ac 1) (ac 0))) (ac 1)))
def D7:List PV->Res PV:=ba 2 EJ
def EH:MS :=
 (bz (a_ [1] 2 (A6 (mUn (ao 11) (ac 0))) (tgT 2 (bO (tgN 1) (bO (tgN 2) g7))) (aA (mOp pEq (ac 2) (ac 0))) (ac 1)))
def D5:List PV->Res PV:=ba 2 EH
def bE:Nat->Option (List PV->Res PV)
 | 1=>some G3
 | 2=>some D7
 | 3=>some D5
 | _=>none
def zx:MS :=
 (au (aS 3 (a_ [1] 1 (cF (bI bE (ac 0) (ae (ac 2) am))) (tgN 1) cu (mOp aO (ac 0) (ac 1))))
 (au (aS 4 (mC (.int (0))))
 (au (jp (aA (mOp pIn (ac 4) (ac 3)))
  (aS 4 (mOp aY (ac 4) (mC (.int (1))))))
 (eY 4))))
def yz:List PV->Res PV:=ba 5 zx
def zB:MS :=
 (bz (aq (gL min) (ae (mUn (ao 0) (ac 0)) (ae (mOp aY (mC (.int (1))) (aq (p1 jP) (ae (a_ [1] 1 (cF (bI bE (ac 0) (ae (ac 2) am))) (tgN 1) cu (mOp aO (ac 0) (ac 1))) am))) am))))
def yB:List PV->Res PV:=ba 3 zB
def EK:MS :=
 (bz ((jW (mOp pNe (ac 1) (mUn (ao 3) (ac 0))) (mOp pNe (mOp ef (mOp aY (ac 1) (mC (.int (1)))) (mUn (ao 6) (ac 0))) (mC (.int (0)))))))
def vv:List PV->Res PV:=ba 2 EK
def dz:Nat->Option (List PV->Res PV)
 | 4 | 5 | 6=>some vv
 | _=>none
def zA:MS :=
 (au (aS 3 (a_ [1] 1 (cF (bI bG (mUn (ao 4) (ac 0)) (ae (ac 2) am))) (tgN 1) cu (mOp aO (ac 0) (ac 1))))
 (au (aS 4 (a_ [0] 1 (cF (ac 3)) (tgN 1) (dg (bI dz (ac 0) (ae (ac 1) am))) (mOp aY (ac 1) (mC (.int (1))))))
 (au (mBr (aA (mOp jd (mOp aO (mUn (ao 5) (ac 0)) (ac 2)) (mC .non)))
  (d7 4 (mOp aO (mUn (ao 5) (ac 0)) (ac 2)))
  aZ)
 (bz (aq (p1 (gd fY)) (ae (mOp aY (ac 4) (fg (ae (mUn (ao 3) (ac 0)) am))) am))))))
def n9:List PV->Res PV:=ba 5 zA
def Ex:MS :=
 (bz (a_ [0] 1 (cF (ac 1)) (tgN 1) cu (l0 (ae (mOp fN (ac 1) (mOp aY (mUn (ao 0) (ac 0)) (mC (.int (1))))) (ae (mOp ef (ac 1) (mOp aY (mUn (ao 0) (ac 0)) (mC (.int (1))))) am)))))
def DY:List PV->Res PV:=ba 2 Ex
def eQ:Nat->Option (List PV->Res PV)
 | 7=>some DY
 | _=>none
def zu:MS :=
 (bz (a_ [] 1 (cF (bI eQ (ac 0) (ae (ac 1) am))) (tgN 0) cu (mOp aO (ac 0) (mC (.int (0))))))
def yw:List PV->Res PV:=ba 2 zu
def dI:Nat->Option (List PV->Res PV)
 | 7=>some yw
 | _=>none
def kF:Nat->Option (List PV->Res PV)
 | 5=>some n9
 | _=>none
def EB:MS :=
 (bz (a_ [] 1 (cF (bI eQ (ac 0) (ae (ac 1) am))) (tgN 0) cu (mOp aO (ac 0) (mC (.int (1))))))
def D2:List PV->Res PV:=ba 2 EB
def cN:Nat->Option (List PV->Res PV)
 | 7=>some D2
 | _=>none
def Eu:MS :=
 (au (mBr (aA (mOp pEq (ac 2) (mUn (ao 10) (ac 0))))
  (bz (mC .non))
  aZ)
 (au (aS 3 (a_ [1,2] 1 (cF (bI bG (mUn (ao 4) (ac 0)) (ae (ac 2) am))) (tgN 2) (aA (mOp pEq (mOp aO (ac 0) (ac 2)) (mOp gc (mOp aO (ac 0) (ac 1)) (mC (.int (1)))))) (ac 2)))
 (bz (mUn nS (ac 3)))))
def DW:List PV->Res PV:=ba 4 Eu
def iR:Nat->Option (List PV->Res PV)
 | 7=>some DW
 | _=>none
def EC:MS :=
 (au (aS 2 (bI dI (ac 0) (ae (ac 1) am)))
 (bz (a_ [0,2] 1 (b8 (ae (mUn (ao 0) (ac 0)) am)) (tgN 2) cu (bI iR (ac 0) (ae (ac 1) (ae (ac 2) am))))))
def D3:List PV->Res PV:=ba 3 EC
def gU:Nat->Option (List PV->Res PV)
 | 7=>some D3
 | _=>none
def EI:MS :=
 (au (aS 3 (a_ [2] 2 (jT (ae (bI cN (ac 0) (ae (ac 1) am)) (ae (bI gU (ac 0) (ae (ac 1) am)) am))) (tgT 2 (bO (tgN 1) (bO (tgN 2) g7))) (aA (mOp pEq (ac 2) (ac 0))) (ac 1)))
 (bz (aq (gL min) (ae (mUn (ao 0) (ac 0)) (ae (mOp aY (mC (.int (1))) (aq (p1 jP) (ae (ac 3) am))) am)))))
def D6:List PV->Res PV:=ba 4 EI
def cT:Nat->Option (List PV->Res PV)
 | 7=>some D6
 | _=>none
def zi:MS :=
 (au (aS 3 (bI dI (ac 0) (ae (ac 1) am)))
 (au (aS 4 (bI kF (mUn (ao 9) (ac 0)) (ae (ac 3) (ae (ac 2) am))))
 (au (aS 5 (mOp aO (bI cN (ac 0) (ae (ac 1) am)) (ac 2)))
 (au (mBr (aA (mOp pEq (ac 4) (mOp aO (ac 3) (ac 2))))
  (aS 5 (bI cT (ac 0) (ae (ac 1) (ae (ac 2) am))))
  aZ)
 (bz (mOp aY (mOp dG (ac 4) (mOp aY (mUn (ao 0) (ac 0)) (mC (.int (1))))) (ac 5)))))))
def yp:List PV->Res PV:=ba 6 zi
def zh:MS :=
 (au (mBr (aA (mOp pNe (ac 2) (mC (.int (0)))))
  (bz (mOp aO (ac 1) (mOp gc (ac 2) (mC (.int (1))))))
  aZ)
 (au (mBr (aA (mOp pEq (mOp aO (ac 1) (mC (.int (0)))) (mOp aO (ac 1) (mOp gc (mUn (ao 0) (ac 0)) (mC (.int (1)))))))
  (bz (mOp ef (mOp aY (mOp aO (ac 1) (mC (.int (0)))) (mC (.int (1)))) (mUn (ao 7) (ac 0))))
  aZ)
 (bz (mOp aO (ac 1) (mC (.int (0)))))))
def yo:List PV->Res PV:=ba 3 zh
def aE:Nat->Option (List PV->Res PV)
 | 0 | 1=>some ya
 | 2=>some yz
 | 3=>some yB
 | 4 | 5 | 6=>some n9
 | 7=>some yp
 | 9=>some yo
 | _=>none
def zg:MS :=
 (au (iG (aq (aQ yn) (ae (ac 0) (ae (ac 2) am))))
 (bz (a_ [2,0,1] 1 (b8 (ae (mUn (ao 0) (ac 0)) am)) (tgN 3) cu (xJ (aA (mOp pIn (ac 3) (ac 0))) (bI aE (ac 1) (ae (ac 2) (ae (ac 3) am))) (mOp aO (ac 2) (ac 3))))))
def hV:List PV->Res PV:=ba 3 zg
def aH:Nat->Option (List PV->Res PV)
 | 0 | 1 | 2 | 3 | 4 | 5 | 6 | 7 | 9=>some hV
 | _=>none
def za:MS :=
 (bz (a_ [0,1] 1 (b8 (ae (mUn (ao 0) (ac 0)) am)) (tgN 2) (aA (mOp pNe (bI aE (ac 0) (ae (ac 1) (ae (ac 2) am))) (mOp aO (ac 1) (ac 2)))) (ac 2)))
def gw:List PV->Res PV:=ba 2 za
def ar:Nat->Option (List PV->Res PV)
 | 0 | 1 | 2 | 3 | 4 | 5 | 6 | 7 | 9=>some gw
 | _=>none
def yW:MS :=
 (au (aS 3 (bI aH (ac 0) (ae (ac 1) (ae (ac 2) am))))
 (au (aS 4 (a_ [2] 1 (cF (bI ar (ac 0) (ae (ac 1) am))) (tgN 1) (aA (mOp pIn (ac 1) (ac 0))) (ac 1)))
 (sg 4 3)))
def qz:List PV->Res PV:=ba 5 yW
def zE:MS :=
 (au (aS 3 (bI aF (ac 0) (ae (ac 1) am)))
 (au (aS 4 (fg am))
 (au (eV 2) (au (tW (fG (ac 2)) 4 3 5 (aq (aQ qz) (ae (ac 0) (ae (ac 3) (ae (ac 5) am)))))
 (eY 4)))))
def yD:List PV->Res PV:=ba 6 zE
def G_:MS :=
 (bj 5 (ae (mC (.str "this rule has no measure")) am))
def BY:List PV->Res PV:=ba 1 G_
def yV:MS :=
 (au (aS 2 (mC (.int (1))))
 (au (dB (b8 (ae (ac 1) am)) (tgN 3)
  (aS 2 (mOp dG (ac 2) (ac 0))))
 (eY 2)))
def kU:List PV->Res PV:=ba 4 yV
def zo:MS :=
 (bz (mOp gc (aq (aQ kU) (ae (mC (.int (2))) (ae (mUn (ao 0) (ac 0)) am))) (mC (.int (1)))))
def qC:List PV->Res PV:=ba 1 zo
def EA:MS :=
 (bz (mOp gc (aq (aQ kU) (ae (mOp aY (mUn (ao 0) (ac 0)) (mC (.int (1)))) (ae (mOp dG (mC (.int (2))) (mUn (ao 3) (ac 0))) am))) (mC (.int (1)))))
def vt:List PV->Res PV:=ba 1 EA
def jx:Nat->Option (List PV->Res PV)
 | 5=>some vt
 | _=>none
def zq:MS :=
 (bz (mOp gc (mOp dG (mOp aY (bI jx (mUn (ao 9) (ac 0)) am) (mC (.int (1)))) (aq (aQ kU) (ae (mC (.int (2))) (ae (mUn (ao 0) (ac 0)) am)))) (mC (.int (1)))))
def yt:List PV->Res PV:=ba 1 zq
def zr:MS :=
 (bz (mOp fN (mOp dG (mOp dG (mC (.int (3))) (mUn (ao 0) (ac 0))) (mOp gc (mUn (ao 0) (ac 0)) (mC (.int (1))))) (mC (.int (2)))))
def yu:List PV->Res PV:=ba 1 zr
def aG:Nat->Option (List PV->Res PV)
 | 0=>some BY
 | 1 | 2 | 3=>some qC
 | 4 | 5 | 6=>some vt
 | 7=>some yt
 | 9=>some yu
 | _=>none
def Ha:MS :=
 (bj 5 (ae (mC (.str "this rule has no measure")) am))
def BZ:List PV->Res PV:=ba 2 Ha
def Hb:MS :=
 (bz (mC (.int (0))))
def B0:List PV->Res PV:=ba 2 Hb
def Es:MS :=
 (bz (mOp gc (mOp gc (mUn (ao 0) (ac 0)) (mC (.int (1)))) (ac 1)))
def DU:List PV->Res PV:=ba 2 Es
def G8:MS :=
 (eY 1)
def D0:List PV->Res PV:=ba 2 G8
def dh:Nat->Option (List PV->Res PV)
 | 1=>some B0
 | 2=>some DU
 | 3=>some D0
 | _=>none
def EF:MS :=
 (bz (aq (p1 jP) (ae (a_ [0] 1 (cF (bI ar (ac 0) (ae (ac 1) am))) (tgN 1) cu (aq (aQ kU) (ae (mC (.int (2))) (ae (bI dh (ac 0) (ae (ac 1) am)) am)))) am)))
def x_:List PV->Res PV:=ba 2 EF
def EG:MS :=
 (au (aS 2 (a_ [0,1] 1 (b8 (ae (mUn (ao 0) (ac 0)) am)) (tgN 2) cu (bI aE (ac 0) (ae (ac 1) (ae (ac 2) am)))))
 (au (aS 3 (mOp aY (mUn (ao 0) (ac 0)) (mC (.int (1)))))
 (au (aS 4 (mC (.int (0))))
 (au (dB (b8 (ae (mUn (ao 3) (ac 0)) am)) (tgN 5)
  (au (aS 6 (a_ [5] 2 (jT (ae (ac 1) (ae (ac 2) am))) (tgT 2 (bO (tgN 1) (bO (tgN 2) g7))) ((g8 (aA (mOp pEq (ac 1) (ac 0))) (aA (mOp pGt (ac 2) (ac 0))))) (ac 1)))
 (au (aS 7 (a_ [5] 2 (jT (ae (ac 1) (ae (ac 2) am))) (tgT 2 (bO (tgN 1) (bO (tgN 2) g7))) ((g8 (aA (mOp pGt (ac 1) (ac 0))) (aA (mOp pEq (ac 2) (ac 0))))) (ac 1)))
 (aS 4 (mOp aY (mOp dG (mOp aY (mOp dG (ac 4) (ac 3)) (aq (p1 bU) (ae (ac 6) am))) (ac 3)) (aq (p1 bU) (ae (ac 7) am)))))))
 (eY 4)))))
def sD:List PV->Res PV:=ba 8 EG
def zb:MS :=
 (au (aS 2 (a_ [0,1] 1 (b8 (ae (aq (p1 bU) (ae (ac 0) am)) am)) (tgN 2) (aA (mOp wS (l0 (ae (mOp aO (ac 0) (ac 2)) (ae (ac 2) am))) (l0 (ae (mOp aO (ac 0) (ac 1)) (ae (ac 1) am))))) (ac 2)))
 (bz (aq (p1 bU) (ae (ac 2) am))))
def yh:List PV->Res PV:=ba 3 zb
def fZ:Nat->Option (List PV->Res PV)
 | 5=>some sD
 | _=>none
def ED:MS :=
 (au (aS 2 (bI dI (ac 0) (ae (ac 1) am)))
 (au (aS 3 (bI cN (ac 0) (ae (ac 1) am)))
 (au (aS 4 (a_ [3,0,1] 1 (b8 (ae (mUn (ao 0) (ac 0)) am)) (tgN 3) (aA (mOp pNe (mOp aO (ac 0) (ac 3)) (bI cT (ac 1) (ae (ac 2) (ae (ac 3) am))))) (ac 3)))
 (au (aS 5 (a_ [2] 1 (cF (ac 4)) (tgN 1) cu (aq (aQ kU) (ae (mC (.int (2))) (ae (aq (aQ yh) (ae (ac 0) (ae (ac 1) am))) am)))))
 (bz (mOp aY (mOp dG (bI fZ (mUn (ao 9) (ac 0)) (ae (ac 2) am)) (aq (aQ kU) (ae (mC (.int (2))) (ae (mUn (ao 0) (ac 0)) am)))) (aq (p1 jP) (ae (ac 5) am))))))))
def D4:List PV->Res PV:=ba 6 ED
def y6:MS :=
 (au (aS 1 (mC (.int (1))))
 (au (jp ((g8 (aA (mOp pLt (ac 1) (aq (p1 bU) (ae (ac 0) am)))) (aA (mOp pEq (mOp aO (ac 0) (ac 1)) (mOp aO (ac 0) (mC (.int (0))))))))
  (aS 1 (mOp aY (ac 1) (mC (.int (1))))))
 (eY 1)))
def yf:List PV->Res PV:=ba 2 y6
def Ey:MS :=
 (au (mBr (aA (mOp iy (mOp aO (ac 0) (mC (.int (0)))) (iE (ac 0) (jU (aq (aQ yf) (ae (ac 0) am))) i4)))
  (bz (mC (.int (0))))
  aZ)
 (au (aS 2 (mC (.int (1))))
 (au (jp (aA (mOp pIn (mOp ef (mOp aY (mOp aO (ac 0) (mC (.int (0)))) (ac 2)) (ac 1)) (iE (ac 0) (jU (mC (.int (1)))) i4)))
  (aS 2 (mOp aY (ac 2) (mC (.int (1))))))
 (eY 2))))
def DZ:List PV->Res PV:=ba 3 Ey
def EE:MS :=
 (au (aS 2 (a_ [0] 1 (cF (bI ar (ac 0) (ae (ac 1) am))) (tgN 1) (aA (mOp pNe (ac 1) (mC (.int (0))))) (mOp gc (mUn (ao 0) (ac 0)) (ac 1))))
 (bz (mOp aY (mOp dG (mUn (ao 0) (ac 0)) (aq (aQ DZ) (ae (ac 1) (ae (mUn (ao 7) (ac 0)) am)))) (aq (p1 jP) (ae (ac 2) am)))))
def x9:List PV->Res PV:=ba 3 EE
def aB:Nat->Option (List PV->Res PV)
 | 0=>some BZ
 | 1 | 2 | 3=>some x_
 | 4 | 5 | 6=>some sD
 | 7=>some D4
 | 9=>some x9
 | _=>none
def y3:MS :=
 (bz ((jW (lC (ac 0) "int") (tX (lC (ac 0) "bool")))))
def mI:List PV->Res PV:=ba 1 y3
def zD:MS :=
 (au (mBr ((fH (fQ (dg (lC (ac 2) "tuple"))) (fH (aA (mOp pNe (aq (p1 bU) (ae (ac 2) am)) (mC (.int (2))))) (fH (fQ (dg (lC (mOp aO (ac 2) (mC (.int (0)))) "list"))) (fQ (dg (lC (mOp aO (ac 2) (mC (.int (1)))) "list")))))))
  (bz (mC (.bl false)))
  aZ)
 (au (mBr ((fH (aA (mOp pNe (aq (p1 bU) (ae (mOp aO (ac 2) (mC (.int (1)))) am)) (ac 3))) (aA (mOp pNe (aq (p1 eK) (ae (mOp aO (ac 2) (mC (.int (0)))) am)) (mOp aO (ac 2) (mC (.int (0))))))))
  (bz (mC (.bl false)))
  aZ)
 (au (dB (fG (mOp aO (ac 2) (mC (.int (0))))) (tgN 4)
  (mBr ((fH (fQ (dg (aq (aQ mI) (ae (ac 4) am)))) (fH (aA (mOp iy (ac 4) (ac 1))) (aA (mOp pNe (je jo (mOp aO (ac 2) (mC (.int (0)))) (ac 4)) (mC (.int (1))))))))
  (bz (mC (.bl false)))
  aZ))
 (au (dB (b8 (ae (ac 3) am)) (tgN 4)
  (mBr ((fH (fQ (dg (aq (aQ mI) (ae (mOp aO (mOp aO (ac 2) (mC (.int (1)))) (ac 4)) am)))) (aA (mOp pNe (mOp pNe (mOp aO (mOp aO (ac 2) (mC (.int (1)))) (ac 4)) (mOp aO (ac 0) (ac 4))) (mOp pIn (ac 4) (mOp aO (ac 2) (mC (.int (0)))))))))
  (bz (mC (.bl false)))
  aZ))
 (bz (mC (.bl true)))))))
def yC:List PV->Res PV:=ba 5 zD
def y8:MS :=
 (bz (mOp pEq (aq (p1 bU) (ae (bI ar (ac 0) (ae (ac 1) am)) am)) (mC (.int (0)))))
def iN:List PV->Res PV:=ba 2 y8
def zw:MS :=
 (bz (mOp pEq (aq (p1 bU) (ae (bI ar (ac 0) (ae (ac 1) am)) am)) (mC (.int (1)))))
def ua:List PV->Res PV:=ba 2 zw
def aC:Nat->Option (List PV->Res PV)
 | 0 | 1 | 2 | 3 | 4 | 5 | 6 | 7=>some iN
 | 9=>some ua
 | _=>none
def zF:MS :=
 (au (aS 1 (aq (aQ yc) (ae (ac 0) am)))
 (au (aS 2 (mUn (dO 0 1) (ac 1)))
 (au (aS 3 (aq (aQ qA) (ae (ac 1) am)))
 (au (aS 4 (aq (aQ yx) (ae (ac 0) (ae (ac 2) am))))
 (au (aS 5 (aq (aQ yg) (ae (ac 0) (ae (ac 2) (ae (mOp pIn (mUn (dO 0 0) (ac 1)) (fg (ae (mC (.str "far")) (ae (mC (.str "lead")) (ae (mC (.str "grow")) am))))) am)))))
 (au (eV 5) (au (aS 6 (aq (aQ yD) (ae (ac 3) (ae (aq (p1 bT) (ae (ac 4) am)) (ae (a_ [] 1 (cF (ac 5)) (tgN 0) cu (aq (p1 bT) (ae (ac 0) am))) am)))))
 (au (eV 6) (au (mBr ((fH (fQ (dg (lC (ac 6) "list"))) (aA (mOp pNe (aq (p1 bU) (ae (ac 6) am)) (aq (p1 bU) (ae (ac 5) am))))))
  (bz (mC (.bl false)))
  aZ)
 (au (aS 7 (bI aF (ac 3) (ae (aq (p1 bT) (ae (ac 4) am)) am)))
 (au (aS 8 (bI aG (ac 3) am))
 (au (aS 9 (bI aB (ac 3) (ae (aq (p1 bT) (ae (ac 7) am)) am)))
 (au (dB (tV (ae (ac 5) (ae (ac 6) am))) (tgT 2 (bO (tgN 10) (bO (tgN 11) g7)))
  (au (mBr (fQ (dg (aq (aQ yC) (ae (ac 7) (ae (ac 10) (ae (ac 11) (ae (ac 2) am)))))))
  (bz (mC (.bl false)))
  aZ)
 (au (aS 12 (bI aB (ac 3) (ae (aq (p1 bT) (ae (mOp aO (ac 11) (mC (.int (1)))) am)) am)))
 (au (mBr ((fH (fQ (dg (aq (aQ mI) (ae (ac 9) am)))) (fQ (aA (iH (di fun i j=>.bl (decide (i <= j))) (di fun i j=>.bl (decide (i <= j))) (mC (.int (0))) (ac 9) (ac 8))))))
  (bz (mC (.bl false)))
  aZ)
 (au (aS 13 (bI aC (ac 3) (ae (aq (p1 bT) (ae (ac 7) am)) am)))
 (au (mBr ((g8 (fQ (dg (ac 13))) ((fH (aA (mOp pEq (bI ar (ac 3) (ae (aq (p1 bT) (ae (ac 7) am)) am)) (fg am))) ((g8 (aA (mOp pNe (mOp aO (ac 11) (mC (.int (0)))) (fg am))) (aA (mOp pGe (ac 12) (ac 9)))))))))
  (bz (mC (.bl false)))
  aZ)
 (au (mBr ((g8 (dg (ac 13)) (fQ (dg (bI aC (ac 3) (ae (aq (p1 bT) (ae (mOp aO (ac 11) (mC (.int (1)))) am)) am))))))
  (bz (mC (.bl false)))
  aZ)
 (au (aS 7 (mOp aO (ac 11) (mC (.int (1)))))
 (aS 9 (ac 12))))))))))
 (bz ((jW (aq (aQ mI) (ae (ac 9) am)) (jW (iH (di fun i j=>.bl (decide (i<=j))) (di fun i j=>.bl (decide (i<=j))) (mC (.int (0))) (ac 9) (ac 8)) (jW (mOp pEq (bI aG (ac 3) am) (ac 8)) (aq (aQ mI) (ae (ac 8) am))))))))))))))))))))
def B1:List PV->Res PV:=ba 14 zF
end G
namespace G
open PySem L2 PR
def top(i:Nat):Stmt:=PySem.Challenge.pw_calmring_k49_whole_falls_whoever_is_give.main.body.getD i (.Pass ⟨0,0,0,0⟩)
def tF(q:Str)(i k:Nat)(N:List Str):FS:=⟨q,top i,k,N,none⟩
def tM(c:Nat)(q:Str)(i j k:Nat)(N:List Str):FS:=⟨q,Bb (top i) j,k,N,some c⟩
def mE(c:Nat)(n:Str)(i:Nat):Nat×Str×Nat:=(c,n,i)
noncomputable def pt:PT:={
 F:=[tF "_law_cell_at" 51 2 ["_law_script", "_law_k"],
  tF "_law_ways" 52 3 ["_law_size", "_law_ties", "_law_more", "_law_ways_here", "_law_at", "_law_other"],
  tF "_law_names" 53 2 ["_law_size", "_law_cell", "_law_pool", "_law_names_here", "_law_k"],
  tF "_law_told" 54 1 ["_law_script", "_law_first", "_law_third", "_law_kind", "_law_size", "_law_ways_here", "_law_span", "_law_parents", "_law_names_here", "_law_told_here"],
  tM 0 "Rule.__init__" 20 0 4 ["self", "size", "span", "alone"],
  tM 9 "PassRule.__init__" 25 0 3 ["self", "size", "span"],
  tF "refuse_parents" 35 1 ["parents", "kid", "parent"],
  tM 1 "DownRule.__init__" 32 0 3 ["self", "size", "span"],
  tM 3 "CountRule.__init__" 34 0 2 ["self", "parents"],
  tF "refuse_size" 16 2 ["size", "least"],
  tF "ordered_pairs" 17 2 ["size", "ways", "pairs", "way", "pair"],
  tF "neighbours" 18 2 ["pairs", "at", "lower", "higher"],
  tM 8 "Net.beside" 14 1 2 ["self", "at"],
  tF "far_from" 15 2 ["net", "root", "far", "steps", "at", "other"],
  tM 8 "Net.__init__" 14 0 3 ["self", "size", "ways"],
  tF "refuse_part" 43 1 ["part"],
  tF "refuse_starts" 44 3 ["net", "starts", "top", "start"],
  tM 4 "LeastRule.__init__" 40 0 5 ["self", "net", "starts", "stretch", "blocks"],
  tM 5 "FarRule.__init__" 41 0 3 ["self", "net", "root", "starts"],
  tM 7 "GrowRule.__init__" 47 0 3 ["self", "net", "root"],
  tF "refuse_names" 45 2 ["net", "names", "name"],
  tM 6 "LeadRule.__init__" 42 0 3 ["self", "net", "names", "starts"],
  tF "_law_others" 55 2 ["_law_net", "_law_told_here", "_law_other"],
  tM 2 "PaintRule.__init__" 33 0 2 ["self", "net"],
  tF "_law_rule" 56 1 ["_law_told_here", "_law_kind", "_law_net", "_law_others_here", "_law_rules"],
  tF "_law_registers" 57 2 ["_law_script", "_law_size"],
  tF "_law_turns" 58 3 ["_law_script", "_law_size", "_law_alone", "_law_turns_here", "_law_cell", "_law_named"],
  tM 0 "Rule.read" 20 1 2 ["self", "registers"],
  tF "refuse_turn" 21 2 ["rule", "named", "at"],
  tM 0 "Rule.due" 20 2 3 ["self", "cells", "at"],
  tM 1 "DownRule.hangs_on" 32 1 2 ["self", "at"],
  tM 2 "PaintRule.hangs_on" 33 1 2 ["self", "at"],
  tM 3 "CountRule.hangs_on" 34 1 2 ["self", "at"],
  tM 2 "PaintRule.due" 33 3 3 ["self", "cells", "at", "taken", "colour"],
  tM 3 "CountRule.due" 34 3 3 ["self", "cells", "at"],
  tM 4 "LeastRule.has_offer" 40 2 2 ["self", "cell"],
  tM 4 "LeastRule.due" 40 1 3 ["self", "cells", "at", "near", "offers"],
  tM 7 "GrowRule.parts" 47 1 2 ["self", "cells"],
  tM 7 "GrowRule.fars" 47 6 2 ["self", "cells"],
  tM 7 "GrowRule.counts" 47 7 2 ["self", "cells"],
  tM 7 "GrowRule.elder" 47 8 3 ["self", "fars", "at", "nearer"],
  tM 7 "GrowRule.elders" 47 2 2 ["self", "cells", "fars"],
  tM 7 "GrowRule.due_count" 47 9 3 ["self", "cells", "at", "kids"],
  tM 7 "GrowRule.due" 47 3 3 ["self", "cells", "at", "fars", "due_far", "count"],
  tM 9 "PassRule.due" 25 1 3 ["self", "cells", "at"],
  tM 0 "Rule.turned" 20 5 3 ["self", "cells", "named"],
  tM 0 "Rule.movers" 20 3 2 ["self", "cells"],
  tF "row_of" 3 3 ["rule", "cells", "named", "behind", "done"],
  tF "run" 2 3 ["rule", "registers", "turns", "cells", "rows", "named"],
  tM 0 "Rule.most" 20 7 1 ["self"],
  tF "power" 29 2 ["base", "exponent", "product", "step"],
  tM 1 "DownRule.most" 32 4 1 ["self"],
  tM 4 "LeastRule.most" 40 4 1 ["self"],
  tM 7 "GrowRule.most" 47 5 1 ["self"],
  tM 9 "PassRule.most" 25 4 1 ["self"],
  tM 0 "Rule.measure" 20 6 2 ["self", "cells"],
  tM 1 "DownRule.rank" 32 2 2 ["self", "at"],
  tM 2 "PaintRule.rank" 33 2 2 ["self", "at"],
  tM 3 "CountRule.rank" 34 2 2 ["self", "at"],
  tM 1 "DownRule.measure" 32 3 2 ["self", "cells"],
  tM 4 "LeastRule.measure" 40 3 2 ["self", "cells", "dues", "base", "number", "mark", "rising", "falling"],
  tF "rank_by_far" 48 2 ["fars", "at", "lower"],
  tM 7 "GrowRule.measure" 47 4 2 ["self", "cells", "fars", "counts", "wrong", "weights"],
  tF "beginning" 27 1 ["cells", "length"],
  tF "steps_to_fresh" 26 2 ["cells", "span", "steps"],
  tM 9 "PassRule.measure" 25 3 2 ["self", "cells", "weights"],
  tF "_law_whole" 50 1 ["_law_found"],
  tF "_law_done_well" 59 4 ["_law_cells", "_law_turn", "_law_row", "_law_size", "_law_at"],
  tM 0 "Rule.calm" 20 4 2 ["self", "cells"],
  tM 9 "PassRule.calm" 25 2 2 ["self", "cells"],
  tF "law" 60 1 ["_law_script", "_law_told_here", "_law_size", "_law_rule_here", "_law_registers_here", "_law_turns_here", "_law_rows", "_law_cells", "_law_most", "_law_ahead", "_law_turn", "_law_row", "_law_behind", "_law_calm"]]
 C:=["Rule", "DownRule", "PaintRule", "CountRule", "LeastRule", "FarRule", "LeadRule", "GrowRule", "Net", "PassRule"]
 X:=["CalmError", "BadNet", "BadRule", "BadState", "BadTurn", "NoMeasure"]
 A:=["size", "pairs", "near", "top", "net", "starts", "stretch", "span", "alone", "far_rule", "root", "parents"]
 M:=[mE 8 "beside" 12,mE 0 "read" 27,mE 1 "read" 27,mE 2 "read" 27,mE 3 "read" 27,mE 4 "read" 27,mE 5 "read" 27,mE 6 "read" 27,mE 7 "read" 27,mE 9 "read" 27,mE 1 "hangs_on" 30,mE 2 "hangs_on" 31,mE 3 "hangs_on" 32,mE 4 "has_offer" 35,mE 5 "has_offer" 35,mE 6 "has_offer" 35,mE 7 "parts" 37,mE 7 "fars" 38,mE 5 "due" 36,mE 7 "counts" 39,mE 7 "elder" 40,mE 7 "elders" 41,mE 7 "due_count" 42,mE 0 "due" 29,mE 1 "due" 29,mE 2 "due" 33,mE 3 "due" 34,mE 4 "due" 36,mE 6 "due" 36,mE 7 "due" 43,mE 9 "due" 44,mE 0 "turned" 45,mE 1 "turned" 45,mE 2 "turned" 45,mE 3 "turned" 45,mE 4 "turned" 45,mE 5 "turned" 45,mE 6 "turned" 45,mE 7 "turned" 45,mE 9 "turned" 45,mE 0 "movers" 46,mE 1 "movers" 46,mE 2 "movers" 46,mE 3 "movers" 46,mE 4 "movers" 46,mE 5 "movers" 46,mE 6 "movers" 46,mE 7 "movers" 46,mE 9 "movers" 46,mE 5 "most" 52,mE 0 "most" 49,mE 1 "most" 51,mE 2 "most" 51,mE 3 "most" 51,mE 4 "most" 52,mE 6 "most" 52,mE 7 "most" 53,mE 9 "most" 54,mE 1 "rank" 56,mE 2 "rank" 57,mE 3 "rank" 58,mE 5 "measure" 60,mE 0 "measure" 55,mE 1 "measure" 59,mE 2 "measure" 59,mE 3 "measure" 59,mE 4 "measure" 60,mE 6 "measure" 60,mE 7 "measure" 62,mE 9 "measure" 65,mE 0 "calm" 68,mE 1 "calm" 68,mE 2 "calm" 68,mE 3 "calm" 68,mE 4 "calm" 68,mE 5 "calm" 68,mE 6 "calm" 68,mE 7 "calm" 68,mE 9 "calm" 69]
 Mk:=[(3,8),(5,18),(7,19),(6,21),(8,14),(2,23),(9,5)]
 U:=[(1,7),(4,17),(0,4)]
 B:=["len", "range", "list", "enumerate", "tuple", "max", "min", "sorted", "set", "sum", "zip", "isinstance", "bool", "int"]
 I:=[("LEAST_RING", 2),("GREATEST_RING", 20),("MOST_PARENTS", 9),("GREATEST_NET", 10),("LEAST_NET", 1),("GREATEST_PART", 10),("GREATEST_NAME", 9),("LEAD_BLOCKS", 10)]
 KT:=[]
 HT:=[]
 D:=[["kind", "size", "ways", "parents", "names", "root", "span"]] }
def hA:pt.attOk:=⟨by decide +kernel,by decide +kernel⟩
abbrev T(K:PySem.W.Frag):Tb:=pt.T hA K
section
variable{P:Program}{w:World}{K:PySem.W.Frag}{mg:Str->Option Value}{base:Heap}(t:Tx pt K mg)(hB:K.In base)
include t hB
theorem lV:OkF pt hA P w K mg base 1 0 hG:=okC 0 t fun _ _ _ _ _ _ cx nd =>
 (ah (bf (f7 (sv 1) (bZ cx.hK rfl (t.b 0) (sv 0))) (ak (aJ (bA cx (sv 0) (sv 1) (fun _ _=>rfl)))) aT)
 (ak (aJ (ai))))
theorem C2:OkF pt hA P w K mg base 1 1 yb:=okC 1 t fun _ _ _ _ _ _ cx nd =>
 (ah (bw nd (ik ag))
 (ah (cV cx.po cx.calm (uu rfl (t.b 1) (aa (ai) (aa (sv 0) ag))) (sgN nd) (ah (uy cx (rH (aa (cW (sv 1) (sv 4)) (aa (sv 4) ag))))
 (ak (bw nd (fV (sv 1) (sv 4))))))
 (ah (cV cx.po cx.calm (dL rfl (t.b 1) (aa (sv 0) ag)) (sgN nd) (ak (cV cx.po cx.calm (dL rfl (t.b 1) (aa (sv 4) ag)) (sgN nd) (ah (bf (SW.st (gC (cY cx.hK cx.hu (cW (sv 2) (ai)) (ai)) (e_ (lD cx.hK cx.hu2 (rH (aa (sv 5) (aa (sv 4) ag))) (sv 3))))) (ak (uy cx (rH (aa (sv 4) (aa (sv 5) ag))))) aT)
 (ak (bw nd (fV (sv 2) (ai))))))))
 (ak (dQ rfl (Or.inl rfl))))))
theorem C7:OkF pt hA P w K mg base 1 2 ye:=okC 2 t fun _ _ _ _ _ _ cx nd =>
 (ah (bw nd (uw cx.calm rfl (t.b 2) cA rfl (t.b 1) (aa (ai) ag)))
 (ah (bw nd (ik ag))
 (ah (cV cx.po cx.calm (dL rfl (t.b 1) (aa (sv 0) ag)) (sgN nd) (ah (ut cx.hK rfl (Or.inl rfl) rfl (Or.inl rfl) (cW (sv 1) (bZ cx.hK rfl (t.b 0) (sv 2))))
 (ak (bw nd (fV (sv 1) (c_ (ai) (sv 4)))))))
 (ak (dQ rfl (Or.inl rfl))))))
theorem C3:OkF pt hA P w K mg base 2 3 yc:=okC 3 t fun _ _ _ _ _ _ cx nd =>
 (ah (bw nd (bv t (lV t hB) cx (aa (sv 0) (aa (ai) ag))))
 (ah (bw nd (bv t (lV t hB) cx (aa (sv 0) (aa (ai) ag))))
 (ah (bw nd (bA cx (ik (aa (aX) (aa (aX) (aa (aX) (aa (aX) (aa (aX) (aa (aX) ag))))))) (cW (sv 1) (ai)) (fun _ _=>rfl)))
 (ah (bw nd (a6 (ai) (cW (fV (sv 1) (ai)) (ai))))
 (ah (bf (cY cx.hK cx.hu (sv 3) (aX)) (ak (bw nd (a6 (sv 4) (ai)))) aT)
 (ah (bw nd (bv t (C2 t hB) cx (aa (sv 4) (aa (bv t (lV t hB) cx (aa (sv 0) (aa (ai) ag))) (aa (bv t (lV t hB) cx (aa (sv 0) (aa (ai) ag))) ag)))))
 (ah (bw nd (a6 (sv 4) (cW (fV (sv 2) (ai)) (ai))))
 (ah (bf (cY cx.hK cx.hu (cW (sv 2) (ai)) (ai)) (ak (bw nd (a6 (sv 4) (cW (fV (sv 2) (ai)) (rE (ai) (ai)))))) aT)
 (ah (dM ["_law_way"] cx nd (bK cx.hK (jH cx.hK (sv 5) oy (jF (c_ (sv 4) (ai))))) cG (fun _ _ _ _ nd=>⟨(sgN nd),bJ,(bA cx.comp (sv 0) (ai) (fun _ _=>rfl))⟩))
 (ah (bw nd (bv t (C7 t hB) cx (aa (sv 4) (aa (sv 2) ag))))
 (cI (i:=5) (cI (i:=7) (cI (i:=8) (zZ (k:=0) (x:=9) (ks:=["kind", "size", "ways", "parents", "names"]) (ms:=[(ac 3),(ac 4),(ac 5),(ac 7),(ac 8)]) nd rfl (Or.inl rfl) (Or.inl rfl) (by decide) cx.hu rfl (fun _ _ _ o a b=>⟨o,a,b⟩) (by decide +kernel) rfl (by decide) (iu gJ (sv 3) (iu gJ (sv 4) (iu gJ (sv 5) (iu gJ (sv 7) (iu gJ (sv 8) Ax))))) (cW (sv 2) (sv 4)) (sv 6)))))))))))))))
theorem oO:OkI pt hA P w K mg base 1 4 gu:=okI 4 t fun _ _ _ _ _ _ cx nd =>
 (ah (sFld 0 t cx (sv 1))
 (ah (sFld 7 t cx (sv 2))
 (ak (sFld 8 t cx (sv 3)))))
theorem Dn:OkI pt hA P w K mg base 3 5 yv:=okI 5 t fun _ _ _ _ _ _ cx nd =>
 (ah (bf (SW.st (dP (f7 (sv 1) (dU rfl (t.c 0))) (dw (kL (sv 1) (dU rfl (t.c 1)))))) (ak (b0 2 t cx hB bY (aa (aX) ag))) aT)
 (ah (bf (f7 (sv 2) (sv 1)) (ak (b0 2 t cx hB bY (aa (aX) ag))) aT)
 (ak (pQ 0 t (oO t hB) cx (aa (sv 1) (aa (sv 2) (aa (fP) ag)))))))
theorem F5:OkF pt hA P w K mg base 1 6 DX:=okC 6 t fun _ _ _ _ _ _ cx nd =>
 (ah (bf (kL (bZ cx.hK rfl (t.b 0) (sv 0)) (dU rfl (t.c 2))) (ak (b0 2 t cx hB bY (aa (aX) ag))) aT)
 (ak (cV cx.po cx.calm (z7 cx.hK rfl (t.b 3) (sv 0)) (kf cx.hK cx.calm (cQ nd rfl (Or.inl rfl) (cQ nd rfl (Or.inl rfl) iU))) (ak (bf (SW.st (dP (f7 (sv 2) (ai)) (dw (nE (sv 2) (sv 1))))) (ak (b0 2 t cx hB bY (aa (aX) ag))) aT)))))
theorem w6:OkI pt hA P w K mg base 3 7 mJ:=okI 7 t fun _ _ _ _ _ _ cx nd =>
 (ak (pQ 0 t (oO t hB) cx (aa (sv 1) (aa (sv 2) (aa (fP) ag)))))
theorem FY:OkI pt hA P w K mg base 5 8 DV:=okI 8 t fun _ _ _ _ _ _ cx nd =>
 (ah (gF (bv t (F5 t hB) cx (aa (sv 1) ag)))
 (ah (sFld 11 t cx (ij cx.hK rfl (t.b 4) gz (sv 1)))
 (ak (pQ 1 t (w6 t hB) cx (aa (a6 (bZ cx.hK rfl (t.b 0) (sv 1)) (ai)) (aa (a6 (bZ cx.hK rfl (t.b 0) (sv 1)) (ai)) ag))))))
theorem De:OkF pt hA P w K mg base 1 9 yk:=okC 9 t fun _ _ _ _ _ _ cx nd =>
 (ak (bf (SW.st (dP (f7 (sv 0) (sv 1)) (dw (kL (sv 0) (dU rfl (t.c 3)))))) (ak (b0 1 t cx hB bY (aa (aX) ag))) aT))
theorem Ds:OkF pt hA P w K mg base 1 10 yA:=okC 10 t fun _ _ _ _ _ _ cx nd =>
 (ah (bw nd (ik ag))
 (ah (cV cx.po cx.calm (ii cx.hK (sv 1)) (sgN nd) (ah (bw nd (rH (aa (sW cx.hK cx.calm rfl (t.b 6) (sv 3)) (aa (sX cx.hK cx.calm rfl (t.b 5) (sv 3)) ag))))
 (ah (bf (SW.st (dP (f7 (bA cx (sv 4) (ai) (fun _ _=>rfl)) (ai)) (dw (nE (bA cx (sv 4) (ai) (fun _ _=>rfl)) (sv 0))))) (ak (b0 1 t cx hB bY (aa (aX) ag))) aT)
 (ah (bf (cY cx.hK cx.hu (bA cx (sv 4) (ai) (fun _ _=>rfl)) (bA cx (sv 4) (ai) (fun _ _=>rfl))) (ak (b0 1 t cx hB bY (aa (aX) ag))) aT)
 (ah (bf (pK cx.hK cx.hu2 (sv 4) (sv 2)) (ak (b0 1 t cx hB bY (aa (aX) ag))) aT)
 (ak (uy cx (sv 4))))))))
 (ak (aJ (kg cx.hK rfl (t.b 7) (sv 2))))))
theorem Da:OkF pt hA P w K mg base 1 11 t8:=okC 11 t fun _ _ _ _ _ _ cx nd =>
 (ah (dM ["pair"] cx nd (bK cx.hK (sv 0)) cG (fun _ _ _ _ nd=>⟨(sgN nd),(cH (cY cx.comp.hK cx.comp.hu (bA cx.comp (sv 1) (ai) (fun _ _=>rfl)) (sv 0))),(bA cx.comp (sv 1) (ai) (fun _ _=>rfl))⟩))
 (ah (dM ["pair"] cx nd (bK cx.hK (sv 0)) cG (fun _ _ _ _ nd=>⟨(sgN nd),(cH (cY cx.comp.hK cx.comp.hu (bA cx.comp (sv 1) (ai) (fun _ _=>rfl)) (sv 0))),(bA cx.comp (sv 1) (ai) (fun _ _=>rfl))⟩))
 (ak (aJ (kg cx.hK rfl (t.b 7) (a6 (sv 2) (sv 3)))))))
theorem Db:OkF pt hA P w K mg base 1 12 t9:=okC 12 t fun _ _ _ _ _ _ cx nd =>
 (ak (aJ (dC cx.hK rfl (t.b 2) cA (bA cx (aR 2 t cx (sv 0)) (sv 1) (fun _ _=>rfl)))))
omit t hB in
theorem dE{X:Cx}(t:Tx pt X.K X.mg)(hB:X.K.In X.base):eR X (T X.K) 1 "beside" ["self", "at"] [] bG:=fun c _ hc e=>match c,hc,e with
 | 8,_,e=>dm 0 t (Db t hB) e
 | 0,_,e | 1,_,e | 2,_,e | 3,_,e | 4,_,e | 5,_,e | 6,_,e | 7,_,e | 9,_,e=>nomatch e
 | _+10,h,_=>dno (n:=10) h
theorem C6:OkF pt hA P w K mg base 2 13 t7:=okC 13 t fun _ _ _ _ _ _ cx nd =>
 (ah (dM ["at"] cx nd (bR rfl (t.b 1) (aa (aR 0 t cx (sv 0)) ag)) cG (fun _ _ _ _ nd=>⟨(sgN nd),bJ,(aR 0 t cx.comp (sv 0))⟩))
 (ah (pL rfl (Or.inl rfl) (sv 1) (ai))
 (ah (cV cx.po cx.calm (dL rfl (t.b 1) (aa (aR 0 t cx (sv 0)) ag)) (sgN nd) (ak (cV cx.po cx.calm (dL rfl (t.b 1) (aa (aR 0 t cx (sv 0)) ag)) (sgN nd) (ak (bf (cY cx.hK cx.hu (bA cx (sv 2) (sv 4) (fun _ _=>rfl)) (sv 3)) (ak (cV cx.po cx.calm (ii cx.hK (cR t (dE t hB) cx (sv 0) (aa (sv 4) ag))) (sgN nd) (ak (pL rfl (Or.inl rfl) (sv 5) (oC cx.calm rfl (t.b 6) (aa (bA cx (sv 2) (sv 5) (fun _ _=>rfl)) (aa (a6 (sv 3) (ai)) ag))))))) aT)))))
 (ak (dQ rfl (Or.inl rfl))))))
theorem C4:OkI pt hA P w K mg base 3 14 yd:=okI 14 t fun _ _ _ _ _ _ cx nd =>
 (ah (gF (bv t (De t hB) cx (aa (sv 1) (aa (dU rfl (t.c 4)) ag))))
 (ah (sFld 0 t cx (sv 1))
 (ah (sFld 1 t cx (ij cx.hK rfl (t.b 4) gz (bv t (Ds t hB) cx (aa (sv 1) (aa (sv 2) ag)))))
 (ah (sFld 2 t cx (ij cx.hK rfl (t.b 4) gz (fC ["at"] cx (bR rfl (t.b 1) (aa (sv 1) ag)) cG (fun _ _ _ _ nd=>⟨(sgN nd),bJ,(ij cx.comp.hK rfl (t.b 4) gz (bv t (Da t hB) cx.comp (aa (aR 1 t cx.comp (sv 0)) (aa (sv 1) ag))))⟩))))
 (ak (bf (cY cx.hK cx.hu (sX cx.hK cx.calm rfl (t.b 5) (bv t (C6 t hB) cx (aa (sv 0) (aa (ai) ag)))) (sv 1)) (ak (b0 1 t cx hB bY (aa (aX) ag))) aT))))))
theorem w5:OkF pt hA P w K mg base 1 15 t_:=okC 15 t fun _ _ _ _ _ _ cx nd =>
 (ak (bf (SW.st (dP (f7 (sv 0) (ai)) (dw (kL (sv 0) (dU rfl (t.c 5)))))) (ak (b0 2 t cx hB bY (aa (aX) ag))) aT))
theorem Dk:OkF pt hA P w K mg base 1 16 yr:=okC 16 t fun _ _ _ _ _ _ cx nd =>
 (ah (bf (eX cx.hK cx.hu (bZ cx.hK rfl (t.b 0) (sv 1)) (aR 0 t cx (sv 0))) (ak (b0 2 t cx hB bY (aa (aX) ag))) aT)
 (ak (cV cx.po cx.calm (ii cx.hK (sv 1)) (sgN nd) (ak (bf (SW.st (gC (sT (sv 3) (oB)) (e_ (SW.st (dP (f7 (sv 3) (ai)) (dw (nE (sv 3) (sv 2)))))))) (ak (b0 2 t cx hB bY (aa (aX) ag))) aT)))))
theorem BR:OkI pt hA P w K mg base 3 17 vq:=okI 17 t fun _ _ _ _ _ _ cx nd =>
 (ah (gF (bv t (w5 t hB) cx (aa (sv 3) ag)))
 (ah (gF (bv t (w5 t hB) cx (aa (sv 4) ag)))
 (ah (sFld 3 t cx (dS (sv 3) (sv 4)))
 (ah (gF (bv t (Dk t hB) cx (aa (sv 1) (aa (sv 2) (aa (aR 3 t cx (sv 0)) ag)))))
 (cI (i:=1) (ah (sFld 4 t cx (sv 1))
 (ah (sFld 5 t cx (ij cx.hK rfl (t.b 4) gz (sv 2)))
 (ah (sFld 6 t cx (sv 3))
 (ak (pQ 0 t (oO t hB) cx (aa (aR 0 t cx (sv 1)) (aa (a6 (aR 3 t cx (sv 0)) (ai)) (aa (fP) ag)))))))))))))
theorem rW:OkI pt hA P w K mg base 5 18 qB:=okI 18 t fun _ _ _ _ _ _ cx nd =>
 (ah (bf (SW.st (dP (f7 (sv 2) (ai)) (dw (nE (sv 2) (aR 0 t cx (sv 1)))))) (ak (b0 2 t cx hB bY (aa (aX) ag))) aT)
 (ah (dM ["at"] cx nd (bR rfl (t.b 1) (aa (aR 0 t cx (sv 1)) ag)) cG (fun _ _ _ _ nd=>⟨(sgN nd),bJ,(pP (cY cx.comp.hK cx.comp.hu (sv 1) (sv 0)) (ai) (oB))⟩))
 (cI (i:=3) (cI (i:=1) (ak (pQ 4 t (BR t hB) cx (aa (sv 1) (aa (sv 3) (aa (aR 0 t cx (sv 1)) (aa (ai) ag))))))))))
theorem BQ:OkI pt hA P w K mg base 7 19 Bf:=okI 19 t fun _ _ _ _ _ _ cx nd =>
 (cI (i:=1) (ah (sFld 9 t cx (lL 5 t (rW t hB) cx (aa (sv 1) (aa (sv 2) ag))))
 (ah (sFld 4 t cx (sv 1))
 (ah (sFld 10 t cx (sv 2))
 (ak (pQ 0 t (oO t hB) cx (aa (aR 0 t cx (sv 1)) (aa (dS (a6 (aR 0 t cx (sv 1)) (ai)) (a6 (aR 0 t cx (sv 1)) (ai))) (aa (fP) ag)))))))))
theorem Dj:OkF pt hA P w K mg base 1 20 yq:=okC 20 t fun _ _ _ _ _ _ cx nd =>
 (ah (bf (eX cx.hK cx.hu (bZ cx.hK rfl (t.b 0) (sv 1)) (aR 0 t cx (sv 0))) (ak (b0 2 t cx hB bY (aa (aX) ag))) aT)
 (ah (bf (eX cx.hK cx.hu (nM cx.hK cx.calm rfl (t.b 0) rfl (t.b 8) (sv 1)) (bZ cx.hK rfl (t.b 0) (sv 1))) (ak (b0 2 t cx hB bY (aa (aX) ag))) aT)
 (ak (cV cx.po cx.calm (ii cx.hK (sv 1)) (sgN nd) (ak (bf (SW.st (dP (f7 (sv 2) (ai)) (dw (kL (sv 2) (dU rfl (t.c 6)))))) (ak (b0 2 t cx hB bY (aa (aX) ag))) aT))))))
theorem w8:OkI pt hA P w K mg base 5 21 ub:=okI 21 t fun _ _ _ _ _ _ cx nd =>
 (cI (i:=1) (ah (gF (bv t (Dj t hB) cx (aa (sv 1) (aa (sv 2) ag))))
 (ah (dM ["name"] cx nd (bK cx.hK (sv 2)) cG (fun _ _ _ _ nd=>⟨(sgN nd),bJ,(dS (c_ (dU rfl (t.c 6)) (sv 1)) (aR 0 t cx.comp (sv 0)))⟩))
 (cI (i:=3) (ak (pQ 4 t (BR t hB) cx (aa (sv 1) (aa (sv 3) (aa (aR 0 t cx (sv 1)) (aa (dU rfl (t.c 7)) ag))))))))))
theorem wZ:OkF pt hA P w K mg base 9 22 n8:=okC 22 t fun _ _ _ _ _ _ cx nd =>
 (ah (bw nd (c_ (c_ (dF 0 1 cx.hu rfl (fun _ _ _ h=>h) (sv 1)) (ai)) (dF 0 5 cx.hu rfl (fun _ _ _ h=>h) (sv 1))))
 (ak (aJ (ik (aa (lL 6 t (w8 t hB) cx (aa (sv 0) (aa (fC ["_law_name"] cx (bK cx.hK (dF 0 4 cx.hu rfl (fun _ _ _ h=>h) (sv 1))) cG (fun _ _ _ _ nd=>⟨(sgN nd),bJ,(c_ (ai) (sv 0))⟩)) ag))) (aa (lL 5 t (rW t hB) cx (aa (sv 0) (aa (sv 2) ag))) (aa (lL 7 t (BQ t hB) cx (aa (sv 0) (aa (sv 2) ag))) ag)))))))
theorem Ga:OkI pt hA P w K mg base 5 23 D1:=okI 23 t fun _ _ _ _ _ _ cx nd =>
 (cI (i:=1) (ah (sFld 4 t cx (sv 1))
 (ak (pQ 1 t (w6 t hB) cx (aa (aR 0 t cx (sv 1)) (aa (aR 0 t cx (sv 1)) ag))))))
theorem C5:OkF pt hA P w K mg base 10 24 qA:=okC 24 t fun _ _ _ _ _ _ cx nd =>
 (ah (bw nd (dF 0 0 cx.hu rfl (fun _ _ _ h=>h) (sv 0)))
 (ah (bf (cY cx.hK cx.hu (sv 1) (aX)) (ak (aJ (lL 9 t (Dn t hB) cx (aa (dF 0 1 cx.hu rfl (fun _ _ _ h=>h) (sv 0)) (aa (dF 0 6 cx.hu rfl (fun _ _ _ h=>h) (sv 0)) ag))))) aT)
 (ah (bf (cY cx.hK cx.hu (sv 1) (aX)) (ak (aJ (lL 3 t (FY t hB) cx (aa (dC cx.hK rfl (t.b 2) cA (dF 0 3 cx.hu rfl (fun _ _ _ h=>h) (sv 0))) ag)))) aT)
 (ah (bw nd (lL 8 t (C4 t hB) cx (aa (dF 0 1 cx.hu rfl (fun _ _ _ h=>h) (sv 0)) (aa (dC cx.hK rfl (t.b 2) cA (dF 0 2 cx.hu rfl (fun _ _ _ h=>h) (sv 0))) ag))))
 (cI (i:=2) (ah (bw nd (ik ag))
 (ah (bf (cY cx.hK cx.hu (cW (bA cx (dF 0 4 cx.hu rfl (fun _ _ _ h=>h) (sv 0)) (ai) (fun _ _=>rfl)) (ai)) (ai)) (ak (bw nd (bv t (wZ t hB) cx (aa (sv 2) (aa (sv 0) ag))))) aT)
 (ah (bw nd (ik (aa (lL 2 t (Ga t hB) cx (aa (sv 2) ag)) (aa (lL 5 t (rW t hB) cx (aa (sv 2) (aa (dF 0 5 cx.hu rfl (fun _ _ _ h=>h) (sv 0)) ag))) ag))))
 (cI (i:=4) (cI (i:=3) (ah (bw nd (a6 (a6 (sv 4) (ik (aa (lL 6 t (w8 t hB) cx (aa (sv 2) (aa (dC cx.hK rfl (t.b 2) cA (dF 0 4 cx.hu rfl (fun _ _ _ h=>h) (sv 0))) ag))) (aa (lL 7 t (BQ t hB) cx (aa (sv 2) (aa (dF 0 5 cx.hu rfl (fun _ _ _ h=>h) (sv 0)) ag))) ag)))) (sv 3)))
 (cI (i:=4) (ah (bw nd (bv t (wZ t hB) cx (aa (sv 2) (aa (sv 0) ag))))
 (cI (i:=3) (ak (aJ (bA cx (a6 (sv 4) (sv 3)) (wc cx cx.hu2 (ik (aa (aX) (aa (aX) (aa (aX) (aa (aX) ag))))) (sv 1)) (fun _ _=>rfl))))))))))))))))))
theorem Dp:OkF pt hA P w K mg base 2 25 yx:=okC 25 t fun _ _ _ _ _ _ cx nd =>
 (ak (aJ (fC ["_law_at"] cx (bR rfl (t.b 1) (aa (sv 1) ag)) cG (fun _ _ _ _ nd=>⟨(sgN nd),bJ,(c_ (cW (bv t (lV t hB) cx.comp (aa (sv 0) (aa (a6 (ai) (sv 1)) ag))) (dS (ai) (rE (ai) (ai)))) (rE (ai) (ai)))⟩))))
theorem C9:OkF pt hA P w K mg base 1 26 yg:=okC 26 t fun _ _ _ _ _ _ cx nd =>
 (ah (bw nd (ik ag))
 (ah (cV cx.po cx.calm (ii cx.hK (jH cx.hK (sv 0) (jF (ai)) (jF (ai)))) (sgN nd) (ak (bf (b5 cx.hK (sv 2)) (ak (uy cx (ik (aa (cW (fV (sv 4) (ai)) (sv 1)) ag)))) (ah (dM ["_law_at"] cx nd (bR rfl (t.b 1) (aa (sv 1) ag)) cG (fun _ _ _ _ nd=>⟨(sgN nd),(cH (cY cx.comp.hK cx.comp.hu (Ag (Ck (sv 0) (sv 1)) (ai)) (ai))),(sv 1)⟩))
 (ah (bf (cY cx.hK cx.hu (cW (fV (sv 4) (ai)) (ai)) (ai)) (ak (rm cx.hK rfl (Or.inl rfl))) aT)
 (cI (i:=5) (ak (uy cx (sv 5)))))))))
 (ak (dQ rfl (Or.inl rfl)))))
theorem gM:OkF pt hA P w K mg base 1 27 g_:=okC 27 t fun _ _ _ _ _ _ cx nd =>
 (ah (bf (eX cx.hK cx.hu (bZ cx.hK rfl (t.b 0) (sv 1)) (aR 0 t cx (sv 0))) (ak (b0 3 t cx hB bY (aa (aX) ag))) aT)
 (ak (aJ (fC ["number"] cx (bK cx.hK (sv 1)) cG (fun _ _ _ _ nd=>⟨(sgN nd),bJ,(cW (sv 1) (aR 7 t cx.comp (sv 0)))⟩)))))
omit t hB in
theorem cC{X:Cx}(t:Tx pt X.K X.mg)(hB:X.K.In X.base):eR X (T X.K) 1 "read" ["self", "registers"] [] aF:=fun c _ hc e=>match c,hc,e with
 | 0,_,e=>dm 1 t (gM t hB) e
 | 1,_,e=>dm 2 t (gM t hB) e
 | 2,_,e=>dm 3 t (gM t hB) e
 | 3,_,e=>dm 4 t (gM t hB) e
 | 4,_,e=>dm 5 t (gM t hB) e
 | 5,_,e=>dm 6 t (gM t hB) e
 | 6,_,e=>dm 7 t (gM t hB) e
 | 7,_,e=>dm 8 t (gM t hB) e
 | 9,_,e=>dm 9 t (gM t hB) e
 | 8,_,e=>nomatch e
 | _+10,h,_=>dno (n:=10) h
theorem Df:OkF pt hA P w K mg base 1 28 yn:=okC 28 t fun _ _ _ _ _ _ cx nd =>
 (ah (bf (SW.st (gC (b5 cx.hK (aR 8 t cx (sv 0))) (e_ (kL (bZ cx.hK rfl (t.b 0) (sv 1)) (ai))))) (ak (b0 4 t cx hB bY (aa (aX) ag))) aT)
 (ah (cV cx.po cx.calm (ii cx.hK (sv 1)) (sgN nd) (ak (bf (SW.st (dP (f7 (sv 2) (ai)) (dw (nE (sv 2) (aR 0 t cx (sv 0)))))) (ak (b0 4 t cx hB bY (aa (aX) ag))) aT)))
 (ak (bf (eX cx.hK cx.hu (nM cx.hK cx.calm rfl (t.b 0) rfl (t.b 8) (sv 1)) (bZ cx.hK rfl (t.b 0) (sv 1))) (ak (b0 4 t cx hB bY (aa (aX) ag))) aT))))
theorem wY:OkF pt hA P w K mg base 1 29 ya:=okC 29 t fun _ _ _ _ _ _ cx nd =>
 (ak (aJ (bA cx (sv 1) (sv 2) (fun _ _=>rfl))))
theorem Gg:OkF pt hA P w K mg base 1 30 G3:=okC 30 t fun _ _ _ _ _ _ cx nd =>
 (ak (aJ (ik ag)))
theorem Gj:OkF pt hA P w K mg base 2 31 D7:=okC 31 t fun _ _ _ _ _ _ cx nd =>
 (ak (aJ (fC ["other"] cx (bK cx.hK (cR t (dE t hB) cx (aR 4 t cx (sv 0)) (aa (sv 1) ag))) cG (fun _ _ _ _ nd=>⟨(sgN nd),(cH (f7 (sv 1) (sv 0))),(sv 1)⟩))))
theorem Gh:OkF pt hA P w K mg base 1 32 D5:=okC 32 t fun _ _ _ _ _ _ cx nd =>
 (ak (aJ (fC ["kid", "parent"] cx (v9 cx.hK rfl (t.b 3) (aR 11 t cx (sv 0))) (k9 (dJ cG (dJ cG jE))) (fun _ _ _ _ nd=>⟨(kf cx.comp.hK cx.comp.calm (cQ nd rfl (Or.inl rfl) (cQ nd rfl (Or.inl rfl) iU))),(cH (cY cx.comp.hK cx.comp.hu (sv 2) (sv 0))),(sv 1)⟩))))
omit t hB in
theorem eA{X:Cx}(t:Tx pt X.K X.mg)(hB:X.K.In X.base):eR X (T X.K) 2 "hangs_on" ["self", "at"] [] bE:=fun c _ hc e=>match c,hc,e with
 | 1,_,e=>dm 10 t (Gg t hB) e
 | 2,_,e=>dm 11 t (Gj t hB) e
 | 3,_,e=>dm 12 t (Gh t hB) e
 | 0,_,e | 4,_,e | 5,_,e | 6,_,e | 7,_,e | 8,_,e | 9,_,e=>nomatch e
 | _+10,h,_=>dno (n:=10) h
theorem Dr:OkF pt hA P w K mg base 3 33 yz:=okC 33 t fun _ _ _ _ _ _ cx nd =>
 (ah (dM ["other"] cx nd (bK cx.hK (cR t (eA t hB) cx (sv 0) (aa (sv 2) ag))) cG (fun _ _ _ _ nd=>⟨(sgN nd),bJ,(bA cx.comp (sv 0) (sv 1) (fun _ _=>rfl))⟩))
 (ah (bw nd (ai))
 (ah (lF cx.po (pK cx.hK cx.hu2 (sv 4) (sv 3)) (ak (bw nd (a6 (sv 4) (ai)))))
 (ak (dQ rfl (Or.inl rfl))))))
theorem Du:OkF pt hA P w K mg base 3 34 yB:=okC 34 t fun _ _ _ _ _ _ cx nd =>
 (ak (aJ (oC cx.calm rfl (t.b 6) (aa (aR 0 t cx (sv 0)) (aa (a6 (ai) (lJ cx.hK cx.calm rfl (t.b 9) (fC ["kid"] cx (bK cx.hK (cR t (eA t hB) cx (sv 0) (aa (sv 2) ag))) cG (fun _ _ _ _ nd=>⟨(sgN nd),bJ,(bA cx.comp (sv 0) (sv 1) (fun _ _=>rfl))⟩)))) ag)))))
theorem w9:OkF pt hA P w K mg base 1 35 vv:=okC 35 t fun _ _ _ _ _ _ cx nd =>
 (ak (aJ ((lK (wb cx.hK cx.hu (sv 1) (aR 3 t cx (sv 0))) (rF (wb cx.hK cx.hu (cW (a6 (sv 1) (ai)) (aR 6 t cx (sv 0))) (ai)))))))
omit t hB in
theorem gP{X:Cx}(t:Tx pt X.K X.mg)(hB:X.K.In X.base):eR X (T X.K) 1 "has_offer" ["self", "cell"] [] dz:=fun c _ hc e=>match c,hc,e with
 | 4,_,e=>dm 13 t (w9 t hB) e
 | 5,_,e=>dm 14 t (w9 t hB) e
 | 6,_,e=>dm 15 t (w9 t hB) e
 | 0,_,e | 1,_,e | 2,_,e | 3,_,e | 7,_,e | 8,_,e | 9,_,e=>nomatch e
 | _+10,h,_=>dno (n:=10) h
theorem oP:OkF pt hA P w K mg base 2 36 n9:=okC 36 t fun _ _ _ _ _ _ cx nd =>
 (ah (dM ["other"] cx nd (bK cx.hK (cR t (dE t hB) cx (aR 4 t cx (sv 0)) (aa (sv 2) ag))) cG (fun _ _ _ _ nd=>⟨(sgN nd),bJ,(bA cx.comp (sv 0) (sv 1) (fun _ _=>rfl))⟩))
 (ah (dM ["cell"] cx nd (bK cx.hK (sv 3)) cG (fun _ _ _ _ nd=>⟨(sgN nd),(cH (b5 cx.comp.hK (cR t (gP t hB) cx.comp (sv 0) (aa (sv 1) ag)))),(a6 (sv 1) (ai))⟩))
 (ah (bf (sT (bA cx (aR 5 t cx (sv 0)) (sv 2) (fun _ _=>rfl)) (oB)) (ak (uy cx (bA cx (aR 5 t cx (sv 0)) (sv 2) (fun _ _=>rfl)))) aT)
 (ak (aJ (sW cx.hK cx.calm rfl (t.b 6) (a6 (sv 4) (ik (aa (aR 3 t cx (sv 0)) ag)))))))))
theorem F7:OkF pt hA P w K mg base 1 37 DY:=okC 37 t fun _ _ _ _ _ _ cx nd =>
 (ak (aJ (fC ["cell"] cx (bK cx.hK (sv 1)) cG (fun _ _ _ _ nd=>⟨(sgN nd),bJ,(rH (aa (fV (sv 1) (a6 (aR 0 t cx.comp (sv 0)) (ai))) (aa (cW (sv 1) (a6 (aR 0 t cx.comp (sv 0)) (ai))) ag)))⟩))))
omit t hB in
theorem iB{X:Cx}(t:Tx pt X.K X.mg)(hB:X.K.In X.base):eR X (T X.K) 1 "parts" ["self", "cells"] [] eQ:=fun c _ hc e=>match c,hc,e with
 | 7,_,e=>dm 16 t (F7 t hB) e
 | 0,_,e | 1,_,e | 2,_,e | 3,_,e | 4,_,e | 5,_,e | 6,_,e | 8,_,e | 9,_,e=>nomatch e
 | _+10,h,_=>dno (n:=10) h
theorem Do:OkF pt hA P w K mg base 2 38 yw:=okC 38 t fun _ _ _ _ _ _ cx nd =>
 (ak (aJ (fC ["part"] cx (bK cx.hK (cR t (iB t hB) cx (sv 0) (aa (sv 1) ag))) cG (fun _ _ _ _ nd=>⟨(sgN nd),bJ,(bA cx.comp (sv 0) (ai) (fun _ _=>rfl))⟩))))
omit t hB in
theorem fW{X:Cx}(t:Tx pt X.K X.mg)(hB:X.K.In X.base):eR X (T X.K) 2 "fars" ["self", "cells"] [] dI:=fun c _ hc e=>match c,hc,e with
 | 7,_,e=>dm 17 t (Do t hB) e
 | 0,_,e | 1,_,e | 2,_,e | 3,_,e | 4,_,e | 5,_,e | 6,_,e | 8,_,e | 9,_,e=>nomatch e
 | _+10,h,_=>dno (n:=10) h
omit t hB in
theorem oQ{X:Cx}(t:Tx pt X.K X.mg)(hB:X.K.In X.base):eR X (T X.K) 2 "due" ["self", "cells", "at"] [] kF:=fun c _ hc e=>match c,hc,e with
 | 5,_,e=>dm 18 t (oP t hB) e
 | 0,_,e | 1,_,e | 2,_,e | 3,_,e | 4,_,e | 6,_,e | 7,_,e | 8,_,e | 9,_,e=>nomatch e
 | _+10,h,_=>dno (n:=10) h
theorem Gb:OkF pt hA P w K mg base 2 39 D2:=okC 39 t fun _ _ _ _ _ _ cx nd =>
 (ak (aJ (fC ["part"] cx (bK cx.hK (cR t (iB t hB) cx (sv 0) (aa (sv 1) ag))) cG (fun _ _ _ _ nd=>⟨(sgN nd),bJ,(bA cx.comp (sv 0) (ai) (fun _ _=>rfl))⟩))))
omit t hB in
theorem eT{X:Cx}(t:Tx pt X.K X.mg)(hB:X.K.In X.base):eR X (T X.K) 2 "counts" ["self", "cells"] [] cN:=fun c _ hc e=>match c,hc,e with
 | 7,_,e=>dm 19 t (Gb t hB) e
 | 0,_,e | 1,_,e | 2,_,e | 3,_,e | 4,_,e | 5,_,e | 6,_,e | 8,_,e | 9,_,e=>nomatch e
 | _+10,h,_=>dno (n:=10) h
theorem FZ:OkF pt hA P w K mg base 2 40 DW:=okC 40 t fun _ _ _ _ _ _ cx nd =>
 (ah (bf (cY cx.hK cx.hu (sv 2) (aR 10 t cx (sv 0))) (ak (aJ (oB))) aT)
 (ah (dM ["other"] cx nd (bK cx.hK (cR t (dE t hB) cx (aR 4 t cx (sv 0)) (aa (sv 2) ag))) cG (fun _ _ _ _ nd=>⟨(sgN nd),(cH (cY cx.comp.hK cx.comp.hu (bA cx.comp (sv 0) (sv 2) (fun _ _=>rfl)) (c_ (bA cx.comp (sv 0) (sv 1) (fun _ _=>rfl)) (ai)))),(sv 2)⟩))
 (ak (aJ (Aa cx.hK cx.calm rfl (t.b 6) (sv 3))))))
omit t hB in
theorem lW{X:Cx}(t:Tx pt X.K X.mg)(hB:X.K.In X.base):eR X (T X.K) 2 "elder" ["self", "fars", "at"] [] iR:=fun c _ hc e=>match c,hc,e with
 | 7,_,e=>dm 20 t (FZ t hB) e
 | 0,_,e | 1,_,e | 2,_,e | 3,_,e | 4,_,e | 5,_,e | 6,_,e | 8,_,e | 9,_,e=>nomatch e
 | _+10,h,_=>dno (n:=10) h
theorem Gc:OkF pt hA P w K mg base 3 41 D3:=okC 41 t fun _ _ _ _ _ _ cx nd =>
 (ah (bw nd (cR t (fW t hB) cx (sv 0) (aa (sv 1) ag)))
 (ak (aJ (fC ["at"] cx (bR rfl (t.b 1) (aa (aR 0 t cx (sv 0)) ag)) cG (fun _ _ _ _ nd=>⟨(sgN nd),bJ,(cR t (lW t hB) cx.comp (sv 0) (aa (sv 1) (aa (sv 2) ag)))⟩)))))
omit t hB in
theorem kY{X:Cx}(t:Tx pt X.K X.mg)(hB:X.K.In X.base):eR X (T X.K) 3 "elders" ["self", "cells"] [] gU:=fun c _ hc e=>match c,hc,e with
 | 7,_,e=>dm 21 t (Gc t hB) e
 | 0,_,e | 1,_,e | 2,_,e | 3,_,e | 4,_,e | 5,_,e | 6,_,e | 8,_,e | 9,_,e=>nomatch e
 | _+10,h,_=>dno (n:=10) h
theorem Gi:OkF pt hA P w K mg base 4 42 D6:=okC 42 t fun _ _ _ _ _ _ cx nd =>
 (ah (dM ["count", "elder"] cx nd (oA cx.hK rfl (t.b 10) (aa (cR t (eT t hB) cx (sv 0) (aa (sv 1) ag)) (aa (cR t (kY t hB) cx (sv 0) (aa (sv 1) ag)) ag))) (k9 (dJ cG (dJ cG jE))) (fun _ _ _ _ nd=>⟨(kf cx.comp.hK cx.comp.calm (cQ nd rfl (Or.inl rfl) (cQ nd rfl (Or.inl rfl) iU))),(cH (cY cx.comp.hK cx.comp.hu (sv 2) (sv 0))),(sv 1)⟩))
 (ak (aJ (oC cx.calm rfl (t.b 6) (aa (aR 0 t cx (sv 0)) (aa (a6 (ai) (lJ cx.hK cx.calm rfl (t.b 9) (sv 3))) ag))))))
omit t hB in
theorem fF{X:Cx}(t:Tx pt X.K X.mg)(hB:X.K.In X.base):eR X (T X.K) 4 "due_count" ["self", "cells", "at"] [] cT:=fun c _ hc e=>match c,hc,e with
 | 7,_,e=>dm 22 t (Gi t hB) e
 | 0,_,e | 1,_,e | 2,_,e | 3,_,e | 4,_,e | 5,_,e | 6,_,e | 8,_,e | 9,_,e=>nomatch e
 | _+10,h,_=>dno (n:=10) h
theorem Di:OkF pt hA P w K mg base 5 43 yp:=okC 43 t fun _ _ _ _ _ _ cx nd =>
 (ah (bw nd (cR t (fW t hB) cx (sv 0) (aa (sv 1) ag)))
 (ah (bw nd (cR t (oQ t hB) cx (aR 9 t cx (sv 0)) (aa (sv 3) (aa (sv 2) ag))))
 (ah (bw nd (bA cx (cR t (eT t hB) cx (sv 0) (aa (sv 1) ag)) (sv 2) (fun _ _=>rfl)))
 (ah (bf (cY cx.hK cx.hu (sv 4) (bA cx (sv 3) (sv 2) (fun _ _=>rfl))) (ak (bw nd (cR t (fF t hB) cx (sv 0) (aa (sv 1) (aa (sv 2) ag))))) aT)
 (ak (aJ (a6 (dS (sv 4) (a6 (aR 0 t cx (sv 0)) (ai))) (sv 5))))))))
theorem Dg:OkF pt hA P w K mg base 1 44 yo:=okC 44 t fun _ _ _ _ _ _ cx nd =>
 (ah (bf (eX cx.hK cx.hu (sv 2) (ai)) (ak (aJ (bA cx (sv 1) (c_ (sv 2) (ai)) (fun _ _=>rfl)))) aT)
 (ah (bf (cY cx.hK cx.hu (bA cx (sv 1) (ai) (fun _ _=>rfl)) (bA cx (sv 1) (c_ (aR 0 t cx (sv 0)) (ai)) (fun _ _=>rfl))) (ak (aJ (cW (a6 (bA cx (sv 1) (ai) (fun _ _=>rfl)) (ai)) (aR 7 t cx (sv 0))))) aT)
 (ak (aJ (bA cx (sv 1) (ai) (fun _ _=>rfl))))))
omit t hB in
theorem bM{X:Cx}(t:Tx pt X.K X.mg)(hB:X.K.In X.base):eR X (T X.K) 5 "due" ["self", "cells", "at"] [] aE:=fun c _ hc e=>match c,hc,e with
 | 0,_,e=>dm 23 t (wY t hB) e
 | 1,_,e=>dm 24 t (wY t hB) e
 | 2,_,e=>dm 25 t (Dr t hB) e
 | 3,_,e=>dm 26 t (Du t hB) e
 | 4,_,e=>dm 27 t (oP t hB) e
 | 5,_,e=>dm 18 t (oP t hB) e
 | 6,_,e=>dm 28 t (oP t hB) e
 | 7,_,e=>dm 29 t (Di t hB) e
 | 9,_,e=>dm 30 t (Dg t hB) e
 | 8,_,e=>nomatch e
 | _+10,h,_=>dno (n:=10) h
theorem gO:OkF pt hA P w K mg base 6 45 hV:=okC 45 t fun _ _ _ _ _ _ cx nd =>
 (ah (gF (bv t (Df t hB) cx (aa (sv 0) (aa (sv 2) ag))))
 (ak (aJ (fC ["at"] cx (bR rfl (t.b 1) (aa (aR 0 t cx (sv 0)) ag)) cG (fun _ _ _ _ nd=>⟨(sgN nd),bJ,(pP (pK cx.comp.hK cx.comp.hu2 (sv 3) (sv 0)) (cR t (bM t hB) cx.comp (sv 1) (aa (sv 2) (aa (sv 3) ag))) (bA cx.comp (sv 2) (sv 3) (fun _ _=>rfl)))⟩)))))
omit t hB in
theorem et{X:Cx}(t:Tx pt X.K X.mg)(hB:X.K.In X.base):eR X (T X.K) 6 "turned" ["self", "cells", "named"] [] aH:=fun c _ hc e=>match c,hc,e with
 | 0,_,e=>dm 31 t (gO t hB) e
 | 1,_,e=>dm 32 t (gO t hB) e
 | 2,_,e=>dm 33 t (gO t hB) e
 | 3,_,e=>dm 34 t (gO t hB) e
 | 4,_,e=>dm 35 t (gO t hB) e
 | 5,_,e=>dm 36 t (gO t hB) e
 | 6,_,e=>dm 37 t (gO t hB) e
 | 7,_,e=>dm 38 t (gO t hB) e
 | 9,_,e=>dm 39 t (gO t hB) e
 | 8,_,e=>nomatch e
 | _+10,h,_=>dno (n:=10) h
theorem gN:OkF pt hA P w K mg base 6 46 gw:=okC 46 t fun _ _ _ _ _ _ cx nd =>
 (ak (aJ (fC ["at"] cx (bR rfl (t.b 1) (aa (aR 0 t cx (sv 0)) ag)) cG (fun _ _ _ _ nd=>⟨(sgN nd),(cH (eX cx.comp.hK cx.comp.hu (cR t (bM t hB) cx.comp (sv 0) (aa (sv 1) (aa (sv 2) ag))) (bA cx.comp (sv 1) (sv 2) (fun _ _=>rfl)))),(sv 2)⟩))))
omit t hB in
theorem aN{X:Cx}(t:Tx pt X.K X.mg)(hB:X.K.In X.base):eR X (T X.K) 6 "movers" ["self", "cells"] [] ar:=fun c _ hc e=>match c,hc,e with
 | 0,_,e=>dm 40 t (gN t hB) e
 | 1,_,e=>dm 41 t (gN t hB) e
 | 2,_,e=>dm 42 t (gN t hB) e
 | 3,_,e=>dm 43 t (gN t hB) e
 | 4,_,e=>dm 44 t (gN t hB) e
 | 5,_,e=>dm 45 t (gN t hB) e
 | 6,_,e=>dm 46 t (gN t hB) e
 | 7,_,e=>dm 47 t (gN t hB) e
 | 9,_,e=>dm 48 t (gN t hB) e
 | 8,_,e=>nomatch e
 | _+10,h,_=>dno (n:=10) h
theorem C1:OkF pt hA P w K mg base 7 47 qz:=okC 47 t fun _ _ _ _ _ _ cx nd =>
 (ah (bw nd (cR t (et t hB) cx (sv 0) (aa (sv 1) (aa (sv 2) ag))))
 (ah (dM ["at"] cx nd (bK cx.hK (cR t (aN t hB) cx (sv 0) (aa (sv 1) ag))) cG (fun _ _ _ _ nd=>⟨(sgN nd),(cH (pK cx.comp.hK cx.comp.hu2 (sv 1) (sv 0))),(sv 1)⟩))
 (ak (v3 rfl (Or.inl rfl) rfl (Or.inl rfl)))))
theorem Dw:OkF pt hA P w K mg base 8 48 yD:=okC 48 t fun _ _ _ _ _ _ cx nd =>
 (ah (bw nd (cR t (cC t hB) cx (sv 0) (aa (sv 1) ag)))
 (ah (bw nd (ik ag))
 (cI (i:=2) (ah (zY cx.po cx.calm cx.hK nd rfl (Or.inl rfl) rfl (Or.inl rfl) rfl (Or.inl rfl) (by decide) (by decide) (by decide) (by decide) (by decide) (by decide) (ii cx.hK (sv 2)) (bv t (C1 t hB) cx (aa (sv 0) (aa (sv 3) (aa (sv 5) ag)))))
 (ak (dQ rfl (Or.inl rfl)))))))
theorem C_:OkF pt hA P w K mg base 1 49 BY:=okC 49 t fun _ _ _ _ _ _ cx nd =>
 (ak (b0 5 t cx hB bY (aa (aX) ag)))
theorem kn:OkF pt hA P w K mg base 1 50 kU:=okC 50 t fun _ _ _ _ _ _ cx nd =>
 (ah (bw nd (ai))
 (ah (cV cx.po cx.calm (dL rfl (t.b 1) (aa (sv 1) ag)) (sgN nd) (ak (bw nd (dS (sv 2) (sv 0)))))
 (ak (dQ rfl (Or.inl rfl)))))
theorem rX:OkF pt hA P w K mg base 2 51 qC:=okC 51 t fun _ _ _ _ _ _ cx nd =>
 (ak (aJ (c_ (bv t (kn t hB) cx (aa (ai) (aa (aR 0 t cx (sv 0)) ag))) (ai))))
theorem tK:OkF pt hA P w K mg base 2 52 vt:=okC 52 t fun _ _ _ _ _ _ cx nd =>
 (ak (aJ (c_ (bv t (kn t hB) cx (aa (a6 (aR 0 t cx (sv 0)) (ai)) (aa (dS (ai) (aR 3 t cx (sv 0))) ag))) (ai))))
omit t hB in
theorem m8{X:Cx}(t:Tx pt X.K X.mg)(hB:X.K.In X.base):eR X (T X.K) 2 "most" ["self"] [] jx:=fun c _ hc e=>match c,hc,e with
 | 5,_,e=>dm 49 t (tK t hB) e
 | 0,_,e | 1,_,e | 2,_,e | 3,_,e | 4,_,e | 6,_,e | 7,_,e | 8,_,e | 9,_,e=>nomatch e
 | _+10,h,_=>dno (n:=10) h
theorem Dl:OkF pt hA P w K mg base 3 53 yt:=okC 53 t fun _ _ _ _ _ _ cx nd =>
 (ak (aJ (c_ (dS (a6 (wm t (m8 t hB) cx (aR 9 t cx (sv 0))) (ai)) (bv t (kn t hB) cx (aa (ai) (aa (aR 0 t cx (sv 0)) ag)))) (ai))))
theorem Dm:OkF pt hA P w K mg base 1 54 yu:=okC 54 t fun _ _ _ _ _ _ cx nd =>
 (ak (aJ (fV (dS (dS (ai) (aR 0 t cx (sv 0))) (c_ (aR 0 t cx (sv 0)) (ai))) (ai))))
omit t hB in
theorem cD{X:Cx}(t:Tx pt X.K X.mg)(hB:X.K.In X.base):eR X (T X.K) 3 "most" ["self"] [] aG:=fun c _ hc e=>match c,hc,e with
 | 0,_,e=>dm 50 t (C_ t hB) e
 | 1,_,e=>dm 51 t (rX t hB) e
 | 2,_,e=>dm 52 t (rX t hB) e
 | 3,_,e=>dm 53 t (rX t hB) e
 | 4,_,e=>dm 54 t (tK t hB) e
 | 5,_,e=>dm 49 t (tK t hB) e
 | 6,_,e=>dm 55 t (tK t hB) e
 | 7,_,e=>dm 56 t (Dl t hB) e
 | 9,_,e=>dm 57 t (Dm t hB) e
 | 8,_,e=>nomatch e
 | _+10,h,_=>dno (n:=10) h
theorem Dh:OkF pt hA P w K mg base 1 55 BZ:=okC 55 t fun _ _ _ _ _ _ cx nd =>
 (ak (b0 5 t cx hB bY (aa (aX) ag)))
theorem Dt:OkF pt hA P w K mg base 1 56 B0:=okC 56 t fun _ _ _ _ _ _ cx nd =>
 (ak (aJ (ai)))
theorem FX:OkF pt hA P w K mg base 1 57 DU:=okC 57 t fun _ _ _ _ _ _ cx nd =>
 (ak (aJ (c_ (c_ (aR 0 t cx (sv 0)) (ai)) (sv 1))))
theorem F_:OkF pt hA P w K mg base 1 58 D0:=okC 58 t fun _ _ _ _ _ _ cx nd =>
 (ak (dQ rfl (Or.inl rfl)))
omit t hB in
theorem jQ{X:Cx}(t:Tx pt X.K X.mg)(hB:X.K.In X.base):eR X (T X.K) 1 "rank" ["self", "at"] [] dh:=fun c _ hc e=>match c,hc,e with
 | 1,_,e=>dm 58 t (Dt t hB) e
 | 2,_,e=>dm 59 t (FX t hB) e
 | 3,_,e=>dm 60 t (F_ t hB) e
 | 0,_,e | 4,_,e | 5,_,e | 6,_,e | 7,_,e | 8,_,e | 9,_,e=>nomatch e
 | _+10,h,_=>dno (n:=10) h
theorem wX:OkF pt hA P w K mg base 7 59 x_:=okC 59 t fun _ _ _ _ _ _ cx nd =>
 (ak (aJ (lJ cx.hK cx.calm rfl (t.b 9) (fC ["at"] cx (bK cx.hK (cR t (aN t hB) cx (sv 0) (aa (sv 1) ag))) cG (fun _ _ _ _ nd=>⟨(sgN nd),bJ,(bv t (kn t hB) cx.comp (aa (ai) (aa (cR t (jQ t hB) cx.comp (sv 0) (aa (sv 1) ag)) ag)))⟩)))))
theorem tL:OkF pt hA P w K mg base 6 60 sD:=okC 60 t fun _ _ _ _ _ _ cx nd =>
 (ah (dM ["at"] cx nd (bR rfl (t.b 1) (aa (aR 0 t cx (sv 0)) ag)) cG (fun _ _ _ _ nd=>⟨(sgN nd),bJ,(cR t (bM t hB) cx.comp (sv 0) (aa (sv 1) (aa (sv 2) ag)))⟩))
 (ah (bw nd (a6 (aR 0 t cx (sv 0)) (ai)))
 (ah (bw nd (ai))
 (ah (cV cx.po cx.calm (dL rfl (t.b 1) (aa (aR 3 t cx (sv 0)) ag)) (sgN nd) (ah (dM ["cell", "due"] cx nd (oA cx.hK rfl (t.b 10) (aa (sv 1) (aa (sv 2) ag))) (k9 (dJ cG (dJ cG jE))) (fun _ _ _ _ nd=>⟨(kf cx.comp.hK cx.comp.calm (cQ nd rfl (Or.inl rfl) (cQ nd rfl (Or.inl rfl) iU))),(cH (SW.st (gC (cY cx.comp.hK cx.comp.hu (sv 1) (sv 0)) (e_ (kL (sv 2) (sv 0)))))),(sv 1)⟩))
 (ah (dM ["cell", "due"] cx nd (oA cx.hK rfl (t.b 10) (aa (sv 1) (aa (sv 2) ag))) (k9 (dJ cG (dJ cG jE))) (fun _ _ _ _ nd=>⟨(kf cx.comp.hK cx.comp.calm (cQ nd rfl (Or.inl rfl) (cQ nd rfl (Or.inl rfl) iU))),(cH (SW.st (gC (kL (sv 1) (sv 0)) (e_ (cY cx.comp.hK cx.comp.hu (sv 2) (sv 0)))))),(sv 1)⟩))
 (ak (bw nd (a6 (dS (a6 (dS (sv 4) (sv 3)) (bZ cx.hK rfl (t.b 0) (sv 6))) (sv 3)) (bZ cx.hK rfl (t.b 0) (sv 7))))))))
 (ak (dQ rfl (Or.inl rfl)))))))
theorem Dc:OkF pt hA P w K mg base 1 61 yh:=okC 61 t fun _ _ _ _ _ _ cx nd =>
 (ah (dM ["other"] cx nd (bR rfl (t.b 1) (aa (bZ cx.hK rfl (t.b 0) (sv 0)) ag)) cG (fun _ _ _ _ nd=>⟨(sgN nd),(cH (Cc cx.comp.hK cx.comp.hu (rH (aa (bA cx.comp (sv 0) (sv 2) (fun _ _=>rfl)) (aa (sv 2) ag))) (rH (aa (bA cx.comp (sv 0) (sv 1) (fun _ _=>rfl)) (aa (sv 1) ag))))),(sv 2)⟩))
 (ak (aJ (bZ cx.hK rfl (t.b 0) (sv 2)))))
omit t hB in
theorem kq{X:Cx}(t:Tx pt X.K X.mg)(hB:X.K.In X.base):eR X (T X.K) 6 "measure" ["self", "cells"] [] fZ:=fun c _ hc e=>match c,hc,e with
 | 5,_,e=>dm 61 t (tL t hB) e
 | 0,_,e | 1,_,e | 2,_,e | 3,_,e | 4,_,e | 6,_,e | 7,_,e | 8,_,e | 9,_,e=>nomatch e
 | _+10,h,_=>dno (n:=10) h
theorem Ge:OkF pt hA P w K mg base 7 62 D4:=okC 62 t fun _ _ _ _ _ _ cx nd =>
 (ah (bw nd (cR t (fW t hB) cx (sv 0) (aa (sv 1) ag)))
 (ah (bw nd (cR t (eT t hB) cx (sv 0) (aa (sv 1) ag)))
 (ah (dM ["at"] cx nd (bR rfl (t.b 1) (aa (aR 0 t cx (sv 0)) ag)) cG (fun _ _ _ _ nd=>⟨(sgN nd),(cH (eX cx.comp.hK cx.comp.hu (bA cx.comp (sv 0) (sv 3) (fun _ _=>rfl)) (cR t (fF t hB) cx.comp (sv 1) (aa (sv 2) (aa (sv 3) ag))))),(sv 3)⟩))
 (ah (dM ["at"] cx nd (bK cx.hK (sv 4)) cG (fun _ _ _ _ nd=>⟨(sgN nd),bJ,(bv t (kn t hB) cx.comp (aa (ai) (aa (bv t (Dc t hB) cx.comp (aa (sv 0) (aa (sv 1) ag))) ag)))⟩))
 (ak (aJ (a6 (dS (cR t (kq t hB) cx (aR 9 t cx (sv 0)) (aa (sv 2) ag)) (bv t (kn t hB) cx (aa (ai) (aa (aR 0 t cx (sv 0)) ag)))) (lJ cx.hK cx.calm rfl (t.b 9) (sv 5)))))))))
theorem C8:OkF pt hA P w K mg base 1 63 yf:=okC 63 t fun _ _ _ _ _ _ cx nd =>
 (ah (bw nd (ai))
 (ah (lF cx.po (SW.st (gC (f7 (sv 1) (bZ cx.hK rfl (t.b 0) (sv 0))) (e_ (cY cx.hK cx.hu (bA cx (sv 0) (sv 1) (fun _ _=>rfl)) (bA cx (sv 0) (ai) (fun _ _=>rfl)))))) (ak (bw nd (a6 (sv 1) (ai)))))
 (ak (dQ rfl (Or.inl rfl)))))
theorem F8:OkF pt hA P w K mg base 2 64 DZ:=okC 64 t fun _ _ _ _ _ _ cx nd =>
 (ah (bf (lD cx.hK cx.hu2 (bA cx (sv 0) (ai) (fun _ _=>rfl)) (jH cx.hK (sv 0) (jF (bv t (C8 t hB) cx (aa (sv 0) ag))) oy)) (ak (aJ (ai))) aT)
 (ah (bw nd (ai))
 (ah (lF cx.po (pK cx.hK cx.hu2 (cW (a6 (bA cx (sv 0) (ai) (fun _ _=>rfl)) (sv 2)) (sv 1)) (jH cx.hK (sv 0) (jF (ai)) oy)) (ak (bw nd (a6 (sv 2) (ai)))))
 (ak (dQ rfl (Or.inl rfl))))))
theorem Gf:OkF pt hA P w K mg base 7 65 x9:=okC 65 t fun _ _ _ _ _ _ cx nd =>
 (ah (dM ["at"] cx nd (bK cx.hK (cR t (aN t hB) cx (sv 0) (aa (sv 1) ag))) cG (fun _ _ _ _ nd=>⟨(sgN nd),(cH (eX cx.comp.hK cx.comp.hu (sv 1) (ai))),(c_ (aR 0 t cx.comp (sv 0)) (sv 1))⟩))
 (ak (aJ (a6 (dS (aR 0 t cx (sv 0)) (bv t (F8 t hB) cx (aa (sv 1) (aa (aR 7 t cx (sv 0)) ag)))) (lJ cx.hK cx.calm rfl (t.b 9) (sv 2))))))
omit t hB in
theorem b6{X:Cx}(t:Tx pt X.K X.mg)(hB:X.K.In X.base):eR X (T X.K) 7 "measure" ["self", "cells"] [] aB:=fun c _ hc e=>match c,hc,e with
 | 0,_,e=>dm 62 t (Dh t hB) e
 | 1,_,e=>dm 63 t (wX t hB) e
 | 2,_,e=>dm 64 t (wX t hB) e
 | 3,_,e=>dm 65 t (wX t hB) e
 | 4,_,e=>dm 66 t (tL t hB) e
 | 5,_,e=>dm 61 t (tL t hB) e
 | 6,_,e=>dm 67 t (tL t hB) e
 | 7,_,e=>dm 68 t (Ge t hB) e
 | 9,_,e=>dm 69 t (Gf t hB) e
 | 8,_,e=>nomatch e
 | _+10,h,_=>dno (n:=10) h
theorem lU:OkF pt hA P w K mg base 1 66 mI:=okC 66 t fun _ _ _ _ _ _ cx nd =>
 (ak (aJ ((lK (kh cx.hK A7 rfl (t.b 11) cU rfl (t.b 13) Ep (sv 0)) (rF (Cl (kh cx.hK xO rfl (t.b 11) cU rfl (t.b 12) BD (sv 0))))))))
theorem Dv:OkF pt hA P w K mg base 2 67 yC:=okC 67 t fun _ _ _ _ _ _ cx nd =>
 (ah (bf (SW.st (dP (fA (b5 cx.hK (kh cx.hK vc rfl (t.b 11) cU rfl (t.b 4) gz (sv 2)))) (dP (eX cx.hK cx.hu (bZ cx.hK rfl (t.b 0) (sv 2)) (ai)) (dP (fA (b5 cx.hK (kh cx.hK l_ rfl (t.b 11) cU rfl (t.b 2) cA (bA cx (sv 2) (ai) (fun _ _=>rfl))))) (dw (fA (b5 cx.hK (kh cx.hK l_ rfl (t.b 11) cU rfl (t.b 2) cA (bA cx (sv 2) (ai) (fun _ _=>rfl)))))))))) (ak (aJ (fP))) aT)
 (ah (bf (SW.st (dP (eX cx.hK cx.hu (bZ cx.hK rfl (t.b 0) (bA cx (sv 2) (ai) (fun _ _=>rfl))) (sv 3)) (dw (eX cx.hK cx.hu (kg cx.hK rfl (t.b 7) (bA cx (sv 2) (ai) (fun _ _=>rfl))) (bA cx (sv 2) (ai) (fun _ _=>rfl)))))) (ak (aJ (fP))) aT)
 (ah (cV cx.po cx.calm (ii cx.hK (bA cx (sv 2) (ai) (fun _ _=>rfl))) (sgN nd) (ak (bf (SW.st (dP (fA (b5 cx.hK (bv t (lU t hB) cx (aa (sv 4) ag)))) (dP (lD cx.hK cx.hu2 (sv 4) (sv 1)) (dw (eX cx.hK cx.hu (wf cx cx.hu2 (bA cx (sv 2) (ai) (fun _ _=>rfl)) (sv 4)) (ai)))))) (ak (aJ (fP))) aT)))
 (ah (cV cx.po cx.calm (dL rfl (t.b 1) (aa (sv 3) ag)) (sgN nd) (ak (bf (SW.st (dP (fA (b5 cx.hK (bv t (lU t hB) cx (aa (bA cx (bA cx (sv 2) (ai) (fun _ _=>rfl)) (sv 4) (fun _ _=>rfl)) ag)))) (dw (eX cx.hK cx.hu (wb cx.hK cx.hu (bA cx (bA cx (sv 2) (ai) (fun _ _=>rfl)) (sv 4) (fun _ _=>rfl)) (bA cx (sv 0) (sv 4) (fun _ _=>rfl))) (BN cx.hK cx.hu2 (sv 4) (bA cx (sv 2) (ai) (fun _ _=>rfl))))))) (ak (aJ (fP))) aT)))
 (ak (aJ (fP)))))))
theorem iA:OkF pt hA P w K mg base 7 68 iN:=okC 68 t fun _ _ _ _ _ _ cx nd =>
 (ak (aJ (we cx.hK cx.hu (bZ cx.hK rfl (t.b 0) (cR t (aN t hB) cx (sv 0) (aa (sv 1) ag))) (ai))))
theorem Dq:OkF pt hA P w K mg base 7 69 ua:=okC 69 t fun _ _ _ _ _ _ cx nd =>
 (ak (aJ (we cx.hK cx.hu (bZ cx.hK rfl (t.b 0) (cR t (aN t hB) cx (sv 0) (aa (sv 1) ag))) (ai))))
omit t hB in
theorem cE{X:Cx}(t:Tx pt X.K X.mg)(hB:X.K.In X.base):eR X (T X.K) 7 "calm" ["self", "cells"] [] aC:=fun c _ hc e=>match c,hc,e with
 | 0,_,e=>dm 70 t (iA t hB) e
 | 1,_,e=>dm 71 t (iA t hB) e
 | 2,_,e=>dm 72 t (iA t hB) e
 | 3,_,e=>dm 73 t (iA t hB) e
 | 4,_,e=>dm 74 t (iA t hB) e
 | 5,_,e=>dm 75 t (iA t hB) e
 | 6,_,e=>dm 76 t (iA t hB) e
 | 7,_,e=>dm 77 t (iA t hB) e
 | 9,_,e=>dm 78 t (Dq t hB) e
 | 8,_,e=>nomatch e
 | _+10,h,_=>dno (n:=10) h
theorem Dx:OkF pt hA P w K mg base 11 70 B1:=okC 70 t fun _ _ _ _ _ _ cx nd =>
 (ah (bw nd (bv t (C3 t hB) cx (aa (sv 0) ag)))
 (ah (bw nd (dF 0 1 cx.hu rfl (fun _ _ _ h=>h) (sv 1)))
 (ah (bw nd (bv t (C5 t hB) cx (aa (sv 1) ag)))
 (ah (bw nd (bv t (Dp t hB) cx (aa (sv 0) (aa (sv 2) ag))))
 (ah (bw nd (bv t (C9 t hB) cx (aa (sv 0) (aa (sv 2) (aa (BN cx.hK cx.hu2 (dF 0 0 cx.hu rfl (fun _ _ _ h=>h) (sv 1)) (ik (aa (aX) (aa (aX) (aa (aX) ag))))) ag)))))
 (cI (i:=5) (ah (bw nd (bv t (Dw t hB) cx (aa (sv 3) (aa (dC cx.hK rfl (t.b 2) cA (sv 4)) (aa (fC ["_law_turn"] cx (bK cx.hK (sv 5)) cG (fun _ _ _ _ nd=>⟨(sgN nd),bJ,(dC cx.comp.hK rfl (t.b 2) cA (sv 0))⟩)) ag)))))
 (cI (i:=6) (ah (bf (SW.st (dP (fA (b5 cx.hK (kh cx.hK l_ rfl (t.b 11) cU rfl (t.b 2) cA (sv 6)))) (dw (eX cx.hK cx.hu (bZ cx.hK rfl (t.b 0) (sv 6)) (bZ cx.hK rfl (t.b 0) (sv 5)))))) (ak (aJ (fP))) aT)
 (ah (bw nd (cR t (cC t hB) cx (sv 3) (aa (dC cx.hK rfl (t.b 2) cA (sv 4)) ag)))
 (ah (bw nd (wm t (cD t hB) cx (sv 3)))
 (ah (bw nd (cR t (b6 t hB) cx (sv 3) (aa (dC cx.hK rfl (t.b 2) cA (sv 7)) ag)))
 (ah (cV cx.po cx.calm (Ch cx.hK rfl (t.b 10) (aa (sv 5) (aa (sv 6) ag))) (kf cx.hK cx.calm (cQ nd rfl (Or.inl rfl) (cQ nd rfl (Or.inl rfl) iU))) (ah (bf (fA (b5 cx.hK (bv t (Dv t hB) cx (aa (sv 7) (aa (sv 10) (aa (sv 11) (aa (sv 2) ag))))))) (ak (aJ (fP))) aT)
 (ah (bw nd (cR t (b6 t hB) cx (sv 3) (aa (dC cx.hK rfl (t.b 2) cA (bA cx (sv 11) (ai) (fun _ _=>rfl))) ag)))
 (ah (bf (SW.st (dP (fA (b5 cx.hK (bv t (lU t hB) cx (aa (sv 9) ag)))) (dw (fA (vZ tJ tJ (ai) (sv 9) (sv 8)))))) (ak (aJ (fP))) aT)
 (ah (bw nd (cR t (cE t hB) cx (sv 3) (aa (dC cx.hK rfl (t.b 2) cA (sv 7)) ag)))
 (ah (bf (SW.st (gC (fA (b5 cx.hK (sv 13))) (e_ (SW.st (dP (cY cx.hK cx.hu (cR t (aN t hB) cx (sv 3) (aa (dC cx.hK rfl (t.b 2) cA (sv 7)) ag)) (ik ag)) (dw (SW.st (gC (eX cx.hK cx.hu (bA cx (sv 11) (ai) (fun _ _=>rfl)) (ik ag)) (e_ (nE (sv 12) (sv 9))))))))))) (ak (aJ (fP))) aT)
 (ah (bf (SW.st (gC (b5 cx.hK (sv 13)) (e_ (fA (b5 cx.hK (cR t (cE t hB) cx (sv 3) (aa (dC cx.hK rfl (t.b 2) cA (bA cx (sv 11) (ai) (fun _ _=>rfl))) ag))))))) (ak (aJ (fP))) aT)
 (ah (bw nd (bA cx (sv 11) (ai) (fun _ _=>rfl)))
 (ak (bw nd (sv 12)))))))))))
 (ak (aJ ((lK (bv t (lU t hB) cx (aa (sv 9) ag)) (lK (wg tJ tJ (ai) (sv 9) (sv 8)) (lK (we cx.hK cx.hu (wm t (cD t hB) cx (sv 3)) (sv 8)) (rF (bv t (lU t hB) cx (aa (sv 8) ag))))))))))))))))))))))
end
end G
namespace G
open PySem L2 PR
variable{n i r cc T J J' p k:Nat}{ps ws:List (Int×Int)}{cs l hs ms rs:List Int}{f fc fl:Fl}{os:List (Option Int)}{b st sp tp a at_ x c:Int}{g:Fl->Fl}{o:PV}
def rM(n k:Int)(h1:k<=n)(h2:n<=10):yk [.int n,.int k]=.ok .non:=by
 refine nP (e:=[some (.int n),some (.int k)]) ?_
 show zc [some (.int n),some (.int k)]=_
 unfold zc
 exact ce (by simp;rw[if_neg (by omega),decide_eq_false (by omega)]) aI
def rV(g:ES n ws)(hf:fl.lend=fl)(hl:fl.isLnt=false):yA [.int n,.lst fl (prL ws)]=.ok (.lst .own (prL (cP (ws.map mm)))):=by
 refine az (v:=.lst .own (prL (cP (ws.map mm)))) ?_
 show zz [some (.int n),some (.lst fl (prL ws)),none,none,none]=_
 unfold zz
 refine af (aw (v:=.lst .own []) (by simp) (by simp) rfl) ?_
 simp only[s0_,s1_]
 refine iV (fun k e=>∃c d,e=[some (.int n),some (.lst fl (prL ws)),some (.lst .own (prL ((ws.take k).map mm))),c,d]) (xs:=prL ws) (eM (by simp[hf]) hl (by simp) (by simp)) ⟨_,_,rfl⟩ (fun k x e hx hP=>?_) (fun e hP=>?_)
 ·obtain⟨c,d,rfl⟩:=hP
  rw[Av]at hx
  obtain⟨w,hw,rfl⟩:∃w,ws[k]?=some w/\x=prV w:=by
   cases e:ws[k]? with
   | none=>rw[e]at hx;cases hx
   | some w=>rw[e]at hx;cases hx;exact⟨w,rfl,rfl⟩
  have hk:k < ws.length:=(List.getElem?_eq_some_iff.mp hw).1
  obtain⟨r1,r2,r3,r4,r5⟩:=g.rg w (List.mem_of_getElem? hw)
  have hn:((ws.take k).map mm).contains (mm w)=false:=by
   rw[Bool.eq_false_iff]
   intro z
   have z':mm w ∈(ws.take k).map mm:=by simpa using z
   have nd:=g.nd
   rw[<- List.take_append_drop k ws,List.map_append,List.nodup_append]at nd
   refine nd.2.2 _ z' (mm w) (List.mem_map_of_mem ?_) rfl
   rw[List.drop_eq_getElem_cons hk]
   obtain⟨_,e⟩:=List.getElem?_eq_some_iff.mp hw
   rw[e]
   exact List.mem_cons_self
  have hn':mm w ∉(ws.map mm).take k:=by
   rw[<- List.map_take]
   simpa using hn
  have ht:(ws.take (k+1)).map mm=(ws.take k).map mm++[mm w]:=by rw[List.take_add_one,hw];simp
  have hz:=g.sz
  refine⟨_,dq rfl,bq (aw (v:=prV (mm w)) (by simp[p1,q9,mm]) (by simp) rfl) ?_⟩
  simp only[s0_,s1_]
  refine bq (ce (by simp[mm];rw[if_neg (by omega),decide_eq_false (by omega)]) aI) ?_
  refine bq (ce (by simp[mm];omega) aI) ?_
  refine bq (ce (by simp only[gT,d9,bH];simp[hn']) aI) ?_
  refine bC (fv (v:=prV (mm w)) (xs:=prL ((ws.take k).map mm)) (by simp) rfl (by simp) (by simp;omega)) ⟨some (prV w),some (prV (mm w)),?_⟩
  simp only[s0_,s1_]
  rw[ht,<- Aw]
  rfl
 ·obtain⟨c,d,rfl⟩:=hP
  refine a9 ?_ (by simp)
  have e:ws.take (prL ws).length=ws:=by rw[iY,List.take_length]
  simp only[e]
  simp[p1,rp (f:=.lnt) (ps:=ws.map mm) (by simpa using g.sz) g.nd]
def kK(a:Int):∀(ps:List (Int×Int)),(∀x∈ps,x.1≠x.2)->(ps.filter fun x=>decide (x.2=a)).length+(ps.filter fun x=>decide (x.1=a)).length<=ps.length
 | [],_=>Nat.le_refl _
 | x::ps,h=>by
  have:=kK a ps fun y hy=>h y (List.mem_cons_of_mem _ hy)
  have hx:=h x List.mem_cons_self
  rw[List.filter_cons,List.filter_cons]
  by_cases h1:x.2=a
  ·have h2:x.1≠a:=fun z=>hx (z.trans h1.symm)
   simp[h1,h2];omega
  ·by_cases h2:x.1=a
   ·simp[h1,h2];omega
   ·simp[h1,h2];omega
def xi(ps:List (Int×Int))(a:Int)(h:ps.length < 64)(hne:∀x∈ps,x.1≠x.2):t8 [.tup (prL ps),.int a]=.ok (.lst .own (iL (nbL ps a))):=by
 refine az (v:=.lst .own (iL (nbL ps a))) ?_
 show y_ [some (.tup (prL ps)),some (.int a),none,none]=_
 unfold y_
 refine af (aw (v:=.lst .own (iL ((ps.filter fun x=>decide (x.2=a)).map (·.1)))) ?_ (by simp) rfl) ?_
 ·refine aV (xs:=prL ps) (by simp) (by simp;omega) ?_
  unfold iL prL
  rw[List.map_map]
  exact b_ (a:=prV) (f:=PV.int ∘ Prod.fst) (p:=fun x=>decide (x.2=a)) ps fun x _=>⟨[some (.int a),some (prV x)],by simp[tgN,aU,bQ],by simp,fun _=>⟨by simp,rfl,rfl⟩⟩
 simp only[s0_,s1_]
 refine af (aw (v:=.lst .own (iL ((ps.filter fun x=>decide (x.1=a)).map (·.2)))) ?_ (by simp) rfl) ?_
 ·refine aV (xs:=prL ps) (by simp) (by simp;omega) ?_
  rw[show iL ((ps.filter fun x=>decide (x.1=a)).map (·.2))=(ps.filter fun x=>decide (x.1=a)).map (PV.int ∘ Prod.snd)from List.map_map ..]
  exact b_ (a:=prV) (f:=PV.int ∘ Prod.snd) (p:=fun x=>decide (x.1=a)) ps fun x _=>⟨[some (.int a),some (prV x)],by simp[tgN,aU,bQ],by simp,fun _=>⟨by simp,rfl,rfl⟩⟩
 simp only[s0_,s1_]
 refine a9 ?_ (by simp)
 have h1:=kK a ps hne
 simp only[cw,bt,d9,bH,bN]
 simp[p1]
 rw[f_ (by decide) (by decide) (by simp;omega)]
 simp
 rw[nG _ (by simp;omega)]
 rfl
abbrev net(fl:Fl)(n:Nat)(ps:List (Int×Int)):PV:=.obj fl 8 [0,1,2] [.int n,.tup (prL ps),.tup ((List.range n).map fun k:Nat=>.tup (iL (nbL ps k)))]
@[simp] def Hn{p:Fl->Bool}:hasL p ((List.range n).map fun k:Nat=>PV.tup (iL (nbL ps k)))=false:=by
 induction List.range n with
 | nil=>rfl
 | cons a l ih=>simp[hasL,PV.has,ih]
@[simp] def Hm:mapL g ((List.range n).map fun k:Nat=>PV.tup (iL (nbL ps k)))=(List.range n).map fun k:Nat=>PV.tup (iL (nbL ps k)):=by
 induction List.range n with
 | nil=>rfl
 | cons a l ih=>simp[mapL,PV.mapF,ih]
def vF(hk:k < n):t9 [net .bor n ps,.int k]=.ok (.lst .own (iL (nbL ps k))):=by
 refine az (v:=.lst .own (iL (nbL ps k))) ?_
 show qS [some (net .bor n ps),some (.int k)]=_
 unfold qS
 refine a9 ?_ (by simp)
 have e:aO (.tup ((List.range n).map fun k:Nat=>PV.tup (iL (nbL ps k)))) (.int k)=.ok (.tup (iL (nbL ps k))):=by
  have hk':((List.range n).map fun k:Nat=>PV.tup (iL (nbL ps k)))[k]?=some (.tup (iL (nbL ps k))):=by simp[hk]
  exact iM rfl hk' (by simp[PV.has])
 simp[ao,aW,p1,bT,e,aL]
def mX(ps:List (Int×Int))(i j:Nat):Prop:=((i:Int),(j:Int))∈ ps \/((j:Int),(i:Int))∈ ps
def DT(hr:r < n)(hn:n<=10)(g:∀x∈ps,0<=x.1/\x.1 < n/\0<=x.2/\x.2 < n) :
  ∃far,t7 [net .bor n ps,.int r]=.ok (.lst .own (iL far))/\sL n r (mX ps) far:=by
 have a0:ao 0 (net .bor n ps)=.ok (.int n):=by simp[ao,aW]
 have end_:∀e:En,(∃far a b c,e=[some (net .bor n ps),some (.int r),some (.lst .own (iL far)),a,b,c]/\Far n r (mX ps) n 0 (fun _=>False) far)->∃far,eY 2 e=.ret (.lst .own (iL far))/\sL n r (mX ps) far:=fun e ⟨far,a,b,c,he,F⟩=>⟨far,by subst he;exact fD rfl,F.dist⟩
 let P:Nat->En->Prop:=fun s e=>∃far a b c,e=[some (net .bor n ps),some (.int r),some (.lst .own (iL far)),a,b,c]/\Far n r (mX ps) s 0 (fun _=>False) far
 have loop:∃e2,dB (b8 (ae (mUn (ao 0) (ac 0)) am)) (tgN 3)
   (dB (b8 (ae (mUn (ao 0) (ac 0)) am)) (tgN 4)
   (mBr (aA (mOp pEq (mOp aO (ac 2) (ac 4)) (ac 3)))
   (dB (fG (bI bG (ac 0) (ae (ac 4) am))) (tgN 5)
   (jq 2 (ac 5) (aq (gL min) (ae (mOp aO (ac 2) (ac 5)) (ae (mOp aY (ac 3) (mC (.int (1)))) am)))))
   aZ)) [some (net .bor n ps),some (.int r),some (.lst .own (iL (((List.range n).map fun _=>(n:Int)).set r 0))),none,none,none]=.next e2/\P (cX 0 n).length e2:=by
  refine j8 P (bP (n:=n) (by simp[a0]) (by omega)) ⟨_,_,_,_,rfl,Far.start hr (fun i hi=>?_) (by simp)⟩ (fun s x e hx hP=>?_)
  ·rw[eE _ (by simpa using hr)]
   simp[gt,hi]
  ·obtain⟨far,a,b,c,rfl,F⟩:=hP
   obtain⟨hs,rfl⟩:=dW hx
   suffices kJ _ _ by
    obtain⟨e2,h1,h2⟩:=this
    exact⟨_,e2,dq rfl,h1,h2⟩
   refine kC (fun k e=>∃far b c,e=[some (net .bor n ps),some (.int r),some (.lst .own (iL far)),some (.int (0+(s:Int))),b,c]/\Far n r (mX ps) s k (fun _=>False) far) (bP (n:=n) (by simp[a0]) (by omega)) ⟨_,_,_,rfl,F⟩ (fun k x e hx hP=>?_) (fun e hP=>?_)
   ·obtain⟨far,b,c,rfl,F⟩:=hP
    obtain⟨hk,rfl⟩:=dW hx
    have ix:∀ (f:Fl) (i:Nat),i < n->aO (.lst f (iL far)) (.int i)=.ok (.int (gt far i)):=fun f i hi=>j5 _ (by omega) (by
     have:i < far.length:=by rw[F.len];exact hi
     simp[gt,this])
    refine⟨_,dq rfl,?_⟩
    simp only[s0_,s1_]
    by_cases hv:gt far k=s
    ·refine vn (by simp[ix _ k hk,hv]) ?_
     have nbs:∀o∈nbL ps k,∃j:Nat,o=j/\j < n/\mX ps j k:=fun o ho=>by
      rcases oS.mp ho with q | q
      ·have:=g _ q
       exact⟨o.toNat,by omega,by omega,.inl (by rw[show((o.toNat:Nat):Int)=o by omega];exact q)⟩
      ·have:=g _ q
       exact⟨o.toNat,by omega,by omega,.inr (by rw[show((o.toNat:Nat):Int)=o by omega];exact q)⟩
     refine kC (fun q e=>∃far c,e=[some (net .bor n ps),some (.int r),some (.lst .own (iL far)),some (.int (0+(s:Int))),some (.int (0+(k:Int))),c]/\Far n r (mX ps) s k (fun j=>(j:Int)∈(nbL ps k).take q) far/\gt far k=s) (xs:=iL (nbL ps k)) ?_ ⟨far,_,rfl,F.none (by simp),hv⟩ (fun q x e hx hP=>?_) (fun e hP=>?_)
     ·have bk:=vF (ps:=ps) hk
      refine eM (f:=.own) ?_ rfl (by simp) (by simp)
      simp[bG,bk,aD]
     ·obtain⟨far,c,rfl,F,hv⟩:=hP
      rw[xS]at hx
      obtain⟨o,ho,rfl⟩:∃o,(nbL ps k)[q]?=some o/\x=.int o:=by
       cases e:(nbL ps k)[q]? with
       | none=>rw[e]at hx;cases hx
       | some w=>rw[e]at hx;cases hx;exact⟨w,rfl,rfl⟩
      obtain⟨j,rfl,hj,aj⟩:=nbs o (List.mem_of_getElem? ho)
      have ix:∀ (f:Fl) (i:Nat),i < n->aO (.lst f (iL far)) (.int i)=.ok (.int (gt far i)):=fun f i hi=>j5 _ (by omega) (by
       have:i < far.length:=by rw[F.len];exact hi
       simp[gt,this])
      obtain⟨F',hv'⟩:=F.relax hk hv hj aj hs
      refine⟨_,dq rfl,bC (pO (v:=.int (min (gt far j) ((s:Int)+1))) (xs:=iL far) (j:=j) (n:=j) (by simp[ix _ j hj,gL]) rfl (by simp) (oW (by rw[bB,F.len];exact hj)) (by simp)) ⟨_,some (.int j),?_,?_,hv'⟩⟩
      ·rw[qu];rfl
      ·have e:∀i:Nat,((i:Int)∈(nbL ps k).take (q+1))=((i:Int)∈(nbL ps k).take q\/i=j):=fun i=>by
        rw[List.take_add_one,ho]
        simp
        exact or_congr_right ⟨fun h=>by omega,fun h=>by omega⟩
       simp only[e]
       exact F'
     ·obtain⟨far,c,rfl,F,hv⟩:=hP
      refine⟨far,_,_,rfl,F.close fun j hj a=>?_⟩
      rw[bB,List.take_length]
      exact oS.mpr (a.elim .inr .inl)
    ·refine n5 (by simp[ix _ k hk,hv]) (bC aI ⟨far,_,_,rfl,F.skip hv⟩)
   ·obtain⟨far,b,c,rfl,F⟩:=hP
    rw[bp]at F
    exact⟨far,_,_,_,rfl,F.next⟩
 obtain⟨e2,h1,h2⟩:=loop
 rw[bp]at h2
 obtain⟨far,h3,h4⟩:=end_ e2 h2
 refine⟨far,az (v:=.lst .own (iL far)) ?_,h4⟩
 show y0 [some (net .bor n ps),some (.int r),none,none,none,none]=_
 unfold y0
 refine af (aw (v:=.lst .own (iL ((List.range n).map fun _=>(n:Int)))) ?_ (by simp) rfl) ?_
 ·refine aV (xs:=cX 0 n) (bP (n:=n) (by simp[a0]) (by omega)) (by rw[bp];omega) ?_
  rw[show iL ((List.range n).map fun _=>(n:Int))=(List.range n).map (fun _=>PV.int n)from by simp[iL]]
  exact bL (a:=fun k:Nat=>PV.int (0+(k:Int))) (f:=fun _=>PV.int n) (List.range n) fun k _=>⟨[some (net .bor n ps),some (.int (0+k))],by simp[tgN,aU,bQ,PV.borrow],by simp[a0],rfl,rfl⟩
 simp only[s0_,s1_]
 refine af (pO (v:=.int 0) (xs:=iL ((List.range n).map fun _=>(n:Int))) (j:=r) (n:=r) (by simp) rfl (by simp) (oW (by simpa using hr)) (by simp)) ?_
 rw[qu]
 exact af h1 h3
def DE{far:List Int}(h:far≠[])(hb:∀x∈far,x < b):jS far < b:=hb _ (lZ h).1
def Ba(g:ES n ws)(h1:1<=n)(hn:n<=10)(hf:fl.lend.toBor=.bor\/fl.lend.toBor=.frz)(conn:∀S:Nat->Prop,S 0->(∀i < n,∀j < n,mX (cP (ws.map mm)) i j->S i->S j)->∀i < n,S i) :
  yd [.obj .own 8 [] [],.int n,.lst fl (prL ws)]=.ok (net .own n (cP (ws.map mm))):=by
 have hfl:fl.lend.toBor.lend=fl.lend.toBor:=by rcases hf with e | e<;>rw[e]<;>rfl
 have hfi:fl.lend.toBor.isLnt=false:=by rcases hf with e | e<;>rw[e]<;>rfl
 have o1:=rV (fl:=fl.lend.toBor) g hfl hfi
 have rg:∀x∈cP (ws.map mm),0<=x.1/\x.1 < n/\0<=x.2/\x.2 < n/\x.1≠x.2:=fun x hx=>by
  obtain⟨w,hw,rfl⟩:=List.mem_map.mp ((c9 _).mem_iff.mp hx)
  have:=g.rg w hw
  simp only[mm]
  omega
 have sz:(cP (ws.map mm)).length < 64:=by rw[(c9 _).length_eq,List.length_map];exact g.sz
 generalize hps:cP (ws.map mm)=ps at *
 have nb:∀k:Nat,t8 [.tup (prL ps),.int k]=.ok (.lst .own (iL (nbL ps k))):=fun k=>xi ps k sz fun x hx=>(rg x hx).2.2.2.2
 obtain⟨far,e1,D⟩:=DT (n:=n) (r:=0) (ps:=ps) (by omega) hn fun x hx=>⟨(rg x hx).1,(rg x hx).2.1,(rg x hx).2.2.1,(rg x hx).2.2.2.1⟩
 have hall:=D.all (by omega) conn
 have hne:far≠[]:=fun z=>by have:=D.len;rw[z]at this;simp at this;omega
 have hmx:jS far < n:=DE hne fun x hx=>by
  obtain⟨i,hi,rfl⟩:=List.getElem_of_mem hx
  have:=hall i (by rw[<- D.len];exact hi)
  simpa[gt,hi]using this
 refine cJ (e:=[some (net .own n ps),some (.int n),some (.lst fl (prL ws))]) ?_ rfl
 show yZ [some (.obj .own 8 [] []),some (.int n),some (.lst fl (prL ws))]=_
 unfold yZ
 have rf:=rM n 1 (by omega) (by omega)
 refine af (gW (v:=.non) (by simp[rf,aD])) ?_
 refine af (bD (v:=.int n) (ks:=[]) (vs:=[]) (by simp) rfl (by simp) rfl (by decide)) ?_
 simp only[s0_,s1_]
 refine af (bD (v:=.tup (prL ps)) (ks:=[0]) (vs:=[.int n]) ?_ rfl (by simp) rfl (by decide)) ?_
 ·simp[o1,aD,p1,eB,aL]
 simp only[s0_,s1_]
 refine af (bD (v:=.tup ((List.range n).map fun k:Nat=>.tup (iL (nbL ps k)))) (ks:=[0,1]) (vs:=[.int n,.tup (prL ps)]) ?_ rfl (by simp) rfl (by decide)) ?_
 ·simp only[cw,bt,bN]
  rw [aV (xs:=cX 0 n) (ys:=(List.range n).map fun k:Nat=>.tup (iL (nbL ps k))) (bP (n:=n) (by simp) (by omega)) (by rw [bp];omega)
   (bL (a:=fun k:Nat=>PV.int (0+(k:Int))) (f:=fun k:Nat=>.tup (iL (nbL ps k))) (List.range n) fun k _=>⟨[some (.obj .bor 8 [0,1] [.int n,.tup (prL ps)]),some (.int (0+k))],by simp[tgN,aU,bQ],by simp[ao,aW,nb,aD,p1,eB,aL],by simp[PV.has],by simp[PV.has]⟩)]
  simp[p1,eB,aL]
 simp only[s0_,s1_]
 refine ce ?_ aI
 have hi:far.isEmpty=false:=by cases far with | nil=>exact absurd rfl hne | cons a l=>rfl
 have e2:t7 [net .bor n ps,.int 0]=.ok (.lst .own (iL far)):=e1
 simp[e2,aD,p1,gd,aL,hi]
 omega
def cell(ns:List Int)(k:Nat):Int:=ns.getD k 0
def ui(ns:List Int)(k:Nat)(h:Scr fl):hG [.lst fl (iL ns),.int k]=.ok (.int (cell ns k)):=by
 refine az ?_
 show zf [some (.lst fl (iL ns)),some (.int k)]=_
 unfold zf cell
 by_cases hk:k < ns.length
 ·refine gG (jz (by simp[h.lend,hk]) (a9 ?_ (by simp)))
  simp only[d9,bH]
  simp[h.lend]
  rw[j5 ns (by omega) (n:=ns.getD k 0) (by simp[hk])]
  simp[hk]
 ·refine af (ce (by simp[h.lend,hk]) aI) (a9 (by simp[List.getElem?_eq_none (Nat.le_of_not_lt hk)]) (by simp))
def jD(n:Int):mI [.int n]=.ok (.bl true):=by
 refine az (v:=.bl true) ?_
 show y3 [some (.int n)]=_
 unfold y3
 exact a9 (by simp[mf]) (by simp)
def Bx{m:Nat}(Wh:fL n m ws)(hr:r < n)(S:Nat->Prop)(h0:S r)(hc:∀i < n,∀j < n,mX (cP (ws.map mm)) i j->S i->S j):∀i < n,S i:=fun i hi=>by
 have:=Wh.cn (fun x=>S x.toNat) (fun w hw=>?_) r i hr hi (by simpa using h0)
 ·simpa using this
 ·have rg:=Wh.rg w hw
  have hm:mm w∈cP (ws.map mm):=(c9 _).mem_iff.mpr (List.mem_map_of_mem hw)
  have e1:((w.1.toNat:Nat):Int)=w.1:=by omega
  have e2:((w.2.toNat:Nat):Int)=w.2:=by omega
  have ad:mX (cP (ws.map mm)) w.1.toNat w.2.toNat:=by
   unfold mX
   rw[e1,e2]
   rcases Int.le_total w.1 w.2 with h | h
   ·left
    rw[show(w.1,w.2)=mm w by simp only[mm,Prod.mk.injEq];omega]
    exact hm
   ·right
    rw[show(w.2,w.1)=mm w by simp only[mm,Prod.mk.injEq];omega]
    exact hm
  exact⟨hc _ (by omega) _ (by omega) ad,hc _ (by omega) _ (by omega) (ad.elim .inr .inl)⟩
def fnd(ws:List (Int×Int))(a:Int):List Int:=ws.flatMap fun w=>(if w.1=a then [w.2]else [])++(if w.2=a then [w.1]else [])
def oV:Option Int->PV
 | none=>.non
 | some s=>.int s
def oL(os:List (Option Int)):List PV:=os.map oV
@[simp] def Id(os:List (Option Int)):(oL os).length=os.length:=by simp[oL]
@[simp] def Ie{p:Fl->Bool}:hasL p (oL os)=false:=by
 induction os with
 | nil=>rfl
 | cons o os ih=>cases o<;>simpa[oL,oV,hasL,PV.has]using ih
@[simp] def Ic:mapL g (oL os)=oL os:=by
 induction os with
 | nil=>rfl
 | cons o os ih=>cases o<;>simpa[oL,oV,mapL,PV.mapF]using ih
@[simp] def Ih:PyData.canLayAll0 (dataL (oL os))=true:=by
 induction os with
 | nil=>rfl
 | cons o os ih=>cases o <;>(simp only[oL,List.map_cons,oV,dataL,PV.data,PyData.canLayAll0]at ih ⊢;rw[ih];rfl)
@[simp] def Ig:PyData.depthAll (dataL (oL os))=0:=by
 induction os with
 | nil=>rfl
 | cons o os ih=>cases o <;>(simp only[oL,List.map_cons,oV,dataL,PV.data,PyData.depthAll]at ih ⊢;rw[ih];rfl)
def OkS(tp:Int)(os:List (Option Int)):Prop:=∀s,some s∈os->0<=s/\s < tp
def Fc(f:Fl):Prop:=f=.bor\/f=.frz
def Fc.le(h:Fc f):f.lend=f:=by rcases h with rfl | rfl<;>rfl
def Fc.tb(h:Fc f):f.toBor=f:=by rcases h with rfl | rfl<;>rfl
def Fc.bo(h:Fc f):f.borrow=f:=by rcases h with rfl | rfl<;>rfl
def Fc.nl(h:Fc f):f.isLnt=false:=by rcases h with rfl | rfl<;>rfl
def Fc.of(h:Fc f\/f=.own):Fc f.borrow:=by
 rcases h with(rfl | rfl) | rfl
 ·exact .inl rfl
 ·exact .inr rfl
 ·exact .inl rfl
def jB(hk:k < n):t9 [net .frz n ps,.int k]=.ok (.lst .own (iL (nbL ps k))):=by
 refine az (v:=.lst .own (iL (nbL ps k))) ?_
 show qS [some (net .frz n ps),some (.int k)]=_
 unfold qS
 refine a9 ?_ (by simp)
 have e:aO (.tup ((List.range n).map fun k:Nat=>PV.tup (iL (nbL ps k)))) (.int k)=.ok (.tup (iL (nbL ps k))):=by
  have hk':((List.range n).map fun k:Nat=>PV.tup (iL (nbL ps k)))[k]?=some (.tup (iL (nbL ps k))):=by simp[hk]
  exact iM rfl hk' (by simp[PV.has])
 simp[ao,aW,p1,bT,e,aL]
abbrev pnt(fl:Fl)(n:Nat)(ps:List (Int×Int)):PV:=.obj fl 2 [4,0,7,8] [net .frz n ps,.int n,.int n,.bl false]
def uB:gu [.obj .own 2 [4] [net .frz n ps],.int n,.int n,.bl false]=.ok (pnt .own n ps):=by
 refine cJ (e:=[some (pnt .own n ps),some (.int n),some (.int n),some (.bl false)]) ?_ rfl
 show iT [some (.obj .own 2 [4] [net .frz n ps]),some (.int n),some (.int n),some (.bl false)]=_
 unfold iT
 refine af (bD (v:=.int n) (ks:=[4]) (vs:=[net .frz n ps]) (by simp) rfl (by simp) rfl (by decide)) ?_
 refine af (bD (v:=.int n) (ks:=[4,0]) (vs:=[net .frz n ps,.int n]) (by simp) rfl (by simp) rfl (by decide)) ?_
 exact bD (v:=.bl false) (ks:=[4,0,7]) (vs:=[net .frz n ps,.int n,.int n]) (by simp) rfl (by simp) rfl (by decide)
def vz:mJ [.obj .own 2 [4] [net .frz n ps],.int n,.int n]=.ok (pnt .own n ps):=by
 refine cJ (e:=[some (pnt .own n ps),some (.int n),some (.int n)]) ?_ rfl
 show qT [some (.obj .own 2 [4] [net .frz n ps]),some (.int n),some (.int n)]=_
 unfold qT
 exact gD (xs:=[.int n,.int n,.bl false]) rfl (by simp) (by simp) (by simpa using uB (n:=n) (ps:=ps)) (by simp[PV.has])
def uK:D1 [.obj .own 2 [] [],net .frz n ps]=.ok (pnt .own n ps):=by
 refine cJ (e:=[some (pnt .own n ps),some (net .frz n ps)]) ?_ rfl
 show Ez [some (.obj .own 2 [] []),some (net .frz n ps)]=_
 unfold Ez
 refine af (cM (v:=net .frz n ps) rfl) ?_
 simp only[s0_,s1_]
 refine af (bD (v:=net .frz n ps) (ks:=[]) (vs:=[]) (by simp[PV.mapF,Fl.freeze]) rfl (by simp[PV.noLnt,PV.has]) rfl (by decide)) ?_
 simp only[s0_,s1_]
 have:=gD (env:=[some (.obj .own 2 [4] [net .frz n ps]),some (net .frz n ps)]) (m:=mJ) (ms:=ae (mUn (ao 0) (ac 1)) (ae (mUn (ao 0) (ac 1)) am)) (xs:=[.int n,.int n]) rfl (by simp[ao,aW]) (by simp) (by simpa using vz (n:=n) (ps:=ps)) (by simp[PV.has])
 simpa[PV.mapF,Fl.freeze]using this
def l6(ps:List (Int×Int))(i:Nat):List Int:=(nbL ps i).filter fun x=>decide (x <(i:Int))
def xW(hi:i < n)(hl:(nbL ps i).length<=1000):D7 [pnt .frz n ps,.int i]=.ok (.lst .own (iL (l6 ps i))):=by
 refine az ?_
 show EJ [some (pnt .frz n ps),some (.int i)]=_
 unfold EJ l6
 have be:=jB (ps:=ps) hi
 refine a9 ?_ (by simp)
 have:=fT (env:=bQ [1] 1 [some (pnt .frz n ps),some (.int i)]) (g:=tgN 1) (mc:=aA (mOp pLt (ac 1) (ac 0))) (me:=ac 1) (fun x=>decide (x <(i:Int))) (fun x=>x) (nbL ps i) fun x hx=>⟨[some (.int i),some (.int x)],by simp[tgN,aU,bQ],by simp,fun _=>by simp⟩
 rw[List.map_id']at this
 exact aV (xs:=iL (nbL ps i)) (by simp[ao,aW,bG,be,aD]) (by rw[bB];omega) this
def kr(l:List Int):Nat:=((List.range (l.length+1)).find? fun j:Nat=>!l.contains (j:Int)).getD 0
def ql(l:List Int):((kr l:Nat):Int)∉ l/\∀j,j < kr l->(j:Int)∈ l:=by
 have ex:∃j,j < l.length+1/\(j:Int)∉ l:=by
  apply Classical.byContradiction
  intro no
  have h:=qf (l:=(List.range (l.length+1)).map fun k:Nat=>(k:Int)) (l':=l) (List.Pairwise.map _ (fun a b h e=>h (by omega)) List.nodup_range) fun x hx=>by
   obtain⟨k,hk,rfl⟩:=List.mem_map.mp hx
   exact Classical.byContradiction fun z=>no ⟨k,List.mem_range.mp hk,z⟩
  simp at h
  omega
 unfold kr
 cases e:(List.range (l.length+1)).find? fun j:Nat=>!l.contains (j:Int)with
 | none =>
  exfalso
  obtain⟨j,h1,h2⟩:=ex
  have:=List.find?_eq_none.mp e j (List.mem_range.mpr h1)
  simp at this
  exact h2 this
 | some m =>
  simp only[Option.getD_some]
  have h1:=List.find?_some e
  refine⟨by simpa using h1,fun j hj=>?_⟩
  have h2:=(List.find?_range_eq_some.mp e).2.2 j hj
  simpa using h2
def xG{L':List Int}(h:∀x∈l,x∈L'):kr l<=L'.length:=by
 have:=qf (l:=(List.range (kr l)).map fun k:Nat=>(k:Int)) (l':=L') (List.Pairwise.map _ (fun a b h e=>h (by omega)) List.nodup_range) fun x hx=>by
  obtain⟨k,hk,rfl⟩:=List.mem_map.mp hx
  exact h _ ((ql l).2 k (List.mem_range.mp hk))
 simpa using this
def kE(ps:List (Int×Int))(cs:List Int)(i:Nat):Int:=kr ((l6 ps i).map fun o=>gt cs o.toNat)
def oU(rg:∀x∈ps,0<=x.1/\x.1 < n/\0<=x.2/\x.2 < n/\x.1≠x.2){o:Int}(h:o∈l6 ps i):0<=o/\o < n/\o < i/\((o,(i:Int))∈ ps \/((i:Int),o)∈ ps):=by
 obtain⟨h1,h2⟩:=List.mem_filter.mp h
 have h3:=oS.mp h1
 simp only[decide_eq_true_eq]at h2
 rcases h3 with z | z
 ·have:=rg _ z
  exact⟨this.1,this.2.1,h2,.inl z⟩
 ·have:=rg _ z
  exact⟨this.2.2.1,this.2.2.2.1,h2,.inr z⟩
def Bq(rg:∀x∈ps,0<=x.1/\x.1 < n/\0<=x.2/\x.2 < n/\x.1≠x.2)(hi:i < n):0<=kE ps cs i/\kE ps cs i < n:=by
 unfold kE
 have:=xG (l:=(l6 ps i).map fun o=>gt cs o.toNat) (L':=(List.range i).map fun k=>gt cs k) fun x hx=>by
  obtain⟨o,ho,rfl⟩:=List.mem_map.mp hx
  have:=oU rg ho
  exact List.mem_map.mpr ⟨o.toNat,List.mem_range.mpr (by omega),rfl⟩
 simp at this
 omega
def yK{cs':List Int}(rg:∀x∈ps,0<=x.1/\x.1 < n/\0<=x.2/\x.2 < n/\x.1≠x.2)(h:∀j,j < i->gt cs j=gt cs' j):kE ps cs i=kE ps cs' i:=by
 unfold kE
 congr 2
 refine List.map_congr_left fun o ho=>?_
 have:=oU rg ho
 exact h _ (by omega)
def zQ(rg:∀x∈ps,0<=x.1/\x.1 < n/\0<=x.2/\x.2 < n/\x.1≠x.2)(hfc:Fc fc)(hl:∀i,(nbL ps i).length<=1000)(hn:cs.length=n)(hi:i < n):yz [pnt .frz n ps,.lst fc (iL cs),.int i]=.ok (.int (kE ps cs i)):=by
 refine az ?_
 show zx [some (pnt .frz n ps),some (.lst fc (iL cs)),some (.int i),none,none]=_
 unfold zx kE
 have ha:=xW (ps:=ps) hi (hl i)
 have ll:(l6 ps i).length<=1000:=Nat.le_trans (List.length_filter_le _ _) (hl i)
 refine af (aw (v:=.lst .own (iL ((l6 ps i).map fun o=>gt cs o.toNat))) ?_ (by simp) rfl) ?_
 ·refine aV (xs:=iL (l6 ps i)) (by simp[bE,ha,aD]) (by rw[bB];omega) (eF (fun o=>gt cs o.toNat) (l6 ps i) fun o ho=>⟨[some (.lst fc (iL cs)),some (.int o)],by simp[tgN,aU,bQ,hfc.bo],?_⟩)
  have:=oU rg ho
  simp[hfc.le,cL (f:=fc) (cs:=cs) (i:=o) this.1 (by omega)]
 simp only[s0_,s1_]
 have tkl:((l6 ps i).map fun o=>gt cs o.toNat).length<=1000:=by rw[List.length_map];exact ll
 generalize(l6 ps i).map (fun o=>gt cs o.toNat)=tk at *
 obtain⟨m1,m2⟩:=ql tk
 refine af (aw (v:=.int 0) (by simp) (by simp) rfl) ?_
 simp only[s0_,s1_]
 have mb:kr tk < 100000:=by
  have:=xG (l:=tk) (L':=tk) fun x hx=>hx
  omega
 refine uv (Fin:=fun e=>e=[some (pnt .frz n ps),some (.lst fc (iL cs)),some (.int i),some (.lst .own (iL tk)),some (.int (kr tk))]) (fun m e=>∃c:Nat,e=[some (pnt .frz n ps),some (.lst fc (iL cs)),some (.int i),some (.lst .own (iL tk)),some (.int c)]/\m=kr tk - c/\c<=kr tk) (kr tk) mb ⟨0,rfl,by omega,by omega⟩ (fun m e hP=>?_) fun e hF=>?_
 ·obtain⟨c,rfl,rfl,hc⟩:=hP
  by_cases q:c=kr tk
  ·subst q
   exact .inl ⟨by simp;exact m1,rfl⟩
  ·have:=m2 c (by omega)
   exact .inr ⟨by simp;exact this,kr tk - (c+1),[some (pnt .frz n ps),some (.lst fc (iL cs)),some (.int i),some (.lst .own (iL tk)),some (.int (c+1:Nat))],by omega,.inl (aw (v:=.int ((c+1:Nat):Int)) (by simp) (by simp) rfl),c+1,rfl,rfl,by omega⟩
 ·subst hF
  exact fD rfl
abbrev lea(fl:Fl)(c:Nat)(n:Nat)(ps:List (Int×Int))(os:List (Option Int))(st tp:Int):PV:=.obj fl c [3,4,5,6,0,7,8] [.int tp,net .frz n ps,.tup (oL os),.int st,.int n,.int (tp+1),.bl true]
def tH(h1:1<=x)(h2:x<=10):t_ [.int x]=.ok .non:=by
 refine f9 ⟨[some (.int x)],?_⟩
 show zd [some (.int x)]=_
 unfold zd
 exact ce (by simp[show ¬x < 1 by omega,show ¬10 < x by omega]) aI
def rJ{gf:Fl}(hg:gf=.bor\/gf=.frz)(hf:f=.bor\/f=.frz)(hn:os.length=n)(ho:OkS tp os):yr [net gf n ps,.lst f (oL os),.int tp]=.ok .non:=by
 have hf1:f.lend=f:=by rcases hf with rfl | rfl<;>rfl
 have hf2:f.isLnt=false:=by rcases hf with rfl | rfl<;>rfl
 have hg1:gf.lend=gf:=by rcases hg with rfl | rfl<;>rfl
 refine f9 ?_
 show Ends (zn [some (net gf n ps),some (.lst f (oL os)),some (.int tp),none])
 unfold zn
 refine iQ (ce (by simp[hf1,hg1,p1,bU,aL,ao,aW,hn]) aI) ?_
 refine o3 (fun _ e=>∃x,e=[some (net gf n ps),some (.lst f (oL os)),some (.int tp),x]) (fun r=>∃e,r=.next e) (xs:=oL os) (eM (f:=f) (by simp[hf1]) hf2 (by simp) (by simp)) ⟨_,rfl⟩ (fun k x e hx hP=>?_) (fun e hP=>⟨e,rfl⟩)
 obtain⟨y,rfl⟩:=hP
 simp only[oL,List.getElem?_map]at hx
 obtain⟨o,ho1,rfl⟩:=Option.map_eq_some_iff.mp hx
 refine⟨_,dq rfl,.inl ⟨_,.inl (ce ?_ aI),_,rfl⟩⟩
 cases o with
 | none=>simp[oV,jd,PV.isNon]
 | some s =>
  have:=ho s (List.mem_of_getElem? ho1)
  simp[oV,jd,PV.isNon,show ¬s < 0 by omega,show ¬tp<=s by omega]
def uC:gu [.obj .own cc [3,4,5,6] [.int tp,net .frz n ps,.tup (oL os),.int st],.int n,.int (tp+1),.bl true]=.ok (lea .own cc n ps os st tp):=by
 refine cJ (e:=[some (lea .own cc n ps os st tp),some (.int n),some (.int (tp+1)),some (.bl true)]) ?_ rfl
 show iT [some (.obj .own cc [3,4,5,6] [.int tp,net .frz n ps,.tup (oL os),.int st]),some (.int n),some (.int (tp+1)),some (.bl true)]=_
 unfold iT
 refine af (bD (v:=.int n) (ks:=[3,4,5,6]) (vs:=[.int tp,net .frz n ps,.tup (oL os),.int st]) (by simp) rfl (by simp) rfl (by decide)) ?_
 refine af (bD (v:=.int (tp+1)) (ks:=[3,4,5,6,0]) (vs:=[.int tp,net .frz n ps,.tup (oL os),.int st,.int n]) (by simp) rfl (by simp) rfl (by decide)) ?_
 exact bD (v:=.bl true) (ks:=[3,4,5,6,0,7]) (vs:=[.int tp,net .frz n ps,.tup (oL os),.int st,.int n,.int (tp+1)]) (by simp) rfl (by simp) rfl (by decide)
def qq{bk:Int}(hf:f.lend.toBor=.bor\/f.lend.toBor=.frz)(h1:1<=st)(h2:st<=10)(h3:1<=bk)(h4:bk<=10)(hn:os.length=n)(ho:OkS (st * bk) os):vq [.obj .own cc [] [],net .frz n ps,.lst f (oL os),.int st,.int bk]=.ok (lea .own cc n ps os st (st * bk)):=by
 refine cJ (e:=[some (lea .own cc n ps os st (st * bk)),some (net .frz n ps),some (.lst f (oL os)),some (.int st),some (.int bk)]) ?_ rfl
 show Ew [some (.obj .own cc [] []),some (net .frz n ps),some (.lst f (oL os)),some (.int st),some (.int bk)]=_
 unfold Ew
 have r1:=tH h1 h2
 have r2:=tH h3 h4
 have r3:=rJ (ps:=ps) (gf:=.frz) (.inr rfl) hf hn ho
 have mu:dG (.int st) (.int bk)=.ok (.int (st * bk)):=eU (.inl ⟨by omega,by omega⟩)
 generalize st * bk=tp at *
 refine af (gW (v:=.non) (by simp[r1,aD])) ?_
 refine af (gW (v:=.non) (by simp[r2,aD])) ?_
 refine af (bD (v:=.int tp) (ks:=[]) (vs:=[]) (by simp[mu]) rfl (by simp) rfl (by decide)) ?_
 simp only[s0_,s1_]
 refine af (gW (v:=.non) (by simp[ao,aW,r3,aD])) ?_
 refine af (cM (v:=net .frz n ps) rfl) ?_
 simp only[s0_,s1_]
 refine af (bD (v:=net .frz n ps) (ks:=[3]) (vs:=[.int tp]) (by simp[PV.mapF,Fl.freeze]) rfl (by simp[PV.noLnt,PV.has]) rfl (by decide)) ?_
 simp only[s0_,s1_]
 refine af (bD (v:=.tup (oL os)) (ks:=[3,4]) (vs:=[.int tp,net .frz n ps]) (by simp[p1,eB,aL]) rfl (by simp[PV.noLnt,PV.has]) rfl (by decide)) ?_
 simp only[s0_,s1_]
 refine af (bD (v:=.int st) (ks:=[3,4,5]) (vs:=[.int tp,net .frz n ps,.tup (oL os)]) (by simp) rfl (by simp) rfl (by decide)) ?_
 simp only[s0_,s1_]
 have:=gD (env:=[some (.obj .own cc [3,4,5,6] [.int tp,net .frz n ps,.tup (oL os),.int st]),some (net .frz n ps),some (.lst f (oL os)),some (.int st),some (.int bk)]) (m:=gu) (ms:=ae (mUn (ao 0) (ac 1)) (ae (mOp aY (mUn (ao 3) (ac 0)) (mC (.int (1)))) (ae (mC (.bl true)) am))) (xs:=[.int n,.int (tp+1),.bl true]) rfl (by simp[ao,aW]) (by simp) (by simpa using uC (cc:=cc) (n:=n) (ps:=ps) (os:=os) (st:=st) (tp:=tp)) (by simp[PV.has])
 simpa[PV.mapF,Fl.freeze]using this
def tN(st tp c:Int):Bool:=decide (c≠tp)&&decide ((c+1) % st≠0)
def h_(ps:List (Int×Int))(st tp:Int)(cs:List Int)(i:Nat):List Int:=(((nbL ps i).map fun o=>gt cs o.toNat).filter (tN st tp)).map (· + 1)
def fO(ps:List (Int×Int))(os:List (Option Int))(st tp:Int)(cs:List Int)(i:Nat):Int:=fY (h_ ps st tp cs i ++(os.getD i none).toList++[tp])
def tz(h:l≠[]):gd fY (.lst f (iL l))=.ok (.int (fY l)):=by
 unfold gd
 simp only[aL,i5]
 rw[if_neg (by simpa using h)]
def xb(hs:0 < st):vv [lea .frz cc n ps os st tp,.int c]=.ok (.bl (tN st tp c)):=by
 refine az ?_
 show EK [some (lea .frz cc n ps os st tp),some (.int c)]=_
 unfold EK tN
 refine a9 ?_ (by simp)
 by_cases h:c=tp
 ·simp[ao,aW,h]
 ·simp[ao,aW,h,bW hs]
def qr(hfc:Fc fc)(hcc:dz cc=some vv)(hnb:∀x∈nbL ps i,0<=x/\x < n)(hl:(nbL ps i).length<=1000)(hs:0 < st)(hn:cs.length=n)(ho:os.length=n)(hi:i < n):n9 [lea .frz cc n ps os st tp,.lst fc (iL cs),.int i]=.ok (.int (fO ps os st tp cs i)):=by
 refine az ?_
 show zA [some (lea .frz cc n ps os st tp),some (.lst fc (iL cs)),some (.int i),none,none]=_
 unfold zA
 have e3:=hfc.bo
 have be:=jB (ps:=ps) hi
 have l1:((nbL ps i).map fun o=>gt cs o.toNat).length<=1000:=by simpa using hl
 refine af (aw (v:=.lst .own (iL ((nbL ps i).map fun o=>gt cs o.toNat))) ?_ (by simp) rfl) ?_
 ·refine aV (xs:=iL (nbL ps i)) (by simp[ao,aW,bG,be,aD]) (by rw[bB];omega) (eF (fun o=>gt cs o.toNat) _ fun x hx=>⟨[some (.lst fc (iL cs)),some (.int x)],by simp[tgN,aU,bQ,e3],?_⟩)
  obtain⟨h1,h2⟩:=hnb x hx
  simp[hfc.le,cL (f:=fc) (cs:=cs) (i:=x) (by omega) (by omega)]
 simp only[s0_,s1_]
 have l2:(h_ ps st tp cs i).length<=1000:=by
  unfold h_
  rw[List.length_map]
  exact Nat.le_trans (List.length_filter_le _ _) l1
 refine af (aw (v:=.lst .own (iL (h_ ps st tp cs i))) ?_ (by simp) rfl) ?_
 ·unfold h_
  exact aV (xs:=iL ((nbL ps i).map fun o=>gt cs o.toNat)) (by simp) (by rw[bB];omega) (fT (tN st tp) (· + 1) _ fun x hx=>⟨[some (lea .frz cc n ps os st tp),some (.int x)],by simp[tgN,aU,bQ],by simp[hcc,xb hs,aD],fun _=>by simp⟩)
 simp only[s0_,s1_]
 have hio:i < os.length:=by omega
 have ix:aO (.tup (oL os)) (.int (i:Int))=.ok (oV os[i]):=iM rfl (by simp[oL,hio]) (by cases os[i]<;>rfl)
 have eg:os.getD i none=os[i]:=by simp[hio]
 unfold fO
 rw[eg]
 generalize os[i]=o at *
 generalize h_ ps st tp cs i=of at *
 cases o with
 | none =>
  refine af (ce (by simp[ao,aW,ix,oV,jd,PV.isNon]) aI) (a9 ?_ (by simp))
  have pl:aY (.lst .lnt (iL of)) (.lst .own [.int tp])=.ok (.lst .own (iL (of++[tp]))):=by
   rw[f_ (by decide) (by decide) (by simp;omega)]
   simp[iL]
  simp[ao,aW,pl,p1,tz (l:=of++[tp]) (by simp)]
 | some s =>
  refine af (jz (by simp[ao,aW,ix,oV,jd,PV.isNon]) (fv (v:=.int s) (xs:=iL of) (by simp[ao,aW,ix,oV]) rfl (by simp) (by rw[bB];omega))) ?_
  simp only[s0_,s1_]
  rw[show iL of++[PV.int s]=iL (of++[s]) by simp[iL]]
  refine a9 ?_ (by simp)
  have pl:aY (.lst .lnt (iL (of++[s]))) (.lst .own [.int tp])=.ok (.lst .own (iL (of++[s]++ [tp]))):=by
   rw[f_ (by decide) (by decide) (by simp;omega)]
   simp[iL]
  have pm:=tz (f:=.own) (l:=of++[s]++ [tp]) (by simp)
  show _=Res.ok (PV.int (fY (of++[s]++ [tp])))
  generalize of++[s]=of2 at *
  simp[ao,aW,pl,p1]
  exact pm
def fs(n r:Nat):List (Option Int):=(List.range n).map fun i=>if i=r then some 0 else none
def GZ:oL (fs n r)=(List.range n).map fun i=>oV (if i=r then some 0 else none):=by simp[oL,fs]
def mG(hf:f=.frz\/f=.own)(n1:1<=n)(n10:n<=10)(hr:r < n):qB [.obj .own 5 [] [],net f n ps,.int r]=.ok (lea .own 5 n ps (fs n r) n n):=by
 refine cJ (e:=[some (lea .own 5 n ps (fs n r) n n),some (net .frz n ps),some (.int r),some (.lst .frz (oL (fs n r)))]) ?_ rfl
 show zk [some (.obj .own 5 [] []),some (net f n ps),some (.int r),none]=_
 unfold zk
 refine af (ce (by simp[ao,aW,show ¬(r:Int) < 0 by omega,show ¬(n:Int)<= r by omega]) aI) ?_
 refine af (aw (v:=.lst .own (oL (fs n r))) ?_ (by simp[PV.noLnt,PV.has]) rfl) ?_
 ·refine aV (xs:=cX 0 n) (bP (n:=n) (by simp[ao,aW]) (by omega)) (by rw[bp];omega) ?_
  rw[GZ]
  refine bL (a:=fun k:Nat=>PV.int (0+(k:Int))) (f:=fun i=>oV (if i=r then some 0 else none)) (List.range n) fun k hk=>⟨[some (.int r),some (.int (0+k))],by simp[tgN,aU,bQ],?_,?_,?_⟩
  ·by_cases e:k=r
   ·simp[e,oV]
   ·simp[e,oV,show ¬(k:Int)=r by omega]
  ·by_cases e:k=r<;>simp[e,oV,PV.has]
  ·by_cases e:k=r<;>simp[e,oV,PV.has]
 simp only[s0_,s1_]
 refine af (cM (v:=.lst .own (oL (fs n r))) rfl) ?_
 simp only[s0_,s1_]
 refine af (cM (v:=net f n ps) rfl) ?_
 have efz:(net f n ps).mapF Fl.freeze=net .frz n ps:=by rcases hf with rfl | rfl<;>simp[PV.mapF,Fl.freeze]
 simp only[s0_,s1_,efz]
 have li:=qq (cc:=5) (n:=n) (ps:=ps) (os:=fs n r) (st:=n) (bk:=1) (f:=.frz) (.inr rfl) (by omega) (by omega) (by decide) (by decide) (by simp [fs]) (fun s hs=>by
  simp only[fs,List.mem_map,List.mem_range]at hs
  obtain⟨i,_,e⟩:=hs
  split at e
  ·cases e;omega
  ·cases e)
 rw[Int.mul_one]at li
 have:=gD (env:=[some (.obj .own 5 [] []),some (net .frz n ps),some (.int r),some (.lst .frz (oL (fs n r)))]) (m:=vq) (ms:=ae (ac 1) (ae (ac 3) (ae (mUn (ao 0) (ac 1)) (ae (mC (.int (1))) am)))) (xs:=[net .frz n ps,.lst .frz (oL (fs n r)),.int n,.int 1]) rfl (by simp[ao,aW,Fl.lend]) (by simp[PV.has]) (by simpa[Fl.toBor]using li) (by simp[PV.has])
 simpa[PV.mapF,Fl.freeze]using this
structure OkM(n:Nat)(ms:List Int):Prop where
 ml:ms.length=n
 nd:ms.Nodup
 mr:∀x∈ms,0<=x/\x<=9
def ls(n:Nat)(ms:List Int):List (Option Int):=ms.map fun x=>some ((9 - x) * n)
def xj(N:OkM n ms)(n10:n<=10):yq [net .frz n ps,.lst .bor (iL ms)]=.ok .non:=by
 have lu:=N.ml
 refine f9 ?_
 show Ends (zj [some (net .frz n ps),some (.lst .bor (iL ms)),none])
 unfold zj
 refine iQ (ce (by simp[p1,bU,aL,ao,aW,lu,Fl.lend]) aI) ?_
 refine iQ (ce (by simp[p1,bU,aL,nW (show ms.length<=1000 by omega),qI N.nd,Fl.lend]) aI) ?_
 refine o3 (fun _ e=>∃x,e=[some (net .frz n ps),some (.lst .bor (iL ms)),x]) (fun r=>∃e,r=.next e) (xs:=iL ms) (eM (f:=.bor) (by simp[Fl.lend]) rfl (by simp) (by simp)) ⟨_,rfl⟩ (fun k x e hx hP=>?_) (fun e hP=>⟨e,rfl⟩)
 obtain⟨y,rfl⟩:=hP
 obtain⟨z,hz,rfl⟩:=mB hx
 have:=N.mr z (List.mem_of_getElem? hz)
 refine⟨_,dq rfl,.inl ⟨_,.inl (ce ?_ aI),_,rfl⟩⟩
 simp[show ¬z < 0 by omega,show ¬(9:Int) < z by omega]
def nX{fm:Fl}(hf:fm=.bor\/fm=.own)(N:OkM n ms)(n1:1<=n)(n10:n<=10):ub [.obj .own 6 [] [],net .frz n ps,.lst fm (iL ms)]=.ok (lea .own 6 n ps (ls n ms) n (10 * n)):=by
 refine cJ (e:=[some (lea .own 6 n ps (ls n ms) n (10 * n)),some (net .frz n ps),some (.lst fm (iL ms)),some (.lst .frz (oL (ls n ms)))]) ?_ rfl
 show zy [some (.obj .own 6 [] []),some (net .frz n ps),some (.lst fm (iL ms)),none]=_
 unfold zy
 have e1:fm.lend.toBor=.bor:=by rcases hf with rfl | rfl<;>rfl
 have rn:=xj (ps:=ps) N n10
 refine af (cM (v:=net .frz n ps) rfl) ?_
 have efz:(net .frz n ps).mapF Fl.freeze=net .frz n ps:=by simp[PV.mapF,Fl.freeze]
 simp only[s0_,s1_,efz]
 refine af (gW (v:=.non) (by simp[e1,rn,aD,PV.mapF])) ?_
 have eL:oL (ls n ms)=iL (ms.map fun x=>(9 - x) * n):=by simp[oL,ls,iL,oV]
 refine af (aw (v:=.lst .own (oL (ls n ms))) ?_ (by simp[PV.noLnt,PV.has]) rfl) ?_
 ·rw[eL]
  refine aV (xs:=iL ms) (by simp) (by rw[bB,N.ml];omega) (eF (fun x=>(9 - x) * n) ms fun x hx=>⟨[some (net .frz n ps),some (.int x)],by simp[tgN,aU,bQ,PV.borrow,Fl.borrow,PV.mapF],?_⟩)
  have m:dG (.int (9 - x)) (.int (n:Int))=.ok (.int ((9 - x) * n)):=eU (.inr ⟨by omega,by omega⟩)
  simp[ao,aW,m]
 simp only[s0_,s1_]
 refine af (cM (v:=.lst .own (oL (ls n ms))) rfl) ?_
 simp only[s0_,s1_]
 have li:=qq (cc:=6) (n:=n) (ps:=ps) (os:=ls n ms) (st:=n) (bk:=10) (f:=.frz) (.inr rfl) (by omega) (by omega) (by decide) (by decide) (by simp [ls,N.ml]) (fun s hs=>by
  simp only[ls,List.mem_map]at hs
  obtain⟨x,hx,e⟩:=hs
  have:=N.mr x hx
  cases e
  have h1:0 <=(9 - x) * (n:Int):=Int.mul_nonneg (by omega) (by omega)
  have h2:(9 - x) * (n:Int)<= 9 * n:=Int.mul_le_mul_of_nonneg_right (by omega) (by omega)
  omega)
 rw[Int.mul_comm (n:Int) 10]at li
 have:=gD (env:=[some (.obj .own 6 [] []),some (net .frz n ps),some (.lst fm (iL ms)),some (.lst .frz (oL (ls n ms)))]) (m:=vq) (ms:=ae (ac 1) (ae (ac 3) (ae (mUn (ao 0) (ac 1)) (ae (mC (.int (10))) am)))) (xs:=[net .frz n ps,.lst .frz (oL (ls n ms)),.int n,.int 10]) rfl (by simp[ao,aW,Fl.lend]) (by simp[PV.has]) (by simpa[Fl.toBor]using li) (by simp[PV.has])
 simpa[PV.mapF,Fl.freeze]using this
abbrev gro(fl:Fl)(n:Nat)(ps:List (Int×Int))(r:Nat):PV:=.obj fl 7 [9,4,10,0,7,8] [lea fl 5 n ps (fs n r) n n,net .frz n ps,.int r,.int n,.int (((n:Int)+1) * ((n:Int)+1)),.bl true]
def uD:gu [.obj .own 7 [9,4,10] [lea .own 5 n ps (fs n r) n n,net .frz n ps,.int r],.int n,.int (((n:Int)+1) * ((n:Int)+1)),.bl true]=.ok (gro .own n ps r):=by
 refine cJ (e:=[some (gro .own n ps r),some (.int n),some (.int (((n:Int)+1) * ((n:Int)+1))),some (.bl true)]) ?_ rfl
 show iT [some (.obj .own 7 [9,4,10] [lea .own 5 n ps (fs n r) n n,net .frz n ps,.int r]),some (.int n),some (.int (((n:Int)+1) * ((n:Int)+1))),some (.bl true)]=_
 unfold iT
 refine af (bD (v:=.int n) (ks:=[9,4,10]) (vs:=[lea .own 5 n ps (fs n r) n n,net .frz n ps,.int r]) (by simp) rfl (by simp) rfl (by decide)) ?_
 refine af (bD (v:=.int (((n:Int)+1) * ((n:Int)+1))) (ks:=[9,4,10,0]) (vs:=[lea .own 5 n ps (fs n r) n n,net .frz n ps,.int r,.int n]) (by simp) rfl (by simp) rfl (by decide)) ?_
 exact bD (v:=.bl true) (ks:=[9,4,10,0,7]) (vs:=[lea .own 5 n ps (fs n r) n n,net .frz n ps,.int r,.int n,.int (((n:Int)+1) * ((n:Int)+1))]) (by simp) rfl (by simp) rfl (by decide)
def qx(hf:f=.frz\/f=.own)(n1:1<=n)(n10:n<=10)(hr:r < n):Bf [.obj .own 7 [] [],net f n ps,.int r]=.ok (gro .own n ps r):=by
 refine cJ (e:=[some (gro .own n ps r),some (net .frz n ps),some (.int r)]) ?_ rfl
 show Er [some (.obj .own 7 [] []),some (net f n ps),some (.int r)]=_
 unfold Er
 have fi:=mG (f:=.frz) (ps:=ps) (.inl rfl) n1 n10 hr
 have mu:dG (.int ((n:Int)+1)) (.int ((n:Int)+1))=.ok (.int (((n:Int)+1) * ((n:Int)+1))):=eU (.inl ⟨by omega,by omega⟩)
 have ri:=uD (n:=n) (ps:=ps) (r:=r)
 generalize((n:Int)+1) * ((n:Int)+1)=sq at mu ri
 refine af (cM (v:=net f n ps) rfl) ?_
 have efz:(net f n ps).mapF Fl.freeze=net .frz n ps:=by rcases hf with rfl | rfl<;>simp[PV.mapF,Fl.freeze]
 simp only[s0_,s1_,efz]
 refine af (bD (v:=lea .own 5 n ps (fs n r) n n) (ks:=[]) (vs:=[]) (by simp[fi,aD,PV.has,Fl.lend,Fl.toBor]) rfl (by simp[PV.noLnt,PV.has]) rfl (by decide)) ?_
 simp only[s0_,s1_]
 refine af (bD (v:=net .frz n ps) (ks:=[9]) (vs:=[lea .own 5 n ps (fs n r) n n]) (by simp[PV.mapF,Fl.lend]) rfl (by simp[PV.noLnt,PV.has]) rfl (by decide)) ?_
 simp only[s0_,s1_]
 refine af (bD (v:=.int r) (ks:=[9,4]) (vs:=[lea .own 5 n ps (fs n r) n n,net .frz n ps]) (by simp) rfl (by simp) rfl (by decide)) ?_
 simp only[s0_,s1_]
 have:=gD (env:=[some (.obj .own 7 [9,4,10] [lea .own 5 n ps (fs n r) n n,net .frz n ps,.int r]),some (net .frz n ps),some (.int r)]) (m:=gu) (ms:=ae (mUn (ao 0) (ac 1)) (ae (mOp dG (mOp aY (mUn (ao 0) (ac 1)) (mC (.int (1)))) (mOp aY (mUn (ao 0) (ac 1)) (mC (.int (1))))) (ae (mC (.bl true)) am))) (xs:=[.int n,.int sq,.bl true]) rfl (by simp[ao,aW,mu]) (by simp) (by simpa using ri) (by simp[PV.has])
 simpa using this
def PT(n:Nat)(cs:List Int):List (Int×Int):=cs.map fun c=>(c / ((n:Int)+1),c % ((n:Int)+1))
def FA(n:Nat)(cs:List Int):List Int:=cs.map (· / ((n:Int)+1))
def CN(n:Nat)(cs:List Int):List Int:=cs.map (· % ((n:Int)+1))
@[simp] def IA:(FA n cs).length=cs.length:=by simp[FA]
@[simp] def EU:(CN n cs).length=cs.length:=by simp[CN]
def nea(ps:List (Int×Int))(fa:List Int)(i:Nat):List Int:=(nbL ps i).filter fun o=>decide (gt fa o.toNat=gt fa i - 1)
def eld(ps:List (Int×Int))(r:Nat)(fa:List Int)(i:Nat):Option Int:=if i=r then none else if(nea ps fa i).isEmpty then none else some (fY (nea ps fa i))
def kx(n:Nat)(ps:List (Int×Int))(r:Nat)(cs:List Int)(i:Nat):List Int:=((List.range n).filter fun j=>decide (eld ps r (FA n cs) j=some (i:Int))).map (gt (CN n cs))
def dcn(n:Nat)(ps:List (Int×Int))(r:Nat)(cs:List Int)(i:Nat):Int:=min (n:Int) (1+(kx n ps r cs i).sum)
def mM(n:Nat)(ps:List (Int×Int))(r:Nat)(cs:List Int)(i:Nat):Int :=
 fO ps (fs n r) n n (FA n cs) i * ((n:Int)+1)+(if fO ps (fs n r) n n (FA n cs) i=gt (FA n cs) i then dcn n ps r cs i else gt (CN n cs) i)
def qc(hfc:Fc fc)(n10:n<=10)(hn:cs.length=n):DY [gro .frz n ps r,.lst fc (iL cs)]=.ok (.lst .own (prL (PT n cs))):=by
 refine az ?_
 show Ex [some (gro .frz n ps r),some (.lst fc (iL cs))]=_
 unfold Ex
 refine a9 ?_ (by simp[PV.noLnt,PV.has])
 have e4:fc≠.mod:=by rcases hfc with rfl | rfl<;>decide
 rw[show prL (PT n cs)=cs.map fun c=>prV (c / ((n:Int)+1),c % ((n:Int)+1)) by simp[prL,PT]]
 refine aV (xs:=iL cs) (by rcases hfc with rfl | rfl<;>simp) (by rw[bB];omega) (bL (a:=PV.int) (f:=fun c=>prV (c / ((n:Int)+1),c % ((n:Int)+1))) cs fun c _=>⟨[some (gro .frz n ps r),some (.int c)],by simp[tgN,aU,bQ,PV.mapF,Fl.borrow],?_,by simp,by simp⟩)
 have np:(0:Int) <(n:Int)+1:=by omega
 simp[ao,aW,bW np,gX np (show(n:Int)+1 < 1073741824 by omega),prV]
def o4(hfc:Fc fc)(n10:n<=10)(hn:cs.length=n):yw [gro .frz n ps r,.lst fc (iL cs)]=.ok (.lst .own (iL (FA n cs))):=by
 refine az ?_
 show zu [some (gro .frz n ps r),some (.lst fc (iL cs))]=_
 unfold zu
 refine a9 ?_ (by simp)
 have pt:=qc (ps:=ps) (r:=r) hfc n10 hn
 rw[show iL (FA n cs)=(PT n cs).map fun x=>PV.int x.1 by simp[iL,FA,PT]]
 refine aV (xs:=prL (PT n cs)) (by rcases hfc with rfl | rfl<;>simp[eQ,pt,aD,PV.has,Fl.lend,Fl.toBor,PV.mapF]) (by simp[PT];omega) (bL (a:=prV) (f:=fun x=>PV.int x.1) (PT n cs) fun x _=>⟨[some (prV x)],by simp[tgN,aU,bQ,cK],?_,by simp,by simp⟩)
 simp
def kG(hfc:Fc fc)(n10:n<=10)(hn:cs.length=n):D2 [gro .frz n ps r,.lst fc (iL cs)]=.ok (.lst .own (iL (CN n cs))):=by
 refine az ?_
 show EB [some (gro .frz n ps r),some (.lst fc (iL cs))]=_
 unfold EB
 refine a9 ?_ (by simp)
 have pt:=qc (ps:=ps) (r:=r) hfc n10 hn
 rw[show iL (CN n cs)=(PT n cs).map fun x=>PV.int x.2 by simp[iL,CN,PT]]
 refine aV (xs:=prL (PT n cs)) (by rcases hfc with rfl | rfl<;>simp[eQ,pt,aD,PV.has,Fl.lend,Fl.toBor,PV.mapF]) (by simp[PT];omega) (bL (a:=prV) (f:=fun x=>PV.int x.2) (PT n cs) fun x _=>⟨[some (prV x)],by simp[tgN,aU,bQ,cK],?_,by simp,by simp⟩)
 simp
def A3:nS (.lst f (iL l))=.ok (if l.isEmpty then .non else .int (fY l)):=by
 unfold nS
 simp only[aL,i5]
def yJ{fa:List Int}(hnb:∀x∈nbL ps i,0<=x/\x < n)(hl:(nbL ps i).length<=1000)(hn:fa.length=n)(hi:i < n):DW [gro .frz n ps r,.lst .bor (iL fa),.int i]=.ok (oV (eld ps r fa i)):=by
 refine az ?_
 show Eu [some (gro .frz n ps r),some (.lst .bor (iL fa)),some (.int i),none]=_
 unfold Eu eld
 by_cases q:i=r
 ·rw[if_pos q]
  exact gG (jz (by simp[ao,aW,q]) (a9 (by simp[oV]) (by simp[oV])))
 rw[if_neg q]
 refine af (ce (by simp[ao,aW,show ¬(i:Int)=r by omega]) aI) ?_
 have be:=jB (ps:=ps) hi
 refine af (aw (v:=.lst .own (iL (nea ps fa i))) ?_ (by simp) rfl) ?_
 ·have hz:nea ps fa i=((nbL ps i).filter fun o=>decide (gt fa o.toNat=gt fa i - 1)).map id:=by simp[nea]
  rw[hz]
  refine aV (xs:=iL (nbL ps i)) (by simp[ao,aW,bG,be,aD]) (by rw[bB];omega) (fT (fun o=>decide (gt fa o.toNat=gt fa i - 1)) id _ fun x hx=>⟨[some (.lst .bor (iL fa)),some (.int i),some (.int x)],by simp[tgN,aU,bQ,Fl.borrow],?_,fun _=>by simp⟩)
  obtain⟨h1,h2⟩:=hnb x hx
  simp[cL (f:=.bor) (cs:=fa) (i:=x) (by omega) (by omega),cL (f:=.bor) (cs:=fa) (i:=i) (by omega) (by omega)]
 simp only[s0_,s1_]
 generalize nea ps fa i=l
 refine a9 ?_ (by cases l<;>simp[oV])
 simp only[B2,bH,List.getElem?_cons_zero,List.getElem?_cons_succ,AJ,Res.ok_bind,PV.mapF,Fl.lend,u6]
 rw[A3]
 cases l<;>simp[oV]
abbrev ELs(n:Nat)(ps:List (Int×Int))(r:Nat)(fa:List Int):List (Option Int):=(List.range n).map (eld ps r fa)
def vy(hfc:Fc fc)(n10:n<=10)(hnb:∀i:Nat,∀x∈nbL ps i,0<=x/\x < n)(hl:∀i:Nat,(nbL ps i).length<=1000)(hn:cs.length=n):D3 [gro .frz n ps r,.lst fc (iL cs)]=.ok (.lst .own (oL (ELs n ps r (FA n cs)))):=by
 refine az ?_
 show EC [some (gro .frz n ps r),some (.lst fc (iL cs)),none]=_
 unfold EC
 have fo:=o4 (ps:=ps) (r:=r) hfc n10 hn
 refine af (aw (v:=.lst .own (iL (FA n cs))) (by rcases hfc with rfl | rfl<;>simp[dI,fo,aD,PV.has,Fl.lend,Fl.toBor,PV.mapF]) (by simp) rfl) ?_
 simp only[s0_,s1_]
 refine a9 ?_ (by simp[PV.noLnt,PV.has])
 rw[show oL (ELs n ps r (FA n cs))=(List.range n).map fun i=>oV (eld ps r (FA n cs) i) by simp[oL]]
 refine aV (xs:=cX 0 n) (bP (n:=n) (by simp[ao,aW]) (by omega)) (by rw[bp];omega) (bL (a:=fun k:Nat=>PV.int (0+(k:Int))) (f:=fun i=>oV (eld ps r (FA n cs) i)) (List.range n) fun k hk=>⟨[some (gro .frz n ps r),some (.lst .bor (iL (FA n cs))),some (.int (0+k))],by simp[tgN,aU,bQ,Fl.borrow,PV.mapF],?_,?_,?_⟩)
 ·have el:=yJ (r:=r) (hnb k) (hl k) (show(FA n cs).length=n by simpa using hn) (List.mem_range.mp hk)
  simp[iR,el,aD,PV.has,Fl.lend,Fl.toBor,PV.mapF]
  cases eld ps r (FA n cs) k<;>simp[oV,PV.has]
 ·cases eld ps r (FA n cs) k<;>simp[oV,PV.has]
 ·cases eld ps r (FA n cs) k<;>simp[oV,PV.has]
def pD(f:Nat->Int)(g:Nat->Option Int):∀l:List Nat,e9 (iL (l.map f)) (oL (l.map g))=l.map fun i=>PV.tup [.int (f i),oV (g i)]
 | []=>rfl
 | i::l=>by
  have:=pD f g l
  simp only[iL,oL,List.map_cons,e9]at this ⊢
  rw[this]
def eqO(o:Option Int)(i:Int):pEq (oV o) (.int i)=.ok (.bl (decide (o=some i))):=by
 cases o with
 | none=>simp[oV,pEq,PV.data];rfl
 | some s=>simp[oV]
def gtR(l:List Int):(List.range l.length).map (gt l)=l:=by
 apply List.ext_getElem (by simp)
 intro i h1 h2
 simp[gt,h2]
def sM(hn:cs.length=n):∀i,i < n->0<=gt (CN n cs) i/\gt (CN n cs) i<=n:=fun i hi=>by
 have hm:=dH (far:=CN n cs) (i:=i) (by simpa using hn▸hi)
 obtain⟨c,_,e⟩:=List.mem_map.mp hm
 rw[<- e]
 have:=Int.emod_nonneg c (show(n:Int)+1≠0 by omega)
 have:=Int.emod_lt_of_pos c (show(0:Int) <(n:Int)+1 by omega)
 omega
def md(hn:cs.length=n)(hx:x∈kx n ps r cs i):0<=x/\x<=n:=by
 obtain⟨j,hj,rfl⟩:=List.mem_map.mp hx
 exact sM hn j (List.mem_range.mp (List.mem_filter.mp hj).1)
def xP:(kx n ps r cs i).length<=n:=by
 have:=List.length_filter_le (fun j=>decide (eld ps r (FA n cs) j=some (i:Int))) (List.range n)
 simpa[kx]using this
def yN(hfc:Fc fc)(n10:n<=10)(hnb:∀i:Nat,∀x∈nbL ps i,0<=x/\x < n)(hl:∀i:Nat,(nbL ps i).length<=1000)(hn:cs.length=n):D6 [gro .frz n ps r,.lst fc (iL cs),.int i]=.ok (.int (dcn n ps r cs i)):=by
 refine az ?_
 show EI [some (gro .frz n ps r),some (.lst fc (iL cs)),some (.int i),none]=_
 unfold EI
 have co:=kG (ps:=ps) (r:=r) hfc n10 hn
 have eo:=vy (ps:=ps) (r:=r) hfc n10 hnb hl hn
 have zp:e9 (iL (CN n cs)) (oL (ELs n ps r (FA n cs)))=(List.range n).map fun j=>PV.tup [.int (gt (CN n cs) j),oV (eld ps r (FA n cs) j)]:=by
  have:=pD (gt (CN n cs)) (eld ps r (FA n cs)) (List.range n)
  rwa [show(List.range n).map (gt (CN n cs))=CN n cs by have:=gtR (CN n cs);rw[EU,hn]at this;exact this]at this
 refine af (aw (v:=.lst .own (iL (kx n ps r cs i))) ?_ (by simp) rfl) ?_
 ·rw[show iL (kx n ps r cs i)=((List.range n).filter fun j=>decide (eld ps r (FA n cs) j=some (i:Int))).map fun j=>PV.int (gt (CN n cs) j) by simp[iL,kx]]
  refine aV (xs:=(List.range n).map fun j=>PV.tup [.int (gt (CN n cs) j),oV (eld ps r (FA n cs) j)]) ?_ (by simp;omega) (b_ (a:=fun j=>PV.tup [.int (gt (CN n cs) j),oV (eld ps r (FA n cs) j)]) (f:=fun j=>.int (gt (CN n cs) j)) (p:=fun j=>decide (eld ps r (FA n cs) j=some (i:Int))) (List.range n) fun j hj=>⟨[some (.int i),some (.int (gt (CN n cs) j)),some (oV (eld ps r (FA n cs) j))],?_,?_,fun _=>⟨by simp,rfl,rfl⟩⟩)
  ·unfold jT
   rcases hfc with rfl | rfl<;>simp[cN,gU,co,eo,aD,PV.has,Fl.lend,Fl.toBor,PV.mapF,eC,zp]
  ·cases eld ps r (FA n cs) j<;>rfl
  ·have ob:∀o:Option Int,PV.mapF Fl.lend (oV o)=oV o:=fun o=>by cases o<;>rfl
   simp[ob,eqO]
 simp only[s0_,s1_]
 have sm:jP (.lst .lnt (iL (kx n ps r cs i)))=.ok (.int (kx n ps r cs i).sum):=k_ (by have:=xP (n:=n) (ps:=ps) (r:=r) (cs:=cs) (i:=i);omega) fun x hx=>by have:=md hn hx;omega
 refine a9 ?_ (by simp)
 simp[ao,aW,p1,sm,dcn,gL]
def Bs(hfc:Fc fc)(n1:1<=n)(n10:n<=10)(hnb:∀i:Nat,∀x∈nbL ps i,0<=x/\x < n)(hl:∀i:Nat,(nbL ps i).length<=1000)(hn:cs.length=n)(hi:i < n):yp [gro .frz n ps r,.lst fc (iL cs),.int i]=.ok (.int (mM n ps r cs i)):=by
 refine az ?_
 show zi [some (gro .frz n ps r),some (.lst fc (iL cs)),some (.int i),none,none,none]=_
 unfold zi
 have fo:=o4 (ps:=ps) (r:=r) hfc n10 hn
 have co:=kG (ps:=ps) (r:=r) hfc n10 hn
 have dc:=yN (ps:=ps) (r:=r) (i:=i) hfc n10 hnb hl hn
 have fl:(FA n cs).length=n:=by simpa using hn
 have cl:(CN n cs).length=n:=by simpa using hn
 have ld:=qr (.inl rfl) (cc:=5) (os:=fs n r) (st:=n) (tp:=n) (cs:=FA n cs) rfl (hnb i) (hl i) (by omega) fl (by simp[fs]) hi
 refine af (aw (v:=.lst .own (iL (FA n cs))) (by rcases hfc with rfl | rfl<;>simp[dI,fo,aD,PV.has,Fl.lend,Fl.toBor,PV.mapF]) (by simp) rfl) ?_
 simp only[s0_,s1_]
 unfold mM
 generalize fO ps (fs n r) n n (FA n cs) i=df at *
 refine af (aw (v:=.int df) (by simp[ao,aW,kF,ld,aD,PV.has,Fl.lend,Fl.toBor,PV.mapF]) (by simp) rfl) ?_
 simp only[s0_,s1_]
 have ic:∀f,aO (.lst f (iL (CN n cs))) (.int (i:Int))=.ok (.int (gt (CN n cs) i)):=fun f=>by simpa using cL (f:=f) (cs:=CN n cs) (i:=i) (by omega) (by omega)
 have ia:∀f,aO (.lst f (iL (FA n cs))) (.int (i:Int))=.ok (.int (gt (FA n cs) i)):=fun f=>by simpa using cL (f:=f) (cs:=FA n cs) (i:=i) (by omega) (by omega)
 refine af (aw (v:=.int (gt (CN n cs) i)) (by rcases hfc with rfl | rfl<;>simp[cN,co,ic,aD,PV.has,Fl.lend,Fl.toBor,PV.mapF]) (by simp) rfl) ?_
 simp only[s0_,s1_]
 have mu:dG (.int df) (.int ((n:Int)+1))=.ok (.int (df * ((n:Int)+1))):=eU (.inr ⟨by omega,by omega⟩)
 by_cases q:df=gt (FA n cs) i
 ·rw[if_pos q]
  refine af (jz (by simp[ia,q]) (aw (v:=.int (dcn n ps r cs i)) (by rcases hfc with rfl | rfl<;>simp[cT,dc,aD,PV.has,Fl.lend,Fl.toBor,PV.mapF]) (by simp) rfl)) ?_
  simp only[s0_,s1_]
  exact a9 (by simp[ao,aW,mu]) (by simp)
 ·rw[if_neg q]
  refine af (ce (by simp[ia,q]) aI) ?_
  exact a9 (by simp[ao,aW,mu]) (by simp)
def dN(at_:Int):Int->List Int->List Int
 | _,[]=>[]
 | k,p::ps=>if p=at_ then k::dN at_ (k+1) ps else dN at_ (k+1) ps
def iJ:∀{k:Int}{ps:List Int}{x:Int},x∈dN at_ k ps->k<=x/\x < k+ps.length/\ps[(x - k).toNat]?=some at_
 | _,[],x,h=>by simp[dN]at h
 | k,p::ps,x,h=>by
  have key:x∈dN at_ (k+1) ps->k<=x/\x < k+(p::ps).length/\(p::ps)[(x - k).toNat]?=some at_:=fun h=>by
   obtain⟨h1,h2,h3⟩:=iJ h
   refine⟨by omega,by simp only[List.length_cons];omega,?_⟩
   rw[show(x - k).toNat=(x - (k+1)).toNat+1 by omega,List.getElem?_cons_succ]
   exact h3
  unfold dN at h
  split at h
  ·rename_i hp
   rcases List.mem_cons.mp h with rfl | h
   ·refine⟨by omega,by simp only[List.length_cons];omega,by simp[hp]⟩
   ·exact key h
  ·exact key h
def qt{at_:Int}:∀{k:Int}{ps:List Int},(dN at_ k ps).length<=ps.length
 | _,[]=>by simp[dN]
 | k,p::ps=>by
  have:=qt (at_:=at_) (k:=k+1) (ps:=ps)
  unfold dN
  split<;>simp<;>omega
def ja(cs l:List Int):Int:=(l.map fun k=>gt cs k.toNat).sum
def o7(n:Nat)(ps cs:List Int)(i:Nat):Int:=min (n:Int) (1+ja cs (dN i 1 ps))
def pI{cs cs':List Int}:∀{l:List Int},(∀k∈l,gt cs k.toNat=gt cs' k.toNat)->ja cs l=ja cs' l
 | [],_=>rfl
 | k::l,h=>by
  have:=pI (cs:=cs) (cs':=cs') (l:=l) fun x hx=>h x (List.mem_cons_of_mem _ hx)
  simp only[ja,List.map_cons,List.sum_cons]at this ⊢
  rw[h k List.mem_cons_self,this]
def pH{cs:List Int}:∀{l:List Int},(∀k∈l,0<=gt cs k.toNat)->0<=ja cs l
 | [],_=>by simp[ja]
 | k::l,h=>by
  have:=pH (cs:=cs) (l:=l) fun x hx=>h x (List.mem_cons_of_mem _ hx)
  have h2:=h k List.mem_cons_self
  simp only[ja,List.map_cons,List.sum_cons]at this ⊢
  omega
def jw(l:List Int)(k:Nat)(h:k < l.length):gt l k=l[k]:=by simp[gt,h]
def sj:∀{l:List Int},(∀x∈l,0<=x)->∀x∈l,x<=l.sum
 | [],_,x,h=>by simp at h
 | y::l,hp,x,h=>by
  have h1:∀{l:List Int},(∀x∈l,0<=x)->0<=l.sum:=fun {l}=>by
   intro h
   induction l with
   | nil=>simp
   | cons a l ih =>
    have:=ih fun x hx=>h x (List.mem_cons_of_mem _ hx)
    have:=h a List.mem_cons_self
    simp
    omega
  have h0:=h1 fun x hx=>hp x (List.mem_cons_of_mem y hx)
  have hy:=hp y List.mem_cons_self
  simp only[List.sum_cons]
  rcases List.mem_cons.mp h with rfl | h
  ·omega
  ·have:=sj (fun x hx=>hp x (List.mem_cons_of_mem y hx)) x h
   omega
def Tree(ps:List Int):Prop:=∀i (h:i < ps.length),0<=ps[i]/\ps[i]<= i
structure IL(ps hs:List Int)(j:Nat):Prop where
 len:hs.length=ps.length+1
 eqn:∀i:Nat,i<=ps.length->gt hs i=1+ja hs (dN i (j+1) (ps.drop j))
 bnd:∀i:Nat,i<=ps.length->1<=gt hs i/\gt hs i<=ps.length+1
 sum:(hs.take (j+1)).sum=ps.length+1
structure IK(ps hs:List Int):Prop where
 len:hs.length=ps.length+1
 eqn:∀i:Nat,i<=ps.length->gt hs i=1+ja hs (dN i 1 ps)
 bnd:∀i:Nat,i<=ps.length->1<=gt hs i/\gt hs i<=ps.length+1
abbrev cnt(fl:Fl)(ps:List Int):PV:=.obj fl 3 [11,0,7,8] [.tup (iL ps),.int (ps.length+1),.int (ps.length+2),.bl false]
def uE{ps:List Int}:gu [.obj .own 3 [11] [.tup (iL ps)],.int (ps.length+1),.int (ps.length+2),.bl false]=.ok (cnt .own ps):=by
 refine cJ (e:=[some (cnt .own ps),some (.int (ps.length+1)),some (.int (ps.length+2)),some (.bl false)]) ?_ rfl
 show iT [some (.obj .own 3 [11] [.tup (iL ps)]),some (.int (ps.length+1)),some (.int (ps.length+2)),some (.bl false)]=_
 unfold iT
 refine af (bD (v:=.int (ps.length+1)) (ks:=[11]) (vs:=[.tup (iL ps)]) (by simp) rfl (by simp) rfl (by decide)) ?_
 refine af (bD (v:=.int (ps.length+2)) (ks:=[11,0]) (vs:=[.tup (iL ps),.int (ps.length+1)]) (by simp) rfl (by simp) rfl (by decide)) ?_
 exact bD (v:=.bl false) (ks:=[11,0,7]) (vs:=[.tup (iL ps),.int (ps.length+1),.int (ps.length+2)]) (by simp) rfl (by simp) rfl (by decide)
def vA{ps:List Int}:mJ [.obj .own 3 [11] [.tup (iL ps)],.int (ps.length+1),.int (ps.length+2)]=.ok (cnt .own ps):=by
 refine cJ (e:=[some (cnt .own ps),some (.int (ps.length+1)),some (.int (ps.length+2))]) ?_ rfl
 show qT [some (.obj .own 3 [11] [.tup (iL ps)]),some (.int (ps.length+1)),some (.int (ps.length+2))]=_
 unfold qT
 exact gD (xs:=[.int (ps.length+1),.int (ps.length+2),.bl false]) rfl (by simp) (by simp) (by simpa using uE (ps:=ps)) (by simp[PV.has])
def Ea{m:ME}{env:En}{ps:List Int}(h:m env=.ok (.lst f (iL ps)))(hf:f.isLnt=false):u8 m env=.ok (enP 1 (iL ps)):=by
 unfold u8
 rw[h]
 simp[hf,eC]
def rN{ps:List Int}(T:Tree ps)(hl:ps.length<=9)(hf:f=.bor\/f=.frz):DX [.lst f (iL ps)]=.ok .non:=by
 have hf1:f.lend=f:=by rcases hf with rfl | rfl<;>rfl
 have hf2:f.isLnt=false:=by rcases hf with rfl | rfl<;>rfl
 have key:∃e,Ev [some (.lst f (iL ps)),none,none]=.next e:=by
  unfold Ev
  have s1:∀a:MS,mBr (aA (mOp pGt (aq (p1 bU) (ae (ac 0) am)) (mC (.int (9))))) a aZ [some (.lst f (iL ps)),none,none]=.next [some (.lst f (iL ps)),none,none]:=fun a=>ce (by simp[p1,bU,aL];omega) aI
  suffices hh:∃e,dB (u8 (ac 0)) (tgT 2 (bO (tgN 1) (bO (tgN 2) g7))) (mBr ((fH (aA (mOp pLt (ac 2) (mC (.int (0))))) (aA (mOp pGe (ac 2) (ac 1))))) (bj 2 (ae (mC (.str "a parent is no machine of a lower number than its kid")) am)) aZ) [some (.lst f (iL ps)),none,none]=.next e by
   obtain⟨e,h⟩:=hh
   exact⟨e,af (s1 _) h⟩
  refine o3 (fun _ e=>∃a b,e=[some (.lst f (iL ps)),a,b]) (fun r=>∃e,r=.next e) (xs:=enP 1 (iL ps)) (Ea (f:=f) (by simp[hf1]) hf2) ⟨_,_,rfl⟩ (fun k x e hx hP=>?_) (fun e hP=>⟨e,rfl⟩)
  obtain⟨a,b,rfl⟩:=hP
  rw[lv]at hx
  obtain⟨y,hy,rfl⟩:=Option.map_eq_some_iff.mp hx
  obtain⟨v,hv,rfl⟩:=mB hy
  obtain⟨hk,ev⟩:=List.getElem?_eq_some_iff.mp hv
  have:=T k hk
  rw[ev]at this
  refine⟨[some (.lst f (iL ps)),some (.int (1+k)),some (.int v)],rfl,.inl ⟨_,.inl (ce ?_ aI),_,_,rfl⟩⟩
  simp[show ¬v < 0 by omega,show ¬1+(k:Int)<= v by omega]
 obtain⟨e,h⟩:=key
 exact f9 ⟨e,h⟩
def yR{ps:List Int}(T:Tree ps)(hl:ps.length<=9)(hf:f.lend.toBor=.bor\/f.lend.toBor=.frz):DV [.obj .own 3 [] [],.lst f (iL ps)]=.ok (cnt .own ps):=by
 refine cJ (e:=[some (cnt .own ps),some (.lst f (iL ps))]) ?_ rfl
 show Et [some (.obj .own 3 [] []),some (.lst f (iL ps))]=_
 unfold Et
 have rf:=rN T hl hf
 refine af (gW (v:=.non) (by simp[rf,aD])) ?_
 refine af (bD (v:=.tup (iL ps)) (ks:=[]) (vs:=[]) (by simp[p1,eB,aL]) rfl (by simp[PV.noLnt,PV.has]) rfl (by decide)) ?_
 have:=gD (env:=[some (.obj .own 3 [11] [.tup (iL ps)]),some (.lst f (iL ps))]) (m:=mJ) (ms:=ae (mOp aY (aq (p1 bU) (ae (ac 1) am)) (mC (.int (1)))) (ae (mOp aY (aq (p1 bU) (ae (ac 1) am)) (mC (.int (2)))) am)) (xs:=[.int (ps.length+1),.int (ps.length+2)]) rfl (by simp[p1,bU,aL]) (by simp) (by simpa using vA (ps:=ps)) (by simp[PV.has])
 exact this
def qK{env:En}{g:TgM}{mc:MT}{me:ME}{at_:Int}:∀(ps:List Int) (k:Int),(∀j v:Int,v∈ps->∃e1,g (.tup [.int j,.int v]) env=some e1/\mc e1=.ok (decide (v=at_))/\me e1=.ok (.int j))->d_ g mc me env (enP k (iL ps))=.ok (iL (dN at_ k ps))
 | [],_,_=>rfl
 | p::ps,k,h=>by
  obtain⟨e1,h1,h2,h3⟩:=h k p List.mem_cons_self
  have ih:=qK (at_:=at_) ps (k+1) fun j v hv=>h j v (List.mem_cons_of_mem _ hv)
  simp only[gp,enP,d_]
  have b:(PV.tup [.int k,.int p]).borrow=.tup [.int k,.int p]:=by simp[PV.borrow]
  rw[b,h1]
  simp only[h2,Res.ok_bind]
  unfold dN
  by_cases hc:p=at_
  ·simp[hc,h3,ih]
  ·simp[hc,ih]
def vk{ps:List Int}{i:Int}(hl:ps.length<=1000):D5 [cnt .bor ps,.int i]=.ok (.lst .own (iL (dN i 1 ps))):=by
 refine az ?_
 show EH [some (cnt .bor ps),some (.int i)]=_
 unfold EH
 refine a9 (aV (xs:=enP 1 (iL ps)) ?_ (by rw[lr,bB];omega) (qK ps 1 fun j v _=>⟨[some (.int i),some (.int j),some (.int v)],by simp[tgT,bO,tgN,g7,aU,bQ],by simp,by simp⟩)) (by simp)
 unfold A6
 simp[ao,aW,aL]
def Sm(cs:List Int):Prop:=∀c∈cs,0<=c/\c<=1000
def Bz{ps:List Int}(hfc:Fc fc)(hl:ps.length<=9)(hs:Sm cs)(hn:cs.length=ps.length+1):yB [cnt .bor ps,.lst fc (iL cs),.int i]=.ok (.int (o7 (ps.length+1) ps cs i)):=by
 refine az ?_
 show zB [some (cnt .bor ps),some (.lst fc (iL cs)),some (.int i)]=_
 unfold zB o7 ja
 have ho:=vk (ps:=ps) (i:=(i:Int)) (by omega)
 have kl:=qt (at_:=(i:Int)) (k:=1) (ps:=ps)
 have hc:a_ [1] 1 (cF (bI bE (ac 0) (ae (ac 2) am))) (tgN 1) cu (mOp aO (ac 0) (ac 1)) [some (cnt .bor ps),some (.lst fc (iL cs)),some (.int i)]=.ok (.lst .own (iL ((dN i 1 ps).map fun k=>gt cs k.toNat))):=by
  refine aV (xs:=iL (dN i 1 ps)) (by simp[bE,ho,aD]) (by rw[bB];omega) (eF (fun k=>gt cs k.toNat) _ fun x hx=>⟨[some (.lst fc (iL cs)),some (.int x)],by simp[tgN,aU,bQ,hfc.bo],?_⟩)
  obtain⟨h1,h2,_⟩:=iJ hx
  simp[hfc.le,cL (f:=fc) (cs:=cs) (i:=x) (by omega) (by omega)]
 have sm:jP (.lst .own (iL ((dN i 1 ps).map fun k=>gt cs k.toNat)))=.ok (.int ((dN i 1 ps).map fun k=>gt cs k.toNat).sum):=k_ (by simp;omega) fun x hx=>by
  obtain⟨k,hk,rfl⟩:=List.mem_map.mp hx
  obtain⟨h1,h2,_⟩:=iJ hk
  have:=hs _ (dH (far:=cs) (i:=k.toNat) (by omega))
  omega
 refine a9 ?_ (by simp)
 simp only[cw,bt,bN,d9,hc]
 simp[ao,aW,p1,sm,gL]
def InS(sp:Int)(cs:List Int):Prop:=∀c∈cs,0<=c/\c < sp
structure Rl(o:PV)(n:Nat)(sp:Int)(al ip:Bool)(D:List Int->Nat->Int):Prop where
 le:o.mapF Fl.lend=o
 tb:o.mapF Fl.toBor=o
 bo:o.mapF Fl.borrow=o
 a0:ao 0 o=.ok (.int n)
 a7:ao 7 o=.ok (.int sp)
 a8:ao 8 o=.ok (.bl al)
 s0:0 < sp
 n1:1<=n
 n20:n<=20
 due:∀fc cs k,Fc fc->cs.length=n->InS sp cs->k < n->h8 aE (.ok [.lst fc (iL cs),.int k]) o=.ok (.int (D cs k))/\0<=D cs k/\D cs k < sp
 rd:∀r,h8 aF r o=r.bind fun xs=>aQ g_ (o::xs)
 mv:∀r,h8 ar r o=r.bind fun xs=>aQ gw (o::xs)
 tu:∀r,h8 aH r o=r.bind fun xs=>aQ hV (o::xs)
 ca:∀r,h8 aC r o=r.bind fun xs=>aQ (if ip then ua else iN) (o::xs)
def mvR(n:Nat)(D:List Int->Nat->Int)(cs:List Int):List Int:=((List.range n).filter fun i=>decide (D cs i≠gt cs i)).map fun i:Nat=>(i:Int)
def stR(n:Nat)(D:List Int->Nat->Int)(cs nm:List Int):List Int:=(List.range n).map fun i:Nat=>if nm.contains (i:Int)then D cs i else gt cs i
def gA(n:Nat)(al:Bool)(nm:List Int):Prop:=nm.Nodup/\(∀x∈nm,0<=x/\x < n)/\(al=true->nm.length<=1)/\nm.length<=1000
def caR(n:Nat)(ip:Bool)(D:List Int->Nat->Int)(cs:List Int):Bool:=decide ((mvR n D cs).length=if ip then 1 else 0)
section
variable{o:PV}{n:Nat}{sp:Int}{al ip:Bool}{D:List Int->Nat->Int}{cs nm:List Int}{f fn:Fl}
def rj(r:Rl o n sp al ip D)(hn:cs.length=n)(hc:InS sp cs)(nm:List Int):(stR n D cs nm).length=n/\InS sp (stR n D cs nm):=by
 refine⟨by simp[stR],fun c hc'=>?_⟩
 unfold stR at hc'
 obtain⟨i,hi,rfl⟩:=List.mem_map.mp hc'
 have hi:=List.mem_range.mp hi
 split
 ·exact(r.due .bor cs i (.inl rfl) hn hc hi).2
 ·exact hc _ (dH (by omega))
def lc:(mvR n D cs).length<=n:=by
 unfold mvR
 rw[List.length_map]
 have:=List.length_filter_le (fun i=>decide (D cs i≠gt cs i)) (List.range n)
 rwa [List.length_range]at this
def ge(r:Rl o n sp al ip D)(hf:Fc f\/f=.own)(hn:cs.length=n)(hc:InS sp cs):gw [o,.lst f (iL cs)]=.ok (.lst .own (iL (mvR n D cs))):=by
 have n20:=r.n20
 have fb:=Fc.of hf
 refine az ?_
 show za [some o,some (.lst f (iL cs))]=_
 unfold za mvR
 refine a9 ?_ (by simp)
 refine aV (xs:=cX 0 n) (bP (n:=n) (by simp[r.le,r.a0]) (by omega)) (by rw[bp];omega) (gY (fun k=>decide (D cs k≠gt cs k)) (fun k=>(k:Int)) n fun k hk=>⟨[some o,some (.lst f.borrow (iL cs)),some (.int (0+k))],by simp[tgN,aU,bQ,PV.borrow,r.bo],?_,fun _=>by simp⟩)
 generalize f.borrow=fc at *
 have gk:aO (.lst fc (iL cs)) (.int (k:Int))=.ok (.int (gt cs k)):=by simpa using cL (f:=fc) (cs:=cs) (i:=k) (by omega) (by omega)
 simp[r.le,fb.le,(r.due fc cs k fb hn hc hk).1,gk]
def BA(r:Rl o n sp al ip D)(hf:Fc f\/f=.own)(hn:cs.length=n)(hc:InS sp cs):h8 aC (.ok [.lst f (iL cs)]) o=.ok (.bl (caR n ip D cs)):=by
 have e:∀f',Fc f'\/f'=.own->(if ip then ua else iN) [o,.lst f' (iL cs)]=.ok (.bl (caR n ip D cs)):=fun f' hf=>by
  have fb:Fc f'.lend.toBor:=by
   rcases hf with(rfl | rfl) | rfl
   ·exact .inl rfl
   ·exact .inr rfl
   ·exact .inl rfl
  have mo:=ge r (.inl fb) hn hc
  cases ip with
  | false =>
   refine az ?_
   show y8 [some o,some (.lst f' (iL cs))]=_
   unfold y8 caR
   exact a9 (by simp[r.le,r.tb,r.mv,mo,aD]) (by simp)
  | true =>
   refine az ?_
   show zw [some o,some (.lst f' (iL cs))]=_
   unfold zw caR
   have e1:((mvR n D cs).length:Int)=1 ↔(mvR n D cs).length=1:=by omega
   exact a9 (by simp[r.le,r.tb,r.mv,mo,aD,e1]) (by simp)
 have hf2:Fc f.toBor\/f.toBor=.own:=by
  rcases hf with(rfl | rfl) | rfl
  ·exact .inl (.inl rfl)
  ·exact .inl (.inr rfl)
  ·exact .inr rfl
 simp[r.ca,r.tb,e _ hf2,aD]
def uF(r:Rl o n sp al ip D)(hf:Fc fn)(hg:gA n al nm):yn [o,.lst fn (iL nm)]=.ok .non:=by
 obtain⟨hd,hr,ha,hl⟩:=hg
 refine f9 ?_
 show Ends (ze [some o,some (.lst fn (iL nm)),none])
 unfold ze
 refine iQ (ce ?_ aI) ?_
 ·cases al with
  | false=>simp[r.le,r.a8]
  | true =>
   have:=ha rfl
   simp[r.le,r.a8]
   omega
 refine yI (fun _ e=>∃x,e=[some o,some (.lst fn (iL nm)),x]) (xs:=iL nm) (eM (f:=fn) (by simp[hf.le]) hf.nl (by simp) (by simp)) ⟨_,rfl⟩ (fun k x e hx hP=>?_) (fun e hP=>?_)
 ·obtain⟨y,rfl⟩:=hP
  obtain⟨m,hm,rfl⟩:=mB hx
  obtain⟨h1,h2⟩:=hr m (List.mem_of_getElem? hm)
  refine⟨_,dq rfl,bC (ce ?_ aI) ⟨_,rfl⟩⟩
  simp[r.le,r.a0,show ¬m < 0 by omega,show ¬(n:Int)<= m by omega]
 ·obtain⟨y,rfl⟩:=hP
  exact vx (ce (by simp[nW hl,qI hd]) aI)
def Fc.call(h:Fc f\/f=.own):Fc f.lend.toBor:=by
 rcases h with(rfl | rfl) | rfl
 ·exact .inl rfl
 ·exact .inr rfl
 ·exact .inl rfl
def ul(r:Rl o n sp al ip D)(hf:Fc f\/f=.own)(hfn:Fc fn\/fn=.own)(hn:cs.length=n)(hc:InS sp cs)(hg:gA n al nm):hV [o,.lst f (iL cs),.lst fn (iL nm)]=.ok (.lst .own (iL (stR n D cs nm))):=by
 have n20:=r.n20
 have fb:=Fc.of hf
 refine az ?_
 show zg [some o,some (.lst f (iL cs)),some (.lst fn (iL nm))]=_
 unfold zg stR
 refine af (gW (v:=.non) (by simp[r.le,r.tb,uF r (Fc.call hfn) hg,aD])) (a9 ?_ (by simp))
 refine aV (xs:=cX 0 n) (bP (n:=n) (by simp[r.le,r.a0]) (by omega)) (by rw[bp];omega) (kH 0 (fun i:Nat=>if nm.contains (i:Int)then D cs i else gt cs i) n fun k hk=>⟨[some (.lst fn.borrow (iL nm)),some o,some (.lst f.borrow (iL cs)),some (.int (0+k))],by simp[tgN,aU,bQ,PV.borrow,r.bo],?_⟩)
 generalize f.borrow=fc at *
 have gk:∀f,aO (.lst f (iL cs)) (.int (k:Int))=.ok (.int (gt cs k)):=fun f=>by simpa using cL (f:=f) (cs:=cs) (i:=k) (by omega) (by omega)
 have dk:=(r.due fc cs k fb hn hc hk).1
 by_cases q:nm.contains (k:Int)=true
 ·simp only[q,if_true]
  simp at q
  simp[q,r.le,fb.le,dk,aD]
 ·simp only[q]
  simp at q
  simp[q,gk]
def dnR(n:Nat)(D:List Int->Nat->Int)(cs nm:List Int):List Int:=(mvR n D cs).filter fun a=>nm.contains a
def uz(r:Rl o n sp al ip D)(hf:Fc f)(hfn:Fc fn)(hn:cs.length=n)(hc:InS sp cs)(hg:gA n al nm):qz [o,.lst f (iL cs),.lst fn (iL nm)]=.ok (.tup [.lst .own (iL (dnR n D cs nm)),.lst .own (iL (stR n D cs nm))]):=by
 have n20:=r.n20
 have ml:=lc (n:=n) (D:=D) (cs:=cs)
 refine az ?_
 show yW [some o,some (.lst f (iL cs)),some (.lst fn (iL nm)),none,none]=_
 unfold yW
 refine af (aw (v:=.lst .own (iL (stR n D cs nm))) (by simp[r.le,r.tb,r.tu,hf.le,hf.tb,hfn.le,hfn.tb,ul r (.inl hf) (.inl hfn) hn hc hg,aD]) (by simp) rfl) ?_
 simp only[s0_,s1_]
 refine af (aw (v:=.lst .own (iL (dnR n D cs nm))) ?_ (by simp) rfl) ?_
 ·refine aV (xs:=iL (mvR n D cs)) (by simp[r.le,r.tb,r.mv,hf.le,hf.tb,ge r (.inl hf) hn hc,aD]) (by simp;omega) ?_
  have:=fT (env:=bQ [2] 1 [some o,some (.lst f (iL cs)),some (.lst fn (iL nm)),some (.lst .own (iL (stR n D cs nm))),none]) (g:=tgN 1) (mc:=aA (mOp pIn (ac 1) (ac 0))) (me:=ac 1) (fun a=>nm.contains a) (fun a=>a) (mvR n D cs) fun x hx=>⟨[some (.lst fn (iL nm)),some (.int x)],by simp[tgN,aU,bQ,PV.borrow,hfn.bo],by simp,fun _=>by simp⟩
  unfold dnR
  rw[List.map_id']at this
  exact this
 ·simp only[s0_,s1_]
  rfl
def cm(f:Fl)(p:List Int×List Int):PV:=.tup [.lst f (iL p.1),.lst f (iL p.2)]
def im(n:Nat)(D:List Int->Nat->Int):List Int->List (List Int)->List (List Int×List Int)
 | _,[]=>[]
 | cs,nm::tns=>(dnR n D cs nm,stR n D cs nm)::im n D (stR n D cs nm) tns
def pR:∀(tns:List (List Int)) (cs:List Int),(im n D cs tns).length=tns.length
 | [],_=>rfl
 | nm::tns,cs=>by simp[im,pR tns]
def jI{p:Fl->Bool}(h:p f=false)(ps:List (List Int×List Int)):hasL p (ps.map (cm f))=false:=by
 induction ps with
 | nil=>simp
 | cons a l ih=>simp[ih,cm,h]
@[simp] def FE(ps:List (List Int×List Int)):mapL g (ps.map (cm f))=ps.map (cm (g f)):=by
 induction ps with
 | nil=>simp
 | cons a l ih=>simp[ih,cm]
def sZ(r:Rl o n sp al ip D)(hfn:Fc fn){x1 x2:Option PV}:∀(tns:List (List Int)) (cs:List Int) (rows:List PV) (x5:Option PV),cs.length=n->InS sp cs->(∀nm∈tns,gA n al nm)->rows.length+tns.length<=1000 ->
  ∃y5,oF (aq (aQ qz) (ae (ac 0) (ae (ac 3) (ae (ac 5) am)))) 4 3 5 (llL fn tns) rows (.lst .bor (iL cs)) [some o,x1,x2,none,some (.lst .own rows),x5]=.next [some o,x1,x2,none,some (.lst .own (rows ++(im n D cs tns).map (cm .own))),y5]
 | [],cs,rows,x5,_,_,_,_=>⟨x5,by simp[im,oF]⟩
 | nm::tns,cs,rows,x5,hn,hc,hg,hl=>by
  obtain⟨h1,h2⟩:=rj r hn hc nm
  rw[List.length_cons]at hl
  obtain⟨y5,ih⟩:=sZ r hfn (x1:=x1) (x2:=x2) tns (stR n D cs nm) (rows++[cm .own (dnR n D cs nm,stR n D cs nm)]) (some (.lst fn (iL nm))) h1 h2 (fun m hm=>hg m (List.mem_cons_of_mem _ hm)) (by simp;omega)
  refine⟨y5,?_⟩
  rw[xL]
  unfold oF
  have ro:=uz r (f:=.bor) (.inl rfl) hfn hn hc (hg nm List.mem_cons_self)
  simp only[s0_,s1_]
  have em:aq (aQ qz) (ae (ac 0) (ae (ac 3) (ae (ac 5) am))) [some o,x1,x2,some (.lst .bor (iL cs)),none,some (.lst fn (iL nm))]=.ok (.tup [.lst .own (iL (dnR n D cs nm)),.lst .own (iL (stR n D cs nm))]):=by
   simp[r.le,r.tb,hfn.le,hfn.tb,ro,aD]
  rw[em]
  dsimp only
  rw[if_neg (by simp;omega)]
  have eb:(PV.lst .own (iL (stR n D cs nm))).borrow=.lst .bor (iL (stR n D cs nm)):=by simp
  rw[eb]
  have ih':=ih
  unfold cm at ih'
  rw[ih']
  simp[im,cm]
def tq(r:Rl o n sp al ip D)(hn:rs.length=n):g_ [o,.lst f (iL rs)]=.ok (.lst .own (iL (rs.map (· % sp)))):=by
 have n20:=r.n20
 refine az ?_
 show y4 [some o,some (.lst f (iL rs))]=_
 unfold y4
 refine af (ce (by simp[r.le,r.a0,hn]) aI) (a9 ?_ (by simp))
 refine aV (xs:=iL rs) (by simp) (by simp;omega) ?_
 exact eF (· % sp) rs fun x hx=>⟨[some o,some (.int x)],by simp[tgN,aU,bQ,PV.borrow,r.bo],by simp[r.le,r.a7,bW r.s0]⟩
def xA(r:Rl o n sp al ip D):InS sp (rs.map (· % sp)):=fun c hc=>by
 obtain⟨x,_,rfl⟩:=List.mem_map.mp hc
 have:=r.s0
 exact⟨Int.emod_nonneg _ (by omega),Int.emod_lt_of_pos _ r.s0⟩
def Cq{tns:List (List Int)}{ft fi:Fl}(r:Rl o n sp al ip D)(ht:Fc ft.freeze)(hi:Fc fi.freeze)(hn:rs.length=n)(hg:∀nm∈tns,gA n al nm)(hl:tns.length<=1000):yD [o,.lst f (iL rs),.lst ft (llL fi tns)]=.ok (.lst .own ((im n D (rs.map (· % sp)) tns).map (cm .own))):=by
 refine az ?_
 show zE [some o,some (.lst f (iL rs)),some (.lst ft (llL fi tns)),none,none,none]=_
 unfold zE
 refine af (aw (v:=.lst .own (iL (rs.map (· % sp)))) (by simp[r.le,r.tb,r.rd,tq r hn,aD]) (by simp) rfl) ?_
 simp only[s0_,s1_]
 refine af (aw (v:=.lst .own []) (by simp) (by simp) rfl) ?_
 simp only[s0_,s1_]
 refine af (cM (v:=.lst ft (llL fi tns)) rfl) ?_
 have efz:(PV.lst ft (llL fi tns)).mapF Fl.freeze=.lst ft.freeze (llL fi.freeze tns):=by simp
 simp only[s0_,s1_,efz]
 generalize ft.freeze=gt' at *
 generalize fi.freeze=gi at *
 obtain⟨y5,e⟩:=sZ r hi (x1:=some (.lst f (iL rs))) (x2:=some (.lst gt' (llL gi tns))) tns (rs.map (· % sp)) [] none (by simpa using hn) (xA r) hg (by simpa using hl)
 rw[List.nil_append]at e
 have h1:Fl.isOwn gi=false:=by rcases hi with rfl | rfl<;>rfl
 have it:fG (ac 2) [some o,some (.lst f (iL rs)),some (.lst gt' (llL gi tns)),some (.lst .own (iL (rs.map (· % sp)))),some (.lst .own []),none]=.ok (llL gi tns):=eM (f:=gt') (by simp[ht.le,hi.le]) ht.nl (gq _ _ _ h1) (gq _ _ _ hi.nl)
 refine af (e:=[some o,some (.lst f (iL rs)),some (.lst gt' (llL gi tns)),none,some (.lst .own ((im n D (rs.map (· % sp)) tns).map (cm .own))),y5]) ?_ (fD rfl)
 unfold tW
 rw[it]
 have eb:(PV.lst .own (iL (rs.map (· % sp)))).borrow=.lst .bor (iL (rs.map (· % sp))):=by simp
 dsimp only[List.getElem?_cons_zero,List.getElem?_cons_succ,s0_,s1_]
 rw[eb]
 exact e
end
abbrev hZ(f:Fl)(size span:Int):PV:=.obj f 9 [0,7,8] [.int size,.int span,.bl false]
def wF{size span:Int}(h1:2<=size)(h2:size<=20)(h3:size<=span):yv [.obj .own 9 [] [],.int size,.int span]=.ok (hZ .own size span):=by
 refine cJ (e:=[some (hZ .own size span),some (.int size),some (.int span)]) ?_ rfl
 show zt [some (.obj .own 9 [] []),some (.int size),some (.int span)]=_
 unfold zt
 refine af (ce (by simp[show ¬size < 2 by omega,show ¬20 < size by omega]) aI) ?_
 refine af (ce (by simp[show ¬span < size by omega]) aI) ?_
 have ri:gu [.obj .own 9 [] [],.int size,.int span,.bl false]=.ok (hZ .own size span):=by
  refine cJ (e:=[some (hZ .own size span),some (.int size),some (.int span),some (.bl false)]) ?_ rfl
  show iT [some (.obj .own 9 [] []),some (.int size),some (.int span),some (.bl false)]=_
  unfold iT
  refine af (bD (v:=.int size) (ks:=[]) (vs:=[]) (by simp) rfl (by simp) rfl (by decide)) ?_
  refine af (bD (v:=.int span) (ks:=[0]) (vs:=[.int size]) (by simp) rfl (by simp) rfl (by decide)) ?_
  exact bD (v:=.bl false) (ks:=[0,7]) (vs:=[.int size,.int span]) (by simp) rfl (by simp) rfl (by decide)
 have:=gD (env:=[some (.obj .own 9 [] []),some (.int size),some (.int span)]) (m:=gu) (ms:=ae (ac 1) (ae (ac 2) (ae (mC (.bl false)) am))) (xs:=[.int size,.int span,.bl false]) rfl (by simp) (by simp) (by simpa using ri) (by simp[PV.has])
 simpa using this
def bX(sp:Int)(cs:List Int)(i:Nat):Int:=if i=0 then(if gt cs 0=gt cs (cs.length - 1)then(gt cs 0+1) % sp else gt cs 0)else gt cs (i - 1)
def AI(hfc:Fc fc)(hn:cs.length=n)(hi:i < n)(hs:0 < sp):yo [hZ .bor n sp,.lst fc (iL cs),.int i]=.ok (.int (bX sp cs i)):=by
 refine az ?_
 show zh [some (hZ .bor n sp),some (.lst fc (iL cs)),some (.int i)]=_
 unfold zh bX
 by_cases h0:i=0
 ·subst h0
  rw[if_pos rfl]
  have g0:aO (.lst fc (iL cs)) (.int 0)=.ok (.int (gt cs 0)):=cL (by omega) (by omega)
  have gl:aO (.lst fc (iL cs)) (.int ((n:Int) - 1))=.ok (.int (gt cs (cs.length - 1))):=by
   rw[cL (by omega) (by omega)]
   congr 3
   omega
  refine af (ce (by simp) aI) ?_
  by_cases hc:gt cs 0=gt cs (cs.length - 1)
  ·rw[if_pos hc]
   exact gG (jz (by simp[ao,aW,hfc.le,g0,gl,<- hc]) (a9 (by simp[ao,aW,hfc.le,g0,bW hs]) (by simp)))
  ·rw[if_neg hc]
   exact af (ce (by simp[ao,aW,hfc.le,g0,gl,hc]) aI) (a9 (by simp[hfc.le,g0]) (by simp))
 ·rw[if_neg h0]
  have gl:aO (.lst fc (iL cs)) (.int ((i:Int) - 1))=.ok (.int (gt cs (i - 1))):=by
   rw[cL (by omega) (by omega)]
   congr 3
   omega
  exact gG (jz (by simp;omega) (a9 (by simp[hfc.le,gl]) (by simp)))
def Br(hn:cs.length=n)(hc:InS sp cs)(hi:i < n)(hs:0 < sp):0<=bX sp cs i/\bX sp cs i < sp:=by
 unfold bX
 split
 ·split
  ·exact⟨Int.emod_nonneg _ (by omega),Int.emod_lt_of_pos _ hs⟩
  ·exact hc _ (dH (by omega))
 ·exact hc _ (dH (by omega))
def tf(h1:1<=n)(h20:n<=20)(hs:0 < sp):Rl (hZ .bor n sp) n sp false true (bX sp) where
 le:=by simp
 tb:=by simp
 bo:=by simp
 a0:=by simp[ao,aW]
 a7:=by simp[ao,aW]
 a8:=by simp[ao,aW]
 s0:=hs
 n1:=h1
 n20:=h20
 due:=fun fc cs k hfc hn hc hk=>⟨by simp[aE,hfc.tb,AI hfc hn hk hs,aD],Br hn hc hk hs⟩
 rd:=fun r=>by simp[aF]
 mv:=fun r=>by simp[ar]
 tu:=fun r=>by simp[aH]
 ca:=fun r=>by simp[aC]
def pS(h1:1<=n)(h20:n<=20)(rg:∀x∈ps,0<=x.1/\x.1 < n/\0<=x.2/\x.2 < n/\x.1≠x.2)(hl:∀i,(nbL ps i).length<=1000):Rl (pnt .frz n ps) n n false false (kE ps) where
 le:=by simp
 tb:=by simp
 bo:=by simp
 a0:=by simp[ao,aW]
 a7:=by simp[ao,aW]
 a8:=by simp[ao,aW]
 s0:=by omega
 n1:=h1
 n20:=h20
 due:=fun fc cs k hfc hn hc hk=>⟨by simp[aE,hfc.tb,zQ rg hfc hl hn hk,aD],Bq rg hk⟩
 rd:=fun r=>by simp[aF]
 mv:=fun r=>by simp[ar]
 tu:=fun r=>by simp[aH]
 ca:=fun r=>by simp[aC]
def pT{ps:List Int}(hl:ps.length<=9):Rl (cnt .bor ps) (ps.length+1) ((ps.length:Int)+2) false false (o7 (ps.length+1) ps) where
 le:=by simp
 tb:=by simp
 bo:=by simp
 a0:=by simp[ao,aW]
 a7:=by simp[ao,aW]
 a8:=by simp[ao,aW]
 s0:=by omega
 n1:=by omega
 n20:=by omega
 due:=fun fc cs k hfc hn hc hk=>by
  have sm:Sm cs:=fun c hc'=>by have:=hc c hc';omega
  refine⟨by simp[aE,hfc.tb,Bz (i:=k) hfc hl sm hn,aD],?_⟩
  have nn:=pH (cs:=cs) (l:=dN k 1 ps) fun j hj=>by
   obtain⟨h1,h2,_⟩:=iJ hj
   exact(hc _ (dH (far:=cs) (i:=j.toNat) (by omega))).1
  unfold o7
  omega
 rd:=fun r=>by simp[aF]
 mv:=fun r=>by simp[ar]
 tu:=fun r=>by simp[aH]
 ca:=fun r=>by simp[aC]
def o6(ht:0<=tp)(ho:OkS tp os)(hn:cs.length=n)(hnb:∀x∈nbL ps i,0<=x/\x < n)(hc:∀c∈cs,0<=c):0<=fO ps os st tp cs i/\fO ps os st tp cs i<=tp:=by
 unfold fO
 obtain⟨m1,m2⟩:=gh (l:=h_ ps st tp cs i ++(os.getD i none).toList++[tp]) (by simp)
 have h2:=m2 tp (by simp)
 generalize fY (h_ ps st tp cs i ++(os.getD i none).toList++[tp])=M at *
 refine⟨?_,h2⟩
 rcases List.mem_append.mp m1 with q | q
 ·rcases List.mem_append.mp q with q | q
  ·unfold h_ at q
   obtain⟨c,hc1,rfl⟩:=List.mem_map.mp q
   obtain⟨o,ho1,rfl⟩:=List.mem_map.mp (List.mem_filter.mp hc1).1
   have:=hnb o ho1
   have:=hc _ (dH (far:=cs) (i:=o.toNat) (by omega))
   omega
  ·have e:os.getD i none=some M:=by
    cases eo:os.getD i none with
    | none=>rw[eo]at q;cases q
    | some s=>rw[eo]at q;exact congrArg some (List.mem_singleton.mp q).symm
   have hm:some M∈os:=by
    rw[List.getD_eq_getElem?_getD]at e
    cases e2:os[i]? with
    | none=>rw[e2]at e;cases e
    | some x=>rw[e2]at e;rw[<- show x=some M from e];exact List.mem_of_getElem? e2
   exact(ho M hm).1
 ·have:=List.mem_singleton.mp q
  omega
def jJ(hcc:cc=5\/cc=6)(h1:1<=n)(h20:n<=20)(hst:0 < st)(ht:0<=tp)(ho:OkS tp os)(hol:os.length=n)(hnb:∀i:Nat,∀x∈nbL ps i,0<=x/\x < n)(hl:∀i,(nbL ps i).length<=1000):Rl (lea .frz cc n ps os st tp) n (tp+1) true false (fO ps os st tp) where
 le:=by simp
 tb:=by simp
 bo:=by simp
 a0:=by simp[ao,aW]
 a7:=by simp[ao,aW]
 a8:=by simp[ao,aW]
 s0:=by omega
 n1:=h1
 n20:=h20
 due:=fun fc cs k hfc hn hc hk=>by
  have d:=qr (cc:=cc) (ps:=ps) (os:=os) (st:=st) (tp:=tp) (cs:=cs) (i:=k) hfc (by rcases hcc with rfl | rfl<;>rfl) (hnb k) (hl k) hst hn hol hk
  have b:=o6 (st:=st) (i:=k) ht ho hn (hnb k) fun c hc'=>(hc c hc').1
  refine⟨?_,b.1,by omega⟩
  rcases hcc with rfl | rfl<;>simp[aE,hfc.tb,d,aD]
 rd:=fun r=>by rcases hcc with rfl | rfl<;>simp[aF]
 mv:=fun r=>by rcases hcc with rfl | rfl<;>simp[ar]
 tu:=fun r=>by rcases hcc with rfl | rfl<;>simp[aH]
 ca:=fun r=>by rcases hcc with rfl | rfl<;>simp[aC]
def mF(h:1<=n):OkS n (fs n r):=fun s hs=>by
 simp only[fs,List.mem_map,List.mem_range]at hs
 obtain⟨i,_,e⟩:=hs
 split at e
 ·cases e;omega
 ·cases e
def Bt(h1:1<=n)(hn:cs.length=n)(hi:i < n)(hnb:∀i:Nat,∀x∈nbL ps i,0<=x/\x < n)(hc:InS (((n:Int)+1) * ((n:Int)+1)) cs):0<=mM n ps r cs i/\mM n ps r cs i <((n:Int)+1) * ((n:Int)+1):=by
 have hfa:∀c∈FA n cs,0<=c:=fun c hc'=>by
  obtain⟨x,hx,rfl⟩:=List.mem_map.mp hc'
  exact Int.ediv_nonneg (hc x hx).1 (by omega)
 obtain⟨b1,b2⟩:=o6 (ps:=ps) (os:=fs n r) (st:=n) (tp:=n) (cs:=FA n cs) (i:=i) (by omega) (mF h1) (show(FA n cs).length=n by simpa using hn) (hnb i) hfa
 have c1:=sM hn i hi
 have sn:0 <=(kx n ps r cs i).sum:=by
  have:∀l:List Int,(∀x∈l,0<=x)->0<=l.sum:=fun l=>by
   induction l with
   | nil=>simp
   | cons a l ih =>
    intro h
    have:=ih fun x hx=>h x (List.mem_cons_of_mem _ hx)
    have:=h a List.mem_cons_self
    simp
    omega
  exact this _ fun x hx=>(md hn hx).1
 unfold mM dcn
 generalize fO ps (fs n r) n n (FA n cs) i=d at *
 have m1:0<=d * ((n:Int)+1):=Int.mul_nonneg b1 (by omega)
 have m2:d * ((n:Int)+1)<= n * ((n:Int)+1):=Int.mul_le_mul_of_nonneg_right b2 (by omega)
 have m3:((n:Int)+1) * ((n:Int)+1)=n * ((n:Int)+1)+((n:Int)+1):=by rw[Int.add_mul,Int.one_mul]
 split<;>omega
def Am(h1:1<=n)(h10:n<=10)(hnb:∀i:Nat,∀x∈nbL ps i,0<=x/\x < n)(hl:∀i:Nat,(nbL ps i).length<=1000):Rl (gro .frz n ps r) n (((n:Int)+1) * ((n:Int)+1)) true false (mM n ps r) where
 le:=by simp
 tb:=by simp
 bo:=by simp
 a0:=by simp[ao,aW]
 a7:=by simp[ao,aW]
 a8:=by simp[ao,aW]
 s0:=Int.mul_pos (by omega) (by omega)
 n1:=h1
 n20:=by omega
 due:=fun fc cs k hfc hn hc hk=>⟨by simp[aE,hfc.tb,Bs (r:=r) hfc h1 h10 hnb hl hn hk,aD],Bt h1 hn hk hnb hc⟩
 rd:=fun r=>by simp[aF]
 mv:=fun r=>by simp[ar]
 tu:=fun r=>by simp[aH]
 ca:=fun r=>by simp[aC]
structure Ms(o:PV)(n:Nat)(sp:Int)(al ip:Bool)(D:List Int->Nat->Int)(M:List Int->Int):Prop where
 me:∀f cs,Fc f\/f=.own->cs.length=n->InS sp cs->h8 aB (.ok [.lst f (iL cs)]) o=.ok (.int (M cs))
 fa:∀cs nm,cs.length=n->InS sp cs->gA n al nm->caR n ip D cs=false->stR n D cs nm≠cs->M (stR n D cs nm) < M cs
 mv:∀cs,cs.length=n->InS sp cs->caR n ip D cs=false->mvR n D cs≠[]
def Fc.tb2(h:Fc f\/f=.own):Fc f.toBor\/f.toBor=.own:=by
 rcases h with(rfl | rfl) | rfl
 ·exact .inl (.inl rfl)
 ·exact .inl (.inr rfl)
 ·exact .inr rfl
def uj{D:List Int->Nat->Int}(h:caR n false D cs=false):mvR n D cs≠[]:=fun e=>by simp[caR,e]at h
def fq{e:Nat}(h1:0 < b)(h2:b<=1000)(he:e<=1000):kU [.int b,.int e]=.ok (.int (b ^ e)):=by
 refine az ?_
 show yV [some (.int b),some (.int e),none,none]=_
 unfold yV
 refine af (aw (v:=.int 1) (by simp) (by simp) rfl) ?_
 simp only[s0_,s1_]
 refine iV (fun k en=>∃x,en=[some (.int b),some (.int e),some (.int (b ^ k)),x]) (bP (n:=e) (by simp) (by omega)) ⟨none,by simp⟩ (fun k x en hx hP=>?_) (fun en hP=>?_)
 ·obtain⟨y,rfl⟩:=hP
  obtain⟨hk,rfl⟩:=dW hx
  have m1:dG (.int (b ^ k)) (.int b)=.ok (.int (b ^ k * b)):=eU (.inr ⟨by omega,by omega⟩)
  exact⟨_,dq rfl,bC (aw (v:=.int (b ^ (k+1))) (by simp[m1,Int.pow_succ]) (by simp) rfl) ⟨_,rfl⟩⟩
 ·obtain⟨y,rfl⟩:=hP
  rw[bp]
  exact fD rfl
def qY(h:n<=10):(0:Int) < 2 ^ n/\(2:Int) ^ n<=1024:=by
 refine⟨Int.pow_pos (by decide),?_⟩
 rcases Nat.lt_or_ge n 10 with q | q
 ·exact Int.le_of_lt (Int.pow_lt_pow_of_lt (c:=10) (by decide) q)
 ·rw[show n=10 by omega];decide
section
variable{n:Nat}{D:List Int->Nat->Int}{cs nm:List Int}{i:Nat}
def fU(hi:i < n):gt (stR n D cs nm) i=if nm.contains (i:Int)then D cs i else gt cs i:=by simp[stR,gt,hi]
def lE(hn:cs.length=n)(h:stR n D cs nm≠cs):∃i,i < n/\nm.contains (i:Int)=true/\D cs i≠gt cs i:=by
 apply Classical.byContradiction
 intro no
 refine h (List.ext_getElem (by simp[stR,hn]) fun i a b=>?_)
 rw[<- jw _ _ a,<- jw _ _ b,fU (by omega)]
 split
 ·exact Classical.byContradiction fun z=>no ⟨i,by omega,‹_›,z⟩
 ·rfl
def sU(hn:cs.length=n)(hl:nm.length<=1)(hi:i < n)(hc:nm.contains (i:Int)=true):stR n D cs nm=cs.set i (D cs i):=by
 have e:nm=[(i:Int)]:=by
  cases nm with
  | nil=>simp at hc
  | cons a l =>
   cases l with
   | nil=>simp at hc;rw[hc]
   | cons b l=>simp at hl
 subst e
 refine List.ext_getElem (by simp[stR,hn]) fun j a b=>?_
 have hj:j < n:=by simpa[stR]using a
 rw[<- jw _ _ a,<- jw _ _ b,fU hj,eE _ (by omega)]
 by_cases e:j=i
 ·simp[e]
 ·rw[if_neg (by simp;omega),if_neg e]
def Wl(rk:Nat->Nat)(n:Nat)(p:Nat->Bool):Int:=(((List.range n).filter p).map fun i=>(2:Int) ^ rk i).sum
def oI:∀(n:Nat) (l:List Nat),l.Nodup->(∀x∈l,x < n)->(l.map fun x=>2 ^ x).sum < 2 ^ n
 | 0,l,_,h=>by
  cases l with
  | nil=>decide
  | cons x l=>exact absurd (h x List.mem_cons_self) (by omega)
 | n+1,l,nd,h=>by
  rw[Nat.pow_succ]
  by_cases q:n∈l
  ·have p:=List.perm_cons_erase q
   rw[(p.map fun x=>2 ^ x).sum_nat,List.map_cons,List.sum_cons]
   have nd':=List.nodup_cons.mp (p.nodup_iff.mp nd)
   have:=oI n (l.erase n) nd'.2 fun x hx=>by
    have h1:=h x (List.mem_of_mem_erase hx)
    have h2:x≠n:=fun e=>nd'.1 (e▸hx)
    omega
   omega
  ·have:=oI n l nd fun x hx=>by
    have h1:=h x hx
    have h2:x≠n:=fun e=>q (e▸hx)
    omega
   omega
def pG:∀l:List Nat,((l.sum:Nat):Int)=(l.map fun x:Nat=>(x:Int)).sum
 | []=>by simp
 | x::l=>by
  have:=pG l
  simp only[List.map_cons,List.sum_cons]
  omega
variable{rk:Nat->Nat}{p p':Nat->Bool}
def pE{K:Nat}(inj:∀i j,i < n->j < n->rk i=rk j->i=j)(hk:∀i,i < n->p i=true->rk i < K):0<=Wl rk n p/\Wl rk n p < 2 ^ K:=by
 have mm:∀i ∈(List.range n).filter p,i < n/\p i=true:=fun i hi=>⟨List.mem_range.mp (List.mem_filter.mp hi).1,(List.mem_filter.mp hi).2⟩
 have nd:(((List.range n).filter p).map rk).Nodup:=by
  rw[List.Nodup,List.pairwise_map]
  exact List.Pairwise.imp_of_mem (fun {a b} ha hb hab e=>hab (inj a b (mm a ha).1 (mm b hb).1 e)) (List.nodup_range.filter _)
 have b:=oI K (((List.range n).filter p).map rk) nd fun x hx=>by
  obtain⟨i,hi,rfl⟩:=List.mem_map.mp hx
  exact hk i (mm i hi).1 (mm i hi).2
 have e:Wl rk n p=(((((List.range n).filter p).map rk).map fun x=>2 ^ x).sum:Nat):=by
  rw[pG]
  unfold Wl
  congr 1
  simp[List.map_map,Function.comp_def]
 rw[e]
 exact⟨by omega,by exact_mod_cast b⟩
def vN{m:Nat}(inj:∀i j,i < n->j < n->rk i=rk j->i=j)(hm:m < n)(h1:p m=true)(h2:p' m=false)(h3:∀i,i < n->rk m < rk i->p' i=p i):Wl rk n p' < Wl rk n p:=by
 have sp:∀p:Nat->Bool,Wl rk n p=Wl rk n (fun i=>p i&&decide (rk m < rk i))+Wl rk n (fun i=>p i&&!decide (rk m < rk i)):=fun p=>by
  unfold Wl
  generalize List.range n=l
  induction l with
  | nil=>rfl
  | cons a l ih =>
   simp only[List.filter_cons]
   cases p a<;>cases decide (rk m < rk a)<;>simp[ih]<;>omega
 have e:Wl rk n (fun i=>p' i&&decide (rk m < rk i))=Wl rk n (fun i=>p i&&decide (rk m < rk i)):=by
  unfold Wl
  rw[List.filter_congr fun i hi=>?_]
  by_cases q:rk m < rk i
  ·rw[h3 i (List.mem_range.mp hi) q]
  ·simp[q]
 have lo:=(pE (n:=n) (p:=fun i=>p' i && !decide (rk m < rk i)) (K:=rk m) inj fun i hi hp=>by
  simp at hp
  have:rk i≠rk m:=fun e=>by rw[inj i m hi hm e,h2]at hp;simp at hp
  omega).2
 have up:(2:Int) ^ rk m<=Wl rk n fun i=>p i&&!decide (rk m < rk i):=by
  refine sj (fun x hx=>?_) _ (List.mem_map.mpr ⟨m,List.mem_filter.mpr ⟨List.mem_range.mpr hm,by simp[h1]⟩,rfl⟩)
  obtain⟨i,_,rfl⟩:=List.mem_map.mp hx
  exact Int.le_of_lt (Int.pow_pos (by decide))
 rw[sp p',sp p,e]
 omega
def vM(n10:n<=10)(hr:∀i,i < n->rk i < n):jP (.lst f (iL (((List.range n).filter p).map fun i=>(2:Int) ^ rk i)))=.ok (.int (Wl rk n p)):=by
 refine k_ ?_ fun x hx=>?_
 ·rw[List.length_map]
  exact Nat.le_trans (List.length_filter_le _ _) (by simp;omega)
 ·obtain⟨i,hi,rfl⟩:=List.mem_map.mp hx
  have:=hr i (List.mem_range.mp (List.mem_filter.mp hi).1)
  have:=qY (n:=rk i) (by omega)
  omega
abbrev mvB(D:List Int->Nat->Int)(cs:List Int)(i:Nat):Bool:=decide (D cs i≠gt cs i)
def mP(inj:∀i j,i < n->j < n->rk i=rk j->i=j)(rl:∀i,i < n->rk i < n)(loc:∀cs cs' i,i < n->(∀j,j < n->rk i < rk j->gt cs j=gt cs' j)->D cs i=D cs' i)(hn:cs.length=n)(hne:stR n D cs nm≠cs):Wl rk n (mvB D (stR n D cs nm)) < Wl rk n (mvB D cs):=by
 have mx:∀(d i:Nat),i < n->nm.contains (i:Int)=true/\D cs i≠gt cs i->n - rk i=d->∃m,m < n/\(nm.contains (m:Int)=true/\D cs m≠gt cs m)/\∀j,j < n->rk m < rk j->nm.contains (j:Int)=true->D cs j=gt cs j:=by
  intro d
  induction d using Nat.strongRecOn with
  | _ d ih =>
   intro i hi hP hd
   by_cases h:∃j,j < n/\(nm.contains (j:Int)=true/\D cs j≠gt cs j)/\rk i < rk j
   ·obtain⟨j,hj,hPj,hlt⟩:=h
    have:=rl j hj
    exact ih (n - rk j) (by omega) j hj hPj rfl
   ·exact⟨i,hi,hP,fun j hj hl hc=>Classical.byContradiction fun z=>h ⟨j,hj,⟨hc,z⟩,hl⟩⟩
 obtain⟨i,hi,hP⟩:=lE hn hne
 obtain⟨m,hm,⟨m1,m2⟩,top⟩:=mx _ i hi hP rfl
 have same:∀j,j < n->rk m < rk j->gt (stR n D cs nm) j=gt cs j:=fun j hj hlt=>by
  rw[fU hj]
  split
  ·exact top j hj hlt ‹_›
  ·rfl
 have du:∀j,j < n->rk m<=rk j->D (stR n D cs nm) j=D cs j:=fun j hj hle=>loc _ _ j hj fun k hk hl=>same k hk (by omega)
 refine vN inj hm (by simp[m2]) ?_ fun j hj hlt=>?_
 ·simp only[mvB,du m hm (Nat.le_refl _),fU hm,m1]
  simp
 ·simp only[mvB,du j hj (by omega),same j hj hlt]
def qG{al ip:Bool}(r:Rl o n sp al ip D)(n10:n<=10)(hr:∀i:Nat,i < n->h8 dh (.ok [.int i]) o=.ok (.int (rk i))/\rk i < n)(hf:Fc f\/f=.own)(hn:cs.length=n)(hc:InS sp cs):x_ [o,.lst f (iL cs)]=.ok (.int (Wl rk n (mvB D cs))):=by
 refine az ?_
 show EF [some o,some (.lst f (iL cs))]=_
 unfold EF
 have mo:=ge r (.inl (Fc.call hf)) hn hc
 have ml:=lc (n:=n) (D:=D) (cs:=cs)
 refine a9 ?_ (by simp)
 simp only[cw,bt,bN]
 rw[aV (xs:=iL (mvR n D cs)) (ys:=iL (((List.range n).filter (mvB D cs)).map fun i=>(2:Int) ^ rk i)) (by simp[r.le,r.tb,r.mv,mo,aD]) (by rw[bB];omega) ?_]
 ·simp[p1,vM n10 fun i hi=>(hr i hi).2]
 ·unfold mvR
  rw[show ∀l:List Nat,iL (l.map fun i:Nat=>(i:Int))=l.map fun i:Nat=>PV.int i from fun l=>by simp[iL],show ∀l:List Nat,iL (l.map fun i=>(2:Int) ^ rk i)=l.map fun i=>PV.int (2 ^ rk i)from fun l=>by simp[iL]]
  refine bL (a:=fun i:Nat=>PV.int i) (f:=fun i=>PV.int (2 ^ rk i)) _ fun x hx=>⟨[some o,some (.int x)],by simp[tgN,aU,bQ,r.bo],?_,by simp,by simp⟩
  have hx:=hr x (List.mem_range.mp (List.mem_filter.mp hx).1)
  have pw:=fq (e:=rk x) (b:=2) (by decide) (by decide) (by omega)
  simp[r.le,hx.1,pw,aD]
end
def xr(h1:1<=n)(n10:n<=10)(rg:∀x∈ps,0<=x.1/\x.1 < n/\0<=x.2/\x.2 < n/\x.1≠x.2)(hl:∀i,(nbL ps i).length<=1000):Ms (pnt .frz n ps) n n false false (kE ps) fun cs=>Wl (fun i=>n - 1 - i) n (mvB (kE ps) cs) where
 me:=fun f cs hf hn hc=>by
  have rk:∀i:Nat,i < n->DU [pnt .frz n ps,.int i]=.ok (.int ((n - 1 - i:Nat):Int)):=fun i hi=>by
   refine az ?_
   show Es [some (pnt .frz n ps),some (.int i)]=_
   unfold Es
   exact a9 (by simp[ao,aW];omega) (by simp)
  have:=qG (rk:=fun i=>n - 1 - i) (pS h1 (by omega) rg hl) n10 (fun i hi=>⟨by simp[dh,rk i hi,aD],by omega⟩) (Fc.tb2 hf) hn hc
  simp[aB,this,aD]
 fa:=fun cs nm hn hc _ _ h=>mP (by omega) (by omega) (fun a b i hi h=>yK rg fun j hj=>h j (by omega) (by omega)) hn h
 mv:=fun cs _ _ h=>uj h
def xu{ps:List Int}(T:Tree ps)(hl:ps.length<=9):Ms (cnt .bor ps) (ps.length+1) ((ps.length:Int)+2) false false (o7 (ps.length+1) ps) fun cs=>Wl id (ps.length+1) (mvB (o7 (ps.length+1) ps) cs) where
 me:=fun f cs hf hn hc=>by
  have rk:∀i:Nat,D0 [cnt .bor ps,.int i]=.ok (.int i):=fun i=>by
   refine az ?_
   show G8 [some (cnt .bor ps),some (.int i)]=_
   exact fD rfl
  have:=qG (rk:=id) (pT hl) (by omega) (fun i hi=>⟨by simp[dh,rk i,aD],hi⟩) (Fc.tb2 hf) hn hc
  simp[aB,this,aD]
 fa:=fun cs nm hn hc _ _ h=>mP (fun _ _ _ _ h=>h) (fun _ h=>h) (fun a b i hi h=>by
  unfold o7
  rw[pI fun k hk=>?_]
  obtain⟨k1,k2,k3⟩:=iJ hk
  obtain⟨k4,k5⟩:=List.getElem?_eq_some_iff.mp k3
  have:=T _ k4
  exact h _ (by omega) (by simp only[id];omega)) hn h
 mv:=fun cs _ _ h=>uj h
def num(b:Int)(r f:Nat->Nat):Nat->Int
 | 0=>0
 | m+1=>(num b r f m * b+r m) * b+f m
def uA(n:Nat)(A x:Nat->Int)(m:Nat):Nat:=((List.range n).filter fun i=>decide (x i=m)&&decide ((m:Int) < A i)).length
def vp(n:Nat)(A x:Nat->Int)(m:Nat):Nat:=((List.range n).filter fun i=>decide ((m:Int) < x i)&&decide (A i=m)).length
def mH{p:Nat->Bool}:((List.range n).filter p).length<=n:=by
 have:=List.length_filter_le p (List.range n)
 rwa [List.length_range]at this
def mL(n T:Nat)(A x:Nat->Int):Int:=num ((n:Int)+1) (uA n A x) (vp n A x) T
def pC(f g:Nat->Int):∀l:List Nat,e9 (iL (l.map f)) (iL (l.map g))=l.map fun i=>prV (f i,g i)
 | []=>rfl
 | i::l=>by
  have:=pC f g l
  simp only[iL,List.map_cons,e9]at this ⊢
  rw[this]
  rfl
def qp{D:Nat->Int}(hf:Fc fc\/fc=.own)(hd:∀f k,Fc f->k < n->h8 aE (.ok [.lst f (iL cs),.int k]) (lea .frz cc n ps os st T)=.ok (.int (D k)))(hn:cs.length=n)(n10:n<=10)(hT:T<=1000) :
  sD [lea .frz cc n ps os st T,.lst fc (iL cs)]=.ok (.int (mL n T D (gt cs))):=by
 have fb:=Fc.of hf
 refine az ?_
 show EG [some (lea .frz cc n ps os st T),some (.lst fc (iL cs)),none,none,none,none,none,none]=_
 unfold EG mL
 refine af (aw (v:=.lst .own (iL ((List.range n).map D))) ?_ (by simp) rfl) ?_
 ·refine aV (xs:=cX 0 n) (bP (n:=n) (by simp[ao,aW]) (by omega)) (by rw[bp];omega) (kH 0 D n fun k hk=>⟨[some (lea .frz cc n ps os st T),some (.lst fc.borrow (iL cs)),some (.int (0+k))],by simp[tgN,aU,bQ],?_⟩)
  have:=hd _ k fb hk
  simp[fb.le,this]
 simp only[s0_,s1_]
 refine af (aw (v:=.int ((n:Int)+1)) (by simp[ao,aW]) (by simp) rfl) ?_
 simp only[s0_,s1_]
 refine af (aw (v:=.int 0) (by simp) (by simp) rfl) ?_
 simp only[s0_,s1_]
 have zp:e9 (iL cs) (iL ((List.range n).map D))=(List.range n).map fun i=>prV (gt cs i,D i):=by
  have:=pC (gt cs) D (List.range n)
  rw[<- hn,gtR]at this
  rw[<- hn]
  exact this
 refine iV (fun k e=>∃x5 x6 x7,e=[some (lea .frz cc n ps os st T),some (.lst fc (iL cs)),some (.lst .own (iL ((List.range n).map D))),some (.int ((n:Int)+1)),some (.int (num ((n:Int)+1) (uA n D (gt cs)) (vp n D (gt cs)) k)),x5,x6,x7]) (bP (n:=T) (by simp[ao,aW]) (by omega)) ⟨_,_,_,rfl⟩ (fun k x e hx hP=>?_) (fun e hP=>?_)
 ·obtain⟨x5,x6,x7,rfl⟩:=hP
  obtain⟨hk,rfl⟩:=dW hx
  generalize hN:num ((n:Int)+1) (uA n D (gt cs)) (vp n D (gt cs)) k=N
  have mz:∀x6 x7,jT (ae (ac 1) (ae (ac 2) am)) [some (lea .frz cc n ps os st T),some (.lst fc (iL cs)),some (.lst .own (iL ((List.range n).map D))),some (.int ((n:Int)+1)),some (.int N),some (.int k),x6,x7]=.ok ((List.range n).map fun i=>prV (gt cs i,D i)):=fun x6 x7=>by
   unfold jT
   simp only[bt,bH,bN,List.getElem?_cons_zero,List.getElem?_cons_succ,AJ]
   simp[eC,zp]
  have row:∀(p:Nat->Bool) (mc:MT) (x6 x7:Option PV),(∀i,mc [some (.int k),some (.int (gt cs i)),some (.int (D i))]=.ok (p i))->a_ [5] 2 (jT (ae (ac 1) (ae (ac 2) am))) (tgT 2 (bO (tgN 1) (bO (tgN 2) g7))) mc (ac 1) [some (lea .frz cc n ps os st T),some (.lst fc (iL cs)),some (.lst .own (iL ((List.range n).map D))),some (.int ((n:Int)+1)),some (.int N),some (.int k),x6,x7]=.ok (.lst .own (iL (((List.range n).filter p).map (gt cs)))):=fun p mc x6 x7 hp=>by
   rw[show iL (((List.range n).filter p).map (gt cs))=((List.range n).filter p).map fun i=>PV.int (gt cs i) by simp[iL]]
   exact aV (mz _ _) (by simp;omega) (b_ (a:=fun i=>prV (gt cs i,D i)) (f:=fun i=>.int (gt cs i)) (p:=p) (List.range n) fun i hi=>⟨[some (.int k),some (.int (gt cs i)),some (.int (D i))],rfl,hp i,fun _=>⟨by simp,rfl,rfl⟩⟩)
  refine⟨_,dq rfl,?_⟩
  simp only[s0_,s1_,Int.zero_add]
  refine bq (aw (v:=.lst .own (iL (((List.range n).filter fun i=>decide (gt cs i=k)&&decide ((k:Int) < D i)).map (gt cs)))) (row _ _ _ _ fun i=>by by_cases q:gt cs i=k<;>simp[q]) (by simp) rfl) ?_
  simp only[s0_,s1_]
  refine bq (aw (v:=.lst .own (iL (((List.range n).filter fun i=>decide ((k:Int) < gt cs i)&&decide (D i=k)).map (gt cs)))) (row _ _ _ _ fun i=>by by_cases q:(k:Int) < gt cs i<;>simp[q]) (by simp) rfl) ?_
  simp only[s0_,s1_]
  have m1:∀x:Int,dG (.int x) (.int ((n:Int)+1))=.ok (.int (x * ((n:Int)+1))):=fun x=>eU (.inr ⟨by omega,by omega⟩)
  exact bC (aw (v:=.int ((N * ((n:Int)+1)+uA n D (gt cs) k) * ((n:Int)+1)+vp n D (gt cs) k)) (by simp[m1,p1,bU,aL,uA,vp]) (by simp) rfl) ⟨_,_,_,by subst hN;rfl⟩
 ·obtain⟨x5,x6,x7,rfl⟩:=hP
  rw[bp]
  exact fD rfl
def jv{x' r' r:Int}(hb:0 < b)(h:x' < x)(h1:r' < b)(h2:0<=r):x' * b+r' < x * b+r:=by
 have:(x' + 1) * b<=x * b:=Int.mul_le_mul_of_nonneg_right (by omega) (by omega)
 rw[Int.add_mul,Int.one_mul]at this
 omega
def uW{r f r' f':Nat->Nat}(hb:0 < b)(hr:∀m,(r' m:Int) < b)(hf:∀m,(f' m:Int) < b)(he:∀m < k,r' m=r m/\f' m=f m)(hk:r' k < r k \/(r' k=r k/\f' k < f k)):∀t,k < t->num b r' f' t < num b r f t:=by
 have same:∀m,m<=k->num b r' f' m=num b r f m:=fun m=>by
  induction m with
  | zero=>intro _;rfl
  | succ m ih =>
   intro h
   obtain⟨e1,e2⟩:=he m (by omega)
   simp only[num,ih (by omega),e1,e2]
 intro t ht
 induction t with
 | zero=>omega
 | succ t ih =>
  simp only[num]
  by_cases q:k=t
  ·subst q
   rw[same k (Nat.le_refl _)]
   rcases hk with h |⟨h,h2⟩
   ·exact jv hb (by omega) (hf k) (by omega)
   ·rw[h];omega
  ·exact jv hb (jv hb (ih (by omega)) (hr t) (by omega)) (hf t) (by omega)
def eP{p q:Nat->Bool}:∀(l:List Nat) (i:Nat),i∈l->(∀j∈l,q j=true->p j=true)->p i=true->q i=false->(l.filter q).length <(l.filter p).length
 | [],_,h,_,_,_=>nomatch h
 | a::l,i,h,hs,hp,hq=>by
  have le:∀l:List Nat,(∀j∈l,q j=true->p j=true)->(l.filter q).length <=(l.filter p).length:=fun l hl=>by
   induction l with
   | nil=>simp
   | cons b l ih =>
    have:=ih fun j hj=>hl j (List.mem_cons_of_mem _ hj)
    have hb:=hl b List.mem_cons_self
    rw[List.filter_cons,List.filter_cons]
    cases e1:q b<;>cases e2:p b<;>simp_all<;>omega
  rw[List.filter_cons,List.filter_cons]
  rcases List.mem_cons.mp h with rfl | h
  ·have:=le l fun j hj=>hs j (List.mem_cons_of_mem _ hj)
   rw[hp,hq]
   simp
   omega
  ·have ih:=eP l i h (fun j hj=>hs j (List.mem_cons_of_mem _ hj)) hp hq
   have ha:=hs a List.mem_cons_self
   cases e1:q a<;>cases e2:p a<;>simp_all<;>omega
def xI{x y A B:Nat->Int}(hi:i < n)(hx:0<=x i/\x i<=T)(hA:0<=A i/\A i<=T)(hd:A i≠x i)(yi:y i=A i)(yj:∀j,j≠i->y j=x j)(eq:∀j v,v<=x i->v<=A i->(B j=v↔A j=v)):mL n T B y < mL n T A x:=by
 have gv:∀j v,v<=x i->v<=A i->(v < B j↔v < A j):=fun j v h1 h2=>by
  have e1:=eq j (B j)
  have e2:=eq j (A j)
  omega
 have bd:∀p:Nat->Bool,(((List.range n).filter p).length:Int) <(n:Int)+1:=fun p=>by
  have:=mH (n:=n) (p:=p)
  omega
 obtain⟨k,k1,k2,k3⟩:∃k:Nat,(k:Int)<= x i/\(k:Int)<= A i/\(k=x i\/k=A i):=⟨(min (x i) (A i)).toNat,by omega⟩
 have df:∀{p:Prop} [Decidable p],¬p->decide p=false:=fun h=>decide_eq_false h
 refine uW (k:=k) (by omega) (fun m=>bd _) (fun m=>bd _) (fun m hm=>⟨?_,?_⟩) ?_ T (by omega)
 ·refine congrArg _ (List.filter_congr fun j _=>?_)
  by_cases e:j=i
  ·cases e
   rw[df (show ¬y i=m by omega),df (show ¬x i=m by omega)]
   rfl
  ·rw[yj j e,decide_eq_decide.mpr (gv j m (by omega) (by omega))]
 ·refine congrArg _ (List.filter_congr fun j _=>?_)
  rw[decide_eq_decide.mpr (eq j m (by omega) (by omega))]
  by_cases e:j=i
  ·cases e
   rw[df (show ¬A i=m by omega),Bool.and_false,Bool.and_false]
  ·rw[yj j e]
 ·by_cases q:A i < x i
  ·have ek:(k:Int)=A i:=by omega
   refine .inr ⟨congrArg _ (List.filter_congr fun j _=>?_),eP (List.range n) i (List.mem_range.mpr hi) (fun j _ h=>?_) ?_ ?_⟩
   ·rw[decide_eq_decide.mpr (gv j k k1 k2)]
    by_cases e:j=i
    ·cases e
     rw[df (show ¬(k:Int) < A i by omega),Bool.and_false,Bool.and_false]
    ·rw[yj j e]
   ·rw[decide_eq_decide.mpr (eq j k k1 k2)]at h
    by_cases e:j=i
    ·cases e
     rw[df (show ¬(k:Int) < y i by omega)]at h;cases h
    ·rwa [yj j e]at h
   ·rw[decide_eq_true (show(k:Int) < x i by omega),decide_eq_true ek.symm];rfl
   ·rw[df (show ¬(k:Int) < y i by omega)];rfl
  ·have ek:(k:Int)=x i:=by omega
   refine .inl (eP (List.range n) i (List.mem_range.mpr hi) (fun j _ h=>?_) ?_ ?_)
   ·rw[decide_eq_decide.mpr (gv j k k1 k2)]at h
    by_cases e:j=i
    ·cases e
     rw[df (show ¬y i=k by omega)]at h;cases h
    ·rwa [yj j e]at h
   ·rw[decide_eq_true ek.symm,decide_eq_true (show(k:Int) < A i by omega)];rfl
   ·rw[df (show ¬y i=k by omega)];rfl
section
variable{n:Nat}{ps:List (Int×Int)}{os:List (Option Int)}{st tp:Int}{cs cs':List Int}{k:Int}{i j:Nat}
def ud(he:∀x,x<=k->(x∈h_ ps st tp cs j↔x∈h_ ps st tp cs' j)):∀v,v<=k->fO ps os st tp cs j=v->fO ps os st tp cs' j=v:=fun v hv h=>by
 unfold fO at h ⊢
 obtain⟨a1,a2⟩:=gh (l:=h_ ps st tp cs j ++(os.getD j none).toList++[tp]) (by simp)
 obtain⟨b1,b2⟩:=gh (l:=h_ ps st tp cs' j ++(os.getD j none).toList++[tp]) (by simp)
 rw[h]at a1 a2
 have m:∀x,x<=k->(x∈h_ ps st tp cs j ++(os.getD j none).toList++[tp]↔ x∈h_ ps st tp cs' j ++(os.getD j none).toList++[tp]):=fun x hx=>by
  simp only[List.mem_append,he x hx]
 have h1:=b2 v ((m v hv).mp a1)
 have h2:=a2 _ ((m _ (by omega)).mpr b1)
 omega
def w_{d:Int}(hi:i < cs.length)(h1:k<=gt cs i)(h2:k<=d):∀x,x<=k->(x∈h_ ps st tp cs j↔x∈h_ ps st tp (cs.set i d) j):=fun x hx=>by
 simp only[h_,List.mem_map,List.mem_filter]
 constructor
 ·rintro⟨c,⟨⟨o,ho,rfl⟩,h⟩,rfl⟩
  have:o.toNat≠i:=fun e=>by rw[e]at hx;omega
  exact⟨gt cs o.toNat,⟨⟨o,ho,by rw[eE _ hi,if_neg this]⟩,h⟩,rfl⟩
 ·rintro⟨c,⟨⟨o,ho,rfl⟩,h⟩,rfl⟩
  rw[eE _ hi]at hx h ⊢
  by_cases e:o.toNat=i
  ·rw[if_pos e]at hx;omega
  ·rw[if_neg e]at h ⊢
   exact⟨gt cs o.toNat,⟨⟨o,ho,rfl⟩,h⟩,rfl⟩
abbrev mT(n:Nat)(ps:List (Int×Int))(os:List (Option Int))(st:Int)(T:Nat)(cs:List Int):Int:=mL n T (fO ps os st T cs) (gt cs)
def kS(ho:OkS T os)(hnb:∀i:Nat,∀x∈nbL ps i,0<=x/\x < n)(hn:cs.length=n)(hc:∀c∈cs,0<=c/\c<=T)(hi:i < n)(hm:fO ps os st T cs i≠gt cs i):mT n ps os st T (cs.set i (fO ps os st T cs i)) < mT n ps os st T cs:=by
 have hd:=o6 (st:=st) (i:=i) (by omega) ho hn (hnb i) fun c h=>(hc c h).1
 refine xI hi (hc _ (dH (by omega))) hd hm (by rw[eE _ (by omega),if_pos rfl]) (fun j hj=>by rw[eE _ (by omega),if_neg hj]) fun j v h1 h2=>?_
 have he:=w_ (ps:=ps) (st:=st) (tp:=T) (cs:=cs) (i:=i) (j:=j) (k:=v) (by omega) h1 h2
 exact⟨ud (fun x hx=>(he x hx).symm) v (Int.le_refl _),ud he v (Int.le_refl _)⟩
def xt(hcc:cc=5\/cc=6)(h1:1<=n)(n10:n<=10)(hst:0 < st)(hT:T<=1000)(ho:OkS T os)(hol:os.length=n)(hnb:∀i:Nat,∀x∈nbL ps i,0<=x/\x < n)(hl:∀i,(nbL ps i).length<=1000):Ms (lea .frz cc n ps os st T) n ((T:Int)+1) true false (fO ps os st T) (mT n ps os st T) where
 me:=fun f cs hf hn hc=>by
  have r:=jJ (cc:=cc) hcc h1 (by omega) hst (Int.natCast_nonneg T) ho hol hnb hl
  have:=qp (Fc.tb2 hf) (fun f k hf hk=>(r.due f cs k hf hn hc hk).1) hn n10 hT
  rcases hcc with rfl | rfl<;>simp[aB,this,aD]
 fa:=fun cs nm hn hc hg _ h=>by
  obtain⟨i,hi,hi1,hi2⟩:=lE hn h
  rw[sU hn (hg.2.2.1 rfl) hi hi1]
  exact kS ho hnb hn (fun c h=>by have:=hc c h;omega) hi hi2
 mv:=fun cs _ _ h=>uj h
end
def ltF(fa:List Int)(j i:Nat):Bool:=decide (gt fa j < gt fa i) ||(decide (gt fa j=gt fa i)&&decide (j < i))
def rnk(n:Nat)(fa:List Int)(i:Nat):Nat:=((List.range n).filter fun j=>ltF fa j i).length
section
variable{n:Nat}{ps:List (Int×Int)}{r:Nat}{cs fa:List Int}{i j:Nat}{fc:Fl}
def Ap(hn:fa.length=n)(n10:n<=10)(hi:i < n):yh [.lst .bor (iL fa),.int i]=.ok (.int (rnk n fa i)):=by
 refine az ?_
 show zb [some (.lst .bor (iL fa)),some (.int i),none]=_
 unfold zb
 refine af (aw (v:=.lst .own (iL (((List.range n).filter fun j=>ltF fa j i).map fun j:Nat=>(j:Int)))) ?_ (by simp) rfl) ?_
 ·refine aV (xs:=cX 0 n) (bP (n:=n) (by simp[p1,bU,aL,hn]) (by omega)) (by rw[bp];omega) (gY (fun j=>ltF fa j i) (fun j:Nat=>(j:Int)) n fun k hk=>⟨[some (.lst .bor (iL fa)),some (.int i),some (.int (0+k))],by simp[tgN,aU,bQ,Fl.borrow],?_,fun _=>by simp⟩)
  have a1:∀(f:Fl) (k:Nat),k < n->aO (.lst f (iL fa)) (.int (k:Int))=.ok (.int (gt fa k)):=fun f k hk=>by simpa using cL (f:=f) (cs:=fa) (i:=k) (by omega) (by omega)
  have e:HT.lexLt [gt fa k,(k:Int)] [gt fa i,(i:Int)]=ltF fa k i:=by
   simp only[HT.lexLt,ltF]
   by_cases h:gt fa k=gt fa i
   ·rw[if_pos h]
    by_cases h2:k=i
    ·subst h2;simp
    ·rw[if_neg (by omega)]
     simp[h]
   ·rw[if_neg h]
    simp[h]
  rw[<- e]
  simp[a1 _ k hk,a1 _ i hi,wS,bh]
 simp only[s0_,s1_]
 exact a9 (by simp[p1,bU,aL,rnk]) (by simp)
def rK(hi:i < n)(h:ltF fa i j=true):rnk n fa i < rnk n fa j :=
 eP (List.range n) i (List.mem_range.mpr hi) (fun k _ q=>by
  simp only[ltF,Bool.or_eq_true,Bool.and_eq_true,decide_eq_true_eq]at *
  omega) h (by simp[ltF])
def la(hi:i < n):rnk n fa i < n:=by
 have:=eP (p:=fun _=>true) (q:=fun j=>ltF fa j i) (List.range n) i (List.mem_range.mpr hi) (fun _ _ _=>rfl) rfl (by simp[ltF])
 rwa [List.filter_eq_self.mpr (fun _ _=>rfl),List.length_range]at this
def s_(hi:i < n)(hj:j < n)(e:rnk n fa i=rnk n fa j):i=j:=by
 apply Classical.byContradiction
 intro h
 have:ltF fa i j=true\/ltF fa j i=true:=by
  simp only[ltF,Bool.or_eq_true,Bool.and_eq_true,decide_eq_true_eq]
  omega
 rcases this with q | q
 ·have:=rK hi q;omega
 ·have:=rK hj q;omega
abbrev wrg(n:Nat)(ps:List (Int×Int))(r:Nat)(cs:List Int)(i:Nat):Bool:=decide (gt (CN n cs) i≠dcn n ps r cs i)
def MG(n:Nat)(ps:List (Int×Int))(r:Nat)(cs:List Int):Int:=mT n ps (fs n r) n n (FA n cs) * 2 ^ n+Wl (rnk n (FA n cs)) n (wrg n ps r cs)
def xY{M:Int}(hf:Fc fc\/fc=.own)(n10:n<=10)(hnb:∀i:Nat,∀x∈nbL ps i,0<=x/\x < n)(hl:∀i:Nat,(nbL ps i).length<=1000)(hn:cs.length=n)
  (hM:sD [lea .frz 5 n ps (fs n r) n n,.lst .bor (iL (FA n cs))]=.ok (.int M)):D4 [gro .frz n ps r,.lst fc (iL cs)]=.ok (.int (M * 2 ^ n+Wl (rnk n (FA n cs)) n (wrg n ps r cs))):=by
 refine az ?_
 show ED [some (gro .frz n ps r),some (.lst fc (iL cs)),none,none,none,none]=_
 unfold ED
 have fo:=o4 (ps:=ps) (r:=r) (Fc.call hf) n10 hn
 have co:=kG (ps:=ps) (r:=r) (Fc.call hf) n10 hn
 have fb:=Fc.of hf
 have fl:(FA n cs).length=n:=by simpa using hn
 refine af (aw (v:=.lst .own (iL (FA n cs))) (by simp[dI,fo,aD]) (by simp) rfl) ?_
 simp only[s0_,s1_]
 refine af (aw (v:=.lst .own (iL (CN n cs))) (by simp[cN,co,aD]) (by simp) rfl) ?_
 simp only[s0_,s1_]
 refine af (aw (v:=.lst .own (iL (((List.range n).filter (wrg n ps r cs)).map fun j:Nat=>(j:Int)))) ?_ (by simp) rfl) ?_
 ·refine aV (xs:=cX 0 n) (bP (n:=n) (by simp[ao,aW]) (by omega)) (by rw[bp];omega) (gY (wrg n ps r cs) (fun j:Nat=>(j:Int)) n fun k hk=>⟨[some (.lst .bor (iL (CN n cs))),some (gro .frz n ps r),some (.lst fc.borrow (iL cs)),some (.int (0+k))],by simp[tgN,aU,bQ,Fl.borrow],?_,fun _=>by simp⟩)
  have a1:∀f,aO (.lst f (iL (CN n cs))) (.int (k:Int))=.ok (.int (gt (CN n cs) k)):=fun f=>by simpa using cL (f:=f) (cs:=CN n cs) (i:=k) (by omega) (by simp;omega)
  have dc:=yN (ps:=ps) (r:=r) (i:=k) fb n10 hnb hl hn
  generalize fc.borrow=g at fb dc ⊢
  simp[a1,cT,fb.le,fb.tb,dc,aD]
 simp only[s0_,s1_]
 refine af (aw (v:=.lst .own (iL (((List.range n).filter (wrg n ps r cs)).map fun i=>(2:Int) ^ rnk n (FA n cs) i))) ?_ (by simp) rfl) ?_
 ·rw[show ∀l:List Nat,iL (l.map fun i=>(2:Int) ^ rnk n (FA n cs) i)=l.map fun i=>PV.int (2 ^ rnk n (FA n cs) i)from fun l=>by simp[iL]]
  have hx:∀l:List Nat,iL (l.map fun j:Nat=>(j:Int))=l.map fun j:Nat=>PV.int (j:Int):=fun l=>by simp[iL]
  refine aV (xs:=((List.range n).filter (wrg n ps r cs)).map fun j:Nat=>PV.int (j:Int)) (by rw[<- hx];simp) (by have:=mH (n:=n) (p:=wrg n ps r cs);rw[List.length_map];omega) (bL (a:=fun j:Nat=>PV.int (j:Int)) (f:=fun i=>PV.int ((2:Int) ^ rnk n (FA n cs) i)) _ fun k hk=>⟨[some (.lst .bor (iL (FA n cs))),some (.int k)],by simp[tgN,aU,bQ,Fl.borrow],?_,by simp,by simp⟩)
  have hk:=List.mem_range.mp (List.mem_filter.mp hk).1
  have rl:=la (fa:=FA n cs) hk
  have pw:=fq (e:=rnk n (FA n cs) k) (b:=2) (by decide) (by decide) (by omega)
  simp[Ap fl n10 hk,pw,aD,Fl.lend,Fl.toBor]
 simp only[s0_,s1_]
 have pn:=fq (e:=n) (b:=2) (by decide) (by decide) (by omega)
 have p2:=qY n10
 have mu:dG (.int M) (.int (2 ^ n))=.ok (.int (M * 2 ^ n)):=eU (.inr ⟨by omega,by omega⟩)
 have sm:=fun f=>vM (f:=f) (p:=wrg n ps r cs) n10 fun i hi=>la (fa:=FA n cs) hi
 generalize((List.range n).filter (wrg n ps r cs)).map (fun i=>(2:Int) ^ rnk n (FA n cs) i)=WS at *
 generalize(2:Int) ^ n=PN at *
 exact a9 (by simp[ao,aW,fZ,hM,pn,mu,p1,sm,aD]) (by simp)
def GW(hi:i < cs.length):gt (FA n cs) i=gt cs i / ((n:Int)+1):=by simp[FA,gt,hi]
def GX(hi:i < cs.length):gt (CN n cs) i=gt cs i % ((n:Int)+1):=by simp[CN,gt,hi]
def lG{m:Int}(hb:0<=b/\b<=m):(a * (m+1)+b) / (m+1)=a/\(a * (m+1)+b) % (m+1)=b:=by
 rw[Int.add_comm]
 constructor
 ·rw[Int.add_mul_ediv_right _ _ (by omega),Int.ediv_eq_zero_of_lt hb.1 (by omega)];omega
 ·rw[Int.add_mul_emod_self_right]
  exact Int.emod_eq_of_lt hb.1 (by omega)
def sy(n1:1<=n)(hnb:∀i:Nat,∀x∈nbL ps i,0<=x/\x < n)(hn:cs.length=n)(hc:InS (((n:Int)+1) * ((n:Int)+1)) cs)(hi:i < n)(hm:mM n ps r cs i≠gt cs i):MG n ps r (cs.set i (mM n ps r cs i)) < MG n ps r cs:=by
 have fl:(FA n cs).length=n:=by simpa using hn
 have cl:(CN n cs).length=n:=by simpa using hn
 have np:(0:Int) <(n:Int)+1:=by omega
 have hfa:∀c∈FA n cs,0<=c/\c <=(n:Int):=fun c hx=>by
  obtain⟨x,hm,rfl⟩:=List.mem_map.mp hx
  obtain⟨h1,h2⟩:=hc x hm
  have a:=Int.ediv_nonneg h1 (show 0 <=(n:Int)+1 by omega)
  have b:=Int.ediv_lt_of_lt_mul np h2
  exact⟨a,by omega⟩
 have sn:0 <=(kx n ps r cs i).sum:=by
  cases e:kx n ps r cs i with
  | nil=>simp
  | cons a l =>
   have h:=fun x hx=>(md (ps:=ps) (r:=r) (i:=i) hn (x:=x) (by rw[e];exact hx)).1
   exact Int.le_trans (h a List.mem_cons_self) (sj h a List.mem_cons_self)
 have dr:0<=dcn n ps r cs i/\dcn n ps r cs i<=n:=by unfold dcn;omega
 have cr:=sM hn i hi
 have inj:∀fa:List Int,∀i j,i < n->j < n->rnk n fa i=rnk n fa j->i=j:=fun fa i j h1 h2 e=>s_ h1 h2 e
 have fS:∀v,FA n (cs.set i v)=(FA n cs).set i (v / ((n:Int)+1)):=fun v=>by simp[FA,List.map_set]
 have cS:∀v,CN n (cs.set i v)=(CN n cs).set i (v % ((n:Int)+1)):=fun v=>by simp[CN,List.map_set]
 unfold MG
 unfold mM at hm ⊢
 by_cases q:fO ps (fs n r) n n (FA n cs) i=gt (FA n cs) i
 ·rw[if_pos q]at hm ⊢
  rw[q]at hm ⊢
  obtain⟨d1,d2⟩:=lG (a:=gt (FA n cs) i) dr
  have e1:FA n (cs.set i (gt (FA n cs) i * ((n:Int)+1)+dcn n ps r cs i))=FA n cs:=by
   rw[fS,d1,jw _ _ (by omega),List.set_getElem_self]
  have e2:CN n (cs.set i (gt (FA n cs) i * ((n:Int)+1)+dcn n ps r cs i))=(CN n cs).set i (dcn n ps r cs i):=by rw[cS,d2]
  generalize cs.set i (gt (FA n cs) i * ((n:Int)+1)+dcn n ps r cs i)=cs' at *
  have hw:gt (CN n cs) i ≠ dcn n ps r cs i:=fun e=>hm (by
   rw[<- e,GW (by omega),GX (by omega),Int.mul_comm]
   exact Int.mul_ediv_add_emod _ _)
  have dc:∀j:Nat,eld ps r (FA n cs) i≠some (j:Int)->dcn n ps r cs' j=dcn n ps r cs j:=fun j hj=>by
   unfold dcn kx
   rw[e1,e2]
   congr 3
   refine List.map_congr_left fun x hx=>?_
   rw[eE _ (by omega),if_neg fun e=>hj ?_]
   subst e
   simpa using(List.mem_filter.mp hx).2
  have el:∀j:Nat,eld ps r (FA n cs) i=some (j:Int)->gt (FA n cs) j=gt (FA n cs) i - 1:=fun j h=>by
   unfold eld at h
   split at h
   ·cases h
   split at h
   ·cases h
   rename_i q2
   have a:=(List.mem_filter.mp (gh (l:=nea ps (FA n cs) i) (by simpa using q2)).1).2
   rw[Option.some.inj h]at a
   simpa using a
  have:=vN (p:=wrg n ps r cs) (p':=wrg n ps r cs') (inj (FA n cs)) hi (by simp [hw]) (by
   rw[wrg,e2,eE _ (by omega),if_pos rfl,dc i fun e=>by have:=el i e;omega]
   simp) fun j hj hl=>by
   have ji:j≠i:=fun e=>by subst e;omega
   rw[wrg,wrg,e2,eE _ (by omega),if_neg ji,dc j fun e=>?_]
   have:=rK (n:=n) (fa:=FA n cs) hj (j:=i) (by simp[ltF,el j e];omega)
   omega
  rw[e1]
  omega
 ·rw[if_neg q]
  obtain⟨d1,d2⟩:=lG (a:=fO ps (fs n r) n n (FA n cs) i) cr
  rw[fS,d1]
  have f:=kS (T:=n) (st:=n) (mF (r:=r) n1) hnb fl hfa hi q
  have b:=fun fa p=>pE (n:=n) (p:=p) (K:=n) (inj fa) fun i hi _=>la hi
  exact jv (Int.pow_pos (by decide)) f (b _ _).2 (b _ _).1
def AX(h1:1<=n)(h10:n<=10)(hr:r < n)(hnb:∀i:Nat,∀x∈nbL ps i,0<=x/\x < n)(hl:∀i,(nbL ps i).length<=1000):Ms (gro .frz n ps r) n (((n:Int)+1) * ((n:Int)+1)) true false (mM n ps r) (MG n ps r) where
 me:=fun f cs hf hn hc=>by
  have hfa:InS ((n:Int)+1) (FA n cs):=fun c hx=>by
   obtain⟨x,hm,rfl⟩:=List.mem_map.mp hx
   obtain⟨h1,h2⟩:=hc x hm
   exact⟨Int.ediv_nonneg h1 (by omega),Int.ediv_lt_of_lt_mul (by omega) h2⟩
  have rl:=jJ (cc:=5) (st:=n) (tp:=n) (.inl rfl) h1 (by omega) (by omega) (by omega) (mF (r:=r) h1) (by simp[fs]) hnb hl
  have:=xY (r:=r) (Fc.tb2 hf) h10 hnb (fun i=>hl i) hn (qp (T:=n) (.inl (.inl rfl)) (fun f k hf hk=>(rl.due f (FA n cs) k hf (by simpa using hn) hfa hk).1) (by simpa using hn) h10 (by omega))
  simp[aB,this,aD,MG]
 fa:=fun cs nm hn hc hg _ h=>by
  obtain⟨i,hi,hi1,hi2⟩:=lE hn h
  rw[sU hn (hg.2.2.1 rfl) hi hi1]
  exact sy h1 hnb hn hc hi hi2
 mv:=fun cs _ _ h=>uj h
end
def kW(cs:List Int):Prop:=∃j i,j < i/\i < cs.length/\gt cs j≠gt cs 0/\gt cs i=gt cs 0
def IsJ(sp:Int)(cs:List Int)(J:Nat):Prop:=(¬kW cs/\J=0)\/(kW cs/\1<=J/\J < cs.length/\(gt cs 0+J) % sp∉cs.drop 1/\∀s:Nat,1<=s->s < J->(gt cs 0+s) % sp∈cs.drop 1)
def qE{a b:Nat}(h:(c+a) % sp=(c+b) % sp)(ha:(a:Int) < sp)(hb:(b:Int) < sp):a=b:=by
 have h1:((c+a) - (c+b)) % sp=0:=Int.emod_eq_emod_iff_emod_sub_eq_zero.mp h
 rw[show(c+(a:Int)) - (c+b)=(a:Int) - b by omega]at h1
 obtain⟨k,hk⟩:=Int.dvd_of_emod_eq_zero h1
 rcases Int.lt_trichotomy k 0 with q | q | q
 ·have:sp * k<=sp * (-1):=Int.mul_le_mul_of_nonneg_left (by omega) (by omega)
  omega
 ·subst q;omega
 ·have:sp * 1<=sp * k:=Int.mul_le_mul_of_nonneg_left (by omega) (by omega)
  omega
section
variable{sp:Int}{cs nm:List Int}{n:Nat}
def x8(hs:(cs.length:Int)<= sp)(hc:0<=gt cs 0/\gt cs 0 < sp)(h:kW cs):∃s:Nat,1<=s/\s < cs.length/\(gt cs 0+s) % sp∉cs.drop 1:=by
 apply Classical.byContradiction
 intro no
 obtain⟨j,i,h1,h2,h3,e⟩:=h
 have nd:((List.range cs.length).map fun s:Nat=>(gt cs 0+s) % sp).Nodup:=by
  rw[List.Nodup,List.pairwise_map]
  refine List.Pairwise.imp_of_mem (fun {a b} ha hb hab z=>?_) (List.nodup_range (n:=cs.length))
  have ha':=List.mem_range.mp ha
  have hb':=List.mem_range.mp hb
  exact hab (qE z (by omega) (by omega))
 have le:=qf (l':=cs.drop 1) nd fun x hx=>by
  obtain⟨s,hs',rfl⟩:=List.mem_map.mp hx
  have hs2:=List.mem_range.mp hs'
  by_cases q:s=0
  ·subst q
   refine db.mpr ⟨i,by omega,h2,?_⟩
   rw[e,show gt cs 0+((0:Nat):Int)=gt cs 0 by omega,Int.emod_eq_of_lt hc.1 hc.2]
  ·exact Classical.byContradiction fun z=>no ⟨s,by omega,hs2,z⟩
 simp at le
 omega
def vY(hfc:Fc fc)(h1:1<=cs.length)(h2:cs.length<=1000)(hs:(cs.length:Int)<= sp)(hc:0<=gt cs 0/\gt cs 0 < sp):∃J:Nat,DZ [.lst fc (iL cs),.int sp]=.ok (.int J)/\IsJ sp cs J:=by
 have g0:aO (.lst fc (iL cs)) (.int 0)=.ok (.int (gt cs 0)):=cL (by omega) (by omega)
 have bg:∃b:Nat,yf [.lst fc (iL cs)]=.ok (.int b)/\b<=cs.length/\(gt cs 0∈cs.drop b↔kW cs):=by
  suffices hh:ke (y6 [some (.lst fc (iL cs)),none]) (fun v=>∃b:Nat,v=.int b/\b<=cs.length/\(gt cs 0∈cs.drop b↔kW cs)) by
   obtain⟨v,h3,b,rfl,h4⟩:=hh
   exact⟨b,az h3,h4⟩
  unfold y6
  refine dX (aw (v:=.int 1) (by simp) (by simp) rfl) ?_
  simp only[s0_,s1_]
  refine lM (Fin:=fun e=>∃b:Nat,e=[some (.lst fc (iL cs)),some (.int b)]/\b<=cs.length/\(∀i,i < b->gt cs i=gt cs 0)/\(b < cs.length->gt cs b≠gt cs 0)) (fun m e=>∃b:Nat,e=[some (.lst fc (iL cs)),some (.int b)]/\m=cs.length - b/\b<=cs.length/\∀i,i < b->gt cs i=gt cs 0) (cs.length - 1) (by omega) ⟨1,rfl,rfl,h1,fun i hi=>by rw[show i=0 by omega]⟩ (fun m e hP=>?_) fun e hF=>?_
  ·obtain⟨b,rfl,rfl,b2,al⟩:=hP
   by_cases q:b < cs.length
   ·have gb:aO (.lst fc (iL cs)) (.int (b:Int))=.ok (.int (gt cs b)):=by simpa using cL (f:=fc) (cs:=cs) (i:=b) (by omega) (by omega)
    by_cases q2:gt cs b=gt cs 0
    ·refine .inr ⟨by simp[p1,bU,aL,hfc.le,g0,gb,q2];omega,cs.length - (b+1),[some (.lst fc (iL cs)),some (.int (b+1:Nat))],by omega,.inl (aw (v:=.int ((b+1:Nat):Int)) (by simp) (by simp) rfl),b+1,rfl,rfl,by omega,fun i hi=>?_⟩
     by_cases z:i=b
     ·rw[z];exact q2
     ·exact al i (by omega)
    ·exact .inl ⟨by simp[p1,bU,aL,hfc.le,g0,gb,q2],b,rfl,b2,al,fun _=>q2⟩
   ·exact .inl ⟨by simp[p1,bU,aL];omega,b,rfl,b2,al,fun z=>absurd z q⟩
  ·obtain⟨b,rfl,hb,al,nx⟩:=hF
   refine fk (fD rfl) ⟨b,rfl,hb,?_⟩
   rw[db]
   constructor
   ·rintro⟨i,h1,h2,e⟩
    have hb:=nx (by omega)
    refine⟨b,i,?_,h2,hb,e⟩
    rcases Nat.lt_or_eq_of_le h1 with q | q
    ·exact q
    ·subst q;exact absurd e hb
   ·rintro⟨j,i,h1,h2,h3,e⟩
    have:¬j < b:=fun z=>h3 (al j z)
    exact⟨i,by omega,h2,e⟩
 obtain⟨b,e1,bl,B⟩:=bg
 suffices hh:ke (Ey [some (.lst fc (iL cs)),some (.int sp),none]) (fun v=>∃J:Nat,v=.int J/\IsJ sp cs J) by
  obtain⟨v,h3,J,rfl,h4⟩:=hh
  exact⟨J,az h3,h4⟩
 unfold Ey
 have cb:kb (iL cs) (some (b:Int)) none=iL (cs.drop b):=og cs b bl
 have c1:kb (iL cs) (some 1) none=iL (cs.drop 1):=og cs 1 h1
 have sp0:0 < sp:=by omega
 by_cases st:kW cs
 ·have hm:=B.mpr st
  refine dX (ce (by simp only[gT,d9,iO,j9,i6,bH,j_,cw,bt,bN];simp[hfc.le,hfc.tb,g0,e1,aD,cb];exact hm) aI) ?_
  refine dX (aw (v:=.int 1) (by simp) (by simp) rfl) ?_
  simp only[s0_,s1_]
  obtain⟨s0,f1,f2,f3⟩:=x8 hs hc st
  refine lM (Fin:=fun e=>∃J:Nat,e=[some (.lst fc (iL cs)),some (.int sp),some (.int J)]/\IsJ sp cs J) (fun m e=>∃s:Nat,e=[some (.lst fc (iL cs)),some (.int sp),some (.int s)]/\m=s0 - s/\1<=s/\s<=s0/\∀t:Nat,1<=t->t < s->(gt cs 0+t) % sp∈cs.drop 1) (s0 - 1) (by omega) ⟨1,rfl,rfl,by omega,f1,fun t a b=>by omega⟩ (fun m e hP=>?_) fun e hF=>?_
  ·obtain⟨s,rfl,rfl,b1,b2,al⟩:=hP
   have tst:aA (mOp pIn (mOp ef (mOp aY (mOp aO (ac 0) (mC (.int (0)))) (ac 2)) (ac 1)) (iE (ac 0) (jU (mC (.int (1)))) i4)) [some (.lst fc (iL cs)),some (.int sp),some (.int s)]=.ok (decide ((gt cs 0+s) % sp∈cs.drop 1)):=by
    simp only[gT,d9,iO,j9,i6,bH,j_]
    simp[hfc.le,g0,c1,bW sp0]
   by_cases q:(gt cs 0+s) % sp∈cs.drop 1
   ·have ns:s≠s0:=fun z=>f3 (by rw[<- z];exact q)
    refine .inr ⟨by rw[tst,decide_eq_true q],s0 - (s+1),[some (.lst fc (iL cs)),some (.int sp),some (.int (s+1:Nat))],by omega,.inl (aw (v:=.int ((s+1:Nat):Int)) (by simp) (by simp) rfl),s+1,rfl,rfl,by omega,by omega,fun t t1 t2=>?_⟩
    by_cases z:t=s
    ·rw[z];exact q
    ·exact al t t1 (by omega)
   ·exact .inl ⟨by rw[tst,decide_eq_false q],s,rfl,.inr ⟨st,b1,by omega,q,al⟩⟩
  ·obtain⟨J,rfl,hJ⟩:=hF
   exact fk (fD rfl) ⟨J,rfl,hJ⟩
 ·have hm:gt cs 0∉cs.drop b:=fun z=>st (B.mp z)
  exact wq (by simp only[gT,d9,iO,j9,i6,bH,j_,cw,bt,bN];simp[hfc.le,hfc.tb,g0,e1,aD,cb];exact hm) (fk (v:=.int ((0:Nat):Int)) (a9 (by simp) (by simp)) ⟨0,rfl,.inl ⟨st,rfl⟩⟩)
def bc(cs:List Int):Nat->Int
 | 0=>0
 | j+1=>bc cs j+if gt cs j=gt cs (j+1)then 0 else 1
def bS(cs:List Int):Nat->Int
 | 0=>0
 | m+1=>bS cs m+bc cs m
def sO{c:Int}:∀m,((((List.range (m+1)).filter fun i=>decide (bX sp cs i≠gt cs i)).filter fun i=>decide (i≠0)).map fun i:Nat=>c - i).sum=bS cs (m+1)+(c - 1 - m) * bc cs m
 | 0=>by
  simp only[List.filter_filter]
  simp[bS,bc,List.range_succ]
 | m+1=>by
  have ih:=sO (c:=c) m
  have d:bX sp cs (m+1)=gt cs m:=rfl
  rw[List.range_succ,List.filter_append,List.filter_append,List.map_append,List.sum_append,ih]
  have e:c - 1 - (m:Int)=(c - 1 - ((m+1:Nat):Int))+1:=by omega
  simp only[bS,bc]
  generalize bc cs m=x
  by_cases q:gt cs m=gt cs (m+1)
  ·simp[d,q,e,Int.add_mul]
   omega
  ·simp[d,q,e,Int.add_mul,Int.mul_add]
   omega
abbrev tP(sp:Int)(cs nm:List Int):List Int:=stR cs.length (bX sp) cs nm
def zT(hi:i+1 < cs.length):gt (tP sp cs nm) (i+1)=if nm.contains ((i+1:Nat):Int)then gt cs i else gt cs (i+1):=fU hi
def uk{e:Int}(h0:gt (tP sp cs nm) 0=gt cs 0/\e=0\/e=1):∀j,j < cs.length->bc (tP sp cs nm) j<=bc cs j+e/\(gt (tP sp cs nm) j≠gt cs j->bc (tP sp cs nm) j+1<=bc cs j+e)
 | 0,_=>by
  simp only[bc]
  omega
 | j+1,hj=>by
  have ih:=uk h0 j (by omega)
  have g:=zT (sp:=sp) (nm:=nm) hj
  simp only[bc]
  rw[g]
  generalize bc (tP sp cs nm) j=u at *
  generalize gt (tP sp cs nm) j=v at *
  by_cases q:nm.contains ((j+1:Nat):Int)=true
  ·rw[if_pos q]
   split<;>split<;>omega
  ·rw[if_neg q]
   split<;>split<;>omega
def pA{e:Int}(h0:gt (tP sp cs nm) 0=gt cs 0/\e=0\/e=1):∀m,m < cs.length->bS (tP sp cs nm) (m+1)<= bS cs (m+1)+m * e/\(e=0->(∃i,i<=m/\gt (tP sp cs nm) i≠gt cs i)->bS (tP sp cs nm) (m+1) < bS cs (m+1))
 | 0,_=>by
  refine⟨by simp[bS,bc],fun z ⟨i,hi,hd⟩=>?_⟩
  rw[show i=0 by omega]at hd
  omega
 | m+1,hm=>by
  obtain⟨i1,i2⟩:=pA h0 m (by omega)
  obtain⟨b1,b2⟩:=uk h0 (m+1) hm
  rw[bS,show bS cs (m+1+1)=bS cs (m+1)+bc cs (m+1)from rfl]
  have:((m+1:Nat):Int) * e=m * e+e:=by rw[Int.natCast_add,Int.add_mul];omega
  refine⟨by omega,fun z ⟨i,hi,hd⟩=>?_⟩
  subst z
  by_cases q:i=m+1
  ·subst q
   have:=b2 hd
   omega
  ·have:=i2 rfl ⟨i,by omega,hd⟩
   omega
def mO{v:Int}(h:v ∈(tP sp cs nm).drop 1):v∈cs.drop 1\/v=gt cs 0:=by
 obtain⟨i,h1,h2,e⟩:=db.mp h
 simp[stR]at h2
 obtain⟨j,rfl⟩:∃j,i=j+1:=⟨i - 1,by omega⟩
 rw[zT h2]at e
 split at e
 ·by_cases q:j=0
  ·subst q;exact .inr e.symm
  ·exact .inl (db.mpr ⟨j,by omega,by omega,e⟩)
 ·exact .inl (db.mpr ⟨j+1,by omega,h2,e⟩)
def ER(hs:(cs.length:Int)<= sp)(hc:0<=gt cs 0/\gt cs 0 < sp)(h0:gt (tP sp cs nm) 0=gt cs 0)(hJ:IsJ sp cs J)(hJ':IsJ sp (tP sp cs nm) J'):J'<=J:=by
 rcases hJ' with⟨_,rfl⟩ |⟨st',j1',_,_,j4'⟩
 ·omega
 rcases hJ with⟨st,rfl⟩ |⟨st,j1,j2,j3,j4⟩
 ·exfalso
  obtain⟨j,i,h1,h2,h3,e⟩:=st'
  simp[stR]at h2
  rw[h0]at h3 e
  have ini:∀i j,j < i->i < cs.length->gt cs i=gt cs 0->gt cs j=gt cs 0:=fun i j a b c=>Classical.byContradiction fun z=>st ⟨j,i,a,b,z,c⟩
  have cj:∀m,m < i->(∀l,l<=m->gt cs l=gt cs 0)->gt (tP sp cs nm) m=gt cs 0:=fun m hm al=>by
   cases m with
   | zero=>exact h0
   | succ m =>
    rw[zT (by omega)]
    split
    ·exact al m (by omega)
    ·exact al (m+1) (by omega)
  obtain⟨p,rfl⟩:∃p,i=p+1:=⟨i - 1,by omega⟩
  rw[zT h2]at e
  refine h3 (cj j h1 fun l hl=>?_)
  split at e
  ·by_cases q:l=p
   ·rw[q];exact e
   ·exact ini p l (by omega) (by omega) e
  ·exact ini (p+1) l (by omega) h2 e
 ·apply Classical.byContradiction
  intro no
  have hm:=j4' J j1 (by omega)
  rw[h0]at hm
  rcases mO hm with z | z
  ·exact j3 z
  ·have z':(gt cs 0+J) % sp=(gt cs 0+((0:Nat):Int)) % sp:=by
    rw[z,show gt cs 0+((0:Nat):Int)=gt cs 0 by omega,Int.emod_eq_of_lt hc.1 hc.2]
   have:=qE z' (by omega) (by omega)
   omega
def EQ(n2:2<=cs.length)(hl:gt cs 0=gt cs (cs.length - 1))(h0:gt (tP sp cs nm) 0=(gt cs 0+1) % sp)(hst:kW cs)(hJ:IsJ sp cs J)(hJ':IsJ sp (tP sp cs nm) J'):J' + 1<=J:=by
 have sub:∀v,v ∈(tP sp cs nm).drop 1->v∈cs.drop 1:=fun v hv=>by
  rcases mO hv with z | z
  ·exact z
  ·exact db.mpr ⟨cs.length - 1,by omega,by omega,by rw[z,hl]⟩
 rcases hJ with⟨st,_⟩ |⟨_,j1,j2,j3,j4⟩
 ·exact absurd hst st
 rcases hJ' with⟨_,rfl⟩ |⟨st',j1',_,_,j4'⟩
 ·omega
 apply Classical.byContradiction
 intro no
 refine j3 ?_
 by_cases q:J=1
 ·subst q
  obtain⟨j,i,h1,h2,h3,e⟩:=st'
  refine sub _ (db.mpr ⟨i,by omega,h2,?_⟩)
  rw[e,h0]
  rfl
 ·have hm:=sub _ (j4' (J - 1) (by omega) (by omega))
  rw[h0,Int.emod_add_emod]at hm
  rwa [show gt cs 0+(J:Int)=gt cs 0+1+((J - 1:Nat):Int) by omega]
def EO(h:IsJ sp cs J)(h':IsJ sp cs J'):J=J':=by
 rcases h with⟨s,rfl⟩ |⟨s,a1,a2,a3,a4⟩<;>rcases h' with⟨s',rfl⟩ |⟨s',b1,b2,b3,b4⟩
 ·rfl
 ·exact absurd s' s
 ·exact absurd s s'
 ·rcases Nat.lt_trichotomy J J' with q | q | q
  ·exact absurd (b4 J a1 q) a3
  ·exact q
  ·exact absurd (a4 J' b1 q) b3
def rR(hs:(cs.length:Int)<= sp)(n2:2<=cs.length)(hc:0<=gt cs 0/\gt cs 0 < sp)(hJ:IsJ sp cs J)(hJ':IsJ sp (tP sp cs nm) J')(hw:∃k,k+1 < cs.length/\gt cs k≠gt cs (k+1))(hne:tP sp cs nm≠cs) :
  (cs.length:Int) * J' + bS (tP sp cs nm) cs.length < cs.length * J+bS cs cs.length:=by
 have g0:gt (tP sp cs nm) 0=if nm.contains ((0:Nat):Int)then bX sp cs 0 else gt cs 0:=fU (by omega)
 obtain⟨i,hi,hi1,hi2⟩:=lE rfl hne
 have hi3:gt (tP sp cs nm) i≠gt cs i:=by
  rw[tP,fU hi,if_pos hi1]
  exact hi2
 obtain⟨m,hm⟩:∃m,cs.length=m+1:=⟨cs.length - 1,by omega⟩
 by_cases h0:gt (tP sp cs nm) 0=gt cs 0
 ·have w:=(pA (e:=0) (.inl ⟨h0,rfl⟩) m (by omega)).2 rfl ⟨i,by omega,hi3⟩
  have jm:(cs.length:Int) * J'<=cs.length * J:=Int.mul_le_mul_of_nonneg_left (by have:=ER hs hc h0 hJ hJ';omega) (by omega)
  rw[<- hm]at w
  omega
 ·have hn0:nm.contains ((0:Nat):Int)=true:=Classical.byContradiction fun z=>h0 (by rw[g0,if_neg z])
  rw[if_pos hn0]at g0
  unfold bX at g0
  rw[if_pos rfl]at g0
  by_cases hl:gt cs 0=gt cs (cs.length - 1)
  ·rw[if_pos hl]at g0
   have hst:kW cs:=by
    obtain⟨k,k1,k2⟩:=hw
    by_cases q:gt cs k=gt cs 0
    ·have q2:gt cs (k+1)≠ gt cs 0:=fun z=>k2 (q.trans z.symm)
     have:k+1≠cs.length - 1:=fun z=>q2 (by rw[z];exact hl.symm)
     exact⟨k+1,cs.length - 1,by omega,by omega,q2,hl.symm⟩
    ·exact⟨k,cs.length - 1,by omega,by omega,q,hl.symm⟩
   have j:=EQ n2 hl g0 hst hJ hJ'
   have w:=(pA (sp:=sp) (cs:=cs) (nm:=nm) (e:=1) (.inr rfl) m (by omega)).1
   have jm:(cs.length:Int) * (J' + 1)<= cs.length * J:=Int.mul_le_mul_of_nonneg_left (by omega) (by omega)
   rw[Int.mul_add]at jm
   rw[<- hm]at w
   omega
  ·rw[if_neg hl]at g0
   exact absurd g0 h0
def Fp(n2:2<=n)(hs:(n:Int)<= sp)(hn:cs.length=n)(hc:0<=gt cs 0/\gt cs 0 < sp)(h:caR n true (bX sp) cs=false):∃k,k+1 < n/\gt cs k≠gt cs (k+1):=by
 apply Classical.byContradiction
 intro no
 have al:∀i,i < n->gt cs i=gt cs 0:=fun i=>by
  induction i with
  | zero=>intro _;rfl
  | succ i ih =>
   intro hi
   rw[<- ih (by omega)]
   exact Classical.byContradiction fun z=>no ⟨i,hi,fun e=>z e.symm⟩
 have d0:bX sp cs 0≠gt cs 0:=by
  unfold bX
  rw[if_pos rfl,if_pos (al _ (by omega)).symm]
  by_cases q:gt cs 0+1 < sp
  ·rw[Int.emod_eq_of_lt (by omega) q];omega
  ·rw[show gt cs 0+1=sp by omega,Int.emod_self];omega
 obtain⟨m,rfl⟩:∃m,n=m+1:=⟨n - 1,by omega⟩
 have e:mvR (m+1) (bX sp) cs=[0]:=by
  unfold mvR
  rw[List.range_succ_eq_map,List.filter_cons,if_pos (by simpa using d0),List.filter_eq_nil_iff.mpr]
  ·rfl
  intro x hx
  obtain⟨i,hi,rfl⟩:=List.mem_map.mp hx
  have hi:=List.mem_range.mp hi
  have:bX sp cs (i+1)=gt cs i:=rfl
  simp[this,al i (by omega),al (i+1) (by omega)]
 simp[caR,e]at h
def xq(n2:2<=n)(n20:n<=20)(hs:(n:Int)<= sp):∃M,Ms (hZ .bor n sp) n sp false true (bX sp) M/\∀cs:List Int,cs.length=n->InS sp cs->∃J:Nat,IsJ sp cs J/\M cs=n * J+bS cs n:=by
 have r:=tf (n:=n) (sp:=sp) (by omega) n20 (by omega)
 have ok:∀cs:List Int,cs.length=n->InS sp cs->∃m:Int,(∀f,Fc f\/f=.own->x9 [hZ .bor n sp,.lst f (iL cs)]=.ok (.int m))/\∃J,IsJ sp cs J/\m=n * J+bS cs n:=fun cs hn hc=>by
  have hc0:=hc _ (dH (far:=cs) (i:=0) (by omega))
  have so:=fun f hf=>vY (fc:=f) hf (cs:=cs) (by omega) (by omega) (by omega) hc0
  obtain⟨J,_,hJ⟩:=so .bor (.inl rfl)
  refine⟨n * J+bS cs n,fun f hf=>az ?_,J,hJ,rfl⟩
  obtain⟨J',e1,hJ'⟩:=so _ (Fc.call hf)
  rw[EO hJ' hJ]at e1
  show EE [some (hZ .bor n sp),some (.lst f (iL cs)),none]=_
  unfold EE
  have mo:=ge r (.inl (Fc.call hf)) hn hc
  have ml:=lc (n:=n) (D:=bX sp) (cs:=cs)
  have ws:((((List.range n).filter fun i=>decide (bX sp cs i≠gt cs i)).filter fun i=>decide (i≠0)).map fun i:Nat=>(n:Int) - i).sum=bS cs n:=by
   obtain⟨m,rfl⟩:∃m,n=m+1:=⟨n - 1,by omega⟩
   have:=sO (sp:=sp) (cs:=cs) (c:=((m+1:Nat):Int)) m
   rw[show((m+1:Nat):Int) - 1 - m=0 by omega,Int.zero_mul,Int.add_zero]at this
   exact this
  have sm:∀g:Fl,jP (.lst g (iL ((((List.range n).filter fun i=>decide (bX sp cs i≠gt cs i)).filter fun i=>decide (i≠0)).map fun i:Nat=>(n:Int) - i)))=.ok (.int (bS cs n)):=fun g=>by
   rw[<- ws]
   refine k_ ?_ fun x hx=>?_
   ·rw[List.length_map]
    refine Nat.le_trans (List.length_filter_le _ _) (Nat.le_trans (List.length_filter_le _ _) (by simp;omega))
   ·obtain⟨i,hi,rfl⟩:=List.mem_map.mp hx
    have:=List.mem_range.mp (List.mem_filter.mp (List.mem_filter.mp hi).1).1
    omega
  refine af (aw (v:=.lst .own (iL ((((List.range n).filter fun i=>decide (bX sp cs i≠gt cs i)).filter fun i=>decide (i≠0)).map fun i:Nat=>(n:Int) - i))) ?_ (by simp) rfl) ?_
  ·refine aV (xs:=iL (mvR n (bX sp) cs)) (by simp[r.mv,mo,aD]) (by rw[bB];omega) ?_
   unfold mvR
   rw[show ∀l:List Nat,iL (l.map fun i:Nat=>(i:Int))=l.map fun i:Nat=>PV.int i from fun l=>by simp[iL],show ∀l:List Nat,iL (l.map fun i:Nat=>(n:Int) - i)=l.map fun i:Nat=>PV.int ((n:Int) - i)from fun l=>by simp[iL]]
   exact b_ (a:=fun i:Nat=>PV.int i) (f:=fun i:Nat=>PV.int ((n:Int) - i)) (p:=fun i=>decide (i≠0)) _ fun x _=>⟨[some (hZ .bor n sp),some (.int x)],by simp[tgN,aU,bQ],by simp,fun _=>by simp[ao,aW]⟩
  simp only[s0_,s1_]
  have mu:dG (.int (n:Int)) (.int (J:Int))=.ok (.int (n * J)):=eU (.inl ⟨by omega,by omega⟩)
  generalize List.map (fun i:Nat=>(n:Int) - i) _=WS at *
  exact a9 (by simp[ao,aW,e1,aD,mu,p1,sm]) (by simp)
 obtain⟨M,hM⟩:∃M:List Int->Int,∀cs:List Int,cs.length=n->InS sp cs->(∀f,Fc f\/f=.own->x9 [hZ .bor n sp,.lst f (iL cs)]=.ok (.int (M cs)))/\∃J,IsJ sp cs J/\M cs=n * J+bS cs n:=⟨fun cs=>Classical.epsilon fun m=>(∀f,Fc f\/f=.own->x9 [hZ .bor n sp,.lst f (iL cs)]=.ok (.int m))/\∃J,IsJ sp cs J/\m=n * J+bS cs n,fun cs hn hc=>Classical.epsilon_spec (ok cs hn hc)⟩
 refine⟨M,⟨fun f cs hf hn hc=>?_,fun cs nm hn hc hg h hne=>?_,fun cs hn hc h e=>?_⟩,fun cs hn hc=>(hM cs hn hc).2⟩
 ·simp[aB,(hM cs hn hc).1 _ (Fc.tb2 hf),aD]
 ·obtain⟨J,hJ,e⟩:=(hM cs hn hc).2
  obtain⟨s1,s2⟩:=rj r hn hc nm
  obtain⟨J',hJ',e'⟩:=(hM _ s1 s2).2
  rw[e,e']
  have hc0:=hc _ (dH (far:=cs) (i:=0) (by omega))
  have hw:=Fp n2 hs hn hc0 h
  subst hn
  exact rR hs n2 hc0 hJ hJ' hw hne
 ·obtain⟨k,k1,k2⟩:=Fp n2 hs hn (hc _ (dH (far:=cs) (i:=0) (by omega))) h
  have:((k+1:Nat):Int)∈ mvR n (bX sp) cs:=List.mem_map.mpr ⟨k+1,List.mem_filter.mpr ⟨List.mem_range.mpr k1,by simpa using(show bX sp cs (k+1)≠ gt cs (k+1)from k2)⟩,rfl⟩
  rw[e]at this
  exact nomatch this
end
structure Mx(o:PV)(n:Nat)(sp:Int)(al ip:Bool)(D:List Int->Nat->Int)(M:List Int->Int)(mo:Int):Prop where
 ms:Ms o n sp al ip D M
 mq:h8 aG (.ok []) o=.ok (.int mo)
 bd:∀cs,cs.length=n->InS sp cs->0<=M cs/\M cs<=mo
 st:∀cs nm,cs.length=n->InS sp cs->caR n ip D cs=true->caR n ip D (stR n D cs nm)=true
def sR{D:List Int->Nat->Int}(hn:cs.length=n)(nm:List Int)(h:caR n false D cs=true):caR n false D (stR n D cs nm)=true:=by
 have e:stR n D cs nm=cs:=Classical.byContradiction fun z=>by
  obtain⟨i,hi,_,hd⟩:=lE hn z
  have:(i:Int)∈ mvR n D cs:=List.mem_map.mpr ⟨i,List.mem_filter.mpr ⟨List.mem_range.mpr hi,by simpa using hd⟩,rfl⟩
  simp[caR]at h
  rw[h]at this
  cases this
 rw[e];exact h
def qF(le:o.mapF Fl.lend=o)(a0:ao 0 o=.ok (.int n))(n10:n<=10):qC [o]=.ok (.int (2 ^ n - 1)):=by
 have pn:=fq (e:=n) (b:=2) (by decide) (by decide) (by omega)
 refine az ?_
 show zo [some o]=_
 unfold zo
 exact a9 (by simp[le,a0,pn,aD]) (by simp)
def xh{r f:Nat->Nat}(hb:0 < b)(hr:∀m,(r m:Int) < b)(hf:∀m,(f m:Int) < b):∀t,0<=num b r f t/\num b r f t < b ^ (2 * t)
 | 0=>by simp[num]
 | t+1=>by
  obtain⟨h1,h2⟩:=xh hb hr hf t
  have e:b ^ (2 * (t+1))=b ^ (2 * t) * b * b:=by rw[show 2 * (t+1)=2 * t+1+1 by omega,Int.pow_succ,Int.pow_succ]
  have a:=jv (b:=b) (r:=0) hb h2 (hr t) (by omega)
  have c:=jv (b:=b) (r:=0) hb a (hf t) (by omega)
  have p1:=Int.mul_nonneg h1 (show 0<=b by omega)
  have p2:=Int.mul_nonneg (show 0<=num b r f t * b+r t by omega) (show 0<=b by omega)
  simp only[num]
  rw[e]
  simp only[Int.add_zero]at a c
  exact⟨by omega,c⟩
def BU{A x:Nat->Int}:0<=mL n T A x/\mL n T A x <((n:Int)+1) ^ (2 * T):=xh (by omega) (fun m=>by have:=mH (n:=n) (p:=fun i=>decide (x i=m)&&decide ((m:Int) < A i));unfold uA;omega) (fun m=>by have:=mH (n:=n) (p:=fun i=>decide ((m:Int) < x i)&&decide (A i=m));unfold vp;omega) T
def qo(hf:Fc f)(n10:n<=10)(hT:T<=100):vt [lea f cc n ps os st T]=.ok (.int (((n:Int)+1) ^ (2 * T) - 1)):=by
 have pn:=fq (e:=2 * T) (b:=(n:Int)+1) (by omega) (by omega) (by omega)
 rw[show((2 * T:Nat):Int)=2 * (T:Int) by omega]at pn
 have mu:dG (.int 2) (.int (T:Int))=.ok (.int (2 * (T:Int))):=eU (.inl ⟨by decide,by decide⟩)
 refine az ?_
 show EA [some (lea f cc n ps os st T)]=_
 unfold EA
 exact a9 (by simp[ao,aW,pn,mu,aD]) (by simp)
section
variable{n:Nat}{sp:Int}{cs nm:List Int}
def B5:∀m,(0<=bc cs m/\bc cs m<=m)/\0<=bS cs m/\2 * bS cs m<=m * ((m:Int) - 1)
 | 0=>by simp[bc,bS]
 | m+1=>by
  obtain⟨⟨h1,h2⟩,h3,h4⟩:=B5 m
  have e:((m+1:Nat):Int) * (((m+1:Nat):Int) - 1)=m * ((m:Int) - 1)+2 * m:=by
   rw[show((m+1:Nat):Int) - 1=m by omega,show((m+1:Nat):Int)=m+1 by omega,Int.add_mul,Int.mul_sub]
   omega
  simp only[bc,bS]
  refine⟨by split<;>omega,by omega,?_⟩
  rw[e];omega
def wD(n20:n<=20):yu [hZ .bor n sp]=.ok (.int (3 * n * ((n:Int) - 1) / 2)):=by
 refine az ?_
 show zr [some (hZ .bor n sp)]=_
 unfold zr
 have m1:dG (.int 3) (.int (n:Int))=.ok (.int (3 * n)):=eU (.inl ⟨by decide,by decide⟩)
 have m2:dG (.int (3 * (n:Int))) (.int ((n:Int) - 1))=.ok (.int (3 * n * ((n:Int) - 1))):=eU (.inl ⟨by omega,by omega⟩)
 have d2:fN (.int (3 * (n:Int) * ((n:Int) - 1))) (.int 2)=.ok (.int (3 * n * ((n:Int) - 1) / 2)):=gX (by decide) (by decide)
 exact a9 (by simp[ao,aW,m1,m2,d2]) (by simp)
def sS(h:0<=b/\b < sp)(h2:2<=sp):(b+1) % sp≠b/\0 <=(b+1) % sp/\(b+1) % sp < sp:=by
 refine⟨?_,Int.emod_nonneg _ (by omega),Int.emod_lt_of_pos _ (by omega)⟩
 by_cases q:b+1 < sp
 ·rw[Int.emod_eq_of_lt (by omega) q];omega
 ·rw[show b+1=sp by omega,Int.emod_self];omega
structure Cs(n:Nat)(sp:Int)(cs:List Int)(p:Nat)(a b:Int):Prop where
 len:cs.length=n
 pn:p < n
 lo:∀i,i < p->gt cs i=a
 hi:∀i,p<=i->i < n->gt cs i=b
 ra:0<=a/\a < sp
 rb:0<=b/\b < sp
 ne:p≠0->a≠b
def Cs.due(h:Cs n sp cs p a b)(h2:2<=sp):∀i < n,(bX sp cs i≠gt cs i↔i=p):=fun i hi=>by
 have hl:=h.len
 have hp:=h.pn
 unfold bX
 by_cases h0:i=0
 ·subst h0
  rw[if_pos rfl]
  by_cases p0:p=0
  ·subst p0
   have g0:=h.hi 0 (by omega) (by omega)
   have gl:=h.hi (cs.length - 1) (by omega) (by omega)
   rw[if_pos (g0.trans gl.symm),g0]
   simp[(sS h.rb h2).1]
  ·have g0:=h.lo 0 (by omega)
   have gl:=h.hi (cs.length - 1) (by omega) (by omega)
   have:=h.ne p0
   rw[if_neg (by rw[g0,gl];exact this)]
   simp
   omega
 ·rw[if_neg h0]
  rcases Nat.lt_trichotomy i p with q | q | q
  ·rw[h.lo i q,h.lo (i - 1) (by omega)]
   simp;omega
  ·subst q
   rw[h.lo (i - 1) (by omega),h.hi i (by omega) hi]
   simp[h.ne h0]
  ·rw[h.hi i (by omega) hi,h.hi (i - 1) (by omega) (by omega)]
   simp;omega
def Cs.next(h:Cs n sp cs p a b)(hn:2<=n)(h2:2<=sp):∃a' b',Cs n sp (cs.set p (bX sp cs p)) ((p+1) % n) a' b':=by
 have hl:=h.len
 have hp:=h.pn
 have gs:∀i,gt (cs.set p (bX sp cs p)) i=if i=p then bX sp cs p else gt cs i:=fun i=>eE _ (by omega) i
 by_cases p0:p=0
 ·subst p0
  have g0:=h.hi 0 (by omega) (by omega)
  have gl:=h.hi (cs.length - 1) (by omega) (by omega)
  have hd:bX sp cs 0=(b+1) % sp:=by
   unfold bX
   rw[if_pos rfl,if_pos (g0.trans gl.symm),g0]
  obtain⟨s1,s2⟩:=sS h.rb h2
  rw[show(0+1) % n=1 from Nat.mod_eq_of_lt (by omega)]
  refine⟨(b+1) % sp,b,⟨by simp[hl],by omega,fun i hi=>?_,fun i h1 hi=>?_,s2,h.rb,fun _=>s1⟩⟩
  ·rw[gs,if_pos (by omega),hd]
  ·rw[gs,if_neg (by omega)]
   exact h.hi i (by omega) hi
 ·have hd:bX sp cs p=a:=by
   unfold bX
   rw[if_neg p0]
   exact h.lo _ (by omega)
  by_cases q:p+1 < n
  ·rw[Nat.mod_eq_of_lt q]
   refine⟨a,b,⟨by simp[hl],q,fun i hi=>?_,fun i h1 hi=>?_,h.ra,h.rb,fun _=>h.ne p0⟩⟩
   ·rw[gs,hd]
    split
    ·rfl
    ·exact h.lo i (by omega)
   ·rw[gs,if_neg (by omega)]
    exact h.hi i (by omega) hi
  ·rw[show p+1=n by omega,Nat.mod_self]
   refine⟨a,a,⟨by simp[hl],by omega,fun i hi=>by omega,fun i h1 hi=>?_,h.ra,h.ra,fun z=>absurd rfl z⟩⟩
   rw[gs,hd]
   split
   ·rfl
   ·exact h.lo i (by omega)
def sC{f:Nat->Bool}(hp:p < n)(h:∀i < n,(f i=true↔i=p)):(List.range n).filter f=[p]:=by
 have e:(List.range n).filter f=(List.range n).filter fun i=>i==p:=List.filter_congr fun i hi=>by
  have:=h i (List.mem_range.mp hi)
  rw[Bool.eq_iff_iff,this]
  simp
 rw[e]
 have hd:(List.range n).Nodup:=List.nodup_range
 have hm:p∈List.range n:=List.mem_range.mpr hp
 have:(List.range n).filter (fun i=>i==p)=List.replicate ((List.range n).count p) p:=by
  rw[List.filter_beq]
 rw[this,List.Nodup.count hd,if_pos hm]
 rfl
def G7(hn:cs.length=n)(n2:2<=n)(hc:InS sp cs)(h:caR n true (bX sp) cs=true):∃p a b,Cs n sp cs p a b:=by
 simp only[caR,mvR,List.length_map,if_true,decide_eq_true_eq]at h
 obtain⟨p,hp⟩:=List.length_eq_one_iff.mp h
 have hm:∀i,i < n->(bX sp cs i≠gt cs i↔i=p):=fun i hi=>by
  have:i ∈(List.range n).filter (fun i=>decide (bX sp cs i≠gt cs i))↔ i=p:=by rw[hp];simp
  rw[<- this,List.mem_filter]
  simp[hi]
 have pn:p < n:=by
  have:p ∈(List.range n).filter (fun i=>decide (bX sp cs i≠gt cs i)):=by rw[hp];simp
  exact List.mem_range.mp (List.mem_filter.mp this).1
 have sm:∀i,i+1 < n->i+1≠p->gt cs (i+1)=gt cs i:=fun i hi hne=>by
  exact Classical.byContradiction fun z=>hne ((hm (i+1) hi).mp fun e=>z (e.symm.trans rfl))
 have lo:∀i,i < p->gt cs i=gt cs 0:=fun i=>by
  induction i with
  | zero=>intro _;rfl
  | succ i ih=>intro hi;rw[sm i (by omega) (by omega)];exact ih (by omega)
 have hi:∀i,p<=i->i < n->gt cs i=gt cs p:=fun i=>by
  induction i with
  | zero=>intro h1 _;rw[show p=0 by omega]
  | succ i ih =>
   intro h1 h2
   by_cases e:i+1=p
   ·rw[e]
   ·rw[sm i h2 e];exact ih (by omega) (by omega)
 refine⟨p,gt cs 0,gt cs p,hn,pn,lo,hi,hc _ (dH (by omega)),hc _ (dH (by omega)),fun p0 e=>?_⟩
 have:=(hm p pn).mpr rfl
 obtain⟨q,rfl⟩:∃q,p=q+1:=⟨p - 1,by omega⟩
 refine this ?_
 rw[show bX sp cs (q+1)=gt cs q from rfl,lo q (by omega),e]
def Bw(h:Cs n sp cs p a b)(s2:2<=sp):caR n true (bX sp) cs=true:=by
 simp only[caR,mvR,List.length_map,if_true,decide_eq_true_eq]
 rw[sC h.pn fun i hi=>by simpa using h.due s2 i hi]
 rfl
def rQ(hn:cs.length=n)(n2:2<=n)(s2:2<=sp)(hc:InS sp cs)(nm:List Int)(h:caR n true (bX sp) cs=true):caR n true (bX sp) (stR n (bX sp) cs nm)=true:=by
 obtain⟨p,a,b,C⟩:=G7 hn n2 hc h
 have e:stR n (bX sp) cs nm=if nm.contains (p:Int)then cs.set p (bX sp cs p)else cs:=by
  refine List.ext_getElem (by split<;>simp[stR,hn]) fun i h1 h2=>?_
  have hi:i < n:=by simpa[stR]using h1
  have d:=C.due s2 i hi
  rw[<- jw _ _ h1,<- jw _ _ h2,fU hi]
  by_cases q:i=p
  ·subst q
   split
   ·rw[eE _ (by omega),if_pos rfl]
   ·rfl
  ·have de:bX sp cs i=gt cs i:=Classical.byContradiction fun z=>q (d.mp z)
   rw[de,ite_self]
   split
   ·rw[eE _ (by have:=C.pn;omega),if_neg q]
   ·rfl
 rw[e]
 split
 ·obtain⟨a',b',C'⟩:=C.next n2 s2
  exact Bw C' s2
 ·exact h
def AV(n2:2<=n)(n20:n<=20)(hs:(n:Int)<= sp):∃M mo,Mx (hZ .bor n sp) n sp false true (bX sp) M mo:=by
 obtain⟨M,h,hM⟩:=xq n2 n20 hs
 refine⟨M,3 * n * ((n:Int) - 1) / 2,h,by simp[aG,wD n20,aD],fun cs hn hc=>?_,fun cs nm hn hc h=>rQ hn n2 (by omega) hc nm h⟩
 obtain⟨J,hJ,e⟩:=hM cs hn hc
 obtain⟨_,b1,b2⟩:=B5 (cs:=cs) n
 have j:J<=n - 1:=by rcases hJ with⟨_,rfl⟩ |⟨_,_,q,_⟩<;>omega
 have m1:(0:Int)<= n * J:=Int.mul_nonneg (by omega) (by omega)
 have m2:(n:Int) * J<=n * ((n:Int) - 1):=Int.mul_le_mul_of_nonneg_left (by omega) (by omega)
 rw[e,Int.mul_assoc]
 omega
end
section
variable{n r:Nat}{ps:List (Int×Int)}{os:List (Option Int)}{st:Int}
def xk(h1:1<=n)(n10:n<=10)(rg:∀x∈ps,0<=x.1/\x.1 < n/\0<=x.2/\x.2 < n/\x.1≠x.2)(hl:∀i,(nbL ps i).length<=1000):∃M mo,Mx (pnt .frz n ps) n n false false (kE ps) M mo :=
 ⟨_,2 ^ n - 1,xr h1 n10 rg hl,by simp [aG,qF (o:=pnt .frz n ps) (n:=n) (by simp) (by simp [ao,aW]) n10,aD],fun cs hn hc=>by
  have:=pE (n:=n) (K:=n) (rk:=fun i=>n - 1 - i) (p:=mvB (kE ps) cs) (fun i j h1 h2 e=>by omega) (fun i hi _=>by omega)
  exact⟨this.1,Int.le_sub_one_of_lt this.2⟩,fun cs nm hn _ h=>sR hn nm h⟩
def xl{ps:List Int}(T:Tree ps)(hl:ps.length<=9):∃M mo,Mx (cnt .bor ps) (ps.length+1) ((ps.length:Int)+2) false false (o7 (ps.length+1) ps) M mo :=
 ⟨_,2 ^ (ps.length+1) - 1,xu T hl,by simp [aG,qF (o:=cnt .bor ps) (n:=ps.length+1) (by simp) (by simp [ao,aW]) (by omega),aD],fun cs hn hc=>by
  have:=pE (n:=ps.length+1) (K:=ps.length+1) (rk:=id) (p:=mvB (o7 (ps.length+1) ps) cs) (fun i j h1 h2 e=>e) (fun i hi _=>hi)
  exact⟨this.1,Int.le_sub_one_of_lt this.2⟩,fun cs nm hn _ h=>sR hn nm h⟩
def qg(hcc:cc=5\/cc=6)(h1:1<=n)(n10:n<=10)(hst:0 < st)(hT:T<=100)(ho:OkS T os)(hol:os.length=n)(hnb:∀i:Nat,∀x∈nbL ps i,0<=x/\x < n)(hl:∀i,(nbL ps i).length<=1000):∃M mo,Mx (lea .frz cc n ps os st T) n ((T:Int)+1) true false (fO ps os st T) M mo :=
 ⟨_,((n:Int)+1) ^ (2 * T) - 1,xt hcc h1 n10 hst (by omega) ho hol hnb hl,by rcases hcc with rfl | rfl <;> simp [aG,qo (f:=.frz) (by first | exact .inr rfl | exact .inl rfl) n10 hT,aD],fun cs hn hc=>by
  have:=BU (n:=n) (T:=T) (A:=fO ps os st T cs) (x:=gt cs)
  exact⟨this.1,Int.le_sub_one_of_lt this.2⟩,fun cs nm hn _ h=>sR hn nm h⟩
def AW(h1:1<=n)(h10:n<=10)(hr:r < n)(hnb:∀i:Nat,∀x∈nbL ps i,0<=x/\x < n)(hl:∀i,(nbL ps i).length<=1000):∃M mo,Mx (gro .frz n ps r) n (((n:Int)+1) * ((n:Int)+1)) true false (mM n ps r) M mo:=by
 have lm:=fun f hf=>qo (cc:=5) (n:=n) (T:=n) (ps:=ps) (os:=fs n r) (st:=n) (f:=f) hf h10 (by omega)
 have pn:=fq (e:=n) (b:=2) (by decide) (by decide) (by omega)
 have p2:=qY h10
 have mu:∀B:Int,dG (.int B) (.int (2 ^ n))=.ok (.int (B * 2 ^ n)):=fun B=>eU (.inr ⟨by omega,by omega⟩)
 have gm:yt [gro .frz n ps r]=.ok (.int (((n:Int)+1) ^ (2 * n) * 2 ^ n - 1)):=by
  refine az ?_
  show zq [some (gro .frz n ps r)]=_
  unfold zq
  refine a9 ?_ (by simp)
  generalize hB:((n:Int)+1) ^ (2 * n)=B at lm ⊢
  generalize(2:Int) ^ n=PN at *
  simp[ao,aW,jx,lm .frz (.inr rfl),pn,mu,aD,Int.sub_add_cancel]
 refine⟨_,((n:Int)+1) ^ (2 * n) * 2 ^ n - 1,AX h1 h10 hr hnb hl,by simp[aG,gm,aD],fun cs hn hc=>?_,fun cs nm hn _ h=>sR hn nm h⟩
 obtain⟨a1,a2⟩:=BU (n:=n) (T:=n) (A:=fO ps (fs n r) n n (FA n cs)) (x:=gt (FA n cs))
 obtain⟨b1,b2⟩:=pE (n:=n) (K:=n) (rk:=rnk n (FA n cs)) (p:=wrg n ps r cs) (fun i j h1 h2 e=>s_ h1 h2 e) (fun i hi _=>la hi)
 unfold MG mT
 generalize((n:Int)+1) ^ (2 * n)=B at *
 generalize(2:Int) ^ n=PN at *
 have c:=jv (b:=PN) (r:=0) p2.1 a2 b2 (by omega)
 have d:=Int.mul_nonneg a1 (show 0<=PN by omega)
 omega
end
def tri:Nat->Nat
 | 0=>0
 | k+1=>tri k+k
def tw{α:Type}(y:α)(xs:List α):PR.iq xs.length y xs=xs++[y]:=by simp[PR.iq]
def zL(ti mo:Int)(n1:1<=n)(n2:n<=10):∃ts ms:List (Int×Int),yb [.int n,.int ti,.int mo]=.ok (.lst .own (prL (ts++ms)))/\fL n 55 (ts++ms)/\ts.length+1=n/\Tree (ts.map (·.1)):=by
 suffices hh:ke (yX [some (.int n),some (.int ti),some (.int mo),none,none,none]) (fun v=>∃ts ms:List (Int×Int),v=.lst .own (prL (ts++ms))/\fL n 55 (ts++ms)/\ts.length+1=n/\Tree (ts.map (·.1))) by
  obtain⟨v,h1,ts,ms,rfl,h2⟩:=hh
  exact⟨ts,ms,az h1,h2⟩
 unfold yX
 obtain⟨od,hod⟩:∃od:List Int,od=(List.range n).map fun k:Nat=>(k:Int):=⟨_,rfl⟩
 have hlen:od.length=n:=by rw[hod];simp
 have odn:od.Nodup:=by rw[hod];exact List.Pairwise.map _ (fun a b h z=>h (by omega)) List.nodup_range
 have od1:∀i:Nat,i < n->od.getD i 0=(i:Int):=fun i hi=>by rw[hod];simp[hi]
 refine dX (aw (v:=.lst .own []) (by simp) (by simp) rfl) ?_
 simp only[s0_,s1_]
 refine jK (fun q e=>∃ws t a,e=[some (.int n),some (.int t),some (.int mo),some (.lst .own (prL ws)),a,none]/\PR.Tree n od (q+1) ws/\Tree (ws.map (·.1))/\∀w∈ws,w.1 < w.2) (xs:=cX 1 (n - 1)) ?_ ⟨[],ti,_,rfl,PR.Tree.start hlen n1,fun i h=>by simp at h,fun w h=>nomatch h⟩ (fun q x e hx hP=>?_) (fun e hP=>?_)
 ·rw[Aj (lo:=1) (hi:=n) (by simp) (by omega) (by omega)]
  rw[show((n:Int) - 1).toNat=n - 1 by omega]
 ·obtain⟨ws,t,a,rfl,T,G1,G2⟩:=hP
  obtain⟨hq,rfl⟩:=dW hx
  have lt:=T.ln
  have kp:(0:Int) < 1+(q:Int):=by omega
  have b1:=Int.emod_nonneg t (show(1:Int)+q≠0 by omega)
  have b2:=Int.emod_lt_of_pos t kp
  have dv:fN (.int t) (.int (1+(q:Int)))=.ok (.int (t / (1+(q:Int)))):=gX kp (by omega)
  refine⟨_,dq rfl,bq (fv (v:=prV (t % (1+(q:Int)),1+(q:Int))) (xs:=prL ws) (by simp[bW kp,prV]) rfl (by simp) (by rw[iY];omega)) (bC (aw (v:=.int (t / (1+(q:Int)))) (by simp[dv]) (by simp) rfl) ⟨ws++[(t % (1+(q:Int)),1+(q:Int))],t / (1+(q:Int)),some (.int (1+(q:Int))),by simp[prL],?_,fun i h=>?_,fun w hw=>?_⟩)⟩
  ·rw[<- tw]
   refine T.more (j:=(t % (1+(q:Int))).toNat) odn (by omega) (by omega) (.inr ?_)
   rw[od1 _ (by omega),od1 _ (by omega)]
   congr 1<;>omega
  ·rw[List.length_map,List.length_append,List.length_singleton]at h
   simp only[List.map_append,List.map_cons,List.map_nil]
   by_cases z:i < ws.length
   ·rw[List.getElem_append_left (by simpa using z)]
    exact G1 i (by simpa using z)
   ·rw[List.getElem_append_right (by simpa using z)]
    simp
    omega
  ·rcases List.mem_append.mp hw with hw | hw
   ·exact G2 w hw
   ·rw[List.mem_singleton.mp hw];exact b2
 obtain⟨ts,t,a,rfl,T,G1,G2⟩:=hP
 rw[bp,show n - 1+1=n by omega]at T
 have Wh:=T.whole (by rw[hod])
 have tln:=T.ln
 have t10:∀k,k<=10->tri k<=45:=by decide
 refine jK (fun k e=>∃ms m a b,e=[some (.int n),some (.int t),some (.int m),some (.lst .own (prL (ts++ms))),a,b]/\fL n (10+tri k) (ts++ms)/\∀w∈ts++ms,w.2 < w.1->w.1 < k) (bP (n:=n) (by simp) (by omega)) ⟨[],mo,a,none,by simp,by rw[List.append_nil];exact⟨Wh.rg,Wh.nd,Nat.le_trans Wh.ln n2,Wh.cn⟩,fun w hw h=>by rw[List.append_nil]at hw;have:=G2 w hw;omega⟩ (fun k x e hx hP=>?_) (fun e hP=>?_)
 ·obtain⟨ms,m,a,b,rfl,Wh,lo⟩:=hP
  obtain⟨hk,rfl⟩:=dW hx
  refine⟨_,dq rfl,?_⟩
  simp only[s0_,s1_,Int.zero_add]
  have tk:=t10 k (by omega)
  refine kC (fun j e=>∃ms m b,e=[some (.int n),some (.int t),some (.int m),some (.lst .own (prL (ts++ms))),some (.int k),b]/\fL n (10+tri k+j) (ts++ms)/\∀w∈ts++ms,w.2 < w.1->w.1 < k \/(w.1=k/\w.2 < j)) (bP (n:=k) (by simp) (by omega)) ⟨ms,m,_,rfl,Wh,fun w hw h=>.inl (lo w hw h)⟩ (fun j y e hy hP=>?_) (fun e hP=>?_)
  ·obtain⟨ms,m,b,rfl,Wh,lo⟩:=hP
   obtain⟨hj,rfl⟩:=dW hy
   have wl:=Wh.ln
   have d3:fN (.int m) (.int 3)=.ok (.int (m / 3)):=gX (by decide) (by decide)
   refine⟨_,dq rfl,?_⟩
   simp only[s0_,s1_,Int.zero_add]
   by_cases hc:m % 3=0/\((j:Int),(k:Int))∉ ts++ms
   ·obtain⟨c1,c2⟩:=hc
    have c3:((k:Int),(j:Int))∉ ts++ms:=fun z=>by
     have:=lo _ z (show(j:Int) < k by omega)
     dsimp only at this
     omega
    refine bq (jz (by simp only[lq,gT,d9,yE,bt,bN,bH,j_];simp[q9,bW,c1];simpa using c2) (fv (v:=prV ((k:Int),(j:Int))) (xs:=prL (ts++ms)) (by simp;rfl) rfl (by simp) (by rw[iY];omega))) (bC (aw (v:=.int (m / 3)) (by simp[d3]) (by simp) rfl) ⟨ms++[((k:Int),(j:Int))],m / 3,some (.int j),by simp[prL],?_,fun w hw h=>?_⟩)
    ·rw[<- List.append_assoc,<- tw]
     exact Wh.more ⟨by omega,by omega⟩ ⟨by omega,by omega⟩ (by omega) c3 c2
    ·rw[<- List.append_assoc]at hw
     rcases List.mem_append.mp hw with hw | hw
     ·have:=lo w hw h
      omega
     ·rw[List.mem_singleton.mp hw]
      exact .inr ⟨rfl,by dsimp only;omega⟩
   ·refine bq (ce ?_ aI) (bC (aw (v:=.int (m / 3)) (by simp[d3]) (by simp) rfl) ⟨ms,m / 3,some (.int j),rfl,Wh.keep,fun w hw h=>?_⟩)
    ·by_cases c1:m % 3=0
     ·have c2:((j:Int),(k:Int))∈ ts++ms:=Classical.byContradiction fun z=>hc ⟨c1,z⟩
      simp only[lq,gT,d9,yE,bt,bN,bH,j_]
      simp[q9,bW,c1]
      exact fun z=>(List.mem_append.mp c2).resolve_left z
     ·simp[bW,c1]
    ·have:=lo w hw h
     omega
  ·obtain⟨ms,m,b,rfl,Wh,lo⟩:=hP
   rw[bp]at Wh lo
   exact⟨ms,_,_,_,rfl,by rw[show 10+tri (k+1)=10+tri k+k by simp[tri];omega];exact Wh,fun w hw h=>by have:=lo w hw h;omega⟩
 ·obtain⟨ms,m,a,b,rfl,Wh,_⟩:=hP
  rw[bp]at Wh
  have tn:=t10 n n2
  exact fk (fD rfl) ⟨ts,ms,rfl,⟨Wh.rg,Wh.nd,by have:=Wh.ln;omega,Wh.cn⟩,tln,G1⟩
def yG{α β:Type}(f:α->β):∀(l:List α) (j:Nat),(l.map f).eraseIdx j=(l.eraseIdx j).map f
 | [],_ | _::_,0=>rfl
 | x::l,j+1=>by simp[yG f l j]
def o5:∀(l:List Int) (j:Nat) (h:j < l.length),(l[j]::l.eraseIdx j).Perm l
 | _::_,0,_=>.refl _
 | x::l,j+1,h=>(List.Perm.swap _ _ _).trans ((o5 l j (by simpa using h)).cons x)
def DA(c:Int)(n2:n<=10):∃ms:List Int,ye [.int n,.int c]=.ok (.lst .own (iL ms))/\OkM n ms:=by
 suffices hh:ke (y2 [some (.int n),some (.int c),none,none,none]) (fun v=>∃ms:List Int,v=.lst .own (iL ms)/\OkM n ms) by
  obtain⟨v,h1,ms,rfl,h2⟩:=hh
  exact⟨ms,az h1,h2⟩
 unfold y2
 refine dX (aw (v:=.lst .own (iL [0,1,2,3,4,5,6,7,8,9])) rfl (by simp) rfl) ?_
 simp only[s0_,s1_]
 refine dX (aw (v:=.lst .own []) (by simp) (by simp) rfl) ?_
 simp only[s0_,s1_]
 refine jK (fun k e=>∃po ms c a,e=[some (.int n),some (.int c),some (.lst .own (iL po)),some (.lst .own (iL ms)),a]/\ms.length=k/\po.length+k=10/\(ms++po).Nodup/\∀x∈ms++po,0<=x/\x<=9) (bP (n:=n) (by simp) (by omega)) ⟨[0,1,2,3,4,5,6,7,8,9],[],c,none,rfl,rfl,rfl,by decide,by decide⟩ (fun k x e hx hP=>?_) (fun e hP=>?_)
 ·obtain⟨po,ms,c,a,rfl,l1,l2,nd,rg⟩:=hP
  obtain⟨hk,rfl⟩:=dW hx
  have kp:(0:Int) < po.length:=by omega
  have b1:=Int.emod_nonneg c (show(po.length:Int)≠ 0 by omega)
  have b2:=Int.emod_lt_of_pos c kp
  obtain⟨j,hj⟩:∃j:Nat,c % (po.length:Int)=j:=⟨(c % (po.length:Int)).toNat,by omega⟩
  have jl:j < po.length:=by omega
  have dv:fN (.int c) (.int (10 - (k:Int)))=.ok (.int (c / (10 - (k:Int)))):=gX (by omega) (by omega)
  have ap:jV 3 2 (mOp ef (ac 1) (aq (p1 bU) (ae (ac 2) am))) [some (.int n),some (.int c),some (.lst .own (iL po)),some (.lst .own (iL ms)),some (.int (0+k))]=.next [some (.int n),some (.int c),some (.lst .own (iL (po.eraseIdx j))),some (.lst .own (iL (ms++[po[j]]))),some (.int (0+k))]:=by
   unfold jV
   have e:(mOp ef (ac 1) (aq (p1 bU) (ae (ac 2) am))) [some (.int n),some (.int c),some (.lst .own (iL po)),some (.lst .own (iL ms)),some (.int (0+k))]=.ok (.int (j:Int)):=by simp[p1,bU,aL,bW kp,hj]
   rw[e]
   simp only[List.getElem?_cons_zero,List.getElem?_cons_succ]
   have g:(iL po)[(j:Int).toNat]?=some (.int po[j]):=by simp[iL,jl]
   rw[g]
   simp only[]
   rw[if_pos ⟨by decide,by omega,by simp[eC],by simp[eC],by simp;omega,by simp;omega⟩]
   have er:(iL po).eraseIdx (j:Int).toNat=iL (po.eraseIdx j):=by simp[iL,yG]
   rw[er]
   simp[iL]
  refine⟨_,dq rfl,bq ap (bC (aw (v:=.int (c / (10 - (k:Int)))) (by simp[dv]) (by simp) rfl) ⟨po.eraseIdx j,ms++[po[j]],_,_,rfl,by simp[l1],by rw[List.length_eraseIdx,if_pos jl];omega,?_,fun x hx=>?_⟩)⟩
  ·have pm:(ms++[po[j]]++ po.eraseIdx j).Perm (ms++po):=by
    rw[List.append_assoc]
    exact(o5 po j jl).append_left ms
   exact pm.symm.nodup nd
  ·have pm:(ms++[po[j]]++ po.eraseIdx j).Perm (ms++po):=by
    rw[List.append_assoc]
    exact(o5 po j jl).append_left ms
   exact rg x (pm.mem_iff.mp hx)
 ·obtain⟨po,ms,c,a,rfl,l1,l2,nd,rg⟩:=hP
  rw[bp]at l1
  exact fk (fD rfl) ⟨ms,rfl,l1,(List.nodup_append.mp nd).1,fun x hx=>rg x (List.mem_append_left _ hx)⟩
def isB(x:Res PV)(b:Bool):Bool:=match x with
 | .ok (.bl c)=>c==b
 | _=>false
def oR{x:Res PV}{b:Bool}(h:isB x b=true):x=.ok (.bl b):=by
 unfold isB at h
 split at h
 ·rw[eq_of_beq h]
 ·cases h
def kiS:Nat->Str
 | 0 => "pass"
 | 1 => "paint"
 | 2 => "count"
 | 3 => "far"
 | 4 => "lead"
 | _ => "grow"
def tdV(k n:Nat)(ws:List (Int×Int))(pa ms:List Int)(r:Nat)(sp:Int):PV:=.box 0 [.str (kiS k),.int n,.lst .frz (prL ws),.lst .frz (iL pa),.lst .frz (iL ms),.int r,.int sp]
structure Td(k n:Nat)(ws:List (Int×Int))(pa ms:List Int)(r:Nat)(sp:Int):Prop where
 k6:k < 6
 n1:1<=n
 n7:n<=7
 p2:k=0->2<=n
 wh:fL n 55 ws
 pl:pa.length+1=n
 tr:Tree pa
 nm:OkM n ms
 rn:r < n
 sn:(n:Int)<= sp
section
variable{k n:Nat}{ws:List (Int×Int)}{pa ms:List Int}{r:Nat}{sp:Int}
def vT(g:Fl->Fl)(h:g .frz=.frz):(tdV k n ws pa ms r sp).mapF g=tdV k n ws pa ms r sp:=by simp[tdV,PV.mapF,h]
@[simp] def Fs:(tdV k n ws pa ms r sp).mapF Fl.lend=tdV k n ws pa ms r sp:=vT _ rfl
@[simp] def IF:(tdV k n ws pa ms r sp).mapF Fl.toBor=tdV k n ws pa ms r sp:=vT _ rfl
def vU(p:Fl->Bool)(h:p .frz=false):(tdV k n ws pa ms r sp).has p=false:=by simp[tdV,PV.has,h]
def Ft:dO 0 0 (tdV k n ws pa ms r sp)=.ok (.str (kiS k)):=rfl
def zS:dO 0 1 (tdV k n ws pa ms r sp)=.ok (.int n):=rfl
def HM:dO 0 2 (tdV k n ws pa ms r sp)=.ok (.lst .frz (prL ws)):=by simp[dO,tdV,PV.has,Fl.isOwn]
def HL:dO 0 3 (tdV k n ws pa ms r sp)=.ok (.lst .frz (iL pa)):=by simp[dO,tdV,PV.has,Fl.isOwn]
def zR:dO 0 4 (tdV k n ws pa ms r sp)=.ok (.lst .frz (iL ms)):=by simp[dO,tdV,PV.has,Fl.isOwn]
def B9:dO 0 5 (tdV k n ws pa ms r sp)=.ok (.int r):=rfl
def HK:dO 0 6 (tdV k n ws pa ms r sp)=.ok (.int sp):=rfl
end
def zP(fl:Fl)(ns:List Int)(h:Scr fl):∃k n ws pa ms r sp,yc [.lst fl (iL ns)]=.ok (tdV k n ws pa ms r sp)/\Td k n ws pa ms r sp:=by
 have cl:∀k:Nat,hG [.lst fl (iL ns),.int k]=.ok (.int (cell ns k)):=fun k=>ui ns k h
 have c0:hG [.lst fl (iL ns),.int 0]=.ok (.int (cell ns 0)):=cl 0
 have c1:hG [.lst fl (iL ns),.int 1]=.ok (.int (cell ns 1)):=cl 1
 have c2:hG [.lst fl (iL ns),.int 2]=.ok (.int (cell ns 2)):=cl 2
 have c3:hG [.lst fl (iL ns),.int 3]=.ok (.int (cell ns 3)):=cl 3
 clear cl
 generalize cell ns 0=z0 at c0
 generalize cell ns 1=z1 at c1
 generalize cell ns 2=z2 at c2
 generalize cell ns 3=z3 at c3
 obtain⟨k,hk⟩:∃k:Nat,z0 % 6=k:=⟨(z0 % 6).toNat,by omega⟩
 have k6:k < 6:=by omega
 obtain⟨m,hm⟩:∃m:Nat,1+z0 / 6 % 6=m:=⟨(1+z0 / 6 % 6).toNat,by omega⟩
 obtain⟨n,hn⟩:∃n:Nat,n=if k=0 then m+1 else m:=⟨_,rfl⟩
 have n7:1<=n/\n<=7/\(k=0->2<=n):=by rw[hn];split<;>omega
 obtain⟨ts,tm,hw,Wh,tl,tr⟩:=zL (n:=n) z1 z2 (by omega) (by omega)
 obtain⟨ms,hms,N⟩:=DA (n:=n) z3 (by omega)
 have np:(0:Int) < n:=by omega
 obtain⟨r,hr⟩:∃r:Nat,z3 % (n:Int)=r:=⟨(z3 % (n:Int)).toNat,by have:=Int.emod_nonneg z3 (show(n:Int)≠ 0 by omega);omega⟩
 have rn:r < n:=by have:=Int.emod_lt_of_pos z3 np;omega
 have d6:fN (.int z0) (.int 6)=.ok (.int (z0 / 6)):=gX (by decide) (by decide)
 have d2:fN (.int z3) (.int 2)=.ok (.int (z3 / 2)):=gX (by decide) (by decide)
 have p59:uQ (.int 10) (.int 59)=.ok (.int 100000000000000000000000000000000000000000000000000000000000):=by rfl
 have m59:ef (.int (z3 / 2)) (.int 100000000000000000000000000000000000000000000000000000000000)=.ok (.int (z3 / 2 % 100000000000000000000000000000000000000000000000000000000000)):=bW (by decide)
 have b59:=Int.emod_nonneg (z3 / 2) (show(100000000000000000000000000000000000000000000000000000000000:Int)≠ 0 by decide)
 generalize z3 / 2 % 100000000000000000000000000000000000000000000000000000000000=w at m59 b59
 have b7:=Int.emod_nonneg (z3 / 2) (show(7:Int)≠ 0 by decide)
 obtain⟨sp,hsp,sn⟩:∃sp:Int,sp=(if z3 % 2=1 then(n:Int)+w else(n:Int)+z3 / 2 % 7)/\(n:Int)<= sp:=⟨_,rfl,by split<;>omega⟩
 refine⟨k,n,ts++tm,ts.map (·.1),ms,r,sp,az ?_,k6,n7.1,n7.2.1,n7.2.2,Wh,by simpa using tl,tr,N,rn,sn⟩
 show yY [some (.lst fl (iL ns)),none,none,none,none,none,none,none,none,none]=_
 unfold yY
 refine af (aw (v:=.int z0) (by simp[h.lend,h.toBor,c0,aD]) (by simp) rfl) ?_
 simp only[s0_,s1_]
 refine af (aw (v:=.int z3) (by simp[h.lend,h.toBor,c3,aD]) (by simp) rfl) ?_
 simp only[s0_,s1_]
 refine af (aw (v:=.str (kiS k)) ?_ (by simp[PV.noLnt,PV.has]) rfl) ?_
 ·simp only[d9,kD,bt,bN,j_,bH,List.getElem?_cons_zero,List.getElem?_cons_succ]
  simp[bW,hk]
  have:k=0\/k=1\/k=2\/k=3\/k=4\/k=5:=by omega
  rcases this with rfl | rfl | rfl | rfl | rfl | rfl<;>rfl
 simp only[s0_,s1_]
 refine af (aw (v:=.int m) (by simp[d6,bW,hm]) (by simp) rfl) ?_
 simp only[s0_,s1_]
 have ek:pEq (.str (kiS k)) (.str "pass")=.ok (.bl (decide (k=0))):=by
  have:k=0\/k=1\/k=2\/k=3\/k=4\/k=5:=by omega
  rcases this with rfl | rfl | rfl | rfl | rfl | rfl<;>exact oR (by decide +kernel)
 refine af (e:=[some (.lst fl (iL ns)),some (.int z0),some (.int z3),some (.str (kiS k)),some (.int n),none,none,none,none,none]) ?_ ?_
 ·by_cases q:k=0
  ·rw[decide_eq_true q]at ek
   refine jz (by simp[ek,PV.mapF]) ?_
   rw[hn,if_pos q]
   exact aw (v:=.int ((m+1:Nat):Int)) (by simp) (by simp) rfl
  ·rw[decide_eq_false q]at ek
   refine ce (by simp[ek,PV.mapF]) ?_
   rw[hn,if_neg q]
   exact aI
 refine af (aw (v:=.lst .own (prL (ts++tm))) (by simp[h.lend,h.toBor,c1,c2,hw,aD]) (by simp) rfl) ?_
 simp only[s0_,s1_]
 refine af (aw (v:=.int ((n:Int)+z3 / 2 % 7)) (by simp[d2,bW]) (by simp) rfl) ?_
 simp only[s0_,s1_]
 refine af (e:=[some (.lst fl (iL ns)),some (.int z0),some (.int z3),some (.str (kiS k)),some (.int n),some (.lst .own (prL (ts++tm))),some (.int sp),none,none,none]) ?_ ?_
 ·by_cases q:z3 % 2=1
  ·refine jz (by simp[bW,q]) ?_
   rw[hsp,if_pos q]
   exact aw (v:=.int ((n:Int)+w)) (by simp[d2,p59,m59]) (by simp) rfl
  ·refine ce (by simp[bW,q]) ?_
   rw[hsp,if_neg q]
   exact aI
 refine af (aw (v:=.lst .own (iL (ts.map (·.1)))) ?_ (by simp) rfl) ?_
 ·refine aV (xs:=prL ts) ?_ (by rw[iY];omega) ?_
  ·have ec:kb (prL (ts++tm)) none (some ((n:Int) - 1))=prL ts:=by
    rw[show(n:Int) - 1=(ts.length:Int) by omega]
    rw[Ec _ _ (by simp[iY])]
    simp[prL]
   simp only[Bl,iO,j9,i6,d9,bH,j_,List.getElem?_cons_zero,List.getElem?_cons_succ]
   simp[ec]
  ·rw[show iL (ts.map (·.1))=ts.map fun w=>PV.int w.1 by simp[iL]]
   exact bL (a:=prV) (f:=fun w=>PV.int w.1) ts fun w _=>⟨[some (prV w)],by simp[tgN,aU,bQ,cK],by simp[prV];rfl,by simp,by simp⟩
 simp only[s0_,s1_]
 refine af (aw (v:=.lst .own (iL ms)) (by simp[hms,aD]) (by simp) rfl) ?_
 simp only[s0_,s1_]
 refine af (cM (v:=.lst .own (prL (ts++tm))) rfl) (af (cM (v:=.lst .own (iL (ts.map (·.1)))) rfl) (af (cM (v:=.lst .own (iL ms)) rfl) ?_))
 simp only[s0_,s1_]
 unfold tZ
 simp[oT,bW np,hr,PV.mapF,Fl.freeze,Fl.lend,tdV,PV.has]
structure KR(O o:PV)(n:Nat)(sp:Int)(al ip:Bool)(D:List Int->Nat->Int):Prop where
 own:O.has Fl.isBor=false
 nl:O.noLnt=true
 lb:(O.mapF Fl.lend).mapF Fl.toBor=o
 bb:O.mapF Fl.borrow=o
 la0:ao 0 (O.mapF Fl.lend)=.ok (.int n)
 la8:ao 8 (O.mapF Fl.lend)=.ok (.bl al)
 r:Rl o n sp al ip D
def isI(x:Res PV)(j:Nat):Bool:=match x with
 | .ok (.int c)=>c==j
 | _=>false
def Dy{x:Res PV}{j:Nat}(h:isI x j=true):x=.ok (.int j):=by
 unfold isI at h
 split at h
 ·rw[eq_of_beq h]
 ·cases h
def ot3(n:Nat)(ps:List (Int×Int))(ms:List Int)(r:Nat):List PV:=[lea .own 6 n ps (ls n (ms.map fun x=>9 - x)) n (10 * n),lea .own 5 n ps (fs n r) n n,gro .own n ps r]
def xK(N:OkM n ms)(n1:1<=n):OkS (10 * (n:Int)) (ls n ms):=fun s hs=>by
 simp only[ls,List.mem_map]at hs
 obtain⟨x,hx,e⟩:=hs
 have:=N.mr x hx
 cases e
 have h1:0 <=(9 - x) * (n:Int):=Int.mul_nonneg (by omega) (by omega)
 have h2:(9 - x) * (n:Int)<= 9 * n:=Int.mul_le_mul_of_nonneg_right (by omega) (by omega)
 omega
section
variable{k n:Nat}{ws:List (Int×Int)}{pa ms:List Int}{r:Nat}{sp:Int}
def uT(T:Td k n ws pa ms r sp):n8 [net .frz n ps,tdV k n ws pa ms r sp]=.ok (.lst .own (ot3 n ps ms (n - 1 - r))):=by
 have n1:=T.n1
 have n7:=T.n7
 have rn:=T.rn
 have N:=T.nm
 have O:OkM n (ms.map fun x=>9 - x):=⟨by simp [N.ml],List.Pairwise.map _ (fun a b h e=>h (by omega)) N.nd,fun x hx=>by
  obtain⟨y,hy,rfl⟩:=List.mem_map.mp hx
  have:=N.mr y hy
  omega⟩
 have ld:=nX (ps:=ps) (fm:=.own) (.inr rfl) O n1 (by omega)
 have fi:=mG (f:=.frz) (ps:=ps) (r:=n - 1 - r) (.inl rfl) n1 (by omega) (by omega)
 have gi:=qx (f:=.frz) (ps:=ps) (r:=n - 1 - r) (.inl rfl) n1 (by omega) (by omega)
 have hc:∀x2,a_ [] 1 (cF (mUn (dO 0 4) (ac 1))) (tgN 0) cu (mOp gc (mC (.int (9))) (ac 0)) [some (net .frz n ps),some (tdV k n ws pa ms r sp),x2]=.ok (.lst .own (iL (ms.map fun x=>9 - x))):=fun x2 =>
  aV (xs:=iL ms) (by simp[Fl.lend,zR]) (by rw[bB,N.ml];omega) (eF (fun x=>9 - x) ms fun x _=>⟨[some (.int x)],by simp[tgN,aU,bQ,cK],by simp⟩)
 refine az ?_
 show y9 [some (net .frz n ps),some (tdV k n ws pa ms r sp),none]=_
 unfold y9 ot3
 refine af (aw (v:=.int ((n - 1 - r:Nat):Int)) (by simp[Fl.lend,zS,B9];omega) (by simp) rfl) ?_
 simp only[s0_,s1_]
 refine a9 ?_ (by simp[PV.noLnt,PV.has])
 simp only[kD,bt,sE,bN,hc]
 simp[ld,fi,gi,aD,PV.has,Fl.lend,Fl.toBor]
def Ai(T:Td k n ws pa ms r sp):∃O o sp' al ip D,qA [tdV k n ws pa ms r sp]=.ok O/\KR O o n sp' al ip D/\(∃M mo,Mx o n sp' al ip D M mo)/\al=decide (3<=k):=by
 have n1:=T.n1
 have n7:=T.n7
 have k6:=T.k6
 have rn:=T.rn
 have sn:=T.sn
 have Gd:=T.wh.good (by omega)
 have hin:=Ba (fl:=.own) Gd n1 (by omega) (.inl rfl) fun S h0 hc=>Bx T.wh (by omega) S h0 hc
 have rg:∀x∈cP (ws.map mm),0<=x.1/\x.1 < n/\0<=x.2/\x.2 < n/\x.1≠x.2:=fun x hx=>by
  obtain⟨w,hw,rfl⟩:=List.mem_map.mp ((c9 _).mem_iff.mp hx)
  have:=Gd.rg w hw
  simp only[mm]
  omega
 have hl:∀i,(nbL (cP (ws.map mm)) i).length<=1000:=fun i=>by
  unfold nbL
  rw[(fB _).length_eq,List.length_append,List.length_map,List.length_map]
  have h1:=List.length_filter_le (fun x:Int×Int=>decide (x.2=(i:Int))) (cP (ws.map mm))
  have h2:=List.length_filter_le (fun x:Int×Int=>decide (x.1=(i:Int))) (cP (ws.map mm))
  have h3:(cP (ws.map mm)).length < 64:=by rw[(c9 _).length_eq,List.length_map];exact Gd.sz
  omega
 generalize cP (ws.map mm)=ps at *
 have hnb:∀i:Nat,∀x∈nbL ps i,0<=x/\x < n:=fun i x hx=>by
  rcases oS.mp hx with q | q
  ·have:=rg _ q;omega
  ·have:=rg _ q;omega
 have np:(0:Int) < n:=by omega
 have run:∀O,qR [some (tdV k n ws pa ms r sp),none,none,none,none]=.ret O->qA [tdV k n ws pa ms r sp]=.ok O:=fun O h=>az h
 have e0:pEq (.str (kiS k)) (.str "pass")=.ok (.bl (decide (k=0))):=by
  have:k=0\/k=1\/k=2\/k=3\/k=4\/k=5:=by omega
  rcases this with rfl | rfl | rfl | rfl | rfl | rfl<;>exact oR (by decide +kernel)
 have e2:pEq (.str (kiS k)) (.str "count")=.ok (.bl (decide (k=2))):=by
  have:k=0\/k=1\/k=2\/k=3\/k=4\/k=5:=by omega
  rcases this with rfl | rfl | rfl | rfl | rfl | rfl<;>exact oR (by decide +kernel)
 have s1:=aw (i:=1) (m:=mUn (dO 0 0) (ac 0)) (env:=[some (tdV k n ws pa ms r sp),none,none,none,none]) (v:=.str (kiS k)) (by simp[Fl.lend,Ft]) (by simp[PV.noLnt,PV.has]) rfl
 simp only[s0_,s1_]at s1
 by_cases k0:k=0
 ·have n2:=T.p2 k0
  have pi:=wF (size:=(n:Int)) (span:=sp) (by omega) (by omega) (by omega)
  rw[decide_eq_true k0]at e0
  refine⟨hZ .own n sp,hZ .bor n sp,_,_,_,_,run _ ?_,⟨by simp[PV.has],by simp[PV.noLnt,PV.has],by simp[Fl.lend,Fl.toBor],by simp[Fl.borrow],by simp[ao,aW],by simp[ao,aW],tf (by omega) (by omega) (by omega)⟩,AV (by omega) (by omega) (by omega),by simp[k0]⟩
  unfold qR
  exact af s1 (gG (jz (by simp[e0,PV.mapF]) (a9 (by simp[Fl.lend,zS,HK,pi,aD,PV.has]) (by simp[PV.noLnt,PV.has]))))
 rw[decide_eq_false k0]at e0
 by_cases k2:k=2
 ·rw[decide_eq_true k2]at e2
  have pl:=T.pl
  have hci:=yR (f:=.own) T.tr (by omega) (.inl rfl)
  have rc:=pT (ps:=pa) (by omega)
  have mc:=xl T.tr (by omega)
  rw[show pa.length+1=n by omega]at rc mc
  refine⟨cnt .own pa,cnt .bor pa,_,_,_,_,run _ ?_,⟨by simp[PV.has],by simp[PV.noLnt,PV.has],by simp[Fl.lend,Fl.toBor],by simp[Fl.borrow],by simp[ao,aW];omega,by simp[ao,aW],rc⟩,mc,by simp[k2]⟩
  unfold qR
  exact af s1 (af (ce (by simp[e0,PV.mapF]) aI) (gG (jz (by simp[e2,PV.mapF]) (a9 (by simp[Fl.lend,HL,p1,bT,aL,hci,aD,PV.has]) (by simp[PV.noLnt,PV.has])))))
 rw[decide_eq_false k2]at e2
 have oth:=uT (ps:=ps) T
 have N:=T.nm
 have pi:=uK (n:=n) (ps:=ps)
 have fi:=mG (f:=.frz) (ps:=ps) (r:=r) (.inl rfl) n1 (by omega) rn
 have li:=nX (ps:=ps) (fm:=.own) (.inr rfl) N n1 (by omega)
 have gi:=qx (f:=.frz) (ps:=ps) (r:=r) (.inl rfl) n1 (by omega) rn
 have ohas:∀p:Fl->Bool,p .own=false->p .frz=false->hasL p (ot3 n ps ms (n - 1 - r))=false:=fun p h1 h2=>by simp[ot3,PV.has,h1,h2]
 have ob:=ohas Fl.isBor rfl rfl
 have ol:=ohas Fl.isLnt rfl rfl
 obtain⟨F3,hF3⟩:∃F3,F3=mapL Fl.freeze (ot3 n ps ms (n - 1 - r)):=⟨_,rfl⟩
 have F3l:F3.length=3:=by rw[hF3];simp[ot3]
 have F3m:∀g:Fl->Fl,g .frz=.frz->mapL g F3=F3:=fun g hg=>by rw[hF3];simp[ot3,hg,Fl.freeze]
 have F3h:hasL Fl.isLnt F3=false:=by rw[hF3];simp[ot3,PV.has,Fl.freeze]
 have so:∀x3 x4,aS 3 (aq (aQ n8) (ae (ac 2) (ae (ac 0) am))) [some (tdV k n ws pa ms r sp),some (.str (kiS k)),some (net .frz n ps),x3,x4]=.next [some (tdV k n ws pa ms r sp),some (.str (kiS k)),some (net .frz n ps),some (.lst .own (ot3 n ps ms (n - 1 - r))),x4]:=fun x3 x4=>aw (v:=.lst .own (ot3 n ps ms (n - 1 - r))) (by simp[Fl.lend,Fl.toBor,oth,aD,PV.has,ob]) (by simp[PV.noLnt,PV.has,ol]) rfl
 obtain⟨R3,hR3,R3f⟩:∃R3:List PV,mBr (aA (mOp pEq (mOp ef (mOp aO (mUn (dO 0 4) (ac 0)) (mC (.int (0)))) (mC (.int (2)))) (mC (.int (1))))) (aS 3 (aq (aQ n8) (ae (ac 2) (ae (ac 0) am)))) aZ [some (tdV k n ws pa ms r sp),some (.str (kiS k)),some (net .frz n ps),some (.lst .own []),none]=.next [some (tdV k n ws pa ms r sp),some (.str (kiS k)),some (net .frz n ps),some (.lst .own R3),none]/\(mapL Fl.freeze R3=F3\/mapL Fl.freeze R3=[]):=by
  have g0:aO (.lst .frz (iL ms)) (.int 0)=.ok (.int (gt ms 0)):=cL (by omega) (by have:=N.ml;omega)
  by_cases q:gt ms 0 % 2=1
  ·exact⟨ot3 n ps ms (n - 1 - r),jz (by simp[zR,g0,bW,q]) (so _ _),.inl hF3.symm⟩
  ·exact⟨[],ce (by simp[zR,g0,bW,q]) aI,.inr rfl⟩
 have Q3:(mapL Fl.freeze R3).length<=3/\(∀g:Fl->Fl,g .frz=.frz->mapL g (mapL Fl.freeze R3)=mapL Fl.freeze R3)/\hasL Fl.isLnt (mapL Fl.freeze R3)=false:=by
  rcases R3f with e | e<;>rw[e]
  ·exact⟨by omega,F3m,F3h⟩
  ·exact⟨by simp,fun g _=>by simp,by simp⟩
 clear R3f
 obtain⟨q1,q2,q3⟩:=Q3
 generalize hE3:mapL Fl.freeze R3=E3 at q1 q2 q3
 have q2l:=q2 Fl.lend rfl
 have q2f:=q2 Fl.freeze rfl
 have f3l:=F3m Fl.lend rfl
 have key:∀(j:Nat) (v:PV),(∀x3 x4,je iz (fg (ae (mC (.str "paint")) (ae (mC (.str "far")) (ae (mC (.str "lead")) (ae (mC (.str "grow")) am))))) (ac 1) [some (tdV k n ws pa ms r sp),some (.str (kiS k)),some (net .frz n ps),x3,x4]=.ok (.int (j:Int)))->[pnt .frz n ps,lea .frz 5 n ps (fs n r) n n,lea .frz 6 n ps (ls n ms) n (10 * n),gro .frz n ps r][j]?=some v->v.has Fl.isOwn=false->v.noLnt=true->qA [tdV k n ws pa ms r sp]=.ok v:=fun j v hj hv h1 h2=>by
  refine run v ?_
  unfold qR
  refine af s1 (af (ce (by simp[e0,PV.mapF]) aI) (af (ce (by simp[e2,PV.mapF]) aI) (af (aw (v:=net .own n ps) (by simp[zS,HM,p1,bT,aL,hin,aD,PV.has]) (by simp[PV.noLnt,PV.has]) rfl) (af (cM (v:=net .own n ps) rfl) ?_))))
  have efn:(net .own n ps).mapF Fl.freeze=net .frz n ps:=by simp[Fl.freeze]
  simp only[s0_,s1_,efn]
  refine af (aw (v:=.lst .own []) (by simp) (by simp) rfl) (af hR3 ?_)
  refine af (aw (v:=.lst .own [pnt .own n ps,lea .own 5 n ps (fs n r) n n]) ?_ (by simp[PV.noLnt,PV.has]) rfl) ?_
  ·simp only[kD,bt,sE,bN]
   simp[Fl.lend,Fl.toBor,B9,pi,fi,aD,PV.has]
  simp only[s0_,s1_]
  refine af (cM (v:=.lst .own [pnt .own n ps,lea .own 5 n ps (fs n r) n n]) rfl) (af (cM (v:=.lst .own R3) rfl) ?_)
  have ef4:(PV.lst .own [pnt .own n ps,lea .own 5 n ps (fs n r) n n]).mapF Fl.freeze=.lst .frz [pnt .frz n ps,lea .frz 5 n ps (fs n r) n n]:=by simp[Fl.freeze]
  have ef3:∀R:List PV,(PV.lst .own R).mapF Fl.freeze=.lst .frz (mapL Fl.freeze R):=fun R=>by simp[PV.mapF,Fl.freeze]
  simp only[s0_,s1_,ef4,ef3,hE3]
  refine af (aw (v:=.lst .own (pnt .frz n ps::lea .frz 5 n ps (fs n r) n n::lea .own 6 n ps (ls n ms) n (10 * n)::gro .own n ps r::E3)) ?_ (by simp[PV.noLnt,PV.has,q3]) rfl) ?_
  ·simp only[d9,kD,bt,sE,bN,bH,List.getElem?_cons_zero,List.getElem?_cons_succ]
   simp[Fl.lend,Fl.toBor,B9,zR,p1,bT,aL,li,gi,aD,PV.has,PV.mapF,q2l]
   rw[f_ (by decide) (by decide) (by simp)]
   simp only[Res.ok_bind]
   rw[f_ (by decide) (by decide) (by simp;omega)]
   rfl
  simp only[s0_,s1_]
  refine af (cM (v:=.lst .own (pnt .frz n ps::lea .frz 5 n ps (fs n r) n n::lea .own 6 n ps (ls n ms) n (10 * n)::gro .own n ps r::E3)) rfl) ?_
  have ef5:mapL Fl.freeze (pnt .frz n ps::lea .frz 5 n ps (fs n r) n n::lea .own 6 n ps (ls n ms) n (10 * n)::gro .own n ps r::E3)=pnt .frz n ps::lea .frz 5 n ps (fs n r) n n::lea .frz 6 n ps (ls n ms) n (10 * n)::gro .frz n ps r::E3:=by simp[Fl.freeze,q2f]
  simp only[s0_,s1_,ef3,ef5]
  refine af (so _ _) (af (cM (v:=.lst .own (ot3 n ps ms (n - 1 - r))) rfl) ?_)
  simp only[s0_,s1_,ef3,<- hF3]
  refine a9 ?_ h2
  simp only[d9,hj]
  simp only[bH,List.getElem?_cons_zero,List.getElem?_cons_succ,cB,Res.ok_bind]
  simp[Fl.lend,PV.mapF,q2l,f3l]
  rw[f_ (by decide) (by decide) (by simp;omega)]
  simp only[Res.ok_bind]
  refine iM (k:=j) rfl ?_ h1
  have j4:j < 4:=(List.getElem?_eq_some_iff.mp hv).1
  rw[<- hv]
  have:j=0\/j=1\/j=2\/j=3:=by omega
  rcases this with rfl | rfl | rfl | rfl<;>rfl
 have ix:∀(j:Nat),isI (je iz (fg (ae (mC (.str "paint")) (ae (mC (.str "far")) (ae (mC (.str "lead")) (ae (mC (.str "grow")) am))))) (mC (.str (kiS k))) []) j=true->∀x3 x4,je iz (fg (ae (mC (.str "paint")) (ae (mC (.str "far")) (ae (mC (.str "lead")) (ae (mC (.str "grow")) am))))) (ac 1) [some (tdV k n ws pa ms r sp),some (.str (kiS k)),some (net .frz n ps),x3,x4]=.ok (.int (j:Int)):=fun j hj x3 x4=>Dy hj
 have:k=1\/k=3\/k=4\/k=5:=by omega
 rcases this with rfl | rfl | rfl | rfl
 ·exact⟨pnt .frz n ps,pnt .frz n ps,_,_,_,_,key 0 _ (ix 0 (by decide +kernel)) rfl (by simp[PV.has,Fl.isOwn]) (by simp[PV.noLnt,PV.has]),⟨by simp[PV.has],by simp[PV.noLnt,PV.has],by simp,by simp,by simp[ao,aW],by simp[ao,aW],pS n1 (by omega) rg hl⟩,xk n1 (by omega) rg hl,rfl⟩
 ·exact⟨lea .frz 5 n ps (fs n r) n n,lea .frz 5 n ps (fs n r) n n,_,_,_,_,key 1 _ (ix 1 (by decide +kernel)) rfl (by simp[PV.has,Fl.isOwn]) (by simp[PV.noLnt,PV.has]),⟨by simp[PV.has],by simp[PV.noLnt,PV.has],by simp,by simp,by simp[ao,aW],by simp[ao,aW],jJ (.inl rfl) n1 (by omega) np (by omega) (mF n1) (by simp[fs]) hnb hl⟩,qg (.inl rfl) n1 (by omega) np (by omega) (mF n1) (by simp[fs]) hnb hl,rfl⟩
 ·refine⟨lea .frz 6 n ps (ls n ms) n (10 * n),lea .frz 6 n ps (ls n ms) n (10 * n),_,_,_,_,key 2 _ (ix 2 (by decide +kernel)) rfl (by simp[PV.has,Fl.isOwn]) (by simp[PV.noLnt,PV.has]),⟨by simp[PV.has],by simp[PV.noLnt,PV.has],by simp,by simp,by simp[ao,aW],by simp[ao,aW],jJ (.inr rfl) n1 (by omega) np (by omega) (xK N n1) (by simp[ls,N.ml]) hnb hl⟩,?_,rfl⟩
  have:=qg (cc:=6) (T:=10 * n) (os:=ls n ms) (st:=n) (.inr rfl) n1 (by omega) np (by omega) (by simpa using xK N n1) (by simp[ls,N.ml]) hnb hl
  rwa [show((10 * n:Nat):Int)=10 * (n:Int) by omega]at this
 ·exact⟨gro .frz n ps r,gro .frz n ps r,_,_,_,_,key 3 _ (ix 3 (by decide +kernel)) rfl (by simp[PV.has,Fl.isOwn]) (by simp[PV.noLnt,PV.has]),⟨by simp[PV.has],by simp[PV.noLnt,PV.has],by simp,by simp,by simp[ao,aW],by simp[ao,aW],Am n1 (by omega) hnb fun i=>hl i⟩,AW n1 (by omega) rn hnb hl,rfl⟩
end
def Ao(fl:Fl)(ns:List Int)(h:Scr fl)(hn:n<=20):∃rs:List Int,yx [.lst fl (iL ns),.int n]=.ok (.lst .own (iL rs))/\rs.length=n:=by
 have p59:uQ (.int 10) (.int 59)=.ok (.int 100000000000000000000000000000000000000000000000000000000000):=by rfl
 have m2:dG (.int 2) (.int 100000000000000000000000000000000000000000000000000000000000)=.ok (.int 200000000000000000000000000000000000000000000000000000000000):=by rfl
 have mm:∀x:Int,ef (.int x) (.int 200000000000000000000000000000000000000000000000000000000000)=.ok (.int (x % 200000000000000000000000000000000000000000000000000000000000)):=fun x=>bW (by decide)
 refine⟨(List.range n).map fun i:Nat=>cell ns (4+i) % 200000000000000000000000000000000000000000000000000000000000 - 100000000000000000000000000000000000000000000000000000000000,az ?_,by simp⟩
 show zv [some (.lst fl (iL ns)),some (.int n)]=_
 unfold zv
 refine a9 ?_ (by simp)
 refine aV (xs:=cX 0 n) (bP (n:=n) (by simp) (by omega)) (by rw[bp];omega) (kH 0 (fun i:Nat=>cell ns (4+i) % 200000000000000000000000000000000000000000000000000000000000 - 100000000000000000000000000000000000000000000000000000000000) n fun k hk=>⟨[some (.lst fl.borrow (iL ns)),some (.int (0+k))],by simp[tgN,aU,bQ,PV.borrow,cK],?_⟩)
 have c:=ui ns (4+k) h
 rw[show((4+k:Nat):Int)=4+(k:Int) by omega]at c
 simp only[d9,cw,bt,bN,bH,j_,List.getElem?_cons_zero,List.getElem?_cons_succ]
 simp[h.borrow,h.lend,h.toBor,c,aD,p59,m2,mm]
def vQ(fl:Fl)(ns:List Int)(h:Scr fl)(hl:ns.length<=63)(al:Bool)(n1:1<=n)(n20:n<=20):∃(tns:List (List Int)) (V:PV),yg [.lst fl (iL ns),.int n,.bl al]=.ok V/\V.has Fl.isBor=false/\V.noLnt=true/\V.mapF Fl.freeze=.lst .frz (llL .frz tns)/\tns.length<=63/\∀nm∈tns,gA n al nm:=by
 have np:(0:Int) < n:=by omega
 suffices hh:ke (y7 [some (.lst fl (iL ns)),some (.int n),some (.bl al),none,none,none]) (fun v=>∃(tns:List (List Int)) (g:Fl),v=.lst .own (llL g tns)/\(g=.own\/g=.frz)/\tns.length<=63/\∀nm∈tns,gA n al nm) by
  obtain⟨v,h1,tns,g,rfl,h2,h3,h4⟩:=hh
  refine⟨tns,_,az h1,?_,?_,?_,h3,h4⟩
  ·have:=gq tns Fl.isBor g (by rcases h2 with rfl | rfl<;>rfl)
   simp[PV.has,this]
  ·have:=gq tns Fl.isLnt g (by rcases h2 with rfl | rfl<;>rfl)
   simp[PV.noLnt,PV.has,this]
  ·rcases h2 with rfl | rfl<;>simp[Fl.freeze]
 unfold y7
 refine dX (aw (v:=.lst .own []) (by simp) (by simp) rfl) ?_
 simp only[s0_,s1_]
 have ec:kb (iL ns) (some 4) (some 204)=iL ((ns.take 204).drop 4):=Ed ns 4 204 rfl rfl
 have zl:((ns.take 204).drop 4).length<=63:=by simp;omega
 generalize(ns.take 204).drop 4=zs at *
 obtain⟨g,hg⟩:∃g:Fl,g=if al then .own else .frz:=⟨_,rfl⟩
 have gg:g=.own\/g=.frz:=by cases al<;>simp[hg]
 refine jK (fun k e=>∃tns x4 x5,e=[some (.lst fl (iL ns)),some (.int n),some (.bl al),some (.lst .own (llL g tns)),x4,x5]/\tns.length=k/\∀nm∈tns,gA n al nm) (xs:=iL zs) ?_ ⟨[],none,none,rfl,rfl,fun nm h=>by simp at h⟩ (fun k x e hx hP=>?_) (fun e hP=>?_)
 ·refine eM (f:=.own) ?_ rfl (by simp) (by simp)
  simp only[iO,j9,bH,j_,List.getElem?_cons_zero]
  simp[h.lend,ec]
 ·obtain⟨tns,x4,x5,rfl,t1,t2⟩:=hP
  obtain⟨z,hz,rfl⟩:=mB hx
  have kl:k < zs.length:=(List.getElem?_eq_some_iff.mp hz).1
  refine⟨_,dq rfl,?_⟩
  simp only[s0_,s1_]
  have fin:∀nm:List Int,gA n al nm->∀m∈tns++[nm],gA n al m:=fun nm gn m hm=>by
   rcases List.mem_append.mp hm with hm | hm
   ·exact t2 m hm
   ·rw[List.mem_singleton.mp hm];exact gn
  cases al with
  | true =>
   have hg':g=.own:=hg
   subst hg'
   have d5:fN (.int z) (.int 5)=.ok (.int (z / 5)):=gX (by decide) (by decide)
   have b1:=Int.emod_nonneg (z / 5) (show(n:Int)≠ 0 by omega)
   have b2:=Int.emod_lt_of_pos (z / 5) np
   exact bC (jz (by simp) (fv (v:=.lst .own (iL [z / 5 % n])) (xs:=llL .own tns) (by simp[d5,bW np]) rfl (by simp) (by rw[lg];omega))) ⟨tns++[[z / 5 % n]],some (.int z),x5,by simp[llL],by simp[t1],fin _ ⟨by simp,fun x hx=>by simp at hx;omega,fun _=>by simp,by simp⟩⟩
  | false =>
   have hg':g=.frz:=hg
   subst hg'
   obtain⟨row,hrow⟩:∃row:List Int,row=((List.range n).filter fun k:Nat=>decide (Builtin.bitAnd (z / 2 ^ k) 1=1)).map fun k:Nat=>(k:Int):=⟨_,rfl⟩
   have rln:row.length<=n:=by rw[hrow,List.length_map];exact mH
   have gr:gA n false row:=by
    refine⟨?_,fun x hx=>?_,fun q=>by simp at q,by omega⟩
    ·rw[hrow];exact List.Pairwise.map _ (fun a b h e=>h (by omega)) (List.nodup_range.filter _)
    ·rw[hrow]at hx
     obtain⟨k,hk,rfl⟩:=List.mem_map.mp hx
     have:=List.mem_range.mp (List.mem_filter.mp hk).1
     omega
   refine n5 (by simp) (bq (aw (v:=.lst .own (iL row)) ?_ (by simp) rfl) ?_)
   ·rw[hrow]
    refine aV (xs:=cX 0 n) (bP (n:=n) (by simp) (by omega)) (by rw[bp];omega) (gY (fun k:Nat=>decide (Builtin.bitAnd (z / 2 ^ k) 1=1)) (fun k=>(k:Int)) n fun k hk=>⟨[some (.int z),some (.int (0+k))],by simp[tgN,aU,bQ,PV.borrow,cK],by simp[CP,fE,wT,di],fun _=>by simp⟩)
   simp only[s0_,s1_]
   have d128:fN (.int z) (.int 128)=.ok (.int (z / 128)):=gX (by decide) (by decide)
   obtain⟨nm,s1,gn⟩:∃nm:List Int,mBr (aA (mOp pEq (mOp ef (mOp fN (ac 4) (mC (.int (128)))) (mC (.int (2)))) (mC (.int (1))))) (iF 5) aZ [some (.lst fl (iL ns)),some (.int n),some (.bl false),some (.lst .own (llL .frz tns)),some (.int z),some (.lst .own (iL row))]=.next [some (.lst fl (iL ns)),some (.int n),some (.bl false),some (.lst .own (llL .frz tns)),some (.int z),some (.lst .own (iL nm))]/\gA n false nm:=by
    by_cases q:z / 128 % 2=1
    ·refine⟨row.reverse,jz (by simp[d128,bW,q]) ?_,(List.reverse_perm row).symm.nodup gr.1,fun x hx=>gr.2.1 x (List.mem_reverse.mp hx),fun z=>by simp at z,by rw[List.length_reverse];exact gr.2.2.2⟩
     unfold iF
     have e:(iL row).reverse=iL row.reverse:=by simp[iL]
     simp[eC,e]
    ·exact⟨row,ce (by simp[d128,bW,q]) aI,gr⟩
   refine bq s1 (bq (cM (v:=.lst .own (iL nm)) rfl) ?_)
   have efn:(PV.lst .own (iL nm)).mapF Fl.freeze=.lst .frz (iL nm):=by simp[Fl.freeze]
   simp only[s0_,s1_,efn]
   exact bC (fv (v:=.lst .frz (iL nm)) (xs:=llL .frz tns) (by simp[Fl.lend]) rfl (by simp) (by rw[lg];omega)) ⟨tns++[nm],some (.int z),some (.lst .frz (iL nm)),by simp[llL],by simp[t1],fin nm gn⟩
 ·obtain⟨tns,x4,x5,rfl,t1,t2⟩:=hP
  rw[bB]at t1
  exact fk (fD rfl) ⟨tns,g,rfl,gg,by omega,t2⟩
section
variable{o:PV}{n:Nat}{sp:Int}{al ip:Bool}{D:List Int->Nat->Int}{cs nm:List Int}
def rY:(mvR n D cs).Pairwise (· < ·):=List.Pairwise.map _ (fun a b h=>by omega) (List.pairwise_lt_range.filter _)
def mQ:(dnR n D cs nm).Pairwise (· < ·):=rY.filter _
def v5(h:l.Pairwise (· < ·)):jb l=l:=(lH (.refl l) (h.imp fun h=>by omega)).symm
def vB{i:Int}(h:l.Pairwise (· < ·))(hi:i∈l)(f:Fl):jo (.lst f (iL l)) (.int i)=.ok (.int 1):=by
 have nd:l.Nodup:=h.imp fun h=>by omega
 have e:(iL l).countP (eqD (.int i))=1:=by
  unfold iL
  rw[List.countP_map,show(eqD (.int i) ∘ PV.int)=(·==i)from funext fun x=>by simp[eqD,PV.data,PyData.eqv,Function.comp]]
  rw[<- List.count,List.Nodup.count nd,if_pos hi]
 unfold jo
 simp only[]
 rw[if_pos,e]
 ·rfl
 ·simp[iL,shp,smp,SeqAt.shaped,PV.data,PyData.canLay0,PyData.depth]
def ka:a∈dnR n D cs nm↔∃i:Nat,i < n/\a=i/\D cs i≠gt cs i/\nm.contains a=true:=by
 unfold dnR mvR
 simp only[List.mem_filter,List.mem_map,List.mem_range,decide_eq_true_eq]
 constructor
 ·rintro⟨⟨i,⟨h1,h2⟩,rfl⟩,h3⟩
  exact⟨i,h1,rfl,h2,h3⟩
 ·rintro⟨i,h1,rfl,h2,h3⟩
  exact⟨⟨i,⟨h1,h2⟩,rfl⟩,h3⟩
def zK{fn:Fl}(hc:Fc fc)(hfn:Fc fn)(hn:cs.length=n)(n20:n<=20):yC [.lst fc (iL cs),.lst fn (iL nm),cm .frz (dnR n D cs nm,stR n D cs nm),.int n]=.ok (.bl true):=by
 have sl:(stR n D cs nm).length=n:=by simp[stR]
 have dl:(dnR n D cs nm).length<=n:=Nat.le_trans (List.length_filter_le _ _) lc
 have i0:aO (cm .frz (dnR n D cs nm,stR n D cs nm)) (.int 0)=.ok (.lst .frz (iL (dnR n D cs nm))):=iM (k:=0) rfl rfl (by simp)
 have i1:aO (cm .frz (dnR n D cs nm,stR n D cs nm)) (.int 1)=.ok (.lst .frz (iL (stR n D cs nm))):=iM (k:=1) rfl rfl (by simp)
 have ml:(cm .frz (dnR n D cs nm,stR n D cs nm)).mapF Fl.lend=cm .frz (dnR n D cs nm,stR n D cs nm):=by simp[cm,Fl.lend]
 have sq:aL (cm .frz (dnR n D cs nm,stR n D cs nm))=some [.lst .frz (iL (dnR n D cs nm)),.lst .frz (iL (stR n D cs nm))]:=rfl
 have it:lS "tuple" (cm .frz (dnR n D cs nm,stR n D cs nm))=.ok (.bl true):=rfl
 have il:∀l:List Int,lS "list" (.lst .frz (iL l))=.ok (.bl true):=fun l=>rfl
 refine az ?_
 show zD [some (.lst fc (iL cs)),some (.lst fn (iL nm)),some (cm .frz (dnR n D cs nm,stR n D cs nm)),some (.int n),none]=_
 unfold zD
 generalize cm .frz (dnR n D cs nm,stR n D cs nm)=R at *
 refine af (ce (by simp[lC,ml,it,il,i0,i1,p1,bU,sq]) aI) ?_
 have so:=nG (f:=.frz) (dnR n D cs nm) (by omega)
 rw[v5 mQ]at so
 refine af (ce (by simp[ml,i0,i1,p1,bU,aL,sl,so]) aI) ?_
 refine iV (fun k e=>∃x,e=[some (.lst fc (iL cs)),some (.lst fn (iL nm)),some R,some (.int n),x]) (xs:=iL (dnR n D cs nm)) (eM (f:=.frz) (by simp[ml,i0]) rfl (by simp) (by simp)) ⟨_,rfl⟩ (fun k x e hx hP=>?_) (fun e hP=>?_)
 ·obtain⟨x4,rfl⟩:=hP
  obtain⟨z,hz,rfl⟩:=mB hx
  have zm:=List.mem_of_getElem? hz
  obtain⟨i,hi,rfl,_,hm⟩:=ka.mp zm
  have ct:=vB mQ zm .frz
  refine⟨_,dq rfl,bC (ce ?_ aI) ⟨_,rfl⟩⟩
  simp at hm
  simp[jD,aD,hfn.le,hm,je,ml,i0,ct]
 obtain⟨x4,rfl⟩:=hP
 refine iV (fun k e=>∃x,e=[some (.lst fc (iL cs)),some (.lst fn (iL nm)),some R,some (.int n),x]) (bP (n:=n) (by simp) (by omega)) ⟨_,rfl⟩ (fun k x e hx hP=>?_) (fun e hP=>?_)
 ·obtain⟨x4,rfl⟩:=hP
  obtain⟨hk,rfl⟩:=dW hx
  have g1:aO (.lst .frz (iL (stR n D cs nm))) (.int (k:Int))=.ok (.int (gt (stR n D cs nm) k)):=by simpa using cL (f:=.frz) (cs:=stR n D cs nm) (i:=k) (by omega) (by omega)
  have g2:aO (.lst fc (iL cs)) (.int (k:Int))=.ok (.int (gt cs k)):=by simpa using cL (f:=fc) (cs:=cs) (i:=k) (by omega) (by omega)
  have ee:decide (gt (stR n D cs nm) k=gt cs k)=!decide ((k:Int)∈ dnR n D cs nm):=by
   rw[fU hk]
   by_cases q:nm.contains (k:Int)=true
   ·rw[if_pos q]
    by_cases z:D cs k=gt cs k
    ·have:¬(k:Int)∈ dnR n D cs nm:=fun w=>by
      obtain⟨i,_,e,h,_⟩:=ka.mp w
      rw[show i=k by omega]at h
      exact h z
     simp[z,this]
    ·have:(k:Int)∈ dnR n D cs nm:=ka.mpr ⟨k,hk,rfl,z,q⟩
     simp[z,this]
   ·rw[if_neg q]
    have:¬(k:Int)∈ dnR n D cs nm:=fun w=>by
     obtain⟨i,_,e,_,h⟩:=ka.mp w
     exact q h
    simp[this]
  refine⟨_,dq rfl,bC (ce ?_ aI) ⟨_,rfl⟩⟩
  simp[jD,aD,hc.le,ml,i0,i1,g1,g2,ee]
 obtain⟨x4,rfl⟩:=hP
 exact a9 (by simp) (by simp)
end
def iC{d:Nat->Option (List PV->Res PV)}{r:Res (List PV)}{x:PV}(h:x.mapF Fl.toBor=o)(ho:o.mapF Fl.toBor=o):h8 d r x=h8 d r o:=by
 subst h
 cases x with
 | obj f c ks vs =>
  rw[PV.mapF]at ho ⊢
  unfold h8
  dsimp only
  cases d c with
  | none=>rfl
  | some m =>
   cases r with
   | ok xs=>simp only[Res.ok_bind,yS,u7,ho];rfl
   | exc c | stuck=>rfl
 | _=>first | rfl | simp[PV.mapF,h8]
def sN:∀{tns:List (List Int)}{rows:List (List Int×List Int)}{j:Nat}{x:PV},(e9 (llL .frz tns) (rows.map (cm .frz)))[j]?=some x->∃nm rw,tns[j]?=some nm/\rows[j]?=some rw/\x=.tup [.lst .frz (iL nm),cm .frz rw]
 | [],_,_,_,h=>by simp[e9]at h
 | _::_,[],_,_,h=>by simp[e9,llL]at h
 | nm::tns,rw::rows,0,x,h=>by
  simp[e9,llL]at h
  exact⟨nm,rw,rfl,rfl,h.symm⟩
 | nm::tns,rw::rows,j+1,x,h=>by
  obtain⟨a,b,h1,h2,h3⟩:=sN (tns:=tns) (rows:=rows) (j:=j) (x:=x) (by simpa[e9,llL]using h)
  exact⟨a,b,by simpa using h1,by simpa using h2,h3⟩
def D_(l:List Int):pEq (.lst .own (iL l)) (.lst .own [])=.ok (.bl (decide (l=[]))):=Bo l [] _ _
def DB(l:List Int):pNe (.lst .frz (iL l)) (.lst .own [])=.ok (.bl (!decide (l=[]))):=tQ l [] _ _
def law_true(fl:Fl)(ns:List Int)(h:Scr fl)(hl:ns.length<=63):B1 [.lst fl (ns.map .int)]=.ok (.bl true):=by
 rw[xT]
 obtain⟨k,n,ws,pa,ms,r,sp0,htd,T⟩:=zP fl ns h
 obtain⟨O,o,sp,al,ip,D,hru,K,⟨M,mo,mx⟩,eal⟩:=Ai T
 have n1:=T.n1
 have n7:=T.n7
 obtain⟨rs,hrs,rl⟩:=Ao fl ns h (n:=n) (by omega)
 obtain⟨tns,V,htn,V1,V2,V3,tl,tg⟩:=vQ fl ns h hl al n1 (show n<=20 by omega)
 have tdb:(tdV k n ws pa ms r sp0).has Fl.isBor=false:=vU _ rfl
 have tdl:(tdV k n ws pa ms r sp0).noLnt=true:=by simp[PV.noLnt,vU Fl.isLnt rfl]
 have ekd:pIn (.str (kiS k)) (.lst .own [.str "far", .str "lead", .str "grow"])=.ok (.bl al):=by
  have k6:=T.k6
  rw[eal]
  have:k=0\/k=1\/k=2\/k=3\/k=4\/k=5:=by omega
  rcases this with rfl | rfl | rfl | rfl | rfl | rfl<;>exact oR (by decide +kernel)
 refine az (v:=.bl true) ?_
 show zF [some (.lst fl (iL ns)),none,none,none,none,none,none,none,none,none,none,none,none,none]=_
 unfold zF
 refine af (aw (v:=tdV k n ws pa ms r sp0) (by simp[h.lend,h.toBor,htd,aD,tdb]) tdl rfl) ?_
 simp only[s0_,s1_]
 refine af (aw (v:=.int n) (by simp[zS]) (by simp) rfl) ?_
 simp only[s0_,s1_]
 refine af (aw (v:=O) (by simp[hru,aD,K.own]) K.nl rfl) ?_
 simp only[s0_,s1_]
 refine af (aw (v:=.lst .own (iL rs)) (by simp[h.lend,h.toBor,hrs,aD]) (by simp) rfl) ?_
 simp only[s0_,s1_]
 refine af (aw (v:=V) ?_ V2 rfl) ?_
 ·simp only[cw,bt,bN,bH,d9,B2,kD,j_,List.getElem?_cons_zero,List.getElem?_cons_succ,cB,Res.ok_bind,Fs,Ft,ekd]
  simp[h.lend,h.toBor,htn,aD,V1]
 simp only[s0_,s1_]
 refine af (cM (v:=V) rfl) ?_
 simp only[s0_,s1_,V3]
 have ru:=Cq (f:=.own) (ft:=.own) (fi:=.own) (rs:=rs) K.r (.inr rfl) (.inr rfl) rl tg (by omega)
 have rlen:=pR (n:=n) (D:=D) tns (rs.map (· % sp))
 have S0:(rs.map (· % sp)).length=n/\InS sp (rs.map (· % sp)):=⟨by simpa using rl,xA K.r⟩
 have rd:=tq (f:=.own) K.r rl
 generalize rs.map (· % sp)=s0 at *
 obtain⟨rows,hrows⟩:∃rows,rows=im n D s0 tns:=⟨_,rfl⟩
 rw[<- hrows]at ru rlen
 have rb:hasL Fl.isBor (rows.map (cm .own))=false:=jI rfl rows
 have rn:hasL Fl.isLnt (rows.map (cm .own))=false:=jI rfl rows
 refine af (aw (v:=.lst .own (rows.map (cm .own))) ?_ (by simp[PV.noLnt,PV.has,rn]) rfl) ?_
 ·have hc:∀x6,a_ [] 1 (cF (ac 5)) (tgN 0) cu (aq (p1 bT) (ae (ac 0) am)) [some (.lst fl (iL ns)),some (tdV k n ws pa ms r sp0),some (.int n),some O,some (.lst .own (iL rs)),some (.lst .frz (llL .frz tns)),x6,none,none,none,none,none,none,none]=.ok (.lst .own (llL .own tns)):=fun x6=>by
   refine aV (xs:=llL .frz tns) (by simp[Fl.lend]) (by rw[lg];omega) ?_
   exact bL (a:=fun c=>PV.lst .frz (iL c)) (f:=fun c=>PV.lst .own (iL c)) tns fun c hc=>⟨[some (.lst .frz (iL c))],by simp[tgN,aU,bQ,cK,Fl.borrow],by simp[Fl.lend,p1,bT,aL],by simp,by simp⟩
  simp only[cw,bt,bN,hc]
  simp[K.lb,p1,bT,aL,ru,aD,PV.has,rb]
 simp only[s0_,s1_]
 refine af (cM (v:=.lst .own (rows.map (cm .own))) rfl) ?_
 have efr:(PV.lst .own (rows.map (cm .own))).mapF Fl.freeze=.lst .frz (rows.map (cm .frz)):=by simp[Fl.freeze]
 simp only[s0_,s1_,efr]
 refine af (ce (by simp[lC,lS,mf,tyP,Fl.lend,p1,bU,aL,lg,rlen]) aI) ?_
 refine af (aw (v:=.lst .own (iL s0)) ?_ (by simp) rfl) ?_
 ·simp only[iP,bH,bt,bN,cw,List.getElem?_cons_zero,List.getElem?_cons_succ,cB,Res.ok_bind,iC K.lb K.r.tb,K.r.rd]
  simp[p1,bT,aL,K.r.tb,rd,aD]
 simp only[s0_,s1_]
 refine af (aw (v:=.int mo) ?_ (by simp) rfl) ?_
 ·simp only[iP,bH,bN,List.getElem?_cons_zero,List.getElem?_cons_succ,cB,Res.ok_bind,iC K.lb K.r.tb,mx.mq]
 simp only[s0_,s1_]
 have me:∀(cs:List Int),cs.length=n->InS sp cs->h8 aB (.ok [.lst .own (iL cs)]) o=.ok (.int (M cs)):=fun cs h1 h2=>mx.ms.me .own cs (.inr rfl) h1 h2
 have ca:∀(cs:List Int),cs.length=n->InS sp cs->h8 aC (.ok [.lst .own (iL cs)]) o=.ok (.bl (caR n ip D cs)):=fun cs h1 h2=>BA (f:=.own) K.r (.inr rfl) h1 h2
 have mv:∀(cs:List Int),cs.length=n->InS sp cs->gw [o,.lst .own (iL cs)]=.ok (.lst .own (iL (mvR n D cs))):=fun cs h1 h2=>ge (f:=.own) K.r (.inr rfl) h1 h2
 refine af (aw (v:=.int (M s0)) ?_ (by simp) rfl) ?_
 ·simp only[iP,bH,bt,bN,cw,List.getElem?_cons_zero,List.getElem?_cons_succ,cB,Res.ok_bind,iC K.lb K.r.tb]
  simp[p1,bT,aL,me s0 S0.1 S0.2]
 simp only[s0_,s1_]
 have cl:∀{f:Fl}{cs:List Int},Fc f\/f=.own->(PV.lst f (iL cs)).mapF Fl.lend=.lst f.lend (iL cs):=fun _=>by simp
 refine iV (fun k e=>∃cs f x10 x11 x12 x13,e=[some (.lst fl (iL ns)),some (tdV _ n ws pa ms r sp0),some (.int n),some O,some (.lst .own (iL rs)),some (.lst .frz (llL .frz tns)),some (.lst .frz (rows.map (cm .frz))),some (.lst f (iL cs)),some (.int mo),some (.int (M cs)),x10,x11,x12,x13]/\(Fc f\/f=.own)/\cs.length=n/\InS sp cs/\rows.drop k=im n D cs (tns.drop k)) (xs:=e9 (llL .frz tns) (rows.map (cm .frz))) ?_ ⟨s0,.own,none,none,none,none,rfl,.inr rfl,S0.1,S0.2,by simp[hrows]⟩ (fun j x e hx hP=>?_) (fun e hP=>?_)
 ·unfold tV
  simp only[bt,bH,bN,List.getElem?_cons_zero,List.getElem?_cons_succ,cB,Res.ok_bind]
  simp[Fl.lend,eC,gq tns Fl.isOwn .frz rfl,gq tns Fl.isLnt .frz rfl,jI (f:=.frz) (p:=Fl.isOwn) rfl rows,jI (f:=.frz) (p:=Fl.isLnt) rfl rows]
 ·obtain⟨cs,f,x10,x11,x12,x13,rfl,hf,c1,c2,hd⟩:=hP
  obtain⟨nm,rw0,en,er,rfl⟩:=sN hx
  have jt:j < tns.length:=(List.getElem?_eq_some_iff.mp en).1
  have jr:j < rows.length:=by omega
  obtain⟨_,en⟩:=List.getElem?_eq_some_iff.mp en
  obtain⟨_,er⟩:=List.getElem?_eq_some_iff.mp er
  rw[List.drop_eq_getElem_cons jt,List.drop_eq_getElem_cons jr,en,er]at hd
  simp only[im,List.cons.injEq]at hd
  obtain⟨rfl,hd⟩:=hd
  have gn:=tg nm (by rw[<- en];exact List.getElem_mem _)
  obtain⟨s1,s2⟩:=rj K.r c1 c2 nm
  have wo:=zK (D:=D) (nm:=nm) (Fc.call hf) (fn:=.frz) (.inr rfl) c1 (by omega)
  have i0:aO (cm .frz (dnR n D cs nm,stR n D cs nm)) (.int 0)=.ok (.lst .frz (iL (dnR n D cs nm))):=iM (k:=0) rfl rfl (by simp)
  have i1:aO (cm .frz (dnR n D cs nm,stR n D cs nm)) (.int 1)=.ok (.lst .frz (iL (stR n D cs nm))):=iM (k:=1) rfl rfl (by simp)
  have ml:(cm .frz (dnR n D cs nm,stR n D cs nm)).mapF Fl.lend=cm .frz (dnR n D cs nm,stR n D cs nm):=by simp[cm,Fl.lend]
  have mt:(cm .frz (dnR n D cs nm,stR n D cs nm)).mapF Fl.toBor=cm .frz (dnR n D cs nm,stR n D cs nm):=by simp[cm,Fl.toBor]
  have rh:(cm .frz (dnR n D cs nm,stR n D cs nm)).has Fl.isLnt=false:=by simp[cm,PV.has]
  obtain⟨b1,b2⟩:=mx.bd cs c1 c2
  have fa:caR n ip D cs=false->dnR n D cs nm≠[]->M (stR n D cs nm) < M cs:=fun hc hne=>mx.ms.fa cs nm c1 c2 gn hc fun e=>by
   obtain⟨a,ha⟩:=List.exists_mem_of_ne_nil _ hne
   obtain⟨i,hi,rfl,hd,hm⟩:=ka.mp ha
   have:=fU (D:=D) (cs:=cs) (nm:=nm) hi
   rw[e,if_pos hm]at this
   exact hd this.symm
  have mvne:caR n ip D cs=false->mvR n D cs≠[]:=mx.ms.mv cs c1 c2
  have stc:=mx.st cs nm c1 c2
  have m1:=me cs c1 c2
  have m2:=me _ s1 s2
  have a1:=ca cs c1 c2
  have a2:=ca _ s1 s2
  have v1:=mv cs c1 c2
  have hbl:pEq (.lst .own (iL (mvR n D cs))) (.lst .own [])=.ok (.bl (decide (mvR n D cs=[]))):=D_ _
  have hdl:pNe (.lst .frz (iL (dnR n D cs nm))) (.lst .own [])=.ok (.bl (!decide (dnR n D cs nm=[]))):=DB _
  generalize cm .frz (dnR n D cs nm,stR n D cs nm)=R at *
  refine⟨[some (.lst fl (iL ns)),some (tdV k n ws pa ms r sp0),some (.int n),some O,some (.lst .own (iL rs)),some (.lst .frz (llL .frz tns)),some (.lst .frz (rows.map (cm .frz))),some (.lst f (iL cs)),some (.int mo),some (.int (M cs)),some (.lst .frz (iL nm)),some R,x12,x13],by simp[tgT,bO,tgN,g7,aU,cK],?_⟩
  have l1:Fl.lend .frz=.frz:=rfl
  have l2:Fl.toBor .frz=.frz:=rfl
  refine bq (ce (by simp[l1,l2,ml,mt,wo,aD]) aI) ?_
  refine bq (aw (v:=.int (M (stR n D cs nm))) ?_ (by simp) rfl) ?_
  ·simp only[iP,bH,bt,bN,cw,d9,j_,List.getElem?_cons_zero,List.getElem?_cons_succ,cB,Res.ok_bind,iC K.lb K.r.tb,ml,i1]
   simp[p1,bT,aL,m2]
  simp only[s0_,s1_]
  refine bq (ce (by simp[jD,aD,di,b1,b2]) aI) ?_
  refine bq (aw (v:=.bl (caR n ip D cs)) ?_ (by simp) rfl) ?_
  ·simp only[iP,bH,bt,bN,cw,List.getElem?_cons_zero,List.getElem?_cons_succ,cB,Res.ok_bind,iC K.lb K.r.tb]
   simp[p1,bT,aL,a1]
  simp only[s0_,s1_]
  refine bq (ce ?_ aI) ?_
  ·cases hc:caR n ip D cs with
   | true=>simp
   | false =>
    simp only[lq,D8,uc,qD,gT,iP,bH,bt,bN,cw,d9,kD,j_,List.getElem?_cons_zero,List.getElem?_cons_succ,cB,Res.ok_bind,iC K.lb K.r.tb,K.r.mv,ml,i0]
    by_cases q:dnR n D cs nm=[]
    ·have h0:pNe (.lst .frz []) (.lst .own [])=.ok (.bl false):=tQ [] [] _ _
     simp[p1,bT,aL,K.r.tb,v1,aD,hbl,h0,mvne hc,q]
    ·have:=fa hc q
     simp[p1,bT,aL,K.r.tb,v1,aD,hbl,hdl,mvne hc,q]
     omega
  refine bq (ce ?_ aI) ?_
  ·cases hc:caR n ip D cs with
   | false=>simp
   | true =>
    simp only[lq,uc,qD,iP,bH,bt,bN,cw,d9,j_,List.getElem?_cons_zero,List.getElem?_cons_succ,cB,Res.ok_bind,iC K.lb K.r.tb,ml,i1]
    simp[p1,bT,aL,a2,stc hc]
  refine bq (aw (v:=.lst .frz (iL (stR n D cs nm))) (by simp[ml,i1]) (by simp) rfl) ?_
  simp only[s0_,s1_]
  exact bC (aw (v:=.int (M (stR n D cs nm))) (by simp) (by simp) rfl) ⟨stR n D cs nm,.frz,_,_,_,_,rfl,.inl (.inr rfl),s1,s2,hd⟩
 ·obtain⟨cs,f,x10,x11,x12,x13,rfl,hf,c1,c2,hd⟩:=hP
  obtain⟨b1,b2⟩:=mx.bd cs c1 c2
  refine a9 (v:=.bl true) ?_ (by simp)
  simp only[Bm,yF,cw,bt,bN,d9,iP,bH,j_,List.getElem?_cons_zero,List.getElem?_cons_succ,cB,Res.ok_bind,iC K.lb K.r.tb,mx.mq]
  simp[jD,aD,di,b1,b2,AK]
end G
namespace G
open PySem L2 PR
def hb:zI pt.F:=⟨bn2,bn3,bn2,bn1,bn4,bn3,bn1,bn3,bn2,bn2,bn2,bn2,bn2,bn2,bn3,bn1,bn3,bn5,bn3,bn3,bn2,bn3,bn2,bn2,bn1,bn2,bn3,bn2,bn2,bn3,bn2,bn2,bn2,bn3,bn3,bn2,bn3,bn2,bn2,bn2,bn3,bn2,bn3,bn3,bn3,bn3,bn2,bn3,bn3,bn1,bn2,bn1,bn1,bn1,bn1,bn2,bn2,bn2,bn2,bn2,bn2,bn2,bn2,bn1,bn2,bn2,bn1,bn4,bn2,bn2,bn1,trivial⟩
def hs:pt.F.all scB=true:=by decide +kernel
def fin{l:PySem.W.OpenLaw}{w:World}{K:PySem.W.Frag}{mg:Str->Option Value}{fa:Addr}(t:Tx pt K mg)(hfa:mg "law" = some (.ref fa)) :
  ∃fd:FuncData,(∀(s:Shared) (u:Value),BindsTo s fd ⟨[u],[]⟩ [("_law_script", u)])/\∀base:Heap,K.In base->base.Ns mainGlobals mg->dA l.prog w K mg base (CXP l.prog w) 11 fa fd ["_law_script"] (sV K):=by
 have e:=hfa.symm.trans (t.gl 70 rfl)
 cases e
 refine⟨dAt K (pt.fa K 70),fun s u=>?_,fun base hB _=>DF (T:=T K) (Dx t hB) law_true⟩
 obtain⟨oc,od,kV,doc,pm,an,cdv,ct,osl,e,_⟩:=(t.fn 70).ex
 rw[e]
 exact .of_eq rfl
end G
namespace PySem.W.Fast
def tw17101796537015816818:=()
def tw6419909029803987501:=()
def tw11338492235248548721:=()
def tw9078966140730384131:=()
def tw16148157313244388405:=()
def tw6468912864665291110:=()
def tw510315405406631985:=()
def tw18057269869692761001:=()
def tw9977942111214993678:=()
def tw12970473968785142543:=()
def tw4649162723815503027:=()
def tw15640644686608958613:=()
def tw4457329127973404729:=()
def tw14982047835451280474:=()
def tw13697986895471505548:=()
def tw11974217321151509111:=()
def tw17533595956272271762:=()
def tw17193778522036831930:=()
def tw1026866380102087398:=()
def tw5937918175186283036:=()
def tw1818653312232429088:=()
def tw12725154946521278808:=()
def tw11908579475578390991:=()
def tw810237740358879515:=()
def tw3605483241710815867:=()
def tw1575319571651597434:=()
def tw11966978478281722395:=()
def tw11349208926726078928:=()
def tw9125679388352875174:=()
def tw15529562831054282103:=()
def tw7259494507328083609:=()
def tw17674006594519165417:=()
def tw3220697079977727555:=()
def tw6392757480206684782:=()
def tw3887325703307118533:=()
def tw8500624849268364842:=()
def tw12552023664623647548:=()
def tw2128050807271854083:=()
def tw7344019891308449051:=()
def tw10644807344490231205:=()
def tw17612382852921015596:=()
def tw2375628025528362881:=()
def tw2055877392054199264:=()
def tw5497933508593690440:=()
def tw2890799065967476859:=()
def tw8498862294431830500:=()
def tw9933239475251441031:=()
def tw1497680980803664979:=()
def tw11983491176745287618:=()
def tw13611189807336929022:=()
def tw16739407842851290282:=()
def tw14364496064198371349:=()
def tw14683987815355567577:=()
def tw7776202885897099177:=()
def tw7765760311614519751:=()
def tw11954411918986394682:=()
def tw7830038140461510604:=()
def tw10533427840056493155:=()
def tw15982027465646621131:=()
def tw14509843994022992209:=()
def tw15439477787275297460:=()
def tw18396586012164884021:=()
def tw16699897610104245353:=()
def tw2780307037457648575:=()
def tw14507176156611055287:=()
def tw193022026401512143:=()
def tw3719327359020222163:=()
def tw11669056967826095532:=()
def tw1076423261006108514:=()
def tw4870092975577266615:=()
def tw7138298754412168684:=()
def tw11154371129548622940:=()
def tw11834711309321359282:=()
def tw16278403791948775587:=()
def tw13732832980031172481:=()
def tw17291863010415286769:=()
def tw7030788890344904677:=()
def tw9875351803657840617:=()
def tw17834891310199582598:=()
def tw6253687759721388229:=()
def tw12627252825587772992:=()
def tw13270268068033335861:=()
def tw12899510188046877153:=()
def tw8129023832328914736:=()
def tw6840882955879151866:=()
def tw9333777143673921732:=()
def tw18234747920726526441:=()
def tw14527405189734302747:=()
def tw5555131563422488212:=()
def tw9276483948583850196:=()
def tw52582511425625225:=()
def tw4586554231034621413:=()
def tw16027897019480216223:=()
def tw13274072039246613272:=()
def tw14291424001391976535:=()
def tw17719283150879867441:=()
def tw6637366260472074305:=()
def tw13491161491664844917:=()
def tw12375277044857302742:=()
def tw9565049074015712746:=()
def tw9200159491586497786:=()
def tw11895026141598644110:=()
def tw1482992408178974571:=()
def tw16663226151020610587:=()
def tw3938506922822122230:=()
def tw7084277892057682252:=()
def tw1616606656211987933:=()
def tw16648835265478663552:=()
def tw13607787263608331238:=()
def tw3183177277691958461:=()
def tw13883069127649363900:=()
def tw17753332248058644624:=()
def tw10779651923423572402:=()
def tw7637055654939187941:=()
def tw212660064426945862:=()
def tw12083425568217646831:=()
def tw15351632553069273482:=()
def tw16001139708151356055:=()
def tw17779649362508053593:=()
def tw2958703674121064102:=()
def tw13582376734042352865:=()
def tw5040137520583154255:=()
def tw4342091889101163657:=()
def tw5776190738188658730:=()
def tw17927403702842601517:=()
def tw15156517603414923881:=()
def tw18330109939791099794:=()
def tw16992863093327425194:=()
def tw5639154487500561936:=()
def tw9617646059969666884:=()
def tw10912477139813943452:=()
def tw7433382445994793883:=()
def tw13710921952954084234:=()
def tw14410484976804309491:=()
def tw1988922326938362845:=()
def tw16775908695029239550:=()
def tw17130112385903015439:=()
def tw296405034656962890:=()
def tw16207889615762235205:=()
def tw14701858575845726432:=()
def tw2274881597805677965:=()
def tw13639574772459687542:=()
def tw1065054408784670775:=()
def tw1183749653133465716:=()
def tw17587453568176004002:=()
def tw10481789513771843447:=()
def tw10583532978119803728:=()
def tw8514878186541481344:=()
def tw7892585484593215689:=()
def tw16011082558278549662:=()
def tw2320816690127575791:=()
def tw13738330556341083571:=()
def tw6735104359898760859:=()
def tw346928818154145750:=()
def tw1412266377095042644:=()
def tw9707650187749323945:=()
def tw15148236485482784235:=()
def tw6164533698279241343:=()
def tw17619936955874773065:=()
def tw66868059039666915:=()
def tw17816219170013873155:=()
def tw3086198571772122031:=()
def tw5826646456664457402:=()
def tw18148406908043168995:=()
def tw1133101145139336921:=()
def tw7799145507130701591:=()
def tw17581579171594763388:=()
def tw4836283368991299536:=()
def tw2190283804002373522:=()
def tw16539304306072493857:=()
def tw193612476887186484:=()
def tw10051759500143409242:=()
def tw5949316777500358646:=()
def tw5952045049660904622:=()
def tw6608471362930175081:=()
def tw12962985134278280143:=()
def tw8070525142708209781:=()
def tw627755426496609352:=()
def tw17497751685820169415:=()
def tw15617438869979465981:=()
def tw7669008327833904923:=()
def tw7799989414942024119:=()
def tw10428368069196443142:=()
def tw14073672659622922626:=()
def tw6893616020050489898:=()
def tw8018953112615317456:=()
def tw12013829008616107491:=()
def tw15461259408283583588:=()
def tw5910981693839057110:=()
def tw16256842904899307890:=()
def tw5315829670951723785:=()
def tw679110522292791814:=()
def tw7174257623700159300:=()
def tw14807212725031579928:=()
def tw480984945986098633:=()
def tw4267556098280505587:=()
def tw9749143049450834269:=()
def tw7454486662027706290:=()
def tw14169270920448444031:=()
def tw11144127873227123312:=()
def tw12356100078267897823:=()
def tw10541442065145695215:=()
def tw1765422187953786678:=()
def tw9102192165006128237:=()
def tw1953826068162416068:=()
def tw5032650518561747136:=()
def tw14074732698144264765:=()
def tw7534686672008400904:=()
def tw15929476360679292382:=()
def tw2040391176325508327:=()
def tw13670490937844783990:=()
def tw11287179946576893529:=()
def tw16773904958920890822:=()
def tw13724926927401904860:=()
def tw17010162904798757652:=()
def tw4048726669982196928:=()
def tw11180049683313752012:=()
def tw11314016098247273582:=()
def tw14973448407441382985:=()
def tw10586449753784810705:=()
def tw14428002774893392344:=()
def tw14288731644848268796:=()
def tw10765027954781621989:=()
def tw7746283471542275317:=()
def tw15972556629971882457:=()
def tw10930614760029689319:=()
def tw201543037485283922:=()
def tw8397496744451240506:=()
def tw14751710230291767373:=()
def tw5671149279678782129:=()
def tw8090044183337848588:=()
def tw6858255174007400494:=()
def tw17228247682553512409:=()
def tw14462406911938646526:=()
def tw14970561878894838516:=()
def tw12170526507305469592:=()
def tw11618835658599889993:=()
def tw6974348260361272749:=()
def tw1969100549476574888:=()
def tw7699412740972661280:=()
def tw7266053753758053354:=()
def tw3976916088626351585:=()
def tw9831705348060333303:=()
def tw4042626255983160380:=()
def tw5858356592881775563:=()
def tw17068878268196000029:=()
def tw761313686605484899:=()
def tw5496269194677069395:=()
def tw2372675599178208315:=()
def tw4689089946146456077:=()
def tw1652403109566438739:=()
def tw14176675947850632079:=()
def tw2356726477381193819:=()
def tw10199864513004252218:=()
def tw14960969515443600215:=()
def tw6547506018204699757:=()
def tw53889316174360155:=()
def tw1570097319408924919:=()
def tw12357718945634565115:=()
def tw14283390191369178285:=()
def tw14033309153918406869:=()
def tw891299177610506538:=()
def tw2360436615903499461:=()
def tw3230837151432384824:=()
def tw16414258199859458244:=()
def tw17690389829114181922:=()
def tw17508376973518611092:=()
def tw15474008997569191301:=()
def tw6683628785063311648:=()
def tw6278623150554680204:=()
def tw14440205828433669526:=()
def tw11591726924553921893:=()
def tw11032716308212157452:=()
def tw304221054922862270:=()
def tw1984731639060514683:=()
def tw1500656798810168221:=()
def tw12681252597151565404:=()
def tw10698030161769147980:=()
def tw8049425974741612379:=()
def tw7672441452219506562:=()
def tw14137318141838281077:=()
def tw12603795971045059300:=()
def tw4147837179041206563:=()
def tw10356807662880036171:=()
def tw5220315435711300244:=()
def tw17942562672504620580:=()
def tw10884808740493742813:=()
def tw9397583478191188433:=()
def tw5430105918477907863:=()
def tw3804234018797909421:=()
def tw16949620294919411589:=()
def tw8891428829138698180:=()
def tw7626661803726572843:=()
def tw15726209412622076527:=()
def tw12535360609092680023:=()
def tw10997281716736628284:=()
def tw2746723540409262629:=()
def tw16100266493928675189:=()
def tw10661326847403174755:=()
def tw6387541644910603961:=()
def tw12076018738189358989:=()
def tw8218397191284458541:=()
def tw5865569911211194904:=()
def tw14062466588989946638:=()
def tw5651755938395869782:=()
def tw9124977474667101145:=()
def tw4375679348311489485:=()
def tw11130142800885510357:=()
def tw13703451957962916858:=()
def tw4484526312504541177:=()
def tw17413948179337021013:=()
def tw10115942404832093131:=()
def tw6924838493683642799:=()
def tw3878471870159593175:=()
def tw16388505199920153478:=()
def tw16543156657337528320:=()
def tw8195060102575124401:=()
def tw8238899931863315255:=()
def tw15914424936169789832:=()
def tw14162695923421017695:=()
def tw2870472969041725984:=()
def tw271531149120910420:=()
def tw12010478245618867735:=()
def tw543952385809843277:=()
def tw10984482544921401899:=()
def tw14710767496357474754:=()
def tw5658113671815173988:=()
def tw107250462574798632:=()
def tw6724348613188146012:=()
def tw15214067674815168436:=()
def tw8593011768252554974:=()
def tw15621379417096230881:=()
def tw9427775336174947648:=()
def tw9827857972160717054:=()
def tw3793994698691449940:=()
def tw1980373976966592661:=()
def tw14114774891923668491:=()
def tw210354355364930338:=()
def tw8238306791698720394:=()
def tw3535713735704287188:=()
def tw8367239844273317462:=()
def tw12827295369468155410:=()
def tw11024612636792287572:=()
def tw3178756524988556865:=()
def tw13715789018501039934:=()
def tw10768331094017946750:=()
def tw5667126261090685218:=()
def tw16312773763943751266:=()
def tw3374708375733164586:=()
def tw10990677354827490243:=()
def tw6326693760569961724:=()
def tw9182369310543377482:=()
def tw7301616272759558123:=()
def tw10592110016199348711:=()
def tw3079372661184804711:=()
def tw10357068473779855844:=()
def tw3311139568427762710:=()
def tw16230647596672903233:=()
def tw967787921754958610:=()
def tw12741417448354548164:=()
def tw5571997122809066357:=()
def tw4842826151092246016:=()
def tw12438271899198235639:=()
def tw11440470084674561174:=()
def tw17256345707749461411:=()
def tw6921156528553088518:=()
def tw6522152080399491019:=()
def tw17847585175579897259:=()
def tw10149057722925035542:=()
def tw5953609206409004858:=()
def tw5128943865486659173:=()
def tw3288442320438685994:=()
def tw1679632411846135049:=()
def tw16519627653477848537:=()
def tw12828560744341851572:=()
def tw7554990168338158898:=()
def tw5146245717124115316:=()
def tw16453016485577294264:=()
def tw7727972237032039481:=()
def tw5127193281427817508:=()
def tw1946139588611161064:=()
def tw18105970881277229949:=()
def tw15130222945974186499:=()
def tw7997457384653659382:=()
def tw6423183675487242752:=()
def tw2161467218189736128:=()
def tw12647915352775835011:=()
def tw2316309286380539050:=()
def tw13073927001509037268:=()
def tw5933131139930422452:=()
def tw11861018502773573469:=()
def tw7002648467085888337:=()
def tw11354843944054333906:=()
def tw1463119010132888045:=()
def tw526271458656491880:=()
def tw8702824307088485685:=()
def tw5835825516192611368:=()
def tw14111236823028767522:=()
def tw7934521963217076672:=()
def tw1717570299923922148:=()
def tw16098461724841013075:=()
def tw16914062051627475859:=()
def tw17877197295333231403:=()
def tw13958478228940135094:=()
def tw9948101739371575133:=()
def tw436497031395782385:=()
def tw18028443702350934990:=()
def tw8978579889706392728:=()
def tw4241549546145181232:=()
def tw11166571078228187553:=()
def tw13993517713182761176:=()
def tw5363591708517716938:=()
def tw15305786010476906622:=()
def tw10542963867375441618:=()
end PySem.W.Fast
open PySem PySem.W PyProof.Rows
set_option maxRecDepth 100000 in
set_option maxHeartbeats 0 in
theorem PySem.Challenge.cw_calmring_k49_whole_falls_whoever_is_give_holds : PySem.Challenge.rw_calmring_k49_whole_falls_whoever_is_give.Holds := by
 w_on;o_law;k_head;(case hw=>w_witness2)
 k_fill
 refine PR.xM (l:=PySem.Challenge.rw_calmring_k49_whole_falls_whoever_is_give) (k:=11) (x := "_law_script") rfl rfl ⟨rfl,by decide,by decide⟩ (fun w h Y=>PySem.W.kIn_of Y) ?F
 case F =>
  intro w mg fa h KX G hmg
  refine' _root_.G.fin (_root_.PR.Tx.of KX G _root_.G.hb _root_.G.hs ?a ?b ?c ?d ?e ?f ?g) hmg
  (case a=>exact fun z=>nomatch z)
  (case b=>exact fun z=>nomatch z)
  (case c=>exact fun z=>nomatch z)
  (case d=>kernel_rfl)
  (case e=>kernel_rfl)
  (case f=>kernel_rfl)
  (case g=>kernel_rfl)
